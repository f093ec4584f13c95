/- Transducers as plain data: an arc of five numbers, a transducer; the order of arcs; what Check says. -/
import Derived.Lib.Join
import Derived.Lib.ItoaLen
import Derived.Lib.UnsafeStr
import Derived.OrdersHeld
import Derived.Deep.RegionHeld
import Derived.Deep.DrawnRows
namespace Go.Proofs.Yteehgcbjmdideaa

structure ArcD where
  src : Int
  inp : Int
  out : Int
  dst : Int
  wt : Int

structure FstD where
  states : Int
  start : Int
  final : List Int
  arcs : List ArcD

/-- an arc of noughts -/
def a0 : ArcD := ⟨0, 0, 0, 0, 0⟩

def decA (x y : ArcD) : Decidable (x = y) :=
  decidable_of_iff (x.src = y.src ∧ x.inp = y.inp ∧ x.out = y.out ∧ x.dst = y.dst ∧ x.wt = y.wt) (by cases x; cases y; simp)
def decAs (x y : List ArcD) : Decidable (x = y) := @instDecidableEqList ArcD decA x y

def inB (n a b : Int) : Bool := decide (a ≤ n) && decide (n ≤ b)
def cmpI (a b : Int) : Int := if a < b then -1 else if b < a then 1 else 0
def orI (xs : List Int) : Int := (xs.find? (· != 0)).getD 0
def cmpArc (a b : ArcD) : Int := orI [cmpI a.src b.src, cmpI a.inp b.inp, cmpI a.out b.out, cmpI a.dst b.dst]

/-- does one arc stand ahead of another one? -/
def aheadB (a b : ArcD) : Bool :=
  if a.src ≠ b.src then decide (a.src < b.src) else if a.inp ≠ b.inp then decide (a.inp < b.inp) else if a.out ≠ b.out then decide (a.out < b.out) else decide (a.dst < b.dst)

theorem cmpI_neg (a b : Int) : cmpI a b < 0 ↔ a < b := by unfold cmpI; split <;> (try split) <;> omega
theorem cmpI_zero (a b : Int) : cmpI a b = 0 ↔ a = b := by unfold cmpI; split <;> (try split) <;> omega

theorem cmpArc_ahead (a b : ArcD) : decide (0 ≤ cmpArc a b) = !aheadB a b := by
  unfold cmpArc orI aheadB
  have h0 := cmpI_zero a.src b.src
  have h1 := cmpI_zero a.inp b.inp
  have h2 := cmpI_zero a.out b.out
  have h3 := cmpI_zero a.dst b.dst
  have n0 := cmpI_neg a.src b.src
  have n1 := cmpI_neg a.inp b.inp
  have n2 := cmpI_neg a.out b.out
  have n3 := cmpI_neg a.dst b.dst
  generalize cmpI a.src b.src = c0 at *
  generalize cmpI a.inp b.inp = c1 at *
  generalize cmpI a.out b.out = c2 at *
  generalize cmpI a.dst b.dst = c3 at *
  by_cases e0 : c0 = 0
  · by_cases e1 : c1 = 0
    · by_cases e2 : c2 = 0
      · by_cases e3 : c3 = 0
        · simp [e0, e1, e2, e3, h0.1 e0, h1.1 e1, h2.1 e2, h3.1 e3]
        · have e3' : (c3 == 0) = false := by simpa using e3
          simp [List.find?, e0, e1, e2, bne, e3', h0.1 e0, h1.1 e1, h2.1 e2]
          rw [Bool.eq_iff_iff]; simp; omega
      · have e2' : (c2 == 0) = false := by simpa using e2
        simp [List.find?, e0, e1, bne, e2', h0.1 e0, h1.1 e1, mt h2.2 e2]
        rw [Bool.eq_iff_iff]; simp; omega
    · have e1' : (c1 == 0) = false := by simpa using e1
      simp [List.find?, e0, bne, e1', h0.1 e0, mt h1.2 e1]
      rw [Bool.eq_iff_iff]; simp; omega
  · have e0' : (c0 == 0) = false := by simpa using e0
    simp [List.find?, bne, e0', mt h0.2 e0]
    rw [Bool.eq_iff_iff]; simp; omega

/-- what is told of one arc, p the one ahead of it -/
def arcErr (st : Int) (p : Option ArcD) (a : ArcD) : Int :=
  if !inB a.src 0 (st - 1) || !inB a.dst 0 (st - 1) then 5
  else if !inB a.inp 0 9 || !inB a.out 0 9 || !inB a.wt 0 1000000000 then 3
  else match p with
    | some q => if aheadB q a then 0 else 4
    | none => 0

def arcsErr (st : Int) : Option ArcD → List ArcD → Int
  | _, [] => 0
  | p, a :: l => if arcErr st p a = 0 then arcsErr st (some a) l else arcErr st p a

def finB (x : Int) : Bool := (x != -1) && !(inB x 0 1000000000)

def checkD (f : FstD) : Int :=
  if !inB f.states 1 200 then 3
  else if !inB f.start 0 (f.states - 1) then 5
  else if (f.final.length : Int) ≠ f.states then 1
  else if f.final.any finB then 3
  else if 3000 < f.arcs.length then 2
  else arcsErr f.states none f.arcs

/-- the arc ahead of place k -/
def prevA (l : List ArcD) (k : Nat) : Option ArcD := if k = 0 then none else l[k - 1]?

theorem arcsErr_from (st : Int) (l : List ArcD) (k : Nat) (hk : k ≤ l.length) (h : ∀ j, j < k → arcErr st (prevA l j) (l.getD j a0) = 0) : arcsErr st none l = arcsErr st (prevA l k) (l.drop k) := by
  induction k with
  | zero => simp [prevA]
  | succ k ih =>
    rw [ih (by omega) (fun j hj => h j (by omega))]
    have hk' : k < l.length := by omega
    have e := h k (by omega)
    have hg : l.getD k a0 = l[k] := by simp [List.getD, hk']
    rw [hg] at e
    rw [List.drop_eq_getElem_cons hk', arcsErr, if_pos e]
    simp [prevA, hk']

theorem arcsErr_hit (st : Int) (l : List ArcD) (k : Nat) (hk : k < l.length) (h : ∀ j, j < k → arcErr st (prevA l j) (l.getD j a0) = 0) (he : arcErr st (prevA l k) (l.getD k a0) ≠ 0) :
    arcsErr st none l = arcErr st (prevA l k) (l.getD k a0) := by
  rw [arcsErr_from st l k (by omega) h, List.drop_eq_getElem_cons hk]
  have hg : l.getD k a0 = l[k] := by simp [List.getD, hk]
  rw [hg] at he ⊢
  rw [arcsErr, if_neg he]

theorem arcsErr_bad (st : Int) (l : List ArcD) (k : Nat) (a : ArcD) (v : Int) (hk : k < l.length) (h : ∀ j, j < k → arcErr st (prevA l j) (l.getD j a0) = 0) (ha : a = l.getD k a0) (he : arcErr st (prevA l k) a = v) (hv : v ≠ 0) :
    arcsErr st none l = v := by
  subst ha; subst he; exact arcsErr_hit st l k hk h hv

theorem arcsErr_on (st : Int) (l : List ArcD) (k : Nat) (a : ArcD) (h : ∀ j, j < k → arcErr st (prevA l j) (l.getD j a0) = 0) (ha : a = l.getD k a0) (he : arcErr st (prevA l k) a = 0) :
    ∀ j, j < k + 1 → arcErr st (prevA l j) (l.getD j a0) = 0 := by
  subst ha
  intro j hj
  by_cases e : j = k
  · subst e; exact he
  · exact h j (by omega)

theorem prevA_zero (l : List ArcD) (k : Nat) (h : (k : Int) ≤ 0) : prevA l k = none := by
  have : k = 0 := by omega
  simp [prevA, this]

theorem prevA_pos (l : List ArcD) (k : Nat) (p : ArcD) (h : 0 < k) (hk : k < l.length) (hp : p = l.getD (k - 1) a0) : prevA l k = some p := by
  have : k ≠ 0 := by omega
  subst hp
  simp [prevA, this, List.getD, show k - 1 < l.length by omega]

theorem arcsErr_miss (st : Int) (l : List ArcD) (h : ∀ j, j < l.length → arcErr st (prevA l j) (l.getD j a0) = 0) : arcsErr st none l = 0 := by
  rw [arcsErr_from st l l.length (Nat.le_refl _) h, List.drop_length, arcsErr]

end Go.Proofs.Yteehgcbjmdideaa

/- The least that it costs to come to a state along edges: what both the program's search and the document's rounds reckon. -/
namespace Go.Proofs.Yteehgcbjmdideaa

structure Edg where
  u : Nat
  v : Nat
  w : Int

def gI (c : List Int) (v : Nat) : Int := c.getD v (-1)

/-- a way of so many edges to v that costs x -/
def WayN (E : List Edg) (b : List Int) : Nat → Nat → Int → Prop
  | 0, v, x => gI b v = x ∧ 0 ≤ x
  | h + 1, v, x => ∃ e ∈ E, e.v = v ∧ ∃ c, WayN E b h e.u c ∧ x = c + e.w

/-- x is what it costs at least to come to v, or -1 -/
def IsLeast (E : List Edg) (b : List Int) (v : Nat) (x : Int) : Prop :=
  (x = -1 ∧ ∀ h c, ¬ WayN E b h v c) ∨ (0 ≤ x ∧ (∃ h, WayN E b h v x) ∧ ∀ h c, WayN E b h v c → x ≤ c)

section
variable {E : List Edg} {b : List Int}

theorem WayN.nonneg (hw : ∀ e ∈ E, 0 ≤ e.w) {h v : Nat} {x : Int} (H : WayN E b h v x) : 0 ≤ x := by
  induction h generalizing v x with
  | zero => exact H.2
  | succ h ih =>
    obtain ⟨e, he, _, c, hc, rfl⟩ := H
    have := ih hc
    have := hw e he
    omega

theorem IsLeast.unique {v : Nat} {x y : Int} (hx : IsLeast E b v x) (hy : IsLeast E b v y) : x = y := by
  rcases hx with ⟨rfl, h1⟩ | ⟨h0, ⟨h, hx⟩, h1⟩
  · rcases hy with ⟨rfl, _⟩ | ⟨_, ⟨h, hy⟩, _⟩
    · rfl
    · exact absurd hy (h1 h _)
  · rcases hy with ⟨_, h2⟩ | ⟨_, ⟨k, hy⟩, h2⟩
    · exact absurd hx (h2 h _)
    · have := h1 k _ hy
      have := h2 h _ hx
      omega

/-- among numbers that are not below nought there is a least one -/
theorem least_of (p : Int → Prop) (hp : ∀ x, p x → 0 ≤ x) (h : ∃ x, p x) : ∃ x, p x ∧ ∀ y, p y → x ≤ y := by
  obtain ⟨x, hx⟩ := h
  have key : ∀ n : Nat, ∀ x : Int, p x → x.toNat ≤ n → ∃ x, p x ∧ ∀ y, p y → x ≤ y := by
    intro n
    induction n with
    | zero =>
      intro x hx hn
      refine ⟨x, hx, fun y hy => ?_⟩
      have := hp x hx
      have := hp y hy
      omega
    | succ n ih =>
      intro x hx hn
      by_cases hl : ∃ y, p y ∧ y < x
      · obtain ⟨y, hy, hyx⟩ := hl
        have := hp y hy
        exact ih y hy (by omega)
      · refine ⟨x, hx, fun y hy => ?_⟩
        by_cases hyx : y < x
        · exact absurd ⟨y, hy, hyx⟩ hl
        · omega
  exact key x.toNat x hx (Nat.le_refl _)

theorem least_exists (hw : ∀ e ∈ E, 0 ≤ e.w) (v : Nat) : ∃ x, IsLeast E b v x := by
  by_cases h : ∃ x h, WayN E b h v x
  · obtain ⟨x, ⟨h, hx⟩, hl⟩ := least_of (fun x => ∃ h, WayN E b h v x) (fun x ⟨h, hx⟩ => hx.nonneg hw) h
    exact ⟨x, Or.inr ⟨hx.nonneg hw, ⟨h, hx⟩, fun k c hc => hl c ⟨k, hc⟩⟩⟩
  · exact ⟨-1, Or.inl ⟨rfl, fun k c hc => h ⟨c, k, hc⟩⟩⟩

/-- each price is that of a way, or there is none -/
def Ach (E : List Edg) (b c : List Int) : Prop := ∀ v, gI c v = -1 ∨ ∃ h, WayN E b h v (gI c v)
/-- no price is worse than another one -/
def Le1 (x y : Int) : Prop := 0 ≤ y → 0 ≤ x ∧ x ≤ y
def LeC (c d : List Int) : Prop := ∀ v, Le1 (gI c v) (gI d v)
/-- no edge makes a price better -/
def Fix (E : List Edg) (c : List Int) : Prop := ∀ e ∈ E, 0 ≤ gI c e.u → 0 ≤ gI c e.v ∧ gI c e.v ≤ gI c e.u + e.w

theorem fix_le {c : List Int} (hb : LeC c b) (hf : Fix E c) {h v : Nat} {x : Int} (H : WayN E b h v x) : 0 ≤ gI c v ∧ gI c v ≤ x := by
  induction h generalizing v x with
  | zero => obtain ⟨rfl, h0⟩ := H; exact hb v h0
  | succ h ih =>
    obtain ⟨e, he, rfl, y, hy, rfl⟩ := H
    obtain ⟨h1, h2⟩ := ih hy
    obtain ⟨h3, h4⟩ := hf e he h1
    exact ⟨h3, by omega⟩

theorem fix_least {c : List Int} (hw : ∀ e ∈ E, 0 ≤ e.w) (ha : Ach E b c) (hb : LeC c b) (hf : Fix E c) (v : Nat) : IsLeast E b v (gI c v) := by
  rcases ha v with h | ⟨h, hx⟩
  · refine Or.inl ⟨h, fun k y hy => ?_⟩
    have := (fix_le hb hf hy).1
    omega
  · exact Or.inr ⟨hx.nonneg hw, ⟨h, hx⟩, fun k y hy => (fix_le hb hf hy).2⟩

/-- what the one round makes of prices: no worse, of ways, and along each edge at least as good as before it -/
structure Round (E : List Edg) (b c d : List Int) : Prop where
  ach : Ach E b d
  le : LeC d c
  edge : ∀ e ∈ E, 0 ≤ gI c e.u → 0 ≤ gI d e.v ∧ gI d e.v ≤ gI c e.u + e.w

/-- is v's price the least one already? -/
def Done (E : List Edg) (b c : List Int) (v : Nat) : Prop := IsLeast E b v (gI c v)

theorem done_of_le {c : List Int} (ha : Ach E b c) {v : Nat} {x : Int} (hx : IsLeast E b v x) (h : Le1 (gI c v) x) (hn : x = -1 → gI c v = -1) : Done E b c v := by
  unfold Done
  have e : gI c v = x := by
    rcases hx with ⟨rfl, h1⟩ | ⟨h0, _, h2⟩
    · exact hn rfl
    · obtain ⟨h3, h4⟩ := h h0
      rcases ha v with h5 | ⟨k, h5⟩
      · omega
      · have := h2 k _ h5; omega
  rw [e]; exact hx

theorem ach_none {c : List Int} (ha : Ach E b c) {v : Nat} (h : ∀ k y, ¬ WayN E b k v y) : gI c v = -1 := by
  rcases ha v with h1 | ⟨k, h1⟩
  · exact h1
  · exact absurd h1 (h k _)

theorem Done.next {c d : List Int} {v : Nat} (h : Done E b c v) (hr : Round E b c d) : Done E b d v := by
  refine done_of_le hr.ach h (hr.le v) (fun e => ?_)
  rcases h with ⟨_, h1⟩ | ⟨h0, _⟩
  · exact ach_none hr.ach h1
  · omega

/-- a round that makes no new price the least one: all were -/
theorem all_done {c d : List Int} (hw : ∀ e ∈ E, 0 ≤ e.w) (hac : Ach E b c) (hbc : LeC c b) (hr : Round E b c d) (hno : ∀ v, Done E b d v → Done E b c v) (v : Nat) : Done E b c v := by
  have key : ∀ h v x, WayN E b h v x → IsLeast E b v x → Done E b c v := by
    intro h
    induction h with
    | zero =>
      intro v x H hx
      obtain ⟨rfl, h0⟩ := H
      exact done_of_le hac hx (hbc v) (fun e => by omega)
    | succ h ih =>
      intro v x H hx
      obtain ⟨e, he, rfl, y, hy, rfl⟩ := H
      have hy0 := hy.nonneg hw
      have hwe := hw e he
      have hly : IsLeast E b e.u y := by
        refine Or.inr ⟨hy0, ⟨h, hy⟩, fun k z hz => ?_⟩
        rcases hx with ⟨hx, _⟩ | ⟨_, _, hx⟩
        · omega
        · have := hx (k + 1) (z + e.w) ⟨e, he, rfl, z, hz, rfl⟩
          omega
      have hdu := ih e.u y hy hly
      have hcu : gI c e.u = y := IsLeast.unique hdu hly
      apply hno
      obtain ⟨h1, h2⟩ := hr.edge e he (by omega)
      exact done_of_le hr.ach hx (fun _ => ⟨h1, by omega⟩) (fun hh => by omega)
  obtain ⟨x, hx⟩ := least_exists (b := b) hw v
  rcases hx with ⟨rfl, h1⟩ | ⟨h0, ⟨k, hk⟩, h2⟩
  · exact Or.inl ⟨ach_none hac h1, h1⟩
  · exact key k v x hk (Or.inr ⟨h0, ⟨k, hk⟩, h2⟩)

theorem filter_le (a : Nat) (l : List Nat) (hn : l.Nodup) : l.length ≤ (l.filter (· != a)).length + 1 := by
  induction l with
  | nil => simp
  | cons x l ih =>
    obtain ⟨hx, hl⟩ := List.nodup_cons.1 hn
    by_cases e : x = a
    · subst e
      have : l.filter (· != x) = l := List.filter_eq_self.2 fun y hy => by
        simp only [bne_iff_ne, ne_eq]
        intro h; subst h; exact hx hy
      simp [this]
    · have := ih hl
      simp [e]; omega

theorem nodup_le (n : Nat) (l : List Nat) (hn : l.Nodup) (hl : ∀ x ∈ l, x < n) : l.length ≤ n := by
  induction n generalizing l with
  | zero =>
    cases l with
    | nil => simp
    | cons x l => exact absurd (hl x (by simp)) (by omega)
  | succ n ih =>
    have h1 := filter_le n l hn
    have h2 := ih (l.filter (· != n)) (hn.filter _) (fun x hx => by
      obtain ⟨h3, h4⟩ := List.mem_filter.1 hx
      have := hl x h3
      simp at h4
      omega)
    omega

/-- as many rounds as there are states: all prices are the least ones -/
theorem rounds_least (n : Nat) (cs : Nat → List Int) (hw : ∀ e ∈ E, 0 ≤ e.w) (hout : ∀ v h x, WayN E b h v x → v < n) (ha : Ach E b (cs 0)) (hb : LeC (cs 0) b) (hr : ∀ r, r < n → Round E b (cs r) (cs (r + 1))) (v : Nat) : IsLeast E b v (gI (cs n) v) := by
  have hach : ∀ r, r ≤ n → Ach E b (cs r) := by
    intro r
    induction r with
    | zero => intro _; exact ha
    | succ r _ => intro h; exact (hr r (by omega)).ach
  have hle : ∀ r, r ≤ n → LeC (cs r) b := by
    intro r
    induction r with
    | zero => intro _; exact hb
    | succ r ih =>
      intro h v h0
      obtain ⟨h1, h2⟩ := ih (by omega) v h0
      obtain ⟨h3, h4⟩ := (hr r (by omega)).le v h1
      exact ⟨h3, by omega⟩
  have hfar : ∀ r, r ≤ n → ∀ v, ¬ v < n → Done E b (cs r) v := by
    intro r h v hv
    have hno : ∀ k y, ¬ WayN E b k v y := fun k y hy => hv (hout v k y hy)
    exact Or.inl ⟨ach_none (hach r h) hno, hno⟩
  have key : ∀ r, r ≤ n → (∀ v, Done E b (cs r) v) ∨ ∃ l : List Nat, l.Nodup ∧ l.length = r ∧ ∀ x ∈ l, x < n ∧ Done E b (cs r) x := by
    intro r
    induction r with
    | zero => intro _; exact Or.inr ⟨[], by simp⟩
    | succ r ih =>
      intro h
      have hR := hr r (by omega)
      rcases ih (by omega) with hd | ⟨l, hl1, hl2, hl3⟩
      · exact Or.inl fun v => (hd v).next hR
      · by_cases hno : ∀ v, Done E b (cs (r + 1)) v → Done E b (cs r) v
        · exact Or.inl fun v => (all_done hw (hach r (by omega)) (hle r (by omega)) hR hno v).next hR
        · right
          obtain ⟨v, hv⟩ := Classical.not_forall.1 hno
          obtain ⟨h1, h2⟩ := Classical.not_imp.1 hv
          have hvn : v < n := by
            by_cases hh : v < n
            · exact hh
            · exact absurd (hfar r (by omega) v hh) h2
          refine ⟨v :: l, List.nodup_cons.2 ⟨fun hm => h2 (hl3 v hm).2, hl1⟩, by simp [hl2], fun x hx => ?_⟩
          rcases List.mem_cons.1 hx with rfl | hx
          · exact ⟨hvn, h1⟩
          · exact ⟨(hl3 x hx).1, (hl3 x hx).2.next hR⟩
  rcases key n (Nat.le_refl _) with h | ⟨l, hl1, hl2, hl3⟩
  · exact h v
  · by_cases hv : v < n
    · by_cases hm : v ∈ l
      · exact (hl3 v hm).2
      · have := nodup_le n (v :: l) (List.nodup_cons.2 ⟨hm, hl1⟩) (fun x hx => by
          rcases List.mem_cons.1 hx with rfl | hx
          · exact hv
          · exact (hl3 x hx).1)
        simp at this; omega
    · exact hfar n (Nat.le_refl _) v hv

/-- two lists of the least prices are the same -/
theorem least_same {c d : List Int} (hl : c.length = d.length) (hc : ∀ v, IsLeast E b v (gI c v)) (hd : ∀ v, IsLeast E b v (gI d v)) : c = d := by
  apply List.ext_getElem hl
  intro i h1 h2
  have := IsLeast.unique (hc i) (hd i)
  simpa [gI, List.getD, h1, h2] using this

end
end Go.Proofs.Yteehgcbjmdideaa

/- One edge after the other: what a round makes of prices. -/
namespace Go.Proofs.Yteehgcbjmdideaa

def plusC (a w : Int) : Int := if a < 0 ∨ w < 0 then -1 else a + w
def lessC (a b : Int) : Int := if a < 0 then b else if b < 0 ∨ a < b then a else b

/-- along one edge -/
def relE (c : List Int) (e : Edg) : List Int := c.set e.v (lessC (gI c e.v) (plusC (gI c e.u) e.w))
def relAll (L : List Edg) (c : List Int) : List Int := L.foldl relE c

theorem relE_len (c : List Int) (e : Edg) : (relE c e).length = c.length := by simp [relE]
theorem relAll_len (L : List Edg) (c : List Int) : (relAll L c).length = c.length := by
  unfold relAll
  induction L generalizing c with
  | nil => rfl
  | cons e L ih => rw [List.foldl_cons, ih, relE_len]

theorem gI_set (c : List Int) (i v : Nat) (x : Int) (hi : i < c.length) : gI (c.set i x) v = if v = i then x else gI c v := by
  unfold gI
  by_cases h : v = i
  · subst h; simp [List.getD, hi]
  · have h' : ¬ i = v := fun e => h e.symm
    simp [List.getD, h, h']

section
variable {E : List Edg} {b : List Int}

theorem relE_ach {c : List Int} {e : Edg} (he : e ∈ E) (hv : e.v < c.length) (ha : Ach E b c) : Ach E b (relE c e) := by
  intro v
  unfold relE
  rw [gI_set _ _ _ _ hv]
  split
  · rename_i h
    subst h
    have hnew : plusC (gI c e.u) e.w = -1 ∨ ∃ h, WayN E b h e.v (plusC (gI c e.u) e.w) := by
      unfold plusC
      split
      · exact Or.inl rfl
      · rename_i h
        right
        rcases ha e.u with hu | ⟨k, hu⟩
        · exact absurd (Or.inl (by omega)) h
        · exact ⟨k + 1, e, he, rfl, gI c e.u, hu, rfl⟩
    unfold lessC
    split
    · exact hnew
    · split
      · exact ha e.v
      · exact hnew
  · exact ha v

theorem relE_le (c : List Int) (e : Edg) (hv : e.v < c.length) : LeC (relE c e) c := by
  intro v h0
  unfold relE
  rw [gI_set _ _ _ _ hv]
  split
  · rename_i h
    subst h
    unfold lessC
    split
    · omega
    · split
      · exact ⟨h0, Int.le_refl _⟩
      · rename_i h; omega
  · exact ⟨h0, Int.le_refl _⟩

theorem relE_edge (c : List Int) (e : Edg) (hv : e.v < c.length) (hw : 0 ≤ e.w) (h0 : 0 ≤ gI c e.u) : 0 ≤ gI (relE c e) e.v ∧ gI (relE c e) e.v ≤ gI c e.u + e.w := by
  unfold relE
  rw [gI_set _ _ _ _ hv, if_pos rfl]
  have hp : plusC (gI c e.u) e.w = gI c e.u + e.w := by unfold plusC; rw [if_neg (by omega)]
  rw [hp]
  unfold lessC
  split
  · omega
  · split
    · omega
    · omega

theorem LeC.trans {a c d : List Int} (h : LeC a c) (k : LeC c d) : LeC a d := by
  intro v h0
  obtain ⟨h1, h2⟩ := k v h0
  obtain ⟨h3, h4⟩ := h v h1
  exact ⟨h3, by omega⟩
theorem LeC.refl (c : List Int) : LeC c c := fun _ h => ⟨h, Int.le_refl _⟩

theorem relAll_round (L : List Edg) (c : List Int) (hL : ∀ e ∈ L, e ∈ E) (hE : ∀ e ∈ E, e.v < c.length ∧ 0 ≤ e.w) (ha : Ach E b c) :
    Ach E b (relAll L c) ∧ LeC (relAll L c) c ∧ ∀ e ∈ L, 0 ≤ gI c e.u → 0 ≤ gI (relAll L c) e.v ∧ gI (relAll L c) e.v ≤ gI c e.u + e.w := by
  induction L generalizing c with
  | nil => exact ⟨ha, LeC.refl _, by simp⟩
  | cons x L ih =>
    have hx := hL x (by simp)
    obtain ⟨hxv, hxw⟩ := hE x hx
    have h1 := ih (relE c x) (fun e he => hL e (by simp [he])) (by simpa [relE_len] using hE) (relE_ach hx hxv ha)
    have hle := relE_le c x hxv
    show Ach E b (relAll L (relE c x)) ∧ LeC (relAll L (relE c x)) c ∧ _
    refine ⟨h1.1, h1.2.1.trans hle, fun e he h0 => ?_⟩
    rcases List.mem_cons.1 he with rfl | he
    · obtain ⟨h2, h3⟩ := relE_edge c e hxv hxw h0
      obtain ⟨h4, h5⟩ := h1.2.1 e.v h2
      exact ⟨h4, by show gI (relAll L (relE c e)) e.v ≤ _; omega⟩
    · obtain ⟨h2, h3⟩ := hle e.u h0
      obtain ⟨h4, h5⟩ := h1.2.2 e he h2
      exact ⟨h4, by show gI (relAll L (relE c x)) e.v ≤ _; omega⟩

/-- the document's rounds -/
def rounds (L : List Edg) (c : List Int) : Nat → List Int
  | 0 => c
  | r + 1 => relAll L (rounds L c r)

theorem rounds_len (L : List Edg) (c : List Int) (r : Nat) : (rounds L c r).length = c.length := by
  induction r with
  | zero => rfl
  | succ r ih => rw [rounds, relAll_len, ih]

theorem way_lt (hE : ∀ e ∈ E, e.v < b.length) {h v : Nat} {x : Int} (H : WayN E b h v x) : v < b.length := by
  cases h with
  | zero =>
    obtain ⟨rfl, h0⟩ := H
    by_cases hv : v < b.length
    · exact hv
    · simp [gI, List.getD, hv] at h0
  | succ h => obtain ⟨e, he, rfl, _⟩ := H; exact hE e he

/-- as many rounds as there are states give the least prices, in whatever order the edges are gone by -/
theorem rounds_are (L : List Edg) (hL : ∀ e, e ∈ L ↔ e ∈ E) (hE : ∀ e ∈ E, e.v < b.length ∧ 0 ≤ e.w) (hb : ∀ v, gI b v = -1 ∨ 0 ≤ gI b v) (v : Nat) : IsLeast E b v (gI (rounds L b b.length) v) := by
  have ha0 : Ach E b b := fun v => (hb v).imp id fun h => ⟨0, rfl, h⟩
  have hach : ∀ r, Ach E b (rounds L b r) := by
    intro r
    induction r with
    | zero => exact ha0
    | succ r ih => exact (relAll_round L (rounds L b r) (fun e he => (hL e).1 he) (by simpa [rounds_len] using hE) ih).1
  refine rounds_least b.length (rounds L b) (fun e he => (hE e he).2) (fun v h x H => way_lt (fun e he => (hE e he).1) H) ha0 (LeC.refl _) (fun r _ => ?_) v
  obtain ⟨h1, h2, h3⟩ := relAll_round (b := b) L (rounds L b r) (fun e he => (hL e).1 he) (by simpa [rounds_len] using hE) (hach r)
  exact ⟨h1, h2, fun e he => h3 e ((hL e).2 he)⟩

end

/-- is the first price the better one? -/
def betterB (a b : Int) : Bool := (a != -1) && ((b == -1) || decide (a < b))

/-- the program's step along one edge -/
def progE (c : List Int) (e : Edg) : List Int := if betterB (plusC (gI c e.u) e.w) (gI c e.v) then c.set e.v (plusC (gI c e.u) e.w) else c

theorem set_same (c : List Int) (v : Nat) : c.set v (gI c v) = c := by
  by_cases h : v < c.length
  · apply List.ext_getElem (by simp)
    intro i h1 h2
    rw [List.getElem_set]
    split
    · rename_i e; subst e; simp [gI, List.getD, h]
    · rfl
  · exact List.set_eq_of_length_le (by omega)

theorem progE_eq (c : List Int) (e : Edg) (hc : ∀ v, -1 ≤ gI c v) : progE c e = relE c e := by
  have hv := hc e.v
  have hp : -1 ≤ plusC (gI c e.u) e.w := by
    unfold plusC; split
    · omega
    · omega
  unfold progE relE betterB lessC
  generalize plusC (gI c e.u) e.w = p at *
  by_cases h1 : p = -1
  · subst h1
    by_cases h2 : gI c e.v < 0
    · have : gI c e.v = -1 := by omega
      simp only [bne_self_eq_false, Bool.false_and, Bool.false_eq_true, if_false, h2, if_true]
      rw [← this, set_same]
    · simp [h2, set_same]
  · have hp0 : ¬ p < 0 := by omega
    by_cases h2 : gI c e.v = -1
    · simp [h1, h2]
    · have h2' : ¬ gI c e.v < 0 := by omega
      by_cases h3 : p < gI c e.v
      · have : ¬ gI c e.v < p := by omega
        simp [h1, h3, h2', hp0, this]
      · by_cases h4 : gI c e.v < p
        · simp [h1, h2, h3, h2', h4, set_same]
        · have : p = gI c e.v := by omega
          simp [h2', this, set_same]

theorem fix_of (E : List Edg) (c : List Int) (hw : ∀ e ∈ E, 0 ≤ e.w) (hc : ∀ v, -1 ≤ gI c v) (h : ∀ e ∈ E, betterB (plusC (gI c e.u) e.w) (gI c e.v) = false) : Fix E c := by
  intro e he h0
  have h1 := h e he
  have hp : plusC (gI c e.u) e.w = gI c e.u + e.w := by have := hw e he; unfold plusC; rw [if_neg (by omega)]
  have hwe := hw e he
  have hv := hc e.v
  rw [hp] at h1
  unfold betterB at h1
  have hne : (gI c e.u + e.w != -1) = true := by simp; omega
  rw [hne, Bool.true_and, Bool.or_eq_false_iff] at h1
  have h2 : gI c e.v ≠ -1 := by simpa using h1.1
  have h3 : ¬ gI c e.u + e.w < gI c e.v := by simpa using h1.2
  omega

end Go.Proofs.Yteehgcbjmdideaa

/- The program's search: what stays true of prices, and of the arcs that they came by, from one step to the next. -/
namespace Go.Proofs.Yteehgcbjmdideaa

/-- how much a price can still fall -/
def muI (x : Int) : Nat := if x < 0 then 1000000000000000 else x.toNat
def muL (c : List Int) : Nat := (c.map muI).sum
/-- how many prices there are -/
def metL (c : List Int) : Nat := (c.map fun x => if x < 0 then 0 else 1).sum

theorem sum_set (f : Int → Nat) (c : List Int) (v : Nat) (x : Int) (hv : v < c.length) : ((c.set v x).map f).sum + f (gI c v) = (c.map f).sum + f x := by
  induction c generalizing v with
  | nil => simp at hv
  | cons y c ih =>
    cases v with
    | zero => simp [gI, List.getD]; omega
    | succ v =>
      have := ih v (by simpa using hv)
      have e : gI (y :: c) (v + 1) = gI c v := by simp [gI, List.getD]
      rw [e]
      simp only [List.set_cons_succ, List.map_cons, List.sum_cons]
      omega

theorem metL_le (c : List Int) : metL c ≤ c.length := by
  unfold metL
  induction c with
  | nil => simp
  | cons x c ih =>
    simp only [List.map_cons, List.sum_cons, List.length_cons]
    split <;> omega

/-- by which arc each price came: none, and it is what it was at the beginning; or it is no better than by that arc, and if it is just that, the arc's price came first -/
def ByOk (E : List Edg) (b c y : List Int) (r : Nat → Nat) : Prop :=
  ∀ v, v < c.length → (gI y v = -1 ∧ gI c v = gI b v) ∨ ∃ (j : Nat) (e : Edg), gI y v = j ∧ E[j]? = some e ∧ e.v = v ∧ 0 ≤ gI c e.u ∧ 0 ≤ gI c v ∧ gI c e.u + e.w ≤ gI c v ∧ (gI c e.u + e.w = gI c v → r e.u < r v)

/-- what stays true -/
structure Inv (E : List Edg) (b c y : List Int) : Prop where
  len : c.length = b.length
  ylen : y.length = b.length
  ach : Ach E b c
  le : LeC c b
  lo : ∀ v, -1 ≤ gI c v
  hi : ∀ v, gI c v ≤ 1000000000 * (1 + (metL c : Int))
  by_ : ∃ r R, (∀ x, r x ≤ R) ∧ ByOk E b c y r

section
variable {E : List Edg} {b c y : List Int}

theorem Inv.top (h : Inv E b c y) (hn : b.length ≤ 200) (v : Nat) : gI c v ≤ 201000000000 := by
  have h1 := h.hi v
  have h2 := metL_le c
  have h3 := h.len
  omega

theorem Inv.topK (h : Inv E b c y) (hn : b.length ≤ 400000) (v : Nat) : gI c v ≤ 400001000000000 := by
  have h1 := h.hi v
  have h2 := metL_le c
  have h3 := h.len
  omega

theorem Inv.start (hb : ∀ v, gI b v = -1 ∨ 0 ≤ gI b v) (hm : ∀ v, gI b v ≤ 1000000000) : Inv E b b (List.replicate b.length (-1)) where
  len := rfl
  ylen := by simp
  ach := fun v => (hb v).imp id fun h => ⟨0, rfl, h⟩
  le := LeC.refl _
  lo := fun v => by rcases hb v with h | h <;> omega
  hi := fun v => by have := hm v; omega
  by_ := ⟨fun _ => 0, 0, fun _ => Nat.le_refl _, fun v hv => Or.inl ⟨by simp [gI, List.getD, hv], rfl⟩⟩

theorem better_iff {a d : Int} (ha : -1 ≤ a) (hd : -1 ≤ d) : betterB a d = true ↔ 0 ≤ a ∧ (d = -1 ∨ a < d) := by
  unfold betterB
  simp only [Bool.and_eq_true, bne_iff_ne, ne_eq, Bool.or_eq_true, beq_iff_eq, decide_eq_true_eq]
  omega

theorem plusC_lo (a w : Int) : -1 ≤ plusC a w := by
  unfold plusC; split
  · omega
  · omega

/-- a step along an edge that makes a price better -/
theorem Inv.step {j : Nat} {e : Edg} (h : Inv E b c y) (hbn : b.length ≤ 400000) (hj : E[j]? = some e) (hv : e.v < b.length) (hw0 : 0 ≤ e.w) (hw1 : e.w ≤ 1000000000)
    (hbt : betterB (plusC (gI c e.u) e.w) (gI c e.v) = true) :
    Inv E b (c.set e.v (plusC (gI c e.u) e.w)) (y.set e.v (j : Int)) ∧ muL (c.set e.v (plusC (gI c e.u) e.w)) < muL c := by
  have hvc : e.v < c.length := by have := h.len; omega
  have hvy : e.v < y.length := by have := h.ylen; omega
  have he : e ∈ E := List.mem_of_getElem? hj
  obtain ⟨hp0, hbet⟩ := (better_iff (plusC_lo _ _) (h.lo _)).1 hbt
  have hcu : 0 ≤ gI c e.u := by
    unfold plusC at hp0
    split at hp0
    · omega
    · rename_i hh; omega
  have hp : plusC (gI c e.u) e.w = gI c e.u + e.w := by unfold plusC; rw [if_neg (by omega)]
  have hrel : c.set e.v (plusC (gI c e.u) e.w) = relE c e := by
    rw [← progE_eq c e h.lo]
    unfold progE
    rw [if_pos hbt]
  have hne : e.u ≠ e.v := by
    intro hh
    rw [hh] at hp hcu
    rw [hh, hp] at hbet
    omega
  have hset : ∀ x, gI (c.set e.v (plusC (gI c e.u) e.w)) x = if x = e.v then gI c e.u + e.w else gI c x := fun x => by rw [gI_set _ _ _ _ hvc, hp]
  have hyset : ∀ x, gI (y.set e.v (j : Int)) x = if x = e.v then (j : Int) else gI y x := fun x => gI_set _ _ _ _ hvy
  have hmet := sum_set (fun x => if x < 0 then 0 else 1) c e.v (plusC (gI c e.u) e.w) hvc
  have hmu := sum_set muI c e.v (plusC (gI c e.u) e.w) hvc
  change metL (c.set e.v (plusC (gI c e.u) e.w)) + _ = metL c + _ at hmet
  change muL (c.set e.v (plusC (gI c e.u) e.w)) + _ = muL c + _ at hmu
  rw [if_neg (by omega : ¬ plusC (gI c e.u) e.w < 0)] at hmet
  have htop := h.hi e.u
  refine ⟨⟨by simpa using h.len, by simpa using h.ylen, ?_, ?_, ?_, ?_, ?_⟩, ?_⟩
  · rw [hrel]; exact relE_ach he hvc h.ach
  · rw [hrel]; exact (relE_le c e hvc).trans h.le
  · intro x
    rw [hset]
    split
    · omega
    · exact h.lo x
  · intro x
    rw [hset]
    have hx := h.hi x
    by_cases hn : gI c e.v < 0
    · rw [if_pos hn] at hmet
      split <;> omega
    · rw [if_neg hn] at hmet
      have := h.hi e.v
      split <;> omega
  · obtain ⟨r, R, hR, hby⟩ := h.by_
    refine ⟨fun x => if x = e.v then R + 1 else r x, R + 1, fun x => ?_, fun v hv' => ?_⟩
    · show (if x = e.v then R + 1 else r x) ≤ R + 1
      split
      · exact Nat.le_refl _
      · have := hR x; omega
    · rw [hset, hyset]
      by_cases hve : v = e.v
      · subst hve
        right
        rw [if_pos rfl, if_pos rfl]
        refine ⟨j, e, rfl, hj, rfl, ?_⟩
        rw [hset, if_neg hne]
        simp only [hne, if_true, if_false]
        have := hR e.u
        refine ⟨hcu, by omega, by omega, fun _ => by omega⟩
      · rw [if_neg hve, if_neg hve]
        rcases hby v (by simpa using hv') with hl | ⟨j', e', h1, h2, h3, h4, h5, h6, h7⟩
        · exact Or.inl hl
        · right
          refine ⟨j', e', h1, h2, h3, ?_⟩
          rw [hset]
          by_cases hue : e'.u = e.v
          · rw [if_pos hue]
            rw [hue] at h4 h6
            refine ⟨by omega, h5, by omega, fun hh => by omega⟩
          · rw [if_neg hue]
            refine ⟨h4, h5, h6, fun hh => ?_⟩
            have := h7 hh
            simp only [hue, if_false, hve]
            exact this
  · have hmu1 : muI (plusC (gI c e.u) e.w) < muI (gI c e.v) := by
      unfold muI
      rw [if_neg (by omega)]
      by_cases hn : gI c e.v < 0
      · rw [if_pos hn]
        have := h.topK hbn e.u
        omega
      · rw [if_neg hn]; omega
    omega

/-- no arc makes a price better: prices are the least ones, and each is just what it is by its arc -/
theorem Inv.done (h : Inv E b c y) (hw : ∀ e ∈ E, 0 ≤ e.w) (hno : ∀ e ∈ E, betterB (plusC (gI c e.u) e.w) (gI c e.v) = false) :
    (∀ v, IsLeast E b v (gI c v)) ∧ ∃ r : Nat → Nat, ∀ v, v < c.length → (gI y v = -1 ∧ gI c v = gI b v) ∨ ∃ (j : Nat) (e : Edg), gI y v = j ∧ E[j]? = some e ∧ e.v = v ∧ 0 ≤ gI c e.u ∧ 0 ≤ gI c v ∧ gI c e.u + e.w = gI c v ∧ r e.u < r v := by
  have hf := fix_of E c hw h.lo hno
  refine ⟨fix_least hw h.ach h.le hf, ?_⟩
  obtain ⟨r, _, _, hby⟩ := h.by_
  refine ⟨r, fun v hv => ?_⟩
  rcases hby v hv with hl | ⟨j, e, h1, h2, h3, h4, h5, h6, h7⟩
  · exact Or.inl hl
  · right
    have hle := (hf e (List.mem_of_getElem? h2) h4).2
    rw [h3] at hle
    have heq : gI c e.u + e.w = gI c v := by omega
    exact ⟨j, e, h1, h2, h3, h4, h5, heq, h7 heq⟩

end
end Go.Proofs.Yteehgcbjmdideaa

/- The text of a transducer, as bytes: one line a piece; how long it is at most. -/
namespace Go.Proofs.Yteehgcbjmdideaa

def bStates : List UInt8 := [115, 116, 97, 116, 101, 115]
def bStart : List UInt8 := [115, 116, 97, 114, 116]
def bFinal : List UInt8 := [102, 105, 110, 97, 108]

/-- words with a blank between, a line feed behind -/
def lineB (l : List (List UInt8)) : List UInt8 := Lib.join l [32] ++ [10]

def headB (st sta : Int) : List UInt8 := lineB [bStates, Lib.itoa st, bStart, Lib.itoa sta]
def finalB (k : Nat) (x : Int) : List UInt8 := lineB [bFinal, Lib.itoa k, Lib.itoa x]
def arcB (a : ArcD) : List UInt8 := lineB [Lib.itoa a.src, Lib.itoa a.inp, Lib.itoa a.out, Lib.itoa a.dst, Lib.itoa a.wt]

def finalsB (xs : List Int) (k : Nat) : List UInt8 := (List.range k).flatMap fun i => if xs.getD i 0 = -1 then [] else finalB i (xs.getD i 0)
def arcsB (l : List ArcD) (k : Nat) : List UInt8 := (List.range k).flatMap fun i => arcB (l.getD i a0)

def printD (f : FstD) : List UInt8 := headB f.states f.start ++ finalsB f.final f.final.length ++ arcsB f.arcs f.arcs.length

theorem finalsB_hit (xs : List Int) (k : Nat) (x : Int) (hx : x = xs.getD k 0) (h : x ≠ -1) : finalsB xs (k + 1) = finalsB xs k ++ finalB k x := by
  subst hx
  simp only [finalsB, List.range_succ, List.flatMap_append, List.flatMap_cons, List.flatMap_nil, List.append_nil]
  rw [if_neg h]
theorem finalsB_miss (xs : List Int) (k : Nat) (h : xs.getD k 0 = -1) : finalsB xs (k + 1) = finalsB xs k := by
  simp only [finalsB, List.range_succ, List.flatMap_append, List.flatMap_cons, List.flatMap_nil, List.append_nil]
  rw [if_pos h, List.append_nil]
theorem arcsB_succ (l : List ArcD) (k : Nat) (a : ArcD) (ha : a = l.getD k a0) : arcsB l (k + 1) = arcsB l k ++ arcB a := by
  subst ha
  simp only [arcsB, List.range_succ, List.flatMap_append, List.flatMap_cons, List.flatMap_nil, List.append_nil]

/-- numbers of int's kind -/
def in64 (n : Int) : Prop := -9223372036854775808 ≤ n ∧ n ≤ 9223372036854775807
theorem in64_z : in64 0 := ⟨by decide, by decide⟩

theorem itoa_le (n : Int) (h : in64 n) : (Lib.itoa n).length ≤ 21 := Lib.itoa_length_le n h.1 h.2

theorem headB_le (st sta : Int) (h1 : in64 st) (h2 : in64 sta) : (headB st sta).length ≤ 100 := by
  have a := itoa_le st h1
  have b := itoa_le sta h2
  simp [headB, lineB, Lib.join_cons, Lib.joinTail, bStates, bStart]; omega
theorem finalB_le (k : Nat) (x : Int) (h1 : in64 k) (h2 : in64 x) : (finalB k x).length ≤ 100 := by
  have a := itoa_le k h1
  have b := itoa_le x h2
  simp [finalB, lineB, Lib.join_cons, Lib.joinTail, bFinal]; omega
theorem arcB_le (a : ArcD) (h0 : in64 a.src) (h1 : in64 a.inp) (h2 : in64 a.out) (h3 : in64 a.dst) (h4 : in64 a.wt) : (arcB a).length ≤ 120 := by
  have e0 := itoa_le _ h0
  have e1 := itoa_le _ h1
  have e2 := itoa_le _ h2
  have e3 := itoa_le _ h3
  have e4 := itoa_le _ h4
  simp [arcB, lineB, Lib.join_cons, Lib.joinTail]; omega

theorem finalsB_le (xs : List Int) (k : Nat) (hk : k ≤ 1000) (h : ∀ x ∈ xs, in64 x) (h0 : in64 0) : (finalsB xs k).length ≤ 100 * k := by
  induction k with
  | zero => simp [finalsB]
  | succ k ih =>
    have ih := ih (by omega)
    by_cases e : xs.getD k 0 = -1
    · rw [finalsB_miss xs k e]; omega
    · have hx : in64 (xs.getD k 0) := by
        by_cases hk : k < xs.length
        · exact h _ (by simp [List.getD, hk])
        · simp [List.getD, hk, h0]
      have := finalB_le k _ ⟨by omega, by omega⟩ hx
      rw [finalsB_hit xs k _ rfl e, List.length_append]; omega

def arcIn64 (a : ArcD) : Prop := in64 a.src ∧ in64 a.inp ∧ in64 a.out ∧ in64 a.dst ∧ in64 a.wt

theorem arcsB_le (l : List ArcD) (k : Nat) (h : ∀ a ∈ l, arcIn64 a) : (arcsB l k).length ≤ 120 * k := by
  induction k with
  | zero => simp [arcsB]
  | succ k ih =>
    have hx : arcIn64 (l.getD k a0) := by
      by_cases hk : k < l.length
      · exact h _ (by simp [List.getD, hk])
      · simp only [List.getD, List.getElem?_eq_none, Option.getD_none, Nat.not_lt.1 hk]
        exact ⟨in64_z, in64_z, in64_z, in64_z, in64_z⟩
    have := arcB_le _ hx.1 hx.2.1 hx.2.2.1 hx.2.2.2.1 hx.2.2.2.2
    rw [arcsB_succ l k _ rfl, List.length_append]; omega

/-- an arc that may stand in a transducer of so many states -/
structure ArcOk (st : Int) (a : ArcD) : Prop where
  src : inB a.src 0 (st - 1) = true
  dst : inB a.dst 0 (st - 1) = true
  inp : inB a.inp 0 9 = true
  out : inB a.out 0 9 = true
  wt : inB a.wt 0 1000000000 = true

theorem arcErr_ok (st : Int) (p : Option ArcD) (a : ArcD) (h : arcErr st p a = 0) : ArcOk st a := by
  unfold arcErr at h
  cases h0 : inB a.src 0 (st - 1) <;> cases h1 : inB a.dst 0 (st - 1) <;> simp [h0, h1] at h
  cases h2 : inB a.inp 0 9 <;> cases h3 : inB a.out 0 9 <;> cases h4 : inB a.wt 0 1000000000 <;> simp [h2, h3, h4] at h
  exact ⟨h0, h1, h2, h3, h4⟩

theorem arcsErr_ok (st : Int) (l : List ArcD) (p : Option ArcD) (h : arcsErr st p l = 0) : ∀ a ∈ l, ArcOk st a := by
  induction l generalizing p with
  | nil => intro a ha; cases ha
  | cons b l ih =>
    rw [arcsErr] at h
    by_cases e : arcErr st p b = 0
    · rw [if_pos e] at h
      intro a ha
      rcases List.mem_cons.1 ha with rfl | ha
      · exact arcErr_ok _ _ _ e
      · exact ih _ h a ha
    · rw [if_neg e] at h; exact absurd h e

structure CheckOk (f : FstD) : Prop where
  states : inB f.states 1 200 = true
  start : inB f.start 0 (f.states - 1) = true
  len : (f.final.length : Int) = f.states
  fin : ∀ x ∈ f.final, finB x = false
  many : f.arcs.length ≤ 3000
  err : arcsErr f.states none f.arcs = 0
  arcs : ∀ a ∈ f.arcs, ArcOk f.states a

theorem check_ok (f : FstD) (h : checkD f = 0) : CheckOk f := by
  unfold checkD at h
  cases h0 : inB f.states 1 200 <;> simp only [h0, Bool.not_false, Bool.not_true, if_true, if_false, Bool.false_eq_true] at h
  · exact absurd h (by decide)
  cases h1 : inB f.start 0 (f.states - 1) <;> simp only [h1, Bool.not_false, Bool.not_true, if_true, if_false, Bool.false_eq_true] at h
  · exact absurd h (by decide)
  by_cases h2 : (f.final.length : Int) = f.states
  · rw [if_neg (by simpa using h2)] at h
    cases h3 : f.final.any finB <;> simp only [h3, if_true, if_false, Bool.false_eq_true] at h
    · by_cases h4 : 3000 < f.arcs.length
      · rw [if_pos h4] at h; exact absurd h (by decide)
      · rw [if_neg h4] at h
        exact ⟨h0, h1, h2, by simpa using h3, by omega, h, arcsErr_ok _ _ _ h⟩
    · exact absurd h (by decide)
  · rw [if_pos (by simpa using h2)] at h; exact absurd h (by decide)

theorem finB_out {x : Int} (h : finB x = false) : (x = -1 ∨ (0 ≤ x ∧ x ≤ 1000000000)) ∧ in64 x := by
  unfold finB inB at h
  by_cases e : x = -1
  · subst e; exact ⟨Or.inl rfl, by decide, by decide⟩
  · have : (x != -1) = true := by simpa using e
    rw [this] at h
    simp at h
    exact ⟨Or.inr h, ⟨by omega, by omega⟩⟩

theorem arcOk_in64 {st : Int} {a : ArcD} (h : ArcOk st a) (h1 : 1 ≤ st) (h2 : st ≤ 200) : arcIn64 a := by
  have e0 := h.src
  have e1 := h.dst
  have e2 := h.inp
  have e3 := h.out
  have e4 := h.wt
  unfold inB at e0 e1 e2 e3 e4
  simp at e0 e1 e2 e3 e4
  refine ⟨⟨?_, ?_⟩, ⟨?_, ?_⟩, ⟨?_, ?_⟩, ⟨?_, ?_⟩, ⟨?_, ?_⟩⟩ <;> omega

end Go.Proofs.Yteehgcbjmdideaa

/- A heap as a list: what lifting and sinking keep. -/
namespace Go.Proofs.Yteehgcbjmdideaa

section
variable {α : Type} {key : α → Int} {d : α} {L : List α}

def swapL (d : α) (L : List α) (i j : Nat) : List α := (L.set i (L.getD j d)).set j (L.getD i d)

theorem swapL_len (L : List α) (i j : Nat) : (swapL d L i j).length = L.length := by simp [swapL]

theorem swapL_at (L : List α) (i j k : Nat) (hi : i < L.length) (hj : j < L.length) : (swapL d L i j).getD k d = if k = j then L.getD i d else if k = i then L.getD j d else L.getD k d := by
  unfold swapL
  simp only [List.getD_eq_getElem?_getD, List.getElem?_set, List.length_set]
  by_cases h1 : j = k
  · subst h1; simp [hj, hi]
  · by_cases h2 : i = k
    · subst h2; simp [h1, hi, Ne.symm h1]
    · simp [h1, h2, Ne.symm h1, Ne.symm h2]

theorem set_mem_perm (L : List α) (i : Nat) (hi : i < L.length) (x : α) : (L.getD i d :: L.set i x).Perm (x :: L) := by
  induction L generalizing i with
  | nil => simp at hi
  | cons a l ih =>
    cases i with
    | zero => simpa using List.Perm.swap _ _ _
    | succ i =>
      have h := ih i (by simpa using hi)
      simp only [List.getD_cons_succ, List.set_cons_succ]
      exact (List.Perm.swap _ _ _).trans ((h.cons a).trans (List.Perm.swap _ _ _))

theorem swapL_perm (L : List α) (i j : Nat) (hi : i < L.length) (hj : j < L.length) : (swapL d L i j).Perm L := by
  have h1 := set_mem_perm (d := d) L i hi (L.getD j d)
  have h2 := set_mem_perm (d := d) (L.set i (L.getD j d)) j (by simpa using hj) (L.getD i d)
  have e : (L.set i (L.getD j d)).getD j d = L.getD j d := by
    simp only [List.getD_eq_getElem?_getD, List.getElem?_set]
    split
    · rename_i h; subst h; simp [hi]
    · rfl
  rw [e] at h2
  have h3 := h2.trans h1
  exact (List.perm_cons _).1 h3

/-- none costs less than the one above it -/
def HeapL (key : α → Int) (d : α) (L : List α) (n : Nat) : Prop := ∀ k, 0 < k → k < n → key (L.getD ((k - 1) / 2) d) ≤ key (L.getD k d)

/-- only number j may cost less than the one above it -/
def UpOk (key : α → Int) (d : α) (L : List α) (n j : Nat) : Prop :=
  (∀ k, 0 < k → k < n → k ≠ j → key (L.getD ((k - 1) / 2) d) ≤ key (L.getD k d)) ∧ ∀ k, 0 < k → k < n → (k - 1) / 2 = j → 0 < j → key (L.getD ((j - 1) / 2) d) ≤ key (L.getD k d)

/-- only number i may cost more than those below it -/
def DownOk (key : α → Int) (d : α) (L : List α) (n i : Nat) : Prop :=
  (∀ k, 0 < k → k < n → (k - 1) / 2 ≠ i → key (L.getD ((k - 1) / 2) d) ≤ key (L.getD k d)) ∧ ∀ k, 0 < k → k < n → (k - 1) / 2 = i → 0 < i → key (L.getD ((i - 1) / 2) d) ≤ key (L.getD k d)

theorem HeapL.push (h : HeapL key d L L.length) (x : α) : UpOk key d (L ++ [x]) (L.length + 1) L.length := by
  have e : ∀ k, k < L.length → (L ++ [x]).getD k d = L.getD k d := by
    intro k hk
    simp [List.getD_eq_getElem?_getD, List.getElem?_append_left hk]
  refine ⟨fun k h0 hk hne => ?_, fun k h0 hk hp _ => by omega⟩
  rw [e k (by omega), e _ (by omega)]
  exact h k h0 (by omega)

theorem UpOk.step {n j : Nat} (h : UpOk key d L n j) (hj0 : 0 < j) (hj : j < n) (hn : n ≤ L.length) (hlt : key (L.getD j d) < key (L.getD ((j - 1) / 2) d)) : UpOk key d (swapL d L ((j - 1) / 2) j) n ((j - 1) / 2) := by
  have hp : (j - 1) / 2 < j := by omega
  have hat := fun k => swapL_at (d := d) L ((j - 1) / 2) j k (by omega) (by omega)
  refine ⟨fun k h0 hk hne => ?_, fun k h0 hk hpk hp0 => ?_⟩
  · rw [hat k, hat ((k - 1) / 2)]
    by_cases hkj : k = j
    · subst hkj
      rw [if_pos rfl, if_neg (by omega), if_pos rfl]
      omega
    · rw [if_neg hkj, if_neg hne]
      by_cases hpj : (k - 1) / 2 = j
      · rw [if_pos hpj]
        exact h.2 k h0 hk hpj hj0
      · rw [if_neg hpj]
        have h1 := h.1 k h0 hk hkj
        by_cases hpp : (k - 1) / 2 = (j - 1) / 2
        · rw [if_pos hpp]
          rw [hpp] at h1
          omega
        · rw [if_neg hpp]; exact h1
  · rw [hat k, hat (((j - 1) / 2 - 1) / 2)]
    rw [if_neg (by omega : ¬ ((j - 1) / 2 - 1) / 2 = j), if_neg (by omega : ¬ ((j - 1) / 2 - 1) / 2 = (j - 1) / 2)]
    have h1 := h.1 ((j - 1) / 2) hp0 (by omega) (by omega)
    by_cases hkj : k = j
    · rw [if_pos hkj]; exact h1
    · rw [if_neg hkj, if_neg (by omega)]
      have h2 := h.1 k h0 hk hkj
      rw [hpk] at h2
      omega

theorem UpOk.done {n j : Nat} (h : UpOk key d L n j) (hd : j = 0 ∨ ¬ key (L.getD j d) < key (L.getD ((j - 1) / 2) d)) : HeapL key d L n := by
  intro k h0 hk
  by_cases hkj : k = j
  · subst hkj
    rcases hd with hd | hd <;> omega
  · exact h.1 k h0 hk hkj

theorem HeapL.pop {m : Nat} (h : HeapL key d L (m + 1)) (hl : L.length = m + 1) : DownOk key d (swapL d L 0 m) m 0 := by
  have hat := fun k => swapL_at (d := d) L 0 m k (by omega) (by omega)
  refine ⟨fun k h0 hk hne => ?_, fun k _ _ _ h00 => by omega⟩
  rw [hat k, hat ((k - 1) / 2), if_neg (by omega : ¬ k = m), if_neg (by omega : ¬ k = 0), if_neg (by omega : ¬ (k - 1) / 2 = m), if_neg hne]
  exact h k h0 (by omega)

theorem DownOk.step {n i j : Nat} (h : DownOk key d L n i) (hj0 : 0 < j) (hj : j < n) (hn : n ≤ L.length) (hp : (j - 1) / 2 = i) (hlt : key (L.getD j d) < key (L.getD i d))
    (hle : ∀ k, 0 < k → k < n → (k - 1) / 2 = i → key (L.getD j d) ≤ key (L.getD k d)) : DownOk key d (swapL d L i j) n j := by
  have hat := fun k => swapL_at (d := d) L i j k (by omega) (by omega)
  refine ⟨fun k h0 hk hne => ?_, fun k h0 hk hpk _ => ?_⟩
  · rw [hat k, hat ((k - 1) / 2), if_neg hne]
    by_cases hkj : k = j
    · subst hkj
      rw [if_pos rfl, if_pos hp]
      omega
    · rw [if_neg hkj]
      by_cases hki : k = i
      · subst hki
        rw [if_pos rfl, if_neg (by omega)]
        exact h.2 j hj0 hj hp h0
      · rw [if_neg hki]
        by_cases hpi : (k - 1) / 2 = i
        · rw [if_pos hpi]; exact hle k h0 hk hpi
        · rw [if_neg hpi]; exact h.1 k h0 hk hpi
  · rw [hat k, hat ((j - 1) / 2), hp]
    rw [if_neg (by omega : ¬ i = j), if_pos rfl, if_neg (by omega : ¬ k = j), if_neg (by omega : ¬ k = i)]
    have := h.1 k h0 hk (by omega)
    rw [hpk] at this
    exact this

theorem DownOk.done {n i : Nat} (h : DownOk key d L n i) (hd : ∀ k, 0 < k → k < n → (k - 1) / 2 = i → key (L.getD i d) ≤ key (L.getD k d)) : HeapL key d L n := by
  intro k h0 hk
  by_cases hp : (k - 1) / 2 = i
  · rw [hp]; exact hd k h0 hk hp
  · exact h.1 k h0 hk hp

theorem HeapL.top {n : Nat} (h : HeapL key d L n) : ∀ k, k < n → key (L.getD 0 d) ≤ key (L.getD k d) := by
  intro k
  induction k using Nat.strongRecOn with
  | ind k ih =>
    intro hk
    by_cases h0 : k = 0
    · subst h0; exact Int.le_refl _
    · exact Int.le_trans (ih ((k - 1) / 2) (by omega) (by omega)) (h k (by omega) hk)

/-- of a heap that was one longer -/
theorem HeapL.take {n : Nat} (h : HeapL key d L n) : HeapL key d (L.take n) n := by
  have e : ∀ k, k < n → (L.take n).getD k d = L.getD k d := by
    intro k hk
    simp [List.getD_eq_getElem?_getD, hk]
  intro k h0 hk
  rw [e k hk, e _ (by omega)]
  exact h k h0 hk
theorem take_last (L : List α) (n : Nat) (h : L.length = n + 1) : L = L.take n ++ [L.getD n d] := by
  have h1 : L.drop n = [L.getD n d] := by
    rw [List.drop_eq_getElem_cons (by omega), List.drop_of_length_le (by omega)]
    simp [List.getD_eq_getElem?_getD, show n < L.length by omega]
  rw [← h1, List.take_append_drop]
end

end Go.Proofs.Yteehgcbjmdideaa

/- A search that takes the spot that costs least first: what stays true, and what it tells. -/
namespace Go.Proofs.Yteehgcbjmdideaa

section
variable {E : List Edg} {b c y : List Int} {fin : Nat → Int}

/-- x is what it costs at least to come to a spot and to end there, or -1 -/
def IsBest (E : List Edg) (b : List Int) (fin : Nat → Int) (x : Int) : Prop :=
  (x = -1 ∧ ∀ v h z, WayN E b h v z → ¬ 0 ≤ fin v) ∨ (0 ≤ x ∧ (∃ v h z, WayN E b h v z ∧ 0 ≤ fin v ∧ x = z + fin v) ∧ ∀ v h z, WayN E b h v z → 0 ≤ fin v → x ≤ z + fin v)

theorem IsBest.unique {x z : Int} (hx : IsBest E b fin x) (hz : IsBest E b fin z) : x = z := by
  rcases hx with ⟨rfl, h1⟩ | ⟨h0, ⟨v, h, q, hw, hf, rfl⟩, h1⟩
  · rcases hz with ⟨rfl, _⟩ | ⟨_, ⟨v, h, q, hw, hf, rfl⟩, _⟩
    · rfl
    · exact absurd hf (h1 v h q hw)
  · rcases hz with ⟨rfl, h2⟩ | ⟨_, ⟨v', h', q', hw', hf', rfl⟩, h2⟩
    · exact absurd hf (h2 v h q hw)
    · have := h1 v' h' q' hw' hf'
      have := h2 v h q hw hf
      omega

/-- an edge makes nothing better -/
def Rlx (c : List Int) (e : Edg) : Prop := 0 ≤ gI c e.v ∧ gI c e.v ≤ gI c e.u + e.w

/-- all is gone on from a spot -/
def DoneS (E : List Edg) (fin : Nat → Int) (c : List Int) (best : Int) (u : Nat) : Prop :=
  (∀ e ∈ E, e.u = u → Rlx c e) ∧ (0 ≤ fin u → 0 ≤ best ∧ best ≤ gI c u + fin u)

variable {α : Type} {enc : α → Nat} {key : α → Int}

/-- what stays true: L are the places that wait, x0 the spot from which it is gone on just now -/
structure SI (E : List Edg) (b : List Int) (fin : Nat → Int) (enc : α → Nat) (key : α → Int) (c y : List Int) (L : List α) (best : Int) (x0 : Nat) : Prop where
  inv : Inv E b c y
  heap : ∀ p ∈ L, 0 ≤ gI c (enc p) ∧ gI c (enc p) ≤ key p
  wait : ∀ u, u ≠ x0 → 0 ≤ gI c u → (∃ p ∈ L, enc p = u ∧ key p = gI c u) ∨ DoneS E fin c best u
  bst : best = -1 ∨ (0 ≤ best ∧ ∃ v h z, WayN E b h v z ∧ 0 ≤ fin v ∧ best = z + fin v)

theorem SI.perm {L L' : List α} {best : Int} {x0 : Nat} (h : SI E b fin enc key c y L best x0) (hp : L.Perm L') : SI E b fin enc key c y L' best x0 :=
  ⟨h.inv, fun p hm => h.heap p (hp.mem_iff.2 hm), fun u hu h0 => (h.wait u hu h0).imp (fun ⟨p, hm, he⟩ => ⟨p, hp.mem_iff.1 hm, he⟩) id, h.bst⟩

/-- nothing is met but the spots that wait from the beginning -/
theorem SI.start {L : List α} {x0 : Nat} (hb : ∀ v, gI b v = -1 ∨ 0 ≤ gI b v) (hm : ∀ v, gI b v ≤ 1000000000) (hL : ∀ p ∈ L, 0 ≤ gI b (enc p) ∧ gI b (enc p) ≤ key p) (hw : ∀ u, 0 ≤ gI b u → ∃ p ∈ L, enc p = u ∧ key p = gI b u) :
    SI E b fin enc key b (List.replicate b.length (-1)) L (-1) x0 :=
  ⟨Inv.start hb hm, hL, fun u _ h0 => Or.inl (hw u h0), Or.inl rfl⟩

theorem out_gI (c : List Int) (x : Nat) (h : c.length ≤ x) : gI c x = -1 := by
  unfold gI
  simp [List.getD, List.getElem?_eq_none h]

/-- the one that comes is out of date -/
theorem SI.stale {L : List α} {p : α} {best : Int} {x0 : Nat} (h : SI E b fin enc key c y (p :: L) best x0) (hs : gI c (enc p) < key p) : SI E b fin enc key c y L best x0 :=
  ⟨h.inv, fun q hq => h.heap q (List.mem_cons_of_mem _ hq), fun u hu h0 => by
    rcases h.wait u hu h0 with ⟨q, hq, e1, e2⟩ | hd
    · rcases List.mem_cons.1 hq with rfl | hq
      · rw [e1] at hs; omega
      · exact Or.inl ⟨q, hq, e1, e2⟩
    · exact Or.inr hd, h.bst⟩

/-- the one that comes is gone on from -/
theorem SI.take {L : List α} {p : α} {best : Int} {x0 : Nat} (h : SI E b fin enc key c y (p :: L) best x0) (hx : c.length ≤ x0) : SI E b fin enc key c y L best (enc p) :=
  ⟨h.inv, fun q hq => h.heap q (List.mem_cons_of_mem _ hq), fun u hu h0 => by
    have hux : u ≠ x0 := fun e => by rw [e, out_gI c x0 hx] at h0; omega
    rcases h.wait u hux h0 with ⟨q, hq, e1, e2⟩ | hd
    · rcases List.mem_cons.1 hq with rfl | hq
      · exact absurd e1.symm hu
      · exact Or.inl ⟨q, hq, e1, e2⟩
    · exact Or.inr hd, h.bst⟩

theorem DoneS.better {best best' : Int} {u : Nat} (h : DoneS E fin c best u) (h0 : 0 ≤ best') (hb : best = -1 ∨ best' ≤ best) : DoneS E fin c best' u :=
  ⟨h.1, fun hf => by obtain ⟨h1, h2⟩ := h.2 hf; exact ⟨h0, by omega⟩⟩

/-- it is better to end here -/
theorem SI.ends {L : List α} {best x : Int} {u0 : Nat} (h : SI E b fin enc key c y L best u0) (hx : gI c u0 = x) (hx0 : 0 ≤ x) (hf : 0 ≤ fin u0) (hb : best = -1 ∨ x + fin u0 < best) : SI E b fin enc key c y L (x + fin u0) u0 :=
  ⟨h.inv, h.heap, fun u hu h0 => (h.wait u hu h0).imp id fun hd => hd.better (by omega) (by omega), Or.inr ⟨by omega, by
    rcases h.inv.ach u0 with hn | ⟨k, hk⟩
    · omega
    · exact ⟨u0, k, _, hk, hf, by rw [hx]⟩⟩⟩

theorem Rlx.mono {c' : List Int} {e : Edg} (h : Rlx c e) (hl : LeC c' c) (hu : gI c' e.u = gI c e.u) : Rlx c' e := by
  obtain ⟨h1, h2⟩ := h
  obtain ⟨h3, h4⟩ := hl e.v h1
  exact ⟨h3, by omega⟩

/-- along an edge that makes something better -/
theorem SI.meet {L : List α} {q : α} {best x : Int} {j : Nat} {e : Edg} (h : SI E b fin enc key c y L best e.u) (hbn : b.length ≤ 400000) (hj : E[j]? = some e) (hv : e.v < b.length) (hw0 : 0 ≤ e.w) (hw1 : e.w ≤ 1000000000) (hx : gI c e.u = x) (hx0 : 0 ≤ x)
    (hbt : gI c e.v = -1 ∨ x + e.w < gI c e.v) (hq : enc q = e.v) (hk : key q = x + e.w) :
    SI E b fin enc key (c.set e.v (x + e.w)) (y.set e.v (j : Int)) (q :: L) best e.u ∧ muL (c.set e.v (x + e.w)) < muL c ∧ gI (c.set e.v (x + e.w)) e.u = x ∧ LeC (c.set e.v (x + e.w)) c ∧ Rlx (c.set e.v (x + e.w)) e := by
  have hp : plusC (gI c e.u) e.w = x + e.w := by unfold plusC; rw [hx, if_neg (by omega)]
  have hbb : betterB (plusC (gI c e.u) e.w) (gI c e.v) = true := (better_iff (plusC_lo _ _) (h.inv.lo _)).2 ⟨by omega, by omega⟩
  have hst := h.inv.step hbn hj hv hw0 hw1 hbb
  rw [hp] at hst
  have hvc : e.v < c.length := by have := h.inv.len; omega
  have hset := fun k => gI_set c e.v k (x + e.w) hvc
  have hne : e.u ≠ e.v := fun hh => by rw [hh] at hx; rcases hbt with h1 | h1 <;> omega
  have hle : LeC (c.set e.v (x + e.w)) c := by
    intro k hk0
    rw [hset]
    split
    · rename_i hkv; rw [hkv] at hk0 ⊢; rcases hbt with h1 | h1 <;> omega
    · exact ⟨hk0, Int.le_refl _⟩
  refine ⟨⟨hst.1, ?_, ?_, h.bst⟩, hst.2, by rw [hset, if_neg hne]; exact hx, hle, ?_⟩
  · intro p hp'
    rcases List.mem_cons.1 hp' with rfl | hp'
    · rw [hset, hq, if_pos rfl]; omega
    · obtain ⟨h1, h2⟩ := h.heap p hp'
      obtain ⟨h3, h4⟩ := hle _ h1
      exact ⟨h3, by omega⟩
  · intro u hu h0
    by_cases huv : u = e.v
    · subst huv
      rw [hset, if_pos rfl]
      exact Or.inl ⟨q, List.mem_cons_self, hq, hk⟩
    · have hgu : gI (c.set e.v (x + e.w)) u = gI c u := by rw [hset, if_neg huv]
      rw [hgu] at h0 ⊢
      rcases h.wait u hu h0 with ⟨p, hp', e1, e2⟩ | hd
      · exact Or.inl ⟨p, List.mem_cons_of_mem _ hp', e1, e2⟩
      · refine Or.inr ⟨fun e' he' hue => (hd.1 e' he' hue).mono hle (by rw [hue]; exact hgu), fun hf => by rw [hgu]; exact hd.2 hf⟩
  · unfold Rlx
    rw [hset, hset, if_pos rfl, if_neg hne, hx]
    omega

/-- along an edge that makes nothing better -/
theorem rlx_no {e : Edg} {x : Int} (hx : gI c e.u = x) (hlo : -1 ≤ gI c e.v) (hbt : ¬ (gI c e.v = -1 ∨ x + e.w < gI c e.v)) : Rlx c e := by
  unfold Rlx
  rw [hx]
  omega

/-- all is gone on from the spot -/
theorem SI.done {L : List α} {best : Int} {u0 x1 : Nat} (h : SI E b fin enc key c y L best u0) (hr : ∀ e ∈ E, e.u = u0 → Rlx c e) (hf : 0 ≤ fin u0 → 0 ≤ best ∧ best ≤ gI c u0 + fin u0) : SI E b fin enc key c y L best x1 :=
  ⟨h.inv, h.heap, fun u _ h0 => by
    by_cases e : u = u0
    · subst e; exact Or.inr ⟨hr, hf⟩
    · exact h.wait u e h0, h.bst⟩

/-- a way either leads to a spot that is gone on from, or costs no less than one that waits -/
theorem SI.cover {L : List α} {best : Int} {x0 : Nat} (h : SI E b fin enc key c y L best x0) (hx : c.length ≤ x0) (hw : ∀ e ∈ E, 0 ≤ e.w) (k v : Nat) (x : Int) (H : WayN E b k v x) :
    (∃ p ∈ L, key p ≤ x) ∨ (0 ≤ gI c v ∧ gI c v ≤ x ∧ DoneS E fin c best v) := by
  have hne : ∀ u, 0 ≤ gI c u → u ≠ x0 := fun u h0 e => by rw [e, out_gI c x0 hx] at h0; omega
  induction k generalizing v x with
  | zero =>
    obtain ⟨rfl, h0⟩ := H
    obtain ⟨h1, h2⟩ := h.inv.le v h0
    rcases h.wait v (hne v h1) h1 with ⟨p, hp, _, e2⟩ | hd
    · exact Or.inl ⟨p, hp, by omega⟩
    · exact Or.inr ⟨h1, h2, hd⟩
  | succ k ih =>
    obtain ⟨e, he, rfl, z, hz, rfl⟩ := H
    have hew := hw e he
    rcases ih e.u z hz with ⟨p, hp, hle⟩ | ⟨h1, h2, hd⟩
    · exact Or.inl ⟨p, hp, by omega⟩
    · obtain ⟨h3, h4⟩ := hd.1 e he rfl
      rcases h.wait e.v (hne e.v h3) h3 with ⟨p, hp, _, e2⟩ | hd'
      · exact Or.inl ⟨p, hp, by omega⟩
      · exact Or.inr ⟨h3, by omega, hd'⟩

/-- none waits that could be better: it is the best -/
theorem SI.best {L : List α} {best : Int} {x0 : Nat} (h : SI E b fin enc key c y L best x0) (hx : c.length ≤ x0) (hw : ∀ e ∈ E, 0 ≤ e.w) (hL : ∀ p ∈ L, 0 ≤ best ∧ best ≤ key p) : IsBest E b fin best := by
  have all : ∀ v k z, WayN E b k v z → 0 ≤ fin v → 0 ≤ best ∧ best ≤ z + fin v := by
    intro v k z hz hf
    rcases h.cover hx hw k v z hz with ⟨p, hp, hle⟩ | ⟨_, h2, hd⟩
    · have := hL p hp
      omega
    · have := hd.2 hf
      omega
  rcases h.bst with hb | ⟨h0, hb⟩
  · exact Or.inl ⟨hb, fun v k z hz hf => by have := (all v k z hz hf).1; omega⟩
  · exact Or.inr ⟨h0, hb, fun v k z hz hf => (all v k z hz hf).2⟩

/-- spots come up in the order of what they cost, each of them once: D those that were gone on from, lo what the last one cost -/
structure SD (enc : α → Nat) (key : α → Int) (c : List Int) (L : List α) (D : List Nat) (lo : Int) : Prop where
  low : ∀ p ∈ L, lo ≤ key p
  past : ∀ u ∈ D, 0 ≤ gI c u ∧ gI c u ≤ lo ∧ ∀ p ∈ L, enc p = u → gI c u < key p
  nd : D.Nodup
  lt : ∀ u ∈ D, u < c.length
  twice : (L.map fun p => (enc p, key p)).Nodup

theorem SD.perm {L L' : List α} {D : List Nat} {lo : Int} (h : SD enc key c L D lo) (hp : L.Perm L') : SD enc key c L' D lo :=
  ⟨fun p hm => h.low p (hp.mem_iff.2 hm), fun u hu => ⟨(h.past u hu).1, (h.past u hu).2.1, fun p hm => (h.past u hu).2.2 p (hp.mem_iff.2 hm)⟩, h.nd, h.lt, (hp.map _).nodup_iff.1 h.twice⟩

theorem SD.start (p : α) (hk : 0 ≤ key p) : SD enc key c [p] [] 0 :=
  ⟨fun q hq => (by rw [List.mem_singleton.1 hq]; exact hk), fun u hu => (by cases hu), List.nodup_nil, fun u hu => (by cases hu), (by simp)⟩

theorem SD.stale {L : List α} {p : α} {D : List Nat} {lo : Int} (h : SD enc key c (p :: L) D lo) (hmin : ∀ q ∈ L, key p ≤ key q) : SD enc key c L D (key p) :=
  ⟨hmin, fun u hu => ⟨(h.past u hu).1, Int.le_trans (h.past u hu).2.1 (h.low p List.mem_cons_self), fun q hq => (h.past u hu).2.2 q (List.mem_cons_of_mem _ hq)⟩, h.nd, h.lt, (List.nodup_cons.1 h.twice).2⟩

theorem SD.take {L : List α} {p : α} {D : List Nat} {lo : Int} (h : SD enc key c (p :: L) D lo) (hmin : ∀ q ∈ L, key p ≤ key q) (hx : key p = gI c (enc p)) (hx0 : 0 ≤ key p) (hl : enc p < c.length) (hle : ∀ q ∈ L, gI c (enc q) ≤ key q) : SD enc key c L (enc p :: D) (key p) := by
  obtain ⟨h1, h2⟩ := List.nodup_cons.1 h.twice
  refine ⟨hmin, fun u hu => ?_, ?_, fun u hu => ?_, h2⟩
  · rcases List.mem_cons.1 hu with rfl | hu
    · refine ⟨by omega, by omega, fun q hq he => ?_⟩
      have h3 := hle q hq
      have h4 : key q ≠ key p := fun e => h1 (List.mem_map.2 ⟨q, hq, by rw [he, e]⟩)
      rw [he] at h3
      omega
    · exact (h.stale hmin).past u hu
  · refine List.nodup_cons.2 ⟨fun hm => ?_, h.nd⟩
    have := (h.past _ hm).2.2 p List.mem_cons_self rfl
    omega
  · rcases List.mem_cons.1 hu with rfl | hu
    · exact hl
    · exact h.lt u hu

theorem SD.meet {L : List α} {q : α} {D : List Nat} {lo : Int} {v : Nat} {w : Int} (h : SD enc key c L D lo) (hv : v < c.length) (hw : 0 ≤ w) (hbt : gI c v = -1 ∨ lo + w < gI c v) (hq : enc q = v) (hk : key q = lo + w)
    (hle : ∀ p ∈ L, 0 ≤ gI c (enc p) ∧ gI c (enc p) ≤ key p) : SD enc key (c.set v (lo + w)) (q :: L) D lo := by
  have hset := fun k => gI_set c v k (lo + w) hv
  have hvD : v ∉ D := fun hm => by have := h.past v hm; omega
  refine ⟨fun p hp => ?_, fun u hu => ?_, h.nd, fun u hu => by simpa using h.lt u hu, ?_⟩
  · rcases List.mem_cons.1 hp with rfl | hp
    · omega
    · exact h.low p hp
  · have huv : u ≠ v := fun e => hvD (e ▸ hu)
    rw [hset, if_neg huv]
    refine ⟨(h.past u hu).1, (h.past u hu).2.1, fun p hp he => ?_⟩
    rcases List.mem_cons.1 hp with rfl | hp
    · exact absurd (he.symm.trans hq) huv
    · exact (h.past u hu).2.2 p hp he
  · rw [List.map_cons]
    refine List.nodup_cons.2 ⟨fun hm => ?_, h.twice⟩
    obtain ⟨p, hp, he⟩ := List.mem_map.1 hm
    injection he with e1 e2
    have := hle p hp
    rw [e1, hq] at this
    omega

end

end Go.Proofs.Yteehgcbjmdideaa

/- Spots: a state, and how many letters of two words are used; edges from spot to spot; what a pair of words costs. -/
namespace Go.Proofs.Yteehgcbjmdideaa

/-- a spot as a number: N states, words of so many letters -/
def spotN (N O n i o : Nat) : Nat := (i * (O + 1) + o) * N + n

theorem mul_add_inj {N a a' n n' : Nat} (hn : n < N) (hn' : n' < N) (h : a * N + n = a' * N + n') : a = a' ∧ n = n' := by
  have e1 : (a * N + n) / N = a := by rw [Nat.mul_comm, Nat.mul_add_div (by omega), Nat.div_eq_of_lt hn, Nat.add_zero]
  have e2 : (a' * N + n') / N = a' := by rw [Nat.mul_comm, Nat.mul_add_div (by omega), Nat.div_eq_of_lt hn', Nat.add_zero]
  have e3 : a = a' := by rw [← e1, ← e2, h]
  subst e3
  exact ⟨rfl, by omega⟩

theorem spotN_inj {N O n i o n' i' o' : Nat} (hn : n < N) (hn' : n' < N) (ho : o ≤ O) (ho' : o' ≤ O) (h : spotN N O n i o = spotN N O n' i' o') : n = n' ∧ i = i' ∧ o = o' := by
  obtain ⟨h1, h2⟩ := mul_add_inj hn hn' h
  obtain ⟨h3, h4⟩ := mul_add_inj (N := O + 1) (by omega) (by omega) h1
  exact ⟨h2, h3, h4⟩

theorem place_lt {I O i o : Nat} (hi : i ≤ I) (ho : o ≤ O) : i * (O + 1) + o < (I + 1) * (O + 1) := by
  have h := Nat.mul_le_mul_right (O + 1) hi
  have e : (I + 1) * (O + 1) = I * (O + 1) + (O + 1) := by rw [Nat.add_mul, Nat.one_mul]
  omega

theorem mul_add_lt {N P p n : Nat} (hp : p < P) (hn : n < N) : p * N + n < P * N := by
  have h := Nat.mul_le_mul_right N (show p + 1 ≤ P by omega)
  rw [Nat.add_mul, Nat.one_mul] at h
  omega

theorem spotN_lt {N I O n i o : Nat} (hn : n < N) (hi : i ≤ I) (ho : o ≤ O) : spotN N O n i o < (I + 1) * (O + 1) * N := mul_add_lt (place_lt hi ho) hn

/-- does a letter stand behind those that are used already? -/
def fitB (word : List Int) (used : Nat) (letter : Int) : Bool := (letter == 0) || (decide (used < word.length) && (word.getD used 0 == letter))
def usedBy (used : Nat) (letter : Int) : Nat := if letter = 0 then used else used + 1

theorem usedBy_le {word : List Int} {used : Nat} {letter : Int} (h : fitB word used letter = true) (hu : used ≤ word.length) : usedBy used letter ≤ word.length := by
  unfold usedBy
  unfold fitB at h
  split
  · exact hu
  · rename_i hl
    simp [hl] at h
    omega

/-- an arc at a place of both words; one that does not fit leads from the first spot to itself -/
def edgeS (N : Nat) (ins outs : List Int) (i o : Nat) (a : ArcD) : Edg :=
  if (fitB ins i a.inp && fitB outs o a.out) = true then ⟨spotN N outs.length a.src.toNat i o, spotN N outs.length a.dst.toNat (usedBy i a.inp) (usedBy o a.out), a.wt⟩ else ⟨0, 0, 0⟩

/-- the edges at the first k places -/
def edK (N : Nat) (ins outs : List Int) (arcs : List ArcD) (k : Nat) : List Edg := (List.range k).flatMap fun p => arcs.map (edgeS N ins outs (p / (outs.length + 1)) (p % (outs.length + 1)))
def edS (N : Nat) (ins outs : List Int) (arcs : List ArcD) : List Edg := edK N ins outs arcs ((ins.length + 1) * (outs.length + 1))

theorem edK_succ (N : Nat) (ins outs : List Int) (arcs : List ArcD) (k : Nat) : edK N ins outs arcs (k + 1) = edK N ins outs arcs k ++ arcs.map (edgeS N ins outs (k / (outs.length + 1)) (k % (outs.length + 1))) := by
  simp [edK, List.range_succ]
theorem edK_len (N : Nat) (ins outs : List Int) (arcs : List ArcD) (k : Nat) : (edK N ins outs arcs k).length = k * arcs.length := by
  induction k with
  | zero => simp [edK]
  | succ k ih => rw [edK_succ, List.length_append, ih, List.length_map, Nat.add_mul, Nat.one_mul]
theorem edK_get (N : Nat) (ins outs : List Int) (arcs : List ArcD) (k p n : Nat) (a : ArcD) (hp : p < k) (hn : arcs[n]? = some a) : (edK N ins outs arcs k)[p * arcs.length + n]? = some (edgeS N ins outs (p / (outs.length + 1)) (p % (outs.length + 1)) a) := by
  have hnl : n < arcs.length := by
    by_cases h : n < arcs.length
    · exact h
    · rw [List.getElem?_eq_none (by omega)] at hn; cases hn
  induction k with
  | zero => omega
  | succ k ih =>
    rw [edK_succ]
    by_cases h : p < k
    · rw [List.getElem?_append_left (by rw [edK_len]; exact mul_add_lt h hnl)]
      exact ih h
    · have : p = k := by omega
      subst this
      rw [List.getElem?_append_right (by rw [edK_len]; omega), edK_len, Nat.add_sub_cancel_left, List.getElem?_map, hn]
      rfl

theorem place_div {O i o : Nat} (ho : o ≤ O) : (i * (O + 1) + o) / (O + 1) = i ∧ (i * (O + 1) + o) % (O + 1) = o := by
  constructor
  · rw [Nat.mul_comm, Nat.mul_add_div (by omega), Nat.div_eq_of_lt (by omega), Nat.add_zero]
  · rw [Nat.mul_comm, Nat.mul_add_mod, Nat.mod_eq_of_lt (by omega)]

theorem place_of {I O p : Nat} (hp : p < (I + 1) * (O + 1)) : p / (O + 1) ≤ I ∧ p % (O + 1) ≤ O ∧ p / (O + 1) * (O + 1) + p % (O + 1) = p := by
  have h1 : p / (O + 1) < I + 1 := Nat.div_lt_of_lt_mul (by rw [Nat.mul_comm]; exact hp)
  have h2 : p % (O + 1) < O + 1 := Nat.mod_lt _ (by omega)
  have h3 := Nat.div_add_mod p (O + 1)
  rw [Nat.mul_comm] at h3
  exact ⟨by omega, by omega, h3⟩

theorem edS_get {N : Nat} {ins outs : List Int} {arcs : List ArcD} {i o n : Nat} {a : ArcD} (hi : i ≤ ins.length) (ho : o ≤ outs.length) (hn : arcs[n]? = some a) : (edS N ins outs arcs)[(i * (outs.length + 1) + o) * arcs.length + n]? = some (edgeS N ins outs i o a) := by
  have := edK_get N ins outs arcs _ _ n a (place_lt hi ho) hn
  rw [(place_div ho).1, (place_div ho).2] at this
  exact this

theorem edS_mem {N : Nat} {ins outs : List Int} {arcs : List ArcD} {e : Edg} : e ∈ edS N ins outs arcs ↔ ∃ i o a, i ≤ ins.length ∧ o ≤ outs.length ∧ a ∈ arcs ∧ e = edgeS N ins outs i o a := by
  unfold edS edK
  rw [List.mem_flatMap]
  constructor
  · rintro ⟨p, hp, he⟩
    obtain ⟨a, ha, rfl⟩ := List.mem_map.1 he
    obtain ⟨h1, h2, _⟩ := place_of (List.mem_range.1 hp)
    exact ⟨_, _, a, h1, h2, ha, rfl⟩
  · rintro ⟨i, o, a, hi, ho, ha, rfl⟩
    refine ⟨i * (outs.length + 1) + o, List.mem_range.2 (place_lt hi ho), List.mem_map.2 ⟨a, ha, ?_⟩⟩
    rw [(place_div ho).1, (place_div ho).2]

/-- nothing at the beginning but one spot, for nothing -/
def bgS (s T : Nat) : List Int := (List.range T).map fun v => if v = s then 0 else -1
theorem bgS_len (s T : Nat) : (bgS s T).length = T := by simp [bgS]
theorem bgS_at (s T v : Nat) : gI (bgS s T) v = if v = s ∧ v < T then 0 else -1 := by
  unfold gI bgS
  by_cases hv : v < T
  · simp [List.getD, hv]
  · simp [List.getD, hv]

/-- what it costs to end at a spot: only where both words are used up -/
def finS (T N : Nat) (fin : List Int) (u : Nat) : Int := if T - N ≤ u then gI fin (u - (T - N)) else -1

theorem spotN_end (N I O n : Nat) : spotN N O n I O = (I + 1) * (O + 1) * N - N + n := by
  have e : (I + 1) * (O + 1) = (I * (O + 1) + O) + 1 := by rw [Nat.add_mul, Nat.one_mul]; omega
  unfold spotN
  rw [e, Nat.add_mul (I * (O + 1) + O) 1 N, Nat.one_mul]
  omega
theorem finS_end (N I O n : Nat) (fin : List Int) : finS ((I + 1) * (O + 1) * N) N fin (spotN N O n I O) = gI fin n := by
  unfold finS
  rw [spotN_end N I O n, if_pos (by omega), Nat.add_sub_cancel_left]
theorem finS_no (N I O n i o : Nat) (fin : List Int) (hn : n < N) (hi : i ≤ I) (ho : o ≤ O) (h : i < I ∨ o < O) : finS ((I + 1) * (O + 1) * N) N fin (spotN N O n i o) = -1 := by
  unfold finS
  rw [if_neg]
  intro hle
  have hp : i * (O + 1) + o < I * (O + 1) + O := by
    have h1 := Nat.mul_le_mul_right (O + 1) hi
    rcases h with h | h
    · have h2 := Nat.mul_le_mul_right (O + 1) (show i + 1 ≤ I by omega)
      rw [Nat.add_mul, Nat.one_mul] at h2
      omega
    · omega
  have h3 := mul_add_lt (N := N) hp hn
  have e : (I + 1) * (O + 1) = (I * (O + 1) + O) + 1 := by rw [Nat.add_mul, Nat.one_mul]; omega
  rw [e, Nat.add_mul (I * (O + 1) + O) 1 N, Nat.one_mul] at hle
  unfold spotN at hle
  omega

/-- what a pair of words costs -/
def IsScore (f : FstD) (ins outs : List Int) (x : Int) : Prop :=
  IsBest (edS f.states.toNat ins outs f.arcs) (bgS f.start.toNat ((ins.length + 1) * (outs.length + 1) * f.states.toNat)) (finS ((ins.length + 1) * (outs.length + 1) * f.states.toNat) f.states.toNat f.final) x

end Go.Proofs.Yteehgcbjmdideaa

/- What the document's tables hold: place by place, along arcs that say something, then along silent ones till nothing is better. -/
namespace Go.Proofs.Yteehgcbjmdideaa

/-- the prices at one place -/
def segL (c : List Int) (N p : Nat) : List Int := (c.drop (p * N)).take N

theorem segL_len {c : List Int} {N P p : Nat} (hc : c.length = P * N) (hp : p < P) : (segL c N p).length = N := by
  have := Nat.mul_le_mul_right N (show p + 1 ≤ P by omega)
  rw [Nat.add_mul, Nat.one_mul] at this
  simp [segL]
  omega
theorem segL_at (c : List Int) (N p n : Nat) (hn : n < N) : gI (segL c N p) n = gI c (p * N + n) := by
  unfold gI segL
  simp [List.getD, hn]
theorem segL_set_same {c : List Int} {N p n : Nat} (x : Int) : segL (c.set (p * N + n) x) N p = (segL c N p).set n x := by
  unfold segL
  rw [List.drop_set, if_neg (by omega), Nat.add_sub_cancel_left, List.take_set]
theorem segL_set_other {c : List Int} {N p q n : Nat} (x : Int) (hn : n < N) (hq : q ≠ p) : segL (c.set (p * N + n) x) N q = segL c N q := by
  apply List.ext_getElem?
  intro k
  unfold segL
  rw [List.getElem?_take, List.getElem?_take]
  split
  · rename_i hk
    rw [List.getElem?_drop, List.getElem?_drop, List.getElem?_set, if_neg]
    intro he
    exact hq (mul_add_inj hn hk he).1.symm
  · rfl

/-- no edge to one of the first k spots makes anything better -/
def FixTo (E : List Edg) (c : List Int) (k : Nat) : Prop := ∀ e ∈ E, e.v < k → 0 ≤ gI c e.u → Rlx c e

theorem FixTo.set {E : List Edg} {c : List Int} {k v : Nat} {x : Int} (h : FixTo E c k) (hE : ∀ e ∈ E, e.v < k → e.u < k) (hv : k ≤ v) (hvc : v < c.length) : FixTo E (c.set v x) k := by
  intro e he hk h0
  have hu := hE e he hk
  have e1 : gI (c.set v x) e.u = gI c e.u := by rw [gI_set _ _ _ _ hvc, if_neg (by omega)]
  have e2 : gI (c.set v x) e.v = gI c e.v := by rw [gI_set _ _ _ _ hvc, if_neg (by omega)]
  rw [e1] at h0
  have := h e he hk h0
  unfold Rlx at this ⊢
  rw [e1, e2]
  exact this

theorem FixTo.all {E : List Edg} {c : List Int} {k : Nat} (h : FixTo E c k) (hE : ∀ e ∈ E, e.v < k) : Fix E c := fun e he h0 => h e he (hE e he) h0

/-- along one edge -/
theorem relE_rlx {c : List Int} {e : Edg} (hvc : e.v < c.length) (hw : 0 ≤ e.w) (hlo : ∀ v, -1 ≤ gI c v) (h0 : 0 ≤ gI (relE c e) e.u) : Rlx (relE c e) e := by
  by_cases hu : 0 ≤ gI c e.u
  · obtain ⟨h1, h2⟩ := relE_edge c e hvc hw hu
    refine ⟨h1, ?_⟩
    by_cases huv : e.u = e.v
    · rw [huv]; omega
    · have : gI (relE c e) e.u = gI c e.u := by unfold relE; rw [gI_set _ _ _ _ hvc, if_neg huv]
      omega
  · exfalso
    have hm : gI c e.u = -1 := by have := hlo e.u; omega
    have hp : plusC (gI c e.u) e.w = -1 := by unfold plusC; rw [if_pos (by omega)]
    by_cases huv : e.u = e.v
    · have : gI (relE c e) e.u = gI c e.u := by
        unfold relE
        rw [gI_set _ _ _ _ hvc, if_pos huv, hp, ← huv, hm]
        rfl
      omega
    · have : gI (relE c e) e.u = gI c e.u := by unfold relE; rw [gI_set _ _ _ _ hvc, if_neg huv]
      omega

/-- an edge that made nothing better stays so while only other spots' prices fall, and its own end's -/
theorem rlx_stays {c c' : List Int} {e : Edg} (h : 0 ≤ gI c e.u → Rlx c e) (hl : LeC c' c) (hu : gI c' e.u = gI c e.u) : 0 ≤ gI c' e.u → Rlx c' e := by
  intro h0
  rw [hu] at h0
  exact (h h0).mono hl hu

/-- nothing is better along an edge: its price is what it was -/
theorem rlx_same {c : List Int} {e : Edg} (hw : 0 ≤ e.w) (hlo : -1 ≤ gI c e.v) (h : lessC (gI c e.v) (plusC (gI c e.u) e.w) = gI c e.v) : 0 ≤ gI c e.u → Rlx c e := by
  intro h0
  have hp : plusC (gI c e.u) e.w = gI c e.u + e.w := by unfold plusC; rw [if_neg (by omega)]
  rw [hp] at h
  unfold lessC at h
  unfold Rlx
  split at h
  · omega
  · split at h <;> omega

end Go.Proofs.Yteehgcbjmdideaa

/- Arcs that stand by where they begin: the number of the first arc of each state. Edges from spot to spot, their bounds. -/
namespace Go.Proofs.Yteehgcbjmdideaa

/-- no arc begins ahead of where the one ahead of it does -/
def SortedA : List ArcD → Prop
  | [] => True
  | a :: l => (∀ x ∈ l, a.src ≤ x.src) ∧ SortedA l

theorem ahead_src {a b : ArcD} (h : aheadB a b = true) : a.src ≤ b.src := by
  unfold aheadB at h
  split at h
  · have := of_decide_eq_true h; omega
  · rename_i he
    have : a.src = b.src := Classical.byContradiction fun hn => he hn
    omega

theorem arcsErr_sorted (st : Int) (l : List ArcD) (p : Option ArcD) (h : arcsErr st p l = 0) : SortedA l ∧ ∀ q, p = some q → ∀ x ∈ l, q.src ≤ x.src := by
  induction l generalizing p with
  | nil => exact ⟨trivial, fun _ _ x hx => by cases hx⟩
  | cons a l ih =>
    unfold arcsErr at h
    split at h
    · rename_i h0
      obtain ⟨h1, h2⟩ := ih (some a) h
      refine ⟨⟨h2 a rfl, h1⟩, fun q hq x hx => ?_⟩
      have hqa : q.src ≤ a.src := by
        subst hq
        unfold arcErr at h0
        split at h0
        · cases h0
        · split at h0
          · cases h0
          · simp only at h0
            split at h0
            · rename_i ha; exact ahead_src ha
            · cases h0
      rcases List.mem_cons.1 hx with rfl | hx
      · exact hqa
      · have := h2 a rfl x hx; omega
    · rename_i h0; exact absurd h h0

/-- how many arcs begin at one of the first s states -/
def cntB (l : List ArcD) (s : Nat) : Nat := (l.filter fun a => decide (a.src < (s : Int))).length

theorem cntB_le (l : List ArcD) (s : Nat) : cntB l s ≤ l.length := List.length_filter_le _ _
theorem cntB_zero (l : List ArcD) (h : ∀ a ∈ l, 0 ≤ a.src) : cntB l 0 = 0 := by
  unfold cntB
  rw [List.length_eq_zero_iff, List.filter_eq_nil_iff]
  intro a ha
  have := h a ha
  simp
  omega

theorem SortedA.at {l : List ArcD} (h : SortedA l) (s k : Nat) (a : ArcD) (hk : l[k]? = some a) : k < cntB l s ↔ a.src < (s : Int) := by
  induction l generalizing k with
  | nil => simp at hk
  | cons b l ih =>
    obtain ⟨h1, h2⟩ := h
    unfold cntB
    by_cases hb : b.src < (s : Int)
    · rw [List.filter_cons_of_pos (by simpa using hb), List.length_cons]
      cases k with
      | zero =>
        simp at hk; subst hk
        exact ⟨fun _ => hb, fun _ => by omega⟩
      | succ k =>
        have := ih h2 k (by simpa using hk)
        unfold cntB at this
        omega
    · have hn : (b :: l).filter (fun a => decide (a.src < (s : Int))) = [] := by
        rw [List.filter_eq_nil_iff]
        intro x hx
        rcases List.mem_cons.1 hx with rfl | hx
        · simpa using hb
        · have := h1 x hx
          simp; omega
      rw [hn]
      have ha : a ∈ b :: l := List.mem_of_getElem? hk
      have : b.src ≤ a.src := by
        rcases List.mem_cons.1 ha with rfl | ha
        · exact Int.le_refl _
        · exact h1 a ha
      simp
      omega

/-- the arcs of a state stand between its first one and the next state's -/
theorem SortedA.of {l : List ArcD} (h : SortedA l) (s k : Nat) (a : ArcD) (hk : l[k]? = some a) : (cntB l s ≤ k ∧ k < cntB l (s + 1)) ↔ a.src = (s : Int) := by
  have h1 := h.at s k a hk
  have h2 := h.at (s + 1) k a hk
  omega

section
variable {N : Nat} {ins outs : List Int} {arcs : List ArcD}

theorem edS_bounds (hN : 1 ≤ N) (hok : ∀ a ∈ arcs, (0 ≤ a.src ∧ a.src < N) ∧ (0 ≤ a.dst ∧ a.dst < N) ∧ (0 ≤ a.wt ∧ a.wt ≤ 1000000000)) : ∀ e ∈ edS N ins outs arcs, e.v < (ins.length + 1) * (outs.length + 1) * N ∧ 0 ≤ e.w ∧ e.w ≤ 1000000000 := by
  intro e he
  obtain ⟨i, o, a, hi, ho, ha, rfl⟩ := edS_mem.1 he
  obtain ⟨_, h2, h3⟩ := hok a ha
  unfold edgeS
  split
  · rename_i hf
    rw [Bool.and_eq_true] at hf
    exact ⟨spotN_lt (by omega) (usedBy_le hf.1 hi) (usedBy_le hf.2 ho), h3⟩
  · refine ⟨?_, by decide, by decide⟩
    have := spotN_lt (N := N) (n := 0) (i := 0) (o := 0) (by omega) (Nat.zero_le ins.length) (Nat.zero_le outs.length)
    show 0 < _
    omega

theorem usedBy_ge (u : Nat) (l : Int) : u ≤ usedBy u l := by unfold usedBy; split <;> omega

/-- edges lead to the same place, or to one behind it -/
theorem edS_down (hok : ∀ a ∈ arcs, (0 ≤ a.src ∧ a.src < N) ∧ (0 ≤ a.dst ∧ a.dst < N) ∧ (0 ≤ a.wt ∧ a.wt ≤ 1000000000)) (k : Nat) : ∀ e ∈ edS N ins outs arcs, e.v < k * N → e.u < k * N := by
  intro e he hk
  obtain ⟨i, o, a, hi, ho, ha, rfl⟩ := edS_mem.1 he
  obtain ⟨h1, h2, _⟩ := hok a ha
  unfold edgeS at hk ⊢
  split
  · rename_i hf
    rw [if_pos hf] at hk
    have hp : i * (outs.length + 1) + o ≤ usedBy i a.inp * (outs.length + 1) + usedBy o a.out := by
      have := Nat.mul_le_mul_right (outs.length + 1) (usedBy_ge i a.inp)
      have := usedBy_ge o a.out
      omega
    have hlt : usedBy i a.inp * (outs.length + 1) + usedBy o a.out < k := by
      apply Classical.byContradiction
      intro hn
      have := Nat.mul_le_mul_right N (Nat.not_lt.1 hn)
      have hk' : (usedBy i a.inp * (outs.length + 1) + usedBy o a.out) * N + a.dst.toNat < k * N := hk
      omega
    exact mul_add_lt (Nat.lt_of_le_of_lt hp hlt) (by omega)
  · rename_i hf
    rw [if_neg hf] at hk
    exact hk

/-- an edge from a spot: an arc of its state that fits; or it leads from the first spot to itself for nothing -/
theorem edS_from {n i o : Nat} (hn : n < N) (ho : o ≤ outs.length) (hok : ∀ a ∈ arcs, (0 ≤ a.src ∧ a.src < N) ∧ (0 ≤ a.dst ∧ a.dst < N) ∧ (0 ≤ a.wt ∧ a.wt ≤ 1000000000)) {e : Edg} (he : e ∈ edS N ins outs arcs) (hu : e.u = spotN N outs.length n i o) :
    e = ⟨0, 0, 0⟩ ∨ ∃ (k : Nat) (a : ArcD), arcs[k]? = some a ∧ a.src = (n : Int) ∧ (fitB ins i a.inp && fitB outs o a.out) = true ∧ e = edgeS N ins outs i o a := by
  obtain ⟨i', o', a, hi', ho', ha, rfl⟩ := edS_mem.1 he
  obtain ⟨h1, _, _⟩ := hok a ha
  by_cases hf : (fitB ins i' a.inp && fitB outs o' a.out) = true
  · right
    unfold edgeS at hu
    rw [if_pos hf] at hu
    obtain ⟨h3, rfl, rfl⟩ := spotN_inj (by omega) hn ho' ho hu
    obtain ⟨k, hk⟩ := List.getElem?_of_mem ha
    exact ⟨k, a, hk, by omega, hf, rfl⟩
  · left
    unfold edgeS
    rw [if_neg hf]

theorem rlx_zero {c : List Int} (h : 0 ≤ gI c 0) : Rlx c ⟨0, 0, 0⟩ := ⟨h, by simp⟩
end

end Go.Proofs.Yteehgcbjmdideaa

/- A region that draws its order and whose last operation, number k, waits for all the others: a load may be taken first where nobody but k writes its cell. What is held need not outlive k. -/
namespace Go.Proofs.Yteehgcbjmdideaa
open Go

section
variable {P : Program} {ops : Array Oper} {Q : Exit → Act → World → Prop} {md : Region.Mode} {S : World → Prop} {k : Nat}

/-- whatever order is picked from here on, and S holds behind every operation but k -/
def wpAnyU (P : Program) (md : Region.Mode) (ops : Array Oper) (Q : Exit → Act → World → Prop) (S : World → Prop) (k : Nat) : Nat → Array Bool → Act → World → Prop
  | 0, listed, a, w => Region.ready md ops listed = [] ∧ Q .normal a w
  | fuel + 1, listed, a, w =>
    (Region.ready md ops listed = [] → Q .normal a w) ∧
    ∀ i ∈ Region.ready md ops listed, wpOp P ops Q i (fun a' w' => (i ≠ k → S w') ∧ wpAnyU P md ops Q S k fuel (listed.setIfInBounds i true) a' w') a w

theorem wpAny_of_U : ∀ (fuel : Nat) (listed : Array Bool) (a : Act) (w : World), wpAnyU P md ops Q S k fuel listed a w → wpAny P md ops Q fuel listed a w
  | 0, _, _, _, h => h
  | fuel + 1, _, _, _, h => ⟨h.1, fun i hi => wpOp_mono (fun a' w' h' => wpAny_of_U fuel _ a' w' h'.2) (h.2 i hi)⟩

/-- who may come up does not wait for one that has not come up -/
theorem ready_not_on {listed : Array Bool} {i j : Nat} {oj : Oper} (hr : i ∈ Region.ready md ops listed) (hj : j ∈ Region.ready md ops listed) (hoj : ops[j]? = some oj) :
    ∀ e ∈ oj.after, Region.binds md e = true → e.on ≠ i := by
  obtain ⟨_, o, ho, hall⟩ := mem_ready.1 hj
  rw [hoj] at ho
  injection ho with ho
  subst ho
  have hun := (mem_ready.1 hr).1
  rintro e he hb rfl
  have hl := hall e he hb
  by_cases hs : e.on < listed.size
  · simp only [Array.getD_eq_getD_getElem?, Array.getElem?_eq_getElem hs, Option.getD_some] at hun hl
    exact Bool.noConfusion (hun.symm.trans hl)
  · simp only [Array.getD_eq_getD_getElem?, Array.getElem?_eq_none (Nat.le_of_not_lt hs), Option.getD_none] at hl
    cases hl

/-- number i can wait: it may come up, its value is known, and all goes well if it is taken now -/
structure CanWait (P : Program) (md : Region.Mode) (ops : Array Oper) (Q : Exit → Act → World → Prop) (S : World → Prop) (k i : Nat) (oi : Oper) (v : Value) (fuel : Nat) (listed : Array Bool) (a : Act) (w : World) : Prop where
  up : i ∈ Region.ready md ops listed
  apart : ∀ j oj, ops[j]? = some oj → j ≠ i → listed.getD j true = false → (∀ e ∈ oj.after, Region.binds md e = true → e.on ≠ i) → oi.apart ops oj = true
  val : YieldsIf P ops S oi v a
  holds : S w
  taken : wpAnyU P md ops Q S k fuel (listed.setIfInBounds i true) (a.put oi.dst v) w

section
variable {i : Nat} {oi : Oper} {v : Value}

/-- behind any other one that comes up, it still can -/
theorem CanWait.other (hi : ops[i]? = some oi) (hsel : ∀ (j : Nat) (o : Oper) cs b, ops[j]? = some o → o.op ≠ .select cs b)
    (hk : i ≠ k ∧ ∀ ok, ops[k]? = some ok → ∃ e ∈ ok.after, Region.binds md e = true ∧ e.on = i)
    (hQ : ∀ c a w, Q (.panic c) (a.put oi.dst v) w → Q (.panic c) a w) {fuel j : Nat} {listed : Array Bool} {a : Act} {w : World}
    (h : CanWait P md ops Q S k i oi v (fuel + 1) listed a w) (hj : j ∈ Region.ready md ops listed) (hne : j ≠ i) :
    wpOp P ops Q j (fun a' w' => (j ≠ k → S w') ∧ CanWait P md ops Q S k i oi v fuel (listed.setIfInBounds j true) a' w') a w := by
  obtain ⟨hun, oj, hoj, _⟩ := mem_ready.1 hj
  have hno := ready_not_on h.up hj hoj
  have hjk : j ≠ k := by
    rintro rfl
    obtain ⟨e, he, hb, hon⟩ := hk.2 oj hoj
    exact hno e he hb hon
  have hstep := h.taken.2 j (ready_mono hj hne)
  rw [Array.setIfInBounds_comm _ _ (Ne.symm hne)] at hstep
  refine wpOp_mono ?_ (wpOp_putIf hoj (h.apart j oj hoj hne hun hno) (hsel i oi · · hi) (hsel j oj · · hoj) hQ h.val hstep)
  rintro a' w' ⟨hval, hS, hrest⟩
  refine ⟨hS, ready_mono h.up (Ne.symm hne), fun m om hm hmi hml hmo => h.apart m om hm hmi ?_ hmo, hval, hS hjk, hrest⟩
  by_cases hjm : j = m
  · exact hjm ▸ hun
  · rwa [getD_set_ne true hjm] at hml

/-- so all goes well whenever it comes up -/
theorem CanWait.any (hi : ops[i]? = some oi) (hsel : ∀ (j : Nat) (o : Oper) cs b, ops[j]? = some o → o.op ≠ .select cs b)
    (hk : i ≠ k ∧ ∀ ok, ops[k]? = some ok → ∃ e ∈ ok.after, Region.binds md e = true ∧ e.on = i)
    (hQ : ∀ c a w, Q (.panic c) (a.put oi.dst v) w → Q (.panic c) a w) (fuel : Nat) :
    ∀ {listed : Array Bool} {a : Act} {w : World}, CanWait P md ops Q S k i oi v fuel listed a w → wpAnyU P md ops Q S k (fuel + 1) listed a w := by
  induction fuel with
  | zero =>
    intro listed a w h
    refine ⟨fun hnil => absurd h.up (by simp [hnil]), fun j hj => ?_⟩
    rcases Nat.decEq j i with hne | rfl
    · exact absurd (ready_mono hj hne) (by simp [h.taken.1])
    · exact h.val.wpOp hi h.holds ⟨fun _ => h.holds, h.taken⟩
  | succ fuel ih =>
    intro listed a w h
    refine ⟨fun hnil => absurd h.up (by simp [hnil]), fun j hj => ?_⟩
    rcases Nat.decEq j i with hne | rfl
    · exact wpOp_mono (fun _ _ hc => ⟨hc.1, ih hc.2⟩) (h.other hi hsel hk hQ hj hne)
    · exact h.val.wpOp hi h.holds ⟨fun _ => h.holds, h.taken⟩

end

/-- does number k wait for number i? -/
def waits (md : Region.Mode) (ops : Array Oper) (k i : Nat) : Bool := i != k && ((ops[k]?).map (·.after.any fun e => Region.binds md e && e.on == i)).getD true

theorem waits_spec {i : Nat} (h : waits md ops k i = true) : i ≠ k ∧ ∀ ok, ops[k]? = some ok → ∃ e ∈ ok.after, Region.binds md e = true ∧ e.on = i := by
  unfold waits at h
  rw [Bool.and_eq_true] at h
  refine ⟨by simpa using h.1, fun ok hok => ?_⟩
  have h2 := h.2
  rw [hok] at h2
  simp only [Option.map_some, Option.getD_some, Array.any_eq_true] at h2
  obtain ⟨j, hj, h3⟩ := h2
  rw [Bool.and_eq_true] at h3
  exact ⟨ok.after[j], Array.getElem_mem hj, h3.1, by simpa using h3.2⟩

theorem wpAnyU_take {i : Nat} {oi : Oper} {v : Value} {fuel : Nat} {listed : Array Bool} {a : Act} {w : World} (hi : ops[i]? = some oi)
    (hs : Region.noSelect ops = true) (hf : Region.free md ops listed i = true) (hr : (Region.ready md ops listed).contains i = true) (hk : waits md ops k i = true)
    (hQ : ∀ c a w, Q (.panic c) (a.put oi.dst v) w → Q (.panic c) a w) (hy : YieldsIf P ops S oi v a) (hS : S w)
    (h : wpAnyU P md ops Q S k fuel (listed.setIfInBounds i true) (a.put oi.dst v) w) : wpAnyU P md ops Q S k (fuel + 1) listed a w :=
  CanWait.any hi (Region.noSelect_spec hs) (waits_spec hk) hQ fuel ⟨by simpa using hr, Region.free_spec hi hf, hy, hS, h⟩

/-- only number i may come up -/
theorem wpAnyU_one {i : Nat} {o : Oper} {fuel : Nat} {listed : Array Bool} {a : Act} {w : World} (ho : ops[i]? = some o) (hr : Region.ready md ops listed = [i])
    (h : ∀ K' : Act → World → Prop, Shut (∀ a w, ((i ≠ k → S w) ∧ wpAnyU P md ops Q S k fuel (listed.setIfInBounds i true) a w) → K' a w) → if Region.wanted o (yielded ops a.tmps) = true then Oper.wp P o a w K' Q else K' (a.put o.dst undef) w) : wpAnyU P md ops Q S k (fuel + 1) listed a w := by
  refine ⟨fun h0 => (by rw [hr] at h0; cases h0), fun j hj => ?_⟩
  rw [hr] at hj
  have : j = i := by simpa using hj
  subst this
  exact wpOp_step ho (fun K' hK => h K' (fun a w hS => hK a w hS))

theorem wpAnyU_done {listed : Array Bool} {a : Act} {w : World} (hr : Region.ready md ops listed = []) (h : Q .normal a w) :
    ∀ fuel, wpAnyU P md ops Q S k fuel listed a w
  | 0 => ⟨hr, h⟩
  | _ + 1 => ⟨fun _ => h, by rw [hr]; simp⟩

theorem wp_region_U (S : World → Prop) (k : Nat) {id : Nat} {a : Act} {w : World} (hm : P.follows .mixedOrders = true) (hS : S w.drew)
    (h : S w.drew → wpAnyU P .any ops Q S k ops.size (Array.replicate ops.size false) a w.drew) : (Code.region id ops true).wp P Q a w :=
  wp_region_any hm (wpAny_of_U _ _ _ _ (h hS))

end
end Go.Proofs.Yteehgcbjmdideaa

/- A region that draws its order, some of whose operations are fatal to what is held: a load may be taken first where all the fatal ones wait for it; what looks at no memory may be taken first in any case. What is held need hold only till a fatal one has come up. -/
namespace Go.Proofs.Yteehgcbjmdideaa
open Go

section
variable {P : Program} {ops : Array Oper} {Q : Exit → Act → World → Prop} {md : Region.Mode} {S : World → Prop} {fatal : List Nat}

/-- no fatal one has come up -/
def unl (fatal : List Nat) (listed : Array Bool) : Prop := ∀ k ∈ fatal, listed.getD k false = false

theorem getD_set (listed : Array Bool) (i k : Nat) (h : i ≠ k) : (listed.setIfInBounds i true).getD k false = listed.getD k false := by
  simp only [Array.getD_eq_getD_getElem?, Array.getElem?_setIfInBounds_ne h]

theorem unl_set {listed : Array Bool} {i : Nat} (hi : i ∉ fatal) : unl fatal (listed.setIfInBounds i true) ↔ unl fatal listed := by
  unfold unl
  constructor
  · intro h k hk
    rw [← getD_set listed i k (fun e => hi (e ▸ hk))]
    exact h k hk
  · intro h k hk
    rw [getD_set listed i k (fun e => hi (e ▸ hk))]
    exact h k hk

/-- whatever order is picked from here on, and S holds till a fatal one has come up -/
def wpAnyF (P : Program) (md : Region.Mode) (ops : Array Oper) (Q : Exit → Act → World → Prop) (S : World → Prop) (fatal : List Nat) : Nat → Array Bool → Act → World → Prop
  | 0, listed, a, w => Region.ready md ops listed = [] ∧ Q .normal a w
  | fuel + 1, listed, a, w =>
    (Region.ready md ops listed = [] → Q .normal a w) ∧
    ∀ i ∈ Region.ready md ops listed, wpOp P ops Q i (fun a' w' => (unl fatal (listed.setIfInBounds i true) → S w') ∧ wpAnyF P md ops Q S fatal fuel (listed.setIfInBounds i true) a' w') a w

theorem wpAny_of_F : ∀ (fuel : Nat) (listed : Array Bool) (a : Act) (w : World), wpAnyF P md ops Q S fatal fuel listed a w → wpAny P md ops Q fuel listed a w
  | 0, _, _, _, h => h
  | fuel + 1, _, _, _, h => ⟨h.1, fun i hi => wpOp_mono (fun a' w' h' => wpAny_of_F fuel _ a' w' h'.2) (h.2 i hi)⟩

/-- number i can wait: it may come up, its value is known under R, and all goes well if it is taken now -/
structure CanF (P : Program) (md : Region.Mode) (ops : Array Oper) (Q : Exit → Act → World → Prop) (S R : World → Prop) (fatal : List Nat) (i : Nat) (oi : Oper) (v : Value) (fuel : Nat) (listed : Array Bool) (a : Act) (w : World) : Prop where
  up : i ∈ Region.ready md ops listed
  apart : ∀ j oj, ops[j]? = some oj → j ≠ i → listed.getD j true = false → (∀ e ∈ oj.after, Region.binds md e = true → e.on ≠ i) → oi.apart ops oj = true
  val : YieldsIf P ops R oi v a
  known : R w
  holds : unl fatal listed → S w
  taken : wpAnyF P md ops Q S fatal fuel (listed.setIfInBounds i true) (a.put oi.dst v) w

section
variable {i : Nat} {oi : Oper} {v : Value} {R : World → Prop}

theorem CanF.other (hi : ops[i]? = some oi) (hsel : ∀ (j : Nat) (o : Oper) cs b, ops[j]? = some o → o.op ≠ .select cs b) (hif : i ∉ fatal)
    (hQ : ∀ c a w, Q (.panic c) (a.put oi.dst v) w → Q (.panic c) a w) {fuel j : Nat} {listed : Array Bool} {a : Act} {w : World}
    (hR : ∀ w', (unl fatal (listed.setIfInBounds j true) → S w') → R w')
    (h : CanF P md ops Q S R fatal i oi v (fuel + 1) listed a w) (hj : j ∈ Region.ready md ops listed) (hne : j ≠ i) :
    wpOp P ops Q j (fun a' w' => (unl fatal (listed.setIfInBounds j true) → S w') ∧ CanF P md ops Q S R fatal i oi v fuel (listed.setIfInBounds j true) a' w') a w := by
  obtain ⟨hun, oj, hoj, _⟩ := mem_ready.1 hj
  have hno := ready_not_on h.up hj hoj
  have hstep := h.taken.2 j (ready_mono hj hne)
  rw [Array.setIfInBounds_comm _ _ (Ne.symm hne)] at hstep
  refine wpOp_mono ?_ (wpOp_putIf hoj (h.apart j oj hoj hne hun hno) (hsel i oi · · hi) (hsel j oj · · hoj) hQ h.val hstep)
  rintro a' w' ⟨hval, hS, hrest⟩
  have hS' : unl fatal (listed.setIfInBounds j true) → S w' := fun hu => hS ((unl_set hif).2 hu)
  refine ⟨hS', ready_mono h.up (Ne.symm hne), fun m om hm hmi hml hmo => h.apart m om hm hmi ?_ hmo, hval, hR w' hS', hS', hrest⟩
  by_cases hjm : j = m
  · exact hjm ▸ hun
  · rwa [getD_set_ne true hjm] at hml

/-- what looks at no memory -/
theorem CanF.free (hi : ops[i]? = some oi) (hsel : ∀ (j : Nat) (o : Oper) cs b, ops[j]? = some o → o.op ≠ .select cs b) (hif : i ∉ fatal)
    (hQ : ∀ c a w, Q (.panic c) (a.put oi.dst v) w → Q (.panic c) a w) (fuel : Nat) :
    ∀ {listed : Array Bool} {a : Act} {w : World}, CanF P md ops Q S (fun _ => True) fatal i oi v fuel listed a w → wpAnyF P md ops Q S fatal (fuel + 1) listed a w := by
  induction fuel with
  | zero =>
    intro listed a w h
    refine ⟨fun hnil => absurd h.up (by simp [hnil]), fun j hj => ?_⟩
    rcases Nat.decEq j i with hne | rfl
    · exact absurd (ready_mono hj hne) (by simp [h.taken.1])
    · exact h.val.wpOp hi trivial ⟨fun hu => h.holds ((unl_set hif).1 hu), h.taken⟩
  | succ fuel ih =>
    intro listed a w h
    refine ⟨fun hnil => absurd h.up (by simp [hnil]), fun j hj => ?_⟩
    rcases Nat.decEq j i with hne | rfl
    · exact wpOp_mono (fun _ _ hc => ⟨hc.1, ih hc.2⟩) (h.other hi hsel hif hQ (fun _ _ => trivial) hj hne)
    · exact h.val.wpOp hi trivial ⟨fun hu => h.holds ((unl_set hif).1 hu), h.taken⟩

/-- a load for which all the fatal ones wait -/
theorem CanF.held (hi : ops[i]? = some oi) (hsel : ∀ (j : Nat) (o : Oper) cs b, ops[j]? = some o → o.op ≠ .select cs b) (hif : i ∉ fatal)
    (hk : ∀ k ∈ fatal, waits md ops k i = true) (hQ : ∀ c a w, Q (.panic c) (a.put oi.dst v) w → Q (.panic c) a w) (fuel : Nat) :
    ∀ {listed : Array Bool} {a : Act} {w : World}, unl fatal listed → CanF P md ops Q S S fatal i oi v fuel listed a w → wpAnyF P md ops Q S fatal (fuel + 1) listed a w := by
  induction fuel with
  | zero =>
    intro listed a w hu h
    refine ⟨fun hnil => absurd h.up (by simp [hnil]), fun j hj => ?_⟩
    rcases Nat.decEq j i with hne | rfl
    · exact absurd (ready_mono hj hne) (by simp [h.taken.1])
    · exact h.val.wpOp hi h.known ⟨fun _ => h.known, h.taken⟩
  | succ fuel ih =>
    intro listed a w hu h
    refine ⟨fun hnil => absurd h.up (by simp [hnil]), fun j hj => ?_⟩
    rcases Nat.decEq j i with hne | rfl
    · have hjf : j ∉ fatal := by
        intro hm
        obtain ⟨_, oj, hoj, _⟩ := mem_ready.1 hj
        obtain ⟨e, he, hb, hon⟩ := (waits_spec (hk j hm)).2 oj hoj
        exact ready_not_on h.up hj hoj e he hb hon
      have hu' : unl fatal (listed.setIfInBounds j true) := (unl_set hjf).2 hu
      exact wpOp_mono (fun _ _ hc => ⟨hc.1, ih hu' hc.2⟩) (h.other hi hsel hif hQ (fun _ hS => hS hu') hj hne)
    · exact h.val.wpOp hi h.known ⟨fun _ => h.known, h.taken⟩

end

def unlB (fatal : List Nat) (listed : Array Bool) : Bool := fatal.all fun k => listed.getD k false == false
theorem unlB_spec {listed : Array Bool} (h : unlB fatal listed = true) : unl fatal listed := fun k hk => by
  have := List.all_eq_true.1 h k hk
  simpa using this

theorem wpAnyF_take {i : Nat} {oi : Oper} {v : Value} {fuel : Nat} {listed : Array Bool} {a : Act} {w : World} (hi : ops[i]? = some oi)
    (hs : Region.noSelect ops = true) (hf : Region.free md ops listed i = true) (hr : (Region.ready md ops listed).contains i = true) (hk : (!fatal.contains i && unlB fatal listed && fatal.all fun k => waits md ops k i) = true)
    (hQ : ∀ c a w, Q (.panic c) (a.put oi.dst v) w → Q (.panic c) a w) (hy : YieldsIf P ops S oi v a) (hS : S w)
    (h : wpAnyF P md ops Q S fatal fuel (listed.setIfInBounds i true) (a.put oi.dst v) w) : wpAnyF P md ops Q S fatal (fuel + 1) listed a w := by
  rw [Bool.and_eq_true, Bool.and_eq_true] at hk
  exact CanF.held hi (Region.noSelect_spec hs) (by simpa using hk.1.1) (fun k hm => List.all_eq_true.1 hk.2 k hm) hQ fuel (unlB_spec hk.1.2) ⟨by simpa using hr, Region.free_spec hi hf, hy, hS, fun _ => hS, h⟩

theorem wpAnyF_free {i : Nat} {oi : Oper} {v : Value} {fuel : Nat} {listed : Array Bool} {a : Act} {w : World} (hi : ops[i]? = some oi)
    (hs : Region.noSelect ops = true) (hf : Region.free md ops listed i = true) (hr : (Region.ready md ops listed).contains i = true) (hk : (!fatal.contains i) = true)
    (hQ : ∀ c a w, Q (.panic c) (a.put oi.dst v) w → Q (.panic c) a w) (hy : YieldsIf P ops (fun _ => True) oi v a) (hS : S w)
    (h : wpAnyF P md ops Q S fatal fuel (listed.setIfInBounds i true) (a.put oi.dst v) w) : wpAnyF P md ops Q S fatal (fuel + 1) listed a w :=
  CanF.free hi (Region.noSelect_spec hs) (by simpa using hk) hQ fuel ⟨by simpa using hr, Region.free_spec hi hf, hy, trivial, fun _ => hS, h⟩

/-- only number i may come up -/
theorem wpAnyF_one {i : Nat} {o : Oper} {fuel : Nat} {listed : Array Bool} {a : Act} {w : World} (ho : ops[i]? = some o) (hr : Region.ready md ops listed = [i])
    (h : ∀ K' : Act → World → Prop, Shut (∀ a w, ((unl fatal (listed.setIfInBounds i true) → S w) ∧ wpAnyF P md ops Q S fatal fuel (listed.setIfInBounds i true) a w) → K' a w) → if Region.wanted o (yielded ops a.tmps) = true then Oper.wp P o a w K' Q else K' (a.put o.dst undef) w) : wpAnyF P md ops Q S fatal (fuel + 1) listed a w := by
  refine ⟨fun h0 => (by rw [hr] at h0; cases h0), fun j hj => ?_⟩
  rw [hr] at hj
  have : j = i := by simpa using hj
  subst this
  exact wpOp_step ho (fun K' hK => h K' (fun a w hS => hK a w hS))

theorem wpAnyF_done {listed : Array Bool} {a : Act} {w : World} (hr : Region.ready md ops listed = []) (h : Q .normal a w) :
    ∀ fuel, wpAnyF P md ops Q S fatal fuel listed a w
  | 0 => ⟨hr, h⟩
  | _ + 1 => ⟨fun _ => h, by rw [hr]; simp⟩

/-- a fatal one has come up -/
theorem unl_no {listed : Array Bool} (h : unlB fatal listed = false) : ¬ unl fatal listed := fun hu => by
  have : unlB fatal listed = true := List.all_eq_true.2 fun k hk => by simpa using hu k hk
  rw [h] at this
  cases this

theorem wp_region_F (S : World → Prop) (fatal : List Nat) {id : Nat} {a : Act} {w : World} (hm : P.follows .mixedOrders = true) (hS : S w.drew)
    (h : S w.drew → wpAnyF P .any ops Q S fatal ops.size (Array.replicate ops.size false) a w.drew) : (Code.region id ops true).wp P Q a w :=
  wp_region_any hm (wpAny_of_F _ _ _ _ (h hS))

end
end Go.Proofs.Yteehgcbjmdideaa

/- What is pushed: ends and arcs, from what it costs to come to an end. -/
namespace Go.Proofs.Yteehgcbjmdideaa

def pf (t x : Int) : Int := if x = -1 then x else x - t
def pushF (to fin : List Int) (k : Nat) : List Int := (List.range k).map fun i => pf (gI to i) (fin.getD i 0)
theorem pushF_succ (to fin : List Int) (k : Nat) : pushF to fin (k + 1) = pushF to fin k ++ [pf (gI to k) (fin.getD k 0)] := by simp [pushF, List.range_succ]
theorem pushF_len (to fin : List Int) (k : Nat) : (pushF to fin k).length = k := by simp [pushF]

/-- does a way lead on from both ends? -/
def stayA (to : List Int) (a : ArcD) : Bool := (gI to a.src.toNat != -1) && (gI to a.dst.toNat != -1)
def pushArc (to : List Int) (a : ArcD) : ArcD := ⟨a.src, a.inp, a.out, a.dst, a.wt + (gI to a.dst.toNat - gI to a.src.toNat)⟩
def pushA (to : List Int) (l : List ArcD) : List ArcD := (l.filter (stayA to)).map (pushArc to)
theorem pushA_len (to : List Int) (l : List ArcD) : (pushA to l).length ≤ l.length := by
  unfold pushA
  rw [List.length_map]
  exact List.length_filter_le _ _
theorem pushA_take (to : List Int) (l : List ArcD) (k : Nat) (a : ArcD) (hk : k < l.length) (ha : a = l.getD k a0) : pushA to (l.take (k + 1)) = pushA to (l.take k) ++ if stayA to a = true then [pushArc to a] else [] := by
  have h : l[k]? = some a := by rw [ha]; simp [List.getD, hk]
  rw [List.take_add_one, h]
  unfold pushA
  rw [List.filter_append, List.map_append]
  congr 1
  cases hs : stayA to a <;> simp [hs]

def greatA (l : List ArcD) : Bool := l.any fun a => decide (1000000000 < a.wt)

/-- what Push answers, if it costs so much to come to an end -/
def pushD (f : FstD) (to : List Int) : FstD × Int × Int :=
  if gI to f.start.toNat = -1 then (⟨f.states, f.start, f.final, []⟩, -1, 0)
  else if greatA (pushA to f.arcs) = true then (⟨0, 0, [], []⟩, 0, 2)
  else (⟨f.states, f.start, pushF to f.final f.final.length, pushA to f.arcs⟩, gI to f.start.toNat, 0)

end Go.Proofs.Yteehgcbjmdideaa

/- Arcs in their order, each ahead of all behind it; what Check passes. -/
namespace Go.Proofs.Yteehgcbjmdideaa

theorem ahead_iff (a b : ArcD) : aheadB a b = true ↔ a.src < b.src ∨ (a.src = b.src ∧ (a.inp < b.inp ∨ (a.inp = b.inp ∧ (a.out < b.out ∨ (a.out = b.out ∧ a.dst < b.dst))))) := by
  unfold aheadB
  by_cases h0 : a.src = b.src
  · rw [if_neg (by simpa using h0)]
    by_cases h1 : a.inp = b.inp
    · rw [if_neg (by simpa using h1)]
      by_cases h2 : a.out = b.out
      · rw [if_neg (by simpa using h2), decide_eq_true_iff]
        omega
      · rw [if_pos h2, decide_eq_true_iff]
        omega
    · rw [if_pos h1, decide_eq_true_iff]
      omega
  · rw [if_pos h0, decide_eq_true_iff]
    omega

theorem ahead_trans {a b c : ArcD} (h1 : aheadB a b = true) (h2 : aheadB b c = true) : aheadB a c = true := by
  rw [ahead_iff] at *
  omega

theorem ahead_irrefl (a : ArcD) : aheadB a a = false := by
  rw [Bool.eq_false_iff]
  intro h
  rw [ahead_iff] at h
  omega

theorem arcErr_mk {st : Int} {p : Option ArcD} {a : ArcD} (h : ArcOk st a) (hp : ∀ q, p = some q → aheadB q a = true) : arcErr st p a = 0 := by
  unfold arcErr
  rw [h.src, h.dst, h.inp, h.out, h.wt]
  cases p with
  | none => rfl
  | some q => simp [hp q rfl]

theorem arcErr_ahead {st : Int} {q a : ArcD} (h : arcErr st (some q) a = 0) : aheadB q a = true := by
  have k := arcErr_ok _ _ _ h
  unfold arcErr at h
  rw [k.src, k.dst, k.inp, k.out, k.wt] at h
  cases e : aheadB q a with
  | true => rfl
  | false => simp [e] at h

theorem arcsErr_mk {st : Int} (l : List ArcD) : ∀ (p : Option ArcD), (∀ a ∈ l, ArcOk st a) → l.Pairwise (fun a b => aheadB a b = true) → (∀ q, p = some q → ∀ x ∈ l, aheadB q x = true) → arcsErr st p l = 0 := by
  induction l with
  | nil => intro p _ _ _; rfl
  | cons a l ih =>
    intro p h1 h2 h3
    rw [List.pairwise_cons] at h2
    rw [arcsErr, if_pos (arcErr_mk (h1 a (by simp)) (fun q hq => h3 q hq a (by simp)))]
    refine ih _ (fun b hb => h1 b (by simp [hb])) h2.2 (fun q hq x hx => ?_)
    injection hq with hq
    subst hq
    exact h2.1 x hx

theorem arcsErr_order {st : Int} (l : List ArcD) : ∀ (p : Option ArcD), arcsErr st p l = 0 → l.Pairwise (fun a b => aheadB a b = true) ∧ ∀ q, p = some q → ∀ x ∈ l, aheadB q x = true := by
  induction l with
  | nil => intro p _; exact ⟨List.Pairwise.nil, fun _ _ x hx => by cases hx⟩
  | cons a l ih =>
    intro p h
    rw [arcsErr] at h
    by_cases e : arcErr st p a = 0
    · rw [if_pos e] at h
      obtain ⟨g1, g2⟩ := ih _ h
      refine ⟨List.pairwise_cons.2 ⟨fun x hx => g2 a rfl x hx, g1⟩, fun q hq x hx => ?_⟩
      subst hq
      have e1 := arcErr_ahead e
      rcases List.mem_cons.1 hx with rfl | hx
      · exact e1
      · exact ahead_trans e1 (g2 a rfl x hx)
    · rw [if_neg e] at h; exact absurd h e

/-- what Check passes -/
structure Fine (f : FstD) : Prop where
  s1 : 1 ≤ f.states
  s2 : f.states ≤ 200
  b1 : 0 ≤ f.start
  b2 : f.start < f.states
  len : (f.final.length : Int) = f.states
  fin : ∀ x ∈ f.final, x = -1 ∨ (0 ≤ x ∧ x ≤ 1000000000)
  many : f.arcs.length ≤ 3000
  arcs : ∀ a ∈ f.arcs, ArcOk f.states a
  ord : f.arcs.Pairwise (fun a b => aheadB a b = true)

theorem fine_of {f : FstD} (h : checkD f = 0) : Fine f := by
  have k := check_ok f h
  have k0 := k.states
  have k1 := k.start
  simp [inB] at k0 k1
  exact ⟨k0.1, k0.2, k1.1, by omega, k.len, fun x hx => (finB_out (k.fin x hx)).1, k.many, k.arcs, (arcsErr_order _ _ k.err).1⟩

theorem Fine.check {f : FstD} (h : Fine f) : checkD f = 0 := by
  have e0 : inB f.states 1 200 = true := by simp [inB]; exact ⟨h.s1, h.s2⟩
  have e1 : inB f.start 0 (f.states - 1) = true := by simp [inB]; have := h.b1; have := h.b2; omega
  have e3 : f.final.any finB = false := by
    rw [List.any_eq_false]
    intro x hx
    have := h.fin x hx
    unfold finB inB
    rcases this with rfl | ⟨g1, g2⟩
    · decide
    · simp; omega
  unfold checkD
  rw [e0, e1, e3]
  have e2 : ¬ (f.final.length : Int) ≠ f.states := fun hh => hh h.len
  have e4 : ¬ 3000 < f.arcs.length := by have := h.many; omega
  simp only [Bool.not_true, Bool.false_eq_true, if_false, if_neg e2, if_neg e4]
  exact arcsErr_mk _ _ h.arcs h.ord (fun q hq => by cases hq)

theorem fine_iff {f : FstD} : checkD f = 0 ↔ Fine f := ⟨fine_of, Fine.check⟩
end Go.Proofs.Yteehgcbjmdideaa
