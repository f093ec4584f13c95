/- Transducers as plain data: an arc of five numbers, a transducer; the order of arcs; what Check says. -/
import Derived.Lib.Join
import Derived.Lib.ItoaLen
import Derived.Lib.UnsafeStr
import Derived.OrdersHeld
import Derived.Deep.RegionHeld
import Derived.Deep.DrawnRows
import Derived.Lib.Split
import Derived.Lib.SplitLaws
import Derived.Lib.IndexMore
import Derived.Lib.IndexBytes
namespace Go.Proofs.YteehgcbjmdideaaGreatDoor

structure ArcD where
  src : Int
  inp : Int
  out : Int
  dst : Int
  wt : Int

structure FstD where
  states : Int
  start : Int
  final : List Int
  arcs : List ArcD

/-- an arc of noughts -/
def a0 : ArcD := ⟨0, 0, 0, 0, 0⟩

def decA (x y : ArcD) : Decidable (x = y) :=
  decidable_of_iff (x.src = y.src ∧ x.inp = y.inp ∧ x.out = y.out ∧ x.dst = y.dst ∧ x.wt = y.wt) (by cases x; cases y; simp)
def decAs (x y : List ArcD) : Decidable (x = y) := @instDecidableEqList ArcD decA x y

def inB (n a b : Int) : Bool := decide (a ≤ n) && decide (n ≤ b)
def cmpI (a b : Int) : Int := if a < b then -1 else if b < a then 1 else 0
def orI (xs : List Int) : Int := (xs.find? (· != 0)).getD 0
def cmpArc (a b : ArcD) : Int := orI [cmpI a.src b.src, cmpI a.inp b.inp, cmpI a.out b.out, cmpI a.dst b.dst]

/-- does one arc stand ahead of another one? -/
def aheadB (a b : ArcD) : Bool :=
  if a.src ≠ b.src then decide (a.src < b.src) else if a.inp ≠ b.inp then decide (a.inp < b.inp) else if a.out ≠ b.out then decide (a.out < b.out) else decide (a.dst < b.dst)

theorem cmpI_neg (a b : Int) : cmpI a b < 0 ↔ a < b := by unfold cmpI; split <;> (try split) <;> omega
theorem cmpI_zero (a b : Int) : cmpI a b = 0 ↔ a = b := by unfold cmpI; split <;> (try split) <;> omega

theorem cmpArc_ahead (a b : ArcD) : decide (0 ≤ cmpArc a b) = !aheadB a b := by
  unfold cmpArc orI aheadB
  have h0 := cmpI_zero a.src b.src
  have h1 := cmpI_zero a.inp b.inp
  have h2 := cmpI_zero a.out b.out
  have h3 := cmpI_zero a.dst b.dst
  have n0 := cmpI_neg a.src b.src
  have n1 := cmpI_neg a.inp b.inp
  have n2 := cmpI_neg a.out b.out
  have n3 := cmpI_neg a.dst b.dst
  generalize cmpI a.src b.src = c0 at *
  generalize cmpI a.inp b.inp = c1 at *
  generalize cmpI a.out b.out = c2 at *
  generalize cmpI a.dst b.dst = c3 at *
  by_cases e0 : c0 = 0
  · by_cases e1 : c1 = 0
    · by_cases e2 : c2 = 0
      · by_cases e3 : c3 = 0
        · simp [e0, e1, e2, e3, h0.1 e0, h1.1 e1, h2.1 e2, h3.1 e3]
        · have e3' : (c3 == 0) = false := by simpa using e3
          simp [List.find?, e0, e1, e2, bne, e3', h0.1 e0, h1.1 e1, h2.1 e2]
          rw [Bool.eq_iff_iff]; simp; omega
      · have e2' : (c2 == 0) = false := by simpa using e2
        simp [List.find?, e0, e1, bne, e2', h0.1 e0, h1.1 e1, mt h2.2 e2]
        rw [Bool.eq_iff_iff]; simp; omega
    · have e1' : (c1 == 0) = false := by simpa using e1
      simp [List.find?, e0, bne, e1', h0.1 e0, mt h1.2 e1]
      rw [Bool.eq_iff_iff]; simp; omega
  · have e0' : (c0 == 0) = false := by simpa using e0
    simp [List.find?, bne, e0', mt h0.2 e0]
    rw [Bool.eq_iff_iff]; simp; omega

/-- what is told of one arc, p the one ahead of it -/
def arcErr (st : Int) (p : Option ArcD) (a : ArcD) : Int :=
  if !inB a.src 0 (st - 1) || !inB a.dst 0 (st - 1) then 5
  else if !inB a.inp 0 9 || !inB a.out 0 9 || !inB a.wt 0 1000000000 then 3
  else match p with
    | some q => if aheadB q a then 0 else 4
    | none => 0

def arcsErr (st : Int) : Option ArcD → List ArcD → Int
  | _, [] => 0
  | p, a :: l => if arcErr st p a = 0 then arcsErr st (some a) l else arcErr st p a

def finB (x : Int) : Bool := (x != -1) && !(inB x 0 1000000000)

def checkD (f : FstD) : Int :=
  if !inB f.states 1 200 then 3
  else if !inB f.start 0 (f.states - 1) then 5
  else if (f.final.length : Int) ≠ f.states then 1
  else if f.final.any finB then 3
  else if 3000 < f.arcs.length then 2
  else arcsErr f.states none f.arcs

/-- the arc ahead of place k -/
def prevA (l : List ArcD) (k : Nat) : Option ArcD := if k = 0 then none else l[k - 1]?

theorem arcsErr_from (st : Int) (l : List ArcD) (k : Nat) (hk : k ≤ l.length) (h : ∀ j, j < k → arcErr st (prevA l j) (l.getD j a0) = 0) : arcsErr st none l = arcsErr st (prevA l k) (l.drop k) := by
  induction k with
  | zero => simp [prevA]
  | succ k ih =>
    rw [ih (by omega) (fun j hj => h j (by omega))]
    have hk' : k < l.length := by omega
    have e := h k (by omega)
    have hg : l.getD k a0 = l[k] := by simp [List.getD, hk']
    rw [hg] at e
    rw [List.drop_eq_getElem_cons hk', arcsErr, if_pos e]
    simp [prevA, hk']

theorem arcsErr_hit (st : Int) (l : List ArcD) (k : Nat) (hk : k < l.length) (h : ∀ j, j < k → arcErr st (prevA l j) (l.getD j a0) = 0) (he : arcErr st (prevA l k) (l.getD k a0) ≠ 0) :
    arcsErr st none l = arcErr st (prevA l k) (l.getD k a0) := by
  rw [arcsErr_from st l k (by omega) h, List.drop_eq_getElem_cons hk]
  have hg : l.getD k a0 = l[k] := by simp [List.getD, hk]
  rw [hg] at he ⊢
  rw [arcsErr, if_neg he]

theorem arcsErr_bad (st : Int) (l : List ArcD) (k : Nat) (a : ArcD) (v : Int) (hk : k < l.length) (h : ∀ j, j < k → arcErr st (prevA l j) (l.getD j a0) = 0) (ha : a = l.getD k a0) (he : arcErr st (prevA l k) a = v) (hv : v ≠ 0) :
    arcsErr st none l = v := by
  subst ha; subst he; exact arcsErr_hit st l k hk h hv

theorem arcsErr_on (st : Int) (l : List ArcD) (k : Nat) (a : ArcD) (h : ∀ j, j < k → arcErr st (prevA l j) (l.getD j a0) = 0) (ha : a = l.getD k a0) (he : arcErr st (prevA l k) a = 0) :
    ∀ j, j < k + 1 → arcErr st (prevA l j) (l.getD j a0) = 0 := by
  subst ha
  intro j hj
  by_cases e : j = k
  · subst e; exact he
  · exact h j (by omega)

theorem prevA_zero (l : List ArcD) (k : Nat) (h : (k : Int) ≤ 0) : prevA l k = none := by
  have : k = 0 := by omega
  simp [prevA, this]

theorem prevA_pos (l : List ArcD) (k : Nat) (p : ArcD) (h : 0 < k) (hk : k < l.length) (hp : p = l.getD (k - 1) a0) : prevA l k = some p := by
  have : k ≠ 0 := by omega
  subst hp
  simp [prevA, this, List.getD, show k - 1 < l.length by omega]

theorem arcsErr_miss (st : Int) (l : List ArcD) (h : ∀ j, j < l.length → arcErr st (prevA l j) (l.getD j a0) = 0) : arcsErr st none l = 0 := by
  rw [arcsErr_from st l l.length (Nat.le_refl _) h, List.drop_length, arcsErr]

end Go.Proofs.YteehgcbjmdideaaGreatDoor

/- The least that it costs to come to a state along edges: what both the program's search and the document's rounds reckon. -/
namespace Go.Proofs.YteehgcbjmdideaaGreatDoor.Sc

structure Edg where
  u : Nat
  v : Nat
  w : Int

def gI (c : List Int) (v : Nat) : Int := c.getD v (-1)

/-- a way of so many edges to v that costs x -/
def WayN (E : List Edg) (b : List Int) : Nat → Nat → Int → Prop
  | 0, v, x => gI b v = x ∧ 0 ≤ x
  | h + 1, v, x => ∃ e ∈ E, e.v = v ∧ ∃ c, WayN E b h e.u c ∧ x = c + e.w

/-- x is what it costs at least to come to v, or -1 -/
def IsLeast (E : List Edg) (b : List Int) (v : Nat) (x : Int) : Prop :=
  (x = -1 ∧ ∀ h c, ¬ WayN E b h v c) ∨ (0 ≤ x ∧ (∃ h, WayN E b h v x) ∧ ∀ h c, WayN E b h v c → x ≤ c)

section
variable {E : List Edg} {b : List Int}

theorem WayN.nonneg (hw : ∀ e ∈ E, 0 ≤ e.w) {h v : Nat} {x : Int} (H : WayN E b h v x) : 0 ≤ x := by
  induction h generalizing v x with
  | zero => exact H.2
  | succ h ih =>
    obtain ⟨e, he, _, c, hc, rfl⟩ := H
    have := ih hc
    have := hw e he
    omega

theorem IsLeast.unique {v : Nat} {x y : Int} (hx : IsLeast E b v x) (hy : IsLeast E b v y) : x = y := by
  rcases hx with ⟨rfl, h1⟩ | ⟨h0, ⟨h, hx⟩, h1⟩
  · rcases hy with ⟨rfl, _⟩ | ⟨_, ⟨h, hy⟩, _⟩
    · rfl
    · exact absurd hy (h1 h _)
  · rcases hy with ⟨_, h2⟩ | ⟨_, ⟨k, hy⟩, h2⟩
    · exact absurd hx (h2 h _)
    · have := h1 k _ hy
      have := h2 h _ hx
      omega

/-- among numbers that are not below nought there is a least one -/
theorem least_of (p : Int → Prop) (hp : ∀ x, p x → 0 ≤ x) (h : ∃ x, p x) : ∃ x, p x ∧ ∀ y, p y → x ≤ y := by
  obtain ⟨x, hx⟩ := h
  have key : ∀ n : Nat, ∀ x : Int, p x → x.toNat ≤ n → ∃ x, p x ∧ ∀ y, p y → x ≤ y := by
    intro n
    induction n with
    | zero =>
      intro x hx hn
      refine ⟨x, hx, fun y hy => ?_⟩
      have := hp x hx
      have := hp y hy
      omega
    | succ n ih =>
      intro x hx hn
      by_cases hl : ∃ y, p y ∧ y < x
      · obtain ⟨y, hy, hyx⟩ := hl
        have := hp y hy
        exact ih y hy (by omega)
      · refine ⟨x, hx, fun y hy => ?_⟩
        by_cases hyx : y < x
        · exact absurd ⟨y, hy, hyx⟩ hl
        · omega
  exact key x.toNat x hx (Nat.le_refl _)

theorem least_exists (hw : ∀ e ∈ E, 0 ≤ e.w) (v : Nat) : ∃ x, IsLeast E b v x := by
  by_cases h : ∃ x h, WayN E b h v x
  · obtain ⟨x, ⟨h, hx⟩, hl⟩ := least_of (fun x => ∃ h, WayN E b h v x) (fun x ⟨h, hx⟩ => hx.nonneg hw) h
    exact ⟨x, Or.inr ⟨hx.nonneg hw, ⟨h, hx⟩, fun k c hc => hl c ⟨k, hc⟩⟩⟩
  · exact ⟨-1, Or.inl ⟨rfl, fun k c hc => h ⟨c, k, hc⟩⟩⟩

/-- each price is that of a way, or there is none -/
def Ach (E : List Edg) (b c : List Int) : Prop := ∀ v, gI c v = -1 ∨ ∃ h, WayN E b h v (gI c v)
/-- no price is worse than another one -/
def Le1 (x y : Int) : Prop := 0 ≤ y → 0 ≤ x ∧ x ≤ y
def LeC (c d : List Int) : Prop := ∀ v, Le1 (gI c v) (gI d v)
/-- no edge makes a price better -/
def Fix (E : List Edg) (c : List Int) : Prop := ∀ e ∈ E, 0 ≤ gI c e.u → 0 ≤ gI c e.v ∧ gI c e.v ≤ gI c e.u + e.w

theorem fix_le {c : List Int} (hb : LeC c b) (hf : Fix E c) {h v : Nat} {x : Int} (H : WayN E b h v x) : 0 ≤ gI c v ∧ gI c v ≤ x := by
  induction h generalizing v x with
  | zero => obtain ⟨rfl, h0⟩ := H; exact hb v h0
  | succ h ih =>
    obtain ⟨e, he, rfl, y, hy, rfl⟩ := H
    obtain ⟨h1, h2⟩ := ih hy
    obtain ⟨h3, h4⟩ := hf e he h1
    exact ⟨h3, by omega⟩

theorem fix_least {c : List Int} (hw : ∀ e ∈ E, 0 ≤ e.w) (ha : Ach E b c) (hb : LeC c b) (hf : Fix E c) (v : Nat) : IsLeast E b v (gI c v) := by
  rcases ha v with h | ⟨h, hx⟩
  · refine Or.inl ⟨h, fun k y hy => ?_⟩
    have := (fix_le hb hf hy).1
    omega
  · exact Or.inr ⟨hx.nonneg hw, ⟨h, hx⟩, fun k y hy => (fix_le hb hf hy).2⟩

/-- what the one round makes of prices: no worse, of ways, and along each edge at least as good as before it -/
structure Round (E : List Edg) (b c d : List Int) : Prop where
  ach : Ach E b d
  le : LeC d c
  edge : ∀ e ∈ E, 0 ≤ gI c e.u → 0 ≤ gI d e.v ∧ gI d e.v ≤ gI c e.u + e.w

/-- is v's price the least one already? -/
def Done (E : List Edg) (b c : List Int) (v : Nat) : Prop := IsLeast E b v (gI c v)

theorem done_of_le {c : List Int} (ha : Ach E b c) {v : Nat} {x : Int} (hx : IsLeast E b v x) (h : Le1 (gI c v) x) (hn : x = -1 → gI c v = -1) : Done E b c v := by
  unfold Done
  have e : gI c v = x := by
    rcases hx with ⟨rfl, h1⟩ | ⟨h0, _, h2⟩
    · exact hn rfl
    · obtain ⟨h3, h4⟩ := h h0
      rcases ha v with h5 | ⟨k, h5⟩
      · omega
      · have := h2 k _ h5; omega
  rw [e]; exact hx

theorem ach_none {c : List Int} (ha : Ach E b c) {v : Nat} (h : ∀ k y, ¬ WayN E b k v y) : gI c v = -1 := by
  rcases ha v with h1 | ⟨k, h1⟩
  · exact h1
  · exact absurd h1 (h k _)

theorem Done.next {c d : List Int} {v : Nat} (h : Done E b c v) (hr : Round E b c d) : Done E b d v := by
  refine done_of_le hr.ach h (hr.le v) (fun e => ?_)
  rcases h with ⟨_, h1⟩ | ⟨h0, _⟩
  · exact ach_none hr.ach h1
  · omega

/-- a round that makes no new price the least one: all were -/
theorem all_done {c d : List Int} (hw : ∀ e ∈ E, 0 ≤ e.w) (hac : Ach E b c) (hbc : LeC c b) (hr : Round E b c d) (hno : ∀ v, Done E b d v → Done E b c v) (v : Nat) : Done E b c v := by
  have key : ∀ h v x, WayN E b h v x → IsLeast E b v x → Done E b c v := by
    intro h
    induction h with
    | zero =>
      intro v x H hx
      obtain ⟨rfl, h0⟩ := H
      exact done_of_le hac hx (hbc v) (fun e => by omega)
    | succ h ih =>
      intro v x H hx
      obtain ⟨e, he, rfl, y, hy, rfl⟩ := H
      have hy0 := hy.nonneg hw
      have hwe := hw e he
      have hly : IsLeast E b e.u y := by
        refine Or.inr ⟨hy0, ⟨h, hy⟩, fun k z hz => ?_⟩
        rcases hx with ⟨hx, _⟩ | ⟨_, _, hx⟩
        · omega
        · have := hx (k + 1) (z + e.w) ⟨e, he, rfl, z, hz, rfl⟩
          omega
      have hdu := ih e.u y hy hly
      have hcu : gI c e.u = y := IsLeast.unique hdu hly
      apply hno
      obtain ⟨h1, h2⟩ := hr.edge e he (by omega)
      exact done_of_le hr.ach hx (fun _ => ⟨h1, by omega⟩) (fun hh => by omega)
  obtain ⟨x, hx⟩ := least_exists (b := b) hw v
  rcases hx with ⟨rfl, h1⟩ | ⟨h0, ⟨k, hk⟩, h2⟩
  · exact Or.inl ⟨ach_none hac h1, h1⟩
  · exact key k v x hk (Or.inr ⟨h0, ⟨k, hk⟩, h2⟩)

theorem filter_le (a : Nat) (l : List Nat) (hn : l.Nodup) : l.length ≤ (l.filter (· != a)).length + 1 := by
  induction l with
  | nil => simp
  | cons x l ih =>
    obtain ⟨hx, hl⟩ := List.nodup_cons.1 hn
    by_cases e : x = a
    · subst e
      have : l.filter (· != x) = l := List.filter_eq_self.2 fun y hy => by
        simp only [bne_iff_ne, ne_eq]
        intro h; subst h; exact hx hy
      simp [this]
    · have := ih hl
      simp [e]; omega

theorem nodup_le (n : Nat) (l : List Nat) (hn : l.Nodup) (hl : ∀ x ∈ l, x < n) : l.length ≤ n := by
  induction n generalizing l with
  | zero =>
    cases l with
    | nil => simp
    | cons x l => exact absurd (hl x (by simp)) (by omega)
  | succ n ih =>
    have h1 := filter_le n l hn
    have h2 := ih (l.filter (· != n)) (hn.filter _) (fun x hx => by
      obtain ⟨h3, h4⟩ := List.mem_filter.1 hx
      have := hl x h3
      simp at h4
      omega)
    omega

/-- as many rounds as there are states: all prices are the least ones -/
theorem rounds_least (n : Nat) (cs : Nat → List Int) (hw : ∀ e ∈ E, 0 ≤ e.w) (hout : ∀ v h x, WayN E b h v x → v < n) (ha : Ach E b (cs 0)) (hb : LeC (cs 0) b) (hr : ∀ r, r < n → Round E b (cs r) (cs (r + 1))) (v : Nat) : IsLeast E b v (gI (cs n) v) := by
  have hach : ∀ r, r ≤ n → Ach E b (cs r) := by
    intro r
    induction r with
    | zero => intro _; exact ha
    | succ r _ => intro h; exact (hr r (by omega)).ach
  have hle : ∀ r, r ≤ n → LeC (cs r) b := by
    intro r
    induction r with
    | zero => intro _; exact hb
    | succ r ih =>
      intro h v h0
      obtain ⟨h1, h2⟩ := ih (by omega) v h0
      obtain ⟨h3, h4⟩ := (hr r (by omega)).le v h1
      exact ⟨h3, by omega⟩
  have hfar : ∀ r, r ≤ n → ∀ v, ¬ v < n → Done E b (cs r) v := by
    intro r h v hv
    have hno : ∀ k y, ¬ WayN E b k v y := fun k y hy => hv (hout v k y hy)
    exact Or.inl ⟨ach_none (hach r h) hno, hno⟩
  have key : ∀ r, r ≤ n → (∀ v, Done E b (cs r) v) ∨ ∃ l : List Nat, l.Nodup ∧ l.length = r ∧ ∀ x ∈ l, x < n ∧ Done E b (cs r) x := by
    intro r
    induction r with
    | zero => intro _; exact Or.inr ⟨[], by simp⟩
    | succ r ih =>
      intro h
      have hR := hr r (by omega)
      rcases ih (by omega) with hd | ⟨l, hl1, hl2, hl3⟩
      · exact Or.inl fun v => (hd v).next hR
      · by_cases hno : ∀ v, Done E b (cs (r + 1)) v → Done E b (cs r) v
        · exact Or.inl fun v => (all_done hw (hach r (by omega)) (hle r (by omega)) hR hno v).next hR
        · right
          obtain ⟨v, hv⟩ := Classical.not_forall.1 hno
          obtain ⟨h1, h2⟩ := Classical.not_imp.1 hv
          have hvn : v < n := by
            by_cases hh : v < n
            · exact hh
            · exact absurd (hfar r (by omega) v hh) h2
          refine ⟨v :: l, List.nodup_cons.2 ⟨fun hm => h2 (hl3 v hm).2, hl1⟩, by simp [hl2], fun x hx => ?_⟩
          rcases List.mem_cons.1 hx with rfl | hx
          · exact ⟨hvn, h1⟩
          · exact ⟨(hl3 x hx).1, (hl3 x hx).2.next hR⟩
  rcases key n (Nat.le_refl _) with h | ⟨l, hl1, hl2, hl3⟩
  · exact h v
  · by_cases hv : v < n
    · by_cases hm : v ∈ l
      · exact (hl3 v hm).2
      · have := nodup_le n (v :: l) (List.nodup_cons.2 ⟨hm, hl1⟩) (fun x hx => by
          rcases List.mem_cons.1 hx with rfl | hx
          · exact hv
          · exact (hl3 x hx).1)
        simp at this; omega
    · exact hfar n (Nat.le_refl _) v hv

/-- two lists of the least prices are the same -/
theorem least_same {c d : List Int} (hl : c.length = d.length) (hc : ∀ v, IsLeast E b v (gI c v)) (hd : ∀ v, IsLeast E b v (gI d v)) : c = d := by
  apply List.ext_getElem hl
  intro i h1 h2
  have := IsLeast.unique (hc i) (hd i)
  simpa [gI, List.getD, h1, h2] using this

end
end Go.Proofs.YteehgcbjmdideaaGreatDoor.Sc

/- One edge after the other: what a round makes of prices. -/
namespace Go.Proofs.YteehgcbjmdideaaGreatDoor.Sc

def plusC (a w : Int) : Int := if a < 0 ∨ w < 0 then -1 else a + w
def lessC (a b : Int) : Int := if a < 0 then b else if b < 0 ∨ a < b then a else b

/-- along one edge -/
def relE (c : List Int) (e : Edg) : List Int := c.set e.v (lessC (gI c e.v) (plusC (gI c e.u) e.w))
def relAll (L : List Edg) (c : List Int) : List Int := L.foldl relE c

theorem relE_len (c : List Int) (e : Edg) : (relE c e).length = c.length := by simp [relE]
theorem relAll_len (L : List Edg) (c : List Int) : (relAll L c).length = c.length := by
  unfold relAll
  induction L generalizing c with
  | nil => rfl
  | cons e L ih => rw [List.foldl_cons, ih, relE_len]

theorem gI_set (c : List Int) (i v : Nat) (x : Int) (hi : i < c.length) : gI (c.set i x) v = if v = i then x else gI c v := by
  unfold gI
  by_cases h : v = i
  · subst h; simp [List.getD, hi]
  · have h' : ¬ i = v := fun e => h e.symm
    simp [List.getD, h, h']

section
variable {E : List Edg} {b : List Int}

theorem relE_ach {c : List Int} {e : Edg} (he : e ∈ E) (hv : e.v < c.length) (ha : Ach E b c) : Ach E b (relE c e) := by
  intro v
  unfold relE
  rw [gI_set _ _ _ _ hv]
  split
  · rename_i h
    subst h
    have hnew : plusC (gI c e.u) e.w = -1 ∨ ∃ h, WayN E b h e.v (plusC (gI c e.u) e.w) := by
      unfold plusC
      split
      · exact Or.inl rfl
      · rename_i h
        right
        rcases ha e.u with hu | ⟨k, hu⟩
        · exact absurd (Or.inl (by omega)) h
        · exact ⟨k + 1, e, he, rfl, gI c e.u, hu, rfl⟩
    unfold lessC
    split
    · exact hnew
    · split
      · exact ha e.v
      · exact hnew
  · exact ha v

theorem relE_le (c : List Int) (e : Edg) (hv : e.v < c.length) : LeC (relE c e) c := by
  intro v h0
  unfold relE
  rw [gI_set _ _ _ _ hv]
  split
  · rename_i h
    subst h
    unfold lessC
    split
    · omega
    · split
      · exact ⟨h0, Int.le_refl _⟩
      · rename_i h; omega
  · exact ⟨h0, Int.le_refl _⟩

theorem relE_edge (c : List Int) (e : Edg) (hv : e.v < c.length) (hw : 0 ≤ e.w) (h0 : 0 ≤ gI c e.u) : 0 ≤ gI (relE c e) e.v ∧ gI (relE c e) e.v ≤ gI c e.u + e.w := by
  unfold relE
  rw [gI_set _ _ _ _ hv, if_pos rfl]
  have hp : plusC (gI c e.u) e.w = gI c e.u + e.w := by unfold plusC; rw [if_neg (by omega)]
  rw [hp]
  unfold lessC
  split
  · omega
  · split
    · omega
    · omega

theorem LeC.trans {a c d : List Int} (h : LeC a c) (k : LeC c d) : LeC a d := by
  intro v h0
  obtain ⟨h1, h2⟩ := k v h0
  obtain ⟨h3, h4⟩ := h v h1
  exact ⟨h3, by omega⟩
theorem LeC.refl (c : List Int) : LeC c c := fun _ h => ⟨h, Int.le_refl _⟩

theorem relAll_round (L : List Edg) (c : List Int) (hL : ∀ e ∈ L, e ∈ E) (hE : ∀ e ∈ E, e.v < c.length ∧ 0 ≤ e.w) (ha : Ach E b c) :
    Ach E b (relAll L c) ∧ LeC (relAll L c) c ∧ ∀ e ∈ L, 0 ≤ gI c e.u → 0 ≤ gI (relAll L c) e.v ∧ gI (relAll L c) e.v ≤ gI c e.u + e.w := by
  induction L generalizing c with
  | nil => exact ⟨ha, LeC.refl _, by simp⟩
  | cons x L ih =>
    have hx := hL x (by simp)
    obtain ⟨hxv, hxw⟩ := hE x hx
    have h1 := ih (relE c x) (fun e he => hL e (by simp [he])) (by simpa [relE_len] using hE) (relE_ach hx hxv ha)
    have hle := relE_le c x hxv
    show Ach E b (relAll L (relE c x)) ∧ LeC (relAll L (relE c x)) c ∧ _
    refine ⟨h1.1, h1.2.1.trans hle, fun e he h0 => ?_⟩
    rcases List.mem_cons.1 he with rfl | he
    · obtain ⟨h2, h3⟩ := relE_edge c e hxv hxw h0
      obtain ⟨h4, h5⟩ := h1.2.1 e.v h2
      exact ⟨h4, by show gI (relAll L (relE c e)) e.v ≤ _; omega⟩
    · obtain ⟨h2, h3⟩ := hle e.u h0
      obtain ⟨h4, h5⟩ := h1.2.2 e he h2
      exact ⟨h4, by show gI (relAll L (relE c x)) e.v ≤ _; omega⟩

/-- the document's rounds -/
def rounds (L : List Edg) (c : List Int) : Nat → List Int
  | 0 => c
  | r + 1 => relAll L (rounds L c r)

theorem rounds_len (L : List Edg) (c : List Int) (r : Nat) : (rounds L c r).length = c.length := by
  induction r with
  | zero => rfl
  | succ r ih => rw [rounds, relAll_len, ih]

theorem way_lt (hE : ∀ e ∈ E, e.v < b.length) {h v : Nat} {x : Int} (H : WayN E b h v x) : v < b.length := by
  cases h with
  | zero =>
    obtain ⟨rfl, h0⟩ := H
    by_cases hv : v < b.length
    · exact hv
    · simp [gI, List.getD, hv] at h0
  | succ h => obtain ⟨e, he, rfl, _⟩ := H; exact hE e he

/-- as many rounds as there are states give the least prices, in whatever order the edges are gone by -/
theorem rounds_are (L : List Edg) (hL : ∀ e, e ∈ L ↔ e ∈ E) (hE : ∀ e ∈ E, e.v < b.length ∧ 0 ≤ e.w) (hb : ∀ v, gI b v = -1 ∨ 0 ≤ gI b v) (v : Nat) : IsLeast E b v (gI (rounds L b b.length) v) := by
  have ha0 : Ach E b b := fun v => (hb v).imp id fun h => ⟨0, rfl, h⟩
  have hach : ∀ r, Ach E b (rounds L b r) := by
    intro r
    induction r with
    | zero => exact ha0
    | succ r ih => exact (relAll_round L (rounds L b r) (fun e he => (hL e).1 he) (by simpa [rounds_len] using hE) ih).1
  refine rounds_least b.length (rounds L b) (fun e he => (hE e he).2) (fun v h x H => way_lt (fun e he => (hE e he).1) H) ha0 (LeC.refl _) (fun r _ => ?_) v
  obtain ⟨h1, h2, h3⟩ := relAll_round (b := b) L (rounds L b r) (fun e he => (hL e).1 he) (by simpa [rounds_len] using hE) (hach r)
  exact ⟨h1, h2, fun e he => h3 e ((hL e).2 he)⟩

end

/-- is the first price the better one? -/
def betterB (a b : Int) : Bool := (a != -1) && ((b == -1) || decide (a < b))

/-- the program's step along one edge -/
def progE (c : List Int) (e : Edg) : List Int := if betterB (plusC (gI c e.u) e.w) (gI c e.v) then c.set e.v (plusC (gI c e.u) e.w) else c

theorem set_same (c : List Int) (v : Nat) : c.set v (gI c v) = c := by
  by_cases h : v < c.length
  · apply List.ext_getElem (by simp)
    intro i h1 h2
    rw [List.getElem_set]
    split
    · rename_i e; subst e; simp [gI, List.getD, h]
    · rfl
  · exact List.set_eq_of_length_le (by omega)

theorem progE_eq (c : List Int) (e : Edg) (hc : ∀ v, -1 ≤ gI c v) : progE c e = relE c e := by
  have hv := hc e.v
  have hp : -1 ≤ plusC (gI c e.u) e.w := by
    unfold plusC; split
    · omega
    · omega
  unfold progE relE betterB lessC
  generalize plusC (gI c e.u) e.w = p at *
  by_cases h1 : p = -1
  · subst h1
    by_cases h2 : gI c e.v < 0
    · have : gI c e.v = -1 := by omega
      simp only [bne_self_eq_false, Bool.false_and, Bool.false_eq_true, if_false, h2, if_true]
      rw [← this, set_same]
    · simp [h2, set_same]
  · have hp0 : ¬ p < 0 := by omega
    by_cases h2 : gI c e.v = -1
    · simp [h1, h2]
    · have h2' : ¬ gI c e.v < 0 := by omega
      by_cases h3 : p < gI c e.v
      · have : ¬ gI c e.v < p := by omega
        simp [h1, h3, h2', hp0, this]
      · by_cases h4 : gI c e.v < p
        · simp [h1, h2, h3, h2', h4, set_same]
        · have : p = gI c e.v := by omega
          simp [h2', this, set_same]

theorem fix_of (E : List Edg) (c : List Int) (hw : ∀ e ∈ E, 0 ≤ e.w) (hc : ∀ v, -1 ≤ gI c v) (h : ∀ e ∈ E, betterB (plusC (gI c e.u) e.w) (gI c e.v) = false) : Fix E c := by
  intro e he h0
  have h1 := h e he
  have hp : plusC (gI c e.u) e.w = gI c e.u + e.w := by have := hw e he; unfold plusC; rw [if_neg (by omega)]
  have hwe := hw e he
  have hv := hc e.v
  rw [hp] at h1
  unfold betterB at h1
  have hne : (gI c e.u + e.w != -1) = true := by simp; omega
  rw [hne, Bool.true_and, Bool.or_eq_false_iff] at h1
  have h2 : gI c e.v ≠ -1 := by simpa using h1.1
  have h3 : ¬ gI c e.u + e.w < gI c e.v := by simpa using h1.2
  omega

end Go.Proofs.YteehgcbjmdideaaGreatDoor.Sc

/- The program's search: what stays true of prices, and of the arcs that they came by, from one step to the next. -/
namespace Go.Proofs.YteehgcbjmdideaaGreatDoor.Sc

/-- how much a price can still fall -/
def muI (x : Int) : Nat := if x < 0 then 1000000000000000 else x.toNat
def muL (c : List Int) : Nat := (c.map muI).sum
/-- how many prices there are -/
def metL (c : List Int) : Nat := (c.map fun x => if x < 0 then 0 else 1).sum

theorem sum_set (f : Int → Nat) (c : List Int) (v : Nat) (x : Int) (hv : v < c.length) : ((c.set v x).map f).sum + f (gI c v) = (c.map f).sum + f x := by
  induction c generalizing v with
  | nil => simp at hv
  | cons y c ih =>
    cases v with
    | zero => simp [gI, List.getD]; omega
    | succ v =>
      have := ih v (by simpa using hv)
      have e : gI (y :: c) (v + 1) = gI c v := by simp [gI, List.getD]
      rw [e]
      simp only [List.set_cons_succ, List.map_cons, List.sum_cons]
      omega

theorem metL_le (c : List Int) : metL c ≤ c.length := by
  unfold metL
  induction c with
  | nil => simp
  | cons x c ih =>
    simp only [List.map_cons, List.sum_cons, List.length_cons]
    split <;> omega

/-- by which arc each price came: none, and it is what it was at the beginning; or it is no better than by that arc, and if it is just that, the arc's price came first -/
def ByOk (E : List Edg) (b c y : List Int) (r : Nat → Nat) : Prop :=
  ∀ v, v < c.length → (gI y v = -1 ∧ gI c v = gI b v) ∨ ∃ (j : Nat) (e : Edg), gI y v = j ∧ E[j]? = some e ∧ e.v = v ∧ 0 ≤ gI c e.u ∧ 0 ≤ gI c v ∧ gI c e.u + e.w ≤ gI c v ∧ (gI c e.u + e.w = gI c v → r e.u < r v)

/-- what stays true -/
structure Inv (E : List Edg) (b c y : List Int) : Prop where
  len : c.length = b.length
  ylen : y.length = b.length
  ach : Ach E b c
  le : LeC c b
  lo : ∀ v, -1 ≤ gI c v
  hi : ∀ v, gI c v ≤ 1000000000 * (1 + (metL c : Int))
  by_ : ∃ r R, (∀ x, r x ≤ R) ∧ ByOk E b c y r

section
variable {E : List Edg} {b c y : List Int}

theorem Inv.top (h : Inv E b c y) (hn : b.length ≤ 200) (v : Nat) : gI c v ≤ 201000000000 := by
  have h1 := h.hi v
  have h2 := metL_le c
  have h3 := h.len
  omega

theorem Inv.topK (h : Inv E b c y) (hn : b.length ≤ 400000) (v : Nat) : gI c v ≤ 400001000000000 := by
  have h1 := h.hi v
  have h2 := metL_le c
  have h3 := h.len
  omega

theorem Inv.start (hb : ∀ v, gI b v = -1 ∨ 0 ≤ gI b v) (hm : ∀ v, gI b v ≤ 1000000000) : Inv E b b (List.replicate b.length (-1)) where
  len := rfl
  ylen := by simp
  ach := fun v => (hb v).imp id fun h => ⟨0, rfl, h⟩
  le := LeC.refl _
  lo := fun v => by rcases hb v with h | h <;> omega
  hi := fun v => by have := hm v; omega
  by_ := ⟨fun _ => 0, 0, fun _ => Nat.le_refl _, fun v hv => Or.inl ⟨by simp [gI, List.getD, hv], rfl⟩⟩

theorem better_iff {a d : Int} (ha : -1 ≤ a) (hd : -1 ≤ d) : betterB a d = true ↔ 0 ≤ a ∧ (d = -1 ∨ a < d) := by
  unfold betterB
  simp only [Bool.and_eq_true, bne_iff_ne, ne_eq, Bool.or_eq_true, beq_iff_eq, decide_eq_true_eq]
  omega

theorem plusC_lo (a w : Int) : -1 ≤ plusC a w := by
  unfold plusC; split
  · omega
  · omega

/-- a step along an edge that makes a price better -/
theorem Inv.step {j : Nat} {e : Edg} (h : Inv E b c y) (hbn : b.length ≤ 400000) (hj : E[j]? = some e) (hv : e.v < b.length) (hw0 : 0 ≤ e.w) (hw1 : e.w ≤ 1000000000)
    (hbt : betterB (plusC (gI c e.u) e.w) (gI c e.v) = true) :
    Inv E b (c.set e.v (plusC (gI c e.u) e.w)) (y.set e.v (j : Int)) ∧ muL (c.set e.v (plusC (gI c e.u) e.w)) < muL c := by
  have hvc : e.v < c.length := by have := h.len; omega
  have hvy : e.v < y.length := by have := h.ylen; omega
  have he : e ∈ E := List.mem_of_getElem? hj
  obtain ⟨hp0, hbet⟩ := (better_iff (plusC_lo _ _) (h.lo _)).1 hbt
  have hcu : 0 ≤ gI c e.u := by
    unfold plusC at hp0
    split at hp0
    · omega
    · rename_i hh; omega
  have hp : plusC (gI c e.u) e.w = gI c e.u + e.w := by unfold plusC; rw [if_neg (by omega)]
  have hrel : c.set e.v (plusC (gI c e.u) e.w) = relE c e := by
    rw [← progE_eq c e h.lo]
    unfold progE
    rw [if_pos hbt]
  have hne : e.u ≠ e.v := by
    intro hh
    rw [hh] at hp hcu
    rw [hh, hp] at hbet
    omega
  have hset : ∀ x, gI (c.set e.v (plusC (gI c e.u) e.w)) x = if x = e.v then gI c e.u + e.w else gI c x := fun x => by rw [gI_set _ _ _ _ hvc, hp]
  have hyset : ∀ x, gI (y.set e.v (j : Int)) x = if x = e.v then (j : Int) else gI y x := fun x => gI_set _ _ _ _ hvy
  have hmet := sum_set (fun x => if x < 0 then 0 else 1) c e.v (plusC (gI c e.u) e.w) hvc
  have hmu := sum_set muI c e.v (plusC (gI c e.u) e.w) hvc
  change metL (c.set e.v (plusC (gI c e.u) e.w)) + _ = metL c + _ at hmet
  change muL (c.set e.v (plusC (gI c e.u) e.w)) + _ = muL c + _ at hmu
  rw [if_neg (by omega : ¬ plusC (gI c e.u) e.w < 0)] at hmet
  have htop := h.hi e.u
  refine ⟨⟨by simpa using h.len, by simpa using h.ylen, ?_, ?_, ?_, ?_, ?_⟩, ?_⟩
  · rw [hrel]; exact relE_ach he hvc h.ach
  · rw [hrel]; exact (relE_le c e hvc).trans h.le
  · intro x
    rw [hset]
    split
    · omega
    · exact h.lo x
  · intro x
    rw [hset]
    have hx := h.hi x
    by_cases hn : gI c e.v < 0
    · rw [if_pos hn] at hmet
      split <;> omega
    · rw [if_neg hn] at hmet
      have := h.hi e.v
      split <;> omega
  · obtain ⟨r, R, hR, hby⟩ := h.by_
    refine ⟨fun x => if x = e.v then R + 1 else r x, R + 1, fun x => ?_, fun v hv' => ?_⟩
    · show (if x = e.v then R + 1 else r x) ≤ R + 1
      split
      · exact Nat.le_refl _
      · have := hR x; omega
    · rw [hset, hyset]
      by_cases hve : v = e.v
      · subst hve
        right
        rw [if_pos rfl, if_pos rfl]
        refine ⟨j, e, rfl, hj, rfl, ?_⟩
        rw [hset, if_neg hne]
        simp only [hne, if_true, if_false]
        have := hR e.u
        refine ⟨hcu, by omega, by omega, fun _ => by omega⟩
      · rw [if_neg hve, if_neg hve]
        rcases hby v (by simpa using hv') with hl | ⟨j', e', h1, h2, h3, h4, h5, h6, h7⟩
        · exact Or.inl hl
        · right
          refine ⟨j', e', h1, h2, h3, ?_⟩
          rw [hset]
          by_cases hue : e'.u = e.v
          · rw [if_pos hue]
            rw [hue] at h4 h6
            refine ⟨by omega, h5, by omega, fun hh => by omega⟩
          · rw [if_neg hue]
            refine ⟨h4, h5, h6, fun hh => ?_⟩
            have := h7 hh
            simp only [hue, if_false, hve]
            exact this
  · have hmu1 : muI (plusC (gI c e.u) e.w) < muI (gI c e.v) := by
      unfold muI
      rw [if_neg (by omega)]
      by_cases hn : gI c e.v < 0
      · rw [if_pos hn]
        have := h.topK hbn e.u
        omega
      · rw [if_neg hn]; omega
    omega

/-- no arc makes a price better: prices are the least ones, and each is just what it is by its arc -/
theorem Inv.done (h : Inv E b c y) (hw : ∀ e ∈ E, 0 ≤ e.w) (hno : ∀ e ∈ E, betterB (plusC (gI c e.u) e.w) (gI c e.v) = false) :
    (∀ v, IsLeast E b v (gI c v)) ∧ ∃ r : Nat → Nat, ∀ v, v < c.length → (gI y v = -1 ∧ gI c v = gI b v) ∨ ∃ (j : Nat) (e : Edg), gI y v = j ∧ E[j]? = some e ∧ e.v = v ∧ 0 ≤ gI c e.u ∧ 0 ≤ gI c v ∧ gI c e.u + e.w = gI c v ∧ r e.u < r v := by
  have hf := fix_of E c hw h.lo hno
  refine ⟨fix_least hw h.ach h.le hf, ?_⟩
  obtain ⟨r, _, _, hby⟩ := h.by_
  refine ⟨r, fun v hv => ?_⟩
  rcases hby v hv with hl | ⟨j, e, h1, h2, h3, h4, h5, h6, h7⟩
  · exact Or.inl hl
  · right
    have hle := (hf e (List.mem_of_getElem? h2) h4).2
    rw [h3] at hle
    have heq : gI c e.u + e.w = gI c v := by omega
    exact ⟨j, e, h1, h2, h3, h4, h5, heq, h7 heq⟩

end
end Go.Proofs.YteehgcbjmdideaaGreatDoor.Sc

/- The text of a transducer, as bytes: one line a piece; how long it is at most. -/
namespace Go.Proofs.YteehgcbjmdideaaGreatDoor

def bStates : List UInt8 := [115, 116, 97, 116, 101, 115]
def bStart : List UInt8 := [115, 116, 97, 114, 116]
def bFinal : List UInt8 := [102, 105, 110, 97, 108]

/-- words with a blank between, a line feed behind -/
def lineB (l : List (List UInt8)) : List UInt8 := Lib.join l [32] ++ [10]

def headB (st sta : Int) : List UInt8 := lineB [bStates, Lib.itoa st, bStart, Lib.itoa sta]
def finalB (k : Nat) (x : Int) : List UInt8 := lineB [bFinal, Lib.itoa k, Lib.itoa x]
def arcB (a : ArcD) : List UInt8 := lineB [Lib.itoa a.src, Lib.itoa a.inp, Lib.itoa a.out, Lib.itoa a.dst, Lib.itoa a.wt]

def finalsB (xs : List Int) (k : Nat) : List UInt8 := (List.range k).flatMap fun i => if xs.getD i 0 = -1 then [] else finalB i (xs.getD i 0)
def arcsB (l : List ArcD) (k : Nat) : List UInt8 := (List.range k).flatMap fun i => arcB (l.getD i a0)

def printD (f : FstD) : List UInt8 := headB f.states f.start ++ finalsB f.final f.final.length ++ arcsB f.arcs f.arcs.length

theorem finalsB_hit (xs : List Int) (k : Nat) (x : Int) (hx : x = xs.getD k 0) (h : x ≠ -1) : finalsB xs (k + 1) = finalsB xs k ++ finalB k x := by
  subst hx
  simp only [finalsB, List.range_succ, List.flatMap_append, List.flatMap_cons, List.flatMap_nil, List.append_nil]
  rw [if_neg h]
theorem finalsB_miss (xs : List Int) (k : Nat) (h : xs.getD k 0 = -1) : finalsB xs (k + 1) = finalsB xs k := by
  simp only [finalsB, List.range_succ, List.flatMap_append, List.flatMap_cons, List.flatMap_nil, List.append_nil]
  rw [if_pos h, List.append_nil]
theorem arcsB_succ (l : List ArcD) (k : Nat) (a : ArcD) (ha : a = l.getD k a0) : arcsB l (k + 1) = arcsB l k ++ arcB a := by
  subst ha
  simp only [arcsB, List.range_succ, List.flatMap_append, List.flatMap_cons, List.flatMap_nil, List.append_nil]

/-- numbers of int's kind -/
def in64 (n : Int) : Prop := -9223372036854775808 ≤ n ∧ n ≤ 9223372036854775807
theorem in64_z : in64 0 := ⟨by decide, by decide⟩

theorem itoa_le (n : Int) (h : in64 n) : (Lib.itoa n).length ≤ 21 := Lib.itoa_length_le n h.1 h.2

theorem headB_le (st sta : Int) (h1 : in64 st) (h2 : in64 sta) : (headB st sta).length ≤ 100 := by
  have a := itoa_le st h1
  have b := itoa_le sta h2
  simp [headB, lineB, Lib.join_cons, Lib.joinTail, bStates, bStart]; omega
theorem finalB_le (k : Nat) (x : Int) (h1 : in64 k) (h2 : in64 x) : (finalB k x).length ≤ 100 := by
  have a := itoa_le k h1
  have b := itoa_le x h2
  simp [finalB, lineB, Lib.join_cons, Lib.joinTail, bFinal]; omega
theorem arcB_le (a : ArcD) (h0 : in64 a.src) (h1 : in64 a.inp) (h2 : in64 a.out) (h3 : in64 a.dst) (h4 : in64 a.wt) : (arcB a).length ≤ 120 := by
  have e0 := itoa_le _ h0
  have e1 := itoa_le _ h1
  have e2 := itoa_le _ h2
  have e3 := itoa_le _ h3
  have e4 := itoa_le _ h4
  simp [arcB, lineB, Lib.join_cons, Lib.joinTail]; omega

theorem finalsB_le (xs : List Int) (k : Nat) (hk : k ≤ 1000) (h : ∀ x ∈ xs, in64 x) (h0 : in64 0) : (finalsB xs k).length ≤ 100 * k := by
  induction k with
  | zero => simp [finalsB]
  | succ k ih =>
    have ih := ih (by omega)
    by_cases e : xs.getD k 0 = -1
    · rw [finalsB_miss xs k e]; omega
    · have hx : in64 (xs.getD k 0) := by
        by_cases hk : k < xs.length
        · exact h _ (by simp [List.getD, hk])
        · simp [List.getD, hk, h0]
      have := finalB_le k _ ⟨by omega, by omega⟩ hx
      rw [finalsB_hit xs k _ rfl e, List.length_append]; omega

def arcIn64 (a : ArcD) : Prop := in64 a.src ∧ in64 a.inp ∧ in64 a.out ∧ in64 a.dst ∧ in64 a.wt

theorem arcsB_le (l : List ArcD) (k : Nat) (h : ∀ a ∈ l, arcIn64 a) : (arcsB l k).length ≤ 120 * k := by
  induction k with
  | zero => simp [arcsB]
  | succ k ih =>
    have hx : arcIn64 (l.getD k a0) := by
      by_cases hk : k < l.length
      · exact h _ (by simp [List.getD, hk])
      · simp only [List.getD, List.getElem?_eq_none, Option.getD_none, Nat.not_lt.1 hk]
        exact ⟨in64_z, in64_z, in64_z, in64_z, in64_z⟩
    have := arcB_le _ hx.1 hx.2.1 hx.2.2.1 hx.2.2.2.1 hx.2.2.2.2
    rw [arcsB_succ l k _ rfl, List.length_append]; omega

/-- an arc that may stand in a transducer of so many states -/
structure ArcOk (st : Int) (a : ArcD) : Prop where
  src : inB a.src 0 (st - 1) = true
  dst : inB a.dst 0 (st - 1) = true
  inp : inB a.inp 0 9 = true
  out : inB a.out 0 9 = true
  wt : inB a.wt 0 1000000000 = true

theorem arcErr_ok (st : Int) (p : Option ArcD) (a : ArcD) (h : arcErr st p a = 0) : ArcOk st a := by
  unfold arcErr at h
  cases h0 : inB a.src 0 (st - 1) <;> cases h1 : inB a.dst 0 (st - 1) <;> simp [h0, h1] at h
  cases h2 : inB a.inp 0 9 <;> cases h3 : inB a.out 0 9 <;> cases h4 : inB a.wt 0 1000000000 <;> simp [h2, h3, h4] at h
  exact ⟨h0, h1, h2, h3, h4⟩

theorem arcsErr_ok (st : Int) (l : List ArcD) (p : Option ArcD) (h : arcsErr st p l = 0) : ∀ a ∈ l, ArcOk st a := by
  induction l generalizing p with
  | nil => intro a ha; cases ha
  | cons b l ih =>
    rw [arcsErr] at h
    by_cases e : arcErr st p b = 0
    · rw [if_pos e] at h
      intro a ha
      rcases List.mem_cons.1 ha with rfl | ha
      · exact arcErr_ok _ _ _ e
      · exact ih _ h a ha
    · rw [if_neg e] at h; exact absurd h e

structure CheckOk (f : FstD) : Prop where
  states : inB f.states 1 200 = true
  start : inB f.start 0 (f.states - 1) = true
  len : (f.final.length : Int) = f.states
  fin : ∀ x ∈ f.final, finB x = false
  many : f.arcs.length ≤ 3000
  err : arcsErr f.states none f.arcs = 0
  arcs : ∀ a ∈ f.arcs, ArcOk f.states a

theorem check_ok (f : FstD) (h : checkD f = 0) : CheckOk f := by
  unfold checkD at h
  cases h0 : inB f.states 1 200 <;> simp only [h0, Bool.not_false, Bool.not_true, if_true, if_false, Bool.false_eq_true] at h
  · exact absurd h (by decide)
  cases h1 : inB f.start 0 (f.states - 1) <;> simp only [h1, Bool.not_false, Bool.not_true, if_true, if_false, Bool.false_eq_true] at h
  · exact absurd h (by decide)
  by_cases h2 : (f.final.length : Int) = f.states
  · rw [if_neg (by simpa using h2)] at h
    cases h3 : f.final.any finB <;> simp only [h3, if_true, if_false, Bool.false_eq_true] at h
    · by_cases h4 : 3000 < f.arcs.length
      · rw [if_pos h4] at h; exact absurd h (by decide)
      · rw [if_neg h4] at h
        exact ⟨h0, h1, h2, by simpa using h3, by omega, h, arcsErr_ok _ _ _ h⟩
    · exact absurd h (by decide)
  · rw [if_pos (by simpa using h2)] at h; exact absurd h (by decide)

theorem finB_out {x : Int} (h : finB x = false) : (x = -1 ∨ (0 ≤ x ∧ x ≤ 1000000000)) ∧ in64 x := by
  unfold finB inB at h
  by_cases e : x = -1
  · subst e; exact ⟨Or.inl rfl, by decide, by decide⟩
  · have : (x != -1) = true := by simpa using e
    rw [this] at h
    simp at h
    exact ⟨Or.inr h, ⟨by omega, by omega⟩⟩

theorem arcOk_in64 {st : Int} {a : ArcD} (h : ArcOk st a) (h1 : 1 ≤ st) (h2 : st ≤ 200) : arcIn64 a := by
  have e0 := h.src
  have e1 := h.dst
  have e2 := h.inp
  have e3 := h.out
  have e4 := h.wt
  unfold inB at e0 e1 e2 e3 e4
  simp at e0 e1 e2 e3 e4
  refine ⟨⟨?_, ?_⟩, ⟨?_, ?_⟩, ⟨?_, ?_⟩, ⟨?_, ?_⟩, ⟨?_, ?_⟩⟩ <;> omega

end Go.Proofs.YteehgcbjmdideaaGreatDoor

/- A heap as a list: what lifting and sinking keep. -/
namespace Go.Proofs.YteehgcbjmdideaaGreatDoor.Sc

section
variable {α : Type} {key : α → Int} {d : α} {L : List α}

def swapL (d : α) (L : List α) (i j : Nat) : List α := (L.set i (L.getD j d)).set j (L.getD i d)

theorem swapL_len (L : List α) (i j : Nat) : (swapL d L i j).length = L.length := by simp [swapL]

theorem swapL_at (L : List α) (i j k : Nat) (hi : i < L.length) (hj : j < L.length) : (swapL d L i j).getD k d = if k = j then L.getD i d else if k = i then L.getD j d else L.getD k d := by
  unfold swapL
  simp only [List.getD_eq_getElem?_getD, List.getElem?_set, List.length_set]
  by_cases h1 : j = k
  · subst h1; simp [hj, hi]
  · by_cases h2 : i = k
    · subst h2; simp [h1, hi, Ne.symm h1]
    · simp [h1, h2, Ne.symm h1, Ne.symm h2]

theorem set_mem_perm (L : List α) (i : Nat) (hi : i < L.length) (x : α) : (L.getD i d :: L.set i x).Perm (x :: L) := by
  induction L generalizing i with
  | nil => simp at hi
  | cons a l ih =>
    cases i with
    | zero => simpa using List.Perm.swap _ _ _
    | succ i =>
      have h := ih i (by simpa using hi)
      simp only [List.getD_cons_succ, List.set_cons_succ]
      exact (List.Perm.swap _ _ _).trans ((h.cons a).trans (List.Perm.swap _ _ _))

theorem swapL_perm (L : List α) (i j : Nat) (hi : i < L.length) (hj : j < L.length) : (swapL d L i j).Perm L := by
  have h1 := set_mem_perm (d := d) L i hi (L.getD j d)
  have h2 := set_mem_perm (d := d) (L.set i (L.getD j d)) j (by simpa using hj) (L.getD i d)
  have e : (L.set i (L.getD j d)).getD j d = L.getD j d := by
    simp only [List.getD_eq_getElem?_getD, List.getElem?_set]
    split
    · rename_i h; subst h; simp [hi]
    · rfl
  rw [e] at h2
  have h3 := h2.trans h1
  exact (List.perm_cons _).1 h3

/-- none costs less than the one above it -/
def HeapL (key : α → Int) (d : α) (L : List α) (n : Nat) : Prop := ∀ k, 0 < k → k < n → key (L.getD ((k - 1) / 2) d) ≤ key (L.getD k d)

/-- only number j may cost less than the one above it -/
def UpOk (key : α → Int) (d : α) (L : List α) (n j : Nat) : Prop :=
  (∀ k, 0 < k → k < n → k ≠ j → key (L.getD ((k - 1) / 2) d) ≤ key (L.getD k d)) ∧ ∀ k, 0 < k → k < n → (k - 1) / 2 = j → 0 < j → key (L.getD ((j - 1) / 2) d) ≤ key (L.getD k d)

/-- only number i may cost more than those below it -/
def DownOk (key : α → Int) (d : α) (L : List α) (n i : Nat) : Prop :=
  (∀ k, 0 < k → k < n → (k - 1) / 2 ≠ i → key (L.getD ((k - 1) / 2) d) ≤ key (L.getD k d)) ∧ ∀ k, 0 < k → k < n → (k - 1) / 2 = i → 0 < i → key (L.getD ((i - 1) / 2) d) ≤ key (L.getD k d)

theorem HeapL.push (h : HeapL key d L L.length) (x : α) : UpOk key d (L ++ [x]) (L.length + 1) L.length := by
  have e : ∀ k, k < L.length → (L ++ [x]).getD k d = L.getD k d := by
    intro k hk
    simp [List.getD_eq_getElem?_getD, List.getElem?_append_left hk]
  refine ⟨fun k h0 hk hne => ?_, fun k h0 hk hp _ => by omega⟩
  rw [e k (by omega), e _ (by omega)]
  exact h k h0 (by omega)

theorem UpOk.step {n j : Nat} (h : UpOk key d L n j) (hj0 : 0 < j) (hj : j < n) (hn : n ≤ L.length) (hlt : key (L.getD j d) < key (L.getD ((j - 1) / 2) d)) : UpOk key d (swapL d L ((j - 1) / 2) j) n ((j - 1) / 2) := by
  have hp : (j - 1) / 2 < j := by omega
  have hat := fun k => swapL_at (d := d) L ((j - 1) / 2) j k (by omega) (by omega)
  refine ⟨fun k h0 hk hne => ?_, fun k h0 hk hpk hp0 => ?_⟩
  · rw [hat k, hat ((k - 1) / 2)]
    by_cases hkj : k = j
    · subst hkj
      rw [if_pos rfl, if_neg (by omega), if_pos rfl]
      omega
    · rw [if_neg hkj, if_neg hne]
      by_cases hpj : (k - 1) / 2 = j
      · rw [if_pos hpj]
        exact h.2 k h0 hk hpj hj0
      · rw [if_neg hpj]
        have h1 := h.1 k h0 hk hkj
        by_cases hpp : (k - 1) / 2 = (j - 1) / 2
        · rw [if_pos hpp]
          rw [hpp] at h1
          omega
        · rw [if_neg hpp]; exact h1
  · rw [hat k, hat (((j - 1) / 2 - 1) / 2)]
    rw [if_neg (by omega : ¬ ((j - 1) / 2 - 1) / 2 = j), if_neg (by omega : ¬ ((j - 1) / 2 - 1) / 2 = (j - 1) / 2)]
    have h1 := h.1 ((j - 1) / 2) hp0 (by omega) (by omega)
    by_cases hkj : k = j
    · rw [if_pos hkj]; exact h1
    · rw [if_neg hkj, if_neg (by omega)]
      have h2 := h.1 k h0 hk hkj
      rw [hpk] at h2
      omega

theorem UpOk.done {n j : Nat} (h : UpOk key d L n j) (hd : j = 0 ∨ ¬ key (L.getD j d) < key (L.getD ((j - 1) / 2) d)) : HeapL key d L n := by
  intro k h0 hk
  by_cases hkj : k = j
  · subst hkj
    rcases hd with hd | hd <;> omega
  · exact h.1 k h0 hk hkj

theorem HeapL.pop {m : Nat} (h : HeapL key d L (m + 1)) (hl : L.length = m + 1) : DownOk key d (swapL d L 0 m) m 0 := by
  have hat := fun k => swapL_at (d := d) L 0 m k (by omega) (by omega)
  refine ⟨fun k h0 hk hne => ?_, fun k _ _ _ h00 => by omega⟩
  rw [hat k, hat ((k - 1) / 2), if_neg (by omega : ¬ k = m), if_neg (by omega : ¬ k = 0), if_neg (by omega : ¬ (k - 1) / 2 = m), if_neg hne]
  exact h k h0 (by omega)

theorem DownOk.step {n i j : Nat} (h : DownOk key d L n i) (hj0 : 0 < j) (hj : j < n) (hn : n ≤ L.length) (hp : (j - 1) / 2 = i) (hlt : key (L.getD j d) < key (L.getD i d))
    (hle : ∀ k, 0 < k → k < n → (k - 1) / 2 = i → key (L.getD j d) ≤ key (L.getD k d)) : DownOk key d (swapL d L i j) n j := by
  have hat := fun k => swapL_at (d := d) L i j k (by omega) (by omega)
  refine ⟨fun k h0 hk hne => ?_, fun k h0 hk hpk _ => ?_⟩
  · rw [hat k, hat ((k - 1) / 2), if_neg hne]
    by_cases hkj : k = j
    · subst hkj
      rw [if_pos rfl, if_pos hp]
      omega
    · rw [if_neg hkj]
      by_cases hki : k = i
      · subst hki
        rw [if_pos rfl, if_neg (by omega)]
        exact h.2 j hj0 hj hp h0
      · rw [if_neg hki]
        by_cases hpi : (k - 1) / 2 = i
        · rw [if_pos hpi]; exact hle k h0 hk hpi
        · rw [if_neg hpi]; exact h.1 k h0 hk hpi
  · rw [hat k, hat ((j - 1) / 2), hp]
    rw [if_neg (by omega : ¬ i = j), if_pos rfl, if_neg (by omega : ¬ k = j), if_neg (by omega : ¬ k = i)]
    have := h.1 k h0 hk (by omega)
    rw [hpk] at this
    exact this

theorem DownOk.done {n i : Nat} (h : DownOk key d L n i) (hd : ∀ k, 0 < k → k < n → (k - 1) / 2 = i → key (L.getD i d) ≤ key (L.getD k d)) : HeapL key d L n := by
  intro k h0 hk
  by_cases hp : (k - 1) / 2 = i
  · rw [hp]; exact hd k h0 hk hp
  · exact h.1 k h0 hk hp

theorem HeapL.top {n : Nat} (h : HeapL key d L n) : ∀ k, k < n → key (L.getD 0 d) ≤ key (L.getD k d) := by
  intro k
  induction k using Nat.strongRecOn with
  | ind k ih =>
    intro hk
    by_cases h0 : k = 0
    · subst h0; exact Int.le_refl _
    · exact Int.le_trans (ih ((k - 1) / 2) (by omega) (by omega)) (h k (by omega) hk)

/-- of a heap that was one longer -/
theorem HeapL.take {n : Nat} (h : HeapL key d L n) : HeapL key d (L.take n) n := by
  have e : ∀ k, k < n → (L.take n).getD k d = L.getD k d := by
    intro k hk
    simp [List.getD_eq_getElem?_getD, hk]
  intro k h0 hk
  rw [e k hk, e _ (by omega)]
  exact h k h0 hk
theorem take_last (L : List α) (n : Nat) (h : L.length = n + 1) : L = L.take n ++ [L.getD n d] := by
  have h1 : L.drop n = [L.getD n d] := by
    rw [List.drop_eq_getElem_cons (by omega), List.drop_of_length_le (by omega)]
    simp [List.getD_eq_getElem?_getD, show n < L.length by omega]
  rw [← h1, List.take_append_drop]
end

end Go.Proofs.YteehgcbjmdideaaGreatDoor.Sc

/- A search that takes the spot that costs least first: what stays true, and what it tells. -/
namespace Go.Proofs.YteehgcbjmdideaaGreatDoor.Sc

section
variable {E : List Edg} {b c y : List Int} {fin : Nat → Int}

/-- x is what it costs at least to come to a spot and to end there, or -1 -/
def IsBest (E : List Edg) (b : List Int) (fin : Nat → Int) (x : Int) : Prop :=
  (x = -1 ∧ ∀ v h z, WayN E b h v z → ¬ 0 ≤ fin v) ∨ (0 ≤ x ∧ (∃ v h z, WayN E b h v z ∧ 0 ≤ fin v ∧ x = z + fin v) ∧ ∀ v h z, WayN E b h v z → 0 ≤ fin v → x ≤ z + fin v)

theorem IsBest.unique {x z : Int} (hx : IsBest E b fin x) (hz : IsBest E b fin z) : x = z := by
  rcases hx with ⟨rfl, h1⟩ | ⟨h0, ⟨v, h, q, hw, hf, rfl⟩, h1⟩
  · rcases hz with ⟨rfl, _⟩ | ⟨_, ⟨v, h, q, hw, hf, rfl⟩, _⟩
    · rfl
    · exact absurd hf (h1 v h q hw)
  · rcases hz with ⟨rfl, h2⟩ | ⟨_, ⟨v', h', q', hw', hf', rfl⟩, h2⟩
    · exact absurd hf (h2 v h q hw)
    · have := h1 v' h' q' hw' hf'
      have := h2 v h q hw hf
      omega

/-- an edge makes nothing better -/
def Rlx (c : List Int) (e : Edg) : Prop := 0 ≤ gI c e.v ∧ gI c e.v ≤ gI c e.u + e.w

/-- all is gone on from a spot -/
def DoneS (E : List Edg) (fin : Nat → Int) (c : List Int) (best : Int) (u : Nat) : Prop :=
  (∀ e ∈ E, e.u = u → Rlx c e) ∧ (0 ≤ fin u → 0 ≤ best ∧ best ≤ gI c u + fin u)

variable {α : Type} {enc : α → Nat} {key : α → Int}

/-- what stays true: L are the places that wait, x0 the spot from which it is gone on just now -/
structure SI (E : List Edg) (b : List Int) (fin : Nat → Int) (enc : α → Nat) (key : α → Int) (c y : List Int) (L : List α) (best : Int) (x0 : Nat) : Prop where
  inv : Inv E b c y
  heap : ∀ p ∈ L, 0 ≤ gI c (enc p) ∧ gI c (enc p) ≤ key p
  wait : ∀ u, u ≠ x0 → 0 ≤ gI c u → (∃ p ∈ L, enc p = u ∧ key p = gI c u) ∨ DoneS E fin c best u
  bst : best = -1 ∨ (0 ≤ best ∧ ∃ v h z, WayN E b h v z ∧ 0 ≤ fin v ∧ best = z + fin v)

theorem SI.perm {L L' : List α} {best : Int} {x0 : Nat} (h : SI E b fin enc key c y L best x0) (hp : L.Perm L') : SI E b fin enc key c y L' best x0 :=
  ⟨h.inv, fun p hm => h.heap p (hp.mem_iff.2 hm), fun u hu h0 => (h.wait u hu h0).imp (fun ⟨p, hm, he⟩ => ⟨p, hp.mem_iff.1 hm, he⟩) id, h.bst⟩

/-- nothing is met but the spots that wait from the beginning -/
theorem SI.start {L : List α} {x0 : Nat} (hb : ∀ v, gI b v = -1 ∨ 0 ≤ gI b v) (hm : ∀ v, gI b v ≤ 1000000000) (hL : ∀ p ∈ L, 0 ≤ gI b (enc p) ∧ gI b (enc p) ≤ key p) (hw : ∀ u, 0 ≤ gI b u → ∃ p ∈ L, enc p = u ∧ key p = gI b u) :
    SI E b fin enc key b (List.replicate b.length (-1)) L (-1) x0 :=
  ⟨Inv.start hb hm, hL, fun u _ h0 => Or.inl (hw u h0), Or.inl rfl⟩

theorem out_gI (c : List Int) (x : Nat) (h : c.length ≤ x) : gI c x = -1 := by
  unfold gI
  simp [List.getD, List.getElem?_eq_none h]

/-- the one that comes is out of date -/
theorem SI.stale {L : List α} {p : α} {best : Int} {x0 : Nat} (h : SI E b fin enc key c y (p :: L) best x0) (hs : gI c (enc p) < key p) : SI E b fin enc key c y L best x0 :=
  ⟨h.inv, fun q hq => h.heap q (List.mem_cons_of_mem _ hq), fun u hu h0 => by
    rcases h.wait u hu h0 with ⟨q, hq, e1, e2⟩ | hd
    · rcases List.mem_cons.1 hq with rfl | hq
      · rw [e1] at hs; omega
      · exact Or.inl ⟨q, hq, e1, e2⟩
    · exact Or.inr hd, h.bst⟩

/-- the one that comes is gone on from -/
theorem SI.take {L : List α} {p : α} {best : Int} {x0 : Nat} (h : SI E b fin enc key c y (p :: L) best x0) (hx : c.length ≤ x0) : SI E b fin enc key c y L best (enc p) :=
  ⟨h.inv, fun q hq => h.heap q (List.mem_cons_of_mem _ hq), fun u hu h0 => by
    have hux : u ≠ x0 := fun e => by rw [e, out_gI c x0 hx] at h0; omega
    rcases h.wait u hux h0 with ⟨q, hq, e1, e2⟩ | hd
    · rcases List.mem_cons.1 hq with rfl | hq
      · exact absurd e1.symm hu
      · exact Or.inl ⟨q, hq, e1, e2⟩
    · exact Or.inr hd, h.bst⟩

theorem DoneS.better {best best' : Int} {u : Nat} (h : DoneS E fin c best u) (h0 : 0 ≤ best') (hb : best = -1 ∨ best' ≤ best) : DoneS E fin c best' u :=
  ⟨h.1, fun hf => by obtain ⟨h1, h2⟩ := h.2 hf; exact ⟨h0, by omega⟩⟩

/-- it is better to end here -/
theorem SI.ends {L : List α} {best x : Int} {u0 : Nat} (h : SI E b fin enc key c y L best u0) (hx : gI c u0 = x) (hx0 : 0 ≤ x) (hf : 0 ≤ fin u0) (hb : best = -1 ∨ x + fin u0 < best) : SI E b fin enc key c y L (x + fin u0) u0 :=
  ⟨h.inv, h.heap, fun u hu h0 => (h.wait u hu h0).imp id fun hd => hd.better (by omega) (by omega), Or.inr ⟨by omega, by
    rcases h.inv.ach u0 with hn | ⟨k, hk⟩
    · omega
    · exact ⟨u0, k, _, hk, hf, by rw [hx]⟩⟩⟩

theorem Rlx.mono {c' : List Int} {e : Edg} (h : Rlx c e) (hl : LeC c' c) (hu : gI c' e.u = gI c e.u) : Rlx c' e := by
  obtain ⟨h1, h2⟩ := h
  obtain ⟨h3, h4⟩ := hl e.v h1
  exact ⟨h3, by omega⟩

/-- along an edge that makes something better -/
theorem SI.meet {L : List α} {q : α} {best x : Int} {j : Nat} {e : Edg} (h : SI E b fin enc key c y L best e.u) (hbn : b.length ≤ 400000) (hj : E[j]? = some e) (hv : e.v < b.length) (hw0 : 0 ≤ e.w) (hw1 : e.w ≤ 1000000000) (hx : gI c e.u = x) (hx0 : 0 ≤ x)
    (hbt : gI c e.v = -1 ∨ x + e.w < gI c e.v) (hq : enc q = e.v) (hk : key q = x + e.w) :
    SI E b fin enc key (c.set e.v (x + e.w)) (y.set e.v (j : Int)) (q :: L) best e.u ∧ muL (c.set e.v (x + e.w)) < muL c ∧ gI (c.set e.v (x + e.w)) e.u = x ∧ LeC (c.set e.v (x + e.w)) c ∧ Rlx (c.set e.v (x + e.w)) e := by
  have hp : plusC (gI c e.u) e.w = x + e.w := by unfold plusC; rw [hx, if_neg (by omega)]
  have hbb : betterB (plusC (gI c e.u) e.w) (gI c e.v) = true := (better_iff (plusC_lo _ _) (h.inv.lo _)).2 ⟨by omega, by omega⟩
  have hst := h.inv.step hbn hj hv hw0 hw1 hbb
  rw [hp] at hst
  have hvc : e.v < c.length := by have := h.inv.len; omega
  have hset := fun k => gI_set c e.v k (x + e.w) hvc
  have hne : e.u ≠ e.v := fun hh => by rw [hh] at hx; rcases hbt with h1 | h1 <;> omega
  have hle : LeC (c.set e.v (x + e.w)) c := by
    intro k hk0
    rw [hset]
    split
    · rename_i hkv; rw [hkv] at hk0 ⊢; rcases hbt with h1 | h1 <;> omega
    · exact ⟨hk0, Int.le_refl _⟩
  refine ⟨⟨hst.1, ?_, ?_, h.bst⟩, hst.2, by rw [hset, if_neg hne]; exact hx, hle, ?_⟩
  · intro p hp'
    rcases List.mem_cons.1 hp' with rfl | hp'
    · rw [hset, hq, if_pos rfl]; omega
    · obtain ⟨h1, h2⟩ := h.heap p hp'
      obtain ⟨h3, h4⟩ := hle _ h1
      exact ⟨h3, by omega⟩
  · intro u hu h0
    by_cases huv : u = e.v
    · subst huv
      rw [hset, if_pos rfl]
      exact Or.inl ⟨q, List.mem_cons_self, hq, hk⟩
    · have hgu : gI (c.set e.v (x + e.w)) u = gI c u := by rw [hset, if_neg huv]
      rw [hgu] at h0 ⊢
      rcases h.wait u hu h0 with ⟨p, hp', e1, e2⟩ | hd
      · exact Or.inl ⟨p, List.mem_cons_of_mem _ hp', e1, e2⟩
      · refine Or.inr ⟨fun e' he' hue => (hd.1 e' he' hue).mono hle (by rw [hue]; exact hgu), fun hf => by rw [hgu]; exact hd.2 hf⟩
  · unfold Rlx
    rw [hset, hset, if_pos rfl, if_neg hne, hx]
    omega

/-- along an edge that makes nothing better -/
theorem rlx_no {e : Edg} {x : Int} (hx : gI c e.u = x) (hlo : -1 ≤ gI c e.v) (hbt : ¬ (gI c e.v = -1 ∨ x + e.w < gI c e.v)) : Rlx c e := by
  unfold Rlx
  rw [hx]
  omega

/-- all is gone on from the spot -/
theorem SI.done {L : List α} {best : Int} {u0 x1 : Nat} (h : SI E b fin enc key c y L best u0) (hr : ∀ e ∈ E, e.u = u0 → Rlx c e) (hf : 0 ≤ fin u0 → 0 ≤ best ∧ best ≤ gI c u0 + fin u0) : SI E b fin enc key c y L best x1 :=
  ⟨h.inv, h.heap, fun u _ h0 => by
    by_cases e : u = u0
    · subst e; exact Or.inr ⟨hr, hf⟩
    · exact h.wait u e h0, h.bst⟩

/-- a way either leads to a spot that is gone on from, or costs no less than one that waits -/
theorem SI.cover {L : List α} {best : Int} {x0 : Nat} (h : SI E b fin enc key c y L best x0) (hx : c.length ≤ x0) (hw : ∀ e ∈ E, 0 ≤ e.w) (k v : Nat) (x : Int) (H : WayN E b k v x) :
    (∃ p ∈ L, key p ≤ x) ∨ (0 ≤ gI c v ∧ gI c v ≤ x ∧ DoneS E fin c best v) := by
  have hne : ∀ u, 0 ≤ gI c u → u ≠ x0 := fun u h0 e => by rw [e, out_gI c x0 hx] at h0; omega
  induction k generalizing v x with
  | zero =>
    obtain ⟨rfl, h0⟩ := H
    obtain ⟨h1, h2⟩ := h.inv.le v h0
    rcases h.wait v (hne v h1) h1 with ⟨p, hp, _, e2⟩ | hd
    · exact Or.inl ⟨p, hp, by omega⟩
    · exact Or.inr ⟨h1, h2, hd⟩
  | succ k ih =>
    obtain ⟨e, he, rfl, z, hz, rfl⟩ := H
    have hew := hw e he
    rcases ih e.u z hz with ⟨p, hp, hle⟩ | ⟨h1, h2, hd⟩
    · exact Or.inl ⟨p, hp, by omega⟩
    · obtain ⟨h3, h4⟩ := hd.1 e he rfl
      rcases h.wait e.v (hne e.v h3) h3 with ⟨p, hp, _, e2⟩ | hd'
      · exact Or.inl ⟨p, hp, by omega⟩
      · exact Or.inr ⟨h3, by omega, hd'⟩

/-- none waits that could be better: it is the best -/
theorem SI.best {L : List α} {best : Int} {x0 : Nat} (h : SI E b fin enc key c y L best x0) (hx : c.length ≤ x0) (hw : ∀ e ∈ E, 0 ≤ e.w) (hL : ∀ p ∈ L, 0 ≤ best ∧ best ≤ key p) : IsBest E b fin best := by
  have all : ∀ v k z, WayN E b k v z → 0 ≤ fin v → 0 ≤ best ∧ best ≤ z + fin v := by
    intro v k z hz hf
    rcases h.cover hx hw k v z hz with ⟨p, hp, hle⟩ | ⟨_, h2, hd⟩
    · have := hL p hp
      omega
    · have := hd.2 hf
      omega
  rcases h.bst with hb | ⟨h0, hb⟩
  · exact Or.inl ⟨hb, fun v k z hz hf => by have := (all v k z hz hf).1; omega⟩
  · exact Or.inr ⟨h0, hb, fun v k z hz hf => (all v k z hz hf).2⟩

/-- spots come up in the order of what they cost, each of them once: D those that were gone on from, lo what the last one cost -/
structure SD (enc : α → Nat) (key : α → Int) (c : List Int) (L : List α) (D : List Nat) (lo : Int) : Prop where
  low : ∀ p ∈ L, lo ≤ key p
  past : ∀ u ∈ D, 0 ≤ gI c u ∧ gI c u ≤ lo ∧ ∀ p ∈ L, enc p = u → gI c u < key p
  nd : D.Nodup
  lt : ∀ u ∈ D, u < c.length
  twice : (L.map fun p => (enc p, key p)).Nodup

theorem SD.perm {L L' : List α} {D : List Nat} {lo : Int} (h : SD enc key c L D lo) (hp : L.Perm L') : SD enc key c L' D lo :=
  ⟨fun p hm => h.low p (hp.mem_iff.2 hm), fun u hu => ⟨(h.past u hu).1, (h.past u hu).2.1, fun p hm => (h.past u hu).2.2 p (hp.mem_iff.2 hm)⟩, h.nd, h.lt, (hp.map _).nodup_iff.1 h.twice⟩

theorem SD.start (p : α) (hk : 0 ≤ key p) : SD enc key c [p] [] 0 :=
  ⟨fun q hq => (by rw [List.mem_singleton.1 hq]; exact hk), fun u hu => (by cases hu), List.nodup_nil, fun u hu => (by cases hu), (by simp)⟩

theorem SD.stale {L : List α} {p : α} {D : List Nat} {lo : Int} (h : SD enc key c (p :: L) D lo) (hmin : ∀ q ∈ L, key p ≤ key q) : SD enc key c L D (key p) :=
  ⟨hmin, fun u hu => ⟨(h.past u hu).1, Int.le_trans (h.past u hu).2.1 (h.low p List.mem_cons_self), fun q hq => (h.past u hu).2.2 q (List.mem_cons_of_mem _ hq)⟩, h.nd, h.lt, (List.nodup_cons.1 h.twice).2⟩

theorem SD.take {L : List α} {p : α} {D : List Nat} {lo : Int} (h : SD enc key c (p :: L) D lo) (hmin : ∀ q ∈ L, key p ≤ key q) (hx : key p = gI c (enc p)) (hx0 : 0 ≤ key p) (hl : enc p < c.length) (hle : ∀ q ∈ L, gI c (enc q) ≤ key q) : SD enc key c L (enc p :: D) (key p) := by
  obtain ⟨h1, h2⟩ := List.nodup_cons.1 h.twice
  refine ⟨hmin, fun u hu => ?_, ?_, fun u hu => ?_, h2⟩
  · rcases List.mem_cons.1 hu with rfl | hu
    · refine ⟨by omega, by omega, fun q hq he => ?_⟩
      have h3 := hle q hq
      have h4 : key q ≠ key p := fun e => h1 (List.mem_map.2 ⟨q, hq, by rw [he, e]⟩)
      rw [he] at h3
      omega
    · exact (h.stale hmin).past u hu
  · refine List.nodup_cons.2 ⟨fun hm => ?_, h.nd⟩
    have := (h.past _ hm).2.2 p List.mem_cons_self rfl
    omega
  · rcases List.mem_cons.1 hu with rfl | hu
    · exact hl
    · exact h.lt u hu

theorem SD.meet {L : List α} {q : α} {D : List Nat} {lo : Int} {v : Nat} {w : Int} (h : SD enc key c L D lo) (hv : v < c.length) (hw : 0 ≤ w) (hbt : gI c v = -1 ∨ lo + w < gI c v) (hq : enc q = v) (hk : key q = lo + w)
    (hle : ∀ p ∈ L, 0 ≤ gI c (enc p) ∧ gI c (enc p) ≤ key p) : SD enc key (c.set v (lo + w)) (q :: L) D lo := by
  have hset := fun k => gI_set c v k (lo + w) hv
  have hvD : v ∉ D := fun hm => by have := h.past v hm; omega
  refine ⟨fun p hp => ?_, fun u hu => ?_, h.nd, fun u hu => by simpa using h.lt u hu, ?_⟩
  · rcases List.mem_cons.1 hp with rfl | hp
    · omega
    · exact h.low p hp
  · have huv : u ≠ v := fun e => hvD (e ▸ hu)
    rw [hset, if_neg huv]
    refine ⟨(h.past u hu).1, (h.past u hu).2.1, fun p hp he => ?_⟩
    rcases List.mem_cons.1 hp with rfl | hp
    · exact absurd (he.symm.trans hq) huv
    · exact (h.past u hu).2.2 p hp he
  · rw [List.map_cons]
    refine List.nodup_cons.2 ⟨fun hm => ?_, h.twice⟩
    obtain ⟨p, hp, he⟩ := List.mem_map.1 hm
    injection he with e1 e2
    have := hle p hp
    rw [e1, hq] at this
    omega

end

end Go.Proofs.YteehgcbjmdideaaGreatDoor.Sc

/- Spots: a state, and how many letters of two words are used; edges from spot to spot; what a pair of words costs. -/
namespace Go.Proofs.YteehgcbjmdideaaGreatDoor.Sc

/-- a spot as a number: N states, words of so many letters -/
def spotN (N O n i o : Nat) : Nat := (i * (O + 1) + o) * N + n

theorem mul_add_inj {N a a' n n' : Nat} (hn : n < N) (hn' : n' < N) (h : a * N + n = a' * N + n') : a = a' ∧ n = n' := by
  have e1 : (a * N + n) / N = a := by rw [Nat.mul_comm, Nat.mul_add_div (by omega), Nat.div_eq_of_lt hn, Nat.add_zero]
  have e2 : (a' * N + n') / N = a' := by rw [Nat.mul_comm, Nat.mul_add_div (by omega), Nat.div_eq_of_lt hn', Nat.add_zero]
  have e3 : a = a' := by rw [← e1, ← e2, h]
  subst e3
  exact ⟨rfl, by omega⟩

theorem spotN_inj {N O n i o n' i' o' : Nat} (hn : n < N) (hn' : n' < N) (ho : o ≤ O) (ho' : o' ≤ O) (h : spotN N O n i o = spotN N O n' i' o') : n = n' ∧ i = i' ∧ o = o' := by
  obtain ⟨h1, h2⟩ := mul_add_inj hn hn' h
  obtain ⟨h3, h4⟩ := mul_add_inj (N := O + 1) (by omega) (by omega) h1
  exact ⟨h2, h3, h4⟩

theorem place_lt {I O i o : Nat} (hi : i ≤ I) (ho : o ≤ O) : i * (O + 1) + o < (I + 1) * (O + 1) := by
  have h := Nat.mul_le_mul_right (O + 1) hi
  have e : (I + 1) * (O + 1) = I * (O + 1) + (O + 1) := by rw [Nat.add_mul, Nat.one_mul]
  omega

theorem mul_add_lt {N P p n : Nat} (hp : p < P) (hn : n < N) : p * N + n < P * N := by
  have h := Nat.mul_le_mul_right N (show p + 1 ≤ P by omega)
  rw [Nat.add_mul, Nat.one_mul] at h
  omega

theorem spotN_lt {N I O n i o : Nat} (hn : n < N) (hi : i ≤ I) (ho : o ≤ O) : spotN N O n i o < (I + 1) * (O + 1) * N := mul_add_lt (place_lt hi ho) hn

/-- does a letter stand behind those that are used already? -/
def fitB (word : List Int) (used : Nat) (letter : Int) : Bool := (letter == 0) || (decide (used < word.length) && (word.getD used 0 == letter))
def usedBy (used : Nat) (letter : Int) : Nat := if letter = 0 then used else used + 1

theorem usedBy_le {word : List Int} {used : Nat} {letter : Int} (h : fitB word used letter = true) (hu : used ≤ word.length) : usedBy used letter ≤ word.length := by
  unfold usedBy
  unfold fitB at h
  split
  · exact hu
  · rename_i hl
    simp [hl] at h
    omega

/-- an arc at a place of both words; one that does not fit leads from the first spot to itself -/
def edgeS (N : Nat) (ins outs : List Int) (i o : Nat) (a : ArcD) : Edg :=
  if (fitB ins i a.inp && fitB outs o a.out) = true then ⟨spotN N outs.length a.src.toNat i o, spotN N outs.length a.dst.toNat (usedBy i a.inp) (usedBy o a.out), a.wt⟩ else ⟨0, 0, 0⟩

/-- the edges at the first k places -/
def edK (N : Nat) (ins outs : List Int) (arcs : List ArcD) (k : Nat) : List Edg := (List.range k).flatMap fun p => arcs.map (edgeS N ins outs (p / (outs.length + 1)) (p % (outs.length + 1)))
def edS (N : Nat) (ins outs : List Int) (arcs : List ArcD) : List Edg := edK N ins outs arcs ((ins.length + 1) * (outs.length + 1))

theorem edK_succ (N : Nat) (ins outs : List Int) (arcs : List ArcD) (k : Nat) : edK N ins outs arcs (k + 1) = edK N ins outs arcs k ++ arcs.map (edgeS N ins outs (k / (outs.length + 1)) (k % (outs.length + 1))) := by
  simp [edK, List.range_succ]
theorem edK_len (N : Nat) (ins outs : List Int) (arcs : List ArcD) (k : Nat) : (edK N ins outs arcs k).length = k * arcs.length := by
  induction k with
  | zero => simp [edK]
  | succ k ih => rw [edK_succ, List.length_append, ih, List.length_map, Nat.add_mul, Nat.one_mul]
theorem edK_get (N : Nat) (ins outs : List Int) (arcs : List ArcD) (k p n : Nat) (a : ArcD) (hp : p < k) (hn : arcs[n]? = some a) : (edK N ins outs arcs k)[p * arcs.length + n]? = some (edgeS N ins outs (p / (outs.length + 1)) (p % (outs.length + 1)) a) := by
  have hnl : n < arcs.length := by
    by_cases h : n < arcs.length
    · exact h
    · rw [List.getElem?_eq_none (by omega)] at hn; cases hn
  induction k with
  | zero => omega
  | succ k ih =>
    rw [edK_succ]
    by_cases h : p < k
    · rw [List.getElem?_append_left (by rw [edK_len]; exact mul_add_lt h hnl)]
      exact ih h
    · have : p = k := by omega
      subst this
      rw [List.getElem?_append_right (by rw [edK_len]; omega), edK_len, Nat.add_sub_cancel_left, List.getElem?_map, hn]
      rfl

theorem place_div {O i o : Nat} (ho : o ≤ O) : (i * (O + 1) + o) / (O + 1) = i ∧ (i * (O + 1) + o) % (O + 1) = o := by
  constructor
  · rw [Nat.mul_comm, Nat.mul_add_div (by omega), Nat.div_eq_of_lt (by omega), Nat.add_zero]
  · rw [Nat.mul_comm, Nat.mul_add_mod, Nat.mod_eq_of_lt (by omega)]

theorem place_of {I O p : Nat} (hp : p < (I + 1) * (O + 1)) : p / (O + 1) ≤ I ∧ p % (O + 1) ≤ O ∧ p / (O + 1) * (O + 1) + p % (O + 1) = p := by
  have h1 : p / (O + 1) < I + 1 := Nat.div_lt_of_lt_mul (by rw [Nat.mul_comm]; exact hp)
  have h2 : p % (O + 1) < O + 1 := Nat.mod_lt _ (by omega)
  have h3 := Nat.div_add_mod p (O + 1)
  rw [Nat.mul_comm] at h3
  exact ⟨by omega, by omega, h3⟩

theorem edS_get {N : Nat} {ins outs : List Int} {arcs : List ArcD} {i o n : Nat} {a : ArcD} (hi : i ≤ ins.length) (ho : o ≤ outs.length) (hn : arcs[n]? = some a) : (edS N ins outs arcs)[(i * (outs.length + 1) + o) * arcs.length + n]? = some (edgeS N ins outs i o a) := by
  have := edK_get N ins outs arcs _ _ n a (place_lt hi ho) hn
  rw [(place_div ho).1, (place_div ho).2] at this
  exact this

theorem edS_mem {N : Nat} {ins outs : List Int} {arcs : List ArcD} {e : Edg} : e ∈ edS N ins outs arcs ↔ ∃ i o a, i ≤ ins.length ∧ o ≤ outs.length ∧ a ∈ arcs ∧ e = edgeS N ins outs i o a := by
  unfold edS edK
  rw [List.mem_flatMap]
  constructor
  · rintro ⟨p, hp, he⟩
    obtain ⟨a, ha, rfl⟩ := List.mem_map.1 he
    obtain ⟨h1, h2, _⟩ := place_of (List.mem_range.1 hp)
    exact ⟨_, _, a, h1, h2, ha, rfl⟩
  · rintro ⟨i, o, a, hi, ho, ha, rfl⟩
    refine ⟨i * (outs.length + 1) + o, List.mem_range.2 (place_lt hi ho), List.mem_map.2 ⟨a, ha, ?_⟩⟩
    rw [(place_div ho).1, (place_div ho).2]

/-- nothing at the beginning but one spot, for nothing -/
def bgS (s T : Nat) : List Int := (List.range T).map fun v => if v = s then 0 else -1
theorem bgS_len (s T : Nat) : (bgS s T).length = T := by simp [bgS]
theorem bgS_at (s T v : Nat) : gI (bgS s T) v = if v = s ∧ v < T then 0 else -1 := by
  unfold gI bgS
  by_cases hv : v < T
  · simp [List.getD, hv]
  · simp [List.getD, hv]

/-- what it costs to end at a spot: only where both words are used up -/
def finS (T N : Nat) (fin : List Int) (u : Nat) : Int := if T - N ≤ u then gI fin (u - (T - N)) else -1

theorem spotN_end (N I O n : Nat) : spotN N O n I O = (I + 1) * (O + 1) * N - N + n := by
  have e : (I + 1) * (O + 1) = (I * (O + 1) + O) + 1 := by rw [Nat.add_mul, Nat.one_mul]; omega
  unfold spotN
  rw [e, Nat.add_mul (I * (O + 1) + O) 1 N, Nat.one_mul]
  omega
theorem finS_end (N I O n : Nat) (fin : List Int) : finS ((I + 1) * (O + 1) * N) N fin (spotN N O n I O) = gI fin n := by
  unfold finS
  rw [spotN_end N I O n, if_pos (by omega), Nat.add_sub_cancel_left]
theorem finS_no (N I O n i o : Nat) (fin : List Int) (hn : n < N) (hi : i ≤ I) (ho : o ≤ O) (h : i < I ∨ o < O) : finS ((I + 1) * (O + 1) * N) N fin (spotN N O n i o) = -1 := by
  unfold finS
  rw [if_neg]
  intro hle
  have hp : i * (O + 1) + o < I * (O + 1) + O := by
    have h1 := Nat.mul_le_mul_right (O + 1) hi
    rcases h with h | h
    · have h2 := Nat.mul_le_mul_right (O + 1) (show i + 1 ≤ I by omega)
      rw [Nat.add_mul, Nat.one_mul] at h2
      omega
    · omega
  have h3 := mul_add_lt (N := N) hp hn
  have e : (I + 1) * (O + 1) = (I * (O + 1) + O) + 1 := by rw [Nat.add_mul, Nat.one_mul]; omega
  rw [e, Nat.add_mul (I * (O + 1) + O) 1 N, Nat.one_mul] at hle
  unfold spotN at hle
  omega

/-- what a pair of words costs -/
def IsScore (f : FstD) (ins outs : List Int) (x : Int) : Prop :=
  IsBest (edS f.states.toNat ins outs f.arcs) (bgS f.start.toNat ((ins.length + 1) * (outs.length + 1) * f.states.toNat)) (finS ((ins.length + 1) * (outs.length + 1) * f.states.toNat) f.states.toNat f.final) x

end Go.Proofs.YteehgcbjmdideaaGreatDoor.Sc

/- What the document's tables hold: place by place, along arcs that say something, then along silent ones till nothing is better. -/
namespace Go.Proofs.YteehgcbjmdideaaGreatDoor.Sc

/-- the prices at one place -/
def segL (c : List Int) (N p : Nat) : List Int := (c.drop (p * N)).take N

theorem segL_len {c : List Int} {N P p : Nat} (hc : c.length = P * N) (hp : p < P) : (segL c N p).length = N := by
  have := Nat.mul_le_mul_right N (show p + 1 ≤ P by omega)
  rw [Nat.add_mul, Nat.one_mul] at this
  simp [segL]
  omega
theorem segL_at (c : List Int) (N p n : Nat) (hn : n < N) : gI (segL c N p) n = gI c (p * N + n) := by
  unfold gI segL
  simp [List.getD, hn]
theorem segL_set_same {c : List Int} {N p n : Nat} (x : Int) : segL (c.set (p * N + n) x) N p = (segL c N p).set n x := by
  unfold segL
  rw [List.drop_set, if_neg (by omega), Nat.add_sub_cancel_left, List.take_set]
theorem segL_set_other {c : List Int} {N p q n : Nat} (x : Int) (hn : n < N) (hq : q ≠ p) : segL (c.set (p * N + n) x) N q = segL c N q := by
  apply List.ext_getElem?
  intro k
  unfold segL
  rw [List.getElem?_take, List.getElem?_take]
  split
  · rename_i hk
    rw [List.getElem?_drop, List.getElem?_drop, List.getElem?_set, if_neg]
    intro he
    exact hq (mul_add_inj hn hk he).1.symm
  · rfl

/-- no edge to one of the first k spots makes anything better -/
def FixTo (E : List Edg) (c : List Int) (k : Nat) : Prop := ∀ e ∈ E, e.v < k → 0 ≤ gI c e.u → Rlx c e

theorem FixTo.set {E : List Edg} {c : List Int} {k v : Nat} {x : Int} (h : FixTo E c k) (hE : ∀ e ∈ E, e.v < k → e.u < k) (hv : k ≤ v) (hvc : v < c.length) : FixTo E (c.set v x) k := by
  intro e he hk h0
  have hu := hE e he hk
  have e1 : gI (c.set v x) e.u = gI c e.u := by rw [gI_set _ _ _ _ hvc, if_neg (by omega)]
  have e2 : gI (c.set v x) e.v = gI c e.v := by rw [gI_set _ _ _ _ hvc, if_neg (by omega)]
  rw [e1] at h0
  have := h e he hk h0
  unfold Rlx at this ⊢
  rw [e1, e2]
  exact this

theorem FixTo.all {E : List Edg} {c : List Int} {k : Nat} (h : FixTo E c k) (hE : ∀ e ∈ E, e.v < k) : Fix E c := fun e he h0 => h e he (hE e he) h0

/-- along one edge -/
theorem relE_rlx {c : List Int} {e : Edg} (hvc : e.v < c.length) (hw : 0 ≤ e.w) (hlo : ∀ v, -1 ≤ gI c v) (h0 : 0 ≤ gI (relE c e) e.u) : Rlx (relE c e) e := by
  by_cases hu : 0 ≤ gI c e.u
  · obtain ⟨h1, h2⟩ := relE_edge c e hvc hw hu
    refine ⟨h1, ?_⟩
    by_cases huv : e.u = e.v
    · rw [huv]; omega
    · have : gI (relE c e) e.u = gI c e.u := by unfold relE; rw [gI_set _ _ _ _ hvc, if_neg huv]
      omega
  · exfalso
    have hm : gI c e.u = -1 := by have := hlo e.u; omega
    have hp : plusC (gI c e.u) e.w = -1 := by unfold plusC; rw [if_pos (by omega)]
    by_cases huv : e.u = e.v
    · have : gI (relE c e) e.u = gI c e.u := by
        unfold relE
        rw [gI_set _ _ _ _ hvc, if_pos huv, hp, ← huv, hm]
        rfl
      omega
    · have : gI (relE c e) e.u = gI c e.u := by unfold relE; rw [gI_set _ _ _ _ hvc, if_neg huv]
      omega

/-- an edge that made nothing better stays so while only other spots' prices fall, and its own end's -/
theorem rlx_stays {c c' : List Int} {e : Edg} (h : 0 ≤ gI c e.u → Rlx c e) (hl : LeC c' c) (hu : gI c' e.u = gI c e.u) : 0 ≤ gI c' e.u → Rlx c' e := by
  intro h0
  rw [hu] at h0
  exact (h h0).mono hl hu

/-- nothing is better along an edge: its price is what it was -/
theorem rlx_same {c : List Int} {e : Edg} (hw : 0 ≤ e.w) (hlo : -1 ≤ gI c e.v) (h : lessC (gI c e.v) (plusC (gI c e.u) e.w) = gI c e.v) : 0 ≤ gI c e.u → Rlx c e := by
  intro h0
  have hp : plusC (gI c e.u) e.w = gI c e.u + e.w := by unfold plusC; rw [if_neg (by omega)]
  rw [hp] at h
  unfold lessC at h
  unfold Rlx
  split at h
  · omega
  · split at h <;> omega

end Go.Proofs.YteehgcbjmdideaaGreatDoor.Sc

/- Arcs that stand by where they begin: the number of the first arc of each state. Edges from spot to spot, their bounds. -/
namespace Go.Proofs.YteehgcbjmdideaaGreatDoor.Sc

/-- no arc begins ahead of where the one ahead of it does -/
def SortedA : List ArcD → Prop
  | [] => True
  | a :: l => (∀ x ∈ l, a.src ≤ x.src) ∧ SortedA l

theorem ahead_src {a b : ArcD} (h : aheadB a b = true) : a.src ≤ b.src := by
  unfold aheadB at h
  split at h
  · have := of_decide_eq_true h; omega
  · rename_i he
    have : a.src = b.src := Classical.byContradiction fun hn => he hn
    omega

theorem arcsErr_sorted (st : Int) (l : List ArcD) (p : Option ArcD) (h : arcsErr st p l = 0) : SortedA l ∧ ∀ q, p = some q → ∀ x ∈ l, q.src ≤ x.src := by
  induction l generalizing p with
  | nil => exact ⟨trivial, fun _ _ x hx => by cases hx⟩
  | cons a l ih =>
    unfold arcsErr at h
    split at h
    · rename_i h0
      obtain ⟨h1, h2⟩ := ih (some a) h
      refine ⟨⟨h2 a rfl, h1⟩, fun q hq x hx => ?_⟩
      have hqa : q.src ≤ a.src := by
        subst hq
        unfold arcErr at h0
        split at h0
        · cases h0
        · split at h0
          · cases h0
          · simp only at h0
            split at h0
            · rename_i ha; exact ahead_src ha
            · cases h0
      rcases List.mem_cons.1 hx with rfl | hx
      · exact hqa
      · have := h2 a rfl x hx; omega
    · rename_i h0; exact absurd h h0

/-- how many arcs begin at one of the first s states -/
def cntB (l : List ArcD) (s : Nat) : Nat := (l.filter fun a => decide (a.src < (s : Int))).length

theorem cntB_le (l : List ArcD) (s : Nat) : cntB l s ≤ l.length := List.length_filter_le _ _
theorem cntB_zero (l : List ArcD) (h : ∀ a ∈ l, 0 ≤ a.src) : cntB l 0 = 0 := by
  unfold cntB
  rw [List.length_eq_zero_iff, List.filter_eq_nil_iff]
  intro a ha
  have := h a ha
  simp
  omega

theorem SortedA.at {l : List ArcD} (h : SortedA l) (s k : Nat) (a : ArcD) (hk : l[k]? = some a) : k < cntB l s ↔ a.src < (s : Int) := by
  induction l generalizing k with
  | nil => simp at hk
  | cons b l ih =>
    obtain ⟨h1, h2⟩ := h
    unfold cntB
    by_cases hb : b.src < (s : Int)
    · rw [List.filter_cons_of_pos (by simpa using hb), List.length_cons]
      cases k with
      | zero =>
        simp at hk; subst hk
        exact ⟨fun _ => hb, fun _ => by omega⟩
      | succ k =>
        have := ih h2 k (by simpa using hk)
        unfold cntB at this
        omega
    · have hn : (b :: l).filter (fun a => decide (a.src < (s : Int))) = [] := by
        rw [List.filter_eq_nil_iff]
        intro x hx
        rcases List.mem_cons.1 hx with rfl | hx
        · simpa using hb
        · have := h1 x hx
          simp; omega
      rw [hn]
      have ha : a ∈ b :: l := List.mem_of_getElem? hk
      have : b.src ≤ a.src := by
        rcases List.mem_cons.1 ha with rfl | ha
        · exact Int.le_refl _
        · exact h1 a ha
      simp
      omega

/-- the arcs of a state stand between its first one and the next state's -/
theorem SortedA.of {l : List ArcD} (h : SortedA l) (s k : Nat) (a : ArcD) (hk : l[k]? = some a) : (cntB l s ≤ k ∧ k < cntB l (s + 1)) ↔ a.src = (s : Int) := by
  have h1 := h.at s k a hk
  have h2 := h.at (s + 1) k a hk
  omega

section
variable {N : Nat} {ins outs : List Int} {arcs : List ArcD}

theorem edS_bounds (hN : 1 ≤ N) (hok : ∀ a ∈ arcs, (0 ≤ a.src ∧ a.src < N) ∧ (0 ≤ a.dst ∧ a.dst < N) ∧ (0 ≤ a.wt ∧ a.wt ≤ 1000000000)) : ∀ e ∈ edS N ins outs arcs, e.v < (ins.length + 1) * (outs.length + 1) * N ∧ 0 ≤ e.w ∧ e.w ≤ 1000000000 := by
  intro e he
  obtain ⟨i, o, a, hi, ho, ha, rfl⟩ := edS_mem.1 he
  obtain ⟨_, h2, h3⟩ := hok a ha
  unfold edgeS
  split
  · rename_i hf
    rw [Bool.and_eq_true] at hf
    exact ⟨spotN_lt (by omega) (usedBy_le hf.1 hi) (usedBy_le hf.2 ho), h3⟩
  · refine ⟨?_, by decide, by decide⟩
    have := spotN_lt (N := N) (n := 0) (i := 0) (o := 0) (by omega) (Nat.zero_le ins.length) (Nat.zero_le outs.length)
    show 0 < _
    omega

theorem usedBy_ge (u : Nat) (l : Int) : u ≤ usedBy u l := by unfold usedBy; split <;> omega

/-- edges lead to the same place, or to one behind it -/
theorem edS_down (hok : ∀ a ∈ arcs, (0 ≤ a.src ∧ a.src < N) ∧ (0 ≤ a.dst ∧ a.dst < N) ∧ (0 ≤ a.wt ∧ a.wt ≤ 1000000000)) (k : Nat) : ∀ e ∈ edS N ins outs arcs, e.v < k * N → e.u < k * N := by
  intro e he hk
  obtain ⟨i, o, a, hi, ho, ha, rfl⟩ := edS_mem.1 he
  obtain ⟨h1, h2, _⟩ := hok a ha
  unfold edgeS at hk ⊢
  split
  · rename_i hf
    rw [if_pos hf] at hk
    have hp : i * (outs.length + 1) + o ≤ usedBy i a.inp * (outs.length + 1) + usedBy o a.out := by
      have := Nat.mul_le_mul_right (outs.length + 1) (usedBy_ge i a.inp)
      have := usedBy_ge o a.out
      omega
    have hlt : usedBy i a.inp * (outs.length + 1) + usedBy o a.out < k := by
      apply Classical.byContradiction
      intro hn
      have := Nat.mul_le_mul_right N (Nat.not_lt.1 hn)
      have hk' : (usedBy i a.inp * (outs.length + 1) + usedBy o a.out) * N + a.dst.toNat < k * N := hk
      omega
    exact mul_add_lt (Nat.lt_of_le_of_lt hp hlt) (by omega)
  · rename_i hf
    rw [if_neg hf] at hk
    exact hk

/-- an edge from a spot: an arc of its state that fits; or it leads from the first spot to itself for nothing -/
theorem edS_from {n i o : Nat} (hn : n < N) (ho : o ≤ outs.length) (hok : ∀ a ∈ arcs, (0 ≤ a.src ∧ a.src < N) ∧ (0 ≤ a.dst ∧ a.dst < N) ∧ (0 ≤ a.wt ∧ a.wt ≤ 1000000000)) {e : Edg} (he : e ∈ edS N ins outs arcs) (hu : e.u = spotN N outs.length n i o) :
    e = ⟨0, 0, 0⟩ ∨ ∃ (k : Nat) (a : ArcD), arcs[k]? = some a ∧ a.src = (n : Int) ∧ (fitB ins i a.inp && fitB outs o a.out) = true ∧ e = edgeS N ins outs i o a := by
  obtain ⟨i', o', a, hi', ho', ha, rfl⟩ := edS_mem.1 he
  obtain ⟨h1, _, _⟩ := hok a ha
  by_cases hf : (fitB ins i' a.inp && fitB outs o' a.out) = true
  · right
    unfold edgeS at hu
    rw [if_pos hf] at hu
    obtain ⟨h3, rfl, rfl⟩ := spotN_inj (by omega) hn ho' ho hu
    obtain ⟨k, hk⟩ := List.getElem?_of_mem ha
    exact ⟨k, a, hk, by omega, hf, rfl⟩
  · left
    unfold edgeS
    rw [if_neg hf]

theorem rlx_zero {c : List Int} (h : 0 ≤ gI c 0) : Rlx c ⟨0, 0, 0⟩ := ⟨h, by simp⟩
end

end Go.Proofs.YteehgcbjmdideaaGreatDoor.Sc

/- A region that draws its order and whose last operation, number k, waits for all the others: a load may be taken first where nobody but k writes its cell. What is held need not outlive k. -/
namespace Go.Proofs.YteehgcbjmdideaaGreatDoor.Sc
open Go

section
variable {P : Program} {ops : Array Oper} {Q : Exit → Act → World → Prop} {md : Region.Mode} {S : World → Prop} {k : Nat}

/-- whatever order is picked from here on, and S holds behind every operation but k -/
def wpAnyU (P : Program) (md : Region.Mode) (ops : Array Oper) (Q : Exit → Act → World → Prop) (S : World → Prop) (k : Nat) : Nat → Array Bool → Act → World → Prop
  | 0, listed, a, w => Region.ready md ops listed = [] ∧ Q .normal a w
  | fuel + 1, listed, a, w =>
    (Region.ready md ops listed = [] → Q .normal a w) ∧
    ∀ i ∈ Region.ready md ops listed, wpOp P ops Q i (fun a' w' => (i ≠ k → S w') ∧ wpAnyU P md ops Q S k fuel (listed.setIfInBounds i true) a' w') a w

theorem wpAny_of_U : ∀ (fuel : Nat) (listed : Array Bool) (a : Act) (w : World), wpAnyU P md ops Q S k fuel listed a w → wpAny P md ops Q fuel listed a w
  | 0, _, _, _, h => h
  | fuel + 1, _, _, _, h => ⟨h.1, fun i hi => wpOp_mono (fun a' w' h' => wpAny_of_U fuel _ a' w' h'.2) (h.2 i hi)⟩

/-- who may come up does not wait for one that has not come up -/
theorem ready_not_on {listed : Array Bool} {i j : Nat} {oj : Oper} (hr : i ∈ Region.ready md ops listed) (hj : j ∈ Region.ready md ops listed) (hoj : ops[j]? = some oj) :
    ∀ e ∈ oj.after, Region.binds md e = true → e.on ≠ i := by
  obtain ⟨_, o, ho, hall⟩ := mem_ready.1 hj
  rw [hoj] at ho
  injection ho with ho
  subst ho
  have hun := (mem_ready.1 hr).1
  rintro e he hb rfl
  have hl := hall e he hb
  by_cases hs : e.on < listed.size
  · simp only [Array.getD_eq_getD_getElem?, Array.getElem?_eq_getElem hs, Option.getD_some] at hun hl
    exact Bool.noConfusion (hun.symm.trans hl)
  · simp only [Array.getD_eq_getD_getElem?, Array.getElem?_eq_none (Nat.le_of_not_lt hs), Option.getD_none] at hl
    cases hl

/-- number i can wait: it may come up, its value is known, and all goes well if it is taken now -/
structure CanWait (P : Program) (md : Region.Mode) (ops : Array Oper) (Q : Exit → Act → World → Prop) (S : World → Prop) (k i : Nat) (oi : Oper) (v : Value) (fuel : Nat) (listed : Array Bool) (a : Act) (w : World) : Prop where
  up : i ∈ Region.ready md ops listed
  apart : ∀ j oj, ops[j]? = some oj → j ≠ i → listed.getD j true = false → (∀ e ∈ oj.after, Region.binds md e = true → e.on ≠ i) → oi.apart ops oj = true
  val : YieldsIf P ops S oi v a
  holds : S w
  taken : wpAnyU P md ops Q S k fuel (listed.setIfInBounds i true) (a.put oi.dst v) w

section
variable {i : Nat} {oi : Oper} {v : Value}

/-- behind any other one that comes up, it still can -/
theorem CanWait.other (hi : ops[i]? = some oi) (hsel : ∀ (j : Nat) (o : Oper) cs b, ops[j]? = some o → o.op ≠ .select cs b)
    (hk : i ≠ k ∧ ∀ ok, ops[k]? = some ok → ∃ e ∈ ok.after, Region.binds md e = true ∧ e.on = i)
    (hQ : ∀ c a w, Q (.panic c) (a.put oi.dst v) w → Q (.panic c) a w) {fuel j : Nat} {listed : Array Bool} {a : Act} {w : World}
    (h : CanWait P md ops Q S k i oi v (fuel + 1) listed a w) (hj : j ∈ Region.ready md ops listed) (hne : j ≠ i) :
    wpOp P ops Q j (fun a' w' => (j ≠ k → S w') ∧ CanWait P md ops Q S k i oi v fuel (listed.setIfInBounds j true) a' w') a w := by
  obtain ⟨hun, oj, hoj, _⟩ := mem_ready.1 hj
  have hno := ready_not_on h.up hj hoj
  have hjk : j ≠ k := by
    rintro rfl
    obtain ⟨e, he, hb, hon⟩ := hk.2 oj hoj
    exact hno e he hb hon
  have hstep := h.taken.2 j (ready_mono hj hne)
  rw [Array.setIfInBounds_comm _ _ (Ne.symm hne)] at hstep
  refine wpOp_mono ?_ (wpOp_putIf hoj (h.apart j oj hoj hne hun hno) (hsel i oi · · hi) (hsel j oj · · hoj) hQ h.val hstep)
  rintro a' w' ⟨hval, hS, hrest⟩
  refine ⟨hS, ready_mono h.up (Ne.symm hne), fun m om hm hmi hml hmo => h.apart m om hm hmi ?_ hmo, hval, hS hjk, hrest⟩
  by_cases hjm : j = m
  · exact hjm ▸ hun
  · rwa [getD_set_ne true hjm] at hml

/-- so all goes well whenever it comes up -/
theorem CanWait.any (hi : ops[i]? = some oi) (hsel : ∀ (j : Nat) (o : Oper) cs b, ops[j]? = some o → o.op ≠ .select cs b)
    (hk : i ≠ k ∧ ∀ ok, ops[k]? = some ok → ∃ e ∈ ok.after, Region.binds md e = true ∧ e.on = i)
    (hQ : ∀ c a w, Q (.panic c) (a.put oi.dst v) w → Q (.panic c) a w) (fuel : Nat) :
    ∀ {listed : Array Bool} {a : Act} {w : World}, CanWait P md ops Q S k i oi v fuel listed a w → wpAnyU P md ops Q S k (fuel + 1) listed a w := by
  induction fuel with
  | zero =>
    intro listed a w h
    refine ⟨fun hnil => absurd h.up (by simp [hnil]), fun j hj => ?_⟩
    rcases Nat.decEq j i with hne | rfl
    · exact absurd (ready_mono hj hne) (by simp [h.taken.1])
    · exact h.val.wpOp hi h.holds ⟨fun _ => h.holds, h.taken⟩
  | succ fuel ih =>
    intro listed a w h
    refine ⟨fun hnil => absurd h.up (by simp [hnil]), fun j hj => ?_⟩
    rcases Nat.decEq j i with hne | rfl
    · exact wpOp_mono (fun _ _ hc => ⟨hc.1, ih hc.2⟩) (h.other hi hsel hk hQ hj hne)
    · exact h.val.wpOp hi h.holds ⟨fun _ => h.holds, h.taken⟩

end

/-- does number k wait for number i? -/
def waits (md : Region.Mode) (ops : Array Oper) (k i : Nat) : Bool := i != k && ((ops[k]?).map (·.after.any fun e => Region.binds md e && e.on == i)).getD true

theorem waits_spec {i : Nat} (h : waits md ops k i = true) : i ≠ k ∧ ∀ ok, ops[k]? = some ok → ∃ e ∈ ok.after, Region.binds md e = true ∧ e.on = i := by
  unfold waits at h
  rw [Bool.and_eq_true] at h
  refine ⟨by simpa using h.1, fun ok hok => ?_⟩
  have h2 := h.2
  rw [hok] at h2
  simp only [Option.map_some, Option.getD_some, Array.any_eq_true] at h2
  obtain ⟨j, hj, h3⟩ := h2
  rw [Bool.and_eq_true] at h3
  exact ⟨ok.after[j], Array.getElem_mem hj, h3.1, by simpa using h3.2⟩

theorem wpAnyU_take {i : Nat} {oi : Oper} {v : Value} {fuel : Nat} {listed : Array Bool} {a : Act} {w : World} (hi : ops[i]? = some oi)
    (hs : Region.noSelect ops = true) (hf : Region.free md ops listed i = true) (hr : (Region.ready md ops listed).contains i = true) (hk : waits md ops k i = true)
    (hQ : ∀ c a w, Q (.panic c) (a.put oi.dst v) w → Q (.panic c) a w) (hy : YieldsIf P ops S oi v a) (hS : S w)
    (h : wpAnyU P md ops Q S k fuel (listed.setIfInBounds i true) (a.put oi.dst v) w) : wpAnyU P md ops Q S k (fuel + 1) listed a w :=
  CanWait.any hi (Region.noSelect_spec hs) (waits_spec hk) hQ fuel ⟨by simpa using hr, Region.free_spec hi hf, hy, hS, h⟩

/-- only number i may come up -/
theorem wpAnyU_one {i : Nat} {o : Oper} {fuel : Nat} {listed : Array Bool} {a : Act} {w : World} (ho : ops[i]? = some o) (hr : Region.ready md ops listed = [i])
    (h : ∀ K' : Act → World → Prop, Shut (∀ a w, ((i ≠ k → S w) ∧ wpAnyU P md ops Q S k fuel (listed.setIfInBounds i true) a w) → K' a w) → if Region.wanted o (yielded ops a.tmps) = true then Oper.wp P o a w K' Q else K' (a.put o.dst undef) w) : wpAnyU P md ops Q S k (fuel + 1) listed a w := by
  refine ⟨fun h0 => (by rw [hr] at h0; cases h0), fun j hj => ?_⟩
  rw [hr] at hj
  have : j = i := by simpa using hj
  subst this
  exact wpOp_step ho (fun K' hK => h K' (fun a w hS => hK a w hS))

theorem wpAnyU_done {listed : Array Bool} {a : Act} {w : World} (hr : Region.ready md ops listed = []) (h : Q .normal a w) :
    ∀ fuel, wpAnyU P md ops Q S k fuel listed a w
  | 0 => ⟨hr, h⟩
  | _ + 1 => ⟨fun _ => h, by rw [hr]; simp⟩

theorem wp_region_U (S : World → Prop) (k : Nat) {id : Nat} {a : Act} {w : World} (hm : P.follows .mixedOrders = true) (hS : S w.drew)
    (h : S w.drew → wpAnyU P .any ops Q S k ops.size (Array.replicate ops.size false) a w.drew) : (Code.region id ops true).wp P Q a w :=
  wp_region_any hm (wpAny_of_U _ _ _ _ (h hS))

end
end Go.Proofs.YteehgcbjmdideaaGreatDoor.Sc

/- A region that draws its order, some of whose operations are fatal to what is held: a load may be taken first where all the fatal ones wait for it; what looks at no memory may be taken first in any case. What is held need hold only till a fatal one has come up. -/
namespace Go.Proofs.YteehgcbjmdideaaGreatDoor.Sc
open Go

section
variable {P : Program} {ops : Array Oper} {Q : Exit → Act → World → Prop} {md : Region.Mode} {S : World → Prop} {fatal : List Nat}

/-- no fatal one has come up -/
def unl (fatal : List Nat) (listed : Array Bool) : Prop := ∀ k ∈ fatal, listed.getD k false = false

theorem getD_set (listed : Array Bool) (i k : Nat) (h : i ≠ k) : (listed.setIfInBounds i true).getD k false = listed.getD k false := by
  simp only [Array.getD_eq_getD_getElem?, Array.getElem?_setIfInBounds_ne h]

theorem unl_set {listed : Array Bool} {i : Nat} (hi : i ∉ fatal) : unl fatal (listed.setIfInBounds i true) ↔ unl fatal listed := by
  unfold unl
  constructor
  · intro h k hk
    rw [← getD_set listed i k (fun e => hi (e ▸ hk))]
    exact h k hk
  · intro h k hk
    rw [getD_set listed i k (fun e => hi (e ▸ hk))]
    exact h k hk

/-- whatever order is picked from here on, and S holds till a fatal one has come up -/
def wpAnyF (P : Program) (md : Region.Mode) (ops : Array Oper) (Q : Exit → Act → World → Prop) (S : World → Prop) (fatal : List Nat) : Nat → Array Bool → Act → World → Prop
  | 0, listed, a, w => Region.ready md ops listed = [] ∧ Q .normal a w
  | fuel + 1, listed, a, w =>
    (Region.ready md ops listed = [] → Q .normal a w) ∧
    ∀ i ∈ Region.ready md ops listed, wpOp P ops Q i (fun a' w' => (unl fatal (listed.setIfInBounds i true) → S w') ∧ wpAnyF P md ops Q S fatal fuel (listed.setIfInBounds i true) a' w') a w

theorem wpAny_of_F : ∀ (fuel : Nat) (listed : Array Bool) (a : Act) (w : World), wpAnyF P md ops Q S fatal fuel listed a w → wpAny P md ops Q fuel listed a w
  | 0, _, _, _, h => h
  | fuel + 1, _, _, _, h => ⟨h.1, fun i hi => wpOp_mono (fun a' w' h' => wpAny_of_F fuel _ a' w' h'.2) (h.2 i hi)⟩

/-- number i can wait: it may come up, its value is known under R, and all goes well if it is taken now -/
structure CanF (P : Program) (md : Region.Mode) (ops : Array Oper) (Q : Exit → Act → World → Prop) (S R : World → Prop) (fatal : List Nat) (i : Nat) (oi : Oper) (v : Value) (fuel : Nat) (listed : Array Bool) (a : Act) (w : World) : Prop where
  up : i ∈ Region.ready md ops listed
  apart : ∀ j oj, ops[j]? = some oj → j ≠ i → listed.getD j true = false → (∀ e ∈ oj.after, Region.binds md e = true → e.on ≠ i) → oi.apart ops oj = true
  val : YieldsIf P ops R oi v a
  known : R w
  holds : unl fatal listed → S w
  taken : wpAnyF P md ops Q S fatal fuel (listed.setIfInBounds i true) (a.put oi.dst v) w

section
variable {i : Nat} {oi : Oper} {v : Value} {R : World → Prop}

theorem CanF.other (hi : ops[i]? = some oi) (hsel : ∀ (j : Nat) (o : Oper) cs b, ops[j]? = some o → o.op ≠ .select cs b) (hif : i ∉ fatal)
    (hQ : ∀ c a w, Q (.panic c) (a.put oi.dst v) w → Q (.panic c) a w) {fuel j : Nat} {listed : Array Bool} {a : Act} {w : World}
    (hR : ∀ w', (unl fatal (listed.setIfInBounds j true) → S w') → R w')
    (h : CanF P md ops Q S R fatal i oi v (fuel + 1) listed a w) (hj : j ∈ Region.ready md ops listed) (hne : j ≠ i) :
    wpOp P ops Q j (fun a' w' => (unl fatal (listed.setIfInBounds j true) → S w') ∧ CanF P md ops Q S R fatal i oi v fuel (listed.setIfInBounds j true) a' w') a w := by
  obtain ⟨hun, oj, hoj, _⟩ := mem_ready.1 hj
  have hno := ready_not_on h.up hj hoj
  have hstep := h.taken.2 j (ready_mono hj hne)
  rw [Array.setIfInBounds_comm _ _ (Ne.symm hne)] at hstep
  refine wpOp_mono ?_ (wpOp_putIf hoj (h.apart j oj hoj hne hun hno) (hsel i oi · · hi) (hsel j oj · · hoj) hQ h.val hstep)
  rintro a' w' ⟨hval, hS, hrest⟩
  have hS' : unl fatal (listed.setIfInBounds j true) → S w' := fun hu => hS ((unl_set hif).2 hu)
  refine ⟨hS', ready_mono h.up (Ne.symm hne), fun m om hm hmi hml hmo => h.apart m om hm hmi ?_ hmo, hval, hR w' hS', hS', hrest⟩
  by_cases hjm : j = m
  · exact hjm ▸ hun
  · rwa [getD_set_ne true hjm] at hml

/-- what looks at no memory -/
theorem CanF.free (hi : ops[i]? = some oi) (hsel : ∀ (j : Nat) (o : Oper) cs b, ops[j]? = some o → o.op ≠ .select cs b) (hif : i ∉ fatal)
    (hQ : ∀ c a w, Q (.panic c) (a.put oi.dst v) w → Q (.panic c) a w) (fuel : Nat) :
    ∀ {listed : Array Bool} {a : Act} {w : World}, CanF P md ops Q S (fun _ => True) fatal i oi v fuel listed a w → wpAnyF P md ops Q S fatal (fuel + 1) listed a w := by
  induction fuel with
  | zero =>
    intro listed a w h
    refine ⟨fun hnil => absurd h.up (by simp [hnil]), fun j hj => ?_⟩
    rcases Nat.decEq j i with hne | rfl
    · exact absurd (ready_mono hj hne) (by simp [h.taken.1])
    · exact h.val.wpOp hi trivial ⟨fun hu => h.holds ((unl_set hif).1 hu), h.taken⟩
  | succ fuel ih =>
    intro listed a w h
    refine ⟨fun hnil => absurd h.up (by simp [hnil]), fun j hj => ?_⟩
    rcases Nat.decEq j i with hne | rfl
    · exact wpOp_mono (fun _ _ hc => ⟨hc.1, ih hc.2⟩) (h.other hi hsel hif hQ (fun _ _ => trivial) hj hne)
    · exact h.val.wpOp hi trivial ⟨fun hu => h.holds ((unl_set hif).1 hu), h.taken⟩

/-- a load for which all the fatal ones wait -/
theorem CanF.held (hi : ops[i]? = some oi) (hsel : ∀ (j : Nat) (o : Oper) cs b, ops[j]? = some o → o.op ≠ .select cs b) (hif : i ∉ fatal)
    (hk : ∀ k ∈ fatal, waits md ops k i = true) (hQ : ∀ c a w, Q (.panic c) (a.put oi.dst v) w → Q (.panic c) a w) (fuel : Nat) :
    ∀ {listed : Array Bool} {a : Act} {w : World}, unl fatal listed → CanF P md ops Q S S fatal i oi v fuel listed a w → wpAnyF P md ops Q S fatal (fuel + 1) listed a w := by
  induction fuel with
  | zero =>
    intro listed a w hu h
    refine ⟨fun hnil => absurd h.up (by simp [hnil]), fun j hj => ?_⟩
    rcases Nat.decEq j i with hne | rfl
    · exact absurd (ready_mono hj hne) (by simp [h.taken.1])
    · exact h.val.wpOp hi h.known ⟨fun _ => h.known, h.taken⟩
  | succ fuel ih =>
    intro listed a w hu h
    refine ⟨fun hnil => absurd h.up (by simp [hnil]), fun j hj => ?_⟩
    rcases Nat.decEq j i with hne | rfl
    · have hjf : j ∉ fatal := by
        intro hm
        obtain ⟨_, oj, hoj, _⟩ := mem_ready.1 hj
        obtain ⟨e, he, hb, hon⟩ := (waits_spec (hk j hm)).2 oj hoj
        exact ready_not_on h.up hj hoj e he hb hon
      have hu' : unl fatal (listed.setIfInBounds j true) := (unl_set hjf).2 hu
      exact wpOp_mono (fun _ _ hc => ⟨hc.1, ih hu' hc.2⟩) (h.other hi hsel hif hQ (fun _ hS => hS hu') hj hne)
    · exact h.val.wpOp hi h.known ⟨fun _ => h.known, h.taken⟩

end

def unlB (fatal : List Nat) (listed : Array Bool) : Bool := fatal.all fun k => listed.getD k false == false
theorem unlB_spec {listed : Array Bool} (h : unlB fatal listed = true) : unl fatal listed := fun k hk => by
  have := List.all_eq_true.1 h k hk
  simpa using this

theorem wpAnyF_take {i : Nat} {oi : Oper} {v : Value} {fuel : Nat} {listed : Array Bool} {a : Act} {w : World} (hi : ops[i]? = some oi)
    (hs : Region.noSelect ops = true) (hf : Region.free md ops listed i = true) (hr : (Region.ready md ops listed).contains i = true) (hk : (!fatal.contains i && unlB fatal listed && fatal.all fun k => waits md ops k i) = true)
    (hQ : ∀ c a w, Q (.panic c) (a.put oi.dst v) w → Q (.panic c) a w) (hy : YieldsIf P ops S oi v a) (hS : S w)
    (h : wpAnyF P md ops Q S fatal fuel (listed.setIfInBounds i true) (a.put oi.dst v) w) : wpAnyF P md ops Q S fatal (fuel + 1) listed a w := by
  rw [Bool.and_eq_true, Bool.and_eq_true] at hk
  exact CanF.held hi (Region.noSelect_spec hs) (by simpa using hk.1.1) (fun k hm => List.all_eq_true.1 hk.2 k hm) hQ fuel (unlB_spec hk.1.2) ⟨by simpa using hr, Region.free_spec hi hf, hy, hS, fun _ => hS, h⟩

theorem wpAnyF_free {i : Nat} {oi : Oper} {v : Value} {fuel : Nat} {listed : Array Bool} {a : Act} {w : World} (hi : ops[i]? = some oi)
    (hs : Region.noSelect ops = true) (hf : Region.free md ops listed i = true) (hr : (Region.ready md ops listed).contains i = true) (hk : (!fatal.contains i) = true)
    (hQ : ∀ c a w, Q (.panic c) (a.put oi.dst v) w → Q (.panic c) a w) (hy : YieldsIf P ops (fun _ => True) oi v a) (hS : S w)
    (h : wpAnyF P md ops Q S fatal fuel (listed.setIfInBounds i true) (a.put oi.dst v) w) : wpAnyF P md ops Q S fatal (fuel + 1) listed a w :=
  CanF.free hi (Region.noSelect_spec hs) (by simpa using hk) hQ fuel ⟨by simpa using hr, Region.free_spec hi hf, hy, trivial, fun _ => hS, h⟩

/-- only number i may come up -/
theorem wpAnyF_one {i : Nat} {o : Oper} {fuel : Nat} {listed : Array Bool} {a : Act} {w : World} (ho : ops[i]? = some o) (hr : Region.ready md ops listed = [i])
    (h : ∀ K' : Act → World → Prop, Shut (∀ a w, ((unl fatal (listed.setIfInBounds i true) → S w) ∧ wpAnyF P md ops Q S fatal fuel (listed.setIfInBounds i true) a w) → K' a w) → if Region.wanted o (yielded ops a.tmps) = true then Oper.wp P o a w K' Q else K' (a.put o.dst undef) w) : wpAnyF P md ops Q S fatal (fuel + 1) listed a w := by
  refine ⟨fun h0 => (by rw [hr] at h0; cases h0), fun j hj => ?_⟩
  rw [hr] at hj
  have : j = i := by simpa using hj
  subst this
  exact wpOp_step ho (fun K' hK => h K' (fun a w hS => hK a w hS))

theorem wpAnyF_done {listed : Array Bool} {a : Act} {w : World} (hr : Region.ready md ops listed = []) (h : Q .normal a w) :
    ∀ fuel, wpAnyF P md ops Q S fatal fuel listed a w
  | 0 => ⟨hr, h⟩
  | _ + 1 => ⟨fun _ => h, by rw [hr]; simp⟩

/-- a fatal one has come up -/
theorem unl_no {listed : Array Bool} (h : unlB fatal listed = false) : ¬ unl fatal listed := fun hu => by
  have : unlB fatal listed = true := List.all_eq_true.2 fun k hk => by simpa using hu k hk
  rw [h] at this
  cases this

theorem wp_region_F (S : World → Prop) (fatal : List Nat) {id : Nat} {a : Act} {w : World} (hm : P.follows .mixedOrders = true) (hS : S w.drew)
    (h : S w.drew → wpAnyF P .any ops Q S fatal ops.size (Array.replicate ops.size false) a w.drew) : (Code.region id ops true).wp P Q a w :=
  wp_region_any hm (wpAny_of_F _ _ _ _ (h hS))

end
end Go.Proofs.YteehgcbjmdideaaGreatDoor.Sc

/- Arcs in their order, each ahead of all behind it; what Check passes. -/
namespace Go.Proofs.YteehgcbjmdideaaGreatDoor.Sc

theorem ahead_iff (a b : ArcD) : aheadB a b = true ↔ a.src < b.src ∨ (a.src = b.src ∧ (a.inp < b.inp ∨ (a.inp = b.inp ∧ (a.out < b.out ∨ (a.out = b.out ∧ a.dst < b.dst))))) := by
  unfold aheadB
  by_cases h0 : a.src = b.src
  · rw [if_neg (by simpa using h0)]
    by_cases h1 : a.inp = b.inp
    · rw [if_neg (by simpa using h1)]
      by_cases h2 : a.out = b.out
      · rw [if_neg (by simpa using h2), decide_eq_true_iff]
        omega
      · rw [if_pos h2, decide_eq_true_iff]
        omega
    · rw [if_pos h1, decide_eq_true_iff]
      omega
  · rw [if_pos h0, decide_eq_true_iff]
    omega

theorem ahead_trans {a b c : ArcD} (h1 : aheadB a b = true) (h2 : aheadB b c = true) : aheadB a c = true := by
  rw [ahead_iff] at *
  omega

theorem ahead_irrefl (a : ArcD) : aheadB a a = false := by
  rw [Bool.eq_false_iff]
  intro h
  rw [ahead_iff] at h
  omega

theorem arcErr_mk {st : Int} {p : Option ArcD} {a : ArcD} (h : ArcOk st a) (hp : ∀ q, p = some q → aheadB q a = true) : arcErr st p a = 0 := by
  unfold arcErr
  rw [h.src, h.dst, h.inp, h.out, h.wt]
  cases p with
  | none => rfl
  | some q => simp [hp q rfl]

theorem arcErr_ahead {st : Int} {q a : ArcD} (h : arcErr st (some q) a = 0) : aheadB q a = true := by
  have k := arcErr_ok _ _ _ h
  unfold arcErr at h
  rw [k.src, k.dst, k.inp, k.out, k.wt] at h
  cases e : aheadB q a with
  | true => rfl
  | false => simp [e] at h

theorem arcsErr_mk {st : Int} (l : List ArcD) : ∀ (p : Option ArcD), (∀ a ∈ l, ArcOk st a) → l.Pairwise (fun a b => aheadB a b = true) → (∀ q, p = some q → ∀ x ∈ l, aheadB q x = true) → arcsErr st p l = 0 := by
  induction l with
  | nil => intro p _ _ _; rfl
  | cons a l ih =>
    intro p h1 h2 h3
    rw [List.pairwise_cons] at h2
    rw [arcsErr, if_pos (arcErr_mk (h1 a (by simp)) (fun q hq => h3 q hq a (by simp)))]
    refine ih _ (fun b hb => h1 b (by simp [hb])) h2.2 (fun q hq x hx => ?_)
    injection hq with hq
    subst hq
    exact h2.1 x hx

theorem arcsErr_order {st : Int} (l : List ArcD) : ∀ (p : Option ArcD), arcsErr st p l = 0 → l.Pairwise (fun a b => aheadB a b = true) ∧ ∀ q, p = some q → ∀ x ∈ l, aheadB q x = true := by
  induction l with
  | nil => intro p _; exact ⟨List.Pairwise.nil, fun _ _ x hx => by cases hx⟩
  | cons a l ih =>
    intro p h
    rw [arcsErr] at h
    by_cases e : arcErr st p a = 0
    · rw [if_pos e] at h
      obtain ⟨g1, g2⟩ := ih _ h
      refine ⟨List.pairwise_cons.2 ⟨fun x hx => g2 a rfl x hx, g1⟩, fun q hq x hx => ?_⟩
      subst hq
      have e1 := arcErr_ahead e
      rcases List.mem_cons.1 hx with rfl | hx
      · exact e1
      · exact ahead_trans e1 (g2 a rfl x hx)
    · rw [if_neg e] at h; exact absurd h e

/-- what Check passes -/
structure Fine (f : FstD) : Prop where
  s1 : 1 ≤ f.states
  s2 : f.states ≤ 200
  b1 : 0 ≤ f.start
  b2 : f.start < f.states
  len : (f.final.length : Int) = f.states
  fin : ∀ x ∈ f.final, x = -1 ∨ (0 ≤ x ∧ x ≤ 1000000000)
  many : f.arcs.length ≤ 3000
  arcs : ∀ a ∈ f.arcs, ArcOk f.states a
  ord : f.arcs.Pairwise (fun a b => aheadB a b = true)

theorem fine_of {f : FstD} (h : checkD f = 0) : Fine f := by
  have k := check_ok f h
  have k0 := k.states
  have k1 := k.start
  simp [inB] at k0 k1
  exact ⟨k0.1, k0.2, k1.1, by omega, k.len, fun x hx => (finB_out (k.fin x hx)).1, k.many, k.arcs, (arcsErr_order _ _ k.err).1⟩

theorem Fine.check {f : FstD} (h : Fine f) : checkD f = 0 := by
  have e0 : inB f.states 1 200 = true := by simp [inB]; exact ⟨h.s1, h.s2⟩
  have e1 : inB f.start 0 (f.states - 1) = true := by simp [inB]; have := h.b1; have := h.b2; omega
  have e3 : f.final.any finB = false := by
    rw [List.any_eq_false]
    intro x hx
    have := h.fin x hx
    unfold finB inB
    rcases this with rfl | ⟨g1, g2⟩
    · decide
    · simp; omega
  unfold checkD
  rw [e0, e1, e3]
  have e2 : ¬ (f.final.length : Int) ≠ f.states := fun hh => hh h.len
  have e4 : ¬ 3000 < f.arcs.length := by have := h.many; omega
  simp only [Bool.not_true, Bool.false_eq_true, if_false, if_neg e2, if_neg e4]
  exact arcsErr_mk _ _ h.arcs h.ord (fun q hq => by cases hq)

theorem fine_iff {f : FstD} : checkD f = 0 ↔ Fine f := ⟨fine_of, Fine.check⟩
end Go.Proofs.YteehgcbjmdideaaGreatDoor.Sc

/- What is trimmed: the states on a way from the start to an end, numbered anew. -/
namespace Go.Proofs.YteehgcbjmdideaaGreatDoor

/-- what can be come to from S along E -/
def Reach (E : Nat → Nat → Prop) (S : Nat → Prop) (x : Nat) : Prop := ∀ P : Nat → Prop, (∀ s, S s → P s) → (∀ s t, P s → E s t → P t) → P x

theorem Reach.first {E : Nat → Nat → Prop} {S : Nat → Prop} {x : Nat} (h : S x) : Reach E S x := fun _ h0 _ => h0 x h
theorem Reach.on {E : Nat → Nat → Prop} {S : Nat → Prop} {x y : Nat} (h : Reach E S x) (e : E x y) : Reach E S y := fun P h0 h1 => h1 x y (h P h0 h1) e

/-- the arcs as pairs, one way and the other -/
def pairsA (f : FstD) : List (Nat × Nat) := f.arcs.map fun a => (a.src.toNat, a.dst.toNat)
def pairsB (f : FstD) : List (Nat × Nat) := f.arcs.map fun a => (a.dst.toNat, a.src.toNat)
def firstA (f : FstD) (s : Nat) : Bool := decide ((s : Int) = f.start)
def firstB (f : FstD) (s : Nat) : Bool := !decide (f.final.getD s 0 = -1)

def ReachP (n : Nat) (ps : List (Nat × Nat)) (S : Nat → Bool) (x : Nat) : Prop := Reach (fun s t => (s, t) ∈ ps) (fun s => s < n ∧ S s = true) x

def Stays (f : FstD) (x : Nat) : Prop := ReachP f.states.toNat (pairsA f) (firstA f) x ∧ ReachP f.states.toNat (pairsB f) (firstB f) x

theorem ReachP.lt {n : Nat} {ps : List (Nat × Nat)} {S : Nat → Bool} {x : Nat} (h : ReachP n ps S x) (hp : ∀ p ∈ ps, p.2 < n) : x < n :=
  h (fun y => y < n) (fun _ hs => hs.1) (fun s t _ he => hp (s, t) he)

/-- how many of those below k stay -/
def newNo (st : Nat → Bool) (k : Nat) : Nat := ((List.range k).filter st).length
theorem newNo_succ (st : Nat → Bool) (k : Nat) : newNo st (k + 1) = newNo st k + if st k then 1 else 0 := by
  unfold newNo
  rw [List.range_succ, List.filter_append]
  cases h : st k <;> simp [h]
theorem newNo_le (st : Nat → Bool) (k : Nat) : newNo st k ≤ k := by
  unfold newNo
  have := List.length_filter_le st (List.range k)
  simpa using this

def finT (f : FstD) (st : Nat → Bool) (k : Nat) : List Int := ((List.range k).filter st).map fun i => f.final.getD i 0
def arcT (st : Nat → Bool) (a : ArcD) : ArcD := ⟨newNo st a.src.toNat, a.inp, a.out, newNo st a.dst.toNat, a.wt⟩
def arcsT (st : Nat → Bool) (l : List ArcD) : List ArcD := (l.filter fun a => st a.src.toNat && st a.dst.toNat).map (arcT st)

def trimBy (f : FstD) (st : Nat → Bool) : FstD :=
  if st f.start.toNat then ⟨newNo st f.states.toNat, newNo st f.start.toNat, finT f st f.states.toNat, arcsT st f.arcs⟩ else ⟨1, 0, [-1], []⟩

def IsTrim (f t : FstD) : Prop := ∃ st : Nat → Bool, (∀ i, st i = true ↔ Stays f i) ∧ t = trimBy f st

theorem IsTrim.unique {f t t' : FstD} (h : IsTrim f t) (h' : IsTrim f t') : t = t' := by
  obtain ⟨st, hs, rfl⟩ := h
  obtain ⟨st', hs', rfl⟩ := h'
  have : st = st' := by
    funext i
    rw [Bool.eq_iff_iff, hs i, hs' i]
  rw [this]

theorem finT_hit (f : FstD) (st : Nat → Bool) (k : Nat) (h : st k = true) : finT f st (k + 1) = finT f st k ++ [f.final.getD k 0] := by
  unfold finT; rw [List.range_succ, List.filter_append]; simp [h]
theorem finT_miss (f : FstD) (st : Nat → Bool) (k : Nat) (h : st k = false) : finT f st (k + 1) = finT f st k := by
  unfold finT; rw [List.range_succ, List.filter_append]; simp [h]
theorem finT_len (f : FstD) (st : Nat → Bool) (k : Nat) : (finT f st k).length = newNo st k := by simp [finT, newNo]

theorem arcsT_take (st : Nat → Bool) (l : List ArcD) (k : Nat) (a : ArcD) (hk : k < l.length) (ha : a = l.getD k a0) :
    arcsT st (l.take (k + 1)) = arcsT st (l.take k) ++ if st a.src.toNat && st a.dst.toNat then [arcT st a] else [] := by
  have : l[k]? = some a := by rw [ha]; simp [List.getD, hk]
  rw [List.take_add_one, this]
  unfold arcsT
  rw [List.filter_append, List.map_append]
  congr 1
  cases h : (st a.src.toNat && st a.dst.toNat) <;> simp [List.filter, h]

theorem arcsT_len (st : Nat → Bool) (l : List ArcD) : (arcsT st l).length ≤ l.length := by
  unfold arcsT; rw [List.length_map]; exact List.length_filter_le _ _

/-- the one of the document's example -/
def oneD : FstD := ⟨2, 0, [-1, 1], [⟨0, 1, 2, 1, 5⟩]⟩

theorem check_one : checkD oneD = 0 := by decide

theorem stays_one (i : Nat) : decide (i < 2) = true ↔ Stays oneD i := by
  constructor
  · intro h
    have hi : i < 2 := by simpa using h
    have a0' : ReachP 2 (pairsA oneD) (firstA oneD) 0 := Reach.first ⟨by omega, by decide⟩
    have b1 : ReachP 2 (pairsB oneD) (firstB oneD) 1 := Reach.first ⟨by omega, by decide⟩
    have a1 : ReachP 2 (pairsA oneD) (firstA oneD) 1 := Reach.on (x := 0) a0' (by show (0, 1) ∈ [((0 : Int).toNat, (1 : Int).toNat)]; simp)
    have b0 : ReachP 2 (pairsB oneD) (firstB oneD) 0 := Reach.on (x := 1) b1 (by show (1, 0) ∈ [((1 : Int).toNat, (0 : Int).toNat)]; simp)
    have : i = 0 ∨ i = 1 := by omega
    rcases this with rfl | rfl
    · exact ⟨a0', b0⟩
    · exact ⟨a1, b1⟩
  · intro h
    have := ReachP.lt h.1 (by
      intro p hp
      have : p = (0, 1) := by
        have hp' : p ∈ [((0 : Int).toNat, (1 : Int).toNat)] := hp
        simpa using hp'
      subst this; decide)
    have h2 : i < 2 := this
    simpa using h2

theorem trim_one : IsTrim oneD oneD := ⟨fun i => decide (i < 2), stays_one, by
  unfold trimBy
  rw [if_pos (by decide)]
  rfl⟩

/-- a search that is at its end has met just what can be come to -/
theorem search_done (n : Nat) (ps : List (Nat × Nat)) (S : Nat → Bool) (M : Nat → Bool) (h1 : ∀ x, M x = true → ReachP n ps S x) (h2 : ∀ x, x < n → S x = true → M x = true) (h3 : ∀ x t, M x = true → (x, t) ∈ ps → M t = true) (x : Nat) : M x = true ↔ ReachP n ps S x :=
  ⟨h1 x, fun h => h (fun y => M y = true) (fun s hs => h2 s hs.1 hs.2) (fun s t hs he => h3 s t hs he)⟩

/-- the ends of the arcs from x among the first k -/
def nexts (ps : List (Nat × Nat)) (x : Nat) : List Nat := (ps.filter fun p => p.1 == x).map (·.2)
theorem mem_nexts (ps : List (Nat × Nat)) (x t : Nat) : t ∈ nexts ps x ↔ (x, t) ∈ ps := by
  unfold nexts
  simp only [List.mem_map, List.mem_filter, beq_iff_eq]
  constructor
  · rintro ⟨⟨a, b⟩, ⟨h1, h2⟩, rfl⟩
    simp only at h2
    subst h2; exact h1
  · intro h; exact ⟨(x, t), ⟨h, rfl⟩, rfl⟩

end Go.Proofs.YteehgcbjmdideaaGreatDoor

/- What a text says, line by line: numbers, lines, the transducer that is read. -/
namespace Go.Proofs.YteehgcbjmdideaaGreatDoor

def digB (c : UInt8) : Bool := decide (48 ≤ c.toNat) && decide (c.toNat ≤ 57)
def valB (l : List UInt8) : Int := l.foldl (fun n c => n * 10 + ((c.toNat : Int) - 48)) 0

theorem valB_snoc (l : List UInt8) (c : UInt8) : valB (l ++ [c]) = valB l * 10 + ((c.toNat : Int) - 48) := by simp [valB]

theorem foldV_bd (l : List UInt8) (a : Int) (ha : 0 ≤ a) (h : ∀ c ∈ l, digB c = true) : 0 ≤ l.foldl (fun n c => n * 10 + ((c.toNat : Int) - 48)) a ∧ l.foldl (fun n c => n * 10 + ((c.toNat : Int) - 48)) a + 1 ≤ (a + 1) * 10 ^ l.length := by
  induction l generalizing a with
  | nil => simp; omega
  | cons c l ih =>
    have hc := h c (by simp)
    simp [digB] at hc
    have ih := ih (a * 10 + ((c.toNat : Int) - 48)) (by omega) (fun x hx => h x (by simp [hx]))
    simp only [List.foldl_cons, List.length_cons]
    refine ⟨ih.1, Int.le_trans ih.2 ?_⟩
    have hp : (0 : Int) ≤ 10 ^ l.length := Int.pow_nonneg (by decide)
    rw [Int.pow_succ, show (a + 1) * (10 ^ l.length * 10) = ((a + 1) * 10) * 10 ^ l.length by rw [Int.mul_assoc, Int.mul_comm (10 ^ l.length) 10]]
    exact Int.mul_le_mul_of_nonneg_right (by omega) hp

theorem valB_bd (l : List UInt8) (h : ∀ c ∈ l, digB c = true) : 0 ≤ valB l ∧ valB l + 1 ≤ 10 ^ l.length := by
  have := foldV_bd l 0 (by omega) h
  simpa [valB] using this

theorem valB_lt (l : List UInt8) (h : ∀ c ∈ l, digB c = true) (hl : l.length ≤ 10) : 0 ≤ valB l ∧ valB l < 10000000000 := by
  have h1 := valB_bd l h
  have h2 : (10 : Int) ^ l.length ≤ 10 ^ 10 := by
    have := Nat.pow_le_pow_right (show 0 < 10 by decide) hl
    exact_mod_cast this
  omega

/-- is it the form of a number? -/
def formB (l : List UInt8) : Bool := !(decide (l.length < 1) || decide (10 < l.length) || (decide (1 < l.length) && decide (l.getD 0 0 = 48))) && l.all digB

def numB (l : List UInt8) : Option Int := if formB l then some (valB l) else none

end Go.Proofs.YteehgcbjmdideaaGreatDoor

/- A text cut at a byte: what the library's Split and Cut give of it. -/
namespace Go.Proofs.YteehgcbjmdideaaGreatDoor

/-- the pieces of a text between the bytes c -/
def splitOn (c : UInt8) : List UInt8 → List (List UInt8)
  | [] => [[]]
  | x :: l => if x = c then [] :: splitOn c l else match splitOn c l with
    | [] => [[x]]
    | h :: t => (x :: h) :: t

theorem splitOn_ne (c : UInt8) (l : List UInt8) : splitOn c l ≠ [] := by
  cases l with
  | nil => simp [splitOn]
  | cons x l =>
    rw [splitOn]
    split
    · simp
    · split <;> simp

theorem splitOn_miss (c : UInt8) (l : List UInt8) (h : Lib.indexByte l c = -1) : splitOn c l = [l] := by
  induction l with
  | nil => rfl
  | cons x l ih =>
    rw [Lib.indexByte] at h
    by_cases e : x = c
    · subst e; simp at h
    · have e' : (x == c) = false := by simpa using e
      have h' : Lib.indexByte l c = -1 := by
        have := Lib.indexByte_ge l c
        simp [e'] at h
        by_cases q : Lib.indexByte l c = -1
        · exact q
        · have := h q; omega
      rw [splitOn, if_neg e, ih h']

theorem splitOn_hit (c : UInt8) (l : List UInt8) (i : Nat) (h : Lib.indexByte l c = i) : splitOn c l = l.take i :: splitOn c (l.drop (i + 1)) := by
  induction l generalizing i with
  | nil => simp [Lib.indexByte] at h
  | cons x l ih =>
    rw [Lib.indexByte] at h
    by_cases e : x = c
    · subst e
      simp at h
      have : i = 0 := by omega
      subst this
      rw [splitOn, if_pos rfl]; simp
    · have e' : (x == c) = false := by simpa using e
      simp [e'] at h
      by_cases q : Lib.indexByte l c = -1
      · rw [if_pos q] at h; omega
      · rw [if_neg q] at h
        have hg := Lib.indexByte_ge l c
        obtain ⟨j, rfl⟩ : ∃ j, i = j + 1 := ⟨i - 1, by omega⟩
        have hj : Lib.indexByte l c = j := by omega
        rw [splitOn, if_neg e, ih j hj]
        simp

theorem count_hit (c : UInt8) (l : List UInt8) (i : Nat) (h : Lib.indexByte l c = i) : l.count c = (l.drop (i + 1)).count c + 1 := by
  induction l generalizing i with
  | nil => simp [Lib.indexByte] at h
  | cons x l ih =>
    rw [Lib.indexByte] at h
    by_cases e : x = c
    · subst e
      simp at h
      have : i = 0 := by omega
      subst this
      simp
    · have e' : (x == c) = false := by simpa using e
      simp [e'] at h
      by_cases q : Lib.indexByte l c = -1
      · rw [if_pos q] at h; omega
      · rw [if_neg q] at h
        have hg := Lib.indexByte_ge l c
        obtain ⟨j, rfl⟩ : ∃ j, i = j + 1 := ⟨i - 1, by omega⟩
        have hj : Lib.indexByte l c = j := by omega
        rw [List.count_cons, ih j hj]
        simp [e']

theorem splitK_one (c : UInt8) (k : Nat) (l : List UInt8) (hk : l.count c ≤ k) : Lib.splitK [c] 0 k l = splitOn c l := by
  induction k generalizing l with
  | zero =>
    have : Lib.indexByte l c = -1 := by
      by_cases q : Lib.indexByte l c = -1
      · exact q
      · have hg := Lib.indexByte_ge l c
        have := count_hit c l (Lib.indexByte l c).toNat (by omega)
        omega
    rw [splitOn_miss c l this]; rfl
  | succ k ih =>
    rw [Lib.splitK, Lib.index_one]
    by_cases q : Lib.indexByte l c = -1
    · rw [splitOn_miss c l q, q]; rfl
    · have hg := Lib.indexByte_ge l c
      have hc := count_hit c l (Lib.indexByte l c).toNat (by omega)
      have q' : (Lib.indexByte l c == -1) = false := by simpa using q
      rw [q']
      rw [splitOn_hit c l (Lib.indexByte l c).toNat (by omega)]
      simp only [Nat.add_zero, List.length_singleton, Bool.false_eq_true, if_false]
      rw [ih _ (by omega)]

theorem split_pieces (c : UInt8) (s : ByteArray) : (Lib.splitB ⟨#[c]⟩ 0 (Lib.countB s ⟨#[c]⟩) s).map (fun x => x.data.toList) = splitOn c s.data.toList := by
  rw [Lib.splitB_data]
  exact splitK_one c _ _ (by show s.data.toList.count c ≤ Lib.count s.data.toList [c]; rw [Lib.count_one]; exact Nat.le_refl _)

theorem cut_miss (c : UInt8) (l : List UInt8) (h : Lib.indexByte l c = -1) : Lib.cut l [c] = (l, [], false) := by
  unfold Lib.cut; rw [Lib.index_one, h]; rfl
theorem cut_hit (c : UInt8) (l : List UInt8) (i : Nat) (h : Lib.indexByte l c = i) : Lib.cut l [c] = (l.take i, l.drop (i + 1), true) := by
  unfold Lib.cut; rw [Lib.index_one, h, if_pos (by omega)]; simp

theorem splitOn_length (c : UInt8) (l : List UInt8) : (splitOn c l).length = l.count c + 1 := by
  induction l with
  | nil => rfl
  | cons x l ih =>
    rw [splitOn]
    by_cases e : x = c
    · subst e; simp [ih]
    · rw [if_neg e, List.count_cons]
      have e' : (x == c) = false := by simpa using e
      rw [e']
      cases h : splitOn c l with
      | nil => exact absurd h (splitOn_ne c l)
      | cons a t => rw [h] at ih; simpa using ih

/-- what a first line says -/
def stepHead (l : List UInt8) : Option (Int × Int) :=
  match splitOn 32 l with
  | [a, b, c, d] => if a = bStates ∧ c = bStart then (match numB b, numB d with | some x, some y => if inB x 1 200 then some (x, y) else none | _, _ => none) else none
  | _ => none

/-- what a line of 'final' says, behind so many states, the last final one, whether there is an arc -/
def stepFinal (st last : Int) (arcs : Bool) (l : List UInt8) : Option (Int × Int) :=
  match splitOn 32 l with
  | [a, b, c] => if a = bFinal ∧ arcs = false then (match numB b, numB c with | some x, some y => if inB x 0 (st - 1) && decide (last < x) then some (x, y) else none | _, _ => none) else none
  | _ => none

/-- what a line of an arc says -/
def stepArc (l : List UInt8) : Option ArcD :=
  match (splitOn 32 l).mapM numB with
  | some [a, b, c, d, e] => some ⟨a, b, c, d, e⟩
  | _ => none

end Go.Proofs.YteehgcbjmdideaaGreatDoor

/- What a text says as a whole: line by line from the first on. -/
namespace Go.Proofs.YteehgcbjmdideaaGreatDoor

def fst0 : FstD := ⟨0, 0, [], []⟩

/-- what one line makes of what was read so far -/
def stepL (f : FstD) (last : Int) (l : List UInt8) : Option (FstD × Int) :=
  if f.states = 0 then (stepHead l).map fun p => (⟨p.1, p.2, List.replicate p.1.toNat (-1), f.arcs⟩, last)
  else if Lib.hasPrefix l bFinal then (stepFinal f.states last (decide (0 < f.arcs.length)) l).map fun p => (⟨f.states, f.start, f.final.set p.1.toNat p.2, f.arcs⟩, p.1)
  else (stepArc l).map fun a => (⟨f.states, f.start, f.final, f.arcs ++ [a]⟩, last)

/-- the number of the first line that is none of its form, or 0; and what was read -/
def runL : List (List UInt8) → Nat → FstD → Int → Nat × FstD
  | [], _, f, _ => (0, f)
  | [x], n, f, _ => if n ≠ 1 ∧ x = [] then (0, f) else (n, fst0)
  | x :: y :: r, n, f, last => match stepL f last x with
    | none => (n, fst0)
    | some p => runL (y :: r) (n + 1) p.1 p.2

structure Parsed where
  f : FstD
  line : Int
  err : Int

def parseD (s : List UInt8) : Parsed :=
  if 100000 < s.length then ⟨fst0, 0, 2⟩
  else if (runL (splitOn 10 s) 1 fst0 (-1)).1 ≠ 0 then ⟨fst0, (runL (splitOn 10 s) 1 fst0 (-1)).1, 1⟩
  else if checkD (runL (splitOn 10 s) 1 fst0 (-1)).2 ≠ 0 then ⟨fst0, 0, checkD (runL (splitOn 10 s) 1 fst0 (-1)).2⟩
  else ⟨(runL (splitOn 10 s) 1 fst0 (-1)).2, 0, 0⟩

theorem runL_miss (l : List UInt8) (n : Nat) (f : FstD) (last : Int) (h : Lib.indexByte l 10 = -1) (hn : n = 1 ∨ l ≠ []) : runL (splitOn 10 l) n f last = (n, fst0) := by
  rw [splitOn_miss 10 l h, runL, if_neg]
  rintro ⟨h1, h2⟩
  rcases hn with hn | hn
  · exact h1 hn
  · exact hn h2

theorem runL_end (n : Nat) (f : FstD) (last : Int) (hn : n ≠ 1) : runL (splitOn 10 []) n f last = (0, f) := by
  show runL [[]] n f last = (0, f)
  rw [runL, if_pos ⟨hn, rfl⟩]

theorem runL_hit (l : List UInt8) (i n : Nat) (f : FstD) (last : Int) (h : Lib.indexByte l 10 = i) : runL (splitOn 10 l) n f last = match stepL f last (l.take i) with | none => (n, fst0) | some p => runL (splitOn 10 (l.drop (i + 1))) (n + 1) p.1 p.2 := by
  rw [splitOn_hit 10 l i h]
  cases hs : splitOn 10 (l.drop (i + 1)) with
  | nil => exact absurd hs (splitOn_ne _ _)
  | cons a t => rw [runL]

theorem runL_none (l : List UInt8) (i n : Nat) (f : FstD) (last : Int) (h : Lib.indexByte l 10 = i) (hs : stepL f last (l.take i) = none) : runL (splitOn 10 l) n f last = (n, fst0) := by rw [runL_hit l i n f last h, hs]
theorem runL_some (l : List UInt8) (i n : Nat) (f : FstD) (last : Int) (p : FstD × Int) (h : Lib.indexByte l 10 = i) (hs : stepL f last (l.take i) = some p) : runL (splitOn 10 l) n f last = runL (splitOn 10 (l.drop (i + 1))) (n + 1) p.1 p.2 := by rw [runL_hit l i n f last h, hs]

theorem indexByte_lt (l : List UInt8) (c : UInt8) (i : Nat) (h : Lib.indexByte l c = i) : i < l.length := by
  induction l generalizing i with
  | nil => simp [Lib.indexByte] at h
  | cons x l ih =>
    rw [Lib.indexByte] at h
    by_cases e : x = c
    · subst e; simp at h; simp; omega
    · have e' : (x == c) = false := by simpa using e
      simp [e'] at h
      by_cases q : Lib.indexByte l c = -1
      · rw [if_pos q] at h; omega
      · rw [if_neg q] at h
        have hg := Lib.indexByte_ge l c
        have := ih (i - 1) (by omega)
        simp; omega

end Go.Proofs.YteehgcbjmdideaaGreatDoor

/- What is printed is read as it was, and nothing else is: on lists of bytes. -/
namespace Go.Proofs.YteehgcbjmdideaaGreatDoor

theorem ofNat_toNat (n : Nat) (h : n < 256) : (UInt8.ofNat n).toNat = n := by
  rw [UInt8.toNat_ofNat']; omega

theorem dec_small {u : Nat} (h : u < 10) : Lib.decDigits u = [UInt8.ofNat (48 + u)] := by rw [Lib.decDigits, dif_pos h]
theorem dec_big {u : Nat} (h : ¬ u < 10) : Lib.decDigits u = Lib.decDigits (u / 10) ++ [UInt8.ofNat (48 + u % 10)] := by rw [Lib.decDigits, dif_neg h]

theorem digB_of (n : Nat) (h : n < 10) : digB (UInt8.ofNat (48 + n)) = true := by
  unfold digB; rw [ofNat_toNat _ (by omega)]; simp; omega

theorem dec_digB (u : Nat) : ∀ c ∈ Lib.decDigits u, digB c = true := by
  induction u using Nat.strongRecOn with
  | _ u ih =>
    intro c hc
    by_cases h : u < 10
    · rw [dec_small h] at hc
      rw [List.mem_singleton.1 hc]; exact digB_of u h
    · rw [dec_big h] at hc
      rcases List.mem_append.1 hc with hc | hc
      · exact ih (u / 10) (by omega) c hc
      · rw [List.mem_singleton.1 hc]; exact digB_of _ (by omega)

theorem valB_one (c : UInt8) : valB [c] = (c.toNat : Int) - 48 := by simp [valB]

theorem dec_valB (u : Nat) : valB (Lib.decDigits u) = u := by
  induction u using Nat.strongRecOn with
  | _ u ih =>
    by_cases h : u < 10
    · rw [dec_small h, valB_one, ofNat_toNat _ (by omega)]; omega
    · rw [dec_big h, valB_snoc, ih (u / 10) (by omega), ofNat_toNat _ (by omega)]; omega

theorem dec_ne (u : Nat) : Lib.decDigits u ≠ [] := by
  by_cases h : u < 10
  · rw [dec_small h]; simp
  · rw [dec_big h]; simp

theorem dec_first (u : Nat) (h : 1 ≤ u) : (Lib.decDigits u).getD 0 0 ≠ 48 := by
  induction u using Nat.strongRecOn with
  | _ u ih =>
    by_cases h10 : u < 10
    · rw [dec_small h10]
      intro e
      have e' : (UInt8.ofNat (48 + u)).toNat = 48 := by
        have : UInt8.ofNat (48 + u) = 48 := by simpa using e
        rw [this]; rfl
      rw [ofNat_toNat _ (by omega)] at e'; omega
    · rw [dec_big h10]
      have := ih (u / 10) (by omega) (by omega)
      cases hd : Lib.decDigits (u / 10) with
      | nil => exact absurd hd (dec_ne _)
      | cons x l => rw [hd] at this; simpa using this

theorem nDigits_lt10 (u : Nat) (h : u < 10000000000) : Lib.nDigits u ≤ 10 := by
  by_cases h0 : u < 10
  · rw [Lib.nDigits_small h0]; omega
  · by_cases h1 : Lib.nDigits u ≤ 10
    · exact h1
    · exfalso
      have key : ∀ k v, Lib.nDigits v ≥ k + 1 → 10 ^ k ≤ v ∨ k = 0 := by
        intro k
        induction k with
        | zero => intro v _; exact Or.inr rfl
        | succ k ih =>
          intro v hv
          left
          by_cases hv10 : v < 10
          · rw [Lib.nDigits_small hv10] at hv; omega
          · rw [Lib.nDigits_big hv10] at hv
            rcases ih (v / 10) (by omega) with h | h
            · rw [Nat.pow_succ]; omega
            · subst h; simp; omega
      rcases key 10 u (by omega) with h | h
      · omega
      · omega

theorem numB_dec (u : Nat) (h : u < 10000000000) : numB (Lib.decDigits u) = some (u : Int) := by
  have hf : formB (Lib.decDigits u) = true := by
    have hl := Lib.decDigits_length u
    have h1 := Lib.nDigits_pos u
    have h2 := nDigits_lt10 u h
    unfold formB
    have hall : (Lib.decDigits u).all digB = true := by rw [List.all_eq_true]; exact dec_digB u
    rw [hall, hl]
    have e1 : decide (Lib.nDigits u < 1) = false := by simp; omega
    have e2 : decide (10 < Lib.nDigits u) = false := by simp; omega
    rw [e1, e2]
    by_cases h10 : u < 10
    · have : decide (1 < Lib.nDigits u) = false := by rw [Lib.nDigits_small h10]; rfl
      rw [this]; rfl
    · have : decide ((Lib.decDigits u).getD 0 0 = 48) = false := by simpa using dec_first u (by omega)
      rw [this]; simp
  rw [numB, if_pos hf, dec_valB]

theorem numB_itoa (n : Int) (h0 : 0 ≤ n) (h : n < 10000000000) : numB (Lib.itoa n) = some n := by
  obtain ⟨u, rfl⟩ : ∃ u : Nat, n = u := ⟨n.toNat, by omega⟩
  rw [Lib.itoa_nonneg, numB_dec u (by omega)]

theorem itoa_digB (n : Int) (h0 : 0 ≤ n) : ∀ c ∈ Lib.itoa n, digB c = true := by
  obtain ⟨u, rfl⟩ : ∃ u : Nat, n = u := ⟨n.toNat, by omega⟩
  rw [Lib.itoa_nonneg]; exact dec_digB u
theorem itoa_ne (n : Int) (h0 : 0 ≤ n) : Lib.itoa n ≠ [] := by
  obtain ⟨u, rfl⟩ : ∃ u : Nat, n = u := ⟨n.toNat, by omega⟩
  rw [Lib.itoa_nonneg]; exact dec_ne u

theorem foldV_ge (l : List UInt8) (a : Int) (ha : 0 ≤ a) (h : ∀ c ∈ l, digB c = true) : a ≤ l.foldl (fun n c => n * 10 + ((c.toNat : Int) - 48)) a := by
  induction l generalizing a with
  | nil => simp
  | cons c l ih =>
    have hc := h c (by simp)
    simp [digB] at hc
    have := ih (a * 10 + ((c.toNat : Int) - 48)) (by omega) (fun x hx => h x (by simp [hx]))
    simp only [List.foldl_cons]; omega

theorem toNat48 (c : UInt8) (h : c ≠ 48) : c.toNat ≠ 48 := by
  intro e; apply h
  exact UInt8.toNat_inj.1 (by rw [e]; rfl)

theorem valB_pos (l : List UInt8) (hn : l ≠ []) (h : ∀ c ∈ l, digB c = true) (h0 : l.getD 0 0 ≠ 48) : 1 ≤ valB l := by
  cases l with
  | nil => exact absurd rfl hn
  | cons c l =>
    have hc := h c (by simp)
    simp [digB] at hc
    have h48 : c.toNat ≠ 48 := toNat48 c (by simpa using h0)
    have := foldV_ge l (0 * 10 + ((c.toNat : Int) - 48)) (by omega) (fun x hx => h x (by simp [hx]))
    simp only [valB, List.foldl_cons]; omega

theorem ofNat_of (c : UInt8) (n : Nat) (h : c.toNat = n) : UInt8.ofNat n = c := by
  subst h; simp

theorem dec_of_val : ∀ (k : Nat) (l : List UInt8), l.length = k → l ≠ [] → (∀ c ∈ l, digB c = true) → (1 < l.length → l.getD 0 0 ≠ 48) → Lib.decDigits (valB l).toNat = l := by
  intro k
  induction k with
  | zero => intro l hl hn; exact absurd (List.length_eq_zero_iff.1 hl) hn
  | succ k ih =>
    intro l hl hn hd h0
    obtain ⟨i, c, rfl⟩ : ∃ i c, l = i ++ [c] := ⟨l.dropLast, l.getLast hn, (List.dropLast_concat_getLast hn).symm⟩
    have hc := hd c (by simp)
    simp [digB] at hc
    have hil : i.length = k := by simpa using hl
    by_cases hi : i = []
    · subst hi
      show Lib.decDigits (valB [c]).toNat = [c]
      rw [valB_one, dec_small (by omega)]
      rw [ofNat_of c _ (by omega)]
    · have hip : 0 < i.length := List.length_pos_iff.2 hi
      have h1 : (i ++ [c]).getD 0 0 = i.getD 0 0 := by
        cases i with
        | nil => exact absurd rfl hi
        | cons x t => simp
      have h2 : i.getD 0 0 ≠ 48 := by rw [← h1]; exact h0 (by simp; omega)
      have hv := valB_pos i hi (fun x hx => hd x (by simp [hx])) h2
      have e := ih i hil hi (fun x hx => hd x (by simp [hx])) (fun _ => h2)
      rw [valB_snoc, dec_big (by omega)]
      have e1 : (valB i * 10 + ((c.toNat : Int) - 48)).toNat / 10 = (valB i).toNat := by omega
      have e2 : 48 + (valB i * 10 + ((c.toNat : Int) - 48)).toNat % 10 = c.toNat := by omega
      rw [e1, e, ofNat_of c _ e2.symm]

theorem numB_back (l : List UInt8) (n : Int) (h : numB l = some n) : Lib.itoa n = l ∧ 0 ≤ n ∧ n < 10000000000 := by
  unfold numB at h
  cases hf : formB l with
  | false => rw [hf] at h; simp at h
  | true =>
    rw [hf] at h
    simp only [if_true, Option.some.injEq] at h
    subst h
    unfold formB at hf
    rw [Bool.and_eq_true] at hf
    obtain ⟨h1, h2⟩ := hf
    have hd := List.all_eq_true.1 h2
    simp only [Bool.not_eq_true', Bool.or_eq_false_iff, decide_eq_false_iff_not] at h1
    obtain ⟨⟨h3, h4⟩, h5⟩ := h1
    have hb := valB_lt l hd (by omega)
    refine ⟨?_, hb.1, hb.2⟩
    have e := dec_of_val l.length l rfl (fun e => h3 (by subst e; simp)) hd (fun h6 e => by
      have : decide (1 < l.length) = true := by simpa using h6
      rw [this, e] at h5; simp at h5)
    obtain ⟨u, hu⟩ : ∃ u : Nat, valB l = u := ⟨(valB l).toNat, by omega⟩
    rw [hu, Lib.itoa_nonneg]
    rw [hu] at e
    simpa using e

/-! cutting and joining -/

theorem splitOn_none (c : UInt8) (x : List UInt8) (h : c ∉ x) : splitOn c x = [x] := by
  induction x with
  | nil => rfl
  | cons a x ih =>
    have h1 : a ≠ c := fun e => h (by simp [e])
    rw [splitOn, if_neg h1, ih (fun e => h (by simp [e]))]

theorem splitOn_app (c : UInt8) (x r : List UInt8) (h : c ∉ x) : splitOn c (x ++ c :: r) = x :: splitOn c r := by
  induction x with
  | nil => show splitOn c (c :: r) = _; rw [splitOn, if_pos rfl]
  | cons a x ih =>
    have h1 : a ≠ c := fun e => h (by simp [e])
    show splitOn c (a :: (x ++ c :: r)) = _
    rw [splitOn, if_neg h1, ih (fun e => h (by simp [e]))]

theorem join_cons2 (x y : List UInt8) (r : List (List UInt8)) (c : UInt8) : Lib.join (x :: y :: r) [c] = x ++ c :: Lib.join (y :: r) [c] := by
  rw [Lib.join_cons, Lib.join_cons]
  simp [Lib.joinTail]

theorem split_join (c : UInt8) : ∀ (xs : List (List UInt8)), xs ≠ [] → (∀ x ∈ xs, c ∉ x) → splitOn c (Lib.join xs [c]) = xs
  | [], h, _ => absurd rfl h
  | [x], _, h => by rw [Lib.join_one]; exact splitOn_none c x (h x (by simp))
  | x :: y :: r, _, h => by
    rw [join_cons2, splitOn_app c x _ (h x (by simp)), split_join c (y :: r) (by simp) (fun z hz => h z (by simp [hz]))]

theorem join_split (c : UInt8) (l : List UInt8) : Lib.join (splitOn c l) [c] = l := by
  induction l with
  | nil => simp [splitOn, Lib.join_one]
  | cons a l ih =>
    rw [splitOn]
    split
    · rename_i e
      subst e
      cases hs : splitOn a l with
      | nil => exact absurd hs (splitOn_ne _ _)
      | cons y r => rw [hs] at ih; rw [join_cons2, ih]; rfl
    · split
      · rename_i hs; exact absurd hs (splitOn_ne _ _)
      · rename_i y r hs
        rw [hs, Lib.join_cons] at ih
        rw [Lib.join_cons]
        simp only [List.cons_append, ih]

theorem join_notin (c d : UInt8) (hd : d ≠ c) : ∀ (xs : List (List UInt8)), (∀ x ∈ xs, d ∉ x) → d ∉ Lib.join xs [c]
  | [], _ => by simp [Lib.join_nil]
  | [x], h => by rw [Lib.join_one]; exact h x (by simp)
  | x :: y :: r, h => by
    rw [join_cons2]
    intro hm
    rcases List.mem_append.1 hm with hm | hm
    · exact h x (by simp) hm
    · rcases List.mem_cons.1 hm with hm | hm
      · exact hd hm
      · exact join_notin c d hd (y :: r) (fun z hz => h z (by simp [hz])) hm

theorem dig_notin (d : UInt8) (hd : digB d = false) (n : Int) (h : 0 ≤ n) : d ∉ Lib.itoa n := fun hm => by
  have := itoa_digB n h d hm
  rw [hd] at this; cases this

theorem runL_line (x r : List UInt8) (n : Nat) (f : FstD) (last : Int) (p : FstD × Int) (h : (10 : UInt8) ∉ x) (hs : stepL f last x = some p) : runL (splitOn 10 (x ++ 10 :: r)) n f last = runL (splitOn 10 r) (n + 1) p.1 p.2 := by
  rw [splitOn_app 10 x r h]
  cases hr : splitOn 10 r with
  | nil => exact absurd hr (splitOn_ne _ _)
  | cons a t => rw [runL, hs]

/-! the text of a transducer, read -/

def finalsFrom (xs : List Int) (k m : Nat) : List UInt8 := (List.range' k m).flatMap fun i => if xs.getD i 0 = -1 then [] else finalB i (xs.getD i 0)

theorem finalsFrom_all (xs : List Int) (n : Nat) : finalsB xs n = finalsFrom xs 0 n := by
  rw [finalsB, finalsFrom, List.range_eq_range']

theorem finalsFrom_succ (xs : List Int) (k m : Nat) : finalsFrom xs k (m + 1) = (if xs.getD k 0 = -1 then [] else finalB k (xs.getD k 0)) ++ finalsFrom xs (k + 1) m := by
  rw [finalsFrom, List.range'_succ, List.flatMap_cons]; rfl

theorem arcsB_all (l : List ArcD) : arcsB l l.length = l.flatMap arcB := by
  have key : ∀ (k : Nat), k ≤ l.length → arcsB l k = (l.take k).flatMap arcB := by
    intro k
    induction k with
    | zero => intro _; simp [arcsB]
    | succ k ih =>
      intro hk
      have hk' : k < l.length := by omega
      rw [arcsB_succ l k l[k] (by simp [List.getD, hk']), ih (by omega), List.take_add_one, List.getElem?_eq_getElem hk', List.flatMap_append]
      simp only [Option.toList_some, List.flatMap_cons, List.flatMap_nil, List.append_nil]
  rw [key l.length (Nat.le_refl _), List.take_length]

theorem stepL_final (f : FstD) (last : Int) (k : Nat) (x : Int) (h0 : f.states ≠ 0) (ha : f.arcs = []) (hk : (k : Int) < f.states) (hl : last < k) (hx0 : 0 ≤ x) (hx : x < 10000000000) (hk10 : k < 10000000000) :
    stepL f last (Lib.join [bFinal, Lib.itoa k, Lib.itoa x] [32]) = some ((⟨f.states, f.start, f.final.set k x, f.arcs⟩ : FstD), (k : Int)) := by
  unfold stepL
  rw [if_neg h0]
  have hp : Lib.hasPrefix (Lib.join [bFinal, Lib.itoa k, Lib.itoa x] [32]) bFinal = true := by
    rw [Lib.join_cons]; unfold Lib.hasPrefix
    rw [List.isPrefixOf_iff_prefix]; exact List.prefix_append _ _
  rw [hp, if_pos rfl]
  have hs : splitOn 32 (Lib.join [bFinal, Lib.itoa k, Lib.itoa x] [32]) = [bFinal, Lib.itoa k, Lib.itoa x] := by
    apply split_join 32 _ (by simp)
    intro y hy
    simp only [List.mem_cons, List.mem_nil_iff, or_false] at hy
    rcases hy with rfl | rfl | rfl
    · decide
    · exact dig_notin 32 (by decide) _ (by omega)
    · exact dig_notin 32 (by decide) _ hx0
  unfold stepFinal
  rw [hs]
  have hi : inB (k : Int) 0 (f.states - 1) = true := by simp [inB]; omega
  simp [ha, numB_itoa _ (show (0 : Int) ≤ (k : Int) by omega) (by omega), numB_itoa _ hx0 hx, hi, hl]

theorem stepL_arc (f : FstD) (last : Int) (a : ArcD) (h0 : f.states ≠ 0) (h1 : 0 ≤ a.src ∧ a.src < 10000000000) (h2 : 0 ≤ a.inp ∧ a.inp < 10000000000) (h3 : 0 ≤ a.out ∧ a.out < 10000000000) (h4 : 0 ≤ a.dst ∧ a.dst < 10000000000) (h5 : 0 ≤ a.wt ∧ a.wt < 10000000000) :
    stepL f last (Lib.join [Lib.itoa a.src, Lib.itoa a.inp, Lib.itoa a.out, Lib.itoa a.dst, Lib.itoa a.wt] [32]) = some (⟨f.states, f.start, f.final, f.arcs ++ [a]⟩, last) := by
  unfold stepL
  rw [if_neg h0]
  have hp : Lib.hasPrefix (Lib.join [Lib.itoa a.src, Lib.itoa a.inp, Lib.itoa a.out, Lib.itoa a.dst, Lib.itoa a.wt] [32]) bFinal = false := by
    rw [Lib.join_cons]; unfold Lib.hasPrefix
    cases hd : Lib.itoa a.src with
    | nil => exact absurd hd (itoa_ne _ h1.1)
    | cons c t =>
      have hc : digB c = true := itoa_digB a.src h1.1 c (by rw [hd]; simp)
      have : ((102 : UInt8) == c) = false := by
        rw [beq_eq_false_iff_ne]; intro e; subst e; revert hc; decide
      simp [bFinal, List.isPrefixOf, this]
  rw [hp]
  have hs : splitOn 32 (Lib.join [Lib.itoa a.src, Lib.itoa a.inp, Lib.itoa a.out, Lib.itoa a.dst, Lib.itoa a.wt] [32]) = [Lib.itoa a.src, Lib.itoa a.inp, Lib.itoa a.out, Lib.itoa a.dst, Lib.itoa a.wt] := by
    apply split_join 32 _ (by simp)
    intro y hy
    simp only [List.mem_cons, List.mem_nil_iff, or_false] at hy
    rcases hy with rfl | rfl | rfl | rfl | rfl
    · exact dig_notin 32 (by decide) _ h1.1
    · exact dig_notin 32 (by decide) _ h2.1
    · exact dig_notin 32 (by decide) _ h3.1
    · exact dig_notin 32 (by decide) _ h4.1
    · exact dig_notin 32 (by decide) _ h5.1
  unfold stepArc
  rw [hs]
  simp [numB_itoa _ h1.1 h1.2, numB_itoa _ h2.1 h2.2, numB_itoa _ h3.1 h3.2, numB_itoa _ h4.1 h4.2, numB_itoa _ h5.1 h5.2]

theorem stepL_head (f : FstD) (last st sta : Int) (h0 : f.states = 0) (hs : 1 ≤ st ∧ st ≤ 200) (ht : 0 ≤ sta ∧ sta < 10000000000) :
    stepL f last (Lib.join [bStates, Lib.itoa st, bStart, Lib.itoa sta] [32]) = some (⟨st, sta, List.replicate st.toNat (-1), f.arcs⟩, last) := by
  unfold stepL
  rw [if_pos h0]
  have hsp : splitOn 32 (Lib.join [bStates, Lib.itoa st, bStart, Lib.itoa sta] [32]) = [bStates, Lib.itoa st, bStart, Lib.itoa sta] := by
    apply split_join 32 _ (by simp)
    intro y hy
    simp only [List.mem_cons, List.mem_nil_iff, or_false] at hy
    rcases hy with rfl | rfl | rfl | rfl
    · decide
    · exact dig_notin 32 (by decide) _ (by omega)
    · decide
    · exact dig_notin 32 (by decide) _ ht.1
  unfold stepHead
  rw [hsp]
  have hi : inB st 1 200 = true := by simp [inB, hs]
  simp [numB_itoa st (by omega) (by omega), numB_itoa sta ht.1 ht.2, hi]

theorem line_ten (ws : List (List UInt8)) (h : ∀ x ∈ ws, (10 : UInt8) ∉ x) : (10 : UInt8) ∉ Lib.join ws [32] := join_notin 32 10 (by decide) ws h

theorem read_arcs (l : List ArcD) (r : List UInt8) (hl : ∀ a ∈ l, (0 ≤ a.src ∧ a.src < 10000000000) ∧ (0 ≤ a.inp ∧ a.inp < 10000000000) ∧ (0 ≤ a.out ∧ a.out < 10000000000) ∧ (0 ≤ a.dst ∧ a.dst < 10000000000) ∧ (0 ≤ a.wt ∧ a.wt < 10000000000)) :
    ∀ (n : Nat) (f : FstD) (last : Int), f.states ≠ 0 → runL (splitOn 10 (l.flatMap arcB ++ r)) n f last = runL (splitOn 10 r) (n + l.length) ⟨f.states, f.start, f.final, f.arcs ++ l⟩ last := by
  induction l with
  | nil => intro n f last h0; simp
  | cons a l ih =>
    intro n f last h0
    have ha := hl a (by simp)
    rw [List.flatMap_cons, List.append_assoc]
    have e : arcB a ++ (l.flatMap arcB ++ r) = Lib.join [Lib.itoa a.src, Lib.itoa a.inp, Lib.itoa a.out, Lib.itoa a.dst, Lib.itoa a.wt] [32] ++ 10 :: (l.flatMap arcB ++ r) := by simp [arcB, lineB]
    rw [e, runL_line _ _ n f last _ (line_ten _ ?_) (stepL_arc f last a h0 ha.1 ha.2.1 ha.2.2.1 ha.2.2.2.1 ha.2.2.2.2)]
    · refine (ih (fun x hx => hl x (by simp [hx])) (n + 1) ⟨f.states, f.start, f.final, f.arcs ++ [a]⟩ last h0).trans ?_
      simp [Nat.add_assoc, Nat.add_comm 1]
    · intro y hy
      simp only [List.mem_cons, List.mem_nil_iff, or_false] at hy
      rcases hy with rfl | rfl | rfl | rfl | rfl
      · exact dig_notin 10 (by decide) _ ha.1.1
      · exact dig_notin 10 (by decide) _ ha.2.1.1
      · exact dig_notin 10 (by decide) _ ha.2.2.1.1
      · exact dig_notin 10 (by decide) _ ha.2.2.2.1.1
      · exact dig_notin 10 (by decide) _ ha.2.2.2.2.1

theorem set_mid (xs : List Int) (k m : Nat) (hk : k < xs.length) (x : Int) (hx : xs.getD k 0 = x) : (xs.take k ++ List.replicate (m + 1) (-1)).set k x = xs.take (k + 1) ++ List.replicate m (-1) := by
  have hl : (xs.take k).length = k := by simp; omega
  rw [List.set_append_right _ _ (by omega), hl, Nat.sub_self, List.replicate_succ]
  simp only [List.set_cons_zero]
  rw [List.take_add_one]
  have : xs[k]? = some x := by
    rw [← hx]; simp [List.getD, hk]
  simp [this]

theorem read_finals (st sta : Int) (xs : List Int) (hst : (xs.length : Int) = st) (h1 : 1 ≤ st) (h2 : st ≤ 200) (r : List UInt8) (hx : ∀ x ∈ xs, x = -1 ∨ (0 ≤ x ∧ x ≤ 1000000000)) :
    ∀ (m k n : Nat) (last : Int), k + m = xs.length → last < k → 2 ≤ n → ∃ n' last', 2 ≤ n' ∧ runL (splitOn 10 (finalsFrom xs k m ++ r)) n ⟨st, sta, xs.take k ++ List.replicate m (-1), []⟩ last = runL (splitOn 10 r) n' ⟨st, sta, xs, []⟩ last' := by
  intro m
  induction m with
  | zero =>
    intro k n last hk hl hn
    refine ⟨n, last, hn, ?_⟩
    have : k = xs.length := by omega
    subst this
    simp [finalsFrom]
  | succ m ih =>
    intro k n last hk hl hn
    have hk' : k < xs.length := by omega
    rw [finalsFrom_succ]
    by_cases e : xs.getD k 0 = -1
    · rw [if_pos e, List.nil_append]
      obtain ⟨n', last', hn', h⟩ := ih (k + 1) n last (by omega) (by omega) hn
      refine ⟨n', last', hn', ?_⟩
      rw [← h]
      have : xs.take (k + 1) ++ List.replicate m (-1) = xs.take k ++ List.replicate (m + 1) (-1) := by
        rw [List.take_add_one, List.replicate_succ]
        have : xs[k]? = some (-1) := by rw [← e]; simp [List.getD, hk']
        simp [this]
      rw [this]
    · rw [if_neg e]
      have hxk : 0 ≤ xs.getD k 0 ∧ xs.getD k 0 ≤ 1000000000 := by
        rcases hx (xs.getD k 0) (by simp [List.getD, hk']) with h | h
        · exact absurd h e
        · exact h
      obtain ⟨n', last', hn', h⟩ := ih (k + 1) (n + 1) k (by omega) (by omega) (by omega)
      refine ⟨n', last', hn', ?_⟩
      rw [← h]
      have e2 : finalB k (xs.getD k 0) ++ finalsFrom xs (k + 1) m ++ r = Lib.join [bFinal, Lib.itoa k, Lib.itoa (xs.getD k 0)] [32] ++ 10 :: (finalsFrom xs (k + 1) m ++ r) := by simp [finalB, lineB]
      rw [e2, runL_line _ _ n _ last _ (line_ten _ ?_) (stepL_final _ last k (xs.getD k 0) (by show st ≠ 0; omega) rfl (by show (k : Int) < st; omega) hl hxk.1 (by omega) (by omega))]
      · rw [set_mid xs k m hk' _ rfl]
      · intro y hy
        simp only [List.mem_cons, List.mem_nil_iff, or_false] at hy
        rcases hy with rfl | rfl | rfl
        · decide
        · exact dig_notin 10 (by decide) _ (by omega)
        · exact dig_notin 10 (by decide) _ hxk.1

theorem runL_last (n : Nat) (f : FstD) (last : Int) (hn : 2 ≤ n) : runL (splitOn 10 []) n f last = (0, f) := runL_end n f last (by omega)

theorem fst_eta (f : FstD) : (⟨f.states, f.start, f.final, f.arcs⟩ : FstD) = f := rfl

/-- what is printed is read as it was -/
theorem parse_print (f : FstD) (h : checkD f = 0) (hl : (printD f).length ≤ 100000) : parseD (printD f) = ⟨f, 0, 0⟩ := by
  have ok := check_ok f h
  have hs := ok.states
  have ht := ok.start
  simp only [inB, Bool.and_eq_true, decide_eq_true_eq] at hs ht
  have hrun : runL (splitOn 10 (printD f)) 1 fst0 (-1) = (0, f) := by
    have e1 : printD f = Lib.join [bStates, Lib.itoa f.states, bStart, Lib.itoa f.start] [32] ++ 10 :: (finalsFrom f.final 0 f.final.length ++ (f.arcs.flatMap arcB ++ [])) := by
      rw [printD, finalsFrom_all, arcsB_all]; simp [headB, lineB]
    rw [e1, runL_line _ _ 1 fst0 (-1) _ (line_ten _ ?_) (stepL_head fst0 (-1) f.states f.start rfl hs (by omega))]
    · have hN : f.states.toNat = f.final.length := by have := ok.len; omega
      obtain ⟨n', last', hn', hr⟩ := read_finals f.states f.start f.final ok.len hs.1 hs.2 (f.arcs.flatMap arcB ++ []) (fun x hx => (finB_out (ok.fin x hx)).1) f.final.length 0 2 (-1) (by omega) (by omega) (by omega)
      simp only [List.take_zero, List.nil_append] at hr
      rw [hN]
      show runL (splitOn 10 (finalsFrom f.final 0 f.final.length ++ (f.arcs.flatMap arcB ++ []))) 2 ⟨f.states, f.start, List.replicate f.final.length (-1), []⟩ (-1) = _
      rw [hr, read_arcs f.arcs [] ?_ n' _ last' (by show f.states ≠ 0; omega), runL_last _ _ _ (by omega)]
      · show (0, (⟨f.states, f.start, f.final, [] ++ f.arcs⟩ : FstD)) = _
        rw [List.nil_append]
      · intro a ha
        have oka := ok.arcs a ha
        have q1 := oka.src
        have q2 := oka.inp
        have q3 := oka.out
        have q4 := oka.dst
        have q5 := oka.wt
        simp only [inB, Bool.and_eq_true, decide_eq_true_eq] at q1 q2 q3 q4 q5
        refine ⟨?_, ?_, ?_, ?_, ?_⟩ <;> omega
    · intro y hy
      simp only [List.mem_cons, List.mem_nil_iff, or_false] at hy
      rcases hy with rfl | rfl | rfl | rfl
      · decide
      · exact dig_notin 10 (by decide) _ (by omega)
      · decide
      · exact dig_notin 10 (by decide) _ (by omega)
  unfold parseD
  rw [if_neg (by omega), hrun]
  simp [h]

/-! what is read is printed as it was -/

theorem split_three {l : List UInt8} {a b c : List UInt8} (h : splitOn 32 l = [a, b, c]) : l = Lib.join [a, b, c] [32] := by rw [← h, join_split]

theorem stepFinal_text (st last : Int) (q : Bool) (l : List UInt8) (x y : Int) (h : stepFinal st last q l = some (x, y)) : l = Lib.join [bFinal, Lib.itoa x, Lib.itoa y] [32] ∧ 0 ≤ x ∧ x < st ∧ last < x ∧ 0 ≤ y ∧ q = false := by
  unfold stepFinal at h
  split at h
  · rename_i a b c hs
    split at h
    · rename_i hab
      split at h
      · rename_i m n hm hn
        split at h
        · rename_i hi
          simp only [Option.some.injEq, Prod.mk.injEq] at h
          obtain ⟨rfl, rfl⟩ := h
          obtain ⟨e1, p1, p2⟩ := numB_back _ _ hm
          obtain ⟨e2, p3, p4⟩ := numB_back _ _ hn
          simp only [inB, Bool.and_eq_true, decide_eq_true_eq] at hi
          refine ⟨?_, p1, by omega, hi.2, p3, hab.2⟩
          rw [split_three hs, hab.1, e1, e2]
        · cases h
      · cases h
    · cases h
  · cases h

theorem stepHead_text (l : List UInt8) (x y : Int) (h : stepHead l = some (x, y)) : l = Lib.join [bStates, Lib.itoa x, bStart, Lib.itoa y] [32] ∧ 1 ≤ x ∧ x ≤ 200 := by
  unfold stepHead at h
  split at h
  · rename_i a b c d hs
    split at h
    · rename_i hab
      split at h
      · rename_i m n hm hn
        split at h
        · rename_i hi
          simp only [Option.some.injEq, Prod.mk.injEq] at h
          obtain ⟨rfl, rfl⟩ := h
          obtain ⟨e1, p1, p2⟩ := numB_back _ _ hm
          obtain ⟨e2, p3, p4⟩ := numB_back _ _ hn
          simp only [inB, Bool.and_eq_true, decide_eq_true_eq] at hi
          refine ⟨?_, hi.1, hi.2⟩
          have e3 := join_split 32 l
          rw [hs] at e3
          rw [← e3, hab.1, hab.2, e1, e2]
        · cases h
      · cases h
    · cases h
  · cases h

theorem mapM_five (ws : List (List UInt8)) (a b c d e : Int) (h : ws.mapM numB = some [a, b, c, d, e]) : ws = [Lib.itoa a, Lib.itoa b, Lib.itoa c, Lib.itoa d, Lib.itoa e] := by
  have key : ∀ (ws : List (List UInt8)) (ns : List Int), ws.mapM numB = some ns → ws = ns.map Lib.itoa := by
    intro ws
    induction ws with
    | nil => intro ns h; simp at h; subst h; rfl
    | cons w ws ih =>
      intro ns h
      rw [List.mapM_cons] at h
      cases hw : numB w with
      | none => rw [hw] at h; simp at h
      | some n =>
        cases hr : ws.mapM numB with
        | none => rw [hw, hr] at h; simp at h
        | some ms =>
          rw [hw, hr] at h
          simp at h
          subst h
          rw [List.map_cons, ← ih ms hr, (numB_back _ _ hw).1]
  exact key ws _ h

theorem stepArc_text (l : List UInt8) (a : ArcD) (h : stepArc l = some a) : l = Lib.join [Lib.itoa a.src, Lib.itoa a.inp, Lib.itoa a.out, Lib.itoa a.dst, Lib.itoa a.wt] [32] := by
  unfold stepArc at h
  split at h
  · rename_i x b c d e hm
    simp only [Option.some.injEq] at h
    subst h
    have e3 := join_split 32 l
    rw [mapM_five _ _ _ _ _ _ hm] at e3
    exact e3.symm
  · cases h

theorem text_cons (x y : List UInt8) (r : List (List UInt8)) : Lib.join (x :: y :: r) [10] = x ++ [10] ++ Lib.join (y :: r) [10] := by rw [join_cons2]; simp

theorem back_arcs : ∀ (ls : List (List UInt8)) (n : Nat) (f g : FstD) (last : Int), runL ls n f last = (0, g) → 1 ≤ n → f.states ≠ 0 → f.arcs ≠ [] →
    ∃ more, g = ⟨f.states, f.start, f.final, f.arcs ++ more⟩ ∧ Lib.join ls [10] = more.flatMap arcB := by
  intro ls
  induction ls with
  | nil =>
    intro n f g last h _ _ _
    rw [runL] at h
    simp only [Prod.mk.injEq, true_and] at h
    exact ⟨[], by rw [← h]; simp, rfl⟩
  | cons x ls ih =>
    intro n f g last h hn h0 ha
    cases ls with
    | nil =>
      rw [runL] at h
      split at h
      · rename_i hc
        simp only [Prod.mk.injEq, true_and] at h
        exact ⟨[], by rw [← h]; simp, by rw [hc.2, Lib.join_one]; rfl⟩
      · simp only [Prod.mk.injEq] at h; omega
    | cons y r =>
      rw [runL] at h
      split at h
      · simp only [Prod.mk.injEq] at h; omega
      · rename_i p hp
        unfold stepL at hp
        rw [if_neg h0] at hp
        split at hp
        · cases hf : stepFinal f.states last (decide (0 < f.arcs.length)) x with
          | none => rw [hf] at hp; cases hp
          | some q =>
            have := (stepFinal_text _ _ _ _ q.1 q.2 hf).2.2.2.2.2
            have hp : 0 < f.arcs.length := List.length_pos_iff.2 ha
            simp only [decide_eq_false_iff_not] at this
            omega
        · cases hf : stepArc x with
          | none => rw [hf] at hp; cases hp
          | some a =>
            rw [hf] at hp
            simp only [Option.map_some, Option.some.injEq] at hp
            subst hp
            obtain ⟨more, hg, ht⟩ := ih (n + 1) _ g last h (by omega) h0 (by simp)
            refine ⟨a :: more, by rw [hg]; simp, ?_⟩
            rw [text_cons, ht, stepArc_text x a hf, List.flatMap_cons]
            rfl

theorem finalsFrom_skip (xs : List Int) : ∀ (d k m : Nat), (∀ i, k ≤ i → i < k + d → xs.getD i 0 = -1) → finalsFrom xs k (d + m) = finalsFrom xs (k + d) m := by
  intro d
  induction d with
  | zero => intro k m _; simp
  | succ d ih =>
    intro k m h
    rw [show d + 1 + m = (d + m) + 1 by omega, finalsFrom_succ, if_pos (h k (by omega) (by omega)), List.nil_append, ih (k + 1) m (fun i h1 h2 => h i (by omega) (by omega)), show k + 1 + d = k + (d + 1) by omega]

theorem getD_set_same (xs : List Int) (k : Nat) (x : Int) (h : k < xs.length) : (xs.set k x).getD k 0 = x := by simp [List.getD, h]
theorem getD_set_other (xs : List Int) (k i : Nat) (x : Int) (h : k ≠ i) : (xs.set k x).getD i 0 = xs.getD i 0 := by simp [List.getD, h]

theorem back_finals : ∀ (ls : List (List UInt8)) (n : Nat) (f g : FstD) (k : Nat), runL ls n f ((k : Int) - 1) = (0, g) → 1 ≤ n → f.states ≠ 0 → f.arcs = [] → (f.final.length : Int) = f.states → k ≤ f.final.length → (∀ i, k ≤ i → i < f.final.length → f.final.getD i 0 = -1) →
    g.states = f.states ∧ g.start = f.start ∧ g.final.length = f.final.length ∧ (∀ i, i < k → g.final.getD i 0 = f.final.getD i 0) ∧ Lib.join ls [10] = finalsFrom g.final k (g.final.length - k) ++ g.arcs.flatMap arcB := by
  have stop : ∀ (f : FstD) (k : Nat), k ≤ f.final.length → (∀ i, k ≤ i → i < f.final.length → f.final.getD i 0 = -1) → finalsFrom f.final k (f.final.length - k) = [] := by
    intro f k hk h
    have := finalsFrom_skip f.final (f.final.length - k) k 0 (fun i h1 h2 => h i h1 (by omega))
    rw [Nat.add_zero] at this
    rw [this]; rfl
  intro ls
  induction ls with
  | nil =>
    intro n f g k h hn h0 ha hl hk hm
    rw [runL] at h
    simp only [Prod.mk.injEq, true_and] at h
    subst h
    refine ⟨rfl, rfl, rfl, fun _ _ => rfl, ?_⟩
    rw [stop f k hk hm, ha]; rfl
  | cons x ls ih =>
    intro n f g k h hn h0 ha hl hk hm
    cases ls with
    | nil =>
      rw [runL] at h
      split at h
      · rename_i hc
        simp only [Prod.mk.injEq, true_and] at h
        subst h
        refine ⟨rfl, rfl, rfl, fun _ _ => rfl, ?_⟩
        rw [stop f k hk hm, ha, hc.2, Lib.join_one]; rfl
      · simp only [Prod.mk.injEq] at h; omega
    | cons y r =>
      rw [runL] at h
      split at h
      · simp only [Prod.mk.injEq] at h; omega
      · rename_i p hp
        unfold stepL at hp
        rw [if_neg h0] at hp
        split at hp
        · cases hf : stepFinal f.states ((k : Int) - 1) (decide (0 < f.arcs.length)) x with
          | none => rw [hf] at hp; cases hp
          | some q =>
            obtain ⟨q1, q2⟩ := q
            rw [hf] at hp
            simp only [Option.map_some, Option.some.injEq] at hp
            subst hp
            obtain ⟨ht, p0, p1, p2, p3, _⟩ := stepFinal_text _ _ _ _ q1 q2 hf
            obtain ⟨j, rfl⟩ : ∃ j : Nat, q1 = j := ⟨q1.toNat, by omega⟩
            have hj : j < f.final.length := by omega
            have hlast : ((j : Int)) = (((j + 1 : Nat) : Int) - 1) := by omega
            simp only at h
            rw [hlast] at h
            obtain ⟨e1, e2, e3, e4, e5⟩ := ih (n + 1) _ g (j + 1) h (by omega) h0 ha (by simpa using hl) (by simp; omega) (fun i h1 h2 => by
              simp only [List.length_set] at h2
              show (f.final.set (((j + 1 : Nat) : Int) - 1).toNat q2).getD i 0 = -1
              rw [show (((j + 1 : Nat) : Int) - 1).toNat = j by omega, getD_set_other _ _ _ _ (by omega)]
              exact hm i (by omega) h2)
            simp only [List.length_set] at e3
            have ej : (((j + 1 : Nat) : Int) - 1).toNat = j := by omega
            rw [ej] at e4
            have hgj : g.final.getD j 0 = q2 := by rw [e4 j (by omega)]; exact getD_set_same _ _ _ hj
            refine ⟨e1, e2, e3, fun i hi => ?_, ?_⟩
            · rw [e4 i (by omega)]; exact getD_set_other _ _ _ _ (by omega)
            · rw [text_cons, e5, ht]
              have hsk : finalsFrom g.final k (g.final.length - k) = finalsFrom g.final j (g.final.length - j) := by
                have := finalsFrom_skip g.final (j - k) k (g.final.length - j) (fun i h1 h2 => by
                  rw [e4 i (by omega)]
                  show (f.final.set j q2).getD i 0 = -1
                  rw [getD_set_other _ _ _ _ (by omega)]
                  exact hm i h1 (by omega))
                rw [show j - k + (g.final.length - j) = g.final.length - k by omega, show k + (j - k) = j by omega] at this
                exact this
              rw [hsk, show g.final.length - j = (g.final.length - (j + 1)) + 1 by omega, finalsFrom_succ, hgj, if_neg (by omega)]
              simp [finalB, lineB]
        · cases hf : stepArc x with
          | none => rw [hf] at hp; cases hp
          | some a =>
            rw [hf] at hp
            simp only [Option.map_some, Option.some.injEq] at hp
            subst hp
            obtain ⟨more, hg, ht⟩ := back_arcs (y :: r) (n + 1) _ g _ h (by omega) h0 (by simp)
            simp only [ha, List.nil_append] at hg
            subst hg
            refine ⟨rfl, rfl, rfl, fun _ _ => rfl, ?_⟩
            rw [text_cons, ht, stop f k hk hm, stepArc_text x a hf]
            simp [arcB, lineB]

/-- what is read is printed as it was -/
theorem print_parse (s : List UInt8) (h : (parseD s).err = 0) : checkD (parseD s).f = 0 ∧ printD (parseD s).f = s := by
  unfold parseD at h ⊢
  split
  · rename_i h1; rw [if_pos h1] at h; cases h
  · rename_i h1
    rw [if_neg h1] at h
    split
    · rename_i h2; rw [if_pos h2] at h; cases h
    · rename_i h2
      rw [if_neg h2] at h
      split
      · rename_i h3; rw [if_pos h3] at h; exact absurd h h3
      · rename_i h3
        simp only [ne_eq, Decidable.not_not] at h2 h3
        refine ⟨h3, ?_⟩
        obtain ⟨g, hg⟩ : ∃ g, g = (runL (splitOn 10 s) 1 fst0 (-1)).2 := ⟨_, rfl⟩
        have hr : runL (splitOn 10 s) 1 fst0 (-1) = (0, g) := by rw [hg, ← h2]
        show printD (runL (splitOn 10 s) 1 fst0 (-1)).2 = s
        rw [← hg]
        clear h h1 h2 h3 hg
        have hjs := join_split 10 s
        cases hs : splitOn 10 s with
        | nil => exact absurd hs (splitOn_ne _ _)
        | cons x ls =>
          rw [hs] at hr hjs
          cases ls with
          | nil =>
            rw [runL, if_neg (by omega)] at hr
            simp only [Prod.mk.injEq] at hr; omega
          | cons y r =>
            rw [runL] at hr
            split at hr
            · simp only [Prod.mk.injEq] at hr; omega
            · rename_i p hp
              unfold stepL at hp
              rw [if_pos (show fst0.states = 0 from rfl)] at hp
              cases hf : stepHead x with
              | none => rw [hf] at hp; cases hp
              | some q =>
                obtain ⟨st, sta⟩ := q
                rw [hf] at hp
                simp only [Option.map_some, Option.some.injEq] at hp
                subst hp
                obtain ⟨ht, p1, p2⟩ := stepHead_text x st sta hf
                obtain ⟨e1, e2, e3, e4, e5⟩ := back_finals (y :: r) 2 _ g 0 hr (by omega) (by show st ≠ 0; omega) rfl (by show ((List.replicate st.toNat (-1 : Int)).length : Int) = st; simp; omega) (Nat.zero_le _) (fun i _ h2 => by
                  have h2' : i < st.toNat := by simpa using h2
                  show (List.replicate st.toNat (-1 : Int)).getD i 0 = -1
                  simp [List.getD, h2'])
                rw [← hjs, text_cons, e5, ht, printD, finalsFrom_all, arcsB_all, e1, e2]
                simp [headB, lineB]

end Go.Proofs.YteehgcbjmdideaaGreatDoor
