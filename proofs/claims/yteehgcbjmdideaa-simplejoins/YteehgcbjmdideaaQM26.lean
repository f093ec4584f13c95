/- How the document's table of Again goes on, place by place; how it lies in memory. -/
import Derived.Test.YteehgcbjmdideaaQM25
namespace Go.Proofs.Yteehgcbjmdideaa
open Go.RowKit

def upd (b : Nat → Nat → Int) (x y : Nat) (v : Int) : Nat → Nat → Int := fun i o => if i = x ∧ o = y then v else b i o
theorem upd_at (b : Nat → Nat → Int) (x y : Nat) (v : Int) : upd b x y v x y = v := by
  unfold upd
  rw [if_pos ⟨rfl, rfl⟩]
theorem upd_other {b : Nat → Nat → Int} {x y i o : Nat} {v : Int} (h : ¬ (i = x ∧ o = y)) : upd b x y v i o = b i o := by
  unfold upd
  rw [if_neg h]

/-- the places ahead of one -/
def BefP (i o i' o' : Nat) : Prop := i' < i ∨ (i' = i ∧ o' < o)

/-- as much as a place can cost -/
def TopP (b : Nat → Nat → Int) : Prop := ∀ i o : Nat, b i o ≤ ((i + o : Nat) : Int) * 400002000000000

section
variable {f : FstD} {ins outs : List Int} {s : Nat} {b : Nat → Nat → Int} {i o X Y : Nat}

/-- at a place: what it tells of the first of the places behind it -/
structure AgS (f : FstD) (ins outs : List Int) (s : Nat) (b : Nat → Nat → Int) (i o X Y : Nat) : Prop where
  ag : AgI f ins outs s b (BefP i o)
  top : TopP b
  pos : 0 ≤ b i o
  part : ∀ x y, BefP X Y x y → ∀ u, PieceP f ins outs s i o (i + x) (o + y) u → 0 ≤ b (i + x) (o + y) ∧ b (i + x) (o + y) ≤ b i o + u

theorem less_cases (a c : Int) : lessC a c = a ∨ lessC a c = c := by
  unfold lessC
  split
  · exact Or.inr rfl
  · split
    · exact Or.inl rfl
    · exact Or.inr rfl
theorem less_le {a c : Int} (ha : 0 ≤ a) : 0 ≤ lessC a c ∧ lessC a c ≤ a := by
  unfold lessC
  rw [if_neg (by omega)]
  split <;> omega
theorem less_le' {a c : Int} (hc : 0 ≤ c) : 0 ≤ lessC a c ∧ lessC a c ≤ c := by
  unfold lessC
  split
  · omega
  · split <;> omega

theorem AgS.begin (h : AgI f ins outs s b (BefP i o)) (ht : TopP b) (h0 : 0 ≤ b i o) : AgS f ins outs s b i o 0 0 :=
  ⟨h, ht, h0, fun x y hb => by unfold BefP at hb; omega⟩

theorem AgS.step (h : AgS f ins outs s b i o X Y) {p : Int} (hp : Mn (PieceP f ins outs s i o (i + X) (o + Y)) p) (hp2 : p ≤ 400002000000000) :
    AgS f ins outs s (upd b (i + X) (o + Y) (lessC (b (i + X) (o + Y)) (plusC (b i o) p))) i o X (Y + 1) := by
  have h0 := h.pos
  have hge := h.ag.ge (i + X) (o + Y)
  have hpg := hp.ge
  obtain ⟨v, hv⟩ : ∃ v, v = lessC (b (i + X) (o + Y)) (plusC (b i o) p) := ⟨_, rfl⟩
  rw [← hv]
  have hpl : -1 ≤ plusC (b i o) p := by unfold plusC; split <;> omega
  -- what is there gets no greater
  have hdown : 0 ≤ b (i + X) (o + Y) → 0 ≤ v ∧ v ≤ b (i + X) (o + Y) := fun q => by rw [hv]; exact less_le q
  have hvg : -1 ≤ v := by
    rw [hv]
    rcases less_cases (b (i + X) (o + Y)) (plusC (b i o) p) with e | e <;> rw [e] <;> assumption
  -- the place itself stays
  have hself : X = 0 ∧ Y = 0 → v = b i o := by
    rintro ⟨rfl, rfl⟩
    rw [hv]
    simp only [Nat.add_zero]
    unfold plusC lessC
    rw [if_neg (by omega)]
    split
    · rw [if_pos (by omega)]
    · split <;> omega
  have hat : upd b (i + X) (o + Y) v i o = b i o := by
    by_cases e : X = 0 ∧ Y = 0
    · obtain ⟨rfl, rfl⟩ := e
      rw [Nat.add_zero, Nat.add_zero, upd_at]
      exact hself ⟨rfl, rfl⟩
    · exact upd_other (by omega)
  have hmono : ∀ x y, 0 ≤ b x y → 0 ≤ upd b (i + X) (o + Y) v x y ∧ upd b (i + X) (o + Y) v x y ≤ b x y := fun x y q => by
    by_cases e : x = i + X ∧ y = o + Y
    · obtain ⟨rfl, rfl⟩ := e
      rw [upd_at]
      exact hdown q
    · rw [upd_other e]
      omega
  have hach : 0 ≤ v → AgP f ins outs s (i + X) (o + Y) v := fun q => by
    rcases less_cases (b (i + X) (o + Y)) (plusC (b i o) p) with e | e
    · rw [← hv] at e
      rw [e] at q ⊢
      exact h.ag.ach _ _ q
    · rw [← hv] at e
      rcases hp with ⟨e1, _⟩ | ⟨h1, h2, _⟩
      · exfalso
        rw [e, e1] at q
        unfold plusC at q
        rw [if_pos (by omega)] at q
        omega
      · have e2 : plusC (b i o) p = b i o + p := by unfold plusC; rw [if_neg (by omega)]
        rw [e, e2]
        obtain ⟨k, hk⟩ := h.ag.ach i o h0
        exact ⟨k + 1, i, o, b i o, p, hk, h2, rfl⟩
  refine ⟨⟨?_, fun x y => ?_, fun x y q => ?_, fun x y hb q x' y' u hu => ?_⟩, fun x y => ?_, by rw [hat]; exact h0, fun x y hb u hu => ?_⟩
  · by_cases e : 0 = i + X ∧ 0 = o + Y
    · obtain ⟨e1, e2⟩ := e
      have : i = 0 ∧ o = 0 ∧ X = 0 ∧ Y = 0 := by omega
      obtain ⟨rfl, rfl, rfl, rfl⟩ := this
      rw [hat]
      exact h.ag.at0
    · rw [upd_other e]
      exact h.ag.at0
  · by_cases e : x = i + X ∧ y = o + Y
    · obtain ⟨rfl, rfl⟩ := e
      rw [upd_at]
      exact hvg
    · rw [upd_other e]
      exact h.ag.ge x y
  · by_cases e : x = i + X ∧ y = o + Y
    · obtain ⟨rfl, rfl⟩ := e
      rw [upd_at] at q ⊢
      exact hach q
    · rw [upd_other e] at q ⊢
      exact h.ag.ach x y q
  · have hne : ¬ (x = i + X ∧ y = o + Y) := by unfold BefP at hb; omega
    rw [upd_other hne] at q ⊢
    obtain ⟨r1, r2⟩ := h.ag.fix x y hb q x' y' u hu
    obtain ⟨q1, q2⟩ := hmono x' y' r1
    exact ⟨q1, by omega⟩
  · by_cases e : x = i + X ∧ y = o + Y
    · obtain ⟨rfl, rfl⟩ := e
      rw [upd_at]
      by_cases e0 : X = 0 ∧ Y = 0
      · rw [hself e0]
        have := h.top i o
        obtain ⟨rfl, rfl⟩ := e0
        exact this
      · rcases less_cases (b (i + X) (o + Y)) (plusC (b i o) p) with e | e
        · rw [hv, e]
          exact h.top _ _
        · rw [hv, e]
          have h1 := h.top i o
          have h2 : plusC (b i o) p ≤ ((i + o : Nat) : Int) * 400002000000000 + 400002000000000 := by
            unfold plusC
            split <;> omega
          have h3 : ((i + o : Nat) : Int) * 400002000000000 + 400002000000000 ≤ ((i + X + (o + Y) : Nat) : Int) * 400002000000000 := by omega
          omega
    · rw [upd_other e]
      exact h.top x y
  · rw [hat]
    by_cases e : x = X ∧ y = Y
    · obtain ⟨rfl, rfl⟩ := e
      rw [upd_at]
      rcases hp with ⟨_, hn⟩ | ⟨h1, _, h3⟩
      · exact absurd hu (hn u)
      · have := h3 u hu
        have e2 : plusC (b i o) p = b i o + p := by unfold plusC; rw [if_neg (by omega)]
        have := less_le' (a := b (i + x) (o + y)) (c := plusC (b i o) p) (by omega)
        rw [← hv] at this
        omega
    · obtain ⟨r1, r2⟩ := h.part x y (by unfold BefP at hb ⊢; omega) u hu
      obtain ⟨q1, q2⟩ := hmono _ _ r1
      exact ⟨q1, by omega⟩

theorem AgS.line (h : AgS f ins outs s b i o X (outs.length - o + 1)) (hi : i ≤ ins.length) (ho : o ≤ outs.length) : AgS f ins outs s b i o (X + 1) 0 :=
  ⟨h.ag, h.top, h.pos, fun x y hb u hu => h.part x y (by
    obtain ⟨k, n, z, hp, _⟩ := hu
    have := (hp.le hi ho).2
    unfold BefP at hb ⊢
    omega) u hu⟩

theorem AgS.done (h : AgS f ins outs s b i o (ins.length - i + 1) 0) (hi : i ≤ ins.length) (ho : o ≤ outs.length) : AgI f ins outs s b (BefP i (o + 1)) :=
  ⟨h.ag.at0, h.ag.ge, h.ag.ach, fun i' o' hb q x y u hu => by
    by_cases e : i' = i ∧ o' = o
    · obtain ⟨rfl, rfl⟩ := e
      have hu' := hu
      obtain ⟨k, n, z, hp, _⟩ := hu'
      have h1 := hp.ge
      have h2 := hp.le hi ho
      have := h.part (x - i') (y - o') (by unfold BefP; omega) u (by rw [show i' + (x - i') = x by omega, show o' + (y - o') = y by omega]; exact hu)
      rw [show i' + (x - i') = x by omega, show o' + (y - o') = y by omega] at this
      exact this
    · exact h.ag.fix i' o' (by unfold BefP at hb ⊢; omega) q x y u hu⟩

theorem AgI.skip (h : AgI f ins outs s b (BefP i o)) (h0 : b i o < 0) : AgI f ins outs s b (BefP i (o + 1)) :=
  ⟨h.at0, h.ge, h.ach, fun i' o' hb q x y u hu => by
    by_cases e : i' = i ∧ o' = o
    · obtain ⟨rfl, rfl⟩ := e
      omega
    · exact h.fix i' o' (by unfold BefP at hb ⊢; omega) q x y u hu⟩

theorem AgI.begin : AgI f ins outs s (upd (fun _ _ => -1) 0 0 0) (BefP 0 0) :=
  ⟨upd_at _ _ _ _, fun x y => by unfold upd; dsimp only; split <;> omega, fun x y q => by
    by_cases e : x = 0 ∧ y = 0
    · obtain ⟨rfl, rfl⟩ := e
      rw [upd_at]
      exact ⟨0, rfl, rfl, rfl⟩
    · rw [upd_other e] at q
      omega, fun x y hb => by unfold BefP at hb; omega⟩

theorem TopP.begin : TopP (upd (fun _ _ => -1) 0 0 0) := fun x y => by
  unfold upd
  dsimp only
  split <;> omega

/-- a line is done: those are left out where no place is -/
theorem AgI.next (h : AgI f ins outs s b (BefP i (outs.length + 1))) (hb : ∀ x y, outs.length < y → b x y = -1) : AgI f ins outs s b (BefP (i + 1) 0) :=
  ⟨h.at0, h.ge, h.ach, fun i' o' hB q x y u hu => by
    rcases Nat.lt_or_ge outs.length o' with k | k
    · rw [hb i' o' k] at q
      omega
    · exact h.fix i' o' (by unfold BefP at hB ⊢; omega) q x y u hu⟩
end

/-- behind the last place nothing is told -/
def OutP (ol : Nat) (b : Nat → Nat → Int) : Prop := ∀ x y, ol < y → b x y = -1
theorem OutP.begin (ol : Nat) : OutP ol (upd (fun _ _ => -1) 0 0 0) := fun x y h => upd_other (by omega)
theorem OutP.upd {ol : Nat} {b : Nat → Nat → Int} (h : OutP ol b) {x y : Nat} (hy : y ≤ ol) (v : Int) : OutP ol (upd b x y v) := fun i o ho => by
  rw [upd_other (by omega)]
  exact h i o ho

/-- the table in memory -/
structure AT (w0 wr : World) (B il ol : Nat) (h hc : Nat → Nat) (b : Nat → Nat → Int) : Prop where
  bel : Below w0.heap.size w0 wr
  tab : ∀ k, k ≤ il → wr.cell? ⟨B, k, none⟩ = some (.slice (some ⟨h k, 0, none⟩) (ol + 1) (hc k))
  rows : ∀ k, k ≤ il → ∀ o, o ≤ ol → wr.cell? ⟨h k, o, none⟩ = some (.int .i64 (b k o))
  frz : ∀ k, k ≤ il → ∀ o, wr.frozen? ⟨h k, o, none⟩ = false
  hB : ∀ k, k ≤ il → h k ≠ B
  hh : ∀ k k', k ≤ il → k' ≤ il → h k = h k' → k = k'
  lo : ∀ k, k ≤ il → w0.heap.size ≤ h k

theorem frz_bel {w w' : World} {g i : Nat} {v : Value} (hb : Below w.heap.size w w') (hc : w.cell? ⟨g, i, none⟩ = some v) (j : Nat) (hf : w.frozen? ⟨g, j, none⟩ = false) : w'.frozen? ⟨g, j, none⟩ = false :=
  (hb.frozen (p := ⟨g, j, none⟩) (cell_lt hc)).trans hf

theorem AT.below {w0 wr wx : World} {B il ol : Nat} {h hc : Nat → Nat} {b : Nat → Nat → Int} (t : AT w0 wr B il ol h hc b) (hb : Below wr.heap.size wr wx) : AT w0 wx B il ol h hc b :=
  ⟨bel_on t.bel hb, fun k hk => bel_c hb (t.tab k hk), fun k hk o ho => bel_c hb (t.rows k hk o ho), fun k hk o => frz_bel hb (t.rows k hk 0 (Nat.zero_le _)) o (t.frz k hk o), t.hB, t.hh, t.lo⟩

theorem AT.set {w0 wr : World} {B il ol : Nat} {h hc : Nat → Nat} {b : Nat → Nat → Int} (t : AT w0 wr B il ol h hc b) {x y : Nat} (hx : x ≤ il) (hy : y ≤ ol) (v : Int) : AT w0 (wr.setCell ⟨h x, y, none⟩ (.int .i64 v)) B il ol h hc (upd b x y v) := by
  refine ⟨t.bel.setCell (p := ⟨h x, y, none⟩) (t.lo x hx) _, fun k hk => (set_far (fun e => t.hB x hx e.symm)).trans (t.tab k hk), fun k hk o ho => ?_, fun k hk o => ?_, t.hB, t.hh, t.lo⟩
  · by_cases e : k = x
    · subst e
      by_cases e2 : o = y
      · subst e2
        rw [upd_at]
        exact World.cell?_setCell_same _ _ _ (t.rows k hk o ho)
      · rw [upd_other (fun q => e2 q.2)]
        rw [World.cell?_setCell_other _ _ _ _ (by intro e1; apply e2; injection e1 with _ e3; exact e3.symm)]
        exact t.rows k hk o ho
    · rw [upd_other (fun q => e q.1)]
      exact (set_far (fun q => e (t.hh k x hk hx q))).trans (t.rows k hk o ho)
  · rw [World.frozen?_setCell]
    exact t.frz k hk o

/-- the table while it is laid out: i rows stand, and one of o numbers in the cell i -/
structure AF (w0 wr : World) (B il ol : Nat) (h hc : Nat → Nat) (i o : Nat) (t : Value) : Prop where
  bel : Below w0.heap.size w0 wr
  loB : w0.heap.size ≤ B
  tab : ∀ k, k < i → wr.cell? ⟨B, k, none⟩ = some (.slice (some ⟨h k, 0, none⟩) (ol + 1) (hc k))
  cur : i ≤ il → wr.cell? ⟨B, i, none⟩ = some t
  nils : ∀ k, i < k → k ≤ il → wr.cell? ⟨B, k, none⟩ = some (.slice none 0 0)
  frB : ∀ k, wr.frozen? ⟨B, k, none⟩ = false
  ltB : B < wr.heap.size
  row : wr.ownsRow (B + 1) 3 1 t o (List.replicate o (.int .i64 (-1)))
  rows : ∀ k, k < i → ∀ o', o' ≤ ol → wr.cell? ⟨h k, o', none⟩ = some (.int .i64 (-1))
  frz : ∀ k, k < i → ∀ o', wr.frozen? ⟨h k, o', none⟩ = false
  lo : ∀ k, k < i → B + 1 ≤ h k
  th : ∀ k, k < i → t.ownBlock ≠ some (h k)
  hh : ∀ k k', k < i → k' < i → h k = h k' → k = k'

section
variable {w0 wr : World} {B il ol : Nat} {h hc : Nat → Nat} {i o : Nat} {t : Value}

/-- one number more in the row at work -/
theorem AF.push {w1 w' : World} {v' : Value} (a : AF w0 wr B il ol h hc i o t) (hb : Below wr.heap.size wr w1) (hi : i ≤ il) (hgr : w1.grownBy w' t.ownBlock) (hown : w'.ownsRow (B + 1) 3 1 v' (o + 1) (List.replicate o (.int .i64 (-1)) ++ [.int .i64 (-1)])) (hv : v'.ownBlock = t.ownBlock ∨ v'.ownBlock = some w1.heap.size) :
    AF w0 (w'.setCell ⟨B, i, none⟩ v') B il ol h hc i (o + 1) v' := by
  have hne : ∀ b, t.ownBlock ≠ some b → some b ≠ t.ownBlock := fun b hb e => hb e.symm
  have tB : t.ownBlock ≠ some B := fun e => by have := own_base a.row _ e; omega
  have hsz := hb.size
  have ltB := a.ltB
  have vB : v'.ownBlock ≠ some B := fun e => by
    rcases hv with q | q
    · rw [q] at e; exact tB e
    · rw [q] at e; injection e with e; omega
  have kc : ∀ k u, wr.cell? ⟨B, k, none⟩ = some u → w'.cell? ⟨B, k, none⟩ = some u := fun k u q => (hgr.cell_far ⟨B, k, none⟩ (by show B < _; omega) (hne _ tB)).trans (bel_c hb q)
  have hl : ∀ k, k < i → h k < wr.heap.size := fun k hk => cell_lt (a.rows k hk 0 (Nat.zero_le _))
  have hcur := kc i t (a.cur hi)
  have hBlt : w'.heap.size ≥ w1.heap.size := hgr.size
  refine ⟨((bel_on a.bel hb).grown hgr (Nat.le_trans a.bel.size hsz) (fun k hk => by have := own_base a.row _ hk; have := a.loB; omega)).setCell (p := ⟨B, i, none⟩) a.loB _, a.loB, fun k hk => ?_, fun _ => World.cell?_setCell_same _ _ _ hcur, fun k hk hk2 => ?_, fun k => ?_, by simp only [World.setCell, Array.size_modify]; omega, ?_, fun k hk o' ho => ?_, fun k hk o' => ?_, a.lo, fun k hk e => ?_, a.hh⟩
  · rw [World.cell?_setCell_other _ _ _ _ (by intro e1; injection e1 with _ e3; omega)]
    exact kc k _ (a.tab k hk)
  · rw [World.cell?_setCell_other _ _ _ _ (by intro e1; injection e1 with _ e3; omega)]
    exact kc k _ (a.nils k hk hk2)
  · rw [World.frozen?_setCell]
    exact (hgr.frozen_far ⟨B, k, none⟩ (by show B < _; omega) (hne _ tB)).trans ((hb.frozen (p := ⟨B, k, none⟩) ltB).trans (a.frB k))
  · have e : List.replicate (o + 1) (Value.int .i64 (-1)) = List.replicate o (.int .i64 (-1)) ++ [.int .i64 (-1)] := by
      rw [List.replicate_succ']
    rw [e]
    exact ownsRow_setCell_far hown vB
  · rw [set_far (fun e => by have := a.lo k hk; omega)]
    exact (hgr.cell_far ⟨_, o', none⟩ (by have := hl k hk; show h k < _; omega) (hne _ (a.th k hk))).trans (bel_c hb (a.rows k hk o' ho))
  · rw [World.frozen?_setCell]
    exact (hgr.frozen_far ⟨_, o', none⟩ (by have := hl k hk; show h k < _; omega) (hne _ (a.th k hk))).trans ((hb.frozen (p := ⟨_, o', none⟩) (hl k hk)).trans (a.frz k hk o'))
  · rcases hv with q | q
    · rw [q] at e; exact a.th k hk e
    · rw [q] at e; injection e with e; have := hl k hk; omega

/-- a row is done -/
theorem AF.next {H cap : Nat} (a : AF w0 wr B il ol h hc i (ol + 1) (.slice (some ⟨H, 0, none⟩) (ol + 1) cap)) (hi : i ≤ il) : AF w0 wr B il ol (fun k => if k = i then H else h k) (fun k => if k = i then cap else hc k) (i + 1) 0 (.slice none 0 0) := by
  have hth : ∀ k, k < i → H ≠ h k := fun k hk e => a.th k hk (by rw [e]; rfl)
  refine ⟨a.bel, a.loB, fun k hk => ?_, fun hk => a.nils _ (Nat.lt_succ_self _) hk, fun k hk hk2 => a.nils k (by omega) hk2, a.frB, a.ltB, World.ownsRow_nil _ _ _ _, fun k hk o' ho => ?_, fun k hk o' => ?_, fun k hk => ?_, fun k _ e => (by cases e), fun k k' hk hk' e => ?_⟩
  · by_cases e : k = i
    · subst e
      rw [if_pos rfl, if_pos rfl]
      exact a.cur hi
    · rw [if_neg e, if_neg e]
      exact a.tab k (by omega)
  · by_cases e : k = i
    · subst e
      rw [if_pos rfl, a.row.cellAt o' (by omega)]
      simp [show o' < ol + 1 by omega]
    · rw [if_neg e]
      exact a.rows k (by omega) o' ho
  · by_cases e : k = i
    · subst e
      rw [if_pos rfl]
      exact a.row.frozenAt o'
    · rw [if_neg e]
      exact a.frz k (by omega) o'
  · by_cases e : k = i
    · subst e
      rw [if_pos rfl]
      exact own_base a.row H rfl
    · rw [if_neg e]
      exact a.lo k (by omega)
  · by_cases e1 : k = i
    · by_cases e2 : k' = i
      · omega
      · rw [if_pos e1, if_neg e2] at e
        exact absurd e (hth k' (by omega))
    · by_cases e2 : k' = i
      · rw [if_neg e1, if_pos e2] at e
        exact absurd e.symm (hth k (by omega))
      · rw [if_neg e1, if_neg e2] at e
        exact a.hh k k' (by omega) (by omega) e

theorem AF.done (a : AF w0 wr B il ol h hc (il + 1) 0 t) : AT w0 wr B il ol h hc (fun _ _ => -1) :=
  ⟨a.bel, fun k hk => a.tab k (by omega), fun k hk o ho => a.rows k (by omega) o ho, fun k hk o => a.frz k (by omega) o, fun k hk e => by have := a.lo k (by omega); omega, fun k k' hk hk' => a.hh k k' (by omega) (by omega), fun k hk => by have := a.lo k (by omega); have := a.loB; omega⟩
end
end Go.Proofs.Yteehgcbjmdideaa

/- The document's 'AgainOf'. (Made by wip/gen/sja.py.) -/
namespace Go.Proofs.Yteehgcbjmdideaa
open Go.RowKit
attribute [local go_sem ↓] Go.wp_at_zero Go.wp_at_succ

/-- what 'Pieces' answered, where it lies -/
structure PT (wr : World) (T : Nat) (g gc : Nat → Nat) (p : Nat → Nat → Int) (ir orr : Nat) : Prop where
  tab : ∀ x, x ≤ ir → wr.cell? ⟨T, x, none⟩ = some (.slice (some ⟨g x, 0, none⟩) (orr + 1) (gc x))
  rows : ∀ x, x ≤ ir → ∀ y, y ≤ orr → wr.cell? ⟨g x, y, none⟩ = some (.int .i64 (p x y))
theorem PT.below {wr wx : World} {T : Nat} {g gc : Nat → Nat} {p : Nat → Nat → Int} {ir orr : Nat} (t : PT wr T g gc p ir orr) (hb : Below wr.heap.size wr wx) : PT wx T g gc p ir orr :=
  ⟨fun x hx => bel_c hb (t.tab x hx), fun x hx y hy => bel_c hb (t.rows x hx y hy)⟩
theorem PT.set {wr : World} {T : Nat} {g gc : Nat → Nat} {p : Nat → Nat → Int} {ir orr : Nat} (t : PT wr T g gc p ir orr) {R k : Nat} {u : Value} (hT : T ≠ R) (hg : ∀ x, x ≤ ir → g x ≠ R) : PT (wr.setCell ⟨R, k, none⟩ u) T g gc p ir orr :=
  ⟨fun x hx => (set_far hT).trans (t.tab x hx), fun x hx y hy => (set_far (hg x hx)).trans (t.rows x hx y hy)⟩

theorem made_nil (w : World) (n k : Nat) (hk : k < n) : (w.alloc (.cells (madeCells #[.slice none 0 0] n) 22)).cell? ⟨w.heap.size, k, none⟩ = some (.slice none 0 0) :=
  new_cell _ _ _ _ k _ rfl (by simp [madeCells, hk, Nat.mod_one])

theorem AF.start (w : World) (il ol : Nat) (h hc : Nat → Nat) : AF w (w.alloc (.cells (madeCells #[.slice none 0 0] (il + 1)) 22)) w.heap.size il ol h hc 0 0 (.slice none 0 0) :=
  ⟨bel_up (bel_self w) _, Nat.le_refl _, fun k hk => absurd hk (Nat.not_lt_zero _), fun _ => made_nil w _ 0 (by omega), fun k _ hk => made_nil w _ k (by omega), fun k => new_frozen w _ _ _ k rfl, by simp, World.ownsRow_nil _ _ _ _, fun k hk => absurd hk (Nat.not_lt_zero _), fun k hk => absurd hk (Nat.not_lt_zero _), fun k hk => absurd hk (Nat.not_lt_zero _), fun k hk => absurd hk (Nat.not_lt_zero _), fun k _ hk => absurd hk (Nat.not_lt_zero _)⟩

set_option maxHeartbeats 4000000 in
set_option maxRecDepth 100000 in
theorem againOf_any (f : FstD) (ins outs : List Int) (N s0 fb fo fc : Nat) (aa : Option Addr) (m ac : Nat) (ia : Option Addr) (il ic : Nat) (oa : Option Addr) (ol oc : Nat) (w : World)
    (hok : OkW f ins outs N s0) (hlet : ∀ a ∈ f.arcs, (0 ≤ a.inp ∧ a.inp ≤ 9) ∧ (0 ≤ a.out ∧ a.out ≤ 9)) (hfx : IntsAt w fb fo N f.final) (ha : ASlice w (.slice aa m ac) f.arcs) (hal : f.arcs.length = m)
    (hI : ISlice w (.slice ia il ic) ins) (hil : ins.length = il) (hic : il ≤ ic) (hO : ISlice w (.slice oa ol oc) outs) (hol : outs.length = ol) (hoc : ol ≤ oc) :
    Calls Try.prog 29 #[.agg #[.int .i64 (N : Int), .int .i64 (s0 : Int), .slice (some ⟨fb, fo, none⟩) N fc, .slice aa m ac], .slice ia il ic, .slice oa ol oc] w fun e w' => ∃ x, e = .returned (.int .i64 x) ∧ Mn (AgP f ins outs s0 ins.length outs.length) x ∧ Below w.heap.size w w' := by
  have hi40 : il ≤ 40 := by have := hok.i40; omega
  have ho40 : ol ≤ 40 := by have := hok.o40; omega
  obtain ⟨i0, hi0, hx0, hx1, hx2⟩ := info_parts Try.info3
  have hmk := run_make_row' (P := Try.prog) 70 22 (.slice none 0 0) 24 Try.underlying70 infoS rfl .i64 .i64 (il + 1) (by omega) (by omega)
  rw [show ((il + 1 : Nat) : Int) = (il : Int) + 1 from rfl] at hmk
  obtain ⟨W0, hW0⟩ : ∃ W0, W0 = w.alloc (.cells #[.int .i64 (N : Int), .int .i64 (s0 : Int), .slice (some ⟨fb, fo, none⟩) N fc, .slice aa m ac] 25) := ⟨_, rfl⟩
  have hb0 : Below w.heap.size w W0 := by rw [hW0]; exact bel_up (bel_self w) _
  have hbF : W0.heap[w.heap.size]? = some (.cells #[.int .i64 (N : Int), .int .i64 (s0 : Int), .slice (some ⟨fb, fo, none⟩) N fc, .slice aa m ac] 25 (0, 0)) := by
    rw [hW0]; exact heap_alloc_new w _
  have hAF := AF.start W0 il ol (fun _ => 0) (fun _ => 0)
  obtain ⟨B, hB⟩ : ∃ B, B = W0.heap.size := ⟨_, rfl⟩
  have HPI : Hid (∀ i o W, Below w.heap.size w W → Calls Try.prog 73 #[.agg #[.int .i64 (N : Int), .int .i64 (s0 : Int), .slice (some ⟨fb, fo, none⟩) N fc, .slice aa m ac], .slice (tailA ia ic i) (il - i) (ic - i), .slice (tailA oa oc o) (ol - o) (oc - o)] W fun e w' => PiecesEnd W f (ins.drop i) (outs.drop o) s0 (il - i) (ol - o) e w') := fun i o W hb =>
    pieces_any f (ins.drop i) (outs.drop o) N s0 fb fo fc aa m ac _ _ _ _ _ _ W (hok.drop i o) hlet (hfx.below hb) (ha.below hb) hal ((hI.below hb).tail hic i) (by rw [List.length_drop, hil]) ((hO.below hb).tail hoc o) (by rw [List.length_drop, hol])
  have HIL : Hid (ins.length = il ∧ outs.length = ol) := ⟨hil, hol⟩
  have HB0 : Hid (Below w.heap.size w W0) := hb0
  have HBF : Hid (∀ W, Below W0.heap.size W0 W → (fun wx : World => wx.cell? ⟨w.heap.size, 0, none⟩ = some (.int .i64 (N : Int)) ∧ wx.cell? ⟨w.heap.size, 1, none⟩ = some (.int .i64 (s0 : Int)) ∧ wx.cell? ⟨w.heap.size, 2, none⟩ = some (.slice (some ⟨fb, fo, none⟩) N fc) ∧ wx.cell? ⟨w.heap.size, 3, none⟩ = some (.slice aa m ac)) W) := fun W hb => by
    have hg := heap_bel hb hbF
    exact ⟨box_cell (k := 0) hg rfl, box_cell (k := 1) hg rfl, box_cell (k := 2) hg rfl, box_cell (k := 3) hg rfl⟩
  clear hok hlet hfx ha hal hI hil hO hol hbF hb0
  go_enter Try.func29, Try.ntmps29
  go_wp2
  rw [← hW0]
  obtain ⟨W1, hW1⟩ : ∃ W1, W1 = W0.alloc (.cells (madeCells #[.slice none 0 0] (il + 1)) 22) := ⟨_, rfl⟩
  have hsW : w.heap.size + 1 = B := by rw [hB, hW0]; exact (one_size _ _).symm
  rw [← hW1, ← hB] at hAF
  have HW0 : Hid (W0 = w.alloc (.cells #[.int .i64 (N : Int), .int .i64 (s0 : Int), .slice (some ⟨fb, fo, none⟩) N fc, .slice aa m ac] 25)) := hW0
  rw [← hW1, hsW]
  clear hW0 hW1 hmk hB hsW HW0
  go_loopw [8] (fun t8 wr => ∃ (i : Nat) (h hc : Nat → Nat), i ≤ il + 1 ∧ t8 = .int .i64 i ∧ AF W0 wr B il ol h hc i 0 (.slice none 0 0)) (fun t8 _ => il + 1 - (intOf t8).toNat)
  case atStart => exact ⟨0, _, _, Nat.zero_le _, rfl, hAF⟩
  case round =>
    clear hAF
    obtain ⟨i, h, hc, hi, rfl, hAF⟩ := hrel
    by_cases hlt : i ≤ il
    · have hii : (i : Int) ≤ il := by omega
      have hij : (i : Int) < il + 1 := by omega
      go_wp2
      go_loopw [9] (fun t9 wr => ∃ (o : Nat) (t : Value), o ≤ ol + 1 ∧ t9 = .int .i64 o ∧ AF W0 wr B il ol h hc i o t) (fun t9 _ => ol + 1 - (intOf t9).toNat)
      case atStart => exact ⟨0, _, Nat.zero_le _, rfl, hAF⟩
      case round =>
        clear hAF
        obtain ⟨o, t, ho, rfl, hAF⟩ := hrel
        by_cases hlo : o ≤ ol
        · have hoi : (o : Int) ≤ ol := by omega
          obtain ⟨ta, tcap, rfl⟩ := own_sl hAF.row
          have c1 := hAF.cur hlt
          have hBu := bel_up (bel_self wr) (.cells #[.int .i64 (-1)] 3)
          have hrow := ownsRow_bel hAF.row hBu
          have HAF : Hid (AF W0 wr B il ol h hc i o (.slice ta o tcap)) := hAF
          have hltB := hAF.ltB
          have hfrB := hAF.frB i
          have htB : (Value.slice ta o tcap).ownBlock ≠ some B := fun e => by have := own_base hAF.row _ e; omega
          clear hAF
          go_wp2_with (at_builtin; refine wpList_append_own_at _ rfl _ _ 22 rfl (B + 1) 3 i0 _ 1 8 Try.underlying22 hi0 hx0 hx1 hx2 rfl (by decide) _ _ _ rfl hrow ⟨wr.heap.size, 0, none⟩ 1 1 [.int .i64 (-1)] rfl rfl (cells_new _ #[.int .i64 (-1)] 3 _ (by simp)) (ints_ones [-1]) (by unfold maxLen; omega) (by omega) (by simp; omega) ?_; intro v' w2 hown' hgrow _ hat; obtain ⟨va, vc, rfl⟩ := own_sl hown'; have d1 := (hgrow.cell_far ⟨B, i, none⟩ (by simp; omega) (Ne.symm htB)).trans (bel_c hBu c1); have z1 := (hgrow.frozen_far ⟨B, i, none⟩ (by simp; omega) (Ne.symm htB)).trans ((hBu.frozen (p := ⟨B, i, none⟩) hltB).trans hfrB); have HN : Hid _ := HAF.out.push hBu hlt hgrow hown' hat; clear hown' hgrow hat)
          go_roundw
          case rel => exact ⟨o + 1, _, by omega, by go_num, HN.out⟩
          case measure => simp [intOf]; omega
        · have hoe : o = ol + 1 := by omega
          subst hoe
          obtain ⟨H, cap, rfl⟩ := Go.Joins.ownsRow_form hAF.row (by omega)
          have hnl : ¬ ((ol : Int) + 1 ≤ ol) := by omega
          have HN : Hid _ := hAF.next hlt
          clear hAF
          go_wp2
          go_roundw
          case rel => exact ⟨i + 1, _, _, by omega, by go_num, HN.out⟩
          case measure => simp [intOf]; omega
    · have hie : i = il + 1 := by omega
      subst hie
      have hnl : ¬ ((il : Int) + 1 ≤ il) := by omega
      have hAT := hAF.done
      have e1 := hAT.tab 0 (Nat.zero_le _)
      have e2 := hAT.rows 0 (Nat.zero_le _) 0 (Nat.zero_le _)
      have e3 := hAT.frz 0 (Nat.zero_le _) 0
      have HA1 : Hid _ := hAT.set (Nat.zero_le _) (Nat.zero_le _) 0
      have hil1 : (0 : Int) < (il : Int) + 1 := by omega
      have hol1 : (0 : Int) < (ol : Int) + 1 := by omega
      clear hAF hAT
      go_wp2
      clear e1 e2 e3 hnl
      go_loopw [10] (fun t10 wr => ∃ (i : Nat) (b : Nat → Nat → Int), i ≤ il + 1 ∧ t10 = .int .i64 i ∧ AT W0 wr B il ol h hc b ∧ Hid (AgI f ins outs s0 b (BefP i 0) ∧ TopP b ∧ OutP ol b)) (fun t10 _ => il + 1 - (intOf t10).toNat)
      case atStart => exact ⟨0, _, Nat.zero_le _, rfl, HA1.out, AgI.begin, TopP.begin, OutP.begin _⟩
      case round =>
        clear HA1
        obtain ⟨i, b, hi, rfl, hAT, HAG⟩ := hrel
        by_cases hlt : i ≤ il
        · have hii : (i : Int) ≤ il := by omega
          have hij : (i : Int) < il + 1 := by omega
          go_wp2
          go_loopw [11] (fun t11 wr => ∃ (o : Nat) (b : Nat → Nat → Int), o ≤ ol + 1 ∧ t11 = .int .i64 o ∧ AT W0 wr B il ol h hc b ∧ Hid (AgI f ins outs s0 b (BefP i o) ∧ TopP b ∧ OutP ol b)) (fun t11 _ => ol + 1 - (intOf t11).toNat)
          case atStart => exact ⟨0, b, Nat.zero_le _, rfl, hAT, HAG⟩
          case round =>
            clear hAT HAG
            obtain ⟨o, b, ho, rfl, hAT, HAG⟩ := hrel
            by_cases hlo : o ≤ ol
            · have hoi : (o : Int) ≤ ol := by omega
              have hoj : (o : Int) < ol + 1 := by omega
              have c1 := hAT.tab i hlt
              have c2 := hAT.rows i hlt o hlo
              by_cases hneg : b i o < 0
              · go_wp2
                go_roundw
                case rel => exact ⟨o + 1, b, by omega, by go_num, hAT, HAG.out.1.skip hneg, HAG.out.2⟩
                case measure => simp [intOf]; omega
              · obtain ⟨ir, hir⟩ : ∃ ir, ir = il - i := ⟨_, rfl⟩
                obtain ⟨orr, horr⟩ : ∃ orr, orr = ol - o := ⟨_, rfl⟩
                have hATd := hAT.below (bel_self wr).drew
                have hpi := HPI.out i o wr.drew (bel_on HB0.out hATd.bel)
                rw [← hir, ← horr] at hpi
                have hsl1 := fun wx => run_tail ia il ic i hlt wx
                have hsl2 := fun wx => run_tail oa ol oc o hlo wx
                rw [← hir] at hsl1
                rw [← horr] at hsl2
                have S0 := HBF.out wr.drew hATd.bel
                have HAT : Hid (AT W0 wr.drew B il ol h hc b) := hATd
                have HIR : Hid (ir = il - i ∧ orr = ol - o) := ⟨hir, horr⟩
                have hir1 : i + ir = il := by omega
                have horr1 : o + orr = ol := by omega
                clear hAT hATd hir horr
                go_wp2
                go_region_held3 (fun wx : World => wx.cell? ⟨w.heap.size, 0, none⟩ = some (.int .i64 (N : Int)) ∧ wx.cell? ⟨w.heap.size, 1, none⟩ = some (.int .i64 (s0 : Int)) ∧ wx.cell? ⟨w.heap.size, 2, none⟩ = some (.slice (some ⟨fb, fo, none⟩) N fc) ∧ wx.cell? ⟨w.heap.size, 3, none⟩ = some (.slice aa m ac)) (first | exact HBF.out _ HA2.out.bel | exact S0) (
                  (go_at_call 73
                   refine hpi.mono ?_
                   rintro e w2 ⟨T, tc, g, gc, p, rfl, k1, k2, k3, k4, k5, k6, hb2⟩
                   have HA2 : Hid _ := HAT.out.below hb2))
                have HPM : Hid (∀ x, x ≤ ir → ∀ y, y ≤ orr → Mn (PieceP f ins outs s0 i o (i + x) (o + y)) (p x y)) := fun x hx y hy => (k3 x hx y hy).cong fun z => by rw [piece_drop]; exact Iff.rfl
                have HPT : Hid (PT w2 T g gc p ir orr) := ⟨k1, k2⟩
                have HFR : Hid ((∀ k, k ≤ il → T ≠ h k) ∧ ∀ k, k ≤ il → ∀ x, x ≤ ir → g x ≠ h k) := by
                  have hlt0 : ∀ k, k ≤ il → h k < wr.drew.heap.size := fun k hk => cell_lt (HAT.out.rows k hk 0 (Nat.zero_le _))
                  exact ⟨fun k hk e => by have := hlt0 k hk; omega, fun k hk x hx e => by have := hlt0 k hk; have := k6 x hx; omega⟩
                have HAS : Hid (AgS f ins outs s0 b i o 0 0 ∧ OutP ol b) := ⟨AgS.begin HAG.out.1 HAG.out.2.1 (by omega), HAG.out.2.2⟩
                have hp4 : ∀ x y, p x y ≤ 400002000000000 := k4
                clear k1 k2 k3 k4 k5 k6 hb2 hpi hsl1 hsl2 S0 HAT HAG hneg c1 c2
                go_wp2
                go_loopw [13] (fun t13 wr => ∃ (x : Nat) (b : Nat → Nat → Int), x ≤ ir + 1 ∧ t13 = .int .i64 x ∧ AT W0 wr B il ol h hc b ∧ PT wr T g gc p ir orr ∧ Hid (AgS f ins outs s0 b i o x 0 ∧ OutP ol b)) (fun t13 _ => ir + 1 - (intOf t13).toNat)
                case atStart => exact ⟨0, b, Nat.zero_le _, rfl, HA2.out, HPT.out, HAS⟩
                case round =>
                  clear HA2 HPT HAS
                  obtain ⟨x, b, hx, rfl, hAT, hPT, HAS⟩ := hrel
                  by_cases hltx : x ≤ ir
                  · have hxi : (x : Int) < ir + 1 := by omega
                    go_wp2
                    go_loopw [14] (fun t14 wr => ∃ (y : Nat) (b : Nat → Nat → Int), y ≤ orr + 1 ∧ t14 = .int .i64 y ∧ AT W0 wr B il ol h hc b ∧ PT wr T g gc p ir orr ∧ Hid (AgS f ins outs s0 b i o x y ∧ OutP ol b)) (fun t14 _ => orr + 1 - (intOf t14).toNat)
                    case atStart => exact ⟨0, b, Nat.zero_le _, rfl, hAT, hPT, HAS⟩
                    case round =>
                      clear hAT hPT HAS
                      obtain ⟨y, b, hy, rfl, hAT, hPT, HAS⟩ := hrel
                      have d1 := hPT.tab x hltx
                      by_cases hlty : y ≤ orr
                      · have hyi : (y : Int) < orr + 1 := by omega
                        obtain ⟨k, hk⟩ : ∃ k, k = i + x := ⟨_, rfl⟩
                        obtain ⟨q, hq⟩ : ∃ q, q = o + y := ⟨_, rfl⟩
                        have hkl : k ≤ il := by omega
                        have hql : q ≤ ol := by omega
                        have hki : (k : Int) < il + 1 := by omega
                        have hqi : (q : Int) < ol + 1 := by omega
                        have hwk : IntKind.i64.wrap ((i : Int) + x) = k := by rw [hk]; exact wrap_in _ (by omega) (by omega)
                        have hwq : IntKind.i64.wrap ((o : Int) + y) = q := by rw [hq]; exact wrap_in _ (by omega) (by omega)
                        have HKQ : Hid (k = i + x ∧ q = o + y) := ⟨hk, hq⟩
                        obtain ⟨Wd, hWd⟩ : ∃ Wd, Wd = wr.drew := ⟨_, rfl⟩
                        have hATd : AT W0 Wd B il ol h hc b := by rw [hWd]; exact hAT.below (bel_self wr).drew
                        have hPTd : PT Wd T g gc p ir orr := by rw [hWd]; exact hPT.below (bel_self wr).drew
                        have c1 := hATd.tab k hkl
                        have c2 := hATd.tab i hlt
                        have c3 := hATd.rows k hkl q hql
                        have c4 := hATd.rows i hlt o hlo
                        have z1 := hATd.frz k hkl q
                        have d2 := hPTd.tab x hltx
                        have d3 := hPTd.rows x hltx y hlty
                        have hbb : b i o ≤ 100000000000000000 := by
                          have := HAS.out.1.top i o
                          have h2 : ((i + o : Nat) : Int) ≤ 80 := by omega
                          omega
                        have hpp : p x y ≤ 100000000000000000 := by have := hp4 x y; omega
                        have hS0 : (fun wx : World => wx.cell? ⟨B, k, none⟩ = some (.slice (some ⟨h k, 0, none⟩) (ol + 1) (hc k)) ∧ wx.cell? ⟨B, i, none⟩ = some (.slice (some ⟨h i, 0, none⟩) (ol + 1) (hc i)) ∧ wx.cell? ⟨h k, q, none⟩ = some (.int .i64 (b k q)) ∧ wx.cell? ⟨h i, o, none⟩ = some (.int .i64 (b i o)) ∧ wx.cell? ⟨T, x, none⟩ = some (.slice (some ⟨g x, 0, none⟩) (orr + 1) (gc x)) ∧ wx.cell? ⟨g x, y, none⟩ = some (.int .i64 (p x y))) Wd := ⟨c1, c2, c3, c4, d2, d3⟩
                        have HNA : Hid _ := hATd.set hkl hql (lessC (b k q) (plusC (b i o) (p x y)))
                        have HNP : Hid _ := hPTd.set (R := h k) (k := q) (u := .int .i64 (lessC (b k q) (plusC (b i o) (p x y)))) (HFR.out.1 k hkl) (HFR.out.2 k hkl)
                        clear hAT hPT hATd hPTd hk hq
                        go_wp2
                        refine wp_region_noPanic ?_
                        refine wp_region_U (fun wx : World => wx.cell? ⟨B, k, none⟩ = some (.slice (some ⟨h k, 0, none⟩) (ol + 1) (hc k)) ∧ wx.cell? ⟨B, i, none⟩ = some (.slice (some ⟨h i, 0, none⟩) (ol + 1) (hc i)) ∧ wx.cell? ⟨h k, q, none⟩ = some (.int .i64 (b k q)) ∧ wx.cell? ⟨h i, o, none⟩ = some (.int .i64 (b i o)) ∧ wx.cell? ⟨T, x, none⟩ = some (.slice (some ⟨g x, 0, none⟩) (orr + 1) (gc x)) ∧ wx.cell? ⟨g x, y, none⟩ = some (.int .i64 (p x y))) 37 (by kernel_rfl) (by rw [← hWd]; exact hS0) (fun _ => ?_)
                        rw [← hWd]
                        clear hWd
                        refine wpAnyU_take (i := 0) (v := .slice (some ⟨B, 0, none⟩) (il + 1) (il + 1)) rfl (by kernel_rfl) (by kernel_rfl) (by kernel_rfl) (by kernel_rfl) (fun _ _ _ h => h) (Or.inl ⟨by rfl, fun wl hSw => ?_⟩) hS0 ?_
                        · (try dsimp only at hSw); go_simp
                        refine wpAnyU_take (i := 1) (v := .int .i64 (i : Int)) rfl (by kernel_rfl) (by kernel_rfl) (by kernel_rfl) (by kernel_rfl) (fun _ _ _ h => h) (Or.inl ⟨by rfl, fun wl hSw => ?_⟩) hS0 ?_
                        · (try dsimp only at hSw); go_simp
                        refine wpAnyU_take (i := 2) (v := .int .i64 (x : Int)) rfl (by kernel_rfl) (by kernel_rfl) (by kernel_rfl) (by kernel_rfl) (fun _ _ _ h => h) (Or.inl ⟨by rfl, fun wl hSw => ?_⟩) hS0 ?_
                        · (try dsimp only at hSw); go_simp
                        refine wpAnyU_take (i := 3) (v := .int .i64 (k : Int)) rfl (by kernel_rfl) (by kernel_rfl) (by kernel_rfl) (by kernel_rfl) (fun _ _ _ h => h) (Or.inl ⟨by rfl, fun wl hSw => ?_⟩) hS0 ?_
                        · (try dsimp only at hSw); go_simp
                        refine wpAnyU_take (i := 4) (v := .pointer (some ⟨B, k, none⟩)) rfl (by kernel_rfl) (by kernel_rfl) (by kernel_rfl) (by kernel_rfl) (fun _ _ _ h => h) (Or.inl ⟨by rfl, fun wl hSw => ?_⟩) hS0 ?_
                        · (try dsimp only at hSw); go_simp
                        refine wpAnyU_take (i := 5) (v := .slice (some ⟨h k, 0, none⟩) (ol + 1) (hc k)) rfl (by kernel_rfl) (by kernel_rfl) (by kernel_rfl) (by kernel_rfl) (fun _ _ _ h => h) (Or.inl ⟨by rfl, fun wl hSw => ?_⟩) hS0 ?_
                        · (try dsimp only at hSw); go_simp
                        refine wpAnyU_take (i := 6) (v := .int .i64 (o : Int)) rfl (by kernel_rfl) (by kernel_rfl) (by kernel_rfl) (by kernel_rfl) (fun _ _ _ h => h) (Or.inl ⟨by rfl, fun wl hSw => ?_⟩) hS0 ?_
                        · (try dsimp only at hSw); go_simp
                        refine wpAnyU_take (i := 7) (v := .int .i64 (y : Int)) rfl (by kernel_rfl) (by kernel_rfl) (by kernel_rfl) (by kernel_rfl) (fun _ _ _ h => h) (Or.inl ⟨by rfl, fun wl hSw => ?_⟩) hS0 ?_
                        · (try dsimp only at hSw); go_simp
                        refine wpAnyU_take (i := 8) (v := .int .i64 (q : Int)) rfl (by kernel_rfl) (by kernel_rfl) (by kernel_rfl) (by kernel_rfl) (fun _ _ _ h => h) (Or.inl ⟨by rfl, fun wl hSw => ?_⟩) hS0 ?_
                        · (try dsimp only at hSw); go_simp
                        refine wpAnyU_take (i := 9) (v := .slice (some ⟨B, 0, none⟩) (il + 1) (il + 1)) rfl (by kernel_rfl) (by kernel_rfl) (by kernel_rfl) (by kernel_rfl) (fun _ _ _ h => h) (Or.inl ⟨by rfl, fun wl hSw => ?_⟩) hS0 ?_
                        · (try dsimp only at hSw); go_simp
                        refine wpAnyU_take (i := 10) (v := .int .i64 (i : Int)) rfl (by kernel_rfl) (by kernel_rfl) (by kernel_rfl) (by kernel_rfl) (fun _ _ _ h => h) (Or.inl ⟨by rfl, fun wl hSw => ?_⟩) hS0 ?_
                        · (try dsimp only at hSw); go_simp
                        refine wpAnyU_take (i := 11) (v := .int .i64 (x : Int)) rfl (by kernel_rfl) (by kernel_rfl) (by kernel_rfl) (by kernel_rfl) (fun _ _ _ h => h) (Or.inl ⟨by rfl, fun wl hSw => ?_⟩) hS0 ?_
                        · (try dsimp only at hSw); go_simp
                        refine wpAnyU_take (i := 12) (v := .int .i64 (k : Int)) rfl (by kernel_rfl) (by kernel_rfl) (by kernel_rfl) (by kernel_rfl) (fun _ _ _ h => h) (Or.inl ⟨by rfl, fun wl hSw => ?_⟩) hS0 ?_
                        · (try dsimp only at hSw); go_simp
                        refine wpAnyU_take (i := 13) (v := .pointer (some ⟨B, k, none⟩)) rfl (by kernel_rfl) (by kernel_rfl) (by kernel_rfl) (by kernel_rfl) (fun _ _ _ h => h) (Or.inl ⟨by rfl, fun wl hSw => ?_⟩) hS0 ?_
                        · (try dsimp only at hSw); go_simp
                        refine wpAnyU_take (i := 14) (v := .slice (some ⟨h k, 0, none⟩) (ol + 1) (hc k)) rfl (by kernel_rfl) (by kernel_rfl) (by kernel_rfl) (by kernel_rfl) (fun _ _ _ h => h) (Or.inl ⟨by rfl, fun wl hSw => ?_⟩) hS0 ?_
                        · (try dsimp only at hSw); go_simp
                        refine wpAnyU_take (i := 15) (v := .int .i64 (o : Int)) rfl (by kernel_rfl) (by kernel_rfl) (by kernel_rfl) (by kernel_rfl) (fun _ _ _ h => h) (Or.inl ⟨by rfl, fun wl hSw => ?_⟩) hS0 ?_
                        · (try dsimp only at hSw); go_simp
                        refine wpAnyU_take (i := 16) (v := .int .i64 (y : Int)) rfl (by kernel_rfl) (by kernel_rfl) (by kernel_rfl) (by kernel_rfl) (fun _ _ _ h => h) (Or.inl ⟨by rfl, fun wl hSw => ?_⟩) hS0 ?_
                        · (try dsimp only at hSw); go_simp
                        refine wpAnyU_take (i := 17) (v := .int .i64 (q : Int)) rfl (by kernel_rfl) (by kernel_rfl) (by kernel_rfl) (by kernel_rfl) (fun _ _ _ h => h) (Or.inl ⟨by rfl, fun wl hSw => ?_⟩) hS0 ?_
                        · (try dsimp only at hSw); go_simp
                        refine wpAnyU_take (i := 18) (v := .pointer (some ⟨h k, q, none⟩)) rfl (by kernel_rfl) (by kernel_rfl) (by kernel_rfl) (by kernel_rfl) (fun _ _ _ h => h) (Or.inl ⟨by rfl, fun wl hSw => ?_⟩) hS0 ?_
                        · (try dsimp only at hSw); go_simp
                        refine wpAnyU_take (i := 19) (v := .int .i64 (b k q)) rfl (by kernel_rfl) (by kernel_rfl) (by kernel_rfl) (by kernel_rfl) (fun _ _ _ h => h) (Or.inl ⟨by rfl, fun wl hSw => ?_⟩) hS0 ?_
                        · (try dsimp only at hSw); go_simp
                        refine wpAnyU_take (i := 20) (v := .slice (some ⟨B, 0, none⟩) (il + 1) (il + 1)) rfl (by kernel_rfl) (by kernel_rfl) (by kernel_rfl) (by kernel_rfl) (fun _ _ _ h => h) (Or.inl ⟨by rfl, fun wl hSw => ?_⟩) hS0 ?_
                        · (try dsimp only at hSw); go_simp
                        refine wpAnyU_take (i := 21) (v := .int .i64 (i : Int)) rfl (by kernel_rfl) (by kernel_rfl) (by kernel_rfl) (by kernel_rfl) (fun _ _ _ h => h) (Or.inl ⟨by rfl, fun wl hSw => ?_⟩) hS0 ?_
                        · (try dsimp only at hSw); go_simp
                        refine wpAnyU_take (i := 22) (v := .pointer (some ⟨B, i, none⟩)) rfl (by kernel_rfl) (by kernel_rfl) (by kernel_rfl) (by kernel_rfl) (fun _ _ _ h => h) (Or.inl ⟨by rfl, fun wl hSw => ?_⟩) hS0 ?_
                        · (try dsimp only at hSw); go_simp
                        refine wpAnyU_take (i := 23) (v := .slice (some ⟨h i, 0, none⟩) (ol + 1) (hc i)) rfl (by kernel_rfl) (by kernel_rfl) (by kernel_rfl) (by kernel_rfl) (fun _ _ _ h => h) (Or.inl ⟨by rfl, fun wl hSw => ?_⟩) hS0 ?_
                        · (try dsimp only at hSw); go_simp
                        refine wpAnyU_take (i := 24) (v := .int .i64 (o : Int)) rfl (by kernel_rfl) (by kernel_rfl) (by kernel_rfl) (by kernel_rfl) (fun _ _ _ h => h) (Or.inl ⟨by rfl, fun wl hSw => ?_⟩) hS0 ?_
                        · (try dsimp only at hSw); go_simp
                        refine wpAnyU_take (i := 25) (v := .pointer (some ⟨h i, o, none⟩)) rfl (by kernel_rfl) (by kernel_rfl) (by kernel_rfl) (by kernel_rfl) (fun _ _ _ h => h) (Or.inl ⟨by rfl, fun wl hSw => ?_⟩) hS0 ?_
                        · (try dsimp only at hSw); go_simp
                        refine wpAnyU_take (i := 26) (v := .int .i64 (b i o)) rfl (by kernel_rfl) (by kernel_rfl) (by kernel_rfl) (by kernel_rfl) (fun _ _ _ h => h) (Or.inl ⟨by rfl, fun wl hSw => ?_⟩) hS0 ?_
                        · (try dsimp only at hSw); go_simp
                        refine wpAnyU_take (i := 27) (v := .slice (some ⟨T, 0, none⟩) (ir + 1) tc) rfl (by kernel_rfl) (by kernel_rfl) (by kernel_rfl) (by kernel_rfl) (fun _ _ _ h => h) (Or.inl ⟨by rfl, fun wl hSw => ?_⟩) hS0 ?_
                        · (try dsimp only at hSw); go_simp
                        refine wpAnyU_take (i := 28) (v := .int .i64 (x : Int)) rfl (by kernel_rfl) (by kernel_rfl) (by kernel_rfl) (by kernel_rfl) (fun _ _ _ h => h) (Or.inl ⟨by rfl, fun wl hSw => ?_⟩) hS0 ?_
                        · (try dsimp only at hSw); go_simp
                        refine wpAnyU_take (i := 29) (v := .pointer (some ⟨T, x, none⟩)) rfl (by kernel_rfl) (by kernel_rfl) (by kernel_rfl) (by kernel_rfl) (fun _ _ _ h => h) (Or.inl ⟨by rfl, fun wl hSw => ?_⟩) hS0 ?_
                        · (try dsimp only at hSw); go_simp
                        refine wpAnyU_take (i := 30) (v := .slice (some ⟨g x, 0, none⟩) (orr + 1) (gc x)) rfl (by kernel_rfl) (by kernel_rfl) (by kernel_rfl) (by kernel_rfl) (fun _ _ _ h => h) (Or.inl ⟨by rfl, fun wl hSw => ?_⟩) hS0 ?_
                        · (try dsimp only at hSw); go_simp
                        refine wpAnyU_take (i := 31) (v := .int .i64 (y : Int)) rfl (by kernel_rfl) (by kernel_rfl) (by kernel_rfl) (by kernel_rfl) (fun _ _ _ h => h) (Or.inl ⟨by rfl, fun wl hSw => ?_⟩) hS0 ?_
                        · (try dsimp only at hSw); go_simp
                        refine wpAnyU_take (i := 32) (v := .pointer (some ⟨g x, y, none⟩)) rfl (by kernel_rfl) (by kernel_rfl) (by kernel_rfl) (by kernel_rfl) (fun _ _ _ h => h) (Or.inl ⟨by rfl, fun wl hSw => ?_⟩) hS0 ?_
                        · (try dsimp only at hSw); go_simp
                        refine wpAnyU_take (i := 33) (v := .int .i64 (p x y)) rfl (by kernel_rfl) (by kernel_rfl) (by kernel_rfl) (by kernel_rfl) (fun _ _ _ h => h) (Or.inl ⟨by rfl, fun wl hSw => ?_⟩) hS0 ?_
                        · (try dsimp only at hSw); go_simp
                        refine wpAnyU_one (i := 34) rfl (by kernel_rfl) (fun K hK => ?_)
                        go_simp
                        refine (plusWide_any (b i o) (p x y) _ (by omega) (by omega)).mono ?_
                        rintro e wq ⟨rfl, rfl⟩
                        refine hK.out _ _ ⟨fun _ => hS0, ?_⟩
                        clear hK K
                        refine wpAnyU_one (i := 35) rfl (by kernel_rfl) (fun K hK => ?_)
                        go_simp
                        refine (lessRef_any (b k q) (plusC (b i o) (p x y)) _).mono ?_
                        rintro e wq ⟨rfl, rfl⟩
                        refine hK.out _ _ ⟨fun _ => hS0, ?_⟩
                        clear hK K
                        refine wpAnyU_take (i := 36) (v := .pointer (some ⟨h k, q, none⟩)) rfl (by kernel_rfl) (by kernel_rfl) (by kernel_rfl) (by kernel_rfl) (fun _ _ _ h => h) (Or.inl ⟨by rfl, fun wl hSw => ?_⟩) hS0 ?_
                        · (try dsimp only at hSw); go_simp
                        refine wpAnyU_one (i := 37) rfl (by kernel_rfl) (fun K hK => ?_)
                        go_simp
                        refine hK.out _ _ ⟨fun h => absurd rfl h, ?_⟩
                        clear hK K
                        refine wpAnyU_done (by kernel_rfl) ?_ _
                        refine NoPanic.normal ?_
                        go_wp2
                        go_roundw
                        case rel => exact ⟨y + 1, _, by omega, by go_num, HNA.out, HNP.out, by
                          have hs := HAS.out.1.step (HPM.out x hltx y hlty) (hp4 x y)
                          rw [← HKQ.out.1, ← HKQ.out.2] at hs
                          exact ⟨hs, HAS.out.2.upd hql _⟩⟩
                        case measure => simp [intOf]; omega
                      · have hye : y = orr + 1 := by omega
                        subst hye
                        have hnl : ¬ ((orr : Int) + 1 < orr + 1) := by omega
                        go_wp2
                        go_roundw
                        case rel => exact ⟨x + 1, b, by omega, by go_num, hAT, hPT, AgS.line (by rw [HIL.out.2, ← HIR.out.2]; exact HAS.out.1) (by rw [HIL.out.1]; exact hlt) (by rw [HIL.out.2]; exact hlo), HAS.out.2⟩
                        case measure => simp [intOf]; omega
                  · have hxe : x = ir + 1 := by omega
                    subst hxe
                    have hnl : ¬ ((ir : Int) + 1 < ir + 1) := by omega
                    go_wp2
                    go_roundw
                    case rel => exact ⟨o + 1, b, by omega, by go_num, hAT, AgS.done (by rw [HIL.out.1, ← HIR.out.1]; exact HAS.out.1) (by rw [HIL.out.1]; exact hlt) (by rw [HIL.out.2]; exact hlo), HAS.out.1.top, HAS.out.2⟩
                    case measure => simp [intOf]; omega
            · have hoe : o = ol + 1 := by omega
              subst hoe
              have hnl : ¬ ((ol : Int) + 1 ≤ ol) := by omega
              go_wp2
              go_roundw
              case rel => exact ⟨i + 1, b, by omega, by go_num, hAT, AgI.next (by rw [HIL.out.2]; exact HAG.out.1) (by rw [HIL.out.2]; exact HAG.out.2.2), HAG.out.2⟩
              case measure => simp [intOf]; omega
        · have hie : i = il + 1 := by omega
          subst hie
          have hnl : ¬ ((il : Int) + 1 ≤ il) := by omega
          have c1 := hAT.tab il (Nat.le_refl _)
          have c2 := hAT.rows il (Nat.le_refl _) ol (Nat.le_refl _)
          have hli : (il : Int) < il + 1 := by omega
          have hlo : (ol : Int) < ol + 1 := by omega
          go_wp2
          go_ret
          refine ⟨_, rfl, ?_, bel_on HB0.out hAT.bel⟩
          have hm := HAG.out.1.mn (fun i o h1 h2 => by have := HIL.out.1; unfold BefP; omega) il ol
          rw [HIL.out.1, HIL.out.2]
          exact hm
end Go.Proofs.Yteehgcbjmdideaa
