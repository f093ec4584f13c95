/- 'PushOf' of the document's answer: what lies in memory. -/
import Derived.Test.YteehgcbjmdideaaQPushP
namespace Go.Proofs.Yteehgcbjmdideaa
open Go.RowKit
attribute [local go_sem ↓] Go.wp_at_zero Go.wp_at_succ

theorem if_wanted {P : Program} {o : Oper} {y : Nat → Option Bool} {a : Act} {w : World} {K : Act → World → Prop} {Q : Exit → Act → World → Prop} (hgd : o.guard = none) (h : o.wp P a w K Q) : if Region.wanted o y = true then o.wp P a w K Q else K (a.put o.dst undef) w := by
  rw [if_pos (by simp [Region.wanted, hgd])]
  exact h

/-- ends, the first k of them pushed -/
def mixF (to fin : List Int) (k : Nat) : List Int := pushF to fin k ++ fin.drop k
theorem mixF_zero (to fin : List Int) : mixF to fin 0 = fin := by simp [mixF, pushF]
theorem mixF_len (to fin : List Int) (k : Nat) (hk : k ≤ fin.length) : (mixF to fin k).length = fin.length := by simp [mixF, pushF_len]; omega
theorem mixF_all (to fin : List Int) (k : Nat) (hk : fin.length ≤ k) : mixF to fin k = pushF to fin k := by simp [mixF, List.drop_of_length_le hk]
theorem mixF_at (to fin : List Int) (k : Nat) (hk : k < fin.length) : gI (mixF to fin k) k = fin.getD k 0 := by
  unfold gI mixF List.getD
  rw [List.getElem?_append_right (by rw [pushF_len]; exact Nat.le_refl _), pushF_len, Nat.sub_self]
  simp [hk]
theorem mixF_succ (to fin : List Int) (k : Nat) (hk : k < fin.length) : (mixF to fin k).set k (pf (gI to k) (fin.getD k 0)) = mixF to fin (k + 1) := by
  unfold mixF
  rw [List.set_append_right _ _ (by rw [pushF_len]; exact Nat.le_refl _), pushF_len, Nat.sub_self, List.drop_eq_getElem_cons hk, List.set_cons_zero, pushF_succ]
  simp
theorem mixF_same (to fin : List Int) (k : Nat) (hk : k < fin.length) (h : fin.getD k 0 = -1) : mixF to fin (k + 1) = mixF to fin k := by
  rw [← mixF_succ to fin k hk]
  have e : pf (gI to k) (fin.getD k 0) = gI (mixF to fin k) k := by rw [mixF_at to fin k hk, h]; simp [pf]
  rw [e, set_same]

/-- the world of 'PushOf' -/
structure OW (w wx : World) (N s0 gt P G cap : Nat) (fin arcs av : Value) (to xs : List Int) (ars : List ArcD) : Prop where
  cf : CellsF wx w.heap.size (N : Int) (s0 : Int) fin arcs
  zb : ZBlock wx (w.heap.size + 1)
  row : NumsAt wx gt N to
  out : CellsF wx P (N : Int) (s0 : Int) (.slice (some ⟨G, 0, none⟩) N cap) av
  frz : wx.frozen? ⟨P, 3, none⟩ = false
  fin : NumsAt wx G N xs
  ar : wx.ownsRow (w.heap.size + 2) 63 5 av ars.length (arcsV ars)
  gt1 : w.heap.size + 1 < gt
  gP : w.heap.size + 1 < P
  gG : w.heap.size + 1 < G
  tP : gt ≠ P
  tG : gt ≠ G
  PG : P ≠ G
  at_ : av.ownBlock ≠ some gt
  aP : av.ownBlock ≠ some P
  aG : av.ownBlock ≠ some G
  bel : Below w.heap.size w wx

theorem OW.below {w wx wy : World} {N s0 gt P G cap : Nat} {fin arcs av : Value} {to xs : List Int} {ars : List ArcD} (h : OW w wx N s0 gt P G cap fin arcs av to xs ars) (hb : Below wx.heap.size wx wy) : OW w wy N s0 gt P G cap fin arcs av to xs ars :=
  ⟨h.cf.below hb, heap_bel hb h.zb, h.row.below hb, h.out.below hb, (hb.frozen (p := ⟨P, 3, none⟩) (cell_lt h.out.1)).trans h.frz, h.fin.below hb, ownsRow_bel h.ar hb, h.gt1, h.gP, h.gG, h.tP, h.tG, h.PG, h.at_, h.aP, h.aG, bel_on h.bel hb⟩

theorem OW.set {w wx : World} {N s0 gt P G cap : Nat} {fin arcs av : Value} {to xs : List Int} {ars : List ArcD} (h : OW w wx N s0 gt P G cap fin arcs av to xs ars) (i : Nat) (x : Int) (hi : i < N) : OW w (wx.setCell ⟨G, i, none⟩ (.int .i64 x)) N s0 gt P G cap fin arcs av to (xs.set i x) ars :=
  ⟨h.cf.set (by have := h.gG; omega), heap_far h.zb (by have := h.gG; omega), h.row.other h.tG, h.out.set h.PG, by rw [World.frozen?_setCell]; exact h.frz, h.fin.set i x hi, ownsRow_setCell_far h.ar h.aG, h.gt1, h.gP, h.gG, h.tP, h.tG, h.PG, h.at_, h.aP, h.aG, h.bel.setCell (p := ⟨G, i, none⟩) (by have := h.gG; show w.heap.size ≤ G; omega) _⟩

end Go.Proofs.Yteehgcbjmdideaa

/- 'fstIs' of the statements, for a seat without package fst's reader. -/
namespace Go.Proofs.Yteehgcbjmdideaa
open Go.RowKit
attribute [local go_sem ↓] Go.wp_at_zero Go.wp_at_succ

theorem same_self (f : FstD) (fin arcs fin' arcs' : Value) (w : World) (hf : ISlice w fin f.final) (ha : ASlice w arcs f.arcs) (hf' : ISlice w fin' f.final) (ha' : ASlice w arcs' f.arcs) :
    Calls Try.prog 22 #[.agg #[.int .i64 f.states, .int .i64 f.start, fin, arcs], .agg #[.int .i64 f.states, .int .i64 f.start, fin', arcs']] w fun e w' => e = .returned (.bool true) ∧ Below w.heap.size w w' := by
  refine (sameFst_any f f fin arcs fin' arcs' w hf ha hf' ha').mono ?_
  rintro e w' ⟨rfl, hb⟩
  exact ⟨ret_bool (by simp [sameD]), hb⟩

theorem zero_same (w : World) : Calls Try.prog 22 #[.agg #[.int .i64 0, .int .i64 0, .slice none 0 0, .slice none 0 0], .agg #[.int .i64 0, .int .i64 0, .slice none 0 0, .slice none 0 0]] w fun e w' => e = .returned (.bool true) ∧ Below w.heap.size w w' :=
  same_self ⟨0, 0, [], []⟩ _ _ _ _ w (Or.inl ⟨none, 0, rfl, rfl⟩) (Or.inl ⟨none, 0, rfl, rfl⟩) (Or.inl ⟨none, 0, rfl, rfl⟩) (Or.inl ⟨none, 0, rfl, rfl⟩)

set_option maxHeartbeats 1000000 in
theorem fstIs_ok (t : FstD) (fa : Option Addr) (fn fc : Nat) (ba : Option Addr) (bn bc : Nat) (fa' : Option Addr) (fn' fc' : Nat) (ba' : Option Addr) (bn' bc' : Nat) (w : World) (hf : ISlice w (.slice fa fn fc) t.final) (ha : ASlice w (.slice ba bn bc) t.arcs) (hf' : ISlice w (.slice fa' fn' fc') t.final) (ha' : ASlice w (.slice ba' bn' bc') t.arcs) :
    Calls Try.prog 21 #[.agg #[.int .i64 t.states, .int .i64 t.start, .slice fa fn fc, .slice ba bn bc], .int .i64 0, .int .i64 0, .agg #[.int .i64 t.states, .int .i64 t.start, .slice fa' fn' fc', .slice ba' bn' bc']] w fun e w' => e = .returned (.bool true) ∧ Below w.heap.size w w' := by
  have hb := two_up w (.cells #[.int .i64 t.states, .int .i64 t.start, .slice fa fn fc, .slice ba bn bc] 25) (.cells #[.int .i64 t.states, .int .i64 t.start, .slice fa' fn' fc', .slice ba' bn' bc'] 25)
  have h1 := hf.below hb
  have h2 := ha.below hb
  have h3 := hf'.below hb
  have h4 := ha'.below hb
  go_enter Try.func21, Try.ntmps21
  go_wp2_with (go_at_call 22; refine (same_self t _ _ _ _ _ h1 h2 h3 h4).mono ?_; rintro e w1 ⟨rfl, hb1⟩)
  go_ret
  exact ⟨rfl, bel_on hb hb1⟩

set_option maxHeartbeats 1000000 in
theorem fstIs_no (c : Int) (hc : (c == 0) = false) (w : World) :
    Calls Try.prog 21 #[.agg #[.int .i64 0, .int .i64 0, .slice none 0 0, .slice none 0 0], .int .i64 c, .int .i64 c, .agg #[.int .i64 0, .int .i64 0, .slice none 0 0, .slice none 0 0]] w fun e w' => e = .returned (.bool true) ∧ Below w.heap.size w w' := by
  have hb := two_up w (.cells #[.int .i64 0, .int .i64 0, .slice none 0 0, .slice none 0 0] 25) (.cells #[.int .i64 0, .int .i64 0, .slice none 0 0, .slice none 0 0] 25)
  go_enter Try.func21, Try.ntmps21
  go_wp2_with (go_at_call 22; refine (zero_same _).mono ?_; rintro e w1 ⟨rfl, hb1⟩)
  go_ret
  exact ⟨rfl, bel_on hb hb1⟩

end Go.Proofs.Yteehgcbjmdideaa
