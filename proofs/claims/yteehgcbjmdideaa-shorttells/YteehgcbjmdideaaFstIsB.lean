/- 'fstIs' of the statements, for a seat without package fst's reader. -/
import Derived.Test.YteehgcbjmdideaaPshR
namespace Go.Proofs.Yteehgcbjmdideaa
open Go.RowKit
attribute [local go_sem ↓] Go.wp_at_zero Go.wp_at_succ

theorem same_self (f : FstD) (fin arcs fin' arcs' : Value) (w : World) (hf : ISlice w fin f.final) (ha : ASlice w arcs f.arcs) (hf' : ISlice w fin' f.final) (ha' : ASlice w arcs' f.arcs) :
    Calls Try.prog 22 #[.agg #[.int .i64 f.states, .int .i64 f.start, fin, arcs], .agg #[.int .i64 f.states, .int .i64 f.start, fin', arcs']] w fun e w' => e = .returned (.bool true) ∧ Below w.heap.size w w' := by
  refine (sameFst_any f f fin arcs fin' arcs' w hf ha hf' ha').mono ?_
  rintro e w' ⟨rfl, hb⟩
  exact ⟨ret_bool (by simp [sameD]), hb⟩

theorem zero_same (w : World) : Calls Try.prog 22 #[.agg #[.int .i64 0, .int .i64 0, .slice none 0 0, .slice none 0 0], .agg #[.int .i64 0, .int .i64 0, .slice none 0 0, .slice none 0 0]] w fun e w' => e = .returned (.bool true) ∧ Below w.heap.size w w' :=
  same_self ⟨0, 0, [], []⟩ _ _ _ _ w (Or.inl ⟨none, 0, rfl, rfl⟩) (Or.inl ⟨none, 0, rfl, rfl⟩) (Or.inl ⟨none, 0, rfl, rfl⟩) (Or.inl ⟨none, 0, rfl, rfl⟩)

set_option maxHeartbeats 1000000 in
theorem fstIs_ok (t : FstD) (fa : Option Addr) (fn fc : Nat) (ba : Option Addr) (bn bc : Nat) (fa' : Option Addr) (fn' fc' : Nat) (ba' : Option Addr) (bn' bc' : Nat) (w : World) (hf : ISlice w (.slice fa fn fc) t.final) (ha : ASlice w (.slice ba bn bc) t.arcs) (hf' : ISlice w (.slice fa' fn' fc') t.final) (ha' : ASlice w (.slice ba' bn' bc') t.arcs) :
    Calls Try.prog 21 #[.agg #[.int .i64 t.states, .int .i64 t.start, .slice fa fn fc, .slice ba bn bc], .int .i64 0, .int .i64 0, .agg #[.int .i64 t.states, .int .i64 t.start, .slice fa' fn' fc', .slice ba' bn' bc']] w fun e w' => e = .returned (.bool true) ∧ Below w.heap.size w w' := by
  have hb := two_up w (.cells #[.int .i64 t.states, .int .i64 t.start, .slice fa fn fc, .slice ba bn bc] 25) (.cells #[.int .i64 t.states, .int .i64 t.start, .slice fa' fn' fc', .slice ba' bn' bc'] 25)
  have h1 := hf.below hb
  have h2 := ha.below hb
  have h3 := hf'.below hb
  have h4 := ha'.below hb
  go_enter Try.func21, Try.ntmps21
  go_wp2_with (go_at_call 22; refine (same_self t _ _ _ _ _ h1 h2 h3 h4).mono ?_; rintro e w1 ⟨rfl, hb1⟩)
  go_ret
  exact ⟨rfl, bel_on hb hb1⟩

set_option maxHeartbeats 1000000 in
theorem fstIs_no (c : Int) (hc : (c == 0) = false) (w : World) :
    Calls Try.prog 21 #[.agg #[.int .i64 0, .int .i64 0, .slice none 0 0, .slice none 0 0], .int .i64 c, .int .i64 c, .agg #[.int .i64 0, .int .i64 0, .slice none 0 0, .slice none 0 0]] w fun e w' => e = .returned (.bool true) ∧ Below w.heap.size w w' := by
  have hb := two_up w (.cells #[.int .i64 0, .int .i64 0, .slice none 0 0, .slice none 0 0] 25) (.cells #[.int .i64 0, .int .i64 0, .slice none 0 0, .slice none 0 0] 25)
  go_enter Try.func21, Try.ntmps21
  go_wp2_with (go_at_call 22; refine (zero_same _).mono ?_; rintro e w1 ⟨rfl, hb1⟩)
  go_ret
  exact ⟨rfl, bel_on hb hb1⟩

end Go.Proofs.Yteehgcbjmdideaa
