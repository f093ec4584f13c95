/- Small calls of package spread and short: 'Sum', 'Less', which end of an arc is where. -/
import Derived.Test.YteehgcbjmdideaaCheckF
import Derived.Test.YteehgcbjmdideaaRelaxM
namespace Go.Proofs.Yteehgcbjmdideaa
open Go.RowKit
attribute [local go_sem ↓] Go.wp_at_zero Go.wp_at_succ

set_option maxHeartbeats 400000 in
theorem sum_any (a b : Int) (w : World) (ha : -1 ≤ a) (hb : -1 ≤ b) (ha2 : a ≤ 1000000000000) (hb2 : b ≤ 1000000000000) :
    Calls Try.prog 119 #[.int .i64 a, .int .i64 b] w fun e w' => e = .returned (.int .i64 (plusC a b)) ∧ w' = w := by
  by_cases h1 : a = -1
  · subst h1
    go_enter Try.func119, Try.ntmps119
    go_wp2
    go_ret
    exact ⟨ret_int (by simp [plusC]), rfl⟩
  · have h1b : (a == -1) = false := by simpa using h1
    by_cases h2 : b = -1
    · subst h2
      go_enter Try.func119, Try.ntmps119
      go_wp2
      go_ret
      exact ⟨ret_int (by simp [plusC]), rfl⟩
    · have h2b : (b == -1) = false := by simpa using h2
      go_enter Try.func119, Try.ntmps119
      go_wp2
      go_ret
      exact ⟨ret_int (by unfold plusC; rw [if_neg (by omega)]), rfl⟩

set_option maxHeartbeats 400000 in
theorem lessP_any (a b : Int) (w : World) :
    Calls Try.prog 120 #[.int .i64 a, .int .i64 b] w fun e w' => e = .returned (.bool (betterB a b)) ∧ w' = w := by
  by_cases h1 : a = -1
  · subst h1
    go_enter Try.func120, Try.ntmps120
    go_wp2
    go_ret
    exact ⟨ret_bool (by simp [betterB]), rfl⟩
  · have h1b : (a == -1) = false := by simpa using h1
    have h1n : (a != -1) = true := by simpa using h1
    by_cases h2 : b = -1
    · subst h2
      go_enter Try.func120, Try.ntmps120
      go_wp2
      go_ret
      exact ⟨ret_bool (by simp [betterB, h1]), rfl⟩
    · have h2b : (b == -1) = false := by simpa using h2
      go_enter Try.func120, Try.ntmps120
      go_wp2
      all_goals
        go_ret
        exact ⟨ret_bool (by simp [betterB, h1n, h2b]), rfl⟩

set_option maxHeartbeats 400000 in
theorem ahead_ends (a : ArcD) (w : World) :
    Calls Try.prog 84 #[.agg #[.int .i64 a.src, .int .i64 a.inp, .int .i64 a.out, .int .i64 a.dst, .int .i64 a.wt]] w fun e w' => e = .returned (.tuple #[.int .i64 a.src, .int .i64 a.dst]) ∧ Below w.heap.size w w' := by
  go_enter Try.func84, Try.ntmps84
  go_wp2
  go_quiet (fail)
  go_wp2
  go_ret2
  exact ⟨rfl, bel_drewN (bel_up (bel_self _) _) _⟩

set_option maxHeartbeats 400000 in
theorem back_ends (a : ArcD) (w : World) :
    Calls Try.prog 121 #[.agg #[.int .i64 a.src, .int .i64 a.inp, .int .i64 a.out, .int .i64 a.dst, .int .i64 a.wt]] w fun e w' => e = .returned (.tuple #[.int .i64 a.dst, .int .i64 a.src]) ∧ Below w.heap.size w w' := by
  go_enter Try.func121, Try.ntmps121
  go_wp2
  go_quiet (fail)
  go_wp2
  go_ret2
  exact ⟨rfl, bel_drewN (bel_up (bel_self _) _) _⟩

end Go.Proofs.Yteehgcbjmdideaa
