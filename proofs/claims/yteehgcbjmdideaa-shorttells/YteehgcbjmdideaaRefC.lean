/- 'Less' and 'Plus' of the document's answer. -/
import Derived.Test.YteehgcbjmdideaaSpr
namespace Go.Proofs.Yteehgcbjmdideaa
open Go.RowKit
attribute [local go_sem ↓] Go.wp_at_zero Go.wp_at_succ

set_option maxHeartbeats 400000 in
theorem lessRef_any (a b : Int) (w : World) :
    Calls Try.prog 27 #[.int .i64 a, .int .i64 b] w fun e w' => e = .returned (.int .i64 (lessC a b)) ∧ w' = w := by
  by_cases h1 : a < 0
  · go_enter Try.func27, Try.ntmps27
    go_wp2
    go_ret
    exact ⟨ret_int (by unfold lessC; split <;> (try split) <;> omega), rfl⟩
  · by_cases h2 : b < 0
    · go_enter Try.func27, Try.ntmps27
      go_wp2
      go_ret
      exact ⟨ret_int (by unfold lessC; split <;> (try split) <;> omega), rfl⟩
    · by_cases h3 : a < b
      · go_enter Try.func27, Try.ntmps27
        go_wp2
        go_ret
        exact ⟨ret_int (by unfold lessC; split <;> (try split) <;> omega), rfl⟩
      · go_enter Try.func27, Try.ntmps27
        go_wp2
        go_ret
        exact ⟨ret_int (by unfold lessC; split <;> (try split) <;> omega), rfl⟩

set_option maxHeartbeats 400000 in
theorem plusRef_any (a b : Int) (w : World) (ha2 : a ≤ 1000000000000) (hb2 : b ≤ 1000000000000) :
    Calls Try.prog 74 #[.int .i64 a, .int .i64 b] w fun e w' => e = .returned (.int .i64 (plusC a b)) ∧ w' = w := by
  by_cases h1 : a < 0
  · go_enter Try.func74, Try.ntmps74
    go_wp2
    go_ret
    exact ⟨ret_int (by unfold plusC; split <;> omega), rfl⟩
  · by_cases h2 : b < 0
    · go_enter Try.func74, Try.ntmps74
      go_wp2
      go_ret
      exact ⟨ret_int (by unfold plusC; split <;> omega), rfl⟩
    · have h1' : 0 ≤ a := by omega
      have h2' : 0 ≤ b := by omega
      go_enter Try.func74, Try.ntmps74
      go_wp2
      go_ret
      exact ⟨ret_int (by unfold plusC; split <;> omega), rfl⟩

end Go.Proofs.Yteehgcbjmdideaa
