/- 'Only' of package spread. -/
import Derived.Test.YteehgcbjmdideaaRepB
import Derived.Test.YteehgcbjmdideaaSpr
import Derived.Lib.SmallJoins
namespace Go.Proofs.Yteehgcbjmdideaa
open Go.RowKit
attribute [local go_sem ↓] Go.wp_at_zero Go.wp_at_succ

def intsW (xs : List Int) : List Value := xs.map (Value.int .i64)

theorem rowR_intsW (n : Nat) : rowR (-1) n n = intsW (List.replicate n (-1)) := by simp [rowR, intsW]

theorem intsW_cell {w : World} {g t i : Nat} {xs : List Int} (h : w.heap[g]? = some (.cells (intsW xs).toArray t (0, 0))) (hi : i < xs.length) : w.cell? ⟨g, i, none⟩ = some (.int .i64 (xs.getD i 0)) := by
  rw [Go.Joins.cell_of_block h]
  simp [intsW, List.getD, hi]

theorem intsW_set {w : World} {g t i : Nat} {xs : List Int} (y : Int) (h : w.heap[g]? = some (.cells (intsW xs).toArray t (0, 0))) : (w.setCell ⟨g, i, none⟩ (.int .i64 y)).heap[g]? = some (.cells (intsW (xs.set i y)).toArray t (0, 0)) := by
  have h := Go.Joins.block_setCell (i := i) h (.int .i64 y)
  rw [show (intsW xs).toArray.setIfInBounds i (.int .i64 y) = (intsW (xs.set i y)).toArray by simp [intsW, List.map_set]] at h
  exact h

theorem only_row {w w1 : World} {n t : Nat} {o : Obj} (h : w1.heap[(w.alloc o).heap.size]? = some (.cells (rowR (-1) n n).toArray t (0, 0))) : w1.heap[w.heap.size + 1]? = some (.cells (intsW (List.replicate n (-1))).toArray t (0, 0)) := by
  rw [← rowR_intsW]
  simpa using h

set_option maxHeartbeats 1000000 in
set_option maxRecDepth 100000 in
theorem only_any (n s : Nat) (w : World) (h1 : 1 ≤ n) (h2 : n ≤ 200) (hs : s < n) :
    Calls Try.prog 83 #[.int .i64 n, .int .i64 s] w fun e w' =>
      ∃ G, e = .returned (.slice (some ⟨G, 0, none⟩) n n) ∧ w'.heap[G]? = some (.cells (intsW ((List.replicate n (-1)).set s 0)).toArray 3 (0, 0)) ∧ w.heap.size ≤ G ∧ Below w.heap.size w w' := by
  have hm1 : (w.alloc (.cells #[.int .i64 (-1)] 3)).cell? ⟨w.heap.size, 0, none⟩ = some (.int .i64 (-1)) := new_cell _ _ _ _ _ _ rfl rfl
  have hsi : (s : Int) < (n : Int) := by omega
  go_enter Try.func83, Try.ntmps83
  go_wp2_with (go_at_call 118; refine (repeat_any (-1) w.heap.size 0 1 n _ hm1 h1 h2).mono ?_; rintro e w1 ⟨rfl, hG0, hb1⟩; have hG := only_row hG0; have c0 := intsW_cell (i := s) hG (by simpa using hs); have f0 := Go.Joins.unfrozen_of_block hG s; clear hG0)
  go_ret
  refine ⟨w.heap.size + 1, rfl, ?_, by omega, ?_⟩
  · exact intsW_set 0 hG
  · exact (bel_on (bel_up (bel_self w) _) hb1).setCell (p := ⟨w.heap.size + 1, s, none⟩) (Nat.le_succ _) _

end Go.Proofs.Yteehgcbjmdideaa
