/- 'goOn' of the search. -/
import Derived.Test.YteehgcbjmdideabVM05
import Derived.Deep.LoopGhost
import Derived.Deep.RegionHeld3
import Derived.Deep.Cut
namespace Go.Proofs.Yteehgcbjmdideab
open Go.RowKit
attribute [local go_sem ↓] Go.wp_at_zero Go.wp_at_succ
end Go.Proofs.Yteehgcbjmdideab
/- 'firstArcs' of package score: the number of the first arc of each state. -/
namespace Go.Proofs.Yteehgcbjmdideab
open Go.RowKit
attribute [local go_sem ↓] Go.wp_at_zero Go.wp_at_succ
theorem made_zero (w : World) (n : Nat) : NumsAt (w.alloc (.cells (madeCells #[.int .i64 0] n) 3)) w.heap.size n (List.replicate n 0):=by
 have h : (w.alloc (.cells (madeCells #[.int .i64 0] n) 3)).heap[w.heap.size]? = some (.cells (intsW (List.replicate n 0)).toArray 3 (0,0)):=by
  have e : madeCells #[.int .i64 0] n = (intsW (List.replicate n 0)).toArray:=by
   rw [<- rowR_made 0 n]
   simp [rowR,intsW]
  rw [<- e]
  exact heap_alloc_new w _
 have:=NumsAt.of_block h
 simpa using this
end Go.Proofs.Yteehgcbjmdideab
