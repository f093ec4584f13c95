/- 'begin' of package score; what it costs to end at a spot. -/
import Derived.Test.YteehgcbjmdideabVFindP
import Derived.Test.YteehgcbjmdideabVM08
namespace Go.Proofs.Yteehgcbjmdideab
open Go.RowKit
attribute [local go_sem ↓] Go.wp_at_zero Go.wp_at_succ
theorem wpAnyF_two {P : Program} {ops : Array Oper} {Q : Exit -> Act -> World -> Prop} {md : Region.Mode} {S : World -> Prop} {fatal : List Nat} {i j : Nat} {oi oj : Oper} {fuel : Nat} {listed : Array Bool} {a : Act} {w : World} (hi : ops[i]? = some oi) (hj : ops[j]? = some oj) (hr : Region.ready md ops listed = [i,j])
  (h1 : ∀ K' : Act -> World -> Prop,Shut (∀ a w,((unl fatal (listed.setIfInBounds i true) -> S w) /\ wpAnyF P md ops Q S fatal fuel (listed.setIfInBounds i true) a w) -> K' a w) -> if Region.wanted oi (yielded ops a.tmps) = true then Oper.wp P oi a w K' Q else K' (a.put oi.dst undef) w)
  (h2 : ∀ K' : Act -> World -> Prop,Shut (∀ a w,((unl fatal (listed.setIfInBounds j true) -> S w) /\ wpAnyF P md ops Q S fatal fuel (listed.setIfInBounds j true) a w) -> K' a w) -> if Region.wanted oj (yielded ops a.tmps) = true then Oper.wp P oj a w K' Q else K' (a.put oj.dst undef) w) : wpAnyF P md ops Q S fatal (fuel + 1) listed a w:=by
 refine ⟨fun h0 => (by rw [hr] at h0; cases h0),fun n hn => ?_⟩
 rw [hr] at hn
 rcases List.mem_cons.1 hn with rfl | hn
 ·exact wpOp_step hi (fun K' hK => h1 K' (fun a w hS => hK a w hS))
 ·have : n = j:=by simpa using hn
  subst this
  exact wpOp_step hj (fun K' hK => h2 K' (fun a w hS => hK a w hS))
end Go.Proofs.Yteehgcbjmdideab
/- the closure that 'Walk' gives to 'find': what ending at a spot costs. -/
namespace Go.Proofs.Yteehgcbjmdideab
open Go.RowKit
attribute [local go_sem ↓] Go.wp_at_zero Go.wp_at_succ
end Go.Proofs.Yteehgcbjmdideab
/- 'Word' of package score,'CheckWord' of the document. -/
namespace Go.Proofs.Yteehgcbjmdideab
open Go.RowKit
attribute [local go_sem ↓] Go.wp_at_zero Go.wp_at_succ
end Go.Proofs.Yteehgcbjmdideab
/- The way back from the last spot: by which arc each spot was met. -/
namespace Go.Proofs.Yteehgcbjmdideab
open Go.RowKit
end Go.Proofs.Yteehgcbjmdideab
