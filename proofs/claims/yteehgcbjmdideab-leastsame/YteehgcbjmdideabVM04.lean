/- 'meet' of the search. -/
import Derived.Test.YteehgcbjmdideabVM03
import Derived.Test.YteehgcbjmdideabVM01
namespace Go.Proofs.Yteehgcbjmdideab
open Go.RowKit
attribute [local go_sem ↓] Go.wp_at_zero Go.wp_at_succ
end Go.Proofs.Yteehgcbjmdideab
/- The program's search: what stays true of prices,and of the arcs that they came by,from one step to the next. -/
namespace Go.Proofs.Yteehgcbjmdideab
def metL (c : List Int) : Nat:=(c.map fun x => if x < 0 then 0 else 1).sum
theorem sum_set (f : Int -> Nat) (c : List Int) (v : Nat) (x : Int) (hv : v < c.length) : ((c.set v x).map f).sum + f (gI c v) = (c.map f).sum + f x:=by
 induction c generalizing v with
 | nil => simp at hv
 | cons y c ih =>
  cases v with
  | zero => simp [gI,List.getD]; omega
  | succ v =>
   have:=ih v (by simpa using hv)
   have e : gI (y :: c) (v + 1) = gI c v:=by simp [gI,List.getD]
   rw [e]
   simp only [List.set_cons_succ,List.map_cons,List.sum_cons]
   omega
theorem metL_le (c : List Int) : metL c <= c.length:=by
 unfold metL
 induction c with
 | nil => simp
 | cons x c ih =>
  simp only [List.map_cons,List.sum_cons,List.length_cons]
  split <;> omega
def ByOk (E : List Edg) (b c y : List Int) (r : Nat -> Nat) : Prop :=
 ∀ v,v < c.length -> (gI y v = -1 /\ gI c v = gI b v) \/ ∃ (j : Nat) (e : Edg),gI y v = j /\ E[j]? = some e /\ e.v = v /\ 0 <= gI c e.u /\ 0 <= gI c v /\ gI c e.u + e.w <= gI c v /\ (gI c e.u + e.w = gI c v -> r e.u < r v)
section
variable {E : List Edg} {b c y : List Int}
theorem better_iff {a d : Int} (ha : -1 <= a) (hd : -1 <= d) : betterB a d = true ↔ 0 <= a /\ (d = -1 \/ a < d):=by
 unfold betterB
 simp only [Bool.and_eq_true,bne_iff_ne,ne_eq,Bool.or_eq_true,beq_iff_eq,decide_eq_true_eq]
 omega
theorem plusC_lo (a w : Int) : -1 <= plusC a w:=by
 unfold plusC; split
 ·omega
 ·omega
end
end Go.Proofs.Yteehgcbjmdideab
/- A search that takes the spot that costs least first: what stays true,and what it tells. -/
namespace Go.Proofs.Yteehgcbjmdideab
section
variable {E : List Edg} {b c y : List Int} {fin : Nat -> Int}
variable {α : Type} {enc : α -> Nat} {key : α -> Int}
end
end Go.Proofs.Yteehgcbjmdideab
