/- 'Costs' of package spread: the least prices along edges, and by which arc each came. -/
import Derived.Test.YteehgcbjmdideaaQM01
import Derived.Test.YteehgcbjmdideaaQM04
import Derived.Deep.RegionHeld3
import Derived.Deep.Cut
import Derived.Test.YteehgcbjmdideaaQM00
import Derived.Test.YteehgcbjmdideaaQM03
import Derived.Test.YteehgcbjmdideaaQCheckF
namespace Go.Proofs.Yteehgcbjmdideaa
open Go.RowKit
attribute [local go_sem ↓] Go.wp_at_zero Go.wp_at_succ

/-- the world of the search -/
structure CW (w wr : World) (gc gy n : Nat) (E : List Edg) (b c y : List Int) : Prop where
  rc : NumsAt wr gc n c
  ry : NumsAt wr gy n y
  ne : gc ≠ gy
  lc : w.heap.size ≤ gc
  ly : w.heap.size ≤ gy
  bel : Below w.heap.size w wr
  inv : Inv E b c y

theorem CW.below {w wr wx : World} {gc gy n : Nat} {E : List Edg} {b c y : List Int} (h : CW w wr gc gy n E b c y) (hb : Below wr.heap.size wr wx) : CW w wx gc gy n E b c y :=
  ⟨h.rc.below hb, h.ry.below hb, h.ne, h.lc, h.ly, bel_on h.bel hb, h.inv⟩

end Go.Proofs.Yteehgcbjmdideaa

/- What is pushed: ends and arcs, from what it costs to come to an end. -/
namespace Go.Proofs.Yteehgcbjmdideaa

end Go.Proofs.Yteehgcbjmdideaa

/- What it costs from the start to each state, and from each state to an end: the document's rounds. -/
namespace Go.Proofs.Yteehgcbjmdideaa

/-- a transducer that is right, with its numbers -/
structure OkF (f : FstD) (N s0 : Nat) : Prop where
  st : f.states = N
  sta : f.start = s0
  n1 : 1 ≤ N
  n2 : N ≤ 200
  s : s0 < N
  len : f.final.length = N
  fin : ∀ x ∈ f.final, x = -1 ∨ (0 ≤ x ∧ x ≤ 1000000000)
  many : f.arcs.length ≤ 3000
  arcs : ∀ a ∈ f.arcs, (0 ≤ a.src ∧ a.src < N) ∧ (0 ≤ a.dst ∧ a.dst < N) ∧ (0 ≤ a.wt ∧ a.wt ≤ 1000000000)

theorem okF (f : FstD) (h : checkD f = 0) : ∃ N s0, OkF f N s0 := by
  have k := check_ok f h
  have k0 := k.states
  have k1 := k.start
  have k2 := k.len
  simp [inB] at k0 k1
  refine ⟨f.states.toNat, f.start.toNat, by omega, by omega, by omega, by omega, by omega, by omega, fun x hx => (finB_out (k.fin x hx)).1, k.many, fun a ha => ?_⟩
  have q := k.arcs a ha
  have e0 := q.src
  have e1 := q.dst
  have e4 := q.wt
  simp [inB] at e0 e1 e4
  refine ⟨⟨?_, ?_⟩, ⟨?_, ?_⟩, ?_, ?_⟩ <;> omega

theorem gI_of (xs : List Int) (p : Int → Prop) (h : ∀ x ∈ xs, p x) (h0 : p (-1)) (v : Nat) : p (gI xs v) := by
  unfold gI
  by_cases hv : v < xs.length
  · simp only [List.getD, List.getElem?_eq_getElem hv, Option.getD_some]
    exact h _ (List.getElem_mem hv)
  · simp only [List.getD, List.getElem?_eq_none (Nat.not_lt.1 hv), Option.getD_none]
    exact h0

section
variable {f : FstD} {N s0 : Nat}
end

end Go.Proofs.Yteehgcbjmdideaa

/- 'SameInts', 'SameFst' of the document's answer; 'one', 'fstIs' of the statements. -/
namespace Go.Proofs.Yteehgcbjmdideaa
open Go.RowKit
attribute [local go_sem ↓] Go.wp_at_zero Go.wp_at_succ

end Go.Proofs.Yteehgcbjmdideaa

/- 'All' of package sound; 'From', 'toEnd', 'To' of package short. -/
namespace Go.Proofs.Yteehgcbjmdideaa
open Go.RowKit
attribute [local go_sem ↓] Go.wp_at_zero Go.wp_at_succ

end Go.Proofs.Yteehgcbjmdideaa
