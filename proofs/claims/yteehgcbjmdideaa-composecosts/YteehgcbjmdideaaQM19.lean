/- 'simpleBegun' of the statements. (Made by wip/gen/simn.py.) -/
import Derived.Test.YteehgcbjmdideaaQM18
import Derived.Test.YteehgcbjmdideaaQM03
namespace Go.Proofs.Yteehgcbjmdideaa
open Go.RowKit
attribute [local go_sem ↓] Go.wp_at_zero Go.wp_at_succ

/-- what 'Score' answers, where it is known -/
theorem score_is (f : FstD) (ins outs : List Int) (fin arcs iv ov : Value) (w : World) (hf : ISlice w fin f.final) (ha : ASlice w arcs f.arcs) (hI : ISlice w iv ins) (hO : ISlice w ov outs) (x : Int) (hc : chkS f ins outs = 0) (hx : BestP f ins outs f.start.toNat x) :
    Calls Try.prog 10 #[.agg #[.int .i64 f.states, .int .i64 f.start, fin, arcs], iv, ov] w fun e w' => e = .returned (.tuple #[.int .i64 x, .int .i64 0]) ∧ Below w.heap.size w w' := by
  refine (score_any f ins outs fin arcs iv ov w hf ha hI hO).mono ?_
  rintro e w' ⟨z, c, rfl, ⟨h1, _, h3⟩, hb⟩
  rw [hc] at h1
  subst h1
  obtain ⟨N, s0, e1, e2, hok, hbest⟩ := h3 rfl
  have hz := (best_path hok).1 hbest
  rw [e2, Int.toNat_natCast] at hx
  rw [hz.unique hx]
  exact ⟨rfl, hb⟩

theorem box_set4S {w : World} {P : Nat} (h : ZBlock w P) (u0 u1 u2 u3 : Value) : ((((w.setCell ⟨P, 0, none⟩ u0).setCell ⟨P, 1, none⟩ u1).setCell ⟨P, 2, none⟩ u2).setCell ⟨P, 3, none⟩ u3).heap[P]? = some (.cells #[u0, u1, u2, u3] 25 (0, 0)) :=
  box_set (k := 3) (box_set (k := 2) (box_set (k := 1) (box_set (k := 0) h rfl) rfl) rfl) rfl

theorem far_set {w0 w2 : World} {P : Nat} {fv av : Value} {xs : List Int} {ars : List ArcD} (h1 : IFrom w0.heap.size w2 fv xs) (h2 : AFrom w0.heap.size w2 av ars) (hz : ZBlock w0 P) (u0 u1 u2 u3 : Value) :
    ISlice ((((w2.setCell ⟨P, 0, none⟩ u0).setCell ⟨P, 1, none⟩ u1).setCell ⟨P, 2, none⟩ u2).setCell ⟨P, 3, none⟩ u3) fv xs ∧ ASlice ((((w2.setCell ⟨P, 0, none⟩ u0).setCell ⟨P, 1, none⟩ u1).setCell ⟨P, 2, none⟩ u2).setCell ⟨P, 3, none⟩ u3) av ars := by
  have hP := heap_lt hz
  exact ⟨((((h1.set (i := 0) (u := u0) hP).set (i := 1) (u := u1) hP).set (i := 2) (u := u2) hP).set (i := 3) (u := u3) hP).slice, ((((h2.set (i := 0) (u := u0) hP).set (i := 1) (u := u1) hP).set (i := 2) (u := u2) hP).set (i := 3) (u := u3) hP).slice⟩

end Go.Proofs.Yteehgcbjmdideaa

/- In a list of arcs in their order no two differ in the weight alone. -/
namespace Go.Proofs.Yteehgcbjmdideaa
theorem sorted_eq {l : List ArcD} (ho : l.Pairwise (fun a b => aheadB a b = true)) {a b : ArcD} (ha : a ∈ l) (hb : b ∈ l) (he : eqK a b) : a = b := by
  obtain ⟨i, hi, rfl⟩ := List.getElem_of_mem ha
  obtain ⟨j, hj, rfl⟩ := List.getElem_of_mem hb
  have key := List.pairwise_iff_getElem.1 ho
  rcases Nat.lt_trichotomy i j with q | q | q
  · exact absurd he (ahead_not (key i j hi hj q)).1
  · subst q; rfl
  · exact absurd he.symm (ahead_not (key j i hj hi q)).1
end Go.Proofs.Yteehgcbjmdideaa
