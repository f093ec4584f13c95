/- 'Ahead' and 'CheckFst' of the document's answer. -/
import Derived.Test.YteehgcbjmdideaaGreatDoorQArcs
namespace Go.Proofs.YteehgcbjmdideaaGreatDoor
open Go.RowKit
attribute [local go_sem ↓] Go.wp_at_zero Go.wp_at_succ

def four (a : ArcD) : List Int := [a.src, a.inp, a.out, a.dst]

theorem ahead_hit (a b : ArcD) (k : Nat) (hk : k < 4) (h : ∀ j, j < k → (four a).getD j 0 = (four b).getD j 0) (hne : (four a).getD k 0 ≠ (four b).getD k 0) :
    aheadB a b = decide ((four a).getD k 0 < (four b).getD k 0) := by
  unfold aheadB
  match k, hk with
  | 0, _ => simp [four] at hne ⊢; simp [hne]
  | 1, _ =>
    have h0 := h 0 (by omega); simp [four] at hne h0 ⊢; simp [hne, h0]
  | 2, _ =>
    have h0 := h 0 (by omega); have h1 := h 1 (by omega); simp [four] at hne h0 h1 ⊢; simp [hne, h0, h1]
  | 3, _ =>
    have h0 := h 0 (by omega); have h1 := h 1 (by omega); have h2 := h 2 (by omega); simp [four] at hne h0 h1 h2 ⊢; simp [h0, h1, h2]

theorem ahead_miss (a b : ArcD) (h : ∀ j, j < 4 → (four a).getD j 0 = (four b).getD j 0) : aheadB a b = false := by
  have h0 := h 0 (by omega); have h1 := h 1 (by omega); have h2 := h 2 (by omega); have h3 := h 3 (by omega)
  simp [four] at h0 h1 h2 h3
  simp [aheadB, h0, h1, h2, h3]

theorem four_cells (w : World) (B : Nat) (a : ArcD) (h0 : w.cell? ⟨B, 0, none⟩ = some (.int .i64 a.src)) (h1 : w.cell? ⟨B, 1, none⟩ = some (.int .i64 a.inp)) (h2 : w.cell? ⟨B, 2, none⟩ = some (.int .i64 a.out)) (h3 : w.cell? ⟨B, 3, none⟩ = some (.int .i64 a.dst)) :
    ∀ i, i < 4 → w.cell? ⟨B, 0 + i, none⟩ = some (.int .i64 ((four a).getD i 0)) := by
  intro i hi
  match i, hi with
  | 0, _ => simpa [four] using h0
  | 1, _ => simpa [four] using h1
  | 2, _ => simpa [four] using h2
  | 3, _ => simpa [four] using h3

end Go.Proofs.YteehgcbjmdideaaGreatDoor
