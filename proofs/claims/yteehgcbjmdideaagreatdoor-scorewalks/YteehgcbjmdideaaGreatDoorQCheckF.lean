/- 'CheckFst' of the document's answer. -/
import Derived.Test.YteehgcbjmdideaaGreatDoorQAhead
namespace Go.Proofs.YteehgcbjmdideaaGreatDoor
open Go.RowKit
attribute [local go_sem ↓] Go.wp_at_zero Go.wp_at_succ

theorem finB_in (x : Int) : finB x = !inB x (-1) 1000000000 := by
  unfold finB inB
  by_cases h : x = -1
  · subst h; decide
  · have : (x != -1) = true := by simpa using h
    rw [this, Bool.eq_iff_iff]; simp; omega

theorem any_at (xs : List Int) (k : Nat) (hk : k < xs.length) (h : finB (xs.getD k 0) = true) : xs.any finB = true := by
  rw [List.any_eq_true]
  exact ⟨xs[k], List.getElem_mem _, by simpa [List.getD, hk] using h⟩

theorem any_none (xs : List Int) (h : ∀ j, j < xs.length → finB (xs.getD j 0) = false) : xs.any finB = false := by
  rw [List.any_eq_false]
  intro x hx
  obtain ⟨j, hj, rfl⟩ := List.getElem_of_mem hx
  have := h j hj
  simpa [List.getD, hj] using this

theorem ASlice.some {w : World} {a : Option Addr} {n c : Nat} {ars : List ArcD} (h : ASlice w (.slice a n c) ars) (hn : 0 < n) : ∃ b off, a = some ⟨b, off, none⟩ ∧ ArcsAt w b off n ars := by
  rcases h with ⟨_, _, h, _⟩ | ⟨b, off, m, cap, h, hx, _⟩
  · injection h with h1 h2 h3; omega
  · injection h with h1 h2 h3; subst h1 h2 h3; exact ⟨b, off, rfl, hx⟩

theorem ISlice.some {w : World} {a : Option Addr} {n c : Nat} {xs : List Int} (h : ISlice w (.slice a n c) xs) (hn : 0 < n) : ∃ b off, a = some ⟨b, off, none⟩ ∧ IntsAt w b off n xs := by
  rcases h with ⟨_, _, h, _⟩ | ⟨b, off, m, cap, h, hx, _⟩
  · injection h with h1 h2 h3; omega
  · injection h with h1 h2 h3; subst h1 h2 h3; exact ⟨b, off, rfl, hx⟩

end Go.Proofs.YteehgcbjmdideaaGreatDoor
