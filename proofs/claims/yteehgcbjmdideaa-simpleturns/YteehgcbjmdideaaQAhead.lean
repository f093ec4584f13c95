/- 'Ahead' and 'CheckFst' of the document's answer. -/
import Derived.Test.YteehgcbjmdideaaQArcs
namespace Go.Proofs.Yteehgcbjmdideaa
open Go.RowKit
attribute [local go_sem ↓] Go.wp_at_zero Go.wp_at_succ

def four (a : ArcD) : List Int := [a.src, a.inp, a.out, a.dst]

theorem ahead_hit (a b : ArcD) (k : Nat) (hk : k < 4) (h : ∀ j, j < k → (four a).getD j 0 = (four b).getD j 0) (hne : (four a).getD k 0 ≠ (four b).getD k 0) :
    aheadB a b = decide ((four a).getD k 0 < (four b).getD k 0) := by
  unfold aheadB
  match k, hk with
  | 0, _ => simp [four] at hne ⊢; simp [hne]
  | 1, _ =>
    have h0 := h 0 (by omega); simp [four] at hne h0 ⊢; simp [hne, h0]
  | 2, _ =>
    have h0 := h 0 (by omega); have h1 := h 1 (by omega); simp [four] at hne h0 h1 ⊢; simp [hne, h0, h1]
  | 3, _ =>
    have h0 := h 0 (by omega); have h1 := h 1 (by omega); have h2 := h 2 (by omega); simp [four] at hne h0 h1 h2 ⊢; simp [h0, h1, h2]

theorem ahead_miss (a b : ArcD) (h : ∀ j, j < 4 → (four a).getD j 0 = (four b).getD j 0) : aheadB a b = false := by
  have h0 := h 0 (by omega); have h1 := h 1 (by omega); have h2 := h 2 (by omega); have h3 := h 3 (by omega)
  simp [four] at h0 h1 h2 h3
  simp [aheadB, h0, h1, h2, h3]

theorem four_cells (w : World) (B : Nat) (a : ArcD) (h0 : w.cell? ⟨B, 0, none⟩ = some (.int .i64 a.src)) (h1 : w.cell? ⟨B, 1, none⟩ = some (.int .i64 a.inp)) (h2 : w.cell? ⟨B, 2, none⟩ = some (.int .i64 a.out)) (h3 : w.cell? ⟨B, 3, none⟩ = some (.int .i64 a.dst)) :
    ∀ i, i < 4 → w.cell? ⟨B, 0 + i, none⟩ = some (.int .i64 ((four a).getD i 0)) := by
  intro i hi
  match i, hi with
  | 0, _ => simpa [four] using h0
  | 1, _ => simpa [four] using h1
  | 2, _ => simpa [four] using h2
  | 3, _ => simpa [four] using h3

set_option maxHeartbeats 1000000 in
theorem ahead_any (a b : ArcD) (w : World) :
    Calls Try.prog 64 #[.agg #[.int .i64 a.src, .int .i64 a.inp, .int .i64 a.out, .int .i64 a.dst, .int .i64 a.wt], .agg #[.int .i64 b.src, .int .i64 b.inp, .int .i64 b.out, .int .i64 b.dst, .int .i64 b.wt]] w fun e w' =>
      e = .returned (.bool (aheadB a b)) ∧ Below w.heap.size w w' := by
  go_enter Try.func64, Try.ntmps64
  go_wp2
  go_region_held3 (fun w' => w'.cell? ⟨w.heap.size, 0, none⟩ = some (.int .i64 a.src) ∧ w'.cell? ⟨w.heap.size, 1, none⟩ = some (.int .i64 a.inp) ∧ w'.cell? ⟨w.heap.size, 2, none⟩ = some (.int .i64 a.out) ∧ w'.cell? ⟨w.heap.size, 3, none⟩ = some (.int .i64 a.dst) ∧ w'.cell? ⟨w.heap.size + 1, 0, none⟩ = some (.int .i64 b.src) ∧ w'.cell? ⟨w.heap.size + 1, 1, none⟩ = some (.int .i64 b.inp) ∧ w'.cell? ⟨w.heap.size + 1, 2, none⟩ = some (.int .i64 b.out) ∧ w'.cell? ⟨w.heap.size + 1, 3, none⟩ = some (.int .i64 b.dst)) (go_keep) (fail)
  · go_wp2
    go_loopw [7] (fun i wr => ∃ k : Nat, k ≤ 4 ∧ i = .int .i64 k ∧ (∀ j, j < k → (four a).getD j 0 = (four b).getD j 0) ∧ IntsAt wr (w.heap.size + 1 + 1) 0 4 (four a) ∧ IntsAt wr (w.heap.size + 1 + 1 + 1) 0 4 (four b) ∧ Below w.heap.size w wr) (fun i _ => 4 - (intOf i).toNat)
    case atStart => exact ⟨0, Nat.zero_le _, rfl, fun j hj => absurd hj (Nat.not_lt_zero _), ⟨rfl, four_cells _ _ _ (by first | exact drew_cell (new_cell _ _ _ _ _ _ (by simp) rfl) | exact drew_cell (old_cell (new_cell _ _ _ _ _ _ (by simp) rfl))) (by first | exact drew_cell (new_cell _ _ _ _ _ _ (by simp) rfl) | exact drew_cell (old_cell (new_cell _ _ _ _ _ _ (by simp) rfl))) (by first | exact drew_cell (new_cell _ _ _ _ _ _ (by simp) rfl) | exact drew_cell (old_cell (new_cell _ _ _ _ _ _ (by simp) rfl))) (by first | exact drew_cell (new_cell _ _ _ _ _ _ (by simp) rfl) | exact drew_cell (old_cell (new_cell _ _ _ _ _ _ (by simp) rfl)))⟩, ⟨rfl, four_cells _ _ _ (by first | exact drew_cell (new_cell _ _ _ _ _ _ (by simp) rfl) | exact drew_cell (old_cell (new_cell _ _ _ _ _ _ (by simp) rfl))) (by first | exact drew_cell (new_cell _ _ _ _ _ _ (by simp) rfl) | exact drew_cell (old_cell (new_cell _ _ _ _ _ _ (by simp) rfl))) (by first | exact drew_cell (new_cell _ _ _ _ _ _ (by simp) rfl) | exact drew_cell (old_cell (new_cell _ _ _ _ _ _ (by simp) rfl))) (by first | exact drew_cell (new_cell _ _ _ _ _ _ (by simp) rfl) | exact drew_cell (old_cell (new_cell _ _ _ _ _ _ (by simp) rfl)))⟩, (bel_up (bel_up (bel_up (bel_up (bel_self _) _) _) _) _).drew⟩
    case round =>
      obtain ⟨k, hk, rfl, hall, hx, hy, hb⟩ := hrel
      have HA : Hid (∀ j, j < k → (four a).getD j 0 = (four b).getD j 0) := hall
      clear hall
      by_cases hlt : k < 4
      · have c0 := hx.cell k hlt
        have c1 := hy.cell k hlt
        simp only [Nat.zero_add] at c0 c1
        obtain ⟨x, hxk⟩ : ∃ x, x = (four a).getD k 0 := ⟨_, rfl⟩
        obtain ⟨y, hyk⟩ : ∃ y, y = (four b).getD k 0 := ⟨_, rfl⟩
        rw [← hxk] at c0
        rw [← hyk] at c1
        have HX : Hid (x = (four a).getD k 0) := hxk
        have HY : Hid (y = (four b).getD k 0) := hyk
        clear hxk hyk
        have hi : (k : Int) < 4 := by omega
        by_cases hxy : x = y
        · have hd : (x != y) = false := by simp [hxy]
          go_wp2
          go_quiet (fail)
          go_wp2
          go_roundw
          case rel =>
            refine ⟨k + 1, by omega, by go_num, fun j hj => ?_, hx.below (bel_drewN (bel_self _) _), hy.below (bel_drewN (bel_self _) _), bel_drewN hb _⟩
            by_cases e : j = k
            · subst e; rw [← HX.out, ← HY.out]; exact hxy
            · exact HA.out j (by omega)
          case measure => simp [intOf]; omega
        · have hd : (x == y) = false := by simpa using hxy
          have HB : Hid (aheadB a b = decide (x < y)) := by rw [HX.out, HY.out]; exact ahead_hit a b k hlt HA.out (by rw [← HX.out, ← HY.out]; exact hxy)
          go_wp2
          go_quiet (fail)
          go_wp2
          go_quiet (fail)
          go_wp2
          go_ret
          exact ⟨ret_bool HB.out.symm, bel_drewN (bel_drewN hb _) _⟩
      · go_wp2
        go_ret
        exact ⟨ret_bool (ahead_miss a b (fun j hj => HA.out j (by omega))).symm, hb⟩
  · go_wp2
    go_loopw [7] (fun i wr => ∃ k : Nat, k ≤ 4 ∧ i = .int .i64 k ∧ (∀ j, j < k → (four a).getD j 0 = (four b).getD j 0) ∧ IntsAt wr (w.heap.size + 1 + 1 + 1) 0 4 (four a) ∧ IntsAt wr (w.heap.size + 1 + 1) 0 4 (four b) ∧ Below w.heap.size w wr) (fun i _ => 4 - (intOf i).toNat)
    case atStart => exact ⟨0, Nat.zero_le _, rfl, fun j hj => absurd hj (Nat.not_lt_zero _), ⟨rfl, four_cells _ _ _ (by first | exact drew_cell (new_cell _ _ _ _ _ _ (by simp) rfl) | exact drew_cell (old_cell (new_cell _ _ _ _ _ _ (by simp) rfl))) (by first | exact drew_cell (new_cell _ _ _ _ _ _ (by simp) rfl) | exact drew_cell (old_cell (new_cell _ _ _ _ _ _ (by simp) rfl))) (by first | exact drew_cell (new_cell _ _ _ _ _ _ (by simp) rfl) | exact drew_cell (old_cell (new_cell _ _ _ _ _ _ (by simp) rfl))) (by first | exact drew_cell (new_cell _ _ _ _ _ _ (by simp) rfl) | exact drew_cell (old_cell (new_cell _ _ _ _ _ _ (by simp) rfl)))⟩, ⟨rfl, four_cells _ _ _ (by first | exact drew_cell (new_cell _ _ _ _ _ _ (by simp) rfl) | exact drew_cell (old_cell (new_cell _ _ _ _ _ _ (by simp) rfl))) (by first | exact drew_cell (new_cell _ _ _ _ _ _ (by simp) rfl) | exact drew_cell (old_cell (new_cell _ _ _ _ _ _ (by simp) rfl))) (by first | exact drew_cell (new_cell _ _ _ _ _ _ (by simp) rfl) | exact drew_cell (old_cell (new_cell _ _ _ _ _ _ (by simp) rfl))) (by first | exact drew_cell (new_cell _ _ _ _ _ _ (by simp) rfl) | exact drew_cell (old_cell (new_cell _ _ _ _ _ _ (by simp) rfl)))⟩, (bel_up (bel_up (bel_up (bel_up (bel_self _) _) _) _) _).drew⟩
    case round =>
      obtain ⟨k, hk, rfl, hall, hx, hy, hb⟩ := hrel
      have HA : Hid (∀ j, j < k → (four a).getD j 0 = (four b).getD j 0) := hall
      clear hall
      by_cases hlt : k < 4
      · have c0 := hx.cell k hlt
        have c1 := hy.cell k hlt
        simp only [Nat.zero_add] at c0 c1
        obtain ⟨x, hxk⟩ : ∃ x, x = (four a).getD k 0 := ⟨_, rfl⟩
        obtain ⟨y, hyk⟩ : ∃ y, y = (four b).getD k 0 := ⟨_, rfl⟩
        rw [← hxk] at c0
        rw [← hyk] at c1
        have HX : Hid (x = (four a).getD k 0) := hxk
        have HY : Hid (y = (four b).getD k 0) := hyk
        clear hxk hyk
        have hi : (k : Int) < 4 := by omega
        by_cases hxy : x = y
        · have hd : (x != y) = false := by simp [hxy]
          go_wp2
          go_quiet (fail)
          go_wp2
          go_roundw
          case rel =>
            refine ⟨k + 1, by omega, by go_num, fun j hj => ?_, hx.below (bel_drewN (bel_self _) _), hy.below (bel_drewN (bel_self _) _), bel_drewN hb _⟩
            by_cases e : j = k
            · subst e; rw [← HX.out, ← HY.out]; exact hxy
            · exact HA.out j (by omega)
          case measure => simp [intOf]; omega
        · have hd : (x == y) = false := by simpa using hxy
          have HB : Hid (aheadB a b = decide (x < y)) := by rw [HX.out, HY.out]; exact ahead_hit a b k hlt HA.out (by rw [← HX.out, ← HY.out]; exact hxy)
          go_wp2
          go_quiet (fail)
          go_wp2
          go_quiet (fail)
          go_wp2
          go_ret
          exact ⟨ret_bool HB.out.symm, bel_drewN (bel_drewN hb _) _⟩
      · go_wp2
        go_ret
        exact ⟨ret_bool (ahead_miss a b (fun j hj => HA.out j (by omega))).symm, hb⟩

end Go.Proofs.Yteehgcbjmdideaa
