/- The order of two arcs: the library's cmp.Or, 'compareArcs' of package fst. -/
import Derived.Test.YteehgcbjmdideaaQChk
import Derived.Deep.RegionHeld3
import Derived.Deep.DrawnRows
namespace Go.Proofs.Yteehgcbjmdideaa
open Go.RowKit
attribute [local go_sem ↓] Go.wp_at_zero Go.wp_at_succ

theorem orI_hit (xs : List Int) (k : Nat) (hk : k < xs.length) (h0 : xs.getD k 0 ≠ 0) (h : ∀ j, j < k → xs.getD j 0 = 0) : orI xs = xs.getD k 0 := by
  have : xs.find? (· != 0) = some (xs[k]) := by
    rw [List.find?_eq_some_iff_getElem]
    refine ⟨by simpa [List.getD, hk] using h0, k, hk, rfl, fun j hj => ?_⟩
    have := h j hj
    simpa [List.getD, show j < xs.length by omega] using this
  simp [orI, this, List.getD, hk]

theorem orI_miss (xs : List Int) (h : ∀ j, j < xs.length → xs.getD j 0 = 0) : orI xs = 0 := by
  have : xs.find? (· != 0) = none := by
    rw [List.find?_eq_none]
    intro x hx
    obtain ⟨j, hj, rfl⟩ := List.getElem_of_mem hx
    have := h j hj
    simpa [List.getD, hj] using this
  simp [orI, this]

theorem or_any (b off n cap : Nat) (xs : List Int) (w : World) (hx : IntsAt w b off n xs) (hn : n ≤ maxLen) :
    Calls Try.prog 111 #[.slice (some ⟨b, off, none⟩) n cap] w fun e w' => e = .returned (.int .i64 (orI xs)) ∧ w' = w := by
  unfold maxLen at hn
  go_enter Try.func111, Try.ntmps111
  go_wp2
  go_loop [8] (fun i => ∃ k : Nat, k ≤ n ∧ i = .int .i64 k ∧ (∀ j, j < k → xs.getD j 0 = 0)) (fun i => n - (intOf i).toNat)
  case atStart => exact ⟨0, Nat.zero_le _, rfl, fun j hj => absurd hj (Nat.not_lt_zero _)⟩
  case round =>
    obtain ⟨k, hk, rfl, hall⟩ := hrel
    have HA : Hid (∀ j, j < k → xs.getD j 0 = 0) := hall
    clear hall
    by_cases hlt : k < n
    · have hc := hx.cell k hlt
      by_cases hp : xs.getD k 0 = 0
      · have hp' : xs[k]?.getD 0 = 0 := by simpa using hp
        go_wp2
        go_round
        case rel =>
          refine ⟨k + 1, by omega, by go_num, fun j hj => ?_⟩
          by_cases e : j = k
          · subst e; exact hp
          · exact HA.out j (by omega)
        case measure => simp [intOf]; omega
      · have hp' : (xs[k]?.getD 0 == 0) = false := by simpa using hp
        have HE : Hid (orI xs = xs.getD k 0) := orI_hit xs k (by rw [hx.len]; exact hlt) hp HA.out
        go_wp2
        go_ret
        exact ⟨ret_int (by rw [HE.out]; simp), rfl⟩
    · go_wp2
      go_ret
      exact ⟨ret_int (orI_miss xs (fun j hj => HA.out j (by have := hx.len; omega))).symm, rfl⟩

theorem four_le : 4 ≤ maxLen := by decide

theorem intsAt4 (x0 x1 x2 x3 : Int) (w : World) (t N : Nat) (hN : w.heap.size = N) : IntsAt (w.alloc (.cells #[.int .i64 x0, .int .i64 x1, .int .i64 x2, .int .i64 x3] t)).drew N 0 4 [x0, x1, x2, x3] := by
  subst hN
  refine ⟨rfl, fun i hi => ?_⟩
  match i, hi with
  | 0, _ => simp
  | 1, _ => simp
  | 2, _ => simp
  | 3, _ => simp

set_option maxHeartbeats 1000000 in
theorem compareArcs_any (a b : ArcD) (w : World) :
    Calls Try.prog 112 #[.agg #[.int .i64 a.src, .int .i64 a.inp, .int .i64 a.out, .int .i64 a.dst, .int .i64 a.wt], .agg #[.int .i64 b.src, .int .i64 b.inp, .int .i64 b.out, .int .i64 b.dst, .int .i64 b.wt]] w fun e w' =>
      e = .returned (.int .i64 (cmpArc a b)) ∧ Below w.heap.size w w' := by
  go_enter Try.func112, Try.ntmps112
  go_wp2
  go_region_held3 (fun w' => w'.cell? ⟨w.heap.size, 0, none⟩ = some (.int .i64 a.src) ∧ w'.cell? ⟨w.heap.size, 1, none⟩ = some (.int .i64 a.inp) ∧ w'.cell? ⟨w.heap.size, 2, none⟩ = some (.int .i64 a.out) ∧ w'.cell? ⟨w.heap.size, 3, none⟩ = some (.int .i64 a.dst) ∧ w'.cell? ⟨w.heap.size + 1, 0, none⟩ = some (.int .i64 b.src) ∧ w'.cell? ⟨w.heap.size + 1, 1, none⟩ = some (.int .i64 b.inp) ∧ w'.cell? ⟨w.heap.size + 1, 2, none⟩ = some (.int .i64 b.out) ∧ w'.cell? ⟨w.heap.size + 1, 3, none⟩ = some (.int .i64 b.dst)) (go_keep)
    (first | (go_at_call 113; refine (compare_any _ _ _).mono ?_; rintro e w' ⟨rfl, rfl⟩) | (go_at_call 111; refine (or_any _ _ _ _ [cmpI a.src b.src, cmpI a.inp b.inp, cmpI a.out b.out, cmpI a.dst b.dst] _ (intsAt4 _ _ _ _ _ _ _ (by simp)) four_le).mono ?_; rintro e w' ⟨rfl, rfl⟩))
  all_goals
    go_wp2
    go_ret
    exact ⟨rfl, (bel_up (bel_up (bel_up (bel_self _) _) _) _).drew⟩

end Go.Proofs.Yteehgcbjmdideaa
