/- 'shortBegun'. -/
import Derived.Test.YteehgcbjmdideaaQMP
import Derived.Test.YteehgcbjmdideaaQMG
namespace Go.Proofs.Yteehgcbjmdideaa
open Go.RowKit
attribute [local go_sem ↓] Go.wp_at_zero Go.wp_at_succ

theorem okF_one : OkF oneD 2 0 where
  st := rfl
  sta := rfl
  n1 := by decide
  n2 := by decide
  s := by decide
  len := rfl
  fin := by
    intro x hx
    simp [oneD] at hx
    omega
  many := by decide
  arcs := by
    intro a ha
    simp [oneD] at ha
    subst ha
    decide

theorem from_oneD : fromD oneD = [0, 5] := by decide
theorem to_oneD : toD oneD = [6, 1] := by decide
theorem push_oneA : pushA [6, 1] oneD.arcs = [⟨0, 1, 2, 1, 0⟩] := rfl
theorem push_oneF : pushF [6, 1] oneD.final 2 = [-1, 0] := by decide

theorem from_one (N M : Nat) (w : World) (hI : ISlice w (.slice (some ⟨N, 0, none⟩) 2 2) oneD.final) (hA : ASlice w (.slice (some ⟨M, 0, none⟩) 1 1) oneD.arcs) :
    Calls Try.prog 36 #[.agg #[.int .i64 2, .int .i64 0, .slice (some ⟨N, 0, none⟩) 2 2, .slice (some ⟨M, 0, none⟩) 1 1]] w fun e w' => ListRes w [0, 5] 0 e w' := by
  have := from_ok oneD 2 0 (.slice (some ⟨N, 0, none⟩) 2 2) (some ⟨M, 0, none⟩) 1 1 w okF_one hI hA rfl check_one
  rw [from_oneD] at this
  exact this
theorem to_one (N M : Nat) (w : World) (hI : ISlice w (.slice (some ⟨N, 0, none⟩) 2 2) oneD.final) (hA : ASlice w (.slice (some ⟨M, 0, none⟩) 1 1) oneD.arcs) :
    Calls Try.prog 37 #[.agg #[.int .i64 2, .int .i64 0, .slice (some ⟨N, 0, none⟩) 2 2, .slice (some ⟨M, 0, none⟩) 1 1]] w fun e w' => ListRes w [6, 1] 0 e w' := by
  have := to_ok oneD 2 0 (.slice (some ⟨N, 0, none⟩) 2 2) (some ⟨M, 0, none⟩) 1 1 w okF_one hI hA rfl check_one
  rw [to_oneD] at this
  exact this

theorem arcs_oneD {j : Nat} {a : ArcD} (h : oneD.arcs[j]? = some a) : a = ⟨0, 1, 2, 1, 5⟩ := by
  have := List.mem_of_getElem? h
  simpa [oneD] using this
theorem way_oneD {y l : List Int} {r : Nat → Nat} (hb : BackOk oneD 2 (toD oneD) y r) (hw : WayL oneD y 0 l) : l.length = 1 := by
  rw [to_oneD] at hb
  have h1 : gI y 1 = -1 := by
    rcases hb 1 (by decide) with ⟨h, _⟩ | ⟨j, a, _, ha, hs, _⟩
    · exact h
    · rw [arcs_oneD ha] at hs; cases hs
  cases l with
  | nil =>
    have h0 : gI y 0 = -1 := hw
    rcases hb 0 (by decide) with ⟨_, h⟩ | ⟨j, a, hj, _⟩
    · exact absurd h (by decide)
    · omega
  | cons n l =>
    obtain ⟨j, a, _, _, ha, _, hw⟩ := hw
    rw [arcs_oneD ha] at hw
    cases l with
    | nil => rfl
    | cons n' l =>
      obtain ⟨j', _, _, hj', _⟩ := hw
      have : gI y 1 = j' := hj'
      omega

theorem bestS_one (N M : Nat) (w : World) (hI : ISlice w (.slice (some ⟨N, 0, none⟩) 2 2) oneD.final) (hA : ASlice w (.slice (some ⟨M, 0, none⟩) 1 1) oneD.arcs) :
    Calls Try.prog 44 #[.agg #[.int .i64 2, .int .i64 0, .slice (some ⟨N, 0, none⟩) 2 2, .slice (some ⟨M, 0, none⟩) 1 1]] w fun e w' => ∃ a cap, e = .returned (.tuple #[.slice a 1 cap, .int .i64 6, .int .i64 0]) ∧ Below w.heap.size w w' := by
  refine (best_ok oneD 2 0 (.slice (some ⟨N, 0, none⟩) 2 2) (some ⟨M, 0, none⟩) 1 1 w okF_one hI hA rfl check_one 6 (by rw [to_oneD]; rfl)).mono ?_
  rintro e w' ⟨a, n, cap, l, y, r, rfl, _, hl, hb, hw, hbel⟩
  have := way_oneD hb hw
  obtain rfl : n = 1 := by omega
  exact ⟨a, cap, rfl, hbel⟩

theorem push_one (N M : Nat) (w : World) (hI : ISlice w (.slice (some ⟨N, 0, none⟩) 2 2) oneD.final) (hA : ASlice w (.slice (some ⟨M, 0, none⟩) 1 1) oneD.arcs) :
    Calls Try.prog 38 #[.agg #[.int .i64 2, .int .i64 0, .slice (some ⟨N, 0, none⟩) 2 2, .slice (some ⟨M, 0, none⟩) 1 1]] w fun e w' => ∃ fb fo fc ab ao ac, e = .returned (.tuple #[.agg #[.int .i64 2, .int .i64 0, .slice (some ⟨fb, fo, none⟩) 2 fc, .slice (some ⟨ab, ao, none⟩) 1 ac], .int .i64 6, .int .i64 0]) ∧ w'.cell? ⟨fb, fo + 1, none⟩ = some (.int .i64 0) ∧ w'.cell? ⟨ab, ao + 4, none⟩ = some (.int .i64 0) ∧ Below w.heap.size w w' := by
  refine (push_some oneD 2 0 (.slice (some ⟨N, 0, none⟩) 2 2) (some ⟨M, 0, none⟩) 1 1 w okF_one hI hA rfl check_one 6 (by rw [to_oneD]; rfl) (by decide) (⟨2, 0, [-1, 0], [⟨0, 1, 2, 1, 0⟩]⟩, 6, 0) (by rw [to_oneD, push_oneA, push_oneF]; rfl)).mono ?_
  rintro e w' ⟨fa, fn, fc, ba, bn, bc, rfl, hf, ha, hb⟩
  obtain ⟨_, _, _, e1, hl1, _⟩ := hf.lenOf
  obtain ⟨_, _, _, e2, hl2, _⟩ := ha.lenOf
  injection e1 with _ e1 _
  injection e2 with _ e2 _
  have h2 : fn = 2 := by rw [e1, ← hl1]; rfl
  have h1 : bn = 1 := by rw [e2, ← hl2]; rfl
  subst h2 h1
  obtain ⟨fb, fo, rfl, hx⟩ := hf.some (by decide)
  obtain ⟨ab, ao, rfl, hy⟩ := ha.some (by decide)
  exact ⟨fb, fo, fc, ab, ao, bc, rfl, hx.cell 1 (by decide), by have := hy.c4 0 (by decide); simpa using this, hb⟩

theorem same_lit (u : Value) (x y : Int) (W : World) (B : Nat) (hB : W.heap.size = B) (hu : ISlice W u [x, y]) :
    Calls Try.prog 43 #[u, .slice (some ⟨B, 0, none⟩) 2 2] (W.alloc (.cells #[.int .i64 x, .int .i64 y] 3)) fun e w' => e = .returned (.bool true) ∧ Below W.heap.size W w' := by
  have hb := bel_up (bel_self W) (.cells #[.int .i64 x, .int .i64 y] 3)
  subst hB
  have hr := World.ownsRow_lit (base := 0) (e := 3) (size := 1) W #[.int .i64 x, .int .i64 y] 2 (Nat.zero_le _) (by decide) rfl
  refine (sameInts_any u _ [x, y] [x, y] _ (hu.below hb) (ownsRow_ints (xs := [x, y]) hr)).mono ?_
  rintro e w' ⟨rfl, hb2⟩
  exact ⟨ret_bool (by simp), bel_on hb hb2⟩

set_option maxHeartbeats 2000000 in
set_option maxRecDepth 100000 in
theorem shortBegun_any (w : World) :
    Calls Try.prog 42 #[] w fun e w' => e = .returned (.bool true) ∧ Below w.heap.size w w' := by
  go_enter Try.func42, Try.ntmps42
  go_wp2_with (first
    | (go_at_call 36; refine (from_one _ _ w1 hI1 hA1).mono ?_; rintro e w2 ⟨a1, n1, c1, rfl, hL1, hb2⟩)
    | (go_at_call 55; refine (one_ex w).mono ?_; rintro e w1 ⟨N1, M1, rfl, hI1, hA1, hb1⟩)
    | (go_at_call 55; refine (one_ex w2).mono ?_; rintro e w3 ⟨N3, M3, rfl, hI3, hA3, hb3⟩)
    | (go_at_call 37; refine (to_one _ _ w3 hI3 hA3).mono ?_; rintro e w4 ⟨a2, n2, c2, rfl, hL2, hb4⟩)
    | (go_at_call 55; refine (one_ex w4).mono ?_; rintro e w5 ⟨N5, M5, rfl, hI5, hA5, hb5⟩)
    | (go_at_call 44; refine (bestS_one _ _ w5 hI5 hA5).mono ?_; rintro e w6 ⟨a3, c3, rfl, hb6⟩)
    | (go_at_call 55; refine (one_ex w6).mono ?_; rintro e w7 ⟨N7, M7, rfl, hI7, hA7, hb7⟩)
    | (go_at_call 38; refine (push_one _ _ w7 hI7 hA7).mono ?_; rintro e w8 ⟨fb, fo, fc, ab, ao, ac, rfl, hcf, hca, hb8⟩)
    | fail)
  have h24 := bel_on hb3 hb4
  have h46 := bel_on hb5 hb6
  have h68 := bel_on hb7 hb8
  have hbw := bel_on (bel_on (bel_on (bel_on hb1 hb2) h24) h46) h68
  have hup := bel_up (bel_self w8) (.cells #[.int .i64 2, .int .i64 0, .slice (some ⟨fb, fo, none⟩) 2 fc, .slice (some ⟨ab, ao, none⟩) 1 ac] 25)
  have hIa := (hL1.below (bel_on (bel_on h24 h46) h68)).below hup
  have hIb := (hL2.below (bel_on h46 h68)).below hup
  have hC8 := cellsF_new w8 2 0 (.slice (some ⟨fb, fo, none⟩) 2 fc) (.slice (some ⟨ab, ao, none⟩) 1 ac) 25
  have hcf8 := bel_c hup hcf
  have hca8 := bel_c hup hca
  have hs8 := one_size w8 (.cells #[.int .i64 2, .int .i64 0, .slice (some ⟨fb, fo, none⟩) 2 fc, .slice (some ⟨ab, ao, none⟩) 1 ac] 25)
  have hbW := bel_on hbw hup
  clear hup hb1 hb2 hb3 hb4 hb5 hb6 hb7 hb8 h24 h46 h68 hL1 hL2 hI1 hA1 hI3 hA3 hI5 hA5 hI7 hA7 hcf hca hbw
  generalize w8.alloc (.cells #[.int .i64 2, .int .i64 0, .slice (some ⟨fb, fo, none⟩) 2 fc, .slice (some ⟨ab, ao, none⟩) 1 ac] 25) = W8 at *
  refine (same_lit _ 0 5 W8 _ hs8 hIa).mono ?_
  rintro e w9 ⟨rfl, hb9⟩
  go_wp2_with (go_at_call 43; refine (same_lit _ 6 1 w9 _ rfl (hIb.below hb9)).mono ?_; rintro e w10 ⟨rfl, hb10⟩; obtain ⟨k0, k1, k2, k3⟩ := (hC8.below hb9).below hb10; have hcf10 := bel_c hb10 (bel_c hb9 hcf8); have hca10 := bel_c hb10 (bel_c hb9 hca8))
  go_ret
  exact ⟨rfl, bel_on (bel_on hbW hb9) hb10⟩

end Go.Proofs.Yteehgcbjmdideaa
