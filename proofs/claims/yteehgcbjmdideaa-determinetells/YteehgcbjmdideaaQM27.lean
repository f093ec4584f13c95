/- determineBegun: its numbers. -/
import Derived.Test.YteehgcbjmdideaaQM26
import Derived.Test.YteehgcbjmdideaaQM16
import Derived.Test.YteehgcbjmdideaaQM31
namespace Go.Proofs.Yteehgcbjmdideaa
open Go.RowKit
attribute [local go_sem ↓] Go.wp_at_zero Go.wp_at_succ

def roundF : FstD := ⟨2, 0, [-1, 1], [⟨0, 1, 1, 0, 2⟩, ⟨0, 1, 1, 1, 5⟩]⟩
theorem roundF_chk : checkD roundF = 0 := by decide
theorem roundF_round : RoundD roundF := ⟨0, by decide, 0, by decide, 0, by decide, trivial⟩
theorem okW_same {ins outs : List Int} (h1 : ins.length ≤ 40) (h2 : outs.length ≤ 40) : OkW sameG ins outs 2 0 where
  n1 := by decide
  n2 := by decide
  s := by decide
  i40 := h1
  o40 := h2
  many := by decide
  arcs := by
    intro a ha
    simp [sameG] at ha
    subst ha
    decide
  sort := (arcsErr_sorted _ _ _ (check_ok sameG sameG_chk).err).1
  len := rfl
  fin := by
    intro x hx
    simp [sameG] at hx
    omega
theorem best_same : IsBest (EdS sameG [1] [1] 2) (bgS 0 (totS [1] [1] 2)) (finS (totS [1] [1] 2) 2 sameG.final) 6 := by
  obtain ⟨h1, h2, _⟩ := relAll_round (E := EdS sameG [1] [1] 2) (b := bgS 0 (totS [1] [1] 2)) (EdS sameG [1] [1] 2) (bgS 0 (totS [1] [1] 2)) (fun _ h => h) (fun e he => by have := (okW_same (ins := [1]) (outs := [1]) (by decide) (by decide)).edges e he; rw [bgS_len]; exact ⟨this.1, this.2.1⟩) (ach_start _ _ (bgS_lo _ _))
  have h3 := doc_best (f := sameG) (ins := [1]) (outs := [1]) (N := 2) (s0 := 0) (by rw [relAll_len, bgS_len]) h1 h2 (fix_list (by decide))
  exact h3
theorem score_same (fin arcs iv ov : Value) (w : World) (hf : ISlice w fin sameG.final) (ha : ASlice w arcs sameG.arcs) (hI : ISlice w iv [1]) (hO : ISlice w ov [1]) :
    Calls Try.prog 10 #[.agg #[.int .i64 2, .int .i64 0, fin, arcs], iv, ov] w fun e w' => e = .returned (.tuple #[.int .i64 6, .int .i64 0]) ∧ Below w.heap.size w w' := by
  refine (score_any sameG [1] [1] _ _ _ _ w hf ha hI hO).mono ?_
  rintro e w' ⟨z, c, rfl, ⟨h3, _, h4⟩, hb⟩
  have hc : c = 0 := by
    rw [h3]
    unfold chkS
    rw [if_pos sameG_chk]
    decide
  subst hc
  obtain ⟨N', s', e1, e2, _, hz⟩ := h4 rfl
  have e1' : N' = 2 := by have : (2 : Int) = N' := e1; omega
  have e2' : s' = 0 := by have : (0 : Int) = s' := e2; omega
  subst e1' e2'
  rw [hz.unique best_same]
  exact ⟨rfl, hb⟩
theorem round_lit (fin arcs : Value) (w : World) (hf : ISlice w fin roundF.final) (ha : ASlice w arcs roundF.arcs) :
    Calls Try.prog 46 #[.agg #[.int .i64 2, .int .i64 0, fin, arcs]] w fun e w' => e = .returned (.tuple #[.bool true, .int .i64 0]) ∧ Below w.heap.size w w' := by
  refine (round_any roundF _ _ w hf ha).mono ?_
  rintro e w' ⟨b, rfl, hr, hb⟩
  rw [hr.2 ⟨roundF_chk, roundF_round⟩, roundF_chk]
  exact ⟨rfl, hb⟩
theorem is_lit (fin arcs : Value) (w : World) (hf : ISlice w fin roundF.final) (ha : ASlice w arcs roundF.arcs) :
    Calls Try.prog 45 #[.agg #[.int .i64 2, .int .i64 0, fin, arcs]] w fun e w' => e = .returned (.tuple #[.bool false, .int .i64 0]) ∧ Below w.heap.size w w' := by
  refine (is_any roundF _ _ w hf ha).mono ?_
  rintro e w' ⟨b, rfl, hr, hb⟩
  rw [roundF_chk]
  cases b with
  | false => exact ⟨rfl, hb⟩
  | true =>
    obtain ⟨_, h⟩ := hr.1 rfl
    exact absurd (h.2.2 0 (by decide)) (by decide)
theorem is_same (fin arcs : Value) (w : World) (hf : ISlice w fin sameG.final) (ha : ASlice w arcs sameG.arcs) :
    Calls Try.prog 45 #[.agg #[.int .i64 2, .int .i64 0, fin, arcs]] w fun e w' => e = .returned (.tuple #[.bool true, .int .i64 0]) ∧ Below w.heap.size w w' := by
  refine (is_any sameG _ _ w hf ha).mono ?_
  rintro e w' ⟨b, rfl, hr, hb⟩
  rw [hr.2 ⟨sameG_chk, ⟨by decide, by decide, fun k hk => absurd hk (by simp [sameG])⟩⟩, sameG_chk]
  exact ⟨rfl, hb⟩

set_option maxHeartbeats 1000000 in
set_option maxRecDepth 100000 in
theorem same_any (w : World) : Calls Try.prog 94 #[] w fun e w' => ∃ N M, e = .returned (.agg #[.int .i64 2, .int .i64 0, .slice (some ⟨N, 0, none⟩) 2 2, .slice (some ⟨M, 0, none⟩) 1 1]) ∧ ISlice w' (.slice (some ⟨N, 0, none⟩) 2 2) sameF.final ∧ ASlice w' (.slice (some ⟨M, 0, none⟩) 1 1) sameF.arcs ∧ Below w.heap.size w w' := by
  go_enter Try.func94, Try.ntmps94
  go_wp2_with (go_at_call 55; refine (one_any _).mono ?_; rintro e w1 ⟨rfl, hf1, ha1, hb1⟩; have hz1 : ZBlock w1 w.heap.size := (heap_bel hb1 (heap_alloc_new w _)); have hbu := bel_up (bel_up (bel_self w1) (.cells #[.int .i64 2, .int .i64 0, .slice (some ⟨w.heap.size + 1 + 1, 0, none⟩) 2 2, .slice (some ⟨w1.heap.size + 1, 0, none⟩) 1 1] 25)) (.cells #[.int .i64 0, .int .i64 1, .int .i64 1, .int .i64 1, .int .i64 5] 63); have hz2 := heap_bel hbu hz1; obtain ⟨z0, z1, z2, z3, y0, y1, y2, y3⟩ := zfacts hz2; obtain ⟨r0, r1, r2, r3⟩ := set4_cells z0 z1 z2 z3 2 0 (.slice (some ⟨w.heap.size + 1 + 1, 0, none⟩) 2 2) (.slice (some ⟨w1.heap.size + 1, 0, none⟩) 1 1); rw [one_size] at hf1)
  obtain ⟨S, hS⟩ : ∃ S, S = ((((((w1.alloc (.cells #[.int .i64 2, .int .i64 0, .slice (some ⟨w.heap.size + 1 + 1, 0, none⟩) 2 2, .slice (some ⟨w1.heap.size + 1, 0, none⟩) 1 1] 25)).alloc (.cells #[.int .i64 0, .int .i64 1, .int .i64 1, .int .i64 1, .int .i64 5] 63)).setCell ⟨w.heap.size, 0, none⟩ (.int .i64 2)).setCell ⟨w.heap.size, 1, none⟩ (.int .i64 0)).setCell ⟨w.heap.size, 2, none⟩ (.slice (some ⟨w.heap.size + 1 + 1, 0, none⟩) 2 2)).setCell ⟨w.heap.size, 3, none⟩ (.slice (some ⟨w1.heap.size + 1, 0, none⟩) 1 1)) := ⟨_, rfl⟩
  have r := World.ownsRow_lit (base := 0) (e := 63) (size := 5) (w1.alloc (.cells #[.int .i64 2, .int .i64 0, .slice (some ⟨w.heap.size + 1 + 1, 0, none⟩) 2 2, .slice (some ⟨w1.heap.size + 1, 0, none⟩) 1 1] 25)) #[.int .i64 0, .int .i64 1, .int .i64 1, .int .i64 1, .int .i64 5] 1 (Nat.zero_le _) (by decide) rfl
  rw [one_size] at r
  have hA := ownsRow_arcs (ars := sameF.arcs) r
  obtain ⟨b1, o1, e1, hx⟩ := hf1.some (by omega)
  obtain ⟨b2, o2, e2, hy⟩ := hA.some (by omega)
  injection e1 with e1
  injection e2 with e2
  injection e1 with e1 e3
  injection e2 with e2 e4
  subst e1 e2 e3 e4
  have hzl := heap_lt hz1
  have hx2 := far4I (hx.below hbu) (X := w.heap.size) (by omega) (.int .i64 2) (.int .i64 0) (.slice (some ⟨w.heap.size + 1 + 1, 0, none⟩) 2 2) (.slice (some ⟨w1.heap.size + 1, 0, none⟩) 1 1)
  have hy2 := far4A hy (X := w.heap.size) (by omega) (.int .i64 2) (.int .i64 0) (.slice (some ⟨w.heap.size + 1 + 1, 0, none⟩) 2 2) (.slice (some ⟨w1.heap.size + 1, 0, none⟩) 1 1)
  have hbW := bel_set4 (bel_on (bel_on (bel_up (bel_self w) _) hb1) hbu) (Nat.le_refl _) (.int .i64 2) (.int .i64 0) (.slice (some ⟨w.heap.size + 1 + 1, 0, none⟩) 2 2) (.slice (some ⟨w1.heap.size + 1, 0, none⟩) 1 1)
  rw [← hS] at hx2 hy2 hbW r0 r1 r2 r3
  rw [← hS]
  clear hS
  exact bodyPost_ret (v := .agg #[.int .i64 2, .int .i64 0, .slice (some ⟨w.heap.size + 1 + 1, 0, none⟩) 2 2, .slice (some ⟨w1.heap.size + 1, 0, none⟩) 1 1]) (by simp [results, Try.results94, go_sem, r0, r1, r2, r3]) rfl ⟨_, _, rfl, Or.inr ⟨_, _, _, _, rfl, hx2, by decide⟩, Or.inr ⟨_, _, _, _, rfl, hy2, by decide⟩, hbW⟩
end Go.Proofs.Yteehgcbjmdideaa

/- determineBegun: the walk. -/
namespace Go.Proofs.Yteehgcbjmdideaa
open Go.RowKit
attribute [local go_sem ↓] Go.wp_at_zero Go.wp_at_succ

set_option maxHeartbeats 3200000 in
set_option maxRecDepth 100000 in
theorem determineBegun_any (w : World) : Calls Try.prog 50 #[] w fun e w' => e = .returned (.bool true) ∧ Below w.heap.size w w' := by
  go_enter Try.func50, Try.ntmps50
  go_wp2_with (go_at_call 94; refine (same_any _).mono ?_; rintro e w1 ⟨N1, M1, rfl, hf1, ha1, hb1⟩)
  have hu1 := bel_up (bel_up (bel_self w1) (.cells #[.int .i64 2, .int .i64 0, .slice (some ⟨N1, 0, none⟩) 2 2, .slice (some ⟨w1.heap.size + 1, 0, none⟩) 2 2] 25)) (.cells #[.int .i64 0, .int .i64 1, .int .i64 1, .int .i64 0, .int .i64 2, .int .i64 0, .int .i64 1, .int .i64 1, .int .i64 1, .int .i64 5] 63)
  have r := World.ownsRow_lit (base := 0) (e := 63) (size := 5) (w1.alloc (.cells #[.int .i64 2, .int .i64 0, .slice (some ⟨N1, 0, none⟩) 2 2, .slice (some ⟨w1.heap.size + 1, 0, none⟩) 2 2] 25)) #[.int .i64 0, .int .i64 1, .int .i64 1, .int .i64 0, .int .i64 2, .int .i64 0, .int .i64 1, .int .i64 1, .int .i64 1, .int .i64 5] 2 (Nat.zero_le _) (by decide) rfl
  rw [one_size] at r
  have hA1 := ownsRow_arcs (ars := roundF.arcs) r
  have hF1 : ISlice _ _ roundF.final := hf1.below hu1
  have hq := (cellsF_new w1 2 0 (.slice (some ⟨N1, 0, none⟩) 2 2) (.slice (some ⟨w1.heap.size + 1, 0, none⟩) 2 2) 25).below (bel_up (bel_self _) (.cells #[.int .i64 0, .int .i64 1, .int .i64 1, .int .i64 0, .int .i64 2, .int .i64 0, .int .i64 1, .int .i64 1, .int .i64 1, .int .i64 5] 63))
  clear r
  refine (round_lit _ _ _ hF1 hA1).mono ?_
  rintro e w2 ⟨rfl, hb2⟩
  obtain ⟨q0, q1, q2, q3⟩ := hq.below hb2
  have h3 := is_lit _ _ w2 (hF1.below hb2) (hA1.below hb2)
  go_wp2_with (go_at_call 45; refine h3.mono ?_; rintro e w3 ⟨rfl, hb3⟩)
  have hc3 := bel_on (bel_on (bel_on hb1 hu1) hb2) hb3
  clear hf1 ha1 hb1 hu1 hA1 hF1 hq hb2 hb3 q0 q1 q2 q3 h3
  refine (same_any _).mono ?_
  rintro e w4 ⟨N4, M4, rfl, hf4, ha4, hb4⟩
  have hc4 := bel_on hc3 hb4
  have hd := determine_same _ _ w4 hf4 ha4
  go_wp2_with (go_at_call 95; refine hd.mono ?_; rintro e w5 ⟨fa, fn, fc, ba, bn, bc, rfl, hf5, ha5, hb5⟩)
  have hc5 := bel_on hc4 hb5
  clear hd hf4 ha4 hb4 hb5 hc3 hc4
  have hu5 := bel_up (bel_up (bel_up (bel_self w5) (.cells #[.int .i64 2, .int .i64 0, .slice fa fn fc, .slice ba bn bc] 25)) (.cells #[.int .i64 1] 3)) (.cells #[.int .i64 1] 3)
  have hi5 := (lit_one (w5.alloc (.cells #[.int .i64 2, .int .i64 0, .slice fa fn fc, .slice ba bn bc] 25)) 1 _ (one_size _ _)).below (bel_up (bel_self _) (.cells #[.int .i64 1] 3))
  have ho5 := lit_one ((w5.alloc (.cells #[.int .i64 2, .int .i64 0, .slice fa fn fc, .slice ba bn bc] 25)).alloc (.cells #[.int .i64 1] 3)) 1 _ ((one_size _ _).trans (congrArg (· + 1) (one_size _ _)))
  have hq := (cellsF_new w5 2 0 (.slice fa fn fc) (.slice ba bn bc) 25).below (bel_up (bel_up (bel_self _) (.cells #[.int .i64 1] 3)) (.cells #[.int .i64 1] 3))
  refine (score_same _ _ _ _ _ (hf5.below hu5) (ha5.below hu5) hi5 ho5).mono ?_
  rintro e w6 ⟨rfl, hb6⟩
  obtain ⟨q0, q1, q2, q3⟩ := hq.below hb6
  have hb56 := bel_on hu5 hb6
  have h7 := is_same _ _ w6 (hf5.below hb56) (ha5.below hb56)
  have hc6 := bel_on hc5 hb56
  clear hf5 ha5 hu5 hi5 ho5 hq hb6 hb56 hc5
  go_wp2_with (go_at_call 45; refine h7.mono ?_; rintro e w7 ⟨rfl, hb7⟩)
  go_ret
  exact ⟨rfl, bel_on hc6 hb7⟩

theorem determineTells_any (f : FstD) (fin arcs : Value) (w : World) (hf : ISlice w fin f.final) (ha : ASlice w arcs f.arcs) :
    Calls Try.prog 9 #[.agg #[.int .i64 f.states, .int .i64 f.start, fin, arcs]] w fun e w' => e = .returned (.bool true) ∧ Below w.heap.size w w' :=
  determineTells_of determineBegun_any f fin arcs w hf ha
end Go.Proofs.Yteehgcbjmdideaa
