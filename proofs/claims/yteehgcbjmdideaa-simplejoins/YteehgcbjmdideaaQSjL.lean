/- 'SimpleJoins' of the statements. -/
import Derived.Test.YteehgcbjmdideaaQM20
import Derived.Test.YteehgcbjmdideaaQSjK
namespace Go.Proofs.Yteehgcbjmdideaa
open Go.RowKit
attribute [local go_sem ↓] Go.wp_at_zero Go.wp_at_succ

def eithX (f g : FstD) : FstD := if errJ f g = 0 then eitherD f g else ⟨0, 0, [], []⟩
def behX (f g : FstD) : FstD := if errJ f g = 0 then behindD f g else ⟨0, 0, [], []⟩
def agaX (f : FstD) : FstD := if errA f = 0 then againD f else ⟨0, 0, [], []⟩

theorem errJ_ok {f g : FstD} (h : errJ f g = 0) : checkD f = 0 ∧ checkD g = 0 ∧ f.states + g.states ≤ 198 ∧ f.arcs.length + g.arcs.length ≤ 2500 := by
  rcases errJ_def f g with ⟨h1, h2⟩ | ⟨_, h1, h2⟩ | ⟨_, _, _, h2⟩ | ⟨h1, h2, h3, _⟩
  · exact absurd (h2.symm.trans h) h1
  · exact absurd (h2.symm.trans h) h1
  · rw [h2] at h; exact absurd h (by decide)
  · exact ⟨h1, h2, by omega, by omega⟩
theorem errA_ok {f : FstD} (h : errA f = 0) : checkD f = 0 ∧ f.states ≤ 198 ∧ f.arcs.length ≤ 2500 := by
  rcases errA_def f with ⟨h1, h2⟩ | ⟨_, _, h2⟩ | ⟨h1, h3, _⟩
  · exact absurd (h2.symm.trans h) h1
  · rw [h2] at h; exact absurd h (by decide)
  · exact ⟨h1, by omega, by omega⟩

section
variable (f g : FstD) (fin arcs fin' arcs' : Value) (w : World)

theorem either_all (hf : ISlice w fin f.final) (ha : ASlice w arcs f.arcs) (hf' : ISlice w fin' g.final) (ha' : ASlice w arcs' g.arcs) :
    Calls Try.prog 23 #[.agg #[.int .i64 f.states, .int .i64 f.start, fin, arcs], .agg #[.int .i64 g.states, .int .i64 g.start, fin', arcs']] w fun e w' => FstRes w (eithX f g) (errJ f g) e w' := by
  unfold eithX
  by_cases h : errJ f g = 0
  · obtain ⟨h1, h2, h3, h4⟩ := errJ_ok h
    rw [if_pos h, h]
    exact either_fine f g fin arcs fin' arcs' w hf ha hf' ha' h1 h2 h3 h4
  · rw [if_neg h]
    exact either_bad f g fin arcs fin' arcs' _ w hf ha hf' ha' (by simpa using h) rfl
theorem behind_all (hf : ISlice w fin f.final) (ha : ASlice w arcs f.arcs) (hf' : ISlice w fin' g.final) (ha' : ASlice w arcs' g.arcs) :
    Calls Try.prog 24 #[.agg #[.int .i64 f.states, .int .i64 f.start, fin, arcs], .agg #[.int .i64 g.states, .int .i64 g.start, fin', arcs']] w fun e w' => FstRes w (behX f g) (errJ f g) e w' := by
  unfold behX
  by_cases h : errJ f g = 0
  · obtain ⟨h1, h2, h3, h4⟩ := errJ_ok h
    rw [if_pos h, h]
    exact behind_fine f g fin arcs fin' arcs' w hf ha hf' ha' h1 h2 h3 h4
  · rw [if_neg h]
    exact behind_bad f g fin arcs fin' arcs' _ w hf ha hf' ha' (by simpa using h) rfl
theorem again_all (hf : ISlice w fin f.final) (ha : ASlice w arcs f.arcs) :
    Calls Try.prog 25 #[.agg #[.int .i64 f.states, .int .i64 f.start, fin, arcs]] w fun e w' => FstRes w (agaX f) (errA f) e w' := by
  unfold agaX
  by_cases h : errA f = 0
  · obtain ⟨h1, h3, h4⟩ := errA_ok h
    rw [if_pos h, h]
    exact again_fine f fin arcs w hf ha h1 h3 h4
  · rw [if_neg h]
    exact again_bad f fin arcs _ w hf ha (by simpa using h) rfl
end

set_option maxHeartbeats 16000000 in
set_option maxRecDepth 100000 in
theorem simpleJoins_any (f g : FstD) (ins outs : List Int) (fin arcs fin' arcs' : Value) (ia : Option Addr) (il ic : Nat) (oa : Option Addr) (ol oc : Nat) (w : World) (hf : ISlice w fin f.final) (ha : ASlice w arcs f.arcs) (hf' : ISlice w fin' g.final) (ha' : ASlice w arcs' g.arcs) (hI : ISlice w (.slice ia il ic) ins) (hic : il ≤ ic) (hO : ISlice w (.slice oa ol oc) outs) (hoc : ol ≤ oc) :
    Calls Try.prog 5 #[.agg #[.int .i64 f.states, .int .i64 f.start, fin, arcs], .agg #[.int .i64 g.states, .int .i64 g.start, fin', arcs'], .slice ia il ic, .slice oa ol oc] w fun e w' => e = .returned (.bool true) ∧ Below w.heap.size w w' := by
  obtain ⟨fa, fn, fc, rfl, _, _⟩ := hf.lenOf
  obtain ⟨aa, an, ac, rfl, hal, _⟩ := ha.lenOf
  obtain ⟨ga, gn, gc, rfl, _, _⟩ := hf'.lenOf
  obtain ⟨ba, bn, bc, rfl, hal', _⟩ := ha'.lenOf
  have hlen : ins.length = il ∧ outs.length = ol := by
    obtain ⟨_, _, _, e, h1, _⟩ := hI.lenOf
    obtain ⟨_, _, _, e', h2, _⟩ := hO.lenOf
    injection e with _ e
    injection e' with _ e'
    exact ⟨by omega, by omega⟩
  obtain ⟨W0, hW0⟩ : ∃ W0, W0 = (w.alloc (.cells #[.int .i64 f.states, .int .i64 f.start, .slice fa fn fc, .slice aa an ac] 25)).alloc (.cells #[.int .i64 g.states, .int .i64 g.start, .slice ga gn gc, .slice ba bn bc] 25) := ⟨_, rfl⟩
  have hb0 : Below w.heap.size w W0 := by rw [hW0]; exact two_up w _ _
  have hxF : W0.heap[w.heap.size]? = some (.cells #[.int .i64 f.states, .int .i64 f.start, .slice fa fn fc, .slice aa an ac] 25 (0, 0)) := by rw [hW0]; exact heap_bel (bel_up (bel_self _) _) (heap_alloc_new w _)
  have hxG : W0.heap[w.heap.size + 1]? = some (.cells #[.int .i64 g.states, .int .i64 g.start, .slice ga gn gc, .slice ba bn bc] 25 (0, 0)) := by
    rw [hW0]
    have := heap_alloc_new (w.alloc (.cells #[.int .i64 f.states, .int .i64 f.start, .slice fa fn fc, .slice aa an ac] 25)) (.cells #[.int .i64 g.states, .int .i64 g.start, .slice ga gn gc, .slice ba bn bc] 25)
    rw [one_size] at this
    exact this
  have HF : Hid (∀ W, Below W0.heap.size W0 W → W.heap[w.heap.size]? = some (.cells #[.int .i64 f.states, .int .i64 f.start, .slice fa fn fc, .slice aa an ac] 25 (0, 0)) ∧ W.heap[w.heap.size + 1]? = some (.cells #[.int .i64 g.states, .int .i64 g.start, .slice ga gn gc, .slice ba bn bc] 25 (0, 0)) ∧ Below w.heap.size w W) := fun W h => ⟨heap_bel h hxF, heap_bel h hxG, bel_on hb0 h⟩
  have HM : Hid (∀ W, Below w.heap.size w W → ISlice W (.slice fa fn fc) f.final ∧ ASlice W (.slice aa an ac) f.arcs ∧ ISlice W (.slice ga gn gc) g.final ∧ ASlice W (.slice ba bn bc) g.arcs ∧ ISlice W (.slice ia il ic) ins ∧ ISlice W (.slice oa ol oc) outs) := fun W h => ⟨hf.below h, ha.below h, hf'.below h, ha'.below h, hI.below h, hO.below h⟩
  obtain ⟨X, hX⟩ : ∃ X, X = eithX f g := ⟨_, rfl⟩
  obtain ⟨Y, hY⟩ : ∃ X, X = behX f g := ⟨_, rfl⟩
  obtain ⟨Z, hZ⟩ : ∃ X, X = agaX f := ⟨_, rfl⟩
  obtain ⟨u, hu⟩ : ∃ u, u = errJ f g := ⟨_, rfl⟩
  obtain ⟨v, hv⟩ : ∃ u, u = errA f := ⟨_, rfl⟩
  have HEI : Hid (∀ W, Below w.heap.size w W → Calls Try.prog 23 #[.agg #[.int .i64 f.states, .int .i64 f.start, .slice fa fn fc, .slice aa an ac], .agg #[.int .i64 g.states, .int .i64 g.start, .slice ga gn gc, .slice ba bn bc]] W fun e w' => FstRes W X u e w') := fun W h => by rw [hX, hu]; exact either_all f g _ _ _ _ W (hf.below h) (ha.below h) (hf'.below h) (ha'.below h)
  have HBE : Hid (∀ W, Below w.heap.size w W → Calls Try.prog 24 #[.agg #[.int .i64 f.states, .int .i64 f.start, .slice fa fn fc, .slice aa an ac], .agg #[.int .i64 g.states, .int .i64 g.start, .slice ga gn gc, .slice ba bn bc]] W fun e w' => FstRes W Y u e w') := fun W h => by rw [hY, hu]; exact behind_all f g _ _ _ _ W (hf.below h) (ha.below h) (hf'.below h) (ha'.below h)
  have HAG : Hid (∀ W, Below w.heap.size w W → Calls Try.prog 25 #[.agg #[.int .i64 f.states, .int .i64 f.start, .slice fa fn fc, .slice aa an ac]] W fun e w' => FstRes W Z v e w') := fun W h => by rw [hZ, hv]; exact again_all f _ _ W (hf.below h) (ha.below h)
  have HDEF : Hid ((X = eithX f g ∧ Y = behX f g ∧ Z = agaX f) ∧ u = errJ f g ∧ v = errA f) := ⟨⟨hX, hY, hZ⟩, hu, hv⟩
  have HLEN : Hid ((ins.length = il ∧ outs.length = ol) ∧ f.arcs.length = an ∧ g.arcs.length = bn) := ⟨hlen, hal, hal'⟩
  clear hf ha hf' ha' hI hO hX hY hZ hu hv hlen hal hal' hxF hxG hb0
  have hsb := simpleBegun_any W0
  go_enter Try.func5, Try.ntmps5
  go_wp2_with fail
  rw [← hW0]
  clear hW0
  refine hsb.mono ?_
  rintro e w1 ⟨rfl, hb1⟩
  clear hsb
  go_wp2_with fail
  refine (scoreBegun_any w1).mono ?_
  rintro e w2 ⟨rfl, hb2⟩
  have hb02 := bel_on hb1 hb2
  obtain ⟨p2, p2', pb2⟩ := HF.out w2 hb02
  have f0 := box_cell (k := 0) p2 rfl
  have f1 := box_cell (k := 1) p2 rfl
  have f2 := box_cell (k := 2) p2 rfl
  have f3 := box_cell (k := 3) p2 rfl
  have g0 := box_cell (k := 0) p2' rfl
  have g1 := box_cell (k := 1) p2' rfl
  have g2 := box_cell (k := 2) p2' rfl
  have g3 := box_cell (k := 3) p2' rfl
  have hei := HEI.out w2 pb2
  clear hb1 hb2 p2 p2'
  go_wp2_with fail
  refine hei.mono ?_
  rintro e w3 ⟨xa, xn, xc, xd, xm, xe, rfl, hI3, hA3, hb3⟩
  clear hei f0 f1 f2 f3 g0 g1 g2 g3
  obtain ⟨w4, hw4⟩ : ∃ w4, w4 = w3.alloc (.cells #[.int .i64 X.states, .int .i64 X.start, .slice xa xn xc, .slice xd xm xe] 25) := ⟨_, rfl⟩
  obtain ⟨BX, hBX⟩ : ∃ B, B = w3.heap.size := ⟨_, rfl⟩
  have hu : Below w3.heap.size w3 w4 := by rw [hw4]; exact bel_up (bel_self w3) _
  have hx : w4.heap[BX]? = some (.cells #[.int .i64 X.states, .int .i64 X.start, .slice xa xn xc, .slice xd xm xe] 25 (0, 0)) := by rw [hw4, hBX]; exact heap_alloc_new w3 _
  have hbo := bel_on hb3 hu
  have HX : Hid (∀ W, Below w4.heap.size w4 W → W.heap[BX]? = some (.cells #[.int .i64 X.states, .int .i64 X.start, .slice xa xn xc, .slice xd xm xe] 25 (0, 0)) ∧ ISlice W (.slice xa xn xc) X.final ∧ ASlice W (.slice xd xm xe) X.arcs ∧ Below W0.heap.size W0 W) := fun W h => ⟨heap_bel h hx, (hI3.slice.below hu).below h, (hA3.slice.below hu).below h, bel_on (bel_on hb02 hbo) h⟩
  obtain ⟨p4, p4', pb4⟩ := HF.out w4 (HX.out w4 (bel_self _)).2.2.2
  have f0 := box_cell (k := 0) p4 rfl
  have f1 := box_cell (k := 1) p4 rfl
  have f2 := box_cell (k := 2) p4 rfl
  have f3 := box_cell (k := 3) p4 rfl
  have g0 := box_cell (k := 0) p4' rfl
  have g1 := box_cell (k := 1) p4' rfl
  have g2 := box_cell (k := 2) p4' rfl
  have g3 := box_cell (k := 3) p4' rfl
  have hbe := HBE.out w4 pb4
  rw [hw4] at f0 f1 f2 f3 g0 g1 g2 g3
  have HQ : Hid (w4 = w3.alloc (.cells #[.int .i64 X.states, .int .i64 X.start, .slice xa xn xc, .slice xd xm xe] 25) ∧ BX = w3.heap.size) := ⟨hw4, hBX⟩
  clear p4 p4' pb4 hw4 hBX hu hx hI3 hA3 hb3 hbo hb02 pb2
  go_wp2_with fail
  rw [← HQ.out.1, ← HQ.out.2]
  clear HQ f0 f1 f2 f3 g0 g1 g2 g3
  refine hbe.mono ?_
  rintro e w5 ⟨ya, yn, yc, yd, ym, ye, rfl, hI5, hA5, hb5⟩
  clear hbe
  obtain ⟨w6, hw6⟩ : ∃ w6, w6 = w5.alloc (.cells #[.int .i64 Y.states, .int .i64 Y.start, .slice ya yn yc, .slice yd ym ye] 25) := ⟨_, rfl⟩
  obtain ⟨BY, hBY⟩ : ∃ B, B = w5.heap.size := ⟨_, rfl⟩
  have hu : Below w5.heap.size w5 w6 := by rw [hw6]; exact bel_up (bel_self w5) _
  have hx : w6.heap[BY]? = some (.cells #[.int .i64 Y.states, .int .i64 Y.start, .slice ya yn yc, .slice yd ym ye] 25 (0, 0)) := by rw [hw6, hBY]; exact heap_alloc_new w5 _
  have hbo := bel_on hb5 hu
  have HY : Hid (∀ W, Below w6.heap.size w6 W → W.heap[BY]? = some (.cells #[.int .i64 Y.states, .int .i64 Y.start, .slice ya yn yc, .slice yd ym ye] 25 (0, 0)) ∧ ISlice W (.slice ya yn yc) Y.final ∧ ASlice W (.slice yd ym ye) Y.arcs ∧ Below w4.heap.size w4 W) := fun W h => ⟨heap_bel h hx, (hI5.slice.below hu).below h, (hA5.slice.below hu).below h, bel_on hbo h⟩
  obtain ⟨p6, p6', pb6⟩ := HF.out w6 (HX.out w6 (HY.out w6 (bel_self _)).2.2.2).2.2.2
  have f0 := box_cell (k := 0) p6 rfl
  have f1 := box_cell (k := 1) p6 rfl
  have f2 := box_cell (k := 2) p6 rfl
  have f3 := box_cell (k := 3) p6 rfl
  have hag := HAG.out w6 pb6
  rw [hw6] at f0 f1 f2 f3
  have HQ : Hid (w6 = w5.alloc (.cells #[.int .i64 Y.states, .int .i64 Y.start, .slice ya yn yc, .slice yd ym ye] 25) ∧ BY = w5.heap.size) := ⟨hw6, hBY⟩
  clear p6 p6' pb6 hw6 hBY hu hx hI5 hA5 hb5 hbo
  go_wp2_with fail
  rw [← HQ.out.1, ← HQ.out.2]
  clear HQ f0 f1 f2 f3
  refine hag.mono ?_
  rintro e w7 ⟨za, zn, zc, zd, zm, ze, rfl, hI7, hA7, hb7⟩
  clear hag
  obtain ⟨w8, hw8⟩ : ∃ w8, w8 = w7.alloc (.cells #[.int .i64 Z.states, .int .i64 Z.start, .slice za zn zc, .slice zd zm ze] 25) := ⟨_, rfl⟩
  obtain ⟨BZ, hBZ⟩ : ∃ B, B = w7.heap.size := ⟨_, rfl⟩
  have hu : Below w7.heap.size w7 w8 := by rw [hw8]; exact bel_up (bel_self w7) _
  have hx : w8.heap[BZ]? = some (.cells #[.int .i64 Z.states, .int .i64 Z.start, .slice za zn zc, .slice zd zm ze] 25 (0, 0)) := by rw [hw8, hBZ]; exact heap_alloc_new w7 _
  have hbo := bel_on hb7 hu
  have HZ : Hid (∀ W, Below w8.heap.size w8 W → W.heap[BZ]? = some (.cells #[.int .i64 Z.states, .int .i64 Z.start, .slice za zn zc, .slice zd zm ze] 25 (0, 0)) ∧ ISlice W (.slice za zn zc) Z.final ∧ ASlice W (.slice zd zm ze) Z.arcs ∧ Below w6.heap.size w6 W) := fun W h => ⟨heap_bel h hx, (hI7.slice.below hu).below h, (hA7.slice.below hu).below h, bel_on hbo h⟩
  have HQ : Hid (w8 = w7.alloc (.cells #[.int .i64 Z.states, .int .i64 Z.start, .slice za zn zc, .slice zd zm ze] 25) ∧ BZ = w7.heap.size) := ⟨hw8, hBZ⟩
  have HALL : Hid (∀ W, Below w8.heap.size w8 W → (W.heap[BX]? = some (.cells #[.int .i64 X.states, .int .i64 X.start, .slice xa xn xc, .slice xd xm xe] 25 (0, 0)) ∧ ISlice W (.slice xa xn xc) X.final ∧ ASlice W (.slice xd xm xe) X.arcs) ∧ (W.heap[BY]? = some (.cells #[.int .i64 Y.states, .int .i64 Y.start, .slice ya yn yc, .slice yd ym ye] 25 (0, 0)) ∧ ISlice W (.slice ya yn yc) Y.final ∧ ASlice W (.slice yd ym ye) Y.arcs) ∧ (W.heap[BZ]? = some (.cells #[.int .i64 Z.states, .int .i64 Z.start, .slice za zn zc, .slice zd zm ze] 25 (0, 0)) ∧ ISlice W (.slice za zn zc) Z.final ∧ ASlice W (.slice zd zm ze) Z.arcs) ∧ W.heap[w.heap.size]? = some (.cells #[.int .i64 f.states, .int .i64 f.start, .slice fa fn fc, .slice aa an ac] 25 (0, 0)) ∧ W.heap[w.heap.size + 1]? = some (.cells #[.int .i64 g.states, .int .i64 g.start, .slice ga gn gc, .slice ba bn bc] 25 (0, 0)) ∧ Below w.heap.size w W) := fun W h => by
    obtain ⟨z1, z2, z3, z4⟩ := HZ.out W h
    obtain ⟨y1, y2, y3, y4⟩ := HY.out W z4
    obtain ⟨x1, x2, x3, x4⟩ := HX.out W y4
    obtain ⟨f1, f2, f3⟩ := HF.out W x4
    exact ⟨⟨x1, x2, x3⟩, ⟨y1, y2, y3⟩, ⟨z1, z2, z3⟩, f1, f2, f3⟩
  have HS : Hid (∀ wx, Below w8.heap.size w8 wx → (fun wx : World => wx.cell? ⟨w.heap.size, 0, none⟩ = some (.int .i64 f.states) ∧ wx.cell? ⟨w.heap.size, 1, none⟩ = some (.int .i64 f.start) ∧ wx.cell? ⟨w.heap.size, 2, none⟩ = some (.slice fa fn fc) ∧ wx.cell? ⟨w.heap.size, 3, none⟩ = some (.slice aa an ac) ∧ wx.cell? ⟨w.heap.size + 1, 0, none⟩ = some (.int .i64 g.states) ∧ wx.cell? ⟨w.heap.size + 1, 1, none⟩ = some (.int .i64 g.start) ∧ wx.cell? ⟨w.heap.size + 1, 2, none⟩ = some (.slice ga gn gc) ∧ wx.cell? ⟨w.heap.size + 1, 3, none⟩ = some (.slice ba bn bc)) wx) := fun W h => by
    obtain ⟨_, _, _, f1, g1, _⟩ := HALL.out W h
    exact ⟨box_cell (k := 0) f1 rfl, box_cell (k := 1) f1 rfl, box_cell (k := 2) f1 rfl, box_cell (k := 3) f1 rfl, box_cell (k := 0) g1 rfl, box_cell (k := 1) g1 rfl, box_cell (k := 2) g1 rfl, box_cell (k := 3) g1 rfl⟩
  have HCJ2 : Hid (∀ W B, Below w8.heap.size w8 W → W.heap[B]? = some (.cells #[.int .i64 f.states, .int .i64 f.start, .slice fa fn fc, .slice aa an ac, .int .i64 g.states, .int .i64 g.start, .slice ga gn gc, .slice ba bn bc] 25 (0, 0)) → Calls Try.prog 26 #[.slice (some ⟨B, 0, none⟩) 2 2] W fun e w' => e = .returned (.int .i64 u) ∧ Below W.heap.size W w') := fun W B hb hB => by
    obtain ⟨m1, m2, m3, m4, _⟩ := HM.out W (HALL.out W hb).2.2.2.2.2
    rw [HDEF.out.2.1]
    exact checkJoin2_any f g _ _ aa an ac ba bn bc B W ⟨box_cell (k := 0) hB rfl, box_cell (k := 1) hB rfl, box_cell (k := 2) hB rfl, box_cell (k := 3) hB rfl⟩ ⟨box_cell (k := 4) hB rfl, box_cell (k := 5) hB rfl, box_cell (k := 6) hB rfl, box_cell (k := 7) hB rfl⟩ m1 m2 HLEN.out.2.1 m3 m4 HLEN.out.2.2
  have HCJ1 : Hid (∀ W B, Below w8.heap.size w8 W → W.heap[B]? = some (.cells #[.int .i64 f.states, .int .i64 f.start, .slice fa fn fc, .slice aa an ac] 25 (0, 0)) → Calls Try.prog 26 #[.slice (some ⟨B, 0, none⟩) 1 1] W fun e w' => e = .returned (.int .i64 v) ∧ Below W.heap.size W w') := fun W B hb hB => by
    obtain ⟨m1, m2, _⟩ := HM.out W (HALL.out W hb).2.2.2.2.2
    rw [HDEF.out.2.2]
    exact checkJoin1_any f _ aa an ac B W ⟨box_cell (k := 0) hB rfl, box_cell (k := 1) hB rfl, box_cell (k := 2) hB rfl, box_cell (k := 3) hB rfl⟩ m1 m2 HLEN.out.2.1
  clear hw8 hBZ hu hx hI7 hA7 hb7 hbo HX HY HZ HF HEI HBE HAG
  go_wp2_with fail
  rw [← HQ.out.1, ← HQ.out.2]
  clear HQ
  obtain ⟨Wd, hWd⟩ : ∃ Wd, Wd = w8.drew := ⟨_, rfl⟩
  have hbd : Below w8.heap.size w8 Wd := by rw [hWd]; exact (bel_self w8).drew
  have hS0 := HS.out Wd hbd
  have HW : Hid (Wd = w8.drew) := hWd
  clear hWd
  go_cut [15, 16] from 20 (fun t15 t16 wx => t15 = .int .i64 u ∧ t16 = .int .i64 v ∧ Below w8.heap.size w8 wx)
  case first =>
    refine wp_region_noPanic ?_
    refine wp_region_U (fun wx : World => wx.cell? ⟨w.heap.size, 0, none⟩ = some (.int .i64 f.states) ∧ wx.cell? ⟨w.heap.size, 1, none⟩ = some (.int .i64 f.start) ∧ wx.cell? ⟨w.heap.size, 2, none⟩ = some (.slice fa fn fc) ∧ wx.cell? ⟨w.heap.size, 3, none⟩ = some (.slice aa an ac) ∧ wx.cell? ⟨w.heap.size + 1, 0, none⟩ = some (.int .i64 g.states) ∧ wx.cell? ⟨w.heap.size + 1, 1, none⟩ = some (.int .i64 g.start) ∧ wx.cell? ⟨w.heap.size + 1, 2, none⟩ = some (.slice ga gn gc) ∧ wx.cell? ⟨w.heap.size + 1, 3, none⟩ = some (.slice ba bn bc)) 8 (by kernel_rfl) (by rw [← HW.out]; exact hS0) (fun _ => ?_)
    rw [← HW.out]
    clear HW
    refine wpAnyU_take (i := 0) (v := .agg #[.int .i64 f.states, .int .i64 f.start, .slice fa fn fc, .slice aa an ac]) rfl (by kernel_rfl) (by kernel_rfl) (by kernel_rfl) (by kernel_rfl) (fun _ _ _ h => h) (Or.inl ⟨by rfl, fun wl hSw => ?_⟩) hS0 ?_
    · (try dsimp only at hSw); go_simp
    refine wpAnyU_take (i := 1) (v := .agg #[.int .i64 g.states, .int .i64 g.start, .slice ga gn gc, .slice ba bn bc]) rfl (by kernel_rfl) (by kernel_rfl) (by kernel_rfl) (by kernel_rfl) (fun _ _ _ h => h) (Or.inl ⟨by rfl, fun wl hSw => ?_⟩) hS0 ?_
    · (try dsimp only at hSw); go_simp
    refine wpAnyU_take (i := 4) (v := .agg #[.int .i64 f.states, .int .i64 f.start, .slice fa fn fc, .slice aa an ac]) rfl (by kernel_rfl) (by kernel_rfl) (by kernel_rfl) (by kernel_rfl) (fun _ _ _ h => h) (Or.inl ⟨by rfl, fun wl hSw => ?_⟩) hS0 ?_
    · (try dsimp only at hSw); go_simp
    refine wpAnyU_two (i := 2) (j := 5) rfl rfl (by kernel_rfl) (fun K hK => ?_) (fun K hK => ?_)
    · go_simp
      have hu1 := bel_up (bel_self Wd) (.cells #[.int .i64 f.states, .int .i64 f.start, .slice fa fn fc, .slice aa an ac, .int .i64 g.states, .int .i64 g.start, .slice ga gn gc, .slice ba bn bc] 25)
      have h81 := bel_on hbd hu1
      refine hK.out _ _ ⟨fun _ => HS.out _ h81, ?_⟩
      clear hK K
      obtain ⟨V1, hV1⟩ : ∃ V, V = Wd.alloc (.cells #[.int .i64 f.states, .int .i64 f.start, .slice fa fn fc, .slice aa an ac, .int .i64 g.states, .int .i64 g.start, .slice ga gn gc, .slice ba bn bc] 25) := ⟨_, rfl⟩
      have hB1 : V1.heap[Wd.heap.size]? = some (.cells #[.int .i64 f.states, .int .i64 f.start, .slice fa fn fc, .slice aa an ac, .int .i64 g.states, .int .i64 g.start, .slice ga gn gc, .slice ba bn bc] 25 (0, 0)) := by rw [hV1]; exact heap_alloc_new Wd _
      rw [← hV1] at h81 ⊢
      clear hV1 hu1
      refine wpAnyU_two (i := 3) (j := 5) rfl rfl (by kernel_rfl) (fun K hK => ?_) (fun K hK => ?_)
      · go_simp
        refine (HCJ2.out V1 _ h81 hB1).mono ?_
        rintro e V2 ⟨rfl, hc2⟩
        have h82 := bel_on h81 hc2
        refine hK.out _ _ ⟨fun _ => HS.out _ h82, ?_⟩
        clear hK K
        refine wpAnyU_one (i := 5) rfl (by kernel_rfl) (fun K hK => ?_)
        go_simp
        obtain ⟨V3, hV3⟩ : ∃ V, V = V2.alloc (.cells #[.int .i64 f.states, .int .i64 f.start, .slice fa fn fc, .slice aa an ac] 25) := ⟨_, rfl⟩
        have h83 : Below w8.heap.size w8 V3 := by rw [hV3]; exact bel_on h82 (bel_up (bel_self V2) _)
        have hB3 : V3.heap[V2.heap.size]? = some (.cells #[.int .i64 f.states, .int .i64 f.start, .slice fa fn fc, .slice aa an ac] 25 (0, 0)) := by rw [hV3]; exact heap_alloc_new V2 _
        rw [← hV3]
        clear hV3
        refine hK.out _ _ ⟨fun _ => HS.out _ h83, ?_⟩
        clear hK K
        refine wpAnyU_one (i := 6) rfl (by kernel_rfl) (fun K hK => ?_)
        go_simp
        refine (HCJ1.out V3 _ h83 hB3).mono ?_
        rintro e V9 ⟨rfl, hc9⟩
        have h89 := bel_on h83 hc9
        refine hK.out _ _ ⟨fun _ => HS.out _ h89, ?_⟩
        clear hK K
        refine wpAnyU_one (i := 7) rfl (by kernel_rfl) (fun K hK => ?_)
        go_simp
        refine hK.out _ _ ⟨fun _ => HS.out _ h89, ?_⟩
        clear hK K
        refine wpAnyU_one (i := 8) rfl (by kernel_rfl) (fun K hK => ?_)
        go_simp
        refine hK.out _ _ ⟨fun h => absurd rfl h, ?_⟩
        clear hK K
        refine wpAnyU_done (by kernel_rfl) ?_ _
        refine NoPanic.normal ?_
        go_wp2
        go_meet
        case rel => exact ⟨rfl, rfl, h89⟩
      · go_simp
        obtain ⟨V2, hV2⟩ : ∃ V, V = V1.alloc (.cells #[.int .i64 f.states, .int .i64 f.start, .slice fa fn fc, .slice aa an ac] 25) := ⟨_, rfl⟩
        have hu2 : Below V1.heap.size V1 V2 := by rw [hV2]; exact bel_up (bel_self V1) _
        have h82 := bel_on h81 hu2
        have hB2 : V2.heap[V1.heap.size]? = some (.cells #[.int .i64 f.states, .int .i64 f.start, .slice fa fn fc, .slice aa an ac] 25 (0, 0)) := by rw [hV2]; exact heap_alloc_new V1 _
        have hB12 := heap_bel hu2 hB1
        rw [← hV2]
        clear hV2
        refine hK.out _ _ ⟨fun _ => HS.out _ h82, ?_⟩
        clear hK K
        refine wpAnyU_one (i := 3) rfl (by kernel_rfl) (fun K hK => ?_)
        go_simp
        refine (HCJ2.out V2 _ h82 hB12).mono ?_
        rintro e V3 ⟨rfl, hc3⟩
        have h83 := bel_on h82 hc3
        have hB3 := heap_bel hc3 hB2
        refine hK.out _ _ ⟨fun _ => HS.out _ h83, ?_⟩
        clear hK K
        refine wpAnyU_one (i := 6) rfl (by kernel_rfl) (fun K hK => ?_)
        go_simp
        refine (HCJ1.out V3 _ h83 hB3).mono ?_
        rintro e V9 ⟨rfl, hc9⟩
        have h89 := bel_on h83 hc9
        refine hK.out _ _ ⟨fun _ => HS.out _ h89, ?_⟩
        clear hK K
        refine wpAnyU_one (i := 7) rfl (by kernel_rfl) (fun K hK => ?_)
        go_simp
        refine hK.out _ _ ⟨fun _ => HS.out _ h89, ?_⟩
        clear hK K
        refine wpAnyU_one (i := 8) rfl (by kernel_rfl) (fun K hK => ?_)
        go_simp
        refine hK.out _ _ ⟨fun h => absurd rfl h, ?_⟩
        clear hK K
        refine wpAnyU_done (by kernel_rfl) ?_ _
        refine NoPanic.normal ?_
        go_wp2
        go_meet
        case rel => exact ⟨rfl, rfl, h89⟩
    · go_simp
      obtain ⟨V1, hV1⟩ : ∃ V, V = Wd.alloc (.cells #[.int .i64 f.states, .int .i64 f.start, .slice fa fn fc, .slice aa an ac] 25) := ⟨_, rfl⟩
      have h81 : Below w8.heap.size w8 V1 := by rw [hV1]; exact bel_on hbd (bel_up (bel_self Wd) _)
      have hB1 : V1.heap[Wd.heap.size]? = some (.cells #[.int .i64 f.states, .int .i64 f.start, .slice fa fn fc, .slice aa an ac] 25 (0, 0)) := by rw [hV1]; exact heap_alloc_new Wd _
      rw [← hV1]
      clear hV1
      refine hK.out _ _ ⟨fun _ => HS.out _ h81, ?_⟩
      clear hK K
      refine wpAnyU_one (i := 2) rfl (by kernel_rfl) (fun K hK => ?_)
      go_simp
      obtain ⟨V2, hV2⟩ : ∃ V, V = V1.alloc (.cells #[.int .i64 f.states, .int .i64 f.start, .slice fa fn fc, .slice aa an ac, .int .i64 g.states, .int .i64 g.start, .slice ga gn gc, .slice ba bn bc] 25) := ⟨_, rfl⟩
      have hu2 : Below V1.heap.size V1 V2 := by rw [hV2]; exact bel_up (bel_self V1) _
      have h82 := bel_on h81 hu2
      have hB2 : V2.heap[V1.heap.size]? = some (.cells #[.int .i64 f.states, .int .i64 f.start, .slice fa fn fc, .slice aa an ac, .int .i64 g.states, .int .i64 g.start, .slice ga gn gc, .slice ba bn bc] 25 (0, 0)) := by rw [hV2]; exact heap_alloc_new V1 _
      have hB12 := heap_bel hu2 hB1
      rw [← hV2]
      clear hV2
      refine hK.out _ _ ⟨fun _ => HS.out _ h82, ?_⟩
      clear hK K
      refine wpAnyU_one (i := 3) rfl (by kernel_rfl) (fun K hK => ?_)
      go_simp
      refine (HCJ2.out V2 _ h82 hB2).mono ?_
      rintro e V3 ⟨rfl, hc3⟩
      have h83 := bel_on h82 hc3
      have hB3 := heap_bel hc3 hB12
      refine hK.out _ _ ⟨fun _ => HS.out _ h83, ?_⟩
      clear hK K
      refine wpAnyU_one (i := 6) rfl (by kernel_rfl) (fun K hK => ?_)
      go_simp
      refine (HCJ1.out V3 _ h83 hB3).mono ?_
      rintro e V9 ⟨rfl, hc9⟩
      have h89 := bel_on h83 hc9
      refine hK.out _ _ ⟨fun _ => HS.out _ h89, ?_⟩
      clear hK K
      refine wpAnyU_one (i := 7) rfl (by kernel_rfl) (fun K hK => ?_)
      go_simp
      refine hK.out _ _ ⟨fun _ => HS.out _ h89, ?_⟩
      clear hK K
      refine wpAnyU_one (i := 8) rfl (by kernel_rfl) (fun K hK => ?_)
      go_simp
      refine hK.out _ _ ⟨fun h => absurd rfl h, ?_⟩
      clear hK K
      refine wpAnyU_done (by kernel_rfl) ?_ _
      refine NoPanic.normal ?_
      go_wp2
      go_meet
      case rel => exact ⟨rfl, rfl, h89⟩
  case rest =>
    obtain ⟨rfl, rfl, hb9⟩ := hcut
    rename World => w9
    clear hS0 hbd HW HCJ1 HCJ2
    have HCW : Hid (∀ W, Below w.heap.size w W → Calls Try.prog 15 #[.slice ia il ic] W fun e w' => e = .returned (.int .i64 (wordD ins)) ∧ Below W.heap.size W w') := fun W h => checkWord_any ins ia il ic W (HM.out W h).2.2.2.2.1 HLEN.out.1.1
    have HCV : Hid (∀ W, Below w.heap.size w W → Calls Try.prog 15 #[.slice oa ol oc] W fun e w' => e = .returned (.int .i64 (wordD outs)) ∧ Below W.heap.size W w') := fun W h => checkWord_any outs oa ol oc W (HM.out W h).2.2.2.2.2 HLEN.out.1.2
    have HWD : Hid (∀ W, Below w8.heap.size w8 W → Below w.heap.size w W) := fun W h => (HALL.out W h).2.2.2.2.2
    by_cases hw1 : wordD ins = 0
    · rw [hw1] at HCW
      by_cases hw2 : wordD outs = 0
      · rw [hw2] at HCV
        by_cases hle : (il : Int) + ol ≤ 12
        · have hng : ¬ ((12 : Int) < (il : Int) + ol) := by omega
          have hwil : IntKind.i64.wrap ((il : Int) + ol) = il + ol := wrap_in _ (by omega) (by omega)
          go_wp2_with fail
          refine (HCW.out w9 (HWD.out w9 hb9)).mono ?_
          rintro e w10 ⟨rfl, hc10⟩
          have hb10 := bel_on hb9 hc10
          go_wp2_with fail
          refine (HCV.out w10 (HWD.out w10 hb10)).mono ?_
          rintro e w11 ⟨rfl, hc11⟩
          have hb11 := bel_on hb10 hc11
          clear hc10 hc11
          by_cases hu0 : u = 0
          · subst hu0
            obtain ⟨kc, kc', k3, k4⟩ := errJ_ok HDEF.out.2.1.symm
            have kF := fine_of kc
            have kG := fine_of kc'
            have kf1 := kF.s1
            have kg1 := kG.s1
            have hv0 : v = 0 := by
              rw [HDEF.out.2.2]
              rcases errA_def f with ⟨h1, _⟩ | ⟨_, h2, _⟩ | ⟨_, _, h3⟩
              · exact absurd kc h1
              · omega
              · exact h3
            subst hv0
            have HXD : Hid (X = eitherD f g ∧ Y = behindD f g ∧ Z = againD f) := by
              obtain ⟨⟨h1, h2, h3⟩, h4, h5⟩ := HDEF.out
              refine ⟨?_, ?_, ?_⟩
              · rw [h1]; unfold eithX; rw [if_pos h4.symm]
              · rw [h2]; unfold behX; rw [if_pos h4.symm]
              · rw [h3]; unfold agaX; rw [if_pos h5.symm]
            have HSF : Hid (∀ W, Below w8.heap.size w8 W → Calls Try.prog 12 #[.agg #[.int .i64 f.states, .int .i64 f.start, .slice fa fn fc, .slice aa an ac], .slice ia il ic, .slice oa ol oc] W fun e w' => ∃ x, e = .returned (.int .i64 x) ∧ BestP f ins outs f.start.toNat x ∧ Below W.heap.size W w') := fun W h => by
              obtain ⟨m1, m2, m3, m4, m5, m6⟩ := HM.out W (HWD.out W h)
              exact scoreOf_fine f ins outs fa fn fc aa an ac ia il ic oa ol oc W kc hw1 hw2 m1 m2 HLEN.out.2.1 m5 HLEN.out.1.1 m6 HLEN.out.1.2
            have HSG : Hid (∀ W, Below w8.heap.size w8 W → Calls Try.prog 12 #[.agg #[.int .i64 g.states, .int .i64 g.start, .slice ga gn gc, .slice ba bn bc], .slice ia il ic, .slice oa ol oc] W fun e w' => ∃ x, e = .returned (.int .i64 x) ∧ BestP g ins outs g.start.toNat x ∧ Below W.heap.size W w') := fun W h => by
              obtain ⟨m1, m2, m3, m4, m5, m6⟩ := HM.out W (HWD.out W h)
              exact scoreOf_fine g ins outs ga gn gc ba bn bc ia il ic oa ol oc W kc' hw1 hw2 m3 m4 HLEN.out.2.2 m5 HLEN.out.1.1 m6 HLEN.out.1.2
            have HBO : Hid (∀ W, Below w8.heap.size w8 W → Calls Try.prog 28 #[.agg #[.int .i64 f.states, .int .i64 f.start, .slice fa fn fc, .slice aa an ac], .agg #[.int .i64 g.states, .int .i64 g.start, .slice ga gn gc, .slice ba bn bc], .slice ia il ic, .slice oa ol oc] W fun e w' => ∃ x, e = .returned (.int .i64 x) ∧ BestP (behindD f g) ins outs (behindD f g).start.toNat x ∧ Below W.heap.size W w') := fun W h => by
              obtain ⟨m1, m2, m3, m4, m5, m6⟩ := HM.out W (HWD.out W h)
              exact behindOf_fine f g ins outs fa fn fc aa an ac ga gn gc ba bn bc ia il ic oa ol oc W kc kc' hw1 hw2 m1 m2 HLEN.out.2.1 m3 m4 HLEN.out.2.2 m5 HLEN.out.1.1 hic m6 HLEN.out.1.2 hoc
            have HAO : Hid (∀ W, Below w8.heap.size w8 W → Calls Try.prog 29 #[.agg #[.int .i64 f.states, .int .i64 f.start, .slice fa fn fc, .slice aa an ac], .slice ia il ic, .slice oa ol oc] W fun e w' => ∃ x, e = .returned (.int .i64 x) ∧ BestP (againD f) ins outs (againD f).start.toNat x ∧ Below W.heap.size W w') := fun W h => by
              obtain ⟨m1, m2, m3, m4, m5, m6⟩ := HM.out W (HWD.out W h)
              exact againOf_fine f ins outs fa fn fc aa an ac ia il ic oa ol oc W kc hw1 hw2 m1 m2 HLEN.out.2.1 m5 HLEN.out.1.1 hic m6 HLEN.out.1.2 hoc
            have HKK : Hid (checkD f = 0 ∧ checkD g = 0 ∧ f.states + g.states ≤ 198 ∧ f.arcs.length + g.arcs.length ≤ 2500 ∧ 1 ≤ f.states ∧ 1 ≤ g.states) := ⟨kc, kc', k3, k4, kf1, kg1⟩
            have hwfg : IntKind.i64.wrap (f.states + g.states) = f.states + g.states := wrap_in _ (by omega) (by omega)
            have hbd := bel_on hb11 (bel_self w11).drew
            have S0 := HS.out w11.drew hbd
            have hsf := HSF.out w11.drew hbd
            clear kF kG kc kc' k3 k4 kf1 kg1 HCW HCV
            go_wp2_with fail
            go_region_held3 (fun wx : World => wx.cell? ⟨w.heap.size, 0, none⟩ = some (.int .i64 f.states) ∧ wx.cell? ⟨w.heap.size, 1, none⟩ = some (.int .i64 f.start) ∧ wx.cell? ⟨w.heap.size, 2, none⟩ = some (.slice fa fn fc) ∧ wx.cell? ⟨w.heap.size, 3, none⟩ = some (.slice aa an ac) ∧ wx.cell? ⟨w.heap.size + 1, 0, none⟩ = some (.int .i64 g.states) ∧ wx.cell? ⟨w.heap.size + 1, 1, none⟩ = some (.int .i64 g.start) ∧ wx.cell? ⟨w.heap.size + 1, 2, none⟩ = some (.slice ga gn gc) ∧ wx.cell? ⟨w.heap.size + 1, 3, none⟩ = some (.slice ba bn bc)) (first | exact HS.out _ hb15 | exact HS.out _ hb13 | exact HS.out _ hb12 | exact S0) (first
              | (go_at_call 12
                 refine hsf.mono ?_
                 rintro e w12 ⟨xf, rfl, bbf, hc12⟩
                 have hb12 := bel_on hbd hc12
                 have HXF : Hid (BestP f ins outs f.start.toNat xf) := bbf
                 have hsg := HSG.out w12 hb12
                 clear hsf bbf hc12)
              | (go_at_call 12
                 refine hsg.mono ?_
                 rintro e w13 ⟨xg, rfl, bbg, hc13⟩
                 have hb13 := bel_on hb12 hc13
                 have HXG : Hid (BestP g ins outs g.start.toNat xg) := bbg
                 clear hsg bbg hc13)
              | (go_at_call 27
                 refine (lessRef_any _ _ _).mono ?_
                 rintro e w14 ⟨rfl, rfl⟩)
              | (go_at_call 28
                 refine (HBO.out _ hb13).mono ?_
                 rintro e w15 ⟨xb, rfl, bbb, hc15⟩
                 have hb15 := bel_on hb13 hc15
                 have HXBB : Hid (BestP (behindD f g) ins outs (behindD f g).start.toNat xb) := bbb
                 clear bbb hc15))
            obtain ⟨t0, t1, t2, t3, _⟩ := HS.out w15 hb15
            have hao := HAO.out w15 hb15
            go_wp2_with fail
            refine hao.mono ?_
            rintro e w16 ⟨xz, rfl, bbz, hc16⟩
            have hb16 := bel_on hb15 hc16
            obtain ⟨xe', hxe⟩ : ∃ x, x = lessC xf xg := ⟨_, rfl⟩
            rw [← hxe]
            have HJX : Hid (∀ W, Below w8.heap.size w8 W → Calls Try.prog 30 #[.agg #[.int .i64 X.states, .int .i64 X.start, .slice xa xn xc, .slice xd xm xe], .int .i64 0, .int .i64 0, .int .i64 (f.states + g.states), .slice ia il ic, .slice oa ol oc, .int .i64 xe'] W fun e w' => e = .returned (.bool true) ∧ Below W.heap.size W w') := fun W h => by
              obtain ⟨⟨_, m1, m2⟩, _, _, _, _, m3⟩ := HALL.out W h
              obtain ⟨_, _, _, _, m5, m6⟩ := HM.out W m3
              obtain ⟨kc, kc', k3, k4, k5, k6⟩ := HKK.out
              refine joined_ok X ins outs _ _ _ _ _ _ _ _ _ _ _ _ _ _ W ?_ (by omega) (by omega) ?_ hw1 hw2 ?_ m1 m2 m5 m6
              · rw [HXD.out.1]; exact (join_right kc kc' k3 k4).1
              · rw [HXD.out.1]; show f.states + g.states + 1 ≤ f.states + g.states + 2; omega
              · rw [HXD.out.1, hxe]; exact either_best kc kc' HXF.out HXG.out
            have HJY : Hid (∀ W, Below w8.heap.size w8 W → Calls Try.prog 30 #[.agg #[.int .i64 Y.states, .int .i64 Y.start, .slice ya yn yc, .slice yd ym ye], .int .i64 0, .int .i64 0, .int .i64 (f.states + g.states), .slice ia il ic, .slice oa ol oc, .int .i64 xb] W fun e w' => e = .returned (.bool true) ∧ Below W.heap.size W w') := fun W h => by
              obtain ⟨_, ⟨_, m1, m2⟩, _, _, _, m3⟩ := HALL.out W h
              obtain ⟨_, _, _, _, m5, m6⟩ := HM.out W m3
              obtain ⟨kc, kc', k3, k4, k5, k6⟩ := HKK.out
              refine joined_ok Y ins outs _ _ _ _ _ _ _ _ _ _ _ _ _ _ W ?_ (by omega) (by omega) ?_ hw1 hw2 ?_ m1 m2 m5 m6
              · rw [HXD.out.2.1]; exact (join_right kc kc' k3 k4).2
              · rw [HXD.out.2.1]; show f.states + g.states ≤ f.states + g.states + 2; omega
              · rw [HXD.out.2.1]; exact HXBB.out
            have HJZ : Hid (∀ W, Below w8.heap.size w8 W → Calls Try.prog 30 #[.agg #[.int .i64 Z.states, .int .i64 Z.start, .slice za zn zc, .slice zd zm ze], .int .i64 0, .int .i64 0, .int .i64 f.states, .slice ia il ic, .slice oa ol oc, .int .i64 xz] W fun e w' => e = .returned (.bool true) ∧ Below W.heap.size W w') := fun W h => by
              obtain ⟨_, _, ⟨_, m1, m2⟩, _, _, m3⟩ := HALL.out W h
              obtain ⟨_, _, _, _, m5, m6⟩ := HM.out W m3
              obtain ⟨kc, kc', k3, k4, k5, k6⟩ := HKK.out
              refine joined_ok Z ins outs _ _ _ _ _ _ _ _ _ _ _ _ _ _ W ?_ (by omega) (by omega) ?_ hw1 hw2 ?_ m1 m2 m5 m6
              · rw [HXD.out.2.2]; exact aga_right kc (by omega) (by omega)
              · rw [HXD.out.2.2]; show f.states + 1 ≤ f.states + 2; omega
              · rw [HXD.out.2.2]; exact bbz
            clear hxe HXD HXF HXG HXBB HKK bbz t0 t1 t2 t3 hao hc16 S0 HSF HSG HBO HAO HDEF
            obtain ⟨⟨bx, _, _⟩, _, _, bf, bg, _⟩ := HALL.out w16 hb16
            have x0 := box_cell (k := 0) bx rfl
            have x1 := box_cell (k := 1) bx rfl
            have x2 := box_cell (k := 2) bx rfl
            have x3 := box_cell (k := 3) bx rfl
            have y0 := box_cell (k := 0) bf rfl
            have y1 := box_cell (k := 0) bg rfl
            have hj := HJX.out w16 hb16
            clear bx bf bg
            go_wp2_with fail
            refine hj.mono ?_
            rintro e w17 ⟨rfl, hc17⟩
            have hb17 := bel_on hb16 hc17
            clear hj x0 x1 x2 x3 y0 y1 hc17
            obtain ⟨_, ⟨bx, _, _⟩, _, bf, bg, _⟩ := HALL.out w17 hb17
            have x0 := box_cell (k := 0) bx rfl
            have x1 := box_cell (k := 1) bx rfl
            have x2 := box_cell (k := 2) bx rfl
            have x3 := box_cell (k := 3) bx rfl
            have y0 := box_cell (k := 0) bf rfl
            have y1 := box_cell (k := 0) bg rfl
            have hj := HJY.out w17 hb17
            clear bx bf bg
            go_wp2_with fail
            refine hj.mono ?_
            rintro e w18 ⟨rfl, hc18⟩
            have hb18 := bel_on hb17 hc18
            clear hj x0 x1 x2 x3 y0 y1 hc18
            obtain ⟨_, _, ⟨bx, _, _⟩, bf, bg, _⟩ := HALL.out w18 hb18
            have x0 := box_cell (k := 0) bx rfl
            have x1 := box_cell (k := 1) bx rfl
            have x2 := box_cell (k := 2) bx rfl
            have x3 := box_cell (k := 3) bx rfl
            have y0 := box_cell (k := 0) bf rfl
            have hj := HJZ.out w18 hb18
            clear bx bf bg
            go_wp2_with fail
            refine hj.mono ?_
            rintro e w19 ⟨rfl, hc19⟩
            have hb19 := bel_on hb18 hc19
            clear hj x0 x1 x2 x3 y0 hc19
            go_wp2
            go_ret
            exact ⟨rfl, HWD.out _ hb19⟩
          · have hu0b : (u == 0) = false := by simpa using hu0
            have hu0n : (u != 0) = true := by simpa using hu0
            have HXD : Hid (X.states = 0 ∧ Y.states = 0) := by
              obtain ⟨⟨h1, h2, _⟩, h4, _⟩ := HDEF.out
              refine ⟨?_, ?_⟩
              · rw [h1]; unfold eithX; rw [if_neg (fun e => hu0 (h4.trans e))]
              · rw [h2]; unfold behX; rw [if_neg (fun e => hu0 (h4.trans e))]
            have HJX : Hid (∀ W (ms : Int), Below w8.heap.size w8 W → Calls Try.prog 30 #[.agg #[.int .i64 X.states, .int .i64 X.start, .slice xa xn xc, .slice xd xm xe], .int .i64 u, .int .i64 u, .int .i64 ms, .slice ia il ic, .slice oa ol oc, .int .i64 0] W fun e w' => e = .returned (.bool true) ∧ Below W.heap.size W w') := fun W _ _ => joined_bad X u _ _ hu0b HXD.out.1 _ _ _ _ _ _ _ _ W
            have HJY : Hid (∀ W (ms : Int), Below w8.heap.size w8 W → Calls Try.prog 30 #[.agg #[.int .i64 Y.states, .int .i64 Y.start, .slice ya yn yc, .slice yd ym ye], .int .i64 u, .int .i64 u, .int .i64 ms, .slice ia il ic, .slice oa ol oc, .int .i64 0] W fun e w' => e = .returned (.bool true) ∧ Below W.heap.size W w') := fun W _ _ => joined_bad Y u _ _ hu0b HXD.out.2 _ _ _ _ _ _ _ _ W
            by_cases hv0 : v = 0
            · subst hv0
              obtain ⟨kc, k3, k4⟩ := errA_ok HDEF.out.2.2.symm
              have kf1 := (fine_of kc).s1
              have HZD : Hid (Z = againD f) := by
                obtain ⟨⟨_, _, h3⟩, _, h5⟩ := HDEF.out
                rw [h3]; unfold agaX; rw [if_pos h5.symm]; exact (rfl : againD f = againD f)
              have HKK : Hid (checkD f = 0 ∧ f.states ≤ 198 ∧ f.arcs.length ≤ 2500 ∧ 1 ≤ f.states) := ⟨kc, k3, k4, kf1⟩
              have hao : Calls Try.prog 29 #[.agg #[.int .i64 f.states, .int .i64 f.start, .slice fa fn fc, .slice aa an ac], .slice ia il ic, .slice oa ol oc] w11 fun e w' => ∃ x, e = .returned (.int .i64 x) ∧ BestP (againD f) ins outs (againD f).start.toNat x ∧ Below w11.heap.size w11 w' := by
                obtain ⟨m1, m2, m3, m4, m5, m6⟩ := HM.out w11 (HWD.out w11 hb11)
                exact againOf_fine f ins outs fa fn fc aa an ac ia il ic oa ol oc w11 kc hw1 hw2 m1 m2 HLEN.out.2.1 m5 HLEN.out.1.1 hic m6 HLEN.out.1.2 hoc
              obtain ⟨t0, t1, t2, t3, _⟩ := HS.out w11 hb11
              clear kc k3 k4 kf1 HCW HCV
              go_wp2_with fail
              refine hao.mono ?_
              rintro e w16 ⟨xz, rfl, bbz, hc16⟩
              have hb16 := bel_on hb11 hc16
              have HJZ : Hid (∀ W, Below w8.heap.size w8 W → Calls Try.prog 30 #[.agg #[.int .i64 Z.states, .int .i64 Z.start, .slice za zn zc, .slice zd zm ze], .int .i64 0, .int .i64 0, .int .i64 f.states, .slice ia il ic, .slice oa ol oc, .int .i64 xz] W fun e w' => e = .returned (.bool true) ∧ Below W.heap.size W w') := fun W h => by
                obtain ⟨_, _, ⟨_, m1, m2⟩, _, _, m3⟩ := HALL.out W h
                obtain ⟨_, _, _, _, m5, m6⟩ := HM.out W m3
                obtain ⟨kc, k3, k4, k5⟩ := HKK.out
                refine joined_ok Z ins outs _ _ _ _ _ _ _ _ _ _ _ _ _ _ W ?_ (by omega) (by omega) ?_ hw1 hw2 ?_ m1 m2 m5 m6
                · rw [HZD.out]; exact aga_right kc k3 k4
                · rw [HZD.out]; show f.states + 1 ≤ f.states + 2; omega
                · rw [HZD.out]; exact bbz
              clear HXD HZD HKK bbz t0 t1 t2 t3 hao hc16 HDEF
              obtain ⟨⟨bx, _, _⟩, _, _, bf, bg, _⟩ := HALL.out w16 hb16
              have x0 := box_cell (k := 0) bx rfl
              have x1 := box_cell (k := 1) bx rfl
              have x2 := box_cell (k := 2) bx rfl
              have x3 := box_cell (k := 3) bx rfl
              have y0 := box_cell (k := 0) bf rfl
              have y1 := box_cell (k := 0) bg rfl
              have hj := fun ms : Int => HJX.out w16 ms hb16
              clear bx bf bg
              go_wp2_with fail
              refine (hj _).mono ?_
              rintro e w17 ⟨rfl, hc17⟩
              have hb17 := bel_on hb16 hc17
              clear hj x0 x1 x2 x3 y0 y1 hc17
              obtain ⟨_, ⟨bx, _, _⟩, _, bf, bg, _⟩ := HALL.out w17 hb17
              have x0 := box_cell (k := 0) bx rfl
              have x1 := box_cell (k := 1) bx rfl
              have x2 := box_cell (k := 2) bx rfl
              have x3 := box_cell (k := 3) bx rfl
              have y0 := box_cell (k := 0) bf rfl
              have y1 := box_cell (k := 0) bg rfl
              have hj := fun ms : Int => HJY.out w17 ms hb17
              clear bx bf bg
              go_wp2_with fail
              refine (hj _).mono ?_
              rintro e w18 ⟨rfl, hc18⟩
              have hb18 := bel_on hb17 hc18
              clear hj x0 x1 x2 x3 y0 y1 hc18
              obtain ⟨_, _, ⟨bx, _, _⟩, bf, bg, _⟩ := HALL.out w18 hb18
              have x0 := box_cell (k := 0) bx rfl
              have x1 := box_cell (k := 1) bx rfl
              have x2 := box_cell (k := 2) bx rfl
              have x3 := box_cell (k := 3) bx rfl
              have y0 := box_cell (k := 0) bf rfl
              have hj := HJZ.out w18 hb18
              clear bx bf bg
              go_wp2_with fail
              refine hj.mono ?_
              rintro e w19 ⟨rfl, hc19⟩
              have hb19 := bel_on hb18 hc19
              clear hj x0 x1 x2 x3 y0 hc19
              go_wp2
              go_ret
              exact ⟨rfl, HWD.out _ hb19⟩
            · have hv0b : (v == 0) = false := by simpa using hv0
              have hv0n : (v != 0) = true := by simpa using hv0
              have HZD : Hid (Z.states = 0) := by
                obtain ⟨⟨_, _, h3⟩, _, h5⟩ := HDEF.out
                rw [h3]; unfold agaX; rw [if_neg (fun e => hv0 (h5.trans e))]; exact (rfl : (0 : Int) = 0)
              have HJZ : Hid (∀ W, Below w8.heap.size w8 W → Calls Try.prog 30 #[.agg #[.int .i64 Z.states, .int .i64 Z.start, .slice za zn zc, .slice zd zm ze], .int .i64 v, .int .i64 v, .int .i64 f.states, .slice ia il ic, .slice oa ol oc, .int .i64 0] W fun e w' => e = .returned (.bool true) ∧ Below W.heap.size W w') := fun W _ => joined_bad Z v _ _ hv0b HZD.out _ _ _ _ _ _ _ _ W
              clear HXD HZD HCW HCV HDEF
              obtain ⟨⟨bx, _, _⟩, _, _, bf, bg, _⟩ := HALL.out w11 hb11
              have x0 := box_cell (k := 0) bx rfl
              have x1 := box_cell (k := 1) bx rfl
              have x2 := box_cell (k := 2) bx rfl
              have x3 := box_cell (k := 3) bx rfl
              have y0 := box_cell (k := 0) bf rfl
              have y1 := box_cell (k := 0) bg rfl
              have hj := fun ms : Int => HJX.out w11 ms hb11
              clear bx bf bg
              go_wp2_with fail
              refine (hj _).mono ?_
              rintro e w17 ⟨rfl, hc17⟩
              have hb17 := bel_on hb11 hc17
              clear hj x0 x1 x2 x3 y0 y1 hc17
              obtain ⟨_, ⟨bx, _, _⟩, _, bf, bg, _⟩ := HALL.out w17 hb17
              have x0 := box_cell (k := 0) bx rfl
              have x1 := box_cell (k := 1) bx rfl
              have x2 := box_cell (k := 2) bx rfl
              have x3 := box_cell (k := 3) bx rfl
              have y0 := box_cell (k := 0) bf rfl
              have y1 := box_cell (k := 0) bg rfl
              have hj := fun ms : Int => HJY.out w17 ms hb17
              clear bx bf bg
              go_wp2_with fail
              refine (hj _).mono ?_
              rintro e w18 ⟨rfl, hc18⟩
              have hb18 := bel_on hb17 hc18
              clear hj x0 x1 x2 x3 y0 y1 hc18
              obtain ⟨_, _, ⟨bx, _, _⟩, bf, bg, _⟩ := HALL.out w18 hb18
              have x0 := box_cell (k := 0) bx rfl
              have x1 := box_cell (k := 1) bx rfl
              have x2 := box_cell (k := 2) bx rfl
              have x3 := box_cell (k := 3) bx rfl
              have y0 := box_cell (k := 0) bf rfl
              have hj := HJZ.out w18 hb18
              clear bx bf bg
              go_wp2_with fail
              refine hj.mono ?_
              rintro e w19 ⟨rfl, hc19⟩
              have hb19 := bel_on hb18 hc19
              clear hj x0 x1 x2 x3 y0 hc19
              go_wp2
              go_ret
              exact ⟨rfl, HWD.out _ hb19⟩
        · have hng : (12 : Int) < (il : Int) + ol := by omega
          have hil40 : il ≤ 40 ∧ ol ≤ 40 := by
            have h1 := word_len hw1
            have h2 := word_len hw2
            rw [HLEN.out.1.1] at h1
            rw [HLEN.out.1.2] at h2
            exact ⟨h1, h2⟩
          have hwil : IntKind.i64.wrap ((il : Int) + ol) = il + ol := wrap_in _ (by omega) (by omega)
          go_wp2_with fail
          refine (HCW.out w9 (HWD.out w9 hb9)).mono ?_
          rintro e w10 ⟨rfl, hc10⟩
          have hb10 := bel_on hb9 hc10
          go_wp2_with fail
          refine (HCV.out w10 (HWD.out w10 hb10)).mono ?_
          rintro e w11 ⟨rfl, hc11⟩
          have hb11 := bel_on hb10 hc11
          clear hc10 hc11
          go_wp2
          go_ret
          exact ⟨rfl, HWD.out _ hb11⟩
      · have h0b : (wordD outs == 0) = false := by simpa using hw2
        have h0n : (wordD outs != 0) = true := by simpa using hw2
        go_wp2_with fail
        refine (HCW.out w9 (HWD.out w9 hb9)).mono ?_
        rintro e w10 ⟨rfl, hc10⟩
        have hb10 := bel_on hb9 hc10
        go_wp2_with fail
        refine (HCV.out w10 (HWD.out w10 hb10)).mono ?_
        rintro e w11 ⟨rfl, hc11⟩
        have hb11 := bel_on hb10 hc11
        clear hc10 hc11
        go_wp2
        go_ret
        exact ⟨rfl, HWD.out _ hb11⟩
    · have h0b : (wordD ins == 0) = false := by simpa using hw1
      have h0n : (wordD ins != 0) = true := by simpa using hw1
      go_wp2_with (go_at_call 15; refine (HCW.out w9 (HWD.out w9 hb9)).mono ?_; rintro e w10 ⟨rfl, hc10⟩; have hb10 := bel_on hb9 hc10)
      go_ret
      exact ⟨rfl, HWD.out _ hb10⟩
end Go.Proofs.Yteehgcbjmdideaa
