/- 'SimpleTurns' of the statements, case by case. (Made by wip/gen/simq.py.) -/
import Derived.Test.YteehgcbjmdideaaQSimP
namespace Go.Proofs.Yteehgcbjmdideaa
open Go.RowKit
attribute [local go_sem ↓] Go.wp_at_zero Go.wp_at_succ

theorem IFrom.below {B : Nat} {w w' : World} {v : Value} {xs : List Int} (h : IFrom B w v xs) (hb : Below w.heap.size w w') : IFrom B w' v xs := by
  rcases h with h | ⟨g, n, cap, h0, h1, h2, h3⟩
  · exact Or.inl h
  · exact Or.inr ⟨g, n, cap, h0, h1, h2.below hb, h3⟩
theorem IFrom.set4 {B P : Nat} {w : World} {v : Value} {xs : List Int} (h : IFrom B w v xs) (hP : P < B) (u0 u1 u2 u3 : Value) : IFrom B ((((w.setCell ⟨P, 0, none⟩ u0).setCell ⟨P, 1, none⟩ u1).setCell ⟨P, 2, none⟩ u2).setCell ⟨P, 3, none⟩ u3) v xs :=
  (((h.set (i := 0) (u := u0) hP).set (i := 1) (u := u1) hP).set (i := 2) (u := u2) hP).set (i := 3) (u := u3) hP
theorem AFrom.set4 {B P : Nat} {w : World} {v : Value} {ars : List ArcD} (h : AFrom B w v ars) (hP : P < B) (u0 u1 u2 u3 : Value) : AFrom B ((((w.setCell ⟨P, 0, none⟩ u0).setCell ⟨P, 1, none⟩ u1).setCell ⟨P, 2, none⟩ u2).setCell ⟨P, 3, none⟩ u3) v ars :=
  (((h.set (i := 0) (u := u0) hP).set (i := 1) (u := u1) hP).set (i := 2) (u := u2) hP).set (i := 3) (u := u3) hP
def zeroD : FstD := ⟨0, 0, [], []⟩

theorem twice_ok {f : FstD} (hc : checkD f = 0) (fin arcs : Value) (w : World) (hf : ISlice w fin (mapD invA f).final) (ha : ASlice w arcs (mapD invA f).arcs) :
    Calls Try.prog 16 #[.agg #[.int .i64 (mapD invA f).states, .int .i64 (mapD invA f).start, fin, arcs]] w fun e w' => FstRes w f 0 e w' := by
  have h := invert_ok (mapD invA f) fin arcs w hf ha (inv_fine hc)
  rw [twice_inv hc] at h
  exact h


set_option maxHeartbeats 4000000 in
set_option maxRecDepth 100000 in
theorem turns_in (f : FstD) (side : Int) (fin arcs : Value) (w : World) (hf : ISlice w fin f.final) (ha : ASlice w arcs f.arcs) (hc : checkD f = 0) (hs : side = 1) :
    Calls Try.prog 4 #[.agg #[.int .i64 f.states, .int .i64 f.start, fin, arcs], .int .i64 side] w fun e w' => e = .returned (.bool true) ∧ Below w.heap.size w w' := by
  obtain ⟨fa, fn, fc, rfl, _, _⟩ := hf.lenOf
  obtain ⟨aa, an, ac, rfl, _, _⟩ := ha.lenOf
  subst hs
  obtain ⟨W0, hW0⟩ : ∃ W0, W0 = w.alloc (.cells #[.int .i64 f.states, .int .i64 f.start, .slice fa fn fc, .slice aa an ac] 25) := ⟨_, rfl⟩
  have hb0 : Below w.heap.size w W0 := by rw [hW0]; exact bel_up (bel_self w) _
  have hx0 : W0.heap[w.heap.size]? = some (.cells #[.int .i64 f.states, .int .i64 f.start, .slice fa fn fc, .slice aa an ac] 25 (0, 0)) := by rw [hW0]; exact heap_alloc_new w _
  have HF : Hid (∀ W, Below W0.heap.size W0 W → W.heap[w.heap.size]? = some (.cells #[.int .i64 f.states, .int .i64 f.start, .slice fa fn fc, .slice aa an ac] 25 (0, 0)) ∧ ISlice W (.slice fa fn fc) f.final ∧ ASlice W (.slice aa an ac) f.arcs ∧ Below w.heap.size w W) := fun W h => ⟨heap_bel h hx0, (hf.below hb0).below h, (ha.below hb0).below h, bel_on hb0 h⟩
  have hinv := invert_ok f _ _ W0 (HF.out W0 (bel_self _)).2.1 (HF.out W0 (bel_self _)).2.2.1 hc
  clear hf ha hb0 hx0
  go_enter Try.func4, Try.ntmps4
  go_wp2_with fail
  rw [← hW0]
  clear hW0
  refine hinv.mono ?_
  rintro e w1 ⟨fa1, fn1, fc1, ea1, en1, ec1, rfl, hI1, hA1, hb1⟩
  clear hinv
  obtain ⟨w2, hw2⟩ : ∃ w2, w2 = w1.alloc (.cells #[.int .i64 (mapD invA f).states, .int .i64 (mapD invA f).start, .slice fa1 fn1 fc1, .slice ea1 en1 ec1] 25) := ⟨_, rfl⟩
  obtain ⟨B5, hB5⟩ : ∃ B, B = w1.heap.size := ⟨_, rfl⟩
  have hu2 : Below w1.heap.size w1 w2 := by rw [hw2]; exact bel_up (bel_self w1) _
  have hx2 : w2.heap[B5]? = some (.cells #[.int .i64 (mapD invA f).states, .int .i64 (mapD invA f).start, .slice fa1 fn1 fc1, .slice ea1 en1 ec1] 25 (0, 0)) := by rw [hw2, hB5]; exact heap_alloc_new w1 _
  have hb2 := bel_on hb1 hu2
  have HX : Hid (∀ W, Below w2.heap.size w2 W → W.heap[B5]? = some (.cells #[.int .i64 (mapD invA f).states, .int .i64 (mapD invA f).start, .slice fa1 fn1 fc1, .slice ea1 en1 ec1] 25 (0, 0)) ∧ ISlice W (.slice fa1 fn1 fc1) (mapD invA f).final ∧ ASlice W (.slice ea1 en1 ec1) (mapD invA f).arcs ∧ Below W0.heap.size W0 W) := fun W h => ⟨heap_bel h hx2, (hI1.slice.below hu2).below h, (hA1.slice.below hu2).below h, bel_on hb2 h⟩
  obtain ⟨p, _, _, _⟩ := HF.out w2 hb2
  have q0 := box_cell (k := 0) p rfl
  have q1 := box_cell (k := 1) p rfl
  have q2 := box_cell (k := 2) p rfl
  have q3 := box_cell (k := 3) p rfl
  have hpro := project_in 1 rfl f _ _ w2 (HF.out w2 hb2).2.1 (HF.out w2 hb2).2.2.1 hc
  rw [hw2] at q0 q1 q2 q3
  have HQ : Hid (w2 = w1.alloc (.cells #[.int .i64 (mapD invA f).states, .int .i64 (mapD invA f).start, .slice fa1 fn1 fc1, .slice ea1 en1 ec1] 25) ∧ B5 = w1.heap.size) := ⟨hw2, hB5⟩
  clear p hw2 hB5 hu2 hx2 hI1 hA1 hb1 hb2
  go_wp2_with fail
  rw [← HQ.out.1, ← HQ.out.2]
  clear HQ q0 q1 q2 q3
  refine hpro.mono ?_
  rintro e w3 ⟨fa2, fn2, fc2, ea2, en2, ec2, rfl, hI3, hA3, hb3⟩
  clear hpro
  obtain ⟨w4, hw4⟩ : ∃ w4, w4 = w3.alloc (.cells #[.int .i64 (mapD inA f).states, .int .i64 (mapD inA f).start, .slice fa2 fn2 fc2, .slice ea2 en2 ec2] 25) := ⟨_, rfl⟩
  obtain ⟨B7, hB7⟩ : ∃ B, B = w3.heap.size := ⟨_, rfl⟩
  have hu4 : Below w3.heap.size w3 w4 := by rw [hw4]; exact bel_up (bel_self w3) _
  have hx4 : w4.heap[B7]? = some (.cells #[.int .i64 (mapD inA f).states, .int .i64 (mapD inA f).start, .slice fa2 fn2 fc2, .slice ea2 en2 ec2] 25 (0, 0)) := by rw [hw4, hB7]; exact heap_alloc_new w3 _
  have hb4 := bel_on hb3 hu4
  have HY : Hid (∀ W, Below w4.heap.size w4 W → W.heap[B7]? = some (.cells #[.int .i64 (mapD inA f).states, .int .i64 (mapD inA f).start, .slice fa2 fn2 fc2, .slice ea2 en2 ec2] 25 (0, 0)) ∧ ISlice W (.slice fa2 fn2 fc2) (mapD inA f).final ∧ ASlice W (.slice ea2 en2 ec2) (mapD inA f).arcs ∧ Below w2.heap.size w2 W) := fun W h => ⟨heap_bel h hx4, (hI3.slice.below hu4).below h, (hA3.slice.below hu4).below h, bel_on hb4 h⟩
  have hf4 := HF.out w4 (HX.out w4 hb4).2.2.2
  have p := hf4.1
  have q0 := box_cell (k := 0) p rfl
  have q1 := box_cell (k := 1) p rfl
  have q2 := box_cell (k := 2) p rfl
  have q3 := box_cell (k := 3) p rfl
  have hchk : Calls Try.prog 18 #[.agg #[.int .i64 f.states, .int .i64 f.start, .slice fa fn fc, .slice aa an ac]] w4 fun e w' => e = .returned (.int .i64 0) ∧ Below w4.heap.size w4 w' := by
    have := checkFst_any f _ _ w4 hf4.2.1 hf4.2.2.1
    rw [hc] at this
    exact this
  rw [hw4] at q0 q1 q2 q3
  have HQ : Hid (w4 = w3.alloc (.cells #[.int .i64 (mapD inA f).states, .int .i64 (mapD inA f).start, .slice fa2 fn2 fc2, .slice ea2 en2 ec2] 25) ∧ B7 = w3.heap.size) := ⟨hw4, hB7⟩
  clear p hf4 hw4 hB7 hu4 hx4 hI3 hA3 hb3 hb4
  go_wp2_with fail
  rw [← HQ.out.1, ← HQ.out.2]
  clear HQ q0 q1 q2 q3
  refine hchk.mono ?_
  rintro e w5 ⟨rfl, hb5⟩
  clear hchk
  obtain ⟨w6, hw6⟩ : ∃ w6, w6 = (w5.alloc (.cells #[.int .i64 0, .int .i64 0, .slice none 0 0, .slice none 0 0] 25)).alloc (.cells #[.int .i64 0, .int .i64 0, .slice none 0 0, .slice none 0 0] 25) := ⟨_, rfl⟩
  have hu6 : Below w5.heap.size w5 w6 := by rw [hw6]; exact two_up w5 _ _
  have hz11 : ZBlock w6 w5.heap.size := by rw [hw6]; exact heap_bel (bel_up (bel_self _) _) (heap_alloc_new w5 _)
  have hz12 : ZBlock w6 (w5.heap.size + 1) := by
    rw [hw6]
    have := heap_alloc_new (w5.alloc (.cells #[.int .i64 0, .int .i64 0, .slice none 0 0, .slice none 0 0] 25)) (.cells #[.int .i64 0, .int .i64 0, .slice none 0 0, .slice none 0 0] 25)
    rw [one_size] at this
    exact this
  obtain ⟨B11, hB11⟩ : ∃ B, B = w5.heap.size := ⟨_, rfl⟩
  have hb6 := bel_on hb5 hu6
  have HZ : Hid (∀ W, Below B11 w6 W → Below w4.heap.size w4 W) := fun W h => hb6.trans (h.mono (by rw [hB11]; exact hb5.size))
  have hs6 : B11 + 1 < w6.heap.size := by rw [hB11]; exact heap_lt hz12
  rw [← hB11] at hz11 hz12
  have HQ : Hid (w6 = (w5.alloc (.cells #[.int .i64 0, .int .i64 0, .slice none 0 0, .slice none 0 0] 25)).alloc (.cells #[.int .i64 0, .int .i64 0, .slice none 0 0, .slice none 0 0] 25) ∧ B11 = w5.heap.size) := ⟨hw6, hB11⟩
  have hY6 := HY.out w6 (HZ.out w6 (Below.refl _ _))
  have hf6 := HF.out w6 (HX.out w6 hY6.2.2.2).2.2.2
  have p := hf6.1
  have q0 := box_cell (k := 0) p rfl
  have q1 := box_cell (k := 1) p rfl
  have q2 := box_cell (k := 2) p rfl
  have q3 := box_cell (k := 3) p rfl
  have htu := turnedOf_fine f 0 invA (Or.inl ⟨rfl, rfl⟩) _ _ w6 hf6.2.1 hf6.2.2.1 hc
  rw [hw6] at q0 q1 q2 q3
  clear p hY6 hf6 hw6 hB11 hu6 hb6 hb5
  go_wp2_with fail
  rw [← HQ.out.1, ← HQ.out.2]
  clear HQ q0 q1 q2 q3
  refine htu.mono ?_
  rintro e w7 ⟨fa3, fn3, fc3, ea3, en3, ec3, rfl, hI7, hA7, hb7⟩
  clear htu
  have hz7 := heap_bel hb7 hz11
  have hz7' := heap_bel hb7 hz12
  obtain ⟨z0, z1, z2, z3, y0, y1, y2, y3⟩ := zfacts hz7
  obtain ⟨w8, hw8⟩ : ∃ w8, w8 = (((w7.setCell ⟨B11, 0, none⟩ (.int .i64 f.states)).setCell ⟨B11, 1, none⟩ (.int .i64 f.start)).setCell ⟨B11, 2, none⟩ (.slice fa3 fn3 fc3)).setCell ⟨B11, 3, none⟩ (.slice ea3 en3 ec3) := ⟨_, rfl⟩
  have hx8 : w8.heap[B11]? = some (.cells #[.int .i64 f.states, .int .i64 f.start, .slice fa3 fn3 fc3, .slice ea3 en3 ec3] 25 (0, 0)) := by rw [hw8]; exact box_set4S hz7 _ _ _ _
  have hb68 : Below B11 w6 w8 := by rw [hw8]; exact bel4 (hb7.mono (by omega)) (Nat.le_refl _) _ _ _ _
  have hz8 : ZBlock w8 (B11 + 1) := by rw [hw8]; exact heap_far (heap_far (heap_far (heap_far hz7' (by omega)) (by omega)) (by omega)) (by omega)
  have hI8 : IFrom w6.heap.size w8 (.slice fa3 fn3 fc3) f.final := by rw [hw8]; exact hI7.set4 (by omega) _ _ _ _
  have hA8 : AFrom w6.heap.size w8 (.slice ea3 en3 ec3) (leastL (f.arcs.map invA)) := by rw [hw8]; exact hA7.set4 (by omega) _ _ _ _
  clear hz7 hz7' hI7 hA7 hb7 hz11 hz12
  have hY8 := HY.out w8 (HZ.out w8 hb68)
  have hf8 := HF.out w8 (HX.out w8 hY8.2.2.2).2.2.2
  have p := hf8.1
  have q0 := box_cell (k := 0) p rfl
  have q1 := box_cell (k := 1) p rfl
  have q2 := box_cell (k := 2) p rfl
  have q3 := box_cell (k := 3) p rfl
  have htu := turnedOf_fine f 1 inA (Or.inr (Or.inl ⟨rfl, rfl⟩)) _ _ w8 hf8.2.1 hf8.2.2.1 hc
  rw [hw8] at q0 q1 q2 q3
  have HQ : Hid (w8 = (((w7.setCell ⟨B11, 0, none⟩ (.int .i64 f.states)).setCell ⟨B11, 1, none⟩ (.int .i64 f.start)).setCell ⟨B11, 2, none⟩ (.slice fa3 fn3 fc3)).setCell ⟨B11, 3, none⟩ (.slice ea3 en3 ec3)) := hw8
  clear p hY8 hf8 hw8
  go_wp2_with fail
  rw [← HQ.out]
  clear HQ q0 q1 q2 q3 z0 z1 z2 z3 y0 y1 y2 y3
  refine htu.mono ?_
  rintro e w9 ⟨fa4, fn4, fc4, ea4, en4, ec4, rfl, hI9, hA9, hb9⟩
  clear htu
  have hz9 := heap_bel hb9 hz8
  obtain ⟨z0, z1, z2, z3, y0, y1, y2, y3⟩ := zfacts hz9
  obtain ⟨wA, hwA⟩ : ∃ wA, wA = (((w9.setCell ⟨B11 + 1, 0, none⟩ (.int .i64 f.states)).setCell ⟨B11 + 1, 1, none⟩ (.int .i64 f.start)).setCell ⟨B11 + 1, 2, none⟩ (.slice fa4 fn4 fc4)).setCell ⟨B11 + 1, 3, none⟩ (.slice ea4 en4 ec4) := ⟨_, rfl⟩
  have hzl8 := heap_lt hz8
  have hxA : wA.heap[B11 + 1]? = some (.cells #[.int .i64 f.states, .int .i64 f.start, .slice fa4 fn4 fc4, .slice ea4 en4 ec4] 25 (0, 0)) := by rw [hwA]; exact box_set4S hz9 _ _ _ _
  have hxT : wA.heap[B11]? = some (.cells #[.int .i64 f.states, .int .i64 f.start, .slice fa3 fn3 fc3, .slice ea3 en3 ec3] 25 (0, 0)) := by rw [hwA]; exact heap_far (heap_far (heap_far (heap_far (heap_bel hb9 hx8) (by omega)) (by omega)) (by omega)) (by omega)
  have hIT : ISlice wA (.slice fa3 fn3 fc3) f.final := by rw [hwA]; exact ((hI8.below hb9).set4 (by omega) _ _ _ _).slice
  have hAT : ASlice wA (.slice ea3 en3 ec3) (leastL (f.arcs.map invA)) := by rw [hwA]; exact ((hA8.below hb9).set4 (by omega) _ _ _ _).slice
  have hIS : ISlice wA (.slice fa4 fn4 fc4) f.final := by rw [hwA]; exact (hI9.set4 hzl8 _ _ _ _).slice
  have hAS : ASlice wA (.slice ea4 en4 ec4) (leastL (f.arcs.map inA)) := by rw [hwA]; exact (hA9.set4 hzl8 _ _ _ _).slice
  have hb6A : Below B11 w6 wA := by rw [hwA]; exact bel4 (hb68.trans (hb9.mono (by omega))) (Nat.le_succ _) _ _ _ _
  clear hx8 hI8 hA8 hb68 hz8 hz9 hI9 hA9 hb9 hzl8
  have HC : Hid (∀ W, Below wA.heap.size wA W → W.heap[B11]? = some (.cells #[.int .i64 f.states, .int .i64 f.start, .slice fa3 fn3 fc3, .slice ea3 en3 ec3] 25 (0, 0)) ∧ ISlice W (.slice fa3 fn3 fc3) f.final ∧ ASlice W (.slice ea3 en3 ec3) (leastL (f.arcs.map invA)) ∧ W.heap[B11 + 1]? = some (.cells #[.int .i64 f.states, .int .i64 f.start, .slice fa4 fn4 fc4, .slice ea4 en4 ec4] 25 (0, 0)) ∧ ISlice W (.slice fa4 fn4 fc4) f.final ∧ ASlice W (.slice ea4 en4 ec4) (leastL (f.arcs.map inA)) ∧ Below B11 w6 W) := fun W h => ⟨heap_bel h hxT, hIT.below h, hAT.below h, heap_bel h hxA, hIS.below h, hAS.below h, hb6A.trans (h.mono (by have := heap_lt hxT; omega))⟩
  clear hxT hxA hIT hAT hIS hAS hb6A
  have HQ : Hid (wA = _) := hwA
  clear hwA
  go_wp2_with fail
  rw [← HQ.out]
  clear HQ z0 z1 z2 z3 y0 y1 y2 y3
  refine (simpleBegun_any wA).mono ?_
  rintro e wB ⟨rfl, hbB⟩
  have HB : Hid (∀ W, Below wB.heap.size wB W → W.heap[B11]? = some (.cells #[.int .i64 f.states, .int .i64 f.start, .slice fa3 fn3 fc3, .slice ea3 en3 ec3] 25 (0, 0)) ∧ ISlice W (.slice fa3 fn3 fc3) f.final ∧ ASlice W (.slice ea3 en3 ec3) (leastL (f.arcs.map invA)) ∧ W.heap[B11 + 1]? = some (.cells #[.int .i64 f.states, .int .i64 f.start, .slice fa4 fn4 fc4, .slice ea4 en4 ec4] 25 (0, 0)) ∧ ISlice W (.slice fa4 fn4 fc4) f.final ∧ ASlice W (.slice ea4 en4 ec4) (leastL (f.arcs.map inA)) ∧ Below w4.heap.size w4 W) := fun W h => ⟨(HC.out W (bel_on hbB h)).1, (HC.out W (bel_on hbB h)).2.1, (HC.out W (bel_on hbB h)).2.2.1, (HC.out W (bel_on hbB h)).2.2.2.1, (HC.out W (bel_on hbB h)).2.2.2.2.1, (HC.out W (bel_on hbB h)).2.2.2.2.2.1, HZ.out W (HC.out W (bel_on hbB h)).2.2.2.2.2.2⟩
  clear hbB HC HZ
  have tB := HB.out wB (bel_self _)
  have yB := HY.out wB tB.2.2.2.2.2.2
  have xB := HX.out wB yB.2.2.2
  have p5 := xB.1
  have p11 := tB.1
  have q0 := box_cell (k := 0) p5 rfl
  have q1 := box_cell (k := 1) p5 rfl
  have q2 := box_cell (k := 2) p5 rfl
  have q3 := box_cell (k := 3) p5 rfl
  have r0 := box_cell (k := 0) p11 rfl
  have r1 := box_cell (k := 1) p11 rfl
  have r2 := box_cell (k := 2) p11 rfl
  have r3 := box_cell (k := 3) p11 rfl
  have hfi := fstIs_ok (mapD invA f) fa1 fn1 fc1 ea1 en1 ec1 fa3 fn3 fc3 ea3 en3 ec3 wB xB.2.1 xB.2.2.1 tB.2.1 tB.2.2.1
  go_wp2_with fail
  refine hfi.mono ?_
  rintro e wC ⟨rfl, hbC⟩
  clear hfi tB yB xB p5 p11 q0 q1 q2 q3 r0 r1 r2 r3
  have tB := HB.out wC hbC
  have yB := HY.out wC tB.2.2.2.2.2.2
  have p7 := yB.1
  have p12 := tB.2.2.2.1
  have q0 := box_cell (k := 0) p7 rfl
  have q1 := box_cell (k := 1) p7 rfl
  have q2 := box_cell (k := 2) p7 rfl
  have q3 := box_cell (k := 3) p7 rfl
  have r0 := box_cell (k := 0) p12 rfl
  have r1 := box_cell (k := 1) p12 rfl
  have r2 := box_cell (k := 2) p12 rfl
  have r3 := box_cell (k := 3) p12 rfl
  have hfi := fstIs_ok (mapD inA f) fa2 fn2 fc2 ea2 en2 ec2 fa4 fn4 fc4 ea4 en4 ec4 wC yB.2.1 yB.2.2.1 tB.2.2.2.2.1 tB.2.2.2.2.2.1
  go_wp2_with fail
  refine hfi.mono ?_
  rintro e wD ⟨rfl, hbD⟩
  have hbCD := bel_on hbC hbD
  clear hfi tB yB p7 p12 q0 q1 q2 q3 r0 r1 r2 r3
  have tB := HB.out wD hbCD
  have yB := HY.out wD tB.2.2.2.2.2.2
  have xB := HX.out wD yB.2.2.2
  have p5 := xB.1
  have q0 := box_cell (k := 0) p5 rfl
  have q1 := box_cell (k := 1) p5 rfl
  have q2 := box_cell (k := 2) p5 rfl
  have q3 := box_cell (k := 3) p5 rfl
  have hin := twice_ok hc _ _ wD xB.2.1 xB.2.2.1
  go_wp2_with fail
  refine hin.mono ?_
  rintro e wE ⟨fa5, fn5, fc5, ea5, en5, ec5, rfl, hIE, hAE, hbE⟩
  have hbDE := bel_on hbCD hbE
  clear hin tB yB xB p5 q0 q1 q2 q3
  have tB := HB.out wE hbDE
  have fB := HF.out wE (HX.out wE (HY.out wE tB.2.2.2.2.2.2).2.2.2).2.2.2
  have p := fB.1
  have q0 := old_cell (o := .cells #[.int .i64 f.states, .int .i64 f.start, .slice fa5 fn5 fc5, .slice ea5 en5 ec5] 25) (box_cell (k := 0) p rfl)
  have q1 := old_cell (o := .cells #[.int .i64 f.states, .int .i64 f.start, .slice fa5 fn5 fc5, .slice ea5 en5 ec5] 25) (box_cell (k := 1) p rfl)
  have q2 := old_cell (o := .cells #[.int .i64 f.states, .int .i64 f.start, .slice fa5 fn5 fc5, .slice ea5 en5 ec5] 25) (box_cell (k := 2) p rfl)
  have q3 := old_cell (o := .cells #[.int .i64 f.states, .int .i64 f.start, .slice fa5 fn5 fc5, .slice ea5 en5 ec5] 25) (box_cell (k := 3) p rfl)
  have hbZ := bel_up (bel_self wE) (.cells #[.int .i64 f.states, .int .i64 f.start, .slice fa5 fn5 fc5, .slice ea5 en5 ec5] 25)
  have hsm := same_self f _ _ _ _ _ (hIE.slice.below hbZ) (hAE.slice.below hbZ) (fB.2.1.below hbZ) (fB.2.2.1.below hbZ)
  have hfin := fB.2.2.2
  clear tB fB p
  go_wp2_with fail
  refine hsm.mono ?_
  rintro e wF ⟨rfl, hbF⟩
  have hend := bel_on (bel_on hfin hbZ) hbF
  clear q0 q1 q2 q3 hsm
  go_wp2
  go_ret
  exact ⟨rfl, hend⟩

set_option maxHeartbeats 4000000 in
set_option maxRecDepth 100000 in
theorem turns_out (f : FstD) (side : Int) (fin arcs : Value) (w : World) (hf : ISlice w fin f.final) (ha : ASlice w arcs f.arcs) (hc : checkD f = 0) (hs : side = 2) :
    Calls Try.prog 4 #[.agg #[.int .i64 f.states, .int .i64 f.start, fin, arcs], .int .i64 side] w fun e w' => e = .returned (.bool true) ∧ Below w.heap.size w w' := by
  obtain ⟨fa, fn, fc, rfl, _, _⟩ := hf.lenOf
  obtain ⟨aa, an, ac, rfl, _, _⟩ := ha.lenOf
  subst hs
  obtain ⟨W0, hW0⟩ : ∃ W0, W0 = w.alloc (.cells #[.int .i64 f.states, .int .i64 f.start, .slice fa fn fc, .slice aa an ac] 25) := ⟨_, rfl⟩
  have hb0 : Below w.heap.size w W0 := by rw [hW0]; exact bel_up (bel_self w) _
  have hx0 : W0.heap[w.heap.size]? = some (.cells #[.int .i64 f.states, .int .i64 f.start, .slice fa fn fc, .slice aa an ac] 25 (0, 0)) := by rw [hW0]; exact heap_alloc_new w _
  have HF : Hid (∀ W, Below W0.heap.size W0 W → W.heap[w.heap.size]? = some (.cells #[.int .i64 f.states, .int .i64 f.start, .slice fa fn fc, .slice aa an ac] 25 (0, 0)) ∧ ISlice W (.slice fa fn fc) f.final ∧ ASlice W (.slice aa an ac) f.arcs ∧ Below w.heap.size w W) := fun W h => ⟨heap_bel h hx0, (hf.below hb0).below h, (ha.below hb0).below h, bel_on hb0 h⟩
  have hinv := invert_ok f _ _ W0 (HF.out W0 (bel_self _)).2.1 (HF.out W0 (bel_self _)).2.2.1 hc
  clear hf ha hb0 hx0
  go_enter Try.func4, Try.ntmps4
  go_wp2_with fail
  rw [← hW0]
  clear hW0
  refine hinv.mono ?_
  rintro e w1 ⟨fa1, fn1, fc1, ea1, en1, ec1, rfl, hI1, hA1, hb1⟩
  clear hinv
  obtain ⟨w2, hw2⟩ : ∃ w2, w2 = w1.alloc (.cells #[.int .i64 (mapD invA f).states, .int .i64 (mapD invA f).start, .slice fa1 fn1 fc1, .slice ea1 en1 ec1] 25) := ⟨_, rfl⟩
  obtain ⟨B5, hB5⟩ : ∃ B, B = w1.heap.size := ⟨_, rfl⟩
  have hu2 : Below w1.heap.size w1 w2 := by rw [hw2]; exact bel_up (bel_self w1) _
  have hx2 : w2.heap[B5]? = some (.cells #[.int .i64 (mapD invA f).states, .int .i64 (mapD invA f).start, .slice fa1 fn1 fc1, .slice ea1 en1 ec1] 25 (0, 0)) := by rw [hw2, hB5]; exact heap_alloc_new w1 _
  have hb2 := bel_on hb1 hu2
  have HX : Hid (∀ W, Below w2.heap.size w2 W → W.heap[B5]? = some (.cells #[.int .i64 (mapD invA f).states, .int .i64 (mapD invA f).start, .slice fa1 fn1 fc1, .slice ea1 en1 ec1] 25 (0, 0)) ∧ ISlice W (.slice fa1 fn1 fc1) (mapD invA f).final ∧ ASlice W (.slice ea1 en1 ec1) (mapD invA f).arcs ∧ Below W0.heap.size W0 W) := fun W h => ⟨heap_bel h hx2, (hI1.slice.below hu2).below h, (hA1.slice.below hu2).below h, bel_on hb2 h⟩
  obtain ⟨p, _, _, _⟩ := HF.out w2 hb2
  have q0 := box_cell (k := 0) p rfl
  have q1 := box_cell (k := 1) p rfl
  have q2 := box_cell (k := 2) p rfl
  have q3 := box_cell (k := 3) p rfl
  have hpro := project_out 2 rfl f _ _ w2 (HF.out w2 hb2).2.1 (HF.out w2 hb2).2.2.1 hc
  rw [hw2] at q0 q1 q2 q3
  have HQ : Hid (w2 = w1.alloc (.cells #[.int .i64 (mapD invA f).states, .int .i64 (mapD invA f).start, .slice fa1 fn1 fc1, .slice ea1 en1 ec1] 25) ∧ B5 = w1.heap.size) := ⟨hw2, hB5⟩
  clear p hw2 hB5 hu2 hx2 hI1 hA1 hb1 hb2
  go_wp2_with fail
  rw [← HQ.out.1, ← HQ.out.2]
  clear HQ q0 q1 q2 q3
  refine hpro.mono ?_
  rintro e w3 ⟨fa2, fn2, fc2, ea2, en2, ec2, rfl, hI3, hA3, hb3⟩
  clear hpro
  obtain ⟨w4, hw4⟩ : ∃ w4, w4 = w3.alloc (.cells #[.int .i64 (mapD outA f).states, .int .i64 (mapD outA f).start, .slice fa2 fn2 fc2, .slice ea2 en2 ec2] 25) := ⟨_, rfl⟩
  obtain ⟨B7, hB7⟩ : ∃ B, B = w3.heap.size := ⟨_, rfl⟩
  have hu4 : Below w3.heap.size w3 w4 := by rw [hw4]; exact bel_up (bel_self w3) _
  have hx4 : w4.heap[B7]? = some (.cells #[.int .i64 (mapD outA f).states, .int .i64 (mapD outA f).start, .slice fa2 fn2 fc2, .slice ea2 en2 ec2] 25 (0, 0)) := by rw [hw4, hB7]; exact heap_alloc_new w3 _
  have hb4 := bel_on hb3 hu4
  have HY : Hid (∀ W, Below w4.heap.size w4 W → W.heap[B7]? = some (.cells #[.int .i64 (mapD outA f).states, .int .i64 (mapD outA f).start, .slice fa2 fn2 fc2, .slice ea2 en2 ec2] 25 (0, 0)) ∧ ISlice W (.slice fa2 fn2 fc2) (mapD outA f).final ∧ ASlice W (.slice ea2 en2 ec2) (mapD outA f).arcs ∧ Below w2.heap.size w2 W) := fun W h => ⟨heap_bel h hx4, (hI3.slice.below hu4).below h, (hA3.slice.below hu4).below h, bel_on hb4 h⟩
  have hf4 := HF.out w4 (HX.out w4 hb4).2.2.2
  have p := hf4.1
  have q0 := box_cell (k := 0) p rfl
  have q1 := box_cell (k := 1) p rfl
  have q2 := box_cell (k := 2) p rfl
  have q3 := box_cell (k := 3) p rfl
  have hchk : Calls Try.prog 18 #[.agg #[.int .i64 f.states, .int .i64 f.start, .slice fa fn fc, .slice aa an ac]] w4 fun e w' => e = .returned (.int .i64 0) ∧ Below w4.heap.size w4 w' := by
    have := checkFst_any f _ _ w4 hf4.2.1 hf4.2.2.1
    rw [hc] at this
    exact this
  rw [hw4] at q0 q1 q2 q3
  have HQ : Hid (w4 = w3.alloc (.cells #[.int .i64 (mapD outA f).states, .int .i64 (mapD outA f).start, .slice fa2 fn2 fc2, .slice ea2 en2 ec2] 25) ∧ B7 = w3.heap.size) := ⟨hw4, hB7⟩
  clear p hf4 hw4 hB7 hu4 hx4 hI3 hA3 hb3 hb4
  go_wp2_with fail
  rw [← HQ.out.1, ← HQ.out.2]
  clear HQ q0 q1 q2 q3
  refine hchk.mono ?_
  rintro e w5 ⟨rfl, hb5⟩
  clear hchk
  obtain ⟨w6, hw6⟩ : ∃ w6, w6 = (w5.alloc (.cells #[.int .i64 0, .int .i64 0, .slice none 0 0, .slice none 0 0] 25)).alloc (.cells #[.int .i64 0, .int .i64 0, .slice none 0 0, .slice none 0 0] 25) := ⟨_, rfl⟩
  have hu6 : Below w5.heap.size w5 w6 := by rw [hw6]; exact two_up w5 _ _
  have hz11 : ZBlock w6 w5.heap.size := by rw [hw6]; exact heap_bel (bel_up (bel_self _) _) (heap_alloc_new w5 _)
  have hz12 : ZBlock w6 (w5.heap.size + 1) := by
    rw [hw6]
    have := heap_alloc_new (w5.alloc (.cells #[.int .i64 0, .int .i64 0, .slice none 0 0, .slice none 0 0] 25)) (.cells #[.int .i64 0, .int .i64 0, .slice none 0 0, .slice none 0 0] 25)
    rw [one_size] at this
    exact this
  obtain ⟨B11, hB11⟩ : ∃ B, B = w5.heap.size := ⟨_, rfl⟩
  have hb6 := bel_on hb5 hu6
  have HZ : Hid (∀ W, Below B11 w6 W → Below w4.heap.size w4 W) := fun W h => hb6.trans (h.mono (by rw [hB11]; exact hb5.size))
  have hs6 : B11 + 1 < w6.heap.size := by rw [hB11]; exact heap_lt hz12
  rw [← hB11] at hz11 hz12
  have HQ : Hid (w6 = (w5.alloc (.cells #[.int .i64 0, .int .i64 0, .slice none 0 0, .slice none 0 0] 25)).alloc (.cells #[.int .i64 0, .int .i64 0, .slice none 0 0, .slice none 0 0] 25) ∧ B11 = w5.heap.size) := ⟨hw6, hB11⟩
  have hY6 := HY.out w6 (HZ.out w6 (Below.refl _ _))
  have hf6 := HF.out w6 (HX.out w6 hY6.2.2.2).2.2.2
  have p := hf6.1
  have q0 := box_cell (k := 0) p rfl
  have q1 := box_cell (k := 1) p rfl
  have q2 := box_cell (k := 2) p rfl
  have q3 := box_cell (k := 3) p rfl
  have htu := turnedOf_fine f 0 invA (Or.inl ⟨rfl, rfl⟩) _ _ w6 hf6.2.1 hf6.2.2.1 hc
  rw [hw6] at q0 q1 q2 q3
  clear p hY6 hf6 hw6 hB11 hu6 hb6 hb5
  go_wp2_with fail
  rw [← HQ.out.1, ← HQ.out.2]
  clear HQ q0 q1 q2 q3
  refine htu.mono ?_
  rintro e w7 ⟨fa3, fn3, fc3, ea3, en3, ec3, rfl, hI7, hA7, hb7⟩
  clear htu
  have hz7 := heap_bel hb7 hz11
  have hz7' := heap_bel hb7 hz12
  obtain ⟨z0, z1, z2, z3, y0, y1, y2, y3⟩ := zfacts hz7
  obtain ⟨w8, hw8⟩ : ∃ w8, w8 = (((w7.setCell ⟨B11, 0, none⟩ (.int .i64 f.states)).setCell ⟨B11, 1, none⟩ (.int .i64 f.start)).setCell ⟨B11, 2, none⟩ (.slice fa3 fn3 fc3)).setCell ⟨B11, 3, none⟩ (.slice ea3 en3 ec3) := ⟨_, rfl⟩
  have hx8 : w8.heap[B11]? = some (.cells #[.int .i64 f.states, .int .i64 f.start, .slice fa3 fn3 fc3, .slice ea3 en3 ec3] 25 (0, 0)) := by rw [hw8]; exact box_set4S hz7 _ _ _ _
  have hb68 : Below B11 w6 w8 := by rw [hw8]; exact bel4 (hb7.mono (by omega)) (Nat.le_refl _) _ _ _ _
  have hz8 : ZBlock w8 (B11 + 1) := by rw [hw8]; exact heap_far (heap_far (heap_far (heap_far hz7' (by omega)) (by omega)) (by omega)) (by omega)
  have hI8 : IFrom w6.heap.size w8 (.slice fa3 fn3 fc3) f.final := by rw [hw8]; exact hI7.set4 (by omega) _ _ _ _
  have hA8 : AFrom w6.heap.size w8 (.slice ea3 en3 ec3) (leastL (f.arcs.map invA)) := by rw [hw8]; exact hA7.set4 (by omega) _ _ _ _
  clear hz7 hz7' hI7 hA7 hb7 hz11 hz12
  have hY8 := HY.out w8 (HZ.out w8 hb68)
  have hf8 := HF.out w8 (HX.out w8 hY8.2.2.2).2.2.2
  have p := hf8.1
  have q0 := box_cell (k := 0) p rfl
  have q1 := box_cell (k := 1) p rfl
  have q2 := box_cell (k := 2) p rfl
  have q3 := box_cell (k := 3) p rfl
  have htu := turnedOf_fine f 2 outA (Or.inr (Or.inr ⟨rfl, rfl⟩)) _ _ w8 hf8.2.1 hf8.2.2.1 hc
  rw [hw8] at q0 q1 q2 q3
  have HQ : Hid (w8 = (((w7.setCell ⟨B11, 0, none⟩ (.int .i64 f.states)).setCell ⟨B11, 1, none⟩ (.int .i64 f.start)).setCell ⟨B11, 2, none⟩ (.slice fa3 fn3 fc3)).setCell ⟨B11, 3, none⟩ (.slice ea3 en3 ec3)) := hw8
  clear p hY8 hf8 hw8
  go_wp2_with fail
  rw [← HQ.out]
  clear HQ q0 q1 q2 q3 z0 z1 z2 z3 y0 y1 y2 y3
  refine htu.mono ?_
  rintro e w9 ⟨fa4, fn4, fc4, ea4, en4, ec4, rfl, hI9, hA9, hb9⟩
  clear htu
  have hz9 := heap_bel hb9 hz8
  obtain ⟨z0, z1, z2, z3, y0, y1, y2, y3⟩ := zfacts hz9
  obtain ⟨wA, hwA⟩ : ∃ wA, wA = (((w9.setCell ⟨B11 + 1, 0, none⟩ (.int .i64 f.states)).setCell ⟨B11 + 1, 1, none⟩ (.int .i64 f.start)).setCell ⟨B11 + 1, 2, none⟩ (.slice fa4 fn4 fc4)).setCell ⟨B11 + 1, 3, none⟩ (.slice ea4 en4 ec4) := ⟨_, rfl⟩
  have hzl8 := heap_lt hz8
  have hxA : wA.heap[B11 + 1]? = some (.cells #[.int .i64 f.states, .int .i64 f.start, .slice fa4 fn4 fc4, .slice ea4 en4 ec4] 25 (0, 0)) := by rw [hwA]; exact box_set4S hz9 _ _ _ _
  have hxT : wA.heap[B11]? = some (.cells #[.int .i64 f.states, .int .i64 f.start, .slice fa3 fn3 fc3, .slice ea3 en3 ec3] 25 (0, 0)) := by rw [hwA]; exact heap_far (heap_far (heap_far (heap_far (heap_bel hb9 hx8) (by omega)) (by omega)) (by omega)) (by omega)
  have hIT : ISlice wA (.slice fa3 fn3 fc3) f.final := by rw [hwA]; exact ((hI8.below hb9).set4 (by omega) _ _ _ _).slice
  have hAT : ASlice wA (.slice ea3 en3 ec3) (leastL (f.arcs.map invA)) := by rw [hwA]; exact ((hA8.below hb9).set4 (by omega) _ _ _ _).slice
  have hIS : ISlice wA (.slice fa4 fn4 fc4) f.final := by rw [hwA]; exact (hI9.set4 hzl8 _ _ _ _).slice
  have hAS : ASlice wA (.slice ea4 en4 ec4) (leastL (f.arcs.map outA)) := by rw [hwA]; exact (hA9.set4 hzl8 _ _ _ _).slice
  have hb6A : Below B11 w6 wA := by rw [hwA]; exact bel4 (hb68.trans (hb9.mono (by omega))) (Nat.le_succ _) _ _ _ _
  clear hx8 hI8 hA8 hb68 hz8 hz9 hI9 hA9 hb9 hzl8
  have HC : Hid (∀ W, Below wA.heap.size wA W → W.heap[B11]? = some (.cells #[.int .i64 f.states, .int .i64 f.start, .slice fa3 fn3 fc3, .slice ea3 en3 ec3] 25 (0, 0)) ∧ ISlice W (.slice fa3 fn3 fc3) f.final ∧ ASlice W (.slice ea3 en3 ec3) (leastL (f.arcs.map invA)) ∧ W.heap[B11 + 1]? = some (.cells #[.int .i64 f.states, .int .i64 f.start, .slice fa4 fn4 fc4, .slice ea4 en4 ec4] 25 (0, 0)) ∧ ISlice W (.slice fa4 fn4 fc4) f.final ∧ ASlice W (.slice ea4 en4 ec4) (leastL (f.arcs.map outA)) ∧ Below B11 w6 W) := fun W h => ⟨heap_bel h hxT, hIT.below h, hAT.below h, heap_bel h hxA, hIS.below h, hAS.below h, hb6A.trans (h.mono (by have := heap_lt hxT; omega))⟩
  clear hxT hxA hIT hAT hIS hAS hb6A
  have HQ : Hid (wA = _) := hwA
  clear hwA
  go_wp2_with fail
  rw [← HQ.out]
  clear HQ z0 z1 z2 z3 y0 y1 y2 y3
  refine (simpleBegun_any wA).mono ?_
  rintro e wB ⟨rfl, hbB⟩
  have HB : Hid (∀ W, Below wB.heap.size wB W → W.heap[B11]? = some (.cells #[.int .i64 f.states, .int .i64 f.start, .slice fa3 fn3 fc3, .slice ea3 en3 ec3] 25 (0, 0)) ∧ ISlice W (.slice fa3 fn3 fc3) f.final ∧ ASlice W (.slice ea3 en3 ec3) (leastL (f.arcs.map invA)) ∧ W.heap[B11 + 1]? = some (.cells #[.int .i64 f.states, .int .i64 f.start, .slice fa4 fn4 fc4, .slice ea4 en4 ec4] 25 (0, 0)) ∧ ISlice W (.slice fa4 fn4 fc4) f.final ∧ ASlice W (.slice ea4 en4 ec4) (leastL (f.arcs.map outA)) ∧ Below w4.heap.size w4 W) := fun W h => ⟨(HC.out W (bel_on hbB h)).1, (HC.out W (bel_on hbB h)).2.1, (HC.out W (bel_on hbB h)).2.2.1, (HC.out W (bel_on hbB h)).2.2.2.1, (HC.out W (bel_on hbB h)).2.2.2.2.1, (HC.out W (bel_on hbB h)).2.2.2.2.2.1, HZ.out W (HC.out W (bel_on hbB h)).2.2.2.2.2.2⟩
  clear hbB HC HZ
  have tB := HB.out wB (bel_self _)
  have yB := HY.out wB tB.2.2.2.2.2.2
  have xB := HX.out wB yB.2.2.2
  have p5 := xB.1
  have p11 := tB.1
  have q0 := box_cell (k := 0) p5 rfl
  have q1 := box_cell (k := 1) p5 rfl
  have q2 := box_cell (k := 2) p5 rfl
  have q3 := box_cell (k := 3) p5 rfl
  have r0 := box_cell (k := 0) p11 rfl
  have r1 := box_cell (k := 1) p11 rfl
  have r2 := box_cell (k := 2) p11 rfl
  have r3 := box_cell (k := 3) p11 rfl
  have hfi := fstIs_ok (mapD invA f) fa1 fn1 fc1 ea1 en1 ec1 fa3 fn3 fc3 ea3 en3 ec3 wB xB.2.1 xB.2.2.1 tB.2.1 tB.2.2.1
  go_wp2_with fail
  refine hfi.mono ?_
  rintro e wC ⟨rfl, hbC⟩
  clear hfi tB yB xB p5 p11 q0 q1 q2 q3 r0 r1 r2 r3
  have tB := HB.out wC hbC
  have yB := HY.out wC tB.2.2.2.2.2.2
  have p7 := yB.1
  have p12 := tB.2.2.2.1
  have q0 := box_cell (k := 0) p7 rfl
  have q1 := box_cell (k := 1) p7 rfl
  have q2 := box_cell (k := 2) p7 rfl
  have q3 := box_cell (k := 3) p7 rfl
  have r0 := box_cell (k := 0) p12 rfl
  have r1 := box_cell (k := 1) p12 rfl
  have r2 := box_cell (k := 2) p12 rfl
  have r3 := box_cell (k := 3) p12 rfl
  have hfi := fstIs_ok (mapD outA f) fa2 fn2 fc2 ea2 en2 ec2 fa4 fn4 fc4 ea4 en4 ec4 wC yB.2.1 yB.2.2.1 tB.2.2.2.2.1 tB.2.2.2.2.2.1
  go_wp2_with fail
  refine hfi.mono ?_
  rintro e wD ⟨rfl, hbD⟩
  have hbCD := bel_on hbC hbD
  clear hfi tB yB p7 p12 q0 q1 q2 q3 r0 r1 r2 r3
  have tB := HB.out wD hbCD
  have yB := HY.out wD tB.2.2.2.2.2.2
  have xB := HX.out wD yB.2.2.2
  have p5 := xB.1
  have q0 := box_cell (k := 0) p5 rfl
  have q1 := box_cell (k := 1) p5 rfl
  have q2 := box_cell (k := 2) p5 rfl
  have q3 := box_cell (k := 3) p5 rfl
  have hin := twice_ok hc _ _ wD xB.2.1 xB.2.2.1
  go_wp2_with fail
  refine hin.mono ?_
  rintro e wE ⟨fa5, fn5, fc5, ea5, en5, ec5, rfl, hIE, hAE, hbE⟩
  have hbDE := bel_on hbCD hbE
  clear hin tB yB xB p5 q0 q1 q2 q3
  have tB := HB.out wE hbDE
  have fB := HF.out wE (HX.out wE (HY.out wE tB.2.2.2.2.2.2).2.2.2).2.2.2
  have p := fB.1
  have q0 := old_cell (o := .cells #[.int .i64 f.states, .int .i64 f.start, .slice fa5 fn5 fc5, .slice ea5 en5 ec5] 25) (box_cell (k := 0) p rfl)
  have q1 := old_cell (o := .cells #[.int .i64 f.states, .int .i64 f.start, .slice fa5 fn5 fc5, .slice ea5 en5 ec5] 25) (box_cell (k := 1) p rfl)
  have q2 := old_cell (o := .cells #[.int .i64 f.states, .int .i64 f.start, .slice fa5 fn5 fc5, .slice ea5 en5 ec5] 25) (box_cell (k := 2) p rfl)
  have q3 := old_cell (o := .cells #[.int .i64 f.states, .int .i64 f.start, .slice fa5 fn5 fc5, .slice ea5 en5 ec5] 25) (box_cell (k := 3) p rfl)
  have hbZ := bel_up (bel_self wE) (.cells #[.int .i64 f.states, .int .i64 f.start, .slice fa5 fn5 fc5, .slice ea5 en5 ec5] 25)
  have hsm := same_self f _ _ _ _ _ (hIE.slice.below hbZ) (hAE.slice.below hbZ) (fB.2.1.below hbZ) (fB.2.2.1.below hbZ)
  have hfin := fB.2.2.2
  clear tB fB p
  go_wp2_with fail
  refine hsm.mono ?_
  rintro e wF ⟨rfl, hbF⟩
  have hend := bel_on (bel_on hfin hbZ) hbF
  clear q0 q1 q2 q3 hsm
  go_wp2
  go_ret
  exact ⟨rfl, hend⟩

set_option maxHeartbeats 4000000 in
set_option maxRecDepth 100000 in
theorem turns_no (f : FstD) (side : Int) (fin arcs : Value) (w : World) (hf : ISlice w fin f.final) (ha : ASlice w arcs f.arcs) (hc : checkD f = 0) (h1 : side ≠ 1) (h2 : side ≠ 2) :
    Calls Try.prog 4 #[.agg #[.int .i64 f.states, .int .i64 f.start, fin, arcs], .int .i64 side] w fun e w' => e = .returned (.bool true) ∧ Below w.heap.size w w' := by
  obtain ⟨fa, fn, fc, rfl, _, _⟩ := hf.lenOf
  obtain ⟨aa, an, ac, rfl, _, _⟩ := ha.lenOf
  have e1 : (side != 1) = true := by simpa using h1
  have e2 : (side != 2) = true := by simpa using h2
  have e3 : (side == 1) = false := by simpa using h1
  have e4 : (side == 2) = false := by simpa using h2
  obtain ⟨W0, hW0⟩ : ∃ W0, W0 = w.alloc (.cells #[.int .i64 f.states, .int .i64 f.start, .slice fa fn fc, .slice aa an ac] 25) := ⟨_, rfl⟩
  have hb0 : Below w.heap.size w W0 := by rw [hW0]; exact bel_up (bel_self w) _
  have hx0 : W0.heap[w.heap.size]? = some (.cells #[.int .i64 f.states, .int .i64 f.start, .slice fa fn fc, .slice aa an ac] 25 (0, 0)) := by rw [hW0]; exact heap_alloc_new w _
  have HF : Hid (∀ W, Below W0.heap.size W0 W → W.heap[w.heap.size]? = some (.cells #[.int .i64 f.states, .int .i64 f.start, .slice fa fn fc, .slice aa an ac] 25 (0, 0)) ∧ ISlice W (.slice fa fn fc) f.final ∧ ASlice W (.slice aa an ac) f.arcs ∧ Below w.heap.size w W) := fun W h => ⟨heap_bel h hx0, (hf.below hb0).below h, (ha.below hb0).below h, bel_on hb0 h⟩
  have hinv := invert_ok f _ _ W0 (HF.out W0 (bel_self _)).2.1 (HF.out W0 (bel_self _)).2.2.1 hc
  clear hf ha hb0 hx0
  go_enter Try.func4, Try.ntmps4
  go_wp2_with fail
  rw [← hW0]
  clear hW0
  refine hinv.mono ?_
  rintro e w1 ⟨fa1, fn1, fc1, ea1, en1, ec1, rfl, hI1, hA1, hb1⟩
  clear hinv
  obtain ⟨w2, hw2⟩ : ∃ w2, w2 = w1.alloc (.cells #[.int .i64 (mapD invA f).states, .int .i64 (mapD invA f).start, .slice fa1 fn1 fc1, .slice ea1 en1 ec1] 25) := ⟨_, rfl⟩
  obtain ⟨B5, hB5⟩ : ∃ B, B = w1.heap.size := ⟨_, rfl⟩
  have hu2 : Below w1.heap.size w1 w2 := by rw [hw2]; exact bel_up (bel_self w1) _
  have hx2 : w2.heap[B5]? = some (.cells #[.int .i64 (mapD invA f).states, .int .i64 (mapD invA f).start, .slice fa1 fn1 fc1, .slice ea1 en1 ec1] 25 (0, 0)) := by rw [hw2, hB5]; exact heap_alloc_new w1 _
  have hb2 := bel_on hb1 hu2
  have HX : Hid (∀ W, Below w2.heap.size w2 W → W.heap[B5]? = some (.cells #[.int .i64 (mapD invA f).states, .int .i64 (mapD invA f).start, .slice fa1 fn1 fc1, .slice ea1 en1 ec1] 25 (0, 0)) ∧ ISlice W (.slice fa1 fn1 fc1) (mapD invA f).final ∧ ASlice W (.slice ea1 en1 ec1) (mapD invA f).arcs ∧ Below W0.heap.size W0 W) := fun W h => ⟨heap_bel h hx2, (hI1.slice.below hu2).below h, (hA1.slice.below hu2).below h, bel_on hb2 h⟩
  obtain ⟨p, _, _, _⟩ := HF.out w2 hb2
  have q0 := box_cell (k := 0) p rfl
  have q1 := box_cell (k := 1) p rfl
  have q2 := box_cell (k := 2) p rfl
  have q3 := box_cell (k := 3) p rfl
  have hpro := project_no side h1 h2 f _ _ w2 (HF.out w2 hb2).2.1 (HF.out w2 hb2).2.2.1 hc
  rw [hw2] at q0 q1 q2 q3
  have HQ : Hid (w2 = w1.alloc (.cells #[.int .i64 (mapD invA f).states, .int .i64 (mapD invA f).start, .slice fa1 fn1 fc1, .slice ea1 en1 ec1] 25) ∧ B5 = w1.heap.size) := ⟨hw2, hB5⟩
  clear p hw2 hB5 hu2 hx2 hI1 hA1 hb1 hb2
  go_wp2_with fail
  rw [← HQ.out.1, ← HQ.out.2]
  clear HQ q0 q1 q2 q3
  refine hpro.mono ?_
  rintro e w3 ⟨fa2, fn2, fc2, ea2, en2, ec2, rfl, hI3, hA3, hb3⟩
  clear hpro
  obtain ⟨w4, hw4⟩ : ∃ w4, w4 = w3.alloc (.cells #[.int .i64 0, .int .i64 0, .slice fa2 fn2 fc2, .slice ea2 en2 ec2] 25) := ⟨_, rfl⟩
  obtain ⟨B7, hB7⟩ : ∃ B, B = w3.heap.size := ⟨_, rfl⟩
  have hu4 : Below w3.heap.size w3 w4 := by rw [hw4]; exact bel_up (bel_self w3) _
  have hx4 : w4.heap[B7]? = some (.cells #[.int .i64 0, .int .i64 0, .slice fa2 fn2 fc2, .slice ea2 en2 ec2] 25 (0, 0)) := by rw [hw4, hB7]; exact heap_alloc_new w3 _
  have hb4 := bel_on hb3 hu4
  have HY : Hid (∀ W, Below w4.heap.size w4 W → W.heap[B7]? = some (.cells #[.int .i64 0, .int .i64 0, .slice fa2 fn2 fc2, .slice ea2 en2 ec2] 25 (0, 0)) ∧ ISlice W (.slice fa2 fn2 fc2) [] ∧ ASlice W (.slice ea2 en2 ec2) [] ∧ Below w2.heap.size w2 W) := fun W h => ⟨heap_bel h hx4, (hI3.slice.below hu4).below h, (hA3.slice.below hu4).below h, bel_on hb4 h⟩
  have hf4 := HF.out w4 (HX.out w4 hb4).2.2.2
  have p := hf4.1
  have q0 := box_cell (k := 0) p rfl
  have q1 := box_cell (k := 1) p rfl
  have q2 := box_cell (k := 2) p rfl
  have q3 := box_cell (k := 3) p rfl
  have hchk : Calls Try.prog 18 #[.agg #[.int .i64 f.states, .int .i64 f.start, .slice fa fn fc, .slice aa an ac]] w4 fun e w' => e = .returned (.int .i64 0) ∧ Below w4.heap.size w4 w' := by
    have := checkFst_any f _ _ w4 hf4.2.1 hf4.2.2.1
    rw [hc] at this
    exact this
  rw [hw4] at q0 q1 q2 q3
  have HQ : Hid (w4 = w3.alloc (.cells #[.int .i64 0, .int .i64 0, .slice fa2 fn2 fc2, .slice ea2 en2 ec2] 25) ∧ B7 = w3.heap.size) := ⟨hw4, hB7⟩
  clear p hf4 hw4 hB7 hu4 hx4 hI3 hA3 hb3 hb4
  go_wp2_with fail
  rw [← HQ.out.1, ← HQ.out.2]
  clear HQ q0 q1 q2 q3
  refine hchk.mono ?_
  rintro e w5 ⟨rfl, hb5⟩
  clear hchk
  obtain ⟨w6, hw6⟩ : ∃ w6, w6 = (w5.alloc (.cells #[.int .i64 0, .int .i64 0, .slice none 0 0, .slice none 0 0] 25)).alloc (.cells #[.int .i64 0, .int .i64 0, .slice none 0 0, .slice none 0 0] 25) := ⟨_, rfl⟩
  have hu6 : Below w5.heap.size w5 w6 := by rw [hw6]; exact two_up w5 _ _
  have hz11 : ZBlock w6 w5.heap.size := by rw [hw6]; exact heap_bel (bel_up (bel_self _) _) (heap_alloc_new w5 _)
  have hz12 : ZBlock w6 (w5.heap.size + 1) := by
    rw [hw6]
    have := heap_alloc_new (w5.alloc (.cells #[.int .i64 0, .int .i64 0, .slice none 0 0, .slice none 0 0] 25)) (.cells #[.int .i64 0, .int .i64 0, .slice none 0 0, .slice none 0 0] 25)
    rw [one_size] at this
    exact this
  obtain ⟨B11, hB11⟩ : ∃ B, B = w5.heap.size := ⟨_, rfl⟩
  have hb6 := bel_on hb5 hu6
  have HZ : Hid (∀ W, Below B11 w6 W → Below w4.heap.size w4 W) := fun W h => hb6.trans (h.mono (by rw [hB11]; exact hb5.size))
  have hs6 : B11 + 1 < w6.heap.size := by rw [hB11]; exact heap_lt hz12
  rw [← hB11] at hz11 hz12
  have HQ : Hid (w6 = (w5.alloc (.cells #[.int .i64 0, .int .i64 0, .slice none 0 0, .slice none 0 0] 25)).alloc (.cells #[.int .i64 0, .int .i64 0, .slice none 0 0, .slice none 0 0] 25) ∧ B11 = w5.heap.size) := ⟨hw6, hB11⟩
  have hY6 := HY.out w6 (HZ.out w6 (Below.refl _ _))
  have hf6 := HF.out w6 (HX.out w6 hY6.2.2.2).2.2.2
  have p := hf6.1
  have q0 := box_cell (k := 0) p rfl
  have q1 := box_cell (k := 1) p rfl
  have q2 := box_cell (k := 2) p rfl
  have q3 := box_cell (k := 3) p rfl
  have htu := turnedOf_fine f 0 invA (Or.inl ⟨rfl, rfl⟩) _ _ w6 hf6.2.1 hf6.2.2.1 hc
  rw [hw6] at q0 q1 q2 q3
  clear p hY6 hf6 hw6 hB11 hu6 hb6 hb5
  go_wp2_with fail
  rw [← HQ.out.1, ← HQ.out.2]
  clear HQ q0 q1 q2 q3
  refine htu.mono ?_
  rintro e w7 ⟨fa3, fn3, fc3, ea3, en3, ec3, rfl, hI7, hA7, hb7⟩
  clear htu
  have hz7 := heap_bel hb7 hz11
  have hz7' := heap_bel hb7 hz12
  obtain ⟨z0, z1, z2, z3, y0, y1, y2, y3⟩ := zfacts hz7
  obtain ⟨w8, hw8⟩ : ∃ w8, w8 = (((w7.setCell ⟨B11, 0, none⟩ (.int .i64 f.states)).setCell ⟨B11, 1, none⟩ (.int .i64 f.start)).setCell ⟨B11, 2, none⟩ (.slice fa3 fn3 fc3)).setCell ⟨B11, 3, none⟩ (.slice ea3 en3 ec3) := ⟨_, rfl⟩
  have hx8 : w8.heap[B11]? = some (.cells #[.int .i64 f.states, .int .i64 f.start, .slice fa3 fn3 fc3, .slice ea3 en3 ec3] 25 (0, 0)) := by rw [hw8]; exact box_set4S hz7 _ _ _ _
  have hb68 : Below B11 w6 w8 := by rw [hw8]; exact bel4 (hb7.mono (by omega)) (Nat.le_refl _) _ _ _ _
  have hz8 : ZBlock w8 (B11 + 1) := by rw [hw8]; exact heap_far (heap_far (heap_far (heap_far hz7' (by omega)) (by omega)) (by omega)) (by omega)
  have hI8 : IFrom w6.heap.size w8 (.slice fa3 fn3 fc3) f.final := by rw [hw8]; exact hI7.set4 (by omega) _ _ _ _
  have hA8 : AFrom w6.heap.size w8 (.slice ea3 en3 ec3) (leastL (f.arcs.map invA)) := by rw [hw8]; exact hA7.set4 (by omega) _ _ _ _
  clear hz7 hz7' hI7 hA7 hb7 hz11 hz12
  have hxT := hx8
  have hxA := hz8
  have hIT := hI8.slice
  have hAT := hA8.slice
  have hb6A := hb68
  have hIS : ISlice w8 (.slice none 0 0) [] := nil_ints _
  have hAS : ASlice w8 (.slice none 0 0) [] := nil_arcs _
  clear hx8 hI8 hA8 hb68 hz8
  have HC : Hid (∀ W, Below w8.heap.size w8 W → W.heap[B11]? = some (.cells #[.int .i64 f.states, .int .i64 f.start, .slice fa3 fn3 fc3, .slice ea3 en3 ec3] 25 (0, 0)) ∧ ISlice W (.slice fa3 fn3 fc3) f.final ∧ ASlice W (.slice ea3 en3 ec3) (leastL (f.arcs.map invA)) ∧ W.heap[B11 + 1]? = some (.cells #[.int .i64 0, .int .i64 0, .slice none 0 0, .slice none 0 0] 25 (0, 0)) ∧ ISlice W (.slice none 0 0) [] ∧ ASlice W (.slice none 0 0) [] ∧ Below B11 w6 W) := fun W h => ⟨heap_bel h hxT, hIT.below h, hAT.below h, heap_bel h hxA, hIS.below h, hAS.below h, hb6A.trans (h.mono (by have := heap_lt hxT; omega))⟩
  clear hxT hxA hIT hAT hIS hAS hb6A
  have HQ : Hid (w8 = _) := hw8
  clear hw8
  go_wp2_with fail
  rw [← HQ.out]
  clear HQ z0 z1 z2 z3 y0 y1 y2 y3
  refine (simpleBegun_any w8).mono ?_
  rintro e wB ⟨rfl, hbB⟩
  have HB : Hid (∀ W, Below wB.heap.size wB W → W.heap[B11]? = some (.cells #[.int .i64 f.states, .int .i64 f.start, .slice fa3 fn3 fc3, .slice ea3 en3 ec3] 25 (0, 0)) ∧ ISlice W (.slice fa3 fn3 fc3) f.final ∧ ASlice W (.slice ea3 en3 ec3) (leastL (f.arcs.map invA)) ∧ W.heap[B11 + 1]? = some (.cells #[.int .i64 0, .int .i64 0, .slice none 0 0, .slice none 0 0] 25 (0, 0)) ∧ ISlice W (.slice none 0 0) [] ∧ ASlice W (.slice none 0 0) [] ∧ Below w4.heap.size w4 W) := fun W h => ⟨(HC.out W (bel_on hbB h)).1, (HC.out W (bel_on hbB h)).2.1, (HC.out W (bel_on hbB h)).2.2.1, (HC.out W (bel_on hbB h)).2.2.2.1, (HC.out W (bel_on hbB h)).2.2.2.2.1, (HC.out W (bel_on hbB h)).2.2.2.2.2.1, HZ.out W (HC.out W (bel_on hbB h)).2.2.2.2.2.2⟩
  clear hbB HC HZ
  have tB := HB.out wB (bel_self _)
  have yB := HY.out wB tB.2.2.2.2.2.2
  have xB := HX.out wB yB.2.2.2
  have p5 := xB.1
  have p11 := tB.1
  have q0 := box_cell (k := 0) p5 rfl
  have q1 := box_cell (k := 1) p5 rfl
  have q2 := box_cell (k := 2) p5 rfl
  have q3 := box_cell (k := 3) p5 rfl
  have r0 := box_cell (k := 0) p11 rfl
  have r1 := box_cell (k := 1) p11 rfl
  have r2 := box_cell (k := 2) p11 rfl
  have r3 := box_cell (k := 3) p11 rfl
  have hfi := fstIs_ok (mapD invA f) fa1 fn1 fc1 ea1 en1 ec1 fa3 fn3 fc3 ea3 en3 ec3 wB xB.2.1 xB.2.2.1 tB.2.1 tB.2.2.1
  go_wp2_with fail
  refine hfi.mono ?_
  rintro e wC ⟨rfl, hbC⟩
  clear hfi tB yB xB p5 p11 q0 q1 q2 q3 r0 r1 r2 r3
  have tB := HB.out wC hbC
  have yB := HY.out wC tB.2.2.2.2.2.2
  have p7 := yB.1
  have p12 := tB.2.2.2.1
  have q0 := box_cell (k := 0) p7 rfl
  have q1 := box_cell (k := 1) p7 rfl
  have q2 := box_cell (k := 2) p7 rfl
  have q3 := box_cell (k := 3) p7 rfl
  have r0 := box_cell (k := 0) p12 rfl
  have r1 := box_cell (k := 1) p12 rfl
  have r2 := box_cell (k := 2) p12 rfl
  have r3 := box_cell (k := 3) p12 rfl
  have hfi := fstIs_badS 3 (by decide) fa2 fn2 fc2 ea2 en2 ec2 0 0 (.slice none 0 0) (.slice none 0 0) wC yB.2.1 yB.2.2.1
  go_wp2_with fail
  refine hfi.mono ?_
  rintro e wD ⟨rfl, hbD⟩
  have hbCD := bel_on hbC hbD
  clear hfi tB yB p7 p12 q0 q1 q2 q3 r0 r1 r2 r3
  have tB := HB.out wD hbCD
  have yB := HY.out wD tB.2.2.2.2.2.2
  have xB := HX.out wD yB.2.2.2
  have p5 := xB.1
  have q0 := box_cell (k := 0) p5 rfl
  have q1 := box_cell (k := 1) p5 rfl
  have q2 := box_cell (k := 2) p5 rfl
  have q3 := box_cell (k := 3) p5 rfl
  have hin := twice_ok hc _ _ wD xB.2.1 xB.2.2.1
  go_wp2_with fail
  refine hin.mono ?_
  rintro e wE ⟨fa5, fn5, fc5, ea5, en5, ec5, rfl, hIE, hAE, hbE⟩
  have hbDE := bel_on hbCD hbE
  clear hin tB yB xB p5 q0 q1 q2 q3
  have tB := HB.out wE hbDE
  have fB := HF.out wE (HX.out wE (HY.out wE tB.2.2.2.2.2.2).2.2.2).2.2.2
  have p := fB.1
  have q0 := old_cell (o := .cells #[.int .i64 f.states, .int .i64 f.start, .slice fa5 fn5 fc5, .slice ea5 en5 ec5] 25) (box_cell (k := 0) p rfl)
  have q1 := old_cell (o := .cells #[.int .i64 f.states, .int .i64 f.start, .slice fa5 fn5 fc5, .slice ea5 en5 ec5] 25) (box_cell (k := 1) p rfl)
  have q2 := old_cell (o := .cells #[.int .i64 f.states, .int .i64 f.start, .slice fa5 fn5 fc5, .slice ea5 en5 ec5] 25) (box_cell (k := 2) p rfl)
  have q3 := old_cell (o := .cells #[.int .i64 f.states, .int .i64 f.start, .slice fa5 fn5 fc5, .slice ea5 en5 ec5] 25) (box_cell (k := 3) p rfl)
  have hbZ := bel_up (bel_self wE) (.cells #[.int .i64 f.states, .int .i64 f.start, .slice fa5 fn5 fc5, .slice ea5 en5 ec5] 25)
  have hsm := same_self f _ _ _ _ _ (hIE.slice.below hbZ) (hAE.slice.below hbZ) (fB.2.1.below hbZ) (fB.2.2.1.below hbZ)
  have hfin := fB.2.2.2
  clear tB fB p
  go_wp2_with fail
  refine hsm.mono ?_
  rintro e wF ⟨rfl, hbF⟩
  have hend := bel_on (bel_on hfin hbZ) hbF
  clear q0 q1 q2 q3 hsm
  go_wp2
  go_ret
  exact ⟨rfl, hend⟩

set_option maxHeartbeats 4000000 in
set_option maxRecDepth 100000 in
theorem turns_bad (f : FstD) (side : Int) (fin arcs : Value) (w : World) (hf : ISlice w fin f.final) (ha : ASlice w arcs f.arcs) (c : Int) (hc : checkD f = c) (h0 : (c == 0) = false) :
    Calls Try.prog 4 #[.agg #[.int .i64 f.states, .int .i64 f.start, fin, arcs], .int .i64 side] w fun e w' => e = .returned (.bool true) ∧ Below w.heap.size w w' := by
  obtain ⟨fa, fn, fc, rfl, _, _⟩ := hf.lenOf
  obtain ⟨aa, an, ac, rfl, _, _⟩ := ha.lenOf
  have h0n : (c != 0) = true := by simpa using h0
  obtain ⟨W0, hW0⟩ : ∃ W0, W0 = w.alloc (.cells #[.int .i64 f.states, .int .i64 f.start, .slice fa fn fc, .slice aa an ac] 25) := ⟨_, rfl⟩
  have hb0 : Below w.heap.size w W0 := by rw [hW0]; exact bel_up (bel_self w) _
  have hx0 : W0.heap[w.heap.size]? = some (.cells #[.int .i64 f.states, .int .i64 f.start, .slice fa fn fc, .slice aa an ac] 25 (0, 0)) := by rw [hW0]; exact heap_alloc_new w _
  have HF : Hid (∀ W, Below W0.heap.size W0 W → W.heap[w.heap.size]? = some (.cells #[.int .i64 f.states, .int .i64 f.start, .slice fa fn fc, .slice aa an ac] 25 (0, 0)) ∧ ISlice W (.slice fa fn fc) f.final ∧ ASlice W (.slice aa an ac) f.arcs ∧ Below w.heap.size w W) := fun W h => ⟨heap_bel h hx0, (hf.below hb0).below h, (ha.below hb0).below h, bel_on hb0 h⟩
  have hinv := invert_bad f _ _ c W0 (HF.out W0 (bel_self _)).2.1 (HF.out W0 (bel_self _)).2.2.1 hc h0
  clear hf ha hb0 hx0
  go_enter Try.func4, Try.ntmps4
  go_wp2_with fail
  rw [← hW0]
  clear hW0
  refine hinv.mono ?_
  rintro e w1 ⟨fa1, fn1, fc1, ea1, en1, ec1, rfl, hI1, hA1, hb1⟩
  clear hinv
  obtain ⟨w2, hw2⟩ : ∃ w2, w2 = w1.alloc (.cells #[.int .i64 0, .int .i64 0, .slice fa1 fn1 fc1, .slice ea1 en1 ec1] 25) := ⟨_, rfl⟩
  obtain ⟨B5, hB5⟩ : ∃ B, B = w1.heap.size := ⟨_, rfl⟩
  have hu2 : Below w1.heap.size w1 w2 := by rw [hw2]; exact bel_up (bel_self w1) _
  have hx2 : w2.heap[B5]? = some (.cells #[.int .i64 0, .int .i64 0, .slice fa1 fn1 fc1, .slice ea1 en1 ec1] 25 (0, 0)) := by rw [hw2, hB5]; exact heap_alloc_new w1 _
  have hb2 := bel_on hb1 hu2
  have HX : Hid (∀ W, Below w2.heap.size w2 W → W.heap[B5]? = some (.cells #[.int .i64 0, .int .i64 0, .slice fa1 fn1 fc1, .slice ea1 en1 ec1] 25 (0, 0)) ∧ ISlice W (.slice fa1 fn1 fc1) [] ∧ ASlice W (.slice ea1 en1 ec1) [] ∧ Below W0.heap.size W0 W) := fun W h => ⟨heap_bel h hx2, (hI1.slice.below hu2).below h, (hA1.slice.below hu2).below h, bel_on hb2 h⟩
  obtain ⟨p, _, _, _⟩ := HF.out w2 hb2
  have q0 := box_cell (k := 0) p rfl
  have q1 := box_cell (k := 1) p rfl
  have q2 := box_cell (k := 2) p rfl
  have q3 := box_cell (k := 3) p rfl
  have hpro := project_bad side f _ _ c w2 (HF.out w2 hb2).2.1 (HF.out w2 hb2).2.2.1 hc h0
  rw [hw2] at q0 q1 q2 q3
  have HQ : Hid (w2 = w1.alloc (.cells #[.int .i64 0, .int .i64 0, .slice fa1 fn1 fc1, .slice ea1 en1 ec1] 25) ∧ B5 = w1.heap.size) := ⟨hw2, hB5⟩
  clear p hw2 hB5 hu2 hx2 hI1 hA1 hb1 hb2
  go_wp2_with fail
  rw [← HQ.out.1, ← HQ.out.2]
  clear HQ q0 q1 q2 q3
  refine hpro.mono ?_
  rintro e w3 ⟨fa2, fn2, fc2, ea2, en2, ec2, rfl, hI3, hA3, hb3⟩
  clear hpro
  obtain ⟨w4, hw4⟩ : ∃ w4, w4 = w3.alloc (.cells #[.int .i64 0, .int .i64 0, .slice fa2 fn2 fc2, .slice ea2 en2 ec2] 25) := ⟨_, rfl⟩
  obtain ⟨B7, hB7⟩ : ∃ B, B = w3.heap.size := ⟨_, rfl⟩
  have hu4 : Below w3.heap.size w3 w4 := by rw [hw4]; exact bel_up (bel_self w3) _
  have hx4 : w4.heap[B7]? = some (.cells #[.int .i64 0, .int .i64 0, .slice fa2 fn2 fc2, .slice ea2 en2 ec2] 25 (0, 0)) := by rw [hw4, hB7]; exact heap_alloc_new w3 _
  have hb4 := bel_on hb3 hu4
  have HY : Hid (∀ W, Below w4.heap.size w4 W → W.heap[B7]? = some (.cells #[.int .i64 0, .int .i64 0, .slice fa2 fn2 fc2, .slice ea2 en2 ec2] 25 (0, 0)) ∧ ISlice W (.slice fa2 fn2 fc2) [] ∧ ASlice W (.slice ea2 en2 ec2) [] ∧ Below w2.heap.size w2 W) := fun W h => ⟨heap_bel h hx4, (hI3.slice.below hu4).below h, (hA3.slice.below hu4).below h, bel_on hb4 h⟩
  have hf4 := HF.out w4 (HX.out w4 hb4).2.2.2
  have p := hf4.1
  have q0 := box_cell (k := 0) p rfl
  have q1 := box_cell (k := 1) p rfl
  have q2 := box_cell (k := 2) p rfl
  have q3 := box_cell (k := 3) p rfl
  have hchk : Calls Try.prog 18 #[.agg #[.int .i64 f.states, .int .i64 f.start, .slice fa fn fc, .slice aa an ac]] w4 fun e w' => e = .returned (.int .i64 c) ∧ Below w4.heap.size w4 w' := by
    have := checkFst_any f _ _ w4 hf4.2.1 hf4.2.2.1
    rw [hc] at this
    exact this
  rw [hw4] at q0 q1 q2 q3
  have HQ : Hid (w4 = w3.alloc (.cells #[.int .i64 0, .int .i64 0, .slice fa2 fn2 fc2, .slice ea2 en2 ec2] 25) ∧ B7 = w3.heap.size) := ⟨hw4, hB7⟩
  clear p hf4 hw4 hB7 hu4 hx4 hI3 hA3 hb3 hb4
  go_wp2_with fail
  rw [← HQ.out.1, ← HQ.out.2]
  clear HQ q0 q1 q2 q3
  refine hchk.mono ?_
  rintro e w5 ⟨rfl, hb5⟩
  clear hchk
  obtain ⟨w6, hw6⟩ : ∃ w6, w6 = (w5.alloc (.cells #[.int .i64 0, .int .i64 0, .slice none 0 0, .slice none 0 0] 25)).alloc (.cells #[.int .i64 0, .int .i64 0, .slice none 0 0, .slice none 0 0] 25) := ⟨_, rfl⟩
  have hu6 : Below w5.heap.size w5 w6 := by rw [hw6]; exact two_up w5 _ _
  have hz11 : ZBlock w6 w5.heap.size := by rw [hw6]; exact heap_bel (bel_up (bel_self _) _) (heap_alloc_new w5 _)
  have hz12 : ZBlock w6 (w5.heap.size + 1) := by
    rw [hw6]
    have := heap_alloc_new (w5.alloc (.cells #[.int .i64 0, .int .i64 0, .slice none 0 0, .slice none 0 0] 25)) (.cells #[.int .i64 0, .int .i64 0, .slice none 0 0, .slice none 0 0] 25)
    rw [one_size] at this
    exact this
  obtain ⟨B11, hB11⟩ : ∃ B, B = w5.heap.size := ⟨_, rfl⟩
  have hb6 := bel_on hb5 hu6
  have HZ : Hid (∀ W, Below B11 w6 W → Below w4.heap.size w4 W) := fun W h => hb6.trans (h.mono (by rw [hB11]; exact hb5.size))
  have hs6 : B11 + 1 < w6.heap.size := by rw [hB11]; exact heap_lt hz12
  rw [← hB11] at hz11 hz12
  have HQ : Hid (w6 = (w5.alloc (.cells #[.int .i64 0, .int .i64 0, .slice none 0 0, .slice none 0 0] 25)).alloc (.cells #[.int .i64 0, .int .i64 0, .slice none 0 0, .slice none 0 0] 25) ∧ B11 = w5.heap.size) := ⟨hw6, hB11⟩
  have hxT := hz11
  have hxA := hz12
  have hIT : ISlice w6 (.slice none 0 0) [] := nil_ints _
  have hAT : ASlice w6 (.slice none 0 0) [] := nil_arcs _
  have hIS := hIT
  have hAS := hAT
  have hb6A := Below.refl B11 w6
  clear hz11 hz12 hu6 hb6 hb5
  have HC : Hid (∀ W, Below w6.heap.size w6 W → W.heap[B11]? = some (.cells #[.int .i64 0, .int .i64 0, .slice none 0 0, .slice none 0 0] 25 (0, 0)) ∧ ISlice W (.slice none 0 0) [] ∧ ASlice W (.slice none 0 0) [] ∧ W.heap[B11 + 1]? = some (.cells #[.int .i64 0, .int .i64 0, .slice none 0 0, .slice none 0 0] 25 (0, 0)) ∧ ISlice W (.slice none 0 0) [] ∧ ASlice W (.slice none 0 0) [] ∧ Below B11 w6 W) := fun W h => ⟨heap_bel h hxT, hIT.below h, hAT.below h, heap_bel h hxA, hIS.below h, hAS.below h, hb6A.trans (h.mono (by have := heap_lt hxT; omega))⟩
  clear hxT hxA hIT hAT hIS hAS hb6A
  clear hw6 hB11
  go_wp2_with fail
  rw [← HQ.out.1, ← HQ.out.2]
  clear HQ
  refine (simpleBegun_any w6).mono ?_
  rintro e wB ⟨rfl, hbB⟩
  have HB : Hid (∀ W, Below wB.heap.size wB W → W.heap[B11]? = some (.cells #[.int .i64 0, .int .i64 0, .slice none 0 0, .slice none 0 0] 25 (0, 0)) ∧ ISlice W (.slice none 0 0) [] ∧ ASlice W (.slice none 0 0) [] ∧ W.heap[B11 + 1]? = some (.cells #[.int .i64 0, .int .i64 0, .slice none 0 0, .slice none 0 0] 25 (0, 0)) ∧ ISlice W (.slice none 0 0) [] ∧ ASlice W (.slice none 0 0) [] ∧ Below w4.heap.size w4 W) := fun W h => ⟨(HC.out W (bel_on hbB h)).1, (HC.out W (bel_on hbB h)).2.1, (HC.out W (bel_on hbB h)).2.2.1, (HC.out W (bel_on hbB h)).2.2.2.1, (HC.out W (bel_on hbB h)).2.2.2.2.1, (HC.out W (bel_on hbB h)).2.2.2.2.2.1, HZ.out W (HC.out W (bel_on hbB h)).2.2.2.2.2.2⟩
  clear hbB HC HZ
  have tB := HB.out wB (bel_self _)
  have yB := HY.out wB tB.2.2.2.2.2.2
  have xB := HX.out wB yB.2.2.2
  have p5 := xB.1
  have p11 := tB.1
  have q0 := box_cell (k := 0) p5 rfl
  have q1 := box_cell (k := 1) p5 rfl
  have q2 := box_cell (k := 2) p5 rfl
  have q3 := box_cell (k := 3) p5 rfl
  have r0 := box_cell (k := 0) p11 rfl
  have r1 := box_cell (k := 1) p11 rfl
  have r2 := box_cell (k := 2) p11 rfl
  have r3 := box_cell (k := 3) p11 rfl
  have hfi := fstIs_badS c h0 fa1 fn1 fc1 ea1 en1 ec1 0 0 (.slice none 0 0) (.slice none 0 0) wB xB.2.1 xB.2.2.1
  go_wp2_with fail
  refine hfi.mono ?_
  rintro e wC ⟨rfl, hbC⟩
  clear hfi tB yB xB p5 p11 q0 q1 q2 q3 r0 r1 r2 r3
  have tB := HB.out wC hbC
  have yB := HY.out wC tB.2.2.2.2.2.2
  have p7 := yB.1
  have p12 := tB.2.2.2.1
  have q0 := box_cell (k := 0) p7 rfl
  have q1 := box_cell (k := 1) p7 rfl
  have q2 := box_cell (k := 2) p7 rfl
  have q3 := box_cell (k := 3) p7 rfl
  have r0 := box_cell (k := 0) p12 rfl
  have r1 := box_cell (k := 1) p12 rfl
  have r2 := box_cell (k := 2) p12 rfl
  have r3 := box_cell (k := 3) p12 rfl
  have hfi := fstIs_badS c h0 fa2 fn2 fc2 ea2 en2 ec2 0 0 (.slice none 0 0) (.slice none 0 0) wC yB.2.1 yB.2.2.1
  go_wp2_with fail
  refine hfi.mono ?_
  rintro e wD ⟨rfl, hbD⟩
  have hbCD := bel_on hbC hbD
  clear hfi tB yB p7 p12 q0 q1 q2 q3 r0 r1 r2 r3
  have tB := HB.out wD hbCD
  have yB := HY.out wD tB.2.2.2.2.2.2
  have xB := HX.out wD yB.2.2.2
  have p5 := xB.1
  have q0 := box_cell (k := 0) p5 rfl
  have q1 := box_cell (k := 1) p5 rfl
  have q2 := box_cell (k := 2) p5 rfl
  have q3 := box_cell (k := 3) p5 rfl
  have hin := invert_bad zeroD _ _ 3 wD xB.2.1 xB.2.2.1 (by decide) (by decide)
  go_wp2_with fail
  refine hin.mono ?_
  rintro e wE ⟨fa5, fn5, fc5, ea5, en5, ec5, rfl, hIE, hAE, hbE⟩
  have hbDE := bel_on hbCD hbE
  clear hin tB yB xB p5 q0 q1 q2 q3
  have tB := HB.out wE hbDE
  have fB := HF.out wE (HX.out wE (HY.out wE tB.2.2.2.2.2.2).2.2.2).2.2.2
  have hfin := fB.2.2.2
  clear tB fB
  go_wp2
  go_ret
  exact ⟨rfl, bel_up hfin _⟩

end Go.Proofs.Yteehgcbjmdideaa
