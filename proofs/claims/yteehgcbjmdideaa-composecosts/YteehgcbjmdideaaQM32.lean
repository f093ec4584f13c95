/- 'Compose' of package compose, where nothing is wrong. -/
import Derived.Test.YteehgcbjmdideaaQM31
import Derived.Test.YteehgcbjmdideaaQM27
import Derived.Test.YteehgcbjmdideaaQM19
namespace Go.Proofs.Yteehgcbjmdideaa
open Go.RowKit
attribute [local go_sem ↓] Go.wp_at_zero Go.wp_at_succ

theorem tooD_fine {f g : FstD} (kf : Fine f) (kg : Fine g) {b : BothD} (hg : Grown f g b.ps.length b) (h : tooD (cmpD f g b (leastL b.arcs)) = false) : checkD (cmpD f g b (leastL b.arcs)) = 0 := by
  have hI := grown_inv kf kg hg
  unfold tooD at h
  simp only [Bool.or_eq_false_iff, decide_eq_false_iff_not] at h
  obtain ⟨h1, h2, h3, h4⟩ := h
  refine cmp_fine kf kg hI (leastL_min _) ?_ ?_ ?_ ?_
  · have : ¬ (200 : Int) < (b.ps.length : Int) := h1
    omega
  · have : ¬ 3000 < (leastL b.arcs).length := h2
    omega
  · intro x hx
    have := List.any_eq_false.1 h3 (endC f g x) (List.mem_map.2 ⟨x, hx, rfl⟩)
    unfold moreB at this
    simp only [decide_eq_true_eq] at this
    omega
  · intro a ha
    have := List.any_eq_false.1 h4 a ha
    unfold moreB at this
    simp only [decide_eq_true_eq] at this
    omega

set_option maxHeartbeats 4000000 in
set_option maxRecDepth 100000 in
theorem compose_fine (f g : FstD) (fin arcs fin' arcs' : Value) (w : World) (hf : ISlice w fin f.final) (ha : ASlice w arcs f.arcs) (hf' : ISlice w fin' g.final) (ha' : ASlice w arcs' g.arcs) (hc : checkD f = 0) (hc' : checkD g = 0) (hl : largeD f = false) (hl' : largeD g = false) :
    Calls Try.prog 31 #[.agg #[.int .i64 f.states, .int .i64 f.start, fin, arcs], .agg #[.int .i64 g.states, .int .i64 g.start, fin', arcs']] w fun e w' =>
      ∃ b, Grown f g b.ps.length b ∧ ((tooD (cmpD f g b (leastL b.arcs)) = true ∧ FstRes w ⟨0, 0, [], []⟩ 2 e w') ∨ (tooD (cmpD f g b (leastL b.arcs)) = false ∧ FstRes w (cmpD f g b (leastL b.arcs)) 0 e w')) := by
  have kf := fine_of hc
  have kg := fine_of hc'
  obtain ⟨fb, fo, N, fc, rfl, hxf, hnf⟩ : ∃ fb fo N fc, fin = .slice (some ⟨fb, fo, none⟩) N fc ∧ IntsAt w fb fo N f.final ∧ 0 < N := by
    rcases hf with ⟨_, _, _, e⟩ | ⟨b, o, n, c, e, hx, _⟩
    · have := kf.len; have := kf.s1; rw [e] at *; simp at *; omega
    · have := hx.len; have := kf.len; have := kf.s1; exact ⟨b, o, n, c, e, hx, by omega⟩
  obtain ⟨gb, go, M, gc, rfl, hxg, hng⟩ : ∃ fb fo N fc, fin' = .slice (some ⟨fb, fo, none⟩) N fc ∧ IntsAt w fb fo N g.final ∧ 0 < N := by
    rcases hf' with ⟨_, _, _, e⟩ | ⟨b, o, n, c, e, hx, _⟩
    · have := kg.len; have := kg.s1; rw [e] at *; simp at *; omega
    · have := hx.len; have := kg.len; have := kg.s1; exact ⟨b, o, n, c, e, hx, by omega⟩
  obtain ⟨aa, m, ac, rfl, hal, _⟩ := ha.lenOf
  obtain ⟨ea, m', ec, rfl, hal', _⟩ := ha'.lenOf
  have hst : f.states ≤ 12 ∧ m ≤ 100 ∧ g.states ≤ 12 ∧ m' ≤ 100 := by
    unfold largeD at hl hl'
    simp only [Bool.or_eq_false_iff, decide_eq_false_iff_not] at hl hl'
    omega
  obtain ⟨W0, hW0⟩ : ∃ W0, W0 = (((w.alloc (.cells #[.int .i64 f.states, .int .i64 f.start, .slice (some ⟨fb, fo, none⟩) N fc, .slice aa m ac] 25)).alloc (.cells #[.int .i64 g.states, .int .i64 g.start, .slice (some ⟨gb, go, none⟩) M gc, .slice ea m' ec] 25)).alloc (.cells #[.int .i64 0, .int .i64 0, .slice none 0 0, .slice none 0 0] 25)).alloc (.cells #[.int .i64 f.states, .int .i64 f.start, .slice (some ⟨fb, fo, none⟩) N fc, .slice aa m ac, .int .i64 g.states, .int .i64 g.start, .slice (some ⟨gb, go, none⟩) M gc, .slice ea m' ec] 25) := ⟨_, rfl⟩
  have hb0 : Below w.heap.size w W0 := by rw [hW0]; exact bel_up (bel_up (two_up w _ _) _) _
  have hF1 : W0.heap[w.heap.size]? = some (.cells #[.int .i64 f.states, .int .i64 f.start, .slice (some ⟨fb, fo, none⟩) N fc, .slice aa m ac] 25 (0, 0)) := by rw [hW0]; exact heap_bel (bel_up (bel_up (bel_up (bel_self _) _) _) _) (heap_alloc_new w _)
  have hF2 : W0.heap[w.heap.size + 1]? = some (.cells #[.int .i64 g.states, .int .i64 g.start, .slice (some ⟨gb, go, none⟩) M gc, .slice ea m' ec] 25 (0, 0)) := by
    rw [hW0]
    have := heap_alloc_new (w.alloc (.cells #[.int .i64 f.states, .int .i64 f.start, .slice (some ⟨fb, fo, none⟩) N fc, .slice aa m ac] 25)) (.cells #[.int .i64 g.states, .int .i64 g.start, .slice (some ⟨gb, go, none⟩) M gc, .slice ea m' ec] 25)
    rw [one_size] at this
    exact heap_bel (bel_up (bel_up (bel_self _) _) _) this
  have hbZ : ZBlock W0 (w.heap.size + 1 + 1) := by
    rw [hW0]
    have := heap_alloc_new ((w.alloc (.cells #[.int .i64 f.states, .int .i64 f.start, .slice (some ⟨fb, fo, none⟩) N fc, .slice aa m ac] 25)).alloc (.cells #[.int .i64 g.states, .int .i64 g.start, .slice (some ⟨gb, go, none⟩) M gc, .slice ea m' ec] 25)) (.cells #[.int .i64 0, .int .i64 0, .slice none 0 0, .slice none 0 0] 25)
    rw [one_size, one_size] at this
    exact heap_bel (bel_up (bel_self _) _) this
  have hb8 : W0.heap[w.heap.size + 1 + 1 + 1]? = some (.cells #[.int .i64 f.states, .int .i64 f.start, .slice (some ⟨fb, fo, none⟩) N fc, .slice aa m ac, .int .i64 g.states, .int .i64 g.start, .slice (some ⟨gb, go, none⟩) M gc, .slice ea m' ec] 25 (0, 0)) := by
    rw [hW0]
    have := heap_alloc_new (((w.alloc (.cells #[.int .i64 f.states, .int .i64 f.start, .slice (some ⟨fb, fo, none⟩) N fc, .slice aa m ac] 25)).alloc (.cells #[.int .i64 g.states, .int .i64 g.start, .slice (some ⟨gb, go, none⟩) M gc, .slice ea m' ec] 25)).alloc (.cells #[.int .i64 0, .int .i64 0, .slice none 0 0, .slice none 0 0] 25)) (.cells #[.int .i64 f.states, .int .i64 f.start, .slice (some ⟨fb, fo, none⟩) N fc, .slice aa m ac, .int .i64 g.states, .int .i64 g.start, .slice (some ⟨gb, go, none⟩) M gc, .slice ea m' ec] 25)
    rw [one_size, one_size, one_size] at this
    exact this
  have hall := all_ok2 f g _ _ _ _ (w.heap.size + 1 + 1 + 1) W0 ⟨box_cell (k := 0) hb8 rfl, box_cell (k := 1) hb8 rfl, box_cell (k := 2) hb8 rfl, box_cell (k := 3) hb8 rfl⟩ ⟨box_cell (k := 4) hb8 rfl, box_cell (k := 5) hb8 rfl, box_cell (k := 6) hb8 rfl, box_cell (k := 7) hb8 rfl⟩ (hf.below hb0) (ha.below hb0) (hf'.below hb0) (ha'.below hb0) hc hc'
  have hL1 : ∀ W, Calls Try.prog 75 #[.agg #[.int .i64 f.states, .int .i64 f.start, .slice (some ⟨fb, fo, none⟩) N fc, .slice aa m ac]] W fun e w' => e = .returned (.bool false) ∧ Below W.heap.size W w' := fun W => by rw [← hl]; exact large_any f _ aa m ac _ _ _ rfl W hal
  have hL2 : ∀ W, Calls Try.prog 75 #[.agg #[.int .i64 g.states, .int .i64 g.start, .slice (some ⟨gb, go, none⟩) M gc, .slice ea m' ec]] W fun e w' => e = .returned (.bool false) ∧ Below W.heap.size W w' := fun W => by rw [← hl']; exact large_any g _ ea m' ec _ _ _ rfl W hal'
  have HM : Hid (∀ W, Below w.heap.size w W → TwoAt ⟨f, g, .slice (some ⟨fb, fo, none⟩) N fc, .slice aa m ac, .slice (some ⟨gb, go, none⟩) M gc, .slice ea m' ec⟩ W W.heap.size fb fo N fc gb go M gc ∧ ArcsOf ⟨f, g, .slice (some ⟨fb, fo, none⟩) N fc, .slice aa m ac, .slice (some ⟨gb, go, none⟩) M gc, .slice ea m' ec⟩ W W.heap.size aa m ac ea m' ec) := fun W hb => by
    have hx1 := hxf.below hb
    have hx2 := hxg.below hb
    exact ⟨⟨rfl, rfl, hx1, hx2, cell_lt (hx1.cell 0 hnf), cell_lt (hx2.cell 0 hng), kf, kg⟩, ⟨rfl, rfl, hal, hal', (ha.below hb).toB, (ha'.below hb).toB⟩⟩
  have HKF : Hid (Fine f ∧ Fine g ∧ f.arcs.length = m ∧ g.arcs.length = m') := ⟨kf, kg, hal, hal'⟩
  clear hc hc' hb8 hf hf' ha ha' hxf hxg hl hl' kf kg hal hal' hnf hng
  go_enter Try.func31, Try.ntmps31
  go_wp2_with fail
  rw [← hW0]
  clear hW0
  refine hall.mono ?_
  rintro e w1 ⟨rfl, hb1⟩
  have hz1 := heap_bel hb1 hbZ
  have p1 := heap_bel hb1 hF1
  have p2 := heap_bel hb1 hF2
  have f0 := box_cell (k := 0) p1 rfl
  have f1 := box_cell (k := 1) p1 rfl
  have f2 := box_cell (k := 2) p1 rfl
  have f3 := box_cell (k := 3) p1 rfl
  have hb01 := bel_on hb0 hb1
  clear hall hF1 hF2 hbZ hb1 hb0
  go_wp2_with fail
  refine (hL1 w1).mono ?_
  rintro e w2 ⟨rfl, hb2⟩
  have hz2 := heap_bel hb2 hz1
  have q1 := heap_bel hb2 p1
  have q2 := heap_bel hb2 p2
  have g0 := box_cell (k := 0) q2 rfl
  have g1 := box_cell (k := 1) q2 rfl
  have g2 := box_cell (k := 2) q2 rfl
  have g3 := box_cell (k := 3) q2 rfl
  have hb02 := bel_on hb01 hb2
  clear hz1 p1 p2 f0 f1 f2 f3 hL1 hb01 hb2
  go_wp2_with fail
  refine (hL2 w2).mono ?_
  rintro e w3 ⟨rfl, hb3⟩
  have hz3 := heap_bel hb3 hz2
  have r1 := heap_bel hb3 q1
  have r2 := heap_bel hb3 q2
  have f0 := box_cell (k := 0) r1 rfl
  have f1 := box_cell (k := 1) r1 rfl
  have f2 := box_cell (k := 2) r1 rfl
  have f3 := box_cell (k := 3) r1 rfl
  have e0 := box_cell (k := 0) r2 rfl
  have e1 := box_cell (k := 1) r2 rfl
  have e2 := box_cell (k := 2) r2 rfl
  have e3 := box_cell (k := 3) r2 rfl
  have hb03 := bel_on hb02 hb3
  obtain ⟨hT3, hR3⟩ := HM.out w3 hb03
  have hbeg := begin_both _ fb fo N fc gb go M gc aa m ac ea m' ec w3 hT3 hR3
  clear hz2 q1 q2 r1 r2 g0 g1 g2 g3 hL2 hb3 hb02
  go_wp2_with fail
  refine hbeg.mono ?_
  rintro e w4 ⟨P, Mb, rfl, hPw, fv, av, pv, h4, hb4⟩
  have hall4 := goAll_any _ P _ Mb 0 fv av pv fb fo N fc gb go M gc aa m ac ea m' ec w4 h4 (hT3.below hb4) (hR3.below hb4) hst.2.1 hst.2.2.2 hst.1 hst.2.2.1
  have hz4 := heap_bel hb4 hz3
  clear hbeg f0 f1 f2 f3 e0 e1 e2 e3
  go_wp2_with fail
  refine hall4.mono ?_
  rintro e w5 ⟨rfl, b, hgr, fv5, av5, pv5, h5, hs5⟩
  have hb5 : Below w3.heap.size w4 w5 := hs5.below h4
  have hb35 : Below w3.heap.size w3 w5 := hb4.trans hb5
  have hz5 := heap_bel hb35 hz3
  have hI := grown_inv HKF.out.1 HKF.out.2.1 hgr
  have hal5 : b.arcs.length ≤ 100000 := by
    have h1 := arcs_le hI
    have h2 : f.arcs.length * g.arcs.length ≤ 100 * 100 := Nat.mul_le_mul (by have := HKF.out.2.2.1; omega) (by have := HKF.out.2.2.2; omega)
    have h3 : f.arcs.length * g.states.toNat ≤ 100 * 12 := Nat.mul_le_mul (by have := HKF.out.2.2.1; omega) (by omega)
    have h4 : g.arcs.length * f.states.toNat ≤ 100 * 12 := Nat.mul_le_mul (by have := HKF.out.2.2.2; omega) (by omega)
    have h1' : b.arcs.length ≤ f.arcs.length * g.arcs.length + (f.arcs.length * g.states.toNat + g.arcs.length * f.states.toNat) := h1
    omega
  have hlst := least_any b.arcs av5 w5 (ownsRow_arcs (BV.arc h5)) hal5
  obtain ⟨va5, vc5, rfl⟩ := own_sl (BV.arc h5)
  have c3 := box_cell (k := 3) (v := .slice va5 b.arcs.length vc5) (BV.box h5) rfl
  clear hall4 hal5 hI hz4 hb5
  go_wp2_with fail
  refine hlst.mono ?_
  rintro e w6 ⟨v6, rfl, hA6, hb6⟩
  obtain ⟨la, ln, lc, rfl, hln, _⟩ := hA6.slice.lenOf
  have h6 := BV.below h5 hb6
  have d3 := box_cell (k := 3) (v := .slice va5 b.arcs.length vc5) (BV.box h6) rfl
  have z3 := box_frz (BV.box h6) 3
  have hPl := BV.lt h5
  have hbx7 : (w6.setCell ⟨P, 3, none⟩ (.slice la ln lc)).heap[P]? = some (.cells (bothV ⟨f, g, .slice (some ⟨fb, fo, none⟩) N fc, .slice aa m ac, .slice (some ⟨gb, go, none⟩) M gc, .slice ea m' ec⟩ b.ps.length 0 fv5 (.slice la ln lc) Mb pv5) 93 (0, 0)) := box_set (k := 3) (BV.box h6) rfl
  obtain ⟨w7, hw7⟩ : ∃ w7, w7 = w6.setCell ⟨P, 3, none⟩ (.slice la ln lc) := ⟨_, rfl⟩
  have hA7 : AFrom w5.heap.size w7 (.slice la ln lc) (leastL b.arcs) := by rw [hw7]; exact hA6.set hPl
  have hF7 : w7.ownsRow w3.heap.size 3 1 fv5 (b.ps.map (endC f g)).length ((b.ps.map (endC f g)).map (Value.int .i64)) := by rw [hw7]; exact ownsRow_setCell_far (BV.fin h6) (BV.fP h6)
  have hb37 : Below w3.heap.size w3 w7 := by rw [hw7]; exact (hb35.trans (hb6.mono (hb35.size))).setCell (p := ⟨P, 3, none⟩) hPw _
  rw [← hw7] at hbx7
  obtain ⟨ua, uc, rfl⟩ := own_sl hF7
  have n0 := box_cell (k := 0) (v := .int .i64 (b.ps.length : Nat)) (BV.box h6) rfl
  have n1 := box_cell (k := 1) (v := .int .i64 0) (BV.box h6) rfl
  have n2 := box_cell (k := 2) (v := .slice ua (b.ps.map (endC f g)).length uc) (BV.box h6) rfl
  have k0 := box_cell (k := 0) (v := .int .i64 (b.ps.length : Nat)) hbx7 rfl
  have k1 := box_cell (k := 1) (v := .int .i64 0) hbx7 rfl
  have k2 := box_cell (k := 2) (v := .slice ua (b.ps.map (endC f g)).length uc) hbx7 rfl
  have k3 := box_cell (k := 3) (v := .slice la ln lc) hbx7 rfl
  have htoo := tooMuch_any (cmpD f g b (leastL b.arcs)) ua _ uc la ln lc w7 (own_ifrom hF7).slice hA7.slice hln
  obtain ⟨X, hX⟩ : ∃ X, X = cmpD f g b (leastL b.arcs) := ⟨_, rfl⟩
  have HX : Hid (X = cmpD f g b (leastL b.arcs) ∧ X.states = (b.ps.length : Nat) ∧ X.start = 0) := ⟨hX, by rw [hX]; rfl, by rw [hX]; rfl⟩
  have HX2 : Hid (X.final = b.ps.map (endC f g) ∧ X.arcs = leastL b.arcs) := ⟨by rw [hX]; rfl, by rw [hX]; rfl⟩
  have HW7 : Hid (w7 = w6.setCell ⟨P, 3, none⟩ (.slice la ln lc)) := hw7
  obtain ⟨ul, hul⟩ : ∃ n, n = (b.ps.map (endC f g)).length := ⟨_, rfl⟩
  rw [← hul] at htoo k2 hF7 n2
  rw [← hX] at htoo
  have HUL : Hid (ul = (b.ps.map (endC f g)).length) := hul
  clear hX hlst h5 h6 hA6 hw7 hbx7 hul
  have hz7 := heap_bel hb37 hz3
  go_wp2_with fail
  rw [← HW7.out]
  clear HW7 d3 z3 n0 n1 n2
  rw [HX.out.2.1, HX.out.2.2] at htoo
  refine htoo.mono ?_
  rintro e w8 ⟨rfl, hb8⟩
  have hz8 := heap_bel hb8 hz7
  have j0 := bel_c hb8 k0
  have j1 := bel_c hb8 k1
  have j2 := bel_c hb8 k2
  have j3 := bel_c hb8 k3
  have hb38 : Below w3.heap.size w3 w8 := hb37.trans (hb8.mono hb37.size)
  have hb08 : Below w.heap.size w w8 := hb03.trans (hb38.mono hb03.size)
  obtain ⟨z0, z1, z2, z3, y0, y1, y2, y3⟩ := zfacts hz8
  have hzl := heap_lt hz3
  clear htoo k0 k1 k2 k3 hz7
  cases ht : tooD X with
  | true =>
    have HT : Hid (tooD X = true) := ht
    clear ht
    go_wp2
    exact bodyPost_ret (v := .tuple #[.agg #[.int .i64 0, .int .i64 0, .slice none 0 0, .slice none 0 0], .int .i64 2]) (by simp [results, Try.results31, go_sem, *]) rfl ⟨b, hgr, Or.inl ⟨by rw [← HX.out.1]; exact HT.out, _, _, _, _, _, _, rfl, Or.inl ⟨_, _, rfl, rfl⟩, Or.inl ⟨_, _, rfl, rfl⟩, bel_set4 hb08 (by omega) _ _ _ _⟩⟩
  | false =>
    have HT : Hid (tooD X = false) := ht
    clear ht
    have hF8 : w8.ownsRow w3.heap.size 3 1 (.slice ua ul uc) (b.ps.map (endC f g)).length ((b.ps.map (endC f g)).map (Value.int .i64)) := by rw [HUL.out] at hF7 ⊢; exact ownsRow_bel hF7 hb8
    have hA8 := (hA7.below hb8).mono (B' := w3.heap.size) hb35.size
    obtain ⟨r1, r2⟩ := farS hF8 hA8 hzl hb03.size (.int .i64 (b.ps.length : Nat)) (.int .i64 0) (.slice ua ul uc) (.slice la ln lc)
    go_wp2
    exact bodyPost_ret (v := .tuple #[.agg #[.int .i64 (b.ps.length : Nat), .int .i64 0, .slice ua ul uc, .slice la ln lc], .int .i64 0]) (by simp [results, Try.results31, go_sem, *]) rfl ⟨b, hgr, Or.inr ⟨by rw [← HX.out.1]; exact HT.out, _, _, _, _, _, _, rfl, r1, r2, bel_set4 hb08 (by omega) _ _ _ _⟩⟩

theorem errC_def (f g : FstD) : (checkD f ≠ 0 ∧ errC f g = checkD f) ∨ (checkD f = 0 ∧ checkD g ≠ 0 ∧ errC f g = checkD g) ∨ (checkD f = 0 ∧ checkD g = 0 ∧ (largeD f || largeD g) = true ∧ errC f g = 2) ∨ (checkD f = 0 ∧ checkD g = 0 ∧ largeD f = false ∧ largeD g = false ∧ errC f g = 0) := by
  unfold errC
  by_cases h1 : checkD f = 0
  · rw [if_pos h1]
    by_cases h2 : checkD g = 0
    · rw [if_pos h2]
      cases h3 : (largeD f || largeD g) with
      | true => exact Or.inr (Or.inr (Or.inl ⟨h1, h2, rfl, rfl⟩))
      | false =>
        rw [Bool.or_eq_false_iff] at h3
        exact Or.inr (Or.inr (Or.inr ⟨h1, h2, h3.1, h3.2, rfl⟩))
    · rw [if_neg h2]; exact Or.inr (Or.inl ⟨h1, h2, rfl⟩)
  · rw [if_neg h1]; exact Or.inl ⟨h1, rfl⟩

theorem compose_any (f g : FstD) (fin arcs fin' arcs' : Value) (w : World) (hf : ISlice w fin f.final) (ha : ASlice w arcs f.arcs) (hf' : ISlice w fin' g.final) (ha' : ASlice w arcs' g.arcs) :
    Calls Try.prog 31 #[.agg #[.int .i64 f.states, .int .i64 f.start, fin, arcs], .agg #[.int .i64 g.states, .int .i64 g.start, fin', arcs']] w fun e w' => ∃ X u, CmpRes f g X u ∧ FstRes w X u e w' := by
  rcases errC_def f g with ⟨h1, h2⟩ | ⟨h1, h2, h3⟩ | ⟨h1, h2, h3, h4⟩ | ⟨h1, h2, h3, h4, h5⟩
  · refine (compose_wrong f g fin arcs fin' arcs' w hf ha hf' ha' (checkD f) (by simpa using h1) (Or.inl rfl)).mono fun e w' h => ⟨_, _, Or.inl ⟨by rw [h2]; exact h1, rfl, rfl⟩, by rw [h2]; exact h⟩
  · refine (compose_wrong f g fin arcs fin' arcs' w hf ha hf' ha' (checkD g) (by simpa using h2) (Or.inr ⟨h1, rfl⟩)).mono fun e w' h => ⟨_, _, Or.inl ⟨by rw [h3]; exact h2, rfl, rfl⟩, by rw [h3]; exact h⟩
  · refine (compose_large f g fin arcs fin' arcs' w hf ha hf' ha' h1 h2 h3).mono fun e w' h => ⟨_, _, Or.inl ⟨by rw [h4]; decide, rfl, rfl⟩, by rw [h4]; exact h⟩
  · refine (compose_fine f g fin arcs fin' arcs' w hf ha hf' ha' h1 h2 h3 h4).mono fun e w' ⟨b, hb, h⟩ => ?_
    rcases h with ⟨h, hr⟩ | ⟨h, hr⟩
    · exact ⟨_, _, Or.inr ⟨h5, b, hb, Or.inl ⟨h, rfl, rfl⟩⟩, hr⟩
    · exact ⟨_, _, Or.inr ⟨h5, b, hb, Or.inr ⟨h, rfl, rfl⟩⟩, hr⟩
end Go.Proofs.Yteehgcbjmdideaa

/- 'composeBegun' of the statements. (Made by wip/gen/cpy.py.) -/
namespace Go.Proofs.Yteehgcbjmdideaa
open Go.RowKit
attribute [local go_sem ↓] Go.wp_at_zero Go.wp_at_succ

def cmpOne : FstD := ⟨2, 0, [-1, 2], [⟨0, 1, 1, 1, 10⟩]⟩
theorem best_cmp : BestP cmpOne [1] [1] 0 12 :=
  best_by 12 (by decide) [(0, 0, 0, 0), (1, 1, 1, 10)] (by decide) (by decide) (by decide) [⟨0, 1, 1, 1, 10⟩] (by simp [cmpOne]) 1 10 (by decide) (by decide) (by decide)

theorem exp_0 : expD oneD invOne ⟨[(0, 0)], []⟩ 0 = ⟨[(0, 0), (1, 1)], [⟨0, 1, 1, 1, 10⟩]⟩ := rfl
theorem exp_1 : expD oneD invOne ⟨[(0, 0), (1, 1)], [⟨0, 1, 1, 1, 10⟩]⟩ 1 = ⟨[(0, 0), (1, 1)], [⟨0, 1, 1, 1, 10⟩]⟩ := rfl
theorem gr_0 {b : BothD} (h : Grown oneD invOne 0 b) : b = ⟨[(0, 0)], []⟩ := h
theorem gr_1 {b : BothD} (h : Grown oneD invOne 1 b) : b = ⟨[(0, 0), (1, 1)], [⟨0, 1, 1, 1, 10⟩]⟩ := by
  obtain ⟨b', h1, _, h2⟩ := h
  rw [gr_0 h1] at h2
  exact h2.trans exp_0
theorem gr_2 {b : BothD} (h : Grown oneD invOne 2 b) : b = ⟨[(0, 0), (1, 1)], [⟨0, 1, 1, 1, 10⟩]⟩ := by
  obtain ⟨b', h1, _, h2⟩ := h
  rw [gr_1 h1] at h2
  exact h2.trans exp_1
theorem gr_3 (n : Nat) : ∀ {b : BothD}, ¬ Grown oneD invOne (n + 3) b := by
  induction n with
  | zero =>
    rintro b ⟨b', h1, h2, _⟩
    rw [gr_2 h1] at h2
    exact absurd h2 (by decide)
  | succ n ih =>
    rintro b ⟨b', h1, _, _⟩
    exact ih h1
theorem gr_all {b : BothD} {k : Nat} (hk : b.ps.length = k) (h : Grown oneD invOne k b) : b = ⟨[(0, 0), (1, 1)], [⟨0, 1, 1, 1, 10⟩]⟩ := by
  match k, h with
  | 0, h => rw [gr_0 h] at hk; exact absurd hk (by decide)
  | 1, h => exact gr_1 h
  | 2, h => exact gr_2 h
  | n + 3, h => exact absurd h (gr_3 n)
theorem cmp_one {X : FstD} {u : Int} (h : CmpRes oneD invOne X u) : X = cmpOne ∧ u = 0 := by
  have he : errC oneD invOne = 0 := by
    unfold errC
    rw [if_pos check_one, if_pos check_inv]
    rfl
  rcases h with ⟨h0, _⟩ | ⟨_, b, hb, h⟩
  · exact absurd he h0
  · have e := gr_all rfl hb
    have e2 : cmpD oneD invOne b (leastL b.arcs) = cmpOne := by
      rw [e]
      show FstD.mk 2 0 [-1, 2] (leastL [⟨0, 1, 1, 1, 10⟩]) = cmpOne
      rw [min_of (r := [⟨0, 1, 1, 1, 10⟩]) (by decide) (fun a => Iff.rfl)]
      rfl
    rw [e2] at h
    rcases h with ⟨h1, _⟩ | ⟨_, h2, h3⟩
    · exact absurd h1 (by decide)
    · exact ⟨h3, h2⟩

set_option maxHeartbeats 2000000 in
set_option maxRecDepth 100000 in
theorem composeBegun_any (w : World) : Calls Try.prog 33 #[] w fun e w' => e = .returned (.bool true) ∧ Below w.heap.size w w' := by
  go_enter Try.func33, Try.ntmps33
  go_wp2_with fail
  refine (one_ex w).mono ?_
  rintro e w1 ⟨N1, M1, rfl, hI1, hA1, hb1⟩
  have hinv := invert_ok oneD _ _ w1 hI1 hA1 check_one
  rw [inv_one_is] at hinv
  go_wp2_with fail
  refine hinv.mono ?_
  rintro e w2 ⟨fa1, fn1, fc1, ea1, en1, ec1, rfl, hI2, hA2, hb2⟩
  clear hinv hI1 hA1
  go_wp2_with fail
  have hb2' := bel_on hb1 hb2
  obtain ⟨B1, hB1⟩ : ∃ B, B = w2.heap.size := ⟨_, rfl⟩
  obtain ⟨w3, hw3⟩ : ∃ w3, w3 = w2.alloc (.cells #[.int .i64 invOne.states, .int .i64 invOne.start, .slice fa1 fn1 fc1, .slice ea1 en1 ec1] 25) := ⟨_, rfl⟩
  have hx3 : w3.heap[B1]? = some (.cells #[.int .i64 invOne.states, .int .i64 invOne.start, .slice fa1 fn1 fc1, .slice ea1 en1 ec1] 25 (0, 0)) := by rw [hw3, hB1]; exact heap_alloc_new w2 _
  have hu3 : Below w2.heap.size w2 w3 := by rw [hw3]; exact bel_up (bel_self w2) _
  have hI3 := hI2.slice.below hu3
  have hA3 := hA2.slice.below hu3
  have HB3 : Hid (Below w.heap.size w w3) := bel_on hb2' hu3
  rw [← hw3, ← hB1]
  clear hw3 hB1 hu3 hI2 hA2 hb2 hb1 hb2'
  have HW3 : Hid (∀ W, Below w3.heap.size w3 W → ISlice W (.slice fa1 fn1 fc1) invOne.final ∧ ASlice W (.slice ea1 en1 ec1) invOne.arcs) := fun W h => ⟨hI3.below h, hA3.below h⟩
  have u0 := box_cell (k := 0) hx3 rfl
  have u1 := box_cell (k := 1) hx3 rfl
  have u2 := box_cell (k := 2) hx3 rfl
  have u3 := box_cell (k := 3) hx3 rfl
  clear hx3 hI3 hA3
  obtain ⟨Wd, hWd⟩ : ∃ Wd, Wd = w3.drew := ⟨_, rfl⟩
  have hud : Below w3.heap.size w3 Wd := by rw [hWd]; exact (bel_self w3).drew
  have hS0 : (fun wx : World => wx.cell? ⟨B1, 0, none⟩ = some (.int .i64 invOne.states) ∧ wx.cell? ⟨B1, 1, none⟩ = some (.int .i64 invOne.start) ∧ wx.cell? ⟨B1, 2, none⟩ = some (.slice fa1 fn1 fc1) ∧ wx.cell? ⟨B1, 3, none⟩ = some (.slice ea1 en1 ec1)) Wd := ⟨bel_c hud u0, bel_c hud u1, bel_c hud u2, bel_c hud u3⟩
  have HSB : Hid (∀ wx : World, Below Wd.heap.size Wd wx → (fun wx : World => wx.cell? ⟨B1, 0, none⟩ = some (.int .i64 invOne.states) ∧ wx.cell? ⟨B1, 1, none⟩ = some (.int .i64 invOne.start) ∧ wx.cell? ⟨B1, 2, none⟩ = some (.slice fa1 fn1 fc1) ∧ wx.cell? ⟨B1, 3, none⟩ = some (.slice ea1 en1 ec1)) wx) := fun wx h => ⟨bel_c h hS0.1, bel_c h hS0.2.1, bel_c h hS0.2.2.1, bel_c h hS0.2.2.2⟩
  have HUD : Hid (Below w3.heap.size w3 Wd) := hud
  have HCALL : Hid (∀ (W : World) (N M : Nat), Below Wd.heap.size Wd W → ISlice W (.slice (some ⟨N, 0, none⟩) 2 2) oneD.final → ASlice W (.slice (some ⟨M, 0, none⟩) 1 1) oneD.arcs → Calls Try.prog 31 #[.agg #[.int .i64 2, .int .i64 0, .slice (some ⟨N, 0, none⟩) 2 2, .slice (some ⟨M, 0, none⟩) 1 1], .agg #[.int .i64 invOne.states, .int .i64 invOne.start, .slice fa1 fn1 fc1, .slice ea1 en1 ec1]] W fun e w' => FstRes W cmpOne 0 e w') := fun W N M hb k1 k2 => by
    refine (compose_any oneD invOne _ _ _ _ W k1 k2 (HW3.out W (bel_on HUD.out hb)).1 (HW3.out W (bel_on HUD.out hb)).2).mono ?_
    rintro e w' ⟨X, u, h1, h2⟩
    obtain ⟨rfl, rfl⟩ := cmp_one h1
    exact h2
  have HWD : Hid (Wd = w3.drew) := hWd
  clear hWd hud u0 u1 u2 u3
  go_cut [3, 4] from 7 (fun t3 t4 wx => ∃ (B : Nat) (fa : Option Addr) (fn fc : Nat) (ea : Option Addr) (en ec : Nat), t3 = .pointer (some ⟨B, 0, none⟩) ∧ t4 = .int .i64 0 ∧ wx.heap[B]? = some (.cells #[.int .i64 cmpOne.states, .int .i64 cmpOne.start, .slice fa fn fc, .slice ea en ec] 25 (0, 0)) ∧ ISlice wx (.slice fa fn fc) cmpOne.final ∧ ASlice wx (.slice ea en ec) cmpOne.arcs ∧ Below w3.heap.size w3 wx)
  case first =>
    refine wp_region_noPanic ?_
    refine wp_region_U (fun wx : World => wx.cell? ⟨B1, 0, none⟩ = some (.int .i64 invOne.states) ∧ wx.cell? ⟨B1, 1, none⟩ = some (.int .i64 invOne.start) ∧ wx.cell? ⟨B1, 2, none⟩ = some (.slice fa1 fn1 fc1) ∧ wx.cell? ⟨B1, 3, none⟩ = some (.slice ea1 en1 ec1)) 8 (by kernel_rfl) (by rw [← HWD.out]; exact hS0) (fun _ => ?_)
    rw [← HWD.out]
    clear HWD
    refine wpAnyU_take (i := 1) (v := .agg #[.int .i64 invOne.states, .int .i64 invOne.start, .slice fa1 fn1 fc1, .slice ea1 en1 ec1]) rfl (by kernel_rfl) (by kernel_rfl) (by kernel_rfl) (by kernel_rfl) (fun _ _ _ h => h) (Or.inl ⟨by rfl, fun wl hSw => ?_⟩) hS0 ?_
    · (try dsimp only at hSw); go_simp
    refine wpAnyU_two (i := 0) (j := 6) rfl rfl (by kernel_rfl) (fun K hK => ?_) (fun K hK => ?_)
    · go_simp
      refine (one_ex Wd).mono ?_
      rintro e w1 ⟨N, M, rfl, hI1, hA1, hb1⟩
      have hbo : Below Wd.heap.size Wd w1 := hb1
      refine hK.out _ _ ⟨fun _ => HSB.out _ hbo, ?_⟩
      clear hK K
      refine wpAnyU_two (i := 2) (j := 6) rfl rfl (by kernel_rfl) (fun K hK => ?_) (fun K hK => ?_)
      · go_simp
        refine (HCALL.out w1 N M hbo hI1 hA1).mono ?_
        rintro e w2 ⟨fa, fn, fc, ea, en, ec, rfl, hI2, hA2, hb2⟩
        have hbc : Below Wd.heap.size Wd w2 := bel_on hbo hb2
        refine hK.out _ _ ⟨fun _ => HSB.out _ hbc, ?_⟩
        clear hK K
        refine wpAnyU_take (i := 3) (v := .tuple #[.agg #[.int .i64 cmpOne.states, .int .i64 cmpOne.start, .slice fa fn fc, .slice ea en ec], .int .i64 0]) rfl (by kernel_rfl) (by kernel_rfl) (by kernel_rfl) (by kernel_rfl) (fun _ _ _ h => h) (Or.inl ⟨by rfl, fun wl hSw => ?_⟩) (HSB.out _ hbc) ?_
        · (try dsimp only at hSw); go_simp
        refine wpAnyU_take (i := 4) (v := .agg #[.int .i64 cmpOne.states, .int .i64 cmpOne.start, .slice fa fn fc, .slice ea en ec]) rfl (by kernel_rfl) (by kernel_rfl) (by kernel_rfl) (by kernel_rfl) (fun _ _ _ h => h) (Or.inl ⟨by rfl, fun wl hSw => ?_⟩) (HSB.out _ hbc) ?_
        · (try dsimp only at hSw); go_simp
        refine wpAnyU_take (i := 5) (v := .int .i64 0) rfl (by kernel_rfl) (by kernel_rfl) (by kernel_rfl) (by kernel_rfl) (fun _ _ _ h => h) (Or.inl ⟨by rfl, fun wl hSw => ?_⟩) (HSB.out _ hbc) ?_
        · (try dsimp only at hSw); go_simp
        refine wpAnyU_one (i := 6) rfl (by kernel_rfl) (fun K hK => ?_)
        go_simp
        have hbz := bel_up hbc (.cells #[.int .i64 0, .int .i64 0, .slice none 0 0, .slice none 0 0] 25)
        refine hK.out _ _ ⟨fun _ => HSB.out _ hbz, ?_⟩
        clear hK K
        have hzP : ZBlock (w2.alloc (.cells #[.int .i64 0, .int .i64 0, .slice none 0 0, .slice none 0 0] 25)) w2.heap.size := heap_alloc_new w2 _
        obtain ⟨z0, z1, z2, z3, y0, y1, y2, y3⟩ := zfacts hzP
        have hM : Hid (∃ (B9 : Nat) (fa9 : Option Addr) (fn9 fc9 : Nat) (ea9 : Option Addr) (en9 ec9 : Nat), Value.pointer (some ⟨w2.heap.size, 0, none⟩) = .pointer (some ⟨B9, 0, none⟩) ∧ (w2.alloc (.cells #[.int .i64 cmpOne.states, .int .i64 cmpOne.start, .slice fa fn fc, .slice ea en ec] 25)).heap[B9]? = some (.cells #[.int .i64 cmpOne.states, .int .i64 cmpOne.start, .slice fa9 fn9 fc9, .slice ea9 en9 ec9] 25 (0, 0)) ∧ ISlice (w2.alloc (.cells #[.int .i64 cmpOne.states, .int .i64 cmpOne.start, .slice fa fn fc, .slice ea en ec] 25)) (.slice fa9 fn9 fc9) cmpOne.final ∧ ASlice (w2.alloc (.cells #[.int .i64 cmpOne.states, .int .i64 cmpOne.start, .slice fa fn fc, .slice ea en ec] 25)) (.slice ea9 en9 ec9) cmpOne.arcs ∧ Below w3.heap.size w3 (w2.alloc (.cells #[.int .i64 cmpOne.states, .int .i64 cmpOne.start, .slice fa fn fc, .slice ea en ec] 25))) := ⟨w2.heap.size, fa, fn, fc, ea, en, ec, rfl, heap_alloc_new w2 _, (hI2.slice.below (bel_up (bel_self w2) _)), (hA2.slice.below (bel_up (bel_self w2) _)), bel_on HUD.out (bel_up hbc _)⟩
        refine wpAnyU_one (i := 7) rfl (by kernel_rfl) (fun K hK => ?_)
        go_simp
        refine hK.out _ _ ⟨fun _ => HSB.out _ (bel_up hbc _), ?_⟩
        clear hK K
        refine wpAnyU_one (i := 8) rfl (by kernel_rfl) (fun K hK => ?_)
        go_simp
        refine hK.out _ _ ⟨fun h => absurd rfl h, ?_⟩
        clear hK K
        refine wpAnyU_done (by kernel_rfl) ?_ _
        refine NoPanic.normal ?_
        go_wp2
        go_meet
        case rel =>
          obtain ⟨B9, fa9, fn9, fc9, ea9, en9, ec9, q1, q3, q4, q5, q6⟩ := hM.out
          exact ⟨B9, fa9, fn9, fc9, ea9, en9, ec9, q1, rfl, q3, q4, q5, q6⟩
      · go_simp
        have hbz := bel_up hbo (.cells #[.int .i64 0, .int .i64 0, .slice none 0 0, .slice none 0 0] 25)
        refine hK.out _ _ ⟨fun _ => HSB.out _ hbz, ?_⟩
        clear hK K
        have hzP : ZBlock (w1.alloc (.cells #[.int .i64 0, .int .i64 0, .slice none 0 0, .slice none 0 0] 25)) w1.heap.size := heap_alloc_new w1 _
        refine wpAnyU_one (i := 2) rfl (by kernel_rfl) (fun K hK => ?_)
        go_simp
        refine (HCALL.out _ N M hbz (hI1.below (bel_up (bel_self w1) _)) (hA1.below (bel_up (bel_self w1) _))).mono ?_
        rintro e w2 ⟨fa, fn, fc, ea, en, ec, rfl, hI2, hA2, hb2⟩
        have hbc : Below Wd.heap.size Wd w2 := bel_on hbz hb2
        refine hK.out _ _ ⟨fun _ => HSB.out _ hbc, ?_⟩
        clear hK K
        refine wpAnyU_take (i := 3) (v := .tuple #[.agg #[.int .i64 cmpOne.states, .int .i64 cmpOne.start, .slice fa fn fc, .slice ea en ec], .int .i64 0]) rfl (by kernel_rfl) (by kernel_rfl) (by kernel_rfl) (by kernel_rfl) (fun _ _ _ h => h) (Or.inl ⟨by rfl, fun wl hSw => ?_⟩) (HSB.out _ hbc) ?_
        · (try dsimp only at hSw); go_simp
        refine wpAnyU_take (i := 4) (v := .agg #[.int .i64 cmpOne.states, .int .i64 cmpOne.start, .slice fa fn fc, .slice ea en ec]) rfl (by kernel_rfl) (by kernel_rfl) (by kernel_rfl) (by kernel_rfl) (fun _ _ _ h => h) (Or.inl ⟨by rfl, fun wl hSw => ?_⟩) (HSB.out _ hbc) ?_
        · (try dsimp only at hSw); go_simp
        refine wpAnyU_take (i := 5) (v := .int .i64 0) rfl (by kernel_rfl) (by kernel_rfl) (by kernel_rfl) (by kernel_rfl) (fun _ _ _ h => h) (Or.inl ⟨by rfl, fun wl hSw => ?_⟩) (HSB.out _ hbc) ?_
        · (try dsimp only at hSw); go_simp
        have hz2 := heap_bel hb2 hzP
        have hzlt := heap_lt hzP
        obtain ⟨z0, z1, z2, z3, y0, y1, y2, y3⟩ := zfacts hz2
        have hBw : Wd.heap.size ≤ w1.heap.size := hbo.size
        have hM : Hid (∃ (B9 : Nat) (fa9 : Option Addr) (fn9 fc9 : Nat) (ea9 : Option Addr) (en9 ec9 : Nat), Value.pointer (some ⟨w1.heap.size, 0, none⟩) = .pointer (some ⟨B9, 0, none⟩) ∧ (((((w2.setCell ⟨w1.heap.size, 0, none⟩ (.int .i64 cmpOne.states)).setCell ⟨w1.heap.size, 1, none⟩ (.int .i64 cmpOne.start)).setCell ⟨w1.heap.size, 2, none⟩ (.slice fa fn fc)).setCell ⟨w1.heap.size, 3, none⟩ (.slice ea en ec))).heap[B9]? = some (.cells #[.int .i64 cmpOne.states, .int .i64 cmpOne.start, .slice fa9 fn9 fc9, .slice ea9 en9 ec9] 25 (0, 0)) ∧ ISlice (((((w2.setCell ⟨w1.heap.size, 0, none⟩ (.int .i64 cmpOne.states)).setCell ⟨w1.heap.size, 1, none⟩ (.int .i64 cmpOne.start)).setCell ⟨w1.heap.size, 2, none⟩ (.slice fa fn fc)).setCell ⟨w1.heap.size, 3, none⟩ (.slice ea en ec))) (.slice fa9 fn9 fc9) cmpOne.final ∧ ASlice (((((w2.setCell ⟨w1.heap.size, 0, none⟩ (.int .i64 cmpOne.states)).setCell ⟨w1.heap.size, 1, none⟩ (.int .i64 cmpOne.start)).setCell ⟨w1.heap.size, 2, none⟩ (.slice fa fn fc)).setCell ⟨w1.heap.size, 3, none⟩ (.slice ea en ec))) (.slice ea9 en9 ec9) cmpOne.arcs ∧ Below w3.heap.size w3 (((((w2.setCell ⟨w1.heap.size, 0, none⟩ (.int .i64 cmpOne.states)).setCell ⟨w1.heap.size, 1, none⟩ (.int .i64 cmpOne.start)).setCell ⟨w1.heap.size, 2, none⟩ (.slice fa fn fc)).setCell ⟨w1.heap.size, 3, none⟩ (.slice ea en ec)))) := ⟨w1.heap.size, fa, fn, fc, ea, en, ec, rfl, box_set4S hz2 _ _ _ _, (far_set hI2 hA2 hzP _ _ _ _).1, (far_set hI2 hA2 hzP _ _ _ _).2, bel_on HUD.out (bel4 hbc hBw _ _ _ _)⟩
        refine wpAnyU_one (i := 7) rfl (by kernel_rfl) (fun K hK => ?_)
        go_simp
        refine hK.out _ _ ⟨fun _ => HSB.out _ (bel4 hbc hBw _ _ _ _), ?_⟩
        clear hK K
        refine wpAnyU_one (i := 8) rfl (by kernel_rfl) (fun K hK => ?_)
        go_simp
        refine hK.out _ _ ⟨fun h => absurd rfl h, ?_⟩
        clear hK K
        refine wpAnyU_done (by kernel_rfl) ?_ _
        refine NoPanic.normal ?_
        go_wp2
        go_meet
        case rel =>
          obtain ⟨B9, fa9, fn9, fc9, ea9, en9, ec9, q1, q3, q4, q5, q6⟩ := hM.out
          exact ⟨B9, fa9, fn9, fc9, ea9, en9, ec9, q1, rfl, q3, q4, q5, q6⟩
    · go_simp
      have hbz := bel_up (bel_self Wd) (.cells #[.int .i64 0, .int .i64 0, .slice none 0 0, .slice none 0 0] 25)
      refine hK.out _ _ ⟨fun _ => HSB.out _ hbz, ?_⟩
      clear hK K
      have hzQ : ZBlock (Wd.alloc (.cells #[.int .i64 0, .int .i64 0, .slice none 0 0, .slice none 0 0] 25)) Wd.heap.size := heap_alloc_new Wd _
      refine wpAnyU_one (i := 0) rfl (by kernel_rfl) (fun K hK => ?_)
      go_simp
      refine (one_ex _).mono ?_
      rintro e w1 ⟨N, M, rfl, hI1, hA1, hb1⟩
      have hbo : Below Wd.heap.size Wd w1 := bel_on hbz hb1
      refine hK.out _ _ ⟨fun _ => HSB.out _ hbo, ?_⟩
      clear hK K
      have hzP := heap_bel hb1 hzQ
      refine wpAnyU_one (i := 2) rfl (by kernel_rfl) (fun K hK => ?_)
      go_simp
      refine (HCALL.out w1 N M hbo hI1 hA1).mono ?_
      rintro e w2 ⟨fa, fn, fc, ea, en, ec, rfl, hI2, hA2, hb2⟩
      have hbc : Below Wd.heap.size Wd w2 := bel_on hbo hb2
      refine hK.out _ _ ⟨fun _ => HSB.out _ hbc, ?_⟩
      clear hK K
      refine wpAnyU_take (i := 3) (v := .tuple #[.agg #[.int .i64 cmpOne.states, .int .i64 cmpOne.start, .slice fa fn fc, .slice ea en ec], .int .i64 0]) rfl (by kernel_rfl) (by kernel_rfl) (by kernel_rfl) (by kernel_rfl) (fun _ _ _ h => h) (Or.inl ⟨by rfl, fun wl hSw => ?_⟩) (HSB.out _ hbc) ?_
      · (try dsimp only at hSw); go_simp
      refine wpAnyU_take (i := 4) (v := .agg #[.int .i64 cmpOne.states, .int .i64 cmpOne.start, .slice fa fn fc, .slice ea en ec]) rfl (by kernel_rfl) (by kernel_rfl) (by kernel_rfl) (by kernel_rfl) (fun _ _ _ h => h) (Or.inl ⟨by rfl, fun wl hSw => ?_⟩) (HSB.out _ hbc) ?_
      · (try dsimp only at hSw); go_simp
      refine wpAnyU_take (i := 5) (v := .int .i64 0) rfl (by kernel_rfl) (by kernel_rfl) (by kernel_rfl) (by kernel_rfl) (fun _ _ _ h => h) (Or.inl ⟨by rfl, fun wl hSw => ?_⟩) (HSB.out _ hbc) ?_
      · (try dsimp only at hSw); go_simp
      have hz2 := heap_bel hb2 hzP
      have hzlt := heap_lt hzP
      obtain ⟨z0, z1, z2, z3, y0, y1, y2, y3⟩ := zfacts hz2
      have hBw : Wd.heap.size ≤ Wd.heap.size := Nat.le_refl _
      have hM : Hid (∃ (B9 : Nat) (fa9 : Option Addr) (fn9 fc9 : Nat) (ea9 : Option Addr) (en9 ec9 : Nat), Value.pointer (some ⟨Wd.heap.size, 0, none⟩) = .pointer (some ⟨B9, 0, none⟩) ∧ (((((w2.setCell ⟨Wd.heap.size, 0, none⟩ (.int .i64 cmpOne.states)).setCell ⟨Wd.heap.size, 1, none⟩ (.int .i64 cmpOne.start)).setCell ⟨Wd.heap.size, 2, none⟩ (.slice fa fn fc)).setCell ⟨Wd.heap.size, 3, none⟩ (.slice ea en ec))).heap[B9]? = some (.cells #[.int .i64 cmpOne.states, .int .i64 cmpOne.start, .slice fa9 fn9 fc9, .slice ea9 en9 ec9] 25 (0, 0)) ∧ ISlice (((((w2.setCell ⟨Wd.heap.size, 0, none⟩ (.int .i64 cmpOne.states)).setCell ⟨Wd.heap.size, 1, none⟩ (.int .i64 cmpOne.start)).setCell ⟨Wd.heap.size, 2, none⟩ (.slice fa fn fc)).setCell ⟨Wd.heap.size, 3, none⟩ (.slice ea en ec))) (.slice fa9 fn9 fc9) cmpOne.final ∧ ASlice (((((w2.setCell ⟨Wd.heap.size, 0, none⟩ (.int .i64 cmpOne.states)).setCell ⟨Wd.heap.size, 1, none⟩ (.int .i64 cmpOne.start)).setCell ⟨Wd.heap.size, 2, none⟩ (.slice fa fn fc)).setCell ⟨Wd.heap.size, 3, none⟩ (.slice ea en ec))) (.slice ea9 en9 ec9) cmpOne.arcs ∧ Below w3.heap.size w3 (((((w2.setCell ⟨Wd.heap.size, 0, none⟩ (.int .i64 cmpOne.states)).setCell ⟨Wd.heap.size, 1, none⟩ (.int .i64 cmpOne.start)).setCell ⟨Wd.heap.size, 2, none⟩ (.slice fa fn fc)).setCell ⟨Wd.heap.size, 3, none⟩ (.slice ea en ec)))) := ⟨Wd.heap.size, fa, fn, fc, ea, en, ec, rfl, box_set4S hz2 _ _ _ _, (far_set hI2 hA2 hzP _ _ _ _).1, (far_set hI2 hA2 hzP _ _ _ _).2, bel_on HUD.out (bel4 hbc hBw _ _ _ _)⟩
      refine wpAnyU_one (i := 7) rfl (by kernel_rfl) (fun K hK => ?_)
      go_simp
      refine hK.out _ _ ⟨fun _ => HSB.out _ (bel4 hbc hBw _ _ _ _), ?_⟩
      clear hK K
      refine wpAnyU_one (i := 8) rfl (by kernel_rfl) (fun K hK => ?_)
      go_simp
      refine hK.out _ _ ⟨fun h => absurd rfl h, ?_⟩
      clear hK K
      refine wpAnyU_done (by kernel_rfl) ?_ _
      refine NoPanic.normal ?_
      go_wp2
      go_meet
      case rel =>
        obtain ⟨B9, fa9, fn9, fc9, ea9, en9, ec9, q1, q3, q4, q5, q6⟩ := hM.out
        exact ⟨B9, fa9, fn9, fc9, ea9, en9, ec9, q1, rfl, q3, q4, q5, q6⟩
  case rest =>
    clear HSB HUD HCALL HWD hS0
    obtain ⟨B5, fa5, fn5, fc5, ea5, en5, ec5, rfl, rfl, hx7, hI7, hA7, hb7⟩ := hcut
    rename World => w7
    have u0 := box_cell (k := 0) hx7 rfl
    have u1 := box_cell (k := 1) hx7 rfl
    have u2 := box_cell (k := 2) hx7 rfl
    have u3 := box_cell (k := 3) hx7 rfl
    have hu := two_up w7 (.cells #[.int .i64 1] 3) (.cells #[.int .i64 1] 3)
    have hs := score_is cmpOne [1] [1] (.slice fa5 fn5 fc5) (.slice ea5 en5 ec5) (.slice (some ⟨w7.heap.size, 0, none⟩) 1 1) (.slice (some ⟨w7.heap.size + 1, 0, none⟩) 1 1) _ (hI7.below hu) (hA7.below hu) ((lit_one w7 1 _ rfl).below (bel_up (bel_self _) _)) (lit_one (w7.alloc (.cells #[.int .i64 1] 3)) 1 _ (one_size _ _)) 12 (by decide) best_cmp
    have HB7 : Hid (Below w.heap.size w w7) := bel_on HB3.out hb7
    clear hx7 hI7 hA7 hb7
    go_wp2_with fail
    refine hs.mono ?_
    rintro e w8 ⟨rfl, hb8⟩
    clear hs
    go_wp2
    go_ret
    exact ⟨rfl, bel_on (bel_on HB7.out hu) hb8⟩
end Go.Proofs.Yteehgcbjmdideaa
