/- 'Behind' and 'Again' of package simple, where all is right. -/
import Derived.Test.YteehgcbjmdideaaQMW
namespace Go.Proofs.Yteehgcbjmdideaa
open Go.RowKit
attribute [local go_sem ↓] Go.wp_at_zero Go.wp_at_succ

/-- what 'Behind' answers -/
def behindD (f g : FstD) : FstD := ⟨f.states + g.states, f.start, goX (f.final ++ g.final) (endsU f.final f.final.length), leastL (goA (f.arcs ++ g.arcs.map (movA f.states)) (g.start + f.states) (endsU f.final f.final.length))⟩
/-- what 'Again' answers -/
def againD (f : FstD) : FstD := ⟨f.states + 1, f.states, goX (f.final ++ [0]) (endsU f.final f.final.length), leastL (goA (f.arcs ++ [⟨f.states, 0, 0, f.start, 0⟩]) f.states (endsU f.final f.final.length))⟩

theorem goA_len (ars : List ArcD) (to : Int) (pre : List (Nat × Int)) : (goA ars to pre).length = ars.length + pre.length := by
  unfold goA
  rw [List.length_append, List.length_map]

set_option maxHeartbeats 2000000 in
set_option maxRecDepth 100000 in
theorem behind_ok (f g : FstD) (fb fo N fc : Nat) (aa : Option Addr) (m ac : Nat) (gb go N' gc : Nat) (ea : Option Addr) (m' ec : Nat) (w : World) (hF : FIn w f fb fo N fc aa m ac) (hG : FIn w g gb go N' gc ea m' ec) (hN1 : 1 ≤ N) (h3 : f.states + g.states ≤ 198) (h4 : m + m' ≤ 2500) :
    Calls Try.prog 24 #[.agg #[.int .i64 f.states, .int .i64 f.start, .slice (some ⟨fb, fo, none⟩) N fc, .slice aa m ac], .agg #[.int .i64 g.states, .int .i64 g.start, .slice (some ⟨gb, go, none⟩) N' gc, .slice ea m' ec]] w fun e w' => FstRes w (behindD f g) 0 e w' := by
  obtain ⟨W0, hW0⟩ : ∃ W0, W0 = (((w.alloc (.cells #[.int .i64 f.states, .int .i64 f.start, .slice (some ⟨fb, fo, none⟩) N fc, .slice aa m ac] 25)).alloc (.cells #[.int .i64 g.states, .int .i64 g.start, .slice (some ⟨gb, go, none⟩) N' gc, .slice ea m' ec] 25)).alloc (.cells #[.int .i64 0, .int .i64 0, .slice none 0 0, .slice none 0 0] 25)).alloc (.cells #[.int .i64 f.states, .int .i64 f.start, .slice (some ⟨fb, fo, none⟩) N fc, .slice aa m ac, .int .i64 g.states, .int .i64 g.start, .slice (some ⟨gb, go, none⟩) N' gc, .slice ea m' ec] 25) := ⟨_, rfl⟩
  have hb0 : Below w.heap.size w W0 := by rw [hW0]; exact bel_up (bel_up (two_up w _ _) _) _
  have hbF : W0.heap[w.heap.size]? = some (.cells #[.int .i64 f.states, .int .i64 f.start, .slice (some ⟨fb, fo, none⟩) N fc, .slice aa m ac] 25 (0, 0)) := by
    rw [hW0]; exact heap_bel (bel_up (bel_up (bel_up (bel_self _) _) _) _) (heap_alloc_new w _)
  have hbG : W0.heap[w.heap.size + 1]? = some (.cells #[.int .i64 g.states, .int .i64 g.start, .slice (some ⟨gb, go, none⟩) N' gc, .slice ea m' ec] 25 (0, 0)) := by
    rw [hW0]
    have := heap_alloc_new (w.alloc (.cells #[.int .i64 f.states, .int .i64 f.start, .slice (some ⟨fb, fo, none⟩) N fc, .slice aa m ac] 25)) (.cells #[.int .i64 g.states, .int .i64 g.start, .slice (some ⟨gb, go, none⟩) N' gc, .slice ea m' ec] 25)
    rw [one_size] at this
    exact heap_bel (bel_up (bel_up (bel_self _) _) _) this
  have hbZ : ZBlock W0 (w.heap.size + 1 + 1) := by
    rw [hW0]
    have := heap_alloc_new ((w.alloc (.cells #[.int .i64 f.states, .int .i64 f.start, .slice (some ⟨fb, fo, none⟩) N fc, .slice aa m ac] 25)).alloc (.cells #[.int .i64 g.states, .int .i64 g.start, .slice (some ⟨gb, go, none⟩) N' gc, .slice ea m' ec] 25)) (.cells #[.int .i64 0, .int .i64 0, .slice none 0 0, .slice none 0 0] 25)
    rw [one_size, one_size] at this
    exact heap_bel (bel_up (bel_self _) _) this
  have hb8 : W0.heap[w.heap.size + 1 + 1 + 1]? = some (.cells #[.int .i64 f.states, .int .i64 f.start, .slice (some ⟨fb, fo, none⟩) N fc, .slice aa m ac, .int .i64 g.states, .int .i64 g.start, .slice (some ⟨gb, go, none⟩) N' gc, .slice ea m' ec] 25 (0, 0)) := by
    rw [hW0]
    have := heap_alloc_new (((w.alloc (.cells #[.int .i64 f.states, .int .i64 f.start, .slice (some ⟨fb, fo, none⟩) N fc, .slice aa m ac] 25)).alloc (.cells #[.int .i64 g.states, .int .i64 g.start, .slice (some ⟨gb, go, none⟩) N' gc, .slice ea m' ec] 25)).alloc (.cells #[.int .i64 0, .int .i64 0, .slice none 0 0, .slice none 0 0] 25)) (.cells #[.int .i64 f.states, .int .i64 f.start, .slice (some ⟨fb, fo, none⟩) N fc, .slice aa m ac, .int .i64 g.states, .int .i64 g.start, .slice (some ⟨gb, go, none⟩) N' gc, .slice ea m' ec] 25)
    rw [one_size, one_size, one_size] at this
    exact this
  have hF0 := hF.below hb0
  have hG0 := hG.below hb0
  have hnF := hF0.n
  have hfit := fit_ok2 f g _ _ aa m ac ea m' ec (w.heap.size + 1 + 1 + 1) W0 ⟨box_cell (k := 0) hb8 rfl, box_cell (k := 1) hb8 rfl, box_cell (k := 2) hb8 rfl, box_cell (k := 3) hb8 rfl⟩ ⟨box_cell (k := 4) hb8 rfl, box_cell (k := 5) hb8 rfl, box_cell (k := 6) hb8 rfl, box_cell (k := 7) hb8 rfl⟩ (Or.inr ⟨_, _, _, _, rfl, hF0.fin, by unfold maxLen; omega⟩) hF0.arc (Or.inr ⟨_, _, _, _, rfl, hG0.fin, by have := hG0.n; unfold maxLen; omega⟩) hG0.arc hF0.ck hG0.ck hF0.st.1 hG0.st.1 h3 h4
  have HB0 : Hid (Below w.heap.size w W0) := hb0
  have HFI : Hid (FIn W0 f fb fo N fc aa m ac ∧ FIn W0 g gb go N' gc ea m' ec) := ⟨hF0, hG0⟩
  have hst1 := hF.st
  have hst2 := hG.st
  have hsa1 := hF.sta
  have hsa2 := hG.sta
  clear hF hG hF0 hG0 hb8 hnF hb0
  go_enter Try.func24, Try.ntmps24
  go_wp2_with fail
  rw [← hW0]
  clear hW0
  obtain ⟨S, hS⟩ : ∃ S, S = f.states + g.states := ⟨_, rfl⟩
  have hSb : 0 ≤ S ∧ S ≤ 198 := by omega
  have HSQ : Hid (S = f.states + g.states) := hS
  clear hS
  go_wp2_with (first
    | (go_at_call 66
       refine hfit.mono ?_
       rintro e w1 ⟨rfl, hb1⟩
       have hbF1 := heap_bel hb1 hbF
       have hbG1 := heap_bel hb1 hbG
       have hbZ1 := heap_bel hb1 hbZ
       have u0 := box_cell (k := 0) hbF1 rfl
       have u1 := box_cell (k := 1) hbF1 rfl
       have u2 := box_cell (k := 2) hbF1 rfl
       have u3 := box_cell (k := 3) hbF1 rfl
       have HF1 : Hid (FIn w1 f fb fo N fc aa m ac ∧ FIn w1 g gb go N' gc ea m' ec ∧ Below w.heap.size w w1) := ⟨HFI.out.1.below hb1, HFI.out.2.below hb1, bel_on HB0.out hb1⟩
       clear hbF hbG hbZ hfit)
    | (go_at_call 67
       refine (jbegin_any f fb fo N fc aa m ac w1 HF1.out.1.fin HF1.out.1.arc HF1.out.1.al HF1.out.1.n HF1.out.1.m3 HF1.out.1.st HF1.out.1.sta HF1.out.1.ok).mono ?_
       rintro e w2 ⟨P, fv, av, rfl, hJ2, hb2⟩
       have hbG2 := heap_bel hb2 hbG1
       have v0 := box_cell (k := 0) hbG2 rfl
       have v1 := box_cell (k := 1) hbG2 rfl
       have v2 := box_cell (k := 2) hbG2 rfl
       have v3 := box_cell (k := 3) hbG2 rfl
       clear u0 u1 u2 u3)
    | (go_at_call 68
       refine (jtake_any g P w1.heap.size f.states f.start fv av f.final f.arcs gb go N' gc ea m' ec w2 hJ2 (fun W h => ⟨HF1.out.2.1.fin.below (hb2.trans h), HF1.out.2.1.arc.below (hb2.trans h)⟩) HF1.out.2.1.al HF1.out.2.1.n HF1.out.2.1.m3 (by omega) (by omega) (by have := HF1.out.1.fin.len; have := HF1.out.1.n; omega) (by have := HF1.out.1.al; have := HF1.out.1.m3; omega) HF1.out.2.1.st HF1.out.2.1.sta HF1.out.2.1.ok).mono ?_
       rintro e w3 ⟨rfl, fv3, av3, hJ3, hS3⟩
       have hb3 : Below w1.heap.size w1 w3 := hb2.trans (hS3.below hJ2)
       rw [← HSQ.out] at hJ3
       have hbF3 := heap_bel hb3 hbF1
       have t0 := box_cell (k := 0) hbF3 rfl
       have t1 := box_cell (k := 1) hbF3 rfl
       have t2 := box_cell (k := 2) hbF3 rfl
       have t3 := box_cell (k := 3) hbF3 rfl
       clear v0 v1 v2 v3 hbG2)
    | (go_at_call 72
       refine (goEnds_any f P w1.heap.size S f.start fv3 av3 (f.final ++ g.final) (f.arcs ++ g.arcs.map (movA f.states)) fb fo N fc aa m ac (g.start + f.states) w3 hJ3 (HF1.out.1.fin.below hb3) (cell_lt (HF1.out.1.fin.cell 0 hN1)) hN1 HF1.out.1.n (by rw [List.length_append, HF1.out.1.fin.len]; omega) (by rw [List.length_append, HF1.out.1.fin.len, HF1.out.2.1.fin.len]; have := HF1.out.1.n; have := HF1.out.2.1.n; omega) (by rw [List.length_append, List.length_map, HF1.out.1.al, HF1.out.2.1.al]; have := HF1.out.1.m3; have := HF1.out.2.1.m3; omega)).mono ?_
       rintro e w4 ⟨rfl, fv4, av4, hJ4, hS4⟩
       have hb4 : Below w1.heap.size w1 w4 := hb3.trans (hS4.below hJ3))
    | (go_at_call 71
       refine (jdone_any P w1.heap.size S f.start fv4 av4 _ _ w4 hJ4 (by rw [goA_len, List.length_append, List.length_map, HF1.out.1.al, HF1.out.2.1.al]; have := endsU_len f.final N; have := HF1.out.1.m3; have := HF1.out.2.1.m3; have := HF1.out.1.n; omega)).mono ?_
       rintro e w8 ⟨fv8, av8, rfl, hI8, hA8, hb8⟩
       obtain ⟨fa8, fn8, fc8, rfl, _, _⟩ := (ownsRow_ints hI8).lenOf
       obtain ⟨a8, n8, c8, rfl, _, _⟩ := hA8.slice.lenOf
       have hb81 := hb4.trans hb8
       have hz8 := heap_bel hb81 hbZ1
       obtain ⟨z0, z1, z2, z3, y0, y1, y2, y3⟩ := zfacts hz8
       have hltZ := heap_lt hbZ1))
  have HSZ1 : w.heap.size ≤ w1.heap.size := by first | exact HF1.out.2.2.size | exact HF1.out.2.size
  obtain ⟨g1, g2⟩ := farS hI8 hA8 hltZ HSZ1 (.int .i64 S) (.int .i64 f.start) (.slice fa8 fn8 fc8) (.slice a8 n8 c8)
  have g3 := bel4 (B := w.heap.size) (P := w.heap.size + 1 + 1) (HF1.out.2.2.trans (hb81.mono HF1.out.2.2.size)) (by omega) (.int .i64 S) (.int .i64 f.start) (.slice fa8 fn8 fc8) (.slice a8 n8 c8)
  have hS := HSQ.out
  have hNl := HF1.out.1.fin.len
  subst hS
  subst hNl
  exact bodyPost_ret (v := .tuple #[.agg #[.int .i64 (f.states + g.states), .int .i64 f.start, .slice fa8 fn8 fc8, .slice a8 n8 c8], .int .i64 0]) (by simp [results, Try.results24, go_sem, z0, z1, z2, z3]) rfl ⟨_, _, _, _, _, _, rfl, g1, g2, g3⟩

set_option maxHeartbeats 2000000 in
set_option maxRecDepth 100000 in
theorem again_ok (f : FstD) (fb fo N fc : Nat) (aa : Option Addr) (m ac : Nat) (w : World) (hF : FIn w f fb fo N fc aa m ac) (hN1 : 1 ≤ N) (h3 : f.states ≤ 198) (h4 : m ≤ 2500) :
    Calls Try.prog 25 #[.agg #[.int .i64 f.states, .int .i64 f.start, .slice (some ⟨fb, fo, none⟩) N fc, .slice aa m ac]] w fun e w' => FstRes w (againD f) 0 e w' := by
  obtain ⟨W0, hW0⟩ : ∃ W0, W0 = ((w.alloc (.cells #[.int .i64 f.states, .int .i64 f.start, .slice (some ⟨fb, fo, none⟩) N fc, .slice aa m ac] 25)).alloc (.cells #[.int .i64 0, .int .i64 0, .slice none 0 0, .slice none 0 0] 25)).alloc (.cells #[.int .i64 f.states, .int .i64 f.start, .slice (some ⟨fb, fo, none⟩) N fc, .slice aa m ac] 25) := ⟨_, rfl⟩
  have hb0 : Below w.heap.size w W0 := by rw [hW0]; exact bel_up (two_up w _ _) _
  have hbF : W0.heap[w.heap.size]? = some (.cells #[.int .i64 f.states, .int .i64 f.start, .slice (some ⟨fb, fo, none⟩) N fc, .slice aa m ac] 25 (0, 0)) := by
    rw [hW0]; exact heap_bel (bel_up (bel_up (bel_self _) _) _) (heap_alloc_new w _)
  have hbZ : ZBlock W0 (w.heap.size + 1) := by
    rw [hW0]
    have := heap_alloc_new (w.alloc (.cells #[.int .i64 f.states, .int .i64 f.start, .slice (some ⟨fb, fo, none⟩) N fc, .slice aa m ac] 25)) (.cells #[.int .i64 0, .int .i64 0, .slice none 0 0, .slice none 0 0] 25)
    rw [one_size] at this
    exact heap_bel (bel_up (bel_self _) _) this
  have hb8 : W0.heap[w.heap.size + 1 + 1]? = some (.cells #[.int .i64 f.states, .int .i64 f.start, .slice (some ⟨fb, fo, none⟩) N fc, .slice aa m ac] 25 (0, 0)) := by
    rw [hW0]
    have := heap_alloc_new ((w.alloc (.cells #[.int .i64 f.states, .int .i64 f.start, .slice (some ⟨fb, fo, none⟩) N fc, .slice aa m ac] 25)).alloc (.cells #[.int .i64 0, .int .i64 0, .slice none 0 0, .slice none 0 0] 25)) (.cells #[.int .i64 f.states, .int .i64 f.start, .slice (some ⟨fb, fo, none⟩) N fc, .slice aa m ac] 25)
    rw [one_size, one_size] at this
    exact this
  have hF0 := hF.below hb0
  have hnF := hF0.n
  have hfit := fit_ok1 f _ aa m ac (w.heap.size + 1 + 1) W0 ⟨box_cell (k := 0) hb8 rfl, box_cell (k := 1) hb8 rfl, box_cell (k := 2) hb8 rfl, box_cell (k := 3) hb8 rfl⟩ (Or.inr ⟨_, _, _, _, rfl, hF0.fin, by unfold maxLen; omega⟩) hF0.arc hF0.ck hF0.st.1 h3 h4
  have HB0 : Hid (Below w.heap.size w W0) := hb0
  have HFI : Hid (FIn W0 f fb fo N fc aa m ac) := hF0
  have hst1 := hF.st
  have hsa1 := hF.sta
  clear hF hF0 hb8 hnF hb0
  go_enter Try.func25, Try.ntmps25
  go_wp2_with fail
  rw [← hW0]
  clear hW0
  go_wp2_with (first
    | (go_at_call 66
       refine hfit.mono ?_
       rintro e w1 ⟨rfl, hb1⟩
       have hbF1 := heap_bel hb1 hbF
       have hbZ1 := heap_bel hb1 hbZ
       have u0 := box_cell (k := 0) hbF1 rfl
       have u1 := box_cell (k := 1) hbF1 rfl
       have u2 := box_cell (k := 2) hbF1 rfl
       have u3 := box_cell (k := 3) hbF1 rfl
       have HF1 : Hid (FIn w1 f fb fo N fc aa m ac ∧ Below w.heap.size w w1) := ⟨HFI.out.below hb1, bel_on HB0.out hb1⟩
       clear hbF hbZ hfit)
    | (go_at_call 67
       refine (jbegin_any f fb fo N fc aa m ac w1 HF1.out.1.fin HF1.out.1.arc HF1.out.1.al HF1.out.1.n HF1.out.1.m3 HF1.out.1.st HF1.out.1.sta HF1.out.1.ok).mono ?_
       rintro e w2 ⟨P, fv, av, rfl, hJ2, hb2⟩
       clear u0 u1 u2 u3)
    | (go_at_call 69
       refine (jadd_any P w1.heap.size f.states f.start fv av f.final f.arcs 0 w2 hJ2 (by omega) (by omega) (by have := HF1.out.1.fin.len; have := HF1.out.1.n; omega)).mono ?_
       rintro e w4 ⟨rfl, fv4, hJ4, hS4⟩
       have hb4 : Below w1.heap.size w1 w4 := hb2.trans (hS4.below hJ2)
       have d1 := box_cell (k := 1) hJ4.box rfl
       have z1 := box_frz hJ4.box 1))
  obtain ⟨W5, hW5⟩ : ∃ W5, W5 = w4.setCell ⟨P, 1, none⟩ (.int .i64 f.states) := ⟨_, rfl⟩
  have hJ5 : JW W5 P w1.heap.size (f.states + 1) f.states fv4 av (f.final ++ [0]) f.arcs := by rw [hW5]; exact hJ4.start f.states
  have hb5 : Below w1.heap.size w1 W5 := by rw [hW5]; exact hb4.setCell (p := ⟨P, 1, none⟩) hJ4.hP _
  rw [← hW5]
  clear hW5 hJ4 hJ2 hS4 d1 z1
  have hJ5d := hJ5.below (bel_self W5).drew
  have hb5d : Below w1.heap.size w1 W5.drew := hb5.drew
  have p1 := box_cell (k := 1) hJ5d.box rfl
  have p2 := box_cell (k := 1) (heap_bel hb5d hbF1) rfl
  have hlead := jlead_any P w1.heap.size (f.states + 1) f.states fv4 av _ _ f.states f.start 0 W5.drew hJ5d (by rw [HF1.out.1.al]; have := HF1.out.1.m3; omega)
  clear hJ5 hb4
  go_region_held3 (fun wx => wx.cell? ⟨P, 1, none⟩ = some (.int .i64 f.states) ∧ wx.cell? ⟨w.heap.size, 1, none⟩ = some (.int .i64 f.start)) (first | exact hK | exact ⟨p1, p2⟩) ((go_at_call 70; refine hlead.mono ?_; rintro e w6 ⟨rfl, av6, hJ6, hS6⟩; have hb6 : Below w1.heap.size w1 w6 := hb5d.trans (hS6.below hJ5d); have hK : (fun wx : World => wx.cell? ⟨P, 1, none⟩ = some (.int .i64 f.states) ∧ wx.cell? ⟨w.heap.size, 1, none⟩ = some (.int .i64 f.start)) w6 := ⟨box_cell (k := 1) hJ6.box rfl, box_cell (k := 1) (heap_bel hb6 hbF1) rfl⟩))
  have hJ6d := hJ6.below (bel_self w6).drew
  have hb6d : Below w1.heap.size w1 w6.drew := hb6.drew
  have hbF6 := heap_bel hb6d hbF1
  have r0 := box_cell (k := 0) hbF6 rfl
  have r1 := box_cell (k := 1) hbF6 rfl
  have r2 := box_cell (k := 2) hbF6 rfl
  have r3 := box_cell (k := 3) hbF6 rfl
  have r4 := box_cell (k := 1) hJ6d.box rfl
  have hgo := goEnds_any f P w1.heap.size (f.states + 1) f.states fv4 av6 (f.final ++ [0]) (f.arcs ++ [⟨f.states, 0, 0, f.start, 0⟩]) fb fo N fc aa m ac f.states w6.drew hJ6d (HF1.out.1.fin.below hb6d) (cell_lt (HF1.out.1.fin.cell 0 hN1)) hN1 HF1.out.1.n (by rw [List.length_append, HF1.out.1.fin.len]; omega) (by rw [List.length_append, HF1.out.1.fin.len]; have := HF1.out.1.n; simp; omega) (by rw [List.length_append, HF1.out.1.al]; have := HF1.out.1.m3; simp; omega)
  clear hK p1 p2 hlead
  go_wp2
  go_region_held3 (fun wx => wx.cell? ⟨P, 1, none⟩ = some (.int .i64 f.states) ∧ wx.cell? ⟨w.heap.size, 0, none⟩ = some (.int .i64 f.states) ∧ wx.cell? ⟨w.heap.size, 1, none⟩ = some (.int .i64 f.start) ∧ wx.cell? ⟨w.heap.size, 2, none⟩ = some (.slice (some ⟨fb, fo, none⟩) N fc) ∧ wx.cell? ⟨w.heap.size, 3, none⟩ = some (.slice aa m ac)) (first | exact hK | exact ⟨r4, r0, r1, r2, r3⟩) ((go_at_call 72; refine hgo.mono ?_; rintro e w7 ⟨rfl, fv7, av7, hJ7, hS7⟩; have hb7 : Below w1.heap.size w1 w7 := hb6d.trans (hS7.below hJ6d); have hbF7 := heap_bel hb7 hbF1; have hK : (fun wx : World => wx.cell? ⟨P, 1, none⟩ = some (.int .i64 f.states) ∧ wx.cell? ⟨w.heap.size, 0, none⟩ = some (.int .i64 f.states) ∧ wx.cell? ⟨w.heap.size, 1, none⟩ = some (.int .i64 f.start) ∧ wx.cell? ⟨w.heap.size, 2, none⟩ = some (.slice (some ⟨fb, fo, none⟩) N fc) ∧ wx.cell? ⟨w.heap.size, 3, none⟩ = some (.slice aa m ac)) w7 := ⟨box_cell (k := 1) hJ7.box rfl, box_cell (k := 0) hbF7 rfl, box_cell (k := 1) hbF7 rfl, box_cell (k := 2) hbF7 rfl, box_cell (k := 3) hbF7 rfl⟩))
  go_wp2_with (go_at_call 71
               refine (jdone_any P w1.heap.size (f.states + 1) f.states fv7 av7 _ _ w7 hJ7 (by rw [goA_len, List.length_append, HF1.out.1.al]; have := endsU_len f.final N; have := HF1.out.1.m3; have := HF1.out.1.n; simp; omega)).mono ?_
               rintro e w8 ⟨fv8, av8, rfl, hI8, hA8, hb8⟩
               obtain ⟨fa8, fn8, fc8, rfl, _, _⟩ := (ownsRow_ints hI8).lenOf
               obtain ⟨a8, n8, c8, rfl, _, _⟩ := hA8.slice.lenOf
               have hb81 := hb7.trans hb8
               have hz8 := heap_bel hb81 hbZ1
               obtain ⟨z0, z1, z2, z3, y0, y1, y2, y3⟩ := zfacts hz8
               have hltZ := heap_lt hbZ1)
  have HSZ1 : w.heap.size ≤ w1.heap.size := by first | exact HF1.out.2.2.size | exact HF1.out.2.size
  obtain ⟨g1, g2⟩ := farS hI8 hA8 hltZ HSZ1 (.int .i64 (f.states + 1)) (.int .i64 f.states) (.slice fa8 fn8 fc8) (.slice a8 n8 c8)
  have g3 := bel4 (B := w.heap.size) (P := w.heap.size + 1) (HF1.out.2.trans (hb81.mono HF1.out.2.size)) (by omega) (.int .i64 (f.states + 1)) (.int .i64 f.states) (.slice fa8 fn8 fc8) (.slice a8 n8 c8)
  have hNl := HF1.out.1.fin.len
  subst hNl
  exact bodyPost_ret (v := .tuple #[.agg #[.int .i64 (f.states + 1), .int .i64 f.states, .slice fa8 fn8 fc8, .slice a8 n8 c8], .int .i64 0]) (by simp [results, Try.results25, go_sem, z0, z1, z2, z3]) rfl ⟨_, _, _, _, _, _, rfl, g1, g2, g3⟩
end Go.Proofs.Yteehgcbjmdideaa
