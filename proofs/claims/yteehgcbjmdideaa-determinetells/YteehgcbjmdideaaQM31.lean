/- The law 'DetermineTells', from what determineBegun answers. (Made by wip/gen/dth.py.) -/
import Derived.Test.YteehgcbjmdideaaQM18
import Derived.Test.YteehgcbjmdideaaQM07
namespace Go.Proofs.Yteehgcbjmdideaa
open Go.RowKit
attribute [local go_sem ↓] Go.wp_at_zero Go.wp_at_succ

set_option maxHeartbeats 3200000 in
set_option maxRecDepth 100000 in
theorem determineTells_of (hB : ∀ W, Calls Try.prog 50 #[] W fun e w' => e = .returned (.bool true) ∧ Below W.heap.size W w')
    (f : FstD) (fin arcs : Value) (w : World) (hf : ISlice w fin f.final) (ha : ASlice w arcs f.arcs) :
    Calls Try.prog 9 #[.agg #[.int .i64 f.states, .int .i64 f.start, fin, arcs]] w fun e w' => e = .returned (.bool true) ∧ Below w.heap.size w w' := by
  obtain ⟨fa, fn, fc, rfl, _, _⟩ := hf.lenOf
  obtain ⟨aa, m, ac, rfl, hal, _⟩ := ha.lenOf
  have HBE : Hid (∀ W, Calls Try.prog 50 #[] W fun e w' => e = .returned (.bool true) ∧ Below W.heap.size W w') := hB
  obtain ⟨A, hA⟩ : ∃ A, A = w.alloc (.cells #[.int .i64 f.states, .int .i64 f.start, .slice fa fn fc, .slice aa m ac] 25) := ⟨_, rfl⟩
  have hb0 : Below w.heap.size w A := by rw [hA]; exact bel_up (bel_self w) _
  have hcf : CellsF A w.heap.size f.states f.start (.slice fa fn fc) (.slice aa m ac) := by rw [hA]; exact cellsF_new _ _ _ _ _ _
  have HCF : Hid (∀ W, Below A.heap.size A W → CellsF W w.heap.size f.states f.start (.slice fa fn fc) (.slice aa m ac)) := fun W h => hcf.below h
  have HM : Hid (∀ W, Below A.heap.size A W → ISlice W (.slice fa fn fc) f.final ∧ ASlice W (.slice aa m ac) f.arcs) := fun W h => ⟨hf.below (bel_on hb0 h), ha.below (bel_on hb0 h)⟩
  have his := is_any f _ _ A (hf.below hb0) (ha.below hb0)
  have HA : Hid (A = w.alloc (.cells #[.int .i64 f.states, .int .i64 f.start, .slice fa fn fc, .slice aa m ac] 25)) := hA
  rw [hA] at his
  clear hA hf ha hB hcf
  go_enter Try.func9, Try.ntmps9
  go_wp2_with fail
  refine his.mono ?_
  rintro e w1 ⟨b1, rfl, hb1, hbl1⟩
  have HB1 : Hid (b1 = true ↔ checkD f = 0 ∧ IsD f) := hb1
  rw [← HA.out] at hbl1
  have hro := round_any f _ _ w1 (HM.out w1 hbl1).1 (HM.out w1 hbl1).2
  obtain ⟨q0, q1, q2, q3⟩ := HCF.out w1 hbl1
  obtain ⟨c, hc⟩ : ∃ c, c = checkD f := ⟨_, rfl⟩
  have HC : Hid (c = checkD f) := hc
  rw [← hc]
  clear hb1 his HA hc
  go_wp2_with fail
  refine hro.mono ?_
  rintro e w2 ⟨b2, rfl, hb2, hbl2⟩
  have HB2 : Hid (b2 = true ↔ checkD f = 0 ∧ RoundD f) := hb2
  have hbl2' := bel_on hbl1 hbl2
  have hck := checkFst_any f _ _ w2 (HM.out w2 hbl2').1 (HM.out w2 hbl2').2
  clear hb2 hro q0 q1 q2 q3
  obtain ⟨q0, q1, q2, q3⟩ := HCF.out w2 hbl2'
  rw [← HC.out] at hck ⊢
  go_wp2_with fail
  refine hck.mono ?_
  rintro e w3 ⟨rfl, hbl3⟩
  have hbl3' := bel_on hbl2' hbl3
  clear hck q0 q1 q2 q3
  obtain ⟨q0, q1, q2, q3⟩ := HCF.out w3 hbl3'
  by_cases h0 : c = 0
  · subst h0
    have HC0 : Hid (checkD f = 0) := HC.out.symm
    have kf := fine_of HC0.out
    have HORD : Hid (f.arcs.Pairwise (fun a b => aheadB a b = true)) := kf.ord
    obtain ⟨Wd, hWd⟩ : ∃ W, W = w3.drew := ⟨_, rfl⟩
    have hbd : Below A.heap.size A Wd := by rw [hWd]; exact hbl3'.drew
    have HWD : Hid (Wd = w3.drew) := hWd
    have hS0 : (fun wx : World => CellsF wx w.heap.size f.states f.start (.slice fa fn fc) (.slice aa m ac)) Wd := HCF.out Wd hbd
    have hbo := isBoth_any f _ _ Wd kf.many (HM.out Wd hbd).1 (HM.out Wd hbd).2
    have HSI : Hid (∀ W, Below A.heap.size A W → Calls Try.prog 48 #[.agg #[.int .i64 f.states, .int .i64 f.start, .slice fa fn fc, .slice aa m ac]] W fun e w' => ∃ b, e = .returned (.bool b) ∧ (b = true ↔ singleP f.arcs f.arcs.length ∧ silB f = false) ∧ Below W.heap.size W w') := fun W h => isSingle_any f _ _ W kf.many (HM.out W h).1 (HM.out W h).2
    have HRO : Hid (∀ W, Below A.heap.size A W → Calls Try.prog 49 #[.agg #[.int .i64 f.states, .int .i64 f.start, .slice fa fn fc, .slice aa m ac]] W fun e w' => ∃ b, e = .returned (.bool b) ∧ (b = true ↔ RoundD f) ∧ Below W.heap.size W w') := fun W h => isRound_at f _ _ W kf (HM.out W h).1 (HM.out W h).2
    obtain ⟨z, hz⟩ : ∃ z, z = bothB f := ⟨_, rfl⟩
    have HZ : Hid (bothB f = z) := hz.symm
    rw [← hz] at hbo
    clear hz hWd kf HC
    cases z
    · go_wp2_with fail
      clear q0 q1 q2 q3
      refine wp_region_noPanic ?_
      refine wp_region_F (fun wx : World => CellsF wx w.heap.size f.states f.start (.slice fa fn fc) (.slice aa m ac)) [] (by kernel_rfl) (by rw [← HWD.out]; exact hS0) (fun _ => ?_)
      rw [← HWD.out]
      clear HWD
      refine wpAnyF_take (i := 0) (v := .agg #[.int .i64 f.states, .int .i64 f.start, .slice fa fn fc, .slice aa m ac]) rfl (by kernel_rfl) (by kernel_rfl) (by kernel_rfl) (by kernel_rfl) (fun _ _ _ h => h) (Or.inl ⟨by rfl, fun wl hSw => ?_⟩) hS0 ?_
      · obtain ⟨z0, z1, z2, z3⟩ := hSw; go_simp
      go_simp
      refine wpAnyF_take (i := 6) (v := .agg #[.int .i64 f.states, .int .i64 f.start, .slice fa fn fc, .slice aa m ac]) rfl (by kernel_rfl) (by kernel_rfl) (by kernel_rfl) (by kernel_rfl) (fun _ _ _ h => h) (Or.inl ⟨by rfl, fun wl hSw => ?_⟩) hS0 ?_
      · obtain ⟨z0, z1, z2, z3⟩ := hSw; go_simp
      go_simp
      refine wpAnyF_one (i := 1) rfl (by kernel_rfl) (fun Kc hKc => ?_)
      go_simp
      refine hbo.mono ?_
      rintro e w4 ⟨rfl, hb4⟩
      have hb4' := bel_on hbd hb4
      have hS4 : (fun wx : World => CellsF wx w.heap.size f.states f.start (.slice fa fn fc) (.slice aa m ac)) w4 := HCF.out w4 hb4'
      clear hbo
      refine hKc.out _ _ ⟨fun _ => hS4, ?_⟩
      clear hKc Kc
      refine wpAnyF_take (i := 2) (v := .bool false) rfl (by kernel_rfl) (by kernel_rfl) (by kernel_rfl) (by kernel_rfl) (fun _ _ _ h => h) (Or.inl ⟨by rfl, fun wl hSw => ?_⟩) hS4 ?_
      · obtain ⟨z0, z1, z2, z3⟩ := hSw; go_simp
      go_simp
      refine wpAnyF_take (i := 3) (v := undef) rfl (by kernel_rfl) (by kernel_rfl) (by kernel_rfl) (by kernel_rfl) (fun _ _ _ h => h) (Or.inr ⟨by rfl, rfl⟩) hS4 ?_
      go_simp
      refine wpAnyF_take (i := 4) (v := undef) rfl (by kernel_rfl) (by kernel_rfl) (by kernel_rfl) (by kernel_rfl) (fun _ _ _ h => h) (Or.inr ⟨by rfl, rfl⟩) hS4 ?_
      go_simp
      have hb5' := hb4'
      have hS5 := hS4
      refine wpAnyF_take (i := 5) (v := .bool false) rfl (by kernel_rfl) (by kernel_rfl) (by kernel_rfl) (by kernel_rfl) (fun _ _ _ h => h) (Or.inl ⟨by rfl, fun wl hSw => ?_⟩) hS5 ?_
      · obtain ⟨z0, z1, z2, z3⟩ := hSw; go_simp
      go_simp
      have hro := HRO.out w4 hb5'
      refine wpAnyF_one (i := 7) rfl (by kernel_rfl) (fun Kc hKc => ?_)
      go_simp
      refine hro.mono ?_
      rintro e w6 ⟨q, rfl, hq, hb6⟩
      have hb6' := bel_on hb5' hb6
      have hS6 : (fun wx : World => CellsF wx w.heap.size f.states f.start (.slice fa fn fc) (.slice aa m ac)) w6 := HCF.out w6 hb6'
      have HQ : Hid (q = true ↔ RoundD f) := hq
      clear hq hro
      refine hKc.out _ _ ⟨fun _ => hS6, ?_⟩
      clear hKc Kc
      refine wpAnyF_one (i := 8) rfl (by kernel_rfl) (fun Kc hKc => ?_)
      go_simp
      refine hKc.out _ _ ⟨fun _ => hS6, ?_⟩
      clear hKc Kc
      refine wpAnyF_one (i := 9) rfl (by kernel_rfl) (fun Kc hKc => ?_)
      go_simp
      refine hKc.out _ _ ⟨fun _ => hS6, ?_⟩
      clear hKc Kc
      refine wpAnyF_done (by kernel_rfl) ?_ _
      refine NoPanic.normal ?_
      obtain rfl : b2 = q := by
        have h1 := HB2.out
        have h2 := HQ.out
        rw [HC0.out] at h1
        rw [Bool.eq_iff_iff, h1, h2]
        exact ⟨fun h => h.2, fun h => ⟨rfl, h⟩⟩
      obtain rfl : b1 = false := by
        have h1 := HB1.out
        rw [Bool.eq_false_iff]
        intro h
        have h2 := (h1.1 h).2.1
        rw [HZ.out] at h2
        cases h2
      have hbe := HBE.out w6
      clear HB1 HB2 HQ
      go_wp2_with (go_at_call 50; refine hbe.mono ?_; rintro e w7 ⟨rfl, hb7⟩)
      go_ret
      exact ⟨rfl, bel_on hb0 (bel_on hb6' hb7)⟩
    · go_wp2_with fail
      clear q0 q1 q2 q3
      refine wp_region_noPanic ?_
      refine wp_region_F (fun wx : World => CellsF wx w.heap.size f.states f.start (.slice fa fn fc) (.slice aa m ac)) [] (by kernel_rfl) (by rw [← HWD.out]; exact hS0) (fun _ => ?_)
      rw [← HWD.out]
      clear HWD
      refine wpAnyF_take (i := 0) (v := .agg #[.int .i64 f.states, .int .i64 f.start, .slice fa fn fc, .slice aa m ac]) rfl (by kernel_rfl) (by kernel_rfl) (by kernel_rfl) (by kernel_rfl) (fun _ _ _ h => h) (Or.inl ⟨by rfl, fun wl hSw => ?_⟩) hS0 ?_
      · obtain ⟨z0, z1, z2, z3⟩ := hSw; go_simp
      go_simp
      refine wpAnyF_take (i := 6) (v := .agg #[.int .i64 f.states, .int .i64 f.start, .slice fa fn fc, .slice aa m ac]) rfl (by kernel_rfl) (by kernel_rfl) (by kernel_rfl) (by kernel_rfl) (fun _ _ _ h => h) (Or.inl ⟨by rfl, fun wl hSw => ?_⟩) hS0 ?_
      · obtain ⟨z0, z1, z2, z3⟩ := hSw; go_simp
      go_simp
      refine wpAnyF_one (i := 1) rfl (by kernel_rfl) (fun Kc hKc => ?_)
      go_simp
      refine hbo.mono ?_
      rintro e w4 ⟨rfl, hb4⟩
      have hb4' := bel_on hbd hb4
      have hS4 : (fun wx : World => CellsF wx w.heap.size f.states f.start (.slice fa fn fc) (.slice aa m ac)) w4 := HCF.out w4 hb4'
      clear hbo
      refine hKc.out _ _ ⟨fun _ => hS4, ?_⟩
      clear hKc Kc
      refine wpAnyF_take (i := 2) (v := .bool true) rfl (by kernel_rfl) (by kernel_rfl) (by kernel_rfl) (by kernel_rfl) (fun _ _ _ h => h) (Or.inl ⟨by rfl, fun wl hSw => ?_⟩) hS4 ?_
      · obtain ⟨z0, z1, z2, z3⟩ := hSw; go_simp
      go_simp
      refine wpAnyF_take (i := 3) (v := .agg #[.int .i64 f.states, .int .i64 f.start, .slice fa fn fc, .slice aa m ac]) rfl (by kernel_rfl) (by kernel_rfl) (by kernel_rfl) (by kernel_rfl) (fun _ _ _ h => h) (Or.inl ⟨by rfl, fun wl hSw => ?_⟩) hS4 ?_
      · obtain ⟨z0, z1, z2, z3⟩ := hSw; go_simp
      go_simp
      have hsi := HSI.out w4 hb4'
      refine wpAnyF_one (i := 4) rfl (by kernel_rfl) (fun Kc hKc => ?_)
      go_simp
      refine hsi.mono ?_
      rintro e w5 ⟨y, rfl, hy, hb5⟩
      have hb5' := bel_on hb4' hb5
      have hS5 : (fun wx : World => CellsF wx w.heap.size f.states f.start (.slice fa fn fc) (.slice aa m ac)) w5 := HCF.out w5 hb5'
      have HY : Hid (y = true ↔ singleP f.arcs f.arcs.length ∧ silB f = false) := hy
      clear hy hsi
      refine hKc.out _ _ ⟨fun _ => hS5, ?_⟩
      clear hKc Kc
      refine wpAnyF_take (i := 5) (v := .bool y) rfl (by kernel_rfl) (by kernel_rfl) (by kernel_rfl) (by kernel_rfl) (fun _ _ _ h => h) (Or.inl ⟨by rfl, fun wl hSw => ?_⟩) hS5 ?_
      · obtain ⟨z0, z1, z2, z3⟩ := hSw; go_simp
      go_simp
      have hro := HRO.out w5 hb5'
      refine wpAnyF_one (i := 7) rfl (by kernel_rfl) (fun Kc hKc => ?_)
      go_simp
      refine hro.mono ?_
      rintro e w6 ⟨q, rfl, hq, hb6⟩
      have hb6' := bel_on hb5' hb6
      have hS6 : (fun wx : World => CellsF wx w.heap.size f.states f.start (.slice fa fn fc) (.slice aa m ac)) w6 := HCF.out w6 hb6'
      have HQ : Hid (q = true ↔ RoundD f) := hq
      clear hq hro
      refine hKc.out _ _ ⟨fun _ => hS6, ?_⟩
      clear hKc Kc
      refine wpAnyF_one (i := 8) rfl (by kernel_rfl) (fun Kc hKc => ?_)
      go_simp
      refine hKc.out _ _ ⟨fun _ => hS6, ?_⟩
      clear hKc Kc
      refine wpAnyF_one (i := 9) rfl (by kernel_rfl) (fun Kc hKc => ?_)
      go_simp
      refine hKc.out _ _ ⟨fun _ => hS6, ?_⟩
      clear hKc Kc
      refine wpAnyF_done (by kernel_rfl) ?_ _
      refine NoPanic.normal ?_
      obtain rfl : b2 = q := by
        have h1 := HB2.out
        have h2 := HQ.out
        rw [HC0.out] at h1
        rw [Bool.eq_iff_iff, h1, h2]
        exact ⟨fun h => h.2, fun h => ⟨rfl, h⟩⟩
      obtain rfl : b1 = y := by
        have h1 := HB1.out
        have h2 := HY.out
        rw [HC0.out] at h1
        rw [Bool.eq_iff_iff, h1, h2]
        unfold IsD
        rw [HZ.out, single_apart HORD.out]
        exact ⟨fun h => ⟨h.2.2.2, h.2.2.1⟩, fun h => ⟨rfl, rfl, h.2, h.1⟩⟩
      have hbe := HBE.out w6
      clear HB1 HB2 HQ
      go_wp2_with (go_at_call 50; refine hbe.mono ?_; rintro e w7 ⟨rfl, hb7⟩)
      go_ret
      exact ⟨rfl, bel_on hb0 (bel_on hb6' hb7)⟩
  · have h0b : (c == 0) = false := by simpa using h0
    obtain rfl : b1 = false := by
      have h1 := HB1.out
      rw [Bool.eq_false_iff]
      intro h
      exact h0 (HC.out.trans (h1.1 h).1)
    obtain rfl : b2 = false := by
      have h1 := HB2.out
      rw [Bool.eq_false_iff]
      intro h
      exact h0 (HC.out.trans (h1.1 h).1)
    have hbe := HBE.out w3
    clear HB1 HB2 HC
    go_wp2_with (go_at_call 50; refine hbe.mono ?_; rintro e w7 ⟨rfl, hb7⟩)
    go_ret
    exact ⟨rfl, bel_on hb0 (bel_on hbl3' hb7)⟩
end Go.Proofs.Yteehgcbjmdideaa
