/- 'ShortBest', where an end can be come to and Push answers. -/
import Derived.Test.YteehgcbjmdideaaQSbM
namespace Go.Proofs.Yteehgcbjmdideaa
open Go.RowKit
attribute [local go_sem ↓] Go.wp_at_zero Go.wp_at_succ

set_option maxHeartbeats 4000000 in
set_option maxRecDepth 100000 in
theorem sbest_h1 (f : FstD) (N s0 : Nat) (fa : Option Addr) (fn fc : Nat) (aa : Option Addr) (m ac : Nat) (ia : Option Addr) (il ic : Nat) (oa : Option Addr) (ol oc : Nat) (w : World) (hok : OkF f N s0) (hf : ISlice w (.slice fa fn fc) f.final) (ha : ASlice w (.slice aa m ac) f.arcs) (hal : f.arcs.length = m) (hc : checkD f = 0) (x : Int) (hx : gI (toD f) s0 = x) (hx0 : 0 ≤ x) (m1 g : Int)
    (HSC : Hid (∀ W, Below w.heap.size w W → Calls Try.prog 10 #[.agg #[.int .i64 (N : Int), .int .i64 (s0 : Int), .slice fa fn fc, .slice aa m ac], .slice ia il ic, .slice oa ol oc] W fun e w' => e = .returned (.tuple #[.int .i64 m1, .int .i64 g]) ∧ Below W.heap.size W w'))
    (d : FstD × Int × Int) (HPU : Hid (∀ W, Below w.heap.size w W → Calls Try.prog 38 #[.agg #[.int .i64 (N : Int), .int .i64 (s0 : Int), .slice fa fn fc, .slice aa m ac]] W fun e w' => PushRes W d e w'))
    (k1 : Int) (HSP : Hid (∀ fv av W, ISlice W fv d.1.final → ASlice W av d.1.arcs → Below w.heap.size w W → Calls Try.prog 10 #[.agg #[.int .i64 d.1.states, .int .i64 d.1.start, fv, av], .slice ia il ic, .slice oa ol oc] W fun e w' => e = .returned (.tuple #[.int .i64 k1, .int .i64 g]) ∧ Below W.heap.size W w'))
    (hg : g ≠ 0) (hd1 : d.2.1 = x) (hd2 : d.2.2 = 0) :
    Calls Try.prog 8 #[.agg #[.int .i64 (N : Int), .int .i64 (s0 : Int), .slice fa fn fc, .slice aa m ac], .slice ia il ic, .slice oa ol oc] w fun e w' => e = .returned (.bool true) ∧ Below w.heap.size w w' := by
  have hb0 := bel_up (bel_self w) (.cells #[.int .i64 (N : Int), .int .i64 (s0 : Int), .slice fa fn fc, .slice aa m ac] 25)
  have hcf := cellsF_new w (N : Int) (s0 : Int) (.slice fa fn fc) (.slice aa m ac) 25
  have hbs := best_ok f N s0 _ aa m ac _ hok (hf.below hb0) (ha.below hb0) hal hc x hx
  rw [hok.st, hok.sta] at hbs
  have HCK : Hid (∀ W, Below w.heap.size w W → Calls Try.prog 18 #[.agg #[.int .i64 (N : Int), .int .i64 (s0 : Int), .slice fa fn fc, .slice aa m ac]] W fun e w' => e = .returned (.int .i64 0) ∧ Below W.heap.size W w') := fun W hb => by
    have := checkFst_any f _ _ W (hf.below hb) (ha.below hb)
    rw [hc, hok.st, hok.sta] at this
    exact this
  have HX : Hid (gI (toD f) s0 = x) := hx
  have HOK : Hid (OkF f N s0) := hok
  have HAL : Hid (f.arcs.length = m) := hal
  have HME : Hid (∀ W, Below w.heap.size w W → ISlice W (.slice fa fn fc) f.final ∧ ASlice W (.slice aa m ac) f.arcs) := fun W h => ⟨hf.below h, ha.below h⟩
  have hN1 := hok.n1
  have hN2 := hok.n2
  have hs0 := hok.s
  have hm3 : m ≤ 3000 := by have := hok.many; omega
  have hxh : x ≤ 1000000000000 := by have := ((toD_bounds hok).2 s0).2; omega
  have hxb : (x == -1) = false := by rw [beq_eq_false_iff_ne]; omega
  clear hx hok hf ha hal hc
  go_enter Try.func8, Try.ntmps8
  go_wp2_with (first | (go_at_call 44; refine hbs.mono ?_; rintro e w1 ⟨la, ln, lc, l, y, r, rfl, hl, hll, hbk, hway, hb1⟩; have HB0 : Hid (ISlice w1 (.slice la ln lc) l ∧ l.length = ln ∧ BackOk f N (toD f) y r ∧ WayL f y s0 l) := ⟨hl, hll, hbk, hway⟩; clear hl hll hbk hway; have hc1 := bel_on hb0 hb1; have hcf1 := hcf.below hb1) | (go_at_call 42; refine (shortBegun_any w1).mono ?_; rintro e w2 ⟨rfl, hb2⟩; have hc2 := bel_on hc1 hb2; have hcf2 := hcf1.below hb2) | (go_at_call 13; refine (scoreBegun_any w2).mono ?_; rintro e w3 ⟨rfl, hb3⟩; have hc3 := bel_on hc2 hb3; have hcf3 := hcf2.below hb3; obtain ⟨q0, q1, q2, q3⟩ := hcf3) | (go_at_call 18; refine (HCK.out w3 hc3).mono ?_; rintro e w4 ⟨rfl, hb4⟩; have hc4 := bel_on hc3 hb4; have hcf4 := (hcf2.below hb3).below hb4; obtain ⟨k0, k1', k2, k3⟩ := hcf4))
  refine (HSC.out w4 hc4).mono ?_
  rintro e w5 ⟨rfl, hb5⟩
  have hc5 := bel_on hc4 hb5
  obtain ⟨j0, j1, j2, j3⟩ := ((hcf2.below hb3).below hb4).below hb5
  have HC5 : Hid (∀ W, Below w5.heap.size w5 W → CellsF W w.heap.size (N : Int) (s0 : Int) (.slice fa fn fc) (.slice aa m ac) ∧ ISlice W (.slice la ln lc) l) := fun W h => ⟨(((hcf2.below hb3).below hb4).below hb5).below h, ((((HB0.out.1.below hb2).below hb3).below hb4).below hb5).below h⟩
  have hln : ln ≤ 20000 := by rw [← HB0.out.2.1]; obtain ⟨vs, v1, v2, v3⟩ := wayL_spots HB0.out.2.2.1 (fun a h => (HOK.out.arcs a h).2.1) _ s0 hs0 HB0.out.2.2.2; have := nodup_le N vs v2 (fun u hu => (v3 u hu).1); omega
  clear q0 q1 q2 q3 k0 k1' k2 k3 hbs
  have hgb : (g == 0) = false := by simpa using hg
  have hxn : (x != -1) = true := by rw [bne_iff_ne]; omega
  obtain ⟨p, dm, dh⟩ := d
  dsimp only at *
  subst hd2
  have hd3 := hd1.symm
  subst hd3
  clear hg
  have hmk := run_make_row' (P := Try.prog) 61 4 (.bool false) 1 Try.underlying61 (by kernel_rfl : (Try.prog.info? 4).map (fun i => (i.zero, i.size, i.bytes)) = some (some (.bool false), 1, 1)) rfl .i64 .i64 N (by omega) (by omega)
  go_wp2_with (first | (go_at_call 38; refine (HPU.out w5 hc5).mono ?_; rintro e w6 ⟨fa', fn', fc', ba', bn', bc', rfl, hfp, hap, hb6⟩; have hup := bel_up (bel_self w6) (.cells #[.int .i64 p.states, .int .i64 p.start, .slice fa' fn' fc', .slice ba' bn' bc'] 25); have hsp := HSP.out _ _ _ (hfp.below hup) (hap.below hup) (bel_on (bel_on hc5 hb6) hup)) | (go_at_call 10; refine hsp.mono ?_; rintro e w7 ⟨rfl, hb7⟩; have hu6 := bel_on (bel_on hb6 hup) hb7; obtain ⟨⟨q0, q1, q2, q3⟩, _⟩ := HC5.out _ hu6; have hmd := made_false w7 N; have z1 := hmd.cell s0 hs0; have z2 := hmd.frz s0))
  have hmd1 := made_one w7 N s0
  have HCW : Hid (∀ W, Below w7.heap.size w7 W → CellsF W w.heap.size (N : Int) (s0 : Int) (.slice fa fn fc) (.slice aa m ac) ∧ ISlice W (.slice la ln lc) l) := fun W h => HC5.out W (bel_on hu6 h)
  have HWW : Hid (Below w.heap.size w w7) := bel_on hc5 hu6
  have HB1 : Hid (Below w7.heap.size w7 (w7.alloc (.cells ((madeCells #[.bool false] N).setIfInBounds s0 (.bool true)) 4))) := bel_up (bel_self w7) _
  clear q0 q1 q2 q3 z1 z2 hmk hmd hu6 hb6 hb7 hup hsp hfp hap j0 j1 j2 j3 hb1 hb2 hb3 hb4 hb5 hcf hcf1 hcf2 hc1 hc2 hc3 hc4
  generalize w7.alloc (.cells ((madeCells #[.bool false] N).setIfInBounds s0 (.bool true)) 4) = W7 at *
  obtain ⟨G, hG⟩ : ∃ G, G = w7.heap.size := ⟨_, rfl⟩
  have HG : Hid (w7.heap.size ≤ G) := (by omega : w7.heap.size ≤ G)
  rw [← hG] at hmd1 ⊢
  clear hG
  have HRK : Hid (∀ u, u < N → decide (u = s0) = true → r s0 ≤ r u) := fun u _ h => by
    have e : u = s0 := of_decide_eq_true h
    subst e
    exact Nat.le_refl _
  go_loopw [17, 18, 20] (fun t17 t18 t20 wx => ∃ (k s : Nat) (cost : Int) (mb : Nat → Bool), k ≤ ln ∧ t17 = .int .i64 s ∧ t18 = .int .i64 cost ∧ t20 = .int .i64 k ∧ SbI f l y (toD f) r N x G s k cost mb w7 wx) (fun _ _ t20 _ => ln - (intOf t20).toNat)
  case atStart => exact ⟨0, s0, 0, _, Nat.zero_le _, rfl, rfl, rfl, ⟨HB0.out.2.2.2, (by rw [HX.out]; omega), Int.le_refl _, (by rw [HX.out]; exact hx0), hs0, hmd1, HRK.out, HB1.out⟩⟩
  case round =>
    clear hmd1
    obtain ⟨k, s, cost, mb, hk, rfl, rfl, rfl, hI⟩ := hrel
    by_cases hlt : k < ln
    · have hR : SbR f l y (toD f) r N (N : Int) (s0 : Int) x (.slice fa fn fc) aa m ac la ln lc w.heap.size G s k cost mb w7 wr := ⟨HOK.out.arcs, HB0.out.2.2.1, HAL.out, HB0.out.2.1, hN2, hm3, hln, hxh, hlt, HG.out, fun W h => ⟨(HCW.out W h).1, (HME.out W (bel_on HWW.out h)).2, (HCW.out W h).2⟩, hI⟩
      refine best_round (by kernel_rfl) hR ?_
      intros
      rename_i wx s' cost' mb' h17 h18 h20 hI'
      subst h17 h18 h20
      go_roundw
      case rel => first | exact ⟨_, _, _, _, _, _, _, _, _, _, _, _, _, _, _, _, _, _, _, _, _, _, _, _, _, _, _, _, _, _, _, _, _, _, _, _, _, _, _, _, _, _, _, _, _, _, _, _, _, _, _, _, _, _, _, _, _, _, _, _, _, _, _, _, ⟨k + 1, s', cost', mb', by omega, rfl, rfl, rfl, hI'⟩, rfl⟩ | exact ⟨_, _, _, _, _, _, _, _, _, _, _, _, _, _, _, _, _, _, _, _, _, _, _, _, _, _, _, _, _, _, _, _, _, _, _, _, _, _, _, _, _, _, _, _, _, _, _, _, _, _, _, _, _, _, _, _, _, _, _, _, _, _, _, _, _, ⟨k + 1, s', cost', mb', by omega, rfl, rfl, rfl, hI'⟩, rfl⟩
      case measure => simp [intOf]; omega
    · have hway := hI.way
      rw [List.drop_of_length_le (by have := HB0.out.2.1; omega)] at hway
      have hbel := hI.bel
      have hsN := hI.hs
      have hfin : gI (toD f) s = gI f.final s := by
        rcases HB0.out.2.2.1 s hsN with ⟨_, h⟩ | ⟨j, _, h, _⟩
        · exact h
        · rw [show gI y s = -1 from hway] at h; omega
      have hsum := hI.sum
      have ht0 := hI.t0
      have hc0 := hI.c0
      rw [hfin] at hsum ht0
      obtain ⟨v, hv⟩ : ∃ v, v = gI f.final s := ⟨_, rfl⟩
      rw [← hv] at hsum ht0
      have hfl : fn = N := by
        obtain ⟨_, _, _, he, hl, _⟩ := (HME.out w7 HWW.out).1.lenOf
        injection he with h1 h2 h3
        rw [h2, ← hl, HOK.out.len]
      obtain ⟨fb, fo, rfl, hfx⟩ := (HME.out _ (bel_on HWW.out hbel)).1.some (by omega)
      have d0 := hfx.cell s (by omega)
      have e5 : f.final.getD s 0 = v := by
        have := HOK.out.len
        rw [hv]
        unfold gI
        simp [List.getD, show s < f.final.length by omega]
      rw [e5] at d0
      obtain ⟨q0, q1, q2, q3⟩ := (HCW.out _ hbel).1
      have hnl : ¬ ((k : Int) < ln) := by omega
      have hcw : IntKind.i64.wrap (cost + v) = x := by rw [hsum]; exact wrap_in _ (by omega) (by omega)
      have hvb : (v != -1) = true := by rw [bne_iff_ne]; omega
      have hsi : (s : Int) < fn := by omega
      have HFIN : Hid (Below w.heap.size w wr) := bel_on HWW.out hbel
      clear hI hway hbel hfin hsum ht0 hc0 hv hfx e5
      subst hfl
      go_wp2
      go_ret
      exact ⟨rfl, HFIN.out⟩

set_option maxHeartbeats 4000000 in
set_option maxRecDepth 100000 in
theorem sbest_h2 (f : FstD) (N s0 : Nat) (fa : Option Addr) (fn fc : Nat) (aa : Option Addr) (m ac : Nat) (ia : Option Addr) (il ic : Nat) (oa : Option Addr) (ol oc : Nat) (w : World) (hok : OkF f N s0) (hf : ISlice w (.slice fa fn fc) f.final) (ha : ASlice w (.slice aa m ac) f.arcs) (hal : f.arcs.length = m) (hc : checkD f = 0) (x : Int) (hx : gI (toD f) s0 = x) (hx0 : 0 ≤ x) (m1 g : Int)
    (HSC : Hid (∀ W, Below w.heap.size w W → Calls Try.prog 10 #[.agg #[.int .i64 (N : Int), .int .i64 (s0 : Int), .slice fa fn fc, .slice aa m ac], .slice ia il ic, .slice oa ol oc] W fun e w' => e = .returned (.tuple #[.int .i64 m1, .int .i64 g]) ∧ Below W.heap.size W w'))
    (d : FstD × Int × Int) (HPU : Hid (∀ W, Below w.heap.size w W → Calls Try.prog 38 #[.agg #[.int .i64 (N : Int), .int .i64 (s0 : Int), .slice fa fn fc, .slice aa m ac]] W fun e w' => PushRes W d e w'))
    (k1 : Int) (HSP : Hid (∀ fv av W, ISlice W fv d.1.final → ASlice W av d.1.arcs → Below w.heap.size w W → Calls Try.prog 10 #[.agg #[.int .i64 d.1.states, .int .i64 d.1.start, fv, av], .slice ia il ic, .slice oa ol oc] W fun e w' => e = .returned (.tuple #[.int .i64 k1, .int .i64 g]) ∧ Below W.heap.size W w'))
    (hg : g = 0) (hm1 : m1 = -1) (hk1 : k1 = -1) (hd1 : d.2.1 = x) (hd2 : d.2.2 = 0) :
    Calls Try.prog 8 #[.agg #[.int .i64 (N : Int), .int .i64 (s0 : Int), .slice fa fn fc, .slice aa m ac], .slice ia il ic, .slice oa ol oc] w fun e w' => e = .returned (.bool true) ∧ Below w.heap.size w w' := by
  have hb0 := bel_up (bel_self w) (.cells #[.int .i64 (N : Int), .int .i64 (s0 : Int), .slice fa fn fc, .slice aa m ac] 25)
  have hcf := cellsF_new w (N : Int) (s0 : Int) (.slice fa fn fc) (.slice aa m ac) 25
  have hbs := best_ok f N s0 _ aa m ac _ hok (hf.below hb0) (ha.below hb0) hal hc x hx
  rw [hok.st, hok.sta] at hbs
  have HCK : Hid (∀ W, Below w.heap.size w W → Calls Try.prog 18 #[.agg #[.int .i64 (N : Int), .int .i64 (s0 : Int), .slice fa fn fc, .slice aa m ac]] W fun e w' => e = .returned (.int .i64 0) ∧ Below W.heap.size W w') := fun W hb => by
    have := checkFst_any f _ _ W (hf.below hb) (ha.below hb)
    rw [hc, hok.st, hok.sta] at this
    exact this
  have HX : Hid (gI (toD f) s0 = x) := hx
  have HOK : Hid (OkF f N s0) := hok
  have HAL : Hid (f.arcs.length = m) := hal
  have HME : Hid (∀ W, Below w.heap.size w W → ISlice W (.slice fa fn fc) f.final ∧ ASlice W (.slice aa m ac) f.arcs) := fun W h => ⟨hf.below h, ha.below h⟩
  have hN1 := hok.n1
  have hN2 := hok.n2
  have hs0 := hok.s
  have hm3 : m ≤ 3000 := by have := hok.many; omega
  have hxh : x ≤ 1000000000000 := by have := ((toD_bounds hok).2 s0).2; omega
  have hxb : (x == -1) = false := by rw [beq_eq_false_iff_ne]; omega
  clear hx hok hf ha hal hc
  go_enter Try.func8, Try.ntmps8
  go_wp2_with (first | (go_at_call 44; refine hbs.mono ?_; rintro e w1 ⟨la, ln, lc, l, y, r, rfl, hl, hll, hbk, hway, hb1⟩; have HB0 : Hid (ISlice w1 (.slice la ln lc) l ∧ l.length = ln ∧ BackOk f N (toD f) y r ∧ WayL f y s0 l) := ⟨hl, hll, hbk, hway⟩; clear hl hll hbk hway; have hc1 := bel_on hb0 hb1; have hcf1 := hcf.below hb1) | (go_at_call 42; refine (shortBegun_any w1).mono ?_; rintro e w2 ⟨rfl, hb2⟩; have hc2 := bel_on hc1 hb2; have hcf2 := hcf1.below hb2) | (go_at_call 13; refine (scoreBegun_any w2).mono ?_; rintro e w3 ⟨rfl, hb3⟩; have hc3 := bel_on hc2 hb3; have hcf3 := hcf2.below hb3; obtain ⟨q0, q1, q2, q3⟩ := hcf3) | (go_at_call 18; refine (HCK.out w3 hc3).mono ?_; rintro e w4 ⟨rfl, hb4⟩; have hc4 := bel_on hc3 hb4; have hcf4 := (hcf2.below hb3).below hb4; obtain ⟨k0, k1', k2, k3⟩ := hcf4))
  refine (HSC.out w4 hc4).mono ?_
  rintro e w5 ⟨rfl, hb5⟩
  have hc5 := bel_on hc4 hb5
  obtain ⟨j0, j1, j2, j3⟩ := ((hcf2.below hb3).below hb4).below hb5
  have HC5 : Hid (∀ W, Below w5.heap.size w5 W → CellsF W w.heap.size (N : Int) (s0 : Int) (.slice fa fn fc) (.slice aa m ac) ∧ ISlice W (.slice la ln lc) l) := fun W h => ⟨(((hcf2.below hb3).below hb4).below hb5).below h, ((((HB0.out.1.below hb2).below hb3).below hb4).below hb5).below h⟩
  have hln : ln ≤ 20000 := by rw [← HB0.out.2.1]; obtain ⟨vs, v1, v2, v3⟩ := wayL_spots HB0.out.2.2.1 (fun a h => (HOK.out.arcs a h).2.1) _ s0 hs0 HB0.out.2.2.2; have := nodup_le N vs v2 (fun u hu => (v3 u hu).1); omega
  clear q0 q1 q2 q3 k0 k1' k2 k3 hbs
  subst hg hm1 hk1
  have hxn : (x != -1) = true := by rw [bne_iff_ne]; omega
  obtain ⟨p, dm, dh⟩ := d
  dsimp only at *
  subst hd2
  have hd3 := hd1.symm
  subst hd3
  have hmk := run_make_row' (P := Try.prog) 61 4 (.bool false) 1 Try.underlying61 (by kernel_rfl : (Try.prog.info? 4).map (fun i => (i.zero, i.size, i.bytes)) = some (some (.bool false), 1, 1)) rfl .i64 .i64 N (by omega) (by omega)
  go_wp2_with (first | (go_at_call 38; refine (HPU.out w5 hc5).mono ?_; rintro e w6 ⟨fa', fn', fc', ba', bn', bc', rfl, hfp, hap, hb6⟩; have hup := bel_up (bel_self w6) (.cells #[.int .i64 p.states, .int .i64 p.start, .slice fa' fn' fc', .slice ba' bn' bc'] 25); have hsp := HSP.out _ _ _ (hfp.below hup) (hap.below hup) (bel_on (bel_on hc5 hb6) hup)) | (go_at_call 10; refine hsp.mono ?_; rintro e w7 ⟨rfl, hb7⟩; have hu6 := bel_on (bel_on hb6 hup) hb7; obtain ⟨⟨q0, q1, q2, q3⟩, _⟩ := HC5.out _ hu6; have hmd := made_false w7 N; have z1 := hmd.cell s0 hs0; have z2 := hmd.frz s0))
  have hmd1 := made_one w7 N s0
  have HCW : Hid (∀ W, Below w7.heap.size w7 W → CellsF W w.heap.size (N : Int) (s0 : Int) (.slice fa fn fc) (.slice aa m ac) ∧ ISlice W (.slice la ln lc) l) := fun W h => HC5.out W (bel_on hu6 h)
  have HWW : Hid (Below w.heap.size w w7) := bel_on hc5 hu6
  have HB1 : Hid (Below w7.heap.size w7 (w7.alloc (.cells ((madeCells #[.bool false] N).setIfInBounds s0 (.bool true)) 4))) := bel_up (bel_self w7) _
  clear q0 q1 q2 q3 z1 z2 hmk hmd hu6 hb6 hb7 hup hsp hfp hap j0 j1 j2 j3 hb1 hb2 hb3 hb4 hb5 hcf hcf1 hcf2 hc1 hc2 hc3 hc4
  generalize w7.alloc (.cells ((madeCells #[.bool false] N).setIfInBounds s0 (.bool true)) 4) = W7 at *
  obtain ⟨G, hG⟩ : ∃ G, G = w7.heap.size := ⟨_, rfl⟩
  have HG : Hid (w7.heap.size ≤ G) := (by omega : w7.heap.size ≤ G)
  rw [← hG] at hmd1 ⊢
  clear hG
  have HRK : Hid (∀ u, u < N → decide (u = s0) = true → r s0 ≤ r u) := fun u _ h => by
    have e : u = s0 := of_decide_eq_true h
    subst e
    exact Nat.le_refl _
  go_loopw [17, 18, 20] (fun t17 t18 t20 wx => ∃ (k s : Nat) (cost : Int) (mb : Nat → Bool), k ≤ ln ∧ t17 = .int .i64 s ∧ t18 = .int .i64 cost ∧ t20 = .int .i64 k ∧ SbI f l y (toD f) r N x G s k cost mb w7 wx) (fun _ _ t20 _ => ln - (intOf t20).toNat)
  case atStart => exact ⟨0, s0, 0, _, Nat.zero_le _, rfl, rfl, rfl, ⟨HB0.out.2.2.2, (by rw [HX.out]; omega), Int.le_refl _, (by rw [HX.out]; exact hx0), hs0, hmd1, HRK.out, HB1.out⟩⟩
  case round =>
    clear hmd1
    obtain ⟨k, s, cost, mb, hk, rfl, rfl, rfl, hI⟩ := hrel
    by_cases hlt : k < ln
    · have hR : SbR f l y (toD f) r N (N : Int) (s0 : Int) x (.slice fa fn fc) aa m ac la ln lc w.heap.size G s k cost mb w7 wr := ⟨HOK.out.arcs, HB0.out.2.2.1, HAL.out, HB0.out.2.1, hN2, hm3, hln, hxh, hlt, HG.out, fun W h => ⟨(HCW.out W h).1, (HME.out W (bel_on HWW.out h)).2, (HCW.out W h).2⟩, hI⟩
      refine best_round (by kernel_rfl) hR ?_
      intros
      rename_i wx s' cost' mb' h17 h18 h20 hI'
      subst h17 h18 h20
      go_roundw
      case rel => first | exact ⟨_, _, _, _, _, _, _, _, _, _, _, _, _, _, _, _, _, _, _, _, _, _, _, _, _, _, _, _, _, _, _, _, _, _, _, _, _, _, _, _, _, _, _, _, _, _, _, _, _, _, _, _, _, _, _, _, _, _, _, _, _, _, _, _, ⟨k + 1, s', cost', mb', by omega, rfl, rfl, rfl, hI'⟩, rfl⟩ | exact ⟨_, _, _, _, _, _, _, _, _, _, _, _, _, _, _, _, _, _, _, _, _, _, _, _, _, _, _, _, _, _, _, _, _, _, _, _, _, _, _, _, _, _, _, _, _, _, _, _, _, _, _, _, _, _, _, _, _, _, _, _, _, _, _, _, _, ⟨k + 1, s', cost', mb', by omega, rfl, rfl, rfl, hI'⟩, rfl⟩
      case measure => simp [intOf]; omega
    · have hway := hI.way
      rw [List.drop_of_length_le (by have := HB0.out.2.1; omega)] at hway
      have hbel := hI.bel
      have hsN := hI.hs
      have hfin : gI (toD f) s = gI f.final s := by
        rcases HB0.out.2.2.1 s hsN with ⟨_, h⟩ | ⟨j, _, h, _⟩
        · exact h
        · rw [show gI y s = -1 from hway] at h; omega
      have hsum := hI.sum
      have ht0 := hI.t0
      have hc0 := hI.c0
      rw [hfin] at hsum ht0
      obtain ⟨v, hv⟩ : ∃ v, v = gI f.final s := ⟨_, rfl⟩
      rw [← hv] at hsum ht0
      have hfl : fn = N := by
        obtain ⟨_, _, _, he, hl, _⟩ := (HME.out w7 HWW.out).1.lenOf
        injection he with h1 h2 h3
        rw [h2, ← hl, HOK.out.len]
      obtain ⟨fb, fo, rfl, hfx⟩ := (HME.out _ (bel_on HWW.out hbel)).1.some (by omega)
      have d0 := hfx.cell s (by omega)
      have e5 : f.final.getD s 0 = v := by
        have := HOK.out.len
        rw [hv]
        unfold gI
        simp [List.getD, show s < f.final.length by omega]
      rw [e5] at d0
      obtain ⟨q0, q1, q2, q3⟩ := (HCW.out _ hbel).1
      have hnl : ¬ ((k : Int) < ln) := by omega
      have hcw : IntKind.i64.wrap (cost + v) = x := by rw [hsum]; exact wrap_in _ (by omega) (by omega)
      have hvb : (v != -1) = true := by rw [bne_iff_ne]; omega
      have hsi : (s : Int) < fn := by omega
      have HFIN : Hid (Below w.heap.size w wr) := bel_on HWW.out hbel
      clear hI hway hbel hfin hsum ht0 hc0 hv hfx e5
      subst hfl
      go_wp2
      go_ret
      exact ⟨rfl, HFIN.out⟩

set_option maxHeartbeats 4000000 in
set_option maxRecDepth 100000 in
theorem sbest_h3 (f : FstD) (N s0 : Nat) (fa : Option Addr) (fn fc : Nat) (aa : Option Addr) (m ac : Nat) (ia : Option Addr) (il ic : Nat) (oa : Option Addr) (ol oc : Nat) (w : World) (hok : OkF f N s0) (hf : ISlice w (.slice fa fn fc) f.final) (ha : ASlice w (.slice aa m ac) f.arcs) (hal : f.arcs.length = m) (hc : checkD f = 0) (x : Int) (hx : gI (toD f) s0 = x) (hx0 : 0 ≤ x) (m1 g : Int)
    (HSC : Hid (∀ W, Below w.heap.size w W → Calls Try.prog 10 #[.agg #[.int .i64 (N : Int), .int .i64 (s0 : Int), .slice fa fn fc, .slice aa m ac], .slice ia il ic, .slice oa ol oc] W fun e w' => e = .returned (.tuple #[.int .i64 m1, .int .i64 g]) ∧ Below W.heap.size W w'))
    (d : FstD × Int × Int) (HPU : Hid (∀ W, Below w.heap.size w W → Calls Try.prog 38 #[.agg #[.int .i64 (N : Int), .int .i64 (s0 : Int), .slice fa fn fc, .slice aa m ac]] W fun e w' => PushRes W d e w'))
    (k1 : Int) (HSP : Hid (∀ fv av W, ISlice W fv d.1.final → ASlice W av d.1.arcs → Below w.heap.size w W → Calls Try.prog 10 #[.agg #[.int .i64 d.1.states, .int .i64 d.1.start, fv, av], .slice ia il ic, .slice oa ol oc] W fun e w' => e = .returned (.tuple #[.int .i64 k1, .int .i64 g]) ∧ Below W.heap.size W w'))
    (hg : g = 0) (hm1 : 0 ≤ m1) (hm2 : m1 ≤ 1000000000000000) (hk0 : 0 ≤ k1) (hk1 : k1 + x = m1) (hd1 : d.2.1 = x) (hd2 : d.2.2 = 0) :
    Calls Try.prog 8 #[.agg #[.int .i64 (N : Int), .int .i64 (s0 : Int), .slice fa fn fc, .slice aa m ac], .slice ia il ic, .slice oa ol oc] w fun e w' => e = .returned (.bool true) ∧ Below w.heap.size w w' := by
  have hb0 := bel_up (bel_self w) (.cells #[.int .i64 (N : Int), .int .i64 (s0 : Int), .slice fa fn fc, .slice aa m ac] 25)
  have hcf := cellsF_new w (N : Int) (s0 : Int) (.slice fa fn fc) (.slice aa m ac) 25
  have hbs := best_ok f N s0 _ aa m ac _ hok (hf.below hb0) (ha.below hb0) hal hc x hx
  rw [hok.st, hok.sta] at hbs
  have HCK : Hid (∀ W, Below w.heap.size w W → Calls Try.prog 18 #[.agg #[.int .i64 (N : Int), .int .i64 (s0 : Int), .slice fa fn fc, .slice aa m ac]] W fun e w' => e = .returned (.int .i64 0) ∧ Below W.heap.size W w') := fun W hb => by
    have := checkFst_any f _ _ W (hf.below hb) (ha.below hb)
    rw [hc, hok.st, hok.sta] at this
    exact this
  have HX : Hid (gI (toD f) s0 = x) := hx
  have HOK : Hid (OkF f N s0) := hok
  have HAL : Hid (f.arcs.length = m) := hal
  have HME : Hid (∀ W, Below w.heap.size w W → ISlice W (.slice fa fn fc) f.final ∧ ASlice W (.slice aa m ac) f.arcs) := fun W h => ⟨hf.below h, ha.below h⟩
  have hN1 := hok.n1
  have hN2 := hok.n2
  have hs0 := hok.s
  have hm3 : m ≤ 3000 := by have := hok.many; omega
  have hxh : x ≤ 1000000000000 := by have := ((toD_bounds hok).2 s0).2; omega
  have hxb : (x == -1) = false := by rw [beq_eq_false_iff_ne]; omega
  clear hx hok hf ha hal hc
  go_enter Try.func8, Try.ntmps8
  go_wp2_with (first | (go_at_call 44; refine hbs.mono ?_; rintro e w1 ⟨la, ln, lc, l, y, r, rfl, hl, hll, hbk, hway, hb1⟩; have HB0 : Hid (ISlice w1 (.slice la ln lc) l ∧ l.length = ln ∧ BackOk f N (toD f) y r ∧ WayL f y s0 l) := ⟨hl, hll, hbk, hway⟩; clear hl hll hbk hway; have hc1 := bel_on hb0 hb1; have hcf1 := hcf.below hb1) | (go_at_call 42; refine (shortBegun_any w1).mono ?_; rintro e w2 ⟨rfl, hb2⟩; have hc2 := bel_on hc1 hb2; have hcf2 := hcf1.below hb2) | (go_at_call 13; refine (scoreBegun_any w2).mono ?_; rintro e w3 ⟨rfl, hb3⟩; have hc3 := bel_on hc2 hb3; have hcf3 := hcf2.below hb3; obtain ⟨q0, q1, q2, q3⟩ := hcf3) | (go_at_call 18; refine (HCK.out w3 hc3).mono ?_; rintro e w4 ⟨rfl, hb4⟩; have hc4 := bel_on hc3 hb4; have hcf4 := (hcf2.below hb3).below hb4; obtain ⟨k0, k1', k2, k3⟩ := hcf4))
  refine (HSC.out w4 hc4).mono ?_
  rintro e w5 ⟨rfl, hb5⟩
  have hc5 := bel_on hc4 hb5
  obtain ⟨j0, j1, j2, j3⟩ := ((hcf2.below hb3).below hb4).below hb5
  have HC5 : Hid (∀ W, Below w5.heap.size w5 W → CellsF W w.heap.size (N : Int) (s0 : Int) (.slice fa fn fc) (.slice aa m ac) ∧ ISlice W (.slice la ln lc) l) := fun W h => ⟨(((hcf2.below hb3).below hb4).below hb5).below h, ((((HB0.out.1.below hb2).below hb3).below hb4).below hb5).below h⟩
  have hln : ln ≤ 20000 := by rw [← HB0.out.2.1]; obtain ⟨vs, v1, v2, v3⟩ := wayL_spots HB0.out.2.2.1 (fun a h => (HOK.out.arcs a h).2.1) _ s0 hs0 HB0.out.2.2.2; have := nodup_le N vs v2 (fun u hu => (v3 u hu).1); omega
  clear q0 q1 q2 q3 k0 k1' k2 k3 hbs
  subst hg
  have hmb : (m1 != -1) = true := by rw [bne_iff_ne]; omega
  have hmb2 : (m1 == -1) = false := by rw [beq_eq_false_iff_ne]; omega
  have hkb : (k1 == -1) = false := by rw [beq_eq_false_iff_ne]; omega
  have hml : ¬ m1 < x := by omega
  have hml2 : decide (m1 < x) = false := decide_eq_false hml
  have hkw : IntKind.i64.wrap (k1 + x) = m1 := by rw [hk1]; exact wrap_in _ (by omega) (by omega)
  have hxn : (x != -1) = true := by rw [bne_iff_ne]; omega
  obtain ⟨p, dm, dh⟩ := d
  dsimp only at *
  subst hd2
  have hd3 := hd1.symm
  subst hd3
  clear hk1 hm1 hk0
  have hmk := run_make_row' (P := Try.prog) 61 4 (.bool false) 1 Try.underlying61 (by kernel_rfl : (Try.prog.info? 4).map (fun i => (i.zero, i.size, i.bytes)) = some (some (.bool false), 1, 1)) rfl .i64 .i64 N (by omega) (by omega)
  go_wp2_with (first | (go_at_call 38; refine (HPU.out w5 hc5).mono ?_; rintro e w6 ⟨fa', fn', fc', ba', bn', bc', rfl, hfp, hap, hb6⟩; have hup := bel_up (bel_self w6) (.cells #[.int .i64 p.states, .int .i64 p.start, .slice fa' fn' fc', .slice ba' bn' bc'] 25); have hsp := HSP.out _ _ _ (hfp.below hup) (hap.below hup) (bel_on (bel_on hc5 hb6) hup)) | (go_at_call 10; refine hsp.mono ?_; rintro e w7 ⟨rfl, hb7⟩; have hu6 := bel_on (bel_on hb6 hup) hb7; obtain ⟨⟨q0, q1, q2, q3⟩, _⟩ := HC5.out _ hu6; have hmd := made_false w7 N; have z1 := hmd.cell s0 hs0; have z2 := hmd.frz s0))
  have hmd1 := made_one w7 N s0
  have HCW : Hid (∀ W, Below w7.heap.size w7 W → CellsF W w.heap.size (N : Int) (s0 : Int) (.slice fa fn fc) (.slice aa m ac) ∧ ISlice W (.slice la ln lc) l) := fun W h => HC5.out W (bel_on hu6 h)
  have HWW : Hid (Below w.heap.size w w7) := bel_on hc5 hu6
  have HB1 : Hid (Below w7.heap.size w7 (w7.alloc (.cells ((madeCells #[.bool false] N).setIfInBounds s0 (.bool true)) 4))) := bel_up (bel_self w7) _
  clear q0 q1 q2 q3 z1 z2 hmk hmd hu6 hb6 hb7 hup hsp hfp hap j0 j1 j2 j3 hb1 hb2 hb3 hb4 hb5 hcf hcf1 hcf2 hc1 hc2 hc3 hc4
  generalize w7.alloc (.cells ((madeCells #[.bool false] N).setIfInBounds s0 (.bool true)) 4) = W7 at *
  obtain ⟨G, hG⟩ : ∃ G, G = w7.heap.size := ⟨_, rfl⟩
  have HG : Hid (w7.heap.size ≤ G) := (by omega : w7.heap.size ≤ G)
  rw [← hG] at hmd1 ⊢
  clear hG
  have HRK : Hid (∀ u, u < N → decide (u = s0) = true → r s0 ≤ r u) := fun u _ h => by
    have e : u = s0 := of_decide_eq_true h
    subst e
    exact Nat.le_refl _
  go_loopw [17, 18, 20] (fun t17 t18 t20 wx => ∃ (k s : Nat) (cost : Int) (mb : Nat → Bool), k ≤ ln ∧ t17 = .int .i64 s ∧ t18 = .int .i64 cost ∧ t20 = .int .i64 k ∧ SbI f l y (toD f) r N x G s k cost mb w7 wx) (fun _ _ t20 _ => ln - (intOf t20).toNat)
  case atStart => exact ⟨0, s0, 0, _, Nat.zero_le _, rfl, rfl, rfl, ⟨HB0.out.2.2.2, (by rw [HX.out]; omega), Int.le_refl _, (by rw [HX.out]; exact hx0), hs0, hmd1, HRK.out, HB1.out⟩⟩
  case round =>
    clear hmd1
    obtain ⟨k, s, cost, mb, hk, rfl, rfl, rfl, hI⟩ := hrel
    by_cases hlt : k < ln
    · have hR : SbR f l y (toD f) r N (N : Int) (s0 : Int) x (.slice fa fn fc) aa m ac la ln lc w.heap.size G s k cost mb w7 wr := ⟨HOK.out.arcs, HB0.out.2.2.1, HAL.out, HB0.out.2.1, hN2, hm3, hln, hxh, hlt, HG.out, fun W h => ⟨(HCW.out W h).1, (HME.out W (bel_on HWW.out h)).2, (HCW.out W h).2⟩, hI⟩
      refine best_round (by kernel_rfl) hR ?_
      intros
      rename_i wx s' cost' mb' h17 h18 h20 hI'
      subst h17 h18 h20
      go_roundw
      case rel => first | exact ⟨_, _, _, _, _, _, _, _, _, _, _, _, _, _, _, _, _, _, _, _, _, _, _, _, _, _, _, _, _, _, _, _, _, _, _, _, _, _, _, _, _, _, _, _, _, _, _, _, _, _, _, _, _, _, _, _, _, _, _, _, _, _, _, _, ⟨k + 1, s', cost', mb', by omega, rfl, rfl, rfl, hI'⟩, rfl⟩ | exact ⟨_, _, _, _, _, _, _, _, _, _, _, _, _, _, _, _, _, _, _, _, _, _, _, _, _, _, _, _, _, _, _, _, _, _, _, _, _, _, _, _, _, _, _, _, _, _, _, _, _, _, _, _, _, _, _, _, _, _, _, _, _, _, _, _, _, ⟨k + 1, s', cost', mb', by omega, rfl, rfl, rfl, hI'⟩, rfl⟩
      case measure => simp [intOf]; omega
    · have hway := hI.way
      rw [List.drop_of_length_le (by have := HB0.out.2.1; omega)] at hway
      have hbel := hI.bel
      have hsN := hI.hs
      have hfin : gI (toD f) s = gI f.final s := by
        rcases HB0.out.2.2.1 s hsN with ⟨_, h⟩ | ⟨j, _, h, _⟩
        · exact h
        · rw [show gI y s = -1 from hway] at h; omega
      have hsum := hI.sum
      have ht0 := hI.t0
      have hc0 := hI.c0
      rw [hfin] at hsum ht0
      obtain ⟨v, hv⟩ : ∃ v, v = gI f.final s := ⟨_, rfl⟩
      rw [← hv] at hsum ht0
      have hfl : fn = N := by
        obtain ⟨_, _, _, he, hl, _⟩ := (HME.out w7 HWW.out).1.lenOf
        injection he with h1 h2 h3
        rw [h2, ← hl, HOK.out.len]
      obtain ⟨fb, fo, rfl, hfx⟩ := (HME.out _ (bel_on HWW.out hbel)).1.some (by omega)
      have d0 := hfx.cell s (by omega)
      have e5 : f.final.getD s 0 = v := by
        have := HOK.out.len
        rw [hv]
        unfold gI
        simp [List.getD, show s < f.final.length by omega]
      rw [e5] at d0
      obtain ⟨q0, q1, q2, q3⟩ := (HCW.out _ hbel).1
      have hnl : ¬ ((k : Int) < ln) := by omega
      have hcw : IntKind.i64.wrap (cost + v) = x := by rw [hsum]; exact wrap_in _ (by omega) (by omega)
      have hvb : (v != -1) = true := by rw [bne_iff_ne]; omega
      have hsi : (s : Int) < fn := by omega
      have HFIN : Hid (Below w.heap.size w wr) := bel_on HWW.out hbel
      clear hI hway hbel hfin hsum ht0 hc0 hv hfx e5
      subst hfl
      go_wp2
      go_ret
      exact ⟨rfl, HFIN.out⟩
end Go.Proofs.Yteehgcbjmdideaa
