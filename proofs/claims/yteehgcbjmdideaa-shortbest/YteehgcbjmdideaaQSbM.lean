/- 'ShortBest', where an end can be come to. -/
import Derived.Test.YteehgcbjmdideaaQSbL
namespace Go.Proofs.Yteehgcbjmdideaa
open Go.RowKit
attribute [local go_sem ↓] Go.wp_at_zero Go.wp_at_succ

theorem wayL_spots {f : FstD} {N : Nat} {to y : List Int} {r : Nat → Nat} (hbk : BackOk f N to y r) (hd : ∀ a ∈ f.arcs, 0 ≤ a.dst ∧ a.dst < N) (l : List Int) : ∀ s, s < N → WayL f y s l → ∃ vs : List Nat, vs.length = l.length + 1 ∧ vs.Nodup ∧ ∀ u ∈ vs, u < N ∧ r u ≤ r s := by
  induction l with
  | nil => intro s hs _; exact ⟨[s], rfl, by simp, fun u hu => by rw [List.mem_singleton] at hu; subst hu; exact ⟨hs, Nat.le_refl _⟩⟩
  | cons n l ih =>
    intro s hs hw
    obtain ⟨j, a, _, e2, e3, _, hw'⟩ := hw
    have hda := hd a (List.mem_of_getElem? e3)
    have hr : r a.dst.toNat < r s := by
      rcases hbk s hs with ⟨h1, _⟩ | ⟨j', a', h1, h2, _, _, _, _, h7⟩
      · rw [e2] at h1; omega
      · have ej : j' = j := by rw [e2] at h1; omega
        subst ej
        rw [e3] at h2
        injection h2 with h2
        subst h2
        exact h7
    obtain ⟨vs, k1, k2, k3⟩ := ih _ (by omega) hw'
    refine ⟨s :: vs, by simp [k1], List.nodup_cons.2 ⟨fun hm => ?_, k2⟩, fun u hu => ?_⟩
    · have := (k3 s hm).2; omega
    · rcases List.mem_cons.1 hu with rfl | hu
      · exact ⟨hs, Nat.le_refl _⟩
      · have := k3 u hu
        exact ⟨this.1, by omega⟩

theorem made_one (w : World) (n s : Nat) : MetB (w.alloc (.cells ((madeCells #[.bool false] n).setIfInBounds s (.bool true)) 4)) w.heap.size n (fun u => decide (u = s)) := by
  have h : (w.alloc (.cells ((madeCells #[.bool false] n).setIfInBounds s (.bool true)) 4)).heap[w.heap.size]? = some (.cells ((madeCells #[.bool false] n).setIfInBounds s (.bool true)) 4 (0, 0)) := heap_alloc_new w _
  refine ⟨fun i hi => ?_, fun i => Go.Joins.unfrozen_of_block h i, by simp⟩
  by_cases e : i = s
  · subst e
    simp [madeCells, hi]
  · have e' : ¬ s = i := fun h => e h.symm
    simp [madeCells, hi, e, e', Nat.mod_one]

set_option maxHeartbeats 4000000 in
set_option maxRecDepth 100000 in
theorem sbest_g1 (f : FstD) (N s0 : Nat) (fa : Option Addr) (fn fc : Nat) (aa : Option Addr) (m ac : Nat) (ia : Option Addr) (il ic : Nat) (oa : Option Addr) (ol oc : Nat) (w : World) (hok : OkF f N s0) (hf : ISlice w (.slice fa fn fc) f.final) (ha : ASlice w (.slice aa m ac) f.arcs) (hal : f.arcs.length = m) (hc : checkD f = 0) (x : Int) (hx : gI (toD f) s0 = x) (hx0 : 0 ≤ x) (m1 g : Int)
    (HSC : Hid (∀ W, Below w.heap.size w W → Calls Try.prog 10 #[.agg #[.int .i64 (N : Int), .int .i64 (s0 : Int), .slice fa fn fc, .slice aa m ac], .slice ia il ic, .slice oa ol oc] W fun e w' => e = .returned (.tuple #[.int .i64 m1, .int .i64 g]) ∧ Below W.heap.size W w'))
    (d : FstD × Int × Int) (HPU : Hid (∀ W, Below w.heap.size w W → Calls Try.prog 38 #[.agg #[.int .i64 (N : Int), .int .i64 (s0 : Int), .slice fa fn fc, .slice aa m ac]] W fun e w' => PushRes W d e w'))
    (hg : g ≠ 0) (hd2 : d.2.2 ≠ 0) :
    Calls Try.prog 8 #[.agg #[.int .i64 (N : Int), .int .i64 (s0 : Int), .slice fa fn fc, .slice aa m ac], .slice ia il ic, .slice oa ol oc] w fun e w' => e = .returned (.bool true) ∧ Below w.heap.size w w' := by
  have hb0 := bel_up (bel_self w) (.cells #[.int .i64 (N : Int), .int .i64 (s0 : Int), .slice fa fn fc, .slice aa m ac] 25)
  have hcf := cellsF_new w (N : Int) (s0 : Int) (.slice fa fn fc) (.slice aa m ac) 25
  have hbs := best_ok f N s0 _ aa m ac _ hok (hf.below hb0) (ha.below hb0) hal hc x hx
  rw [hok.st, hok.sta] at hbs
  have HCK : Hid (∀ W, Below w.heap.size w W → Calls Try.prog 18 #[.agg #[.int .i64 (N : Int), .int .i64 (s0 : Int), .slice fa fn fc, .slice aa m ac]] W fun e w' => e = .returned (.int .i64 0) ∧ Below W.heap.size W w') := fun W hb => by
    have := checkFst_any f _ _ W (hf.below hb) (ha.below hb)
    rw [hc, hok.st, hok.sta] at this
    exact this
  have HX : Hid (gI (toD f) s0 = x) := hx
  have HOK : Hid (OkF f N s0) := hok
  have HAL : Hid (f.arcs.length = m) := hal
  have HME : Hid (∀ W, Below w.heap.size w W → ISlice W (.slice fa fn fc) f.final ∧ ASlice W (.slice aa m ac) f.arcs) := fun W h => ⟨hf.below h, ha.below h⟩
  have hN1 := hok.n1
  have hN2 := hok.n2
  have hs0 := hok.s
  have hm3 : m ≤ 3000 := by have := hok.many; omega
  have hxh : x ≤ 1000000000000 := by have := ((toD_bounds hok).2 s0).2; omega
  have hxb : (x == -1) = false := by rw [beq_eq_false_iff_ne]; omega
  clear hx hok hf ha hal hc
  go_enter Try.func8, Try.ntmps8
  go_wp2_with (first | (go_at_call 44; refine hbs.mono ?_; rintro e w1 ⟨la, ln, lc, l, y, r, rfl, hl, hll, hbk, hway, hb1⟩; have HB0 : Hid (ISlice w1 (.slice la ln lc) l ∧ l.length = ln ∧ BackOk f N (toD f) y r ∧ WayL f y s0 l) := ⟨hl, hll, hbk, hway⟩; clear hl hll hbk hway; have hc1 := bel_on hb0 hb1; have hcf1 := hcf.below hb1) | (go_at_call 42; refine (shortBegun_any w1).mono ?_; rintro e w2 ⟨rfl, hb2⟩; have hc2 := bel_on hc1 hb2; have hcf2 := hcf1.below hb2) | (go_at_call 13; refine (scoreBegun_any w2).mono ?_; rintro e w3 ⟨rfl, hb3⟩; have hc3 := bel_on hc2 hb3; have hcf3 := hcf2.below hb3; obtain ⟨q0, q1, q2, q3⟩ := hcf3) | (go_at_call 18; refine (HCK.out w3 hc3).mono ?_; rintro e w4 ⟨rfl, hb4⟩; have hc4 := bel_on hc3 hb4; have hcf4 := (hcf2.below hb3).below hb4; obtain ⟨k0, k1', k2, k3⟩ := hcf4))
  refine (HSC.out w4 hc4).mono ?_
  rintro e w5 ⟨rfl, hb5⟩
  have hc5 := bel_on hc4 hb5
  obtain ⟨j0, j1, j2, j3⟩ := ((hcf2.below hb3).below hb4).below hb5
  have HC5 : Hid (∀ W, Below w5.heap.size w5 W → CellsF W w.heap.size (N : Int) (s0 : Int) (.slice fa fn fc) (.slice aa m ac) ∧ ISlice W (.slice la ln lc) l) := fun W h => ⟨(((hcf2.below hb3).below hb4).below hb5).below h, ((((HB0.out.1.below hb2).below hb3).below hb4).below hb5).below h⟩
  have hln : ln ≤ 20000 := by rw [← HB0.out.2.1]; obtain ⟨vs, v1, v2, v3⟩ := wayL_spots HB0.out.2.2.1 (fun a h => (HOK.out.arcs a h).2.1) _ s0 hs0 HB0.out.2.2.2; have := nodup_le N vs v2 (fun u hu => (v3 u hu).1); omega
  clear q0 q1 q2 q3 k0 k1' k2 k3 hbs
  have hgb : (g == 0) = false := by simpa using hg
  have hdb : (d.2.2 == 0) = false := by simpa using hd2
  clear hg hd2
  have hmk := run_make_row' (P := Try.prog) 61 4 (.bool false) 1 Try.underlying61 (by kernel_rfl : (Try.prog.info? 4).map (fun i => (i.zero, i.size, i.bytes)) = some (some (.bool false), 1, 1)) rfl .i64 .i64 N (by omega) (by omega)
  go_wp2_with (go_at_call 38; refine (HPU.out w5 hc5).mono ?_; rintro e w6 ⟨fa', fn', fc', ba', bn', bc', rfl, _, _, hb6⟩; have hu6 := bel_on hb6 (bel_up (bel_self w6) (.cells #[.int .i64 d.1.states, .int .i64 d.1.start, .slice fa' fn' fc', .slice ba' bn' bc'] 25)); obtain ⟨⟨q0, q1, q2, q3⟩, _⟩ := HC5.out _ hu6; have hmd := made_false (w6.alloc (.cells #[.int .i64 d.1.states, .int .i64 d.1.start, .slice fa' fn' fc', .slice ba' bn' bc'] 25)) N; have z1 := hmd.cell s0 hs0; have z2 := hmd.frz s0; rw [one_size] at z1 z2)
  have hmd1 := made_one (w6.alloc (.cells #[.int .i64 d.1.states, .int .i64 d.1.start, .slice fa' fn' fc', .slice ba' bn' bc'] 25)) N s0
  rw [one_size] at hmd1
  have HCW : Hid (∀ W, Below (w6.alloc (.cells #[.int .i64 d.1.states, .int .i64 d.1.start, .slice fa' fn' fc', .slice ba' bn' bc'] 25)).heap.size (w6.alloc (.cells #[.int .i64 d.1.states, .int .i64 d.1.start, .slice fa' fn' fc', .slice ba' bn' bc'] 25)) W → CellsF W w.heap.size (N : Int) (s0 : Int) (.slice fa fn fc) (.slice aa m ac) ∧ ISlice W (.slice la ln lc) l) := fun W h => HC5.out W (bel_on hu6 h)
  have HWW : Hid (Below w.heap.size w (w6.alloc (.cells #[.int .i64 d.1.states, .int .i64 d.1.start, .slice fa' fn' fc', .slice ba' bn' bc'] 25))) := bel_on hc5 hu6
  have HB1 : Hid (Below (w6.alloc (.cells #[.int .i64 d.1.states, .int .i64 d.1.start, .slice fa' fn' fc', .slice ba' bn' bc'] 25)).heap.size (w6.alloc (.cells #[.int .i64 d.1.states, .int .i64 d.1.start, .slice fa' fn' fc', .slice ba' bn' bc'] 25)) ((w6.alloc (.cells #[.int .i64 d.1.states, .int .i64 d.1.start, .slice fa' fn' fc', .slice ba' bn' bc'] 25)).alloc (.cells ((madeCells #[.bool false] N).setIfInBounds s0 (.bool true)) 4))) := bel_up (bel_self (w6.alloc (.cells #[.int .i64 d.1.states, .int .i64 d.1.start, .slice fa' fn' fc', .slice ba' bn' bc'] 25))) _
  clear q0 q1 q2 q3 z1 z2 hmk hmd hu6 hb6 j0 j1 j2 j3 hb1 hb2 hb3 hb4 hb5 hcf hcf1 hcf2 hc1 hc2 hc3 hc4
  generalize (w6.alloc (.cells #[.int .i64 d.1.states, .int .i64 d.1.start, .slice fa' fn' fc', .slice ba' bn' bc'] 25)).alloc (.cells ((madeCells #[.bool false] N).setIfInBounds s0 (.bool true)) 4) = W7 at *
  have HG0 : (w6.alloc (.cells #[.int .i64 d.1.states, .int .i64 d.1.start, .slice fa' fn' fc', .slice ba' bn' bc'] 25)).heap.size ≤ w6.heap.size + 1 := by rw [one_size]; exact Nat.le_refl _
  generalize (w6.alloc (.cells #[.int .i64 d.1.states, .int .i64 d.1.start, .slice fa' fn' fc', .slice ba' bn' bc'] 25)) = WW at *
  obtain ⟨G, hG⟩ : ∃ G, G = w6.heap.size + 1 := ⟨_, rfl⟩
  rw [← hG] at hmd1 HG0 ⊢
  have HG : Hid (WW.heap.size ≤ G) := HG0
  clear hG HG0
  have HRK : Hid (∀ u, u < N → decide (u = s0) = true → r s0 ≤ r u) := fun u _ h => by
    have e : u = s0 := of_decide_eq_true h
    subst e
    exact Nat.le_refl _
  go_loopw [17, 18, 20] (fun t17 t18 t20 wx => ∃ (k s : Nat) (cost : Int) (mb : Nat → Bool), k ≤ ln ∧ t17 = .int .i64 s ∧ t18 = .int .i64 cost ∧ t20 = .int .i64 k ∧ SbI f l y (toD f) r N x G s k cost mb WW wx) (fun _ _ t20 _ => ln - (intOf t20).toNat)
  case atStart => exact ⟨0, s0, 0, _, Nat.zero_le _, rfl, rfl, rfl, ⟨HB0.out.2.2.2, (by rw [HX.out]; omega), Int.le_refl _, (by rw [HX.out]; exact hx0), hs0, hmd1, HRK.out, HB1.out⟩⟩
  case round =>
    clear hmd1
    obtain ⟨k, s, cost, mb, hk, rfl, rfl, rfl, hI⟩ := hrel
    by_cases hlt : k < ln
    · have hR : SbR f l y (toD f) r N (N : Int) (s0 : Int) x (.slice fa fn fc) aa m ac la ln lc w.heap.size G s k cost mb WW wr := ⟨HOK.out.arcs, HB0.out.2.2.1, HAL.out, HB0.out.2.1, hN2, hm3, hln, hxh, hlt, HG.out, fun W h => ⟨(HCW.out W h).1, (HME.out W (bel_on HWW.out h)).2, (HCW.out W h).2⟩, hI⟩
      refine best_round (by kernel_rfl) hR ?_
      intros
      rename_i wx s' cost' mb' h17 h18 h20 hI'
      subst h17 h18 h20
      go_roundw
      case rel => first | exact ⟨_, _, _, _, _, _, _, _, _, _, _, _, _, _, _, _, _, _, _, _, _, _, _, _, _, _, _, _, _, _, _, _, _, _, _, _, _, _, _, _, _, _, _, _, _, _, _, _, _, _, _, _, _, _, _, _, _, _, _, _, _, _, _, _, ⟨k + 1, s', cost', mb', by omega, rfl, rfl, rfl, hI'⟩, rfl⟩ | exact ⟨_, _, _, _, _, _, _, _, _, _, _, _, _, _, _, _, _, _, _, _, _, _, _, _, _, _, _, _, _, _, _, _, _, _, _, _, _, _, _, _, _, _, _, _, _, _, _, _, _, _, _, _, _, _, _, _, _, _, _, _, _, _, _, _, _, ⟨k + 1, s', cost', mb', by omega, rfl, rfl, rfl, hI'⟩, rfl⟩
      case measure => simp [intOf]; omega
    · have hway := hI.way
      rw [List.drop_of_length_le (by have := HB0.out.2.1; omega)] at hway
      have hbel := hI.bel
      have hsN := hI.hs
      have hfin : gI (toD f) s = gI f.final s := by
        rcases HB0.out.2.2.1 s hsN with ⟨_, h⟩ | ⟨j, _, h, _⟩
        · exact h
        · rw [show gI y s = -1 from hway] at h; omega
      have hsum := hI.sum
      have ht0 := hI.t0
      have hc0 := hI.c0
      rw [hfin] at hsum ht0
      obtain ⟨v, hv⟩ : ∃ v, v = gI f.final s := ⟨_, rfl⟩
      rw [← hv] at hsum ht0
      have hfl : fn = N := by
        obtain ⟨_, _, _, he, hl, _⟩ := (HME.out WW HWW.out).1.lenOf
        injection he with h1 h2 h3
        rw [h2, ← hl, HOK.out.len]
      obtain ⟨fb, fo, rfl, hfx⟩ := (HME.out _ (bel_on HWW.out hbel)).1.some (by omega)
      have d0 := hfx.cell s (by omega)
      have e5 : f.final.getD s 0 = v := by
        have := HOK.out.len
        rw [hv]
        unfold gI
        simp [List.getD, show s < f.final.length by omega]
      rw [e5] at d0
      obtain ⟨q0, q1, q2, q3⟩ := (HCW.out _ hbel).1
      have hnl : ¬ ((k : Int) < ln) := by omega
      have hcw : IntKind.i64.wrap (cost + v) = x := by rw [hsum]; exact wrap_in _ (by omega) (by omega)
      have hvb : (v != -1) = true := by rw [bne_iff_ne]; omega
      have hsi : (s : Int) < fn := by omega
      have HFIN : Hid (Below w.heap.size w wr) := bel_on HWW.out hbel
      clear hI hway hbel hfin hsum ht0 hc0 hv hfx e5
      subst hfl
      go_wp2
      go_ret
      exact ⟨rfl, HFIN.out⟩

set_option maxHeartbeats 4000000 in
set_option maxRecDepth 100000 in
theorem sbest_g2 (f : FstD) (N s0 : Nat) (fa : Option Addr) (fn fc : Nat) (aa : Option Addr) (m ac : Nat) (ia : Option Addr) (il ic : Nat) (oa : Option Addr) (ol oc : Nat) (w : World) (hok : OkF f N s0) (hf : ISlice w (.slice fa fn fc) f.final) (ha : ASlice w (.slice aa m ac) f.arcs) (hal : f.arcs.length = m) (hc : checkD f = 0) (x : Int) (hx : gI (toD f) s0 = x) (hx0 : 0 ≤ x) (m1 g : Int)
    (HSC : Hid (∀ W, Below w.heap.size w W → Calls Try.prog 10 #[.agg #[.int .i64 (N : Int), .int .i64 (s0 : Int), .slice fa fn fc, .slice aa m ac], .slice ia il ic, .slice oa ol oc] W fun e w' => e = .returned (.tuple #[.int .i64 m1, .int .i64 g]) ∧ Below W.heap.size W w'))
    (d : FstD × Int × Int) (HPU : Hid (∀ W, Below w.heap.size w W → Calls Try.prog 38 #[.agg #[.int .i64 (N : Int), .int .i64 (s0 : Int), .slice fa fn fc, .slice aa m ac]] W fun e w' => PushRes W d e w'))
    (hg : g = 0) (hm1 : m1 = -1) (hd2 : d.2.2 ≠ 0) :
    Calls Try.prog 8 #[.agg #[.int .i64 (N : Int), .int .i64 (s0 : Int), .slice fa fn fc, .slice aa m ac], .slice ia il ic, .slice oa ol oc] w fun e w' => e = .returned (.bool true) ∧ Below w.heap.size w w' := by
  have hb0 := bel_up (bel_self w) (.cells #[.int .i64 (N : Int), .int .i64 (s0 : Int), .slice fa fn fc, .slice aa m ac] 25)
  have hcf := cellsF_new w (N : Int) (s0 : Int) (.slice fa fn fc) (.slice aa m ac) 25
  have hbs := best_ok f N s0 _ aa m ac _ hok (hf.below hb0) (ha.below hb0) hal hc x hx
  rw [hok.st, hok.sta] at hbs
  have HCK : Hid (∀ W, Below w.heap.size w W → Calls Try.prog 18 #[.agg #[.int .i64 (N : Int), .int .i64 (s0 : Int), .slice fa fn fc, .slice aa m ac]] W fun e w' => e = .returned (.int .i64 0) ∧ Below W.heap.size W w') := fun W hb => by
    have := checkFst_any f _ _ W (hf.below hb) (ha.below hb)
    rw [hc, hok.st, hok.sta] at this
    exact this
  have HX : Hid (gI (toD f) s0 = x) := hx
  have HOK : Hid (OkF f N s0) := hok
  have HAL : Hid (f.arcs.length = m) := hal
  have HME : Hid (∀ W, Below w.heap.size w W → ISlice W (.slice fa fn fc) f.final ∧ ASlice W (.slice aa m ac) f.arcs) := fun W h => ⟨hf.below h, ha.below h⟩
  have hN1 := hok.n1
  have hN2 := hok.n2
  have hs0 := hok.s
  have hm3 : m ≤ 3000 := by have := hok.many; omega
  have hxh : x ≤ 1000000000000 := by have := ((toD_bounds hok).2 s0).2; omega
  have hxb : (x == -1) = false := by rw [beq_eq_false_iff_ne]; omega
  clear hx hok hf ha hal hc
  go_enter Try.func8, Try.ntmps8
  go_wp2_with (first | (go_at_call 44; refine hbs.mono ?_; rintro e w1 ⟨la, ln, lc, l, y, r, rfl, hl, hll, hbk, hway, hb1⟩; have HB0 : Hid (ISlice w1 (.slice la ln lc) l ∧ l.length = ln ∧ BackOk f N (toD f) y r ∧ WayL f y s0 l) := ⟨hl, hll, hbk, hway⟩; clear hl hll hbk hway; have hc1 := bel_on hb0 hb1; have hcf1 := hcf.below hb1) | (go_at_call 42; refine (shortBegun_any w1).mono ?_; rintro e w2 ⟨rfl, hb2⟩; have hc2 := bel_on hc1 hb2; have hcf2 := hcf1.below hb2) | (go_at_call 13; refine (scoreBegun_any w2).mono ?_; rintro e w3 ⟨rfl, hb3⟩; have hc3 := bel_on hc2 hb3; have hcf3 := hcf2.below hb3; obtain ⟨q0, q1, q2, q3⟩ := hcf3) | (go_at_call 18; refine (HCK.out w3 hc3).mono ?_; rintro e w4 ⟨rfl, hb4⟩; have hc4 := bel_on hc3 hb4; have hcf4 := (hcf2.below hb3).below hb4; obtain ⟨k0, k1', k2, k3⟩ := hcf4))
  refine (HSC.out w4 hc4).mono ?_
  rintro e w5 ⟨rfl, hb5⟩
  have hc5 := bel_on hc4 hb5
  obtain ⟨j0, j1, j2, j3⟩ := ((hcf2.below hb3).below hb4).below hb5
  have HC5 : Hid (∀ W, Below w5.heap.size w5 W → CellsF W w.heap.size (N : Int) (s0 : Int) (.slice fa fn fc) (.slice aa m ac) ∧ ISlice W (.slice la ln lc) l) := fun W h => ⟨(((hcf2.below hb3).below hb4).below hb5).below h, ((((HB0.out.1.below hb2).below hb3).below hb4).below hb5).below h⟩
  have hln : ln ≤ 20000 := by rw [← HB0.out.2.1]; obtain ⟨vs, v1, v2, v3⟩ := wayL_spots HB0.out.2.2.1 (fun a h => (HOK.out.arcs a h).2.1) _ s0 hs0 HB0.out.2.2.2; have := nodup_le N vs v2 (fun u hu => (v3 u hu).1); omega
  clear q0 q1 q2 q3 k0 k1' k2 k3 hbs
  subst hg hm1
  have hdb : (d.2.2 == 0) = false := by simpa using hd2
  clear hd2
  have hmk := run_make_row' (P := Try.prog) 61 4 (.bool false) 1 Try.underlying61 (by kernel_rfl : (Try.prog.info? 4).map (fun i => (i.zero, i.size, i.bytes)) = some (some (.bool false), 1, 1)) rfl .i64 .i64 N (by omega) (by omega)
  go_wp2_with (go_at_call 38; refine (HPU.out w5 hc5).mono ?_; rintro e w6 ⟨fa', fn', fc', ba', bn', bc', rfl, _, _, hb6⟩; have hu6 := bel_on hb6 (bel_up (bel_self w6) (.cells #[.int .i64 d.1.states, .int .i64 d.1.start, .slice fa' fn' fc', .slice ba' bn' bc'] 25)); obtain ⟨⟨q0, q1, q2, q3⟩, _⟩ := HC5.out _ hu6; have hmd := made_false (w6.alloc (.cells #[.int .i64 d.1.states, .int .i64 d.1.start, .slice fa' fn' fc', .slice ba' bn' bc'] 25)) N; have z1 := hmd.cell s0 hs0; have z2 := hmd.frz s0; rw [one_size] at z1 z2)
  have hmd1 := made_one (w6.alloc (.cells #[.int .i64 d.1.states, .int .i64 d.1.start, .slice fa' fn' fc', .slice ba' bn' bc'] 25)) N s0
  rw [one_size] at hmd1
  have HCW : Hid (∀ W, Below (w6.alloc (.cells #[.int .i64 d.1.states, .int .i64 d.1.start, .slice fa' fn' fc', .slice ba' bn' bc'] 25)).heap.size (w6.alloc (.cells #[.int .i64 d.1.states, .int .i64 d.1.start, .slice fa' fn' fc', .slice ba' bn' bc'] 25)) W → CellsF W w.heap.size (N : Int) (s0 : Int) (.slice fa fn fc) (.slice aa m ac) ∧ ISlice W (.slice la ln lc) l) := fun W h => HC5.out W (bel_on hu6 h)
  have HWW : Hid (Below w.heap.size w (w6.alloc (.cells #[.int .i64 d.1.states, .int .i64 d.1.start, .slice fa' fn' fc', .slice ba' bn' bc'] 25))) := bel_on hc5 hu6
  have HB1 : Hid (Below (w6.alloc (.cells #[.int .i64 d.1.states, .int .i64 d.1.start, .slice fa' fn' fc', .slice ba' bn' bc'] 25)).heap.size (w6.alloc (.cells #[.int .i64 d.1.states, .int .i64 d.1.start, .slice fa' fn' fc', .slice ba' bn' bc'] 25)) ((w6.alloc (.cells #[.int .i64 d.1.states, .int .i64 d.1.start, .slice fa' fn' fc', .slice ba' bn' bc'] 25)).alloc (.cells ((madeCells #[.bool false] N).setIfInBounds s0 (.bool true)) 4))) := bel_up (bel_self (w6.alloc (.cells #[.int .i64 d.1.states, .int .i64 d.1.start, .slice fa' fn' fc', .slice ba' bn' bc'] 25))) _
  clear q0 q1 q2 q3 z1 z2 hmk hmd hu6 hb6 j0 j1 j2 j3 hb1 hb2 hb3 hb4 hb5 hcf hcf1 hcf2 hc1 hc2 hc3 hc4
  generalize (w6.alloc (.cells #[.int .i64 d.1.states, .int .i64 d.1.start, .slice fa' fn' fc', .slice ba' bn' bc'] 25)).alloc (.cells ((madeCells #[.bool false] N).setIfInBounds s0 (.bool true)) 4) = W7 at *
  have HG0 : (w6.alloc (.cells #[.int .i64 d.1.states, .int .i64 d.1.start, .slice fa' fn' fc', .slice ba' bn' bc'] 25)).heap.size ≤ w6.heap.size + 1 := by rw [one_size]; exact Nat.le_refl _
  generalize (w6.alloc (.cells #[.int .i64 d.1.states, .int .i64 d.1.start, .slice fa' fn' fc', .slice ba' bn' bc'] 25)) = WW at *
  obtain ⟨G, hG⟩ : ∃ G, G = w6.heap.size + 1 := ⟨_, rfl⟩
  rw [← hG] at hmd1 HG0 ⊢
  have HG : Hid (WW.heap.size ≤ G) := HG0
  clear hG HG0
  have HRK : Hid (∀ u, u < N → decide (u = s0) = true → r s0 ≤ r u) := fun u _ h => by
    have e : u = s0 := of_decide_eq_true h
    subst e
    exact Nat.le_refl _
  go_loopw [17, 18, 20] (fun t17 t18 t20 wx => ∃ (k s : Nat) (cost : Int) (mb : Nat → Bool), k ≤ ln ∧ t17 = .int .i64 s ∧ t18 = .int .i64 cost ∧ t20 = .int .i64 k ∧ SbI f l y (toD f) r N x G s k cost mb WW wx) (fun _ _ t20 _ => ln - (intOf t20).toNat)
  case atStart => exact ⟨0, s0, 0, _, Nat.zero_le _, rfl, rfl, rfl, ⟨HB0.out.2.2.2, (by rw [HX.out]; omega), Int.le_refl _, (by rw [HX.out]; exact hx0), hs0, hmd1, HRK.out, HB1.out⟩⟩
  case round =>
    clear hmd1
    obtain ⟨k, s, cost, mb, hk, rfl, rfl, rfl, hI⟩ := hrel
    by_cases hlt : k < ln
    · have hR : SbR f l y (toD f) r N (N : Int) (s0 : Int) x (.slice fa fn fc) aa m ac la ln lc w.heap.size G s k cost mb WW wr := ⟨HOK.out.arcs, HB0.out.2.2.1, HAL.out, HB0.out.2.1, hN2, hm3, hln, hxh, hlt, HG.out, fun W h => ⟨(HCW.out W h).1, (HME.out W (bel_on HWW.out h)).2, (HCW.out W h).2⟩, hI⟩
      refine best_round (by kernel_rfl) hR ?_
      intros
      rename_i wx s' cost' mb' h17 h18 h20 hI'
      subst h17 h18 h20
      go_roundw
      case rel => first | exact ⟨_, _, _, _, _, _, _, _, _, _, _, _, _, _, _, _, _, _, _, _, _, _, _, _, _, _, _, _, _, _, _, _, _, _, _, _, _, _, _, _, _, _, _, _, _, _, _, _, _, _, _, _, _, _, _, _, _, _, _, _, _, _, _, _, ⟨k + 1, s', cost', mb', by omega, rfl, rfl, rfl, hI'⟩, rfl⟩ | exact ⟨_, _, _, _, _, _, _, _, _, _, _, _, _, _, _, _, _, _, _, _, _, _, _, _, _, _, _, _, _, _, _, _, _, _, _, _, _, _, _, _, _, _, _, _, _, _, _, _, _, _, _, _, _, _, _, _, _, _, _, _, _, _, _, _, _, ⟨k + 1, s', cost', mb', by omega, rfl, rfl, rfl, hI'⟩, rfl⟩
      case measure => simp [intOf]; omega
    · have hway := hI.way
      rw [List.drop_of_length_le (by have := HB0.out.2.1; omega)] at hway
      have hbel := hI.bel
      have hsN := hI.hs
      have hfin : gI (toD f) s = gI f.final s := by
        rcases HB0.out.2.2.1 s hsN with ⟨_, h⟩ | ⟨j, _, h, _⟩
        · exact h
        · rw [show gI y s = -1 from hway] at h; omega
      have hsum := hI.sum
      have ht0 := hI.t0
      have hc0 := hI.c0
      rw [hfin] at hsum ht0
      obtain ⟨v, hv⟩ : ∃ v, v = gI f.final s := ⟨_, rfl⟩
      rw [← hv] at hsum ht0
      have hfl : fn = N := by
        obtain ⟨_, _, _, he, hl, _⟩ := (HME.out WW HWW.out).1.lenOf
        injection he with h1 h2 h3
        rw [h2, ← hl, HOK.out.len]
      obtain ⟨fb, fo, rfl, hfx⟩ := (HME.out _ (bel_on HWW.out hbel)).1.some (by omega)
      have d0 := hfx.cell s (by omega)
      have e5 : f.final.getD s 0 = v := by
        have := HOK.out.len
        rw [hv]
        unfold gI
        simp [List.getD, show s < f.final.length by omega]
      rw [e5] at d0
      obtain ⟨q0, q1, q2, q3⟩ := (HCW.out _ hbel).1
      have hnl : ¬ ((k : Int) < ln) := by omega
      have hcw : IntKind.i64.wrap (cost + v) = x := by rw [hsum]; exact wrap_in _ (by omega) (by omega)
      have hvb : (v != -1) = true := by rw [bne_iff_ne]; omega
      have hsi : (s : Int) < fn := by omega
      have HFIN : Hid (Below w.heap.size w wr) := bel_on HWW.out hbel
      clear hI hway hbel hfin hsum ht0 hc0 hv hfx e5
      subst hfl
      go_wp2
      go_ret
      exact ⟨rfl, HFIN.out⟩

set_option maxHeartbeats 4000000 in
set_option maxRecDepth 100000 in
theorem sbest_g3 (f : FstD) (N s0 : Nat) (fa : Option Addr) (fn fc : Nat) (aa : Option Addr) (m ac : Nat) (ia : Option Addr) (il ic : Nat) (oa : Option Addr) (ol oc : Nat) (w : World) (hok : OkF f N s0) (hf : ISlice w (.slice fa fn fc) f.final) (ha : ASlice w (.slice aa m ac) f.arcs) (hal : f.arcs.length = m) (hc : checkD f = 0) (x : Int) (hx : gI (toD f) s0 = x) (hx0 : 0 ≤ x) (m1 g : Int)
    (HSC : Hid (∀ W, Below w.heap.size w W → Calls Try.prog 10 #[.agg #[.int .i64 (N : Int), .int .i64 (s0 : Int), .slice fa fn fc, .slice aa m ac], .slice ia il ic, .slice oa ol oc] W fun e w' => e = .returned (.tuple #[.int .i64 m1, .int .i64 g]) ∧ Below W.heap.size W w'))
    (d : FstD × Int × Int) (HPU : Hid (∀ W, Below w.heap.size w W → Calls Try.prog 38 #[.agg #[.int .i64 (N : Int), .int .i64 (s0 : Int), .slice fa fn fc, .slice aa m ac]] W fun e w' => PushRes W d e w'))
    (hg : g = 0) (hm1 : 0 ≤ m1) (hxm : x ≤ m1) (hd2 : d.2.2 ≠ 0) :
    Calls Try.prog 8 #[.agg #[.int .i64 (N : Int), .int .i64 (s0 : Int), .slice fa fn fc, .slice aa m ac], .slice ia il ic, .slice oa ol oc] w fun e w' => e = .returned (.bool true) ∧ Below w.heap.size w w' := by
  have hb0 := bel_up (bel_self w) (.cells #[.int .i64 (N : Int), .int .i64 (s0 : Int), .slice fa fn fc, .slice aa m ac] 25)
  have hcf := cellsF_new w (N : Int) (s0 : Int) (.slice fa fn fc) (.slice aa m ac) 25
  have hbs := best_ok f N s0 _ aa m ac _ hok (hf.below hb0) (ha.below hb0) hal hc x hx
  rw [hok.st, hok.sta] at hbs
  have HCK : Hid (∀ W, Below w.heap.size w W → Calls Try.prog 18 #[.agg #[.int .i64 (N : Int), .int .i64 (s0 : Int), .slice fa fn fc, .slice aa m ac]] W fun e w' => e = .returned (.int .i64 0) ∧ Below W.heap.size W w') := fun W hb => by
    have := checkFst_any f _ _ W (hf.below hb) (ha.below hb)
    rw [hc, hok.st, hok.sta] at this
    exact this
  have HX : Hid (gI (toD f) s0 = x) := hx
  have HOK : Hid (OkF f N s0) := hok
  have HAL : Hid (f.arcs.length = m) := hal
  have HME : Hid (∀ W, Below w.heap.size w W → ISlice W (.slice fa fn fc) f.final ∧ ASlice W (.slice aa m ac) f.arcs) := fun W h => ⟨hf.below h, ha.below h⟩
  have hN1 := hok.n1
  have hN2 := hok.n2
  have hs0 := hok.s
  have hm3 : m ≤ 3000 := by have := hok.many; omega
  have hxh : x ≤ 1000000000000 := by have := ((toD_bounds hok).2 s0).2; omega
  have hxb : (x == -1) = false := by rw [beq_eq_false_iff_ne]; omega
  clear hx hok hf ha hal hc
  go_enter Try.func8, Try.ntmps8
  go_wp2_with (first | (go_at_call 44; refine hbs.mono ?_; rintro e w1 ⟨la, ln, lc, l, y, r, rfl, hl, hll, hbk, hway, hb1⟩; have HB0 : Hid (ISlice w1 (.slice la ln lc) l ∧ l.length = ln ∧ BackOk f N (toD f) y r ∧ WayL f y s0 l) := ⟨hl, hll, hbk, hway⟩; clear hl hll hbk hway; have hc1 := bel_on hb0 hb1; have hcf1 := hcf.below hb1) | (go_at_call 42; refine (shortBegun_any w1).mono ?_; rintro e w2 ⟨rfl, hb2⟩; have hc2 := bel_on hc1 hb2; have hcf2 := hcf1.below hb2) | (go_at_call 13; refine (scoreBegun_any w2).mono ?_; rintro e w3 ⟨rfl, hb3⟩; have hc3 := bel_on hc2 hb3; have hcf3 := hcf2.below hb3; obtain ⟨q0, q1, q2, q3⟩ := hcf3) | (go_at_call 18; refine (HCK.out w3 hc3).mono ?_; rintro e w4 ⟨rfl, hb4⟩; have hc4 := bel_on hc3 hb4; have hcf4 := (hcf2.below hb3).below hb4; obtain ⟨k0, k1', k2, k3⟩ := hcf4))
  refine (HSC.out w4 hc4).mono ?_
  rintro e w5 ⟨rfl, hb5⟩
  have hc5 := bel_on hc4 hb5
  obtain ⟨j0, j1, j2, j3⟩ := ((hcf2.below hb3).below hb4).below hb5
  have HC5 : Hid (∀ W, Below w5.heap.size w5 W → CellsF W w.heap.size (N : Int) (s0 : Int) (.slice fa fn fc) (.slice aa m ac) ∧ ISlice W (.slice la ln lc) l) := fun W h => ⟨(((hcf2.below hb3).below hb4).below hb5).below h, ((((HB0.out.1.below hb2).below hb3).below hb4).below hb5).below h⟩
  have hln : ln ≤ 20000 := by rw [← HB0.out.2.1]; obtain ⟨vs, v1, v2, v3⟩ := wayL_spots HB0.out.2.2.1 (fun a h => (HOK.out.arcs a h).2.1) _ s0 hs0 HB0.out.2.2.2; have := nodup_le N vs v2 (fun u hu => (v3 u hu).1); omega
  clear q0 q1 q2 q3 k0 k1' k2 k3 hbs
  subst hg
  have hmb : (m1 != -1) = true := by rw [bne_iff_ne]; omega
  have hml : ¬ m1 < x := by omega
  have hml2 : decide (m1 < x) = false := decide_eq_false hml
  have hdb : (d.2.2 == 0) = false := by simpa using hd2
  clear hd2 hm1
  have hmk := run_make_row' (P := Try.prog) 61 4 (.bool false) 1 Try.underlying61 (by kernel_rfl : (Try.prog.info? 4).map (fun i => (i.zero, i.size, i.bytes)) = some (some (.bool false), 1, 1)) rfl .i64 .i64 N (by omega) (by omega)
  go_wp2_with (go_at_call 38; refine (HPU.out w5 hc5).mono ?_; rintro e w6 ⟨fa', fn', fc', ba', bn', bc', rfl, _, _, hb6⟩; have hu6 := bel_on hb6 (bel_up (bel_self w6) (.cells #[.int .i64 d.1.states, .int .i64 d.1.start, .slice fa' fn' fc', .slice ba' bn' bc'] 25)); obtain ⟨⟨q0, q1, q2, q3⟩, _⟩ := HC5.out _ hu6; have hmd := made_false (w6.alloc (.cells #[.int .i64 d.1.states, .int .i64 d.1.start, .slice fa' fn' fc', .slice ba' bn' bc'] 25)) N; have z1 := hmd.cell s0 hs0; have z2 := hmd.frz s0; rw [one_size] at z1 z2)
  have hmd1 := made_one (w6.alloc (.cells #[.int .i64 d.1.states, .int .i64 d.1.start, .slice fa' fn' fc', .slice ba' bn' bc'] 25)) N s0
  rw [one_size] at hmd1
  have HCW : Hid (∀ W, Below (w6.alloc (.cells #[.int .i64 d.1.states, .int .i64 d.1.start, .slice fa' fn' fc', .slice ba' bn' bc'] 25)).heap.size (w6.alloc (.cells #[.int .i64 d.1.states, .int .i64 d.1.start, .slice fa' fn' fc', .slice ba' bn' bc'] 25)) W → CellsF W w.heap.size (N : Int) (s0 : Int) (.slice fa fn fc) (.slice aa m ac) ∧ ISlice W (.slice la ln lc) l) := fun W h => HC5.out W (bel_on hu6 h)
  have HWW : Hid (Below w.heap.size w (w6.alloc (.cells #[.int .i64 d.1.states, .int .i64 d.1.start, .slice fa' fn' fc', .slice ba' bn' bc'] 25))) := bel_on hc5 hu6
  have HB1 : Hid (Below (w6.alloc (.cells #[.int .i64 d.1.states, .int .i64 d.1.start, .slice fa' fn' fc', .slice ba' bn' bc'] 25)).heap.size (w6.alloc (.cells #[.int .i64 d.1.states, .int .i64 d.1.start, .slice fa' fn' fc', .slice ba' bn' bc'] 25)) ((w6.alloc (.cells #[.int .i64 d.1.states, .int .i64 d.1.start, .slice fa' fn' fc', .slice ba' bn' bc'] 25)).alloc (.cells ((madeCells #[.bool false] N).setIfInBounds s0 (.bool true)) 4))) := bel_up (bel_self (w6.alloc (.cells #[.int .i64 d.1.states, .int .i64 d.1.start, .slice fa' fn' fc', .slice ba' bn' bc'] 25))) _
  clear q0 q1 q2 q3 z1 z2 hmk hmd hu6 hb6 j0 j1 j2 j3 hb1 hb2 hb3 hb4 hb5 hcf hcf1 hcf2 hc1 hc2 hc3 hc4
  generalize (w6.alloc (.cells #[.int .i64 d.1.states, .int .i64 d.1.start, .slice fa' fn' fc', .slice ba' bn' bc'] 25)).alloc (.cells ((madeCells #[.bool false] N).setIfInBounds s0 (.bool true)) 4) = W7 at *
  have HG0 : (w6.alloc (.cells #[.int .i64 d.1.states, .int .i64 d.1.start, .slice fa' fn' fc', .slice ba' bn' bc'] 25)).heap.size ≤ w6.heap.size + 1 := by rw [one_size]; exact Nat.le_refl _
  generalize (w6.alloc (.cells #[.int .i64 d.1.states, .int .i64 d.1.start, .slice fa' fn' fc', .slice ba' bn' bc'] 25)) = WW at *
  obtain ⟨G, hG⟩ : ∃ G, G = w6.heap.size + 1 := ⟨_, rfl⟩
  rw [← hG] at hmd1 HG0 ⊢
  have HG : Hid (WW.heap.size ≤ G) := HG0
  clear hG HG0
  have HRK : Hid (∀ u, u < N → decide (u = s0) = true → r s0 ≤ r u) := fun u _ h => by
    have e : u = s0 := of_decide_eq_true h
    subst e
    exact Nat.le_refl _
  go_loopw [17, 18, 20] (fun t17 t18 t20 wx => ∃ (k s : Nat) (cost : Int) (mb : Nat → Bool), k ≤ ln ∧ t17 = .int .i64 s ∧ t18 = .int .i64 cost ∧ t20 = .int .i64 k ∧ SbI f l y (toD f) r N x G s k cost mb WW wx) (fun _ _ t20 _ => ln - (intOf t20).toNat)
  case atStart => exact ⟨0, s0, 0, _, Nat.zero_le _, rfl, rfl, rfl, ⟨HB0.out.2.2.2, (by rw [HX.out]; omega), Int.le_refl _, (by rw [HX.out]; exact hx0), hs0, hmd1, HRK.out, HB1.out⟩⟩
  case round =>
    clear hmd1
    obtain ⟨k, s, cost, mb, hk, rfl, rfl, rfl, hI⟩ := hrel
    by_cases hlt : k < ln
    · have hR : SbR f l y (toD f) r N (N : Int) (s0 : Int) x (.slice fa fn fc) aa m ac la ln lc w.heap.size G s k cost mb WW wr := ⟨HOK.out.arcs, HB0.out.2.2.1, HAL.out, HB0.out.2.1, hN2, hm3, hln, hxh, hlt, HG.out, fun W h => ⟨(HCW.out W h).1, (HME.out W (bel_on HWW.out h)).2, (HCW.out W h).2⟩, hI⟩
      refine best_round (by kernel_rfl) hR ?_
      intros
      rename_i wx s' cost' mb' h17 h18 h20 hI'
      subst h17 h18 h20
      go_roundw
      case rel => first | exact ⟨_, _, _, _, _, _, _, _, _, _, _, _, _, _, _, _, _, _, _, _, _, _, _, _, _, _, _, _, _, _, _, _, _, _, _, _, _, _, _, _, _, _, _, _, _, _, _, _, _, _, _, _, _, _, _, _, _, _, _, _, _, _, _, _, ⟨k + 1, s', cost', mb', by omega, rfl, rfl, rfl, hI'⟩, rfl⟩ | exact ⟨_, _, _, _, _, _, _, _, _, _, _, _, _, _, _, _, _, _, _, _, _, _, _, _, _, _, _, _, _, _, _, _, _, _, _, _, _, _, _, _, _, _, _, _, _, _, _, _, _, _, _, _, _, _, _, _, _, _, _, _, _, _, _, _, _, ⟨k + 1, s', cost', mb', by omega, rfl, rfl, rfl, hI'⟩, rfl⟩
      case measure => simp [intOf]; omega
    · have hway := hI.way
      rw [List.drop_of_length_le (by have := HB0.out.2.1; omega)] at hway
      have hbel := hI.bel
      have hsN := hI.hs
      have hfin : gI (toD f) s = gI f.final s := by
        rcases HB0.out.2.2.1 s hsN with ⟨_, h⟩ | ⟨j, _, h, _⟩
        · exact h
        · rw [show gI y s = -1 from hway] at h; omega
      have hsum := hI.sum
      have ht0 := hI.t0
      have hc0 := hI.c0
      rw [hfin] at hsum ht0
      obtain ⟨v, hv⟩ : ∃ v, v = gI f.final s := ⟨_, rfl⟩
      rw [← hv] at hsum ht0
      have hfl : fn = N := by
        obtain ⟨_, _, _, he, hl, _⟩ := (HME.out WW HWW.out).1.lenOf
        injection he with h1 h2 h3
        rw [h2, ← hl, HOK.out.len]
      obtain ⟨fb, fo, rfl, hfx⟩ := (HME.out _ (bel_on HWW.out hbel)).1.some (by omega)
      have d0 := hfx.cell s (by omega)
      have e5 : f.final.getD s 0 = v := by
        have := HOK.out.len
        rw [hv]
        unfold gI
        simp [List.getD, show s < f.final.length by omega]
      rw [e5] at d0
      obtain ⟨q0, q1, q2, q3⟩ := (HCW.out _ hbel).1
      have hnl : ¬ ((k : Int) < ln) := by omega
      have hcw : IntKind.i64.wrap (cost + v) = x := by rw [hsum]; exact wrap_in _ (by omega) (by omega)
      have hvb : (v != -1) = true := by rw [bne_iff_ne]; omega
      have hsi : (s : Int) < fn := by omega
      have HFIN : Hid (Below w.heap.size w wr) := bel_on HWW.out hbel
      clear hI hway hbel hfin hsum ht0 hc0 hv hfx e5
      subst hfl
      go_wp2
      go_ret
      exact ⟨rfl, HFIN.out⟩
end Go.Proofs.Yteehgcbjmdideaa
