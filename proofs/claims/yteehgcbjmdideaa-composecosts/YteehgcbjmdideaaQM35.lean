/- The law 'ComposeCosts': what is composed is too great, by what it costs. (Made by wip/gen/cpz.py.) -/
import Derived.Test.YteehgcbjmdideaaQM34
import Derived.Test.YteehgcbjmdideaaQCheckF
import Derived.ProofKit
import Derived.OpenShut
import Derived.Deep.Slices
import Derived.Lib.SmallJoins
import Derived.ChangeArms
namespace Go.Proofs.Yteehgcbjmdideaa
open Go.RowKit
attribute [local go_sem ↓] Go.wp_at_zero Go.wp_at_succ
set_option maxRecDepth 100000

set_option maxHeartbeats 3200000 in
theorem ccosts_g3 (f g : FstD) (ins btw outs : List Int) (fa : Option Addr) (fn fc : Nat) (aa : Option Addr) (m ac : Nat) (ga : Option Addr) (gn gc : Nat) (ca : Option Addr) (mc cc : Nat) (ia : Option Addr) (il ic : Nat) (ba : Option Addr) (bl bc : Nat) (oa : Option Addr) (ol oc : Nat) (w : World)
    (hf : ISlice w (.slice fa fn fc) f.final) (ha : ASlice w (.slice aa m ac) f.arcs) (hf' : ISlice w (.slice ga gn gc) g.final) (ha' : ASlice w (.slice ca mc cc) g.arcs) (hI : ISlice w (.slice ia il ic) ins) (hB : ISlice w (.slice ba bl bc) btw) (hO : ISlice w (.slice oa ol oc) outs)
    (_hal : f.arcs.length = m) (_hal' : g.arcs.length = mc) (_hil : ins.length = il) (_hol : outs.length = ol) (hl1 : f.states ≤ 12) (hl2 : g.states ≤ 12) (hl3 : m ≤ 100) (hl4 : mc ≤ 100) (hg1 : 1 ≤ f.states) (hg2 : 1 ≤ g.states) (hc1 : checkD f = 0) (hc2 : checkD g = 0) (hE : ∀ X u, CmpRes f g X u → X = ⟨0, 0, [], []⟩ ∧ u = 2) (kf : Fine f) (kg : Fine g) (hP : ¬ 200 < 3 * f.states * g.states) (hS : ¬ 3000 < 3 * ((m : Int) * (mc : Int) + (m : Int) * g.states + (mc : Int) * f.states)) (hxy : ∀ x y : Int, 0 ≤ x → 0 ≤ y → (∀ a ∈ f.arcs, a.wt ≤ x) → (∀ v ∈ f.final, v ≤ x) → (∀ a ∈ g.arcs, a.wt ≤ y) → (∀ v ∈ g.final, v ≤ y) → 1000000000 < x + y) :
    Calls Try.prog 6 #[.agg #[.int .i64 f.states, .int .i64 f.start, .slice fa fn fc, .slice aa m ac], .agg #[.int .i64 g.states, .int .i64 g.start, .slice ga gn gc, .slice ca mc cc], .slice ia il ic, .slice ba bl bc, .slice oa ol oc] w fun e w' => e = .returned (.bool true) ∧ Below w.heap.size w w' := by
  have HXY : Hid (∀ x y : Int, 0 ≤ x → 0 ≤ y → (∀ a ∈ f.arcs, a.wt ≤ x) → (∀ v ∈ f.final, v ≤ x) → (∀ a ∈ g.arcs, a.wt ≤ y) → (∀ v ∈ g.final, v ≤ y) → 1000000000 < x + y) := hxy
  have HK : Hid (Fine f ∧ Fine g) := ⟨kf, kg⟩
  clear hxy kf kg
  have x1 : IntKind.i64.wrap (3 * f.states) = 3 * f.states := wrap_in _ (by omega) (by omega)
  obtain ⟨V, hV⟩ : ∃ V, 3 * f.states * g.states = V := ⟨_, rfl⟩
  have hV2 : V ≤ 36 * 12 := by
    rw [← hV]
    exact Int.le_trans (Int.mul_le_mul_of_nonneg_right (by omega) (by omega)) (Int.mul_le_mul_of_nonneg_left hl2 (by omega))
  have hV0 : 0 ≤ V := by rw [← hV]; exact Int.mul_nonneg (by omega) (by omega)
  rw [hV] at hP
  have x2 : IntKind.i64.wrap V = V := wrap_in _ (by omega) (by omega)
  have hPd : decide (200 < V) = false := decide_eq_false hP
  obtain ⟨P1, hP1⟩ : ∃ P, (m : Int) * (mc : Int) = P := ⟨_, rfl⟩
  obtain ⟨P2, hP2⟩ : ∃ P, (m : Int) * g.states = P := ⟨_, rfl⟩
  obtain ⟨P3, hP3⟩ : ∃ P, (mc : Int) * f.states = P := ⟨_, rfl⟩
  rw [hP1, hP2, hP3] at hS
  have y1 : 0 ≤ P1 ∧ P1 ≤ 100 * 100 := by
    rw [← hP1]
    exact ⟨Int.mul_nonneg (by omega) (by omega), Int.le_trans (Int.mul_le_mul_of_nonneg_right (by omega) (by omega)) (Int.mul_le_mul_of_nonneg_left (by omega) (by omega))⟩
  have y2 : 0 ≤ P2 ∧ P2 ≤ 100 * 12 := by
    rw [← hP2]
    exact ⟨Int.mul_nonneg (by omega) (by omega), Int.le_trans (Int.mul_le_mul_of_nonneg_right (by omega) (by omega)) (Int.mul_le_mul_of_nonneg_left (by omega) (by omega))⟩
  have y3 : 0 ≤ P3 ∧ P3 ≤ 100 * 12 := by
    rw [← hP3]
    exact ⟨Int.mul_nonneg (by omega) (by omega), Int.le_trans (Int.mul_le_mul_of_nonneg_right (by omega) (by omega)) (Int.mul_le_mul_of_nonneg_left (by omega) (by omega))⟩
  have x3 : IntKind.i64.wrap P1 = P1 := wrap_in _ (by omega) (by omega)
  have x4 : IntKind.i64.wrap P2 = P2 := wrap_in _ (by omega) (by omega)
  have x5 : IntKind.i64.wrap P3 = P3 := wrap_in _ (by omega) (by omega)
  have x6 : IntKind.i64.wrap (P1 + P2) = P1 + P2 := wrap_in _ (by omega) (by omega)
  have x7 : IntKind.i64.wrap (P1 + P2 + P3) = P1 + P2 + P3 := wrap_in _ (by omega) (by omega)
  have x8 : IntKind.i64.wrap (3 * (P1 + P2 + P3)) = 3 * (P1 + P2 + P3) := wrap_in _ (by omega) (by omega)
  have hSd : decide (3000 < 3 * (P1 + P2 + P3)) = false := decide_eq_false hS
  clear y1 y2 y3 hV0 hV2 hP hS
  have HE : Hid (∀ X u, CmpRes f g X u → X = ⟨0, 0, [], []⟩ ∧ u = 2) := hE
  have HC : Hid (twoD f g = 0) := by
    show twoD f g = 0
    unfold twoD
    rw [if_pos hc1, hc2]
  have n1 : ¬ 12 < f.states := by omega
  have n2 : ¬ 12 < g.states := by omega
  have n3 : ¬ (100 : Int) < (m : Int) := by omega
  have n4 : ¬ (100 : Int) < (mc : Int) := by omega
  clear hc1 hc2 hE
  obtain ⟨A, hA⟩ : ∃ A, A = (w.alloc (.cells #[.int .i64 f.states, .int .i64 f.start, .slice fa fn fc, .slice aa m ac] 25)).alloc (.cells #[.int .i64 g.states, .int .i64 g.start, .slice ga gn gc, .slice ca mc cc] 25) := ⟨_, rfl⟩
  have hb0 : Below w.heap.size w A := by rw [hA]; exact two_up w _ _
  have hqf : CellsF A w.heap.size f.states f.start (.slice fa fn fc) (.slice aa m ac) := by rw [hA]; exact (cellsF_new w _ _ _ _ _).below (bel_up (bel_self _) _)
  have hqg : CellsF A (w.heap.size + 1) g.states g.start (.slice ga gn gc) (.slice ca mc cc) := by rw [hA]; exact cellsF_at _ _ _ _ _ _ _ (one_size w _)
  have HQ : Hid (∀ W, Below A.heap.size A W → CellsF W w.heap.size f.states f.start (.slice fa fn fc) (.slice aa m ac) ∧ CellsF W (w.heap.size + 1) g.states g.start (.slice ga gn gc) (.slice ca mc cc)) := fun W h => ⟨hqf.below h, hqg.below h⟩
  have HM : Hid (∀ W, Below A.heap.size A W → (ISlice W (.slice fa fn fc) f.final ∧ ASlice W (.slice aa m ac) f.arcs) ∧ (ISlice W (.slice ga gn gc) g.final ∧ ASlice W (.slice ca mc cc) g.arcs) ∧ ISlice W (.slice ia il ic) ins ∧ ISlice W (.slice ba bl bc) btw ∧ ISlice W (.slice oa ol oc) outs) := fun W h =>
    have k := bel_on hb0 h
    ⟨⟨hf.below k, ha.below k⟩, ⟨hf'.below k, ha'.below k⟩, hI.below k, hB.below k, hO.below k⟩
  have hcmp := compose_any f g _ _ _ _ A (hf.below hb0) (ha.below hb0) (hf'.below hb0) (ha'.below hb0)
  have HA : Hid (A = (w.alloc (.cells #[.int .i64 f.states, .int .i64 f.start, .slice fa fn fc, .slice aa m ac] 25)).alloc (.cells #[.int .i64 g.states, .int .i64 g.start, .slice ga gn gc, .slice ca mc cc] 25)) := hA
  obtain ⟨p0, p1, p2, p3⟩ := hqf
  obtain ⟨r0, r1, r2, r3⟩ := hqg
  clear hA hf ha hf' ha' hI hB hO
  go_enter Try.func6, Try.ntmps6
  go_wp2_with fail
  rw [← HA.out]
  clear HA
  refine hcmp.mono ?_
  clear hcmp
  rintro e w1 ⟨X, u, hR, xa, xn, xc, ya, yn, yc, rfl, hIX, hAX, hb1⟩
  obtain ⟨rfl, rfl⟩ := HE.out X u hR
  clear hR HE
  obtain ⟨w2, hw2⟩ : ∃ w2, w2 = w1.alloc (.cells #[.int .i64 0, .int .i64 0, .slice xa xn xc, .slice ya yn yc] 25) := ⟨_, rfl⟩
  obtain ⟨D, hD⟩ : ∃ D, D = w1.heap.size := ⟨_, rfl⟩
  have hb2 : Below A.heap.size A w2 := by rw [hw2]; exact bel_up hb1 _
  have hu2 : Below w1.heap.size w1 w2 := by rw [hw2]; exact bel_up (bel_self w1) _
  have hqx : CellsF w2 D 0 0 (.slice xa xn xc) (.slice ya yn yc) := by rw [hw2, hD]; exact cellsF_new w1 _ _ _ _ _
  have HX : Hid (∀ W, Below w2.heap.size w2 W → CellsF W D 0 0 (.slice xa xn xc) (.slice ya yn yc)) := fun W h => hqx.below h
  have htwo := checkTwo_any f g _ _ _ _ w2 (HM.out w2 hb2).1.1 (HM.out w2 hb2).1.2 (HM.out w2 hb2).2.1.1 (HM.out w2 hb2).2.1.2 _ HC.out
  have HW2 : Hid (w2 = w1.alloc (.cells #[.int .i64 0, .int .i64 0, .slice xa xn xc, .slice ya yn yc] 25) ∧ D = w1.heap.size) := ⟨hw2, hD⟩
  obtain ⟨⟨s0, s1, s2, s3⟩, ⟨t0, t1, t2, t3⟩⟩ := HQ.out w1 hb1
  obtain ⟨⟨s0', s1', s2', s3'⟩, ⟨t0', t1', t2', t3'⟩⟩ := HQ.out (w1.alloc (.cells #[.int .i64 0, .int .i64 0, .slice xa xn xc, .slice ya yn yc] 25)) (bel_up hb1 _)
  clear hw2 hD hqx
  go_wp2_with fail
  rw [← HW2.out.1, ← HW2.out.2]
  clear HW2 s0 s1 s2 s3 t0 t1 t2 t3 p0 p1 p2 p3 r0 r1 r2 r3
  refine htwo.mono ?_
  rintro e w3 ⟨rfl, hb3⟩
  have hb3' := bel_on hb2 hb3
  obtain ⟨⟨s0, s1, s2, s3⟩, ⟨t0, t1, t2, t3⟩⟩ := HQ.out w3 hb3'
  clear htwo s0' s1' s2' s3' t0' t1' t2' t3'
  clear HC
  go_wp2_with (first | (go_at_call 33; refine (composeBegun_any _).mono ?_; rintro e w4 ⟨rfl, hb4⟩; clear s0 s1 s2 s3 t0 t1 t2 t3) | (go_at_call 13; refine (scoreBegun_any _).mono ?_; rintro e w5 ⟨rfl, hb5⟩; have hx5 := HX.out w5 (bel_on (bel_on hb3 hb4) hb5); obtain ⟨v0, v1, v2, v3⟩ := hx5))
  have hb5' : Below w2.heap.size w2 w5 := bel_on (bel_on hb3 hb4) hb5
  obtain ⟨⟨s0, s1, s2, s3⟩, ⟨t0, t1, t2, t3⟩⟩ := HQ.out w5 (bel_on hb2 hb5')
  obtain ⟨Wd, hWd⟩ : ∃ Wd, Wd = w5.drew := ⟨_, rfl⟩
  have hbd : Below w2.heap.size w2 Wd := by rw [hWd]; exact hb5'.drew
  have HWD : Hid (Wd = w5.drew) := hWd
  have HS : Hid (∀ wx, Below w2.heap.size w2 wx → CellsF wx D 0 0 (.slice xa xn xc) (.slice ya yn yc) ∧ CellsF wx w.heap.size f.states f.start (.slice fa fn fc) (.slice aa m ac) ∧ CellsF wx (w.heap.size + 1) g.states g.start (.slice ga gn gc) (.slice ca mc cc)) := fun W h => ⟨HX.out W h, (HQ.out W (bel_on hb2 h)).1, (HQ.out W (bel_on hb2 h)).2⟩
  have hS0 : (fun wx : World => CellsF wx D 0 0 (.slice xa xn xc) (.slice ya yn yc) ∧ CellsF wx w.heap.size f.states f.start (.slice fa fn fc) (.slice aa m ac) ∧ CellsF wx (w.heap.size + 1) g.states g.start (.slice ga gn gc) (.slice ca mc cc)) Wd := HS.out Wd hbd
  have hmf := mostWeight_any f _ _ Wd HK.out.1 (HM.out Wd (bel_on hb2 hbd)).1.1 (HM.out Wd (bel_on hb2 hbd)).1.2
  clear hWd v0 v1 v2 v3 s0 s1 s2 s3 t0 t1 t2 t3
  refine wp_region_noPanic ?_
  refine wp_region_F (fun wx : World => CellsF wx D 0 0 (.slice xa xn xc) (.slice ya yn yc) ∧ CellsF wx w.heap.size f.states f.start (.slice fa fn fc) (.slice aa m ac) ∧ CellsF wx (w.heap.size + 1) g.states g.start (.slice ga gn gc) (.slice ca mc cc)) [] (by kernel_rfl) (by rw [← HWD.out]; exact hS0) (fun _ => ?_)
  rw [← HWD.out]
  clear HWD
  refine wpAnyF_take (i := 0) (v := .int .i64 2) rfl (by kernel_rfl) (by kernel_rfl) (by kernel_rfl) (by kernel_rfl) (fun _ _ _ h => h) (Or.inl ⟨by rfl, fun wl hSw => ?_⟩) hS0 ?_
  · obtain ⟨⟨z0, z1, z2, z3⟩, ⟨y0, y1, y2, y3⟩, ⟨u0, u1, u2, u3⟩⟩ := hSw; go_simp
  go_simp
  refine wpAnyF_take (i := 1) (v := .bool true) rfl (by kernel_rfl) (by kernel_rfl) (by kernel_rfl) (by kernel_rfl) (fun _ _ _ h => h) (Or.inl ⟨by rfl, fun wl hSw => ?_⟩) hS0 ?_
  · obtain ⟨⟨z0, z1, z2, z3⟩, ⟨y0, y1, y2, y3⟩, ⟨u0, u1, u2, u3⟩⟩ := hSw; go_simp
  go_simp
  refine wpAnyF_take (i := 2) (v := .bool true) rfl (by kernel_rfl) (by kernel_rfl) (by kernel_rfl) (by kernel_rfl) (fun _ _ _ h => h) (Or.inl ⟨by rfl, fun wl hSw => ?_⟩) hS0 ?_
  · obtain ⟨⟨z0, z1, z2, z3⟩, ⟨y0, y1, y2, y3⟩, ⟨u0, u1, u2, u3⟩⟩ := hSw; go_simp
  go_simp
  refine wpAnyF_take (i := 3) (v := .pointer (some ⟨D, 0, none⟩)) rfl (by kernel_rfl) (by kernel_rfl) (by kernel_rfl) (by kernel_rfl) (fun _ _ _ h => h) (Or.inl ⟨by rfl, fun wl hSw => ?_⟩) hS0 ?_
  · obtain ⟨⟨z0, z1, z2, z3⟩, ⟨y0, y1, y2, y3⟩, ⟨u0, u1, u2, u3⟩⟩ := hSw; go_simp
  go_simp
  refine wpAnyF_take (i := 4) (v := .int .i64 0) rfl (by kernel_rfl) (by kernel_rfl) (by kernel_rfl) (by kernel_rfl) (fun _ _ _ h => h) (Or.inl ⟨by rfl, fun wl hSw => ?_⟩) hS0 ?_
  · obtain ⟨⟨z0, z1, z2, z3⟩, ⟨y0, y1, y2, y3⟩, ⟨u0, u1, u2, u3⟩⟩ := hSw; go_simp
  go_simp
  refine wpAnyF_take (i := 5) (v := .bool true) rfl (by kernel_rfl) (by kernel_rfl) (by kernel_rfl) (by kernel_rfl) (fun _ _ _ h => h) (Or.inl ⟨by rfl, fun wl hSw => ?_⟩) hS0 ?_
  · obtain ⟨⟨z0, z1, z2, z3⟩, ⟨y0, y1, y2, y3⟩, ⟨u0, u1, u2, u3⟩⟩ := hSw; go_simp
  go_simp
  refine wpAnyF_take (i := 6) (v := .bool true) rfl (by kernel_rfl) (by kernel_rfl) (by kernel_rfl) (by kernel_rfl) (fun _ _ _ h => h) (Or.inl ⟨by rfl, fun wl hSw => ?_⟩) hS0 ?_
  · obtain ⟨⟨z0, z1, z2, z3⟩, ⟨y0, y1, y2, y3⟩, ⟨u0, u1, u2, u3⟩⟩ := hSw; go_simp
  go_simp
  refine wpAnyF_take (i := 7) (v := .bool true) rfl (by kernel_rfl) (by kernel_rfl) (by kernel_rfl) (by kernel_rfl) (fun _ _ _ h => h) (Or.inl ⟨by rfl, fun wl hSw => ?_⟩) hS0 ?_
  · obtain ⟨⟨z0, z1, z2, z3⟩, ⟨y0, y1, y2, y3⟩, ⟨u0, u1, u2, u3⟩⟩ := hSw; go_simp
  go_simp
  refine wpAnyF_take (i := 8) (v := .pointer (some ⟨w.heap.size, 0, none⟩)) rfl (by kernel_rfl) (by kernel_rfl) (by kernel_rfl) (by kernel_rfl) (fun _ _ _ h => h) (Or.inl ⟨by rfl, fun wl hSw => ?_⟩) hS0 ?_
  · obtain ⟨⟨z0, z1, z2, z3⟩, ⟨y0, y1, y2, y3⟩, ⟨u0, u1, u2, u3⟩⟩ := hSw; go_simp
  go_simp
  refine wpAnyF_take (i := 9) (v := .int .i64 f.states) rfl (by kernel_rfl) (by kernel_rfl) (by kernel_rfl) (by kernel_rfl) (fun _ _ _ h => h) (Or.inl ⟨by rfl, fun wl hSw => ?_⟩) hS0 ?_
  · obtain ⟨⟨z0, z1, z2, z3⟩, ⟨y0, y1, y2, y3⟩, ⟨u0, u1, u2, u3⟩⟩ := hSw; go_simp
  go_simp
  refine wpAnyF_take (i := 10) (v := .int .i64 (3 * f.states)) rfl (by kernel_rfl) (by kernel_rfl) (by kernel_rfl) (by kernel_rfl) (fun _ _ _ h => h) (Or.inl ⟨by rfl, fun wl hSw => ?_⟩) hS0 ?_
  · obtain ⟨⟨z0, z1, z2, z3⟩, ⟨y0, y1, y2, y3⟩, ⟨u0, u1, u2, u3⟩⟩ := hSw; go_simp
  go_simp
  refine wpAnyF_take (i := 11) (v := .pointer (some ⟨w.heap.size + 1, 0, none⟩)) rfl (by kernel_rfl) (by kernel_rfl) (by kernel_rfl) (by kernel_rfl) (fun _ _ _ h => h) (Or.inl ⟨by rfl, fun wl hSw => ?_⟩) hS0 ?_
  · obtain ⟨⟨z0, z1, z2, z3⟩, ⟨y0, y1, y2, y3⟩, ⟨u0, u1, u2, u3⟩⟩ := hSw; go_simp
  go_simp
  refine wpAnyF_take (i := 12) (v := .int .i64 g.states) rfl (by kernel_rfl) (by kernel_rfl) (by kernel_rfl) (by kernel_rfl) (fun _ _ _ h => h) (Or.inl ⟨by rfl, fun wl hSw => ?_⟩) hS0 ?_
  · obtain ⟨⟨z0, z1, z2, z3⟩, ⟨y0, y1, y2, y3⟩, ⟨u0, u1, u2, u3⟩⟩ := hSw; go_simp
  go_simp
  refine wpAnyF_take (i := 13) (v := .int .i64 V) rfl (by kernel_rfl) (by kernel_rfl) (by kernel_rfl) (by kernel_rfl) (fun _ _ _ h => h) (Or.inl ⟨by rfl, fun wl hSw => ?_⟩) hS0 ?_
  · obtain ⟨⟨z0, z1, z2, z3⟩, ⟨y0, y1, y2, y3⟩, ⟨u0, u1, u2, u3⟩⟩ := hSw; go_simp
  go_simp
  refine wpAnyF_take (i := 14) (v := .bool false) rfl (by kernel_rfl) (by kernel_rfl) (by kernel_rfl) (by kernel_rfl) (fun _ _ _ h => h) (Or.inl ⟨by rfl, fun wl hSw => ?_⟩) hS0 ?_
  · obtain ⟨⟨z0, z1, z2, z3⟩, ⟨y0, y1, y2, y3⟩, ⟨u0, u1, u2, u3⟩⟩ := hSw; go_simp
  go_simp
  refine wpAnyF_take (i := 15) (v := .bool false) rfl (by kernel_rfl) (by kernel_rfl) (by kernel_rfl) (by kernel_rfl) (fun _ _ _ h => h) (Or.inl ⟨by rfl, fun wl hSw => ?_⟩) hS0 ?_
  · obtain ⟨⟨z0, z1, z2, z3⟩, ⟨y0, y1, y2, y3⟩, ⟨u0, u1, u2, u3⟩⟩ := hSw; go_simp
  go_simp
  refine wpAnyF_take (i := 16) (v := .pointer (some ⟨w.heap.size, 3, none⟩)) rfl (by kernel_rfl) (by kernel_rfl) (by kernel_rfl) (by kernel_rfl) (fun _ _ _ h => h) (Or.inl ⟨by rfl, fun wl hSw => ?_⟩) hS0 ?_
  · obtain ⟨⟨z0, z1, z2, z3⟩, ⟨y0, y1, y2, y3⟩, ⟨u0, u1, u2, u3⟩⟩ := hSw; go_simp
  go_simp
  refine wpAnyF_take (i := 17) (v := .slice aa m ac) rfl (by kernel_rfl) (by kernel_rfl) (by kernel_rfl) (by kernel_rfl) (fun _ _ _ h => h) (Or.inl ⟨by rfl, fun wl hSw => ?_⟩) hS0 ?_
  · obtain ⟨⟨z0, z1, z2, z3⟩, ⟨y0, y1, y2, y3⟩, ⟨u0, u1, u2, u3⟩⟩ := hSw; go_simp
  go_simp
  refine wpAnyF_take (i := 18) (v := .int .i64 (m : Int)) rfl (by kernel_rfl) (by kernel_rfl) (by kernel_rfl) (by kernel_rfl) (fun _ _ _ h => h) (Or.inl ⟨by rfl, fun wl hSw => ?_⟩) hS0 ?_
  · obtain ⟨⟨z0, z1, z2, z3⟩, ⟨y0, y1, y2, y3⟩, ⟨u0, u1, u2, u3⟩⟩ := hSw; go_simp
  go_simp
  refine wpAnyF_take (i := 19) (v := .pointer (some ⟨w.heap.size + 1, 3, none⟩)) rfl (by kernel_rfl) (by kernel_rfl) (by kernel_rfl) (by kernel_rfl) (fun _ _ _ h => h) (Or.inl ⟨by rfl, fun wl hSw => ?_⟩) hS0 ?_
  · obtain ⟨⟨z0, z1, z2, z3⟩, ⟨y0, y1, y2, y3⟩, ⟨u0, u1, u2, u3⟩⟩ := hSw; go_simp
  go_simp
  refine wpAnyF_take (i := 20) (v := .slice ca mc cc) rfl (by kernel_rfl) (by kernel_rfl) (by kernel_rfl) (by kernel_rfl) (fun _ _ _ h => h) (Or.inl ⟨by rfl, fun wl hSw => ?_⟩) hS0 ?_
  · obtain ⟨⟨z0, z1, z2, z3⟩, ⟨y0, y1, y2, y3⟩, ⟨u0, u1, u2, u3⟩⟩ := hSw; go_simp
  go_simp
  refine wpAnyF_take (i := 21) (v := .int .i64 (mc : Int)) rfl (by kernel_rfl) (by kernel_rfl) (by kernel_rfl) (by kernel_rfl) (fun _ _ _ h => h) (Or.inl ⟨by rfl, fun wl hSw => ?_⟩) hS0 ?_
  · obtain ⟨⟨z0, z1, z2, z3⟩, ⟨y0, y1, y2, y3⟩, ⟨u0, u1, u2, u3⟩⟩ := hSw; go_simp
  go_simp
  refine wpAnyF_take (i := 22) (v := .int .i64 P1) rfl (by kernel_rfl) (by kernel_rfl) (by kernel_rfl) (by kernel_rfl) (fun _ _ _ h => h) (Or.inl ⟨by rfl, fun wl hSw => ?_⟩) hS0 ?_
  · obtain ⟨⟨z0, z1, z2, z3⟩, ⟨y0, y1, y2, y3⟩, ⟨u0, u1, u2, u3⟩⟩ := hSw; go_simp
  go_simp
  refine wpAnyF_take (i := 23) (v := .pointer (some ⟨w.heap.size, 3, none⟩)) rfl (by kernel_rfl) (by kernel_rfl) (by kernel_rfl) (by kernel_rfl) (fun _ _ _ h => h) (Or.inl ⟨by rfl, fun wl hSw => ?_⟩) hS0 ?_
  · obtain ⟨⟨z0, z1, z2, z3⟩, ⟨y0, y1, y2, y3⟩, ⟨u0, u1, u2, u3⟩⟩ := hSw; go_simp
  go_simp
  refine wpAnyF_take (i := 24) (v := .slice aa m ac) rfl (by kernel_rfl) (by kernel_rfl) (by kernel_rfl) (by kernel_rfl) (fun _ _ _ h => h) (Or.inl ⟨by rfl, fun wl hSw => ?_⟩) hS0 ?_
  · obtain ⟨⟨z0, z1, z2, z3⟩, ⟨y0, y1, y2, y3⟩, ⟨u0, u1, u2, u3⟩⟩ := hSw; go_simp
  go_simp
  refine wpAnyF_take (i := 25) (v := .int .i64 (m : Int)) rfl (by kernel_rfl) (by kernel_rfl) (by kernel_rfl) (by kernel_rfl) (fun _ _ _ h => h) (Or.inl ⟨by rfl, fun wl hSw => ?_⟩) hS0 ?_
  · obtain ⟨⟨z0, z1, z2, z3⟩, ⟨y0, y1, y2, y3⟩, ⟨u0, u1, u2, u3⟩⟩ := hSw; go_simp
  go_simp
  refine wpAnyF_take (i := 26) (v := .pointer (some ⟨w.heap.size + 1, 0, none⟩)) rfl (by kernel_rfl) (by kernel_rfl) (by kernel_rfl) (by kernel_rfl) (fun _ _ _ h => h) (Or.inl ⟨by rfl, fun wl hSw => ?_⟩) hS0 ?_
  · obtain ⟨⟨z0, z1, z2, z3⟩, ⟨y0, y1, y2, y3⟩, ⟨u0, u1, u2, u3⟩⟩ := hSw; go_simp
  go_simp
  refine wpAnyF_take (i := 27) (v := .int .i64 g.states) rfl (by kernel_rfl) (by kernel_rfl) (by kernel_rfl) (by kernel_rfl) (fun _ _ _ h => h) (Or.inl ⟨by rfl, fun wl hSw => ?_⟩) hS0 ?_
  · obtain ⟨⟨z0, z1, z2, z3⟩, ⟨y0, y1, y2, y3⟩, ⟨u0, u1, u2, u3⟩⟩ := hSw; go_simp
  go_simp
  refine wpAnyF_take (i := 28) (v := .int .i64 P2) rfl (by kernel_rfl) (by kernel_rfl) (by kernel_rfl) (by kernel_rfl) (fun _ _ _ h => h) (Or.inl ⟨by rfl, fun wl hSw => ?_⟩) hS0 ?_
  · obtain ⟨⟨z0, z1, z2, z3⟩, ⟨y0, y1, y2, y3⟩, ⟨u0, u1, u2, u3⟩⟩ := hSw; go_simp
  go_simp
  refine wpAnyF_take (i := 29) (v := .int .i64 (P1 + P2)) rfl (by kernel_rfl) (by kernel_rfl) (by kernel_rfl) (by kernel_rfl) (fun _ _ _ h => h) (Or.inl ⟨by rfl, fun wl hSw => ?_⟩) hS0 ?_
  · obtain ⟨⟨z0, z1, z2, z3⟩, ⟨y0, y1, y2, y3⟩, ⟨u0, u1, u2, u3⟩⟩ := hSw; go_simp
  go_simp
  refine wpAnyF_take (i := 30) (v := .pointer (some ⟨w.heap.size + 1, 3, none⟩)) rfl (by kernel_rfl) (by kernel_rfl) (by kernel_rfl) (by kernel_rfl) (fun _ _ _ h => h) (Or.inl ⟨by rfl, fun wl hSw => ?_⟩) hS0 ?_
  · obtain ⟨⟨z0, z1, z2, z3⟩, ⟨y0, y1, y2, y3⟩, ⟨u0, u1, u2, u3⟩⟩ := hSw; go_simp
  go_simp
  refine wpAnyF_take (i := 31) (v := .slice ca mc cc) rfl (by kernel_rfl) (by kernel_rfl) (by kernel_rfl) (by kernel_rfl) (fun _ _ _ h => h) (Or.inl ⟨by rfl, fun wl hSw => ?_⟩) hS0 ?_
  · obtain ⟨⟨z0, z1, z2, z3⟩, ⟨y0, y1, y2, y3⟩, ⟨u0, u1, u2, u3⟩⟩ := hSw; go_simp
  go_simp
  refine wpAnyF_take (i := 32) (v := .int .i64 (mc : Int)) rfl (by kernel_rfl) (by kernel_rfl) (by kernel_rfl) (by kernel_rfl) (fun _ _ _ h => h) (Or.inl ⟨by rfl, fun wl hSw => ?_⟩) hS0 ?_
  · obtain ⟨⟨z0, z1, z2, z3⟩, ⟨y0, y1, y2, y3⟩, ⟨u0, u1, u2, u3⟩⟩ := hSw; go_simp
  go_simp
  refine wpAnyF_take (i := 33) (v := .pointer (some ⟨w.heap.size, 0, none⟩)) rfl (by kernel_rfl) (by kernel_rfl) (by kernel_rfl) (by kernel_rfl) (fun _ _ _ h => h) (Or.inl ⟨by rfl, fun wl hSw => ?_⟩) hS0 ?_
  · obtain ⟨⟨z0, z1, z2, z3⟩, ⟨y0, y1, y2, y3⟩, ⟨u0, u1, u2, u3⟩⟩ := hSw; go_simp
  go_simp
  refine wpAnyF_take (i := 34) (v := .int .i64 f.states) rfl (by kernel_rfl) (by kernel_rfl) (by kernel_rfl) (by kernel_rfl) (fun _ _ _ h => h) (Or.inl ⟨by rfl, fun wl hSw => ?_⟩) hS0 ?_
  · obtain ⟨⟨z0, z1, z2, z3⟩, ⟨y0, y1, y2, y3⟩, ⟨u0, u1, u2, u3⟩⟩ := hSw; go_simp
  go_simp
  refine wpAnyF_take (i := 35) (v := .int .i64 P3) rfl (by kernel_rfl) (by kernel_rfl) (by kernel_rfl) (by kernel_rfl) (fun _ _ _ h => h) (Or.inl ⟨by rfl, fun wl hSw => ?_⟩) hS0 ?_
  · obtain ⟨⟨z0, z1, z2, z3⟩, ⟨y0, y1, y2, y3⟩, ⟨u0, u1, u2, u3⟩⟩ := hSw; go_simp
  go_simp
  refine wpAnyF_take (i := 36) (v := .int .i64 (P1 + P2 + P3)) rfl (by kernel_rfl) (by kernel_rfl) (by kernel_rfl) (by kernel_rfl) (fun _ _ _ h => h) (Or.inl ⟨by rfl, fun wl hSw => ?_⟩) hS0 ?_
  · obtain ⟨⟨z0, z1, z2, z3⟩, ⟨y0, y1, y2, y3⟩, ⟨u0, u1, u2, u3⟩⟩ := hSw; go_simp
  go_simp
  refine wpAnyF_take (i := 37) (v := .int .i64 (3 * (P1 + P2 + P3))) rfl (by kernel_rfl) (by kernel_rfl) (by kernel_rfl) (by kernel_rfl) (fun _ _ _ h => h) (Or.inl ⟨by rfl, fun wl hSw => ?_⟩) hS0 ?_
  · obtain ⟨⟨z0, z1, z2, z3⟩, ⟨y0, y1, y2, y3⟩, ⟨u0, u1, u2, u3⟩⟩ := hSw; go_simp
  go_simp
  refine wpAnyF_take (i := 38) (v := .bool false) rfl (by kernel_rfl) (by kernel_rfl) (by kernel_rfl) (by kernel_rfl) (fun _ _ _ h => h) (Or.inl ⟨by rfl, fun wl hSw => ?_⟩) hS0 ?_
  · obtain ⟨⟨z0, z1, z2, z3⟩, ⟨y0, y1, y2, y3⟩, ⟨u0, u1, u2, u3⟩⟩ := hSw; go_simp
  go_simp
  refine wpAnyF_take (i := 39) (v := .bool false) rfl (by kernel_rfl) (by kernel_rfl) (by kernel_rfl) (by kernel_rfl) (fun _ _ _ h => h) (Or.inl ⟨by rfl, fun wl hSw => ?_⟩) hS0 ?_
  · obtain ⟨⟨z0, z1, z2, z3⟩, ⟨y0, y1, y2, y3⟩, ⟨u0, u1, u2, u3⟩⟩ := hSw; go_simp
  go_simp
  refine wpAnyF_take (i := 40) (v := .bool false) rfl (by kernel_rfl) (by kernel_rfl) (by kernel_rfl) (by kernel_rfl) (fun _ _ _ h => h) (Or.inl ⟨by rfl, fun wl hSw => ?_⟩) hS0 ?_
  · obtain ⟨⟨z0, z1, z2, z3⟩, ⟨y0, y1, y2, y3⟩, ⟨u0, u1, u2, u3⟩⟩ := hSw; go_simp
  go_simp
  refine wpAnyF_take (i := 41) (v := .agg #[.int .i64 f.states, .int .i64 f.start, .slice fa fn fc, .slice aa m ac]) rfl (by kernel_rfl) (by kernel_rfl) (by kernel_rfl) (by kernel_rfl) (fun _ _ _ h => h) (Or.inl ⟨by rfl, fun wl hSw => ?_⟩) hS0 ?_
  · obtain ⟨⟨z0, z1, z2, z3⟩, ⟨y0, y1, y2, y3⟩, ⟨u0, u1, u2, u3⟩⟩ := hSw; go_simp
  go_simp
  refine wpAnyF_take (i := 43) (v := .agg #[.int .i64 g.states, .int .i64 g.start, .slice ga gn gc, .slice ca mc cc]) rfl (by kernel_rfl) (by kernel_rfl) (by kernel_rfl) (by kernel_rfl) (fun _ _ _ h => h) (Or.inl ⟨by rfl, fun wl hSw => ?_⟩) hS0 ?_
  · obtain ⟨⟨z0, z1, z2, z3⟩, ⟨y0, y1, y2, y3⟩, ⟨u0, u1, u2, u3⟩⟩ := hSw; go_simp
  go_simp
  refine wpAnyF_one (i := 42) rfl (by kernel_rfl) (fun Kc hKc => ?_)
  go_simp
  refine hmf.mono ?_
  rintro e w6 ⟨x, rfl, hx, hx1, hx2, hb6⟩
  have hb6' := bel_on hbd hb6
  have hS6 : (fun wx : World => CellsF wx D 0 0 (.slice xa xn xc) (.slice ya yn yc) ∧ CellsF wx w.heap.size f.states f.start (.slice fa fn fc) (.slice aa m ac) ∧ CellsF wx (w.heap.size + 1) g.states g.start (.slice ga gn gc) (.slice ca mc cc)) w6 := HS.out w6 hb6'
  have hmg := mostWeight_any g _ _ w6 HK.out.2 (HM.out w6 (bel_on hb2 hb6')).2.1.1 (HM.out w6 (bel_on hb2 hb6')).2.1.2
  clear hmf
  refine hKc.out _ _ ⟨fun _ => hS6, ?_⟩
  clear hKc Kc
  refine wpAnyF_one (i := 44) rfl (by kernel_rfl) (fun Kc hKc => ?_)
  go_simp
  refine hmg.mono ?_
  rintro e w7 ⟨y, rfl, hy, hy1, hy2, hb7⟩
  have hb7' := bel_on hb6' hb7
  have hS7 : (fun wx : World => CellsF wx D 0 0 (.slice xa xn xc) (.slice ya yn yc) ∧ CellsF wx w.heap.size f.states f.start (.slice fa fn fc) (.slice aa m ac) ∧ CellsF wx (w.heap.size + 1) g.states g.start (.slice ga gn gc) (.slice ca mc cc)) w7 := HS.out w7 hb7'
  have hgt : 1000000000 < x + y := HXY.out x y hx.1 hy.1 hx1 hx2 hy1 hy2
  have hgd : decide (1000000000 < x + y) = true := decide_eq_true hgt
  have hwx : IntKind.i64.wrap (x + y) = x + y := wrap_in _ (by omega) (by omega)
  clear hmg HXY hx1 hx2 hy1 hy2
  refine hKc.out _ _ ⟨fun _ => hS7, ?_⟩
  clear hKc Kc
  refine wpAnyF_take (i := 45) (v := .int .i64 (x + y)) rfl (by kernel_rfl) (by kernel_rfl) (by kernel_rfl) (by kernel_rfl) (fun _ _ _ h => h) (Or.inl ⟨by rfl, fun wl hSw => ?_⟩) hS7 ?_
  · obtain ⟨⟨z0, z1, z2, z3⟩, ⟨y0, y1, y2, y3⟩, ⟨u0, u1, u2, u3⟩⟩ := hSw; go_simp
  go_simp
  refine wpAnyF_take (i := 46) (v := .bool true) rfl (by kernel_rfl) (by kernel_rfl) (by kernel_rfl) (by kernel_rfl) (fun _ _ _ h => h) (Or.inl ⟨by rfl, fun wl hSw => ?_⟩) hS7 ?_
  · obtain ⟨⟨z0, z1, z2, z3⟩, ⟨y0, y1, y2, y3⟩, ⟨u0, u1, u2, u3⟩⟩ := hSw; go_simp
  go_simp
  refine wpAnyF_take (i := 47) (v := .bool true) rfl (by kernel_rfl) (by kernel_rfl) (by kernel_rfl) (by kernel_rfl) (fun _ _ _ h => h) (Or.inl ⟨by rfl, fun wl hSw => ?_⟩) hS7 ?_
  · obtain ⟨⟨z0, z1, z2, z3⟩, ⟨y0, y1, y2, y3⟩, ⟨u0, u1, u2, u3⟩⟩ := hSw; go_simp
  go_simp
  refine wpAnyF_take (i := 48) (v := .bool true) rfl (by kernel_rfl) (by kernel_rfl) (by kernel_rfl) (by kernel_rfl) (fun _ _ _ h => h) (Or.inl ⟨by rfl, fun wl hSw => ?_⟩) hS7 ?_
  · obtain ⟨⟨z0, z1, z2, z3⟩, ⟨y0, y1, y2, y3⟩, ⟨u0, u1, u2, u3⟩⟩ := hSw; go_simp
  go_simp
  refine wpAnyF_one (i := 49) rfl (by kernel_rfl) (fun Kc hKc => ?_)
  go_simp
  refine hKc.out _ _ ⟨fun _ => hS7, ?_⟩
  clear hKc Kc
  refine wpAnyF_done (by kernel_rfl) ?_ _
  refine NoPanic.normal ?_
  go_wp2
  go_ret
  exact ⟨rfl, bel_on hb0 (bel_on hb2 hb7')⟩
end Go.Proofs.Yteehgcbjmdideaa

/- The law 'ComposeCosts' answers true whatever it is handed. (Made by wip/gen/cpz.py.) -/
namespace Go.Proofs.Yteehgcbjmdideaa
open Go.RowKit

theorem composeCosts_at (f g : FstD) (ins btw outs : List Int) (fa : Option Addr) (fn fc : Nat) (aa : Option Addr) (m ac : Nat) (ga : Option Addr) (gn gc : Nat) (ca : Option Addr) (mc cc : Nat) (ia : Option Addr) (il ic : Nat) (ba : Option Addr) (bl bc : Nat) (oa : Option Addr) (ol oc : Nat) (w : World)
    (hf : ISlice w (.slice fa fn fc) f.final) (ha : ASlice w (.slice aa m ac) f.arcs) (hf' : ISlice w (.slice ga gn gc) g.final) (ha' : ASlice w (.slice ca mc cc) g.arcs) (hI : ISlice w (.slice ia il ic) ins) (hB : ISlice w (.slice ba bl bc) btw) (hO : ISlice w (.slice oa ol oc) outs)
    (hal : f.arcs.length = m) (hal' : g.arcs.length = mc) (hil : ins.length = il) (hol : outs.length = ol)  :
    Calls Try.prog 6 #[.agg #[.int .i64 f.states, .int .i64 f.start, .slice fa fn fc, .slice aa m ac], .agg #[.int .i64 g.states, .int .i64 g.start, .slice ga gn gc, .slice ca mc cc], .slice ia il ic, .slice ba bl bc, .slice oa ol oc] w fun e w' => e = .returned (.bool true) ∧ Below w.heap.size w w' := by
  by_cases hc0 : twoD f g = 0
  · have hc1 : checkD f = 0 := by
      unfold twoD at hc0
      split at hc0
      · assumption
      · exact hc0
    have hc2 : checkD g = 0 := by
      unfold twoD at hc0
      rw [if_pos hc1] at hc0
      exact hc0
    cases hl : (largeD f || largeD g) with
    | true => exact ccosts_e2 f g ins btw outs fa fn fc aa m ac ga gn gc ca mc cc ia il ic ba bl bc oa ol oc w hf ha hf' ha' hI hB hO hal hal' hil hol hc1 hc2 hl
    | false =>
      have kf := fine_of hc1
      have kg := fine_of hc2
      have hE : errC f g = 0 := by
        unfold errC
        rw [if_pos hc1, if_pos hc2, hl]
        rfl
      unfold largeD at hl
      simp only [Bool.or_eq_false_iff, decide_eq_false_iff_not] at hl
      obtain ⟨⟨l1, l3⟩, l2, l4⟩ := hl
      have g1 := kf.s1
      have g2 := kg.s1
      rcases cmp_split kf kg hE ins outs with ⟨b, hb, ht, hR⟩ | hR
      · have htw := too_what kf kg hb ht
        by_cases hP : 200 < 3 * f.states * g.states
        · exact ccosts_g1 f g ins btw outs fa fn fc aa m ac ga gn gc ca mc cc ia il ic ba bl bc oa ol oc w hf ha hf' ha' hI hB hO hal hal' hil hol (by omega) (by omega) (by omega) (by omega) g1 g2 hc1 hc2 hR hP
        · by_cases hS : 3000 < 3 * ((m : Int) * (mc : Int) + (m : Int) * g.states + (mc : Int) * f.states)
          · exact ccosts_g2 f g ins btw outs fa fn fc aa m ac ga gn gc ca mc cc ia il ic ba bl bc oa ol oc w hf ha hf' ha' hI hB hO hal hal' hil hol (by omega) (by omega) (by omega) (by omega) g1 g2 hc1 hc2 hR hP hS
          · refine ccosts_g3 f g ins btw outs fa fn fc aa m ac ga gn gc ca mc cc ia il ic ba bl bc oa ol oc w hf ha hf' ha' hI hB hO hal hal' hil hol (by omega) (by omega) (by omega) (by omega) g1 g2 hc1 hc2 hR kf kg hP hS ?_
            obtain ⟨N, hN⟩ : ∃ N : Nat, f.states = N := ⟨f.states.toNat, by omega⟩
            obtain ⟨M, hM⟩ : ∃ N : Nat, g.states = N := ⟨g.states.toNat, by omega⟩
            rw [hN, hM, Int.toNat_natCast, Int.toNat_natCast] at htw
            rw [hN, hM] at hP hS
            rcases htw with h | h | h
            · have e : (3 : Int) * (N : Int) * (M : Int) = 3 * ((N * M : Nat) : Int) := by rw [Int.natCast_mul, Int.mul_assoc]
              omega
            · have e : (m : Int) * (mc : Int) + (m : Int) * (M : Int) + (mc : Int) * (N : Int) = ((f.arcs.length * g.arcs.length + (f.arcs.length * M + g.arcs.length * N) : Nat) : Int) := by
                rw [hal, hal', Int.natCast_add, Int.natCast_add, Int.natCast_mul, Int.natCast_mul, Int.natCast_mul, Int.add_assoc]
              rw [e] at hS
              omega
            · exact h
      · by_cases hw : wordD ins = 0
        · by_cases hv : wordD outs = 0
          · by_cases hg : 12 < il + ol
            · exact ccosts_h2 f g ins btw outs fa fn fc aa m ac ga gn gc ca mc cc ia il ic ba bl bc oa ol oc w hf ha hf' ha' hI hB hO hal hal' hil hol kf kg (by omega) (by omega) (by omega) (by omega) hc1 hc2 hR hw hv hg
            · exact ccosts_h3 f g ins btw outs fa fn fc aa m ac ga gn gc ca mc cc ia il ic ba bl bc oa ol oc w hf ha hf' ha' hI hB hO hal hal' hil hol kf kg (by omega) (by omega) (by omega) (by omega) hc1 hc2 hR hw hv (by omega)
          · exact ccosts_h1 f g ins btw outs fa fn fc aa m ac ga gn gc ca mc cc ia il ic ba bl bc oa ol oc w hf ha hf' ha' hI hB hO hal hal' hil hol kf kg (by omega) (by omega) (by omega) (by omega) hc1 hc2 hR hw hv
        · exact ccosts_h0 f g ins btw outs fa fn fc aa m ac ga gn gc ca mc cc ia il ic ba bl bc oa ol oc w hf ha hf' ha' hI hB hO hal hal' hil hol kf kg (by omega) (by omega) (by omega) (by omega) hc1 hc2 hR hw
  · exact ccosts_e1 f g ins btw outs fa fn fc aa m ac ga gn gc ca mc cc ia il ic ba bl bc oa ol oc w hf ha hf' ha' hI hB hO hal hal' hil hol _ rfl hc0

theorem composeCosts_any (f g : FstD) (ins btw outs : List Int) (fin arcs fin' arcs' iv bv ov : Value) (w : World)
    (hf : ISlice w fin f.final) (ha : ASlice w arcs f.arcs) (hf' : ISlice w fin' g.final) (ha' : ASlice w arcs' g.arcs) (hI : ISlice w iv ins) (hB : ISlice w bv btw) (hO : ISlice w ov outs) :
    Calls Try.prog 6 #[.agg #[.int .i64 f.states, .int .i64 f.start, fin, arcs], .agg #[.int .i64 g.states, .int .i64 g.start, fin', arcs'], iv, bv, ov] w fun e w' => e = .returned (.bool true) ∧ Below w.heap.size w w' := by
  obtain ⟨fa, fn, fc, rfl, _, _⟩ := hf.lenOf
  obtain ⟨aa, m, ac, rfl, hal, _⟩ := ha.lenOf
  obtain ⟨ga, gn, gc, rfl, _, _⟩ := hf'.lenOf
  obtain ⟨ca, mc, cc, rfl, hal', _⟩ := ha'.lenOf
  obtain ⟨ia, il, ic, rfl, hil, _⟩ := hI.lenOf
  obtain ⟨ba, bl, bc, rfl, _, _⟩ := hB.lenOf
  obtain ⟨oa, ol, oc, rfl, hol, _⟩ := hO.lenOf
  exact composeCosts_at f g ins btw outs fa fn fc aa m ac ga gn gc ca mc cc ia il ic ba bl bc oa ol oc w hf ha hf' ha' hI hB hO hal hal' hil hol
end Go.Proofs.Yteehgcbjmdideaa

/- A transducer that came in, taken apart: what its value and its lists are. -/
namespace Go.Proofs.Yteehgcbjmdideaa
open Go.ChangeShapes Go.WideShapes Go.ChangeAt Go.RowKit
set_option maxRecDepth 100000

theorem cellsI : Try.prog.cellsOf 3 = 1 := by kernel_rfl
theorem cellsArc : Try.prog.cellsOf 63 = 5 := by kernel_rfl
theorem cellsFst : Try.prog.cellsOf 25 = 4 := by kernel_rfl

theorem addr_add_plain (b off i : Nat) : (⟨b, off, none⟩ : Addr).add i = ⟨b, off + i, none⟩ := by
  by_cases h : i = 0
  · subst h; rfl
  · simp [Addr.add, h]

theorem open_ilist {H : Type} {enc : TypeId × Value → H} {W : World} {n : Nat} {v : Value} {y : DataW H × List MemPlace} (h : DataW.trod enc Try.prog W 0 (fun _ => true) true n 22 [v] = some y) : ∃ xs, ISlice W v xs := by
  rcases open_ints Try.underlying22 Try.underlying3 cellsI h with ⟨h1, _⟩ | ⟨a, len, cap, zs, h1, _, hl, hm, hz, _, hcell, _⟩
  · exact ⟨[], Or.inl ⟨none, 0, by simpa using h1, rfl⟩⟩
  · have hv : v = .slice (some a) len cap := by simpa using h1
    simp only [if_true] at hz
    by_cases h0 : len = 0
    · exact ⟨[], Or.inl ⟨some a, cap, by rw [hv, h0], rfl⟩⟩
    · obtain ⟨b, off, spot⟩ := a
      have hspot : spot = none := by simpa [Addr.add] using World.cell?_spot (hcell 0 (by omega))
      subst hspot
      refine ⟨zs.take len, Or.inr ⟨b, off, len, cap, hv, ⟨by simp; omega, fun i hi => ?_⟩, by omega⟩⟩
      have := hcell i (by omega)
      rw [addr_add_plain] at this
      rw [this]
      simp [List.getD, hi]

theorem five_cells {H : Type} {enc : TypeId × Value → H} {W : World} {n : Nat} {cs : List Value} {y : DataW H × List MemPlace} (h : DataW.trod enc Try.prog W 0 (fun _ => true) true n 63 cs = some y) :
    ∃ a : ArcD, cs = [.int .i64 a.src, .int .i64 a.inp, .int .i64 a.out, .int .i64 a.dst, .int .i64 a.wt] := by
  obtain ⟨xs, k, _, _, hlen, hxl, hf⟩ := DataW.trod_struct Try.underlying63 h
  rw [cellsArc] at hlen
  match cs, hlen with
  | [c0, c1, c2, c3, c4], _ =>
    have g0 : DataW.trod enc Try.prog W 0 (fun _ => true) true k 3 ((([c0, c1, c2, c3, c4] : List Value).drop 0).take (Try.prog.cellsOf 3)) = xs[0]? := hf 0 _ rfl
    have g1 : DataW.trod enc Try.prog W 0 (fun _ => true) true k 3 ((([c0, c1, c2, c3, c4] : List Value).drop 1).take (Try.prog.cellsOf 3)) = xs[1]? := hf 1 _ rfl
    have g2 : DataW.trod enc Try.prog W 0 (fun _ => true) true k 3 ((([c0, c1, c2, c3, c4] : List Value).drop 2).take (Try.prog.cellsOf 3)) = xs[2]? := hf 2 _ rfl
    have g3 : DataW.trod enc Try.prog W 0 (fun _ => true) true k 3 ((([c0, c1, c2, c3, c4] : List Value).drop 3).take (Try.prog.cellsOf 3)) = xs[3]? := hf 3 _ rfl
    have g4 : DataW.trod enc Try.prog W 0 (fun _ => true) true k 3 ((([c0, c1, c2, c3, c4] : List Value).drop 4).take (Try.prog.cellsOf 3)) = xs[4]? := hf 4 _ rfl
    have hx : xs.length = 5 := hxl
    rw [cellsI, List.getElem?_eq_getElem (by omega)] at g0 g1 g2 g3 g4
    obtain ⟨z0, e0, _⟩ := DataW.trod_int Try.underlying3 g0
    obtain ⟨z1, e1, _⟩ := DataW.trod_int Try.underlying3 g1
    obtain ⟨z2, e2, _⟩ := DataW.trod_int Try.underlying3 g2
    obtain ⟨z3, e3, _⟩ := DataW.trod_int Try.underlying3 g3
    obtain ⟨z4, e4, _⟩ := DataW.trod_int Try.underlying3 g4
    have d0 : c0 = .int .i64 z0 := by simpa using e0
    have d1 : c1 = .int .i64 z1 := by simpa using e1
    have d2 : c2 = .int .i64 z2 := by simpa using e2
    have d3 : c3 = .int .i64 z3 := by simpa using e3
    have d4 : c4 = .int .i64 z4 := by simpa using e4
    exact ⟨⟨z0, z1, z2, z3, z4⟩, by rw [d0, d1, d2, d3, d4]⟩

theorem open_alist {H : Type} {enc : TypeId × Value → H} {W : World} {n : Nat} {v : Value} {y : DataW H × List MemPlace} (h : DataW.trod enc Try.prog W 0 (fun _ => true) true n 23 [v] = some y) : ∃ ars, ASlice W v ars := by
  rcases Go.Deep.open_slice Try.underlying23 h with ⟨h1, _⟩ | ⟨a, len, cap, m, k, D, Pl, h1, _, hl, hm, hmm, _, hx⟩
  · exact ⟨[], Or.inl ⟨none, 0, by simpa using h1, rfl⟩⟩
  · have hv : v = .slice (some a) len cap := by simpa using h1
    simp only [if_true] at hmm
    by_cases h0 : len = 0
    · exact ⟨[], Or.inl ⟨some a, cap, by rw [hv, h0], rfl⟩⟩
    · rw [cellsArc] at hx
      have each : ∀ i, i < len → ∃ q : ArcD, ∀ j u, [Value.int .i64 q.src, .int .i64 q.inp, .int .i64 q.out, .int .i64 q.dst, .int .i64 q.wt][j]? = some u → j < 5 → W.cell? ((a.add (i * 5)).add j) = some u := fun i hi => by
        obtain ⟨cs, h2, h3⟩ := hx i (by omega)
        obtain ⟨q, hq⟩ := five_cells h3
        obtain ⟨_, _, hc⟩ := World.cells?_some h2
        exact ⟨q, fun j u hu hj => by rw [hc j hj, hq]; exact hu⟩
      have inh : Inhabited ArcD := ⟨a0⟩
      obtain ⟨q, hq⟩ := Go.Deep.choose_lt each
      obtain ⟨b, off, spot⟩ := a
      have hspot : spot = none := by
        have := World.cell?_spot (hq 0 (by omega) 0 _ rfl (by omega))
        simpa [Addr.add] using this
      subst hspot
      have hg : ∀ i, i < len → ((List.range len).map q).getD i a0 = q i := fun i hi => by simp [List.getD, hi]
      have key : ∀ i, i < len → ∀ j u, [Value.int .i64 (q i).src, .int .i64 (q i).inp, .int .i64 (q i).out, .int .i64 (q i).dst, .int .i64 (q i).wt][j]? = some u → j < 5 → W.cell? ⟨b, off + i * 5 + j, none⟩ = some u := fun i hi j u hu hj => by
        have := hq i hi j u hu hj
        rw [addr_add_plain, addr_add_plain] at this
        exact this
      refine ⟨(List.range len).map q, Or.inr ⟨b, off, len, cap, hv, ⟨by simp, fun i hi => ?_, fun i hi => ?_, fun i hi => ?_, fun i hi => ?_, fun i hi => ?_⟩, by omega⟩⟩
      · rw [hg i hi]; exact key i hi 0 _ rfl (by omega)
      · rw [hg i hi]; exact key i hi 1 _ rfl (by omega)
      · rw [hg i hi]; exact key i hi 2 _ rfl (by omega)
      · rw [hg i hi]; exact key i hi 3 _ rfl (by omega)
      · rw [hg i hi]; exact key i hi 4 _ rfl (by omega)

theorem open_fst {H : Type} {enc : TypeId × Value → H} {W : World} {base : Nat} {v : Value} {d : DataW H} {p : List MemPlace} (hok : Value.okWide Try.prog W .any base 25 v) (h : DataW.Trod enc Try.prog W 0 (fun _ => true) true 25 v d p) :
    ∃ (f : FstD) (fin arcs : Value), v = .agg #[.int .i64 f.states, .int .i64 f.start, fin, arcs] ∧ ISlice W fin f.final ∧ ASlice W arcs f.arcs := by
  obtain ⟨v0, v1, v2, v3, y0, y1, y2, y3, n, rfl, _, _, h0, h1, h2, h3⟩ := Go.Joins.open_agg4 Try.underlying25 (by kernel_rfl) cellsFst hok h
  obtain ⟨z0, e0, _⟩ := DataW.trod_int Try.underlying3 h0
  obtain ⟨z1, e1, _⟩ := DataW.trod_int Try.underlying3 h1
  obtain ⟨xs, hi⟩ := open_ilist h2
  obtain ⟨ars, ha⟩ := open_alist h3
  have d0 : v0 = .int .i64 z0 := by simpa using e0
  have d1 : v1 = .int .i64 z1 := by simpa using e1
  exact ⟨⟨z0, z1, xs, ars⟩, v2, v3, by rw [d0, d1], hi, ha⟩

end Go.Proofs.Yteehgcbjmdideaa
