/- 'simpleBegun' of the statements. (Made by wip/gen/simn.py.) -/
import Derived.Test.YteehgcbjmdideaaQM18
import Derived.Test.YteehgcbjmdideaaQM03
namespace Go.Proofs.Yteehgcbjmdideaa
open Go.RowKit
attribute [local go_sem ↓] Go.wp_at_zero Go.wp_at_succ

/-- what 'Score' answers, where it is known -/
theorem score_is (f : FstD) (ins outs : List Int) (fin arcs iv ov : Value) (w : World) (hf : ISlice w fin f.final) (ha : ASlice w arcs f.arcs) (hI : ISlice w iv ins) (hO : ISlice w ov outs) (x : Int) (hc : chkS f ins outs = 0) (hx : BestP f ins outs f.start.toNat x) :
    Calls Try.prog 10 #[.agg #[.int .i64 f.states, .int .i64 f.start, fin, arcs], iv, ov] w fun e w' => e = .returned (.tuple #[.int .i64 x, .int .i64 0]) ∧ Below w.heap.size w w' := by
  refine (score_any f ins outs fin arcs iv ov w hf ha hI hO).mono ?_
  rintro e w' ⟨z, c, rfl, ⟨h1, _, h3⟩, hb⟩
  rw [hc] at h1
  subst h1
  obtain ⟨N, s0, e1, e2, hok, hbest⟩ := h3 rfl
  have hz := (best_path hok).1 hbest
  rw [e2, Int.toNat_natCast] at hx
  rw [hz.unique hx]
  exact ⟨rfl, hb⟩

theorem box_set4S {w : World} {P : Nat} (h : ZBlock w P) (u0 u1 u2 u3 : Value) : ((((w.setCell ⟨P, 0, none⟩ u0).setCell ⟨P, 1, none⟩ u1).setCell ⟨P, 2, none⟩ u2).setCell ⟨P, 3, none⟩ u3).heap[P]? = some (.cells #[u0, u1, u2, u3] 25 (0, 0)) :=
  box_set (k := 3) (box_set (k := 2) (box_set (k := 1) (box_set (k := 0) h rfl) rfl) rfl) rfl

theorem far_set {w0 w2 : World} {P : Nat} {fv av : Value} {xs : List Int} {ars : List ArcD} (h1 : IFrom w0.heap.size w2 fv xs) (h2 : AFrom w0.heap.size w2 av ars) (hz : ZBlock w0 P) (u0 u1 u2 u3 : Value) :
    ISlice ((((w2.setCell ⟨P, 0, none⟩ u0).setCell ⟨P, 1, none⟩ u1).setCell ⟨P, 2, none⟩ u2).setCell ⟨P, 3, none⟩ u3) fv xs ∧ ASlice ((((w2.setCell ⟨P, 0, none⟩ u0).setCell ⟨P, 1, none⟩ u1).setCell ⟨P, 2, none⟩ u2).setCell ⟨P, 3, none⟩ u3) av ars := by
  have hP := heap_lt hz
  exact ⟨((((h1.set (i := 0) (u := u0) hP).set (i := 1) (u := u1) hP).set (i := 2) (u := u2) hP).set (i := 3) (u := u3) hP).slice, ((((h2.set (i := 0) (u := u0) hP).set (i := 1) (u := u1) hP).set (i := 2) (u := u2) hP).set (i := 3) (u := u3) hP).slice⟩

theorem lit_two (w : World) (x y : Int) (g : Nat) (hg : w.heap.size = g) : ISlice (w.alloc (.cells #[.int .i64 x, .int .i64 y] 3)) (.slice (some ⟨g, 0, none⟩) 2 2) [x, y] := by
  subst hg
  have h := World.ownsRow_lit (base := 0) (e := 3) (size := 1) w #[.int .i64 x, .int .i64 y] 2 (Nat.zero_le _) (by decide) rfl
  exact ownsRow_ints (xs := [x, y]) h

set_option maxHeartbeats 4000000 in
set_option maxRecDepth 100000 in
theorem simpleBegun_any (w : World) : Calls Try.prog 20 #[] w fun e w' => e = .returned (.bool true) ∧ Below w.heap.size w w' := by
  go_enter Try.func20, Try.ntmps20
  go_wp2_with fail
  refine (one_ex w).mono ?_
  rintro e w1 ⟨N1, M1, rfl, hI1, hA1, hb1⟩
  have hinv := invert_ok oneD _ _ w1 hI1 hA1 check_one
  rw [inv_one_is] at hinv
  go_wp2_with fail
  refine hinv.mono ?_
  rintro e w2 ⟨fa1, fn1, fc1, ea1, en1, ec1, rfl, hI2, hA2, hb2⟩
  clear hinv hI1 hA1
  go_wp2_with fail
  have hb2' := bel_on hb1 hb2
  obtain ⟨B1, hB1⟩ : ∃ B, B = w2.heap.size := ⟨_, rfl⟩
  obtain ⟨w3, hw3⟩ : ∃ w3, w3 = w2.alloc (.cells #[.int .i64 invOne.states, .int .i64 invOne.start, .slice fa1 fn1 fc1, .slice ea1 en1 ec1] 25) := ⟨_, rfl⟩
  have hx3 : w3.heap[B1]? = some (.cells #[.int .i64 invOne.states, .int .i64 invOne.start, .slice fa1 fn1 fc1, .slice ea1 en1 ec1] 25 (0, 0)) := by rw [hw3, hB1]; exact heap_alloc_new w2 _
  have hu3 : Below w2.heap.size w2 w3 := by rw [hw3]; exact bel_up (bel_self w2) _
  have hI3 := hI2.slice.below hu3
  have hA3 := hA2.slice.below hu3
  have hb3 : Below w.heap.size w w3 := bel_on hb2' hu3
  rw [← hw3, ← hB1]
  clear hw3 hB1 hu3 hI2 hA2 hb2 hb1 hb2'
  refine (one_ex w3).mono ?_
  rintro e w4 ⟨N4, M4, rfl, hI4, hA4, hb4⟩
  have hpro := project_out 2 rfl oneD _ _ w4 hI4 hA4 check_one
  rw [out_one_is] at hpro
  go_wp2_with fail
  refine hpro.mono ?_
  rintro e w5 ⟨fa2, fn2, fc2, ea2, en2, ec2, rfl, hI5, hA5, hb5⟩
  have hb45 := bel_on hb4 hb5
  clear hpro hI4 hA4
  go_wp2_with fail
  obtain ⟨B3, hB3⟩ : ∃ B, B = w5.heap.size := ⟨_, rfl⟩
  obtain ⟨w6, hw6⟩ : ∃ w6, w6 = w5.alloc (.cells #[.int .i64 outOne.states, .int .i64 outOne.start, .slice fa2 fn2 fc2, .slice ea2 en2 ec2] 25) := ⟨_, rfl⟩
  have hx6 : w6.heap[B3]? = some (.cells #[.int .i64 outOne.states, .int .i64 outOne.start, .slice fa2 fn2 fc2, .slice ea2 en2 ec2] 25 (0, 0)) := by rw [hw6, hB3]; exact heap_alloc_new w5 _
  have hu6 : Below w5.heap.size w5 w6 := by rw [hw6]; exact bel_up (bel_self w5) _
  have hI6 := hI5.slice.below hu6
  have hA6 := hA5.slice.below hu6
  have hb36 : Below w3.heap.size w3 w6 := bel_on hb45 hu6
  have hy6 := heap_bel hb36 hx3
  have hJ6 := hI3.below hb36
  have hC6 := hA3.below hb36
  have hb6 : Below w.heap.size w w6 := bel_on hb3 hb36
  rw [← hw6, ← hB3]
  clear hw6 hB3 hu6 hI5 hA5 hb5 hb45 hb4 hx3 hI3 hA3 hb3 hb36
  have HW6 : Hid (∀ W, Below w6.heap.size w6 W → W.heap[B1]? = some (.cells #[.int .i64 invOne.states, .int .i64 invOne.start, .slice fa1 fn1 fc1, .slice ea1 en1 ec1] 25 (0, 0)) ∧ ISlice W (.slice fa1 fn1 fc1) invOne.final ∧ ASlice W (.slice ea1 en1 ec1) invOne.arcs ∧ ISlice W (.slice fa2 fn2 fc2) outOne.final ∧ ASlice W (.slice ea2 en2 ec2) outOne.arcs) := fun W h => ⟨heap_bel h hy6, hJ6.below h, hC6.below h, hI6.below h, hA6.below h⟩
  have HB6 : Hid (Below w.heap.size w w6) := hb6
  clear hy6 hJ6 hC6 hI6 hA6 hb6
  have u0 := box_cell (k := 0) hx6 rfl
  have u1 := box_cell (k := 1) hx6 rfl
  have u2 := box_cell (k := 2) hx6 rfl
  have u3 := box_cell (k := 3) hx6 rfl
  clear hx6
  obtain ⟨Wd, hWd⟩ : ∃ Wd, Wd = w6.drew := ⟨_, rfl⟩
  have hud : Below w6.heap.size w6 Wd := by rw [hWd]; exact (bel_self w6).drew
  have hS0 : (fun wx : World => wx.cell? ⟨B3, 0, none⟩ = some (.int .i64 outOne.states) ∧ wx.cell? ⟨B3, 1, none⟩ = some (.int .i64 outOne.start) ∧ wx.cell? ⟨B3, 2, none⟩ = some (.slice fa2 fn2 fc2) ∧ wx.cell? ⟨B3, 3, none⟩ = some (.slice ea2 en2 ec2)) Wd := ⟨bel_c hud u0, bel_c hud u1, bel_c hud u2, bel_c hud u3⟩
  have HSB : Hid (∀ wx : World, Below Wd.heap.size Wd wx → (fun wx : World => wx.cell? ⟨B3, 0, none⟩ = some (.int .i64 outOne.states) ∧ wx.cell? ⟨B3, 1, none⟩ = some (.int .i64 outOne.start) ∧ wx.cell? ⟨B3, 2, none⟩ = some (.slice fa2 fn2 fc2) ∧ wx.cell? ⟨B3, 3, none⟩ = some (.slice ea2 en2 ec2)) wx) := fun wx h => ⟨bel_c h hS0.1, bel_c h hS0.2.1, bel_c h hS0.2.2.1, bel_c h hS0.2.2.2⟩
  have HUD : Hid (Below w6.heap.size w6 Wd) := hud
  have HCALL : Hid (∀ (W : World) (N M : Nat), Below Wd.heap.size Wd W → ISlice W (.slice (some ⟨N, 0, none⟩) 2 2) oneD.final → ASlice W (.slice (some ⟨M, 0, none⟩) 1 1) oneD.arcs → Calls Try.prog 23 #[.agg #[.int .i64 2, .int .i64 0, .slice (some ⟨N, 0, none⟩) 2 2, .slice (some ⟨M, 0, none⟩) 1 1], .agg #[.int .i64 outOne.states, .int .i64 outOne.start, .slice fa2 fn2 fc2, .slice ea2 en2 ec2]] W fun e w' => FstRes W eithOne 0 e w') := fun W N M hb k1 k2 => by rw [← eith_one_is]; exact either_fine oneD outOne _ _ _ _ W k1 k2 (HW6.out W (bel_on HUD.out hb)).2.2.2.1 (HW6.out W (bel_on HUD.out hb)).2.2.2.2 check_one check_out (by decide) (by decide)
  have HWD : Hid (Wd = w6.drew) := hWd
  clear hWd hud u0 u1 u2 u3
  go_cut [5, 6] from 17 (fun t5 t6 wx => ∃ (B : Nat) (fa : Option Addr) (fn fc : Nat) (ea : Option Addr) (en ec : Nat), t5 = .pointer (some ⟨B, 0, none⟩) ∧ t6 = .int .i64 0 ∧ wx.heap[B]? = some (.cells #[.int .i64 eithOne.states, .int .i64 eithOne.start, .slice fa fn fc, .slice ea en ec] 25 (0, 0)) ∧ ISlice wx (.slice fa fn fc) eithOne.final ∧ ASlice wx (.slice ea en ec) eithOne.arcs ∧ Below w6.heap.size w6 wx)
  case first =>
    refine wp_region_noPanic ?_
    refine wp_region_U (fun wx : World => wx.cell? ⟨B3, 0, none⟩ = some (.int .i64 outOne.states) ∧ wx.cell? ⟨B3, 1, none⟩ = some (.int .i64 outOne.start) ∧ wx.cell? ⟨B3, 2, none⟩ = some (.slice fa2 fn2 fc2) ∧ wx.cell? ⟨B3, 3, none⟩ = some (.slice ea2 en2 ec2)) 8 (by kernel_rfl) (by rw [← HWD.out]; exact hS0) (fun _ => ?_)
    rw [← HWD.out]
    clear HWD
    refine wpAnyU_take (i := 1) (v := .agg #[.int .i64 outOne.states, .int .i64 outOne.start, .slice fa2 fn2 fc2, .slice ea2 en2 ec2]) rfl (by kernel_rfl) (by kernel_rfl) (by kernel_rfl) (by kernel_rfl) (fun _ _ _ h => h) (Or.inl ⟨by rfl, fun wl hSw => ?_⟩) hS0 ?_
    · (try dsimp only at hSw); go_simp
    refine wpAnyU_two (i := 0) (j := 6) rfl rfl (by kernel_rfl) (fun K hK => ?_) (fun K hK => ?_)
    · go_simp
      refine (one_ex Wd).mono ?_
      rintro e w1 ⟨N, M, rfl, hI1, hA1, hb1⟩
      have hbo : Below Wd.heap.size Wd w1 := hb1
      refine hK.out _ _ ⟨fun _ => HSB.out _ hbo, ?_⟩
      clear hK K
      refine wpAnyU_two (i := 2) (j := 6) rfl rfl (by kernel_rfl) (fun K hK => ?_) (fun K hK => ?_)
      · go_simp
        refine (HCALL.out w1 N M hbo hI1 hA1).mono ?_
        rintro e w2 ⟨fa, fn, fc, ea, en, ec, rfl, hI2, hA2, hb2⟩
        have hbc : Below Wd.heap.size Wd w2 := bel_on hbo hb2
        refine hK.out _ _ ⟨fun _ => HSB.out _ hbc, ?_⟩
        clear hK K
        refine wpAnyU_take (i := 3) (v := .tuple #[.agg #[.int .i64 eithOne.states, .int .i64 eithOne.start, .slice fa fn fc, .slice ea en ec], .int .i64 0]) rfl (by kernel_rfl) (by kernel_rfl) (by kernel_rfl) (by kernel_rfl) (fun _ _ _ h => h) (Or.inl ⟨by rfl, fun wl hSw => ?_⟩) (HSB.out _ hbc) ?_
        · (try dsimp only at hSw); go_simp
        refine wpAnyU_take (i := 4) (v := .agg #[.int .i64 eithOne.states, .int .i64 eithOne.start, .slice fa fn fc, .slice ea en ec]) rfl (by kernel_rfl) (by kernel_rfl) (by kernel_rfl) (by kernel_rfl) (fun _ _ _ h => h) (Or.inl ⟨by rfl, fun wl hSw => ?_⟩) (HSB.out _ hbc) ?_
        · (try dsimp only at hSw); go_simp
        refine wpAnyU_take (i := 5) (v := .int .i64 0) rfl (by kernel_rfl) (by kernel_rfl) (by kernel_rfl) (by kernel_rfl) (fun _ _ _ h => h) (Or.inl ⟨by rfl, fun wl hSw => ?_⟩) (HSB.out _ hbc) ?_
        · (try dsimp only at hSw); go_simp
        refine wpAnyU_one (i := 6) rfl (by kernel_rfl) (fun K hK => ?_)
        go_simp
        have hbz := bel_up hbc (.cells #[.int .i64 0, .int .i64 0, .slice none 0 0, .slice none 0 0] 25)
        refine hK.out _ _ ⟨fun _ => HSB.out _ hbz, ?_⟩
        clear hK K
        have hzP : ZBlock (w2.alloc (.cells #[.int .i64 0, .int .i64 0, .slice none 0 0, .slice none 0 0] 25)) w2.heap.size := heap_alloc_new w2 _
        obtain ⟨z0, z1, z2, z3, y0, y1, y2, y3⟩ := zfacts hzP
        have hM : Hid (∃ (B9 : Nat) (fa9 : Option Addr) (fn9 fc9 : Nat) (ea9 : Option Addr) (en9 ec9 : Nat), Value.pointer (some ⟨w2.heap.size, 0, none⟩) = .pointer (some ⟨B9, 0, none⟩) ∧ (w2.alloc (.cells #[.int .i64 eithOne.states, .int .i64 eithOne.start, .slice fa fn fc, .slice ea en ec] 25)).heap[B9]? = some (.cells #[.int .i64 eithOne.states, .int .i64 eithOne.start, .slice fa9 fn9 fc9, .slice ea9 en9 ec9] 25 (0, 0)) ∧ ISlice (w2.alloc (.cells #[.int .i64 eithOne.states, .int .i64 eithOne.start, .slice fa fn fc, .slice ea en ec] 25)) (.slice fa9 fn9 fc9) eithOne.final ∧ ASlice (w2.alloc (.cells #[.int .i64 eithOne.states, .int .i64 eithOne.start, .slice fa fn fc, .slice ea en ec] 25)) (.slice ea9 en9 ec9) eithOne.arcs ∧ Below w6.heap.size w6 (w2.alloc (.cells #[.int .i64 eithOne.states, .int .i64 eithOne.start, .slice fa fn fc, .slice ea en ec] 25))) := ⟨w2.heap.size, fa, fn, fc, ea, en, ec, rfl, heap_alloc_new w2 _, (hI2.slice.below (bel_up (bel_self w2) _)), (hA2.slice.below (bel_up (bel_self w2) _)), bel_on HUD.out (bel_up hbc _)⟩
        refine wpAnyU_one (i := 7) rfl (by kernel_rfl) (fun K hK => ?_)
        go_simp
        refine hK.out _ _ ⟨fun _ => HSB.out _ (bel_up hbc _), ?_⟩
        clear hK K
        refine wpAnyU_one (i := 8) rfl (by kernel_rfl) (fun K hK => ?_)
        go_simp
        refine hK.out _ _ ⟨fun h => absurd rfl h, ?_⟩
        clear hK K
        refine wpAnyU_done (by kernel_rfl) ?_ _
        refine NoPanic.normal ?_
        go_wp2
        go_meet
        case rel =>
          obtain ⟨B9, fa9, fn9, fc9, ea9, en9, ec9, q1, q3, q4, q5, q6⟩ := hM.out
          exact ⟨B9, fa9, fn9, fc9, ea9, en9, ec9, q1, rfl, q3, q4, q5, q6⟩
      · go_simp
        have hbz := bel_up hbo (.cells #[.int .i64 0, .int .i64 0, .slice none 0 0, .slice none 0 0] 25)
        refine hK.out _ _ ⟨fun _ => HSB.out _ hbz, ?_⟩
        clear hK K
        have hzP : ZBlock (w1.alloc (.cells #[.int .i64 0, .int .i64 0, .slice none 0 0, .slice none 0 0] 25)) w1.heap.size := heap_alloc_new w1 _
        refine wpAnyU_one (i := 2) rfl (by kernel_rfl) (fun K hK => ?_)
        go_simp
        refine (HCALL.out _ N M hbz (hI1.below (bel_up (bel_self w1) _)) (hA1.below (bel_up (bel_self w1) _))).mono ?_
        rintro e w2 ⟨fa, fn, fc, ea, en, ec, rfl, hI2, hA2, hb2⟩
        have hbc : Below Wd.heap.size Wd w2 := bel_on hbz hb2
        refine hK.out _ _ ⟨fun _ => HSB.out _ hbc, ?_⟩
        clear hK K
        refine wpAnyU_take (i := 3) (v := .tuple #[.agg #[.int .i64 eithOne.states, .int .i64 eithOne.start, .slice fa fn fc, .slice ea en ec], .int .i64 0]) rfl (by kernel_rfl) (by kernel_rfl) (by kernel_rfl) (by kernel_rfl) (fun _ _ _ h => h) (Or.inl ⟨by rfl, fun wl hSw => ?_⟩) (HSB.out _ hbc) ?_
        · (try dsimp only at hSw); go_simp
        refine wpAnyU_take (i := 4) (v := .agg #[.int .i64 eithOne.states, .int .i64 eithOne.start, .slice fa fn fc, .slice ea en ec]) rfl (by kernel_rfl) (by kernel_rfl) (by kernel_rfl) (by kernel_rfl) (fun _ _ _ h => h) (Or.inl ⟨by rfl, fun wl hSw => ?_⟩) (HSB.out _ hbc) ?_
        · (try dsimp only at hSw); go_simp
        refine wpAnyU_take (i := 5) (v := .int .i64 0) rfl (by kernel_rfl) (by kernel_rfl) (by kernel_rfl) (by kernel_rfl) (fun _ _ _ h => h) (Or.inl ⟨by rfl, fun wl hSw => ?_⟩) (HSB.out _ hbc) ?_
        · (try dsimp only at hSw); go_simp
        have hz2 := heap_bel hb2 hzP
        have hzlt := heap_lt hzP
        obtain ⟨z0, z1, z2, z3, y0, y1, y2, y3⟩ := zfacts hz2
        have hBw : Wd.heap.size ≤ w1.heap.size := hbo.size
        have hM : Hid (∃ (B9 : Nat) (fa9 : Option Addr) (fn9 fc9 : Nat) (ea9 : Option Addr) (en9 ec9 : Nat), Value.pointer (some ⟨w1.heap.size, 0, none⟩) = .pointer (some ⟨B9, 0, none⟩) ∧ (((((w2.setCell ⟨w1.heap.size, 0, none⟩ (.int .i64 eithOne.states)).setCell ⟨w1.heap.size, 1, none⟩ (.int .i64 eithOne.start)).setCell ⟨w1.heap.size, 2, none⟩ (.slice fa fn fc)).setCell ⟨w1.heap.size, 3, none⟩ (.slice ea en ec))).heap[B9]? = some (.cells #[.int .i64 eithOne.states, .int .i64 eithOne.start, .slice fa9 fn9 fc9, .slice ea9 en9 ec9] 25 (0, 0)) ∧ ISlice (((((w2.setCell ⟨w1.heap.size, 0, none⟩ (.int .i64 eithOne.states)).setCell ⟨w1.heap.size, 1, none⟩ (.int .i64 eithOne.start)).setCell ⟨w1.heap.size, 2, none⟩ (.slice fa fn fc)).setCell ⟨w1.heap.size, 3, none⟩ (.slice ea en ec))) (.slice fa9 fn9 fc9) eithOne.final ∧ ASlice (((((w2.setCell ⟨w1.heap.size, 0, none⟩ (.int .i64 eithOne.states)).setCell ⟨w1.heap.size, 1, none⟩ (.int .i64 eithOne.start)).setCell ⟨w1.heap.size, 2, none⟩ (.slice fa fn fc)).setCell ⟨w1.heap.size, 3, none⟩ (.slice ea en ec))) (.slice ea9 en9 ec9) eithOne.arcs ∧ Below w6.heap.size w6 (((((w2.setCell ⟨w1.heap.size, 0, none⟩ (.int .i64 eithOne.states)).setCell ⟨w1.heap.size, 1, none⟩ (.int .i64 eithOne.start)).setCell ⟨w1.heap.size, 2, none⟩ (.slice fa fn fc)).setCell ⟨w1.heap.size, 3, none⟩ (.slice ea en ec)))) := ⟨w1.heap.size, fa, fn, fc, ea, en, ec, rfl, box_set4S hz2 _ _ _ _, (far_set hI2 hA2 hzP _ _ _ _).1, (far_set hI2 hA2 hzP _ _ _ _).2, bel_on HUD.out (bel4 hbc hBw _ _ _ _)⟩
        refine wpAnyU_one (i := 7) rfl (by kernel_rfl) (fun K hK => ?_)
        go_simp
        refine hK.out _ _ ⟨fun _ => HSB.out _ (bel4 hbc hBw _ _ _ _), ?_⟩
        clear hK K
        refine wpAnyU_one (i := 8) rfl (by kernel_rfl) (fun K hK => ?_)
        go_simp
        refine hK.out _ _ ⟨fun h => absurd rfl h, ?_⟩
        clear hK K
        refine wpAnyU_done (by kernel_rfl) ?_ _
        refine NoPanic.normal ?_
        go_wp2
        go_meet
        case rel =>
          obtain ⟨B9, fa9, fn9, fc9, ea9, en9, ec9, q1, q3, q4, q5, q6⟩ := hM.out
          exact ⟨B9, fa9, fn9, fc9, ea9, en9, ec9, q1, rfl, q3, q4, q5, q6⟩
    · go_simp
      have hbz := bel_up (bel_self Wd) (.cells #[.int .i64 0, .int .i64 0, .slice none 0 0, .slice none 0 0] 25)
      refine hK.out _ _ ⟨fun _ => HSB.out _ hbz, ?_⟩
      clear hK K
      have hzQ : ZBlock (Wd.alloc (.cells #[.int .i64 0, .int .i64 0, .slice none 0 0, .slice none 0 0] 25)) Wd.heap.size := heap_alloc_new Wd _
      refine wpAnyU_one (i := 0) rfl (by kernel_rfl) (fun K hK => ?_)
      go_simp
      refine (one_ex _).mono ?_
      rintro e w1 ⟨N, M, rfl, hI1, hA1, hb1⟩
      have hbo : Below Wd.heap.size Wd w1 := bel_on hbz hb1
      refine hK.out _ _ ⟨fun _ => HSB.out _ hbo, ?_⟩
      clear hK K
      have hzP := heap_bel hb1 hzQ
      refine wpAnyU_one (i := 2) rfl (by kernel_rfl) (fun K hK => ?_)
      go_simp
      refine (HCALL.out w1 N M hbo hI1 hA1).mono ?_
      rintro e w2 ⟨fa, fn, fc, ea, en, ec, rfl, hI2, hA2, hb2⟩
      have hbc : Below Wd.heap.size Wd w2 := bel_on hbo hb2
      refine hK.out _ _ ⟨fun _ => HSB.out _ hbc, ?_⟩
      clear hK K
      refine wpAnyU_take (i := 3) (v := .tuple #[.agg #[.int .i64 eithOne.states, .int .i64 eithOne.start, .slice fa fn fc, .slice ea en ec], .int .i64 0]) rfl (by kernel_rfl) (by kernel_rfl) (by kernel_rfl) (by kernel_rfl) (fun _ _ _ h => h) (Or.inl ⟨by rfl, fun wl hSw => ?_⟩) (HSB.out _ hbc) ?_
      · (try dsimp only at hSw); go_simp
      refine wpAnyU_take (i := 4) (v := .agg #[.int .i64 eithOne.states, .int .i64 eithOne.start, .slice fa fn fc, .slice ea en ec]) rfl (by kernel_rfl) (by kernel_rfl) (by kernel_rfl) (by kernel_rfl) (fun _ _ _ h => h) (Or.inl ⟨by rfl, fun wl hSw => ?_⟩) (HSB.out _ hbc) ?_
      · (try dsimp only at hSw); go_simp
      refine wpAnyU_take (i := 5) (v := .int .i64 0) rfl (by kernel_rfl) (by kernel_rfl) (by kernel_rfl) (by kernel_rfl) (fun _ _ _ h => h) (Or.inl ⟨by rfl, fun wl hSw => ?_⟩) (HSB.out _ hbc) ?_
      · (try dsimp only at hSw); go_simp
      have hz2 := heap_bel hb2 hzP
      have hzlt := heap_lt hzP
      obtain ⟨z0, z1, z2, z3, y0, y1, y2, y3⟩ := zfacts hz2
      have hBw : Wd.heap.size ≤ Wd.heap.size := Nat.le_refl _
      have hM : Hid (∃ (B9 : Nat) (fa9 : Option Addr) (fn9 fc9 : Nat) (ea9 : Option Addr) (en9 ec9 : Nat), Value.pointer (some ⟨Wd.heap.size, 0, none⟩) = .pointer (some ⟨B9, 0, none⟩) ∧ (((((w2.setCell ⟨Wd.heap.size, 0, none⟩ (.int .i64 eithOne.states)).setCell ⟨Wd.heap.size, 1, none⟩ (.int .i64 eithOne.start)).setCell ⟨Wd.heap.size, 2, none⟩ (.slice fa fn fc)).setCell ⟨Wd.heap.size, 3, none⟩ (.slice ea en ec))).heap[B9]? = some (.cells #[.int .i64 eithOne.states, .int .i64 eithOne.start, .slice fa9 fn9 fc9, .slice ea9 en9 ec9] 25 (0, 0)) ∧ ISlice (((((w2.setCell ⟨Wd.heap.size, 0, none⟩ (.int .i64 eithOne.states)).setCell ⟨Wd.heap.size, 1, none⟩ (.int .i64 eithOne.start)).setCell ⟨Wd.heap.size, 2, none⟩ (.slice fa fn fc)).setCell ⟨Wd.heap.size, 3, none⟩ (.slice ea en ec))) (.slice fa9 fn9 fc9) eithOne.final ∧ ASlice (((((w2.setCell ⟨Wd.heap.size, 0, none⟩ (.int .i64 eithOne.states)).setCell ⟨Wd.heap.size, 1, none⟩ (.int .i64 eithOne.start)).setCell ⟨Wd.heap.size, 2, none⟩ (.slice fa fn fc)).setCell ⟨Wd.heap.size, 3, none⟩ (.slice ea en ec))) (.slice ea9 en9 ec9) eithOne.arcs ∧ Below w6.heap.size w6 (((((w2.setCell ⟨Wd.heap.size, 0, none⟩ (.int .i64 eithOne.states)).setCell ⟨Wd.heap.size, 1, none⟩ (.int .i64 eithOne.start)).setCell ⟨Wd.heap.size, 2, none⟩ (.slice fa fn fc)).setCell ⟨Wd.heap.size, 3, none⟩ (.slice ea en ec)))) := ⟨Wd.heap.size, fa, fn, fc, ea, en, ec, rfl, box_set4S hz2 _ _ _ _, (far_set hI2 hA2 hzP _ _ _ _).1, (far_set hI2 hA2 hzP _ _ _ _).2, bel_on HUD.out (bel4 hbc hBw _ _ _ _)⟩
      refine wpAnyU_one (i := 7) rfl (by kernel_rfl) (fun K hK => ?_)
      go_simp
      refine hK.out _ _ ⟨fun _ => HSB.out _ (bel4 hbc hBw _ _ _ _), ?_⟩
      clear hK K
      refine wpAnyU_one (i := 8) rfl (by kernel_rfl) (fun K hK => ?_)
      go_simp
      refine hK.out _ _ ⟨fun h => absurd rfl h, ?_⟩
      clear hK K
      refine wpAnyU_done (by kernel_rfl) ?_ _
      refine NoPanic.normal ?_
      go_wp2
      go_meet
      case rel =>
        obtain ⟨B9, fa9, fn9, fc9, ea9, en9, ec9, q1, q3, q4, q5, q6⟩ := hM.out
        exact ⟨B9, fa9, fn9, fc9, ea9, en9, ec9, q1, rfl, q3, q4, q5, q6⟩
  case rest =>
    clear HSB HUD HCALL HWD hS0
    obtain ⟨B5, fa5, fn5, fc5, ea5, en5, ec5, rfl, rfl, hx7, hI7, hA7, hb7⟩ := hcut
    rename World => w7
    have hx7' := (HW6.out w7 hb7).1
    have u0 := box_cell (k := 0) hx7' rfl
    have u1 := box_cell (k := 1) hx7' rfl
    have u2 := box_cell (k := 2) hx7' rfl
    have u3 := box_cell (k := 3) hx7' rfl
    clear hx7'
    have HW7 : Hid (∀ W, Below w7.heap.size w7 W → W.heap[B5]? = some (.cells #[.int .i64 eithOne.states, .int .i64 eithOne.start, .slice fa5 fn5 fc5, .slice ea5 en5 ec5] 25 (0, 0)) ∧ ISlice W (.slice fa5 fn5 fc5) eithOne.final ∧ ASlice W (.slice ea5 en5 ec5) eithOne.arcs ∧ Below w6.heap.size w6 W) := fun W h => ⟨heap_bel h hx7, hI7.below h, hA7.below h, bel_on hb7 h⟩
    clear hx7 hI7 hA7 hb7
    go_wp2_with fail
    obtain ⟨Wd, hWd⟩ : ∃ Wd, Wd = w7.drew := ⟨_, rfl⟩
    have hud : Below w7.heap.size w7 Wd := by rw [hWd]; exact (bel_self w7).drew
    have hS0 : (fun wx : World => wx.cell? ⟨B1, 0, none⟩ = some (.int .i64 invOne.states) ∧ wx.cell? ⟨B1, 1, none⟩ = some (.int .i64 invOne.start) ∧ wx.cell? ⟨B1, 2, none⟩ = some (.slice fa1 fn1 fc1) ∧ wx.cell? ⟨B1, 3, none⟩ = some (.slice ea1 en1 ec1)) Wd := ⟨bel_c hud u0, bel_c hud u1, bel_c hud u2, bel_c hud u3⟩
    have HSB : Hid (∀ wx : World, Below Wd.heap.size Wd wx → (fun wx : World => wx.cell? ⟨B1, 0, none⟩ = some (.int .i64 invOne.states) ∧ wx.cell? ⟨B1, 1, none⟩ = some (.int .i64 invOne.start) ∧ wx.cell? ⟨B1, 2, none⟩ = some (.slice fa1 fn1 fc1) ∧ wx.cell? ⟨B1, 3, none⟩ = some (.slice ea1 en1 ec1)) wx) := fun wx h => ⟨bel_c h hS0.1, bel_c h hS0.2.1, bel_c h hS0.2.2.1, bel_c h hS0.2.2.2⟩
    have HUD : Hid (Below w7.heap.size w7 Wd) := hud
    have HCALL : Hid (∀ (W : World) (N M : Nat), Below Wd.heap.size Wd W → ISlice W (.slice (some ⟨N, 0, none⟩) 2 2) oneD.final → ASlice W (.slice (some ⟨M, 0, none⟩) 1 1) oneD.arcs → Calls Try.prog 24 #[.agg #[.int .i64 2, .int .i64 0, .slice (some ⟨N, 0, none⟩) 2 2, .slice (some ⟨M, 0, none⟩) 1 1], .agg #[.int .i64 invOne.states, .int .i64 invOne.start, .slice fa1 fn1 fc1, .slice ea1 en1 ec1]] W fun e w' => FstRes W behOne 0 e w') := fun W N M hb k1 k2 => by rw [← beh_one_is]; exact behind_fine oneD invOne _ _ _ _ W k1 k2 (HW6.out W ((HW7.out W (bel_on HUD.out hb)).2.2.2)).2.1 (HW6.out W ((HW7.out W (bel_on HUD.out hb)).2.2.2)).2.2.1 check_one check_inv (by decide) (by decide)
    have HWD : Hid (Wd = w7.drew) := hWd
    clear hWd hud u0 u1 u2 u3
    go_cut [7, 8] from 17 (fun t7 t8 wx => ∃ (B : Nat) (fa : Option Addr) (fn fc : Nat) (ea : Option Addr) (en ec : Nat), t7 = .pointer (some ⟨B, 0, none⟩) ∧ t8 = .int .i64 0 ∧ wx.heap[B]? = some (.cells #[.int .i64 behOne.states, .int .i64 behOne.start, .slice fa fn fc, .slice ea en ec] 25 (0, 0)) ∧ ISlice wx (.slice fa fn fc) behOne.final ∧ ASlice wx (.slice ea en ec) behOne.arcs ∧ Below w7.heap.size w7 wx)
    case first =>
      refine wp_region_noPanic ?_
      refine wp_region_U (fun wx : World => wx.cell? ⟨B1, 0, none⟩ = some (.int .i64 invOne.states) ∧ wx.cell? ⟨B1, 1, none⟩ = some (.int .i64 invOne.start) ∧ wx.cell? ⟨B1, 2, none⟩ = some (.slice fa1 fn1 fc1) ∧ wx.cell? ⟨B1, 3, none⟩ = some (.slice ea1 en1 ec1)) 8 (by kernel_rfl) (by rw [← HWD.out]; exact hS0) (fun _ => ?_)
      rw [← HWD.out]
      clear HWD
      refine wpAnyU_take (i := 1) (v := .agg #[.int .i64 invOne.states, .int .i64 invOne.start, .slice fa1 fn1 fc1, .slice ea1 en1 ec1]) rfl (by kernel_rfl) (by kernel_rfl) (by kernel_rfl) (by kernel_rfl) (fun _ _ _ h => h) (Or.inl ⟨by rfl, fun wl hSw => ?_⟩) hS0 ?_
      · (try dsimp only at hSw); go_simp
      refine wpAnyU_two (i := 0) (j := 6) rfl rfl (by kernel_rfl) (fun K hK => ?_) (fun K hK => ?_)
      · go_simp
        refine (one_ex Wd).mono ?_
        rintro e w1 ⟨N, M, rfl, hI1, hA1, hb1⟩
        have hbo : Below Wd.heap.size Wd w1 := hb1
        refine hK.out _ _ ⟨fun _ => HSB.out _ hbo, ?_⟩
        clear hK K
        refine wpAnyU_two (i := 2) (j := 6) rfl rfl (by kernel_rfl) (fun K hK => ?_) (fun K hK => ?_)
        · go_simp
          refine (HCALL.out w1 N M hbo hI1 hA1).mono ?_
          rintro e w2 ⟨fa, fn, fc, ea, en, ec, rfl, hI2, hA2, hb2⟩
          have hbc : Below Wd.heap.size Wd w2 := bel_on hbo hb2
          refine hK.out _ _ ⟨fun _ => HSB.out _ hbc, ?_⟩
          clear hK K
          refine wpAnyU_take (i := 3) (v := .tuple #[.agg #[.int .i64 behOne.states, .int .i64 behOne.start, .slice fa fn fc, .slice ea en ec], .int .i64 0]) rfl (by kernel_rfl) (by kernel_rfl) (by kernel_rfl) (by kernel_rfl) (fun _ _ _ h => h) (Or.inl ⟨by rfl, fun wl hSw => ?_⟩) (HSB.out _ hbc) ?_
          · (try dsimp only at hSw); go_simp
          refine wpAnyU_take (i := 4) (v := .agg #[.int .i64 behOne.states, .int .i64 behOne.start, .slice fa fn fc, .slice ea en ec]) rfl (by kernel_rfl) (by kernel_rfl) (by kernel_rfl) (by kernel_rfl) (fun _ _ _ h => h) (Or.inl ⟨by rfl, fun wl hSw => ?_⟩) (HSB.out _ hbc) ?_
          · (try dsimp only at hSw); go_simp
          refine wpAnyU_take (i := 5) (v := .int .i64 0) rfl (by kernel_rfl) (by kernel_rfl) (by kernel_rfl) (by kernel_rfl) (fun _ _ _ h => h) (Or.inl ⟨by rfl, fun wl hSw => ?_⟩) (HSB.out _ hbc) ?_
          · (try dsimp only at hSw); go_simp
          refine wpAnyU_one (i := 6) rfl (by kernel_rfl) (fun K hK => ?_)
          go_simp
          have hbz := bel_up hbc (.cells #[.int .i64 0, .int .i64 0, .slice none 0 0, .slice none 0 0] 25)
          refine hK.out _ _ ⟨fun _ => HSB.out _ hbz, ?_⟩
          clear hK K
          have hzP : ZBlock (w2.alloc (.cells #[.int .i64 0, .int .i64 0, .slice none 0 0, .slice none 0 0] 25)) w2.heap.size := heap_alloc_new w2 _
          obtain ⟨z0, z1, z2, z3, y0, y1, y2, y3⟩ := zfacts hzP
          have hM : Hid (∃ (B9 : Nat) (fa9 : Option Addr) (fn9 fc9 : Nat) (ea9 : Option Addr) (en9 ec9 : Nat), Value.pointer (some ⟨w2.heap.size, 0, none⟩) = .pointer (some ⟨B9, 0, none⟩) ∧ (w2.alloc (.cells #[.int .i64 behOne.states, .int .i64 behOne.start, .slice fa fn fc, .slice ea en ec] 25)).heap[B9]? = some (.cells #[.int .i64 behOne.states, .int .i64 behOne.start, .slice fa9 fn9 fc9, .slice ea9 en9 ec9] 25 (0, 0)) ∧ ISlice (w2.alloc (.cells #[.int .i64 behOne.states, .int .i64 behOne.start, .slice fa fn fc, .slice ea en ec] 25)) (.slice fa9 fn9 fc9) behOne.final ∧ ASlice (w2.alloc (.cells #[.int .i64 behOne.states, .int .i64 behOne.start, .slice fa fn fc, .slice ea en ec] 25)) (.slice ea9 en9 ec9) behOne.arcs ∧ Below w7.heap.size w7 (w2.alloc (.cells #[.int .i64 behOne.states, .int .i64 behOne.start, .slice fa fn fc, .slice ea en ec] 25))) := ⟨w2.heap.size, fa, fn, fc, ea, en, ec, rfl, heap_alloc_new w2 _, (hI2.slice.below (bel_up (bel_self w2) _)), (hA2.slice.below (bel_up (bel_self w2) _)), bel_on HUD.out (bel_up hbc _)⟩
          refine wpAnyU_one (i := 7) rfl (by kernel_rfl) (fun K hK => ?_)
          go_simp
          refine hK.out _ _ ⟨fun _ => HSB.out _ (bel_up hbc _), ?_⟩
          clear hK K
          refine wpAnyU_one (i := 8) rfl (by kernel_rfl) (fun K hK => ?_)
          go_simp
          refine hK.out _ _ ⟨fun h => absurd rfl h, ?_⟩
          clear hK K
          refine wpAnyU_done (by kernel_rfl) ?_ _
          refine NoPanic.normal ?_
          go_wp2
          go_meet
          case rel =>
            obtain ⟨B9, fa9, fn9, fc9, ea9, en9, ec9, q1, q3, q4, q5, q6⟩ := hM.out
            exact ⟨B9, fa9, fn9, fc9, ea9, en9, ec9, q1, rfl, q3, q4, q5, q6⟩
        · go_simp
          have hbz := bel_up hbo (.cells #[.int .i64 0, .int .i64 0, .slice none 0 0, .slice none 0 0] 25)
          refine hK.out _ _ ⟨fun _ => HSB.out _ hbz, ?_⟩
          clear hK K
          have hzP : ZBlock (w1.alloc (.cells #[.int .i64 0, .int .i64 0, .slice none 0 0, .slice none 0 0] 25)) w1.heap.size := heap_alloc_new w1 _
          refine wpAnyU_one (i := 2) rfl (by kernel_rfl) (fun K hK => ?_)
          go_simp
          refine (HCALL.out _ N M hbz (hI1.below (bel_up (bel_self w1) _)) (hA1.below (bel_up (bel_self w1) _))).mono ?_
          rintro e w2 ⟨fa, fn, fc, ea, en, ec, rfl, hI2, hA2, hb2⟩
          have hbc : Below Wd.heap.size Wd w2 := bel_on hbz hb2
          refine hK.out _ _ ⟨fun _ => HSB.out _ hbc, ?_⟩
          clear hK K
          refine wpAnyU_take (i := 3) (v := .tuple #[.agg #[.int .i64 behOne.states, .int .i64 behOne.start, .slice fa fn fc, .slice ea en ec], .int .i64 0]) rfl (by kernel_rfl) (by kernel_rfl) (by kernel_rfl) (by kernel_rfl) (fun _ _ _ h => h) (Or.inl ⟨by rfl, fun wl hSw => ?_⟩) (HSB.out _ hbc) ?_
          · (try dsimp only at hSw); go_simp
          refine wpAnyU_take (i := 4) (v := .agg #[.int .i64 behOne.states, .int .i64 behOne.start, .slice fa fn fc, .slice ea en ec]) rfl (by kernel_rfl) (by kernel_rfl) (by kernel_rfl) (by kernel_rfl) (fun _ _ _ h => h) (Or.inl ⟨by rfl, fun wl hSw => ?_⟩) (HSB.out _ hbc) ?_
          · (try dsimp only at hSw); go_simp
          refine wpAnyU_take (i := 5) (v := .int .i64 0) rfl (by kernel_rfl) (by kernel_rfl) (by kernel_rfl) (by kernel_rfl) (fun _ _ _ h => h) (Or.inl ⟨by rfl, fun wl hSw => ?_⟩) (HSB.out _ hbc) ?_
          · (try dsimp only at hSw); go_simp
          have hz2 := heap_bel hb2 hzP
          have hzlt := heap_lt hzP
          obtain ⟨z0, z1, z2, z3, y0, y1, y2, y3⟩ := zfacts hz2
          have hBw : Wd.heap.size ≤ w1.heap.size := hbo.size
          have hM : Hid (∃ (B9 : Nat) (fa9 : Option Addr) (fn9 fc9 : Nat) (ea9 : Option Addr) (en9 ec9 : Nat), Value.pointer (some ⟨w1.heap.size, 0, none⟩) = .pointer (some ⟨B9, 0, none⟩) ∧ (((((w2.setCell ⟨w1.heap.size, 0, none⟩ (.int .i64 behOne.states)).setCell ⟨w1.heap.size, 1, none⟩ (.int .i64 behOne.start)).setCell ⟨w1.heap.size, 2, none⟩ (.slice fa fn fc)).setCell ⟨w1.heap.size, 3, none⟩ (.slice ea en ec))).heap[B9]? = some (.cells #[.int .i64 behOne.states, .int .i64 behOne.start, .slice fa9 fn9 fc9, .slice ea9 en9 ec9] 25 (0, 0)) ∧ ISlice (((((w2.setCell ⟨w1.heap.size, 0, none⟩ (.int .i64 behOne.states)).setCell ⟨w1.heap.size, 1, none⟩ (.int .i64 behOne.start)).setCell ⟨w1.heap.size, 2, none⟩ (.slice fa fn fc)).setCell ⟨w1.heap.size, 3, none⟩ (.slice ea en ec))) (.slice fa9 fn9 fc9) behOne.final ∧ ASlice (((((w2.setCell ⟨w1.heap.size, 0, none⟩ (.int .i64 behOne.states)).setCell ⟨w1.heap.size, 1, none⟩ (.int .i64 behOne.start)).setCell ⟨w1.heap.size, 2, none⟩ (.slice fa fn fc)).setCell ⟨w1.heap.size, 3, none⟩ (.slice ea en ec))) (.slice ea9 en9 ec9) behOne.arcs ∧ Below w7.heap.size w7 (((((w2.setCell ⟨w1.heap.size, 0, none⟩ (.int .i64 behOne.states)).setCell ⟨w1.heap.size, 1, none⟩ (.int .i64 behOne.start)).setCell ⟨w1.heap.size, 2, none⟩ (.slice fa fn fc)).setCell ⟨w1.heap.size, 3, none⟩ (.slice ea en ec)))) := ⟨w1.heap.size, fa, fn, fc, ea, en, ec, rfl, box_set4S hz2 _ _ _ _, (far_set hI2 hA2 hzP _ _ _ _).1, (far_set hI2 hA2 hzP _ _ _ _).2, bel_on HUD.out (bel4 hbc hBw _ _ _ _)⟩
          refine wpAnyU_one (i := 7) rfl (by kernel_rfl) (fun K hK => ?_)
          go_simp
          refine hK.out _ _ ⟨fun _ => HSB.out _ (bel4 hbc hBw _ _ _ _), ?_⟩
          clear hK K
          refine wpAnyU_one (i := 8) rfl (by kernel_rfl) (fun K hK => ?_)
          go_simp
          refine hK.out _ _ ⟨fun h => absurd rfl h, ?_⟩
          clear hK K
          refine wpAnyU_done (by kernel_rfl) ?_ _
          refine NoPanic.normal ?_
          go_wp2
          go_meet
          case rel =>
            obtain ⟨B9, fa9, fn9, fc9, ea9, en9, ec9, q1, q3, q4, q5, q6⟩ := hM.out
            exact ⟨B9, fa9, fn9, fc9, ea9, en9, ec9, q1, rfl, q3, q4, q5, q6⟩
      · go_simp
        have hbz := bel_up (bel_self Wd) (.cells #[.int .i64 0, .int .i64 0, .slice none 0 0, .slice none 0 0] 25)
        refine hK.out _ _ ⟨fun _ => HSB.out _ hbz, ?_⟩
        clear hK K
        have hzQ : ZBlock (Wd.alloc (.cells #[.int .i64 0, .int .i64 0, .slice none 0 0, .slice none 0 0] 25)) Wd.heap.size := heap_alloc_new Wd _
        refine wpAnyU_one (i := 0) rfl (by kernel_rfl) (fun K hK => ?_)
        go_simp
        refine (one_ex _).mono ?_
        rintro e w1 ⟨N, M, rfl, hI1, hA1, hb1⟩
        have hbo : Below Wd.heap.size Wd w1 := bel_on hbz hb1
        refine hK.out _ _ ⟨fun _ => HSB.out _ hbo, ?_⟩
        clear hK K
        have hzP := heap_bel hb1 hzQ
        refine wpAnyU_one (i := 2) rfl (by kernel_rfl) (fun K hK => ?_)
        go_simp
        refine (HCALL.out w1 N M hbo hI1 hA1).mono ?_
        rintro e w2 ⟨fa, fn, fc, ea, en, ec, rfl, hI2, hA2, hb2⟩
        have hbc : Below Wd.heap.size Wd w2 := bel_on hbo hb2
        refine hK.out _ _ ⟨fun _ => HSB.out _ hbc, ?_⟩
        clear hK K
        refine wpAnyU_take (i := 3) (v := .tuple #[.agg #[.int .i64 behOne.states, .int .i64 behOne.start, .slice fa fn fc, .slice ea en ec], .int .i64 0]) rfl (by kernel_rfl) (by kernel_rfl) (by kernel_rfl) (by kernel_rfl) (fun _ _ _ h => h) (Or.inl ⟨by rfl, fun wl hSw => ?_⟩) (HSB.out _ hbc) ?_
        · (try dsimp only at hSw); go_simp
        refine wpAnyU_take (i := 4) (v := .agg #[.int .i64 behOne.states, .int .i64 behOne.start, .slice fa fn fc, .slice ea en ec]) rfl (by kernel_rfl) (by kernel_rfl) (by kernel_rfl) (by kernel_rfl) (fun _ _ _ h => h) (Or.inl ⟨by rfl, fun wl hSw => ?_⟩) (HSB.out _ hbc) ?_
        · (try dsimp only at hSw); go_simp
        refine wpAnyU_take (i := 5) (v := .int .i64 0) rfl (by kernel_rfl) (by kernel_rfl) (by kernel_rfl) (by kernel_rfl) (fun _ _ _ h => h) (Or.inl ⟨by rfl, fun wl hSw => ?_⟩) (HSB.out _ hbc) ?_
        · (try dsimp only at hSw); go_simp
        have hz2 := heap_bel hb2 hzP
        have hzlt := heap_lt hzP
        obtain ⟨z0, z1, z2, z3, y0, y1, y2, y3⟩ := zfacts hz2
        have hBw : Wd.heap.size ≤ Wd.heap.size := Nat.le_refl _
        have hM : Hid (∃ (B9 : Nat) (fa9 : Option Addr) (fn9 fc9 : Nat) (ea9 : Option Addr) (en9 ec9 : Nat), Value.pointer (some ⟨Wd.heap.size, 0, none⟩) = .pointer (some ⟨B9, 0, none⟩) ∧ (((((w2.setCell ⟨Wd.heap.size, 0, none⟩ (.int .i64 behOne.states)).setCell ⟨Wd.heap.size, 1, none⟩ (.int .i64 behOne.start)).setCell ⟨Wd.heap.size, 2, none⟩ (.slice fa fn fc)).setCell ⟨Wd.heap.size, 3, none⟩ (.slice ea en ec))).heap[B9]? = some (.cells #[.int .i64 behOne.states, .int .i64 behOne.start, .slice fa9 fn9 fc9, .slice ea9 en9 ec9] 25 (0, 0)) ∧ ISlice (((((w2.setCell ⟨Wd.heap.size, 0, none⟩ (.int .i64 behOne.states)).setCell ⟨Wd.heap.size, 1, none⟩ (.int .i64 behOne.start)).setCell ⟨Wd.heap.size, 2, none⟩ (.slice fa fn fc)).setCell ⟨Wd.heap.size, 3, none⟩ (.slice ea en ec))) (.slice fa9 fn9 fc9) behOne.final ∧ ASlice (((((w2.setCell ⟨Wd.heap.size, 0, none⟩ (.int .i64 behOne.states)).setCell ⟨Wd.heap.size, 1, none⟩ (.int .i64 behOne.start)).setCell ⟨Wd.heap.size, 2, none⟩ (.slice fa fn fc)).setCell ⟨Wd.heap.size, 3, none⟩ (.slice ea en ec))) (.slice ea9 en9 ec9) behOne.arcs ∧ Below w7.heap.size w7 (((((w2.setCell ⟨Wd.heap.size, 0, none⟩ (.int .i64 behOne.states)).setCell ⟨Wd.heap.size, 1, none⟩ (.int .i64 behOne.start)).setCell ⟨Wd.heap.size, 2, none⟩ (.slice fa fn fc)).setCell ⟨Wd.heap.size, 3, none⟩ (.slice ea en ec)))) := ⟨Wd.heap.size, fa, fn, fc, ea, en, ec, rfl, box_set4S hz2 _ _ _ _, (far_set hI2 hA2 hzP _ _ _ _).1, (far_set hI2 hA2 hzP _ _ _ _).2, bel_on HUD.out (bel4 hbc hBw _ _ _ _)⟩
        refine wpAnyU_one (i := 7) rfl (by kernel_rfl) (fun K hK => ?_)
        go_simp
        refine hK.out _ _ ⟨fun _ => HSB.out _ (bel4 hbc hBw _ _ _ _), ?_⟩
        clear hK K
        refine wpAnyU_one (i := 8) rfl (by kernel_rfl) (fun K hK => ?_)
        go_simp
        refine hK.out _ _ ⟨fun h => absurd rfl h, ?_⟩
        clear hK K
        refine wpAnyU_done (by kernel_rfl) ?_ _
        refine NoPanic.normal ?_
        go_wp2
        go_meet
        case rel =>
          obtain ⟨B9, fa9, fn9, fc9, ea9, en9, ec9, q1, q3, q4, q5, q6⟩ := hM.out
          exact ⟨B9, fa9, fn9, fc9, ea9, en9, ec9, q1, rfl, q3, q4, q5, q6⟩
    case rest =>
      clear HSB HUD HCALL HWD hS0
      obtain ⟨B7, fa7, fn7, fc7, ea7, en7, ec7, rfl, rfl, hx8, hI8, hA8, hb8⟩ := hcut
      rename World => w8
      have HW8 : Hid (∀ W, Below w8.heap.size w8 W → W.heap[B5]? = some (.cells #[.int .i64 eithOne.states, .int .i64 eithOne.start, .slice fa5 fn5 fc5, .slice ea5 en5 ec5] 25 (0, 0)) ∧ ISlice W (.slice fa5 fn5 fc5) eithOne.final ∧ ASlice W (.slice ea5 en5 ec5) eithOne.arcs ∧ W.heap[B7]? = some (.cells #[.int .i64 behOne.states, .int .i64 behOne.start, .slice fa7 fn7 fc7, .slice ea7 en7 ec7] 25 (0, 0)) ∧ ISlice W (.slice fa7 fn7 fc7) behOne.final ∧ ASlice W (.slice ea7 en7 ec7) behOne.arcs ∧ Below w.heap.size w W) := fun W h => ⟨(HW7.out W (bel_on hb8 h)).1, (HW7.out W (bel_on hb8 h)).2.1, (HW7.out W (bel_on hb8 h)).2.2.1, heap_bel h hx8, hI8.below h, hA8.below h, bel_on HB6.out (HW7.out W (bel_on hb8 h)).2.2.2⟩
      clear hx8 hI8 hA8 hb8 HW6 HW7 HB6
      go_wp2_with fail
      refine (one_ex w8).mono ?_
      rintro e w9 ⟨N9, M9, rfl, hI9, hA9, hb9⟩
      have haga := again_fine oneD _ _ w9 hI9 hA9 check_one (by decide) (by decide)
      rw [aga_one_is] at haga
      go_wp2_with fail
      refine haga.mono ?_
      rintro e wA ⟨faA, fnA, fcA, eaA, enA, ecA, rfl, hIA, hAA, hbA⟩
      have hb9A := bel_on hb9 hbA
      obtain ⟨BA, hBA⟩ : ∃ B, B = wA.heap.size := ⟨_, rfl⟩
      obtain ⟨wB, hwB⟩ : ∃ wB, wB = wA.alloc (.cells #[.int .i64 agaOne.states, .int .i64 agaOne.start, .slice faA fnA fcA, .slice eaA enA ecA] 25) := ⟨_, rfl⟩
      have huB : Below wA.heap.size wA wB := by rw [hwB]; exact bel_up (bel_self wA) _
      have hxB : wB.heap[BA]? = some (.cells #[.int .i64 agaOne.states, .int .i64 agaOne.start, .slice faA fnA fcA, .slice eaA enA ecA] 25 (0, 0)) := by rw [hwB, hBA]; exact heap_alloc_new wA _
      have hb8B := bel_on hb9A huB
      have hIB := hIA.slice.below huB
      have hAB := hAA.slice.below huB
      have HWB : Hid (∀ W, Below wB.heap.size wB W → W.heap[BA]? = some (.cells #[.int .i64 agaOne.states, .int .i64 agaOne.start, .slice faA fnA fcA, .slice eaA enA ecA] 25 (0, 0)) ∧ ISlice W (.slice faA fnA fcA) agaOne.final ∧ ASlice W (.slice eaA enA ecA) agaOne.arcs ∧ Below w8.heap.size w8 W) := fun W h => ⟨heap_bel h hxB, hIB.below h, hAB.below h, bel_on hb8B h⟩
      obtain ⟨p0, _, _, _⟩ := HW8.out wB hb8B
      have u0 := box_cell (k := 0) p0 rfl
      have u1 := box_cell (k := 1) p0 rfl
      have u2 := box_cell (k := 2) p0 rfl
      have u3 := box_cell (k := 3) p0 rfl
      clear p0 haga hI9 hA9 hb9 hIA hAA hbA hb9A huB hxB hb8B hIB hAB
      have hl1 := two_up wB (.cells #[.int .i64 2] 3) (.cells #[.int .i64 2] 3)
      have hs1 := score_is eithOne [2] [2] (.slice fa5 fn5 fc5) (.slice ea5 en5 ec5) (.slice (some ⟨wB.heap.size, 0, none⟩) 1 1) (.slice (some ⟨wB.heap.size + 1, 0, none⟩) 1 1) _ (HW8.out _ (HWB.out _ hl1).2.2.2).2.1 (HW8.out _ (HWB.out _ hl1).2.2.2).2.2.1 ((lit_one wB 2 _ rfl).below (bel_up (bel_self _) _)) (lit_one (wB.alloc (.cells #[.int .i64 2] 3)) 2 _ (by simp)) 6 (by decide) best_eith
      have hszB : wA.heap.size + 1 = wB.heap.size := by rw [hwB]; simp
      rw [hwB] at u0 u1 u2 u3
      have HWQ : Hid (wB = wA.alloc (.cells #[.int .i64 agaOne.states, .int .i64 agaOne.start, .slice faA fnA fcA, .slice eaA enA ecA] 25) ∧ wA.heap.size + 1 = wB.heap.size ∧ BA = wA.heap.size) := ⟨hwB, hszB, hBA⟩
      clear hwB hszB hBA
      go_wp2_with fail
      rw [← HWQ.out.1, HWQ.out.2.1, ← HWQ.out.2.2]
      clear HWQ
      refine hs1.mono ?_
      rintro e wC ⟨rfl, hbC⟩
      have hbC' := bel_on hl1 hbC
      clear u0 u1 u2 u3 hs1 hl1 hbC
      obtain ⟨_, _, _, p7, _⟩ := HW8.out wC (HWB.out _ hbC').2.2.2
      have u0 := box_cell (k := 0) p7 rfl
      have u1 := box_cell (k := 1) p7 rfl
      have u2 := box_cell (k := 2) p7 rfl
      have u3 := box_cell (k := 3) p7 rfl
      have hl2 := two_up wC (.cells #[.int .i64 1, .int .i64 2] 3) (.cells #[.int .i64 2, .int .i64 1] 3)
      have hbl2 := bel_on hbC' hl2
      have hs2 := score_is behOne [1, 2] [2, 1] (.slice fa7 fn7 fc7) (.slice ea7 en7 ec7) (.slice (some ⟨wC.heap.size, 0, none⟩) 2 2) (.slice (some ⟨wC.heap.size + 1, 0, none⟩) 2 2) _ (HW8.out _ (HWB.out _ hbl2).2.2.2).2.2.2.2.1 (HW8.out _ (HWB.out _ hbl2).2.2.2).2.2.2.2.2.1 ((lit_two wC 1 2 _ rfl).below (bel_up (bel_self _) _)) (lit_two (wC.alloc (.cells #[.int .i64 1, .int .i64 2] 3)) 2 1 _ (by simp)) 12 (by decide) best_beh
      go_wp2_with fail
      refine hs2.mono ?_
      rintro e wD ⟨rfl, hbD⟩
      have hbD' := bel_on hbl2 hbD
      clear u0 u1 u2 u3 hs2 hl2 hbl2 hbD p7
      obtain ⟨pA, _, _, _⟩ := HWB.out wD hbD'
      have u0 := box_cell (k := 0) pA rfl
      have u1 := box_cell (k := 1) pA rfl
      have u2 := box_cell (k := 2) pA rfl
      have u3 := box_cell (k := 3) pA rfl
      have hl3 := two_up wD (.cells #[.int .i64 1, .int .i64 1] 3) (.cells #[.int .i64 2, .int .i64 2] 3)
      have hbl3 := bel_on hbD' hl3
      have hs3 := score_is agaOne [1, 1] [2, 2] (.slice faA fnA fcA) (.slice eaA enA ecA) (.slice (some ⟨wD.heap.size, 0, none⟩) 2 2) (.slice (some ⟨wD.heap.size + 1, 0, none⟩) 2 2) _ (HWB.out _ hbl3).2.1 (HWB.out _ hbl3).2.2.1 ((lit_two wD 1 1 _ rfl).below (bel_up (bel_self _) _)) (lit_two (wD.alloc (.cells #[.int .i64 1, .int .i64 1] 3)) 2 2 _ (by simp)) 12 (by decide) best_aga
      go_wp2_with fail
      refine hs3.mono ?_
      rintro e wE ⟨rfl, hbE⟩
      have hfinal := (HW8.out _ (HWB.out _ (bel_on hbl3 hbE)).2.2.2).2.2.2.2.2.2
      clear u0 u1 u2 u3 hs3 hl3 hbl3 hbE pA hbD' hbC' HW8 HWB
      go_wp2
      go_ret
      exact ⟨rfl, hfinal⟩
end Go.Proofs.Yteehgcbjmdideaa

/- In a list of arcs in their order no two differ in the weight alone. -/
namespace Go.Proofs.Yteehgcbjmdideaa
theorem sorted_eq {l : List ArcD} (ho : l.Pairwise (fun a b => aheadB a b = true)) {a b : ArcD} (ha : a ∈ l) (hb : b ∈ l) (he : eqK a b) : a = b := by
  obtain ⟨i, hi, rfl⟩ := List.getElem_of_mem ha
  obtain ⟨j, hj, rfl⟩ := List.getElem_of_mem hb
  have key := List.pairwise_iff_getElem.1 ho
  rcases Nat.lt_trichotomy i j with q | q | q
  · exact absurd he (ahead_not (key i j hi hj q)).1
  · subst q; rfl
  · exact absurd he.symm (ahead_not (key j i hj hi q)).1
end Go.Proofs.Yteehgcbjmdideaa
