/- 'ShortTells' of the statements. -/
import Derived.Test.YteehgcbjmdideaaQPushR
import Derived.Test.YteehgcbjmdideaaQOneB
namespace Go.Proofs.Yteehgcbjmdideaa
open Go.RowKit
attribute [local go_sem ↓] Go.wp_at_zero Go.wp_at_succ

theorem pushD_zero (f : FstD) (to : List Int) (h : ¬ (pushD f to).2.2 = 0) : (pushD f to).1 = ⟨0, 0, [], []⟩ := by
  unfold pushD at h ⊢
  split
  · rename_i h1; rw [if_pos h1] at h; exact absurd rfl h
  · rename_i h1
    rw [if_neg h1] at h
    split
    · rfl
    · rename_i h2; rw [if_neg h2] at h; exact absurd rfl h

theorem push_any (f : FstD) (N s0 : Nat) (fin : Value) (aa : Option Addr) (m ac : Nat) (w : World) (hok : OkF f N s0) (hf : ISlice w fin f.final) (ha : ASlice w (.slice aa m ac) f.arcs) (hal : f.arcs.length = m) (hc : checkD f = 0) (d : FstD × Int × Int) (hd : d = pushD f (toD f)) :
    Calls Try.prog 38 #[.agg #[.int .i64 f.states, .int .i64 f.start, fin, .slice aa m ac]] w fun e w' => PushRes w d e w' := by
  have e : d = if gI (toD f) s0 = -1 then (⟨N, s0, f.final, []⟩, -1, 0) else if greatA (pushA (toD f) f.arcs) = true then (⟨0, 0, [], []⟩, 0, 2) else (⟨N, s0, pushF (toD f) f.final N, pushA (toD f) f.arcs⟩, gI (toD f) s0, 0) := by
    rw [hd]
    unfold pushD
    rw [hok.sta, hok.st, Int.toNat_natCast, hok.len]
  by_cases hx : gI (toD f) s0 = -1
  · rw [if_pos hx] at e
    rw [e]
    exact push_none f N s0 fin aa m ac w hok hf ha hal hc hx
  · rw [if_neg hx] at e
    exact push_some f N s0 fin aa m ac w hok hf ha hal hc _ rfl (by simpa using hx) d e

set_option maxHeartbeats 1000000 in
theorem fstIs_bad (c : Int) (hc : (c == 0) = false) (fa : Option Addr) (fn fc : Nat) (ba : Option Addr) (bn bc : Nat) (st sta : Int) (u v : Value) (w : World) (hf : ISlice w (.slice fa fn fc) []) (ha : ASlice w (.slice ba bn bc) []) :
    Calls Try.prog 21 #[.agg #[.int .i64 0, .int .i64 0, .slice fa fn fc, .slice ba bn bc], .int .i64 c, .int .i64 c, .agg #[.int .i64 st, .int .i64 sta, u, v]] w fun e w' => e = .returned (.bool true) ∧ Below w.heap.size w w' := by
  have hb := two_up w (.cells #[.int .i64 0, .int .i64 0, .slice fa fn fc, .slice ba bn bc] 25) (.cells #[.int .i64 0, .int .i64 0, .slice none 0 0, .slice none 0 0] 25)
  have h1 := hf.below hb
  have h2 := ha.below hb
  have hcn : (c != 0) = true := by simpa using hc
  go_enter Try.func21, Try.ntmps21
  go_wp2_with (go_at_call 22; refine (same_self ⟨0, 0, [], []⟩ _ _ _ _ _ h1 h2 (nil_ints _) (nil_arcs _)).mono ?_; rintro e w1 ⟨rfl, hb1⟩)
  go_ret
  exact ⟨rfl, bel_on hb hb1⟩

theorem fstIs_same (t : FstD) (u : Int) (hz : ¬ u = 0 → t = ⟨0, 0, [], []⟩) (fa : Option Addr) (fn fc : Nat) (ba : Option Addr) (bn bc : Nat) (fa' : Option Addr) (fn' fc' : Nat) (ba' : Option Addr) (bn' bc' : Nat) (w : World) (hf : ISlice w (.slice fa fn fc) t.final) (ha : ASlice w (.slice ba bn bc) t.arcs) (hf' : ISlice w (.slice fa' fn' fc') t.final) (ha' : ASlice w (.slice ba' bn' bc') t.arcs) :
    Calls Try.prog 21 #[.agg #[.int .i64 t.states, .int .i64 t.start, .slice fa fn fc, .slice ba bn bc], .int .i64 u, .int .i64 u, .agg #[.int .i64 t.states, .int .i64 t.start, .slice fa' fn' fc', .slice ba' bn' bc']] w fun e w' => e = .returned (.bool true) ∧ Below w.heap.size w w' := by
  by_cases hu : u = 0
  · subst hu
    exact fstIs_ok t fa fn fc ba bn bc fa' fn' fc' ba' bn' bc' w hf ha hf' ha'
  · have := hz hu
    subst this
    exact fstIs_bad u (by simpa using hu) fa fn fc ba bn bc 0 0 _ _ w hf ha

theorem same_nil (a : Option Addr) (n c : Nat) (w : World) (h : ISlice w (.slice a n c) []) : Calls Try.prog 43 #[.slice a n c, .slice none 0 0] w fun e w' => e = .returned (.bool true) ∧ Below w.heap.size w w' := by
  refine (sameInts_any _ _ [] [] w h (nil_ints w)).mono ?_
  rintro e w' ⟨rfl, hb⟩
  exact ⟨ret_bool (by simp), hb⟩
theorem same_two (xs : List Int) (a : Option Addr) (n c : Nat) (v : Value) (w : World) (h : ISlice w (.slice a n c) xs) (h' : ISlice w v xs) : Calls Try.prog 43 #[.slice a n c, v] w fun e w' => e = .returned (.bool true) ∧ Below w.heap.size w w' := by
  refine (sameInts_any _ _ xs xs w h h').mono ?_
  rintro e w' ⟨rfl, hb⟩
  exact ⟨ret_bool (by simp), hb⟩

set_option maxHeartbeats 2000000 in
set_option maxRecDepth 100000 in
theorem shortTells_bad (f : FstD) (fin arcs : Value) (c : Int) (w : World) (hf : ISlice w fin f.final) (ha : ASlice w arcs f.arcs) (hc : checkD f = c) (h0 : (c == 0) = false) :
    Calls Try.prog 7 #[.agg #[.int .i64 f.states, .int .i64 f.start, fin, arcs]] w fun e w' => e = .returned (.bool true) ∧ Below w.heap.size w w' := by
  obtain ⟨fa, fn, fc, rfl, _, _⟩ := hf.lenOf
  obtain ⟨ba, bn, bc, rfl, _, _⟩ := ha.lenOf
  have h0n : (c != 0) = true := by simpa using h0
  have hb0 := bel_up (bel_self w) (.cells #[.int .i64 f.states, .int .i64 f.start, .slice fa fn fc, .slice ba bn bc] 25)
  have hC0 := cellsF_new w f.states f.start (.slice fa fn fc) (.slice ba bn bc) 25
  have hf0 := hf.below hb0
  have ha0 := ha.below hb0
  have HC : Hid (checkD f = c) := hc
  have hfrom := from_bad f _ _ c _ hf0 ha0 hc h0
  have hchk : ∀ W, ISlice W (.slice fa fn fc) f.final → ASlice W (.slice ba bn bc) f.arcs → Calls Try.prog 18 #[.agg #[.int .i64 f.states, .int .i64 f.start, .slice fa fn fc, .slice ba bn bc]] W fun e w' => e = .returned (.int .i64 c) ∧ Below W.heap.size W w' := by
    intro W k1 k2; subst hc; exact checkFst_any f _ _ W k1 k2
  clear hc
  go_enter Try.func7, Try.ntmps7
  go_wp2_with (first
    | (go_at_call 36; refine hfrom.mono ?_; rintro e w1 ⟨a1, n1, c1, rfl, hL1, hb1⟩; obtain ⟨q0, q1, q2, q3⟩ := hC0.below hb1)
    | (go_at_call 37; refine (to_bad f _ _ c w1 (hf0.below hb1) (ha0.below hb1) HC.out h0).mono ?_; rintro e w2 ⟨a2, n2, c2, rfl, hL2, hb2⟩; obtain ⟨r0, r1, r2, r3⟩ := (hC0.below hb1).below hb2)
    | (go_at_call 38; refine (push_bad f _ _ c w2 ((hf0.below hb1).below hb2) ((ha0.below hb1).below hb2) HC.out h0).mono ?_; rintro e w3 ⟨xa, xn, xc, ya, yn, yc, rfl, hXI, hXA, hb3⟩; obtain ⟨s0, s1, s2, s3⟩ := ((hC0.below hb1).below hb2).below hb3; have hz3 := cell_lt s0)
    | (go_at_call 18; refine (hchk _ ((((hf0.below hb1).below hb2).below hb3).below (bel_up (bel_self w3) _)) ((((ha0.below hb1).below hb2).below hb3).below (bel_up (bel_self w3) _))).mono ?_; rintro e w4 ⟨rfl, hb4⟩)
    | fail)
  have hu3 := bel_up (bel_self w3) (.cells #[.int .i64 0, .int .i64 0, .slice xa xn xc, .slice ya yn yc] 25)
  have h34 := bel_on hu3 hb4
  have h04 := bel_on (bel_on (bel_on (bel_on hb0 hb1) hb2) hb3) h34
  have hu4 := bel_up (bel_self w4) (.cells #[.int .i64 0, .int .i64 0, .slice none 0 0, .slice none 0 0] 25)
  have kL1 := (((hL1.below hb2).below hb3).below h34).below hu4
  have kL2 := ((hL2.below hb3).below h34).below hu4
  have kXI := (hXI.below h34).below hu4
  have kXA := (hXA.below h34).below hu4
  have kX := ((cellsF_new w3 0 0 (.slice xa xn xc) (.slice ya yn yc) 25).below hb4).below hu4
  have kP := cellsF_new w4 0 0 (.slice none 0 0) (.slice none 0 0) 25
  have h0W := bel_on h04 hu4
  clear hu3 h34 h04 hu4 hb1 hb2 hb3 hb4 hL1 hL2 hXI hXA q0 q1 q2 q3 r0 r1 r2 r3 s0 s1 s2 s3 hz3 hfrom hchk hC0 hf0 ha0 hb0
  generalize w4.alloc (.cells #[.int .i64 0, .int .i64 0, .slice none 0 0, .slice none 0 0] 25) = W at *
  refine (shortBegun_any W).mono ?_
  rintro e w5 ⟨rfl, hb5⟩
  go_wp2_with (first
    | (go_at_call 43; have _ := hb6; refine (same_nil a2 n2 c2 w6 ((kL2.below hb5).below hb6)).mono ?_; rintro e w7 ⟨rfl, hb7⟩; have h57 := bel_on (bel_on hb5 hb6) hb7; obtain ⟨g0, g1, g2, g3⟩ := kX.below h57; obtain ⟨j0, j1, j2, j3⟩ := kP.below h57)
    | (go_at_call 43; refine (same_nil a1 n1 c1 w5 (kL1.below hb5)).mono ?_; rintro e w6 ⟨rfl, hb6⟩)
    | (go_at_call 21; refine (fstIs_bad c h0 xa xn xc ya yn yc 0 0 _ _ w7 (kXI.below h57) (kXA.below h57)).mono ?_; rintro e w8 ⟨rfl, hb8⟩)
    | fail)
  go_ret
  exact ⟨rfl, bel_on (bel_on h0W h57) hb8⟩

set_option maxHeartbeats 2000000 in
set_option maxRecDepth 100000 in
theorem shortTells_ok (f : FstD) (N0 s0 : Nat) (fin : Value) (aa : Option Addr) (m ac : Nat) (w : World) (hok : OkF f N0 s0) (hf : ISlice w fin f.final) (ha : ASlice w (.slice aa m ac) f.arcs) (hal : f.arcs.length = m) (hc : checkD f = 0) (d : FstD × Int × Int) (hd : d = pushD f (toD f)) :
    Calls Try.prog 7 #[.agg #[.int .i64 f.states, .int .i64 f.start, fin, .slice aa m ac]] w fun e w' => e = .returned (.bool true) ∧ Below w.heap.size w w' := by
  obtain ⟨fa, N, fc, rfl, _, _⟩ := hf.lenOf
  obtain ⟨fb, fo, rfl, rfl, hx⟩ := final_at hok hf

  have HD : Hid (d = pushD f (toD f)) := hd
  have HOK : Hid (OkF f N s0) := hok
  have HAL : Hid (f.arcs.length = m) := hal
  have hfrom := fun W k1 k2 => from_ok f N s0 (.slice (some ⟨fb, fo, none⟩) N fc) aa m ac W hok k1 k2 hal hc
  have hto := fun W k1 k2 => to_ok f N s0 (.slice (some ⟨fb, fo, none⟩) N fc) aa m ac W hok k1 k2 hal hc
  have hpush := fun W k1 k2 => push_any f N s0 (.slice (some ⟨fb, fo, none⟩) N fc) aa m ac W hok k1 k2 hal hc d hd
  have hchk : ∀ W, ISlice W (.slice (some ⟨fb, fo, none⟩) N fc) f.final → ASlice W (.slice aa m ac) f.arcs → Calls Try.prog 18 #[.agg #[.int .i64 f.states, .int .i64 f.start, .slice (some ⟨fb, fo, none⟩) N fc, .slice aa m ac]] W fun e w' => e = .returned (.int .i64 0) ∧ Below W.heap.size W w' := by
    intro W k1 k2; have h := checkFst_any f _ _ W k1 k2; rw [hc] at h; exact h
  rw [hok.st, hok.sta] at *
  have hb0 := bel_up (bel_self w) (.cells #[.int .i64 (N : Int), .int .i64 (s0 : Int), .slice (some ⟨fb, fo, none⟩) N fc, .slice aa m ac] 25)
  have hC0 := cellsF_new w (N : Int) (s0 : Int) (.slice (some ⟨fb, fo, none⟩) N fc) (.slice aa m ac) 25
  have hf0 := hf.below hb0
  have ha0 := ha.below hb0
  clear hc hok hd hal
  go_enter Try.func7, Try.ntmps7
  go_wp2_with (first
    | (go_at_call 36; refine (hfrom _ hf0 ha0).mono ?_; rintro e w1 ⟨a1, n1, c1, rfl, hL1, hb1⟩; obtain ⟨q0, q1, q2, q3⟩ := hC0.below hb1)
    | (go_at_call 37; refine (hto w1 (hf0.below hb1) (ha0.below hb1)).mono ?_; rintro e w2 ⟨a2, n2, c2, rfl, hL2, hb2⟩; obtain ⟨r0, r1, r2, r3⟩ := (hC0.below hb1).below hb2)
    | (go_at_call 38; refine (hpush w2 ((hf0.below hb1).below hb2) ((ha0.below hb1).below hb2)).mono ?_; rintro e w3 ⟨xa, xn, xc, ya, yn, yc, rfl, hXI, hXA, hb3⟩; obtain ⟨s0', s1, s2, s3⟩ := ((hC0.below hb1).below hb2).below hb3; have hz3 := cell_lt s0')
    | (go_at_call 18; refine (hchk _ ((((hf0.below hb1).below hb2).below hb3).below (bel_up (bel_self w3) _)) ((((ha0.below hb1).below hb2).below hb3).below (bel_up (bel_self w3) _))).mono ?_; rintro e w4 ⟨rfl, hb4⟩)
    | fail)
  have hu3 := bel_up (bel_self w3) (.cells #[.int .i64 d.1.states, .int .i64 d.1.start, .slice xa xn xc, .slice ya yn yc] 25)
  have h34 := bel_on hu3 hb4
  have h04 := bel_on (bel_on (bel_on (bel_on hb0 hb1) hb2) hb3) h34
  have hu4 := bel_up (bel_self w4) (.cells #[.int .i64 0, .int .i64 0, .slice none 0 0, .slice none 0 0] 25)
  have kL1 := ((hL1.below hb2).below hb3).below h34
  have kL2 := (hL2.below hb3).below h34
  have kXI := hXI.below h34
  have kXA := hXA.below h34
  have kX := (cellsF_new w3 d.1.states d.1.start (.slice xa xn xc) (.slice ya yn yc) 25).below hb4
  have kC := ((((hC0.below hb1).below hb2).below hb3).below hu3).below hb4
  have kF := (((hf0.below hb1).below hb2).below hb3).below h34
  have kA := (((ha0.below hb1).below hb2).below hb3).below h34
  have hxl := cell_lt kX.1
  have hcl := cell_lt kC.1
  have kP : ZBlock (w4.alloc (.cells #[.int .i64 0, .int .i64 0, .slice none 0 0, .slice none 0 0] 25)) w4.heap.size := heap_alloc_new w4 _
  clear hu3 h34 hb1 hb2 hb3 hb4 hL1 hL2 hXI hXA q0 q1 q2 q3 r0 r1 r2 r3 s0' s1 s2 s3 hz3 hfrom hto hpush hchk hC0 hf0 ha0 hb0 hf ha hx
  obtain ⟨Wd, hWd⟩ : ∃ Wd, Wd = (w4.alloc (.cells #[.int .i64 0, .int .i64 0, .slice none 0 0, .slice none 0 0] 25)).drew := ⟨_, rfl⟩
  have hud : Below w4.heap.size w4 Wd := by rw [hWd]; exact hu4.drew
  have hzd : ZBlock Wd w4.heap.size := by rw [hWd]; exact heap_bel (bel_self _).drew kP
  have hszd : Wd.heap.size = w4.heap.size + 1 := by rw [hWd]; exact one_size w4 _
  obtain ⟨t0, t1, t2, t3⟩ := kC.below hud
  have hS0 : (fun wx : World => wx.cell? ⟨w.heap.size, 0, none⟩ = some (.int .i64 N) ∧ wx.cell? ⟨w.heap.size, 1, none⟩ = some (.int .i64 s0) ∧ wx.cell? ⟨w.heap.size, 2, none⟩ = some (.slice (some ⟨fb, fo, none⟩) N fc) ∧ wx.cell? ⟨w.heap.size, 3, none⟩ = some (.slice aa m ac)) Wd := ⟨t0, t1, t2, t3⟩
  have HSB : Hid (∀ wx : World, Below Wd.heap.size Wd wx → (fun wx : World => wx.cell? ⟨w.heap.size, 0, none⟩ = some (.int .i64 N) ∧ wx.cell? ⟨w.heap.size, 1, none⟩ = some (.int .i64 s0) ∧ wx.cell? ⟨w.heap.size, 2, none⟩ = some (.slice (some ⟨fb, fo, none⟩) N fc) ∧ wx.cell? ⟨w.heap.size, 3, none⟩ = some (.slice aa m ac)) wx) := fun wx h => ⟨bel_c h t0, bel_c h t1, bel_c h t2, bel_c h t3⟩
  have HAS : Hid (∀ wx : World, Below Wd.heap.size Wd wx → ASlice wx (.slice aa m ac) f.arcs) := fun wx h => (kA.below hud).below h
  have HIS : Hid (∀ wx : World, Below Wd.heap.size Wd wx → IntsAt wx fb fo N f.final) := fun wx h => by
    obtain ⟨_, _, e, _, hx⟩ := final_at HOK.out ((kF.below hud).below h)
    cases e
    exact hx
  have HW : Hid (Wd = (w4.alloc (.cells #[.int .i64 0, .int .i64 0, .slice none 0 0, .slice none 0 0] 25)).drew) := hWd
  clear hWd hu4 kP
  go_cut [12, 13] from 16 (fun t12 t13 wx => ∃ G1 c1 G2 c2 : Nat, t12 = .slice (some ⟨G1, 0, none⟩) N c1 ∧ t13 = .slice (some ⟨G2, 0, none⟩) N c2 ∧ NumsAt wx G1 N (fromD f) ∧ NumsAt wx G2 N (toD f) ∧ w4.heap.size < G1 ∧ w4.heap.size < G2 ∧ Below Wd.heap.size Wd wx)
  case first =>
    refine wp_region_noPanic ?_
    refine wp_region_U (fun wx => wx.cell? ⟨w.heap.size, 0, none⟩ = some (.int .i64 N) ∧ wx.cell? ⟨w.heap.size, 1, none⟩ = some (.int .i64 s0) ∧ wx.cell? ⟨w.heap.size, 2, none⟩ = some (.slice (some ⟨fb, fo, none⟩) N fc) ∧ wx.cell? ⟨w.heap.size, 3, none⟩ = some (.slice aa m ac)) 5 (by kernel_rfl) (by rw [← HW.out]; exact hS0) (fun _ => ?_)
    rw [← HW.out]
    clear HW
    refine wpAnyU_take (i := 0) (v := .agg #[.int .i64 N, .int .i64 s0, .slice (some ⟨fb, fo, none⟩) N fc, .slice aa m ac]) rfl (by kernel_rfl) (by kernel_rfl) (by kernel_rfl) (by kernel_rfl) (fun _ _ _ h => h) (Or.inl ⟨by rfl, fun wl hSw => ?_⟩) hS0 ?_
    · (try dsimp only at hSw); go_simp
    refine wpAnyU_take (i := 2) (v := .agg #[.int .i64 N, .int .i64 s0, .slice (some ⟨fb, fo, none⟩) N fc, .slice aa m ac]) rfl (by kernel_rfl) (by kernel_rfl) (by kernel_rfl) (by kernel_rfl) (fun _ _ _ h => h) (Or.inl ⟨by rfl, fun wl hSw => ?_⟩) hS0 ?_
    · (try dsimp only at hSw); go_simp
    refine wpAnyU_one (i := 1) rfl (by kernel_rfl) (fun K hK => ?_)
    go_simp
    refine (fromOf_ok f N s0 (.slice (some ⟨fb, fo, none⟩) N fc) aa m ac _ HOK.out (HAS.out _ (bel_self Wd)) HAL.out).mono ?_
    rintro e w5 ⟨G1, c1', rfl, hn1', hg1', hb5⟩
    refine hK.out _ _ ⟨fun _ => HSB.out _ hb5, ?_⟩
    clear hK K
    refine wpAnyU_one (i := 3) rfl (by kernel_rfl) (fun K hK => ?_)
    go_simp
    refine (toOf_ok f N s0 fb fo fc aa m ac _ HOK.out (HIS.out _ hb5) (HAS.out _ hb5) HAL.out).mono ?_
    rintro e w6 ⟨G2, c2', rfl, hn2', hg2', hb6⟩
    have hb56 := bel_on hb5 hb6
    have hsz5 := hb5.size
    refine hK.out _ _ ⟨fun _ => HSB.out _ hb56, ?_⟩
    clear hK K
    refine wpAnyU_one (i := 4) rfl (by kernel_rfl) (fun K hK => ?_)
    go_simp
    refine hK.out _ _ ⟨fun _ => HSB.out _ hb56, ?_⟩
    clear hK K
    refine wpAnyU_one (i := 5) rfl (by kernel_rfl) (fun K hK => ?_)
    go_simp
    refine hK.out _ _ ⟨fun h => absurd rfl h, ?_⟩
    clear hK K
    refine wpAnyU_done (by kernel_rfl) ?_ _
    refine NoPanic.normal ?_
    go_wp2
    go_meet
    case rel => exact ⟨G1, c1', G2, c2', rfl, rfl, hn1'.below hb6, hn2', by omega, by omega, hb56⟩
  case rest =>
    obtain ⟨G1, c1', G2, c2', rfl, rfl, hn1', hn2', hg1', hg2', hb6⟩ := hcut
    rename World => w6
    have h46 := bel_on hud hb6
    obtain ⟨u0, u1, u2, u3⟩ := kC.below h46
    have hps := pushOf_ok f N s0 fb fo fc aa m ac w6 HOK.out (HIS.out _ hb6) (HAS.out _ hb6) HAL.out d HD.out
    have hz6 := heap_bel hb6 hzd
    have hs6 := hb6.size
    clear hS0 HSB HAS HIS HW t0 t1 t2 t3 kF kA
    go_wp2_with (go_at_call 41; refine hps.mono ?_; rintro e w7 ⟨pa, pn, pc, ra, rn, rc, rfl, hPI, hPA, hb7, hpo, hro⟩; obtain ⟨z0, z1, z2, z3, y0, y1, y2, y3⟩ := zfacts (heap_bel hb7 hz6))
    have h47 := bel_on h46 hb7
    have hw47 := bel_set4 h47 (Nat.le_refl _) (.int .i64 d.1.states) (.int .i64 d.1.start) (.slice pa pn pc) (.slice ra rn rc)
    have k1 := hn1'.below hb7
    have k2 := hn2'.below hb7
    have e1 : G1 ≠ w4.heap.size := by omega
    have e2 : G2 ≠ w4.heap.size := by omega
    have mG1 := ((((k1.other (i := 0) (v := .int .i64 d.1.states) e1).other (i := 1) (v := .int .i64 d.1.start) e1).other (i := 2) (v := .slice pa pn pc) e1).other (i := 3) (v := .slice ra rn rc) e1).slice c1' (by have := HOK.out.n2; unfold maxLen; omega)
    have mG2 := ((((k2.other (i := 0) (v := .int .i64 d.1.states) e2).other (i := 1) (v := .int .i64 d.1.start) e2).other (i := 2) (v := .slice pa pn pc) e2).other (i := 3) (v := .slice ra rn rc) e2).slice c2' (by have := HOK.out.n2; unfold maxLen; omega)
    have mL1 := kL1.below hw47
    have mL2 := kL2.below hw47
    have mXI := kXI.below hw47
    have mXA := kXA.below hw47
    have mX := kX.below hw47
    have mP := set4_cells z0 z1 z2 z3 d.1.states d.1.start (.slice pa pn pc) (.slice ra rn rc)
    have mPI := isl_set4 hPI (R := w4.heap.size) (fun h => by have := hpo _ h; omega) (.int .i64 d.1.states) (.int .i64 d.1.start) (.slice pa pn pc) (.slice ra rn rc)
    have mPA := asl_set4 hPA (R := w4.heap.size) (fun h => by have := hro _ h; omega) (.int .i64 d.1.states) (.int .i64 d.1.start) (.slice pa pn pc) (.slice ra rn rc)
    have mW := bel_on h04 hw47
    have HZ : Hid (¬ d.2.2 = 0 → d.1 = ⟨0, 0, [], []⟩) := fun h => by rw [HD.out] at h ⊢; exact pushD_zero f _ h
    clear z0 z1 z2 z3 y0 y1 y2 y3 u0 u1 u2 u3 k1 k2 hPI hPA hb7 hpo hro h46 h47 hw47 hps hz6 hs6 hn1' hn2' hb6 hzd hud hszd kL1 kL2 kXI kXA kX kC h04
    generalize (((w7.setCell ⟨w4.heap.size, 0, none⟩ (.int .i64 d.1.states)).setCell ⟨w4.heap.size, 1, none⟩ (.int .i64 d.1.start)).setCell ⟨w4.heap.size, 2, none⟩ (.slice pa pn pc)).setCell ⟨w4.heap.size, 3, none⟩ (.slice ra rn rc) = W at *
    refine (shortBegun_any W).mono ?_
    rintro e w8 ⟨rfl, hb8⟩
    go_wp2_with (first
      | (go_at_call 43; have _ := hb9; refine (same_two (toD f) a2 n2 c2 _ w9 ((mL2.below hb8).below hb9) ((mG2.below hb8).below hb9)).mono ?_; rintro e w10 ⟨rfl, hb10⟩; have h10 := bel_on (bel_on hb8 hb9) hb10; obtain ⟨g0, g1, g2, g3⟩ := mX.below h10; obtain ⟨j0, j1, j2, j3⟩ := mP.below h10)
      | (go_at_call 43; refine (same_two (fromD f) a1 n1 c1 _ w8 (mL1.below hb8) (mG1.below hb8)).mono ?_; rintro e w9 ⟨rfl, hb9⟩)
      | (go_at_call 21; refine (fstIs_same d.1 d.2.2 HZ.out xa xn xc ya yn yc pa pn pc ra rn rc w10 (mXI.below h10) (mXA.below h10) (mPI.below h10) (mPA.below h10)).mono ?_; rintro e w11 ⟨rfl, hb11⟩)
      | fail)
    go_ret
    exact ⟨rfl, bel_on (bel_on mW h10) hb11⟩

theorem shortTells_any (f : FstD) (fin arcs : Value) (w : World) (hf : ISlice w fin f.final) (ha : ASlice w arcs f.arcs) :
    Calls Try.prog 7 #[.agg #[.int .i64 f.states, .int .i64 f.start, fin, arcs]] w fun e w' => e = .returned (.bool true) ∧ Below w.heap.size w w' := by
  by_cases hc : checkD f = 0
  · obtain ⟨N, s0, hok⟩ := okF f hc
    obtain ⟨aa, m, ac, rfl, hal, _⟩ := ha.lenOf
    exact shortTells_ok f N s0 fin aa m ac w hok hf ha hal hc _ rfl
  · exact shortTells_bad f fin arcs _ w hf ha rfl (by simpa using hc)

end Go.Proofs.Yteehgcbjmdideaa
