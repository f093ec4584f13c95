/- 'meet' of the search. -/
import Derived.Test.YteehgcbjmdideabQM05
import Derived.Test.YteehgcbjmdideabQM02
set_option maxRecDepth 100000
namespace Go.Proofs.Yteehgcbjmdideab
open Go.RowKit
attribute [local go_sem ↓] Go.wp_at_zero Go.wp_at_succ
theorem look_agg {w : World} {b : Nat} {ms : List MetD} {n i o : Nat} {c' a' : Int} {ok : Bool} (h : MetAt w b ms) (hf : foundV (lookM n i o ms) = stepV c' a') (ho : (lookM n i o ms).isSome = ok) : (Instr.lookup 113 (.map (some b)) (.agg #[.int .i64 n, .int .i64 i, .int .i64 o]) true).run Try.prog w = .ok (.tuple #[.agg #[.int .i64 c', .int .i64 a'], .bool ok]) w := by
 have := look_ok h n i o
 rw [hf, ho] at this
 exact this
set_option maxHeartbeats 1000000 in
theorem meet_no (w0 : World) (N s0 B Mb Fb : Nat) (fin arcs iv ov v : Value) (fl : List Int) (ms : List MetD) (L : List PlD) (n i o : Nat) (x a c' a' : Int) (w : World) (h : SW w0 w N s0 B Mb Fb fin arcs iv ov v fl ms L) (hc : c' ≤ x) (hf : foundV (lookM n i o ms) = stepV c' a') (ho : (lookM n i o ms).isSome = true) :
  Calls Try.prog 98 #[.pointer (some ⟨B, 0, none⟩), spotV n i o, stepV x a] w fun e w' => e = .returned (.tuple #[]) ∧ SW w0 w' N s0 B Mb Fb fin arcs iv ov v fl ms L ∧ MStep B Mb w v w' v := by
 unfold spotV stepV
 have hb1 := bel_up (bel_up (bel_self w) (.cells #[.int .i64 (n : Int), .int .i64 (i : Int), .int .i64 (o : Int)] 96)) (.cells #[.int .i64 x, .int .i64 a] 120)
 obtain ⟨Wd, hWd⟩ : ∃ Wd, Wd = ((w.alloc (.cells #[.int .i64 (n : Int), .int .i64 (i : Int), .int .i64 (o : Int)] 96)).alloc (.cells #[.int .i64 x, .int .i64 a] 120)).drew := ⟨_, rfl⟩
 have hbd : Below w.heap.size w Wd := by rw [hWd]; exact hb1.drew
 have hSd := h.below hbd
 have b0 : Wd.cell? ⟨w.heap.size, 0, none⟩ = some (.int .i64 n) := by rw [hWd]; exact drew_cell (old_cell (new_cell _ _ _ _ 0 _ rfl rfl))
 have b1 : Wd.cell? ⟨w.heap.size, 1, none⟩ = some (.int .i64 i) := by rw [hWd]; exact drew_cell (old_cell (new_cell _ _ _ _ 1 _ rfl rfl))
 have b2 : Wd.cell? ⟨w.heap.size, 2, none⟩ = some (.int .i64 o) := by rw [hWd]; exact drew_cell (old_cell (new_cell _ _ _ _ 2 _ rfl rfl))
 have d0 : Wd.cell? ⟨w.heap.size + 1, 0, none⟩ = some (.int .i64 x) := by rw [hWd]; exact drew_cell (new_cell _ _ _ _ 0 _ (by simp) rfl)
 have d1 : Wd.cell? ⟨w.heap.size + 1, 1, none⟩ = some (.int .i64 a) := by rw [hWd]; exact drew_cell (new_cell _ _ _ _ 1 _ (by simp) rfl)
 have hdl : w.heap.size + 1 < Wd.heap.size := cell_lt d0
 have hS0 : (fun wx : World => wx.cell? ⟨B, 7, none⟩ = some (.map (some Mb)) ∧ wx.cell? ⟨w.heap.size, 0, none⟩ = some (.int .i64 n) ∧ wx.cell? ⟨w.heap.size, 1, none⟩ = some (.int .i64 i) ∧ wx.cell? ⟨w.heap.size, 2, none⟩ = some (.int .i64 o) ∧ MetAt wx Mb ms) Wd := ⟨hSd.c7, b0, b1, b2, hSd.met⟩
 have HF : Hid (foundV (lookM n i o ms) = stepV c' a') := hf
 have HO : Hid ((lookM n i o ms).isSome = true) := ho
 have hBl := cell_lt h.c0
 clear hf ho hb1
 go_enter Try.func98, Try.ntmps98
 go_wp2
 refine wp_region_noPanic ?_
 refine wp_region_F (fun wx => wx.cell? ⟨B, 7, none⟩ = some (.map (some Mb)) ∧ wx.cell? ⟨w.heap.size, 0, none⟩ = some (.int .i64 n) ∧ wx.cell? ⟨w.heap.size, 1, none⟩ = some (.int .i64 i) ∧ wx.cell? ⟨w.heap.size, 2, none⟩ = some (.int .i64 o) ∧ MetAt wx Mb ms) [10] (by kernel_rfl) (by rw [← hWd]; exact hS0) (fun _ => ?_)
 rw [← hWd]
 clear hWd
 refine wpAnyF_free (i := 0) (v := .pointer (some ⟨B, 0, none⟩)) rfl (by kernel_rfl) (by kernel_rfl) (by kernel_rfl) (by kernel_rfl) (fun _ _ _ h => h) (Or.inl ⟨by rfl, fun wl hSw => ?_⟩) hS0 ?_
 ·(try dsimp only at hSw); go_simp
 refine wpAnyF_free (i := 1) (v := .pointer (some ⟨B, 0, none⟩)) rfl (by kernel_rfl) (by kernel_rfl) (by kernel_rfl) (by kernel_rfl) (fun _ _ _ h => h) (Or.inl ⟨by rfl, fun wl hSw => ?_⟩) hS0 ?_
 ·(try dsimp only at hSw); go_simp
 refine wpAnyF_free (i := 2) (v := .pointer (some ⟨B, 7, none⟩)) rfl (by kernel_rfl) (by kernel_rfl) (by kernel_rfl) (by kernel_rfl) (fun _ _ _ h => h) (Or.inl ⟨by rfl, fun wl hSw => ?_⟩) hS0 ?_
 ·(try dsimp only at hSw); go_simp
 refine wpAnyF_take (i := 3) (v := .map (some Mb)) rfl (by kernel_rfl) (by kernel_rfl) (by kernel_rfl) (by kernel_rfl) (fun _ _ _ h => h) (Or.inl ⟨by rfl, fun wl hSw => ?_⟩) hS0 ?_
 ·(try dsimp only at hSw); go_simp
 refine wpAnyF_take (i := 4) (v := .agg #[.int .i64 n, .int .i64 i, .int .i64 o]) rfl (by kernel_rfl) (by kernel_rfl) (by kernel_rfl) (by kernel_rfl) (fun _ _ _ h => h) (Or.inl ⟨by rfl, fun wl hSw => ?_⟩) hS0 ?_
 ·(try dsimp only at hSw); go_simp
 refine wpAnyF_take (i := 5) (v := .tuple #[.agg #[.int .i64 c', .int .i64 a'], .bool true]) rfl (by kernel_rfl) (by kernel_rfl) (by kernel_rfl) (by kernel_rfl) (fun _ _ _ h => h) (Or.inl ⟨by rfl, fun wl hSw => ?_⟩) hS0 ?_
 ·(try dsimp only at hSw); go_simp; rw [look_agg hSw.2.2.2.2 HF.out HO.out]; rfl
 refine wpAnyF_free (i := 6) (v := .tuple #[.agg #[.int .i64 c', .int .i64 a'], .bool true]) rfl (by kernel_rfl) (by kernel_rfl) (by kernel_rfl) (by kernel_rfl) (fun _ _ _ h => h) (Or.inl ⟨by rfl, fun wl hSw => ?_⟩) hS0 ?_
 ·(try dsimp only at hSw); go_simp
 refine wpAnyF_free (i := 7) (v := .agg #[.int .i64 c', .int .i64 a']) rfl (by kernel_rfl) (by kernel_rfl) (by kernel_rfl) (by kernel_rfl) (fun _ _ _ h => h) (Or.inl ⟨by rfl, fun wl hSw => ?_⟩) hS0 ?_
 ·(try dsimp only at hSw); go_simp
 refine wpAnyF_free (i := 8) (v := .bool true) rfl (by kernel_rfl) (by kernel_rfl) (by kernel_rfl) (by kernel_rfl) (fun _ _ _ h => h) (Or.inl ⟨by rfl, fun wl hSw => ?_⟩) hS0 ?_
 ·(try dsimp only at hSw); go_simp
 have hbZ := bel_up (bel_self Wd) (.cells #[.int .i64 0, .int .i64 0] 120)
 refine wpAnyF_one (i := 9) rfl (by kernel_rfl) (fun K hK => ?_)
 go_simp
 refine hK.out _ _ ⟨fun _ => ⟨bel_c hbZ hSd.c7, bel_c hbZ b0, bel_c hbZ b1, bel_c hbZ b2, hSd.met.block (hbZ.block Mb hSd.met.lt)⟩, ?_⟩
 clear hK K
 refine wpAnyF_one (i := 10) rfl (by kernel_rfl) (fun K hK => ?_)
 go_simp
 refine hK.out _ _ ⟨fun h => absurd h (unl_no (by kernel_rfl)), ?_⟩
 clear hK K
 refine wpAnyF_one (i := 11) rfl (by kernel_rfl) (fun K hK => ?_)
 go_simp
 refine hK.out _ _ ⟨fun h => absurd h (unl_no (by kernel_rfl)), ?_⟩
 clear hK K
 refine wpAnyF_done (by kernel_rfl) ?_ _
 refine NoPanic.normal ?_
 have hbA := bel_up (bel_self Wd) (.cells #[.int .i64 c', .int .i64 a'] 120)
 have e0 : (Wd.alloc (.cells #[.int .i64 c', .int .i64 a'] 120)).cell? ⟨w.heap.size + 1, 0, none⟩ = some (.int .i64 x) := bel_c hbA d0
 have hSe := hSd.below hbA
 clear hbZ hS0
 go_wp2
 first | go_end0 | refine bodyPost_ret (results_none rfl _ _ _) rfl ?_
 exact ⟨rfl, hSe, MStep.bel (bel_on hbd hbA)⟩
set_option maxHeartbeats 1000000 in
theorem meet_new (w0 : World) (N s0 B Mb Fb : Nat) (fin arcs iv ov v : Value) (fl : List Int) (ms : List MetD) (L : List PlD) (n i o : Nat) (x a c' a' : Int) (w : World) (h : SW w0 w N s0 B Mb Fb fin arcs iv ov v fl ms L) (hN : L.length ≤ 3000000000) (hf : foundV (lookM n i o ms) = stepV c' a') (ho : (lookM n i o ms).isSome = false) :
  Calls Try.prog 98 #[.pointer (some ⟨B, 0, none⟩), spotV n i o, stepV x a] w fun e w' => e = .returned (.tuple #[]) ∧ ∃ v' L', SW w0 w' N s0 B Mb Fb fin arcs iv ov v' fl (putM ⟨n, i, o, x, a⟩ ms) L' ∧ L'.Perm (⟨n, i, o, x⟩ :: L) ∧ MStep B Mb w v w' v' := by
 unfold spotV stepV
 have hb1 := bel_up (bel_up (bel_self w) (.cells #[.int .i64 (n : Int), .int .i64 (i : Int), .int .i64 (o : Int)] 96)) (.cells #[.int .i64 x, .int .i64 a] 120)
 obtain ⟨Wd, hWd⟩ : ∃ Wd, Wd = ((w.alloc (.cells #[.int .i64 (n : Int), .int .i64 (i : Int), .int .i64 (o : Int)] 96)).alloc (.cells #[.int .i64 x, .int .i64 a] 120)).drew := ⟨_, rfl⟩
 have hbd : Below w.heap.size w Wd := by rw [hWd]; exact hb1.drew
 have hSd := h.below hbd
 have b0 : Wd.cell? ⟨w.heap.size, 0, none⟩ = some (.int .i64 n) := by rw [hWd]; exact drew_cell (old_cell (new_cell _ _ _ _ 0 _ rfl rfl))
 have b1 : Wd.cell? ⟨w.heap.size, 1, none⟩ = some (.int .i64 i) := by rw [hWd]; exact drew_cell (old_cell (new_cell _ _ _ _ 1 _ rfl rfl))
 have b2 : Wd.cell? ⟨w.heap.size, 2, none⟩ = some (.int .i64 o) := by rw [hWd]; exact drew_cell (old_cell (new_cell _ _ _ _ 2 _ rfl rfl))
 have d0 : Wd.cell? ⟨w.heap.size + 1, 0, none⟩ = some (.int .i64 x) := by rw [hWd]; exact drew_cell (new_cell _ _ _ _ 0 _ (by simp) rfl)
 have d1 : Wd.cell? ⟨w.heap.size + 1, 1, none⟩ = some (.int .i64 a) := by rw [hWd]; exact drew_cell (new_cell _ _ _ _ 1 _ (by simp) rfl)
 have hdl : w.heap.size + 1 < Wd.heap.size := cell_lt d0
 have hS0 : (fun wx : World => wx.cell? ⟨B, 7, none⟩ = some (.map (some Mb)) ∧ wx.cell? ⟨w.heap.size, 0, none⟩ = some (.int .i64 n) ∧ wx.cell? ⟨w.heap.size, 1, none⟩ = some (.int .i64 i) ∧ wx.cell? ⟨w.heap.size, 2, none⟩ = some (.int .i64 o) ∧ MetAt wx Mb ms) Wd := ⟨hSd.c7, b0, b1, b2, hSd.met⟩
 have HF : Hid (foundV (lookM n i o ms) = stepV c' a') := hf
 have HO : Hid ((lookM n i o ms).isSome = false) := ho
 have hBl := cell_lt h.c0
 clear hf ho hb1
 go_enter Try.func98, Try.ntmps98
 go_wp2
 refine wp_region_noPanic ?_
 refine wp_region_F (fun wx => wx.cell? ⟨B, 7, none⟩ = some (.map (some Mb)) ∧ wx.cell? ⟨w.heap.size, 0, none⟩ = some (.int .i64 n) ∧ wx.cell? ⟨w.heap.size, 1, none⟩ = some (.int .i64 i) ∧ wx.cell? ⟨w.heap.size, 2, none⟩ = some (.int .i64 o) ∧ MetAt wx Mb ms) [10] (by kernel_rfl) (by rw [← hWd]; exact hS0) (fun _ => ?_)
 rw [← hWd]
 clear hWd
 refine wpAnyF_free (i := 0) (v := .pointer (some ⟨B, 0, none⟩)) rfl (by kernel_rfl) (by kernel_rfl) (by kernel_rfl) (by kernel_rfl) (fun _ _ _ h => h) (Or.inl ⟨by rfl, fun wl hSw => ?_⟩) hS0 ?_
 ·(try dsimp only at hSw); go_simp
 refine wpAnyF_free (i := 1) (v := .pointer (some ⟨B, 0, none⟩)) rfl (by kernel_rfl) (by kernel_rfl) (by kernel_rfl) (by kernel_rfl) (fun _ _ _ h => h) (Or.inl ⟨by rfl, fun wl hSw => ?_⟩) hS0 ?_
 ·(try dsimp only at hSw); go_simp
 refine wpAnyF_free (i := 2) (v := .pointer (some ⟨B, 7, none⟩)) rfl (by kernel_rfl) (by kernel_rfl) (by kernel_rfl) (by kernel_rfl) (fun _ _ _ h => h) (Or.inl ⟨by rfl, fun wl hSw => ?_⟩) hS0 ?_
 ·(try dsimp only at hSw); go_simp
 refine wpAnyF_take (i := 3) (v := .map (some Mb)) rfl (by kernel_rfl) (by kernel_rfl) (by kernel_rfl) (by kernel_rfl) (fun _ _ _ h => h) (Or.inl ⟨by rfl, fun wl hSw => ?_⟩) hS0 ?_
 ·(try dsimp only at hSw); go_simp
 refine wpAnyF_take (i := 4) (v := .agg #[.int .i64 n, .int .i64 i, .int .i64 o]) rfl (by kernel_rfl) (by kernel_rfl) (by kernel_rfl) (by kernel_rfl) (fun _ _ _ h => h) (Or.inl ⟨by rfl, fun wl hSw => ?_⟩) hS0 ?_
 ·(try dsimp only at hSw); go_simp
 refine wpAnyF_take (i := 5) (v := .tuple #[.agg #[.int .i64 c', .int .i64 a'], .bool false]) rfl (by kernel_rfl) (by kernel_rfl) (by kernel_rfl) (by kernel_rfl) (fun _ _ _ h => h) (Or.inl ⟨by rfl, fun wl hSw => ?_⟩) hS0 ?_
 ·(try dsimp only at hSw); go_simp; rw [look_agg hSw.2.2.2.2 HF.out HO.out]; rfl
 refine wpAnyF_free (i := 6) (v := .tuple #[.agg #[.int .i64 c', .int .i64 a'], .bool false]) rfl (by kernel_rfl) (by kernel_rfl) (by kernel_rfl) (by kernel_rfl) (fun _ _ _ h => h) (Or.inl ⟨by rfl, fun wl hSw => ?_⟩) hS0 ?_
 ·(try dsimp only at hSw); go_simp
 refine wpAnyF_free (i := 7) (v := .agg #[.int .i64 c', .int .i64 a']) rfl (by kernel_rfl) (by kernel_rfl) (by kernel_rfl) (by kernel_rfl) (fun _ _ _ h => h) (Or.inl ⟨by rfl, fun wl hSw => ?_⟩) hS0 ?_
 ·(try dsimp only at hSw); go_simp
 refine wpAnyF_free (i := 8) (v := .bool false) rfl (by kernel_rfl) (by kernel_rfl) (by kernel_rfl) (by kernel_rfl) (fun _ _ _ h => h) (Or.inl ⟨by rfl, fun wl hSw => ?_⟩) hS0 ?_
 ·(try dsimp only at hSw); go_simp
 have hbZ := bel_up (bel_self Wd) (.cells #[.int .i64 0, .int .i64 0] 120)
 refine wpAnyF_one (i := 9) rfl (by kernel_rfl) (fun K hK => ?_)
 go_simp
 refine hK.out _ _ ⟨fun _ => ⟨bel_c hbZ hSd.c7, bel_c hbZ b0, bel_c hbZ b1, bel_c hbZ b2, hSd.met.block (hbZ.block Mb hSd.met.lt)⟩, ?_⟩
 clear hK K
 refine wpAnyF_one (i := 10) rfl (by kernel_rfl) (fun K hK => ?_)
 go_simp
 refine hK.out _ _ ⟨fun h => absurd h (unl_no (by kernel_rfl)), ?_⟩
 clear hK K
 refine wpAnyF_one (i := 11) rfl (by kernel_rfl) (fun K hK => ?_)
 go_simp
 refine hK.out _ _ ⟨fun h => absurd h (unl_no (by kernel_rfl)), ?_⟩
 clear hK K
 refine wpAnyF_done (by kernel_rfl) ?_ _
 refine NoPanic.normal ?_
 have hbA := bel_up (bel_self Wd) (.cells #[.int .i64 c', .int .i64 a'] 120)
 have e0 : (Wd.alloc (.cells #[.int .i64 c', .int .i64 a'] 120)).cell? ⟨w.heap.size + 1, 0, none⟩ = some (.int .i64 x) := bel_c hbA d0
 have hSe := hSd.below hbA
 clear hbZ hS0
 go_wp2
 obtain ⟨We, hWe⟩ : ∃ We, We = (Wd.alloc (.cells #[.int .i64 c', .int .i64 a'] 120)).drew := ⟨_, rfl⟩
 have hbE : Below Wd.heap.size Wd We := by rw [hWe]; exact hbA.drew
 have hSf := hSd.below hbE
 have hS3 : (fun wx : World => wx.cell? ⟨B, 7, none⟩ = some (.map (some Mb)) ∧ wx.cell? ⟨w.heap.size, 0, none⟩ = some (.int .i64 n) ∧ wx.cell? ⟨w.heap.size, 1, none⟩ = some (.int .i64 i) ∧ wx.cell? ⟨w.heap.size, 2, none⟩ = some (.int .i64 o) ∧ wx.cell? ⟨w.heap.size + 1, 0, none⟩ = some (.int .i64 x) ∧ wx.cell? ⟨w.heap.size + 1, 1, none⟩ = some (.int .i64 a)) We := ⟨hSf.c7, bel_c hbE b0, bel_c hbE b1, bel_c hbE b2, bel_c hbE d0, bel_c hbE d1⟩
 obtain ⟨W4, hrun, hmet4, hgrow⟩ := put_ok hSf.met n i o x a
 unfold spotV stepV at hrun
 have HR : Hid ((Instr.mapUpdate 113 (.map (some Mb)) (.agg #[.int .i64 n, .int .i64 i, .int .i64 o]) (.agg #[.int .i64 x, .int .i64 a])).run Try.prog We = .ok () W4) := hrun
 have hS4 := hSf.put hgrow hmet4
 have hne : ∀ k u, w.heap.size ≤ k → k ≤ w.heap.size + 1 → ∀ j, We.cell? ⟨k, j, none⟩ = some u → W4.cell? ⟨k, j, none⟩ = some u := fun k u h1 h2 j hk => (hgrow.cell_far ⟨k, j, none⟩ (cell_lt hk) (fun e => by injection e with e; have e' : k = Mb := e; have := h.met.lt; omega)).trans hk
 clear hrun hSe e0
 refine wp_region_noPanic ?_
 refine wp_region_F (fun wx => wx.cell? ⟨B, 7, none⟩ = some (.map (some Mb)) ∧ wx.cell? ⟨w.heap.size, 0, none⟩ = some (.int .i64 n) ∧ wx.cell? ⟨w.heap.size, 1, none⟩ = some (.int .i64 i) ∧ wx.cell? ⟨w.heap.size, 2, none⟩ = some (.int .i64 o) ∧ wx.cell? ⟨w.heap.size + 1, 0, none⟩ = some (.int .i64 x) ∧ wx.cell? ⟨w.heap.size + 1, 1, none⟩ = some (.int .i64 a)) [6] (by kernel_rfl) (by rw [← hWe]; exact hS3) (fun _ => ?_)
 rw [← hWe]
 clear hWe
 refine wpAnyF_free (i := 0) (v := .pointer (some ⟨B, 0, none⟩)) rfl (by kernel_rfl) (by kernel_rfl) (by kernel_rfl) (by kernel_rfl) (fun _ _ _ h => h) (Or.inl ⟨by rfl, fun wl hSw => ?_⟩) hS3 ?_
 ·(try dsimp only at hSw); go_simp
 refine wpAnyF_free (i := 1) (v := .pointer (some ⟨B, 0, none⟩)) rfl (by kernel_rfl) (by kernel_rfl) (by kernel_rfl) (by kernel_rfl) (fun _ _ _ h => h) (Or.inl ⟨by rfl, fun wl hSw => ?_⟩) hS3 ?_
 ·(try dsimp only at hSw); go_simp
 refine wpAnyF_free (i := 2) (v := .pointer (some ⟨B, 7, none⟩)) rfl (by kernel_rfl) (by kernel_rfl) (by kernel_rfl) (by kernel_rfl) (fun _ _ _ h => h) (Or.inl ⟨by rfl, fun wl hSw => ?_⟩) hS3 ?_
 ·(try dsimp only at hSw); go_simp
 refine wpAnyF_take (i := 3) (v := .map (some Mb)) rfl (by kernel_rfl) (by kernel_rfl) (by kernel_rfl) (by kernel_rfl) (fun _ _ _ h => h) (Or.inl ⟨by rfl, fun wl hSw => ?_⟩) hS3 ?_
 ·(try dsimp only at hSw); go_simp
 refine wpAnyF_take (i := 4) (v := .agg #[.int .i64 n, .int .i64 i, .int .i64 o]) rfl (by kernel_rfl) (by kernel_rfl) (by kernel_rfl) (by kernel_rfl) (fun _ _ _ h => h) (Or.inl ⟨by rfl, fun wl hSw => ?_⟩) hS3 ?_
 ·(try dsimp only at hSw); go_simp
 refine wpAnyF_take (i := 5) (v := .agg #[.int .i64 x, .int .i64 a]) rfl (by kernel_rfl) (by kernel_rfl) (by kernel_rfl) (by kernel_rfl) (fun _ _ _ h => h) (Or.inl ⟨by rfl, fun wl hSw => ?_⟩) hS3 ?_
 ·(try dsimp only at hSw); go_simp
 refine wpAnyF_one (i := 6) rfl (by kernel_rfl) (fun K hK => ?_)
 have hrun := HR.out
 go_simp
 refine hK.out _ _ ⟨fun h => absurd h (unl_no (by kernel_rfl)), ?_⟩
 clear hK K hrun HR
 refine wpAnyF_done (by kernel_rfl) ?_ _
 refine NoPanic.normal ?_
 go_wp2
 obtain ⟨Wg, hWg⟩ : ∃ Wg, Wg = W4.drew := ⟨_, rfl⟩
 have hbG : Below W4.heap.size W4 Wg := by rw [hWg]; exact (bel_self W4).drew
 have hSg := hS4.below hbG
 have g0 := bel_c hbG (hne w.heap.size _ (by omega) (by omega) 0 (bel_c hbE b0))
 have g1 := bel_c hbG (hne w.heap.size _ (by omega) (by omega) 1 (bel_c hbE b1))
 have g2 := bel_c hbG (hne w.heap.size _ (by omega) (by omega) 2 (bel_c hbE b2))
 have g3 := bel_c hbG (hne (w.heap.size + 1) _ (by omega) (by omega) 0 (bel_c hbE d0))
 have hS5 : (fun wx : World => wx.cell? ⟨w.heap.size, 0, none⟩ = some (.int .i64 n) ∧ wx.cell? ⟨w.heap.size, 1, none⟩ = some (.int .i64 i) ∧ wx.cell? ⟨w.heap.size, 2, none⟩ = some (.int .i64 o) ∧ wx.cell? ⟨w.heap.size + 1, 0, none⟩ = some (.int .i64 x)) Wg := ⟨g0, g1, g2, g3⟩
 clear hS3 b0 b1 b2 d0 d1
 refine wp_region_noPanic ?_
 refine wp_region_F (fun wx => wx.cell? ⟨w.heap.size, 0, none⟩ = some (.int .i64 n) ∧ wx.cell? ⟨w.heap.size, 1, none⟩ = some (.int .i64 i) ∧ wx.cell? ⟨w.heap.size, 2, none⟩ = some (.int .i64 o) ∧ wx.cell? ⟨w.heap.size + 1, 0, none⟩ = some (.int .i64 x)) [] (by kernel_rfl) (by rw [← hWg]; exact hS5) (fun _ => ?_)
 rw [← hWg]
 clear hWg
 refine wpAnyF_free (i := 0) (v := .pointer (some ⟨B, 0, none⟩)) rfl (by kernel_rfl) (by kernel_rfl) (by kernel_rfl) (by kernel_rfl) (fun _ _ _ h => h) (Or.inl ⟨by rfl, fun wl hSw => ?_⟩) hS5 ?_
 ·(try dsimp only at hSw); go_simp
 refine wpAnyF_free (i := 1) (v := .pointer (some ⟨B, 0, none⟩)) rfl (by kernel_rfl) (by kernel_rfl) (by kernel_rfl) (by kernel_rfl) (fun _ _ _ h => h) (Or.inl ⟨by rfl, fun wl hSw => ?_⟩) hS5 ?_
 ·(try dsimp only at hSw); go_simp
 refine wpAnyF_free (i := 2) (v := .pointer (some ⟨B, 8, none⟩)) rfl (by kernel_rfl) (by kernel_rfl) (by kernel_rfl) (by kernel_rfl) (fun _ _ _ h => h) (Or.inl ⟨by rfl, fun wl hSw => ?_⟩) hS5 ?_
 ·(try dsimp only at hSw); go_simp
 refine wpAnyF_free (i := 3) (v := .iface 125 (.pointer (some ⟨B, 8, none⟩))) rfl (by kernel_rfl) (by kernel_rfl) (by kernel_rfl) (by kernel_rfl) (fun _ _ _ h => h) (Or.inl ⟨by rfl, fun wl hSw => ?_⟩) hS5 ?_
 ·(try dsimp only at hSw); go_simp
 refine wpAnyF_take (i := 4) (v := .agg #[.int .i64 n, .int .i64 i, .int .i64 o]) rfl (by kernel_rfl) (by kernel_rfl) (by kernel_rfl) (by kernel_rfl) (fun _ _ _ h => h) (Or.inl ⟨by rfl, fun wl hSw => ?_⟩) hS5 ?_
 ·(try dsimp only at hSw); go_simp
 refine wpAnyF_free (i := 5) (v := .pointer (some ⟨w.heap.size + 1, 0, none⟩)) rfl (by kernel_rfl) (by kernel_rfl) (by kernel_rfl) (by kernel_rfl) (fun _ _ _ h => h) (Or.inl ⟨by rfl, fun wl hSw => ?_⟩) hS5 ?_
 ·(try dsimp only at hSw); go_simp
 refine wpAnyF_take (i := 6) (v := .int .i64 x) rfl (by kernel_rfl) (by kernel_rfl) (by kernel_rfl) (by kernel_rfl) (fun _ _ _ h => h) (Or.inl ⟨by rfl, fun wl hSw => ?_⟩) hS5 ?_
 ·(try dsimp only at hSw); go_simp
 refine wpAnyF_free (i := 7) (v := .agg #[.int .i64 n, .int .i64 i, .int .i64 o, .int .i64 x]) rfl (by kernel_rfl) (by kernel_rfl) (by kernel_rfl) (by kernel_rfl) (fun _ _ _ h => h) (Or.inl ⟨by rfl, fun wl hSw => ?_⟩) hS5 ?_
 ·(try dsimp only at hSw); go_simp
 refine wpAnyF_free (i := 8) (v := .iface 123 (.agg #[.int .i64 n, .int .i64 i, .int .i64 o, .int .i64 x])) rfl (by kernel_rfl) (by kernel_rfl) (by kernel_rfl) (by kernel_rfl) (fun _ _ _ h => h) (Or.inl ⟨by rfl, fun wl hSw => ?_⟩) hS5 ?_
 ·(try dsimp only at hSw); go_simp
 refine wpAnyF_one (i := 9) rfl (by kernel_rfl) (fun K hK => ?_)
 go_simp
 refine (hpush_any B w0.heap.size v L ⟨n, i, o, x⟩ Wg hSg.q hN hSg.hp).mono ?_
 rintro e W5 ⟨rfl, v5, L5, r1, r2, r3, r4⟩
 have hk5 : ∀ k u, w.heap.size ≤ k → ∀ j, Wg.cell? ⟨k, j, none⟩ = some u → W5.cell? ⟨k, j, none⟩ = some u := fun k u h1 j hk => (World.cell?_of_block (w := Wg) (a := ⟨k, j, none⟩) (r4.block k (cell_lt hk) (by omega) (fun e => by have := ownsRow_lt0 h.q.row _ e; omega))).trans hk
 refine hK.out _ _ ⟨fun _ => ⟨hk5 _ _ (by omega) 0 g0, hk5 _ _ (by omega) 1 g1, hk5 _ _ (by omega) 2 g2, hk5 _ _ (by omega) 0 g3⟩, ?_⟩
 clear hK K
 refine wpAnyF_done (by kernel_rfl) ?_ _
 refine NoPanic.normal ?_
 go_wp2
 go_end0
 exact ⟨rfl, v5, L5, hSg.step r4 r3 r2, r1, (((MStep.bel (bel_on hbd hbE)).trans (MStep.map hgrow)).trans (MStep.bel hbG)).trans (MStep.que r4)⟩
set_option maxHeartbeats 1000000 in
theorem meet_less (w0 : World) (N s0 B Mb Fb : Nat) (fin arcs iv ov v : Value) (fl : List Int) (ms : List MetD) (L : List PlD) (n i o : Nat) (x a c' a' : Int) (w : World) (h : SW w0 w N s0 B Mb Fb fin arcs iv ov v fl ms L) (hN : L.length ≤ 3000000000) (hc : x < c') (hf : foundV (lookM n i o ms) = stepV c' a') (ho : (lookM n i o ms).isSome = true) :
  Calls Try.prog 98 #[.pointer (some ⟨B, 0, none⟩), spotV n i o, stepV x a] w fun e w' => e = .returned (.tuple #[]) ∧ ∃ v' L', SW w0 w' N s0 B Mb Fb fin arcs iv ov v' fl (putM ⟨n, i, o, x, a⟩ ms) L' ∧ L'.Perm (⟨n, i, o, x⟩ :: L) ∧ MStep B Mb w v w' v' := by
 unfold spotV stepV
 have hb1 := bel_up (bel_up (bel_self w) (.cells #[.int .i64 (n : Int), .int .i64 (i : Int), .int .i64 (o : Int)] 96)) (.cells #[.int .i64 x, .int .i64 a] 120)
 obtain ⟨Wd, hWd⟩ : ∃ Wd, Wd = ((w.alloc (.cells #[.int .i64 (n : Int), .int .i64 (i : Int), .int .i64 (o : Int)] 96)).alloc (.cells #[.int .i64 x, .int .i64 a] 120)).drew := ⟨_, rfl⟩
 have hbd : Below w.heap.size w Wd := by rw [hWd]; exact hb1.drew
 have hSd := h.below hbd
 have b0 : Wd.cell? ⟨w.heap.size, 0, none⟩ = some (.int .i64 n) := by rw [hWd]; exact drew_cell (old_cell (new_cell _ _ _ _ 0 _ rfl rfl))
 have b1 : Wd.cell? ⟨w.heap.size, 1, none⟩ = some (.int .i64 i) := by rw [hWd]; exact drew_cell (old_cell (new_cell _ _ _ _ 1 _ rfl rfl))
 have b2 : Wd.cell? ⟨w.heap.size, 2, none⟩ = some (.int .i64 o) := by rw [hWd]; exact drew_cell (old_cell (new_cell _ _ _ _ 2 _ rfl rfl))
 have d0 : Wd.cell? ⟨w.heap.size + 1, 0, none⟩ = some (.int .i64 x) := by rw [hWd]; exact drew_cell (new_cell _ _ _ _ 0 _ (by simp) rfl)
 have d1 : Wd.cell? ⟨w.heap.size + 1, 1, none⟩ = some (.int .i64 a) := by rw [hWd]; exact drew_cell (new_cell _ _ _ _ 1 _ (by simp) rfl)
 have hdl : w.heap.size + 1 < Wd.heap.size := cell_lt d0
 have hS0 : (fun wx : World => wx.cell? ⟨B, 7, none⟩ = some (.map (some Mb)) ∧ wx.cell? ⟨w.heap.size, 0, none⟩ = some (.int .i64 n) ∧ wx.cell? ⟨w.heap.size, 1, none⟩ = some (.int .i64 i) ∧ wx.cell? ⟨w.heap.size, 2, none⟩ = some (.int .i64 o) ∧ MetAt wx Mb ms) Wd := ⟨hSd.c7, b0, b1, b2, hSd.met⟩
 have HF : Hid (foundV (lookM n i o ms) = stepV c' a') := hf
 have HO : Hid ((lookM n i o ms).isSome = true) := ho
 have hBl := cell_lt h.c0
 clear hf ho hb1
 go_enter Try.func98, Try.ntmps98
 go_wp2
 refine wp_region_noPanic ?_
 refine wp_region_F (fun wx => wx.cell? ⟨B, 7, none⟩ = some (.map (some Mb)) ∧ wx.cell? ⟨w.heap.size, 0, none⟩ = some (.int .i64 n) ∧ wx.cell? ⟨w.heap.size, 1, none⟩ = some (.int .i64 i) ∧ wx.cell? ⟨w.heap.size, 2, none⟩ = some (.int .i64 o) ∧ MetAt wx Mb ms) [10] (by kernel_rfl) (by rw [← hWd]; exact hS0) (fun _ => ?_)
 rw [← hWd]
 clear hWd
 refine wpAnyF_free (i := 0) (v := .pointer (some ⟨B, 0, none⟩)) rfl (by kernel_rfl) (by kernel_rfl) (by kernel_rfl) (by kernel_rfl) (fun _ _ _ h => h) (Or.inl ⟨by rfl, fun wl hSw => ?_⟩) hS0 ?_
 ·(try dsimp only at hSw); go_simp
 refine wpAnyF_free (i := 1) (v := .pointer (some ⟨B, 0, none⟩)) rfl (by kernel_rfl) (by kernel_rfl) (by kernel_rfl) (by kernel_rfl) (fun _ _ _ h => h) (Or.inl ⟨by rfl, fun wl hSw => ?_⟩) hS0 ?_
 ·(try dsimp only at hSw); go_simp
 refine wpAnyF_free (i := 2) (v := .pointer (some ⟨B, 7, none⟩)) rfl (by kernel_rfl) (by kernel_rfl) (by kernel_rfl) (by kernel_rfl) (fun _ _ _ h => h) (Or.inl ⟨by rfl, fun wl hSw => ?_⟩) hS0 ?_
 ·(try dsimp only at hSw); go_simp
 refine wpAnyF_take (i := 3) (v := .map (some Mb)) rfl (by kernel_rfl) (by kernel_rfl) (by kernel_rfl) (by kernel_rfl) (fun _ _ _ h => h) (Or.inl ⟨by rfl, fun wl hSw => ?_⟩) hS0 ?_
 ·(try dsimp only at hSw); go_simp
 refine wpAnyF_take (i := 4) (v := .agg #[.int .i64 n, .int .i64 i, .int .i64 o]) rfl (by kernel_rfl) (by kernel_rfl) (by kernel_rfl) (by kernel_rfl) (fun _ _ _ h => h) (Or.inl ⟨by rfl, fun wl hSw => ?_⟩) hS0 ?_
 ·(try dsimp only at hSw); go_simp
 refine wpAnyF_take (i := 5) (v := .tuple #[.agg #[.int .i64 c', .int .i64 a'], .bool true]) rfl (by kernel_rfl) (by kernel_rfl) (by kernel_rfl) (by kernel_rfl) (fun _ _ _ h => h) (Or.inl ⟨by rfl, fun wl hSw => ?_⟩) hS0 ?_
 ·(try dsimp only at hSw); go_simp; rw [look_agg hSw.2.2.2.2 HF.out HO.out]; rfl
 refine wpAnyF_free (i := 6) (v := .tuple #[.agg #[.int .i64 c', .int .i64 a'], .bool true]) rfl (by kernel_rfl) (by kernel_rfl) (by kernel_rfl) (by kernel_rfl) (fun _ _ _ h => h) (Or.inl ⟨by rfl, fun wl hSw => ?_⟩) hS0 ?_
 ·(try dsimp only at hSw); go_simp
 refine wpAnyF_free (i := 7) (v := .agg #[.int .i64 c', .int .i64 a']) rfl (by kernel_rfl) (by kernel_rfl) (by kernel_rfl) (by kernel_rfl) (fun _ _ _ h => h) (Or.inl ⟨by rfl, fun wl hSw => ?_⟩) hS0 ?_
 ·(try dsimp only at hSw); go_simp
 refine wpAnyF_free (i := 8) (v := .bool true) rfl (by kernel_rfl) (by kernel_rfl) (by kernel_rfl) (by kernel_rfl) (fun _ _ _ h => h) (Or.inl ⟨by rfl, fun wl hSw => ?_⟩) hS0 ?_
 ·(try dsimp only at hSw); go_simp
 have hbZ := bel_up (bel_self Wd) (.cells #[.int .i64 0, .int .i64 0] 120)
 refine wpAnyF_one (i := 9) rfl (by kernel_rfl) (fun K hK => ?_)
 go_simp
 refine hK.out _ _ ⟨fun _ => ⟨bel_c hbZ hSd.c7, bel_c hbZ b0, bel_c hbZ b1, bel_c hbZ b2, hSd.met.block (hbZ.block Mb hSd.met.lt)⟩, ?_⟩
 clear hK K
 refine wpAnyF_one (i := 10) rfl (by kernel_rfl) (fun K hK => ?_)
 go_simp
 refine hK.out _ _ ⟨fun h => absurd h (unl_no (by kernel_rfl)), ?_⟩
 clear hK K
 refine wpAnyF_one (i := 11) rfl (by kernel_rfl) (fun K hK => ?_)
 go_simp
 refine hK.out _ _ ⟨fun h => absurd h (unl_no (by kernel_rfl)), ?_⟩
 clear hK K
 refine wpAnyF_done (by kernel_rfl) ?_ _
 refine NoPanic.normal ?_
 have hbA := bel_up (bel_self Wd) (.cells #[.int .i64 c', .int .i64 a'] 120)
 have e0 : (Wd.alloc (.cells #[.int .i64 c', .int .i64 a'] 120)).cell? ⟨w.heap.size + 1, 0, none⟩ = some (.int .i64 x) := bel_c hbA d0
 have hSe := hSd.below hbA
 clear hbZ hS0
 go_wp2
 obtain ⟨We, hWe⟩ : ∃ We, We = (Wd.alloc (.cells #[.int .i64 c', .int .i64 a'] 120)).drew := ⟨_, rfl⟩
 have hbE : Below Wd.heap.size Wd We := by rw [hWe]; exact hbA.drew
 have hSf := hSd.below hbE
 have hS3 : (fun wx : World => wx.cell? ⟨B, 7, none⟩ = some (.map (some Mb)) ∧ wx.cell? ⟨w.heap.size, 0, none⟩ = some (.int .i64 n) ∧ wx.cell? ⟨w.heap.size, 1, none⟩ = some (.int .i64 i) ∧ wx.cell? ⟨w.heap.size, 2, none⟩ = some (.int .i64 o) ∧ wx.cell? ⟨w.heap.size + 1, 0, none⟩ = some (.int .i64 x) ∧ wx.cell? ⟨w.heap.size + 1, 1, none⟩ = some (.int .i64 a)) We := ⟨hSf.c7, bel_c hbE b0, bel_c hbE b1, bel_c hbE b2, bel_c hbE d0, bel_c hbE d1⟩
 obtain ⟨W4, hrun, hmet4, hgrow⟩ := put_ok hSf.met n i o x a
 unfold spotV stepV at hrun
 have HR : Hid ((Instr.mapUpdate 113 (.map (some Mb)) (.agg #[.int .i64 n, .int .i64 i, .int .i64 o]) (.agg #[.int .i64 x, .int .i64 a])).run Try.prog We = .ok () W4) := hrun
 have hS4 := hSf.put hgrow hmet4
 have hne : ∀ k u, w.heap.size ≤ k → k ≤ w.heap.size + 1 → ∀ j, We.cell? ⟨k, j, none⟩ = some u → W4.cell? ⟨k, j, none⟩ = some u := fun k u h1 h2 j hk => (hgrow.cell_far ⟨k, j, none⟩ (cell_lt hk) (fun e => by injection e with e; have e' : k = Mb := e; have := h.met.lt; omega)).trans hk
 clear hrun hSe e0
 refine wp_region_noPanic ?_
 refine wp_region_F (fun wx => wx.cell? ⟨B, 7, none⟩ = some (.map (some Mb)) ∧ wx.cell? ⟨w.heap.size, 0, none⟩ = some (.int .i64 n) ∧ wx.cell? ⟨w.heap.size, 1, none⟩ = some (.int .i64 i) ∧ wx.cell? ⟨w.heap.size, 2, none⟩ = some (.int .i64 o) ∧ wx.cell? ⟨w.heap.size + 1, 0, none⟩ = some (.int .i64 x) ∧ wx.cell? ⟨w.heap.size + 1, 1, none⟩ = some (.int .i64 a)) [6] (by kernel_rfl) (by rw [← hWe]; exact hS3) (fun _ => ?_)
 rw [← hWe]
 clear hWe
 refine wpAnyF_free (i := 0) (v := .pointer (some ⟨B, 0, none⟩)) rfl (by kernel_rfl) (by kernel_rfl) (by kernel_rfl) (by kernel_rfl) (fun _ _ _ h => h) (Or.inl ⟨by rfl, fun wl hSw => ?_⟩) hS3 ?_
 ·(try dsimp only at hSw); go_simp
 refine wpAnyF_free (i := 1) (v := .pointer (some ⟨B, 0, none⟩)) rfl (by kernel_rfl) (by kernel_rfl) (by kernel_rfl) (by kernel_rfl) (fun _ _ _ h => h) (Or.inl ⟨by rfl, fun wl hSw => ?_⟩) hS3 ?_
 ·(try dsimp only at hSw); go_simp
 refine wpAnyF_free (i := 2) (v := .pointer (some ⟨B, 7, none⟩)) rfl (by kernel_rfl) (by kernel_rfl) (by kernel_rfl) (by kernel_rfl) (fun _ _ _ h => h) (Or.inl ⟨by rfl, fun wl hSw => ?_⟩) hS3 ?_
 ·(try dsimp only at hSw); go_simp
 refine wpAnyF_take (i := 3) (v := .map (some Mb)) rfl (by kernel_rfl) (by kernel_rfl) (by kernel_rfl) (by kernel_rfl) (fun _ _ _ h => h) (Or.inl ⟨by rfl, fun wl hSw => ?_⟩) hS3 ?_
 ·(try dsimp only at hSw); go_simp
 refine wpAnyF_take (i := 4) (v := .agg #[.int .i64 n, .int .i64 i, .int .i64 o]) rfl (by kernel_rfl) (by kernel_rfl) (by kernel_rfl) (by kernel_rfl) (fun _ _ _ h => h) (Or.inl ⟨by rfl, fun wl hSw => ?_⟩) hS3 ?_
 ·(try dsimp only at hSw); go_simp
 refine wpAnyF_take (i := 5) (v := .agg #[.int .i64 x, .int .i64 a]) rfl (by kernel_rfl) (by kernel_rfl) (by kernel_rfl) (by kernel_rfl) (fun _ _ _ h => h) (Or.inl ⟨by rfl, fun wl hSw => ?_⟩) hS3 ?_
 ·(try dsimp only at hSw); go_simp
 refine wpAnyF_one (i := 6) rfl (by kernel_rfl) (fun K hK => ?_)
 have hrun := HR.out
 go_simp
 refine hK.out _ _ ⟨fun h => absurd h (unl_no (by kernel_rfl)), ?_⟩
 clear hK K hrun HR
 refine wpAnyF_done (by kernel_rfl) ?_ _
 refine NoPanic.normal ?_
 go_wp2
 obtain ⟨Wg, hWg⟩ : ∃ Wg, Wg = W4.drew := ⟨_, rfl⟩
 have hbG : Below W4.heap.size W4 Wg := by rw [hWg]; exact (bel_self W4).drew
 have hSg := hS4.below hbG
 have g0 := bel_c hbG (hne w.heap.size _ (by omega) (by omega) 0 (bel_c hbE b0))
 have g1 := bel_c hbG (hne w.heap.size _ (by omega) (by omega) 1 (bel_c hbE b1))
 have g2 := bel_c hbG (hne w.heap.size _ (by omega) (by omega) 2 (bel_c hbE b2))
 have g3 := bel_c hbG (hne (w.heap.size + 1) _ (by omega) (by omega) 0 (bel_c hbE d0))
 have hS5 : (fun wx : World => wx.cell? ⟨w.heap.size, 0, none⟩ = some (.int .i64 n) ∧ wx.cell? ⟨w.heap.size, 1, none⟩ = some (.int .i64 i) ∧ wx.cell? ⟨w.heap.size, 2, none⟩ = some (.int .i64 o) ∧ wx.cell? ⟨w.heap.size + 1, 0, none⟩ = some (.int .i64 x)) Wg := ⟨g0, g1, g2, g3⟩
 clear hS3 b0 b1 b2 d0 d1
 refine wp_region_noPanic ?_
 refine wp_region_F (fun wx => wx.cell? ⟨w.heap.size, 0, none⟩ = some (.int .i64 n) ∧ wx.cell? ⟨w.heap.size, 1, none⟩ = some (.int .i64 i) ∧ wx.cell? ⟨w.heap.size, 2, none⟩ = some (.int .i64 o) ∧ wx.cell? ⟨w.heap.size + 1, 0, none⟩ = some (.int .i64 x)) [] (by kernel_rfl) (by rw [← hWg]; exact hS5) (fun _ => ?_)
 rw [← hWg]
 clear hWg
 refine wpAnyF_free (i := 0) (v := .pointer (some ⟨B, 0, none⟩)) rfl (by kernel_rfl) (by kernel_rfl) (by kernel_rfl) (by kernel_rfl) (fun _ _ _ h => h) (Or.inl ⟨by rfl, fun wl hSw => ?_⟩) hS5 ?_
 ·(try dsimp only at hSw); go_simp
 refine wpAnyF_free (i := 1) (v := .pointer (some ⟨B, 0, none⟩)) rfl (by kernel_rfl) (by kernel_rfl) (by kernel_rfl) (by kernel_rfl) (fun _ _ _ h => h) (Or.inl ⟨by rfl, fun wl hSw => ?_⟩) hS5 ?_
 ·(try dsimp only at hSw); go_simp
 refine wpAnyF_free (i := 2) (v := .pointer (some ⟨B, 8, none⟩)) rfl (by kernel_rfl) (by kernel_rfl) (by kernel_rfl) (by kernel_rfl) (fun _ _ _ h => h) (Or.inl ⟨by rfl, fun wl hSw => ?_⟩) hS5 ?_
 ·(try dsimp only at hSw); go_simp
 refine wpAnyF_free (i := 3) (v := .iface 125 (.pointer (some ⟨B, 8, none⟩))) rfl (by kernel_rfl) (by kernel_rfl) (by kernel_rfl) (by kernel_rfl) (fun _ _ _ h => h) (Or.inl ⟨by rfl, fun wl hSw => ?_⟩) hS5 ?_
 ·(try dsimp only at hSw); go_simp
 refine wpAnyF_take (i := 4) (v := .agg #[.int .i64 n, .int .i64 i, .int .i64 o]) rfl (by kernel_rfl) (by kernel_rfl) (by kernel_rfl) (by kernel_rfl) (fun _ _ _ h => h) (Or.inl ⟨by rfl, fun wl hSw => ?_⟩) hS5 ?_
 ·(try dsimp only at hSw); go_simp
 refine wpAnyF_free (i := 5) (v := .pointer (some ⟨w.heap.size + 1, 0, none⟩)) rfl (by kernel_rfl) (by kernel_rfl) (by kernel_rfl) (by kernel_rfl) (fun _ _ _ h => h) (Or.inl ⟨by rfl, fun wl hSw => ?_⟩) hS5 ?_
 ·(try dsimp only at hSw); go_simp
 refine wpAnyF_take (i := 6) (v := .int .i64 x) rfl (by kernel_rfl) (by kernel_rfl) (by kernel_rfl) (by kernel_rfl) (fun _ _ _ h => h) (Or.inl ⟨by rfl, fun wl hSw => ?_⟩) hS5 ?_
 ·(try dsimp only at hSw); go_simp
 refine wpAnyF_free (i := 7) (v := .agg #[.int .i64 n, .int .i64 i, .int .i64 o, .int .i64 x]) rfl (by kernel_rfl) (by kernel_rfl) (by kernel_rfl) (by kernel_rfl) (fun _ _ _ h => h) (Or.inl ⟨by rfl, fun wl hSw => ?_⟩) hS5 ?_
 ·(try dsimp only at hSw); go_simp
 refine wpAnyF_free (i := 8) (v := .iface 123 (.agg #[.int .i64 n, .int .i64 i, .int .i64 o, .int .i64 x])) rfl (by kernel_rfl) (by kernel_rfl) (by kernel_rfl) (by kernel_rfl) (fun _ _ _ h => h) (Or.inl ⟨by rfl, fun wl hSw => ?_⟩) hS5 ?_
 ·(try dsimp only at hSw); go_simp
 refine wpAnyF_one (i := 9) rfl (by kernel_rfl) (fun K hK => ?_)
 go_simp
 refine (hpush_any B w0.heap.size v L ⟨n, i, o, x⟩ Wg hSg.q hN hSg.hp).mono ?_
 rintro e W5 ⟨rfl, v5, L5, r1, r2, r3, r4⟩
 have hk5 : ∀ k u, w.heap.size ≤ k → ∀ j, Wg.cell? ⟨k, j, none⟩ = some u → W5.cell? ⟨k, j, none⟩ = some u := fun k u h1 j hk => (World.cell?_of_block (w := Wg) (a := ⟨k, j, none⟩) (r4.block k (cell_lt hk) (by omega) (fun e => by have := ownsRow_lt0 h.q.row _ e; omega))).trans hk
 refine hK.out _ _ ⟨fun _ => ⟨hk5 _ _ (by omega) 0 g0, hk5 _ _ (by omega) 1 g1, hk5 _ _ (by omega) 2 g2, hk5 _ _ (by omega) 0 g3⟩, ?_⟩
 clear hK K
 refine wpAnyF_done (by kernel_rfl) ?_ _
 refine NoPanic.normal ?_
 go_wp2
 go_end0
 exact ⟨rfl, v5, L5, hSg.step r4 r3 r2, r1, (((MStep.bel (bel_on hbd hbE)).trans (MStep.map hgrow)).trans (MStep.bel hbG)).trans (MStep.que r4)⟩
end Go.Proofs.Yteehgcbjmdideab
/- The program's search: what stays true of prices, and of the arcs that they came by, from one step to the next. -/
namespace Go.Proofs.Yteehgcbjmdideab
def muI (x : Int) : Nat := if x < 0 then 1000000000000000 else x.toNat
def muL (c : List Int) : Nat := (c.map muI).sum
def metL (c : List Int) : Nat := (c.map fun x => if x < 0 then 0 else 1).sum
theorem sum_set (f : Int → Nat) (c : List Int) (v : Nat) (x : Int) (hv : v < c.length) : ((c.set v x).map f).sum + f (gI c v) = (c.map f).sum + f x := by
 induction c generalizing v with
 | nil => simp at hv
 | cons y c ih =>
  cases v with
  | zero => simp [gI, List.getD]; omega
  | succ v =>
   have := ih v (by simpa using hv)
   have e : gI (y :: c) (v + 1) = gI c v := by simp [gI, List.getD]
   rw [e]
   simp only [List.set_cons_succ, List.map_cons, List.sum_cons]
   omega
theorem metL_le (c : List Int) : metL c ≤ c.length := by
 unfold metL
 induction c with
 | nil => simp
 | cons x c ih =>
  simp only [List.map_cons, List.sum_cons, List.length_cons]
  split <;> omega
def ByOk (E : List Edg) (b c y : List Int) (r : Nat → Nat) : Prop :=
 ∀ v, v < c.length → (gI y v = -1 ∧ gI c v = gI b v) ∨ ∃ (j : Nat) (e : Edg), gI y v = j ∧ E[j]? = some e ∧ e.v = v ∧ 0 ≤ gI c e.u ∧ 0 ≤ gI c v ∧ gI c e.u + e.w ≤ gI c v ∧ (gI c e.u + e.w = gI c v → r e.u < r v)
structure Inv (E : List Edg) (b c y : List Int) : Prop where
 len : c.length = b.length
 ylen : y.length = b.length
 ach : Ach E b c
 le : LeC c b
 lo : ∀ v, -1 ≤ gI c v
 hi : ∀ v, gI c v ≤ 1000000000 * (1 + (metL c : Int))
 by_ : ∃ r R, (∀ x, r x ≤ R) ∧ ByOk E b c y r
section
variable {E : List Edg} {b c y : List Int}
theorem Inv.topK (h : Inv E b c y) (hn : b.length ≤ 400000) (v : Nat) : gI c v ≤ 400001000000000 := by
 have h1 := h.hi v
 have h2 := metL_le c
 have h3 := h.len
 omega
theorem Inv.start (hb : ∀ v, gI b v = -1 ∨ 0 ≤ gI b v) (hm : ∀ v, gI b v ≤ 1000000000) : Inv E b b (List.replicate b.length (-1)) where
 len := rfl
 ylen := by simp
 ach := fun v => (hb v).imp id fun h => ⟨0, rfl, h⟩
 le := LeC.refl _
 lo := fun v => by rcases hb v with h | h <;> omega
 hi := fun v => by have := hm v; omega
 by_ := ⟨fun _ => 0, 0, fun _ => Nat.le_refl _, fun v hv => Or.inl ⟨by simp [gI, List.getD, hv], rfl⟩⟩
theorem better_iff {a d : Int} (ha : -1 ≤ a) (hd : -1 ≤ d) : betterB a d = true ↔ 0 ≤ a ∧ (d = -1 ∨ a < d) := by
 unfold betterB
 simp only [Bool.and_eq_true, bne_iff_ne, ne_eq, Bool.or_eq_true, beq_iff_eq, decide_eq_true_eq]
 omega
theorem plusC_lo (a w : Int) : -1 ≤ plusC a w := by
 unfold plusC; split
 ·omega
 ·omega
theorem Inv.step {j : Nat} {e : Edg} (h : Inv E b c y) (hbn : b.length ≤ 400000) (hj : E[j]? = some e) (hv : e.v < b.length) (hw0 : 0 ≤ e.w) (hw1 : e.w ≤ 1000000000)
  (hbt : betterB (plusC (gI c e.u) e.w) (gI c e.v) = true) :
  Inv E b (c.set e.v (plusC (gI c e.u) e.w)) (y.set e.v (j : Int)) ∧ muL (c.set e.v (plusC (gI c e.u) e.w)) < muL c := by
 have hvc : e.v < c.length := by have := h.len; omega
 have hvy : e.v < y.length := by have := h.ylen; omega
 have he : e ∈ E := List.mem_of_getElem? hj
 obtain ⟨hp0, hbet⟩ := (better_iff (plusC_lo _ _) (h.lo _)).1 hbt
 have hcu : 0 ≤ gI c e.u := by
  unfold plusC at hp0
  split at hp0
  ·omega
  ·rename_i hh; omega
 have hp : plusC (gI c e.u) e.w = gI c e.u + e.w := by unfold plusC; rw [if_neg (by omega)]
 have hrel : c.set e.v (plusC (gI c e.u) e.w) = relE c e := by
  rw [← progE_eq c e h.lo]
  unfold progE
  rw [if_pos hbt]
 have hne : e.u ≠ e.v := by
  intro hh
  rw [hh] at hp hcu
  rw [hh, hp] at hbet
  omega
 have hset : ∀ x, gI (c.set e.v (plusC (gI c e.u) e.w)) x = if x = e.v then gI c e.u + e.w else gI c x := fun x => by rw [gI_set _ _ _ _ hvc, hp]
 have hyset : ∀ x, gI (y.set e.v (j : Int)) x = if x = e.v then (j : Int) else gI y x := fun x => gI_set _ _ _ _ hvy
 have hmet := sum_set (fun x => if x < 0 then 0 else 1) c e.v (plusC (gI c e.u) e.w) hvc
 have hmu := sum_set muI c e.v (plusC (gI c e.u) e.w) hvc
 change metL (c.set e.v (plusC (gI c e.u) e.w)) + _ = metL c + _ at hmet
 change muL (c.set e.v (plusC (gI c e.u) e.w)) + _ = muL c + _ at hmu
 rw [if_neg (by omega : ¬ plusC (gI c e.u) e.w < 0)] at hmet
 have htop := h.hi e.u
 refine ⟨⟨by simpa using h.len, by simpa using h.ylen, ?_, ?_, ?_, ?_, ?_⟩, ?_⟩
 ·rw [hrel]; exact relE_ach he hvc h.ach
 ·rw [hrel]; exact (relE_le c e hvc).trans h.le
 ·intro x
  rw [hset]
  split
  ·omega
  ·exact h.lo x
 ·intro x
  rw [hset]
  have hx := h.hi x
  by_cases hn : gI c e.v < 0
  ·rw [if_pos hn] at hmet
   split <;> omega
  ·rw [if_neg hn] at hmet
   have := h.hi e.v
   split <;> omega
 ·obtain ⟨r, R, hR, hby⟩ := h.by_
  refine ⟨fun x => if x = e.v then R + 1 else r x, R + 1, fun x => ?_, fun v hv' => ?_⟩
  ·show (if x = e.v then R + 1 else r x) ≤ R + 1
   split
   ·exact Nat.le_refl _
   ·have := hR x; omega
  ·rw [hset, hyset]
   by_cases hve : v = e.v
   ·subst hve
    right
    rw [if_pos rfl, if_pos rfl]
    refine ⟨j, e, rfl, hj, rfl, ?_⟩
    rw [hset, if_neg hne]
    simp only [hne, if_true, if_false]
    have := hR e.u
    refine ⟨hcu, by omega, by omega, fun _ => by omega⟩
   ·rw [if_neg hve, if_neg hve]
    rcases hby v (by simpa using hv') with hl | ⟨j', e', h1, h2, h3, h4, h5, h6, h7⟩
    ·exact Or.inl hl
    ·right
     refine ⟨j', e', h1, h2, h3, ?_⟩
     rw [hset]
     by_cases hue : e'.u = e.v
     ·rw [if_pos hue]
      rw [hue] at h4 h6
      refine ⟨by omega, h5, by omega, fun hh => by omega⟩
     ·rw [if_neg hue]
      refine ⟨h4, h5, h6, fun hh => ?_⟩
      have := h7 hh
      simp only [hue, if_false, hve]
      exact this
 ·have hmu1 : muI (plusC (gI c e.u) e.w) < muI (gI c e.v) := by
   unfold muI
   rw [if_neg (by omega)]
   by_cases hn : gI c e.v < 0
   ·rw [if_pos hn]
    have := h.topK hbn e.u
    omega
   ·rw [if_neg hn]; omega
  omega
end
end Go.Proofs.Yteehgcbjmdideab
