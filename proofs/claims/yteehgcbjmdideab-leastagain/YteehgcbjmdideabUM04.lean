/- 'meet' of the search. -/
import Derived.Test.YteehgcbjmdideabUM03
import Derived.Test.YteehgcbjmdideabUM01
set_option maxRecDepth 100000
namespace Go.Proofs.Yteehgcbjmdideab
open Go.RowKit
attribute [local go_sem ↓] Go.wp_at_zero Go.wp_at_succ
theorem look_agg {w : World} {b : Nat} {ms : List MetD} {n i o : Nat} {c' a' : Int} {ok : Bool} (h : MetAt w b ms) (hf : foundV (lookM n i o ms) = stepV c' a') (ho : (lookM n i o ms).isSome = ok) : (Instr.lookup 113 (.map (some b)) (.agg #[.int .i64 n,.int .i64 i,.int .i64 o]) true).run Try.prog w = .ok (.tuple #[.agg #[.int .i64 c',.int .i64 a'],.bool ok]) w:=by
 have:=look_ok h n i o
 rw [hf,ho] at this
 exact this
set_option maxHeartbeats 1000000 in
theorem meet_no (w0 : World) (N s0 B Mb Fb : Nat) (fin arcs iv ov v : Value) (fl : List Int) (ms : List MetD) (L : List PlD) (n i o : Nat) (x a c' a' : Int) (w : World) (h : SW w0 w N s0 B Mb Fb fin arcs iv ov v fl ms L) (hc : c' <= x) (hf : foundV (lookM n i o ms) = stepV c' a') (ho : (lookM n i o ms).isSome = true) :
  Calls Try.prog 98 #[.pointer (some ⟨B,0,none⟩),spotV n i o,stepV x a] w fun e w' => e = .returned (.tuple #[]) /\ SW w0 w' N s0 B Mb Fb fin arcs iv ov v fl ms L /\ MStep B Mb w v w' v:=by
 unfold spotV stepV
 have hb1:=bel_up (bel_up (bel_self w) (.cells #[.int .i64 (n : Int),.int .i64 (i : Int),.int .i64 (o : Int)] 96)) (.cells #[.int .i64 x,.int .i64 a] 120)
 obtain ⟨Wd,hWd⟩ : ∃ Wd,Wd = ((w.alloc (.cells #[.int .i64 (n : Int),.int .i64 (i : Int),.int .i64 (o : Int)] 96)).alloc (.cells #[.int .i64 x,.int .i64 a] 120)).drew:=⟨_,rfl⟩
 have hbd : Below w.heap.size w Wd:=by rw [hWd]; exact hb1.drew
 have hSd:=h.below hbd
 have b0 : Wd.cell? ⟨w.heap.size,0,none⟩ = some (.int .i64 n):=by rw [hWd]; exact drew_cell (old_cell (new_cell _ _ _ _ 0 _ rfl rfl))
 have b1 : Wd.cell? ⟨w.heap.size,1,none⟩ = some (.int .i64 i):=by rw [hWd]; exact drew_cell (old_cell (new_cell _ _ _ _ 1 _ rfl rfl))
 have b2 : Wd.cell? ⟨w.heap.size,2,none⟩ = some (.int .i64 o):=by rw [hWd]; exact drew_cell (old_cell (new_cell _ _ _ _ 2 _ rfl rfl))
 have d0 : Wd.cell? ⟨w.heap.size + 1,0,none⟩ = some (.int .i64 x):=by rw [hWd]; exact drew_cell (new_cell _ _ _ _ 0 _ (by simp) rfl)
 have d1 : Wd.cell? ⟨w.heap.size + 1,1,none⟩ = some (.int .i64 a):=by rw [hWd]; exact drew_cell (new_cell _ _ _ _ 1 _ (by simp) rfl)
 have hdl : w.heap.size + 1 < Wd.heap.size:=cell_lt d0
 have hS0 : (fun wx : World => wx.cell? ⟨B,7,none⟩ = some (.map (some Mb)) /\ wx.cell? ⟨w.heap.size,0,none⟩ = some (.int .i64 n) /\ wx.cell? ⟨w.heap.size,1,none⟩ = some (.int .i64 i) /\ wx.cell? ⟨w.heap.size,2,none⟩ = some (.int .i64 o) /\ MetAt wx Mb ms) Wd:=⟨hSd.c7,b0,b1,b2,hSd.met⟩
 have HF : Hid (foundV (lookM n i o ms) = stepV c' a'):=hf
 have HO : Hid ((lookM n i o ms).isSome = true):=ho
 have hBl:=cell_lt h.c0
 clear hf ho hb1
 go_enter Try.func98,Try.ntmps98
 go_wp2
 refine wp_region_noPanic ?_
 refine wp_region_F (fun wx => wx.cell? ⟨B,7,none⟩ = some (.map (some Mb)) /\ wx.cell? ⟨w.heap.size,0,none⟩ = some (.int .i64 n) /\ wx.cell? ⟨w.heap.size,1,none⟩ = some (.int .i64 i) /\ wx.cell? ⟨w.heap.size,2,none⟩ = some (.int .i64 o) /\ MetAt wx Mb ms) [10] (by kernel_rfl) (by rw [<- hWd]; exact hS0) (fun _ => ?_)
 rw [<- hWd]
 clear hWd
 refine wpAnyF_free (i:=0) (v:=.pointer (some ⟨B,0,none⟩)) rfl (by kernel_rfl) (by kernel_rfl) (by kernel_rfl) (by kernel_rfl) (fun _ _ _ h => h) (Or.inl ⟨by rfl,fun wl hSw => ?_⟩) hS0 ?_
 ·(try dsimp only at hSw); go_simp
 refine wpAnyF_free (i:=1) (v:=.pointer (some ⟨B,0,none⟩)) rfl (by kernel_rfl) (by kernel_rfl) (by kernel_rfl) (by kernel_rfl) (fun _ _ _ h => h) (Or.inl ⟨by rfl,fun wl hSw => ?_⟩) hS0 ?_
 ·(try dsimp only at hSw); go_simp
 refine wpAnyF_free (i:=2) (v:=.pointer (some ⟨B,7,none⟩)) rfl (by kernel_rfl) (by kernel_rfl) (by kernel_rfl) (by kernel_rfl) (fun _ _ _ h => h) (Or.inl ⟨by rfl,fun wl hSw => ?_⟩) hS0 ?_
 ·(try dsimp only at hSw); go_simp
 refine tkF (i:=3) (v:=.map (some Mb)) rfl (by kernel_rfl) (fun _ _ _ h => h) (by rfl) hS0 (fun wl hSw => ?_) ?_
 ·(try dsimp only at hSw); go_simp
 refine tkF (i:=4) (v:=.agg #[.int .i64 n,.int .i64 i,.int .i64 o]) rfl (by kernel_rfl) (fun _ _ _ h => h) (by rfl) hS0 (fun wl hSw => ?_) ?_
 ·(try dsimp only at hSw); go_simp
 refine tkF (i:=5) (v:=.tuple #[.agg #[.int .i64 c',.int .i64 a'],.bool true]) rfl (by kernel_rfl) (fun _ _ _ h => h) (by rfl) hS0 (fun wl hSw => ?_) ?_
 ·(try dsimp only at hSw); go_simp; rw [look_agg hSw.2.2.2.2 HF.out HO.out]; rfl
 refine wpAnyF_free (i:=6) (v:=.tuple #[.agg #[.int .i64 c',.int .i64 a'],.bool true]) rfl (by kernel_rfl) (by kernel_rfl) (by kernel_rfl) (by kernel_rfl) (fun _ _ _ h => h) (Or.inl ⟨by rfl,fun wl hSw => ?_⟩) hS0 ?_
 ·(try dsimp only at hSw); go_simp
 refine wpAnyF_free (i:=7) (v:=.agg #[.int .i64 c',.int .i64 a']) rfl (by kernel_rfl) (by kernel_rfl) (by kernel_rfl) (by kernel_rfl) (fun _ _ _ h => h) (Or.inl ⟨by rfl,fun wl hSw => ?_⟩) hS0 ?_
 ·(try dsimp only at hSw); go_simp
 refine wpAnyF_free (i:=8) (v:=.bool true) rfl (by kernel_rfl) (by kernel_rfl) (by kernel_rfl) (by kernel_rfl) (fun _ _ _ h => h) (Or.inl ⟨by rfl,fun wl hSw => ?_⟩) hS0 ?_
 ·(try dsimp only at hSw); go_simp
 have hbZ:=bel_up (bel_self Wd) (.cells #[.int .i64 0,.int .i64 0] 120)
 refine wpAnyF_one (i:=9) rfl (by kernel_rfl) (fun K hK => ?_)
 go_simp
 refine hK.out _ _ ⟨fun _ => ⟨bel_c hbZ hSd.c7,bel_c hbZ b0,bel_c hbZ b1,bel_c hbZ b2,hSd.met.block (hbZ.block Mb hSd.met.lt)⟩,?_⟩
 clear hK K
 refine wpAnyF_one (i:=10) rfl (by kernel_rfl) (fun K hK => ?_)
 go_simp
 refine hK.out _ _ ⟨fun h => absurd h (unl_no (by kernel_rfl)),?_⟩
 clear hK K
 refine wpAnyF_one (i:=11) rfl (by kernel_rfl) (fun K hK => ?_)
 go_simp
 refine hK.out _ _ ⟨fun h => absurd h (unl_no (by kernel_rfl)),?_⟩
 clear hK K
 refine wpAnyF_done (by kernel_rfl) ?_ _
 refine NoPanic.normal ?_
 have hbA:=bel_up (bel_self Wd) (.cells #[.int .i64 c',.int .i64 a'] 120)
 have e0 : (Wd.alloc (.cells #[.int .i64 c',.int .i64 a'] 120)).cell? ⟨w.heap.size + 1,0,none⟩ = some (.int .i64 x):=bel_c hbA d0
 have hSe:=hSd.below hbA
 clear hbZ hS0
 go_wp2
 first | go_end0 | refine bodyPost_ret (results_none rfl _ _ _) rfl ?_
 exact ⟨rfl,hSe,MStep.bel (bel_on hbd hbA)⟩
set_option maxHeartbeats 1000000 in
theorem meet_new (w0 : World) (N s0 B Mb Fb : Nat) (fin arcs iv ov v : Value) (fl : List Int) (ms : List MetD) (L : List PlD) (n i o : Nat) (x a c' a' : Int) (w : World) (h : SW w0 w N s0 B Mb Fb fin arcs iv ov v fl ms L) (hN : L.length <= 3000000000) (hf : foundV (lookM n i o ms) = stepV c' a') (ho : (lookM n i o ms).isSome = false) :
  Calls Try.prog 98 #[.pointer (some ⟨B,0,none⟩),spotV n i o,stepV x a] w fun e w' => e = .returned (.tuple #[]) /\ ∃ v' L',SW w0 w' N s0 B Mb Fb fin arcs iv ov v' fl (putM ⟨n,i,o,x,a⟩ ms) L' /\ L'.Perm (⟨n,i,o,x⟩ :: L) /\ MStep B Mb w v w' v':=by
 unfold spotV stepV
 have hb1:=bel_up (bel_up (bel_self w) (.cells #[.int .i64 (n : Int),.int .i64 (i : Int),.int .i64 (o : Int)] 96)) (.cells #[.int .i64 x,.int .i64 a] 120)
 obtain ⟨Wd,hWd⟩ : ∃ Wd,Wd = ((w.alloc (.cells #[.int .i64 (n : Int),.int .i64 (i : Int),.int .i64 (o : Int)] 96)).alloc (.cells #[.int .i64 x,.int .i64 a] 120)).drew:=⟨_,rfl⟩
 have hbd : Below w.heap.size w Wd:=by rw [hWd]; exact hb1.drew
 have hSd:=h.below hbd
 have b0 : Wd.cell? ⟨w.heap.size,0,none⟩ = some (.int .i64 n):=by rw [hWd]; exact drew_cell (old_cell (new_cell _ _ _ _ 0 _ rfl rfl))
 have b1 : Wd.cell? ⟨w.heap.size,1,none⟩ = some (.int .i64 i):=by rw [hWd]; exact drew_cell (old_cell (new_cell _ _ _ _ 1 _ rfl rfl))
 have b2 : Wd.cell? ⟨w.heap.size,2,none⟩ = some (.int .i64 o):=by rw [hWd]; exact drew_cell (old_cell (new_cell _ _ _ _ 2 _ rfl rfl))
 have d0 : Wd.cell? ⟨w.heap.size + 1,0,none⟩ = some (.int .i64 x):=by rw [hWd]; exact drew_cell (new_cell _ _ _ _ 0 _ (by simp) rfl)
 have d1 : Wd.cell? ⟨w.heap.size + 1,1,none⟩ = some (.int .i64 a):=by rw [hWd]; exact drew_cell (new_cell _ _ _ _ 1 _ (by simp) rfl)
 have hdl : w.heap.size + 1 < Wd.heap.size:=cell_lt d0
 have hS0 : (fun wx : World => wx.cell? ⟨B,7,none⟩ = some (.map (some Mb)) /\ wx.cell? ⟨w.heap.size,0,none⟩ = some (.int .i64 n) /\ wx.cell? ⟨w.heap.size,1,none⟩ = some (.int .i64 i) /\ wx.cell? ⟨w.heap.size,2,none⟩ = some (.int .i64 o) /\ MetAt wx Mb ms) Wd:=⟨hSd.c7,b0,b1,b2,hSd.met⟩
 have HF : Hid (foundV (lookM n i o ms) = stepV c' a'):=hf
 have HO : Hid ((lookM n i o ms).isSome = false):=ho
 have hBl:=cell_lt h.c0
 clear hf ho hb1
 go_enter Try.func98,Try.ntmps98
 go_wp2
 refine wp_region_noPanic ?_
 refine wp_region_F (fun wx => wx.cell? ⟨B,7,none⟩ = some (.map (some Mb)) /\ wx.cell? ⟨w.heap.size,0,none⟩ = some (.int .i64 n) /\ wx.cell? ⟨w.heap.size,1,none⟩ = some (.int .i64 i) /\ wx.cell? ⟨w.heap.size,2,none⟩ = some (.int .i64 o) /\ MetAt wx Mb ms) [10] (by kernel_rfl) (by rw [<- hWd]; exact hS0) (fun _ => ?_)
 rw [<- hWd]
 clear hWd
 refine wpAnyF_free (i:=0) (v:=.pointer (some ⟨B,0,none⟩)) rfl (by kernel_rfl) (by kernel_rfl) (by kernel_rfl) (by kernel_rfl) (fun _ _ _ h => h) (Or.inl ⟨by rfl,fun wl hSw => ?_⟩) hS0 ?_
 ·(try dsimp only at hSw); go_simp
 refine wpAnyF_free (i:=1) (v:=.pointer (some ⟨B,0,none⟩)) rfl (by kernel_rfl) (by kernel_rfl) (by kernel_rfl) (by kernel_rfl) (fun _ _ _ h => h) (Or.inl ⟨by rfl,fun wl hSw => ?_⟩) hS0 ?_
 ·(try dsimp only at hSw); go_simp
 refine wpAnyF_free (i:=2) (v:=.pointer (some ⟨B,7,none⟩)) rfl (by kernel_rfl) (by kernel_rfl) (by kernel_rfl) (by kernel_rfl) (fun _ _ _ h => h) (Or.inl ⟨by rfl,fun wl hSw => ?_⟩) hS0 ?_
 ·(try dsimp only at hSw); go_simp
 refine tkF (i:=3) (v:=.map (some Mb)) rfl (by kernel_rfl) (fun _ _ _ h => h) (by rfl) hS0 (fun wl hSw => ?_) ?_
 ·(try dsimp only at hSw); go_simp
 refine tkF (i:=4) (v:=.agg #[.int .i64 n,.int .i64 i,.int .i64 o]) rfl (by kernel_rfl) (fun _ _ _ h => h) (by rfl) hS0 (fun wl hSw => ?_) ?_
 ·(try dsimp only at hSw); go_simp
 refine tkF (i:=5) (v:=.tuple #[.agg #[.int .i64 c',.int .i64 a'],.bool false]) rfl (by kernel_rfl) (fun _ _ _ h => h) (by rfl) hS0 (fun wl hSw => ?_) ?_
 ·(try dsimp only at hSw); go_simp; rw [look_agg hSw.2.2.2.2 HF.out HO.out]; rfl
 refine wpAnyF_free (i:=6) (v:=.tuple #[.agg #[.int .i64 c',.int .i64 a'],.bool false]) rfl (by kernel_rfl) (by kernel_rfl) (by kernel_rfl) (by kernel_rfl) (fun _ _ _ h => h) (Or.inl ⟨by rfl,fun wl hSw => ?_⟩) hS0 ?_
 ·(try dsimp only at hSw); go_simp
 refine wpAnyF_free (i:=7) (v:=.agg #[.int .i64 c',.int .i64 a']) rfl (by kernel_rfl) (by kernel_rfl) (by kernel_rfl) (by kernel_rfl) (fun _ _ _ h => h) (Or.inl ⟨by rfl,fun wl hSw => ?_⟩) hS0 ?_
 ·(try dsimp only at hSw); go_simp
 refine wpAnyF_free (i:=8) (v:=.bool false) rfl (by kernel_rfl) (by kernel_rfl) (by kernel_rfl) (by kernel_rfl) (fun _ _ _ h => h) (Or.inl ⟨by rfl,fun wl hSw => ?_⟩) hS0 ?_
 ·(try dsimp only at hSw); go_simp
 have hbZ:=bel_up (bel_self Wd) (.cells #[.int .i64 0,.int .i64 0] 120)
 refine wpAnyF_one (i:=9) rfl (by kernel_rfl) (fun K hK => ?_)
 go_simp
 refine hK.out _ _ ⟨fun _ => ⟨bel_c hbZ hSd.c7,bel_c hbZ b0,bel_c hbZ b1,bel_c hbZ b2,hSd.met.block (hbZ.block Mb hSd.met.lt)⟩,?_⟩
 clear hK K
 refine wpAnyF_one (i:=10) rfl (by kernel_rfl) (fun K hK => ?_)
 go_simp
 refine hK.out _ _ ⟨fun h => absurd h (unl_no (by kernel_rfl)),?_⟩
 clear hK K
 refine wpAnyF_one (i:=11) rfl (by kernel_rfl) (fun K hK => ?_)
 go_simp
 refine hK.out _ _ ⟨fun h => absurd h (unl_no (by kernel_rfl)),?_⟩
 clear hK K
 refine wpAnyF_done (by kernel_rfl) ?_ _
 refine NoPanic.normal ?_
 have hbA:=bel_up (bel_self Wd) (.cells #[.int .i64 c',.int .i64 a'] 120)
 have e0 : (Wd.alloc (.cells #[.int .i64 c',.int .i64 a'] 120)).cell? ⟨w.heap.size + 1,0,none⟩ = some (.int .i64 x):=bel_c hbA d0
 have hSe:=hSd.below hbA
 clear hbZ hS0
 go_wp2
 obtain ⟨We,hWe⟩ : ∃ We,We = (Wd.alloc (.cells #[.int .i64 c',.int .i64 a'] 120)).drew:=⟨_,rfl⟩
 have hbE : Below Wd.heap.size Wd We:=by rw [hWe]; exact hbA.drew
 have hSf:=hSd.below hbE
 have hS3 : (fun wx : World => wx.cell? ⟨B,7,none⟩ = some (.map (some Mb)) /\ wx.cell? ⟨w.heap.size,0,none⟩ = some (.int .i64 n) /\ wx.cell? ⟨w.heap.size,1,none⟩ = some (.int .i64 i) /\ wx.cell? ⟨w.heap.size,2,none⟩ = some (.int .i64 o) /\ wx.cell? ⟨w.heap.size + 1,0,none⟩ = some (.int .i64 x) /\ wx.cell? ⟨w.heap.size + 1,1,none⟩ = some (.int .i64 a)) We:=⟨hSf.c7,bel_c hbE b0,bel_c hbE b1,bel_c hbE b2,bel_c hbE d0,bel_c hbE d1⟩
 obtain ⟨W4,hrun,hmet4,hgrow⟩:=put_ok hSf.met n i o x a
 unfold spotV stepV at hrun
 have HR : Hid ((Instr.mapUpdate 113 (.map (some Mb)) (.agg #[.int .i64 n,.int .i64 i,.int .i64 o]) (.agg #[.int .i64 x,.int .i64 a])).run Try.prog We = .ok () W4):=hrun
 have hS4:=hSf.put hgrow hmet4
 have hne : ∀ k u,w.heap.size <= k -> k <= w.heap.size + 1 -> ∀ j,We.cell? ⟨k,j,none⟩ = some u -> W4.cell? ⟨k,j,none⟩ = some u:=fun k u h1 h2 j hk => (hgrow.cell_far ⟨k,j,none⟩ (cell_lt hk) (fun e => by injection e with e; have e' : k = Mb:=e; have:=h.met.lt; omega)).trans hk
 clear hrun hSe e0
 refine wp_region_noPanic ?_
 refine wp_region_F (fun wx => wx.cell? ⟨B,7,none⟩ = some (.map (some Mb)) /\ wx.cell? ⟨w.heap.size,0,none⟩ = some (.int .i64 n) /\ wx.cell? ⟨w.heap.size,1,none⟩ = some (.int .i64 i) /\ wx.cell? ⟨w.heap.size,2,none⟩ = some (.int .i64 o) /\ wx.cell? ⟨w.heap.size + 1,0,none⟩ = some (.int .i64 x) /\ wx.cell? ⟨w.heap.size + 1,1,none⟩ = some (.int .i64 a)) [6] (by kernel_rfl) (by rw [<- hWe]; exact hS3) (fun _ => ?_)
 rw [<- hWe]
 clear hWe
 refine wpAnyF_free (i:=0) (v:=.pointer (some ⟨B,0,none⟩)) rfl (by kernel_rfl) (by kernel_rfl) (by kernel_rfl) (by kernel_rfl) (fun _ _ _ h => h) (Or.inl ⟨by rfl,fun wl hSw => ?_⟩) hS3 ?_
 ·(try dsimp only at hSw); go_simp
 refine wpAnyF_free (i:=1) (v:=.pointer (some ⟨B,0,none⟩)) rfl (by kernel_rfl) (by kernel_rfl) (by kernel_rfl) (by kernel_rfl) (fun _ _ _ h => h) (Or.inl ⟨by rfl,fun wl hSw => ?_⟩) hS3 ?_
 ·(try dsimp only at hSw); go_simp
 refine wpAnyF_free (i:=2) (v:=.pointer (some ⟨B,7,none⟩)) rfl (by kernel_rfl) (by kernel_rfl) (by kernel_rfl) (by kernel_rfl) (fun _ _ _ h => h) (Or.inl ⟨by rfl,fun wl hSw => ?_⟩) hS3 ?_
 ·(try dsimp only at hSw); go_simp
 refine tkF (i:=3) (v:=.map (some Mb)) rfl (by kernel_rfl) (fun _ _ _ h => h) (by rfl) hS3 (fun wl hSw => ?_) ?_
 ·(try dsimp only at hSw); go_simp
 refine tkF (i:=4) (v:=.agg #[.int .i64 n,.int .i64 i,.int .i64 o]) rfl (by kernel_rfl) (fun _ _ _ h => h) (by rfl) hS3 (fun wl hSw => ?_) ?_
 ·(try dsimp only at hSw); go_simp
 refine tkF (i:=5) (v:=.agg #[.int .i64 x,.int .i64 a]) rfl (by kernel_rfl) (fun _ _ _ h => h) (by rfl) hS3 (fun wl hSw => ?_) ?_
 ·(try dsimp only at hSw); go_simp
 refine wpAnyF_one (i:=6) rfl (by kernel_rfl) (fun K hK => ?_)
 have hrun:=HR.out
 go_simp
 refine hK.out _ _ ⟨fun h => absurd h (unl_no (by kernel_rfl)),?_⟩
 clear hK K hrun HR
 refine wpAnyF_done (by kernel_rfl) ?_ _
 refine NoPanic.normal ?_
 go_wp2
 obtain ⟨Wg,hWg⟩ : ∃ Wg,Wg = W4.drew:=⟨_,rfl⟩
 have hbG : Below W4.heap.size W4 Wg:=by rw [hWg]; exact (bel_self W4).drew
 have hSg:=hS4.below hbG
 have g0:=bel_c hbG (hne w.heap.size _ (by omega) (by omega) 0 (bel_c hbE b0))
 have g1:=bel_c hbG (hne w.heap.size _ (by omega) (by omega) 1 (bel_c hbE b1))
 have g2:=bel_c hbG (hne w.heap.size _ (by omega) (by omega) 2 (bel_c hbE b2))
 have g3:=bel_c hbG (hne (w.heap.size + 1) _ (by omega) (by omega) 0 (bel_c hbE d0))
 have hS5 : (fun wx : World => wx.cell? ⟨w.heap.size,0,none⟩ = some (.int .i64 n) /\ wx.cell? ⟨w.heap.size,1,none⟩ = some (.int .i64 i) /\ wx.cell? ⟨w.heap.size,2,none⟩ = some (.int .i64 o) /\ wx.cell? ⟨w.heap.size + 1,0,none⟩ = some (.int .i64 x)) Wg:=⟨g0,g1,g2,g3⟩
 clear hS3 b0 b1 b2 d0 d1
 refine wp_region_noPanic ?_
 refine wp_region_F (fun wx => wx.cell? ⟨w.heap.size,0,none⟩ = some (.int .i64 n) /\ wx.cell? ⟨w.heap.size,1,none⟩ = some (.int .i64 i) /\ wx.cell? ⟨w.heap.size,2,none⟩ = some (.int .i64 o) /\ wx.cell? ⟨w.heap.size + 1,0,none⟩ = some (.int .i64 x)) [] (by kernel_rfl) (by rw [<- hWg]; exact hS5) (fun _ => ?_)
 rw [<- hWg]
 clear hWg
 refine wpAnyF_free (i:=0) (v:=.pointer (some ⟨B,0,none⟩)) rfl (by kernel_rfl) (by kernel_rfl) (by kernel_rfl) (by kernel_rfl) (fun _ _ _ h => h) (Or.inl ⟨by rfl,fun wl hSw => ?_⟩) hS5 ?_
 ·(try dsimp only at hSw); go_simp
 refine wpAnyF_free (i:=1) (v:=.pointer (some ⟨B,0,none⟩)) rfl (by kernel_rfl) (by kernel_rfl) (by kernel_rfl) (by kernel_rfl) (fun _ _ _ h => h) (Or.inl ⟨by rfl,fun wl hSw => ?_⟩) hS5 ?_
 ·(try dsimp only at hSw); go_simp
 refine wpAnyF_free (i:=2) (v:=.pointer (some ⟨B,8,none⟩)) rfl (by kernel_rfl) (by kernel_rfl) (by kernel_rfl) (by kernel_rfl) (fun _ _ _ h => h) (Or.inl ⟨by rfl,fun wl hSw => ?_⟩) hS5 ?_
 ·(try dsimp only at hSw); go_simp
 refine wpAnyF_free (i:=3) (v:=.iface 125 (.pointer (some ⟨B,8,none⟩))) rfl (by kernel_rfl) (by kernel_rfl) (by kernel_rfl) (by kernel_rfl) (fun _ _ _ h => h) (Or.inl ⟨by rfl,fun wl hSw => ?_⟩) hS5 ?_
 ·(try dsimp only at hSw); go_simp
 refine tkF (i:=4) (v:=.agg #[.int .i64 n,.int .i64 i,.int .i64 o]) rfl (by kernel_rfl) (fun _ _ _ h => h) (by rfl) hS5 (fun wl hSw => ?_) ?_
 ·(try dsimp only at hSw); go_simp
 refine wpAnyF_free (i:=5) (v:=.pointer (some ⟨w.heap.size + 1,0,none⟩)) rfl (by kernel_rfl) (by kernel_rfl) (by kernel_rfl) (by kernel_rfl) (fun _ _ _ h => h) (Or.inl ⟨by rfl,fun wl hSw => ?_⟩) hS5 ?_
 ·(try dsimp only at hSw); go_simp
 refine tkF (i:=6) (v:=.int .i64 x) rfl (by kernel_rfl) (fun _ _ _ h => h) (by rfl) hS5 (fun wl hSw => ?_) ?_
 ·(try dsimp only at hSw); go_simp
 refine wpAnyF_free (i:=7) (v:=.agg #[.int .i64 n,.int .i64 i,.int .i64 o,.int .i64 x]) rfl (by kernel_rfl) (by kernel_rfl) (by kernel_rfl) (by kernel_rfl) (fun _ _ _ h => h) (Or.inl ⟨by rfl,fun wl hSw => ?_⟩) hS5 ?_
 ·(try dsimp only at hSw); go_simp
 refine wpAnyF_free (i:=8) (v:=.iface 123 (.agg #[.int .i64 n,.int .i64 i,.int .i64 o,.int .i64 x])) rfl (by kernel_rfl) (by kernel_rfl) (by kernel_rfl) (by kernel_rfl) (fun _ _ _ h => h) (Or.inl ⟨by rfl,fun wl hSw => ?_⟩) hS5 ?_
 ·(try dsimp only at hSw); go_simp
 refine wpAnyF_one (i:=9) rfl (by kernel_rfl) (fun K hK => ?_)
 go_simp
 refine (hpush_any B w0.heap.size v L ⟨n,i,o,x⟩ Wg hSg.q hN hSg.hp).mono ?_
 rintro e W5 ⟨rfl,v5,L5,r1,r2,r3,r4⟩
 have hk5 : ∀ k u,w.heap.size <= k -> ∀ j,Wg.cell? ⟨k,j,none⟩ = some u -> W5.cell? ⟨k,j,none⟩ = some u:=fun k u h1 j hk => (World.cell?_of_block (w:=Wg) (a:=⟨k,j,none⟩) (r4.block k (cell_lt hk) (by omega) (fun e => by have:=ownsRow_lt0 h.q.row _ e; omega))).trans hk
 refine hK.out _ _ ⟨fun _ => ⟨hk5 _ _ (by omega) 0 g0,hk5 _ _ (by omega) 1 g1,hk5 _ _ (by omega) 2 g2,hk5 _ _ (by omega) 0 g3⟩,?_⟩
 clear hK K
 refine wpAnyF_done (by kernel_rfl) ?_ _
 refine NoPanic.normal ?_
 go_wp2
 go_end0
 exact ⟨rfl,v5,L5,hSg.step r4 r3 r2,r1,(((MStep.bel (bel_on hbd hbE)).trans (MStep.map hgrow)).trans (MStep.bel hbG)).trans (MStep.que r4)⟩
set_option maxHeartbeats 1000000 in
theorem meet_less (w0 : World) (N s0 B Mb Fb : Nat) (fin arcs iv ov v : Value) (fl : List Int) (ms : List MetD) (L : List PlD) (n i o : Nat) (x a c' a' : Int) (w : World) (h : SW w0 w N s0 B Mb Fb fin arcs iv ov v fl ms L) (hN : L.length <= 3000000000) (hc : x < c') (hf : foundV (lookM n i o ms) = stepV c' a') (ho : (lookM n i o ms).isSome = true) :
  Calls Try.prog 98 #[.pointer (some ⟨B,0,none⟩),spotV n i o,stepV x a] w fun e w' => e = .returned (.tuple #[]) /\ ∃ v' L',SW w0 w' N s0 B Mb Fb fin arcs iv ov v' fl (putM ⟨n,i,o,x,a⟩ ms) L' /\ L'.Perm (⟨n,i,o,x⟩ :: L) /\ MStep B Mb w v w' v':=by
 unfold spotV stepV
 have hb1:=bel_up (bel_up (bel_self w) (.cells #[.int .i64 (n : Int),.int .i64 (i : Int),.int .i64 (o : Int)] 96)) (.cells #[.int .i64 x,.int .i64 a] 120)
 obtain ⟨Wd,hWd⟩ : ∃ Wd,Wd = ((w.alloc (.cells #[.int .i64 (n : Int),.int .i64 (i : Int),.int .i64 (o : Int)] 96)).alloc (.cells #[.int .i64 x,.int .i64 a] 120)).drew:=⟨_,rfl⟩
 have hbd : Below w.heap.size w Wd:=by rw [hWd]; exact hb1.drew
 have hSd:=h.below hbd
 have b0 : Wd.cell? ⟨w.heap.size,0,none⟩ = some (.int .i64 n):=by rw [hWd]; exact drew_cell (old_cell (new_cell _ _ _ _ 0 _ rfl rfl))
 have b1 : Wd.cell? ⟨w.heap.size,1,none⟩ = some (.int .i64 i):=by rw [hWd]; exact drew_cell (old_cell (new_cell _ _ _ _ 1 _ rfl rfl))
 have b2 : Wd.cell? ⟨w.heap.size,2,none⟩ = some (.int .i64 o):=by rw [hWd]; exact drew_cell (old_cell (new_cell _ _ _ _ 2 _ rfl rfl))
 have d0 : Wd.cell? ⟨w.heap.size + 1,0,none⟩ = some (.int .i64 x):=by rw [hWd]; exact drew_cell (new_cell _ _ _ _ 0 _ (by simp) rfl)
 have d1 : Wd.cell? ⟨w.heap.size + 1,1,none⟩ = some (.int .i64 a):=by rw [hWd]; exact drew_cell (new_cell _ _ _ _ 1 _ (by simp) rfl)
 have hdl : w.heap.size + 1 < Wd.heap.size:=cell_lt d0
 have hS0 : (fun wx : World => wx.cell? ⟨B,7,none⟩ = some (.map (some Mb)) /\ wx.cell? ⟨w.heap.size,0,none⟩ = some (.int .i64 n) /\ wx.cell? ⟨w.heap.size,1,none⟩ = some (.int .i64 i) /\ wx.cell? ⟨w.heap.size,2,none⟩ = some (.int .i64 o) /\ MetAt wx Mb ms) Wd:=⟨hSd.c7,b0,b1,b2,hSd.met⟩
 have HF : Hid (foundV (lookM n i o ms) = stepV c' a'):=hf
 have HO : Hid ((lookM n i o ms).isSome = true):=ho
 have hBl:=cell_lt h.c0
 clear hf ho hb1
 go_enter Try.func98,Try.ntmps98
 go_wp2
 refine wp_region_noPanic ?_
 refine wp_region_F (fun wx => wx.cell? ⟨B,7,none⟩ = some (.map (some Mb)) /\ wx.cell? ⟨w.heap.size,0,none⟩ = some (.int .i64 n) /\ wx.cell? ⟨w.heap.size,1,none⟩ = some (.int .i64 i) /\ wx.cell? ⟨w.heap.size,2,none⟩ = some (.int .i64 o) /\ MetAt wx Mb ms) [10] (by kernel_rfl) (by rw [<- hWd]; exact hS0) (fun _ => ?_)
 rw [<- hWd]
 clear hWd
 refine wpAnyF_free (i:=0) (v:=.pointer (some ⟨B,0,none⟩)) rfl (by kernel_rfl) (by kernel_rfl) (by kernel_rfl) (by kernel_rfl) (fun _ _ _ h => h) (Or.inl ⟨by rfl,fun wl hSw => ?_⟩) hS0 ?_
 ·(try dsimp only at hSw); go_simp
 refine wpAnyF_free (i:=1) (v:=.pointer (some ⟨B,0,none⟩)) rfl (by kernel_rfl) (by kernel_rfl) (by kernel_rfl) (by kernel_rfl) (fun _ _ _ h => h) (Or.inl ⟨by rfl,fun wl hSw => ?_⟩) hS0 ?_
 ·(try dsimp only at hSw); go_simp
 refine wpAnyF_free (i:=2) (v:=.pointer (some ⟨B,7,none⟩)) rfl (by kernel_rfl) (by kernel_rfl) (by kernel_rfl) (by kernel_rfl) (fun _ _ _ h => h) (Or.inl ⟨by rfl,fun wl hSw => ?_⟩) hS0 ?_
 ·(try dsimp only at hSw); go_simp
 refine tkF (i:=3) (v:=.map (some Mb)) rfl (by kernel_rfl) (fun _ _ _ h => h) (by rfl) hS0 (fun wl hSw => ?_) ?_
 ·(try dsimp only at hSw); go_simp
 refine tkF (i:=4) (v:=.agg #[.int .i64 n,.int .i64 i,.int .i64 o]) rfl (by kernel_rfl) (fun _ _ _ h => h) (by rfl) hS0 (fun wl hSw => ?_) ?_
 ·(try dsimp only at hSw); go_simp
 refine tkF (i:=5) (v:=.tuple #[.agg #[.int .i64 c',.int .i64 a'],.bool true]) rfl (by kernel_rfl) (fun _ _ _ h => h) (by rfl) hS0 (fun wl hSw => ?_) ?_
 ·(try dsimp only at hSw); go_simp; rw [look_agg hSw.2.2.2.2 HF.out HO.out]; rfl
 refine wpAnyF_free (i:=6) (v:=.tuple #[.agg #[.int .i64 c',.int .i64 a'],.bool true]) rfl (by kernel_rfl) (by kernel_rfl) (by kernel_rfl) (by kernel_rfl) (fun _ _ _ h => h) (Or.inl ⟨by rfl,fun wl hSw => ?_⟩) hS0 ?_
 ·(try dsimp only at hSw); go_simp
 refine wpAnyF_free (i:=7) (v:=.agg #[.int .i64 c',.int .i64 a']) rfl (by kernel_rfl) (by kernel_rfl) (by kernel_rfl) (by kernel_rfl) (fun _ _ _ h => h) (Or.inl ⟨by rfl,fun wl hSw => ?_⟩) hS0 ?_
 ·(try dsimp only at hSw); go_simp
 refine wpAnyF_free (i:=8) (v:=.bool true) rfl (by kernel_rfl) (by kernel_rfl) (by kernel_rfl) (by kernel_rfl) (fun _ _ _ h => h) (Or.inl ⟨by rfl,fun wl hSw => ?_⟩) hS0 ?_
 ·(try dsimp only at hSw); go_simp
 have hbZ:=bel_up (bel_self Wd) (.cells #[.int .i64 0,.int .i64 0] 120)
 refine wpAnyF_one (i:=9) rfl (by kernel_rfl) (fun K hK => ?_)
 go_simp
 refine hK.out _ _ ⟨fun _ => ⟨bel_c hbZ hSd.c7,bel_c hbZ b0,bel_c hbZ b1,bel_c hbZ b2,hSd.met.block (hbZ.block Mb hSd.met.lt)⟩,?_⟩
 clear hK K
 refine wpAnyF_one (i:=10) rfl (by kernel_rfl) (fun K hK => ?_)
 go_simp
 refine hK.out _ _ ⟨fun h => absurd h (unl_no (by kernel_rfl)),?_⟩
 clear hK K
 refine wpAnyF_one (i:=11) rfl (by kernel_rfl) (fun K hK => ?_)
 go_simp
 refine hK.out _ _ ⟨fun h => absurd h (unl_no (by kernel_rfl)),?_⟩
 clear hK K
 refine wpAnyF_done (by kernel_rfl) ?_ _
 refine NoPanic.normal ?_
 have hbA:=bel_up (bel_self Wd) (.cells #[.int .i64 c',.int .i64 a'] 120)
 have e0 : (Wd.alloc (.cells #[.int .i64 c',.int .i64 a'] 120)).cell? ⟨w.heap.size + 1,0,none⟩ = some (.int .i64 x):=bel_c hbA d0
 have hSe:=hSd.below hbA
 clear hbZ hS0
 go_wp2
 obtain ⟨We,hWe⟩ : ∃ We,We = (Wd.alloc (.cells #[.int .i64 c',.int .i64 a'] 120)).drew:=⟨_,rfl⟩
 have hbE : Below Wd.heap.size Wd We:=by rw [hWe]; exact hbA.drew
 have hSf:=hSd.below hbE
 have hS3 : (fun wx : World => wx.cell? ⟨B,7,none⟩ = some (.map (some Mb)) /\ wx.cell? ⟨w.heap.size,0,none⟩ = some (.int .i64 n) /\ wx.cell? ⟨w.heap.size,1,none⟩ = some (.int .i64 i) /\ wx.cell? ⟨w.heap.size,2,none⟩ = some (.int .i64 o) /\ wx.cell? ⟨w.heap.size + 1,0,none⟩ = some (.int .i64 x) /\ wx.cell? ⟨w.heap.size + 1,1,none⟩ = some (.int .i64 a)) We:=⟨hSf.c7,bel_c hbE b0,bel_c hbE b1,bel_c hbE b2,bel_c hbE d0,bel_c hbE d1⟩
 obtain ⟨W4,hrun,hmet4,hgrow⟩:=put_ok hSf.met n i o x a
 unfold spotV stepV at hrun
 have HR : Hid ((Instr.mapUpdate 113 (.map (some Mb)) (.agg #[.int .i64 n,.int .i64 i,.int .i64 o]) (.agg #[.int .i64 x,.int .i64 a])).run Try.prog We = .ok () W4):=hrun
 have hS4:=hSf.put hgrow hmet4
 have hne : ∀ k u,w.heap.size <= k -> k <= w.heap.size + 1 -> ∀ j,We.cell? ⟨k,j,none⟩ = some u -> W4.cell? ⟨k,j,none⟩ = some u:=fun k u h1 h2 j hk => (hgrow.cell_far ⟨k,j,none⟩ (cell_lt hk) (fun e => by injection e with e; have e' : k = Mb:=e; have:=h.met.lt; omega)).trans hk
 clear hrun hSe e0
 refine wp_region_noPanic ?_
 refine wp_region_F (fun wx => wx.cell? ⟨B,7,none⟩ = some (.map (some Mb)) /\ wx.cell? ⟨w.heap.size,0,none⟩ = some (.int .i64 n) /\ wx.cell? ⟨w.heap.size,1,none⟩ = some (.int .i64 i) /\ wx.cell? ⟨w.heap.size,2,none⟩ = some (.int .i64 o) /\ wx.cell? ⟨w.heap.size + 1,0,none⟩ = some (.int .i64 x) /\ wx.cell? ⟨w.heap.size + 1,1,none⟩ = some (.int .i64 a)) [6] (by kernel_rfl) (by rw [<- hWe]; exact hS3) (fun _ => ?_)
 rw [<- hWe]
 clear hWe
 refine wpAnyF_free (i:=0) (v:=.pointer (some ⟨B,0,none⟩)) rfl (by kernel_rfl) (by kernel_rfl) (by kernel_rfl) (by kernel_rfl) (fun _ _ _ h => h) (Or.inl ⟨by rfl,fun wl hSw => ?_⟩) hS3 ?_
 ·(try dsimp only at hSw); go_simp
 refine wpAnyF_free (i:=1) (v:=.pointer (some ⟨B,0,none⟩)) rfl (by kernel_rfl) (by kernel_rfl) (by kernel_rfl) (by kernel_rfl) (fun _ _ _ h => h) (Or.inl ⟨by rfl,fun wl hSw => ?_⟩) hS3 ?_
 ·(try dsimp only at hSw); go_simp
 refine wpAnyF_free (i:=2) (v:=.pointer (some ⟨B,7,none⟩)) rfl (by kernel_rfl) (by kernel_rfl) (by kernel_rfl) (by kernel_rfl) (fun _ _ _ h => h) (Or.inl ⟨by rfl,fun wl hSw => ?_⟩) hS3 ?_
 ·(try dsimp only at hSw); go_simp
 refine tkF (i:=3) (v:=.map (some Mb)) rfl (by kernel_rfl) (fun _ _ _ h => h) (by rfl) hS3 (fun wl hSw => ?_) ?_
 ·(try dsimp only at hSw); go_simp
 refine tkF (i:=4) (v:=.agg #[.int .i64 n,.int .i64 i,.int .i64 o]) rfl (by kernel_rfl) (fun _ _ _ h => h) (by rfl) hS3 (fun wl hSw => ?_) ?_
 ·(try dsimp only at hSw); go_simp
 refine tkF (i:=5) (v:=.agg #[.int .i64 x,.int .i64 a]) rfl (by kernel_rfl) (fun _ _ _ h => h) (by rfl) hS3 (fun wl hSw => ?_) ?_
 ·(try dsimp only at hSw); go_simp
 refine wpAnyF_one (i:=6) rfl (by kernel_rfl) (fun K hK => ?_)
 have hrun:=HR.out
 go_simp
 refine hK.out _ _ ⟨fun h => absurd h (unl_no (by kernel_rfl)),?_⟩
 clear hK K hrun HR
 refine wpAnyF_done (by kernel_rfl) ?_ _
 refine NoPanic.normal ?_
 go_wp2
 obtain ⟨Wg,hWg⟩ : ∃ Wg,Wg = W4.drew:=⟨_,rfl⟩
 have hbG : Below W4.heap.size W4 Wg:=by rw [hWg]; exact (bel_self W4).drew
 have hSg:=hS4.below hbG
 have g0:=bel_c hbG (hne w.heap.size _ (by omega) (by omega) 0 (bel_c hbE b0))
 have g1:=bel_c hbG (hne w.heap.size _ (by omega) (by omega) 1 (bel_c hbE b1))
 have g2:=bel_c hbG (hne w.heap.size _ (by omega) (by omega) 2 (bel_c hbE b2))
 have g3:=bel_c hbG (hne (w.heap.size + 1) _ (by omega) (by omega) 0 (bel_c hbE d0))
 have hS5 : (fun wx : World => wx.cell? ⟨w.heap.size,0,none⟩ = some (.int .i64 n) /\ wx.cell? ⟨w.heap.size,1,none⟩ = some (.int .i64 i) /\ wx.cell? ⟨w.heap.size,2,none⟩ = some (.int .i64 o) /\ wx.cell? ⟨w.heap.size + 1,0,none⟩ = some (.int .i64 x)) Wg:=⟨g0,g1,g2,g3⟩
 clear hS3 b0 b1 b2 d0 d1
 refine wp_region_noPanic ?_
 refine wp_region_F (fun wx => wx.cell? ⟨w.heap.size,0,none⟩ = some (.int .i64 n) /\ wx.cell? ⟨w.heap.size,1,none⟩ = some (.int .i64 i) /\ wx.cell? ⟨w.heap.size,2,none⟩ = some (.int .i64 o) /\ wx.cell? ⟨w.heap.size + 1,0,none⟩ = some (.int .i64 x)) [] (by kernel_rfl) (by rw [<- hWg]; exact hS5) (fun _ => ?_)
 rw [<- hWg]
 clear hWg
 refine wpAnyF_free (i:=0) (v:=.pointer (some ⟨B,0,none⟩)) rfl (by kernel_rfl) (by kernel_rfl) (by kernel_rfl) (by kernel_rfl) (fun _ _ _ h => h) (Or.inl ⟨by rfl,fun wl hSw => ?_⟩) hS5 ?_
 ·(try dsimp only at hSw); go_simp
 refine wpAnyF_free (i:=1) (v:=.pointer (some ⟨B,0,none⟩)) rfl (by kernel_rfl) (by kernel_rfl) (by kernel_rfl) (by kernel_rfl) (fun _ _ _ h => h) (Or.inl ⟨by rfl,fun wl hSw => ?_⟩) hS5 ?_
 ·(try dsimp only at hSw); go_simp
 refine wpAnyF_free (i:=2) (v:=.pointer (some ⟨B,8,none⟩)) rfl (by kernel_rfl) (by kernel_rfl) (by kernel_rfl) (by kernel_rfl) (fun _ _ _ h => h) (Or.inl ⟨by rfl,fun wl hSw => ?_⟩) hS5 ?_
 ·(try dsimp only at hSw); go_simp
 refine wpAnyF_free (i:=3) (v:=.iface 125 (.pointer (some ⟨B,8,none⟩))) rfl (by kernel_rfl) (by kernel_rfl) (by kernel_rfl) (by kernel_rfl) (fun _ _ _ h => h) (Or.inl ⟨by rfl,fun wl hSw => ?_⟩) hS5 ?_
 ·(try dsimp only at hSw); go_simp
 refine tkF (i:=4) (v:=.agg #[.int .i64 n,.int .i64 i,.int .i64 o]) rfl (by kernel_rfl) (fun _ _ _ h => h) (by rfl) hS5 (fun wl hSw => ?_) ?_
 ·(try dsimp only at hSw); go_simp
 refine wpAnyF_free (i:=5) (v:=.pointer (some ⟨w.heap.size + 1,0,none⟩)) rfl (by kernel_rfl) (by kernel_rfl) (by kernel_rfl) (by kernel_rfl) (fun _ _ _ h => h) (Or.inl ⟨by rfl,fun wl hSw => ?_⟩) hS5 ?_
 ·(try dsimp only at hSw); go_simp
 refine tkF (i:=6) (v:=.int .i64 x) rfl (by kernel_rfl) (fun _ _ _ h => h) (by rfl) hS5 (fun wl hSw => ?_) ?_
 ·(try dsimp only at hSw); go_simp
 refine wpAnyF_free (i:=7) (v:=.agg #[.int .i64 n,.int .i64 i,.int .i64 o,.int .i64 x]) rfl (by kernel_rfl) (by kernel_rfl) (by kernel_rfl) (by kernel_rfl) (fun _ _ _ h => h) (Or.inl ⟨by rfl,fun wl hSw => ?_⟩) hS5 ?_
 ·(try dsimp only at hSw); go_simp
 refine wpAnyF_free (i:=8) (v:=.iface 123 (.agg #[.int .i64 n,.int .i64 i,.int .i64 o,.int .i64 x])) rfl (by kernel_rfl) (by kernel_rfl) (by kernel_rfl) (by kernel_rfl) (fun _ _ _ h => h) (Or.inl ⟨by rfl,fun wl hSw => ?_⟩) hS5 ?_
 ·(try dsimp only at hSw); go_simp
 refine wpAnyF_one (i:=9) rfl (by kernel_rfl) (fun K hK => ?_)
 go_simp
 refine (hpush_any B w0.heap.size v L ⟨n,i,o,x⟩ Wg hSg.q hN hSg.hp).mono ?_
 rintro e W5 ⟨rfl,v5,L5,r1,r2,r3,r4⟩
 have hk5 : ∀ k u,w.heap.size <= k -> ∀ j,Wg.cell? ⟨k,j,none⟩ = some u -> W5.cell? ⟨k,j,none⟩ = some u:=fun k u h1 j hk => (World.cell?_of_block (w:=Wg) (a:=⟨k,j,none⟩) (r4.block k (cell_lt hk) (by omega) (fun e => by have:=ownsRow_lt0 h.q.row _ e; omega))).trans hk
 refine hK.out _ _ ⟨fun _ => ⟨hk5 _ _ (by omega) 0 g0,hk5 _ _ (by omega) 1 g1,hk5 _ _ (by omega) 2 g2,hk5 _ _ (by omega) 0 g3⟩,?_⟩
 clear hK K
 refine wpAnyF_done (by kernel_rfl) ?_ _
 refine NoPanic.normal ?_
 go_wp2
 go_end0
 exact ⟨rfl,v5,L5,hSg.step r4 r3 r2,r1,(((MStep.bel (bel_on hbd hbE)).trans (MStep.map hgrow)).trans (MStep.bel hbG)).trans (MStep.que r4)⟩
end Go.Proofs.Yteehgcbjmdideab
/- The program's search: what stays true of prices,and of the arcs that they came by,from one step to the next. -/
namespace Go.Proofs.Yteehgcbjmdideab
def muI (x : Int) : Nat:=if x < 0 then 1000000000000000 else x.toNat
def muL (c : List Int) : Nat:=(c.map muI).sum
def metL (c : List Int) : Nat:=(c.map fun x => if x < 0 then 0 else 1).sum
theorem sum_set (f : Int -> Nat) (c : List Int) (v : Nat) (x : Int) (hv : v < c.length) : ((c.set v x).map f).sum + f (gI c v) = (c.map f).sum + f x:=by
 induction c generalizing v with
 | nil => simp at hv
 | cons y c ih =>
  cases v with
  | zero => simp [gI,List.getD]; omega
  | succ v =>
   have:=ih v (by simpa using hv)
   have e : gI (y :: c) (v + 1) = gI c v:=by simp [gI,List.getD]
   rw [e]
   simp only [List.set_cons_succ,List.map_cons,List.sum_cons]
   omega
theorem metL_le (c : List Int) : metL c <= c.length:=by
 unfold metL
 induction c with
 | nil => simp
 | cons x c ih =>
  simp only [List.map_cons,List.sum_cons,List.length_cons]
  split <;> omega
def ByOk (E : List Edg) (b c y : List Int) (r : Nat -> Nat) : Prop :=
 ∀ v,v < c.length -> (gI y v = -1 /\ gI c v = gI b v) \/ ∃ (j : Nat) (e : Edg),gI y v = j /\ E[j]? = some e /\ e.v = v /\ 0 <= gI c e.u /\ 0 <= gI c v /\ gI c e.u + e.w <= gI c v /\ (gI c e.u + e.w = gI c v -> r e.u < r v)
structure Inv (E : List Edg) (b c y : List Int) : Prop where
 len : c.length = b.length
 ylen : y.length = b.length
 ach : Ach E b c
 le : LeC c b
 lo : ∀ v,-1 <= gI c v
 hi : ∀ v,gI c v <= 1000000000 * (1 + (metL c : Int))
 by_ : ∃ r R,(∀ x,r x <= R) /\ ByOk E b c y r
section
variable {E : List Edg} {b c y : List Int}
theorem Inv.topK (h : Inv E b c y) (hn : b.length <= 400000) (v : Nat) : gI c v <= 400001000000000:=by
 have h1:=h.hi v
 have h2:=metL_le c
 have h3:=h.len
 omega
theorem Inv.start (hb : ∀ v,gI b v = -1 \/ 0 <= gI b v) (hm : ∀ v,gI b v <= 1000000000) : Inv E b b (List.replicate b.length (-1)) where
 len:=rfl
 ylen:=by simp
 ach:=fun v => (hb v).imp id fun h => ⟨0,rfl,h⟩
 le:=LeC.refl _
 lo:=fun v => by rcases hb v with h | h <;> omega
 hi:=fun v => by have:=hm v; omega
 by_:=⟨fun _ => 0,0,fun _ => Nat.le_refl _,fun v hv => Or.inl ⟨by simp [gI,List.getD,hv],rfl⟩⟩
theorem better_iff {a d : Int} (ha : -1 <= a) (hd : -1 <= d) : betterB a d = true ↔ 0 <= a /\ (d = -1 \/ a < d):=by
 unfold betterB
 simp only [Bool.and_eq_true,bne_iff_ne,ne_eq,Bool.or_eq_true,beq_iff_eq,decide_eq_true_eq]
 omega
theorem plusC_lo (a w : Int) : -1 <= plusC a w:=by
 unfold plusC; split
 ·omega
 ·omega
theorem Inv.step {j : Nat} {e : Edg} (h : Inv E b c y) (hbn : b.length <= 400000) (hj : E[j]? = some e) (hv : e.v < b.length) (hw0 : 0 <= e.w) (hw1 : e.w <= 1000000000)
  (hbt : betterB (plusC (gI c e.u) e.w) (gI c e.v) = true) :
  Inv E b (c.set e.v (plusC (gI c e.u) e.w)) (y.set e.v (j : Int)) /\ muL (c.set e.v (plusC (gI c e.u) e.w)) < muL c:=by
 have hvc : e.v < c.length:=by have:=h.len; omega
 have hvy : e.v < y.length:=by have:=h.ylen; omega
 have he : e ∈ E:=List.mem_of_getElem? hj
 obtain ⟨hp0,hbet⟩:=(better_iff (plusC_lo _ _) (h.lo _)).1 hbt
 have hcu : 0 <= gI c e.u:=by
  unfold plusC at hp0
  split at hp0
  ·omega
  ·rename_i hh; omega
 have hp : plusC (gI c e.u) e.w = gI c e.u + e.w:=by unfold plusC; rw [if_neg (by omega)]
 have hrel : c.set e.v (plusC (gI c e.u) e.w) = relE c e:=by
  rw [<- progE_eq c e h.lo]
  unfold progE
  rw [if_pos hbt]
 have hne : e.u ≠ e.v:=by
  intro hh
  rw [hh] at hp hcu
  rw [hh,hp] at hbet
  omega
 have hset : ∀ x,gI (c.set e.v (plusC (gI c e.u) e.w)) x = if x = e.v then gI c e.u + e.w else gI c x:=fun x => by rw [gI_set _ _ _ _ hvc,hp]
 have hyset : ∀ x,gI (y.set e.v (j : Int)) x = if x = e.v then (j : Int) else gI y x:=fun x => gI_set _ _ _ _ hvy
 have hmet:=sum_set (fun x => if x < 0 then 0 else 1) c e.v (plusC (gI c e.u) e.w) hvc
 have hmu:=sum_set muI c e.v (plusC (gI c e.u) e.w) hvc
 change metL (c.set e.v (plusC (gI c e.u) e.w)) + _ = metL c + _ at hmet
 change muL (c.set e.v (plusC (gI c e.u) e.w)) + _ = muL c + _ at hmu
 rw [if_neg (by omega : ¬ plusC (gI c e.u) e.w < 0)] at hmet
 have htop:=h.hi e.u
 refine ⟨⟨by simpa using h.len,by simpa using h.ylen,?_,?_,?_,?_,?_⟩,?_⟩
 ·rw [hrel]; exact relE_ach he hvc h.ach
 ·rw [hrel]; exact (relE_le c e hvc).trans h.le
 ·intro x
  rw [hset]
  split
  ·omega
  ·exact h.lo x
 ·intro x
  rw [hset]
  have hx:=h.hi x
  by_cases hn : gI c e.v < 0
  ·rw [if_pos hn] at hmet
   split <;> omega
  ·rw [if_neg hn] at hmet
   have:=h.hi e.v
   split <;> omega
 ·obtain ⟨r,R,hR,hby⟩:=h.by_
  refine ⟨fun x => if x = e.v then R + 1 else r x,R + 1,fun x => ?_,fun v hv' => ?_⟩
  ·show (if x = e.v then R + 1 else r x) <= R + 1
   split
   ·exact Nat.le_refl _
   ·have:=hR x; omega
  ·rw [hset,hyset]
   by_cases hve : v = e.v
   ·subst hve
    right
    rw [if_pos rfl,if_pos rfl]
    refine ⟨j,e,rfl,hj,rfl,?_⟩
    rw [hset,if_neg hne]
    simp only [hne,if_true,if_false]
    have:=hR e.u
    refine ⟨hcu,by omega,by omega,fun _ => by omega⟩
   ·rw [if_neg hve,if_neg hve]
    rcases hby v (by simpa using hv') with hl | ⟨j',e',h1,h2,h3,h4,h5,h6,h7⟩
    ·exact Or.inl hl
    ·right
     refine ⟨j',e',h1,h2,h3,?_⟩
     rw [hset]
     by_cases hue : e'.u = e.v
     ·rw [if_pos hue]
      rw [hue] at h4 h6
      refine ⟨by omega,h5,by omega,fun hh => by omega⟩
     ·rw [if_neg hue]
      refine ⟨h4,h5,h6,fun hh => ?_⟩
      have:=h7 hh
      simp only [hue,if_false,hve]
      exact this
 ·have hmu1 : muI (plusC (gI c e.u) e.w) < muI (gI c e.v):=by
   unfold muI
   rw [if_neg (by omega)]
   by_cases hn : gI c e.v < 0
   ·rw [if_pos hn]
    have:=h.topK hbn e.u
    omega
   ·rw [if_neg hn]; omega
  omega
end
end Go.Proofs.Yteehgcbjmdideab
/- A search that takes the spot that costs least first: what stays true,and what it tells. -/
namespace Go.Proofs.Yteehgcbjmdideab
section
variable {E : List Edg} {b c y : List Int} {fin : Nat -> Int}
def IsBest (E : List Edg) (b : List Int) (fin : Nat -> Int) (x : Int) : Prop :=
 (x = -1 /\ ∀ v h z,WayN E b h v z -> ¬ 0 <= fin v) \/ (0 <= x /\ (∃ v h z,WayN E b h v z /\ 0 <= fin v /\ x = z + fin v) /\ ∀ v h z,WayN E b h v z -> 0 <= fin v -> x <= z + fin v)
theorem IsBest.unique {x z : Int} (hx : IsBest E b fin x) (hz : IsBest E b fin z) : x = z:=by
 rcases hx with ⟨rfl,h1⟩ | ⟨h0,⟨v,h,q,hw,hf,rfl⟩,h1⟩
 ·rcases hz with ⟨rfl,_⟩ | ⟨_,⟨v,h,q,hw,hf,rfl⟩,_⟩
  ·rfl
  ·exact absurd hf (h1 v h q hw)
 ·rcases hz with ⟨rfl,h2⟩ | ⟨_,⟨v',h',q',hw',hf',rfl⟩,h2⟩
  ·exact absurd hf (h2 v h q hw)
  ·have:=h1 v' h' q' hw' hf'
   have:=h2 v h q hw hf
   omega
def Rlx (c : List Int) (e : Edg) : Prop:=0 <= gI c e.v /\ gI c e.v <= gI c e.u + e.w
def DoneS (E : List Edg) (fin : Nat -> Int) (c : List Int) (best : Int) (u : Nat) : Prop :=
 (∀ e ∈ E,e.u = u -> Rlx c e) /\ (0 <= fin u -> 0 <= best /\ best <= gI c u + fin u)
variable {α : Type} {enc : α -> Nat} {key : α -> Int}
structure SI (E : List Edg) (b : List Int) (fin : Nat -> Int) (enc : α -> Nat) (key : α -> Int) (c y : List Int) (L : List α) (best : Int) (x0 : Nat) : Prop where
 inv : Inv E b c y
 heap : ∀ p ∈ L,0 <= gI c (enc p) /\ gI c (enc p) <= key p
 wait : ∀ u,u ≠ x0 -> 0 <= gI c u -> (∃ p ∈ L,enc p = u /\ key p = gI c u) \/ DoneS E fin c best u
 bst : best = -1 \/ (0 <= best /\ ∃ v h z,WayN E b h v z /\ 0 <= fin v /\ best = z + fin v)
theorem SI.perm {L L' : List α} {best : Int} {x0 : Nat} (h : SI E b fin enc key c y L best x0) (hp : L.Perm L') : SI E b fin enc key c y L' best x0 :=
 ⟨h.inv,fun p hm => h.heap p (hp.mem_iff.2 hm),fun u hu h0 => (h.wait u hu h0).imp (fun ⟨p,hm,he⟩ => ⟨p,hp.mem_iff.1 hm,he⟩) id,h.bst⟩
theorem SI.start {L : List α} {x0 : Nat} (hb : ∀ v,gI b v = -1 \/ 0 <= gI b v) (hm : ∀ v,gI b v <= 1000000000) (hL : ∀ p ∈ L,0 <= gI b (enc p) /\ gI b (enc p) <= key p) (hw : ∀ u,0 <= gI b u -> ∃ p ∈ L,enc p = u /\ key p = gI b u) :
  SI E b fin enc key b (List.replicate b.length (-1)) L (-1) x0 :=
 ⟨Inv.start hb hm,hL,fun u _ h0 => Or.inl (hw u h0),Or.inl rfl⟩
theorem out_gI (c : List Int) (x : Nat) (h : c.length <= x) : gI c x = -1:=by
 unfold gI
 simp [List.getD,List.getElem?_eq_none h]
theorem SI.stale {L : List α} {p : α} {best : Int} {x0 : Nat} (h : SI E b fin enc key c y (p :: L) best x0) (hs : gI c (enc p) < key p) : SI E b fin enc key c y L best x0 :=
 ⟨h.inv,fun q hq => h.heap q (List.mem_cons_of_mem _ hq),fun u hu h0 => by
  rcases h.wait u hu h0 with ⟨q,hq,e1,e2⟩ | hd
  ·rcases List.mem_cons.1 hq with rfl | hq
   ·rw [e1] at hs; omega
   ·exact Or.inl ⟨q,hq,e1,e2⟩
  ·exact Or.inr hd,h.bst⟩
theorem SI.take {L : List α} {p : α} {best : Int} {x0 : Nat} (h : SI E b fin enc key c y (p :: L) best x0) (hx : c.length <= x0) : SI E b fin enc key c y L best (enc p) :=
 ⟨h.inv,fun q hq => h.heap q (List.mem_cons_of_mem _ hq),fun u hu h0 => by
  have hux : u ≠ x0:=fun e => by rw [e,out_gI c x0 hx] at h0; omega
  rcases h.wait u hux h0 with ⟨q,hq,e1,e2⟩ | hd
  ·rcases List.mem_cons.1 hq with rfl | hq
   ·exact absurd e1.symm hu
   ·exact Or.inl ⟨q,hq,e1,e2⟩
  ·exact Or.inr hd,h.bst⟩
theorem DoneS.better {best best' : Int} {u : Nat} (h : DoneS E fin c best u) (h0 : 0 <= best') (hb : best = -1 \/ best' <= best) : DoneS E fin c best' u :=
 ⟨h.1,fun hf => by obtain ⟨h1,h2⟩:=h.2 hf; exact ⟨h0,by omega⟩⟩
theorem SI.ends {L : List α} {best x : Int} {u0 : Nat} (h : SI E b fin enc key c y L best u0) (hx : gI c u0 = x) (hx0 : 0 <= x) (hf : 0 <= fin u0) (hb : best = -1 \/ x + fin u0 < best) : SI E b fin enc key c y L (x + fin u0) u0 :=
 ⟨h.inv,h.heap,fun u hu h0 => (h.wait u hu h0).imp id fun hd => hd.better (by omega) (by omega),Or.inr ⟨by omega,by
  rcases h.inv.ach u0 with hn | ⟨k,hk⟩
  ·omega
  ·exact ⟨u0,k,_,hk,hf,by rw [hx]⟩⟩⟩
theorem Rlx.mono {c' : List Int} {e : Edg} (h : Rlx c e) (hl : LeC c' c) (hu : gI c' e.u = gI c e.u) : Rlx c' e:=by
 obtain ⟨h1,h2⟩:=h
 obtain ⟨h3,h4⟩:=hl e.v h1
 exact ⟨h3,by omega⟩
theorem SI.meet {L : List α} {q : α} {best x : Int} {j : Nat} {e : Edg} (h : SI E b fin enc key c y L best e.u) (hbn : b.length <= 400000) (hj : E[j]? = some e) (hv : e.v < b.length) (hw0 : 0 <= e.w) (hw1 : e.w <= 1000000000) (hx : gI c e.u = x) (hx0 : 0 <= x)
  (hbt : gI c e.v = -1 \/ x + e.w < gI c e.v) (hq : enc q = e.v) (hk : key q = x + e.w) :
  SI E b fin enc key (c.set e.v (x + e.w)) (y.set e.v (j : Int)) (q :: L) best e.u /\ muL (c.set e.v (x + e.w)) < muL c /\ gI (c.set e.v (x + e.w)) e.u = x /\ LeC (c.set e.v (x + e.w)) c /\ Rlx (c.set e.v (x + e.w)) e:=by
 have hp : plusC (gI c e.u) e.w = x + e.w:=by unfold plusC; rw [hx,if_neg (by omega)]
 have hbb : betterB (plusC (gI c e.u) e.w) (gI c e.v) = true:=(better_iff (plusC_lo _ _) (h.inv.lo _)).2 ⟨by omega,by omega⟩
 have hst:=h.inv.step hbn hj hv hw0 hw1 hbb
 rw [hp] at hst
 have hvc : e.v < c.length:=by have:=h.inv.len; omega
 have hset:=fun k => gI_set c e.v k (x + e.w) hvc
 have hne : e.u ≠ e.v:=fun hh => by rw [hh] at hx; rcases hbt with h1 | h1 <;> omega
 have hle : LeC (c.set e.v (x + e.w)) c:=by
  intro k hk0
  rw [hset]
  split
  ·rename_i hkv; rw [hkv] at hk0 ⊢; rcases hbt with h1 | h1 <;> omega
  ·exact ⟨hk0,Int.le_refl _⟩
 refine ⟨⟨hst.1,?_,?_,h.bst⟩,hst.2,by rw [hset,if_neg hne]; exact hx,hle,?_⟩
 ·intro p hp'
  rcases List.mem_cons.1 hp' with rfl | hp'
  ·rw [hset,hq,if_pos rfl]; omega
  ·obtain ⟨h1,h2⟩:=h.heap p hp'
   obtain ⟨h3,h4⟩:=hle _ h1
   exact ⟨h3,by omega⟩
 ·intro u hu h0
  by_cases huv : u = e.v
  ·subst huv
   rw [hset,if_pos rfl]
   exact Or.inl ⟨q,List.mem_cons_self,hq,hk⟩
  ·have hgu : gI (c.set e.v (x + e.w)) u = gI c u:=by rw [hset,if_neg huv]
   rw [hgu] at h0 ⊢
   rcases h.wait u hu h0 with ⟨p,hp',e1,e2⟩ | hd
   ·exact Or.inl ⟨p,List.mem_cons_of_mem _ hp',e1,e2⟩
   ·refine Or.inr ⟨fun e' he' hue => (hd.1 e' he' hue).mono hle (by rw [hue]; exact hgu),fun hf => by rw [hgu]; exact hd.2 hf⟩
 ·unfold Rlx
  rw [hset,hset,if_pos rfl,if_neg hne,hx]
  omega
theorem rlx_no {e : Edg} {x : Int} (hx : gI c e.u = x) (hlo : -1 <= gI c e.v) (hbt : ¬ (gI c e.v = -1 \/ x + e.w < gI c e.v)) : Rlx c e:=by
 unfold Rlx
 rw [hx]
 omega
theorem SI.done {L : List α} {best : Int} {u0 x1 : Nat} (h : SI E b fin enc key c y L best u0) (hr : ∀ e ∈ E,e.u = u0 -> Rlx c e) (hf : 0 <= fin u0 -> 0 <= best /\ best <= gI c u0 + fin u0) : SI E b fin enc key c y L best x1 :=
 ⟨h.inv,h.heap,fun u _ h0 => by
  by_cases e : u = u0
  ·subst e; exact Or.inr ⟨hr,hf⟩
  ·exact h.wait u e h0,h.bst⟩
theorem SI.cover {L : List α} {best : Int} {x0 : Nat} (h : SI E b fin enc key c y L best x0) (hx : c.length <= x0) (hw : ∀ e ∈ E,0 <= e.w) (k v : Nat) (x : Int) (H : WayN E b k v x) :
  (∃ p ∈ L,key p <= x) \/ (0 <= gI c v /\ gI c v <= x /\ DoneS E fin c best v):=by
 have hne : ∀ u,0 <= gI c u -> u ≠ x0:=fun u h0 e => by rw [e,out_gI c x0 hx] at h0; omega
 induction k generalizing v x with
 | zero =>
  obtain ⟨rfl,h0⟩:=H
  obtain ⟨h1,h2⟩:=h.inv.le v h0
  rcases h.wait v (hne v h1) h1 with ⟨p,hp,_,e2⟩ | hd
  ·exact Or.inl ⟨p,hp,by omega⟩
  ·exact Or.inr ⟨h1,h2,hd⟩
 | succ k ih =>
  obtain ⟨e,he,rfl,z,hz,rfl⟩:=H
  have hew:=hw e he
  rcases ih e.u z hz with ⟨p,hp,hle⟩ | ⟨h1,h2,hd⟩
  ·exact Or.inl ⟨p,hp,by omega⟩
  ·obtain ⟨h3,h4⟩:=hd.1 e he rfl
   rcases h.wait e.v (hne e.v h3) h3 with ⟨p,hp,_,e2⟩ | hd'
   ·exact Or.inl ⟨p,hp,by omega⟩
   ·exact Or.inr ⟨h3,by omega,hd'⟩
theorem SI.best {L : List α} {best : Int} {x0 : Nat} (h : SI E b fin enc key c y L best x0) (hx : c.length <= x0) (hw : ∀ e ∈ E,0 <= e.w) (hL : ∀ p ∈ L,0 <= best /\ best <= key p) : IsBest E b fin best:=by
 have all : ∀ v k z,WayN E b k v z -> 0 <= fin v -> 0 <= best /\ best <= z + fin v:=by
  intro v k z hz hf
  rcases h.cover hx hw k v z hz with ⟨p,hp,hle⟩ | ⟨_,h2,hd⟩
  ·have:=hL p hp
   omega
  ·have:=hd.2 hf
   omega
 rcases h.bst with hb | ⟨h0,hb⟩
 ·exact Or.inl ⟨hb,fun v k z hz hf => by have:=(all v k z hz hf).1; omega⟩
 ·exact Or.inr ⟨h0,hb,fun v k z hz hf => (all v k z hz hf).2⟩
structure SD (enc : α -> Nat) (key : α -> Int) (c : List Int) (L : List α) (D : List Nat) (lo : Int) : Prop where
 low : ∀ p ∈ L,lo <= key p
 past : ∀ u ∈ D,0 <= gI c u /\ gI c u <= lo /\ ∀ p ∈ L,enc p = u -> gI c u < key p
 nd : D.Nodup
 lt : ∀ u ∈ D,u < c.length
 twice : (L.map fun p => (enc p,key p)).Nodup
theorem SD.perm {L L' : List α} {D : List Nat} {lo : Int} (h : SD enc key c L D lo) (hp : L.Perm L') : SD enc key c L' D lo :=
 ⟨fun p hm => h.low p (hp.mem_iff.2 hm),fun u hu => ⟨(h.past u hu).1,(h.past u hu).2.1,fun p hm => (h.past u hu).2.2 p (hp.mem_iff.2 hm)⟩,h.nd,h.lt,(hp.map _).nodup_iff.1 h.twice⟩
theorem SD.start (p : α) (hk : 0 <= key p) : SD enc key c [p] [] 0 :=
 ⟨fun q hq => (by rw [List.mem_singleton.1 hq]; exact hk),fun u hu => (by cases hu),List.nodup_nil,fun u hu => (by cases hu),(by simp)⟩
theorem SD.stale {L : List α} {p : α} {D : List Nat} {lo : Int} (h : SD enc key c (p :: L) D lo) (hmin : ∀ q ∈ L,key p <= key q) : SD enc key c L D (key p) :=
 ⟨hmin,fun u hu => ⟨(h.past u hu).1,Int.le_trans (h.past u hu).2.1 (h.low p List.mem_cons_self),fun q hq => (h.past u hu).2.2 q (List.mem_cons_of_mem _ hq)⟩,h.nd,h.lt,(List.nodup_cons.1 h.twice).2⟩
theorem SD.take {L : List α} {p : α} {D : List Nat} {lo : Int} (h : SD enc key c (p :: L) D lo) (hmin : ∀ q ∈ L,key p <= key q) (hx : key p = gI c (enc p)) (hx0 : 0 <= key p) (hl : enc p < c.length) (hle : ∀ q ∈ L,gI c (enc q) <= key q) : SD enc key c L (enc p :: D) (key p):=by
 obtain ⟨h1,h2⟩:=List.nodup_cons.1 h.twice
 refine ⟨hmin,fun u hu => ?_,?_,fun u hu => ?_,h2⟩
 ·rcases List.mem_cons.1 hu with rfl | hu
  ·refine ⟨by omega,by omega,fun q hq he => ?_⟩
   have h3:=hle q hq
   have h4 : key q ≠ key p:=fun e => h1 (List.mem_map.2 ⟨q,hq,by rw [he,e]⟩)
   rw [he] at h3
   omega
  ·exact (h.stale hmin).past u hu
 ·refine List.nodup_cons.2 ⟨fun hm => ?_,h.nd⟩
  have:=(h.past _ hm).2.2 p List.mem_cons_self rfl
  omega
 ·rcases List.mem_cons.1 hu with rfl | hu
  ·exact hl
  ·exact h.lt u hu
theorem SD.meet {L : List α} {q : α} {D : List Nat} {lo : Int} {v : Nat} {w : Int} (h : SD enc key c L D lo) (hv : v < c.length) (hw : 0 <= w) (hbt : gI c v = -1 \/ lo + w < gI c v) (hq : enc q = v) (hk : key q = lo + w)
  (hle : ∀ p ∈ L,0 <= gI c (enc p) /\ gI c (enc p) <= key p) : SD enc key (c.set v (lo + w)) (q :: L) D lo:=by
 have hset:=fun k => gI_set c v k (lo + w) hv
 have hvD : v ∉ D:=fun hm => by have:=h.past v hm; omega
 refine ⟨fun p hp => ?_,fun u hu => ?_,h.nd,fun u hu => by simpa using h.lt u hu,?_⟩
 ·rcases List.mem_cons.1 hp with rfl | hp
  ·omega
  ·exact h.low p hp
 ·have huv : u ≠ v:=fun e => hvD (e ▸ hu)
  rw [hset,if_neg huv]
  refine ⟨(h.past u hu).1,(h.past u hu).2.1,fun p hp he => ?_⟩
  rcases List.mem_cons.1 hp with rfl | hp
  ·exact absurd (he.symm.trans hq) huv
  ·exact (h.past u hu).2.2 p hp he
 ·rw [List.map_cons]
  refine List.nodup_cons.2 ⟨fun hm => ?_,h.twice⟩
  obtain ⟨p,hp,he⟩:=List.mem_map.1 hm
  injection he with e1 e2
  have:=hle p hp
  rw [e1,hq] at this
  omega
end
end Go.Proofs.Yteehgcbjmdideab
