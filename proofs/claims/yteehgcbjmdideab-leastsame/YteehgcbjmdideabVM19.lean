/- 'moved' of package oneway: the walk. (Made by wip/gen/owj.py.) -/
import Derived.Test.YteehgcbjmdideabVM18
set_option maxRecDepth 100000
namespace Go.Proofs.Yteehgcbjmdideab
open Go.RowKit
attribute [local go_sem ↓] Go.wp_at_zero Go.wp_at_succ
def ArcsB (B : Nat) (w : World) (ba : Option Addr) (m : Nat) (ars : List ArcD) : Prop:=(m = 0 /\ ars = []) \/ ∃ ga,ba = some ⟨ga,0,none⟩ /\ B <= ga /\ ArcsAt w ga 0 m ars /\ m <= maxLen
def MovRes (w : World) (d : FstD) (e : Ending) (w' : World) : Prop:=∃ g1 n c1 ba m bc,e = .returned (.agg #[.int .i64 d.states,.int .i64 d.start,.slice (some ⟨g1,0,none⟩) n c1,.slice ba m bc]) /\ NumsAt w' g1 n d.final /\ w.heap.size <= g1 /\ n <= maxLen /\ ArcsB w.heap.size w' ba m d.arcs /\ Below w.heap.size w w'
section
variable {B m : Nat} {w w' : World} {ba : Option Addr} {ars : List ArcD}
theorem ArcsB.slice (h : ArcsB B w ba m ars) (bc : Nat) : ASlice w (.slice ba m bc) ars:=by
 rcases h with ⟨rfl,rfl⟩ | ⟨ga,rfl,_,h1,h2⟩
 ·exact Or.inl ⟨_,_,rfl,rfl⟩
 ·exact Or.inr ⟨ga,0,m,bc,rfl,h1,h2⟩
theorem ArcsB.below (h : ArcsB B w ba m ars) (hb : Below w.heap.size w w') : ArcsB B w' ba m ars:=by
 rcases h with h | ⟨ga,rfl,h0,h1,h2⟩
 ·exact Or.inl h
 ·exact Or.inr ⟨ga,rfl,h0,h1.below hb,h2⟩
theorem ArcsB.len (h : ArcsB B w ba m ars) : ars.length = m:=by
 rcases h with ⟨rfl,rfl⟩ | ⟨ga,rfl,_,h1,_⟩
 ·rfl
 ·exact h1.len
theorem ArcsB.set (h : ArcsB B w ba m ars) {g i : Nat} {v : Value} (hg : g < B) : ArcsB B (w.setCell ⟨g,i,none⟩ v) ba m ars:=by
 rcases h with h | ⟨ga,rfl,h0,h1,h2⟩
 ·exact Or.inl h
 ·have hne : ga ≠ g:=by omega
  exact Or.inr ⟨ga,rfl,h0,⟨h1.len,fun i hi => (set_far hne).trans (h1.c0 i hi),fun i hi => (set_far hne).trans (h1.c1 i hi),fun i hi => (set_far hne).trans (h1.c2 i hi),fun i hi => (set_far hne).trans (h1.c3 i hi),fun i hi => (set_far hne).trans (h1.c4 i hi)⟩,h2⟩
end
section
variable {w wr : World} {N : Nat} {sta : Int} {fin arcs : Value} {Q g1 c1 : Nat} {ba : Option Addr} {m bc ga : Nat} {xs : List Int} {A A' : Nat -> ArcD}
theorem MV.congA (h : MV w wr N sta fin arcs Q g1 c1 ba m bc xs A) (hA : ∀ j,A j = A' j) : MV w wr N sta fin arcs Q g1 c1 ba m bc xs A':=by
 rw [<- funext hA]
 exact h
end
theorem arcK_step (ah : List Int) (B : Nat -> ArcD) (i : Nat) (j : Nat) : (if j = i then (⟨(if i < i then movA ah (B i) else B i).src,(if i < i then movA ah (B i) else B i).inp,(if i < i then movA ah (B i) else B i).out,(if i < i then movA ah (B i) else B i).dst,(B i).wt + (gI ah (B i).dst.toNat - gI ah (B i).src.toNat)⟩ : ArcD) else if j < i then movA ah (B j) else B j) = if j < i + 1 then movA ah (B j) else B j:=by
 by_cases h : j = i
 ·subst h
  rw [if_pos rfl,if_pos (Nat.lt_succ_self j),if_neg (Nat.lt_irrefl j)]
  rfl
 ·rw [if_neg h]
  by_cases h2 : j < i
  ·rw [if_pos h2,if_pos (by omega)]
  ·rw [if_neg h2,if_neg (by omega)]
theorem mov_done {w wr : World} {f : FstD} {ah : List Int} {N : Nat} {fin arcs : Value} {Q g1 c1 : Nat} {ba : Option Addr} {m bc : Nat} (h : MV w wr N f.start fin arcs Q g1 c1 ba m bc (movD f ah).final (fun j => if j < m then movA ah (f.arcs.getD j a0) else f.arcs.getD j a0)) (hS : f.states = (N : Int)) (hal : f.arcs.length = m) (hN2 : N <= 300) (hm3 : m <= 3000) :
  MovRes w (movD f ah) (.returned (.agg #[.int .i64 (N : Int),.int .i64 f.start,.slice (some ⟨g1,0,none⟩) N c1,.slice ba m bc])) ((((wr.setCell ⟨w.heap.size + 1,0,none⟩ (.int .i64 (N : Int))).setCell ⟨w.heap.size + 1,1,none⟩ (.int .i64 f.start)).setCell ⟨w.heap.size + 1,2,none⟩ (.slice (some ⟨g1,0,none⟩) N c1)).setCell ⟨w.heap.size + 1,3,none⟩ (.slice ba m bc)):=by
 have h1:=h.h1
 have hgne : g1 ≠ w.heap.size + 1:=by omega
 refine ⟨_,_,_,_,_,_,by rw [show (movD f ah).states = (N : Int) from hS]; rfl,(((h.nums.other hgne).other hgne).other hgne).other hgne,by omega,by unfold maxLen; omega,?_,bel_set4 h.rw.bel (by omega) _ _ _ _⟩
 have hl : (movD f ah).arcs.length = m:=by show (f.arcs.map (movA ah)).length = m; rw [List.length_map,hal]
 by_cases h0 : m = 0
 ·subst h0
  exact Or.inl ⟨rfl,List.eq_nil_of_length_eq_zero hl⟩
 ·obtain ⟨ga,rfl,hv,hg,_,_⟩:=h.arr (by omega)
  have hne : ga ≠ w.heap.size + 1:=by omega
  refine Or.inr ⟨ga,rfl,by omega,rowA_of ((((hv.other hne).other hne).other hne).other hne) hl (fun i hi => ?_),by unfold maxLen; omega⟩
  show (if i < m then movA ah (f.arcs.getD i a0) else f.arcs.getD i a0) = (f.arcs.map (movA ah)).getD i a0
  rw [if_pos hi]
  simp [List.getD,hal,hi]
set_option maxHeartbeats 3200000 in
theorem moved_any (f : FstD) (N : Nat) (ah : List Int) (fin arcs hv : Value) (w : World) (hN : f.states = (N : Int)) (hN1 : 1 <= N) (hN2 : N <= 300) (hfl : f.final.length = N) (hhl : ah.length = N) (hmany : f.arcs.length <= 3000) (har : ∀ a ∈ f.arcs,∃ s t : Nat,a.src = (s : Int) /\ a.dst = (t : Int) /\ s < N /\ t < N)
  (hbF : ∀ s,-10000000000000 <= gI f.final s /\ gI f.final s <= 10000000000000) (hbW : ∀ a ∈ f.arcs,-10000000000000 <= a.wt /\ a.wt <= 10000000000000) (hbA : ∀ s,-10000000000000 <= gI ah s /\ gI ah s <= 10000000000000) (hf : ISlice w fin f.final) (ha : ASlice w arcs f.arcs) (hh : ISlice w hv ah) :
  Calls Try.prog 67 #[.agg #[.int .i64 (N : Int),.int .i64 f.start,fin,arcs],hv] w fun e w' => MovRes w (movD f ah) e w':=by
 obtain ⟨fa,fn,fc,rfl,hfl',_⟩:=hf.lenOf
 obtain ⟨aa,m,ac,rfl,hal,_⟩:=ha.lenOf
 obtain ⟨hva,hn,hc,rfl,hhl',_⟩:=hh.lenOf
 obtain rfl : N = fn:=by omega
 obtain rfl : N = hn:=by omega
 obtain ⟨fb,fo,rfl,hxf⟩:=hf.some (by omega)
 obtain ⟨hb,ho,rfl,hxh⟩:=hh.some (by omega)
 have hm3 : m <= 3000:=by omega
 have HL : Hid (f.final.length = N /\ f.arcs.length = m /\ ah.length = N):=⟨hfl,hal,hhl⟩
 have HAR : Hid (∀ a ∈ f.arcs,∃ s t : Nat,a.src = (s : Int) /\ a.dst = (t : Int) /\ s < N /\ t < N):=har
 have HBD : Hid ((∀ s,-10000000000000 <= gI f.final s /\ gI f.final s <= 10000000000000) /\ (∀ a ∈ f.arcs,-10000000000000 <= a.wt /\ a.wt <= 10000000000000) /\ ∀ s,-10000000000000 <= gI ah s /\ gI ah s <= 10000000000000):=⟨hbF,hbW,hbA⟩
 have HST : Hid (f.states = (N : Int)):=hN
 obtain ⟨A1,hA1⟩ : ∃ W,W = w.alloc (.cells #[.int .i64 (N : Int),.int .i64 f.start,.slice (some ⟨fb,fo,none⟩) N fc,.slice aa m ac] 25):=⟨_,rfl⟩
 have hRA : RW w A1 N f.start (.slice (some ⟨fb,fo,none⟩) N fc) (.slice aa m ac):=by rw [hA1]; exact ⟨cellsF_new _ _ _ _ _ _,bel_up (bel_self w) _⟩
 have s1 : A1.heap.size = w.heap.size + 1:=by rw [hA1]; exact one_size _ _
 obtain ⟨A2,hA2⟩ : ∃ W,W = A1.alloc (.cells #[.int .i64 0,.int .i64 0,.slice none 0 0,.slice none 0 0] 25):=⟨_,rfl⟩
 have hz2 : ZBlock A2 (w.heap.size + 1):=by unfold ZBlock; rw [hA2,<- s1]; exact heap_alloc_new A1 _
 obtain ⟨Wd,hWd⟩ : ∃ W,W = A2.drew:=⟨_,rfl⟩
 have hb2d : Below A2.heap.size A2 Wd:=by rw [hWd]; exact (bel_self A2).drew
 have hRd : RW w Wd N f.start (.slice (some ⟨fb,fo,none⟩) N fc) (.slice aa m ac):=(hRA.below (by rw [hA2]; exact bel_up (bel_self _) _)).below hb2d
 have hzd : ZBlock Wd (w.heap.size + 1):=heap_bel hb2d hz2
 have HRW : Hid (∀ wx : World,Below Wd.heap.size Wd wx -> RW w wx N f.start (.slice (some ⟨fb,fo,none⟩) N fc) (.slice aa m ac)):=fun wx h => hRd.below h
 have HZD : Hid (∀ wx : World,Below Wd.heap.size Wd wx -> ZBlock wx (w.heap.size + 1)):=fun wx h => heap_bel h hzd
 have HXD : Hid (∀ wx : World,Below Wd.heap.size Wd wx -> IntsAt wx fb fo N f.final):=fun wx h => (hxf.below hRd.bel).below h
 have HAD : Hid (∀ wx : World,Below Wd.heap.size Wd wx -> ASlice wx (.slice aa m ac) f.arcs):=fun wx h => (ha.below hRd.bel).below h
 have HIN : Hid (∀ W : World,Below w.heap.size w W -> IntsAt W fb fo N f.final /\ ASlice W (.slice aa m ac) f.arcs /\ IntsAt W hb ho N ah):=fun W h => ⟨hxf.below h,ha.below h,hxh.below h⟩
 have hS0 : (fun wx : World => wx.cell? ⟨w.heap.size,0,none⟩ = some (.int .i64 (N : Int)) /\ wx.cell? ⟨w.heap.size,1,none⟩ = some (.int .i64 f.start) /\ wx.cell? ⟨w.heap.size,2,none⟩ = some (.slice (some ⟨fb,fo,none⟩) N fc) /\ wx.cell? ⟨w.heap.size,3,none⟩ = some (.slice aa m ac)) Wd:=⟨hRd.cf.1,hRd.cf.2.1,hRd.cf.2.2.1,hRd.cf.2.2.2⟩
 have HSB : Hid (∀ wx : World,Below Wd.heap.size Wd wx -> (fun wx : World => wx.cell? ⟨w.heap.size,0,none⟩ = some (.int .i64 (N : Int)) /\ wx.cell? ⟨w.heap.size,1,none⟩ = some (.int .i64 f.start) /\ wx.cell? ⟨w.heap.size,2,none⟩ = some (.slice (some ⟨fb,fo,none⟩) N fc) /\ wx.cell? ⟨w.heap.size,3,none⟩ = some (.slice aa m ac)) wx):=fun wx h => ⟨bel_c h hS0.1,bel_c h hS0.2.1,bel_c h hS0.2.2.1,bel_c h hS0.2.2.2⟩
 have hzl:=heap_lt hzd
 have HW : Hid (Wd = ((w.alloc (.cells #[.int .i64 (N : Int),.int .i64 f.start,.slice (some ⟨fb,fo,none⟩) N fc,.slice aa m ac] 25)).alloc (.cells #[.int .i64 0,.int .i64 0,.slice none 0 0,.slice none 0 0] 25)).drew):=by rw [<- hA1,<- hA2]; exact hWd
 clear hA1 hA2 hRA s1 hz2 hWd hb2d hRd hzd hf ha hh hxf hxh hfl hhl hfl' hhl' hal hmany har hbF hbW hbA hN
 go_enter Try.func67,Try.ntmps67
 go_wp2
 go_cut [5] from 6 (fun t5 wx => ∃ (Q g1 c1 : Nat) (ba : Option Addr) (bc : Nat),t5 = .pointer (some ⟨Q,0,none⟩) /\ MV w wx N f.start (.slice (some ⟨fb,fo,none⟩) N fc) (.slice aa m ac) Q g1 c1 ba m bc (f.final) (fun i => f.arcs.getD i a0))
 case first =>
  refine wp_region_noPanic ?_
  refine wp_region_U (fun wx : World => wx.cell? ⟨w.heap.size,0,none⟩ = some (.int .i64 (N : Int)) /\ wx.cell? ⟨w.heap.size,1,none⟩ = some (.int .i64 f.start) /\ wx.cell? ⟨w.heap.size,2,none⟩ = some (.slice (some ⟨fb,fo,none⟩) N fc) /\ wx.cell? ⟨w.heap.size,3,none⟩ = some (.slice aa m ac)) 12 (by kernel_rfl) (by rw [<- HW.out]; exact hS0) (fun _ => ?_)
  rw [<- HW.out]
  clear HW
  refine tkU (i:=0) (v:=.pointer (some ⟨w.heap.size,0,none⟩)) rfl (by kernel_rfl) (fun _ _ _ h => h) (by rfl) hS0 (fun wl hSw => ?_) ?_
  ·(try dsimp only at hSw); go_simp
  refine tkU (i:=1) (v:=.int .i64 (N : Int)) rfl (by kernel_rfl) (fun _ _ _ h => h) (by rfl) hS0 (fun wl hSw => ?_) ?_
  ·(try dsimp only at hSw); go_simp
  refine tkU (i:=2) (v:=.pointer (some ⟨w.heap.size,1,none⟩)) rfl (by kernel_rfl) (fun _ _ _ h => h) (by rfl) hS0 (fun wl hSw => ?_) ?_
  ·(try dsimp only at hSw); go_simp
  refine tkU (i:=3) (v:=.int .i64 f.start) rfl (by kernel_rfl) (fun _ _ _ h => h) (by rfl) hS0 (fun wl hSw => ?_) ?_
  ·(try dsimp only at hSw); go_simp
  refine tkU (i:=4) (v:=.pointer (some ⟨w.heap.size,2,none⟩)) rfl (by kernel_rfl) (fun _ _ _ h => h) (by rfl) hS0 (fun wl hSw => ?_) ?_
  ·(try dsimp only at hSw); go_simp
  refine tkU (i:=5) (v:=.slice (some ⟨fb,fo,none⟩) N fc) rfl (by kernel_rfl) (fun _ _ _ h => h) (by rfl) hS0 (fun wl hSw => ?_) ?_
  ·(try dsimp only at hSw); go_simp
  refine tkU (i:=7) (v:=.pointer (some ⟨w.heap.size,3,none⟩)) rfl (by kernel_rfl) (fun _ _ _ h => h) (by rfl) hS0 (fun wl hSw => ?_) ?_
  ·(try dsimp only at hSw); go_simp
  refine tkU (i:=8) (v:=.slice aa m ac) rfl (by kernel_rfl) (fun _ _ _ h => h) (by rfl) hS0 (fun wl hSw => ?_) ?_
  ·(try dsimp only at hSw); go_simp
  refine wpAnyU_two (i:=6) (j:=11) rfl rfl (by kernel_rfl) (fun K hK => ?_) (fun K hK => ?_)
  ·go_simp
   refine (Try.slices_Clone_int fb fo N fc f.final _ (by rw [HL.out.1]; exact Nat.le_refl _) (by omega) (fun j hj => (HXD.out _ (bel_self Wd)).cell j (by rw [<- HL.out.1]; exact hj))).mono ?_
   rintro e wE ⟨v1,rfl,hr1,_,hE⟩
   rw [List.take_of_length_le (by rw [HL.out.1]; exact Nat.le_refl _)] at hr1
   obtain ⟨g1,c1,rfl⟩:=Go.Joins.ownsRow_form hr1 (by omega)
   have hbE:=bel_on (bel_self Wd) hE
   refine hK.out _ _ ⟨fun _ => HSB.out _ hbE,?_⟩
   clear hK K
   obtain ⟨hn1',hg1b⟩:=NumsAt.of_row hr1
   refine wpAnyU_two (i:=9) (j:=11) rfl rfl (by kernel_rfl) (fun K hK => ?_) (fun K hK => ?_)
   ·go_simp
    refine (cloneA_any f.arcs aa m ac _ (HAD.out _ hbE) HL.out.2.1 hm3).mono ?_
    rintro e wA ⟨ba,bc,rfl,hr2,hA⟩
    have hbA:=bel_on hbE hA
    refine hK.out _ _ ⟨fun _ => HSB.out _ hbA,?_⟩
    clear hK K
    refine wpAnyU_take (i:=10) (v:=.agg #[.int .i64 (N : Int),.int .i64 f.start,.slice (some ⟨g1,0,none⟩) N c1,.slice ba m bc]) rfl (by kernel_rfl) (by kernel_rfl) (by kernel_rfl) (by kernel_rfl) (fun _ _ _ h => h) (Or.inl ⟨by rfl,fun wl hSw => ?_⟩) (HSB.out _ hbA) ?_
    ·(try dsimp only at hSw); go_simp
    have hbZ:=bel_up hbA (.cells #[.int .i64 0,.int .i64 0,.slice none 0 0,.slice none 0 0] 25)
    refine wpAnyU_one (i:=11) rfl (by kernel_rfl) (fun K hK => ?_)
    go_simp
    refine hK.out _ _ ⟨fun _ => HSB.out _ hbZ,?_⟩
    clear hK K
    have hzP : ZBlock (wA.alloc (.cells #[.int .i64 0,.int .i64 0,.slice none 0 0,.slice none 0 0] 25)) wA.heap.size:=heap_alloc_new wA _
    obtain ⟨z0,z1,z2,z3,y0,y1,y2,y3⟩:=zfacts hzP
    have hszE:=hE.size
    have hg1l:=hn1'.lt
    have hM : Hid (MV w (wA.alloc (.cells #[.int .i64 (N : Int),.int .i64 f.start,.slice (some ⟨g1,0,none⟩) N c1,.slice ba m bc] 25)) N f.start (.slice (some ⟨fb,fo,none⟩) N fc) (.slice aa m ac) wA.heap.size g1 c1 ba m bc (f.final) (fun i => f.arcs.getD i a0)):=mv_alloc (HRW.out _ hbA) (HZD.out _ hbA) (hn1'.below hA) hr2 (by omega) (by omega) (by omega)
    refine wpAnyU_one (i:=12) rfl (by kernel_rfl) (fun K hK => ?_)
    go_simp
    refine hK.out _ _ ⟨fun h => absurd rfl h,?_⟩
    clear hK K
    refine wpAnyU_done (by kernel_rfl) ?_ _
    refine NoPanic.normal ?_
    go_wp2
    go_meet
    case rel => exact ⟨_,g1,c1,ba,bc,rfl,hM.out⟩
   ·go_simp
    have hbZ:=bel_up hbE (.cells #[.int .i64 0,.int .i64 0,.slice none 0 0,.slice none 0 0] 25)
    refine hK.out _ _ ⟨fun _ => HSB.out _ hbZ,?_⟩
    clear hK K
    refine wpAnyU_one (i:=9) rfl (by kernel_rfl) (fun K hK => ?_)
    go_simp
    refine (cloneA_any f.arcs aa m ac _ (HAD.out _ hbZ) HL.out.2.1 hm3).mono ?_
    rintro e wA ⟨ba,bc,rfl,hr2,hA⟩
    have hbA:=bel_on hbZ hA
    refine hK.out _ _ ⟨fun _ => HSB.out _ hbA,?_⟩
    clear hK K
    refine wpAnyU_take (i:=10) (v:=.agg #[.int .i64 (N : Int),.int .i64 f.start,.slice (some ⟨g1,0,none⟩) N c1,.slice ba m bc]) rfl (by kernel_rfl) (by kernel_rfl) (by kernel_rfl) (by kernel_rfl) (fun _ _ _ h => h) (Or.inl ⟨by rfl,fun wl hSw => ?_⟩) (HSB.out _ hbA) ?_
    ·(try dsimp only at hSw); go_simp
    have hzP : ZBlock wA wE.heap.size:=heap_bel hA (heap_alloc_new wE _)
    obtain ⟨z0,z1,z2,z3,y0,y1,y2,y3⟩:=zfacts hzP
    have hszE:=hE.size
    have hg1l:=hn1'.lt
    have hszZ:=one_size wE (.cells #[.int .i64 0,.int .i64 0,.slice none 0 0,.slice none 0 0] 25)
    have hM : Hid (MV w ((((wA.setCell ⟨wE.heap.size,0,none⟩ (.int .i64 (N : Int))).setCell ⟨wE.heap.size,1,none⟩ (.int .i64 f.start)).setCell ⟨wE.heap.size,2,none⟩ (.slice (some ⟨g1,0,none⟩) N c1)).setCell ⟨wE.heap.size,3,none⟩ (.slice ba m bc)) N f.start (.slice (some ⟨fb,fo,none⟩) N fc) (.slice aa m ac) wE.heap.size g1 c1 ba m bc (f.final) (fun i => f.arcs.getD i a0)):=mv_set (HRW.out _ hbA) (HZD.out _ hbA) hzP (by omega) ((hn1'.below (bel_up (bel_self wE) _)).below hA) hr2 (by omega) (by omega) (by omega) (by omega) (fun b h0 e => by have:=own_base (hr2 h0) b e; omega)
    refine wpAnyU_one (i:=12) rfl (by kernel_rfl) (fun K hK => ?_)
    go_simp
    refine hK.out _ _ ⟨fun h => absurd rfl h,?_⟩
    clear hK K
    refine wpAnyU_done (by kernel_rfl) ?_ _
    refine NoPanic.normal ?_
    go_wp2
    go_meet
    case rel => exact ⟨_,g1,c1,ba,bc,rfl,hM.out⟩
  ·go_simp
   have hbZ:=bel_up (bel_self Wd) (.cells #[.int .i64 0,.int .i64 0,.slice none 0 0,.slice none 0 0] 25)
   refine hK.out _ _ ⟨fun _ => HSB.out _ hbZ,?_⟩
   clear hK K
   refine wpAnyU_one (i:=6) rfl (by kernel_rfl) (fun K hK => ?_)
   go_simp
   refine (Try.slices_Clone_int fb fo N fc f.final _ (by rw [HL.out.1]; exact Nat.le_refl _) (by omega) (fun j hj => (HXD.out _ hbZ).cell j (by rw [<- HL.out.1]; exact hj))).mono ?_
   rintro e wE ⟨v1,rfl,hr1,_,hE⟩
   rw [List.take_of_length_le (by rw [HL.out.1]; exact Nat.le_refl _)] at hr1
   obtain ⟨g1,c1,rfl⟩:=Go.Joins.ownsRow_form hr1 (by omega)
   have hbE:=bel_on hbZ hE
   refine hK.out _ _ ⟨fun _ => HSB.out _ hbE,?_⟩
   clear hK K
   obtain ⟨hn1',hg1b⟩:=NumsAt.of_row hr1
   rw [one_size] at hg1b
   refine wpAnyU_one (i:=9) rfl (by kernel_rfl) (fun K hK => ?_)
   go_simp
   refine (cloneA_any f.arcs aa m ac _ (HAD.out _ hbE) HL.out.2.1 hm3).mono ?_
   rintro e wA ⟨ba,bc,rfl,hr2,hA⟩
   have hbA:=bel_on hbE hA
   refine hK.out _ _ ⟨fun _ => HSB.out _ hbA,?_⟩
   clear hK K
   refine wpAnyU_take (i:=10) (v:=.agg #[.int .i64 (N : Int),.int .i64 f.start,.slice (some ⟨g1,0,none⟩) N c1,.slice ba m bc]) rfl (by kernel_rfl) (by kernel_rfl) (by kernel_rfl) (by kernel_rfl) (fun _ _ _ h => h) (Or.inl ⟨by rfl,fun wl hSw => ?_⟩) (HSB.out _ hbA) ?_
   ·(try dsimp only at hSw); go_simp
   have hzP : ZBlock wA Wd.heap.size:=heap_bel hA (heap_bel hE (heap_alloc_new Wd _))
   obtain ⟨z0,z1,z2,z3,y0,y1,y2,y3⟩:=zfacts hzP
   have hszE:=hE.size
   have hg1l:=hn1'.lt
   have hszZ:=one_size Wd (.cells #[.int .i64 0,.int .i64 0,.slice none 0 0,.slice none 0 0] 25)
   have hM : Hid (MV w ((((wA.setCell ⟨Wd.heap.size,0,none⟩ (.int .i64 (N : Int))).setCell ⟨Wd.heap.size,1,none⟩ (.int .i64 f.start)).setCell ⟨Wd.heap.size,2,none⟩ (.slice (some ⟨g1,0,none⟩) N c1)).setCell ⟨Wd.heap.size,3,none⟩ (.slice ba m bc)) N f.start (.slice (some ⟨fb,fo,none⟩) N fc) (.slice aa m ac) Wd.heap.size g1 c1 ba m bc (f.final) (fun i => f.arcs.getD i a0)):=mv_set (HRW.out _ hbA) (HZD.out _ hbA) hzP (by omega) (hn1'.below hA) hr2 (by omega) (by omega) (by omega) (by omega) (fun b h0 e => by have:=own_base (hr2 h0) b e; omega)
   refine wpAnyU_one (i:=12) rfl (by kernel_rfl) (fun K hK => ?_)
   go_simp
   refine hK.out _ _ ⟨fun h => absurd rfl h,?_⟩
   clear hK K
   refine wpAnyU_done (by kernel_rfl) ?_ _
   refine NoPanic.normal ?_
   go_wp2
   go_meet
   case rel => exact ⟨_,g1,c1,ba,bc,rfl,hM.out⟩
 case rest =>
  obtain ⟨Q,g1,c1,ba,bc,rfl,hM⟩:=hcut
  clear HRW HZD HXD HAD HSB
  rename World => w5
  rw [<- movF_zero f.final ah] at hM
  obtain ⟨q0,q1,q2,q3⟩:=hM.rw.cf
  go_wp2
  clear q0 q1 q2 q3
  go_loopw [6,7,24] (fun _ _ t24 wx => ∃ s : Nat,s <= N /\ t24 = .int .i64 (s : Int) /\ MV w wx N f.start (.slice (some ⟨fb,fo,none⟩) N fc) (.slice aa m ac) Q g1 c1 ba m bc (movF f.final ah s) (fun i => f.arcs.getD i a0)) (fun _ _ t24 _ => N - (intOf t24).toNat)
  case atStart => exact ⟨0,Nat.zero_le _,rfl,hM⟩
  case round =>
   clear hM
   obtain ⟨s,hs,rfl,hM⟩:=hrel
   have hsw : IntKind.i64.wrap ((s : Int) + 1) = (s : Int) + 1:=wrap_in _ (by omega) (by omega)
   by_cases hlt : s < N
   ·have hsi : (s : Int) < N:=by omega
    have hin:=HIN.out wr hM.rw.bel
    have c0:=hin.1.cell s hlt
    rw [gI_getD (by have:=HL.out.1; omega)] at c0
    obtain ⟨x,hx⟩ : ∃ x,x = gI f.final s:=⟨_,rfl⟩
    have bx:=HBD.out.1 s
    rw [<- hx] at c0 bx
    by_cases h1 : x = -1
    ·subst h1
     have HREL : Hid (MV w wr N f.start (.slice (some ⟨fb,fo,none⟩) N fc) (.slice aa m ac) Q g1 c1 ba m bc (movF f.final ah (s + 1)) (fun i => f.arcs.getD i a0)):=by rw [movF_none f.final ah hx.symm]; exact hM
     clear hM hin hx
     go_wp2
     go_roundw
     case rel => exact ⟨s + 1,by omega,by go_num,HREL.out⟩
     case measure => simp [intOf]; omega
    ·have h1b : (x != -1) = true:=by simpa using h1
     obtain ⟨Wd',hWd'⟩ : ∃ W,W = wr.drew:=⟨_,rfl⟩
     have hbd : Below wr.heap.size wr Wd':=by rw [hWd']; exact (bel_self wr).drew
     have hMd:=hM.below hbd
     obtain ⟨y,hy⟩ : ∃ y,y = gI ah s:=⟨_,rfl⟩
     have by':=HBD.out.2.2 s
     have x2:=bel_c hbd (hin.2.2.cell s hlt)
     rw [gI_getD (by have:=HL.out.2.2; omega),<- hy] at x2
     rw [<- hy] at by'
     have x1:=hMd.nums.cell s hlt
     rw [movF_at f.final ah s (by have:=HL.out.1; omega),if_neg (Nat.lt_irrefl s),<- hx] at x1
     have hfz:=hMd.nums.frz s
     have hwx : IntKind.i64.wrap (x - y) = x - y:=wrap_in _ (by omega) (by omega)
     have HREL : Hid (MV w (Wd'.setCell ⟨g1,s,none⟩ (.int .i64 (x - y))) N f.start (.slice (some ⟨fb,fo,none⟩) N fc) (.slice aa m ac) Q g1 c1 ba m bc (movF f.final ah (s + 1)) (fun i => f.arcs.getD i a0)):=by
      rw [movF_some f.final ah (by rw [<- hx]; exact h1),<- hx,<- hy]
      exact hMd.setF hlt
     have hS0 : (fun wx : World => wx.cell? ⟨Q,2,none⟩ = some (.slice (some ⟨g1,0,none⟩) N c1) /\ wx.cell? ⟨g1,s,none⟩ = some (.int .i64 x) /\ wx.cell? ⟨hb,ho + s,none⟩ = some (.int .i64 y)) Wd':=⟨hMd.cq.2.2.1,x1,x2⟩
     have HWD : Hid (Wd' = wr.drew):=hWd'
     clear hM hMd hin hx hy hbd hWd' x1 x2
     go_wp2
     refine wp_region_noPanic ?_
     refine wp_region_U (fun wx : World => wx.cell? ⟨Q,2,none⟩ = some (.slice (some ⟨g1,0,none⟩) N c1) /\ wx.cell? ⟨g1,s,none⟩ = some (.int .i64 x) /\ wx.cell? ⟨hb,ho + s,none⟩ = some (.int .i64 y)) 11 (by kernel_rfl) (by rw [<- HWD.out]; exact hS0) (fun _ => ?_)
     rw [<- HWD.out]
     clear HWD
     refine tkU (i:=0) (v:=.pointer (some ⟨Q,2,none⟩)) rfl (by kernel_rfl) (fun _ _ _ h => h) (by rfl) hS0 (fun wl hSw => ?_) ?_
     ·(try dsimp only at hSw); go_simp
     refine tkU (i:=1) (v:=.slice (some ⟨g1,0,none⟩) N c1) rfl (by kernel_rfl) (fun _ _ _ h => h) (by rfl) hS0 (fun wl hSw => ?_) ?_
     ·(try dsimp only at hSw); go_simp
     refine tkU (i:=2) (v:=.int .i64 (s : Int)) rfl (by kernel_rfl) (fun _ _ _ h => h) (by rfl) hS0 (fun wl hSw => ?_) ?_
     ·(try dsimp only at hSw); go_simp
     refine tkU (i:=3) (v:=.pointer (some ⟨g1,s,none⟩)) rfl (by kernel_rfl) (fun _ _ _ h => h) (by rfl) hS0 (fun wl hSw => ?_) ?_
     ·(try dsimp only at hSw); go_simp
     refine tkU (i:=4) (v:=.int .i64 x) rfl (by kernel_rfl) (fun _ _ _ h => h) (by rfl) hS0 (fun wl hSw => ?_) ?_
     ·(try dsimp only at hSw); go_simp
     refine tkU (i:=5) (v:=.slice (some ⟨hb,ho,none⟩) N hc) rfl (by kernel_rfl) (fun _ _ _ h => h) (by rfl) hS0 (fun wl hSw => ?_) ?_
     ·(try dsimp only at hSw); go_simp
     refine tkU (i:=6) (v:=.int .i64 (s : Int)) rfl (by kernel_rfl) (fun _ _ _ h => h) (by rfl) hS0 (fun wl hSw => ?_) ?_
     ·(try dsimp only at hSw); go_simp
     refine tkU (i:=7) (v:=.pointer (some ⟨hb,ho + s,none⟩)) rfl (by kernel_rfl) (fun _ _ _ h => h) (by rfl) hS0 (fun wl hSw => ?_) ?_
     ·(try dsimp only at hSw); go_simp
     refine tkU (i:=8) (v:=.int .i64 y) rfl (by kernel_rfl) (fun _ _ _ h => h) (by rfl) hS0 (fun wl hSw => ?_) ?_
     ·(try dsimp only at hSw); go_simp
     refine tkU (i:=9) (v:=.int .i64 (x - y)) rfl (by kernel_rfl) (fun _ _ _ h => h) (by rfl) hS0 (fun wl hSw => ?_) ?_
     ·(try dsimp only at hSw); go_simp
     refine tkU (i:=10) (v:=.pointer (some ⟨g1,s,none⟩)) rfl (by kernel_rfl) (fun _ _ _ h => h) (by rfl) hS0 (fun wl hSw => ?_) ?_
     ·(try dsimp only at hSw); go_simp
     obtain ⟨x0,x1,x2⟩:=hS0
     refine wpAnyU_one (i:=11) rfl (by kernel_rfl) (fun Kc hKc => ?_)
     go_simp
     refine hKc.out _ _ ⟨fun h => absurd rfl h,?_⟩
     clear hKc Kc
     refine wpAnyU_done (by kernel_rfl) ?_ _
     refine NoPanic.normal ?_
     clear x0 x1 x2 hfz
     go_wp2
     go_roundw
     case rel => exact ⟨s + 1,by omega,by go_num,HREL.out⟩
     case measure => simp [intOf]; omega
   ·obtain rfl : N = s:=by omega
    have hsl : ¬ (N : Int) < N:=by omega
    have HFN : Hid (movF f.final ah N = (movD f ah).final):=by
     show _ = movF f.final ah f.final.length
     rw [HL.out.1]
    have hM1 : MV w wr N f.start (.slice (some ⟨fb,fo,none⟩) N fc) (.slice aa m ac) Q g1 c1 ba m bc (movF f.final ah N) (fun j => if j < 0 then movA ah (f.arcs.getD j a0) else f.arcs.getD j a0):=by
     have e : (fun j => if j < 0 then movA ah (f.arcs.getD j a0) else f.arcs.getD j a0) = (fun i => f.arcs.getD i a0):=by funext j; rw [if_neg (Nat.not_lt_zero _)]
     rw [e]
     exact hM
    obtain ⟨q0,q1,q2,q3⟩:=hM.rw.cf
    clear hM
    go_wp2
    clear q0 q1 q2 q3
    go_loopw [8,9,46] (fun _ _ t46 wx => ∃ i : Nat,i <= m /\ t46 = .int .i64 (i : Int) /\ MV w wx N f.start (.slice (some ⟨fb,fo,none⟩) N fc) (.slice aa m ac) Q g1 c1 ba m bc (movF f.final ah N) (fun j => if j < i then movA ah (f.arcs.getD j a0) else f.arcs.getD j a0)) (fun _ _ t46 _ => m - (intOf t46).toNat)
    case atStart => exact ⟨0,Nat.zero_le _,rfl,hM1⟩
    case round =>
     clear hM1
     obtain ⟨i,hi,rfl,hM⟩:=hrel
     have hiw : IntKind.i64.wrap ((i : Int) + 1) = (i : Int) + 1:=wrap_in _ (by omega) (by omega)
     by_cases hli : i < m
     ·obtain ⟨ab,ao,rfl,hxa⟩:=(HIN.out wr hM.rw.bel).2.1.some (by omega)
      obtain ⟨ga,rfl,hrow,hg2,hgQ,hgg⟩:=hM.arr (by omega)
      obtain ⟨a,hak⟩ : ∃ a,a = f.arcs.getD i a0:=⟨_,rfl⟩
      have hmem : a ∈ f.arcs:=by rw [hak]; have:=HL.out.2.1; simp [List.getD,show i < f.arcs.length by omega]
      obtain ⟨s,t,hs,ht,hsN,htN⟩:=HAR.out a hmem
      have hbw:=HBD.out.2.1 a hmem
      have c0:=hxa.c0 i hli
      have c1':=hxa.c1 i hli
      have c2:=hxa.c2 i hli
      have c3:=hxa.c3 i hli
      have c4:=hxa.c4 i hli
      rw [<- hak] at c0 c1' c2 c3 c4
      rw [hs] at c0
      rw [ht] at c3
      have hli' : (i : Int) < m:=by omega
      have hsi' : (s : Int) < N:=by omega
      have hti' : (t : Int) < N:=by omega
      obtain ⟨Wb,hWb⟩ : ∃ W,W = wr.alloc (.cells #[.int .i64 (s : Int),.int .i64 a.inp,.int .i64 a.out,.int .i64 (t : Int),.int .i64 a.wt] 54):=⟨_,rfl⟩
      obtain ⟨Wd',hWd'⟩ : ∃ W,W = Wb.drew:=⟨_,rfl⟩
      have hbb : Below wr.heap.size wr Wb:=by rw [hWb]; exact bel_up (bel_self wr) _
      have hbd : Below Wb.heap.size Wb Wd':=by rw [hWd']; exact (bel_self Wb).drew
      have hMd:=(hM.below hbb).below hbd
      have hroD:=(hrow.below hbb).below hbd
      obtain ⟨yt,hyt⟩ : ∃ y,y = gI ah t:=⟨_,rfl⟩
      obtain ⟨ys,hys⟩ : ∃ y,y = gI ah s:=⟨_,rfl⟩
      obtain ⟨wt,hwt⟩ : ∃ y,y = a.wt:=⟨_,rfl⟩
      have byt:=HBD.out.2.2 t
      have bys:=HBD.out.2.2 s
      rw [<- hyt] at byt
      rw [<- hys] at bys
      rw [<- hwt] at hbw
      have hin:=(HIN.out Wd' (bel_on (bel_on hM.rw.bel hbb) hbd)).2.2
      have xt:=hin.cell t htN
      rw [gI_getD (by have:=HL.out.2.2; omega),<- hyt] at xt
      have xs':=hin.cell s hsN
      rw [gI_getD (by have:=HL.out.2.2; omega),<- hys] at xs'
      have xw:=hroD.cell (i * 5 + 4) (by omega)
      unfold rowA at xw
      rw [show (i * 5 + 4) / 5 = i by omega,show (i * 5 + 4) % 5 = 4 by omega] at xw
      dsimp only at xw
      rw [if_neg (Nat.lt_irrefl i),<- hak] at xw
      replace xw : Wd'.cell? ⟨ga,i * 5 + 4,none⟩ = some (.int .i64 wt):=by rw [hwt]; exact xw
      have hfz:=hroD.frz (i * 5 + 4)
      have xd3 : Wd'.cell? ⟨wr.heap.size,3,none⟩ = some (.int .i64 (t : Int)):=bel_c hbd (by rw [hWb]; exact new_cell wr _ _ _ 3 _ rfl rfl)
      have xd0 : Wd'.cell? ⟨wr.heap.size,0,none⟩ = some (.int .i64 (s : Int)):=bel_c hbd (by rw [hWb]; exact new_cell wr _ _ _ 0 _ rfl rfl)
      have hw1 : IntKind.i64.wrap (yt - ys) = yt - ys:=wrap_in _ (by omega) (by omega)
      have hw2 : IntKind.i64.wrap (wt + (yt - ys)) = wt + (yt - ys):=wrap_in _ (by omega) (by omega)
      have HREL : Hid (MV w (Wd'.setCell ⟨ga,i * 5 + 4,none⟩ (.int .i64 (wt + (yt - ys)))) N f.start (.slice (some ⟨fb,fo,none⟩) N fc) (.slice (some ⟨ab,ao,none⟩) m ac) Q g1 c1 (some ⟨ga,0,none⟩) m bc (movF f.final ah N) (fun j => if j < i + 1 then movA ah (f.arcs.getD j a0) else f.arcs.getD j a0)):=by
       refine (hMd.setA hli).congA fun j => ?_
       have h:=arcK_step ah (fun j => f.arcs.getD j a0) i j
       rw [<- hak,hs,ht,Int.toNat_natCast,Int.toNat_natCast,<- hyt,<- hys,<- hwt] at h
       rw [<- hak]
       exact h
      have hS0 : (fun wx : World => wx.cell? ⟨Q,3,none⟩ = some (.slice (some ⟨ga,0,none⟩) m bc) /\ wx.cell? ⟨ga,i * 5 + 4,none⟩ = some (.int .i64 wt) /\ wx.cell? ⟨wr.heap.size,3,none⟩ = some (.int .i64 (t : Int)) /\ wx.cell? ⟨wr.heap.size,0,none⟩ = some (.int .i64 (s : Int)) /\ wx.cell? ⟨hb,ho + t,none⟩ = some (.int .i64 yt) /\ wx.cell? ⟨hb,ho + s,none⟩ = some (.int .i64 ys)) Wd':=⟨hMd.cq.2.2.2,xw,xd3,xd0,xt,xs'⟩
      have HWD : Hid (Wd' = (wr.alloc (.cells #[.int .i64 (s : Int),.int .i64 a.inp,.int .i64 a.out,.int .i64 (t : Int),.int .i64 a.wt] 54)).drew):=by rw [<- hWb]; exact hWd'
      clear hM hMd hin hyt hys hwt hbd hbb hWd' hWb xt xs' xw xd3 xd0 hrow hroD hmem hs ht hak
      go_wp2
      refine wp_region_noPanic ?_
      refine wp_region_U (fun wx : World => wx.cell? ⟨Q,3,none⟩ = some (.slice (some ⟨ga,0,none⟩) m bc) /\ wx.cell? ⟨ga,i * 5 + 4,none⟩ = some (.int .i64 wt) /\ wx.cell? ⟨wr.heap.size,3,none⟩ = some (.int .i64 (t : Int)) /\ wx.cell? ⟨wr.heap.size,0,none⟩ = some (.int .i64 (s : Int)) /\ wx.cell? ⟨hb,ho + t,none⟩ = some (.int .i64 yt) /\ wx.cell? ⟨hb,ho + s,none⟩ = some (.int .i64 ys)) 20 (by kernel_rfl) (by rw [<- HWD.out]; exact hS0) (fun _ => ?_)
      rw [<- HWD.out]
      clear HWD
      refine tkU (i:=0) (v:=.pointer (some ⟨Q,3,none⟩)) rfl (by kernel_rfl) (fun _ _ _ h => h) (by rfl) hS0 (fun wl hSw => ?_) ?_
      ·(try dsimp only at hSw); go_simp
      refine tkU (i:=1) (v:=.slice (some ⟨ga,0,none⟩) m bc) rfl (by kernel_rfl) (fun _ _ _ h => h) (by rfl) hS0 (fun wl hSw => ?_) ?_
      ·(try dsimp only at hSw); go_simp
      refine tkU (i:=2) (v:=.int .i64 (i : Int)) rfl (by kernel_rfl) (fun _ _ _ h => h) (by rfl) hS0 (fun wl hSw => ?_) ?_
      ·(try dsimp only at hSw); go_simp
      refine tkU (i:=3) (v:=.pointer (some ⟨ga,i * 5,none⟩)) rfl (by kernel_rfl) (fun _ _ _ h => h) (by rfl) hS0 (fun wl hSw => ?_) ?_
      ·(try dsimp only at hSw); go_simp
      refine tkU (i:=4) (v:=.pointer (some ⟨ga,i * 5 + 4,none⟩)) rfl (by kernel_rfl) (fun _ _ _ h => h) (by rfl) hS0 (fun wl hSw => ?_) ?_
      ·(try dsimp only at hSw); go_simp
      refine tkU (i:=5) (v:=.int .i64 wt) rfl (by kernel_rfl) (fun _ _ _ h => h) (by rfl) hS0 (fun wl hSw => ?_) ?_
      ·(try dsimp only at hSw); go_simp
      refine tkU (i:=6) (v:=.slice (some ⟨hb,ho,none⟩) N hc) rfl (by kernel_rfl) (fun _ _ _ h => h) (by rfl) hS0 (fun wl hSw => ?_) ?_
      ·(try dsimp only at hSw); go_simp
      refine tkU (i:=7) (v:=.pointer (some ⟨wr.heap.size,3,none⟩)) rfl (by kernel_rfl) (fun _ _ _ h => h) (by rfl) hS0 (fun wl hSw => ?_) ?_
      ·(try dsimp only at hSw); go_simp
      refine tkU (i:=8) (v:=.int .i64 (t : Int)) rfl (by kernel_rfl) (fun _ _ _ h => h) (by rfl) hS0 (fun wl hSw => ?_) ?_
      ·(try dsimp only at hSw); go_simp
      refine tkU (i:=9) (v:=.pointer (some ⟨hb,ho + t,none⟩)) rfl (by kernel_rfl) (fun _ _ _ h => h) (by rfl) hS0 (fun wl hSw => ?_) ?_
      ·(try dsimp only at hSw); go_simp
      refine tkU (i:=10) (v:=.int .i64 yt) rfl (by kernel_rfl) (fun _ _ _ h => h) (by rfl) hS0 (fun wl hSw => ?_) ?_
      ·(try dsimp only at hSw); go_simp
      refine tkU (i:=11) (v:=.slice (some ⟨hb,ho,none⟩) N hc) rfl (by kernel_rfl) (fun _ _ _ h => h) (by rfl) hS0 (fun wl hSw => ?_) ?_
      ·(try dsimp only at hSw); go_simp
      refine tkU (i:=12) (v:=.pointer (some ⟨wr.heap.size,0,none⟩)) rfl (by kernel_rfl) (fun _ _ _ h => h) (by rfl) hS0 (fun wl hSw => ?_) ?_
      ·(try dsimp only at hSw); go_simp
      refine tkU (i:=13) (v:=.int .i64 (s : Int)) rfl (by kernel_rfl) (fun _ _ _ h => h) (by rfl) hS0 (fun wl hSw => ?_) ?_
      ·(try dsimp only at hSw); go_simp
      refine tkU (i:=14) (v:=.pointer (some ⟨hb,ho + s,none⟩)) rfl (by kernel_rfl) (fun _ _ _ h => h) (by rfl) hS0 (fun wl hSw => ?_) ?_
      ·(try dsimp only at hSw); go_simp
      refine tkU (i:=15) (v:=.int .i64 ys) rfl (by kernel_rfl) (fun _ _ _ h => h) (by rfl) hS0 (fun wl hSw => ?_) ?_
      ·(try dsimp only at hSw); go_simp
      refine tkU (i:=16) (v:=.int .i64 (yt - ys)) rfl (by kernel_rfl) (fun _ _ _ h => h) (by rfl) hS0 (fun wl hSw => ?_) ?_
      ·(try dsimp only at hSw); go_simp
      refine tkU (i:=17) (v:=.int .i64 (wt + (yt - ys))) rfl (by kernel_rfl) (fun _ _ _ h => h) (by rfl) hS0 (fun wl hSw => ?_) ?_
      ·(try dsimp only at hSw); go_simp
      refine wpAnyU_one (i:=18) rfl (by kernel_rfl) (fun Kc hKc => ?_)
      go_simp
      refine hKc.out _ _ ⟨fun _ => hS0,?_⟩
      clear hKc Kc
      refine tkU (i:=19) (v:=.pointer (some ⟨ga,i * 5 + 4,none⟩)) rfl (by kernel_rfl) (fun _ _ _ h => h) (by rfl) hS0 (fun wl hSw => ?_) ?_
      ·(try dsimp only at hSw); go_simp
      obtain ⟨x0,x1,x2,x3,x4,x5⟩:=hS0
      refine wpAnyU_one (i:=20) rfl (by kernel_rfl) (fun Kc hKc => ?_)
      go_simp
      refine hKc.out _ _ ⟨fun h => absurd rfl h,?_⟩
      clear hKc Kc
      refine wpAnyU_done (by kernel_rfl) ?_ _
      refine NoPanic.normal ?_
      clear x0 x1 x2 x3 x4 x5 hfz
      go_wp2
      go_roundw
      case rel => exact ⟨i + 1,by omega,by go_num,HREL.out⟩
      case measure => simp [intOf]; omega
     ·obtain rfl : m = i:=by omega
      have hml : ¬ (m : Int) < m:=by omega
      obtain ⟨z0,z1,z2,z3,y0,y1,y2,y3⟩:=zfacts hM.res
      obtain ⟨q0,q1,q2,q3⟩:=hM.cq
      rw [HFN.out] at hM
      have HD:=mov_done hM HST.out HL.out.2.1 hN2 hm3
      obtain ⟨r0,r1,r2,r3⟩:=set4_cells z0 z1 z2 z3 (N : Int) f.start (.slice (some ⟨g1,0,none⟩) N c1) (.slice ba m bc)
      clear hM
      go_wp2
      exact bodyPost_ret (v:=.agg #[.int .i64 (N : Int),.int .i64 f.start,.slice (some ⟨g1,0,none⟩) N c1,.slice ba m bc]) (by simp [results,Try.results67,go_sem, *]) rfl HD
end Go.Proofs.Yteehgcbjmdideab
/- 'Early' of package oneway. -/
namespace Go.Proofs.Yteehgcbjmdideab
open Go.RowKit
attribute [local go_sem ↓] Go.wp_at_zero Go.wp_at_succ
theorem goE1 : ∀ args w,(callFunc 66 args).run Try.prog w = .ok (.enter 66 args) w:=by
 intro args w
 have h1 : (Try.f66.name == "runtime.NumGoroutine") = false := by kernel_rfl
 have h2 : Try.f66.body.isNone = false:=by kernel_rfl
 have h3 : ¬ Try.f66.name = "runtime.NumGoroutine" := by simpa using h1
 have h4 : ¬ Try.f66.body = none:=fun e => by rw [e] at h2; cases h2
 simp [callFunc,Try.func66,h3,h4]
theorem goE2 : ∀ args w,(callFunc 68 args).run Try.prog w = .ok (.enter 68 args) w:=by
 intro args w
 have h1 : (Try.f68.name == "runtime.NumGoroutine") = false := by kernel_rfl
 have h2 : Try.f68.body.isNone = false:=by kernel_rfl
 have h3 : ¬ Try.f68.name = "runtime.NumGoroutine" := by simpa using h1
 have h4 : ¬ Try.f68.body = none:=fun e => by rw [e] at h2; cases h2
 simp [callFunc,Try.func68,h3,h4]
set_option maxHeartbeats 400000 in
theorem early1_ends (a : ArcD) (w : World) :
  Calls Try.prog 66 #[.agg #[.int .i64 a.src,.int .i64 a.inp,.int .i64 a.out,.int .i64 a.dst,.int .i64 a.wt]] w fun e w' => e = .returned (.tuple #[.int .i64 a.dst,.int .i64 a.src]) /\ Below w.heap.size w w':=by
 go_enter Try.func66,Try.ntmps66
 go_wp2
 go_quiet (fail)
 go_wp2
 go_ret2
 exact ⟨rfl,bel_drewN (bel_up (bel_self _) _) _⟩
set_option maxHeartbeats 400000 in
theorem early2_ends (a : ArcD) (w : World) :
  Calls Try.prog 68 #[.agg #[.int .i64 a.src,.int .i64 a.inp,.int .i64 a.out,.int .i64 a.dst,.int .i64 a.wt]] w fun e w' => e = .returned (.tuple #[.int .i64 a.dst,.int .i64 a.src]) /\ Below w.heap.size w w':=by
 go_enter Try.func68,Try.ntmps68
 go_wp2
 go_quiet (fail)
 go_wp2
 go_ret2
 exact ⟨rfl,bel_drewN (bel_up (bel_self _) _) _⟩
def ahD (c back : List Int) (all : Int) (k : Nat) : List Int:=(List.range c.length).map fun s => if s < k then (if betterB (gI back s) all = true then gI back s - all else 0) else gI c s
theorem ahD_len (c back : List Int) (all : Int) (k : Nat) : (ahD c back all k).length = c.length:=by simp [ahD]
theorem ahD_at (c back : List Int) (all : Int) (k : Nat) {s : Nat} (hs : s < c.length) : gI (ahD c back all k) s = if s < k then (if betterB (gI back s) all = true then gI back s - all else 0) else gI c s:=by
 conv => lhs; unfold gI
 simp [ahD,List.getD,hs]
theorem ahD_zero (c back : List Int) (all : Int) : ahD c back all 0 = c:=by
 apply List.ext_getElem (by simp [ahD])
 intro i h1 h2
 have h3 : gI c i = c[i]:=by unfold gI; simp [List.getD,h2]
 simp [ahD,h3]
theorem ahD_succ (c back : List Int) (all : Int) (k : Nat) : ahD c back all (k + 1) = (ahD c back all k).set k (if betterB (gI back k) all = true then gI back k - all else 0):=by
 unfold ahD
 apply List.ext_getElem?
 intro i
 rw [List.getElem?_set]
 by_cases e : k = i
 ·subst e
  rw [if_pos rfl]
  by_cases hl : k < c.length
  ·rw [if_pos (by simpa using hl)]
   simp [hl]
  ·rw [if_neg (by simpa using hl)]
   simp [hl]
 ·rw [if_neg e]
  by_cases hl : i < c.length
  ·simp only [List.getElem?_map,List.getElem?_range hl,Option.map_some]
   by_cases h2 : i < k
   ·rw [if_pos (by omega),if_pos h2]
   ·rw [if_neg (by omega),if_neg h2]
  ·simp [hl]
def backF (f : FstD) : FstD:=⟨f.states,f.start,begL f.start f.states.toNat,(movD f (toD f)).arcs⟩
def earlyD (f : FstD) : FstD:=movD (movD f (toD f)) (ahD (toD f) (toD (backF f)) (gI (toD f) f.start.toNat) f.states.toNat)
structure EL (w wr : World) (N s0 : Nat) (fin arcs : Value) (gc G6 g1 c1 : Nat) (ba : Option Addr) (m bc gk : Nat) (d : FstD) (xs back : List Int) : Prop where
 rw : RW w wr N (s0 : Int) fin arcs
 res : ZBlock wr (w.heap.size + 1)
 cg : CellsF wr G6 (N : Int) (s0 : Int) (.slice (some ⟨g1,0,none⟩) N c1) (.slice ba m bc)
 nums : NumsAt wr g1 N d.final
 arr : ArcsB (gc + 1) wr ba m d.arcs
 ah : NumsAt wr gc N xs
 bk : NumsAt wr gk N back
 h0 : w.heap.size + 1 < gc
 h1 : gc < g1
 h6 : gc < G6
 hk : gc < gk
theorem EL.set {w wr : World} {N s0 : Nat} {fin arcs : Value} {gc G6 g1 c1 : Nat} {ba : Option Addr} {m bc gk : Nat} {d : FstD} {xs back : List Int} (h : EL w wr N s0 fin arcs gc G6 g1 c1 ba m bc gk d xs back) {s : Nat} {x : Int} (hs : s < N) : EL w (wr.setCell ⟨gc,s,none⟩ (.int .i64 x)) N s0 fin arcs gc G6 g1 c1 ba m bc gk d (xs.set s x) back:=by
 have h0:=h.h0
 have h1:=h.h1
 have h6:=h.h6
 have hk:=h.hk
 have hne : G6 ≠ gc:=by omega
 exact ⟨h.rw.set (by omega),heap_far h.res (by omega),⟨(set_far hne).trans h.cg.1,(set_far hne).trans h.cg.2.1,(set_far hne).trans h.cg.2.2.1,(set_far hne).trans h.cg.2.2.2⟩,h.nums.other (by omega),h.arr.set (by omega),h.ah.set s x hs,h.bk.other (by omega),h.h0,h.h1,h.h6,h.hk⟩
end Go.Proofs.Yteehgcbjmdideab
