/- 'kindsOf' of the program: the walk. -/
import Derived.Test.YteehgcbjmdideabVM29
import Derived.Test.YteehgcbjmdideabVM14
set_option maxRecDepth 100000
namespace Go.Proofs.Yteehgcbjmdideab
open Go.RowKit
attribute [local go_sem ↓] Go.wp_at_zero Go.wp_at_succ
def KindRes (f : FstD) (N : Nat) (cl : List Int) (w : World) (e : Ending) (w' : World) : Prop :=
 ∃ g,e = .returned (.slice (some ⟨g,0,none⟩) N N) /\ w.heap.size < g /\ ValsAt w' g (N * 19) (intsV (kcell f.arcs f.final cl)) /\ Below w.heap.size w w'
set_option maxHeartbeats 6400000 in
theorem kindsOf_any (f : FstD) (N : Nat) (cl : List Int) (fin arcs cv : Value) (w : World) (hN : N <= 200) (hm : f.arcs.length <= 3000) (hfl : f.final.length = N) (hcl : cl.length = N) (hok : ∀ a ∈ f.arcs,∃ s t i : Nat,a.src = (s : Int) /\ a.dst = (t : Int) /\ a.inp = ((i + 1 : Nat) : Int) /\ s < N /\ t < N /\ i < 9)
  (hf : ISlice w fin f.final) (ha : ASlice w arcs f.arcs) (hc : ISlice w cv cl) :
  Calls Try.prog 103 #[.agg #[.int .i64 (N : Int),.int .i64 f.start,fin,arcs],cv] w fun e w' => KindRes f N cl w e w':=by
 obtain ⟨fa,fn,fc,rfl,hfn,_⟩:=hf.lenOf
 obtain ⟨aa,m,ac,rfl,hal,_⟩:=ha.lenOf
 obtain ⟨ca,cn,cc,rfl,hcn,_⟩:=hc.lenOf
 have hm3 : m <= 3000:=by omega
 obtain rfl : fn = N:=by omega
 obtain rfl : cn = fn:=by omega
 have HAR:=hid_of hok
 have HIN : Hid (∀ W,Below w.heap.size w W -> ISlice W (.slice fa cn fc) f.final /\ ASlice W (.slice aa m ac) f.arcs /\ ISlice W (.slice ca cn cc) cl):=fun W h => ⟨hf.below h,ha.below h,hc.below h⟩
 have HL : Hid (f.arcs.length = m /\ f.final.length = cn /\ cl.length = cn):=⟨hal,hfl,hcl⟩
 have hmk:=make_kinds cn (by omega)
 obtain ⟨z,hz⟩ : ∃ z,z = zKind.cells:=⟨_,rfl⟩
 rw [<- hz] at hmk
 obtain ⟨A,hA⟩ : ∃ A,A = w.alloc (.cells #[.int .i64 (cn : Int),.int .i64 f.start,.slice fa cn fc,.slice aa m ac] 25):=⟨_,rfl⟩
 have hRA : RW w A cn f.start (.slice fa cn fc) (.slice aa m ac):=by rw [hA]; exact ⟨cellsF_new _ _ _ _ _ _,bel_up (bel_self w) _⟩
 have hAs : A.heap.size = w.heap.size + 1:=by rw [hA]; exact one_size w _
 obtain ⟨W1,hW1⟩ : ∃ W,W = A.alloc (.cells (madeCells z (cn * 19)) 135):=⟨_,rfl⟩
 have hR1 : RW w W1 cn f.start (.slice fa cn fc) (.slice aa m ac):=by rw [hW1]; exact hRA.below (bel_up (bel_self _) _)
 have hV1 : ValsAt W1 (w.heap.size + 1) (cn * 19) (intsV fun j => if j < 0 * 19 then kcell [] f.final cl j else 0):=by
  rw [hW1,<- hAs]
  exact (made_many A z (.int .i64 0) (cn * 19) 135 (by rw [hz,cellsK]; decide) (by rw [hz]; exact cellsK0)).cong fun i _ => by simp [intsV]
 have HW1 : Hid (W1 = (w.alloc (.cells #[.int .i64 (cn : Int),.int .i64 f.start,.slice fa cn fc,.slice aa m ac] 25)).alloc (.cells (madeCells z (cn * 19)) 135)):=by rw [<- hA]; exact hW1
 obtain ⟨g0,hg0⟩ : ∃ g,g = w.heap.size + 1:=⟨_,rfl⟩
 have HG0 : Hid (g0 = w.heap.size + 1):=hg0
 rw [<- hg0] at hV1
 have hgw : w.heap.size < g0:=by omega
 clear hz hA hW1 hRA hAs hf ha hc hal hfl hcl hfn hcn hok hg0 hm
 go_enter Try.func103,Try.ntmps103
 go_wp2
 rw [<- HW1.out,<- HG0.out]
 clear HW1 HG0
 go_loopw [6,7,8,17] (fun _ _ _ t17 wx => ∃ n : Nat,n <= cn /\ t17 = .int .i64 (n : Int) /\ RW w wx cn f.start (.slice fa cn fc) (.slice aa m ac) /\ ValsAt wx g0 (cn * 19) (intsV fun j => if j < n * 19 then kcell [] f.final cl j else 0)) (fun _ _ _ t17 _ => cn - (intOf t17).toNat)
 case atStart => exact ⟨0,Nat.zero_le _,rfl,hR1,hV1⟩
 case round =>
  clear hR1 hV1
  obtain ⟨n,hn,rfl,hR,hV⟩:=hrel
  obtain ⟨q0,q1,q2,q3⟩:=hR.cf
  have hnw : IntKind.i64.wrap ((n : Int) + 1) = (n : Int) + 1:=wrap_in _ (by omega) (by omega)
  by_cases hlt : n < cn
  ·have hni : (n : Int) < cn:=by omega
   have c0:=hV.cell (n * 19) (by omega)
   have z0:=hV.frz (n * 19)
   obtain ⟨fb,fo,rfl,hxf⟩:=(HIN.out wr hR.bel).1.some (by omega)
   have d0:=hxf.cell n hlt
   obtain ⟨v,hv⟩ : ∃ v,v = f.final.getD n 0:=⟨_,rfl⟩
   rw [<- hv] at d0
   have HV : Hid (gI f.final n = v):=by
    show f.final.getD n (-1) = v
    rw [hv,List.getD_eq_getElem?_getD,List.getD_eq_getElem?_getD,List.getElem?_eq_getElem (by have:=HL.out.2.1; omega)]
    rfl
   clear hv hxf
   have hR2 : RW w (wr.setCell ⟨g0,n * 19,none⟩ (.int .i64 v)) cn f.start (.slice (some ⟨fb,fo,none⟩) cn fc) (.slice aa m ac):=hR.set hgw
   have hV2 : ValsAt (wr.setCell ⟨g0,n * 19,none⟩ (.int .i64 v)) g0 (cn * 19) (intsV fun j => if j < n * 19 + 1 + 0 * 2 then kcell [] f.final cl j else 0):=(hV.set (n * 19) _ (by omega)).cong fun j hj => by
    unfold updV intsV
    dsimp only
    by_cases e : j = n * 19
    ·rw [if_pos e,if_pos (by omega),e,kcell_end,HV.out]
    ·rw [if_neg e]
     by_cases e2 : j < n * 19
     ·rw [if_pos e2,if_pos (by omega)]
     ·rw [if_neg e2,if_neg (by omega)]
   obtain ⟨Wa,hWa⟩ : ∃ W,W = wr.setCell ⟨g0,n * 19,none⟩ (.int .i64 v):=⟨_,rfl⟩
   rw [<- hWa] at hR2 hV2
   have HWa:=hid_of hWa
   clear hWa hV hR
   go_wp2
   rw [<- HWa.out]
   clear HWa c0 z0 d0 q0 q1 q2 q3
   go_loopw [8,27] (fun _ t27 wx => ∃ i : Nat,i <= 9 /\ t27 = .int .i64 (i : Int) /\ RW w wx cn f.start (.slice (some ⟨fb,fo,none⟩) cn fc) (.slice aa m ac) /\ ValsAt wx g0 (cn * 19) (intsV fun j => if j < n * 19 + 1 + i * 2 then kcell [] f.final cl j else 0)) (fun _ t27 _ => 9 - (intOf t27).toNat)
   case atStart => exact ⟨0,by omega,rfl,hR2,hV2⟩
   case round =>
    clear hR2 hV2
    obtain ⟨i,hi,rfl,hR,hV⟩:=hrel
    have hiw : IntKind.i64.wrap ((i : Int) + 1) = (i : Int) + 1:=wrap_in _ (by omega) (by omega)
    by_cases hi9 : i < 9
    ·have hii : (i : Int) < 9:=by omega
     have c0:=hV.cell (n * 19 + 1 + i * 2) (by omega)
     have z0:=hV.frz (n * 19 + 1 + i * 2)
     go_wp2
     go_roundw
     case rel =>
      refine ⟨i + 1,by omega,by go_num,hR.set hgw,(hV.set (n * 19 + 1 + i * 2) _ (by omega)).cong fun j hj => ?_⟩
      unfold updV intsV
      dsimp only
      have hk:=kcell_nil f.final cl n i hi9
      by_cases e : j = n * 19 + 1 + i * 2
      ·rw [if_pos e,if_pos (by omega),e,hk.1]
      ·rw [if_neg e]
       by_cases e2 : j < n * 19 + 1 + i * 2
       ·rw [if_pos e2,if_pos (by omega)]
       ·rw [if_neg e2]
        by_cases e3 : j = n * 19 + 1 + i * 2 + 1
        ·rw [if_pos (by omega),e3,hk.2]
        ·rw [if_neg (by omega)]
     case measure => simp [intOf]; omega
    ·obtain rfl : i = 9:=by omega
     go_wp2
     go_roundw
     case rel => exact ⟨n + 1,by omega,by go_num,hR,hV.cong fun j hj => by unfold intsV; dsimp only; congr 1; by_cases e : j < n * 19 + 1 + 9 * 2 <;> simp only [e,if_true,if_false] <;> first | rw [if_pos (by omega)] | rw [if_neg (by omega)]⟩
     case measure => simp [intOf]; omega
  ·obtain rfl : n = cn:=by omega
   have hnl : ¬ ((n : Int) < n):=by omega
   have hV0 : ValsAt wr g0 (n * 19) (intsV (kcell (f.arcs.take 0) f.final cl)):=hV.cong fun j hj => by
    unfold intsV
    dsimp only
    rw [if_pos hj]
    rfl
   clear hV
   go_wp2
   go_loopw [10,42] (fun _ t42 wx => ∃ k : Nat,k <= m /\ t42 = .int .i64 (k : Int) /\ RW w wx n f.start (.slice fa n fc) (.slice aa m ac) /\ ValsAt wx g0 (n * 19) (intsV (kcell (f.arcs.take k) f.final cl))) (fun _ t42 _ => m - (intOf t42).toNat)
   case atStart => exact ⟨0,Nat.zero_le _,rfl,hR,hV0⟩
   case round =>
    clear hR hV0
    obtain ⟨k,hk,rfl,hR,hV⟩:=hrel
    have hkw : IntKind.i64.wrap ((k : Int) + 1) = (k : Int) + 1:=wrap_in _ (by omega) (by omega)
    by_cases hkm : k < m
    ·have hki : (k : Int) < m:=by omega
     obtain ⟨ab,ao,rfl,hxa⟩:=(HIN.out wr hR.bel).2.1.some (by omega)
     obtain ⟨a,hak⟩ : ∃ d,f.arcs[k]? = some d:=⟨_,List.getElem?_eq_getElem (by have:=HL.out.1; omega)⟩
     have hgd : f.arcs.getD k a0 = a:=by simp [List.getD,hak]
     obtain ⟨s,t,i,hs,ht,hi,hsn,htn,hi9⟩:=HAR.out a (List.mem_of_getElem? hak)
     have c0:=hxa.c0 k hkm
     have c1:=hxa.c1 k hkm
     have c2:=hxa.c2 k hkm
     have c3:=hxa.c3 k hkm
     have c4:=hxa.c4 k hkm
     rw [hgd] at c0 c1 c2 c3 c4
     rw [hs] at c0
     rw [hi,show (((i + 1 : Nat) : Int)) = (i : Int) + 1 by simp] at c1
     rw [ht] at c3
     obtain ⟨wt,hwt⟩ : ∃ x,x = a.wt:=⟨_,rfl⟩
     obtain ⟨ao2,hao⟩ : ∃ x,x = a.out:=⟨_,rfl⟩
     rw [<- hwt] at c4
     rw [<- hao] at c2
     obtain ⟨cb,co,rfl,hxc⟩:=(HIN.out wr hR.bel).2.2.some (by omega)
     have d0:=hxc.cell t htn
     obtain ⟨q,hq⟩ : ∃ x,x = cl.getD t 0:=⟨_,rfl⟩
     rw [<- hq] at d0
     have HQ : Hid (gI cl t = q):=by
      show cl.getD t (-1) = q
      rw [hq,List.getD_eq_getElem?_getD,List.getD_eq_getElem?_getD,List.getElem?_eq_getElem (by have:=HL.out.2.2; omega)]
      rfl
     have HSN : Hid (∀ j,kcell (f.arcs.take (k + 1)) f.final cl j = if j = s * 19 + 1 + i * 2 then q else if j = s * 19 + 1 + i * 2 + 1 then wt else kcell (f.arcs.take k) f.final cl j):=fun j => by
      rw [show f.arcs.take (k + 1) = f.arcs.take k ++ [a] by rw [List.take_add_one,hak]; rfl,kcell_snoc _ _ _ a s i hs hi hi9 j,ht,<- hwt,Int.toNat_natCast,HQ.out]
     obtain ⟨Wd,hWd⟩ : ∃ W,W = (wr.alloc (.cells #[.int .i64 (s : Int),.int .i64 ((i : Int) + 1),.int .i64 ao2,.int .i64 (t : Int),.int .i64 wt] 54)).drew:=⟨_,rfl⟩
     have hbd : Below wr.heap.size wr Wd:=by rw [hWd]; exact (bel_up (bel_self wr) _).drew
     have x0 : Wd.cell? ⟨wr.heap.size,0,none⟩ = some (.int .i64 (s : Int)):=by rw [hWd]; exact drew_cell (new_cell _ _ _ _ 0 _ rfl rfl)
     have x1 : Wd.cell? ⟨wr.heap.size,1,none⟩ = some (.int .i64 ((i : Int) + 1)):=by rw [hWd]; exact drew_cell (new_cell _ _ _ _ 1 _ rfl rfl)
     have x3 : Wd.cell? ⟨wr.heap.size,3,none⟩ = some (.int .i64 (t : Int)):=by rw [hWd]; exact drew_cell (new_cell _ _ _ _ 3 _ rfl rfl)
     have x4 : Wd.cell? ⟨wr.heap.size,4,none⟩ = some (.int .i64 wt):=by rw [hWd]; exact drew_cell (new_cell _ _ _ _ 4 _ rfl rfl)
     have y0:=bel_c hbd d0
     have hRd:=hR.below hbd
     have hVd:=hV.below hbd
     have c5:=hVd.cell (s * 19 + 1 + i * 2) (by omega)
     have c6:=hVd.cell (s * 19 + 1 + i * 2 + 1) (by omega)
     have z5:=hVd.frz (s * 19 + 1 + i * 2)
     have z6:=hVd.frz (s * 19 + 1 + i * 2 + 1)
     have hw1 : IntKind.i64.wrap (i : Int) = (i : Int):=wrap_in _ (by omega) (by omega)
     have hsi : (s : Int) < n:=by omega
     have hti : (t : Int) < n:=by omega
     have hii : (i : Int) < 9:=by omega
     obtain ⟨q0,q1,q2,q3⟩:=hR.cf
     have HWD:=hid_of hWd
     have hS0 : (fun wx : World => wx.cell? ⟨wr.heap.size,0,none⟩ = some (.int .i64 (s : Int)) /\ wx.cell? ⟨wr.heap.size,1,none⟩ = some (.int .i64 ((i : Int) + 1)) /\ wx.cell? ⟨wr.heap.size,3,none⟩ = some (.int .i64 (t : Int)) /\ wx.cell? ⟨wr.heap.size,4,none⟩ = some (.int .i64 wt) /\ wx.cell? ⟨cb,co + t,none⟩ = some (.int .i64 q)) Wd:=⟨x0,x1,x3,x4,y0⟩
     clear hWd hgd hxa hxc hq hwt hao hak hs ht hi d0 x0 x1 x3 x4 y0 hV hR
     go_wp2
     refine wp_region_noPanic ?_
     refine wp_region_U (fun wx => wx.cell? ⟨wr.heap.size,0,none⟩ = some (.int .i64 (s : Int)) /\ wx.cell? ⟨wr.heap.size,1,none⟩ = some (.int .i64 ((i : Int) + 1)) /\ wx.cell? ⟨wr.heap.size,3,none⟩ = some (.int .i64 (t : Int)) /\ wx.cell? ⟨wr.heap.size,4,none⟩ = some (.int .i64 wt) /\ wx.cell? ⟨cb,co + t,none⟩ = some (.int .i64 q)) 17 (by kernel_rfl) (by rw [<- HWD.out]; exact hS0) (fun _ => ?_)
     rw [<- HWD.out]
     clear HWD q0 q1 q2 q3 c0 c1 c2 c3 c4
     refine tkU (i:=0) (v:=.slice (some ⟨g0,0,none⟩) n n) rfl (by kernel_rfl) (fun _ _ _ h => h) (by rfl) hS0 (fun wl hSw => ?_) ?_
     ·(try dsimp only at hSw); obtain ⟨o0,o1,o3,o4,o5⟩:=hSw; go_simp
     refine tkU (i:=1) (v:=.pointer (some ⟨wr.heap.size,0,none⟩)) rfl (by kernel_rfl) (fun _ _ _ h => h) (by rfl) hS0 (fun wl hSw => ?_) ?_
     ·(try dsimp only at hSw); obtain ⟨o0,o1,o3,o4,o5⟩:=hSw; go_simp
     refine tkU (i:=2) (v:=.int .i64 (s : Int)) rfl (by kernel_rfl) (fun _ _ _ h => h) (by rfl) hS0 (fun wl hSw => ?_) ?_
     ·(try dsimp only at hSw); obtain ⟨o0,o1,o3,o4,o5⟩:=hSw; go_simp
     refine tkU (i:=3) (v:=.pointer (some ⟨wr.heap.size,1,none⟩)) rfl (by kernel_rfl) (fun _ _ _ h => h) (by rfl) hS0 (fun wl hSw => ?_) ?_
     ·(try dsimp only at hSw); obtain ⟨o0,o1,o3,o4,o5⟩:=hSw; go_simp
     refine tkU (i:=4) (v:=.int .i64 ((i : Int) + 1)) rfl (by kernel_rfl) (fun _ _ _ h => h) (by rfl) hS0 (fun wl hSw => ?_) ?_
     ·(try dsimp only at hSw); obtain ⟨o0,o1,o3,o4,o5⟩:=hSw; go_simp
     refine tkU (i:=5) (v:=.int .i64 (i : Int)) rfl (by kernel_rfl) (fun _ _ _ h => h) (by rfl) hS0 (fun wl hSw => ?_) ?_
     ·(try dsimp only at hSw); obtain ⟨o0,o1,o3,o4,o5⟩:=hSw; go_simp
     refine tkU (i:=6) (v:=.slice (some ⟨cb,co,none⟩) n cc) rfl (by kernel_rfl) (fun _ _ _ h => h) (by rfl) hS0 (fun wl hSw => ?_) ?_
     ·(try dsimp only at hSw); obtain ⟨o0,o1,o3,o4,o5⟩:=hSw; go_simp
     refine tkU (i:=7) (v:=.pointer (some ⟨wr.heap.size,3,none⟩)) rfl (by kernel_rfl) (fun _ _ _ h => h) (by rfl) hS0 (fun wl hSw => ?_) ?_
     ·(try dsimp only at hSw); obtain ⟨o0,o1,o3,o4,o5⟩:=hSw; go_simp
     refine tkU (i:=8) (v:=.int .i64 (t : Int)) rfl (by kernel_rfl) (fun _ _ _ h => h) (by rfl) hS0 (fun wl hSw => ?_) ?_
     ·(try dsimp only at hSw); obtain ⟨o0,o1,o3,o4,o5⟩:=hSw; go_simp
     refine tkU (i:=9) (v:=.pointer (some ⟨cb,co + t,none⟩)) rfl (by kernel_rfl) (fun _ _ _ h => h) (by rfl) hS0 (fun wl hSw => ?_) ?_
     ·(try dsimp only at hSw); obtain ⟨o0,o1,o3,o4,o5⟩:=hSw; go_simp
     refine tkU (i:=10) (v:=.int .i64 q) rfl (by kernel_rfl) (fun _ _ _ h => h) (by rfl) hS0 (fun wl hSw => ?_) ?_
     ·(try dsimp only at hSw); obtain ⟨o0,o1,o3,o4,o5⟩:=hSw; go_simp
     refine tkU (i:=11) (v:=.pointer (some ⟨wr.heap.size,4,none⟩)) rfl (by kernel_rfl) (fun _ _ _ h => h) (by rfl) hS0 (fun wl hSw => ?_) ?_
     ·(try dsimp only at hSw); obtain ⟨o0,o1,o3,o4,o5⟩:=hSw; go_simp
     refine tkU (i:=12) (v:=.int .i64 wt) rfl (by kernel_rfl) (fun _ _ _ h => h) (by rfl) hS0 (fun wl hSw => ?_) ?_
     ·(try dsimp only at hSw); obtain ⟨o0,o1,o3,o4,o5⟩:=hSw; go_simp
     refine tkU (i:=13) (v:=.agg #[.int .i64 q,.int .i64 wt]) rfl (by kernel_rfl) (fun _ _ _ h => h) (by rfl) hS0 (fun wl hSw => ?_) ?_
     ·(try dsimp only at hSw); obtain ⟨o0,o1,o3,o4,o5⟩:=hSw; go_simp
     refine wpAnyU_one (i:=14) rfl (by kernel_rfl) (fun K hK => ?_)
     go_simp
     refine hK.out _ _ ⟨fun _ => hS0,?_⟩
     clear hK K
     refine wpAnyU_one (i:=15) rfl (by kernel_rfl) (fun K hK => ?_)
     go_simp
     refine hK.out _ _ ⟨fun _ => hS0,?_⟩
     clear hK K
     refine wpAnyU_one (i:=16) rfl (by kernel_rfl) (fun K hK => ?_)
     go_simp
     refine hK.out _ _ ⟨fun _ => hS0,?_⟩
     clear hK K
     refine wpAnyU_one (i:=17) rfl (by kernel_rfl) (fun K hK => ?_)
     go_simp
     refine hK.out _ _ ⟨fun h => absurd rfl h,?_⟩
     clear hK K
     refine wpAnyU_done (by kernel_rfl) ?_ _
     refine NoPanic.normal ?_
     have HRL : Hid (RW w ((Wd.setCell ⟨g0,s * 19 + 1 + i * 2,none⟩ (.int .i64 q)).setCell ⟨g0,s * 19 + 1 + i * 2 + 1,none⟩ (.int .i64 wt)) n f.start (.slice fa n fc) (.slice (some ⟨ab,ao,none⟩) m ac) /\ ValsAt ((Wd.setCell ⟨g0,s * 19 + 1 + i * 2,none⟩ (.int .i64 q)).setCell ⟨g0,s * 19 + 1 + i * 2 + 1,none⟩ (.int .i64 wt)) g0 (n * 19) (intsV (kcell (f.arcs.take (k + 1)) f.final cl))):=by
      refine ⟨(hRd.set hgw).set hgw,((hVd.set (s * 19 + 1 + i * 2) _ (by omega)).set (s * 19 + 1 + i * 2 + 1) _ (by omega)).cong fun j hj => ?_⟩
      unfold updV intsV
      rw [HSN.out j]
      by_cases e1 : j = s * 19 + 1 + i * 2
      ·rw [if_neg (by omega),if_pos e1,if_pos e1]
      ·by_cases e2 : j = s * 19 + 1 + i * 2 + 1
       ·rw [if_pos e2,if_neg e1,if_pos e2]
       ·rw [if_neg e2,if_neg e1,if_neg e1,if_neg e2]
     clear hRd hVd hS0 c5 c6 z5 z6
     go_wp2
     go_roundw
     case rel => exact ⟨k + 1,by omega,by go_num,HRL.out.1,HRL.out.2⟩
     case measure => simp [intOf]; omega
    ·obtain rfl : k = m:=by omega
     have hnk : ¬ ((k : Int) < k):=by omega
     have HV9 : Hid (ValsAt wr g0 (n * 19) (intsV (kcell f.arcs f.final cl))):=by
      rw [show f.arcs = f.arcs.take k by rw [<- HL.out.1,List.take_length]]
      exact hV
     have HB9:=hid_of hR.bel
     clear hV hR
     go_wp2
     go_ret
     exact ⟨g0,rfl,hgw,HV9.out,HB9.out⟩
end Go.Proofs.Yteehgcbjmdideab
/- The map of kinds: its keys are structs with arrays. (The end of it is made from OwC by wip/gen/kic.py.) -/
namespace Go.Proofs.Yteehgcbjmdideab
open Go.RowKit Go.ChangeMaps
def KinOk (l : List Int) : Prop:=l.length = 19 /\ ∀ x ∈ l,-1 <= x /\ x <= 1000000000000
def IntsOk (cs : List Value) : Prop:=∀ v ∈ cs,∃ x : Int,v = .int .i64 x /\ -1 <= x /\ x <= 1000000000000
theorem IntsOk.part {cs : List Value} (h : IntsOk cs) (a b : Nat) : IntsOk ((cs.drop a).take b):=fun v hv => h v (List.mem_of_mem_drop (List.mem_of_mem_take hv))
theorem struct_lits {P : Program} {d t : Nat} {cs : List Value} {ps : List (Nat × Nat)} (hu : ∃ fs, P.underlying t = some (.struct fs) ∧ fs.all (·.name != "_") = true ∧ fs.toList.map (fun f => (f.type, f.offset)) = ps) (hl : cs.length = P.cellsOf t)
  (h : ∀ p ∈ ps,∃ ys,P.keyLits d p.1 ((cs.drop p.2).take (P.cellsOf p.1)) = some ys) : ∃ ys,P.keyLits (d + 1) t cs = some ys:=by
 obtain ⟨fs,hu,hn,rfl⟩:=hu
 unfold Program.keyLits
 simp only [hu]
 rw [if_pos ⟨hl,hn⟩]
 obtain ⟨ys,hys⟩:=mapM_some (fun f : _ => P.keyLits d f.type ((cs.drop f.offset).take (P.cellsOf f.type))) fs.toList (fun f hf => h (f.type,f.offset) (List.mem_map_of_mem hf))
 exact ⟨ys.flatten,by rw [hys]; rfl⟩
theorem array_lits {P : Program} {d t n e : Nat} {cs : List Value} (hu : P.underlying t = some (.array n e)) (hl : cs.length = P.cellsOf t)
  (h : ∀ i,i < n -> ∃ ys,P.keyLits d e ((cs.drop (i * P.cellsOf e)).take (P.cellsOf e)) = some ys) : ∃ ys,P.keyLits (d + 1) t cs = some ys:=by
 unfold Program.keyLits
 simp only [hu]
 rw [if_pos hl]
 obtain ⟨ys,hys⟩:=mapM_some (fun i => P.keyLits d e ((cs.drop (i * P.cellsOf e)).take (P.cellsOf e))) (List.range n) (fun i hi => h i (List.mem_range.1 hi))
 exact ⟨ys.flatten,by rw [hys]; rfl⟩
theorem lits_int {cs : List Value} (d : Nat) (hl : cs.length = 1) (h : IntsOk cs) : ∃ ys,Try.prog.keyLits (d + 1) 3 cs = some ys:=by
 match cs,hl with
 | [v],_ =>
  obtain ⟨x,rfl,h1,h2⟩:=h v (by simp)
  refine ⟨[.int .i64 x],?_⟩
  unfold Program.keyLits
  simp only [Try.underlying3]
  rw [if_pos]
  refine ⟨trivial,?_⟩
  have:=wf_wrap .i64 x
  rw [wrap_in _ (by omega) (by omega)] at this
  exact this
theorem cells_int : Try.prog.cellsOf 3 = 1:=by kernel_rfl
theorem cells_leap : Try.prog.cellsOf 132 = 2:=by kernel_rfl
theorem cells_leaps : Try.prog.cellsOf 133 = 18:=by kernel_rfl
theorem cells_kind : Try.prog.cellsOf 135 = 19:=by kernel_rfl
def fieldsOf (P : Program) (t : Nat) : Option (Bool × List (Nat × Nat)) := match P.underlying t with | some (.struct fs) => some (fs.all (·.name != "_"), fs.toList.map (fun f => (f.type, f.offset))) | _ => none
theorem fields_mk {P : Program} {t : Nat} {ps : List (Nat × Nat)} (h : fieldsOf P t = some (true, ps)) : ∃ fs, P.underlying t = some (.struct fs) ∧ fs.all (·.name != "_") = true ∧ fs.toList.map (fun f => (f.type, f.offset)) = ps := by
 unfold fieldsOf at h
 split at h
 ·rename_i fs hfs
  injection h with h
  injection h with h1 h2
  exact ⟨fs,hfs,h1,h2⟩
 ·cases h
theorem fields_leap : fieldsOf Try.prog 132 = some (true,[(3,0),(3,1)]):=by kernel_rfl
theorem fields_kind : fieldsOf Try.prog 135 = some (true,[(3,0),(133,1)]):=by kernel_rfl
theorem und_leaps : Try.prog.underlying 133 = some (.array 9 132):=by kernel_rfl
theorem lits_leap {cs : List Value} (d : Nat) (hl : cs.length = 2) (h : IntsOk cs) : ∃ ys,Try.prog.keyLits (d + 2) 132 cs = some ys:=by
 refine struct_lits (fields_mk fields_leap) (by rw [hl,cells_leap]) (fun p hp => ?_)
 rcases List.mem_cons.1 hp with rfl | hp
 ·exact lits_int d (by simp [cells_int,hl]) (h.part _ _)
 ·obtain rfl : p = (3,1):=by simpa using hp
  exact lits_int d (by simp [cells_int,hl]) (h.part _ _)
theorem lits_leaps {cs : List Value} (d : Nat) (hl : cs.length = 18) (h : IntsOk cs) : ∃ ys,Try.prog.keyLits (d + 3) 133 cs = some ys:=by
 refine array_lits und_leaps (by rw [hl,cells_leaps]) (fun i hi => ?_)
 rw [cells_leap]
 exact lits_leap d (by rw [List.length_take,List.length_drop,hl]; omega) (h.part _ _)
theorem lits_kind {cs : List Value} (d : Nat) (hl : cs.length = 19) (h : IntsOk cs) : ∃ ys,Try.prog.keyLits (d + 4) 135 cs = some ys:=by
 refine struct_lits (fields_mk fields_kind) (by rw [hl,cells_kind]) (fun p hp => ?_)
 rcases List.mem_cons.1 hp with rfl | hp
 ·exact lits_int (d + 2) (by simp [cells_int,hl]) (h.part _ _)
 ·obtain rfl : p = (133,1):=by simpa using hp
  exact lits_leaps d (by simp [cells_leaps,hl]) (h.part _ _)
theorem law_kind : WideMaps.KeyLaw Try.prog 135:=by
 obtain ⟨fs,hu,_⟩:=fields_mk fields_kind
 exact deep_law_laid (m:=5) (by kernel_rfl) (by decide) (of_decide_eq_true (by kernel_rfl)) (by kernel_rfl) (by rw [hu])
theorem key_kind {l : List Int} (h : KinOk l) : ∃ k,keyOf Try.prog 135 (subV l) = some k:=by
 have hk : Try.prog.keyType 135 = true:=by kernel_rfl
 obtain ⟨fs,hu,_⟩:=fields_mk fields_kind
 have hfm : (subV l).formed Try.prog 135 = true:=by
  unfold subV Value.formed
  simp only [hu,cells_kind]
  simp [intsW,h.1]
 have hlit : ∃ ls,Try.prog.keyLits (Try.prog.types.size + 1) 135 (subV l).cells.toList = some ls:=by
  obtain ⟨d,hd⟩ : ∃ d,Try.prog.types.size + 1 = d + 4:=⟨Try.prog.types.size - 3,by
   have : 3 < Try.prog.types.size:=of_decide_eq_true (by kernel_rfl)
   omega⟩
  rw [hd]
  have hc : (subV l).cells.toList = intsW l:=by simp [subV,Value.cells]
  rw [hc]
  refine lits_kind d (by simp [intsW,h.1]) (fun v hv => ?_)
  unfold intsW at hv
  obtain ⟨x,hx,rfl⟩:=List.mem_map.1 hv
  exact ⟨x,rfl,h.2 x hx⟩
 obtain ⟨ls,hls⟩:=hlit
 refine ⟨.string (keyBytes ls),?_⟩
 unfold keyOf
 simp only [hu]
 rw [hk,hfm,hls]
 rfl
theorem kin_find {w : World} {es : List MapEntry} {ms : List (List Int)} (h : SubEs es ms) (hok : ∀ l ∈ ms,KinOk l) {l : List Int} (hl : KinOk l) :
  ((Instr.findKey 135 (subV l) es).run Try.prog w = .ok none w /\ l ∉ ms) \/ ∃ j,(Instr.findKey 135 (subV l) es).run Try.prog w = .ok (some (j,.int .i64 (j : Int))) w /\ ms[j]? = some l:=by
 obtain ⟨k,hk⟩:=key_kind hl
 have hkeys : ∀ e ∈ es,∃ l,keyOf Try.prog 135 e.key = some l:=fun e he => by
  obtain ⟨j,hj⟩:=List.mem_iff_getElem?.1 he
  obtain ⟨l',h1,h2,_⟩:=subEs_at h hj
  rw [h2]
  exact key_kind (hok l' (List.mem_of_getElem? h1))
 rcases law_kind.find w hk es hkeys with ⟨h1,h2⟩ | ⟨j,e,h1,h2,h3⟩
 ·left
  refine ⟨h1,fun hm => ?_⟩
  obtain ⟨j,hj⟩:=List.mem_iff_getElem?.1 hm
  have hlen : es.length = ms.length:=by
   have:=congrArg List.length h
   simpa using this
  have hlt : j < es.length:=by rw [hlen]; exact (List.getElem?_eq_some_iff.1 hj).1
  obtain ⟨l',h4,h5,_⟩:=subEs_at h (List.getElem?_eq_getElem hlt)
  rw [hj] at h4
  injection h4 with h4
  subst h4
  exact h2 _ (List.getElem_mem hlt) h5
 ·right
  obtain ⟨l',h4,h5,h6⟩:=subEs_at h h2
  rw [h3] at h5
  obtain rfl:=subV_inj h5
  exact ⟨j,by rw [h1,h6],h4⟩
theorem kin_check {l : List Int} (hl : KinOk l) (em : Bool) (w : World) : (Instr.checkKey em 10000 135 (subV l)).run Try.prog w = .ok () w:=by
 obtain ⟨k,hk⟩:=key_kind hl
 exact law_kind.check w em hk
theorem und_kmap : Try.prog.underlying 130 = some (.map 135 3):=by kernel_rfl
theorem kin_look {w : World} {b : Nat} {ms : List (List Int)} (h : SubAt w b ms) (hok : ∀ l ∈ ms,KinOk l) {l : List Int} (hl : KinOk l) :
  (l ∉ ms /\ (Instr.lookup 130 (.map (some b)) (subV l) true).run Try.prog w = .ok (.tuple #[.int .i64 0,.bool false]) w) \/
  ∃ j : Nat,ms[j]? = some l /\ (Instr.lookup 130 (.map (some b)) (subV l) true).run Try.prog w = .ok (.tuple #[.int .i64 (j : Int),.bool true]) w /\ (Instr.lookup 130 (.map (some b)) (subV l) false).run Try.prog w = .ok (.int .i64 (j : Int)) w:=by
 obtain ⟨es,clock,hb,hes⟩:=h
 rcases kin_find (w:=w) hes hok hl with ⟨r1,r2⟩ | ⟨j,r1,r2⟩
 ·left
  refine ⟨r2,?_⟩
  simp [Instr.lookup,run_underlying und_kmap,MapKept.run_getObj_map hb,kin_check hl,r1,Result.andThen]
 ·right
  refine ⟨j,r2,?_,?_⟩
  ·simp [Instr.lookup,run_underlying und_kmap,MapKept.run_getObj_map hb,kin_check hl,r1,Result.andThen]
  ·simp [Instr.lookup,run_underlying und_kmap,MapKept.run_getObj_map hb,kin_check hl,r1,Result.andThen]
theorem kin_put {w : World} {b : Nat} {ms : List (List Int)} (h : SubAt w b ms) (hok : ∀ l ∈ ms,KinOk l) {l : List Int} (hl : KinOk l) (hn : l ∉ ms) :
  ∃ w',(Instr.mapUpdate 130 (.map (some b)) (subV l) (.int .i64 (ms.length : Int))).run Try.prog w = .ok () w' /\ SubAt w' b (ms ++ [l]) /\ w.grownBy w' (some b):=by
 obtain ⟨es,clock,hb,hes⟩:=h
 rcases kin_find (w:=w) hes hok hl with ⟨r1,r2⟩ | ⟨j,r1,r2⟩
 ·refine ⟨setBlock w b (.map (es.push ⟨subV l,.int .i64 (ms.length : Int),clock⟩) (clock + 1)),?_,?_,?_⟩
  ·simp [Instr.mapUpdate,run_underlying und_kmap,MapKept.run_getObj_map hb,kin_check hl,r1,MapKept.run_setObj_map _ hb,Result.andThen,setBlock]
  ·refine ⟨_,_,heap_setBlock_same hb _,?_⟩
   unfold SubEs at hes ⊢
   rw [List.zipIdx_append,List.map_append,<- hes]
   simp
  ·exact ⟨rfl,rfl,rfl,by simp [setBlock],fun k _ hne => heap_setBlock_other hb _ (fun e => hne (by rw [e]))⟩
 ·exact absurd (List.mem_of_getElem? r2) hn
end Go.Proofs.Yteehgcbjmdideab
/- Classes of states by their kinds: mathematics of 'Joined'. -/
namespace Go.Proofs.Yteehgcbjmdideab
open Go.RowKit
def kindL (A : List ArcD) (fin cl : List Int) (s : Nat) : List Int:=(List.range 19).map fun r => kcell A fin cl (s * 19 + r)
theorem kindL_len (A : List ArcD) (fin cl : List Int) (s : Nat) : (kindL A fin cl s).length = 19:=by simp [kindL]
theorem kindL_eq {A : List ArcD} {fin cl cl' : List Int} {s s' : Nat} : kindL A fin cl s = kindL A fin cl' s' ↔ ∀ r,r < 19 -> kcell A fin cl (s * 19 + r) = kcell A fin cl' (s' * 19 + r):=by
 unfold kindL
 constructor
 ·intro h r hr
  have:=congrArg (fun l => l[r]?) h
  simpa [List.getElem?_range hr] using this
 ·intro h
  exact List.map_congr_left (fun r hr => h r (List.mem_range.1 hr))
def addK (ms : List (List Int)) (k : List Int) : List (List Int):=if k ∈ ms then ms else ms ++ [k]
def distK (κ : Nat -> List Int) : Nat -> List (List Int)
 | 0 => []
 | n + 1 => addK (distK κ n) (κ n)
def clsK (κ : Nat -> List Int) (N : Nat) : List Int:=(List.range N).map fun s => ((distK κ N).idxOf (κ s) : Int)
section
variable {κ : Nat -> List Int} {N : Nat}
theorem mem_distK {n : Nat} {k : List Int} : k ∈ distK κ n ↔ ∃ s,s < n /\ κ s = k:=by
 induction n with
 | zero => simp [distK]
 | succ n ih =>
  unfold distK addK
  by_cases h : κ n ∈ distK κ n
  ·rw [if_pos h,ih]
   constructor
   ·rintro ⟨s,h1,h2⟩; exact ⟨s,by omega,h2⟩
   ·rintro ⟨s,h1,h2⟩
    by_cases e : s = n
    ·subst e; exact ih.1 (by rw [<- h2]; exact h)
    ·exact ⟨s,by omega,h2⟩
  ·rw [if_neg h,List.mem_append,ih]
   constructor
   ·rintro (⟨s,h1,h2⟩ | h1)
    ·exact ⟨s,by omega,h2⟩
    ·exact ⟨n,by omega,(List.mem_singleton.1 h1).symm⟩
   ·rintro ⟨s,h1,h2⟩
    by_cases e : s = n
    ·subst e; exact Or.inr (by simp [h2])
    ·exact Or.inl ⟨s,by omega,h2⟩
theorem distK_nodup (n : Nat) : (distK κ n).Nodup:=by
 induction n with
 | zero => exact List.nodup_nil
 | succ n ih =>
  unfold distK addK
  by_cases h : κ n ∈ distK κ n
  ·rw [if_pos h]; exact ih
  ·rw [if_neg h]
   exact List.nodup_append.2 ⟨ih,by simp,fun a ha b hb e => h (by rw [List.mem_singleton.1 hb] at e; rw [<- e]; exact ha)⟩
theorem distK_pre (n m : Nat) : ∃ l,distK κ (n + m) = distK κ n ++ l:=by
 induction m with
 | zero => exact ⟨[],by simp⟩
 | succ m ih =>
  obtain ⟨l,hl⟩:=ih
  show ∃ l,addK (distK κ (n + m)) (κ (n + m)) = _
  unfold addK
  by_cases h : κ (n + m) ∈ distK κ (n + m)
  ·rw [if_pos h]; exact ⟨l,hl⟩
  ·rw [if_neg h,hl]; exact ⟨l ++ [κ (n + m)],by simp⟩
theorem distK_len (n : Nat) : (distK κ n).length <= n:=by
 induction n with
 | zero => simp [distK]
 | succ n ih =>
  unfold distK addK
  split
  ·omega
  ·simp; omega
theorem distK_at {n s j : Nat} (hn : n <= N) (hj : (distK κ n)[j]? = some (κ s)) : (distK κ N).idxOf (κ s) = j:=by
 obtain ⟨l,hl⟩:=distK_pre (κ:=κ) n (N - n)
 rw [show n + (N - n) = N by omega] at hl
 have hjl:=(List.getElem?_eq_some_iff.1 hj).1
 have h2 : (distK κ N)[j]? = some (κ s):=by rw [hl,List.getElem?_append_left hjl]; exact hj
 obtain ⟨h3,h4⟩:=List.getElem?_eq_some_iff.1 h2
 rw [<- h4]
 exact List.Nodup.idxOf_getElem (distK_nodup N) j h3
theorem clsK_len : (clsK κ N).length = N:=by simp [clsK]
theorem clsK_at {s : Nat} (hs : s < N) : gI (clsK κ N) s = ((distK κ N).idxOf (κ s) : Int):=by
 unfold gI clsK
 simp [List.getD_eq_getElem?_getD,List.getElem?_range hs]
theorem clsK_lt {s : Nat} (hs : s < N) : 0 <= gI (clsK κ N) s /\ gI (clsK κ N) s < ((distK κ N).length : Int):=by
 rw [clsK_at hs]
 have:=List.idxOf_lt_length_of_mem (mem_distK.2 ⟨s,hs,rfl⟩ : κ s ∈ distK κ N)
 omega
theorem clsK_eq {s s' : Nat} (hs : s < N) (hs' : s' < N) : gI (clsK κ N) s = gI (clsK κ N) s' ↔ κ s = κ s':=by
 rw [clsK_at hs,clsK_at hs']
 constructor
 ·intro h
  have h1:=List.idxOf_lt_length_of_mem (mem_distK.2 ⟨s,hs,rfl⟩ : κ s ∈ distK κ N)
  have h2:=List.idxOf_lt_length_of_mem (mem_distK.2 ⟨s',hs',rfl⟩ : κ s' ∈ distK κ N)
  have e : (distK κ N).idxOf (κ s) = (distK κ N).idxOf (κ s'):=by omega
  rw [<- List.getElem_idxOf h1,<- List.getElem_idxOf h2]
  simp only [e]
 ·intro h; rw [h]
end
structure Cls (N : Nat) (cl : List Int) (n : Nat) : Prop where
 len : cl.length = N
 lt : ∀ s,s < N -> 0 <= gI cl s /\ gI cl s < (n : Int)
 on : ∀ v,v < n -> ∃ s,s < N /\ gI cl s = (v : Int)
theorem clsK_cls (κ : Nat -> List Int) (N : Nat) : Cls N (clsK κ N) (distK κ N).length:=by
 refine ⟨clsK_len,fun s hs => clsK_lt hs,fun v hv => ?_⟩
 obtain ⟨s,hs,e⟩:=mem_distK.1 (List.getElem_mem hv)
 refine ⟨s,hs,?_⟩
 rw [clsK_at hs,e,List.Nodup.idxOf_getElem (distK_nodup N) v hv]
theorem cls_zero {N : Nat} (h : 0 < N) : Cls N (List.replicate N 0) 1:=by
 have e : ∀ s,s < N -> gI (List.replicate N (0 : Int)) s = 0:=fun s hs => by simp [gI,List.getD_eq_getElem?_getD,hs]
 exact ⟨by simp,fun s hs => by rw [e s hs]; omega,fun v hv => ⟨0,h,by rw [e 0 h]; omega⟩⟩
def Finer (κ : Nat -> List Int) (N : Nat) (cl : List Int) : Prop:=∀ s s',s < N -> s' < N -> κ s = κ s' -> gI cl s = gI cl s'
theorem finer_reps {κ : Nat -> List Int} {N n : Nat} {cl : List Int} (hc : Cls N cl n) (hf : Finer κ N cl) : ∃ L : List (List Int),L.length = n /\ L.Nodup /\ ∀ v,v < n -> ∃ s,s < N /\ gI cl s = (v : Int) /\ L[v]? = some (κ s):=by
 have hx : ∀ v,∃ s,v < n -> s < N /\ gI cl s = (v : Int):=fun v => by
  by_cases h : v < n
  ·obtain ⟨s,hs⟩:=hc.on v h; exact ⟨s,fun _ => hs⟩
  ·exact ⟨0,fun h2 => absurd h2 h⟩
 obtain ⟨σ,hσ⟩ : ∃ σ : Nat -> Nat,∀ v,v < n -> σ v < N /\ gI cl (σ v) = (v : Int):=⟨fun v => Classical.choose (hx v),fun v => Classical.choose_spec (hx v)⟩
 refine ⟨(List.range n).map fun v => κ (σ v),by simp,?_,fun v hv => ⟨σ v,(hσ v hv).1,(hσ v hv).2,by simp [List.getElem?_range hv]⟩⟩
 refine List.pairwise_map.2 (List.Pairwise.imp_of_mem (fun {a b} ha hb hne e => ?_) List.nodup_range)
 have ha:=List.mem_range.1 ha
 have hb:=List.mem_range.1 hb
 have:=hf _ _ (hσ a ha).1 (hσ b hb).1 e
 rw [(hσ a ha).2,(hσ b hb).2] at this
 omega
theorem finer_more {κ : Nat -> List Int} {N n : Nat} {cl : List Int} (hc : Cls N cl n) (hf : Finer κ N cl) : n <= (distK κ N).length:=by
 obtain ⟨L,h1,h2,h3⟩:=finer_reps hc hf
 rw [<- h1]
 refine nodup_sub L _ h2 (fun k hk => ?_)
 obtain ⟨v,hv⟩:=List.mem_iff_getElem?.1 hk
 obtain ⟨s,hs,_,e⟩:=h3 v (by have:=(List.getElem?_eq_some_iff.1 hv).1; omega)
 rw [hv] at e
 injection e with e
 exact mem_distK.2 ⟨s,hs,e.symm⟩
theorem finer_same {κ : Nat -> List Int} {N n : Nat} {cl : List Int} (hc : Cls N cl n) (hf : Finer κ N cl) (hn : (distK κ N).length = n) {s s' : Nat} (hs : s < N) (hs' : s' < N) (h : gI cl s = gI cl s') : κ s = κ s':=by
 obtain ⟨L,h1,h2,h3⟩:=finer_reps hc hf
 have hsub : ∀ k ∈ distK κ N,k ∈ L:=by
  intro k hk
  refine Classical.byContradiction fun hkL => ?_
  have : (k :: L).length <= (distK κ N).length:=nodup_sub (k :: L) _ (List.nodup_cons.2 ⟨hkL,h2⟩) (fun x hx => by
   rcases List.mem_cons.1 hx with rfl | hx
   ·exact hk
   ·obtain ⟨v,hv⟩:=List.mem_iff_getElem?.1 hx
    obtain ⟨s,hs,_,e⟩:=h3 v (by have:=(List.getElem?_eq_some_iff.1 hv).1; omega)
    rw [hv] at e
    injection e with e
    exact mem_distK.2 ⟨s,hs,e.symm⟩)
  simp at this
  omega
 have one : ∀ s,s < N -> L[(gI cl s).toNat]? = some (κ s):=fun s hs => by
  obtain ⟨v,hv⟩:=List.mem_iff_getElem?.1 (hsub (κ s) (mem_distK.2 ⟨s,hs,rfl⟩))
  obtain ⟨u,hu,hu2,e⟩:=h3 v (by have:=(List.getElem?_eq_some_iff.1 hv).1; omega)
  rw [hv] at e
  injection e with e
  have:=hf s u hs hu e
  rw [this,hu2,Int.toNat_natCast]
  exact hv
 have h4:=one s hs
 rw [h,one s' hs'] at h4
 injection h4 with h4
 exact h4.symm
theorem finer_next {A : List ArcD} {fin cl : List Int} {N : Nat} (hok : ∀ a ∈ A,∃ t : Nat,a.dst = (t : Int) /\ t < N) (hf : Finer (kindL A fin cl) N cl) : Finer (kindL A fin (clsK (kindL A fin cl) N)) N (clsK (kindL A fin cl) N):=by
 intro s s' hs hs' h
 rw [clsK_eq hs hs',kindL_eq]
 rw [kindL_eq] at h
 intro r hr
 have hh:=h r hr
 obtain ⟨κ,hκ⟩ : ∃ κ,κ = kindL A fin cl:=⟨_,rfl⟩
 rw [<- hκ] at hh hf
 by_cases r0 : r = 0
 ·subst r0
  rw [Nat.add_zero,Nat.add_zero,kcell_end,kcell_end] at hh ⊢
  exact hh
 ·by_cases r1 : r % 2 = 1
  ·obtain ⟨i,hi,rfl⟩ : ∃ i,i < 9 /\ r = 1 + i * 2:=⟨r / 2,by omega,by omega⟩
   rw [<- Nat.add_assoc,<- Nat.add_assoc,kcell_to _ _ _ _ _ hi,kcell_to _ _ _ _ _ hi] at hh ⊢
   unfold leapTo at hh ⊢
   have dst : ∀ {s c : Nat} {a : ArcD},lastArc A s c = some a -> ∃ t : Nat,a.dst = (t : Int) /\ t < N:=fun h => by
    unfold lastArc at h
    exact hok _ (List.mem_filter.1 (List.mem_of_getLast? h)).1
   rcases e1 : lastArc A s (i + 1) with _ | a
   ·rcases e2 : lastArc A s' (i + 1) with _ | b
    ·rfl
    ·exfalso
     obtain ⟨t,ht,htn⟩:=dst e2
     simp only [e1,e2,ht,Int.toNat_natCast] at hh
     have:=(clsK_lt (κ:=κ) htn).1
     omega
   ·obtain ⟨t,ht,htn⟩:=dst e1
    rcases e2 : lastArc A s' (i + 1) with _ | b
    ·exfalso
     simp only [e1,e2,ht,Int.toNat_natCast] at hh
     have:=(clsK_lt (κ:=κ) htn).1
     omega
    ·obtain ⟨t',ht',htn'⟩:=dst e2
     simp only [e1,e2,ht,ht',Int.toNat_natCast] at hh ⊢
     exact hf _ _ htn htn' ((clsK_eq htn htn').1 hh)
  ·obtain ⟨i,hi,rfl⟩ : ∃ i,i < 9 /\ r = 1 + i * 2 + 1:=⟨r / 2 - 1,by omega,by omega⟩
   rw [show s * 19 + (1 + i * 2 + 1) = s * 19 + 1 + i * 2 + 1 by omega,show s' * 19 + (1 + i * 2 + 1) = s' * 19 + 1 + i * 2 + 1 by omega,kcell_co _ _ _ _ _ hi,kcell_co _ _ _ _ _ hi] at hh ⊢
   exact hh
theorem finer_zero (κ : Nat -> List Int) (N : Nat) : Finer κ N (List.replicate N 0):=fun s s' hs hs' _ => by
 have e : ∀ s,s < N -> gI (List.replicate N (0 : Int)) s = 0:=fun s hs => by simp [gI,List.getD_eq_getElem?_getD,hs]
 rw [e s hs,e s' hs']
end Go.Proofs.Yteehgcbjmdideab
/- 'Joined' of the program: its loops. -/
namespace Go.Proofs.Yteehgcbjmdideab
open Go.RowKit Go.ChangeMaps
attribute [local go_sem ↓] Go.wp_at_zero Go.wp_at_succ
structure JIn (f : FstD) (N s0 : Nat) : Prop where
 n1 : 1 <= N
 n2 : N <= 200
 hs : s0 < N
 sta : f.start = (s0 : Int)
 many : f.arcs.length <= 3000
 flen : f.final.length = N
 fin : ∀ x ∈ f.final,-1 <= x /\ x <= 1000000000
 arcs : ∀ a ∈ f.arcs,∃ s t i : Nat,a.src = (s : Int) /\ a.dst = (t : Int) /\ a.inp = ((i + 1 : Nat) : Int) /\ s < N /\ t < N /\ i < 9
 wt : ∀ a ∈ f.arcs,0 <= a.wt /\ a.wt <= 1000000000
theorem gI_or {l : List Int} {s : Nat} : gI l s = -1 \/ gI l s ∈ l:=by
 unfold gI
 rcases h : l[s]? with _ | x
 ·left; rw [List.getD_eq_getElem?_getD,h]; rfl
 ·right; rw [List.getD_eq_getElem?_getD,h]; exact List.mem_of_getElem? h
theorem kindL_ok {f : FstD} {N s0 n : Nat} {cl : List Int} (hj : JIn f N s0) (hc : Cls N cl n) (hn : n <= 200) (s : Nat) : KinOk (kindL f.arcs f.final cl s):=by
 refine ⟨kindL_len _ _ _ _,fun x hx => ?_⟩
 obtain ⟨r,_,rfl⟩:=List.mem_map.1 hx
 have last : ∀ {s c : Nat} {a : ArcD},lastArc f.arcs s c = some a -> a ∈ f.arcs:=fun h => by
  unfold lastArc at h
  exact (List.mem_filter.1 (List.mem_of_getLast? h)).1
 unfold kcell
 split
 ·rcases gI_or (l:=f.final) (s:=(s * 19 + r) / 19) with h | h
  ·omega
  ·have:=hj.fin _ h; omega
 ·split
  ·unfold leapTo
   split
   ·rename_i a ha
    obtain ⟨_,t,_,_,ht,_,_,htn,_⟩:=hj.arcs a (last ha)
    have:=hc.lt t htn
    rw [ht,Int.toNat_natCast]
    omega
   ·omega
  ·unfold leapCo
   split
   ·rename_i a ha
    have:=hj.wt a (last ha)
    omega
   ·omega
structure JW (w wx : World) (N : Nat) (sta : Int) (fin arcs : Value) (cl : List Int) : Prop where
 rw : RW w wx N sta fin arcs
 zb : ZBlock wx (w.heap.size + 1)
 cl : NumsAt wx (w.heap.size + 2) N cl
section
variable {w wx wy : World} {N : Nat} {sta : Int} {fin arcs : Value} {cl : List Int}
theorem JW.below (h : JW w wx N sta fin arcs cl) (hb : Below wx.heap.size wx wy) : JW w wy N sta fin arcs cl:=⟨h.rw.below hb,heap_bel hb h.zb,h.cl.below hb⟩
theorem JW.put (h : JW w wx N sta fin arcs cl) (i : Nat) (x : Int) (hi : i < N) : JW w (wx.setCell ⟨w.heap.size + 2,i,none⟩ (.int .i64 x)) N sta fin arcs (cl.set i x):=⟨h.rw.set (by omega),heap_far h.zb (by omega),h.cl.set i x hi⟩
end
theorem JW.grown {w wx wy : World} {N M : Nat} {sta : Int} {fin arcs : Value} {cl : List Int} (h : JW w wx N sta fin arcs cl) (hg : wx.grownBy wy (some M)) (hM : w.heap.size + 2 < M) : JW w wy N sta fin arcs cl:=by
 have hl:=h.cl.lt
 have ne : ∀ b,b <= w.heap.size + 2 -> some b ≠ some M:=fun b hb e => by injection e with e; omega
 have cf:=h.rw.cf
 refine ⟨⟨⟨?_,?_,?_,?_⟩,h.rw.bel.grown hg (by have:=h.rw.bel.size; omega) (fun k hk => by injection hk with hk; omega)⟩,(hg.block _ (by omega) (ne _ (by omega))).trans h.zb,h.cl.block (hg.block _ hl (ne _ (by omega))) (Nat.lt_of_lt_of_le hl hg.size)⟩
 ·exact (hg.cell_far ⟨w.heap.size,0,none⟩ (by show w.heap.size < wx.heap.size; omega) (ne w.heap.size (by omega))).trans cf.1
 ·exact (hg.cell_far ⟨w.heap.size,1,none⟩ (by show w.heap.size < wx.heap.size; omega) (ne w.heap.size (by omega))).trans cf.2.1
 ·exact (hg.cell_far ⟨w.heap.size,2,none⟩ (by show w.heap.size < wx.heap.size; omega) (ne w.heap.size (by omega))).trans cf.2.2.1
 ·exact (hg.cell_far ⟨w.heap.size,3,none⟩ (by show w.heap.size < wx.heap.size; omega) (ne w.heap.size (by omega))).trans cf.2.2.2
def mixL (κ : Nat -> List Int) (N : Nat) (cl : List Int) (n : Nat) : List Int:=(clsK κ N).take n ++ cl.drop n
theorem mixL_zero (κ : Nat -> List Int) (N : Nat) (cl : List Int) : mixL κ N cl 0 = cl:=by simp [mixL]
theorem mixL_all {κ : Nat -> List Int} {N : Nat} {cl : List Int} (h : cl.length = N) : mixL κ N cl N = clsK κ N:=by
 unfold mixL
 rw [List.take_of_length_le (by rw [clsK_len]; exact Nat.le_refl _),List.drop_of_length_le (by omega),List.append_nil]
theorem mixL_next {κ : Nat -> List Int} {N n : Nat} {cl : List Int} (h : cl.length = N) (hn : n < N) : (mixL κ N cl n).set n (gI (clsK κ N) n) = mixL κ N cl (n + 1):=by
 have hc : (clsK κ N).length = N:=clsK_len
 apply List.ext_getElem?
 intro j
 unfold mixL
 by_cases e : j = n
 ·subst e
  rw [List.getElem?_set_self (by simp; omega),List.getElem?_append_left (by simp; omega),List.getElem?_take_of_lt (by omega),List.getElem?_eq_getElem (by omega)]
  unfold gI
  rw [List.getD_eq_getElem?_getD,List.getElem?_eq_getElem (by omega)]
  rfl
 ·rw [List.getElem?_set_ne (fun h => e h.symm)]
  by_cases h1 : j < n
  ·rw [List.getElem?_append_left (by simp; omega),List.getElem?_append_left (by simp; omega),List.getElem?_take_of_lt h1,List.getElem?_take_of_lt (by omega)]
  ·rw [List.getElem?_append_right (by simp; omega),List.getElem?_append_right (by simp; omega),List.getElem?_drop,List.getElem?_drop]
   congr 1
   simp
   omega
theorem SubAt.set {w : World} {b k i : Nat} {v : Value} {ms : List (List Int)} (h : SubAt w b ms) (hk : b ≠ k) : SubAt (w.setCell ⟨k,i,none⟩ v) b ms:=by
 obtain ⟨es,clock,h1,h2⟩:=h
 exact ⟨es,clock,heap_far h1 hk,h2⟩
theorem SubAt.below {w w' : World} {b : Nat} {ms : List (List Int)} (h : SubAt w b ms) (hb : Below w.heap.size w w') : SubAt w' b ms:=by
 obtain ⟨es,clock,h1,h2⟩:=h
 exact ⟨es,clock,heap_bel hb h1,h2⟩
theorem load_row {w : World} {g N n : Nat} {A : List ArcD} {fin cl : List Int} (h : ValsAt w g (N * 19) (intsV (kcell A fin cl))) (hn : n < N) : (loadVar 135 ⟨g,n * 19,none⟩).run Try.prog w = .ok (subV (kindL A fin cl n)) w:=by
 obtain ⟨fs,hu,_⟩:=fields_mk fields_kind
 refine run_loadVar_mid w g (n * 19) 135 (intsW (kindL A fin cl n)) _ (fun j v hv => ?_) hu rfl (by
  have : (Try.prog.info? 135).map (·.size) = some 19:=by kernel_rfl
  rw [this]
  simp [intsW,kindL_len])
 have hj : j < 19:=by
  have:=(List.getElem?_eq_some_iff.1 hv).1
  simpa [intsW,kindL_len] using this
 rw [h.cell (n * 19 + j) (by omega)]
 unfold intsW kindL at hv
 simp [List.getElem?_range hj] at hv
 rw [<- hv]
 rfl
theorem row_range {w : World} {g N n : Nat} {A : List ArcD} {fin cl : List Int} (h : ValsAt w g (N * 19) (intsV (kcell A fin cl))) (hn : n < N) : w.rangeAt g (n * 19) (intsW (kindL A fin cl n)):=fun j v hv => by
 have hj : j < 19:=by
  have:=(List.getElem?_eq_some_iff.1 hv).1
  simpa [intsW,kindL_len] using this
 rw [h.cell (n * 19 + j) (by omega)]
 unfold intsW kindL at hv
 simp [List.getElem?_range hj] at hv
 rw [<- hv]
 rfl
theorem size_kind : (Try.prog.info? 135).map (·.size) = some 19:=by kernel_rfl
theorem und_kind : ∃ d : TypeDesc,d.isRow = true /\ Try.prog.underlying 135 = some d:=by
 obtain ⟨fs,hu,_⟩:=fields_mk fields_kind
 exact ⟨_,rfl,hu⟩
theorem ints_one (l : List Int) : (intsW l).toArray.all (·.oneCell') = true:=by
 simp [intsW,Value.oneCell']
theorem blk_range {w : World} {g t : Nat} {cs : List Value} (h : w.heap[g]? = some (.cells cs.toArray t (0,0))) : w.rangeAt g 0 cs:=fun j v hv => by
 rw [Nat.zero_add,World.cell?]
 simp only [h]
 simpa using hv
theorem kin_len {w : World} {b : Nat} {ms : List (List Int)} (h : SubAt w b ms) (ty : TypeId) : (Builtin.len_ #[130] ty #[.map (some b)]).run Try.prog w = .ok (.int .i64 (ms.length : Int)) w:=by
 obtain ⟨es,clock,hb,hes⟩:=h
 have hl : es.size = ms.length:=by
  have:=congrArg List.length hes
  simpa using this
 simp [Builtin.len_,run_underlying und_kmap,MapKept.run_getObj_map hb,goInt,Result.andThen,hl]
theorem finer_stable {A : List ArcD} {fin cl : List Int} {N n : Nat} (hok : ∀ a ∈ A,∃ t : Nat,a.dst = (t : Int) /\ t < N) (hc : Cls N cl n) (hf : Finer (kindL A fin cl) N cl) (hn : (distK (kindL A fin cl) N).length = n) {s s' : Nat} (hs : s < N) (hs' : s' < N) (h : gI (clsK (kindL A fin cl) N) s = gI (clsK (kindL A fin cl) N) s') : kindL A fin (clsK (kindL A fin cl) N) s = kindL A fin (clsK (kindL A fin cl) N) s':=by
 rw [clsK_eq hs hs',kindL_eq] at h
 rw [kindL_eq]
 intro r hr
 have hh:=h r hr
 by_cases r0 : r = 0
 ·subst r0
  rw [Nat.add_zero,Nat.add_zero,kcell_end,kcell_end] at hh ⊢
  exact hh
 ·by_cases r1 : r % 2 = 1
  ·obtain ⟨i,hi,rfl⟩ : ∃ i,i < 9 /\ r = 1 + i * 2:=⟨r / 2,by omega,by omega⟩
   rw [<- Nat.add_assoc,<- Nat.add_assoc,kcell_to _ _ _ _ _ hi,kcell_to _ _ _ _ _ hi] at hh ⊢
   unfold leapTo at hh ⊢
   have dst : ∀ {s c : Nat} {a : ArcD},lastArc A s c = some a -> ∃ t : Nat,a.dst = (t : Int) /\ t < N:=fun h => by
    unfold lastArc at h
    exact hok _ (List.mem_filter.1 (List.mem_of_getLast? h)).1
   rcases e1 : lastArc A s (i + 1) with _ | a
   ·rcases e2 : lastArc A s' (i + 1) with _ | b
    ·rfl
    ·exfalso
     obtain ⟨t,ht,htn⟩:=dst e2
     simp only [e1,e2,ht,Int.toNat_natCast] at hh
     have:=(hc.lt t htn).1
     omega
   ·obtain ⟨t,ht,htn⟩:=dst e1
    rcases e2 : lastArc A s' (i + 1) with _ | b
    ·exfalso
     simp only [e1,e2,ht,Int.toNat_natCast] at hh
     have:=(hc.lt t htn).1
     omega
    ·obtain ⟨t',ht',htn'⟩:=dst e2
     simp only [e1,e2,ht,ht',Int.toNat_natCast] at hh ⊢
     exact (clsK_eq htn htn').2 (finer_same hc hf hn htn htn' hh)
  ·obtain ⟨i,hi,rfl⟩ : ∃ i,i < 9 /\ r = 1 + i * 2 + 1:=⟨r / 2 - 1,by omega,by omega⟩
   rw [show s * 19 + (1 + i * 2 + 1) = s * 19 + 1 + i * 2 + 1 by omega,show s' * 19 + (1 + i * 2 + 1) = s' * 19 + 1 + i * 2 + 1 by omega,kcell_co _ _ _ _ _ hi,kcell_co _ _ _ _ _ hi] at hh ⊢
   exact hh
end Go.Proofs.Yteehgcbjmdideab
