/- 'Joined' of the program: the walk. -/
import Derived.Test.YteehgcbjmdideabVM30
import Derived.Test.YteehgcbjmdideabVM16
import Derived.Test.YteehgcbjmdideabVM15
set_option maxRecDepth 100000
namespace Go.Proofs.Yteehgcbjmdideab
open Go.RowKit Go.ChangeMaps
attribute [local go_sem ↓] Go.wp_at_zero Go.wp_at_succ
set_option maxHeartbeats 6400000 in
theorem joined_any (f : FstD) (N s0 : Nat) (fin arcs : Value) (w : World) (hj : JIn f N s0) (hf : ISlice w fin f.final) (ha : ASlice w arcs f.arcs) (P : Int -> Value -> Value -> World -> Prop)
  (hP : ∀ K c d W,P K c d W -> P K c d ((((W.setCell ⟨w.heap.size + 1,0,none⟩ (.int .i64 K)).setCell ⟨w.heap.size + 1,1,none⟩ (.int .i64 0)).setCell ⟨w.heap.size + 1,2,none⟩ c).setCell ⟨w.heap.size + 1,3,none⟩ d))
  (hnum : ∀ (W : World) (cl : List Int) (n gk : Nat),Below w.heap.size w W -> Cls N cl n -> n <= 200 -> Finer (kindL f.arcs f.final cl) N cl -> (∀ s s',s < N -> s' < N -> gI cl s = gI cl s' -> kindL f.arcs f.final cl s = kindL f.arcs f.final cl s') -> NumsAt W (w.heap.size + 2) N cl -> ValsAt W gk (N * 19) (intsV (kcell f.arcs f.final cl)) -> Calls Try.prog 104 #[.int .i64 (s0 : Int),.slice (some ⟨w.heap.size + 2,0,none⟩) N N,.slice (some ⟨gk,0,none⟩) N N] W fun e w' => ∃ (K : Int) (ga : Option Addr) (gn gc : Nat) (ba : Option Addr) (bn bc : Nat),e = .returned (.agg #[.int .i64 K,.int .i64 0,.slice ga gn gc,.slice ba bn bc]) /\ P K (.slice ga gn gc) (.slice ba bn bc) w' /\ Below W.heap.size W w') :
  Calls Try.prog 80 #[.agg #[.int .i64 (N : Int),.int .i64 (s0 : Int),fin,arcs]] w fun e w' => ∃ (K : Int) (ga : Option Addr) (gn gc : Nat) (ba : Option Addr) (bn bc : Nat),e = .returned (.agg #[.int .i64 K,.int .i64 0,.slice ga gn gc,.slice ba bn bc]) /\ P K (.slice ga gn gc) (.slice ba bn bc) w' /\ Below w.heap.size w w':=by
 obtain ⟨fa,fn,fc,rfl,hfn,_⟩:=hf.lenOf
 obtain ⟨aa,m,ac,rfl,hal,_⟩:=ha.lenOf
 have hm3 : m <= 3000:=by have:=hj.many; omega
 obtain rfl : fn = N:=by have:=hj.flen; omega
 have HJ:=hid_of hj
 have hN1:=hj.n1
 have hN2:=hj.n2
 have HIN : Hid (∀ W,Below w.heap.size w W -> ISlice W (.slice fa fn fc) f.final /\ ASlice W (.slice aa m ac) f.arcs):=fun W h => ⟨hf.below h,ha.below h⟩
 have hmk:=run_make_row' (P:=Try.prog) 22 3 (.int .i64 0) 8 Try.underlying22 Try.info3 rfl .i64 .i64 fn (by omega) (by omega)
 have hmm:=@run_makeMap Try.prog
 obtain ⟨A1,hA1⟩ : ∃ W,W = w.alloc (.cells #[.int .i64 (fn : Int),.int .i64 (s0 : Int),.slice fa fn fc,.slice aa m ac] 25):=⟨_,rfl⟩
 have z1 : A1.heap.size = w.heap.size + 1:=by rw [hA1]; exact one_size _ _
 obtain ⟨A2,hA2⟩ : ∃ W,W = A1.alloc (.cells #[.int .i64 0,.int .i64 0,.slice none 0 0,.slice none 0 0] 25):=⟨_,rfl⟩
 have z2 : A2.heap.size = w.heap.size + 1 + 1:=by rw [hA2,one_size,z1]
 obtain ⟨A3,hA3⟩ : ∃ W,W = A2.alloc (.cells (madeCells #[.int .i64 0] fn) 3):=⟨_,rfl⟩
 have k1 : Below w.heap.size w A1:=by rw [hA1]; exact bel_up (bel_self _) _
 have k2 : Below A1.heap.size A1 A2:=by rw [hA2]; exact bel_up (bel_self _) _
 have k3 : Below A2.heap.size A2 A3:=by rw [hA3]; exact bel_up (bel_self _) _
 have hJ0 : JW w A3 fn (s0 : Int) (.slice fa fn fc) (.slice aa m ac) (List.replicate fn 0):=by
  refine ⟨⟨?_,bel_on k1 (bel_on k2 k3)⟩,?_,?_⟩
  ·have h1 : CellsF A1 w.heap.size (fn : Int) (s0 : Int) (.slice fa fn fc) (.slice aa m ac):=by rw [hA1]; exact cellsF_new _ _ _ _ _ _
   exact h1.below (bel_on k2 k3)
  ·have h1 : ZBlock A2 (w.heap.size + 1):=by unfold ZBlock; rw [hA2,<- z1]; exact heap_alloc_new A1 _
   exact heap_bel k3 h1
  ·have h1:=made_vals A2 (.int .i64 0) fn 3
   rw [<- hA3,z2] at h1
   exact ⟨by simp,fun i hi => by rw [h1.cell i hi]; simp [gI,List.getD_eq_getElem?_getD,hi],h1.frz,h1.lt⟩
 have HKI : Hid (∀ (W : World) (cl : List Int),JW w W fn (s0 : Int) (.slice fa fn fc) (.slice aa m ac) cl -> Calls Try.prog 103 #[.agg #[.int .i64 (fn : Int),.int .i64 (s0 : Int),.slice fa fn fc,.slice aa m ac],.slice (some ⟨w.heap.size + 2,0,none⟩) fn fn] W fun e w' => KindRes f fn cl W e w'):=fun W cl h => by
  have:=kindsOf_any f fn cl (.slice fa fn fc) (.slice aa m ac) (.slice (some ⟨w.heap.size + 2,0,none⟩) fn fn) W hj.n2 hj.many hj.flen h.cl.len hj.arcs (HIN.out W h.rw.bel).1 (HIN.out W h.rw.bel).2 (h.cl.slice fn (by unfold maxLen; omega))
  rw [hj.sta] at this
  exact this
 have hki:=HKI.out A3 _ hJ0
 have HA3 : Hid (A3 = ((w.alloc (.cells #[.int .i64 (fn : Int),.int .i64 (s0 : Int),.slice fa fn fc,.slice aa m ac] 25)).alloc (.cells #[.int .i64 0,.int .i64 0,.slice none 0 0,.slice none 0 0] 25)).alloc (.cells (madeCells #[.int .i64 0] fn) 3)):=by rw [<- hA1,<- hA2]; exact hA3
 have HNUM:=hid_of hnum
 have HP:=hid_of hP
 obtain ⟨q0,q1,q2,q3⟩:=hJ0.rw.cf
 rw [HA3.out] at q0 q1 q2 q3
 clear hA1 hA2 hA3 z1 z2 k1 k2 k3 hf ha hal hfn hj hnum hP
 go_enter Try.func80,Try.ntmps80
 go_wp2_with fail
 rw [<- HA3.out]
 refine hki.mono ?_
 rintro e w1 ⟨gk,rfl,hgk,hV,hb1⟩
 have hJ:=hJ0.below hb1
 have hJl:=hJ0.cl.lt
 clear hki hJ0 q0 q1 q2 q3 HA3
 have hgk2 : w.heap.size + 2 < gk:=by have:=hJl; omega
 go_wp2
 go_loopw [4,5] (fun t4 t5 wx => ∃ (cl : List Int) (cnt gk : Nat),t4 = .slice (some ⟨gk,0,none⟩) fn fn /\ t5 = .int .i64 (cnt : Int) /\ w.heap.size + 2 < gk /\ Cls fn cl cnt /\ Finer (kindL f.arcs f.final cl) fn cl /\ JW w wx fn (s0 : Int) (.slice fa fn fc) (.slice aa m ac) cl /\ ValsAt wx gk (fn * 19) (intsV (kcell f.arcs f.final cl))) (fun _ t5 _ => fn - (intOf t5).toNat)
 case atStart => exact ⟨_,1,gk,rfl,rfl,hgk2,cls_zero (by omega),finer_zero _ _,hJ,hV⟩
 case round =>
  clear hJ hV hgk hgk2 hb1
  obtain ⟨cl,cnt,gk,rfl,rfl,hgk,hcls,hfin,hJ,hV⟩:=hrel
  have HC:=hid_of (And.intro hcls hfin)
  have hcn : cnt <= fn:=Nat.le_trans (finer_more hcls hfin) (distK_len fn)
  obtain ⟨κ,hκ⟩ : ∃ κ,κ = kindL f.arcs f.final cl:=⟨_,rfl⟩
  have HK:=hid_of hκ
  obtain ⟨Mb,hMb⟩ : ∃ M,M = wr.heap.size:=⟨_,rfl⟩
  obtain ⟨Wm,hWm⟩ : ∃ W,W = wr.alloc (.map #[] 0):=⟨_,rfl⟩
  have hbm : Below wr.heap.size wr Wm:=by rw [hWm]; exact bel_up (bel_self _) _
  have hS0 : SubAt Wm Mb (distK κ 0):=⟨#[],0,by rw [hWm,hMb]; exact heap_alloc_new wr _,rfl⟩
  have hJm:=hJ.below hbm
  have hVm:=hV.below hbm
  have hMg : w.heap.size + 2 < Mb /\ gk < Mb:=by have:=hJ.cl.lt; have:=hV.lt; omega
  rw [<- mixL_zero κ fn cl] at hJm
  have HW:=hid_of (And.intro hMb hWm)
  clear hMb hWm hJ hV hκ hcls hfin
  go_wp2
  rw [<- HW.out.2,<- HW.out.1]
  clear HW
  go_loopw [20] (fun t20 wx => ∃ n : Nat,n <= fn /\ t20 = .int .i64 (n : Int) /\ JW w wx fn (s0 : Int) (.slice fa fn fc) (.slice aa m ac) (mixL κ fn cl n) /\ ValsAt wx gk (fn * 19) (intsV (kcell f.arcs f.final cl)) /\ SubAt wx Mb (distK κ n)) (fun t20 _ => fn - (intOf t20).toNat)
  case atStart => exact ⟨0,Nat.zero_le _,rfl,hJm,hVm,hS0⟩
  case round =>
   clear hJm hVm hS0 hbm
   obtain ⟨n,hn,rfl,hJ,hV,hS⟩:=hrel
   have hnw : IntKind.i64.wrap ((n : Int) + 1) = (n : Int) + 1:=wrap_in _ (by omega) (by omega)
   by_cases hlt : n < fn
   ·have hni : (n : Int) < fn:=by omega
    obtain ⟨l,hl⟩ : ∃ l,l = κ n:=⟨_,rfl⟩
    have HL:=hid_of hl
    obtain ⟨dk,hdk⟩:=und_kind
    have hll : l.length = 19:=by rw [hl,HK.out,kindL_len]
    have hrng : wr.rangeAt gk (n * 19) (intsW l):=by rw [hl,HK.out]; exact row_range hV hlt
    have HKO : Hid (KinOk l):=by rw [hl,HK.out]; exact kindL_ok HJ.out HC.out.1 (by omega) n
    have HKOS2 : Hid (∀ k ∈ distK κ (n + 1),KinOk k):=fun k hk => by
     obtain ⟨s,_,rfl⟩:=mem_distK.1 hk
     rw [HK.out]
     exact kindL_ok HJ.out HC.out.1 (by omega) s
    have HKOS : Hid (∀ k ∈ distK κ n,KinOk k):=fun k hk => by
     obtain ⟨s,_,rfl⟩:=mem_distK.1 hk
     rw [HK.out]
     exact kindL_ok HJ.out HC.out.1 (by omega) s
    clear hl
    go_upto_region 7 with fail
    refine wp_region_list ?_
    refine wpList_plain rfl (fun K hK => ?_)
    go_simp
    refine hK _ _ ?_
    clear hK K
    refine wpList_plain rfl (fun K hK => ?_)
    go_simp
    refine hK _ _ ?_
    clear hK K
    refine wpList_load_mid rfl 135 (.tmp 23) rfl gk (n * 19) rfl (intsW l) _ hrng hdk.2 hdk.1 (by rw [size_kind]; simp [intsW,hll]) ?_
    refine wpList_plain rfl (fun K hK => ?_)
    go_simp
    refine hK _ _ ?_
    clear hK K
    refine wpList_plain rfl (fun K hK => ?_)
    go_simp
    refine hK _ _ ?_
    clear hK K
    refine wpList_store_row rfl 135 (.tmp 8) (.tmp 24) rfl wr.heap.size (intsW l).toArray rfl rfl 135 _ (heap_alloc_new wr _) (by rw [size_kind]; simp [intsW,hll]) (by simp [intsW,hll]) (ints_one l) ?_
    rw [World.setRow_alloc_new]
    refine wpList_nil ?_
    obtain ⟨g,hg⟩ : ∃ g,g = wr.heap.size:=⟨_,rfl⟩
    obtain ⟨Wk,hWk⟩ : ∃ W,W = wr.alloc (.cells (intsW l).toArray 135):=⟨_,rfl⟩
    have hbk : Below wr.heap.size wr Wk:=by rw [hWk]; exact bel_up (bel_self _) _
    have hgk3 : Wk.heap[g]? = some (.cells (intsW l).toArray 135 (0,0)):=by rw [hWk,hg]; exact heap_alloc_new wr _
    have hrk : Wk.rangeAt g 0 (intsW l):=blk_range hgk3
    have hJk:=hJ.below hbk
    have hVk:=hV.below hbk
    have hSk:=hS.below hbk
    rw [<- hWk,<- hg]
    have hgM : Mb < g:=by rw [hg]; exact hS.lt
    clear hWk hg hJ hV hS hbk hrng
    by_cases hin : l ∈ distK κ n
    ·obtain ⟨j0,hj0,hlk,_⟩:=(kin_look hSk HKOS.out HKO.out).resolve_left (fun h => h.1 hin)
     have hlk : (Instr.lookup 130 (.map (some Mb)) (.agg (intsW l).toArray) true).run Try.prog Wk = .ok (.tuple #[.int .i64 (j0 : Int),.bool true]) Wk:=hlk
     go_upto_region 8 with fail
     refine wp_region_list ?_
     refine wpList_plain rfl (fun K hK => ?_)
     go_simp
     refine hK _ _ ?_
     clear hK K
     refine wpList_load_mid rfl 135 (.tmp 8) rfl g 0 rfl (intsW l) _ hrk hdk.2 hdk.1 (by rw [size_kind]; simp [intsW,hll]) ?_
     refine wpList_plain rfl (fun K hK => ?_)
     go_simp
     refine hK _ _ ?_
     clear hK K
     refine wpList_plain rfl (fun K hK => ?_)
     go_simp
     refine hK _ _ ?_
     clear hK K
     refine wpList_plain rfl (fun K hK => ?_)
     go_simp
     refine hK _ _ ?_
     clear hK K
     refine wpList_plain rfl (fun K hK => ?_)
     go_simp
     refine hK _ _ ?_
     clear hK K
     refine wpList_plain rfl (fun K hK => ?_)
     go_simp
     refine hK _ _ ?_
     clear hK K
     refine wpList_plain rfl (fun K hK => ?_)
     go_simp
     refine hK _ _ ?_
     clear hK K
     refine wpList_nil ?_
     have HD1 : Hid (distK κ (n + 1) = distK κ n):=by
      have e : κ n = l:=HL.out.symm
      show addK (distK κ n) (κ n) = _
      unfold addK
      rw [e,if_pos hin]
     have hSp:=hSk
     rw [<- HD1.out] at hSp
     have hJp:=hJk
     have hVp:=hVk
     have hrp:=hrk
     clear hlk hSk hJk hVk hrk hj0 hin
     obtain ⟨Wp,hWp⟩ : ∃ W,W = Wk:=⟨_,rfl⟩
     subst hWp
     have hlm : l ∈ distK κ (n + 1):=mem_distK.2 ⟨n,by omega,HL.out.symm⟩
     obtain ⟨j,hj1,_,hlk2⟩:=(kin_look hSp HKOS2.out HKO.out).resolve_left (fun h => h.1 hlm)
     have hlk2 : (Instr.lookup 130 (.map (some Mb)) (.agg (intsW l).toArray) false).run Try.prog Wp = .ok (.int .i64 (j : Int)) Wp:=hlk2
     have HJN : Hid (gI (clsK κ fn) n = (j : Int)):=by
      rw [clsK_at hlt,distK_at (n:=n + 1) (s:=n) (j:=j) (by omega) (by rw [hj1,HL.out])]
      exact rfl
     have hcc:=hJp.cl.cell n hlt
     have hcz:=hJp.cl.frz n
     obtain ⟨y,hy⟩ : ∃ y,y = gI (mixL κ fn cl n) n:=⟨_,rfl⟩
     rw [<- hy] at hcc
     clear hy
     have HREL : Hid (JW w (Wp.setCell ⟨w.heap.size + 2,n,none⟩ (.int .i64 (j : Int))) fn (s0 : Int) (.slice fa fn fc) (.slice aa m ac) (mixL κ fn cl (n + 1)) /\ ValsAt (Wp.setCell ⟨w.heap.size + 2,n,none⟩ (.int .i64 (j : Int))) gk (fn * 19) (intsV (kcell f.arcs f.final cl)) /\ SubAt (Wp.setCell ⟨w.heap.size + 2,n,none⟩ (.int .i64 (j : Int))) Mb (distK κ (n + 1))):=by
      have h1:=hJp.put n (j : Int) hlt
      rw [<- HJN.out,mixL_next HC.out.1.len hlt,HJN.out] at h1
      exact ⟨h1,hVp.other (by omega),hSp.set (by omega)⟩
     clear hJp hVp hSp hj1 HJN hlm
     go_upto_region 11 with fail
     refine wp_region_list ?_
     refine wpList_plain rfl (fun K hK => ?_)
     go_simp
     refine hK _ _ ?_
     clear hK K
     refine wpList_plain rfl (fun K hK => ?_)
     go_simp
     refine hK _ _ ?_
     clear hK K
     refine wpList_plain rfl (fun K hK => ?_)
     go_simp
     refine hK _ _ ?_
     clear hK K
     refine wpList_load_mid rfl 135 (.tmp 8) rfl g 0 rfl (intsW l) _ hrp hdk.2 hdk.1 (by rw [size_kind]; simp [intsW,hll]) ?_
     refine wpList_plain rfl (fun K hK => ?_)
     go_simp
     refine hK _ _ ?_
     clear hK K
     refine wpList_plain rfl (fun K hK => ?_)
     go_simp
     refine hK _ _ ?_
     clear hK K
     refine wpList_plain rfl (fun K hK => ?_)
     go_simp
     refine hK _ _ ?_
     clear hK K
     refine wpList_nil ?_
     clear hlk2 hcc hcz hrp
     go_wp2
     go_roundw
     case rel => exact ⟨n + 1,by omega,by go_num,HREL.out.1,HREL.out.2.1,HREL.out.2.2⟩
     case measure => simp [intOf]; omega
    ·obtain ⟨hlk,_⟩:=(kin_look hSk HKOS.out HKO.out).resolve_right (fun ⟨j,h1,_⟩ => hin (List.mem_of_getElem? h1)) |> fun h => And.intro h.2 trivial
     have hlk : (Instr.lookup 130 (.map (some Mb)) (.agg (intsW l).toArray) true).run Try.prog Wk = .ok (.tuple #[.int .i64 0,.bool false]) Wk:=hlk
     go_upto_region 8 with fail
     refine wp_region_list ?_
     refine wpList_plain rfl (fun K hK => ?_)
     go_simp
     refine hK _ _ ?_
     clear hK K
     refine wpList_load_mid rfl 135 (.tmp 8) rfl g 0 rfl (intsW l) _ hrk hdk.2 hdk.1 (by rw [size_kind]; simp [intsW,hll]) ?_
     refine wpList_plain rfl (fun K hK => ?_)
     go_simp
     refine hK _ _ ?_
     clear hK K
     refine wpList_plain rfl (fun K hK => ?_)
     go_simp
     refine hK _ _ ?_
     clear hK K
     refine wpList_plain rfl (fun K hK => ?_)
     go_simp
     refine hK _ _ ?_
     clear hK K
     refine wpList_plain rfl (fun K hK => ?_)
     go_simp
     refine hK _ _ ?_
     clear hK K
     refine wpList_plain rfl (fun K hK => ?_)
     go_simp
     refine hK _ _ ?_
     clear hK K
     refine wpList_plain rfl (fun K hK => ?_)
     go_simp
     refine hK _ _ ?_
     clear hK K
     refine wpList_nil ?_
     clear hlk
     have hlen:=kin_len hSk 3
     obtain ⟨Wp,hput,hSp,hgp⟩:=kin_put hSk HKOS.out HKO.out hin
     have hput : (Instr.mapUpdate 130 (.map (some Mb)) (.agg (intsW l).toArray) (.int .i64 ((distK κ n).length : Int))).run Try.prog Wk = .ok () Wp:=hput
     go_upto_region 10 with fail
     refine wp_region_list ?_
     refine wpList_plain rfl (fun K hK => ?_)
     go_simp
     refine hK _ _ ?_
     clear hK K
     refine wpList_load_mid rfl 135 (.tmp 8) rfl g 0 rfl (intsW l) _ hrk hdk.2 hdk.1 (by rw [size_kind]; simp [intsW,hll]) ?_
     refine wpList_plain rfl (fun K hK => ?_)
     go_simp
     refine hK _ _ ?_
     clear hK K
     refine wpList_plain rfl (fun K hK => ?_)
     go_simp
     refine hK _ _ ?_
     clear hK K
     refine wpList_plain rfl (fun K hK => ?_)
     go_simp
     refine hK _ _ ?_
     clear hK K
     refine wpList_nil ?_
     have hJp:=hJk.grown hgp hMg.1
     have hVp:=hVk.grown hgp (fun e => by injection e with e; omega)
     have hgp3 : Wp.heap[g]? = some (.cells (intsW l).toArray 135 (0,0)):=(hgp.block g (heap_lt hgk3) (fun e => by injection e with e; omega)).trans hgk3
     have hrp : Wp.rangeAt g 0 (intsW l):=blk_range hgp3
     have HD1 : Hid (distK κ (n + 1) = distK κ n ++ [l]):=by
      have e : κ n = l:=HL.out.symm
      show addK (distK κ n) (κ n) = _
      unfold addK
      rw [e,if_neg hin]
     rw [<- HD1.out] at hSp
     clear hput hlen hJk hVk hSk hgk3 hrk hgp hin
     have HX : Hid (∃ (Wp : World),JW w Wp fn (s0 : Int) (.slice fa fn fc) (.slice aa m ac) (mixL κ fn cl n) /\ True):=⟨Wp,hJp,trivial⟩
     clear HX
     have hlm : l ∈ distK κ (n + 1):=mem_distK.2 ⟨n,by omega,HL.out.symm⟩
     obtain ⟨j,hj1,_,hlk2⟩:=(kin_look hSp HKOS2.out HKO.out).resolve_left (fun h => h.1 hlm)
     have hlk2 : (Instr.lookup 130 (.map (some Mb)) (.agg (intsW l).toArray) false).run Try.prog Wp = .ok (.int .i64 (j : Int)) Wp:=hlk2
     have HJN : Hid (gI (clsK κ fn) n = (j : Int)):=by
      rw [clsK_at hlt,distK_at (n:=n + 1) (s:=n) (j:=j) (by omega) (by rw [hj1,HL.out])]
      exact rfl
     have hcc:=hJp.cl.cell n hlt
     have hcz:=hJp.cl.frz n
     obtain ⟨y,hy⟩ : ∃ y,y = gI (mixL κ fn cl n) n:=⟨_,rfl⟩
     rw [<- hy] at hcc
     clear hy
     have HREL : Hid (JW w (Wp.setCell ⟨w.heap.size + 2,n,none⟩ (.int .i64 (j : Int))) fn (s0 : Int) (.slice fa fn fc) (.slice aa m ac) (mixL κ fn cl (n + 1)) /\ ValsAt (Wp.setCell ⟨w.heap.size + 2,n,none⟩ (.int .i64 (j : Int))) gk (fn * 19) (intsV (kcell f.arcs f.final cl)) /\ SubAt (Wp.setCell ⟨w.heap.size + 2,n,none⟩ (.int .i64 (j : Int))) Mb (distK κ (n + 1))):=by
      have h1:=hJp.put n (j : Int) hlt
      rw [<- HJN.out,mixL_next HC.out.1.len hlt,HJN.out] at h1
      exact ⟨h1,hVp.other (by omega),hSp.set (by omega)⟩
     clear hJp hVp hSp hj1 HJN hlm
     go_upto_region 11 with fail
     refine wp_region_list ?_
     refine wpList_plain rfl (fun K hK => ?_)
     go_simp
     refine hK _ _ ?_
     clear hK K
     refine wpList_plain rfl (fun K hK => ?_)
     go_simp
     refine hK _ _ ?_
     clear hK K
     refine wpList_plain rfl (fun K hK => ?_)
     go_simp
     refine hK _ _ ?_
     clear hK K
     refine wpList_load_mid rfl 135 (.tmp 8) rfl g 0 rfl (intsW l) _ hrp hdk.2 hdk.1 (by rw [size_kind]; simp [intsW,hll]) ?_
     refine wpList_plain rfl (fun K hK => ?_)
     go_simp
     refine hK _ _ ?_
     clear hK K
     refine wpList_plain rfl (fun K hK => ?_)
     go_simp
     refine hK _ _ ?_
     clear hK K
     refine wpList_plain rfl (fun K hK => ?_)
     go_simp
     refine hK _ _ ?_
     clear hK K
     refine wpList_nil ?_
     clear hlk2 hcc hcz hrp
     go_wp2
     go_roundw
     case rel => exact ⟨n + 1,by omega,by go_num,HREL.out.1,HREL.out.2.1,HREL.out.2.2⟩
     case measure => simp [intOf]; omega
   ·obtain rfl : n = fn:=by omega
    have hnl : ¬ ((n : Int) < n):=by omega
    rw [mixL_all HC.out.1.len] at hJ
    have HFN : Hid (Finer (kindL f.arcs f.final (clsK κ n)) n (clsK κ n)):=by
     rw [HK.out]
     exact finer_next (fun a ha => by obtain ⟨_,t,_,_,h1,_,_,h2,_⟩:=HJ.out.arcs a ha; exact ⟨t,h1,h2⟩) HC.out.2
    have hki:=HKI.out wr _ hJ
    have hlen:=kin_len hS 3
    obtain ⟨q0,q1,q2,q3⟩:=hJ.rw.cf
    have HMORE:=hid_of (finer_more HC.out.1 HC.out.2)
    rw [<- HK.out] at HMORE
    obtain ⟨q,hq⟩ : ∃ q,q = (distK κ n).length:=⟨_,rfl⟩
    have hqn : q <= n:=by rw [hq]; exact distK_len n
    have HQ:=hid_of hq
    rw [<- hq] at HMORE hlen
    have hcq:=HMORE.out
    clear hq
    go_wp2_with fail
    refine hki.mono ?_
    rintro e w2 ⟨gk2,rfl,hgk2,hV2,hb2⟩
    have hJ2:=hJ.below hb2
    have hS2:=hS.below hb2
    have hlen:=kin_len hS2 3
    rw [<- HQ.out] at hlen
    have hgk4 : w.heap.size + 2 < gk2:=by have:=hJ.cl.lt; omega
    have HCL : Hid (Cls n (clsK κ n) q):=by rw [HQ.out]; exact clsK_cls κ n
    clear hki hJ hV hS q0 q1 q2 q3 hb2 hS2 hgk2
    by_cases hqc : q = cnt
    ·obtain ⟨q0,q1,q2,q3⟩:=hJ2.rw.cf
     have hnm:=HNUM.out w2 (clsK κ n) q gk2 hJ2.rw.bel HCL.out (by omega) HFN.out (fun s s' hs hs' h => by
      rw [HK.out] at h ⊢
      exact finer_stable (fun a ha => by obtain ⟨_,t,_,_,h1,_,_,h2,_⟩:=HJ.out.arcs a ha; exact ⟨t,h1,h2⟩) HC.out.1 HC.out.2 (by rw [<- HK.out,<- HQ.out,hqc]) hs hs' h) hJ2.cl hV2
     subst hqc
     go_wp2_with fail
     refine hnm.mono ?_
     rintro e w3 ⟨Kn,ga,gn,gc,ba,bn,bc,rfl,hPv,hb3⟩
     have hJ3:=hJ2.below hb3
     obtain ⟨z0,z1,z2,z3,z4,z5,z6,z7⟩:=zfacts hJ3.zb
     have HRES:=hid_of (And.intro (HP.out _ _ _ _ hPv) ((((hJ3.rw.set (g:=w.heap.size + 1) (i:=0) (v:=.int .i64 Kn) (by omega)).set (g:=w.heap.size + 1) (i:=1) (v:=.int .i64 0) (by omega)).set (g:=w.heap.size + 1) (i:=2) (v:=.slice ga gn gc) (by omega)).set (g:=w.heap.size + 1) (i:=3) (v:=.slice ba bn bc) (by omega)).bel)
     obtain ⟨r0,r1,r2,r3⟩:=set4_cells z0 z1 z2 z3 Kn 0 (.slice ga gn gc) (.slice ba bn bc)
     clear hPv hJ2 hJ3 hV2 hlen hnm hb3 q0 q1 q2 q3
     go_wp2
     exact bodyPost_ret (v:=.agg #[.int .i64 Kn,.int .i64 0,.slice ga gn gc,.slice ba bn bc]) (by simp [results,Try.results80,go_sem, *]) rfl ⟨Kn,ga,gn,gc,ba,bn,bc,rfl,HRES.out.1,HRES.out.2⟩
    ·have hqb : ((q : Int) == (cnt : Int)) = false:=by simp; omega
     go_wp2
     go_roundw
     case rel => exact ⟨clsK κ n,q,gk2,rfl,rfl,hgk4,HCL.out,HFN.out,hJ2,hV2⟩
     case measure => simp [intOf]; omega
end Go.Proofs.Yteehgcbjmdideab
/- The map of classes: its values are kinds. -/
namespace Go.Proofs.Yteehgcbjmdideab
open Go.RowKit Go.ChangeMaps
def KM (w : World) (b : Nat) (κ : Nat -> List Int) (ks : List Nat) : Prop:=∃ es clock,w.heap[b]? = some (.map es clock) /\ es.toList.map (fun e => (e.key,e.val)) = ks.map fun x : Nat => (Value.int .i64 (x : Int),subV (κ x))
section
variable {w w' : World} {b : Nat} {κ : Nat -> List Int} {ks : List Nat}
theorem KM.lt (h : KM w b κ ks) : b < w.heap.size:=by
 obtain ⟨es,clock,hb,_⟩:=h
 exact heap_lt hb
theorem KM.block (h : KM w b κ ks) (hb : w'.heap[b]? = w.heap[b]?) : KM w' b κ ks:=by
 obtain ⟨es,clock,h1,h2⟩:=h
 exact ⟨es,clock,hb.trans h1,h2⟩
theorem KM.below (h : KM w b κ ks) (hb : Below w.heap.size w w') : KM w' b κ ks:=h.block (hb.block b h.lt)
theorem km_at {es : List MapEntry} (h : es.map (fun e => (e.key,e.val)) = ks.map fun x : Nat => (Value.int .i64 (x : Int),subV (κ x))) {j : Nat} {e : MapEntry} (he : es[j]? = some e) : ∃ x,ks[j]? = some x /\ e.key = .int .i64 (x : Int) /\ e.val = subV (κ x):=by
 have h1:=congrArg (fun l => l[j]?) h
 simp only [List.getElem?_map,he,Option.map_some] at h1
 rcases hm : ks[j]? with _ | x
 ·rw [hm] at h1; cases h1
 ·rw [hm] at h1
  simp only [Option.map_some,Option.some.injEq,Prod.mk.injEq] at h1
  exact ⟨x,rfl,h1.1,h1.2⟩
theorem km_find {es : List MapEntry} (h : es.map (fun e => (e.key,e.val)) = ks.map fun x : Nat => (Value.int .i64 (x : Int),subV (κ x))) (hok : ∀ p ∈ ks,p <= 1000000) {x : Nat} (hx : x <= 1000000) :
  ((Instr.findKey 3 (.int .i64 (x : Int)) es).run Try.prog w = .ok none w /\ x ∉ ks) \/ ∃ j : Nat,(Instr.findKey 3 (.int .i64 (x : Int)) es).run Try.prog w = .ok (some (j,subV (κ x))) w /\ ks[j]? = some x:=by
 have hkeys : ∀ e ∈ es,∃ l,keyOf Try.prog 3 e.key = some l:=fun e he => by
  obtain ⟨j,hj⟩:=List.mem_iff_getElem?.1 he
  obtain ⟨p,h1,h2,_⟩:=km_at h hj
  rw [h2]
  exact ⟨_,key_num (hok p (List.mem_of_getElem? h1))⟩
 rcases keyN.find w (key_num hx) es hkeys with ⟨h1,h2⟩ | ⟨j,e,h1,h2,h3⟩
 ·left
  refine ⟨h1,fun hp => ?_⟩
  obtain ⟨j,hj⟩:=List.mem_iff_getElem?.1 hp
  have hlen : es.length = ks.length:=by
   have:=congrArg List.length h
   simpa using this
  have hlt : j < es.length:=by rw [hlen]; exact (List.getElem?_eq_some_iff.1 hj).1
  obtain ⟨p',h4,h5,_⟩:=km_at h (List.getElem?_eq_getElem hlt)
  rw [hj] at h4
  injection h4 with h4
  subst h4
  exact h2 _ (List.getElem_mem hlt) h5
 ·right
  obtain ⟨p,h4,h5,h6⟩:=km_at h h2
  rw [h3] at h5
  injection h5 with _ h5
  obtain rfl : p = x:=by omega
  exact ⟨j,by rw [h1,h6],h4⟩
theorem und_mapK : Try.prog.underlying 151 = some (.map 3 135):=by kernel_rfl
theorem km_look (h : KM w b κ ks) (hok : ∀ p ∈ ks,p <= 1000000) {x : Nat} (hx : x ∈ ks) :
  (Instr.lookup 151 (.map (some b)) (.int .i64 (x : Int)) false).run Try.prog w = .ok (subV (κ x)) w:=by
 obtain ⟨es,clock,hb,hes⟩:=h
 rcases km_find (w:=w) hes hok (hok x hx) with ⟨r1,r2⟩ | ⟨j,r1,r2⟩
 ·exact absurd hx r2
 ·simp [Instr.lookup,run_underlying und_mapK,MapKept.run_getObj_map hb,num_check (hok x hx),r1,Result.andThen]
theorem km_put (h : KM w b κ ks) (hok : ∀ p ∈ ks,p <= 1000000) {x : Nat} (hx : x <= 1000000) :
  ∃ w',(Instr.mapUpdate 151 (.map (some b)) (.int .i64 (x : Int)) (subV (κ x))).run Try.prog w = .ok () w' /\ KM w' b κ (if x ∈ ks then ks else ks ++ [x]) /\ w.grownBy w' (some b):=by
 obtain ⟨es,clock,hb,hes⟩:=h
 rcases km_find (w:=w) hes hok hx with ⟨r1,r2⟩ | ⟨j,r1,r2⟩
 ·refine ⟨setBlock w b (.map (es.push ⟨.int .i64 (x : Int),subV (κ x),clock⟩) (clock + 1)),?_,?_,?_⟩
  ·simp [Instr.mapUpdate,run_underlying und_mapK,MapKept.run_getObj_map hb,num_check hx,r1,MapKept.run_setObj_map _ hb,Result.andThen,setBlock]
  ·rw [if_neg r2]
   refine ⟨_,_,heap_setBlock_same hb _,?_⟩
   simp [hes]
  ·exact ⟨rfl,rfl,rfl,by simp [setBlock],fun k _ hne => heap_setBlock_other hb _ (fun e => hne (by rw [e]))⟩
 ·rw [if_pos (List.mem_of_getElem? r2)]
  have hjl : j < es.size:=by
   have h1:=(List.getElem?_eq_some_iff.1 r2).1
   have h2:=congrArg List.length hes
   simp at h2
   omega
  obtain ⟨x',e1,e2,e3⟩:=km_at hes (List.getElem?_eq_getElem (by simpa using hjl) : es.toList[j]? = some _)
  rw [r2] at e1
  injection e1 with e1
  subst e1
  have hk : (Option.map (fun x => x.key) es[j]?).getD (Value.int .i64 (x : Int)) = .int .i64 (x : Int):=by
   rw [Array.getElem?_eq_getElem hjl]
   simpa using e2
  have hst : (Instr.keyThatStays (.int .i64 (x : Int)) (.int .i64 (x : Int))).run Try.prog w = .ok (.int .i64 (x : Int)) w:=by
   have h : Instr.sameBits 10000 (Value.int .i64 (x : Int)) (Value.int .i64 (x : Int)) = true:=by simp [Instr.sameBits]
   simp [Instr.keyThatStays,h]
  refine ⟨setBlock w b (.map (es.modify j fun e => { key:=.int .i64 (x : Int),val:=subV (κ x),born:=e.born }) clock),?_,?_,?_⟩
  ·simp [Instr.mapUpdate,run_underlying und_mapK,MapKept.run_getObj_map hb,num_check hx,r1,MapKept.run_setObj_map _ hb,Result.andThen,setBlock,hk,hst]
  ·refine ⟨_,_,heap_setBlock_same hb _,?_⟩
   rw [<- hes]
   apply List.ext_getElem?
   intro i
   simp only [List.getElem?_map,Array.getElem?_toList,Array.getElem?_modify]
   by_cases e : j = i
   ·subst e
    rw [if_pos rfl,Array.getElem?_eq_getElem hjl]
    have e2 : es[j].key = .int .i64 (x : Int):=by simpa using e2
    have e3 : es[j].val = subV (κ x):=by simpa using e3
    simp [e2,e3]
   ·rw [if_neg e]
  ·exact ⟨rfl,rfl,rfl,by simp [setBlock],fun k _ hne => heap_setBlock_other hb _ (fun e => hne (by rw [e]))⟩
end
end Go.Proofs.Yteehgcbjmdideab
/- Mathematics of 'numbered': classes as they are first come to. -/
namespace Go.Proofs.Yteehgcbjmdideab
open Go.RowKit
def numStep (k : List Int) (n : Nat) (S : List Nat × List ArcD) (i : Nat) : List Nat × List ArcD :=
 if gI k (1 + i * 2) = -1 then S
 else
  let t:=(gI k (1 + i * 2)).toNat
  let met:=if t ∈ S.1 then S.1 else S.1 ++ [t]
  (met,S.2 ++ [⟨(n : Int),((i + 1 : Nat) : Int),((i + 1 : Nat) : Int),(met.idxOf t : Int),gI k (1 + i * 2 + 1)⟩])
def numLets (k : List Int) (n : Nat) (S : List Nat × List ArcD) : Nat -> List Nat × List ArcD
 | 0 => S
 | i + 1 => numStep k n (numLets k n S i) i
def numN (κ : Nat -> List Int) (c0 : Nat) : Nat -> List Nat × List Int × List ArcD
 | 0 => ([c0],[],[])
 | n + 1 =>
  let S:=numN κ c0 n
  let k:=κ (S.1.getD n 0)
  let T:=numLets k n (S.1,S.2.2) 9
  (T.1,S.2.1 ++ [gI k 0],T.2)
def LeapsIn (k : List Int) (m : Nat) : Prop:=∀ i,i < 9 -> gI k (1 + i * 2) = -1 \/ ∃ t : Nat,gI k (1 + i * 2) = (t : Int) /\ t < m
def MetOk (l : List Nat) (m : Nat) : Prop:=l.Nodup /\ ∀ x ∈ l,x < m
section
variable {k : List Int} {n m : Nat} {S : List Nat × List ArcD}
theorem numStep_ok (hk : LeapsIn k m) {i : Nat} (hi : i < 9) (h : MetOk S.1 m) : MetOk (numStep k n S i).1 m /\ ∃ l,(numStep k n S i).1 = S.1 ++ l:=by
 unfold numStep
 by_cases e : gI k (1 + i * 2) = -1
 ·rw [if_pos e]; exact ⟨h,[],by simp⟩
 ·rw [if_neg e]
  obtain ⟨t,ht,htm⟩:=(hk i hi).resolve_left e
  simp only [ht,Int.toNat_natCast]
  by_cases e2 : t ∈ S.1
  ·rw [if_pos e2]; exact ⟨h,[],by simp⟩
  ·rw [if_neg e2]
   refine ⟨⟨List.nodup_append.2 ⟨h.1,by simp,fun a ha b hb e => e2 (by rw [List.mem_singleton.1 hb] at e; rw [<- e]; exact ha)⟩,fun x hx => ?_⟩,[t],rfl⟩
   rcases List.mem_append.1 hx with hx | hx
   ·exact h.2 x hx
   ·rw [List.mem_singleton.1 hx]; exact htm
theorem numLets_ok (hk : LeapsIn k m) (h : MetOk S.1 m) : ∀ i,i <= 9 -> MetOk (numLets k n S i).1 m /\ ∃ l,(numLets k n S i).1 = S.1 ++ l
 | 0,_ => ⟨h,[],by simp [numLets]⟩
 | i + 1,hi => by
  obtain ⟨h1,l,hl⟩:=numLets_ok hk h i (by omega)
  obtain ⟨h2,l2,hl2⟩:=numStep_ok (n:=n) hk (by omega : i < 9) h1
  exact ⟨h2,l ++ l2,by show (numStep k n (numLets k n S i) i).1 = _; rw [hl2,hl,List.append_assoc]⟩
end
theorem numN_ok {κ : Nat → List Int} {c0 m : Nat} (hc : c0 < m) (hk : ∀ v, v < m → LeapsIn (κ v) m) : ∀ n, (∀ j, j < n → j < (numN κ c0 j).1.length) → MetOk (numN κ c0 n).1 m ∧ (numN κ c0 n).2.1.length = n
  | 0, _ => ⟨⟨by simp [numN], fun x hx => by have : x = c0 := by simpa [numN] using hx
                                             omega⟩, rfl⟩
  | n + 1, hn => by
    obtain ⟨h1, h2⟩ := numN_ok hc hk n (fun j hj => hn j (by omega))
    have hl := hn n (by omega)
    have hv : (numN κ c0 n).1.getD n 0 < m := by
      rw [List.getD_eq_getElem?_getD, List.getElem?_eq_getElem hl]
      exact h1.2 _ (List.getElem_mem hl)
    have h3 := numLets_ok (n := n) (S := ((numN κ c0 n).1, (numN κ c0 n).2.2)) (hk _ hv) h1 9 (by omega)
    exact ⟨h3.1, by show ((numN κ c0 n).2.1 ++ [_]).length = _; rw [List.length_append, h2]; rfl⟩
theorem metOk_len {l : List Nat} {m : Nat} (h : MetOk l m) : l.length <= m:=by
 have:=List.Nodup.length_le_of_subset h.1 (fun x hx => List.mem_range.2 (h.2 x hx) : l ⊆ List.range m)
 simpa using this
end Go.Proofs.Yteehgcbjmdideab
/- What 'numbered' has in memory in its second loop. -/
namespace Go.Proofs.Yteehgcbjmdideab
open Go.RowKit Go.ChangeMaps
structure NG (w wr : World) (Mb Q Ab : Nat) (κ : Nat -> List Int) (ks : List Nat) (mv fv av : Value) (met : List Nat) (fs : List Int) (rs : List ArcD) : Prop where
 bel : Below w.heap.size w wr
 res : ZBlock wr w.heap.size
 km : KM wr Mb κ ks
 q0 : wr.cell? ⟨Q,0,none⟩ = some (.int .i64 0)
 q1 : wr.cell? ⟨Q,1,none⟩ = some (.int .i64 0)
 q2 : wr.cell? ⟨Q,2,none⟩ = some fv
 q3 : wr.cell? ⟨Q,3,none⟩ = some av
 qf : ∀ i,wr.frozen? ⟨Q,i,none⟩ = false
 mo : wr.ownsRow (Q + 1) 3 1 mv met.length (intsW (met.map fun x : Nat => (x : Int)))
 fo : wr.ownsRow (Q + 1) 3 1 fv fs.length (intsW fs)
 ao : wr.ownsRow (Q + 1) 54 5 av rs.length (arcsV rs)
 an : NumM wr Ab met.zipIdx
 hM : w.heap.size < Mb
 hQ : Mb < Q
 hA : Q < Ab
 ma : mv.ownBlock ≠ some Ab
 fa : fv.ownBlock ≠ some Ab
 aa : av.ownBlock ≠ some Ab
 mf : ∀ b,mv.ownBlock = some b -> fv.ownBlock ≠ some b
 mr : ∀ b,mv.ownBlock = some b -> av.ownBlock ≠ some b
 fr : ∀ b,fv.ownBlock = some b -> av.ownBlock ≠ some b
section
variable {w wr wx : World} {Mb Q Ab : Nat} {κ : Nat -> List Int} {ks : List Nat} {mv fv av mv' fv' av' : Value} {met : List Nat} {fs : List Int} {rs : List ArcD}
theorem NG.below (h : NG w wr Mb Q Ab κ ks mv fv av met fs rs) (hb : Below wr.heap.size wr wx) : NG w wx Mb Q Ab κ ks mv fv av met fs rs :=
 ⟨bel_on h.bel hb,heap_bel hb h.res,h.km.below hb,bel_c hb h.q0,bel_c hb h.q1,bel_c hb h.q2,bel_c hb h.q3,fun i => (hb.frozen (p:=⟨Q,i,none⟩) (cell_lt h.q0)).trans (h.qf i),ownsRow_bel h.mo hb,ownsRow_bel h.fo hb,ownsRow_bel h.ao hb,h.an.block (hb.block Ab h.an.lt),h.hM,h.hQ,h.hA,h.ma,h.fa,h.aa,h.mf,h.mr,h.fr⟩
theorem NG.final (h : NG w wr Mb Q Ab κ ks mv fv av met fs rs) {x : Int} (hg : wr.grownBy wx fv.ownBlock) (ho : wx.ownsRow (Q + 1) 3 1 fv' (fs.length + 1) (intsW fs ++ [.int .i64 x])) (hv : fv'.ownBlock = fv.ownBlock \/ fv'.ownBlock = some wr.heap.size) :
  NG w (wx.setCell ⟨Q,2,none⟩ fv') Mb Q Ab κ ks mv fv' av met (fs ++ [x]) rs:=by
 have a1:=h.hM
 have a2:=h.hQ
 have a3:=h.hA
 have hQl:=cell_lt h.q0
 have hlo : ∀ b,fv.ownBlock = some b -> Q < b:=fun b hb => own_base h.fo b hb
 have hne : ∀ b,b <= Q -> some b ≠ fv.ownBlock:=fun b hb e => by have:=hlo b e.symm; omega
 have bQ : wx.heap[Q]? = wr.heap[Q]?:=hg.block Q hQl (hne Q (Nat.le_refl _))
 have hfQ : fv'.ownBlock ≠ some Q:=fun e => by have:=own_base ho Q e; omega
 have hfb : ∀ b,fv'.ownBlock = some b -> b < wr.heap.size -> fv.ownBlock = some b:=fun b hb hl => by
  rcases hv with hv | hv
  ·rw [<- hv]; exact hb
  ·rw [hv] at hb; injection hb with hb; omega
 refine ⟨(h.bel.grown hg (by have:=h.bel.size; omega) (fun b hb => by have:=hlo b hb; omega)).setCell (p:=⟨Q,2,none⟩) (by show w.heap.size <= Q; omega) _,heap_far ((hg.block _ (heap_lt h.res) (hne _ (by omega))).trans h.res) (by omega),(h.km.block (hg.block _ h.km.lt (hne _ (by omega)))).block (Below.heap_setCell wx ⟨Q,2,none⟩ fv' Mb (by show Mb ≠ Q; omega)),?_,?_,?_,?_,fun i => by rw [World.frozen?_setCell]; exact frz_block bQ (h.qf i),?_,?_,?_,(h.an.block (hg.block _ h.an.lt (fun e => h.fa e.symm))).block (Below.heap_setCell wx ⟨Q,2,none⟩ fv' Ab (by show Ab ≠ Q; omega)),a1,a2,a3,h.ma,fun e => h.fa (hfb Ab e h.an.lt),h.aa,fun b hb e => h.mf b hb (hfb b e (ownsRow_lt0 h.mo b hb)),h.mr,fun b hb e => h.fr b (hfb b hb (ownsRow_lt0 h.ao b e)) e⟩
 ·rw [World.cell?_setCell_other _ _ _ _ (by intro e1; injection e1 with _ e2; omega)]
  exact cells_same bQ h.q0
 ·rw [World.cell?_setCell_other _ _ _ _ (by intro e1; injection e1 with _ e2; omega)]
  exact cells_same bQ h.q1
 ·exact World.cell?_setCell_same _ _ _ (cells_same bQ h.q2)
 ·rw [World.cell?_setCell_other _ _ _ _ (by intro e1; injection e1 with _ e2; omega)]
  exact cells_same bQ h.q3
 ·refine ownsRow_setCell_far (own_same h.mo fun b hb => hg.block b (ownsRow_lt0 h.mo b hb) (fun e => h.mf b hb e.symm)) (fun e => ?_)
  have:=own_base h.mo Q e
  omega
 ·have e1 : (fs ++ [x]).length = fs.length + 1:=by simp
  have e2 : intsW (fs ++ [x]) = intsW fs ++ [.int .i64 x]:=by simp [intsW]
  rw [e1,e2]
  exact ownsRow_setCell_far ho hfQ
 ·refine ownsRow_setCell_far (own_same h.ao fun b hb => hg.block b (ownsRow_lt0 h.ao b hb) (fun e => h.fr b e.symm hb)) (fun e => ?_)
  have:=own_base h.ao Q e
  omega
theorem NG.arc (h : NG w wr Mb Q Ab κ ks mv fv av met fs rs) {a : ArcD} (hg : wr.grownBy wx av.ownBlock) (ho : wx.ownsRow (Q + 1) 54 5 av' (rs.length + 1) (arcsV rs ++ arcCells a)) (hv : av'.ownBlock = av.ownBlock \/ av'.ownBlock = some wr.heap.size) :
  NG w (wx.setCell ⟨Q,3,none⟩ av') Mb Q Ab κ ks mv fv av' met fs (rs ++ [a]):=by
 have a1:=h.hM
 have a2:=h.hQ
 have a3:=h.hA
 have hQl:=cell_lt h.q0
 have hlo : ∀ b,av.ownBlock = some b -> Q < b:=fun b hb => own_base h.ao b hb
 have hne : ∀ b,b <= Q -> some b ≠ av.ownBlock:=fun b hb e => by have:=hlo b e.symm; omega
 have bQ : wx.heap[Q]? = wr.heap[Q]?:=hg.block Q hQl (hne Q (Nat.le_refl _))
 have hfQ : av'.ownBlock ≠ some Q:=fun e => by have:=own_base ho Q e; omega
 have hfb : ∀ b,av'.ownBlock = some b -> b < wr.heap.size -> av.ownBlock = some b:=fun b hb hl => by
  rcases hv with hv | hv
  ·rw [<- hv]; exact hb
  ·rw [hv] at hb; injection hb with hb; omega
 refine ⟨(h.bel.grown hg (by have:=h.bel.size; omega) (fun b hb => by have:=hlo b hb; omega)).setCell (p:=⟨Q,3,none⟩) (by show w.heap.size <= Q; omega) _,heap_far ((hg.block _ (heap_lt h.res) (hne _ (by omega))).trans h.res) (by omega),(h.km.block (hg.block _ h.km.lt (hne _ (by omega)))).block (Below.heap_setCell wx ⟨Q,3,none⟩ av' Mb (by show Mb ≠ Q; omega)),?_,?_,?_,?_,fun i => by rw [World.frozen?_setCell]; exact frz_block bQ (h.qf i),?_,?_,?_,(h.an.block (hg.block _ h.an.lt (fun e => h.aa e.symm))).block (Below.heap_setCell wx ⟨Q,3,none⟩ av' Ab (by show Ab ≠ Q; omega)),a1,a2,a3,h.ma,h.fa,fun e => h.aa (hfb Ab e h.an.lt),h.mf,fun b hb e => h.mr b hb (hfb b e (ownsRow_lt0 h.mo b hb)),fun b hb e => h.fr b hb (hfb b e (ownsRow_lt0 h.fo b hb))⟩
 ·rw [World.cell?_setCell_other _ _ _ _ (by intro e1; injection e1 with _ e2; omega)]
  exact cells_same bQ h.q0
 ·rw [World.cell?_setCell_other _ _ _ _ (by intro e1; injection e1 with _ e2; omega)]
  exact cells_same bQ h.q1
 ·rw [World.cell?_setCell_other _ _ _ _ (by intro e1; injection e1 with _ e2; omega)]
  exact cells_same bQ h.q2
 ·exact World.cell?_setCell_same _ _ _ (cells_same bQ h.q3)
 ·refine ownsRow_setCell_far (own_same h.mo fun b hb => hg.block b (ownsRow_lt0 h.mo b hb) (fun e => h.mr b hb e.symm)) (fun e => ?_)
  have:=own_base h.mo Q e
  omega
 ·refine ownsRow_setCell_far (own_same h.fo fun b hb => hg.block b (ownsRow_lt0 h.fo b hb) (fun e => h.fr b hb e.symm)) (fun e => ?_)
  have:=own_base h.fo Q e
  omega
 ·have e1 : (rs ++ [a]).length = rs.length + 1:=by simp
  have e2 : arcsV (rs ++ [a]) = arcsV rs ++ arcCells a:=by simp [arcsV]
  rw [e1,e2]
  exact ownsRow_setCell_far ho hfQ
theorem NG.meet (h : NG w wr Mb Q Ab κ ks mv fv av met fs rs) {wy : World} {t : Nat} (hg : wr.grownBy wx (some Ab)) (hn : NumM wx Ab (met.zipIdx ++ [(t,met.length)])) (hg2 : wx.grownBy wy mv.ownBlock) (ho : wy.ownsRow (Q + 1) 3 1 mv' (met.length + 1) (intsW (met.map fun x : Nat => (x : Int)) ++ [.int .i64 (t : Int)])) (hv : mv'.ownBlock = mv.ownBlock \/ mv'.ownBlock = some wx.heap.size) :
  NG w wy Mb Q Ab κ ks mv' fv av (met ++ [t]) fs rs:=by
 have a1:=h.hM
 have a2:=h.hQ
 have a3:=h.hA
 have hQl:=cell_lt h.q0
 have hlo : ∀ b,mv.ownBlock = some b -> Q < b:=fun b hb => own_base h.mo b hb
 have hsz:=hg.size
 have bk : ∀ b,b < wr.heap.size -> b ≠ Ab -> mv.ownBlock ≠ some b -> wy.heap[b]? = wr.heap[b]?:=fun b hb h1 h2 => (hg2.block b (by omega) (fun e => h2 e.symm)).trans (hg.block b hb (fun e => by injection e with e; exact h1 e))
 have hne : ∀ b,b <= Q -> mv.ownBlock ≠ some b:=fun b hb e => by have:=hlo b e; omega
 have bQ : wy.heap[Q]? = wr.heap[Q]?:=bk Q hQl (by omega) (hne Q (Nat.le_refl _))
 have hfb : ∀ b,mv'.ownBlock = some b -> b < wr.heap.size -> mv.ownBlock = some b:=fun b hb hl => by
  rcases hv with hv | hv
  ·rw [<- hv]; exact hb
  ·rw [hv] at hb; injection hb with hb; omega
 refine ⟨(h.bel.grown hg (by have:=h.bel.size; omega) (fun b hb => by injection hb with hb; omega)).grown hg2 (by have:=h.bel.size; omega) (fun b hb => by have:=hlo b hb; omega),(bk _ (heap_lt h.res) (by omega) (hne _ (by omega))).trans h.res,h.km.block (bk _ h.km.lt (by omega) (hne _ (by omega))),cells_same bQ h.q0,cells_same bQ h.q1,cells_same bQ h.q2,cells_same bQ h.q3,fun i => frz_block bQ (h.qf i),?_,own_same h.fo fun b hb => bk b (ownsRow_lt0 h.fo b hb) (fun e => h.fa (by rw [hb,e])) (fun e => h.mf b e hb),own_same h.ao fun b hb => bk b (ownsRow_lt0 h.ao b hb) (fun e => h.aa (by rw [hb,e])) (fun e => h.mr b e hb),?_,a1,a2,a3,fun e => h.ma (hfb Ab e h.an.lt),h.fa,h.aa,fun b hb e => h.mf b (hfb b hb (ownsRow_lt0 h.fo b e)) e,fun b hb e => h.mr b (hfb b hb (ownsRow_lt0 h.ao b e)) e,h.fr⟩
 ·have e1 : (met ++ [t]).length = met.length + 1:=by simp
  have e2 : intsW ((met ++ [t]).map fun x : Nat => (x : Int)) = intsW (met.map fun x : Nat => (x : Int)) ++ [.int .i64 (t : Int)]:=by simp [intsW]
  rw [e1,e2]
  exact ho
 ·rw [List.zipIdx_append]
  have:=hn.block (hg2.block Ab hn.lt (fun e => h.ma e.symm))
  simpa using this
theorem NG.start {Mb : Nat} {κ : Nat -> List Int} {ks : List Nat} {w wr : World} (hbel : Below w.heap.size w wr) (hres : ZBlock wr w.heap.size) (hkm : KM wr Mb κ ks) (hM : w.heap.size < Mb) (x : Nat) (hx : x <= 1000000) :
  ∃ Wq,(Instr.mapUpdate 69 (.map (some (wr.heap.size + 1 + 1))) (.int .i64 (x : Int)) (.int .i64 0)).run Try.prog (((wr.alloc (.cells #[.int .i64 0,.int .i64 0,.slice none 0 0,.slice none 0 0] 25)).alloc (.cells #[.int .i64 (x : Int)] 3)).alloc (.map #[] 0)) = .ok () Wq /\
   NG w Wq Mb wr.heap.size (wr.heap.size + 1 + 1) κ ks (.slice (some ⟨wr.heap.size + 1,0,none⟩) 1 1) (.slice none 0 0) (.slice none 0 0) [x] [] []:=by
 obtain ⟨W1,hW1⟩ : ∃ W,W = wr.alloc (.cells #[.int .i64 0,.int .i64 0,.slice none 0 0,.slice none 0 0] 25):=⟨_,rfl⟩
 obtain ⟨W2,hW2⟩ : ∃ W,W = W1.alloc (.cells #[.int .i64 (x : Int)] 3):=⟨_,rfl⟩
 obtain ⟨W3,hW3⟩ : ∃ W,W = W2.alloc (.map #[] 0):=⟨_,rfl⟩
 rw [<- hW1,<- hW2,<- hW3]
 have z1 : W1.heap.size = wr.heap.size + 1:=by rw [hW1]; exact one_size _ _
 have z2 : W2.heap.size = wr.heap.size + 1 + 1:=by rw [hW2,one_size,z1]
 have k1 : Below wr.heap.size wr W1:=by rw [hW1]; exact bel_up (bel_self _) _
 have k2 : Below W1.heap.size W1 W2:=by rw [hW2]; exact bel_up (bel_self _) _
 have k3 : Below W2.heap.size W2 W3:=by rw [hW3]; exact bel_up (bel_self _) _
 have hn0 : NumM W3 (wr.heap.size + 1 + 1) []:=⟨#[],0,by rw [hW3,<- z2]; exact heap_alloc_new W2 _,rfl⟩
 obtain ⟨Wq,hput,hnq,hgq⟩:=num_put (c:=0) hn0 (fun p hp => (by cases hp)) hx (fun p hp => (by cases hp))
 refine ⟨Wq,hput,?_⟩
 have hZ : W1.heap[wr.heap.size]? = some (.cells #[.int .i64 0,.int .i64 0,.slice none 0 0,.slice none 0 0] 25 (0,0)):=by rw [hW1]; exact heap_alloc_new wr _
 have hZ3:=heap_bel (bel_on k2 k3) hZ
 have bk : ∀ b,b < W3.heap.size -> b ≠ wr.heap.size + 1 + 1 -> Wq.heap[b]? = W3.heap[b]?:=fun b hb hne => hgq.block b hb (fun e => by injection e with e; exact hne e)
 have z3 : W3.heap.size = wr.heap.size + 1 + 1 + 1:=by rw [hW3,one_size,z2]
 have k13:=bel_on k1 (bel_on k2 k3)
 have hws:=hbel.size
 have hkl:=hkm.lt
 have hrl:=heap_lt hres
 have hZq : Wq.heap[wr.heap.size]? = some (.cells #[.int .i64 0,.int .i64 0,.slice none 0 0,.slice none 0 0] 25 (0,0)):=(bk _ (by omega) (by omega)).trans hZ3
 have hmo : W2.ownsRow (wr.heap.size + 1) 3 1 (.slice (some ⟨wr.heap.size + 1,0,none⟩) 1 1) 1 [.int .i64 (x : Int)]:=by
  have:=World.ownsRow_lit (base:=wr.heap.size + 1) (e:=3) (size:=1) W1 #[.int .i64 (x : Int)] 1 (by omega) (by decide) rfl
  rw [z1] at this
  rw [hW2]
  exact this
 have hmq : Wq.ownsRow (wr.heap.size + 1) 3 1 (.slice (some ⟨wr.heap.size + 1,0,none⟩) 1 1) 1 [.int .i64 (x : Int)]:=own_same (ownsRow_bel hmo k3) (fun b hb => by
  have : wr.heap.size + 1 = b:=by simpa [Value.ownBlock] using hb
  exact bk b (by omega) (by omega))
 refine ⟨(bel_on hbel k13).grown hgq (by omega) (fun b hb => by injection hb with hb; omega),(bk _ (by omega) (by omega)).trans (heap_bel k13 hres),(hkm.below k13).block (bk _ (by omega) (by omega)),?_,?_,?_,?_,fun i => Go.Joins.unfrozen_of_block hZq i,hmq,World.ownsRow_nil _ _ _ _,World.ownsRow_nil _ _ _ _,hnq,hM,hkl,by omega,?_,?_,?_,?_,?_,?_⟩
 ·rw [Go.Joins.cell_of_block hZq]; rfl
 ·rw [Go.Joins.cell_of_block hZq]; rfl
 ·rw [Go.Joins.cell_of_block hZq]; rfl
 ·rw [Go.Joins.cell_of_block hZq]; rfl
 ·simp [Value.ownBlock]
 ·simp [Value.ownBlock]
 ·simp [Value.ownBlock]
 ·intro b _ h; simp [Value.ownBlock] at h
 ·intro b _ h; simp [Value.ownBlock] at h
 ·intro b _ h; simp [Value.ownBlock] at h
end
end Go.Proofs.Yteehgcbjmdideab
/- Leaps of a kind in memory; how many arcs there are; numbers of what is met. -/
namespace Go.Proofs.Yteehgcbjmdideab
open Go.RowKit Go.ChangeMaps
theorem size_leaps : (Try.prog.info? 133).map (·.size) = some 18:=by kernel_rfl
theorem size_leap : (Try.prog.info? 132).map (·.size) = some 2:=by kernel_rfl
theorem two_of {α : Type} {l : List α} {a b : α} {k : Nat} (h1 : l[k]? = some a) (h2 : l[k + 1]? = some b) : (l.drop k).take 2 = [a,b]:=by
 apply List.ext_getElem?
 intro i
 match i with
 | 0 => simp [List.getElem?_drop,h1]
 | 1 => simp [List.getElem?_drop,h2]
 | i + 2 =>
  rw [List.getElem?_take,if_neg (by omega)]
  rfl
theorem ints_at {l : List Int} {k : Nat} (hk : k < l.length) : (intsW l)[k]? = some (.int .i64 (gI l k)):=by
 unfold intsW gI
 rw [List.getElem?_map,List.getElem?_eq_getElem hk,List.getD_eq_getElem?_getD,List.getElem?_eq_getElem hk]
 rfl
theorem index_leap {l : List Int} (hl : l.length = 19) {i : Nat} (hi : i < 9) (W : World) : (Instr.index 133 (.agg (intsW (l.drop 1)).toArray) (.int .i64 (i : Int))).run Try.prog W = .ok (.agg #[.int .i64 (gI l (1 + i * 2)),.int .i64 (gI l (1 + i * 2 + 1))]) W:=by
 obtain ⟨fs,hu,_⟩:=fields_mk fields_leap
 have hz : ∃ inf,Try.prog.info? 132 = some inf /\ inf.size = 2:=by
  have:=size_leap
  rcases e : Try.prog.info? 132 with _ | inf
  ·rw [e] at this; cases this
  ·rw [e] at this
   injection this with this
   exact ⟨inf,rfl,this⟩
 obtain ⟨inf,hinf,hsz⟩:=hz
 have hs : ∀ w : World,(sizeOf 132).run Try.prog w = .ok 2 w:=fun w => by
  simp [sizeOf,typeInfo,hinf,hsz]
 have hx : List.take 2 (List.drop (i * 2) (intsW l.tail)) = [.int .i64 (gI l (1 + i * 2)),.int .i64 (gI l (1 + i * 2 + 1))]:=by
  have e : intsW l.tail = (intsW l).drop 1:=by unfold intsW; rw [<- List.drop_one,List.map_drop]
  have h1:=ints_at (l:=l) (k:=1 + i * 2) (by omega)
  have h2:=ints_at (l:=l) (k:=1 + i * 2 + 1) (by omega)
  have h3:=two_of h1 h2
  rw [e,List.drop_drop]
  exact h3
 simp [Instr.index,asIntOf,run_underlying und_leaps,Result.andThen]
 rw [if_pos hi]
 simp [part,isAgg,run_underlying hu,hs,Result.andThen]
 exact hx
theorem range_part {w : World} {b o k : Nat} {cs : List Value} (h : w.rangeAt b o cs) : w.rangeAt b (o + k) (cs.drop k):=fun j v hv => by
 rw [List.getElem?_drop] at hv
 have:=h (k + j) v hv
 rw [<- Nat.add_assoc] at this
 exact this
section
variable {k : List Int} {n : Nat} {S : List Nat × List ArcD}
theorem numStep_ars (i : Nat) : (numStep k n S i).2.length <= S.2.length + 1:=by
 unfold numStep
 split
 ·omega
 ·simp
theorem numLets_ars : ∀ i,(numLets k n S i).2.length <= S.2.length + i
 | 0 => Nat.le_refl _
 | i + 1 => by
  have h1:=numStep_ars (k:=k) (n:=n) (S:=numLets k n S i) i
  have h2:=numLets_ars i
  show (numStep k n (numLets k n S i) i).2.length <= _
  omega
end
theorem numN_ars (κ : Nat -> List Int) (c0 : Nat) : ∀ n,(numN κ c0 n).2.2.length <= 9 * n
 | 0 => Nat.le_refl _
 | n + 1 => by
  have h1:=numN_ars κ c0 n
  have h2:=numLets_ars (k:=κ ((numN κ c0 n).1.getD n 0)) (n:=n) (S:=((numN κ c0 n).1,(numN κ c0 n).2.2)) 9
  show (numLets (κ ((numN κ c0 n).1.getD n 0)) n ((numN κ c0 n).1,(numN κ c0 n).2.2) 9).2.length <= _
  dsimp only at h2
  omega
theorem own_len {w : World} {B e size n m c : Nat} {a : Option Addr} {xs : List Value} (h : w.ownsRow B e size (.slice a n c) m xs) : n = m:=by
 obtain ⟨a',c',e⟩:=own_slice h
 injection e
theorem grown_alloc {w w' : World} {row : Option Nat} (h : w.grownBy w' row) (o : Obj) : w.grownBy (w'.alloc o) row :=
 have hb : Below w'.heap.size w' (w'.alloc o):=bel_up (bel_self _) _
 ⟨hb.os.trans h.os,hb.tape.trans h.tape,hb.output.trans h.output,Nat.le_trans h.size hb.size,fun k hk hne => (hb.block k (Nat.lt_of_lt_of_le hk h.size)).trans (h.block k hk hne)⟩
theorem zip_mem {met : List Nat} {x c : Nat} (hn : met.Nodup) (h : (x,c) ∈ met.zipIdx) : c = met.idxOf x /\ x ∈ met:=by
 have h1:=List.mem_zipIdx_iff_getElem?.1 h
 dsimp only at h1
 obtain ⟨h2,h3⟩:=List.getElem?_eq_some_iff.1 h1
 refine ⟨?_,List.mem_of_getElem? h1⟩
 rw [<- h3]
 exact (List.Nodup.idxOf_getElem hn c h2).symm
theorem zip_not {met : List Nat} {x : Nat} (h : ∀ p ∈ met.zipIdx,p.1 ≠ x) : x ∉ met:=fun hx => by
 obtain ⟨j,hj⟩:=List.mem_iff_getElem?.1 hx
 exact h (x,j) (List.mem_zipIdx_iff_getElem?.2 hj) rfl
theorem zip_le {met : List Nat} {m : Nat} (h : ∀ x ∈ met,x < m) (hm : m <= 1000000) : ∀ p ∈ met.zipIdx,p.1 <= 1000000:=fun p hp => by
 have h1:=List.mem_zipIdx_iff_getElem?.1 hp
 have:=h p.1 (List.mem_of_getElem? h1)
 omega
end Go.Proofs.Yteehgcbjmdideab
