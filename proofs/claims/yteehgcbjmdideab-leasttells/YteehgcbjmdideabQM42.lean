/- 'state' of the document (the closure of LeastOf): the number of a beginning,one more if it goes on like none of those there. (Made by wip/gen/lob.py.) -/
import Derived.Test.YteehgcbjmdideabQM40
import Derived.Test.YteehgcbjmdideabQM41
import Derived.Test.YteehgcbjmdideabQM31
import Derived.Test.YteehgcbjmdideabQM15
set_option maxRecDepth 100000
namespace Go.Proofs.Yteehgcbjmdideab
open Go.RowKit
attribute [local go_sem ↓] Go.wp_at_zero Go.wp_at_succ
theorem tow_bound {t : FstD} {N s0 : Nat} {ws cs : List (List Int)} {ps ls : List Int} (hT : Whole t N s0 ws cs ps ls) {u : List Int} {b : Int} (h : MinP (ToW t s0 u) b) : -1 <= b /\ b <= 300000000000:=by
 rcases h with ⟨e,_⟩ | ⟨h0,⟨v,hv⟩,h2⟩
 ·omega
 ·have hm : MinP (EndP t s0 (v ++ u)) b:=Or.inr ⟨h0,hv,fun y hy => h2 y ⟨v,hy⟩⟩
  obtain ⟨i,hi⟩:=List.mem_iff_getElem?.1 (hT.tree.whole hT.sin _ (tow_alive ⟨[],hv⟩))
  obtain ⟨V,hV,hVl,hE,hVb⟩:=hT.tree.enc i _ hi
  have:=(List.getElem?_eq_some_iff.1 hi).1
  have:=hT.few
  exact minEnd_bound hT.sin hE hVb (by omega) hm
def StRes (t : FstD) (s0 : Nat) (ws : List (List Int)) (C : List Int -> Nat) (W0 W : World) (B4 B6 N : Nat) (fin arcs cv pv lv fv bv : Value) (is : List Nat) (bs : List Int) (fw : List (List Int)) (i : Nat) (u : List Int) (e : Ending) (w' : World) : Prop :=
 ∃ (r : Nat) (fv' bv' : Value) (is' : List Nat) (bs' : List Int) (fw' : List (List Int)),e = .returned (.int .i64 (r : Int)) /\ LS W0 w' B4 B6 N s0 fin arcs cv pv lv fv' bv' is' bs' /\ FBs t s0 ws C is' bs' fw' /\ LStep B6 W fv bv w' fv' bv' /\
  ((C u ∈ fw.map C /\ r = (fw.map C).idxOf (C u) /\ is' = is /\ bs' = bs /\ fw' = fw) \/ (C u ∉ fw.map C /\ r = fw.length /\ is' = is ++ [i] /\ fw' = fw ++ [u]))
theorem idx_of {l : List Nat} {a n : Nat} (hn : l.Nodup) (h : l[n]? = some a) : l.idxOf a = n:=by
 obtain ⟨h1,h2⟩:=List.getElem?_eq_some_iff.1 h
 rw [<- h2]
 exact List.Nodup.idxOf_getElem hn n h1
set_option maxHeartbeats 6400000 in
theorem state_any (t : FstD) (N s0 : Nat) (fin arcs cv pv lv : Value) (ws cs : List (List Int)) (ps ls : List Int) (C : List Int -> Nat) (κ : Nat -> List Int) (W0 : World) (B4 B6 : Nat) (hT : Whole t N s0 ws cs ps ls) (hlv : LiveW t s0) (hD : DocTab t s0 C κ) (hwv : WV W0 t N fin arcs cv pv lv cs ps ls)
  (i : Nat) (u : List Int) (W : World) (fv bv : Value) (is : List Nat) (bs : List Int) (fw : List (List Int)) (hu : ws[i]? = some u) (hL : LS W0 W B4 B6 N s0 fin arcs cv pv lv fv bv is bs) (hF : FBs t s0 ws C is bs fw) (hal : ∀ u ∈ fw,Alive t s0 u) (hlen : is.length <= 300) :
  Calls Try.prog 48 #[.int .i64 (i : Int),.pointer (some ⟨B4,0,none⟩),.pointer (some ⟨B6,0,none⟩),.pointer (some ⟨B6 + 1,0,none⟩)] W fun e w' => StRes t s0 ws C W0 W B4 B6 N fin arcs cv pv lv fv bv is bs fw i u e w':=by
 have hua : Alive t s0 u:=hT.tree.live u (List.mem_of_getElem? hu)
 have hiw:=(List.getElem?_eq_some_iff.1 hu).1
 have hpl:=hT.tree.l2
 have hfew:=hT.few
 have hbe:=best_any t N s0 fin arcs cv pv lv ws cs ps ls hT (ps.length + 1) i u W (by omega) hu (hL.wv hwv)
 have HAL : Hid (∀ (k : Nat) (v : List Int) (x y : Int) (V : World),ws[k]? = some v -> (-10000000000000 <= x /\ x <= 10000000000000) -> (-10000000000000 <= y /\ y <= 10000000000000) -> Below W0.heap.size W0 V -> Calls Try.prog 49 #[.agg #[.int .i64 (N : Int),.int .i64 (s0 : Int),fin,arcs,cv,pv,lv],.int .i64 (k : Int),.agg #[.int .i64 (N : Int),.int .i64 (s0 : Int),fin,arcs,cv,pv,lv],.int .i64 (i : Int),.int .i64 x,.int .i64 y] V fun e w' => ∃ b,e = .returned (.bool b) /\ (b = true ↔ AlikeP t s0 v t s0 u x y) /\ Below V.heap.size V w'):=fun k v x y V hk hx hy hV => alike_any t t N s0 N s0 fin arcs cv pv lv fin arcs cv pv lv ws cs ws cs ps ls ps ls hT hT hlv hlv x y hx hy (ps.length + 1) k i v u V (by omega) hk hu (hwv.below hV) (hwv.below hV)
 obtain ⟨gP,kP,ePP,_⟩:=hwv.P
 obtain ⟨gL,kL,eLL,_⟩:=hwv.L
 obtain ⟨gC,kC,eCC,_⟩:=hwv.C
 obtain ⟨fa,fn,fc,rfl,_,_⟩:=hwv.fin.lenOf
 obtain ⟨aa,am,ac,rfl,_,_⟩:=hwv.arcs.lenOf
 obtain ⟨xa,xn,xc,rfl⟩ : ∃ a n c,cv = .slice a n c:=⟨_,_,_,eCC⟩
 obtain ⟨pa,pn,pc,rfl⟩ : ∃ a n c,pv = .slice a n c:=⟨_,_,_,ePP⟩
 obtain ⟨la,ln,lc,rfl⟩ : ∃ a n c,lv = .slice a n c:=⟨_,_,_,eLL⟩
 clear ePP eLL eCC
 have HT:=hid_of hT
 have HD:=hid_of hD
 have HU:=hid_of (And.intro hu hua)
 have HF:=hid_of hF
 have HFA:=hid_of hal
 have q0:=hL.c4 0 _ rfl
 have q1:=hL.c4 1 _ rfl
 have q2:=hL.c4 2 _ rfl
 have q3:=hL.c4 3 _ rfl
 have q4:=hL.c4 4 _ rfl
 have q5:=hL.c4 5 _ rfl
 have q6:=hL.c4 6 _ rfl
 have HLS:=hid_of hL
 clear hT hD hu hua hF hwv hlv hal hL hpl hfew
 go_enter Try.func48,Try.ntmps48
 go_wp2_with (go_at_call 47; refine hbe.mono ?_; rintro e w1 ⟨b,rfl,hb,hbl⟩; clear hbe q0 q1 q2 q3 q4 q5 q6; have HB:=hid_of hb; have hL1:=HLS.out.below hbl; have HS1:=hid_of (LStep.below HLS.out hbl); have HBW:=hid_of hbl; have hb1:=tow_bound HT.out hb; clear hb hbl)
 go_loopw [7] (fun t7 wx => ∃ n : Nat,n <= is.length /\ t7 = .int .i64 (n : Int) /\ LS W0 wx B4 B6 N s0 (.slice fa fn fc) (.slice aa am ac) (.slice xa xn xc) (.slice pa pn pc) (.slice la ln lc) fv bv is bs /\ Below W.heap.size W wx /\ ∀ j,j < n -> (fw.map C)[j]? ≠ some (C u)) (fun t7 _ => is.length - (intOf t7).toNat)
 case atStart => exact ⟨0,Nat.zero_le _,rfl,hL1,HBW.out,fun j hj => absurd hj (Nat.not_lt_zero _)⟩
 case round =>
  clear hL1 HS1
  obtain ⟨n,hn,rfl,hL,hbw,hno⟩:=hrel
  have hnw : IntKind.i64.wrap ((n : Int) + 1) = (n : Int) + 1:=wrap_in _ (by omega) (by omega)
  obtain ⟨f6,k6,rfl⟩:=own_slice hL.fo
  obtain ⟨f7,k7,rfl⟩:=own_slice hL.bo
  have c6:=hL.c6
  have c7:=hL.c7
  have hlb:=HF.out.l1
  by_cases hlt : n < is.length
  ·have hni : (n : Int) < (is.length : Int):=by omega
   have HNO:=hid_of hno
   obtain ⟨g6,rfl⟩ : ∃ b,f6 = some ⟨b,0,none⟩:=by
    obtain ⟨_,h1⟩:=hL.fo
    rcases h1 with ⟨h1,h2⟩ | ⟨g,cap,cur,h1,_⟩
    ·omega
    ·injection h1 with h1 _ _
     exact ⟨g,h1⟩
   obtain ⟨g7,rfl⟩ : ∃ b,f7 = some ⟨b,0,none⟩:=by
    obtain ⟨_,h1⟩:=hL.bo
    rcases h1 with ⟨h1,h2⟩ | ⟨g,cap,cur,h1,_⟩
    ·omega
    ·injection h1 with h1 _ _
     exact ⟨g,h1⟩
   obtain ⟨j,hj⟩ : ∃ j,is[n]? = some j:=⟨_,List.getElem?_eq_getElem hlt⟩
   obtain ⟨v,x,hv1,hv2,hv3,hv4⟩:=HF.out.at' n j hj
   have cj : wr.cell? ⟨g6,n,none⟩ = some (.int .i64 (j : Int)):=own_cell hL.fo (by unfold natsW intsW; rw [List.map_map,List.getElem?_map,hj]; rfl)
   have cx : wr.cell? ⟨g7,n,none⟩ = some (.int .i64 x):=own_cell hL.bo (by unfold intsW; rw [List.getElem?_map,hv3]; rfl)
   have hxb:=tow_bound HT.out hv4
   obtain ⟨m6,hm6⟩ : ∃ m,m = is.length:=⟨_,rfl⟩
   obtain ⟨m7,hm7⟩ : ∃ m,m = bs.length:=⟨_,rfl⟩
   have HV:=hid_of (And.intro hv1 (And.intro hv2 hv4))
   rw [<- hm6] at c6 hni
   rw [<- hm7] at c7
   have hni7 : (n : Int) < (m7 : Int):=by omega
   have hS0 : (fun wx : World => wx.cell? ⟨B4,0,none⟩ = some (.int .i64 (N : Int)) /\ wx.cell? ⟨B4,1,none⟩ = some (.int .i64 (s0 : Int)) /\ wx.cell? ⟨B4,2,none⟩ = some (.slice fa fn fc) /\ wx.cell? ⟨B4,3,none⟩ = some (.slice aa am ac) /\ wx.cell? ⟨B4,4,none⟩ = some (.slice xa xn xc) /\ wx.cell? ⟨B4,5,none⟩ = some (.slice pa pn pc) /\ wx.cell? ⟨B4,6,none⟩ = some (.slice la ln lc) /\ wx.cell? ⟨B6,0,none⟩ = some (.slice (some ⟨g6,0,none⟩) m6 k6) /\ wx.cell? ⟨B6 + 1,0,none⟩ = some (.slice (some ⟨g7,0,none⟩) m7 k7) /\ wx.cell? ⟨g6,n,none⟩ = some (.int .i64 (j : Int)) /\ wx.cell? ⟨g7,n,none⟩ = some (.int .i64 x)) wr.drew:=⟨drew_cell (hL.c4 0 _ rfl),drew_cell (hL.c4 1 _ rfl),drew_cell (hL.c4 2 _ rfl),drew_cell (hL.c4 3 _ rfl),drew_cell (hL.c4 4 _ rfl),drew_cell (hL.c4 5 _ rfl),drew_cell (hL.c4 6 _ rfl),drew_cell c6,drew_cell c7,drew_cell cj,drew_cell cx⟩
   obtain ⟨Wd,hWd⟩ : ∃ W,W = wr.drew:=⟨_,rfl⟩
   have hbd : Below wr.heap.size wr Wd:=by rw [hWd]; exact (bel_self wr).drew
   have hLd:=hL.below hbd
   rw [<- hWd] at hS0
   have hca:=HAL.out j v x b Wd hv1 (by omega) (by omega) hLd.bel
   have HLW:=hid_of (And.intro hLd (bel_on hbw hbd))
   have HWD:=hid_of hWd
   clear hj hv1 hv2 hv3 hv4 cj cx hL hLd hbw hbd hWd hm6 hm7 hno c7 hlb
   go_wp2
   refine wp_region_noPanic ?_
   refine wp_region_F (fun wx : World => wx.cell? ⟨B4,0,none⟩ = some (.int .i64 (N : Int)) /\ wx.cell? ⟨B4,1,none⟩ = some (.int .i64 (s0 : Int)) /\ wx.cell? ⟨B4,2,none⟩ = some (.slice fa fn fc) /\ wx.cell? ⟨B4,3,none⟩ = some (.slice aa am ac) /\ wx.cell? ⟨B4,4,none⟩ = some (.slice xa xn xc) /\ wx.cell? ⟨B4,5,none⟩ = some (.slice pa pn pc) /\ wx.cell? ⟨B4,6,none⟩ = some (.slice la ln lc) /\ wx.cell? ⟨B6,0,none⟩ = some (.slice (some ⟨g6,0,none⟩) m6 k6) /\ wx.cell? ⟨B6 + 1,0,none⟩ = some (.slice (some ⟨g7,0,none⟩) m7 k7) /\ wx.cell? ⟨g6,n,none⟩ = some (.int .i64 (j : Int)) /\ wx.cell? ⟨g7,n,none⟩ = some (.int .i64 x)) [] (by kernel_rfl) (by rw [<- HWD.out]; exact hS0) (fun _ => ?_)
   rw [<- HWD.out]
   clear HWD
   refine tkF (i:=0) (v:=.agg #[.int .i64 (N : Int),.int .i64 (s0 : Int),.slice fa fn fc,.slice aa am ac,.slice xa xn xc,.slice pa pn pc,.slice la ln lc]) rfl (by kernel_rfl) (fun _ _ _ h => h) (by rfl) hS0 (fun wl hSw => ?_) ?_
   ·(try dsimp only at hSw); obtain ⟨o0,o1,o2,o3,o4,o5,o6,o7,o8,o9,o10⟩:=hSw; go_simp
   go_simp
   refine tkF (i:=1) (v:=.slice (some ⟨g6,0,none⟩) m6 k6) rfl (by kernel_rfl) (fun _ _ _ h => h) (by rfl) hS0 (fun wl hSw => ?_) ?_
   ·(try dsimp only at hSw); obtain ⟨o0,o1,o2,o3,o4,o5,o6,o7,o8,o9,o10⟩:=hSw; go_simp
   go_simp
   refine tkF (i:=2) (v:=.int .i64 (n : Int)) rfl (by kernel_rfl) (fun _ _ _ h => h) (by rfl) hS0 (fun wl hSw => ?_) ?_
   ·(try dsimp only at hSw); obtain ⟨o0,o1,o2,o3,o4,o5,o6,o7,o8,o9,o10⟩:=hSw; go_simp
   go_simp
   refine tkF (i:=3) (v:=.pointer (some ⟨g6,n,none⟩)) rfl (by kernel_rfl) (fun _ _ _ h => h) (by rfl) hS0 (fun wl hSw => ?_) ?_
   ·(try dsimp only at hSw); obtain ⟨o0,o1,o2,o3,o4,o5,o6,o7,o8,o9,o10⟩:=hSw; go_simp
   go_simp
   refine tkF (i:=4) (v:=.int .i64 (j : Int)) rfl (by kernel_rfl) (fun _ _ _ h => h) (by rfl) hS0 (fun wl hSw => ?_) ?_
   ·(try dsimp only at hSw); obtain ⟨o0,o1,o2,o3,o4,o5,o6,o7,o8,o9,o10⟩:=hSw; go_simp
   go_simp
   refine tkF (i:=5) (v:=.agg #[.int .i64 (N : Int),.int .i64 (s0 : Int),.slice fa fn fc,.slice aa am ac,.slice xa xn xc,.slice pa pn pc,.slice la ln lc]) rfl (by kernel_rfl) (fun _ _ _ h => h) (by rfl) hS0 (fun wl hSw => ?_) ?_
   ·(try dsimp only at hSw); obtain ⟨o0,o1,o2,o3,o4,o5,o6,o7,o8,o9,o10⟩:=hSw; go_simp
   go_simp
   refine tkF (i:=6) (v:=.int .i64 (i : Int)) rfl (by kernel_rfl) (fun _ _ _ h => h) (by rfl) hS0 (fun wl hSw => ?_) ?_
   ·(try dsimp only at hSw); obtain ⟨o0,o1,o2,o3,o4,o5,o6,o7,o8,o9,o10⟩:=hSw; go_simp
   go_simp
   refine tkF (i:=7) (v:=.slice (some ⟨g7,0,none⟩) m7 k7) rfl (by kernel_rfl) (fun _ _ _ h => h) (by rfl) hS0 (fun wl hSw => ?_) ?_
   ·(try dsimp only at hSw); obtain ⟨o0,o1,o2,o3,o4,o5,o6,o7,o8,o9,o10⟩:=hSw; go_simp
   go_simp
   refine tkF (i:=8) (v:=.int .i64 (n : Int)) rfl (by kernel_rfl) (fun _ _ _ h => h) (by rfl) hS0 (fun wl hSw => ?_) ?_
   ·(try dsimp only at hSw); obtain ⟨o0,o1,o2,o3,o4,o5,o6,o7,o8,o9,o10⟩:=hSw; go_simp
   go_simp
   refine tkF (i:=9) (v:=.pointer (some ⟨g7,n,none⟩)) rfl (by kernel_rfl) (fun _ _ _ h => h) (by rfl) hS0 (fun wl hSw => ?_) ?_
   ·(try dsimp only at hSw); obtain ⟨o0,o1,o2,o3,o4,o5,o6,o7,o8,o9,o10⟩:=hSw; go_simp
   go_simp
   refine tkF (i:=10) (v:=.int .i64 x) rfl (by kernel_rfl) (fun _ _ _ h => h) (by rfl) hS0 (fun wl hSw => ?_) ?_
   ·(try dsimp only at hSw); obtain ⟨o0,o1,o2,o3,o4,o5,o6,o7,o8,o9,o10⟩:=hSw; go_simp
   go_simp
   refine tkF (i:=11) (v:=.int .i64 b) rfl (by kernel_rfl) (fun _ _ _ h => h) (by rfl) hS0 (fun wl hSw => ?_) ?_
   ·(try dsimp only at hSw); obtain ⟨o0,o1,o2,o3,o4,o5,o6,o7,o8,o9,o10⟩:=hSw; go_simp
   go_simp
   refine wpAnyF_one (i:=12) rfl (by kernel_rfl) (fun Kc hKc => ?_)
   go_simp
   refine hca.mono ?_
   rintro e w4 ⟨bb,rfl,hbb,hb4⟩
   have HB4:=hid_of (And.intro hbb hb4)
   clear hca hbb
   refine hKc.out _ _ ⟨fun _ => ⟨bel_c hb4 hS0.1,bel_c hb4 hS0.2.1,bel_c hb4 hS0.2.2.1,bel_c hb4 hS0.2.2.2.1,bel_c hb4 hS0.2.2.2.2.1,bel_c hb4 hS0.2.2.2.2.2.1,bel_c hb4 hS0.2.2.2.2.2.2.1,bel_c hb4 hS0.2.2.2.2.2.2.2.1,bel_c hb4 hS0.2.2.2.2.2.2.2.2.1,bel_c hb4 hS0.2.2.2.2.2.2.2.2.2.1,bel_c hb4 hS0.2.2.2.2.2.2.2.2.2.2⟩,?_⟩
   clear hKc Kc hb4
   refine wpAnyF_done (by kernel_rfl) ?_ _
   refine NoPanic.normal ?_
   clear hS0
   have HCV : Hid (bb = true ↔ C v = C u):=by
    rw [HB4.out.1]
    exact HD.out.alike v u x b (HFA.out v (List.mem_of_getElem? HV.out.2.1)) HU.out.2 HV.out.2.2 HB.out
   have HMV : Hid ((fw.map C)[n]? = some (C v)):=by
    rw [List.getElem?_map,HV.out.2.1]
    rfl
   have HL4:=hid_of (And.intro (HLW.out.1.below HB4.out.2) (bel_on HLW.out.2 HB4.out.2))
   clear HV HB4 HLW
   cases bb
   ·go_wp2
    go_roundw
    case rel =>
     refine ⟨n + 1,by omega,by go_num,HL4.out.1,HL4.out.2,fun j hj => ?_⟩
     by_cases e : j = n
     ·subst e
      rw [HMV.out]
      intro e2
      injection e2 with e2
      have:=HCV.out.2 e2
      cases this
     ·exact HNO.out j (by omega)
    case measure => simp [intOf]; omega
   ·go_wp2
    go_ret
    have e : C v = C u:=by simpa using HCV.out
    have hm:=HMV.out
    rw [e] at hm
    exact ⟨n,_,_,is,bs,fw,rfl,HL4.out.1,HF.out,LStep.below HLS.out HL4.out.2,Or.inl ⟨List.mem_of_getElem? hm,(idx_of HF.out.nd hm).symm,rfl,rfl,rfl⟩⟩
  ·obtain rfl : n = is.length:=by omega
   have hni : ¬ (is.length : Int) < is.length:=by omega
   have hnm : C u ∉ fw.map C:=fun hm => by
    obtain ⟨j,hj⟩:=List.mem_iff_getElem?.1 hm
    have h1:=(List.getElem?_eq_some_iff.1 hj).1
    have h2:=HF.out.l2
    rw [List.length_map] at h1
    exact hno j (by omega) hj
   have HNM:=hid_of hnm
   have hbl3 : bs.length <= 300:=by omega
   obtain ⟨m6,hm6⟩ : ∃ m,m = is.length:=⟨_,rfl⟩
   obtain ⟨m7,hm7⟩ : ∃ m,m = bs.length:=⟨_,rfl⟩
   have HM67:=hid_of (And.intro hm6 hm7)
   have h63 : m6 <= 300:=by omega
   have h73 : m7 <= 300:=by omega
   have hqi : ((m6 : Int) + 1 - 1) = m6:=by omega
   have hqw : IntKind.i64.wrap ((m6 : Int)) = (m6 : Int):=wrap_in _ (by omega) (by omega)
   have hni : ¬ (is.length : Int) < m6:=by omega
   obtain ⟨Wd,hWd⟩ : ∃ W,W = wr.drew:=⟨_,rfl⟩
   have hbd : Below wr.heap.size wr Wd:=by rw [hWd]; exact (bel_self wr).drew
   have hLd:=hL.below hbd
   have hs3:=cell_lt hLd.c7
   rw [<- hm6,<- hm7] at hLd
   have hS0 : (fun wx : World => wx.cell? ⟨B6,0,none⟩ = some (.slice f6 m6 k6) /\ wx.cell? ⟨B6 + 1,0,none⟩ = some (.slice f7 m7 k7)) Wd:=⟨hLd.c6,hLd.c7⟩
   have HWD:=hid_of hWd
   have hbw2:=bel_on hbw hbd
   have HPUT : Hid (∀ (W1 W2 W3 W4 : World) (fv' bv' : Value),Below Wd.heap.size Wd W1 -> W1.grownBy W2 (Value.slice f6 m6 k6).ownBlock -> W2.ownsRow (B6 + 2) 3 1 fv' (m6 + 1) (natsW is ++ [.int .i64 (i : Int)]) -> (fv'.ownBlock = (Value.slice f6 m6 k6).ownBlock \/ fv'.ownBlock = some W1.heap.size) -> Below W2.heap.size W2 W3 -> W3.grownBy W4 (Value.slice f7 m7 k7).ownBlock -> W4.ownsRow (B6 + 2) 3 1 bv' (m7 + 1) (intsW bs ++ [.int .i64 b]) -> (bv'.ownBlock = (Value.slice f7 m7 k7).ownBlock \/ bv'.ownBlock = some W3.heap.size) -> (StRes t s0 ws C W0 W B4 B6 N (.slice fa fn fc) (.slice aa am ac) (.slice xa xn xc) (.slice pa pn pc) (.slice la ln lc) (.slice f6 is.length k6) (.slice f7 bs.length k7) is bs fw i u (.returned (.int .i64 (m6 : Int))) ((W4.setCell ⟨B6,0,none⟩ fv').setCell ⟨B6 + 1,0,none⟩ bv')) /\ W4.cell? ⟨B6,0,none⟩ = some (.slice f6 m6 k6) /\ W4.frozen? ⟨B6,0,none⟩ = false /\ W4.cell? ⟨B6 + 1,0,none⟩ = some (.slice f7 m7 k7) /\ W4.frozen? ⟨B6 + 1,0,none⟩ = false):=fun W1 W2 W3 W4 fv' bv' h1 h2 h3 h4 h5 h6 h7 h8 => by
    obtain ⟨p1,p2,p3⟩:=hLd.put h1 h2 (by rw [<- HM67.out.1]; exact h3) h4 h5 h6 (by rw [<- HM67.out.2]; exact h7) h8
    refine ⟨⟨m6,fv',bv',_,_,_,rfl,p1,HF.out.put HU.out.1 HB.out HNM.out,?_,Or.inr ⟨HNM.out,by rw [HF.out.l2]; exact HM67.out.1,rfl,rfl⟩⟩,p3⟩
    rw [HM67.out.1,HM67.out.2] at p2
    refine ⟨?_,fun c hl n6 n7 n1 n2 => ?_,fun g e => ?_,fun g e => ?_⟩
    ·have:=p2.size; have:=hbw2.size; omega
    ·rw [p2.block c (by have:=hbw2.size; omega) n6 n7 n1 n2]
     exact hbw2.block c hl
    ·rcases p2.ownf g e with h | h
     ·exact Or.inl h
     ·right; have:=hbw2.size; omega
    ·rcases p2.ownb g e with h | h
     ·exact Or.inl h
     ·right; have:=hbw2.size; omega
   have HMID : Hid (∀ (W1 W2 W3 : World),Below Wd.heap.size Wd W1 -> W1.grownBy W2 (Value.slice f6 m6 k6).ownBlock -> Below W2.heap.size W2 W3 -> W3.ownsRow (B6 + 2) 3 1 (Value.slice f7 m7 k7) m7 (intsW bs) /\ (fun wx : World => wx.cell? ⟨B6,0,none⟩ = some (.slice f6 m6 k6) /\ wx.cell? ⟨B6 + 1,0,none⟩ = some (.slice f7 m7 k7)) W2 /\ (fun wx : World => wx.cell? ⟨B6,0,none⟩ = some (.slice f6 m6 k6) /\ wx.cell? ⟨B6 + 1,0,none⟩ = some (.slice f7 m7 k7)) W3 /\ B6 + 2 <= W3.heap.size):=fun W1 W2 W3 h1 h2 h3 => by
    have h4:=hLd.mid h1 h2 h3
    have hL1:=hLd.below h1
    have ne : ∀ c,c < B6 + 2 -> some c ≠ (Value.slice f6 m6 k6).ownBlock:=fun c hc e => by have:=own_base hL1.fo c e.symm; omega
    have e6:=cells_same (h2.block _ (cell_lt hL1.c6) (ne _ (by omega))) hL1.c6
    have e7:=cells_same (h2.block _ (cell_lt hL1.c7) (ne _ (by omega))) hL1.c7
    exact ⟨by rw [HM67.out.2] at h4 ⊢; exact h4,⟨e6,e7⟩,⟨bel_c h3 e6,bel_c h3 e7⟩,by have:=cell_lt (bel_c h3 e7); omega⟩
   have HFO : Hid (∀ (W1 : World),Below Wd.heap.size Wd W1 -> W1.ownsRow (B6 + 2) 3 1 (Value.slice f6 m6 k6) m6 (natsW is) /\ (fun wx : World => wx.cell? ⟨B6,0,none⟩ = some (.slice f6 m6 k6) /\ wx.cell? ⟨B6 + 1,0,none⟩ = some (.slice f7 m7 k7)) W1 /\ B6 + 2 <= W1.heap.size):=fun W1 h1 => by
    have hL1:=hLd.below h1
    have h4:=hL1.fo
    exact ⟨by rw [HM67.out.1] at h4 ⊢; exact h4,⟨hL1.c6,hL1.c7⟩,by have:=cell_lt hL1.c7; omega⟩
   have HLT : Hid (∀ c,(Value.slice f6 m6 k6).ownBlock = some c -> c < Wd.heap.size):=fun c e => ownsRow_lt0 hLd.fo c e
   obtain ⟨i0,hi0,hz0,hz1,hz2⟩:=info_parts Try.info3
   rw [<- hm6] at c6
   clear hL hLd hbw hbd hno hnm hlb hm6 hm7 hWd hlen hbl3 c7 hn hnw
   go_upto_region 7 with fail
   refine wp_region_noPanic ?_
   refine wp_region_F (fun wx : World => wx.cell? ⟨B6,0,none⟩ = some (.slice f6 m6 k6) /\ wx.cell? ⟨B6 + 1,0,none⟩ = some (.slice f7 m7 k7)) [8,9] (by kernel_rfl) (by rw [<- HWD.out]; exact hS0) (fun _ => ?_)
   rw [<- HWD.out]
   clear HWD
   refine tkF (i:=0) (v:=.slice f6 m6 k6) rfl (by kernel_rfl) (fun _ _ _ h => h) (by rfl) hS0 (fun wl hSw => ?_) ?_
   ·(try dsimp only at hSw); (try obtain ⟨o0,o1⟩:=hSw); go_simp
   go_simp
   refine tkF (i:=1) (v:=.int .i64 (i : Int)) rfl (by kernel_rfl) (fun _ _ _ h => h) (by rfl) hS0 (fun wl hSw => ?_) ?_
   ·(try dsimp only at hSw); (try obtain ⟨o0,o1⟩:=hSw); go_simp
   go_simp
   refine wpAnyF_take2 7 (i:=4) (v:=.slice f7 m7 k7) rfl (by kernel_rfl) (by kernel_rfl) (by kernel_rfl) (by kernel_rfl) (fun _ _ _ h => h) (Or.inl ⟨by rfl,fun wl hSw => ?_⟩) hS0 ?_
   ·(try dsimp only at hSw); (try obtain ⟨o0,o1⟩:=hSw); go_simp
   go_simp
   refine wpAnyF_free (i:=5) (v:=.int .i64 b) rfl (by kernel_rfl) (by kernel_rfl) (by kernel_rfl) (by kernel_rfl) (fun _ _ _ h => h) (Or.inl ⟨by rfl,fun wl hSw => ?_⟩) hS0 ?_
   ·(try dsimp only at hSw); (try obtain ⟨o0,o1⟩:=hSw); go_simp
   go_simp
   refine wpAnyF_pair (i:=2) (j:=6) rfl rfl (by kernel_rfl) (fun Kc hKc => ?_) (fun Kc hKc => ?_)
   ·go_simp
    obtain ⟨X1,hX1⟩ : ∃ X,X = Wd.alloc (.cells #[.int .i64 (i : Int)] 3):=⟨_,rfl⟩
    have cX1 : ∀ j u,[Value.int .i64 (i : Int)][j]? = some u -> X1.cell? ((⟨Wd.heap.size,0,none⟩ : Addr).add j) = some u:=by rw [hX1]; exact cells_new Wd #[.int .i64 (i : Int)] 3 _ rfl
    have bX1 : Below Wd.heap.size Wd X1:=by rw [hX1]; exact bel_up (bel_self _) _
    have sX1 : Wd.heap.size < X1.heap.size:=by rw [hX1,one_size]; omega
    rw [<- hX1]
    clear hX1
    refine hKc.out _ _ ⟨fun _ => (HFO.out X1 bX1).2.1,?_⟩
    clear hKc Kc
    go_simp
    refine wpAnyF_pair (i:=3) (j:=6) rfl rfl (by kernel_rfl) (fun Kc hKc => ?_) (fun Kc hKc => ?_)
    ·have hw1:=HFO.out X1 bX1
     refine if_wanted rfl (wp_app_at _ _ 22 rfl (B6 + 2) 3 i0 (.int .i64 0) 1 8 Try.underlying22 hi0 hz0 hz1 hz2 rfl (by decide) (.slice f6 m6 k6) m6 _ rfl hw1.1 ⟨Wd.heap.size,0,none⟩ 1 1 [.int .i64 (i : Int)] rfl rfl cX1 (one_int _) (by unfold maxLen; omega) (by omega) hw1.2.2 ?_)
     intro fv' W2 hoW2 hgW2 hvW2
     have SW2:=(HMID.out X1 W2 W2 bX1 hgW2 (bel_self W2)).2.1
     refine hKc.out _ _ ⟨fun _ => SW2,?_⟩
     clear hKc Kc
     go_simp
     refine wpAnyF_one (i:=6) rfl (by kernel_rfl) (fun Kc hKc => ?_)
     go_simp
     obtain ⟨X3,hX3⟩ : ∃ X,X = W2.alloc (.cells #[.int .i64 b] 3):=⟨_,rfl⟩
     have cX3 : ∀ j u,[Value.int .i64 b][j]? = some u -> X3.cell? ((⟨W2.heap.size,0,none⟩ : Addr).add j) = some u:=by rw [hX3]; exact cells_new W2 #[.int .i64 b] 3 _ rfl
     have bX3 : Below W2.heap.size W2 X3:=by rw [hX3]; exact bel_up (bel_self _) _
     have sX3 : W2.heap.size < X3.heap.size:=by rw [hX3,one_size]; omega
     rw [<- hX3]
     clear hX3
     refine hKc.out _ _ ⟨fun _ => (HMID.out X1 W2 X3 bX1 hgW2 bX3).2.2.1,?_⟩
     clear hKc Kc
     go_simp
     refine wpAnyF_one (i:=7) rfl (by kernel_rfl) (fun Kc hKc => ?_)
     have hw3:=HMID.out X1 W2 X3 bX1 hgW2 bX3
     refine if_wanted rfl (wp_app_at _ _ 22 rfl (B6 + 2) 3 i0 (.int .i64 0) 1 8 Try.underlying22 hi0 hz0 hz1 hz2 rfl (by decide) (.slice f7 m7 k7) m7 _ rfl hw3.1 ⟨W2.heap.size,0,none⟩ 1 1 [.int .i64 b] rfl rfl cX3 (one_int _) (by unfold maxLen; omega) (by omega) hw3.2.2.2 ?_)
     intro bv' W4 hoW4 hgW4 hvW4
     have SW4:=HPUT.out X1 W2 X3 W4 _ _ bX1 hgW2 hoW2 hvW2 bX3 hgW4 hoW4 hvW4
     refine hKc.out _ _ ⟨fun _ => ⟨SW4.2.1,SW4.2.2.2.1⟩,?_⟩
     clear hKc Kc
     go_simp
     skip
     obtain ⟨p1,p3,rfl⟩:=own_slice hoW2
     obtain ⟨q1,q3,rfl⟩:=own_slice hoW4
     obtain ⟨HR,x6,y6,x7,y7⟩:=HPUT.out X1 W2 X3 W4 _ _ bX1 hgW2 hoW2 hvW2 bX3 hgW4 hoW4 hvW4
     have HRR:=hid_of HR
     clear HR SW2 SW4 hoW2 hoW4 hgW2 hgW4 hvW2 hvW4 hS0
     refine wpAnyF_one (i:=8) rfl (by kernel_rfl) (fun Kc hKc => ?_)
     go_simp
     refine hKc.out _ _ ⟨fun h => absurd h (unl_no (by kernel_rfl)),?_⟩
     clear hKc Kc
     go_simp
     have x7b : (W4.setCell ⟨B6,0,none⟩ (.slice p1 (m6 + 1) p3)).cell? ⟨B6 + 1,0,none⟩ = some (.slice f7 m7 k7):=(set_far (by omega)).trans x7
     have y7b : (W4.setCell ⟨B6,0,none⟩ (.slice p1 (m6 + 1) p3)).frozen? ⟨B6 + 1,0,none⟩ = false:=by rw [World.frozen?_setCell]; exact y7
     refine wpAnyF_one (i:=9) rfl (by kernel_rfl) (fun Kc hKc => ?_)
     go_simp
     refine hKc.out _ _ ⟨fun h => absurd h (unl_no (by kernel_rfl)),?_⟩
     clear hKc Kc
     refine wpAnyF_done (by kernel_rfl) ?_ _
     refine NoPanic.normal ?_
     have x6b : ((W4.setCell ⟨B6,0,none⟩ (.slice p1 (m6 + 1) p3)).setCell ⟨B6 + 1,0,none⟩ (.slice q1 (m7 + 1) q3)).cell? ⟨B6,0,none⟩ = some (.slice p1 (m6 + 1) p3):=(set_far (by omega)).trans (World.cell?_setCell_same _ _ _ x6)
     obtain ⟨We,hWe⟩ : ∃ W,W = (W4.setCell ⟨B6,0,none⟩ (.slice p1 (m6 + 1) p3)).setCell ⟨B6 + 1,0,none⟩ (.slice q1 (m7 + 1) q3):=⟨_,rfl⟩
     rw [<- hWe] at x6b HRR
     rw [<- hWe]
     clear hWe x6 x7 y6 y7 x7b y7b
     go_wp2
     go_ret
     exact HRR.out
    ·go_simp
     obtain ⟨X2,hX2⟩ : ∃ X,X = X1.alloc (.cells #[.int .i64 b] 3):=⟨_,rfl⟩
     have cX2 : ∀ j u,[Value.int .i64 b][j]? = some u -> X2.cell? ((⟨X1.heap.size,0,none⟩ : Addr).add j) = some u:=by rw [hX2]; exact cells_new X1 #[.int .i64 b] 3 _ rfl
     have bX2 : Below X1.heap.size X1 X2:=by rw [hX2]; exact bel_up (bel_self _) _
     have sX2 : X1.heap.size < X2.heap.size:=by rw [hX2,one_size]; omega
     rw [<- hX2]
     clear hX2
     have b12:=bel_on bX1 bX2
     refine hKc.out _ _ ⟨fun _ => (HFO.out X2 b12).2.1,?_⟩
     clear hKc Kc
     go_simp
     refine wpAnyF_one (i:=3) rfl (by kernel_rfl) (fun Kc hKc => ?_)
     have hw2:=HFO.out X2 b12
     refine if_wanted rfl (wp_app_at _ _ 22 rfl (B6 + 2) 3 i0 (.int .i64 0) 1 8 Try.underlying22 hi0 hz0 hz1 hz2 rfl (by decide) (.slice f6 m6 k6) m6 _ rfl hw2.1 ⟨Wd.heap.size,0,none⟩ 1 1 [.int .i64 (i : Int)] rfl rfl (fun j u h => by have h1:=cX1 j u h; rw [addr_add] at h1 ⊢; exact bel_c bX2 h1) (one_int _) (by unfold maxLen; omega) (by omega) hw2.2.2 ?_)
     intro fv' W2 hoW2 hgW2 hvW2
     have SW2:=(HMID.out X2 W2 W2 b12 hgW2 (bel_self W2)).2.1
     refine hKc.out _ _ ⟨fun _ => SW2,?_⟩
     clear hKc Kc
     go_simp
     refine wpAnyF_one (i:=7) rfl (by kernel_rfl) (fun Kc hKc => ?_)
     have hw3:=HMID.out X2 W2 W2 b12 hgW2 (bel_self W2)
     have cb2 : ∀ j u,[Value.int .i64 b][j]? = some u -> W2.cell? ((⟨X1.heap.size,0,none⟩ : Addr).add j) = some u:=fun j u h => by
      have h1:=cX2 j u h
      rw [addr_add] at h1 ⊢
      exact cells_same (hgW2.block X1.heap.size sX2 (fun e => by have:=HLT.out _ e.symm; omega)) h1
     refine if_wanted rfl (wp_app_at _ _ 22 rfl (B6 + 2) 3 i0 (.int .i64 0) 1 8 Try.underlying22 hi0 hz0 hz1 hz2 rfl (by decide) (.slice f7 m7 k7) m7 _ rfl hw3.1 ⟨X1.heap.size,0,none⟩ 1 1 [.int .i64 b] rfl rfl cb2 (one_int _) (by unfold maxLen; omega) (by omega) hw3.2.2.2 ?_)
     intro bv' W4 hoW4 hgW4 hvW4
     have SW4:=HPUT.out X2 W2 W2 W4 _ _ b12 hgW2 hoW2 hvW2 (bel_self W2) hgW4 hoW4 hvW4
     refine hKc.out _ _ ⟨fun _ => ⟨SW4.2.1,SW4.2.2.2.1⟩,?_⟩
     clear hKc Kc
     go_simp
     obtain ⟨p1,p3,rfl⟩:=own_slice hoW2
     obtain ⟨q1,q3,rfl⟩:=own_slice hoW4
     obtain ⟨HR,x6,y6,x7,y7⟩:=HPUT.out X2 W2 W2 W4 _ _ b12 hgW2 hoW2 hvW2 (bel_self W2) hgW4 hoW4 hvW4
     have HRR:=hid_of HR
     clear HR SW2 SW4 hoW2 hoW4 hgW2 hgW4 hvW2 hvW4 hS0
     refine wpAnyF_one (i:=8) rfl (by kernel_rfl) (fun Kc hKc => ?_)
     go_simp
     refine hKc.out _ _ ⟨fun h => absurd h (unl_no (by kernel_rfl)),?_⟩
     clear hKc Kc
     go_simp
     have x7b : (W4.setCell ⟨B6,0,none⟩ (.slice p1 (m6 + 1) p3)).cell? ⟨B6 + 1,0,none⟩ = some (.slice f7 m7 k7):=(set_far (by omega)).trans x7
     have y7b : (W4.setCell ⟨B6,0,none⟩ (.slice p1 (m6 + 1) p3)).frozen? ⟨B6 + 1,0,none⟩ = false:=by rw [World.frozen?_setCell]; exact y7
     refine wpAnyF_one (i:=9) rfl (by kernel_rfl) (fun Kc hKc => ?_)
     go_simp
     refine hKc.out _ _ ⟨fun h => absurd h (unl_no (by kernel_rfl)),?_⟩
     clear hKc Kc
     refine wpAnyF_done (by kernel_rfl) ?_ _
     refine NoPanic.normal ?_
     have x6b : ((W4.setCell ⟨B6,0,none⟩ (.slice p1 (m6 + 1) p3)).setCell ⟨B6 + 1,0,none⟩ (.slice q1 (m7 + 1) q3)).cell? ⟨B6,0,none⟩ = some (.slice p1 (m6 + 1) p3):=(set_far (by omega)).trans (World.cell?_setCell_same _ _ _ x6)
     obtain ⟨We,hWe⟩ : ∃ W,W = (W4.setCell ⟨B6,0,none⟩ (.slice p1 (m6 + 1) p3)).setCell ⟨B6 + 1,0,none⟩ (.slice q1 (m7 + 1) q3):=⟨_,rfl⟩
     rw [<- hWe] at x6b HRR
     rw [<- hWe]
     clear hWe x6 x7 y6 y7 x7b y7b
     go_wp2
     go_ret
     exact HRR.out
   ·go_simp
    obtain ⟨X1,hX1⟩ : ∃ X,X = Wd.alloc (.cells #[.int .i64 b] 3):=⟨_,rfl⟩
    have cX1 : ∀ j u,[Value.int .i64 b][j]? = some u -> X1.cell? ((⟨Wd.heap.size,0,none⟩ : Addr).add j) = some u:=by rw [hX1]; exact cells_new Wd #[.int .i64 b] 3 _ rfl
    have bX1 : Below Wd.heap.size Wd X1:=by rw [hX1]; exact bel_up (bel_self _) _
    have sX1 : Wd.heap.size < X1.heap.size:=by rw [hX1,one_size]; omega
    rw [<- hX1]
    clear hX1
    refine hKc.out _ _ ⟨fun _ => (HFO.out X1 bX1).2.1,?_⟩
    clear hKc Kc
    go_simp
    refine wpAnyF_one (i:=2) rfl (by kernel_rfl) (fun Kc hKc => ?_)
    go_simp
    obtain ⟨X2,hX2⟩ : ∃ X,X = X1.alloc (.cells #[.int .i64 (i : Int)] 3):=⟨_,rfl⟩
    have cX2 : ∀ j u,[Value.int .i64 (i : Int)][j]? = some u -> X2.cell? ((⟨X1.heap.size,0,none⟩ : Addr).add j) = some u:=by rw [hX2]; exact cells_new X1 #[.int .i64 (i : Int)] 3 _ rfl
    have bX2 : Below X1.heap.size X1 X2:=by rw [hX2]; exact bel_up (bel_self _) _
    have sX2 : X1.heap.size < X2.heap.size:=by rw [hX2,one_size]; omega
    rw [<- hX2]
    clear hX2
    have b12:=bel_on bX1 bX2
    refine hKc.out _ _ ⟨fun _ => (HFO.out X2 b12).2.1,?_⟩
    clear hKc Kc
    go_simp
    refine wpAnyF_one (i:=3) rfl (by kernel_rfl) (fun Kc hKc => ?_)
    have hw2:=HFO.out X2 b12
    refine if_wanted rfl (wp_app_at _ _ 22 rfl (B6 + 2) 3 i0 (.int .i64 0) 1 8 Try.underlying22 hi0 hz0 hz1 hz2 rfl (by decide) (.slice f6 m6 k6) m6 _ rfl hw2.1 ⟨X1.heap.size,0,none⟩ 1 1 [.int .i64 (i : Int)] rfl rfl cX2 (one_int _) (by unfold maxLen; omega) (by omega) hw2.2.2 ?_)
    intro fv' W2 hoW2 hgW2 hvW2
    have SW2:=(HMID.out X2 W2 W2 b12 hgW2 (bel_self W2)).2.1
    refine hKc.out _ _ ⟨fun _ => SW2,?_⟩
    clear hKc Kc
    go_simp
    refine wpAnyF_one (i:=7) rfl (by kernel_rfl) (fun Kc hKc => ?_)
    have hw3:=HMID.out X2 W2 W2 b12 hgW2 (bel_self W2)
    have cb2 : ∀ j u,[Value.int .i64 b][j]? = some u -> W2.cell? ((⟨Wd.heap.size,0,none⟩ : Addr).add j) = some u:=fun j u h => by
     have h1:=cX1 j u h
     rw [addr_add] at h1 ⊢
     exact cells_same (hgW2.block Wd.heap.size (by omega) (fun e => by have:=HLT.out _ e.symm; omega)) (bel_c bX2 h1)
    refine if_wanted rfl (wp_app_at _ _ 22 rfl (B6 + 2) 3 i0 (.int .i64 0) 1 8 Try.underlying22 hi0 hz0 hz1 hz2 rfl (by decide) (.slice f7 m7 k7) m7 _ rfl hw3.1 ⟨Wd.heap.size,0,none⟩ 1 1 [.int .i64 b] rfl rfl cb2 (one_int _) (by unfold maxLen; omega) (by omega) hw3.2.2.2 ?_)
    intro bv' W4 hoW4 hgW4 hvW4
    have SW4:=HPUT.out X2 W2 W2 W4 _ _ b12 hgW2 hoW2 hvW2 (bel_self W2) hgW4 hoW4 hvW4
    refine hKc.out _ _ ⟨fun _ => ⟨SW4.2.1,SW4.2.2.2.1⟩,?_⟩
    clear hKc Kc
    go_simp
    obtain ⟨p1,p3,rfl⟩:=own_slice hoW2
    obtain ⟨q1,q3,rfl⟩:=own_slice hoW4
    obtain ⟨HR,x6,y6,x7,y7⟩:=HPUT.out X2 W2 W2 W4 _ _ b12 hgW2 hoW2 hvW2 (bel_self W2) hgW4 hoW4 hvW4
    have HRR:=hid_of HR
    clear HR SW2 SW4 hoW2 hoW4 hgW2 hgW4 hvW2 hvW4 hS0
    refine wpAnyF_one (i:=8) rfl (by kernel_rfl) (fun Kc hKc => ?_)
    go_simp
    refine hKc.out _ _ ⟨fun h => absurd h (unl_no (by kernel_rfl)),?_⟩
    clear hKc Kc
    go_simp
    have x7b : (W4.setCell ⟨B6,0,none⟩ (.slice p1 (m6 + 1) p3)).cell? ⟨B6 + 1,0,none⟩ = some (.slice f7 m7 k7):=(set_far (by omega)).trans x7
    have y7b : (W4.setCell ⟨B6,0,none⟩ (.slice p1 (m6 + 1) p3)).frozen? ⟨B6 + 1,0,none⟩ = false:=by rw [World.frozen?_setCell]; exact y7
    refine wpAnyF_one (i:=9) rfl (by kernel_rfl) (fun Kc hKc => ?_)
    go_simp
    refine hKc.out _ _ ⟨fun h => absurd h (unl_no (by kernel_rfl)),?_⟩
    clear hKc Kc
    refine wpAnyF_done (by kernel_rfl) ?_ _
    refine NoPanic.normal ?_
    have x6b : ((W4.setCell ⟨B6,0,none⟩ (.slice p1 (m6 + 1) p3)).setCell ⟨B6 + 1,0,none⟩ (.slice q1 (m7 + 1) q3)).cell? ⟨B6,0,none⟩ = some (.slice p1 (m6 + 1) p3):=(set_far (by omega)).trans (World.cell?_setCell_same _ _ _ x6)
    obtain ⟨We,hWe⟩ : ∃ W,W = (W4.setCell ⟨B6,0,none⟩ (.slice p1 (m6 + 1) p3)).setCell ⟨B6 + 1,0,none⟩ (.slice q1 (m7 + 1) q3):=⟨_,rfl⟩
    rw [<- hWe] at x6b HRR
    rw [<- hWe]
    clear hWe x6 x7 y6 y7 x7b y7b
    go_wp2
    go_ret
    exact HRR.out
end Go.Proofs.Yteehgcbjmdideab
/- What 'LeastOf' of the document has in memory in its loop. -/
namespace Go.Proofs.Yteehgcbjmdideab
open Go.RowKit
structure LG (W0 W : World) (B4 B6 N s0 : Nat) (fin arcs cv pv lv fv bv : Value) (is : List Nat) (bs : List Int) (Q : Nat) (qf qa : Value) (fs : List Int) (rs : List ArcD) : Prop where
 ls : LS W0 W B4 B6 N s0 fin arcs cv pv lv fv bv is bs
 q0 : W.cell? ⟨Q,0,none⟩ = some (.int .i64 0)
 q1 : W.cell? ⟨Q,1,none⟩ = some (.int .i64 0)
 q2 : W.cell? ⟨Q,2,none⟩ = some qf
 q3 : W.cell? ⟨Q,3,none⟩ = some qa
 qz : ∀ i,W.frozen? ⟨Q,i,none⟩ = false
 fo : W.ownsRow (Q + 1) 3 1 qf fs.length (intsW fs)
 ao : W.ownsRow (Q + 1) 54 5 qa rs.length (arcsV rs)
 hQ : B6 + 1 < Q
 nf : fv.ownBlock ≠ some Q
 nb : bv.ownBlock ≠ some Q
 df : ∀ b,fv.ownBlock = some b -> qf.ownBlock ≠ some b /\ qa.ownBlock ≠ some b
 db : ∀ b,bv.ownBlock = some b -> qf.ownBlock ≠ some b /\ qa.ownBlock ≠ some b
 dq : ∀ b,qf.ownBlock = some b -> qa.ownBlock ≠ some b
section
variable {W0 W W' wx : World} {B4 B6 N s0 Q : Nat} {fin arcs cv pv lv fv bv fv' bv' qf qa qf' qa' : Value} {is is' : List Nat} {bs bs' fs : List Int} {rs : List ArcD}
theorem LS.same (h : LS W0 W B4 B6 N s0 fin arcs cv pv lv fv bv is bs) (hbel : Below W0.heap.size W0 W') (hb : ∀ b,b < W.heap.size -> (b <= B6 + 1 \/ fv.ownBlock = some b \/ bv.ownBlock = some b) -> W'.heap[b]? = W.heap[b]?) : LS W0 W' B4 B6 N s0 fin arcs cv pv lv fv bv is bs:=by
 have l6:=cell_lt h.c6
 have l7:=cell_lt h.c7
 have a6:=h.h6
 have b4:=hb B4 (by omega) (Or.inl (by omega))
 have b6:=hb B6 (by omega) (Or.inl (by omega))
 have b7:=hb (B6 + 1) (by omega) (Or.inl (by omega))
 exact ⟨hbel,fun k v hk => cells_same b4 (h.c4 k v hk),cells_same b6 h.c6,cells_same b7 h.c7,frz_block b6 h.z6,frz_block b7 h.z7,own_same h.fo fun b e => hb b (ownsRow_lt0 h.fo b e) (Or.inr (Or.inl e)),own_same h.bo fun b e => hb b (ownsRow_lt0 h.bo b e) (Or.inr (Or.inr e)),h.fb,h.h4,h.h6⟩
theorem LG.below (h : LG W0 W B4 B6 N s0 fin arcs cv pv lv fv bv is bs Q qf qa fs rs) (hb : Below W.heap.size W W') : LG W0 W' B4 B6 N s0 fin arcs cv pv lv fv bv is bs Q qf qa fs rs :=
 ⟨h.ls.below hb,bel_c hb h.q0,bel_c hb h.q1,bel_c hb h.q2,bel_c hb h.q3,fun i => (hb.frozen (p:=⟨Q,i,none⟩) (cell_lt h.q0)).trans (h.qz i),ownsRow_bel h.fo hb,ownsRow_bel h.ao hb,h.hQ,h.nf,h.nb,h.df,h.db,h.dq⟩
theorem LG.step (h : LG W0 W B4 B6 N s0 fin arcs cv pv lv fv bv is bs Q qf qa fs rs) (hs : LStep B6 W fv bv W' fv' bv') (hl : LS W0 W' B4 B6 N s0 fin arcs cv pv lv fv' bv' is' bs') : LG W0 W' B4 B6 N s0 fin arcs cv pv lv fv' bv' is' bs' Q qf qa fs rs:=by
 have hQ:=h.hQ
 have lQ:=cell_lt h.q0
 have bQ:=hs.block Q lQ (by omega) (by omega) h.nf h.nb
 have lf : ∀ b,qf.ownBlock = some b -> Q < b /\ b < W.heap.size:=fun b e => ⟨own_base h.fo b e,ownsRow_lt0 h.fo b e⟩
 have la : ∀ b,qa.ownBlock = some b -> Q < b /\ b < W.heap.size:=fun b e => ⟨own_base h.ao b e,ownsRow_lt0 h.ao b e⟩
 have bk : ∀ b,Q < b -> b < W.heap.size -> fv.ownBlock ≠ some b -> bv.ownBlock ≠ some b -> W'.heap[b]? = W.heap[b]?:=fun b h1 h2 h3 h4 => hs.block b h2 (by omega) (by omega) h3 h4
 refine ⟨hl,cells_same bQ h.q0,cells_same bQ h.q1,cells_same bQ h.q2,cells_same bQ h.q3,fun i => frz_block bQ (h.qz i),own_same h.fo fun b e => bk b (lf b e).1 (lf b e).2 (fun e2 => (h.df b e2).1 e) (fun e2 => (h.db b e2).1 e),own_same h.ao fun b e => bk b (la b e).1 (la b e).2 (fun e2 => (h.df b e2).2 e) (fun e2 => (h.db b e2).2 e),hQ,fun e => ?_,fun e => ?_,fun b e => ?_,fun b e => ?_,h.dq⟩
 ·rcases hs.ownf Q e with e | e
  ·exact h.nf e
  ·omega
 ·rcases hs.ownb Q e with e | e
  ·exact h.nb e
  ·omega
 ·rcases hs.ownf b e with e | e
  ·exact h.df b e
  ·exact ⟨fun e2 => by have:=(lf b e2).2; omega,fun e2 => by have:=(la b e2).2; omega⟩
 ·rcases hs.ownb b e with e | e
  ·exact h.db b e
  ·exact ⟨fun e2 => by have:=(lf b e2).2; omega,fun e2 => by have:=(la b e2).2; omega⟩
theorem LG.ls_far (h : LG W0 W B4 B6 N s0 fin arcs cv pv lv fv bv is bs Q qf qa fs rs) {q : Value} (hq : ∀ b,q.ownBlock = some b -> Q < b) (hg : W.grownBy wx q.ownBlock) (hd1 : ∀ b,fv.ownBlock = some b -> q.ownBlock ≠ some b) (hd2 : ∀ b,bv.ownBlock = some b -> q.ownBlock ≠ some b) (i : Nat) (u : Value) : LS W0 (wx.setCell ⟨Q,i,none⟩ u) B4 B6 N s0 fin arcs cv pv lv fv bv is bs:=by
 have hQ:=h.hQ
 have a4:=h.ls.h4
 have a6:=h.ls.h6
 refine h.ls.same ((h.ls.bel.grown hg h.ls.bel.size (fun b e => by have:=hq b e; omega)).setCell (p:=⟨Q,i,none⟩) (by show W0.heap.size <= Q; omega) _) fun b hb hor => ?_
 have hbQ : b ≠ Q:=by
  rcases hor with e | e | e
  ·omega
  ·intro e2; subst e2; exact h.nf e
  ·intro e2; subst e2; exact h.nb e
 have hbq : some b ≠ q.ownBlock:=by
  rcases hor with e | e | e
  ·intro e2; have:=hq b e2.symm; omega
  ·exact fun e2 => hd1 b e e2.symm
  ·exact fun e2 => hd2 b e e2.symm
 rw [Below.heap_setCell _ ⟨Q,i,none⟩ _ b hbQ]
 exact hg.block b hb hbq
theorem LG.final (h : LG W0 W B4 B6 N s0 fin arcs cv pv lv fv bv is bs Q qf qa fs rs) {x : Int} (hg : W.grownBy wx qf.ownBlock) (ho : wx.ownsRow (Q + 1) 3 1 qf' (fs.length + 1) (intsW fs ++ [.int .i64 x])) (hv : qf'.ownBlock = qf.ownBlock \/ qf'.ownBlock = some W.heap.size) :
  LG W0 (wx.setCell ⟨Q,2,none⟩ qf') B4 B6 N s0 fin arcs cv pv lv fv bv is bs Q qf' qa (fs ++ [x]) rs:=by
 have lQ:=cell_lt h.q0
 have hlo : ∀ b,qf.ownBlock = some b -> Q < b:=fun b e => own_base h.fo b e
 have bQ : wx.heap[Q]? = W.heap[Q]?:=hg.block Q lQ (fun e => by have:=hlo Q e.symm; omega)
 have hfb : ∀ b,qf'.ownBlock = some b -> b < W.heap.size -> qf.ownBlock = some b:=fun b hb hl => by
  rcases hv with hv | hv
  ·rw [<- hv]; exact hb
  ·rw [hv] at hb; injection hb with hb; omega
 have hfQ : qf'.ownBlock ≠ some Q:=fun e => by have:=own_base ho Q e; omega
 have haQ : qa.ownBlock ≠ some Q:=fun e => by have:=own_base h.ao Q e; omega
 refine ⟨h.ls_far hlo hg (fun b e => (h.df b e).1) (fun b e => (h.db b e).1) 2 qf',?_,?_,?_,?_,fun i => by rw [World.frozen?_setCell]; exact frz_block bQ (h.qz i),?_,?_,h.hQ,h.nf,h.nb,fun b e => ⟨fun e2 => (h.df b e).1 (hfb b e2 (ownsRow_lt0 h.ls.fo b e)),(h.df b e).2⟩,fun b e => ⟨fun e2 => (h.db b e).1 (hfb b e2 (ownsRow_lt0 h.ls.bo b e)),(h.db b e).2⟩,fun b e e2 => h.dq b (hfb b e (ownsRow_lt0 h.ao b e2)) e2⟩
 ·rw [World.cell?_setCell_other _ _ _ _ (by intro e1; injection e1 with _ e2; omega)]
  exact cells_same bQ h.q0
 ·rw [World.cell?_setCell_other _ _ _ _ (by intro e1; injection e1 with _ e2; omega)]
  exact cells_same bQ h.q1
 ·exact World.cell?_setCell_same _ _ _ (cells_same bQ h.q2)
 ·rw [World.cell?_setCell_other _ _ _ _ (by intro e1; injection e1 with _ e2; omega)]
  exact cells_same bQ h.q3
 ·have e1 : (fs ++ [x]).length = fs.length + 1:=by simp
  rw [e1,intsW_snoc]
  exact ownsRow_setCell_far ho hfQ
 ·exact ownsRow_setCell_far (own_same h.ao fun b e => hg.block b (ownsRow_lt0 h.ao b e) (fun e2 => h.dq b e2.symm e)) haQ
theorem LG.arc (h : LG W0 W B4 B6 N s0 fin arcs cv pv lv fv bv is bs Q qf qa fs rs) {a : ArcD} (hg : W.grownBy wx qa.ownBlock) (ho : wx.ownsRow (Q + 1) 54 5 qa' (rs.length + 1) (arcsV rs ++ arcCells a)) (hv : qa'.ownBlock = qa.ownBlock \/ qa'.ownBlock = some W.heap.size) :
  LG W0 (wx.setCell ⟨Q,3,none⟩ qa') B4 B6 N s0 fin arcs cv pv lv fv bv is bs Q qf qa' fs (rs ++ [a]):=by
 have lQ:=cell_lt h.q0
 have hlo : ∀ b,qa.ownBlock = some b -> Q < b:=fun b e => own_base h.ao b e
 have bQ : wx.heap[Q]? = W.heap[Q]?:=hg.block Q lQ (fun e => by have:=hlo Q e.symm; omega)
 have hfb : ∀ b,qa'.ownBlock = some b -> b < W.heap.size -> qa.ownBlock = some b:=fun b hb hl => by
  rcases hv with hv | hv
  ·rw [<- hv]; exact hb
  ·rw [hv] at hb; injection hb with hb; omega
 have haQ : qa'.ownBlock ≠ some Q:=fun e => by have:=own_base ho Q e; omega
 have hfQ : qf.ownBlock ≠ some Q:=fun e => by have:=own_base h.fo Q e; omega
 refine ⟨h.ls_far hlo hg (fun b e => (h.df b e).2) (fun b e => (h.db b e).2) 3 qa',?_,?_,?_,?_,fun i => by rw [World.frozen?_setCell]; exact frz_block bQ (h.qz i),?_,?_,h.hQ,h.nf,h.nb,fun b e => ⟨(h.df b e).1,fun e2 => (h.df b e).2 (hfb b e2 (ownsRow_lt0 h.ls.fo b e))⟩,fun b e => ⟨(h.db b e).1,fun e2 => (h.db b e).2 (hfb b e2 (ownsRow_lt0 h.ls.bo b e))⟩,fun b e e2 => h.dq b e (hfb b e2 (ownsRow_lt0 h.fo b e))⟩
 ·rw [World.cell?_setCell_other _ _ _ _ (by intro e1; injection e1 with _ e2; omega)]
  exact cells_same bQ h.q0
 ·rw [World.cell?_setCell_other _ _ _ _ (by intro e1; injection e1 with _ e2; omega)]
  exact cells_same bQ h.q1
 ·rw [World.cell?_setCell_other _ _ _ _ (by intro e1; injection e1 with _ e2; omega)]
  exact cells_same bQ h.q2
 ·exact World.cell?_setCell_same _ _ _ (cells_same bQ h.q3)
 ·exact ownsRow_setCell_far (own_same h.fo fun b e => hg.block b (ownsRow_lt0 h.fo b e) (fun e2 => h.dq b e e2.symm)) hfQ
 ·have e1 : (rs ++ [a]).length = rs.length + 1:=by simp
  have e2 : arcsV (rs ++ [a]) = arcsV rs ++ arcCells a:=by simp [arcsV]
  rw [e1,e2]
  exact ownsRow_setCell_far ho haQ
end
end Go.Proofs.Yteehgcbjmdideab
