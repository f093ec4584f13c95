/- 'begin' of package score; what it costs to end at a spot. -/
import Derived.Test.YteehgcbjmdideabUFindP
import Derived.Test.YteehgcbjmdideabUM08
set_option maxRecDepth 100000
namespace Go.Proofs.Yteehgcbjmdideab
open Go.RowKit
attribute [local go_sem ↓] Go.wp_at_zero Go.wp_at_succ
theorem wpAnyF_two {P : Program} {ops : Array Oper} {Q : Exit -> Act -> World -> Prop} {md : Region.Mode} {S : World -> Prop} {fatal : List Nat} {i j : Nat} {oi oj : Oper} {fuel : Nat} {listed : Array Bool} {a : Act} {w : World} (hi : ops[i]? = some oi) (hj : ops[j]? = some oj) (hr : Region.ready md ops listed = [i,j])
  (h1 : ∀ K' : Act -> World -> Prop,Shut (∀ a w,((unl fatal (listed.setIfInBounds i true) -> S w) /\ wpAnyF P md ops Q S fatal fuel (listed.setIfInBounds i true) a w) -> K' a w) -> if Region.wanted oi (yielded ops a.tmps) = true then Oper.wp P oi a w K' Q else K' (a.put oi.dst undef) w)
  (h2 : ∀ K' : Act -> World -> Prop,Shut (∀ a w,((unl fatal (listed.setIfInBounds j true) -> S w) /\ wpAnyF P md ops Q S fatal fuel (listed.setIfInBounds j true) a w) -> K' a w) -> if Region.wanted oj (yielded ops a.tmps) = true then Oper.wp P oj a w K' Q else K' (a.put oj.dst undef) w) : wpAnyF P md ops Q S fatal (fuel + 1) listed a w:=by
 refine ⟨fun h0 => (by rw [hr] at h0; cases h0),fun n hn => ?_⟩
 rw [hr] at hn
 rcases List.mem_cons.1 hn with rfl | hn
 ·exact wpOp_step hi (fun K' hK => h1 K' (fun a w hS => hK a w hS))
 ·have : n = j:=by simpa using hn
  subst this
  exact wpOp_step hj (fun K' hK => h2 K' (fun a w hS => hK a w hS))
theorem SW.new {w0 W : World} {N s0 Mb Fb : Nat} {fin arcs iv ov : Value} {fl : List Int} (hf : NumsAt W Fb (N + 1) fl) (hm : MetAt W Mb []) (hMF : Mb ≠ Fb) (gM : w0.heap.size <= Mb) (gF : w0.heap.size <= Fb) (hb : Below w0.heap.size w0 W) :
  SW w0 (W.alloc (.cells #[.int .i64 (N : Int),.int .i64 (s0 : Int),fin,arcs,iv,ov,.slice (some ⟨Fb,0,none⟩) (N + 1) (N + 1),.map (some Mb),.slice none 0 0] 117)) N s0 W.heap.size Mb Fb fin arcs iv ov (.slice none 0 0) fl [] []:=by
 have hu:=bel_up (bel_self W) (.cells #[.int .i64 (N : Int),.int .i64 (s0 : Int),fin,arcs,iv,ov,.slice (some ⟨Fb,0,none⟩) (N + 1) (N + 1),.map (some Mb),.slice none 0 0] 117)
 have lF:=hf.lt
 have lM:=hm.lt
 refine ⟨new_cell _ _ _ _ 0 _ rfl rfl,new_cell _ _ _ _ 1 _ rfl rfl,new_cell _ _ _ _ 2 _ rfl rfl,new_cell _ _ _ _ 3 _ rfl rfl,new_cell _ _ _ _ 4 _ rfl rfl,new_cell _ _ _ _ 5 _ rfl rfl,new_cell _ _ _ _ 6 _ rfl rfl,new_cell _ _ _ _ 7 _ rfl rfl,⟨new_cell _ _ _ _ 8 _ rfl rfl,new_frozen _ _ _ _ _ rfl,World.ownsRow_nil _ _ _ _,by simp [Value.ownBlock],Nat.le_trans hb.size hu.size⟩,hf.below hu,hm.block (hu.block Mb lM),by omega,by omega,hMF,by simp [Value.ownBlock],by simp [Value.ownBlock],hb.size,gM,gF,bel_on hb hu,fun k _ hk => by simp at hk⟩
theorem spotN_start (N O s0 : Nat) : spotN N O s0 0 0 = s0:=by simp [spotN]
theorem SGh.start {f : FstD} {ins outs : List Int} {N s0 : Nat} (hok : OkW f ins outs N s0) : SGh f ins outs N s0 (bgS s0 (totS ins outs N)) (List.replicate (bgS s0 (totS ins outs N)).length (-1)) [⟨s0,0,0,0,-1⟩] [⟨s0,0,0,0⟩] (-1) (totS ins outs N) [] 0:=by
 have hsT : s0 < totS ins outs N:=by
  have:=spotN_lt (N:=N) (n:=s0) (i:=0) (o:=0) hok.s (Nat.zero_le ins.length) (Nat.zero_le outs.length)
  rw [spotN_start] at this
  exact this
 have hb:=fun v => bgS_at s0 (totS ins outs N) v
 have hb0 : gI (bgS s0 (totS ins outs N)) s0 = 0:=by rw [hb,if_pos ⟨rfl,hsT⟩]
 refine ⟨SI.start (fun v => ?_) (fun v => ?_) (fun p hp => ?_) (fun u hu => ?_),SD.start _ (Int.le_refl 0),fun n i o hn hi ho => ?_,fun p hp => ?_,bgS_len _ _⟩
 ·rw [hb]; split <;> omega
 ·rw [hb]; split <;> omega
 ·rw [List.mem_singleton.1 hp]
  show 0 <= gI _ (spotN N outs.length s0 0 0) /\ gI _ (spotN N outs.length s0 0 0) <= 0
  rw [spotN_start,hb0]
  decide
 ·refine ⟨_,List.mem_singleton.2 rfl,?_⟩
  rw [hb] at hu ⊢
  split at hu
  ·rename_i h
   rw [if_pos h]
   exact ⟨by show spotN N outs.length s0 0 0 = u; rw [spotN_start]; exact h.1.symm,rfl⟩
  ·omega
 ·have hy : gI (List.replicate (bgS s0 (totS ins outs N)).length (-1)) (spotN N outs.length n i o) = -1:=by
   unfold gI
   simp only [List.getD,List.getElem?_replicate]
   split <;> rfl
  rw [hy,hb]
  show (if isAt n i o ⟨s0,0,0,0,-1⟩ = true then some (⟨s0,0,0,0,-1⟩ : MetD) else none) = _
  by_cases e : s0 = n /\ 0 = i /\ 0 = o
  ·obtain ⟨rfl,rfl,rfl⟩:=e
   rw [if_pos (show isAt s0 0 0 ⟨s0,0,0,0,-1⟩ = true from (isAt_iff _ _ _ _).2 ⟨rfl,rfl,rfl⟩),spotN_start,show (if s0 = s0 /\ s0 < totS ins outs N then (0 : Int) else -1) = 0 from if_pos ⟨rfl,hsT⟩,if_neg (by decide)]
   rfl
  ·have hsp : ¬ (spotN N outs.length n i o = s0 /\ spotN N outs.length n i o < totS ins outs N):=by
    rintro ⟨h,_⟩
    rw [<- spotN_start N outs.length s0] at h
    obtain ⟨h1,h2,h3⟩:=spotN_inj hn hok.s ho (Nat.zero_le _) h
    exact e ⟨h1.symm,h2.symm,h3.symm⟩
   rw [if_neg (fun h => e ((isAt_iff _ _ _ _).1 h)),if_neg hsp]
   rfl
 ·rw [List.mem_singleton.1 hp]
  exact ⟨hok.s,Nat.zero_le _,Nat.zero_le _⟩
set_option maxHeartbeats 1000000 in
theorem begin_any (f : FstD) (ins outs : List Int) (N s0 : Nat) (fin : Value) (aa : Option Addr) (m ac : Nat) (ia : Option Addr) (il ic : Nat) (oa : Option Addr) (ol oc : Nat) (w : World) (hok : OkW f ins outs N s0) (ha : ASlice w (.slice aa m ac) f.arcs) (hal : f.arcs.length = m) :
  Calls Try.prog 75 #[.agg #[.int .i64 (N : Int),.int .i64 (s0 : Int),fin,.slice aa m ac],.slice ia il ic,.slice oa ol oc] w fun e w' =>
   ∃ B Mb Fb v c y ms p,e = .returned (.pointer (some ⟨B,0,none⟩)) /\ SW w w' N s0 B Mb Fb fin (.slice aa m ac) (.slice ia il ic) (.slice oa ol oc) v (fstL f.arcs N) ms [p] /\ SGh f ins outs N s0 c y ms [p] (-1) (totS ins outs N) [] 0:=by
 have HOK : Hid (OkW f ins outs N s0):=hok
 have hb0:=bel_up (bel_self w) (.cells #[.int .i64 (N : Int),.int .i64 (s0 : Int),fin,.slice aa m ac] 25)
 obtain ⟨Wd,hWd⟩ : ∃ Wd,Wd = (w.alloc (.cells #[.int .i64 (N : Int),.int .i64 (s0 : Int),fin,.slice aa m ac] 25)).drew:=⟨_,rfl⟩
 have hbd : Below w.heap.size w Wd:=by rw [hWd]; exact hb0.drew
 have x0 : Wd.cell? ⟨w.heap.size,0,none⟩ = some (.int .i64 (N : Int)):=by rw [hWd]; exact drew_cell (new_cell _ _ _ _ 0 _ rfl rfl)
 have x1 : Wd.cell? ⟨w.heap.size,1,none⟩ = some (.int .i64 (s0 : Int)):=by rw [hWd]; exact drew_cell (new_cell _ _ _ _ 1 _ rfl rfl)
 have x2 : Wd.cell? ⟨w.heap.size,2,none⟩ = some fin:=by rw [hWd]; exact drew_cell (new_cell _ _ _ _ 2 _ rfl rfl)
 have x3 : Wd.cell? ⟨w.heap.size,3,none⟩ = some (.slice aa m ac):=by rw [hWd]; exact drew_cell (new_cell _ _ _ _ 3 _ rfl rfl)
 have hfa:=fun (W : World) (hb : Below Wd.heap.size Wd W) => firstArcs_any f ins outs N s0 fin aa m ac W hok ((ha.below hbd).below hb) hal
 have hw0:=hbd.size
 have hS0 : (fun wx : World => wx.cell? ⟨w.heap.size,0,none⟩ = some (.int .i64 (N : Int)) /\ wx.cell? ⟨w.heap.size,1,none⟩ = some (.int .i64 (s0 : Int)) /\ wx.cell? ⟨w.heap.size,2,none⟩ = some fin /\ wx.cell? ⟨w.heap.size,3,none⟩ = some (.slice aa m ac)) Wd:=⟨x0,x1,x2,x3⟩
 have HSB : Hid (∀ wx : World,Below Wd.heap.size Wd wx -> (fun wx : World => wx.cell? ⟨w.heap.size,0,none⟩ = some (.int .i64 (N : Int)) /\ wx.cell? ⟨w.heap.size,1,none⟩ = some (.int .i64 (s0 : Int)) /\ wx.cell? ⟨w.heap.size,2,none⟩ = some fin /\ wx.cell? ⟨w.heap.size,3,none⟩ = some (.slice aa m ac)) wx):=fun wx h => ⟨bel_c h x0,bel_c h x1,bel_c h x2,bel_c h x3⟩
 have HW : Hid (Wd = (w.alloc (.cells #[.int .i64 (N : Int),.int .i64 (s0 : Int),fin,.slice aa m ac] 25)).drew):=hWd
 clear hok hal hWd hb0 x0 x1 x2 x3
 go_enter Try.func75,Try.ntmps75
 go_wp2
 go_cut [7] from 8 (fun t7 wx => ∃ B Mb Fb,t7 = .pointer (some ⟨B,0,none⟩) /\ SW w wx N s0 B Mb Fb fin (.slice aa m ac) (.slice ia il ic) (.slice oa ol oc) (.slice none 0 0) (fstL f.arcs N) [] [] /\ wx.cell? ⟨w.heap.size,1,none⟩ = some (.int .i64 (s0 : Int)))
 case first =>
  refine wp_region_noPanic ?_
  refine wp_region_F (fun wx => wx.cell? ⟨w.heap.size,0,none⟩ = some (.int .i64 (N : Int)) /\ wx.cell? ⟨w.heap.size,1,none⟩ = some (.int .i64 (s0 : Int)) /\ wx.cell? ⟨w.heap.size,2,none⟩ = some fin /\ wx.cell? ⟨w.heap.size,3,none⟩ = some (.slice aa m ac)) [] (by kernel_rfl) (by rw [<- HW.out]; exact hS0) (fun _ => ?_)
  rw [<- HW.out]
  clear HW
  refine tkF (i:=0) (v:=.agg #[.int .i64 (N : Int),.int .i64 (s0 : Int),fin,.slice aa m ac]) rfl (by kernel_rfl) (fun _ _ _ h => h) (by rfl) hS0 (fun wl hSw => ?_) ?_
  ·(try dsimp only at hSw); go_simp
  refine wpAnyF_free (i:=1) (v:=.slice ia il ic) rfl (by kernel_rfl) (by kernel_rfl) (by kernel_rfl) (by kernel_rfl) (fun _ _ _ h => h) (Or.inl ⟨by rfl,fun wl hSw => ?_⟩) hS0 ?_
  ·(try dsimp only at hSw); go_simp
  refine wpAnyF_free (i:=2) (v:=.slice oa ol oc) rfl (by kernel_rfl) (by kernel_rfl) (by kernel_rfl) (by kernel_rfl) (fun _ _ _ h => h) (Or.inl ⟨by rfl,fun wl hSw => ?_⟩) hS0 ?_
  ·(try dsimp only at hSw); go_simp
  refine tkF (i:=3) (v:=.agg #[.int .i64 (N : Int),.int .i64 (s0 : Int),fin,.slice aa m ac]) rfl (by kernel_rfl) (fun _ _ _ h => h) (by rfl) hS0 (fun wl hSw => ?_) ?_
  ·(try dsimp only at hSw); go_simp
  refine wpAnyF_two (i:=4) (j:=5) rfl rfl (by kernel_rfl) (fun K hK => ?_) (fun K hK => ?_)
  ·go_simp
   refine (hfa Wd (bel_self Wd)).mono ?_
   rintro e W4 ⟨Fb,rfl,hn4,hg4,hb4⟩
   refine hK.out _ _ ⟨fun _ => HSB.out _ hb4,?_⟩
   clear hK K
   have hF4:=hn4.lt
   refine wpAnyF_one (i:=5) rfl (by kernel_rfl) (fun K hK => ?_)
   go_simp
   have hu5:=bel_up (bel_self W4) (.map #[] 0)
   have hb5:=bel_on hb4 hu5
   have hsz4:=hb4.size
   refine hK.out _ _ ⟨fun _ => HSB.out _ hb5,?_⟩
   clear hK K
   have hmet : MetAt (W4.alloc (.map #[] 0)) W4.heap.size []:=⟨#[],0,heap_alloc_new W4 _,rfl⟩
   have hn5:=hn4.below hu5
   refine wpAnyF_free (i:=6) (v:=.agg #[.int .i64 (N : Int),.int .i64 (s0 : Int),fin,.slice aa m ac,.slice ia il ic,.slice oa ol oc,.slice (some ⟨Fb,0,none⟩) (N + 1) (N + 1),.map (some W4.heap.size),.slice none 0 0]) rfl (by kernel_rfl) (by kernel_rfl) (by kernel_rfl) (by kernel_rfl) (fun _ _ _ h => h) (Or.inl ⟨by rfl,fun wl hSw => ?_⟩) (HSB.out _ hb5) ?_
   ·(try dsimp only at hSw); go_simp
   have hSN : Hid (SW w ((W4.alloc (.map #[] 0)).alloc (.cells #[.int .i64 (N : Int),.int .i64 (s0 : Int),fin,.slice aa m ac,.slice ia il ic,.slice oa ol oc,.slice (some ⟨Fb,0,none⟩) (N + 1) (N + 1),.map (some W4.heap.size),.slice none 0 0] 117)) N s0 (W4.heap.size + 1) W4.heap.size Fb fin (.slice aa m ac) (.slice ia il ic) (.slice oa ol oc) (.slice none 0 0) (fstL f.arcs N) [] []):=by
    have h1 : SW w ((W4.alloc (.map #[] 0)).alloc (.cells #[.int .i64 (N : Int),.int .i64 (s0 : Int),fin,.slice aa m ac,.slice ia il ic,.slice oa ol oc,.slice (some ⟨Fb,0,none⟩) (N + 1) (N + 1),.map (some W4.heap.size),.slice none 0 0] 117)) N s0 (W4.alloc (.map #[] 0)).heap.size W4.heap.size Fb fin (.slice aa m ac) (.slice ia il ic) (.slice oa ol oc) (.slice none 0 0) (fstL f.arcs N) [] []:=SW.new hn5 hmet (by omega) (by omega) (by omega) (bel_on hbd hb5)
    rw [show (W4.alloc (.map #[] 0)).heap.size = W4.heap.size + 1 by simp] at h1
    exact h1
   have hbS:=bel_up hb5 (.cells #[.int .i64 (N : Int),.int .i64 (s0 : Int),fin,.slice aa m ac,.slice ia il ic,.slice oa ol oc,.slice (some ⟨Fb,0,none⟩) (N + 1) (N + 1),.map (some W4.heap.size),.slice none 0 0] 117)
   have HC1 : Hid (((W4.alloc (.map #[] 0)).alloc (.cells #[.int .i64 (N : Int),.int .i64 (s0 : Int),fin,.slice aa m ac,.slice ia il ic,.slice oa ol oc,.slice (some ⟨Fb,0,none⟩) (N + 1) (N + 1),.map (some W4.heap.size),.slice none 0 0] 117)).cell? ⟨w.heap.size,1,none⟩ = some (.int .i64 (s0 : Int))):=(HSB.out _ hbS).2.1
   refine wpAnyF_one (i:=7) rfl (by kernel_rfl) (fun K hK => ?_)
   go_simp
   refine hK.out _ _ ⟨fun _ => HSB.out _ hbS,?_⟩
   clear hK K
   refine wpAnyF_one (i:=8) rfl (by kernel_rfl) (fun K hK => ?_)
   go_simp
   refine hK.out _ _ ⟨fun _ => HSB.out _ hbS,?_⟩
   clear hK K
   refine wpAnyF_done (by kernel_rfl) ?_ _
   refine NoPanic.normal ?_
   go_wp2
   go_meet
   case rel => exact ⟨_,_,Fb,rfl,hSN.out,HC1.out⟩
  ·go_simp
   have hu5:=bel_up (bel_self Wd) (.map #[] 0)
   refine hK.out _ _ ⟨fun _ => HSB.out _ hu5,?_⟩
   clear hK K
   refine wpAnyF_one (i:=4) rfl (by kernel_rfl) (fun K hK => ?_)
   go_simp
   refine (hfa _ hu5).mono ?_
   rintro e W4 ⟨Fb,rfl,hn4,hg4,hb4⟩
   have hb5:=bel_on hu5 hb4
   rw [show (Wd.alloc (.map #[] 0)).heap.size = Wd.heap.size + 1 by simp] at hg4
   refine hK.out _ _ ⟨fun _ => HSB.out _ hb5,?_⟩
   clear hK K
   have hmet : MetAt W4 Wd.heap.size []:=MetAt.block (w:=Wd.alloc (.map #[] 0)) ⟨#[],0,heap_alloc_new Wd _,rfl⟩ (hb4.block _ (by simp))
   refine wpAnyF_free (i:=6) (v:=.agg #[.int .i64 (N : Int),.int .i64 (s0 : Int),fin,.slice aa m ac,.slice ia il ic,.slice oa ol oc,.slice (some ⟨Fb,0,none⟩) (N + 1) (N + 1),.map (some Wd.heap.size),.slice none 0 0]) rfl (by kernel_rfl) (by kernel_rfl) (by kernel_rfl) (by kernel_rfl) (fun _ _ _ h => h) (Or.inl ⟨by rfl,fun wl hSw => ?_⟩) (HSB.out _ hb5) ?_
   ·(try dsimp only at hSw); go_simp
   have hSN : Hid (SW w (W4.alloc (.cells #[.int .i64 (N : Int),.int .i64 (s0 : Int),fin,.slice aa m ac,.slice ia il ic,.slice oa ol oc,.slice (some ⟨Fb,0,none⟩) (N + 1) (N + 1),.map (some Wd.heap.size),.slice none 0 0] 117)) N s0 W4.heap.size Wd.heap.size Fb fin (.slice aa m ac) (.slice ia il ic) (.slice oa ol oc) (.slice none 0 0) (fstL f.arcs N) [] []):=by
    have h1 : SW w (W4.alloc (.cells #[.int .i64 (N : Int),.int .i64 (s0 : Int),fin,.slice aa m ac,.slice ia il ic,.slice oa ol oc,.slice (some ⟨Fb,0,none⟩) (N + 1) (N + 1),.map (some Wd.heap.size),.slice none 0 0] 117)) N s0 W4.heap.size Wd.heap.size Fb fin (.slice aa m ac) (.slice ia il ic) (.slice oa ol oc) (.slice none 0 0) (fstL f.arcs N) [] []:=SW.new hn4 hmet (by omega) (by omega) (by omega) (bel_on hbd hb5)
    skip
    exact h1
   have hbS:=bel_up hb5 (.cells #[.int .i64 (N : Int),.int .i64 (s0 : Int),fin,.slice aa m ac,.slice ia il ic,.slice oa ol oc,.slice (some ⟨Fb,0,none⟩) (N + 1) (N + 1),.map (some Wd.heap.size),.slice none 0 0] 117)
   have HC1 : Hid ((W4.alloc (.cells #[.int .i64 (N : Int),.int .i64 (s0 : Int),fin,.slice aa m ac,.slice ia il ic,.slice oa ol oc,.slice (some ⟨Fb,0,none⟩) (N + 1) (N + 1),.map (some Wd.heap.size),.slice none 0 0] 117)).cell? ⟨w.heap.size,1,none⟩ = some (.int .i64 (s0 : Int))):=(HSB.out _ hbS).2.1
   refine wpAnyF_one (i:=7) rfl (by kernel_rfl) (fun K hK => ?_)
   go_simp
   refine hK.out _ _ ⟨fun _ => HSB.out _ hbS,?_⟩
   clear hK K
   refine wpAnyF_one (i:=8) rfl (by kernel_rfl) (fun K hK => ?_)
   go_simp
   refine hK.out _ _ ⟨fun _ => HSB.out _ hbS,?_⟩
   clear hK K
   refine wpAnyF_done (by kernel_rfl) ?_ _
   refine NoPanic.normal ?_
   go_wp2
   go_meet
   case rel => exact ⟨_,_,Fb,rfl,hSN.out,HC1.out⟩
 case rest =>
  obtain ⟨B,Mb,Fb,rfl,hS,hc1⟩:=hcut
  rename World => w5
  clear hfa hS0 HSB HW
  have HN : Hid (foundV (lookM s0 0 0 []) = stepV 0 0):=(rfl : foundV (lookM s0 0 0 []) = stepV 0 0)
  go_wp2_with (go_at_call 98; refine (meet_new w N s0 B Mb Fb fin _ _ _ (.slice none 0 0) _ [] [] s0 0 0 0 (-1) 0 0 w5 hS (by decide) HN.out rfl).mono ?_; rintro e w6 ⟨rfl,v6,L6,hS6,hp6,_⟩)
  have hL6 : L6 = [⟨s0,0,0,0⟩]:=List.perm_singleton.1 hp6
  subst hL6
  go_ret
  exact ⟨B,Mb,Fb,v6,_,_,_,_,rfl,hS6,SGh.start HOK.out⟩
end Go.Proofs.Yteehgcbjmdideab
/- the closure that 'Walk' gives to 'find': what ending at a spot costs. -/
namespace Go.Proofs.Yteehgcbjmdideab
open Go.RowKit
attribute [local go_sem ↓] Go.wp_at_zero Go.wp_at_succ
set_option maxHeartbeats 1000000 in
theorem walkEnd_any (f : FstD) (ins outs : List Int) (N s0 : Nat) (fa : Option Addr) (fl fc : Nat) (ia : Option Addr) (il ic : Nat) (oa : Option Addr) (ol oc : Nat) (bi bo bf : Nat) (n i o : Nat) (w : World)
  (hok : OkW f ins outs N s0) (hil : ins.length = il) (hol : outs.length = ol)
  (hbi : w.cell? ⟨bi,0,none⟩ = some (.slice ia il ic)) (hbo : w.cell? ⟨bo,0,none⟩ = some (.slice oa ol oc)) (hbf : w.cell? ⟨bf,2,none⟩ = some (.slice fa fl fc)) (hfi : ISlice w (.slice fa fl fc) f.final)
  (hn : n < N) (hi : i <= il) (ho : o <= ol) :
  Calls Try.prog 77 #[.agg #[.int .i64 n,.int .i64 i,.int .i64 o],.pointer (some ⟨bi,0,none⟩),.pointer (some ⟨bo,0,none⟩),.pointer (some ⟨bf,0,none⟩)] w fun e w' =>
   e = .returned (.int .i64 (finS (totS ins outs N) N f.final (spotN N outs.length n i o))) /\ Below w.heap.size w w':=by
 have hb0:=bel_up (bel_self w) (.cells #[.int .i64 n,.int .i64 i,.int .i64 o] 96)
 have k1:=bel_keep hb0 (cell_lt hbi) hbi
 have k2:=bel_keep hb0 (cell_lt hbo) hbo
 have k3:=bel_keep hb0 (cell_lt hbf) hbf
 have hi4:=hok.i40
 have ho4:=hok.o40
 by_cases h1 : i < il
 ·have e1 : finS (totS ins outs N) N f.final (spotN N outs.length n i o) = -1:=finS_no N ins.length outs.length n i o f.final hn (by omega) (by omega) (Or.inl (by omega))
  rw [e1]
  have h1i : (i : Int) < il:=by omega
  clear e1 hok hil hol hfi
  go_enter Try.func77,Try.ntmps77
  go_wp2
  go_ret
  exact ⟨rfl,hb0⟩
 ·have hie : i = il:=by omega
  subst hie
  by_cases h2 : o < ol
  ·have e1 : finS (totS ins outs N) N f.final (spotN N outs.length n i o) = -1:=finS_no N ins.length outs.length n i o f.final hn (by omega) (by omega) (Or.inr (by omega))
   rw [e1]
   have h2i : (o : Int) < ol:=by omega
   clear e1 hok hil hol hfi
   go_enter Try.func77,Try.ntmps77
   go_wp2
   go_ret
   exact ⟨rfl,hb0⟩
  ·have hoe : o = ol:=by omega
   subst hoe
   have e1 : finS (totS ins outs N) N f.final (spotN N outs.length n i o) = gI f.final n:=by
    have:=finS_end N ins.length outs.length n f.final
    rw [hil,hol] at this
    unfold totS
    rw [hil,hol]
    exact this
   rw [e1]
   obtain ⟨a',n',c',he,hl,_⟩:=hfi.lenOf
   injection he with q1 q2 q3
   subst q1 q2 q3
   have hfl:=hok.len
   obtain ⟨b,off,rfl,hx⟩:=(hfi.below hb0).some (by omega)
   have c0:=hx.cell n (by omega)
   have hnn : n < fl:=by omega
   have hni : (n : Int) < fl:=by omega
   have e2 : f.final.getD n 0 = gI f.final n:=by
    unfold gI
    simp [List.getD,show n < f.final.length by omega]
   rw [e2] at c0
   clear e1 e2 hok hil hol hfi hl hfl hx
   go_enter Try.func77,Try.ntmps77
   go_wp2
   go_ret
   exact ⟨rfl,hb0⟩
end Go.Proofs.Yteehgcbjmdideab
/- 'Word' of package score,'CheckWord' of the document. -/
namespace Go.Proofs.Yteehgcbjmdideab
open Go.RowKit
attribute [local go_sem ↓] Go.wp_at_zero Go.wp_at_succ
def badL (x : Int) : Bool:=!inB x 1 9
def wordD (l : List Int) : Int:=if l.length > 40 then 2 else if l.any badL then 3 else 0
theorem badL_lt (x : Int) (h : x < 1) : badL x = true:=by unfold badL inB; simp; omega
theorem badL_gt (x : Int) (h : 9 < x) : badL x = true:=by unfold badL inB; simp; omega
theorem badL_in (x : Int) (h1 : 1 <= x) (h2 : x <= 9) : badL x = false:=by unfold badL inB; simp; omega
set_option maxHeartbeats 400000 in
theorem letter_any (a : Int) (w : World) :
  Calls Try.prog 79 #[.int .i64 a] w fun e w' => e = .returned (.bool (badL a)) /\ Below w.heap.size w w':=by
 by_cases h1 : a < 1
 ·rw [badL_lt a h1]
  go_enter Try.func79,Try.ntmps79
  go_wp2
  go_ret
  exact ⟨rfl,bel_self _⟩
 ·by_cases h2 : 9 < a
  ·rw [badL_gt a h2]
   go_enter Try.func79,Try.ntmps79
   go_wp2
   go_ret
   exact ⟨rfl,bel_self _⟩
  ·rw [badL_in a (by omega) (by omega)]
   go_enter Try.func79,Try.ntmps79
   go_wp2
   go_ret
   exact ⟨rfl,bel_self _⟩
theorem goL : ∀ args w,(callFunc 79 args).run Try.prog w = .ok (.enter 79 args) w:=by
 intro args w
 have h1 : (Try.f79.name == "runtime.NumGoroutine") = false := by kernel_rfl
 have h2 : Try.f79.body.isNone = false:=by kernel_rfl
 have h3 : ¬ Try.f79.name = "runtime.NumGoroutine" := by simpa using h1
 have h4 : ¬ Try.f79.body = none:=fun e => by rw [e] at h2; cases h2
 simp [callFunc,Try.func79,h3,h4]
set_option maxHeartbeats 1000000 in
theorem intIndex_any (p : Int -> Bool) (F : Nat) (hG : ∀ args w,(callFunc F args).run Try.prog w = .ok (.enter F args) w) (hF : ∀ (a : Int) (w : World),Calls Try.prog F #[.int .i64 a] w fun e w' => e = .returned (.bool (p a)) /\ Below w.heap.size w w')
  (ars : List Int) (aa : Option Addr) (m ac : Nat) (w : World) (ha : ISlice w (.slice aa m ac) ars) (hal : ars.length = m) (hm : m <= 3000) :
  Calls Try.prog 95 #[.slice aa m ac,.func (.func F) #[] #[]] w fun e w' => ∃ i : Int,e = .returned (.int .i64 i) /\ decide (0 <= i) = ars.any p /\ Below w.heap.size w w':=by
 have HAL : Hid (ars.length = m):=hal
 clear hal
 go_enter Try.func95,Try.ntmps95
 go_wp2
 go_loopw [8] (fun i wr => ∃ k : Nat,k <= m /\ i = .int .i64 k /\ (∀ j,j < k -> p (ars.getD j 0) = false) /\ Below w.heap.size w wr) (fun i _ => m - (intOf i).toNat)
 case atStart => exact ⟨0,Nat.zero_le _,rfl,fun j hj => absurd hj (Nat.not_lt_zero _),bel_self _⟩
 case round =>
  obtain ⟨k,hk,rfl,hall,hb⟩:=hrel
  have HA : Hid (∀ j,j < k -> p (ars.getD j 0) = false):=hall
  clear hall
  by_cases hlt : k < m
  ·obtain ⟨ab,aoff,rfl,hx⟩:=(ha.below hb).some (by omega)
   obtain ⟨a,hak⟩ : ∃ a,a = ars.getD k 0:=⟨_,rfl⟩
   have c0:=hx.cell k hlt
   rw [<- hak] at c0
   have HAK : Hid (a = ars.getD k 0):=hak
   have hki : (k : Int) < m:=by omega
   have hcall:=hF a
   clear hak hx
   cases hp : p a with
   | false =>
    have HP : Hid (p a = false):=hp
    rw [hp] at hcall
    clear hp
    go_wp2_with (refine (hcall _).mono ?_; rintro e w1 ⟨rfl,hb1⟩)
    go_roundw
    case rel =>
     refine ⟨k + 1,by omega,by go_num,fun j hj => ?_,bel_on hb hb1⟩
     by_cases e : j = k
     ·subst e; rw [<- HAK.out]; exact HP.out
     ·exact HA.out j (by omega)
    case measure => simp [intOf]; omega
   | true =>
    have HP : Hid (p a = true):=hp
    rw [hp] at hcall
    clear hp
    go_wp2_with (refine (hcall _).mono ?_; rintro e w1 ⟨rfl,hb1⟩)
    go_ret
    refine ⟨k,rfl,?_,bel_on hb hb1⟩
    have : ars.any p = true:=by
     rw [List.any_eq_true]
     refine ⟨a,?_,HP.out⟩
     rw [HAK.out]
     have:=HAL.out
     simp [List.getD,show k < ars.length by omega]
    rw [this]
    simp
  ·go_wp2
   go_ret
   refine ⟨-1,rfl,?_,hb⟩
   have : ars.any p = false:=by
    rw [List.any_eq_false]
    intro a ha2
    obtain ⟨j,hj,rfl⟩:=List.getElem_of_mem ha2
    have:=HA.out j (by have:=HAL.out; omega)
    simpa [List.getD,hj] using this
   rw [this]
   decide
set_option maxHeartbeats 1000000 in
theorem intContains_any (p : Int -> Bool) (F : Nat) (hG : ∀ args w,(callFunc F args).run Try.prog w = .ok (.enter F args) w) (hF : ∀ (a : Int) (w : World),Calls Try.prog F #[.int .i64 a] w fun e w' => e = .returned (.bool (p a)) /\ Below w.heap.size w w')
  (ars : List Int) (aa : Option Addr) (m ac : Nat) (w : World) (ha : ISlice w (.slice aa m ac) ars) (hal : ars.length = m) (hm : m <= 3000) :
  Calls Try.prog 72 #[.slice aa m ac,.func (.func F) #[] #[]] w fun e w' => e = .returned (.bool (ars.any p)) /\ Below w.heap.size w w':=by
 go_enter Try.func72,Try.ntmps72
 go_wp2_with (go_at_call 95; refine (intIndex_any p F hG hF ars aa m ac _ ha hal hm).mono ?_; rintro e w1 ⟨i,rfl,hi,hb1⟩)
 go_ret
 exact ⟨rfl,hb1⟩
set_option maxHeartbeats 1000000 in
theorem word_any (l : List Int) (aa : Option Addr) (m ac : Nat) (w : World) (ha : ISlice w (.slice aa m ac) l) (hal : l.length = m) :
  Calls Try.prog 44 #[.slice aa m ac] w fun e w' => e = .returned (.int .i64 (wordD l)) /\ Below w.heap.size w w':=by
 obtain ⟨a',n',c',he,hl,hml⟩:=ha.lenOf
 injection he with q1 q2 q3
 subst q1 q2 q3
 unfold maxLen at hml
 by_cases h1 : 40 < m
 ·have e1 : wordD l = 2:=by unfold wordD; rw [if_pos (by omega)]
  rw [e1]
  have h1i : (40 : Int) < m:=by omega
  clear e1 hl hal
  go_enter Try.func44,Try.ntmps44
  go_wp2
  go_ret
  exact ⟨rfl,bel_self _⟩
 ·have h1i : ¬ (40 : Int) < m:=by omega
  cases hp : l.any badL with
  | true =>
   have e1 : wordD l = 3:=by unfold wordD; rw [if_neg (by omega),hp]; rfl
   rw [e1]
   have hcon:=intContains_any badL 79 goL letter_any l aa m ac w ha hal (by omega)
   rw [hp] at hcon
   clear e1 hl hal hp
   go_enter Try.func44,Try.ntmps44
   go_wp2_with (go_at_call 72; refine hcon.mono ?_; rintro e w1 ⟨rfl,hb1⟩)
   go_ret
   exact ⟨rfl,hb1⟩
  | false =>
   have e1 : wordD l = 0:=by unfold wordD; rw [if_neg (by omega),hp]; rfl
   rw [e1]
   have hcon:=intContains_any badL 79 goL letter_any l aa m ac w ha hal (by omega)
   rw [hp] at hcon
   clear e1 hl hal hp
   go_enter Try.func44,Try.ntmps44
   go_wp2_with (go_at_call 72; refine hcon.mono ?_; rintro e w1 ⟨rfl,hb1⟩)
   go_ret
   exact ⟨rfl,hb1⟩
end Go.Proofs.Yteehgcbjmdideab
/- The way back from the last spot: by which arc each spot was met. -/
namespace Go.Proofs.Yteehgcbjmdideab
open Go.RowKit
def muB (c : List Int) (r : Nat -> Nat) (R u : Nat) : Nat:=(gI c u).toNat * (R + 1) + r u
def BStep (f : FstD) (ins outs : List Int) (N : Nat) (c y : List Int) (k : Int) (n i o n' i' o' : Nat) : Prop :=
 ∃ (j : Nat) (a : ArcD),k = j /\ arcOf f.arcs.length (gI y (spotN N outs.length n i o)) = j /\ f.arcs[j]? = some a /\ a.src = n' /\ a.dst = n /\ fitB ins i' a.inp = true /\ fitB outs o' a.out = true /\ i = usedBy i' a.inp /\ o = usedBy o' a.out /\ n' < N /\ i' <= ins.length /\ o' <= outs.length /\
  0 <= gI c (spotN N outs.length n' i' o') /\ gI c (spotN N outs.length n' i' o') + a.wt <= gI c (spotN N outs.length n i o)
def BWay (f : FstD) (ins outs : List Int) (N s0 : Nat) (c y : List Int) : List Int -> Nat -> Nat -> Nat -> Prop
 | [],n,i,o => n = s0 /\ i = 0 /\ o = 0 /\ gI y (spotN N outs.length n i o) = -1 /\ gI c (spotN N outs.length n i o) = 0
 | k :: l,n,i,o => ∃ n' i' o',BStep f ins outs N c y k n i o n' i' o' /\ BWay f ins outs N s0 c y l n' i' o'
theorem edS_at {N : Nat} {ins outs : List Int} {arcs : List ArcD} {j : Nat} {e : Edg} (h : (edS N ins outs arcs)[j]? = some e) :
  ∃ i o a,i <= ins.length /\ o <= outs.length /\ arcs[j % arcs.length]? = some a /\ e = edgeS N ins outs i o a:=by
 obtain ⟨hlt,_⟩:=List.getElem?_eq_some_iff.1 h
 have hl : (edS N ins outs arcs).length = (ins.length + 1) * (outs.length + 1) * arcs.length:=edK_len N ins outs arcs _
 rw [hl] at hlt
 have hm : 0 < arcs.length:=by
  rcases Nat.eq_zero_or_pos arcs.length with e0 | e0
  ·rw [e0,Nat.mul_zero] at hlt; omega
  ·exact e0
 have hp : j / arcs.length < (ins.length + 1) * (outs.length + 1):=Nat.div_lt_of_lt_mul (by rw [Nat.mul_comm]; exact hlt)
 obtain ⟨h1,h2,h3⟩:=place_of hp
 have hk : j % arcs.length < arcs.length:=Nat.mod_lt _ hm
 have hg:=edS_get (N:=N) (arcs:=arcs) (a:=arcs[j % arcs.length]) h1 h2 (List.getElem?_eq_getElem hk)
 rw [h3,Nat.mul_comm,Nat.div_add_mod,h] at hg
 injection hg with hg
 exact ⟨_,_,_,h1,h2,List.getElem?_eq_getElem hk,hg⟩
theorem mu_less {c : List Int} {r : Nat -> Nat} {R u v : Nat} {wt : Int} (hr : ∀ x,r x <= R) (h0 : 0 <= gI c u) (hw : 0 <= wt) (hle : gI c u + wt <= gI c v) (he : gI c u + wt = gI c v -> r u < r v) : muB c r R u < muB c r R v:=by
 unfold muB
 by_cases e : gI c u = gI c v
 ·have:=he (by omega)
  rw [e]
  omega
 ·have h1 : (gI c u).toNat + 1 <= (gI c v).toNat:=by omega
  have h2:=Nat.mul_le_mul_right (R + 1) h1
  rw [Nat.add_mul,Nat.one_mul] at h2
  have:=hr u
  omega
theorem back_spot {f : FstD} {ins outs : List Int} {N s0 : Nat} {c y : List Int} {r : Nat -> Nat} {R : Nat} (hok : OkW f ins outs N s0) (hl : c.length = totS ins outs N) (hr : ∀ x,r x <= R) (hby : ByOk (EdS f ins outs N) (bgS s0 (totS ins outs N)) c y r) {n i o : Nat} (hn : n < N) (hi : i <= ins.length) (ho : o <= outs.length) (hc : 0 <= gI c (spotN N outs.length n i o)) :
  (arcOf f.arcs.length (gI y (spotN N outs.length n i o)) = -1 /\ BWay f ins outs N s0 c y [] n i o) \/ ∃ (k : Nat) (n' i' o' : Nat),BStep f ins outs N c y k n i o n' i' o' /\ muB c r R (spotN N outs.length n' i' o') < muB c r R (spotN N outs.length n i o):=by
 have hu : spotN N outs.length n i o < totS ins outs N:=spotN_lt hn hi ho
 rcases hby _ (by rw [hl]; exact hu) with ⟨h1,h2⟩ | ⟨j,e,h1,h2,h3,h4,h5,h6,h7⟩
 ·refine Or.inl ⟨by rw [h1]; rfl,?_⟩
  rw [h2,bgS_at] at hc
  by_cases es : spotN N outs.length n i o = s0 /\ spotN N outs.length n i o < totS ins outs N
  ·have e0 : spotN N outs.length s0 0 0 = s0:=by unfold spotN; omega
   obtain ⟨g1,g2,g3⟩:=spotN_inj hn hok.s ho (Nat.zero_le _) (es.1.trans e0.symm)
   refine ⟨g1,g2,g3,h1,?_⟩
   rw [h2,bgS_at,if_pos es]
  ·rw [if_neg es] at hc
   omega
 ·right
  obtain ⟨i',o',a,hi',ho',ha,rfl⟩:=edS_at h2
  obtain ⟨⟨p1,p2⟩,⟨p3,p4⟩,p5,_⟩:=hok.arcs a (List.mem_of_getElem? ha)
  unfold edgeS at h3 h4 h6 h7
  by_cases hf : (fitB ins i' a.inp && fitB outs o' a.out) = true
  ·rw [if_pos hf] at h3 h4 h6 h7
   dsimp only at h3 h4 h6 h7
   rw [Bool.and_eq_true] at hf
   obtain ⟨q1,q2,q3⟩:=spotN_inj (by omega) hn (usedBy_le hf.2 ho') ho h3
   refine ⟨j % f.arcs.length,a.src.toNat,i',o',⟨j % f.arcs.length,a,rfl,?_,ha,by omega,by omega,hf.1,hf.2,q2.symm,q3.symm,by omega,hi',ho',h4,h6⟩,mu_less hr h4 p5 h6 h7⟩
   rw [h1]
   unfold arcOf
   rw [if_neg (by omega)]
   omega
  ·rw [if_neg hf] at h3 h4 h6 h7
   dsimp only at h3 h4 h6 h7
   have:=h7 (by rw [<- h3]; omega)
   rw [<- h3] at this
   omega
end Go.Proofs.Yteehgcbjmdideab
