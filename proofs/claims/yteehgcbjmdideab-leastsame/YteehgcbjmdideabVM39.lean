/- 'LeastSame': both come. (Made by wip/gen/lsa.py.) -/
import Derived.Test.YteehgcbjmdideabVM38
import Derived.Test.YteehgcbjmdideabVCheckF
import Derived.ProofKit
import Derived.OpenShut
import Derived.Deep.Slices
import Derived.Lib.SmallJoins
import Derived.ChangeArms
set_option maxRecDepth 100000
namespace Go.Proofs.Yteehgcbjmdideab
open Go.RowKit
attribute [local go_sem ↓] Go.wp_at_zero Go.wp_at_succ
def WoOk (t : FstD) (N s0 : Nat) (w : World) (e : Ending) (w' : World) : Prop :=
 ∃ (fa : Option Addr) (fn fc : Nat) (aa : Option Addr) (am ac : Nat) (xa : Option Addr) (xn xc : Nat) (pa : Option Addr) (pn pc : Nat) (la : Option Addr) (ln lc : Nat) (ws cs : List (List Int)) (ps ls : List Int),e = .returned (.tuple #[.agg #[.int .i64 (N : Int),.int .i64 (s0 : Int),.slice fa fn fc,.slice aa am ac,.slice xa xn xc,.slice pa pn pc,.slice la ln lc],.bool true]) /\ Whole t N s0 ws cs ps ls /\ WV w' t N (.slice fa fn fc) (.slice aa am ac) (.slice xa xn xc) (.slice pa pn pc) (.slice la ln lc) cs ps ls /\ Below w.heap.size w w'
theorem words_ok {f t : FstD} {N s0 : Nat} (hd : DIn f t N s0) (hm : ¬ ManyD t s0) (fin arcs : Value) (w : World) (hf : ISlice w fin f.final) (ha : ASlice w arcs f.arcs) : Calls Try.prog 12 #[.agg #[.int .i64 f.states,.int .i64 f.start,fin,arcs]] w fun e w' => WoOk t N s0 w e w':=by
 refine (wordsOf_any f t N s0 fin arcs w hd hf ha).mono ?_
 rintro e W0 ⟨b,w3,Wm,fa,fn,fc,aa,am,ac,cv,pv,lv,LC,ws,cs,ps,ls,i,c,rfl,hb2,hFT,_,hw3,hT,hM,hq,hyes,hnob⟩
 have hbt : b = true:=by
  cases b
  ·exact absurd (hT.many (hnob rfl)) hm
  ·rfl
 subst hbt
 obtain ⟨rfl,rfl,hfew⟩:=hyes rfl
 have hws0 : 0 < ws.length:=by have:=(List.getElem?_eq_some_iff.1 hT.w0).1; omega
 have hwv : WV W0 t N (.slice fa fn fc) (.slice aa am ac) cv pv lv cs ps ls:=wv_of hFT hw3 hM hq (by have:=hT.l1; omega) (by have:=hT.l1; have:=hT.l2; omega) (by have:=hT.l1; have:=hT.l3; omega)
 obtain ⟨xa,xc,rfl⟩:=own_slice hM.oC
 obtain ⟨pa,pc,rfl⟩:=own_slice hM.oP
 obtain ⟨la,lc,rfl⟩:=own_slice hM.oL
 exact ⟨fa,fn,fc,aa,am,ac,xa,_,xc,pa,_,pc,la,_,lc,ws,cs,ps,ls,rfl,⟨hT,hfew,hd.hT.sin⟩,hwv,hb2⟩
set_option maxHeartbeats 3200000 in
theorem ls_five (f g : FstD) (t : FstD) (N s0 K : Nat) (o : FstD) (t2 : FstD) (N2 s02 K2 : Nat) (q : FstD) (fin arcs fin' arcs' : Value) (w : World) (hf : ISlice w fin f.final) (ha : ASlice w arcs f.arcs) (hf' : ISlice w fin' g.final) (ha' : ASlice w arcs' g.arcs) (hok : LeOk f t N s0 K o) (hok2 : LeOk g t2 N2 s02 K2 q) (hsame : ∀ W : World,ISlice W fin f.final -> ASlice W arcs f.arcs -> ISlice W fin' g.final -> ASlice W arcs' g.arcs -> Calls Try.prog 23 #[.agg #[.int .i64 f.states,.int .i64 f.start,fin,arcs],.agg #[.int .i64 g.states,.int .i64 g.start,fin',arcs']] W fun e w' => IsSame (detX t N K) K (detX t2 N2 K2) K2 W e w') :
  Calls Try.prog 5 #[.agg #[.int .i64 f.states,.int .i64 f.start,fin,arcs],.agg #[.int .i64 g.states,.int .i64 g.start,fin',arcs']] w fun e w' => e = .returned (.bool true) /\ Below w.heap.size w w':=by
 obtain ⟨fa,fn,fc,rfl,_,_⟩:=hf.lenOf
 obtain ⟨aa,am,ac,rfl,_,_⟩:=ha.lenOf
 obtain ⟨ga,gn,gc,rfl,_,_⟩:=hf'.lenOf
 obtain ⟨ba,bm,bc,rfl,_,_⟩:=ha'.lenOf
 obtain ⟨A1,hA1⟩ : ∃ W,W = w.alloc (.cells #[.int .i64 f.states,.int .i64 f.start,.slice fa fn fc,.slice aa am ac] 25):=⟨_,rfl⟩
 obtain ⟨A2,hA2⟩ : ∃ W,W = A1.alloc (.cells #[.int .i64 g.states,.int .i64 g.start,.slice ga gn gc,.slice ba bm bc] 25):=⟨_,rfl⟩
 have z1 : A1.heap.size = w.heap.size + 1:=by rw [hA1]; exact one_size _ _
 have k1 : Below w.heap.size w A1:=by rw [hA1]; exact bel_up (bel_self _) _
 have k2 : Below A1.heap.size A1 A2:=by rw [hA2]; exact bel_up (bel_self _) _
 have hk:=bel_on k1 k2
 have hcF : CellsF A2 w.heap.size f.states f.start (.slice fa fn fc) (.slice aa am ac):=(by rw [hA1]; exact cellsF_new _ _ _ _ _ _ : CellsF A1 w.heap.size f.states f.start (.slice fa fn fc) (.slice aa am ac)).below k2
 have hcG : CellsF A2 (w.heap.size + 1) g.states g.start (.slice ga gn gc) (.slice ba bm bc):=by rw [hA2,<- z1]; exact cellsF_new _ _ _ _ _ _
 have HF : Hid (∀ W,Below A2.heap.size A2 W -> ISlice W (.slice fa fn fc) f.final /\ ASlice W (.slice aa am ac) f.arcs /\ CellsF W w.heap.size f.states f.start (.slice fa fn fc) (.slice aa am ac)):=fun W h => ⟨(hf.below hk).below h,(ha.below hk).below h,hcF.below h⟩
 have HG : Hid (∀ W,Below A2.heap.size A2 W -> ISlice W (.slice ga gn gc) g.final /\ ASlice W (.slice ba bm bc) g.arcs /\ CellsF W (w.heap.size + 1) g.states g.start (.slice ga gn gc) (.slice ba bm bc)):=fun W h => ⟨(hf'.below hk).below h,(ha'.below hk).below h,hcG.below h⟩
 have h23:=hsame A2 (hf.below hk) (ha.below hk) (hf'.below hk) (ha'.below hk)
 have HK:=hid_of hk
 have HA:=hid_of (And.intro hA1 hA2)
 rw [hA2,hA1] at h23
 obtain ⟨q0,q1,q2,q3⟩:=hcF
 obtain ⟨p0,p1,p2,p3⟩:=hcG
 rw [hA2,hA1] at q0 q1 q2 q3 p0 p1 p2 p3
 clear hf ha hf' ha' hA1 hA2 k1 k2 z1 hk hsame
 have HOK:=hid_of hok
 have HOK2:=hid_of hok2
 have hck:=hok.cl
 have hlo:=hok.lo
 have hck2:=hok2.cl
 have hlo2:=hok2.lo
 clear hok hok2
 go_enter Try.func5,Try.ntmps5
 go_upto_region 2 with (go_at_call 23; refine h23.mono ?_; rintro e w1 ⟨o',q',ho,hq,rfl,hb1⟩; rw [<- HA.out.1,<- HA.out.2] at hb1; clear h23)
 clear q0 q1 q2 q3 p0 p1 p2 p3
 obtain rfl:=out_once (HOK.out.done.xin HOK.out.din.hT).1 HOK.out.out ho
 obtain rfl:=out_once (HOK2.out.done.xin HOK2.out.din.hT).1 HOK2.out.out hq
 obtain ⟨sb,hsb⟩ : ∃ b,b = sameL o q:=⟨_,rfl⟩
 have HSB:=hid_of hsb
 rw [<- hsb]
 clear hsb ho hq
 have hc:=hck _ _ w1 (HF.out w1 hb1).1 (HF.out w1 hb1).2.1
 obtain ⟨q0,q1,q2,q3⟩:=(HF.out w1 hb1).2.2
 go_upto_region 3 with (go_at_call 19; refine hc.mono ?_; rintro e w2 ⟨rfl,hb⟩; clear hc)
 clear q0 q1 q2 q3
 have hb2:=bel_on hb1 hb
 clear hb
 have hc:=hlo _ _ w2 (HF.out w2 hb2).1 (HF.out w2 hb2).2.1
 obtain ⟨q0,q1,q2,q3⟩:=(HF.out w2 hb2).2.2
 go_upto_region 5 with (go_at_call 20; refine hc.mono ?_; rintro e w3 ⟨da,dn,dc,ea,en,ec,rfl,_,_,_,_,hb⟩; clear hc)
 clear q0 q1 q2 q3
 have hb3:=bel_on hb2 hb
 clear hb
 have hc:=hck2 _ _ w3 (HG.out w3 hb3).1 (HG.out w3 hb3).2.1
 obtain ⟨p0,p1,p2,p3⟩:=(HG.out w3 hb3).2.2
 go_upto_region 7 with (go_at_call 19; refine hc.mono ?_; rintro e w4 ⟨rfl,hb⟩; clear hc)
 clear p0 p1 p2 p3
 have hb4:=bel_on hb3 hb
 clear hb
 have hc:=hlo2 _ _ w4 (HG.out w4 hb4).1 (HG.out w4 hb4).2.1
 obtain ⟨p0,p1,p2,p3⟩:=(HG.out w4 hb4).2.2
 go_upto_region 9 with (go_at_call 20; refine hc.mono ?_; rintro e w5 ⟨da2,dn2,dc2,ea2,en2,ec2,rfl,_,_,_,_,hb⟩; clear hc)
 clear p0 p1 p2 p3
 have hb5:=bel_on hb4 hb
 clear hb
 have hc:=words_ok HOK.out.din HOK.out.nm _ _ w5 (HF.out w5 hb5).1 (HF.out w5 hb5).2.1
 obtain ⟨q0,q1,q2,q3⟩:=(HF.out w5 hb5).2.2
 clear hck hlo hck2 hlo2 hb1 hb2 hb3 hb4
 go_upto_region 12 with (go_at_call 12; refine hc.mono ?_; rintro e w6 ⟨ufa,ufn,ufc,uaa,uam,uac,uxa,uxn,uxc,upa,upn,upc,ula,uln,ulc,ws,cs,ps,ls,rfl,hT,hwv,hb6⟩; clear hc)
 clear q0 q1 q2 q3
 obtain ⟨B1,hB1⟩ : ∃ W,W = w6.alloc (.cells #[.int .i64 (N : Int),.int .i64 (s0 : Int),.slice ufa ufn ufc,.slice uaa uam uac,.slice uxa uxn uxc,.slice upa upn upc,.slice ula uln ulc] 33):=⟨_,rfl⟩
 have hbb1 : Below w6.heap.size w6 B1:=by rw [hB1]; exact bel_up (bel_self _) _
 have c4 : ∀ (k : Nat) (v : Value),(#[.int .i64 (N : Int),.int .i64 (s0 : Int),.slice ufa ufn ufc,.slice uaa uam uac,.slice uxa uxn uxc,.slice upa upn upc,.slice ula uln ulc] : Array Value)[k]? = some v -> B1.cell? ⟨w6.heap.size,k,none⟩ = some v:=fun k v hk => by rw [hB1]; exact new_cell _ _ _ _ k _ rfl hk
 rw [<- hB1]
 clear hB1
 have hb7:=bel_on hb5 (bel_on hb6 hbb1)
 have HW1:=hid_of (And.intro hT (hwv.below hbb1))
 have hc:=words_ok HOK2.out.din HOK2.out.nm _ _ B1 (HG.out B1 hb7).1 (HG.out B1 hb7).2.1
 obtain ⟨p0,p1,p2,p3⟩:=(HG.out B1 hb7).2.2
 clear hT hwv hbb1 hb6
 go_upto_region 13 with (go_at_call 12; refine hc.mono ?_; rintro e w8 ⟨vfa,vfn,vfc,vaa,vam,vac,vxa,vxn,vxc,vpa,vpn,vpc,vla,vln,vlc,ws2,cs2,ps2,ls2,rfl,hT2,hwv2,hb8⟩; clear hc)
 clear p0 p1 p2 p3
 obtain ⟨B2,hB2⟩ : ∃ W,W = w8.alloc (.cells #[.int .i64 (N2 : Int),.int .i64 (s02 : Int),.slice vfa vfn vfc,.slice vaa vam vac,.slice vxa vxn vxc,.slice vpa vpn vpc,.slice vla vln vlc] 33):=⟨_,rfl⟩
 have hbb2 : Below w8.heap.size w8 B2:=by rw [hB2]; exact bel_up (bel_self _) _
 have d4 : ∀ (k : Nat) (v : Value),(#[.int .i64 (N2 : Int),.int .i64 (s02 : Int),.slice vfa vfn vfc,.slice vaa vam vac,.slice vxa vxn vxc,.slice vpa vpn vpc,.slice vla vln vlc] : Array Value)[k]? = some v -> B2.cell? ⟨w8.heap.size,k,none⟩ = some v:=fun k v hk => by rw [hB2]; exact new_cell _ _ _ _ k _ rfl hk
 rw [<- hB2]
 clear hB2
 have hb9:=bel_on hb8 hbb2
 have hsw:=sameWords_any t t2 N s0 N2 s02 _ _ _ _ _ _ _ _ _ _ ws cs ws2 cs2 ps ls ps2 ls2 B2 HW1.out.1 hT2 (trim_live HOK.out.din.hT) (trim_live HOK2.out.din.hT) (HW1.out.2.below hb9) (hwv2.below hbb2)
 have hbE:=bel_on hb7 hb9
 have r0:=bel_c hb9 (c4 0 _ rfl)
 have s0:=d4 0 _ rfl
 have r1:=bel_c hb9 (c4 1 _ rfl)
 have s1:=d4 1 _ rfl
 have r2:=bel_c hb9 (c4 2 _ rfl)
 have s2:=d4 2 _ rfl
 have r3:=bel_c hb9 (c4 3 _ rfl)
 have s3:=d4 3 _ rfl
 have r4:=bel_c hb9 (c4 4 _ rfl)
 have s4:=d4 4 _ rfl
 have r5:=bel_c hb9 (c4 5 _ rfl)
 have s5:=d4 5 _ rfl
 have r6:=bel_c hb9 (c4 6 _ rfl)
 have s6:=d4 6 _ rfl
 clear c4 d4 hT2 hwv2 hbb2 hb8 hb7 hb9 hb5
 go_upto_region 14 with (go_at_call 24; refine hsw.mono ?_; rintro e wA ⟨b,rfl,hbi,hbA⟩; clear hsw)
 have hbs : sb = b:=by
  have h1:=HOK.out.same_iff HOK2.out
  rw [<- alike_same,<- HSB.out,<- hbi] at h1
  cases sb <;> cases b <;> simp at h1 <;> rfl
 subst hbs
 have hbF:=bel_on hbE hbA
 clear hbi hbE hbA r0 r1 r2 r3 r4 r5 r6 s1 s2 s3 s4 s5 s6
 go_wp2_with (go_at_call 21; refine (leastBegun_any _).mono ?_; rintro e w9 ⟨rfl,hb9⟩; have HB9:=hid_of (bel_on hbF hb9); clear hb9)
 go_ret
 exact ⟨rfl,bel_on HK.out HB9.out⟩
theorem leastSame_any (f g : FstD) (fin arcs fin' arcs' : Value) (w : World) (hf : ISlice w fin f.final) (ha : ASlice w arcs f.arcs) (hf' : ISlice w fin' g.final) (ha' : ASlice w arcs' g.arcs) :
  Calls Try.prog 5 #[.agg #[.int .i64 f.states,.int .i64 f.start,fin,arcs],.agg #[.int .i64 g.states,.int .i64 g.start,fin',arcs']] w fun e w' => e = .returned (.bool true) /\ Below w.heap.size w w':=by
 have hsl : (∃ a n k,fin' = .slice a n k) /\ ∃ a n k,arcs' = .slice a n k:=by
  obtain ⟨ga,gn,gc,e1,_,_⟩:=hf'.lenOf
  obtain ⟨ba,bm,bc,e2,_,_⟩:=ha'.lenOf
  exact ⟨⟨_,_,_,e1⟩,_,_,_,e2⟩
 rcases least_what f with ⟨c,h0,h1,h2⟩ | ⟨t,N,s0,K,o,hok⟩
 ·have hs : SaN f g fin arcs fin' arcs' c:=fun W k1 k2 _ _ => Same_first f g c fin arcs fin' arcs' W k1 k2 hsl h0 fun W k3 k4 => h1 _ _ W k3 k4
  rcases h2 with h2 | ⟨h2,h3⟩
  ·exact ls_one f g c fin arcs fin' arcs' w hf ha hf' ha' h0 hs h2
  ·exact ls_two f g c fin arcs fin' arcs' w hf ha hf' ha' h0 hs h2 h3
 ·rcases least_what g with ⟨c,h0,h1,h2⟩ | ⟨t2,N2,s02,K2,q,hok2⟩
  ·have hs : SaN f g fin arcs fin' arcs' c:=fun W k1 k2 k3 k4 => Same_second f g _ K c fin arcs fin' arcs' W k1 k2 k3 k4 h0 (fun W k5 k6 => hok.le _ _ W k5 k6) fun W k5 k6 => h1 _ _ W k5 k6
   rcases h2 with h2 | ⟨h2,h3⟩
   ·exact ls_three f g o c fin arcs fin' arcs' w hf ha hf' ha' h0 hs hok.cl hok.lo h2
   ·exact ls_four f g o c fin arcs fin' arcs' w hf ha hf' ha' h0 hs hok.cl hok.lo h2 h3
  ·exact ls_five f g t N s0 K o t2 N2 s02 K2 q fin arcs fin' arcs' w hf ha hf' ha' hok hok2 fun W k1 k2 k3 k4 => Same_both f g _ _ K K2 fin arcs fin' arcs' W k1 k2 k3 k4 (fun W k5 k6 => hok.le _ _ W k5 k6) fun W k5 k6 => hok2.le _ _ W k5 k6
end Go.Proofs.Yteehgcbjmdideab
/- A transducer that came in,taken apart: what its value and its lists are. -/
namespace Go.Proofs.Yteehgcbjmdideab
open Go.ChangeShapes Go.WideShapes Go.ChangeAt Go.RowKit
set_option maxRecDepth 100000
theorem cellsI : Try.prog.cellsOf 3 = 1:=by kernel_rfl
theorem cellsArc : Try.prog.cellsOf 54 = 5:=by kernel_rfl
theorem cellsFst : Try.prog.cellsOf 25 = 4:=by kernel_rfl
theorem addr_add_plain (b off i : Nat) : (⟨b,off,none⟩ : Addr).add i = ⟨b,off + i,none⟩:=by
 by_cases h : i = 0
 ·subst h; rfl
 ·simp [Addr.add,h]
theorem open_ilist {H : Type} {enc : TypeId × Value -> H} {W : World} {n : Nat} {v : Value} {y : DataW H × List MemPlace} (h : DataW.trod enc Try.prog W 0 (fun _ => true) true n 22 [v] = some y) : ∃ xs,ISlice W v xs:=by
 rcases open_ints Try.underlying22 Try.underlying3 cellsI h with ⟨h1,_⟩ | ⟨a,len,cap,zs,h1,_,hl,hm,hz,_,hcell,_⟩
 ·exact ⟨[],Or.inl ⟨none,0,by simpa using h1,rfl⟩⟩
 ·have hv : v = .slice (some a) len cap:=by simpa using h1
  simp only [if_true] at hz
  by_cases h0 : len = 0
  ·exact ⟨[],Or.inl ⟨some a,cap,by rw [hv,h0],rfl⟩⟩
  ·obtain ⟨b,off,spot⟩:=a
   have hspot : spot = none:=by simpa [Addr.add] using World.cell?_spot (hcell 0 (by omega))
   subst hspot
   refine ⟨zs.take len,Or.inr ⟨b,off,len,cap,hv,⟨by simp; omega,fun i hi => ?_⟩,by omega⟩⟩
   have:=hcell i (by omega)
   rw [addr_add_plain] at this
   rw [this]
   simp [List.getD,hi]
theorem five_cells {H : Type} {enc : TypeId × Value -> H} {W : World} {n : Nat} {cs : List Value} {y : DataW H × List MemPlace} (h : DataW.trod enc Try.prog W 0 (fun _ => true) true n 54 cs = some y) :
  ∃ a : ArcD,cs = [.int .i64 a.src,.int .i64 a.inp,.int .i64 a.out,.int .i64 a.dst,.int .i64 a.wt]:=by
 obtain ⟨xs,k,_,_,hlen,hxl,hf⟩:=DataW.trod_struct Try.underlying54 h
 rw [cellsArc] at hlen
 match cs,hlen with
 | [c0,c1,c2,c3,c4],_ =>
  have g0 : DataW.trod enc Try.prog W 0 (fun _ => true) true k 3 ((([c0,c1,c2,c3,c4] : List Value).drop 0).take (Try.prog.cellsOf 3)) = xs[0]?:=hf 0 _ rfl
  have g1 : DataW.trod enc Try.prog W 0 (fun _ => true) true k 3 ((([c0,c1,c2,c3,c4] : List Value).drop 1).take (Try.prog.cellsOf 3)) = xs[1]?:=hf 1 _ rfl
  have g2 : DataW.trod enc Try.prog W 0 (fun _ => true) true k 3 ((([c0,c1,c2,c3,c4] : List Value).drop 2).take (Try.prog.cellsOf 3)) = xs[2]?:=hf 2 _ rfl
  have g3 : DataW.trod enc Try.prog W 0 (fun _ => true) true k 3 ((([c0,c1,c2,c3,c4] : List Value).drop 3).take (Try.prog.cellsOf 3)) = xs[3]?:=hf 3 _ rfl
  have g4 : DataW.trod enc Try.prog W 0 (fun _ => true) true k 3 ((([c0,c1,c2,c3,c4] : List Value).drop 4).take (Try.prog.cellsOf 3)) = xs[4]?:=hf 4 _ rfl
  have hx : xs.length = 5:=hxl
  rw [cellsI,List.getElem?_eq_getElem (by omega)] at g0 g1 g2 g3 g4
  obtain ⟨z0,e0,_⟩:=DataW.trod_int Try.underlying3 g0
  obtain ⟨z1,e1,_⟩:=DataW.trod_int Try.underlying3 g1
  obtain ⟨z2,e2,_⟩:=DataW.trod_int Try.underlying3 g2
  obtain ⟨z3,e3,_⟩:=DataW.trod_int Try.underlying3 g3
  obtain ⟨z4,e4,_⟩:=DataW.trod_int Try.underlying3 g4
  have d0 : c0 = .int .i64 z0:=by simpa using e0
  have d1 : c1 = .int .i64 z1:=by simpa using e1
  have d2 : c2 = .int .i64 z2:=by simpa using e2
  have d3 : c3 = .int .i64 z3:=by simpa using e3
  have d4 : c4 = .int .i64 z4:=by simpa using e4
  exact ⟨⟨z0,z1,z2,z3,z4⟩,by rw [d0,d1,d2,d3,d4]⟩
theorem open_alist {H : Type} {enc : TypeId × Value -> H} {W : World} {n : Nat} {v : Value} {y : DataW H × List MemPlace} (h : DataW.trod enc Try.prog W 0 (fun _ => true) true n 23 [v] = some y) : ∃ ars,ASlice W v ars:=by
 rcases Go.Deep.open_slice Try.underlying23 h with ⟨h1,_⟩ | ⟨a,len,cap,m,k,D,Pl,h1,_,hl,hm,hmm,_,hx⟩
 ·exact ⟨[],Or.inl ⟨none,0,by simpa using h1,rfl⟩⟩
 ·have hv : v = .slice (some a) len cap:=by simpa using h1
  simp only [if_true] at hmm
  by_cases h0 : len = 0
  ·exact ⟨[],Or.inl ⟨some a,cap,by rw [hv,h0],rfl⟩⟩
  ·rw [cellsArc] at hx
   have each : ∀ i,i < len -> ∃ q : ArcD,∀ j u,[Value.int .i64 q.src,.int .i64 q.inp,.int .i64 q.out,.int .i64 q.dst,.int .i64 q.wt][j]? = some u -> j < 5 -> W.cell? ((a.add (i * 5)).add j) = some u:=fun i hi => by
    obtain ⟨cs,h2,h3⟩:=hx i (by omega)
    obtain ⟨q,hq⟩:=five_cells h3
    obtain ⟨_,_,hc⟩:=World.cells?_some h2
    exact ⟨q,fun j u hu hj => by rw [hc j hj,hq]; exact hu⟩
   have inh : Inhabited ArcD:=⟨a0⟩
   obtain ⟨q,hq⟩:=Go.Deep.choose_lt each
   obtain ⟨b,off,spot⟩:=a
   have hspot : spot = none:=by
    have:=World.cell?_spot (hq 0 (by omega) 0 _ rfl (by omega))
    simpa [Addr.add] using this
   subst hspot
   have hg : ∀ i,i < len -> ((List.range len).map q).getD i a0 = q i:=fun i hi => by simp [List.getD,hi]
   have key : ∀ i,i < len -> ∀ j u,[Value.int .i64 (q i).src,.int .i64 (q i).inp,.int .i64 (q i).out,.int .i64 (q i).dst,.int .i64 (q i).wt][j]? = some u -> j < 5 -> W.cell? ⟨b,off + i * 5 + j,none⟩ = some u:=fun i hi j u hu hj => by
    have:=hq i hi j u hu hj
    rw [addr_add_plain,addr_add_plain] at this
    exact this
   refine ⟨(List.range len).map q,Or.inr ⟨b,off,len,cap,hv,⟨by simp,fun i hi => ?_,fun i hi => ?_,fun i hi => ?_,fun i hi => ?_,fun i hi => ?_⟩,by omega⟩⟩
   ·rw [hg i hi]; exact key i hi 0 _ rfl (by omega)
   ·rw [hg i hi]; exact key i hi 1 _ rfl (by omega)
   ·rw [hg i hi]; exact key i hi 2 _ rfl (by omega)
   ·rw [hg i hi]; exact key i hi 3 _ rfl (by omega)
   ·rw [hg i hi]; exact key i hi 4 _ rfl (by omega)
theorem open_fst {H : Type} {enc : TypeId × Value -> H} {W : World} {base : Nat} {v : Value} {d : DataW H} {p : List MemPlace} (hok : Value.okWide Try.prog W .any base 25 v) (h : DataW.Trod enc Try.prog W 0 (fun _ => true) true 25 v d p) :
  ∃ (f : FstD) (fin arcs : Value),v = .agg #[.int .i64 f.states,.int .i64 f.start,fin,arcs] /\ ISlice W fin f.final /\ ASlice W arcs f.arcs:=by
 obtain ⟨v0,v1,v2,v3,y0,y1,y2,y3,n,rfl,_,_,h0,h1,h2,h3⟩:=Go.Joins.open_agg4 Try.underlying25 (by kernel_rfl) cellsFst hok h
 obtain ⟨z0,e0,_⟩:=DataW.trod_int Try.underlying3 h0
 obtain ⟨z1,e1,_⟩:=DataW.trod_int Try.underlying3 h1
 obtain ⟨xs,hi⟩:=open_ilist h2
 obtain ⟨ars,ha⟩:=open_alist h3
 have d0 : v0 = .int .i64 z0:=by simpa using e0
 have d1 : v1 = .int .i64 z1:=by simpa using e1
 exact ⟨⟨z0,z1,xs,ars⟩,v2,v3,by rw [d0,d1],hi,ha⟩
end Go.Proofs.Yteehgcbjmdideab
