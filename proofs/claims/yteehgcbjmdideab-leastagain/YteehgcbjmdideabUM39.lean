/- 'LeastSame': the walks. (Made by wip/gen/lsa.py.) -/
import Derived.Test.YteehgcbjmdideabUM36
import Derived.Test.YteehgcbjmdideabUM38
import Derived.Test.YteehgcbjmdideabUM12
import Derived.Test.YteehgcbjmdideabUM06
set_option maxRecDepth 100000
namespace Go.Proofs.Yteehgcbjmdideab
open Go.RowKit
attribute [local go_sem ↓] Go.wp_at_zero Go.wp_at_succ
def SaN (f g : FstD) (fin arcs fin' arcs' : Value) (c : Int) : Prop:=∀ W : World,ISlice W fin f.final -> ASlice W arcs f.arcs -> ISlice W fin' g.final -> ASlice W arcs' g.arcs -> Calls Try.prog 23 #[.agg #[.int .i64 f.states,.int .i64 f.start,fin,arcs],.agg #[.int .i64 g.states,.int .i64 g.start,fin',arcs']] W fun e w' => NoSame W c e w'
end Go.Proofs.Yteehgcbjmdideab
/- determineBegun: the walk. -/
namespace Go.Proofs.Yteehgcbjmdideab
open Go.RowKit
attribute [local go_sem ↓] Go.wp_at_zero Go.wp_at_succ
set_option maxHeartbeats 3200000 in
theorem determineBegun_any (w : World) : Calls Try.prog 13 #[] w fun e w' => e = .returned (.bool true) /\ Below w.heap.size w w':=by
 go_enter Try.func13,Try.ntmps13
 go_wp2_with (go_at_call 39; refine (same_any _).mono ?_; rintro e w1 ⟨N1,M1,rfl,hf1,ha1,hb1⟩)
 have hu1:=bel_up (bel_up (bel_self w1) (.cells #[.int .i64 2,.int .i64 0,.slice (some ⟨N1,0,none⟩) 2 2,.slice (some ⟨w1.heap.size + 1,0,none⟩) 2 2] 25)) (.cells #[.int .i64 0,.int .i64 1,.int .i64 1,.int .i64 0,.int .i64 2,.int .i64 0,.int .i64 1,.int .i64 1,.int .i64 1,.int .i64 5] 54)
 have r:=World.ownsRow_lit (base:=0) (e:=54) (size:=5) (w1.alloc (.cells #[.int .i64 2,.int .i64 0,.slice (some ⟨N1,0,none⟩) 2 2,.slice (some ⟨w1.heap.size + 1,0,none⟩) 2 2] 25)) #[.int .i64 0,.int .i64 1,.int .i64 1,.int .i64 0,.int .i64 2,.int .i64 0,.int .i64 1,.int .i64 1,.int .i64 1,.int .i64 5] 2 (Nat.zero_le _) (by decide) rfl
 rw [one_size] at r
 have hA1:=ownsRow_arcs (ars:=roundF.arcs) r
 have hF1 : ISlice _ _ roundF.final:=hf1.below hu1
 have hq:=(cellsF_new w1 2 0 (.slice (some ⟨N1,0,none⟩) 2 2) (.slice (some ⟨w1.heap.size + 1,0,none⟩) 2 2) 25).below (bel_up (bel_self _) (.cells #[.int .i64 0,.int .i64 1,.int .i64 1,.int .i64 0,.int .i64 2,.int .i64 0,.int .i64 1,.int .i64 1,.int .i64 1,.int .i64 5] 54))
 clear r
 refine (round_lit _ _ _ hF1 hA1).mono ?_
 rintro e w2 ⟨rfl,hb2⟩
 obtain ⟨q0,q1,q2,q3⟩:=hq.below hb2
 have h3:=is_lit _ _ w2 (hF1.below hb2) (hA1.below hb2)
 go_wp2_with (go_at_call 41; refine h3.mono ?_; rintro e w3 ⟨rfl,hb3⟩)
 have hc3:=bel_on (bel_on (bel_on hb1 hu1) hb2) hb3
 clear hf1 ha1 hb1 hu1 hA1 hF1 hq hb2 hb3 q0 q1 q2 q3 h3
 refine (same_any _).mono ?_
 rintro e w4 ⟨N4,M4,rfl,hf4,ha4,hb4⟩
 have hc4:=bel_on hc3 hb4
 have hd:=determine_same _ _ w4 hf4 ha4
 go_wp2_with (go_at_call 7; refine hd.mono ?_; rintro e w5 ⟨fa,fn,fc,ba,bn,bc,rfl,hf5,ha5,hb5⟩)
 have hc5:=bel_on hc4 hb5
 clear hd hf4 ha4 hb4 hb5 hc3 hc4
 have hu5:=bel_up (bel_up (bel_up (bel_self w5) (.cells #[.int .i64 2,.int .i64 0,.slice fa fn fc,.slice ba bn bc] 25)) (.cells #[.int .i64 1] 3)) (.cells #[.int .i64 1] 3)
 have hi5:=(lit_one (w5.alloc (.cells #[.int .i64 2,.int .i64 0,.slice fa fn fc,.slice ba bn bc] 25)) 1 _ (one_size _ _)).below (bel_up (bel_self _) (.cells #[.int .i64 1] 3))
 have ho5:=lit_one ((w5.alloc (.cells #[.int .i64 2,.int .i64 0,.slice fa fn fc,.slice ba bn bc] 25)).alloc (.cells #[.int .i64 1] 3)) 1 _ ((one_size _ _).trans (congrArg (· + 1) (one_size _ _)))
 have hq:=(cellsF_new w5 2 0 (.slice fa fn fc) (.slice ba bn bc) 25).below (bel_up (bel_up (bel_self _) (.cells #[.int .i64 1] 3)) (.cells #[.int .i64 1] 3))
 refine (score_same _ _ _ _ _ (hf5.below hu5) (ha5.below hu5) hi5 ho5).mono ?_
 rintro e w6 ⟨rfl,hb6⟩
 obtain ⟨q0,q1,q2,q3⟩:=hq.below hb6
 have hb56:=bel_on hu5 hb6
 have h7:=is_same _ _ w6 (hf5.below hb56) (ha5.below hb56)
 have hc6:=bel_on hc5 hb56
 clear hf5 ha5 hu5 hi5 ho5 hq hb6 hb56 hc5
 go_wp2_with (go_at_call 41; refine h7.mono ?_; rintro e w7 ⟨rfl,hb7⟩)
 go_ret
 exact ⟨rfl,bel_on hc6 hb7⟩
end Go.Proofs.Yteehgcbjmdideab
/- 'LeastAgain': the walks. (Made by wip/gen/lnc.py.) -/
namespace Go.Proofs.Yteehgcbjmdideab
open Go.RowKit
attribute [local go_sem ↓] Go.wp_at_zero Go.wp_at_succ
theorem sameD_self (o : FstD) : sameD o o = true:=by simp [sameD]
set_option maxHeartbeats 6400000 in
theorem la_one (f g : FstD) (l : List Int) (c : Int) (fin arcs fin' arcs' lv : Value) (w : World) (hf : ISlice w fin f.final) (ha : ASlice w arcs f.arcs) (hf' : ISlice w fin' g.final) (ha' : ASlice w arcs' g.arcs) (hl : ISlice w lv l) (h0 : c ≠ 0) (hle : LeN f c) :
  Calls Try.prog 6 #[.agg #[.int .i64 f.states,.int .i64 f.start,fin,arcs],.agg #[.int .i64 g.states,.int .i64 g.start,fin',arcs'],lv] w fun e w' => e = .returned (.bool true) /\ Below w.heap.size w w':=by
 obtain ⟨fa,fn,fc,rfl,_,_⟩:=hf.lenOf
 obtain ⟨aa,am,ac,rfl,_,_⟩:=ha.lenOf
 obtain ⟨ga,gn,gc,rfl,_,_⟩:=hf'.lenOf
 obtain ⟨ba,bm,bc,rfl,_,_⟩:=ha'.lenOf
 obtain ⟨A1,hA1⟩ : ∃ W,W = w.alloc (.cells #[.int .i64 f.states,.int .i64 f.start,.slice fa fn fc,.slice aa am ac] 25):=⟨_,rfl⟩
 obtain ⟨A2,hA2⟩ : ∃ W,W = A1.alloc (.cells #[.int .i64 g.states,.int .i64 g.start,.slice ga gn gc,.slice ba bm bc] 25):=⟨_,rfl⟩
 have z1 : A1.heap.size = w.heap.size + 1:=by rw [hA1]; exact one_size _ _
 have k1 : Below w.heap.size w A1:=by rw [hA1]; exact bel_up (bel_self _) _
 have k2 : Below A1.heap.size A1 A2:=by rw [hA2]; exact bel_up (bel_self _) _
 have hk:=bel_on k1 k2
 have hcF : CellsF A2 w.heap.size f.states f.start (.slice fa fn fc) (.slice aa am ac):=(by rw [hA1]; exact cellsF_new _ _ _ _ _ _ : CellsF A1 w.heap.size f.states f.start (.slice fa fn fc) (.slice aa am ac)).below k2
 have hcG : CellsF A2 (w.heap.size + 1) g.states g.start (.slice ga gn gc) (.slice ba bm bc):=by rw [hA2,<- z1]; exact cellsF_new _ _ _ _ _ _
 have HF : Hid (∀ W,Below A2.heap.size A2 W -> ISlice W (.slice fa fn fc) f.final /\ ASlice W (.slice aa am ac) f.arcs /\ ISlice W lv l /\ CellsF W w.heap.size f.states f.start (.slice fa fn fc) (.slice aa am ac)):=fun W h => ⟨(hf.below hk).below h,(ha.below hk).below h,(hl.below hk).below h,hcF.below h⟩
 have HG : Hid (∀ W,Below A2.heap.size A2 W -> ISlice W (.slice ga gn gc) g.final /\ ASlice W (.slice ba bm bc) g.arcs /\ CellsF W (w.heap.size + 1) g.states g.start (.slice ga gn gc) (.slice ba bm bc)):=fun W h => ⟨(hf'.below hk).below h,(ha'.below hk).below h,hcG.below h⟩
 have HK:=hid_of hk
 have HA:=hid_of (And.intro hA1 hA2)
 clear hf ha hf' ha' hl hA1 hA2 k1 k2 z1 hk hcF hcG
 have HLE:=hid_of hle
 have h0n : (c != 0) = true:=by simpa using h0
 clear hle h0
 go_enter Try.func6,Try.ntmps6
 go_upto_region 3 with (first | (go_at_call 21; refine (leastBegun_any _).mono ?_; rintro e w1 ⟨rfl,hb1⟩; rw [<- HA.out.1,<- HA.out.2] at hb1) | (go_at_call 14; refine (scoreBegun_any _).mono ?_; rintro e w2 ⟨rfl,hb2⟩) | (go_at_call 13; refine (determineBegun_any _).mono ?_; rintro e w3 ⟨rfl,hb3⟩))
 have b3:=bel_on hb1 (bel_on hb2 hb3)
 clear hb1 hb2 hb3
 have h18:=HLE.out _ _ w3 (HF.out w3 b3).1 (HF.out w3 b3).2.1
 obtain ⟨q0,q1,q2,q3⟩:=(HF.out w3 b3).2.2.2
 go_upto_region 4 with (go_at_call 18; refine h18.mono ?_; rintro e w4 ⟨rfl,hb4⟩; clear h18)
 clear q0 q1 q2 q3
 obtain ⟨B1,hB1⟩ : ∃ W,W = w4.alloc (.cells #[.int .i64 0,.int .i64 0,.slice none 0 0,.slice none 0 0] 25):=⟨_,rfl⟩
 have uB1 : Below w4.heap.size w4 B1:=by rw [hB1]; exact bel_up (bel_self _) _
 have hcX : CellsF B1 w4.heap.size 0 0 (.slice none 0 0) (.slice none 0 0):=by rw [hB1]; exact cellsF_new _ _ _ _ _ _
 rw [<- hB1]
 clear hB1
 have HB:=hid_of (bel_on HK.out (bel_on b3 (bel_on hb4 uB1)))
 obtain ⟨r0,r1,r2,r3⟩:=hcX
 clear b3 hb4 uB1
 go_wp2
 go_ret
 exact ⟨rfl,HB.out⟩
set_option maxHeartbeats 6400000 in
theorem la_two (f g : FstD) (l : List Int) (t : FstD) (N s0 K : Nat) (o : FstD) (c : Int) (fin arcs fin' arcs' lv : Value) (w : World) (hf : ISlice w fin f.final) (ha : ASlice w arcs f.arcs) (hf' : ISlice w fin' g.final) (ha' : ASlice w arcs' g.arcs) (hl : ISlice w lv l) (hok : LaOk f t N s0 K o) (hle : o.states <= 12) (h0 : c ≠ 0) (hsame : SaN f g fin arcs fin' arcs' c) :
  Calls Try.prog 6 #[.agg #[.int .i64 f.states,.int .i64 f.start,fin,arcs],.agg #[.int .i64 g.states,.int .i64 g.start,fin',arcs'],lv] w fun e w' => e = .returned (.bool true) /\ Below w.heap.size w w':=by
 obtain ⟨fa,fn,fc,rfl,_,_⟩:=hf.lenOf
 obtain ⟨aa,am,ac,rfl,_,_⟩:=ha.lenOf
 obtain ⟨ga,gn,gc,rfl,_,_⟩:=hf'.lenOf
 obtain ⟨ba,bm,bc,rfl,_,_⟩:=ha'.lenOf
 obtain ⟨A1,hA1⟩ : ∃ W,W = w.alloc (.cells #[.int .i64 f.states,.int .i64 f.start,.slice fa fn fc,.slice aa am ac] 25):=⟨_,rfl⟩
 obtain ⟨A2,hA2⟩ : ∃ W,W = A1.alloc (.cells #[.int .i64 g.states,.int .i64 g.start,.slice ga gn gc,.slice ba bm bc] 25):=⟨_,rfl⟩
 have z1 : A1.heap.size = w.heap.size + 1:=by rw [hA1]; exact one_size _ _
 have k1 : Below w.heap.size w A1:=by rw [hA1]; exact bel_up (bel_self _) _
 have k2 : Below A1.heap.size A1 A2:=by rw [hA2]; exact bel_up (bel_self _) _
 have hk:=bel_on k1 k2
 have hcF : CellsF A2 w.heap.size f.states f.start (.slice fa fn fc) (.slice aa am ac):=(by rw [hA1]; exact cellsF_new _ _ _ _ _ _ : CellsF A1 w.heap.size f.states f.start (.slice fa fn fc) (.slice aa am ac)).below k2
 have hcG : CellsF A2 (w.heap.size + 1) g.states g.start (.slice ga gn gc) (.slice ba bm bc):=by rw [hA2,<- z1]; exact cellsF_new _ _ _ _ _ _
 have HF : Hid (∀ W,Below A2.heap.size A2 W -> ISlice W (.slice fa fn fc) f.final /\ ASlice W (.slice aa am ac) f.arcs /\ ISlice W lv l /\ CellsF W w.heap.size f.states f.start (.slice fa fn fc) (.slice aa am ac)):=fun W h => ⟨(hf.below hk).below h,(ha.below hk).below h,(hl.below hk).below h,hcF.below h⟩
 have HG : Hid (∀ W,Below A2.heap.size A2 W -> ISlice W (.slice ga gn gc) g.final /\ ASlice W (.slice ba bm bc) g.arcs /\ CellsF W (w.heap.size + 1) g.states g.start (.slice ga gn gc) (.slice ba bm bc)):=fun W h => ⟨(hf'.below hk).below h,(ha'.below hk).below h,hcG.below h⟩
 have HK:=hid_of hk
 have HA:=hid_of (And.intro hA1 hA2)
 clear hf ha hf' ha' hl hA1 hA2 k1 k2 z1 hk hcF hcG
 have HOK:=hid_of hok
 have HLE:=hid_of hok.one
 have HSA:=hid_of hsame
 have hKo:=hok.fine.2.2.2.2.2
 have h0n : (c != 0) = true:=by simpa using h0
 clear hok hsame h0
 go_enter Try.func6,Try.ntmps6
 go_upto_region 3 with (first | (go_at_call 21; refine (leastBegun_any _).mono ?_; rintro e w1 ⟨rfl,hb1⟩; rw [<- HA.out.1,<- HA.out.2] at hb1) | (go_at_call 14; refine (scoreBegun_any _).mono ?_; rintro e w2 ⟨rfl,hb2⟩) | (go_at_call 13; refine (determineBegun_any _).mono ?_; rintro e w3 ⟨rfl,hb3⟩))
 have b3:=bel_on hb1 (bel_on hb2 hb3)
 clear hb1 hb2 hb3
 have h18:=HLE.out _ _ w3 (HF.out w3 b3).1 (HF.out w3 b3).2.1
 obtain ⟨q0,q1,q2,q3⟩:=(HF.out w3 b3).2.2.2
 go_upto_region 4 with (go_at_call 18; refine h18.mono ?_; rintro e w4 ⟨xa,xn,xc,ya,yn,yc,rfl,hI,hA,hb4⟩; clear h18)
 clear q0 q1 q2 q3
 obtain ⟨B1,hB1⟩ : ∃ W,W = w4.alloc (.cells #[.int .i64 o.states,.int .i64 o.start,.slice xa xn xc,.slice ya yn yc] 25):=⟨_,rfl⟩
 have uB1 : Below w4.heap.size w4 B1:=by rw [hB1]; exact bel_up (bel_self _) _
 have hcX : CellsF B1 w4.heap.size o.states o.start (.slice xa xn xc) (.slice ya yn yc):=by rw [hB1]; exact cellsF_new _ _ _ _ _ _
 rw [<- hB1]
 clear hB1
 have HX : Hid (∀ W,Below B1.heap.size B1 W -> ISlice W (.slice xa xn xc) o.final /\ ASlice W (.slice ya yn yc) o.arcs /\ CellsF W w4.heap.size o.states o.start (.slice xa xn xc) (.slice ya yn yc)):=fun W h => ⟨(hI.below uB1).below h,(hA.below uB1).below h,hcX.below h⟩
 have b4:=bel_on b3 (bel_on hb4 uB1)
 clear b3 hb4 uB1 hI hA hcX
 have x4:=bel_self B1
 have h17:=score_any f l l _ _ lv lv B1 (HF.out B1 b4).1 (HF.out B1 b4).2.1 (HF.out B1 b4).2.2.1 (HF.out B1 b4).2.2.1
 obtain ⟨q0,q1,q2,q3⟩:=(HF.out B1 b4).2.2.2
 go_upto_region 7 with (go_at_call 17; refine h17.mono ?_; rintro e w5 ⟨n1,e1,rfl,hs1,hb5⟩; clear h17)
 have HS:=hid_of hs1
 clear q0 q1 q2 q3 hs1
 have b5:=bel_on b4 hb5
 have x5:=bel_on x4 hb5
 have h17:=score_any o l l _ _ lv lv w5 (HX.out w5 x5).1 (HX.out w5 x5).2.1 (HF.out w5 b5).2.2.1 (HF.out w5 b5).2.2.1
 obtain ⟨r0,r1,r2,r3⟩:=(HX.out w5 x5).2.2
 clear b4 x4 hb5
 go_upto_region 8 with (go_at_call 17; refine h17.mono ?_; rintro e w6 ⟨n2,e2,rfl,hs2,hb6⟩; clear h17)
 obtain ⟨rfl,rfl⟩:=scores_eq HOK.out.din.hc HOK.out.fine.1.check HOK.out.cost HS.out hs2
 clear hs2 r0 r1 r2 r3
 have b6:=bel_on b5 hb6
 have x6:=bel_on x5 hb6
 clear b5 x5 hb6
 go_upto_region 10 with fail
 obtain ⟨r0,r1,r2,r3⟩:=(HX.out w6 x6).2.2
 go_upto_region 11 with fail
 obtain ⟨t',N',s0',K',hag⟩:=HOK.out.again hle
 have h18:=hag.one _ _ w6 (HX.out w6 x6).1 (HX.out w6 x6).2.1
 clear hag
 go_upto_region 12 with (go_at_call 18; refine h18.mono ?_; rintro e w7 ⟨xa2,xn2,xc2,ya2,yn2,yc2,rfl,hI,hA,hb7⟩; clear h18)
 clear r0 r1 r2 r3
 obtain ⟨B2,hB2⟩ : ∃ W,W = w7.alloc (.cells #[.int .i64 o.states,.int .i64 o.start,.slice xa2 xn2 xc2,.slice ya2 yn2 yc2] 25):=⟨_,rfl⟩
 have uB2 : Below w7.heap.size w7 B2:=by rw [hB2]; exact bel_up (bel_self _) _
 have hcY : CellsF B2 w7.heap.size o.states o.start (.slice xa2 xn2 xc2) (.slice ya2 yn2 yc2):=by rw [hB2]; exact cellsF_new _ _ _ _ _ _
 rw [<- hB2]
 clear hB2
 have b7:=bel_on b6 (bel_on hb7 uB2)
 have x7:=bel_on x6 (bel_on hb7 uB2)
 have h19:=sameFst_any o o _ _ _ _ B2 (HX.out B2 x7).1 (HX.out B2 x7).2.1 (hI.below uB2) (hA.below uB2)
 rw [sameD_self] at h19
 obtain ⟨r0,r1,r2,r3⟩:=(HX.out B2 x7).2.2
 obtain ⟨s0,s1,s2,s3⟩:=hcY
 clear b6 x6 hb7 uB2 hI hA
 go_upto_region 14 with (go_at_call 25; refine h19.mono ?_; rintro e w8 ⟨rfl,hb8⟩; clear h19)
 clear r0 r1 r2 r3 s0 s1 s2 s3
 have b8:=bel_on b7 hb8
 have x8:=bel_on x7 hb8
 clear b7 x7 hb8
 obtain ⟨m,hdet⟩:=HOK.out.det
 have h7:=hdet _ _ w8 (HF.out w8 b8).1 (HF.out w8 b8).2.1
 clear hdet
 obtain ⟨q0,q1,q2,q3⟩:=(HF.out w8 b8).2.2.2
 go_upto_region 15 with (go_at_call 7; refine h7.mono ?_; rintro e w9 ⟨g1,c1,da,dc,rfl,_,_,_,hb9⟩; clear h7)
 clear q0 q1 q2 q3
 obtain ⟨B3,hB3⟩ : ∃ W,W = w9.alloc (.cells #[.int .i64 (K : Int),.int .i64 0,.slice (some ⟨g1,0,none⟩) K c1,.slice da m dc] 25):=⟨_,rfl⟩
 have uB3 : Below w9.heap.size w9 B3:=by rw [hB3]; exact bel_up (bel_self _) _
 have hcD : CellsF B3 w9.heap.size (K : Int) 0 (.slice (some ⟨g1,0,none⟩) K c1) (.slice da m dc):=by rw [hB3]; exact cellsF_new _ _ _ _ _ _
 rw [<- hB3]
 clear hB3
 have b9:=bel_on b8 (bel_on hb9 uB3)
 have x9:=bel_on x8 (bel_on hb9 uB3)
 obtain ⟨r0,r1,r2,r3⟩:=(HX.out B3 x9).2.2
 obtain ⟨d0,d1,d2,d3⟩:=hcD
 have hKb : ¬ (K : Int) < o.states:=by omega
 clear b8 x8 hb9 uB3
 go_upto_region 17 with fail
 clear r0 r1 r2 r3 d0 d1 d2 d3 x9
 have h23:=HSA.out B3 (HF.out B3 b9).1 (HF.out B3 b9).2.1 (HG.out B3 b9).1 (HG.out B3 b9).2.1
 obtain ⟨q0,q1,q2,q3⟩:=(HF.out B3 b9).2.2.2
 obtain ⟨p0,p1,p2,p3⟩:=(HG.out B3 b9).2.2
 go_upto_region 18 with (go_at_call 23; refine h23.mono ?_; rintro e wA ⟨rfl,hb10⟩; clear h23)
 clear q0 q1 q2 q3 p0 p1 p2 p3
 have bA:=bel_on b9 hb10
 clear b9 hb10
 have h17:=score_any g l l _ _ lv lv wA (HG.out wA bA).1 (HG.out wA bA).2.1 (HF.out wA bA).2.2.1 (HF.out wA bA).2.2.1
 obtain ⟨p0,p1,p2,p3⟩:=(HG.out wA bA).2.2
 go_upto_region 19 with (go_at_call 17; refine h17.mono ?_; rintro e wB ⟨n3,e3,rfl,hs3,hbB⟩; clear h17)
 clear p0 p1 p2 p3
 have HB:=hid_of (bel_on HK.out (bel_on bA hbB))
 clear bA hbB
 clear hs3
 go_wp2
 go_ret
 exact ⟨rfl,HB.out⟩
set_option maxHeartbeats 6400000 in
theorem la_three (f g : FstD) (l : List Int) (t : FstD) (N s0 K : Nat) (o : FstD) (t2 : FstD) (N2 s02 K2 : Nat) (q : FstD) (fin arcs fin' arcs' lv : Value) (w : World) (hf : ISlice w fin f.final) (ha : ASlice w arcs f.arcs) (hf' : ISlice w fin' g.final) (ha' : ASlice w arcs' g.arcs) (hl : ISlice w lv l) (hok : LaOk f t N s0 K o) (hle : o.states <= 12) (hok2 : LaOk g t2 N2 s02 K2 q) (hsame : ∀ W : World,ISlice W fin f.final -> ASlice W arcs f.arcs -> ISlice W fin' g.final -> ASlice W arcs' g.arcs -> Calls Try.prog 23 #[.agg #[.int .i64 f.states,.int .i64 f.start,fin,arcs],.agg #[.int .i64 g.states,.int .i64 g.start,fin',arcs']] W fun e w' => IsSame (detX t N K) K (detX t2 N2 K2) K2 W e w') :
  Calls Try.prog 6 #[.agg #[.int .i64 f.states,.int .i64 f.start,fin,arcs],.agg #[.int .i64 g.states,.int .i64 g.start,fin',arcs'],lv] w fun e w' => e = .returned (.bool true) /\ Below w.heap.size w w':=by
 obtain ⟨fa,fn,fc,rfl,_,_⟩:=hf.lenOf
 obtain ⟨aa,am,ac,rfl,_,_⟩:=ha.lenOf
 obtain ⟨ga,gn,gc,rfl,_,_⟩:=hf'.lenOf
 obtain ⟨ba,bm,bc,rfl,_,_⟩:=ha'.lenOf
 obtain ⟨A1,hA1⟩ : ∃ W,W = w.alloc (.cells #[.int .i64 f.states,.int .i64 f.start,.slice fa fn fc,.slice aa am ac] 25):=⟨_,rfl⟩
 obtain ⟨A2,hA2⟩ : ∃ W,W = A1.alloc (.cells #[.int .i64 g.states,.int .i64 g.start,.slice ga gn gc,.slice ba bm bc] 25):=⟨_,rfl⟩
 have z1 : A1.heap.size = w.heap.size + 1:=by rw [hA1]; exact one_size _ _
 have k1 : Below w.heap.size w A1:=by rw [hA1]; exact bel_up (bel_self _) _
 have k2 : Below A1.heap.size A1 A2:=by rw [hA2]; exact bel_up (bel_self _) _
 have hk:=bel_on k1 k2
 have hcF : CellsF A2 w.heap.size f.states f.start (.slice fa fn fc) (.slice aa am ac):=(by rw [hA1]; exact cellsF_new _ _ _ _ _ _ : CellsF A1 w.heap.size f.states f.start (.slice fa fn fc) (.slice aa am ac)).below k2
 have hcG : CellsF A2 (w.heap.size + 1) g.states g.start (.slice ga gn gc) (.slice ba bm bc):=by rw [hA2,<- z1]; exact cellsF_new _ _ _ _ _ _
 have HF : Hid (∀ W,Below A2.heap.size A2 W -> ISlice W (.slice fa fn fc) f.final /\ ASlice W (.slice aa am ac) f.arcs /\ ISlice W lv l /\ CellsF W w.heap.size f.states f.start (.slice fa fn fc) (.slice aa am ac)):=fun W h => ⟨(hf.below hk).below h,(ha.below hk).below h,(hl.below hk).below h,hcF.below h⟩
 have HG : Hid (∀ W,Below A2.heap.size A2 W -> ISlice W (.slice ga gn gc) g.final /\ ASlice W (.slice ba bm bc) g.arcs /\ CellsF W (w.heap.size + 1) g.states g.start (.slice ga gn gc) (.slice ba bm bc)):=fun W h => ⟨(hf'.below hk).below h,(ha'.below hk).below h,hcG.below h⟩
 have HK:=hid_of hk
 have HA:=hid_of (And.intro hA1 hA2)
 clear hf ha hf' ha' hl hA1 hA2 k1 k2 z1 hk hcF hcG
 have HOK:=hid_of hok
 have HLE:=hid_of hok.one
 have HSA:=hid_of hsame
 have hKo:=hok.fine.2.2.2.2.2
 have HOK2:=hid_of hok2
 clear hok hsame hok2
 go_enter Try.func6,Try.ntmps6
 go_upto_region 3 with (first | (go_at_call 21; refine (leastBegun_any _).mono ?_; rintro e w1 ⟨rfl,hb1⟩; rw [<- HA.out.1,<- HA.out.2] at hb1) | (go_at_call 14; refine (scoreBegun_any _).mono ?_; rintro e w2 ⟨rfl,hb2⟩) | (go_at_call 13; refine (determineBegun_any _).mono ?_; rintro e w3 ⟨rfl,hb3⟩))
 have b3:=bel_on hb1 (bel_on hb2 hb3)
 clear hb1 hb2 hb3
 have h18:=HLE.out _ _ w3 (HF.out w3 b3).1 (HF.out w3 b3).2.1
 obtain ⟨q0,q1,q2,q3⟩:=(HF.out w3 b3).2.2.2
 go_upto_region 4 with (go_at_call 18; refine h18.mono ?_; rintro e w4 ⟨xa,xn,xc,ya,yn,yc,rfl,hI,hA,hb4⟩; clear h18)
 clear q0 q1 q2 q3
 obtain ⟨B1,hB1⟩ : ∃ W,W = w4.alloc (.cells #[.int .i64 o.states,.int .i64 o.start,.slice xa xn xc,.slice ya yn yc] 25):=⟨_,rfl⟩
 have uB1 : Below w4.heap.size w4 B1:=by rw [hB1]; exact bel_up (bel_self _) _
 have hcX : CellsF B1 w4.heap.size o.states o.start (.slice xa xn xc) (.slice ya yn yc):=by rw [hB1]; exact cellsF_new _ _ _ _ _ _
 rw [<- hB1]
 clear hB1
 have HX : Hid (∀ W,Below B1.heap.size B1 W -> ISlice W (.slice xa xn xc) o.final /\ ASlice W (.slice ya yn yc) o.arcs /\ CellsF W w4.heap.size o.states o.start (.slice xa xn xc) (.slice ya yn yc)):=fun W h => ⟨(hI.below uB1).below h,(hA.below uB1).below h,hcX.below h⟩
 have b4:=bel_on b3 (bel_on hb4 uB1)
 clear b3 hb4 uB1 hI hA hcX
 have x4:=bel_self B1
 have h17:=score_any f l l _ _ lv lv B1 (HF.out B1 b4).1 (HF.out B1 b4).2.1 (HF.out B1 b4).2.2.1 (HF.out B1 b4).2.2.1
 obtain ⟨q0,q1,q2,q3⟩:=(HF.out B1 b4).2.2.2
 go_upto_region 7 with (go_at_call 17; refine h17.mono ?_; rintro e w5 ⟨n1,e1,rfl,hs1,hb5⟩; clear h17)
 have HS:=hid_of hs1
 clear q0 q1 q2 q3 hs1
 have b5:=bel_on b4 hb5
 have x5:=bel_on x4 hb5
 have h17:=score_any o l l _ _ lv lv w5 (HX.out w5 x5).1 (HX.out w5 x5).2.1 (HF.out w5 b5).2.2.1 (HF.out w5 b5).2.2.1
 obtain ⟨r0,r1,r2,r3⟩:=(HX.out w5 x5).2.2
 clear b4 x4 hb5
 go_upto_region 8 with (go_at_call 17; refine h17.mono ?_; rintro e w6 ⟨n2,e2,rfl,hs2,hb6⟩; clear h17)
 obtain ⟨rfl,rfl⟩:=scores_eq HOK.out.din.hc HOK.out.fine.1.check HOK.out.cost HS.out hs2
 clear hs2 r0 r1 r2 r3
 have b6:=bel_on b5 hb6
 have x6:=bel_on x5 hb6
 clear b5 x5 hb6
 go_upto_region 10 with fail
 obtain ⟨r0,r1,r2,r3⟩:=(HX.out w6 x6).2.2
 go_upto_region 11 with fail
 obtain ⟨t',N',s0',K',hag⟩:=HOK.out.again hle
 have h18:=hag.one _ _ w6 (HX.out w6 x6).1 (HX.out w6 x6).2.1
 clear hag
 go_upto_region 12 with (go_at_call 18; refine h18.mono ?_; rintro e w7 ⟨xa2,xn2,xc2,ya2,yn2,yc2,rfl,hI,hA,hb7⟩; clear h18)
 clear r0 r1 r2 r3
 obtain ⟨B2,hB2⟩ : ∃ W,W = w7.alloc (.cells #[.int .i64 o.states,.int .i64 o.start,.slice xa2 xn2 xc2,.slice ya2 yn2 yc2] 25):=⟨_,rfl⟩
 have uB2 : Below w7.heap.size w7 B2:=by rw [hB2]; exact bel_up (bel_self _) _
 have hcY : CellsF B2 w7.heap.size o.states o.start (.slice xa2 xn2 xc2) (.slice ya2 yn2 yc2):=by rw [hB2]; exact cellsF_new _ _ _ _ _ _
 rw [<- hB2]
 clear hB2
 have b7:=bel_on b6 (bel_on hb7 uB2)
 have x7:=bel_on x6 (bel_on hb7 uB2)
 have h19:=sameFst_any o o _ _ _ _ B2 (HX.out B2 x7).1 (HX.out B2 x7).2.1 (hI.below uB2) (hA.below uB2)
 rw [sameD_self] at h19
 obtain ⟨r0,r1,r2,r3⟩:=(HX.out B2 x7).2.2
 obtain ⟨s0,s1,s2,s3⟩:=hcY
 clear b6 x6 hb7 uB2 hI hA
 go_upto_region 14 with (go_at_call 25; refine h19.mono ?_; rintro e w8 ⟨rfl,hb8⟩; clear h19)
 clear r0 r1 r2 r3 s0 s1 s2 s3
 have b8:=bel_on b7 hb8
 have x8:=bel_on x7 hb8
 clear b7 x7 hb8
 obtain ⟨m,hdet⟩:=HOK.out.det
 have h7:=hdet _ _ w8 (HF.out w8 b8).1 (HF.out w8 b8).2.1
 clear hdet
 obtain ⟨q0,q1,q2,q3⟩:=(HF.out w8 b8).2.2.2
 go_upto_region 15 with (go_at_call 7; refine h7.mono ?_; rintro e w9 ⟨g1,c1,da,dc,rfl,_,_,_,hb9⟩; clear h7)
 clear q0 q1 q2 q3
 obtain ⟨B3,hB3⟩ : ∃ W,W = w9.alloc (.cells #[.int .i64 (K : Int),.int .i64 0,.slice (some ⟨g1,0,none⟩) K c1,.slice da m dc] 25):=⟨_,rfl⟩
 have uB3 : Below w9.heap.size w9 B3:=by rw [hB3]; exact bel_up (bel_self _) _
 have hcD : CellsF B3 w9.heap.size (K : Int) 0 (.slice (some ⟨g1,0,none⟩) K c1) (.slice da m dc):=by rw [hB3]; exact cellsF_new _ _ _ _ _ _
 rw [<- hB3]
 clear hB3
 have b9:=bel_on b8 (bel_on hb9 uB3)
 have x9:=bel_on x8 (bel_on hb9 uB3)
 obtain ⟨r0,r1,r2,r3⟩:=(HX.out B3 x9).2.2
 obtain ⟨d0,d1,d2,d3⟩:=hcD
 have hKb : ¬ (K : Int) < o.states:=by omega
 clear b8 x8 hb9 uB3
 go_upto_region 17 with fail
 clear r0 r1 r2 r3 d0 d1 d2 d3 x9
 have h23:=HSA.out B3 (HF.out B3 b9).1 (HF.out B3 b9).2.1 (HG.out B3 b9).1 (HG.out B3 b9).2.1
 obtain ⟨q0,q1,q2,q3⟩:=(HF.out B3 b9).2.2.2
 obtain ⟨p0,p1,p2,p3⟩:=(HG.out B3 b9).2.2
 go_upto_region 18 with (go_at_call 23; refine h23.mono ?_; rintro e wA ⟨o',q',ho,hq,rfl,hb10⟩; clear h23)
 clear q0 q1 q2 q3 p0 p1 p2 p3
 obtain rfl:=out_once (HOK.out.done.xin HOK.out.din.hT).1 HOK.out.out ho
 obtain rfl:=out_once (HOK2.out.done.xin HOK2.out.din.hT).1 HOK2.out.out hq
 obtain ⟨sb,hsb⟩ : ∃ b,b = sameL o q:=⟨_,rfl⟩
 have HSB:=hid_of hsb
 rw [<- hsb]
 clear hsb ho hq
 have bA:=bel_on b9 hb10
 clear b9 hb10
 have h17:=score_any g l l _ _ lv lv wA (HG.out wA bA).1 (HG.out wA bA).2.1 (HF.out wA bA).2.2.1 (HF.out wA bA).2.2.1
 obtain ⟨p0,p1,p2,p3⟩:=(HG.out wA bA).2.2
 go_upto_region 19 with (go_at_call 17; refine h17.mono ?_; rintro e wB ⟨n3,e3,rfl,hs3,hbB⟩; clear h17)
 clear p0 p1 p2 p3
 have HB:=hid_of (bel_on HK.out (bel_on bA hbB))
 clear bA hbB
 cases sb with
 | true =>
  obtain ⟨rfl,rfl⟩:=scores_eq HOK.out.din.hc HOK2.out.din.hc (HOK.out.same HOK2.out HSB.out.symm) HS.out hs3
  clear hs3
  cases he : (e1 != 0) with
  | true =>
   go_wp2
   go_ret
   exact ⟨rfl,HB.out⟩
  | false =>
   go_wp2
   go_ret
   exact ⟨rfl,HB.out⟩
 | false =>
  clear hs3
  cases he : (e3 != 0) with
  | true =>
   go_wp2
   go_ret
   exact ⟨rfl,HB.out⟩
  | false =>
   go_wp2
   go_ret
   exact ⟨rfl,HB.out⟩
end Go.Proofs.Yteehgcbjmdideab
/- 'LeastAgain': the walks,where the least one has more states than twelve. (Made by wip/gen/lnc.py.) -/
namespace Go.Proofs.Yteehgcbjmdideab
open Go.RowKit
attribute [local go_sem ↓] Go.wp_at_zero Go.wp_at_succ
set_option maxHeartbeats 6400000 in
theorem la_four (f g : FstD) (l : List Int) (t : FstD) (N s0 K : Nat) (o : FstD) (c : Int) (fin arcs fin' arcs' lv : Value) (w : World) (hf : ISlice w fin f.final) (ha : ASlice w arcs f.arcs) (hf' : ISlice w fin' g.final) (ha' : ASlice w arcs' g.arcs) (hl : ISlice w lv l) (hok : LaOk f t N s0 K o) (hle : ¬ o.states <= 12) (h0 : c ≠ 0) (hsame : SaN f g fin arcs fin' arcs' c) :
  Calls Try.prog 6 #[.agg #[.int .i64 f.states,.int .i64 f.start,fin,arcs],.agg #[.int .i64 g.states,.int .i64 g.start,fin',arcs'],lv] w fun e w' => e = .returned (.bool true) /\ Below w.heap.size w w':=by
 obtain ⟨fa,fn,fc,rfl,_,_⟩:=hf.lenOf
 obtain ⟨aa,am,ac,rfl,_,_⟩:=ha.lenOf
 obtain ⟨ga,gn,gc,rfl,_,_⟩:=hf'.lenOf
 obtain ⟨ba,bm,bc,rfl,_,_⟩:=ha'.lenOf
 obtain ⟨A1,hA1⟩ : ∃ W,W = w.alloc (.cells #[.int .i64 f.states,.int .i64 f.start,.slice fa fn fc,.slice aa am ac] 25):=⟨_,rfl⟩
 obtain ⟨A2,hA2⟩ : ∃ W,W = A1.alloc (.cells #[.int .i64 g.states,.int .i64 g.start,.slice ga gn gc,.slice ba bm bc] 25):=⟨_,rfl⟩
 have z1 : A1.heap.size = w.heap.size + 1:=by rw [hA1]; exact one_size _ _
 have k1 : Below w.heap.size w A1:=by rw [hA1]; exact bel_up (bel_self _) _
 have k2 : Below A1.heap.size A1 A2:=by rw [hA2]; exact bel_up (bel_self _) _
 have hk:=bel_on k1 k2
 have hcF : CellsF A2 w.heap.size f.states f.start (.slice fa fn fc) (.slice aa am ac):=(by rw [hA1]; exact cellsF_new _ _ _ _ _ _ : CellsF A1 w.heap.size f.states f.start (.slice fa fn fc) (.slice aa am ac)).below k2
 have hcG : CellsF A2 (w.heap.size + 1) g.states g.start (.slice ga gn gc) (.slice ba bm bc):=by rw [hA2,<- z1]; exact cellsF_new _ _ _ _ _ _
 have HF : Hid (∀ W,Below A2.heap.size A2 W -> ISlice W (.slice fa fn fc) f.final /\ ASlice W (.slice aa am ac) f.arcs /\ ISlice W lv l /\ CellsF W w.heap.size f.states f.start (.slice fa fn fc) (.slice aa am ac)):=fun W h => ⟨(hf.below hk).below h,(ha.below hk).below h,(hl.below hk).below h,hcF.below h⟩
 have HG : Hid (∀ W,Below A2.heap.size A2 W -> ISlice W (.slice ga gn gc) g.final /\ ASlice W (.slice ba bm bc) g.arcs /\ CellsF W (w.heap.size + 1) g.states g.start (.slice ga gn gc) (.slice ba bm bc)):=fun W h => ⟨(hf'.below hk).below h,(ha'.below hk).below h,hcG.below h⟩
 have HK:=hid_of hk
 have HA:=hid_of (And.intro hA1 hA2)
 clear hf ha hf' ha' hl hA1 hA2 k1 k2 z1 hk hcF hcG
 have HOK:=hid_of hok
 have HLE:=hid_of hok.one
 have HSA:=hid_of hsame
 have hKo:=hok.fine.2.2.2.2.2
 have h0n : (c != 0) = true:=by simpa using h0
 clear hok hsame h0
 go_enter Try.func6,Try.ntmps6
 go_upto_region 3 with (first | (go_at_call 21; refine (leastBegun_any _).mono ?_; rintro e w1 ⟨rfl,hb1⟩; rw [<- HA.out.1,<- HA.out.2] at hb1) | (go_at_call 14; refine (scoreBegun_any _).mono ?_; rintro e w2 ⟨rfl,hb2⟩) | (go_at_call 13; refine (determineBegun_any _).mono ?_; rintro e w3 ⟨rfl,hb3⟩))
 have b3:=bel_on hb1 (bel_on hb2 hb3)
 clear hb1 hb2 hb3
 have h18:=HLE.out _ _ w3 (HF.out w3 b3).1 (HF.out w3 b3).2.1
 obtain ⟨q0,q1,q2,q3⟩:=(HF.out w3 b3).2.2.2
 go_upto_region 4 with (go_at_call 18; refine h18.mono ?_; rintro e w4 ⟨xa,xn,xc,ya,yn,yc,rfl,hI,hA,hb4⟩; clear h18)
 clear q0 q1 q2 q3
 obtain ⟨B1,hB1⟩ : ∃ W,W = w4.alloc (.cells #[.int .i64 o.states,.int .i64 o.start,.slice xa xn xc,.slice ya yn yc] 25):=⟨_,rfl⟩
 have uB1 : Below w4.heap.size w4 B1:=by rw [hB1]; exact bel_up (bel_self _) _
 have hcX : CellsF B1 w4.heap.size o.states o.start (.slice xa xn xc) (.slice ya yn yc):=by rw [hB1]; exact cellsF_new _ _ _ _ _ _
 rw [<- hB1]
 clear hB1
 have HX : Hid (∀ W,Below B1.heap.size B1 W -> ISlice W (.slice xa xn xc) o.final /\ ASlice W (.slice ya yn yc) o.arcs /\ CellsF W w4.heap.size o.states o.start (.slice xa xn xc) (.slice ya yn yc)):=fun W h => ⟨(hI.below uB1).below h,(hA.below uB1).below h,hcX.below h⟩
 have b4:=bel_on b3 (bel_on hb4 uB1)
 clear b3 hb4 uB1 hI hA hcX
 have x4:=bel_self B1
 have h17:=score_any f l l _ _ lv lv B1 (HF.out B1 b4).1 (HF.out B1 b4).2.1 (HF.out B1 b4).2.2.1 (HF.out B1 b4).2.2.1
 obtain ⟨q0,q1,q2,q3⟩:=(HF.out B1 b4).2.2.2
 go_upto_region 7 with (go_at_call 17; refine h17.mono ?_; rintro e w5 ⟨n1,e1,rfl,hs1,hb5⟩; clear h17)
 have HS:=hid_of hs1
 clear q0 q1 q2 q3 hs1
 have b5:=bel_on b4 hb5
 have x5:=bel_on x4 hb5
 have h17:=score_any o l l _ _ lv lv w5 (HX.out w5 x5).1 (HX.out w5 x5).2.1 (HF.out w5 b5).2.2.1 (HF.out w5 b5).2.2.1
 obtain ⟨r0,r1,r2,r3⟩:=(HX.out w5 x5).2.2
 clear b4 x4 hb5
 go_upto_region 8 with (go_at_call 17; refine h17.mono ?_; rintro e w6 ⟨n2,e2,rfl,hs2,hb6⟩; clear h17)
 obtain ⟨rfl,rfl⟩:=scores_eq HOK.out.din.hc HOK.out.fine.1.check HOK.out.cost HS.out hs2
 clear hs2 r0 r1 r2 r3
 have b6:=bel_on b5 hb6
 have x6:=bel_on x5 hb6
 clear b5 x5 hb6
 go_upto_region 10 with fail
 obtain ⟨r0,r1,r2,r3⟩:=(HX.out w6 x6).2.2
 go_upto_region 14 with fail
 clear r0 r1 r2 r3
 obtain ⟨w8,rfl⟩ : ∃ w8,w8 = w6:=⟨_,rfl⟩
 have b8:=b6
 have x8:=x6
 clear b6 x6
 obtain ⟨m,hdet⟩:=HOK.out.det
 have h7:=hdet _ _ w8 (HF.out w8 b8).1 (HF.out w8 b8).2.1
 clear hdet
 obtain ⟨q0,q1,q2,q3⟩:=(HF.out w8 b8).2.2.2
 go_upto_region 15 with (go_at_call 7; refine h7.mono ?_; rintro e w9 ⟨g1,c1,da,dc,rfl,_,_,_,hb9⟩; clear h7)
 clear q0 q1 q2 q3
 obtain ⟨B3,hB3⟩ : ∃ W,W = w9.alloc (.cells #[.int .i64 (K : Int),.int .i64 0,.slice (some ⟨g1,0,none⟩) K c1,.slice da m dc] 25):=⟨_,rfl⟩
 have uB3 : Below w9.heap.size w9 B3:=by rw [hB3]; exact bel_up (bel_self _) _
 have hcD : CellsF B3 w9.heap.size (K : Int) 0 (.slice (some ⟨g1,0,none⟩) K c1) (.slice da m dc):=by rw [hB3]; exact cellsF_new _ _ _ _ _ _
 rw [<- hB3]
 clear hB3
 have b9:=bel_on b8 (bel_on hb9 uB3)
 have x9:=bel_on x8 (bel_on hb9 uB3)
 obtain ⟨r0,r1,r2,r3⟩:=(HX.out B3 x9).2.2
 obtain ⟨d0,d1,d2,d3⟩:=hcD
 have hKb : ¬ (K : Int) < o.states:=by omega
 clear b8 x8 hb9 uB3
 go_upto_region 17 with fail
 clear r0 r1 r2 r3 d0 d1 d2 d3 x9
 have h23:=HSA.out B3 (HF.out B3 b9).1 (HF.out B3 b9).2.1 (HG.out B3 b9).1 (HG.out B3 b9).2.1
 obtain ⟨q0,q1,q2,q3⟩:=(HF.out B3 b9).2.2.2
 obtain ⟨p0,p1,p2,p3⟩:=(HG.out B3 b9).2.2
 go_upto_region 18 with (go_at_call 23; refine h23.mono ?_; rintro e wA ⟨rfl,hb10⟩; clear h23)
 clear q0 q1 q2 q3 p0 p1 p2 p3
 have bA:=bel_on b9 hb10
 clear b9 hb10
 have h17:=score_any g l l _ _ lv lv wA (HG.out wA bA).1 (HG.out wA bA).2.1 (HF.out wA bA).2.2.1 (HF.out wA bA).2.2.1
 obtain ⟨p0,p1,p2,p3⟩:=(HG.out wA bA).2.2
 go_upto_region 19 with (go_at_call 17; refine h17.mono ?_; rintro e wB ⟨n3,e3,rfl,hs3,hbB⟩; clear h17)
 clear p0 p1 p2 p3
 have HB:=hid_of (bel_on HK.out (bel_on bA hbB))
 clear bA hbB
 clear hs3
 go_wp2
 go_ret
 exact ⟨rfl,HB.out⟩
set_option maxHeartbeats 6400000 in
theorem la_five (f g : FstD) (l : List Int) (t : FstD) (N s0 K : Nat) (o : FstD) (t2 : FstD) (N2 s02 K2 : Nat) (q : FstD) (fin arcs fin' arcs' lv : Value) (w : World) (hf : ISlice w fin f.final) (ha : ASlice w arcs f.arcs) (hf' : ISlice w fin' g.final) (ha' : ASlice w arcs' g.arcs) (hl : ISlice w lv l) (hok : LaOk f t N s0 K o) (hle : ¬ o.states <= 12) (hok2 : LaOk g t2 N2 s02 K2 q) (hsame : ∀ W : World,ISlice W fin f.final -> ASlice W arcs f.arcs -> ISlice W fin' g.final -> ASlice W arcs' g.arcs -> Calls Try.prog 23 #[.agg #[.int .i64 f.states,.int .i64 f.start,fin,arcs],.agg #[.int .i64 g.states,.int .i64 g.start,fin',arcs']] W fun e w' => IsSame (detX t N K) K (detX t2 N2 K2) K2 W e w') :
  Calls Try.prog 6 #[.agg #[.int .i64 f.states,.int .i64 f.start,fin,arcs],.agg #[.int .i64 g.states,.int .i64 g.start,fin',arcs'],lv] w fun e w' => e = .returned (.bool true) /\ Below w.heap.size w w':=by
 obtain ⟨fa,fn,fc,rfl,_,_⟩:=hf.lenOf
 obtain ⟨aa,am,ac,rfl,_,_⟩:=ha.lenOf
 obtain ⟨ga,gn,gc,rfl,_,_⟩:=hf'.lenOf
 obtain ⟨ba,bm,bc,rfl,_,_⟩:=ha'.lenOf
 obtain ⟨A1,hA1⟩ : ∃ W,W = w.alloc (.cells #[.int .i64 f.states,.int .i64 f.start,.slice fa fn fc,.slice aa am ac] 25):=⟨_,rfl⟩
 obtain ⟨A2,hA2⟩ : ∃ W,W = A1.alloc (.cells #[.int .i64 g.states,.int .i64 g.start,.slice ga gn gc,.slice ba bm bc] 25):=⟨_,rfl⟩
 have z1 : A1.heap.size = w.heap.size + 1:=by rw [hA1]; exact one_size _ _
 have k1 : Below w.heap.size w A1:=by rw [hA1]; exact bel_up (bel_self _) _
 have k2 : Below A1.heap.size A1 A2:=by rw [hA2]; exact bel_up (bel_self _) _
 have hk:=bel_on k1 k2
 have hcF : CellsF A2 w.heap.size f.states f.start (.slice fa fn fc) (.slice aa am ac):=(by rw [hA1]; exact cellsF_new _ _ _ _ _ _ : CellsF A1 w.heap.size f.states f.start (.slice fa fn fc) (.slice aa am ac)).below k2
 have hcG : CellsF A2 (w.heap.size + 1) g.states g.start (.slice ga gn gc) (.slice ba bm bc):=by rw [hA2,<- z1]; exact cellsF_new _ _ _ _ _ _
 have HF : Hid (∀ W,Below A2.heap.size A2 W -> ISlice W (.slice fa fn fc) f.final /\ ASlice W (.slice aa am ac) f.arcs /\ ISlice W lv l /\ CellsF W w.heap.size f.states f.start (.slice fa fn fc) (.slice aa am ac)):=fun W h => ⟨(hf.below hk).below h,(ha.below hk).below h,(hl.below hk).below h,hcF.below h⟩
 have HG : Hid (∀ W,Below A2.heap.size A2 W -> ISlice W (.slice ga gn gc) g.final /\ ASlice W (.slice ba bm bc) g.arcs /\ CellsF W (w.heap.size + 1) g.states g.start (.slice ga gn gc) (.slice ba bm bc)):=fun W h => ⟨(hf'.below hk).below h,(ha'.below hk).below h,hcG.below h⟩
 have HK:=hid_of hk
 have HA:=hid_of (And.intro hA1 hA2)
 clear hf ha hf' ha' hl hA1 hA2 k1 k2 z1 hk hcF hcG
 have HOK:=hid_of hok
 have HLE:=hid_of hok.one
 have HSA:=hid_of hsame
 have hKo:=hok.fine.2.2.2.2.2
 have HOK2:=hid_of hok2
 clear hok hsame hok2
 go_enter Try.func6,Try.ntmps6
 go_upto_region 3 with (first | (go_at_call 21; refine (leastBegun_any _).mono ?_; rintro e w1 ⟨rfl,hb1⟩; rw [<- HA.out.1,<- HA.out.2] at hb1) | (go_at_call 14; refine (scoreBegun_any _).mono ?_; rintro e w2 ⟨rfl,hb2⟩) | (go_at_call 13; refine (determineBegun_any _).mono ?_; rintro e w3 ⟨rfl,hb3⟩))
 have b3:=bel_on hb1 (bel_on hb2 hb3)
 clear hb1 hb2 hb3
 have h18:=HLE.out _ _ w3 (HF.out w3 b3).1 (HF.out w3 b3).2.1
 obtain ⟨q0,q1,q2,q3⟩:=(HF.out w3 b3).2.2.2
 go_upto_region 4 with (go_at_call 18; refine h18.mono ?_; rintro e w4 ⟨xa,xn,xc,ya,yn,yc,rfl,hI,hA,hb4⟩; clear h18)
 clear q0 q1 q2 q3
 obtain ⟨B1,hB1⟩ : ∃ W,W = w4.alloc (.cells #[.int .i64 o.states,.int .i64 o.start,.slice xa xn xc,.slice ya yn yc] 25):=⟨_,rfl⟩
 have uB1 : Below w4.heap.size w4 B1:=by rw [hB1]; exact bel_up (bel_self _) _
 have hcX : CellsF B1 w4.heap.size o.states o.start (.slice xa xn xc) (.slice ya yn yc):=by rw [hB1]; exact cellsF_new _ _ _ _ _ _
 rw [<- hB1]
 clear hB1
 have HX : Hid (∀ W,Below B1.heap.size B1 W -> ISlice W (.slice xa xn xc) o.final /\ ASlice W (.slice ya yn yc) o.arcs /\ CellsF W w4.heap.size o.states o.start (.slice xa xn xc) (.slice ya yn yc)):=fun W h => ⟨(hI.below uB1).below h,(hA.below uB1).below h,hcX.below h⟩
 have b4:=bel_on b3 (bel_on hb4 uB1)
 clear b3 hb4 uB1 hI hA hcX
 have x4:=bel_self B1
 have h17:=score_any f l l _ _ lv lv B1 (HF.out B1 b4).1 (HF.out B1 b4).2.1 (HF.out B1 b4).2.2.1 (HF.out B1 b4).2.2.1
 obtain ⟨q0,q1,q2,q3⟩:=(HF.out B1 b4).2.2.2
 go_upto_region 7 with (go_at_call 17; refine h17.mono ?_; rintro e w5 ⟨n1,e1,rfl,hs1,hb5⟩; clear h17)
 have HS:=hid_of hs1
 clear q0 q1 q2 q3 hs1
 have b5:=bel_on b4 hb5
 have x5:=bel_on x4 hb5
 have h17:=score_any o l l _ _ lv lv w5 (HX.out w5 x5).1 (HX.out w5 x5).2.1 (HF.out w5 b5).2.2.1 (HF.out w5 b5).2.2.1
 obtain ⟨r0,r1,r2,r3⟩:=(HX.out w5 x5).2.2
 clear b4 x4 hb5
 go_upto_region 8 with (go_at_call 17; refine h17.mono ?_; rintro e w6 ⟨n2,e2,rfl,hs2,hb6⟩; clear h17)
 obtain ⟨rfl,rfl⟩:=scores_eq HOK.out.din.hc HOK.out.fine.1.check HOK.out.cost HS.out hs2
 clear hs2 r0 r1 r2 r3
 have b6:=bel_on b5 hb6
 have x6:=bel_on x5 hb6
 clear b5 x5 hb6
 go_upto_region 10 with fail
 obtain ⟨r0,r1,r2,r3⟩:=(HX.out w6 x6).2.2
 go_upto_region 14 with fail
 clear r0 r1 r2 r3
 obtain ⟨w8,rfl⟩ : ∃ w8,w8 = w6:=⟨_,rfl⟩
 have b8:=b6
 have x8:=x6
 clear b6 x6
 obtain ⟨m,hdet⟩:=HOK.out.det
 have h7:=hdet _ _ w8 (HF.out w8 b8).1 (HF.out w8 b8).2.1
 clear hdet
 obtain ⟨q0,q1,q2,q3⟩:=(HF.out w8 b8).2.2.2
 go_upto_region 15 with (go_at_call 7; refine h7.mono ?_; rintro e w9 ⟨g1,c1,da,dc,rfl,_,_,_,hb9⟩; clear h7)
 clear q0 q1 q2 q3
 obtain ⟨B3,hB3⟩ : ∃ W,W = w9.alloc (.cells #[.int .i64 (K : Int),.int .i64 0,.slice (some ⟨g1,0,none⟩) K c1,.slice da m dc] 25):=⟨_,rfl⟩
 have uB3 : Below w9.heap.size w9 B3:=by rw [hB3]; exact bel_up (bel_self _) _
 have hcD : CellsF B3 w9.heap.size (K : Int) 0 (.slice (some ⟨g1,0,none⟩) K c1) (.slice da m dc):=by rw [hB3]; exact cellsF_new _ _ _ _ _ _
 rw [<- hB3]
 clear hB3
 have b9:=bel_on b8 (bel_on hb9 uB3)
 have x9:=bel_on x8 (bel_on hb9 uB3)
 obtain ⟨r0,r1,r2,r3⟩:=(HX.out B3 x9).2.2
 obtain ⟨d0,d1,d2,d3⟩:=hcD
 have hKb : ¬ (K : Int) < o.states:=by omega
 clear b8 x8 hb9 uB3
 go_upto_region 17 with fail
 clear r0 r1 r2 r3 d0 d1 d2 d3 x9
 have h23:=HSA.out B3 (HF.out B3 b9).1 (HF.out B3 b9).2.1 (HG.out B3 b9).1 (HG.out B3 b9).2.1
 obtain ⟨q0,q1,q2,q3⟩:=(HF.out B3 b9).2.2.2
 obtain ⟨p0,p1,p2,p3⟩:=(HG.out B3 b9).2.2
 go_upto_region 18 with (go_at_call 23; refine h23.mono ?_; rintro e wA ⟨o',q',ho,hq,rfl,hb10⟩; clear h23)
 clear q0 q1 q2 q3 p0 p1 p2 p3
 obtain rfl:=out_once (HOK.out.done.xin HOK.out.din.hT).1 HOK.out.out ho
 obtain rfl:=out_once (HOK2.out.done.xin HOK2.out.din.hT).1 HOK2.out.out hq
 obtain ⟨sb,hsb⟩ : ∃ b,b = sameL o q:=⟨_,rfl⟩
 have HSB:=hid_of hsb
 rw [<- hsb]
 clear hsb ho hq
 have bA:=bel_on b9 hb10
 clear b9 hb10
 have h17:=score_any g l l _ _ lv lv wA (HG.out wA bA).1 (HG.out wA bA).2.1 (HF.out wA bA).2.2.1 (HF.out wA bA).2.2.1
 obtain ⟨p0,p1,p2,p3⟩:=(HG.out wA bA).2.2
 go_upto_region 19 with (go_at_call 17; refine h17.mono ?_; rintro e wB ⟨n3,e3,rfl,hs3,hbB⟩; clear h17)
 clear p0 p1 p2 p3
 have HB:=hid_of (bel_on HK.out (bel_on bA hbB))
 clear bA hbB
 cases sb with
 | true =>
  obtain ⟨rfl,rfl⟩:=scores_eq HOK.out.din.hc HOK2.out.din.hc (HOK.out.same HOK2.out HSB.out.symm) HS.out hs3
  clear hs3
  cases he : (e1 != 0) with
  | true =>
   go_wp2
   go_ret
   exact ⟨rfl,HB.out⟩
  | false =>
   go_wp2
   go_ret
   exact ⟨rfl,HB.out⟩
 | false =>
  clear hs3
  cases he : (e3 != 0) with
  | true =>
   go_wp2
   go_ret
   exact ⟨rfl,HB.out⟩
  | false =>
   go_wp2
   go_ret
   exact ⟨rfl,HB.out⟩
theorem leastAgain_any (f g : FstD) (l : List Int) (fin arcs fin' arcs' lv : Value) (w : World) (hf : ISlice w fin f.final) (ha : ASlice w arcs f.arcs) (hf' : ISlice w fin' g.final) (ha' : ASlice w arcs' g.arcs) (hl : ISlice w lv l) :
  Calls Try.prog 6 #[.agg #[.int .i64 f.states,.int .i64 f.start,fin,arcs],.agg #[.int .i64 g.states,.int .i64 g.start,fin',arcs'],lv] w fun e w' => e = .returned (.bool true) /\ Below w.heap.size w w':=by
 rcases least_prog f with ⟨c,h0,h1⟩ | ⟨t,N,s0,K,o,hok⟩
 ·exact la_one f g l c fin arcs fin' arcs' lv w hf ha hf' ha' hl h0 h1
 ·rcases least_prog g with ⟨c,h0,h1⟩ | ⟨t2,N2,s02,K2,q,hok2⟩
  ·have hs : SaN f g fin arcs fin' arcs' c:=fun W k1 k2 k3 k4 => Same_second f g _ K c fin arcs fin' arcs' W k1 k2 k3 k4 h0 (fun W k5 k6 => hok.le _ _ W k5 k6) fun W k5 k6 => h1 _ _ W k5 k6
   by_cases e : o.states <= 12
   ·exact la_two f g l t N s0 K o c fin arcs fin' arcs' lv w hf ha hf' ha' hl hok e h0 hs
   ·exact la_four f g l t N s0 K o c fin arcs fin' arcs' lv w hf ha hf' ha' hl hok e h0 hs
  ·have hs:=fun (W : World) k1 k2 k3 k4 => Same_both f g _ _ K K2 fin arcs fin' arcs' W k1 k2 k3 k4 (fun W k5 k6 => hok.le _ _ W k5 k6) fun W k5 k6 => hok2.le _ _ W k5 k6
   by_cases e : o.states <= 12
   ·exact la_three f g l t N s0 K o t2 N2 s02 K2 q fin arcs fin' arcs' lv w hf ha hf' ha' hl hok e hok2 hs
   ·exact la_five f g l t N s0 K o t2 N2 s02 K2 q fin arcs fin' arcs' lv w hf ha hf' ha' hl hok e hok2 hs
end Go.Proofs.Yteehgcbjmdideab
