/- 'Determine' of package determine,in general: the walks. (Made by wip/gen/deb.py.) -/
import Derived.Test.YteehgcbjmdideabVM25
import Derived.Test.YteehgcbjmdideabVM33
import Derived.Test.YteehgcbjmdideabVM27
import Derived.Test.YteehgcbjmdideabVWoE
set_option maxRecDepth 100000
namespace Go.Proofs.Yteehgcbjmdideab
open Go.RowKit
attribute [local go_sem ↓] Go.wp_at_zero Go.wp_at_succ
theorem far4H {w : World} {X b : Nat} (h : b ≠ X) (u0 u1 u2 u3 : Value) : ((((w.setCell ⟨X,0,none⟩ u0).setCell ⟨X,1,none⟩ u1).setCell ⟨X,2,none⟩ u2).setCell ⟨X,3,none⟩ u3).heap[b]? = w.heap[b]? :=
 (Below.heap_setCell _ ⟨X,3,none⟩ u3 b h).trans ((Below.heap_setCell _ ⟨X,2,none⟩ u2 b h).trans ((Below.heap_setCell _ ⟨X,1,none⟩ u1 b h).trans (Below.heap_setCell _ ⟨X,0,none⟩ u0 b h)))
def NoFst (w : World) (c : Int) (e : Ending) (w' : World) : Prop:=e = .returned (.tuple #[.agg #[.int .i64 0,.int .i64 0,.slice none 0 0,.slice none 0 0],.int .i64 c]) /\ Below w.heap.size w w'
def HasFst (w : World) (K m : Nat) (x : FstD) (e : Ending) (w' : World) : Prop:=∃ g1 c1 ba bc,e = .returned (.tuple #[.agg #[.int .i64 (K : Int),.int .i64 0,.slice (some ⟨g1,0,none⟩) K c1,.slice ba m bc],.int .i64 0]) /\ NumsAt w' g1 K x.final /\ w.heap.size <= g1 /\ ArcsB w.heap.size w' ba m x.arcs /\ Below w.heap.size w w'
set_option maxHeartbeats 3200000 in
theorem det_bad (f : FstD) (fin arcs : Value) (w : World) (hf : ISlice w fin f.final) (ha : ASlice w arcs f.arcs) (hc : checkD f ≠ 0) :
  Calls Try.prog 7 #[.agg #[.int .i64 f.states,.int .i64 f.start,fin,arcs]] w fun e w' => NoFst w (checkD f) e w':=by
 have hcb : (checkD f != 0) = true:=by simpa using hc
 obtain ⟨cd,hcd⟩ : ∃ c,c = checkD f:=⟨_,rfl⟩
 obtain ⟨fa,fn,fc,rfl,_,_⟩:=hf.lenOf
 obtain ⟨aa,an,ac,rfl,_,_⟩:=ha.lenOf
 obtain ⟨A1,hA1⟩ : ∃ W,W = w.alloc (.cells #[.int .i64 f.states,.int .i64 f.start,.slice fa fn fc,.slice aa an ac] 25):=⟨_,rfl⟩
 have hX1 : A1.heap[w.heap.size]? = some (.cells #[.int .i64 f.states,.int .i64 f.start,.slice fa fn fc,.slice aa an ac] 25 (0,0)):=by rw [hA1]; exact heap_alloc_new w _
 have hB1 : Below w.heap.size w A1:=by rw [hA1]; exact bel_up (bel_self w) _
 have s1 : A1.heap.size = w.heap.size + 1:=by rw [hA1]; exact one_size _ _
 obtain ⟨A2,hA2⟩ : ∃ W,W = A1.alloc (.cells #[.int .i64 0,.int .i64 0,.slice none 0 0,.slice none 0 0] 25):=⟨_,rfl⟩
 have hz2 : ZBlock A2 (w.heap.size + 1):=by unfold ZBlock; rw [hA2,<- s1]; exact heap_alloc_new A1 _
 have hB12 : Below A1.heap.size A1 A2:=by rw [hA2]; exact bel_up (bel_self _) _
 have hX2:=heap_bel hB12 hX1
 have hB2:=bel_on hB1 hB12
 have q2 : CellsF A2 w.heap.size f.states f.start (.slice fa fn fc) (.slice aa an ac):=(by rw [hA1]; exact cellsF_new _ _ _ _ _ _ : CellsF A1 w.heap.size f.states f.start (.slice fa fn fc) (.slice aa an ac)).below hB12
 have HW : Hid (A2 = (w.alloc (.cells #[.int .i64 f.states,.int .i64 f.start,.slice fa fn fc,.slice aa an ac] 25)).alloc (.cells #[.int .i64 0,.int .i64 0,.slice none 0 0,.slice none 0 0] 25)):=by rw [<- hA1]; exact hA2
 have h91:=reads_any f _ _ A2 (hf.below hB2) (ha.below hB2)
 rw [HW.out,<- hcd] at h91
 rw [<- hcd] at hcb ⊢
 have HIN : Hid (∀ W : World,Below w.heap.size w W -> ISlice W (.slice fa fn fc) f.final /\ ASlice W (.slice aa an ac) f.arcs):=fun W h => ⟨hf.below h,ha.below h⟩
 have hsz2 : A2.heap.size = w.heap.size + 2:=by rw [hA2,one_size,s1]
 clear hA1 hA2 hX1 hB1 s1 hB12 hf ha
 go_enter Try.func7,Try.ntmps7
 clear hcd hc
 go_wp2_with (first | (go_at_call 26; refine h91.mono ?_; rintro e w1 ⟨rfl,hb1⟩; rw [<- HW.out] at hb1; clear h91; obtain ⟨p0,p1,p2,p3⟩:=q2.below hb1; have hz1:=heap_bel hb1 hz2; obtain ⟨z0,z1,z2,z3,y0,y1,y2,y3⟩:=zfacts hz1; obtain ⟨t0,t1,t2,t3⟩:=set4_cells z0 z1 z2 z3 0 0 (.slice none 0 0) (.slice none 0 0)))
 exact bodyPost_ret (v:=.tuple #[.agg #[.int .i64 0,.int .i64 0,.slice none 0 0,.slice none 0 0],.int .i64 cd]) (by simp [results,Try.results7,go_sem, *]) rfl ⟨rfl,bel_set4 (bel_on hB2 hb1) (by omega) _ _ _ _⟩
set_option maxHeartbeats 3200000 in
theorem det_not (f : FstD) (fin arcs : Value) (w : World) (hf : ISlice w fin f.final) (ha : ASlice w arcs f.arcs) (hc : checkD f = 0) (hn : (bothB f && !silB f) = false) :
  Calls Try.prog 7 #[.agg #[.int .i64 f.states,.int .i64 f.start,fin,arcs]] w fun e w' => NoFst w 4 e w':=by
 obtain ⟨fa,fn,fc,rfl,_,_⟩:=hf.lenOf
 obtain ⟨aa,an,ac,rfl,_,_⟩:=ha.lenOf
 obtain ⟨A1,hA1⟩ : ∃ W,W = w.alloc (.cells #[.int .i64 f.states,.int .i64 f.start,.slice fa fn fc,.slice aa an ac] 25):=⟨_,rfl⟩
 have hX1 : A1.heap[w.heap.size]? = some (.cells #[.int .i64 f.states,.int .i64 f.start,.slice fa fn fc,.slice aa an ac] 25 (0,0)):=by rw [hA1]; exact heap_alloc_new w _
 have hB1 : Below w.heap.size w A1:=by rw [hA1]; exact bel_up (bel_self w) _
 have s1 : A1.heap.size = w.heap.size + 1:=by rw [hA1]; exact one_size _ _
 obtain ⟨A2,hA2⟩ : ∃ W,W = A1.alloc (.cells #[.int .i64 0,.int .i64 0,.slice none 0 0,.slice none 0 0] 25):=⟨_,rfl⟩
 have hz2 : ZBlock A2 (w.heap.size + 1):=by unfold ZBlock; rw [hA2,<- s1]; exact heap_alloc_new A1 _
 have hB12 : Below A1.heap.size A1 A2:=by rw [hA2]; exact bel_up (bel_self _) _
 have hX2:=heap_bel hB12 hX1
 have hB2:=bel_on hB1 hB12
 have q2 : CellsF A2 w.heap.size f.states f.start (.slice fa fn fc) (.slice aa an ac):=(by rw [hA1]; exact cellsF_new _ _ _ _ _ _ : CellsF A1 w.heap.size f.states f.start (.slice fa fn fc) (.slice aa an ac)).below hB12
 have HW : Hid (A2 = (w.alloc (.cells #[.int .i64 f.states,.int .i64 f.start,.slice fa fn fc,.slice aa an ac] 25)).alloc (.cells #[.int .i64 0,.int .i64 0,.slice none 0 0,.slice none 0 0] 25)):=by rw [<- hA1]; exact hA2
 have h91:=reads_any f _ _ A2 (hf.below hB2) (ha.below hB2)
 rw [HW.out,hc,hn,Bool.and_false] at h91
 have HIN : Hid (∀ W : World,Below w.heap.size w W -> ISlice W (.slice fa fn fc) f.final /\ ASlice W (.slice aa an ac) f.arcs):=fun W h => ⟨hf.below h,ha.below h⟩
 have hsz2 : A2.heap.size = w.heap.size + 2:=by rw [hA2,one_size,s1]
 clear hA1 hA2 hX1 hB1 s1 hB12 hf ha
 go_enter Try.func7,Try.ntmps7
 clear hc hn
 go_wp2_with (first | (go_at_call 26; refine h91.mono ?_; rintro e w1 ⟨rfl,hb1⟩; rw [<- HW.out] at hb1; clear h91; obtain ⟨p0,p1,p2,p3⟩:=q2.below hb1; have hz1:=heap_bel hb1 hz2; obtain ⟨z0,z1,z2,z3,y0,y1,y2,y3⟩:=zfacts hz1; obtain ⟨t0,t1,t2,t3⟩:=set4_cells z0 z1 z2 z3 0 0 (.slice none 0 0) (.slice none 0 0)))
 exact bodyPost_ret (v:=.tuple #[.agg #[.int .i64 0,.int .i64 0,.slice none 0 0,.slice none 0 0],.int .i64 4]) (by simp [results,Try.results7,go_sem, *]) rfl ⟨rfl,bel_set4 (bel_on hB2 hb1) (by omega) _ _ _ _⟩
set_option maxHeartbeats 3200000 in
theorem det_round (f : FstD) (fin arcs : Value) (w : World) (hf : ISlice w fin f.final) (ha : ASlice w arcs f.arcs) (hc : checkD f = 0) (hn : (bothB f && !silB f) = true) (hr : RoundD f) :
  Calls Try.prog 7 #[.agg #[.int .i64 f.states,.int .i64 f.start,fin,arcs]] w fun e w' => NoFst w 4 e w':=by
 have HR : Hid (∀ (W : World) (fin arcs : Value),ISlice W fin f.final -> ASlice W arcs f.arcs -> Calls Try.prog 27 #[.agg #[.int .i64 f.states,.int .i64 f.start,fin,arcs]] W fun e w' => e = .returned (.bool true) /\ Below W.heap.size W w'):=fun W fin arcs hf ha => by
  refine (goesRound_at f fin arcs W (fine_of hc) hf ha).mono ?_
  rintro e w' ⟨b,rfl,h1,hb⟩
  rw [h1.2 hr]
  exact ⟨rfl,hb⟩
 obtain ⟨fa,fn,fc,rfl,_,_⟩:=hf.lenOf
 obtain ⟨aa,an,ac,rfl,_,_⟩:=ha.lenOf
 obtain ⟨A1,hA1⟩ : ∃ W,W = w.alloc (.cells #[.int .i64 f.states,.int .i64 f.start,.slice fa fn fc,.slice aa an ac] 25):=⟨_,rfl⟩
 have hX1 : A1.heap[w.heap.size]? = some (.cells #[.int .i64 f.states,.int .i64 f.start,.slice fa fn fc,.slice aa an ac] 25 (0,0)):=by rw [hA1]; exact heap_alloc_new w _
 have hB1 : Below w.heap.size w A1:=by rw [hA1]; exact bel_up (bel_self w) _
 have s1 : A1.heap.size = w.heap.size + 1:=by rw [hA1]; exact one_size _ _
 obtain ⟨A2,hA2⟩ : ∃ W,W = A1.alloc (.cells #[.int .i64 0,.int .i64 0,.slice none 0 0,.slice none 0 0] 25):=⟨_,rfl⟩
 have hz2 : ZBlock A2 (w.heap.size + 1):=by unfold ZBlock; rw [hA2,<- s1]; exact heap_alloc_new A1 _
 have hB12 : Below A1.heap.size A1 A2:=by rw [hA2]; exact bel_up (bel_self _) _
 have hX2:=heap_bel hB12 hX1
 have hB2:=bel_on hB1 hB12
 have q2 : CellsF A2 w.heap.size f.states f.start (.slice fa fn fc) (.slice aa an ac):=(by rw [hA1]; exact cellsF_new _ _ _ _ _ _ : CellsF A1 w.heap.size f.states f.start (.slice fa fn fc) (.slice aa an ac)).below hB12
 have HW : Hid (A2 = (w.alloc (.cells #[.int .i64 f.states,.int .i64 f.start,.slice fa fn fc,.slice aa an ac] 25)).alloc (.cells #[.int .i64 0,.int .i64 0,.slice none 0 0,.slice none 0 0] 25)):=by rw [<- hA1]; exact hA2
 have h91:=reads_any f _ _ A2 (hf.below hB2) (ha.below hB2)
 rw [HW.out,hc,hn] at h91
 have h91 : Calls Try.prog 26 _ _ fun e w' => e = .returned (.tuple #[.bool true,.int .i64 0]) /\ _:=h91
 have HIN : Hid (∀ W : World,Below w.heap.size w W -> ISlice W (.slice fa fn fc) f.final /\ ASlice W (.slice aa an ac) f.arcs):=fun W h => ⟨hf.below h,ha.below h⟩
 have hsz2 : A2.heap.size = w.heap.size + 2:=by rw [hA2,one_size,s1]
 clear hA1 hA2 hX1 hB1 s1 hB12 hf ha
 go_enter Try.func7,Try.ntmps7
 clear hc hn hr
 go_wp2_with (first | (go_at_call 26; refine h91.mono ?_; rintro e w1 ⟨rfl,hb1⟩; rw [<- HW.out] at hb1; clear h91; obtain ⟨p0,p1,p2,p3⟩:=q2.below hb1; have h92:=HR.out w1 _ _ (HIN.out w1 (bel_on hB2 hb1)).1 (HIN.out w1 (bel_on hB2 hb1)).2) | (go_at_call 27; refine h92.mono ?_; rintro e w2 ⟨rfl,hb2⟩; clear h92; have hz2b:=heap_bel hb2 (heap_bel hb1 hz2); obtain ⟨z0,z1,z2,z3,y0,y1,y2,y3⟩:=zfacts hz2b; obtain ⟨t0,t1,t2,t3⟩:=set4_cells z0 z1 z2 z3 0 0 (.slice none 0 0) (.slice none 0 0)))
 exact bodyPost_ret (v:=.tuple #[.agg #[.int .i64 0,.int .i64 0,.slice none 0 0,.slice none 0 0],.int .i64 4]) (by simp [results,Try.results7,go_sem, *]) rfl ⟨rfl,bel_set4 (bel_on (bel_on hB2 hb1) hb2) (by omega) _ _ _ _⟩
set_option maxHeartbeats 3200000 in
theorem det_fail (f t : FstD) (N s0 K : Nat) (fin arcs : Value) (w : World) (hf : ISlice w fin f.final) (ha : ASlice w arcs f.arcs) (hd : DIn f t N s0) (hk : FailK t N K) :
  Calls Try.prog 7 #[.agg #[.int .i64 f.states,.int .i64 f.start,fin,arcs]] w fun e w' => NoFst w 2 e w':=by
 have HD : Hid (DIn f t N s0):=hd
 have HK : Hid (FailK t N K):=hk
 obtain ⟨fa,fn,fc,rfl,_,_⟩:=hf.lenOf
 obtain ⟨aa,an,ac,rfl,_,_⟩:=ha.lenOf
 obtain ⟨A1,hA1⟩ : ∃ W,W = w.alloc (.cells #[.int .i64 f.states,.int .i64 f.start,.slice fa fn fc,.slice aa an ac] 25):=⟨_,rfl⟩
 have hX1 : A1.heap[w.heap.size]? = some (.cells #[.int .i64 f.states,.int .i64 f.start,.slice fa fn fc,.slice aa an ac] 25 (0,0)):=by rw [hA1]; exact heap_alloc_new w _
 have hB1 : Below w.heap.size w A1:=by rw [hA1]; exact bel_up (bel_self w) _
 have s1 : A1.heap.size = w.heap.size + 1:=by rw [hA1]; exact one_size _ _
 obtain ⟨A2,hA2⟩ : ∃ W,W = A1.alloc (.cells #[.int .i64 0,.int .i64 0,.slice none 0 0,.slice none 0 0] 25):=⟨_,rfl⟩
 have hz2 : ZBlock A2 (w.heap.size + 1):=by unfold ZBlock; rw [hA2,<- s1]; exact heap_alloc_new A1 _
 have hB12 : Below A1.heap.size A1 A2:=by rw [hA2]; exact bel_up (bel_self _) _
 have hX2:=heap_bel hB12 hX1
 have hB2:=bel_on hB1 hB12
 have q2 : CellsF A2 w.heap.size f.states f.start (.slice fa fn fc) (.slice aa an ac):=(by rw [hA1]; exact cellsF_new _ _ _ _ _ _ : CellsF A1 w.heap.size f.states f.start (.slice fa fn fc) (.slice aa an ac)).below hB12
 have HW : Hid (A2 = (w.alloc (.cells #[.int .i64 f.states,.int .i64 f.start,.slice fa fn fc,.slice aa an ac] 25)).alloc (.cells #[.int .i64 0,.int .i64 0,.slice none 0 0,.slice none 0 0] 25)):=by rw [<- hA1]; exact hA2
 have h91:=hd.reads (hf.below hB2) (ha.below hB2)
 rw [HW.out] at h91
 have HIN : Hid (∀ W : World,Below w.heap.size w W -> ISlice W (.slice fa fn fc) f.final /\ ASlice W (.slice aa an ac) f.arcs):=fun W h => ⟨hf.below h,ha.below h⟩
 have hsz2 : A2.heap.size = w.heap.size + 2:=by rw [hA2,one_size,s1]
 clear hA1 hA2 hX1 hB1 s1 hB12 hf ha
 go_enter Try.func7,Try.ntmps7
 clear hd hk
 go_wp2_with (first | (go_at_call 26; refine h91.mono ?_; rintro e w1 ⟨rfl,hb1⟩; rw [<- HW.out] at hb1; clear h91; obtain ⟨p0,p1,p2,p3⟩:=q2.below hb1; have h92:=HD.out.round (HIN.out w1 (bel_on hB2 hb1)).1 (HIN.out w1 (bel_on hB2 hb1)).2) | (go_at_call 27; refine h92.mono ?_; rintro e w2 ⟨rfl,hb2⟩; clear h92 p0 p1 p2 p3; have hb02:=bel_on (bel_on hB2 hb1) hb2; have hb22:=bel_on hb1 hb2; obtain ⟨p0,p1,p2,p3⟩:=q2.below hb22; have h125:=HD.out.trim (HIN.out w2 hb02).1 (HIN.out w2 hb02).2) | (go_at_call 28; refine h125.mono ?_; rintro e w3 ⟨fa3,fn3,fc3,aa3,an3,ac3,rfl,hF3,hb3⟩; clear h125 p0 p1 p2 p3; have hb03:=bel_on hb02 hb3; have hs22:=hb22.size; have hb23:=bel_on hb22 hb3; obtain ⟨p0,p1,p2,p3⟩:=q2.below hb23; have hX3:=heap_bel hb23 hX2; have f0:=Go.Joins.unfrozen_of_block hX3 0; have f1:=Go.Joins.unfrozen_of_block hX3 1; have f2:=Go.Joins.unfrozen_of_block hX3 2; have f3:=Go.Joins.unfrozen_of_block hX3 3; have hz3:=zb_set4 (heap_bel hb23 hz2) (Nat.succ_ne_self _) (.int .i64 (N : Int)) (.int .i64 (s0 : Int)) (.slice fa3 fn3 fc3) (.slice aa3 an3 ac3); have hb33:=bel_set4 hb03 (Nat.le_refl _) (.int .i64 (N : Int)) (.int .i64 (s0 : Int)) (.slice fa3 fn3 fc3) (.slice aa3 an3 ac3); obtain ⟨r0,r1,r2,r3⟩:=set4_cells p0 p1 p2 p3 (N : Int) (s0 : Int) (.slice fa3 fn3 fc3) (.slice aa3 an3 ac3); have hF4:=hF3 ((((w3.setCell ⟨w.heap.size,0,none⟩ (.int .i64 (N : Int))).setCell ⟨w.heap.size,1,none⟩ (.int .i64 (s0 : Int))).setCell ⟨w.heap.size,2,none⟩ (.slice fa3 fn3 fc3)).setCell ⟨w.heap.size,3,none⟩ (.slice aa3 an3 ac3)) (fun b hb _ => far4H (by omega) (.int .i64 (N : Int)) (.int .i64 (s0 : Int)) (.slice fa3 fn3 fc3) (.slice aa3 an3 ac3)); have h126:=HD.out.fail HK.out hF4.1 hF4.2; clear hX3 hF3 hF4) | (go_at_call 29; refine h126.mono ?_; rintro e w4 ⟨rfl,hb4⟩; clear h126 p0 p1 p2 p3 f0 f1 f2 f3 r0 r1 r2 r3; have hz4:=heap_bel hb4 hz3; have hb04:=bel_on hb33 hb4; have hbA:=bel_up (bel_self w4) (.cells #[.int .i64 0,.int .i64 0,.slice none 0 0,.slice none 0 0] 25); have hzA:=heap_bel hbA hz4; obtain ⟨z0,z1,z2,z3,y0,y1,y2,y3⟩:=zfacts hzA; obtain ⟨x0,x1,x2,x3,_,_,_,_⟩:=zfacts hz4; obtain ⟨t0,t1,t2,t3⟩:=set4_cells x0 x1 x2 x3 0 0 (.slice none 0 0) (.slice none 0 0); have u0:=bel_c (bel_up (bel_self _) (.cells #[.int .i64 0,.int .i64 0,.slice none 0 0,.slice none 0 0] 25)) t0; have u1:=bel_c (bel_up (bel_self _) (.cells #[.int .i64 0,.int .i64 0,.slice none 0 0,.slice none 0 0] 25)) t1; have u2:=bel_c (bel_up (bel_self _) (.cells #[.int .i64 0,.int .i64 0,.slice none 0 0,.slice none 0 0] 25)) t2; have u3:=bel_c (bel_up (bel_self _) (.cells #[.int .i64 0,.int .i64 0,.slice none 0 0,.slice none 0 0] 25)) t3))
 have hzl:=heap_lt hz4
 exact bodyPost_ret (v:=.tuple #[.agg #[.int .i64 0,.int .i64 0,.slice none 0 0,.slice none 0 0],.int .i64 2]) (by simp [results,Try.results7,go_sem, *]) rfl ⟨rfl,bel_set4 (bel_on hb04 hbA) (by omega) _ _ _ _⟩
set_option maxHeartbeats 3200000 in
theorem det_count (f t : FstD) (N s0 K m : Nat) (cnt rk : Nat -> Nat) (fin arcs : Value) (w : World) (hf : ISlice w fin f.final) (ha : ASlice w arcs f.arcs) (hd : DIn f t N s0) (hk : DoneK t N K) (hm : (subG t N K).arcs.length = m) (hcn : CntOk (edgesE (subG t N K).arcs) cnt) (hrk : ∀ e ∈ edgesE (subG t N K).arcs,rk e.2 < rk e.1) (hgt : 200 < cnt 0) :
  Calls Try.prog 7 #[.agg #[.int .i64 f.states,.int .i64 f.start,fin,arcs]] w fun e w' => NoFst w 2 e w':=by
 have HD : Hid (DIn f t N s0):=hd
 obtain ⟨c0,hc0⟩ : ∃ c,c = cnt 0:=⟨_,rfl⟩
 have HC0 : Hid (c0 = cnt 0):=hc0
 have HK : Hid (DoneK t N K):=hk
 have HM : Hid ((subG t N K).arcs.length = m):=hm
 have HCN : Hid (CntOk (edgesE (subG t N K).arcs) cnt /\ ∀ e ∈ edgesE (subG t N K).arcs,rk e.2 < rk e.1):=⟨hcn,hrk⟩
 have hcg : (200 : Int) < (c0 : Int):=by omega
 obtain ⟨fa,fn,fc,rfl,_,_⟩:=hf.lenOf
 obtain ⟨aa,an,ac,rfl,_,_⟩:=ha.lenOf
 obtain ⟨A1,hA1⟩ : ∃ W,W = w.alloc (.cells #[.int .i64 f.states,.int .i64 f.start,.slice fa fn fc,.slice aa an ac] 25):=⟨_,rfl⟩
 have hX1 : A1.heap[w.heap.size]? = some (.cells #[.int .i64 f.states,.int .i64 f.start,.slice fa fn fc,.slice aa an ac] 25 (0,0)):=by rw [hA1]; exact heap_alloc_new w _
 have hB1 : Below w.heap.size w A1:=by rw [hA1]; exact bel_up (bel_self w) _
 have s1 : A1.heap.size = w.heap.size + 1:=by rw [hA1]; exact one_size _ _
 obtain ⟨A2,hA2⟩ : ∃ W,W = A1.alloc (.cells #[.int .i64 0,.int .i64 0,.slice none 0 0,.slice none 0 0] 25):=⟨_,rfl⟩
 have hz2 : ZBlock A2 (w.heap.size + 1):=by unfold ZBlock; rw [hA2,<- s1]; exact heap_alloc_new A1 _
 have hB12 : Below A1.heap.size A1 A2:=by rw [hA2]; exact bel_up (bel_self _) _
 have hX2:=heap_bel hB12 hX1
 have hB2:=bel_on hB1 hB12
 have q2 : CellsF A2 w.heap.size f.states f.start (.slice fa fn fc) (.slice aa an ac):=(by rw [hA1]; exact cellsF_new _ _ _ _ _ _ : CellsF A1 w.heap.size f.states f.start (.slice fa fn fc) (.slice aa an ac)).below hB12
 have HW : Hid (A2 = (w.alloc (.cells #[.int .i64 f.states,.int .i64 f.start,.slice fa fn fc,.slice aa an ac] 25)).alloc (.cells #[.int .i64 0,.int .i64 0,.slice none 0 0,.slice none 0 0] 25)):=by rw [<- hA1]; exact hA2
 have h91:=hd.reads (hf.below hB2) (ha.below hB2)
 rw [HW.out] at h91
 have HIN : Hid (∀ W : World,Below w.heap.size w W -> ISlice W (.slice fa fn fc) f.final /\ ASlice W (.slice aa an ac) f.arcs):=fun W h => ⟨hf.below h,ha.below h⟩
 have hsz2 : A2.heap.size = w.heap.size + 2:=by rw [hA2,one_size,s1]
 clear hA1 hA2 hX1 hB1 s1 hB12 hf ha
 go_enter Try.func7,Try.ntmps7
 clear hd hk hm hcn hrk hgt hc0
 go_wp2_with (first | (go_at_call 26; refine h91.mono ?_; rintro e w1 ⟨rfl,hb1⟩; rw [<- HW.out] at hb1; clear h91; obtain ⟨p0,p1,p2,p3⟩:=q2.below hb1; have h92:=HD.out.round (HIN.out w1 (bel_on hB2 hb1)).1 (HIN.out w1 (bel_on hB2 hb1)).2) | (go_at_call 27; refine h92.mono ?_; rintro e w2 ⟨rfl,hb2⟩; clear h92 p0 p1 p2 p3; have hb02:=bel_on (bel_on hB2 hb1) hb2; have hb22:=bel_on hb1 hb2; obtain ⟨p0,p1,p2,p3⟩:=q2.below hb22; have h125:=HD.out.trim (HIN.out w2 hb02).1 (HIN.out w2 hb02).2) | (go_at_call 28; refine h125.mono ?_; rintro e w3 ⟨fa3,fn3,fc3,aa3,an3,ac3,rfl,hF3,hb3⟩; clear h125 p0 p1 p2 p3; have hb03:=bel_on hb02 hb3; have hs22:=hb22.size; have hb23:=bel_on hb22 hb3; obtain ⟨p0,p1,p2,p3⟩:=q2.below hb23; have hX3:=heap_bel hb23 hX2; have f0:=Go.Joins.unfrozen_of_block hX3 0; have f1:=Go.Joins.unfrozen_of_block hX3 1; have f2:=Go.Joins.unfrozen_of_block hX3 2; have f3:=Go.Joins.unfrozen_of_block hX3 3; have hz3:=zb_set4 (heap_bel hb23 hz2) (Nat.succ_ne_self _) (.int .i64 (N : Int)) (.int .i64 (s0 : Int)) (.slice fa3 fn3 fc3) (.slice aa3 an3 ac3); have hb33:=bel_set4 hb03 (Nat.le_refl _) (.int .i64 (N : Int)) (.int .i64 (s0 : Int)) (.slice fa3 fn3 fc3) (.slice aa3 an3 ac3); obtain ⟨r0,r1,r2,r3⟩:=set4_cells p0 p1 p2 p3 (N : Int) (s0 : Int) (.slice fa3 fn3 fc3) (.slice aa3 an3 ac3); have hF4:=hF3 ((((w3.setCell ⟨w.heap.size,0,none⟩ (.int .i64 (N : Int))).setCell ⟨w.heap.size,1,none⟩ (.int .i64 (s0 : Int))).setCell ⟨w.heap.size,2,none⟩ (.slice fa3 fn3 fc3)).setCell ⟨w.heap.size,3,none⟩ (.slice aa3 an3 ac3)) (fun b hb _ => far4H (by omega) (.int .i64 (N : Int)) (.int .i64 (s0 : Int)) (.slice fa3 fn3 fc3) (.slice aa3 an3 ac3)); have h126:=HD.out.done HK.out HM.out hF4.1 hF4.2; clear hX3 hF3 hF4) | (go_at_call 29; refine h126.mono ?_; rintro e w4 ⟨fa4,fc4,aa4,ac4,rfl,hI4,hA4,hb4⟩; clear h126 p0 p1 p2 p3 f0 f1 f2 f3 r0 r1 r2 r3; have hz4:=heap_bel hb4 hz3; have hb04:=bel_on hb33 hb4; have hbA:=bel_up (bel_self w4) (.cells #[.int .i64 (K : Int),.int .i64 0,.slice fa4 K fc4,.slice aa4 m ac4] 25); have hc4:=cellsF_new w4 (K : Int) 0 (.slice fa4 K fc4) (.slice aa4 m ac4) 25; have hG4:=heap_alloc_new w4 (.cells #[.int .i64 (K : Int),.int .i64 0,.slice fa4 K fc4,.slice aa4 m ac4] 25); have r0:=hc4.1; have r1:=hc4.2.1; have r2:=hc4.2.2.1; have r3:=hc4.2.2.2; have h128:=HD.out.begs HK.out HM.out HCN.out.1 HCN.out.2 fa4 K fc4 aa4 ac4 (w4.alloc (.cells #[.int .i64 (K : Int),.int .i64 0,.slice fa4 K fc4,.slice aa4 m ac4] 25)) (hA4.below hbA); rw [<- HC0.out] at h128) | (go_at_call 31; refine h128.mono ?_; rintro e w5 ⟨rfl,hb5⟩; clear h128 r0 r1 r2 r3; have hb45:=bel_on hbA hb5; have hz5:=heap_bel hb45 hz4; obtain ⟨z0,z1,z2,z3,y0,y1,y2,y3⟩:=zfacts hz5; obtain ⟨t0,t1,t2,t3⟩:=set4_cells z0 z1 z2 z3 0 0 (.slice none 0 0) (.slice none 0 0)))
 have hzl:=heap_lt hz4
 have hszA:=hbA.size
 exact bodyPost_ret (v:=.tuple #[.agg #[.int .i64 0,.int .i64 0,.slice none 0 0,.slice none 0 0],.int .i64 2]) (by simp [results,Try.results7,go_sem, *]) rfl ⟨rfl,bel_set4 (bel_on hb04 hb45) (by omega) _ _ _ _⟩
set_option maxHeartbeats 3200000 in
theorem det_heavy (f t : FstD) (N s0 K m : Nat) (cnt rk : Nat -> Nat) (fin arcs : Value) (w : World) (hf : ISlice w fin f.final) (ha : ASlice w arcs f.arcs) (hd : DIn f t N s0) (hk : DoneK t N K) (hm : (subG t N K).arcs.length = m) (hcn : CntOk (edgesE (subG t N K).arcs) cnt) (hrk : ∀ e ∈ edgesE (subG t N K).arcs,rk e.2 < rk e.1) (hgt : cnt 0 <= 200) (hx : checkD (detX t N K) ≠ 0) :
  Calls Try.prog 7 #[.agg #[.int .i64 f.states,.int .i64 f.start,fin,arcs]] w fun e w' => NoFst w 2 e w':=by
 have HD : Hid (DIn f t N s0):=hd
 obtain ⟨c0,hc0⟩ : ∃ c,c = cnt 0:=⟨_,rfl⟩
 have HC0 : Hid (c0 = cnt 0):=hc0
 have HK : Hid (DoneK t N K):=hk
 have HM : Hid ((subG t N K).arcs.length = m):=hm
 have HCN : Hid (CntOk (edgesE (subG t N K).arcs) cnt /\ ∀ e ∈ edgesE (subG t N K).arcs,rk e.2 < rk e.1):=⟨hcn,hrk⟩
 have hcg : ¬ (200 : Int) < (c0 : Int):=by omega
 have hK2 : K <= 200:=(hk.sub hd.hT.sin).2.2
 obtain ⟨cx,hcx⟩ : ∃ c,c = checkD (detX t N K):=⟨_,rfl⟩
 have HCX : Hid (cx = checkD (detX t N K)):=hcx
 have hcb : (cx != 0) = true:=by rw [hcx]; simpa using hx
 obtain ⟨fa,fn,fc,rfl,_,_⟩:=hf.lenOf
 obtain ⟨aa,an,ac,rfl,_,_⟩:=ha.lenOf
 obtain ⟨A1,hA1⟩ : ∃ W,W = w.alloc (.cells #[.int .i64 f.states,.int .i64 f.start,.slice fa fn fc,.slice aa an ac] 25):=⟨_,rfl⟩
 have hX1 : A1.heap[w.heap.size]? = some (.cells #[.int .i64 f.states,.int .i64 f.start,.slice fa fn fc,.slice aa an ac] 25 (0,0)):=by rw [hA1]; exact heap_alloc_new w _
 have hB1 : Below w.heap.size w A1:=by rw [hA1]; exact bel_up (bel_self w) _
 have s1 : A1.heap.size = w.heap.size + 1:=by rw [hA1]; exact one_size _ _
 obtain ⟨A2,hA2⟩ : ∃ W,W = A1.alloc (.cells #[.int .i64 0,.int .i64 0,.slice none 0 0,.slice none 0 0] 25):=⟨_,rfl⟩
 have hz2 : ZBlock A2 (w.heap.size + 1):=by unfold ZBlock; rw [hA2,<- s1]; exact heap_alloc_new A1 _
 have hB12 : Below A1.heap.size A1 A2:=by rw [hA2]; exact bel_up (bel_self _) _
 have hX2:=heap_bel hB12 hX1
 have hB2:=bel_on hB1 hB12
 have q2 : CellsF A2 w.heap.size f.states f.start (.slice fa fn fc) (.slice aa an ac):=(by rw [hA1]; exact cellsF_new _ _ _ _ _ _ : CellsF A1 w.heap.size f.states f.start (.slice fa fn fc) (.slice aa an ac)).below hB12
 have HW : Hid (A2 = (w.alloc (.cells #[.int .i64 f.states,.int .i64 f.start,.slice fa fn fc,.slice aa an ac] 25)).alloc (.cells #[.int .i64 0,.int .i64 0,.slice none 0 0,.slice none 0 0] 25)):=by rw [<- hA1]; exact hA2
 have h91:=hd.reads (hf.below hB2) (ha.below hB2)
 rw [HW.out] at h91
 have HIN : Hid (∀ W : World,Below w.heap.size w W -> ISlice W (.slice fa fn fc) f.final /\ ASlice W (.slice aa an ac) f.arcs):=fun W h => ⟨hf.below h,ha.below h⟩
 have hsz2 : A2.heap.size = w.heap.size + 2:=by rw [hA2,one_size,s1]
 clear hA1 hA2 hX1 hB1 s1 hB12 hf ha
 go_enter Try.func7,Try.ntmps7
 clear hd hk hm hcn hrk hgt hc0 hcx hx
 go_wp2_with (first | (go_at_call 26; refine h91.mono ?_; rintro e w1 ⟨rfl,hb1⟩; rw [<- HW.out] at hb1; clear h91; obtain ⟨p0,p1,p2,p3⟩:=q2.below hb1; have h92:=HD.out.round (HIN.out w1 (bel_on hB2 hb1)).1 (HIN.out w1 (bel_on hB2 hb1)).2) | (go_at_call 27; refine h92.mono ?_; rintro e w2 ⟨rfl,hb2⟩; clear h92 p0 p1 p2 p3; have hb02:=bel_on (bel_on hB2 hb1) hb2; have hb22:=bel_on hb1 hb2; obtain ⟨p0,p1,p2,p3⟩:=q2.below hb22; have h125:=HD.out.trim (HIN.out w2 hb02).1 (HIN.out w2 hb02).2) | (go_at_call 28; refine h125.mono ?_; rintro e w3 ⟨fa3,fn3,fc3,aa3,an3,ac3,rfl,hF3,hb3⟩; clear h125 p0 p1 p2 p3; have hb03:=bel_on hb02 hb3; have hs22:=hb22.size; have hb23:=bel_on hb22 hb3; obtain ⟨p0,p1,p2,p3⟩:=q2.below hb23; have hX3:=heap_bel hb23 hX2; have f0:=Go.Joins.unfrozen_of_block hX3 0; have f1:=Go.Joins.unfrozen_of_block hX3 1; have f2:=Go.Joins.unfrozen_of_block hX3 2; have f3:=Go.Joins.unfrozen_of_block hX3 3; have hz3:=zb_set4 (heap_bel hb23 hz2) (Nat.succ_ne_self _) (.int .i64 (N : Int)) (.int .i64 (s0 : Int)) (.slice fa3 fn3 fc3) (.slice aa3 an3 ac3); have hb33:=bel_set4 hb03 (Nat.le_refl _) (.int .i64 (N : Int)) (.int .i64 (s0 : Int)) (.slice fa3 fn3 fc3) (.slice aa3 an3 ac3); obtain ⟨r0,r1,r2,r3⟩:=set4_cells p0 p1 p2 p3 (N : Int) (s0 : Int) (.slice fa3 fn3 fc3) (.slice aa3 an3 ac3); have hF4:=hF3 ((((w3.setCell ⟨w.heap.size,0,none⟩ (.int .i64 (N : Int))).setCell ⟨w.heap.size,1,none⟩ (.int .i64 (s0 : Int))).setCell ⟨w.heap.size,2,none⟩ (.slice fa3 fn3 fc3)).setCell ⟨w.heap.size,3,none⟩ (.slice aa3 an3 ac3)) (fun b hb _ => far4H (by omega) (.int .i64 (N : Int)) (.int .i64 (s0 : Int)) (.slice fa3 fn3 fc3) (.slice aa3 an3 ac3)); have h126:=HD.out.done HK.out HM.out hF4.1 hF4.2; clear hX3 hF3 hF4) | (go_at_call 29; refine h126.mono ?_; rintro e w4 ⟨fa4,fc4,aa4,ac4,rfl,hI4,hA4,hb4⟩; clear h126 p0 p1 p2 p3 f0 f1 f2 f3 r0 r1 r2 r3; have hz4:=heap_bel hb4 hz3; have hb04:=bel_on hb33 hb4; have hbA:=bel_up (bel_self w4) (.cells #[.int .i64 (K : Int),.int .i64 0,.slice fa4 K fc4,.slice aa4 m ac4] 25); have hc4:=cellsF_new w4 (K : Int) 0 (.slice fa4 K fc4) (.slice aa4 m ac4) 25; have hG4:=heap_alloc_new w4 (.cells #[.int .i64 (K : Int),.int .i64 0,.slice fa4 K fc4,.slice aa4 m ac4] 25); have r0:=hc4.1; have r1:=hc4.2.1; have r2:=hc4.2.2.1; have r3:=hc4.2.2.2; have h128:=HD.out.begs HK.out HM.out HCN.out.1 HCN.out.2 fa4 K fc4 aa4 ac4 (w4.alloc (.cells #[.int .i64 (K : Int),.int .i64 0,.slice fa4 K fc4,.slice aa4 m ac4] 25)) (hA4.below hbA); rw [<- HC0.out] at h128) | (go_at_call 31; refine h128.mono ?_; rintro e w5 ⟨rfl,hb5⟩; clear h128 r0 r1 r2 r3; have hb45:=bel_on hbA hb5; have hc5:=hc4.below hb5; obtain ⟨r0,r1,r2,r3⟩:=hc5; have hG5:=heap_bel hb5 hG4; have h129:=HD.out.early HK.out HM.out _ aa4 ac4 w5 (hI4.below hb45) (hA4.below hb45)) | (go_at_call 32; refine h129.mono ?_; rintro e w6 ⟨g6,c6,ba6,bc6,rfl,hN6,hg6,hA6,hb6⟩; clear h129 r0 r1 r2 r3; have hG6:=heap_bel hb6 hG5; have f0:=Go.Joins.unfrozen_of_block hG6 0; have f1:=Go.Joins.unfrozen_of_block hG6 1; have f2:=Go.Joins.unfrozen_of_block hG6 2; have f3:=Go.Joins.unfrozen_of_block hG6 3; obtain ⟨p0,p1,p2,p3⟩:=(hc4.below hb5).below hb6; obtain ⟨r0,r1,r2,r3⟩:=set4_cells p0 p1 p2 p3 (K : Int) 0 (.slice (some ⟨g6,0,none⟩) K c6) (.slice ba6 m bc6); have hlt5:=heap_lt hG5; have hgn : g6 ≠ w4.heap.size:=(by omega); have hN6t:=(((hN6.other (v:=.int .i64 (K : Int)) (i:=0) hgn).other (v:=.int .i64 0) (i:=1) hgn).other (v:=.slice (some ⟨g6,0,none⟩) K c6) (i:=2) hgn).other (v:=.slice ba6 m bc6) (i:=3) hgn; have hA6t:=(((hA6.set (v:=.int .i64 (K : Int)) (i:=0) hlt5).set (v:=.int .i64 0) (i:=1) hlt5).set (v:=.slice (some ⟨g6,0,none⟩) K c6) (i:=2) hlt5).set (v:=.slice ba6 m bc6) (i:=3) hlt5; have h101:=HD.out.check HK.out (hN6t.slice c6 (by unfold maxLen; omega)) (hA6t.slice bc6); rw [<- HCX.out] at h101; have hb46:=bel_on hb45 hb6; have hb66:=bel_set4 hb46 (Nat.le_refl _) (.int .i64 (K : Int)) (.int .i64 0) (.slice (some ⟨g6,0,none⟩) K c6) (.slice ba6 m bc6)) | (go_at_call 33; refine h101.mono ?_; rintro e w7 ⟨rfl,hb7⟩; clear h101 p0 p1 p2 p3 f0 f1 f2 f3; have hc7:=(set4_cells ((hc4.below hb5).below hb6).1 ((hc4.below hb5).below hb6).2.1 ((hc4.below hb5).below hb6).2.2.1 ((hc4.below hb5).below hb6).2.2.2 (K : Int) 0 (.slice (some ⟨g6,0,none⟩) K c6) (.slice ba6 m bc6)).below hb7; clear r0 r1 r2 r3; obtain ⟨r0,r1,r2,r3⟩:=hc7; have hb47:=bel_on hb66 hb7; have hz7:=heap_bel hb47 hz4; obtain ⟨z0,z1,z2,z3,y0,y1,y2,y3⟩:=zfacts hz7; obtain ⟨t0,t1,t2,t3⟩:=set4_cells z0 z1 z2 z3 0 0 (.slice none 0 0) (.slice none 0 0)))
 have hzl:=heap_lt hz4
 have hszA:=hbA.size
 exact bodyPost_ret (v:=.tuple #[.agg #[.int .i64 0,.int .i64 0,.slice none 0 0,.slice none 0 0],.int .i64 2]) (by simp [results,Try.results7,go_sem, *]) rfl ⟨rfl,bel_set4 (bel_on hb04 hb47) (by omega) _ _ _ _⟩
set_option maxHeartbeats 3200000 in
theorem det_good (f t : FstD) (N s0 K m : Nat) (cnt rk : Nat -> Nat) (fin arcs : Value) (w : World) (hf : ISlice w fin f.final) (ha : ASlice w arcs f.arcs) (hd : DIn f t N s0) (hk : DoneK t N K) (hm : (subG t N K).arcs.length = m) (hcn : CntOk (edgesE (subG t N K).arcs) cnt) (hrk : ∀ e ∈ edgesE (subG t N K).arcs,rk e.2 < rk e.1) (hgt : cnt 0 <= 200) (hx : checkD (detX t N K) = 0) :
  Calls Try.prog 7 #[.agg #[.int .i64 f.states,.int .i64 f.start,fin,arcs]] w fun e w' => HasFst w K m (detX t N K) e w':=by
 have HD : Hid (DIn f t N s0):=hd
 obtain ⟨c0,hc0⟩ : ∃ c,c = cnt 0:=⟨_,rfl⟩
 have HC0 : Hid (c0 = cnt 0):=hc0
 have HK : Hid (DoneK t N K):=hk
 have HM : Hid ((subG t N K).arcs.length = m):=hm
 have HCN : Hid (CntOk (edgesE (subG t N K).arcs) cnt /\ ∀ e ∈ edgesE (subG t N K).arcs,rk e.2 < rk e.1):=⟨hcn,hrk⟩
 have hcg : ¬ (200 : Int) < (c0 : Int):=by omega
 have hK2 : K <= 200:=(hk.sub hd.hT.sin).2.2
 obtain ⟨cx,hcx⟩ : ∃ c,c = checkD (detX t N K):=⟨_,rfl⟩
 have HCX : Hid (cx = checkD (detX t N K)):=hcx
 obtain rfl : cx = 0:=by rw [hcx]; exact hx
 obtain ⟨fa,fn,fc,rfl,_,_⟩:=hf.lenOf
 obtain ⟨aa,an,ac,rfl,_,_⟩:=ha.lenOf
 obtain ⟨A1,hA1⟩ : ∃ W,W = w.alloc (.cells #[.int .i64 f.states,.int .i64 f.start,.slice fa fn fc,.slice aa an ac] 25):=⟨_,rfl⟩
 have hX1 : A1.heap[w.heap.size]? = some (.cells #[.int .i64 f.states,.int .i64 f.start,.slice fa fn fc,.slice aa an ac] 25 (0,0)):=by rw [hA1]; exact heap_alloc_new w _
 have hB1 : Below w.heap.size w A1:=by rw [hA1]; exact bel_up (bel_self w) _
 have s1 : A1.heap.size = w.heap.size + 1:=by rw [hA1]; exact one_size _ _
 obtain ⟨A2,hA2⟩ : ∃ W,W = A1.alloc (.cells #[.int .i64 0,.int .i64 0,.slice none 0 0,.slice none 0 0] 25):=⟨_,rfl⟩
 have hz2 : ZBlock A2 (w.heap.size + 1):=by unfold ZBlock; rw [hA2,<- s1]; exact heap_alloc_new A1 _
 have hB12 : Below A1.heap.size A1 A2:=by rw [hA2]; exact bel_up (bel_self _) _
 have hX2:=heap_bel hB12 hX1
 have hB2:=bel_on hB1 hB12
 have q2 : CellsF A2 w.heap.size f.states f.start (.slice fa fn fc) (.slice aa an ac):=(by rw [hA1]; exact cellsF_new _ _ _ _ _ _ : CellsF A1 w.heap.size f.states f.start (.slice fa fn fc) (.slice aa an ac)).below hB12
 have HW : Hid (A2 = (w.alloc (.cells #[.int .i64 f.states,.int .i64 f.start,.slice fa fn fc,.slice aa an ac] 25)).alloc (.cells #[.int .i64 0,.int .i64 0,.slice none 0 0,.slice none 0 0] 25)):=by rw [<- hA1]; exact hA2
 have h91:=hd.reads (hf.below hB2) (ha.below hB2)
 rw [HW.out] at h91
 have HIN : Hid (∀ W : World,Below w.heap.size w W -> ISlice W (.slice fa fn fc) f.final /\ ASlice W (.slice aa an ac) f.arcs):=fun W h => ⟨hf.below h,ha.below h⟩
 have hsz2 : A2.heap.size = w.heap.size + 2:=by rw [hA2,one_size,s1]
 clear hA1 hA2 hX1 hB1 s1 hB12 hf ha
 go_enter Try.func7,Try.ntmps7
 clear hd hk hm hcn hrk hgt hc0 hcx hx
 go_wp2_with (first | (go_at_call 26; refine h91.mono ?_; rintro e w1 ⟨rfl,hb1⟩; rw [<- HW.out] at hb1; clear h91; obtain ⟨p0,p1,p2,p3⟩:=q2.below hb1; have h92:=HD.out.round (HIN.out w1 (bel_on hB2 hb1)).1 (HIN.out w1 (bel_on hB2 hb1)).2) | (go_at_call 27; refine h92.mono ?_; rintro e w2 ⟨rfl,hb2⟩; clear h92 p0 p1 p2 p3; have hb02:=bel_on (bel_on hB2 hb1) hb2; have hb22:=bel_on hb1 hb2; obtain ⟨p0,p1,p2,p3⟩:=q2.below hb22; have h125:=HD.out.trim (HIN.out w2 hb02).1 (HIN.out w2 hb02).2) | (go_at_call 28; refine h125.mono ?_; rintro e w3 ⟨fa3,fn3,fc3,aa3,an3,ac3,rfl,hF3,hb3⟩; clear h125 p0 p1 p2 p3; have hb03:=bel_on hb02 hb3; have hs22:=hb22.size; have hb23:=bel_on hb22 hb3; obtain ⟨p0,p1,p2,p3⟩:=q2.below hb23; have hX3:=heap_bel hb23 hX2; have f0:=Go.Joins.unfrozen_of_block hX3 0; have f1:=Go.Joins.unfrozen_of_block hX3 1; have f2:=Go.Joins.unfrozen_of_block hX3 2; have f3:=Go.Joins.unfrozen_of_block hX3 3; have hz3:=zb_set4 (heap_bel hb23 hz2) (Nat.succ_ne_self _) (.int .i64 (N : Int)) (.int .i64 (s0 : Int)) (.slice fa3 fn3 fc3) (.slice aa3 an3 ac3); have hb33:=bel_set4 hb03 (Nat.le_refl _) (.int .i64 (N : Int)) (.int .i64 (s0 : Int)) (.slice fa3 fn3 fc3) (.slice aa3 an3 ac3); obtain ⟨r0,r1,r2,r3⟩:=set4_cells p0 p1 p2 p3 (N : Int) (s0 : Int) (.slice fa3 fn3 fc3) (.slice aa3 an3 ac3); have hF4:=hF3 ((((w3.setCell ⟨w.heap.size,0,none⟩ (.int .i64 (N : Int))).setCell ⟨w.heap.size,1,none⟩ (.int .i64 (s0 : Int))).setCell ⟨w.heap.size,2,none⟩ (.slice fa3 fn3 fc3)).setCell ⟨w.heap.size,3,none⟩ (.slice aa3 an3 ac3)) (fun b hb _ => far4H (by omega) (.int .i64 (N : Int)) (.int .i64 (s0 : Int)) (.slice fa3 fn3 fc3) (.slice aa3 an3 ac3)); have h126:=HD.out.done HK.out HM.out hF4.1 hF4.2; clear hX3 hF3 hF4) | (go_at_call 29; refine h126.mono ?_; rintro e w4 ⟨fa4,fc4,aa4,ac4,rfl,hI4,hA4,hb4⟩; clear h126 p0 p1 p2 p3 f0 f1 f2 f3 r0 r1 r2 r3; have hz4:=heap_bel hb4 hz3; have hb04:=bel_on hb33 hb4; have hbA:=bel_up (bel_self w4) (.cells #[.int .i64 (K : Int),.int .i64 0,.slice fa4 K fc4,.slice aa4 m ac4] 25); have hc4:=cellsF_new w4 (K : Int) 0 (.slice fa4 K fc4) (.slice aa4 m ac4) 25; have hG4:=heap_alloc_new w4 (.cells #[.int .i64 (K : Int),.int .i64 0,.slice fa4 K fc4,.slice aa4 m ac4] 25); have r0:=hc4.1; have r1:=hc4.2.1; have r2:=hc4.2.2.1; have r3:=hc4.2.2.2; have h128:=HD.out.begs HK.out HM.out HCN.out.1 HCN.out.2 fa4 K fc4 aa4 ac4 (w4.alloc (.cells #[.int .i64 (K : Int),.int .i64 0,.slice fa4 K fc4,.slice aa4 m ac4] 25)) (hA4.below hbA); rw [<- HC0.out] at h128) | (go_at_call 31; refine h128.mono ?_; rintro e w5 ⟨rfl,hb5⟩; clear h128 r0 r1 r2 r3; have hb45:=bel_on hbA hb5; have hc5:=hc4.below hb5; obtain ⟨r0,r1,r2,r3⟩:=hc5; have hG5:=heap_bel hb5 hG4; have h129:=HD.out.early HK.out HM.out _ aa4 ac4 w5 (hI4.below hb45) (hA4.below hb45)) | (go_at_call 32; refine h129.mono ?_; rintro e w6 ⟨g6,c6,ba6,bc6,rfl,hN6,hg6,hA6,hb6⟩; clear h129 r0 r1 r2 r3; have hG6:=heap_bel hb6 hG5; have f0:=Go.Joins.unfrozen_of_block hG6 0; have f1:=Go.Joins.unfrozen_of_block hG6 1; have f2:=Go.Joins.unfrozen_of_block hG6 2; have f3:=Go.Joins.unfrozen_of_block hG6 3; obtain ⟨p0,p1,p2,p3⟩:=(hc4.below hb5).below hb6; obtain ⟨r0,r1,r2,r3⟩:=set4_cells p0 p1 p2 p3 (K : Int) 0 (.slice (some ⟨g6,0,none⟩) K c6) (.slice ba6 m bc6); have hlt5:=heap_lt hG5; have hgn : g6 ≠ w4.heap.size:=(by omega); have hN6t:=(((hN6.other (v:=.int .i64 (K : Int)) (i:=0) hgn).other (v:=.int .i64 0) (i:=1) hgn).other (v:=.slice (some ⟨g6,0,none⟩) K c6) (i:=2) hgn).other (v:=.slice ba6 m bc6) (i:=3) hgn; have hA6t:=(((hA6.set (v:=.int .i64 (K : Int)) (i:=0) hlt5).set (v:=.int .i64 0) (i:=1) hlt5).set (v:=.slice (some ⟨g6,0,none⟩) K c6) (i:=2) hlt5).set (v:=.slice ba6 m bc6) (i:=3) hlt5; have h101:=HD.out.check HK.out (hN6t.slice c6 (by unfold maxLen; omega)) (hA6t.slice bc6); rw [<- HCX.out] at h101; have hb46:=bel_on hb45 hb6; have hb66:=bel_set4 hb46 (Nat.le_refl _) (.int .i64 (K : Int)) (.int .i64 0) (.slice (some ⟨g6,0,none⟩) K c6) (.slice ba6 m bc6)) | (go_at_call 33; refine h101.mono ?_; rintro e w7 ⟨rfl,hb7⟩; clear h101 p0 p1 p2 p3 f0 f1 f2 f3; have hc7:=(set4_cells ((hc4.below hb5).below hb6).1 ((hc4.below hb5).below hb6).2.1 ((hc4.below hb5).below hb6).2.2.1 ((hc4.below hb5).below hb6).2.2.2 (K : Int) 0 (.slice (some ⟨g6,0,none⟩) K c6) (.slice ba6 m bc6)).below hb7; clear r0 r1 r2 r3; obtain ⟨r0,r1,r2,r3⟩:=hc7; have hb47:=bel_on hb66 hb7; have hz7:=heap_bel hb47 hz4; obtain ⟨z0,z1,z2,z3,y0,y1,y2,y3⟩:=zfacts hz7; obtain ⟨t0,t1,t2,t3⟩:=set4_cells z0 z1 z2 z3 (K : Int) 0 (.slice (some ⟨g6,0,none⟩) K c6) (.slice ba6 m bc6)))
 have hzl:=heap_lt hz4
 have hszA:=hbA.size
 have hsz5:=hb5.size
 have hsz04:=hb04.size
 rw [one_size] at hsz5
 have hne : g6 ≠ w.heap.size + 1:=by omega
 have hR : w.heap.size + 1 < w5.heap.size:=by omega
 have hN7:=hN6t.below hb7
 have hA7:=hA6t.below hb7
 have hN8:=(((hN7.other (v:=.int .i64 (K : Int)) (i:=0) hne).other (v:=.int .i64 0) (i:=1) hne).other (v:=.slice (some ⟨g6,0,none⟩) K c6) (i:=2) hne).other (v:=.slice ba6 m bc6) (i:=3) hne
 have hA8:=(((hA7.set (v:=.int .i64 (K : Int)) (i:=0) hR).set (v:=.int .i64 0) (i:=1) hR).set (v:=.slice (some ⟨g6,0,none⟩) K c6) (i:=2) hR).set (v:=.slice ba6 m bc6) (i:=3) hR
 exact bodyPost_ret (v:=.tuple #[.agg #[.int .i64 (K : Int),.int .i64 0,.slice (some ⟨g6,0,none⟩) K c6,.slice ba6 m bc6],.int .i64 0]) (by simp [results,Try.results7,go_sem, *]) rfl ⟨g6,c6,ba6,bc6,rfl,hN8,by omega,hA8.mono (by omega),bel_set4 (bel_on hb04 hb47) (by omega) _ _ _ _⟩
end Go.Proofs.Yteehgcbjmdideab
/- 'Joined' of the program: its classes and kinds tell what it answers. -/
namespace Go.Proofs.Yteehgcbjmdideab
open Go.RowKit
attribute [local go_sem ↓] Go.wp_at_zero Go.wp_at_succ
def JoP (x : FstD) (K : Nat) (B : Nat) (k : Int) (c d : Value) (W : World) : Prop :=
 ∃ (cl : List Int) (n m : Nat) (C : List Int -> Nat) (κ : Nat -> List Int),ClsIn x K cl n /\ TabOf x K cl C κ /\ RunN κ (C []) m /\ k = (m : Int) /\ ISlice W c (numN κ (C []) m).2.1 /\ ASlice W d (numN κ (C []) m).2.2 /\ (∀ b,c.ownBlock = some b -> B <= b) /\ (∀ b,d.ownBlock = some b -> B <= b)
theorem JoP.far {x : FstD} {K B : Nat} {k : Int} {c d : Value} {W W' : World} (h : JoP x K B k c d W) (hW : ∀ b,B <= b -> b < W.heap.size -> W'.heap[b]? = W.heap[b]?) : JoP x K B k c d W':=by
 obtain ⟨cl,n,m,C,κ,h1,h2,h3,h4,h5,h6,h7,h8⟩:=h
 exact ⟨cl,n,m,C,κ,h1,h2,h3,h4,fresh_ints h5 h7 hW,fresh_arcs h6 h8 hW,h7,h8⟩
def JoRes (x : FstD) (K : Nat) (w : World) (e : Ending) (w' : World) : Prop :=
 ∃ (k : Int) (ga : Option Addr) (gn gc : Nat) (ba : Option Addr) (bn bc : Nat),e = .returned (.agg #[.int .i64 k,.int .i64 0,.slice ga gn gc,.slice ba bn bc]) /\ JoP x K (w.heap.size + 2) k (.slice ga gn gc) (.slice ba bn bc) w' /\ Below w.heap.size w w'
theorem joined_x (x : FstD) (K : Nat) (fin arcs : Value) (w : World) (hx : XIn x K) (hj : JIn x K 0) (hf : ISlice w fin x.final) (ha : ASlice w arcs x.arcs) :
  Calls Try.prog 80 #[.agg #[.int .i64 (K : Int),.int .i64 0,fin,arcs]] w fun e w' => JoRes x K w e w':=by
 refine joined_any x K 0 fin arcs w hj hf ha (JoP x K (w.heap.size + 2)) (fun k c d W h => h.far fun b hb _ => far4H (by omega) _ _ _ _) ?_
 intro W cl n gk hb hc hn hfi hsa hcl hki
 have hci : ClsIn x K cl n:=⟨hc,hfi,hsa⟩
 obtain ⟨C,κ,hT⟩:=tab_exists hx hci
 have hc0 : (gI cl 0).toNat = C []:=by
  have:=hT.c [] 0 0 ⟨rfl,rfl⟩
  omega
 refine (numbered_any x K 0 n _ gk cl κ W hj hc hn hT.κ hcl hki).mono ?_
 rintro e w' ⟨m,ga,gn,gc,ba,bn,bc,h1,rfl,h2,h3,h4,h5,h6⟩
 rw [hc0] at h1 h2 h3
 have hlt:=hcl.lt
 exact ⟨_,ga,gn,gc,ba,bn,bc,rfl,⟨cl,n,m,C,κ,hci,hT,h1,rfl,h2,h3,fun b e => by have:=h4 b e; omega,fun b e => by have:=h5 b e; omega⟩,h6⟩
theorem XIn.jin {x : FstD} {K : Nat} (hx : XIn x K) (hf : Fine x) : JIn x K 0:=by
 have h1:=hx.gin.st
 have h2:=hf.s2
 refine ⟨hx.k0,by omega,hx.k0,hx.sta,hf.many,hx.gin.flen,fun y hy => ?_,fun a ha => ?_,fun a ha => ?_⟩
 ·have:=hf.fin y hy
  omega
 ·have hb:=hx.gin.arcs a ha
  have hl:=hx.lets a ha
  exact ⟨a.src.toNat,a.dst.toNat,(a.inp - 1).toNat,by omega,by omega,by omega,by omega,by omega,by omega⟩
 ·have:=(hf.arcs a ha).wt
  simp [inB] at this
  exact this
end Go.Proofs.Yteehgcbjmdideab
/- 'leastOf' of the program: it is trimmed and told early already,and is joined. (Made by wip/gen/kjb.py.) -/
namespace Go.Proofs.Yteehgcbjmdideab
open Go.RowKit
attribute [local go_sem ↓] Go.wp_at_zero Go.wp_at_succ
theorem JoP.mono {x : FstD} {K B B' : Nat} {k : Int} {c d : Value} {W : World} (h : JoP x K B k c d W) (hB : B' <= B) : JoP x K B' k c d W:=by
 obtain ⟨cl,n,m,C,κ,h1,h2,h3,h4,h5,h6,h7,h8⟩:=h
 exact ⟨cl,n,m,C,κ,h1,h2,h3,h4,h5,h6,fun b e => by have:=h7 b e; omega,fun b e => by have:=h8 b e; omega⟩
section
variable {x : FstD} {K : Nat}
theorem trim_x (hx : XIn x K) (hf : Fine x) {fin arcs : Value} {W : World} (hI : ISlice W fin x.final) (hA : ASlice W arcs x.arcs) : Calls Try.prog 28 #[.agg #[.int .i64 (K : Int),.int .i64 0,fin,arcs]] W fun e w' => ∃ fa fn fc aa an ac,e = .returned (.tuple #[.agg #[.int .i64 (K : Int),.int .i64 0,.slice fa fn fc,.slice aa an ac],.int .i64 0]) /\ Sc.FreshT W.heap.size w' (.slice fa fn fc) (.slice aa an ac) x /\ Below W.heap.size W w':=by
 have h:=Sc.trim_fresh x fin arcs W hI hA
 rw [hx.gin.st,hx.sta] at h
 refine h.mono ?_
 rintro e w' ⟨h1 | h1,hb⟩
 ·exact absurd hf.check h1.1
 ·obtain ⟨_,t',fv,av,rfl,ht,hF⟩:=h1
  obtain rfl:=ht.unique hx.trim
  obtain ⟨fa,fn,fc,rfl,_,_⟩:=(hF w' fun _ _ _ => rfl).1.lenOf
  obtain ⟨aa,an,ac,rfl,_,_⟩:=(hF w' fun _ _ _ => rfl).2.lenOf
  rw [hx.gin.st,hx.sta]
  exact ⟨fa,fn,fc,aa,an,ac,rfl,hF,hb⟩
theorem early_x (hx : XIn x K) (hf : Fine x) (fin : Value) (aa : Option Addr) (m ac : Nat) (W : World) (hm : x.arcs.length = m) (hI : ISlice W fin x.final) (hA : ASlice W (.slice aa m ac) x.arcs) : Calls Try.prog 32 #[.agg #[.int .i64 (K : Int),.int .i64 0,fin,.slice aa m ac]] W fun e w' => MovOk W K 0 m x e w':=by
 have h1:=hx.gin.st
 have h2:=hf.s2
 have hk0:=hx.k0
 have hwt : ∀ a ∈ x.arcs,0 <= a.wt /\ a.wt <= 1000000000:=fun a ha => by
  have:=(hf.arcs a ha).wt
  simp [inB] at this
  exact this
 have hok : Bg.OkF x K 0:=⟨h1,hx.sta,by omega,by omega,by omega,hx.gin.flen,fun y hy => by rcases hf.fin y hy with e | e; exact Or.inl e; right; omega,hf.many,fun a ha => by have:=hx.gin.arcs a ha; have:=hwt a ha; omega⟩
 have hfi : ∀ y ∈ x.final,y = -1 \/ (0 <= y /\ y <= 4000000000000):=fun y hy => by rcases hf.fin y hy with e | e; exact Or.inl e; right; omega
 have hlen : ∀ g : FstD,g.final.length = K -> (toD g).length = K:=fun g hg => by unfold toD; rw [rounds_len,hg]
 by_cases h0 : gI (toD x) 0 = -1
 ·have:=Bg.early_none x K 0 fin aa m ac W hok hI hA hm h0 hfi
  rw [mov_zero hx.gin] at this
  exact this
 ·have hp : 0 <= gI (toD x) 0:=by
   rcases hx.gin.to 0 with ⟨e,_⟩ | ⟨e,_⟩
   ·exact absurd e h0
   ·exact e
  have hdst : ∀ a ∈ x.arcs,gI (toD x) a.dst.toNat = 0:=fun a ha => by
   have hb:=hx.gin.arcs a ha
   have hn:=hx.no_back ha
   exact hx.early a.dst.toNat (by omega) (by omega)
  have htop : gI (toD x) 0 <= 1000000000:=by
   rcases hx.gin.to 0 with ⟨e,_⟩ | ⟨_,⟨v,k,z,hr,h2,h3⟩,_⟩
   ·omega
   ·rcases List.eq_nil_or_concat v with rfl | ⟨v',c,rfl⟩
    ·obtain ⟨rfl,rfl⟩:=hr
     rcases gI_or (l:=x.final) (s:=0) with e | e
     ·omega
     ·have:=hf.fin _ e; omega
    ·rw [List.concat_eq_append] at hr
     obtain ⟨a,ha,m',hs,_,hd,_⟩:=(wdr_first v' 0 z).1 hr
     have h4:=hdst a ha
     have h5:=hx.gin.to_arc ha (by omega)
     have h6:=hwt a ha
     have e0 : a.src.toNat = 0:=by omega
     rw [e0] at h5
     omega
  have hah : ∀ s,gI (toD x) s <= 4000000000000:=fun s => by
   by_cases e : s = 0
   ·subst e; omega
   ·by_cases e2 : s < K
    ·rw [hx.early s (by omega) e2]; omega
    ·rw [gI_out (by rw [hlen x hx.gin.flen]; omega)]; omega
  have hbk : ∀ s,gI (toD (backF x)) s <= 4000000000000:=fun s => by
   obtain ⟨h2,h3⟩:=hx.back hp
   by_cases e2 : s < K
   ·rw [h3 s e2]; split <;> omega
   ·rw [gI_out (by rw [hlen (backF x) h2.flen]; omega)]; omega
  have:=Bg.early_some x K 0 fin aa m ac W hok hI hA hm h0 (fun a ha => by
   have hw:=hwt a ha
   have hd:=hdst a ha
   have hto:=hx.gin.to_arc ha (by omega)
   have hup:=hah a.src.toNat
   have hlo : 0 <= gI (toD x) a.src.toNat:=hto.1
   show 0 <= a.wt + (gI (toD x) a.dst.toNat - gI (toD x) a.src.toNat) /\ a.wt + (gI (toD x) a.dst.toNat - gI (toD x) a.src.toNat) <= 10000000000000
   omega) hah hbk hfi
  rw [hx.again hp] at this
  exact this
end
def LeRes (x : FstD) (K : Nat) (w : World) (e : Ending) (w' : World) : Prop :=
 ∃ (k : Int) (ga : Option Addr) (gn gc : Nat) (ba : Option Addr) (bn bc : Nat),e = .returned (.agg #[.int .i64 k,.int .i64 0,.slice ga gn gc,.slice ba bn bc]) /\ JoP x K (w.heap.size + 2) k (.slice ga gn gc) (.slice ba bn bc) w' /\ Below w.heap.size w w'
set_option maxHeartbeats 3200000 in
theorem leastOf_x (x : FstD) (K : Nat) (fin arcs : Value) (w : World) (hx : XIn x K) (hf : Fine x) (hI : ISlice w fin x.final) (hA : ASlice w arcs x.arcs) :
  Calls Try.prog 46 #[.agg #[.int .i64 (K : Int),.int .i64 0,fin,arcs]] w fun e w' => LeRes x K w e w':=by
 obtain ⟨fa,fn,fc,rfl,_,_⟩:=hI.lenOf
 obtain ⟨aa,am,ac,rfl,_,_⟩:=hA.lenOf
 obtain ⟨A1,hA1⟩ : ∃ W,W = w.alloc (.cells #[.int .i64 (K : Int),.int .i64 0,.slice fa fn fc,.slice aa am ac] 25):=⟨_,rfl⟩
 obtain ⟨A2,hA2⟩ : ∃ W,W = A1.alloc (.cells #[.int .i64 0,.int .i64 0,.slice none 0 0,.slice none 0 0] 25):=⟨_,rfl⟩
 have z1 : A1.heap.size = w.heap.size + 1:=by rw [hA1]; exact one_size _ _
 have z2 : A2.heap.size = w.heap.size + 2:=by rw [hA2,one_size,z1]
 have k1 : Below w.heap.size w A1:=by rw [hA1]; exact bel_up (bel_self _) _
 have k2 : Below A1.heap.size A1 A2:=by rw [hA2]; exact bel_up (bel_self _) _
 have hk:=bel_on k1 k2
 have hz : ZBlock A2 (w.heap.size + 1):=by unfold ZBlock; rw [hA2,<- z1]; exact heap_alloc_new A1 _
 have hX1 : A1.heap[w.heap.size]? = some (.cells #[.int .i64 (K : Int),.int .i64 0,.slice fa fn fc,.slice aa am ac] 25 (0,0)):=by rw [hA1]; exact heap_alloc_new w _
 have hX2:=heap_bel k2 hX1
 have htr:=trim_x hx hf (hI.below hk) (hA.below hk)
 have HX:=hid_of (And.intro hx (And.intro hf (hx.jin hf)))
 rw [hA2,hA1] at htr
 have HA:=hid_of (And.intro hA1 hA2)
 clear hI hA hA1 hA2 hX1 k1 k2 z1 hx hf
 go_enter Try.func46,Try.ntmps46
 go_wp2_with fail
 refine htr.mono ?_
 rintro e w3 ⟨fa3,fn3,fc3,aa3,m,ac3,rfl,hF3,hb3⟩
 rw [<- HA.out.1,<- HA.out.2] at hb3 hF3
 clear htr HA
 have hX3:=heap_bel hb3 hX2
 have f0:=Go.Joins.unfrozen_of_block hX3 0
 have f1:=Go.Joins.unfrozen_of_block hX3 1
 have f2:=Go.Joins.unfrozen_of_block hX3 2
 have f3:=Go.Joins.unfrozen_of_block hX3 3
 have p0 : w3.cell? ⟨w.heap.size,0,none⟩ = some (.int .i64 (K : Int)):=by rw [Go.Joins.cell_of_block hX3]; rfl
 have p1 : w3.cell? ⟨w.heap.size,1,none⟩ = some (.int .i64 0):=by rw [Go.Joins.cell_of_block hX3]; rfl
 have p2 : w3.cell? ⟨w.heap.size,2,none⟩ = some (.slice fa fn fc):=by rw [Go.Joins.cell_of_block hX3]; rfl
 have p3 : w3.cell? ⟨w.heap.size,3,none⟩ = some (.slice aa am ac):=by rw [Go.Joins.cell_of_block hX3]; rfl
 obtain ⟨W4,hW4⟩ : ∃ W,W = (((w3.setCell ⟨w.heap.size,0,none⟩ (.int .i64 (K : Int))).setCell ⟨w.heap.size,1,none⟩ (.int .i64 0)).setCell ⟨w.heap.size,2,none⟩ (.slice fa3 fn3 fc3)).setCell ⟨w.heap.size,3,none⟩ (.slice aa3 m ac3):=⟨_,rfl⟩
 have hz4 : ZBlock W4 (w.heap.size + 1):=by rw [hW4]; exact zb_set4 (heap_bel hb3 hz) (Nat.succ_ne_self _) _ _ _ _
 have hb4 : Below w.heap.size w W4:=by rw [hW4]; exact bel_set4 (bel_on hk hb3) (Nat.le_refl _) _ _ _ _
 have hc4 : CellsF W4 w.heap.size (K : Int) 0 (.slice fa3 fn3 fc3) (.slice aa3 m ac3):=by rw [hW4]; exact set4_cells p0 p1 p2 p3 _ _ _ _
 have hF4:=hF3 W4 (fun b hb _ => by rw [hW4]; exact far4H (by omega) _ _ _ _)
 have hml : x.arcs.length = m:=by obtain ⟨_,_,_,e,h,_⟩:=hF4.2.lenOf; injection e with _ e _; omega
 have hea:=early_x HX.out.1 HX.out.2.1 (.slice fa3 fn3 fc3) aa3 m ac3 W4 hml hF4.1 hF4.2
 obtain ⟨r0,r1,r2,r3⟩:=hc4
 have HW4:=hid_of hW4
 rw [hW4] at hea r0 r1 r2 r3
 have hsz4:=heap_lt hz4
 clear hX2 hX3 hF3 hF4 hb3 hk hz hW4
 go_wp2_with fail
 refine hea.mono ?_
 rintro e w5 ⟨g1,c1,ba,bc,rfl,hN5,hg5,hA5,hb5⟩
 rw [<- HW4.out] at hb5 hg5 hA5
 have hjo:=joined_x x K _ _ w5 HX.out.1 HX.out.2.2 (hN5.slice c1 (by have:=HX.out.2.2.n2; unfold maxLen; omega)) (hA5.slice bc)
 clear hea r0 r1 r2 r3 f0 f1 f2 f3 p0 p1 p2 p3 hN5 hg5 hA5
 go_wp2_with fail
 refine hjo.mono ?_
 rintro e w6 ⟨k,ga,gn,gc,ba6,bn,bc6,rfl,hP,hb6⟩
 obtain ⟨z0,z1,z2,z3,y0,y1,y2,y3⟩:=zfacts (heap_bel (bel_on hb5 hb6) hz4)
 have HP:=hid_of hP
 have HB:=hid_of (bel_on hb4 (bel_on hb5 hb6))
 have h56:=hb5.size
 clear hjo hP hb6 hb4 hz4 HW4
 go_wp2
 exact bodyPost_ret (v:=.agg #[.int .i64 k,.int .i64 0,.slice ga gn gc,.slice ba6 bn bc6]) (by simp [results,Try.results46,go_sem, *]) rfl ⟨k,ga,gn,gc,ba6,bn,bc6,rfl,(HP.out.far fun b hb _ => far4H (by omega) _ _ _ _).mono (by omega),bel_set4 HB.out (by omega) _ _ _ _⟩
end Go.Proofs.Yteehgcbjmdideab
/- 'Determine',and the document's words,told together. -/
namespace Go.Proofs.Yteehgcbjmdideab
open Go.RowKit
theorem din_of {f : FstD} (hc : checkD f = 0) (hb : bothB f = true) (hs : silB f = false) (hr : ¬ RoundD f) : ∃ t N s0,DIn f t N s0:=by
 have hst : ∀ i,(fun i => @decide (Sc.Stays f i) (Classical.propDecidable _)) i = true ↔ Sc.Stays f i:=fun i => by simp
 have ht : Sc.IsTrim f (Sc.trimBy f fun i => @decide (Sc.Stays f i) (Classical.propDecidable _)):=⟨_,hst,rfl⟩
 exact ⟨_,_,_,hc,hb,hs,hr,ht,Sc.trim_in hc ht hb hs hr⟩
end Go.Proofs.Yteehgcbjmdideab
