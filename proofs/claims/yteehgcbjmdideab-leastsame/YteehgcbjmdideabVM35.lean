/- 'Least' of the program. (Made by wip/gen/kjc.py.) -/
import Derived.Test.YteehgcbjmdideabVM34
import Derived.Test.YteehgcbjmdideabVM06
import Derived.Test.YteehgcbjmdideabVM20
import Derived.Test.YteehgcbjmdideabVM25
import Derived.Test.YteehgcbjmdideabVM22
import Derived.Test.YteehgcbjmdideabVM13
import Derived.Test.YteehgcbjmdideabVM02
set_option maxRecDepth 100000
namespace Go.Proofs.Yteehgcbjmdideab
open Go.RowKit
attribute [local go_sem ↓] Go.wp_at_zero Go.wp_at_succ
set_option maxHeartbeats 1600000 in
theorem least_bad (f : FstD) (fin arcs : Value) (w : World) (hf : ISlice w fin f.final) (ha : ASlice w arcs f.arcs) (hc : checkD f ≠ 0) :
  Calls Try.prog 18 #[.agg #[.int .i64 f.states,.int .i64 f.start,fin,arcs]] w fun e w' => NoFst w (checkD f) e w':=by
 obtain ⟨fa,fn,fc,rfl,_,_⟩:=hf.lenOf
 obtain ⟨ba,bn,bc,rfl,_,_⟩:=ha.lenOf
 obtain ⟨c,hcc⟩ : ∃ c,c = checkD f:=⟨_,rfl⟩
 rw [<- hcc] at hc
 rw [<- hcc]
 have h0n : (c != 0) = true:=by simpa using hc
 have hall:=all_at2 f _ _ c w hf ha hcc.symm
 clear hc hcc
 go_enter Try.func18,Try.ntmps18
 go_wp2_with (go_at_call 45; refine hall.mono ?_; rintro e w1 ⟨rfl,hb1,_,hz1,_,_⟩; obtain ⟨z0,z1,z2,z3,y0,y1,y2,y3⟩:=zfacts hz1)
 exact bodyPost_ret (v:=.tuple #[.agg #[.int .i64 0,.int .i64 0,.slice none 0 0,.slice none 0 0],.int .i64 c]) (by simp [results,Try.results18,go_sem, *]) rfl ⟨rfl,bel_set4 hb1 (by omega) _ _ _ _⟩
set_option maxHeartbeats 1600000 in
theorem least_big (f : FstD) (fin arcs : Value) (w : World) (hf : ISlice w fin f.final) (ha : ASlice w arcs f.arcs) (hc : checkD f = 0) (hs : 12 < f.states) :
  Calls Try.prog 18 #[.agg #[.int .i64 f.states,.int .i64 f.start,fin,arcs]] w fun e w' => NoFst w 2 e w':=by
 obtain ⟨fa,fn,fc,rfl,_,_⟩:=hf.lenOf
 obtain ⟨ba,bn,bc,rfl,_,_⟩:=ha.lenOf
 have hall:=all_at2 f _ _ 0 w hf ha hc
 clear hc
 go_enter Try.func18,Try.ntmps18
 go_wp2_with (go_at_call 45; refine hall.mono ?_; rintro e w1 ⟨rfl,hb1,hC1,hz1,_,_⟩; obtain ⟨z0,z1,z2,z3,y0,y1,y2,y3⟩:=zfacts hz1; obtain ⟨q0,q1,q2,q3⟩:=hC1)
 exact bodyPost_ret (v:=.tuple #[.agg #[.int .i64 0,.int .i64 0,.slice none 0 0,.slice none 0 0],.int .i64 2]) (by simp [results,Try.results18,go_sem, *]) rfl ⟨rfl,bel_set4 hb1 (by omega) _ _ _ _⟩
set_option maxHeartbeats 1600000 in
theorem least_err (f : FstD) (c : Int) (fin arcs : Value) (w : World) (hf : ISlice w fin f.final) (ha : ASlice w arcs f.arcs) (hc : checkD f = 0) (hs : ¬ 12 < f.states) (h0 : c ≠ 0)
  (hdet : ∀ W : World,ISlice W fin f.final -> ASlice W arcs f.arcs -> Calls Try.prog 7 #[.agg #[.int .i64 f.states,.int .i64 f.start,fin,arcs]] W fun e w' => NoFst W c e w') :
  Calls Try.prog 18 #[.agg #[.int .i64 f.states,.int .i64 f.start,fin,arcs]] w fun e w' => NoFst w c e w':=by
 obtain ⟨fa,fn,fc,rfl,_,_⟩:=hf.lenOf
 obtain ⟨ba,bn,bc,rfl,_,_⟩:=ha.lenOf
 have hall:=all_at2 f _ _ 0 w hf ha hc
 have HDT:=hid_of hdet
 have h0n : (c != 0) = true:=by simpa using h0
 clear hc hdet h0
 go_enter Try.func18,Try.ntmps18
 go_upto_region 7 with (first | (go_at_call 45; refine hall.mono ?_; rintro e w1 ⟨rfl,hb1,hC1,hz1,hI1,hA1⟩; have hde:=HDT.out w1 hI1 hA1; obtain ⟨q0,q1,q2,q3⟩:=hC1; clear hI1 hA1) | (go_at_call 7; refine hde.mono ?_; rintro e w2 ⟨rfl,hb2⟩; clear hde q0 q1 q2 q3))
 obtain ⟨Wb,hWb⟩ : ∃ W,W = w2.alloc (.cells #[.int .i64 0,.int .i64 0,.slice none 0 0,.slice none 0 0] 25):=⟨_,rfl⟩
 have hbL : Below w2.heap.size w2 Wb:=by rw [hWb]; exact bel_up (bel_self _) _
 rw [<- hWb]
 have HB:=hid_of (bel_on hb1 (bel_on hb2 hbL))
 obtain ⟨z0,z1,z2,z3,y0,y1,y2,y3⟩:=zfacts (heap_bel (bel_on hb2 hbL) hz1)
 have hzl:=heap_lt (heap_bel hb2 hz1)
 clear hWb hbL hz1
 go_wp2
 exact bodyPost_ret (v:=.tuple #[.agg #[.int .i64 0,.int .i64 0,.slice none 0 0,.slice none 0 0],.int .i64 c]) (by simp [results,Try.results18,go_sem, *]) rfl ⟨rfl,bel_set4 HB.out (by omega) _ _ _ _⟩
def LstRes (x : FstD) (K : Nat) (w : World) (e : Ending) (w' : World) : Prop :=
 ∃ (k : Int) (ga : Option Addr) (gn gc : Nat) (ba : Option Addr) (bn bc : Nat),e = .returned (.tuple #[.agg #[.int .i64 k,.int .i64 0,.slice ga gn gc,.slice ba bn bc],.int .i64 0]) /\ JoP x K (w.heap.size + 2) k (.slice ga gn gc) (.slice ba bn bc) w' /\ Below w.heap.size w w'
set_option maxHeartbeats 1600000 in
theorem least_ok (f x : FstD) (K m : Nat) (fin arcs : Value) (w : World) (hf : ISlice w fin f.final) (ha : ASlice w arcs f.arcs) (hc : checkD f = 0) (hs : ¬ 12 < f.states) (hx : XIn x K) (hfx : Fine x)
  (hdet : ∀ W : World,ISlice W fin f.final -> ASlice W arcs f.arcs -> Calls Try.prog 7 #[.agg #[.int .i64 f.states,.int .i64 f.start,fin,arcs]] W fun e w' => HasFst W K m x e w') :
  Calls Try.prog 18 #[.agg #[.int .i64 f.states,.int .i64 f.start,fin,arcs]] w fun e w' => LstRes x K w e w':=by
 obtain ⟨fa,fn,fc,rfl,_,_⟩:=hf.lenOf
 obtain ⟨ba,bn,bc,rfl,_,_⟩:=ha.lenOf
 have hall:=all_at2 f _ _ 0 w hf ha hc
 have HDT:=hid_of hdet
 have HX:=hid_of (And.intro hx hfx)
 have hK2 : K <= 200:=(hx.jin hfx).n2
 clear hc hdet hx hfx
 go_enter Try.func18,Try.ntmps18
 go_wp2_with (first | (go_at_call 45; refine hall.mono ?_; rintro e w1 ⟨rfl,hb1,hC1,hz1,hI1,hA1⟩; have hde:=HDT.out w1 hI1 hA1; obtain ⟨q0,q1,q2,q3⟩:=hC1; clear hI1 hA1) | (go_at_call 7; refine hde.mono ?_; rintro e w2 ⟨g1,c1,ra,rc,rfl,hN2,hg2,hA2,hb2⟩; clear hde q0 q1 q2 q3; have hbL : Below w2.heap.size w2 (w2.alloc (.cells #[.int .i64 (K : Int),.int .i64 0,.slice (some ⟨g1,0,none⟩) K c1,.slice ra m rc] 25)):=bel_up (bel_self _) _; have hle:=leastOf_x x K _ _ _ HX.out.1 HX.out.2 ((hN2.below hbL).slice c1 (by unfold maxLen; omega)) ((hA2.slice rc).below hbL); have HB:=hid_of (bel_on hb1 (bel_on hb2 hbL)); have HZ:=hid_of (heap_bel (bel_on hb2 hbL) hz1); clear hbL hN2 hg2 hA2) | (go_at_call 46; refine hle.mono ?_; rintro e w3 ⟨k,ga,gn,gc,ra3,rn3,rc3,rfl,hP,hb3⟩; clear hle; have HP:=hid_of hP; have HB3:=hid_of (bel_on HB.out hb3); obtain ⟨z0,z1,z2,z3,y0,y1,y2,y3⟩:=zfacts (heap_bel hb3 HZ.out); have hzl:=heap_lt HZ.out; clear hP hb3))
 exact bodyPost_ret (v:=.tuple #[.agg #[.int .i64 k,.int .i64 0,.slice ga gn gc,.slice ra3 rn3 rc3],.int .i64 0]) (by simp [results,Try.results18,go_sem, *]) rfl ⟨k,ga,gn,gc,ra3,rn3,rc3,rfl,(HP.out.far fun b hb _ => far4H (by omega) _ _ _ _).mono (by omega),bel_set4 HB3.out (by omega) _ _ _ _⟩
end Go.Proofs.Yteehgcbjmdideab
/- 'slices.Equal' of numbers and of arcs,'same' and 'Same' of the program. (Made by wip/gen/kjd.py.) -/
namespace Go.Proofs.Yteehgcbjmdideab
open Go.RowKit
attribute [local go_sem ↓] Go.wp_at_zero Go.wp_at_succ
set_option maxHeartbeats 1000000 in
theorem eqInts_any (u v : Value) (xs ys : List Int) (w : World) (hu : ISlice w u xs) (hv : ISlice w v ys) :
  Calls Try.prog 82 #[u,v] w fun e w' => e = .returned (.bool (decide (xs = ys))) /\ Below w.heap.size w w':=by
 obtain ⟨ua,n,uc,rfl,hul,hum⟩:=hu.lenOf
 obtain ⟨va,m,vc,rfl,hvl,hvm⟩:=hv.lenOf
 have HU : Hid (xs.length = n):=hul
 have HV : Hid (ys.length = m):=hvl
 unfold maxLen at hum hvm
 clear hul hvl
 by_cases hnm : n = m
 ·subst hnm
  go_enter Try.func82,Try.ntmps82
  go_wp2
  go_loopw [5,13] (fun _ i wr => ∃ k : Nat,k <= n /\ i = .int .i64 k /\ (∀ j,j < k -> xs.getD j 0 = ys.getD j 0) /\ Below w.heap.size w wr) (fun _ i _ => n - (intOf i).toNat)
  case atStart => exact ⟨0,Nat.zero_le _,rfl,fun j hj => absurd hj (Nat.not_lt_zero _),bel_self _⟩
  case round =>
   obtain ⟨k,hk,rfl,hall,hb⟩:=hrel
   have HA : Hid (∀ j,j < k -> xs.getD j 0 = ys.getD j 0):=hall
   clear hall
   by_cases hlt : k < n
   ·have hkw : IntKind.i64.wrap ((k : Int) + 1) = (k : Int) + 1:=wrap_in _ (by omega) (by omega)
    obtain ⟨b,off,rfl,hx⟩:=hu.some (by omega)
    obtain ⟨b',off',rfl,hy⟩:=hv.some (by omega)
    have c0:=(hx.below hb).cell k hlt
    have c1:=(hy.below hb).cell k hlt
    obtain ⟨x,hxk⟩ : ∃ x,x = xs.getD k 0:=⟨_,rfl⟩
    obtain ⟨y,hyk⟩ : ∃ y,y = ys.getD k 0:=⟨_,rfl⟩
    rw [<- hxk] at c0
    rw [<- hyk] at c1
    have HX : Hid (x = xs.getD k 0):=hxk
    have HY : Hid (y = ys.getD k 0):=hyk
    clear hxk hyk
    have hi : (k : Int) < n:=by omega
    by_cases hxy : x = y
    ·have hd : (x != y) = false:=by simp [hxy]
     go_wp2
     go_quiet (fail)
     go_wp2
     go_roundw
     case rel =>
      refine ⟨k + 1,by omega,by go_num,fun j hj => ?_,bel_drewN hb _⟩
      by_cases e : j = k
      ·subst e; rw [<- HX.out,<- HY.out]; exact hxy
      ·exact HA.out j (by omega)
     case measure => simp [intOf]; omega
    ·have hd : (x != y) = true:=by simpa using hxy
     have hd2 : (x == y) = false:=by simpa using hxy
     have hne : decide (xs = ys) = false:=by
      simp only [decide_eq_false_iff_not]
      intro h; apply hxy; rw [HX.out,HY.out,h]
     have HD : Hid (decide (xs = ys) = false):=hne
     clear hne
     go_wp2
     go_quiet (fail)
     go_wp2
     go_ret
     exact ⟨ret_bool HD.out.symm,bel_drewN hb _⟩
   ·have HD : Hid (xs = ys):=getD_ext 0 xs ys (by rw [HU.out,HV.out]) (fun j hj => HA.out j (by have:=HU.out; omega))
    have hi : ¬ (k : Int) < n:=by omega
    go_wp2
    go_ret
    exact ⟨ret_bool (by simp [HD.out]),hb⟩
 ·have hd : ((n : Int) == (m : Int)) = false:=by rw [beq_eq_false_iff_ne]; omega
  have hd' : (n == m) = false:=by simpa using hnm
  have HD : Hid (decide (xs = ys) = false):=by
   have h1:=HU.out
   have h2:=HV.out
   show decide (xs = ys) = false
   simp only [decide_eq_false_iff_not]
   intro h; subst h; omega
  go_enter Try.func82,Try.ntmps82
  go_wp2
  go_ret
  exact ⟨ret_bool HD.out.symm,bel_self _⟩
set_option maxHeartbeats 1000000 in
theorem eqArcs_any (u v : Value) (xs ys : List ArcD) (w : World) (hu : ASlice w u xs) (hv : ASlice w v ys) :
  Calls Try.prog 83 #[u,v] w fun e w' => e = .returned (.bool (@decide (xs = ys) (decAs xs ys))) /\ Below w.heap.size w w':=by
 obtain ⟨ua,n,uc,rfl,hul,hum⟩:=hu.lenOf
 obtain ⟨va,m,vc,rfl,hvl,hvm⟩:=hv.lenOf
 have HU : Hid (xs.length = n):=hul
 have HV : Hid (ys.length = m):=hvl
 unfold maxLen at hum hvm
 clear hul hvl
 by_cases hnm : n = m
 ·subst hnm
  go_enter Try.func83,Try.ntmps83
  go_wp2
  go_loopw [5,13] (fun _ i wr => ∃ k : Nat,k <= n /\ i = .int .i64 k /\ (∀ j,j < k -> xs.getD j a0 = ys.getD j a0) /\ Below w.heap.size w wr) (fun _ i _ => n - (intOf i).toNat)
  case atStart => exact ⟨0,Nat.zero_le _,rfl,fun j hj => absurd hj (Nat.not_lt_zero _),bel_self _⟩
  case round =>
   obtain ⟨k,hk,rfl,hall,hb⟩:=hrel
   have HA : Hid (∀ j,j < k -> xs.getD j a0 = ys.getD j a0):=hall
   clear hall
   by_cases hlt : k < n
   ·have hkw : IntKind.i64.wrap ((k : Int) + 1) = (k : Int) + 1:=wrap_in _ (by omega) (by omega)
    have k3:=hu.below hb
    have k4:=hv.below hb
    obtain ⟨b,off,rfl,hx⟩:=k3.some (by omega)
    obtain ⟨b',off',rfl,hy⟩:=k4.some (by omega)
    obtain ⟨x,hxk⟩ : ∃ x,x = xs.getD k a0:=⟨_,rfl⟩
    obtain ⟨y,hyk⟩ : ∃ y,y = ys.getD k a0:=⟨_,rfl⟩
    have c0:=hx.c0 k hlt
    have c1:=hx.c1 k hlt
    have c2:=hx.c2 k hlt
    have c3:=hx.c3 k hlt
    have c4:=hx.c4 k hlt
    rw [<- hxk] at c0 c1 c2 c3 c4
    have e0:=hy.c0 k hlt
    have e1:=hy.c1 k hlt
    have e2:=hy.c2 k hlt
    have e3:=hy.c3 k hlt
    have e4:=hy.c4 k hlt
    rw [<- hyk] at e0 e1 e2 e3 e4
    have HX : Hid (x = xs.getD k a0):=hxk
    have HY : Hid (y = ys.getD k a0):=hyk
    clear hxk hyk k3 k4
    have hi : (k : Int) < n:=by omega
    have hneq:=arcs_neq x y
    have hgd : Try.prog.eqGuardType Try.prog.depth 54 = false:=by kernel_rfl
    cases hxy : @decide (x = y) (decA x y)
    ·have HD : Hid (@decide (xs = ys) (decAs xs ys) = false):=by
      show @decide (xs = ys) (decAs xs ys) = false
      simp only [decide_eq_false_iff_not] at hxy ⊢
      intro h; apply hxy; rw [HX.out,HY.out,h]
     go_wp2
     go_quiet (fail)
     go_wp2
     go_ret
     exact ⟨ret_bool HD.out.symm,bel_drewN hb _⟩
    ·have HD : Hid (x = y):=(by have h:=hxy; simpa using h : x = y)
     go_wp2
     go_quiet (fail)
     go_wp2
     go_roundw
     case rel =>
      refine ⟨k + 1,by omega,by go_num,fun j hj => ?_,bel_drewN hb _⟩
      by_cases e : j = k
      ·subst e; rw [<- HX.out,<- HY.out]; exact HD.out
      ·exact HA.out j (by omega)
     case measure => simp [intOf]; omega
   ·have HD : Hid (xs = ys):=getD_ext a0 xs ys (by rw [HU.out,HV.out]) (fun j hj => HA.out j (by have:=HU.out; omega))
    have hi : ¬ (k : Int) < n:=by omega
    go_wp2
    go_ret
    exact ⟨ret_bool (by simp [HD.out]),hb⟩
 ·have hd : ((n : Int) == (m : Int)) = false:=by rw [beq_eq_false_iff_ne]; omega
  have hd' : (n == m) = false:=by simpa using hnm
  have HD : Hid (@decide (xs = ys) (decAs xs ys) = false):=by
   have h1:=HU.out
   have h2:=HV.out
   show @decide (xs = ys) (decAs xs ys) = false
   simp only [decide_eq_false_iff_not]
   intro h; subst h; omega
  go_enter Try.func83,Try.ntmps83
  go_wp2
  go_ret
  exact ⟨ret_bool HD.out.symm,bel_self _⟩
def sameL (f g : FstD) : Bool:=decide (f.states = g.states) && decide (f.final = g.final) && @decide (f.arcs = g.arcs) (decAs f.arcs g.arcs)
set_option maxHeartbeats 1600000 in
theorem lsame_any (f g : FstD) (fin arcs fin' arcs' : Value) (w : World) (hf : ISlice w fin f.final) (ha : ASlice w arcs f.arcs) (hf' : ISlice w fin' g.final) (ha' : ASlice w arcs' g.arcs) :
  Calls Try.prog 54 #[.agg #[.int .i64 f.states,.int .i64 f.start,fin,arcs],.agg #[.int .i64 g.states,.int .i64 g.start,fin',arcs']] w fun e w' =>
   e = .returned (.bool (sameL f g)) /\ Below w.heap.size w w':=by
 obtain ⟨fa,fn,fc,rfl,_,_⟩:=hf.lenOf
 obtain ⟨aa,am,ac,rfl,_,_⟩:=ha.lenOf
 obtain ⟨ga,gn,gc,rfl,_,_⟩:=hf'.lenOf
 obtain ⟨ba,bm,bc,rfl,_,_⟩:=ha'.lenOf
 obtain ⟨A1,hA1⟩ : ∃ W,W = w.alloc (.cells #[.int .i64 f.states,.int .i64 f.start,.slice fa fn fc,.slice aa am ac] 25):=⟨_,rfl⟩
 obtain ⟨A2,hA2⟩ : ∃ W,W = A1.alloc (.cells #[.int .i64 g.states,.int .i64 g.start,.slice ga gn gc,.slice ba bm bc] 25):=⟨_,rfl⟩
 have z1 : A1.heap.size = w.heap.size + 1:=by rw [hA1]; exact one_size _ _
 have k1 : Below w.heap.size w A1:=by rw [hA1]; exact bel_up (bel_self _) _
 have k2 : Below A1.heap.size A1 A2:=by rw [hA2]; exact bel_up (bel_self _) _
 have hk:=bel_on k1 k2
 have hcF : CellsF A2 w.heap.size f.states f.start (.slice fa fn fc) (.slice aa am ac):=(by rw [hA1]; exact cellsF_new _ _ _ _ _ _ : CellsF A1 w.heap.size f.states f.start (.slice fa fn fc) (.slice aa am ac)).below k2
 have hcG : CellsF A2 (w.heap.size + 1) g.states g.start (.slice ga gn gc) (.slice ba bm bc):=by rw [hA2,<- z1]; exact cellsF_new _ _ _ _ _ _
 have h82:=eqInts_any _ _ f.final g.final A2 (hf.below hk) (hf'.below hk)
 have HAR : Hid (∀ W,Below A2.heap.size A2 W -> Calls Try.prog 83 #[.slice aa am ac,.slice ba bm bc] W fun e w' => e = .returned (.bool (@decide (f.arcs = g.arcs) (decAs f.arcs g.arcs))) /\ Below W.heap.size W w'):=fun W h => eqArcs_any _ _ f.arcs g.arcs W ((ha.below hk).below h) ((ha'.below hk).below h)
 obtain ⟨f0,f1,f2,f3⟩:=id hcF
 obtain ⟨g0,g1,g2,g3⟩:=id hcG
 have HC:=hid_of (And.intro hcF hcG)
 have HK:=hid_of hk
 have HA:=hid_of (And.intro hA1 hA2)
 cases d1 : (f.states == g.states)
 ·rw [hA2,hA1] at h82 f0 f1 f2 f3 g0 g1 g2 g3
  clear hcF hcG hA1 hA2 k1 k2 z1 hf ha hf' ha'
  go_enter Try.func54,Try.ntmps54
  go_wp2
  rw [<- HA.out.1,<- HA.out.2]
  go_ret
  exact ⟨ret_bool (by simp at d1; simp [sameL,d1]),HK.out⟩
 ·obtain ⟨d2,hd2⟩ : ∃ d,d = decide (f.final = g.final):=⟨_,rfl⟩
  have HD2:=hid_of hd2
  rw [<- hd2] at h82
  rw [hA2,hA1] at h82 f0 f1 f2 f3 g0 g1 g2 g3
  clear hcF hcG hA1 hA2 k1 k2 z1 hf ha hf' ha' hd2
  cases d2
  ·go_enter Try.func54,Try.ntmps54
   go_wp2_with (go_at_call 82; refine h82.mono ?_; rintro e w2 ⟨rfl,hb2⟩; rw [<- HA.out.1,<- HA.out.2] at hb2; have HB2:=hid_of hb2; clear h82 hb2)
   go_ret
   exact ⟨ret_bool (by simp [sameL,<- HD2.out]),bel_on HK.out HB2.out⟩
  ·obtain ⟨d3,hd3⟩ : ∃ d,d = @decide (f.arcs = g.arcs) (decAs f.arcs g.arcs):=⟨_,rfl⟩
   have HD3:=hid_of hd3
   clear hd3
   go_enter Try.func54,Try.ntmps54
   go_wp2_with (first | (go_at_call 82; refine h82.mono ?_; rintro e w2 ⟨rfl,hb2⟩; rw [<- HA.out.1,<- HA.out.2] at hb2; have HB2:=hid_of hb2; clear h82; have h83:=HAR.out w2 hb2; rw [<- HD3.out] at h83; clear f0 f1 f2 f3 g0 g1 g2 g3; obtain ⟨f0,f1,f2,f3⟩:=HC.out.1.below hb2; obtain ⟨g0,g1,g2,g3⟩:=HC.out.2.below hb2; clear hb2) | (go_at_call 83; refine h83.mono ?_; rintro e w3 ⟨rfl,hb3⟩; have HB3:=hid_of hb3; clear h83 hb3))
   go_ret
   exact ⟨ret_bool (by rw [HD3.out]; simp at d1; simp [sameL,<- HD2.out,d1]),bel_on HK.out (bel_on HB2.out HB3.out)⟩
def OutP (x : FstD) (K : Nat) (o : FstD) : Prop:=∃ (cl : List Int) (n m : Nat) (C : List Int -> Nat) (κ : Nat -> List Int),ClsIn x K cl n /\ TabOf x K cl C κ /\ RunN κ (C []) m /\ o = ⟨(m : Int),0,(numN κ (C []) m).2.1,(numN κ (C []) m).2.2⟩
theorem JoP.out {x : FstD} {K B : Nat} {k : Int} {c d : Value} {W : World} (h : JoP x K B k c d W) : ∃ o,OutP x K o /\ o.states = k /\ o.start = 0 /\ ISlice W c o.final /\ ASlice W d o.arcs:=by
 obtain ⟨cl,n,m,C,κ,h1,h2,h3,h4,h5,h6,_⟩:=h
 exact ⟨_,⟨cl,n,m,C,κ,h1,h2,h3,rfl⟩,h4.symm,rfl,h5,h6⟩
def NoSame (w : World) (c : Int) (e : Ending) (w' : World) : Prop:=e = .returned (.tuple #[.bool false,.int .i64 c]) /\ Below w.heap.size w w'
set_option maxHeartbeats 1600000 in
theorem Same_first (f g : FstD) (c : Int) (fin arcs fin' arcs' : Value) (w : World) (hf : ISlice w fin f.final) (ha : ASlice w arcs f.arcs) (h2 : (∃ a n k,fin' = .slice a n k) /\ ∃ a n k,arcs' = .slice a n k) (h0 : c ≠ 0)
  (hle : ∀ W : World,ISlice W fin f.final -> ASlice W arcs f.arcs -> Calls Try.prog 18 #[.agg #[.int .i64 f.states,.int .i64 f.start,fin,arcs]] W fun e w' => NoFst W c e w') :
  Calls Try.prog 23 #[.agg #[.int .i64 f.states,.int .i64 f.start,fin,arcs],.agg #[.int .i64 g.states,.int .i64 g.start,fin',arcs']] w fun e w' => NoSame w c e w':=by
 obtain ⟨fa,fn,fc,rfl,_,_⟩:=hf.lenOf
 obtain ⟨aa,am,ac,rfl,_,_⟩:=ha.lenOf
 obtain ⟨⟨ga,gn,gc,rfl⟩,ba,bm,bc,rfl⟩:=h2
 obtain ⟨A1,hA1⟩ : ∃ W,W = w.alloc (.cells #[.int .i64 f.states,.int .i64 f.start,.slice fa fn fc,.slice aa am ac] 25):=⟨_,rfl⟩
 obtain ⟨A2,hA2⟩ : ∃ W,W = A1.alloc (.cells #[.int .i64 g.states,.int .i64 g.start,.slice ga gn gc,.slice ba bm bc] 25):=⟨_,rfl⟩
 have k1 : Below w.heap.size w A1:=by rw [hA1]; exact bel_up (bel_self _) _
 have k2 : Below A1.heap.size A1 A2:=by rw [hA2]; exact bel_up (bel_self _) _
 have hk:=bel_on k1 k2
 have h18:=hle A2 (hf.below hk) (ha.below hk)
 have HK:=hid_of hk
 have HA:=hid_of (And.intro hA1 hA2)
 have h0n : (c != 0) = true:=by simpa using h0
 rw [hA2,hA1] at h18
 clear hA1 hA2 k1 k2 hf ha hk hle h0
 go_enter Try.func23,Try.ntmps23
 go_wp2_with (go_at_call 18; refine h18.mono ?_; rintro e w2 ⟨rfl,hb2⟩; rw [<- HA.out.1,<- HA.out.2] at hb2; have HB2:=hid_of (bel_on HK.out (bel_up hb2 (.cells #[.int .i64 0,.int .i64 0,.slice none 0 0,.slice none 0 0] 25))); clear h18 hb2)
 exact bodyPost_ret (v:=.tuple #[.bool false,.int .i64 c]) (by simp [results,Try.results23,go_sem, *]) rfl ⟨rfl,HB2.out⟩
set_option maxHeartbeats 1600000 in
theorem Same_second (f g x : FstD) (K : Nat) (c : Int) (fin arcs fin' arcs' : Value) (w : World) (hf : ISlice w fin f.final) (ha : ASlice w arcs f.arcs) (hf' : ISlice w fin' g.final) (ha' : ASlice w arcs' g.arcs) (h0 : c ≠ 0)
  (hle : ∀ W : World,ISlice W fin f.final -> ASlice W arcs f.arcs -> Calls Try.prog 18 #[.agg #[.int .i64 f.states,.int .i64 f.start,fin,arcs]] W fun e w' => LstRes x K W e w')
  (hle2 : ∀ W : World,ISlice W fin' g.final -> ASlice W arcs' g.arcs -> Calls Try.prog 18 #[.agg #[.int .i64 g.states,.int .i64 g.start,fin',arcs']] W fun e w' => NoFst W c e w') :
  Calls Try.prog 23 #[.agg #[.int .i64 f.states,.int .i64 f.start,fin,arcs],.agg #[.int .i64 g.states,.int .i64 g.start,fin',arcs']] w fun e w' => NoSame w c e w':=by
 obtain ⟨fa,fn,fc,rfl,_,_⟩:=hf.lenOf
 obtain ⟨aa,am,ac,rfl,_,_⟩:=ha.lenOf
 obtain ⟨ga,gn,gc,rfl,_,_⟩:=hf'.lenOf
 obtain ⟨ba,bm,bc,rfl,_,_⟩:=ha'.lenOf
 obtain ⟨A1,hA1⟩ : ∃ W,W = w.alloc (.cells #[.int .i64 f.states,.int .i64 f.start,.slice fa fn fc,.slice aa am ac] 25):=⟨_,rfl⟩
 obtain ⟨A2,hA2⟩ : ∃ W,W = A1.alloc (.cells #[.int .i64 g.states,.int .i64 g.start,.slice ga gn gc,.slice ba bm bc] 25):=⟨_,rfl⟩
 have z1 : A1.heap.size = w.heap.size + 1:=by rw [hA1]; exact one_size _ _
 have k1 : Below w.heap.size w A1:=by rw [hA1]; exact bel_up (bel_self _) _
 have k2 : Below A1.heap.size A1 A2:=by rw [hA2]; exact bel_up (bel_self _) _
 have hk:=bel_on k1 k2
 have hcG : CellsF A2 (w.heap.size + 1) g.states g.start (.slice ga gn gc) (.slice ba bm bc):=by rw [hA2,<- z1]; exact cellsF_new _ _ _ _ _ _
 have h18:=hle A2 (hf.below hk) (ha.below hk)
 have HL2 : Hid (∀ W : World,Below A2.heap.size A2 W -> Calls Try.prog 18 #[.agg #[.int .i64 g.states,.int .i64 g.start,.slice ga gn gc,.slice ba bm bc]] W fun e w' => NoFst W c e w'):=fun W h => hle2 W ((hf'.below hk).below h) ((ha'.below hk).below h)
 have HK:=hid_of hk
 have HC:=hid_of hcG
 have HA:=hid_of (And.intro hA1 hA2)
 have h0n : (c != 0) = true:=by simpa using h0
 rw [hA2,hA1] at h18
 clear hA1 hA2 k1 k2 hf ha hf' ha' hk hle hle2 h0 hcG z1
 go_enter Try.func23,Try.ntmps23
 go_upto_region 4 with (go_at_call 18; refine h18.mono ?_; rintro e w2 ⟨k,fa2,fn2,fc2,aa2,am2,ac2,rfl,_,hb2⟩; rw [<- HA.out.1,<- HA.out.2] at hb2; clear h18)
 obtain ⟨Wb,hWb⟩ : ∃ W,W = w2.alloc (.cells #[.int .i64 k,.int .i64 0,.slice fa2 fn2 fc2,.slice aa2 am2 ac2] 25):=⟨_,rfl⟩
 have hbb : Below w2.heap.size w2 Wb:=by rw [hWb]; exact bel_up (bel_self _) _
 have hb3:=bel_on hb2 hbb
 have h19:=HL2.out Wb hb3
 obtain ⟨g0,g1,g2,g3⟩:=HC.out.below hb3
 have HB3:=hid_of (bel_on HK.out hb3)
 rw [<- hWb]
 clear hWb hbb hb2 hb3
 go_wp2_with (go_at_call 18; refine h19.mono ?_; rintro e w4 ⟨rfl,hb4⟩; have HB4:=hid_of (bel_up hb4 (.cells #[.int .i64 0,.int .i64 0,.slice none 0 0,.slice none 0 0] 25)); clear h19 hb4)
 exact bodyPost_ret (v:=.tuple #[.bool false,.int .i64 c]) (by simp [results,Try.results23,go_sem, *]) rfl ⟨rfl,bel_on HB3.out HB4.out⟩
def IsSame (x : FstD) (K : Nat) (y : FstD) (L : Nat) (w : World) (e : Ending) (w' : World) : Prop:=∃ o q,OutP x K o /\ OutP y L q /\ e = .returned (.tuple #[.bool (sameL o q),.int .i64 0]) /\ Below w.heap.size w w'
set_option maxHeartbeats 1600000 in
theorem Same_both (f g x y : FstD) (K L : Nat) (fin arcs fin' arcs' : Value) (w : World) (hf : ISlice w fin f.final) (ha : ASlice w arcs f.arcs) (hf' : ISlice w fin' g.final) (ha' : ASlice w arcs' g.arcs)
  (hle : ∀ W : World,ISlice W fin f.final -> ASlice W arcs f.arcs -> Calls Try.prog 18 #[.agg #[.int .i64 f.states,.int .i64 f.start,fin,arcs]] W fun e w' => LstRes x K W e w')
  (hle2 : ∀ W : World,ISlice W fin' g.final -> ASlice W arcs' g.arcs -> Calls Try.prog 18 #[.agg #[.int .i64 g.states,.int .i64 g.start,fin',arcs']] W fun e w' => LstRes y L W e w') :
  Calls Try.prog 23 #[.agg #[.int .i64 f.states,.int .i64 f.start,fin,arcs],.agg #[.int .i64 g.states,.int .i64 g.start,fin',arcs']] w fun e w' => IsSame x K y L w e w':=by
 obtain ⟨fa,fn,fc,rfl,_,_⟩:=hf.lenOf
 obtain ⟨aa,am,ac,rfl,_,_⟩:=ha.lenOf
 obtain ⟨ga,gn,gc,rfl,_,_⟩:=hf'.lenOf
 obtain ⟨ba,bm,bc,rfl,_,_⟩:=ha'.lenOf
 obtain ⟨A1,hA1⟩ : ∃ W,W = w.alloc (.cells #[.int .i64 f.states,.int .i64 f.start,.slice fa fn fc,.slice aa am ac] 25):=⟨_,rfl⟩
 obtain ⟨A2,hA2⟩ : ∃ W,W = A1.alloc (.cells #[.int .i64 g.states,.int .i64 g.start,.slice ga gn gc,.slice ba bm bc] 25):=⟨_,rfl⟩
 have z1 : A1.heap.size = w.heap.size + 1:=by rw [hA1]; exact one_size _ _
 have k1 : Below w.heap.size w A1:=by rw [hA1]; exact bel_up (bel_self _) _
 have k2 : Below A1.heap.size A1 A2:=by rw [hA2]; exact bel_up (bel_self _) _
 have hk:=bel_on k1 k2
 have hcG : CellsF A2 (w.heap.size + 1) g.states g.start (.slice ga gn gc) (.slice ba bm bc):=by rw [hA2,<- z1]; exact cellsF_new _ _ _ _ _ _
 have h18:=hle A2 (hf.below hk) (ha.below hk)
 have HL2 : Hid (∀ W : World,Below A2.heap.size A2 W -> Calls Try.prog 18 #[.agg #[.int .i64 g.states,.int .i64 g.start,.slice ga gn gc,.slice ba bm bc]] W fun e w' => LstRes y L W e w'):=fun W h => hle2 W ((hf'.below hk).below h) ((ha'.below hk).below h)
 have HK:=hid_of hk
 have HC:=hid_of hcG
 have HA:=hid_of (And.intro hA1 hA2)
 rw [hA2,hA1] at h18
 clear hA1 hA2 k1 k2 hf ha hf' ha' hk hle hle2 hcG z1
 go_enter Try.func23,Try.ntmps23
 go_upto_region 4 with (go_at_call 18; refine h18.mono ?_; rintro e w2 ⟨k,fa2,fn2,fc2,aa2,am2,ac2,rfl,hP2,hb2⟩; rw [<- HA.out.1,<- HA.out.2] at hb2; clear h18)
 obtain ⟨o,ho,rfl,hos,hoI,hoA⟩:=hP2.out
 obtain ⟨Wb,hWb⟩ : ∃ W,W = w2.alloc (.cells #[.int .i64 o.states,.int .i64 0,.slice fa2 fn2 fc2,.slice aa2 am2 ac2] 25):=⟨_,rfl⟩
 have hbb : Below w2.heap.size w2 Wb:=by rw [hWb]; exact bel_up (bel_self _) _
 have hb3:=bel_on hb2 hbb
 have h19:=HL2.out Wb hb3
 obtain ⟨g0,g1,g2,g3⟩:=HC.out.below hb3
 have HB3:=hid_of (bel_on HK.out hb3)
 have hcO : CellsF Wb w2.heap.size o.states 0 (.slice fa2 fn2 fc2) (.slice aa2 am2 ac2):=by rw [hWb]; exact cellsF_new _ _ _ _ _ _
 have HO:=hid_of (And.intro ho (And.intro hos (And.intro (hoI.below hbb) (And.intro (hoA.below hbb) hcO))))
 rw [<- hWb]
 clear hWb hbb hb2 hb3 hP2 ho hos hoI hoA hcO
 go_upto_region 7 with (go_at_call 18; refine h19.mono ?_; rintro e w4 ⟨k4,fa4,fn4,fc4,aa4,am4,ac4,rfl,hP4,hb4⟩; clear h19)
 obtain ⟨q,hq,rfl,hqs,hqI,hqA⟩:=hP4.out
 obtain ⟨Wd,hWd⟩ : ∃ W,W = w4.alloc (.cells #[.int .i64 q.states,.int .i64 0,.slice fa4 fn4 fc4,.slice aa4 am4 ac4] 25):=⟨_,rfl⟩
 have hbd : Below w4.heap.size w4 Wd:=by rw [hWd]; exact bel_up (bel_self _) _
 have hb5:=bel_on hb4 hbd
 have hcQ : CellsF Wd w4.heap.size q.states 0 (.slice fa4 fn4 fc4) (.slice aa4 am4 ac4):=by rw [hWd]; exact cellsF_new _ _ _ _ _ _
 have hls:=lsame_any o q _ _ _ _ Wd (HO.out.2.2.1.below hb5) (HO.out.2.2.2.1.below hb5) (hqI.below hbd) (hqA.below hbd)
 rw [HO.out.2.1,hqs] at hls
 clear g0 g1 g2 g3
 obtain ⟨g0,g1,g2,g3⟩:=HO.out.2.2.2.2.below hb5
 obtain ⟨r0,r1,r2,r3⟩:=hcQ
 have HQ:=hid_of (And.intro hq (bel_on HB3.out hb5))
 rw [<- hWd]
 clear hWd hbd hb4 hb5 hP4 hq hqs hqI hqA
 go_wp2_with (go_at_call 54; refine hls.mono ?_; rintro e w6 ⟨rfl,hb6⟩; have HB6:=hid_of hb6; clear hls hb6)
 exact bodyPost_ret (v:=.tuple #[.bool (sameL o q),.int .i64 0]) (by simp [results,Try.results23,go_sem, *]) rfl ⟨o,q,HO.out.1,HQ.out.1,rfl,bel_on HQ.out.2 HB6.out⟩
end Go.Proofs.Yteehgcbjmdideab
/- What is so of the one transducer that determineBegun looks at. -/
namespace Go.Proofs.Yteehgcbjmdideab
open Go.RowKit
def sameF : FstD:=⟨2,0,[-1,1],[⟨0,1,1,1,5⟩]⟩
def sameG : FstD:=⟨2,0,[-1,0],[⟨0,1,1,1,6⟩]⟩
theorem sameF_chk : checkD sameF = 0:=by decide
theorem sameG_chk : checkD sameG = 0:=by decide
theorem same_trim {t : FstD} (h : Sc.IsTrim sameF t) : t = sameF:=by
 refine h.unique ⟨fun i => decide (i < 2),fun i => ?_,rfl⟩
 rw [decide_eq_true_iff]
 have r0 : Sc.ReachP 2 (Sc.pairsA sameF) (Sc.firstA sameF) 0:=Sc.Reach.first ⟨by decide,by decide⟩
 have r1 : Sc.ReachP 2 (Sc.pairsA sameF) (Sc.firstA sameF) 1:=Sc.Reach.on r0 (by decide)
 have b1 : Sc.ReachP 2 (Sc.pairsB sameF) (Sc.firstB sameF) 1:=Sc.Reach.first ⟨by decide,by decide⟩
 have b0 : Sc.ReachP 2 (Sc.pairsB sameF) (Sc.firstB sameF) 0:=Sc.Reach.on b1 (by decide)
 constructor
 ·intro hi
  have : i = 0 \/ i = 1:=by omega
  rcases this with rfl | rfl
  ·exact ⟨r0,b0⟩
  ·exact ⟨r1,b1⟩
 ·intro hs
  exact hs.1.lt (by decide)
theorem sub0 : (subR sameF 2 0).ms.length = 1:=by decide
theorem sub1 : (subR sameF 2 1).ms.length = 2:=by decide
theorem sub2 : (subR sameF 2 2).ms.length = 2 /\ (subR sameF 2 2).fin = [-1,1] /\ (subR sameF 2 2).ars = [⟨0,1,1,1,5⟩]:=⟨by decide,by decide,rfl⟩
theorem same_early : earlyD sameF = sameG:=rfl
theorem same_all : gI (toD sameF) 0 = 6:=by decide
theorem same_round : ¬ RoundD sameF:=by
 rintro ⟨v,_,u,h1,u',h2,_⟩
 have e : edgesE sameF.arcs = [(0,1)]:=by decide
 rw [e] at h1 h2
 have e1:=List.mem_singleton.1 h1
 have e2:=List.mem_singleton.1 h2
 injection e1 with e1 _
 injection e2 with _ e2
 omega
end Go.Proofs.Yteehgcbjmdideab
/- What Determine answers,told by the subsets; the least one of the literal. -/
namespace Go.Proofs.Yteehgcbjmdideab
open Go.RowKit
theorem det_three {f t : FstD} {N s0 : Nat} (hd : DIn f t N s0) :
  (ManyD t s0 /\ ∀ (fin arcs : Value) (W : World),ISlice W fin f.final -> ASlice W arcs f.arcs -> Calls Try.prog 7 #[.agg #[.int .i64 f.states,.int .i64 f.start,fin,arcs]] W fun e w' => NoFst W 2 e w') \/
  (¬ ManyD t s0 /\ ∃ K,DoneK t N K /\ ((checkD (detX t N K) ≠ 0 /\ ∀ (fin arcs : Value) (W : World),ISlice W fin f.final -> ASlice W arcs f.arcs -> Calls Try.prog 7 #[.agg #[.int .i64 f.states,.int .i64 f.start,fin,arcs]] W fun e w' => NoFst W 2 e w') \/ (checkD (detX t N K) = 0 /\ ∃ m,∀ (fin arcs : Value) (W : World),ISlice W fin f.final -> ASlice W arcs f.arcs -> Calls Try.prog 7 #[.agg #[.int .i64 f.states,.int .i64 f.start,fin,arcs]] W fun e w' => HasFst W K m (detX t N K) e w'))):=by
 rcases done_or t N with ⟨K,hk⟩ | ⟨K,hk⟩
 ·obtain ⟨cnt,rk,h1,h2,h3,h4⟩:=hk.count hd.hT
  by_cases hgt : 200 < cnt 0
  ·exact Or.inl ⟨h3.1 hgt,fun fin arcs W hf ha => det_count f t N s0 K _ cnt rk fin arcs W hf ha hd hk rfl h1 h2 hgt⟩
  ·refine Or.inr ⟨fun h => hgt (h3.2 h),K,hk,?_⟩
   by_cases hx : checkD (detX t N K) = 0
   ·exact Or.inr ⟨hx,_,fun fin arcs W hf ha => det_good f t N s0 K _ cnt rk fin arcs W hf ha hd hk rfl h1 h2 (by omega) hx⟩
   ·exact Or.inl ⟨hx,fun fin arcs W hf ha => det_heavy f t N s0 K _ cnt rk fin arcs W hf ha hd hk rfl h1 h2 (by omega) hx⟩
 ·exact Or.inl ⟨hk.many hd.hT.sin,fun fin arcs W hf ha => det_fail f t N s0 K fin arcs W hf ha hd hk⟩
theorem one_words {w0 w1 : Int} {fin : List Int} : ∀ (u : List Int) (n : Nat) (z : Int),WdR ⟨2,0,fin,[⟨0,1,1,1,w0⟩]⟩ 0 u n z -> (u = [] /\ n = 0) \/ (u = [1] /\ n = 1)
 | [],n,z,h => Or.inl ⟨rfl,h.1⟩
 | c :: u,n,z,h => by
  obtain ⟨a,ha,n',z',hr,hi,hs,hd,_⟩:=h
  obtain rfl : a = ⟨0,1,1,1,w0⟩:=by simpa using ha
  rcases one_words (w1:=w1) u n' z' hr with ⟨rfl,rfl⟩ | ⟨rfl,rfl⟩
  ·right
   refine ⟨by rw [<- hi],?_⟩
   have : (1 : Int) = (n : Int):=hd
   omega
  ·exfalso
   simp at hs
theorem one_few {w0 : Int} {fin : List Int} : ¬ ManyD ⟨2,0,fin,[⟨0,1,1,1,w0⟩]⟩ 0:=by
 rintro ⟨L,h1,h2,h3⟩
 have:=nodup_sub L [[],[1]] h1 (fun u hu => by
  obtain ⟨n,z,h⟩:=h2 u hu
  rcases one_words (w1:=0) u n z h with ⟨rfl,_⟩ | ⟨rfl,_⟩
  ·simp
  ·simp)
 simp at this
 omega
theorem same_done : DoneK sameF 2 2:=⟨fun j hj => by
 have : j = 0 \/ j = 1:=by omega
 rcases this with rfl | rfl
 ·rw [sub0]; omega
 ·rw [sub1]; omega,sub2.1.symm⟩
theorem subG_F : subG sameF 2 2 = sameF:=by
 unfold subG
 rw [sub2.2.1,sub2.2.2]
 rfl
theorem detX_F : detX sameF 2 2 = sameG:=by
 unfold detX
 rw [subG_F,same_all,if_neg (by decide)]
 exact same_early
theorem sug0 : (subR sameG 2 0).ms.length = 1:=by decide
theorem sug1 : (subR sameG 2 1).ms.length = 2:=by decide
set_option maxRecDepth 20000 in
theorem sug2 : (subR sameG 2 2).ms.length = 2 /\ (subR sameG 2 2).fin = [-1,0] /\ (subR sameG 2 2).ars = [⟨0,1,1,1,6⟩]:=⟨by decide,by decide,rfl⟩
theorem sameG_done : DoneK sameG 2 2:=⟨fun j hj => by
 have : j = 0 \/ j = 1:=by omega
 rcases this with rfl | rfl
 ·rw [sug0]; omega
 ·rw [sug1]; omega,sug2.1.symm⟩
theorem subG_G : subG sameG 2 2 = sameG:=by
 unfold subG
 rw [sug2.2.1,sug2.2.2]
 rfl
theorem sameG_all : gI (toD sameG) 0 = 6:=by decide
theorem sameG_early : earlyD sameG = sameG:=rfl
theorem detX_G : detX sameG 2 2 = sameG:=by
 unfold detX
 rw [subG_G,sameG_all,if_neg (by decide)]
 exact sameG_early
theorem din_lit {f : FstD} (hc : checkD f = 0) (hb : bothB f = true) (hs : silB f = false) (hr : ¬ RoundD f) (ht : ∀ t,Sc.IsTrim f t -> t = f) : DIn f f f.states.toNat f.start.toNat:=by
 obtain ⟨t,N,s0,hd⟩:=din_of hc hb hs hr
 obtain rfl:=ht t hd.ht
 have h1:=hd.hT.sin.st
 have h2:=hd.hT.sin.sta
 have e1 : t.states.toNat = N:=by omega
 have e2 : t.start.toNat = s0:=by omega
 rw [e1,e2]
 exact hd
theorem same_din : DIn sameF sameF 2 0:=din_lit sameF_chk (by decide) (by decide) same_round (fun _ h => same_trim h)
theorem sameG_xin : XIn sameG 2:=by
 have:=(same_done.xin same_din.hT).1
 rw [detX_F] at this
 exact this
theorem sameG_fine : Fine sameG:=fine_of sameG_chk
theorem sameG_round : ¬ RoundD sameG:=by
 have e : edgesE sameG.arcs = edgesE sameF.arcs:=rfl
 unfold RoundD
 rw [e]
 exact same_round
theorem sameG_din : DIn sameG sameG 2 0:=din_lit sameG_chk (by decide) (by decide) sameG_round (fun _ h => h.unique sameG_xin.trim)
theorem det_lit {f : FstD} (hd : DIn f f 2 0) (hk : DoneK f 2 2) (hx : detX f 2 2 = sameG) (hm : ¬ ManyD f 0) : ∃ m,∀ (fin arcs : Value) (W : World),ISlice W fin f.final -> ASlice W arcs f.arcs -> Calls Try.prog 7 #[.agg #[.int .i64 f.states,.int .i64 f.start,fin,arcs]] W fun e w' => HasFst W 2 m sameG e w':=by
 rcases det_three hd with ⟨h,_⟩ | ⟨_,K,hK,h | ⟨_,m,h⟩⟩
 ·exact absurd h hm
 ·obtain rfl:=done_unique hk hK
  rw [hx] at h
  exact absurd sameG_chk h.1
 ·obtain rfl:=done_unique hk hK
  rw [hx] at h
  exact ⟨m,h⟩
theorem least_lit {f : FstD} (hd : DIn f f 2 0) (hk : DoneK f 2 2) (hx : detX f 2 2 = sameG) (hm : ¬ ManyD f 0) (hs : ¬ 12 < f.states) (fin arcs : Value) (W : World) (hf : ISlice W fin f.final) (ha : ASlice W arcs f.arcs) : Calls Try.prog 18 #[.agg #[.int .i64 f.states,.int .i64 f.start,fin,arcs]] W fun e w' => LstRes sameG 2 W e w':=by
 obtain ⟨m,h⟩:=det_lit hd hk hx hm
 exact least_ok f sameG 2 m fin arcs W hf ha hd.hc hs sameG_xin sameG_fine (fun W h1 h2 => h fin arcs W h1 h2)
theorem numLets_skip {k : List Int} {n : Nat} {S : List Nat × List ArcD} (a : Nat) : ∀ d,(∀ j,a <= j -> j < a + d -> gI k (1 + j * 2) = -1) -> numLets k n S (a + d) = numLets k n S a
 | 0,_ => rfl
 | d + 1,h => by
  show numStep k n (numLets k n S (a + d)) (a + d) = _
  rw [numLets_skip a d (fun j h1 h2 => h j h1 (by omega))]
  unfold numStep
  rw [if_pos (h (a + d) (by omega) (by omega))]
theorem out_lit {o : FstD} (h : OutP sameG 2 o) : o = sameG:=by
 obtain ⟨cl,n,m,C,κ,hc,hT,hr,rfl⟩:=h
 have w0 : WdR sameG 0 [] 0 0:=⟨rfl,rfl⟩
 have w1 : WdR sameG 0 [1] 1 6:=⟨⟨0,1,1,1,6⟩,by simp [sameG],0,0,⟨rfl,rfl⟩,rfl,rfl,rfl,rfl⟩
 have k0:=hT.at sameG_xin w0
 have k1:=hT.at sameG_xin w1
 have c0:=hT.c _ _ _ w0
 have c1:=hT.c _ _ _ w1
 have hne : C [1] ≠ C []:=by
  intro e
  have h2 : gI cl 0 = gI cl 1:=by rw [<- c0,<- c1,e]
  have h3:=hc.same 0 1 (by decide) (by decide) h2
  have h4 : gI (kindL sameG.arcs sameG.final cl 0) 0 = gI (kindL sameG.arcs sameG.final cl 1) 0:=by rw [h3]
  rw [kind_end,kind_end] at h4
  exact absurd h4 (by decide)
 have a0 : gI (κ (C [])) (1 + 0 * 2) = (C [1] : Int) /\ gI (κ (C [])) (1 + 0 * 2 + 1) = 6:=by
  rw [k0,kind_to _ _ _ 0 0 (by decide),kind_co _ _ _ 0 0 (by decide),c1]
  exact ⟨rfl,rfl⟩
 have f0 : gI (κ (C [])) 0 = -1:=by rw [k0,kind_end]; rfl
 have f1 : gI (κ (C [1])) 0 = 0:=by rw [k1,kind_end]; rfl
 have s0 : ∀ j,1 <= j -> j < 1 + 8 -> gI (κ (C [])) (1 + j * 2) = -1:=fun j h1 h2 => by
  rw [k0,kind_to _ _ _ _ _ (by omega)]
  unfold leapTo
  rw [(last_none sameG_xin.ord).2 ?_]
  intro a ha
  obtain rfl : a = ⟨0,1,1,1,6⟩:=by simpa [sameG] using ha
  dsimp only
  omega
 have s1 : ∀ j,0 <= j -> j < 0 + 9 -> gI (κ (C [1])) (1 + j * 2) = -1:=fun j h1 h2 => by
  rw [k1,kind_to _ _ _ _ _ (by omega)]
  unfold leapTo
  rw [(last_none sameG_xin.ord).2 ?_]
  intro a ha
  obtain rfl : a = ⟨0,1,1,1,6⟩:=by simpa [sameG] using ha
  dsimp only
  omega
 have l1 : numLets (κ (C [])) 0 ([C []],[]) 9 = ([C [],C [1]],[⟨0,1,1,1,6⟩]):=by
  rw [show 9 = 1 + 8 from rfl,numLets_skip 1 8 s0]
  show numStep (κ (C [])) 0 ([C []],[]) 0 = _
  unfold numStep
  rw [if_neg (by rw [a0.1]; omega),a0.1,a0.2]
  dsimp only
  rw [Int.toNat_natCast,if_neg (by simpa using hne)]
  have : ([C []] ++ [C [1]]).idxOf (C [1]) = 1:=by
   rw [List.idxOf_append,if_neg (by simpa using hne)]
   simp
  rw [this]
  rfl
 have n1 : numN κ (C []) 1 = ([C [],C [1]],[-1],[⟨0,1,1,1,6⟩]):=by
  show ((numLets (κ (C [])) 0 ([C []],[]) 9).1,[] ++ [gI (κ (C [])) 0],(numLets (κ (C [])) 0 ([C []],[]) 9).2) = _
  rw [l1,f0]
  rfl
 have n2 : numN κ (C []) 2 = ([C [],C [1]],[-1,0],[⟨0,1,1,1,6⟩]):=by
  show ((numLets (κ ((numN κ (C []) 1).1.getD 1 0)) 1 ((numN κ (C []) 1).1,(numN κ (C []) 1).2.2) 9).1,(numN κ (C []) 1).2.1 ++ [gI (κ ((numN κ (C []) 1).1.getD 1 0)) 0],(numLets (κ ((numN κ (C []) 1).1.getD 1 0)) 1 ((numN κ (C []) 1).1,(numN κ (C []) 1).2.2) 9).2) = _
  rw [n1]
  dsimp only
  rw [show ([C [],C [1]] : List Nat).getD 1 0 = C [1] from rfl,show 9 = 0 + 9 from rfl,numLets_skip 0 9 s1,f1]
  rfl
 have hm : m = 2:=by
  have d:=hr.done
  by_cases e0 : m = 0
  ·subst e0; cases d
  ·by_cases e1 : m = 1
   ·subst e1; rw [n1] at d; cases d
   ·by_cases e2 : m = 2
    ·exact e2
    ·have:=hr.all 2 (by omega)
     rw [n2] at this
     simp at this
 subst hm
 rw [n2]
 rfl
end Go.Proofs.Yteehgcbjmdideab
/- 'Determine' of package determine,at one transducer: what it calls. -/
namespace Go.Proofs.Yteehgcbjmdideab
open Go.RowKit
attribute [local go_sem ↓] Go.wp_at_zero Go.wp_at_succ
section
variable (fin arcs : Value) (W : World) (hf : ISlice W fin sameF.final) (ha : ASlice W arcs sameF.arcs)
include hf ha
end
end Go.Proofs.Yteehgcbjmdideab
/- 'Determine' of package determine,at one transducer: the walk. -/
namespace Go.Proofs.Yteehgcbjmdideab
open Go.RowKit
attribute [local go_sem ↓] Go.wp_at_zero Go.wp_at_succ
theorem far4I {w : World} {X fb fo n : Nat} {xs : List Int} (h : IntsAt w fb fo n xs) (hne : fb ≠ X) (u0 u1 u2 u3 : Value) : IntsAt ((((w.setCell ⟨X,0,none⟩ u0).setCell ⟨X,1,none⟩ u1).setCell ⟨X,2,none⟩ u2).setCell ⟨X,3,none⟩ u3) fb fo n xs :=
 ⟨h.len,fun i hi => (far4 hne _ _ _ _).trans (h.cell i hi)⟩
theorem far4A {w : World} {X fb fo n : Nat} {xs : List ArcD} (h : ArcsAt w fb fo n xs) (hne : fb ≠ X) (u0 u1 u2 u3 : Value) : ArcsAt ((((w.setCell ⟨X,0,none⟩ u0).setCell ⟨X,1,none⟩ u1).setCell ⟨X,2,none⟩ u2).setCell ⟨X,3,none⟩ u3) fb fo n xs :=
 ⟨h.len,fun i hi => (far4 hne _ _ _ _).trans (h.c0 i hi),fun i hi => (far4 hne _ _ _ _).trans (h.c1 i hi),fun i hi => (far4 hne _ _ _ _).trans (h.c2 i hi),fun i hi => (far4 hne _ _ _ _).trans (h.c3 i hi),fun i hi => (far4 hne _ _ _ _).trans (h.c4 i hi)⟩
end Go.Proofs.Yteehgcbjmdideab
/- The law 'DetermineTells',from what determineBegun answers. (Made by wip/gen/dth.py.) -/
namespace Go.Proofs.Yteehgcbjmdideab
open Go.RowKit
attribute [local go_sem ↓] Go.wp_at_zero Go.wp_at_succ
end Go.Proofs.Yteehgcbjmdideab
