/- 'behind' of package oneway. (Made by wip/gen/owb.py.) -/
import Derived.Test.YteehgcbjmdideabVM13
import Derived.Test.YteehgcbjmdideabVM03
import Derived.DeepKeys4
import Derived.Deep.WholeRow
import Derived.Great.BuildSlice
set_option maxRecDepth 100000
namespace Go.Proofs.Yteehgcbjmdideab
open Go.RowKit
attribute [local go_sem ↓] Go.wp_at_zero Go.wp_at_succ
def stepB (at' : List Int) (j : Nat) (l : List Int) (a : ArcD) : List Int :=
 if a.inp = (j : Int) + 1 then (if betterB (plusC (gI at' a.src.toNat) a.wt) (gI l a.dst.toNat) then l.set a.dst.toNat (plusC (gI at' a.src.toNat) a.wt) else l) else l
def behL (at' : List Int) (N : Nat) (ars : List ArcD) (j : Nat) : List Int:=ars.foldl (stepB at' j) (List.replicate N (-1))
theorem behL_snoc (at' : List Int) (N : Nat) (ars : List ArcD) (a : ArcD) (j : Nat) : behL at' N (ars ++ [a]) j = stepB at' j (behL at' N ars j) a:=by
 unfold behL
 rw [List.foldl_append]
 rfl
theorem stepB_len (at' : List Int) (j : Nat) (l : List Int) (a : ArcD) : (stepB at' j l a).length = l.length:=by
 unfold stepB
 split
 ·split
  ·simp
  ·rfl
 ·rfl
theorem behL_len (at' : List Int) (N : Nat) (ars : List ArcD) (j : Nat) : (behL at' N ars j).length = N:=by
 unfold behL
 have : ∀ (l : List Int),(ars.foldl (stepB at' j) l).length = l.length:=by
  induction ars with
  | nil => intro l; rfl
  | cons a ars ih => intro l; rw [List.foldl_cons,ih,stepB_len]
 rw [this,List.length_replicate]
structure BHW (w wr : World) (N : Nat) (sta : Int) (fin arcs : Value) (L i : Nat) (G : Nat -> Nat) (R : Nat -> List Int) : Prop where
 rw : RW w wr N sta fin arcs
 tab : ValsAt wr L 9 (fun j => if j < i then .slice (some ⟨G j,0,none⟩) N N else .slice none 0 0)
 rows : ∀ j,j < i -> NumsAt wr (G j) N (R j)
 lo : ∀ j,j < i -> L < G j
 sep : ∀ j k,j < i -> k < i -> j ≠ k -> G j ≠ G k
 hL : w.heap.size < L
 res : wr.heap[w.heap.size + 1]? = some (.cells #[.slice none 0 0,.slice none 0 0,.slice none 0 0,.slice none 0 0,.slice none 0 0,.slice none 0 0,.slice none 0 0,.slice none 0 0,.slice none 0 0] 82 (0,0))
 hL2 : L = w.heap.size + 1 + 1
section
variable {w wr wx : World} {N : Nat} {sta : Int} {fin arcs : Value} {L i : Nat} {G : Nat -> Nat} {R : Nat -> List Int}
theorem BHW.below (h : BHW w wr N sta fin arcs L i G R) (hb : Below wr.heap.size wr wx) : BHW w wx N sta fin arcs L i G R :=
 ⟨h.rw.below hb,h.tab.below hb,fun j hj => (h.rows j hj).below hb,h.lo,h.sep,h.hL,heap_bel hb h.res,h.hL2⟩
theorem BHW.more (h : BHW w wr N sta fin arcs L i G R) (hi : i < 9) (hb : Below wr.heap.size wr wx) {g : Nat} {r : List Int} (hg : NumsAt wx g N r) (hge : wr.heap.size <= g) (hR : R i = r) :
  BHW w (wx.setCell ⟨L,i,none⟩ (.slice (some ⟨g,0,none⟩) N N)) N sta fin arcs L (i + 1) (fun j => if j = i then g else G j) R:=by
 have hx:=h.below hb
 have hLl:=h.tab.lt
 have hL2:=h.hL2
 refine ⟨hx.rw.set h.hL,(hx.tab.set i _ hi).cong fun j _ => ?_,fun j hj => ?_,fun j hj => ?_,fun j k hj hk hne => ?_,h.hL,?_,hL2⟩
 ·unfold updV
  by_cases e : j = i
  ·subst e
   rw [if_pos rfl,if_pos (by omega),if_pos rfl]
  ·rw [if_neg e,if_neg e]
   dsimp only
   by_cases h2 : j < i
   ·rw [if_pos h2,if_pos (by omega)]
   ·rw [if_neg h2,if_neg (by omega)]
 ·by_cases e : j = i
  ·subst e
   rw [if_pos rfl,hR]
   exact hg.other (by omega)
  ·rw [if_neg e]
   exact (hx.rows j (by omega)).other (by have:=h.lo j (by omega); omega)
 ·by_cases e : j = i
  ·rw [if_pos e]; omega
  ·rw [if_neg e]; exact h.lo j (by omega)
 ·by_cases e : j = i
  ·rw [if_pos e,if_neg (by omega)]
   have:=(h.rows k (by omega)).lt
   omega
  ·rw [if_neg e]
   by_cases e2 : k = i
   ·rw [if_pos e2]
    have:=(h.rows j (by omega)).lt
    omega
   ·rw [if_neg e2]
    exact h.sep j k (by omega) (by omega) hne
 ·exact heap_far hx.res (by omega)
theorem BHW.setRow (h : BHW w wr N sta fin arcs L i G R) {j t : Nat} {x : Int} (hj : j < i) (ht : t < N) :
  BHW w (wr.setCell ⟨G j,t,none⟩ (.int .i64 x)) N sta fin arcs L i G (fun k => if k = j then (R j).set t x else R k):=by
 have hlo:=h.lo j hj
 have hL:=h.hL
 have hL2:=h.hL2
 refine ⟨h.rw.set (by omega),h.tab.other (by omega),fun k hk => ?_,h.lo,h.sep,h.hL,heap_far h.res (by omega),hL2⟩
 by_cases e : k = j
 ·subst e
  rw [if_pos rfl]
  exact (h.rows k hk).set t x ht
 ·rw [if_neg e]
  exact (h.rows k hk).other (h.sep k j hk hj e)
theorem BHW.cong {R' : Nat -> List Int} (h : BHW w wr N sta fin arcs L i G R) (hR : ∀ j,j < i -> R j = R' j) : BHW w wr N sta fin arcs L i G R' :=
 ⟨h.rw,h.tab,fun j hj => by rw [<- hR j hj]; exact h.rows j hj,h.lo,h.sep,h.hL,h.res,h.hL2⟩
end
def BehRes (w : World) (N : Nat) (R : Nat -> List Int) (e : Ending) (w' : World) : Prop :=
 ∃ G : Nat -> Nat,e = .returned (.agg #[.slice (some ⟨G 0,0,none⟩) N N,.slice (some ⟨G 1,0,none⟩) N N,.slice (some ⟨G 2,0,none⟩) N N,.slice (some ⟨G 3,0,none⟩) N N,.slice (some ⟨G 4,0,none⟩) N N,.slice (some ⟨G 5,0,none⟩) N N,.slice (some ⟨G 6,0,none⟩) N N,.slice (some ⟨G 7,0,none⟩) N N,.slice (some ⟨G 8,0,none⟩) N N]) /\ (∀ j,j < 9 -> NumsAt w' (G j) N (R j) /\ w.heap.size <= G j) /\ Below w.heap.size w w'
set_option maxHeartbeats 3200000 in
theorem behind_any (f : FstD) (N : Nat) (at' : List Int) (fin arcs av : Value) (w : World) (kf : Fine f) (hN : f.states = (N : Int)) (hsil : silB f = false) (ha : ASlice w arcs f.arcs) (hav : ISlice w av at') (hl : at'.length = N) (hb : ∀ s,-1 <= gI at' s /\ gI at' s <= 300000000000) (fa : Option Addr) (fn fc : Nat) (hfin : fin = .slice fa fn fc) :
  Calls Try.prog 62 #[.agg #[.int .i64 (N : Int),.int .i64 f.start,fin,arcs],av] w fun e w' => BehRes w N (behL at' N f.arcs) e w':=by
 subst hfin
 obtain ⟨aa,m,ac,rfl,hal,_⟩:=ha.lenOf
 obtain ⟨va,vn,vc,rfl,hvl,_⟩:=hav.lenOf
 obtain rfl : N = vn:=by omega
 have hm3 : m <= 3000:=by have:=kf.many; omega
 have hN1 : 1 <= N:=by have:=kf.s1; omega
 have hN2 : N <= 200:=by have:=kf.s2; omega
 have HAR : Hid (∀ a ∈ f.arcs,∃ s t j : Nat,a.src = (s : Int) /\ a.dst = (t : Int) /\ s < N /\ t < N /\ a.inp = (j : Int) + 1 /\ j < 9 /\ 0 <= a.wt /\ a.wt <= 1000000000):=fun a hm => by
  have h1:=(kf.arcs a hm).src
  have h2:=(kf.arcs a hm).dst
  have h3:=(kf.arcs a hm).inp
  have h4:=(kf.arcs a hm).wt
  simp [inB] at h1 h2 h3 h4
  have h5 : ¬ a.inp = 0:=fun e => by
   have : silB f = true:=List.any_eq_true.2 ⟨a,hm,by simpa using e⟩
   rw [hsil] at this
   cases this
  exact ⟨a.src.toNat,a.dst.toNat,(a.inp - 1).toNat,by omega,by omega,by omega,by omega,by omega,by omega,by omega,by omega⟩
 have HR : Hid (∀ W,Below w.heap.size w W -> ASlice W (.slice aa m ac) f.arcs /\ ISlice W (.slice va N vc) at'):=fun W h => ⟨ha.below h,hav.below h⟩
 have HL : Hid (f.arcs.length = m /\ at'.length = N):=⟨hal,hvl⟩
 have HB : Hid (∀ s,-1 <= gI at' s /\ gI at' s <= 300000000000):=hb
 obtain ⟨A,hA⟩ : ∃ A,A = w.alloc (.cells #[.int .i64 (N : Int),.int .i64 f.start,.slice fa fn fc,.slice aa m ac] 25):=⟨_,rfl⟩
 have hRA : RW w A N f.start (.slice fa fn fc) (.slice aa m ac):=by rw [hA]; exact ⟨cellsF_new _ _ _ _ _ _,bel_up (bel_self w) _⟩
 have hAs : A.heap.size = w.heap.size + 1:=by rw [hA]; exact one_size w _
 obtain ⟨B,hB⟩ : ∃ W,W = A.alloc (.cells #[.slice none 0 0,.slice none 0 0,.slice none 0 0,.slice none 0 0,.slice none 0 0,.slice none 0 0,.slice none 0 0,.slice none 0 0,.slice none 0 0] 82):=⟨_,rfl⟩
 have hBs : B.heap.size = w.heap.size + 1 + 1:=by rw [hB,one_size,hAs]
 obtain ⟨W1,hW1⟩ : ∃ W,W = B.alloc (.cells #[.slice none 0 0,.slice none 0 0,.slice none 0 0,.slice none 0 0,.slice none 0 0,.slice none 0 0,.slice none 0 0,.slice none 0 0,.slice none 0 0] 82):=⟨_,rfl⟩
 obtain ⟨L,hL⟩ : ∃ g,g = w.heap.size + 1 + 1:=⟨_,rfl⟩
 have hBH : BHW w W1 N f.start (.slice fa fn fc) (.slice aa m ac) L 0 (fun _ => 0) (fun _ => List.replicate N (-1)):=by
  refine ⟨?_,?_,fun j hj => absurd hj (Nat.not_lt_zero _),fun j hj => absurd hj (Nat.not_lt_zero _),fun j k hj => absurd hj (Nat.not_lt_zero _),by omega,?_,hL⟩
  ·rw [hW1]; exact (hRA.below (by rw [hB]; exact bel_up (bel_self _) _)).below (bel_up (bel_self _) _)
  ·have h1 : W1.heap[L]? = some (.cells #[.slice none 0 0,.slice none 0 0,.slice none 0 0,.slice none 0 0,.slice none 0 0,.slice none 0 0,.slice none 0 0,.slice none 0 0,.slice none 0 0] 82 (0,0)):=by rw [hW1,hL,<- hBs]; exact heap_alloc_new B _
   refine ⟨fun j hj => ?_,fun j => Go.Joins.unfrozen_of_block h1 j,heap_lt h1⟩
   rw [Go.Joins.cell_of_block h1,if_neg (Nat.not_lt_zero _)]
   have hc : j = 0 \/ j = 1 \/ j = 2 \/ j = 3 \/ j = 4 \/ j = 5 \/ j = 6 \/ j = 7 \/ j = 8:=by omega
   rcases hc with rfl | rfl | rfl | rfl | rfl | rfl | rfl | rfl | rfl <;> rfl
  ·rw [hW1]
   refine heap_bel (bel_up (bel_self _) _) ?_
   rw [hB,<- hAs]
   exact heap_alloc_new A _
 have HW1 : Hid (W1 = ((w.alloc (.cells #[.int .i64 (N : Int),.int .i64 f.start,.slice fa fn fc,.slice aa m ac] 25)).alloc (.cells #[.slice none 0 0,.slice none 0 0,.slice none 0 0,.slice none 0 0,.slice none 0 0,.slice none 0 0,.slice none 0 0,.slice none 0 0,.slice none 0 0] 82)).alloc (.cells #[.slice none 0 0,.slice none 0 0,.slice none 0 0,.slice none 0 0,.slice none 0 0,.slice none 0 0,.slice none 0 0,.slice none 0 0,.slice none 0 0] 82)):=by rw [<- hA,<- hB]; exact hW1
 have HLL : Hid (L = w.heap.size + 1 + 1):=hL
 clear hA hB hW1 hRA hAs hBs ha hav hal hvl hl hb kf hN hsil hL
 go_enter Try.func62,Try.ntmps62
 go_wp2
 rw [<- HW1.out,<- HLL.out]
 clear HW1
 go_loopw [6,11] (fun _ t11 wx => ∃ (i : Nat) (G : Nat -> Nat),i <= 9 /\ t11 = .int .i64 (i : Int) /\ BHW w wx N f.start (.slice fa fn fc) (.slice aa m ac) L i G (fun _ => List.replicate N (-1))) (fun _ t11 _ => 9 - (intOf t11).toNat)
 case atStart => exact ⟨0,_,Nat.zero_le _,rfl,hBH⟩
 case round =>
  clear hBH
  obtain ⟨i,G,hi,rfl,hBH⟩:=hrel
  have hiw : IntKind.i64.wrap ((i : Int) + 1) = (i : Int) + 1:=wrap_in _ (by omega) (by omega)
  by_cases hlt : i < 9
  ·have hii : (i : Int) < 9:=by omega
   obtain ⟨ob,hob⟩ : ∃ o : Obj,o = .cells #[.int .i64 (-1)] 3:=⟨_,rfl⟩
   have hbA:=bel_up (bel_self wr) ob
   have hm1 : (wr.alloc ob).cell? ⟨wr.heap.size,0,none⟩ = some (.int .i64 (-1)):=by rw [hob]; exact new_cell _ _ _ _ _ _ rfl rfl
   have hrep:=repeat_any (-1) wr.heap.size 0 1 N _ hm1 hN1 hN2
   rw [one_size] at hrep
   obtain ⟨q0,q1,q2,q3⟩:=(hBH.rw.below hbA).cf
   rw [hob] at hbA hrep q0 q1 q2 q3
   clear hm1 hob
   go_wp2_with (go_at_call 91; refine hrep.mono ?_; rintro e w2 ⟨rfl,hG0,hb2⟩; have hbb:=bel_on hbA (by rw [one_size]; exact hb2); have HNX : Hid (BHW w (w2.setCell ⟨L,i,none⟩ (.slice (some ⟨wr.heap.size + 1,0,none⟩) N N)) N f.start (.slice fa fn fc) (.slice aa m ac) L (i + 1) (fun j => if j = i then wr.heap.size + 1 else G j) (fun _ => List.replicate N (-1))):=hBH.more hlt hbb (by rw [rowR_intsW] at hG0; have h9:=NumsAt.of_block hG0; rw [List.length_replicate] at h9; exact h9) (by omega) rfl; have z0:=(hBH.tab.below hbb).cell i hlt; have z1:=(hBH.tab.below hbb).frz i; rw [if_neg (Nat.lt_irrefl _)] at z0; clear hG0 hb2)
   go_roundw
   case rel => exact ⟨i + 1,_,by omega,by go_num,HNX.out⟩
   case measure => simp [intOf]; omega
  ·obtain rfl : i = 9:=by omega
   have hBK : ∃ G,BHW w wr N f.start (.slice fa fn fc) (.slice aa m ac) L 9 G (behL at' N (f.arcs.take 0)):=⟨G,hBH.cong fun j _ => by simp [behL]⟩
   obtain ⟨G,hBH⟩:=hBK
   obtain ⟨q0,q1,q2,q3⟩:=hBH.rw.cf
   go_wp2
   clear q0 q1 q2 q3
   go_loopw [8,9,10,24] (fun _ _ _ t24 wx => ∃ k : Nat,k <= m /\ t24 = .int .i64 (k : Int) /\ BHW w wx N f.start (.slice fa fn fc) (.slice aa m ac) L 9 G (behL at' N (f.arcs.take k))) (fun _ _ _ t24 _ => m - (intOf t24).toNat)
   case atStart => exact ⟨0,Nat.zero_le _,rfl,hBH⟩
   case round =>
    clear hBH
    obtain ⟨k,hk,rfl,hBH⟩:=hrel
    have hkw : IntKind.i64.wrap ((k : Int) + 1) = (k : Int) + 1:=wrap_in _ (by omega) (by omega)
    by_cases hlk : k < m
    ·have hki : (k : Int) < m:=by omega
     obtain ⟨ab,ao,rfl,hxa⟩:=(HR.out wr hBH.rw.bel).1.some (by omega)
     obtain ⟨vb,vo,rfl,hxv⟩:=(HR.out wr hBH.rw.bel).2.some (by omega)
     obtain ⟨a,hak⟩ : ∃ d,f.arcs[k]? = some d:=⟨_,List.getElem?_eq_getElem (by have:=HL.out.1; omega)⟩
     have hgd : f.arcs.getD k a0 = a:=by simp [List.getD,hak]
     obtain ⟨s,t,j,hs,ht,hsn,htn,hj,hj9,hw0,hw1⟩:=HAR.out a (List.mem_of_getElem? hak)
     have c0:=hxa.c0 k hlk
     have c1:=hxa.c1 k hlk
     have c2:=hxa.c2 k hlk
     have c3:=hxa.c3 k hlk
     have c4:=hxa.c4 k hlk
     rw [hgd] at c0 c1 c2 c3 c4
     rw [hs] at c0
     rw [ht] at c3
     rw [hj] at c1
     obtain ⟨ob,hob⟩ : ∃ o : Obj,o = .cells #[.int .i64 (s : Int),.int .i64 ((j : Int) + 1),.int .i64 a.out,.int .i64 (t : Int),.int .i64 a.wt] 54:=⟨_,rfl⟩
     obtain ⟨WA,hWA⟩ : ∃ W,W = wr.alloc ob:=⟨_,rfl⟩
     obtain ⟨D,hD⟩ : ∃ D,D = wr.heap.size:=⟨_,rfl⟩
     have hbA : Below wr.heap.size wr WA:=by rw [hWA]; exact bel_up (bel_self wr) ob
     have hBA:=hBH.below hbA
     have hDb : WA.heap[D]? = some (.cells #[.int .i64 (s : Int),.int .i64 ((j : Int) + 1),.int .i64 a.out,.int .i64 (t : Int),.int .i64 a.wt] 54 (0,0)):=by rw [hWA,hD,hob]; exact heap_alloc_new wr _
     obtain ⟨x,hx⟩ : ∃ x,x = gI at' s:=⟨_,rfl⟩
     have d0:=bel_c hbA (hxv.cell s (by omega))
     rw [gI_getD (by have:=HL.out.2; omega),<- hx] at d0
     have hxb:=HB.out s
     rw [<- hx] at hxb
     obtain ⟨wt,hwt⟩ : ∃ x,a.wt = x:=⟨_,rfl⟩
     rw [hwt] at hw0 hw1 hDb c4
     obtain ⟨z,hz⟩ : ∃ z,z = plusC x wt:=⟨_,rfl⟩
     have hsm : ∀ W,Calls Try.prog 92 #[.int .i64 x,.int .i64 wt] W fun e w' => e = .returned (.int .i64 z) /\ w' = W:=fun W => by rw [hz]; exact sum_any x wt W (by omega) (by omega) (by omega) (by omega)
     obtain ⟨y,hy⟩ : ∃ y,y = gI (behL at' N (f.arcs.take k) j) t:=⟨_,rfl⟩
     have n0:=(hBA.rows j hj9).cell t htn
     rw [<- hy] at n0
     have n1:=(hBA.rows j hj9).frz t
     have t0:=hBA.tab.cell j hj9
     rw [if_pos hj9] at t0
     obtain ⟨Gj,hGj⟩ : ∃ g,g = G j:=⟨_,rfl⟩
     rw [<- hGj] at n0 n1 t0
     have hle : ∀ W,Calls Try.prog 69 #[.int .i64 z,.int .i64 y] W fun e w' => e = .returned (.bool (betterB z y)) /\ w' = W:=fun W => lessP_any z y W
     have HST : Hid (∀ i,i < 9 -> behL at' N (f.arcs.take (k + 1)) i = if i = j then (if betterB z y then (behL at' N (f.arcs.take k) j).set t z else behL at' N (f.arcs.take k) j) else behL at' N (f.arcs.take k) i):=fun i hi => by
      rw [List.take_add_one,hak,Option.toList_some,behL_snoc]
      unfold stepB
      rw [hj,hs,ht,Int.toNat_natCast,Int.toNat_natCast,<- hx,hwt,<- hz]
      by_cases e : i = j
      ·subst e
       rw [if_pos rfl,if_pos rfl,<- hy]
      ·rw [if_neg (by omega),if_neg e]
     obtain ⟨q,hq⟩ : ∃ q,q = betterB z y:=⟨_,rfl⟩
     rw [<- hq] at hle HST
     have e1 : IntKind.i64.wrap ((j : Int) + 1 - 1) = (j : Int):=by rw [wrap_in _ (by omega) (by omega)]; omega
     have e2 : IntKind.i64.wrap (j : Int) = (j : Int):=wrap_in _ (by omega) (by omega)
     have hj9i : (j : Int) < 9:=by omega
     have hsi : (s : Int) < N:=by omega
     have hti : (t : Int) < N:=by omega
     have b0:=Go.Joins.cell_of_block hDb (i:=0)
     have b1:=Go.Joins.cell_of_block hDb (i:=1)
     have b3:=Go.Joins.cell_of_block hDb (i:=3)
     have b4:=Go.Joins.cell_of_block hDb (i:=4)
     simp only [List.getElem?_toArray,List.getElem?_cons_zero,List.getElem?_cons_succ] at b0 b1 b3 b4
     have HBA : Hid (BHW w WA N f.start (.slice fa fn fc) (.slice (some ⟨ab,ao,none⟩) m ac) L 9 G (behL at' N (f.arcs.take k))):=hBA
     have HWA : Hid (WA = wr.alloc (.cells #[.int .i64 (s : Int),.int .i64 ((j : Int) + 1),.int .i64 a.out,.int .i64 (t : Int),.int .i64 wt] 54) /\ D = wr.heap.size):=⟨by rw [hWA,hob,hwt],hD⟩
     have HG : Hid (Gj = G j /\ j < 9 /\ t < N):=⟨hGj,hj9,htn⟩
     have b1':=b1
     have t0':=t0
     rw [HWA.out.1,HWA.out.2] at b1'
     rw [HWA.out.1] at t0'
     rw [hwt] at hob
     clear hWA hD hob hbA hBA hBH hDb hx hz hy hq hGj hgd hs ht hj hak hxa hxv hwt n1
     have n1:=(HBA.out.rows j hj9).frz t
     rw [<- HG.out.1] at n1
     go_wp2
     rw [<- HWA.out.1,<- HWA.out.2]
     clear b1' t0' c0 c1 c2 c3 c4
     go_quiet (first | (go_at_call 92; refine Calls.quiet_of_same (hsm _)))
     cases q
     ·go_wp2_with (go_at_call 69; refine (hle _).mono ?_; rintro e w2 ⟨rfl,hw2⟩; obtain rfl:=hw2.symm)
      go_roundw
      case rel =>
       refine ⟨_,_,_,_,_,_,_,_,_,_,_,_,_,_,_,_,_,_,_,_,_,_,_,_,_,_,_,_,_,_,_,_,_,?_,rfl⟩
       refine ⟨k + 1,by omega,by go_num,(HBA.out.below (bel_drewN (bel_self _) _)).cong fun i hi => ?_⟩
       rw [HST.out i hi]
       by_cases e : i = j
       ·rw [if_pos e,e]; rfl
       ·rw [if_neg e]
      case measure => simp [intOf]; omega
     ·go_wp2_with (go_at_call 69; refine (hle _).mono ?_; rintro e w2 ⟨rfl,hw2⟩; obtain rfl:=hw2.symm)
      go_roundw
      case rel =>
       refine ⟨_,_,_,_,_,_,_,_,_,_,_,_,_,_,_,_,_,_,_,_,_,_,_,_,_,_,_,_,_,_,_,_,_,?_,rfl⟩
       have h1:=(HBA.out.below (bel_drewN (bel_self WA) nq)).setRow (t:=t) (x:=z) HG.out.2.1 HG.out.2.2
       rw [<- HG.out.1] at h1
       refine ⟨k + 1,by omega,by go_num,h1.cong fun i hi => ?_⟩
       rw [HST.out i hi]
       by_cases e : i = j
       ·rw [if_pos e,if_pos e]; rfl
       ·rw [if_neg e,if_neg e]
      case measure => simp [intOf]; omega
    ·obtain rfl : m = k:=by omega
     have hkl : ¬ (m : Int) < m:=by omega
     have HT : Hid (f.arcs.take m = f.arcs):=List.take_of_length_le (by have:=HL.out.1; omega)
     have c0:=hBH.tab.cell 0 (by decide)
     rw [if_pos (by decide)] at c0
     have c1:=hBH.tab.cell 1 (by decide)
     rw [if_pos (by decide)] at c1
     have c2:=hBH.tab.cell 2 (by decide)
     rw [if_pos (by decide)] at c2
     have c3:=hBH.tab.cell 3 (by decide)
     rw [if_pos (by decide)] at c3
     have c4:=hBH.tab.cell 4 (by decide)
     rw [if_pos (by decide)] at c4
     have c5:=hBH.tab.cell 5 (by decide)
     rw [if_pos (by decide)] at c5
     have c6:=hBH.tab.cell 6 (by decide)
     rw [if_pos (by decide)] at c6
     have c7:=hBH.tab.cell 7 (by decide)
     rw [if_pos (by decide)] at c7
     have c8:=hBH.tab.cell 8 (by decide)
     rw [if_pos (by decide)] at c8
     have r0 : wr.cell? ⟨w.heap.size + 1,0,none⟩ = some (.slice none 0 0):=by rw [Go.Joins.cell_of_block hBH.res]; rfl
     have z0:=Go.Joins.unfrozen_of_block hBH.res 0
     have r1 : wr.cell? ⟨w.heap.size + 1,1,none⟩ = some (.slice none 0 0):=by rw [Go.Joins.cell_of_block hBH.res]; rfl
     have z1:=Go.Joins.unfrozen_of_block hBH.res 1
     have r2 : wr.cell? ⟨w.heap.size + 1,2,none⟩ = some (.slice none 0 0):=by rw [Go.Joins.cell_of_block hBH.res]; rfl
     have z2:=Go.Joins.unfrozen_of_block hBH.res 2
     have r3 : wr.cell? ⟨w.heap.size + 1,3,none⟩ = some (.slice none 0 0):=by rw [Go.Joins.cell_of_block hBH.res]; rfl
     have z3:=Go.Joins.unfrozen_of_block hBH.res 3
     have r4 : wr.cell? ⟨w.heap.size + 1,4,none⟩ = some (.slice none 0 0):=by rw [Go.Joins.cell_of_block hBH.res]; rfl
     have z4:=Go.Joins.unfrozen_of_block hBH.res 4
     have r5 : wr.cell? ⟨w.heap.size + 1,5,none⟩ = some (.slice none 0 0):=by rw [Go.Joins.cell_of_block hBH.res]; rfl
     have z5:=Go.Joins.unfrozen_of_block hBH.res 5
     have r6 : wr.cell? ⟨w.heap.size + 1,6,none⟩ = some (.slice none 0 0):=by rw [Go.Joins.cell_of_block hBH.res]; rfl
     have z6:=Go.Joins.unfrozen_of_block hBH.res 6
     have r7 : wr.cell? ⟨w.heap.size + 1,7,none⟩ = some (.slice none 0 0):=by rw [Go.Joins.cell_of_block hBH.res]; rfl
     have z7:=Go.Joins.unfrozen_of_block hBH.res 7
     have r8 : wr.cell? ⟨w.heap.size + 1,8,none⟩ = some (.slice none 0 0):=by rw [Go.Joins.cell_of_block hBH.res]; rfl
     have z8:=Go.Joins.unfrozen_of_block hBH.res 8
     obtain ⟨g0,hg0⟩ : ∃ g,g = G 0:=⟨_,rfl⟩
     rw [<- hg0] at c0
     obtain ⟨g1,hg1⟩ : ∃ g,g = G 1:=⟨_,rfl⟩
     rw [<- hg1] at c1
     obtain ⟨g2,hg2⟩ : ∃ g,g = G 2:=⟨_,rfl⟩
     rw [<- hg2] at c2
     obtain ⟨g3,hg3⟩ : ∃ g,g = G 3:=⟨_,rfl⟩
     rw [<- hg3] at c3
     obtain ⟨g4,hg4⟩ : ∃ g,g = G 4:=⟨_,rfl⟩
     rw [<- hg4] at c4
     obtain ⟨g5,hg5⟩ : ∃ g,g = G 5:=⟨_,rfl⟩
     rw [<- hg5] at c5
     obtain ⟨g6,hg6⟩ : ∃ g,g = G 6:=⟨_,rfl⟩
     rw [<- hg6] at c6
     obtain ⟨g7,hg7⟩ : ∃ g,g = G 7:=⟨_,rfl⟩
     rw [<- hg7] at c7
     obtain ⟨g8,hg8⟩ : ∃ g,g = G 8:=⟨_,rfl⟩
     rw [<- hg8] at c8
     have HBF : Hid (BHW w wr N f.start (.slice fa fn fc) (.slice aa m ac) L 9 G (behL at' N (f.arcs.take m)) /\ g0 = G 0 /\ g1 = G 1 /\ g2 = G 2 /\ g3 = G 3 /\ g4 = G 4 /\ g5 = G 5 /\ g6 = G 6 /\ g7 = G 7 /\ g8 = G 8):=⟨hBH,hg0,hg1,hg2,hg3,hg4,hg5,hg6,hg7,hg8⟩
     clear hBH hg0 hg1 hg2 hg3 hg4 hg5 hg6 hg7 hg8
     go_wp2
     obtain ⟨hBH,rfl,rfl,rfl,rfl,rfl,rfl,rfl,rfl,rfl⟩:=HBF.out
     exact bodyPost_ret (v:=.agg #[.slice (some ⟨G 0,0,none⟩) N N,.slice (some ⟨G 1,0,none⟩) N N,.slice (some ⟨G 2,0,none⟩) N N,.slice (some ⟨G 3,0,none⟩) N N,.slice (some ⟨G 4,0,none⟩) N N,.slice (some ⟨G 5,0,none⟩) N N,.slice (some ⟨G 6,0,none⟩) N N,.slice (some ⟨G 7,0,none⟩) N N,.slice (some ⟨G 8,0,none⟩) N N]) (by simp [results,Try.results62,go_sem, *]) rfl ⟨G,rfl,fun j hj => by
      have hne : G j ≠ w.heap.size + 1:=by have:=hBH.lo j hj; have:=hBH.hL2; omega
      refine ⟨?_,by have:=hBH.lo j hj; have:=hBH.hL2; omega⟩
      have e : behL at' N f.arcs j = behL at' N (f.arcs.take m) j:=by rw [HT.out]
      rw [e]
      exact ((((((((((hBH.rows j hj).other (k:=w.heap.size + 1) hne).other (k:=w.heap.size + 1) hne).other (k:=w.heap.size + 1) hne).other (k:=w.heap.size + 1) hne).other (k:=w.heap.size + 1) hne).other (k:=w.heap.size + 1) hne).other (k:=w.heap.size + 1) hne).other (k:=w.heap.size + 1) hne).other (k:=w.heap.size + 1) hne),(((((((((hBH.rw.bel.setCell (p:=⟨w.heap.size + 1,0,none⟩) (Nat.le_succ _) _).setCell (p:=⟨w.heap.size + 1,1,none⟩) (Nat.le_succ _) _).setCell (p:=⟨w.heap.size + 1,2,none⟩) (Nat.le_succ _) _).setCell (p:=⟨w.heap.size + 1,3,none⟩) (Nat.le_succ _) _).setCell (p:=⟨w.heap.size + 1,4,none⟩) (Nat.le_succ _) _).setCell (p:=⟨w.heap.size + 1,5,none⟩) (Nat.le_succ _) _).setCell (p:=⟨w.heap.size + 1,6,none⟩) (Nat.le_succ _) _).setCell (p:=⟨w.heap.size + 1,7,none⟩) (Nat.le_succ _) _).setCell (p:=⟨w.heap.size + 1,8,none⟩) (Nat.le_succ _) _)⟩
end Go.Proofs.Yteehgcbjmdideab
/- The map of subsets: its keys are arrays. -/
namespace Go.Proofs.Yteehgcbjmdideab
open Go.RowKit Go.ChangeMaps
def subV (l : List Int) : Value:=.agg (intsW l).toArray
theorem subV_inj {l l' : List Int} (h : subV l = subV l') : l = l':=by
 unfold subV at h
 injection h with h
 have h2 : intsW l = intsW l':=by
  have:=congrArg Array.toList h
  simpa using this
 unfold intsW at h2
 exact List.map_inj_right (fun a b e => by injection e) |>.1 h2
def SubOk (l : List Int) : Prop:=l.length = 200 /\ ∀ x ∈ l,-1 <= x /\ x <= 1000000000000
theorem und_spots : Try.prog.underlying 80 = some (.array 200 3):=by kernel_rfl
theorem cells_spots : Try.prog.cellsOf 80 = 200:=by kernel_rfl
theorem law_spots : WideMaps.KeyLaw Try.prog 80 :=
 deep_law_laid (m:=5) (by kernel_rfl) (by decide) (of_decide_eq_true (by kernel_rfl)) (by kernel_rfl) (by rw [und_spots])
theorem mapM_some {α β : Type} (g : α -> Option β) : ∀ l : List α,(∀ x ∈ l,∃ y,g x = some y) -> ∃ ys,l.mapM g = some ys
 | [],_ => ⟨[],rfl⟩
 | a :: l,h => by
  obtain ⟨y,hy⟩:=h a List.mem_cons_self
  obtain ⟨ys,hys⟩:=mapM_some g l (fun x hx => h x (List.mem_cons_of_mem _ hx))
  exact ⟨y :: ys,by simp [List.mapM_cons,hy,hys]⟩
theorem key_spots {l : List Int} (h : SubOk l) : ∃ k,keyOf Try.prog 80 (subV l) = some k:=by
 have hk : Try.prog.keyType 80 = true:=by kernel_rfl
 have hfm : (subV l).formed Try.prog 80 = true:=by
  unfold subV Value.formed
  simp only [und_spots,cells_spots]
  simp [intsW,h.1]
 have hlit : ∃ ls,Try.prog.keyLits (Try.prog.types.size + 1) 80 (subV l).cells.toList = some ls:=by
  obtain ⟨d,hd⟩ : ∃ d,Try.prog.types.size = d + 1:=⟨Try.prog.types.size - 1,by
   have : 0 < Try.prog.types.size:=of_decide_eq_true (by kernel_rfl)
   omega⟩
  rw [hd]
  unfold Program.keyLits
  simp only [und_spots,cells_spots]
  have hc : (subV l).cells.toList = intsW l:=by simp [subV,Value.cells]
  rw [hc,if_pos (by simp [intsW,h.1])]
  have hm:=mapM_some (fun i => Try.prog.keyLits (d + 1) 3 (((intsW l).drop (i * Try.prog.cellsOf 3)).take (Try.prog.cellsOf 3))) (List.range 200) (fun i hi => by
   have hi2 : i < l.length:=by rw [h.1]; exact List.mem_range.1 hi
   have hce : Try.prog.cellsOf 3 = 1:=by kernel_rfl
   have hx:=h.2 l[i] (List.getElem_mem hi2)
   have e : ((intsW l).drop (i * 1)).take 1 = [.int .i64 l[i]]:=by
    rw [Nat.mul_one,List.drop_eq_getElem_cons (by simpa [intsW] using hi2)]
    simp [intsW]
   refine ⟨[.int .i64 l[i]],?_⟩
   rw [hce,e]
   unfold Program.keyLits
   simp only [Try.underlying3]
   rw [if_pos]
   refine ⟨trivial,?_⟩
   have:=wf_wrap .i64 l[i]
   rw [wrap_in _ (by omega) (by omega)] at this
   exact this)
  obtain ⟨ys,hys⟩:=hm
  exact ⟨ys.flatten,by rw [hys]; rfl⟩
 obtain ⟨ls,hls⟩:=hlit
 refine ⟨.string (keyBytes ls),?_⟩
 unfold keyOf
 simp only [und_spots]
 rw [hk,hfm,hls]
 rfl
def SubEs (es : List MapEntry) (ms : List (List Int)) : Prop:=es.map (fun e => (e.key,e.val)) = ms.zipIdx.map fun p => (subV p.1,.int .i64 (p.2 : Int))
def SubAt (w : World) (b : Nat) (ms : List (List Int)) : Prop:=∃ es clock,w.heap[b]? = some (.map es clock) /\ SubEs es.toList ms
theorem SubAt.lt {w : World} {b : Nat} {ms : List (List Int)} (h : SubAt w b ms) : b < w.heap.size:=by
 obtain ⟨es,clock,hb,_⟩:=h
 exact heap_lt hb
theorem SubAt.block {w w' : World} {b : Nat} {ms : List (List Int)} (h : SubAt w b ms) (hb : w'.heap[b]? = w.heap[b]?) : SubAt w' b ms:=by
 obtain ⟨es,clock,h1,h2⟩:=h
 exact ⟨es,clock,hb.trans h1,h2⟩
theorem subEs_at {es : List MapEntry} {ms : List (List Int)} (h : SubEs es ms) {j : Nat} {e : MapEntry} (he : es[j]? = some e) : ∃ l,ms[j]? = some l /\ e.key = subV l /\ e.val = .int .i64 (j : Int):=by
 have h1:=congrArg (fun l => l[j]?) h
 simp only [List.getElem?_map,he,Option.map_some,List.getElem?_zipIdx] at h1
 rcases hm : ms[j]? with _ | l
 ·rw [hm] at h1; cases h1
 ·rw [hm] at h1
  simp only [Option.map_some] at h1
  injection h1 with h1
  have h2 : e.key = subV l /\ e.val = .int .i64 ((0 + j : Nat) : Int):=by simpa using h1
  exact ⟨l,rfl,h2.1,by rw [h2.2,Nat.zero_add]⟩
theorem sub_find {w : World} {es : List MapEntry} {ms : List (List Int)} (h : SubEs es ms) (hok : ∀ l ∈ ms,SubOk l) {l : List Int} (hl : SubOk l) :
  ((Instr.findKey 80 (subV l) es).run Try.prog w = .ok none w /\ l ∉ ms) \/ ∃ j,(Instr.findKey 80 (subV l) es).run Try.prog w = .ok (some (j,.int .i64 (j : Int))) w /\ ms[j]? = some l:=by
 obtain ⟨k,hk⟩:=key_spots hl
 have hkeys : ∀ e ∈ es,∃ l,keyOf Try.prog 80 e.key = some l:=fun e he => by
  obtain ⟨j,hj⟩:=List.mem_iff_getElem?.1 he
  obtain ⟨l',h1,h2,_⟩:=subEs_at h hj
  rw [h2]
  exact key_spots (hok l' (List.mem_of_getElem? h1))
 rcases law_spots.find w hk es hkeys with ⟨h1,h2⟩ | ⟨j,e,h1,h2,h3⟩
 ·left
  refine ⟨h1,fun hm => ?_⟩
  obtain ⟨j,hj⟩:=List.mem_iff_getElem?.1 hm
  have hlen : es.length = ms.length:=by
   have:=congrArg List.length h
   simpa using this
  have hlt : j < es.length:=by rw [hlen]; exact (List.getElem?_eq_some_iff.1 hj).1
  obtain ⟨l',h4,h5,_⟩:=subEs_at h (List.getElem?_eq_getElem hlt)
  rw [hj] at h4
  injection h4 with h4
  subst h4
  exact h2 _ (List.getElem_mem hlt) h5
 ·right
  obtain ⟨l',h4,h5,h6⟩:=subEs_at h h2
  rw [h3] at h5
  obtain rfl:=subV_inj h5
  exact ⟨j,by rw [h1,h6],h4⟩
theorem sub_check {l : List Int} (hl : SubOk l) (em : Bool) (w : World) : (Instr.checkKey em 10000 80 (subV l)).run Try.prog w = .ok () w:=by
 obtain ⟨k,hk⟩:=key_spots hl
 exact law_spots.check w em hk
theorem und_map : Try.prog.underlying 72 = some (.map 80 3):=by kernel_rfl
theorem sub_look {w : World} {b : Nat} {ms : List (List Int)} (h : SubAt w b ms) (hok : ∀ l ∈ ms,SubOk l) {l : List Int} (hl : SubOk l) :
  (l ∉ ms /\ (Instr.lookup 72 (.map (some b)) (subV l) true).run Try.prog w = .ok (.tuple #[.int .i64 0,.bool false]) w) \/
  ∃ j : Nat,ms[j]? = some l /\ (Instr.lookup 72 (.map (some b)) (subV l) true).run Try.prog w = .ok (.tuple #[.int .i64 (j : Int),.bool true]) w /\ (Instr.lookup 72 (.map (some b)) (subV l) false).run Try.prog w = .ok (.int .i64 (j : Int)) w:=by
 obtain ⟨es,clock,hb,hes⟩:=h
 rcases sub_find (w:=w) hes hok hl with ⟨r1,r2⟩ | ⟨j,r1,r2⟩
 ·left
  refine ⟨r2,?_⟩
  simp [Instr.lookup,run_underlying und_map,MapKept.run_getObj_map hb,sub_check hl,r1,Result.andThen]
 ·right
  refine ⟨j,r2,?_,?_⟩
  ·simp [Instr.lookup,run_underlying und_map,MapKept.run_getObj_map hb,sub_check hl,r1,Result.andThen]
  ·simp [Instr.lookup,run_underlying und_map,MapKept.run_getObj_map hb,sub_check hl,r1,Result.andThen]
theorem sub_put {w : World} {b : Nat} {ms : List (List Int)} (h : SubAt w b ms) (hok : ∀ l ∈ ms,SubOk l) {l : List Int} (hl : SubOk l) (hn : l ∉ ms) :
  ∃ w',(Instr.mapUpdate 72 (.map (some b)) (subV l) (.int .i64 (ms.length : Int))).run Try.prog w = .ok () w' /\ SubAt w' b (ms ++ [l]) /\ w.grownBy w' (some b):=by
 obtain ⟨es,clock,hb,hes⟩:=h
 rcases sub_find (w:=w) hes hok hl with ⟨r1,r2⟩ | ⟨j,r1,r2⟩
 ·refine ⟨setBlock w b (.map (es.push ⟨subV l,.int .i64 (ms.length : Int),clock⟩) (clock + 1)),?_,?_,?_⟩
  ·simp [Instr.mapUpdate,run_underlying und_map,MapKept.run_getObj_map hb,sub_check hl,r1,MapKept.run_setObj_map _ hb,Result.andThen,setBlock]
  ·refine ⟨_,_,heap_setBlock_same hb _,?_⟩
   unfold SubEs at hes ⊢
   rw [List.zipIdx_append,List.map_append,<- hes]
   simp
  ·exact ⟨rfl,rfl,rfl,by simp [setBlock],fun k _ hne => heap_setBlock_other hb _ (fun e => hne (by rw [e]))⟩
 ·exact absurd (List.mem_of_getElem? r2) hn
end Go.Proofs.Yteehgcbjmdideab
/- 'meet' of the subsets. (Made by wip/gen/owd.py.) -/
namespace Go.Proofs.Yteehgcbjmdideab
open Go.RowKit
attribute [local go_sem ↓] Go.wp_at_zero Go.wp_at_succ
def padL (c : List Int) : List Int:=(List.range 200).map fun s => if gI c s = -1 then -1 else gI c s - cheapD c
theorem padL_len (c : List Int) : (padL c).length = 200:=by simp [padL]
theorem padL_at (c : List Int) {s : Nat} (hs : s < 200) : gI (padL c) s = if gI c s = -1 then -1 else gI c s - cheapD c:=by
 conv => lhs; unfold gI
 simp [padL,List.getD,hs]
def PrOk (c : List Int) : Prop:=∀ x ∈ c,x = -1 \/ (0 <= x /\ x <= 302000000000)
theorem snoc_ind {P : List Int -> Prop} (h0 : P []) (h1 : ∀ l a,P l -> P (l ++ [a])) (l : List Int) : P l:=by
 rw [<- List.reverse_reverse l]
 induction l.reverse with
 | nil => exact h0
 | cons a t ih => rw [List.reverse_cons]; exact h1 _ _ ih
theorem cheapD_what : ∀ c : List Int,PrOk c -> (cheapD c = -1 /\ ∀ x ∈ c,x = -1) \/ (0 <= cheapD c /\ cheapD c ∈ c /\ ∀ x ∈ c,x = -1 \/ cheapD c <= x):=by
 refine snoc_ind ?_ ?_
 ·intro _
  exact Or.inl ⟨rfl,fun x hx => by cases hx⟩
 ·intro l a ih h
  have hl:=ih (fun x hx => h x (List.mem_append_left _ hx))
  have ha:=h a (List.mem_append_right _ (by simp))
  rw [cheapD_snoc]
  unfold betterB
  rcases hl with ⟨e1,e2⟩ | ⟨e1,e2,e3⟩
  ·rw [e1]
   rcases ha with ha | ha
   ·left
    subst ha
    refine ⟨rfl,fun x hx => ?_⟩
    rcases List.mem_append.1 hx with hx | hx
    ·exact e2 x hx
    ·simpa using hx
   ·right
    have hb : ((a != -1) && (((-1 : Int) == -1) || decide (a < -1))) = true:=by
     have : ¬ a = -1:=by omega
     simp [this]
    rw [if_pos hb]
    refine ⟨ha.1,List.mem_append_right _ (by simp),fun x hx => ?_⟩
    rcases List.mem_append.1 hx with hx | hx
    ·exact Or.inl (e2 x hx)
    ·right
     have : x = a:=by simpa using hx
     omega
  ·right
   by_cases hb : ((a != -1) && ((cheapD l == -1) || decide (a < cheapD l))) = true
   ·rw [if_pos hb]
    have hb2 : ¬ a = -1 /\ (cheapD l = -1 \/ a < cheapD l):=by simpa using hb
    refine ⟨by omega,List.mem_append_right _ (by simp),fun x hx => ?_⟩
    rcases List.mem_append.1 hx with hx | hx
    ·rcases e3 x hx with h1 | h1
     ·exact Or.inl h1
     ·right; omega
    ·right
     have : x = a:=by simpa using hx
     omega
   ·rw [if_neg hb]
    have hb2 : ¬ (¬ a = -1 /\ (cheapD l = -1 \/ a < cheapD l)):=by simpa using hb
    refine ⟨e1,List.mem_append_left _ e2,fun x hx => ?_⟩
    rcases List.mem_append.1 hx with hx | hx
    ·exact e3 x hx
    ·have : x = a:=by simpa using hx
     omega
theorem padL_ok {c : List Int} (h : PrOk c) (hc : cheapD c ≠ -1) : SubOk (padL c):=by
 refine ⟨padL_len c,fun x hx => ?_⟩
 rcases cheapD_what c h with ⟨e,_⟩ | ⟨e1,_,e3⟩
 ·exact absurd e hc
 ·unfold padL at hx
  obtain ⟨s,_,rfl⟩:=List.mem_map.1 hx
  split
  ·omega
  ·rename_i hn
   have hm : gI c s ∈ c:=by
    unfold gI at hn ⊢
    rw [List.getD_eq_getElem?_getD] at hn ⊢
    rcases e : c[s]? with _ | y
    ·rw [e] at hn; exact absurd rfl hn
    ·exact List.mem_of_getElem? e
   have h1:=h _ hm
   have h2:=e3 _ hm
   omega
theorem nodupL_get {T : List (List Int)} (hn : T.Nodup) {p q : Nat} {s : List Int} (hp : T[p]? = some s) (hq : T[q]? = some s) : p = q:=by
 obtain ⟨h1,e1⟩:=List.getElem?_eq_some_iff.1 hp
 obtain ⟨h2,e2⟩:=List.getElem?_eq_some_iff.1 hq
 have hpw:=List.pairwise_iff_getElem.1 hn
 rcases Nat.lt_trichotomy p q with h | h | h
 ·exact absurd (e1.trans e2.symm) (hpw p q h1 h2 h)
 ·exact h
 ·exact absurd (e2.trans e1.symm) (hpw q p h2 h1 h)
structure SubW (w0 wr : World) (B Mb : Nat) (v : Value) (ms : List (List Int)) : Prop where
 bel : Below w0.heap.size w0 wr
 c0 : wr.cell? ⟨B,0,none⟩ = some v
 c1 : wr.cell? ⟨B,1,none⟩ = some (.map (some Mb))
 frz : wr.frozen? ⟨B,0,none⟩ = false
 map : SubAt wr Mb ms
 own : wr.ownsRow w0.heap.size 80 200 v ms.length (ms.flatMap intsW)
 b0 : w0.heap.size <= B
 m0 : w0.heap.size <= Mb
 bm : B ≠ Mb
 vb : v.ownBlock ≠ some B
 vm : v.ownBlock ≠ some Mb
 ok : ∀ l ∈ ms,SubOk l
 nd : ms.Nodup
theorem SubW.below {w0 wr wx : World} {B Mb : Nat} {v : Value} {ms : List (List Int)} (h : SubW w0 wr B Mb v ms) (hb : Below wr.heap.size wr wx) : SubW w0 wx B Mb v ms :=
 ⟨bel_on h.bel hb,bel_c hb h.c0,bel_c hb h.c1,(hb.frozen (p:=⟨B,0,none⟩) (cell_lt h.c0)).trans h.frz,h.map.block (hb.block Mb h.map.lt),ownsRow_bel h.own hb,h.b0,h.m0,h.bm,h.vb,h.vm,h.ok,h.nd⟩
def meetL (ms : List (List Int)) (l : List Int) : List (List Int):=if l ∈ ms then ms else ms ++ [l]
def fillS (k : Nat) : List Int:=List.replicate k (-1) ++ List.replicate (200 - k) 0
theorem fillS_len {k : Nat} (h : k <= 200) : (fillS k).length = 200:=by simp [fillS]; omega
theorem fillS_set {k : Nat} (h : k < 200) : (fillS k).set k (-1) = fillS (k + 1):=by
 unfold fillS
 apply List.ext_getElem?
 intro i
 rw [List.getElem?_set]
 by_cases e : k = i
 ·subst e
  rw [if_pos rfl,if_pos (by simp; omega),List.getElem?_append_left (by simp)]
  simp
 ·rw [if_neg e]
  by_cases h1 : i < k
  ·rw [List.getElem?_append_left (by simpa using h1),List.getElem?_append_left (by simp; omega)]
   simp [h1,show i < k + 1 by omega]
  ·rw [List.getElem?_append_right (by simp; omega),List.getElem?_append_right (by simp; omega)]
   simp only [List.length_replicate,List.getElem?_replicate]
   by_cases h2 : i < 200
   ·rw [if_pos (by omega),if_pos (by omega)]
   ·rw [if_neg (by omega),if_neg (by omega)]
def padK (c : List Int) (k : Nat) : List Int:=(List.range 200).map fun s => if s < k then (if gI c s = -1 then -1 else gI c s - cheapD c) else -1
theorem padK_len (c : List Int) (k : Nat) : (padK c k).length = 200:=by simp [padK]
theorem padK_zero (c : List Int) : padK c 0 = fillS 200:=by
 unfold padK fillS
 rw [Nat.sub_self,List.replicate_zero,List.append_nil]
 have : ∀ l : List Nat,(l.map fun s => if s < 0 then (if gI c s = -1 then -1 else gI c s - cheapD c) else -1) = List.replicate l.length (-1):=by
  intro l
  induction l with
  | nil => rfl
  | cons a l ih => rw [List.map_cons,ih,if_neg (Nat.not_lt_zero _)]; rfl
 rw [this,List.length_range]
theorem padK_none (c : List Int) {k : Nat} (hc : gI c k = -1) : padK c (k + 1) = padK c k:=by
 unfold padK
 apply List.map_congr_left
 intro s _
 by_cases e : s = k
 ·subst e
  rw [if_pos (Nat.lt_succ_self s),if_pos hc,if_neg (Nat.lt_irrefl s)]
 ·by_cases h : s < k
  ·rw [if_pos (by omega),if_pos h]
  ·rw [if_neg (by omega),if_neg h]
theorem padK_some (c : List Int) {k : Nat} (hk : k < 200) (hc : ¬ gI c k = -1) : padK c (k + 1) = (padK c k).set k (gI c k - cheapD c):=by
 unfold padK
 apply List.ext_getElem?
 intro i
 rw [List.getElem?_set]
 by_cases e : k = i
 ·subst e
  rw [if_pos rfl,if_pos (by simpa using hk)]
  simp [hk,hc]
 ·rw [if_neg e]
  by_cases h : i < 200
  ·simp only [List.getElem?_map,List.getElem?_range h,Option.map_some]
   by_cases h2 : i < k
   ·rw [if_pos (by omega),if_pos h2]
   ·rw [if_neg (by omega),if_neg h2]
  ·simp [h]
theorem padK_all (c : List Int) : padK c c.length = padL c:=by
 unfold padK padL
 apply List.map_congr_left
 intro s _
 by_cases h2 : s < c.length
 ·rw [if_pos h2]
 ·rw [if_neg h2]
  have : gI c s = -1:=by unfold gI; simp [List.getD,show c.length <= s by omega]
  rw [if_pos this]
theorem exec_load {P : Program} {w : World} {o : Oper} {ev : Operand -> Value} {t : TypeId} {x : Operand} {g : Addr} {v : Value} (ho : o.op = .load t x) (hx : ev x = .pointer (some g)) (h : (loadVar t g).run P w = .ok v w) : (execOp ev o).run P w = .ok (.value v) w:=by
 unfold execOp
 simp only [ho,hx,Instr.loadAt,Instr.sureAddr,Sem.run_bind,Sem.run_pure,Result.andThen_ok,h]
theorem exec_look {P : Program} {w : World} {o : Oper} {ev : Operand -> Value} {t : TypeId} {x y : Operand} {m k v : Value} {b : Bool} (ho : o.op = .lookup t x y b) (hx : ev x = m) (hy : ev y = k) (h : (Instr.lookup t m k b).run P w = .ok v w) : (execOp ev o).run P w = .ok (.value v) w:=by
 unfold execOp
 simp only [ho,hx,hy,Sem.run_bind,Sem.run_pure,Result.andThen_ok,h]
theorem load_spots {w : World} {g : Nat} {l : List Int} (h : w.heap[g]? = some (.cells (intsW l).toArray 80 (0,0))) (hl : l.length = 200) : (loadVar 80 ⟨g,0,none⟩).run Try.prog w = .ok (subV l) w :=
 run_loadVar_row _ _ 80 80 (intsW l).toArray (0,0) _ h und_spots rfl (by
  have : (Try.prog.info? 80).map (·.size) = some 200:=by kernel_rfl
  rw [this]
  simp [intsW,hl])
theorem wp_put {P : Program} {o : Oper} {a : Act} {w w' : World} {K : Act -> World -> Prop} {Q : Exit -> Act -> World -> Prop} {t : TypeId} {x y z : Operand} {m k v : Value} (ho : o.op = .mapUpdate t x y z) (hx : a.eval x = m) (hy : a.eval y = k) (hz : a.eval z = v) (h : (Instr.mapUpdate t m k v).run P w = .ok () w') (hK : K (a.put o.dst undef) w') : o.wp P a w K Q:=by
 unfold Oper.wp execOp
 simp only [ho,hx,hy,hz,Sem.run_bind,Sem.run_pure,Result.andThen_ok,h]
 rw [Oper.upon_skip]
 exact hK
theorem infoSp : ∃ i,Try.prog.info? 80 = some i /\ i.zero = some (.agg (intsW (fillS 0)).toArray) /\ i.size = 200 /\ i.bytes = 1600:=by
 have h : (Try.prog.info? 80).map (fun i => (i.zero,i.size,i.bytes)) = some (some (.agg (intsW (fillS 0)).toArray),200,1600):=by kernel_rfl
 obtain ⟨i,hi,hz⟩:=Option.map_eq_some_iff.1 h
 simp only [Prod.mk.injEq] at hz
 exact ⟨i,hi,hz.1,hz.2.1,hz.2.2⟩
theorem und_sl : Try.prog.underlying 73 = some (.slice 80):=by kernel_rfl
theorem wp_build_spots {o : Oper} {a : Act} {w : World} {K : Act -> World -> Prop} {Q : Exit -> Act -> World -> Prop} {x : Operand} {l : List Int} (ho : o.op = .buildSlice 73 1 #[(0,x)]) (hx : a.eval x = subV l) (hl : l.length = 200)
  (h : K (a.put o.dst (.slice (some ⟨w.heap.size,0,none⟩) 1 1)) (w.alloc (.cells (intsW l).toArray 80))) : o.wp Try.prog a w K Q:=by
 obtain ⟨i,hi,hz,hs,_⟩:=infoSp
 refine wp_buildSlice 73 80 1 _ ho _ i _ und_sl hi hz (by rw [hs]; decide) (by rw [hs]; decide) ?_ h
 rw [hs]
 have hw:=Great.fill_whole (s:=200) (by decide) [subV l] ((Array.range (1 * 200)).map ((Value.agg (intsW (fillS 0)).toArray).cells[· % (Value.agg (intsW (fillS 0)).toArray).cells.size]!)) (fun v hv => by
  rw [List.mem_singleton] at hv
  subst hv
  simp [subV,Value.cells,intsW,hl]) (by simp)
 have e : ((#[(0,x)] : Array (Nat × Operand)).map fun (i,x) => (i,a.eval x)).toList = (([subV l].zipIdx 0).map fun x => (x.2,x.1)):=by simp [hx]
 rw [e,hw]
 simp [subV,Value.cells]
structure SubP (w0 wr : World) (B Mb : Nat) (v : Value) (ms : List (List Int)) (l : List Int) : Prop where
 bel : Below w0.heap.size w0 wr
 c0 : wr.cell? ⟨B,0,none⟩ = some v
 c1 : wr.cell? ⟨B,1,none⟩ = some (.map (some Mb))
 frz : wr.frozen? ⟨B,0,none⟩ = false
 map : SubAt wr Mb (ms ++ [l])
 own : wr.ownsRow w0.heap.size 80 200 v ms.length (ms.flatMap intsW)
 b0 : w0.heap.size <= B
 m0 : w0.heap.size <= Mb
 bm : B ≠ Mb
 vb : v.ownBlock ≠ some B
 vm : v.ownBlock ≠ some Mb
theorem SubP.below {w0 wr wx : World} {B Mb : Nat} {v : Value} {ms : List (List Int)} {l : List Int} (h : SubP w0 wr B Mb v ms l) (hb : Below wr.heap.size wr wx) : SubP w0 wx B Mb v ms l :=
 ⟨bel_on h.bel hb,bel_c hb h.c0,bel_c hb h.c1,(hb.frozen (p:=⟨B,0,none⟩) (cell_lt h.c0)).trans h.frz,h.map.block (hb.block Mb h.map.lt),ownsRow_bel h.own hb,h.b0,h.m0,h.bm,h.vb,h.vm⟩
theorem frz_block {w w' : World} {b k : Nat} (hb : w'.heap[b]? = w.heap[b]?) (h : w.frozen? ⟨b,k,none⟩ = false) : w'.frozen? ⟨b,k,none⟩ = false:=by
 simp only [World.frozen?] at h ⊢
 rw [hb]
 exact h
theorem SubW.put {w0 wr wx : World} {B Mb : Nat} {v : Value} {ms : List (List Int)} {l : List Int} (h : SubW w0 wr B Mb v ms) (hg : wr.grownBy wx (some Mb)) (hm : SubAt wx Mb (ms ++ [l])) : SubP w0 wx B Mb v ms l:=by
 have hB:=cell_lt h.c0
 have hne : some B ≠ some Mb:=fun e => h.bm (by injection e)
 refine ⟨h.bel.grown hg (by have:=h.bel.size; omega) (fun k hk => by injection hk with hk; rw [<- hk]; exact h.m0),(hg.cell_far ⟨B,0,none⟩ hB hne).trans h.c0,(hg.cell_far ⟨B,1,none⟩ hB hne).trans h.c1,frz_block (hg.block B hB hne) h.frz,hm,h.own.kept hg ?_,h.b0,h.m0,h.bm,h.vb,h.vm⟩
 cases hv : v.ownBlock with
 | none => exact Or.inl rfl
 | some b => exact Or.inr fun e => h.vm (by rw [hv,e])
theorem SubP.app {w0 wr wx : World} {B Mb : Nat} {v v' : Value} {ms : List (List Int)} {l : List Int} (h : SubP w0 wr B Mb v ms l) (hok : ∀ l ∈ ms,SubOk l) (hnd : ms.Nodup) (hl : SubOk l) (hn : l ∉ ms) (hg : wr.grownBy wx v.ownBlock)
  (ho : wx.ownsRow w0.heap.size 80 200 v' (ms.length + 1) (ms.flatMap intsW ++ intsW l)) (hv : v'.ownBlock = v.ownBlock \/ v'.ownBlock = some wr.heap.size) : SubW w0 (wx.setCell ⟨B,0,none⟩ v') B Mb v' (ms ++ [l]):=by
 have hB:=cell_lt h.c0
 have hM:=h.map.lt
 have hneB : some B ≠ v.ownBlock:=fun e => h.vb e.symm
 have hneM : some Mb ≠ v.ownBlock:=fun e => h.vm e.symm
 have hvB : v'.ownBlock ≠ some B:=fun e => by
  rcases hv with hv | hv
  ·rw [hv] at e; exact h.vb e
  ·rw [hv] at e; injection e with e; omega
 have hvM : v'.ownBlock ≠ some Mb:=fun e => by
  rcases hv with hv | hv
  ·rw [hv] at e; exact h.vm e
  ·rw [hv] at e; injection e with e; omega
 have c0:=(hg.cell_far ⟨B,0,none⟩ hB hneB).trans h.c0
 have c1:=(hg.cell_far ⟨B,1,none⟩ hB hneB).trans h.c1
 have hb1 : Below w0.heap.size w0 wx:=h.bel.grown hg (by have:=h.bel.size; omega) (fun k hk => own_base h.own k hk)
 refine ⟨hb1.setCell (p:=⟨B,0,none⟩) h.b0 _,World.cell?_setCell_same _ _ _ c0,?_,by rw [World.frozen?_setCell]; exact frz_block (hg.block B hB hneB) h.frz,?_,?_,h.b0,h.m0,h.bm,hvB,hvM,fun x hx => ?_,?_⟩
 ·rw [World.cell?_setCell_other _ _ _ _ (by intro e1; injection e1 with _ e2; omega)]
  exact c1
 ·refine (h.map.block (hg.block Mb hM hneM)).block ?_
  exact Below.heap_setCell wx ⟨B,0,none⟩ v' Mb (fun e => h.bm e.symm)
 ·have e1 : (ms ++ [l]).length = ms.length + 1:=by simp
  have e2 : (ms ++ [l]).flatMap intsW = ms.flatMap intsW ++ intsW l:=by simp
  rw [e1,e2]
  exact ownsRow_setCell_far ho hvB
 ·rcases List.mem_append.1 hx with hx | hx
  ·exact hok x hx
  ·rw [List.mem_singleton.1 hx]; exact hl
 ·rw [List.nodup_append]
  refine ⟨hnd,by simp,fun a ha b hb e => ?_⟩
  rw [List.mem_singleton] at hb
  exact hn (by rw [<- hb,<- e]; exact ha)
theorem MStep.app {wr wx : World} {B Mb : Nat} {v v' : Value} (hg : wr.grownBy wx v.ownBlock) (hv : v'.ownBlock = v.ownBlock \/ v'.ownBlock = some wr.heap.size) : MStep B Mb wr v (wx.setCell ⟨B,0,none⟩ v') v':=by
 refine ⟨by have:=hg.size; simpa [World.setCell] using this,fun b hb hB _ hvb => ?_,fun g hgg => ?_⟩
 ·exact (Below.heap_setCell wx ⟨B,0,none⟩ v' b hB).trans (hg.block b hb (fun e => hvb e.symm))
 ·rcases hv with hv | hv
  ·exact Or.inl (by rw [<- hv]; exact hgg)
  ·rw [hv] at hgg
   injection hgg with hgg
   exact Or.inr (by omega)
theorem zeroS : (Try.prog.info? 80).map (fun i => (i.zero,i.size)) = some (some (.agg (intsW (fillS 0)).toArray),200):=by kernel_rfl
end Go.Proofs.Yteehgcbjmdideab
