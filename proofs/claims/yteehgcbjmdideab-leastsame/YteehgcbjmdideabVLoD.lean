/- 'LeastOf' of the document: the walk. (Made by wip/gen/lod.py.) -/
import Derived.Test.YteehgcbjmdideabVM37
import Derived.Test.YteehgcbjmdideabVM29
import Derived.Test.YteehgcbjmdideabVM31
import Derived.Deep.CutRange
set_option maxRecDepth 100000
namespace Go.Proofs.Yteehgcbjmdideab
open Go.RowKit
attribute [local go_sem ↓] Go.wp_at_zero Go.wp_at_succ
theorem gLo1 : ∀ args w,(callFunc 48 args).run Try.prog w = .ok (.enter 48 args) w:=enters_of Try.func48 (by kernel_rfl) rfl
def Great (fs : List Int) (rs : List ArcD) : Prop:=∃ y,1000000000 < y /\ (y ∈ fs \/ ∃ a ∈ rs,a.wt = y)
def LoRes (κ : Nat -> List Int) (c0 : Nat) (w : World) (e : Ending) (w' : World) : Prop :=
 ∃ m,RunN κ c0 m /\ Below w.heap.size w w' /\ ((Great (numN κ c0 m).2.1 (numN κ c0 m).2.2 /\ e = .returned (.tuple #[.agg #[.int .i64 0,.int .i64 0,.slice none 0 0,.slice none 0 0],.int .i64 2])) \/ (¬ Great (numN κ c0 m).2.1 (numN κ c0 m).2.2 /\ ∃ (ga : Option Addr) (gn gc : Nat) (ba : Option Addr) (bn bc : Nat),e = .returned (.tuple #[.agg #[.int .i64 (m : Int),.int .i64 0,.slice ga gn gc,.slice ba bn bc],.int .i64 0]) /\ ISlice w' (.slice ga gn gc) (numN κ c0 m).2.1 /\ ASlice w' (.slice ba bn bc) (numN κ c0 m).2.2 /\ (∀ b,(Value.slice ga gn gc).ownBlock = some b -> w.heap.size <= b) /\ (∀ b,(Value.slice ba bn bc).ownBlock = some b -> w.heap.size <= b)))
theorem doc_none {t : FstD} {N s0 : Nat} {C : List Int -> Nat} {κ : Nat -> List Int} (hD : DocTab t s0 C κ) (hw : WideA t N) (hl : LiveW t s0) {b : Int} (hb : MinP (ToW t s0 []) b) (h0 : b < 0) : RunN κ (C []) 1 /\ (numN κ (C []) 1).2 = ([-1],[]):=by
 have hno:=(hb.not h0).2
 have ha : Alive t s0 []:=⟨s0,0,rfl,rfl⟩
 have hn : ∀ i,¬ Alive t s0 (((i + 1 : Nat) : Int) :: []):=fun i hi => by
  obtain ⟨y,v,hv⟩:=hl _ _ hi
  exact hno y ⟨v ++ [((i + 1 : Nat) : Int)],by rw [List.append_assoc]; exact hv⟩
 obtain ⟨e,he⟩:=end_exists hw s0 []
 have he0 : e < 0:=by
  by_cases h : e < 0
  ·exact h
  ·exact absurd (⟨[],(he.has (by omega)).1⟩ : ToW t s0 [] e) (hno e)
 have hf:=hD.fin [] e b ha he hb
 rw [if_pos he0] at hf
 have hlets : ∀ i,i <= 9 -> numLets (κ (C [])) 0 ([C []],[]) i = ([C []],[]):=by
  intro i
  induction i with
  | zero => intro _; rfl
  | succ i ih =>
   intro hi
   show numStep (κ (C [])) 0 (numLets (κ (C [])) 0 ([C []],[]) i) i = _
   rw [ih (by omega)]
   exact hD.skip (by omega) ha (hn i)
 have h1 : numN κ (C []) 1 = ([C []],[-1],[]):=by
  show ((numLets (κ (C [])) 0 ([C []],[]) 9).1,[] ++ [gI (κ (C [])) 0],(numLets (κ (C [])) 0 ([C []],[]) 9).2) = _
  rw [hlets 9 (by omega),hf]
  rfl
 exact ⟨⟨fun j hj => by
  obtain rfl : j = 0:=by omega
  exact Nat.zero_lt_one,by rw [h1]; rfl⟩,by rw [h1]⟩
theorem numN_len (κ : Nat -> List Int) (c0 : Nat) : ∀ n,(numN κ c0 n).2.1.length = n /\ (numN κ c0 n).2.2.length <= 9 * n
 | 0 => ⟨rfl,Nat.le_refl _⟩
 | n + 1 => ⟨by
   show ((numN κ c0 n).2.1 ++ [_]).length = _
   rw [List.length_append,(numN_len κ c0 n).1]
   rfl,numN_ars κ c0 (n + 1)⟩
theorem FBs.few {t : FstD} {N s0 : Nat} {ws cs fw : List (List Int)} {ps ls : List Int} {C : List Int -> Nat} {is : List Nat} {bs : List Int} (h : FBs t s0 ws C is bs fw) (hT : Whole t N s0 ws cs ps ls) (hal : ∀ u ∈ fw,Alive t s0 u) : is.length <= 200:=by
 have hn : fw.Nodup:=by
  have:=List.pairwise_map.1 h.nd
  exact this.imp fun {a b} hab e => hab (by rw [e])
 have:=nodup_sub fw ws hn (fun u hu => hT.tree.whole hT.sin u (hal u hu))
 have:=hT.few
 have:=h.l2
 omega
set_option maxHeartbeats 3200000 in
theorem leastOf_many (f t : FstD) (N s0 : Nat) (fin arcs : Value) (w : World) (hd : DIn f t N s0) (hm : ManyD t s0) (hf : ISlice w fin f.final) (ha : ASlice w arcs f.arcs) :
  Calls Try.prog 20 #[.agg #[.int .i64 f.states,.int .i64 f.start,fin,arcs]] w fun e w' => e = .returned (.tuple #[.agg #[.int .i64 0,.int .i64 0,.slice none 0 0,.slice none 0 0],.int .i64 2]) /\ Below w.heap.size w w':=by
 obtain ⟨fa,fn,fc,rfl,hfl,_⟩:=hf.lenOf
 obtain ⟨aa,am,ac,rfl,hal,_⟩:=ha.lenOf
 obtain ⟨A1,hA1⟩ : ∃ W,W = w.alloc (.cells #[.int .i64 f.states,.int .i64 f.start,.slice fa fn fc,.slice aa am ac] 25):=⟨_,rfl⟩
 obtain ⟨A2,hA2⟩ : ∃ W,W = A1.alloc (.cells #[.int .i64 0,.int .i64 0,.slice none 0 0,.slice none 0 0] 25):=⟨_,rfl⟩
 have z1 : A1.heap.size = w.heap.size + 1:=by rw [hA1]; exact one_size _ _
 have k1 : Below w.heap.size w A1:=by rw [hA1]; exact bel_up (bel_self _) _
 have k2 : Below A1.heap.size A1 A2:=by rw [hA2]; exact bel_up (bel_self _) _
 have hz : ZBlock A2 (w.heap.size + 1):=by unfold ZBlock; rw [hA2,<- z1]; exact heap_alloc_new A1 _
 have hwo:=wordsOf_any f t N s0 _ _ A2 hd (hf.below (bel_on k1 k2)) (ha.below (bel_on k1 k2))
 have hk:=bel_on k1 k2
 have HD:=hid_of (And.intro hd hm)
 rw [hA2,hA1] at hwo
 have HA:=hid_of (And.intro hA1 hA2)
 clear hf ha hfl hal hA1 hA2 k1 k2 z1 hd hm
 go_enter Try.func20,Try.ntmps20
 go_wp2_with fail
 refine hwo.mono ?_
 rintro e w2 ⟨b,w3,Wm,fa3,fn3,fc3,aa3,m3,ac3,cv,pv,lv,LC,ws,cs,ps,ls,i,c,rfl,hb2,_,_,_,hT,hM,_,hyes,_⟩
 rw [<- HA.out.1,<- HA.out.2] at hb2
 clear hwo HA
 have hbf : b = false:=by
  cases b
  ·rfl
  ·obtain ⟨rfl,rfl,h3⟩:=hyes rfl
   exact absurd HD.out.2 (hT.few HD.out.1.hT.sin h3)
 subst hbf
 obtain ⟨x1,x2,rfl⟩:=own_slice hM.oC
 obtain ⟨x3,x4,rfl⟩:=own_slice hM.oP
 obtain ⟨x5,x6,rfl⟩:=own_slice hM.oL
 clear hT hM hyes
 go_upto_region 2 with fail
 obtain ⟨Wb,hWb⟩ : ∃ W,W = w2.alloc (.cells #[.int .i64 (N : Int),.int .i64 (s0 : Int),.slice fa3 fn3 fc3,.slice aa3 m3 ac3,.slice x1 LC.length x2,.slice x3 ps.length x4,.slice x5 ls.length x6] 33):=⟨_,rfl⟩
 have hbb : Below w2.heap.size w2 Wb:=by rw [hWb]; exact bel_up (bel_self _) _
 obtain ⟨z0,z1,z2,z3,y0,y1,y2,y3⟩:=zfacts (heap_bel hbb (heap_bel hb2 hz))
 have HBB:=hid_of (bel_on hk (bel_on hb2 hbb))
 rw [<- hWb]
 clear hWb hbb hb2 hz
 go_wp2
 exact bodyPost_ret (v:=.tuple #[.agg #[.int .i64 0,.int .i64 0,.slice none 0 0,.slice none 0 0],.int .i64 2]) (by simp [results,Try.results20,go_sem, *]) rfl ⟨rfl,bel_set4 HBB.out (by omega) _ _ _ _⟩
set_option maxHeartbeats 6400000 in
theorem leastOf_any (f t : FstD) (N s0 : Nat) (C : List Int -> Nat) (κ : Nat -> List Int) (fin arcs : Value) (w : World) (hd : DIn f t N s0) (hm : ¬ ManyD t s0) (hlv : LiveW t s0) (hD : DocTab t s0 C κ) (hf : ISlice w fin f.final) (ha : ASlice w arcs f.arcs) :
  Calls Try.prog 20 #[.agg #[.int .i64 f.states,.int .i64 f.start,fin,arcs]] w fun e w' => LoRes κ (C []) w e w':=by
 obtain ⟨fa',fn',fc',rfl,hfl,_⟩:=hf.lenOf
 obtain ⟨aa',am',ac',rfl,hal,_⟩:=ha.lenOf
 obtain ⟨A1,hA1⟩ : ∃ W,W = w.alloc (.cells #[.int .i64 f.states,.int .i64 f.start,.slice fa' fn' fc',.slice aa' am' ac'] 25):=⟨_,rfl⟩
 obtain ⟨A2,hA2⟩ : ∃ W,W = A1.alloc (.cells #[.int .i64 0,.int .i64 0,.slice none 0 0,.slice none 0 0] 25):=⟨_,rfl⟩
 have z1 : A1.heap.size = w.heap.size + 1:=by rw [hA1]; exact one_size _ _
 have k1 : Below w.heap.size w A1:=by rw [hA1]; exact bel_up (bel_self _) _
 have k2 : Below A1.heap.size A1 A2:=by rw [hA2]; exact bel_up (bel_self _) _
 have hz : ZBlock A2 (w.heap.size + 1):=by unfold ZBlock; rw [hA2,<- z1]; exact heap_alloc_new A1 _
 have hwo:=wordsOf_any f t N s0 _ _ A2 hd (hf.below (bel_on k1 k2)) (ha.below (bel_on k1 k2))
 have hk:=bel_on k1 k2
 have HDI:=hid_of (And.intro hd hm)
 have HD:=hid_of (And.intro hlv hD)
 rw [hA2,hA1] at hwo
 have HA:=hid_of (And.intro hA1 hA2)
 clear hf ha hfl hal hA1 hA2 k1 k2 z1 hd hm hlv hD
 go_enter Try.func20,Try.ntmps20
 go_wp2_with fail
 refine hwo.mono ?_
 rintro e W0 ⟨b,w3,Wm,fa,fn,fc,aa,am,ac,cv,pv,lv,LC,ws,cs,ps,ls,i,c,rfl,hb2,hFT,_,hw3,hT,hM,hq,hyes,hnob⟩
 rw [<- HA.out.1,<- HA.out.2] at hb2 hFT hw3 hq
 clear hwo HA
 have hbt : b = true:=by
  cases b
  ·exact absurd (hT.many (hnob rfl)) HDI.out.2
  ·rfl
 subst hbt
 obtain ⟨rfl,rfl,hfew⟩:=hyes rfl
 have hws0 : 0 < ws.length:=by have:=(List.getElem?_eq_some_iff.1 hT.w0).1; omega
 have hwh : Whole t N s0 ws cs ps ls:=⟨hT,hfew,HDI.out.1.hT.sin⟩
 have hwv : WV W0 t N (.slice fa fn fc) (.slice aa am ac) cv pv lv cs ps ls:=wv_of hFT hw3 hM hq (by have:=hT.l1; omega) (by have:=hT.l1; have:=hT.l2; omega) (by have:=hT.l1; have:=hT.l3; omega)
 obtain ⟨xa,xc,rfl⟩:=own_slice hM.oC
 obtain ⟨pa,pc,rfl⟩:=own_slice hM.oP
 obtain ⟨la,lc,rfl⟩:=own_slice hM.oL
 obtain ⟨xn,hxn⟩ : ∃ n,n = LC.length:=⟨_,rfl⟩
 obtain ⟨pn,hpn⟩ : ∃ n,n = ps.length:=⟨_,rfl⟩
 obtain ⟨ln,hln⟩ : ∃ n,n = ls.length:=⟨_,rfl⟩
 rw [<- hxn,<- hpn,<- hln] at hwv
 rw [<- hxn,<- hpn,<- hln]
 have hz0:=heap_bel hb2 hz
 have HWH:=hid_of hwh
 have HWV:=hid_of hwv
 have HWL:=hid_of (And.intro hT.w0 hT.l2)
 have hbw:=bel_on hk hb2
 clear hFT hw3 hT hM hq hyes hnob hxn hpn hln hz hb2 hk hwh
 go_upto_region 2 with fail
 obtain ⟨Wb,hWb⟩ : ∃ W,W = W0.alloc (.cells #[.int .i64 (N : Int),.int .i64 (s0 : Int),.slice fa fn fc,.slice aa am ac,.slice xa xn xc,.slice pa pn pc,.slice la ln lc] 33):=⟨_,rfl⟩
 have hbb : Below W0.heap.size W0 Wb:=by rw [hWb]; exact bel_up (bel_self _) _
 have c4b : ∀ (k : Nat) (v : Value),(#[.int .i64 (N : Int),.int .i64 (s0 : Int),.slice fa fn fc,.slice aa am ac,.slice xa xn xc,.slice pa pn pc,.slice la ln lc] : Array Value)[k]? = some v -> Wb.cell? ⟨W0.heap.size,k,none⟩ = some v:=fun k v hk => by rw [hWb]; exact new_cell _ _ _ _ k _ rfl hk
 have hsz : Wb.heap.size = W0.heap.size + 1:=by rw [hWb]; exact one_size _ _
 rw [<- hWb]
 clear hWb
 have q0:=c4b 0 _ rfl
 have q1:=c4b 1 _ rfl
 have q2:=c4b 2 _ rfl
 have q3:=c4b 3 _ rfl
 have q4:=c4b 4 _ rfl
 have q5:=c4b 5 _ rfl
 have q6:=c4b 6 _ rfl
 have hbe:=best_any t N s0 _ _ _ _ _ ws cs ps ls HWH.out (ps.length + 1) 0 [] Wb (by omega) HWL.out.1 (HWV.out.below hbb)
 have HC4:=hid_of c4b
 clear c4b hwv
 go_wp2_with fail
 refine hbe.mono ?_
 rintro e w4 ⟨b0,rfl,hb0,hb4⟩
 have HB0:=hid_of hb0
 clear hbe q0 q1 q2 q3 q4 q5 q6 hb0
 by_cases hneg : b0 < 0
 ·have hbL : Below w4.heap.size w4 (w4.alloc (.cells #[.int .i64 (-1)] 3)):=bel_up (bel_self _) _
  obtain ⟨z0,z1,z2,z3,y0,y1,y2,y3⟩:=zfacts (heap_bel (bel_on (bel_on hbb hb4) hbL) hz0)
  have HN:=hid_of (doc_none HD.out.2 HDI.out.1.hT.sin.wide HD.out.1 HB0.out hneg)
  have HBL:=hid_of (bel_on hbw (bel_on hbb hb4))
  have HZL : Hid (w.heap.size + 1 < w4.heap.size):=heap_lt (heap_bel (bel_on hbb hb4) hz0)
  clear hz0 hbb hb4 hbL
  go_wp2
  refine bodyPost_ret (v:=.tuple #[.agg #[.int .i64 1,.int .i64 0,.slice (some ⟨w4.heap.size,0,none⟩) 1 1,.slice none 0 0],.int .i64 0]) (by simp [results,Try.results20,go_sem, *]) rfl ?_
  have hwx:=HBL.out.size
  have hlit:=World.ownsRow_lit (base:=w.heap.size + 2) (e:=3) (size:=1) w4 #[.int .i64 (-1)] 1 (by have:=HZL.out; omega) (by decide) rfl
  have hx : (Value.slice (some ⟨w4.heap.size,0,none⟩) 1 1).ownBlock ≠ some (w.heap.size + 1):=fun e => by have:=own_base hlit _ e; omega
  have h2:=ownsRow_setCell_far (i:=3) (u:=.slice none 0 0) (ownsRow_setCell_far (i:=2) (u:=.slice (some ⟨w4.heap.size,0,none⟩) 1 1) (ownsRow_setCell_far (i:=1) (u:=.int .i64 0) (ownsRow_setCell_far (i:=0) (u:=.int .i64 1) hlit hx) hx) hx) hx
  refine ⟨1,HN.out.1,bel_set4 (bel_up HBL.out _) (by omega) _ _ _ _,Or.inr ⟨?_,_,_,_,_,_,_,rfl,?_,?_,fun b e => by have:=own_base hlit b e; omega,fun b e => by simp [Value.ownBlock] at e⟩⟩
  ·rw [HN.out.2]
   rintro ⟨y,hy,h | ⟨a,ha,_⟩⟩
   ·have : y = -1:=by simpa using h
    omega
   ·cases ha
  ·rw [HN.out.2]
   exact ownsRow_ints (xs:=[-1]) h2
  ·rw [HN.out.2]
   exact ownsRow_arcs (ars:=[]) (World.ownsRow_nil _ 0 54 5)
 ·obtain ⟨Y1,hY1⟩ : ∃ W,W = w4.alloc (.cells #[.slice none 0 0] 22):=⟨_,rfl⟩
  obtain ⟨Y2,hY2⟩ : ∃ W,W = Y1.alloc (.cells #[.slice none 0 0] 22):=⟨_,rfl⟩
  have y1 : Below w4.heap.size w4 Y1:=by rw [hY1]; exact bel_up (bel_self _) _
  have y2 : Below Y1.heap.size Y1 Y2:=by rw [hY2]; exact bel_up (bel_self _) _
  have sy1 : Y1.heap.size = w4.heap.size + 1:=by rw [hY1]; exact one_size _ _
  have sy2 : Y2.heap.size = w4.heap.size + 1 + 1:=by rw [hY2,one_size,sy1]
  have n6 : Y2.heap[w4.heap.size]? = some (.cells #[.slice none 0 0] 22 (0,0)):=heap_bel y2 (by rw [hY1]; exact heap_alloc_new w4 _)
  have n7 : Y2.heap[w4.heap.size + 1]? = some (.cells #[.slice none 0 0] 22 (0,0)):=by rw [hY2,<- sy1]; exact heap_alloc_new Y1 _
  have hs4:=hb4.size
  have hL0 : LS W0 Y2 W0.heap.size w4.heap.size N s0 (.slice fa fn fc) (.slice aa am ac) (.slice xa xn xc) (.slice pa pn pc) (.slice la ln lc) (.slice none 0 0) (.slice none 0 0) [] []:=by
   refine ⟨bel_on hbb (bel_on hb4 (bel_on y1 y2)),fun k v hk => bel_c (bel_on hb4 (bel_on y1 y2)) (HC4.out k v hk),by rw [Go.Joins.cell_of_block n6]; rfl,by rw [Go.Joins.cell_of_block n7]; rfl,Go.Joins.unfrozen_of_block n6 0,Go.Joins.unfrozen_of_block n7 0,World.ownsRow_nil _ _ _ _,World.ownsRow_nil _ _ _ _,fun b h => by simp [Value.ownBlock] at h,Nat.le_refl _,by omega⟩
  have hF0 : FBs t s0 ws C [] [] []:=⟨rfl,rfl,fun j i h => by simp at h,by simp⟩
  have hst:=state_any t N s0 _ _ _ _ _ ws cs ps ls C κ W0 W0.heap.size w4.heap.size HWH.out HD.out.1 HD.out.2 HWV.out 0 [] Y2 _ _ [] [] [] HWL.out.1 hL0 hF0 (fun u hu => by cases hu) (by decide)
  have hg1:=gLo1
  rw [hY2,hY1] at hst
  have HY:=hid_of (And.intro hY1 hY2)
  have HZ0:=hid_of hz0
  have HBW:=hid_of hbw
  clear hY1 hY2 y1 y2 sy1 sy2 n6 n7 hL0 hF0 hz0 hbw hbb hsz
  go_wp2_with fail
  refine hst.mono ?_
  rintro e w5 ⟨r0,fv,bv,is,bs,fw,rfl,hL1,hF1,_,hor⟩
  have hif : is = [0] /\ fw = [[]]:=by
   rcases hor with ⟨h,_⟩ | ⟨_,_,h2,h3⟩
   ·cases h
   ·exact ⟨h2,h3⟩
  obtain ⟨rfl,rfl⟩:=hif
  obtain ⟨B6,hB6⟩ : ∃ B,B = w4.heap.size:=⟨_,rfl⟩
  rw [<- hB6] at hL1
  rw [<- hB6]
  clear hst HY hor hB6 hs4 hb4 hg1
  obtain ⟨Q,hQ⟩ : ∃ Q,Q = w5.heap.size:=⟨_,rfl⟩
  obtain ⟨W6,hW6⟩ : ∃ W,W = w5.alloc (.cells #[.int .i64 0,.int .i64 0,.slice none 0 0,.slice none 0 0] 25):=⟨_,rfl⟩
  have b6 : Below w5.heap.size w5 W6:=by rw [hW6]; exact bel_up (bel_self _) _
  have nQ : W6.heap[Q]? = some (.cells #[.int .i64 0,.int .i64 0,.slice none 0 0,.slice none 0 0] 25 (0,0)):=by rw [hW6,hQ]; exact heap_alloc_new w5 _
  have hG0 : LG W0 W6 W0.heap.size B6 N s0 (.slice fa fn fc) (.slice aa am ac) (.slice xa xn xc) (.slice pa pn pc) (.slice la ln lc) fv bv [0] bs Q (.slice none 0 0) (.slice none 0 0) [] []:=by
   refine ⟨hL1.below b6,by rw [Go.Joins.cell_of_block nQ]; rfl,by rw [Go.Joins.cell_of_block nQ]; rfl,by rw [Go.Joins.cell_of_block nQ]; rfl,by rw [Go.Joins.cell_of_block nQ]; rfl,fun i => Go.Joins.unfrozen_of_block nQ i,World.ownsRow_nil _ _ _ _,World.ownsRow_nil _ _ _ _,by rw [hQ]; exact cell_lt hL1.c7,fun e => ?_,fun e => ?_,fun b _ => ⟨fun h => by simp [Value.ownBlock] at h,fun h => by simp [Value.ownBlock] at h⟩,fun b _ => ⟨fun h => by simp [Value.ownBlock] at h,fun h => by simp [Value.ownBlock] at h⟩,fun b h => by simp [Value.ownBlock] at h⟩
   ·have:=ownsRow_lt0 hL1.fo _ e; omega
   ·have:=ownsRow_lt0 hL1.bo _ e; omega
  have HW6:=hid_of (And.intro hW6 hQ)
  clear hL1 b6 nQ hW6 hQ
  go_wp2
  rw [<- HW6.out.1,<- HW6.out.2]
  clear HW6
  go_loopw [10,11,12,13,14,15] (fun t10 _ _ _ _ _ wx => ∃ (n : Nat) (fv bv qf qa : Value) (is : List Nat) (bs : List Int) (fw : List (List Int)),t10 = .int .i64 (n : Int) /\ n <= is.length /\ LG W0 wx W0.heap.size B6 N s0 (.slice fa fn fc) (.slice aa am ac) (.slice xa xn xc) (.slice pa pn pc) (.slice la ln lc) fv bv is bs Q qf qa (numN κ (C []) n).2.1 (numN κ (C []) n).2.2 /\ FBs t s0 ws C is bs fw /\ (∀ u ∈ fw,Alive t s0 u) /\ fw.map C = (numN κ (C []) n).1 /\ fw[0]? = some [] /\ (∀ j,j < n -> j < (numN κ (C []) j).1.length)) (fun t10 _ _ _ _ _ _ => 200 - (intOf t10).toNat)
  case atStart =>
   exact ⟨0,fv,bv,_,_,[0],bs,[[]],rfl,Nat.zero_le _,hG0,hF1,fun u hu => by rw [List.mem_singleton.1 hu]; exact ⟨s0,0,rfl,rfl⟩,rfl,rfl,fun j hj => absurd hj (Nat.not_lt_zero _)⟩
  case round =>
   clear hG0 hF1
   obtain ⟨n,fv,bv,qf,qa,is,bs,fw,rfl,hn,hG,hF,hal,hmap,hfw0,hall⟩:=hrel
   have hfew2:=hF.few HWH.out hal
   have hnw : IntKind.i64.wrap ((n : Int) + 1) = (n : Int) + 1:=wrap_in _ (by omega) (by omega)
   obtain ⟨f6,k6,rfl⟩:=own_slice hG.ls.fo
   obtain ⟨f7,k7,rfl⟩:=own_slice hG.ls.bo
   have c6:=hG.ls.c6
   have c7:=hG.ls.c7
   obtain ⟨m6,hm6⟩ : ∃ m,m = is.length:=⟨_,rfl⟩
   obtain ⟨m7,hm7⟩ : ∃ m,m = bs.length:=⟨_,rfl⟩
   have HM67:=hid_of (And.intro hm6 hm7)
   have hlb:=hF.l1
   rw [<- hm6] at c6
   rw [<- hm7] at c7
   by_cases hlt : n < is.length
   ·have hni : (n : Int) < (m6 : Int):=by omega
    have hni7 : (n : Int) < (m7 : Int):=by omega
    obtain ⟨g6,rfl⟩ : ∃ b,f6 = some ⟨b,0,none⟩:=by
     obtain ⟨_,h1⟩:=hG.ls.fo
     rcases h1 with ⟨h1,h2⟩ | ⟨g,cap,cur,h1,_⟩
     ·omega
     ·injection h1 with h1 _ _
      exact ⟨g,h1⟩
    obtain ⟨g7,rfl⟩ : ∃ b,f7 = some ⟨b,0,none⟩:=by
     obtain ⟨_,h1⟩:=hG.ls.bo
     rcases h1 with ⟨h1,h2⟩ | ⟨g,cap,cur,h1,_⟩
     ·omega
     ·injection h1 with h1 _ _
      exact ⟨g,h1⟩
    obtain ⟨i,hi⟩ : ∃ i,is[n]? = some i:=⟨_,List.getElem?_eq_getElem hlt⟩
    obtain ⟨u,b,hu1,hu2,hu3,hu4⟩:=hF.at' n i hi
    have ci : wr.cell? ⟨g6,n,none⟩ = some (.int .i64 (i : Int)):=own_cell hG.ls.fo (by unfold natsW intsW; rw [List.map_map,List.getElem?_map,hi]; rfl)
    have cb : wr.cell? ⟨g7,n,none⟩ = some (.int .i64 b):=own_cell hG.ls.bo (by unfold intsW; rw [List.getElem?_map,hu3]; rfl)
    obtain ⟨bas,hbas⟩ : ∃ x : Int,x = if u = [] then 0 else b:=⟨_,rfl⟩
    have hn0 : n = 0 ↔ u = []:=by
     constructor
     ·intro e; subst e; rw [hfw0] at hu2; injection hu2 with hu2; exact hu2.symm
     ·intro e
      subst e
      have h1 : (fw.map C)[n]? = some (C []):=by rw [List.getElem?_map,hu2]; rfl
      have h2 : (fw.map C)[0]? = some (C []):=by rw [List.getElem?_map,hfw0]; rfl
      exact nodup_at hF.nd h1 h2
    have HU:=hid_of (And.intro hu1 (And.intro hu2 (And.intro hu4 hi)))
    have HR:=hid_of (And.intro hF (And.intro hal (And.intro hmap (And.intro hfw0 hall))))
    have HBA:=hid_of hbas
    have HN0:=hid_of hn0
    have HG:=hid_of hG
    clear hu1 hu2 hu3 hu4 hi hF hal hmap hfw0 hall hbas hn0 hG hn hlb hm6 hm7
    go_upto_if 43 with fail
    go_cut [11] from 32 to 91 (fun t11 wx => t11 = .int .i64 bas /\ wx = wr)
    case first =>
     by_cases e : n = 0
     ·subst e
      have hx : bas = 0:=by rw [HBA.out,if_pos (HN0.out.1 rfl)]
      subst hx
      go_wp2
      go_meet
      case rel => exact ⟨rfl,rfl⟩
     ·have hx : bas = b:=by rw [HBA.out,if_neg (fun h => e (HN0.out.2 h))]
      have hne : ((n : Int) == 0) = false:=by
       rw [beq_eq_false_iff_ne]
       omega
      subst hx
      go_wp2
      go_meet
      case rel => exact ⟨rfl,rfl⟩
    case rest =>
     obtain ⟨rfl,hwc⟩:=hcut
     obtain rfl:=hwc.symm
     clear c7 cb
     obtain ⟨Wd,hWd⟩ : ∃ W,W = wr.drew:=⟨_,rfl⟩
     have hbd : Below wr.heap.size wr Wd:=by rw [hWd]; exact (bel_self wr).drew
     have hGd:=HG.out.below hbd
     have hS0 : (fun wx : World => wx.cell? ⟨W0.heap.size,0,none⟩ = some (.int .i64 (N : Int)) /\ wx.cell? ⟨W0.heap.size,1,none⟩ = some (.int .i64 (s0 : Int)) /\ wx.cell? ⟨W0.heap.size,2,none⟩ = some (.slice fa fn fc) /\ wx.cell? ⟨W0.heap.size,3,none⟩ = some (.slice aa am ac) /\ wx.cell? ⟨W0.heap.size,4,none⟩ = some (.slice xa xn xc) /\ wx.cell? ⟨W0.heap.size,5,none⟩ = some (.slice pa pn pc) /\ wx.cell? ⟨W0.heap.size,6,none⟩ = some (.slice la ln lc) /\ wx.cell? ⟨B6,0,none⟩ = some (.slice (some ⟨g6,0,none⟩) m6 k6) /\ wx.cell? ⟨g6,n,none⟩ = some (.int .i64 (i : Int))) Wd:=⟨hGd.ls.c4 0 _ rfl,hGd.ls.c4 1 _ rfl,hGd.ls.c4 2 _ rfl,hGd.ls.c4 3 _ rfl,hGd.ls.c4 4 _ rfl,hGd.ls.c4 5 _ rfl,hGd.ls.c4 6 _ rfl,bel_c hbd c6,bel_c hbd ci⟩
     obtain ⟨V,hV,hVl,hE,hVb⟩:=HWH.out.tree.enc i u HU.out.1
     have hemin:=end_min hE HWH.out.sin.wide HWH.out.sin.hs
     have hil:=(List.getElem?_eq_some_iff.1 HU.out.1).1
     have hfew3:=HWH.out.few
     have hen:=wend_any t N s0 _ _ _ _ _ cs ps ls i V Wd (hGd.ls.wv HWV.out) HWH.out.sin hV (fun s => by have:=hVb s; omega)
     obtain ⟨e,he⟩ : ∃ x,x = endD V t.final N:=⟨_,rfl⟩
     rw [<- he] at hen hemin
     have heb:=minEnd_bound HWH.out.sin hE hVb (by omega) hemin
     have HE:=hid_of hemin
     have HWD:=hid_of hWd
     clear hV hVl hE hVb he hemin hWd hil hfew3 c6 ci
     have hbb0:=tow_bound HWH.out HU.out.2.2.1
     have hbb : -1 <= bas /\ bas <= 300000000000:=by rw [HBA.out]; split <;> omega
     go_wp2
     refine wp_region_noPanic ?_
     refine wp_region_U (fun wx : World => wx.cell? ⟨W0.heap.size,0,none⟩ = some (.int .i64 (N : Int)) /\ wx.cell? ⟨W0.heap.size,1,none⟩ = some (.int .i64 (s0 : Int)) /\ wx.cell? ⟨W0.heap.size,2,none⟩ = some (.slice fa fn fc) /\ wx.cell? ⟨W0.heap.size,3,none⟩ = some (.slice aa am ac) /\ wx.cell? ⟨W0.heap.size,4,none⟩ = some (.slice xa xn xc) /\ wx.cell? ⟨W0.heap.size,5,none⟩ = some (.slice pa pn pc) /\ wx.cell? ⟨W0.heap.size,6,none⟩ = some (.slice la ln lc) /\ wx.cell? ⟨B6,0,none⟩ = some (.slice (some ⟨g6,0,none⟩) m6 k6) /\ wx.cell? ⟨g6,n,none⟩ = some (.int .i64 (i : Int))) 6 (by kernel_rfl) (by rw [<- HWD.out]; exact hS0) (fun _ => ?_)
     rw [<- HWD.out]
     clear HWD
     refine tkU (i:=0) (v:=.agg #[.int .i64 (N : Int),.int .i64 (s0 : Int),.slice fa fn fc,.slice aa am ac,.slice xa xn xc,.slice pa pn pc,.slice la ln lc]) rfl (by kernel_rfl) (fun _ _ _ h => h) (by rfl) hS0 (fun wl hSw => ?_) ?_
     ·(try dsimp only at hSw); obtain ⟨o0,o1,o2,o3,o4,o5,o6,o7,o8⟩:=hSw; go_simp
     go_simp
     refine tkU (i:=1) (v:=.slice (some ⟨g6,0,none⟩) m6 k6) rfl (by kernel_rfl) (fun _ _ _ h => h) (by rfl) hS0 (fun wl hSw => ?_) ?_
     ·(try dsimp only at hSw); obtain ⟨o0,o1,o2,o3,o4,o5,o6,o7,o8⟩:=hSw; go_simp
     go_simp
     refine tkU (i:=2) (v:=.int .i64 (n : Int)) rfl (by kernel_rfl) (fun _ _ _ h => h) (by rfl) hS0 (fun wl hSw => ?_) ?_
     ·(try dsimp only at hSw); obtain ⟨o0,o1,o2,o3,o4,o5,o6,o7,o8⟩:=hSw; go_simp
     go_simp
     refine tkU (i:=3) (v:=.pointer (some ⟨g6,n,none⟩)) rfl (by kernel_rfl) (fun _ _ _ h => h) (by rfl) hS0 (fun wl hSw => ?_) ?_
     ·(try dsimp only at hSw); obtain ⟨o0,o1,o2,o3,o4,o5,o6,o7,o8⟩:=hSw; go_simp
     go_simp
     refine tkU (i:=4) (v:=.int .i64 (i : Int)) rfl (by kernel_rfl) (fun _ _ _ h => h) (by rfl) hS0 (fun wl hSw => ?_) ?_
     ·(try dsimp only at hSw); obtain ⟨o0,o1,o2,o3,o4,o5,o6,o7,o8⟩:=hSw; go_simp
     go_simp
     refine wpAnyU_one (i:=5) rfl (by kernel_rfl) (fun Kc hKc => ?_)
     go_simp
     refine hen.mono ?_
     rintro e' w7 ⟨rfl,hb7⟩
     have hG7:=hGd.below hb7
     refine hKc.out _ _ ⟨fun _ => ⟨hG7.ls.c4 0 _ rfl,hG7.ls.c4 1 _ rfl,hG7.ls.c4 2 _ rfl,hG7.ls.c4 3 _ rfl,hG7.ls.c4 4 _ rfl,hG7.ls.c4 5 _ rfl,hG7.ls.c4 6 _ rfl,bel_c hb7 hS0.2.2.2.2.2.2.2.1,bel_c hb7 hS0.2.2.2.2.2.2.2.2⟩,?_⟩
     clear hKc Kc
     go_simp
     refine wpAnyU_one (i:=6) rfl (by kernel_rfl) (fun Kc hKc => ?_)
     go_simp
     refine hKc.out _ _ ⟨fun h => absurd rfl h,?_⟩
     clear hKc Kc
     refine wpAnyU_done (by kernel_rfl) ?_ _
     refine NoPanic.normal ?_
     have HG7:=hid_of hG7
     obtain ⟨lst,hlst⟩ : ∃ x : Int,x = if e < 0 then -1 else e - bas:=⟨_,rfl⟩
     have HLST:=hid_of hlst
     clear hen hS0 hGd hG7 hb7 hbd HG hlst
     go_upto_if 51 with fail
     go_cut [12] from 32 to 91 (fun t12 wx => t12 = .int .i64 lst /\ wx = w7)
     case first =>
      by_cases hlt0 : e < 0
      ·have hx : lst = e:=by rw [HLST.out,if_pos hlt0]; omega
       have hx2 : ¬ 0 <= e:=by omega
       subst hx
       go_wp2
       go_meet
       case rel => exact ⟨rfl,rfl⟩
      ·have hx : lst = e - bas:=by rw [HLST.out,if_neg hlt0]
       have hx2 : 0 <= e:=by omega
       have hx3 : IntKind.i64.wrap (e - bas) = e - bas:=wrap_in _ (by omega) (by omega)
       subst hx
       go_wp2
       go_meet
       case rel => exact ⟨rfl,rfl⟩
     case rest =>
      obtain ⟨rfl,hwc⟩:=hcut
      obtain rfl:=hwc.symm
      have HAU : Hid (Alive t s0 u):=HR.out.2.1 u (List.mem_of_getElem? HU.out.2.1)
      have HKF : Hid (gI (κ (C u)) 0 = lst):=by
       show gI (κ (C u)) 0 = lst
       rw [HD.out.2.fin u e b HAU.out HE.out HU.out.2.2.1,HLST.out,<- HBA.out]
      have HSU : Hid ((numN κ (C []) n).1.getD n 0 = C u):=by
       rw [<- HR.out.2.2.1,List.getD_eq_getElem?_getD,List.getElem?_map,HU.out.2.1]
       rfl
      obtain ⟨S0,hS0⟩ : ∃ S,S = numN κ (C []) n:=⟨_,rfl⟩
      have HS0:=hid_of hS0
      have hG7:=HG7.out
      rw [<- hS0] at hG7
      have hfs : S0.2.1.length = n:=by rw [hS0]; exact (numN_len κ (C []) n).1
      have hrs:=(numN_len κ (C []) n).2
      rw [<- hS0] at hrs
      obtain ⟨f1,f3,rfl⟩:=own_slice hG7.fo
      obtain ⟨fl,hfl⟩ : ∃ n,n = S0.2.1.length:=⟨_,rfl⟩
      have hfl2 : fl <= 200:=by omega
      rw [<- hfl] at hG7
      have HFL:=hid_of hfl
      obtain ⟨ob,hob⟩ : ∃ o : Obj,o = .cells #[.int .i64 lst] 3:=⟨_,rfl⟩
      have hbE : Below w7.heap.size w7 (w7.alloc ob):=bel_up (bel_self _) _
      have hG8:=hG7.below hbE
      have hown:=hG8.fo
      rw [<- hfl] at hown
      have d2:=hG7.q2
      have hQl:=cell_lt hG7.q0
      have HFIN : Hid (∀ qf' w6,w6.ownsRow (Q + 1) 3 1 qf' (fl + 1) (intsW S0.2.1 ++ [.int .i64 lst]) -> (w7.alloc ob).grownBy w6 (Value.slice f1 fl f3).ownBlock -> (qf'.ownBlock = (Value.slice f1 fl f3).ownBlock \/ qf'.ownBlock = some (w7.alloc ob).heap.size) -> LG W0 (w6.setCell ⟨Q,2,none⟩ qf') W0.heap.size B6 N s0 (.slice fa fn fc) (.slice aa am ac) (.slice xa xn xc) (.slice pa pn pc) (.slice la ln lc) (.slice (some ⟨g6,0,none⟩) is.length k6) (.slice (some ⟨g7,0,none⟩) bs.length k7) is bs Q qf' qa (S0.2.1 ++ [lst]) S0.2.2 /\ w6.cell? ⟨Q,2,none⟩ = some (.slice f1 fl f3) /\ w6.frozen? ⟨Q,2,none⟩ = false):=fun qf' w6 h1 h2 h3 => by
       have hne : some Q ≠ (Value.slice f1 fl f3).ownBlock:=fun e => by have:=own_base hown Q e.symm; omega
       have bQ:=h2.block Q (cell_lt hG8.q0) hne
       exact ⟨hG8.final h2 (by rw [<- HFL.out]; exact h1) h3,cells_same bQ hG8.q2,frz_block bQ (hG8.qz 2)⟩
      obtain ⟨i0,hi0,hz0,hz1,hz2⟩:=info_parts Try.info3
      rw [hob] at hown HFIN
      clear hob hbE hG8 hG7 HG7 hfl hS0 hfs
      go_wp2_with (at_builtin; refine wpList_append_own_at _ rfl _ _ 22 rfl (Q + 1) 3 i0 (.int .i64 0) 1 8 Try.underlying22 hi0 hz0 hz1 hz2 rfl (by decide) (.slice f1 fl f3) fl _ rfl hown ⟨w7.heap.size,0,none⟩ 1 1 [.int .i64 lst] rfl rfl (cells_new w7 #[.int .i64 lst] 3 _ rfl) (one_int _) (by unfold maxLen; omega) (by omega) (by rw [one_size]; omega) ?_; intro qf' w6 hown' hgrow _ hvv; obtain ⟨p1,p3,rfl⟩:=own_slice hown'; obtain ⟨HF9,z3,z4⟩:=HFIN.out _ w6 hown' hgrow hvv; clear hown' hgrow hvv hown HFIN)
      obtain ⟨Wf,hWf⟩ : ∃ W,W = w6.setCell ⟨Q,2,none⟩ (.slice p1 (fl + 1) p3):=⟨_,rfl⟩
      rw [<- hWf] at HF9
      rw [<- hWf]
      have HST:=hid_of HF9
      clear hWf z3 z4 d2 HF9 hi0 hz0 hz1 hz2 hQl hni hni7
      go_loopw [13,14,15] (fun t13 _ _ wx => ∃ (c : Nat) (fv bv qa : Value) (is : List Nat) (bs : List Int) (fw : List (List Int)),c <= 9 /\ t13 = .int .i64 ((c : Int) + 1) /\ LG W0 wx W0.heap.size B6 N s0 (.slice fa fn fc) (.slice aa am ac) (.slice xa xn xc) (.slice pa pn pc) (.slice la ln lc) fv bv is bs Q (.slice p1 (fl + 1) p3) qa (S0.2.1 ++ [lst]) (numLets (κ (C u)) n (S0.1,S0.2.2) c).2 /\ FBs t s0 ws C is bs fw /\ (∀ u ∈ fw,Alive t s0 u) /\ fw.map C = (numLets (κ (C u)) n (S0.1,S0.2.2) c).1 /\ fw[0]? = some [] /\ is[n]? = some i) (fun t13 _ _ _ => 10 - (intOf t13).toNat)
      case atStart => exact ⟨0,_,_,_,is,bs,fw,Nat.zero_le _,rfl,HST.out,HR.out.1,HR.out.2.1,by rw [HR.out.2.2.1,<- HS0.out]; rfl,HR.out.2.2.2.1,HU.out.2.2.2⟩
      case round =>
       clear HST
       obtain ⟨c,fv,bv,qa,is2,bs2,fw2,hc9,rfl,hG,hF,hal,hmap,hfw0,hin⟩:=hrel
       have hcw : IntKind.i64.wrap ((c : Int) + 1 + 1) = (c : Int) + 1 + 1:=wrap_in _ (by omega) (by omega)
       by_cases hc : c < 9
       ·have hci : (c : Int) + 1 <= 9:=by omega
        have hfew4:=hF.few HWH.out hal
        obtain ⟨f6',k6',rfl⟩:=own_slice hG.ls.fo
        obtain ⟨f7',k7',rfl⟩:=own_slice hG.ls.bo
        have hnl:=(List.getElem?_eq_some_iff.1 hin).1
        obtain ⟨g6',rfl⟩ : ∃ b,f6' = some ⟨b,0,none⟩:=by
         obtain ⟨_,h1⟩:=hG.ls.fo
         rcases h1 with ⟨h1,h2⟩ | ⟨g,cap,cur,h1,_⟩
         ·omega
         ·injection h1 with h1 _ _
          exact ⟨g,h1⟩
        have ci : wr.cell? ⟨g6',n,none⟩ = some (.int .i64 (i : Int)):=own_cell hG.ls.fo (by unfold natsW intsW; rw [List.map_map,List.getElem?_map,hin]; rfl)
        have c6:=hG.ls.c6
        obtain ⟨l6,hl6⟩ : ∃ m,m = is2.length:=⟨_,rfl⟩
        rw [<- hl6] at c6
        have hni : (n : Int) < (l6 : Int):=by omega
        have HRR:=hid_of (And.intro hF (And.intro hal (And.intro hmap (And.intro hfw0 hin))))
        obtain ⟨Wd,hWd⟩ : ∃ W,W = wr.drew:=⟨_,rfl⟩
        have hbd : Below wr.heap.size wr Wd:=by rw [hWd]; exact (bel_self wr).drew
        have hGd:=hG.below hbd
        have hS1 : (fun wx : World => wx.cell? ⟨W0.heap.size,0,none⟩ = some (.int .i64 (N : Int)) /\ wx.cell? ⟨W0.heap.size,1,none⟩ = some (.int .i64 (s0 : Int)) /\ wx.cell? ⟨W0.heap.size,2,none⟩ = some (.slice fa fn fc) /\ wx.cell? ⟨W0.heap.size,3,none⟩ = some (.slice aa am ac) /\ wx.cell? ⟨W0.heap.size,4,none⟩ = some (.slice xa xn xc) /\ wx.cell? ⟨W0.heap.size,5,none⟩ = some (.slice pa pn pc) /\ wx.cell? ⟨W0.heap.size,6,none⟩ = some (.slice la ln lc) /\ wx.cell? ⟨B6,0,none⟩ = some (.slice (some ⟨g6',0,none⟩) l6 k6') /\ wx.cell? ⟨g6',n,none⟩ = some (.int .i64 (i : Int))) Wd:=⟨hGd.ls.c4 0 _ rfl,hGd.ls.c4 1 _ rfl,hGd.ls.c4 2 _ rfl,hGd.ls.c4 3 _ rfl,hGd.ls.c4 4 _ rfl,hGd.ls.c4 5 _ rfl,hGd.ls.c4 6 _ rfl,bel_c hbd c6,bel_c hbd ci⟩
        have hpl:=HWL.out.2
        have hil:=(List.getElem?_eq_some_iff.1 HU.out.1).1
        have hfw:=HWH.out.few
        have hl3:=HWH.out.tree.l3
        have hon:=on_any t N s0 _ _ _ _ _ cs ps ls i (c + 1) Wd (hGd.ls.wv HWV.out) (by omega) (by omega) (by omega)
        rw [show (((c + 1 : Nat) : Int)) = (c : Int) + 1 by omega] at hon
        have HWD:=hid_of hWd
        clear hF hal hmap hfw0 hin hWd hl6 hnl hpl hil hfw hl3 c6 ci hG
        go_wp2
        refine wp_region_noPanic ?_
        refine wp_region_U (fun wx : World => wx.cell? ⟨W0.heap.size,0,none⟩ = some (.int .i64 (N : Int)) /\ wx.cell? ⟨W0.heap.size,1,none⟩ = some (.int .i64 (s0 : Int)) /\ wx.cell? ⟨W0.heap.size,2,none⟩ = some (.slice fa fn fc) /\ wx.cell? ⟨W0.heap.size,3,none⟩ = some (.slice aa am ac) /\ wx.cell? ⟨W0.heap.size,4,none⟩ = some (.slice xa xn xc) /\ wx.cell? ⟨W0.heap.size,5,none⟩ = some (.slice pa pn pc) /\ wx.cell? ⟨W0.heap.size,6,none⟩ = some (.slice la ln lc) /\ wx.cell? ⟨B6,0,none⟩ = some (.slice (some ⟨g6',0,none⟩) l6 k6') /\ wx.cell? ⟨g6',n,none⟩ = some (.int .i64 (i : Int))) 7 (by kernel_rfl) (by rw [<- HWD.out]; exact hS1) (fun _ => ?_)
        rw [<- HWD.out]
        clear HWD
        refine tkU (i:=0) (v:=.agg #[.int .i64 (N : Int),.int .i64 (s0 : Int),.slice fa fn fc,.slice aa am ac,.slice xa xn xc,.slice pa pn pc,.slice la ln lc]) rfl (by kernel_rfl) (fun _ _ _ h => h) (by rfl) hS1 (fun wl hSw => ?_) ?_
        ·(try dsimp only at hSw); obtain ⟨o0,o1,o2,o3,o4,o5,o6,o7,o8⟩:=hSw; go_simp
        go_simp
        refine tkU (i:=1) (v:=.slice (some ⟨g6',0,none⟩) l6 k6') rfl (by kernel_rfl) (fun _ _ _ h => h) (by rfl) hS1 (fun wl hSw => ?_) ?_
        ·(try dsimp only at hSw); obtain ⟨o0,o1,o2,o3,o4,o5,o6,o7,o8⟩:=hSw; go_simp
        go_simp
        refine tkU (i:=2) (v:=.int .i64 (n : Int)) rfl (by kernel_rfl) (fun _ _ _ h => h) (by rfl) hS1 (fun wl hSw => ?_) ?_
        ·(try dsimp only at hSw); obtain ⟨o0,o1,o2,o3,o4,o5,o6,o7,o8⟩:=hSw; go_simp
        go_simp
        refine tkU (i:=3) (v:=.pointer (some ⟨g6',n,none⟩)) rfl (by kernel_rfl) (fun _ _ _ h => h) (by rfl) hS1 (fun wl hSw => ?_) ?_
        ·(try dsimp only at hSw); obtain ⟨o0,o1,o2,o3,o4,o5,o6,o7,o8⟩:=hSw; go_simp
        go_simp
        refine tkU (i:=4) (v:=.int .i64 (i : Int)) rfl (by kernel_rfl) (fun _ _ _ h => h) (by rfl) hS1 (fun wl hSw => ?_) ?_
        ·(try dsimp only at hSw); obtain ⟨o0,o1,o2,o3,o4,o5,o6,o7,o8⟩:=hSw; go_simp
        go_simp
        refine tkU (i:=5) (v:=.int .i64 ((c : Int) + 1)) rfl (by kernel_rfl) (fun _ _ _ h => h) (by rfl) hS1 (fun wl hSw => ?_) ?_
        ·(try dsimp only at hSw); obtain ⟨o0,o1,o2,o3,o4,o5,o6,o7,o8⟩:=hSw; go_simp
        go_simp
        refine wpAnyU_one (i:=6) rfl (by kernel_rfl) (fun Kc hKc => ?_)
        go_simp
        refine hon.mono ?_
        rintro e' w8 ⟨r,rfl,hr,hb8⟩
        have hG8:=hGd.below hb8
        refine hKc.out _ _ ⟨fun _ => ⟨hG8.ls.c4 0 _ rfl,hG8.ls.c4 1 _ rfl,hG8.ls.c4 2 _ rfl,hG8.ls.c4 3 _ rfl,hG8.ls.c4 4 _ rfl,hG8.ls.c4 5 _ rfl,hG8.ls.c4 6 _ rfl,bel_c hb8 hS1.2.2.2.2.2.2.2.1,bel_c hb8 hS1.2.2.2.2.2.2.2.2⟩,?_⟩
        clear hKc Kc
        go_simp
        refine wpAnyU_one (i:=7) rfl (by kernel_rfl) (fun Kc hKc => ?_)
        go_simp
        refine hKc.out _ _ ⟨fun h => absurd rfl h,?_⟩
        clear hKc Kc
        refine wpAnyU_done (by kernel_rfl) ?_ _
        refine NoPanic.normal ?_
        have HRN:=hid_of hr
        clear hon hS1 hGd hb8 hbd hr hni
        by_cases h0 : 0 <= r
        ·obtain ⟨k,rfl,hik,hkp,hmk⟩ : ∃ k : Nat,r = (k : Int) /\ i < k /\ k < ps.length /\ OnM ps ls i ((c : Int) + 1) k:=by
          rcases HRN.out with ⟨e,_⟩ | ⟨k,e1,e2,e3,e4,_⟩
          ·omega
          ·exact ⟨k,e1,e2,e3,e4⟩
         have hwk:=HWH.out.tree.on_yes (x:=c + 1) HU.out.1 hik hkp (by rw [show (((c + 1 : Nat) : Int)) = (c : Int) + 1 by omega]; exact hmk)
         obtain ⟨v,hv⟩ : ∃ v,v = ((c + 1 : Nat) : Int) :: u:=⟨_,rfl⟩
         rw [<- hv] at hwk
         have hst:=state_any t N s0 _ _ _ _ _ ws cs ps ls C κ W0 W0.heap.size B6 HWH.out HD.out.1 HD.out.2 HWV.out k v w8 _ _ is2 bs2 fw2 hwk hG8.ls HRR.out.1 HRR.out.2.1 (by omega)
         have hg1:=gLo1
         have HG8:=hid_of hG8
         have HV:=hid_of (And.intro hv (And.intro hwk (HWH.out.tree.live v (List.mem_of_getElem? hwk))))
         clear hG8 hmk hik hkp hwk hv HRN
         go_wp2_with fail
         refine hst.mono ?_
         rintro e' w9 ⟨r',fv',bv',is',bs',fw',rfl,hL9,hF9,hS9,hor⟩
         have hG9:=HG8.out.step hS9 hL9
         have HOR:=hid_of hor
         have HF9:=hid_of hF9
         clear hst hL9 hF9 hS9 hor HG8 hg1
         obtain ⟨R,hR⟩ : ∃ R,R = (numLets (κ (C u)) n (S0.1,S0.2.2) c).2:=⟨_,rfl⟩
         have HRQ:=hid_of hR
         rw [<- hR] at hG9
         have hRl : R.length <= 5000:=by
          have h1:=numLets_ars (k:=κ (C u)) (n:=n) (S:=(S0.1,S0.2.2)) c
          rw [<- hR] at h1
          dsimp only at h1
          omega
         clear hR
         obtain ⟨r1,r3,rfl⟩:=own_slice hG9.ao
         obtain ⟨rl,hrl⟩ : ∃ n,n = R.length:=⟨_,rfl⟩
         have hrl5 : rl <= 5000:=by omega
         rw [<- hrl] at hG9
         have HRL:=hid_of hrl
         obtain ⟨Wd,hWd⟩ : ∃ W,W = w9.drew:=⟨_,rfl⟩
         have hbd : Below w9.heap.size w9 Wd:=by rw [hWd]; exact (bel_self w9).drew
         have hGd:=hG9.below hbd
         have hS1 : (fun wx : World => wx.cell? ⟨W0.heap.size,0,none⟩ = some (.int .i64 (N : Int)) /\ wx.cell? ⟨W0.heap.size,1,none⟩ = some (.int .i64 (s0 : Int)) /\ wx.cell? ⟨W0.heap.size,2,none⟩ = some (.slice fa fn fc) /\ wx.cell? ⟨W0.heap.size,3,none⟩ = some (.slice aa am ac) /\ wx.cell? ⟨W0.heap.size,4,none⟩ = some (.slice xa xn xc) /\ wx.cell? ⟨W0.heap.size,5,none⟩ = some (.slice pa pn pc) /\ wx.cell? ⟨W0.heap.size,6,none⟩ = some (.slice la ln lc) /\ wx.cell? ⟨Q,3,none⟩ = some (.slice r1 rl r3)) Wd:=⟨hGd.ls.c4 0 _ rfl,hGd.ls.c4 1 _ rfl,hGd.ls.c4 2 _ rfl,hGd.ls.c4 3 _ rfl,hGd.ls.c4 4 _ rfl,hGd.ls.c4 5 _ rfl,hGd.ls.c4 6 _ rfl,hGd.q3⟩
         have hbe:=best_any t N s0 _ _ _ _ _ ws cs ps ls HWH.out (ps.length + 1) k v Wd (by omega) HV.out.2.1 (hGd.ls.wv HWV.out)
         obtain ⟨iA,hiA,hzA0,hzA1,hzA2⟩:=info_parts Try.info54
         have HWD:=hid_of hWd
         clear hWd hrl hRl hG9
         go_wp2
         refine wp_region_noPanic ?_
         refine wp_region_U (fun wx : World => wx.cell? ⟨W0.heap.size,0,none⟩ = some (.int .i64 (N : Int)) /\ wx.cell? ⟨W0.heap.size,1,none⟩ = some (.int .i64 (s0 : Int)) /\ wx.cell? ⟨W0.heap.size,2,none⟩ = some (.slice fa fn fc) /\ wx.cell? ⟨W0.heap.size,3,none⟩ = some (.slice aa am ac) /\ wx.cell? ⟨W0.heap.size,4,none⟩ = some (.slice xa xn xc) /\ wx.cell? ⟨W0.heap.size,5,none⟩ = some (.slice pa pn pc) /\ wx.cell? ⟨W0.heap.size,6,none⟩ = some (.slice la ln lc) /\ wx.cell? ⟨Q,3,none⟩ = some (.slice r1 rl r3)) 15 (by kernel_rfl) (by rw [<- HWD.out]; exact hS1) (fun _ => ?_)
         rw [<- HWD.out]
         clear HWD
         refine tkU (i:=0) (v:=.pointer (some ⟨Q,3,none⟩)) rfl (by kernel_rfl) (fun _ _ _ h => h) (by rfl) hS1 (fun wl hSw => ?_) ?_
         ·(try dsimp only at hSw); obtain ⟨o0,o1,o2,o3,o4,o5,o6,o7⟩:=hSw; go_simp
         go_simp
         refine tkU (i:=1) (v:=.slice r1 rl r3) rfl (by kernel_rfl) (fun _ _ _ h => h) (by rfl) hS1 (fun wl hSw => ?_) ?_
         ·(try dsimp only at hSw); obtain ⟨o0,o1,o2,o3,o4,o5,o6,o7⟩:=hSw; go_simp
         go_simp
         refine tkU (i:=2) (v:=.int .i64 (n : Int)) rfl (by kernel_rfl) (fun _ _ _ h => h) (by rfl) hS1 (fun wl hSw => ?_) ?_
         ·(try dsimp only at hSw); obtain ⟨o0,o1,o2,o3,o4,o5,o6,o7⟩:=hSw; go_simp
         go_simp
         refine tkU (i:=3) (v:=.int .i64 ((c : Int) + 1)) rfl (by kernel_rfl) (fun _ _ _ h => h) (by rfl) hS1 (fun wl hSw => ?_) ?_
         ·(try dsimp only at hSw); obtain ⟨o0,o1,o2,o3,o4,o5,o6,o7⟩:=hSw; go_simp
         go_simp
         refine tkU (i:=4) (v:=.int .i64 ((c : Int) + 1)) rfl (by kernel_rfl) (fun _ _ _ h => h) (by rfl) hS1 (fun wl hSw => ?_) ?_
         ·(try dsimp only at hSw); obtain ⟨o0,o1,o2,o3,o4,o5,o6,o7⟩:=hSw; go_simp
         go_simp
         refine tkU (i:=5) (v:=.int .i64 (r' : Int)) rfl (by kernel_rfl) (fun _ _ _ h => h) (by rfl) hS1 (fun wl hSw => ?_) ?_
         ·(try dsimp only at hSw); obtain ⟨o0,o1,o2,o3,o4,o5,o6,o7⟩:=hSw; go_simp
         go_simp
         refine tkU (i:=6) (v:=.agg #[.int .i64 (N : Int),.int .i64 (s0 : Int),.slice fa fn fc,.slice aa am ac,.slice xa xn xc,.slice pa pn pc,.slice la ln lc]) rfl (by kernel_rfl) (fun _ _ _ h => h) (by rfl) hS1 (fun wl hSw => ?_) ?_
         ·(try dsimp only at hSw); obtain ⟨o0,o1,o2,o3,o4,o5,o6,o7⟩:=hSw; go_simp
         go_simp
         refine tkU (i:=7) (v:=.int .i64 (k : Int)) rfl (by kernel_rfl) (fun _ _ _ h => h) (by rfl) hS1 (fun wl hSw => ?_) ?_
         ·(try dsimp only at hSw); obtain ⟨o0,o1,o2,o3,o4,o5,o6,o7⟩:=hSw; go_simp
         go_simp
         refine tkU (i:=9) (v:=.int .i64 bas) rfl (by kernel_rfl) (fun _ _ _ h => h) (by rfl) hS1 (fun wl hSw => ?_) ?_
         ·(try dsimp only at hSw); obtain ⟨o0,o1,o2,o3,o4,o5,o6,o7⟩:=hSw; go_simp
         go_simp
         refine wpAnyU_one (i:=8) rfl (by kernel_rfl) (fun Kc hKc => ?_)
         go_simp
         refine hbe.mono ?_
         rintro e' wX ⟨b',rfl,hbm,hbX⟩
         have hGX:=hGd.below hbX
         have hbt:=tow_bound HWH.out hbm
         have hxw : IntKind.i64.wrap (b' - bas) = b' - bas:=wrap_in _ (by omega) (by omega)
         have HE : Hid (numLets (κ (C u)) n (S0.1,S0.2.2) (c + 1) = (fw'.map C,R ++ [⟨(n : Int),(c : Int) + 1,(c : Int) + 1,(r' : Int),b' - bas⟩])):=by
          show numStep (κ (C u)) n (numLets (κ (C u)) n (S0.1,S0.2.2) c) c = _
          have e1 : numLets (κ (C u)) n (S0.1,S0.2.2) c = (fw2.map C,R):=Prod.ext HRR.out.2.2.1.symm HRQ.out.symm
          have ha:=HV.out.2.2
          rw [HV.out.1] at ha hbm
          rw [e1,HD.out.2.step hc ha HU.out.2.2.1 hbm,<- HBA.out,<- HV.out.1,show (((c + 1 : Nat) : Int)) = (c : Int) + 1 by omega]
          rcases HOR.out with ⟨h1,h2,_,_,h5⟩ | ⟨h1,h2,_,h4⟩
          ·rw [if_pos h1,h5,h2]
          ·rw [if_neg h1,h4,h2]
         have HRN : Hid (FBs t s0 ws C is' bs' fw' /\ (∀ u ∈ fw',Alive t s0 u) /\ fw'[0]? = some [] /\ is'[n]? = some i):=by
          refine ⟨HF9.out,?_⟩
          rcases HOR.out with ⟨_,_,h3,_,h5⟩ | ⟨_,_,h3,h4⟩
          ·rw [h3,h5]; exact ⟨HRR.out.2.1,HRR.out.2.2.2⟩
          ·rw [h3,h4]
           refine ⟨fun x hx => ?_,?_,?_⟩
           ·rcases List.mem_append.1 hx with hx | hx
            ·exact HRR.out.2.1 x hx
            ·rw [List.mem_singleton.1 hx]; exact HV.out.2.2
           ·rw [List.getElem?_append_left (List.getElem?_eq_some_iff.1 HRR.out.2.2.2.1).1]; exact HRR.out.2.2.2.1
           ·rw [List.getElem?_append_left (List.getElem?_eq_some_iff.1 HRR.out.2.2.2.2).1]; exact HRR.out.2.2.2.2
         refine hKc.out _ _ ⟨fun _ => ⟨hGX.ls.c4 0 _ rfl,hGX.ls.c4 1 _ rfl,hGX.ls.c4 2 _ rfl,hGX.ls.c4 3 _ rfl,hGX.ls.c4 4 _ rfl,hGX.ls.c4 5 _ rfl,hGX.ls.c4 6 _ rfl,hGX.q3⟩,?_⟩
         clear hKc Kc hbm hbe hS1 hGd hbX hbd hbt
         go_simp
         refine wpAnyU_one (i:=10) rfl (by kernel_rfl) (fun Kc hKc => ?_)
         go_simp
         refine hKc.out _ _ ⟨fun _ => ⟨hGX.ls.c4 0 _ rfl,hGX.ls.c4 1 _ rfl,hGX.ls.c4 2 _ rfl,hGX.ls.c4 3 _ rfl,hGX.ls.c4 4 _ rfl,hGX.ls.c4 5 _ rfl,hGX.ls.c4 6 _ rfl,hGX.q3⟩,?_⟩
         clear hKc Kc
         go_simp
         refine wpAnyU_one (i:=11) rfl (by kernel_rfl) (fun Kc hKc => ?_)
         go_simp
         refine hKc.out _ _ ⟨fun _ => ⟨hGX.ls.c4 0 _ rfl,hGX.ls.c4 1 _ rfl,hGX.ls.c4 2 _ rfl,hGX.ls.c4 3 _ rfl,hGX.ls.c4 4 _ rfl,hGX.ls.c4 5 _ rfl,hGX.ls.c4 6 _ rfl,hGX.q3⟩,?_⟩
         clear hKc Kc
         go_simp
         refine wpAnyU_one (i:=12) rfl (by kernel_rfl) (fun Kc hKc => ?_)
         go_simp
         obtain ⟨WY,hWY⟩ : ∃ W,W = wX.alloc (.cells #[.int .i64 (n : Int),.int .i64 ((c : Int) + 1),.int .i64 ((c : Int) + 1),.int .i64 (r' : Int),.int .i64 (b' - bas)] 54):=⟨_,rfl⟩
         have cY : ∀ j u,([.int .i64 (n : Int),.int .i64 ((c : Int) + 1),.int .i64 ((c : Int) + 1),.int .i64 (r' : Int),.int .i64 (b' - bas)] : List Value)[j]? = some u -> WY.cell? ((⟨wX.heap.size,0,none⟩ : Addr).add j) = some u:=by rw [hWY]; exact cells_new wX #[.int .i64 (n : Int),.int .i64 ((c : Int) + 1),.int .i64 ((c : Int) + 1),.int .i64 (r' : Int),.int .i64 (b' - bas)] 54 _ rfl
         have bY : Below wX.heap.size wX WY:=by rw [hWY]; exact bel_up (bel_self _) _
         rw [<- hWY]
         have hGY:=hGX.below bY
         have hown:=hGY.ao
         rw [<- HRL.out] at hown
         have hQY:=cell_lt hGY.q0
         clear hWY bY hGX
         refine hKc.out _ _ ⟨fun _ => ⟨hGY.ls.c4 0 _ rfl,hGY.ls.c4 1 _ rfl,hGY.ls.c4 2 _ rfl,hGY.ls.c4 3 _ rfl,hGY.ls.c4 4 _ rfl,hGY.ls.c4 5 _ rfl,hGY.ls.c4 6 _ rfl,hGY.q3⟩,?_⟩
         clear hKc Kc
         go_simp
         refine wpAnyU_one (i:=13) rfl (by kernel_rfl) (fun Kc hKc => ?_)
         refine if_wanted rfl (wp_app_at _ _ 23 rfl (Q + 1) 54 iA _ 5 40 Try.underlying23 hiA hzA0 hzA1 hzA2 rfl (by decide) (.slice r1 rl r3) rl _ rfl hown ⟨wX.heap.size,0,none⟩ 1 1 [.int .i64 (n : Int),.int .i64 ((c : Int) + 1),.int .i64 ((c : Int) + 1),.int .i64 (r' : Int),.int .i64 (b' - bas)] rfl rfl cY (oneCell_arc ⟨(n : Int),(c : Int) + 1,(c : Int) + 1,(r' : Int),b' - bas⟩) (by unfold maxLen; omega) (by omega) (by omega) ?_)
         intro qa' wZ hoZ hgZ hvZ
         have hne : some Q ≠ (Value.slice r1 rl r3).ownBlock:=fun e => by have:=own_base hown Q e.symm; omega
         have bQ:=hgZ.block Q hQY hne
         have x3:=cells_same bQ hGY.q3
         have y3:=frz_block bQ (hGY.qz 3)
         have hGZ:=hGY.arc (a:=⟨(n : Int),(c : Int) + 1,(c : Int) + 1,(r' : Int),b' - bas⟩) hgZ (by rw [<- HRL.out]; exact hoZ) hvZ
         have hS9 : (fun wx : World => wx.cell? ⟨W0.heap.size,0,none⟩ = some (.int .i64 (N : Int)) /\ wx.cell? ⟨W0.heap.size,1,none⟩ = some (.int .i64 (s0 : Int)) /\ wx.cell? ⟨W0.heap.size,2,none⟩ = some (.slice fa fn fc) /\ wx.cell? ⟨W0.heap.size,3,none⟩ = some (.slice aa am ac) /\ wx.cell? ⟨W0.heap.size,4,none⟩ = some (.slice xa xn xc) /\ wx.cell? ⟨W0.heap.size,5,none⟩ = some (.slice pa pn pc) /\ wx.cell? ⟨W0.heap.size,6,none⟩ = some (.slice la ln lc) /\ wx.cell? ⟨Q,3,none⟩ = some (.slice r1 rl r3)) wZ:=⟨cells_same (hgZ.block W0.heap.size (cell_lt (hGY.ls.c4 0 _ rfl)) (fun e => by have:=own_base hown _ e.symm; have:=hGY.hQ; have:=hGY.ls.h6; omega)) (hGY.ls.c4 0 _ rfl),cells_same (hgZ.block W0.heap.size (cell_lt (hGY.ls.c4 1 _ rfl)) (fun e => by have:=own_base hown _ e.symm; have:=hGY.hQ; have:=hGY.ls.h6; omega)) (hGY.ls.c4 1 _ rfl),cells_same (hgZ.block W0.heap.size (cell_lt (hGY.ls.c4 2 _ rfl)) (fun e => by have:=own_base hown _ e.symm; have:=hGY.hQ; have:=hGY.ls.h6; omega)) (hGY.ls.c4 2 _ rfl),cells_same (hgZ.block W0.heap.size (cell_lt (hGY.ls.c4 3 _ rfl)) (fun e => by have:=own_base hown _ e.symm; have:=hGY.hQ; have:=hGY.ls.h6; omega)) (hGY.ls.c4 3 _ rfl),cells_same (hgZ.block W0.heap.size (cell_lt (hGY.ls.c4 4 _ rfl)) (fun e => by have:=own_base hown _ e.symm; have:=hGY.hQ; have:=hGY.ls.h6; omega)) (hGY.ls.c4 4 _ rfl),cells_same (hgZ.block W0.heap.size (cell_lt (hGY.ls.c4 5 _ rfl)) (fun e => by have:=own_base hown _ e.symm; have:=hGY.hQ; have:=hGY.ls.h6; omega)) (hGY.ls.c4 5 _ rfl),cells_same (hgZ.block W0.heap.size (cell_lt (hGY.ls.c4 6 _ rfl)) (fun e => by have:=own_base hown _ e.symm; have:=hGY.hQ; have:=hGY.ls.h6; omega)) (hGY.ls.c4 6 _ rfl),x3⟩
         obtain ⟨s1,s3,rfl⟩:=own_slice hoZ
         refine hKc.out _ _ ⟨fun _ => hS9,?_⟩
         clear hKc Kc
         go_simp
         refine wpAnyU_one (i:=14) rfl (by kernel_rfl) (fun Kc hKc => ?_)
         go_simp
         refine hKc.out _ _ ⟨fun _ => hS9,?_⟩
         clear hKc Kc hoZ hgZ hvZ hown hGY cY bQ hne hS9
         go_simp
         refine wpAnyU_one (i:=15) rfl (by kernel_rfl) (fun Kc hKc => ?_)
         go_simp
         refine hKc.out _ _ ⟨fun h => absurd rfl h,?_⟩
         clear hKc Kc
         refine wpAnyU_done (by kernel_rfl) ?_ _
         refine NoPanic.normal ?_
         obtain ⟨WE,hWE⟩ : ∃ W,W = wZ.setCell ⟨Q,3,none⟩ (.slice s1 (rl + 1) s3):=⟨_,rfl⟩
         rw [<- hWE] at hGZ
         rw [<- hWE]
         have HGN : Hid (LG W0 WE W0.heap.size B6 N s0 (.slice fa fn fc) (.slice aa am ac) (.slice xa xn xc) (.slice pa pn pc) (.slice la ln lc) fv' bv' is' bs' Q (.slice p1 (fl + 1) p3) (.slice s1 (rl + 1) s3) (S0.2.1 ++ [lst]) (numLets (κ (C u)) n (S0.1,S0.2.2) (c + 1)).2 /\ fw'.map C = (numLets (κ (C u)) n (S0.1,S0.2.2) (c + 1)).1):=by
          rw [HE.out]
          exact ⟨hGZ,rfl⟩
         clear hWE hGZ x3 y3
         go_wp2
         go_roundw
         case rel => exact ⟨c + 1,_,_,_,is',bs',fw',by omega,by go_num,HGN.out.1,HRN.out.1,HRN.out.2.1,HGN.out.2,HRN.out.2.2.1,HRN.out.2.2.2⟩
         case measure => simp [intOf]; omega
        ·have hna : ¬ Alive t s0 (((c + 1 : Nat) : Int) :: u):=by
          refine HWH.out.tree.on_no HWH.out.sin HU.out.1 ?_
          rcases HRN.out with ⟨_,e⟩ | ⟨k,e1,_⟩
          ·rw [show (((c + 1 : Nat) : Int)) = (c : Int) + 1 by omega]; exact e
          ·omega
         have HSK : Hid (numLets (κ (C u)) n (S0.1,S0.2.2) (c + 1) = numLets (κ (C u)) n (S0.1,S0.2.2) c):=HD.out.2.skip hc HAU.out hna
         have HGN : Hid (LG W0 w8 W0.heap.size B6 N s0 (.slice fa fn fc) (.slice aa am ac) (.slice xa xn xc) (.slice pa pn pc) (.slice la ln lc) (.slice (some ⟨g6',0,none⟩) is2.length k6') (.slice f7' bs2.length k7') is2 bs2 Q (.slice p1 (fl + 1) p3) qa (S0.2.1 ++ [lst]) (numLets (κ (C u)) n (S0.1,S0.2.2) (c + 1)).2 /\ fw2.map C = (numLets (κ (C u)) n (S0.1,S0.2.2) (c + 1)).1):=by
          rw [HSK.out]
          exact ⟨hG8,HRR.out.2.2.1⟩
         clear hG8 hna HRN
         go_wp2
         go_roundw
         case rel => exact ⟨c + 1,_,_,qa,is2,bs2,fw2,by omega,by go_num,HGN.out.1,HRR.out.1,HRR.out.2.1,HGN.out.2,HRR.out.2.2.2.1,HRR.out.2.2.2.2⟩
         case measure => simp [intOf]; omega
       ·obtain rfl : c = 9:=by omega
        have HNX : Hid (numN κ (C []) (n + 1) = ((numLets (κ (C u)) n (S0.1,S0.2.2) 9).1,S0.2.1 ++ [lst],(numLets (κ (C u)) n (S0.1,S0.2.2) 9).2)):=by
         show ((numLets (κ ((numN κ (C []) n).1.getD n 0)) n ((numN κ (C []) n).1,(numN κ (C []) n).2.2) 9).1,(numN κ (C []) n).2.1 ++ [gI (κ ((numN κ (C []) n).1.getD n 0)) 0],(numLets (κ ((numN κ (C []) n).1.getD n 0)) n ((numN κ (C []) n).1,(numN κ (C []) n).2.2) 9).2) = _
         rw [HSU.out,HKF.out,<- HS0.out]
        have HEND : Hid (∃ S1,S1 = numN κ (C []) (n + 1) /\ n + 1 <= is2.length /\ LG W0 wr W0.heap.size B6 N s0 (.slice fa fn fc) (.slice aa am ac) (.slice xa xn xc) (.slice pa pn pc) (.slice la ln lc) fv bv is2 bs2 Q (.slice p1 (fl + 1) p3) qa S1.2.1 S1.2.2 /\ FBs t s0 ws C is2 bs2 fw2 /\ (∀ u ∈ fw2,Alive t s0 u) /\ fw2.map C = S1.1 /\ fw2[0]? = some []):=by
         refine ⟨_,rfl,by have:=(List.getElem?_eq_some_iff.1 hin).1; omega,?_,hF,hal,?_,hfw0⟩
         ·rw [HNX.out]; exact hG
         ·rw [HNX.out]; exact hmap
        have HALL : Hid (∀ j,j < n + 1 -> j < (numN κ (C []) j).1.length):=fun j hj => by
         by_cases e : j = n
         ·subst e
          rw [<- HR.out.2.2.1,List.length_map]
          exact (List.getElem?_eq_some_iff.1 HU.out.2.1).1
         ·exact HR.out.2.2.2.2 j (by omega)
        clear hG hF hal hmap hfw0 hin
        go_wp2
        go_roundw
        case rel =>
         obtain ⟨S1,e1,e2,e3,e4,e5,e6,e7⟩:=HEND.out
         subst e1
         first
         | exact ⟨n + 1,fv,bv,_,qa,is2,bs2,fw2,by go_num,e2,e3,e4,e5,e6,e7,HALL.out⟩
        case measure => simp [intOf]; omega
   ·obtain rfl : n = is.length:=by omega
    have hni : ¬ (is.length : Int) < (m6 : Int):=by omega
    have HRUN : Hid (RunN κ (C []) is.length):=⟨hall,by rw [<- hmap,List.length_map,hF.l2]⟩
    obtain ⟨S0,hS0⟩ : ∃ S,S = numN κ (C []) is.length:=⟨_,rfl⟩
    have hln:=numN_len κ (C []) is.length
    rw [<- hS0] at hG hln
    have HS0:=hid_of hS0
    obtain ⟨f1,f3,rfl⟩:=own_slice hG.fo
    obtain ⟨r1,r3,rfl⟩:=own_slice hG.ao
    obtain ⟨fl,hfl⟩ : ∃ n,n = S0.2.1.length:=⟨_,rfl⟩
    obtain ⟨rl,hrl⟩ : ∃ n,n = S0.2.2.length:=⟨_,rfl⟩
    rw [<- hfl,<- hrl] at hG
    have d0:=hG.q0
    have d1:=hG.q1
    have d2:=hG.q2
    have d3:=hG.q3
    have e0:=hG.qz 0
    have hQ1:=hG.hQ
    have h61:=hG.ls.h6
    obtain ⟨Wq,hWq⟩ : ∃ W,W = wr.setCell ⟨Q,0,none⟩ (.int .i64 (m6 : Int)):=⟨_,rfl⟩
    have hfQ : (Value.slice f1 fl f3).ownBlock ≠ some Q:=fun e => by have:=own_base hG.fo Q e; omega
    have hrQ : (Value.slice r1 rl r3).ownBlock ≠ some Q:=fun e => by have:=own_base hG.ao Q e; omega
    have fo:=ownsRow_setCell_far (i:=0) (u:=.int .i64 (m6 : Int)) hG.fo hfQ
    have ro:=ownsRow_setCell_far (i:=0) (u:=.int .i64 (m6 : Int)) hG.ao hrQ
    rw [<- hWq] at fo ro
    have hmw:=mostW_any ⟨(m6 : Int),0,S0.2.1,S0.2.2⟩ (.slice f1 fl f3) (.slice r1 rl r3) Wq ⟨by show S0.2.1.length <= 3000; omega,by show S0.2.2.length <= 3000; omega⟩ (ownsRow_ints fo) (ownsRow_arcs ro)
    have hbq : Below W0.heap.size W0 Wq:=by rw [hWq]; exact hG.ls.bel.setCell (p:=⟨Q,0,none⟩) (by show W0.heap.size <= Q; omega) _
    have qc : CellsF Wq Q (m6 : Int) 0 (.slice f1 fl f3) (.slice r1 rl r3):=by
     rw [hWq]
     exact ⟨World.cell?_setCell_same _ _ _ d0,by rw [World.cell?_setCell_other _ _ _ _ (by intro e1; injection e1 with _ e2; omega)]; exact d1,by rw [World.cell?_setCell_other _ _ _ _ (by intro e1; injection e1 with _ e2; omega)]; exact d2,by rw [World.cell?_setCell_other _ _ _ _ (by intro e1; injection e1 with _ e2; omega)]; exact d3⟩
    have HOW:=hid_of (And.intro fo ro)
    rw [hWq] at hmw
    have HWQ:=hid_of hWq
    clear hG hS0 hfl hrl hln hF hal hmap hfw0 hall fo ro hfQ hrQ hWq hm6 hm7 hlb c7 hlt hn
    go_wp2_with fail
    refine hmw.mono ?_
    rintro e' w8 ⟨x,rfl,hx0,hxin,hxa,hxf,hb8⟩
    rw [<- HWQ.out] at hb8
    have HX:=hid_of (And.intro hxin (And.intro hxa hxf))
    obtain ⟨z0,z1,z2,z3,y0,y1,y2,y3⟩:=zfacts (heap_bel (bel_on hbq hb8) HZ0.out)
    obtain ⟨g0,g1,g2,g3⟩:=qc.below hb8
    have HBB:=hid_of (bel_on HBW.out (bel_on hbq hb8))
    have HOW8:=hid_of (And.intro (ownsRow_bel HOW.out.1 hb8) (ownsRow_bel HOW.out.2 hb8))
    have hwl:=heap_lt HZ0.out
    clear hmw HWQ hxin hxa hxf d0 d1 d2 d3 e0 qc hb8 hbq HOW
    by_cases hgt : 1000000000 < x
    ·have HGR : Hid (Great S0.2.1 S0.2.2):=by
      rcases HX.out.1 with e | ⟨a,ha,e⟩ | e
      ·omega
      ·exact ⟨x,hgt,Or.inr ⟨a,ha,e⟩⟩
      ·exact ⟨x,hgt,Or.inl e⟩
     go_wp2
     refine bodyPost_ret (v:=.tuple #[.agg #[.int .i64 0,.int .i64 0,.slice none 0 0,.slice none 0 0],.int .i64 2]) (by simp [results,Try.results20,go_sem, *]) rfl ?_
     exact ⟨is.length,HRUN.out,bel_set4 HBB.out (by omega) _ _ _ _,Or.inl ⟨by rw [<- HS0.out]; exact HGR.out,rfl⟩⟩
    ·have HGR : Hid (¬ Great S0.2.1 S0.2.2):=by
      rintro ⟨y,hy,h | ⟨a,ha,e⟩⟩
      ·have:=HX.out.2.2 y h; omega
      ·have:=HX.out.2.1 a ha; omega
     have hQw : Q ≠ w.heap.size + 1:=by omega
     go_wp2
     refine bodyPost_ret (v:=.tuple #[.agg #[.int .i64 (m6 : Int),.int .i64 0,.slice f1 fl f3,.slice r1 rl r3],.int .i64 0]) (by simp [results,Try.results20,go_sem, *]) rfl ?_
     have hx1 : (Value.slice f1 fl f3).ownBlock ≠ some (w.heap.size + 1):=fun e => by have:=own_base HOW8.out.1 _ e; omega
     have hx2 : (Value.slice r1 rl r3).ownBlock ≠ some (w.heap.size + 1):=fun e => by have:=own_base HOW8.out.2 _ e; omega
     have h1:=ownsRow_setCell_far (i:=3) (u:=.slice r1 rl r3) (ownsRow_setCell_far (i:=2) (u:=.slice f1 fl f3) (ownsRow_setCell_far (i:=1) (u:=.int .i64 0) (ownsRow_setCell_far (i:=0) (u:=.int .i64 (m6 : Int)) HOW8.out.1 hx1) hx1) hx1) hx1
     have h2:=ownsRow_setCell_far (i:=3) (u:=.slice r1 rl r3) (ownsRow_setCell_far (i:=2) (u:=.slice f1 fl f3) (ownsRow_setCell_far (i:=1) (u:=.int .i64 0) (ownsRow_setCell_far (i:=0) (u:=.int .i64 (m6 : Int)) HOW8.out.2 hx2) hx2) hx2) hx2
     exact ⟨is.length,HRUN.out,bel_set4 HBB.out (by omega) _ _ _ _,Or.inr ⟨by rw [<- HS0.out]; exact HGR.out,f1,fl,f3,r1,rl,r3,by rw [HM67.out.1],by rw [<- HS0.out]; exact ownsRow_ints h1,by rw [<- HS0.out]; exact ownsRow_arcs h2,fun b e => by have:=own_base HOW8.out.1 b e; omega,fun b e => by have:=own_base HOW8.out.2 b e; omega⟩⟩
end Go.Proofs.Yteehgcbjmdideab
