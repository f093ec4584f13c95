/- 'stay' of package fst: the new number of each state that stays. -/
import Derived.Test.YteehgcbjmdideabVM23
import Derived.Test.YteehgcbjmdideabVM06
import Derived.Test.YteehgcbjmdideabVM00
import Derived.Test.YteehgcbjmdideabVShelf
import Derived.Lib.AppendIntMem
import Derived.Lib.SmallJoins
import Derived.Deep.OwnRows
import Derived.Laws.CopyOwn
import Derived.Deep.RegionLaw
import Derived.Lib.Split
import Derived.Lib.SplitLaws
import Derived.Lib.IndexMore
import Derived.Lib.IndexBytes
import Derived.ChangeAgain
import Derived.Lib.QuietBelow
import Derived.Deep.AppendLies
set_option maxRecDepth 100000
namespace Go.Proofs.Yteehgcbjmdideab.Sc
open Go.RowKit Go.Maps Go.ChangeShapes
attribute [local go_sem ↓] Go.wp_at_zero Go.wp_at_succ
def NumAt (w : World) (B n : Nat) (st : Nat -> Bool) (k : Nat) : Prop:=∃ D : DataW Unit,w.ownsMap Try.prog 3 (plainElem Try.prog 3) B n D /\ Maps.size D = newNo st k /\
 (∀ x : Nat,Maps.has D (.int .i64 (x : Int)) = (decide (x < k) && st x)) /\ ∀ x : Nat,x < k -> st x = true -> D.atKey (.int .i64 (x : Int)) (.lit (.int .i64 0)) = .lit (.int .i64 (newNo st x))
theorem NumAt.below {w w' : World} {B n k : Nat} {st : Nat -> Bool} (h : NumAt w B n st k) (hb : Below w.heap.size w w') : NumAt w' B n st k:=by
 obtain ⟨D,h1,h2⟩:=h
 exact ⟨D,h1.kept (bel_grown hb) (by simp),h2⟩
theorem NumAt.start (w : World) (st : Nat -> Bool) : NumAt (w.alloc (.map #[] 0)) w.heap.size 0 st 0 :=
 ⟨.map [],World.ownsMap_made _ _ _ _,rfl,fun x => by simp [Maps.has],fun x hx => by omega⟩
theorem NumAt.miss {w : World} {B n k : Nat} {st : Nat -> Bool} (h : NumAt w B n st k) (hk : st k = false) : NumAt w B n st (k + 1):=by
 obtain ⟨D,h1,h2,h3,h4⟩:=h
 refine ⟨D,h1,by rw [h2,newNo_succ,hk]; rfl,fun x => ?_,fun x hx hs => ?_⟩
 ·rw [h3 x]
  by_cases e : x = k
  ·subst e; simp [hk]
  ·have : decide (x < k + 1) = decide (x < k):=by rw [Bool.eq_iff_iff]; simp; omega
   rw [this]
 ·by_cases e : x = k
  ·subst e; rw [hk] at hs; cases hs
  ·exact h4 x (by omega) hs
theorem num_put {D : DataW Unit} {k : Nat} {st : Nat -> Bool} (hT : Tidy D) (h2 : Maps.size D = newNo st k) (h3 : ∀ x : Nat,Maps.has D (.int .i64 (x : Int)) = (decide (x < k) && st x))
  (h4 : ∀ x : Nat,x < k -> st x = true -> D.atKey (.int .i64 (x : Int)) (.lit (.int .i64 0)) = .lit (.int .i64 (newNo st x))) (hk : st k = true) :
  Maps.size (D.put (.int .i64 (k : Int)) (.lit (.int .i64 (newNo st k)))) = newNo st (k + 1) /\ (∀ x : Nat,Maps.has (D.put (.int .i64 (k : Int)) (.lit (.int .i64 (newNo st k)))) (.int .i64 (x : Int)) = (decide (x < k + 1) && st x)) /\
   ∀ x : Nat,x < k + 1 -> st x = true -> (D.put (.int .i64 (k : Int)) (.lit (.int .i64 (newNo st k)))).atKey (.int .i64 (x : Int)) (.lit (.int .i64 0)) = .lit (.int .i64 (newNo st x)):=by
 refine ⟨?_,fun x => ?_,fun x hx hs => ?_⟩
 ·rw [size_put hT,h3 k,h2,newNo_succ,hk]; simp
 ·rw [has_put D hT.isMap,h3 x]
  by_cases e : x = k
  ·subst e; simp [hk]
  ·have : decide (x < k + 1) = decide (x < k):=by rw [Bool.eq_iff_iff]; simp; omega
   rw [this]; simp [e]
 ·by_cases e : x = k
  ·subst e; exact atKey_put_same hT.isMap (isKeyI _) _ _
  ·rw [atKey_put_other (by intro h; apply e; have:=(Lit.int.inj h).2; omega)]
   exact h4 x (by omega) hs
set_option maxHeartbeats 4000000 in
theorem stay_any (f : FstD) (N : Nat) (fin : Value) (aa : Option Addr) (n ac : Nat) (w : World) (hf : ISlice w fin f.final) (hfl : f.final.length = N) (ha : ASlice w (.slice aa n ac) f.arcs) (hal : f.arcs.length = n) (hn : n <= 3000) (hN1 : 1 <= N) (hN : N <= 200) (hst : f.states = N)
  (hok : ∀ a ∈ f.arcs,(0 <= a.src /\ a.src < N) /\ (0 <= a.dst /\ a.dst < N)) :
  Calls Try.prog 58 #[.agg #[.int .i64 (N : Int),.int .i64 f.start,fin,.slice aa n ac]] w fun e w' =>
   ∃ B m st,e = .returned (.map (some B)) /\ NumAt w' B m st N /\ (∀ i,st i = true ↔ Stays f i) /\ m <= 200 /\ w.heap.size <= B /\ Below w.heap.size w w':=by
 have hcF : CellsF (w.alloc (.cells #[.int .i64 (N : Int),.int .i64 f.start,fin,.slice aa n ac] 25)) w.heap.size (N : Int) f.start fin (.slice aa n ac):=by simp [CellsF]
 have hb0:=bel_up (bel_self w) (.cells #[.int .i64 (N : Int),.int .i64 f.start,fin,.slice aa n ac] 25)
 have HST : Hid (f.states = (N : Int)):=hst
 have HAL : Hid (f.arcs.length = n):=hal
 have HFL : Hid (f.final.length = N):=hfl
 have HOK : Hid (∀ a ∈ f.arcs,(0 <= a.src /\ a.src < N) /\ (0 <= a.dst /\ a.dst < N)):=hok
 have HN1 : Hid (1 <= N):=hN1
 clear hst hal hfl hok hN1
 have hmm:=@run_makeMap Try.prog
 go_enter Try.func58,Try.ntmps58
 go_wp2_with (first | (go_at_call 86; refine (reach_B f N w.heap.size fin aa n ac w1 hc1 (hf.below hbx) HFL.out (ha.below hbx) HAL.out hn HN1.out hN HOK.out).mono ?_; rintro e w2 ⟨B2,k2,M2,rfl,hS2,hM2,_,hB2,hb2⟩; have hs1:=hS1.below hb2; have hc2:=hc1.below hb2; have hby:=bel_on hbx hb2; have p0:=old_cell (o:=.map #[] 0) hc2.1; clear q0 q1 q2 q3) | (go_at_call 86; refine (reach_A f N w.heap.size fin aa n ac _ hcF (ha.below hb0) HAL.out hn HN1.out hN HOK.out).mono ?_; rintro e w1 ⟨B1,k1,M1,rfl,hS1,hM1,_,hB1,hb1⟩; have hc1:=hcF.below hb1; have hbx:=bel_on hb0 hb1; have hq:=hc1; obtain ⟨q0,q1,q2,q3⟩:=hq))
 obtain ⟨D1,hD1,hh1⟩:=hs1
 obtain ⟨D2,hD2,hh2⟩:=hS2
 obtain ⟨st,hst⟩ : ∃ st : Nat -> Bool,st = fun x => M1 x && M2 x:=⟨_,rfl⟩
 have HSt : Hid (∀ x,st x = (M1 x && M2 x)):=fun x => by rw [hst]
 have HSS : Hid (∀ i,st i = true ↔ Stays f i):=fun i => by
  rw [hst]
  show (M1 i && M2 i) = true ↔ _
  rw [Bool.and_eq_true,hM1 i,hM2 i]
  unfold Stays
  rw [HST.out]
  simp
 clear hst hM1 hM2
 go_loopw [20] (fun i wr => ∃ k : Nat,k <= N /\ i = .int .i64 k /\ ∃ m,m <= k /\ NumAt wr w2.heap.size m st k /\ Below w2.heap.size w2 wr /\ w2.heap.size + 1 <= wr.heap.size) (fun i _ => N - (intOf i).toNat)
 case atStart => exact ⟨0,Nat.zero_le _,rfl,0,Nat.le_refl _,NumAt.start _ _,bel_up (bel_self _) _,by simp⟩
 case round =>
  clear p0
  obtain ⟨k,hk,rfl,m,hmk,hnum,hB,hsz⟩:=hrel
  have e1:=(hD1.kept (bel_grown hB) (by simp))
  have e2:=(hD2.kept (bel_grown hB) (by simp))
  by_cases hlt : k < N
  ·have hi : (k : Int) < N:=by omega
   have hkey:=keyN k (by omega)
   have hx1:=hh1 k
   have hx2:=hh2 k
   have hsk:=HSt.out k
   have HNM : Hid (NumAt wr w2.heap.size m st k):=hnum
   cases m1 : M1 k
   ·rw [m1] at hx1 hsk
    have HK : Hid (st k = false):=hsk
    clear hsk
    go_wp2_with (first | (at_lookup; refine wpList_lookup_own_unit _ rfl _ _ 104 rfl 3 106 keyI Try.underlying104 (zeroU _) B1 _ D1 rfl e1 _ _ rfl hkey ?_; rw [hx1]) | (at_lookup; refine wpList_lookup_own_unit _ rfl _ _ 104 rfl 3 106 keyI Try.underlying104 (zeroU _) B2 _ D2 rfl (e2.alloc _) _ _ rfl hkey ?_; rw [hx2]))
    go_roundw
    case rel => exact ⟨k + 1,by omega,by go_num,m,by omega,(HNM.out.below (bel_up (bel_up (bel_self _) _) _)).miss HK.out,bel_up (bel_up hB _) _,by simp; omega⟩
    case measure => simp [intOf]; omega
   ·cases m2 : M2 k
    ·rw [m1,m2] at hsk
     rw [m1] at hx1
     rw [m2] at hx2
     have HK : Hid (st k = false):=hsk
     clear hsk
     go_wp2_with (first | (at_lookup; refine wpList_lookup_own_unit _ rfl _ _ 104 rfl 3 106 keyI Try.underlying104 (zeroU _) B1 _ D1 rfl e1 _ _ rfl hkey ?_; rw [hx1]) | (at_lookup; refine wpList_lookup_own_unit _ rfl _ _ 104 rfl 3 106 keyI Try.underlying104 (zeroU _) B2 _ D2 rfl (e2.alloc _) _ _ rfl hkey ?_; rw [hx2]))
     go_roundw
     case rel => exact ⟨k + 1,by omega,by go_num,m,by omega,(HNM.out.below (bel_up (bel_up (bel_self _) _) _)).miss HK.out,bel_up (bel_up hB _) _,by simp; omega⟩
     case measure => simp [intOf]; omega
    ·rw [m1,m2] at hsk
     rw [m1] at hx1
     rw [m2] at hx2
     have HK : Hid (st k = true):=hsk
     clear hsk
     obtain ⟨D,hD,d2,d3,d4⟩:=hnum
     have HP:=num_put (hD.tidy keyI) d2 d3 d4 HK.out
     have hnw : Maps.size D <= 1000:=by rw [d2]; have:=newNo_le st k; omega
     have HD2 : Hid (Maps.size D = newNo st k):=d2
     have HHP : Hid (Maps.size (D.put (.int .i64 (k : Int)) (.lit (.int .i64 (newNo st k)))) = newNo st (k + 1) /\ (∀ x : Nat,Maps.has (D.put (.int .i64 (k : Int)) (.lit (.int .i64 (newNo st k)))) (.int .i64 (x : Int)) = (decide (x < k + 1) && st x)) /\
      ∀ x : Nat,x < k + 1 -> st x = true -> (D.put (.int .i64 (k : Int)) (.lit (.int .i64 (newNo st k)))).atKey (.int .i64 (x : Int)) (.lit (.int .i64 0)) = .lit (.int .i64 (newNo st x))):=HP
     clear d2 d3 d4 HP
     go_wp2_with (first | (at_lookup; refine wpList_lookup_own_unit _ rfl _ _ 104 rfl 3 106 keyI Try.underlying104 (zeroU _) B1 _ D1 rfl e1 _ _ rfl hkey ?_; rw [hx1]) | (at_lookup; refine wpList_lookup_own_unit _ rfl _ _ 104 rfl 3 106 keyI Try.underlying104 (zeroU _) B2 _ D2 rfl (e2.alloc _) _ _ rfl hkey ?_; rw [hx2]) | (at_len; refine wpList_len_own _ rfl _ 69 rfl 3 3 Try.underlying69 _ w2.heap.size m D rfl ((hD.alloc _).alloc _) ?_; rw [HD2.out]) | (at_mapUpdate; refine wpList_mapUpdate_own _ rfl _ _ _ 69 rfl 3 3 keyI Try.underlying69 _ w2.heap.size m D rfl ((hD.alloc _).alloc _) (by unfold maxLen; omega) _ _ _ rfl rfl hkey _ [] (plainElem_int Try.underlying3 (wfN _ (by have:=HD2.out; omega))) ?_; intro w3 hD3 hg3))
     go_roundw
     case rel => exact ⟨k + 1,by omega,by go_num,m + 1,by omega,⟨_,hD3,HHP.out⟩,(bel_up (bel_up hB _) _).grown hg3 (by simp; omega) (fun j hj => by cases hj; omega),by have:=hg3.size; simp at this; omega⟩
     case measure => simp [intOf]; omega
  ·have HNM : Hid (NumAt wr w2.heap.size m st N):=by
    have : k = N:=by omega
    subst this; exact hnum
   go_wp2
   go_ret
   exact ⟨w2.heap.size,m,st,rfl,HNM.out,HSS.out,by omega,hby.size,hby.trans (hB.mono hby.size)⟩
end Go.Proofs.Yteehgcbjmdideab.Sc
/- 'Print' of package fst: the text,and what Check says. -/
namespace Go.Proofs.Yteehgcbjmdideab.Sc
open Go.RowKit
attribute [local go_sem ↓] Go.wp_at_zero Go.wp_at_succ
theorem heap_bel {w w' : World} (h : Below w.heap.size w w') {g : Nat} {o : Obj} (hg : w.heap[g]? = some o) : w'.heap[g]? = some o:=by
 have : g < w.heap.size:=by
  by_cases h : g < w.heap.size
  ·exact h
  ·rw [Array.getElem?_eq_none (by omega)] at hg; cases hg
 rw [h.block g this]; exact hg
theorem ownsRow_bel {w w' : World} {B e size n : Nat} {v : Value} {xs : List Value} (h : w.ownsRow B e size v n xs) (hb : Below w.heap.size w w') : w'.ownsRow B e size v n xs:=by
 obtain ⟨hl,h⟩:=h
 refine ⟨hl,?_⟩
 rcases h with h | ⟨g,cap,cur,hv,hg,hh,h1,h2,h3,h4⟩
 ·exact Or.inl h
 ·exact Or.inr ⟨g,cap,cur,hv,hg,heap_bel hb hh,h1,h2,h3,h4⟩
end Go.Proofs.Yteehgcbjmdideab.Sc
/- What a text says,line by line: numbers,lines,the transducer that is read. -/
namespace Go.Proofs.Yteehgcbjmdideab.Sc
end Go.Proofs.Yteehgcbjmdideab.Sc
/- 'number' and 'numbers' of package fst. -/
namespace Go.Proofs.Yteehgcbjmdideab.Sc
open Go.RowKit
attribute [local go_sem ↓] Go.wp_at_zero Go.wp_at_succ
end Go.Proofs.Yteehgcbjmdideab.Sc
/- 'numbers' of package fst. -/
namespace Go.Proofs.Yteehgcbjmdideab.Sc
open Go.RowKit
attribute [local go_sem ↓] Go.wp_at_zero Go.wp_at_succ
theorem ownsRow_ints {w : World} {B g : Nat} {v : Value} {xs : List Int} (h : w.ownsRow B g 1 v xs.length (xs.map (Value.int .i64))) : ISlice w v xs:=by
 obtain ⟨_,h⟩:=h
 rcases h with ⟨rfl,h⟩ | ⟨g,cap,cur,rfl,_,hh,h1,h2,h3,h4⟩
 ·exact Or.inl ⟨none,0,rfl,List.length_eq_zero_iff.1 h⟩
 ·refine Or.inr ⟨g,0,xs.length,cap,rfl,⟨rfl,fun i hi => ?_⟩,by omega⟩
  have : (cur.toList.take (xs.length * 1))[i]? = some (.int .i64 (xs.getD i 0)):=by
   rw [h4]; simp [List.getD,hi]
  rw [List.getElem?_take] at this
  simp only [Nat.mul_one,hi,if_true,Array.getElem?_toList] at this
  simp [World.cell?,hh,this]
end Go.Proofs.Yteehgcbjmdideab.Sc
/- The library's slices.Repeat of one number. -/
namespace Go.Proofs.Yteehgcbjmdideab.Sc
open Go.RowKit
attribute [local go_sem ↓] Go.wp_at_zero Go.wp_at_succ
end Go.Proofs.Yteehgcbjmdideab.Sc
/- A text cut at a byte: what the library's Split and Cut give of it. -/
namespace Go.Proofs.Yteehgcbjmdideab.Sc
end Go.Proofs.Yteehgcbjmdideab.Sc
/- The reader of a text: 'takeHead' of package fst. -/
namespace Go.Proofs.Yteehgcbjmdideab.Sc
open Go.RowKit
attribute [local go_sem ↓] Go.wp_at_zero Go.wp_at_succ
theorem heap_lt {w : World} {g : Nat} {o : Obj} (hg : w.heap[g]? = some o) : g < w.heap.size:=by
 by_cases h : g < w.heap.size
 ·exact h
 ·rw [Array.getElem?_eq_none (by omega)] at hg; cases hg
end Go.Proofs.Yteehgcbjmdideab.Sc
/- The reader of a text: 'takeFinal' of package fst. -/
namespace Go.Proofs.Yteehgcbjmdideab.Sc
open Go.RowKit
attribute [local go_sem ↓] Go.wp_at_zero Go.wp_at_succ
def intsV (xs : List Int) : List Value:=xs.map (Value.int .i64)
theorem intsV_set (xs : List Int) (k : Nat) (y : Int) : (intsV xs).toArray.setIfInBounds k (.int .i64 y) = (intsV (xs.set k y)).toArray:=by simp [intsV,List.map_set]
end Go.Proofs.Yteehgcbjmdideab.Sc
/- The reader of a text: 'takeArc' of package fst. -/
namespace Go.Proofs.Yteehgcbjmdideab.Sc
open Go.RowKit
attribute [local go_sem ↓] Go.wp_at_zero Go.wp_at_succ
def arcCells (a : ArcD) : List Value:=[.int .i64 a.src,.int .i64 a.inp,.int .i64 a.out,.int .i64 a.dst,.int .i64 a.wt]
def arcsV (l : List ArcD) : List Value:=l.flatMap arcCells
theorem Try.info54 : (Try.prog.info? 54).map (fun i => (i.zero,i.size,i.bytes)) = some (some (.agg #[.int .i64 0,.int .i64 0,.int .i64 0,.int .i64 0,.int .i64 0]),5,40):=by kernel_rfl
theorem oneCell_arc (a : ArcD) : ∀ u ∈ arcCells a,u.oneCell' = true:=by
 intro u hu
 simp [arcCells] at hu
 rcases hu with rfl | rfl | rfl | rfl | rfl <;> rfl
theorem set_far {w : World} {rb i g k : Nat} {v : Value} (h : g ≠ rb) : (w.setCell ⟨rb,i,none⟩ v).cell? ⟨g,k,none⟩ = w.cell? ⟨g,k,none⟩ :=
 World.cell?_of_block (w:=w) (a:=⟨g,k,none⟩) (Below.heap_setCell w ⟨rb,i,none⟩ v g h)
theorem ownsRow_other {w : World} {B e size n rb i : Nat} {v u : Value} {xs : List Value} (h : w.ownsRow B e size v n xs) (hv : v.ownBlock ≠ some rb) : (w.setCell ⟨rb,i,none⟩ u).ownsRow B e size v n xs:=by
 obtain ⟨hl,h⟩:=h
 refine ⟨hl,?_⟩
 rcases h with h | ⟨g,cap,cur,rfl,hg,hh,h1⟩
 ·exact Or.inl h
 ·refine Or.inr ⟨g,cap,cur,rfl,hg,?_,h1⟩
  rw [Below.heap_setCell _ _ _ _ (by simpa [Value.ownBlock] using hv)]; exact hh
theorem one_pos : 0 < 1:=by decide
end Go.Proofs.Yteehgcbjmdideab.Sc
/- The reader of a text: a line that is no arc's; 'taker',which chooses what takes a line. -/
namespace Go.Proofs.Yteehgcbjmdideab.Sc
open Go.RowKit
attribute [local go_sem ↓] Go.wp_at_zero Go.wp_at_succ
end Go.Proofs.Yteehgcbjmdideab.Sc
/- What a text says as a whole: line by line from the first on. -/
namespace Go.Proofs.Yteehgcbjmdideab.Sc
end Go.Proofs.Yteehgcbjmdideab.Sc
/- 'Parse' of package fst. -/
namespace Go.Proofs.Yteehgcbjmdideab.Sc
open Go.RowKit
attribute [local go_sem ↓] Go.wp_at_zero Go.wp_at_succ
theorem arcsV_get (ars : List ArcD) (i j : Nat) (hi : i < ars.length) (hj : j < 5) : (arcsV ars)[i * 5 + j]? = (arcCells (ars.getD i a0))[j]?:=by
 induction ars generalizing i with
 | nil => simp at hi
 | cons a l ih =>
  have e : arcsV (a :: l) = arcCells a ++ arcsV l:=by simp [arcsV]
  have hl : (arcCells a).length = 5:=rfl
  rw [e]
  cases i with
  | zero => rw [Nat.zero_mul,Nat.zero_add,List.getElem?_append_left (by omega)]; rfl
  | succ i =>
   rw [List.getElem?_append_right (by omega),hl,show (i + 1) * 5 + j - 5 = i * 5 + j by omega,ih i (by simpa using hi)]
   rfl
theorem ownsRow_arcs {w : World} {B g : Nat} {v : Value} {ars : List ArcD} (h : w.ownsRow B g 5 v ars.length (arcsV ars)) : ASlice w v ars:=by
 obtain ⟨_,h⟩:=h
 rcases h with ⟨rfl,h⟩ | ⟨g,cap,cur,rfl,_,hh,h1,h2,h3,h4⟩
 ·exact Or.inl ⟨none,0,rfl,List.length_eq_zero_iff.1 h⟩
 ·have key : ∀ i j,i < ars.length -> j < 5 -> w.cell? ⟨g,0 + i * 5 + j,none⟩ = (arcCells (ars.getD i a0))[j]?:=by
   intro i j hi hj
   have h5:=arcsV_get ars i j hi hj
   rw [<- h4,List.getElem?_take,if_pos (by omega),Array.getElem?_toList] at h5
   rw [Go.Joins.cell_of_block hh,Nat.zero_add]; exact h5
  exact Or.inr ⟨g,0,ars.length,cap,rfl,⟨rfl,fun i hi => key i 0 hi (by omega),fun i hi => key i 1 hi (by omega),fun i hi => key i 2 hi (by omega),fun i hi => key i 3 hi (by omega),fun i hi => key i 4 hi (by omega)⟩,by omega⟩
end Go.Proofs.Yteehgcbjmdideab.Sc
/- 'Parse' of package fst: what it answers. -/
namespace Go.Proofs.Yteehgcbjmdideab.Sc
open Go.RowKit
attribute [local go_sem ↓] Go.wp_at_zero Go.wp_at_succ
def ZBlock (w : World) (R : Nat) : Prop:=w.heap[R]? = some (.cells #[.int .i64 0,.int .i64 0,.slice none 0 0,.slice none 0 0] 25 (0,0))
theorem zfacts {w : World} {R : Nat} (h : ZBlock w R) : w.cell? ⟨R,0,none⟩ = some (.int .i64 0) /\ w.cell? ⟨R,1,none⟩ = some (.int .i64 0) /\ w.cell? ⟨R,2,none⟩ = some (.slice none 0 0) /\ w.cell? ⟨R,3,none⟩ = some (.slice none 0 0) /\ w.frozen? ⟨R,0,none⟩ = false /\ w.frozen? ⟨R,1,none⟩ = false /\ w.frozen? ⟨R,2,none⟩ = false /\ w.frozen? ⟨R,3,none⟩ = false:=by
 refine ⟨?_,?_,?_,?_,Go.Joins.unfrozen_of_block h 0,Go.Joins.unfrozen_of_block h 1,Go.Joins.unfrozen_of_block h 2,Go.Joins.unfrozen_of_block h 3⟩
 ·have:=Go.Joins.cell_of_block h 0; simpa using this
 ·have:=Go.Joins.cell_of_block h 1; simpa using this
 ·have:=Go.Joins.cell_of_block h 2; simpa using this
 ·have:=Go.Joins.cell_of_block h 3; simpa using this
end Go.Proofs.Yteehgcbjmdideab.Sc
