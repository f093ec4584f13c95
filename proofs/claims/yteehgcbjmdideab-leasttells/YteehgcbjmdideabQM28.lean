/- A text cut at a byte: what the library's Split and Cut give of it. -/
import Derived.Test.YteehgcbjmdideabQM27
import Derived.Lib.Split
import Derived.Lib.SplitLaws
import Derived.Lib.IndexMore
import Derived.Lib.IndexBytes
import Derived.ChangeAgain
import Derived.Lib.QuietBelow
import Derived.Deep.AppendLies
set_option maxRecDepth 100000
namespace Go.Proofs.Yteehgcbjmdideab.Sc
end Go.Proofs.Yteehgcbjmdideab.Sc
/- The reader of a text: 'takeHead' of package fst. -/
namespace Go.Proofs.Yteehgcbjmdideab.Sc
open Go.RowKit
attribute [local go_sem ↓] Go.wp_at_zero Go.wp_at_succ
theorem heap_lt {w : World} {g : Nat} {o : Obj} (hg : w.heap[g]? = some o) : g < w.heap.size:=by
 by_cases h : g < w.heap.size
 ·exact h
 ·rw [Array.getElem?_eq_none (by omega)] at hg; cases hg
end Go.Proofs.Yteehgcbjmdideab.Sc
/- The reader of a text: 'takeFinal' of package fst. -/
namespace Go.Proofs.Yteehgcbjmdideab.Sc
open Go.RowKit
attribute [local go_sem ↓] Go.wp_at_zero Go.wp_at_succ
def intsV (xs : List Int) : List Value:=xs.map (Value.int .i64)
theorem intsV_set (xs : List Int) (k : Nat) (y : Int) : (intsV xs).toArray.setIfInBounds k (.int .i64 y) = (intsV (xs.set k y)).toArray:=by simp [intsV,List.map_set]
end Go.Proofs.Yteehgcbjmdideab.Sc
/- The reader of a text: 'takeArc' of package fst. -/
namespace Go.Proofs.Yteehgcbjmdideab.Sc
open Go.RowKit
attribute [local go_sem ↓] Go.wp_at_zero Go.wp_at_succ
def arcCells (a : ArcD) : List Value:=[.int .i64 a.src,.int .i64 a.inp,.int .i64 a.out,.int .i64 a.dst,.int .i64 a.wt]
def arcsV (l : List ArcD) : List Value:=l.flatMap arcCells
theorem Try.info54 : (Try.prog.info? 54).map (fun i => (i.zero,i.size,i.bytes)) = some (some (.agg #[.int .i64 0,.int .i64 0,.int .i64 0,.int .i64 0,.int .i64 0]),5,40):=by kernel_rfl
theorem oneCell_arc (a : ArcD) : ∀ u ∈ arcCells a,u.oneCell' = true:=by
 intro u hu
 simp [arcCells] at hu
 rcases hu with rfl | rfl | rfl | rfl | rfl <;> rfl
theorem set_far {w : World} {rb i g k : Nat} {v : Value} (h : g ≠ rb) : (w.setCell ⟨rb,i,none⟩ v).cell? ⟨g,k,none⟩ = w.cell? ⟨g,k,none⟩ :=
 World.cell?_of_block (w:=w) (a:=⟨g,k,none⟩) (Below.heap_setCell w ⟨rb,i,none⟩ v g h)
theorem ownsRow_other {w : World} {B e size n rb i : Nat} {v u : Value} {xs : List Value} (h : w.ownsRow B e size v n xs) (hv : v.ownBlock ≠ some rb) : (w.setCell ⟨rb,i,none⟩ u).ownsRow B e size v n xs:=by
 obtain ⟨hl,h⟩:=h
 refine ⟨hl,?_⟩
 rcases h with h | ⟨g,cap,cur,rfl,hg,hh,h1⟩
 ·exact Or.inl h
 ·refine Or.inr ⟨g,cap,cur,rfl,hg,?_,h1⟩
  rw [Below.heap_setCell _ _ _ _ (by simpa [Value.ownBlock] using hv)]; exact hh
theorem one_pos : 0 < 1:=by decide
end Go.Proofs.Yteehgcbjmdideab.Sc
/- The reader of a text: a line that is no arc's; 'taker',which chooses what takes a line. -/
namespace Go.Proofs.Yteehgcbjmdideab.Sc
open Go.RowKit
attribute [local go_sem ↓] Go.wp_at_zero Go.wp_at_succ
end Go.Proofs.Yteehgcbjmdideab.Sc
/- What a text says as a whole: line by line from the first on. -/
namespace Go.Proofs.Yteehgcbjmdideab.Sc
end Go.Proofs.Yteehgcbjmdideab.Sc
/- 'Parse' of package fst. -/
namespace Go.Proofs.Yteehgcbjmdideab.Sc
open Go.RowKit
attribute [local go_sem ↓] Go.wp_at_zero Go.wp_at_succ
theorem arcsV_get (ars : List ArcD) (i j : Nat) (hi : i < ars.length) (hj : j < 5) : (arcsV ars)[i * 5 + j]? = (arcCells (ars.getD i a0))[j]?:=by
 induction ars generalizing i with
 | nil => simp at hi
 | cons a l ih =>
  have e : arcsV (a :: l) = arcCells a ++ arcsV l:=by simp [arcsV]
  have hl : (arcCells a).length = 5:=rfl
  rw [e]
  cases i with
  | zero => rw [Nat.zero_mul,Nat.zero_add,List.getElem?_append_left (by omega)]; rfl
  | succ i =>
   rw [List.getElem?_append_right (by omega),hl,show (i + 1) * 5 + j - 5 = i * 5 + j by omega,ih i (by simpa using hi)]
   rfl
theorem ownsRow_arcs {w : World} {B g : Nat} {v : Value} {ars : List ArcD} (h : w.ownsRow B g 5 v ars.length (arcsV ars)) : ASlice w v ars:=by
 obtain ⟨_,h⟩:=h
 rcases h with ⟨rfl,h⟩ | ⟨g,cap,cur,rfl,_,hh,h1,h2,h3,h4⟩
 ·exact Or.inl ⟨none,0,rfl,List.length_eq_zero_iff.1 h⟩
 ·have key : ∀ i j,i < ars.length -> j < 5 -> w.cell? ⟨g,0 + i * 5 + j,none⟩ = (arcCells (ars.getD i a0))[j]?:=by
   intro i j hi hj
   have h5:=arcsV_get ars i j hi hj
   rw [<- h4,List.getElem?_take,if_pos (by omega),Array.getElem?_toList] at h5
   rw [Go.Joins.cell_of_block hh,Nat.zero_add]; exact h5
  exact Or.inr ⟨g,0,ars.length,cap,rfl,⟨rfl,fun i hi => key i 0 hi (by omega),fun i hi => key i 1 hi (by omega),fun i hi => key i 2 hi (by omega),fun i hi => key i 3 hi (by omega),fun i hi => key i 4 hi (by omega)⟩,by omega⟩
end Go.Proofs.Yteehgcbjmdideab.Sc
/- 'Parse' of package fst: what it answers. -/
namespace Go.Proofs.Yteehgcbjmdideab.Sc
open Go.RowKit
attribute [local go_sem ↓] Go.wp_at_zero Go.wp_at_succ
def ZBlock (w : World) (R : Nat) : Prop:=w.heap[R]? = some (.cells #[.int .i64 0,.int .i64 0,.slice none 0 0,.slice none 0 0] 25 (0,0))
theorem zfacts {w : World} {R : Nat} (h : ZBlock w R) : w.cell? ⟨R,0,none⟩ = some (.int .i64 0) /\ w.cell? ⟨R,1,none⟩ = some (.int .i64 0) /\ w.cell? ⟨R,2,none⟩ = some (.slice none 0 0) /\ w.cell? ⟨R,3,none⟩ = some (.slice none 0 0) /\ w.frozen? ⟨R,0,none⟩ = false /\ w.frozen? ⟨R,1,none⟩ = false /\ w.frozen? ⟨R,2,none⟩ = false /\ w.frozen? ⟨R,3,none⟩ = false:=by
 refine ⟨?_,?_,?_,?_,Go.Joins.unfrozen_of_block h 0,Go.Joins.unfrozen_of_block h 1,Go.Joins.unfrozen_of_block h 2,Go.Joins.unfrozen_of_block h 3⟩
 ·have:=Go.Joins.cell_of_block h 0; simpa using this
 ·have:=Go.Joins.cell_of_block h 1; simpa using this
 ·have:=Go.Joins.cell_of_block h 2; simpa using this
 ·have:=Go.Joins.cell_of_block h 3; simpa using this
end Go.Proofs.Yteehgcbjmdideab.Sc
/- 'Trim' of package fst. -/
namespace Go.Proofs.Yteehgcbjmdideab.Sc
open Go.RowKit Go.Maps Go.ChangeShapes
attribute [local go_sem ↓] Go.wp_at_zero Go.wp_at_succ
theorem bel_set4 {B R : Nat} {a w : World} (h : Below B a w) (hR : B <= R) (u0 u1 u2 u3 : Value) : Below B a ((((w.setCell ⟨R,0,none⟩ u0).setCell ⟨R,1,none⟩ u1).setCell ⟨R,2,none⟩ u2).setCell ⟨R,3,none⟩ u3) :=
 (((h.setCell (p:=⟨R,0,none⟩) hR _).setCell (p:=⟨R,1,none⟩) hR _).setCell (p:=⟨R,2,none⟩) hR _).setCell (p:=⟨R,3,none⟩) hR _
theorem row_set4 {w : World} {B e size n R : Nat} {v : Value} {xs : List Value} (h : w.ownsRow B e size v n xs) (hv : v.ownBlock ≠ some R) (u0 u1 u2 u3 : Value) : ((((w.setCell ⟨R,0,none⟩ u0).setCell ⟨R,1,none⟩ u1).setCell ⟨R,2,none⟩ u2).setCell ⟨R,3,none⟩ u3).ownsRow B e size v n xs :=
 ownsRow_other (ownsRow_other (ownsRow_other (ownsRow_other h hv) hv) hv) hv
theorem zblock2 (w : World) (o : Obj) : ZBlock ((w.alloc o).alloc (.cells #[.int .i64 0,.int .i64 0,.slice none 0 0,.slice none 0 0] 25)) (w.heap.size + 1):=by
 have:=heap_alloc_new (w.alloc o) (.cells #[.int .i64 0,.int .i64 0,.slice none 0 0,.slice none 0 0] 25)
 unfold ZBlock
 simpa using this
theorem trim_bad (f : FstD) (fin arcs : Value) (w : World) (hf : ISlice w fin f.final) (ha : ASlice w arcs f.arcs) (hc : (checkD f == 0) = false) :
  Calls Try.prog 28 #[.agg #[.int .i64 f.states,.int .i64 f.start,fin,arcs]] w fun e w' =>
   e = .returned (.tuple #[.agg #[.int .i64 0,.int .i64 0,.slice none 0 0,.slice none 0 0],.int .i64 (checkD f)]) /\ Below w.heap.size w w':=by
 have hb0:=bel_up (bel_up (bel_self w) (.cells #[.int .i64 f.states,.int .i64 f.start,fin,arcs] 25)) (.cells #[.int .i64 0,.int .i64 0,.slice none 0 0,.slice none 0 0] 25)
 have h1:=hf.below hb0
 have h2:=ha.below hb0
 have hz:=zblock2 w (.cells #[.int .i64 f.states,.int .i64 f.start,fin,arcs] 25)
 go_enter Try.func28,Try.ntmps28
 go_wp2_with (go_at_call 33; refine (check_any f _ _ _ h1 h2).mono ?_; rintro e w1 ⟨rfl,hbw⟩; obtain ⟨z0,z1,z2,z3,y0,y1,y2,y3⟩:=zfacts (heap_bel hbw hz))
 exact bodyPost_ret (v:=.tuple #[.agg #[.int .i64 0,.int .i64 0,.slice none 0 0,.slice none 0 0],.int .i64 (checkD f)]) (by simp [results,Try.results28,go_sem, *]) rfl ⟨rfl,bel_set4 (bel_on hb0 hbw) (by omega) _ _ _ _⟩
def FreshT (B : Nat) (w : World) (fv av : Value) (t : FstD) : Prop:=∀ W : World,(∀ b,B <= b -> b < w.heap.size -> W.heap[b]? = w.heap[b]?) -> ISlice W fv t.final /\ ASlice W av t.arcs
def TrimResF (w0 : World) (f : FstD) (e : Ending) (w : World) : Prop :=
 ∃ t fv av,e = .returned (.tuple #[.agg #[.int .i64 t.states,.int .i64 t.start,fv,av],.int .i64 0]) /\ IsTrim f t /\ FreshT w0.heap.size w fv av t
theorem own_keep {w w' : World} {B e size n : Nat} {v : Value} {xs : List Value} (h : w.ownsRow B e size v n xs) (hb : ∀ b,B <= b -> b < w.heap.size -> w'.heap[b]? = w.heap[b]?) : w'.ownsRow B e size v n xs:=by
 obtain ⟨h0,h⟩:=h
 refine ⟨h0,?_⟩
 rcases h with h | ⟨g,cap,cur,rfl,hg,h1,h2⟩
 ·exact Or.inl h
 ·exact Or.inr ⟨g,cap,cur,rfl,hg,(hb g hg (heap_lt h1)).trans h1,h2⟩
theorem fresh_mk {B B1 B2 : Nat} {w : World} {fv av : Value} {st sta : Int} {xs : List Int} {ars : List ArcD} (h1 : w.ownsRow B1 3 1 fv xs.length (xs.map (Value.int .i64))) (h2 : w.ownsRow B2 54 5 av ars.length (arcsV ars)) (hB1 : B <= B1) (hB2 : B <= B2) : FreshT B w fv av ⟨st,sta,xs,ars⟩ :=
 fun _ hW => ⟨ownsRow_ints (own_keep h1 fun b hb hl => hW b (by omega) hl),ownsRow_arcs (own_keep h2 fun b hb hl => hW b (by omega) hl)⟩
set_option maxHeartbeats 4000000 in
theorem trim_none (N s0 : Nat) (xs : List Int) (ars : List ArcD) (fin : Value) (aa : Option Addr) (n ac : Nat) (w : World) (hf : ISlice w fin xs) (hfl : xs.length = N) (ha : ASlice w (.slice aa n ac) ars) (hal : ars.length = n) (hn : n <= 3000) (hN1 : 1 <= N) (hN : N <= 200) (hs0 : s0 < N)
  (hok : ∀ a ∈ ars,(0 <= a.src /\ a.src < N) /\ (0 <= a.dst /\ a.dst < N)) (hc : checkD ⟨N,s0,xs,ars⟩ = 0) (hS : ¬ Stays ⟨N,s0,xs,ars⟩ s0) :
  Calls Try.prog 28 #[.agg #[.int .i64 (N : Int),.int .i64 (s0 : Int),fin,.slice aa n ac]] w fun e w' => TrimResF w ⟨N,s0,xs,ars⟩ e w' /\ Below w.heap.size w w':=by
 have hb0:=bel_up (bel_up (bel_self w) (.cells #[.int .i64 (N : Int),.int .i64 (s0 : Int),fin,.slice aa n ac] 25)) (.cells #[.int .i64 0,.int .i64 0,.slice none 0 0,.slice none 0 0] 25)
 have h1:=hf.below hb0
 have h2:=ha.below hb0
 have hz:=zblock2 w (.cells #[.int .i64 (N : Int),.int .i64 (s0 : Int),fin,.slice aa n ac] 25)
 have hcF : CellsF ((w.alloc (.cells #[.int .i64 (N : Int),.int .i64 (s0 : Int),fin,.slice aa n ac] 25)).alloc (.cells #[.int .i64 0,.int .i64 0,.slice none 0 0,.slice none 0 0] 25)) w.heap.size (N : Int) (s0 : Int) fin (.slice aa n ac):=by simp [CellsF]
 have HFL : Hid (xs.length = N):=hfl
 have HAL : Hid (ars.length = n):=hal
 have HOK : Hid (∀ a ∈ ars,(0 <= a.src /\ a.src < N) /\ (0 <= a.dst /\ a.dst < N)):=hok
 have HS : Hid (¬ Stays ⟨N,s0,xs,ars⟩ s0):=hS
 have HC : Hid (checkD ⟨N,s0,xs,ars⟩ = 0):=hc
 have hkey:=keyN s0 (by omega)
 clear hfl hal hok hS hc
 go_enter Try.func28,Try.ntmps28
 go_wp2_with (first
  | (go_at_call 58; refine (stay_any ⟨N,s0,xs,ars⟩ N fin aa n ac w1 (h1.below hb1) HFL.out (h2.below hb1) HAL.out hn hN1 hN rfl HOK.out).mono ?_; rintro e w2 ⟨B,m,st,rfl,hnum,hss,hm,hBw,hb2⟩; have hc2:=hc1.below hb2; obtain ⟨p0,p1,p2,p3⟩:=hc2; have hz2:=heap_bel hb2 hz1; obtain ⟨D,hD,d2,d3,d4⟩:=hnum; have hst : st s0 = false:=Bool.eq_false_iff.2 (fun h => HS.out ((hss s0).1 h)); have hhas:=d3 s0; rw [hst,Bool.and_false] at hhas)
  | (go_at_call 33; refine (check_any ⟨N,s0,xs,ars⟩ _ _ _ h1 h2).mono ?_; rintro e w1 ⟨rfl,hb1⟩; rw [HC.out]; have hz1:=heap_bel hb1 hz; have hc1:=hcF.below hb1; have hq:=hc1; obtain ⟨q0,q1,q2,q3⟩:=hq)
  | (at_lookup; refine wpList_lookup_own_ok_int _ rfl _ _ 69 rfl 3 3 .i64 keyI Try.underlying69 Try.underlying3 (zeroI _) B m D rfl hD _ _ rfl hkey ?_; intro c hat hwc; rw [hhas]; obtain ⟨z0,z1,z2,z3,y0,y1,y2,y3⟩:=zfacts (heap_bel (bel_up (bel_self w2) (.cells #[.int .i64 (-1)] 3)) hz2)))
 have hrow : ((w2.alloc (.cells #[.int .i64 (-1)] 3))).ownsRow w2.heap.size 3 1 (.slice (some ⟨w2.heap.size,0,none⟩) 1 1) 1 [.int .i64 (-1)]:=World.ownsRow_lit w2 #[.int .i64 (-1)] 1 (Nat.le_refl _) (by decide) rfl
 have HLT : Hid (w.heap.size + 1 < w2.heap.size):=heap_lt hz2
 obtain ⟨x0,x1,x2,x3,_,_,_,_⟩:=zfacts hz2
 exact bodyPost_ret (v:=.tuple #[.agg #[.int .i64 1,.int .i64 0,.slice (some ⟨w2.heap.size,0,none⟩) 1 1,.slice none 0 0],.int .i64 0]) (by simp [results,Try.results28,go_sem, *]) rfl
  ⟨⟨⟨1,0,[-1],[]⟩,_,_,rfl,⟨st,hss,by unfold trimBy; rw [if_neg]; show ¬ st ((s0 : Int).toNat) = true; rw [Int.toNat_natCast,hst]; simp⟩,fresh_mk (xs:=[-1]) (ars:=[]) (row_set4 hrow (by have:=HLT.out; simp [Value.ownBlock]; omega) _ _ _ _) (World.ownsRow_nil _ w2.heap.size _ _) (by have:=HLT.out; omega) (by have:=HLT.out; omega)⟩,bel_set4 (bel_up (bel_on (bel_on hb0 hb1) hb2) _) (by omega) _ _ _ _⟩
structure TS (w : World) (T : Nat) (n0 s0 : Int) (fv av : Value) (xs : List Int) (ars : List ArcD) : Prop where
 c0 : w.cell? ⟨T,0,none⟩ = some (.int .i64 n0)
 c1 : w.cell? ⟨T,1,none⟩ = some (.int .i64 s0)
 c2 : w.cell? ⟨T,2,none⟩ = some fv
 c3 : w.cell? ⟨T,3,none⟩ = some av
 z2 : w.frozen? ⟨T,2,none⟩ = false
 z3 : w.frozen? ⟨T,3,none⟩ = false
 fr : w.ownsInts (T + 1) 3 .i64 fv xs
 ar : w.ownsRow (T + 1) 54 5 av ars.length (arcsV ars)
 ne : fv.ownBlock = none \/ fv.ownBlock ≠ av.ownBlock
 size : T + 1 <= w.heap.size
theorem TS.below {w w' : World} {T : Nat} {n0 s0 : Int} {fv av : Value} {xs : List Int} {ars : List ArcD} (h : TS w T n0 s0 fv av xs ars) (hb : Below w.heap.size w w') : TS w' T n0 s0 fv av xs ars:=by
 have hs:=h.size
 exact ⟨bel_c hb h.c0,bel_c hb h.c1,bel_c hb h.c2,bel_c hb h.c3,(hb.frozen (p:=⟨T,2,none⟩) (by show T < _; omega)).trans h.z2,(hb.frozen (p:=⟨T,3,none⟩) (by show T < _; omega)).trans h.z3,
  h.fr.kept (bel_grown hb) (by cases fv.ownBlock <;> simp),ownsRow_bel h.ar hb,h.ne,Nat.le_trans hs hb.size⟩
theorem TS.start (w : World) (n0 s0 : Int) (o : Nat) (T : Nat) (hT : w.heap.size = T) : TS (w.alloc (.cells #[.int .i64 n0,.int .i64 s0,.slice none 0 0,.slice none 0 0] o)) T n0 s0 (.slice none 0 0) (.slice none 0 0) [] [] :=
 ⟨new_cell _ _ _ _ 0 _ hT rfl,new_cell _ _ _ _ 1 _ hT rfl,new_cell _ _ _ _ 2 _ hT rfl,new_cell _ _ _ _ 3 _ hT rfl,new_frozen _ _ _ _ _ hT,new_frozen _ _ _ _ _ hT,World.ownsInts_nil _ _ _ _,World.ownsRow_nil _ _ _ _,Or.inl rfl,by simp; omega⟩
theorem set_same {w : World} {a : Addr} {u : Value} (h : w.cell? a = some u) (v : Value) : (w.setCell a v).cell? a = some v:=World.cell?_setCell_same _ _ _ h
theorem set_off {w : World} {T i j : Nat} {u v : Value} (h : w.cell? ⟨T,j,none⟩ = some u) (hij : i ≠ j) : (w.setCell ⟨T,i,none⟩ v).cell? ⟨T,j,none⟩ = some u:=by
 rw [World.cell?_setCell_other _ _ _ _ (by intro e; apply hij; injection e)]
 exact h
theorem TS.fin {w w2 : World} {T : Nat} {n0 s0 : Int} {fv v' : Value} {xs : List Int} {x : Int} (h : TS w T n0 s0 fv (.slice none 0 0) xs []) (o : Obj) (hx : (Lit.int .i64 x).wf = true) (hg : (w.alloc o).grownBy w2 fv.ownBlock) (hown : w2.ownsRow (T + 1) 3 1 v' (xs.length + 1) (xs.map (Value.int .i64) ++ [.int .i64 x])) :
  w2.cell? ⟨T,2,none⟩ = some fv /\ w2.frozen? ⟨T,2,none⟩ = false /\ TS (w2.setCell ⟨T,2,none⟩ v') T n0 s0 v' (.slice none 0 0) (xs ++ [x]) [] /\ Below T w (w2.setCell ⟨T,2,none⟩ v'):=by
 have hs:=h.size
 have hs1 : T + 1 <= (w.alloc o).heap.size:=by simp; omega
 have ne : ∀ {k : Nat},k < T + 1 -> some k ≠ fv.ownBlock:=fun hk => row_ne h.fr hk
 have k2:=grown_cell' hg (old_cell (o:=o) h.c2) (ne (by omega))
 have f2 : w2.frozen? ⟨T,2,none⟩ = false:=by rw [grown_frozen hg (by omega) (ne (by omega)),old_frozen (by omega)]; exact h.z2
 have f3 : w2.frozen? ⟨T,3,none⟩ = false:=by rw [grown_frozen hg (by omega) (ne (by omega)),old_frozen (by omega)]; exact h.z3
 have hoi:=h.fr.appended hown hx
 refine ⟨k2,f2,⟨?_,?_,set_same k2 _,?_,?_,?_,⟨ownsRow_setCell_below hoi.1 (by show T < T + 1; omega) _,hoi.2⟩,World.ownsRow_nil _ _ _ _,?_,?_⟩,?_⟩
 ·exact set_off (grown_cell' hg (old_cell (o:=o) h.c0) (ne (by omega))) (by decide)
 ·exact set_off (grown_cell' hg (old_cell (o:=o) h.c1) (ne (by omega))) (by decide)
 ·exact set_off (grown_cell' hg (old_cell (o:=o) h.c3) (ne (by omega))) (by decide)
 ·rw [World.frozen?_setCell]; exact f2
 ·rw [World.frozen?_setCell]; exact f3
 ·show v'.ownBlock = none \/ v'.ownBlock ≠ none
  cases v'.ownBlock <;> simp
 ·have:=hg.size
  simp [World.setCell] at this ⊢
  omega
 ·exact (((bel_up (bel_self w) o).mono (by omega)).grown hg (by omega) (fun k hk => by have:=(h.fr.1.lt k hk).1; omega)).setCell (by show T <= T; omega) _
theorem arcsV_snoc (ars : List ArcD) (a : ArcD) : arcsV (ars ++ [a]) = arcsV ars ++ arcCells a:=by simp [arcsV]
theorem TS.arc {w w2 : World} {T : Nat} {n0 s0 : Int} {fv av v' : Value} {xs : List Int} {ars : List ArcD} {a : ArcD} (h : TS w T n0 s0 fv av xs ars) (o : Obj) (hg : (w.alloc o).grownBy w2 av.ownBlock) (hown : w2.ownsRow (T + 1) 54 5 v' (ars.length + 1) (arcsV ars ++ arcCells a)) (hloc : v'.ownBlock = av.ownBlock \/ v'.ownBlock = some (w.alloc o).heap.size) :
  w2.cell? ⟨T,3,none⟩ = some av /\ w2.frozen? ⟨T,3,none⟩ = false /\ TS (w2.setCell ⟨T,3,none⟩ v') T n0 s0 fv v' xs (ars ++ [a]) /\ Below T w (w2.setCell ⟨T,3,none⟩ v'):=by
 have hs:=h.size
 have hs1 : T + 1 <= (w.alloc o).heap.size:=by simp; omega
 have ne : ∀ {k : Nat},k < T + 1 -> some k ≠ av.ownBlock:=fun {k} hk e => by
  have:=(h.ar.lt k e.symm).1
  omega
 have k3:=grown_cell' hg (old_cell (o:=o) h.c3) (ne (by omega))
 have f2 : w2.frozen? ⟨T,2,none⟩ = false:=by rw [grown_frozen hg (by omega) (ne (by omega)),old_frozen (by omega)]; exact h.z2
 have f3 : w2.frozen? ⟨T,3,none⟩ = false:=by rw [grown_frozen hg (by omega) (ne (by omega)),old_frozen (by omega)]; exact h.z3
 refine ⟨k3,f3,⟨?_,?_,?_,set_same k3 _,?_,?_,?_,?_,?_,?_⟩,?_⟩
 ·exact set_off (grown_cell' hg (old_cell (o:=o) h.c0) (ne (by omega))) (by decide)
 ·exact set_off (grown_cell' hg (old_cell (o:=o) h.c1) (ne (by omega))) (by decide)
 ·exact set_off (grown_cell' hg (old_cell (o:=o) h.c2) (ne (by omega))) (by decide)
 ·rw [World.frozen?_setCell]; exact f2
 ·rw [World.frozen?_setCell]; exact f3
 ·have:=(h.fr.alloc o).kept hg h.ne
  exact ⟨ownsRow_setCell_below this.1 (by show T < T + 1; omega) _,this.2⟩
 ·rw [arcsV_snoc,List.length_append,List.length_singleton]
  exact ownsRow_setCell_below hown (by show T < T + 1; omega) _
 ·rcases hloc with e | e
  ·rw [e]; exact h.ne
  ·rw [e]
   cases hb : fv.ownBlock with
   | none => exact Or.inl rfl
   | some g =>
    right
    have:=(h.fr.1.lt g hb).2
    intro e1
    have e2 : g = (w.alloc o).heap.size:=by simpa using e1
    simp at e2; omega
 ·have:=hg.size
  simp [World.setCell] at this ⊢
  omega
 ·exact (((bel_up (bel_self w) o).mono (by omega)).grown hg (by omega) (fun k hk => by have:=(h.ar.lt k hk).1; omega)).setCell (by show T <= T; omega) _
end Go.Proofs.Yteehgcbjmdideab.Sc
