/- 'Trim' of package fst. -/
import Derived.Test.YteehgcbjmdideabVM24
import Derived.Test.YteehgcbjmdideabVM21
import Derived.Test.YteehgcbjmdideabVM22
import Derived.Test.YteehgcbjmdideabVM00
set_option maxRecDepth 100000
namespace Go.Proofs.Yteehgcbjmdideab.Sc
open Go.RowKit Go.Maps Go.ChangeShapes
attribute [local go_sem ↓] Go.wp_at_zero Go.wp_at_succ
theorem bel_set4 {B R : Nat} {a w : World} (h : Below B a w) (hR : B <= R) (u0 u1 u2 u3 : Value) : Below B a ((((w.setCell ⟨R,0,none⟩ u0).setCell ⟨R,1,none⟩ u1).setCell ⟨R,2,none⟩ u2).setCell ⟨R,3,none⟩ u3) :=
 (((h.setCell (p:=⟨R,0,none⟩) hR _).setCell (p:=⟨R,1,none⟩) hR _).setCell (p:=⟨R,2,none⟩) hR _).setCell (p:=⟨R,3,none⟩) hR _
theorem row_set4 {w : World} {B e size n R : Nat} {v : Value} {xs : List Value} (h : w.ownsRow B e size v n xs) (hv : v.ownBlock ≠ some R) (u0 u1 u2 u3 : Value) : ((((w.setCell ⟨R,0,none⟩ u0).setCell ⟨R,1,none⟩ u1).setCell ⟨R,2,none⟩ u2).setCell ⟨R,3,none⟩ u3).ownsRow B e size v n xs :=
 ownsRow_other (ownsRow_other (ownsRow_other (ownsRow_other h hv) hv) hv) hv
theorem zblock2 (w : World) (o : Obj) : ZBlock ((w.alloc o).alloc (.cells #[.int .i64 0,.int .i64 0,.slice none 0 0,.slice none 0 0] 25)) (w.heap.size + 1):=by
 have:=heap_alloc_new (w.alloc o) (.cells #[.int .i64 0,.int .i64 0,.slice none 0 0,.slice none 0 0] 25)
 unfold ZBlock
 simpa using this
theorem trim_bad (f : FstD) (fin arcs : Value) (w : World) (hf : ISlice w fin f.final) (ha : ASlice w arcs f.arcs) (hc : (checkD f == 0) = false) :
  Calls Try.prog 28 #[.agg #[.int .i64 f.states,.int .i64 f.start,fin,arcs]] w fun e w' =>
   e = .returned (.tuple #[.agg #[.int .i64 0,.int .i64 0,.slice none 0 0,.slice none 0 0],.int .i64 (checkD f)]) /\ Below w.heap.size w w':=by
 have hb0:=bel_up (bel_up (bel_self w) (.cells #[.int .i64 f.states,.int .i64 f.start,fin,arcs] 25)) (.cells #[.int .i64 0,.int .i64 0,.slice none 0 0,.slice none 0 0] 25)
 have h1:=hf.below hb0
 have h2:=ha.below hb0
 have hz:=zblock2 w (.cells #[.int .i64 f.states,.int .i64 f.start,fin,arcs] 25)
 go_enter Try.func28,Try.ntmps28
 go_wp2_with (go_at_call 33; refine (check_any f _ _ _ h1 h2).mono ?_; rintro e w1 ⟨rfl,hbw⟩; obtain ⟨z0,z1,z2,z3,y0,y1,y2,y3⟩:=zfacts (heap_bel hbw hz))
 exact bodyPost_ret (v:=.tuple #[.agg #[.int .i64 0,.int .i64 0,.slice none 0 0,.slice none 0 0],.int .i64 (checkD f)]) (by simp [results,Try.results28,go_sem, *]) rfl ⟨rfl,bel_set4 (bel_on hb0 hbw) (by omega) _ _ _ _⟩
def FreshT (B : Nat) (w : World) (fv av : Value) (t : FstD) : Prop:=∀ W : World,(∀ b,B <= b -> b < w.heap.size -> W.heap[b]? = w.heap[b]?) -> ISlice W fv t.final /\ ASlice W av t.arcs
def TrimResF (w0 : World) (f : FstD) (e : Ending) (w : World) : Prop :=
 ∃ t fv av,e = .returned (.tuple #[.agg #[.int .i64 t.states,.int .i64 t.start,fv,av],.int .i64 0]) /\ IsTrim f t /\ FreshT w0.heap.size w fv av t
theorem own_keep {w w' : World} {B e size n : Nat} {v : Value} {xs : List Value} (h : w.ownsRow B e size v n xs) (hb : ∀ b,B <= b -> b < w.heap.size -> w'.heap[b]? = w.heap[b]?) : w'.ownsRow B e size v n xs:=by
 obtain ⟨h0,h⟩:=h
 refine ⟨h0,?_⟩
 rcases h with h | ⟨g,cap,cur,rfl,hg,h1,h2⟩
 ·exact Or.inl h
 ·exact Or.inr ⟨g,cap,cur,rfl,hg,(hb g hg (heap_lt h1)).trans h1,h2⟩
theorem fresh_mk {B B1 B2 : Nat} {w : World} {fv av : Value} {st sta : Int} {xs : List Int} {ars : List ArcD} (h1 : w.ownsRow B1 3 1 fv xs.length (xs.map (Value.int .i64))) (h2 : w.ownsRow B2 54 5 av ars.length (arcsV ars)) (hB1 : B <= B1) (hB2 : B <= B2) : FreshT B w fv av ⟨st,sta,xs,ars⟩ :=
 fun _ hW => ⟨ownsRow_ints (own_keep h1 fun b hb hl => hW b (by omega) hl),ownsRow_arcs (own_keep h2 fun b hb hl => hW b (by omega) hl)⟩
set_option maxHeartbeats 4000000 in
theorem trim_none (N s0 : Nat) (xs : List Int) (ars : List ArcD) (fin : Value) (aa : Option Addr) (n ac : Nat) (w : World) (hf : ISlice w fin xs) (hfl : xs.length = N) (ha : ASlice w (.slice aa n ac) ars) (hal : ars.length = n) (hn : n <= 3000) (hN1 : 1 <= N) (hN : N <= 200) (hs0 : s0 < N)
  (hok : ∀ a ∈ ars,(0 <= a.src /\ a.src < N) /\ (0 <= a.dst /\ a.dst < N)) (hc : checkD ⟨N,s0,xs,ars⟩ = 0) (hS : ¬ Stays ⟨N,s0,xs,ars⟩ s0) :
  Calls Try.prog 28 #[.agg #[.int .i64 (N : Int),.int .i64 (s0 : Int),fin,.slice aa n ac]] w fun e w' => TrimResF w ⟨N,s0,xs,ars⟩ e w' /\ Below w.heap.size w w':=by
 have hb0:=bel_up (bel_up (bel_self w) (.cells #[.int .i64 (N : Int),.int .i64 (s0 : Int),fin,.slice aa n ac] 25)) (.cells #[.int .i64 0,.int .i64 0,.slice none 0 0,.slice none 0 0] 25)
 have h1:=hf.below hb0
 have h2:=ha.below hb0
 have hz:=zblock2 w (.cells #[.int .i64 (N : Int),.int .i64 (s0 : Int),fin,.slice aa n ac] 25)
 have hcF : CellsF ((w.alloc (.cells #[.int .i64 (N : Int),.int .i64 (s0 : Int),fin,.slice aa n ac] 25)).alloc (.cells #[.int .i64 0,.int .i64 0,.slice none 0 0,.slice none 0 0] 25)) w.heap.size (N : Int) (s0 : Int) fin (.slice aa n ac):=by simp [CellsF]
 have HFL : Hid (xs.length = N):=hfl
 have HAL : Hid (ars.length = n):=hal
 have HOK : Hid (∀ a ∈ ars,(0 <= a.src /\ a.src < N) /\ (0 <= a.dst /\ a.dst < N)):=hok
 have HS : Hid (¬ Stays ⟨N,s0,xs,ars⟩ s0):=hS
 have HC : Hid (checkD ⟨N,s0,xs,ars⟩ = 0):=hc
 have hkey:=keyN s0 (by omega)
 clear hfl hal hok hS hc
 go_enter Try.func28,Try.ntmps28
 go_wp2_with (first
  | (go_at_call 58; refine (stay_any ⟨N,s0,xs,ars⟩ N fin aa n ac w1 (h1.below hb1) HFL.out (h2.below hb1) HAL.out hn hN1 hN rfl HOK.out).mono ?_; rintro e w2 ⟨B,m,st,rfl,hnum,hss,hm,hBw,hb2⟩; have hc2:=hc1.below hb2; obtain ⟨p0,p1,p2,p3⟩:=hc2; have hz2:=heap_bel hb2 hz1; obtain ⟨D,hD,d2,d3,d4⟩:=hnum; have hst : st s0 = false:=Bool.eq_false_iff.2 (fun h => HS.out ((hss s0).1 h)); have hhas:=d3 s0; rw [hst,Bool.and_false] at hhas)
  | (go_at_call 33; refine (check_any ⟨N,s0,xs,ars⟩ _ _ _ h1 h2).mono ?_; rintro e w1 ⟨rfl,hb1⟩; rw [HC.out]; have hz1:=heap_bel hb1 hz; have hc1:=hcF.below hb1; have hq:=hc1; obtain ⟨q0,q1,q2,q3⟩:=hq)
  | (at_lookup; refine wpList_lookup_own_ok_int _ rfl _ _ 69 rfl 3 3 .i64 keyI Try.underlying69 Try.underlying3 (zeroI _) B m D rfl hD _ _ rfl hkey ?_; intro c hat hwc; rw [hhas]; obtain ⟨z0,z1,z2,z3,y0,y1,y2,y3⟩:=zfacts (heap_bel (bel_up (bel_self w2) (.cells #[.int .i64 (-1)] 3)) hz2)))
 have hrow : ((w2.alloc (.cells #[.int .i64 (-1)] 3))).ownsRow w2.heap.size 3 1 (.slice (some ⟨w2.heap.size,0,none⟩) 1 1) 1 [.int .i64 (-1)]:=World.ownsRow_lit w2 #[.int .i64 (-1)] 1 (Nat.le_refl _) (by decide) rfl
 have HLT : Hid (w.heap.size + 1 < w2.heap.size):=heap_lt hz2
 obtain ⟨x0,x1,x2,x3,_,_,_,_⟩:=zfacts hz2
 exact bodyPost_ret (v:=.tuple #[.agg #[.int .i64 1,.int .i64 0,.slice (some ⟨w2.heap.size,0,none⟩) 1 1,.slice none 0 0],.int .i64 0]) (by simp [results,Try.results28,go_sem, *]) rfl
  ⟨⟨⟨1,0,[-1],[]⟩,_,_,rfl,⟨st,hss,by unfold trimBy; rw [if_neg]; show ¬ st ((s0 : Int).toNat) = true; rw [Int.toNat_natCast,hst]; simp⟩,fresh_mk (xs:=[-1]) (ars:=[]) (row_set4 hrow (by have:=HLT.out; simp [Value.ownBlock]; omega) _ _ _ _) (World.ownsRow_nil _ w2.heap.size _ _) (by have:=HLT.out; omega) (by have:=HLT.out; omega)⟩,bel_set4 (bel_up (bel_on (bel_on hb0 hb1) hb2) _) (by omega) _ _ _ _⟩
structure TS (w : World) (T : Nat) (n0 s0 : Int) (fv av : Value) (xs : List Int) (ars : List ArcD) : Prop where
 c0 : w.cell? ⟨T,0,none⟩ = some (.int .i64 n0)
 c1 : w.cell? ⟨T,1,none⟩ = some (.int .i64 s0)
 c2 : w.cell? ⟨T,2,none⟩ = some fv
 c3 : w.cell? ⟨T,3,none⟩ = some av
 z2 : w.frozen? ⟨T,2,none⟩ = false
 z3 : w.frozen? ⟨T,3,none⟩ = false
 fr : w.ownsInts (T + 1) 3 .i64 fv xs
 ar : w.ownsRow (T + 1) 54 5 av ars.length (arcsV ars)
 ne : fv.ownBlock = none \/ fv.ownBlock ≠ av.ownBlock
 size : T + 1 <= w.heap.size
theorem TS.below {w w' : World} {T : Nat} {n0 s0 : Int} {fv av : Value} {xs : List Int} {ars : List ArcD} (h : TS w T n0 s0 fv av xs ars) (hb : Below w.heap.size w w') : TS w' T n0 s0 fv av xs ars:=by
 have hs:=h.size
 exact ⟨bel_c hb h.c0,bel_c hb h.c1,bel_c hb h.c2,bel_c hb h.c3,(hb.frozen (p:=⟨T,2,none⟩) (by show T < _; omega)).trans h.z2,(hb.frozen (p:=⟨T,3,none⟩) (by show T < _; omega)).trans h.z3,
  h.fr.kept (bel_grown hb) (by cases fv.ownBlock <;> simp),ownsRow_bel h.ar hb,h.ne,Nat.le_trans hs hb.size⟩
theorem TS.start (w : World) (n0 s0 : Int) (o : Nat) (T : Nat) (hT : w.heap.size = T) : TS (w.alloc (.cells #[.int .i64 n0,.int .i64 s0,.slice none 0 0,.slice none 0 0] o)) T n0 s0 (.slice none 0 0) (.slice none 0 0) [] [] :=
 ⟨new_cell _ _ _ _ 0 _ hT rfl,new_cell _ _ _ _ 1 _ hT rfl,new_cell _ _ _ _ 2 _ hT rfl,new_cell _ _ _ _ 3 _ hT rfl,new_frozen _ _ _ _ _ hT,new_frozen _ _ _ _ _ hT,World.ownsInts_nil _ _ _ _,World.ownsRow_nil _ _ _ _,Or.inl rfl,by simp; omega⟩
theorem set_same {w : World} {a : Addr} {u : Value} (h : w.cell? a = some u) (v : Value) : (w.setCell a v).cell? a = some v:=World.cell?_setCell_same _ _ _ h
theorem set_off {w : World} {T i j : Nat} {u v : Value} (h : w.cell? ⟨T,j,none⟩ = some u) (hij : i ≠ j) : (w.setCell ⟨T,i,none⟩ v).cell? ⟨T,j,none⟩ = some u:=by
 rw [World.cell?_setCell_other _ _ _ _ (by intro e; apply hij; injection e)]
 exact h
theorem TS.fin {w w2 : World} {T : Nat} {n0 s0 : Int} {fv v' : Value} {xs : List Int} {x : Int} (h : TS w T n0 s0 fv (.slice none 0 0) xs []) (o : Obj) (hx : (Lit.int .i64 x).wf = true) (hg : (w.alloc o).grownBy w2 fv.ownBlock) (hown : w2.ownsRow (T + 1) 3 1 v' (xs.length + 1) (xs.map (Value.int .i64) ++ [.int .i64 x])) :
  w2.cell? ⟨T,2,none⟩ = some fv /\ w2.frozen? ⟨T,2,none⟩ = false /\ TS (w2.setCell ⟨T,2,none⟩ v') T n0 s0 v' (.slice none 0 0) (xs ++ [x]) [] /\ Below T w (w2.setCell ⟨T,2,none⟩ v'):=by
 have hs:=h.size
 have hs1 : T + 1 <= (w.alloc o).heap.size:=by simp; omega
 have ne : ∀ {k : Nat},k < T + 1 -> some k ≠ fv.ownBlock:=fun hk => row_ne h.fr hk
 have k2:=grown_cell' hg (old_cell (o:=o) h.c2) (ne (by omega))
 have f2 : w2.frozen? ⟨T,2,none⟩ = false:=by rw [grown_frozen hg (by omega) (ne (by omega)),old_frozen (by omega)]; exact h.z2
 have f3 : w2.frozen? ⟨T,3,none⟩ = false:=by rw [grown_frozen hg (by omega) (ne (by omega)),old_frozen (by omega)]; exact h.z3
 have hoi:=h.fr.appended hown hx
 refine ⟨k2,f2,⟨?_,?_,set_same k2 _,?_,?_,?_,⟨ownsRow_setCell_below hoi.1 (by show T < T + 1; omega) _,hoi.2⟩,World.ownsRow_nil _ _ _ _,?_,?_⟩,?_⟩
 ·exact set_off (grown_cell' hg (old_cell (o:=o) h.c0) (ne (by omega))) (by decide)
 ·exact set_off (grown_cell' hg (old_cell (o:=o) h.c1) (ne (by omega))) (by decide)
 ·exact set_off (grown_cell' hg (old_cell (o:=o) h.c3) (ne (by omega))) (by decide)
 ·rw [World.frozen?_setCell]; exact f2
 ·rw [World.frozen?_setCell]; exact f3
 ·show v'.ownBlock = none \/ v'.ownBlock ≠ none
  cases v'.ownBlock <;> simp
 ·have:=hg.size
  simp [World.setCell] at this ⊢
  omega
 ·exact (((bel_up (bel_self w) o).mono (by omega)).grown hg (by omega) (fun k hk => by have:=(h.fr.1.lt k hk).1; omega)).setCell (by show T <= T; omega) _
theorem arcsV_snoc (ars : List ArcD) (a : ArcD) : arcsV (ars ++ [a]) = arcsV ars ++ arcCells a:=by simp [arcsV]
theorem TS.arc {w w2 : World} {T : Nat} {n0 s0 : Int} {fv av v' : Value} {xs : List Int} {ars : List ArcD} {a : ArcD} (h : TS w T n0 s0 fv av xs ars) (o : Obj) (hg : (w.alloc o).grownBy w2 av.ownBlock) (hown : w2.ownsRow (T + 1) 54 5 v' (ars.length + 1) (arcsV ars ++ arcCells a)) (hloc : v'.ownBlock = av.ownBlock \/ v'.ownBlock = some (w.alloc o).heap.size) :
  w2.cell? ⟨T,3,none⟩ = some av /\ w2.frozen? ⟨T,3,none⟩ = false /\ TS (w2.setCell ⟨T,3,none⟩ v') T n0 s0 fv v' xs (ars ++ [a]) /\ Below T w (w2.setCell ⟨T,3,none⟩ v'):=by
 have hs:=h.size
 have hs1 : T + 1 <= (w.alloc o).heap.size:=by simp; omega
 have ne : ∀ {k : Nat},k < T + 1 -> some k ≠ av.ownBlock:=fun {k} hk e => by
  have:=(h.ar.lt k e.symm).1
  omega
 have k3:=grown_cell' hg (old_cell (o:=o) h.c3) (ne (by omega))
 have f2 : w2.frozen? ⟨T,2,none⟩ = false:=by rw [grown_frozen hg (by omega) (ne (by omega)),old_frozen (by omega)]; exact h.z2
 have f3 : w2.frozen? ⟨T,3,none⟩ = false:=by rw [grown_frozen hg (by omega) (ne (by omega)),old_frozen (by omega)]; exact h.z3
 refine ⟨k3,f3,⟨?_,?_,?_,set_same k3 _,?_,?_,?_,?_,?_,?_⟩,?_⟩
 ·exact set_off (grown_cell' hg (old_cell (o:=o) h.c0) (ne (by omega))) (by decide)
 ·exact set_off (grown_cell' hg (old_cell (o:=o) h.c1) (ne (by omega))) (by decide)
 ·exact set_off (grown_cell' hg (old_cell (o:=o) h.c2) (ne (by omega))) (by decide)
 ·rw [World.frozen?_setCell]; exact f2
 ·rw [World.frozen?_setCell]; exact f3
 ·have:=(h.fr.alloc o).kept hg h.ne
  exact ⟨ownsRow_setCell_below this.1 (by show T < T + 1; omega) _,this.2⟩
 ·rw [arcsV_snoc,List.length_append,List.length_singleton]
  exact ownsRow_setCell_below hown (by show T < T + 1; omega) _
 ·rcases hloc with e | e
  ·rw [e]; exact h.ne
  ·rw [e]
   cases hb : fv.ownBlock with
   | none => exact Or.inl rfl
   | some g =>
    right
    have:=(h.fr.1.lt g hb).2
    intro e1
    have e2 : g = (w.alloc o).heap.size:=by simpa using e1
    simp at e2; omega
 ·have:=hg.size
  simp [World.setCell] at this ⊢
  omega
 ·exact (((bel_up (bel_self w) o).mono (by omega)).grown hg (by omega) (fun k hk => by have:=(h.ar.lt k hk).1; omega)).setCell (by show T <= T; omega) _
end Go.Proofs.Yteehgcbjmdideab.Sc
/- 'Trim' of package fst where the start stays. -/
namespace Go.Proofs.Yteehgcbjmdideab.Sc
open Go.RowKit Go.Maps Go.ChangeShapes
attribute [local go_sem ↓] Go.wp_at_zero Go.wp_at_succ
theorem wf64 {x : Int} (h : in64 x) : (Lit.int .i64 x).wf = true:=WalkArith.wf_i64 ⟨h.1,h.2⟩
theorem cells_new (w : World) (cs : Array Value) (t N : Nat) (hN : w.heap.size = N) : ∀ j u,cs.toList[j]? = some u -> (w.alloc (.cells cs t)).cell? ((⟨N,0,none⟩ : Addr).add j) = some u:=by
 intro j u h
 rw [addr_add]
 exact new_cell _ _ _ _ j _ hN (by simpa using h)
set_option maxHeartbeats 6000000 in
theorem trim_some (N s0 : Nat) (xs : List Int) (ars : List ArcD) (fb off fc : Nat) (aa : Option Addr) (n ac : Nat) (w : World) (hx : IntsAt w fb off N xs) (ha : ASlice w (.slice aa n ac) ars) (hal : ars.length = n) (hn : n ≤ 3000) (hN1 : 1 ≤ N) (hN : N ≤ 200) (hs0 : s0 < N) (hfm : N ≤ maxLen)
    (hok : ∀ a ∈ ars, (0 ≤ a.src ∧ a.src < N) ∧ (0 ≤ a.dst ∧ a.dst < N)) (hfi : ∀ x ∈ xs, in64 x) (hai : ∀ a ∈ ars, arcIn64 a) (hc : checkD ⟨N, s0, xs, ars⟩ = 0) (hS : Stays ⟨N, s0, xs, ars⟩ s0) :
    Calls Try.prog 28 #[.agg #[.int .i64 (N : Int), .int .i64 (s0 : Int), .slice (some ⟨fb, off, none⟩) N fc, .slice aa n ac]] w fun e w' => TrimResF w ⟨N, s0, xs, ars⟩ e w' ∧ Below w.heap.size w w' := by
  have hf : ISlice w (.slice (some ⟨fb, off, none⟩) N fc) xs := Or.inr ⟨fb, off, N, fc, rfl, hx, hfm⟩
  have hb0 := bel_up (bel_up (bel_self w) (.cells #[.int .i64 (N : Int), .int .i64 (s0 : Int), .slice (some ⟨fb, off, none⟩) N fc, .slice aa n ac] 25)) (.cells #[.int .i64 0, .int .i64 0, .slice none 0 0, .slice none 0 0] 25)
  have h1 := hf.below hb0
  have h2 := ha.below hb0
  have hz := zblock2 w (.cells #[.int .i64 (N : Int), .int .i64 (s0 : Int), .slice (some ⟨fb, off, none⟩) N fc, .slice aa n ac] 25)
  have hcF : CellsF ((w.alloc (.cells #[.int .i64 (N : Int), .int .i64 (s0 : Int), .slice (some ⟨fb, off, none⟩) N fc, .slice aa n ac] 25)).alloc (.cells #[.int .i64 0, .int .i64 0, .slice none 0 0, .slice none 0 0] 25)) w.heap.size (N : Int) (s0 : Int) (.slice (some ⟨fb, off, none⟩) N fc) (.slice aa n ac) := by simp [CellsF]
  have HFL : Hid (xs.length = N) := hx.len
  have HAL : Hid (ars.length = n) := hal
  have HOK : Hid (∀ a ∈ ars, (0 ≤ a.src ∧ a.src < N) ∧ (0 ≤ a.dst ∧ a.dst < N)) := hok
  have HFI : Hid (∀ x ∈ xs, in64 x) := hfi
  have HAI : Hid (∀ a ∈ ars, arcIn64 a) := hai
  have HS : Hid (Stays ⟨N, s0, xs, ars⟩ s0) := hS
  have HC : Hid (checkD ⟨N, s0, xs, ars⟩ = 0) := hc
  have hkey := keyN s0 (by omega)
  clear hal hok hS hc hfi hai hf
  go_enter Try.func28, Try.ntmps28
  go_wp2_with (first
    | (go_at_call 58; refine (stay_any ⟨N, s0, xs, ars⟩ N _ aa n ac w1 (h1.below hb1) HFL.out (h2.below hb1) HAL.out hn hN1 hN rfl HOK.out).mono ?_; rintro e w2 ⟨B, m, st, rfl, hnum, hss, hm, hBw, hb2⟩; have hc2 := hc1.below hb2; have hq2 := hc2; obtain ⟨p0, p1, p2, p3⟩ := hq2; have hz2 := heap_bel hb2 hz1; obtain ⟨D, hD, d2, d3, d4⟩ := hnum; have hst : st s0 = true := (hss s0).2 HS.out; have hhas := d3 s0; rw [hst, Bool.and_true, decide_eq_true hs0] at hhas; clear q0 q1 q2 q3)
    | (go_at_call 33; refine (check_any ⟨N, s0, xs, ars⟩ _ _ _ h1 h2).mono ?_; rintro e w1 ⟨rfl, hb1⟩; rw [HC.out]; have hz1 := heap_bel hb1 hz; have hc1 := hcF.below hb1; have hq := hc1; obtain ⟨q0, q1, q2, q3⟩ := hq)
    | (at_lookup; refine wpList_lookup_own_ok_int _ rfl _ _ 69 rfl 3 3 .i64 keyI Try.underlying69 Try.underlying3 (zeroI _) B m D rfl hD _ _ rfl hkey ?_; intro c hat hwc; rw [hhas])
    | (at_len; refine wpList_len_own _ rfl _ 69 rfl 3 3 Try.underlying69 _ B m D rfl hD ?_; rw [d2]; have p2' := old_cell (o := .cells #[.int .i64 (newNo st N), .int .i64 c, .slice none 0 0, .slice none 0 0] 25) p2))
  have hcs : c = newNo st s0 := by
    have h := d4 s0 hs0 hst
    rw [hat] at h
    injection h with h
    injection h with _ h
  have HCS : Hid (c = newNo st s0) := hcs
  have HSS : Hid (∀ i, st i = true ↔ Stays ⟨N, s0, xs, ars⟩ i) := hss
  have HD3 : Hid (∀ x : Nat, Maps.has D (.int .i64 (x : Int)) = (decide (x < N) && st x)) := d3
  have HD4 : Hid (∀ x : Nat, x < N → st x = true → D.atKey (.int .i64 (x : Int)) (.lit (.int .i64 0)) = .lit (.int .i64 (newNo st x))) := d4
  have HST : Hid (st s0 = true) := hst
  have hbw2 : Below w.heap.size w w2 := bel_on (bel_on hb0 hb1) hb2
  have HR : Hid (w.heap.size + 1 < w2.heap.size) := heap_lt hz2
  have HBl : Hid (B < w2.heap.size) := hD.lt
  clear hcs hss d2 d3 d4 hhas hst hat hb0 hb1 hb2 h1 h2 hz hz1 hcF hc1 p0 p1 p2 p3 p2' hkey
  obtain ⟨i0, hi, hz0, hz1, hz2'⟩ := info_parts infoInt
  obtain ⟨j0, hj, hj0, hj1, hj2⟩ := info_parts Try.info54
  go_loopw [45] (fun i wr => ∃ k : Nat, k ≤ N ∧ i = .int .i64 k ∧ ∃ fv, TS wr w2.heap.size (newNo st N) c fv (.slice none 0 0) (finT ⟨N, s0, xs, ars⟩ st k) [] ∧ Below w2.heap.size w2 wr) (fun i _ => N - (intOf i).toNat)
  case atStart => exact ⟨0, Nat.zero_le _, rfl, _, TS.start w2 _ _ _ _ rfl, bel_up (bel_self _) _⟩
  case round =>
    obtain ⟨k, hk, rfl, fv, hts, hB⟩ := hrel
    have hDr := hD.kept (bel_grown hB) (by simp)
    have hbr := hbw2.trans (hB.mono hbw2.size)
    by_cases hlt : k < N
    · have hci := (hx.below hbr).cell k hlt
      obtain ⟨x, hxk⟩ : ∃ x, x = xs.getD k 0 := ⟨_, rfl⟩
      rw [← hxk] at hci
      have hki : (k : Int) < N := by omega
      have hkey := keyN k (by omega)
      have hhk := HD3.out k
      rw [decide_eq_true hlt, Bool.true_and] at hhk
      have HX : Hid (x = xs.getD k 0) := hxk
      clear hxk
      cases hst : st k
      · rw [hst] at hhk
        have HK : Hid (st k = false) := hst
        clear hst
        go_wp2_with (first | (at_lookup; refine wpList_lookup_own_ok_int _ rfl _ _ 69 rfl 3 3 .i64 keyI Try.underlying69 Try.underlying3 (zeroI _) B m D rfl hDr _ _ rfl hkey ?_; intro cc hat _; rw [hhk]))
        go_roundw
        case rel => exact ⟨k + 1, by omega, by go_num, fv, by rw [finT_miss _ _ _ HK.out]; exact hts, hB⟩
        case measure => simp [intOf]; omega
      · rw [hst] at hhk
        have HK : Hid (st k = true) := hst
        have hxw : (Lit.int .i64 x).wf = true := wf64 (HFI.out x (by rw [HX.out]; have := HFL.out; simp [List.getD, show k < xs.length by omega]))
        have hlen : (finT ⟨N, s0, xs, ars⟩ st k).length ≤ 200 := by rw [finT_len]; have := newNo_le st k; omega
        have hfc := hts.c2
        clear hst
        go_wp2_with (first | (at_lookup; refine wpList_lookup_own_ok_int _ rfl _ _ 69 rfl 3 3 .i64 keyI Try.underlying69 Try.underlying3 (zeroI _) B m D rfl hDr _ _ rfl hkey ?_; intro cc hat _; rw [hhk]) | (at_builtin; refine wpList_append_own_at _ rfl _ _ 22 rfl (w2.heap.size + 1) 3 i0 (.int .i64 0) 1 8 Try.underlying22 hi hz0 hz1 hz2' rfl (by decide) _ _ _ rfl (hts.fr.1.alloc _) ⟨wr.heap.size, 0, none⟩ 1 1 [.int .i64 x] rfl rfl (cell_one_new _ _ _) (ints_oneCell .i64 [x]) (by unfold maxLen; omega) (by omega) (by have := hts.size; simp; omega) ?_; intro v' w3 hown' hgrow _ _; obtain ⟨g, cap, hv⟩ := Go.Joins.ownsRow_form hown' (Nat.succ_pos _); rw [hv] at hown' ⊢; obtain ⟨k2, f2, hts2, hb3⟩ := hts.fin _ hxw hgrow hown'))
        go_roundw
        case rel =>
          refine ⟨k + 1, by omega, by go_num, .slice (some ⟨g, 0, none⟩) ((finT ⟨N, s0, xs, ars⟩ st k).length + 1) cap, ?_, hB.trans hb3⟩
          rw [finT_hit _ _ _ HK.out]
          have e : (FstD.mk N s0 xs ars).final.getD k 0 = x := HX.out.symm
          rw [e]
          exact hts2
        case measure => simp [intOf]; omega
    · have HTS : Hid (TS wr w2.heap.size (newNo st N) c fv (.slice none 0 0) (finT ⟨N, s0, xs, ars⟩ st N) []) := by
        have e : k = N := by omega
        subst e; exact hts
      have hcr := hc2.below hB
      obtain ⟨p0, p1, p2, p3⟩ := hcr
      clear hts
      go_wp2
      rename World => w4
      clear p0 p1 p2 p3
      go_loopw [67] (fun i wr => ∃ k : Nat, k ≤ n ∧ i = .int .i64 k ∧ ∃ av, TS wr w2.heap.size (newNo st N) c fv av (finT ⟨N, s0, xs, ars⟩ st N) (arcsT st (ars.take k)) ∧ Below w2.heap.size w2 wr) (fun i _ => n - (intOf i).toNat)
      case atStart => exact ⟨0, Nat.zero_le _, rfl, _, HTS.out, hB⟩
      case round =>
        clear hDr hbr
        obtain ⟨q, hq, rfl, av, hts, hB5⟩ := hrel
        have hDr := hD.kept (bel_grown hB5) (by simp)
        have hbr := hbw2.trans (hB5.mono hbw2.size)
        by_cases hlq : q < n
        · obtain ⟨b, boff, rfl, hxa⟩ := (ha.below hbr).some (by omega)
          obtain ⟨a, hak⟩ : ∃ a, a = ars.getD q a0 := ⟨_, rfl⟩
          have hql : q < ars.length := by have := HAL.out; omega
          have hmem : a ∈ ars := by rw [hak]; simp [List.getD, hql]
          obtain ⟨⟨r1, r2⟩, ⟨r3, r4⟩⟩ := HOK.out a hmem
          obtain ⟨t1, ht1⟩ : ∃ t : Nat, a.src = t := ⟨a.src.toNat, by omega⟩
          obtain ⟨t2, ht2⟩ : ∃ t : Nat, a.dst = t := ⟨a.dst.toNat, by omega⟩
          have c0 := hxa.c0 q hlq
          have c1 := hxa.c1 q hlq
          have c2 := hxa.c2 q hlq
          have c3 := hxa.c3 q hlq
          have c4 := hxa.c4 q hlq
          rw [← hak] at c0 c1 c2 c3 c4
          have hks := keyN t1 (by omega)
          have hkd := keyN t2 (by omega)
          have hhs := HD3.out t1
          have hhd := HD3.out t2
          rw [decide_eq_true (show t1 < N by omega), Bool.true_and] at hhs
          rw [decide_eq_true (show t2 < N by omega), Bool.true_and] at hhd
          rw [ht1] at c0
          rw [ht2] at c3
          have HT := arcsT_take st ars q a hql hak
          rw [ht1, ht2, Int.toNat_natCast, Int.toNat_natCast] at HT
          have HH : Hid (arcsT st (ars.take (q + 1)) = arcsT st (ars.take q) ++ if (st t1 && st t2) = true then [arcT st a] else []) := HT
          have HA : Hid (a.src = t1 ∧ a.dst = t2) := ⟨ht1, ht2⟩
          have hqi : (q : Int) < n := by omega
          have HT1 : Hid (t1 < N) := (by omega : t1 < N)
          have HT2 : Hid (t2 < N) := (by omega : t2 < N)
          have hal3 : (arcsT st (ars.take q)).length ≤ 3000 := by
            have h1 := arcsT_len st (ars.take q)
            rw [List.length_take] at h1
            omega
          clear HT hak hmem r1 r2 r3 r4 ht1 ht2 hql hxa
          cases hst1 : st t1
          · rw [hst1] at hhs
            have HK : Hid ((st t1 && st t2) = false) := (by rw [hst1]; rfl : (st t1 && st t2) = false)
            clear hst1
            go_wp2_with (first | (at_lookup; refine wpList_lookup_own_ok_int _ rfl _ _ 69 rfl 3 3 .i64 keyI Try.underlying69 Try.underlying3 (zeroI _) B m D rfl (hDr.alloc _) _ _ rfl hks ?_; intro cc hat _; rw [hhs]) | (at_lookup; refine wpList_lookup_own_ok_int _ rfl _ _ 69 rfl 3 3 .i64 keyI Try.underlying69 Try.underlying3 (zeroI _) B m D rfl (hDr.alloc _) _ _ rfl hkd ?_; intro cd hatd _; rw [hhd]))
            go_roundw
            case rel =>
              refine ⟨q + 1, by omega, by go_num, av, ?_, hB5.alloc hB5.size _⟩
              rw [HH.out, HK.out]
              simp only [Bool.false_eq_true, if_false, List.append_nil]
              exact hts.below (bel_up (bel_self _) _)
            case measure => simp [intOf]; omega
          · rw [hst1] at hhs
            cases hst2 : st t2
            · rw [hst2] at hhd
              have HK : Hid ((st t1 && st t2) = false) := (by rw [hst2, Bool.and_false] : (st t1 && st t2) = false)
              clear hst1 hst2
              go_wp2_with (first | (at_lookup; refine wpList_lookup_own_ok_int _ rfl _ _ 69 rfl 3 3 .i64 keyI Try.underlying69 Try.underlying3 (zeroI _) B m D rfl (hDr.alloc _) _ _ rfl hks ?_; intro cc hat _; rw [hhs]) | (at_lookup; refine wpList_lookup_own_ok_int _ rfl _ _ 69 rfl 3 3 .i64 keyI Try.underlying69 Try.underlying3 (zeroI _) B m D rfl (hDr.alloc _) _ _ rfl hkd ?_; intro cd hatd _; rw [hhd]))
              go_roundw
              case rel =>
                refine ⟨q + 1, by omega, by go_num, av, ?_, hB5.alloc hB5.size _⟩
                rw [HH.out, HK.out]
                simp only [Bool.false_eq_true, if_false, List.append_nil]
                exact hts.below (bel_up (bel_self _) _)
              case measure => simp [intOf]; omega
            · rw [hst2] at hhd
              have HK : Hid (st t1 = true ∧ st t2 = true) := ⟨hst1, hst2⟩
              have htA := hts.below (bel_up (bel_self wr) (.cells #[.int .i64 t1, .int .i64 a.inp, .int .i64 a.out, .int .i64 t2, .int .i64 a.wt] 54))
              have hac := htA.c3
              clear hst1 hst2
              go_wp2_with (first | (at_lookup; refine wpList_lookup_own_ok_int _ rfl _ _ 69 rfl 3 3 .i64 keyI Try.underlying69 Try.underlying3 (zeroI _) B m D rfl (hDr.alloc _) _ _ rfl hks ?_; intro cc hat _; rw [hhs]) | (at_lookup; refine wpList_lookup_own_ok_int _ rfl _ _ 69 rfl 3 3 .i64 keyI Try.underlying69 Try.underlying3 (zeroI _) B m D rfl (hDr.alloc _) _ _ rfl hkd ?_; intro cd hatd _; rw [hhd]) | (at_builtin; refine wpList_append_own_at _ rfl _ _ 23 rfl (w2.heap.size + 1) 54 j0 (.agg #[.int .i64 0, .int .i64 0, .int .i64 0, .int .i64 0, .int .i64 0]) 5 40 Try.underlying23 hj hj0 hj1 hj2 rfl (by decide) _ _ _ rfl (htA.ar.alloc _) ⟨wr.heap.size + 1, 0, none⟩ 1 1 (arcCells ⟨cc, a.inp, a.out, cd, a.wt⟩) rfl rfl (cells_new _ #[.int .i64 cc, .int .i64 a.inp, .int .i64 a.out, .int .i64 cd, .int .i64 a.wt] 54 (wr.heap.size + 1) (by simp)) (oneCell_arc _) (by unfold maxLen; omega) (by omega) (by have h := hts.size; simp; omega) ?_; intro v' w3 hown' hgrow _ hloc; obtain ⟨g, cap, hv⟩ := Go.Joins.ownsRow_form hown' (Nat.succ_pos _); rw [hv] at hown' hloc ⊢; obtain ⟨k2, f2, hts2, hb3⟩ := htA.arc _ hgrow hown' hloc))
              go_roundw
              case rel =>
                refine ⟨q + 1, by omega, by go_num, .slice (some ⟨g, 0, none⟩) ((arcsT st (ars.take q)).length + 1) cap, ?_, (hB5.alloc hB5.size _).trans hb3⟩
                rw [HH.out, HK.out.1, HK.out.2]
                have e1 : cc = newNo st t1 := by
                  have h := HD4.out t1 HT1.out HK.out.1
                  rw [hat] at h
                  injection h with h
                  injection h with _ h
                have e2 : cd = newNo st t2 := by
                  have h := HD4.out t2 HT2.out HK.out.2
                  rw [hatd] at h
                  injection h with h
                  injection h with _ h
                have e3 : arcT st a = ⟨cc, a.inp, a.out, cd, a.wt⟩ := by
                  unfold arcT
                  rw [HA.out.1, HA.out.2, Int.toNat_natCast, Int.toNat_natCast, e1, e2]
                simp only [Bool.and_self, if_true]
                rw [e3]
                exact hts2
              case measure => simp [intOf]; omega
        · have HTT : Hid (TS wr w2.heap.size (newNo st N) c fv av (finT ⟨N, s0, xs, ars⟩ st N) (arcsT st ars)) := by
            have h := hts
            rw [List.take_of_length_le (by have := HAL.out; omega)] at h
            exact h
          obtain ⟨fa, fl, fcap, rfl, _, _⟩ := (ownsRow_ints HTT.out.fr.1).lenOf
          obtain ⟨ba, bl, bcap, rfl, _, _⟩ := (ownsRow_arcs HTT.out.ar).lenOf
          have g0 := HTT.out.c0
          have g1 := HTT.out.c1
          have g2 := HTT.out.c2
          have g3 := HTT.out.c3
          have hzr := heap_bel hB5 hz2
          obtain ⟨z0, z1, z2, z3, y0, y1, y2, y3⟩ := zfacts hzr
          clear hts
          go_wp2
          exact bodyPost_ret (v := .tuple #[.agg #[.int .i64 (newNo st N), .int .i64 c, .slice fa fl fcap, .slice ba bl bcap], .int .i64 0]) (by simp [results, Try.results28, go_sem, *]) rfl
            ⟨⟨⟨newNo st N, c, finT ⟨N, s0, xs, ars⟩ st N, arcsT st ars⟩, _, _, rfl, ⟨st, HSS.out, by
              unfold trimBy
              rw [if_pos (by show st ((s0 : Int).toNat) = true; rw [Int.toNat_natCast]; exact HST.out)]
              show (FstD.mk (newNo st N) c (finT ⟨N, s0, xs, ars⟩ st N) (arcsT st ars)) = ⟨newNo st ((N : Int).toNat), newNo st ((s0 : Int).toNat), finT ⟨N, s0, xs, ars⟩ st ((N : Int).toNat), arcsT st ars⟩
              rw [Int.toNat_natCast, Int.toNat_natCast, HCS.out]⟩, fresh_mk (row_set4 HTT.out.fr.1 (fun e => by have := (HTT.out.fr.1.lt _ e).1; have := HR.out; omega) _ _ _ _) (row_set4 HTT.out.ar (fun e => by have := (HTT.out.ar.lt _ e).1; have := HR.out; omega) _ _ _ _) (by have := HR.out; omega) (by have := HR.out; omega)⟩, bel_set4 hbr (by omega) _ _ _ _⟩
end Go.Proofs.Yteehgcbjmdideab.Sc
/- 'Trim' whole. -/
namespace Go.Proofs.Yteehgcbjmdideab.Sc
open Go.RowKit Go.Maps Go.ChangeShapes
theorem trim_fresh (f : FstD) (fin arcs : Value) (w : World) (hf : ISlice w fin f.final) (ha : ASlice w arcs f.arcs) :
  Calls Try.prog 28 #[.agg #[.int .i64 f.states,.int .i64 f.start,fin,arcs]] w fun e w' =>
   ((checkD f ≠ 0 /\ e = .returned (.tuple #[.agg #[.int .i64 0,.int .i64 0,.slice none 0 0,.slice none 0 0],.int .i64 (checkD f)])) \/ (checkD f = 0 /\ TrimResF w f e w')) /\ Below w.heap.size w w':=by
 by_cases hc : checkD f = 0
 ·have ok:=check_ok f hc
  obtain ⟨st,sta,xs,ars⟩:=f
  have hb:=inB_le ok.states
  have hs:=inB_le ok.start
  have hlen:=ok.len
  simp only at hb hs hlen hf ha
  obtain ⟨N,rfl⟩ : ∃ N : Nat,st = N:=⟨st.toNat,by omega⟩
  obtain ⟨s0,rfl⟩ : ∃ s0 : Nat,sta = s0:=⟨sta.toNat,by omega⟩
  obtain ⟨fa,fn,fc,rfl,hfl,hfm⟩:=hf.lenOf
  obtain ⟨aa,n,ac,rfl,hal,ham⟩:=ha.lenOf
  obtain ⟨fb,off,rfl,hx⟩:=hf.some (by omega)
  have hfn : fn = N:=by omega
  subst hfn
  have hmany : n <= 3000:=by have:=ok.many; simp only at this; omega
  have hok : ∀ a ∈ ars,(0 <= a.src /\ a.src < (fn : Int)) /\ (0 <= a.dst /\ a.dst < (fn : Int)):=fun a h => by
   have o:=ok.arcs a h
   have q1:=inB_le o.src
   have q2:=inB_le o.dst
   simp only at q1 q2
   omega
  by_cases hS : Stays ⟨fn,s0,xs,ars⟩ s0
  ·exact (trim_some fn s0 xs ars fb off fc aa n ac w hx ha hal hmany (by omega) (by omega) (by omega) hfm hok (fun x hx => (finB_out (ok.fin x hx)).2) (fun a h => arcOk_in64 (ok.arcs a h) hb.1 hb.2) hc hS).mono fun e w' ⟨h1,h2⟩ => ⟨Or.inr ⟨hc,h1⟩,h2⟩
  ·exact (trim_none fn s0 xs ars _ aa n ac w hf (by omega) ha hal hmany (by omega) (by omega) (by omega) hok hc hS).mono fun e w' ⟨h1,h2⟩ => ⟨Or.inr ⟨hc,h1⟩,h2⟩
 ·exact (trim_bad f fin arcs w hf ha (by simpa using hc)).mono fun e w' ⟨h1,h2⟩ => ⟨Or.inl ⟨hc,h1⟩,h2⟩
end Go.Proofs.Yteehgcbjmdideab.Sc
/- What Determine calls,at whatever transducer it is handed: contracts with what the mathematics says of it. -/
namespace Go.Proofs.Yteehgcbjmdideab
open Go.RowKit
attribute [local go_sem ↓] Go.wp_at_zero Go.wp_at_succ
structure DIn (f t : FstD) (N s0 : Nat) : Prop where
 hc : checkD f = 0
 both : bothB f = true
 sil : silB f = false
 nr : ¬ RoundD f
 ht : Sc.IsTrim f t
 hT : Sc.TrimIn f t N s0
section
variable {f t : FstD} {N s0 K : Nat}
theorem DIn.reads (h : DIn f t N s0) {fin arcs : Value} {W : World} (hf : ISlice W fin f.final) (ha : ASlice W arcs f.arcs) : Calls Try.prog 26 #[.agg #[.int .i64 f.states,.int .i64 f.start,fin,arcs]] W fun e w' => e = .returned (.tuple #[.bool true,.int .i64 0]) /\ Below W.heap.size W w':=by
 refine (reads_any f fin arcs W hf ha).mono ?_
 rintro e w' ⟨rfl,hb⟩
 rw [h.hc,h.both,h.sil]
 exact ⟨rfl,hb⟩
theorem DIn.round (h : DIn f t N s0) {fin arcs : Value} {W : World} (hf : ISlice W fin f.final) (ha : ASlice W arcs f.arcs) : Calls Try.prog 27 #[.agg #[.int .i64 f.states,.int .i64 f.start,fin,arcs]] W fun e w' => e = .returned (.bool false) /\ Below W.heap.size W w':=by
 refine (goesRound_at f fin arcs W (fine_of h.hc) hf ha).mono ?_
 rintro e w' ⟨b,rfl,hr,hb⟩
 cases b with
 | false => exact ⟨rfl,hb⟩
 | true => exact absurd (hr.1 rfl) h.nr
theorem DIn.trim (h : DIn f t N s0) {fin arcs : Value} {W : World} (hf : ISlice W fin f.final) (ha : ASlice W arcs f.arcs) : Calls Try.prog 28 #[.agg #[.int .i64 f.states,.int .i64 f.start,fin,arcs]] W fun e w' => ∃ fa fn fc aa an ac,e = .returned (.tuple #[.agg #[.int .i64 (N : Int),.int .i64 (s0 : Int),.slice fa fn fc,.slice aa an ac],.int .i64 0]) /\ Sc.FreshT W.heap.size w' (.slice fa fn fc) (.slice aa an ac) t /\ Below W.heap.size W w':=by
 refine (Sc.trim_fresh f fin arcs W hf ha).mono ?_
 rintro e w' ⟨h1 | h1,hb⟩
 ·exact absurd h.hc h1.1
 ·obtain ⟨_,t',fv,av,rfl,ht,hF⟩:=h1
  obtain rfl:=ht.unique h.ht
  obtain ⟨fa,fn,fc,rfl,_,_⟩:=(hF w' fun _ _ _ => rfl).1.lenOf
  obtain ⟨aa,an,ac,rfl,_,_⟩:=(hF w' fun _ _ _ => rfl).2.lenOf
  rw [h.hT.sin.st,h.hT.sin.sta]
  exact ⟨fa,fn,fc,aa,an,ac,rfl,hF,hb⟩
theorem DIn.fail (h : DIn f t N s0) (hk : FailK t N K) {fin arcs : Value} {W : World} (hf : ISlice W fin t.final) (ha : ASlice W arcs t.arcs) : Calls Try.prog 29 #[.agg #[.int .i64 (N : Int),.int .i64 (s0 : Int),fin,arcs],.int .i64 200,.func (.func 30) #[] #[]] W fun e w' => e = .returned (.tuple #[.agg #[.int .i64 0,.int .i64 0,.slice none 0 0,.slice none 0 0],.bool false]) /\ Below W.heap.size W w':=by
 refine (subsets_any t N s0 200 fin arcs W (fine_of h.hT.chk) h.hT.sin.st h.hT.sin.sta h.hT.sil hf ha (by decide)).mono ?_
 rintro e w' ⟨k,hj,h1 | h1,hb⟩
 ·exact ⟨h1.2.2,hb⟩
 ·exact absurd (done_fail ⟨hj,h1.1⟩ hk) not_false
theorem DIn.done (h : DIn f t N s0) (hk : DoneK t N K) {m : Nat} (hm : (subG t N K).arcs.length = m) {fin arcs : Value} {W : World} (hf : ISlice W fin t.final) (ha : ASlice W arcs t.arcs) : Calls Try.prog 29 #[.agg #[.int .i64 (N : Int),.int .i64 (s0 : Int),fin,arcs],.int .i64 200,.func (.func 30) #[] #[]] W fun e w' => ∃ fa fc aa ac,e = .returned (.tuple #[.agg #[.int .i64 (K : Int),.int .i64 0,.slice fa K fc,.slice aa m ac],.bool true]) /\ ISlice w' (.slice fa K fc) (subG t N K).final /\ ASlice w' (.slice aa m ac) (subG t N K).arcs /\ Below W.heap.size W w':=by
 refine (subsets_any t N s0 200 fin arcs W (fine_of h.hT.chk) h.hT.sin.st h.hT.sin.sta h.hT.sil hf ha (by decide)).mono ?_
 rintro e w' ⟨k,hj,h1 | h1,hb⟩
 ·exact absurd (done_fail hk ⟨hj,h1.1,h1.2.1⟩) not_false
 ·obtain ⟨hl,fa,fn,fc,aa,an,ac,rfl,hI,hA⟩:=h1
  obtain rfl:=done_unique hk ⟨hj,hl⟩
  obtain ⟨fa',fn',fc',e1,h1,_⟩:=hI.lenOf
  obtain ⟨aa',an',ac',e2,h2,_⟩:=hA.lenOf
  injection e1 with _ e1 _
  injection e2 with _ e2 _
  obtain rfl : K = fn:=by
   have:=subR_fin t N K
   omega
  obtain rfl : m = an:=by
   have : (subR t N K).ars.length = m:=hm
   omega
  exact ⟨fa,fc,aa,ac,rfl,hI,hA,hb⟩
theorem DIn.begs (h : DIn f t N s0) (hk : DoneK t N K) {m : Nat} (hm : (subG t N K).arcs.length = m) {cnt rk : Nat -> Nat} (hcnt : CntOk (edgesE (subG t N K).arcs) cnt) (hrk : ∀ e ∈ edgesE (subG t N K).arcs,rk e.2 < rk e.1) (fa : Option Addr) (fn fc : Nat) (aa : Option Addr) (ac : Nat) (W : World) (ha : ASlice W (.slice aa m ac) (subG t N K).arcs) : Calls Try.prog 31 #[.agg #[.int .i64 (K : Int),.int .i64 0,.slice fa fn fc,.slice aa m ac]] W fun e w' => e = .returned (.int .i64 (cnt 0 : Int)) /\ Below W.heap.size W w':=by
 obtain ⟨hs,hK1,hK⟩:=hk.sub h.hT.sin
 have hG:=hs.gin h.hT.sin (by omega)
 have hl:=(hk.out h.hT).2.2
 exact beginnings_any (subG t N K) K 0 (K : Int) fa fn fc aa m ac cnt rk W (by omega) (by omega) (fun a ha => ⟨a.src.toNat,a.dst.toNat,by have:=hG.arcs a ha; omega,by have:=hG.arcs a ha; omega,by have:=hG.arcs a ha; omega,by have:=hG.arcs a ha; omega⟩) hm (by omega) hcnt hrk ha
theorem DIn.early (h : DIn f t N s0) (hk : DoneK t N K) {m : Nat} (hm : (subG t N K).arcs.length = m) (fin : Value) (aa : Option Addr) (ac : Nat) (W : World) (hf : ISlice W fin (subG t N K).final) (ha : ASlice W (.slice aa m ac) (subG t N K).arcs) : Calls Try.prog 32 #[.agg #[.int .i64 (K : Int),.int .i64 0,fin,.slice aa m ac]] W fun e w' => ∃ g1 c1 ba bc,e = .returned (.agg #[.int .i64 (K : Int),.int .i64 0,.slice (some ⟨g1,0,none⟩) K c1,.slice ba m bc]) /\ NumsAt w' g1 K (detX t N K).final /\ W.heap.size <= g1 /\ ArcsB W.heap.size w' ba m (detX t N K).arcs /\ Below W.heap.size W w':=by
 obtain ⟨hs,hK1,hK⟩:=hk.sub h.hT.sin
 have hG:=hs.gin h.hT.sin (by omega)
 have hl:=(hk.out h.hT).2.2
 obtain ⟨n1,n2,n3,n4⟩:=hk.nums h.hT
 have hok : Bg.OkF (subG t N K) K 0:=⟨rfl,rfl,hK1,hK,by omega,hs.flen,fun x hx => by rcases n1 x hx with e | e; exact Or.inl e; right; omega,hl,fun a ha => by have:=n2 a ha; omega⟩
 by_cases h0 : gI (toD (subG t N K)) 0 = -1
 ·have hx : detX t N K = subG t N K:=by unfold detX; rw [if_pos h0]
  rw [hx]
  have:=Bg.early_none (subG t N K) K 0 fin aa m ac W hok hf ha hm h0 n1
  rw [mov_zero hG] at this
  exact this
 ·have hx : detX t N K = earlyD (subG t N K):=by unfold detX; rw [if_neg h0]
  rw [hx]
  exact Bg.early_some (subG t N K) K 0 fin aa m ac W hok hf ha hm h0 (fun a ha => by have:=(n4 h0).1 a ha; omega) n3 (n4 h0).2 n1
theorem DIn.check (h : DIn f t N s0) (hk : DoneK t N K) {fin arcs : Value} {W : World} (hf : ISlice W fin (detX t N K).final) (ha : ASlice W arcs (detX t N K).arcs) : Calls Try.prog 33 #[.agg #[.int .i64 (K : Int),.int .i64 0,fin,arcs]] W fun e w' => e = .returned (.int .i64 (checkD (detX t N K))) /\ Below W.heap.size W w':=by
 have:=check_any (detX t N K) fin arcs W hf ha
 rw [(hk.out h.hT).1.st,(hk.out h.hT).1.sta] at this
 exact this
end
end Go.Proofs.Yteehgcbjmdideab
/- The states on a way,reckoned round by round,as the document's answer does it. -/
namespace Go.Proofs.Yteehgcbjmdideab.Sc
def atB (m : List Bool) (x : Nat) : Bool:=m.getD x false
def relax1 (m : List Bool) (p : Nat × Nat) : List Bool:=m.set p.2 (atB m p.2 || atB m p.1)
def relax (ps : List (Nat × Nat)) (m : List Bool) : List Bool:=ps.foldl relax1 m
def relaxN (ps : List (Nat × Nat)) : Nat -> List Bool -> List Bool
 | 0,m => m
 | k + 1,m => relax ps (relaxN ps k m)
theorem relax1_len (m : List Bool) (p : Nat × Nat) : (relax1 m p).length = m.length:=by simp [relax1]
theorem relax_len (ps : List (Nat × Nat)) : ∀ m : List Bool,(relax ps m).length = m.length:=by
 induction ps with
 | nil => intro m; rfl
 | cons p ps ih => intro m; show (relax ps (relax1 m p)).length = _; rw [ih,relax1_len]
theorem relaxN_len (ps : List (Nat × Nat)) (k : Nat) (m : List Bool) : (relaxN ps k m).length = m.length:=by
 induction k with
 | zero => rfl
 | succ k ih => rw [relaxN,relax_len,ih]
theorem atB_lt {m : List Bool} {x : Nat} (h : atB m x = true) : x < m.length:=by
 unfold atB at h
 by_cases hx : x < m.length
 ·exact hx
 ·simp [List.getD,hx] at h
theorem atB_relax1 (m : List Bool) (p : Nat × Nat) (x : Nat) : atB (relax1 m p) x = if x = p.2 /\ p.2 < m.length then (atB m p.2 || atB m p.1) else atB m x:=by
 unfold relax1 atB
 by_cases h : x = p.2
 ·subst h
  by_cases hl : p.2 < m.length
  ·rw [if_pos ⟨rfl,hl⟩]; simp [List.getD,hl]
  ·rw [if_neg (fun q => hl q.2)]; simp [List.getD,hl]
 ·rw [if_neg (fun q => h q.1)]
  simp [List.getD,Ne.symm h]
theorem relax1_le {m : List Bool} {p : Nat × Nat} {x : Nat} (h : atB m x = true) : atB (relax1 m p) x = true:=by
 rw [atB_relax1]
 split
 ·rename_i q; rw [<- q.1,h]; rfl
 ·exact h
theorem relax_le (ps : List (Nat × Nat)) : ∀ {m : List Bool} {x : Nat},atB m x = true -> atB (relax ps m) x = true:=by
 induction ps with
 | nil => intro m x h; exact h
 | cons p ps ih => intro m x h; exact ih (relax1_le h)
theorem relaxN_le (ps : List (Nat × Nat)) (k : Nat) {m : List Bool} {x : Nat} (h : atB m x = true) : atB (relaxN ps k m) x = true:=by
 induction k with
 | zero => exact h
 | succ k ih => exact relax_le ps ih
theorem relax_sound {R : Nat -> Prop} (ps : List (Nat × Nat)) (hR : ∀ p ∈ ps,R p.1 -> R p.2) : ∀ {m : List Bool},(∀ x,atB m x = true -> R x) -> ∀ x,atB (relax ps m) x = true -> R x:=by
 induction ps with
 | nil => intro m h; exact h
 | cons p ps ih =>
  intro m h
  refine ih (fun q hq => hR q (by simp [hq])) ?_
  intro x hx
  rw [atB_relax1] at hx
  split at hx
  ·rename_i q
   rw [Bool.or_eq_true] at hx
   rw [q.1]
   rcases hx with hx | hx
   ·exact h _ hx
   ·exact hR p (by simp) (h _ hx)
  ·exact h x hx
theorem relaxN_sound {R : Nat -> Prop} (ps : List (Nat × Nat)) (hR : ∀ p ∈ ps,R p.1 -> R p.2) (k : Nat) {m : List Bool} (h : ∀ x,atB m x = true -> R x) : ∀ x,atB (relaxN ps k m) x = true -> R x:=by
 induction k with
 | zero => exact h
 | succ k ih => exact relax_sound ps hR ih
theorem relax_fix (ps : List (Nat × Nat)) : ∀ {m : List Bool},(∀ x,atB (relax ps m) x = true -> atB m x = true) -> ∀ p ∈ ps,p.2 < m.length -> atB m p.1 = true -> atB m p.2 = true:=by
 induction ps with
 | nil => intro m _ p hp; cases hp
 | cons q ps ih =>
  intro m h p hp hl h1
  have back : ∀ x,atB (relax1 m q) x = true -> atB m x = true:=fun x hx => h x (relax_le ps hx)
  rcases List.mem_cons.1 hp with rfl | hp
  ·apply back
   rw [atB_relax1,if_pos ⟨rfl,hl⟩,h1,Bool.or_true]
  ·exact back _ (ih (m:=relax1 m q) (fun x hx => relax1_le (h x hx)) p hp (by rw [relax1_len]; exact hl) (relax1_le h1))
theorem newNo_mono (f g : Nat -> Bool) (h : ∀ x,f x = true -> g x = true) (k : Nat) : newNo f k <= newNo g k:=by
 induction k with
 | zero => simp [newNo]
 | succ k ih =>
  rw [newNo_succ,newNo_succ]
  cases hf : f k
  ·simp; omega
  ·rw [h k hf]; simp; omega
theorem newNo_lt (f g : Nat -> Bool) (h : ∀ x,f x = true -> g x = true) (x : Nat) (hf : f x = false) (hg : g x = true) (k : Nat) (hx : x < k) : newNo f k < newNo g k:=by
 induction k with
 | zero => omega
 | succ k ih =>
  rw [newNo_succ,newNo_succ]
  by_cases e : x = k
  ·subst e
   rw [hf,hg]
   have:=newNo_mono f g h x
   simp; omega
  ·have:=ih (by omega)
   cases hfk : f k
   ·simp; omega
   ·rw [h k hfk]; simp; omega
theorem newNo_all (f : Nat -> Bool) (k : Nat) (h : k <= newNo f k) : ∀ x,x < k -> f x = true:=by
 induction k with
 | zero => intro x hx; omega
 | succ k ih =>
  rw [newNo_succ] at h
  have:=newNo_le f k
  cases hf : f k
  ·rw [hf] at h; simp at h; omega
  ·rw [hf] at h
   simp at h
   intro x hx
   by_cases e : x = k
   ·subst e; exact hf
   ·exact ih h x (by omega)
theorem relaxN_grows (ps : List (Nat × Nat)) (N : Nat) (m : List Bool) (hl : m.length = N) (k : Nat) :
  (∀ x,atB (relax ps (relaxN ps k m)) x = true -> atB (relaxN ps k m) x = true) \/ k <= newNo (atB (relaxN ps k m)) N:=by
 induction k with
 | zero => right; omega
 | succ k ih =>
  by_cases hfix : ∀ x,atB (relax ps (relaxN ps k m)) x = true -> atB (relaxN ps k m) x = true
  ·left
   have e : ∀ x,atB (relaxN ps (k + 1) m) x = atB (relaxN ps k m) x:=fun x => by
    rw [Bool.eq_iff_iff]
    exact ⟨hfix x,fun h => relax_le ps h⟩
   have e2 : relaxN ps (k + 1) m = relaxN ps k m:=by
    apply List.ext_getElem
    ·rw [relaxN_len,relaxN_len]
    ·intro i h1 h2
     have:=e i
     simpa [atB,List.getD,h1,h2] using this
   rw [e2]; exact hfix
  ·right
   rcases ih with h | h
   ·exact absurd h hfix
   ·obtain ⟨x,hx⟩:=Classical.not_forall.1 hfix
    have hx1 : atB (relax ps (relaxN ps k m)) x = true:=Classical.byContradiction fun q => hx fun q2 => absurd q2 q
    have hx2 : atB (relaxN ps k m) x = false:=Bool.eq_false_iff.2 fun q => hx fun _ => q
    have hxl:=atB_lt hx1
    rw [relax_len,relaxN_len] at hxl
    have:=newNo_lt (atB (relaxN ps k m)) (atB (relaxN ps (k + 1) m)) (fun y hy => relax_le ps hy) x hx2 hx1 N (by omega)
    omega
theorem relaxN_closed (ps : List (Nat × Nat)) (N : Nat) (m : List Bool) (hl : m.length = N) (hp : ∀ p ∈ ps,p.2 < N) : ∀ p ∈ ps,atB (relaxN ps N m) p.1 = true -> atB (relaxN ps N m) p.2 = true:=by
 intro p hpm h1
 rcases relaxN_grows ps N m hl N with h | h
 ·exact relax_fix ps h p hpm (by rw [relaxN_len,hl]; exact hp p hpm) h1
 ·exact newNo_all _ N h p.2 (hp p hpm)
theorem relaxN_reach (ps : List (Nat × Nat)) (N : Nat) (m : List Bool) (S : Nat -> Bool) (hl : m.length = N) (hp : ∀ p ∈ ps,p.2 < N) (hm : ∀ x,atB m x = (decide (x < N) && S x)) (x : Nat) :
  atB (relaxN ps N m) x = true ↔ ReachP N ps S x:=by
 constructor
 ·refine relaxN_sound (R:=ReachP N ps S) ps (fun p hp h => Reach.on h hp) N (fun y hy => ?_) x
  rw [hm y,Bool.and_eq_true,decide_eq_true_eq] at hy
  exact Reach.first hy
 ·intro h
  refine h (fun y => atB (relaxN ps N m) y = true) (fun s hs => relaxN_le ps N ?_) (fun s t hs he => relaxN_closed ps N m hl hp (s,t) he hs)
  rw [hm s,Bool.and_eq_true,decide_eq_true_eq]
  exact hs
def thereM (f : FstD) : List Bool:=(List.replicate f.states.toNat false).set f.start.toNat true
def onM (f : FstD) : List Bool:=f.final.map fun x => decide (0 <= x)
def thereN (f : FstD) : List Bool:=relaxN (pairsA f) f.states.toNat (thereM f)
def onN (f : FstD) : List Bool:=relaxN (pairsB f) f.states.toNat (onM f)
theorem okA (f : FstD) (ok : CheckOk f) : ∀ p ∈ pairsA f,p.2 < f.states.toNat:=fun p hp => by
 obtain ⟨a,ha,rfl⟩:=List.mem_map.1 hp
 have:=(ok.arcs a ha).dst
 simp only [inB,Bool.and_eq_true,decide_eq_true_eq] at this
 show a.dst.toNat < _
 omega
theorem okB (f : FstD) (ok : CheckOk f) : ∀ p ∈ pairsB f,p.2 < f.states.toNat:=fun p hp => by
 obtain ⟨a,ha,rfl⟩:=List.mem_map.1 hp
 have:=(ok.arcs a ha).src
 simp only [inB,Bool.and_eq_true,decide_eq_true_eq] at this
 show a.src.toNat < _
 omega
theorem stays_relax (f : FstD) (hc : checkD f = 0) (x : Nat) : (atB (thereN f) x && atB (onN f) x) = true ↔ Stays f x:=by
 have ok:=check_ok f hc
 have hs:=ok.states
 have ht:=ok.start
 have hl:=ok.len
 simp only [inB,Bool.and_eq_true,decide_eq_true_eq] at hs ht
 have h1:=relaxN_reach (pairsA f) f.states.toNat (thereM f) (firstA f) (by simp [thereM]) (okA f ok) (fun y => by
  unfold thereM atB firstA
  by_cases e : y = f.start.toNat
  ·subst e
   have : f.start.toNat < f.states.toNat:=by omega
   have e2 : ((f.start.toNat : Nat) : Int) = f.start:=by omega
   simp [List.getD,this,e2]
  ·have e2 : ¬ (y : Int) = f.start:=by omega
   simp only [List.getD,e2,decide_false,Bool.and_false]
   rw [List.getElem?_set_ne (Ne.symm e)]
   by_cases hy : y < f.states.toNat
   ·simp [hy]
   ·simp [hy]) x
 have h2:=relaxN_reach (pairsB f) f.states.toNat (onM f) (firstB f) (by simp [onM]; omega) (okB f ok) (fun y => by
  unfold onM atB firstB
  by_cases hy : y < f.final.length
  ·have hy2 : y < f.states.toNat:=by omega
   have hm : f.final[y] ∈ f.final:=List.getElem_mem hy
   have:=(finB_out (ok.fin _ hm)).1
   simp only [List.getD,List.getElem?_map,List.getElem?_eq_getElem hy,Option.map_some,Option.getD_some,hy2,decide_true,Bool.true_and]
   rw [Bool.eq_iff_iff]
   simp
   omega
  ·have hy2 : ¬ y < f.states.toNat:=by omega
   simp [List.getD,hy,hy2]) x
 rw [Bool.and_eq_true]
 show (atB (relaxN (pairsA f) f.states.toNat (thereM f)) x = true /\ atB (relaxN (pairsB f) f.states.toNat (onM f)) x = true) ↔ _
 rw [h1,h2]
 rfl
theorem start_there (f : FstD) (hc : checkD f = 0) : atB (thereN f) f.start.toNat = true:=by
 have ok:=check_ok f hc
 have hs:=ok.states
 have ht:=ok.start
 simp only [inB,Bool.and_eq_true,decide_eq_true_eq] at hs ht
 apply relaxN_le
 unfold thereM atB
 have : f.start.toNat < f.states.toNat:=by omega
 simp [List.getD,this]
def trimD (f : FstD) : FstD:=trimBy f fun i => atB (thereN f) i && atB (onN f) i
theorem trimD_is (f : FstD) (hc : checkD f = 0) : IsTrim f (trimD f):=⟨_,fun i => stays_relax f hc i,rfl⟩
end Go.Proofs.Yteehgcbjmdideab.Sc
