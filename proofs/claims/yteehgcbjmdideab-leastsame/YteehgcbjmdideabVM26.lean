/- What 'TrimOf' makes: the transducer in block T,the new numbers in block T + 1. -/
import Derived.Test.YteehgcbjmdideabVM25
import Derived.Deep.AppendLies
import Derived.Deep.OwnRows
import Derived.Deep.RegionHeld3
import Derived.Deep.Cut
set_option maxRecDepth 100000
namespace Go.Proofs.Yteehgcbjmdideab.Sc
open Go.RowKit Go.Maps Go.ChangeShapes
structure TQ (w : World) (T : Nat) (n0 s0 : Int) (fv av : Value) (xs : List Int) (ars : List ArcD) (tl : List Int) : Prop where
 c0 : w.cell? ⟨T,0,none⟩ = some (.int .i64 n0)
 c1 : w.cell? ⟨T,1,none⟩ = some (.int .i64 s0)
 c2 : w.cell? ⟨T,2,none⟩ = some fv
 c3 : w.cell? ⟨T,3,none⟩ = some av
 z0 : w.frozen? ⟨T,0,none⟩ = false
 z1 : w.frozen? ⟨T,1,none⟩ = false
 z2 : w.frozen? ⟨T,2,none⟩ = false
 z3 : w.frozen? ⟨T,3,none⟩ = false
 fr : w.ownsInts (T + 2) 3 .i64 fv xs
 ar : w.ownsRow (T + 2) 54 5 av ars.length (arcsV ars)
 ne : fv.ownBlock = none \/ fv.ownBlock ≠ av.ownBlock
 tr : w.heap[T + 1]? = some (.cells (intsV tl).toArray 3 (0,0))
 size : T + 2 <= w.heap.size
theorem TQ.below {w w' : World} {T : Nat} {n0 s0 : Int} {fv av : Value} {xs : List Int} {ars : List ArcD} {tl : List Int} (h : TQ w T n0 s0 fv av xs ars tl) (hb : Below w.heap.size w w') : TQ w' T n0 s0 fv av xs ars tl:=by
 have hs:=h.size
 have fz : ∀ i,w'.frozen? ⟨T,i,none⟩ = w.frozen? ⟨T,i,none⟩:=fun i => hb.frozen (p:=⟨T,i,none⟩) (by show T < _; omega)
 exact ⟨bel_c hb h.c0,bel_c hb h.c1,bel_c hb h.c2,bel_c hb h.c3,(fz 0).trans h.z0,(fz 1).trans h.z1,(fz 2).trans h.z2,(fz 3).trans h.z3,
  h.fr.kept (bel_grown hb) (by cases fv.ownBlock <;> simp),ownsRow_bel h.ar hb,h.ne,heap_bel hb h.tr,Nat.le_trans hs hb.size⟩
theorem made_ints (n : Nat) : madeCells #[.int .i64 0] n = (intsV (List.replicate n 0)).toArray:=by
 unfold madeCells intsV
 apply Array.ext
 ·simp
 ·intro i h1 h2
  simp [Nat.mod_one]
theorem TQ.start (w : World) (n N : Nat) (hT : w.heap.size = N) (o : Nat) :
  TQ ((w.alloc (.cells #[.int .i64 0,.int .i64 0,.slice none 0 0,.slice none 0 0] o)).alloc (.cells (madeCells #[.int .i64 0] n) 3)) N 0 0 (.slice none 0 0) (.slice none 0 0) [] [] (List.replicate n 0):=by
 have hf : ∀ k,((w.alloc (.cells #[.int .i64 0,.int .i64 0,.slice none 0 0,.slice none 0 0] o)).alloc (.cells (madeCells #[.int .i64 0] n) 3)).frozen? ⟨N,k,none⟩ = false:=fun k => by
  rw [old_frozen (by simp; omega)]; exact new_frozen _ _ _ _ _ hT
 refine ⟨old_cell (new_cell _ _ _ _ 0 _ hT rfl),old_cell (new_cell _ _ _ _ 1 _ hT rfl),old_cell (new_cell _ _ _ _ 2 _ hT rfl),old_cell (new_cell _ _ _ _ 3 _ hT rfl),hf 0,hf 1,hf 2,hf 3,World.ownsInts_nil _ _ _ _,World.ownsRow_nil _ _ _ _,Or.inl rfl,?_,by simp; omega⟩
 subst hT
 rw [<- made_ints]
 have:=heap_alloc_new (w.alloc (.cells #[.int .i64 0,.int .i64 0,.slice none 0 0,.slice none 0 0] o)) (.cells (madeCells #[.int .i64 0] n) 3)
 simpa using this
theorem TQ.setT {w : World} {T : Nat} {n0 s0 : Int} {fv av : Value} {xs : List Int} {ars : List ArcD} {tl : List Int} (h : TQ w T n0 s0 fv av xs ars tl) (x : Int) :
  TQ (w.setCell ⟨T,0,none⟩ (.int .i64 x)) T x s0 fv av xs ars tl /\ TQ (w.setCell ⟨T,1,none⟩ (.int .i64 x)) T n0 x fv av xs ars tl:=by
 have hs:=h.size
 have sz : ∀ i v,T + 2 <= (w.setCell ⟨T,i,none⟩ v).heap.size:=fun i v => by simpa [World.setCell] using hs
 have tr : ∀ i v,(w.setCell ⟨T,i,none⟩ v).heap[T + 1]? = some (.cells (intsV tl).toArray 3 (0,0)):=fun i v => (Below.heap_setCell w ⟨T,i,none⟩ v (T + 1) (by show T + 1 ≠ T; omega)).trans h.tr
 constructor
 ·exact ⟨set_same h.c0 _,set_off h.c1 (by decide),set_off h.c2 (by decide),set_off h.c3 (by decide),by rw [World.frozen?_setCell]; exact h.z0,by rw [World.frozen?_setCell]; exact h.z1,by rw [World.frozen?_setCell]; exact h.z2,by rw [World.frozen?_setCell]; exact h.z3,
   ⟨ownsRow_setCell_below h.fr.1 (by show T < T + 2; omega) _,h.fr.2⟩,ownsRow_setCell_below h.ar (by show T < T + 2; omega) _,h.ne,tr _ _,sz _ _⟩
 ·exact ⟨set_off h.c0 (by decide),set_same h.c1 _,set_off h.c2 (by decide),set_off h.c3 (by decide),by rw [World.frozen?_setCell]; exact h.z0,by rw [World.frozen?_setCell]; exact h.z1,by rw [World.frozen?_setCell]; exact h.z2,by rw [World.frozen?_setCell]; exact h.z3,
   ⟨ownsRow_setCell_below h.fr.1 (by show T < T + 2; omega) _,h.fr.2⟩,ownsRow_setCell_below h.ar (by show T < T + 2; omega) _,h.ne,tr _ _,sz _ _⟩
theorem TQ.setN {w : World} {T : Nat} {n0 s0 : Int} {fv av : Value} {xs : List Int} {ars : List ArcD} {tl : List Int} (h : TQ w T n0 s0 fv av xs ars tl) (i : Nat) (x : Int) :
  TQ (w.setCell ⟨T + 1,i,none⟩ (.int .i64 x)) T n0 s0 fv av xs ars (tl.set i x):=by
 have hs:=h.size
 have far : ∀ {j v},w.cell? ⟨T,j,none⟩ = some v -> (w.setCell ⟨T + 1,i,none⟩ (.int .i64 x)).cell? ⟨T,j,none⟩ = some v:=fun hc => (set_far (by omega)).trans hc
 refine ⟨far h.c0,far h.c1,far h.c2,far h.c3,by rw [World.frozen?_setCell]; exact h.z0,by rw [World.frozen?_setCell]; exact h.z1,by rw [World.frozen?_setCell]; exact h.z2,by rw [World.frozen?_setCell]; exact h.z3,
  ⟨ownsRow_setCell_below h.fr.1 (by show T + 1 < T + 2; omega) _,h.fr.2⟩,ownsRow_setCell_below h.ar (by show T + 1 < T + 2; omega) _,h.ne,?_,by simpa [World.setCell] using hs⟩
 have:=Go.Joins.block_setCell (i:=i) h.tr (.int .i64 x)
 rw [intsV_set] at this
 exact this
theorem TQ.num {w : World} {T : Nat} {n0 s0 : Int} {fv av : Value} {xs : List Int} {ars : List ArcD} {tl : List Int} (h : TQ w T n0 s0 fv av xs ars tl) (i : Nat) (hi : i < tl.length) : w.cell? ⟨T + 1,i,none⟩ = some (.int .i64 (tl.getD i 0)):=by
 have:=Go.Joins.cell_of_block h.tr i
 simpa [intsV,List.getD,hi] using this
theorem TQ.fin {w w2 : World} {T : Nat} {n0 s0 : Int} {fv v' : Value} {xs : List Int} {tl : List Int} {x : Int} (h : TQ w T n0 s0 fv (.slice none 0 0) xs [] tl) (hx : (Lit.int .i64 x).wf = true) (hg : w.grownBy w2 fv.ownBlock) (hown : w2.ownsRow (T + 2) 3 1 v' (xs.length + 1) (xs.map (Value.int .i64) ++ [.int .i64 x])) :
  w2.cell? ⟨T,2,none⟩ = some fv /\ w2.frozen? ⟨T,2,none⟩ = false /\ TQ (w2.setCell ⟨T,2,none⟩ v') T n0 s0 v' (.slice none 0 0) (xs ++ [x]) [] tl /\ Below T w (w2.setCell ⟨T,2,none⟩ v'):=by
 have hs:=h.size
 have ne : ∀ {k : Nat},k < T + 2 -> some k ≠ fv.ownBlock:=fun hk => row_ne h.fr hk
 have k2:=grown_cell' hg h.c2 (ne (by omega))
 have fz : ∀ i,w2.frozen? ⟨T,i,none⟩ = w.frozen? ⟨T,i,none⟩:=fun i => grown_frozen hg (by omega) (ne (by omega))
 have hoi:=h.fr.appended hown hx
 refine ⟨k2,(fz 2).trans h.z2,⟨?_,?_,set_same k2 _,?_,?_,?_,?_,?_,⟨ownsRow_setCell_below hoi.1 (by show T < T + 2; omega) _,hoi.2⟩,World.ownsRow_nil _ _ _ _,?_,?_,?_⟩,?_⟩
 ·exact set_off (grown_cell' hg h.c0 (ne (by omega))) (by decide)
 ·exact set_off (grown_cell' hg h.c1 (ne (by omega))) (by decide)
 ·exact set_off (grown_cell' hg h.c3 (ne (by omega))) (by decide)
 ·rw [World.frozen?_setCell,fz]; exact h.z0
 ·rw [World.frozen?_setCell,fz]; exact h.z1
 ·rw [World.frozen?_setCell,fz]; exact h.z2
 ·rw [World.frozen?_setCell,fz]; exact h.z3
 ·show v'.ownBlock = none \/ v'.ownBlock ≠ none
  cases v'.ownBlock <;> simp
 ·exact (Below.heap_setCell w2 ⟨T,2,none⟩ v' (T + 1) (by show T + 1 ≠ T; omega)).trans ((hg.block (T + 1) (by omega) (ne (by omega))).trans h.tr)
 ·have:=hg.size
  simp [World.setCell] at this ⊢
  omega
 ·exact (((bel_self w).mono (by omega)).grown hg (by omega) (fun k hk => by have:=(h.fr.1.lt k hk).1; omega)).setCell (by show T <= T; omega) _
theorem TQ.arc {w w2 : World} {T : Nat} {n0 s0 : Int} {fv av v' : Value} {xs : List Int} {ars : List ArcD} {tl : List Int} {a : ArcD} (h : TQ w T n0 s0 fv av xs ars tl) (hg : w.grownBy w2 av.ownBlock) (hown : w2.ownsRow (T + 2) 54 5 v' (ars.length + 1) (arcsV ars ++ arcCells a)) (hloc : v'.ownBlock = av.ownBlock \/ v'.ownBlock = some w.heap.size) :
  w2.cell? ⟨T,3,none⟩ = some av /\ w2.frozen? ⟨T,3,none⟩ = false /\ TQ (w2.setCell ⟨T,3,none⟩ v') T n0 s0 fv v' xs (ars ++ [a]) tl /\ Below T w (w2.setCell ⟨T,3,none⟩ v'):=by
 have hs:=h.size
 have ne : ∀ {k : Nat},k < T + 2 -> some k ≠ av.ownBlock:=fun {k} hk e => by
  have:=(h.ar.lt k e.symm).1
  omega
 have k3:=grown_cell' hg h.c3 (ne (by omega))
 have fz : ∀ i,w2.frozen? ⟨T,i,none⟩ = w.frozen? ⟨T,i,none⟩:=fun i => grown_frozen hg (by omega) (ne (by omega))
 refine ⟨k3,(fz 3).trans h.z3,⟨?_,?_,?_,set_same k3 _,?_,?_,?_,?_,?_,?_,?_,?_,?_⟩,?_⟩
 ·exact set_off (grown_cell' hg h.c0 (ne (by omega))) (by decide)
 ·exact set_off (grown_cell' hg h.c1 (ne (by omega))) (by decide)
 ·exact set_off (grown_cell' hg h.c2 (ne (by omega))) (by decide)
 ·rw [World.frozen?_setCell,fz]; exact h.z0
 ·rw [World.frozen?_setCell,fz]; exact h.z1
 ·rw [World.frozen?_setCell,fz]; exact h.z2
 ·rw [World.frozen?_setCell,fz]; exact h.z3
 ·have:=h.fr.kept hg h.ne
  exact ⟨ownsRow_setCell_below this.1 (by show T < T + 2; omega) _,this.2⟩
 ·rw [arcsV_snoc,List.length_append,List.length_singleton]
  exact ownsRow_setCell_below hown (by show T < T + 2; omega) _
 ·rcases hloc with e | e
  ·rw [e]; exact h.ne
  ·rw [e]
   cases hb : fv.ownBlock with
   | none => exact Or.inl rfl
   | some g =>
    right
    have:=(h.fr.1.lt g hb).2
    intro e1
    have e2 : g = w.heap.size:=by simpa using e1
    omega
 ·exact (Below.heap_setCell w2 ⟨T,3,none⟩ v' (T + 1) (by show T + 1 ≠ T; omega)).trans ((hg.block (T + 1) (by omega) (ne (by omega))).trans h.tr)
 ·have:=hg.size
  simp [World.setCell] at this ⊢
  omega
 ·exact (((bel_self w).mono (by omega)).grown hg (by omega) (fun k hk => by have:=(h.ar.lt k hk).1; omega)).setCell (by show T <= T; omega) _
def toK (st : Nat -> Bool) (N k : Nat) : List Int:=(List.range N).map fun i => if i < k /\ st i = true then ((newNo st i : Nat) : Int) else 0
theorem toK_zero (st : Nat -> Bool) (N : Nat) : toK st N 0 = List.replicate N 0:=by
 unfold toK
 apply List.ext_getElem
 ·simp
 ·intro i h1 h2; simp
theorem toK_len (st : Nat -> Bool) (N k : Nat) : (toK st N k).length = N:=by simp [toK]
theorem toK_hit (st : Nat -> Bool) (N k : Nat) (hs : st k = true) : (toK st N k).set k (newNo st k) = toK st N (k + 1):=by
 apply List.ext_getElem
 ·simp [toK]
 ·intro i h1 h2
  simp only [List.getElem_set,toK,List.getElem_map,List.getElem_range]
  by_cases e : k = i
  ·subst e; simp [hs]
  ·rw [if_neg e]
   by_cases q : i < k /\ st i = true
   ·rw [if_pos q,if_pos ⟨by omega,q.2⟩]
   ·rw [if_neg q,if_neg (fun r => q ⟨by omega,r.2⟩)]
theorem toK_miss (st : Nat -> Bool) (N k : Nat) (hs : st k = false) : toK st N (k + 1) = toK st N k:=by
 apply List.ext_getElem
 ·simp [toK]
 ·intro i h1 h2
  simp only [toK,List.getElem_map,List.getElem_range]
  by_cases q : i < k /\ st i = true
  ·rw [if_pos q,if_pos ⟨by omega,q.2⟩]
  ·rw [if_neg q,if_neg (fun r => q ⟨by
    by_cases e : i = k
    ·rw [e,hs] at r; cases r.2
    ·omega,r.2⟩)]
theorem toK_at (st : Nat -> Bool) (N k i : Nat) (hi : i < N) (hk : i < k) (hs : st i = true) : (toK st N k).getD i 0 = newNo st i:=by
 simp [toK,List.getD,hi,hk,hs]
end Go.Proofs.Yteehgcbjmdideab.Sc
/- 'TrimOf' of the document's answer. -/
namespace Go.Proofs.Yteehgcbjmdideab.Sc
open Go.RowKit Go.Maps Go.ChangeShapes
attribute [local go_sem ↓] Go.wp_at_zero Go.wp_at_succ
def boolsV (bs : List Bool) : List Value:=bs.map Value.bool
def BRow (w : World) (B : Nat) (bs : List Bool) : Prop:=w.heap[B]? = some (.cells (boolsV bs).toArray 4 (0,0))
theorem BRow.cell {w : World} {B : Nat} {bs : List Bool} (h : BRow w B bs) (i : Nat) (hi : i < bs.length) : w.cell? ⟨B,i,none⟩ = some (.bool (atB bs i)):=by
 have:=Go.Joins.cell_of_block h i
 simpa [boolsV,atB,List.getD,hi] using this
theorem BRow.frozen {w : World} {B : Nat} {bs : List Bool} (h : BRow w B bs) (i : Nat) : w.frozen? ⟨B,i,none⟩ = false:=Go.Joins.unfrozen_of_block h i
theorem boolsV_set (bs : List Bool) (k : Nat) (y : Bool) : (boolsV bs).toArray.setIfInBounds k (.bool y) = (boolsV (bs.set k y)).toArray:=by simp [boolsV,List.map_set]
theorem BRow.set {w : World} {B : Nat} {bs : List Bool} (h : BRow w B bs) (i : Nat) (v : Bool) : BRow (w.setCell ⟨B,i,none⟩ (.bool v)) B (bs.set i v):=by
 have:=Go.Joins.block_setCell (i:=i) h (.bool v)
 rw [boolsV_set] at this
 exact this
theorem BRow.other {w : World} {B k i : Nat} {bs : List Bool} {v : Value} (h : BRow w B bs) (hk : B ≠ k) : BRow (w.setCell ⟨k,i,none⟩ v) B bs:=(Below.heap_setCell w ⟨k,i,none⟩ v B hk).trans h
theorem BRow.below {w w' : World} {B : Nat} {bs : List Bool} (h : BRow w B bs) (hb : Below w.heap.size w w') : BRow w' B bs:=heap_bel hb h
theorem made_bools (n : Nat) : madeCells #[.bool false] n = (boolsV (List.replicate n false)).toArray:=by
 unfold madeCells boolsV
 apply Array.ext
 ·simp
 ·intro i h1 h2
  simp [Nat.mod_one]
theorem BRow.made (w : World) (n N : Nat) (hN : w.heap.size = N) : BRow (w.alloc (.cells (madeCells #[.bool false] n) 4)) N (List.replicate n false):=by
 subst hN
 unfold BRow
 rw [<- made_bools]
 exact heap_alloc_new w _
theorem infoBool : (Try.prog.info? 4).map (fun i => (i.zero,i.size,i.bytes)) = some (some (.bool false),1,1):=by kernel_rfl
structure TO (w wx : World) (N s0 : Nat) (fin arcs : Value) (Bt Bo : Nat) (th on : List Bool) : Prop where
 cells : CellsF wx w.heap.size (N : Int) (s0 : Int) fin arcs
 zb : ZBlock wx (w.heap.size + 1)
 rt : BRow wx Bt th
 ro : BRow wx Bo on
 ne : Bt ≠ Bo
 gt : w.heap.size + 1 < Bt
 go : w.heap.size + 1 < Bo
 bel : Below w.heap.size w wx
 lt : th.length = N
 lo : on.length = N
theorem TO.below {w wx wy : World} {N s0 : Nat} {fin arcs : Value} {Bt Bo : Nat} {th on : List Bool} (h : TO w wx N s0 fin arcs Bt Bo th on) (hb : Below wx.heap.size wx wy) : TO w wy N s0 fin arcs Bt Bo th on :=
 ⟨h.cells.below hb,heap_bel hb h.zb,h.rt.below hb,h.ro.below hb,h.ne,h.gt,h.go,bel_on h.bel hb,h.lt,h.lo⟩
theorem CellsF.set {w : World} {B k i : Nat} {st sta : Int} {fin arcs v : Value} (h : CellsF w B st sta fin arcs) (hk : B ≠ k) : CellsF (w.setCell ⟨k,i,none⟩ v) B st sta fin arcs :=
 ⟨(set_far hk).trans h.1,(set_far hk).trans h.2.1,(set_far hk).trans h.2.2.1,(set_far hk).trans h.2.2.2⟩
theorem TO.setT {w wx : World} {N s0 : Nat} {fin arcs : Value} {Bt Bo : Nat} {th on : List Bool} (h : TO w wx N s0 fin arcs Bt Bo th on) (i : Nat) (v : Bool) : TO w (wx.setCell ⟨Bt,i,none⟩ (.bool v)) N s0 fin arcs Bt Bo (th.set i v) on :=
 ⟨CellsF.set h.cells (by have:=h.gt; omega),(Below.heap_setCell wx ⟨Bt,i,none⟩ _ _ (by have:=h.gt; show w.heap.size + 1 ≠ Bt; omega)).trans h.zb,h.rt.set i v,h.ro.other (Ne.symm h.ne),h.ne,h.gt,h.go,h.bel.setCell (p:=⟨Bt,i,none⟩) (by have:=h.gt; show _ <= Bt; omega) _,by rw [List.length_set]; exact h.lt,h.lo⟩
theorem TO.setO {w wx : World} {N s0 : Nat} {fin arcs : Value} {Bt Bo : Nat} {th on : List Bool} (h : TO w wx N s0 fin arcs Bt Bo th on) (i : Nat) (v : Bool) : TO w (wx.setCell ⟨Bo,i,none⟩ (.bool v)) N s0 fin arcs Bt Bo th (on.set i v) :=
 ⟨CellsF.set h.cells (by have:=h.go; omega),(Below.heap_setCell wx ⟨Bo,i,none⟩ _ _ (by have:=h.go; show w.heap.size + 1 ≠ Bo; omega)).trans h.zb,h.rt.other h.ne,h.ro.set i v,h.ne,h.gt,h.go,h.bel.setCell (p:=⟨Bo,i,none⟩) (by have:=h.go; show _ <= Bo; omega) _,h.lt,by rw [List.length_set]; exact h.lo⟩
theorem TO.start (w : World) (N s0 : Nat) (fin arcs : Value) (Bt Bo : Nat) (hB : (Bt = w.heap.size + 1 + 1 /\ Bo = w.heap.size + 1 + 1 + 1) \/ (Bo = w.heap.size + 1 + 1 /\ Bt = w.heap.size + 1 + 1 + 1)) :
  TO w ((((w.alloc (.cells #[.int .i64 (N : Int),.int .i64 (s0 : Int),fin,arcs] 25)).alloc (.cells #[.int .i64 0,.int .i64 0,.slice none 0 0,.slice none 0 0] 25)).alloc (.cells (madeCells #[.bool false] N) 4)).alloc (.cells (madeCells #[.bool false] N) 4)).drew N s0 fin arcs Bt Bo (List.replicate N false) (List.replicate N false):=by
 have u1:=bel_up (bel_self ((w.alloc (.cells #[.int .i64 (N : Int),.int .i64 (s0 : Int),fin,arcs] 25)).alloc (.cells #[.int .i64 0,.int .i64 0,.slice none 0 0,.slice none 0 0] 25))) (.cells (madeCells #[.bool false] N) 4)
 have u2:=(bel_up u1 (.cells (madeCells #[.bool false] N) 4)).drew
 have r1 : BRow ((((w.alloc (.cells #[.int .i64 (N : Int),.int .i64 (s0 : Int),fin,arcs] 25)).alloc (.cells #[.int .i64 0,.int .i64 0,.slice none 0 0,.slice none 0 0] 25)).alloc (.cells (madeCells #[.bool false] N) 4)).alloc (.cells (madeCells #[.bool false] N) 4)).drew (w.heap.size + 1 + 1) (List.replicate N false) :=
  (BRow.made _ N _ (by simp)).below (bel_up (bel_self _) _).drew
 have r2 : BRow ((((w.alloc (.cells #[.int .i64 (N : Int),.int .i64 (s0 : Int),fin,arcs] 25)).alloc (.cells #[.int .i64 0,.int .i64 0,.slice none 0 0,.slice none 0 0] 25)).alloc (.cells (madeCells #[.bool false] N) 4)).alloc (.cells (madeCells #[.bool false] N) 4)).drew (w.heap.size + 1 + 1 + 1) (List.replicate N false) :=
  (BRow.made _ N _ (by simp)).below (bel_self _).drew
 have hc : CellsF ((w.alloc (.cells #[.int .i64 (N : Int),.int .i64 (s0 : Int),fin,arcs] 25)).alloc (.cells #[.int .i64 0,.int .i64 0,.slice none 0 0,.slice none 0 0] 25)) w.heap.size (N : Int) (s0 : Int) fin arcs:=by simp [CellsF]
 have hz:=zblock2 w (.cells #[.int .i64 (N : Int),.int .i64 (s0 : Int),fin,arcs] 25)
 have hw:=(bel_up (bel_up (bel_up (bel_up (bel_self w) (.cells #[.int .i64 (N : Int),.int .i64 (s0 : Int),fin,arcs] 25)) (.cells #[.int .i64 0,.int .i64 0,.slice none 0 0,.slice none 0 0] 25)) (.cells (madeCells #[.bool false] N) 4)) (.cells (madeCells #[.bool false] N) 4)).drew
 rcases hB with ⟨rfl,rfl⟩ | ⟨rfl,rfl⟩
 ·exact ⟨hc.below u2,heap_bel u2 hz,r1,r2,by omega,by omega,by omega,hw,by simp,by simp⟩
 ·exact ⟨hc.below u2,heap_bel u2 hz,r2,r1,by omega,by omega,by omega,hw,by simp,by simp⟩
def onK (xs : List Int) (k : Nat) : List Bool:=((xs.take k).map fun x => decide (0 <= x)) ++ List.replicate (xs.length - k) false
theorem onK_zero (xs : List Int) (N : Nat) (h : xs.length = N) : onK xs 0 = List.replicate N false:=by simp [onK,h]
theorem onK_set (xs : List Int) (k : Nat) (hk : k < xs.length) (x : Int) (hx : x = xs.getD k 0) : (onK xs k).set k (decide (0 <= x)) = onK xs (k + 1):=by
 have hl : ((xs.take k).map fun x => decide (0 <= x)).length = k:=by simp; omega
 have hg : xs[k]? = some x:=by rw [hx]; simp [List.getD,hk]
 unfold onK
 rw [List.set_append_right _ _ (by omega),hl,Nat.sub_self,show xs.length - k = (xs.length - (k + 1)) + 1 by omega,List.replicate_succ,List.set_cons_zero,List.take_add_one,hg]
 simp
theorem onK_all (f : FstD) : onK f.final f.final.length = onM f:=by simp [onK,onM]
theorem pairs_take (l : List (Nat × Nat)) (j : Nat) (p : Nat × Nat) (hj : l[j]? = some p) (m : List Bool) : relax (l.take (j + 1)) m = relax1 (relax (l.take j) m) p:=by
 rw [List.take_add_one,hj]
 simp [relax]
def TrimIs (f : FstD) (B : Nat) (e : Ending) (w : World) : Prop :=
 ∃ fv av,e = .returned (.agg #[.int .i64 (trimD f).states,.int .i64 (trimD f).start,fv,av]) /\ ISlice w fv (trimD f).final /\ ASlice w av (trimD f).arcs /\ (∀ g,fv.ownBlock = some g -> B <= g) /\ ∀ g,av.ownBlock = some g -> B <= g
set_option maxHeartbeats 8000000 in
theorem trimOf_some (N s0 : Nat) (xs : List Int) (ars : List ArcD) (fb off fc : Nat) (aa : Option Addr) (n ac : Nat) (w : World) (hx : IntsAt w fb off N xs) (ha : ASlice w (.slice aa n ac) ars) (hal : ars.length = n) (hn : n <= 3000) (hN1 : 1 <= N) (hN : N <= 200) (hs0 : s0 < N)
  (hok : ∀ a ∈ ars,(0 <= a.src /\ a.src < N) /\ (0 <= a.dst /\ a.dst < N)) (hfi : ∀ x ∈ xs,in64 x) (hc : checkD ⟨N,s0,xs,ars⟩ = 0) :
  Calls Try.prog 36 #[.agg #[.int .i64 (N : Int),.int .i64 (s0 : Int),.slice (some ⟨fb,off,none⟩) N fc,.slice aa n ac]] w fun e w' => TrimIs ⟨N,s0,xs,ars⟩ w.heap.size e w' /\ Below w.heap.size w w':=by
 have HFI : Hid (∀ x ∈ xs,in64 x):=hfi
 have HC : Hid (checkD ⟨N,s0,xs,ars⟩ = 0):=hc
 clear hfi hc
 have HFL : Hid (xs.length = N):=hx.len
 have HAL : Hid (ars.length = n):=hal
 have HOK : Hid (∀ a ∈ ars,(0 <= a.src /\ a.src < N) /\ (0 <= a.dst /\ a.dst < N)):=hok
 have HTA:=TO.start w N s0 (.slice (some ⟨fb,off,none⟩) N fc) (.slice aa n ac) (w.heap.size + 1 + 1) (w.heap.size + 1 + 1 + 1) (Or.inl ⟨rfl,rfl⟩)
 have HTB:=TO.start w N s0 (.slice (some ⟨fb,off,none⟩) N fc) (.slice aa n ac) (w.heap.size + 1 + 1 + 1) (w.heap.size + 1 + 1) (Or.inr ⟨rfl,rfl⟩)
 clear hal hok
 have hmk:=run_make_row' (P:=Try.prog) 56 4 (.bool false) 1 Try.underlying56 infoBool rfl .i64 .i64 N (by omega) (by omega)
 go_enter Try.func36,Try.ntmps36
 go_wp2
 go_cut [3,4] from 14 (fun t3 t4 wx => ∃ Bt Bo : Nat,t3 = .slice (some ⟨Bt,0,none⟩) N N /\ t4 = .slice (some ⟨Bo,0,none⟩) N N /\ TO w wx N s0 (.slice (some ⟨fb,off,none⟩) N fc) (.slice aa n ac) Bt Bo (List.replicate N false) (List.replicate N false))
 case first =>
  go_region
  ·go_wp2
   go_meet
   case rel => exact ⟨_,_,rfl,rfl,HTA⟩
  ·go_wp2
   go_meet
   case rel => exact ⟨_,_,rfl,rfl,HTB⟩
 case rest =>
  clear HTA HTB
  obtain ⟨Bt,Bo,rfl,rfl,HTA⟩:=hcut
  obtain ⟨c0,c1,c2,c3⟩:=HTA.cells
  have t1:=HTA.rt.cell s0 (by simp; omega)
  have z1:=HTA.rt.frozen s0
  have hsi : (s0 : Int) < N:=by omega
  go_wp2
  have HT:=HTA.setT s0 true
  clear c0 c1 c2 c3 t1 z1 HTA
  obtain ⟨th,hth⟩ : ∃ th,th = (List.replicate N false).set s0 true:=⟨_,rfl⟩
  rw [<- hth] at HT
  go_loopw [5] (fun i wr => ∃ k : Nat,k <= N /\ i = .int .i64 k /\ TO w wr N s0 (.slice (some ⟨fb,off,none⟩) N fc) (.slice aa n ac) Bt Bo th (onK xs k)) (fun i _ => N - (intOf i).toNat)
  case atStart => exact ⟨0,Nat.zero_le _,rfl,by rw [onK_zero xs N HFL.out]; exact HT⟩
  case round =>
   clear HT
   obtain ⟨k,hk,rfl,HT⟩:=hrel
   obtain ⟨c0,c1,c2,c3⟩:=HT.cells
   by_cases hlt : k < N
   ·have hci:=(hx.below HT.bel).cell k hlt
    obtain ⟨x,hxk⟩ : ∃ x,x = xs.getD k 0:=⟨_,rfl⟩
    rw [<- hxk] at hci
    have t1:=HT.ro.cell k (by rw [HT.lo]; exact hlt)
    have z1:=HT.ro.frozen k
    have hki : (k : Int) < N:=by omega
    have HS : Hid ((onK xs k).set k (decide (0 <= x)) = onK xs (k + 1)):=onK_set xs k (by rw [HFL.out]; exact hlt) x hxk
    clear hxk
    go_wp2
    go_roundw
    case rel => exact ⟨k + 1,by omega,by go_num,by rw [<- HS.out]; exact HT.setO k _⟩
    case measure => simp [intOf]; omega
   ·have HO : Hid (onK xs k = onM ⟨N,s0,xs,ars⟩):=by
     have h1 : k = xs.length:=by have:=HFL.out; omega
     rw [h1]; exact onK_all ⟨N,s0,xs,ars⟩
    have HT2:=HT
    rw [HO.out] at HT2
    have HTH : Hid (th = thereM ⟨N,s0,xs,ars⟩):=(by rw [hth]; rfl : th = thereM ⟨N,s0,xs,ars⟩)
    clear hth
    go_wp2
    clear c0 c1 c2 c3 HT
    rename World => w2
    rw [HTH.out] at HT2
    go_loopw [6] (fun i wr => ∃ k2 : Nat,k2 <= N /\ i = .int .i64 k2 /\ TO w wr N s0 (.slice (some ⟨fb,off,none⟩) N fc) (.slice aa n ac) Bt Bo (relaxN (pairsA ⟨N,s0,xs,ars⟩) k2 (thereM ⟨N,s0,xs,ars⟩)) (relaxN (pairsB ⟨N,s0,xs,ars⟩) k2 (onM ⟨N,s0,xs,ars⟩))) (fun i _ => N - (intOf i).toNat)
    case atStart => exact ⟨0,Nat.zero_le _,rfl,HT2⟩
    case round =>
     clear HT2
     obtain ⟨k2,hk2,rfl,HT2⟩:=hrel
     obtain ⟨c0,c1,c2,c3⟩:=HT2.cells
     by_cases hlt2 : k2 < N
     ·have hki2 : (k2 : Int) < N:=by omega
      go_wp2
      rename World => w3
      clear c0 c1 c2 c3
      go_loopw [7] (fun i wr => ∃ j : Nat,j <= n /\ i = .int .i64 j /\ TO w wr N s0 (.slice (some ⟨fb,off,none⟩) N fc) (.slice aa n ac) Bt Bo (relax ((pairsA ⟨N,s0,xs,ars⟩).take j) (relaxN (pairsA ⟨N,s0,xs,ars⟩) k2 (thereM ⟨N,s0,xs,ars⟩))) (relax ((pairsB ⟨N,s0,xs,ars⟩).take j) (relaxN (pairsB ⟨N,s0,xs,ars⟩) k2 (onM ⟨N,s0,xs,ars⟩)))) (fun i _ => n - (intOf i).toNat)
      case atStart => exact ⟨0,Nat.zero_le _,rfl,HT2⟩
      case round =>
       clear HT2
       obtain ⟨j,hj,rfl,HT3⟩:=hrel
       obtain ⟨c0,c1,c2,c3⟩:=HT3.cells
       by_cases hlj : j < n
       ·obtain ⟨b,boff,rfl,hxa⟩:=(ha.below HT3.bel).some (by omega)
        obtain ⟨a,hak⟩ : ∃ a,a = ars.getD j a0:=⟨_,rfl⟩
        have hjl : j < ars.length:=by have:=HAL.out; omega
        have hmem : a ∈ ars:=by rw [hak]; simp [List.getD,hjl]
        obtain ⟨⟨r1,r2⟩,⟨r3,r4⟩⟩:=HOK.out a hmem
        obtain ⟨s,hs⟩ : ∃ t : Nat,a.src = t:=⟨a.src.toNat,by omega⟩
        obtain ⟨t,ht⟩ : ∃ t : Nat,a.dst = t:=⟨a.dst.toNat,by omega⟩
        have e0:=hxa.c0 j hlj
        have e1:=hxa.c1 j hlj
        have e2:=hxa.c2 j hlj
        have e3:=hxa.c3 j hlj
        have e4:=hxa.c4 j hlj
        rw [<- hak] at e0 e1 e2 e3 e4
        rw [hs] at e0
        rw [ht] at e3
        have hsN : s < N:=by omega
        have htN : t < N:=by omega
        have hga : ars[j]? = some a:=by rw [hak]; simp [List.getD,hjl]
        have HPA : Hid (relax ((pairsA ⟨N,s0,xs,ars⟩).take (j + 1)) (relaxN (pairsA ⟨N,s0,xs,ars⟩) k2 (thereM ⟨N,s0,xs,ars⟩)) = relax1 (relax ((pairsA ⟨N,s0,xs,ars⟩).take j) (relaxN (pairsA ⟨N,s0,xs,ars⟩) k2 (thereM ⟨N,s0,xs,ars⟩))) (s,t)):=pairs_take _ j (s,t) (by unfold pairsA; rw [List.getElem?_map]; show Option.map _ ars[j]? = _; rw [hga]; simp [hs,ht]) _
        have HPB : Hid (relax ((pairsB ⟨N,s0,xs,ars⟩).take (j + 1)) (relaxN (pairsB ⟨N,s0,xs,ars⟩) k2 (onM ⟨N,s0,xs,ars⟩)) = relax1 (relax ((pairsB ⟨N,s0,xs,ars⟩).take j) (relaxN (pairsB ⟨N,s0,xs,ars⟩) k2 (onM ⟨N,s0,xs,ars⟩))) (t,s)):=pairs_take _ j (t,s) (by unfold pairsB; rw [List.getElem?_map]; show Option.map _ ars[j]? = _; rw [hga]; simp [hs,ht]) _
        generalize relax ((pairsA ⟨N,s0,xs,ars⟩).take j) (relaxN (pairsA ⟨N,s0,xs,ars⟩) k2 (thereM ⟨N,s0,xs,ars⟩)) = th3 at *
        generalize relax ((pairsB ⟨N,s0,xs,ars⟩).take j) (relaxN (pairsB ⟨N,s0,xs,ars⟩) k2 (onM ⟨N,s0,xs,ars⟩)) = on3 at *
        have hji : (j : Int) < n:=by omega
        have hsi2 : (s : Int) < N:=by omega
        have hti2 : (t : Int) < N:=by omega
        clear hak hmem hjl hxa r1 r2 r3 r4 hs ht hga
        obtain ⟨wa,hwa⟩ : ∃ wa,wa = wr.alloc (.cells #[.int .i64 (s : Int),.int .i64 a.inp,.int .i64 a.out,.int .i64 (t : Int),.int .i64 a.wt] 54):=⟨_,rfl⟩
        have HTa:=HT3.below (wy:=wa) (by rw [hwa]; exact bel_up (bel_self _) _)
        have hVt : Bt < wr.heap.size:=heap_lt HT3.rt
        have hVo : Bo < wr.heap.size:=heap_lt HT3.ro
        have d0 : wa.cell? ⟨wr.heap.size,0,none⟩ = some (.int .i64 (s : Int)):=by rw [hwa]; exact new_cell _ _ _ _ 0 _ rfl rfl
        have d3 : wa.cell? ⟨wr.heap.size,3,none⟩ = some (.int .i64 (t : Int)):=by rw [hwa]; exact new_cell _ _ _ _ 3 _ rfl rfl
        go_wp2
        rw [<- hwa]
        clear c0 c1 c2 c3 e0 e1 e2 e3 e4
        have y1:=HTa.rt.cell t (by rw [HTa.lt]; exact htN)
        have y2:=HTa.rt.cell s (by rw [HTa.lt]; exact hsN)
        have y3:=HTa.rt.frozen t
        generalize hV : wr.heap.size = V at *
        clear hwa hV HT3
        cases hbt : atB th3 t
        ·rw [hbt] at y1
         have HBT : Hid (atB th3 t = false):=hbt
         clear hbt
         go_region
         have HTb:=(HTa.setT t (atB th3 s)).below (bel_self _).drew
         have d0' : (wa.setCell ⟨Bt,t,none⟩ (.bool (atB th3 s))).drew.cell? ⟨V,0,none⟩ = some (.int .i64 (s : Int)):=(set_far (by omega)).trans d0
         have d3' : (wa.setCell ⟨Bt,t,none⟩ (.bool (atB th3 s))).drew.cell? ⟨V,3,none⟩ = some (.int .i64 (t : Int)):=(set_far (by omega)).trans d3
         clear y1 y2 y3 d0 d3 HTa
         have d0:=d0'; have d3:=d3'; clear d0' d3'
         generalize (wa.setCell ⟨Bt,t,none⟩ (.bool (atB th3 s))).drew = wb at *
         have z1:=HTb.ro.cell s (by rw [HTb.lo]; exact hsN)
         have z2:=HTb.ro.cell t (by rw [HTb.lo]; exact htN)
         have z3:=HTb.ro.frozen s
         go_wp2
         cases hbo : atB on3 s
         ·rw [hbo] at z1
          have HBO : Hid (atB on3 s = false):=hbo
          clear hbo
          go_region
          have HTc:=(HTb.setO s (atB on3 t)).below (bel_self _).drew
          clear z1 z2 z3 d0 d3 HTb
          generalize (wb.setCell ⟨Bo,s,none⟩ (.bool (atB on3 t))).drew = wc at *
          go_wp2
          go_roundw
          case rel =>
           refine ⟨j + 1,by omega,by go_num,?_⟩
           rw [HPA.out,HPB.out]
           unfold relax1
           simp only [HBT.out,HBO.out,Bool.false_or]
           exact HTc
          case measure => simp [intOf]; omega
         ·rw [hbo] at z1
          have HBO : Hid (atB on3 s = true):=hbo
          clear hbo
          go_region
          have HTc:=(HTb.setO s true).below (bel_self _).drew
          clear z1 z2 z3 d0 d3 HTb
          generalize (wb.setCell ⟨Bo,s,none⟩ (.bool true)).drew = wc at *
          go_wp2
          go_roundw
          case rel =>
           refine ⟨j + 1,by omega,by go_num,?_⟩
           rw [HPA.out,HPB.out]
           unfold relax1
           simp only [HBT.out,HBO.out,Bool.false_or,Bool.true_or]
           exact HTc
          case measure => simp [intOf]; omega
        ·rw [hbt] at y1
         have HBT : Hid (atB th3 t = true):=hbt
         clear hbt
         go_region
         have HTb:=(HTa.setT t true).below (bel_self _).drew
         have d0' : (wa.setCell ⟨Bt,t,none⟩ (.bool true)).drew.cell? ⟨V,0,none⟩ = some (.int .i64 (s : Int)):=(set_far (by omega)).trans d0
         have d3' : (wa.setCell ⟨Bt,t,none⟩ (.bool true)).drew.cell? ⟨V,3,none⟩ = some (.int .i64 (t : Int)):=(set_far (by omega)).trans d3
         clear y1 y2 y3 d0 d3 HTa
         have d0:=d0'; have d3:=d3'; clear d0' d3'
         generalize (wa.setCell ⟨Bt,t,none⟩ (.bool true)).drew = wb at *
         have z1:=HTb.ro.cell s (by rw [HTb.lo]; exact hsN)
         have z2:=HTb.ro.cell t (by rw [HTb.lo]; exact htN)
         have z3:=HTb.ro.frozen s
         go_wp2
         cases hbo : atB on3 s
         ·rw [hbo] at z1
          have HBO : Hid (atB on3 s = false):=hbo
          clear hbo
          go_region
          have HTc:=(HTb.setO s (atB on3 t)).below (bel_self _).drew
          clear z1 z2 z3 d0 d3 HTb
          generalize (wb.setCell ⟨Bo,s,none⟩ (.bool (atB on3 t))).drew = wc at *
          go_wp2
          go_roundw
          case rel =>
           refine ⟨j + 1,by omega,by go_num,?_⟩
           rw [HPA.out,HPB.out]
           unfold relax1
           simp only [HBT.out,HBO.out,Bool.false_or,Bool.true_or]
           exact HTc
          case measure => simp [intOf]; omega
         ·rw [hbo] at z1
          have HBO : Hid (atB on3 s = true):=hbo
          clear hbo
          go_region
          have HTc:=(HTb.setO s true).below (bel_self _).drew
          clear z1 z2 z3 d0 d3 HTb
          generalize (wb.setCell ⟨Bo,s,none⟩ (.bool true)).drew = wc at *
          go_wp2
          go_roundw
          case rel =>
           refine ⟨j + 1,by omega,by go_num,?_⟩
           rw [HPA.out,HPB.out]
           unfold relax1
           simp only [HBT.out,HBO.out,Bool.true_or]
           exact HTc
          case measure => simp [intOf]; omega
       ·have HPA : Hid (relax ((pairsA ⟨N,s0,xs,ars⟩).take j) (relaxN (pairsA ⟨N,s0,xs,ars⟩) k2 (thereM ⟨N,s0,xs,ars⟩)) = relaxN (pairsA ⟨N,s0,xs,ars⟩) (k2 + 1) (thereM ⟨N,s0,xs,ars⟩)):=by
         rw [List.take_of_length_le (by simp [pairsA,HAL.out]; omega)]; rfl
        have HPB : Hid (relax ((pairsB ⟨N,s0,xs,ars⟩).take j) (relaxN (pairsB ⟨N,s0,xs,ars⟩) k2 (onM ⟨N,s0,xs,ars⟩)) = relaxN (pairsB ⟨N,s0,xs,ars⟩) (k2 + 1) (onM ⟨N,s0,xs,ars⟩)):=by
         rw [List.take_of_length_le (by simp [pairsB,HAL.out]; omega)]; rfl
        go_wp2
        go_roundw
        case rel => exact ⟨k2 + 1,by omega,by go_num,by rw [<- HPA.out,<- HPB.out]; exact HT3⟩
        case measure => simp [intOf]; omega
     ·have e1 : relaxN (pairsA ⟨N,s0,xs,ars⟩) k2 (thereM ⟨N,s0,xs,ars⟩) = thereN ⟨N,s0,xs,ars⟩:=by
       have : k2 = N:=by omega
       rw [this]; rfl
      have e2 : relaxN (pairsB ⟨N,s0,xs,ars⟩) k2 (onM ⟨N,s0,xs,ars⟩) = onN ⟨N,s0,xs,ars⟩:=by
       have : k2 = N:=by omega
       rw [this]; rfl
      rw [e1,e2] at HT2
      have HTD : Hid (trimD ⟨N,s0,xs,ars⟩ = trimBy ⟨N,s0,xs,ars⟩ (fun i => atB (thereN ⟨N,s0,xs,ars⟩) i && atB (onN ⟨N,s0,xs,ars⟩) i)):=rfl
      have HTS : Hid (atB (thereN ⟨N,s0,xs,ars⟩) s0 = true):=start_there ⟨N,s0,xs,ars⟩ HC.out
      clear e1 e2
      generalize thereN ⟨N,s0,xs,ars⟩ = th4 at *
      generalize onN ⟨N,s0,xs,ars⟩ = on4 at *
      obtain ⟨st,hst⟩ : ∃ st : Nat -> Bool,st = fun i => atB th4 i && atB on4 i:=⟨_,rfl⟩
      have HSt : Hid (∀ i,st i = (atB th4 i && atB on4 i)):=fun i => by rw [hst]
      have HTD2 : Hid (trimD ⟨N,s0,xs,ars⟩ = trimBy ⟨N,s0,xs,ars⟩ st):=(by rw [hst]; exact HTD.out : trimD ⟨N,s0,xs,ars⟩ = trimBy ⟨N,s0,xs,ars⟩ st)
      clear hst HTD
      have y0:=HT2.ro.cell s0 (by rw [HT2.lo]; exact hs0)
      have hsi3 : (s0 : Int) < N:=by omega
      obtain ⟨z0,z1,z2,z3,x0,x1,x2,x3⟩:=zfacts HT2.zb
      cases hbs : atB on4 s0
      ·rw [hbs] at y0
       have hst0 : st s0 = false:=by rw [HSt.out s0,hbs,Bool.and_false]
       have HS0 : Hid (st s0 = false):=hst0
       clear hst0 hbs
       obtain ⟨g0,g1,g2,g3,g4,g5,g6,g7⟩:=zfacts (heap_bel (bel_up (bel_self wr) (.cells #[.int .i64 (-1)] 3)) HT2.zb)
       go_wp2
       have hrow : ((wr.alloc (.cells #[.int .i64 (-1)] 3))).ownsRow wr.heap.size 3 1 (.slice (some ⟨wr.heap.size,0,none⟩) 1 1) 1 [.int .i64 (-1)]:=World.ownsRow_lit wr #[.int .i64 (-1)] 1 (Nat.le_refl _) (by decide) rfl
       have HLT : Hid (w.heap.size + 1 < wr.heap.size):=heap_lt HT2.zb
       have htd : trimD ⟨N,s0,xs,ars⟩ = ⟨1,0,[-1],[]⟩:=by
        rw [HTD2.out]; unfold trimBy; rw [if_neg]; show ¬ st ((s0 : Int).toNat) = true; rw [Int.toNat_natCast,HS0.out]; simp
       refine bodyPost_ret (v:=.agg #[.int .i64 1,.int .i64 0,.slice (some ⟨wr.heap.size,0,none⟩) 1 1,.slice none 0 0]) (by simp [results,Try.results36,go_sem, *]) rfl ⟨?_,bel_set4 (bel_up HT2.bel _) (by omega) _ _ _ _⟩
       unfold TrimIs
       rw [htd]
       exact ⟨_,_,rfl,ownsRow_ints (row_set4 hrow (by have:=HLT.out; simp [Value.ownBlock]; omega) _ _ _ _),Or.inl ⟨none,0,rfl,rfl⟩,fun g hg => by have h1:=HLT.out; simp [Value.ownBlock] at hg; omega,fun g hg => by cases hg⟩
      ·rw [hbs] at y0
       have hst0 : st s0 = true:=by rw [HSt.out s0,hbs,HTS.out]; rfl
       have HS0 : Hid (st s0 = true):=hst0
       clear hst0 hbs
       have hmk2:=run_make_row' (P:=Try.prog) 22 3 (.int .i64 0) 8 Try.underlying22 infoInt rfl .i64 .i64 N (by omega) (by omega)
       have k0 : (wr.alloc (.cells #[.int .i64 0,.int .i64 0,.slice none 0 0,.slice none 0 0] 25)).cell? ⟨w.heap.size,0,none⟩ = some (.int .i64 (N : Int)):=old_cell c0
       have k0' : ((wr.alloc (.cells #[.int .i64 0,.int .i64 0,.slice none 0 0,.slice none 0 0] 25)).alloc (.cells (madeCells #[.int .i64 0] N) 3)).cell? ⟨w.heap.size,0,none⟩ = some (.int .i64 (N : Int)):=old_cell k0
       go_wp2
       rename World => w4
       clear c0 c1 c2 c3 k0 k0' y0 z0 z1 z2 z3 x0 x1 x2 x3
       obtain ⟨i0,hi,hz0,hz1,hz2⟩:=info_parts infoInt
       obtain ⟨j0,hj0,hj1,hj2,hj3⟩:=info_parts Try.info54
       go_loopw [11] (fun i wr => ∃ k : Nat,k <= N /\ i = .int .i64 k /\ ∃ fv,TQ wr w4.heap.size (newNo st k) 0 fv (.slice none 0 0) (finT ⟨N,s0,xs,ars⟩ st k) [] (toK st N k) /\ Below w4.heap.size w4 wr) (fun i _ => N - (intOf i).toNat)
       case atStart => exact ⟨0,Nat.zero_le _,rfl,_,by rw [toK_zero]; exact TQ.start w4 N _ rfl _,bel_up (bel_up (bel_self _) _) _⟩
       case round =>
        obtain ⟨k,hk,rfl,fv,hq,hB⟩:=hrel
        have HTx:=HT2.below hB
        obtain ⟨c0,c1,c2,c3⟩:=HTx.cells
        by_cases hlt : k < N
        ·have hki : (k : Int) < N:=by omega
         have y1:=HTx.rt.cell k (by rw [HTx.lt]; exact hlt)
         have y2:=HTx.ro.cell k (by rw [HTx.lo]; exact hlt)
         have hsk:=HSt.out k
         cases hb1 : atB th4 k
         ·rw [hb1] at y1 hsk
          have HK : Hid (st k = false):=hsk
          clear hb1 hsk
          go_wp2
          go_roundw
          case rel => exact ⟨k + 1,by omega,by go_num,fv,by rw [newNo_succ,HK.out,finT_miss _ _ _ HK.out,toK_miss _ _ _ HK.out]; exact hq,hB⟩
          case measure => simp [intOf]; omega
         ·cases hb2 : atB on4 k
          ·rw [hb1] at y1
           rw [hb2] at y2
           rw [hb1,hb2] at hsk
           have HK : Hid (st k = false):=hsk
           clear hb1 hb2 hsk
           go_wp2
           go_roundw
           case rel => exact ⟨k + 1,by omega,by go_num,fv,by rw [newNo_succ,HK.out,finT_miss _ _ _ HK.out,toK_miss _ _ _ HK.out]; exact hq,hB⟩
           case measure => simp [intOf]; omega
          ·rw [hb1] at y1
           rw [hb2] at y2
           rw [hb1,hb2] at hsk
           have HK : Hid (st k = true):=hsk
           clear hb1 hb2 hsk
           have hnk:=newNo_le st k
           have q0:=hq.c0
           have q1:=hq.num k (by rw [toK_len]; exact hlt)
           have q2:=Go.Joins.unfrozen_of_block hq.tr k
           have h1:=hq.setN k (newNo st k)
           have p0:=h1.c0
           have p1:=h1.z0
           have h2:=(h1.setT ((newNo st k : Int) + 1)).1
           have hB2 : Below w4.heap.size w4 ((wr.setCell ⟨w4.heap.size + 1,k,none⟩ (.int .i64 (newNo st k))).setCell ⟨w4.heap.size,0,none⟩ (.int .i64 ((newNo st k : Int) + 1))):=(hB.setCell (p:=⟨w4.heap.size + 1,k,none⟩) (by show w4.heap.size <= w4.heap.size + 1; omega) _).setCell (p:=⟨w4.heap.size,0,none⟩) (Nat.le_refl _) _
           go_wp2
           clear q0 q1 q2 p0 p1 h1 c0 c1 c2 c3 y1 y2 hq hB HTx
           generalize ((wr.setCell ⟨w4.heap.size + 1,k,none⟩ (.int .i64 (newNo st k))).setCell ⟨w4.heap.size,0,none⟩ (.int .i64 ((newNo st k : Int) + 1))) = w5 at *
           have HTy:=HT2.below hB2
           obtain ⟨c0,c1,c2,c3⟩:=HTy.cells
           have hci:=(hx.below HTy.bel).cell k hlt
           obtain ⟨x,hxk⟩ : ∃ x,x = xs.getD k 0:=⟨_,rfl⟩
           rw [<- hxk] at hci
           have hxw : (Lit.int .i64 x).wf = true:=wf64 (HFI.out x (by rw [hxk]; have:=HFL.out; simp [List.getD,show k < xs.length by omega]))
           have HX : Hid ((FstD.mk N s0 xs ars).final.getD k 0 = x):=hxk.symm
           clear hxk
           have hlen : (finT ⟨N,s0,xs,ars⟩ st k).length <= 200:=by rw [finT_len]; omega
           have h3:=h2.below (bel_up (bel_self w5) (.cells #[.int .i64 x] 3)).drew
           have hH : (w5.alloc (.cells #[.int .i64 x] 3)).drew.heap.size = w5.heap.size + 1:=by simp
           obtain ⟨gg,cap,w6,hrun,hown6,hgrow,_,_⟩:=run_append_lies (P:=Try.prog) (w5.alloc (.cells #[.int .i64 x] 3)).drew 22 22 (w4.heap.size + 2) 3 i0 (.int .i64 0) 1 8 Try.underlying22 hi hz0 hz1 hz2 rfl one_pos fv _ _ h3.fr.1 ⟨w5.heap.size,0,none⟩ 1 1 [.int .i64 x] rfl (cell_one_new w5 _ _) (ints_oneCell .i64 [x]) one_pos (by unfold maxLen; omega) (by omega) (by have:=h2.size; rw [hH]; omega) (w5.heap.size + 1) hH
           obtain ⟨m2,f2,hq6,hb6⟩:=h3.fin hxw hgrow hown6
           have q3:=h2.c2
           have q4:=h2.z2
           have q5:=h3.c2
           clear h3 hgrow hown6 hH h2
           simp [go_sem] at hrun
           go_region
           go_wp2
           go_roundw
           case rel =>
            refine ⟨k + 1,by omega,by go_num,.slice (some ⟨gg,0,none⟩) ((finT ⟨N,s0,xs,ars⟩ st k).length + 1) cap,?_,(hB2.trans ((bel_up (bel_self w5) _).drew.mono hB2.size)).trans hb6⟩
            have e1 : ((newNo st (k + 1) : Nat) : Int) = (newNo st k : Int) + 1:=by rw [newNo_succ,HK.out]; simp
            rw [e1,finT_hit _ _ _ HK.out,<- toK_hit _ _ _ HK.out,HX.out]
            exact hq6
           case measure => simp [intOf]; omega
        ·have HQ : Hid (TQ wr w4.heap.size (newNo st N) 0 fv (.slice none 0 0) (finT ⟨N,s0,xs,ars⟩ st N) [] (toK st N N)):=by
          have e : k = N:=by omega
          subst e; exact hq
         have hh1:=HQ.out.num s0 (by rw [toK_len]; exact hs0)
         rw [toK_at st N N s0 hs0 hs0 HS0.out] at hh1
         have hh2:=HQ.out.c1
         have hh3:=HQ.out.z1
         have HQ2 : Hid (TQ (wr.setCell ⟨w4.heap.size,1,none⟩ (.int .i64 (newNo st s0))) w4.heap.size (newNo st N) (newNo st s0) fv (.slice none 0 0) (finT ⟨N,s0,xs,ars⟩ st N) [] (toK st N N)):=(HQ.out.setT (newNo st s0)).2
         have hB5 : Below w4.heap.size w4 (wr.setCell ⟨w4.heap.size,1,none⟩ (.int .i64 (newNo st s0))):=hB.setCell (p:=⟨w4.heap.size,1,none⟩) (Nat.le_refl _) _
         go_wp2
         clear hh1 hh2 hh3 c0 c1 c2 c3 hq
         generalize (wr.setCell ⟨w4.heap.size,1,none⟩ (.int .i64 (newNo st s0))) = w7 at *
         go_loopw [12] (fun i wr => ∃ q : Nat,q <= n /\ i = .int .i64 q /\ ∃ av,TQ wr w4.heap.size (newNo st N) (newNo st s0) fv av (finT ⟨N,s0,xs,ars⟩ st N) (arcsT st (ars.take q)) (toK st N N) /\ Below w4.heap.size w4 wr) (fun i _ => n - (intOf i).toNat)
         case atStart => exact ⟨0,Nat.zero_le _,rfl,_,HQ2.out,hB5⟩
         case round =>
          clear hB5 HQ2 HQ HTx hB
          obtain ⟨q,hqn,rfl,av,hq5,hB5⟩:=hrel
          have HTx:=HT2.below hB5
          obtain ⟨c0,c1,c2,c3⟩:=HTx.cells
          by_cases hlq : q < n
          ·obtain ⟨b,boff,rfl,hxa⟩:=(ha.below HTx.bel).some (by omega)
           obtain ⟨a,hak⟩ : ∃ a,a = ars.getD q a0:=⟨_,rfl⟩
           have hql : q < ars.length:=by have:=HAL.out; omega
           have hmem : a ∈ ars:=by rw [hak]; simp [List.getD,hql]
           obtain ⟨⟨r1,r2⟩,⟨r3,r4⟩⟩:=HOK.out a hmem
           obtain ⟨s,hs⟩ : ∃ t : Nat,a.src = t:=⟨a.src.toNat,by omega⟩
           obtain ⟨t,ht⟩ : ∃ t : Nat,a.dst = t:=⟨a.dst.toNat,by omega⟩
           have e0:=hxa.c0 q hlq
           have e1:=hxa.c1 q hlq
           have e2:=hxa.c2 q hlq
           have e3:=hxa.c3 q hlq
           have e4:=hxa.c4 q hlq
           rw [<- hak] at e0 e1 e2 e3 e4
           rw [hs] at e0
           rw [ht] at e3
           have HT:=arcsT_take st ars q a hql hak
           rw [hs,ht,Int.toNat_natCast,Int.toNat_natCast] at HT
           have HH : Hid (arcsT st (ars.take (q + 1)) = arcsT st (ars.take q) ++ if (st s && st t) = true then [arcT st a] else []):=HT
           have HA : Hid (a.src = s /\ a.dst = t):=⟨hs,ht⟩
           have hsN : s < N:=by omega
           have htN : t < N:=by omega
           have hqi : (q : Int) < n:=by omega
           have hsi2 : (s : Int) < N:=by omega
           have hti2 : (t : Int) < N:=by omega
           have hal3 : (arcsT st (ars.take q)).length <= 3000:=by
            have h1:=arcsT_len st (ars.take q)
            rw [List.length_take] at h1
            omega
           clear HT hak hmem r1 r2 r3 r4 hs ht hql hxa
           have HTa:=HTx.below (bel_up (bel_self wr) (.cells #[.int .i64 (s : Int),.int .i64 a.inp,.int .i64 a.out,.int .i64 (t : Int),.int .i64 a.wt] 54))
           have y1:=HTa.rt.cell s (by rw [HTa.lt]; exact hsN)
           have y2:=HTa.ro.cell s (by rw [HTa.lo]; exact hsN)
           have y3:=HTa.rt.cell t (by rw [HTa.lt]; exact htN)
           have y4:=HTa.ro.cell t (by rw [HTa.lo]; exact htN)
           have hss:=HSt.out s
           have hst:=HSt.out t
           clear HTa
           cases b1 : atB th4 s
           ·rw [b1] at y1 hss
            have HK : Hid ((st s && st t) = false):=(by rw [hss]; rfl : (st s && st t) = false)
            clear b1 hss hst
            go_wp2
            go_roundw
            case rel =>
             refine ⟨q + 1,by omega,by go_num,av,?_,hB5.alloc hB5.size _⟩
             rw [HH.out,HK.out]
             simp only [Bool.false_eq_true,if_false,List.append_nil]
             exact hq5.below (bel_up (bel_self _) _)
            case measure => simp [intOf]; omega
           ·cases b2 : atB on4 s
            ·rw [b1] at y1
             rw [b2] at y2
             rw [b1,b2] at hss
             have HK : Hid ((st s && st t) = false):=(by rw [hss]; rfl : (st s && st t) = false)
             clear b1 b2 hss hst
             go_wp2
             go_roundw
             case rel =>
              refine ⟨q + 1,by omega,by go_num,av,?_,hB5.alloc hB5.size _⟩
              rw [HH.out,HK.out]
              simp only [Bool.false_eq_true,if_false,List.append_nil]
              exact hq5.below (bel_up (bel_self _) _)
             case measure => simp [intOf]; omega
            ·cases b3 : atB th4 t
             ·rw [b1] at y1
              rw [b2] at y2
              rw [b3] at y3 hst
              have HK : Hid ((st s && st t) = false):=(by rw [hst]; exact Bool.and_false _ : (st s && st t) = false)
              clear b1 b2 b3 hss hst
              go_wp2
              go_roundw
              case rel =>
               refine ⟨q + 1,by omega,by go_num,av,?_,hB5.alloc hB5.size _⟩
               rw [HH.out,HK.out]
               simp only [Bool.false_eq_true,if_false,List.append_nil]
               exact hq5.below (bel_up (bel_self _) _)
              case measure => simp [intOf]; omega
             ·cases b4 : atB on4 t
              ·rw [b1] at y1
               rw [b2] at y2
               rw [b3] at y3
               rw [b4] at y4
               rw [b3,b4] at hst
               have HK : Hid ((st s && st t) = false):=(by rw [hst]; exact Bool.and_false _ : (st s && st t) = false)
               clear b1 b2 b3 b4 hss hst
               go_wp2
               go_roundw
               case rel =>
                refine ⟨q + 1,by omega,by go_num,av,?_,hB5.alloc hB5.size _⟩
                rw [HH.out,HK.out]
                simp only [Bool.false_eq_true,if_false,List.append_nil]
                exact hq5.below (bel_up (bel_self _) _)
               case measure => simp [intOf]; omega
              ·rw [b1] at y1
               rw [b2] at y2
               rw [b3] at y3
               rw [b4] at y4
               rw [b1,b2] at hss
               rw [b3,b4] at hst
               have HK : Hid (st s = true /\ st t = true):=⟨hss,hst⟩
               clear b1 b2 b3 b4
               have n1:=hq5.num s (by rw [toK_len]; exact hsN)
               rw [toK_at st N N s hsN hsN hss] at n1
               have n2:=hq5.num t (by rw [toK_len]; exact htN)
               rw [toK_at st N N t htN htN hst] at n2
               clear hss hst
               have n1':=old_cell (o:=.cells #[.int .i64 (s : Int),.int .i64 a.inp,.int .i64 a.out,.int .i64 (t : Int),.int .i64 a.wt] 54) n1
               have n2':=old_cell (o:=.cells #[.int .i64 (s : Int),.int .i64 a.inp,.int .i64 a.out,.int .i64 (t : Int),.int .i64 a.wt] 54) n2
               have hVl:=heap_lt hq5.tr
               go_wp2
               go_region
               have htA:=hq5.below (bel_up (bel_self wr) (.cells #[.int .i64 (newNo st s),.int .i64 a.inp,.int .i64 a.out,.int .i64 (newNo st t),.int .i64 a.wt] 54)).drew
               have hBv : Below w4.heap.size w4 (wr.alloc (.cells #[.int .i64 (newNo st s),.int .i64 a.inp,.int .i64 a.out,.int .i64 (newNo st t),.int .i64 a.wt] 54)).drew:=(hB5.alloc hB5.size _).drew
               have d0 : (wr.alloc (.cells #[.int .i64 (newNo st s),.int .i64 a.inp,.int .i64 a.out,.int .i64 (newNo st t),.int .i64 a.wt] 54)).drew.cell? ⟨wr.heap.size,0,none⟩ = some (.int .i64 (newNo st s)):=drew_cell (new_cell _ _ _ _ 0 _ rfl rfl)
               have d1 : (wr.alloc (.cells #[.int .i64 (newNo st s),.int .i64 a.inp,.int .i64 a.out,.int .i64 (newNo st t),.int .i64 a.wt] 54)).drew.cell? ⟨wr.heap.size,1,none⟩ = some (.int .i64 a.inp):=drew_cell (new_cell _ _ _ _ 1 _ rfl rfl)
               have d2 : (wr.alloc (.cells #[.int .i64 (newNo st s),.int .i64 a.inp,.int .i64 a.out,.int .i64 (newNo st t),.int .i64 a.wt] 54)).drew.cell? ⟨wr.heap.size,2,none⟩ = some (.int .i64 a.out):=drew_cell (new_cell _ _ _ _ 2 _ rfl rfl)
               have d3 : (wr.alloc (.cells #[.int .i64 (newNo st s),.int .i64 a.inp,.int .i64 a.out,.int .i64 (newNo st t),.int .i64 a.wt] 54)).drew.cell? ⟨wr.heap.size,3,none⟩ = some (.int .i64 (newNo st t)):=drew_cell (new_cell _ _ _ _ 3 _ rfl rfl)
               have d4 : (wr.alloc (.cells #[.int .i64 (newNo st s),.int .i64 a.inp,.int .i64 a.out,.int .i64 (newNo st t),.int .i64 a.wt] 54)).drew.cell? ⟨wr.heap.size,4,none⟩ = some (.int .i64 a.wt):=drew_cell (new_cell _ _ _ _ 4 _ rfl rfl)
               clear c0 c1 c2 c3 e0 e1 e2 e3 e4 y1 y2 y3 y4 n1 n2 n1' n2' hVl HTx
               generalize (wr.alloc (.cells #[.int .i64 (newNo st s),.int .i64 a.inp,.int .i64 a.out,.int .i64 (newNo st t),.int .i64 a.wt] 54)).drew = wv at *
               generalize wr.heap.size = V at *
               have hac:=htA.c3
               go_wp2_with (first | (at_builtin; refine wpList_append_own_at _ rfl _ _ 23 rfl (w4.heap.size + 2) 54 j0 (.agg #[.int .i64 0,.int .i64 0,.int .i64 0,.int .i64 0,.int .i64 0]) 5 40 Try.underlying23 hj0 hj1 hj2 hj3 rfl (by decide) _ _ _ rfl (htA.ar.alloc _) ⟨wv.heap.size,0,none⟩ 1 1 (arcCells ⟨newNo st s,a.inp,a.out,newNo st t,a.wt⟩) rfl rfl (cells_new wv #[.int .i64 (newNo st s),.int .i64 a.inp,.int .i64 a.out,.int .i64 (newNo st t),.int .i64 a.wt] 54 wv.heap.size rfl) (oneCell_arc _) (by unfold maxLen; omega) (by omega) (by have h:=htA.size; simp; omega) ?_; intro v' w8 hown' hgrow _ hloc; obtain ⟨g,cap,hv⟩:=Go.Joins.ownsRow_form hown' (Nat.succ_pos _); rw [hv] at hown' hloc ⊢; obtain ⟨k3,f3,hq8,hb8⟩:=(htA.below (bel_up (bel_self wv) _)).arc hgrow hown' hloc))
               go_roundw
               case rel =>
                refine ⟨q + 1,by omega,by go_num,.slice (some ⟨g,0,none⟩) ((arcsT st (ars.take q)).length + 1) cap,?_,(hBv.alloc hBv.size _).trans hb8⟩
                have e5 : arcT st a = ⟨newNo st s,a.inp,a.out,newNo st t,a.wt⟩:=by
                 unfold arcT
                 rw [HA.out.1,HA.out.2,Int.toNat_natCast,Int.toNat_natCast]
                rw [HH.out,HK.out.1,HK.out.2]
                simp only [Bool.and_self,if_true]
                rw [e5]
                exact hq8
               case measure => simp [intOf]; omega
          ·have HTT : Hid (TQ wr w4.heap.size (newNo st N) (newNo st s0) fv av (finT ⟨N,s0,xs,ars⟩ st N) (arcsT st ars) (toK st N N)):=by
            have h:=hq5
            rw [List.take_of_length_le (by have:=HAL.out; omega)] at h
            exact h
           obtain ⟨fa,fl,fcap,rfl,_,_⟩:=(ownsRow_ints HTT.out.fr.1).lenOf
           obtain ⟨ba,bl,bcap,rfl,_,_⟩:=(ownsRow_arcs HTT.out.ar).lenOf
           have g0:=HTT.out.c0
           have g1:=HTT.out.c1
           have g2:=HTT.out.c2
           have g3:=HTT.out.c3
           have HR : Hid (w.heap.size + 1 < w4.heap.size):=heap_lt HT2.zb
           obtain ⟨z0,z1,z2,z3,x0,x1,x2,x3⟩:=zfacts HTx.zb
           have hbx:=HTx.bel
           clear hq5
           go_wp2
           have htd : trimD ⟨N,s0,xs,ars⟩ = ⟨newNo st N,newNo st s0,finT ⟨N,s0,xs,ars⟩ st N,arcsT st ars⟩:=by
            rw [HTD2.out]
            unfold trimBy
            rw [if_pos (by show st ((s0 : Int).toNat) = true; rw [Int.toNat_natCast]; exact HS0.out)]
            show (FstD.mk (newNo st ((N : Int).toNat)) (newNo st ((s0 : Int).toNat)) (finT ⟨N,s0,xs,ars⟩ st ((N : Int).toNat)) (arcsT st ars)) = _
            rw [Int.toNat_natCast,Int.toNat_natCast]
           refine bodyPost_ret (v:=.agg #[.int .i64 (newNo st N),.int .i64 (newNo st s0),.slice fa fl fcap,.slice ba bl bcap]) (by simp [results,Try.results36,go_sem, *]) rfl ⟨?_,bel_set4 hbx (by omega) _ _ _ _⟩
           unfold TrimIs
           rw [htd]
           exact ⟨_,_,rfl,ownsRow_ints (row_set4 HTT.out.fr.1 (fun e => by have:=(HTT.out.fr.1.lt _ e).1; have:=HR.out; omega) _ _ _ _),ownsRow_arcs (row_set4 HTT.out.ar (fun e => by have:=(HTT.out.ar.lt _ e).1; have:=HR.out; omega) _ _ _ _),fun g hg => by have:=(HTT.out.fr.1.lt g hg).1; have:=HR.out; omega,fun g hg => by have:=(HTT.out.ar.lt g hg).1; have:=HR.out; omega⟩
end Go.Proofs.Yteehgcbjmdideab.Sc
