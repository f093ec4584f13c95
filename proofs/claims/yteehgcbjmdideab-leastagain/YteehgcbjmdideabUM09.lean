/- Rows of whatever values; 'IsRound' of the document. (Made by wip/gen/dtd.py.) -/
import Derived.Test.YteehgcbjmdideabUM07
import Derived.Test.YteehgcbjmdideabUM08
import Derived.Test.YteehgcbjmdideabUM05
namespace Go.Proofs.Yteehgcbjmdideab
open Go.RowKit
attribute [local go_sem ↓] Go.wp_at_zero Go.wp_at_succ
structure ValsAt (w : World) (g n : Nat) (F : Nat -> Value) : Prop where
 cell : ∀ i,i < n -> w.cell? ⟨g,i,none⟩ = some (F i)
 frz : ∀ i,w.frozen? ⟨g,i,none⟩ = false
 lt : g < w.heap.size
def updV (F : Nat -> Value) (i : Nat) (v : Value) : Nat -> Value:=fun k => if k = i then v else F k
section
variable {w w' : World} {g n : Nat} {F : Nat -> Value}
theorem ValsAt.below (h : ValsAt w g n F) (hb : Below w.heap.size w w') : ValsAt w' g n F :=
 ⟨fun i hi => bel_c hb (h.cell i hi),fun i => (hb.frozen (p:=⟨g,i,none⟩) h.lt).trans (h.frz i),Nat.lt_of_lt_of_le h.lt hb.size⟩
theorem ValsAt.set (h : ValsAt w g n F) (i : Nat) (v : Value) (hi : i < n) : ValsAt (w.setCell ⟨g,i,none⟩ v) g n (updV F i v):=by
 refine ⟨fun k hk => ?_,fun k => by rw [World.frozen?_setCell]; exact h.frz k,by simpa [World.setCell] using h.lt⟩
 unfold updV
 by_cases e : k = i
 ·subst e
  rw [if_pos rfl]
  exact World.cell?_setCell_same _ _ _ (h.cell k hk)
 ·rw [if_neg e,World.cell?_setCell_other _ _ _ _ (by intro e1; apply e; injection e1 with _ e2; exact e2.symm)]
  exact h.cell k hk
theorem ValsAt.other {k i : Nat} {v : Value} (h : ValsAt w g n F) (hk : g ≠ k) : ValsAt (w.setCell ⟨k,i,none⟩ v) g n F :=
 ⟨fun j hj => by rw [set_far hk]; exact h.cell j hj,fun j => by rw [World.frozen?_setCell]; exact h.frz j,by simpa [World.setCell] using h.lt⟩
theorem ValsAt.block (h : ValsAt w g n F) (hb : w'.heap[g]? = w.heap[g]?) (hl : g < w'.heap.size) : ValsAt w' g n F :=
 ⟨fun i hi => (World.cell?_of_block (w:=w) (a:=⟨g,i,none⟩) hb).trans (h.cell i hi),fun i => by
  have:=h.frz i
  simp only [World.frozen?] at this ⊢
  rw [hb]
  exact this,hl⟩
theorem ValsAt.grown {row : Option Nat} (h : ValsAt w g n F) (hg : w.grownBy w' row) (hne : some g ≠ row) : ValsAt w' g n F :=
 h.block (hg.block g h.lt hne) (Nat.lt_of_lt_of_le h.lt hg.size)
theorem ValsAt.cong {G : Nat -> Value} (h : ValsAt w g n F) (he : ∀ i,i < n -> F i = G i) : ValsAt w g n G :=
 ⟨fun i hi => by rw [<- he i hi]; exact h.cell i hi,h.frz,h.lt⟩
end
theorem made_vals (w : World) (z : Value) (n t : Nat) : ValsAt (w.alloc (.cells (madeCells #[z] n) t)) w.heap.size n (fun _ => z):=by
 have h : (w.alloc (.cells (madeCells #[z] n) t)).heap[w.heap.size]? = some (.cells (madeCells #[z] n) t (0,0)):=heap_alloc_new w _
 refine ⟨fun i hi => ?_,fun i => Go.Joins.unfrozen_of_block h i,heap_lt h⟩
 have hm : (madeCells #[z] n)[i]? = some z:=by
  unfold madeCells
  simp [hi,Nat.mod_one]
 rw [World.cell?]
 simp only [h]
 exact hm
structure RW (w wr : World) (N : Nat) (sta : Int) (fin arcs : Value) : Prop where
 cf : CellsF wr w.heap.size (N : Int) sta fin arcs
 bel : Below w.heap.size w wr
theorem RW.below {w wr wx : World} {N : Nat} {sta : Int} {fin arcs : Value} (h : RW w wr N sta fin arcs) (hb : Below wr.heap.size wr wx) : RW w wx N sta fin arcs:=⟨h.cf.below hb,bel_on h.bel hb⟩
theorem RW.set {w wr : World} {N : Nat} {sta : Int} {fin arcs : Value} (h : RW w wr N sta fin arcs) {g i : Nat} {v : Value} (hg : w.heap.size < g) : RW w (wr.setCell ⟨g,i,none⟩ v) N sta fin arcs:=by
 have hX : w.heap.size ≠ g:=by omega
 exact ⟨⟨(set_far hX).trans h.cf.1,(set_far hX).trans h.cf.2.1,(set_far hX).trans h.cf.2.2.1,(set_far hX).trans h.cf.2.2.2⟩,h.bel.setCell (p:=⟨g,i,none⟩) (by show w.heap.size <= g; omega) _⟩
def RndRes (P : Prop) (w : World) (e : Ending) (w' : World) : Prop:=∃ b,e = .returned (.bool b) /\ (b = true ↔ P) /\ Below w.heap.size w w'
theorem rndRes_mk {P : Prop} {w w' : World} (b : Bool) (h : b = true ↔ P) (hb : Below w.heap.size w w') : RndRes P w (.returned (.bool b)) w':=⟨b,rfl,h,hb⟩
theorem edges_at {l : List ArcD} {i s t : Nat} {a : ArcD} (ha : l[i]? = some a) (hs : a.src = (s : Int)) (ht : a.dst = (t : Int)) : edgesE (l.take (i + 1)) = edgesE (l.take i) ++ [(s,t)]:=by
 unfold edgesE
 rw [List.take_add_one,ha,List.map_append]
 simp [hs,ht]
end Go.Proofs.Yteehgcbjmdideab
/- The document's tables,place by place: what is true of the prices between one arc and the next. -/
namespace Go.Proofs.Yteehgcbjmdideab
section
variable (f : FstD) (ins outs : List Int) (N i o : Nat)
end
section
variable {f : FstD} {ins outs : List Int} {N i o s0 : Nat} {c : List Int}
end
end Go.Proofs.Yteehgcbjmdideab
