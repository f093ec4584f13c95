/- 'Either' of package simple, where all is right. -/
import Derived.Test.YteehgcbjmdideaaQM09
import Derived.RangeFuncNested
import Derived.RangeFuncBound
import Derived.RangeFuncCalls
import Derived.RangeFuncLeaves
import Derived.Shelf.Abstract
import Derived.Shelf.RegionOpen
import Derived.WalkKit
import Derived.OwnWalkIn
import Derived.TacticsInMore
import Derived.LoopNIn
import Derived.LoopIn
namespace Go.Proofs.Yteehgcbjmdideaa
open Go.RowKit
attribute [local go_sem ↓] Go.wp_at_zero Go.wp_at_succ

/-- a transducer that is right, as it came in -/
structure FIn (w : World) (f : FstD) (fb fo N fc : Nat) (aa : Option Addr) (m ac : Nat) : Prop where
  fin : IntsAt w fb fo N f.final
  arc : ASlice w (.slice aa m ac) f.arcs
  al : f.arcs.length = m
  n : N ≤ 200
  m3 : m ≤ 3000
  st : 0 ≤ f.states ∧ f.states ≤ 200
  sta : 0 ≤ f.start ∧ f.start ≤ 200
  ok : ∀ a ∈ f.arcs, (0 ≤ a.src ∧ a.src ≤ 200) ∧ (0 ≤ a.dst ∧ a.dst ≤ 200)
  ck : checkD f = 0
theorem FIn.below {w w' : World} {f : FstD} {fb fo N fc : Nat} {aa : Option Addr} {m ac : Nat} (h : FIn w f fb fo N fc aa m ac) (hb : Below w.heap.size w w') : FIn w' f fb fo N fc aa m ac :=
  ⟨h.fin.below hb, h.arc.below hb, h.al, h.n, h.m3, h.st, h.sta, h.ok, h.ck⟩

end Go.Proofs.Yteehgcbjmdideaa

/- 'ends' of package simple: a loop over the ends of a transducer. -/
namespace Go.Proofs.Yteehgcbjmdideaa
open Go.RowKit Go.Shelf
attribute [local go_sem] Oper.semAt_some

theorem own_cells {w : World} {B e size n : Nat} {v : Value} {xs : List Value} (h : w.ownsRow B e size v n xs) : ∀ g, v.ownBlock = some g → ∃ o : Obj, w.heap[g]? = some o ∧ o.isCells = true := by
  intro g hg
  rcases h.2 with ⟨h1, _⟩ | ⟨g', cap, cur, he, _, hh, _⟩
  · rw [h1] at hg; simp [Value.ownBlock] at hg
  · rw [he] at hg
    have hg' : some g' = some g := hg
    injection hg' with hg'
    subst hg'
    exact ⟨_, hh, rfl⟩

/-- whatever turns that is no cells, the joint stays -/
theorem JW.kept {w w' : World} {P B : Nat} {st sta : Int} {fv av : Value} {xs : List Int} {ars : List ArcD} {row : Option Nat} (h : JW w P B st sta fv av xs ars) (hg : w.grownBy w' row) (hr : ∀ r, row = some r → ∃ o : Obj, w.heap[r]? = some o ∧ o.isCells = false) : JW w' P B st sta fv av xs ars := by
  have key : ∀ g, (∃ o : Obj, w.heap[g]? = some o ∧ o.isCells = true) → some g ≠ row := fun g ⟨o, ho, hc⟩ e => by
    obtain ⟨o', ho', hc'⟩ := hr g e.symm
    rw [ho] at ho'
    injection ho' with ho'
    subst ho'
    rw [hc] at hc'
    exact Bool.noConfusion hc'
  refine ⟨(hg.block P h.lt (key P ⟨_, h.box, rfl⟩)).trans h.box, h.fin.kept hg ?_, h.arc.kept hg ?_, h.hP, h.fP, h.aP, h.fa⟩
  · cases hf : fv.ownBlock with
    | none => exact Or.inl rfl
    | some g => exact Or.inr (key g (own_cells h.fin g hf))
  · cases hf : av.ownBlock with
    | none => exact Or.inl rfl
    | some g => exact Or.inr (key g (own_cells h.arc g hf))
theorem JS.kept {P D : Nat} {w w1 w2 : World} {fv av fv' av' : Value} {row : Option Nat} (h : JS P w w1 fv av fv' av') (hg : w1.grownBy w2 row) (hD : w.heap.size ≤ D) (hr : ∀ r, row = some r → D ≤ r) : JS P w w2 fv av fv' av' :=
  ⟨hg.os.trans h.os, hg.tape.trans h.tape, hg.output.trans h.output, Nat.le_trans h.size hg.size, fun b hb hP hf ha => (hg.block b (by have := h.size; omega) (fun e => by have := hr b e.symm; omega)).trans (h.block b hb hP hf ha), h.own⟩
theorem JS.others {P B : Nat} {w w' : World} {st sta : Int} {fv av fv' av' : Value} {xs : List Int} {ars : List ArcD} (h : JS P w w' fv av fv' av') (hJ : JW w P B st sta fv av xs ars) : KeepsOthers w w' := by
  refine ⟨h.size, fun k o hk ho => ?_⟩
  have key : ∀ g, (∃ o : Obj, w.heap[g]? = some o ∧ o.isCells = true) → k ≠ g := fun g ⟨o', ho', hc⟩ e => by
    subst e
    rw [hk] at ho'
    injection ho' with ho'
    subst ho'
    rw [hc] at ho
    exact Bool.noConfusion ho
  exact (h.block k (heap_lt hk) (key P ⟨_, hJ.box, rfl⟩) (fun e => key k (own_cells hJ.fin k e) rfl) (fun e => key k (own_cells hJ.arc k e) rfl)).trans hk

end Go.Proofs.Yteehgcbjmdideaa

/- 'goOn' of package simple. -/
namespace Go.Proofs.Yteehgcbjmdideaa
open Go.RowKit Go.Shelf
attribute [local go_sem] Oper.semAt_some

end Go.Proofs.Yteehgcbjmdideaa
