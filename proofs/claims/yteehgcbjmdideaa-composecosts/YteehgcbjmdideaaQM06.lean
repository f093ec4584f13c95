/- 'FromOf' of the document's answer. -/
import Derived.Test.YteehgcbjmdideaaQM05
namespace Go.Proofs.Yteehgcbjmdideaa
open Go.RowKit
attribute [local go_sem ↓] Go.wp_at_zero Go.wp_at_succ

theorem Inv.rel {E : List Edg} {b c y : List Int} (h : Inv E b c y) (hb200 : b.length ≤ 200) {e : Edg} (he : e ∈ E) (hv : e.v < b.length) (hw0 : 0 ≤ e.w) (hw1 : e.w ≤ 1000000000) : ∃ y', Inv E b (relE c e) y' := by
  obtain ⟨j, hj⟩ := List.getElem?_of_mem he
  rw [← progE_eq c e h.lo]
  unfold progE
  split
  · rename_i hbt
    exact ⟨_, (h.step (by omega) hj hv hw0 hw1 hbt).1⟩
  · exact ⟨y, h⟩

/-- the world of the rounds: block H the transducer, G the prices -/
structure FW (w wr : World) (N G : Nat) (s0 : Int) (fin arcs : Value) (E : List Edg) (b c : List Int) : Prop where
  cf : CellsF wr w.heap.size (N : Int) s0 fin arcs
  row : NumsAt wr G N c
  ge : w.heap.size + 1 ≤ G
  bel : Below w.heap.size w wr
  inv : ∃ y, Inv E b c y

theorem FW.below {w wr wx : World} {N G : Nat} {s0 : Int} {fin arcs : Value} {E : List Edg} {b c : List Int} (h : FW w wr N G s0 fin arcs E b c) (hb : Below wr.heap.size wr wx) : FW w wx N G s0 fin arcs E b c :=
  ⟨h.cf.below hb, h.row.below hb, h.ge, bel_on h.bel hb, h.inv⟩

theorem CellsF.set {w : World} {B k i : Nat} {st sta : Int} {fin arcs v : Value} (h : CellsF w B st sta fin arcs) (hk : B ≠ k) : CellsF (w.setCell ⟨k, i, none⟩ v) B st sta fin arcs :=
  ⟨(set_far hk).trans h.1, (set_far hk).trans h.2.1, (set_far hk).trans h.2.2.1, (set_far hk).trans h.2.2.2⟩

theorem FW.set {w wr : World} {N G : Nat} {s0 : Int} {fin arcs : Value} {E : List Edg} {b c : List Int} (h : FW w wr N G s0 fin arcs E b c) (i : Nat) (x : Int) (hi : i < N) (hy : ∃ y, Inv E b (c.set i x) y) : FW w (wr.setCell ⟨G, i, none⟩ (.int .i64 x)) N G s0 fin arcs E b (c.set i x) :=
  ⟨h.cf.set (by have := h.ge; omega), h.row.set i x hi, h.ge, h.bel.setCell (p := ⟨G, i, none⟩) (by have := h.ge; show w.heap.size ≤ G; omega) _, hy⟩

end Go.Proofs.Yteehgcbjmdideaa

/- 'ToOf' of the document's answer. -/
namespace Go.Proofs.Yteehgcbjmdideaa
open Go.RowKit
attribute [local go_sem ↓] Go.wp_at_zero Go.wp_at_succ

theorem ints_ones (xs : List Int) : ∀ u ∈ xs.map (Value.int .i64), u.oneCell' = true := by
  intro u hu
  obtain ⟨x, _, rfl⟩ := List.mem_map.1 hu
  rfl
end Go.Proofs.Yteehgcbjmdideaa

/- 'pushedEnds', 'pushedArcs' of package short. -/
namespace Go.Proofs.Yteehgcbjmdideaa
open Go.RowKit
attribute [local go_sem ↓] Go.wp_at_zero Go.wp_at_succ

end Go.Proofs.Yteehgcbjmdideaa
