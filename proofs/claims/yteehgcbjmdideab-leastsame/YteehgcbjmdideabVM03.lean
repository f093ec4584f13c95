/- 'down' of container/heap,over the queue. -/
import Derived.Test.YteehgcbjmdideabVM02
import Derived.Laws.StructEq
import Derived.Maps.OwnSet
namespace Go.Proofs.Yteehgcbjmdideab
open Go.RowKit
attribute [local go_sem ↓] Go.wp_at_zero Go.wp_at_succ
end Go.Proofs.Yteehgcbjmdideab
/- 'Push' and 'Pop' of the queue,and of container/heap over it. -/
namespace Go.Proofs.Yteehgcbjmdideab
open Go.RowKit
attribute [local go_sem ↓] Go.wp_at_zero Go.wp_at_succ
end Go.Proofs.Yteehgcbjmdideab
/- The map of spots: how it is looked up,and written. -/
namespace Go.Proofs.Yteehgcbjmdideab
open Go.RowKit Go.ChangeMaps
structure MetD where
 st : Nat
 rd : Nat
 wt : Nat
 cost : Int
 arc : Int
end Go.Proofs.Yteehgcbjmdideab
/- The search in memory. -/
namespace Go.Proofs.Yteehgcbjmdideab
open Go.RowKit
attribute [local go_sem ↓] Go.wp_at_zero Go.wp_at_succ
theorem NumsAt.block {w w' : World} {g n : Nat} {c : List Int} (h : NumsAt w g n c) (hb : w'.heap[g]? = w.heap[g]?) (hl : g < w'.heap.size) : NumsAt w' g n c :=
 ⟨h.len,fun i hi => (World.cell?_of_block (w:=w) (a:=⟨g,i,none⟩) hb).trans (h.cell i hi),fun i => (World.frozen?_of_block (w:=w) (a:=⟨g,i,none⟩) hb).trans (h.frz i),hl⟩
section
variable {w0 w w' : World} {N s0 B Mb Fb : Nat} {fin arcs iv ov v v' : Value} {fl : List Int} {ms ms' : List MetD} {L L' : List PlD}
end
structure MStep (B Mb : Nat) (w : World) (v : Value) (w' : World) (v' : Value) : Prop where
 size : w.heap.size <= w'.heap.size
 block : ∀ b,b < w.heap.size -> b ≠ B -> b ≠ Mb -> v.ownBlock ≠ some b -> w'.heap[b]? = w.heap[b]?
 own : ∀ g,v'.ownBlock = some g -> v.ownBlock = some g \/ w.heap.size <= g
section
variable {B Mb : Nat} {w w' w'' : World} {v v' v'' : Value}
theorem MStep.trans (h : MStep B Mb w v w' v') (k : MStep B Mb w' v' w'' v'') : MStep B Mb w v w'' v'' :=
 ⟨Nat.le_trans h.size k.size,fun b hb hB hM hv => (k.block b (Nat.lt_of_lt_of_le hb h.size) hB hM (fun e => by
   rcases h.own b e with e | e
   ·exact hv e
   ·omega)).trans (h.block b hb hB hM hv),fun g hg => by
   rcases k.own g hg with e | e
   ·exact h.own g e
   ·exact Or.inr (Nat.le_trans h.size e)⟩
theorem MStep.bel (h : Below w.heap.size w w') : MStep B Mb w v w' v:=⟨h.size,fun b hb _ _ _ => h.block b hb,fun _ hg => Or.inl hg⟩
theorem MStep.map (h : w.grownBy w' (some Mb)) : MStep B Mb w v w' v:=⟨h.size,fun b hb _ hM _ => h.block b hb (fun e => hM (by injection e)),fun _ hg => Or.inl hg⟩
end
end Go.Proofs.Yteehgcbjmdideab
