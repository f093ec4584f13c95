/- What 'TrimOf' makes: the transducer in block T, the new numbers in block T + 1. -/
import Derived.Test.YteehgcbjmdideabQM28
import Derived.Test.YteehgcbjmdideabQM29
import Derived.Deep.AppendLies
namespace Go.Proofs.Yteehgcbjmdideab.Sc
open Go.RowKit Go.Maps Go.ChangeShapes
structure TQ (w : World) (T : Nat) (n0 s0 : Int) (fv av : Value) (xs : List Int) (ars : List ArcD) (tl : List Int) : Prop where
 c0 : w.cell? ⟨T, 0, none⟩ = some (.int .i64 n0)
 c1 : w.cell? ⟨T, 1, none⟩ = some (.int .i64 s0)
 c2 : w.cell? ⟨T, 2, none⟩ = some fv
 c3 : w.cell? ⟨T, 3, none⟩ = some av
 z0 : w.frozen? ⟨T, 0, none⟩ = false
 z1 : w.frozen? ⟨T, 1, none⟩ = false
 z2 : w.frozen? ⟨T, 2, none⟩ = false
 z3 : w.frozen? ⟨T, 3, none⟩ = false
 fr : w.ownsInts (T + 2) 3 .i64 fv xs
 ar : w.ownsRow (T + 2) 54 5 av ars.length (arcsV ars)
 ne : fv.ownBlock = none ∨ fv.ownBlock ≠ av.ownBlock
 tr : w.heap[T + 1]? = some (.cells (intsV tl).toArray 3 (0, 0))
 size : T + 2 ≤ w.heap.size
theorem TQ.below {w w' : World} {T : Nat} {n0 s0 : Int} {fv av : Value} {xs : List Int} {ars : List ArcD} {tl : List Int} (h : TQ w T n0 s0 fv av xs ars tl) (hb : Below w.heap.size w w') : TQ w' T n0 s0 fv av xs ars tl := by
 have hs := h.size
 have fz : ∀ i, w'.frozen? ⟨T, i, none⟩ = w.frozen? ⟨T, i, none⟩ := fun i => hb.frozen (p := ⟨T, i, none⟩) (by show T < _; omega)
 exact ⟨bel_c hb h.c0, bel_c hb h.c1, bel_c hb h.c2, bel_c hb h.c3, (fz 0).trans h.z0, (fz 1).trans h.z1, (fz 2).trans h.z2, (fz 3).trans h.z3,
  h.fr.kept (bel_grown hb) (by cases fv.ownBlock <;> simp), ownsRow_bel h.ar hb, h.ne, heap_bel hb h.tr, Nat.le_trans hs hb.size⟩
theorem made_ints (n : Nat) : madeCells #[.int .i64 0] n = (intsV (List.replicate n 0)).toArray := by
 unfold madeCells intsV
 apply Array.ext
 ·simp
 ·intro i h1 h2
  simp [Nat.mod_one]
theorem TQ.start (w : World) (n N : Nat) (hT : w.heap.size = N) (o : Nat) :
  TQ ((w.alloc (.cells #[.int .i64 0, .int .i64 0, .slice none 0 0, .slice none 0 0] o)).alloc (.cells (madeCells #[.int .i64 0] n) 3)) N 0 0 (.slice none 0 0) (.slice none 0 0) [] [] (List.replicate n 0) := by
 have hf : ∀ k, ((w.alloc (.cells #[.int .i64 0, .int .i64 0, .slice none 0 0, .slice none 0 0] o)).alloc (.cells (madeCells #[.int .i64 0] n) 3)).frozen? ⟨N, k, none⟩ = false := fun k => by
  rw [old_frozen (by simp; omega)]; exact new_frozen _ _ _ _ _ hT
 refine ⟨old_cell (new_cell _ _ _ _ 0 _ hT rfl), old_cell (new_cell _ _ _ _ 1 _ hT rfl), old_cell (new_cell _ _ _ _ 2 _ hT rfl), old_cell (new_cell _ _ _ _ 3 _ hT rfl), hf 0, hf 1, hf 2, hf 3, World.ownsInts_nil _ _ _ _, World.ownsRow_nil _ _ _ _, Or.inl rfl, ?_, by simp; omega⟩
 subst hT
 rw [← made_ints]
 have := heap_alloc_new (w.alloc (.cells #[.int .i64 0, .int .i64 0, .slice none 0 0, .slice none 0 0] o)) (.cells (madeCells #[.int .i64 0] n) 3)
 simpa using this
theorem TQ.setT {w : World} {T : Nat} {n0 s0 : Int} {fv av : Value} {xs : List Int} {ars : List ArcD} {tl : List Int} (h : TQ w T n0 s0 fv av xs ars tl) (x : Int) :
  TQ (w.setCell ⟨T, 0, none⟩ (.int .i64 x)) T x s0 fv av xs ars tl ∧ TQ (w.setCell ⟨T, 1, none⟩ (.int .i64 x)) T n0 x fv av xs ars tl := by
 have hs := h.size
 have sz : ∀ i v, T + 2 ≤ (w.setCell ⟨T, i, none⟩ v).heap.size := fun i v => by simpa [World.setCell] using hs
 have tr : ∀ i v, (w.setCell ⟨T, i, none⟩ v).heap[T + 1]? = some (.cells (intsV tl).toArray 3 (0, 0)) := fun i v => (Below.heap_setCell w ⟨T, i, none⟩ v (T + 1) (by show T + 1 ≠ T; omega)).trans h.tr
 constructor
 ·exact ⟨set_same h.c0 _, set_off h.c1 (by decide), set_off h.c2 (by decide), set_off h.c3 (by decide), by rw [World.frozen?_setCell]; exact h.z0, by rw [World.frozen?_setCell]; exact h.z1, by rw [World.frozen?_setCell]; exact h.z2, by rw [World.frozen?_setCell]; exact h.z3,
   ⟨ownsRow_setCell_below h.fr.1 (by show T < T + 2; omega) _, h.fr.2⟩, ownsRow_setCell_below h.ar (by show T < T + 2; omega) _, h.ne, tr _ _, sz _ _⟩
 ·exact ⟨set_off h.c0 (by decide), set_same h.c1 _, set_off h.c2 (by decide), set_off h.c3 (by decide), by rw [World.frozen?_setCell]; exact h.z0, by rw [World.frozen?_setCell]; exact h.z1, by rw [World.frozen?_setCell]; exact h.z2, by rw [World.frozen?_setCell]; exact h.z3,
   ⟨ownsRow_setCell_below h.fr.1 (by show T < T + 2; omega) _, h.fr.2⟩, ownsRow_setCell_below h.ar (by show T < T + 2; omega) _, h.ne, tr _ _, sz _ _⟩
theorem TQ.setN {w : World} {T : Nat} {n0 s0 : Int} {fv av : Value} {xs : List Int} {ars : List ArcD} {tl : List Int} (h : TQ w T n0 s0 fv av xs ars tl) (i : Nat) (x : Int) :
  TQ (w.setCell ⟨T + 1, i, none⟩ (.int .i64 x)) T n0 s0 fv av xs ars (tl.set i x) := by
 have hs := h.size
 have far : ∀ {j v}, w.cell? ⟨T, j, none⟩ = some v → (w.setCell ⟨T + 1, i, none⟩ (.int .i64 x)).cell? ⟨T, j, none⟩ = some v := fun hc => (set_far (by omega)).trans hc
 refine ⟨far h.c0, far h.c1, far h.c2, far h.c3, by rw [World.frozen?_setCell]; exact h.z0, by rw [World.frozen?_setCell]; exact h.z1, by rw [World.frozen?_setCell]; exact h.z2, by rw [World.frozen?_setCell]; exact h.z3,
  ⟨ownsRow_setCell_below h.fr.1 (by show T + 1 < T + 2; omega) _, h.fr.2⟩, ownsRow_setCell_below h.ar (by show T + 1 < T + 2; omega) _, h.ne, ?_, by simpa [World.setCell] using hs⟩
 have := Go.Joins.block_setCell (i := i) h.tr (.int .i64 x)
 rw [intsV_set] at this
 exact this
theorem TQ.num {w : World} {T : Nat} {n0 s0 : Int} {fv av : Value} {xs : List Int} {ars : List ArcD} {tl : List Int} (h : TQ w T n0 s0 fv av xs ars tl) (i : Nat) (hi : i < tl.length) : w.cell? ⟨T + 1, i, none⟩ = some (.int .i64 (tl.getD i 0)) := by
 have := Go.Joins.cell_of_block h.tr i
 simpa [intsV, List.getD, hi] using this
theorem TQ.fin {w w2 : World} {T : Nat} {n0 s0 : Int} {fv v' : Value} {xs : List Int} {tl : List Int} {x : Int} (h : TQ w T n0 s0 fv (.slice none 0 0) xs [] tl) (hx : (Lit.int .i64 x).wf = true) (hg : w.grownBy w2 fv.ownBlock) (hown : w2.ownsRow (T + 2) 3 1 v' (xs.length + 1) (xs.map (Value.int .i64) ++ [.int .i64 x])) :
  w2.cell? ⟨T, 2, none⟩ = some fv ∧ w2.frozen? ⟨T, 2, none⟩ = false ∧ TQ (w2.setCell ⟨T, 2, none⟩ v') T n0 s0 v' (.slice none 0 0) (xs ++ [x]) [] tl ∧ Below T w (w2.setCell ⟨T, 2, none⟩ v') := by
 have hs := h.size
 have ne : ∀ {k : Nat}, k < T + 2 → some k ≠ fv.ownBlock := fun hk => row_ne h.fr hk
 have k2 := grown_cell' hg h.c2 (ne (by omega))
 have fz : ∀ i, w2.frozen? ⟨T, i, none⟩ = w.frozen? ⟨T, i, none⟩ := fun i => grown_frozen hg (by omega) (ne (by omega))
 have hoi := h.fr.appended hown hx
 refine ⟨k2, (fz 2).trans h.z2, ⟨?_, ?_, set_same k2 _, ?_, ?_, ?_, ?_, ?_, ⟨ownsRow_setCell_below hoi.1 (by show T < T + 2; omega) _, hoi.2⟩, World.ownsRow_nil _ _ _ _, ?_, ?_, ?_⟩, ?_⟩
 ·exact set_off (grown_cell' hg h.c0 (ne (by omega))) (by decide)
 ·exact set_off (grown_cell' hg h.c1 (ne (by omega))) (by decide)
 ·exact set_off (grown_cell' hg h.c3 (ne (by omega))) (by decide)
 ·rw [World.frozen?_setCell, fz]; exact h.z0
 ·rw [World.frozen?_setCell, fz]; exact h.z1
 ·rw [World.frozen?_setCell, fz]; exact h.z2
 ·rw [World.frozen?_setCell, fz]; exact h.z3
 ·show v'.ownBlock = none ∨ v'.ownBlock ≠ none
  cases v'.ownBlock <;> simp
 ·exact (Below.heap_setCell w2 ⟨T, 2, none⟩ v' (T + 1) (by show T + 1 ≠ T; omega)).trans ((hg.block (T + 1) (by omega) (ne (by omega))).trans h.tr)
 ·have := hg.size
  simp [World.setCell] at this ⊢
  omega
 ·exact (((bel_self w).mono (by omega)).grown hg (by omega) (fun k hk => by have := (h.fr.1.lt k hk).1; omega)).setCell (by show T ≤ T; omega) _
theorem TQ.arc {w w2 : World} {T : Nat} {n0 s0 : Int} {fv av v' : Value} {xs : List Int} {ars : List ArcD} {tl : List Int} {a : ArcD} (h : TQ w T n0 s0 fv av xs ars tl) (hg : w.grownBy w2 av.ownBlock) (hown : w2.ownsRow (T + 2) 54 5 v' (ars.length + 1) (arcsV ars ++ arcCells a)) (hloc : v'.ownBlock = av.ownBlock ∨ v'.ownBlock = some w.heap.size) :
  w2.cell? ⟨T, 3, none⟩ = some av ∧ w2.frozen? ⟨T, 3, none⟩ = false ∧ TQ (w2.setCell ⟨T, 3, none⟩ v') T n0 s0 fv v' xs (ars ++ [a]) tl ∧ Below T w (w2.setCell ⟨T, 3, none⟩ v') := by
 have hs := h.size
 have ne : ∀ {k : Nat}, k < T + 2 → some k ≠ av.ownBlock := fun {k} hk e => by
  have := (h.ar.lt k e.symm).1
  omega
 have k3 := grown_cell' hg h.c3 (ne (by omega))
 have fz : ∀ i, w2.frozen? ⟨T, i, none⟩ = w.frozen? ⟨T, i, none⟩ := fun i => grown_frozen hg (by omega) (ne (by omega))
 refine ⟨k3, (fz 3).trans h.z3, ⟨?_, ?_, ?_, set_same k3 _, ?_, ?_, ?_, ?_, ?_, ?_, ?_, ?_, ?_⟩, ?_⟩
 ·exact set_off (grown_cell' hg h.c0 (ne (by omega))) (by decide)
 ·exact set_off (grown_cell' hg h.c1 (ne (by omega))) (by decide)
 ·exact set_off (grown_cell' hg h.c2 (ne (by omega))) (by decide)
 ·rw [World.frozen?_setCell, fz]; exact h.z0
 ·rw [World.frozen?_setCell, fz]; exact h.z1
 ·rw [World.frozen?_setCell, fz]; exact h.z2
 ·rw [World.frozen?_setCell, fz]; exact h.z3
 ·have := h.fr.kept hg h.ne
  exact ⟨ownsRow_setCell_below this.1 (by show T < T + 2; omega) _, this.2⟩
 ·rw [arcsV_snoc, List.length_append, List.length_singleton]
  exact ownsRow_setCell_below hown (by show T < T + 2; omega) _
 ·rcases hloc with e | e
  ·rw [e]; exact h.ne
  ·rw [e]
   cases hb : fv.ownBlock with
   | none => exact Or.inl rfl
   | some g =>
    right
    have := (h.fr.1.lt g hb).2
    intro e1
    have e2 : g = w.heap.size := by simpa using e1
    omega
 ·exact (Below.heap_setCell w2 ⟨T, 3, none⟩ v' (T + 1) (by show T + 1 ≠ T; omega)).trans ((hg.block (T + 1) (by omega) (ne (by omega))).trans h.tr)
 ·have := hg.size
  simp [World.setCell] at this ⊢
  omega
 ·exact (((bel_self w).mono (by omega)).grown hg (by omega) (fun k hk => by have := (h.ar.lt k hk).1; omega)).setCell (by show T ≤ T; omega) _
def toK (st : Nat → Bool) (N k : Nat) : List Int := (List.range N).map fun i => if i < k ∧ st i = true then ((newNo st i : Nat) : Int) else 0
theorem toK_zero (st : Nat → Bool) (N : Nat) : toK st N 0 = List.replicate N 0 := by
 unfold toK
 apply List.ext_getElem
 ·simp
 ·intro i h1 h2; simp
theorem toK_len (st : Nat → Bool) (N k : Nat) : (toK st N k).length = N := by simp [toK]
theorem toK_hit (st : Nat → Bool) (N k : Nat) (hs : st k = true) : (toK st N k).set k (newNo st k) = toK st N (k + 1) := by
 apply List.ext_getElem
 ·simp [toK]
 ·intro i h1 h2
  simp only [List.getElem_set, toK, List.getElem_map, List.getElem_range]
  by_cases e : k = i
  ·subst e; simp [hs]
  ·rw [if_neg e]
   by_cases q : i < k ∧ st i = true
   ·rw [if_pos q, if_pos ⟨by omega, q.2⟩]
   ·rw [if_neg q, if_neg (fun r => q ⟨by omega, r.2⟩)]
theorem toK_miss (st : Nat → Bool) (N k : Nat) (hs : st k = false) : toK st N (k + 1) = toK st N k := by
 apply List.ext_getElem
 ·simp [toK]
 ·intro i h1 h2
  simp only [toK, List.getElem_map, List.getElem_range]
  by_cases q : i < k ∧ st i = true
  ·rw [if_pos q, if_pos ⟨by omega, q.2⟩]
  ·rw [if_neg q, if_neg (fun r => q ⟨by
    by_cases e : i = k
    ·rw [e, hs] at r; cases r.2
    ·omega, r.2⟩)]
theorem toK_at (st : Nat → Bool) (N k i : Nat) (hi : i < N) (hk : i < k) (hs : st i = true) : (toK st N k).getD i 0 = newNo st i := by
 simp [toK, List.getD, hi, hk, hs]
end Go.Proofs.Yteehgcbjmdideab.Sc
