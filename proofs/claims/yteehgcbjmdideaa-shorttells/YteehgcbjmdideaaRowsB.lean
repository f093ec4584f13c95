/- What lies in memory, for a seat without package fst's reader: blocks that stay, rows of numbers and of arcs. -/
import Derived.Test.YteehgcbjmdideaaBegR
namespace Go.Proofs.Yteehgcbjmdideaa
open Go.RowKit
attribute [local go_sem ↓] Go.wp_at_zero Go.wp_at_succ

theorem heap_lt {w : World} {g : Nat} {o : Obj} (hg : w.heap[g]? = some o) : g < w.heap.size := by
  by_cases h : g < w.heap.size
  · exact h
  · rw [Array.getElem?_eq_none (by omega)] at hg; cases hg
theorem heap_bel {w w' : World} (h : Below w.heap.size w w') {g : Nat} {o : Obj} (hg : w.heap[g]? = some o) : w'.heap[g]? = some o := by
  rw [h.block g (heap_lt hg)]; exact hg
theorem ownsRow_bel {w w' : World} {B e size n : Nat} {v : Value} {xs : List Value} (h : w.ownsRow B e size v n xs) (hb : Below w.heap.size w w') : w'.ownsRow B e size v n xs := by
  obtain ⟨hl, h⟩ := h
  refine ⟨hl, ?_⟩
  rcases h with h | ⟨g, cap, cur, hv, hg, hh, h1, h2, h3, h4⟩
  · exact Or.inl h
  · exact Or.inr ⟨g, cap, cur, hv, hg, heap_bel hb hh, h1, h2, h3, h4⟩
theorem new_frozen (w : World) (cs : Array Value) (t N k : Nat) (hN : w.heap.size = N) : (w.alloc (.cells cs t)).frozen? ⟨N, k, none⟩ = false := by
  subst hN
  have h : (w.alloc (.cells cs t)).heap[w.heap.size]? = some (.cells cs t) := heap_alloc_new w _
  unfold World.frozen?
  simp only [h]
  simp
theorem old_frozen {w : World} {o : Obj} {b k : Nat} (hb : b < w.heap.size) : (w.alloc o).frozen? ⟨b, k, none⟩ = w.frozen? ⟨b, k, none⟩ := (bel_up (bel_self w) o).frozen (p := ⟨b, k, none⟩) hb
theorem addr_add (g j : Nat) : (⟨g, 0, none⟩ : Addr).add j = ⟨g, j, none⟩ := by
  by_cases h : j = 0
  · subst h; rfl
  · simp [Addr.add, h]
theorem set_far {w : World} {rb i g k : Nat} {v : Value} (h : g ≠ rb) : (w.setCell ⟨rb, i, none⟩ v).cell? ⟨g, k, none⟩ = w.cell? ⟨g, k, none⟩ :=
  World.cell?_of_block (w := w) (a := ⟨g, k, none⟩) (Below.heap_setCell w ⟨rb, i, none⟩ v g h)
theorem heap_far {w : World} {g k i : Nat} {v : Value} {o : Obj} (h : w.heap[g]? = some o) (hk : g ≠ k) : (w.setCell ⟨k, i, none⟩ v).heap[g]? = some o := (Below.heap_setCell w ⟨k, i, none⟩ v g hk).trans h

def arcCells (a : ArcD) : List Value := [.int .i64 a.src, .int .i64 a.inp, .int .i64 a.out, .int .i64 a.dst, .int .i64 a.wt]
def arcsV (l : List ArcD) : List Value := l.flatMap arcCells
theorem Try.info63 : (Try.prog.info? 63).map (fun i => (i.zero, i.size, i.bytes)) = some (some (.agg #[.int .i64 0, .int .i64 0, .int .i64 0, .int .i64 0, .int .i64 0]), 5, 40) := by kernel_rfl
theorem oneCell_arc (a : ArcD) : ∀ u ∈ arcCells a, u.oneCell' = true := by
  intro u hu
  simp [arcCells] at hu
  rcases hu with rfl | rfl | rfl | rfl | rfl <;> rfl
theorem arcsV_snoc (ars : List ArcD) (a : ArcD) : arcsV (ars ++ [a]) = arcsV ars ++ arcCells a := by simp [arcsV]
theorem arcsV_get (ars : List ArcD) (i j : Nat) (hi : i < ars.length) (hj : j < 5) : (arcsV ars)[i * 5 + j]? = (arcCells (ars.getD i a0))[j]? := by
  induction ars generalizing i with
  | nil => simp at hi
  | cons a l ih =>
    have e : arcsV (a :: l) = arcCells a ++ arcsV l := by simp [arcsV]
    have hl : (arcCells a).length = 5 := rfl
    rw [e]
    cases i with
    | zero => rw [Nat.zero_mul, Nat.zero_add, List.getElem?_append_left (by omega)]; rfl
    | succ i =>
      rw [List.getElem?_append_right (by omega), hl, show (i + 1) * 5 + j - 5 = i * 5 + j by omega, ih i (by simpa using hi)]
      rfl
theorem ownsRow_arcs {w : World} {B g : Nat} {v : Value} {ars : List ArcD} (h : w.ownsRow B g 5 v ars.length (arcsV ars)) : ASlice w v ars := by
  obtain ⟨_, h⟩ := h
  rcases h with ⟨rfl, h⟩ | ⟨g, cap, cur, rfl, _, hh, h1, h2, h3, h4⟩
  · exact Or.inl ⟨none, 0, rfl, List.length_eq_zero_iff.1 h⟩
  · have key : ∀ i j, i < ars.length → j < 5 → w.cell? ⟨g, 0 + i * 5 + j, none⟩ = (arcCells (ars.getD i a0))[j]? := by
      intro i j hi hj
      have h5 := arcsV_get ars i j hi hj
      rw [← h4, List.getElem?_take, if_pos (by omega), Array.getElem?_toList] at h5
      rw [Go.Joins.cell_of_block hh, Nat.zero_add]; exact h5
    exact Or.inr ⟨g, 0, ars.length, cap, rfl, ⟨rfl, fun i hi => key i 0 hi (by omega), fun i hi => key i 1 hi (by omega), fun i hi => key i 2 hi (by omega), fun i hi => key i 3 hi (by omega), fun i hi => key i 4 hi (by omega)⟩, by omega⟩
theorem ownsRow_ints {w : World} {B g : Nat} {v : Value} {xs : List Int} (h : w.ownsRow B g 1 v xs.length (xs.map (Value.int .i64))) : ISlice w v xs := by
  obtain ⟨_, h⟩ := h
  rcases h with ⟨rfl, h⟩ | ⟨g, cap, cur, rfl, _, hh, h1, h2, h3, h4⟩
  · exact Or.inl ⟨none, 0, rfl, List.length_eq_zero_iff.1 h⟩
  · refine Or.inr ⟨g, 0, xs.length, cap, rfl, ⟨rfl, fun i hi => ?_⟩, by omega⟩
    have : (cur.toList.take (xs.length * 1))[i]? = some (.int .i64 (xs.getD i 0)) := by
      rw [h4]; simp [List.getD, hi]
    rw [List.getElem?_take] at this
    simp only [Nat.mul_one, hi, if_true, Array.getElem?_toList] at this
    simp [World.cell?, hh, this]

/-- a block of numbers, as a slice of all of it -/
theorem intsW_slice {w : World} {g t cap : Nat} {xs : List Int} (h : w.heap[g]? = some (.cells (intsW xs).toArray t (0, 0))) (hl : xs.length ≤ maxLen) : ISlice w (.slice (some ⟨g, 0, none⟩) xs.length cap) xs := by
  refine Or.inr ⟨g, 0, xs.length, cap, rfl, ⟨rfl, fun i hi => ?_⟩, hl⟩
  rw [Nat.zero_add]
  exact intsW_cell h hi
theorem gI_getD {xs : List Int} {i : Nat} (h : i < xs.length) (d : Int) : xs.getD i d = gI xs i := by simp [gI, List.getD, h]
theorem intsW_gI {w : World} {g t i : Nat} {xs : List Int} (h : w.heap[g]? = some (.cells (intsW xs).toArray t (0, 0))) (hi : i < xs.length) : w.cell? ⟨g, i, none⟩ = some (.int .i64 (gI xs i)) := by
  rw [intsW_cell h hi, gI_getD hi]

/-- numbers at the head of a block, which may be changed -/
structure NumsAt (w : World) (g n : Nat) (c : List Int) : Prop where
  len : c.length = n
  cell : ∀ i, i < n → w.cell? ⟨g, i, none⟩ = some (.int .i64 (gI c i))
  frz : ∀ i, w.frozen? ⟨g, i, none⟩ = false
  lt : g < w.heap.size

theorem NumsAt.of_block {w : World} {g t : Nat} {xs : List Int} (h : w.heap[g]? = some (.cells (intsW xs).toArray t (0, 0))) : NumsAt w g xs.length xs :=
  ⟨rfl, fun _ hi => intsW_gI h hi, fun i => Go.Joins.unfrozen_of_block h i, heap_lt h⟩
theorem NumsAt.below {w w' : World} {g n : Nat} {c : List Int} (h : NumsAt w g n c) (hb : Below w.heap.size w w') : NumsAt w' g n c :=
  ⟨h.len, fun i hi => bel_c hb (h.cell i hi), fun i => (hb.frozen (p := ⟨g, i, none⟩) h.lt).trans (h.frz i), Nat.lt_of_lt_of_le h.lt hb.size⟩
theorem NumsAt.set {w : World} {g n : Nat} {c : List Int} (h : NumsAt w g n c) (i : Nat) (x : Int) (hi : i < n) : NumsAt (w.setCell ⟨g, i, none⟩ (.int .i64 x)) g n (c.set i x) := by
  refine ⟨by simpa using h.len, fun k hk => ?_, fun k => by rw [World.frozen?_setCell]; exact h.frz k, by simpa [World.setCell] using h.lt⟩
  rw [gI_set _ _ _ _ (by rw [h.len]; exact hi)]
  by_cases e : k = i
  · subst e
    rw [if_pos rfl]
    exact World.cell?_setCell_same _ _ _ (h.cell k hk)
  · rw [if_neg e, World.cell?_setCell_other _ _ _ _ (by intro e1; apply e; injection e1 with _ e2; exact e2.symm)]
    exact h.cell k hk
theorem NumsAt.other {w : World} {g k i n : Nat} {c : List Int} {v : Value} (h : NumsAt w g n c) (hk : g ≠ k) : NumsAt (w.setCell ⟨k, i, none⟩ v) g n c :=
  ⟨h.len, fun j hj => by rw [set_far hk]; exact h.cell j hj, fun j => by rw [World.frozen?_setCell]; exact h.frz j, by simpa [World.setCell] using h.lt⟩
theorem NumsAt.slice {w : World} {g n : Nat} {c : List Int} (h : NumsAt w g n c) (cap : Nat) (hn : n ≤ maxLen) : ISlice w (.slice (some ⟨g, 0, none⟩) n cap) c := by
  refine Or.inr ⟨g, 0, n, cap, rfl, ⟨h.len, fun i hi => ?_⟩, hn⟩
  rw [Nat.zero_add, h.cell i hi, gI_getD (by rw [h.len]; exact hi)]

end Go.Proofs.Yteehgcbjmdideaa
