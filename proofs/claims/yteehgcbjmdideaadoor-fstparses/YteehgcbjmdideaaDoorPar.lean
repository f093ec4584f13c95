/- 'Parse' of package fst. -/
import Derived.Test.YteehgcbjmdideaaDoorTaker
import Derived.Test.YteehgcbjmdideaaDoorParMath
namespace Go.Proofs.YteehgcbjmdideaaDoor
open Go.RowKit
attribute [local go_sem ↓] Go.wp_at_zero Go.wp_at_succ

theorem arcsV_get (ars : List ArcD) (i j : Nat) (hi : i < ars.length) (hj : j < 5) : (arcsV ars)[i * 5 + j]? = (arcCells (ars.getD i a0))[j]? := by
  induction ars generalizing i with
  | nil => simp at hi
  | cons a l ih =>
    have e : arcsV (a :: l) = arcCells a ++ arcsV l := by simp [arcsV]
    have hl : (arcCells a).length = 5 := rfl
    rw [e]
    cases i with
    | zero => rw [Nat.zero_mul, Nat.zero_add, List.getElem?_append_left (by omega)]; rfl
    | succ i =>
      rw [List.getElem?_append_right (by omega), hl, show (i + 1) * 5 + j - 5 = i * 5 + j by omega, ih i (by simpa using hi)]
      rfl

theorem ownsRow_arcs {w : World} {B g : Nat} {v : Value} {ars : List ArcD} (h : w.ownsRow B g 5 v ars.length (arcsV ars)) : ASlice w v ars := by
  obtain ⟨_, h⟩ := h
  rcases h with ⟨rfl, h⟩ | ⟨g, cap, cur, rfl, _, hh, h1, h2, h3, h4⟩
  · exact Or.inl ⟨none, 0, rfl, List.length_eq_zero_iff.1 h⟩
  · have key : ∀ i j, i < ars.length → j < 5 → w.cell? ⟨g, 0 + i * 5 + j, none⟩ = (arcCells (ars.getD i a0))[j]? := by
      intro i j hi hj
      have h5 := arcsV_get ars i j hi hj
      rw [← h4, List.getElem?_take, if_pos (by omega), Array.getElem?_toList] at h5
      rw [Go.Joins.cell_of_block hh, Nat.zero_add]; exact h5
    exact Or.inr ⟨g, 0, ars.length, cap, rfl, ⟨rfl, fun i hi => key i 0 hi (by omega), fun i hi => key i 1 hi (by omega), fun i hi => key i 2 hi (by omega), fun i hi => key i 3 hi (by omega), fun i hi => key i 4 hi (by omega)⟩, by omega⟩

/-- what the reader holds: f so far, the last final state -/
structure RD (w : World) (rb : Nat) (fv av : Value) (f : FstD) (last : Int) : Prop where
  blk : RBlock w rb f.states f.start fv av last
  arcs : w.ownsRow rb 55 5 av f.arcs.length (arcsV f.arcs)
  avrb : av.ownBlock ≠ some rb
  nil : f.arcs = [] → av = .slice none 0 0
  fin : (f.states = 0 ∧ f.final = [] ∧ f.arcs = [] ∧ fv = .slice none 0 0) ∨
    ∃ G N : Nat, fv = .slice (some ⟨G, 0, none⟩) N N ∧ w.heap[G]? = some (.cells (intsV f.final).toArray 3 (0, 0)) ∧ f.final.length = N ∧ f.states = N ∧ 1 ≤ N ∧ N ≤ 200 ∧ rb < G ∧ some G ≠ av.ownBlock

theorem RD.below {w w' : World} {rb : Nat} {fv av : Value} {f : FstD} {last : Int} (h : RD w rb fv av f last) (hb : Below w.heap.size w w') : RD w' rb fv av f last := by
  refine ⟨heap_bel hb h.blk, ownsRow_bel h.arcs hb, h.avrb, h.nil, ?_⟩
  rcases h.fin with h | ⟨G, N, h1, h2, h3⟩
  · exact Or.inl h
  · exact Or.inr ⟨G, N, h1, heap_bel hb h2, h3⟩

theorem RD.final {w : World} {rb : Nat} {fv av : Value} {f : FstD} {last : Int} (h : RD w rb fv av f last) : ISlice w fv f.final := by
  rcases h.fin with ⟨_, h2, _, h4⟩ | ⟨G, N, h1, h2, h3, _, _, h6, _⟩
  · exact Or.inl ⟨none, 0, h4, h2⟩
  · refine Or.inr ⟨G, 0, N, N, h1, ⟨h3, fun i hi => ?_⟩, by unfold maxLen; omega⟩
    have := Go.Joins.cell_of_block h2 (0 + i)
    rw [this]
    simp [intsV, List.getD, show i < f.final.length by omega]

theorem stepHead_out (s : ByteArray) (x y : Int) (h : stepHead (listOf s) = some (x, y)) : ∃ a b c d, wordsB s = [a, b, c, d] ∧ listOf a = bStates ∧ listOf c = bStart ∧ numB (listOf b) = some x ∧ numB (listOf d) = some y ∧ inB x 1 200 = true := by
  by_cases h4 : (wordsB s).length = 4
  · obtain ⟨a, b, c, d, hw⟩ := len4 _ h4
    refine ⟨a, b, c, d, hw, ?_⟩
    unfold stepHead at h
    rw [← wordsB_eq, hw] at h
    simp only [fieldsOf, List.map_cons, List.map_nil] at h
    by_cases hac : listOf a = bStates ∧ listOf c = bStart
    · rw [if_pos hac] at h
      cases q1 : numB (listOf b) with
      | none => simp [q1] at h
      | some u =>
        cases q2 : numB (listOf d) with
        | none => simp [q1, q2] at h
        | some v =>
          simp [q1, q2] at h
          obtain ⟨h1, h2, h3⟩ := h
          subst h2 h3
          exact ⟨hac.1, hac.2, rfl, rfl, h1⟩
    · rw [if_neg hac] at h; cases h
  · rw [fields_not4 s h4] at h; cases h

theorem stepFinal_out (st last : Int) (q : Bool) (s : ByteArray) (x y : Int) (h : stepFinal st last q (listOf s) = some (x, y)) : ∃ a b c, wordsB s = [a, b, c] ∧ listOf a = bFinal ∧ q = false ∧ numB (listOf b) = some x ∧ numB (listOf c) = some y ∧ inB x 0 (st - 1) = true ∧ last < x := by
  by_cases h3 : (wordsB s).length = 3
  · obtain ⟨a, b, c, hw⟩ := len3 _ h3
    refine ⟨a, b, c, hw, ?_⟩
    unfold stepFinal at h
    rw [← wordsB_eq, hw] at h
    simp only [fieldsOf, List.map_cons, List.map_nil] at h
    by_cases hac : listOf a = bFinal ∧ q = false
    · rw [if_pos hac] at h
      cases q1 : numB (listOf b) with
      | none => simp [q1] at h
      | some u =>
        cases q2 : numB (listOf c) with
        | none => simp [q1, q2] at h
        | some v =>
          simp [q1, q2] at h
          obtain ⟨⟨h1, h1'⟩, h2, h3⟩ := h
          subst h2 h3
          exact ⟨hac.1, hac.2, rfl, rfl, h1, h1'⟩
    · rw [if_neg hac] at h; cases h
  · rw [fields_not3 st last q s h3] at h; cases h

theorem stepArc_out (l : List UInt8) (a : ArcD) (h : stepArc l = some a) : numsB (splitOn 32 l) = some [a.src, a.inp, a.out, a.dst, a.wt] := by
  unfold stepArc at h
  unfold numsB
  cases hm : (splitOn 32 l).mapM numB with
  | none => rw [hm] at h; cases h
  | some ns =>
    rw [hm] at h
    match ns, h with
    | [p, q, r, t, u], h => simp at h; subst h; rfl

theorem rowR_ints (N : Nat) : rowR (-1) N N = intsV (List.replicate N (-1)) := by simp [rowR, intsV]

theorem RD.head {w : World} {rb : Nat} {fv av : Value} {f : FstD} {last x y : Int} {s : ByteArray} (h : RD w rb fv av f last) (hsh : w.ShapedOpen Tryd.prog) (hs : s.size ≤ 100000) (h0 : f.states = 0) (hx : stepHead (listOf s) = some (x, y)) :
    Calls Tryd.prog 48 #[.pointer (some ⟨rb, 0, none⟩), .string s] w fun e w' => e = .returned (.bool true) ∧ (∃ fv' av', RD w' rb fv' av' ⟨x, y, List.replicate x.toNat (-1), f.arcs⟩ last) ∧ Below rb w w' := by
  obtain ⟨a, b, c, d, hw, ha, hc, hb, hd, hin⟩ := stepHead_out s x y hx
  have hrl := heap_lt h.blk
  have hin' := inB_le hin
  have harcs : f.arcs = [] := by
    rcases h.fin with ⟨_, _, h3, _⟩ | ⟨G, N, _, _, _, h4, h5, _⟩
    · exact h3
    · omega
  have hav := h.nil harcs
  refine (takeHead_some rb _ _ last x y fv av s a b c d w hsh hs hw h.blk ha hc hb hd hin).mono ?_
  rintro e w' ⟨rfl, G, hR, hG, hGl, hB1⟩
  refine ⟨rfl, ⟨_, av, hR, ?_, h.avrb, h.nil, Or.inr ⟨G, x.toNat, rfl, ?_, by simp, ?_, by omega, by omega, by omega, ?_⟩⟩, hB1.below (Nat.le_refl _) (by omega)⟩
  · subst hav; show World.ownsRow w' rb _ 5 _ f.arcs.length (arcsV f.arcs); rw [harcs]; exact World.ownsRow_nil _ _ _ _
  · rw [hG, rowR_ints]
  · show x = _; omega
  · subst hav; simp [Value.ownBlock]

theorem RD.fin_on {w : World} {rb : Nat} {fv av : Value} {f : FstD} {last : Int} (h : RD w rb fv av f last) (h0 : f.states ≠ 0) : ∃ G N : Nat, fv = .slice (some ⟨G, 0, none⟩) N N ∧ w.heap[G]? = some (.cells (intsV f.final).toArray 3 (0, 0)) ∧ f.final.length = N ∧ f.states = N ∧ 1 ≤ N ∧ N ≤ 200 ∧ rb < G ∧ some G ≠ av.ownBlock := by
  rcases h.fin with ⟨h1, _⟩ | h1
  · exact absurd h1 h0
  · exact h1

theorem RD.final_some {w : World} {rb : Nat} {fv av : Value} {f : FstD} {last x y : Int} {s : ByteArray} (h : RD w rb fv av f last) (hsh : w.ShapedOpen Tryd.prog) (hs : s.size ≤ 100000) (h0 : f.states ≠ 0) (hx : stepFinal f.states last (decide (0 < f.arcs.length)) (listOf s) = some (x, y)) :
    Calls Tryd.prog 50 #[.pointer (some ⟨rb, 0, none⟩), .string s] w fun e w' => e = .returned (.bool true) ∧ (∃ fv' av', RD w' rb fv' av' ⟨f.states, f.start, f.final.set x.toNat y, f.arcs⟩ x) ∧ Below rb w w' := by
  obtain ⟨G, N, rfl, hG, hlen, hN, hN1, hN2, hrG, hGav⟩ := h.fin_on h0
  obtain ⟨a, b, c, hw, ha, hq, hb, hc, hin, hlt⟩ := stepFinal_out _ _ _ s x y hx
  have hin' := inB_le hin
  have harcs : f.arcs = [] := by simpa using hq
  have hav := h.nil harcs
  obtain ⟨X, rfl⟩ : ∃ X : Nat, x = (X : Int) := ⟨x.toNat, by omega⟩
  have hblk := h.blk
  rw [hN, hav] at hblk
  refine (takeFinal_some rb rb G N X f.start last y f.final s a b c w hsh hs hw hblk hG hlen (by omega) (Nat.le_refl _) (by omega) hN2 ha hb hc (by omega) hlt).mono ?_
  rintro e w' ⟨rfl, hR, hG', hB⟩
  refine ⟨rfl, ⟨_, .slice none 0 0, ?_, ?_, by simp [Value.ownBlock], fun _ => rfl, Or.inr ⟨G, N, rfl, hG', ?_, hN, hN1, hN2, hrG, by simp [Value.ownBlock]⟩⟩, hB⟩
  · show RBlock w' rb f.states _ _ _ _; rw [hN]; exact hR
  · show World.ownsRow w' rb _ 5 _ f.arcs.length (arcsV f.arcs); rw [harcs]; exact World.ownsRow_nil _ _ _ _
  · show (f.final.set _ y).length = N; simp [hlen]

theorem RD.avform {w : World} {rb : Nat} {fv av : Value} {f : FstD} {last : Int} (h : RD w rb fv av f last) : ∃ aa ac, av = .slice aa f.arcs.length ac := by
  obtain ⟨_, h⟩ := h.arcs
  rcases h with ⟨rfl, h0⟩ | ⟨g, cap, cur, rfl, _⟩
  · exact ⟨none, 0, by rw [h0]⟩
  · exact ⟨_, cap, rfl⟩

theorem RD.final_none {w : World} {rb : Nat} {fv av : Value} {f : FstD} {last : Int} {s : ByteArray} (h : RD w rb fv av f last) (hsh : w.ShapedOpen Tryd.prog) (hs : s.size ≤ 100000) (h0 : f.states ≠ 0) (hx : stepFinal f.states last (decide (0 < f.arcs.length)) (listOf s) = none) :
    Calls Tryd.prog 50 #[.pointer (some ⟨rb, 0, none⟩), .string s] w fun e w' => e = .returned (.bool false) ∧ Below w.heap.size w w' := by
  obtain ⟨G, N, _, _, _, hN, _, hN2, _⟩ := h.fin_on h0
  obtain ⟨aa, ac, hav⟩ := h.avform
  have hblk := h.blk
  rw [hN, hav] at hblk
  rw [hN] at hx
  exact takeFinal_none rb N f.arcs.length ac f.start last fv aa s w hsh hs hblk hN2 hx

theorem RD.arc_some {w : World} {rb : Nat} {fv av : Value} {f : FstD} {last : Int} {a : ArcD} {s : ByteArray} (h : RD w rb fv av f last) (hsh : w.ShapedOpen Tryd.prog) (hs : s.size ≤ 100000) (h0 : f.states ≠ 0) (hm : f.arcs.length ≤ 1000000) (hx : stepArc (listOf s) = some a) :
    Calls Tryd.prog 51 #[.pointer (some ⟨rb, 0, none⟩), .string s] w fun e w' => e = .returned (.bool true) ∧ (∃ fv' av', RD w' rb fv' av' ⟨f.states, f.start, f.final, f.arcs ++ [a]⟩ last) ∧ Below rb w w' := by
  obtain ⟨G, N, hfv, hG, hlen, hN, hN1, hN2, hrG, hGav⟩ := h.fin_on h0
  refine (takeArc_some rb rb f.states f.start last fv av f.arcs a s w hsh hs h.blk h.arcs h.avrb (Nat.le_refl _) hm (stepArc_out _ _ hx)).mono ?_
  rintro e w' ⟨rfl, av', hR, hown, hne, hB, hkeep, hold⟩
  refine ⟨rfl, ⟨fv, av', hR, ?_, hne, ?_, Or.inr ⟨G, N, hfv, hkeep G _ hG (by omega) hGav, hlen, hN, hN1, hN2, hrG, ?_⟩⟩, hB⟩
  · show World.ownsRow w' rb _ 5 av' (f.arcs ++ [a]).length _
    rw [List.length_append]; exact hown
  · intro h; simp at h
  · intro he
    exact hGav (hold G (heap_lt hG) he.symm).symm

end Go.Proofs.YteehgcbjmdideaaDoor
