/- 'Parse' of package fst. -/
import Derived.Test.YteehgcbjmdideaaGreatDoorQTaker
import Derived.Test.YteehgcbjmdideaaGreatDoorQMA
namespace Go.Proofs.YteehgcbjmdideaaGreatDoor
open Go.RowKit
attribute [local go_sem ↓] Go.wp_at_zero Go.wp_at_succ

theorem arcsV_get (ars : List ArcD) (i j : Nat) (hi : i < ars.length) (hj : j < 5) : (arcsV ars)[i * 5 + j]? = (arcCells (ars.getD i a0))[j]? := by
  induction ars generalizing i with
  | nil => simp at hi
  | cons a l ih =>
    have e : arcsV (a :: l) = arcCells a ++ arcsV l := by simp [arcsV]
    have hl : (arcCells a).length = 5 := rfl
    rw [e]
    cases i with
    | zero => rw [Nat.zero_mul, Nat.zero_add, List.getElem?_append_left (by omega)]; rfl
    | succ i =>
      rw [List.getElem?_append_right (by omega), hl, show (i + 1) * 5 + j - 5 = i * 5 + j by omega, ih i (by simpa using hi)]
      rfl

theorem ownsRow_arcs {w : World} {B g : Nat} {v : Value} {ars : List ArcD} (h : w.ownsRow B g 5 v ars.length (arcsV ars)) : ASlice w v ars := by
  obtain ⟨_, h⟩ := h
  rcases h with ⟨rfl, h⟩ | ⟨g, cap, cur, rfl, _, hh, h1, h2, h3, h4⟩
  · exact Or.inl ⟨none, 0, rfl, List.length_eq_zero_iff.1 h⟩
  · have key : ∀ i j, i < ars.length → j < 5 → w.cell? ⟨g, 0 + i * 5 + j, none⟩ = (arcCells (ars.getD i a0))[j]? := by
      intro i j hi hj
      have h5 := arcsV_get ars i j hi hj
      rw [← h4, List.getElem?_take, if_pos (by omega), Array.getElem?_toList] at h5
      rw [Go.Joins.cell_of_block hh, Nat.zero_add]; exact h5
    exact Or.inr ⟨g, 0, ars.length, cap, rfl, ⟨rfl, fun i hi => key i 0 hi (by omega), fun i hi => key i 1 hi (by omega), fun i hi => key i 2 hi (by omega), fun i hi => key i 3 hi (by omega), fun i hi => key i 4 hi (by omega)⟩, by omega⟩

/-- what the reader holds: f so far, the last final state -/
structure RD (w : World) (rb : Nat) (fv av : Value) (f : FstD) (last : Int) : Prop where
  blk : RBlock w rb f.states f.start fv av last
  arcs : w.ownsRow rb 35 5 av f.arcs.length (arcsV f.arcs)
  avrb : av.ownBlock ≠ some rb
  nil : f.arcs = [] → av = .slice none 0 0
  fin : (f.states = 0 ∧ f.final = [] ∧ f.arcs = [] ∧ fv = .slice none 0 0) ∨
    ∃ G N : Nat, fv = .slice (some ⟨G, 0, none⟩) N N ∧ w.heap[G]? = some (.cells (intsV f.final).toArray 3 (0, 0)) ∧ f.final.length = N ∧ f.states = N ∧ 1 ≤ N ∧ N ≤ 200 ∧ rb < G ∧ some G ≠ av.ownBlock

theorem RD.below {w w' : World} {rb : Nat} {fv av : Value} {f : FstD} {last : Int} (h : RD w rb fv av f last) (hb : Below w.heap.size w w') : RD w' rb fv av f last := by
  refine ⟨heap_bel hb h.blk, ownsRow_bel h.arcs hb, h.avrb, h.nil, ?_⟩
  rcases h.fin with h | ⟨G, N, h1, h2, h3⟩
  · exact Or.inl h
  · exact Or.inr ⟨G, N, h1, heap_bel hb h2, h3⟩

theorem RD.final {w : World} {rb : Nat} {fv av : Value} {f : FstD} {last : Int} (h : RD w rb fv av f last) : ISlice w fv f.final := by
  rcases h.fin with ⟨_, h2, _, h4⟩ | ⟨G, N, h1, h2, h3, _, _, h6, _⟩
  · exact Or.inl ⟨none, 0, h4, h2⟩
  · refine Or.inr ⟨G, 0, N, N, h1, ⟨h3, fun i hi => ?_⟩, by unfold maxLen; omega⟩
    have := Go.Joins.cell_of_block h2 (0 + i)
    rw [this]
    simp [intsV, List.getD, show i < f.final.length by omega]

theorem stepHead_out (s : ByteArray) (x y : Int) (h : stepHead (listOf s) = some (x, y)) : ∃ a b c d, wordsB s = [a, b, c, d] ∧ listOf a = bStates ∧ listOf c = bStart ∧ numB (listOf b) = some x ∧ numB (listOf d) = some y ∧ inB x 1 200 = true := by
  by_cases h4 : (wordsB s).length = 4
  · obtain ⟨a, b, c, d, hw⟩ := len4 _ h4
    refine ⟨a, b, c, d, hw, ?_⟩
    unfold stepHead at h
    rw [← wordsB_eq, hw] at h
    simp only [fieldsOf, List.map_cons, List.map_nil] at h
    by_cases hac : listOf a = bStates ∧ listOf c = bStart
    · rw [if_pos hac] at h
      cases q1 : numB (listOf b) with
      | none => simp [q1] at h
      | some u =>
        cases q2 : numB (listOf d) with
        | none => simp [q1, q2] at h
        | some v =>
          simp [q1, q2] at h
          obtain ⟨h1, h2, h3⟩ := h
          subst h2 h3
          exact ⟨hac.1, hac.2, rfl, rfl, h1⟩
    · rw [if_neg hac] at h; cases h
  · rw [fields_not4 s h4] at h; cases h

theorem stepFinal_out (st last : Int) (q : Bool) (s : ByteArray) (x y : Int) (h : stepFinal st last q (listOf s) = some (x, y)) : ∃ a b c, wordsB s = [a, b, c] ∧ listOf a = bFinal ∧ q = false ∧ numB (listOf b) = some x ∧ numB (listOf c) = some y ∧ inB x 0 (st - 1) = true ∧ last < x := by
  by_cases h3 : (wordsB s).length = 3
  · obtain ⟨a, b, c, hw⟩ := len3 _ h3
    refine ⟨a, b, c, hw, ?_⟩
    unfold stepFinal at h
    rw [← wordsB_eq, hw] at h
    simp only [fieldsOf, List.map_cons, List.map_nil] at h
    by_cases hac : listOf a = bFinal ∧ q = false
    · rw [if_pos hac] at h
      cases q1 : numB (listOf b) with
      | none => simp [q1] at h
      | some u =>
        cases q2 : numB (listOf c) with
        | none => simp [q1, q2] at h
        | some v =>
          simp [q1, q2] at h
          obtain ⟨⟨h1, h1'⟩, h2, h3⟩ := h
          subst h2 h3
          exact ⟨hac.1, hac.2, rfl, rfl, h1, h1'⟩
    · rw [if_neg hac] at h; cases h
  · rw [fields_not3 st last q s h3] at h; cases h

theorem stepArc_out (l : List UInt8) (a : ArcD) (h : stepArc l = some a) : numsB (splitOn 32 l) = some [a.src, a.inp, a.out, a.dst, a.wt] := by
  unfold stepArc at h
  unfold numsB
  cases hm : (splitOn 32 l).mapM numB with
  | none => rw [hm] at h; cases h
  | some ns =>
    rw [hm] at h
    match ns, h with
    | [p, q, r, t, u], h => simp at h; subst h; rfl

theorem rowR_ints (N : Nat) : rowR (-1) N N = intsV (List.replicate N (-1)) := by simp [rowR, intsV]

theorem RD.head {w : World} {rb : Nat} {fv av : Value} {f : FstD} {last x y : Int} {s : ByteArray} (h : RD w rb fv av f last) (hsh : w.ShapedOpen Tryz.prog) (hs : s.size ≤ 100000) (h0 : f.states = 0) (hx : stepHead (listOf s) = some (x, y)) :
    Calls Tryz.prog 54 #[.pointer (some ⟨rb, 0, none⟩), .string s] w fun e w' => e = .returned (.bool true) ∧ (∃ fv' av', RD w' rb fv' av' ⟨x, y, List.replicate x.toNat (-1), f.arcs⟩ last) ∧ Below rb w w' := by
  obtain ⟨a, b, c, d, hw, ha, hc, hb, hd, hin⟩ := stepHead_out s x y hx
  have hrl := heap_lt h.blk
  have hin' := inB_le hin
  have harcs : f.arcs = [] := by
    rcases h.fin with ⟨_, _, h3, _⟩ | ⟨G, N, _, _, _, h4, h5, _⟩
    · exact h3
    · omega
  have hav := h.nil harcs
  refine (takeHead_some rb _ _ last x y fv av s a b c d w hsh hs hw h.blk ha hc hb hd hin).mono ?_
  rintro e w' ⟨rfl, G, hR, hG, hGl, hB1⟩
  refine ⟨rfl, ⟨_, av, hR, ?_, h.avrb, h.nil, Or.inr ⟨G, x.toNat, rfl, ?_, by simp, ?_, by omega, by omega, by omega, ?_⟩⟩, hB1.below (Nat.le_refl _) (by omega)⟩
  · subst hav; show World.ownsRow w' rb _ 5 _ f.arcs.length (arcsV f.arcs); rw [harcs]; exact World.ownsRow_nil _ _ _ _
  · rw [hG, rowR_ints]
  · show x = _; omega
  · subst hav; simp [Value.ownBlock]

theorem RD.fin_on {w : World} {rb : Nat} {fv av : Value} {f : FstD} {last : Int} (h : RD w rb fv av f last) (h0 : f.states ≠ 0) : ∃ G N : Nat, fv = .slice (some ⟨G, 0, none⟩) N N ∧ w.heap[G]? = some (.cells (intsV f.final).toArray 3 (0, 0)) ∧ f.final.length = N ∧ f.states = N ∧ 1 ≤ N ∧ N ≤ 200 ∧ rb < G ∧ some G ≠ av.ownBlock := by
  rcases h.fin with ⟨h1, _⟩ | h1
  · exact absurd h1 h0
  · exact h1

theorem RD.final_some {w : World} {rb : Nat} {fv av : Value} {f : FstD} {last x y : Int} {s : ByteArray} (h : RD w rb fv av f last) (hsh : w.ShapedOpen Tryz.prog) (hs : s.size ≤ 100000) (h0 : f.states ≠ 0) (hx : stepFinal f.states last (decide (0 < f.arcs.length)) (listOf s) = some (x, y)) :
    Calls Tryz.prog 56 #[.pointer (some ⟨rb, 0, none⟩), .string s] w fun e w' => e = .returned (.bool true) ∧ (∃ fv' av', RD w' rb fv' av' ⟨f.states, f.start, f.final.set x.toNat y, f.arcs⟩ x) ∧ Below rb w w' := by
  obtain ⟨G, N, rfl, hG, hlen, hN, hN1, hN2, hrG, hGav⟩ := h.fin_on h0
  obtain ⟨a, b, c, hw, ha, hq, hb, hc, hin, hlt⟩ := stepFinal_out _ _ _ s x y hx
  have hin' := inB_le hin
  have harcs : f.arcs = [] := by simpa using hq
  have hav := h.nil harcs
  obtain ⟨X, rfl⟩ : ∃ X : Nat, x = (X : Int) := ⟨x.toNat, by omega⟩
  have hblk := h.blk
  rw [hN, hav] at hblk
  refine (takeFinal_some rb rb G N X f.start last y f.final s a b c w hsh hs hw hblk hG hlen (by omega) (Nat.le_refl _) (by omega) hN2 ha hb hc (by omega) hlt).mono ?_
  rintro e w' ⟨rfl, hR, hG', hB⟩
  refine ⟨rfl, ⟨_, .slice none 0 0, ?_, ?_, by simp [Value.ownBlock], fun _ => rfl, Or.inr ⟨G, N, rfl, hG', ?_, hN, hN1, hN2, hrG, by simp [Value.ownBlock]⟩⟩, hB⟩
  · show RBlock w' rb f.states _ _ _ _; rw [hN]; exact hR
  · show World.ownsRow w' rb _ 5 _ f.arcs.length (arcsV f.arcs); rw [harcs]; exact World.ownsRow_nil _ _ _ _
  · show (f.final.set _ y).length = N; simp [hlen]

theorem RD.avform {w : World} {rb : Nat} {fv av : Value} {f : FstD} {last : Int} (h : RD w rb fv av f last) : ∃ aa ac, av = .slice aa f.arcs.length ac := by
  obtain ⟨_, h⟩ := h.arcs
  rcases h with ⟨rfl, h0⟩ | ⟨g, cap, cur, rfl, _⟩
  · exact ⟨none, 0, by rw [h0]⟩
  · exact ⟨_, cap, rfl⟩

theorem RD.final_none {w : World} {rb : Nat} {fv av : Value} {f : FstD} {last : Int} {s : ByteArray} (h : RD w rb fv av f last) (hsh : w.ShapedOpen Tryz.prog) (hs : s.size ≤ 100000) (h0 : f.states ≠ 0) (hx : stepFinal f.states last (decide (0 < f.arcs.length)) (listOf s) = none) :
    Calls Tryz.prog 56 #[.pointer (some ⟨rb, 0, none⟩), .string s] w fun e w' => e = .returned (.bool false) ∧ Below w.heap.size w w' := by
  obtain ⟨G, N, _, _, _, hN, _, hN2, _⟩ := h.fin_on h0
  obtain ⟨aa, ac, hav⟩ := h.avform
  have hblk := h.blk
  rw [hN, hav] at hblk
  rw [hN] at hx
  exact takeFinal_none rb N f.arcs.length ac f.start last fv aa s w hsh hs hblk hN2 hx

theorem RD.arc_some {w : World} {rb : Nat} {fv av : Value} {f : FstD} {last : Int} {a : ArcD} {s : ByteArray} (h : RD w rb fv av f last) (hsh : w.ShapedOpen Tryz.prog) (hs : s.size ≤ 100000) (h0 : f.states ≠ 0) (hm : f.arcs.length ≤ 1000000) (hx : stepArc (listOf s) = some a) :
    Calls Tryz.prog 57 #[.pointer (some ⟨rb, 0, none⟩), .string s] w fun e w' => e = .returned (.bool true) ∧ (∃ fv' av', RD w' rb fv' av' ⟨f.states, f.start, f.final, f.arcs ++ [a]⟩ last) ∧ Below rb w w' := by
  obtain ⟨G, N, hfv, hG, hlen, hN, hN1, hN2, hrG, hGav⟩ := h.fin_on h0
  refine (takeArc_some rb rb f.states f.start last fv av f.arcs a s w hsh hs h.blk h.arcs h.avrb (Nat.le_refl _) hm (stepArc_out _ _ hx)).mono ?_
  rintro e w' ⟨rfl, av', hR, hown, hne, hB, hkeep, hold⟩
  refine ⟨rfl, ⟨fv, av', hR, ?_, hne, ?_, Or.inr ⟨G, N, hfv, hkeep G _ hG (by omega) hGav, hlen, hN, hN1, hN2, hrG, ?_⟩⟩, hB⟩
  · show World.ownsRow w' rb _ 5 av' (f.arcs ++ [a]).length _
    rw [List.length_append]; exact hown
  · intro h; simp at h
  · intro he
    exact hGav (hold G (heap_lt hG) he.symm).symm

end Go.Proofs.YteehgcbjmdideaaGreatDoor

/- 'Parse' of package fst: what it answers. -/
namespace Go.Proofs.YteehgcbjmdideaaGreatDoor
open Go.RowKit
attribute [local go_sem ↓] Go.wp_at_zero Go.wp_at_succ

theorem cut_any (s : ByteArray) (w : World) (hsh : w.ShapedOpen Tryz.prog) (hs : s.size ≤ 100000) :
    Calls Tryz.prog 34 #[.string s, .string ⟨#[10]⟩] w fun e w' => e = .returned (.tuple #[.string (strOf (Lib.cut (listOf s) [10]).1), .string (strOf (Lib.cut (listOf s) [10]).2.1), .bool (Lib.cut (listOf s) [10]).2.2]) ∧ Below w.heap.size w w' :=
  (Tryz.strings_Cut_shaped s ⟨#[10]⟩ w hsh (by omega)).mono fun _ _ ⟨he, n, hw⟩ => ⟨he, hw ▸ bel_drewN (bel_self w) n⟩

theorem listOf_strOf (l : List UInt8) : listOf (strOf l) = l := by simp [listOf, strOf]

/-- the block of the answer, not yet written -/
def ZBlock (w : World) (R : Nat) : Prop := w.heap[R]? = some (.cells #[.int .i64 0, .int .i64 0, .slice none 0 0, .slice none 0 0] 25 (0, 0))

/-- what the answer of 'Parse' is -/
def ParRes (s : ByteArray) (e : Ending) (w : World) : Prop :=
  ∃ fv av, e = .returned (.tuple #[.agg #[.int .i64 (parseD (listOf s)).f.states, .int .i64 (parseD (listOf s)).f.start, fv, av], .int .i64 (parseD (listOf s)).line, .int .i64 (parseD (listOf s)).err]) ∧ ISlice w fv (parseD (listOf s)).f.final ∧ ASlice w av (parseD (listOf s)).f.arcs

theorem parRes_bad {s : ByteArray} {w : World} {ln er : Int} (h : parseD (listOf s) = ⟨fst0, ln, er⟩) : ParRes s (.returned (.tuple #[.agg #[.int .i64 0, .int .i64 0, .slice none 0 0, .slice none 0 0], .int .i64 ln, .int .i64 er])) w := by
  unfold ParRes
  rw [h]
  exact ⟨_, _, rfl, Or.inl ⟨none, 0, rfl, rfl⟩, Or.inl ⟨none, 0, rfl, rfl⟩⟩

set_option maxHeartbeats 1000000 in
theorem parse_long (s : ByteArray) (w : World) (hs : 100000 < s.size) (hm : s.size ≤ maxLen) :
    Calls Tryz.prog 17 #[.string s] w fun e w' => ParRes s e w' ∧ Below w.heap.size w w' := by
  unfold maxLen at hm
  have hp : parseD (listOf s) = ⟨fst0, 0, 2⟩ := by unfold parseD; rw [if_pos (by rw [listOf_len]; exact hs)]
  have HP : Hid (parseD (listOf s) = ⟨fst0, 0, 2⟩) := hp
  clear hp
  have hi : (100000 : Int) < (s.size : Int) := by omega
  go_enter Tryz.func17, Tryz.ntmps17
  go_wp2
  refine bodyPost_ret (v := .tuple #[.agg #[.int .i64 0, .int .i64 0, .slice none 0 0, .slice none 0 0], .int .i64 0, .int .i64 2]) (by simp [results, Tryz.results17, go_sem]) rfl ⟨parRes_bad HP.out, bel_up (bel_self _) _⟩

/-- what stands at the head of each round -/
structure PI (s : ByteArray) (w : World) (n : Nat) (rest : ByteArray) (f : FstD) (last : Int) (fv av : Value) (wr : World) : Prop where
  run : runL (splitOn 10 (listOf s)) 1 fst0 (-1) = runL (splitOn 10 (listOf rest)) n f last
  n1 : 1 ≤ n
  size : n + rest.size ≤ s.size + 1
  many : f.arcs.length < n
  on : n = 1 ∨ f.states ≠ 0
  one : n = 1 → f.states = 0
  rd : RD wr (w.heap.size + 1) fv av f last
  bel : Below (w.heap.size + 1) (w.alloc (.cells #[.int .i64 0, .int .i64 0, .slice none 0 0, .slice none 0 0] 25)) wr

theorem PI.belw {s : ByteArray} {w : World} {n : Nat} {rest : ByteArray} {f : FstD} {last : Int} {fv av : Value} {wr : World} (h : PI s w n rest f last fv av wr) : Below w.heap.size w wr :=
  (bel_up (bel_self w) _).trans (h.bel.mono (by omega))
theorem PI.zblock {s : ByteArray} {w : World} {n : Nat} {rest : ByteArray} {f : FstD} {last : Int} {fv av : Value} {wr : World} (h : PI s w n rest f last fv av wr) : ZBlock wr w.heap.size := by
  unfold ZBlock
  rw [h.bel.block w.heap.size (by omega)]
  exact heap_alloc_new w _

theorem rfacts {w : World} {rb : Nat} {st sta last : Int} {fv av : Value} (h : RBlock w rb st sta fv av last) : w.cell? ⟨rb, 0, none⟩ = some (.int .i64 st) ∧ w.cell? ⟨rb, 1, none⟩ = some (.int .i64 sta) ∧ w.cell? ⟨rb, 2, none⟩ = some fv ∧ w.cell? ⟨rb, 3, none⟩ = some av := by
  refine ⟨?_, ?_, ?_, ?_⟩
  · have := Go.Joins.cell_of_block h 0; simpa using this
  · have := Go.Joins.cell_of_block h 1; simpa using this
  · have := Go.Joins.cell_of_block h 2; simpa using this
  · have := Go.Joins.cell_of_block h 3; simpa using this

theorem RD.set {w : World} {rb R : Nat} {fv av : Value} {f : FstD} {last : Int} (h : RD w rb fv av f last) (hR : R < rb) (i : Nat) (v : Value) : RD (w.setCell ⟨R, i, none⟩ v) rb fv av f last := by
  refine ⟨?_, ownsRow_other h.arcs ?_, h.avrb, h.nil, ?_⟩
  · exact (Below.heap_setCell w ⟨R, i, none⟩ v rb (by simp; omega)).trans h.blk
  · intro e; have := ownsRow_base h.arcs R e; omega
  · rcases h.fin with h1 | ⟨G, N, h1, h2, h3, h4, h5, h6, h7, h8⟩
    · exact Or.inl h1
    · exact Or.inr ⟨G, N, h1, (Below.heap_setCell w ⟨R, i, none⟩ v G (by simp; omega)).trans h2, h3, h4, h5, h6, h7, h8⟩

theorem taker_fin (rb : Nat) (st sta last : Int) (fv av : Value) (s : ByteArray) (w : World) (hR : RBlock w rb st sta fv av last) (hst : st ≠ 0) (hp : Lib.hasPrefix (listOf s) bFinal = true) :
    Calls Tryz.prog 35 #[.pointer (some ⟨rb, 0, none⟩), .string s] w fun e w' => e = .returned (.func (.func 56) #[.pointer (some ⟨rb, 0, none⟩)] #[]) ∧ w = w' := by
  have h := taker_on rb st sta last fv av s w hR hst
  rw [hp] at h
  exact h
theorem taker_arc (rb : Nat) (st sta last : Int) (fv av : Value) (s : ByteArray) (w : World) (hR : RBlock w rb st sta fv av last) (hst : st ≠ 0) (hp : Lib.hasPrefix (listOf s) bFinal = false) :
    Calls Tryz.prog 35 #[.pointer (some ⟨rb, 0, none⟩), .string s] w fun e w' => e = .returned (.func (.func 57) #[.pointer (some ⟨rb, 0, none⟩)] #[]) ∧ w = w' := by
  have h := taker_on rb st sta last fv av s w hR hst
  rw [hp] at h
  exact h

theorem zfacts {w : World} {R : Nat} (h : ZBlock w R) : w.cell? ⟨R, 0, none⟩ = some (.int .i64 0) ∧ w.cell? ⟨R, 1, none⟩ = some (.int .i64 0) ∧ w.cell? ⟨R, 2, none⟩ = some (.slice none 0 0) ∧ w.cell? ⟨R, 3, none⟩ = some (.slice none 0 0) ∧ w.frozen? ⟨R, 0, none⟩ = false ∧ w.frozen? ⟨R, 1, none⟩ = false ∧ w.frozen? ⟨R, 2, none⟩ = false ∧ w.frozen? ⟨R, 3, none⟩ = false := by
  refine ⟨?_, ?_, ?_, ?_, Go.Joins.unfrozen_of_block h 0, Go.Joins.unfrozen_of_block h 1, Go.Joins.unfrozen_of_block h 2, Go.Joins.unfrozen_of_block h 3⟩
  · have := Go.Joins.cell_of_block h 0; simpa using this
  · have := Go.Joins.cell_of_block h 1; simpa using this
  · have := Go.Joins.cell_of_block h 2; simpa using this
  · have := Go.Joins.cell_of_block h 3; simpa using this

set_option maxHeartbeats 2000000 in
theorem parse_short (s : ByteArray) (w : World) (hs : s.size ≤ 100000) (hsh : w.ShapedOpen Tryz.prog) :
    Calls Tryz.prog 17 #[.string s] w fun e w' => ParRes s e w' ∧ Below w.heap.size w w' := by
  have hi : (s.size : Int) ≤ 100000 := by omega
  go_enter Tryz.func17, Tryz.ntmps17
  go_wp2
  go_loopw [0, 6] (fun t i wr => ∃ (n : Nat) (rest : ByteArray) (f : FstD) (last : Int) (fv av : Value), t = .string rest ∧ i = .int .i64 n ∧ PI s w n rest f last fv av wr) (fun _ i _ => s.size + 2 - (intOf i).toNat)
  case atStart =>
    refine ⟨1, s, fst0, -1, .slice none 0 0, .slice none 0 0, rfl, rfl, rfl, by omega, by omega, by simp [fst0], Or.inl rfl, fun _ => rfl, ?_, (Below.refl _ _).alloc (by simp) _⟩
    refine ⟨?_, World.ownsRow_nil _ _ _ _, by simp [Value.ownBlock], fun _ => rfl, Or.inl ⟨rfl, rfl, rfl, rfl⟩⟩
    have := heap_alloc_new (w.alloc (.cells #[.int .i64 0, .int .i64 0, .slice none 0 0, .slice none 0 0] 25)) (.cells #[.int .i64 0, .int .i64 0, .slice none 0 0, .slice none 0 0, .int .i64 (-1)] 91)
    simpa [RBlock, fst0] using this
  case round =>
    obtain ⟨n, rest, f, last, fv, av, rfl, rfl, hP⟩ := hrel
    have hn1 := hP.n1
    have hsize := hP.size
    have hrs : rest.size ≤ 100000 := by omega
    have hshr := shaped_below hsh hP.belw
    have hn1i : (1 : Int) ≤ (n : Int) := by omega
    have hn2i : (n : Int) ≤ 100001 := by omega
    by_cases hcont : n = 1 ∨ listOf rest ≠ []
    · have hgo : ((n : Int) ≤ 1 ∧ True) ∨ ((2 : Int) ≤ (n : Int) ∧ rest.toList.isEmpty = false) := by
        by_cases h1 : n = 1
        · exact Or.inl ⟨by omega, trivial⟩
        · refine Or.inr ⟨by omega, ?_⟩
          rw [ByteArray.toList_eq]
          rcases hcont with h | h
          · exact absurd h h1
          · cases hl : rest.data.toList with
            | nil => exact absurd hl h
            | cons a l => rfl
      have hcut := cut_any rest wr hshr hrs
      by_cases hix : Lib.indexByte (listOf rest) 10 = -1
      · rw [cut_miss 10 _ hix] at hcut
        have hrun : runL (splitOn 10 (listOf s)) 1 fst0 (-1) = (n, fst0) := by rw [hP.run]; exact runL_miss _ _ _ _ hix hcont
        have hpd : parseD (listOf s) = ⟨fst0, n, 1⟩ := by
          unfold parseD
          rw [if_neg (by rw [listOf_len]; omega), hrun, if_pos (by show n ≠ 0; omega)]
        have HPD : Hid (parseD (listOf s) = ⟨fst0, n, 1⟩) := hpd
        clear hpd hrun hix hcont
        have hbel := hP.belw
        rcases hgo with ⟨hle, _⟩ | ⟨hle, hne⟩
        · have hone : f.states = 0 := hP.one (by omega)
          have hblk := hP.rd.blk
          rw [hone] at hblk
          go_wp2_with (first | (go_at_call 34; refine hcut.mono ?_; rintro e w1 ⟨rfl, hbw⟩; obtain ⟨z0, z1, z2, z3, y0, y1, y2, y3⟩ := zfacts (heap_bel hbw hP.zblock)) | (go_at_call 35; refine (taker_head (w.heap.size + 1) f.start last fv av _ w1 (heap_bel hbw hblk)).mono ?_; rintro e w2 ⟨rfl, hw2⟩; obtain rfl := hw2))
          have hn : n = 1 := by omega
          subst hn
          refine bodyPost_ret (v := .tuple #[.agg #[.int .i64 0, .int .i64 0, .slice none 0 0, .slice none 0 0], .int .i64 1, .int .i64 1]) (by simp [results, Tryz.results17, go_sem, *]) rfl ⟨parRes_bad (by simpa using HPD.out), ((((bel_on hbel hbw).setCell (p := ⟨w.heap.size, 0, none⟩) (Nat.le_refl _) _).setCell (p := ⟨w.heap.size, 1, none⟩) (Nat.le_refl _) _).setCell (p := ⟨w.heap.size, 2, none⟩) (Nat.le_refl _) _).setCell (p := ⟨w.heap.size, 3, none⟩) (Nat.le_refl _) _⟩
        · have hone : f.states ≠ 0 := by
            rcases hP.on with h | h
            · omega
            · exact h
          have hblk := hP.rd.blk
          go_wp2_with (first | (go_at_call 34; refine hcut.mono ?_; rintro e w1 ⟨rfl, hbw⟩; obtain ⟨z0, z1, z2, z3, y0, y1, y2, y3⟩ := zfacts (heap_bel hbw hP.zblock)) | (go_at_call 35; refine (taker_on (w.heap.size + 1) f.states f.start last fv av _ w1 (heap_bel hbw hblk) hone).mono ?_; rintro e w2 ⟨rfl, hw2⟩; obtain rfl := hw2))
          all_goals exact bodyPost_ret (v := .tuple #[.agg #[.int .i64 0, .int .i64 0, .slice none 0 0, .slice none 0 0], .int .i64 n, .int .i64 1]) (by simp [results, Tryz.results17, go_sem, *]) rfl ⟨parRes_bad HPD.out, ((((bel_on hbel hbw).setCell (p := ⟨w.heap.size, 0, none⟩) (Nat.le_refl _) _).setCell (p := ⟨w.heap.size, 1, none⟩) (Nat.le_refl _) _).setCell (p := ⟨w.heap.size, 2, none⟩) (Nat.le_refl _) _).setCell (p := ⟨w.heap.size, 3, none⟩) (Nat.le_refl _) _⟩
      · obtain ⟨i, hi'⟩ : ∃ i : Nat, Lib.indexByte (listOf rest) 10 = i := ⟨(Lib.indexByte (listOf rest) 10).toNat, by have := Lib.indexByte_ge (listOf rest) 10; omega⟩
        have hlt := indexByte_lt _ _ _ hi'
        rw [cut_hit 10 _ i hi'] at hcut
        clear hix
        have hix := hi'
        clear hi'
        obtain ⟨line, hline'⟩ : ∃ line, line = strOf ((listOf rest).take i) := ⟨_, rfl⟩
        obtain ⟨rest', hrest''⟩ : ∃ rest', rest' = strOf ((listOf rest).drop (i + 1)) := ⟨_, rfl⟩
        simp only [] at hcut
        rw [← hline', ← hrest''] at hcut
        have hline : listOf line = (listOf rest).take i := by rw [hline', listOf_strOf]
        have hrest : (listOf rest).drop (i + 1) = listOf rest' := by rw [hrest'', listOf_strOf]
        have hrl := listOf_len rest
        have hls : line.size ≤ 100000 := by rw [← listOf_len, hline, List.length_take]; omega
        have hrs' : n + 1 + rest'.size ≤ s.size + 1 := by
          have : rest'.size = (listOf rest).length - (i + 1) := by rw [← listOf_len, ← hrest, List.length_drop]
          omega
        have hmany : f.arcs.length ≤ 1000000 := by have := hP.many; omega
        have hrbl : w.heap.size + 1 ≤ wr.heap.size := by have := heap_lt hP.rd.blk; omega
        have hbel := hP.belw
        have hblk := hP.rd.blk
        clear hline' hrest'' hcont
        rcases hgo with ⟨hle, _⟩ | ⟨hle, hne⟩
        · have hone : f.states = 0 := hP.one (by omega)
          rw [hone] at hblk
          cases hst : stepHead (listOf line) with
          | none =>
            have hstep : stepL f last ((listOf rest).take i) = none := by rw [← hline]; simp [stepL, hone, hst]
            have hpd : parseD (listOf s) = ⟨fst0, n, 1⟩ := by
              unfold parseD
              rw [if_neg (by rw [listOf_len]; omega), hP.run, runL_none _ i _ _ _ hix hstep, if_pos (by show n ≠ 0; omega)]
            have HPD : Hid (parseD (listOf s) = ⟨fst0, n, 1⟩) := hpd
            clear hpd hstep hix
            go_wp2_with (first | (go_at_call 34; refine hcut.mono ?_; rintro e w1 ⟨rfl, hbw⟩) | (go_at_call 35; refine (taker_head (w.heap.size + 1) f.start last fv av _ w1 (heap_bel hbw hblk)).mono ?_; rintro e w2 ⟨rfl, hw2⟩; obtain rfl := hw2) | (go_at_call 54; refine (takeHead_none (w.heap.size + 1) line w1 (shaped_below hshr hbw) hls hst).mono ?_; rintro e w3 ⟨rfl, hbt⟩; obtain ⟨z0, z1, z2, z3, y0, y1, y2, y3⟩ := zfacts (heap_bel hbt (heap_bel hbw hP.zblock))))
            have hn : n = 1 := by omega
            subst hn
            exact bodyPost_ret (v := .tuple #[.agg #[.int .i64 0, .int .i64 0, .slice none 0 0, .slice none 0 0], .int .i64 1, .int .i64 1]) (by simp [results, Tryz.results17, go_sem, *]) rfl ⟨parRes_bad (by simpa using HPD.out), ((((bel_on (bel_on hbel hbw) hbt).setCell (p := ⟨w.heap.size, 0, none⟩) (Nat.le_refl _) _).setCell (p := ⟨w.heap.size, 1, none⟩) (Nat.le_refl _) _).setCell (p := ⟨w.heap.size, 2, none⟩) (Nat.le_refl _) _).setCell (p := ⟨w.heap.size, 3, none⟩) (Nat.le_refl _) _⟩
          | some p =>
            have hstep : stepL f last ((listOf rest).take i) = some (⟨p.1, p.2, List.replicate p.1.toNat (-1), f.arcs⟩, last) := by rw [← hline]; simp [stepL, hone, hst]
            have hpos : p.1 ≠ 0 := by
              obtain ⟨_, _, _, _, _, _, _, _, _, hin⟩ := stepHead_out line p.1 p.2 hst
              have := inB_le hin; omega
            have HRUN : Hid (runL (splitOn 10 (listOf s)) 1 fst0 (-1) = runL (splitOn 10 (listOf rest')) (n + 1) ⟨p.1, p.2, List.replicate p.1.toNat (-1), f.arcs⟩ last) := by
              show runL (splitOn 10 (listOf s)) 1 fst0 (-1) = _
              rw [hP.run, runL_some _ i _ _ _ _ hix hstep, hrest]
            clear hstep hix
            go_wp2_with (first | (go_at_call 34; refine hcut.mono ?_; rintro e w1 ⟨rfl, hbw⟩) | (go_at_call 35; refine (taker_head (w.heap.size + 1) f.start last fv av _ w1 (heap_bel hbw hblk)).mono ?_; rintro e w2 ⟨rfl, hw2⟩; obtain rfl := hw2) | (go_at_call 54; refine ((hP.rd.below hbw).head (shaped_below hshr hbw) hls hone hst).mono ?_; rintro e w3 ⟨rfl, ⟨fv', av', hrd⟩, hbt⟩))
            go_roundw
            case rel => exact ⟨n + 1, rest', _, _, fv', av', rfl, by first | go_num | (simp; omega), ⟨HRUN.out, by omega, by omega, by have := hP.many; simpa using Nat.lt_succ_of_lt this, Or.inr (hpos), fun h => by omega, hrd, hP.bel.trans ((hbw.mono hrbl).trans hbt)⟩⟩
            case measure => simp [intOf]; omega
        · have hone : f.states ≠ 0 := by
            rcases hP.on with h | h
            · omega
            · exact h
          cases hpre : Lib.hasPrefix (listOf line) bFinal with
          | true =>
            cases hst : stepFinal f.states last (decide (0 < f.arcs.length)) (listOf line) with
            | none =>
              have hstep : stepL f last ((listOf rest).take i) = none := by rw [← hline]; simp [stepL, hone, hpre, hst]
              have hpd : parseD (listOf s) = ⟨fst0, n, 1⟩ := by
                unfold parseD
                rw [if_neg (by rw [listOf_len]; omega), hP.run, runL_none _ i _ _ _ hix hstep, if_pos (by show n ≠ 0; omega)]
              have HPD : Hid (parseD (listOf s) = ⟨fst0, n, 1⟩) := hpd
              clear hpd hstep hix
              go_wp2_with (first | (go_at_call 34; refine hcut.mono ?_; rintro e w1 ⟨rfl, hbw⟩) | (go_at_call 35; refine (taker_fin (w.heap.size + 1) f.states f.start last fv av line w1 (heap_bel hbw hblk) hone hpre).mono ?_; rintro e w2 ⟨rfl, hw2⟩; obtain rfl := hw2) | (go_at_call 56; refine ((hP.rd.below hbw).final_none (shaped_below hshr hbw) hls hone hst).mono ?_; rintro e w3 ⟨rfl, hbt⟩; obtain ⟨z0, z1, z2, z3, y0, y1, y2, y3⟩ := zfacts (heap_bel hbt (heap_bel hbw hP.zblock))))
              exact bodyPost_ret (v := .tuple #[.agg #[.int .i64 0, .int .i64 0, .slice none 0 0, .slice none 0 0], .int .i64 n, .int .i64 1]) (by simp [results, Tryz.results17, go_sem, *]) rfl ⟨parRes_bad HPD.out, ((((bel_on (bel_on hbel hbw) hbt).setCell (p := ⟨w.heap.size, 0, none⟩) (Nat.le_refl _) _).setCell (p := ⟨w.heap.size, 1, none⟩) (Nat.le_refl _) _).setCell (p := ⟨w.heap.size, 2, none⟩) (Nat.le_refl _) _).setCell (p := ⟨w.heap.size, 3, none⟩) (Nat.le_refl _) _⟩
            | some p =>
              have hstep : stepL f last ((listOf rest).take i) = some (⟨f.states, f.start, f.final.set p.1.toNat p.2, f.arcs⟩, p.1) := by rw [← hline]; simp [stepL, hone, hpre, hst]
              have HRUN : Hid (runL (splitOn 10 (listOf s)) 1 fst0 (-1) = runL (splitOn 10 (listOf rest')) (n + 1) ⟨f.states, f.start, f.final.set p.1.toNat p.2, f.arcs⟩ p.1) := by
                show runL (splitOn 10 (listOf s)) 1 fst0 (-1) = _
                rw [hP.run, runL_some _ i _ _ _ _ hix hstep, hrest]
              clear hstep hix
              go_wp2_with (first | (go_at_call 34; refine hcut.mono ?_; rintro e w1 ⟨rfl, hbw⟩) | (go_at_call 35; refine (taker_fin (w.heap.size + 1) f.states f.start last fv av line w1 (heap_bel hbw hblk) hone hpre).mono ?_; rintro e w2 ⟨rfl, hw2⟩; obtain rfl := hw2) | (go_at_call 56; refine ((hP.rd.below hbw).final_some (shaped_below hshr hbw) hls hone hst).mono ?_; rintro e w3 ⟨rfl, ⟨fv', av', hrd⟩, hbt⟩))
              go_roundw
              case rel => exact ⟨n + 1, rest', _, _, fv', av', rfl, by first | go_num | (simp; omega), ⟨HRUN.out, by omega, by omega, by have := hP.many; simpa using Nat.lt_succ_of_lt this, Or.inr (hone), fun h => by omega, hrd, hP.bel.trans ((hbw.mono hrbl).trans hbt)⟩⟩
              case measure => simp [intOf]; omega
          | false =>
            cases hst : stepArc (listOf line) with
            | none =>
              have hstep : stepL f last ((listOf rest).take i) = none := by rw [← hline]; simp [stepL, hone, hpre, hst]
              have hpd : parseD (listOf s) = ⟨fst0, n, 1⟩ := by
                unfold parseD
                rw [if_neg (by rw [listOf_len]; omega), hP.run, runL_none _ i _ _ _ hix hstep, if_pos (by show n ≠ 0; omega)]
              have HPD : Hid (parseD (listOf s) = ⟨fst0, n, 1⟩) := hpd
              clear hpd hstep hix
              go_wp2_with (first | (go_at_call 34; refine hcut.mono ?_; rintro e w1 ⟨rfl, hbw⟩) | (go_at_call 35; refine (taker_arc (w.heap.size + 1) f.states f.start last fv av line w1 (heap_bel hbw hblk) hone hpre).mono ?_; rintro e w2 ⟨rfl, hw2⟩; obtain rfl := hw2) | (go_at_call 57; refine (takeArc_none (w.heap.size + 1) line w1 (shaped_below hshr hbw) hls hst).mono ?_; rintro e w3 ⟨rfl, hbt⟩; obtain ⟨z0, z1, z2, z3, y0, y1, y2, y3⟩ := zfacts (heap_bel hbt (heap_bel hbw hP.zblock))))
              exact bodyPost_ret (v := .tuple #[.agg #[.int .i64 0, .int .i64 0, .slice none 0 0, .slice none 0 0], .int .i64 n, .int .i64 1]) (by simp [results, Tryz.results17, go_sem, *]) rfl ⟨parRes_bad HPD.out, ((((bel_on (bel_on hbel hbw) hbt).setCell (p := ⟨w.heap.size, 0, none⟩) (Nat.le_refl _) _).setCell (p := ⟨w.heap.size, 1, none⟩) (Nat.le_refl _) _).setCell (p := ⟨w.heap.size, 2, none⟩) (Nat.le_refl _) _).setCell (p := ⟨w.heap.size, 3, none⟩) (Nat.le_refl _) _⟩
            | some p =>
              have hstep : stepL f last ((listOf rest).take i) = some (⟨f.states, f.start, f.final, f.arcs ++ [p]⟩, last) := by rw [← hline]; simp [stepL, hone, hpre, hst]
              have HRUN : Hid (runL (splitOn 10 (listOf s)) 1 fst0 (-1) = runL (splitOn 10 (listOf rest')) (n + 1) ⟨f.states, f.start, f.final, f.arcs ++ [p]⟩ last) := by
                show runL (splitOn 10 (listOf s)) 1 fst0 (-1) = _
                rw [hP.run, runL_some _ i _ _ _ _ hix hstep, hrest]
              clear hstep hix
              go_wp2_with (first | (go_at_call 34; refine hcut.mono ?_; rintro e w1 ⟨rfl, hbw⟩) | (go_at_call 35; refine (taker_arc (w.heap.size + 1) f.states f.start last fv av line w1 (heap_bel hbw hblk) hone hpre).mono ?_; rintro e w2 ⟨rfl, hw2⟩; obtain rfl := hw2) | (go_at_call 57; refine ((hP.rd.below hbw).arc_some (shaped_below hshr hbw) hls hone hmany hst).mono ?_; rintro e w3 ⟨rfl, ⟨fv', av', hrd⟩, hbt⟩))
              go_roundw
              case rel => exact ⟨n + 1, rest', _, _, fv', av', rfl, by first | go_num | (simp; omega), ⟨HRUN.out, by omega, by omega, by have := hP.many; simp; omega, Or.inr (hone), fun h => by omega, hrd, hP.bel.trans ((hbw.mono hrbl).trans hbt)⟩⟩
              case measure => simp [intOf]; omega
    · obtain ⟨fa, fn, fc, hfv, _, _⟩ := hP.rd.final.lenOf
      obtain ⟨aa, ac, hav⟩ := hP.rd.avform
      subst hfv hav
      have hn : n ≠ 1 := fun h => hcont (Or.inl h)
      have hl : listOf rest = [] := by
        by_cases h : listOf rest = []
        · exact h
        · exact absurd (Or.inr h) hcont
      have hre : rest = ⟨#[]⟩ := by
        have h : strOf (listOf rest) = strOf [] := by rw [hl]
        have e : strOf (listOf rest) = rest := by simp [strOf, listOf]
        rw [e] at h; exact h
      have hrun : runL (splitOn 10 (listOf s)) 1 fst0 (-1) = (0, f) := by rw [hP.run, hl]; exact runL_end n f last hn
      have hbel := hP.belw
      have hchk := check_any f _ _ wr hP.rd.final (ownsRow_arcs hP.rd.arcs)
      obtain ⟨r0, r1, r2, r3⟩ := rfacts hP.rd.blk
      have hge : (2 : Int) ≤ (n : Int) := by omega
      subst hre
      clear hcont hl
      cases hc : (checkD f == 0)
      · have hc' : checkD f ≠ 0 := by simpa using hc
        have hpd : parseD (listOf s) = ⟨fst0, 0, checkD f⟩ := by
          unfold parseD
          rw [if_neg (by rw [listOf_len]; omega), hrun, if_neg (by simp), if_pos hc']
        have HPD : Hid (parseD (listOf s) = ⟨fst0, 0, checkD f⟩) := hpd
        clear hpd hrun hc'
        go_wp2_with (go_at_call 18; refine hchk.mono ?_; rintro e w1 ⟨rfl, hbw⟩; obtain ⟨z0, z1, z2, z3, y0, y1, y2, y3⟩ := zfacts (heap_bel hbw hP.zblock))
        exact bodyPost_ret (v := .tuple #[.agg #[.int .i64 0, .int .i64 0, .slice none 0 0, .slice none 0 0], .int .i64 0, .int .i64 (checkD f)]) (by simp [results, Tryz.results17, go_sem, *]) rfl ⟨parRes_bad HPD.out, ((((bel_on hbel hbw).setCell (p := ⟨w.heap.size, 0, none⟩) (Nat.le_refl _) _).setCell (p := ⟨w.heap.size, 1, none⟩) (Nat.le_refl _) _).setCell (p := ⟨w.heap.size, 2, none⟩) (Nat.le_refl _) _).setCell (p := ⟨w.heap.size, 3, none⟩) (Nat.le_refl _) _⟩
      · have hc' : checkD f = 0 := by simpa using hc
        have hpd : parseD (listOf s) = ⟨f, 0, 0⟩ := by
          unfold parseD
          rw [if_neg (by rw [listOf_len]; omega), hrun, if_neg (by simp), if_neg (by simpa using hc')]
        have HPD : Hid (parseD (listOf s) = ⟨f, 0, 0⟩) := hpd
        rw [hc'] at hchk
        clear hpd hrun hc hc'
        go_wp2_with (go_at_call 18; refine hchk.mono ?_; rintro e w1 ⟨rfl, hbw⟩; obtain ⟨z0, z1, z2, z3, y0, y1, y2, y3⟩ := zfacts (heap_bel hbw hP.zblock); have hrd := hP.rd.below hbw; obtain ⟨t0, t1, t2, t3⟩ := rfacts hrd.blk)
        have hrd4 := (((hrd.set (Nat.lt_succ_self _) 0 (.int .i64 f.states)).set (Nat.lt_succ_self _) 1 (.int .i64 f.start)).set (Nat.lt_succ_self _) 2 (.slice fa fn fc)).set (Nat.lt_succ_self _) 3 (.slice aa f.arcs.length ac)
        refine bodyPost_ret (v := .tuple #[.agg #[.int .i64 f.states, .int .i64 f.start, .slice fa fn fc, .slice aa f.arcs.length ac], .int .i64 0, .int .i64 0]) (by simp [results, Tryz.results17, go_sem, *]) rfl ⟨?_, ((((bel_on hbel hbw).setCell (p := ⟨w.heap.size, 0, none⟩) (Nat.le_refl _) _).setCell (p := ⟨w.heap.size, 1, none⟩) (Nat.le_refl _) _).setCell (p := ⟨w.heap.size, 2, none⟩) (Nat.le_refl _) _).setCell (p := ⟨w.heap.size, 3, none⟩) (Nat.le_refl _) _⟩
        unfold ParRes
        rw [HPD.out]
        exact ⟨_, _, rfl, hrd4.final, ownsRow_arcs hrd4.arcs⟩

theorem parse_any (s : ByteArray) (w : World) (hm : s.size ≤ maxLen) (hsh : w.ShapedOpen Tryz.prog) :
    Calls Tryz.prog 17 #[.string s] w fun e w' => ParRes s e w' ∧ Below w.heap.size w w' := by
  by_cases h : 100000 < s.size
  · exact parse_long s w h hm
  · exact parse_short s w (by omega) hsh

end Go.Proofs.YteehgcbjmdideaaGreatDoor
