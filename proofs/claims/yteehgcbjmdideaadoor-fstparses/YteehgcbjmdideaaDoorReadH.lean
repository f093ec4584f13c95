/- 'ReadFst' of the document's answer: what it calls, and what stands at the head of each line. -/
import Derived.Test.YteehgcbjmdideaaDoorReadMath
namespace Go.Proofs.YteehgcbjmdideaaDoor
open Go.RowKit
attribute [local go_sem ↓] Go.wp_at_zero Go.wp_at_succ

theorem cut10 (s : ByteArray) (w : World) (hs : s.size ≤ 1000000) :
    Calls Tryd.prog 34 #[.string s, .int .u8 10] w fun e w' =>
      (∃ b cap ss, e = .returned (.slice (some ⟨b, 0, none⟩) ss.length cap) ∧ StrsAt w' b 0 ss.length ss ∧ w.heap.size ≤ b ∧ fieldsOf ss = splitOn 10 (listOf s) ∧ ss.length ≤ cap ∧ cap ≤ maxLen) ∧ Below w.heap.size w w' := cutRef_any s 10 w hs
theorem cut32 (s : ByteArray) (w : World) (hs : s.size ≤ 1000000) :
    Calls Tryd.prog 34 #[.string s, .int .u8 32] w fun e w' =>
      (∃ b cap ss, e = .returned (.slice (some ⟨b, 0, none⟩) ss.length cap) ∧ StrsAt w' b 0 ss.length ss ∧ w.heap.size ≤ b ∧ fieldsOf ss = splitOn 32 (listOf s) ∧ ss.length ≤ cap ∧ cap ≤ maxLen) ∧ Below w.heap.size w w' := cutRef_any s 32 w hs

theorem undig_some (b off n cap : Nat) (ss : List ByteArray) (ns : List Int) (m : Int) (w : World) (hx : StrsAt w b off n ss) (hn : n ≤ 1000000) (h : numsB (fieldsOf ss) = some ns) (h0 : 0 < n) (hm : (n : Int) = m) :
    Calls Tryd.prog 35 #[.slice (some ⟨b, off, none⟩) n cap, .int .i64 m] w fun e w' =>
      ∃ g o c, e = .returned (.tuple #[.slice (some ⟨g, o, none⟩) n c, .bool true]) ∧ IntsAt w' g o n ns ∧ Below w.heap.size w w' ∧ w.heap.size ≤ g := by
  refine (undigits_any b off n cap ss m w hx hn).mono ?_
  rintro e w' ⟨⟨v, q, rfl, hres⟩, hb⟩
  unfold UnRes at hres
  rw [if_pos (by simp [fieldsOf, hx.len, hm])] at hres
  unfold NumsRes at hres
  rw [h] at hres
  obtain ⟨rfl, hi, hg⟩ := hres
  have hl : ns.length = n := by rw [numsB_length _ _ h]; simpa [fieldsOf] using hx.len
  rcases hi with ⟨_, _, rfl, rfl⟩ | ⟨g, o, m, c, rfl, hi, _⟩
  · simp at hl; omega
  · have : m = n := by rw [← hi.len, hl]
    subst this
    exact ⟨g, o, c, rfl, hi, hb, hg g rfl⟩

theorem undig_none (b off n cap : Nat) (ss : List ByteArray) (m : Int) (w : World) (hx : StrsAt w b off n ss) (hn : n ≤ 1000000) (h : numsB (fieldsOf ss) = none ∨ (n : Int) ≠ m) :
    Calls Tryd.prog 35 #[.slice (some ⟨b, off, none⟩) n cap, .int .i64 m] w fun e w' =>
      e = .returned (.tuple #[.slice none 0 0, .bool false]) ∧ Below w.heap.size w w' := by
  refine (undigits_any b off n cap ss m w hx hn).mono ?_
  rintro e w' ⟨⟨v, q, rfl, hres⟩, hb⟩
  unfold UnRes at hres
  split at hres
  · rename_i hm
    rcases h with h | h
    · unfold NumsRes at hres
      rw [h] at hres
      obtain ⟨rfl, rfl⟩ := hres
      exact ⟨rfl, hb⟩
    · exact absurd (by simpa [fieldsOf, hx.len] using hm) h
  · obtain ⟨rfl, rfl⟩ := hres
    exact ⟨rfl, hb⟩

set_option maxHeartbeats 1000000 in
theorem undig_zero (ad : Option Addr) (cap : Nat) (w : World) :
    Calls Tryd.prog 35 #[.slice ad 0 cap, .int .i64 2] w fun e w' => e = .returned (.tuple #[.slice none 0 0, .bool false]) ∧ w = w' := by
  go_enter Tryd.func35, Tryd.ntmps35
  go_wp2
  go_ret2
  exact ⟨rfl, rfl⟩

/-- the block of what is read -/
def FBlock (w : World) (rb : Nat) (st sta : Int) (fv av : Value) : Prop := w.heap[rb]? = some (.cells #[.int .i64 st, .int .i64 sta, fv, av] 25 (0, 0))

/-- what is read so far: its block and its two rows -/
structure RF (w : World) (rb : Nat) (fv av : Value) (f : FstD) : Prop where
  blk : FBlock w rb f.states f.start fv av
  fin : w.ownsRow (rb + 1) 3 1 fv f.final.length (intsV f.final)
  arcs : w.ownsRow (rb + 1) 55 5 av f.arcs.length (arcsV f.arcs)
  apart : ∀ g, fv.ownBlock = some g → av.ownBlock ≠ some g

theorem RF.below {w w' : World} {rb : Nat} {fv av : Value} {f : FstD} (h : RF w rb fv av f) (hb : Below w.heap.size w w') : RF w' rb fv av f :=
  ⟨heap_bel hb h.blk, owns_bel h.fin hb, owns_bel h.arcs hb, h.apart⟩

theorem RF.final {w : World} {rb : Nat} {fv av : Value} {f : FstD} (h : RF w rb fv av f) : ISlice w fv f.final := ownsRow_ints h.fin
theorem RF.arcsA {w : World} {rb : Nat} {fv av : Value} {f : FstD} (h : RF w rb fv av f) : ASlice w av f.arcs := ownsRow_arcs h.arcs

theorem RF.avform {w : World} {rb : Nat} {fv av : Value} {f : FstD} (h : RF w rb fv av f) : ∃ aa ac, av = .slice aa f.arcs.length ac := by
  obtain ⟨_, h'⟩ := h.arcs
  rcases h' with ⟨rfl, h'⟩ | ⟨g, cap, cur, rfl, _⟩
  · exact ⟨none, 0, by rw [h']⟩
  · exact ⟨_, _, rfl⟩

theorem RF.fvform {w : World} {rb : Nat} {fv av : Value} {f : FstD} (h : RF w rb fv av f) (h0 : 0 < f.final.length) : ∃ G cap cur, fv = .slice (some ⟨G, 0, none⟩) f.final.length cap ∧ rb < G ∧ w.heap[G]? = some (.cells cur 3 (0, 0)) ∧ f.final.length ≤ cap ∧ cap ≤ maxLen ∧ cur.size = cap ∧ cur.toList.take f.final.length = intsV f.final := by
  obtain ⟨_, h⟩ := h.fin
  rcases h with ⟨rfl, h⟩ | ⟨g, cap, cur, rfl, h1, h2, h3, h4, h5, h6⟩
  · omega
  · exact ⟨g, cap, cur, rfl, h1, h2, h3, h4, by simpa using h5, by simpa using h6⟩

/-- an element of an own row of numbers is set -/
theorem owns_set {w : World} {B e G cap n X : Nat} {xs : List Int} (y : Int) (h : w.ownsRow B e 1 (.slice (some ⟨G, 0, none⟩) n cap) n (intsV xs)) : (w.setCell ⟨G, X, none⟩ (.int .i64 y)).ownsRow B e 1 (.slice (some ⟨G, 0, none⟩) n cap) n (intsV (xs.set X y)) := by
  obtain ⟨hl, h⟩ := h
  refine ⟨by simpa [intsV] using hl, ?_⟩
  rcases h with ⟨h, _⟩ | ⟨g, cap', cur, hv, h1, h2, h3, h4, h5, h6⟩
  · cases h
  · cases hv
    refine Or.inr ⟨G, cap, cur.setIfInBounds X (.int .i64 y), rfl, h1, Go.Joins.block_setCell h2 _, h3, h4, by simpa using h5, ?_⟩
    rw [Array.toList_setIfInBounds, List.take_set, h6]
    simp [intsV, List.map_set]

/-- what stands at the head of each line -/
structure RI (s : ByteArray) (ss : List ByteArray) (W0 : World) (k : Nat) (f : FstD) (last : Int) (fv av : Value) (wr : World) : Prop where
  run : runL (splitOn 10 (listOf s)) 1 fst0 (-1) = runL ((fieldsOf ss).drop k) (k + 1) f last
  lt : k < ss.length
  many : f.arcs.length ≤ k
  one : k = 0 → f = fst0 ∧ fv = .slice none 0 0 ∧ av = .slice none 0 0
  on : k ≠ 0 → f.states ≠ 0 ∧ (f.final.length : Int) = f.states ∧ f.states ≤ 200
  rf : RF wr W0.heap.size fv av f
  bel : Below W0.heap.size W0 wr

theorem RI.line {s : ByteArray} {ss : List ByteArray} {W0 wr : World} {k : Nat} {f : FstD} {last : Int} {fv av : Value} (h : RI s ss W0 k f last fv av wr) : (fieldsOf ss).drop k = listOf (ss.getD k ByteArray.empty) :: (fieldsOf ss).drop (k + 1) := by
  have hl := h.lt
  rw [List.drop_eq_getElem_cons (by simpa [fieldsOf] using hl)]
  simp [fieldsOf, List.getD, hl]

/-- a line that is none of its form, or the last one -/
theorem RI.bad {s : ByteArray} {ss : List ByteArray} {W0 wr : World} {k : Nat} {f : FstD} {last : Int} {fv av : Value} (h : RI s ss W0 k f last fv av wr) (hs : s.size ≤ 100000)
    (hb : (k + 1 = ss.length ∧ ¬ (k ≠ 0 ∧ listOf (ss.getD k ByteArray.empty) = [])) ∨ (k + 1 < ss.length ∧ stepL f last (listOf (ss.getD k ByteArray.empty)) = none)) : parseD (listOf s) = ⟨fst0, (k : Int) + 1, 1⟩ := by
  have hrun : runL (splitOn 10 (listOf s)) 1 fst0 (-1) = (k + 1, fst0) := by
    rw [h.run, h.line]
    rcases hb with ⟨h1, h2⟩ | ⟨h1, h2⟩
    · rw [List.drop_of_length_le (by simp [fieldsOf]; omega), runL, if_neg]
      rintro ⟨h3, h4⟩
      exact h2 ⟨by omega, h4⟩
    · rw [List.drop_eq_getElem_cons (by simpa [fieldsOf] using h1), runL, h2]
  unfold parseD
  rw [if_neg (by rw [listOf_len]; omega), hrun, if_pos (by simp)]
  simp

theorem RI.next {s : ByteArray} {ss : List ByteArray} {W0 wr : World} {k : Nat} {f : FstD} {last : Int} {fv av : Value} (h : RI s ss W0 k f last fv av wr) (h1 : k + 1 < ss.length) (p : FstD × Int) (hp : stepL f last (listOf (ss.getD k ByteArray.empty)) = some p) : runL (splitOn 10 (listOf s)) 1 fst0 (-1) = runL ((fieldsOf ss).drop (k + 1)) (k + 1 + 1) p.1 p.2 := by
  rw [h.run, h.line, List.drop_eq_getElem_cons (by simpa [fieldsOf] using h1), runL, hp]

theorem RI.done {s : ByteArray} {ss : List ByteArray} {W0 wr : World} {k : Nat} {f : FstD} {last : Int} {fv av : Value} (h : RI s ss W0 k f last fv av wr) (h1 : k + 1 = ss.length) (h2 : k ≠ 0) (h3 : listOf (ss.getD k ByteArray.empty) = []) : runL (splitOn 10 (listOf s)) 1 fst0 (-1) = (0, f) := by
  rw [h.run, h.line, List.drop_of_length_le (by simp [fieldsOf]; omega), runL, if_pos ⟨by omega, h3⟩]

theorem listOf_inj {a b : ByteArray} (h : listOf a = listOf b) : a = b := by
  cases a; cases b
  simpa [listOf] using h
theorem fieldsOf_inj {l m : List ByteArray} (h : fieldsOf l = fieldsOf m) : l = m := by
  induction l generalizing m with
  | nil => cases m with
    | nil => rfl
    | cons a m => simp [fieldsOf] at h
  | cons x l ih => cases m with
    | nil => simp [fieldsOf] at h
    | cons a m =>
      simp only [fieldsOf, List.map_cons, List.cons.injEq] at h
      rw [listOf_inj h.1, ih h.2]

theorem cutWords (s : ByteArray) (w : World) (hs : s.size ≤ 100000) :
    Calls Tryd.prog 34 #[.string s, .int .u8 32] w fun e w' =>
      ∃ b cap, e = .returned (.slice (some ⟨b, 0, none⟩) (wordsB s).length cap) ∧ StrsAt w' b 0 (wordsB s).length (wordsB s) ∧ w.heap.size ≤ b ∧ (wordsB s).length ≤ cap ∧ cap ≤ maxLen ∧ Below w.heap.size w w' := by
  refine (cut32 s w (by omega)).mono ?_
  rintro e w' ⟨⟨b, cap, ss, rfl, h1, h2, h3, h4, h5⟩, h6⟩
  have : ss = wordsB s := fieldsOf_inj (h3.trans (wordsB_eq s).symm)
  subst this
  exact ⟨b, cap, rfl, h1, h2, h4, h5, h6⟩

theorem wordsB_cons (s : ByteArray) : ∃ a l, wordsB s = a :: l := by
  cases h : wordsB s with
  | nil =>
    have := wordsB_eq s
    rw [h] at this
    exact absurd this.symm (splitOn_ne _ _)
  | cons a l => exact ⟨a, l, rfl⟩

theorem StrsAt.tail {w : World} {b n : Nat} {a : ByteArray} {l : List ByteArray} (h : StrsAt w b 0 (n + 1) (a :: l)) : StrsAt w b 1 n l := by
  refine ⟨by simpa using h.len, fun i hi => ?_, fun x hx => h.size x (by simp [hx])⟩
  have := h.cell (i + 1) (by omega)
  rw [show (1 + i) = 0 + (i + 1) by omega, this]
  simp

theorem StrsAt.head {w : World} {b n : Nat} {a : ByteArray} {l : List ByteArray} (h : StrsAt w b 0 (n + 1) (a :: l)) : w.cell? ⟨b, 0, none⟩ = some (.string a) := by
  have := h.cell 0 (by omega)
  simpa using this

theorem str4_0 {w : World} {b : Nat} {p q r t : ByteArray} (h : StrsAt w b 0 4 [p, q, r, t]) : w.cell? ⟨b, 0, none⟩ = some (.string p) := by
  have := h.cell 0 (by omega); simpa using this
theorem str4_1 {w : World} {b : Nat} {p q r t : ByteArray} (h : StrsAt w b 0 4 [p, q, r, t]) : w.cell? ⟨b, 1, none⟩ = some (.string q) := by
  have := h.cell 1 (by omega); simpa using this
theorem str4_2 {w : World} {b : Nat} {p q r t : ByteArray} (h : StrsAt w b 0 4 [p, q, r, t]) : w.cell? ⟨b, 2, none⟩ = some (.string r) := by
  have := h.cell 2 (by omega); simpa using this
theorem str4_3 {w : World} {b : Nat} {p q r t : ByteArray} (h : StrsAt w b 0 4 [p, q, r, t]) : w.cell? ⟨b, 3, none⟩ = some (.string t) := by
  have := h.cell 3 (by omega); simpa using this

theorem two_new (wx : World) (q t : ByteArray) (N : Nat) (hN : wx.heap.size = N) (hq : q.size ≤ 100000) (ht : t.size ≤ 100000) : StrsAt (wx.alloc (.cells #[.string q, .string t] 9)) N 0 2 [q, t] := by
  refine ⟨rfl, fun i hi => ?_, fun z hz => ?_⟩
  · match i, hi with
    | 0, _ => exact new_cell _ _ _ _ _ _ hN rfl
    | 1, _ => exact new_cell _ _ _ _ _ _ hN rfl
  · simp at hz
    unfold maxLen
    rcases hz with rfl | rfl <;> omega

theorem ZBlock.below {w w' : World} {R : Nat} (h : ZBlock w R) (hb : Below w.heap.size w w') : ZBlock w' R := heap_bel hb h
theorem FBlock.below {w w' : World} {R : Nat} {st sta : Int} {fv av : Value} (h : FBlock w R st sta fv av) (hb : Below w.heap.size w w') : FBlock w' R st sta fv av := heap_bel hb h

theorem ffacts {w : World} {R : Nat} {st sta : Int} {fv av : Value} (h : FBlock w R st sta fv av) : w.cell? ⟨R, 0, none⟩ = some (.int .i64 st) ∧ w.cell? ⟨R, 1, none⟩ = some (.int .i64 sta) ∧ w.cell? ⟨R, 2, none⟩ = some fv ∧ w.cell? ⟨R, 3, none⟩ = some av ∧ w.frozen? ⟨R, 0, none⟩ = false ∧ w.frozen? ⟨R, 1, none⟩ = false ∧ w.frozen? ⟨R, 2, none⟩ = false ∧ w.frozen? ⟨R, 3, none⟩ = false := by
  refine ⟨?_, ?_, ?_, ?_, Go.Joins.unfrozen_of_block h 0, Go.Joins.unfrozen_of_block h 1, Go.Joins.unfrozen_of_block h 2, Go.Joins.unfrozen_of_block h 3⟩
  · have := Go.Joins.cell_of_block h 0; simpa using this
  · have := Go.Joins.cell_of_block h 1; simpa using this
  · have := Go.Joins.cell_of_block h 2; simpa using this
  · have := Go.Joins.cell_of_block h 3; simpa using this

theorem bel_four {B R : Nat} {w w' : World} (h : Below B w w') (hB : B ≤ R) (a b c d : Value) : Below B w ((((w'.setCell ⟨R, 0, none⟩ a).setCell ⟨R, 1, none⟩ b).setCell ⟨R, 2, none⟩ c).setCell ⟨R, 3, none⟩ d) :=
  (((h.setCell (p := ⟨R, 0, none⟩) hB _).setCell (p := ⟨R, 1, none⟩) hB _).setCell (p := ⟨R, 2, none⟩) hB _).setCell (p := ⟨R, 3, none⟩) hB _

theorem RF.set {w : World} {rb R : Nat} {fv av : Value} {f : FstD} (h : RF w rb fv av f) (hR : R < rb) (i : Nat) (v : Value) : RF (w.setCell ⟨R, i, none⟩ v) rb fv av f := by
  refine ⟨?_, ownsRow_other h.fin ?_, ownsRow_other h.arcs ?_, h.apart⟩
  · exact (Below.heap_setCell w ⟨R, i, none⟩ v rb (by simp; omega)).trans h.blk
  · intro e; have := ownsRow_base h.fin R e; omega
  · intro e; have := ownsRow_base h.arcs R e; omega

theorem step_words (f : FstD) (last : Int) (line a : ByteArray) (l : List ByteArray) (h0 : f.states ≠ 0) (hw : wordsB line = a :: l) : stepL f last (listOf line) = stepW f last (listOf a :: fieldsOf l) := by
  rw [stepW_eq f last _ h0, ← wordsB_eq, hw]; rfl

theorem step_fin_none (f : FstD) (last : Int) (line a : ByteArray) (l : List ByteArray) (h0 : f.states ≠ 0) (hw : wordsB line = a :: l) (ha : listOf a = bFinal) (h : ∀ x y, numsB (fieldsOf l) ≠ some [x, y]) : stepL f last (listOf line) = none := by
  rw [step_words f last line a l h0 hw]
  unfold stepW
  rw [if_pos (show (listOf a :: fieldsOf l).headD [] = bFinal from ha), List.tail_cons]
  cases hn : numsB (fieldsOf l) with
  | none => rfl
  | some ns => rcases ns with _ | ⟨x, _ | ⟨y, _ | ⟨z, r⟩⟩⟩ <;> first | rfl | exact absurd hn (h x y)

theorem step_fin_bad (f : FstD) (last x y : Int) (line a : ByteArray) (l : List ByteArray) (h0 : f.states ≠ 0) (hw : wordsB line = a :: l) (ha : listOf a = bFinal) (hn : numsB (fieldsOf l) = some [x, y]) (h : ¬ (f.arcs = [] ∧ last < x ∧ x < f.states)) : stepL f last (listOf line) = none := by
  rw [step_words f last line a l h0 hw]
  unfold stepW
  rw [if_pos (show (listOf a :: fieldsOf l).headD [] = bFinal from ha), List.tail_cons, hn]
  simp only []
  rw [if_neg h]

theorem step_fin_ok (f : FstD) (last x y : Int) (line a : ByteArray) (l : List ByteArray) (h0 : f.states ≠ 0) (hw : wordsB line = a :: l) (ha : listOf a = bFinal) (hn : numsB (fieldsOf l) = some [x, y]) (h : f.arcs = [] ∧ last < x ∧ x < f.states) : stepL f last (listOf line) = some (⟨f.states, f.start, f.final.set x.toNat y, f.arcs⟩, x) := by
  rw [step_words f last line a l h0 hw]
  unfold stepW
  rw [if_pos (show (listOf a :: fieldsOf l).headD [] = bFinal from ha), List.tail_cons, hn]
  simp only []
  rw [if_pos h]

theorem step_arc_none (f : FstD) (last : Int) (line a : ByteArray) (l : List ByteArray) (h0 : f.states ≠ 0) (hw : wordsB line = a :: l) (ha : listOf a ≠ bFinal) (h : ∀ p q r t u, numsB (fieldsOf (a :: l)) ≠ some [p, q, r, t, u]) : stepL f last (listOf line) = none := by
  rw [step_words f last line a l h0 hw]
  unfold stepW
  rw [if_neg (show ¬ (listOf a :: fieldsOf l).headD [] = bFinal from ha)]
  cases hn : numsB (listOf a :: fieldsOf l) with
  | none => rfl
  | some ns => rcases ns with _ | ⟨p, _ | ⟨q, _ | ⟨r, _ | ⟨t, _ | ⟨u, _ | ⟨z, r'⟩⟩⟩⟩⟩⟩ <;> first | rfl | exact absurd hn (h p q r t u)

theorem step_arc_ok (f : FstD) (last : Int) (line a : ByteArray) (l : List ByteArray) (c : ArcD) (h0 : f.states ≠ 0) (hw : wordsB line = a :: l) (ha : listOf a ≠ bFinal) (hn : numsB (fieldsOf (a :: l)) = some [c.src, c.inp, c.out, c.dst, c.wt]) : stepL f last (listOf line) = some (⟨f.states, f.start, f.final, f.arcs ++ [c]⟩, last) := by
  rw [step_words f last line a l h0 hw]
  unfold stepW
  rw [if_neg (show ¬ (listOf a :: fieldsOf l).headD [] = bFinal from ha), show numsB (listOf a :: fieldsOf l) = _ from hn]

theorem nums_two (l : List ByteArray) (h : ∀ x y, numsB (fieldsOf l) ≠ some [x, y]) : numsB (fieldsOf l) = none ∨ (l.length : Int) ≠ 2 := by
  cases hn : numsB (fieldsOf l) with
  | none => exact Or.inl rfl
  | some ns =>
    right
    intro e
    have hl := numsB_length _ _ hn
    simp only [fieldsOf, List.length_map] at hl
    match ns, hl with
    | [], hl => simp at hl; omega
    | [_], hl => simp at hl; omega
    | [x, y], _ => exact h x y hn
    | _ :: _ :: _ :: _, hl => simp at hl; omega

theorem nums_five (l : List ByteArray) (h : ∀ p q r t u, numsB (fieldsOf l) ≠ some [p, q, r, t, u]) : numsB (fieldsOf l) = none ∨ (l.length : Int) ≠ 5 := by
  cases hn : numsB (fieldsOf l) with
  | none => exact Or.inl rfl
  | some ns =>
    right
    intro e
    have hl := numsB_length _ _ hn
    simp only [fieldsOf, List.length_map] at hl
    match ns, hl with
    | [], hl => simp at hl; omega
    | [_], hl => simp at hl; omega
    | [_, _], hl => simp at hl; omega
    | [_, _, _], hl => simp at hl; omega
    | [_, _, _, _], hl => simp at hl; omega
    | [p, q, r, t, u], _ => exact h p q r t u hn
    | _ :: _ :: _ :: _ :: _ :: _ :: _, hl => simp at hl; omega

theorem nums_nonneg (l : List (List UInt8)) (ns : List Int) (h : numsB l = some ns) : ∀ x ∈ ns, 0 ≤ x := by
  unfold numsB at h
  induction l generalizing ns with
  | nil => simp at h; subst h; simp
  | cons y l ih =>
    rw [List.mapM_cons] at h
    cases hy : numB y with
    | none => simp [hy] at h
    | some n =>
      cases hl : l.mapM numB with
      | none => simp [hy, hl] at h
      | some ms =>
        simp [hy, hl] at h
        subst h
        intro x hx
        rcases List.mem_cons.1 hx with rfl | hx
        · exact (numB_back y _ hy).2.1
        · exact ih ms hl x hx

theorem owns_grown {w w' : World} {B e size n : Nat} {v : Value} {xs : List Value} {row : Option Nat} (h : w.ownsRow B e size v n xs) (hg : w.grownBy w' row) (hne : ∀ g, v.ownBlock = some g → some g ≠ row) : w'.ownsRow B e size v n xs := by
  obtain ⟨h0, h⟩ := h
  refine ⟨h0, ?_⟩
  rcases h with h | ⟨g, cap, cur, rfl, hB, hh, h1⟩
  · exact Or.inl h
  · refine Or.inr ⟨g, cap, cur, rfl, hB, ?_, h1⟩
    rw [hg.block g (heap_lt hh) (hne g rfl)]; exact hh

theorem owns_mono {w : World} {B B' e size n : Nat} {v : Value} {xs : List Value} (h : w.ownsRow B e size v n xs) (hB : B' ≤ B) : w.ownsRow B' e size v n xs := by
  obtain ⟨h0, h⟩ := h
  refine ⟨h0, ?_⟩
  rcases h with h | ⟨g, cap, cur, rfl, hg, h1⟩
  · exact Or.inl h
  · exact Or.inr ⟨g, cap, cur, rfl, by omega, h1⟩

theorem len2 (l : List ByteArray) (h : l.length = 2) : ∃ a b, l = [a, b] := by
  match l, h with
  | [a, b], _ => exact ⟨a, b, rfl⟩

end Go.Proofs.YteehgcbjmdideaaDoor
