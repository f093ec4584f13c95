/- A text cut at a byte: what the library's Split and Cut give of it. -/
import Derived.Test.YteehgcbjmdideaaQM24
import Derived.Lib.Split
import Derived.Lib.SplitLaws
import Derived.Lib.IndexMore
import Derived.Lib.IndexBytes
import Derived.ChangeAgain
import Derived.Lib.QuietBelow
import Derived.Deep.AppendLies
namespace Go.Proofs.Yteehgcbjmdideaa.Sc

/-- the pieces of a text between the bytes c -/
def splitOn (c : UInt8) : List UInt8 → List (List UInt8)
  | [] => [[]]
  | x :: l => if x = c then [] :: splitOn c l else match splitOn c l with
    | [] => [[x]]
    | h :: t => (x :: h) :: t

theorem splitOn_ne (c : UInt8) (l : List UInt8) : splitOn c l ≠ [] := by
  cases l with
  | nil => simp [splitOn]
  | cons x l =>
    rw [splitOn]
    split
    · simp
    · split <;> simp

theorem splitOn_miss (c : UInt8) (l : List UInt8) (h : Lib.indexByte l c = -1) : splitOn c l = [l] := by
  induction l with
  | nil => rfl
  | cons x l ih =>
    rw [Lib.indexByte] at h
    by_cases e : x = c
    · subst e; simp at h
    · have e' : (x == c) = false := by simpa using e
      have h' : Lib.indexByte l c = -1 := by
        have := Lib.indexByte_ge l c
        simp [e'] at h
        by_cases q : Lib.indexByte l c = -1
        · exact q
        · have := h q; omega
      rw [splitOn, if_neg e, ih h']

theorem splitOn_hit (c : UInt8) (l : List UInt8) (i : Nat) (h : Lib.indexByte l c = i) : splitOn c l = l.take i :: splitOn c (l.drop (i + 1)) := by
  induction l generalizing i with
  | nil => simp [Lib.indexByte] at h
  | cons x l ih =>
    rw [Lib.indexByte] at h
    by_cases e : x = c
    · subst e
      simp at h
      have : i = 0 := by omega
      subst this
      rw [splitOn, if_pos rfl]; simp
    · have e' : (x == c) = false := by simpa using e
      simp [e'] at h
      by_cases q : Lib.indexByte l c = -1
      · rw [if_pos q] at h; omega
      · rw [if_neg q] at h
        have hg := Lib.indexByte_ge l c
        obtain ⟨j, rfl⟩ : ∃ j, i = j + 1 := ⟨i - 1, by omega⟩
        have hj : Lib.indexByte l c = j := by omega
        rw [splitOn, if_neg e, ih j hj]
        simp

theorem count_hit (c : UInt8) (l : List UInt8) (i : Nat) (h : Lib.indexByte l c = i) : l.count c = (l.drop (i + 1)).count c + 1 := by
  induction l generalizing i with
  | nil => simp [Lib.indexByte] at h
  | cons x l ih =>
    rw [Lib.indexByte] at h
    by_cases e : x = c
    · subst e
      simp at h
      have : i = 0 := by omega
      subst this
      simp
    · have e' : (x == c) = false := by simpa using e
      simp [e'] at h
      by_cases q : Lib.indexByte l c = -1
      · rw [if_pos q] at h; omega
      · rw [if_neg q] at h
        have hg := Lib.indexByte_ge l c
        obtain ⟨j, rfl⟩ : ∃ j, i = j + 1 := ⟨i - 1, by omega⟩
        have hj : Lib.indexByte l c = j := by omega
        rw [List.count_cons, ih j hj]
        simp [e']

theorem splitK_one (c : UInt8) (k : Nat) (l : List UInt8) (hk : l.count c ≤ k) : Lib.splitK [c] 0 k l = splitOn c l := by
  induction k generalizing l with
  | zero =>
    have : Lib.indexByte l c = -1 := by
      by_cases q : Lib.indexByte l c = -1
      · exact q
      · have hg := Lib.indexByte_ge l c
        have := count_hit c l (Lib.indexByte l c).toNat (by omega)
        omega
    rw [splitOn_miss c l this]; rfl
  | succ k ih =>
    rw [Lib.splitK, Lib.index_one]
    by_cases q : Lib.indexByte l c = -1
    · rw [splitOn_miss c l q, q]; rfl
    · have hg := Lib.indexByte_ge l c
      have hc := count_hit c l (Lib.indexByte l c).toNat (by omega)
      have q' : (Lib.indexByte l c == -1) = false := by simpa using q
      rw [q']
      rw [splitOn_hit c l (Lib.indexByte l c).toNat (by omega)]
      simp only [Nat.add_zero, List.length_singleton, Bool.false_eq_true, if_false]
      rw [ih _ (by omega)]

theorem split_pieces (c : UInt8) (s : ByteArray) : (Lib.splitB ⟨#[c]⟩ 0 (Lib.countB s ⟨#[c]⟩) s).map (fun x => x.data.toList) = splitOn c s.data.toList := by
  rw [Lib.splitB_data]
  exact splitK_one c _ _ (by show s.data.toList.count c ≤ Lib.count s.data.toList [c]; rw [Lib.count_one]; exact Nat.le_refl _)

theorem cut_miss (c : UInt8) (l : List UInt8) (h : Lib.indexByte l c = -1) : Lib.cut l [c] = (l, [], false) := by
  unfold Lib.cut; rw [Lib.index_one, h]; rfl
theorem cut_hit (c : UInt8) (l : List UInt8) (i : Nat) (h : Lib.indexByte l c = i) : Lib.cut l [c] = (l.take i, l.drop (i + 1), true) := by
  unfold Lib.cut; rw [Lib.index_one, h, if_pos (by omega)]; simp

theorem splitOn_length (c : UInt8) (l : List UInt8) : (splitOn c l).length = l.count c + 1 := by
  induction l with
  | nil => rfl
  | cons x l ih =>
    rw [splitOn]
    by_cases e : x = c
    · subst e; simp [ih]
    · rw [if_neg e, List.count_cons]
      have e' : (x == c) = false := by simpa using e
      rw [e']
      cases h : splitOn c l with
      | nil => exact absurd h (splitOn_ne c l)
      | cons a t => rw [h] at ih; simpa using ih

/-- what a first line says -/
def stepHead (l : List UInt8) : Option (Int × Int) :=
  match splitOn 32 l with
  | [a, b, c, d] => if a = bStates ∧ c = bStart then (match numB b, numB d with | some x, some y => if inB x 1 200 then some (x, y) else none | _, _ => none) else none
  | _ => none

/-- what a line of 'final' says, behind so many states, the last final one, whether there is an arc -/
def stepFinal (st last : Int) (arcs : Bool) (l : List UInt8) : Option (Int × Int) :=
  match splitOn 32 l with
  | [a, b, c] => if a = bFinal ∧ arcs = false then (match numB b, numB c with | some x, some y => if inB x 0 (st - 1) && decide (last < x) then some (x, y) else none | _, _ => none) else none
  | _ => none

/-- what a line of an arc says -/
def stepArc (l : List UInt8) : Option ArcD :=
  match (splitOn 32 l).mapM numB with
  | some [a, b, c, d, e] => some ⟨a, b, c, d, e⟩
  | _ => none

end Go.Proofs.Yteehgcbjmdideaa.Sc

/- The reader of a text: 'takeHead' of package fst. -/
namespace Go.Proofs.Yteehgcbjmdideaa.Sc
open Go.RowKit
attribute [local go_sem ↓] Go.wp_at_zero Go.wp_at_succ

theorem shaped_below {w w' : World} (h : w.ShapedOpen Try.prog) (hb : Below w.heap.size w w') : w'.ShapedOpen Try.prog :=
  h.keptBut (hb.frame fun _ => False) (fun _ h => h.elim)

/-- the words of a line -/
def wordsB (s : ByteArray) : List ByteArray := Lib.splitB ⟨#[32]⟩ 0 (Lib.countB s ⟨#[32]⟩) s

theorem wordsB_eq (s : ByteArray) : fieldsOf (wordsB s) = splitOn 32 (listOf s) := split_pieces 32 s
theorem wordsB_len (s : ByteArray) : (wordsB s).length = Lib.countB s ⟨#[32]⟩ + 1 := by
  have h := congrArg List.length (wordsB_eq s)
  rw [splitOn_length] at h
  simp only [fieldsOf, List.length_map] at h
  rw [h]
  show List.count 32 (listOf s) + 1 = Lib.count s.data.toList [32] + 1
  rw [Lib.count_one]; rfl

/-- each word is no longer than the line -/
theorem splitOn_le (c : UInt8) (l : List UInt8) : ∀ x ∈ splitOn c l, x.length ≤ l.length := by
  induction l with
  | nil => intro x hx; simp [splitOn] at hx; simp [hx]
  | cons y l ih =>
    intro x hx
    rw [splitOn] at hx
    split at hx
    · rcases List.mem_cons.1 hx with rfl | hx
      · simp
      · have := ih x hx; simp; omega
    · split at hx
      · rename_i h; exact absurd h (splitOn_ne c l)
      · rename_i h t heq
        rcases List.mem_cons.1 hx with rfl | hx
        · have := ih h (by rw [heq]; simp); simp; omega
        · have := ih x (by rw [heq]; simp [hx]); simp; omega

theorem wordsB_size (s : ByteArray) : ∀ x ∈ wordsB s, x.size ≤ s.size := by
  intro x hx
  have h := splitOn_le 32 (listOf s) (listOf x) (by rw [← wordsB_eq]; exact List.mem_map_of_mem hx)
  rw [listOf_len, listOf_len] at h
  exact h

/-- all that was there, but for block rb, is as it was -/
structure Bel1 (rb : Nat) (w w' : World) : Prop where
  os : w'.os = w.os
  tape : w'.tape = w.tape
  output : w'.output = w.output
  size : w.heap.size ≤ w'.heap.size
  block : ∀ k, k < w.heap.size → k ≠ rb → w'.heap[k]? = w.heap[k]?

theorem Bel1.of {rb : Nat} {w w' : World} (h : Below w.heap.size w w') : Bel1 rb w w' := ⟨h.os, h.tape, h.output, h.size, fun k hk _ => h.block k hk⟩
theorem Bel1.trans {rb : Nat} {a b c : World} (h : Bel1 rb a b) (k : Bel1 rb b c) : Bel1 rb a c :=
  ⟨k.os.trans h.os, k.tape.trans h.tape, k.output.trans h.output, Nat.le_trans h.size k.size, fun i hi hn => (k.block i (Nat.lt_of_lt_of_le hi h.size) hn).trans (h.block i hi hn)⟩
theorem Bel1.set {rb i : Nat} {a w : World} (h : Bel1 rb a w) (v : Value) : Bel1 rb a (w.setCell ⟨rb, i, none⟩ v) :=
  h.trans ⟨rfl, rfl, rfl, Nat.le_of_eq (by simp), fun k _ hn => Below.heap_setCell w ⟨rb, i, none⟩ v k hn⟩
theorem Bel1.below {rb B : Nat} {w w' : World} (h : Bel1 rb w w') (hB : B ≤ rb) (hs : B ≤ w.heap.size) : Below B w w' := ⟨h.os, h.tape, h.output, h.size, fun k hk => h.block k (by omega) (by omega)⟩
theorem Bel1.heap {rb g : Nat} {w w' : World} {o : Obj} (h : Bel1 rb w w') (hg : w.heap[g]? = some o) (hn : g ≠ rb) : w'.heap[g]? = some o := by
  have : g < w.heap.size := by
    by_cases h : g < w.heap.size
    · exact h
    · rw [Array.getElem?_eq_none (by omega)] at hg; cases hg
  rw [h.block g this hn]; exact hg

theorem toList_data (a : ByteArray) (l : List UInt8) (h : listOf a = l) : a.toList = l := by rw [ByteArray.toList_eq]; exact h

theorem heap_lt {w : World} {g : Nat} {o : Obj} (hg : w.heap[g]? = some o) : g < w.heap.size := by
  by_cases h : g < w.heap.size
  · exact h
  · rw [Array.getElem?_eq_none (by omega)] at hg; cases hg

theorem two_le : 2 ≤ 1000000 := by decide
theorem two_pos : 0 < 2 := by decide

theorem fields_not4 (s : ByteArray) (h : ¬ (wordsB s).length = 4) : stepHead (listOf s) = none := by
  unfold stepHead
  rw [← wordsB_eq]
  cases hw : fieldsOf (wordsB s) with
  | nil => rfl
  | cons a l =>
    match l, hw with
    | [], _ => rfl
    | [_], _ => rfl
    | [_, _], _ => rfl
    | [_, _, _], hw => exfalso; apply h; have := congrArg List.length hw; simpa [fieldsOf] using this
    | _ :: _ :: _ :: _ :: _, _ => rfl

theorem len4 (l : List ByteArray) (h : l.length = 4) : ∃ a b c d, l = [a, b, c, d] := by
  match l, h with
  | [a, b, c, d], _ => exact ⟨a, b, c, d, rfl⟩

end Go.Proofs.Yteehgcbjmdideaa.Sc

/- The reader of a text: 'takeFinal' of package fst. -/
namespace Go.Proofs.Yteehgcbjmdideaa.Sc
open Go.RowKit
attribute [local go_sem ↓] Go.wp_at_zero Go.wp_at_succ

def intsV (xs : List Int) : List Value := xs.map (Value.int .i64)
theorem intsV_set (xs : List Int) (k : Nat) (y : Int) : (intsV xs).toArray.setIfInBounds k (.int .i64 y) = (intsV (xs.set k y)).toArray := by simp [intsV, List.map_set]

theorem three_strs (wx : World) (a b c : ByteArray) (N : Nat) (hN : wx.heap.size = N) (hb : b.size ≤ maxLen) (hc : c.size ≤ maxLen) : StrsAt (wx.alloc (.cells #[.string a, .string b, .string c] 9)) N 1 2 [b, c] := by
  refine ⟨rfl, fun i hi => ?_, fun z hz => ?_⟩
  · match i, hi with
    | 0, _ => exact new_cell _ _ _ _ _ _ hN rfl
    | 1, _ => exact new_cell _ _ _ _ _ _ hN rfl
  · simp at hz; rcases hz with rfl | rfl <;> assumption

theorem len3 (l : List ByteArray) (h : l.length = 3) : ∃ a b c, l = [a, b, c] := by
  match l, h with
  | [a, b, c], _ => exact ⟨a, b, c, rfl⟩

theorem fields_not3 (st last : Int) (q : Bool) (s : ByteArray) (h : ¬ (wordsB s).length = 3) : stepFinal st last q (listOf s) = none := by
  unfold stepFinal
  rw [← wordsB_eq]
  cases hw : fieldsOf (wordsB s) with
  | nil => rfl
  | cons a l =>
    match l, hw with
    | [], _ => rfl
    | [_], _ => rfl
    | [_, _], hw => exfalso; apply h; have := congrArg List.length hw; simpa [fieldsOf] using this
    | _ :: _ :: _ :: _, _ => rfl

end Go.Proofs.Yteehgcbjmdideaa.Sc

/- The reader of a text: 'takeArc' of package fst. -/
namespace Go.Proofs.Yteehgcbjmdideaa.Sc
open Go.RowKit
attribute [local go_sem ↓] Go.wp_at_zero Go.wp_at_succ

def arcCells (a : ArcD) : List Value := [.int .i64 a.src, .int .i64 a.inp, .int .i64 a.out, .int .i64 a.dst, .int .i64 a.wt]
def arcsV (l : List ArcD) : List Value := l.flatMap arcCells

theorem Try.info63 : (Try.prog.info? 63).map (fun i => (i.zero, i.size, i.bytes)) = some (some (.agg #[.int .i64 0, .int .i64 0, .int .i64 0, .int .i64 0, .int .i64 0]), 5, 40) := by kernel_rfl

theorem words_strs (s : ByteArray) (w : World) (hs : s.size ≤ 100000) : StrsAt (w.alloc (.cells ((wordsB s).map Value.string).toArray 9)) w.heap.size 0 (wordsB s).length (wordsB s) := by
  refine ⟨rfl, fun i hi => ?_, fun z hz => ?_⟩
  · refine new_cell _ _ _ _ _ _ rfl ?_
    simp [List.getD, hi]
  · have := wordsB_size s z hz; unfold maxLen; omega

theorem words_many (s : ByteArray) (hs : s.size ≤ 100000) : (wordsB s).length ≤ 1000000 := by
  have h := congrArg List.length (wordsB_eq s)
  rw [splitOn_length] at h
  simp only [fieldsOf, List.length_map] at h
  have := List.count_le_length (a := (32 : UInt8)) (l := listOf s)
  rw [listOf_len] at this
  omega

theorem oneCell_arc (a : ArcD) : ∀ u ∈ arcCells a, u.oneCell' = true := by
  intro u hu
  simp [arcCells] at hu
  rcases hu with rfl | rfl | rfl | rfl | rfl <;> rfl

theorem set_far {w : World} {rb i g k : Nat} {v : Value} (h : g ≠ rb) : (w.setCell ⟨rb, i, none⟩ v).cell? ⟨g, k, none⟩ = w.cell? ⟨g, k, none⟩ :=
  World.cell?_of_block (w := w) (a := ⟨g, k, none⟩) (Below.heap_setCell w ⟨rb, i, none⟩ v g h)
theorem ownsRow_other {w : World} {B e size n rb i : Nat} {v u : Value} {xs : List Value} (h : w.ownsRow B e size v n xs) (hv : v.ownBlock ≠ some rb) : (w.setCell ⟨rb, i, none⟩ u).ownsRow B e size v n xs := by
  obtain ⟨hl, h⟩ := h
  refine ⟨hl, ?_⟩
  rcases h with h | ⟨g, cap, cur, rfl, hg, hh, h1⟩
  · exact Or.inl h
  · refine Or.inr ⟨g, cap, cur, rfl, hg, ?_, h1⟩
    rw [Below.heap_setCell _ _ _ _ (by simpa [Value.ownBlock] using hv)]; exact hh
theorem five_pos : 0 < 5 := by decide
theorem one_pos : 0 < 1 := by decide
theorem ownsRow_lt {w : World} {B e size n : Nat} {v : Value} {xs : List Value} (h : w.ownsRow B e size v n xs) : ∀ g, v.ownBlock = some g → g < w.heap.size := by
  intro g hg
  obtain ⟨_, h⟩ := h
  rcases h with ⟨rfl, _⟩ | ⟨g', cap, cur, rfl, hB, hh, _⟩
  · simp [Value.ownBlock] at hg
  · simp [Value.ownBlock] at hg; subst hg; exact heap_lt hh

end Go.Proofs.Yteehgcbjmdideaa.Sc

/- The reader of a text: a line that is no arc's; 'taker', which chooses what takes a line. -/
namespace Go.Proofs.Yteehgcbjmdideaa.Sc
open Go.RowKit
attribute [local go_sem ↓] Go.wp_at_zero Go.wp_at_succ

theorem stepArc_five (l : List UInt8) (ns : List Int) (h : numsB (splitOn 32 l) = some ns) (hn : stepArc l = none) : ns.length ≠ 5 := by
  intro h5
  unfold stepArc at hn
  unfold numsB at h
  rw [h] at hn
  match ns, h5 with
  | [a, b, c, d, e], _ => simp at hn

end Go.Proofs.Yteehgcbjmdideaa.Sc

/- What a text says as a whole: line by line from the first on. -/
namespace Go.Proofs.Yteehgcbjmdideaa.Sc

def fst0 : FstD := ⟨0, 0, [], []⟩

/-- what one line makes of what was read so far -/
def stepL (f : FstD) (last : Int) (l : List UInt8) : Option (FstD × Int) :=
  if f.states = 0 then (stepHead l).map fun p => (⟨p.1, p.2, List.replicate p.1.toNat (-1), f.arcs⟩, last)
  else if Lib.hasPrefix l bFinal then (stepFinal f.states last (decide (0 < f.arcs.length)) l).map fun p => (⟨f.states, f.start, f.final.set p.1.toNat p.2, f.arcs⟩, p.1)
  else (stepArc l).map fun a => (⟨f.states, f.start, f.final, f.arcs ++ [a]⟩, last)

/-- the number of the first line that is none of its form, or 0; and what was read -/
def runL : List (List UInt8) → Nat → FstD → Int → Nat × FstD
  | [], _, f, _ => (0, f)
  | [x], n, f, _ => if n ≠ 1 ∧ x = [] then (0, f) else (n, fst0)
  | x :: y :: r, n, f, last => match stepL f last x with
    | none => (n, fst0)
    | some p => runL (y :: r) (n + 1) p.1 p.2

structure Parsed where
  f : FstD
  line : Int
  err : Int

def parseD (s : List UInt8) : Parsed :=
  if 100000 < s.length then ⟨fst0, 0, 2⟩
  else if (runL (splitOn 10 s) 1 fst0 (-1)).1 ≠ 0 then ⟨fst0, (runL (splitOn 10 s) 1 fst0 (-1)).1, 1⟩
  else if checkD (runL (splitOn 10 s) 1 fst0 (-1)).2 ≠ 0 then ⟨fst0, 0, checkD (runL (splitOn 10 s) 1 fst0 (-1)).2⟩
  else ⟨(runL (splitOn 10 s) 1 fst0 (-1)).2, 0, 0⟩

theorem runL_miss (l : List UInt8) (n : Nat) (f : FstD) (last : Int) (h : Lib.indexByte l 10 = -1) (hn : n = 1 ∨ l ≠ []) : runL (splitOn 10 l) n f last = (n, fst0) := by
  rw [splitOn_miss 10 l h, runL, if_neg]
  rintro ⟨h1, h2⟩
  rcases hn with hn | hn
  · exact h1 hn
  · exact hn h2

theorem runL_end (n : Nat) (f : FstD) (last : Int) (hn : n ≠ 1) : runL (splitOn 10 []) n f last = (0, f) := by
  show runL [[]] n f last = (0, f)
  rw [runL, if_pos ⟨hn, rfl⟩]

theorem runL_hit (l : List UInt8) (i n : Nat) (f : FstD) (last : Int) (h : Lib.indexByte l 10 = i) : runL (splitOn 10 l) n f last = match stepL f last (l.take i) with | none => (n, fst0) | some p => runL (splitOn 10 (l.drop (i + 1))) (n + 1) p.1 p.2 := by
  rw [splitOn_hit 10 l i h]
  cases hs : splitOn 10 (l.drop (i + 1)) with
  | nil => exact absurd hs (splitOn_ne _ _)
  | cons a t => rw [runL]

theorem runL_none (l : List UInt8) (i n : Nat) (f : FstD) (last : Int) (h : Lib.indexByte l 10 = i) (hs : stepL f last (l.take i) = none) : runL (splitOn 10 l) n f last = (n, fst0) := by rw [runL_hit l i n f last h, hs]
theorem runL_some (l : List UInt8) (i n : Nat) (f : FstD) (last : Int) (p : FstD × Int) (h : Lib.indexByte l 10 = i) (hs : stepL f last (l.take i) = some p) : runL (splitOn 10 l) n f last = runL (splitOn 10 (l.drop (i + 1))) (n + 1) p.1 p.2 := by rw [runL_hit l i n f last h, hs]

theorem indexByte_lt (l : List UInt8) (c : UInt8) (i : Nat) (h : Lib.indexByte l c = i) : i < l.length := by
  induction l generalizing i with
  | nil => simp [Lib.indexByte] at h
  | cons x l ih =>
    rw [Lib.indexByte] at h
    by_cases e : x = c
    · subst e; simp at h; simp; omega
    · have e' : (x == c) = false := by simpa using e
      simp [e'] at h
      by_cases q : Lib.indexByte l c = -1
      · rw [if_pos q] at h; omega
      · rw [if_neg q] at h
        have hg := Lib.indexByte_ge l c
        have := ih (i - 1) (by omega)
        simp; omega

end Go.Proofs.Yteehgcbjmdideaa.Sc

/- 'Parse' of package fst. -/
namespace Go.Proofs.Yteehgcbjmdideaa.Sc
open Go.RowKit
attribute [local go_sem ↓] Go.wp_at_zero Go.wp_at_succ

theorem arcsV_get (ars : List ArcD) (i j : Nat) (hi : i < ars.length) (hj : j < 5) : (arcsV ars)[i * 5 + j]? = (arcCells (ars.getD i a0))[j]? := by
  induction ars generalizing i with
  | nil => simp at hi
  | cons a l ih =>
    have e : arcsV (a :: l) = arcCells a ++ arcsV l := by simp [arcsV]
    have hl : (arcCells a).length = 5 := rfl
    rw [e]
    cases i with
    | zero => rw [Nat.zero_mul, Nat.zero_add, List.getElem?_append_left (by omega)]; rfl
    | succ i =>
      rw [List.getElem?_append_right (by omega), hl, show (i + 1) * 5 + j - 5 = i * 5 + j by omega, ih i (by simpa using hi)]
      rfl

theorem ownsRow_arcs {w : World} {B g : Nat} {v : Value} {ars : List ArcD} (h : w.ownsRow B g 5 v ars.length (arcsV ars)) : ASlice w v ars := by
  obtain ⟨_, h⟩ := h
  rcases h with ⟨rfl, h⟩ | ⟨g, cap, cur, rfl, _, hh, h1, h2, h3, h4⟩
  · exact Or.inl ⟨none, 0, rfl, List.length_eq_zero_iff.1 h⟩
  · have key : ∀ i j, i < ars.length → j < 5 → w.cell? ⟨g, 0 + i * 5 + j, none⟩ = (arcCells (ars.getD i a0))[j]? := by
      intro i j hi hj
      have h5 := arcsV_get ars i j hi hj
      rw [← h4, List.getElem?_take, if_pos (by omega), Array.getElem?_toList] at h5
      rw [Go.Joins.cell_of_block hh, Nat.zero_add]; exact h5
    exact Or.inr ⟨g, 0, ars.length, cap, rfl, ⟨rfl, fun i hi => key i 0 hi (by omega), fun i hi => key i 1 hi (by omega), fun i hi => key i 2 hi (by omega), fun i hi => key i 3 hi (by omega), fun i hi => key i 4 hi (by omega)⟩, by omega⟩

theorem stepHead_out (s : ByteArray) (x y : Int) (h : stepHead (listOf s) = some (x, y)) : ∃ a b c d, wordsB s = [a, b, c, d] ∧ listOf a = bStates ∧ listOf c = bStart ∧ numB (listOf b) = some x ∧ numB (listOf d) = some y ∧ inB x 1 200 = true := by
  by_cases h4 : (wordsB s).length = 4
  · obtain ⟨a, b, c, d, hw⟩ := len4 _ h4
    refine ⟨a, b, c, d, hw, ?_⟩
    unfold stepHead at h
    rw [← wordsB_eq, hw] at h
    simp only [fieldsOf, List.map_cons, List.map_nil] at h
    by_cases hac : listOf a = bStates ∧ listOf c = bStart
    · rw [if_pos hac] at h
      cases q1 : numB (listOf b) with
      | none => simp [q1] at h
      | some u =>
        cases q2 : numB (listOf d) with
        | none => simp [q1, q2] at h
        | some v =>
          simp [q1, q2] at h
          obtain ⟨h1, h2, h3⟩ := h
          subst h2 h3
          exact ⟨hac.1, hac.2, rfl, rfl, h1⟩
    · rw [if_neg hac] at h; cases h
  · rw [fields_not4 s h4] at h; cases h

theorem stepFinal_out (st last : Int) (q : Bool) (s : ByteArray) (x y : Int) (h : stepFinal st last q (listOf s) = some (x, y)) : ∃ a b c, wordsB s = [a, b, c] ∧ listOf a = bFinal ∧ q = false ∧ numB (listOf b) = some x ∧ numB (listOf c) = some y ∧ inB x 0 (st - 1) = true ∧ last < x := by
  by_cases h3 : (wordsB s).length = 3
  · obtain ⟨a, b, c, hw⟩ := len3 _ h3
    refine ⟨a, b, c, hw, ?_⟩
    unfold stepFinal at h
    rw [← wordsB_eq, hw] at h
    simp only [fieldsOf, List.map_cons, List.map_nil] at h
    by_cases hac : listOf a = bFinal ∧ q = false
    · rw [if_pos hac] at h
      cases q1 : numB (listOf b) with
      | none => simp [q1] at h
      | some u =>
        cases q2 : numB (listOf c) with
        | none => simp [q1, q2] at h
        | some v =>
          simp [q1, q2] at h
          obtain ⟨⟨h1, h1'⟩, h2, h3⟩ := h
          subst h2 h3
          exact ⟨hac.1, hac.2, rfl, rfl, h1, h1'⟩
    · rw [if_neg hac] at h; cases h
  · rw [fields_not3 st last q s h3] at h; cases h

theorem stepArc_out (l : List UInt8) (a : ArcD) (h : stepArc l = some a) : numsB (splitOn 32 l) = some [a.src, a.inp, a.out, a.dst, a.wt] := by
  unfold stepArc at h
  unfold numsB
  cases hm : (splitOn 32 l).mapM numB with
  | none => rw [hm] at h; cases h
  | some ns =>
    rw [hm] at h
    match ns, h with
    | [p, q, r, t, u], h => simp at h; subst h; rfl

theorem rowR_ints (N : Nat) : rowR (-1) N N = intsV (List.replicate N (-1)) := by simp [rowR, intsV]

end Go.Proofs.Yteehgcbjmdideaa.Sc

/- 'Parse' of package fst: what it answers. -/
namespace Go.Proofs.Yteehgcbjmdideaa.Sc
open Go.RowKit
attribute [local go_sem ↓] Go.wp_at_zero Go.wp_at_succ

theorem listOf_strOf (l : List UInt8) : listOf (strOf l) = l := by simp [listOf, strOf]

/-- the block of the answer, not yet written -/
def ZBlock (w : World) (R : Nat) : Prop := w.heap[R]? = some (.cells #[.int .i64 0, .int .i64 0, .slice none 0 0, .slice none 0 0] 25 (0, 0))

/-- what the answer of 'Parse' is -/
def ParRes (s : ByteArray) (e : Ending) (w : World) : Prop :=
  ∃ fv av, e = .returned (.tuple #[.agg #[.int .i64 (parseD (listOf s)).f.states, .int .i64 (parseD (listOf s)).f.start, fv, av], .int .i64 (parseD (listOf s)).line, .int .i64 (parseD (listOf s)).err]) ∧ ISlice w fv (parseD (listOf s)).f.final ∧ ASlice w av (parseD (listOf s)).f.arcs

theorem parRes_bad {s : ByteArray} {w : World} {ln er : Int} (h : parseD (listOf s) = ⟨fst0, ln, er⟩) : ParRes s (.returned (.tuple #[.agg #[.int .i64 0, .int .i64 0, .slice none 0 0, .slice none 0 0], .int .i64 ln, .int .i64 er])) w := by
  unfold ParRes
  rw [h]
  exact ⟨_, _, rfl, Or.inl ⟨none, 0, rfl, rfl⟩, Or.inl ⟨none, 0, rfl, rfl⟩⟩

theorem zfacts {w : World} {R : Nat} (h : ZBlock w R) : w.cell? ⟨R, 0, none⟩ = some (.int .i64 0) ∧ w.cell? ⟨R, 1, none⟩ = some (.int .i64 0) ∧ w.cell? ⟨R, 2, none⟩ = some (.slice none 0 0) ∧ w.cell? ⟨R, 3, none⟩ = some (.slice none 0 0) ∧ w.frozen? ⟨R, 0, none⟩ = false ∧ w.frozen? ⟨R, 1, none⟩ = false ∧ w.frozen? ⟨R, 2, none⟩ = false ∧ w.frozen? ⟨R, 3, none⟩ = false := by
  refine ⟨?_, ?_, ?_, ?_, Go.Joins.unfrozen_of_block h 0, Go.Joins.unfrozen_of_block h 1, Go.Joins.unfrozen_of_block h 2, Go.Joins.unfrozen_of_block h 3⟩
  · have := Go.Joins.cell_of_block h 0; simpa using this
  · have := Go.Joins.cell_of_block h 1; simpa using this
  · have := Go.Joins.cell_of_block h 2; simpa using this
  · have := Go.Joins.cell_of_block h 3; simpa using this

end Go.Proofs.Yteehgcbjmdideaa.Sc

/- 'Trim' of package fst. -/
namespace Go.Proofs.Yteehgcbjmdideaa.Sc
open Go.RowKit Go.Maps Go.ChangeShapes
attribute [local go_sem ↓] Go.wp_at_zero Go.wp_at_succ

theorem bel_set4 {B R : Nat} {a w : World} (h : Below B a w) (hR : B ≤ R) (u0 u1 u2 u3 : Value) : Below B a ((((w.setCell ⟨R, 0, none⟩ u0).setCell ⟨R, 1, none⟩ u1).setCell ⟨R, 2, none⟩ u2).setCell ⟨R, 3, none⟩ u3) :=
  (((h.setCell (p := ⟨R, 0, none⟩) hR _).setCell (p := ⟨R, 1, none⟩) hR _).setCell (p := ⟨R, 2, none⟩) hR _).setCell (p := ⟨R, 3, none⟩) hR _
theorem row_set4 {w : World} {B e size n R : Nat} {v : Value} {xs : List Value} (h : w.ownsRow B e size v n xs) (hv : v.ownBlock ≠ some R) (u0 u1 u2 u3 : Value) : ((((w.setCell ⟨R, 0, none⟩ u0).setCell ⟨R, 1, none⟩ u1).setCell ⟨R, 2, none⟩ u2).setCell ⟨R, 3, none⟩ u3).ownsRow B e size v n xs :=
  ownsRow_other (ownsRow_other (ownsRow_other (ownsRow_other h hv) hv) hv) hv

theorem zblock2 (w : World) (o : Obj) : ZBlock ((w.alloc o).alloc (.cells #[.int .i64 0, .int .i64 0, .slice none 0 0, .slice none 0 0] 25)) (w.heap.size + 1) := by
  have := heap_alloc_new (w.alloc o) (.cells #[.int .i64 0, .int .i64 0, .slice none 0 0, .slice none 0 0] 25)
  unfold ZBlock
  simpa using this

theorem trim_bad (f : FstD) (fin arcs : Value) (w : World) (hf : ISlice w fin f.final) (ha : ASlice w arcs f.arcs) (hc : (checkD f == 0) = false) :
    Calls Try.prog 125 #[.agg #[.int .i64 f.states, .int .i64 f.start, fin, arcs]] w fun e w' =>
      e = .returned (.tuple #[.agg #[.int .i64 0, .int .i64 0, .slice none 0 0, .slice none 0 0], .int .i64 (checkD f)]) ∧ Below w.heap.size w w' := by
  have hb0 := bel_up (bel_up (bel_self w) (.cells #[.int .i64 f.states, .int .i64 f.start, fin, arcs] 25)) (.cells #[.int .i64 0, .int .i64 0, .slice none 0 0, .slice none 0 0] 25)
  have h1 := hf.below hb0
  have h2 := ha.below hb0
  have hz := zblock2 w (.cells #[.int .i64 f.states, .int .i64 f.start, fin, arcs] 25)
  go_enter Try.func125, Try.ntmps125
  go_wp2_with (go_at_call 101; refine (check_any f _ _ _ h1 h2).mono ?_; rintro e w1 ⟨rfl, hbw⟩; obtain ⟨z0, z1, z2, z3, y0, y1, y2, y3⟩ := zfacts (heap_bel hbw hz))
  exact bodyPost_ret (v := .tuple #[.agg #[.int .i64 0, .int .i64 0, .slice none 0 0, .slice none 0 0], .int .i64 (checkD f)]) (by simp [results, Try.results125, go_sem, *]) rfl ⟨rfl, bel_set4 (bel_on hb0 hbw) (by omega) _ _ _ _⟩

/-- what the answer of 'Trim' is -/
def TrimRes (f : FstD) (e : Ending) (w : World) : Prop :=
  ∃ t fv av, e = .returned (.tuple #[.agg #[.int .i64 t.states, .int .i64 t.start, fv, av], .int .i64 0]) ∧ IsTrim f t ∧ ISlice w fv t.final ∧ ASlice w av t.arcs

set_option maxHeartbeats 4000000 in
set_option maxRecDepth 100000 in
theorem trim_none (N s0 : Nat) (xs : List Int) (ars : List ArcD) (fin : Value) (aa : Option Addr) (n ac : Nat) (w : World) (hf : ISlice w fin xs) (hfl : xs.length = N) (ha : ASlice w (.slice aa n ac) ars) (hal : ars.length = n) (hn : n ≤ 3000) (hN1 : 1 ≤ N) (hN : N ≤ 200) (hs0 : s0 < N)
    (hok : ∀ a ∈ ars, (0 ≤ a.src ∧ a.src < N) ∧ (0 ≤ a.dst ∧ a.dst < N)) (hc : checkD ⟨N, s0, xs, ars⟩ = 0) (hS : ¬ Stays ⟨N, s0, xs, ars⟩ s0) :
    Calls Try.prog 125 #[.agg #[.int .i64 (N : Int), .int .i64 (s0 : Int), fin, .slice aa n ac]] w fun e w' => TrimRes ⟨N, s0, xs, ars⟩ e w' ∧ Below w.heap.size w w' := by
  have hb0 := bel_up (bel_up (bel_self w) (.cells #[.int .i64 (N : Int), .int .i64 (s0 : Int), fin, .slice aa n ac] 25)) (.cells #[.int .i64 0, .int .i64 0, .slice none 0 0, .slice none 0 0] 25)
  have h1 := hf.below hb0
  have h2 := ha.below hb0
  have hz := zblock2 w (.cells #[.int .i64 (N : Int), .int .i64 (s0 : Int), fin, .slice aa n ac] 25)
  have hcF : CellsF ((w.alloc (.cells #[.int .i64 (N : Int), .int .i64 (s0 : Int), fin, .slice aa n ac] 25)).alloc (.cells #[.int .i64 0, .int .i64 0, .slice none 0 0, .slice none 0 0] 25)) w.heap.size (N : Int) (s0 : Int) fin (.slice aa n ac) := by simp [CellsF]
  have HFL : Hid (xs.length = N) := hfl
  have HAL : Hid (ars.length = n) := hal
  have HOK : Hid (∀ a ∈ ars, (0 ≤ a.src ∧ a.src < N) ∧ (0 ≤ a.dst ∧ a.dst < N)) := hok
  have HS : Hid (¬ Stays ⟨N, s0, xs, ars⟩ s0) := hS
  have HC : Hid (checkD ⟨N, s0, xs, ars⟩ = 0) := hc
  have hkey := keyN s0 (by omega)
  clear hfl hal hok hS hc
  go_enter Try.func125, Try.ntmps125
  go_wp2_with (first
    | (go_at_call 153; refine (stay_any ⟨N, s0, xs, ars⟩ N fin aa n ac w1 (h1.below hb1) HFL.out (h2.below hb1) HAL.out hn hN1 hN rfl HOK.out).mono ?_; rintro e w2 ⟨B, m, st, rfl, hnum, hss, hm, hBw, hb2⟩; have hc2 := hc1.below hb2; obtain ⟨p0, p1, p2, p3⟩ := hc2; have hz2 := heap_bel hb2 hz1; obtain ⟨D, hD, d2, d3, d4⟩ := hnum; have hst : st s0 = false := Bool.eq_false_iff.2 (fun h => HS.out ((hss s0).1 h)); have hhas := d3 s0; rw [hst, Bool.and_false] at hhas)
    | (go_at_call 101; refine (check_any ⟨N, s0, xs, ars⟩ _ _ _ h1 h2).mono ?_; rintro e w1 ⟨rfl, hb1⟩; rw [HC.out]; have hz1 := heap_bel hb1 hz; have hc1 := hcF.below hb1; have hq := hc1; obtain ⟨q0, q1, q2, q3⟩ := hq)
    | (at_lookup; refine wpList_lookup_own_ok_int _ rfl _ _ 158 rfl 3 3 .i64 keyI Try.underlying158 Try.underlying3 (zeroI _) B m D rfl hD _ _ rfl hkey ?_; intro c hat hwc; rw [hhas]; obtain ⟨z0, z1, z2, z3, y0, y1, y2, y3⟩ := zfacts (heap_bel (bel_up (bel_self w2) (.cells #[.int .i64 (-1)] 3)) hz2)))
  have hrow : ((w2.alloc (.cells #[.int .i64 (-1)] 3))).ownsRow w2.heap.size 3 1 (.slice (some ⟨w2.heap.size, 0, none⟩) 1 1) 1 [.int .i64 (-1)] := World.ownsRow_lit w2 #[.int .i64 (-1)] 1 (Nat.le_refl _) (by decide) rfl
  have HLT : Hid (w.heap.size + 1 < w2.heap.size) := heap_lt hz2
  obtain ⟨x0, x1, x2, x3, _, _, _, _⟩ := zfacts hz2
  exact bodyPost_ret (v := .tuple #[.agg #[.int .i64 1, .int .i64 0, .slice (some ⟨w2.heap.size, 0, none⟩) 1 1, .slice none 0 0], .int .i64 0]) (by simp [results, Try.results125, go_sem, *]) rfl
    ⟨⟨⟨1, 0, [-1], []⟩, _, _, rfl, ⟨st, hss, by unfold trimBy; rw [if_neg]; show ¬ st ((s0 : Int).toNat) = true; rw [Int.toNat_natCast, hst]; simp⟩, ownsRow_ints (row_set4 hrow (by have := HLT.out; simp [Value.ownBlock]; omega) _ _ _ _), Or.inl ⟨none, 0, rfl, rfl⟩⟩, bel_set4 (bel_up (bel_on (bel_on hb0 hb1) hb2) _) (by omega) _ _ _ _⟩

/-- the transducer that is made, in block T -/
structure TS (w : World) (T : Nat) (n0 s0 : Int) (fv av : Value) (xs : List Int) (ars : List ArcD) : Prop where
  c0 : w.cell? ⟨T, 0, none⟩ = some (.int .i64 n0)
  c1 : w.cell? ⟨T, 1, none⟩ = some (.int .i64 s0)
  c2 : w.cell? ⟨T, 2, none⟩ = some fv
  c3 : w.cell? ⟨T, 3, none⟩ = some av
  z2 : w.frozen? ⟨T, 2, none⟩ = false
  z3 : w.frozen? ⟨T, 3, none⟩ = false
  fr : w.ownsInts (T + 1) 3 .i64 fv xs
  ar : w.ownsRow (T + 1) 63 5 av ars.length (arcsV ars)
  ne : fv.ownBlock = none ∨ fv.ownBlock ≠ av.ownBlock
  size : T + 1 ≤ w.heap.size

theorem TS.below {w w' : World} {T : Nat} {n0 s0 : Int} {fv av : Value} {xs : List Int} {ars : List ArcD} (h : TS w T n0 s0 fv av xs ars) (hb : Below w.heap.size w w') : TS w' T n0 s0 fv av xs ars := by
  have hs := h.size
  exact ⟨bel_c hb h.c0, bel_c hb h.c1, bel_c hb h.c2, bel_c hb h.c3, (hb.frozen (p := ⟨T, 2, none⟩) (by show T < _; omega)).trans h.z2, (hb.frozen (p := ⟨T, 3, none⟩) (by show T < _; omega)).trans h.z3,
    h.fr.kept (bel_grown hb) (by cases fv.ownBlock <;> simp), ownsRow_bel h.ar hb, h.ne, Nat.le_trans hs hb.size⟩

theorem TS.start (w : World) (n0 s0 : Int) (o : Nat) (T : Nat) (hT : w.heap.size = T) : TS (w.alloc (.cells #[.int .i64 n0, .int .i64 s0, .slice none 0 0, .slice none 0 0] o)) T n0 s0 (.slice none 0 0) (.slice none 0 0) [] [] :=
  ⟨new_cell _ _ _ _ 0 _ hT rfl, new_cell _ _ _ _ 1 _ hT rfl, new_cell _ _ _ _ 2 _ hT rfl, new_cell _ _ _ _ 3 _ hT rfl, new_frozen _ _ _ _ _ hT, new_frozen _ _ _ _ _ hT, World.ownsInts_nil _ _ _ _, World.ownsRow_nil _ _ _ _, Or.inl rfl, by simp; omega⟩

theorem set_same {w : World} {a : Addr} {u : Value} (h : w.cell? a = some u) (v : Value) : (w.setCell a v).cell? a = some v := World.cell?_setCell_same _ _ _ h
theorem set_off {w : World} {T i j : Nat} {u v : Value} (h : w.cell? ⟨T, j, none⟩ = some u) (hij : i ≠ j) : (w.setCell ⟨T, i, none⟩ v).cell? ⟨T, j, none⟩ = some u := by
  rw [World.cell?_setCell_other _ _ _ _ (by intro e; apply hij; injection e)]
  exact h

theorem TS.fin {w w2 : World} {T : Nat} {n0 s0 : Int} {fv v' : Value} {xs : List Int} {x : Int} (h : TS w T n0 s0 fv (.slice none 0 0) xs []) (o : Obj) (hx : (Lit.int .i64 x).wf = true) (hg : (w.alloc o).grownBy w2 fv.ownBlock) (hown : w2.ownsRow (T + 1) 3 1 v' (xs.length + 1) (xs.map (Value.int .i64) ++ [.int .i64 x])) :
    w2.cell? ⟨T, 2, none⟩ = some fv ∧ w2.frozen? ⟨T, 2, none⟩ = false ∧ TS (w2.setCell ⟨T, 2, none⟩ v') T n0 s0 v' (.slice none 0 0) (xs ++ [x]) [] ∧ Below T w (w2.setCell ⟨T, 2, none⟩ v') := by
  have hs := h.size
  have hs1 : T + 1 ≤ (w.alloc o).heap.size := by simp; omega
  have ne : ∀ {k : Nat}, k < T + 1 → some k ≠ fv.ownBlock := fun hk => row_ne h.fr hk
  have k2 := grown_cell' hg (old_cell (o := o) h.c2) (ne (by omega))
  have f2 : w2.frozen? ⟨T, 2, none⟩ = false := by rw [grown_frozen hg (by omega) (ne (by omega)), old_frozen (by omega)]; exact h.z2
  have f3 : w2.frozen? ⟨T, 3, none⟩ = false := by rw [grown_frozen hg (by omega) (ne (by omega)), old_frozen (by omega)]; exact h.z3
  have hoi := h.fr.appended hown hx
  refine ⟨k2, f2, ⟨?_, ?_, set_same k2 _, ?_, ?_, ?_, ⟨ownsRow_setCell_below hoi.1 (by show T < T + 1; omega) _, hoi.2⟩, World.ownsRow_nil _ _ _ _, ?_, ?_⟩, ?_⟩
  · exact set_off (grown_cell' hg (old_cell (o := o) h.c0) (ne (by omega))) (by decide)
  · exact set_off (grown_cell' hg (old_cell (o := o) h.c1) (ne (by omega))) (by decide)
  · exact set_off (grown_cell' hg (old_cell (o := o) h.c3) (ne (by omega))) (by decide)
  · rw [World.frozen?_setCell]; exact f2
  · rw [World.frozen?_setCell]; exact f3
  · show v'.ownBlock = none ∨ v'.ownBlock ≠ none
    cases v'.ownBlock <;> simp
  · have := hg.size
    simp [World.setCell] at this ⊢
    omega
  · exact (((bel_up (bel_self w) o).mono (by omega)).grown hg (by omega) (fun k hk => by have := (h.fr.1.lt k hk).1; omega)).setCell (by show T ≤ T; omega) _

theorem arcsV_snoc (ars : List ArcD) (a : ArcD) : arcsV (ars ++ [a]) = arcsV ars ++ arcCells a := by simp [arcsV]

theorem TS.arc {w w2 : World} {T : Nat} {n0 s0 : Int} {fv av v' : Value} {xs : List Int} {ars : List ArcD} {a : ArcD} (h : TS w T n0 s0 fv av xs ars) (o : Obj) (hg : (w.alloc o).grownBy w2 av.ownBlock) (hown : w2.ownsRow (T + 1) 63 5 v' (ars.length + 1) (arcsV ars ++ arcCells a)) (hloc : v'.ownBlock = av.ownBlock ∨ v'.ownBlock = some (w.alloc o).heap.size) :
    w2.cell? ⟨T, 3, none⟩ = some av ∧ w2.frozen? ⟨T, 3, none⟩ = false ∧ TS (w2.setCell ⟨T, 3, none⟩ v') T n0 s0 fv v' xs (ars ++ [a]) ∧ Below T w (w2.setCell ⟨T, 3, none⟩ v') := by
  have hs := h.size
  have hs1 : T + 1 ≤ (w.alloc o).heap.size := by simp; omega
  have ne : ∀ {k : Nat}, k < T + 1 → some k ≠ av.ownBlock := fun {k} hk e => by
    have := (h.ar.lt k e.symm).1
    omega
  have k3 := grown_cell' hg (old_cell (o := o) h.c3) (ne (by omega))
  have f2 : w2.frozen? ⟨T, 2, none⟩ = false := by rw [grown_frozen hg (by omega) (ne (by omega)), old_frozen (by omega)]; exact h.z2
  have f3 : w2.frozen? ⟨T, 3, none⟩ = false := by rw [grown_frozen hg (by omega) (ne (by omega)), old_frozen (by omega)]; exact h.z3
  refine ⟨k3, f3, ⟨?_, ?_, ?_, set_same k3 _, ?_, ?_, ?_, ?_, ?_, ?_⟩, ?_⟩
  · exact set_off (grown_cell' hg (old_cell (o := o) h.c0) (ne (by omega))) (by decide)
  · exact set_off (grown_cell' hg (old_cell (o := o) h.c1) (ne (by omega))) (by decide)
  · exact set_off (grown_cell' hg (old_cell (o := o) h.c2) (ne (by omega))) (by decide)
  · rw [World.frozen?_setCell]; exact f2
  · rw [World.frozen?_setCell]; exact f3
  · have := (h.fr.alloc o).kept hg h.ne
    exact ⟨ownsRow_setCell_below this.1 (by show T < T + 1; omega) _, this.2⟩
  · rw [arcsV_snoc, List.length_append, List.length_singleton]
    exact ownsRow_setCell_below hown (by show T < T + 1; omega) _
  · rcases hloc with e | e
    · rw [e]; exact h.ne
    · rw [e]
      cases hb : fv.ownBlock with
      | none => exact Or.inl rfl
      | some g =>
        right
        have := (h.fr.1.lt g hb).2
        intro e1
        have e2 : g = (w.alloc o).heap.size := by simpa using e1
        simp at e2; omega
  · have := hg.size
    simp [World.setCell] at this ⊢
    omega
  · exact (((bel_up (bel_self w) o).mono (by omega)).grown hg (by omega) (fun k hk => by have := (h.ar.lt k hk).1; omega)).setCell (by show T ≤ T; omega) _

end Go.Proofs.Yteehgcbjmdideaa.Sc
