/- A text cut at a byte: what the library's Split and Cut give of it. -/
import Derived.Test.YteehgcbjmdideaaDoorRMath
import Derived.Lib.Split
import Derived.Lib.SplitLaws
import Derived.Lib.IndexMore
import Derived.Lib.IndexBytes
namespace Go.Proofs.YteehgcbjmdideaaDoor

/-- the pieces of a text between the bytes c -/
def splitOn (c : UInt8) : List UInt8 → List (List UInt8)
  | [] => [[]]
  | x :: l => if x = c then [] :: splitOn c l else match splitOn c l with
    | [] => [[x]]
    | h :: t => (x :: h) :: t

theorem splitOn_ne (c : UInt8) (l : List UInt8) : splitOn c l ≠ [] := by
  cases l with
  | nil => simp [splitOn]
  | cons x l =>
    rw [splitOn]
    split
    · simp
    · split <;> simp

theorem splitOn_miss (c : UInt8) (l : List UInt8) (h : Lib.indexByte l c = -1) : splitOn c l = [l] := by
  induction l with
  | nil => rfl
  | cons x l ih =>
    rw [Lib.indexByte] at h
    by_cases e : x = c
    · subst e; simp at h
    · have e' : (x == c) = false := by simpa using e
      have h' : Lib.indexByte l c = -1 := by
        have := Lib.indexByte_ge l c
        simp [e'] at h
        by_cases q : Lib.indexByte l c = -1
        · exact q
        · have := h q; omega
      rw [splitOn, if_neg e, ih h']

theorem splitOn_hit (c : UInt8) (l : List UInt8) (i : Nat) (h : Lib.indexByte l c = i) : splitOn c l = l.take i :: splitOn c (l.drop (i + 1)) := by
  induction l generalizing i with
  | nil => simp [Lib.indexByte] at h
  | cons x l ih =>
    rw [Lib.indexByte] at h
    by_cases e : x = c
    · subst e
      simp at h
      have : i = 0 := by omega
      subst this
      rw [splitOn, if_pos rfl]; simp
    · have e' : (x == c) = false := by simpa using e
      simp [e'] at h
      by_cases q : Lib.indexByte l c = -1
      · rw [if_pos q] at h; omega
      · rw [if_neg q] at h
        have hg := Lib.indexByte_ge l c
        obtain ⟨j, rfl⟩ : ∃ j, i = j + 1 := ⟨i - 1, by omega⟩
        have hj : Lib.indexByte l c = j := by omega
        rw [splitOn, if_neg e, ih j hj]
        simp

theorem count_hit (c : UInt8) (l : List UInt8) (i : Nat) (h : Lib.indexByte l c = i) : l.count c = (l.drop (i + 1)).count c + 1 := by
  induction l generalizing i with
  | nil => simp [Lib.indexByte] at h
  | cons x l ih =>
    rw [Lib.indexByte] at h
    by_cases e : x = c
    · subst e
      simp at h
      have : i = 0 := by omega
      subst this
      simp
    · have e' : (x == c) = false := by simpa using e
      simp [e'] at h
      by_cases q : Lib.indexByte l c = -1
      · rw [if_pos q] at h; omega
      · rw [if_neg q] at h
        have hg := Lib.indexByte_ge l c
        obtain ⟨j, rfl⟩ : ∃ j, i = j + 1 := ⟨i - 1, by omega⟩
        have hj : Lib.indexByte l c = j := by omega
        rw [List.count_cons, ih j hj]
        simp [e']

theorem splitK_one (c : UInt8) (k : Nat) (l : List UInt8) (hk : l.count c ≤ k) : Lib.splitK [c] 0 k l = splitOn c l := by
  induction k generalizing l with
  | zero =>
    have : Lib.indexByte l c = -1 := by
      by_cases q : Lib.indexByte l c = -1
      · exact q
      · have hg := Lib.indexByte_ge l c
        have := count_hit c l (Lib.indexByte l c).toNat (by omega)
        omega
    rw [splitOn_miss c l this]; rfl
  | succ k ih =>
    rw [Lib.splitK, Lib.index_one]
    by_cases q : Lib.indexByte l c = -1
    · rw [splitOn_miss c l q, q]; rfl
    · have hg := Lib.indexByte_ge l c
      have hc := count_hit c l (Lib.indexByte l c).toNat (by omega)
      have q' : (Lib.indexByte l c == -1) = false := by simpa using q
      rw [q']
      rw [splitOn_hit c l (Lib.indexByte l c).toNat (by omega)]
      simp only [Nat.add_zero, List.length_singleton, Bool.false_eq_true, if_false]
      rw [ih _ (by omega)]

theorem split_pieces (c : UInt8) (s : ByteArray) : (Lib.splitB ⟨#[c]⟩ 0 (Lib.countB s ⟨#[c]⟩) s).map (fun x => x.data.toList) = splitOn c s.data.toList := by
  rw [Lib.splitB_data]
  exact splitK_one c _ _ (by show s.data.toList.count c ≤ Lib.count s.data.toList [c]; rw [Lib.count_one]; exact Nat.le_refl _)

theorem cut_miss (c : UInt8) (l : List UInt8) (h : Lib.indexByte l c = -1) : Lib.cut l [c] = (l, [], false) := by
  unfold Lib.cut; rw [Lib.index_one, h]; rfl
theorem cut_hit (c : UInt8) (l : List UInt8) (i : Nat) (h : Lib.indexByte l c = i) : Lib.cut l [c] = (l.take i, l.drop (i + 1), true) := by
  unfold Lib.cut; rw [Lib.index_one, h, if_pos (by omega)]; simp

theorem splitOn_length (c : UInt8) (l : List UInt8) : (splitOn c l).length = l.count c + 1 := by
  induction l with
  | nil => rfl
  | cons x l ih =>
    rw [splitOn]
    by_cases e : x = c
    · subst e; simp [ih]
    · rw [if_neg e, List.count_cons]
      have e' : (x == c) = false := by simpa using e
      rw [e']
      cases h : splitOn c l with
      | nil => exact absurd h (splitOn_ne c l)
      | cons a t => rw [h] at ih; simpa using ih

/-- what a first line says -/
def stepHead (l : List UInt8) : Option (Int × Int) :=
  match splitOn 32 l with
  | [a, b, c, d] => if a = bStates ∧ c = bStart then (match numB b, numB d with | some x, some y => if inB x 1 200 then some (x, y) else none | _, _ => none) else none
  | _ => none

/-- what a line of 'final' says, behind so many states, the last final one, whether there is an arc -/
def stepFinal (st last : Int) (arcs : Bool) (l : List UInt8) : Option (Int × Int) :=
  match splitOn 32 l with
  | [a, b, c] => if a = bFinal ∧ arcs = false then (match numB b, numB c with | some x, some y => if inB x 0 (st - 1) && decide (last < x) then some (x, y) else none | _, _ => none) else none
  | _ => none

/-- what a line of an arc says -/
def stepArc (l : List UInt8) : Option ArcD :=
  match (splitOn 32 l).mapM numB with
  | some [a, b, c, d, e] => some ⟨a, b, c, d, e⟩
  | _ => none

end Go.Proofs.YteehgcbjmdideaaDoor
