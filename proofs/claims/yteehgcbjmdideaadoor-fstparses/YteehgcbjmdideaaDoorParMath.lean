/- What a text says as a whole: line by line from the first on. -/
import Derived.Test.YteehgcbjmdideaaDoorSpMath
namespace Go.Proofs.YteehgcbjmdideaaDoor

def fst0 : FstD := ⟨0, 0, [], []⟩

/-- what one line makes of what was read so far -/
def stepL (f : FstD) (last : Int) (l : List UInt8) : Option (FstD × Int) :=
  if f.states = 0 then (stepHead l).map fun p => (⟨p.1, p.2, List.replicate p.1.toNat (-1), f.arcs⟩, last)
  else if Lib.hasPrefix l bFinal then (stepFinal f.states last (decide (0 < f.arcs.length)) l).map fun p => (⟨f.states, f.start, f.final.set p.1.toNat p.2, f.arcs⟩, p.1)
  else (stepArc l).map fun a => (⟨f.states, f.start, f.final, f.arcs ++ [a]⟩, last)

/-- the number of the first line that is none of its form, or 0; and what was read -/
def runL : List (List UInt8) → Nat → FstD → Int → Nat × FstD
  | [], _, f, _ => (0, f)
  | [x], n, f, _ => if n ≠ 1 ∧ x = [] then (0, f) else (n, fst0)
  | x :: y :: r, n, f, last => match stepL f last x with
    | none => (n, fst0)
    | some p => runL (y :: r) (n + 1) p.1 p.2

structure Parsed where
  f : FstD
  line : Int
  err : Int

def parseD (s : List UInt8) : Parsed :=
  if 100000 < s.length then ⟨fst0, 0, 2⟩
  else if (runL (splitOn 10 s) 1 fst0 (-1)).1 ≠ 0 then ⟨fst0, (runL (splitOn 10 s) 1 fst0 (-1)).1, 1⟩
  else if checkD (runL (splitOn 10 s) 1 fst0 (-1)).2 ≠ 0 then ⟨fst0, 0, checkD (runL (splitOn 10 s) 1 fst0 (-1)).2⟩
  else ⟨(runL (splitOn 10 s) 1 fst0 (-1)).2, 0, 0⟩

theorem runL_miss (l : List UInt8) (n : Nat) (f : FstD) (last : Int) (h : Lib.indexByte l 10 = -1) (hn : n = 1 ∨ l ≠ []) : runL (splitOn 10 l) n f last = (n, fst0) := by
  rw [splitOn_miss 10 l h, runL, if_neg]
  rintro ⟨h1, h2⟩
  rcases hn with hn | hn
  · exact h1 hn
  · exact hn h2

theorem runL_end (n : Nat) (f : FstD) (last : Int) (hn : n ≠ 1) : runL (splitOn 10 []) n f last = (0, f) := by
  show runL [[]] n f last = (0, f)
  rw [runL, if_pos ⟨hn, rfl⟩]

theorem runL_hit (l : List UInt8) (i n : Nat) (f : FstD) (last : Int) (h : Lib.indexByte l 10 = i) : runL (splitOn 10 l) n f last = match stepL f last (l.take i) with | none => (n, fst0) | some p => runL (splitOn 10 (l.drop (i + 1))) (n + 1) p.1 p.2 := by
  rw [splitOn_hit 10 l i h]
  cases hs : splitOn 10 (l.drop (i + 1)) with
  | nil => exact absurd hs (splitOn_ne _ _)
  | cons a t => rw [runL]

theorem runL_none (l : List UInt8) (i n : Nat) (f : FstD) (last : Int) (h : Lib.indexByte l 10 = i) (hs : stepL f last (l.take i) = none) : runL (splitOn 10 l) n f last = (n, fst0) := by rw [runL_hit l i n f last h, hs]
theorem runL_some (l : List UInt8) (i n : Nat) (f : FstD) (last : Int) (p : FstD × Int) (h : Lib.indexByte l 10 = i) (hs : stepL f last (l.take i) = some p) : runL (splitOn 10 l) n f last = runL (splitOn 10 (l.drop (i + 1))) (n + 1) p.1 p.2 := by rw [runL_hit l i n f last h, hs]

theorem indexByte_lt (l : List UInt8) (c : UInt8) (i : Nat) (h : Lib.indexByte l c = i) : i < l.length := by
  induction l generalizing i with
  | nil => simp [Lib.indexByte] at h
  | cons x l ih =>
    rw [Lib.indexByte] at h
    by_cases e : x = c
    · subst e; simp at h; simp; omega
    · have e' : (x == c) = false := by simpa using e
      simp [e'] at h
      by_cases q : Lib.indexByte l c = -1
      · rw [if_pos q] at h; omega
      · rw [if_neg q] at h
        have hg := Lib.indexByte_ge l c
        have := ih (i - 1) (by omega)
        simp; omega

end Go.Proofs.YteehgcbjmdideaaDoor
