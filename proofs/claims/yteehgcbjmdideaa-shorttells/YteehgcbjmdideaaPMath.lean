/- The text of a transducer, as bytes: one line a piece; how long it is at most. -/
import Derived.Test.YteehgcbjmdideaaFMath
import Derived.Lib.Join
import Derived.Lib.ItoaLen
import Derived.Lib.UnsafeStr
namespace Go.Proofs.Yteehgcbjmdideaa

def bStates : List UInt8 := [115, 116, 97, 116, 101, 115]
def bStart : List UInt8 := [115, 116, 97, 114, 116]
def bFinal : List UInt8 := [102, 105, 110, 97, 108]

/-- words with a blank between, a line feed behind -/
def lineB (l : List (List UInt8)) : List UInt8 := Lib.join l [32] ++ [10]

def headB (st sta : Int) : List UInt8 := lineB [bStates, Lib.itoa st, bStart, Lib.itoa sta]
def finalB (k : Nat) (x : Int) : List UInt8 := lineB [bFinal, Lib.itoa k, Lib.itoa x]
def arcB (a : ArcD) : List UInt8 := lineB [Lib.itoa a.src, Lib.itoa a.inp, Lib.itoa a.out, Lib.itoa a.dst, Lib.itoa a.wt]

def finalsB (xs : List Int) (k : Nat) : List UInt8 := (List.range k).flatMap fun i => if xs.getD i 0 = -1 then [] else finalB i (xs.getD i 0)
def arcsB (l : List ArcD) (k : Nat) : List UInt8 := (List.range k).flatMap fun i => arcB (l.getD i a0)

def printD (f : FstD) : List UInt8 := headB f.states f.start ++ finalsB f.final f.final.length ++ arcsB f.arcs f.arcs.length

theorem finalsB_hit (xs : List Int) (k : Nat) (x : Int) (hx : x = xs.getD k 0) (h : x ≠ -1) : finalsB xs (k + 1) = finalsB xs k ++ finalB k x := by
  subst hx
  simp only [finalsB, List.range_succ, List.flatMap_append, List.flatMap_cons, List.flatMap_nil, List.append_nil]
  rw [if_neg h]
theorem finalsB_miss (xs : List Int) (k : Nat) (h : xs.getD k 0 = -1) : finalsB xs (k + 1) = finalsB xs k := by
  simp only [finalsB, List.range_succ, List.flatMap_append, List.flatMap_cons, List.flatMap_nil, List.append_nil]
  rw [if_pos h, List.append_nil]
theorem arcsB_succ (l : List ArcD) (k : Nat) (a : ArcD) (ha : a = l.getD k a0) : arcsB l (k + 1) = arcsB l k ++ arcB a := by
  subst ha
  simp only [arcsB, List.range_succ, List.flatMap_append, List.flatMap_cons, List.flatMap_nil, List.append_nil]

/-- numbers of int's kind -/
def in64 (n : Int) : Prop := -9223372036854775808 ≤ n ∧ n ≤ 9223372036854775807
theorem in64_z : in64 0 := ⟨by decide, by decide⟩

theorem itoa_le (n : Int) (h : in64 n) : (Lib.itoa n).length ≤ 21 := Lib.itoa_length_le n h.1 h.2

theorem headB_le (st sta : Int) (h1 : in64 st) (h2 : in64 sta) : (headB st sta).length ≤ 100 := by
  have a := itoa_le st h1
  have b := itoa_le sta h2
  simp [headB, lineB, Lib.join_cons, Lib.joinTail, bStates, bStart]; omega
theorem finalB_le (k : Nat) (x : Int) (h1 : in64 k) (h2 : in64 x) : (finalB k x).length ≤ 100 := by
  have a := itoa_le k h1
  have b := itoa_le x h2
  simp [finalB, lineB, Lib.join_cons, Lib.joinTail, bFinal]; omega
theorem arcB_le (a : ArcD) (h0 : in64 a.src) (h1 : in64 a.inp) (h2 : in64 a.out) (h3 : in64 a.dst) (h4 : in64 a.wt) : (arcB a).length ≤ 120 := by
  have e0 := itoa_le _ h0
  have e1 := itoa_le _ h1
  have e2 := itoa_le _ h2
  have e3 := itoa_le _ h3
  have e4 := itoa_le _ h4
  simp [arcB, lineB, Lib.join_cons, Lib.joinTail]; omega

theorem finalsB_le (xs : List Int) (k : Nat) (hk : k ≤ 1000) (h : ∀ x ∈ xs, in64 x) (h0 : in64 0) : (finalsB xs k).length ≤ 100 * k := by
  induction k with
  | zero => simp [finalsB]
  | succ k ih =>
    have ih := ih (by omega)
    by_cases e : xs.getD k 0 = -1
    · rw [finalsB_miss xs k e]; omega
    · have hx : in64 (xs.getD k 0) := by
        by_cases hk : k < xs.length
        · exact h _ (by simp [List.getD, hk])
        · simp [List.getD, hk, h0]
      have := finalB_le k _ ⟨by omega, by omega⟩ hx
      rw [finalsB_hit xs k _ rfl e, List.length_append]; omega

def arcIn64 (a : ArcD) : Prop := in64 a.src ∧ in64 a.inp ∧ in64 a.out ∧ in64 a.dst ∧ in64 a.wt

theorem arcsB_le (l : List ArcD) (k : Nat) (h : ∀ a ∈ l, arcIn64 a) : (arcsB l k).length ≤ 120 * k := by
  induction k with
  | zero => simp [arcsB]
  | succ k ih =>
    have hx : arcIn64 (l.getD k a0) := by
      by_cases hk : k < l.length
      · exact h _ (by simp [List.getD, hk])
      · simp only [List.getD, List.getElem?_eq_none, Option.getD_none, Nat.not_lt.1 hk]
        exact ⟨in64_z, in64_z, in64_z, in64_z, in64_z⟩
    have := arcB_le _ hx.1 hx.2.1 hx.2.2.1 hx.2.2.2.1 hx.2.2.2.2
    rw [arcsB_succ l k _ rfl, List.length_append]; omega

/-- an arc that may stand in a transducer of so many states -/
structure ArcOk (st : Int) (a : ArcD) : Prop where
  src : inB a.src 0 (st - 1) = true
  dst : inB a.dst 0 (st - 1) = true
  inp : inB a.inp 0 9 = true
  out : inB a.out 0 9 = true
  wt : inB a.wt 0 1000000000 = true

theorem arcErr_ok (st : Int) (p : Option ArcD) (a : ArcD) (h : arcErr st p a = 0) : ArcOk st a := by
  unfold arcErr at h
  cases h0 : inB a.src 0 (st - 1) <;> cases h1 : inB a.dst 0 (st - 1) <;> simp [h0, h1] at h
  cases h2 : inB a.inp 0 9 <;> cases h3 : inB a.out 0 9 <;> cases h4 : inB a.wt 0 1000000000 <;> simp [h2, h3, h4] at h
  exact ⟨h0, h1, h2, h3, h4⟩

theorem arcsErr_ok (st : Int) (l : List ArcD) (p : Option ArcD) (h : arcsErr st p l = 0) : ∀ a ∈ l, ArcOk st a := by
  induction l generalizing p with
  | nil => intro a ha; cases ha
  | cons b l ih =>
    rw [arcsErr] at h
    by_cases e : arcErr st p b = 0
    · rw [if_pos e] at h
      intro a ha
      rcases List.mem_cons.1 ha with rfl | ha
      · exact arcErr_ok _ _ _ e
      · exact ih _ h a ha
    · rw [if_neg e] at h; exact absurd h e

structure CheckOk (f : FstD) : Prop where
  states : inB f.states 1 200 = true
  start : inB f.start 0 (f.states - 1) = true
  len : (f.final.length : Int) = f.states
  fin : ∀ x ∈ f.final, finB x = false
  many : f.arcs.length ≤ 3000
  err : arcsErr f.states none f.arcs = 0
  arcs : ∀ a ∈ f.arcs, ArcOk f.states a

theorem check_ok (f : FstD) (h : checkD f = 0) : CheckOk f := by
  unfold checkD at h
  cases h0 : inB f.states 1 200 <;> simp only [h0, Bool.not_false, Bool.not_true, if_true, if_false, Bool.false_eq_true] at h
  · exact absurd h (by decide)
  cases h1 : inB f.start 0 (f.states - 1) <;> simp only [h1, Bool.not_false, Bool.not_true, if_true, if_false, Bool.false_eq_true] at h
  · exact absurd h (by decide)
  by_cases h2 : (f.final.length : Int) = f.states
  · rw [if_neg (by simpa using h2)] at h
    cases h3 : f.final.any finB <;> simp only [h3, if_true, if_false, Bool.false_eq_true] at h
    · by_cases h4 : 3000 < f.arcs.length
      · rw [if_pos h4] at h; exact absurd h (by decide)
      · rw [if_neg h4] at h
        exact ⟨h0, h1, h2, by simpa using h3, by omega, h, arcsErr_ok _ _ _ h⟩
    · exact absurd h (by decide)
  · rw [if_pos (by simpa using h2)] at h; exact absurd h (by decide)

theorem finB_out {x : Int} (h : finB x = false) : (x = -1 ∨ (0 ≤ x ∧ x ≤ 1000000000)) ∧ in64 x := by
  unfold finB inB at h
  by_cases e : x = -1
  · subst e; exact ⟨Or.inl rfl, by decide, by decide⟩
  · have : (x != -1) = true := by simpa using e
    rw [this] at h
    simp at h
    exact ⟨Or.inr h, ⟨by omega, by omega⟩⟩

theorem arcOk_in64 {st : Int} {a : ArcD} (h : ArcOk st a) (h1 : 1 ≤ st) (h2 : st ≤ 200) : arcIn64 a := by
  have e0 := h.src
  have e1 := h.dst
  have e2 := h.inp
  have e3 := h.out
  have e4 := h.wt
  unfold inB at e0 e1 e2 e3 e4
  simp at e0 e1 e2 e3 e4
  refine ⟨⟨?_, ?_⟩, ⟨?_, ?_⟩, ⟨?_, ?_⟩, ⟨?_, ?_⟩, ⟨?_, ?_⟩⟩ <;> omega

end Go.Proofs.Yteehgcbjmdideaa
