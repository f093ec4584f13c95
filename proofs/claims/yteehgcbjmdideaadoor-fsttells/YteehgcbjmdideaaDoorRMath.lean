/- What a text says, line by line: numbers, lines, the transducer that is read. -/
import Derived.Test.YteehgcbjmdideaaDoorPMath
namespace Go.Proofs.YteehgcbjmdideaaDoor

def digB (c : UInt8) : Bool := decide (48 ≤ c.toNat) && decide (c.toNat ≤ 57)
def valB (l : List UInt8) : Int := l.foldl (fun n c => n * 10 + ((c.toNat : Int) - 48)) 0

theorem valB_snoc (l : List UInt8) (c : UInt8) : valB (l ++ [c]) = valB l * 10 + ((c.toNat : Int) - 48) := by simp [valB]

theorem foldV_bd (l : List UInt8) (a : Int) (ha : 0 ≤ a) (h : ∀ c ∈ l, digB c = true) : 0 ≤ l.foldl (fun n c => n * 10 + ((c.toNat : Int) - 48)) a ∧ l.foldl (fun n c => n * 10 + ((c.toNat : Int) - 48)) a + 1 ≤ (a + 1) * 10 ^ l.length := by
  induction l generalizing a with
  | nil => simp; omega
  | cons c l ih =>
    have hc := h c (by simp)
    simp [digB] at hc
    have ih := ih (a * 10 + ((c.toNat : Int) - 48)) (by omega) (fun x hx => h x (by simp [hx]))
    simp only [List.foldl_cons, List.length_cons]
    refine ⟨ih.1, Int.le_trans ih.2 ?_⟩
    have hp : (0 : Int) ≤ 10 ^ l.length := Int.pow_nonneg (by decide)
    rw [Int.pow_succ, show (a + 1) * (10 ^ l.length * 10) = ((a + 1) * 10) * 10 ^ l.length by rw [Int.mul_assoc, Int.mul_comm (10 ^ l.length) 10]]
    exact Int.mul_le_mul_of_nonneg_right (by omega) hp

theorem valB_bd (l : List UInt8) (h : ∀ c ∈ l, digB c = true) : 0 ≤ valB l ∧ valB l + 1 ≤ 10 ^ l.length := by
  have := foldV_bd l 0 (by omega) h
  simpa [valB] using this

theorem valB_lt (l : List UInt8) (h : ∀ c ∈ l, digB c = true) (hl : l.length ≤ 10) : 0 ≤ valB l ∧ valB l < 10000000000 := by
  have h1 := valB_bd l h
  have h2 : (10 : Int) ^ l.length ≤ 10 ^ 10 := by
    have := Nat.pow_le_pow_right (show 0 < 10 by decide) hl
    exact_mod_cast this
  omega

/-- is it the form of a number? -/
def formB (l : List UInt8) : Bool := !(decide (l.length < 1) || decide (10 < l.length) || (decide (1 < l.length) && decide (l.getD 0 0 = 48))) && l.all digB

def numB (l : List UInt8) : Option Int := if formB l then some (valB l) else none

end Go.Proofs.YteehgcbjmdideaaDoor
