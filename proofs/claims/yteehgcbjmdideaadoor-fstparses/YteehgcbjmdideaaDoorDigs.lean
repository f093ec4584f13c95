/- 'Digits', 'PrintFst' of the document's answer. -/
import Derived.Test.YteehgcbjmdideaaDoorPrn
import Derived.Test.YteehgcbjmdideaaDoorBackMath
import Derived.Test.YteehgcbjmdideaaDoorTakeF
import Derived.Outline
import Derived.Laws.IdiomStrings
namespace Go.Proofs.YteehgcbjmdideaaDoor
open Go.RowKit
attribute [local go_sem ↓] Go.wp_at_zero Go.wp_at_succ

theorem conv_one (u : Nat) (h : u < 10) (w : World) : (convert 43 9 (.slice (some ⟨w.heap.size, 0, none⟩) 1 1)).run Tryd.prog (w.alloc (.cells #[.int .u8 (48 + (u : Int))] 5)) = .ok (.string (strOf [UInt8.ofNat (48 + u)])) (w.alloc (.cells #[.int .u8 (48 + (u : Int))] 5)) := by
  refine run_convert_bytes_back (P := Tryd.prog) _ 43 9 5 ⟨w.heap.size, 0, none⟩ 1 [UInt8.ofNat (48 + u)] Tryd.underlying43 Tryd.underlying5 Tryd.underlying9 (fun j hj => ?_)
  have hj0 : j = 0 := by simpa using hj
  subst hj0
  have : (⟨w.heap.size, 0, none⟩ : Addr).add 0 = ⟨w.heap.size, 0, none⟩ := rfl
  rw [this, new_cell w _ _ _ 0 (.int .u8 (48 + (u : Int))) rfl rfl]
  have e := ofNat_toNat (48 + u) (by omega)
  simp only [List.getElem_cons_zero, e]
  rfl

set_option maxRecDepth 100000 in
theorem digits_small (u : Nat) (h : u < 10) (w : World) :
    Calls Tryd.prog 25 #[.int .i64 (u : Int)] w fun e w' => e = .returned (.string (strOf (Lib.decDigits u))) ∧ Below w.heap.size w w' := by
  have h1 : (u : Int) < 10 := by omega
  have h2 : (48 : Int) + u ≤ 57 := by omega
  have hcv := conv_one u h w
  rw [dec_small h]
  go_enter Tryd.func25, Tryd.ntmps25
  go_wp2
  exact bodyPost_ret (v := .string (strOf [UInt8.ofNat (48 + u)])) (by simp [results, Tryd.results25, go_sem]) rfl ⟨rfl, bel_up (bel_self _) _⟩

theorem strOf_append (a b : List UInt8) : strOf a ++ strOf b = strOf (a ++ b) := by
  apply ByteArray.ext
  simp [strOf]

theorem decDigits_le (u : Nat) (h : u < 18446744073709551616) : (Lib.decDigits u).length ≤ 20 := by
  rw [Lib.decDigits_length]; exact Lib.nDigits_le20 u h

set_option maxRecDepth 100000 in
theorem digits_step (u : Nat) (h : 10 ≤ u) (hu : u ≤ 9223372036854775807) (w : World) (ih : ∀ w' : World, Calls Tryd.prog 25 #[.int .i64 ((u / 10 : Nat) : Int)] w' fun e w'' => e = .returned (.string (strOf (Lib.decDigits (u / 10)))) ∧ Below w'.heap.size w' w'') :
    Calls Tryd.prog 25 #[.int .i64 (u : Int)] w fun e w' => e = .returned (.string (strOf (Lib.decDigits u))) ∧ Below w.heap.size w w' := by
  have h1 : (10 : Int) ≤ u := by omega
  have hq : ((u / 10 : Nat) : Int) = (u : Int) / 10 := by omega
  have hr : ((u % 10 : Nat) : Int) = (u : Int) % 10 := by omega
  have l1 : (strOf (Lib.decDigits (u / 10))).size ≤ 20 := by rw [size_strOf]; exact decDigits_le _ (by omega)
  have l2 : (strOf (Lib.decDigits (u % 10))).size ≤ 20 := by rw [size_strOf]; exact decDigits_le _ (by omega)
  have ih2 : ∀ w' : World, Calls Tryd.prog 25 #[.int .i64 ((u : Int) % 10)] w' fun e w'' => e = .returned (.string (strOf (Lib.decDigits (u % 10)))) ∧ Below w'.heap.size w' w'' := fun w' => by
    have := digits_small (u % 10) (by omega) w'
    rw [hr] at this
    exact this
  rw [hq] at ih
  have HE : Hid (strOf (Lib.decDigits (u / 10)) ++ strOf (Lib.decDigits (u % 10)) = strOf (Lib.decDigits u)) := by
    show _ = strOf (Lib.decDigits u)
    rw [dec_big (u := u) (by omega), dec_small (u := u % 10) (by omega), strOf_append]
  generalize strOf (Lib.decDigits (u / 10)) = s1 at *
  generalize strOf (Lib.decDigits (u % 10)) = s2 at *
  have HI : Hid (∀ w' : World, Calls Tryd.prog 25 #[.int .i64 ((u : Int) / 10)] w' fun e w'' => e = .returned (.string s1) ∧ Below w'.heap.size w' w'') := ih
  have HI2 : Hid (∀ w' : World, Calls Tryd.prog 25 #[.int .i64 ((u : Int) % 10)] w' fun e w'' => e = .returned (.string s2) ∧ Below w'.heap.size w' w'') := ih2
  clear ih ih2 hq hr
  go_enter Tryd.func25, Tryd.ntmps25
  go_wp2_with (first | (go_at_call 25; refine (HI2.out w1).mono ?_; rintro e w2 ⟨rfl, hb2⟩) | (go_at_call 25; refine (HI.out w).mono ?_; rintro e w1 ⟨rfl, hb1⟩))
  exact bodyPost_ret (v := .string (s1 ++ s2)) (by simp [results, Tryd.results25, go_sem]) rfl ⟨by rw [HE.out], bel_on hb1 hb2⟩

theorem digits_nat (u : Nat) : u ≤ 9223372036854775807 → ∀ w : World, Calls Tryd.prog 25 #[.int .i64 (u : Int)] w fun e w' => e = .returned (.string (strOf (Lib.decDigits u))) ∧ Below w.heap.size w w' := by
  induction u using Nat.strongRecOn with
  | _ u ih =>
    intro hu w
    by_cases h : u < 10
    · exact digits_small u h w
    · exact digits_step u (by omega) hu w (ih (u / 10) (by omega) (by omega))

theorem digits_any (x : Int) (h0 : 0 ≤ x) (h1 : x ≤ 9223372036854775807) (w : World) : Calls Tryd.prog 25 #[.int .i64 x] w fun e w' => e = .returned (.string (strOf (Lib.itoa x))) ∧ Below w.heap.size w w' := by
  obtain ⟨u, rfl⟩ : ∃ u : Nat, x = u := ⟨x.toNat, by omega⟩
  rw [Lib.itoa_nonneg]
  exact digits_nat u (by omega) w

end Go.Proofs.YteehgcbjmdideaaDoor
