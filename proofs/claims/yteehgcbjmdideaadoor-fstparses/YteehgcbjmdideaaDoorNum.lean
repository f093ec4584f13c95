/- 'number' and 'numbers' of package fst. -/
import Derived.Test.YteehgcbjmdideaaDoorPrn
import Derived.Test.YteehgcbjmdideaaDoorRMath
namespace Go.Proofs.YteehgcbjmdideaaDoor
open Go.RowKit
attribute [local go_sem ↓] Go.wp_at_zero Go.wp_at_succ

def listOf (s : ByteArray) : List UInt8 := s.data.toList

theorem listOf_len (s : ByteArray) : (listOf s).length = s.size := Array.length_toList
theorem listOf_take (s : ByteArray) (k : Nat) (h : k < s.size) : (listOf s).take (k + 1) = (listOf s).take k ++ [s[k]] := by
  unfold listOf; rw [List.take_succ_eq_append_getElem (by simpa using h)]; rfl
theorem listOf_get (s : ByteArray) (k : Nat) (h : k < s.size) : (listOf s)[k]? = some s[k] := by
  unfold listOf; rw [Array.getElem?_toList]; exact Array.getElem?_eq_getElem h

def numV (l : List UInt8) : Value := match numB l with | some n => .tuple #[.int .i64 n, .bool true] | none => .tuple #[.int .i64 0, .bool false]

theorem numB_none {l : List UInt8} (h : formB l = false) : numV l = .tuple #[.int .i64 0, .bool false] := by simp [numV, numB, h]
theorem numB_some {l : List UInt8} (h : formB l = true) : numV l = .tuple #[.int .i64 (valB l), .bool true] := by simp [numV, numB, h]

theorem form_head (s : ByteArray) (h1 : 1 ≤ s.size) (h2 : s.size ≤ 10) (h3 : s.size ≤ 1 ∨ ∃ h : 0 < s.size, s[0].toNat ≠ 48) : formB (listOf s) = (listOf s).all digB := by
  unfold formB
  have hl := listOf_len s
  have e1 : decide ((listOf s).length < 1) = false := decide_eq_false (by omega)
  have e2 : decide (10 < (listOf s).length) = false := decide_eq_false (by omega)
  rw [e1, e2]
  rcases h3 with h | ⟨h, hne⟩
  · have e3 : decide (1 < (listOf s).length) = false := decide_eq_false (by omega)
    rw [e3]; simp
  · have : (listOf s).getD 0 0 = s[0] := by rw [List.getD, listOf_get s 0 h]; rfl
    have e4 : decide ((listOf s).getD 0 0 = 48) = false := by
      rw [this]; simp; intro hh; apply hne; rw [hh]; rfl
    rw [e4]; simp

theorem form_zero (s : ByteArray) (h1 : 1 < s.size) (h : s[0].toNat = 48) : formB (listOf s) = false := by
  unfold formB
  have hl := listOf_len s
  have e3 : decide (1 < (listOf s).length) = true := decide_eq_true (by omega)
  have : (listOf s).getD 0 0 = s[0] := by rw [List.getD, listOf_get s 0 (by omega)]; rfl
  have e4 : decide ((listOf s).getD 0 0 = 48) = true := by
    rw [this]; simp; exact UInt8.toNat_inj.1 h
  rw [e3, e4]; simp

theorem form_size (s : ByteArray) (h : s.size < 1 ∨ 10 < s.size) : formB (listOf s) = false := by
  unfold formB
  have hl := listOf_len s
  rcases h with h | h
  · have e1 : decide ((listOf s).length < 1) = true := decide_eq_true (by omega)
    rw [e1]; simp
  · have e2 : decide (10 < (listOf s).length) = true := decide_eq_true (by omega)
    rw [e2]; simp

theorem ret_val {a b : Value} (h : a = b) : Ending.returned a = .returned b := by rw [h]

theorem number_head (s : ByteArray) (w : World) (h1 : 1 ≤ s.size) (h2 : s.size ≤ 10) (h3 : s.size ≤ 1 ∨ ∃ h : 0 < s.size, s[0].toNat ≠ 48) :
    Calls Tryd.prog 74 #[.string s] w fun e w' => e = .returned (numV (listOf s)) ∧ w = w' := by
  have hform := form_head s h1 h2 h3
  have HFO : Hid (formB (listOf s) = (listOf s).all digB) := hform
  have hl := listOf_len s
  have h1i : (1 : Int) ≤ (s.size : Int) := by omega
  have h2i : (s.size : Int) ≤ 10 := by omega
  have key : (∀ h : 0 < s.size, 1 < s.size → ((s[0].toNat : Int) == 48) = false) := by
    intro h h'
    rcases h3 with h3 | ⟨_, hne⟩
    · omega
    · rw [beq_eq_false_iff_ne]; omega
  clear hform h3
  by_cases hone : 1 < s.size
  all_goals
    first | (have hone' : (1 : Int) < (s.size : Int) := by omega) | (have hone' : (s.size : Int) ≤ 1 := by omega)
    first | (have hz := key (by omega) hone) | skip
    clear key
    go_enter Tryd.func74, Tryd.ntmps74
    go_wp2
    go_loop [4, 26] (fun n i => ∃ k : Nat, k ≤ s.size ∧ i = .int .i64 k ∧ (∀ c ∈ (listOf s).take k, digB c = true) ∧ n = .int .i64 (valB ((listOf s).take k))) (fun _ i => s.size - (intOf i).toNat)
    case atStart => exact ⟨0, Nat.zero_le _, rfl, by simp, rfl⟩
    case round =>
      obtain ⟨k, hk, rfl, hall, rfl⟩ := hrel
      have hbd := valB_lt _ hall (by rw [List.length_take]; omega)
      have HA : Hid (∀ c ∈ (listOf s).take k, digB c = true) := hall
      clear hall
      obtain ⟨v, hv⟩ : ∃ v, v = valB ((listOf s).take k) := ⟨_, rfl⟩
      rw [← hv] at hbd ⊢
      have HV : Hid (v = valB ((listOf s).take k)) := hv
      clear hv
      by_cases hlt : k < s.size
      · have hts := listOf_take s k hlt
        have HT : Hid ((listOf s).take (k + 1) = (listOf s).take k ++ [s[k]]) := hts
        have hgt : s[k].toNat < 256 := UInt8.toNat_lt _
        clear hts
        by_cases hd : 48 ≤ s[k].toNat ∧ s[k].toNat ≤ 57
        · obtain ⟨d1, d2⟩ := hd
          have d1i : (48 : Int) ≤ (s[k].toNat : Int) := by omega
          have d2i : (s[k].toNat : Int) ≤ 57 := by omega
          go_wp2
          go_round
          case rel =>
            refine ⟨k + 1, by omega, by go_num, ?_, ?_⟩
            · intro c hc
              rw [HT.out] at hc
              rcases List.mem_append.1 hc with hc | hc
              · exact HA.out c hc
              · simp at hc; subst hc; simp [digB, d1, d2]
            · rw [HT.out, valB_snoc, ← HV.out]
          case measure => simp [intOf]; omega
        · have hf : formB (listOf s) = false := by
            rw [HFO.out, List.all_eq_false]
            refine ⟨s[k], List.mem_of_getElem? (listOf_get s k hlt), ?_⟩
            simp [digB]; omega
          have HN : Hid (numV (listOf s) = .tuple #[.int .i64 0, .bool false]) := numB_none hf
          clear hf
          by_cases d1 : (s[k].toNat : Int) < 48
          · go_wp2
            go_ret2
            exact ⟨ret_val HN.out.symm, rfl⟩
          · have d1' : (48 : Int) ≤ (s[k].toNat : Int) := by omega
            have d2 : (57 : Int) < (s[k].toNat : Int) := by omega
            go_wp2
            go_ret2
            exact ⟨ret_val HN.out.symm, rfl⟩
      · have htk : (listOf s).take k = listOf s := List.take_of_length_le (by omega)
        have HN : Hid (numV (listOf s) = .tuple #[.int .i64 v, .bool true]) := by
          have := numB_some (l := listOf s) (by rw [HFO.out, List.all_eq_true]; intro c hc; exact HA.out c (by rw [htk]; exact hc))
          rw [HV.out, htk]; exact this
        clear htk
        go_wp2
        go_ret2
        exact ⟨ret_val HN.out.symm, rfl⟩

theorem number_any (s : ByteArray) (w : World) (hs : s.size ≤ maxLen) :
    Calls Tryd.prog 74 #[.string s] w fun e w' => e = .returned (numV (listOf s)) ∧ w = w' := by
  unfold maxLen at hs
  by_cases h : s.size < 1 ∨ 10 < s.size
  · have HN : Hid (numV (listOf s) = .tuple #[.int .i64 0, .bool false]) := numB_none (form_size s h)
    rcases h with h | h
    · have hi : (s.size : Int) < 1 := by omega
      go_enter Tryd.func74, Tryd.ntmps74
      go_wp2
      go_ret2
      exact ⟨ret_val HN.out.symm, rfl⟩
    · have hi : (10 : Int) < (s.size : Int) := by omega
      go_enter Tryd.func74, Tryd.ntmps74
      go_wp2
      go_ret2
      exact ⟨ret_val HN.out.symm, rfl⟩
  · by_cases hz : ∃ h : 1 < s.size, s[0].toNat = 48
    · obtain ⟨h1, h0⟩ := hz
      have HN : Hid (numV (listOf s) = .tuple #[.int .i64 0, .bool false]) := numB_none (form_zero s h1 h0)
      have a1 : (1 : Int) ≤ (s.size : Int) := by omega
      have a2 : (s.size : Int) ≤ 10 := by omega
      have a3 : (1 : Int) < (s.size : Int) := by omega
      have a4 : ((s[0].toNat : Int) == 48) = true := by rw [h0]; rfl
      clear h0
      go_enter Tryd.func74, Tryd.ntmps74
      go_wp2
      go_ret2
      exact ⟨ret_val HN.out.symm, rfl⟩
    · refine number_head s w (by omega) (by omega) ?_
      by_cases h1 : 1 < s.size
      · exact Or.inr ⟨by omega, fun h0 => hz ⟨h1, h0⟩⟩
      · exact Or.inl (by omega)

end Go.Proofs.YteehgcbjmdideaaDoor
