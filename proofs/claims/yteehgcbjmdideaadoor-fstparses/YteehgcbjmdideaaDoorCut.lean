/- 'Cut' of the document's answer. -/
import Derived.Test.YteehgcbjmdideaaDoorParse
import Derived.Test.YteehgcbjmdideaaDoorBackMath
import Derived.Test.YteehgcbjmdideaaDoorDigs
import Derived.Test.YteehgcbjmdideaaDoorSpMath
namespace Go.Proofs.YteehgcbjmdideaaDoor
open Go.RowKit
attribute [local go_sem ↓] Go.wp_at_zero Go.wp_at_succ

theorem Tryd.info9 : (Tryd.prog.info? 9).map (fun i => (i.zero, i.size, i.bytes)) = some (some (.string ByteArray.empty), 1, 16) := by kernel_rfl

theorem cutL_none (c : UInt8) (a : List UInt8) (h : ∀ x ∈ a, x ≠ c) : splitOn c a = [a] := by
  induction a with
  | nil => rfl
  | cons x a ih => rw [splitOn, if_neg (h x (by simp)), ih (fun y hy => h y (by simp [hy]))]

theorem cutL_pre (c : UInt8) (a b : List UInt8) (h : ∀ x ∈ a, x ≠ c) : splitOn c (a ++ c :: b) = a :: splitOn c b := by
  induction a with
  | nil => rw [List.nil_append, splitOn, if_pos rfl]
  | cons x a ih => rw [List.cons_append, splitOn, if_neg (h x (by simp)), ih (fun y hy => h y (by simp [hy]))]

/-- what is cut so far -/
structure CutAt (s : ByteArray) (c : UInt8) (k f : Nat) (ss : List ByteArray) : Prop where
  hf : f ≤ k
  hk : k ≤ s.size
  eq : fieldsOf ss ++ splitOn c ((listOf s).drop f) = splitOn c (listOf s)
  no : ∀ x ∈ ((listOf s).drop f).take (k - f), x ≠ c
  few : ss.length ≤ f
  size : ∀ t ∈ ss, t.size ≤ s.size

theorem CutAt.start (s : ByteArray) (c : UInt8) : CutAt s c 0 0 [] := ⟨Nat.le_refl _, Nat.zero_le _, by simp [fieldsOf], by simp, by simp, by simp⟩

theorem cutL_take {l : List UInt8} {k f : Nat} (hf : f ≤ k) (hk : k < l.length) : (l.drop f).take (k + 1 - f) = (l.drop f).take (k - f) ++ [l[k]] := by
  rw [show k + 1 - f = (k - f) + 1 by omega, List.take_succ_eq_append_getElem (by simp; omega)]
  simp [show f + (k - f) = k by omega]

theorem cutL_drop {l : List UInt8} {k f : Nat} (hf : f ≤ k) (hk : k < l.length) : l.drop f = (l.drop f).take (k - f) ++ l[k] :: l.drop (k + 1) := by
  have h := List.take_append_drop (k - f) (l.drop f)
  rw [List.drop_drop, show f + (k - f) = k by omega, List.drop_eq_getElem_cons hk] at h
  exact h.symm

theorem listOf_at (s : ByteArray) (k : Nat) (h : k < s.size) : (listOf s)[k]'(by rw [listOf_len]; exact h) = s[k] := by
  have := listOf_get s k h
  rw [List.getElem?_eq_getElem (by rw [listOf_len]; exact h)] at this
  exact Option.some.inj this

theorem CutAt.miss {s : ByteArray} {c : UInt8} {k f : Nat} {ss : List ByteArray} (h : CutAt s c k f ss) (hk : k < s.size) (hc : s[k] ≠ c) : CutAt s c (k + 1) f ss := by
  have hl := listOf_len s
  have := h.hf
  refine ⟨by omega, by omega, h.eq, ?_, h.few, h.size⟩
  rw [cutL_take h.hf (by omega)]
  intro x hx
  rcases List.mem_append.1 hx with hx | hx
  · exact h.no x hx
  · simp only [List.mem_singleton] at hx
    rw [hx, listOf_at s k hk]; exact hc

theorem listOf_extract (s : ByteArray) (i j : Nat) : listOf (s.extract i j) = ((listOf s).drop i).take (j - i) := by
  simp [listOf, ByteArray.data_extract, List.extract_eq_take_drop]

theorem CutAt.hit {s : ByteArray} {c : UInt8} {k f : Nat} {ss : List ByteArray} (h : CutAt s c k f ss) (hk : k < s.size) (hc : s[k] = c) : CutAt s c (k + 1) (k + 1) (ss ++ [s.extract f k]) := by
  have hl := listOf_len s
  have hf := h.hf
  have hfew := h.few
  refine ⟨by omega, by omega, ?_, by simp, by simp; omega, ?_⟩
  · have e := h.eq
    rw [cutL_drop (l := listOf s) h.hf (by omega), listOf_at s k hk, hc, cutL_pre c _ _ h.no] at e
    rw [← e]
    simp [fieldsOf, listOf_extract]
  · intro t ht
    rcases List.mem_append.1 ht with ht | ht
    · exact h.size t ht
    · simp only [List.mem_singleton] at ht
      rw [ht, ByteArray.size_extract]; omega

theorem CutAt.last {s : ByteArray} {c : UInt8} {f : Nat} {ss : List ByteArray} (h : CutAt s c s.size f ss) : fieldsOf (ss ++ [s.extract f s.size]) = splitOn c (listOf s) := by
  have hl := listOf_len s
  rw [← h.eq]
  have e : ((listOf s).drop f).take (s.size - f) = (listOf s).drop f := List.take_of_length_le (by simp; omega)
  have hn := h.no
  rw [e] at hn
  rw [cutL_none c _ hn]
  simp [fieldsOf, listOf_extract, e]

theorem ownsRow_strs {w : World} {B g : Nat} {v : Value} {ss : List ByteArray} (h : w.ownsRow B g 1 v ss.length (ss.map Value.string)) (hz : ∀ t ∈ ss, t.size ≤ maxLen) (h0 : 0 < ss.length) : ∃ b cap, v = .slice (some ⟨b, 0, none⟩) ss.length cap ∧ StrsAt w b 0 ss.length ss ∧ B ≤ b ∧ ss.length ≤ cap ∧ cap ≤ maxLen := by
  obtain ⟨_, h⟩ := h
  rcases h with ⟨rfl, h⟩ | ⟨g, cap, cur, rfl, hB, hh, h1, h2, h3, h4⟩
  · omega
  · refine ⟨g, cap, rfl, ⟨rfl, fun i hi => ?_, hz⟩, hB, h1, h2⟩
    have : (cur.toList.take (ss.length * 1))[i]? = some (.string (ss.getD i ByteArray.empty)) := by
      rw [h4]; simp [List.getD, hi]
    rw [List.getElem?_take] at this
    simp only [Nat.mul_one, hi, if_true, Array.getElem?_toList] at this
    simp [World.cell?, hh, this]

set_option maxHeartbeats 1000000 in
set_option maxRecDepth 1000000 in
theorem cutRef_any (s : ByteArray) (c : UInt8) (w : World) (hs : s.size ≤ 1000000) :
    Calls Tryd.prog 34 #[.string s, .int .u8 (c.toNat : Int)] w fun e w' =>
      (∃ b cap ss, e = .returned (.slice (some ⟨b, 0, none⟩) ss.length cap) ∧ StrsAt w' b 0 ss.length ss ∧ w.heap.size ≤ b ∧ fieldsOf ss = splitOn c (listOf s) ∧ ss.length ≤ cap ∧ cap ≤ maxLen) ∧ Below w.heap.size w w' := by
  obtain ⟨i0, hi, hz0, hz1, hz2⟩ := info_parts Tryd.info9
  go_enter Tryd.func34, Tryd.ntmps34
  go_wp2
  go_loopw [5, 6, 7] (fun v g i wr => ∃ (k f : Nat) (ss : List ByteArray), i = .int .i64 k ∧ g = .int .i64 f ∧ CutAt s c k f ss ∧ wr.ownsRow w.heap.size 9 1 v ss.length (ss.map Value.string) ∧ Below w.heap.size w wr) (fun _ _ i _ => s.size - (intOf i).toNat)
  case atStart => exact ⟨0, 0, [], rfl, rfl, CutAt.start s c, World.ownsRow_nil _ _ _ _, bel_self _⟩
  case round =>
    obtain ⟨k, f, ss, rfl, rfl, hC, hown, hb⟩ := hrel
    have hf := hC.hf
    have hk := hC.hk
    have hfew := hC.few
    by_cases hlt : k < s.size
    · have hgt : s[k].toNat < 256 := UInt8.toNat_lt _
      by_cases hc : s[k] = c
      · have hci : (s[k].toNat : Int) = (c.toNat : Int) := by rw [hc]
        have HC : Hid (CutAt s c (k + 1) (k + 1) (ss ++ [s.extract f k])) := hC.hit hlt hc
        clear hC hc
        go_wp2_with (at_builtin; refine wpList_append_own _ rfl _ _ 46 rfl w.heap.size 9 i0 (.string ByteArray.empty) 1 16 Tryd.underlying46 hi hz0 hz1 hz2 rfl (by decide) _ _ _ rfl (hown.alloc _) ⟨wr.heap.size, 0, none⟩ 1 1 [.string (s.extract f k)] rfl rfl ?c1 ?c2 ?c3 ?c4 ?c5 ?_)
        case c1 =>
          intro j u hj
          match j, hj with
          | 0, hj => simp at hj; subst hj; simp [Addr.add]
        case c2 => intro u hu; simp at hu; subst hu; rfl
        case c3 => unfold maxLen; omega
        case c4 => omega
        case c5 => have := hb.size; simp; omega
        intro v' w1 hown' hgrow _
        have hb1 : Below w.heap.size w w1 := (bel_up hb _).grown hgrow (by have := hb.size; simp; omega) (ownsRow_base hown)
        clear hgrow hown hb
        go_wp2
        go_roundw
        case rel => exact ⟨k + 1, k + 1, ss ++ [s.extract f k], by go_num, by go_num, HC.out, by simpa using hown', hb1⟩
        case measure => simp [intOf]; omega
      · have hci : ((s[k].toNat : Int) == (c.toNat : Int)) = false := by
          rw [beq_eq_false_iff_ne]; intro e; exact hc (UInt8.toNat_inj.1 (by omega))
        have HC : Hid (CutAt s c (k + 1) f ss) := hC.miss hlt hc
        clear hC hc
        go_wp2
        go_roundw
        case rel => exact ⟨k + 1, f, ss, by go_num, rfl, HC.out, hown, hb⟩
        case measure => simp [intOf]; omega
    · have hks : k = s.size := by omega
      subst hks
      have HC : Hid (fieldsOf (ss ++ [s.extract f s.size]) = splitOn c (listOf s)) := hC.last
      have HZ : Hid (∀ t ∈ ss ++ [s.extract f s.size], t.size ≤ maxLen) := by
        intro t ht
        unfold maxLen
        rcases List.mem_append.1 ht with ht | ht
        · have := hC.size t ht; omega
        · simp only [List.mem_singleton] at ht
          rw [ht, ByteArray.size_extract]; omega
      clear hC
      go_wp2_with (at_builtin; refine wpList_append_own _ rfl _ _ 46 rfl w.heap.size 9 i0 (.string ByteArray.empty) 1 16 Tryd.underlying46 hi hz0 hz1 hz2 rfl (by decide) _ _ _ rfl (hown.alloc _) ⟨wr.heap.size, 0, none⟩ 1 1 [.string (s.extract f s.size)] rfl rfl ?c1 ?c2 ?c3 ?c4 ?c5 ?_)
      case c1 =>
        intro j u hj
        match j, hj with
        | 0, hj => simp at hj; subst hj; simp [Addr.add]
      case c2 => intro u hu; simp at hu; subst hu; rfl
      case c3 => unfold maxLen; omega
      case c4 => omega
      case c5 => have := hb.size; simp; omega
      intro v' w1 hown' hgrow _
      have hb1 : Below w.heap.size w w1 := (bel_up hb _).grown hgrow (by have := hb.size; simp; omega) (ownsRow_base hown)
      clear hgrow hown hb
      go_wp2
      go_ret
      obtain ⟨b, cap, rfl, hst, hB, hc1, hc2⟩ := ownsRow_strs (ss := ss ++ [s.extract f s.size]) (by simpa using hown') HZ.out (by simp)
      exact ⟨⟨b, cap, _, rfl, hst, hB, HC.out, hc1, hc2⟩, hb1⟩

end Go.Proofs.YteehgcbjmdideaaDoor
