/- 'Undigits' of the document's answer. -/
import Derived.Test.YteehgcbjmdideaaDoorCut
namespace Go.Proofs.YteehgcbjmdideaaDoor
open Go.RowKit
attribute [local go_sem ↓] Go.wp_at_zero Go.wp_at_succ

theorem numB_undig (l : List UInt8) (h2 : l.length ≤ 10) (hd : ∀ c ∈ l, digB c = true) (he : Lib.itoa (valB l) = l) : numB l = some (valB l) := by
  have hb := valB_lt l hd h2
  have := numB_itoa (valB l) hb.1 hb.2
  rw [he] at this
  exact this

theorem numB_form {l : List UInt8} {n : Int} (h : numB l = some n) : formB l = true ∧ n = valB l := by
  unfold numB at h
  split at h
  · rename_i hf; exact ⟨hf, (Option.some.inj h).symm⟩
  · cases h

theorem numB_bad (l : List UInt8) (h : l.length < 1 ∨ 10 < l.length ∨ (∃ c ∈ l, digB c = false) ∨ Lib.itoa (valB l) ≠ l) : numB l = none := by
  cases hn : numB l with
  | none => rfl
  | some n =>
    exfalso
    obtain ⟨hf, rfl⟩ := numB_form hn
    have hback := (numB_back l _ hn).1
    unfold formB at hf
    simp only [Bool.and_eq_true, Bool.not_eq_true', Bool.or_eq_false_iff, decide_eq_false_iff_not, List.all_eq_true] at hf
    rcases h with h | h | ⟨c, hc, h⟩ | h
    · exact hf.1.1.1 h
    · exact hf.1.1.2 h
    · rw [hf.2 c hc] at h; cases h
    · exact h hback

theorem owns_bel {w w' : World} {B e size n : Nat} {v : Value} {xs : List Value} (h : w.ownsRow B e size v n xs) (hb : Below w.heap.size w w') : w'.ownsRow B e size v n xs := by
  obtain ⟨h0, h⟩ := h
  refine ⟨h0, ?_⟩
  rcases h with h | ⟨g, cap, cur, rfl, hB, hh, h1⟩
  · exact Or.inl h
  · exact Or.inr ⟨g, cap, cur, rfl, hB, heap_bel hb hh, h1⟩

/-- what 'Undigits' answers -/
def UnRes (B : Nat) (m : Int) (ls : List (List UInt8)) (v : Value) (q : Bool) (w : World) : Prop := if (ls.length : Int) = m then NumsRes B ls v q w else q = false ∧ v = .slice none 0 0

def UnPost (B : Nat) (m : Int) (ls : List (List UInt8)) (e : Ending) (w : World) : Prop := ∃ v q, e = .returned (.tuple #[v, .bool q]) ∧ UnRes B m ls v q w

set_option maxHeartbeats 1000000 in
set_option maxRecDepth 1000000 in
theorem undigits_any (b off n cap : Nat) (ss : List ByteArray) (m : Int) (w : World) (hx : StrsAt w b off n ss) (hn : n ≤ 1000000) :
    Calls Tryd.prog 35 #[.slice (some ⟨b, off, none⟩) n cap, .int .i64 m] w fun e w' =>
      UnPost w.heap.size m (fieldsOf ss) e w' ∧ Below w.heap.size w w' := by
  obtain ⟨i0, hi, hz0, hz1, hz2⟩ := info_parts Tryd.info3
  have hlen := hx.len
  by_cases hm : (n : Int) = m
  · subst hm
    have HU : Hid (∀ (v : Value) (q : Bool) (w' : World), NumsRes w.heap.size (fieldsOf ss) v q w' → UnRes w.heap.size n (fieldsOf ss) v q w') := by
      intro v q w' h
      unfold UnRes
      rw [if_pos (by simp [fieldsOf, hlen])]
      exact h
    go_enter Tryd.func35, Tryd.ntmps35
    go_wp2
    go_loopw [4, 5, 6, 7] (fun _ _ v i wr => ∃ (k : Nat) (ns : List Int), k ≤ n ∧ i = .int .i64 k ∧ numsB ((fieldsOf ss).take k) = some ns ∧ wr.ownsRow w.heap.size 3 1 v ns.length (ns.map (Value.int .i64)) ∧ Below w.heap.size w wr) (fun _ _ _ i _ => n - (intOf i).toNat)
    case atStart => exact ⟨0, [], Nat.zero_le _, rfl, rfl, World.ownsRow_nil _ _ _ _, bel_self _⟩
    case round =>
      obtain ⟨k, ns, hk, rfl, hns, hown, hb⟩ := hrel
      have HN : Hid (numsB ((fieldsOf ss).take k) = some ns) := hns
      have hnl : ns.length = k := by rw [numsB_length _ _ hns]; simp [fieldsOf]; omega
      clear hns
      by_cases hlt : k < n
      · have c0 := (hx.below hb).cell k hlt
        obtain ⟨s, hsk⟩ : ∃ s, s = ss.getD k ByteArray.empty := ⟨_, rfl⟩
        rw [← hsk] at c0
        have hmem : s ∈ ss := by rw [hsk]; simp [List.getD, show k < ss.length by omega]
        have HT : Hid ((fieldsOf ss).take (k + 1) = (fieldsOf ss).take k ++ [listOf s]) := by
          show (fieldsOf ss).take (k + 1) = (fieldsOf ss).take k ++ [listOf s]
          rw [List.take_succ_eq_append_getElem (by simp [fieldsOf]; omega)]
          simp [fieldsOf, hsk, List.getD, show k < ss.length by omega]
        have HM : Hid (listOf s ∈ fieldsOf ss) := List.mem_map_of_mem hmem
        have hl := listOf_len s
        have hsz : s.size ≤ maxLen := hx.size s hmem
        unfold maxLen at hsz
        clear hsk hmem
        have HB : Hid (numB (listOf s) = none → ∀ w' : World, UnRes w.heap.size n (fieldsOf ss) (.slice none 0 0) false w') := fun h w' => HU.out _ _ _ (NumsRes.none (numsB_none _ _ HM.out h))
        by_cases h1 : s.size < 1
        · have h1i : (s.size : Int) < 1 := by omega
          have HX : Hid (numB (listOf s) = none) := numB_bad _ (Or.inl (by omega))
          go_wp2
          go_ret2
          exact ⟨⟨_, _, rfl, HB.out HX.out _⟩, hb⟩
        · by_cases h2 : 10 < s.size
          · have h1i : (1 : Int) ≤ (s.size : Int) := by omega
            have h2i : ¬ ((s.size : Int) ≤ 10) := by omega
            have HX : Hid (numB (listOf s) = none) := numB_bad _ (Or.inr (Or.inl (by omega)))
            go_wp2
            go_ret2
            exact ⟨⟨_, _, rfl, HB.out HX.out _⟩, hb⟩
          · have h1i : (1 : Int) ≤ (s.size : Int) := by omega
            have h2i : (s.size : Int) ≤ 10 := by omega
            go_wp2
            go_loop [4, 5, 8, 9] (fun _ _ m j => ∃ q : Nat, q ≤ s.size ∧ j = .int .i64 q ∧ (∀ c ∈ (listOf s).take q, digB c = true) ∧ m = .int .i64 (valB ((listOf s).take q))) (fun _ _ _ j => s.size - (intOf j).toNat)
            case atStart => exact ⟨0, Nat.zero_le _, rfl, by simp, rfl⟩
            case round =>
              obtain ⟨q, hq, rfl, hall, rfl⟩ := hrel
              have hbd := valB_lt _ hall (by rw [List.length_take]; omega)
              have HA : Hid (∀ c ∈ (listOf s).take q, digB c = true) := hall
              clear hall
              obtain ⟨x, hv⟩ : ∃ x, x = valB ((listOf s).take q) := ⟨_, rfl⟩
              rw [← hv] at hbd ⊢
              have HV : Hid (x = valB ((listOf s).take q)) := hv
              clear hv
              by_cases hlq : q < s.size
              · have HTq : Hid ((listOf s).take (q + 1) = (listOf s).take q ++ [s[q]]) := listOf_take s q hlq
                have hgt : s[q].toNat < 256 := UInt8.toNat_lt _
                by_cases hd : 48 ≤ s[q].toNat ∧ s[q].toNat ≤ 57
                · obtain ⟨d1, d2⟩ := hd
                  have d1i : (48 : Int) ≤ (s[q].toNat : Int) := by omega
                  have d2i : (s[q].toNat : Int) ≤ 57 := by omega
                  go_wp2
                  go_round
                  case rel =>
                    refine ⟨u4, u5, .int .i64 (10 * x + s[q].toNat - 48), .int .i64 ((q : Int) + 1), ⟨q + 1, by omega, by go_num, ?_, ?_⟩, rfl, rfl, rfl, rfl⟩
                    · intro c hc
                      rw [HTq.out] at hc
                      rcases List.mem_append.1 hc with hc | hc
                      · exact HA.out c hc
                      · simp at hc; subst hc; simp [digB, d1, d2]
                    · rw [HTq.out, valB_snoc, ← HV.out]; go_num
                  case measure => simp [intOf]; omega
                · have HX : Hid (numB (listOf s) = none) := numB_bad _ (Or.inr (Or.inr (Or.inl ⟨s[q], List.mem_of_getElem? (listOf_get s q hlq), by simp [digB]; omega⟩)))
                  by_cases d1 : (s[q].toNat : Int) < 48
                  · go_wp2
                    go_ret2
                    exact ⟨⟨_, _, rfl, HB.out HX.out _⟩, hb⟩
                  · have d1' : (48 : Int) ≤ (s[q].toNat : Int) := by omega
                    have d2 : (57 : Int) < (s[q].toNat : Int) := by omega
                    go_wp2
                    go_ret2
                    exact ⟨⟨_, _, rfl, HB.out HX.out _⟩, hb⟩
              · have htk : (listOf s).take q = listOf s := List.take_of_length_le (by omega)
                have hxv : x = valB (listOf s) := by rw [HV.out, htk]
                have hcall := fun w' : World => digits_any x hbd.1 (by omega) w'
                have cd : wr.drew.cell? ⟨b, off + k, none⟩ = some (.string s) := bel_c (bel_self wr).drew c0
                by_cases he : Lib.itoa x = listOf s
                · have HS : strOf (Lib.itoa x) = s := by rw [he]; rfl
                  simp only [HS] at hcall
                  have HNN : Hid (numsB ((fieldsOf ss).take (k + 1)) = some (ns ++ [x])) := by
                    show numsB ((fieldsOf ss).take (k + 1)) = some (ns ++ [x])
                    rw [HT.out]
                    refine numsB_snoc_some _ _ _ _ HN.out ?_
                    rw [hxv] at he ⊢
                    exact numB_undig _ (by omega) (fun c hc => HA.out c (by rw [htk]; exact hc)) he
                  clear he HS hxv htk
                  go_wp2
                  go_region_held3 (fun wx => wx.cell? ⟨b, off + k, none⟩ = some (.string s)) (first | exact cK | exact cd) (first | (go_at_call 25; refine (hcall _).mono ?_; rintro e w1 ⟨rfl, hbd1⟩; have cK := bel_c hbd1 cd))
                  have hb1 : Below w.heap.size w w1 := bel_on hb.drew hbd1
                  have hown1 := owns_bel (owns_bel hown (bel_self wr).drew) hbd1
                  go_wp2_with (at_builtin; refine wpList_append_own _ rfl _ _ 22 rfl w.heap.size 3 i0 (.int .i64 0) 1 8 Tryd.underlying22 hi hz0 hz1 hz2 rfl (by decide) _ _ _ rfl (hown1.alloc _) ⟨w1.heap.size, 0, none⟩ 1 1 [.int .i64 x] rfl rfl ?c1 ?c2 ?c3 ?c4 ?c5 ?_)
                  case c1 =>
                    intro j u hj
                    match j, hj with
                    | 0, hj => simp at hj; subst hj; simp [Addr.add]
                  case c2 => intro u hu; simp at hu; subst hu; rfl
                  case c3 => unfold maxLen; omega
                  case c4 => omega
                  case c5 => have := hb1.size; simp; omega
                  intro v' w2 hown' hgrow _
                  have hb2 : Below w.heap.size w w2 := (bel_up hb1 _).grown hgrow (by have := hb1.size; simp; omega) (ownsRow_base hown1)
                  clear hgrow hown hown1 hb hb1
                  go_wp2
                  go_roundw
                  case rel => exact ⟨k + 1, ns ++ [x], by omega, by go_num, HNN.out, by simpa [hnl] using hown', hb2⟩
                  case measure => simp [intOf]; omega
                · have HX : Hid (numB (listOf s) = none) := numB_bad _ (Or.inr (Or.inr (Or.inr (by rw [← hxv]; exact he))))
                  have hne : ((strOf (Lib.itoa x)).toList == s.toList) = false := by
                    rw [beq_eq_false_iff_ne, ByteArray.toList_eq, ByteArray.toList_eq]
                    intro h; exact he ((listOf_strOf _).symm.trans h)
                  generalize strOf (Lib.itoa x) = t at *
                  clear hxv htk he
                  go_wp2
                  go_region_held3 (fun wx => wx.cell? ⟨b, off + k, none⟩ = some (.string s)) (first | exact cK | exact cd) (first | (go_at_call 25; refine (hcall _).mono ?_; rintro e w1 ⟨rfl, hbd1⟩; have cK := bel_c hbd1 cd))
                  go_wp2
                  go_ret2
                  exact ⟨⟨_, _, rfl, HB.out HX.out _⟩, bel_on hb.drew hbd1⟩
      · have hkn : (fieldsOf ss).take k = fieldsOf ss := List.take_of_length_le (by simp [fieldsOf]; omega)
        have HR : Hid (numsB (fieldsOf ss) = some ns) := hkn ▸ HN.out
        clear hkn
        go_wp2
        go_ret2
        exact ⟨⟨_, _, rfl, HU.out _ _ _ (NumsRes.some HR.out (ownsRow_ints hown) (ownsRow_base hown))⟩, hb⟩
  · have hmb : ((n : Int) == m) = false := by rw [beq_eq_false_iff_ne]; exact hm
    have HU : Hid (∀ w' : World, UnRes w.heap.size m (fieldsOf ss) (.slice none 0 0) false w') := by
      intro w'
      unfold UnRes
      rw [if_neg (by simp [fieldsOf, hlen]; exact hm)]
      exact ⟨rfl, rfl⟩
    go_enter Tryd.func35, Tryd.ntmps35
    go_wp2
    go_ret2
    exact ⟨⟨_, _, rfl, HU.out _⟩, bel_self _⟩

end Go.Proofs.YteehgcbjmdideaaDoor
