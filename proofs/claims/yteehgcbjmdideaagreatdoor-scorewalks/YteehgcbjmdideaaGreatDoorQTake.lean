/- The reader of a text: 'takeHead' of package fst. -/
import Derived.Test.YteehgcbjmdideaaGreatDoorQMI
import Derived.Test.YteehgcbjmdideaaGreatDoorQMA
import Derived.ChangeAgain
namespace Go.Proofs.YteehgcbjmdideaaGreatDoor
open Go.RowKit
attribute [local go_sem ↓] Go.wp_at_zero Go.wp_at_succ

theorem shaped_below {w w' : World} (h : w.ShapedOpen Tryz.prog) (hb : Below w.heap.size w w') : w'.ShapedOpen Tryz.prog :=
  h.keptBut (hb.frame fun _ => False) (fun _ h => h.elim)

/-- the words of a line -/
def wordsB (s : ByteArray) : List ByteArray := Lib.splitB ⟨#[32]⟩ 0 (Lib.countB s ⟨#[32]⟩) s

theorem wordsB_eq (s : ByteArray) : fieldsOf (wordsB s) = splitOn 32 (listOf s) := split_pieces 32 s
theorem wordsB_len (s : ByteArray) : (wordsB s).length = Lib.countB s ⟨#[32]⟩ + 1 := by
  have h := congrArg List.length (wordsB_eq s)
  rw [splitOn_length] at h
  simp only [fieldsOf, List.length_map] at h
  rw [h]
  show List.count 32 (listOf s) + 1 = Lib.count s.data.toList [32] + 1
  rw [Lib.count_one]; rfl

theorem split_any (s : ByteArray) (w : World) (hsh : w.ShapedOpen Tryz.prog) (hs : s.size ≤ 100000) :
    Calls Tryz.prog 65 #[.string s, .string ⟨#[32]⟩] w fun e w' =>
      e = .returned (.slice (some ⟨w.heap.size, 0, none⟩) (wordsB s).length (wordsB s).length) ∧ w' = w.alloc (.cells ((wordsB s).map Value.string).toArray 9) := by
  have h := Tryz.strings_Split_shaped s ⟨#[32]⟩ w hsh (by omega) (by decide)
  rw [← wordsB_len] at h
  exact h

/-- each word is no longer than the line -/
theorem splitOn_le (c : UInt8) (l : List UInt8) : ∀ x ∈ splitOn c l, x.length ≤ l.length := by
  induction l with
  | nil => intro x hx; simp [splitOn] at hx; simp [hx]
  | cons y l ih =>
    intro x hx
    rw [splitOn] at hx
    split at hx
    · rcases List.mem_cons.1 hx with rfl | hx
      · simp
      · have := ih x hx; simp; omega
    · split at hx
      · rename_i h; exact absurd h (splitOn_ne c l)
      · rename_i h t heq
        rcases List.mem_cons.1 hx with rfl | hx
        · have := ih h (by rw [heq]; simp); simp; omega
        · have := ih x (by rw [heq]; simp [hx]); simp; omega

theorem wordsB_size (s : ByteArray) : ∀ x ∈ wordsB s, x.size ≤ s.size := by
  intro x hx
  have h := splitOn_le 32 (listOf s) (listOf x) (by rw [← wordsB_eq]; exact List.mem_map_of_mem hx)
  rw [listOf_len, listOf_len] at h
  exact h

/-- the reader's block -/
def RBlock (w : World) (rb : Nat) (st sta : Int) (fv av : Value) (last : Int) : Prop := w.heap[rb]? = some (.cells #[.int .i64 st, .int .i64 sta, fv, av, .int .i64 last] 91 (0, 0))

/-- all that was there, but for block rb, is as it was -/
structure Bel1 (rb : Nat) (w w' : World) : Prop where
  os : w'.os = w.os
  tape : w'.tape = w.tape
  output : w'.output = w.output
  size : w.heap.size ≤ w'.heap.size
  block : ∀ k, k < w.heap.size → k ≠ rb → w'.heap[k]? = w.heap[k]?

theorem Bel1.of {rb : Nat} {w w' : World} (h : Below w.heap.size w w') : Bel1 rb w w' := ⟨h.os, h.tape, h.output, h.size, fun k hk _ => h.block k hk⟩
theorem Bel1.trans {rb : Nat} {a b c : World} (h : Bel1 rb a b) (k : Bel1 rb b c) : Bel1 rb a c :=
  ⟨k.os.trans h.os, k.tape.trans h.tape, k.output.trans h.output, Nat.le_trans h.size k.size, fun i hi hn => (k.block i (Nat.lt_of_lt_of_le hi h.size) hn).trans (h.block i hi hn)⟩
theorem Bel1.set {rb i : Nat} {a w : World} (h : Bel1 rb a w) (v : Value) : Bel1 rb a (w.setCell ⟨rb, i, none⟩ v) :=
  h.trans ⟨rfl, rfl, rfl, Nat.le_of_eq (by simp), fun k _ hn => Below.heap_setCell w ⟨rb, i, none⟩ v k hn⟩
theorem Bel1.below {rb B : Nat} {w w' : World} (h : Bel1 rb w w') (hB : B ≤ rb) (hs : B ≤ w.heap.size) : Below B w w' := ⟨h.os, h.tape, h.output, h.size, fun k hk => h.block k (by omega) (by omega)⟩
theorem Bel1.heap {rb g : Nat} {w w' : World} {o : Obj} (h : Bel1 rb w w') (hg : w.heap[g]? = some o) (hn : g ≠ rb) : w'.heap[g]? = some o := by
  have : g < w.heap.size := by
    by_cases h : g < w.heap.size
    · exact h
    · rw [Array.getElem?_eq_none (by omega)] at hg; cases hg
  rw [h.block g this hn]; exact hg

theorem toList_data (a : ByteArray) (l : List UInt8) (h : listOf a = l) : a.toList = l := by rw [ByteArray.toList_eq]; exact h

theorem heap_lt {w : World} {g : Nat} {o : Obj} (hg : w.heap[g]? = some o) : g < w.heap.size := by
  by_cases h : g < w.heap.size
  · exact h
  · rw [Array.getElem?_eq_none (by omega)] at hg; cases hg

theorem two_le : 2 ≤ 1000000 := by decide
theorem two_pos : 0 < 2 := by decide

set_option maxHeartbeats 1000000 in
set_option maxRecDepth 100000 in
theorem takeHead_some (rb : Nat) (st0 sta0 last x y : Int) (fv0 av : Value) (s a b c d : ByteArray) (w : World) (hsh : w.ShapedOpen Tryz.prog) (hs : s.size ≤ 100000) (hw : wordsB s = [a, b, c, d]) (hR : RBlock w rb st0 sta0 fv0 av last)
    (ha : listOf a = bStates) (hc : listOf c = bStart) (hb : numB (listOf b) = some x) (hd : numB (listOf d) = some y) (hx : inB x 1 200 = true) :
    Calls Tryz.prog 54 #[.pointer (some ⟨rb, 0, none⟩), .string s] w fun e w' => e = .returned (.bool true) ∧
      ∃ G, RBlock w' rb x y (.slice (some ⟨G, 0, none⟩) x.toNat x.toNat) av last ∧ w'.heap[G]? = some (.cells (rowR (-1) x.toNat x.toNat).toArray 3 (0, 0)) ∧ w.heap.size ≤ G ∧ Bel1 rb w w' := by
  have hsp := split_any s w hsh hs
  rw [hw] at hsp
  have hsz := wordsB_size s
  rw [hw] at hsz
  have ha' : a.toList = [115, 116, 97, 116, 101, 115] := toList_data a _ ha
  have hc' : c.toList = [115, 116, 97, 114, 116] := toList_data c _ hc
  have hnums : numsB (fieldsOf [b, d]) = some [x, y] := by simp [numsB, fieldsOf, hb, hd]
  have hstrs : ∀ wx : World, ∀ N, wx.heap.size = N → StrsAt (wx.alloc (.cells #[.string b, .string d] 9)) N 0 2 [b, d] := by
    intro wx N hN
    refine ⟨rfl, fun i hi => ?_, fun z hz => ?_⟩
    · match i, hi with
      | 0, _ => exact new_cell _ _ _ _ _ _ hN rfl
      | 1, _ => exact new_cell _ _ _ _ _ _ hN rfl
    · have := hsz z (by simp at hz ⊢; rcases hz with rfl | rfl <;> simp)
      unfold maxLen; omega
  have HST : Hid (∀ wx : World, ∀ N, wx.heap.size = N → StrsAt (wx.alloc (.cells #[.string b, .string d] 9)) N 0 2 [b, d]) := hstrs
  have HNU : Hid (numsB (fieldsOf [b, d]) = some [x, y]) := hnums
  have c1 : (w.alloc (.cells #[.string a, .string b, .string c, .string d] 9)).cell? ⟨w.heap.size, 1, none⟩ = some (.string b) := new_cell _ _ _ _ _ _ rfl rfl
  have c3 : (w.alloc (.cells #[.string a, .string b, .string c, .string d] 9)).cell? ⟨w.heap.size, 3, none⟩ = some (.string d) := new_cell _ _ _ _ _ _ rfl rfl
  have hNs : (w.alloc (.cells #[.string a, .string b, .string c, .string d] 9)).drew.heap.size = w.heap.size + 1 := by simp
  clear hstrs hnums hb hd ha hc hw hsz
  go_enter Tryz.func54, Tryz.ntmps54
  go_wp2_with (go_at_call 65; refine hsp.mono ?_; rintro e w' ⟨rfl, rfl⟩)
  go_region_held3 (fun wx => wx.cell? ⟨w.heap.size, 1, none⟩ = some (.string b) ∧ wx.cell? ⟨w.heap.size, 3, none⟩ = some (.string d))
    (first | exact ⟨drew_cell c1, drew_cell c3⟩ | (go_split_ands; exact ⟨bel_c hbw (old_cell (by assumption)), bel_c hbw (old_cell (by assumption))⟩) | (go_split_ands; exact ⟨old_cell (by assumption), old_cell (by assumption)⟩) | go_keep)
    ((go_at_call 66; refine (numbers_some (w.heap.size + 1) 0 2 2 [b, d] [x, y] _ (HST.out _ _ hNs) two_le HNU.out two_pos).mono ?_; rintro e w2 ⟨g, o, cc, rfl, hI, hbw, hg⟩))
  have i0 : w2.cell? ⟨g, o, none⟩ = some (.int .i64 x) := by have := hI.cell 0 (by omega); simpa using this
  have i1 : w2.cell? ⟨g, o + 1, none⟩ = some (.int .i64 y) := by have := hI.cell 1 (by omega); simpa using this
  have hb2 : Below w.heap.size w w2 := bel_on (bel_up (bel_up (bel_self w) _).drew _) hbw
  have hR2 : RBlock w2 rb st0 sta0 fv0 av last := heap_bel hb2 hR
  have hrl : rb < w.heap.size := heap_lt hR
  have hgl : w.heap.size < g := by simp at hg; omega
  have hne : g ≠ rb := by omega
  have hne' : rb ≠ g := by omega
  have r0 := Go.Joins.cell_of_block hR2 0
  have r1 := Go.Joins.cell_of_block hR2 1
  have q0 := Go.Joins.unfrozen_of_block hR2 0
  have q1 := Go.Joins.unfrozen_of_block hR2 1
  simp at r0 r1
  clear hbw hI
  go_wp2_with (go_at_call 36; refine (within_any _ _ _ _).mono ?_; rintro e w' ⟨rfl, hw⟩; obtain rfl := hw.symm)
  go_region
  have hR3 : RBlock ((w2.setCell ⟨rb, 0, none⟩ (.int .i64 x)).setCell ⟨rb, 1, none⟩ (.int .i64 y)).drew rb x y fv0 av last := Go.Joins.block_setCell (Go.Joins.block_setCell hR2 _) _
  have hB3 : Bel1 rb w ((w2.setCell ⟨rb, 0, none⟩ (.int .i64 x)).setCell ⟨rb, 1, none⟩ (.int .i64 y)).drew := (((Bel1.of hb2).set _).set _).trans (Bel1.of (bel_self _).drew)
  generalize ((w2.setCell ⟨rb, 0, none⟩ (.int .i64 x)).setCell ⟨rb, 1, none⟩ (.int .i64 y)).drew = W3 at hR3 hB3 ⊢
  clear r0 r1 q0 q1 hR2 i0 i1
  have r0 : W3.cell? ⟨rb, 0, none⟩ = some (.int .i64 x) := by have := Go.Joins.cell_of_block hR3 0; simpa using this
  have hrl3 := heap_lt hR3
  obtain ⟨hx1, hx2⟩ := inB_le hx
  obtain ⟨X, rfl⟩ : ∃ X : Nat, x = (X : Int) := ⟨x.toNat, by omega⟩
  have hX1 : 1 ≤ X := by omega
  have hX2 : X ≤ 200 := by omega
  have hm1 : (W3.alloc (.cells #[.int .i64 (-1)] 3)).cell? ⟨W3.heap.size, 0, none⟩ = some (.int .i64 (-1)) := new_cell _ _ _ _ _ _ rfl rfl
  have hR4 : RBlock (W3.alloc (.cells #[.int .i64 (-1)] 3)) rb X y fv0 av last := heap_bel (bel_up (bel_self _) _) hR3
  have hB4 : Bel1 rb w (W3.alloc (.cells #[.int .i64 (-1)] 3)) := hB3.trans (Bel1.of (bel_up (bel_self _) _))
  go_wp2_with (go_at_call 67; refine (repeat_any (-1) W3.heap.size 0 1 X _ hm1 hX1 hX2).mono ?_; rintro e w5 ⟨rfl, hG, hbw⟩; have hR5 : RBlock w5 rb X y fv0 av last := heap_bel hbw hR4; have r2 := Go.Joins.cell_of_block hR5 2; have q2 := Go.Joins.unfrozen_of_block hR5 2; simp at r2)
  go_ret
  refine ⟨rfl, _, Go.Joins.block_setCell hR5 _, ?_, ?_, ?_⟩
  · rw [Below.heap_setCell _ _ _ _ (by simp; omega)]
    simpa using hG
  · have := hB4.size; simpa using this
  · exact (hB4.trans (Bel1.of hbw)).set _

theorem fields_not4 (s : ByteArray) (h : ¬ (wordsB s).length = 4) : stepHead (listOf s) = none := by
  unfold stepHead
  rw [← wordsB_eq]
  cases hw : fieldsOf (wordsB s) with
  | nil => rfl
  | cons a l =>
    match l, hw with
    | [], _ => rfl
    | [_], _ => rfl
    | [_, _], _ => rfl
    | [_, _, _], hw => exfalso; apply h; have := congrArg List.length hw; simpa [fieldsOf] using this
    | _ :: _ :: _ :: _ :: _, _ => rfl

theorem len4 (l : List ByteArray) (h : l.length = 4) : ∃ a b c d, l = [a, b, c, d] := by
  match l, h with
  | [a, b, c, d], _ => exact ⟨a, b, c, d, rfl⟩

set_option maxHeartbeats 1000000 in
set_option maxRecDepth 100000 in
theorem takeHead_none (rb : Nat) (s : ByteArray) (w : World) (hsh : w.ShapedOpen Tryz.prog) (hs : s.size ≤ 100000) (hn : stepHead (listOf s) = none) :
    Calls Tryz.prog 54 #[.pointer (some ⟨rb, 0, none⟩), .string s] w fun e w' => e = .returned (.bool false) ∧ Below w.heap.size w w' := by
  have hsp := split_any s w hsh hs
  have HN : Hid (stepHead (listOf s) = none) := hn
  clear hn
  by_cases h4 : (wordsB s).length = 4
  · obtain ⟨a, b, c, d, hw⟩ := len4 _ h4
    have hsz := wordsB_size s
    rw [hw] at hsp hsz
    have HE : Hid (fieldsOf [a, b, c, d] = splitOn 32 (listOf s)) := by rw [← hw]; exact wordsB_eq s
    have hBel := bel_up (bel_self w) (.cells ([a, b, c, d].map Value.string).toArray 9)
    clear h4 hw
    by_cases ha : listOf a = bStates
    · have ha' : a.toList = [115, 116, 97, 116, 101, 115] := toList_data a _ ha
      by_cases hc : listOf c = bStart
      · have hc' : c.toList = [115, 116, 97, 114, 116] := toList_data c _ hc
        have hstrs : ∀ wx : World, ∀ N, wx.heap.size = N → StrsAt (wx.alloc (.cells #[.string b, .string d] 9)) N 0 2 [b, d] := by
          intro wx N hN
          refine ⟨rfl, fun i hi => ?_, fun z hz => ?_⟩
          · match i, hi with
            | 0, _ => exact new_cell _ _ _ _ _ _ hN rfl
            | 1, _ => exact new_cell _ _ _ _ _ _ hN rfl
          · have := hsz z (by simp at hz ⊢; rcases hz with rfl | rfl <;> simp)
            unfold maxLen; omega
        have HST : Hid (∀ wx : World, ∀ N, wx.heap.size = N → StrsAt (wx.alloc (.cells #[.string b, .string d] 9)) N 0 2 [b, d]) := hstrs
        have c1 : (w.alloc (.cells #[.string a, .string b, .string c, .string d] 9)).cell? ⟨w.heap.size, 1, none⟩ = some (.string b) := new_cell _ _ _ _ _ _ rfl rfl
        have c3 : (w.alloc (.cells #[.string a, .string b, .string c, .string d] 9)).cell? ⟨w.heap.size, 3, none⟩ = some (.string d) := new_cell _ _ _ _ _ _ rfl rfl
        have hNs : (w.alloc (.cells #[.string a, .string b, .string c, .string d] 9)).drew.heap.size = w.heap.size + 1 := by simp
        clear hstrs hsz
        cases hnb : numsB (fieldsOf [b, d]) with
        | none =>
          have HNU : Hid (numsB (fieldsOf [b, d]) = none) := hnb
          clear hnb ha hc
          go_enter Tryz.func54, Tryz.ntmps54
          go_wp2_with (go_at_call 65; refine hsp.mono ?_; rintro e w' ⟨rfl, rfl⟩)
          go_region_held3 (fun wx => wx.cell? ⟨w.heap.size, 1, none⟩ = some (.string b) ∧ wx.cell? ⟨w.heap.size, 3, none⟩ = some (.string d))
            (first | exact ⟨drew_cell c1, drew_cell c3⟩ | (go_split_ands; exact ⟨bel_c hbw (old_cell (by assumption)), bel_c hbw (old_cell (by assumption))⟩) | (go_split_ands; exact ⟨old_cell (by assumption), old_cell (by assumption)⟩) | go_keep)
            ((go_at_call 66; refine (numbers_none (w.heap.size + 1) 0 2 2 [b, d] _ (HST.out _ _ hNs) two_le HNU.out).mono ?_; rintro e w2 ⟨rfl, hbw⟩))
          go_wp2
          go_ret
          exact ⟨rfl, bel_on (bel_up (bel_up (bel_self w) _).drew _) hbw⟩
        | some ns =>
          obtain ⟨x, y, rfl⟩ : ∃ x y, ns = [x, y] := by
            have := numsB_length _ _ hnb
            match ns, this with
            | [x, y], _ => exact ⟨x, y, rfl⟩
          have hx : inB x 1 200 = false := by
            cases hq : inB x 1 200 with
            | false => rfl
            | true =>
              exfalso
              have h1 := HN.out
              unfold stepHead at h1
              rw [← HE.out] at h1
              simp only [numsB, fieldsOf, List.map_cons, List.map_nil, List.mapM_cons, List.mapM_nil] at hnb
              cases q1 : numB (listOf b) with
              | none => simp [q1] at hnb
              | some u =>
                cases q2 : numB (listOf d) with
                | none => simp [q1, q2] at hnb
                | some v =>
                  simp [q1, q2] at hnb
                  obtain ⟨rfl, rfl⟩ := hnb
                  simp [fieldsOf, ha, hc, q1, q2, hq] at h1
          have HNU : Hid (numsB (fieldsOf [b, d]) = some [x, y]) := hnb
          clear hnb ha hc
          go_enter Tryz.func54, Tryz.ntmps54
          go_wp2_with (go_at_call 65; refine hsp.mono ?_; rintro e w' ⟨rfl, rfl⟩)
          go_region_held3 (fun wx => wx.cell? ⟨w.heap.size, 1, none⟩ = some (.string b) ∧ wx.cell? ⟨w.heap.size, 3, none⟩ = some (.string d))
            (first | exact ⟨drew_cell c1, drew_cell c3⟩ | (go_split_ands; exact ⟨bel_c hbw (old_cell (by assumption)), bel_c hbw (old_cell (by assumption))⟩) | (go_split_ands; exact ⟨old_cell (by assumption), old_cell (by assumption)⟩) | go_keep)
            ((go_at_call 66; refine (numbers_some (w.heap.size + 1) 0 2 2 [b, d] [x, y] _ (HST.out _ _ hNs) two_le HNU.out two_pos).mono ?_; rintro e w2 ⟨g, o, cc, rfl, hI, hbw, hg⟩))
          have i0 : w2.cell? ⟨g, o, none⟩ = some (.int .i64 x) := by have := hI.cell 0 (by omega); simpa using this
          go_wp2_with (go_at_call 36; refine (within_any _ _ _ _).mono ?_; rintro e w' ⟨rfl, hw⟩; obtain rfl := hw.symm)
          go_ret
          exact ⟨rfl, bel_on (bel_up (bel_up (bel_self w) _).drew _) hbw⟩
      · have hc' : ¬ c.toList = [115, 116, 97, 114, 116] := by rw [ByteArray.toList_eq]; exact hc
        have hc2 : (c.toList == [115, 116, 97, 114, 116]) = false := by simpa using hc'
        go_enter Tryz.func54, Tryz.ntmps54
        go_wp2_with (go_at_call 65; refine hsp.mono ?_; rintro e w' ⟨rfl, rfl⟩)
        go_ret
        exact ⟨rfl, hBel⟩
    · have ha' : ¬ a.toList = [115, 116, 97, 116, 101, 115] := by rw [ByteArray.toList_eq]; exact ha
      have ha2 : (a.toList == [115, 116, 97, 116, 101, 115]) = false := by simpa using ha'
      go_enter Tryz.func54, Tryz.ntmps54
      go_wp2_with (go_at_call 65; refine hsp.mono ?_; rintro e w' ⟨rfl, rfl⟩)
      go_ret
      exact ⟨rfl, hBel⟩
  · obtain ⟨K, hK⟩ : ∃ K, K = (wordsB s).length := ⟨_, rfl⟩
    rw [← hK] at hsp h4
    have hk1 : (K == 4) = false := by simpa using h4
    have hk2 : ((K : Int) == 4) = false := by rw [beq_eq_false_iff_ne]; omega
    go_enter Tryz.func54, Tryz.ntmps54
    go_wp2_with (go_at_call 65; refine hsp.mono ?_; rintro e w' ⟨rfl, rfl⟩)
    go_ret
    exact ⟨rfl, bel_up (bel_self w) _⟩

end Go.Proofs.YteehgcbjmdideaaGreatDoor
