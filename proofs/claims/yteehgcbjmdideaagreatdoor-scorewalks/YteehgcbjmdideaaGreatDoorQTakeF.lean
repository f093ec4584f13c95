/- The reader of a text: 'takeFinal' of package fst. -/
import Derived.Test.YteehgcbjmdideaaGreatDoorQTake
import Derived.Lib.QuietBelow
namespace Go.Proofs.YteehgcbjmdideaaGreatDoor
open Go.RowKit
attribute [local go_sem ↓] Go.wp_at_zero Go.wp_at_succ

def intsV (xs : List Int) : List Value := xs.map (Value.int .i64)
theorem intsV_set (xs : List Int) (k : Nat) (y : Int) : (intsV xs).toArray.setIfInBounds k (.int .i64 y) = (intsV (xs.set k y)).toArray := by simp [intsV, List.map_set]

theorem three_strs (wx : World) (a b c : ByteArray) (N : Nat) (hN : wx.heap.size = N) (hb : b.size ≤ maxLen) (hc : c.size ≤ maxLen) : StrsAt (wx.alloc (.cells #[.string a, .string b, .string c] 9)) N 1 2 [b, c] := by
  refine ⟨rfl, fun i hi => ?_, fun z hz => ?_⟩
  · match i, hi with
    | 0, _ => exact new_cell _ _ _ _ _ _ hN rfl
    | 1, _ => exact new_cell _ _ _ _ _ _ hN rfl
  · simp at hz; rcases hz with rfl | rfl <;> assumption

set_option maxHeartbeats 1000000 in
set_option maxRecDepth 100000 in
theorem takeFinal_some (B rb G n X : Nat) (sta last y : Int) (xs : List Int) (s a b c : ByteArray) (w : World) (hsh : w.ShapedOpen Tryz.prog) (hs : s.size ≤ 100000) (hw : wordsB s = [a, b, c])
    (hR : RBlock w rb n sta (.slice (some ⟨G, 0, none⟩) n n) (.slice none 0 0) last) (hG : w.heap[G]? = some (.cells (intsV xs).toArray 3 (0, 0))) (hxs : xs.length = n) (hrG : rb ≠ G) (hBr : B ≤ rb) (hBG : B ≤ G) (hn : n ≤ 200)
    (ha : listOf a = bFinal) (hb : numB (listOf b) = some (X : Int)) (hc : numB (listOf c) = some y) (hX : X < n) (hlast : last < X) :
    Calls Tryz.prog 56 #[.pointer (some ⟨rb, 0, none⟩), .string s] w fun e w' => e = .returned (.bool true) ∧
      RBlock w' rb n sta (.slice (some ⟨G, 0, none⟩) n n) (.slice none 0 0) X ∧ w'.heap[G]? = some (.cells (intsV (xs.set X y)).toArray 3 (0, 0)) ∧ Below B w w' := by
  have hsp := split_any s w hsh hs
  have hsz := wordsB_size s
  rw [hw] at hsp hsz
  have ha' : a.toList = [102, 105, 110, 97, 108] := toList_data a _ ha
  have HNU : Hid (numsB (fieldsOf [b, c]) = some [(X : Int), y]) := by show numsB (fieldsOf [b, c]) = _; simp [numsB, fieldsOf, hb, hc]
  have hst := three_strs w a b c w.heap.size rfl (by have := hsz b (by simp); unfold maxLen; omega) (by have := hsz c (by simp); unfold maxLen; omega)
  have hBel := bel_up (bel_self w) (.cells #[.string a, .string b, .string c] 9)
  have hR1 : RBlock (w.alloc (.cells #[.string a, .string b, .string c] 9)) rb n sta (.slice (some ⟨G, 0, none⟩) n n) (.slice none 0 0) last := heap_bel hBel hR
  have hrl := heap_lt hR
  have hs1 : -1000 ≤ (n : Int) := by omega
  have hs2 : (n : Int) ≤ 1000 := by omega
  have hGl := heap_lt hG
  have r3 : (w.alloc (.cells #[.string a, .string b, .string c] 9)).cell? ⟨rb, 3, none⟩ = some (.slice none 0 0) := by have := Go.Joins.cell_of_block hR1 3; simpa using this
  clear hw hsz ha hb hc
  go_enter Tryz.func56, Tryz.ntmps56
  go_wp2_with (first | (go_at_call 65; refine hsp.mono ?_; rintro e w' ⟨rfl, rfl⟩) | (go_at_call 66; refine (numbers_some w.heap.size 1 2 2 [b, c] [(X : Int), y] _ hst two_le HNU.out two_pos).mono ?_; rintro e w2 ⟨g, o, cc, rfl, hI, hbw, hg⟩))
  have hb2 : Below w.heap.size w w2 := bel_on hBel hbw
  have hR2 : RBlock w2 rb n sta (.slice (some ⟨G, 0, none⟩) n n) (.slice none 0 0) last := heap_bel hb2 hR
  have hG2 : w2.heap[G]? = some (.cells (intsV xs).toArray 3 (0, 0)) := heap_bel hb2 hG
  have i0 : w2.cell? ⟨g, o, none⟩ = some (.int .i64 X) := by have := hI.cell 0 (by omega); simpa using this
  have i1 : w2.cell? ⟨g, o + 1, none⟩ = some (.int .i64 y) := by have := hI.cell 1 (by omega); simpa using this
  have hgl : w.heap.size < g := by simp at hg; omega
  have p0 : w2.cell? ⟨rb, 0, none⟩ = some (.int .i64 n) := by have := Go.Joins.cell_of_block hR2 0; simpa using this
  have p1 : w2.cell? ⟨rb, 1, none⟩ = some (.int .i64 sta) := by have := Go.Joins.cell_of_block hR2 1; simpa using this
  have p2 : w2.cell? ⟨rb, 2, none⟩ = some (.slice (some ⟨G, 0, none⟩) n n) := by have := Go.Joins.cell_of_block hR2 2; simpa using this
  have p3 : w2.cell? ⟨rb, 3, none⟩ = some (.slice none 0 0) := by have := Go.Joins.cell_of_block hR2 3; simpa using this
  have p4 : w2.cell? ⟨rb, 4, none⟩ = some (.int .i64 last) := by have := Go.Joins.cell_of_block hR2 4; simpa using this
  have hin : inB (X : Int) 0 ((n : Int) - 1) = true := by simp [inB]; omega
  have hlast' : decide ((X : Int) ≤ last) = false := by simp; omega
  clear hI hbw r3 hst hR1
  go_region_held3 (fun wx => wx.cell? ⟨g, o, none⟩ = some (.int .i64 X) ∧ wx.cell? ⟨rb, 0, none⟩ = some (.int .i64 n) ∧ wx.cell? ⟨rb, 1, none⟩ = some (.int .i64 sta) ∧ wx.cell? ⟨rb, 2, none⟩ = some (.slice (some ⟨G, 0, none⟩) n n) ∧ wx.cell? ⟨rb, 3, none⟩ = some (.slice none 0 0) ∧ wx.cell? ⟨rb, 4, none⟩ = some (.int .i64 last))
    (first | exact ⟨drew_cell i0, drew_cell p0, drew_cell p1, drew_cell p2, drew_cell p3, drew_cell p4⟩ | (go_split_ands; exact ⟨bel_c hbw (by assumption), bel_c hbw (by assumption), bel_c hbw (by assumption), bel_c hbw (by assumption), bel_c hbw (by assumption), bel_c hbw (by assumption)⟩) | go_keep)
    ((go_at_call 37; refine (isState_any _ _ _ _ _ _ hs1 hs2).mono ?_; rintro e w3 ⟨rfl, hbw⟩))
  have hb3 : Below w2.heap.size w2 w3 := bel_on (bel_self _).drew hbw
  have hb3' : Below w.heap.size w w3 := bel_on hb2 hb3
  have hR3 : RBlock w3 rb n sta (.slice (some ⟨G, 0, none⟩) n n) (.slice none 0 0) last := heap_bel hb3 hR2
  have hG3 : w3.heap[G]? = some (.cells (intsV xs).toArray 3 (0, 0)) := heap_bel hb3 hG2
  have j0 := bel_c hb3 i0
  have j1 := bel_c hb3 i1
  have o2 := bel_c hb3 p2
  have hcG : w3.cell? ⟨G, X, none⟩ = some (.int .i64 (xs.getD X 0)) := by have := Go.Joins.cell_of_block hG3 X; simpa [intsV, List.getD, hxs, hX] using this
  have hfG := Go.Joins.unfrozen_of_block hG3 X
  clear i0 i1 p0 p1 p2 p3 p4 hbw hb3 hR2 hG2
  have hXi : (X : Int) < (n : Int) := by omega
  go_wp2
  go_region
  have hR4 : RBlock (w3.setCell ⟨G, X, none⟩ (.int .i64 y)).drew rb n sta (.slice (some ⟨G, 0, none⟩) n n) (.slice none 0 0) last := (Below.heap_setCell w3 ⟨G, X, none⟩ _ rb hrG).trans hR3
  have hG4 : (w3.setCell ⟨G, X, none⟩ (.int .i64 y)).drew.heap[G]? = some (.cells (intsV (xs.set X y)).toArray 3 (0, 0)) := by
    have h := Go.Joins.block_setCell (i := X) hG3 (.int .i64 y)
    rw [intsV_set] at h
    exact h
  have hB4 : Below B w (w3.setCell ⟨G, X, none⟩ (.int .i64 y)).drew := ((hb3'.mono (by omega)).setCell (p := ⟨G, X, none⟩) hBG _).drew
  have k0 : (w3.setCell ⟨G, X, none⟩ (.int .i64 y)).drew.cell? ⟨g, o, none⟩ = some (.int .i64 X) := by
    have : (w3.setCell ⟨G, X, none⟩ (.int .i64 y)).heap[g]? = w3.heap[g]? := Below.heap_setCell w3 ⟨G, X, none⟩ _ g (by simp; omega)
    exact (World.cell?_of_block (w := w3) (a := ⟨g, o, none⟩) this).trans j0
  generalize (w3.setCell ⟨G, X, none⟩ (.int .i64 y)).drew = W4 at hR4 hG4 hB4 k0 ⊢
  have p4 : W4.cell? ⟨rb, 4, none⟩ = some (.int .i64 last) := by have := Go.Joins.cell_of_block hR4 4; simpa using this
  have q4 := Go.Joins.unfrozen_of_block hR4 4
  go_wp2
  go_ret
  refine ⟨rfl, Go.Joins.block_setCell hR4 _, ?_, hB4.setCell (p := ⟨rb, 4, none⟩) hBr _⟩
  rw [Below.heap_setCell _ _ _ _ (by simp; omega)]
  exact hG4

theorem len3 (l : List ByteArray) (h : l.length = 3) : ∃ a b c, l = [a, b, c] := by
  match l, h with
  | [a, b, c], _ => exact ⟨a, b, c, rfl⟩

theorem fields_not3 (st last : Int) (q : Bool) (s : ByteArray) (h : ¬ (wordsB s).length = 3) : stepFinal st last q (listOf s) = none := by
  unfold stepFinal
  rw [← wordsB_eq]
  cases hw : fieldsOf (wordsB s) with
  | nil => rfl
  | cons a l =>
    match l, hw with
    | [], _ => rfl
    | [_], _ => rfl
    | [_, _], hw => exfalso; apply h; have := congrArg List.length hw; simpa [fieldsOf] using this
    | _ :: _ :: _ :: _, _ => rfl

set_option maxHeartbeats 2000000 in
set_option maxRecDepth 100000 in
theorem takeFinal_none (rb n m ac : Nat) (sta last : Int) (fv : Value) (aa : Option Addr) (s : ByteArray) (w : World) (hsh : w.ShapedOpen Tryz.prog) (hs : s.size ≤ 100000)
    (hR : RBlock w rb n sta fv (.slice aa m ac) last) (hn : n ≤ 200) (hno : stepFinal n last (decide (0 < m)) (listOf s) = none) :
    Calls Tryz.prog 56 #[.pointer (some ⟨rb, 0, none⟩), .string s] w fun e w' => e = .returned (.bool false) ∧ Below w.heap.size w w' := by
  have hsp := split_any s w hsh hs
  have HN : Hid (stepFinal n last (decide (0 < m)) (listOf s) = none) := hno
  clear hno
  by_cases h3 : (wordsB s).length = 3
  · obtain ⟨a, b, c, hw⟩ := len3 _ h3
    have hsz := wordsB_size s
    rw [hw] at hsp hsz
    have HE : Hid (fieldsOf [a, b, c] = splitOn 32 (listOf s)) := by rw [← hw]; exact wordsB_eq s
    have hBel := bel_up (bel_self w) (.cells #[.string a, .string b, .string c] 9)
    have hst := three_strs w a b c w.heap.size rfl (by have := hsz b (by simp); unfold maxLen; omega) (by have := hsz c (by simp); unfold maxLen; omega)
    have hR1 : RBlock (w.alloc (.cells #[.string a, .string b, .string c] 9)) rb n sta fv (.slice aa m ac) last := heap_bel hBel hR
    have hrl := heap_lt hR
    have hs1 : -1000 ≤ (n : Int) := by omega
    have hs2 : (n : Int) ≤ 1000 := by omega
    have r3 : (w.alloc (.cells #[.string a, .string b, .string c] 9)).cell? ⟨rb, 3, none⟩ = some (.slice aa m ac) := by have := Go.Joins.cell_of_block hR1 3; simpa using this
    clear h3 hw hsz
    by_cases ha : listOf a = bFinal
    · have ha' : a.toList = [102, 105, 110, 97, 108] := toList_data a _ ha
      by_cases hm : 0 < m
      · have hm1 : (0 : Int) < (m : Int) := by omega
        go_enter Tryz.func56, Tryz.ntmps56
        go_wp2_with (go_at_call 65; refine hsp.mono ?_; rintro e w' ⟨rfl, rfl⟩)
        go_ret
        exact ⟨rfl, hBel⟩
      · have hm0 : m = 0 := by omega
        subst hm0
        cases hnb : numsB (fieldsOf [b, c]) with
        | none =>
          have HNU : Hid (numsB (fieldsOf [b, c]) = none) := hnb
          clear hnb ha
          go_enter Tryz.func56, Tryz.ntmps56
          go_wp2_with (first | (go_at_call 65; refine hsp.mono ?_; rintro e w' ⟨rfl, rfl⟩) | (go_at_call 66; refine (numbers_none w.heap.size 1 2 2 [b, c] _ hst two_le HNU.out).mono ?_; rintro e w2 ⟨rfl, hbw⟩))
          go_quiet (fail)
          go_wp2
          go_ret
          exact ⟨rfl, bel_drewN (bel_on hBel hbw) _⟩
        | some ns =>
          obtain ⟨x, y, rfl⟩ : ∃ x y, ns = [x, y] := by
            have := numsB_length _ _ hnb
            match ns, this with
            | [x, y], _ => exact ⟨x, y, rfl⟩
          have hx : inB x 0 ((n : Int) - 1) = true → x ≤ last := by
            intro hq
            have h1 := HN.out
            unfold stepFinal at h1
            rw [← HE.out] at h1
            simp only [numsB, fieldsOf, List.map_cons, List.map_nil, List.mapM_cons, List.mapM_nil] at hnb
            cases q1 : numB (listOf b) with
            | none => simp [q1] at hnb
            | some u =>
              cases q2 : numB (listOf c) with
              | none => simp [q1, q2] at hnb
              | some v =>
                simp [q1, q2] at hnb
                obtain ⟨rfl, rfl⟩ := hnb
                simp [fieldsOf, ha, q1, q2, hq] at h1
                exact h1
          have HNU : Hid (numsB (fieldsOf [b, c]) = some [x, y]) := hnb
          clear hnb ha
          cases hin : inB x 0 ((n : Int) - 1) with
          | false =>
            clear hx
            have hiss : ∀ wx : World, Calls Tryz.prog 37 #[.agg #[.int .i64 n, .int .i64 sta, fv, .slice aa 0 ac], .int .i64 x] wx fun e w' => e = .returned (.bool false) ∧ Below wx.heap.size wx w' := fun wx => by
              have h := isState_any n sta fv (.slice aa 0 ac) x wx hs1 hs2
              rw [hin] at h
              exact h
            have HI : Hid (∀ wx : World, Calls Tryz.prog 37 #[.agg #[.int .i64 n, .int .i64 sta, fv, .slice aa 0 ac], .int .i64 x] wx fun e w' => e = .returned (.bool false) ∧ Below wx.heap.size wx w') := hiss
            clear hiss
            go_enter Tryz.func56, Tryz.ntmps56
            go_wp2_with (first | (go_at_call 65; refine hsp.mono ?_; rintro e w' ⟨rfl, rfl⟩) | (go_at_call 66; refine (numbers_some w.heap.size 1 2 2 [b, c] [x, y] _ hst two_le HNU.out two_pos).mono ?_; rintro e w2 ⟨g, o, cc, rfl, hI, hbw, hg⟩))
            have hb2 : Below w.heap.size w w2 := bel_on hBel hbw
            have hR2 : RBlock w2 rb n sta fv (.slice aa 0 ac) last := heap_bel hb2 hR
            have i0 : w2.cell? ⟨g, o, none⟩ = some (.int .i64 x) := by have := hI.cell 0 (by omega); simpa using this
            have p0 : w2.cell? ⟨rb, 0, none⟩ = some (.int .i64 n) := by have := Go.Joins.cell_of_block hR2 0; simpa using this
            have p1 : w2.cell? ⟨rb, 1, none⟩ = some (.int .i64 sta) := by have := Go.Joins.cell_of_block hR2 1; simpa using this
            have p2 : w2.cell? ⟨rb, 2, none⟩ = some fv := by have := Go.Joins.cell_of_block hR2 2; simpa using this
            have p3 : w2.cell? ⟨rb, 3, none⟩ = some (.slice aa 0 ac) := by have := Go.Joins.cell_of_block hR2 3; simpa using this
            have p4 : w2.cell? ⟨rb, 4, none⟩ = some (.int .i64 last) := by have := Go.Joins.cell_of_block hR2 4; simpa using this
            clear hI hbw r3 hst hR1
            have i0' := fun d os => cell_regrown i0 d os
            have p0' := fun d os => cell_regrown p0 d os
            have p1' := fun d os => cell_regrown p1 d os
            have p2' := fun d os => cell_regrown p2 d os
            have p3' := fun d os => cell_regrown p3 d os
            have p4' := fun d os => cell_regrown p4 d os
            clear i0 p0 p1 p2 p3 p4
            refine wp_region_quiet_below (by kernel_rfl) (by kernel_rfl) ?_
            repeat (first | go_big_quiet_step ((go_at_call 37; exact Calls.regrown_of (HI.out _))) | quiet_step ((go_at_call 37; exact Calls.regrown_of (HI.out _))))
            refine wpQuiet_nil ?_
            intro _ hw'
            obtain ⟨⟨dq, osq⟩, hw''⟩ := hw'
            subst hw''
            go_wp2
            go_ret
            exact ⟨rfl, bel_on hb2 (below_regrown w2 dq osq)⟩
          | true =>
            have hxl := hx hin
            have hlast' : decide (x ≤ last) = true := by simpa using hxl
            clear hx
            go_enter Tryz.func56, Tryz.ntmps56
            go_wp2_with (first | (go_at_call 65; refine hsp.mono ?_; rintro e w' ⟨rfl, rfl⟩) | (go_at_call 66; refine (numbers_some w.heap.size 1 2 2 [b, c] [x, y] _ hst two_le HNU.out two_pos).mono ?_; rintro e w2 ⟨g, o, cc, rfl, hI, hbw, hg⟩))
            have hb2 : Below w.heap.size w w2 := bel_on hBel hbw
            have hR2 : RBlock w2 rb n sta fv (.slice aa 0 ac) last := heap_bel hb2 hR
            have i0 : w2.cell? ⟨g, o, none⟩ = some (.int .i64 x) := by have := hI.cell 0 (by omega); simpa using this
            have p0 : w2.cell? ⟨rb, 0, none⟩ = some (.int .i64 n) := by have := Go.Joins.cell_of_block hR2 0; simpa using this
            have p1 : w2.cell? ⟨rb, 1, none⟩ = some (.int .i64 sta) := by have := Go.Joins.cell_of_block hR2 1; simpa using this
            have p2 : w2.cell? ⟨rb, 2, none⟩ = some fv := by have := Go.Joins.cell_of_block hR2 2; simpa using this
            have p3 : w2.cell? ⟨rb, 3, none⟩ = some (.slice aa 0 ac) := by have := Go.Joins.cell_of_block hR2 3; simpa using this
            have p4 : w2.cell? ⟨rb, 4, none⟩ = some (.int .i64 last) := by have := Go.Joins.cell_of_block hR2 4; simpa using this
            clear hI hbw r3 hst hR1
            go_region_held3 (fun wx => wx.cell? ⟨g, o, none⟩ = some (.int .i64 x) ∧ wx.cell? ⟨rb, 0, none⟩ = some (.int .i64 n) ∧ wx.cell? ⟨rb, 1, none⟩ = some (.int .i64 sta) ∧ wx.cell? ⟨rb, 2, none⟩ = some fv ∧ wx.cell? ⟨rb, 3, none⟩ = some (.slice aa 0 ac) ∧ wx.cell? ⟨rb, 4, none⟩ = some (.int .i64 last))
              (first | exact ⟨drew_cell i0, drew_cell p0, drew_cell p1, drew_cell p2, drew_cell p3, drew_cell p4⟩ | (go_split_ands; exact ⟨bel_c hbw (by assumption), bel_c hbw (by assumption), bel_c hbw (by assumption), bel_c hbw (by assumption), bel_c hbw (by assumption), bel_c hbw (by assumption)⟩) | go_keep)
              ((go_at_call 37; refine (isState_any _ _ _ _ _ _ hs1 hs2).mono ?_; rintro e w3 ⟨rfl, hbw⟩))
            go_wp2
            go_ret
            exact ⟨rfl, bel_on hb2.drew hbw⟩
    · have ha' : ¬ a.toList = [102, 105, 110, 97, 108] := by rw [ByteArray.toList_eq]; exact ha
      have ha2 : (a.toList == [102, 105, 110, 97, 108]) = false := by simpa using ha'
      go_enter Tryz.func56, Tryz.ntmps56
      go_wp2_with (go_at_call 65; refine hsp.mono ?_; rintro e w' ⟨rfl, rfl⟩)
      go_ret
      exact ⟨rfl, hBel⟩
  · obtain ⟨K, hK⟩ : ∃ K, K = (wordsB s).length := ⟨_, rfl⟩
    rw [← hK] at hsp h3
    have hk1 : (K == 3) = false := by simpa using h3
    have hk2 : ((K : Int) == 3) = false := by rw [beq_eq_false_iff_ne]; omega
    go_enter Tryz.func56, Tryz.ntmps56
    go_wp2_with (go_at_call 65; refine hsp.mono ?_; rintro e w' ⟨rfl, rfl⟩)
    go_ret
    exact ⟨rfl, bel_up (bel_self w) _⟩

end Go.Proofs.YteehgcbjmdideaaGreatDoor
