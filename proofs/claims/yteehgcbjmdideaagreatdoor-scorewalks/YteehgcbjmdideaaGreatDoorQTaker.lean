/- The reader of a text: a line that is no arc's; 'taker', which chooses what takes a line. -/
import Derived.Test.YteehgcbjmdideaaGreatDoorQTakeA
namespace Go.Proofs.YteehgcbjmdideaaGreatDoor
open Go.RowKit
attribute [local go_sem ↓] Go.wp_at_zero Go.wp_at_succ

theorem stepArc_five (l : List UInt8) (ns : List Int) (h : numsB (splitOn 32 l) = some ns) (hn : stepArc l = none) : ns.length ≠ 5 := by
  intro h5
  unfold stepArc at hn
  unfold numsB at h
  rw [h] at hn
  match ns, h5 with
  | [a, b, c, d, e], _ => simp at hn

set_option maxHeartbeats 1000000 in
set_option maxRecDepth 100000 in
theorem takeArc_none (rb : Nat) (s : ByteArray) (w : World) (hsh : w.ShapedOpen Tryz.prog) (hs : s.size ≤ 100000) (hn : stepArc (listOf s) = none) :
    Calls Tryz.prog 57 #[.pointer (some ⟨rb, 0, none⟩), .string s] w fun e w' => e = .returned (.bool false) ∧ Below w.heap.size w w' := by
  have hsp := split_any s w hsh hs
  have hst := words_strs s w hs
  have hmany := words_many s hs
  have hBel := bel_up (bel_self w) (.cells ((wordsB s).map Value.string).toArray 9)
  have hE := wordsB_eq s
  have hne : 0 < (wordsB s).length := by rw [wordsB_len]; omega
  cases hnb : numsB (splitOn 32 (listOf s)) with
  | none =>
    have HNU : Hid (numsB (fieldsOf (wordsB s)) = none) := by show numsB (fieldsOf (wordsB s)) = none; rw [hE]; exact hnb
    clear hnb hE hn
    generalize wordsB s = ss at *
    generalize hK : ss.length = K at *
    generalize hW1 : w.alloc (.cells (ss.map Value.string).toArray 9) = w1 at *
    go_enter Tryz.func57, Tryz.ntmps57
    go_wp2_with (first | (go_at_call 65; refine hsp.mono ?_; rintro e w' ⟨rfl, hw'⟩; obtain rfl := hw'.symm) | (go_at_call 66; refine (numbers_none w.heap.size 0 K K ss _ hst hmany HNU.out).mono ?_; rintro e w2 ⟨rfl, hbw⟩))
    go_ret
    exact ⟨rfl, bel_on hBel hbw⟩
  | some ns =>
    have h5 := stepArc_five _ _ hnb hn
    have hl : ns.length = (wordsB s).length := by rw [numsB_length _ _ hnb, ← hE]; simp [fieldsOf]
    rw [hl] at h5
    have HNU : Hid (numsB (fieldsOf (wordsB s)) = some ns) := by show numsB (fieldsOf (wordsB s)) = some ns; rw [hE]; exact hnb
    clear hnb hE hn hl
    generalize wordsB s = ss at *
    generalize hK : ss.length = K at *
    generalize hW1 : w.alloc (.cells (ss.map Value.string).toArray 9) = w1 at *
    have hk1 : (K == 5) = false := by simpa using h5
    have hk2 : ((K : Int) == 5) = false := by rw [beq_eq_false_iff_ne]; omega
    go_enter Tryz.func57, Tryz.ntmps57
    go_wp2_with (first | (go_at_call 65; refine hsp.mono ?_; rintro e w' ⟨rfl, hw'⟩; obtain rfl := hw'.symm) | (go_at_call 66; refine (numbers_some w.heap.size 0 K K ss ns _ hst hmany HNU.out hne).mono ?_; rintro e w2 ⟨g, o, cc, rfl, hI, hbw, hg⟩))
    go_ret
    exact ⟨rfl, bel_on hBel hbw⟩

theorem taker_head (rb : Nat) (sta last : Int) (fv av : Value) (s : ByteArray) (w : World) (hR : RBlock w rb 0 sta fv av last) :
    Calls Tryz.prog 35 #[.pointer (some ⟨rb, 0, none⟩), .string s] w fun e w' => e = .returned (.func (.func 54) #[.pointer (some ⟨rb, 0, none⟩)] #[]) ∧ w = w' := by
  have r0 : w.cell? ⟨rb, 0, none⟩ = some (.int .i64 0) := by have := Go.Joins.cell_of_block hR 0; simpa using this
  go_enter Tryz.func35, Tryz.ntmps35
  go_wp2
  go_ret
  exact ⟨rfl, rfl⟩

theorem taker_on (rb : Nat) (st sta last : Int) (fv av : Value) (s : ByteArray) (w : World) (hR : RBlock w rb st sta fv av last) (hst : st ≠ 0) :
    Calls Tryz.prog 35 #[.pointer (some ⟨rb, 0, none⟩), .string s] w fun e w' => e = .returned (.func (.func (if Lib.hasPrefix (listOf s) bFinal then 56 else 57)) #[.pointer (some ⟨rb, 0, none⟩)] #[]) ∧ w = w' := by
  have r0 : w.cell? ⟨rb, 0, none⟩ = some (.int .i64 st) := by have := Go.Joins.cell_of_block hR 0; simpa using this
  have hs0 : (st == 0) = false := by simpa using hst
  have hpre := Tryz.strings_HasPrefix s ⟨#[102, 105, 110, 97, 108]⟩ w
  have he : Lib.hasPrefix s.data.toList (⟨#[102, 105, 110, 97, 108]⟩ : ByteArray).data.toList = Lib.hasPrefix (listOf s) bFinal := rfl
  rw [he] at hpre
  clear he
  cases hp : Lib.hasPrefix (listOf s) bFinal
  all_goals
    rw [hp] at hpre
    clear hp hst
    go_enter Tryz.func35, Tryz.ntmps35
    go_wp2_with (go_at_call 55; refine hpre.mono ?_; rintro e w' ⟨rfl, hw'⟩; obtain rfl := hw'.symm)
    go_ret
    exact ⟨rfl, rfl⟩

end Go.Proofs.YteehgcbjmdideaaGreatDoor
