/- 'fstBegun' of the statements. -/
import Derived.Test.YteehgcbjmdideaaGreatDoorQBegun
import Derived.Deep.RegionHeld3
namespace Go.Proofs.YteehgcbjmdideaaGreatDoor
open Go.RowKit Go.Maps Go.ChangeShapes
attribute [local go_sem ↓] Go.wp_at_zero Go.wp_at_succ

theorem oneS_lit : strOf oneS = ⟨#[115, 116, 97, 116, 101, 115, 32, 50, 32, 115, 116, 97, 114, 116, 32, 48, 10, 102, 105, 110, 97, 108, 32, 49, 32, 49, 10, 48, 32, 49, 32, 50, 32, 49, 32, 53, 10]⟩ := rfl

theorem print_oneL (fin arcs : Value) (w : World) (hf : ISlice w fin oneD.final) (ha : ASlice w arcs oneD.arcs) (ht : TabW w) :
    Calls Tryz.prog 16 #[.agg #[.int .i64 2, .int .i64 0, fin, arcs]] w fun e w' => e = .returned (.tuple #[.string ⟨#[115, 116, 97, 116, 101, 115, 32, 50, 32, 115, 116, 97, 114, 116, 32, 48, 10, 102, 105, 110, 97, 108, 32, 49, 32, 49, 10, 48, 32, 49, 32, 50, 32, 49, 32, 53, 10]⟩, .int .i64 0]) ∧ Below w.heap.size w w' := print_one fin arcs w hf ha ht
theorem parse_oneL (w : World) (hsh : w.ShapedOpen Tryz.prog) :
    Calls Tryz.prog 17 #[.string ⟨#[115, 116, 97, 116, 101, 115, 32, 50, 32, 115, 116, 97, 114, 116, 32, 48, 10, 102, 105, 110, 97, 108, 32, 49, 32, 49, 10, 48, 32, 49, 32, 50, 32, 49, 32, 53, 10]⟩] w fun e w' => (∃ a n c b m d, e = .returned (.tuple #[.agg #[.int .i64 2, .int .i64 0, .slice a n c, .slice b m d], .int .i64 0, .int .i64 0]) ∧ ISlice w' (.slice a n c) oneD.final ∧ ASlice w' (.slice b m d) oneD.arcs) ∧ Below w.heap.size w w' := parse_one w hsh

theorem str_same (x : ByteArray) (w : World) : (binOp .eql 9 (.string x) (.string x)).run Tryz.prog w = .ok (.bool true) w := by
  go_simp

theorem str_guard (x : ByteArray) (a b : Operand) (w : World) : (eqGuard .eql 9 a b (.string x) (.string x)).run Tryz.prog w = .ok () w := by
  go_simp

theorem one_ex (w : World) :
    Calls Tryz.prog 15 #[] w fun e w' => ∃ N M : Nat, e = .returned (.agg #[.int .i64 2, .int .i64 0, .slice (some ⟨N, 0, none⟩) 2 2, .slice (some ⟨M, 0, none⟩) 1 1]) ∧
      ISlice w' (.slice (some ⟨N, 0, none⟩) 2 2) oneD.final ∧ ASlice w' (.slice (some ⟨M, 0, none⟩) 1 1) oneD.arcs ∧ Below w.heap.size w w' :=
  (one_any w).mono fun _ _ ⟨h1, h2, h3, h4⟩ => ⟨_, _, h1, h2, h3, h4⟩

theorem cellsF_new (w : World) (a b : Int) (u v : Value) (t : Nat) : CellsF (w.alloc (.cells #[.int .i64 a, .int .i64 b, u, v] t)) w.heap.size a b u v := by simp [CellsF]

set_option maxHeartbeats 2000000 in
set_option maxRecDepth 100000 in
theorem fstBegun_any (w : World) (ht : TabW w) (hsh : w.ShapedOpen Tryz.prog) :
    Calls Tryz.prog 7 #[] w fun e w' => e = .returned (.bool true) ∧ Below w.heap.size w w' := by
  go_enter Tryz.func7, Tryz.ntmps7
  go_wp2_with (first
    | (go_at_call 16; refine (print_oneL _ _ w1 hI1 hA1 (ht.below hb1 (Nat.le_refl _))).mono ?_; rintro e w2 ⟨rfl, hb2⟩)
    | (go_at_call 15; refine (one_ex w).mono ?_; rintro e w1 ⟨N1, M1, rfl, hI1, hA1, hb1⟩))
  refine (parse_oneL w2 (shaped_below hsh (bel_on hb1 hb2))).mono ?_
  rintro e w3 ⟨⟨pa, pn, pc, pb, pm, pd, rfl, hI3, hA3⟩, hb3⟩
  have hb03 := bel_on (bel_on hb1 hb2) hb3
  go_wp2_with (go_at_call 15; refine (one_ex _).mono ?_; rintro e w4 ⟨N4, M4, rfl, hI4, hA4, hb4⟩)
  refine (trim_oneW _ _ w4 hI4 hA4).mono ?_
  rintro e w5 ⟨⟨ta, tn, tc, tb, tm, td, rfl, hI5, hA5⟩, hb5⟩
  have hc3 := (cellsF_new w3 2 0 (.slice pa pn pc) (.slice pb pm pd) 25).below hb4
  have hc5 := hc3.below hb5
  have hb04 := bel_on (bel_on (bel_up hb03 _) hb4) hb5
  have hI35 := ((hI3.below (bel_up (bel_self _) _)).below hb4).below hb5
  have hA35 := ((hA3.below (bel_up (bel_self _) _)).below hb4).below hb5
  clear hb1 hb2 hb3 hb4 hb5 hI1 hA1 hI3 hA3 hI4 hA4 hb03 hc3
  have hbW := bel_up hb04 (.cells #[.int .i64 2, .int .i64 0, .slice ta tn tc, .slice tb tm td] 25)
  have hup := bel_up (bel_self w5) (.cells #[.int .i64 2, .int .i64 0, .slice ta tn tc, .slice tb tm td] 25)
  obtain ⟨c0, c1, c2, c3⟩ := hc5.below hup
  obtain ⟨t0, t1, t2, t3⟩ := cellsF_new w5 2 0 (.slice ta tn tc) (.slice tb tm td) 25
  have kI3 := hI35.below hup
  have kA3 := hA35.below hup
  have kI5 := hI5.below hup
  have kA5 := hA5.below hup
  clear hI35 hA35 hI5 hA5 hc5 hup hb04
  have hEq := str_same ⟨#[115, 116, 97, 116, 101, 115, 32, 50, 32, 115, 116, 97, 114, 116, 32, 48, 10, 102, 105, 110, 97, 108, 32, 49, 32, 49, 10, 48, 32, 49, 32, 50, 32, 49, 32, 53, 10]⟩
  have hEg := str_guard ⟨#[115, 116, 97, 116, 101, 115, 32, 50, 32, 115, 116, 97, 114, 116, 32, 48, 10, 102, 105, 110, 97, 108, 32, 49, 32, 49, 10, 48, 32, 49, 32, 50, 32, 49, 32, 53, 10]⟩
  go_wp2
  generalize Value.string ⟨#[115, 116, 97, 116, 101, 115, 32, 50, 32, 115, 116, 97, 114, 116, 32, 48, 10, 102, 105, 110, 97, 108, 32, 49, 32, 49, 10, 48, 32, 49, 32, 50, 32, 49, 32, 53, 10]⟩ = sv at hEq hEg ⊢
  generalize w5.alloc (.cells #[.int .i64 2, .int .i64 0, .slice ta tn tc, .slice tb tm td] 25) = W at *
  generalize w3.heap.size = b3 at *
  generalize w5.heap.size = b5 at *
  have HI3 : Hid (∀ wx, Below W.heap.size W wx → ISlice wx (.slice pa pn pc) oneD.final) := fun wx h => kI3.below h
  have HA3 : Hid (∀ wx, Below W.heap.size W wx → ASlice wx (.slice pb pm pd) oneD.arcs) := fun wx h => kA3.below h
  have HI5 : Hid (∀ wx, Below W.heap.size W wx → ISlice wx (.slice ta tn tc) oneD.final) := fun wx h => kI5.below h
  have HA5 : Hid (∀ wx, Below W.heap.size W wx → ASlice wx (.slice tb tm td) oneD.arcs) := fun wx h => kA5.below h
  clear kI3 kA3 kI5 kA5
  go_region_held3 (fun wx => Below W.heap.size W wx ∧ wx.cell? ⟨b3, 0, none⟩ = some (.int .i64 2) ∧ wx.cell? ⟨b3, 1, none⟩ = some (.int .i64 0) ∧ wx.cell? ⟨b3, 2, none⟩ = some (.slice pa pn pc) ∧ wx.cell? ⟨b3, 3, none⟩ = some (.slice pb pm pd) ∧ wx.cell? ⟨b5, 0, none⟩ = some (.int .i64 2) ∧ wx.cell? ⟨b5, 1, none⟩ = some (.int .i64 0) ∧ wx.cell? ⟨b5, 2, none⟩ = some (.slice ta tn tc) ∧ wx.cell? ⟨b5, 3, none⟩ = some (.slice tb tm td))
    (first | exact ⟨(bel_self W).drew, drew_cell c0, drew_cell c1, drew_cell c2, drew_cell c3, drew_cell t0, drew_cell t1, drew_cell t2, drew_cell t3⟩ | (go_split_ands; exact ⟨bel_on (by assumption) hbw, bel_c hbw (by assumption), bel_c hbw (by assumption), bel_c hbw (by assumption), bel_c hbw (by assumption), bel_c hbw (by assumption), bel_c hbw (by assumption), bel_c hbw (by assumption), bel_c hbw (by assumption)⟩) | go_keep)
    (first | (go_at_call 15; refine (one_ex _).mono ?_; rintro e wv ⟨Na, Ma, rfl, hIa, hAa, hbw⟩) | (go_at_call 18; refine (check_oneW _ _ wv hIa hAa).mono ?_; rintro e wv ⟨rfl, hbw⟩) | (go_at_call 19; have hmark2 := hmark; go_split_ands; refine (same_oneW _ _ _ _ wv (HI5.out wv ‹Below W.heap.size W wv›) (HA5.out wv ‹Below W.heap.size W wv›) hIa hAa).mono ?_; rintro e wv ⟨rfl, hbw⟩) | (go_at_call 19; go_split_ands; refine (same_oneW _ _ _ _ wv (HI3.out wv ‹Below W.heap.size W wv›) (HA3.out wv ‹Below W.heap.size W wv›) hIa hAa).mono ?_; rintro e wv ⟨rfl, hbw⟩; have hmark := True.intro))
  go_wp2
  go_ret
  go_split_ands
  exact ⟨rfl, bel_on hbW (by assumption)⟩

end Go.Proofs.YteehgcbjmdideaaGreatDoor
