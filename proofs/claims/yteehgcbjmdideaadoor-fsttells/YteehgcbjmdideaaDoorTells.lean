/- 'fstIs', 'FstTells': the call. -/
import Derived.Test.YteehgcbjmdideaaDoorTrOf
import Derived.Test.YteehgcbjmdideaaDoorPrF
namespace Go.Proofs.YteehgcbjmdideaaDoor
open Go.RowKit
attribute [local go_sem ↓] Go.wp_at_zero Go.wp_at_succ

theorem printFst_ok (f : FstD) (fin arcs : Value) (w : World) (hf : ISlice w fin f.final) (ha : ASlice w arcs f.arcs) (hc : checkD f = 0) :
    Calls Tryd.prog 9 #[.agg #[.int .i64 f.states, .int .i64 f.start, fin, arcs]] w fun e w' => e = .returned (.string (strOf (printD f))) ∧ Below w.heap.size w w' := by
  have ok := check_ok f hc
  obtain ⟨st, sta, xs, ars⟩ := f
  have hb := inB_le ok.states
  have hs := inB_le ok.start
  have hlen := ok.len
  simp only at hb hs hlen hf ha
  obtain ⟨N, rfl⟩ : ∃ N : Nat, st = N := ⟨st.toNat, by omega⟩
  obtain ⟨s0, rfl⟩ : ∃ s0 : Nat, sta = s0 := ⟨sta.toNat, by omega⟩
  obtain ⟨fa, fn, fc, rfl, hfl, hfm⟩ := hf.lenOf
  obtain ⟨aa, n, ac, rfl, hal, ham⟩ := ha.lenOf
  obtain ⟨fb, off, rfl, hx⟩ := hf.some (by omega)
  have hfn : fn = N := by omega
  subst hfn
  have hmany : n ≤ 3000 := by have := ok.many; simp only at this; omega
  exact printFst_some fn s0 xs ars fb off fc aa n ac w hx ha hal hmany (by omega) (by omega) (by omega) (fun x hx => (finB_out (ok.fin x hx)).1) (fun a h => by
    have o := ok.arcs a h
    have q1 := inB_le o.src
    have q2 := inB_le o.inp
    have q3 := inB_le o.out
    have q4 := inB_le o.dst
    have q5 := inB_le o.wt
    simp only at q1 q2 q3 q4 q5
    exact ⟨⟨by omega, by omega⟩, ⟨by omega, by omega⟩, ⟨by omega, by omega⟩, ⟨by omega, by omega⟩, ⟨by omega, by omega⟩⟩)

theorem printFst_T (f : FstD) (fin arcs : Value) (T : ByteArray) (w : World) (hf : ISlice w fin f.final) (ha : ASlice w arcs f.arcs) (hc : checkD f = 0) (hT : strOf (printD f) = T) :
    Calls Tryd.prog 9 #[.agg #[.int .i64 f.states, .int .i64 f.start, fin, arcs]] w fun e w' => e = .returned (.string T) ∧ Below w.heap.size w w' := by
  subst hT; exact printFst_ok f fin arcs w hf ha hc

theorem trimOf_ok (f : FstD) (fin arcs : Value) (w : World) (hf : ISlice w fin f.final) (ha : ASlice w arcs f.arcs) (hc : checkD f = 0) :
    Calls Tryd.prog 10 #[.agg #[.int .i64 f.states, .int .i64 f.start, fin, arcs]] w fun e w' => (∃ a n c b m d, e = .returned (.agg #[.int .i64 (trimD f).states, .int .i64 (trimD f).start, .slice a n c, .slice b m d]) ∧ ISlice w' (.slice a n c) (trimD f).final ∧ ASlice w' (.slice b m d) (trimD f).arcs ∧ (∀ g, (Value.slice a n c).ownBlock = some g → w.heap.size ≤ g) ∧ ∀ g, (Value.slice b m d).ownBlock = some g → w.heap.size ≤ g) ∧ Below w.heap.size w w' := by
  have ok := check_ok f hc
  have hfull : Calls Tryd.prog 10 #[.agg #[.int .i64 f.states, .int .i64 f.start, fin, arcs]] w fun e w' => TrimIs f w.heap.size e w' ∧ Below w.heap.size w w' := by
    obtain ⟨st, sta, xs, ars⟩ := f
    have hb := inB_le ok.states
    have hs := inB_le ok.start
    have hlen := ok.len
    simp only at hb hs hlen hf ha
    obtain ⟨N, rfl⟩ : ∃ N : Nat, st = N := ⟨st.toNat, by omega⟩
    obtain ⟨s0, rfl⟩ : ∃ s0 : Nat, sta = s0 := ⟨sta.toNat, by omega⟩
    obtain ⟨fa, fn, fc, rfl, hfl, hfm⟩ := hf.lenOf
    obtain ⟨aa, n, ac, rfl, hal, ham⟩ := ha.lenOf
    obtain ⟨fb, off, rfl, hx⟩ := hf.some (by omega)
    have hfn : fn = N := by omega
    subst hfn
    have hmany : n ≤ 3000 := by have := ok.many; simp only at this; omega
    have hok : ∀ a ∈ ars, (0 ≤ a.src ∧ a.src < (fn : Int)) ∧ (0 ≤ a.dst ∧ a.dst < (fn : Int)) := fun a h => by
      have o := ok.arcs a h
      have q1 := inB_le o.src
      have q2 := inB_le o.dst
      simp only at q1 q2
      omega
    exact trimOf_some fn s0 xs ars fb off fc aa n ac w hx ha hal hmany (by omega) (by omega) (by omega) hok (fun x hx => (finB_out (ok.fin x hx)).2) hc
  refine hfull.mono fun e w' ⟨⟨fv, av, h1, h2, h3, h4, h5⟩, hb⟩ => ⟨?_, hb⟩
  obtain ⟨a, n, c, rfl, _, _⟩ := h2.lenOf
  obtain ⟨b, m, d, rfl, _, _⟩ := h3.lenOf
  exact ⟨a, n, c, b, m, d, h1, h2, h3, h4, h5⟩

theorem trim_ok (f : FstD) (fin arcs : Value) (w : World) (hf : ISlice w fin f.final) (ha : ASlice w arcs f.arcs) (hc : checkD f = 0) :
    Calls Tryd.prog 7 #[.agg #[.int .i64 f.states, .int .i64 f.start, fin, arcs]] w fun e w' => (∃ a n c b m d, e = .returned (.tuple #[.agg #[.int .i64 (trimD f).states, .int .i64 (trimD f).start, .slice a n c, .slice b m d], .int .i64 0]) ∧ ISlice w' (.slice a n c) (trimD f).final ∧ ASlice w' (.slice b m d) (trimD f).arcs) ∧ Below w.heap.size w w' := by
  refine (trim_any f fin arcs w hf ha).mono fun e w' ⟨h, hb⟩ => ⟨?_, hb⟩
  rcases h with ⟨h0, _⟩ | ⟨_, t, fv, av, h1, h2, h3, h4⟩
  · exact absurd hc h0
  · have ht : t = trimD f := h2.unique (trimD_is f hc)
    subst ht
    obtain ⟨a, n, c, rfl, _, _⟩ := h3.lenOf
    obtain ⟨b, m, d, rfl, _, _⟩ := h4.lenOf
    exact ⟨a, n, c, b, m, d, h1, h3, h4⟩

theorem checkFst_c (f : FstD) (fin arcs : Value) (c : Int) (w : World) (hf : ISlice w fin f.final) (ha : ASlice w arcs f.arcs) (hc : checkD f = c) :
    Calls Tryd.prog 8 #[.agg #[.int .i64 f.states, .int .i64 f.start, fin, arcs]] w fun e w' => e = .returned (.int .i64 c) ∧ Below w.heap.size w w' := by
  subst hc; exact checkFst_any f fin arcs w hf ha
theorem check_c (f : FstD) (fin arcs : Value) (c : Int) (w : World) (hf : ISlice w fin f.final) (ha : ASlice w arcs f.arcs) (hc : checkD f = c) :
    Calls Tryd.prog 12 #[.agg #[.int .i64 f.states, .int .i64 f.start, fin, arcs]] w fun e w' => e = .returned (.int .i64 c) ∧ Below w.heap.size w w' := by
  subst hc; exact check_any f fin arcs w hf ha
theorem print_c (f : FstD) (fin arcs : Value) (c : Int) (w : World) (hf : ISlice w fin f.final) (ha : ASlice w arcs f.arcs) (hc : checkD f = c) (h0 : (c == 0) = false) :
    Calls Tryd.prog 6 #[.agg #[.int .i64 f.states, .int .i64 f.start, fin, arcs]] w fun e w' => e = .returned (.tuple #[.string ⟨#[]⟩, .int .i64 c]) ∧ Below w.heap.size w w' := by
  subst hc; exact print_bad f fin arcs w hf ha h0
theorem trim_c (f : FstD) (fin arcs : Value) (c : Int) (w : World) (hf : ISlice w fin f.final) (ha : ASlice w arcs f.arcs) (hc : checkD f = c) (h0 : (c == 0) = false) :
    Calls Tryd.prog 7 #[.agg #[.int .i64 f.states, .int .i64 f.start, fin, arcs]] w fun e w' => e = .returned (.tuple #[.agg #[.int .i64 0, .int .i64 0, .slice none 0 0, .slice none 0 0], .int .i64 c]) ∧ Below w.heap.size w w' := by
  subst hc; exact trim_bad f fin arcs w hf ha h0

theorem zero_same (w : World) : Calls Tryd.prog 16 #[.agg #[.int .i64 0, .int .i64 0, .slice none 0 0, .slice none 0 0], .agg #[.int .i64 0, .int .i64 0, .slice none 0 0, .slice none 0 0]] w fun e w' => e = .returned (.bool true) ∧ Below w.heap.size w w' :=
  same_self ⟨0, 0, [], []⟩ _ _ _ _ w (Or.inl ⟨none, 0, rfl, rfl⟩) (Or.inl ⟨none, 0, rfl, rfl⟩) (Or.inl ⟨none, 0, rfl, rfl⟩) (Or.inl ⟨none, 0, rfl, rfl⟩)

set_option maxHeartbeats 1000000 in
theorem fstIs_ok (t : FstD) (fv av fv' av' : Value) (w : World) (hf : ISlice w fv t.final) (ha : ASlice w av t.arcs) (hf' : ISlice w fv' t.final) (ha' : ASlice w av' t.arcs) :
    Calls Tryd.prog 13 #[.agg #[.int .i64 t.states, .int .i64 t.start, fv, av], .int .i64 0, .int .i64 0, .agg #[.int .i64 t.states, .int .i64 t.start, fv', av']] w fun e w' => e = .returned (.bool true) ∧ Below w.heap.size w w' := by
  have hb := bel_up (bel_up (bel_self w) (.cells #[.int .i64 t.states, .int .i64 t.start, fv, av] 25)) (.cells #[.int .i64 t.states, .int .i64 t.start, fv', av'] 25)
  have h1 := hf.below hb
  have h2 := ha.below hb
  have h3 := hf'.below hb
  have h4 := ha'.below hb
  go_enter Tryd.func13, Tryd.ntmps13
  go_wp2_with (go_at_call 16; refine (same_self t fv av fv' av' _ h1 h2 h3 h4).mono ?_; rintro e w1 ⟨rfl, hb1⟩)
  go_ret
  exact ⟨rfl, bel_on hb hb1⟩

set_option maxHeartbeats 1000000 in
theorem fstIs_no (c : Int) (hc : (c == 0) = false) (w : World) :
    Calls Tryd.prog 13 #[.agg #[.int .i64 0, .int .i64 0, .slice none 0 0, .slice none 0 0], .int .i64 c, .int .i64 c, .agg #[.int .i64 0, .int .i64 0, .slice none 0 0, .slice none 0 0]] w fun e w' => e = .returned (.bool true) ∧ Below w.heap.size w w' := by
  have hb := bel_up (bel_up (bel_self w) (.cells #[.int .i64 0, .int .i64 0, .slice none 0 0, .slice none 0 0] 25)) (.cells #[.int .i64 0, .int .i64 0, .slice none 0 0, .slice none 0 0] 25)
  go_enter Tryd.func13, Tryd.ntmps13
  go_wp2_with (go_at_call 16; refine (zero_same _).mono ?_; rintro e w1 ⟨rfl, hb1⟩)
  go_ret
  exact ⟨rfl, bel_on hb hb1⟩

set_option maxHeartbeats 2000000 in
set_option maxRecDepth 100000 in
theorem tells_no (f : FstD) (fin arcs : Value) (c : Int) (w : World) (hf : ISlice w fin f.final) (ha : ASlice w arcs f.arcs) (ht : TabW w) (hsh : w.ShapedOpen Tryd.prog) (hc : checkD f = c) (h0 : (c == 0) = false) :
    Calls Tryd.prog 3 #[.agg #[.int .i64 f.states, .int .i64 f.start, fin, arcs]] w fun e w' => e = .returned (.bool true) ∧ Below w.heap.size w w' := by
  have hW := BW.start f fin arcs w hf ha ht hsh
  have HC : Hid (checkD f = c) := hc
  clear hc
  go_enter Tryd.func3, Tryd.ntmps3
  go_wp2_with (first
    | (go_at_call 13; refine (fstIs_no c h0 w6).mono ?_; rintro e w7 ⟨rfl, hb7⟩; have h7 := h6.below hb7)
    | (go_at_call 12; refine (check_c f fin arcs c w5 h5.fin h5.arcs HC.out).mono ?_; rintro e w6 ⟨rfl, hb6⟩; have h6 := h5.below hb6; obtain ⟨a0', a1', a2', a3'⟩ := cfT5.below hb6; obtain ⟨b0', b1', b2', b3'⟩ := cfR5.below hb6)
    | (go_at_call 11; refine (fstBegun_any _ h4b.tab h4b.sh).mono ?_; rintro e w5 ⟨rfl, hb5⟩; have h5 := h4b.below hb5; have cfT5 := cfT4.below hb5; have cfR5 := cfR.below hb5; obtain ⟨d0, d1, d2, d3⟩ := h5.cells)
    | (go_at_call 8; refine (checkFst_c f fin arcs c _ h3.fin h3.arcs HC.out).mono ?_; rintro e w4 ⟨rfl, hb4⟩; have h4 := h3.below hb4; have h4b := h4.below (bel_up (bel_self w4) (.cells #[.int .i64 0, .int .i64 0, .slice none 0 0, .slice none 0 0] 25)); have cfT4 := (cfT.below hb4).below (bel_up (bel_self w4) (.cells #[.int .i64 0, .int .i64 0, .slice none 0 0, .slice none 0 0] 25)); have cfR := cellsF_new w4 0 0 (.slice none 0 0) (.slice none 0 0) 25)
    | (go_at_call 7; refine (trim_c f fin arcs c w1 h1.fin h1.arcs HC.out h0).mono ?_; rintro e w2 ⟨rfl, hb2⟩; have h2 := h1.below hb2; have h3 := h2.below (bel_up (bel_self w2) (.cells #[.int .i64 0, .int .i64 0, .slice none 0 0, .slice none 0 0] 25)); have cfT := cellsF_new w2 0 0 (.slice none 0 0) (.slice none 0 0) 25; obtain ⟨g0, g1, g2, g3⟩ := h3.cells)
    | (go_at_call 6; refine (print_c f fin arcs c _ hW.fin hW.arcs HC.out h0).mono ?_; rintro e w1 ⟨rfl, hb1⟩; have h1 := hW.below hb1; obtain ⟨c0, c1, c2, c3⟩ := h1.cells))
  go_ret
  exact ⟨rfl, h7.bel⟩

theorem set4_cells {w : World} {R : Nat} {u0 u1 u2 u3 : Value} (z0 : w.cell? ⟨R, 0, none⟩ = some u0) (z1 : w.cell? ⟨R, 1, none⟩ = some u1) (z2 : w.cell? ⟨R, 2, none⟩ = some u2) (z3 : w.cell? ⟨R, 3, none⟩ = some u3) (a b : Int) (u v : Value) :
    CellsF ((((w.setCell ⟨R, 0, none⟩ (.int .i64 a)).setCell ⟨R, 1, none⟩ (.int .i64 b)).setCell ⟨R, 2, none⟩ u).setCell ⟨R, 3, none⟩ v) R a b u v := by
  refine ⟨?_, ?_, ?_, ?_⟩
  · exact set_off (set_off (set_off (set_same z0 _) (by decide)) (by decide)) (by decide)
  · exact set_off (set_off (set_same (set_off z1 (by decide)) _) (by decide)) (by decide)
  · exact set_off (set_same (set_off (set_off z2 (by decide)) (by decide)) _) (by decide)
  · exact set_same (set_off (set_off (set_off z3 (by decide)) (by decide)) (by decide)) _
theorem far4 {w : World} {R b k : Nat} (h : b ≠ R) (u0 u1 u2 u3 : Value) : ((((w.setCell ⟨R, 0, none⟩ u0).setCell ⟨R, 1, none⟩ u1).setCell ⟨R, 2, none⟩ u2).setCell ⟨R, 3, none⟩ u3).cell? ⟨b, k, none⟩ = w.cell? ⟨b, k, none⟩ := by
  rw [set_far h, set_far h, set_far h, set_far h]
theorem isl_set4 {w : World} {R : Nat} {v : Value} {xs : List Int} (h : ISlice w v xs) (hv : ¬ v.ownBlock = some R) (u0 u1 u2 u3 : Value) : ISlice ((((w.setCell ⟨R, 0, none⟩ u0).setCell ⟨R, 1, none⟩ u1).setCell ⟨R, 2, none⟩ u2).setCell ⟨R, 3, none⟩ u3) v xs := by
  rcases h with h | ⟨b, off, n, cap, rfl, hx, hn⟩
  · exact Or.inl h
  · have hb : b ≠ R := fun e => hv (by rw [e]; rfl)
    exact Or.inr ⟨b, off, n, cap, rfl, ⟨hx.len, fun i hi => by rw [far4 hb]; exact hx.cell i hi⟩, hn⟩
theorem asl_set4 {w : World} {R : Nat} {v : Value} {xs : List ArcD} (h : ASlice w v xs) (hv : ¬ v.ownBlock = some R) (u0 u1 u2 u3 : Value) : ASlice ((((w.setCell ⟨R, 0, none⟩ u0).setCell ⟨R, 1, none⟩ u1).setCell ⟨R, 2, none⟩ u2).setCell ⟨R, 3, none⟩ u3) v xs := by
  rcases h with h | ⟨b, off, n, cap, rfl, hx, hn⟩
  · exact Or.inl h
  · have hb : b ≠ R := fun e => hv (by rw [e]; rfl)
    exact Or.inr ⟨b, off, n, cap, rfl, ⟨hx.len, fun i hi => by rw [far4 hb]; exact hx.c0 i hi, fun i hi => by rw [far4 hb]; exact hx.c1 i hi, fun i hi => by rw [far4 hb]; exact hx.c2 i hi, fun i hi => by rw [far4 hb]; exact hx.c3 i hi, fun i hi => by rw [far4 hb]; exact hx.c4 i hi⟩, hn⟩

set_option maxHeartbeats 4000000 in
set_option maxRecDepth 100000 in
theorem tells_yes (f : FstD) (fin arcs : Value) (T : ByteArray) (w : World) (hf : ISlice w fin f.final) (ha : ASlice w arcs f.arcs) (ht : TabW w) (hsh : w.ShapedOpen Tryd.prog) (hc : checkD f = 0) (hT : strOf (printD f) = T) :
    Calls Tryd.prog 3 #[.agg #[.int .i64 f.states, .int .i64 f.start, fin, arcs]] w fun e w' => e = .returned (.bool true) ∧ Below w.heap.size w w' := by
  have hW := BW.start f fin arcs w hf ha ht hsh
  have HC : Hid (checkD f = 0) := hc
  have HT : Hid (strOf (printD f) = T) := hT
  clear hc hT
  go_enter Tryd.func3, Tryd.ntmps3
  go_wp2_with (first
    | (go_at_call 8; refine (checkFst_c f fin arcs 0 _ h3.fin h3.arcs HC.out).mono ?_; rintro e w4 ⟨rfl, hb4⟩; have h4 := h3.below hb4; have h4b := h4.below (bel_up (bel_self w4) (.cells #[.int .i64 0, .int .i64 0, .slice none 0 0, .slice none 0 0] 25)); have cfT4 := cfT.below hb4; have hI4 := hIb.below hb4; have hA4 := hAb.below hb4)
    | (go_at_call 7; refine (trim_ok f fin arcs w1 h1.fin h1.arcs HC.out).mono ?_; rintro e w2 ⟨⟨ta, tn, tc, tb, tm, td, rfl, hI2, hA2⟩, hb2⟩; have h2 := h1.below hb2; have h3 := h2.below (bel_up (bel_self w2) (.cells #[.int .i64 (trimD f).states, .int .i64 (trimD f).start, .slice ta tn tc, .slice tb tm td] 25)); have cfT := cellsF_new w2 (trimD f).states (trimD f).start (.slice ta tn tc) (.slice tb tm td) 25; have hIb := hI2.below (bel_up (bel_self w2) (.cells #[.int .i64 (trimD f).states, .int .i64 (trimD f).start, .slice ta tn tc, .slice tb tm td] 25)); have hAb := hA2.below (bel_up (bel_self w2) (.cells #[.int .i64 (trimD f).states, .int .i64 (trimD f).start, .slice ta tn tc, .slice tb tm td] 25)); obtain ⟨g0, g1, g2, g3⟩ := h3.cells)
    | (go_at_call 6; refine (print_yes f fin arcs T _ hW.fin hW.arcs hW.tab HC.out HT.out).mono ?_; rintro e w1 ⟨rfl, hb1⟩; have h1 := hW.below hb1; obtain ⟨c0, c1, c2, c3⟩ := h1.cells))
  have hzW : ZBlock (w4.alloc (.cells #[.int .i64 0, .int .i64 0, .slice none 0 0, .slice none 0 0] 25)) w4.heap.size := heap_alloc_new w4 _
  have hd := h4b.below (bel_self _).drew
  have hzd := heap_bel (bel_self (w4.alloc (.cells #[.int .i64 0, .int .i64 0, .slice none 0 0, .slice none 0 0] 25))).drew hzW
  obtain ⟨e0, e1, e2, e3⟩ := h4b.cells
  obtain ⟨i0, i1, i2, i3⟩ := hd.cells
  go_region_with (first
    | (go_at_call 9; refine (printFst_T f fin arcs T _ hd.fin hd.arcs HC.out HT.out).mono ?_; rintro e wp ⟨rfl, hbp⟩; have hp := hd.below hbp; have hzp := heap_bel hbp hzd; obtain ⟨p0, p1, p2, p3⟩ := hp.cells)
    | (go_at_call 10; refine (trimOf_ok f fin arcs wp hp.fin hp.arcs HC.out).mono ?_; rintro e wt ⟨⟨oa, on, oc, ob, om, od, rfl, hIo, hAo, hgI, hgA⟩, hbt⟩; obtain ⟨z0, z1, z2, z3, x0, x1, x2, x3⟩ := zfacts (heap_bel hbt hzp)))
  all_goals
    have hsz : w4.heap.size < wp.heap.size := by have := hbp.size; simp at this; omega
    have hbF : Below w4.heap.size w4 ((((wt.setCell ⟨w4.heap.size, 0, none⟩ (.int .i64 (trimD f).states)).setCell ⟨w4.heap.size, 1, none⟩ (.int .i64 (trimD f).start)).setCell ⟨w4.heap.size, 2, none⟩ (.slice oa on oc)).setCell ⟨w4.heap.size, 3, none⟩ (.slice ob om od)) := bel_set4 ((((bel_up (bel_self w4) (.cells #[.int .i64 0, .int .i64 0, .slice none 0 0, .slice none 0 0] 25)).drew.trans (hbp.mono (by simp))).trans (hbt.mono (by omega)))) (Nat.le_refl _) _ _ _ _
    have cfR := set4_cells z0 z1 z2 z3 (trimD f).states (trimD f).start (.slice oa on oc) (.slice ob om od)
    have hIF := isl_set4 hIo (R := w4.heap.size) (fun e => by have := hgI _ e; omega) (.int .i64 (trimD f).states) (.int .i64 (trimD f).start) (.slice oa on oc) (.slice ob om od)
    have hAF := asl_set4 hAo (R := w4.heap.size) (fun e => by have := hgA _ e; omega) (.int .i64 (trimD f).states) (.int .i64 (trimD f).start) (.slice oa on oc) (.slice ob om od)
    have hF := h4.below hbF
    have cfTF := cfT4.below hbF
    have hI6 := hI4.below hbF
    have hA6 := hA4.below hbF
    clear hd hzd e0 e1 e2 e3 i0 i1 i2 i3 hp hzp p0 p1 p2 p3 z0 z1 z2 z3 x0 x1 x2 x3 hIo hAo hgI hgA hbF hsz hzW h4b hbp hbt
    generalize ((((wt.setCell ⟨w4.heap.size, 0, none⟩ (.int .i64 (trimD f).states)).setCell ⟨w4.heap.size, 1, none⟩ (.int .i64 (trimD f).start)).setCell ⟨w4.heap.size, 2, none⟩ (.slice oa on oc)).setCell ⟨w4.heap.size, 3, none⟩ (.slice ob om od)) = wF at *
    go_wp2_with (first
      | (go_at_call 13; refine (fstIs_ok (trimD f) (.slice ta tn tc) (.slice tb tm td) (.slice oa on oc) (.slice ob om od) w6 (hI5.below hb6) (hA5.below hb6) (hIF5.below hb6) (hAF5.below hb6)).mono ?_; rintro e w7 ⟨rfl, hb7⟩; have h7 := h6.below hb7)
      | (go_at_call 12; refine (check_c f fin arcs 0 w5 h5.fin h5.arcs HC.out).mono ?_; rintro e w6 ⟨rfl, hb6⟩; have h6 := h5.below hb6; obtain ⟨a0', a1', a2', a3'⟩ := cfT5.below hb6; obtain ⟨b0', b1', b2', b3'⟩ := cfR5.below hb6)
      | (go_at_call 11; refine (fstBegun_any _ hF.tab hF.sh).mono ?_; rintro e w5 ⟨rfl, hb5⟩; have h5 := hF.below hb5; have cfT5 := cfTF.below hb5; have cfR5 := cfR.below hb5; have hI5 := hI6.below hb5; have hA5 := hA6.below hb5; have hIF5 := hIF.below hb5; have hAF5 := hAF.below hb5; obtain ⟨d0, d1, d2, d3⟩ := h5.cells))
    go_ret
    exact ⟨rfl, h7.bel⟩

theorem fstTells_any (f : FstD) (fin arcs : Value) (w : World) (hf : ISlice w fin f.final) (ha : ASlice w arcs f.arcs) (ht : TabW w) (hsh : w.ShapedOpen Tryd.prog) :
    Calls Tryd.prog 3 #[.agg #[.int .i64 f.states, .int .i64 f.start, fin, arcs]] w fun e w' => e = .returned (.bool true) ∧ Below w.heap.size w w' := by
  by_cases hc : checkD f = 0
  · exact tells_yes f fin arcs _ w hf ha ht hsh hc rfl
  · exact tells_no f fin arcs _ w hf ha ht hsh rfl (by simpa using hc)

end Go.Proofs.YteehgcbjmdideaaDoor
