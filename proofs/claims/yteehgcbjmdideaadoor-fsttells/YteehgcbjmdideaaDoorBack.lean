/- 'FstBack': what is printed is parsed as it was, and nothing else is: the call. -/
import Derived.Test.YteehgcbjmdideaaDoorFBeg
namespace Go.Proofs.YteehgcbjmdideaaDoor
open Go.RowKit Go.Maps Go.ChangeShapes
attribute [local go_sem ↓] Go.wp_at_zero Go.wp_at_succ

theorem parse_cases (s : List UInt8) : (∃ f, parseD s = ⟨f, 0, 0⟩ ∧ checkD f = 0 ∧ printD f = s) ∨ ∃ ln er, parseD s = ⟨fst0, ln, er⟩ ∧ er ≠ 0 := by
  by_cases h : (parseD s).err = 0
  · left
    obtain ⟨h1, h2⟩ := print_parse s h
    refine ⟨(parseD s).f, ?_, h1, h2⟩
    unfold parseD at h ⊢
    split
    · rename_i q; rw [if_pos q] at h; cases h
    · rename_i q
      rw [if_neg q] at h
      split
      · rename_i q2; rw [if_pos q2] at h; cases h
      · rename_i q2
        rw [if_neg q2] at h
        split
        · rename_i q3; rw [if_pos q3] at h; exact absurd h q3
        · rfl
  · right
    refine ⟨(parseD s).line, (parseD s).err, ?_, h⟩
    unfold parseD at h ⊢
    split
    · rfl
    · rename_i q
      rw [if_neg q] at h
      split
      · rfl
      · rename_i q2
        rw [if_neg q2] at h
        split
        · rfl
        · rename_i q3; rw [if_neg q3] at h; exact absurd rfl h

theorem parse_ok (s : ByteArray) (f : FstD) (w : World) (hm : s.size ≤ maxLen) (hsh : w.ShapedOpen Tryd.prog) (hp : parseD (listOf s) = ⟨f, 0, 0⟩) :
    Calls Tryd.prog 14 #[.string s] w fun e w' => (∃ a n c b m d, e = .returned (.tuple #[.agg #[.int .i64 f.states, .int .i64 f.start, .slice a n c, .slice b m d], .int .i64 0, .int .i64 0]) ∧ ISlice w' (.slice a n c) f.final ∧ ASlice w' (.slice b m d) f.arcs) ∧ Below w.heap.size w w' := by
  refine (parse_any s w hm hsh).mono fun e w' ⟨⟨fv, av, h1, h2, h3⟩, hb⟩ => ⟨?_, hb⟩
  rw [hp] at h1 h2 h3
  obtain ⟨a, n, c, rfl, _, _⟩ := h2.lenOf
  obtain ⟨b, m, d, rfl, _, _⟩ := h3.lenOf
  exact ⟨a, n, c, b, m, d, h1, h2, h3⟩

theorem parse_no (s : ByteArray) (ln er : Int) (w : World) (hm : s.size ≤ maxLen) (hsh : w.ShapedOpen Tryd.prog) (hp : parseD (listOf s) = ⟨fst0, ln, er⟩) :
    Calls Tryd.prog 14 #[.string s] w fun e w' => (∃ a n c b m d, e = .returned (.tuple #[.agg #[.int .i64 0, .int .i64 0, .slice a n c, .slice b m d], .int .i64 ln, .int .i64 er]) ∧ ISlice w' (.slice a n c) [] ∧ ASlice w' (.slice b m d) []) ∧ Below w.heap.size w w' := by
  refine (parse_any s w hm hsh).mono fun e w' ⟨⟨fv, av, h1, h2, h3⟩, hb⟩ => ⟨?_, hb⟩
  rw [hp] at h1 h2 h3
  obtain ⟨a, n, c, rfl, _, _⟩ := h2.lenOf
  obtain ⟨b, m, d, rfl, _, _⟩ := h3.lenOf
  exact ⟨a, n, c, b, m, d, h1, h2, h3⟩

theorem print_yes (f : FstD) (fin arcs : Value) (T : ByteArray) (w : World) (hf : ISlice w fin f.final) (ha : ASlice w arcs f.arcs) (ht : TabW w) (hc : checkD f = 0) (hT : strOf (printD f) = T) :
    Calls Tryd.prog 6 #[.agg #[.int .i64 f.states, .int .i64 f.start, fin, arcs]] w fun e w' => e = .returned (.tuple #[.string T, .int .i64 0]) ∧ Below w.heap.size w w' := by
  refine (print_any f fin arcs w hf ha ht).mono fun e w' ⟨h1, h2⟩ => ⟨?_, h2⟩
  rw [h1, if_pos hc, hc, hT]

theorem same_self (f : FstD) (fin arcs fin' arcs' : Value) (w : World) (hf : ISlice w fin f.final) (ha : ASlice w arcs f.arcs) (hf' : ISlice w fin' f.final) (ha' : ASlice w arcs' f.arcs) :
    Calls Tryd.prog 16 #[.agg #[.int .i64 f.states, .int .i64 f.start, fin, arcs], .agg #[.int .i64 f.states, .int .i64 f.start, fin', arcs']] w fun e w' => e = .returned (.bool true) ∧ Below w.heap.size w w' := by
  refine (sameFst_any f f fin arcs fin' arcs' w hf ha hf' ha').mono fun e w' ⟨h1, h2⟩ => ⟨?_, h2⟩
  rw [h1, sameD_self]

theorem strOf_listOf (s : ByteArray) : strOf (listOf s) = s := by simp [strOf, listOf]

/-- what both ends of the walk want of the world -/
structure BW (f : FstD) (fin arcs : Value) (w wx : World) : Prop where
  bel : Below w.heap.size w wx
  cells : CellsF wx w.heap.size f.states f.start fin arcs
  fin : ISlice wx fin f.final
  arcs : ASlice wx arcs f.arcs
  tab : TabW wx
  sh : wx.ShapedOpen Tryd.prog

theorem BW.below {f : FstD} {fin arcs : Value} {w wx wy : World} (h : BW f fin arcs w wx) (hb : Below wx.heap.size wx wy) : BW f fin arcs w wy :=
  ⟨bel_on h.bel hb, h.cells.below hb, h.fin.below hb, h.arcs.below hb, h.tab.below hb (Nat.le_refl _), shaped_below h.sh hb⟩

theorem BW.start (f : FstD) (fin arcs : Value) (w : World) (hf : ISlice w fin f.final) (ha : ASlice w arcs f.arcs) (ht : TabW w) (hsh : w.ShapedOpen Tryd.prog) : BW f fin arcs w (w.alloc (.cells #[.int .i64 f.states, .int .i64 f.start, fin, arcs] 25)) := by
  have hb := bel_up (bel_self w) (.cells #[.int .i64 f.states, .int .i64 f.start, fin, arcs] 25)
  exact ⟨hb, cellsF_new _ _ _ _ _ _, hf.below hb, ha.below hb, ht.below hb (Nat.le_refl _), shaped_below hsh hb⟩

set_option maxHeartbeats 2000000 in
set_option maxRecDepth 100000 in
theorem back_bn (f : FstD) (fin arcs : Value) (s : ByteArray) (w : World) (hf : ISlice w fin f.final) (ha : ASlice w arcs f.arcs) (ht : TabW w) (hsh : w.ShapedOpen Tryd.prog) (hm : s.size ≤ maxLen) (hc : (checkD f == 0) = false) (ln er : Int) (hp : parseD (listOf s) = ⟨fst0, ln, er⟩) (he : (er == 0) = false) :
    Calls Tryd.prog 5 #[.agg #[.int .i64 f.states, .int .i64 f.start, fin, arcs], .string s] w fun e w' => e = .returned (.bool true) ∧ Below w.heap.size w w' := by
  have hW := BW.start f fin arcs w hf ha ht hsh
  go_enter Tryd.func5, Tryd.ntmps5
  go_wp2_with (first | (go_at_call 11; refine (fstBegun_any _ hW.tab hW.sh).mono ?_; rintro e w1 ⟨rfl, hb1⟩; have h1 := hW.below hb1; obtain ⟨c0, c1, c2, c3⟩ := h1.cells) | (go_at_call 6; refine (print_bad f fin arcs w1 h1.fin h1.arcs hc).mono ?_; rintro e w2 ⟨rfl, hb2⟩; have h2 := h1.below hb2) | (go_at_call 14; refine (parse_no s ln er w2 hm h2.sh hp).mono ?_; rintro e w6 ⟨⟨a6, n6, k6, b6, m6, d6, rfl, hI6, hA6⟩, hb6⟩; have h6 := h2.below hb6))
  go_ret
  exact ⟨rfl, bel_up h6.bel _⟩

set_option maxHeartbeats 2000000 in
set_option maxRecDepth 100000 in
theorem back_by (f : FstD) (fin arcs : Value) (s : ByteArray) (w : World) (hf : ISlice w fin f.final) (ha : ASlice w arcs f.arcs) (ht : TabW w) (hsh : w.ShapedOpen Tryd.prog) (hm : s.size ≤ maxLen) (hc : (checkD f == 0) = false) (g : FstD) (hp : parseD (listOf s) = ⟨g, 0, 0⟩) (hg : checkD g = 0) (hgs : strOf (printD g) = s) :
    Calls Tryd.prog 5 #[.agg #[.int .i64 f.states, .int .i64 f.start, fin, arcs], .string s] w fun e w' => e = .returned (.bool true) ∧ Below w.heap.size w w' := by
  have hW := BW.start f fin arcs w hf ha ht hsh
  have HG : Hid (checkD g = 0 ∧ strOf (printD g) = s) := ⟨hg, hgs⟩
  clear hg hgs
  go_enter Tryd.func5, Tryd.ntmps5
  go_wp2_with (first | (go_at_call 11; refine (fstBegun_any _ hW.tab hW.sh).mono ?_; rintro e w1 ⟨rfl, hb1⟩; have h1 := hW.below hb1; obtain ⟨c0, c1, c2, c3⟩ := h1.cells) | (go_at_call 6; refine (print_yes g (.slice a6 n6 k6) (.slice b6 m6 d6) s _ hI7 hA7 h7.tab HG.out.1 HG.out.2).mono ?_; rintro e w8 ⟨rfl, hb8⟩; have h8 := h7.below hb8) | (go_at_call 6; refine (print_bad f fin arcs w1 h1.fin h1.arcs hc).mono ?_; rintro e w2 ⟨rfl, hb2⟩; have h2 := h1.below hb2) | (go_at_call 14; refine (parse_ok s g w2 hm h2.sh hp).mono ?_; rintro e w6 ⟨⟨a6, n6, k6, b6, m6, d6, rfl, hI6, hA6⟩, hb6⟩; have h6 := h2.below hb6; have hI7 := hI6.below (bel_up (bel_self w6) (.cells #[.int .i64 g.states, .int .i64 g.start, .slice a6 n6 k6, .slice b6 m6 d6] 25)); have hA7 := hA6.below (bel_up (bel_self w6) (.cells #[.int .i64 g.states, .int .i64 g.start, .slice a6 n6 k6, .slice b6 m6 d6] 25)); have h7 := h6.below (bel_up (bel_self w6) (.cells #[.int .i64 g.states, .int .i64 g.start, .slice a6 n6 k6, .slice b6 m6 d6] 25))))
  go_ret
  exact ⟨rfl, h8.bel⟩

set_option maxHeartbeats 2000000 in
set_option maxRecDepth 100000 in
theorem back_ln (f : FstD) (fin arcs : Value) (s : ByteArray) (w : World) (hf : ISlice w fin f.final) (ha : ASlice w arcs f.arcs) (ht : TabW w) (hsh : w.ShapedOpen Tryd.prog) (hm : s.size ≤ maxLen) (T : ByteArray) (hc : checkD f = 0) (hT : strOf (printD f) = T) (hl : 100000 < T.size) (hTm : T.size ≤ maxLen) (ln er : Int) (hp : parseD (listOf s) = ⟨fst0, ln, er⟩) (he : (er == 0) = false) :
    Calls Tryd.prog 5 #[.agg #[.int .i64 f.states, .int .i64 f.start, fin, arcs], .string s] w fun e w' => e = .returned (.bool true) ∧ Below w.heap.size w w' := by
  have hW := BW.start f fin arcs w hf ha ht hsh
  have HC : Hid (checkD f = 0) := hc
  have HT : Hid (strOf (printD f) = T) := hT
  clear hc hT
  have hli : (100000 : Int) < (T.size : Int) := by omega
  unfold maxLen at hTm
  go_enter Tryd.func5, Tryd.ntmps5
  go_wp2_with (first | (go_at_call 11; refine (fstBegun_any _ hW.tab hW.sh).mono ?_; rintro e w1 ⟨rfl, hb1⟩; have h1 := hW.below hb1; obtain ⟨c0, c1, c2, c3⟩ := h1.cells) | (go_at_call 6; refine (print_yes f fin arcs T w1 h1.fin h1.arcs h1.tab HC.out HT.out).mono ?_; rintro e w2 ⟨rfl, hb2⟩; have h2 := h1.below hb2) | (go_at_call 14; refine (parse_no s ln er w2 hm h2.sh hp).mono ?_; rintro e w6 ⟨⟨a6, n6, k6, b6, m6, d6, rfl, hI6, hA6⟩, hb6⟩; have h6 := h2.below hb6))
  go_ret
  exact ⟨rfl, bel_up h6.bel _⟩

set_option maxHeartbeats 2000000 in
set_option maxRecDepth 100000 in
theorem back_ly (f : FstD) (fin arcs : Value) (s : ByteArray) (w : World) (hf : ISlice w fin f.final) (ha : ASlice w arcs f.arcs) (ht : TabW w) (hsh : w.ShapedOpen Tryd.prog) (hm : s.size ≤ maxLen) (T : ByteArray) (hc : checkD f = 0) (hT : strOf (printD f) = T) (hl : 100000 < T.size) (hTm : T.size ≤ maxLen) (g : FstD) (hp : parseD (listOf s) = ⟨g, 0, 0⟩) (hg : checkD g = 0) (hgs : strOf (printD g) = s) :
    Calls Tryd.prog 5 #[.agg #[.int .i64 f.states, .int .i64 f.start, fin, arcs], .string s] w fun e w' => e = .returned (.bool true) ∧ Below w.heap.size w w' := by
  have hW := BW.start f fin arcs w hf ha ht hsh
  have HG : Hid (checkD g = 0 ∧ strOf (printD g) = s) := ⟨hg, hgs⟩
  clear hg hgs
  have HC : Hid (checkD f = 0) := hc
  have HT : Hid (strOf (printD f) = T) := hT
  clear hc hT
  have hli : (100000 : Int) < (T.size : Int) := by omega
  unfold maxLen at hTm
  go_enter Tryd.func5, Tryd.ntmps5
  go_wp2_with (first | (go_at_call 11; refine (fstBegun_any _ hW.tab hW.sh).mono ?_; rintro e w1 ⟨rfl, hb1⟩; have h1 := hW.below hb1; obtain ⟨c0, c1, c2, c3⟩ := h1.cells) | (go_at_call 6; refine (print_yes g (.slice a6 n6 k6) (.slice b6 m6 d6) s _ hI7 hA7 h7.tab HG.out.1 HG.out.2).mono ?_; rintro e w8 ⟨rfl, hb8⟩; have h8 := h7.below hb8) | (go_at_call 6; refine (print_yes f fin arcs T w1 h1.fin h1.arcs h1.tab HC.out HT.out).mono ?_; rintro e w2 ⟨rfl, hb2⟩; have h2 := h1.below hb2) | (go_at_call 14; refine (parse_ok s g w2 hm h2.sh hp).mono ?_; rintro e w6 ⟨⟨a6, n6, k6, b6, m6, d6, rfl, hI6, hA6⟩, hb6⟩; have h6 := h2.below hb6; have hI7 := hI6.below (bel_up (bel_self w6) (.cells #[.int .i64 g.states, .int .i64 g.start, .slice a6 n6 k6, .slice b6 m6 d6] 25)); have hA7 := hA6.below (bel_up (bel_self w6) (.cells #[.int .i64 g.states, .int .i64 g.start, .slice a6 n6 k6, .slice b6 m6 d6] 25)); have h7 := h6.below (bel_up (bel_self w6) (.cells #[.int .i64 g.states, .int .i64 g.start, .slice a6 n6 k6, .slice b6 m6 d6] 25))))
  go_ret
  exact ⟨rfl, h8.bel⟩

set_option maxHeartbeats 2000000 in
set_option maxRecDepth 100000 in
theorem back_sn (f : FstD) (fin arcs : Value) (s : ByteArray) (w : World) (hf : ISlice w fin f.final) (ha : ASlice w arcs f.arcs) (ht : TabW w) (hsh : w.ShapedOpen Tryd.prog) (hm : s.size ≤ maxLen) (T : ByteArray) (hc : checkD f = 0) (hT : strOf (printD f) = T) (hl : T.size ≤ 100000) (hPT : parseD (listOf T) = ⟨f, 0, 0⟩) (ln er : Int) (hp : parseD (listOf s) = ⟨fst0, ln, er⟩) (he : (er == 0) = false) :
    Calls Tryd.prog 5 #[.agg #[.int .i64 f.states, .int .i64 f.start, fin, arcs], .string s] w fun e w' => e = .returned (.bool true) ∧ Below w.heap.size w w' := by
  have hW := BW.start f fin arcs w hf ha ht hsh
  have HC : Hid (checkD f = 0) := hc
  have HT : Hid (strOf (printD f) = T) := hT
  clear hc hT
  have hli : (T.size : Int) ≤ 100000 := by omega
  have hTm : T.size ≤ maxLen := by unfold maxLen; omega
  have HPT : Hid (parseD (listOf T) = ⟨f, 0, 0⟩) := hPT
  clear hPT
  go_enter Tryd.func5, Tryd.ntmps5
  go_wp2_with (first | (go_at_call 11; refine (fstBegun_any _ hW.tab hW.sh).mono ?_; rintro e w1 ⟨rfl, hb1⟩; have h1 := hW.below hb1; obtain ⟨c0, c1, c2, c3⟩ := h1.cells) | (go_at_call 6; refine (print_yes f fin arcs T w1 h1.fin h1.arcs h1.tab HC.out HT.out).mono ?_; rintro e w2 ⟨rfl, hb2⟩; have h2 := h1.below hb2) | (go_at_call 14; refine (parse_no s ln er w5 hm h5.sh hp).mono ?_; rintro e w6 ⟨⟨a6, n6, k6, b6, m6, d6, rfl, hI6, hA6⟩, hb6⟩; have h6 := h5.below hb6) | (go_at_call 14; refine (parse_ok T f w2 hTm h2.sh HPT.out).mono ?_; rintro e w3 ⟨⟨a3, n3, k3, b3, m3, d3, rfl, hI3, hA3⟩, hb3⟩; have h3 := h2.below hb3; have hI4 := hI3.below (bel_up (bel_self w3) (.cells #[.int .i64 f.states, .int .i64 f.start, .slice a3 n3 k3, .slice b3 m3 d3] 25)); have hA4 := hA3.below (bel_up (bel_self w3) (.cells #[.int .i64 f.states, .int .i64 f.start, .slice a3 n3 k3, .slice b3 m3 d3] 25)); have h4 := h3.below (bel_up (bel_self w3) (.cells #[.int .i64 f.states, .int .i64 f.start, .slice a3 n3 k3, .slice b3 m3 d3] 25)); obtain ⟨e0, e1, e2, e3⟩ := h4.cells; obtain ⟨x0, x1, x2, x3⟩ := cellsF_new w3 f.states f.start (.slice a3 n3 k3) (.slice b3 m3 d3) 25) | (go_at_call 16; refine (same_self f fin arcs (.slice a3 n3 k3) (.slice b3 m3 d3) _ h4.fin h4.arcs hI4 hA4).mono ?_; rintro e w5 ⟨rfl, hb5⟩; have h5 := h4.below hb5))
  go_ret
  exact ⟨rfl, bel_up h6.bel _⟩

set_option maxHeartbeats 2000000 in
set_option maxRecDepth 100000 in
theorem back_sy (f : FstD) (fin arcs : Value) (s : ByteArray) (w : World) (hf : ISlice w fin f.final) (ha : ASlice w arcs f.arcs) (ht : TabW w) (hsh : w.ShapedOpen Tryd.prog) (hm : s.size ≤ maxLen) (T : ByteArray) (hc : checkD f = 0) (hT : strOf (printD f) = T) (hl : T.size ≤ 100000) (hPT : parseD (listOf T) = ⟨f, 0, 0⟩) (g : FstD) (hp : parseD (listOf s) = ⟨g, 0, 0⟩) (hg : checkD g = 0) (hgs : strOf (printD g) = s) :
    Calls Tryd.prog 5 #[.agg #[.int .i64 f.states, .int .i64 f.start, fin, arcs], .string s] w fun e w' => e = .returned (.bool true) ∧ Below w.heap.size w w' := by
  have hW := BW.start f fin arcs w hf ha ht hsh
  have HG : Hid (checkD g = 0 ∧ strOf (printD g) = s) := ⟨hg, hgs⟩
  clear hg hgs
  have HC : Hid (checkD f = 0) := hc
  have HT : Hid (strOf (printD f) = T) := hT
  clear hc hT
  have hli : (T.size : Int) ≤ 100000 := by omega
  have hTm : T.size ≤ maxLen := by unfold maxLen; omega
  have HPT : Hid (parseD (listOf T) = ⟨f, 0, 0⟩) := hPT
  clear hPT
  go_enter Tryd.func5, Tryd.ntmps5
  go_wp2_with (first | (go_at_call 11; refine (fstBegun_any _ hW.tab hW.sh).mono ?_; rintro e w1 ⟨rfl, hb1⟩; have h1 := hW.below hb1; obtain ⟨c0, c1, c2, c3⟩ := h1.cells) | (go_at_call 6; refine (print_yes g (.slice a6 n6 k6) (.slice b6 m6 d6) s _ hI7 hA7 h7.tab HG.out.1 HG.out.2).mono ?_; rintro e w8 ⟨rfl, hb8⟩; have h8 := h7.below hb8) | (go_at_call 6; refine (print_yes f fin arcs T w1 h1.fin h1.arcs h1.tab HC.out HT.out).mono ?_; rintro e w2 ⟨rfl, hb2⟩; have h2 := h1.below hb2) | (go_at_call 14; refine (parse_ok s g w5 hm h5.sh hp).mono ?_; rintro e w6 ⟨⟨a6, n6, k6, b6, m6, d6, rfl, hI6, hA6⟩, hb6⟩; have h6 := h5.below hb6; have hI7 := hI6.below (bel_up (bel_self w6) (.cells #[.int .i64 g.states, .int .i64 g.start, .slice a6 n6 k6, .slice b6 m6 d6] 25)); have hA7 := hA6.below (bel_up (bel_self w6) (.cells #[.int .i64 g.states, .int .i64 g.start, .slice a6 n6 k6, .slice b6 m6 d6] 25)); have h7 := h6.below (bel_up (bel_self w6) (.cells #[.int .i64 g.states, .int .i64 g.start, .slice a6 n6 k6, .slice b6 m6 d6] 25))) | (go_at_call 14; refine (parse_ok T f w2 hTm h2.sh HPT.out).mono ?_; rintro e w3 ⟨⟨a3, n3, k3, b3, m3, d3, rfl, hI3, hA3⟩, hb3⟩; have h3 := h2.below hb3; have hI4 := hI3.below (bel_up (bel_self w3) (.cells #[.int .i64 f.states, .int .i64 f.start, .slice a3 n3 k3, .slice b3 m3 d3] 25)); have hA4 := hA3.below (bel_up (bel_self w3) (.cells #[.int .i64 f.states, .int .i64 f.start, .slice a3 n3 k3, .slice b3 m3 d3] 25)); have h4 := h3.below (bel_up (bel_self w3) (.cells #[.int .i64 f.states, .int .i64 f.start, .slice a3 n3 k3, .slice b3 m3 d3] 25)); obtain ⟨e0, e1, e2, e3⟩ := h4.cells; obtain ⟨x0, x1, x2, x3⟩ := cellsF_new w3 f.states f.start (.slice a3 n3 k3) (.slice b3 m3 d3) 25) | (go_at_call 16; refine (same_self f fin arcs (.slice a3 n3 k3) (.slice b3 m3 d3) _ h4.fin h4.arcs hI4 hA4).mono ?_; rintro e w5 ⟨rfl, hb5⟩; have h5 := h4.below hb5))
  go_ret
  exact ⟨rfl, h8.bel⟩

theorem printD_le (f : FstD) (h : checkD f = 0) : (printD f).length ≤ 400000 := by
  have ok := check_ok f h
  have hb := inB_le ok.states
  have hs := inB_le ok.start
  have hl := ok.len
  have hm := ok.many
  have e1 := headB_le f.states f.start ⟨by omega, by omega⟩ ⟨by omega, by omega⟩
  have e2 := finalsB_le f.final f.final.length (by omega) (fun x hx => (finB_out (ok.fin x hx)).2) in64_z
  have e3 := arcsB_le f.arcs f.arcs.length (fun a ha => arcOk_in64 (ok.arcs a ha) hb.1 hb.2)
  unfold printD
  rw [List.length_append, List.length_append]
  omega

theorem fstBack_any (f : FstD) (fin arcs : Value) (s : ByteArray) (w : World) (hf : ISlice w fin f.final) (ha : ASlice w arcs f.arcs) (ht : TabW w) (hsh : w.ShapedOpen Tryd.prog) (hm : s.size ≤ maxLen) :
    Calls Tryd.prog 5 #[.agg #[.int .i64 f.states, .int .i64 f.start, fin, arcs], .string s] w fun e w' => e = .returned (.bool true) ∧ Below w.heap.size w w' := by
  by_cases hc : checkD f = 0
  · obtain ⟨T, hT⟩ : ∃ T, strOf (printD f) = T := ⟨_, rfl⟩
    have hsz : T.size = (printD f).length := by rw [← hT, size_strOf]
    have hle := printD_le f hc
    by_cases hl : 100000 < T.size
    · have hTm : T.size ≤ maxLen := by unfold maxLen; omega
      rcases parse_cases (listOf s) with ⟨g, h1, h2, h3⟩ | ⟨ln, er, h1, h2⟩
      · exact back_ly f fin arcs s w hf ha ht hsh hm T hc hT hl hTm g h1 h2 (by rw [h3, strOf_listOf])
      · exact back_ln f fin arcs s w hf ha ht hsh hm T hc hT hl hTm ln er h1 (by simpa using h2)
    · have hPT : parseD (listOf T) = ⟨f, 0, 0⟩ := by
        rw [← hT, listOf_strOf]
        exact parse_print f hc (by omega)
      rcases parse_cases (listOf s) with ⟨g, h1, h2, h3⟩ | ⟨ln, er, h1, h2⟩
      · exact back_sy f fin arcs s w hf ha ht hsh hm T hc hT (by omega) hPT g h1 h2 (by rw [h3, strOf_listOf])
      · exact back_sn f fin arcs s w hf ha ht hsh hm T hc hT (by omega) hPT ln er h1 (by simpa using h2)
  · have hc' : (checkD f == 0) = false := by simpa using hc
    rcases parse_cases (listOf s) with ⟨g, h1, h2, h3⟩ | ⟨ln, er, h1, h2⟩
    · exact back_by f fin arcs s w hf ha ht hsh hm hc' g h1 h2 (by rw [h3, strOf_listOf])
    · exact back_bn f fin arcs s w hf ha ht hsh hm hc' ln er h1 (by simpa using h2)

end Go.Proofs.YteehgcbjmdideaaDoor
