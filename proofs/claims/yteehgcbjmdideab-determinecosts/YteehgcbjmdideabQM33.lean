/- The law 'DetermineCosts': the walks. (Made by wip/gen/dcl.py.) -/
import Derived.Test.YteehgcbjmdideabQM32
import Derived.Test.YteehgcbjmdideabQM01
import Derived.ProofKit
import Derived.OpenShut
import Derived.Deep.Slices
import Derived.Lib.SmallJoins
import Derived.ChangeArms
set_option maxRecDepth 100000
namespace Go.Proofs.Yteehgcbjmdideab
open Go.RowKit
attribute [local go_sem ↓] Go.wp_at_zero Go.wp_at_succ
set_option maxHeartbeats 6400000 in
theorem costs_bad (f : FstD) (l : List Int) (fin arcs lv : Value) (w : World) (hf : ISlice w fin f.final) (ha : ASlice w arcs f.arcs) (hl : ISlice w lv l) (hc : checkD f ≠ 0) :
  Calls Try.prog 3 #[.agg #[.int .i64 f.states, .int .i64 f.start, fin, arcs], lv] w fun e w' => e = .returned (.bool true) ∧ Below w.heap.size w w' := by
 obtain ⟨c, hcd⟩ : ∃ c, c = checkD f := ⟨_, rfl⟩
 have HC : Hid (checkD f = c) := hcd.symm
 have hcn : (c == 0) = false := by rw [hcd]; simpa using hc
 have hcm : (c != 0) = true := by rw [hcd]; simpa using hc
 obtain ⟨fa, fn, fc, rfl, _, _⟩ := hf.lenOf
 obtain ⟨aa, an, ac, rfl, _, _⟩ := ha.lenOf
 obtain ⟨A, hA⟩ : ∃ W, W = w.alloc (.cells #[.int .i64 f.states, .int .i64 f.start, .slice fa fn fc, .slice aa an ac] 25) := ⟨_, rfl⟩
 have hB : Below w.heap.size w A := by rw [hA]; exact bel_up (bel_self w) _
 have hcf : CellsF A w.heap.size f.states f.start (.slice fa fn fc) (.slice aa an ac) := by rw [hA]; exact cellsF_new _ _ _ _ _ _
 have HIN : Hid (∀ W, Below A.heap.size A W → (ISlice W (.slice fa fn fc) f.final ∧ ASlice W (.slice aa an ac) f.arcs ∧ ISlice W lv l) ∧ CellsF W w.heap.size f.states f.start (.slice fa fn fc) (.slice aa an ac)) := fun W h => ⟨⟨hf.below (bel_on hB h), ha.below (bel_on hB h), hl.below (bel_on hB h)⟩, hcf.below h⟩
 have h7 := det_bad f _ _ A (hf.below hB) (ha.below hB) hc
 have HA : Hid (A = w.alloc (.cells #[.int .i64 f.states, .int .i64 f.start, .slice fa fn fc, .slice aa an ac] 25)) := hA
 rw [hA] at h7
 clear hA hf ha hl hcf
 clear hc hcd
 go_enter Try.func3, Try.ntmps3
 go_wp2_with (first | (go_at_call 7; refine h7.mono ?_; rintro e w1 ⟨rfl, hb1⟩; rw [← HA.out] at hb1; clear h7; have bA := bel_up hb1 (.cells #[.int .i64 0, .int .i64 0, .slice none 0 0, .slice none 0 0] 25); have hcX := cellsF_new w1 0 0 (.slice none 0 0) (.slice none 0 0) 25; obtain ⟨A5, hA5⟩ : ∃ W, W = w1.alloc (.cells #[.int .i64 0, .int .i64 0, .slice none 0 0, .slice none 0 0] 25) := ⟨_, rfl⟩; rw [← hA5] at bA hcX; have HA5 := hid_of hA5; rw [HC.out]; have HX : Hid (∀ W, Below A5.heap.size A5 W → CellsF W w1.heap.size 0 0 (.slice none 0 0) (.slice none 0 0)) := fun W h => hcX.below h; have xA := bel_self A5; obtain ⟨p0, p1, p2, p3⟩ := (HIN.out A5 bA).2; obtain ⟨r0, r1, r2, r3⟩ := hcX; rw [hA5] at p0 p1 p2 p3 r0 r1 r2 r3; have h8 := checkFst_any f _ _ A5 (HIN.out A5 bA).1.1 (HIN.out A5 bA).1.2.1; rw [HC.out] at h8; rw [hA5] at h8; clear hA5) | (go_at_call 8; refine h8.mono ?_; rintro e w2 ⟨rfl, hb2⟩; clear h8; rw [← HA5.out] at hb2; have b2 := bel_on bA hb2; have x2 := bel_on xA hb2; clear p0 p1 p2 p3 r0 r1 r2 r3; obtain ⟨p0, p1, p2, p3⟩ := (HIN.out w2 b2).2; obtain ⟨r0, r1, r2, r3⟩ := HX.out w2 x2; have h13 := determineBegun_any w2) | (go_at_call 13; refine h13.mono ?_; rintro e w3 ⟨rfl, hb3⟩; clear h13; have b3 := bel_on b2 hb3; have x3 := bel_on x2 hb3; clear p0 p1 p2 p3 r0 r1 r2 r3; obtain ⟨p0, p1, p2, p3⟩ := (HIN.out w3 b3).2; obtain ⟨r0, r1, r2, r3⟩ := HX.out w3 x3; have h14 := scoreBegun_any w3) | (go_at_call 14; refine h14.mono ?_; rintro e w4 ⟨rfl, hb4⟩; clear h14; have b4 := bel_on b3 hb4; have x4 := bel_on x3 hb4; clear p0 p1 p2 p3 r0 r1 r2 r3; obtain ⟨p0, p1, p2, p3⟩ := (HIN.out w4 b4).2; obtain ⟨r0, r1, r2, r3⟩ := HX.out w4 x4))
 go_ret
 exact ⟨rfl, bel_on hB b4⟩
set_option maxHeartbeats 6400000 in
theorem costs_not (f : FstD) (l : List Int) (fin arcs lv : Value) (w : World) (hf : ISlice w fin f.final) (ha : ASlice w arcs f.arcs) (hl : ISlice w lv l) (hc : checkD f = 0) (hb : bothB f = false) :
  Calls Try.prog 3 #[.agg #[.int .i64 f.states, .int .i64 f.start, fin, arcs], lv] w fun e w' => e = .returned (.bool true) ∧ Below w.heap.size w w' := by
 have HF : Hid (Fine f) := fine_of hc
 have HC : Hid (checkD f = 0) := hc
 have HB1 : Hid (bothB f = false) := hb
 obtain ⟨fa, fn, fc, rfl, _, _⟩ := hf.lenOf
 obtain ⟨aa, an, ac, rfl, _, _⟩ := ha.lenOf
 obtain ⟨A, hA⟩ : ∃ W, W = w.alloc (.cells #[.int .i64 f.states, .int .i64 f.start, .slice fa fn fc, .slice aa an ac] 25) := ⟨_, rfl⟩
 have hB : Below w.heap.size w A := by rw [hA]; exact bel_up (bel_self w) _
 have hcf : CellsF A w.heap.size f.states f.start (.slice fa fn fc) (.slice aa an ac) := by rw [hA]; exact cellsF_new _ _ _ _ _ _
 have HIN : Hid (∀ W, Below A.heap.size A W → (ISlice W (.slice fa fn fc) f.final ∧ ASlice W (.slice aa an ac) f.arcs ∧ ISlice W lv l) ∧ CellsF W w.heap.size f.states f.start (.slice fa fn fc) (.slice aa an ac)) := fun W h => ⟨⟨hf.below (bel_on hB h), ha.below (bel_on hB h), hl.below (bel_on hB h)⟩, hcf.below h⟩
 have h7 := det_not f _ _ A (hf.below hB) (ha.below hB) hc (by rw [hb]; rfl)
 have HA : Hid (A = w.alloc (.cells #[.int .i64 f.states, .int .i64 f.start, .slice fa fn fc, .slice aa an ac] 25)) := hA
 rw [hA] at h7
 clear hA hf ha hl hcf
 clear hc hb
 go_enter Try.func3, Try.ntmps3
 go_wp2_with (first | (go_at_call 7; refine h7.mono ?_; rintro e w1 ⟨rfl, hb1⟩; rw [← HA.out] at hb1; clear h7; have bA := bel_up hb1 (.cells #[.int .i64 0, .int .i64 0, .slice none 0 0, .slice none 0 0] 25); have hcX := cellsF_new w1 0 0 (.slice none 0 0) (.slice none 0 0) 25; obtain ⟨A5, hA5⟩ : ∃ W, W = w1.alloc (.cells #[.int .i64 0, .int .i64 0, .slice none 0 0, .slice none 0 0] 25) := ⟨_, rfl⟩; rw [← hA5] at bA hcX; have HA5 := hid_of hA5; have HX : Hid (∀ W, Below A5.heap.size A5 W → CellsF W w1.heap.size 0 0 (.slice none 0 0) (.slice none 0 0)) := fun W h => hcX.below h; have xA := bel_self A5; obtain ⟨p0, p1, p2, p3⟩ := (HIN.out A5 bA).2; obtain ⟨r0, r1, r2, r3⟩ := hcX; rw [hA5] at p0 p1 p2 p3 r0 r1 r2 r3; have h8 := checkFst_any f _ _ A5 (HIN.out A5 bA).1.1 (HIN.out A5 bA).1.2.1; rw [hA5] at h8; clear hA5) | (go_at_call 8; refine h8.mono ?_; rintro e w2 ⟨rfl, hb2⟩; clear h8; rw [← HA5.out] at hb2; have b2 := bel_on bA hb2; have x2 := bel_on xA hb2; clear p0 p1 p2 p3 r0 r1 r2 r3; obtain ⟨p0, p1, p2, p3⟩ := (HIN.out w2 b2).2; obtain ⟨r0, r1, r2, r3⟩ := HX.out w2 x2; rw [HC.out]; have h9 := isBoth_any f _ _ w2 HF.out.many (HIN.out w2 b2).1.1 (HIN.out w2 b2).1.2.1) | (go_at_call 9; refine h9.mono ?_; rintro e w3 ⟨rfl, hb3⟩; clear h9; have b3 := bel_on b2 hb3; have x3 := bel_on x2 hb3; clear p0 p1 p2 p3 r0 r1 r2 r3; obtain ⟨p0, p1, p2, p3⟩ := (HIN.out w3 b3).2; obtain ⟨r0, r1, r2, r3⟩ := HX.out w3 x3; rw [HB1.out]; have h13 := determineBegun_any w3) | (go_at_call 13; refine h13.mono ?_; rintro e w4 ⟨rfl, hb4⟩; clear h13; have b4 := bel_on b3 hb4; have x4 := bel_on x3 hb4; clear p0 p1 p2 p3 r0 r1 r2 r3; obtain ⟨p0, p1, p2, p3⟩ := (HIN.out w4 b4).2; obtain ⟨r0, r1, r2, r3⟩ := HX.out w4 x4; have h14 := scoreBegun_any w4) | (go_at_call 14; refine h14.mono ?_; rintro e w5 ⟨rfl, hb5⟩; clear h14; have b5 := bel_on b4 hb5; have x5 := bel_on x4 hb5; clear p0 p1 p2 p3 r0 r1 r2 r3; obtain ⟨p0, p1, p2, p3⟩ := (HIN.out w5 b5).2; obtain ⟨r0, r1, r2, r3⟩ := HX.out w5 x5))
 go_ret
 exact ⟨rfl, bel_on hB b5⟩
set_option maxHeartbeats 6400000 in
theorem costs_sil (f : FstD) (l : List Int) (fin arcs lv : Value) (w : World) (hf : ISlice w fin f.final) (ha : ASlice w arcs f.arcs) (hl : ISlice w lv l) (hc : checkD f = 0) (hb : bothB f = true) (hs : silB f = true) :
  Calls Try.prog 3 #[.agg #[.int .i64 f.states, .int .i64 f.start, fin, arcs], lv] w fun e w' => e = .returned (.bool true) ∧ Below w.heap.size w w' := by
 have HF : Hid (Fine f) := fine_of hc
 have HC : Hid (checkD f = 0) := hc
 have HB1 : Hid (bothB f = true) := hb
 have HS1 : Hid (silB f = true) := hs
 obtain ⟨fa, fn, fc, rfl, _, _⟩ := hf.lenOf
 obtain ⟨aa, an, ac, rfl, _, _⟩ := ha.lenOf
 obtain ⟨A, hA⟩ : ∃ W, W = w.alloc (.cells #[.int .i64 f.states, .int .i64 f.start, .slice fa fn fc, .slice aa an ac] 25) := ⟨_, rfl⟩
 have hB : Below w.heap.size w A := by rw [hA]; exact bel_up (bel_self w) _
 have hcf : CellsF A w.heap.size f.states f.start (.slice fa fn fc) (.slice aa an ac) := by rw [hA]; exact cellsF_new _ _ _ _ _ _
 have HIN : Hid (∀ W, Below A.heap.size A W → (ISlice W (.slice fa fn fc) f.final ∧ ASlice W (.slice aa an ac) f.arcs ∧ ISlice W lv l) ∧ CellsF W w.heap.size f.states f.start (.slice fa fn fc) (.slice aa an ac)) := fun W h => ⟨⟨hf.below (bel_on hB h), ha.below (bel_on hB h), hl.below (bel_on hB h)⟩, hcf.below h⟩
 have h7 := det_not f _ _ A (hf.below hB) (ha.below hB) hc (by rw [hb, hs]; rfl)
 have HA : Hid (A = w.alloc (.cells #[.int .i64 f.states, .int .i64 f.start, .slice fa fn fc, .slice aa an ac] 25)) := hA
 rw [hA] at h7
 clear hA hf ha hl hcf
 clear hc hb hs
 go_enter Try.func3, Try.ntmps3
 go_wp2_with (first | (go_at_call 7; refine h7.mono ?_; rintro e w1 ⟨rfl, hb1⟩; rw [← HA.out] at hb1; clear h7; have bA := bel_up hb1 (.cells #[.int .i64 0, .int .i64 0, .slice none 0 0, .slice none 0 0] 25); have hcX := cellsF_new w1 0 0 (.slice none 0 0) (.slice none 0 0) 25; obtain ⟨A5, hA5⟩ : ∃ W, W = w1.alloc (.cells #[.int .i64 0, .int .i64 0, .slice none 0 0, .slice none 0 0] 25) := ⟨_, rfl⟩; rw [← hA5] at bA hcX; have HA5 := hid_of hA5; have HX : Hid (∀ W, Below A5.heap.size A5 W → CellsF W w1.heap.size 0 0 (.slice none 0 0) (.slice none 0 0)) := fun W h => hcX.below h; have xA := bel_self A5; obtain ⟨p0, p1, p2, p3⟩ := (HIN.out A5 bA).2; obtain ⟨r0, r1, r2, r3⟩ := hcX; rw [hA5] at p0 p1 p2 p3 r0 r1 r2 r3; have h8 := checkFst_any f _ _ A5 (HIN.out A5 bA).1.1 (HIN.out A5 bA).1.2.1; rw [hA5] at h8; clear hA5) | (go_at_call 8; refine h8.mono ?_; rintro e w2 ⟨rfl, hb2⟩; clear h8; rw [← HA5.out] at hb2; have b2 := bel_on bA hb2; have x2 := bel_on xA hb2; clear p0 p1 p2 p3 r0 r1 r2 r3; obtain ⟨p0, p1, p2, p3⟩ := (HIN.out w2 b2).2; obtain ⟨r0, r1, r2, r3⟩ := HX.out w2 x2; rw [HC.out]; have h9 := isBoth_any f _ _ w2 HF.out.many (HIN.out w2 b2).1.1 (HIN.out w2 b2).1.2.1) | (go_at_call 9; refine h9.mono ?_; rintro e w3 ⟨rfl, hb3⟩; clear h9; have b3 := bel_on b2 hb3; have x3 := bel_on x2 hb3; clear p0 p1 p2 p3 r0 r1 r2 r3; obtain ⟨p0, p1, p2, p3⟩ := (HIN.out w3 b3).2; obtain ⟨r0, r1, r2, r3⟩ := HX.out w3 x3; rw [HB1.out]; have h10 := hasSilent_any f _ _ w3 HF.out.many (HIN.out w3 b3).1.1 (HIN.out w3 b3).1.2.1) | (go_at_call 10; refine h10.mono ?_; rintro e w4 ⟨rfl, hb4⟩; clear h10; have b4 := bel_on b3 hb4; have x4 := bel_on x3 hb4; clear p0 p1 p2 p3 r0 r1 r2 r3; obtain ⟨p0, p1, p2, p3⟩ := (HIN.out w4 b4).2; obtain ⟨r0, r1, r2, r3⟩ := HX.out w4 x4; rw [HS1.out]; have h13 := determineBegun_any w4) | (go_at_call 13; refine h13.mono ?_; rintro e w5 ⟨rfl, hb5⟩; clear h13; have b5 := bel_on b4 hb5; have x5 := bel_on x4 hb5; clear p0 p1 p2 p3 r0 r1 r2 r3; obtain ⟨p0, p1, p2, p3⟩ := (HIN.out w5 b5).2; obtain ⟨r0, r1, r2, r3⟩ := HX.out w5 x5; have h14 := scoreBegun_any w5) | (go_at_call 14; refine h14.mono ?_; rintro e w6 ⟨rfl, hb6⟩; clear h14; have b6 := bel_on b5 hb6; have x6 := bel_on x5 hb6; clear p0 p1 p2 p3 r0 r1 r2 r3; obtain ⟨p0, p1, p2, p3⟩ := (HIN.out w6 b6).2; obtain ⟨r0, r1, r2, r3⟩ := HX.out w6 x6))
 go_ret
 exact ⟨rfl, bel_on hB b6⟩
set_option maxHeartbeats 6400000 in
theorem costs_round (f : FstD) (l : List Int) (fin arcs lv : Value) (w : World) (hf : ISlice w fin f.final) (ha : ASlice w arcs f.arcs) (hl : ISlice w lv l) (hc : checkD f = 0) (hb : bothB f = true) (hs : silB f = false) (hr : RoundD f) :
  Calls Try.prog 3 #[.agg #[.int .i64 f.states, .int .i64 f.start, fin, arcs], lv] w fun e w' => e = .returned (.bool true) ∧ Below w.heap.size w w' := by
 have HF : Hid (Fine f) := fine_of hc
 have HC : Hid (checkD f = 0) := hc
 have HB1 : Hid (bothB f = true) := hb
 have HS1 : Hid (silB f = false) := hs
 have HR1 : Hid (RoundD f) := hr
 obtain ⟨fa, fn, fc, rfl, _, _⟩ := hf.lenOf
 obtain ⟨aa, an, ac, rfl, _, _⟩ := ha.lenOf
 obtain ⟨A, hA⟩ : ∃ W, W = w.alloc (.cells #[.int .i64 f.states, .int .i64 f.start, .slice fa fn fc, .slice aa an ac] 25) := ⟨_, rfl⟩
 have hB : Below w.heap.size w A := by rw [hA]; exact bel_up (bel_self w) _
 have hcf : CellsF A w.heap.size f.states f.start (.slice fa fn fc) (.slice aa an ac) := by rw [hA]; exact cellsF_new _ _ _ _ _ _
 have HIN : Hid (∀ W, Below A.heap.size A W → (ISlice W (.slice fa fn fc) f.final ∧ ASlice W (.slice aa an ac) f.arcs ∧ ISlice W lv l) ∧ CellsF W w.heap.size f.states f.start (.slice fa fn fc) (.slice aa an ac)) := fun W h => ⟨⟨hf.below (bel_on hB h), ha.below (bel_on hB h), hl.below (bel_on hB h)⟩, hcf.below h⟩
 have h7 := det_round f _ _ A (hf.below hB) (ha.below hB) hc (by rw [hb, hs]; rfl) hr
 have HA : Hid (A = w.alloc (.cells #[.int .i64 f.states, .int .i64 f.start, .slice fa fn fc, .slice aa an ac] 25)) := hA
 rw [hA] at h7
 clear hA hf ha hl hcf
 clear hc hb hs hr
 go_enter Try.func3, Try.ntmps3
 go_wp2_with (first | (go_at_call 7; refine h7.mono ?_; rintro e w1 ⟨rfl, hb1⟩; rw [← HA.out] at hb1; clear h7; have bA := bel_up hb1 (.cells #[.int .i64 0, .int .i64 0, .slice none 0 0, .slice none 0 0] 25); have hcX := cellsF_new w1 0 0 (.slice none 0 0) (.slice none 0 0) 25; obtain ⟨A5, hA5⟩ : ∃ W, W = w1.alloc (.cells #[.int .i64 0, .int .i64 0, .slice none 0 0, .slice none 0 0] 25) := ⟨_, rfl⟩; rw [← hA5] at bA hcX; have HA5 := hid_of hA5; have HX : Hid (∀ W, Below A5.heap.size A5 W → CellsF W w1.heap.size 0 0 (.slice none 0 0) (.slice none 0 0)) := fun W h => hcX.below h; have xA := bel_self A5; obtain ⟨p0, p1, p2, p3⟩ := (HIN.out A5 bA).2; obtain ⟨r0, r1, r2, r3⟩ := hcX; rw [hA5] at p0 p1 p2 p3 r0 r1 r2 r3; have h8 := checkFst_any f _ _ A5 (HIN.out A5 bA).1.1 (HIN.out A5 bA).1.2.1; rw [hA5] at h8; clear hA5) | (go_at_call 8; refine h8.mono ?_; rintro e w2 ⟨rfl, hb2⟩; clear h8; rw [← HA5.out] at hb2; have b2 := bel_on bA hb2; have x2 := bel_on xA hb2; clear p0 p1 p2 p3 r0 r1 r2 r3; obtain ⟨p0, p1, p2, p3⟩ := (HIN.out w2 b2).2; obtain ⟨r0, r1, r2, r3⟩ := HX.out w2 x2; rw [HC.out]; have h9 := isBoth_any f _ _ w2 HF.out.many (HIN.out w2 b2).1.1 (HIN.out w2 b2).1.2.1) | (go_at_call 9; refine h9.mono ?_; rintro e w3 ⟨rfl, hb3⟩; clear h9; have b3 := bel_on b2 hb3; have x3 := bel_on x2 hb3; clear p0 p1 p2 p3 r0 r1 r2 r3; obtain ⟨p0, p1, p2, p3⟩ := (HIN.out w3 b3).2; obtain ⟨r0, r1, r2, r3⟩ := HX.out w3 x3; rw [HB1.out]; have h10 := hasSilent_any f _ _ w3 HF.out.many (HIN.out w3 b3).1.1 (HIN.out w3 b3).1.2.1) | (go_at_call 10; refine h10.mono ?_; rintro e w4 ⟨rfl, hb4⟩; clear h10; have b4 := bel_on b3 hb4; have x4 := bel_on x3 hb4; clear p0 p1 p2 p3 r0 r1 r2 r3; obtain ⟨p0, p1, p2, p3⟩ := (HIN.out w4 b4).2; obtain ⟨r0, r1, r2, r3⟩ := HX.out w4 x4; rw [HS1.out]; have h11 := isRound_at f _ _ w4 HF.out (HIN.out w4 b4).1.1 (HIN.out w4 b4).1.2.1) | (go_at_call 11; refine h11.mono ?_; rintro e w5 ⟨rb, rfl, hrb, hb5⟩; clear h11; obtain rfl : rb = true := hrb.2 HR1.out; clear hrb; have b5 := bel_on b4 hb5; have x5 := bel_on x4 hb5; clear p0 p1 p2 p3 r0 r1 r2 r3; obtain ⟨p0, p1, p2, p3⟩ := (HIN.out w5 b5).2; obtain ⟨r0, r1, r2, r3⟩ := HX.out w5 x5; have h13 := determineBegun_any w5) | (go_at_call 13; refine h13.mono ?_; rintro e w6 ⟨rfl, hb6⟩; clear h13; have b6 := bel_on b5 hb6; have x6 := bel_on x5 hb6; clear p0 p1 p2 p3 r0 r1 r2 r3; obtain ⟨p0, p1, p2, p3⟩ := (HIN.out w6 b6).2; obtain ⟨r0, r1, r2, r3⟩ := HX.out w6 x6; have h14 := scoreBegun_any w6) | (go_at_call 14; refine h14.mono ?_; rintro e w7 ⟨rfl, hb7⟩; clear h14; have b7 := bel_on b6 hb7; have x7 := bel_on x6 hb7; clear p0 p1 p2 p3 r0 r1 r2 r3; obtain ⟨p0, p1, p2, p3⟩ := (HIN.out w7 b7).2; obtain ⟨r0, r1, r2, r3⟩ := HX.out w7 x7))
 go_ret
 exact ⟨rfl, bel_on hB b7⟩
set_option maxHeartbeats 6400000 in
theorem costs_many (f : FstD) (l : List Int) (fin arcs lv : Value) (w : World) (hf : ISlice w fin f.final) (ha : ASlice w arcs f.arcs) (hl : ISlice w lv l) (t : FstD) (N s0 : Nat) (hd : DIn f t N s0) (hm : ManyD t s0) (h7c : ∀ (fin arcs : Value) (W : World), ISlice W fin f.final → ASlice W arcs f.arcs → Calls Try.prog 7 #[.agg #[.int .i64 f.states, .int .i64 f.start, fin, arcs]] W fun e w' => NoFst W 2 e w') :
  Calls Try.prog 3 #[.agg #[.int .i64 f.states, .int .i64 f.start, fin, arcs], lv] w fun e w' => e = .returned (.bool true) ∧ Below w.heap.size w w' := by
 have hc := hd.hc
 have hb := hd.both
 have hs := hd.sil
 have hr := hd.nr
 have HF : Hid (Fine f) := fine_of hc
 have HC : Hid (checkD f = 0) := hc
 have HB1 : Hid (bothB f = true) := hb
 have HS1 : Hid (silB f = false) := hs
 have HR1 : Hid (¬ RoundD f) := hr
 have HD : Hid (DIn f t N s0) := hd
 have HMA : Hid (ManyD t s0) := hm
 obtain ⟨fa, fn, fc, rfl, _, _⟩ := hf.lenOf
 obtain ⟨aa, an, ac, rfl, _, _⟩ := ha.lenOf
 obtain ⟨A, hA⟩ : ∃ W, W = w.alloc (.cells #[.int .i64 f.states, .int .i64 f.start, .slice fa fn fc, .slice aa an ac] 25) := ⟨_, rfl⟩
 have hB : Below w.heap.size w A := by rw [hA]; exact bel_up (bel_self w) _
 have hcf : CellsF A w.heap.size f.states f.start (.slice fa fn fc) (.slice aa an ac) := by rw [hA]; exact cellsF_new _ _ _ _ _ _
 have HIN : Hid (∀ W, Below A.heap.size A W → (ISlice W (.slice fa fn fc) f.final ∧ ASlice W (.slice aa an ac) f.arcs ∧ ISlice W lv l) ∧ CellsF W w.heap.size f.states f.start (.slice fa fn fc) (.slice aa an ac)) := fun W h => ⟨⟨hf.below (bel_on hB h), ha.below (bel_on hB h), hl.below (bel_on hB h)⟩, hcf.below h⟩
 have h7 := h7c _ _ A (hf.below hB) (ha.below hB)
 have HA : Hid (A = w.alloc (.cells #[.int .i64 f.states, .int .i64 f.start, .slice fa fn fc, .slice aa an ac] 25)) := hA
 rw [hA] at h7
 clear hA hf ha hl hcf
 clear hc hb hs hr hd hm h7c
 go_enter Try.func3, Try.ntmps3
 go_wp2_with (first | (go_at_call 7; refine h7.mono ?_; rintro e w1 ⟨rfl, hb1⟩; rw [← HA.out] at hb1; clear h7; have bA := bel_up hb1 (.cells #[.int .i64 0, .int .i64 0, .slice none 0 0, .slice none 0 0] 25); have hcX := cellsF_new w1 0 0 (.slice none 0 0) (.slice none 0 0) 25; obtain ⟨A5, hA5⟩ : ∃ W, W = w1.alloc (.cells #[.int .i64 0, .int .i64 0, .slice none 0 0, .slice none 0 0] 25) := ⟨_, rfl⟩; rw [← hA5] at bA hcX; have HA5 := hid_of hA5; have HX : Hid (∀ W, Below A5.heap.size A5 W → CellsF W w1.heap.size 0 0 (.slice none 0 0) (.slice none 0 0)) := fun W h => hcX.below h; have xA := bel_self A5; obtain ⟨p0, p1, p2, p3⟩ := (HIN.out A5 bA).2; obtain ⟨r0, r1, r2, r3⟩ := hcX; rw [hA5] at p0 p1 p2 p3 r0 r1 r2 r3; have h8 := checkFst_any f _ _ A5 (HIN.out A5 bA).1.1 (HIN.out A5 bA).1.2.1; rw [hA5] at h8; clear hA5) | (go_at_call 8; refine h8.mono ?_; rintro e w2 ⟨rfl, hb2⟩; clear h8; rw [← HA5.out] at hb2; have b2 := bel_on bA hb2; have x2 := bel_on xA hb2; clear p0 p1 p2 p3 r0 r1 r2 r3; obtain ⟨p0, p1, p2, p3⟩ := (HIN.out w2 b2).2; obtain ⟨r0, r1, r2, r3⟩ := HX.out w2 x2; rw [HC.out]; have h9 := isBoth_any f _ _ w2 HF.out.many (HIN.out w2 b2).1.1 (HIN.out w2 b2).1.2.1) | (go_at_call 9; refine h9.mono ?_; rintro e w3 ⟨rfl, hb3⟩; clear h9; have b3 := bel_on b2 hb3; have x3 := bel_on x2 hb3; clear p0 p1 p2 p3 r0 r1 r2 r3; obtain ⟨p0, p1, p2, p3⟩ := (HIN.out w3 b3).2; obtain ⟨r0, r1, r2, r3⟩ := HX.out w3 x3; rw [HB1.out]; have h10 := hasSilent_any f _ _ w3 HF.out.many (HIN.out w3 b3).1.1 (HIN.out w3 b3).1.2.1) | (go_at_call 10; refine h10.mono ?_; rintro e w4 ⟨rfl, hb4⟩; clear h10; have b4 := bel_on b3 hb4; have x4 := bel_on x3 hb4; clear p0 p1 p2 p3 r0 r1 r2 r3; obtain ⟨p0, p1, p2, p3⟩ := (HIN.out w4 b4).2; obtain ⟨r0, r1, r2, r3⟩ := HX.out w4 x4; rw [HS1.out]; have h11 := isRound_at f _ _ w4 HF.out (HIN.out w4 b4).1.1 (HIN.out w4 b4).1.2.1) | (go_at_call 11; refine h11.mono ?_; rintro e w5 ⟨rb, rfl, hrb, hb5⟩; clear h11; obtain rfl : rb = false := Bool.eq_false_iff.2 (fun h => HR1.out (hrb.1 h)); clear hrb; have b5 := bel_on b4 hb5; have x5 := bel_on x4 hb5; clear p0 p1 p2 p3 r0 r1 r2 r3; obtain ⟨p0, p1, p2, p3⟩ := (HIN.out w5 b5).2; obtain ⟨r0, r1, r2, r3⟩ := HX.out w5 x5; have h12 := wordsOf_any f t N s0 _ _ w5 HD.out (HIN.out w5 b5).1.1 (HIN.out w5 b5).1.2.1) | (go_at_call 12; refine h12.mono ?_; rintro e w6 ⟨wb, w3q, Wm, wfa, wfn, wfc, waa, wm, wac, cv, pv, lvv, LCq, wsq, csq, psq, lsq, iq, cq, rfl, hb6, _, _, _, hTq, hWq, _, hq1, hq2⟩; clear h12; obtain rfl : wb = false := (by cases wb with | false => rfl | true => exact absurd HMA.out (by obtain ⟨rfl, rfl, h3⟩ := hq1 rfl; exact hTq.few HD.out.hT.sin h3)); obtain ⟨gq1, kq1, rfl⟩ := Go.Joins.ownsRow_form hWq.oC (by have := (List.getElem?_eq_some_iff.1 hTq.w0).1; have := hTq.l1; have := hWq.lc; omega); obtain ⟨gq2, kq2, rfl⟩ := Go.Joins.ownsRow_form hWq.oP (by have := (List.getElem?_eq_some_iff.1 hTq.w0).1; have := hTq.l2; omega); obtain ⟨gq3, kq3, rfl⟩ := Go.Joins.ownsRow_form hWq.oL (by have := (List.getElem?_eq_some_iff.1 hTq.w0).1; have := hTq.l3; omega); clear hTq hWq hq1 hq2; have b6 := bel_on b5 hb6; have x6 := bel_on x5 hb6; have bA8 := bel_up b6 (.cells #[.int .i64 (N : Int), .int .i64 (s0 : Int), .slice wfa wfn wfc, .slice waa wm wac, .slice (some ⟨gq1, 0, none⟩) LCq.length kq1, .slice (some ⟨gq2, 0, none⟩) psq.length kq2, .slice (some ⟨gq3, 0, none⟩) lsq.length kq3] 33); have xA8 := bel_up x6 (.cells #[.int .i64 (N : Int), .int .i64 (s0 : Int), .slice wfa wfn wfc, .slice waa wm wac, .slice (some ⟨gq1, 0, none⟩) LCq.length kq1, .slice (some ⟨gq2, 0, none⟩) psq.length kq2, .slice (some ⟨gq3, 0, none⟩) lsq.length kq3] 33); obtain ⟨A8, hA8⟩ : ∃ W, W = w6.alloc (.cells #[.int .i64 (N : Int), .int .i64 (s0 : Int), .slice wfa wfn wfc, .slice waa wm wac, .slice (some ⟨gq1, 0, none⟩) LCq.length kq1, .slice (some ⟨gq2, 0, none⟩) psq.length kq2, .slice (some ⟨gq3, 0, none⟩) lsq.length kq3] 33) := ⟨_, rfl⟩; rw [← hA8] at bA8 xA8; have HA8 := hid_of hA8; clear p0 p1 p2 p3 r0 r1 r2 r3; obtain ⟨p0, p1, p2, p3⟩ := (HIN.out A8 bA8).2; obtain ⟨r0, r1, r2, r3⟩ := HX.out A8 xA8; rw [hA8] at p0 p1 p2 p3 r0 r1 r2 r3; have h13 := determineBegun_any A8; rw [hA8] at h13; clear hA8) | (go_at_call 13; refine h13.mono ?_; rintro e w7 ⟨rfl, hb7⟩; clear h13; rw [← HA8.out] at hb7; have b7 := bel_on bA8 hb7; have x7 := bel_on xA8 hb7; clear p0 p1 p2 p3 r0 r1 r2 r3; obtain ⟨p0, p1, p2, p3⟩ := (HIN.out w7 b7).2; obtain ⟨r0, r1, r2, r3⟩ := HX.out w7 x7; have h14 := scoreBegun_any w7) | (go_at_call 14; refine h14.mono ?_; rintro e w8 ⟨rfl, hb8⟩; clear h14; have b8 := bel_on b7 hb8; have x8 := bel_on x7 hb8; clear p0 p1 p2 p3 r0 r1 r2 r3; obtain ⟨p0, p1, p2, p3⟩ := (HIN.out w8 b8).2; obtain ⟨r0, r1, r2, r3⟩ := HX.out w8 x8))
 go_ret
 exact ⟨rfl, bel_on hB b8⟩
set_option maxHeartbeats 6400000 in
theorem costs_heavy (f : FstD) (l : List Int) (fin arcs lv : Value) (w : World) (hf : ISlice w fin f.final) (ha : ASlice w arcs f.arcs) (hl : ISlice w lv l) (t : FstD) (N s0 : Nat) (hd : DIn f t N s0) (hm : ¬ ManyD t s0) (hw : 1000000000 < allD f) (h7c : ∀ (fin arcs : Value) (W : World), ISlice W fin f.final → ASlice W arcs f.arcs → Calls Try.prog 7 #[.agg #[.int .i64 f.states, .int .i64 f.start, fin, arcs]] W fun e w' => NoFst W 2 e w') :
  Calls Try.prog 3 #[.agg #[.int .i64 f.states, .int .i64 f.start, fin, arcs], lv] w fun e w' => e = .returned (.bool true) ∧ Below w.heap.size w w' := by
 have hc := hd.hc
 have hb := hd.both
 have hs := hd.sil
 have hr := hd.nr
 have HF : Hid (Fine f) := fine_of hc
 have HC : Hid (checkD f = 0) := hc
 have HB1 : Hid (bothB f = true) := hb
 have HS1 : Hid (silB f = false) := hs
 have HR1 : Hid (¬ RoundD f) := hr
 have HD : Hid (DIn f t N s0) := hd
 have HMA : Hid (¬ ManyD t s0) := hm
 have HAW : Hid (1000000000 < allD f) := hw
 obtain ⟨fa, fn, fc, rfl, _, _⟩ := hf.lenOf
 obtain ⟨aa, an, ac, rfl, _, _⟩ := ha.lenOf
 obtain ⟨A, hA⟩ : ∃ W, W = w.alloc (.cells #[.int .i64 f.states, .int .i64 f.start, .slice fa fn fc, .slice aa an ac] 25) := ⟨_, rfl⟩
 have hB : Below w.heap.size w A := by rw [hA]; exact bel_up (bel_self w) _
 have hcf : CellsF A w.heap.size f.states f.start (.slice fa fn fc) (.slice aa an ac) := by rw [hA]; exact cellsF_new _ _ _ _ _ _
 have HIN : Hid (∀ W, Below A.heap.size A W → (ISlice W (.slice fa fn fc) f.final ∧ ASlice W (.slice aa an ac) f.arcs ∧ ISlice W lv l) ∧ CellsF W w.heap.size f.states f.start (.slice fa fn fc) (.slice aa an ac)) := fun W h => ⟨⟨hf.below (bel_on hB h), ha.below (bel_on hB h), hl.below (bel_on hB h)⟩, hcf.below h⟩
 have h7 := h7c _ _ A (hf.below hB) (ha.below hB)
 have HA : Hid (A = w.alloc (.cells #[.int .i64 f.states, .int .i64 f.start, .slice fa fn fc, .slice aa an ac] 25)) := hA
 rw [hA] at h7
 clear hA hf ha hl hcf
 clear hc hb hs hr hd hm h7c hw
 go_enter Try.func3, Try.ntmps3
 go_wp2_with (first | (go_at_call 7; refine h7.mono ?_; rintro e w1 ⟨rfl, hb1⟩; rw [← HA.out] at hb1; clear h7; have bA := bel_up hb1 (.cells #[.int .i64 0, .int .i64 0, .slice none 0 0, .slice none 0 0] 25); have hcX := cellsF_new w1 0 0 (.slice none 0 0) (.slice none 0 0) 25; obtain ⟨A5, hA5⟩ : ∃ W, W = w1.alloc (.cells #[.int .i64 0, .int .i64 0, .slice none 0 0, .slice none 0 0] 25) := ⟨_, rfl⟩; rw [← hA5] at bA hcX; have HA5 := hid_of hA5; have HX : Hid (∀ W, Below A5.heap.size A5 W → CellsF W w1.heap.size 0 0 (.slice none 0 0) (.slice none 0 0)) := fun W h => hcX.below h; have xA := bel_self A5; obtain ⟨p0, p1, p2, p3⟩ := (HIN.out A5 bA).2; obtain ⟨r0, r1, r2, r3⟩ := hcX; rw [hA5] at p0 p1 p2 p3 r0 r1 r2 r3; have h8 := checkFst_any f _ _ A5 (HIN.out A5 bA).1.1 (HIN.out A5 bA).1.2.1; rw [hA5] at h8; clear hA5) | (go_at_call 8; refine h8.mono ?_; rintro e w2 ⟨rfl, hb2⟩; clear h8; rw [← HA5.out] at hb2; have b2 := bel_on bA hb2; have x2 := bel_on xA hb2; clear p0 p1 p2 p3 r0 r1 r2 r3; obtain ⟨p0, p1, p2, p3⟩ := (HIN.out w2 b2).2; obtain ⟨r0, r1, r2, r3⟩ := HX.out w2 x2; rw [HC.out]; have h9 := isBoth_any f _ _ w2 HF.out.many (HIN.out w2 b2).1.1 (HIN.out w2 b2).1.2.1) | (go_at_call 9; refine h9.mono ?_; rintro e w3 ⟨rfl, hb3⟩; clear h9; have b3 := bel_on b2 hb3; have x3 := bel_on x2 hb3; clear p0 p1 p2 p3 r0 r1 r2 r3; obtain ⟨p0, p1, p2, p3⟩ := (HIN.out w3 b3).2; obtain ⟨r0, r1, r2, r3⟩ := HX.out w3 x3; rw [HB1.out]; have h10 := hasSilent_any f _ _ w3 HF.out.many (HIN.out w3 b3).1.1 (HIN.out w3 b3).1.2.1) | (go_at_call 10; refine h10.mono ?_; rintro e w4 ⟨rfl, hb4⟩; clear h10; have b4 := bel_on b3 hb4; have x4 := bel_on x3 hb4; clear p0 p1 p2 p3 r0 r1 r2 r3; obtain ⟨p0, p1, p2, p3⟩ := (HIN.out w4 b4).2; obtain ⟨r0, r1, r2, r3⟩ := HX.out w4 x4; rw [HS1.out]; have h11 := isRound_at f _ _ w4 HF.out (HIN.out w4 b4).1.1 (HIN.out w4 b4).1.2.1) | (go_at_call 11; refine h11.mono ?_; rintro e w5 ⟨rb, rfl, hrb, hb5⟩; clear h11; obtain rfl : rb = false := Bool.eq_false_iff.2 (fun h => HR1.out (hrb.1 h)); clear hrb; have b5 := bel_on b4 hb5; have x5 := bel_on x4 hb5; clear p0 p1 p2 p3 r0 r1 r2 r3; obtain ⟨p0, p1, p2, p3⟩ := (HIN.out w5 b5).2; obtain ⟨r0, r1, r2, r3⟩ := HX.out w5 x5; have h12 := wordsOf_any f t N s0 _ _ w5 HD.out (HIN.out w5 b5).1.1 (HIN.out w5 b5).1.2.1) | (go_at_call 12; refine h12.mono ?_; rintro e w6 ⟨wb, w3q, Wm, wfa, wfn, wfc, waa, wm, wac, cv, pv, lvv, LCq, wsq, csq, psq, lsq, iq, cq, rfl, hb6, _, _, _, hTq, hWq, _, hq1, hq2⟩; clear h12; obtain rfl : wb = true := (by cases wb with | true => rfl | false => exact absurd (hTq.many (hq2 rfl)) HMA.out); obtain ⟨gq1, kq1, rfl⟩ := Go.Joins.ownsRow_form hWq.oC (by have := (List.getElem?_eq_some_iff.1 hTq.w0).1; have := hTq.l1; have := hWq.lc; omega); obtain ⟨gq2, kq2, rfl⟩ := Go.Joins.ownsRow_form hWq.oP (by have := (List.getElem?_eq_some_iff.1 hTq.w0).1; have := hTq.l2; omega); obtain ⟨gq3, kq3, rfl⟩ := Go.Joins.ownsRow_form hWq.oL (by have := (List.getElem?_eq_some_iff.1 hTq.w0).1; have := hTq.l3; omega); clear hTq hWq hq1 hq2; have b6 := bel_on b5 hb6; have x6 := bel_on x5 hb6; have bA8 := bel_up b6 (.cells #[.int .i64 (N : Int), .int .i64 (s0 : Int), .slice wfa wfn wfc, .slice waa wm wac, .slice (some ⟨gq1, 0, none⟩) LCq.length kq1, .slice (some ⟨gq2, 0, none⟩) psq.length kq2, .slice (some ⟨gq3, 0, none⟩) lsq.length kq3] 33); have xA8 := bel_up x6 (.cells #[.int .i64 (N : Int), .int .i64 (s0 : Int), .slice wfa wfn wfc, .slice waa wm wac, .slice (some ⟨gq1, 0, none⟩) LCq.length kq1, .slice (some ⟨gq2, 0, none⟩) psq.length kq2, .slice (some ⟨gq3, 0, none⟩) lsq.length kq3] 33); obtain ⟨A8, hA8⟩ : ∃ W, W = w6.alloc (.cells #[.int .i64 (N : Int), .int .i64 (s0 : Int), .slice wfa wfn wfc, .slice waa wm wac, .slice (some ⟨gq1, 0, none⟩) LCq.length kq1, .slice (some ⟨gq2, 0, none⟩) psq.length kq2, .slice (some ⟨gq3, 0, none⟩) lsq.length kq3] 33) := ⟨_, rfl⟩; rw [← hA8] at bA8 xA8; have HA8 := hid_of hA8; clear p0 p1 p2 p3 r0 r1 r2 r3; obtain ⟨p0, p1, p2, p3⟩ := (HIN.out A8 bA8).2; obtain ⟨r0, r1, r2, r3⟩ := HX.out A8 xA8; rw [hA8] at p0 p1 p2 p3 r0 r1 r2 r3; have h13 := determineBegun_any A8; rw [hA8] at h13; clear hA8) | (go_at_call 13; refine h13.mono ?_; rintro e w7 ⟨rfl, hb7⟩; clear h13; rw [← HA8.out] at hb7; have b7 := bel_on bA8 hb7; have x7 := bel_on xA8 hb7; clear p0 p1 p2 p3 r0 r1 r2 r3; obtain ⟨p0, p1, p2, p3⟩ := (HIN.out w7 b7).2; obtain ⟨r0, r1, r2, r3⟩ := HX.out w7 x7; have h14 := scoreBegun_any w7) | (go_at_call 14; refine h14.mono ?_; rintro e w8 ⟨rfl, hb8⟩; clear h14; have b8 := bel_on b7 hb8; have x8 := bel_on x7 hb8; clear p0 p1 p2 p3 r0 r1 r2 r3; obtain ⟨p0, p1, p2, p3⟩ := (HIN.out w8 b8).2; obtain ⟨r0, r1, r2, r3⟩ := HX.out w8 x8; have h15 := allWeights_any f _ _ w8 HF.out (HIN.out w8 b8).1.1 (HIN.out w8 b8).1.2.1; obtain ⟨ad, had⟩ : ∃ x, x = allD f := ⟨_, rfl⟩; rw [← had] at h15; have hgt : (1000000000 : Int) < ad := (by rw [had]; exact HAW.out); clear had) | (go_at_call 15; refine h15.mono ?_; rintro e w9 ⟨rfl, hb9⟩; clear h15; have b9 := bel_on b8 hb9; have x9 := bel_on x8 hb9; clear p0 p1 p2 p3 r0 r1 r2 r3; obtain ⟨p0, p1, p2, p3⟩ := (HIN.out w9 b9).2; obtain ⟨r0, r1, r2, r3⟩ := HX.out w9 x9))
 go_ret
 exact ⟨rfl, bel_on hB b9⟩
theorem scores_same {f x : FstD} {K : Nat} {l : List Int} {n1 e1 n2 e2 : Int} (hx : checkD x = 0) (hf : checkD f = 0) (ho : DetOut f f.start.toNat K x) (h1 : ScoreIs x l l n1 e1) (h2 : ScoreIs f l l n2 e2) : n1 = n2 ∧ e1 = e2 := by
 have he : e1 = e2 := by
  rw [h1.1, h2.1]
  unfold chkS
  rw [if_pos hx, if_pos hf]
 subst he
 by_cases h0 : e1 = 0
 ·obtain ⟨N1, s1, a1, a2, a3, a4⟩ := h1.2.2 h0
  obtain ⟨N2, s2, b1, b2, b3, b4⟩ := h2.2.2 h0
  have g1 := (best_path a3).1 a4
  have g2 := (best_path b3).1 b4
  have hs2 : f.start.toNat = s2 := by rw [b2, Int.toNat_natCast]
  have hs1 : s1 = 0 := by have := ho.sta; omega
  rw [← hs2] at g2
  rw [hs1] at g1
  exact ⟨g1.unique (ho.best l n2 g2), rfl⟩
 ·rw [h1.2.1 h0, h2.2.1 h0]
  exact ⟨rfl, rfl⟩
set_option maxHeartbeats 6400000 in
theorem costs_good (f : FstD) (l : List Int) (fin arcs lv : Value) (w : World) (hf : ISlice w fin f.final) (ha : ASlice w arcs f.arcs) (hl : ISlice w lv l) (t : FstD) (N s0 : Nat) (hd : DIn f t N s0) (K m : Nat) (x : FstD) (hm : ¬ ManyD t s0) (ho : DetOut f f.start.toNat K x) (hK : K ≤ 200) (hx : checkD x = 0) (h7c : ∀ (fin arcs : Value) (W : World), ISlice W fin f.final → ASlice W arcs f.arcs → Calls Try.prog 7 #[.agg #[.int .i64 f.states, .int .i64 f.start, fin, arcs]] W fun e w' => HasFst W K m x e w') :
  Calls Try.prog 3 #[.agg #[.int .i64 f.states, .int .i64 f.start, fin, arcs], lv] w fun e w' => e = .returned (.bool true) ∧ Below w.heap.size w w' := by
 have hc := hd.hc
 have hb := hd.both
 have hs := hd.sil
 have hr := hd.nr
 have HF : Hid (Fine f) := fine_of hc
 have HC : Hid (checkD f = 0) := hc
 have HB1 : Hid (bothB f = true) := hb
 have HS1 : Hid (silB f = false) := hs
 have HR1 : Hid (¬ RoundD f) := hr
 have HD : Hid (DIn f t N s0) := hd
 have HMA : Hid (¬ ManyD t s0) := hm
 have HO : Hid (DetOut f f.start.toNat K x ∧ K ≤ 200) := ⟨ho, hK⟩
 have HCX : Hid (checkD x = 0) := hx
 have HFX : Hid (Fine x) := fine_of hx
 have HNR : Hid (¬ RoundD x) := by
  have h := ho.noRound
  unfold RoundD
  rw [ho.st, Int.toNat_natCast]
  exact h
 obtain ⟨fa, fn, fc, rfl, _, _⟩ := hf.lenOf
 obtain ⟨aa, an, ac, rfl, _, _⟩ := ha.lenOf
 obtain ⟨A, hA⟩ : ∃ W, W = w.alloc (.cells #[.int .i64 f.states, .int .i64 f.start, .slice fa fn fc, .slice aa an ac] 25) := ⟨_, rfl⟩
 have hB : Below w.heap.size w A := by rw [hA]; exact bel_up (bel_self w) _
 have hcf : CellsF A w.heap.size f.states f.start (.slice fa fn fc) (.slice aa an ac) := by rw [hA]; exact cellsF_new _ _ _ _ _ _
 have HIN : Hid (∀ W, Below A.heap.size A W → (ISlice W (.slice fa fn fc) f.final ∧ ASlice W (.slice aa an ac) f.arcs ∧ ISlice W lv l) ∧ CellsF W w.heap.size f.states f.start (.slice fa fn fc) (.slice aa an ac)) := fun W h => ⟨⟨hf.below (bel_on hB h), ha.below (bel_on hB h), hl.below (bel_on hB h)⟩, hcf.below h⟩
 have h7 := h7c _ _ A (hf.below hB) (ha.below hB)
 have HA : Hid (A = w.alloc (.cells #[.int .i64 f.states, .int .i64 f.start, .slice fa fn fc, .slice aa an ac] 25)) := hA
 rw [hA] at h7
 clear hA hf ha hl hcf
 clear hc hb hs hr hd hm h7c ho hK hx
 go_enter Try.func3, Try.ntmps3
 go_wp2_with (first | (go_at_call 7; refine h7.mono ?_; rintro e w1 ⟨g1, c1, ba, bc, rfl, hN, _, hAr, hb1⟩; rw [← HA.out] at hb1; clear h7; have bA := bel_up hb1 (.cells #[.int .i64 (K : Int), .int .i64 0, .slice (some ⟨g1, 0, none⟩) K c1, .slice ba m bc] 25); have hcX := cellsF_new w1 (K : Int) 0 (.slice (some ⟨g1, 0, none⟩) K c1) (.slice ba m bc) 25; obtain ⟨A5, hA5⟩ : ∃ W, W = w1.alloc (.cells #[.int .i64 (K : Int), .int .i64 0, .slice (some ⟨g1, 0, none⟩) K c1, .slice ba m bc] 25) := ⟨_, rfl⟩; rw [← hA5] at bA hcX; have HA5 := hid_of hA5; have HX : Hid (∀ W, Below A5.heap.size A5 W → CellsF W w1.heap.size (K : Int) 0 (.slice (some ⟨g1, 0, none⟩) K c1) (.slice ba m bc)) := fun W h => hcX.below h; have xA := bel_self A5; obtain ⟨p0, p1, p2, p3⟩ := (HIN.out A5 bA).2; obtain ⟨r0, r1, r2, r3⟩ := hcX; rw [hA5] at p0 p1 p2 p3 r0 r1 r2 r3; have HXS : Hid (∀ W, Below A5.heap.size A5 W → ISlice W (.slice (some ⟨g1, 0, none⟩) K c1) x.final ∧ ASlice W (.slice ba m bc) x.arcs) := fun W h => ⟨(hN.slice c1 (by unfold maxLen; have := HO.out.2; omega)).below (bel_on (by rw [hA5]; exact bel_up (bel_self w1) _) h), (hAr.slice bc).below (bel_on (by rw [hA5]; exact bel_up (bel_self w1) _) h)⟩; have h8 := checkFst_any f _ _ A5 (HIN.out A5 bA).1.1 (HIN.out A5 bA).1.2.1; rw [hA5] at h8; clear hN hAr; clear hA5) | (go_at_call 8; refine h8.mono ?_; rintro e w2 ⟨rfl, hb2⟩; clear h8; rw [← HA5.out] at hb2; have b2 := bel_on bA hb2; have x2 := bel_on xA hb2; clear p0 p1 p2 p3 r0 r1 r2 r3; obtain ⟨p0, p1, p2, p3⟩ := (HIN.out w2 b2).2; obtain ⟨r0, r1, r2, r3⟩ := HX.out w2 x2; rw [HC.out]; have h9 := isBoth_any f _ _ w2 HF.out.many (HIN.out w2 b2).1.1 (HIN.out w2 b2).1.2.1) | (go_at_call 9; refine h9.mono ?_; rintro e w3 ⟨rfl, hb3⟩; clear h9; have b3 := bel_on b2 hb3; have x3 := bel_on x2 hb3; clear p0 p1 p2 p3 r0 r1 r2 r3; obtain ⟨p0, p1, p2, p3⟩ := (HIN.out w3 b3).2; obtain ⟨r0, r1, r2, r3⟩ := HX.out w3 x3; rw [HB1.out]; have h10 := hasSilent_any f _ _ w3 HF.out.many (HIN.out w3 b3).1.1 (HIN.out w3 b3).1.2.1) | (go_at_call 10; refine h10.mono ?_; rintro e w4 ⟨rfl, hb4⟩; clear h10; have b4 := bel_on b3 hb4; have x4 := bel_on x3 hb4; clear p0 p1 p2 p3 r0 r1 r2 r3; obtain ⟨p0, p1, p2, p3⟩ := (HIN.out w4 b4).2; obtain ⟨r0, r1, r2, r3⟩ := HX.out w4 x4; rw [HS1.out]; have h11 := isRound_at f _ _ w4 HF.out (HIN.out w4 b4).1.1 (HIN.out w4 b4).1.2.1) | (go_at_call 11; refine h11.mono ?_; rintro e w5 ⟨rb, rfl, hrb, hb5⟩; clear h11; obtain rfl : rb = false := Bool.eq_false_iff.2 (fun h => HR1.out (hrb.1 h)); clear hrb; have b5 := bel_on b4 hb5; have x5 := bel_on x4 hb5; clear p0 p1 p2 p3 r0 r1 r2 r3; obtain ⟨p0, p1, p2, p3⟩ := (HIN.out w5 b5).2; obtain ⟨r0, r1, r2, r3⟩ := HX.out w5 x5; have h12 := wordsOf_any f t N s0 _ _ w5 HD.out (HIN.out w5 b5).1.1 (HIN.out w5 b5).1.2.1) | (go_at_call 12; refine h12.mono ?_; rintro e w6 ⟨wb, w3q, Wm, wfa, wfn, wfc, waa, wm, wac, cv, pv, lvv, LCq, wsq, csq, psq, lsq, iq, cq, rfl, hb6, _, _, _, hTq, hWq, _, hq1, hq2⟩; clear h12; obtain rfl : wb = true := (by cases wb with | true => rfl | false => exact absurd (hTq.many (hq2 rfl)) HMA.out); obtain ⟨gq1, kq1, rfl⟩ := Go.Joins.ownsRow_form hWq.oC (by have := (List.getElem?_eq_some_iff.1 hTq.w0).1; have := hTq.l1; have := hWq.lc; omega); obtain ⟨gq2, kq2, rfl⟩ := Go.Joins.ownsRow_form hWq.oP (by have := (List.getElem?_eq_some_iff.1 hTq.w0).1; have := hTq.l2; omega); obtain ⟨gq3, kq3, rfl⟩ := Go.Joins.ownsRow_form hWq.oL (by have := (List.getElem?_eq_some_iff.1 hTq.w0).1; have := hTq.l3; omega); clear hTq hWq hq1 hq2; have b6 := bel_on b5 hb6; have x6 := bel_on x5 hb6; have bA8 := bel_up b6 (.cells #[.int .i64 (N : Int), .int .i64 (s0 : Int), .slice wfa wfn wfc, .slice waa wm wac, .slice (some ⟨gq1, 0, none⟩) LCq.length kq1, .slice (some ⟨gq2, 0, none⟩) psq.length kq2, .slice (some ⟨gq3, 0, none⟩) lsq.length kq3] 33); have xA8 := bel_up x6 (.cells #[.int .i64 (N : Int), .int .i64 (s0 : Int), .slice wfa wfn wfc, .slice waa wm wac, .slice (some ⟨gq1, 0, none⟩) LCq.length kq1, .slice (some ⟨gq2, 0, none⟩) psq.length kq2, .slice (some ⟨gq3, 0, none⟩) lsq.length kq3] 33); obtain ⟨A8, hA8⟩ : ∃ W, W = w6.alloc (.cells #[.int .i64 (N : Int), .int .i64 (s0 : Int), .slice wfa wfn wfc, .slice waa wm wac, .slice (some ⟨gq1, 0, none⟩) LCq.length kq1, .slice (some ⟨gq2, 0, none⟩) psq.length kq2, .slice (some ⟨gq3, 0, none⟩) lsq.length kq3] 33) := ⟨_, rfl⟩; rw [← hA8] at bA8 xA8; have HA8 := hid_of hA8; clear p0 p1 p2 p3 r0 r1 r2 r3; obtain ⟨p0, p1, p2, p3⟩ := (HIN.out A8 bA8).2; obtain ⟨r0, r1, r2, r3⟩ := HX.out A8 xA8; rw [hA8] at p0 p1 p2 p3 r0 r1 r2 r3; have h13 := determineBegun_any A8; rw [hA8] at h13; clear hA8) | (go_at_call 13; refine h13.mono ?_; rintro e w7 ⟨rfl, hb7⟩; clear h13; rw [← HA8.out] at hb7; have b7 := bel_on bA8 hb7; have x7 := bel_on xA8 hb7; clear p0 p1 p2 p3 r0 r1 r2 r3; obtain ⟨p0, p1, p2, p3⟩ := (HIN.out w7 b7).2; obtain ⟨r0, r1, r2, r3⟩ := HX.out w7 x7; have h14 := scoreBegun_any w7) | (go_at_call 14; refine h14.mono ?_; rintro e w8 ⟨rfl, hb8⟩; clear h14; have b8 := bel_on b7 hb8; have x8 := bel_on x7 hb8; clear p0 p1 p2 p3 r0 r1 r2 r3; obtain ⟨p0, p1, p2, p3⟩ := (HIN.out w8 b8).2; obtain ⟨r0, r1, r2, r3⟩ := HX.out w8 x8; have h8 := checkFst_any x _ _ w8 (HXS.out w8 x8).1 (HXS.out w8 x8).2; rw [HO.out.1.st, HO.out.1.sta] at h8) | (go_at_call 8; refine h8.mono ?_; rintro e w9 ⟨rfl, hb9⟩; clear h8; have b9 := bel_on b8 hb9; have x9 := bel_on x8 hb9; clear p0 p1 p2 p3 r0 r1 r2 r3; obtain ⟨p0, p1, p2, p3⟩ := (HIN.out w9 b9).2; obtain ⟨r0, r1, r2, r3⟩ := HX.out w9 x9; rw [HCX.out]; have h9 := isBoth_any x _ _ w9 HFX.out.many (HXS.out w9 x9).1 (HXS.out w9 x9).2; rw [HO.out.1.st, HO.out.1.sta] at h9) | (go_at_call 9; refine h9.mono ?_; rintro e w10 ⟨rfl, hb10⟩; clear h9; have b10 := bel_on b9 hb10; have x10 := bel_on x9 hb10; clear p0 p1 p2 p3 r0 r1 r2 r3; obtain ⟨p0, p1, p2, p3⟩ := (HIN.out w10 b10).2; obtain ⟨r0, r1, r2, r3⟩ := HX.out w10 x10; rw [HO.out.1.both]; have h16 := isSingle_any x _ _ w10 HFX.out.many (HXS.out w10 x10).1 (HXS.out w10 x10).2; rw [HO.out.1.st, HO.out.1.sta] at h16) | (go_at_call 16; refine h16.mono ?_; rintro e w11 ⟨sb, rfl, hsb, hb11⟩; clear h16; obtain rfl : sb = true := hsb.2 ⟨HO.out.1.single, HO.out.1.sil⟩; clear hsb; have b11 := bel_on b10 hb11; have x11 := bel_on x10 hb11; clear p0 p1 p2 p3 r0 r1 r2 r3; obtain ⟨p0, p1, p2, p3⟩ := (HIN.out w11 b11).2; obtain ⟨r0, r1, r2, r3⟩ := HX.out w11 x11; have h11 := isRound_at x _ _ w11 HFX.out (HXS.out w11 x11).1 (HXS.out w11 x11).2; rw [HO.out.1.st, HO.out.1.sta] at h11) | (go_at_call 11; refine h11.mono ?_; rintro e w12 ⟨rb2, rfl, hrb2, hb12⟩; clear h11; obtain rfl : rb2 = false := Bool.eq_false_iff.2 (fun h => HNR.out (hrb2.1 h)); clear hrb2; have b12 := bel_on b11 hb12; have x12 := bel_on x11 hb12; clear p0 p1 p2 p3 r0 r1 r2 r3; obtain ⟨p0, p1, p2, p3⟩ := (HIN.out w12 b12).2; obtain ⟨r0, r1, r2, r3⟩ := HX.out w12 x12; have h17 := score_any x l l _ _ lv lv w12 (HXS.out w12 x12).1 (HXS.out w12 x12).2 (HIN.out w12 b12).1.2.2 (HIN.out w12 b12).1.2.2; rw [HO.out.1.st, HO.out.1.sta] at h17) | (go_at_call 17; refine h17.mono ?_; rintro e w13 ⟨n1, e1, rfl, hs1, hb13⟩; clear h17; have HS17 := hid_of hs1; clear hs1; have b13 := bel_on b12 hb13; have x13 := bel_on x12 hb13; clear p0 p1 p2 p3 r0 r1 r2 r3; obtain ⟨p0, p1, p2, p3⟩ := (HIN.out w13 b13).2; obtain ⟨r0, r1, r2, r3⟩ := HX.out w13 x13; have h18 := score_any f l l _ _ lv lv w13 (HIN.out w13 b13).1.1 (HIN.out w13 b13).1.2.1 (HIN.out w13 b13).1.2.2 (HIN.out w13 b13).1.2.2) | (go_at_call 17; refine h18.mono ?_; rintro e w14 ⟨n2, e2, rfl, hs2, hb14⟩; clear h18; obtain ⟨rfl, rfl⟩ := scores_same HCX.out HC.out HO.out.1 HS17.out hs2; clear hs2; have b14 := bel_on b13 hb14; have x14 := bel_on x13 hb14; clear p0 p1 p2 p3 r0 r1 r2 r3; obtain ⟨p0, p1, p2, p3⟩ := (HIN.out w14 b14).2; obtain ⟨r0, r1, r2, r3⟩ := HX.out w14 x14))
 go_ret
 exact ⟨rfl, bel_on hB b14⟩
end Go.Proofs.Yteehgcbjmdideab
/- A transducer that came in, taken apart: what its value and its lists are. -/
namespace Go.Proofs.Yteehgcbjmdideab
open Go.ChangeShapes Go.WideShapes Go.ChangeAt Go.RowKit
set_option maxRecDepth 100000
theorem cellsI : Try.prog.cellsOf 3 = 1 := by kernel_rfl
theorem cellsArc : Try.prog.cellsOf 54 = 5 := by kernel_rfl
theorem cellsFst : Try.prog.cellsOf 25 = 4 := by kernel_rfl
theorem addr_add_plain (b off i : Nat) : (⟨b, off, none⟩ : Addr).add i = ⟨b, off + i, none⟩ := by
 by_cases h : i = 0
 ·subst h; rfl
 ·simp [Addr.add, h]
theorem open_ilist {H : Type} {enc : TypeId × Value → H} {W : World} {n : Nat} {v : Value} {y : DataW H × List MemPlace} (h : DataW.trod enc Try.prog W 0 (fun _ => true) true n 22 [v] = some y) : ∃ xs, ISlice W v xs := by
 rcases open_ints Try.underlying22 Try.underlying3 cellsI h with ⟨h1, _⟩ | ⟨a, len, cap, zs, h1, _, hl, hm, hz, _, hcell, _⟩
 ·exact ⟨[], Or.inl ⟨none, 0, by simpa using h1, rfl⟩⟩
 ·have hv : v = .slice (some a) len cap := by simpa using h1
  simp only [if_true] at hz
  by_cases h0 : len = 0
  ·exact ⟨[], Or.inl ⟨some a, cap, by rw [hv, h0], rfl⟩⟩
  ·obtain ⟨b, off, spot⟩ := a
   have hspot : spot = none := by simpa [Addr.add] using World.cell?_spot (hcell 0 (by omega))
   subst hspot
   refine ⟨zs.take len, Or.inr ⟨b, off, len, cap, hv, ⟨by simp; omega, fun i hi => ?_⟩, by omega⟩⟩
   have := hcell i (by omega)
   rw [addr_add_plain] at this
   rw [this]
   simp [List.getD, hi]
theorem five_cells {H : Type} {enc : TypeId × Value → H} {W : World} {n : Nat} {cs : List Value} {y : DataW H × List MemPlace} (h : DataW.trod enc Try.prog W 0 (fun _ => true) true n 54 cs = some y) :
  ∃ a : ArcD, cs = [.int .i64 a.src, .int .i64 a.inp, .int .i64 a.out, .int .i64 a.dst, .int .i64 a.wt] := by
 obtain ⟨xs, k, _, _, hlen, hxl, hf⟩ := DataW.trod_struct Try.underlying54 h
 rw [cellsArc] at hlen
 match cs, hlen with
 | [c0, c1, c2, c3, c4], _ =>
  have g0 : DataW.trod enc Try.prog W 0 (fun _ => true) true k 3 ((([c0, c1, c2, c3, c4] : List Value).drop 0).take (Try.prog.cellsOf 3)) = xs[0]? := hf 0 _ rfl
  have g1 : DataW.trod enc Try.prog W 0 (fun _ => true) true k 3 ((([c0, c1, c2, c3, c4] : List Value).drop 1).take (Try.prog.cellsOf 3)) = xs[1]? := hf 1 _ rfl
  have g2 : DataW.trod enc Try.prog W 0 (fun _ => true) true k 3 ((([c0, c1, c2, c3, c4] : List Value).drop 2).take (Try.prog.cellsOf 3)) = xs[2]? := hf 2 _ rfl
  have g3 : DataW.trod enc Try.prog W 0 (fun _ => true) true k 3 ((([c0, c1, c2, c3, c4] : List Value).drop 3).take (Try.prog.cellsOf 3)) = xs[3]? := hf 3 _ rfl
  have g4 : DataW.trod enc Try.prog W 0 (fun _ => true) true k 3 ((([c0, c1, c2, c3, c4] : List Value).drop 4).take (Try.prog.cellsOf 3)) = xs[4]? := hf 4 _ rfl
  have hx : xs.length = 5 := hxl
  rw [cellsI, List.getElem?_eq_getElem (by omega)] at g0 g1 g2 g3 g4
  obtain ⟨z0, e0, _⟩ := DataW.trod_int Try.underlying3 g0
  obtain ⟨z1, e1, _⟩ := DataW.trod_int Try.underlying3 g1
  obtain ⟨z2, e2, _⟩ := DataW.trod_int Try.underlying3 g2
  obtain ⟨z3, e3, _⟩ := DataW.trod_int Try.underlying3 g3
  obtain ⟨z4, e4, _⟩ := DataW.trod_int Try.underlying3 g4
  have d0 : c0 = .int .i64 z0 := by simpa using e0
  have d1 : c1 = .int .i64 z1 := by simpa using e1
  have d2 : c2 = .int .i64 z2 := by simpa using e2
  have d3 : c3 = .int .i64 z3 := by simpa using e3
  have d4 : c4 = .int .i64 z4 := by simpa using e4
  exact ⟨⟨z0, z1, z2, z3, z4⟩, by rw [d0, d1, d2, d3, d4]⟩
theorem open_alist {H : Type} {enc : TypeId × Value → H} {W : World} {n : Nat} {v : Value} {y : DataW H × List MemPlace} (h : DataW.trod enc Try.prog W 0 (fun _ => true) true n 23 [v] = some y) : ∃ ars, ASlice W v ars := by
 rcases Go.Deep.open_slice Try.underlying23 h with ⟨h1, _⟩ | ⟨a, len, cap, m, k, D, Pl, h1, _, hl, hm, hmm, _, hx⟩
 ·exact ⟨[], Or.inl ⟨none, 0, by simpa using h1, rfl⟩⟩
 ·have hv : v = .slice (some a) len cap := by simpa using h1
  simp only [if_true] at hmm
  by_cases h0 : len = 0
  ·exact ⟨[], Or.inl ⟨some a, cap, by rw [hv, h0], rfl⟩⟩
  ·rw [cellsArc] at hx
   have each : ∀ i, i < len → ∃ q : ArcD, ∀ j u, [Value.int .i64 q.src, .int .i64 q.inp, .int .i64 q.out, .int .i64 q.dst, .int .i64 q.wt][j]? = some u → j < 5 → W.cell? ((a.add (i * 5)).add j) = some u := fun i hi => by
    obtain ⟨cs, h2, h3⟩ := hx i (by omega)
    obtain ⟨q, hq⟩ := five_cells h3
    obtain ⟨_, _, hc⟩ := World.cells?_some h2
    exact ⟨q, fun j u hu hj => by rw [hc j hj, hq]; exact hu⟩
   have inh : Inhabited ArcD := ⟨a0⟩
   obtain ⟨q, hq⟩ := Go.Deep.choose_lt each
   obtain ⟨b, off, spot⟩ := a
   have hspot : spot = none := by
    have := World.cell?_spot (hq 0 (by omega) 0 _ rfl (by omega))
    simpa [Addr.add] using this
   subst hspot
   have hg : ∀ i, i < len → ((List.range len).map q).getD i a0 = q i := fun i hi => by simp [List.getD, hi]
   have key : ∀ i, i < len → ∀ j u, [Value.int .i64 (q i).src, .int .i64 (q i).inp, .int .i64 (q i).out, .int .i64 (q i).dst, .int .i64 (q i).wt][j]? = some u → j < 5 → W.cell? ⟨b, off + i * 5 + j, none⟩ = some u := fun i hi j u hu hj => by
    have := hq i hi j u hu hj
    rw [addr_add_plain, addr_add_plain] at this
    exact this
   refine ⟨(List.range len).map q, Or.inr ⟨b, off, len, cap, hv, ⟨by simp, fun i hi => ?_, fun i hi => ?_, fun i hi => ?_, fun i hi => ?_, fun i hi => ?_⟩, by omega⟩⟩
   ·rw [hg i hi]; exact key i hi 0 _ rfl (by omega)
   ·rw [hg i hi]; exact key i hi 1 _ rfl (by omega)
   ·rw [hg i hi]; exact key i hi 2 _ rfl (by omega)
   ·rw [hg i hi]; exact key i hi 3 _ rfl (by omega)
   ·rw [hg i hi]; exact key i hi 4 _ rfl (by omega)
theorem open_fst {H : Type} {enc : TypeId × Value → H} {W : World} {base : Nat} {v : Value} {d : DataW H} {p : List MemPlace} (hok : Value.okWide Try.prog W .any base 25 v) (h : DataW.Trod enc Try.prog W 0 (fun _ => true) true 25 v d p) :
  ∃ (f : FstD) (fin arcs : Value), v = .agg #[.int .i64 f.states, .int .i64 f.start, fin, arcs] ∧ ISlice W fin f.final ∧ ASlice W arcs f.arcs := by
 obtain ⟨v0, v1, v2, v3, y0, y1, y2, y3, n, rfl, _, _, h0, h1, h2, h3⟩ := Go.Joins.open_agg4 Try.underlying25 (by kernel_rfl) cellsFst hok h
 obtain ⟨z0, e0, _⟩ := DataW.trod_int Try.underlying3 h0
 obtain ⟨z1, e1, _⟩ := DataW.trod_int Try.underlying3 h1
 obtain ⟨xs, hi⟩ := open_ilist h2
 obtain ⟨ars, ha⟩ := open_alist h3
 have d0 : v0 = .int .i64 z0 := by simpa using e0
 have d1 : v1 = .int .i64 z1 := by simpa using e1
 exact ⟨⟨z0, z1, xs, ars⟩, v2, v3, by rw [d0, d1], hi, ha⟩
end Go.Proofs.Yteehgcbjmdideab
