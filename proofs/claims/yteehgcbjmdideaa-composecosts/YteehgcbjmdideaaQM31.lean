/- 'fit', 'Either', 'Behind' and 'Again' of package simple, where something is wrong or too much. -/
import Derived.Test.YteehgcbjmdideaaQM18
import Derived.Test.YteehgcbjmdideaaQM30
namespace Go.Proofs.Yteehgcbjmdideaa
open Go.RowKit
attribute [local go_sem ↓] Go.wp_at_zero Go.wp_at_succ

set_option maxHeartbeats 1000000 in
theorem all_bad2 (f g : FstD) (fin arcs fin' arcs' : Value) (c : Int) (B : Nat) (w : World) (hC : CellsF w B f.states f.start fin arcs) (hD : CellsG w B g.states g.start fin' arcs') (hf : ISlice w fin f.final) (ha : ASlice w arcs f.arcs) (hf' : ISlice w fin' g.final) (ha' : ASlice w arcs' g.arcs) (h0 : (c == 0) = false) (hc : checkD f = c ∨ (checkD f = 0 ∧ checkD g = c)) :
    Calls Try.prog 59 #[.slice (some ⟨B, 0, none⟩) 2 2] w fun e w' => e = .returned (.int .i64 c) ∧ Below w.heap.size w w' := by
  obtain ⟨fa, fn, fc, rfl, _, _⟩ := hf.lenOf
  obtain ⟨ba, bn, bc, rfl, _, _⟩ := ha.lenOf
  obtain ⟨ga, gn, gc, rfl, _, _⟩ := hf'.lenOf
  obtain ⟨ea, en, ec, rfl, _, _⟩ := ha'.lenOf
  have h0n : (c != 0) = true := by simpa using h0
  have hchk : ∀ c0, checkD f = c0 → ∀ W, ISlice W (.slice fa fn fc) f.final → ASlice W (.slice ba bn bc) f.arcs → Calls Try.prog 101 #[.agg #[.int .i64 f.states, .int .i64 f.start, .slice fa fn fc, .slice ba bn bc]] W fun e w' => e = .returned (.int .i64 c0) ∧ Below W.heap.size W w' := by
    intro c0 hc0 W k1 k2; rw [← hc0]; exact check_any f _ _ W k1 k2
  have hchk' : ∀ c0, checkD g = c0 → ∀ W, ISlice W (.slice ga gn gc) g.final → ASlice W (.slice ea en ec) g.arcs → Calls Try.prog 101 #[.agg #[.int .i64 g.states, .int .i64 g.start, .slice ga gn gc, .slice ea en ec]] W fun e w' => e = .returned (.int .i64 c0) ∧ Below W.heap.size W w' := by
    intro c0 hc0 W k1 k2; rw [← hc0]; exact check_any g _ _ W k1 k2
  rcases hc with hc | ⟨hc, hc'⟩
  · have hk := hchk c hc
    clear hchk hchk' hc
    go_enter Try.func59, Try.ntmps59
    go_wp2
    go_loopw [8] (fun i wr => i = .int .i64 0 ∧ Below w.heap.size w wr) (fun i _ => 2 - (intOf i).toNat)
    case atStart => exact ⟨rfl, bel_self _⟩
    case round =>
      obtain ⟨rfl, hb⟩ := hrel
      obtain ⟨q0, q1, q2, q3⟩ := hC.below hb
      have hb1 := bel_up (bel_self wr) (.cells #[.int .i64 f.states, .int .i64 f.start, .slice fa fn fc, .slice ba bn bc] 25)
      have h1 := (hf.below hb).below hb1
      have h2 := (ha.below hb).below hb1
      go_wp2_with (go_at_call 101; refine (hk _ h1 h2).mono ?_; rintro e w1 ⟨rfl, hb2⟩)
      go_ret
      exact ⟨rfl, bel_on (bel_on hb hb1) hb2⟩
  · have hk := hchk 0 hc
    have hk' := hchk' c hc'
    clear hchk hchk' hc hc'
    go_enter Try.func59, Try.ntmps59
    go_wp2
    go_loopw [8] (fun i wr => ∃ k : Nat, k ≤ 1 ∧ i = .int .i64 k ∧ Below w.heap.size w wr) (fun i _ => 2 - (intOf i).toNat)
    case atStart => exact ⟨0, by omega, rfl, bel_self _⟩
    case round =>
      obtain ⟨k, hk1, rfl, hb⟩ := hrel
      by_cases h0 : k = 0
      · subst h0
        obtain ⟨q0, q1, q2, q3⟩ := hC.below hb
        have hb1 := bel_up (bel_self wr) (.cells #[.int .i64 f.states, .int .i64 f.start, .slice fa fn fc, .slice ba bn bc] 25)
        have h1 := (hf.below hb).below hb1
        have h2 := (ha.below hb).below hb1
        go_wp2_with (go_at_call 101; refine (hk _ h1 h2).mono ?_; rintro e w1 ⟨rfl, hb2⟩)
        go_roundw
        case rel => exact ⟨1, by omega, by go_num, bel_on (bel_on hb hb1) hb2⟩
        case measure => simp [intOf]
      · have hk2 : k = 1 := by omega
        subst hk2
        obtain ⟨q0, q1, q2, q3⟩ := hD.below hb
        have hb1 := bel_up (bel_self wr) (.cells #[.int .i64 g.states, .int .i64 g.start, .slice ga gn gc, .slice ea en ec] 25)
        have h1 := (hf'.below hb).below hb1
        have h2 := (ha'.below hb).below hb1
        go_wp2_with (go_at_call 101; refine (hk' _ h1 h2).mono ?_; rintro e w1 ⟨rfl, hb2⟩)
        go_ret
        exact ⟨rfl, bel_on (bel_on hb hb1) hb2⟩

end Go.Proofs.Yteehgcbjmdideaa

/- 'large', 'tooMuch' and 'Compose' of package compose. -/
namespace Go.Proofs.Yteehgcbjmdideaa
open Go.RowKit
attribute [local go_sem ↓] Go.wp_at_zero Go.wp_at_succ

def moreB (x : Int) : Bool := decide (1000000000 < x)
theorem too1_any (x : Int) (w : World) : Calls Try.prog 116 #[.int .i64 x] w fun e w' => e = .returned (.bool (moreB x)) ∧ w' = w := by
  go_enter Try.func116, Try.ntmps116
  go_wp2
  go_ret
  exact ⟨rfl, rfl⟩
theorem too2_any (a : ArcD) (w : World) : Calls Try.prog 117 #[.agg #[.int .i64 a.src, .int .i64 a.inp, .int .i64 a.out, .int .i64 a.dst, .int .i64 a.wt]] w fun e w' => e = .returned (.bool (moreB a.wt)) ∧ Below w.heap.size w w' := by
  go_enter Try.func117, Try.ntmps117
  go_wp2
  go_ret
  exact ⟨rfl, bel_up (bel_self w) _⟩
theorem gToo2 : ∀ args w, (callFunc 117 args).run Try.prog w = .ok (.enter 117 args) w := enters_of Try.func117 (by kernel_rfl) rfl

set_option maxHeartbeats 1000000 in
theorem too_index (aa : Option Addr) (n cap : Nat) (xs : List Int) (w : World) (h : ISlice w (.slice aa n cap) xs) :
    Calls Try.prog 100 #[.slice aa n cap, .func (.func 116) #[] #[]] w fun e w' => e = .returned (.int .i64 (idxOf moreB xs)) ∧ w' = w := by
  rcases h with ⟨_, _, e, rfl⟩ | ⟨b, off, n', cap', e, hx, hn⟩
  · injection e with _ e _
    subst e
    go_enter Try.func100, Try.ntmps100
    go_wp2
    go_loop [8] (fun i => i = .int .i64 0) (fun _ => 0)
    case atStart => exact rfl
    case round =>
      subst hrel
      go_wp2
      go_ret
      exact ⟨ret_int (idxOf_miss moreB [] (fun j hj => absurd hj (Nat.not_lt_zero _))).symm, rfl⟩
  · injection e with e1 e2 e3
    subst e1 e2 e3
    unfold maxLen at hn
    go_enter Try.func100, Try.ntmps100
    go_wp2
    go_loop [8] (fun i => ∃ k : Nat, k ≤ n ∧ i = .int .i64 k ∧ (∀ j, j < k → moreB (xs.getD j 0) = false)) (fun i => n - (intOf i).toNat)
    case atStart => exact ⟨0, Nat.zero_le _, rfl, fun j hj => absurd hj (Nat.not_lt_zero _)⟩
    case round =>
      obtain ⟨k, hk, rfl, hall⟩ := hrel
      have HA : Hid (∀ j, j < k → moreB (xs.getD j 0) = false) := hall
      clear hall
      by_cases hlt : k < n
      · have hc := hx.cell k hlt
        cases hp : moreB (xs.getD k 0)
        · have hp' : moreB (xs[k]?.getD 0) = false := by simpa using hp
          go_wp2_with (go_at_call 116; refine (too1_any _ _).mono ?_; rintro e w' ⟨rfl, rfl⟩)
          go_round
          case rel =>
            refine ⟨k + 1, by omega, by go_num, fun j hj => ?_⟩
            by_cases e : j = k
            · subst e; exact hp
            · exact HA.out j (by omega)
          case measure => simp [intOf]; omega
        · have hp' : moreB (xs[k]?.getD 0) = true := by simpa using hp
          go_wp2_with (go_at_call 116; refine (too1_any _ _).mono ?_; rintro e w' ⟨rfl, rfl⟩)
          go_ret
          exact ⟨ret_int (idxOf_hit moreB xs k (by rw [hx.len]; exact hlt) hp HA.out).symm, rfl⟩
      · go_wp2
        go_ret
        exact ⟨ret_int (idxOf_miss moreB xs (fun j hj => HA.out j (by have := hx.len; omega))).symm, rfl⟩
theorem too_contains (aa : Option Addr) (n cap : Nat) (xs : List Int) (w : World) (h : ISlice w (.slice aa n cap) xs) :
    Calls Try.prog 56 #[.slice aa n cap, .func (.func 116) #[] #[]] w fun e w' => e = .returned (.bool (xs.any moreB)) ∧ w' = w := by
  have hi := too_index aa n cap xs w h
  have ha := idxOf_any moreB xs
  generalize idxOf moreB xs = i at *
  generalize xs.any moreB = y at *
  go_enter Try.func56, Try.ntmps56
  go_wp2_with (go_at_call 100; refine hi.mono ?_; rintro e w1 ⟨rfl, rfl⟩)
  go_ret
  exact ⟨rfl, rfl⟩

/-- more of anything than Check lets pass -/
def tooD (X : FstD) : Bool := decide (200 < X.states) || (decide (3000 < X.arcs.length) || (X.final.any moreB || X.arcs.any fun a => moreB a.wt))
def largeD (f : FstD) : Bool := decide (12 < f.states) || decide (100 < f.arcs.length)

theorem large_any (f : FstD) (fi : Value) (aa : Option Addr) (m ac : Nat) (fa : Option Addr) (fn fc : Nat) (hfi : fi = .slice fa fn fc) (w : World) (hl : f.arcs.length = m) :
    Calls Try.prog 75 #[.agg #[.int .i64 f.states, .int .i64 f.start, fi, .slice aa m ac]] w fun e w' => e = .returned (.bool (largeD f)) ∧ Below w.heap.size w w' := by
  subst hfi
  by_cases h1 : 12 < f.states
  · go_enter Try.func75, Try.ntmps75
    go_wp2
    go_ret
    exact ⟨ret_bool (by unfold largeD; rw [decide_eq_true h1]; rfl), bel_up (bel_self w) _⟩
  · by_cases h2 : 100 < m
    · have h2' : (100 : Int) < m := by omega
      go_enter Try.func75, Try.ntmps75
      go_wp2
      go_ret
      exact ⟨ret_bool (by unfold largeD; rw [hl, decide_eq_true h2, Bool.or_true]), bel_up (bel_self w) _⟩
    · have h2' : ¬ (100 : Int) < m := by omega
      have HH : largeD f = false := by unfold largeD; rw [hl, decide_eq_false h2, decide_eq_false h1]; rfl
      rw [HH]
      go_enter Try.func75, Try.ntmps75
      go_wp2
      go_ret
      exact ⟨rfl, bel_up (bel_self w) _⟩

set_option maxHeartbeats 1000000 in
theorem tooMuch_any (X : FstD) (fa : Option Addr) (fn fc : Nat) (aa : Option Addr) (m ac : Nat) (w : World) (hf : ISlice w (.slice fa fn fc) X.final) (ha : ASlice w (.slice aa m ac) X.arcs) (hl : X.arcs.length = m) :
    Calls Try.prog 79 #[.agg #[.int .i64 X.states, .int .i64 X.start, .slice fa fn fc, .slice aa m ac]] w fun e w' => e = .returned (.bool (tooD X)) ∧ Below w.heap.size w w' := by
  have hbA := bel_up (bel_self w) (.cells #[.int .i64 X.states, .int .i64 X.start, .slice fa fn fc, .slice aa m ac] 25)
  by_cases h1 : 200 < X.states
  · go_enter Try.func79, Try.ntmps79
    go_wp2
    go_ret
    exact ⟨ret_bool (by unfold tooD; rw [decide_eq_true h1]; rfl), bel_up (bel_self w) _⟩
  · by_cases h2 : 3000 < m
    · have h2' : (3000 : Int) < m := by omega
      go_enter Try.func79, Try.ntmps79
      go_wp2
      go_ret
      exact ⟨ret_bool (by unfold tooD; rw [hl, decide_eq_true h2, Bool.true_or, Bool.or_true]), bel_up (bel_self w) _⟩
    · have h2' : ¬ (3000 : Int) < m := by omega
      have hc1 := too_contains fa fn fc X.final _ (hf.below hbA)
      have HD : Hid (tooD X = (X.final.any moreB || X.arcs.any fun a => moreB a.wt)) := by
        unfold tooD
        rw [hl, decide_eq_false h2, decide_eq_false h1]
        exact (rfl : _ = _)
      cases hy : X.final.any moreB with
      | true =>
        rw [hy] at hc1 HD
        go_enter Try.func79, Try.ntmps79
        go_wp2_with (go_at_call 56; refine hc1.mono ?_; rintro e w1 ⟨rfl, rfl⟩)
        go_ret
        exact ⟨ret_bool HD.out.symm, bel_up (bel_self w) _⟩
      | false =>
        rw [hy] at hc1 HD
        have hc2 := arcContains_any (fun a => moreB a.wt) 117 gToo2 too2_any X.arcs aa m ac _ (ha.below hbA) hl (by omega)
        obtain ⟨z, hz⟩ : ∃ z, z = X.arcs.any fun a => moreB a.wt := ⟨_, rfl⟩
        have HZ : Hid (z = X.arcs.any fun a => moreB a.wt) := hz
        rw [← hz] at hc2
        clear hz
        go_enter Try.func79, Try.ntmps79
        go_wp2_with (first | (go_at_call 56; refine hc1.mono ?_; rintro e w1 ⟨rfl, rfl⟩) | (go_at_call 89; refine hc2.mono ?_; rintro e w2 ⟨rfl, hb2⟩))
        go_ret
        exact ⟨ret_bool (by rw [HD.out, ← HZ.out]; rfl), bel_on (bel_up (bel_self w) _) hb2⟩

/-- what is wrong with two that are to be composed -/
def errC (f g : FstD) : Int := if checkD f = 0 then (if checkD g = 0 then (if largeD f || largeD g then 2 else 0) else checkD g) else checkD f

/-- what Compose answers -/
def CmpRes (f g X : FstD) (u : Int) : Prop :=
  (errC f g ≠ 0 ∧ u = errC f g ∧ X = ⟨0, 0, [], []⟩) ∨ (errC f g = 0 ∧ ∃ b, Grown f g b.ps.length b ∧ ((tooD (cmpD f g b (leastL b.arcs)) = true ∧ u = 2 ∧ X = ⟨0, 0, [], []⟩) ∨ (tooD (cmpD f g b (leastL b.arcs)) = false ∧ u = 0 ∧ X = cmpD f g b (leastL b.arcs))))

section
variable (f g : FstD) (fin arcs fin' arcs' : Value) (w : World) (hf : ISlice w fin f.final) (ha : ASlice w arcs f.arcs) (hf' : ISlice w fin' g.final) (ha' : ASlice w arcs' g.arcs)
include hf ha hf' ha'

set_option maxHeartbeats 1000000 in
set_option maxRecDepth 100000 in
theorem compose_wrong (c : Int) (h0 : (c == 0) = false) (hc : checkD f = c ∨ (checkD f = 0 ∧ checkD g = c)) :
    Calls Try.prog 31 #[.agg #[.int .i64 f.states, .int .i64 f.start, fin, arcs], .agg #[.int .i64 g.states, .int .i64 g.start, fin', arcs']] w fun e w' => FstRes w ⟨0, 0, [], []⟩ c e w' := by
  obtain ⟨fa, fn, fc, rfl, _, _⟩ := hf.lenOf
  obtain ⟨aa, m, ac, rfl, _, _⟩ := ha.lenOf
  obtain ⟨ga, gn, gc, rfl, _, _⟩ := hf'.lenOf
  obtain ⟨ea, m', ec, rfl, _, _⟩ := ha'.lenOf
  have h0n : (c != 0) = true := by simpa using h0
  obtain ⟨W0, hW0⟩ : ∃ W0, W0 = (((w.alloc (.cells #[.int .i64 f.states, .int .i64 f.start, .slice fa fn fc, .slice aa m ac] 25)).alloc (.cells #[.int .i64 g.states, .int .i64 g.start, .slice ga gn gc, .slice ea m' ec] 25)).alloc (.cells #[.int .i64 0, .int .i64 0, .slice none 0 0, .slice none 0 0] 25)).alloc (.cells #[.int .i64 f.states, .int .i64 f.start, .slice fa fn fc, .slice aa m ac, .int .i64 g.states, .int .i64 g.start, .slice ga gn gc, .slice ea m' ec] 25) := ⟨_, rfl⟩
  have hb0 : Below w.heap.size w W0 := by rw [hW0]; exact bel_up (bel_up (two_up w _ _) _) _
  have hF1 : W0.heap[w.heap.size]? = some (.cells #[.int .i64 f.states, .int .i64 f.start, .slice fa fn fc, .slice aa m ac] 25 (0, 0)) := by rw [hW0]; exact heap_bel (bel_up (bel_up (bel_up (bel_self _) _) _) _) (heap_alloc_new w _)
  have hF2 : W0.heap[w.heap.size + 1]? = some (.cells #[.int .i64 g.states, .int .i64 g.start, .slice ga gn gc, .slice ea m' ec] 25 (0, 0)) := by
    rw [hW0]
    have := heap_alloc_new (w.alloc (.cells #[.int .i64 f.states, .int .i64 f.start, .slice fa fn fc, .slice aa m ac] 25)) (.cells #[.int .i64 g.states, .int .i64 g.start, .slice ga gn gc, .slice ea m' ec] 25)
    rw [one_size] at this
    exact heap_bel (bel_up (bel_up (bel_self _) _) _) this
  have hbZ : ZBlock W0 (w.heap.size + 1 + 1) := by
    rw [hW0]
    have := heap_alloc_new ((w.alloc (.cells #[.int .i64 f.states, .int .i64 f.start, .slice fa fn fc, .slice aa m ac] 25)).alloc (.cells #[.int .i64 g.states, .int .i64 g.start, .slice ga gn gc, .slice ea m' ec] 25)) (.cells #[.int .i64 0, .int .i64 0, .slice none 0 0, .slice none 0 0] 25)
    rw [one_size, one_size] at this
    exact heap_bel (bel_up (bel_self _) _) this
  have hb8 : W0.heap[w.heap.size + 1 + 1 + 1]? = some (.cells #[.int .i64 f.states, .int .i64 f.start, .slice fa fn fc, .slice aa m ac, .int .i64 g.states, .int .i64 g.start, .slice ga gn gc, .slice ea m' ec] 25 (0, 0)) := by
    rw [hW0]
    have := heap_alloc_new (((w.alloc (.cells #[.int .i64 f.states, .int .i64 f.start, .slice fa fn fc, .slice aa m ac] 25)).alloc (.cells #[.int .i64 g.states, .int .i64 g.start, .slice ga gn gc, .slice ea m' ec] 25)).alloc (.cells #[.int .i64 0, .int .i64 0, .slice none 0 0, .slice none 0 0] 25)) (.cells #[.int .i64 f.states, .int .i64 f.start, .slice fa fn fc, .slice aa m ac, .int .i64 g.states, .int .i64 g.start, .slice ga gn gc, .slice ea m' ec] 25)
    rw [one_size, one_size, one_size] at this
    exact this
  have hall := all_bad2 f g _ _ _ _ c (w.heap.size + 1 + 1 + 1) W0 ⟨box_cell (k := 0) hb8 rfl, box_cell (k := 1) hb8 rfl, box_cell (k := 2) hb8 rfl, box_cell (k := 3) hb8 rfl⟩ ⟨box_cell (k := 4) hb8 rfl, box_cell (k := 5) hb8 rfl, box_cell (k := 6) hb8 rfl, box_cell (k := 7) hb8 rfl⟩ (hf.below hb0) (ha.below hb0) (hf'.below hb0) (ha'.below hb0) h0 hc
  clear hc hb8 hF1 hF2
  go_enter Try.func31, Try.ntmps31
  go_wp2_with fail
  rw [← hW0]
  clear hW0
  go_wp2_with (go_at_call 59; refine hall.mono ?_; rintro e w1 ⟨rfl, hb1⟩; have hz1 := heap_bel hb1 hbZ; obtain ⟨z0, z1, z2, z3, y0, y1, y2, y3⟩ := zfacts hz1)
  exact bodyPost_ret (v := .tuple #[.agg #[.int .i64 0, .int .i64 0, .slice none 0 0, .slice none 0 0], .int .i64 c]) (by simp [results, Try.results31, go_sem, *]) rfl ⟨_, _, _, _, _, _, rfl, Or.inl ⟨_, _, rfl, rfl⟩, Or.inl ⟨_, _, rfl, rfl⟩, bel_set4 (bel_on hb0 hb1) (by omega) _ _ _ _⟩

set_option maxHeartbeats 1000000 in
set_option maxRecDepth 100000 in
theorem compose_large (hc : checkD f = 0) (hc' : checkD g = 0) (hl : (largeD f || largeD g) = true) :
    Calls Try.prog 31 #[.agg #[.int .i64 f.states, .int .i64 f.start, fin, arcs], .agg #[.int .i64 g.states, .int .i64 g.start, fin', arcs']] w fun e w' => FstRes w ⟨0, 0, [], []⟩ 2 e w' := by
  obtain ⟨fa, fn, fc, rfl, _, _⟩ := hf.lenOf
  obtain ⟨aa, m, ac, rfl, hal, _⟩ := ha.lenOf
  obtain ⟨ga, gn, gc, rfl, _, _⟩ := hf'.lenOf
  obtain ⟨ea, m', ec, rfl, hal', _⟩ := ha'.lenOf
  obtain ⟨W0, hW0⟩ : ∃ W0, W0 = (((w.alloc (.cells #[.int .i64 f.states, .int .i64 f.start, .slice fa fn fc, .slice aa m ac] 25)).alloc (.cells #[.int .i64 g.states, .int .i64 g.start, .slice ga gn gc, .slice ea m' ec] 25)).alloc (.cells #[.int .i64 0, .int .i64 0, .slice none 0 0, .slice none 0 0] 25)).alloc (.cells #[.int .i64 f.states, .int .i64 f.start, .slice fa fn fc, .slice aa m ac, .int .i64 g.states, .int .i64 g.start, .slice ga gn gc, .slice ea m' ec] 25) := ⟨_, rfl⟩
  have hb0 : Below w.heap.size w W0 := by rw [hW0]; exact bel_up (bel_up (two_up w _ _) _) _
  have hF1 : W0.heap[w.heap.size]? = some (.cells #[.int .i64 f.states, .int .i64 f.start, .slice fa fn fc, .slice aa m ac] 25 (0, 0)) := by rw [hW0]; exact heap_bel (bel_up (bel_up (bel_up (bel_self _) _) _) _) (heap_alloc_new w _)
  have hF2 : W0.heap[w.heap.size + 1]? = some (.cells #[.int .i64 g.states, .int .i64 g.start, .slice ga gn gc, .slice ea m' ec] 25 (0, 0)) := by
    rw [hW0]
    have := heap_alloc_new (w.alloc (.cells #[.int .i64 f.states, .int .i64 f.start, .slice fa fn fc, .slice aa m ac] 25)) (.cells #[.int .i64 g.states, .int .i64 g.start, .slice ga gn gc, .slice ea m' ec] 25)
    rw [one_size] at this
    exact heap_bel (bel_up (bel_up (bel_self _) _) _) this
  have hbZ : ZBlock W0 (w.heap.size + 1 + 1) := by
    rw [hW0]
    have := heap_alloc_new ((w.alloc (.cells #[.int .i64 f.states, .int .i64 f.start, .slice fa fn fc, .slice aa m ac] 25)).alloc (.cells #[.int .i64 g.states, .int .i64 g.start, .slice ga gn gc, .slice ea m' ec] 25)) (.cells #[.int .i64 0, .int .i64 0, .slice none 0 0, .slice none 0 0] 25)
    rw [one_size, one_size] at this
    exact heap_bel (bel_up (bel_self _) _) this
  have hb8 : W0.heap[w.heap.size + 1 + 1 + 1]? = some (.cells #[.int .i64 f.states, .int .i64 f.start, .slice fa fn fc, .slice aa m ac, .int .i64 g.states, .int .i64 g.start, .slice ga gn gc, .slice ea m' ec] 25 (0, 0)) := by
    rw [hW0]
    have := heap_alloc_new (((w.alloc (.cells #[.int .i64 f.states, .int .i64 f.start, .slice fa fn fc, .slice aa m ac] 25)).alloc (.cells #[.int .i64 g.states, .int .i64 g.start, .slice ga gn gc, .slice ea m' ec] 25)).alloc (.cells #[.int .i64 0, .int .i64 0, .slice none 0 0, .slice none 0 0] 25)) (.cells #[.int .i64 f.states, .int .i64 f.start, .slice fa fn fc, .slice aa m ac, .int .i64 g.states, .int .i64 g.start, .slice ga gn gc, .slice ea m' ec] 25)
    rw [one_size, one_size, one_size] at this
    exact this
  have hall := all_ok2 f g _ _ _ _ (w.heap.size + 1 + 1 + 1) W0 ⟨box_cell (k := 0) hb8 rfl, box_cell (k := 1) hb8 rfl, box_cell (k := 2) hb8 rfl, box_cell (k := 3) hb8 rfl⟩ ⟨box_cell (k := 4) hb8 rfl, box_cell (k := 5) hb8 rfl, box_cell (k := 6) hb8 rfl, box_cell (k := 7) hb8 rfl⟩ (hf.below hb0) (ha.below hb0) (hf'.below hb0) (ha'.below hb0) hc hc'
  have hL1 : ∀ W, Calls Try.prog 75 #[.agg #[.int .i64 f.states, .int .i64 f.start, .slice fa fn fc, .slice aa m ac]] W fun e w' => e = .returned (.bool (largeD f)) ∧ Below W.heap.size W w' := fun W => large_any f _ aa m ac fa fn fc rfl W hal
  have hL2 : ∀ W, Calls Try.prog 75 #[.agg #[.int .i64 g.states, .int .i64 g.start, .slice ga gn gc, .slice ea m' ec]] W fun e w' => e = .returned (.bool (largeD g)) ∧ Below W.heap.size W w' := fun W => large_any g _ ea m' ec ga gn gc rfl W hal'
  clear hc hc' hb8
  go_enter Try.func31, Try.ntmps31
  go_wp2_with fail
  rw [← hW0]
  clear hW0
  refine hall.mono ?_
  rintro e w1 ⟨rfl, hb1⟩
  have hz1 := heap_bel hb1 hbZ
  have p1 := heap_bel hb1 hF1
  have p2 := heap_bel hb1 hF2
  have f0 := box_cell (k := 0) p1 rfl
  have f1 := box_cell (k := 1) p1 rfl
  have f2 := box_cell (k := 2) p1 rfl
  have f3 := box_cell (k := 3) p1 rfl
  clear hall hF1 hF2 hbZ
  go_wp2_with fail
  refine (hL1 w1).mono ?_
  rintro e w2 ⟨rfl, hb2⟩
  have hz2 := heap_bel hb2 hz1
  cases h1 : largeD f with
  | true =>
    obtain ⟨z0, z1, z2, z3, y0, y1, y2, y3⟩ := zfacts hz2
    clear hz1 p1 p2 f0 f1 f2 f3
    go_wp2
    exact bodyPost_ret (v := .tuple #[.agg #[.int .i64 0, .int .i64 0, .slice none 0 0, .slice none 0 0], .int .i64 2]) (by simp [results, Try.results31, go_sem, *]) rfl ⟨_, _, _, _, _, _, rfl, Or.inl ⟨_, _, rfl, rfl⟩, Or.inl ⟨_, _, rfl, rfl⟩, bel_set4 (bel_on (bel_on hb0 hb1) hb2) (by omega) _ _ _ _⟩
  | false =>
    rw [h1] at hl
    have h2 : largeD g = true := by simpa using hl
    rw [h2] at hL2
    have p3 := heap_bel hb2 p2
    have g0 := box_cell (k := 0) p3 rfl
    have g1 := box_cell (k := 1) p3 rfl
    have g2 := box_cell (k := 2) p3 rfl
    have g3 := box_cell (k := 3) p3 rfl
    clear hz1 p1 p2 f0 f1 f2 f3 p3 hl h1 h2
    go_wp2_with fail
    refine (hL2 w2).mono ?_
    rintro e w3 ⟨rfl, hb3⟩
    obtain ⟨z0, z1, z2, z3, y0, y1, y2, y3⟩ := zfacts (heap_bel hb3 hz2)
    clear hz2 g0 g1 g2 g3
    go_wp2
    exact bodyPost_ret (v := .tuple #[.agg #[.int .i64 0, .int .i64 0, .slice none 0 0, .slice none 0 0], .int .i64 2]) (by simp [results, Try.results31, go_sem, *]) rfl ⟨_, _, _, _, _, _, rfl, Or.inl ⟨_, _, rfl, rfl⟩, Or.inl ⟨_, _, rfl, rfl⟩, bel_set4 (bel_on (bel_on (bel_on hb0 hb1) hb2) hb3) (by omega) _ _ _ _⟩
end
end Go.Proofs.Yteehgcbjmdideaa
