/- 'fit', 'Either', 'Behind' and 'Again' of package simple, where something is wrong or too much. -/
import Derived.Test.YteehgcbjmdideaaQM18
namespace Go.Proofs.Yteehgcbjmdideaa
open Go.RowKit
attribute [local go_sem ↓] Go.wp_at_zero Go.wp_at_succ

/-- what is wrong with two pieces -/
def errJ (f g : FstD) : Int := if checkD f = 0 then (if checkD g = 0 then (if 198 < f.states + g.states ∨ 2500 < f.arcs.length + g.arcs.length then 2 else 0) else checkD g) else checkD f
/-- and with one -/
def errA (f : FstD) : Int := if checkD f = 0 then (if 198 < f.states ∨ 2500 < f.arcs.length then 2 else 0) else checkD f

set_option maxHeartbeats 1000000 in
theorem all_bad2 (f g : FstD) (fin arcs fin' arcs' : Value) (c : Int) (B : Nat) (w : World) (hC : CellsF w B f.states f.start fin arcs) (hD : CellsG w B g.states g.start fin' arcs') (hf : ISlice w fin f.final) (ha : ASlice w arcs f.arcs) (hf' : ISlice w fin' g.final) (ha' : ASlice w arcs' g.arcs) (h0 : (c == 0) = false) (hc : checkD f = c ∨ (checkD f = 0 ∧ checkD g = c)) :
    Calls Try.prog 59 #[.slice (some ⟨B, 0, none⟩) 2 2] w fun e w' => e = .returned (.int .i64 c) ∧ Below w.heap.size w w' := by
  obtain ⟨fa, fn, fc, rfl, _, _⟩ := hf.lenOf
  obtain ⟨ba, bn, bc, rfl, _, _⟩ := ha.lenOf
  obtain ⟨ga, gn, gc, rfl, _, _⟩ := hf'.lenOf
  obtain ⟨ea, en, ec, rfl, _, _⟩ := ha'.lenOf
  have h0n : (c != 0) = true := by simpa using h0
  have hchk : ∀ c0, checkD f = c0 → ∀ W, ISlice W (.slice fa fn fc) f.final → ASlice W (.slice ba bn bc) f.arcs → Calls Try.prog 101 #[.agg #[.int .i64 f.states, .int .i64 f.start, .slice fa fn fc, .slice ba bn bc]] W fun e w' => e = .returned (.int .i64 c0) ∧ Below W.heap.size W w' := by
    intro c0 hc0 W k1 k2; rw [← hc0]; exact check_any f _ _ W k1 k2
  have hchk' : ∀ c0, checkD g = c0 → ∀ W, ISlice W (.slice ga gn gc) g.final → ASlice W (.slice ea en ec) g.arcs → Calls Try.prog 101 #[.agg #[.int .i64 g.states, .int .i64 g.start, .slice ga gn gc, .slice ea en ec]] W fun e w' => e = .returned (.int .i64 c0) ∧ Below W.heap.size W w' := by
    intro c0 hc0 W k1 k2; rw [← hc0]; exact check_any g _ _ W k1 k2
  rcases hc with hc | ⟨hc, hc'⟩
  · have hk := hchk c hc
    clear hchk hchk' hc
    go_enter Try.func59, Try.ntmps59
    go_wp2
    go_loopw [8] (fun i wr => i = .int .i64 0 ∧ Below w.heap.size w wr) (fun i _ => 2 - (intOf i).toNat)
    case atStart => exact ⟨rfl, bel_self _⟩
    case round =>
      obtain ⟨rfl, hb⟩ := hrel
      obtain ⟨q0, q1, q2, q3⟩ := hC.below hb
      have hb1 := bel_up (bel_self wr) (.cells #[.int .i64 f.states, .int .i64 f.start, .slice fa fn fc, .slice ba bn bc] 25)
      have h1 := (hf.below hb).below hb1
      have h2 := (ha.below hb).below hb1
      go_wp2_with (go_at_call 101; refine (hk _ h1 h2).mono ?_; rintro e w1 ⟨rfl, hb2⟩)
      go_ret
      exact ⟨rfl, bel_on (bel_on hb hb1) hb2⟩
  · have hk := hchk 0 hc
    have hk' := hchk' c hc'
    clear hchk hchk' hc hc'
    go_enter Try.func59, Try.ntmps59
    go_wp2
    go_loopw [8] (fun i wr => ∃ k : Nat, k ≤ 1 ∧ i = .int .i64 k ∧ Below w.heap.size w wr) (fun i _ => 2 - (intOf i).toNat)
    case atStart => exact ⟨0, by omega, rfl, bel_self _⟩
    case round =>
      obtain ⟨k, hk1, rfl, hb⟩ := hrel
      by_cases h0 : k = 0
      · subst h0
        obtain ⟨q0, q1, q2, q3⟩ := hC.below hb
        have hb1 := bel_up (bel_self wr) (.cells #[.int .i64 f.states, .int .i64 f.start, .slice fa fn fc, .slice ba bn bc] 25)
        have h1 := (hf.below hb).below hb1
        have h2 := (ha.below hb).below hb1
        go_wp2_with (go_at_call 101; refine (hk _ h1 h2).mono ?_; rintro e w1 ⟨rfl, hb2⟩)
        go_roundw
        case rel => exact ⟨1, by omega, by go_num, bel_on (bel_on hb hb1) hb2⟩
        case measure => simp [intOf]
      · have hk2 : k = 1 := by omega
        subst hk2
        obtain ⟨q0, q1, q2, q3⟩ := hD.below hb
        have hb1 := bel_up (bel_self wr) (.cells #[.int .i64 g.states, .int .i64 g.start, .slice ga gn gc, .slice ea en ec] 25)
        have h1 := (hf'.below hb).below hb1
        have h2 := (ha'.below hb).below hb1
        go_wp2_with (go_at_call 101; refine (hk' _ h1 h2).mono ?_; rintro e w1 ⟨rfl, hb2⟩)
        go_ret
        exact ⟨rfl, bel_on (bel_on hb hb1) hb2⟩

set_option maxHeartbeats 1000000 in
set_option maxRecDepth 100000 in
theorem fit_many2 (f g : FstD) (fin fin' : Value) (aa : Option Addr) (m ac : Nat) (ga : Option Addr) (m' gc : Nat) (B : Nat) (w : World) (hC : CellsF w B f.states f.start fin (.slice aa m ac)) (hD : CellsG w B g.states g.start fin' (.slice ga m' gc)) (hf : ISlice w fin f.final) (ha : ASlice w (.slice aa m ac) f.arcs) (hf' : ISlice w fin' g.final) (ha' : ASlice w (.slice ga m' gc) g.arcs) (hc : checkD f = 0) (hc' : checkD g = 0)
    (h1 : 0 ≤ f.states ∧ f.states ≤ 200) (h2 : 0 ≤ g.states ∧ g.states ≤ 200) (hm : m ≤ 3000) (hm' : m' ≤ 3000) (h3 : 198 < f.states + g.states ∨ 2500 < m + m') :
    Calls Try.prog 66 #[.slice (some ⟨B, 0, none⟩) 2 2] w fun e w' => e = .returned (.int .i64 2) ∧ Below w.heap.size w w' := by
  obtain ⟨fa, fn, fc, rfl, _, _⟩ := hf.lenOf
  obtain ⟨ea, en, ec, rfl, _, _⟩ := hf'.lenOf
  have hall := all_ok2 f g _ _ _ _ B w hC hD hf ha hf' ha' hc hc'
  clear hf ha hf' ha' hc hc'
  go_enter Try.func66, Try.ntmps66
  go_wp2_with (go_at_call 59; refine hall.mono ?_; rintro e w1 ⟨rfl, hb1⟩)
  go_loopw [4, 5, 15] (fun s4 s5 i wr => (∃ k : Nat, i = .int .i64 k ∧ ((k = 0 ∧ s4 = .int .i64 0 ∧ s5 = .int .i64 0) ∨ (k = 1 ∧ s4 = .int .i64 f.states ∧ s5 = .int .i64 m) ∨ (k = 2 ∧ s4 = .int .i64 (f.states + g.states) ∧ s5 = .int .i64 (m + m')))) ∧ Below w.heap.size w wr) (fun _ _ i _ => 2 - (intOf i).toNat)
  case atStart => exact ⟨⟨0, rfl, Or.inl ⟨rfl, rfl, rfl⟩⟩, hb1⟩
  case round =>
    obtain ⟨⟨k, rfl, hk⟩, hb⟩ := hrel
    rcases hk with ⟨rfl, rfl, rfl⟩ | ⟨rfl, rfl, rfl⟩ | ⟨rfl, rfl, rfl⟩
    · obtain ⟨q0, q1, q2, q3⟩ := hC.below hb
      have e1 : IntKind.i64.wrap f.states = f.states := wrap_in _ (by omega) (by omega)
      have e2 : IntKind.i64.wrap (m : Int) = m := wrap_in _ (by omega) (by omega)
      go_wp2
      go_region_held3 (fun wx => wx.cell? ⟨wr.heap.size, 0, none⟩ = some (.int .i64 f.states) ∧ wx.cell? ⟨wr.heap.size, 3, none⟩ = some (.slice aa m ac)) (exact ⟨drew_cell (new_cell _ _ _ _ 0 _ rfl rfl), drew_cell (new_cell _ _ _ _ 3 _ rfl rfl)⟩) (fail)
      go_wp2
      go_roundw
      case rel => exact ⟨⟨1, by go_num, Or.inr (Or.inl ⟨rfl, by go_num, by go_num⟩)⟩, (bel_up hb _).drew⟩
      case measure => simp [intOf]
    · obtain ⟨q0, q1, q2, q3⟩ := hD.below hb
      have e1 : IntKind.i64.wrap (f.states + g.states) = f.states + g.states := wrap_in _ (by omega) (by omega)
      have e2 : IntKind.i64.wrap ((m : Int) + m') = m + m' := wrap_in _ (by omega) (by omega)
      go_wp2
      go_region_held3 (fun wx => wx.cell? ⟨wr.heap.size, 0, none⟩ = some (.int .i64 g.states) ∧ wx.cell? ⟨wr.heap.size, 3, none⟩ = some (.slice ga m' gc)) (exact ⟨drew_cell (new_cell _ _ _ _ 0 _ rfl rfl), drew_cell (new_cell _ _ _ _ 3 _ rfl rfl)⟩) (fail)
      go_wp2
      go_roundw
      case rel => exact ⟨⟨2, by go_num, Or.inr (Or.inr ⟨rfl, by go_num, by go_num⟩)⟩, (bel_up hb _).drew⟩
      case measure => simp [intOf]
    · by_cases e1 : (198 : Int) < f.states + g.states
      · go_wp2
        go_ret
        exact ⟨rfl, hb⟩
      · have e2 : (2500 : Int) < (m : Int) + m' := by omega
        go_wp2
        go_ret
        exact ⟨rfl, hb⟩
set_option maxHeartbeats 1000000 in
set_option maxRecDepth 100000 in
theorem fit_many1 (f : FstD) (fin : Value) (aa : Option Addr) (m ac : Nat) (B : Nat) (w : World) (hC : CellsF w B f.states f.start fin (.slice aa m ac)) (hf : ISlice w fin f.final) (ha : ASlice w (.slice aa m ac) f.arcs) (hc : checkD f = 0)
    (h1 : 0 ≤ f.states ∧ f.states ≤ 200) (hm : m ≤ 3000) (h3 : 198 < f.states ∨ 2500 < m) :
    Calls Try.prog 66 #[.slice (some ⟨B, 0, none⟩) 1 1] w fun e w' => e = .returned (.int .i64 2) ∧ Below w.heap.size w w' := by
  obtain ⟨fa, fn, fc, rfl, _, _⟩ := hf.lenOf
  have hall := all_one f _ _ B 0 w hC hf ha hc
  clear hf ha hc
  go_enter Try.func66, Try.ntmps66
  go_wp2_with (go_at_call 59; refine hall.mono ?_; rintro e w1 ⟨rfl, hb1⟩)
  go_loopw [4, 5, 15] (fun s4 s5 i wr => (∃ k : Nat, i = .int .i64 k ∧ ((k = 0 ∧ s4 = .int .i64 0 ∧ s5 = .int .i64 0) ∨ (k = 1 ∧ s4 = .int .i64 f.states ∧ s5 = .int .i64 m))) ∧ Below w.heap.size w wr) (fun _ _ i _ => 1 - (intOf i).toNat)
  case atStart => exact ⟨⟨0, rfl, Or.inl ⟨rfl, rfl, rfl⟩⟩, hb1⟩
  case round =>
    obtain ⟨⟨k, rfl, hk⟩, hb⟩ := hrel
    rcases hk with ⟨rfl, rfl, rfl⟩ | ⟨rfl, rfl, rfl⟩
    · obtain ⟨q0, q1, q2, q3⟩ := hC.below hb
      have e1 : IntKind.i64.wrap f.states = f.states := wrap_in _ (by omega) (by omega)
      have e2 : IntKind.i64.wrap (m : Int) = m := wrap_in _ (by omega) (by omega)
      go_wp2
      go_region_held3 (fun wx => wx.cell? ⟨wr.heap.size, 0, none⟩ = some (.int .i64 f.states) ∧ wx.cell? ⟨wr.heap.size, 3, none⟩ = some (.slice aa m ac)) (exact ⟨drew_cell (new_cell _ _ _ _ 0 _ rfl rfl), drew_cell (new_cell _ _ _ _ 3 _ rfl rfl)⟩) (fail)
      go_wp2
      go_roundw
      case rel => exact ⟨⟨1, by go_num, Or.inr ⟨rfl, by go_num, by go_num⟩⟩, (bel_up hb _).drew⟩
      case measure => simp [intOf]
    · by_cases e1 : (198 : Int) < f.states
      · go_wp2
        go_ret
        exact ⟨rfl, hb⟩
      · have e2 : (2500 : Int) < (m : Int) := by omega
        go_wp2
        go_ret
        exact ⟨rfl, hb⟩

set_option maxHeartbeats 1000000 in
set_option maxRecDepth 100000 in
theorem fit_bad2 (f g : FstD) (fin arcs fin' arcs' : Value) (c : Int) (B : Nat) (w : World) (hC : CellsF w B f.states f.start fin arcs) (hD : CellsG w B g.states g.start fin' arcs') (hf : ISlice w fin f.final) (ha : ASlice w arcs f.arcs) (hf' : ISlice w fin' g.final) (ha' : ASlice w arcs' g.arcs) (h0 : (c == 0) = false) (hc : checkD f = c ∨ (checkD f = 0 ∧ checkD g = c)) :
    Calls Try.prog 66 #[.slice (some ⟨B, 0, none⟩) 2 2] w fun e w' => e = .returned (.int .i64 c) ∧ Below w.heap.size w w' := by
  have h0n : (c != 0) = true := by simpa using h0
  have hall := all_bad2 f g fin arcs fin' arcs' c B w hC hD hf ha hf' ha' h0 hc
  clear hf ha hf' ha' hc
  go_enter Try.func66, Try.ntmps66
  go_wp2_with (go_at_call 59; refine hall.mono ?_; rintro e w1 ⟨rfl, hb1⟩)
  go_ret
  exact ⟨rfl, hb1⟩

set_option maxHeartbeats 1000000 in
set_option maxRecDepth 100000 in
theorem fit_bad1 (f : FstD) (fin arcs : Value) (c : Int) (B : Nat) (w : World) (hC : CellsF w B f.states f.start fin arcs) (hf : ISlice w fin f.final) (ha : ASlice w arcs f.arcs) (h0 : (c == 0) = false) (hc : checkD f = c) :
    Calls Try.prog 66 #[.slice (some ⟨B, 0, none⟩) 1 1] w fun e w' => e = .returned (.int .i64 c) ∧ Below w.heap.size w w' := by
  have h0n : (c != 0) = true := by simpa using h0
  have hall := all_one f fin arcs B c w hC hf ha hc
  clear hf ha hc
  go_enter Try.func66, Try.ntmps66
  go_wp2_with (go_at_call 59; refine hall.mono ?_; rintro e w1 ⟨rfl, hb1⟩)
  go_ret
  exact ⟨rfl, hb1⟩

theorem fit_not2 (f g : FstD) (fin arcs fin' arcs' : Value) (c : Int) (B : Nat) (w : World) (hC : CellsF w B f.states f.start fin arcs) (hD : CellsG w B g.states g.start fin' arcs') (hf : ISlice w fin f.final) (ha : ASlice w arcs f.arcs) (hf' : ISlice w fin' g.final) (ha' : ASlice w arcs' g.arcs) (h0 : (c == 0) = false) (hc : errJ f g = c) :
    Calls Try.prog 66 #[.slice (some ⟨B, 0, none⟩) 2 2] w fun e w' => e = .returned (.int .i64 c) ∧ Below w.heap.size w w' := by
  unfold errJ at hc
  by_cases h1 : checkD f = 0
  · rw [if_pos h1] at hc
    by_cases h2 : checkD g = 0
    · rw [if_pos h2] at hc
      obtain ⟨aa, m, ac, rfl, hal, _⟩ := ha.lenOf
      obtain ⟨ba, m', bc, rfl, hal', _⟩ := ha'.lenOf
      by_cases h3 : 198 < f.states + g.states ∨ 2500 < f.arcs.length + g.arcs.length
      · rw [if_pos h3] at hc
        subst hc
        have k1 := fine_of h1
        have k2 := fine_of h2
        have := k1.s1
        have := k2.s1
        have := k1.many
        have := k2.many
        exact fit_many2 f g fin fin' aa m ac ba m' bc B w hC hD hf ha hf' ha' h1 h2 ⟨by omega, k1.s2⟩ ⟨by omega, k2.s2⟩ (by omega) (by omega) (by omega)
      · rw [if_neg h3] at hc
        subst hc
        exact absurd h0 (by decide)
    · rw [if_neg h2] at hc
      exact fit_bad2 f g fin arcs fin' arcs' c B w hC hD hf ha hf' ha' h0 (Or.inr ⟨h1, hc⟩)
  · rw [if_neg h1] at hc
    exact fit_bad2 f g fin arcs fin' arcs' c B w hC hD hf ha hf' ha' h0 (Or.inl hc)

theorem fit_not1 (f : FstD) (fin arcs : Value) (c : Int) (B : Nat) (w : World) (hC : CellsF w B f.states f.start fin arcs) (hf : ISlice w fin f.final) (ha : ASlice w arcs f.arcs) (h0 : (c == 0) = false) (hc : errA f = c) :
    Calls Try.prog 66 #[.slice (some ⟨B, 0, none⟩) 1 1] w fun e w' => e = .returned (.int .i64 c) ∧ Below w.heap.size w w' := by
  unfold errA at hc
  by_cases h1 : checkD f = 0
  · rw [if_pos h1] at hc
    obtain ⟨aa, m, ac, rfl, hal, _⟩ := ha.lenOf
    by_cases h3 : 198 < f.states ∨ 2500 < f.arcs.length
    · rw [if_pos h3] at hc
      subst hc
      have k1 := fine_of h1
      have := k1.s1
      have := k1.many
      exact fit_many1 f fin aa m ac B w hC hf ha h1 ⟨by omega, k1.s2⟩ (by omega) (by omega)
    · rw [if_neg h3] at hc
      subst hc
      exact absurd h0 (by decide)
  · rw [if_neg h1] at hc
    exact fit_bad1 f fin arcs c B w hC hf ha h0 hc

set_option maxHeartbeats 1000000 in
set_option maxRecDepth 100000 in
theorem either_bad (f g : FstD) (fin arcs fin' arcs' : Value) (c : Int) (w : World) (hf : ISlice w fin f.final) (ha : ASlice w arcs f.arcs) (hf' : ISlice w fin' g.final) (ha' : ASlice w arcs' g.arcs) (h0 : (c == 0) = false) (hc : errJ f g = c) :
    Calls Try.prog 23 #[.agg #[.int .i64 f.states, .int .i64 f.start, fin, arcs], .agg #[.int .i64 g.states, .int .i64 g.start, fin', arcs']] w fun e w' => FstRes w ⟨0, 0, [], []⟩ c e w' := by
  obtain ⟨fa, fn, fc, rfl, _, _⟩ := hf.lenOf
  obtain ⟨aa, m, ac, rfl, _, _⟩ := ha.lenOf
  obtain ⟨ga, gn, gc, rfl, _, _⟩ := hf'.lenOf
  obtain ⟨ea, m', ec, rfl, _, _⟩ := ha'.lenOf
  have h0n : (c != 0) = true := by simpa using h0
  obtain ⟨W0, hW0⟩ : ∃ W0, W0 = (((w.alloc (.cells #[.int .i64 f.states, .int .i64 f.start, .slice fa fn fc, .slice aa m ac] 25)).alloc (.cells #[.int .i64 g.states, .int .i64 g.start, .slice ga gn gc, .slice ea m' ec] 25)).alloc (.cells #[.int .i64 0, .int .i64 0, .slice none 0 0, .slice none 0 0] 25)).alloc (.cells #[.int .i64 f.states, .int .i64 f.start, .slice fa fn fc, .slice aa m ac, .int .i64 g.states, .int .i64 g.start, .slice ga gn gc, .slice ea m' ec] 25) := ⟨_, rfl⟩
  have hb0 : Below w.heap.size w W0 := by rw [hW0]; exact bel_up (bel_up (two_up w _ _) _) _
  have hbZ : ZBlock W0 (w.heap.size + 1 + 1) := by
    rw [hW0]
    have := heap_alloc_new ((w.alloc (.cells #[.int .i64 f.states, .int .i64 f.start, .slice fa fn fc, .slice aa m ac] 25)).alloc (.cells #[.int .i64 g.states, .int .i64 g.start, .slice ga gn gc, .slice ea m' ec] 25)) (.cells #[.int .i64 0, .int .i64 0, .slice none 0 0, .slice none 0 0] 25)
    rw [one_size, one_size] at this
    exact heap_bel (bel_up (bel_self _) _) this
  have hb8 : W0.heap[w.heap.size + 1 + 1 + 1]? = some (.cells #[.int .i64 f.states, .int .i64 f.start, .slice fa fn fc, .slice aa m ac, .int .i64 g.states, .int .i64 g.start, .slice ga gn gc, .slice ea m' ec] 25 (0, 0)) := by
    rw [hW0]
    have := heap_alloc_new (((w.alloc (.cells #[.int .i64 f.states, .int .i64 f.start, .slice fa fn fc, .slice aa m ac] 25)).alloc (.cells #[.int .i64 g.states, .int .i64 g.start, .slice ga gn gc, .slice ea m' ec] 25)).alloc (.cells #[.int .i64 0, .int .i64 0, .slice none 0 0, .slice none 0 0] 25)) (.cells #[.int .i64 f.states, .int .i64 f.start, .slice fa fn fc, .slice aa m ac, .int .i64 g.states, .int .i64 g.start, .slice ga gn gc, .slice ea m' ec] 25)
    rw [one_size, one_size, one_size] at this
    exact this
  have hfit := fit_not2 f g _ _ _ _ c (w.heap.size + 1 + 1 + 1) W0 ⟨box_cell (k := 0) hb8 rfl, box_cell (k := 1) hb8 rfl, box_cell (k := 2) hb8 rfl, box_cell (k := 3) hb8 rfl⟩ ⟨box_cell (k := 4) hb8 rfl, box_cell (k := 5) hb8 rfl, box_cell (k := 6) hb8 rfl, box_cell (k := 7) hb8 rfl⟩ (hf.below hb0) (ha.below hb0) (hf'.below hb0) (ha'.below hb0) h0 hc
  clear hc hb8
  go_enter Try.func23, Try.ntmps23
  go_wp2_with fail
  rw [← hW0]
  clear hW0
  go_wp2_with (go_at_call 66; refine hfit.mono ?_; rintro e w1 ⟨rfl, hb1⟩; have hz1 := heap_bel hb1 hbZ; obtain ⟨z0, z1, z2, z3, y0, y1, y2, y3⟩ := zfacts hz1)
  exact bodyPost_ret (v := .tuple #[.agg #[.int .i64 0, .int .i64 0, .slice none 0 0, .slice none 0 0], .int .i64 c]) (by simp [results, Try.results23, go_sem, *]) rfl ⟨_, _, _, _, _, _, rfl, Or.inl ⟨_, _, rfl, rfl⟩, Or.inl ⟨_, _, rfl, rfl⟩, bel_set4 (bel_on hb0 hb1) (by omega) _ _ _ _⟩

set_option maxHeartbeats 1000000 in
set_option maxRecDepth 100000 in
theorem behind_bad (f g : FstD) (fin arcs fin' arcs' : Value) (c : Int) (w : World) (hf : ISlice w fin f.final) (ha : ASlice w arcs f.arcs) (hf' : ISlice w fin' g.final) (ha' : ASlice w arcs' g.arcs) (h0 : (c == 0) = false) (hc : errJ f g = c) :
    Calls Try.prog 24 #[.agg #[.int .i64 f.states, .int .i64 f.start, fin, arcs], .agg #[.int .i64 g.states, .int .i64 g.start, fin', arcs']] w fun e w' => FstRes w ⟨0, 0, [], []⟩ c e w' := by
  obtain ⟨fa, fn, fc, rfl, _, _⟩ := hf.lenOf
  obtain ⟨aa, m, ac, rfl, _, _⟩ := ha.lenOf
  obtain ⟨ga, gn, gc, rfl, _, _⟩ := hf'.lenOf
  obtain ⟨ea, m', ec, rfl, _, _⟩ := ha'.lenOf
  have h0n : (c != 0) = true := by simpa using h0
  obtain ⟨W0, hW0⟩ : ∃ W0, W0 = (((w.alloc (.cells #[.int .i64 f.states, .int .i64 f.start, .slice fa fn fc, .slice aa m ac] 25)).alloc (.cells #[.int .i64 g.states, .int .i64 g.start, .slice ga gn gc, .slice ea m' ec] 25)).alloc (.cells #[.int .i64 0, .int .i64 0, .slice none 0 0, .slice none 0 0] 25)).alloc (.cells #[.int .i64 f.states, .int .i64 f.start, .slice fa fn fc, .slice aa m ac, .int .i64 g.states, .int .i64 g.start, .slice ga gn gc, .slice ea m' ec] 25) := ⟨_, rfl⟩
  have hb0 : Below w.heap.size w W0 := by rw [hW0]; exact bel_up (bel_up (two_up w _ _) _) _
  have hbZ : ZBlock W0 (w.heap.size + 1 + 1) := by
    rw [hW0]
    have := heap_alloc_new ((w.alloc (.cells #[.int .i64 f.states, .int .i64 f.start, .slice fa fn fc, .slice aa m ac] 25)).alloc (.cells #[.int .i64 g.states, .int .i64 g.start, .slice ga gn gc, .slice ea m' ec] 25)) (.cells #[.int .i64 0, .int .i64 0, .slice none 0 0, .slice none 0 0] 25)
    rw [one_size, one_size] at this
    exact heap_bel (bel_up (bel_self _) _) this
  have hb8 : W0.heap[w.heap.size + 1 + 1 + 1]? = some (.cells #[.int .i64 f.states, .int .i64 f.start, .slice fa fn fc, .slice aa m ac, .int .i64 g.states, .int .i64 g.start, .slice ga gn gc, .slice ea m' ec] 25 (0, 0)) := by
    rw [hW0]
    have := heap_alloc_new (((w.alloc (.cells #[.int .i64 f.states, .int .i64 f.start, .slice fa fn fc, .slice aa m ac] 25)).alloc (.cells #[.int .i64 g.states, .int .i64 g.start, .slice ga gn gc, .slice ea m' ec] 25)).alloc (.cells #[.int .i64 0, .int .i64 0, .slice none 0 0, .slice none 0 0] 25)) (.cells #[.int .i64 f.states, .int .i64 f.start, .slice fa fn fc, .slice aa m ac, .int .i64 g.states, .int .i64 g.start, .slice ga gn gc, .slice ea m' ec] 25)
    rw [one_size, one_size, one_size] at this
    exact this
  have hfit := fit_not2 f g _ _ _ _ c (w.heap.size + 1 + 1 + 1) W0 ⟨box_cell (k := 0) hb8 rfl, box_cell (k := 1) hb8 rfl, box_cell (k := 2) hb8 rfl, box_cell (k := 3) hb8 rfl⟩ ⟨box_cell (k := 4) hb8 rfl, box_cell (k := 5) hb8 rfl, box_cell (k := 6) hb8 rfl, box_cell (k := 7) hb8 rfl⟩ (hf.below hb0) (ha.below hb0) (hf'.below hb0) (ha'.below hb0) h0 hc
  clear hc hb8
  go_enter Try.func24, Try.ntmps24
  go_wp2_with fail
  rw [← hW0]
  clear hW0
  go_wp2_with (go_at_call 66; refine hfit.mono ?_; rintro e w1 ⟨rfl, hb1⟩; have hz1 := heap_bel hb1 hbZ; obtain ⟨z0, z1, z2, z3, y0, y1, y2, y3⟩ := zfacts hz1)
  exact bodyPost_ret (v := .tuple #[.agg #[.int .i64 0, .int .i64 0, .slice none 0 0, .slice none 0 0], .int .i64 c]) (by simp [results, Try.results24, go_sem, *]) rfl ⟨_, _, _, _, _, _, rfl, Or.inl ⟨_, _, rfl, rfl⟩, Or.inl ⟨_, _, rfl, rfl⟩, bel_set4 (bel_on hb0 hb1) (by omega) _ _ _ _⟩

set_option maxHeartbeats 1000000 in
set_option maxRecDepth 100000 in
theorem again_bad (f : FstD) (fin arcs : Value) (c : Int) (w : World) (hf : ISlice w fin f.final) (ha : ASlice w arcs f.arcs) (h0 : (c == 0) = false) (hc : errA f = c) :
    Calls Try.prog 25 #[.agg #[.int .i64 f.states, .int .i64 f.start, fin, arcs]] w fun e w' => FstRes w ⟨0, 0, [], []⟩ c e w' := by
  obtain ⟨fa, fn, fc, rfl, _, _⟩ := hf.lenOf
  obtain ⟨aa, m, ac, rfl, _, _⟩ := ha.lenOf
  have h0n : (c != 0) = true := by simpa using h0
  obtain ⟨W0, hW0⟩ : ∃ W0, W0 = ((w.alloc (.cells #[.int .i64 f.states, .int .i64 f.start, .slice fa fn fc, .slice aa m ac] 25)).alloc (.cells #[.int .i64 0, .int .i64 0, .slice none 0 0, .slice none 0 0] 25)).alloc (.cells #[.int .i64 f.states, .int .i64 f.start, .slice fa fn fc, .slice aa m ac] 25) := ⟨_, rfl⟩
  have hb0 : Below w.heap.size w W0 := by rw [hW0]; exact bel_up (two_up w _ _) _
  have hbZ : ZBlock W0 (w.heap.size + 1) := by
    rw [hW0]
    have := heap_alloc_new (w.alloc (.cells #[.int .i64 f.states, .int .i64 f.start, .slice fa fn fc, .slice aa m ac] 25)) (.cells #[.int .i64 0, .int .i64 0, .slice none 0 0, .slice none 0 0] 25)
    rw [one_size] at this
    exact heap_bel (bel_up (bel_self _) _) this
  have hb8 : W0.heap[w.heap.size + 1 + 1]? = some (.cells #[.int .i64 f.states, .int .i64 f.start, .slice fa fn fc, .slice aa m ac] 25 (0, 0)) := by
    rw [hW0]
    have := heap_alloc_new ((w.alloc (.cells #[.int .i64 f.states, .int .i64 f.start, .slice fa fn fc, .slice aa m ac] 25)).alloc (.cells #[.int .i64 0, .int .i64 0, .slice none 0 0, .slice none 0 0] 25)) (.cells #[.int .i64 f.states, .int .i64 f.start, .slice fa fn fc, .slice aa m ac] 25)
    rw [one_size, one_size] at this
    exact this
  have hfit := fit_not1 f _ _ c (w.heap.size + 1 + 1) W0 ⟨box_cell (k := 0) hb8 rfl, box_cell (k := 1) hb8 rfl, box_cell (k := 2) hb8 rfl, box_cell (k := 3) hb8 rfl⟩ (hf.below hb0) (ha.below hb0) h0 hc
  clear hc hb8
  go_enter Try.func25, Try.ntmps25
  go_wp2_with fail
  rw [← hW0]
  clear hW0
  go_wp2_with (go_at_call 66; refine hfit.mono ?_; rintro e w1 ⟨rfl, hb1⟩; have hz1 := heap_bel hb1 hbZ; obtain ⟨z0, z1, z2, z3, y0, y1, y2, y3⟩ := zfacts hz1)
  exact bodyPost_ret (v := .tuple #[.agg #[.int .i64 0, .int .i64 0, .slice none 0 0, .slice none 0 0], .int .i64 c]) (by simp [results, Try.results25, go_sem, *]) rfl ⟨_, _, _, _, _, _, rfl, Or.inl ⟨_, _, rfl, rfl⟩, Or.inl ⟨_, _, rfl, rfl⟩, bel_set4 (bel_on hb0 hb1) (by omega) _ _ _ _⟩
end Go.Proofs.Yteehgcbjmdideaa
