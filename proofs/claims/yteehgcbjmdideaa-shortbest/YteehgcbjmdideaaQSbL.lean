/- 'ShortBest'. -/
import Derived.Test.YteehgcbjmdideaaQSbR
import Derived.Test.YteehgcbjmdideaaQShTells
import Derived.Test.YteehgcbjmdideaaQMG
namespace Go.Proofs.Yteehgcbjmdideaa
open Go.RowKit
attribute [local go_sem ↓] Go.wp_at_zero Go.wp_at_succ

/-- what 'Score' answers, where it is known -/
theorem score_at (f : FstD) (ins outs : List Int) (fin arcs iv ov : Value) (w : World) (hf : ISlice w fin f.final) (ha : ASlice w arcs f.arcs) (hI : ISlice w iv ins) (hO : ISlice w ov outs) (x : Int) (hc : chkS f ins outs = 0) (hx : BestP f ins outs f.start.toNat x) :
    Calls Try.prog 10 #[.agg #[.int .i64 f.states, .int .i64 f.start, fin, arcs], iv, ov] w fun e w' => e = .returned (.tuple #[.int .i64 x, .int .i64 0]) ∧ Below w.heap.size w w' := by
  refine (score_any f ins outs fin arcs iv ov w hf ha hI hO).mono ?_
  rintro e w' ⟨z, c, rfl, ⟨h1, _, h3⟩, hb⟩
  rw [hc] at h1
  subst h1
  obtain ⟨N, s0, e1, e2, hok, hbest⟩ := h3 rfl
  have hz := (best_path hok).1 hbest
  rw [e2, Int.toNat_natCast] at hx
  rw [hz.unique hx]
  exact ⟨rfl, hb⟩

theorem score_no (f : FstD) (ins outs : List Int) (fin arcs iv ov : Value) (w : World) (hf : ISlice w fin f.final) (ha : ASlice w arcs f.arcs) (hI : ISlice w iv ins) (hO : ISlice w ov outs) (c : Int) (hc : chkS f ins outs = c) (h0 : c ≠ 0) :
    Calls Try.prog 10 #[.agg #[.int .i64 f.states, .int .i64 f.start, fin, arcs], iv, ov] w fun e w' => e = .returned (.tuple #[.int .i64 0, .int .i64 c]) ∧ Below w.heap.size w w' := by
  refine (score_any f ins outs fin arcs iv ov w hf ha hI hO).mono ?_
  rintro e w' ⟨z, c', rfl, ⟨h1, h2, _⟩, hb⟩
  rw [hc] at h1
  subst h1
  rw [h2 h0]
  exact ⟨rfl, hb⟩

/-- there is a least cost, or none -/
theorem best_ex (f : FstD) (ins outs : List Int) (s0 : Nat) (ha : ∀ a ∈ f.arcs, 0 ≤ a.wt) : ∃ x, BestP f ins outs s0 x := by
  by_cases h : ∃ y, TotP f ins outs s0 y
  · have key : ∀ n : Nat, ∀ y : Int, TotP f ins outs s0 y → y ≤ n → ∃ x, BestP f ins outs s0 x := by
      intro n
      induction n with
      | zero =>
        intro y hy hle
        have hnn : ∀ z, TotP f ins outs s0 z → 0 ≤ z := by
          rintro z ⟨h, n, z', hp, h0, rfl⟩
          have := hp.nonneg ha
          omega
        refine ⟨y, Or.inr ⟨hnn y hy, hy, fun z hz => ?_⟩⟩
        have := hnn z hz
        omega
      | succ n ih =>
        intro y hy hle
        have hnn : ∀ z, TotP f ins outs s0 z → 0 ≤ z := by
          rintro z ⟨h, n, z', hp, h0, rfl⟩
          have := hp.nonneg ha
          omega
        by_cases hl : ∃ z, TotP f ins outs s0 z ∧ z < y
        · obtain ⟨z, hz, hlt⟩ := hl
          exact ih z hz (by omega)
        · exact ⟨y, Or.inr ⟨hnn y hy, hy, fun z hz => Int.not_lt.1 fun hh => hl ⟨z, hz, hh⟩⟩⟩
    obtain ⟨y, hy⟩ := h
    exact key y.toNat y hy (by omega)
  · exact ⟨-1, Or.inl ⟨rfl, fun y hy => h ⟨y, hy⟩⟩⟩

set_option maxHeartbeats 2000000 in
set_option maxRecDepth 100000 in
theorem sbest_err (f : FstD) (ins outs : List Int) (fa : Option Addr) (fn fc : Nat) (aa : Option Addr) (m ac : Nat) (iv ov : Value) (w : World) (hf : ISlice w (.slice fa fn fc) f.final) (ha : ASlice w (.slice aa m ac) f.arcs) (hI : ISlice w iv ins) (hO : ISlice w ov outs) (c : Int) (hc : checkD f = c) (h0 : c ≠ 0) :
    Calls Try.prog 8 #[.agg #[.int .i64 f.states, .int .i64 f.start, .slice fa fn fc, .slice aa m ac], iv, ov] w fun e w' => e = .returned (.bool true) ∧ Below w.heap.size w w' := by
  obtain ⟨ia, il, ic, rfl, _, _⟩ := hI.lenOf
  obtain ⟨oa, ol, oc, rfl, _, _⟩ := hO.lenOf
  have hb0 := bel_up (bel_self w) (.cells #[.int .i64 f.states, .int .i64 f.start, .slice fa fn fc, .slice aa m ac] 25)
  have hcf := cellsF_new w f.states f.start (.slice fa fn fc) (.slice aa m ac) 25
  have hbs := best_bad f _ _ c _ (hf.below hb0) (ha.below hb0) hc (by simpa using h0)
  have HCK : Hid (∀ W, Below w.heap.size w W → Calls Try.prog 18 #[.agg #[.int .i64 f.states, .int .i64 f.start, .slice fa fn fc, .slice aa m ac]] W fun e w' => e = .returned (.int .i64 c) ∧ Below W.heap.size W w') := fun W hb => by
    have := checkFst_any f _ _ W (hf.below hb) (ha.below hb)
    rw [hc] at this
    exact this
  have h0n : (c != 0) = true := by simpa using h0
  clear hc hf ha hI hO h0
  go_enter Try.func8, Try.ntmps8
  go_wp2_with (first | (go_at_call 44; refine hbs.mono ?_; rintro e w1 ⟨rfl, hb1⟩; have hc1 := bel_on hb0 hb1; have hcf1 := hcf.below hb1) | (go_at_call 42; refine (shortBegun_any w1).mono ?_; rintro e w2 ⟨rfl, hb2⟩; have hc2 := bel_on hc1 hb2; have hcf2 := hcf1.below hb2) | (go_at_call 13; refine (scoreBegun_any w2).mono ?_; rintro e w3 ⟨rfl, hb3⟩; have hc3 := bel_on hc2 hb3; have hcf3 := hcf2.below hb3; obtain ⟨q0, q1, q2, q3⟩ := hcf3) | (go_at_call 18; refine (HCK.out w3 hc3).mono ?_; rintro e w4 ⟨rfl, hb4⟩; have hc4 := bel_on hc3 hb4))
  go_ret
  exact ⟨by simp, hc4⟩
theorem toD_facts {f : FstD} {N s0 : Nat} (hok : OkF f N s0) : LeC (toD f) f.final ∧ Fix (edT f) (toD f) := by
  have hl : ∀ v, IsLeast (edT f) f.final v (gI (toD f) v) := by
    have := rounds_are (E := edT f) (b := f.final) (edT f).reverse (fun e => List.mem_reverse) (by rw [hok.len]; exact hok.eT) hok.bT.1
    unfold toD
    rw [hok.st, Int.toNat_natCast]
    rw [hok.len] at this
    exact this
  constructor
  · intro v h0
    rcases hl v with ⟨h1, h2⟩ | ⟨h1, _, h3⟩
    · exact absurd (⟨rfl, h0⟩ : WayN (edT f) f.final 0 v (gI f.final v)) (h2 0 _)
    · exact ⟨h1, h3 0 _ ⟨rfl, h0⟩⟩
  · intro e he h0
    rcases hl e.u with ⟨h1, _⟩ | ⟨_, ⟨h, hw⟩, _⟩
    · omega
    · have hw' : WayN (edT f) f.final (h + 1) e.v (gI (toD f) e.u + e.w) := ⟨e, he, rfl, _, hw, rfl⟩
      rcases hl e.v with ⟨_, h2⟩ | ⟨h1, _, h3⟩
      · exact absurd hw' (h2 _ _)
      · exact ⟨h1, h3 _ _ hw'⟩

theorem made_false (w : World) (n : Nat) : MetB (w.alloc (.cells (madeCells #[.bool false] n) 4)) w.heap.size n (fun _ => false) := by
  have h : (w.alloc (.cells (madeCells #[.bool false] n) 4)).heap[w.heap.size]? = some (.cells (madeCells #[.bool false] n) 4 (0, 0)) := heap_alloc_new w _
  refine ⟨fun i hi => ?_, fun i => Go.Joins.unfrozen_of_block h i, by simp⟩
  simp [madeCells, hi, Nat.mod_one]

set_option maxHeartbeats 4000000 in
set_option maxRecDepth 100000 in
theorem sbest_none (f : FstD) (ins outs : List Int) (N s0 : Nat) (fa : Option Addr) (fn fc : Nat) (aa : Option Addr) (m ac : Nat) (iv ov : Value) (w : World) (hok : OkF f N s0) (hf : ISlice w (.slice fa fn fc) f.final) (ha : ASlice w (.slice aa m ac) f.arcs) (hal : f.arcs.length = m) (hI : ISlice w iv ins) (hO : ISlice w ov outs) (hc : checkD f = 0) (x : Int) (hx : gI (toD f) s0 = x)
    (m1 g : Int) (hm : (g ≠ 0 ∧ chkS f ins outs = g ∧ m1 = 0) ∨ (g = 0 ∧ chkS f ins outs = 0 ∧ BestP f ins outs s0 m1)) (hxn : x = -1) :
    Calls Try.prog 8 #[.agg #[.int .i64 (N : Int), .int .i64 (s0 : Int), .slice fa fn fc, .slice aa m ac], iv, ov] w fun e w' => e = .returned (.bool true) ∧ Below w.heap.size w w' := by
  obtain ⟨ia, il, ic, rfl, _, _⟩ := hI.lenOf
  obtain ⟨oa, ol, oc, rfl, _, _⟩ := hO.lenOf
  have hb0 := bel_up (bel_self w) (.cells #[.int .i64 (N : Int), .int .i64 (s0 : Int), .slice fa fn fc, .slice aa m ac] 25)
  have hcf := cellsF_new w (N : Int) (s0 : Int) (.slice fa fn fc) (.slice aa m ac) 25
  have hbs := best_ok f N s0 _ aa m ac _ hok (hf.below hb0) (ha.below hb0) hal hc x hx
  rw [hok.st, hok.sta] at hbs
  have HCK : Hid (∀ W, Below w.heap.size w W → Calls Try.prog 18 #[.agg #[.int .i64 (N : Int), .int .i64 (s0 : Int), .slice fa fn fc, .slice aa m ac]] W fun e w' => e = .returned (.int .i64 0) ∧ Below W.heap.size W w') := fun W hb => by
    have := checkFst_any f _ _ W (hf.below hb) (ha.below hb)
    rw [hc, hok.st, hok.sta] at this
    exact this
  have HSC : Hid (∀ W, Below w.heap.size w W → Calls Try.prog 10 #[.agg #[.int .i64 (N : Int), .int .i64 (s0 : Int), .slice fa fn fc, .slice aa m ac], .slice ia il ic, .slice oa ol oc] W fun e w' => e = .returned (.tuple #[.int .i64 m1, .int .i64 g]) ∧ Below W.heap.size W w') := fun W hb => by
    rcases hm with ⟨h1, h2, rfl⟩ | ⟨rfl, h2, h3⟩
    · have := score_no f ins outs _ _ _ _ W (hf.below hb) (ha.below hb) (hI.below hb) (hO.below hb) g h2 h1
      rw [hok.st, hok.sta] at this
      exact this
    · have := score_at f ins outs _ _ _ _ W (hf.below hb) (ha.below hb) (hI.below hb) (hO.below hb) m1 h2 (by rw [hok.sta, Int.toNat_natCast]; exact h3)
      rw [hok.st, hok.sta] at this
      exact this
  subst hxn
  have HPU : Hid (∀ W, Below w.heap.size w W → Calls Try.prog 38 #[.agg #[.int .i64 (N : Int), .int .i64 (s0 : Int), .slice fa fn fc, .slice aa m ac]] W fun e w' => PushRes W (⟨N, s0, f.final, []⟩, -1, 0) e w') := fun W hb => by
    have := push_none f N s0 _ aa m ac W hok (hf.below hb) (ha.below hb) hal hc hx
    rw [hok.st, hok.sta] at this
    exact this
  have hg9 : g ≠ 0 ∨ m1 = -1 := by
    rcases hm with ⟨h1, _⟩ | ⟨_, _, h3⟩
    · exact Or.inl h1
    · right
      rcases h3 with ⟨h4, _⟩ | ⟨_, h4, _⟩
      · exact h4
      · have := (tot_ge (toD_facts hok).1 (toD_facts hok).2 h4).1
        omega
  have HX : Hid (gI (toD f) s0 = -1) := hx
  have HOK : Hid (OkF f N s0) := hok
  clear hm hx hok hf ha hal hI hO hc
  go_enter Try.func8, Try.ntmps8
  go_wp2_with (first | (go_at_call 44; refine hbs.mono ?_; rintro e w1 ⟨la, ln, lc, l, y, r, rfl, hl, hll, hbk, hway, hb1⟩; have HBW : Hid (ISlice w1 (.slice la ln lc) l ∧ l.length = ln ∧ BackOk f N (toD f) y r ∧ WayL f y s0 l) := ⟨hl, hll, hbk, hway⟩; clear hl hll hbk hway; have hc1 := bel_on hb0 hb1; have hcf1 := hcf.below hb1) | (go_at_call 42; refine (shortBegun_any w1).mono ?_; rintro e w2 ⟨rfl, hb2⟩; have hc2 := bel_on hc1 hb2; have hcf2 := hcf1.below hb2) | (go_at_call 13; refine (scoreBegun_any w2).mono ?_; rintro e w3 ⟨rfl, hb3⟩; have hc3 := bel_on hc2 hb3; have hcf3 := hcf2.below hb3; obtain ⟨q0, q1, q2, q3⟩ := hcf3) | (go_at_call 18; refine (HCK.out w3 hc3).mono ?_; rintro e w4 ⟨rfl, hb4⟩; have hc4 := bel_on hc3 hb4; have hcf4 := (hcf2.below hb3).below hb4; obtain ⟨k0, k1, k2, k3⟩ := hcf4))
  refine (HSC.out w4 hc4).mono ?_
  rintro e w5 ⟨rfl, hb5⟩
  have hc5 := bel_on hc4 hb5
  have hcf5 := ((hcf2.below hb3).below hb4).below hb5
  obtain ⟨j0, j1, j2, j3⟩ := hcf5
  have hln : ln = 0 := by
    obtain ⟨_, h2, h3, h4⟩ := HBW.out
    rw [← h2]
    cases l with
    | nil => rfl
    | cons n l =>
      exfalso
      obtain ⟨j, a, _, h5, _⟩ := h4
      rcases h3 s0 HOK.out.s with ⟨h6, _⟩ | ⟨_, _, _, _, _, _, h6, _⟩
      · rw [h5] at h6; omega
      · rw [HX.out] at h6; omega
  clear q0 q1 q2 q3 k0 k1 k2 k3 hbs HBW
  subst hln
  rcases hg9 with h9 | h9
  · have h9b : (g == 0) = false := by simpa using h9
    go_wp2_with (go_at_call 38; refine (HPU.out w5 hc5).mono ?_; rintro e w6 ⟨fa', fn', fc', ba', bn', bc', rfl, _, _, hb6⟩; have hc6 := bel_on hc5 hb6)
    go_ret
    exact ⟨rfl, bel_up hc6 _⟩
  · subst h9
    by_cases h9 : g = 0
    · subst h9
      go_wp2_with (go_at_call 38; refine (HPU.out w5 hc5).mono ?_; rintro e w6 ⟨fa', fn', fc', ba', bn', bc', rfl, _, _, hb6⟩; have hc6 := bel_on hc5 hb6)
      go_ret
      exact ⟨rfl, bel_up hc6 _⟩
    · have h9b : (g == 0) = false := by simpa using h9
      go_wp2_with (go_at_call 38; refine (HPU.out w5 hc5).mono ?_; rintro e w6 ⟨fa', fn', fc', ba', bn', bc', rfl, _, _, hb6⟩; have hc6 := bel_on hc5 hb6)
      go_ret
      exact ⟨rfl, bel_up hc6 _⟩
end Go.Proofs.Yteehgcbjmdideaa
