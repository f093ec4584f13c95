/- 'checkJoin' and 'joined' of the statements. -/
import Derived.Test.YteehgcbjmdideaaQSjE
import Derived.Test.YteehgcbjmdideaaQM19
namespace Go.Proofs.Yteehgcbjmdideaa
open Go.RowKit
attribute [local go_sem ↓] Go.wp_at_zero Go.wp_at_succ

theorem errJ_def (f g : FstD) : (checkD f ≠ 0 ∧ errJ f g = checkD f) ∨ (checkD f = 0 ∧ checkD g ≠ 0 ∧ errJ f g = checkD g) ∨ (checkD f = 0 ∧ checkD g = 0 ∧ (198 < f.states + g.states ∨ 2500 < f.arcs.length + g.arcs.length) ∧ errJ f g = 2) ∨ (checkD f = 0 ∧ checkD g = 0 ∧ ¬ (198 < f.states + g.states ∨ 2500 < f.arcs.length + g.arcs.length) ∧ errJ f g = 0) := by
  unfold errJ
  by_cases h1 : checkD f = 0
  · by_cases h2 : checkD g = 0
    · by_cases h3 : 198 < f.states + g.states ∨ 2500 < f.arcs.length + g.arcs.length
      · exact Or.inr (Or.inr (Or.inl ⟨h1, h2, h3, by rw [if_pos h1, if_pos h2, if_pos h3]⟩))
      · exact Or.inr (Or.inr (Or.inr ⟨h1, h2, h3, by rw [if_pos h1, if_pos h2, if_neg h3]⟩))
    · exact Or.inr (Or.inl ⟨h1, h2, by rw [if_pos h1, if_neg h2]⟩)
  · exact Or.inl ⟨h1, by rw [if_neg h1]⟩
theorem errA_def (f : FstD) : (checkD f ≠ 0 ∧ errA f = checkD f) ∨ (checkD f = 0 ∧ (198 < f.states ∨ 2500 < f.arcs.length) ∧ errA f = 2) ∨ (checkD f = 0 ∧ ¬ (198 < f.states ∨ 2500 < f.arcs.length) ∧ errA f = 0) := by
  unfold errA
  by_cases h1 : checkD f = 0
  · by_cases h3 : 198 < f.states ∨ 2500 < f.arcs.length
    · exact Or.inr (Or.inl ⟨h1, h3, by rw [if_pos h1, if_pos h3]⟩)
    · exact Or.inr (Or.inr ⟨h1, h3, by rw [if_pos h1, if_neg h3]⟩)
  · exact Or.inl ⟨h1, by rw [if_neg h1]⟩

set_option maxHeartbeats 1000000 in
set_option maxRecDepth 100000 in
theorem checkJoin2_any (f g : FstD) (fin fin' : Value) (aa : Option Addr) (m ac : Nat) (ga : Option Addr) (m' gc : Nat) (B : Nat) (w : World) (hC : CellsF w B f.states f.start fin (.slice aa m ac)) (hD : CellsG w B g.states g.start fin' (.slice ga m' gc)) (hf : ISlice w fin f.final) (ha : ASlice w (.slice aa m ac) f.arcs) (hal : f.arcs.length = m) (hf' : ISlice w fin' g.final) (ha' : ASlice w (.slice ga m' gc) g.arcs) (hal' : g.arcs.length = m') :
    Calls Try.prog 26 #[.slice (some ⟨B, 0, none⟩) 2 2] w fun e w' => e = .returned (.int .i64 (errJ f g)) ∧ Below w.heap.size w w' := by
  obtain ⟨fa, fn, fc, rfl, _, _⟩ := hf.lenOf
  obtain ⟨ea, en, ec, rfl, _, _⟩ := hf'.lenOf
  have HK : Hid (∀ W, Below w.heap.size w W → Calls Try.prog 18 #[.agg #[.int .i64 f.states, .int .i64 f.start, .slice fa fn fc, .slice aa m ac]] W fun e w' => e = .returned (.int .i64 (checkD f)) ∧ Below W.heap.size W w') := fun W hb => checkFst_any f _ _ W (hf.below hb) (ha.below hb)
  have HK' : Hid (∀ W, Below w.heap.size w W → Calls Try.prog 18 #[.agg #[.int .i64 g.states, .int .i64 g.start, .slice ea en ec, .slice ga m' gc]] W fun e w' => e = .returned (.int .i64 (checkD g)) ∧ Below W.heap.size W w') := fun W hb => checkFst_any g _ _ W (hf'.below hb) (ha'.below hb)
  have HED : Hid _ := errJ_def f g
  rw [hal, hal'] at HED
  have HFF : Hid ((checkD f = 0 → Fine f) ∧ (checkD g = 0 → Fine g)) := ⟨fine_of, fine_of⟩
  have HAL : Hid (f.arcs.length = m ∧ g.arcs.length = m') := ⟨hal, hal'⟩
  obtain ⟨c1, hc1⟩ : ∃ c, c = checkD f := ⟨_, rfl⟩
  obtain ⟨c2, hc2⟩ : ∃ c, c = checkD g := ⟨_, rfl⟩
  obtain ⟨u, hu⟩ : ∃ u, u = errJ f g := ⟨_, rfl⟩
  rw [← hc1] at HK HED HFF
  rw [← hc2] at HK' HED HFF
  rw [← hu] at HED ⊢
  clear hc1 hc2 hu hf ha hf' ha' hal hal'
  go_enter Try.func26, Try.ntmps26
  go_wp2
  go_loopw [3, 4, 5] (fun s3 s4 i wr => (∃ k : Nat, i = .int .i64 k ∧ ((k = 0 ∧ s3 = .int .i64 0 ∧ s4 = .int .i64 0) ∨ (k = 1 ∧ c1 = 0 ∧ s3 = .int .i64 f.states ∧ s4 = .int .i64 m) ∨ (k = 2 ∧ c1 = 0 ∧ c2 = 0 ∧ s3 = .int .i64 (f.states + g.states) ∧ s4 = .int .i64 (m + m')))) ∧ Below w.heap.size w wr) (fun _ _ i _ => 2 - (intOf i).toNat)
  case atStart => exact ⟨⟨0, rfl, Or.inl ⟨rfl, rfl, rfl⟩⟩, bel_self _⟩
  case round =>
    obtain ⟨⟨k, rfl, hk⟩, hb⟩ := hrel
    rcases hk with ⟨rfl, rfl, rfl⟩ | ⟨rfl, rfl, rfl, rfl⟩ | ⟨rfl, rfl, rfl, rfl, rfl⟩
    · obtain ⟨q0, q1, q2, q3⟩ := hC.below hb
      have hck := HK.out wr hb
      by_cases h0 : c1 = 0
      · subst h0
        have hF := HFF.out.1 rfl
        have b1 := hF.s1
        have b2 := hF.s2
        have b3 := hF.many
        rw [HAL.out.1] at b3
        have e1 : IntKind.i64.wrap f.states = f.states := wrap_in _ (by omega) (by omega)
        have e2 : IntKind.i64.wrap (m : Int) = m := wrap_in _ (by omega) (by omega)
        clear hF
        go_wp2_with (go_at_call 18; refine hck.mono ?_; rintro e w1 ⟨rfl, hb1⟩; obtain ⟨r0, r1, r2, r3⟩ := hC.below (bel_on hb hb1))
        go_roundw
        case rel => exact ⟨⟨1, by go_num, Or.inr (Or.inl ⟨rfl, by trivial, by go_num, by go_num⟩)⟩, bel_on hb hb1⟩
        case measure => simp [intOf]
      · have h0n : (c1 != 0) = true := by simpa using h0
        have h0b : (c1 == 0) = false := by simpa using h0
        have hue : u = c1 := by
          rcases HED.out with ⟨_, e⟩ | ⟨e, _⟩ | ⟨e, _⟩ | ⟨e, _⟩
          · exact e
          · exact absurd e h0
          · exact absurd e h0
          · exact absurd e h0
        subst hue
        go_wp2_with (go_at_call 18; refine hck.mono ?_; rintro e w1 ⟨rfl, hb1⟩)
        go_ret
        exact ⟨rfl, bel_on hb hb1⟩
    · obtain ⟨q0, q1, q2, q3⟩ := hD.below hb
      have hck := HK'.out wr hb
      have hF := HFF.out.1 rfl
      have b1 := hF.s1
      have b2 := hF.s2
      have b3 := hF.many
      rw [HAL.out.1] at b3
      by_cases h0 : c2 = 0
      · subst h0
        have hG := HFF.out.2 rfl
        have d1 := hG.s1
        have d2 := hG.s2
        have d3 := hG.many
        rw [HAL.out.2] at d3
        have e1 : IntKind.i64.wrap (f.states + g.states) = f.states + g.states := wrap_in _ (by omega) (by omega)
        have e2 : IntKind.i64.wrap ((m : Int) + m') = m + m' := wrap_in _ (by omega) (by omega)
        clear hF hG
        go_wp2_with (go_at_call 18; refine hck.mono ?_; rintro e w1 ⟨rfl, hb1⟩; obtain ⟨r0, r1, r2, r3⟩ := hD.below (bel_on hb hb1))
        go_roundw
        case rel => exact ⟨⟨2, by go_num, Or.inr (Or.inr ⟨rfl, by trivial, by trivial, by go_num, by go_num⟩)⟩, bel_on hb hb1⟩
        case measure => simp [intOf]
      · have h0n : (c2 != 0) = true := by simpa using h0
        have h0b : (c2 == 0) = false := by simpa using h0
        have hue : u = c2 := by
          rcases HED.out with ⟨e, _⟩ | ⟨_, _, e⟩ | ⟨_, e, _⟩ | ⟨_, e, _⟩
          · exact absurd rfl e
          · exact e
          · exact absurd e h0
          · exact absurd e h0
        subst hue
        clear hF
        go_wp2_with (go_at_call 18; refine hck.mono ?_; rintro e w1 ⟨rfl, hb1⟩)
        go_ret
        exact ⟨rfl, bel_on hb hb1⟩
    · by_cases e1 : (198 : Int) < f.states + g.states
      · have hue : u = 2 := by
          rcases HED.out with ⟨e, _⟩ | ⟨_, e, _⟩ | ⟨_, _, _, e⟩ | ⟨_, _, e, _⟩
          · exact absurd rfl e
          · exact absurd rfl e
          · exact e
          · exact absurd (Or.inl e1) e
        subst hue
        go_wp2
        go_ret
        exact ⟨rfl, hb⟩
      · by_cases e2 : (2500 : Int) < (m : Int) + m'
        · have hue : u = 2 := by
            rcases HED.out with ⟨e, _⟩ | ⟨_, e, _⟩ | ⟨_, _, _, e⟩ | ⟨_, _, e, _⟩
            · exact absurd rfl e
            · exact absurd rfl e
            · exact e
            · exact absurd (Or.inr (by omega)) e
          subst hue
          go_wp2
          go_ret
          exact ⟨rfl, hb⟩
        · have hue : u = 0 := by
            rcases HED.out with ⟨e, _⟩ | ⟨_, e, _⟩ | ⟨_, _, e, _⟩ | ⟨_, _, _, e⟩
            · exact absurd rfl e
            · exact absurd rfl e
            · omega
            · exact e
          subst hue
          go_wp2
          go_ret
          exact ⟨rfl, hb⟩

set_option maxHeartbeats 1000000 in
set_option maxRecDepth 100000 in
theorem checkJoin1_any (f : FstD) (fin : Value) (aa : Option Addr) (m ac : Nat) (B : Nat) (w : World) (hC : CellsF w B f.states f.start fin (.slice aa m ac)) (hf : ISlice w fin f.final) (ha : ASlice w (.slice aa m ac) f.arcs) (hal : f.arcs.length = m) :
    Calls Try.prog 26 #[.slice (some ⟨B, 0, none⟩) 1 1] w fun e w' => e = .returned (.int .i64 (errA f)) ∧ Below w.heap.size w w' := by
  obtain ⟨fa, fn, fc, rfl, _, _⟩ := hf.lenOf
  have HK : Hid (∀ W, Below w.heap.size w W → Calls Try.prog 18 #[.agg #[.int .i64 f.states, .int .i64 f.start, .slice fa fn fc, .slice aa m ac]] W fun e w' => e = .returned (.int .i64 (checkD f)) ∧ Below W.heap.size W w') := fun W hb => checkFst_any f _ _ W (hf.below hb) (ha.below hb)
  have HED : Hid _ := errA_def f
  rw [hal] at HED
  have HFF : Hid (checkD f = 0 → Fine f) := fine_of
  have HAL : Hid (f.arcs.length = m) := hal
  obtain ⟨c1, hc1⟩ : ∃ c, c = checkD f := ⟨_, rfl⟩
  obtain ⟨u, hu⟩ : ∃ u, u = errA f := ⟨_, rfl⟩
  rw [← hc1] at HK HED HFF
  rw [← hu] at HED ⊢
  clear hc1 hu hf ha hal
  go_enter Try.func26, Try.ntmps26
  go_wp2
  go_loopw [3, 4, 5] (fun s3 s4 i wr => (∃ k : Nat, i = .int .i64 k ∧ ((k = 0 ∧ s3 = .int .i64 0 ∧ s4 = .int .i64 0) ∨ (k = 1 ∧ c1 = 0 ∧ s3 = .int .i64 f.states ∧ s4 = .int .i64 m))) ∧ Below w.heap.size w wr) (fun _ _ i _ => 1 - (intOf i).toNat)
  case atStart => exact ⟨⟨0, rfl, Or.inl ⟨rfl, rfl, rfl⟩⟩, bel_self _⟩
  case round =>
    obtain ⟨⟨k, rfl, hk⟩, hb⟩ := hrel
    rcases hk with ⟨rfl, rfl, rfl⟩ | ⟨rfl, rfl, rfl, rfl⟩
    · obtain ⟨q0, q1, q2, q3⟩ := hC.below hb
      have hck := HK.out wr hb
      by_cases h0 : c1 = 0
      · subst h0
        have hF := HFF.out rfl
        have b1 := hF.s1
        have b2 := hF.s2
        have b3 := hF.many
        rw [HAL.out] at b3
        have e1 : IntKind.i64.wrap f.states = f.states := wrap_in _ (by omega) (by omega)
        have e2 : IntKind.i64.wrap (m : Int) = m := wrap_in _ (by omega) (by omega)
        clear hF
        go_wp2_with (go_at_call 18; refine hck.mono ?_; rintro e w1 ⟨rfl, hb1⟩; obtain ⟨r0, r1, r2, r3⟩ := hC.below (bel_on hb hb1))
        go_roundw
        case rel => exact ⟨⟨1, by go_num, Or.inr ⟨rfl, by trivial, by go_num, by go_num⟩⟩, bel_on hb hb1⟩
        case measure => simp [intOf]
      · have h0n : (c1 != 0) = true := by simpa using h0
        have h0b : (c1 == 0) = false := by simpa using h0
        have hue : u = c1 := by
          rcases HED.out with ⟨_, e⟩ | ⟨e, _⟩ | ⟨e, _⟩
          · exact e
          · exact absurd e h0
          · exact absurd e h0
        subst hue
        go_wp2_with (go_at_call 18; refine hck.mono ?_; rintro e w1 ⟨rfl, hb1⟩)
        go_ret
        exact ⟨rfl, bel_on hb hb1⟩
    · by_cases e1 : (198 : Int) < f.states
      · have hue : u = 2 := by
          rcases HED.out with ⟨e, _⟩ | ⟨_, _, e⟩ | ⟨_, e, _⟩
          · exact absurd rfl e
          · exact e
          · exact absurd (Or.inl e1) e
        subst hue
        go_wp2
        go_ret
        exact ⟨rfl, hb⟩
      · by_cases e2 : (2500 : Int) < (m : Int)
        · have hue : u = 2 := by
            rcases HED.out with ⟨e, _⟩ | ⟨_, _, e⟩ | ⟨_, e, _⟩
            · exact absurd rfl e
            · exact e
            · exact absurd (Or.inr (by omega)) e
          subst hue
          go_wp2
          go_ret
          exact ⟨rfl, hb⟩
        · have hue : u = 0 := by
            rcases HED.out with ⟨e, _⟩ | ⟨_, e, _⟩ | ⟨_, _, e⟩
            · exact absurd rfl e
            · omega
            · exact e
          subst hue
          go_wp2
          go_ret
          exact ⟨rfl, hb⟩

theorem score_fine (f : FstD) (ins outs : List Int) (fin arcs iv ov : Value) (w : World) (hf : ISlice w fin f.final) (ha : ASlice w arcs f.arcs) (hI : ISlice w iv ins) (hO : ISlice w ov outs) (x : Int) (hc : checkD f = 0) (h1 : wordD ins = 0) (h2 : wordD outs = 0) (hx : BestP f ins outs f.start.toNat x) :
    Calls Try.prog 10 #[.agg #[.int .i64 f.states, .int .i64 f.start, fin, arcs], iv, ov] w fun e w' => e = .returned (.tuple #[.int .i64 x, .int .i64 0]) ∧ Below w.heap.size w w' := by
  have hcs : chkS f ins outs = 0 := by unfold chkS; rw [if_pos hc, if_pos h1, h2]
  refine (score_any f ins outs fin arcs iv ov w hf ha hI hO).mono ?_
  rintro e w' ⟨z, c, rfl, ⟨k1, _, k3⟩, hb⟩
  rw [hcs] at k1
  subst k1
  obtain ⟨N, s0, e1, e2, hok, hbest⟩ := k3 rfl
  have hz := (best_path hok).1 hbest
  rw [e2, Int.toNat_natCast] at hx
  rw [hz.unique hx]
  exact ⟨rfl, hb⟩

set_option maxHeartbeats 1000000 in
set_option maxRecDepth 100000 in
theorem joined_bad (X : FstD) (u most want : Int) (h0 : (u == 0) = false) (hs : X.states = 0) (fa : Option Addr) (fn fc : Nat) (ba : Option Addr) (bn bc : Nat) (iv ov : Value) (w : World) :
    Calls Try.prog 30 #[.agg #[.int .i64 X.states, .int .i64 X.start, .slice fa fn fc, .slice ba bn bc], .int .i64 u, .int .i64 u, .int .i64 most, iv, ov, .int .i64 want] w fun e w' => e = .returned (.bool true) ∧ Below w.heap.size w w' := by
  have h0n : (u != 0) = true := by simpa using h0
  rw [hs]
  go_enter Try.func30, Try.ntmps30
  go_wp2
  go_ret
  exact ⟨rfl, bel_up (bel_self w) _⟩

set_option maxHeartbeats 1000000 in
set_option maxRecDepth 100000 in
theorem joined_ok (X : FstD) (ins outs : List Int) (most want : Int) (fa : Option Addr) (fn fc : Nat) (ba : Option Addr) (bn bc : Nat) (ia : Option Addr) (il ic : Nat) (oa : Option Addr) (ol oc : Nat) (w : World) (hc : checkD X = 0) (hm0 : 0 ≤ most) (hm1 : most ≤ 1000) (hm : X.states ≤ most + 2) (h1 : wordD ins = 0) (h2 : wordD outs = 0) (hx : BestP X ins outs X.start.toNat want)
    (hf : ISlice w (.slice fa fn fc) X.final) (ha : ASlice w (.slice ba bn bc) X.arcs) (hI : ISlice w (.slice ia il ic) ins) (hO : ISlice w (.slice oa ol oc) outs) :
    Calls Try.prog 30 #[.agg #[.int .i64 X.states, .int .i64 X.start, .slice fa fn fc, .slice ba bn bc], .int .i64 0, .int .i64 0, .int .i64 most, .slice ia il ic, .slice oa ol oc, .int .i64 want] w fun e w' => e = .returned (.bool true) ∧ Below w.heap.size w w' := by
  obtain ⟨W0, hW0⟩ : ∃ W0, W0 = w.alloc (.cells #[.int .i64 X.states, .int .i64 X.start, .slice fa fn fc, .slice ba bn bc] 25) := ⟨_, rfl⟩
  have hb0 : Below w.heap.size w W0 := by rw [hW0]; exact bel_up (bel_self w) _
  have hbx : W0.heap[w.heap.size]? = some (.cells #[.int .i64 X.states, .int .i64 X.start, .slice fa fn fc, .slice ba bn bc] 25 (0, 0)) := by rw [hW0]; exact heap_alloc_new w _
  have hchk := checkFst_any X _ _ W0 (hf.below hb0) (ha.below hb0)
  rw [hc] at hchk
  have HSC : Hid (∀ W, Below w.heap.size w W → Calls Try.prog 10 #[.agg #[.int .i64 X.states, .int .i64 X.start, .slice fa fn fc, .slice ba bn bc], .slice ia il ic, .slice oa ol oc] W fun e w' => e = .returned (.tuple #[.int .i64 want, .int .i64 0]) ∧ Below W.heap.size W w') := fun W hb => score_fine X ins outs _ _ _ _ W (hf.below hb) (ha.below hb) (hI.below hb) (hO.below hb) want hc h1 h2 hx
  have hnm : ¬ (most + 2 < X.states) := by omega
  have hw2 : IntKind.i64.wrap (most + 2) = most + 2 := wrap_in _ (by omega) (by omega)
  have q0 := box_cell (k := 0) hbx rfl
  have q1 := box_cell (k := 1) hbx rfl
  have q2 := box_cell (k := 2) hbx rfl
  have q3 := box_cell (k := 3) hbx rfl
  have HBX : Hid (∀ W, Below W0.heap.size W0 W → W.heap[w.heap.size]? = some (.cells #[.int .i64 X.states, .int .i64 X.start, .slice fa fn fc, .slice ba bn bc] 25 (0, 0))) := fun W h => heap_bel h hbx
  have HB0 : Hid (Below w.heap.size w W0) := hb0
  clear hf ha hI hO hx hc h1 h2 hbx hb0
  go_enter Try.func30, Try.ntmps30
  go_wp2_with fail
  rw [← hW0]
  clear hW0
  go_wp2_with (first
    | (go_at_call 18
       refine hchk.mono ?_
       rintro e w1 ⟨rfl, hb1⟩
       have hx1 := HBX.out w1 hb1
       have r0 := box_cell (k := 0) hx1 rfl
       have r1 := box_cell (k := 1) hx1 rfl
       have r2 := box_cell (k := 2) hx1 rfl
       have r3 := box_cell (k := 3) hx1 rfl)
    | (go_at_call 10
       refine (HSC.out w1 (bel_on HB0.out hb1)).mono ?_
       rintro e w2 ⟨rfl, hb2⟩))
  go_ret
  exact ⟨rfl, bel_on (bel_on HB0.out hb1) hb2⟩
end Go.Proofs.Yteehgcbjmdideaa

/- What is joined of pieces costs what the pieces do: ways through what is joined are cut where they leave a piece. -/
namespace Go.Proofs.Yteehgcbjmdideaa

/-- a way through arcs from a state and two places of the words -/
def PathF (A : List ArcD) (ins outs : List Int) (s i0 o0 : Nat) : Nat → Nat → Nat → Nat → Int → Prop
  | 0, n, i, o, z => n = s ∧ i = i0 ∧ o = o0 ∧ z = 0
  | h + 1, n, i, o, z => ∃ a ∈ A, ∃ n' i' o' z', PathF A ins outs s i0 o0 h n' i' o' z' ∧ a.src = (n' : Int) ∧ a.dst = (n : Int) ∧ fitB ins i' a.inp = true ∧ fitB outs o' a.out = true ∧ i = usedBy i' a.inp ∧ o = usedBy o' a.out ∧ z = z' + a.wt

theorem path_eq (f : FstD) (ins outs : List Int) (s h : Nat) : ∀ n i o z, PathN f ins outs s h n i o z ↔ PathF f.arcs ins outs s 0 0 h n i o z := by
  induction h with
  | zero => intro n i o z; exact Iff.rfl
  | succ h ih =>
    intro n i o z
    constructor
    · rintro ⟨a, ha, n', i', o', z', hp, hr⟩
      exact ⟨a, ha, n', i', o', z', (ih _ _ _ _).1 hp, hr⟩
    · rintro ⟨a, ha, n', i', o', z', hp, hr⟩
      exact ⟨a, ha, n', i', o', z', (ih _ _ _ _).2 hp, hr⟩

section
variable {A : List ArcD} {ins outs : List Int} {s i0 o0 : Nat}

theorem PathF.ge {h n i o : Nat} {z : Int} (hp : PathF A ins outs s i0 o0 h n i o z) : i0 ≤ i ∧ o0 ≤ o := by
  induction h generalizing n i o z with
  | zero => obtain ⟨_, rfl, rfl, _⟩ := hp; exact ⟨Nat.le_refl _, Nat.le_refl _⟩
  | succ h ih =>
    obtain ⟨a, _, n', i', o', z', hp', _, _, _, _, rfl, rfl, _⟩ := hp
    have := ih hp'
    have := usedBy_ge i' a.inp
    have := usedBy_ge o' a.out
    omega

theorem PathF.le {h n i o : Nat} {z : Int} (hp : PathF A ins outs s i0 o0 h n i o z) (h1 : i0 ≤ ins.length) (h2 : o0 ≤ outs.length) : i ≤ ins.length ∧ o ≤ outs.length := by
  induction h generalizing n i o z with
  | zero => obtain ⟨_, rfl, rfl, _⟩ := hp; exact ⟨h1, h2⟩
  | succ h ih =>
    obtain ⟨a, _, n', i', o', z', hp', _, _, f1, f2, rfl, rfl, _⟩ := hp
    obtain ⟨g1, g2⟩ := ih hp'
    exact ⟨usedBy_le f1 g1, usedBy_le f2 g2⟩

theorem PathF.pos (hA : ∀ a ∈ A, 0 ≤ a.wt) {h n i o : Nat} {z : Int} (hp : PathF A ins outs s i0 o0 h n i o z) : 0 ≤ z := by
  induction h generalizing n i o z with
  | zero => obtain ⟨_, _, _, rfl⟩ := hp; decide
  | succ h ih =>
    obtain ⟨a, ha, n', i', o', z', hp', _, _, _, _, _, _, rfl⟩ := hp
    have := ih hp'
    have := hA a ha
    omega

theorem PathF.lt {N : Nat} (hs : s < N) (hA : ∀ a ∈ A, a.dst < N) {h n i o : Nat} {z : Int} (hp : PathF A ins outs s i0 o0 h n i o z) : n < N := by
  cases h with
  | zero => obtain ⟨rfl, _⟩ := hp; exact hs
  | succ h =>
    obtain ⟨a, ha, _, _, _, _, _, _, hd, _⟩ := hp
    have := hA a ha
    omega

/-- a way goes on by a way through a copy of other arcs -/
theorem path_copy {E : List ArcD} {S I O d : Nat} (hE : ∀ a ∈ A, movA d a ∈ E) {k : Nat} {y : Int} (hk : PathF E ins outs S I O k (s + d) i0 o0 y) {h n i o : Nat} {z : Int} (hp : PathF A ins outs s i0 o0 h n i o z) :
    PathF E ins outs S I O (k + h) (n + d) i o (y + z) := by
  induction h generalizing n i o z with
  | zero =>
    obtain ⟨rfl, rfl, rfl, rfl⟩ := hp
    rw [Int.add_zero]
    exact hk
  | succ h ih =>
    obtain ⟨a, ha, n', i', o', z', hp', e1, e2, f1, f2, e3, e4, e5⟩ := hp
    refine ⟨movA d a, hE a ha, n' + d, i', o', y + z', ih hp', ?_, ?_, f1, f2, e3, e4, ?_⟩
    · show a.src + (d : Int) = _
      omega
    · show a.dst + (d : Int) = _
      omega
    · show y + z = y + z' + a.wt
      omega

theorem movA_zero (a : ArcD) : movA ((0 : Nat) : Int) a = a := by
  unfold movA
  simp

/-- one silent arc more -/
theorem path_more {h n m : Nat} {i o : Nat} {z c : Int} (hp : PathF A ins outs s i0 o0 h n i o z) (ha : (⟨n, 0, 0, m, c⟩ : ArcD) ∈ A) : PathF A ins outs s i0 o0 (h + 1) m i o (z + c) :=
  ⟨_, ha, n, i, o, z, hp, rfl, rfl, rfl, rfl, rfl, rfl, rfl⟩

/-- the rest of two words -/
theorem fit_drop (l : List Int) (I k : Nat) (x : Int) : fitB (l.drop I) k x = fitB l (I + k) x := by
  have e1 : decide (k < (l.drop I).length) = decide (I + k < l.length) := by
    rw [List.length_drop]
    exact decide_eq_decide.2 (by omega)
  have e2 : (l.drop I).getD k 0 = l.getD (I + k) 0 := by
    simp [List.getD, List.getElem?_drop]
  unfold fitB
  rw [e1, e2]
theorem used_add (I k : Nat) (x : Int) : usedBy (I + k) x = I + usedBy k x := by
  unfold usedBy
  split <;> omega

theorem path_drop {I O h : Nat} : ∀ {n i o : Nat} {z : Int}, PathF A (ins.drop I) (outs.drop O) s i0 o0 h n i o z ↔ PathF A ins outs s (I + i0) (O + o0) h n (I + i) (O + o) z := by
  induction h with
  | zero =>
    intro n i o z
    constructor
    · rintro ⟨rfl, rfl, rfl, rfl⟩; exact ⟨rfl, rfl, rfl, rfl⟩
    · rintro ⟨h1, h2, h3, h4⟩; exact ⟨h1, by omega, by omega, h4⟩
  | succ h ih =>
    intro n i o z
    constructor
    · rintro ⟨a, ha, n', i', o', z', hp, e1, e2, f1, f2, rfl, rfl, e5⟩
      exact ⟨a, ha, n', I + i', O + o', z', ih.1 hp, e1, e2, by rw [← fit_drop]; exact f1, by rw [← fit_drop]; exact f2, (used_add _ _ _).symm, (used_add _ _ _).symm, e5⟩
    · rintro ⟨a, ha, n', i', o', z', hp, e1, e2, f1, f2, e3, e4, e5⟩
      obtain ⟨g1, g2⟩ := hp.ge
      obtain ⟨i1, rfl⟩ : ∃ k, i' = I + k := ⟨i' - I, by omega⟩
      obtain ⟨o1, rfl⟩ : ∃ k, o' = O + k := ⟨o' - O, by omega⟩
      rw [used_add] at e3 e4
      exact ⟨a, ha, n', i1, o1, z', ih.2 hp, e1, e2, by rw [fit_drop]; exact f1, by rw [fit_drop]; exact f2, by omega, by omega, e5⟩
end

/-- what some way from two places to two others costs, its end too -/
def PieceP (f : FstD) (ins outs : List Int) (s i0 o0 i o : Nat) (x : Int) : Prop :=
  ∃ h n z, PathF f.arcs ins outs s i0 o0 h n i o z ∧ 0 ≤ gI f.final n ∧ x = z + gI f.final n

theorem tot_piece (f : FstD) (ins outs : List Int) (s : Nat) (x : Int) : TotP f ins outs s x ↔ PieceP f ins outs s 0 0 ins.length outs.length x := by
  constructor
  · rintro ⟨h, n, z, hp, hr⟩; exact ⟨h, n, z, (path_eq ..).1 hp, hr⟩
  · rintro ⟨h, n, z, hp, hr⟩; exact ⟨h, n, z, (path_eq ..).2 hp, hr⟩

theorem piece_drop (f : FstD) (ins outs : List Int) (s I O i0 o0 i o : Nat) (x : Int) : PieceP f (ins.drop I) (outs.drop O) s i0 o0 i o x ↔ PieceP f ins outs s (I + i0) (O + o0) (I + i) (O + o) x := by
  constructor
  · rintro ⟨h, n, z, hp, hr⟩; exact ⟨h, n, z, path_drop.1 hp, hr⟩
  · rintro ⟨h, n, z, hp, hr⟩; exact ⟨h, n, z, path_drop.2 hp, hr⟩

/-- the least of some costs, or -1 where there is none -/
def Mn (S : Int → Prop) (x : Int) : Prop := (x = -1 ∧ ∀ y, ¬ S y) ∨ (0 ≤ x ∧ S x ∧ ∀ y, S y → x ≤ y)

theorem best_mn {f : FstD} {ins outs : List Int} {s : Nat} {x : Int} : BestP f ins outs s x ↔ Mn (TotP f ins outs s) x := Iff.rfl
theorem Mn.cong {S T : Int → Prop} {x : Int} (h : Mn S x) (he : ∀ y, S y ↔ T y) : Mn T x := by
  rcases h with ⟨h1, h2⟩ | ⟨h1, h2, h3⟩
  · exact Or.inl ⟨h1, fun y hy => h2 y ((he y).2 hy)⟩
  · exact Or.inr ⟨h1, (he x).1 h2, fun y hy => h3 y ((he y).2 hy)⟩
theorem Mn.unique {S : Int → Prop} {x y : Int} (h : Mn S x) (k : Mn S y) : x = y := by
  rcases h with ⟨h1, h2⟩ | ⟨h1, h2, h3⟩
  · rcases k with ⟨k1, _⟩ | ⟨_, k2, _⟩
    · omega
    · exact absurd k2 (h2 _)
  · rcases k with ⟨_, k2⟩ | ⟨_, k2, k3⟩
    · exact absurd h2 (k2 _)
    · have := h3 _ k2
      have := k3 _ h2
      omega
theorem Mn.ge {S : Int → Prop} {x : Int} (h : Mn S x) : -1 ≤ x := by
  rcases h with ⟨h1, _⟩ | ⟨h1, _⟩ <;> omega
theorem Mn.none {S : Int → Prop} (h : ∀ y, ¬ S y) : Mn S (-1) := Or.inl ⟨rfl, h⟩
theorem Mn.less {S T : Int → Prop} {a b : Int} (h : Mn S a) (k : Mn T b) : Mn (fun y => S y ∨ T y) (lessC a b) := by
  unfold lessC
  rcases h with ⟨rfl, h2⟩ | ⟨h1, h2, h3⟩
  · rw [if_pos (by decide)]
    exact k.cong fun y => ⟨Or.inr, fun q => q.resolve_left (h2 y)⟩
  · rw [if_neg (by omega)]
    rcases k with ⟨rfl, k2⟩ | ⟨k1, k2, k3⟩
    · rw [if_pos (by omega)]
      exact Or.inr ⟨h1, Or.inl h2, fun y hy => h3 y (hy.resolve_right (k2 y))⟩
    · split
      · exact Or.inr ⟨h1, Or.inl h2, fun y hy => by
          rcases hy with q | q
          · exact h3 y q
          · have := k3 y q; omega⟩
      · exact Or.inr ⟨k1, Or.inr k2, fun y hy => by
          rcases hy with q | q
          · have := h3 y q; omega
          · exact k3 y q⟩
theorem Mn.plus {S T : Int → Prop} {a b : Int} (h : Mn S a) (k : Mn T b) : Mn (fun y => ∃ u v, S u ∧ T v ∧ y = u + v) (plusC a b) := by
  unfold plusC
  rcases h with ⟨rfl, h2⟩ | ⟨h1, h2, h3⟩
  · rw [if_pos (by omega)]
    exact Mn.none fun y ⟨u, v, hu, _⟩ => h2 u hu
  · rcases k with ⟨rfl, k2⟩ | ⟨k1, k2, k3⟩
    · rw [if_pos (by omega)]
      exact Mn.none fun y ⟨u, v, _, hv, _⟩ => k2 v hv
    · rw [if_neg (by omega)]
      exact Or.inr ⟨by omega, ⟨a, b, h2, k2, rfl⟩, fun y ⟨u, v, hu, hv, e⟩ => by have := h3 u hu; have := k3 v hv; omega⟩

/-- arcs of which no two differ in the weight alone all stay -/
theorem least_all {l : List ArcD} (h : ∀ a ∈ l, ∀ b ∈ l, eqK a b → a.wt = b.wt) (a : ArcD) : a ∈ leastL l ↔ a ∈ l := by
  rw [(leastL_min l).mem a]
  exact ⟨fun q => q.1, fun q => ⟨q, fun b hb he => by rw [h a q b hb he]; exact Int.le_refl _⟩⟩

/-- what Check passes, in numbers -/
theorem Fine.nums {f : FstD} (k : Fine f) : ∃ N s0 : Nat, f.states = N ∧ f.start = s0 ∧ s0 < N ∧ f.final.length = N ∧ N ≤ 200 ∧ ∀ a ∈ f.arcs, (0 ≤ a.src ∧ a.src < N) ∧ (0 ≤ a.dst ∧ a.dst < N) ∧ (0 ≤ a.inp ∧ a.inp ≤ 9) ∧ (0 ≤ a.out ∧ a.out ≤ 9) ∧ (0 ≤ a.wt ∧ a.wt ≤ 1000000000) := by
  have h1 := k.s1
  have h2 := k.s2
  have h3 := k.b1
  have h4 := k.b2
  have h5 := k.len
  refine ⟨f.states.toNat, f.start.toNat, by omega, by omega, by omega, by omega, by omega, fun a ha => ?_⟩
  have q := k.arcs a ha
  have q1 := q.src
  have q2 := q.dst
  have q3 := q.inp
  have q4 := q.out
  have q5 := q.wt
  simp [inB] at q1 q2 q3 q4 q5
  omega

theorem gI_left {xs ys : List Int} {n : Nat} (h : n < xs.length) : gI (xs ++ ys) n = gI xs n := by
  unfold gI
  simp [List.getD, List.getElem?_append_left h]
theorem gI_right {xs ys : List Int} {n : Nat} : gI (xs ++ ys) (n + xs.length) = gI ys n := by
  unfold gI
  simp only [List.getD]
  rw [List.getElem?_append_right (Nat.le_add_left _ _), Nat.add_sub_cancel]
end Go.Proofs.Yteehgcbjmdideaa

/- Either, Behind and Again: right, and they cost what their pieces do. -/
namespace Go.Proofs.Yteehgcbjmdideaa

def OneW (l : List ArcD) : Prop := ∀ a ∈ l, ∀ b ∈ l, eqK a b → a.wt = b.wt
theorem OneW.app {l m : List ArcD} (h : OneW l) (k : OneW m) (hx : ∀ a ∈ l, ∀ b ∈ m, ¬ eqK a b) : OneW (l ++ m) := by
  intro a ha b hb he
  rcases List.mem_append.1 ha with p | p
  · rcases List.mem_append.1 hb with q | q
    · exact h a p b q he
    · exact absurd he (hx a p b q)
  · rcases List.mem_append.1 hb with q | q
    · exact absurd he.symm (hx b q a p)
    · exact k a p b q he
theorem OneW.sorted {l : List ArcD} (ho : l.Pairwise (fun a b => aheadB a b = true)) : OneW l := fun a ha b hb he => by rw [sorted_eq ho ha hb he]
theorem OneW.moved {l : List ArcD} (d : Int) (ho : l.Pairwise (fun a b => aheadB a b = true)) : OneW (l.map (movA d)) := by
  intro a ha b hb he
  obtain ⟨c, hc, rfl⟩ := List.mem_map.1 ha
  obtain ⟨e, he', rfl⟩ := List.mem_map.1 hb
  have : eqK c e := by
    obtain ⟨h1, h2, h3, h4⟩ := he
    have h1' : c.src + d = e.src + d := h1
    have h4' : c.dst + d = e.dst + d := h4
    exact ⟨by omega, h2, h3, by omega⟩
  rw [sorted_eq ho hc he' this]
theorem OneW.one (a : ArcD) : OneW [a] := by
  intro b hb c hc _
  rw [List.mem_singleton.1 hb, List.mem_singleton.1 hc]

theorem mem_ends {xs : List Int} {N : Nat} {x : Nat × Int} : x ∈ endsU xs N ↔ x.1 < N ∧ x.2 = xs.getD x.1 0 ∧ x.2 ≠ -1 := by
  induction N with
  | zero => simp [endsU]
  | succ N ih =>
    unfold endsU
    rw [List.mem_append, ih]
    split
    · rename_i h
      constructor
      · rintro (⟨h1, h2, h3⟩ | h1)
        · exact ⟨by omega, h2, h3⟩
        · cases h1
      · rintro ⟨h1, h2, h3⟩
        refine Or.inl ⟨?_, h2, h3⟩
        rcases Nat.lt_or_ge x.1 N with q | q
        · exact q
        · have : x.1 = N := by omega
          rw [this, h] at h2
          exact absurd h2 h3
    · rename_i h
      constructor
      · rintro (⟨h1, h2, h3⟩ | h1)
        · exact ⟨by omega, h2, h3⟩
        · rw [List.mem_singleton.1 h1]
          exact ⟨Nat.lt_succ_self _, rfl, h⟩
      · rintro ⟨h1, h2, h3⟩
        rcases Nat.lt_or_ge x.1 N with q | q
        · exact Or.inl ⟨q, h2, h3⟩
        · refine Or.inr (List.mem_singleton.2 ?_)
          have e : x.1 = N := by omega
          rw [e] at h2
          exact Prod.ext e h2

theorem gI_off (xs : List Int) (k n : Nat) : gI (xs.set k (-1)) n = if k = n then -1 else gI xs n := by
  unfold gI
  simp only [List.getD, List.getElem?_set]
  split
  · split <;> rfl
  · rfl

theorem gI_goX (pre : List (Nat × Int)) : ∀ (xs : List Int) (n : Nat), gI (goX xs pre) n = if n ∈ pre.map Prod.fst then -1 else gI xs n := by
  induction pre with
  | nil => intro xs n; simp [goX]
  | cons x pre ih =>
    intro xs n
    have : goX xs (x :: pre) = goX (xs.set x.1 (-1)) pre := rfl
    rw [this, ih, gI_off, List.map_cons]
    by_cases h1 : n ∈ pre.map Prod.fst
    · rw [if_pos h1, if_pos (show n ∈ x.1 :: pre.map Prod.fst from List.mem_cons_of_mem _ h1)]
    · rw [if_neg h1]
      by_cases h2 : x.1 = n
      · rw [if_pos h2, if_pos (show n ∈ x.1 :: pre.map Prod.fst by rw [← h2]; exact List.mem_cons_self)]
      · rw [if_neg h2, if_neg (fun h => by
          rcases List.mem_cons.1 h with q | q
          · exact h2 q.symm
          · exact h1 q)]

theorem getD_gI {xs : List Int} {n : Nat} (h : n < xs.length) : xs.getD n 0 = gI xs n := by
  unfold gI
  simp [List.getD, h]

/-- where the first piece could end, nothing ends any more -/
theorem ends_gone {xs ys : List Int} {n : Nat} (h : n < xs.length) : gI (goX (xs ++ ys) (endsU xs xs.length)) n = -1 := by
  rw [gI_goX]
  split
  · rfl
  · rename_i hn
    rw [gI_left h]
    by_cases e : gI xs n = -1
    · exact e
    · exact absurd (List.mem_map.2 ⟨(n, gI xs n), mem_ends.2 ⟨h, (getD_gI h).symm, e⟩, rfl⟩) hn
theorem ends_kept {xs ys : List Int} {n : Nat} : gI (goX (xs ++ ys) (endsU xs xs.length)) (n + xs.length) = gI ys n := by
  rw [gI_goX, if_neg, gI_right]
  intro h
  obtain ⟨x, hx, e⟩ := List.mem_map.1 h
  have := (mem_ends.1 hx).1
  omega

theorem mem_goA {ars : List ArcD} {to : Int} {pre : List (Nat × Int)} {a : ArcD} : a ∈ goA ars to pre ↔ a ∈ ars ∨ ∃ x ∈ pre, a = ⟨x.1, 0, 0, to, x.2⟩ := by
  unfold goA
  rw [List.mem_append, List.mem_map]
  constructor
  · rintro (h | ⟨x, hx, rfl⟩)
    · exact Or.inl h
    · exact Or.inr ⟨x, hx, rfl⟩
  · rintro (h | ⟨x, hx, rfl⟩)
    · exact Or.inl h
    · exact Or.inr ⟨x, hx, rfl⟩

theorem goX_mem {x : Int} (pre : List (Nat × Int)) : ∀ {xs : List Int}, x ∈ goX xs pre → x = -1 ∨ x ∈ xs := by
  induction pre with
  | nil => intro xs h; exact Or.inr h
  | cons y pre ih =>
    intro xs h
    rcases ih (xs := xs.set y.1 (-1)) h with q | q
    · exact Or.inl q
    · rcases List.mem_or_eq_of_mem_set q with q | q
      · exact Or.inr q
      · exact Or.inl q

theorem arc_in {N : Nat} {a : ArcD} (h1 : 0 ≤ a.src ∧ a.src < N) (h2 : 0 ≤ a.dst ∧ a.dst < N) (h3 : 0 ≤ a.inp ∧ a.inp ≤ 9) (h4 : 0 ≤ a.out ∧ a.out ≤ 9) (h5 : 0 ≤ a.wt ∧ a.wt ≤ 1000000000) {st : Int} (hst : st = N) : ArcOk st a := by
  subst hst
  exact ⟨by simp [inB]; omega, by simp [inB]; omega, by simp [inB]; omega, by simp [inB]; omega, by simp [inB]; omega⟩

theorem arc_new {K x y : Nat} {c st : Int} (hx : x < K) (hy : y < K) (h0 : 0 ≤ c) (h1 : c ≤ 1000000000) (hst : st = K) : ArcOk st ⟨(x : Int), 0, 0, (y : Int), c⟩ :=
  arc_in (N := K) ⟨Int.natCast_nonneg _, Int.ofNat_lt.2 hx⟩ ⟨Int.natCast_nonneg _, Int.ofNat_lt.2 hy⟩ ⟨Int.le_refl 0, by show (0 : Int) ≤ 9; decide⟩ ⟨Int.le_refl 0, by show (0 : Int) ≤ 9; decide⟩ ⟨h0, h1⟩ hst
theorem arc_mv {K N M : Nat} {b : ArcD} {st : Int} (h : (0 ≤ b.src ∧ b.src < M) ∧ (0 ≤ b.dst ∧ b.dst < M) ∧ (0 ≤ b.inp ∧ b.inp ≤ 9) ∧ (0 ≤ b.out ∧ b.out ≤ 9) ∧ (0 ≤ b.wt ∧ b.wt ≤ 1000000000)) (hK : N + M ≤ K) (hst : st = K) : ArcOk st (movA (N : Int) b) := by
  refine arc_in (a := movA (N : Int) b) (N := K) ?_ ?_ h.2.2.1 h.2.2.2.1 h.2.2.2.2 hst
  · show 0 ≤ b.src + (N : Int) ∧ b.src + (N : Int) < K
    omega
  · show 0 ≤ b.dst + (N : Int) ∧ b.dst + (N : Int) < K
    omega

theorem Fine.end_pos {f : FstD} (kf : Fine f) {n : Nat} (h : gI f.final n ≠ -1) : 0 ≤ gI f.final n ∧ gI f.final n ≤ 1000000000 := by
  rcases Nat.lt_or_ge n f.final.length with q | q
  · have e : gI f.final n = f.final[n] := by unfold gI; simp [List.getD, q]
    rw [e] at h ⊢
    exact (kf.fin _ (List.getElem_mem q)).resolve_left h
  · exact absurd (by unfold gI; simp [List.getD, List.getElem?_eq_none q]) h

section
variable {f g : FstD} (kf : Fine f) (kg : Fine g) {N M s0 t0 : Nat} (hN : f.states = N) (hM : g.states = M) (hs : f.start = s0) (ht : g.start = t0) {ins outs : List Int}
include kf hN hs

theorem nums_of : s0 < N ∧ f.final.length = N ∧ N ≤ 200 ∧ ∀ a ∈ f.arcs, (0 ≤ a.src ∧ a.src < N) ∧ (0 ≤ a.dst ∧ a.dst < N) ∧ (0 ≤ a.inp ∧ a.inp ≤ 9) ∧ (0 ≤ a.out ∧ a.out ≤ 9) ∧ (0 ≤ a.wt ∧ a.wt ≤ 1000000000) := by
  obtain ⟨N', s', h1, h2, h3, h4, h5, h6⟩ := kf.nums
  have e1 : N' = N := by omega
  have e2 : s' = s0 := by omega
  subst e1 e2
  exact ⟨h3, h4, h5, h6⟩

include kg hM ht

theorem both_one : OneW (f.arcs ++ g.arcs.map (movA f.states)) := by
  obtain ⟨_, _, _, hA⟩ := nums_of kf hN hs
  obtain ⟨_, _, _, hB⟩ := nums_of kg hM ht
  refine (OneW.sorted kf.ord).app (OneW.moved _ kg.ord) (fun a ha b hb he => ?_)
  obtain ⟨c, hc, rfl⟩ := List.mem_map.1 hb
  have h1 : a.src = c.src + f.states := he.1
  have := hA a ha
  have := hB c hc
  omega

theorem either_arcs (a : ArcD) : a ∈ (eitherD f g).arcs ↔ a ∈ f.arcs ∨ (∃ b ∈ g.arcs, a = movA N b) ∨ a = ⟨((N + M : Nat) : Int), 0, 0, s0, 0⟩ ∨ a = ⟨((N + M : Nat) : Int), 0, 0, ((t0 + N : Nat) : Int), 0⟩ := by
  obtain ⟨hs1, _, _, hA⟩ := nums_of kf hN hs
  obtain ⟨ht1, _, _, hB⟩ := nums_of kg hM ht
  have h0 := both_one kf kg hN hM hs ht
  have hsrc : ∀ a ∈ f.arcs ++ g.arcs.map (movA f.states), a.src < ((N + M : Nat) : Int) := fun a ha => by
    rcases List.mem_append.1 ha with q | q
    · have := hA a q; omega
    · obtain ⟨c, hc, rfl⟩ := List.mem_map.1 q
      have := hB c hc
      show c.src + f.states < _
      omega
  have h1 : OneW (f.arcs ++ g.arcs.map (movA f.states) ++ [⟨f.states + g.states, 0, 0, f.start, 0⟩]) := h0.app (OneW.one _) (fun a ha b hb he => by
    rw [List.mem_singleton.1 hb] at he
    have e : a.src = f.states + g.states := he.1
    have := hsrc a ha
    omega)
  have h2 : OneW (f.arcs ++ g.arcs.map (movA f.states) ++ [⟨f.states + g.states, 0, 0, f.start, 0⟩] ++ [⟨f.states + g.states, 0, 0, g.start + f.states, 0⟩]) := h1.app (OneW.one _) (fun a ha b hb he => by
    rw [List.mem_singleton.1 hb] at he
    have e : a.src = f.states + g.states := he.1
    have e4 : a.dst = g.start + f.states := he.2.2.2
    rcases List.mem_append.1 ha with q | q
    · have := hsrc a q
      omega
    · rw [List.mem_singleton.1 q] at e4
      have e4' : f.start = g.start + f.states := e4
      omega)
  show a ∈ leastL _ ↔ _
  rw [least_all h2, List.mem_append, List.mem_append, List.mem_append, List.mem_map, List.mem_singleton, List.mem_singleton, hN, hM, hs, ht]
  have c1 : (N : Int) + M = ((N + M : Nat) : Int) := by omega
  have c2 : (t0 : Int) + N = ((t0 + N : Nat) : Int) := by omega
  rw [c1, c2]
  constructor
  · rintro (((h | ⟨b, hb, rfl⟩) | h) | h)
    · exact Or.inl h
    · exact Or.inr (Or.inl ⟨b, hb, rfl⟩)
    · exact Or.inr (Or.inr (Or.inl h))
    · exact Or.inr (Or.inr (Or.inr h))
  · rintro (h | ⟨b, hb, rfl⟩ | h | h)
    · exact Or.inl (Or.inl (Or.inl h))
    · exact Or.inl (Or.inl (Or.inr ⟨b, hb, rfl⟩))
    · exact Or.inl (Or.inr h)
    · exact Or.inr h

theorem either_path {h : Nat} : ∀ {n i o : Nat} {z : Int}, PathF (eitherD f g).arcs ins outs (N + M) 0 0 h n i o z →
    (n = N + M ∧ i = 0 ∧ o = 0 ∧ z = 0) ∨ (n < N ∧ ∃ h', PathF f.arcs ins outs s0 0 0 h' n i o z) ∨ (∃ m h', n = m + N ∧ m < M ∧ PathF g.arcs ins outs t0 0 0 h' m i o z) := by
  obtain ⟨hs1, _, _, hA⟩ := nums_of kf hN hs
  obtain ⟨ht1, _, _, hB⟩ := nums_of kg hM ht
  induction h with
  | zero => rintro n i o z ⟨rfl, rfl, rfl, rfl⟩; exact Or.inl ⟨rfl, rfl, rfl, rfl⟩
  | succ h ih =>
    rintro n i o z ⟨a, ha, n', i', o', z', hp, e1, e2, f1, f2, rfl, rfl, rfl⟩
    rcases (either_arcs kf kg hN hM hs ht a).1 ha with q | ⟨b, hb, rfl⟩ | rfl | rfl
    · have := hA a q
      rcases ih hp with ⟨rfl, _⟩ | ⟨h1, h', h2⟩ | ⟨m, h', rfl, h1, h2⟩
      · omega
      · exact Or.inr (Or.inl ⟨by omega, h' + 1, a, q, n', i', o', z', h2, e1, e2, f1, f2, rfl, rfl, rfl⟩)
      · omega
    · have := hB b hb
      have e1' : b.src + (N : Int) = n' := e1
      have e2' : b.dst + (N : Int) = n := e2
      rcases ih hp with ⟨rfl, _⟩ | ⟨h1, h', h2⟩ | ⟨m, h', rfl, h1, h2⟩
      · omega
      · omega
      · exact Or.inr (Or.inr ⟨n - N, h' + 1, by omega, by omega, b, hb, m, i', o', z', h2, by omega, by omega, f1, f2, rfl, rfl, rfl⟩)
    · have e1' : ((N + M : Nat) : Int) = n' := e1
      have e2' : (s0 : Int) = n := e2
      rcases ih hp with ⟨rfl, rfl, rfl, rfl⟩ | ⟨h1, h', h2⟩ | ⟨m, h', rfl, h1, h2⟩
      · exact Or.inr (Or.inl ⟨by omega, 0, by omega, rfl, rfl, rfl⟩)
      · omega
      · omega
    · have e1' : ((N + M : Nat) : Int) = n' := e1
      have e2' : ((t0 + N : Nat) : Int) = n := e2
      rcases ih hp with ⟨rfl, rfl, rfl, rfl⟩ | ⟨h1, h', h2⟩ | ⟨m, h', rfl, h1, h2⟩
      · exact Or.inr (Or.inr ⟨t0, 0, by omega, ht1, rfl, rfl, rfl, rfl⟩)
      · omega
      · omega

theorem either_tot (y : Int) : TotP (eitherD f g) ins outs (N + M) y ↔ TotP f ins outs s0 y ∨ TotP g ins outs t0 y := by
  obtain ⟨hs1, hl1, _, hA⟩ := nums_of kf hN hs
  obtain ⟨ht1, hl2, _, hB⟩ := nums_of kg hM ht
  rw [tot_piece, tot_piece, tot_piece]
  have hfin : ∀ n, gI (eitherD f g).final n = gI (f.final ++ g.final ++ [-1]) n := fun n => rfl
  have g1 : ∀ n, n < N → gI (eitherD f g).final n = gI f.final n := fun n hn => by
    rw [hfin, List.append_assoc, gI_left (by omega)]
  have g2 : ∀ m, m < M → gI (eitherD f g).final (m + N) = gI g.final m := fun m hm => by
    rw [hfin, List.append_assoc, ← hl1, gI_right, gI_left (by omega)]
  have g3 : gI (eitherD f g).final (N + M) = -1 := by
    rw [hfin]
    have : N + M = 0 + (f.final ++ g.final).length := by rw [List.length_append]; omega
    rw [this, gI_right]
    rfl
  constructor
  · rintro ⟨h, n, z, hp, hf, rfl⟩
    rcases either_path kf kg hN hM hs ht hp with ⟨rfl, _⟩ | ⟨h1, h', h2⟩ | ⟨m, h', rfl, h1, h2⟩
    · rw [g3] at hf; omega
    · rw [g1 n h1] at hf ⊢
      exact Or.inl ⟨h', n, z, h2, hf, rfl⟩
    · rw [g2 m h1] at hf ⊢
      exact Or.inr ⟨h', m, z, h2, hf, rfl⟩
  · have hE := either_arcs kf kg hN hM hs ht
    have p0 : PathF (eitherD f g).arcs ins outs (N + M) 0 0 0 (N + M) 0 0 0 := ⟨rfl, rfl, rfl, rfl⟩
    rintro (⟨h, n, z, hp, hf, rfl⟩ | ⟨h, n, z, hp, hf, rfl⟩)
    · have hn := hp.lt (N := N) hs1 (fun a ha => (hA a ha).2.1.2)
      have p1 := path_more (m := s0) p0 ((hE _).2 (Or.inr (Or.inr (Or.inl rfl))))
      have p2 := path_copy (d := 0) (fun a ha => by rw [movA_zero]; exact (hE _).2 (Or.inl ha)) p1 hp
      have e : (0 : Int) + 0 + z = z := by omega
      rw [e] at p2
      exact ⟨_, n, z, p2, by rw [g1 n hn]; exact hf, by rw [g1 n hn]⟩
    · have hn := hp.lt (N := M) ht1 (fun a ha => (hB a ha).2.1.2)
      have p1 := path_more (m := t0 + N) p0 ((hE _).2 (Or.inr (Or.inr (Or.inr rfl))))
      have p2 := path_copy (d := N) (fun a ha => (hE _).2 (Or.inr (Or.inl ⟨a, ha, rfl⟩))) p1 hp
      have e : (0 : Int) + 0 + z = z := by omega
      rw [e] at p2
      exact ⟨_, n + N, z, p2, by rw [g2 n hn]; exact hf, by rw [g2 n hn]⟩

theorem either_right (h3 : f.states + g.states ≤ 198) (h4 : f.arcs.length + g.arcs.length ≤ 2500) : checkD (eitherD f g) = 0 := by
  obtain ⟨hs1, hl1, _, hA⟩ := nums_of kf hN hs
  obtain ⟨ht1, hl2, _, hB⟩ := nums_of kg hM ht
  refine Fine.check ⟨?_, ?_, ?_, ?_, ?_, ?_, ?_, ?_, (leastL_min _).ord⟩
  · show 1 ≤ f.states + g.states + 1; omega
  · show f.states + g.states + 1 ≤ 200; omega
  · show 0 ≤ f.states + g.states; omega
  · show f.states + g.states < f.states + g.states + 1; omega
  · show ((f.final ++ g.final ++ [-1]).length : Int) = f.states + g.states + 1
    rw [List.length_append, List.length_append, hl1, hl2]
    simp
    omega
  · intro x hx
    have hx' : x ∈ f.final ++ g.final ++ [-1] := hx
    rcases List.mem_append.1 hx' with q | q
    · rcases List.mem_append.1 q with q | q
      · exact kf.fin x q
      · exact kg.fin x q
    · exact Or.inl (List.mem_singleton.1 q)
  · refine Nat.le_trans (least_len _) ?_
    rw [List.length_append, List.length_append, List.length_append, List.length_map]
    simp
    omega
  · intro a ha
    have hst : (eitherD f g).states = ((N + M + 1 : Nat) : Int) := by show f.states + g.states + 1 = _; omega
    rcases (either_arcs kf kg hN hM hs ht a).1 ha with q | ⟨b, hb, rfl⟩ | rfl | rfl
    · have := hA a q
      exact arc_in (N := N + M + 1) (by omega) (by omega) (by omega) (by omega) (by omega) hst
    · exact arc_mv (hB b hb) (by omega) hst
    · exact arc_new (by omega) (by omega) (by omega) (by omega) hst
    · exact arc_new (by omega) (by omega) (by omega) (by omega) hst

theorem behind_arcs (a : ArcD) : a ∈ (behindD f g).arcs ↔ a ∈ f.arcs ∨ (∃ b ∈ g.arcs, a = movA N b) ∨ ∃ n : Nat, n < N ∧ gI f.final n ≠ -1 ∧ a = ⟨(n : Int), 0, 0, ((t0 + N : Nat) : Int), gI f.final n⟩ := by
  obtain ⟨hs1, hl1, _, hA⟩ := nums_of kf hN hs
  obtain ⟨ht1, _, _, hB⟩ := nums_of kg hM ht
  have h0 := both_one kf kg hN hM hs ht
  have h2 : OneW (goA (f.arcs ++ g.arcs.map (movA f.states)) (g.start + f.states) (endsU f.final f.final.length)) := by
    refine h0.app ?_ (fun a ha b hb he => ?_)
    · intro a ha b hb he
      obtain ⟨x, hx, rfl⟩ := List.mem_map.1 ha
      obtain ⟨y, hy, rfl⟩ := List.mem_map.1 hb
      have e : (x.1 : Int) = y.1 := he.1
      have e' : x.1 = y.1 := by omega
      show x.2 = y.2
      rw [(mem_ends.1 hx).2.1, (mem_ends.1 hy).2.1, e']
    · obtain ⟨y, hy, rfl⟩ := List.mem_map.1 hb
      have e1 : a.src = (y.1 : Int) := he.1
      have e4 : a.dst = g.start + f.states := he.2.2.2
      have := (mem_ends.1 hy).1
      rcases List.mem_append.1 ha with q | q
      · have := hA a q; omega
      · obtain ⟨c, hc, rfl⟩ := List.mem_map.1 q
        have := hB c hc
        have e1' : c.src + f.states = (y.1 : Int) := e1
        omega
  show a ∈ leastL _ ↔ _
  rw [least_all h2, mem_goA, List.mem_append, List.mem_map, hN, ht]
  have c2 : (t0 : Int) + N = ((t0 + N : Nat) : Int) := by omega
  rw [c2, hl1]
  constructor
  · rintro ((h | ⟨b, hb, rfl⟩) | ⟨x, hx, rfl⟩)
    · exact Or.inl h
    · exact Or.inr (Or.inl ⟨b, hb, rfl⟩)
    · obtain ⟨h1, h2, h3⟩ := mem_ends.1 hx
      rw [getD_gI (by omega)] at h2
      rw [h2] at h3 ⊢
      exact Or.inr (Or.inr ⟨x.1, h1, h3, rfl⟩)
  · rintro (h | ⟨b, hb, rfl⟩ | ⟨n, hn, h3, rfl⟩)
    · exact Or.inl (Or.inl h)
    · exact Or.inl (Or.inr ⟨b, hb, rfl⟩)
    · exact Or.inr ⟨(n, gI f.final n), mem_ends.2 ⟨hn, (getD_gI (by omega)).symm, h3⟩, rfl⟩

theorem behind_path {h : Nat} : ∀ {n i o : Nat} {z : Int}, PathF (behindD f g).arcs ins outs s0 0 0 h n i o z →
    (n < N ∧ ∃ h', PathF f.arcs ins outs s0 0 0 h' n i o z) ∨ (∃ m h' i1 o1 u v, n = m + N ∧ m < M ∧ PieceP f ins outs s0 0 0 i1 o1 u ∧ PathF g.arcs ins outs t0 i1 o1 h' m i o v ∧ z = u + v) := by
  obtain ⟨hs1, _, _, hA⟩ := nums_of kf hN hs
  obtain ⟨ht1, _, _, hB⟩ := nums_of kg hM ht
  induction h with
  | zero => rintro n i o z ⟨rfl, rfl, rfl, rfl⟩; exact Or.inl ⟨hs1, 0, rfl, rfl, rfl, rfl⟩
  | succ h ih =>
    rintro n i o z ⟨a, ha, n', i', o', z', hp, e1, e2, f1, f2, rfl, rfl, rfl⟩
    rcases (behind_arcs kf kg hN hM hs ht a).1 ha with q | ⟨b, hb, rfl⟩ | ⟨k, hk, hk1, rfl⟩
    · have := hA a q
      rcases ih hp with ⟨h1, h', h2⟩ | ⟨m, h', i1, o1, u, v, rfl, h1, h2, h3, h4⟩
      · exact Or.inl ⟨by omega, h' + 1, a, q, n', i', o', z', h2, e1, e2, f1, f2, rfl, rfl, rfl⟩
      · omega
    · have := hB b hb
      have e1' : b.src + (N : Int) = n' := e1
      have e2' : b.dst + (N : Int) = n := e2
      rcases ih hp with ⟨h1, h', h2⟩ | ⟨m, h', i1, o1, u, v, rfl, h1, h2, h3, rfl⟩
      · omega
      · exact Or.inr ⟨n - N, h' + 1, i1, o1, u, v + b.wt, by omega, by omega, h2, ⟨b, hb, m, i', o', v, h3, by omega, by omega, f1, f2, rfl, rfl, rfl⟩, by show u + v + b.wt = _; omega⟩
    · have e1' : (k : Int) = n' := e1
      have e2' : ((t0 + N : Nat) : Int) = n := e2
      have e1'' : k = n' := by omega
      subst e1''
      rcases ih hp with ⟨h1, h', h2⟩ | ⟨m, h', i1, o1, u, v, rfl, h1, h2, h3, h4⟩
      · exact Or.inr ⟨t0, 0, _, _, z' + gI f.final k, 0, by omega, ht1, ⟨h', k, z', h2, (kf.end_pos hk1).1, rfl⟩, ⟨rfl, rfl, rfl, rfl⟩, by show z' + gI f.final k = _; omega⟩
      · omega

theorem behind_tot (y : Int) : TotP (behindD f g) ins outs s0 y ↔ ∃ i o, i ≤ ins.length ∧ o ≤ outs.length ∧ ∃ u v, PieceP f ins outs s0 0 0 i o u ∧ PieceP g ins outs t0 i o ins.length outs.length v ∧ y = u + v := by
  obtain ⟨hs1, hl1, _, hA⟩ := nums_of kf hN hs
  obtain ⟨ht1, hl2, _, hB⟩ := nums_of kg hM ht
  rw [tot_piece]
  have g1 : ∀ n, n < N → gI (behindD f g).final n = -1 := fun n hn => ends_gone (by omega)
  have g2 : ∀ m, gI (behindD f g).final (m + N) = gI g.final m := fun m => by rw [← hl1]; exact ends_kept
  constructor
  · rintro ⟨h, n, z, hp, hf, rfl⟩
    rcases behind_path kf kg hN hM hs ht hp with ⟨h1, _⟩ | ⟨m, h', i1, o1, u, v, rfl, h1, h2, h3, rfl⟩
    · rw [g1 n h1] at hf; omega
    · rw [g2] at hf ⊢
      obtain ⟨hh, nn, zz, q1, q2⟩ := h2
      have := q1.le (Nat.zero_le _) (Nat.zero_le _)
      exact ⟨i1, o1, this.1, this.2, u, v + gI g.final m, ⟨hh, nn, zz, q1, q2⟩, ⟨h', m, v, h3, hf, rfl⟩, by omega⟩
  · have hE := behind_arcs kf kg hN hM hs ht
    rintro ⟨i, o, _, _, u, v, ⟨h, n, z, hp, hf, rfl⟩, ⟨h', m, z', hp', hf', rfl⟩, rfl⟩
    have hn := hp.lt (N := N) hs1 (fun a ha => (hA a ha).2.1.2)
    have p0 : PathF (behindD f g).arcs ins outs s0 0 0 0 s0 0 0 0 := ⟨rfl, rfl, rfl, rfl⟩
    have p1 := path_copy (d := 0) (fun a ha => by rw [movA_zero]; exact (hE _).2 (Or.inl ha)) p0 hp
    have p2 := path_more (m := t0 + N) p1 ((hE _).2 (Or.inr (Or.inr ⟨n, hn, by omega, rfl⟩)))
    have p3 := path_copy (d := N) (fun a ha => (hE _).2 (Or.inr (Or.inl ⟨a, ha, rfl⟩))) p2 hp'
    exact ⟨_, m + N, _, p3, by rw [g2]; exact hf', by rw [g2]; omega⟩

theorem behind_right (h3 : f.states + g.states ≤ 198) (h4 : f.arcs.length + g.arcs.length ≤ 2500) : checkD (behindD f g) = 0 := by
  obtain ⟨hs1, hl1, _, hA⟩ := nums_of kf hN hs
  obtain ⟨ht1, hl2, _, hB⟩ := nums_of kg hM ht
  refine Fine.check ⟨?_, ?_, ?_, ?_, ?_, ?_, ?_, ?_, (leastL_min _).ord⟩
  · show 1 ≤ f.states + g.states; omega
  · show f.states + g.states ≤ 200; omega
  · show 0 ≤ f.start; omega
  · show f.start < f.states + g.states; omega
  · show ((goX (f.final ++ g.final) _).length : Int) = f.states + g.states
    rw [goX_len, List.length_append, hl1, hl2]
    omega
  · intro x hx
    rcases goX_mem _ hx with q | q
    · exact Or.inl q
    · rcases List.mem_append.1 q with q | q
      · exact kf.fin x q
      · exact kg.fin x q
  · refine Nat.le_trans (least_len _) ?_
    rw [goA_len, List.length_append, List.length_map]
    have := endsU_len f.final f.final.length
    omega
  · intro a ha
    have hst : (behindD f g).states = ((N + M : Nat) : Int) := by show f.states + g.states = _; omega
    rcases (behind_arcs kf kg hN hM hs ht a).1 ha with q | ⟨b, hb, rfl⟩ | ⟨k, hk, hk1, rfl⟩
    · have := hA a q
      exact arc_in (N := N + M) (by omega) (by omega) (by omega) (by omega) (by omega) hst
    · exact arc_mv (hB b hb) (Nat.le_refl _) hst
    · have := kf.end_pos hk1
      exact arc_new (by omega) (by omega) this.1 this.2 hst

end
end Go.Proofs.Yteehgcbjmdideaa
