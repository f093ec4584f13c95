/- 'ScoreTells' of the statements, where 'Costs' is known. -/
import Derived.Test.YteehgcbjmdideaaQSofP
namespace Go.Proofs.Yteehgcbjmdideaa
open Go.RowKit
attribute [local go_sem ↓] Go.wp_at_zero Go.wp_at_succ

set_option maxHeartbeats 2000000 in
set_option maxRecDepth 100000 in
theorem scoreTells_of (HC : CostsTell) (f : FstD) (ins outs : List Int) (fin arcs iv ov : Value) (w : World) (hf : ISlice w fin f.final) (ha : ASlice w arcs f.arcs) (hI : ISlice w iv ins) (hO : ISlice w ov outs) :
    Calls Try.prog 3 #[.agg #[.int .i64 f.states, .int .i64 f.start, fin, arcs], iv, ov] w fun e w' => e = .returned (.bool true) ∧ Below w.heap.size w w' := by
  obtain ⟨fa, fn, fc, rfl, _, _⟩ := hf.lenOf
  obtain ⟨aa, m, ac, rfl, hal, _⟩ := ha.lenOf
  obtain ⟨ia, il, ic, rfl, hil, _⟩ := hI.lenOf
  obtain ⟨oa, ol, oc, rfl, hol, _⟩ := hO.lenOf
  have hb0 := bel_up (bel_self w) (.cells #[.int .i64 f.states, .int .i64 f.start, .slice fa fn fc, .slice aa m ac] 25)
  have hcf := cellsF_new w f.states f.start (.slice fa fn fc) (.slice aa m ac) 25
  have hsc := score_any f ins outs _ _ _ _ _ (hf.below hb0) (ha.below hb0) (hI.below hb0) (hO.below hb0)
  have HF : Hid (∀ W, Below w.heap.size w W → ISlice W (.slice fa fn fc) f.final ∧ ASlice W (.slice aa m ac) f.arcs ∧ ISlice W (.slice ia il ic) ins ∧ ISlice W (.slice oa ol oc) outs) := fun W h => ⟨hf.below h, ha.below h, hI.below h, hO.below h⟩
  have HIL : Hid (ins.length = il) := hil
  have HOL : Hid (outs.length = ol) := hol
  have HAL : Hid (f.arcs.length = m) := hal
  have HCO : Hid CostsTell := HC
  clear HC hf ha hI hO hil hol hal
  have hwd := fun W (k : ISlice W (.slice ia il ic) ins) => word_any ins ia il ic W k HIL.out
  have hce := fun W (k : ISlice W (.slice ia il ic) ins) => checkWord_any ins ia il ic W k HIL.out
  go_enter Try.func3, Try.ntmps3
  go_wp2_with (go_at_call 10; refine hsc.mono ?_; rintro e w1 ⟨x, c, rfl, hSI, hb1⟩; have HSI : Hid (ScoreIs f ins outs x c) := hSI; clear hSI; have hc1 := bel_on hb0 hb1; have hcf1 := hcf.below hb1; obtain ⟨q0, q1, q2, q3⟩ := hcf1)
  obtain ⟨h1, h2, h3⟩ := HSI.out
  obtain ⟨g1, g2, g3, g4⟩ := HF.out w1 hc1
  have hck := checkScore_any f ins outs _ _ _ _ w1 g1 g2 g3 g4 c h1.symm
  have hcf1 := hcf.below hb1
  clear hsc hb1 hcf hb0 HSI
  generalize hwi : wordD ins = wi at *
  by_cases h0 : c = 0
  · subst h0
    obtain ⟨N, s0, e1, e2, hok, hx⟩ := h3 rfl
    have hlet : ∀ a ∈ f.arcs, (0 ≤ a.inp ∧ a.inp ≤ 9) ∧ (0 ≤ a.out ∧ a.out ≤ 9) := by
      intro a hm
      have q := (check_ok f (chkS_ok h1.symm).1).arcs a hm
      have e0 := q.inp
      have e1 := q.out
      simp [inB] at e0 e1
      exact ⟨⟨e0.1, by omega⟩, ⟨e1.1, by omega⟩⟩
    have HSO : Hid (∀ W, Below w.heap.size w W → Calls Try.prog 12 #[.agg #[.int .i64 f.states, .int .i64 f.start, .slice fa fn fc, .slice aa m ac], .slice ia il ic, .slice oa ol oc] W fun e w' => e = .returned (.int .i64 x) ∧ Below W.heap.size W w') := fun W hb => by
      obtain ⟨g1, g2, g3, g4⟩ := HF.out W hb
      rw [e1, e2]
      exact scoreOf_ok HCO.out f ins outs N s0 fa fn fc aa m ac ia il ic oa ol oc W hok hlet g1 g2 HAL.out g3 HIL.out g4 HOL.out x hx
    clear h1 h2 h3 hx hok hlet e1 e2 g1 g2 g3 g4
    refine hck.mono ?_
    rintro e w2 ⟨rfl, hb2⟩
    have hc2 := bel_on hc1 hb2
    obtain ⟨k0, k1, k2, k3⟩ := hcf1.below hb2
    clear q0 q1 q2 q3
    go_wp2_with (first | (go_at_call 12; refine (HSO.out w2 hc2).mono ?_; rintro e w3 ⟨rfl, hb3⟩; have hc3 := bel_on hc2 hb3) | (go_at_call 13; refine (scoreBegun_any w3).mono ?_; rintro e w4 ⟨rfl, hb4⟩; have hc4 := bel_on hc3 hb4) | (go_at_call 14; refine (hwd w4 (HF.out w4 hc4).2.2.1).mono ?_; rintro e w5 ⟨rfl, hb5⟩; have hc5 := bel_on hc4 hb5) | (go_at_call 15; refine (hce w5 (HF.out w5 hc5).2.2.1).mono ?_; rintro e w6 ⟨rfl, hb6⟩; have hc6 := bel_on hc5 hb6))
    go_ret
    exact ⟨by simp, hc6⟩
  · have hx := h2 h0
    subst hx
    have h0b : (c == 0) = false := by simpa using h0
    clear h1 h2 h3 g1 g2 g3 g4 h0
    refine hck.mono ?_
    rintro e w2 ⟨rfl, hb2⟩
    have hc2 := bel_on hc1 hb2
    go_wp2_with (first | (go_at_call 13; refine (scoreBegun_any w2).mono ?_; rintro e w4 ⟨rfl, hb4⟩; have hc4 := bel_on hc2 hb4) | (go_at_call 14; refine (hwd w4 (HF.out w4 hc4).2.2.1).mono ?_; rintro e w5 ⟨rfl, hb5⟩; have hc5 := bel_on hc4 hb5) | (go_at_call 15; refine (hce w5 (HF.out w5 hc5).2.2.1).mono ?_; rintro e w6 ⟨rfl, hb6⟩; have hc6 := bel_on hc5 hb6))
    go_ret
    exact ⟨by simp, hc6⟩
end Go.Proofs.Yteehgcbjmdideaa
