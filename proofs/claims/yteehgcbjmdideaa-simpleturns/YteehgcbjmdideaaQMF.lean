/- 'Walk' and 'Score' of package score. -/
import Derived.Test.YteehgcbjmdideaaQWayP
import Derived.Test.YteehgcbjmdideaaQMB
namespace Go.Proofs.Yteehgcbjmdideaa
open Go.RowKit
attribute [local go_sem ↓] Go.wp_at_zero Go.wp_at_succ

theorem wordD_ok {l : List Int} (h : wordD l = 0) : l.length ≤ 40 := by
  unfold wordD at h
  split at h
  · cases h
  · omega

theorem okW {f : FstD} {ins outs : List Int} (h : checkD f = 0) (h1 : wordD ins = 0) (h2 : wordD outs = 0) : ∃ N s0 : Nat, f.states = N ∧ f.start = s0 ∧ OkW f ins outs N s0 ∧ ∀ a ∈ f.arcs, 0 ≤ a.inp ∧ 0 ≤ a.out := by
  have k := check_ok f h
  have k0 := k.states
  have k1 := k.start
  have k2 := k.len
  simp [inB] at k0 k1
  refine ⟨f.states.toNat, f.start.toNat, by omega, by omega, ⟨by omega, by omega, by omega, wordD_ok h1, wordD_ok h2, k.many, fun a ha => ?_, (arcsErr_sorted _ _ _ k.err).1, by omega, fun x hx => (finB_out (k.fin x hx)).1⟩, fun a ha => ?_⟩
  · have q := k.arcs a ha
    have e0 := q.src
    have e1 := q.dst
    have e4 := q.wt
    simp [inB] at e0 e1 e4
    refine ⟨⟨?_, ?_⟩, ⟨?_, ?_⟩, ?_, ?_⟩ <;> omega
  · have q := k.arcs a ha
    have e0 := q.inp
    have e1 := q.out
    simp [inB] at e0 e1
    exact ⟨e0.1, e1.1⟩

/-- the three boxes of 'Walk' -/
structure WB (w wr : World) (X : Nat) (st sta : Int) (fin arcs iv ov : Value) : Prop where
  bel : Below w.heap.size w wr
  cf : CellsF wr X st sta fin arcs
  ci : wr.cell? ⟨X + 1, 0, none⟩ = some iv
  co : wr.cell? ⟨X + 1 + 1, 0, none⟩ = some ov

theorem WB.below {w wr wx : World} {X : Nat} {st sta : Int} {fin arcs iv ov : Value} (h : WB w wr X st sta fin arcs iv ov) (hb : Below wr.heap.size wr wx) : WB w wx X st sta fin arcs iv ov :=
  ⟨bel_on h.bel hb, h.cf.below hb, bel_c hb h.ci, bel_c hb h.co⟩

theorem walk_boxes (w : World) (st sta : Int) (fin arcs iv ov : Value) : WB w (((w.alloc (.cells #[.int .i64 st, .int .i64 sta, fin, arcs] 25)).alloc (.cells #[iv] 22)).alloc (.cells #[ov] 22)) w.heap.size st sta fin arcs iv ov := by
  refine ⟨bel_up (two_up w _ _) _, ((cellsF_new w st sta fin arcs 25).below (bel_up (bel_self _) _)).below (bel_up (bel_self _) _), ?_, ?_⟩
  · exact bel_c (bel_up (bel_self _) _) (new_cell _ _ _ _ 0 _ (one_size _ _) rfl)
  · exact new_cell _ _ _ _ 0 _ (by rw [one_size, one_size]) rfl

theorem walk_all (f : FstD) (fin arcs iv ov : Value) (c : Int) (w : World) (hf : ISlice w fin f.final) (ha : ASlice w arcs f.arcs) (hc : checkD f = c) :
    Calls Try.prog 59 #[.slice (some ⟨w.heap.size + 1 + 1 + 1, 0, none⟩) 1 1] ((((w.alloc (.cells #[.int .i64 f.states, .int .i64 f.start, fin, arcs] 25)).alloc (.cells #[iv] 22)).alloc (.cells #[ov] 22)).alloc (.cells #[.int .i64 f.states, .int .i64 f.start, fin, arcs] 25)) fun e w' =>
      e = .returned (.int .i64 c) ∧ WB w w' w.heap.size f.states f.start fin arcs iv ov := by
  have hwb := walk_boxes w f.states f.start fin arcs iv ov
  have hb := bel_up (bel_self (((w.alloc (.cells #[.int .i64 f.states, .int .i64 f.start, fin, arcs] 25)).alloc (.cells #[iv] 22)).alloc (.cells #[ov] 22))) (.cells #[.int .i64 f.states, .int .i64 f.start, fin, arcs] 25)
  refine (all_one f fin arcs (w.heap.size + 1 + 1 + 1) c _ (cellsF_at _ _ _ _ _ _ _ (by rw [one_size, one_size, one_size])) ((hf.below hwb.bel).below hb) ((ha.below hwb.bel).below hb) hc).mono ?_
  rintro e w' ⟨rfl, hb2⟩
  exact ⟨rfl, (hwb.below hb).below hb2⟩

/-- what 'Walk' answers when it does not walk -/
def NoWalk (w : World) (c : Int) (e : Ending) (w' : World) : Prop := e = .returned (.tuple #[.slice none 0 0, .int .i64 0, .int .i64 c]) ∧ Below w.heap.size w w'

set_option maxHeartbeats 1000000 in
theorem walk_bad (f : FstD) (fin arcs : Value) (ia : Option Addr) (il ic : Nat) (oa : Option Addr) (ol oc : Nat) (c : Int) (w : World) (hf : ISlice w fin f.final) (ha : ASlice w arcs f.arcs) (hc : checkD f = c) (h0 : c ≠ 0) :
    Calls Try.prog 51 #[.agg #[.int .i64 f.states, .int .i64 f.start, fin, arcs], .slice ia il ic, .slice oa ol oc] w fun e w' => NoWalk w c e w' := by
  obtain ⟨fa, fn, fc, rfl, _, _⟩ := hf.lenOf
  obtain ⟨ba, bn, bc, rfl, _, _⟩ := ha.lenOf
  have hall := walk_all f _ _ (.slice ia il ic) (.slice oa ol oc) c w hf ha hc
  have h0n : (c != 0) = true := by simpa using h0
  clear hc
  go_enter Try.func51, Try.ntmps51
  go_wp2_with (go_at_call 59; refine hall.mono ?_; rintro e w1 ⟨rfl, hB1⟩)
  exact bodyPost_ret (v := .tuple #[.slice none 0 0, .int .i64 0, .int .i64 c]) (by simp [results, Try.results51, go_sem]) rfl ⟨rfl, hB1.bel⟩

set_option maxHeartbeats 1000000 in
theorem walk_in (f : FstD) (ins : List Int) (fin arcs : Value) (ia : Option Addr) (il ic : Nat) (oa : Option Addr) (ol oc : Nat) (c : Int) (w : World) (hf : ISlice w fin f.final) (ha : ASlice w arcs f.arcs) (hc : checkD f = 0) (hI : ISlice w (.slice ia il ic) ins) (hil : ins.length = il) (hw : wordD ins = c) (h0 : c ≠ 0) :
    Calls Try.prog 51 #[.agg #[.int .i64 f.states, .int .i64 f.start, fin, arcs], .slice ia il ic, .slice oa ol oc] w fun e w' => NoWalk w c e w' := by
  obtain ⟨fa, fn, fc, rfl, _, _⟩ := hf.lenOf
  obtain ⟨ba, bn, bc, rfl, _, _⟩ := ha.lenOf
  have hall := walk_all f _ _ (.slice ia il ic) (.slice oa ol oc) 0 w hf ha hc
  have hwd := fun W (k : ISlice W (.slice ia il ic) ins) => word_any ins ia il ic W k hil
  rw [hw] at hwd
  have h0n : (c != 0) = true := by simpa using h0
  clear hc hw hil
  go_enter Try.func51, Try.ntmps51
  go_wp2_with (first | (go_at_call 59; refine hall.mono ?_; rintro e w1 ⟨rfl, hB1⟩; have q1 := hB1.ci) | (go_at_call 14; refine (hwd w1 (hI.below hB1.bel)).mono ?_; rintro e w2 ⟨rfl, hb2⟩))
  exact bodyPost_ret (v := .tuple #[.slice none 0 0, .int .i64 0, .int .i64 c]) (by simp [results, Try.results51, go_sem]) rfl ⟨rfl, bel_on hB1.bel hb2⟩

set_option maxHeartbeats 1000000 in
theorem walk_out (f : FstD) (ins outs : List Int) (fin arcs : Value) (ia : Option Addr) (il ic : Nat) (oa : Option Addr) (ol oc : Nat) (c : Int) (w : World) (hf : ISlice w fin f.final) (ha : ASlice w arcs f.arcs) (hc : checkD f = 0) (hI : ISlice w (.slice ia il ic) ins) (hil : ins.length = il) (hw : wordD ins = 0) (hO : ISlice w (.slice oa ol oc) outs) (hol : outs.length = ol) (hwo : wordD outs = c) (h0 : c ≠ 0) :
    Calls Try.prog 51 #[.agg #[.int .i64 f.states, .int .i64 f.start, fin, arcs], .slice ia il ic, .slice oa ol oc] w fun e w' => NoWalk w c e w' := by
  obtain ⟨fa, fn, fc, rfl, _, _⟩ := hf.lenOf
  obtain ⟨ba, bn, bc, rfl, _, _⟩ := ha.lenOf
  have hall := walk_all f _ _ (.slice ia il ic) (.slice oa ol oc) 0 w hf ha hc
  have hwd := fun W (k : ISlice W (.slice ia il ic) ins) => word_any ins ia il ic W k hil
  have hwe := fun W (k : ISlice W (.slice oa ol oc) outs) => word_any outs oa ol oc W k hol
  rw [hw] at hwd
  rw [hwo] at hwe
  have h0n : (c != 0) = true := by simpa using h0
  clear hc hw hwo hil hol
  go_enter Try.func51, Try.ntmps51
  go_wp2_with (first | (go_at_call 59; refine hall.mono ?_; rintro e w1 ⟨rfl, hB1⟩; have q1 := hB1.ci) | (go_at_call 14; have hB2' := hB2; refine (hwe w2 (hO.below hB2.bel)).mono ?_; rintro e w3 ⟨rfl, hb3⟩) | (go_at_call 14; refine (hwd w1 (hI.below hB1.bel)).mono ?_; rintro e w2 ⟨rfl, hb2⟩; have hB2 := hB1.below hb2; have q2 := hB2.co))
  exact bodyPost_ret (v := .tuple #[.slice none 0 0, .int .i64 0, .int .i64 c]) (by simp [results, Try.results51, go_sem]) rfl ⟨rfl, bel_on hB2.bel hb3⟩
end Go.Proofs.Yteehgcbjmdideaa

/- 'Walk' at right arguments; 'Score'. -/
namespace Go.Proofs.Yteehgcbjmdideaa
open Go.RowKit
attribute [local go_sem ↓] Go.wp_at_zero Go.wp_at_succ

/-- what 'Walk' answers when it walks -/
def WalkRes (w : World) (f : FstD) (ins outs : List Int) (N s0 : Nat) (e : Ending) (w' : World) : Prop :=
  ∃ ua un uc l best, e = .returned (.tuple #[.slice ua un uc, .int .i64 best, .int .i64 0]) ∧ ISlice w' (.slice ua un uc) l ∧ l.length = un ∧ IsBest (EdS f ins outs N) (bgS s0 (totS ins outs N)) (finS (totS ins outs N) N f.final) best ∧ (best = -1 → l = []) ∧
    (best ≠ -1 → ∃ c y n, Inv (EdS f ins outs N) (bgS s0 (totS ins outs N)) c y ∧ LastOk f ins outs N c best n ins.length outs.length ∧ BWay f ins outs N s0 c y l.reverse n ins.length outs.length) ∧ Below w.heap.size w w'

set_option maxHeartbeats 2000000 in
set_option maxRecDepth 100000 in
theorem walk_ok (f : FstD) (ins outs : List Int) (N s0 : Nat) (fin : Value) (aa : Option Addr) (m ac : Nat) (ia : Option Addr) (il ic : Nat) (oa : Option Addr) (ol oc : Nat) (w : World) (hf : ISlice w fin f.final) (ha : ASlice w (.slice aa m ac) f.arcs) (hal : f.arcs.length = m) (hc : checkD f = 0) (hI : ISlice w (.slice ia il ic) ins) (hil : ins.length = il) (hw : wordD ins = 0) (hO : ISlice w (.slice oa ol oc) outs) (hol : outs.length = ol) (hwo : wordD outs = 0)
    (hst : f.states = N) (hsta : f.start = s0) (hok : OkW f ins outs N s0) (hlet : ∀ a ∈ f.arcs, 0 ≤ a.inp ∧ 0 ≤ a.out) :
    Calls Try.prog 51 #[.agg #[.int .i64 f.states, .int .i64 f.start, fin, .slice aa m ac], .slice ia il ic, .slice oa ol oc] w fun e w' => WalkRes w f ins outs N s0 e w' := by
  obtain ⟨fa, fn, fc, rfl, _, _⟩ := hf.lenOf
  have hall := walk_all f _ _ (.slice ia il ic) (.slice oa ol oc) 0 w hf ha hc
  have hwd := fun W (k : ISlice W (.slice ia il ic) ins) => word_any ins ia il ic W k hil
  have hwe := fun W (k : ISlice W (.slice oa ol oc) outs) => word_any outs oa ol oc W k hol
  rw [hw] at hwd
  rw [hwo] at hwe
  rw [hst, hsta] at hall ⊢
  have HOK : Hid (OkW f ins outs N s0) := hok
  have HLET : Hid (∀ a ∈ f.arcs, 0 ≤ a.inp ∧ 0 ≤ a.out) := hlet
  have HAL : Hid (f.arcs.length = m) := hal
  have HIL : Hid (ins.length = il) := hil
  have HOL : Hid (outs.length = ol) := hol
  clear hc hw hwo hil hol hst hsta hok hlet hal
  go_enter Try.func51, Try.ntmps51
  go_wp2_with (first | (go_at_call 59; refine hall.mono ?_; rintro e w1 ⟨rfl, hB1⟩; have q1 := hB1.ci) | (go_at_call 96; refine (begin_any f ins outs N s0 _ aa m ac ia il ic oa ol oc w3 HOK.out (ha.below hB3.bel) HAL.out).mono ?_; rintro e w4 ⟨B, Mb, Fb, v, c, y, ms, p, rfl, hS4, hG4⟩) | (go_at_call 14; have hB2' := hB2; refine (hwe w2 (hO.below hB2.bel)).mono ?_; rintro e w3 ⟨rfl, hb3⟩; have hB3 := hB2.below hb3; have q3 := hB3.co; have q4 := hB3.ci; obtain ⟨q5, q6, q7, q8⟩ := hB3.cf) | (go_at_call 14; refine (hwd w1 (hI.below hB1.bel)).mono ?_; rintro e w2 ⟨rfl, hb2⟩; have hB2 := hB1.below hb2; have q2 := hB2.co))
  have hend : ∀ (n i o : Nat) (W : World), n < N → i ≤ il → o ≤ ol → Below w3.heap.size w3 W → Calls Try.prog 98 #[.agg #[.int .i64 n, .int .i64 i, .int .i64 o], .pointer (some ⟨w.heap.size + 1, 0, none⟩), .pointer (some ⟨w.heap.size + 1 + 1, 0, none⟩), .pointer (some ⟨w.heap.size, 0, none⟩)] W fun e w' => e = .returned (.int .i64 (finS (totS ins outs N) N f.final (spotN N outs.length n i o))) ∧ Below W.heap.size W w' :=
    fun n i o W h1 h2 h3 hb => walkEnd_any f ins outs N s0 fa fn fc ia il ic oa ol oc _ _ _ n i o W HOK.out HIL.out HOL.out (bel_c hb q4) (bel_c hb q3) (bel_c hb q7) ((hf.below hB3.bel).below hb) h1 h2 h3
  have hfind := find_any w3 f ins outs N s0 B Mb Fb _ aa m ac ia il ic oa ol oc _ _ _ v c y ms p w4 HOK.out (ha.below hB3.bel) HAL.out (hI.below hB3.bel) HIL.out (hO.below hB3.bel) HOL.out hend hS4 hG4
  refine hfind.mono ?_
  clear hfind hend hall hwd hwe q1 q2 q3 q4 q5 q6 q7 q8 hG4 hS4
  rintro e w5 ⟨best, n, i, o, c5, y5, ms5, L5, v5, rfl, hS5, hbest, hinv5, hmo5, hlast5, hbl, hbh⟩
  have HBE : Hid (IsBest (EdS f ins outs N) (bgS s0 (totS ins outs N)) (finS (totS ins outs N) N f.final) best) := hbest
  have hb5 : Below w.heap.size w w5 := bel_on hB3.bel hS5.bel
  dsimp only [spotV]
  have hu5 := bel_up (bel_self w5) (.cells #[.int .i64 n, .int .i64 i, .int .i64 o] 108)
  by_cases hb1 : best = -1
  · subst hb1
    clear hbest hinv5 hmo5 hlast5 hbl hbh
    go_wp2
    exact bodyPost_ret (v := .tuple #[.slice none 0 0, .int .i64 (-1), .int .i64 0]) (by simp [results, Try.results51, go_sem]) rfl ⟨none, 0, 0, [], -1, rfl, Or.inl ⟨none, 0, rfl, rfl⟩, rfl, HBE.out, fun _ => rfl, fun h => absurd rfl h, bel_on hb5 hu5⟩
  · have hbb : (best == -1) = false := by simpa using hb1
    have HLA : Hid (LastOk f ins outs N c5 best n i o) := hlast5 hb1
    have HNB : Hid (best ≠ -1) := hb1
    have hway := wayTo_any w3 f ins outs N s0 B Mb Fb _ aa m ac _ _ v5 _ c5 y5 ms5 L5 n i o _ HOK.out HLET.out (ha.below hB3.bel) HAL.out (hS5.below hu5) hinv5 hmo5 HLA.out.1 (by rw [HLA.out.2.1]; exact Nat.le_refl _) (by rw [HLA.out.2.2.1]; exact Nat.le_refl _) HLA.out.2.2.2.2.1
    have HINV : Hid (Inv (EdS f ins outs N) (bgS s0 (totS ins outs N)) c5 y5) := hinv5
    clear hbest hinv5 hmo5 hlast5 hb1
    go_wp2_with (go_at_call 99; refine hway.mono ?_; rintro e w6 ⟨u, pre, rfl, hu, hbw, hb6⟩; obtain ⟨ua, un, uc, rfl, hul, _⟩ := hu.lenOf; have HUL : Hid (pre.reverse.length = un) := hul; have HBW : Hid (BWay f ins outs N s0 c5 y5 pre n i o) := hbw; clear hul hbw)
    refine bodyPost_ret (v := .tuple #[.slice ua un uc, .int .i64 best, .int .i64 0]) (by simp [results, Try.results51, go_sem]) rfl ⟨ua, un, uc, pre.reverse, best, rfl, hu, HUL.out, HBE.out, fun h => absurd h HNB.out, fun _ => ⟨c5, y5, n, HINV.out, ?_, ?_⟩, bel_on (bel_on hb5 hu5) hb6⟩
    · have h1 := HLA.out
      have e1 := h1.2.1
      have e2 := h1.2.2.1
      rw [e1, e2] at h1
      exact h1
    · have h1 := HLA.out
      have e1 := h1.2.1
      have e2 := h1.2.2.1
      rw [List.reverse_reverse, ← e1, ← e2]
      exact HBW.out
end Go.Proofs.Yteehgcbjmdideaa

/- 'Score', and the document's 'CheckScore'. -/
namespace Go.Proofs.Yteehgcbjmdideaa
open Go.RowKit
attribute [local go_sem ↓] Go.wp_at_zero Go.wp_at_succ

/-- which fault the three arguments have -/
def chkS (f : FstD) (ins outs : List Int) : Int := if checkD f = 0 then (if wordD ins = 0 then wordD outs else wordD ins) else checkD f

theorem chkS_ok {f : FstD} {ins outs : List Int} (h : chkS f ins outs = 0) : checkD f = 0 ∧ wordD ins = 0 ∧ wordD outs = 0 := by
  unfold chkS at h
  split at h
  · split at h
    · exact ⟨by assumption, by assumption, h⟩
    · exact absurd h (by assumption)
  · exact absurd h (by assumption)

/-- a number that 'Score' may answer -/
def ScoreIs (f : FstD) (ins outs : List Int) (x c : Int) : Prop :=
  c = chkS f ins outs ∧ (c ≠ 0 → x = 0) ∧ (c = 0 → ∃ N s0 : Nat, f.states = N ∧ f.start = s0 ∧ OkW f ins outs N s0 ∧ IsBest (EdS f ins outs N) (bgS s0 (totS ins outs N)) (finS (totS ins outs N) N f.final) x)

theorem walk_any (f : FstD) (ins outs : List Int) (fin arcs iv ov : Value) (w : World) (hf : ISlice w fin f.final) (ha : ASlice w arcs f.arcs) (hI : ISlice w iv ins) (hO : ISlice w ov outs) :
    Calls Try.prog 51 #[.agg #[.int .i64 f.states, .int .i64 f.start, fin, arcs], iv, ov] w fun e w' => ∃ ua un uc x c, e = .returned (.tuple #[.slice ua un uc, .int .i64 x, .int .i64 c]) ∧ ScoreIs f ins outs x c ∧ Below w.heap.size w w' := by
  obtain ⟨aa, m, ac, rfl, hal, _⟩ := ha.lenOf
  obtain ⟨ia, il, ic, rfl, hil, _⟩ := hI.lenOf
  obtain ⟨oa, ol, oc, rfl, hol, _⟩ := hO.lenOf
  by_cases h0 : checkD f = 0
  · by_cases h1 : wordD ins = 0
    · by_cases h2 : wordD outs = 0
      · obtain ⟨N, s0, e1, e2, hok, hlet⟩ := okW h0 h1 h2
        refine (walk_ok f ins outs N s0 fin aa m ac ia il ic oa ol oc w hf ha hal h0 hI hil h1 hO hol h2 e1 e2 hok hlet).mono ?_
        rintro e w' ⟨ua, un, uc, l, best, rfl, _, _, hb, _, _, hbl⟩
        exact ⟨ua, un, uc, best, 0, rfl, ⟨by unfold chkS; rw [if_pos h0, if_pos h1, h2], fun h => absurd rfl h, fun _ => ⟨N, s0, e1, e2, hok, hb⟩⟩, hbl⟩
      · refine (walk_out f ins outs fin _ ia il ic oa ol oc _ w hf ha h0 hI hil h1 hO hol rfl h2).mono ?_
        rintro e w' ⟨rfl, hb⟩
        exact ⟨none, 0, 0, 0, _, rfl, ⟨by unfold chkS; rw [if_pos h0, if_pos h1], fun _ => rfl, fun h => absurd h h2⟩, hb⟩
    · refine (walk_in f ins fin _ ia il ic oa ol oc _ w hf ha h0 hI hil rfl h1).mono ?_
      rintro e w' ⟨rfl, hb⟩
      exact ⟨none, 0, 0, 0, _, rfl, ⟨by unfold chkS; rw [if_pos h0, if_neg h1], fun _ => rfl, fun h => absurd h h1⟩, hb⟩
  · refine (walk_bad f fin _ ia il ic oa ol oc _ w hf ha rfl h0).mono ?_
    rintro e w' ⟨rfl, hb⟩
    exact ⟨none, 0, 0, 0, _, rfl, ⟨by unfold chkS; rw [if_neg h0], fun _ => rfl, fun h => absurd h h0⟩, hb⟩

set_option maxHeartbeats 1000000 in
theorem score_any (f : FstD) (ins outs : List Int) (fin arcs iv ov : Value) (w : World) (hf : ISlice w fin f.final) (ha : ASlice w arcs f.arcs) (hI : ISlice w iv ins) (hO : ISlice w ov outs) :
    Calls Try.prog 10 #[.agg #[.int .i64 f.states, .int .i64 f.start, fin, arcs], iv, ov] w fun e w' => ∃ x c, e = .returned (.tuple #[.int .i64 x, .int .i64 c]) ∧ ScoreIs f ins outs x c ∧ Below w.heap.size w w' := by
  obtain ⟨fa, fn, fc, rfl, _, _⟩ := hf.lenOf
  obtain ⟨aa, m, ac, rfl, _, _⟩ := ha.lenOf
  obtain ⟨ia, il, ic, rfl, _, _⟩ := hI.lenOf
  obtain ⟨oa, ol, oc, rfl, _, _⟩ := hO.lenOf
  have hb0 := bel_up (bel_self w) (.cells #[.int .i64 f.states, .int .i64 f.start, .slice fa fn fc, .slice aa m ac] 25)
  have hwk := walk_any f ins outs _ _ _ _ _ (hf.below hb0) (ha.below hb0) (hI.below hb0) (hO.below hb0)
  go_enter Try.func10, Try.ntmps10
  go_wp2_with (go_at_call 51; refine hwk.mono ?_; rintro e w1 ⟨ua, un, uc, x, c, rfl, hs, hb1⟩; have HS : Hid (ScoreIs f ins outs x c) := hs; clear hs)
  exact bodyPost_ret (v := .tuple #[.int .i64 x, .int .i64 c]) (by simp [results, Try.results10, go_sem]) rfl ⟨x, c, rfl, HS.out, bel_on hb0 hb1⟩

set_option maxHeartbeats 1000000 in
theorem checkScore_any (f : FstD) (ins outs : List Int) (fin arcs iv ov : Value) (w : World) (hf : ISlice w fin f.final) (ha : ASlice w arcs f.arcs) (hI : ISlice w iv ins) (hO : ISlice w ov outs) (c : Int) (hc : chkS f ins outs = c) :
    Calls Try.prog 11 #[.agg #[.int .i64 f.states, .int .i64 f.start, fin, arcs], iv, ov] w fun e w' => e = .returned (.int .i64 c) ∧ Below w.heap.size w w' := by
  obtain ⟨fa, fn, fc, rfl, _, _⟩ := hf.lenOf
  obtain ⟨aa, m, ac, rfl, _, _⟩ := ha.lenOf
  obtain ⟨ia, il, ic, rfl, hil, _⟩ := hI.lenOf
  obtain ⟨oa, ol, oc, rfl, hol, _⟩ := hO.lenOf
  have hb0 := bel_up (bel_self w) (.cells #[.int .i64 f.states, .int .i64 f.start, .slice fa fn fc, .slice aa m ac] 25)
  have hchk := checkFst_any f _ _ _ (hf.below hb0) (ha.below hb0)
  have hwi := fun W (k : ISlice W (.slice ia il ic) ins) => checkWord_any ins ia il ic W k hil
  have hwo := fun W (k : ISlice W (.slice oa ol oc) outs) => checkWord_any outs oa ol oc W k hol
  have HI : Hid (∀ W, Below w.heap.size w W → ISlice W (.slice ia il ic) ins) := fun W h => hI.below h
  have HO : Hid (∀ W, Below w.heap.size w W → ISlice W (.slice oa ol oc) outs) := fun W h => hO.below h
  unfold chkS at hc
  clear hil hol hI hO
  by_cases h0 : checkD f = 0
  · rw [if_pos h0] at hc
    rw [h0] at hchk
    by_cases h1 : wordD ins = 0
    · rw [if_pos h1] at hc
      rw [h1] at hwi
      rw [hc] at hwo
      clear hc h0 h1
      go_enter Try.func11, Try.ntmps11
      go_wp2_with (first | (go_at_call 18; refine hchk.mono ?_; rintro e w1 ⟨rfl, hb1⟩; have hc1 := bel_on hb0 hb1) | (go_at_call 15; have hc2' := hc2; refine (hwo w2 (HO.out w2 hc2)).mono ?_; rintro e w3 ⟨rfl, hb3⟩; have hc3 := bel_on hc2 hb3) | (go_at_call 15; refine (hwi w1 (HI.out w1 hc1)).mono ?_; rintro e w2 ⟨rfl, hb2⟩; have hc2 := bel_on hc1 hb2))
      go_ret
      exact ⟨rfl, hc3⟩
    · rw [if_neg h1] at hc
      rw [hc] at hwi h1
      have h1b : (c == 0) = false := by simpa using h1
      clear hc h0
      go_enter Try.func11, Try.ntmps11
      go_wp2_with (first | (go_at_call 18; refine hchk.mono ?_; rintro e w1 ⟨rfl, hb1⟩; have hc1 := bel_on hb0 hb1) | (go_at_call 15; refine (hwi w1 (HI.out w1 hc1)).mono ?_; rintro e w2 ⟨rfl, hb2⟩; have hc2 := bel_on hc1 hb2))
      go_ret
      exact ⟨rfl, hc2⟩
  · rw [if_neg h0] at hc
    rw [hc] at hchk h0
    have h0b : (c == 0) = false := by simpa using h0
    clear hc
    go_enter Try.func11, Try.ntmps11
    go_wp2_with (go_at_call 18; refine hchk.mono ?_; rintro e w1 ⟨rfl, hb1⟩; have hc1 := bel_on hb0 hb1)
    go_ret
    exact ⟨rfl, hc1⟩
end Go.Proofs.Yteehgcbjmdideaa
