/- The law 'ComposeCosts': faults. (Made by wip/gen/cpz.py.) -/
import Derived.Test.YteehgcbjmdideaaQM32
namespace Go.Proofs.Yteehgcbjmdideaa
open Go.RowKit
attribute [local go_sem ↓] Go.wp_at_zero Go.wp_at_succ
set_option maxRecDepth 100000

set_option maxHeartbeats 1600000 in
theorem ccosts_e1 (f g : FstD) (ins btw outs : List Int) (fa : Option Addr) (fn fc : Nat) (aa : Option Addr) (m ac : Nat) (ga : Option Addr) (gn gc : Nat) (ca : Option Addr) (mc cc : Nat) (ia : Option Addr) (il ic : Nat) (ba : Option Addr) (bl bc : Nat) (oa : Option Addr) (ol oc : Nat) (w : World)
    (hf : ISlice w (.slice fa fn fc) f.final) (ha : ASlice w (.slice aa m ac) f.arcs) (hf' : ISlice w (.slice ga gn gc) g.final) (ha' : ASlice w (.slice ca mc cc) g.arcs) (hI : ISlice w (.slice ia il ic) ins) (hB : ISlice w (.slice ba bl bc) btw) (hO : ISlice w (.slice oa ol oc) outs)
    (_hal : f.arcs.length = m) (_hal' : g.arcs.length = mc) (_hil : ins.length = il) (_hol : outs.length = ol) (c : Int) (hc : twoD f g = c) (hc0 : c ≠ 0) :
    Calls Try.prog 6 #[.agg #[.int .i64 f.states, .int .i64 f.start, .slice fa fn fc, .slice aa m ac], .agg #[.int .i64 g.states, .int .i64 g.start, .slice ga gn gc, .slice ca mc cc], .slice ia il ic, .slice ba bl bc, .slice oa ol oc] w fun e w' => e = .returned (.bool true) ∧ Below w.heap.size w w' := by
  have HE : Hid (∀ X u, CmpRes f g X u → X = ⟨0, 0, [], []⟩ ∧ u = c) := fun X u h => by
    have he : errC f g = c := by
      unfold errC
      unfold twoD at hc
      split
      · rename_i h0
        rw [if_pos h0] at hc
        rw [if_neg (by rw [hc]; exact hc0)]
        exact hc
      · rename_i h0
        rw [if_neg h0] at hc
        exact hc
    rcases h with ⟨_, h1, h2⟩ | ⟨h0, _⟩
    · exact ⟨h2, h1.trans he⟩
    · exact absurd (he.symm.trans h0) hc0
  have HC : Hid (twoD f g = c) := hc
  have hcb : (c == 0) = false := by simpa using hc0
  have hcn : (c != 0) = true := by simpa using hc0
  clear hc
  obtain ⟨A, hA⟩ : ∃ A, A = (w.alloc (.cells #[.int .i64 f.states, .int .i64 f.start, .slice fa fn fc, .slice aa m ac] 25)).alloc (.cells #[.int .i64 g.states, .int .i64 g.start, .slice ga gn gc, .slice ca mc cc] 25) := ⟨_, rfl⟩
  have hb0 : Below w.heap.size w A := by rw [hA]; exact two_up w _ _
  have hqf : CellsF A w.heap.size f.states f.start (.slice fa fn fc) (.slice aa m ac) := by rw [hA]; exact (cellsF_new w _ _ _ _ _).below (bel_up (bel_self _) _)
  have hqg : CellsF A (w.heap.size + 1) g.states g.start (.slice ga gn gc) (.slice ca mc cc) := by rw [hA]; exact cellsF_at _ _ _ _ _ _ _ (one_size w _)
  have HQ : Hid (∀ W, Below A.heap.size A W → CellsF W w.heap.size f.states f.start (.slice fa fn fc) (.slice aa m ac) ∧ CellsF W (w.heap.size + 1) g.states g.start (.slice ga gn gc) (.slice ca mc cc)) := fun W h => ⟨hqf.below h, hqg.below h⟩
  have HM : Hid (∀ W, Below A.heap.size A W → (ISlice W (.slice fa fn fc) f.final ∧ ASlice W (.slice aa m ac) f.arcs) ∧ (ISlice W (.slice ga gn gc) g.final ∧ ASlice W (.slice ca mc cc) g.arcs) ∧ ISlice W (.slice ia il ic) ins ∧ ISlice W (.slice ba bl bc) btw ∧ ISlice W (.slice oa ol oc) outs) := fun W h =>
    have k := bel_on hb0 h
    ⟨⟨hf.below k, ha.below k⟩, ⟨hf'.below k, ha'.below k⟩, hI.below k, hB.below k, hO.below k⟩
  have hcmp := compose_any f g _ _ _ _ A (hf.below hb0) (ha.below hb0) (hf'.below hb0) (ha'.below hb0)
  have HA : Hid (A = (w.alloc (.cells #[.int .i64 f.states, .int .i64 f.start, .slice fa fn fc, .slice aa m ac] 25)).alloc (.cells #[.int .i64 g.states, .int .i64 g.start, .slice ga gn gc, .slice ca mc cc] 25)) := hA
  obtain ⟨p0, p1, p2, p3⟩ := hqf
  obtain ⟨r0, r1, r2, r3⟩ := hqg
  clear hA hf ha hf' ha' hI hB hO
  go_enter Try.func6, Try.ntmps6
  go_wp2_with fail
  rw [← HA.out]
  clear HA
  refine hcmp.mono ?_
  clear hcmp
  rintro e w1 ⟨X, u, hR, xa, xn, xc, ya, yn, yc, rfl, hIX, hAX, hb1⟩
  obtain ⟨rfl, rfl⟩ := HE.out X u hR
  clear hR HE
  obtain ⟨w2, hw2⟩ : ∃ w2, w2 = w1.alloc (.cells #[.int .i64 0, .int .i64 0, .slice xa xn xc, .slice ya yn yc] 25) := ⟨_, rfl⟩
  obtain ⟨D, hD⟩ : ∃ D, D = w1.heap.size := ⟨_, rfl⟩
  have hb2 : Below A.heap.size A w2 := by rw [hw2]; exact bel_up hb1 _
  have hu2 : Below w1.heap.size w1 w2 := by rw [hw2]; exact bel_up (bel_self w1) _
  have hqx : CellsF w2 D 0 0 (.slice xa xn xc) (.slice ya yn yc) := by rw [hw2, hD]; exact cellsF_new w1 _ _ _ _ _
  have HX : Hid (∀ W, Below w2.heap.size w2 W → CellsF W D 0 0 (.slice xa xn xc) (.slice ya yn yc)) := fun W h => hqx.below h
  have htwo := checkTwo_any f g _ _ _ _ w2 (HM.out w2 hb2).1.1 (HM.out w2 hb2).1.2 (HM.out w2 hb2).2.1.1 (HM.out w2 hb2).2.1.2 _ HC.out
  have HW2 : Hid (w2 = w1.alloc (.cells #[.int .i64 0, .int .i64 0, .slice xa xn xc, .slice ya yn yc] 25) ∧ D = w1.heap.size) := ⟨hw2, hD⟩
  obtain ⟨⟨s0, s1, s2, s3⟩, ⟨t0, t1, t2, t3⟩⟩ := HQ.out w1 hb1
  obtain ⟨⟨s0', s1', s2', s3'⟩, ⟨t0', t1', t2', t3'⟩⟩ := HQ.out (w1.alloc (.cells #[.int .i64 0, .int .i64 0, .slice xa xn xc, .slice ya yn yc] 25)) (bel_up hb1 _)
  clear hw2 hD hqx
  go_wp2_with fail
  rw [← HW2.out.1, ← HW2.out.2]
  clear HW2 s0 s1 s2 s3 t0 t1 t2 t3 p0 p1 p2 p3 r0 r1 r2 r3
  refine htwo.mono ?_
  rintro e w3 ⟨rfl, hb3⟩
  have hb3' := bel_on hb2 hb3
  obtain ⟨⟨s0, s1, s2, s3⟩, ⟨t0, t1, t2, t3⟩⟩ := HQ.out w3 hb3'
  clear htwo s0' s1' s2' s3' t0' t1' t2' t3'
  clear HC
  go_wp2_with (first | (go_at_call 33; refine (composeBegun_any _).mono ?_; rintro e w4 ⟨rfl, hb4⟩; clear s0 s1 s2 s3 t0 t1 t2 t3) | (go_at_call 13; refine (scoreBegun_any _).mono ?_; rintro e w5 ⟨rfl, hb5⟩; have hx5 := HX.out w5 (bel_on (bel_on hb3 hb4) hb5); obtain ⟨v0, v1, v2, v3⟩ := hx5))
  go_ret
  exact ⟨rfl, bel_on hb0 (bel_on (bel_on hb3' hb4) hb5)⟩

set_option maxHeartbeats 3200000 in
theorem ccosts_e2 (f g : FstD) (ins btw outs : List Int) (fa : Option Addr) (fn fc : Nat) (aa : Option Addr) (m ac : Nat) (ga : Option Addr) (gn gc : Nat) (ca : Option Addr) (mc cc : Nat) (ia : Option Addr) (il ic : Nat) (ba : Option Addr) (bl bc : Nat) (oa : Option Addr) (ol oc : Nat) (w : World)
    (hf : ISlice w (.slice fa fn fc) f.final) (ha : ASlice w (.slice aa m ac) f.arcs) (hf' : ISlice w (.slice ga gn gc) g.final) (ha' : ASlice w (.slice ca mc cc) g.arcs) (hI : ISlice w (.slice ia il ic) ins) (hB : ISlice w (.slice ba bl bc) btw) (hO : ISlice w (.slice oa ol oc) outs)
    (hal : f.arcs.length = m) (hal' : g.arcs.length = mc) (_hil : ins.length = il) (_hol : outs.length = ol) (hc1 : checkD f = 0) (hc2 : checkD g = 0) (hl : (largeD f || largeD g) = true) :
    Calls Try.prog 6 #[.agg #[.int .i64 f.states, .int .i64 f.start, .slice fa fn fc, .slice aa m ac], .agg #[.int .i64 g.states, .int .i64 g.start, .slice ga gn gc, .slice ca mc cc], .slice ia il ic, .slice ba bl bc, .slice oa ol oc] w fun e w' => e = .returned (.bool true) ∧ Below w.heap.size w w' := by
  have HE : Hid (∀ X u, CmpRes f g X u → X = ⟨0, 0, [], []⟩ ∧ u = 2) := fun X u h => by
    have he : errC f g = 2 := by
      unfold errC
      rw [if_pos hc1, if_pos hc2, if_pos hl]
    rcases h with ⟨_, h1, h2⟩ | ⟨h0, _⟩
    · exact ⟨h2, h1.trans he⟩
    · exact absurd (he.symm.trans h0) (by decide)
  have HC : Hid (twoD f g = 0) := by
    show twoD f g = 0
    unfold twoD
    rw [if_pos hc1, hc2]
  have HL : Hid (12 < f.states ∨ 12 < g.states ∨ 100 < m ∨ 100 < mc) := by
    show _ ∨ _
    unfold largeD at hl
    simp only [Bool.or_eq_true, decide_eq_true_eq] at hl
    omega
  clear hc1 hc2 hl hal hal'
  obtain ⟨A, hA⟩ : ∃ A, A = (w.alloc (.cells #[.int .i64 f.states, .int .i64 f.start, .slice fa fn fc, .slice aa m ac] 25)).alloc (.cells #[.int .i64 g.states, .int .i64 g.start, .slice ga gn gc, .slice ca mc cc] 25) := ⟨_, rfl⟩
  have hb0 : Below w.heap.size w A := by rw [hA]; exact two_up w _ _
  have hqf : CellsF A w.heap.size f.states f.start (.slice fa fn fc) (.slice aa m ac) := by rw [hA]; exact (cellsF_new w _ _ _ _ _).below (bel_up (bel_self _) _)
  have hqg : CellsF A (w.heap.size + 1) g.states g.start (.slice ga gn gc) (.slice ca mc cc) := by rw [hA]; exact cellsF_at _ _ _ _ _ _ _ (one_size w _)
  have HQ : Hid (∀ W, Below A.heap.size A W → CellsF W w.heap.size f.states f.start (.slice fa fn fc) (.slice aa m ac) ∧ CellsF W (w.heap.size + 1) g.states g.start (.slice ga gn gc) (.slice ca mc cc)) := fun W h => ⟨hqf.below h, hqg.below h⟩
  have HM : Hid (∀ W, Below A.heap.size A W → (ISlice W (.slice fa fn fc) f.final ∧ ASlice W (.slice aa m ac) f.arcs) ∧ (ISlice W (.slice ga gn gc) g.final ∧ ASlice W (.slice ca mc cc) g.arcs) ∧ ISlice W (.slice ia il ic) ins ∧ ISlice W (.slice ba bl bc) btw ∧ ISlice W (.slice oa ol oc) outs) := fun W h =>
    have k := bel_on hb0 h
    ⟨⟨hf.below k, ha.below k⟩, ⟨hf'.below k, ha'.below k⟩, hI.below k, hB.below k, hO.below k⟩
  have hcmp := compose_any f g _ _ _ _ A (hf.below hb0) (ha.below hb0) (hf'.below hb0) (ha'.below hb0)
  have HA : Hid (A = (w.alloc (.cells #[.int .i64 f.states, .int .i64 f.start, .slice fa fn fc, .slice aa m ac] 25)).alloc (.cells #[.int .i64 g.states, .int .i64 g.start, .slice ga gn gc, .slice ca mc cc] 25)) := hA
  obtain ⟨p0, p1, p2, p3⟩ := hqf
  obtain ⟨r0, r1, r2, r3⟩ := hqg
  clear hA hf ha hf' ha' hI hB hO
  go_enter Try.func6, Try.ntmps6
  go_wp2_with fail
  rw [← HA.out]
  clear HA
  refine hcmp.mono ?_
  clear hcmp
  rintro e w1 ⟨X, u, hR, xa, xn, xc, ya, yn, yc, rfl, hIX, hAX, hb1⟩
  obtain ⟨rfl, rfl⟩ := HE.out X u hR
  clear hR HE
  obtain ⟨w2, hw2⟩ : ∃ w2, w2 = w1.alloc (.cells #[.int .i64 0, .int .i64 0, .slice xa xn xc, .slice ya yn yc] 25) := ⟨_, rfl⟩
  obtain ⟨D, hD⟩ : ∃ D, D = w1.heap.size := ⟨_, rfl⟩
  have hb2 : Below A.heap.size A w2 := by rw [hw2]; exact bel_up hb1 _
  have hu2 : Below w1.heap.size w1 w2 := by rw [hw2]; exact bel_up (bel_self w1) _
  have hqx : CellsF w2 D 0 0 (.slice xa xn xc) (.slice ya yn yc) := by rw [hw2, hD]; exact cellsF_new w1 _ _ _ _ _
  have HX : Hid (∀ W, Below w2.heap.size w2 W → CellsF W D 0 0 (.slice xa xn xc) (.slice ya yn yc)) := fun W h => hqx.below h
  have htwo := checkTwo_any f g _ _ _ _ w2 (HM.out w2 hb2).1.1 (HM.out w2 hb2).1.2 (HM.out w2 hb2).2.1.1 (HM.out w2 hb2).2.1.2 _ HC.out
  have HW2 : Hid (w2 = w1.alloc (.cells #[.int .i64 0, .int .i64 0, .slice xa xn xc, .slice ya yn yc] 25) ∧ D = w1.heap.size) := ⟨hw2, hD⟩
  obtain ⟨⟨s0, s1, s2, s3⟩, ⟨t0, t1, t2, t3⟩⟩ := HQ.out w1 hb1
  obtain ⟨⟨s0', s1', s2', s3'⟩, ⟨t0', t1', t2', t3'⟩⟩ := HQ.out (w1.alloc (.cells #[.int .i64 0, .int .i64 0, .slice xa xn xc, .slice ya yn yc] 25)) (bel_up hb1 _)
  clear hw2 hD hqx
  go_wp2_with fail
  rw [← HW2.out.1, ← HW2.out.2]
  clear HW2 s0 s1 s2 s3 t0 t1 t2 t3 p0 p1 p2 p3 r0 r1 r2 r3
  refine htwo.mono ?_
  rintro e w3 ⟨rfl, hb3⟩
  have hb3' := bel_on hb2 hb3
  obtain ⟨⟨s0, s1, s2, s3⟩, ⟨t0, t1, t2, t3⟩⟩ := HQ.out w3 hb3'
  clear htwo s0' s1' s2' s3' t0' t1' t2' t3'
  clear HC
  by_cases h1 : 12 < f.states
  · clear HL
    go_wp2_with (first | (go_at_call 33; refine (composeBegun_any _).mono ?_; rintro e w4 ⟨rfl, hb4⟩; clear s0 s1 s2 s3 t0 t1 t2 t3) | (go_at_call 13; refine (scoreBegun_any _).mono ?_; rintro e w5 ⟨rfl, hb5⟩; have hx5 := HX.out w5 (bel_on (bel_on hb3 hb4) hb5); obtain ⟨v0, v1, v2, v3⟩ := hx5))
    go_ret
    exact ⟨rfl, bel_on hb0 (bel_on (bel_on hb3' hb4) hb5)⟩
  · by_cases h2 : 12 < g.states
    · clear HL
      go_wp2_with (first | (go_at_call 33; refine (composeBegun_any _).mono ?_; rintro e w4 ⟨rfl, hb4⟩; clear s0 s1 s2 s3 t0 t1 t2 t3) | (go_at_call 13; refine (scoreBegun_any _).mono ?_; rintro e w5 ⟨rfl, hb5⟩; have hx5 := HX.out w5 (bel_on (bel_on hb3 hb4) hb5); obtain ⟨v0, v1, v2, v3⟩ := hx5))
      go_ret
      exact ⟨rfl, bel_on hb0 (bel_on (bel_on hb3' hb4) hb5)⟩
    · by_cases h3 : 100 < m
      · have h3i : (100 : Int) < (m : Int) := by omega
        clear HL
        go_wp2_with (first | (go_at_call 33; refine (composeBegun_any _).mono ?_; rintro e w4 ⟨rfl, hb4⟩; clear s0 s1 s2 s3 t0 t1 t2 t3) | (go_at_call 13; refine (scoreBegun_any _).mono ?_; rintro e w5 ⟨rfl, hb5⟩; have hx5 := HX.out w5 (bel_on (bel_on hb3 hb4) hb5); obtain ⟨v0, v1, v2, v3⟩ := hx5))
        go_ret
        exact ⟨rfl, bel_on hb0 (bel_on (bel_on hb3' hb4) hb5)⟩
      · have h3i : ¬ (100 : Int) < (m : Int) := by omega
        have h4i : (100 : Int) < (mc : Int) := by have := HL.out; omega
        clear HL
        go_wp2_with (first | (go_at_call 33; refine (composeBegun_any _).mono ?_; rintro e w4 ⟨rfl, hb4⟩; clear s0 s1 s2 s3 t0 t1 t2 t3) | (go_at_call 13; refine (scoreBegun_any _).mono ?_; rintro e w5 ⟨rfl, hb5⟩; have hx5 := HX.out w5 (bel_on (bel_on hb3 hb4) hb5); obtain ⟨v0, v1, v2, v3⟩ := hx5))
        go_ret
        exact ⟨rfl, bel_on hb0 (bel_on (bel_on hb3' hb4) hb5)⟩
end Go.Proofs.Yteehgcbjmdideaa

/- For the law 'ComposeCosts': what Score answers, and that what is grown is one. (Made by wip/gen/cpz.py.) -/
namespace Go.Proofs.Yteehgcbjmdideaa
open Go.RowKit

section
variable {E : List Edg} {b : List Int}

/-- a search always comes to an end -/
theorem inv_fix (hbn : b.length ≤ 400000) (hE : ∀ e ∈ E, e.v < b.length ∧ 0 ≤ e.w ∧ e.w ≤ 1000000000) : ∀ (n : Nat) (c y : List Int), muL c ≤ n → Inv E b c y → ∃ c' y', Inv E b c' y' ∧ Fix E c' := by
  intro n
  induction n with
  | zero =>
    intro c y hn hi
    by_cases hx : Fix E c
    · exact ⟨c, y, hi, hx⟩
    · exfalso
      refine hx fun e he h0 => ?_
      obtain ⟨j, hj⟩ := List.mem_iff_getElem?.1 he
      obtain ⟨h1, h2, h3⟩ := hE e he
      cases hb : betterB (plusC (gI c e.u) e.w) (gI c e.v) with
      | true =>
        have := (hi.step hbn hj h1 h2 h3 hb).2
        omega
      | false =>
        have hp : plusC (gI c e.u) e.w = gI c e.u + e.w := by unfold plusC; rw [if_neg (by omega)]
        have hl := hi.lo e.v
        have : ¬ (0 ≤ plusC (gI c e.u) e.w ∧ (gI c e.v = -1 ∨ plusC (gI c e.u) e.w < gI c e.v)) := fun h => by
          rw [(better_iff (plusC_lo _ _) (hi.lo _)).2 h] at hb
          exact Bool.noConfusion hb
        rw [hp] at this
        omega
  | succ n ih =>
    intro c y hn hi
    by_cases hs : ∃ (j : Nat) (e : Edg), E[j]? = some e ∧ betterB (plusC (gI c e.u) e.w) (gI c e.v) = true
    · obtain ⟨j, e, hj, hb⟩ := hs
      obtain ⟨h1, h2, h3⟩ := hE e (List.mem_of_getElem? hj)
      obtain ⟨g1, g2⟩ := hi.step hbn hj h1 h2 h3 hb
      exact ih _ _ (by omega) g1
    · refine ⟨c, y, hi, fun e he h0 => ?_⟩
      obtain ⟨j, hj⟩ := List.mem_iff_getElem?.1 he
      obtain ⟨h1, h2, h3⟩ := hE e he
      have hp : plusC (gI c e.u) e.w = gI c e.u + e.w := by unfold plusC; rw [if_neg (by omega)]
      have hl := hi.lo e.v
      have : ¬ (0 ≤ plusC (gI c e.u) e.w ∧ (gI c e.v = -1 ∨ plusC (gI c e.u) e.w < gI c e.v)) := fun h => hs ⟨j, e, hj, (better_iff (plusC_lo _ _) (hi.lo _)).2 h⟩
      rw [hp] at this
      omega
end

/-- how much two words cost at most -/
theorem best_top {f : FstD} {ins outs : List Int} {N s0 : Nat} (hok : OkW f ins outs N s0) {x : Int} (h : BestP f ins outs s0 x) : x ≤ 1000000000000000 := by
  have hb := (best_path hok).2 h
  rcases hb with ⟨rfl, _⟩ | ⟨_, ⟨v, k, z, hw, h0, rfl⟩, hm⟩
  · omega
  · have hlen : (bgS s0 (totS ins outs N)).length = totS ins outs N := bgS_len _ _
    have hbg : ∀ v, gI (bgS s0 (totS ins outs N)) v = -1 ∨ gI (bgS s0 (totS ins outs N)) v = 0 := fun v => by
      rw [bgS_at]
      split
      · exact Or.inr rfl
      · exact Or.inl rfl
    obtain ⟨c, y, hi, hx⟩ := inv_fix (E := EdS f ins outs N) (b := bgS s0 (totS ins outs N)) (by rw [hlen]; exact hok.tot) (by rw [hlen]; exact edS_bounds hok.n1 hok.arcs) _ _ _ (Nat.le_refl _) (Inv.start (fun v => by rcases hbg v with h | h <;> omega) (fun v => by rcases hbg v with h | h <;> omega))
    obtain ⟨g1, g2⟩ := fix_le hi.le hx hw
    rcases hi.ach v with g3 | ⟨k', g3⟩
    · omega
    · have g4 := hm v k' _ g3 h0
      have g5 := hi.topK (by rw [hlen]; exact hok.tot) v
      have g6 : finS (totS ins outs N) N f.final v ≤ 1000000000 := by
        unfold finS
        split
        · exact gI_of f.final (fun x => x ≤ 1000000000) (fun x hx => by rcases hok.fin x hx with h | h <;> omega) (by omega) _
        · omega
      omega

/-- what 'Score' answers -/
theorem score_out (f : FstD) (ins outs : List Int) (fin arcs iv ov : Value) (w : World) (hf : ISlice w fin f.final) (ha : ASlice w arcs f.arcs) (hI : ISlice w iv ins) (hO : ISlice w ov outs) :
    Calls Try.prog 10 #[.agg #[.int .i64 f.states, .int .i64 f.start, fin, arcs], iv, ov] w fun e w' => ∃ x, e = .returned (.tuple #[.int .i64 x, .int .i64 (chkS f ins outs)]) ∧ (chkS f ins outs = 0 → BestP f ins outs f.start.toNat x ∧ x ≤ 1000000000000000) ∧ Below w.heap.size w w' := by
  refine (score_any f ins outs fin arcs iv ov w hf ha hI hO).mono ?_
  rintro e w' ⟨z, c, rfl, ⟨h1, _, h3⟩, hb⟩
  subst h1
  refine ⟨z, rfl, fun h0 => ?_, hb⟩
  obtain ⟨N, s0, e1, e2, hok, hbest⟩ := h3 h0
  have hz := (best_path hok).1 hbest
  rw [e2, Int.toNat_natCast]
  exact ⟨hz, best_top hok hz⟩

theorem grown_det {f g : FstD} {k : Nat} : ∀ {b b' : BothD}, Grown f g k b → Grown f g k b' → b = b' := by
  induction k with
  | zero => intro b b' h h'; exact h.trans h'.symm
  | succ k ih =>
    rintro b b' ⟨c, h1, _, e⟩ ⟨c', h1', _, e'⟩
    rw [e, e', ih h1 h1']
theorem grown_down {f g : FstD} {k : Nat} (j : Nat) : ∀ {b : BothD}, Grown f g (k + j + 1) b → ∃ c, Grown f g k c ∧ k < c.ps.length := by
  induction j with
  | zero =>
    rintro b ⟨c, h1, h2, _⟩
    exact ⟨c, h1, h2⟩
  | succ j ih =>
    rintro b ⟨c, h1, _, _⟩
    exact ih h1
theorem grown_less {f g : FstD} {b b' : BothD} (h : Grown f g b.ps.length b) (h' : Grown f g b'.ps.length b') (hl : b.ps.length < b'.ps.length) : False := by
  obtain ⟨j, hj⟩ : ∃ j, b'.ps.length = b.ps.length + j + 1 := ⟨b'.ps.length - b.ps.length - 1, by omega⟩
  rw [hj] at h'
  obtain ⟨c, h1, h2⟩ := grown_down j h'
  rw [grown_det h1 h] at h2
  exact Nat.lt_irrefl _ h2
theorem grown_one {f g : FstD} {b b' : BothD} (h : Grown f g b.ps.length b) (h' : Grown f g b'.ps.length b') : b = b' := by
  rcases Nat.lt_trichotomy b.ps.length b'.ps.length with q | q | q
  · exact (grown_less h h' q).elim
  · rw [← q] at h'
    exact grown_det h h'
  · exact (grown_less h' h q).elim

/-- what Compose answers where both are right and small -/
theorem cmp_split {f g : FstD} (kf : Fine f) (kg : Fine g) (hE : errC f g = 0) (ins outs : List Int) :
    (∃ b, Grown f g b.ps.length b ∧ tooD (cmpD f g b (leastL b.arcs)) = true ∧ ∀ X u, CmpRes f g X u → X = ⟨0, 0, [], []⟩ ∧ u = 2) ∨
    (∀ X u, CmpRes f g X u → u = 0 ∧ checkD X = 0 ∧ X.start = 0 ∧ ∀ x, BestP X ins outs 0 x → Mn (PairT f g ins outs) x) := by
  by_cases h : ∃ b, Grown f g b.ps.length b ∧ tooD (cmpD f g b (leastL b.arcs)) = true
  · obtain ⟨b, hb, ht⟩ := h
    refine Or.inl ⟨b, hb, ht, fun X u hR => ?_⟩
    rcases hR with ⟨h0, _⟩ | ⟨_, b', hb', hR⟩
    · exact absurd hE h0
    · rw [← grown_one hb hb'] at hR
      rcases hR with ⟨_, h2, h3⟩ | ⟨h1, _⟩
      · exact ⟨h3, h2⟩
      · rw [ht] at h1; cases h1
  · refine Or.inr fun X u hR => ?_
    rcases hR with ⟨h0, _⟩ | ⟨_, b, hb, hR⟩
    · exact absurd hE h0
    · rcases hR with ⟨h1, _⟩ | ⟨h1, h2, h3⟩
      · exact absurd ⟨b, hb, h1⟩ h
      · refine ⟨h2, by rw [h3]; exact tooD_fine kf kg hb h1, by rw [h3]; rfl, fun x hx => ?_⟩
        rw [h3] at hx
        exact cmp_best (grown_inv kf kg hb) (leastL_min b.arcs) hx
end Go.Proofs.Yteehgcbjmdideaa

/- The law 'ComposeCosts': all is right. (Made by wip/gen/cpz.py.) -/
namespace Go.Proofs.Yteehgcbjmdideaa
open Go.RowKit
attribute [local go_sem ↓] Go.wp_at_zero Go.wp_at_succ
set_option maxRecDepth 100000

theorem word40 {l : List Int} (h : wordD l = 0) : l.length ≤ 40 := by
  unfold wordD at h
  split at h
  · cases h
  · omega

theorem composedOf_at (f g : FstD) (ins outs : List Int) (fa : Option Addr) (fn fc : Nat) (aa : Option Addr) (m ac : Nat) (ga : Option Addr) (gn gc : Nat) (ca : Option Addr) (mc cc : Nat) (ia : Option Addr) (il ic : Nat) (oa : Option Addr) (ol oc : Nat) (w : World)
    (kf : Fine f) (kg : Fine g) (hN2 : f.states ≤ 12) (hM2 : g.states ≤ 12) (hal : f.arcs.length = m) (hal' : g.arcs.length = mc) (hm : m ≤ 100) (hmc : mc ≤ 100) (hil : ins.length = il) (hol : outs.length = ol) (hi40 : il ≤ 12) (ho40 : ol ≤ 12)
    (h1 : ISlice w (.slice fa fn fc) f.final) (h2 : ISlice w (.slice ga gn gc) g.final) (h3 : ASlice w (.slice aa m ac) f.arcs) (h4 : ASlice w (.slice ca mc cc) g.arcs) (h5 : ISlice w (.slice ia il ic) ins) (h6 : ISlice w (.slice oa ol oc) outs) :
    Calls Try.prog 35 #[.agg #[.int .i64 f.states, .int .i64 f.start, .slice fa fn fc, .slice aa m ac], .agg #[.int .i64 g.states, .int .i64 g.start, .slice ga gn gc, .slice ca mc cc], .slice ia il ic, .slice oa ol oc] w fun e w' => ∃ x, e = .returned (.int .i64 x) ∧ Mn (PairT f g ins outs) x ∧ Below w.heap.size w w' := by
  obtain ⟨N, hN⟩ : ∃ N : Nat, f.states = N := ⟨f.states.toNat, by have := kf.s1; omega⟩
  obtain ⟨M, hM⟩ : ∃ N : Nat, g.states = N := ⟨g.states.toNat, by have := kg.s1; omega⟩
  obtain ⟨s0, hs⟩ : ∃ N : Nat, f.start = N := ⟨f.start.toNat, by have := kf.b1; omega⟩
  obtain ⟨t0, ht⟩ : ∃ N : Nat, g.start = N := ⟨g.start.toNat, by have := kg.b1; omega⟩
  have e1 : fn = N := by
    obtain ⟨_, _, _, he, hl, _⟩ := h1.lenOf
    injection he with _ he _
    have := kf.len
    omega
  have e2 : gn = M := by
    obtain ⟨_, _, _, he, hl, _⟩ := h2.lenOf
    injection he with _ he _
    have := kg.len
    omega
  subst e1 e2
  rw [hN, hM, hs, ht]
  exact composedOf_any f g ins outs _ _ s0 t0 fa fc ga gc aa m ac ca mc cc ia il ic oa ol oc w kf kg hN hM hs ht (by omega) (by omega) hal hal' hm hmc hil hol hi40 ho40 h1 h2 h3 h4 h5 h6

/-- the law's last line -/
theorem last_line {f g : FstD} (kf : Fine f) (kg : Fine g) {ins btw outs : List Int} {n a b : Int} (hn : Mn (PairT f g ins outs) n) (h1 : BestP f ins btw f.start.toNat a) (h2 : BestP g btw outs g.start.toNat b) (ha : a ≠ -1) (hb : b ≠ -1) : n ≠ -1 ∧ n ≤ a + b := by
  rcases h1 with ⟨e, _⟩ | ⟨_, h1, _⟩
  · exact absurd e ha
  rcases h2 with ⟨e, _⟩ | ⟨_, h2, _⟩
  · exact absurd e hb
  have hp := between_tot kf (s0 := f.start.toNat) (t0 := g.start.toNat) (Int.toNat_of_nonneg kf.b1).symm (Int.toNat_of_nonneg kg.b1).symm h1 h2
  rcases hn with ⟨_, h⟩ | ⟨h0, _, h⟩
  · exact absurd hp (h _)
  · exact ⟨by omega, h _ hp⟩
end Go.Proofs.Yteehgcbjmdideaa

/- The law 'ComposeCosts': all is right. (Made by wip/gen/cpz.py.) -/
namespace Go.Proofs.Yteehgcbjmdideaa
open Go.RowKit
attribute [local go_sem ↓] Go.wp_at_zero Go.wp_at_succ
set_option maxRecDepth 100000

set_option maxHeartbeats 1600000 in
theorem ccosts_h0 (f g : FstD) (ins btw outs : List Int) (fa : Option Addr) (fn fc : Nat) (aa : Option Addr) (m ac : Nat) (ga : Option Addr) (gn gc : Nat) (ca : Option Addr) (mc cc : Nat) (ia : Option Addr) (il ic : Nat) (ba : Option Addr) (bl bc : Nat) (oa : Option Addr) (ol oc : Nat) (w : World)
    (hf : ISlice w (.slice fa fn fc) f.final) (ha : ASlice w (.slice aa m ac) f.arcs) (hf' : ISlice w (.slice ga gn gc) g.final) (ha' : ASlice w (.slice ca mc cc) g.arcs) (hI : ISlice w (.slice ia il ic) ins) (hB : ISlice w (.slice ba bl bc) btw) (hO : ISlice w (.slice oa ol oc) outs)
    (hal : f.arcs.length = m) (hal' : g.arcs.length = mc) (hil : ins.length = il) (hol : outs.length = ol) (kf : Fine f) (kg : Fine g) (hl1 : f.states ≤ 12) (hl2 : g.states ≤ 12) (hl3 : m ≤ 100) (hl4 : mc ≤ 100) (hc1 : checkD f = 0) (hc2 : checkD g = 0) (hE : ∀ X u, CmpRes f g X u → u = 0 ∧ checkD X = 0 ∧ X.start = 0 ∧ ∀ x, BestP X ins outs 0 x → Mn (PairT f g ins outs) x) (hw : wordD ins ≠ 0) :
    Calls Try.prog 6 #[.agg #[.int .i64 f.states, .int .i64 f.start, .slice fa fn fc, .slice aa m ac], .agg #[.int .i64 g.states, .int .i64 g.start, .slice ga gn gc, .slice ca mc cc], .slice ia il ic, .slice ba bl bc, .slice oa ol oc] w fun e w' => e = .returned (.bool true) ∧ Below w.heap.size w w' := by
  have HWI : Hid (wordD ins ≠ 0) := hw
  clear hw
  have HE : Hid (∀ X u, CmpRes f g X u → u = 0 ∧ checkD X = 0 ∧ X.start = 0 ∧ ∀ x, BestP X ins outs 0 x → Mn (PairT f g ins outs) x) := hE
  have HC : Hid (twoD f g = 0) := by
    show twoD f g = 0
    unfold twoD
    rw [if_pos hc1, hc2]
  have HK : Hid (Fine f ∧ Fine g ∧ checkD f = 0 ∧ checkD g = 0) := ⟨kf, kg, hc1, hc2⟩
  have HL : Hid (f.arcs.length = m ∧ g.arcs.length = mc ∧ ins.length = il ∧ outs.length = ol ∧ m ≤ 100 ∧ mc ≤ 100) := ⟨hal, hal', hil, hol, hl3, hl4⟩
  have n1 : ¬ 12 < f.states := by omega
  have n2 : ¬ 12 < g.states := by omega
  have n3 : ¬ (100 : Int) < (m : Int) := by omega
  have n4 : ¬ (100 : Int) < (mc : Int) := by omega
  clear hc1 hc2 hal hal' hil hol hE kf kg hl3 hl4
  obtain ⟨A, hA⟩ : ∃ A, A = (w.alloc (.cells #[.int .i64 f.states, .int .i64 f.start, .slice fa fn fc, .slice aa m ac] 25)).alloc (.cells #[.int .i64 g.states, .int .i64 g.start, .slice ga gn gc, .slice ca mc cc] 25) := ⟨_, rfl⟩
  have hb0 : Below w.heap.size w A := by rw [hA]; exact two_up w _ _
  have hqf : CellsF A w.heap.size f.states f.start (.slice fa fn fc) (.slice aa m ac) := by rw [hA]; exact (cellsF_new w _ _ _ _ _).below (bel_up (bel_self _) _)
  have hqg : CellsF A (w.heap.size + 1) g.states g.start (.slice ga gn gc) (.slice ca mc cc) := by rw [hA]; exact cellsF_at _ _ _ _ _ _ _ (one_size w _)
  have HQ : Hid (∀ W, Below A.heap.size A W → CellsF W w.heap.size f.states f.start (.slice fa fn fc) (.slice aa m ac) ∧ CellsF W (w.heap.size + 1) g.states g.start (.slice ga gn gc) (.slice ca mc cc)) := fun W h => ⟨hqf.below h, hqg.below h⟩
  have HM : Hid (∀ W, Below A.heap.size A W → (ISlice W (.slice fa fn fc) f.final ∧ ASlice W (.slice aa m ac) f.arcs) ∧ (ISlice W (.slice ga gn gc) g.final ∧ ASlice W (.slice ca mc cc) g.arcs) ∧ ISlice W (.slice ia il ic) ins ∧ ISlice W (.slice ba bl bc) btw ∧ ISlice W (.slice oa ol oc) outs) := fun W h =>
    have k := bel_on hb0 h
    ⟨⟨hf.below k, ha.below k⟩, ⟨hf'.below k, ha'.below k⟩, hI.below k, hB.below k, hO.below k⟩
  have hcmp := compose_any f g _ _ _ _ A (hf.below hb0) (ha.below hb0) (hf'.below hb0) (ha'.below hb0)
  have HA : Hid (A = (w.alloc (.cells #[.int .i64 f.states, .int .i64 f.start, .slice fa fn fc, .slice aa m ac] 25)).alloc (.cells #[.int .i64 g.states, .int .i64 g.start, .slice ga gn gc, .slice ca mc cc] 25)) := hA
  obtain ⟨p0, p1, p2, p3⟩ := hqf
  obtain ⟨r0, r1, r2, r3⟩ := hqg
  clear hA hf ha hf' ha' hI hB hO
  go_enter Try.func6, Try.ntmps6
  go_wp2_with fail
  rw [← HA.out]
  clear HA
  refine hcmp.mono ?_
  clear hcmp
  rintro e w1 ⟨X, u, hR, xa, xn, xc, ya, yn, yc, rfl, hIX, hAX, hb1⟩
  obtain ⟨rfl, hck, hst, hbest⟩ := HE.out X u hR
  have HX0 : Hid (checkD X = 0 ∧ ∀ x, BestP X ins outs X.start.toNat x → Mn (PairT f g ins outs) x) := ⟨hck, fun x hx => hbest x (by rw [hst] at hx; exact hx)⟩
  clear hR HE hck hst hbest
  obtain ⟨w2, hw2⟩ : ∃ w2, w2 = w1.alloc (.cells #[.int .i64 X.states, .int .i64 X.start, .slice xa xn xc, .slice ya yn yc] 25) := ⟨_, rfl⟩
  obtain ⟨D, hD⟩ : ∃ D, D = w1.heap.size := ⟨_, rfl⟩
  have hb2 : Below A.heap.size A w2 := by rw [hw2]; exact bel_up hb1 _
  have hu2 : Below w1.heap.size w1 w2 := by rw [hw2]; exact bel_up (bel_self w1) _
  have hqx : CellsF w2 D X.states X.start (.slice xa xn xc) (.slice ya yn yc) := by rw [hw2, hD]; exact cellsF_new w1 _ _ _ _ _
  have HX : Hid (∀ W, Below w2.heap.size w2 W → CellsF W D X.states X.start (.slice xa xn xc) (.slice ya yn yc)) := fun W h => hqx.below h
  have htwo := checkTwo_any f g _ _ _ _ w2 (HM.out w2 hb2).1.1 (HM.out w2 hb2).1.2 (HM.out w2 hb2).2.1.1 (HM.out w2 hb2).2.1.2 _ HC.out
  have HW2 : Hid (w2 = w1.alloc (.cells #[.int .i64 X.states, .int .i64 X.start, .slice xa xn xc, .slice ya yn yc] 25) ∧ D = w1.heap.size) := ⟨hw2, hD⟩
  obtain ⟨⟨s0, s1, s2, s3⟩, ⟨t0, t1, t2, t3⟩⟩ := HQ.out w1 hb1
  obtain ⟨⟨s0', s1', s2', s3'⟩, ⟨t0', t1', t2', t3'⟩⟩ := HQ.out (w1.alloc (.cells #[.int .i64 X.states, .int .i64 X.start, .slice xa xn xc, .slice ya yn yc] 25)) (bel_up hb1 _)
  clear hw2 hD hqx
  go_wp2_with fail
  rw [← HW2.out.1, ← HW2.out.2]
  clear HW2 s0 s1 s2 s3 t0 t1 t2 t3 p0 p1 p2 p3 r0 r1 r2 r3
  refine htwo.mono ?_
  rintro e w3 ⟨rfl, hb3⟩
  have hb3' := bel_on hb2 hb3
  obtain ⟨⟨s0, s1, s2, s3⟩, ⟨t0, t1, t2, t3⟩⟩ := HQ.out w3 hb3'
  clear htwo s0' s1' s2' s3' t0' t1' t2' t3'
  clear HC
  have HMX : Hid (∀ W, Below w2.heap.size w2 W → ISlice W (.slice xa xn xc) X.final ∧ ASlice W (.slice ya yn yc) X.arcs) := fun W h => ⟨hIX.slice.below (bel_on hu2 h), hAX.slice.below (bel_on hu2 h)⟩
  clear hIX hAX
  go_wp2_with (first | (go_at_call 33; refine (composeBegun_any _).mono ?_; rintro e w4 ⟨rfl, hb4⟩; clear s0 s1 s2 s3 t0 t1 t2 t3) | (go_at_call 13; refine (scoreBegun_any _).mono ?_; rintro e w5 ⟨rfl, hb5⟩; have hx5 := HX.out w5 (bel_on (bel_on hb3 hb4) hb5); obtain ⟨v0, v1, v2, v3⟩ := hx5))
  have hb5' : Below w2.heap.size w2 w5 := bel_on (bel_on hb3 hb4) hb5
  have hck := checkFst_any X _ _ w5 (HMX.out w5 hb5').1 (HMX.out w5 hb5').2
  rw [HX0.out.1] at hck
  refine hck.mono ?_
  rintro e w6 ⟨rfl, hb6⟩
  have hb6' := bel_on hb5' hb6
  clear hck hb5 hb6 hb5' v0 v1 v2 v3
  have hwi := checkWord_any ins ia il ic w6 (HM.out w6 (bel_on hb2 hb6')).2.2.1 HL.out.2.2.1
  obtain ⟨v0, v1, v2, v3⟩ := HX.out w6 hb6'
  obtain ⟨c1, hc1⟩ : ∃ c, wordD ins = c := ⟨_, rfl⟩
  rw [hc1] at hwi
  have h1b : (c1 != 0) = true := by have := HWI.out; rw [hc1] at this; simpa using this
  clear hc1
  go_wp2_with fail
  refine hwi.mono ?_
  rintro e w7 ⟨rfl, hb7⟩
  have hb7' := bel_on hb6' hb7
  clear v0 v1 v2 v3 hwi
  obtain ⟨v0, v1, v2, v3⟩ := HX.out w7 hb7'
  have hck := checkFst_any X _ _ _ (HMX.out _ hb7').1 (HMX.out _ hb7').2
  rw [HX0.out.1] at hck
  go_wp2_with (go_at_call 18; refine hck.mono ?_; rintro e w9 ⟨rfl, hb9⟩)
  go_ret
  exact ⟨rfl, bel_on hb0 (bel_on hb2 (bel_on hb7' hb9))⟩

set_option maxHeartbeats 1600000 in
theorem ccosts_h1 (f g : FstD) (ins btw outs : List Int) (fa : Option Addr) (fn fc : Nat) (aa : Option Addr) (m ac : Nat) (ga : Option Addr) (gn gc : Nat) (ca : Option Addr) (mc cc : Nat) (ia : Option Addr) (il ic : Nat) (ba : Option Addr) (bl bc : Nat) (oa : Option Addr) (ol oc : Nat) (w : World)
    (hf : ISlice w (.slice fa fn fc) f.final) (ha : ASlice w (.slice aa m ac) f.arcs) (hf' : ISlice w (.slice ga gn gc) g.final) (ha' : ASlice w (.slice ca mc cc) g.arcs) (hI : ISlice w (.slice ia il ic) ins) (hB : ISlice w (.slice ba bl bc) btw) (hO : ISlice w (.slice oa ol oc) outs)
    (hal : f.arcs.length = m) (hal' : g.arcs.length = mc) (hil : ins.length = il) (hol : outs.length = ol) (kf : Fine f) (kg : Fine g) (hl1 : f.states ≤ 12) (hl2 : g.states ≤ 12) (hl3 : m ≤ 100) (hl4 : mc ≤ 100) (hc1 : checkD f = 0) (hc2 : checkD g = 0) (hE : ∀ X u, CmpRes f g X u → u = 0 ∧ checkD X = 0 ∧ X.start = 0 ∧ ∀ x, BestP X ins outs 0 x → Mn (PairT f g ins outs) x) (hw : wordD ins = 0) (hv : wordD outs ≠ 0) :
    Calls Try.prog 6 #[.agg #[.int .i64 f.states, .int .i64 f.start, .slice fa fn fc, .slice aa m ac], .agg #[.int .i64 g.states, .int .i64 g.start, .slice ga gn gc, .slice ca mc cc], .slice ia il ic, .slice ba bl bc, .slice oa ol oc] w fun e w' => e = .returned (.bool true) ∧ Below w.heap.size w w' := by
  have HWI : Hid (wordD ins = 0) := hw
  have HWO : Hid (wordD outs ≠ 0) := hv
  clear hw hv
  have HE : Hid (∀ X u, CmpRes f g X u → u = 0 ∧ checkD X = 0 ∧ X.start = 0 ∧ ∀ x, BestP X ins outs 0 x → Mn (PairT f g ins outs) x) := hE
  have HC : Hid (twoD f g = 0) := by
    show twoD f g = 0
    unfold twoD
    rw [if_pos hc1, hc2]
  have HK : Hid (Fine f ∧ Fine g ∧ checkD f = 0 ∧ checkD g = 0) := ⟨kf, kg, hc1, hc2⟩
  have HL : Hid (f.arcs.length = m ∧ g.arcs.length = mc ∧ ins.length = il ∧ outs.length = ol ∧ m ≤ 100 ∧ mc ≤ 100) := ⟨hal, hal', hil, hol, hl3, hl4⟩
  have n1 : ¬ 12 < f.states := by omega
  have n2 : ¬ 12 < g.states := by omega
  have n3 : ¬ (100 : Int) < (m : Int) := by omega
  have n4 : ¬ (100 : Int) < (mc : Int) := by omega
  clear hc1 hc2 hal hal' hil hol hE kf kg hl3 hl4
  obtain ⟨A, hA⟩ : ∃ A, A = (w.alloc (.cells #[.int .i64 f.states, .int .i64 f.start, .slice fa fn fc, .slice aa m ac] 25)).alloc (.cells #[.int .i64 g.states, .int .i64 g.start, .slice ga gn gc, .slice ca mc cc] 25) := ⟨_, rfl⟩
  have hb0 : Below w.heap.size w A := by rw [hA]; exact two_up w _ _
  have hqf : CellsF A w.heap.size f.states f.start (.slice fa fn fc) (.slice aa m ac) := by rw [hA]; exact (cellsF_new w _ _ _ _ _).below (bel_up (bel_self _) _)
  have hqg : CellsF A (w.heap.size + 1) g.states g.start (.slice ga gn gc) (.slice ca mc cc) := by rw [hA]; exact cellsF_at _ _ _ _ _ _ _ (one_size w _)
  have HQ : Hid (∀ W, Below A.heap.size A W → CellsF W w.heap.size f.states f.start (.slice fa fn fc) (.slice aa m ac) ∧ CellsF W (w.heap.size + 1) g.states g.start (.slice ga gn gc) (.slice ca mc cc)) := fun W h => ⟨hqf.below h, hqg.below h⟩
  have HM : Hid (∀ W, Below A.heap.size A W → (ISlice W (.slice fa fn fc) f.final ∧ ASlice W (.slice aa m ac) f.arcs) ∧ (ISlice W (.slice ga gn gc) g.final ∧ ASlice W (.slice ca mc cc) g.arcs) ∧ ISlice W (.slice ia il ic) ins ∧ ISlice W (.slice ba bl bc) btw ∧ ISlice W (.slice oa ol oc) outs) := fun W h =>
    have k := bel_on hb0 h
    ⟨⟨hf.below k, ha.below k⟩, ⟨hf'.below k, ha'.below k⟩, hI.below k, hB.below k, hO.below k⟩
  have hcmp := compose_any f g _ _ _ _ A (hf.below hb0) (ha.below hb0) (hf'.below hb0) (ha'.below hb0)
  have HA : Hid (A = (w.alloc (.cells #[.int .i64 f.states, .int .i64 f.start, .slice fa fn fc, .slice aa m ac] 25)).alloc (.cells #[.int .i64 g.states, .int .i64 g.start, .slice ga gn gc, .slice ca mc cc] 25)) := hA
  obtain ⟨p0, p1, p2, p3⟩ := hqf
  obtain ⟨r0, r1, r2, r3⟩ := hqg
  clear hA hf ha hf' ha' hI hB hO
  go_enter Try.func6, Try.ntmps6
  go_wp2_with fail
  rw [← HA.out]
  clear HA
  refine hcmp.mono ?_
  clear hcmp
  rintro e w1 ⟨X, u, hR, xa, xn, xc, ya, yn, yc, rfl, hIX, hAX, hb1⟩
  obtain ⟨rfl, hck, hst, hbest⟩ := HE.out X u hR
  have HX0 : Hid (checkD X = 0 ∧ ∀ x, BestP X ins outs X.start.toNat x → Mn (PairT f g ins outs) x) := ⟨hck, fun x hx => hbest x (by rw [hst] at hx; exact hx)⟩
  clear hR HE hck hst hbest
  obtain ⟨w2, hw2⟩ : ∃ w2, w2 = w1.alloc (.cells #[.int .i64 X.states, .int .i64 X.start, .slice xa xn xc, .slice ya yn yc] 25) := ⟨_, rfl⟩
  obtain ⟨D, hD⟩ : ∃ D, D = w1.heap.size := ⟨_, rfl⟩
  have hb2 : Below A.heap.size A w2 := by rw [hw2]; exact bel_up hb1 _
  have hu2 : Below w1.heap.size w1 w2 := by rw [hw2]; exact bel_up (bel_self w1) _
  have hqx : CellsF w2 D X.states X.start (.slice xa xn xc) (.slice ya yn yc) := by rw [hw2, hD]; exact cellsF_new w1 _ _ _ _ _
  have HX : Hid (∀ W, Below w2.heap.size w2 W → CellsF W D X.states X.start (.slice xa xn xc) (.slice ya yn yc)) := fun W h => hqx.below h
  have htwo := checkTwo_any f g _ _ _ _ w2 (HM.out w2 hb2).1.1 (HM.out w2 hb2).1.2 (HM.out w2 hb2).2.1.1 (HM.out w2 hb2).2.1.2 _ HC.out
  have HW2 : Hid (w2 = w1.alloc (.cells #[.int .i64 X.states, .int .i64 X.start, .slice xa xn xc, .slice ya yn yc] 25) ∧ D = w1.heap.size) := ⟨hw2, hD⟩
  obtain ⟨⟨s0, s1, s2, s3⟩, ⟨t0, t1, t2, t3⟩⟩ := HQ.out w1 hb1
  obtain ⟨⟨s0', s1', s2', s3'⟩, ⟨t0', t1', t2', t3'⟩⟩ := HQ.out (w1.alloc (.cells #[.int .i64 X.states, .int .i64 X.start, .slice xa xn xc, .slice ya yn yc] 25)) (bel_up hb1 _)
  clear hw2 hD hqx
  go_wp2_with fail
  rw [← HW2.out.1, ← HW2.out.2]
  clear HW2 s0 s1 s2 s3 t0 t1 t2 t3 p0 p1 p2 p3 r0 r1 r2 r3
  refine htwo.mono ?_
  rintro e w3 ⟨rfl, hb3⟩
  have hb3' := bel_on hb2 hb3
  obtain ⟨⟨s0, s1, s2, s3⟩, ⟨t0, t1, t2, t3⟩⟩ := HQ.out w3 hb3'
  clear htwo s0' s1' s2' s3' t0' t1' t2' t3'
  clear HC
  have HMX : Hid (∀ W, Below w2.heap.size w2 W → ISlice W (.slice xa xn xc) X.final ∧ ASlice W (.slice ya yn yc) X.arcs) := fun W h => ⟨hIX.slice.below (bel_on hu2 h), hAX.slice.below (bel_on hu2 h)⟩
  clear hIX hAX
  go_wp2_with (first | (go_at_call 33; refine (composeBegun_any _).mono ?_; rintro e w4 ⟨rfl, hb4⟩; clear s0 s1 s2 s3 t0 t1 t2 t3) | (go_at_call 13; refine (scoreBegun_any _).mono ?_; rintro e w5 ⟨rfl, hb5⟩; have hx5 := HX.out w5 (bel_on (bel_on hb3 hb4) hb5); obtain ⟨v0, v1, v2, v3⟩ := hx5))
  have hb5' : Below w2.heap.size w2 w5 := bel_on (bel_on hb3 hb4) hb5
  have hck := checkFst_any X _ _ w5 (HMX.out w5 hb5').1 (HMX.out w5 hb5').2
  rw [HX0.out.1] at hck
  refine hck.mono ?_
  rintro e w6 ⟨rfl, hb6⟩
  have hb6' := bel_on hb5' hb6
  clear hck hb5 hb6 hb5' v0 v1 v2 v3
  have hwi := checkWord_any ins ia il ic w6 (HM.out w6 (bel_on hb2 hb6')).2.2.1 HL.out.2.2.1
  obtain ⟨v0, v1, v2, v3⟩ := HX.out w6 hb6'
  rw [HWI.out] at hwi
  go_wp2_with fail
  refine hwi.mono ?_
  rintro e w7 ⟨rfl, hb7⟩
  have hb7' := bel_on hb6' hb7
  clear v0 v1 v2 v3 hwi hb7 hb6'
  have hwo := checkWord_any outs oa ol oc w7 (HM.out w7 (bel_on hb2 hb7')).2.2.2.2 HL.out.2.2.2.1
  obtain ⟨v0, v1, v2, v3⟩ := HX.out w7 hb7'
  obtain ⟨c1, hc1⟩ : ∃ c, wordD outs = c := ⟨_, rfl⟩
  rw [hc1] at hwo
  have h1b : (c1 != 0) = true := by have := HWO.out; rw [hc1] at this; simpa using this
  clear hc1
  go_wp2_with fail
  refine hwo.mono ?_
  rintro e w8 ⟨rfl, hb8⟩
  have hb8' := bel_on hb7' hb8
  clear v0 v1 v2 v3 hwo
  obtain ⟨v0, v1, v2, v3⟩ := HX.out w8 hb8'
  have hck := checkFst_any X _ _ _ (HMX.out _ hb8').1 (HMX.out _ hb8').2
  rw [HX0.out.1] at hck
  go_wp2_with (go_at_call 18; refine hck.mono ?_; rintro e w9 ⟨rfl, hb9⟩)
  go_ret
  exact ⟨rfl, bel_on hb0 (bel_on hb2 (bel_on hb8' hb9))⟩

set_option maxHeartbeats 1600000 in
theorem ccosts_h2 (f g : FstD) (ins btw outs : List Int) (fa : Option Addr) (fn fc : Nat) (aa : Option Addr) (m ac : Nat) (ga : Option Addr) (gn gc : Nat) (ca : Option Addr) (mc cc : Nat) (ia : Option Addr) (il ic : Nat) (ba : Option Addr) (bl bc : Nat) (oa : Option Addr) (ol oc : Nat) (w : World)
    (hf : ISlice w (.slice fa fn fc) f.final) (ha : ASlice w (.slice aa m ac) f.arcs) (hf' : ISlice w (.slice ga gn gc) g.final) (ha' : ASlice w (.slice ca mc cc) g.arcs) (hI : ISlice w (.slice ia il ic) ins) (hB : ISlice w (.slice ba bl bc) btw) (hO : ISlice w (.slice oa ol oc) outs)
    (hal : f.arcs.length = m) (hal' : g.arcs.length = mc) (hil : ins.length = il) (hol : outs.length = ol) (kf : Fine f) (kg : Fine g) (hl1 : f.states ≤ 12) (hl2 : g.states ≤ 12) (hl3 : m ≤ 100) (hl4 : mc ≤ 100) (hc1 : checkD f = 0) (hc2 : checkD g = 0) (hE : ∀ X u, CmpRes f g X u → u = 0 ∧ checkD X = 0 ∧ X.start = 0 ∧ ∀ x, BestP X ins outs 0 x → Mn (PairT f g ins outs) x) (hw : wordD ins = 0) (hv : wordD outs = 0) (hlg : 12 < il + ol) :
    Calls Try.prog 6 #[.agg #[.int .i64 f.states, .int .i64 f.start, .slice fa fn fc, .slice aa m ac], .agg #[.int .i64 g.states, .int .i64 g.start, .slice ga gn gc, .slice ca mc cc], .slice ia il ic, .slice ba bl bc, .slice oa ol oc] w fun e w' => e = .returned (.bool true) ∧ Below w.heap.size w w' := by
  have HWI : Hid (wordD ins = 0) := hw
  have HWO : Hid (wordD outs = 0) := hv
  have i40 : il ≤ 40 := by rw [← hil]; exact word40 hw
  have o40 : ol ≤ 40 := by rw [← hol]; exact word40 hv
  clear hw hv
  have HE : Hid (∀ X u, CmpRes f g X u → u = 0 ∧ checkD X = 0 ∧ X.start = 0 ∧ ∀ x, BestP X ins outs 0 x → Mn (PairT f g ins outs) x) := hE
  have HC : Hid (twoD f g = 0) := by
    show twoD f g = 0
    unfold twoD
    rw [if_pos hc1, hc2]
  have HK : Hid (Fine f ∧ Fine g ∧ checkD f = 0 ∧ checkD g = 0) := ⟨kf, kg, hc1, hc2⟩
  have HL : Hid (f.arcs.length = m ∧ g.arcs.length = mc ∧ ins.length = il ∧ outs.length = ol ∧ m ≤ 100 ∧ mc ≤ 100) := ⟨hal, hal', hil, hol, hl3, hl4⟩
  have n1 : ¬ 12 < f.states := by omega
  have n2 : ¬ 12 < g.states := by omega
  have n3 : ¬ (100 : Int) < (m : Int) := by omega
  have n4 : ¬ (100 : Int) < (mc : Int) := by omega
  clear hc1 hc2 hal hal' hil hol hE kf kg hl3 hl4
  obtain ⟨A, hA⟩ : ∃ A, A = (w.alloc (.cells #[.int .i64 f.states, .int .i64 f.start, .slice fa fn fc, .slice aa m ac] 25)).alloc (.cells #[.int .i64 g.states, .int .i64 g.start, .slice ga gn gc, .slice ca mc cc] 25) := ⟨_, rfl⟩
  have hb0 : Below w.heap.size w A := by rw [hA]; exact two_up w _ _
  have hqf : CellsF A w.heap.size f.states f.start (.slice fa fn fc) (.slice aa m ac) := by rw [hA]; exact (cellsF_new w _ _ _ _ _).below (bel_up (bel_self _) _)
  have hqg : CellsF A (w.heap.size + 1) g.states g.start (.slice ga gn gc) (.slice ca mc cc) := by rw [hA]; exact cellsF_at _ _ _ _ _ _ _ (one_size w _)
  have HQ : Hid (∀ W, Below A.heap.size A W → CellsF W w.heap.size f.states f.start (.slice fa fn fc) (.slice aa m ac) ∧ CellsF W (w.heap.size + 1) g.states g.start (.slice ga gn gc) (.slice ca mc cc)) := fun W h => ⟨hqf.below h, hqg.below h⟩
  have HM : Hid (∀ W, Below A.heap.size A W → (ISlice W (.slice fa fn fc) f.final ∧ ASlice W (.slice aa m ac) f.arcs) ∧ (ISlice W (.slice ga gn gc) g.final ∧ ASlice W (.slice ca mc cc) g.arcs) ∧ ISlice W (.slice ia il ic) ins ∧ ISlice W (.slice ba bl bc) btw ∧ ISlice W (.slice oa ol oc) outs) := fun W h =>
    have k := bel_on hb0 h
    ⟨⟨hf.below k, ha.below k⟩, ⟨hf'.below k, ha'.below k⟩, hI.below k, hB.below k, hO.below k⟩
  have hcmp := compose_any f g _ _ _ _ A (hf.below hb0) (ha.below hb0) (hf'.below hb0) (ha'.below hb0)
  have HA : Hid (A = (w.alloc (.cells #[.int .i64 f.states, .int .i64 f.start, .slice fa fn fc, .slice aa m ac] 25)).alloc (.cells #[.int .i64 g.states, .int .i64 g.start, .slice ga gn gc, .slice ca mc cc] 25)) := hA
  obtain ⟨p0, p1, p2, p3⟩ := hqf
  obtain ⟨r0, r1, r2, r3⟩ := hqg
  clear hA hf ha hf' ha' hI hB hO
  go_enter Try.func6, Try.ntmps6
  go_wp2_with fail
  rw [← HA.out]
  clear HA
  refine hcmp.mono ?_
  clear hcmp
  rintro e w1 ⟨X, u, hR, xa, xn, xc, ya, yn, yc, rfl, hIX, hAX, hb1⟩
  obtain ⟨rfl, hck, hst, hbest⟩ := HE.out X u hR
  have HX0 : Hid (checkD X = 0 ∧ ∀ x, BestP X ins outs X.start.toNat x → Mn (PairT f g ins outs) x) := ⟨hck, fun x hx => hbest x (by rw [hst] at hx; exact hx)⟩
  clear hR HE hck hst hbest
  obtain ⟨w2, hw2⟩ : ∃ w2, w2 = w1.alloc (.cells #[.int .i64 X.states, .int .i64 X.start, .slice xa xn xc, .slice ya yn yc] 25) := ⟨_, rfl⟩
  obtain ⟨D, hD⟩ : ∃ D, D = w1.heap.size := ⟨_, rfl⟩
  have hb2 : Below A.heap.size A w2 := by rw [hw2]; exact bel_up hb1 _
  have hu2 : Below w1.heap.size w1 w2 := by rw [hw2]; exact bel_up (bel_self w1) _
  have hqx : CellsF w2 D X.states X.start (.slice xa xn xc) (.slice ya yn yc) := by rw [hw2, hD]; exact cellsF_new w1 _ _ _ _ _
  have HX : Hid (∀ W, Below w2.heap.size w2 W → CellsF W D X.states X.start (.slice xa xn xc) (.slice ya yn yc)) := fun W h => hqx.below h
  have htwo := checkTwo_any f g _ _ _ _ w2 (HM.out w2 hb2).1.1 (HM.out w2 hb2).1.2 (HM.out w2 hb2).2.1.1 (HM.out w2 hb2).2.1.2 _ HC.out
  have HW2 : Hid (w2 = w1.alloc (.cells #[.int .i64 X.states, .int .i64 X.start, .slice xa xn xc, .slice ya yn yc] 25) ∧ D = w1.heap.size) := ⟨hw2, hD⟩
  obtain ⟨⟨s0, s1, s2, s3⟩, ⟨t0, t1, t2, t3⟩⟩ := HQ.out w1 hb1
  obtain ⟨⟨s0', s1', s2', s3'⟩, ⟨t0', t1', t2', t3'⟩⟩ := HQ.out (w1.alloc (.cells #[.int .i64 X.states, .int .i64 X.start, .slice xa xn xc, .slice ya yn yc] 25)) (bel_up hb1 _)
  clear hw2 hD hqx
  go_wp2_with fail
  rw [← HW2.out.1, ← HW2.out.2]
  clear HW2 s0 s1 s2 s3 t0 t1 t2 t3 p0 p1 p2 p3 r0 r1 r2 r3
  refine htwo.mono ?_
  rintro e w3 ⟨rfl, hb3⟩
  have hb3' := bel_on hb2 hb3
  obtain ⟨⟨s0, s1, s2, s3⟩, ⟨t0, t1, t2, t3⟩⟩ := HQ.out w3 hb3'
  clear htwo s0' s1' s2' s3' t0' t1' t2' t3'
  clear HC
  have HMX : Hid (∀ W, Below w2.heap.size w2 W → ISlice W (.slice xa xn xc) X.final ∧ ASlice W (.slice ya yn yc) X.arcs) := fun W h => ⟨hIX.slice.below (bel_on hu2 h), hAX.slice.below (bel_on hu2 h)⟩
  clear hIX hAX
  go_wp2_with (first | (go_at_call 33; refine (composeBegun_any _).mono ?_; rintro e w4 ⟨rfl, hb4⟩; clear s0 s1 s2 s3 t0 t1 t2 t3) | (go_at_call 13; refine (scoreBegun_any _).mono ?_; rintro e w5 ⟨rfl, hb5⟩; have hx5 := HX.out w5 (bel_on (bel_on hb3 hb4) hb5); obtain ⟨v0, v1, v2, v3⟩ := hx5))
  have hb5' : Below w2.heap.size w2 w5 := bel_on (bel_on hb3 hb4) hb5
  have hck := checkFst_any X _ _ w5 (HMX.out w5 hb5').1 (HMX.out w5 hb5').2
  rw [HX0.out.1] at hck
  refine hck.mono ?_
  rintro e w6 ⟨rfl, hb6⟩
  have hb6' := bel_on hb5' hb6
  clear hck hb5 hb6 hb5' v0 v1 v2 v3
  have hwi := checkWord_any ins ia il ic w6 (HM.out w6 (bel_on hb2 hb6')).2.2.1 HL.out.2.2.1
  obtain ⟨v0, v1, v2, v3⟩ := HX.out w6 hb6'
  rw [HWI.out] at hwi
  go_wp2_with fail
  refine hwi.mono ?_
  rintro e w7 ⟨rfl, hb7⟩
  have hb7' := bel_on hb6' hb7
  clear v0 v1 v2 v3 hwi hb7 hb6'
  have hwo := checkWord_any outs oa ol oc w7 (HM.out w7 (bel_on hb2 hb7')).2.2.2.2 HL.out.2.2.2.1
  obtain ⟨v0, v1, v2, v3⟩ := HX.out w7 hb7'
  rw [HWO.out] at hwo
  go_wp2_with fail
  refine hwo.mono ?_
  rintro e w8 ⟨rfl, hb8⟩
  have hb8' := bel_on hb7' hb8
  clear v0 v1 v2 v3 hwo hb8 hb7'
  obtain ⟨v0, v1, v2, v3⟩ := HX.out w8 hb8'
  have hwil : IntKind.i64.wrap ((il : Int) + ol) = il + ol := wrap_in _ (by omega) (by omega)
  have hgt : (12 : Int) < (il : Int) + ol := by omega
  have hck := checkFst_any X _ _ _ (HMX.out _ hb8').1 (HMX.out _ hb8').2
  rw [HX0.out.1] at hck
  go_wp2_with (go_at_call 18; refine hck.mono ?_; rintro e w9 ⟨rfl, hb9⟩)
  go_ret
  exact ⟨rfl, bel_on hb0 (bel_on hb2 (bel_on hb8' hb9))⟩
end Go.Proofs.Yteehgcbjmdideaa
