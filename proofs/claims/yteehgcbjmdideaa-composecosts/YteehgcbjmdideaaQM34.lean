/- The law 'ComposeCosts': what is composed is scored. (Made by wip/gen/cpz.py.) -/
import Derived.Test.YteehgcbjmdideaaQM33
namespace Go.Proofs.Yteehgcbjmdideaa
open Go.RowKit
attribute [local go_sem ↓] Go.wp_at_zero Go.wp_at_succ
set_option maxRecDepth 100000

set_option maxHeartbeats 3200000 in
theorem ccosts_h3 (f g : FstD) (ins btw outs : List Int) (fa : Option Addr) (fn fc : Nat) (aa : Option Addr) (m ac : Nat) (ga : Option Addr) (gn gc : Nat) (ca : Option Addr) (mc cc : Nat) (ia : Option Addr) (il ic : Nat) (ba : Option Addr) (bl bc : Nat) (oa : Option Addr) (ol oc : Nat) (w : World)
    (hf : ISlice w (.slice fa fn fc) f.final) (ha : ASlice w (.slice aa m ac) f.arcs) (hf' : ISlice w (.slice ga gn gc) g.final) (ha' : ASlice w (.slice ca mc cc) g.arcs) (hI : ISlice w (.slice ia il ic) ins) (hB : ISlice w (.slice ba bl bc) btw) (hO : ISlice w (.slice oa ol oc) outs)
    (hal : f.arcs.length = m) (hal' : g.arcs.length = mc) (hil : ins.length = il) (hol : outs.length = ol) (kf : Fine f) (kg : Fine g) (hl1 : f.states ≤ 12) (hl2 : g.states ≤ 12) (hl3 : m ≤ 100) (hl4 : mc ≤ 100) (hc1 : checkD f = 0) (hc2 : checkD g = 0) (hE : ∀ X u, CmpRes f g X u → u = 0 ∧ checkD X = 0 ∧ X.start = 0 ∧ ∀ x, BestP X ins outs 0 x → Mn (PairT f g ins outs) x) (hw : wordD ins = 0) (hv : wordD outs = 0) (hlg : il + ol ≤ 12) :
    Calls Try.prog 6 #[.agg #[.int .i64 f.states, .int .i64 f.start, .slice fa fn fc, .slice aa m ac], .agg #[.int .i64 g.states, .int .i64 g.start, .slice ga gn gc, .slice ca mc cc], .slice ia il ic, .slice ba bl bc, .slice oa ol oc] w fun e w' => e = .returned (.bool true) ∧ Below w.heap.size w w' := by
  have HWI : Hid (wordD ins = 0) := hw
  have HWO : Hid (wordD outs = 0) := hv
  have i40 : il ≤ 40 := by rw [← hil]; exact word40 hw
  have o40 : ol ≤ 40 := by rw [← hol]; exact word40 hv
  clear hw hv
  have HE : Hid (∀ X u, CmpRes f g X u → u = 0 ∧ checkD X = 0 ∧ X.start = 0 ∧ ∀ x, BestP X ins outs 0 x → Mn (PairT f g ins outs) x) := hE
  have HC : Hid (twoD f g = 0) := by
    show twoD f g = 0
    unfold twoD
    rw [if_pos hc1, hc2]
  have HK : Hid (Fine f ∧ Fine g ∧ checkD f = 0 ∧ checkD g = 0) := ⟨kf, kg, hc1, hc2⟩
  have HL : Hid (f.arcs.length = m ∧ g.arcs.length = mc ∧ ins.length = il ∧ outs.length = ol ∧ m ≤ 100 ∧ mc ≤ 100) := ⟨hal, hal', hil, hol, hl3, hl4⟩
  have n1 : ¬ 12 < f.states := by omega
  have n2 : ¬ 12 < g.states := by omega
  have n3 : ¬ (100 : Int) < (m : Int) := by omega
  have n4 : ¬ (100 : Int) < (mc : Int) := by omega
  clear hc1 hc2 hal hal' hil hol hE kf kg hl3 hl4
  obtain ⟨A, hA⟩ : ∃ A, A = (w.alloc (.cells #[.int .i64 f.states, .int .i64 f.start, .slice fa fn fc, .slice aa m ac] 25)).alloc (.cells #[.int .i64 g.states, .int .i64 g.start, .slice ga gn gc, .slice ca mc cc] 25) := ⟨_, rfl⟩
  have hb0 : Below w.heap.size w A := by rw [hA]; exact two_up w _ _
  have hqf : CellsF A w.heap.size f.states f.start (.slice fa fn fc) (.slice aa m ac) := by rw [hA]; exact (cellsF_new w _ _ _ _ _).below (bel_up (bel_self _) _)
  have hqg : CellsF A (w.heap.size + 1) g.states g.start (.slice ga gn gc) (.slice ca mc cc) := by rw [hA]; exact cellsF_at _ _ _ _ _ _ _ (one_size w _)
  have HQ : Hid (∀ W, Below A.heap.size A W → CellsF W w.heap.size f.states f.start (.slice fa fn fc) (.slice aa m ac) ∧ CellsF W (w.heap.size + 1) g.states g.start (.slice ga gn gc) (.slice ca mc cc)) := fun W h => ⟨hqf.below h, hqg.below h⟩
  have HM : Hid (∀ W, Below A.heap.size A W → (ISlice W (.slice fa fn fc) f.final ∧ ASlice W (.slice aa m ac) f.arcs) ∧ (ISlice W (.slice ga gn gc) g.final ∧ ASlice W (.slice ca mc cc) g.arcs) ∧ ISlice W (.slice ia il ic) ins ∧ ISlice W (.slice ba bl bc) btw ∧ ISlice W (.slice oa ol oc) outs) := fun W h =>
    have k := bel_on hb0 h
    ⟨⟨hf.below k, ha.below k⟩, ⟨hf'.below k, ha'.below k⟩, hI.below k, hB.below k, hO.below k⟩
  have hcmp := compose_any f g _ _ _ _ A (hf.below hb0) (ha.below hb0) (hf'.below hb0) (ha'.below hb0)
  have HA : Hid (A = (w.alloc (.cells #[.int .i64 f.states, .int .i64 f.start, .slice fa fn fc, .slice aa m ac] 25)).alloc (.cells #[.int .i64 g.states, .int .i64 g.start, .slice ga gn gc, .slice ca mc cc] 25)) := hA
  obtain ⟨p0, p1, p2, p3⟩ := hqf
  obtain ⟨r0, r1, r2, r3⟩ := hqg
  clear hA hf ha hf' ha' hI hB hO
  go_enter Try.func6, Try.ntmps6
  go_wp2_with fail
  rw [← HA.out]
  clear HA
  refine hcmp.mono ?_
  clear hcmp
  rintro e w1 ⟨X, u, hR, xa, xn, xc, ya, yn, yc, rfl, hIX, hAX, hb1⟩
  obtain ⟨rfl, hck, hst, hbest⟩ := HE.out X u hR
  have HX0 : Hid (checkD X = 0 ∧ ∀ x, BestP X ins outs X.start.toNat x → Mn (PairT f g ins outs) x) := ⟨hck, fun x hx => hbest x (by rw [hst] at hx; exact hx)⟩
  clear hR HE hck hst hbest
  obtain ⟨w2, hw2⟩ : ∃ w2, w2 = w1.alloc (.cells #[.int .i64 X.states, .int .i64 X.start, .slice xa xn xc, .slice ya yn yc] 25) := ⟨_, rfl⟩
  obtain ⟨D, hD⟩ : ∃ D, D = w1.heap.size := ⟨_, rfl⟩
  have hb2 : Below A.heap.size A w2 := by rw [hw2]; exact bel_up hb1 _
  have hu2 : Below w1.heap.size w1 w2 := by rw [hw2]; exact bel_up (bel_self w1) _
  have hqx : CellsF w2 D X.states X.start (.slice xa xn xc) (.slice ya yn yc) := by rw [hw2, hD]; exact cellsF_new w1 _ _ _ _ _
  have HX : Hid (∀ W, Below w2.heap.size w2 W → CellsF W D X.states X.start (.slice xa xn xc) (.slice ya yn yc)) := fun W h => hqx.below h
  have htwo := checkTwo_any f g _ _ _ _ w2 (HM.out w2 hb2).1.1 (HM.out w2 hb2).1.2 (HM.out w2 hb2).2.1.1 (HM.out w2 hb2).2.1.2 _ HC.out
  have HW2 : Hid (w2 = w1.alloc (.cells #[.int .i64 X.states, .int .i64 X.start, .slice xa xn xc, .slice ya yn yc] 25) ∧ D = w1.heap.size) := ⟨hw2, hD⟩
  obtain ⟨⟨s0, s1, s2, s3⟩, ⟨t0, t1, t2, t3⟩⟩ := HQ.out w1 hb1
  obtain ⟨⟨s0', s1', s2', s3'⟩, ⟨t0', t1', t2', t3'⟩⟩ := HQ.out (w1.alloc (.cells #[.int .i64 X.states, .int .i64 X.start, .slice xa xn xc, .slice ya yn yc] 25)) (bel_up hb1 _)
  clear hw2 hD hqx
  go_wp2_with fail
  rw [← HW2.out.1, ← HW2.out.2]
  clear HW2 s0 s1 s2 s3 t0 t1 t2 t3 p0 p1 p2 p3 r0 r1 r2 r3
  refine htwo.mono ?_
  rintro e w3 ⟨rfl, hb3⟩
  have hb3' := bel_on hb2 hb3
  obtain ⟨⟨s0, s1, s2, s3⟩, ⟨t0, t1, t2, t3⟩⟩ := HQ.out w3 hb3'
  clear htwo s0' s1' s2' s3' t0' t1' t2' t3'
  clear HC
  have HMX : Hid (∀ W, Below w2.heap.size w2 W → ISlice W (.slice xa xn xc) X.final ∧ ASlice W (.slice ya yn yc) X.arcs) := fun W h => ⟨hIX.slice.below (bel_on hu2 h), hAX.slice.below (bel_on hu2 h)⟩
  clear hIX hAX
  go_wp2_with (first | (go_at_call 33; refine (composeBegun_any _).mono ?_; rintro e w4 ⟨rfl, hb4⟩; clear s0 s1 s2 s3 t0 t1 t2 t3) | (go_at_call 13; refine (scoreBegun_any _).mono ?_; rintro e w5 ⟨rfl, hb5⟩; have hx5 := HX.out w5 (bel_on (bel_on hb3 hb4) hb5); obtain ⟨v0, v1, v2, v3⟩ := hx5))
  have hb5' : Below w2.heap.size w2 w5 := bel_on (bel_on hb3 hb4) hb5
  have hck := checkFst_any X _ _ w5 (HMX.out w5 hb5').1 (HMX.out w5 hb5').2
  rw [HX0.out.1] at hck
  refine hck.mono ?_
  rintro e w6 ⟨rfl, hb6⟩
  have hb6' := bel_on hb5' hb6
  clear hck hb5 hb6 hb5' v0 v1 v2 v3
  have hwi := checkWord_any ins ia il ic w6 (HM.out w6 (bel_on hb2 hb6')).2.2.1 HL.out.2.2.1
  obtain ⟨v0, v1, v2, v3⟩ := HX.out w6 hb6'
  rw [HWI.out] at hwi
  go_wp2_with fail
  refine hwi.mono ?_
  rintro e w7 ⟨rfl, hb7⟩
  have hb7' := bel_on hb6' hb7
  clear v0 v1 v2 v3 hwi hb7 hb6'
  have hwo := checkWord_any outs oa ol oc w7 (HM.out w7 (bel_on hb2 hb7')).2.2.2.2 HL.out.2.2.2.1
  obtain ⟨v0, v1, v2, v3⟩ := HX.out w7 hb7'
  rw [HWO.out] at hwo
  go_wp2_with fail
  refine hwo.mono ?_
  rintro e w8 ⟨rfl, hb8⟩
  have hb8' := bel_on hb7' hb8
  clear v0 v1 v2 v3 hwo hb8 hb7'
  obtain ⟨v0, v1, v2, v3⟩ := HX.out w8 hb8'
  have hwil : IntKind.i64.wrap ((il : Int) + ol) = il + ol := wrap_in _ (by omega) (by omega)
  have hng : ¬ (12 : Int) < (il : Int) + ol := by omega
  have hsc := score_out X ins outs _ _ _ _ w8 (HMX.out w8 hb8').1 (HMX.out w8 hb8').2 (HM.out w8 (bel_on hb2 hb8')).2.2.1 (HM.out w8 (bel_on hb2 hb8')).2.2.2.2
  have hcx : chkS X ins outs = 0 := by
    unfold chkS
    rw [if_pos HX0.out.1, if_pos HWI.out, HWO.out]
  rw [hcx] at hsc
  go_wp2_with fail
  refine hsc.mono ?_
  rintro e w9 ⟨n, rfl, hn, hb9⟩
  have HN : Hid (Mn (PairT f g ins outs) n) := HX0.out.2 n (hn (by trivial)).1
  have hb9' := bel_on hb2 (bel_on hb8' hb9)
  clear hsc hn hcx v0 v1 v2 v3 hb9
  obtain ⟨⟨s0, s1, s2, s3⟩, ⟨t0, t1, t2, t3⟩⟩ := HQ.out w9 hb9'
  have hco := composedOf_at f g ins outs fa fn fc aa m ac ga gn gc ca mc cc ia il ic oa ol oc w9 HK.out.1 HK.out.2.1 hl1 hl2 HL.out.1 HL.out.2.1 HL.out.2.2.2.2.1 HL.out.2.2.2.2.2 HL.out.2.2.1 HL.out.2.2.2.1 (by omega) (by omega) (HM.out w9 hb9').1.1 (HM.out w9 hb9').2.1.1 (HM.out w9 hb9').1.2 (HM.out w9 hb9').2.1.2 (HM.out w9 hb9').2.2.1 (HM.out w9 hb9').2.2.2.2
  go_wp2_with fail
  refine hco.mono ?_
  rintro e wA ⟨n', rfl, hn', hbA⟩
  obtain rfl : n = n' := HN.out.unique hn'
  have hbA' := bel_on hb9' hbA
  clear hco hn' hbA s0 s1 s2 s3 t0 t1 t2 t3
  obtain ⟨⟨s0, s1, s2, s3⟩, ⟨t0, t1, t2, t3⟩⟩ := HQ.out wA hbA'
  have hsf := score_out f ins btw _ _ _ _ wA (HM.out wA hbA').1.1 (HM.out wA hbA').1.2 (HM.out wA hbA').2.2.1 (HM.out wA hbA').2.2.2.1
  have hcf : chkS f ins btw = wordD btw := by
    unfold chkS
    rw [if_pos HK.out.2.2.1, if_pos HWI.out]
  rw [hcf] at hsf
  obtain ⟨cb, hcb⟩ : ∃ c, wordD btw = c := ⟨_, rfl⟩
  rw [hcb] at hsf
  have HCB : Hid (wordD btw = cb) := hcb
  clear hcb hcf
  go_wp2_with fail
  refine hsf.mono ?_
  rintro e wB ⟨a, rfl, hba, hbB⟩
  have hbB' := bel_on hbA' hbB
  clear hsf hbB s0 s1 s2 s3 t0 t1 t2 t3
  obtain ⟨⟨s0, s1, s2, s3⟩, ⟨t0, t1, t2, t3⟩⟩ := HQ.out wB hbB'
  have hsg := score_out g btw outs _ _ _ _ wB (HM.out wB hbB').2.1.1 (HM.out wB hbB').2.1.2 (HM.out wB hbB').2.2.2.1 (HM.out wB hbB').2.2.2.2
  have hcg : chkS g btw outs = cb := by
    unfold chkS
    rw [if_pos HK.out.2.2.2, HCB.out, HWO.out]
    split
    · rename_i h; exact h.symm
    · rfl
  rw [hcg] at hsg
  clear hcg
  go_wp2_with fail
  refine hsg.mono ?_
  rintro e wC ⟨b, rfl, hbb, hbC⟩
  have hbC' := bel_on hbB' hbC
  clear hsg hbC s0 s1 s2 s3 t0 t1 t2 t3
  by_cases h0 : cb = 0
  · subst h0
    obtain ⟨ha1, ha2⟩ := hba (by trivial)
    obtain ⟨hb1', hb2'⟩ := hbb (by trivial)
    have HLA : Hid (a ≠ -1 → b ≠ -1 → n ≠ -1 ∧ n ≤ a + b) := fun h1 h2 => last_line HK.out.1 HK.out.2.1 HN.out ha1 hb1' h1 h2
    have a0 : -1 ≤ a := by rcases ha1 with ⟨e, _⟩ | ⟨e, _⟩ <;> omega
    have b0 : -1 ≤ b := by rcases hb1' with ⟨e, _⟩ | ⟨e, _⟩ <;> omega
    clear ha1 hb1' hba hbb
    by_cases e1 : a = -1
    · subst e1
      clear HLA
      go_wp2
      go_ret
      exact ⟨rfl, bel_on hb0 hbC'⟩
    · have e1b : (a == -1) = false := by simpa using e1
      by_cases e2 : b = -1
      · subst e2
        clear HLA
        go_wp2
        go_ret
        exact ⟨rfl, bel_on hb0 hbC'⟩
      · have e2b : (b == -1) = false := by simpa using e2
        obtain ⟨k1, k2⟩ := HLA.out e1 e2
        have k1b : (n != -1) = true := by simpa using k1
        have hwab : IntKind.i64.wrap (a + b) = a + b := wrap_in _ (by omega) (by omega)
        clear HLA
        go_wp2
        go_ret
        exact ⟨rfl, bel_on hb0 hbC'⟩
  · have h0b : (cb != 0) = true := by simpa using h0
    clear hba hbb
    go_wp2
    go_ret
    exact ⟨rfl, bel_on hb0 hbC'⟩
end Go.Proofs.Yteehgcbjmdideaa

/- For the law 'ComposeCosts': what it means that what is composed is too great. -/
namespace Go.Proofs.Yteehgcbjmdideaa
open Go.RowKit

theorem gI_top {l : List Int} {x : Int} (h0 : 0 ≤ x) (h : ∀ v ∈ l, v ≤ x) (i : Nat) : gI l i ≤ x := by
  unfold gI
  rw [List.getD_eq_getElem?_getD]
  rcases e : l[i]? with _ | v
  · show (-1 : Int) ≤ x; omega
  · exact h v (List.mem_of_getElem? e)

theorem too_what {f g : FstD} (kf : Fine f) (kg : Fine g) {b : BothD} (hb : Grown f g b.ps.length b) (ht : tooD (cmpD f g b (leastL b.arcs)) = true) :
    200 < f.states.toNat * g.states.toNat ∨ 3000 < f.arcs.length * g.arcs.length + (f.arcs.length * g.states.toNat + g.arcs.length * f.states.toNat) ∨ ∀ x y : Int, 0 ≤ x → 0 ≤ y → (∀ a ∈ f.arcs, a.wt ≤ x) → (∀ v ∈ f.final, v ≤ x) → (∀ a ∈ g.arcs, a.wt ≤ y) → (∀ v ∈ g.final, v ≤ y) → 1000000000 < x + y := by
  have hI := grown_inv kf kg hb
  unfold tooD at ht
  simp only [Bool.or_eq_true, decide_eq_true_eq] at ht
  rcases ht with h | h | h | h
  · left
    have h1 := pairs_le hI.nd hI.rng
    have h2 : (200 : Int) < (b.ps.length : Int) := h
    omega
  · right; left
    have h1 := arcs_le hI
    have h2 := least_len b.arcs
    have h3 : 3000 < (leastL b.arcs).length := h
    omega
  · right; right
    intro x y h0 h0' h1 h2 h3 h4
    obtain ⟨v, hv, hm⟩ := List.any_eq_true.1 h
    have hv' : v ∈ b.ps.map (endC f g) := hv
    obtain ⟨p, _, rfl⟩ := List.mem_map.1 hv'
    have hm' : 1000000000 < endC f g p := of_decide_eq_true hm
    unfold endC plusC at hm'
    have g1 := gI_top h0 h2 p.1.toNat
    have g2 := gI_top h0' h4 p.2.toNat
    split at hm' <;> omega
  · right; right
    intro x y h0 h0' h1 h2 h3 h4
    obtain ⟨a, ha, hm⟩ := List.any_eq_true.1 h
    have ha' : a ∈ leastL b.arcs := ha
    have hm' : 1000000000 < a.wt := of_decide_eq_true hm
    obtain ⟨_, p, s, _, _, _, hs, _, e⟩ := hI.snd a (((leastL_min b.arcs).mem a).1 ha').1
    have ew : a.wt = s.wt := by rw [e]; rfl
    rcases mem_stp.1 hs with ⟨c, hc, d, hd, _, _, _, _, rfl⟩ | ⟨c, hc, _, _, rfl⟩ | ⟨d, hd, _, _, rfl⟩
    · have q1 := h1 c hc
      have q2 := h3 d hd
      have q3 : a.wt = c.wt + d.wt := ew
      omega
    · have q1 := h1 c hc
      have q3 : a.wt = c.wt := ew
      omega
    · have q1 := h3 d hd
      have q3 : a.wt = d.wt := ew
      omega
end Go.Proofs.Yteehgcbjmdideaa

/- The law 'ComposeCosts': what is composed is too great. (Made by wip/gen/cpz.py.) -/
namespace Go.Proofs.Yteehgcbjmdideaa
open Go.RowKit
attribute [local go_sem ↓] Go.wp_at_zero Go.wp_at_succ
set_option maxRecDepth 100000

set_option maxHeartbeats 1600000 in
theorem ccosts_g1 (f g : FstD) (ins btw outs : List Int) (fa : Option Addr) (fn fc : Nat) (aa : Option Addr) (m ac : Nat) (ga : Option Addr) (gn gc : Nat) (ca : Option Addr) (mc cc : Nat) (ia : Option Addr) (il ic : Nat) (ba : Option Addr) (bl bc : Nat) (oa : Option Addr) (ol oc : Nat) (w : World)
    (hf : ISlice w (.slice fa fn fc) f.final) (ha : ASlice w (.slice aa m ac) f.arcs) (hf' : ISlice w (.slice ga gn gc) g.final) (ha' : ASlice w (.slice ca mc cc) g.arcs) (hI : ISlice w (.slice ia il ic) ins) (hB : ISlice w (.slice ba bl bc) btw) (hO : ISlice w (.slice oa ol oc) outs)
    (_hal : f.arcs.length = m) (_hal' : g.arcs.length = mc) (_hil : ins.length = il) (_hol : outs.length = ol) (hl1 : f.states ≤ 12) (hl2 : g.states ≤ 12) (hl3 : m ≤ 100) (hl4 : mc ≤ 100) (hg1 : 1 ≤ f.states) (hg2 : 1 ≤ g.states) (hc1 : checkD f = 0) (hc2 : checkD g = 0) (hE : ∀ X u, CmpRes f g X u → X = ⟨0, 0, [], []⟩ ∧ u = 2) (hP : 200 < 3 * f.states * g.states) :
    Calls Try.prog 6 #[.agg #[.int .i64 f.states, .int .i64 f.start, .slice fa fn fc, .slice aa m ac], .agg #[.int .i64 g.states, .int .i64 g.start, .slice ga gn gc, .slice ca mc cc], .slice ia il ic, .slice ba bl bc, .slice oa ol oc] w fun e w' => e = .returned (.bool true) ∧ Below w.heap.size w w' := by
  have x1 : IntKind.i64.wrap (3 * f.states) = 3 * f.states := wrap_in _ (by omega) (by omega)
  obtain ⟨V, hV⟩ : ∃ V, 3 * f.states * g.states = V := ⟨_, rfl⟩
  have hV2 : V ≤ 36 * 12 := by
    rw [← hV]
    exact Int.le_trans (Int.mul_le_mul_of_nonneg_right (by omega) (by omega)) (Int.mul_le_mul_of_nonneg_left hl2 (by omega))
  rw [hV] at hP
  have x2 : IntKind.i64.wrap V = V := wrap_in _ (by omega) (by omega)
  have HE : Hid (∀ X u, CmpRes f g X u → X = ⟨0, 0, [], []⟩ ∧ u = 2) := hE
  have HC : Hid (twoD f g = 0) := by
    show twoD f g = 0
    unfold twoD
    rw [if_pos hc1, hc2]
  have n1 : ¬ 12 < f.states := by omega
  have n2 : ¬ 12 < g.states := by omega
  have n3 : ¬ (100 : Int) < (m : Int) := by omega
  have n4 : ¬ (100 : Int) < (mc : Int) := by omega
  clear hc1 hc2 hE
  obtain ⟨A, hA⟩ : ∃ A, A = (w.alloc (.cells #[.int .i64 f.states, .int .i64 f.start, .slice fa fn fc, .slice aa m ac] 25)).alloc (.cells #[.int .i64 g.states, .int .i64 g.start, .slice ga gn gc, .slice ca mc cc] 25) := ⟨_, rfl⟩
  have hb0 : Below w.heap.size w A := by rw [hA]; exact two_up w _ _
  have hqf : CellsF A w.heap.size f.states f.start (.slice fa fn fc) (.slice aa m ac) := by rw [hA]; exact (cellsF_new w _ _ _ _ _).below (bel_up (bel_self _) _)
  have hqg : CellsF A (w.heap.size + 1) g.states g.start (.slice ga gn gc) (.slice ca mc cc) := by rw [hA]; exact cellsF_at _ _ _ _ _ _ _ (one_size w _)
  have HQ : Hid (∀ W, Below A.heap.size A W → CellsF W w.heap.size f.states f.start (.slice fa fn fc) (.slice aa m ac) ∧ CellsF W (w.heap.size + 1) g.states g.start (.slice ga gn gc) (.slice ca mc cc)) := fun W h => ⟨hqf.below h, hqg.below h⟩
  have HM : Hid (∀ W, Below A.heap.size A W → (ISlice W (.slice fa fn fc) f.final ∧ ASlice W (.slice aa m ac) f.arcs) ∧ (ISlice W (.slice ga gn gc) g.final ∧ ASlice W (.slice ca mc cc) g.arcs) ∧ ISlice W (.slice ia il ic) ins ∧ ISlice W (.slice ba bl bc) btw ∧ ISlice W (.slice oa ol oc) outs) := fun W h =>
    have k := bel_on hb0 h
    ⟨⟨hf.below k, ha.below k⟩, ⟨hf'.below k, ha'.below k⟩, hI.below k, hB.below k, hO.below k⟩
  have hcmp := compose_any f g _ _ _ _ A (hf.below hb0) (ha.below hb0) (hf'.below hb0) (ha'.below hb0)
  have HA : Hid (A = (w.alloc (.cells #[.int .i64 f.states, .int .i64 f.start, .slice fa fn fc, .slice aa m ac] 25)).alloc (.cells #[.int .i64 g.states, .int .i64 g.start, .slice ga gn gc, .slice ca mc cc] 25)) := hA
  obtain ⟨p0, p1, p2, p3⟩ := hqf
  obtain ⟨r0, r1, r2, r3⟩ := hqg
  clear hA hf ha hf' ha' hI hB hO
  go_enter Try.func6, Try.ntmps6
  go_wp2_with fail
  rw [← HA.out]
  clear HA
  refine hcmp.mono ?_
  clear hcmp
  rintro e w1 ⟨X, u, hR, xa, xn, xc, ya, yn, yc, rfl, hIX, hAX, hb1⟩
  obtain ⟨rfl, rfl⟩ := HE.out X u hR
  clear hR HE
  obtain ⟨w2, hw2⟩ : ∃ w2, w2 = w1.alloc (.cells #[.int .i64 0, .int .i64 0, .slice xa xn xc, .slice ya yn yc] 25) := ⟨_, rfl⟩
  obtain ⟨D, hD⟩ : ∃ D, D = w1.heap.size := ⟨_, rfl⟩
  have hb2 : Below A.heap.size A w2 := by rw [hw2]; exact bel_up hb1 _
  have hu2 : Below w1.heap.size w1 w2 := by rw [hw2]; exact bel_up (bel_self w1) _
  have hqx : CellsF w2 D 0 0 (.slice xa xn xc) (.slice ya yn yc) := by rw [hw2, hD]; exact cellsF_new w1 _ _ _ _ _
  have HX : Hid (∀ W, Below w2.heap.size w2 W → CellsF W D 0 0 (.slice xa xn xc) (.slice ya yn yc)) := fun W h => hqx.below h
  have htwo := checkTwo_any f g _ _ _ _ w2 (HM.out w2 hb2).1.1 (HM.out w2 hb2).1.2 (HM.out w2 hb2).2.1.1 (HM.out w2 hb2).2.1.2 _ HC.out
  have HW2 : Hid (w2 = w1.alloc (.cells #[.int .i64 0, .int .i64 0, .slice xa xn xc, .slice ya yn yc] 25) ∧ D = w1.heap.size) := ⟨hw2, hD⟩
  obtain ⟨⟨s0, s1, s2, s3⟩, ⟨t0, t1, t2, t3⟩⟩ := HQ.out w1 hb1
  obtain ⟨⟨s0', s1', s2', s3'⟩, ⟨t0', t1', t2', t3'⟩⟩ := HQ.out (w1.alloc (.cells #[.int .i64 0, .int .i64 0, .slice xa xn xc, .slice ya yn yc] 25)) (bel_up hb1 _)
  clear hw2 hD hqx
  go_wp2_with fail
  rw [← HW2.out.1, ← HW2.out.2]
  clear HW2 s0 s1 s2 s3 t0 t1 t2 t3 p0 p1 p2 p3 r0 r1 r2 r3
  refine htwo.mono ?_
  rintro e w3 ⟨rfl, hb3⟩
  have hb3' := bel_on hb2 hb3
  obtain ⟨⟨s0, s1, s2, s3⟩, ⟨t0, t1, t2, t3⟩⟩ := HQ.out w3 hb3'
  clear htwo s0' s1' s2' s3' t0' t1' t2' t3'
  clear HC
  go_wp2_with (first | (go_at_call 33; refine (composeBegun_any _).mono ?_; rintro e w4 ⟨rfl, hb4⟩; clear s0 s1 s2 s3 t0 t1 t2 t3) | (go_at_call 13; refine (scoreBegun_any _).mono ?_; rintro e w5 ⟨rfl, hb5⟩; have hx5 := HX.out w5 (bel_on (bel_on hb3 hb4) hb5); obtain ⟨v0, v1, v2, v3⟩ := hx5))
  have hb5' : Below w2.heap.size w2 w5 := bel_on (bel_on hb3 hb4) hb5
  obtain ⟨⟨s0, s1, s2, s3⟩, ⟨t0, t1, t2, t3⟩⟩ := HQ.out w5 (bel_on hb2 hb5')
  refine wp_region_quiet_lit (by kernel_rfl) (by kernel_rfl) ?_
  repeat (first | ((with_unfolding_none refine quiet_yes ?hy (fun K hK => ?_)); (case hy => exact rfl); go_simp; (with_unfolding_none refine hK _ ?_); clear hK K) | ((with_unfolding_none refine quiet_no ?hy (fun K hK => ?_)); (case hy => exact rfl); go_simp; (with_unfolding_none refine hK _ ?_); clear hK K))
  refine wpQuiet_nil ?_
  intro _ hw'
  obtain ⟨nq, hw''⟩ := hw'
  subst hw''
  go_wp2
  go_ret
  exact ⟨rfl, bel_drewN (bel_on hb0 (bel_on hb2 hb5')) _⟩

set_option maxHeartbeats 1600000 in
theorem ccosts_g2 (f g : FstD) (ins btw outs : List Int) (fa : Option Addr) (fn fc : Nat) (aa : Option Addr) (m ac : Nat) (ga : Option Addr) (gn gc : Nat) (ca : Option Addr) (mc cc : Nat) (ia : Option Addr) (il ic : Nat) (ba : Option Addr) (bl bc : Nat) (oa : Option Addr) (ol oc : Nat) (w : World)
    (hf : ISlice w (.slice fa fn fc) f.final) (ha : ASlice w (.slice aa m ac) f.arcs) (hf' : ISlice w (.slice ga gn gc) g.final) (ha' : ASlice w (.slice ca mc cc) g.arcs) (hI : ISlice w (.slice ia il ic) ins) (hB : ISlice w (.slice ba bl bc) btw) (hO : ISlice w (.slice oa ol oc) outs)
    (_hal : f.arcs.length = m) (_hal' : g.arcs.length = mc) (_hil : ins.length = il) (_hol : outs.length = ol) (hl1 : f.states ≤ 12) (hl2 : g.states ≤ 12) (hl3 : m ≤ 100) (hl4 : mc ≤ 100) (hg1 : 1 ≤ f.states) (hg2 : 1 ≤ g.states) (hc1 : checkD f = 0) (hc2 : checkD g = 0) (hE : ∀ X u, CmpRes f g X u → X = ⟨0, 0, [], []⟩ ∧ u = 2) (hP : ¬ 200 < 3 * f.states * g.states) (hS : 3000 < 3 * ((m : Int) * (mc : Int) + (m : Int) * g.states + (mc : Int) * f.states)) :
    Calls Try.prog 6 #[.agg #[.int .i64 f.states, .int .i64 f.start, .slice fa fn fc, .slice aa m ac], .agg #[.int .i64 g.states, .int .i64 g.start, .slice ga gn gc, .slice ca mc cc], .slice ia il ic, .slice ba bl bc, .slice oa ol oc] w fun e w' => e = .returned (.bool true) ∧ Below w.heap.size w w' := by
  have x1 : IntKind.i64.wrap (3 * f.states) = 3 * f.states := wrap_in _ (by omega) (by omega)
  obtain ⟨V, hV⟩ : ∃ V, 3 * f.states * g.states = V := ⟨_, rfl⟩
  have hV2 : V ≤ 36 * 12 := by
    rw [← hV]
    exact Int.le_trans (Int.mul_le_mul_of_nonneg_right (by omega) (by omega)) (Int.mul_le_mul_of_nonneg_left hl2 (by omega))
  have hV0 : 0 ≤ V := by rw [← hV]; exact Int.mul_nonneg (by omega) (by omega)
  rw [hV] at hP
  have x2 : IntKind.i64.wrap V = V := wrap_in _ (by omega) (by omega)
  have hPd : decide (200 < V) = false := decide_eq_false hP
  obtain ⟨P1, hP1⟩ : ∃ P, (m : Int) * (mc : Int) = P := ⟨_, rfl⟩
  obtain ⟨P2, hP2⟩ : ∃ P, (m : Int) * g.states = P := ⟨_, rfl⟩
  obtain ⟨P3, hP3⟩ : ∃ P, (mc : Int) * f.states = P := ⟨_, rfl⟩
  rw [hP1, hP2, hP3] at hS
  have y1 : 0 ≤ P1 ∧ P1 ≤ 100 * 100 := by
    rw [← hP1]
    exact ⟨Int.mul_nonneg (by omega) (by omega), Int.le_trans (Int.mul_le_mul_of_nonneg_right (by omega) (by omega)) (Int.mul_le_mul_of_nonneg_left (by omega) (by omega))⟩
  have y2 : 0 ≤ P2 ∧ P2 ≤ 100 * 12 := by
    rw [← hP2]
    exact ⟨Int.mul_nonneg (by omega) (by omega), Int.le_trans (Int.mul_le_mul_of_nonneg_right (by omega) (by omega)) (Int.mul_le_mul_of_nonneg_left (by omega) (by omega))⟩
  have y3 : 0 ≤ P3 ∧ P3 ≤ 100 * 12 := by
    rw [← hP3]
    exact ⟨Int.mul_nonneg (by omega) (by omega), Int.le_trans (Int.mul_le_mul_of_nonneg_right (by omega) (by omega)) (Int.mul_le_mul_of_nonneg_left (by omega) (by omega))⟩
  have x3 : IntKind.i64.wrap P1 = P1 := wrap_in _ (by omega) (by omega)
  have x4 : IntKind.i64.wrap P2 = P2 := wrap_in _ (by omega) (by omega)
  have x5 : IntKind.i64.wrap P3 = P3 := wrap_in _ (by omega) (by omega)
  have x6 : IntKind.i64.wrap (P1 + P2) = P1 + P2 := wrap_in _ (by omega) (by omega)
  have x7 : IntKind.i64.wrap (P1 + P2 + P3) = P1 + P2 + P3 := wrap_in _ (by omega) (by omega)
  have x8 : IntKind.i64.wrap (3 * (P1 + P2 + P3)) = 3 * (P1 + P2 + P3) := wrap_in _ (by omega) (by omega)
  have HE : Hid (∀ X u, CmpRes f g X u → X = ⟨0, 0, [], []⟩ ∧ u = 2) := hE
  have HC : Hid (twoD f g = 0) := by
    show twoD f g = 0
    unfold twoD
    rw [if_pos hc1, hc2]
  have n1 : ¬ 12 < f.states := by omega
  have n2 : ¬ 12 < g.states := by omega
  have n3 : ¬ (100 : Int) < (m : Int) := by omega
  have n4 : ¬ (100 : Int) < (mc : Int) := by omega
  clear hc1 hc2 hE
  obtain ⟨A, hA⟩ : ∃ A, A = (w.alloc (.cells #[.int .i64 f.states, .int .i64 f.start, .slice fa fn fc, .slice aa m ac] 25)).alloc (.cells #[.int .i64 g.states, .int .i64 g.start, .slice ga gn gc, .slice ca mc cc] 25) := ⟨_, rfl⟩
  have hb0 : Below w.heap.size w A := by rw [hA]; exact two_up w _ _
  have hqf : CellsF A w.heap.size f.states f.start (.slice fa fn fc) (.slice aa m ac) := by rw [hA]; exact (cellsF_new w _ _ _ _ _).below (bel_up (bel_self _) _)
  have hqg : CellsF A (w.heap.size + 1) g.states g.start (.slice ga gn gc) (.slice ca mc cc) := by rw [hA]; exact cellsF_at _ _ _ _ _ _ _ (one_size w _)
  have HQ : Hid (∀ W, Below A.heap.size A W → CellsF W w.heap.size f.states f.start (.slice fa fn fc) (.slice aa m ac) ∧ CellsF W (w.heap.size + 1) g.states g.start (.slice ga gn gc) (.slice ca mc cc)) := fun W h => ⟨hqf.below h, hqg.below h⟩
  have HM : Hid (∀ W, Below A.heap.size A W → (ISlice W (.slice fa fn fc) f.final ∧ ASlice W (.slice aa m ac) f.arcs) ∧ (ISlice W (.slice ga gn gc) g.final ∧ ASlice W (.slice ca mc cc) g.arcs) ∧ ISlice W (.slice ia il ic) ins ∧ ISlice W (.slice ba bl bc) btw ∧ ISlice W (.slice oa ol oc) outs) := fun W h =>
    have k := bel_on hb0 h
    ⟨⟨hf.below k, ha.below k⟩, ⟨hf'.below k, ha'.below k⟩, hI.below k, hB.below k, hO.below k⟩
  have hcmp := compose_any f g _ _ _ _ A (hf.below hb0) (ha.below hb0) (hf'.below hb0) (ha'.below hb0)
  have HA : Hid (A = (w.alloc (.cells #[.int .i64 f.states, .int .i64 f.start, .slice fa fn fc, .slice aa m ac] 25)).alloc (.cells #[.int .i64 g.states, .int .i64 g.start, .slice ga gn gc, .slice ca mc cc] 25)) := hA
  obtain ⟨p0, p1, p2, p3⟩ := hqf
  obtain ⟨r0, r1, r2, r3⟩ := hqg
  clear hA hf ha hf' ha' hI hB hO
  go_enter Try.func6, Try.ntmps6
  go_wp2_with fail
  rw [← HA.out]
  clear HA
  refine hcmp.mono ?_
  clear hcmp
  rintro e w1 ⟨X, u, hR, xa, xn, xc, ya, yn, yc, rfl, hIX, hAX, hb1⟩
  obtain ⟨rfl, rfl⟩ := HE.out X u hR
  clear hR HE
  obtain ⟨w2, hw2⟩ : ∃ w2, w2 = w1.alloc (.cells #[.int .i64 0, .int .i64 0, .slice xa xn xc, .slice ya yn yc] 25) := ⟨_, rfl⟩
  obtain ⟨D, hD⟩ : ∃ D, D = w1.heap.size := ⟨_, rfl⟩
  have hb2 : Below A.heap.size A w2 := by rw [hw2]; exact bel_up hb1 _
  have hu2 : Below w1.heap.size w1 w2 := by rw [hw2]; exact bel_up (bel_self w1) _
  have hqx : CellsF w2 D 0 0 (.slice xa xn xc) (.slice ya yn yc) := by rw [hw2, hD]; exact cellsF_new w1 _ _ _ _ _
  have HX : Hid (∀ W, Below w2.heap.size w2 W → CellsF W D 0 0 (.slice xa xn xc) (.slice ya yn yc)) := fun W h => hqx.below h
  have htwo := checkTwo_any f g _ _ _ _ w2 (HM.out w2 hb2).1.1 (HM.out w2 hb2).1.2 (HM.out w2 hb2).2.1.1 (HM.out w2 hb2).2.1.2 _ HC.out
  have HW2 : Hid (w2 = w1.alloc (.cells #[.int .i64 0, .int .i64 0, .slice xa xn xc, .slice ya yn yc] 25) ∧ D = w1.heap.size) := ⟨hw2, hD⟩
  obtain ⟨⟨s0, s1, s2, s3⟩, ⟨t0, t1, t2, t3⟩⟩ := HQ.out w1 hb1
  obtain ⟨⟨s0', s1', s2', s3'⟩, ⟨t0', t1', t2', t3'⟩⟩ := HQ.out (w1.alloc (.cells #[.int .i64 0, .int .i64 0, .slice xa xn xc, .slice ya yn yc] 25)) (bel_up hb1 _)
  clear hw2 hD hqx
  go_wp2_with fail
  rw [← HW2.out.1, ← HW2.out.2]
  clear HW2 s0 s1 s2 s3 t0 t1 t2 t3 p0 p1 p2 p3 r0 r1 r2 r3
  refine htwo.mono ?_
  rintro e w3 ⟨rfl, hb3⟩
  have hb3' := bel_on hb2 hb3
  obtain ⟨⟨s0, s1, s2, s3⟩, ⟨t0, t1, t2, t3⟩⟩ := HQ.out w3 hb3'
  clear htwo s0' s1' s2' s3' t0' t1' t2' t3'
  clear HC
  go_wp2_with (first | (go_at_call 33; refine (composeBegun_any _).mono ?_; rintro e w4 ⟨rfl, hb4⟩; clear s0 s1 s2 s3 t0 t1 t2 t3) | (go_at_call 13; refine (scoreBegun_any _).mono ?_; rintro e w5 ⟨rfl, hb5⟩; have hx5 := HX.out w5 (bel_on (bel_on hb3 hb4) hb5); obtain ⟨v0, v1, v2, v3⟩ := hx5))
  have hb5' : Below w2.heap.size w2 w5 := bel_on (bel_on hb3 hb4) hb5
  obtain ⟨⟨s0, s1, s2, s3⟩, ⟨t0, t1, t2, t3⟩⟩ := HQ.out w5 (bel_on hb2 hb5')
  refine wp_region_quiet_lit (by kernel_rfl) (by kernel_rfl) ?_
  repeat (first | ((with_unfolding_none refine quiet_yes ?hy (fun K hK => ?_)); (case hy => exact rfl); go_simp; (with_unfolding_none refine hK _ ?_); clear hK K) | ((with_unfolding_none refine quiet_no ?hy (fun K hK => ?_)); (case hy => exact rfl); go_simp; (with_unfolding_none refine hK _ ?_); clear hK K))
  refine wpQuiet_nil ?_
  intro _ hw'
  obtain ⟨nq, hw''⟩ := hw'
  subst hw''
  go_wp2
  go_ret
  exact ⟨rfl, bel_drewN (bel_on hb0 (bel_on hb2 hb5')) _⟩
end Go.Proofs.Yteehgcbjmdideaa
