/- 'SameInts', 'SameFst' of the document's answer; 'one', 'fstIs' of the statements. -/
import Derived.Test.YteehgcbjmdideaaQCheckF
namespace Go.Proofs.Yteehgcbjmdideaa
open Go.RowKit
attribute [local go_sem ↓] Go.wp_at_zero Go.wp_at_succ

theorem getD_ext {α : Type} (d : α) (xs ys : List α) (h : xs.length = ys.length) (he : ∀ j, j < xs.length → xs.getD j d = ys.getD j d) : xs = ys := by
  apply List.ext_getElem h
  intro i h1 h2
  have := he i h1
  simpa [List.getD, h1, h2] using this

set_option maxHeartbeats 1000000 in
theorem sameInts_any (u v : Value) (xs ys : List Int) (w : World) (hu : ISlice w u xs) (hv : ISlice w v ys) :
    Calls Try.prog 43 #[u, v] w fun e w' => e = .returned (.bool (decide (xs = ys))) ∧ Below w.heap.size w w' := by
  obtain ⟨ua, n, uc, rfl, hul, hum⟩ := hu.lenOf
  obtain ⟨va, m, vc, rfl, hvl, hvm⟩ := hv.lenOf
  have HU : Hid (xs.length = n) := hul
  have HV : Hid (ys.length = m) := hvl
  unfold maxLen at hum hvm
  clear hul hvl
  by_cases hnm : n = m
  · subst hnm
    go_enter Try.func43, Try.ntmps43
    go_wp2
    go_loopw [5] (fun i wr => ∃ k : Nat, k ≤ n ∧ i = .int .i64 k ∧ (∀ j, j < k → xs.getD j 0 = ys.getD j 0) ∧ Below w.heap.size w wr) (fun i _ => n - (intOf i).toNat)
    case atStart => exact ⟨0, Nat.zero_le _, rfl, fun j hj => absurd hj (Nat.not_lt_zero _), bel_self _⟩
    case round =>
      obtain ⟨k, hk, rfl, hall, hb⟩ := hrel
      have HA : Hid (∀ j, j < k → xs.getD j 0 = ys.getD j 0) := hall
      clear hall
      by_cases hlt : k < n
      · obtain ⟨b, off, rfl, hx⟩ := hu.some (by omega)
        obtain ⟨b', off', rfl, hy⟩ := hv.some (by omega)
        have c0 := (hx.below hb).cell k hlt
        have c1 := (hy.below hb).cell k hlt
        obtain ⟨x, hxk⟩ : ∃ x, x = xs.getD k 0 := ⟨_, rfl⟩
        obtain ⟨y, hyk⟩ : ∃ y, y = ys.getD k 0 := ⟨_, rfl⟩
        rw [← hxk] at c0
        rw [← hyk] at c1
        have HX : Hid (x = xs.getD k 0) := hxk
        have HY : Hid (y = ys.getD k 0) := hyk
        clear hxk hyk
        have hi : (k : Int) < n := by omega
        by_cases hxy : x = y
        · have hd : (x != y) = false := by simp [hxy]
          go_wp2
          go_quiet (fail)
          go_wp2
          go_roundw
          case rel =>
            refine ⟨k + 1, by omega, by go_num, fun j hj => ?_, bel_drewN hb _⟩
            by_cases e : j = k
            · subst e; rw [← HX.out, ← HY.out]; exact hxy
            · exact HA.out j (by omega)
          case measure => simp [intOf]; omega
        · have hd : (x == y) = false := by simpa using hxy
          have hne : decide (xs = ys) = false := by
            simp only [decide_eq_false_iff_not]
            intro h; apply hxy; rw [HX.out, HY.out, h]
          have HD : Hid (decide (xs = ys) = false) := hne
          clear hne
          go_wp2
          go_quiet (fail)
          go_wp2
          go_ret
          exact ⟨ret_bool HD.out.symm, bel_drewN hb _⟩
      · have HD : Hid (xs = ys) := getD_ext 0 xs ys (by rw [HU.out, HV.out]) (fun j hj => HA.out j (by have := HU.out; omega))
        go_wp2
        go_ret
        exact ⟨ret_bool (by simp [HD.out]), hb⟩
  · have hd : ((n : Int) == (m : Int)) = false := by rw [beq_eq_false_iff_ne]; omega
    have hd' : (n == m) = false := by simpa using hnm
    have HD : Hid (decide (xs = ys) = false) := by
      have h1 := HU.out
      have h2 := HV.out
      show decide (xs = ys) = false
      simp only [decide_eq_false_iff_not]
      intro h; subst h; omega
    go_enter Try.func43, Try.ntmps43
    go_wp2
    go_ret
    exact ⟨ret_bool HD.out.symm, bel_self _⟩

theorem arcs_neq (x y : ArcD) (w : World) : (binOp .neq 63 (.agg #[.int .i64 x.src, .int .i64 x.inp, .int .i64 x.out, .int .i64 x.dst, .int .i64 x.wt]) (.agg #[.int .i64 y.src, .int .i64 y.inp, .int .i64 y.out, .int .i64 y.dst, .int .i64 y.wt])).run Try.prog w = .ok (.bool (!@decide (x = y) (decA x y))) w := by
  rw [run_neq_struct]
  rw [run_equalIn_agg w 9999 63 _ _ (by kernel_rfl) (by kernel_rfl)]
  go_simp
  obtain ⟨x0, x1, x2, x3, x4⟩ := x
  obtain ⟨y0, y1, y2, y3, y4⟩ := y
  simp only [ArcD.mk.injEq]
  by_cases h0 : x0 = y0 <;> by_cases h1 : x1 = y1 <;> by_cases h2 : x2 = y2 <;> by_cases h3 : x3 = y3 <;> by_cases h4 : x4 = y4 <;> simp [h0, h1, h2, h3, h4]

def sameD (f g : FstD) : Bool := decide (f.states = g.states) && decide (f.start = g.start) && decide (f.final = g.final) && @decide (f.arcs = g.arcs) (decAs f.arcs g.arcs)

set_option maxHeartbeats 1000000 in
theorem sameFst_any (f g : FstD) (fin arcs fin' arcs' : Value) (w : World) (hf : ISlice w fin f.final) (ha : ASlice w arcs f.arcs) (hf' : ISlice w fin' g.final) (ha' : ASlice w arcs' g.arcs) :
    Calls Try.prog 22 #[.agg #[.int .i64 f.states, .int .i64 f.start, fin, arcs], .agg #[.int .i64 g.states, .int .i64 g.start, fin', arcs']] w fun e w' =>
      e = .returned (.bool (sameD f g)) ∧ Below w.heap.size w w' := by
  obtain ⟨aa, n, ac, rfl, hal, ham⟩ := ha.lenOf
  obtain ⟨ba, m, bc, rfl, hbl, hbm⟩ := ha'.lenOf
  have HAL : Hid (f.arcs.length = n) := hal
  have HBL : Hid (g.arcs.length = m) := hbl
  unfold maxLen at ham hbm
  clear hal hbl
  have hbF : CellsF ((w.alloc (.cells #[.int .i64 f.states, .int .i64 f.start, fin, .slice aa n ac] 25)).alloc (.cells #[.int .i64 g.states, .int .i64 g.start, fin', .slice ba m bc] 25)) w.heap.size f.states f.start fin (.slice aa n ac) := by simp [CellsF]
  have hbG : CellsF ((w.alloc (.cells #[.int .i64 f.states, .int .i64 f.start, fin, .slice aa n ac] 25)).alloc (.cells #[.int .i64 g.states, .int .i64 g.start, fin', .slice ba m bc] 25)) (w.heap.size + 1) g.states g.start fin' (.slice ba m bc) := by simp [CellsF]
  have hb0 := bel_up (bel_up (bel_self w) (.cells #[.int .i64 f.states, .int .i64 f.start, fin, .slice aa n ac] 25)) (.cells #[.int .i64 g.states, .int .i64 g.start, fin', .slice ba m bc] 25)
  have h1 := hf.below hb0
  have h2 := hf'.below hb0
  have h3 := ha.below hb0
  have h4 := ha'.below hb0
  cases d1 : (f.states != g.states)
  · cases d2 : (f.start != g.start)
    · cases d3 : decide (f.final = g.final)
      · go_enter Try.func22, Try.ntmps22
        go_wp2_with (go_at_call 43; refine (sameInts_any _ _ f.final g.final _ h1 h2).mono ?_; rintro e w' ⟨rfl, hbw⟩; have hF := hbF.below hbw; have hG := hbG.below hbw; have hB := bel_on hb0 hbw; have k3 := h3.below hbw; have k4 := h4.below hbw; clear hbw; have hF' := hF; obtain ⟨f0, f1, f2, f3⟩ := hF'; have hG' := hG; obtain ⟨g0, g1, g2, g3⟩ := hG')
        go_ret
        exact ⟨ret_bool (by simp [sameD, d3]), hB⟩
      · cases d4 : (n != m)
        · have hnm : n = m := by simpa using d4
          subst hnm
          go_enter Try.func22, Try.ntmps22
          go_wp2_with (go_at_call 43; refine (sameInts_any _ _ f.final g.final _ h1 h2).mono ?_; rintro e w' ⟨rfl, hbw⟩; have hF := hbF.below hbw; have hG := hbG.below hbw; have hB := bel_on hb0 hbw; have k3 := h3.below hbw; have k4 := h4.below hbw; clear hbw; have hF' := hF; obtain ⟨f0, f1, f2, f3⟩ := hF'; have hG' := hG; obtain ⟨g0, g1, g2, g3⟩ := hG')
          clear h1 h2 h3 h4 hbF hbG hb0 f0 f1 f2 f3 g0 g1 g2 g3
          go_loopw [5] (fun i wr => ∃ k : Nat, k ≤ n ∧ i = .int .i64 k ∧ (∀ j, j < k → f.arcs.getD j a0 = g.arcs.getD j a0) ∧ CellsF wr w.heap.size f.states f.start fin (.slice aa n ac) ∧ CellsF wr (w.heap.size + 1) g.states g.start fin' (.slice ba n bc) ∧ ASlice wr (.slice aa n ac) f.arcs ∧ ASlice wr (.slice ba n bc) g.arcs ∧ Below w.heap.size w wr) (fun i _ => n - (intOf i).toNat)
          case atStart => exact ⟨0, Nat.zero_le _, rfl, fun j hj => absurd hj (Nat.not_lt_zero _), hF, hG, k3, k4, hB⟩
          case round =>
            clear hF hG k3 k4 hB
            obtain ⟨k, hk, rfl, hall, hF, hG, k3, k4, hB⟩ := hrel
            have HA : Hid (∀ j, j < k → f.arcs.getD j a0 = g.arcs.getD j a0) := hall
            clear hall
            have hF' := hF
            have hG' := hG
            obtain ⟨f0, f1, f2, f3⟩ := hF'
            obtain ⟨g0, g1, g2, g3⟩ := hG'
            by_cases hlt : k < n
            · obtain ⟨b, off, rfl, hx⟩ := k3.some (by omega)
              obtain ⟨b', off', rfl, hy⟩ := k4.some (by omega)
              obtain ⟨x, hxk⟩ : ∃ x, x = f.arcs.getD k a0 := ⟨_, rfl⟩
              obtain ⟨y, hyk⟩ : ∃ y, y = g.arcs.getD k a0 := ⟨_, rfl⟩
              have c0 := hx.c0 k hlt
              have c1 := hx.c1 k hlt
              have c2 := hx.c2 k hlt
              have c3 := hx.c3 k hlt
              have c4 := hx.c4 k hlt
              rw [← hxk] at c0 c1 c2 c3 c4
              have e0 := hy.c0 k hlt
              have e1 := hy.c1 k hlt
              have e2 := hy.c2 k hlt
              have e3 := hy.c3 k hlt
              have e4 := hy.c4 k hlt
              rw [← hyk] at e0 e1 e2 e3 e4
              have HX : Hid (x = f.arcs.getD k a0) := hxk
              have HY : Hid (y = g.arcs.getD k a0) := hyk
              clear hxk hyk
              have hi : (k : Int) < n := by omega
              have hneq := arcs_neq x y
              have hgd : Try.prog.eqGuardType Try.prog.depth 63 = false := by kernel_rfl
              cases hxy : @decide (x = y) (decA x y)
              · have HD : Hid (@decide (f.arcs = g.arcs) (decAs f.arcs g.arcs) = false) := by
                  show @decide (f.arcs = g.arcs) (decAs f.arcs g.arcs) = false
                  simp only [decide_eq_false_iff_not] at hxy ⊢
                  intro h; apply hxy; rw [HX.out, HY.out, h]
                go_wp2
                go_quiet (fail)
                go_wp2
                go_ret
                exact ⟨ret_bool (by simp [sameD, HD.out]), bel_drewN hB _⟩
              · have HD : Hid (x = y) := (by have h := hxy; simpa using h : x = y)
                go_wp2
                go_quiet (fail)
                go_wp2
                go_roundw
                case rel =>
                  refine ⟨k + 1, by omega, by go_num, fun j hj => ?_, hF.below (bel_drewN (bel_self _) _), hG.below (bel_drewN (bel_self _) _), k3.below (bel_drewN (bel_self _) _), k4.below (bel_drewN (bel_self _) _), bel_drewN hB _⟩
                  by_cases e : j = k
                  · subst e; rw [← HX.out, ← HY.out]; exact HD.out
                  · exact HA.out j (by omega)
                case measure => simp [intOf]; omega
            · have HD : Hid (f.arcs = g.arcs) := getD_ext a0 _ _ (by rw [HAL.out, HBL.out]) (fun j hj => HA.out j (by have := HAL.out; omega))
              go_wp2
              go_ret
              exact ⟨ret_bool (by simp at d1 d2; simp [sameD, HD.out, d1, d2, d3]), hB⟩
        · have HD : Hid (@decide (f.arcs = g.arcs) (decAs f.arcs g.arcs) = false) := by
            have q1 := HAL.out
            have q2 := HBL.out
            show @decide (f.arcs = g.arcs) (decAs f.arcs g.arcs) = false
            simp only [decide_eq_false_iff_not]
            intro h
            rw [h] at q1
            simp at d4; omega
          have d4' : (n == m) = false := by simpa using d4
          go_enter Try.func22, Try.ntmps22
          go_wp2_with (go_at_call 43; refine (sameInts_any _ _ f.final g.final _ h1 h2).mono ?_; rintro e w' ⟨rfl, hbw⟩; have hF := hbF.below hbw; have hG := hbG.below hbw; have hB := bel_on hb0 hbw; have k3 := h3.below hbw; have k4 := h4.below hbw; clear hbw; have hF' := hF; obtain ⟨f0, f1, f2, f3⟩ := hF'; have hG' := hG; obtain ⟨g0, g1, g2, g3⟩ := hG')
          go_ret
          exact ⟨ret_bool (by simp [sameD, HD.out]), hB⟩
    · go_enter Try.func22, Try.ntmps22
      go_wp2
      go_ret
      exact ⟨ret_bool (by simp at d2; simp [sameD, d2]), hb0⟩
  · go_enter Try.func22, Try.ntmps22
    go_wp2
    go_ret
    exact ⟨ret_bool (by simp at d1; simp [sameD, d1]), hb0⟩

end Go.Proofs.Yteehgcbjmdideaa
