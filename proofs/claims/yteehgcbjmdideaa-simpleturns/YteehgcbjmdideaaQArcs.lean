/- 'checkArcs' and 'Check' of package fst. -/
import Derived.Test.YteehgcbjmdideaaQCmp
namespace Go.Proofs.Yteehgcbjmdideaa
open Go.RowKit
attribute [local go_sem ↓] Go.wp_at_zero Go.wp_at_succ

set_option maxHeartbeats 1000000 in
theorem checkArcs_some (f : FstD) (fin : Value) (b off n cap : Nat) (w : World) (hx : ArcsAt w b off n f.arcs) (hn : n ≤ maxLen) (h1 : 1 ≤ f.states) (h2 : f.states ≤ 200) :
    Calls Try.prog 139 #[.agg #[.int .i64 f.states, .int .i64 f.start, fin, .slice (some ⟨b, off, none⟩) n cap]] w fun e w' =>
      e = .returned (.int .i64 (arcsErr f.states none f.arcs)) ∧ Below w.heap.size w w' := by
  unfold maxLen at hn
  have hlen := hx.len
  go_enter Try.func139, Try.ntmps139
  go_wp2
  go_loopw [8] (fun i wr => ∃ k : Nat, k ≤ n ∧ i = .int .i64 k ∧ (∀ j, j < k → arcErr f.states (prevA f.arcs j) (f.arcs.getD j a0) = 0) ∧ Below w.heap.size w wr ∧ CellsF wr w.heap.size f.states f.start fin (.slice (some ⟨b, off, none⟩) n cap) ∧ ArcsAt wr b off n f.arcs) (fun i _ => n - (intOf i).toNat)
  case atStart => exact ⟨0, Nat.zero_le _, rfl, fun j hj => absurd hj (Nat.not_lt_zero _), bel_up (bel_self _) _, by simp [CellsF], hx.below (bel_up (bel_self _) _)⟩
  case round =>
    clear hx
    obtain ⟨k, hk, rfl, hall, hbr, hF, hx⟩ := hrel
    have HA : Hid (∀ j, j < k → arcErr f.states (prevA f.arcs j) (f.arcs.getD j a0) = 0) := hall
    clear hall
    have hF' := hF
    obtain ⟨f0, f1, f2, f3⟩ := hF'
    have hsl := cell_lt f0
    by_cases hlt : k < n
    · obtain ⟨a, ha⟩ : ∃ a, a = f.arcs.getD k a0 := ⟨_, rfl⟩
      have c0 := hx.c0 k hlt
      have c1 := hx.c1 k hlt
      have c2 := hx.c2 k hlt
      have c3 := hx.c3 k hlt
      have c4 := hx.c4 k hlt
      rw [← ha] at c0 c1 c2 c3 c4
      have HX : Hid (a = f.arcs.getD k a0) := ha
      have hbl := cell_lt c0
      have hkl : k < f.arcs.length := by omega
      clear ha
      by_cases hk0 : (k : Int) ≤ 0
      · have HP : Hid (prevA f.arcs k = none) := prevA_zero _ _ hk0
        have hd : decide (0 < k) = false := by simp; omega
        go_wp2_with (first | (go_at_call 137; refine (isState_any _ _ _ _ _ _ (by omega) (by omega)).mono ?_; rintro e w' ⟨rfl, hbw⟩; have hF : CellsF w' w.heap.size f.states f.start fin (.slice (some ⟨b, off, none⟩) n cap) := (by first | exact (hF.below (bel_up (bel_self _) _)).below hbw | exact hF.below hbw); have hA : CellsA w' wr.heap.size a := (by first | exact hA.below hbw | exact CellsA.below (by simp [CellsA]) hbw); have hx : ArcsAt w' b off n f.arcs := (by first | exact (hx.below (bel_up (bel_self _) _)).below hbw | exact hx.below hbw); have hBel : Below w.heap.size w w' := (by first | exact bel_on (bel_up hbr _) hbw | exact bel_on hBel hbw); have hF' := hF; have hA' := hA; obtain ⟨f0, f1, f2, f3⟩ := hF'; obtain ⟨v0, v1, v2, v3, v4⟩ := hA'; clear hbw) | (go_at_call 136; refine (within_any _ _ _ _).mono ?_; rintro e w' ⟨rfl, rfl⟩))
        all_goals try (go_ret; exact ⟨ret_int (arcsErr_bad _ _ _ a _ hkl HA.out HX.out (by simp [arcErr, *]) (by decide)).symm, hBel⟩)
        go_quiet (fail)
        go_wp2
        go_roundw
        case rel => exact ⟨k + 1, by omega, by go_num, arcsErr_on _ _ _ a HA.out HX.out (by rw [HP.out]; simp [arcErr, *]), bel_drewN hBel _, hF.below (bel_drewN (bel_self _) _), hx.below (bel_drewN (bel_self _) _)⟩
        case measure => simp [intOf]; omega
      · have hk1 : 0 < k := by omega
        obtain ⟨p, hp⟩ : ∃ p, p = f.arcs.getD (k - 1) a0 := ⟨_, rfl⟩
        have HP : Hid (prevA f.arcs k = some p) := prevA_pos _ _ p hk1 hkl hp
        have HPP : Hid (p = f.arcs.getD (k - 1) a0) := hp
        clear hp
        have hd : decide (0 < k) = true := by simpa using hk1
        have hi0 : (0 : Int) ≤ (k : Int) - 1 := by omega
        have hi1 : (k : Int) - 1 < (n : Int) := by omega
        have hwk : IntKind.i64.wrap ((k : Int) - 1) = (k : Int) - 1 := IntWalk.i64_in _ ⟨by omega, by omega⟩
        have htk : ((k : Int) - 1).toNat = k - 1 := by omega
        have hi2 : (1 : Int) ≤ (k : Int) := by omega
        have hi3 : (k : Int) < (n : Int) + 1 := by omega
        have hi4 : k < n + 1 := by omega
        have hi5 : 1 ≤ k := by omega
        go_wp2_with (first | (go_at_call 137; refine (isState_any _ _ _ _ _ _ (by omega) (by omega)).mono ?_; rintro e w' ⟨rfl, hbw⟩; have hF : CellsF w' w.heap.size f.states f.start fin (.slice (some ⟨b, off, none⟩) n cap) := (by first | exact (hF.below (bel_up (bel_self _) _)).below hbw | exact hF.below hbw); have hA : CellsA w' wr.heap.size a := (by first | exact hA.below hbw | exact CellsA.below (by simp [CellsA]) hbw); have hx : ArcsAt w' b off n f.arcs := (by first | exact (hx.below (bel_up (bel_self _) _)).below hbw | exact hx.below hbw); have hBel : Below w.heap.size w w' := (by first | exact bel_on (bel_up hbr _) hbw | exact bel_on hBel hbw); have hF' := hF; have hA' := hA; obtain ⟨f0, f1, f2, f3⟩ := hF'; obtain ⟨v0, v1, v2, v3, v4⟩ := hA'; clear hbw) | (go_at_call 136; refine (within_any _ _ _ _).mono ?_; rintro e w' ⟨rfl, rfl⟩))
        all_goals try (go_ret; exact ⟨ret_int (arcsErr_bad _ _ _ a _ hkl HA.out HX.out (by simp [arcErr, *]) (by decide)).symm, hBel⟩)
        have e0 := hx.c0 (k - 1) (by omega)
        have e1 := hx.c1 (k - 1) (by omega)
        have e2 := hx.c2 (k - 1) (by omega)
        have e3 := hx.c3 (k - 1) (by omega)
        have e4 := hx.c4 (k - 1) (by omega)
        rw [← HPP.out] at e0 e1 e2 e3 e4
        have s1 := cell_lt f0
        have s2 := cell_lt e0
        have s3 := cell_lt v0
        have hca := cmpArc_ahead p a
        cases hah : aheadB p a
        · have hcd : decide (0 ≤ cmpArc p a) = true := by rw [hca, hah]; rfl
          have hcd' : 0 ≤ cmpArc p a := by simpa using hcd
          have HAH : Hid (aheadB p a = false) := hah
          clear hca hah
          go_region_held3 (fun wx => wx.cell? ⟨w.heap.size, 3, none⟩ = some (.slice (some ⟨b, off, none⟩) n cap) ∧ wx.cell? ⟨b, off + (k - 1) * 5, none⟩ = some (.int .i64 p.src) ∧ wx.cell? ⟨b, off + (k - 1) * 5 + 1, none⟩ = some (.int .i64 p.inp) ∧ wx.cell? ⟨b, off + (k - 1) * 5 + 2, none⟩ = some (.int .i64 p.out) ∧ wx.cell? ⟨b, off + (k - 1) * 5 + 3, none⟩ = some (.int .i64 p.dst) ∧ wx.cell? ⟨b, off + (k - 1) * 5 + 4, none⟩ = some (.int .i64 p.wt) ∧ wx.cell? ⟨wr.heap.size, 0, none⟩ = some (.int .i64 a.src) ∧ wx.cell? ⟨wr.heap.size, 1, none⟩ = some (.int .i64 a.inp) ∧ wx.cell? ⟨wr.heap.size, 2, none⟩ = some (.int .i64 a.out) ∧ wx.cell? ⟨wr.heap.size, 3, none⟩ = some (.int .i64 a.dst) ∧ wx.cell? ⟨wr.heap.size, 4, none⟩ = some (.int .i64 a.wt)) (first | go_keep | (go_split_ands; refine ⟨bel_c hbw (by assumption), bel_c hbw (by assumption), bel_c hbw (by assumption), bel_c hbw (by assumption), bel_c hbw (by assumption), bel_c hbw (by assumption), bel_c hbw (by assumption), bel_c hbw (by assumption), bel_c hbw (by assumption), bel_c hbw (by assumption), bel_c hbw (by assumption)⟩)) ((go_at_call 112; refine (compareArcs_any p a _).mono ?_; rintro e w' ⟨rfl, hbw⟩))
          go_wp2
          go_ret
          exact ⟨ret_int (arcsErr_bad _ _ _ a _ hkl HA.out HX.out (by rw [HP.out]; simp [arcErr, HAH.out, *]) (by decide)).symm, bel_on hBel.drew hbw⟩
        · have hcd : decide (0 ≤ cmpArc p a) = false := by rw [hca, hah]; rfl
          have hcd' : cmpArc p a < 0 := by simpa using hcd
          have HAH : Hid (aheadB p a = true) := hah
          clear hca hah
          go_region_held3 (fun wx => wx.cell? ⟨w.heap.size, 3, none⟩ = some (.slice (some ⟨b, off, none⟩) n cap) ∧ wx.cell? ⟨b, off + (k - 1) * 5, none⟩ = some (.int .i64 p.src) ∧ wx.cell? ⟨b, off + (k - 1) * 5 + 1, none⟩ = some (.int .i64 p.inp) ∧ wx.cell? ⟨b, off + (k - 1) * 5 + 2, none⟩ = some (.int .i64 p.out) ∧ wx.cell? ⟨b, off + (k - 1) * 5 + 3, none⟩ = some (.int .i64 p.dst) ∧ wx.cell? ⟨b, off + (k - 1) * 5 + 4, none⟩ = some (.int .i64 p.wt) ∧ wx.cell? ⟨wr.heap.size, 0, none⟩ = some (.int .i64 a.src) ∧ wx.cell? ⟨wr.heap.size, 1, none⟩ = some (.int .i64 a.inp) ∧ wx.cell? ⟨wr.heap.size, 2, none⟩ = some (.int .i64 a.out) ∧ wx.cell? ⟨wr.heap.size, 3, none⟩ = some (.int .i64 a.dst) ∧ wx.cell? ⟨wr.heap.size, 4, none⟩ = some (.int .i64 a.wt)) (first | go_keep | (go_split_ands; refine ⟨bel_c hbw (by assumption), bel_c hbw (by assumption), bel_c hbw (by assumption), bel_c hbw (by assumption), bel_c hbw (by assumption), bel_c hbw (by assumption), bel_c hbw (by assumption), bel_c hbw (by assumption), bel_c hbw (by assumption), bel_c hbw (by assumption), bel_c hbw (by assumption)⟩)) ((go_at_call 112; refine (compareArcs_any p a _).mono ?_; rintro e w' ⟨rfl, hbw⟩))
          go_wp2
          go_roundw
          case rel => exact ⟨k + 1, by omega, by go_num, arcsErr_on _ _ _ a HA.out HX.out (by rw [HP.out]; simp [arcErr, HAH.out, *]), bel_on hBel.drew hbw, (hF.below (bel_self _).drew).below hbw, (hx.below (bel_self _).drew).below hbw⟩
          case measure => simp [intOf]; omega
    · go_wp2
      go_ret
      exact ⟨ret_int (arcsErr_miss _ _ (fun j hj => HA.out j (by omega))).symm, hbr⟩

theorem checkArcs_nil (f : FstD) (fin : Value) (a : Option Addr) (cap : Nat) (w : World) :
    Calls Try.prog 139 #[.agg #[.int .i64 f.states, .int .i64 f.start, fin, .slice a 0 cap]] w fun e w' =>
      e = .returned (.int .i64 0) ∧ Below w.heap.size w w' := by
  go_enter Try.func139, Try.ntmps139
  go_wp2
  go_loop [8] (fun i => i = .int .i64 0) (fun _ => 0)
  case atStart => rfl
  case round =>
    subst hrel
    go_wp2
    go_ret
    exact ⟨rfl, bel_up (bel_self _) _⟩

theorem checkArcs_any (f : FstD) (fin arcs : Value) (w : World) (ha : ASlice w arcs f.arcs) (h1 : 1 ≤ f.states) (h2 : f.states ≤ 200) :
    Calls Try.prog 139 #[.agg #[.int .i64 f.states, .int .i64 f.start, fin, arcs]] w fun e w' =>
      e = .returned (.int .i64 (arcsErr f.states none f.arcs)) ∧ Below w.heap.size w w' := by
  rcases ha with ⟨a, cap, rfl, h⟩ | ⟨b, off, n, cap, rfl, hx, hn⟩
  · rw [h]; exact checkArcs_nil f fin a cap w
  · exact checkArcs_some f fin b off n cap w hx hn h1 h2

theorem inB_le {n a b : Int} (h : inB n a b = true) : a ≤ n ∧ n ≤ b := by simpa [inB] using h

theorem ISlice.lenOf {w : World} {v : Value} {xs : List Int} (h : ISlice w v xs) : ∃ a n c, v = .slice a n c ∧ xs.length = n ∧ n ≤ maxLen := by
  rcases h with ⟨a, cap, rfl, rfl⟩ | ⟨b, off, n, cap, rfl, hx, hn⟩
  · exact ⟨a, 0, cap, rfl, rfl, by decide⟩
  · exact ⟨_, n, cap, rfl, hx.len, hn⟩

theorem ASlice.lenOf {w : World} {v : Value} {xs : List ArcD} (h : ASlice w v xs) : ∃ a n c, v = .slice a n c ∧ xs.length = n ∧ n ≤ maxLen := by
  rcases h with ⟨a, cap, rfl, rfl⟩ | ⟨b, off, n, cap, rfl, hx, hn⟩
  · exact ⟨a, 0, cap, rfl, rfl, by decide⟩
  · exact ⟨_, n, cap, rfl, hx.len, hn⟩

set_option maxHeartbeats 1000000 in
theorem check_any (f : FstD) (fin arcs : Value) (w : World) (hf : ISlice w fin f.final) (ha : ASlice w arcs f.arcs) :
    Calls Try.prog 101 #[.agg #[.int .i64 f.states, .int .i64 f.start, fin, arcs]] w fun e w' =>
      e = .returned (.int .i64 (checkD f)) ∧ Below w.heap.size w w' := by
  obtain ⟨fa, fn, fc, rfl, hfl, hfm⟩ := hf.lenOf
  obtain ⟨aa, an, ac, rfl, hal, ham⟩ := ha.lenOf
  have HFL : Hid (f.final.length = fn) := hfl
  have HAL : Hid (f.arcs.length = an) := hal
  unfold maxLen at hfm ham
  clear hfl hal
  cases hs : inB f.states 1 200
  · go_enter Try.func101, Try.ntmps101
    go_wp2_with (go_at_call 136; refine (within_any _ _ _ _).mono ?_; rintro e w' ⟨rfl, rfl⟩)
    go_ret
    exact ⟨ret_int (by simp [checkD, hs]), bel_up (bel_self _) _⟩
  · obtain ⟨l1, l2⟩ := inB_le hs
    have hbF : CellsF (w.alloc (.cells #[.int .i64 f.states, .int .i64 f.start, .slice fa fn fc, .slice aa an ac] 25)) w.heap.size f.states f.start (.slice fa fn fc) (.slice aa an ac) := by simp [CellsF]
    go_enter Try.func101, Try.ntmps101
    go_wp2_with (first | (go_at_call 136; refine (within_any _ _ _ _).mono ?_; rintro e w' ⟨rfl, rfl⟩) | (go_at_call 137; refine (isState_any _ _ _ _ _ _ (by omega) (by omega)).mono ?_; rintro e w' ⟨rfl, hbw⟩; have hF := hbF.below hbw; have hB := bel_on (bel_up (bel_self w) _) hbw; have hf := hf.below hB; have ha := ha.below hB; clear hbw; have hF' := hF; obtain ⟨f0, f1, f2, f3⟩ := hF') | (go_at_call 56; refine (chk_contains _ f.final _ hf).mono ?_; rintro e w' ⟨rfl, rfl⟩) | (go_at_call 139; refine (checkArcs_any f _ _ _ ha (by omega) (by omega)).mono ?_; rintro e w' ⟨rfl, hbw⟩))
    all_goals
      go_ret
      refine ⟨ret_int ?_, ?_⟩
      · have e1 := HFL.out
        have e2 := HAL.out
        clear hbF
        unfold checkD
        rw [hs, e1, e2]
        generalize f.final.any finB = q at *
        simp_all <;> omega
      · first | exact hB | exact bel_on hB hbw

end Go.Proofs.Yteehgcbjmdideaa
