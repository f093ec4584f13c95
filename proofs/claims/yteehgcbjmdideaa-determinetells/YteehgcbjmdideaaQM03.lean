/- 'SameInts', 'SameFst' of the document's answer; 'one', 'fstIs' of the statements. -/
import Derived.Test.YteehgcbjmdideaaQCheckF
import Derived.Test.YteehgcbjmdideaaQM01
import Derived.Test.YteehgcbjmdideaaQM02
namespace Go.Proofs.Yteehgcbjmdideaa
open Go.RowKit
attribute [local go_sem ↓] Go.wp_at_zero Go.wp_at_succ

theorem getD_ext {α : Type} (d : α) (xs ys : List α) (h : xs.length = ys.length) (he : ∀ j, j < xs.length → xs.getD j d = ys.getD j d) : xs = ys := by
  apply List.ext_getElem h
  intro i h1 h2
  have := he i h1
  simpa [List.getD, h1, h2] using this

set_option maxHeartbeats 1000000 in
theorem sameInts_any (u v : Value) (xs ys : List Int) (w : World) (hu : ISlice w u xs) (hv : ISlice w v ys) :
    Calls Try.prog 43 #[u, v] w fun e w' => e = .returned (.bool (decide (xs = ys))) ∧ Below w.heap.size w w' := by
  obtain ⟨ua, n, uc, rfl, hul, hum⟩ := hu.lenOf
  obtain ⟨va, m, vc, rfl, hvl, hvm⟩ := hv.lenOf
  have HU : Hid (xs.length = n) := hul
  have HV : Hid (ys.length = m) := hvl
  unfold maxLen at hum hvm
  clear hul hvl
  by_cases hnm : n = m
  · subst hnm
    go_enter Try.func43, Try.ntmps43
    go_wp2
    go_loopw [5] (fun i wr => ∃ k : Nat, k ≤ n ∧ i = .int .i64 k ∧ (∀ j, j < k → xs.getD j 0 = ys.getD j 0) ∧ Below w.heap.size w wr) (fun i _ => n - (intOf i).toNat)
    case atStart => exact ⟨0, Nat.zero_le _, rfl, fun j hj => absurd hj (Nat.not_lt_zero _), bel_self _⟩
    case round =>
      obtain ⟨k, hk, rfl, hall, hb⟩ := hrel
      have HA : Hid (∀ j, j < k → xs.getD j 0 = ys.getD j 0) := hall
      clear hall
      by_cases hlt : k < n
      · obtain ⟨b, off, rfl, hx⟩ := hu.some (by omega)
        obtain ⟨b', off', rfl, hy⟩ := hv.some (by omega)
        have c0 := (hx.below hb).cell k hlt
        have c1 := (hy.below hb).cell k hlt
        obtain ⟨x, hxk⟩ : ∃ x, x = xs.getD k 0 := ⟨_, rfl⟩
        obtain ⟨y, hyk⟩ : ∃ y, y = ys.getD k 0 := ⟨_, rfl⟩
        rw [← hxk] at c0
        rw [← hyk] at c1
        have HX : Hid (x = xs.getD k 0) := hxk
        have HY : Hid (y = ys.getD k 0) := hyk
        clear hxk hyk
        have hi : (k : Int) < n := by omega
        by_cases hxy : x = y
        · have hd : (x != y) = false := by simp [hxy]
          go_wp2
          go_quiet (fail)
          go_wp2
          go_roundw
          case rel =>
            refine ⟨k + 1, by omega, by go_num, fun j hj => ?_, bel_drewN hb _⟩
            by_cases e : j = k
            · subst e; rw [← HX.out, ← HY.out]; exact hxy
            · exact HA.out j (by omega)
          case measure => simp [intOf]; omega
        · have hd : (x == y) = false := by simpa using hxy
          have hne : decide (xs = ys) = false := by
            simp only [decide_eq_false_iff_not]
            intro h; apply hxy; rw [HX.out, HY.out, h]
          have HD : Hid (decide (xs = ys) = false) := hne
          clear hne
          go_wp2
          go_quiet (fail)
          go_wp2
          go_ret
          exact ⟨ret_bool HD.out.symm, bel_drewN hb _⟩
      · have HD : Hid (xs = ys) := getD_ext 0 xs ys (by rw [HU.out, HV.out]) (fun j hj => HA.out j (by have := HU.out; omega))
        go_wp2
        go_ret
        exact ⟨ret_bool (by simp [HD.out]), hb⟩
  · have hd : ((n : Int) == (m : Int)) = false := by rw [beq_eq_false_iff_ne]; omega
    have hd' : (n == m) = false := by simpa using hnm
    have HD : Hid (decide (xs = ys) = false) := by
      have h1 := HU.out
      have h2 := HV.out
      show decide (xs = ys) = false
      simp only [decide_eq_false_iff_not]
      intro h; subst h; omega
    go_enter Try.func43, Try.ntmps43
    go_wp2
    go_ret
    exact ⟨ret_bool HD.out.symm, bel_self _⟩

theorem arcs_neq (x y : ArcD) (w : World) : (binOp .neq 63 (.agg #[.int .i64 x.src, .int .i64 x.inp, .int .i64 x.out, .int .i64 x.dst, .int .i64 x.wt]) (.agg #[.int .i64 y.src, .int .i64 y.inp, .int .i64 y.out, .int .i64 y.dst, .int .i64 y.wt])).run Try.prog w = .ok (.bool (!@decide (x = y) (decA x y))) w := by
  rw [run_neq_struct]
  rw [run_equalIn_agg w 9999 63 _ _ (by kernel_rfl) (by kernel_rfl)]
  go_simp
  obtain ⟨x0, x1, x2, x3, x4⟩ := x
  obtain ⟨y0, y1, y2, y3, y4⟩ := y
  simp only [ArcD.mk.injEq]
  by_cases h0 : x0 = y0 <;> by_cases h1 : x1 = y1 <;> by_cases h2 : x2 = y2 <;> by_cases h3 : x3 = y3 <;> by_cases h4 : x4 = y4 <;> simp [h0, h1, h2, h3, h4]

def sameD (f g : FstD) : Bool := decide (f.states = g.states) && decide (f.start = g.start) && decide (f.final = g.final) && @decide (f.arcs = g.arcs) (decAs f.arcs g.arcs)

set_option maxHeartbeats 1000000 in
theorem sameFst_any (f g : FstD) (fin arcs fin' arcs' : Value) (w : World) (hf : ISlice w fin f.final) (ha : ASlice w arcs f.arcs) (hf' : ISlice w fin' g.final) (ha' : ASlice w arcs' g.arcs) :
    Calls Try.prog 22 #[.agg #[.int .i64 f.states, .int .i64 f.start, fin, arcs], .agg #[.int .i64 g.states, .int .i64 g.start, fin', arcs']] w fun e w' =>
      e = .returned (.bool (sameD f g)) ∧ Below w.heap.size w w' := by
  obtain ⟨aa, n, ac, rfl, hal, ham⟩ := ha.lenOf
  obtain ⟨ba, m, bc, rfl, hbl, hbm⟩ := ha'.lenOf
  have HAL : Hid (f.arcs.length = n) := hal
  have HBL : Hid (g.arcs.length = m) := hbl
  unfold maxLen at ham hbm
  clear hal hbl
  have hbF : CellsF ((w.alloc (.cells #[.int .i64 f.states, .int .i64 f.start, fin, .slice aa n ac] 25)).alloc (.cells #[.int .i64 g.states, .int .i64 g.start, fin', .slice ba m bc] 25)) w.heap.size f.states f.start fin (.slice aa n ac) := by simp [CellsF]
  have hbG : CellsF ((w.alloc (.cells #[.int .i64 f.states, .int .i64 f.start, fin, .slice aa n ac] 25)).alloc (.cells #[.int .i64 g.states, .int .i64 g.start, fin', .slice ba m bc] 25)) (w.heap.size + 1) g.states g.start fin' (.slice ba m bc) := by simp [CellsF]
  have hb0 := bel_up (bel_up (bel_self w) (.cells #[.int .i64 f.states, .int .i64 f.start, fin, .slice aa n ac] 25)) (.cells #[.int .i64 g.states, .int .i64 g.start, fin', .slice ba m bc] 25)
  have h1 := hf.below hb0
  have h2 := hf'.below hb0
  have h3 := ha.below hb0
  have h4 := ha'.below hb0
  cases d1 : (f.states != g.states)
  · cases d2 : (f.start != g.start)
    · cases d3 : decide (f.final = g.final)
      · go_enter Try.func22, Try.ntmps22
        go_wp2_with (go_at_call 43; refine (sameInts_any _ _ f.final g.final _ h1 h2).mono ?_; rintro e w' ⟨rfl, hbw⟩; have hF := hbF.below hbw; have hG := hbG.below hbw; have hB := bel_on hb0 hbw; have k3 := h3.below hbw; have k4 := h4.below hbw; clear hbw; have hF' := hF; obtain ⟨f0, f1, f2, f3⟩ := hF'; have hG' := hG; obtain ⟨g0, g1, g2, g3⟩ := hG')
        go_ret
        exact ⟨ret_bool (by simp [sameD, d3]), hB⟩
      · cases d4 : (n != m)
        · have hnm : n = m := by simpa using d4
          subst hnm
          go_enter Try.func22, Try.ntmps22
          go_wp2_with (go_at_call 43; refine (sameInts_any _ _ f.final g.final _ h1 h2).mono ?_; rintro e w' ⟨rfl, hbw⟩; have hF := hbF.below hbw; have hG := hbG.below hbw; have hB := bel_on hb0 hbw; have k3 := h3.below hbw; have k4 := h4.below hbw; clear hbw; have hF' := hF; obtain ⟨f0, f1, f2, f3⟩ := hF'; have hG' := hG; obtain ⟨g0, g1, g2, g3⟩ := hG')
          clear h1 h2 h3 h4 hbF hbG hb0 f0 f1 f2 f3 g0 g1 g2 g3
          go_loopw [5] (fun i wr => ∃ k : Nat, k ≤ n ∧ i = .int .i64 k ∧ (∀ j, j < k → f.arcs.getD j a0 = g.arcs.getD j a0) ∧ CellsF wr w.heap.size f.states f.start fin (.slice aa n ac) ∧ CellsF wr (w.heap.size + 1) g.states g.start fin' (.slice ba n bc) ∧ ASlice wr (.slice aa n ac) f.arcs ∧ ASlice wr (.slice ba n bc) g.arcs ∧ Below w.heap.size w wr) (fun i _ => n - (intOf i).toNat)
          case atStart => exact ⟨0, Nat.zero_le _, rfl, fun j hj => absurd hj (Nat.not_lt_zero _), hF, hG, k3, k4, hB⟩
          case round =>
            clear hF hG k3 k4 hB
            obtain ⟨k, hk, rfl, hall, hF, hG, k3, k4, hB⟩ := hrel
            have HA : Hid (∀ j, j < k → f.arcs.getD j a0 = g.arcs.getD j a0) := hall
            clear hall
            have hF' := hF
            have hG' := hG
            obtain ⟨f0, f1, f2, f3⟩ := hF'
            obtain ⟨g0, g1, g2, g3⟩ := hG'
            by_cases hlt : k < n
            · obtain ⟨b, off, rfl, hx⟩ := k3.some (by omega)
              obtain ⟨b', off', rfl, hy⟩ := k4.some (by omega)
              obtain ⟨x, hxk⟩ : ∃ x, x = f.arcs.getD k a0 := ⟨_, rfl⟩
              obtain ⟨y, hyk⟩ : ∃ y, y = g.arcs.getD k a0 := ⟨_, rfl⟩
              have c0 := hx.c0 k hlt
              have c1 := hx.c1 k hlt
              have c2 := hx.c2 k hlt
              have c3 := hx.c3 k hlt
              have c4 := hx.c4 k hlt
              rw [← hxk] at c0 c1 c2 c3 c4
              have e0 := hy.c0 k hlt
              have e1 := hy.c1 k hlt
              have e2 := hy.c2 k hlt
              have e3 := hy.c3 k hlt
              have e4 := hy.c4 k hlt
              rw [← hyk] at e0 e1 e2 e3 e4
              have HX : Hid (x = f.arcs.getD k a0) := hxk
              have HY : Hid (y = g.arcs.getD k a0) := hyk
              clear hxk hyk
              have hi : (k : Int) < n := by omega
              have hneq := arcs_neq x y
              have hgd : Try.prog.eqGuardType Try.prog.depth 63 = false := by kernel_rfl
              cases hxy : @decide (x = y) (decA x y)
              · have HD : Hid (@decide (f.arcs = g.arcs) (decAs f.arcs g.arcs) = false) := by
                  show @decide (f.arcs = g.arcs) (decAs f.arcs g.arcs) = false
                  simp only [decide_eq_false_iff_not] at hxy ⊢
                  intro h; apply hxy; rw [HX.out, HY.out, h]
                go_wp2
                go_quiet (fail)
                go_wp2
                go_ret
                exact ⟨ret_bool (by simp [sameD, HD.out]), bel_drewN hB _⟩
              · have HD : Hid (x = y) := (by have h := hxy; simpa using h : x = y)
                go_wp2
                go_quiet (fail)
                go_wp2
                go_roundw
                case rel =>
                  refine ⟨k + 1, by omega, by go_num, fun j hj => ?_, hF.below (bel_drewN (bel_self _) _), hG.below (bel_drewN (bel_self _) _), k3.below (bel_drewN (bel_self _) _), k4.below (bel_drewN (bel_self _) _), bel_drewN hB _⟩
                  by_cases e : j = k
                  · subst e; rw [← HX.out, ← HY.out]; exact HD.out
                  · exact HA.out j (by omega)
                case measure => simp [intOf]; omega
            · have HD : Hid (f.arcs = g.arcs) := getD_ext a0 _ _ (by rw [HAL.out, HBL.out]) (fun j hj => HA.out j (by have := HAL.out; omega))
              go_wp2
              go_ret
              exact ⟨ret_bool (by simp at d1 d2; simp [sameD, HD.out, d1, d2, d3]), hB⟩
        · have HD : Hid (@decide (f.arcs = g.arcs) (decAs f.arcs g.arcs) = false) := by
            have q1 := HAL.out
            have q2 := HBL.out
            show @decide (f.arcs = g.arcs) (decAs f.arcs g.arcs) = false
            simp only [decide_eq_false_iff_not]
            intro h
            rw [h] at q1
            simp at d4; omega
          have d4' : (n == m) = false := by simpa using d4
          go_enter Try.func22, Try.ntmps22
          go_wp2_with (go_at_call 43; refine (sameInts_any _ _ f.final g.final _ h1 h2).mono ?_; rintro e w' ⟨rfl, hbw⟩; have hF := hbF.below hbw; have hG := hbG.below hbw; have hB := bel_on hb0 hbw; have k3 := h3.below hbw; have k4 := h4.below hbw; clear hbw; have hF' := hF; obtain ⟨f0, f1, f2, f3⟩ := hF'; have hG' := hG; obtain ⟨g0, g1, g2, g3⟩ := hG')
          go_ret
          exact ⟨ret_bool (by simp [sameD, HD.out]), hB⟩
    · go_enter Try.func22, Try.ntmps22
      go_wp2
      go_ret
      exact ⟨ret_bool (by simp at d2; simp [sameD, d2]), hb0⟩
  · go_enter Try.func22, Try.ntmps22
    go_wp2
    go_ret
    exact ⟨ret_bool (by simp at d1; simp [sameD, d1]), hb0⟩

end Go.Proofs.Yteehgcbjmdideaa

/- 'All' of package sound. -/
namespace Go.Proofs.Yteehgcbjmdideaa
open Go.RowKit
attribute [local go_sem ↓] Go.wp_at_zero Go.wp_at_succ

set_option maxHeartbeats 1000000 in
set_option maxRecDepth 100000 in
theorem all_one (f : FstD) (fin arcs : Value) (B : Nat) (c : Int) (w : World) (hC : CellsF w B f.states f.start fin arcs) (hf : ISlice w fin f.final) (ha : ASlice w arcs f.arcs) (hc : checkD f = c) :
    Calls Try.prog 59 #[.slice (some ⟨B, 0, none⟩) 1 1] w fun e w' => e = .returned (.int .i64 c) ∧ Below w.heap.size w w' := by
  obtain ⟨fa, fn, fc, rfl, _, _⟩ := hf.lenOf
  obtain ⟨ba, bn, bc, rfl, _, _⟩ := ha.lenOf
  have hchk : ∀ W, ISlice W (.slice fa fn fc) f.final → ASlice W (.slice ba bn bc) f.arcs → Calls Try.prog 101 #[.agg #[.int .i64 f.states, .int .i64 f.start, .slice fa fn fc, .slice ba bn bc]] W fun e w' => e = .returned (.int .i64 c) ∧ Below W.heap.size W w' := by
    intro W k1 k2; subst hc; exact check_any f _ _ W k1 k2
  clear hc
  go_enter Try.func59, Try.ntmps59
  go_wp2
  go_loopw [8] (fun i wr => ∃ k : Nat, k ≤ 1 ∧ i = .int .i64 k ∧ (k = 1 → c = 0) ∧ Below w.heap.size w wr) (fun i _ => 1 - (intOf i).toNat)
  case atStart => exact ⟨0, by omega, rfl, fun h => by omega, bel_self _⟩
  case round =>
    obtain ⟨k, hk, rfl, hck, hb⟩ := hrel
    by_cases hlt : k < 1
    · have hk0 : k = 0 := by omega
      subst hk0
      clear hck
      obtain ⟨q0, q1, q2, q3⟩ := hC.below hb
      have hb1 := bel_up (bel_self wr) (.cells #[.int .i64 f.states, .int .i64 f.start, .slice fa fn fc, .slice ba bn bc] 25)
      have h1 := (hf.below hb).below hb1
      have h2 := (ha.below hb).below hb1
      by_cases h0 : c = 0
      · subst h0
        go_wp2_with (go_at_call 101; refine (hchk _ h1 h2).mono ?_; rintro e w1 ⟨rfl, hb2⟩)
        go_roundw
        case rel => exact ⟨1, Nat.le_refl _, by go_num, fun _ => by trivial, bel_on (bel_on hb hb1) hb2⟩
        case measure => simp [intOf]
      · have h0b : (c == 0) = false := by simpa using h0
        have h0n : (c != 0) = true := by simpa using h0
        go_wp2_with (go_at_call 101; refine (hchk _ h1 h2).mono ?_; rintro e w1 ⟨rfl, hb2⟩)
        go_ret
        exact ⟨rfl, bel_on (bel_on hb hb1) hb2⟩
    · have hk1 : k = 1 := by omega
      have h0 := hck hk1
      subst hk1 h0
      clear hck
      go_wp2
      go_ret
      exact ⟨rfl, hb⟩

theorem cellsF_new (w : World) (st sta : Int) (fin arcs : Value) (t : Nat) : CellsF (w.alloc (.cells #[.int .i64 st, .int .i64 sta, fin, arcs] t)) w.heap.size st sta fin arcs := by simp [CellsF]
theorem cellsF_at (w : World) (st sta : Int) (fin arcs : Value) (t B : Nat) (h : w.heap.size = B) : CellsF (w.alloc (.cells #[.int .i64 st, .int .i64 sta, fin, arcs] t)) B st sta fin arcs := by subst h; exact cellsF_new w st sta fin arcs t
theorem two_up (w : World) (o p : Obj) : Below w.heap.size w ((w.alloc o).alloc p) := bel_up (bel_up (bel_self w) o) p
theorem one_size (w : World) (o : Obj) : (w.alloc o).heap.size = w.heap.size + 1 := by simp
end Go.Proofs.Yteehgcbjmdideaa

/- 'All' of package sound; 'From', 'toEnd', 'To' of package short. -/
namespace Go.Proofs.Yteehgcbjmdideaa
open Go.RowKit
attribute [local go_sem ↓] Go.wp_at_zero Go.wp_at_succ

theorem goF : ∀ args w, (callFunc 84 args).run Try.prog w = .ok (.enter 84 args) w := by
  intro args w
  have h1 : (Try.f84.name == "runtime.NumGoroutine") = false := by kernel_rfl
  have h2 : Try.f84.body.isNone = false := by kernel_rfl
  have h3 : ¬ Try.f84.name = "runtime.NumGoroutine" := by simpa using h1
  have h4 : ¬ Try.f84.body = none := fun e => by rw [e] at h2; cases h2
  simp [callFunc, Try.func84, h3, h4]
theorem goT : ∀ args w, (callFunc 121 args).run Try.prog w = .ok (.enter 121 args) w := by
  intro args w
  have h1 : (Try.f121.name == "runtime.NumGoroutine") = false := by kernel_rfl
  have h2 : Try.f121.body.isNone = false := by kernel_rfl
  have h3 : ¬ Try.f121.name = "runtime.NumGoroutine" := by simpa using h1
  have h4 : ¬ Try.f121.body = none := fun e => by rw [e] at h2; cases h2
  simp [callFunc, Try.func121, h3, h4]

/-- what 'From' and 'To' answer -/
def ListRes (w : World) (l : List Int) (c : Int) (e : Ending) (w' : World) : Prop :=
  ∃ a n cap, e = .returned (.tuple #[.slice a n cap, .int .i64 c]) ∧ ISlice w' (.slice a n cap) l ∧ Below w.heap.size w w'


/-- the world behind the first two blocks -/

theorem all_at (f : FstD) (fin arcs : Value) (c : Int) (w : World) (hf : ISlice w fin f.final) (ha : ASlice w arcs f.arcs) (hc : checkD f = c) :
    Calls Try.prog 59 #[.slice (some ⟨w.heap.size + 1, 0, none⟩) 1 1] ((w.alloc (.cells #[.int .i64 f.states, .int .i64 f.start, fin, arcs] 25)).alloc (.cells #[.int .i64 f.states, .int .i64 f.start, fin, arcs] 25)) fun e w' =>
      e = .returned (.int .i64 c) ∧ Below w.heap.size w w' ∧ CellsF w' w.heap.size f.states f.start fin arcs ∧ ISlice w' fin f.final ∧ ASlice w' arcs f.arcs := by
  have hb := two_up w (.cells #[.int .i64 f.states, .int .i64 f.start, fin, arcs] 25) (.cells #[.int .i64 f.states, .int .i64 f.start, fin, arcs] 25)
  refine (all_one f fin arcs (w.heap.size + 1) c _ (cellsF_at _ _ _ _ _ _ _ (one_size _ _)) (hf.below hb) (ha.below hb) hc).mono ?_
  rintro e w' ⟨rfl, hb2⟩
  exact ⟨rfl, bel_on hb hb2, ((cellsF_new w _ _ _ _ _).below (bel_up (bel_self _) _)).below hb2, (hf.below hb).below hb2, (ha.below hb).below hb2⟩

theorem nil_ints (w : World) : ISlice w (.slice none 0 0) [] := Or.inl ⟨none, 0, rfl, rfl⟩

set_option maxHeartbeats 1000000 in
set_option maxRecDepth 100000 in
theorem from_bad (f : FstD) (fin arcs : Value) (c : Int) (w : World) (hf : ISlice w fin f.final) (ha : ASlice w arcs f.arcs) (hc : checkD f = c) (h0 : (c == 0) = false) :
    Calls Try.prog 36 #[.agg #[.int .i64 f.states, .int .i64 f.start, fin, arcs]] w fun e w' => ListRes w [] c e w' := by
  obtain ⟨fa, fn, fc, rfl, _, _⟩ := hf.lenOf
  obtain ⟨ba, bn, bc, rfl, _, _⟩ := ha.lenOf
  have hall := all_at f _ _ c w hf ha hc
  have h0n : (c != 0) = true := by simpa using h0
  clear hc
  go_enter Try.func36, Try.ntmps36
  go_wp2_with (go_at_call 59; refine hall.mono ?_; rintro e w1 ⟨rfl, hb1, _, _, _⟩)
  go_ret2
  exact ⟨_, _, _, rfl, nil_ints _, hb1⟩

set_option maxHeartbeats 1000000 in
set_option maxRecDepth 100000 in
theorem to_bad (f : FstD) (fin arcs : Value) (c : Int) (w : World) (hf : ISlice w fin f.final) (ha : ASlice w arcs f.arcs) (hc : checkD f = c) (h0 : (c == 0) = false) :
    Calls Try.prog 37 #[.agg #[.int .i64 f.states, .int .i64 f.start, fin, arcs]] w fun e w' => ListRes w [] c e w' := by
  obtain ⟨fa, fn, fc, rfl, _, _⟩ := hf.lenOf
  obtain ⟨ba, bn, bc, rfl, _, _⟩ := ha.lenOf
  have hall := all_at f _ _ c w hf ha hc
  have h0n : (c != 0) = true := by simpa using h0
  clear hc
  go_enter Try.func37, Try.ntmps37
  go_wp2_with (go_at_call 59; refine hall.mono ?_; rintro e w1 ⟨rfl, hb1, _, _, _⟩)
  go_ret2
  exact ⟨_, _, _, rfl, nil_ints _, hb1⟩

theorem NumsAt.ints {w : World} {g n : Nat} {c : List Int} (h : NumsAt w g n c) : IntsAt w g 0 n c :=
  ⟨h.len, fun i hi => by rw [Nat.zero_add, h.cell i hi, gI_getD (by rw [h.len]; exact hi)]⟩

theorem only_beg (n s : Nat) (w : World) (h1 : 1 ≤ n) (h2 : n ≤ 200) (hs : s < n) :
    Calls Try.prog 83 #[.int .i64 n, .int .i64 s] w fun e w' => ∃ G, e = .returned (.slice (some ⟨G, 0, none⟩) n n) ∧ IntsAt w' G 0 n (begL (s : Int) n) ∧ Below w.heap.size w w' := by
  refine (only_any n s w h1 h2 hs).mono ?_
  rintro e w' ⟨G, rfl, hG, _, hb⟩
  rw [beg_set] at hG
  have h := (NumsAt.of_block hG).ints
  rw [begL_len] at h
  exact ⟨G, rfl, h, hb⟩

theorem ok_src {f : FstD} {N s0 : Nat} (h : OkF f N s0) : ∀ a ∈ f.arcs, (0 ≤ a.src ∧ a.src < N) ∧ (0 ≤ a.dst ∧ a.dst < N) ∧ (0 ≤ a.wt ∧ a.wt ≤ 1000000000) := h.arcs
theorem ok_dst {f : FstD} {N s0 : Nat} (h : OkF f N s0) : ∀ a ∈ f.arcs, (0 ≤ a.dst ∧ a.dst < N) ∧ (0 ≤ a.src ∧ a.src < N) ∧ (0 ≤ a.wt ∧ a.wt ≤ 1000000000) := fun a ha => ⟨(h.arcs a ha).2.1, (h.arcs a ha).1, (h.arcs a ha).2.2⟩

set_option maxHeartbeats 1000000 in
set_option maxRecDepth 100000 in
theorem from_ok (f : FstD) (N s0 : Nat) (fin : Value) (aa : Option Addr) (m ac : Nat) (w : World) (hok : OkF f N s0) (hf : ISlice w fin f.final) (ha : ASlice w (.slice aa m ac) f.arcs) (hal : f.arcs.length = m) (hc : checkD f = 0) :
    Calls Try.prog 36 #[.agg #[.int .i64 f.states, .int .i64 f.start, fin, .slice aa m ac]] w fun e w' => ListRes w (fromD f) 0 e w' := by
  obtain ⟨fa, fn, fc, rfl, _, _⟩ := hf.lenOf
  have hall := all_at f _ _ 0 w hf ha hc
  have HOK : Hid (OkF f N s0) := hok
  have HC : Hid (checkD f = 0) := hc
  have hn1 := hok.n1
  have hn2 := hok.n2
  have hs := hok.s
  have hm := hok.many
  rw [hok.st, hok.sta] at *
  clear hc hok
  go_enter Try.func36, Try.ntmps36
  go_wp2_with (go_at_call 59; refine hall.mono ?_; rintro e w1 ⟨rfl, hb1, hC1, hf1, ha1⟩; obtain ⟨q0, q1, q2, q3⟩ := hC1)
  go_region_held3 (fun wx => wx.cell? ⟨w.heap.size, 0, none⟩ = some (.int .i64 N) ∧ wx.cell? ⟨w.heap.size, 1, none⟩ = some (.int .i64 s0) ∧ wx.cell? ⟨w.heap.size, 3, none⟩ = some (.slice aa m ac))
    (first | exact ⟨drew_cell q0, drew_cell q1, drew_cell q3⟩ | exact ⟨bel_c hb2 (drew_cell q0), bel_c hb2 (drew_cell q1), bel_c hb2 (drew_cell q3)⟩ | exact ⟨bel_c hb3 (bel_c hb2 (drew_cell q0)), bel_c hb3 (bel_c hb2 (drew_cell q1)), bel_c hb3 (bel_c hb2 (drew_cell q3))⟩)
    (first | (go_at_call 83; refine (only_beg N s0 _ hn1 hn2 hs).mono ?_; rintro e w2 ⟨G, rfl, hG, hb2⟩) | (go_at_call 82; refine (costs_some ArcD.src ArcD.dst 84 goF ahead_ends (begL (s0 : Int) N) G 0 N N aa m ac f.arcs w2 hG ((ha1.below (bel_self w1).drew).below hb2) hal (by omega) hn1 hn2 HOK.out.bF.1 HOK.out.bF.2 (ok_src HOK.out)).mono ?_; rintro e w3 ⟨gc, gy, c, y, cc, cy, rfl, hcw, hfix⟩; have hb3 := hcw.bel))
  go_wp2
  go_ret2
  have hcd : c = fromD f := HOK.out.fromD hcw.inv hfix
  rw [← hcd]
  exact ⟨_, _, _, rfl, hcw.rc.slice cc (by unfold maxLen; omega), bel_on (bel_on (bel_self _) hb1) (bel_on (bel_on (bel_self w1).drew hb2) hb3)⟩

theorem final_at {f : FstD} {N s0 : Nat} {w : World} {a : Option Addr} {n c : Nat} (h : OkF f N s0) (hf : ISlice w (.slice a n c) f.final) : ∃ b off, a = some ⟨b, off, none⟩ ∧ n = N ∧ IntsAt w b off N f.final := by
  obtain ⟨a', n', c', e, h1, _⟩ := hf.lenOf
  have hn : n = N := by
    injection e with e1 e2 e3
    have := h.len
    omega
  subst hn
  obtain ⟨b, off, rfl, hx⟩ := hf.some (by have := h.n1; omega)
  exact ⟨b, off, rfl, rfl, hx⟩

set_option maxHeartbeats 1000000 in
set_option maxRecDepth 100000 in
theorem toEnd_ok (f : FstD) (N s0 : Nat) (fin : Value) (aa : Option Addr) (m ac : Nat) (w : World) (hok : OkF f N s0) (hf : ISlice w fin f.final) (ha : ASlice w (.slice aa m ac) f.arcs) (hal : f.arcs.length = m) :
    Calls Try.prog 85 #[.agg #[.int .i64 (N : Int), .int .i64 (s0 : Int), fin, .slice aa m ac]] w fun e w' => CostsRes w N (edT f) f.final e w' := by
  obtain ⟨fa, fn, fc, rfl, _, _⟩ := hf.lenOf
  obtain ⟨fb, fo, rfl, rfl, hx⟩ := final_at hok hf
  have HOK : Hid (OkF f fn s0) := hok
  have hn1 := hok.n1
  have hn2 := hok.n2
  have hm := hok.many
  clear hok
  have hb0 := bel_up (bel_self w) (.cells #[.int .i64 (fn : Int), .int .i64 (s0 : Int), .slice (some ⟨fb, fo, none⟩) fn fc, .slice aa m ac] 25)
  go_enter Try.func85, Try.ntmps85
  go_wp2_with (go_at_call 82; refine (costs_some ArcD.dst ArcD.src 121 goT back_ends f.final fb fo fc fn aa m ac f.arcs _ (hx.below hb0) (ha.below hb0) hal (by omega) hn1 hn2 HOK.out.bT.1 HOK.out.bT.2 (ok_dst HOK.out)).mono ?_; rintro e w3 ⟨gc, gy, c, y, cc, cy, rfl, hcw, hfix⟩)
  go_ret2
  exact ⟨gc, gy, c, y, cc, cy, rfl, ⟨hcw.rc, hcw.ry, hcw.ne, by have := hcw.lc; simp at this; omega, by have := hcw.ly; simp at this; omega, bel_on hb0 hcw.bel, hcw.inv⟩, hfix⟩

set_option maxHeartbeats 1000000 in
set_option maxRecDepth 100000 in
theorem to_ok (f : FstD) (N s0 : Nat) (fin : Value) (aa : Option Addr) (m ac : Nat) (w : World) (hok : OkF f N s0) (hf : ISlice w fin f.final) (ha : ASlice w (.slice aa m ac) f.arcs) (hal : f.arcs.length = m) (hc : checkD f = 0) :
    Calls Try.prog 37 #[.agg #[.int .i64 f.states, .int .i64 f.start, fin, .slice aa m ac]] w fun e w' => ListRes w (toD f) 0 e w' := by
  obtain ⟨fa, fn, fc, rfl, _, _⟩ := hf.lenOf
  have hall := all_at f _ _ 0 w hf ha hc
  have HOK : Hid (OkF f N s0) := hok
  have HC : Hid (checkD f = 0) := hc
  have hn1 := hok.n1
  have hn2 := hok.n2
  rw [hok.st, hok.sta] at *
  clear hc hok
  go_enter Try.func37, Try.ntmps37
  go_wp2_with (first | (go_at_call 59; refine hall.mono ?_; rintro e w1 ⟨rfl, hb1, hC1, hf1, ha1⟩; obtain ⟨q0, q1, q2, q3⟩ := hC1) | (go_at_call 85; refine (toEnd_ok f N s0 _ aa m ac w1 HOK.out hf1 ha1 hal).mono ?_; rintro e w3 ⟨gc, gy, c, y, cc, cy, rfl, hcw, hfix⟩))
  go_ret2
  have hcd : c = toD f := HOK.out.toD hcw.inv hfix
  rw [← hcd]
  exact ⟨_, _, _, rfl, hcw.rc.slice cc (by unfold maxLen; omega), bel_on hb1 hcw.bel⟩

end Go.Proofs.Yteehgcbjmdideaa

/- 'FromOf' of the document's answer. -/
namespace Go.Proofs.Yteehgcbjmdideaa
open Go.RowKit
attribute [local go_sem ↓] Go.wp_at_zero Go.wp_at_succ

theorem relAll_take (L : List Edg) (c : List Int) (j : Nat) (e : Edg) (hj : L[j]? = some e) : relAll (L.take (j + 1)) c = relE (relAll (L.take j) c) e := by
  rw [List.take_add_one, hj]
  simp [relAll]

theorem Inv.rel {E : List Edg} {b c y : List Int} (h : Inv E b c y) (hb200 : b.length ≤ 200) {e : Edg} (he : e ∈ E) (hv : e.v < b.length) (hw0 : 0 ≤ e.w) (hw1 : e.w ≤ 1000000000) : ∃ y', Inv E b (relE c e) y' := by
  obtain ⟨j, hj⟩ := List.getElem?_of_mem he
  rw [← progE_eq c e h.lo]
  unfold progE
  split
  · rename_i hbt
    exact ⟨_, (h.step (by omega) hj hv hw0 hw1 hbt).1⟩
  · exact ⟨y, h⟩

/-- the world of the rounds: block H the transducer, G the prices -/
structure FW (w wr : World) (N G : Nat) (s0 : Int) (fin arcs : Value) (E : List Edg) (b c : List Int) : Prop where
  cf : CellsF wr w.heap.size (N : Int) s0 fin arcs
  row : NumsAt wr G N c
  ge : w.heap.size + 1 ≤ G
  bel : Below w.heap.size w wr
  inv : ∃ y, Inv E b c y

theorem FW.below {w wr wx : World} {N G : Nat} {s0 : Int} {fin arcs : Value} {E : List Edg} {b c : List Int} (h : FW w wr N G s0 fin arcs E b c) (hb : Below wr.heap.size wr wx) : FW w wx N G s0 fin arcs E b c :=
  ⟨h.cf.below hb, h.row.below hb, h.ge, bel_on h.bel hb, h.inv⟩

theorem CellsF.set {w : World} {B k i : Nat} {st sta : Int} {fin arcs v : Value} (h : CellsF w B st sta fin arcs) (hk : B ≠ k) : CellsF (w.setCell ⟨k, i, none⟩ v) B st sta fin arcs :=
  ⟨(set_far hk).trans h.1, (set_far hk).trans h.2.1, (set_far hk).trans h.2.2.1, (set_far hk).trans h.2.2.2⟩

theorem FW.set {w wr : World} {N G : Nat} {s0 : Int} {fin arcs : Value} {E : List Edg} {b c : List Int} (h : FW w wr N G s0 fin arcs E b c) (i : Nat) (x : Int) (hi : i < N) (hy : ∃ y, Inv E b (c.set i x) y) : FW w (wr.setCell ⟨G, i, none⟩ (.int .i64 x)) N G s0 fin arcs E b (c.set i x) :=
  ⟨h.cf.set (by have := h.ge; omega), h.row.set i x hi, h.ge, h.bel.setCell (p := ⟨G, i, none⟩) (by have := h.ge; show w.heap.size ≤ G; omega) _, hy⟩

set_option maxHeartbeats 1000000 in
set_option maxRecDepth 100000 in
theorem fromOf_ok (f : FstD) (N s0 : Nat) (fin : Value) (aa : Option Addr) (m ac : Nat) (w : World) (hok : OkF f N s0) (ha : ASlice w (.slice aa m ac) f.arcs) (hal : f.arcs.length = m) :
    Calls Try.prog 39 #[.agg #[.int .i64 (N : Int), .int .i64 (s0 : Int), fin, .slice aa m ac]] w fun e w' =>
      ∃ G cap, e = .returned (.slice (some ⟨G, 0, none⟩) N cap) ∧ NumsAt w' G N (fromD f) ∧ w.heap.size ≤ G ∧ Below w.heap.size w w' := by
  have HOK : Hid (OkF f N s0) := hok
  have hn1 := hok.n1
  have hn2 := hok.n2
  have hm : m ≤ 3000 := by have := hok.many; omega
  have HAL : Hid (f.arcs.length = m) := hal
  clear hok
  have hbx := bel_up (bel_self w) (.cells #[.int .i64 (N : Int), .int .i64 (s0 : Int), fin, .slice aa m ac] 25)
  have hcf := cellsF_new w (N : Int) (s0 : Int) fin (.slice aa m ac) 25
  go_enter Try.func39, Try.ntmps39
  go_wp2_with (first | (go_at_call 53; refine (begunRef_any N (s0 : Int) fin (.slice aa m ac) _ hn2).mono ?_; rintro e w1 ⟨v, rfl, hown, hb1⟩; obtain ⟨G, cap, rfl⟩ := Go.Joins.ownsRow_form hown (by omega)))
  have hFW : FW w w1 N G s0 fin (.slice aa m ac) (edF f) (begL (s0 : Int) N) (begL (s0 : Int) N) := by
    obtain ⟨r1, r2⟩ := NumsAt.of_row hown
    exact ⟨hcf.below hb1, r1, by simp at r2; omega, bel_on hbx hb1, _, by have := Inv.start (E := edF f) HOK.out.bF.1 HOK.out.bF.2; exact this⟩
  clear hown hcf hb1 hbx hal
  have HBL : Hid ((begL (s0 : Int) N).length = N) := begL_len _ _
  go_loopw [4] (fun i wr => ∃ r : Nat, r ≤ N ∧ i = .int .i64 r ∧ FW w wr N G s0 fin (.slice aa m ac) (edF f) (begL (s0 : Int) N) (rounds (edF f) (begL (s0 : Int) N) r)) (fun i _ => N - (intOf i).toNat)
  case atStart => exact ⟨0, Nat.zero_le _, rfl, hFW⟩
  case round =>
    clear hFW
    obtain ⟨r, hr, rfl, hFW⟩ := hrel
    by_cases hlt : r < N
    · obtain ⟨q0, q1, q2, q3⟩ := hFW.cf
      have hri : (r : Int) < N := by omega
      go_wp2
      clear q0 q1 q2 q3
      go_loopw [5] (fun i wr => ∃ j : Nat, j ≤ m ∧ i = .int .i64 j ∧ FW w wr N G s0 fin (.slice aa m ac) (edF f) (begL (s0 : Int) N) (relAll ((edF f).take j) (rounds (edF f) (begL (s0 : Int) N) r))) (fun i _ => m - (intOf i).toNat)
      case atStart => exact ⟨0, Nat.zero_le _, rfl, hFW⟩
      case round =>
        clear hFW
        obtain ⟨j, hj, rfl, hFW⟩ := hrel
        obtain ⟨c, hcd⟩ : ∃ c, c = relAll ((edF f).take j) (rounds (edF f) (begL (s0 : Int) N) r) := ⟨_, rfl⟩
        rw [← hcd] at hFW
        have HCD : Hid (c = relAll ((edF f).take j) (rounds (edF f) (begL (s0 : Int) N) r)) := hcd
        clear hcd
        obtain ⟨q0, q1, q2, q3⟩ := hFW.cf
        by_cases hlj : j < m
        · obtain ⟨ab, aoff, rfl, hx⟩ := (ha.below hFW.bel).some (by omega)
          obtain ⟨a, hak⟩ : ∃ a, a = f.arcs.getD j a0 := ⟨_, rfl⟩
          have hjl : j < f.arcs.length := by have := HAL.out; omega
          have hmem : a ∈ f.arcs := by rw [hak]; simp [List.getD, hjl]
          obtain ⟨⟨p1, p2⟩, ⟨p3, p4⟩, p5, p6⟩ := HOK.out.arcs a hmem
          obtain ⟨s, hs⟩ : ∃ s : Nat, a.src = s := ⟨a.src.toNat, by omega⟩
          obtain ⟨t, ht⟩ : ∃ t : Nat, a.dst = t := ⟨a.dst.toNat, by omega⟩
          have hsN : s < N := by omega
          have htN : t < N := by omega
          have HEJ : Hid ((edF f)[j]? = some ⟨s, t, a.wt⟩) := by
            show (edF f)[j]? = some ⟨s, t, a.wt⟩
            have e1 : f.arcs[j]? = some a := by rw [hak]; simp [List.getD, hjl]
            unfold edF
            rw [List.getElem?_map, e1]
            simp [edgOf, hs, ht]
          have c0 := hx.c0 j hlj
          have c1 := hx.c1 j hlj
          have c2 := hx.c2 j hlj
          have c3 := hx.c3 j hlj
          have c4 := hx.c4 j hlj
          rw [← hak] at c0 c1 c2 c3 c4
          rw [hs] at c0
          rw [ht] at c3
          have hji : (j : Int) < m := by omega
          clear hak hmem hjl hx hs ht p1 p2 p3 p4
          go_wp2
          have sN0 := hsN
          have tN0 := htN
          have hsi : (s : Int) < N := by omega
          have hti : (t : Int) < N := by omega
          have hFd := hFW.below (bel_up (bel_self wr) (.cells #[.int .i64 s, .int .i64 a.inp, .int .i64 a.out, .int .i64 t, .int .i64 a.wt] 63)).drew
          obtain ⟨Wd, hWd⟩ : ∃ Wd, Wd = (wr.alloc (.cells #[.int .i64 s, .int .i64 a.inp, .int .i64 a.out, .int .i64 t, .int .i64 a.wt] 63)).drew := ⟨_, rfl⟩
          have x0 : Wd.cell? ⟨wr.heap.size, 0, none⟩ = some (.int .i64 s) := by rw [hWd]; exact drew_cell (new_cell _ _ _ _ 0 _ rfl rfl)
          have x3 : Wd.cell? ⟨wr.heap.size, 3, none⟩ = some (.int .i64 t) := by rw [hWd]; exact drew_cell (new_cell _ _ _ _ 3 _ rfl rfl)
          have x4 : Wd.cell? ⟨wr.heap.size, 4, none⟩ = some (.int .i64 a.wt) := by rw [hWd]; exact drew_cell (new_cell _ _ _ _ 4 _ rfl rfl)
          rw [← hWd] at hFd
          have y0 := hFd.row.cell s sN0
          have y1 := hFd.row.cell t tN0
          have yz := hFd.row.frz t
          obtain ⟨yy, hinv⟩ := hFd.inv
          have hlo := hinv.lo s
          have hhi := hinv.top (by rw [HBL.out]; exact hn2) s
          have HREL := hinv.rel (by rw [HBL.out]; exact hn2) (List.mem_of_getElem? HEJ.out) (by rw [HBL.out]; exact tN0) p5 p6
          have HSET : Hid (relE c ⟨s, t, a.wt⟩ = c.set t (lessC (gI c t) (plusC (gI c s) a.wt))) := (rfl : relE c ⟨s, t, a.wt⟩ = _)
          clear hinv q0 q1 q2 q3 c0 c1 c2 c3 c4
          have hS0 : (fun wx : World => wx.cell? ⟨wr.heap.size, 0, none⟩ = some (.int .i64 s) ∧ wx.cell? ⟨wr.heap.size, 3, none⟩ = some (.int .i64 t) ∧ wx.cell? ⟨wr.heap.size, 4, none⟩ = some (.int .i64 a.wt) ∧ wx.cell? ⟨G, s, none⟩ = some (.int .i64 (gI c s)) ∧ wx.cell? ⟨G, t, none⟩ = some (.int .i64 (gI c t))) Wd := ⟨x0, x3, x4, y0, y1⟩
          refine wp_region_noPanic ?_
          refine wp_region_U (fun wx => wx.cell? ⟨wr.heap.size, 0, none⟩ = some (.int .i64 s) ∧ wx.cell? ⟨wr.heap.size, 3, none⟩ = some (.int .i64 t) ∧ wx.cell? ⟨wr.heap.size, 4, none⟩ = some (.int .i64 a.wt) ∧ wx.cell? ⟨G, s, none⟩ = some (.int .i64 (gI c s)) ∧ wx.cell? ⟨G, t, none⟩ = some (.int .i64 (gI c t))) 18 (by kernel_rfl) (by rw [← hWd]; exact hS0) (fun _ => ?_)
          rw [← hWd]
          clear hWd
          refine wpAnyU_take (i := 0) (v := .slice (some ⟨G, 0, none⟩) N cap) rfl (by kernel_rfl) (by kernel_rfl) (by kernel_rfl) (by kernel_rfl) (fun _ _ _ h => h) (Or.inl ⟨by rfl, fun wl hSw => ?_⟩) hS0 ?_
          · (try dsimp only at hSw); go_simp
          refine wpAnyU_take (i := 1) (v := .pointer (some ⟨wr.heap.size, 3, none⟩)) rfl (by kernel_rfl) (by kernel_rfl) (by kernel_rfl) (by kernel_rfl) (fun _ _ _ h => h) (Or.inl ⟨by rfl, fun wl hSw => ?_⟩) hS0 ?_
          · (try dsimp only at hSw); go_simp
          refine wpAnyU_take (i := 2) (v := .int .i64 t) rfl (by kernel_rfl) (by kernel_rfl) (by kernel_rfl) (by kernel_rfl) (fun _ _ _ h => h) (Or.inl ⟨by rfl, fun wl hSw => ?_⟩) hS0 ?_
          · (try dsimp only at hSw); go_simp
          refine wpAnyU_take (i := 3) (v := .slice (some ⟨G, 0, none⟩) N cap) rfl (by kernel_rfl) (by kernel_rfl) (by kernel_rfl) (by kernel_rfl) (fun _ _ _ h => h) (Or.inl ⟨by rfl, fun wl hSw => ?_⟩) hS0 ?_
          · (try dsimp only at hSw); go_simp
          refine wpAnyU_take (i := 4) (v := .pointer (some ⟨wr.heap.size, 3, none⟩)) rfl (by kernel_rfl) (by kernel_rfl) (by kernel_rfl) (by kernel_rfl) (fun _ _ _ h => h) (Or.inl ⟨by rfl, fun wl hSw => ?_⟩) hS0 ?_
          · (try dsimp only at hSw); go_simp
          refine wpAnyU_take (i := 5) (v := .int .i64 t) rfl (by kernel_rfl) (by kernel_rfl) (by kernel_rfl) (by kernel_rfl) (fun _ _ _ h => h) (Or.inl ⟨by rfl, fun wl hSw => ?_⟩) hS0 ?_
          · (try dsimp only at hSw); go_simp
          refine wpAnyU_take (i := 6) (v := .pointer (some ⟨G, t, none⟩)) rfl (by kernel_rfl) (by kernel_rfl) (by kernel_rfl) (by kernel_rfl) (fun _ _ _ h => h) (Or.inl ⟨by rfl, fun wl hSw => ?_⟩) hS0 ?_
          · (try dsimp only at hSw); go_simp
          refine wpAnyU_take (i := 7) (v := .int .i64 (gI c t)) rfl (by kernel_rfl) (by kernel_rfl) (by kernel_rfl) (by kernel_rfl) (fun _ _ _ h => h) (Or.inl ⟨by rfl, fun wl hSw => ?_⟩) hS0 ?_
          · (try dsimp only at hSw); go_simp
          refine wpAnyU_take (i := 8) (v := .slice (some ⟨G, 0, none⟩) N cap) rfl (by kernel_rfl) (by kernel_rfl) (by kernel_rfl) (by kernel_rfl) (fun _ _ _ h => h) (Or.inl ⟨by rfl, fun wl hSw => ?_⟩) hS0 ?_
          · (try dsimp only at hSw); go_simp
          refine wpAnyU_take (i := 9) (v := .pointer (some ⟨wr.heap.size, 0, none⟩)) rfl (by kernel_rfl) (by kernel_rfl) (by kernel_rfl) (by kernel_rfl) (fun _ _ _ h => h) (Or.inl ⟨by rfl, fun wl hSw => ?_⟩) hS0 ?_
          · (try dsimp only at hSw); go_simp
          refine wpAnyU_take (i := 10) (v := .int .i64 s) rfl (by kernel_rfl) (by kernel_rfl) (by kernel_rfl) (by kernel_rfl) (fun _ _ _ h => h) (Or.inl ⟨by rfl, fun wl hSw => ?_⟩) hS0 ?_
          · (try dsimp only at hSw); go_simp
          refine wpAnyU_take (i := 11) (v := .pointer (some ⟨G, s, none⟩)) rfl (by kernel_rfl) (by kernel_rfl) (by kernel_rfl) (by kernel_rfl) (fun _ _ _ h => h) (Or.inl ⟨by rfl, fun wl hSw => ?_⟩) hS0 ?_
          · (try dsimp only at hSw); go_simp
          refine wpAnyU_take (i := 12) (v := .int .i64 (gI c s)) rfl (by kernel_rfl) (by kernel_rfl) (by kernel_rfl) (by kernel_rfl) (fun _ _ _ h => h) (Or.inl ⟨by rfl, fun wl hSw => ?_⟩) hS0 ?_
          · (try dsimp only at hSw); go_simp
          refine wpAnyU_take (i := 13) (v := .pointer (some ⟨wr.heap.size, 4, none⟩)) rfl (by kernel_rfl) (by kernel_rfl) (by kernel_rfl) (by kernel_rfl) (fun _ _ _ h => h) (Or.inl ⟨by rfl, fun wl hSw => ?_⟩) hS0 ?_
          · (try dsimp only at hSw); go_simp
          refine wpAnyU_take (i := 14) (v := .int .i64 a.wt) rfl (by kernel_rfl) (by kernel_rfl) (by kernel_rfl) (by kernel_rfl) (fun _ _ _ h => h) (Or.inl ⟨by rfl, fun wl hSw => ?_⟩) hS0 ?_
          · (try dsimp only at hSw); go_simp
          refine wpAnyU_one (i := 15) rfl (by kernel_rfl) (fun K hK => ?_)
          go_simp
          refine (plusRef_any (gI c s) a.wt _ (by omega) (by omega)).mono ?_
          rintro e wq ⟨rfl, rfl⟩
          refine hK.out _ _ ⟨fun _ => hS0, ?_⟩
          clear hK K
          refine wpAnyU_one (i := 16) rfl (by kernel_rfl) (fun K hK => ?_)
          go_simp
          refine (lessRef_any (gI c t) (plusC (gI c s) a.wt) _).mono ?_
          rintro e wq ⟨rfl, rfl⟩
          refine hK.out _ _ ⟨fun _ => hS0, ?_⟩
          clear hK K
          refine wpAnyU_take (i := 17) (v := .pointer (some ⟨G, t, none⟩)) rfl (by kernel_rfl) (by kernel_rfl) (by kernel_rfl) (by kernel_rfl) (fun _ _ _ h => h) (Or.inl ⟨by rfl, fun wl hSw => ?_⟩) hS0 ?_
          · (try dsimp only at hSw); go_simp
          refine wpAnyU_one (i := 18) rfl (by kernel_rfl) (fun K hK => ?_)
          go_simp
          refine hK.out _ _ ⟨fun h => absurd rfl h, ?_⟩
          clear hK K
          refine wpAnyU_done (by kernel_rfl) ?_ _
          refine NoPanic.normal ?_
          go_wp2
          go_roundw
          case rel =>
            refine ⟨j + 1, by omega, by go_num, ?_⟩
            rw [relAll_take _ _ j _ HEJ.out, ← HCD.out, HSET.out]
            exact hFd.set t _ htN (by rw [← HSET.out]; exact HREL)
          case measure => simp [intOf]; omega
        · have HFW : Hid (FW w wr N G s0 fin (.slice aa m ac) (edF f) (begL (s0 : Int) N) (rounds (edF f) (begL (s0 : Int) N) (r + 1))) := by
            show FW w wr N G s0 fin (.slice aa m ac) (edF f) (begL (s0 : Int) N) (rounds (edF f) (begL (s0 : Int) N) (r + 1))
            have e : rounds (edF f) (begL (s0 : Int) N) (r + 1) = c := by
              rw [HCD.out, List.take_of_length_le (by have := HAL.out; simp [edF]; omega)]
              rfl
            rw [e]; exact hFW
          go_wp2
          go_roundw
          case rel => exact ⟨r + 1, by omega, by go_num, HFW.out⟩
          case measure => simp [intOf]; omega
    · obtain ⟨q0, q1, q2, q3⟩ := hFW.cf
      have HFD : Hid (rounds (edF f) (begL (s0 : Int) N) r = fromD f) := by
        have e : r = N := by omega
        show rounds (edF f) (begL (s0 : Int) N) r = fromD f
        unfold fromD
        rw [HOK.out.st, HOK.out.sta, Int.toNat_natCast, e]
      go_wp2
      go_ret
      exact ⟨G, cap, rfl, by rw [← HFD.out]; exact hFW.row, by have := hFW.ge; omega, hFW.bel⟩

end Go.Proofs.Yteehgcbjmdideaa
