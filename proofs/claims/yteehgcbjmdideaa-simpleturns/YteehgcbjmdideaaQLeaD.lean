/- The walk of slices.CompactFunc at arcs. (Made by wip/gen/leaD.py.) -/
import Derived.Test.YteehgcbjmdideaaQMQ
namespace Go.Proofs.Yteehgcbjmdideaa
open Go.RowKit
attribute [local go_sem ↓] Go.wp_at_zero Go.wp_at_succ

theorem gL2 : ∀ args w, (callFunc 115 args).run Try.prog w = .ok (.enter 115 args) w := enters_of Try.func115 (by kernel_rfl) rfl

theorem take_one {l : List ArcD} (h : 1 ≤ l.length) : kepL l 1 = l.take 1 := by
  rw [kepL_one]
  match l, h with
  | _ :: _, _ => rfl
theorem take_more {l : List ArcD} {k : Nat} (h : kepL l k = l.take k) (hk : k < l.length) (hn : cmpArc (l.getD k a0) (l.getD (k - 1) a0) ≠ 0) : kepL l (k + 1) = l.take (k + 1) := by
  rw [kepL_keep hn, h, List.take_add_one]
  simp [List.getD, hk]

set_option maxHeartbeats 4000000 in
set_option maxRecDepth 100000 in
theorem compact_any (l : List ArcD) (g n cap : Nat) (w : World) (hr : ARow w g n l) (hn2 : 2 ≤ n) (hn : n ≤ 100000) (hcap : n ≤ cap) :
    Calls Try.prog 114 #[.slice (some ⟨g, 0, none⟩) n cap, .func (.func 115) #[] #[]] w fun e w' =>
      ∃ j c, e = .returned (.slice (some ⟨g, 0, none⟩) j c) ∧ ASlice w' (.slice (some ⟨g, 0, none⟩) j c) (kepL l n) ∧ Apart g w w' := by
  have hG := gL2
  have HL : Hid (l.length = n) := hr.len
  have HR : Hid (ARow w g n l) := hr
  clear hr
  have hnl : ¬ (n : Int) < 2 := by omega
  go_enter Try.func114, Try.ntmps114
  go_wp2
  go_loopw [5] (fun i wr => ∃ k : Nat, 1 ≤ k ∧ k ≤ n ∧ i = .int .i64 k ∧ kepL l k = l.take k ∧ Below w.heap.size w wr) (fun i _ => n - (intOf i).toNat)
  case atStart => exact ⟨1, Nat.le_refl _, by omega, rfl, take_one (by rw [HL.out]; omega), bel_self _⟩
  case round =>
    obtain ⟨k, hk1, hk, rfl, hkep, hb⟩ := hrel
    have HK : Hid (kepL l k = l.take k) := hkep
    clear hkep
    by_cases hlt : k < n
    · obtain ⟨x, hx⟩ : ∃ x, x = l.getD k a0 := ⟨_, rfl⟩
      obtain ⟨y, hy⟩ : ∃ y, y = l.getD (k - 1) a0 := ⟨_, rfl⟩
      have hR := HR.out.below hb
      have c0 : wr.cell? ⟨g, k * 5, none⟩ = some (.int .i64 x.src) := by rw [(by omega : (k * 5 : Nat) = (k) * 5 + 0)]; exact (hR.cell (k) 0 (by omega) (by omega)).trans (by rw [← hx]; rfl)
      have c1 : wr.cell? ⟨g, k * 5 + 1, none⟩ = some (.int .i64 x.inp) := by rw [(by omega : (k * 5 + 1 : Nat) = (k) * 5 + 1)]; exact (hR.cell (k) 1 (by omega) (by omega)).trans (by rw [← hx]; rfl)
      have c2 : wr.cell? ⟨g, k * 5 + 2, none⟩ = some (.int .i64 x.out) := by rw [(by omega : (k * 5 + 2 : Nat) = (k) * 5 + 2)]; exact (hR.cell (k) 2 (by omega) (by omega)).trans (by rw [← hx]; rfl)
      have c3 : wr.cell? ⟨g, k * 5 + 3, none⟩ = some (.int .i64 x.dst) := by rw [(by omega : (k * 5 + 3 : Nat) = (k) * 5 + 3)]; exact (hR.cell (k) 3 (by omega) (by omega)).trans (by rw [← hx]; rfl)
      have c4 : wr.cell? ⟨g, k * 5 + 4, none⟩ = some (.int .i64 x.wt) := by rw [(by omega : (k * 5 + 4 : Nat) = (k) * 5 + 4)]; exact (hR.cell (k) 4 (by omega) (by omega)).trans (by rw [← hx]; rfl)
      have d0 : wr.cell? ⟨g, (k - 1) * 5, none⟩ = some (.int .i64 y.src) := by rw [(by omega : ((k - 1) * 5 : Nat) = (k - 1) * 5 + 0)]; exact (hR.cell (k - 1) 0 (by omega) (by omega)).trans (by rw [← hy]; rfl)
      have d1 : wr.cell? ⟨g, (k - 1) * 5 + 1, none⟩ = some (.int .i64 y.inp) := by rw [(by omega : ((k - 1) * 5 + 1 : Nat) = (k - 1) * 5 + 1)]; exact (hR.cell (k - 1) 1 (by omega) (by omega)).trans (by rw [← hy]; rfl)
      have d2 : wr.cell? ⟨g, (k - 1) * 5 + 2, none⟩ = some (.int .i64 y.out) := by rw [(by omega : ((k - 1) * 5 + 2 : Nat) = (k - 1) * 5 + 2)]; exact (hR.cell (k - 1) 2 (by omega) (by omega)).trans (by rw [← hy]; rfl)
      have d3 : wr.cell? ⟨g, (k - 1) * 5 + 3, none⟩ = some (.int .i64 y.dst) := by rw [(by omega : ((k - 1) * 5 + 3 : Nat) = (k - 1) * 5 + 3)]; exact (hR.cell (k - 1) 3 (by omega) (by omega)).trans (by rw [← hy]; rfl)
      have d4 : wr.cell? ⟨g, (k - 1) * 5 + 4, none⟩ = some (.int .i64 y.wt) := by rw [(by omega : ((k - 1) * 5 + 4 : Nat) = (k - 1) * 5 + 4)]; exact (hR.cell (k - 1) 4 (by omega) (by omega)).trans (by rw [← hy]; rfl)
      have HXY : Hid (x = l.getD k a0 ∧ y = l.getD (k - 1) a0) := ⟨hx, hy⟩
      clear hx hy hR
      have hwk : IntKind.i64.wrap ((k : Int) - 1) = (k : Int) - 1 := IntWalk.i64_in _ ⟨by omega, by omega⟩
      have htk : ((k : Int) - 1).toNat = k - 1 := by omega
      have hi1 : (k : Int) - 1 < (n : Int) := by omega
      have hi2 : (0 : Int) ≤ (k : Int) - 1 := by omega
      have hi3 : (k : Int) < (n : Int) := by omega
      have hi4 : (1 : Int) ≤ (k : Int) := by omega
      have hi5 : (k : Int) < (n : Int) + 1 := by omega
      have hi6 : k < n + 1 := by omega
      have hcall := least2_gr x y
      cases hq : (cmpArc x y == 0) with
      | false =>
        have HQ : Hid (cmpArc x y ≠ 0) := (by simpa using hq : cmpArc x y ≠ 0)
        rw [hq] at hcall
        clear hq
        go_wp2
        go_region_held3 (fun wx => wx.cell? ⟨g, k * 5, none⟩ = some (.int .i64 x.src) ∧ wx.cell? ⟨g, k * 5 + 1, none⟩ = some (.int .i64 x.inp) ∧ wx.cell? ⟨g, k * 5 + 2, none⟩ = some (.int .i64 x.out) ∧ wx.cell? ⟨g, k * 5 + 3, none⟩ = some (.int .i64 x.dst) ∧ wx.cell? ⟨g, k * 5 + 4, none⟩ = some (.int .i64 x.wt) ∧ wx.cell? ⟨g, (k - 1) * 5, none⟩ = some (.int .i64 y.src) ∧ wx.cell? ⟨g, (k - 1) * 5 + 1, none⟩ = some (.int .i64 y.inp) ∧ wx.cell? ⟨g, (k - 1) * 5 + 2, none⟩ = some (.int .i64 y.out) ∧ wx.cell? ⟨g, (k - 1) * 5 + 3, none⟩ = some (.int .i64 y.dst) ∧ wx.cell? ⟨g, (k - 1) * 5 + 4, none⟩ = some (.int .i64 y.wt)) (first | exact ⟨bel_c hbw (drew_cell c0), bel_c hbw (drew_cell c1), bel_c hbw (drew_cell c2), bel_c hbw (drew_cell c3), bel_c hbw (drew_cell c4), bel_c hbw (drew_cell d0), bel_c hbw (drew_cell d1), bel_c hbw (drew_cell d2), bel_c hbw (drew_cell d3), bel_c hbw (drew_cell d4)⟩ | exact ⟨drew_cell c0, drew_cell c1, drew_cell c2, drew_cell c3, drew_cell c4, drew_cell d0, drew_cell d1, drew_cell d2, drew_cell d3, drew_cell d4⟩) ((go_at_call 115; refine (hcall _).mono ?_; rintro e w1 ⟨rfl, hgr⟩; have hbw := hgr.below; clear hgr))
        go_wp2
        go_roundw
        case rel => exact ⟨k + 1, by omega, by omega, by go_num, take_more HK.out (by rw [HL.out]; exact hlt) (by rw [← HXY.out.1, ← HXY.out.2]; exact HQ.out), bel_on hb.drew hbw⟩
        case measure => simp [intOf]; omega
      | true =>
        have HQ : Hid (cmpArc x y = 0) := (by simpa using hq : cmpArc x y = 0)
        rw [hq] at hcall
        clear hq
        have hnc : ¬ cap = k := by omega
        have hcap2 : k ≤ cap := by omega
        go_wp2
        go_region_held3 (fun wx => wx.cell? ⟨g, k * 5, none⟩ = some (.int .i64 x.src) ∧ wx.cell? ⟨g, k * 5 + 1, none⟩ = some (.int .i64 x.inp) ∧ wx.cell? ⟨g, k * 5 + 2, none⟩ = some (.int .i64 x.out) ∧ wx.cell? ⟨g, k * 5 + 3, none⟩ = some (.int .i64 x.dst) ∧ wx.cell? ⟨g, k * 5 + 4, none⟩ = some (.int .i64 x.wt) ∧ wx.cell? ⟨g, (k - 1) * 5, none⟩ = some (.int .i64 y.src) ∧ wx.cell? ⟨g, (k - 1) * 5 + 1, none⟩ = some (.int .i64 y.inp) ∧ wx.cell? ⟨g, (k - 1) * 5 + 2, none⟩ = some (.int .i64 y.out) ∧ wx.cell? ⟨g, (k - 1) * 5 + 3, none⟩ = some (.int .i64 y.dst) ∧ wx.cell? ⟨g, (k - 1) * 5 + 4, none⟩ = some (.int .i64 y.wt)) (first | exact ⟨bel_c hbw (drew_cell c0), bel_c hbw (drew_cell c1), bel_c hbw (drew_cell c2), bel_c hbw (drew_cell c3), bel_c hbw (drew_cell c4), bel_c hbw (drew_cell d0), bel_c hbw (drew_cell d1), bel_c hbw (drew_cell d2), bel_c hbw (drew_cell d3), bel_c hbw (drew_cell d4)⟩ | exact ⟨drew_cell c0, drew_cell c1, drew_cell c2, drew_cell c3, drew_cell c4, drew_cell d0, drew_cell d1, drew_cell d2, drew_cell d3, drew_cell d4⟩) ((go_at_call 115; refine (hcall _).mono ?_; rintro e w1 ⟨rfl, hgr⟩; have hbw := hgr.below; clear hgr))
        go_wp2
        obtain ⟨m, hm⟩ : ∃ m, m = n - k := ⟨_, rfl⟩
        rw [← hm]
        have HM : Hid (m = n - k) := hm
        have hmn : k + m = n := by omega
        have HS0 : Hid (kepL l (k + 1) = l.take k ∧ mixK l (k + 1) = l) := ⟨(kepL_skip (by omega) (by rw [← HXY.out.1, ← HXY.out.2]; exact HQ.out)).trans HK.out, (mixK_skip (by omega) (by rw [← HXY.out.1, ← HXY.out.2]; exact HQ.out)).trans (mixK_same HK.out (by rw [HL.out]; exact hk))⟩
        have HB1 : Hid (Below w.heap.size w w1) := bel_on hb.drew hbw
        clear c0 c1 c2 c3 c4 d0 d1 d2 d3 d4 hb hbw hm hcall hwk htk hi1 hi2 hi3 hi4 hi5 hi6
        go_loopw [5, 7] (fun s5 s7 wx => ∃ k2 j : Nat, 1 ≤ k2 ∧ k2 ≤ m ∧ s7 = .int .i64 k2 ∧ s5 = .int .i64 j ∧ j = (kepL l (k + k2)).length ∧ j < k + k2 ∧ ARow wx g n (mixK l (k + k2)) ∧ Apart g w wx) (fun _ s7 _ => m - (intOf s7).toNat)
        case atStart =>
          have hkl : (kepL l (k + 1)).length = k := by rw [HS0.out.1, List.length_take, HL.out]; omega
          exact ⟨1, k, Nat.le_refl _, by omega, rfl, rfl, hkl.symm, by omega, by rw [HS0.out.2]; exact HR.out.below HB1.out, Apart.of_bel HB1.out⟩
        case round =>
          clear HXY HQ
          obtain ⟨k2, j, h21, h2m, rfl, rfl, hj, hjk, hR, hap⟩ := hrel
          have HJ : Hid (j = (kepL l (k + k2)).length ∧ ARow wr g n (mixK l (k + k2)) ∧ Apart g w wr) := ⟨hj, hR, hap⟩
          clear hap
          by_cases h2 : k2 < m
          · obtain ⟨x, hx⟩ : ∃ x, x = l.getD (k + k2) a0 := ⟨_, rfl⟩
            obtain ⟨y, hy⟩ : ∃ y, y = l.getD (k + k2 - 1) a0 := ⟨_, rfl⟩
            obtain ⟨z, hz⟩ : ∃ z, z = (mixK l (k + k2)).getD j a0 := ⟨_, rfl⟩
            have hgx : (mixK l (k + k2)).getD (k + k2) a0 = x := by rw [hx]; exact mixK_at (by omega)
            have hgy : (mixK l (k + k2)).getD (k + k2 - 1) a0 = y := by rw [hy]; exact mixK_at (by omega)
            have c0 : wr.cell? ⟨g, k * 5 + k2 * 5, none⟩ = some (.int .i64 x.src) := by rw [(by omega : (k * 5 + k2 * 5 : Nat) = (k + k2) * 5 + 0)]; exact (hR.cell (k + k2) 0 (by omega) (by omega)).trans (by rw [hgx]; rfl)
            have c1 : wr.cell? ⟨g, k * 5 + k2 * 5 + 1, none⟩ = some (.int .i64 x.inp) := by rw [(by omega : (k * 5 + k2 * 5 + 1 : Nat) = (k + k2) * 5 + 1)]; exact (hR.cell (k + k2) 1 (by omega) (by omega)).trans (by rw [hgx]; rfl)
            have c2 : wr.cell? ⟨g, k * 5 + k2 * 5 + 2, none⟩ = some (.int .i64 x.out) := by rw [(by omega : (k * 5 + k2 * 5 + 2 : Nat) = (k + k2) * 5 + 2)]; exact (hR.cell (k + k2) 2 (by omega) (by omega)).trans (by rw [hgx]; rfl)
            have c3 : wr.cell? ⟨g, k * 5 + k2 * 5 + 3, none⟩ = some (.int .i64 x.dst) := by rw [(by omega : (k * 5 + k2 * 5 + 3 : Nat) = (k + k2) * 5 + 3)]; exact (hR.cell (k + k2) 3 (by omega) (by omega)).trans (by rw [hgx]; rfl)
            have c4 : wr.cell? ⟨g, k * 5 + k2 * 5 + 4, none⟩ = some (.int .i64 x.wt) := by rw [(by omega : (k * 5 + k2 * 5 + 4 : Nat) = (k + k2) * 5 + 4)]; exact (hR.cell (k + k2) 4 (by omega) (by omega)).trans (by rw [hgx]; rfl)
            have d0 : wr.cell? ⟨g, k * 5 + (k2 - 1) * 5, none⟩ = some (.int .i64 y.src) := by rw [(by omega : (k * 5 + (k2 - 1) * 5 : Nat) = (k + k2 - 1) * 5 + 0)]; exact (hR.cell (k + k2 - 1) 0 (by omega) (by omega)).trans (by rw [hgy]; rfl)
            have d1 : wr.cell? ⟨g, k * 5 + (k2 - 1) * 5 + 1, none⟩ = some (.int .i64 y.inp) := by rw [(by omega : (k * 5 + (k2 - 1) * 5 + 1 : Nat) = (k + k2 - 1) * 5 + 1)]; exact (hR.cell (k + k2 - 1) 1 (by omega) (by omega)).trans (by rw [hgy]; rfl)
            have d2 : wr.cell? ⟨g, k * 5 + (k2 - 1) * 5 + 2, none⟩ = some (.int .i64 y.out) := by rw [(by omega : (k * 5 + (k2 - 1) * 5 + 2 : Nat) = (k + k2 - 1) * 5 + 2)]; exact (hR.cell (k + k2 - 1) 2 (by omega) (by omega)).trans (by rw [hgy]; rfl)
            have d3 : wr.cell? ⟨g, k * 5 + (k2 - 1) * 5 + 3, none⟩ = some (.int .i64 y.dst) := by rw [(by omega : (k * 5 + (k2 - 1) * 5 + 3 : Nat) = (k + k2 - 1) * 5 + 3)]; exact (hR.cell (k + k2 - 1) 3 (by omega) (by omega)).trans (by rw [hgy]; rfl)
            have d4 : wr.cell? ⟨g, k * 5 + (k2 - 1) * 5 + 4, none⟩ = some (.int .i64 y.wt) := by rw [(by omega : (k * 5 + (k2 - 1) * 5 + 4 : Nat) = (k + k2 - 1) * 5 + 4)]; exact (hR.cell (k + k2 - 1) 4 (by omega) (by omega)).trans (by rw [hgy]; rfl)
            have t0 : wr.cell? ⟨g, j * 5, none⟩ = some (.int .i64 z.src) := by rw [(by omega : (j * 5 : Nat) = (j) * 5 + 0)]; exact (hR.cell (j) 0 (by omega) (by omega)).trans (by rw [← hz]; rfl)
            have t1 : wr.cell? ⟨g, j * 5 + 1, none⟩ = some (.int .i64 z.inp) := by rw [(by omega : (j * 5 + 1 : Nat) = (j) * 5 + 1)]; exact (hR.cell (j) 1 (by omega) (by omega)).trans (by rw [← hz]; rfl)
            have t2 : wr.cell? ⟨g, j * 5 + 2, none⟩ = some (.int .i64 z.out) := by rw [(by omega : (j * 5 + 2 : Nat) = (j) * 5 + 2)]; exact (hR.cell (j) 2 (by omega) (by omega)).trans (by rw [← hz]; rfl)
            have t3 : wr.cell? ⟨g, j * 5 + 3, none⟩ = some (.int .i64 z.dst) := by rw [(by omega : (j * 5 + 3 : Nat) = (j) * 5 + 3)]; exact (hR.cell (j) 3 (by omega) (by omega)).trans (by rw [← hz]; rfl)
            have t4 : wr.cell? ⟨g, j * 5 + 4, none⟩ = some (.int .i64 z.wt) := by rw [(by omega : (j * 5 + 4 : Nat) = (j) * 5 + 4)]; exact (hR.cell (j) 4 (by omega) (by omega)).trans (by rw [← hz]; rfl)
            have f0 : wr.frozen? ⟨g, j * 5, none⟩ = false := hR.frz _ (by omega)
            have f1 : wr.frozen? ⟨g, j * 5 + 1, none⟩ = false := hR.frz _ (by omega)
            have f2 : wr.frozen? ⟨g, j * 5 + 2, none⟩ = false := hR.frz _ (by omega)
            have f3 : wr.frozen? ⟨g, j * 5 + 3, none⟩ = false := hR.frz _ (by omega)
            have f4 : wr.frozen? ⟨g, j * 5 + 4, none⟩ = false := hR.frz _ (by omega)
            have HXY : Hid (x = l.getD (k + k2) a0 ∧ y = l.getD (k + k2 - 1) a0) := ⟨hx, hy⟩
            have hgl := hR.lt (by omega)
            clear hx hy hz hgx hgy hR hj
            have hwk : IntKind.i64.wrap ((k2 : Int) - 1) = (k2 : Int) - 1 := IntWalk.i64_in _ ⟨by omega, by omega⟩
            have htk : ((k2 : Int) - 1).toNat = k2 - 1 := by omega
            have hi1 : (k2 : Int) - 1 < (m : Int) := by omega
            have hi2 : (0 : Int) ≤ (k2 : Int) - 1 := by omega
            have hi3 : (k2 : Int) < (m : Int) := by omega
            have hi4 : (1 : Int) ≤ (k2 : Int) := by omega
            have hi5 : (k2 : Int) < (m : Int) + 1 := by omega
            have hi6 : k2 < m + 1 := by omega
            have hi7 : (j : Int) < (n : Int) := by omega
            have hcall := least2_gr x y
            cases hq : (cmpArc x y == 0) with
            | true =>
              have HQ : Hid (cmpArc x y = 0) := (by simpa using hq : cmpArc x y = 0)
              rw [hq] at hcall
              clear hq
              go_wp2
              go_region_held3 (fun wx => wx.cell? ⟨g, k * 5 + k2 * 5, none⟩ = some (.int .i64 x.src) ∧ wx.cell? ⟨g, k * 5 + k2 * 5 + 1, none⟩ = some (.int .i64 x.inp) ∧ wx.cell? ⟨g, k * 5 + k2 * 5 + 2, none⟩ = some (.int .i64 x.out) ∧ wx.cell? ⟨g, k * 5 + k2 * 5 + 3, none⟩ = some (.int .i64 x.dst) ∧ wx.cell? ⟨g, k * 5 + k2 * 5 + 4, none⟩ = some (.int .i64 x.wt) ∧ wx.cell? ⟨g, k * 5 + (k2 - 1) * 5, none⟩ = some (.int .i64 y.src) ∧ wx.cell? ⟨g, k * 5 + (k2 - 1) * 5 + 1, none⟩ = some (.int .i64 y.inp) ∧ wx.cell? ⟨g, k * 5 + (k2 - 1) * 5 + 2, none⟩ = some (.int .i64 y.out) ∧ wx.cell? ⟨g, k * 5 + (k2 - 1) * 5 + 3, none⟩ = some (.int .i64 y.dst) ∧ wx.cell? ⟨g, k * 5 + (k2 - 1) * 5 + 4, none⟩ = some (.int .i64 y.wt)) (first | exact ⟨bel_c hbw (drew_cell c0), bel_c hbw (drew_cell c1), bel_c hbw (drew_cell c2), bel_c hbw (drew_cell c3), bel_c hbw (drew_cell c4), bel_c hbw (drew_cell d0), bel_c hbw (drew_cell d1), bel_c hbw (drew_cell d2), bel_c hbw (drew_cell d3), bel_c hbw (drew_cell d4)⟩ | exact ⟨drew_cell c0, drew_cell c1, drew_cell c2, drew_cell c3, drew_cell c4, drew_cell d0, drew_cell d1, drew_cell d2, drew_cell d3, drew_cell d4⟩) ((go_at_call 115; refine (hcall _).mono ?_; rintro e w1 ⟨rfl, hgr⟩; have hbw := hgr.below; clear hgr))
              go_wp2
              go_roundw
              case rel =>
                have hz0 : cmpArc (l.getD (k + k2) a0) (l.getD (k + k2 - 1) a0) = 0 := by rw [← HXY.out.1, ← HXY.out.2]; exact HQ.out
                refine ⟨k2 + 1, j, by omega, by omega, by go_num, rfl, ?_, by omega, ?_, HJ.out.2.2.trans (Apart.of_bel (bel_on (bel_self _).drew hbw))⟩
                · rw [← Nat.add_assoc, kepL_skip (by omega) hz0]; exact HJ.out.1
                · rw [← Nat.add_assoc, mixK_skip (by omega) hz0]; exact (HJ.out.2.1.below (bel_self _).drew).below hbw
              case measure => simp [intOf]; omega
            | false =>
              have HQ : Hid (cmpArc x y ≠ 0) := (by simpa using hq : cmpArc x y ≠ 0)
              rw [hq] at hcall
              clear hq
              go_wp2
              go_region_held3 (fun wx => wx.cell? ⟨g, k * 5 + k2 * 5, none⟩ = some (.int .i64 x.src) ∧ wx.cell? ⟨g, k * 5 + k2 * 5 + 1, none⟩ = some (.int .i64 x.inp) ∧ wx.cell? ⟨g, k * 5 + k2 * 5 + 2, none⟩ = some (.int .i64 x.out) ∧ wx.cell? ⟨g, k * 5 + k2 * 5 + 3, none⟩ = some (.int .i64 x.dst) ∧ wx.cell? ⟨g, k * 5 + k2 * 5 + 4, none⟩ = some (.int .i64 x.wt) ∧ wx.cell? ⟨g, k * 5 + (k2 - 1) * 5, none⟩ = some (.int .i64 y.src) ∧ wx.cell? ⟨g, k * 5 + (k2 - 1) * 5 + 1, none⟩ = some (.int .i64 y.inp) ∧ wx.cell? ⟨g, k * 5 + (k2 - 1) * 5 + 2, none⟩ = some (.int .i64 y.out) ∧ wx.cell? ⟨g, k * 5 + (k2 - 1) * 5 + 3, none⟩ = some (.int .i64 y.dst) ∧ wx.cell? ⟨g, k * 5 + (k2 - 1) * 5 + 4, none⟩ = some (.int .i64 y.wt)) (first | exact ⟨bel_c hbw (drew_cell c0), bel_c hbw (drew_cell c1), bel_c hbw (drew_cell c2), bel_c hbw (drew_cell c3), bel_c hbw (drew_cell c4), bel_c hbw (drew_cell d0), bel_c hbw (drew_cell d1), bel_c hbw (drew_cell d2), bel_c hbw (drew_cell d3), bel_c hbw (drew_cell d4)⟩ | exact ⟨drew_cell c0, drew_cell c1, drew_cell c2, drew_cell c3, drew_cell c4, drew_cell d0, drew_cell d1, drew_cell d2, drew_cell d3, drew_cell d4⟩) ((go_at_call 115; refine (hcall _).mono ?_; rintro e w1 ⟨rfl, hgr⟩; have hbw := hgr.below; clear hgr))
              have c0' := bel_c hbw (drew_cell c0)
              have c1' := bel_c hbw (drew_cell c1)
              have c2' := bel_c hbw (drew_cell c2)
              have c3' := bel_c hbw (drew_cell c3)
              have c4' := bel_c hbw (drew_cell c4)
              have t0' := bel_c hbw (drew_cell t0)
              have t1' := bel_c hbw (drew_cell t1)
              have t2' := bel_c hbw (drew_cell t2)
              have t3' := bel_c hbw (drew_cell t3)
              have t4' := bel_c hbw (drew_cell t4)
              have f0' : w1.frozen? ⟨g, j * 5, none⟩ = false := (hbw.frozen (p := ⟨g, j * 5, none⟩) hgl).trans f0
              have f1' : w1.frozen? ⟨g, j * 5 + 1, none⟩ = false := (hbw.frozen (p := ⟨g, j * 5 + 1, none⟩) hgl).trans f1
              have f2' : w1.frozen? ⟨g, j * 5 + 2, none⟩ = false := (hbw.frozen (p := ⟨g, j * 5 + 2, none⟩) hgl).trans f2
              have f3' : w1.frozen? ⟨g, j * 5 + 3, none⟩ = false := (hbw.frozen (p := ⟨g, j * 5 + 3, none⟩) hgl).trans f3
              have f4' : w1.frozen? ⟨g, j * 5 + 4, none⟩ = false := (hbw.frozen (p := ⟨g, j * 5 + 4, none⟩) hgl).trans f4
              have HW : Hid (Below wr.heap.size wr w1) := bel_on (bel_self _).drew hbw
              clear c0 c1 c2 c3 c4 d0 d1 d2 d3 d4 t0 t1 t2 t3 t4 f0 f1 f2 f3 f4 hbw hcall
              go_wp2
              go_roundw
              case rel =>
                have hz0 : cmpArc (l.getD (k + k2) a0) (l.getD (k + k2 - 1) a0) ≠ 0 := by rw [← HXY.out.1, ← HXY.out.2]; exact HQ.out
                have hjl : (kepL l (k + k2)).length < l.length := by rw [HL.out, ← HJ.out.1]; omega
                have hrow := (HJ.out.2.1.below HW.out).set j (by omega) x
                refine ⟨k2 + 1, j + 1, by omega, by omega, by go_num, by go_num, ?_, by omega, ?_, (HJ.out.2.2.trans (Apart.of_bel HW.out)).trans (Apart.set w1 (j * 5) (arcCells x))⟩
                · rw [← Nat.add_assoc, kepL_keep hz0, List.length_append, ← HJ.out.1]; rfl
                · rw [← Nat.add_assoc, ← mixK_keep hjl hz0, ← HXY.out.1, ← HJ.out.1]; exact hrow
              case measure => simp [intOf]; omega
          · have hkm : k + k2 = n := by omega
            obtain ⟨vs, hcl⟩ := clear_arcs wr 0 g (j * 5) (n - j) (cap - j) (by omega) (fun i hi => by rw [(by omega : j * 5 + i = (j + i / 5) * 5 + i % 5), hR.cell (j + i / 5) (i % 5) (by omega) (by omega)]; simp [arcCells]; omega) (fun i hi => hR.frz _ (by omega))
            have hnj : ¬ cap = j := by omega
            have hj1 : j ≤ cap := by omega
            have hj2 : (j : Int) ≤ (n : Int) := by omega
            have hj3 : j ≤ n := by omega
            have hk2 : ¬ (k2 : Int) < (m : Int) := by omega
            clear hR hj
            go_wp2
            go_ret
            have he : kepL l n = (mixK l (k + k2)).take j := by rw [HJ.out.1, mixK_take, hkm]
            refine ⟨_, _, rfl, ?_, HJ.out.2.2.trans (Apart.set wr (j * 5) vs)⟩
            rw [he]
            exact HJ.out.2.1.cleared j (by omega) (by unfold maxLen; omega) vs
    · have hkn : k = n := by omega
      subst hkn
      go_wp2
      go_ret
      refine ⟨_, _, rfl, ?_, Apart.of_bel hb⟩
      rw [HK.out]
      exact (HR.out.below hb).slice k (Nat.le_refl _) (by unfold maxLen; omega)
end Go.Proofs.Yteehgcbjmdideaa
