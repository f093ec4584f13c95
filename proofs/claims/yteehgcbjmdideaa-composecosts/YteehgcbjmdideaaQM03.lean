/- The walk of slices.CompactFunc at arcs. (Made by wip/gen/leaD.py.) -/
import Derived.Test.YteehgcbjmdideaaQM02
import Derived.Test.YteehgcbjmdideaaQM00
import Derived.Lib.Join
import Derived.Lib.ItoaLen
import Derived.Lib.UnsafeStr
namespace Go.Proofs.Yteehgcbjmdideaa
open Go.RowKit
attribute [local go_sem ↓] Go.wp_at_zero Go.wp_at_succ

theorem gL2 : ∀ args w, (callFunc 115 args).run Try.prog w = .ok (.enter 115 args) w := enters_of Try.func115 (by kernel_rfl) rfl

theorem take_one {l : List ArcD} (h : 1 ≤ l.length) : kepL l 1 = l.take 1 := by
  rw [kepL_one]
  match l, h with
  | _ :: _, _ => rfl
theorem take_more {l : List ArcD} {k : Nat} (h : kepL l k = l.take k) (hk : k < l.length) (hn : cmpArc (l.getD k a0) (l.getD (k - 1) a0) ≠ 0) : kepL l (k + 1) = l.take (k + 1) := by
  rw [kepL_keep hn, h, List.take_add_one]
  simp [List.getD, hk]

set_option maxHeartbeats 4000000 in
set_option maxRecDepth 100000 in
theorem compact_any (l : List ArcD) (g n cap : Nat) (w : World) (hr : ARow w g n l) (hn2 : 2 ≤ n) (hn : n ≤ 100000) (hcap : n ≤ cap) :
    Calls Try.prog 114 #[.slice (some ⟨g, 0, none⟩) n cap, .func (.func 115) #[] #[]] w fun e w' =>
      ∃ j c, e = .returned (.slice (some ⟨g, 0, none⟩) j c) ∧ ASlice w' (.slice (some ⟨g, 0, none⟩) j c) (kepL l n) ∧ Apart g w w' := by
  have hG := gL2
  have HL : Hid (l.length = n) := hr.len
  have HR : Hid (ARow w g n l) := hr
  clear hr
  have hnl : ¬ (n : Int) < 2 := by omega
  go_enter Try.func114, Try.ntmps114
  go_wp2
  go_loopw [5] (fun i wr => ∃ k : Nat, 1 ≤ k ∧ k ≤ n ∧ i = .int .i64 k ∧ kepL l k = l.take k ∧ Below w.heap.size w wr) (fun i _ => n - (intOf i).toNat)
  case atStart => exact ⟨1, Nat.le_refl _, by omega, rfl, take_one (by rw [HL.out]; omega), bel_self _⟩
  case round =>
    obtain ⟨k, hk1, hk, rfl, hkep, hb⟩ := hrel
    have HK : Hid (kepL l k = l.take k) := hkep
    clear hkep
    by_cases hlt : k < n
    · obtain ⟨x, hx⟩ : ∃ x, x = l.getD k a0 := ⟨_, rfl⟩
      obtain ⟨y, hy⟩ : ∃ y, y = l.getD (k - 1) a0 := ⟨_, rfl⟩
      have hR := HR.out.below hb
      have c0 : wr.cell? ⟨g, k * 5, none⟩ = some (.int .i64 x.src) := by rw [(by omega : (k * 5 : Nat) = (k) * 5 + 0)]; exact (hR.cell (k) 0 (by omega) (by omega)).trans (by rw [← hx]; rfl)
      have c1 : wr.cell? ⟨g, k * 5 + 1, none⟩ = some (.int .i64 x.inp) := by rw [(by omega : (k * 5 + 1 : Nat) = (k) * 5 + 1)]; exact (hR.cell (k) 1 (by omega) (by omega)).trans (by rw [← hx]; rfl)
      have c2 : wr.cell? ⟨g, k * 5 + 2, none⟩ = some (.int .i64 x.out) := by rw [(by omega : (k * 5 + 2 : Nat) = (k) * 5 + 2)]; exact (hR.cell (k) 2 (by omega) (by omega)).trans (by rw [← hx]; rfl)
      have c3 : wr.cell? ⟨g, k * 5 + 3, none⟩ = some (.int .i64 x.dst) := by rw [(by omega : (k * 5 + 3 : Nat) = (k) * 5 + 3)]; exact (hR.cell (k) 3 (by omega) (by omega)).trans (by rw [← hx]; rfl)
      have c4 : wr.cell? ⟨g, k * 5 + 4, none⟩ = some (.int .i64 x.wt) := by rw [(by omega : (k * 5 + 4 : Nat) = (k) * 5 + 4)]; exact (hR.cell (k) 4 (by omega) (by omega)).trans (by rw [← hx]; rfl)
      have d0 : wr.cell? ⟨g, (k - 1) * 5, none⟩ = some (.int .i64 y.src) := by rw [(by omega : ((k - 1) * 5 : Nat) = (k - 1) * 5 + 0)]; exact (hR.cell (k - 1) 0 (by omega) (by omega)).trans (by rw [← hy]; rfl)
      have d1 : wr.cell? ⟨g, (k - 1) * 5 + 1, none⟩ = some (.int .i64 y.inp) := by rw [(by omega : ((k - 1) * 5 + 1 : Nat) = (k - 1) * 5 + 1)]; exact (hR.cell (k - 1) 1 (by omega) (by omega)).trans (by rw [← hy]; rfl)
      have d2 : wr.cell? ⟨g, (k - 1) * 5 + 2, none⟩ = some (.int .i64 y.out) := by rw [(by omega : ((k - 1) * 5 + 2 : Nat) = (k - 1) * 5 + 2)]; exact (hR.cell (k - 1) 2 (by omega) (by omega)).trans (by rw [← hy]; rfl)
      have d3 : wr.cell? ⟨g, (k - 1) * 5 + 3, none⟩ = some (.int .i64 y.dst) := by rw [(by omega : ((k - 1) * 5 + 3 : Nat) = (k - 1) * 5 + 3)]; exact (hR.cell (k - 1) 3 (by omega) (by omega)).trans (by rw [← hy]; rfl)
      have d4 : wr.cell? ⟨g, (k - 1) * 5 + 4, none⟩ = some (.int .i64 y.wt) := by rw [(by omega : ((k - 1) * 5 + 4 : Nat) = (k - 1) * 5 + 4)]; exact (hR.cell (k - 1) 4 (by omega) (by omega)).trans (by rw [← hy]; rfl)
      have HXY : Hid (x = l.getD k a0 ∧ y = l.getD (k - 1) a0) := ⟨hx, hy⟩
      clear hx hy hR
      have hwk : IntKind.i64.wrap ((k : Int) - 1) = (k : Int) - 1 := IntWalk.i64_in _ ⟨by omega, by omega⟩
      have htk : ((k : Int) - 1).toNat = k - 1 := by omega
      have hi1 : (k : Int) - 1 < (n : Int) := by omega
      have hi2 : (0 : Int) ≤ (k : Int) - 1 := by omega
      have hi3 : (k : Int) < (n : Int) := by omega
      have hi4 : (1 : Int) ≤ (k : Int) := by omega
      have hi5 : (k : Int) < (n : Int) + 1 := by omega
      have hi6 : k < n + 1 := by omega
      have hcall := least2_gr x y
      cases hq : (cmpArc x y == 0) with
      | false =>
        have HQ : Hid (cmpArc x y ≠ 0) := (by simpa using hq : cmpArc x y ≠ 0)
        rw [hq] at hcall
        clear hq
        go_wp2
        go_region_held3 (fun wx => wx.cell? ⟨g, k * 5, none⟩ = some (.int .i64 x.src) ∧ wx.cell? ⟨g, k * 5 + 1, none⟩ = some (.int .i64 x.inp) ∧ wx.cell? ⟨g, k * 5 + 2, none⟩ = some (.int .i64 x.out) ∧ wx.cell? ⟨g, k * 5 + 3, none⟩ = some (.int .i64 x.dst) ∧ wx.cell? ⟨g, k * 5 + 4, none⟩ = some (.int .i64 x.wt) ∧ wx.cell? ⟨g, (k - 1) * 5, none⟩ = some (.int .i64 y.src) ∧ wx.cell? ⟨g, (k - 1) * 5 + 1, none⟩ = some (.int .i64 y.inp) ∧ wx.cell? ⟨g, (k - 1) * 5 + 2, none⟩ = some (.int .i64 y.out) ∧ wx.cell? ⟨g, (k - 1) * 5 + 3, none⟩ = some (.int .i64 y.dst) ∧ wx.cell? ⟨g, (k - 1) * 5 + 4, none⟩ = some (.int .i64 y.wt)) (first | exact ⟨bel_c hbw (drew_cell c0), bel_c hbw (drew_cell c1), bel_c hbw (drew_cell c2), bel_c hbw (drew_cell c3), bel_c hbw (drew_cell c4), bel_c hbw (drew_cell d0), bel_c hbw (drew_cell d1), bel_c hbw (drew_cell d2), bel_c hbw (drew_cell d3), bel_c hbw (drew_cell d4)⟩ | exact ⟨drew_cell c0, drew_cell c1, drew_cell c2, drew_cell c3, drew_cell c4, drew_cell d0, drew_cell d1, drew_cell d2, drew_cell d3, drew_cell d4⟩) ((go_at_call 115; refine (hcall _).mono ?_; rintro e w1 ⟨rfl, hgr⟩; have hbw := hgr.below; clear hgr))
        go_wp2
        go_roundw
        case rel => exact ⟨k + 1, by omega, by omega, by go_num, take_more HK.out (by rw [HL.out]; exact hlt) (by rw [← HXY.out.1, ← HXY.out.2]; exact HQ.out), bel_on hb.drew hbw⟩
        case measure => simp [intOf]; omega
      | true =>
        have HQ : Hid (cmpArc x y = 0) := (by simpa using hq : cmpArc x y = 0)
        rw [hq] at hcall
        clear hq
        have hnc : ¬ cap = k := by omega
        have hcap2 : k ≤ cap := by omega
        go_wp2
        go_region_held3 (fun wx => wx.cell? ⟨g, k * 5, none⟩ = some (.int .i64 x.src) ∧ wx.cell? ⟨g, k * 5 + 1, none⟩ = some (.int .i64 x.inp) ∧ wx.cell? ⟨g, k * 5 + 2, none⟩ = some (.int .i64 x.out) ∧ wx.cell? ⟨g, k * 5 + 3, none⟩ = some (.int .i64 x.dst) ∧ wx.cell? ⟨g, k * 5 + 4, none⟩ = some (.int .i64 x.wt) ∧ wx.cell? ⟨g, (k - 1) * 5, none⟩ = some (.int .i64 y.src) ∧ wx.cell? ⟨g, (k - 1) * 5 + 1, none⟩ = some (.int .i64 y.inp) ∧ wx.cell? ⟨g, (k - 1) * 5 + 2, none⟩ = some (.int .i64 y.out) ∧ wx.cell? ⟨g, (k - 1) * 5 + 3, none⟩ = some (.int .i64 y.dst) ∧ wx.cell? ⟨g, (k - 1) * 5 + 4, none⟩ = some (.int .i64 y.wt)) (first | exact ⟨bel_c hbw (drew_cell c0), bel_c hbw (drew_cell c1), bel_c hbw (drew_cell c2), bel_c hbw (drew_cell c3), bel_c hbw (drew_cell c4), bel_c hbw (drew_cell d0), bel_c hbw (drew_cell d1), bel_c hbw (drew_cell d2), bel_c hbw (drew_cell d3), bel_c hbw (drew_cell d4)⟩ | exact ⟨drew_cell c0, drew_cell c1, drew_cell c2, drew_cell c3, drew_cell c4, drew_cell d0, drew_cell d1, drew_cell d2, drew_cell d3, drew_cell d4⟩) ((go_at_call 115; refine (hcall _).mono ?_; rintro e w1 ⟨rfl, hgr⟩; have hbw := hgr.below; clear hgr))
        go_wp2
        obtain ⟨m, hm⟩ : ∃ m, m = n - k := ⟨_, rfl⟩
        rw [← hm]
        have HM : Hid (m = n - k) := hm
        have hmn : k + m = n := by omega
        have HS0 : Hid (kepL l (k + 1) = l.take k ∧ mixK l (k + 1) = l) := ⟨(kepL_skip (by omega) (by rw [← HXY.out.1, ← HXY.out.2]; exact HQ.out)).trans HK.out, (mixK_skip (by omega) (by rw [← HXY.out.1, ← HXY.out.2]; exact HQ.out)).trans (mixK_same HK.out (by rw [HL.out]; exact hk))⟩
        have HB1 : Hid (Below w.heap.size w w1) := bel_on hb.drew hbw
        clear c0 c1 c2 c3 c4 d0 d1 d2 d3 d4 hb hbw hm hcall hwk htk hi1 hi2 hi3 hi4 hi5 hi6
        go_loopw [5, 7] (fun s5 s7 wx => ∃ k2 j : Nat, 1 ≤ k2 ∧ k2 ≤ m ∧ s7 = .int .i64 k2 ∧ s5 = .int .i64 j ∧ j = (kepL l (k + k2)).length ∧ j < k + k2 ∧ ARow wx g n (mixK l (k + k2)) ∧ Apart g w wx) (fun _ s7 _ => m - (intOf s7).toNat)
        case atStart =>
          have hkl : (kepL l (k + 1)).length = k := by rw [HS0.out.1, List.length_take, HL.out]; omega
          exact ⟨1, k, Nat.le_refl _, by omega, rfl, rfl, hkl.symm, by omega, by rw [HS0.out.2]; exact HR.out.below HB1.out, Apart.of_bel HB1.out⟩
        case round =>
          clear HXY HQ
          obtain ⟨k2, j, h21, h2m, rfl, rfl, hj, hjk, hR, hap⟩ := hrel
          have HJ : Hid (j = (kepL l (k + k2)).length ∧ ARow wr g n (mixK l (k + k2)) ∧ Apart g w wr) := ⟨hj, hR, hap⟩
          clear hap
          by_cases h2 : k2 < m
          · obtain ⟨x, hx⟩ : ∃ x, x = l.getD (k + k2) a0 := ⟨_, rfl⟩
            obtain ⟨y, hy⟩ : ∃ y, y = l.getD (k + k2 - 1) a0 := ⟨_, rfl⟩
            obtain ⟨z, hz⟩ : ∃ z, z = (mixK l (k + k2)).getD j a0 := ⟨_, rfl⟩
            have hgx : (mixK l (k + k2)).getD (k + k2) a0 = x := by rw [hx]; exact mixK_at (by omega)
            have hgy : (mixK l (k + k2)).getD (k + k2 - 1) a0 = y := by rw [hy]; exact mixK_at (by omega)
            have c0 : wr.cell? ⟨g, k * 5 + k2 * 5, none⟩ = some (.int .i64 x.src) := by rw [(by omega : (k * 5 + k2 * 5 : Nat) = (k + k2) * 5 + 0)]; exact (hR.cell (k + k2) 0 (by omega) (by omega)).trans (by rw [hgx]; rfl)
            have c1 : wr.cell? ⟨g, k * 5 + k2 * 5 + 1, none⟩ = some (.int .i64 x.inp) := by rw [(by omega : (k * 5 + k2 * 5 + 1 : Nat) = (k + k2) * 5 + 1)]; exact (hR.cell (k + k2) 1 (by omega) (by omega)).trans (by rw [hgx]; rfl)
            have c2 : wr.cell? ⟨g, k * 5 + k2 * 5 + 2, none⟩ = some (.int .i64 x.out) := by rw [(by omega : (k * 5 + k2 * 5 + 2 : Nat) = (k + k2) * 5 + 2)]; exact (hR.cell (k + k2) 2 (by omega) (by omega)).trans (by rw [hgx]; rfl)
            have c3 : wr.cell? ⟨g, k * 5 + k2 * 5 + 3, none⟩ = some (.int .i64 x.dst) := by rw [(by omega : (k * 5 + k2 * 5 + 3 : Nat) = (k + k2) * 5 + 3)]; exact (hR.cell (k + k2) 3 (by omega) (by omega)).trans (by rw [hgx]; rfl)
            have c4 : wr.cell? ⟨g, k * 5 + k2 * 5 + 4, none⟩ = some (.int .i64 x.wt) := by rw [(by omega : (k * 5 + k2 * 5 + 4 : Nat) = (k + k2) * 5 + 4)]; exact (hR.cell (k + k2) 4 (by omega) (by omega)).trans (by rw [hgx]; rfl)
            have d0 : wr.cell? ⟨g, k * 5 + (k2 - 1) * 5, none⟩ = some (.int .i64 y.src) := by rw [(by omega : (k * 5 + (k2 - 1) * 5 : Nat) = (k + k2 - 1) * 5 + 0)]; exact (hR.cell (k + k2 - 1) 0 (by omega) (by omega)).trans (by rw [hgy]; rfl)
            have d1 : wr.cell? ⟨g, k * 5 + (k2 - 1) * 5 + 1, none⟩ = some (.int .i64 y.inp) := by rw [(by omega : (k * 5 + (k2 - 1) * 5 + 1 : Nat) = (k + k2 - 1) * 5 + 1)]; exact (hR.cell (k + k2 - 1) 1 (by omega) (by omega)).trans (by rw [hgy]; rfl)
            have d2 : wr.cell? ⟨g, k * 5 + (k2 - 1) * 5 + 2, none⟩ = some (.int .i64 y.out) := by rw [(by omega : (k * 5 + (k2 - 1) * 5 + 2 : Nat) = (k + k2 - 1) * 5 + 2)]; exact (hR.cell (k + k2 - 1) 2 (by omega) (by omega)).trans (by rw [hgy]; rfl)
            have d3 : wr.cell? ⟨g, k * 5 + (k2 - 1) * 5 + 3, none⟩ = some (.int .i64 y.dst) := by rw [(by omega : (k * 5 + (k2 - 1) * 5 + 3 : Nat) = (k + k2 - 1) * 5 + 3)]; exact (hR.cell (k + k2 - 1) 3 (by omega) (by omega)).trans (by rw [hgy]; rfl)
            have d4 : wr.cell? ⟨g, k * 5 + (k2 - 1) * 5 + 4, none⟩ = some (.int .i64 y.wt) := by rw [(by omega : (k * 5 + (k2 - 1) * 5 + 4 : Nat) = (k + k2 - 1) * 5 + 4)]; exact (hR.cell (k + k2 - 1) 4 (by omega) (by omega)).trans (by rw [hgy]; rfl)
            have t0 : wr.cell? ⟨g, j * 5, none⟩ = some (.int .i64 z.src) := by rw [(by omega : (j * 5 : Nat) = (j) * 5 + 0)]; exact (hR.cell (j) 0 (by omega) (by omega)).trans (by rw [← hz]; rfl)
            have t1 : wr.cell? ⟨g, j * 5 + 1, none⟩ = some (.int .i64 z.inp) := by rw [(by omega : (j * 5 + 1 : Nat) = (j) * 5 + 1)]; exact (hR.cell (j) 1 (by omega) (by omega)).trans (by rw [← hz]; rfl)
            have t2 : wr.cell? ⟨g, j * 5 + 2, none⟩ = some (.int .i64 z.out) := by rw [(by omega : (j * 5 + 2 : Nat) = (j) * 5 + 2)]; exact (hR.cell (j) 2 (by omega) (by omega)).trans (by rw [← hz]; rfl)
            have t3 : wr.cell? ⟨g, j * 5 + 3, none⟩ = some (.int .i64 z.dst) := by rw [(by omega : (j * 5 + 3 : Nat) = (j) * 5 + 3)]; exact (hR.cell (j) 3 (by omega) (by omega)).trans (by rw [← hz]; rfl)
            have t4 : wr.cell? ⟨g, j * 5 + 4, none⟩ = some (.int .i64 z.wt) := by rw [(by omega : (j * 5 + 4 : Nat) = (j) * 5 + 4)]; exact (hR.cell (j) 4 (by omega) (by omega)).trans (by rw [← hz]; rfl)
            have f0 : wr.frozen? ⟨g, j * 5, none⟩ = false := hR.frz _ (by omega)
            have f1 : wr.frozen? ⟨g, j * 5 + 1, none⟩ = false := hR.frz _ (by omega)
            have f2 : wr.frozen? ⟨g, j * 5 + 2, none⟩ = false := hR.frz _ (by omega)
            have f3 : wr.frozen? ⟨g, j * 5 + 3, none⟩ = false := hR.frz _ (by omega)
            have f4 : wr.frozen? ⟨g, j * 5 + 4, none⟩ = false := hR.frz _ (by omega)
            have HXY : Hid (x = l.getD (k + k2) a0 ∧ y = l.getD (k + k2 - 1) a0) := ⟨hx, hy⟩
            have hgl := hR.lt (by omega)
            clear hx hy hz hgx hgy hR hj
            have hwk : IntKind.i64.wrap ((k2 : Int) - 1) = (k2 : Int) - 1 := IntWalk.i64_in _ ⟨by omega, by omega⟩
            have htk : ((k2 : Int) - 1).toNat = k2 - 1 := by omega
            have hi1 : (k2 : Int) - 1 < (m : Int) := by omega
            have hi2 : (0 : Int) ≤ (k2 : Int) - 1 := by omega
            have hi3 : (k2 : Int) < (m : Int) := by omega
            have hi4 : (1 : Int) ≤ (k2 : Int) := by omega
            have hi5 : (k2 : Int) < (m : Int) + 1 := by omega
            have hi6 : k2 < m + 1 := by omega
            have hi7 : (j : Int) < (n : Int) := by omega
            have hcall := least2_gr x y
            cases hq : (cmpArc x y == 0) with
            | true =>
              have HQ : Hid (cmpArc x y = 0) := (by simpa using hq : cmpArc x y = 0)
              rw [hq] at hcall
              clear hq
              go_wp2
              go_region_held3 (fun wx => wx.cell? ⟨g, k * 5 + k2 * 5, none⟩ = some (.int .i64 x.src) ∧ wx.cell? ⟨g, k * 5 + k2 * 5 + 1, none⟩ = some (.int .i64 x.inp) ∧ wx.cell? ⟨g, k * 5 + k2 * 5 + 2, none⟩ = some (.int .i64 x.out) ∧ wx.cell? ⟨g, k * 5 + k2 * 5 + 3, none⟩ = some (.int .i64 x.dst) ∧ wx.cell? ⟨g, k * 5 + k2 * 5 + 4, none⟩ = some (.int .i64 x.wt) ∧ wx.cell? ⟨g, k * 5 + (k2 - 1) * 5, none⟩ = some (.int .i64 y.src) ∧ wx.cell? ⟨g, k * 5 + (k2 - 1) * 5 + 1, none⟩ = some (.int .i64 y.inp) ∧ wx.cell? ⟨g, k * 5 + (k2 - 1) * 5 + 2, none⟩ = some (.int .i64 y.out) ∧ wx.cell? ⟨g, k * 5 + (k2 - 1) * 5 + 3, none⟩ = some (.int .i64 y.dst) ∧ wx.cell? ⟨g, k * 5 + (k2 - 1) * 5 + 4, none⟩ = some (.int .i64 y.wt)) (first | exact ⟨bel_c hbw (drew_cell c0), bel_c hbw (drew_cell c1), bel_c hbw (drew_cell c2), bel_c hbw (drew_cell c3), bel_c hbw (drew_cell c4), bel_c hbw (drew_cell d0), bel_c hbw (drew_cell d1), bel_c hbw (drew_cell d2), bel_c hbw (drew_cell d3), bel_c hbw (drew_cell d4)⟩ | exact ⟨drew_cell c0, drew_cell c1, drew_cell c2, drew_cell c3, drew_cell c4, drew_cell d0, drew_cell d1, drew_cell d2, drew_cell d3, drew_cell d4⟩) ((go_at_call 115; refine (hcall _).mono ?_; rintro e w1 ⟨rfl, hgr⟩; have hbw := hgr.below; clear hgr))
              go_wp2
              go_roundw
              case rel =>
                have hz0 : cmpArc (l.getD (k + k2) a0) (l.getD (k + k2 - 1) a0) = 0 := by rw [← HXY.out.1, ← HXY.out.2]; exact HQ.out
                refine ⟨k2 + 1, j, by omega, by omega, by go_num, rfl, ?_, by omega, ?_, HJ.out.2.2.trans (Apart.of_bel (bel_on (bel_self _).drew hbw))⟩
                · rw [← Nat.add_assoc, kepL_skip (by omega) hz0]; exact HJ.out.1
                · rw [← Nat.add_assoc, mixK_skip (by omega) hz0]; exact (HJ.out.2.1.below (bel_self _).drew).below hbw
              case measure => simp [intOf]; omega
            | false =>
              have HQ : Hid (cmpArc x y ≠ 0) := (by simpa using hq : cmpArc x y ≠ 0)
              rw [hq] at hcall
              clear hq
              go_wp2
              go_region_held3 (fun wx => wx.cell? ⟨g, k * 5 + k2 * 5, none⟩ = some (.int .i64 x.src) ∧ wx.cell? ⟨g, k * 5 + k2 * 5 + 1, none⟩ = some (.int .i64 x.inp) ∧ wx.cell? ⟨g, k * 5 + k2 * 5 + 2, none⟩ = some (.int .i64 x.out) ∧ wx.cell? ⟨g, k * 5 + k2 * 5 + 3, none⟩ = some (.int .i64 x.dst) ∧ wx.cell? ⟨g, k * 5 + k2 * 5 + 4, none⟩ = some (.int .i64 x.wt) ∧ wx.cell? ⟨g, k * 5 + (k2 - 1) * 5, none⟩ = some (.int .i64 y.src) ∧ wx.cell? ⟨g, k * 5 + (k2 - 1) * 5 + 1, none⟩ = some (.int .i64 y.inp) ∧ wx.cell? ⟨g, k * 5 + (k2 - 1) * 5 + 2, none⟩ = some (.int .i64 y.out) ∧ wx.cell? ⟨g, k * 5 + (k2 - 1) * 5 + 3, none⟩ = some (.int .i64 y.dst) ∧ wx.cell? ⟨g, k * 5 + (k2 - 1) * 5 + 4, none⟩ = some (.int .i64 y.wt)) (first | exact ⟨bel_c hbw (drew_cell c0), bel_c hbw (drew_cell c1), bel_c hbw (drew_cell c2), bel_c hbw (drew_cell c3), bel_c hbw (drew_cell c4), bel_c hbw (drew_cell d0), bel_c hbw (drew_cell d1), bel_c hbw (drew_cell d2), bel_c hbw (drew_cell d3), bel_c hbw (drew_cell d4)⟩ | exact ⟨drew_cell c0, drew_cell c1, drew_cell c2, drew_cell c3, drew_cell c4, drew_cell d0, drew_cell d1, drew_cell d2, drew_cell d3, drew_cell d4⟩) ((go_at_call 115; refine (hcall _).mono ?_; rintro e w1 ⟨rfl, hgr⟩; have hbw := hgr.below; clear hgr))
              have c0' := bel_c hbw (drew_cell c0)
              have c1' := bel_c hbw (drew_cell c1)
              have c2' := bel_c hbw (drew_cell c2)
              have c3' := bel_c hbw (drew_cell c3)
              have c4' := bel_c hbw (drew_cell c4)
              have t0' := bel_c hbw (drew_cell t0)
              have t1' := bel_c hbw (drew_cell t1)
              have t2' := bel_c hbw (drew_cell t2)
              have t3' := bel_c hbw (drew_cell t3)
              have t4' := bel_c hbw (drew_cell t4)
              have f0' : w1.frozen? ⟨g, j * 5, none⟩ = false := (hbw.frozen (p := ⟨g, j * 5, none⟩) hgl).trans f0
              have f1' : w1.frozen? ⟨g, j * 5 + 1, none⟩ = false := (hbw.frozen (p := ⟨g, j * 5 + 1, none⟩) hgl).trans f1
              have f2' : w1.frozen? ⟨g, j * 5 + 2, none⟩ = false := (hbw.frozen (p := ⟨g, j * 5 + 2, none⟩) hgl).trans f2
              have f3' : w1.frozen? ⟨g, j * 5 + 3, none⟩ = false := (hbw.frozen (p := ⟨g, j * 5 + 3, none⟩) hgl).trans f3
              have f4' : w1.frozen? ⟨g, j * 5 + 4, none⟩ = false := (hbw.frozen (p := ⟨g, j * 5 + 4, none⟩) hgl).trans f4
              have HW : Hid (Below wr.heap.size wr w1) := bel_on (bel_self _).drew hbw
              clear c0 c1 c2 c3 c4 d0 d1 d2 d3 d4 t0 t1 t2 t3 t4 f0 f1 f2 f3 f4 hbw hcall
              go_wp2
              go_roundw
              case rel =>
                have hz0 : cmpArc (l.getD (k + k2) a0) (l.getD (k + k2 - 1) a0) ≠ 0 := by rw [← HXY.out.1, ← HXY.out.2]; exact HQ.out
                have hjl : (kepL l (k + k2)).length < l.length := by rw [HL.out, ← HJ.out.1]; omega
                have hrow := (HJ.out.2.1.below HW.out).set j (by omega) x
                refine ⟨k2 + 1, j + 1, by omega, by omega, by go_num, by go_num, ?_, by omega, ?_, (HJ.out.2.2.trans (Apart.of_bel HW.out)).trans (Apart.set w1 (j * 5) (arcCells x))⟩
                · rw [← Nat.add_assoc, kepL_keep hz0, List.length_append, ← HJ.out.1]; rfl
                · rw [← Nat.add_assoc, ← mixK_keep hjl hz0, ← HXY.out.1, ← HJ.out.1]; exact hrow
              case measure => simp [intOf]; omega
          · have hkm : k + k2 = n := by omega
            obtain ⟨vs, hcl⟩ := clear_arcs wr 0 g (j * 5) (n - j) (cap - j) (by omega) (fun i hi => by rw [(by omega : j * 5 + i = (j + i / 5) * 5 + i % 5), hR.cell (j + i / 5) (i % 5) (by omega) (by omega)]; simp [arcCells]; omega) (fun i hi => hR.frz _ (by omega))
            have hnj : ¬ cap = j := by omega
            have hj1 : j ≤ cap := by omega
            have hj2 : (j : Int) ≤ (n : Int) := by omega
            have hj3 : j ≤ n := by omega
            have hk2 : ¬ (k2 : Int) < (m : Int) := by omega
            clear hR hj
            go_wp2
            go_ret
            have he : kepL l n = (mixK l (k + k2)).take j := by rw [HJ.out.1, mixK_take, hkm]
            refine ⟨_, _, rfl, ?_, HJ.out.2.2.trans (Apart.set wr (j * 5) vs)⟩
            rw [he]
            exact HJ.out.2.1.cleared j (by omega) (by unfold maxLen; omega) vs
    · have hkn : k = n := by omega
      subst hkn
      go_wp2
      go_ret
      refine ⟨_, _, rfl, ?_, Apart.of_bel hb⟩
      rw [HK.out]
      exact (HR.out.below hb).slice k (Nat.le_refl _) (by unfold maxLen; omega)
end Go.Proofs.Yteehgcbjmdideaa

/- The text of a transducer, as bytes: one line a piece; how long it is at most. -/
namespace Go.Proofs.Yteehgcbjmdideaa

/-- numbers of int's kind -/
def in64 (n : Int) : Prop := -9223372036854775808 ≤ n ∧ n ≤ 9223372036854775807
/-- an arc that may stand in a transducer of so many states -/
structure ArcOk (st : Int) (a : ArcD) : Prop where
  src : inB a.src 0 (st - 1) = true
  dst : inB a.dst 0 (st - 1) = true
  inp : inB a.inp 0 9 = true
  out : inB a.out 0 9 = true
  wt : inB a.wt 0 1000000000 = true

theorem arcErr_ok (st : Int) (p : Option ArcD) (a : ArcD) (h : arcErr st p a = 0) : ArcOk st a := by
  unfold arcErr at h
  cases h0 : inB a.src 0 (st - 1) <;> cases h1 : inB a.dst 0 (st - 1) <;> simp [h0, h1] at h
  cases h2 : inB a.inp 0 9 <;> cases h3 : inB a.out 0 9 <;> cases h4 : inB a.wt 0 1000000000 <;> simp [h2, h3, h4] at h
  exact ⟨h0, h1, h2, h3, h4⟩

theorem arcsErr_ok (st : Int) (l : List ArcD) (p : Option ArcD) (h : arcsErr st p l = 0) : ∀ a ∈ l, ArcOk st a := by
  induction l generalizing p with
  | nil => intro a ha; cases ha
  | cons b l ih =>
    rw [arcsErr] at h
    by_cases e : arcErr st p b = 0
    · rw [if_pos e] at h
      intro a ha
      rcases List.mem_cons.1 ha with rfl | ha
      · exact arcErr_ok _ _ _ e
      · exact ih _ h a ha
    · rw [if_neg e] at h; exact absurd h e

structure CheckOk (f : FstD) : Prop where
  states : inB f.states 1 200 = true
  start : inB f.start 0 (f.states - 1) = true
  len : (f.final.length : Int) = f.states
  fin : ∀ x ∈ f.final, finB x = false
  many : f.arcs.length ≤ 3000
  err : arcsErr f.states none f.arcs = 0
  arcs : ∀ a ∈ f.arcs, ArcOk f.states a

theorem check_ok (f : FstD) (h : checkD f = 0) : CheckOk f := by
  unfold checkD at h
  cases h0 : inB f.states 1 200 <;> simp only [h0, Bool.not_false, Bool.not_true, if_true, if_false, Bool.false_eq_true] at h
  · exact absurd h (by decide)
  cases h1 : inB f.start 0 (f.states - 1) <;> simp only [h1, Bool.not_false, Bool.not_true, if_true, if_false, Bool.false_eq_true] at h
  · exact absurd h (by decide)
  by_cases h2 : (f.final.length : Int) = f.states
  · rw [if_neg (by simpa using h2)] at h
    cases h3 : f.final.any finB <;> simp only [h3, if_true, if_false, Bool.false_eq_true] at h
    · by_cases h4 : 3000 < f.arcs.length
      · rw [if_pos h4] at h; exact absurd h (by decide)
      · rw [if_neg h4] at h
        exact ⟨h0, h1, h2, by simpa using h3, by omega, h, arcsErr_ok _ _ _ h⟩
    · exact absurd h (by decide)
  · rw [if_pos (by simpa using h2)] at h; exact absurd h (by decide)

theorem finB_out {x : Int} (h : finB x = false) : (x = -1 ∨ (0 ≤ x ∧ x ≤ 1000000000)) ∧ in64 x := by
  unfold finB inB at h
  by_cases e : x = -1
  · subst e; exact ⟨Or.inl rfl, by decide, by decide⟩
  · have : (x != -1) = true := by simpa using e
    rw [this] at h
    simp at h
    exact ⟨Or.inr h, ⟨by omega, by omega⟩⟩

end Go.Proofs.Yteehgcbjmdideaa

/- Arcs in their order, each ahead of all behind it; what Check passes. -/
namespace Go.Proofs.Yteehgcbjmdideaa

theorem ahead_iff (a b : ArcD) : aheadB a b = true ↔ a.src < b.src ∨ (a.src = b.src ∧ (a.inp < b.inp ∨ (a.inp = b.inp ∧ (a.out < b.out ∨ (a.out = b.out ∧ a.dst < b.dst))))) := by
  unfold aheadB
  by_cases h0 : a.src = b.src
  · rw [if_neg (by simpa using h0)]
    by_cases h1 : a.inp = b.inp
    · rw [if_neg (by simpa using h1)]
      by_cases h2 : a.out = b.out
      · rw [if_neg (by simpa using h2), decide_eq_true_iff]
        omega
      · rw [if_pos h2, decide_eq_true_iff]
        omega
    · rw [if_pos h1, decide_eq_true_iff]
      omega
  · rw [if_pos h0, decide_eq_true_iff]
    omega

theorem ahead_trans {a b c : ArcD} (h1 : aheadB a b = true) (h2 : aheadB b c = true) : aheadB a c = true := by
  rw [ahead_iff] at *
  omega

theorem ahead_irrefl (a : ArcD) : aheadB a a = false := by
  rw [Bool.eq_false_iff]
  intro h
  rw [ahead_iff] at h
  omega

theorem arcErr_mk {st : Int} {p : Option ArcD} {a : ArcD} (h : ArcOk st a) (hp : ∀ q, p = some q → aheadB q a = true) : arcErr st p a = 0 := by
  unfold arcErr
  rw [h.src, h.dst, h.inp, h.out, h.wt]
  cases p with
  | none => rfl
  | some q => simp [hp q rfl]

theorem arcErr_ahead {st : Int} {q a : ArcD} (h : arcErr st (some q) a = 0) : aheadB q a = true := by
  have k := arcErr_ok _ _ _ h
  unfold arcErr at h
  rw [k.src, k.dst, k.inp, k.out, k.wt] at h
  cases e : aheadB q a with
  | true => rfl
  | false => simp [e] at h

theorem arcsErr_mk {st : Int} (l : List ArcD) : ∀ (p : Option ArcD), (∀ a ∈ l, ArcOk st a) → l.Pairwise (fun a b => aheadB a b = true) → (∀ q, p = some q → ∀ x ∈ l, aheadB q x = true) → arcsErr st p l = 0 := by
  induction l with
  | nil => intro p _ _ _; rfl
  | cons a l ih =>
    intro p h1 h2 h3
    rw [List.pairwise_cons] at h2
    rw [arcsErr, if_pos (arcErr_mk (h1 a (by simp)) (fun q hq => h3 q hq a (by simp)))]
    refine ih _ (fun b hb => h1 b (by simp [hb])) h2.2 (fun q hq x hx => ?_)
    injection hq with hq
    subst hq
    exact h2.1 x hx

theorem arcsErr_order {st : Int} (l : List ArcD) : ∀ (p : Option ArcD), arcsErr st p l = 0 → l.Pairwise (fun a b => aheadB a b = true) ∧ ∀ q, p = some q → ∀ x ∈ l, aheadB q x = true := by
  induction l with
  | nil => intro p _; exact ⟨List.Pairwise.nil, fun _ _ x hx => by cases hx⟩
  | cons a l ih =>
    intro p h
    rw [arcsErr] at h
    by_cases e : arcErr st p a = 0
    · rw [if_pos e] at h
      obtain ⟨g1, g2⟩ := ih _ h
      refine ⟨List.pairwise_cons.2 ⟨fun x hx => g2 a rfl x hx, g1⟩, fun q hq x hx => ?_⟩
      subst hq
      have e1 := arcErr_ahead e
      rcases List.mem_cons.1 hx with rfl | hx
      · exact e1
      · exact ahead_trans e1 (g2 a rfl x hx)
    · rw [if_neg e] at h; exact absurd h e

/-- what Check passes -/
structure Fine (f : FstD) : Prop where
  s1 : 1 ≤ f.states
  s2 : f.states ≤ 200
  b1 : 0 ≤ f.start
  b2 : f.start < f.states
  len : (f.final.length : Int) = f.states
  fin : ∀ x ∈ f.final, x = -1 ∨ (0 ≤ x ∧ x ≤ 1000000000)
  many : f.arcs.length ≤ 3000
  arcs : ∀ a ∈ f.arcs, ArcOk f.states a
  ord : f.arcs.Pairwise (fun a b => aheadB a b = true)

theorem fine_of {f : FstD} (h : checkD f = 0) : Fine f := by
  have k := check_ok f h
  have k0 := k.states
  have k1 := k.start
  simp [inB] at k0 k1
  exact ⟨k0.1, k0.2, k1.1, by omega, k.len, fun x hx => (finB_out (k.fin x hx)).1, k.many, k.arcs, (arcsErr_order _ _ k.err).1⟩

theorem Fine.check {f : FstD} (h : Fine f) : checkD f = 0 := by
  have e0 : inB f.states 1 200 = true := by simp [inB]; exact ⟨h.s1, h.s2⟩
  have e1 : inB f.start 0 (f.states - 1) = true := by simp [inB]; have := h.b1; have := h.b2; omega
  have e3 : f.final.any finB = false := by
    rw [List.any_eq_false]
    intro x hx
    have := h.fin x hx
    unfold finB inB
    rcases this with rfl | ⟨g1, g2⟩
    · decide
    · simp; omega
  unfold checkD
  rw [e0, e1, e3]
  have e2 : ¬ (f.final.length : Int) ≠ f.states := fun hh => hh h.len
  have e4 : ¬ 3000 < f.arcs.length := by have := h.many; omega
  simp only [Bool.not_true, Bool.false_eq_true, if_false, if_neg e2, if_neg e4]
  exact arcsErr_mk _ _ h.arcs h.ord (fun q hq => by cases hq)

end Go.Proofs.Yteehgcbjmdideaa

/- Of arcs that differ in nothing but the weight the least one, all in their order: there is just one such list. -/
namespace Go.Proofs.Yteehgcbjmdideaa

/-- they differ in nothing but the weight -/
def eqK (a b : ArcD) : Prop := a.src = b.src ∧ a.inp = b.inp ∧ a.out = b.out ∧ a.dst = b.dst

theorem eqK.symm {a b : ArcD} (h : eqK a b) : eqK b a := ⟨h.1.symm, h.2.1.symm, h.2.2.1.symm, h.2.2.2.symm⟩
theorem eqK.trans {a b c : ArcD} (h : eqK a b) (k : eqK b c) : eqK a c := ⟨h.1.trans k.1, h.2.1.trans k.2.1, h.2.2.1.trans k.2.2.1, h.2.2.2.trans k.2.2.2⟩
theorem eqK.refl (a : ArcD) : eqK a a := ⟨rfl, rfl, rfl, rfl⟩
theorem eqK.one {a b : ArcD} (h : eqK a b) (hw : a.wt = b.wt) : a = b := by
  obtain ⟨s, i, o, d, t⟩ := a
  obtain ⟨s', i', o', d', t'⟩ := b
  obtain ⟨h1, h2, h3, h4⟩ := h
  cases h1; cases h2; cases h3; cases h4; cases hw
  rfl

theorem orI_cons (x : Int) (xs : List Int) : orI (x :: xs) = if x = 0 then orI xs else x := by
  unfold orI
  by_cases h : x = 0
  · simp [h]
  · simp [h]

theorem cmpArc_zero {a b : ArcD} : cmpArc a b = 0 ↔ eqK a b := by
  unfold cmpArc eqK
  have e : orI [] = 0 := rfl
  simp only [orI_cons, e]
  have h1 := cmpI_zero a.src b.src
  have h2 := cmpI_zero a.inp b.inp
  have h3 := cmpI_zero a.out b.out
  have h4 := cmpI_zero a.dst b.dst
  rw [← h1, ← h2, ← h3, ← h4]
  generalize cmpI a.src b.src = p
  generalize cmpI a.inp b.inp = q
  generalize cmpI a.out b.out = r
  generalize cmpI a.dst b.dst = s
  split
  · split
    · split
      · split <;> simp [*]
      · simp [*]
    · simp [*]
  · simp [*]

theorem cmpArc_neg {a b : ArcD} : cmpArc a b < 0 ↔ aheadB a b = true := by
  have h := cmpArc_ahead a b
  cases hb : aheadB a b with
  | true => rw [hb] at h; simp at h; simp [h]
  | false => rw [hb] at h; simp at h; simp; omega

theorem cmpW_neg {a b : ArcD} : cmpW a b < 0 ↔ aheadB a b = true ∨ (eqK a b ∧ a.wt < b.wt) := by
  unfold cmpW
  have e : orI [] = 0 := rfl
  simp only [orI_cons, e]
  rw [← cmpArc_neg, ← cmpArc_zero, ← cmpI_neg a.wt b.wt]
  generalize cmpArc a b = p
  generalize cmpI a.wt b.wt = q
  split
  · split <;> omega
  · omega

theorem ahead_tri (a b : ArcD) : aheadB a b = true ∨ eqK a b ∨ aheadB b a = true := by
  rw [ahead_iff, ahead_iff]
  unfold eqK
  omega
theorem ahead_not {a b : ArcD} (h : aheadB a b = true) : ¬ eqK a b ∧ aheadB b a = false := by
  rw [ahead_iff] at h
  have : ¬ (aheadB b a = true) := by rw [ahead_iff]; omega
  unfold eqK
  exact ⟨by omega, by simpa using this⟩
theorem ahead_eq {a b c : ArcD} (h : aheadB a b = true) (k : eqK b c) : aheadB a c = true := by
  rw [ahead_iff] at h ⊢
  obtain ⟨k1, k2, k3, k4⟩ := k
  rw [← k1, ← k2, ← k3, ← k4]
  exact h
theorem eq_ahead {a b c : ArcD} (h : eqK a b) (k : aheadB b c = true) : aheadB a c = true := by
  rw [ahead_iff] at k ⊢
  obtain ⟨k1, k2, k3, k4⟩ := h
  rw [k1, k2, k3, k4]
  exact k

structure IsMin (r l : List ArcD) : Prop where
  ord : r.Pairwise (fun a b => aheadB a b = true)
  mem : ∀ a, a ∈ r ↔ a ∈ l ∧ ∀ b ∈ l, eqK a b → a.wt ≤ b.wt

theorem ord_ext {r r' : List ArcD} (h : r.Pairwise (fun a b => aheadB a b = true)) (h' : r'.Pairwise (fun a b => aheadB a b = true)) (hm : ∀ a, a ∈ r ↔ a ∈ r') : r = r' := by
  induction r generalizing r' with
  | nil =>
    cases r' with
    | nil => rfl
    | cons b r' => exact absurd ((hm b).2 (List.mem_cons_self ..)) (by simp)
  | cons a r ih =>
    cases r' with
    | nil => exact absurd ((hm a).1 (List.mem_cons_self ..)) (by simp)
    | cons b r' =>
      obtain ⟨h1, h2⟩ := List.pairwise_cons.1 h
      obtain ⟨h3, h4⟩ := List.pairwise_cons.1 h'
      have e : a = b := by
        rcases List.mem_cons.1 ((hm a).1 (List.mem_cons_self ..)) with e | e
        · exact e
        · rcases List.mem_cons.1 ((hm b).2 (List.mem_cons_self ..)) with e' | e'
          · exact e'.symm
          · have q1 := h3 a e
            have q2 := h1 b e'
            rw [(ahead_not q1).2] at q2
            exact absurd q2 (by decide)
      subst e
      have irr : ∀ c, c ∈ r ∨ c ∈ r' → c ≠ a := fun c hc e => by
        subst e
        rcases hc with hc | hc
        · have := h1 c hc; rw [ahead_irrefl] at this; exact absurd this (by decide)
        · have := h3 c hc; rw [ahead_irrefl] at this; exact absurd this (by decide)
      rw [ih h2 h4 fun c => ⟨fun hc => ?_, fun hc => ?_⟩]
      · rcases List.mem_cons.1 ((hm c).1 (List.mem_cons_of_mem _ hc)) with e | e
        · exact absurd e (irr c (Or.inl hc))
        · exact e
      · rcases List.mem_cons.1 ((hm c).2 (List.mem_cons_of_mem _ hc)) with e | e
        · exact absurd e (irr c (Or.inr hc))
        · exact e

theorem IsMin.unique {r r' l : List ArcD} (h : IsMin r l) (h' : IsMin r' l) : r = r' := ord_ext h.ord h'.ord fun a => (h.mem a).trans (h'.mem a).symm

/-- each arc has a least one of its kind -/
theorem min_ex (l : List ArcD) : ∀ b ∈ l, ∃ a ∈ l, eqK a b ∧ ∀ c ∈ l, eqK a c → a.wt ≤ c.wt := by
  induction l with
  | nil => intro b hb; cases hb
  | cons d l ih =>
    have key : ∀ b, (b = d ∨ b ∈ l) → ∃ a ∈ d :: l, eqK a b ∧ ∀ c ∈ d :: l, eqK a c → a.wt ≤ c.wt := by
      intro b hb
      by_cases hx : ∃ b' ∈ l, eqK b' b
      · obtain ⟨b', hb', he⟩ := hx
        obtain ⟨a, ha, h1, h2⟩ := ih b' hb'
        by_cases hd : eqK a d ∧ d.wt < a.wt
        · refine ⟨d, List.mem_cons_self .., hd.1.symm.trans (h1.trans he), fun c hc k => ?_⟩
          rcases List.mem_cons.1 hc with rfl | hc
          · exact Int.le_refl _
          · have := h2 c hc (hd.1.trans k); omega
        · refine ⟨a, List.mem_cons_of_mem _ ha, h1.trans he, fun c hc k => ?_⟩
          rcases List.mem_cons.1 hc with rfl | hc
          · exact Int.not_lt.1 fun hh => hd ⟨k, hh⟩
          · exact h2 c hc k
      · have hbd : b = d := by
          rcases hb with h | h
          · exact h
          · exact absurd ⟨b, h, eqK.refl b⟩ hx
        subst hbd
        refine ⟨b, List.mem_cons_self .., eqK.refl b, fun c hc k => ?_⟩
        rcases List.mem_cons.1 hc with rfl | hc
        · exact Int.le_refl _
        · exact absurd ⟨c, hc, k.symm⟩ hx
    exact fun b hb => key b (List.mem_cons.1 hb)

theorem IsMin.rep {r l : List ArcD} (h : IsMin r l) {b : ArcD} (hb : b ∈ l) : ∃ a ∈ r, eqK a b ∧ a.wt ≤ b.wt := by
  obtain ⟨a, ha, h1, h2⟩ := min_ex l b hb
  exact ⟨a, (h.mem a).2 ⟨ha, h2⟩, h1, h2 b hb h1⟩

/-- one more arc, put in its place -/
theorem IsMin.insert {r l : List ArcD} {x : ArcD} {k : Nat} (h : IsMin r l) (h1 : ∀ a ∈ r.take k, aheadB a x = true) (h2 : ∀ a ∈ r.drop k, aheadB x a = true) : IsMin (r.take k ++ x :: r.drop k) (l ++ [x]) := by
  have hno : ∀ b ∈ l, ¬ eqK x b := fun b hb he => by
    obtain ⟨a, ha, k1, _⟩ := h.rep hb
    have hax : eqK a x := k1.trans he.symm
    rw [← List.take_append_drop k r] at ha
    rcases List.mem_append.1 ha with ha | ha
    · exact (ahead_not (h1 a ha)).1 hax
    · exact (ahead_not (h2 a ha)).1 hax.symm
  have hord := h.ord
  rw [← List.take_append_drop k r, List.pairwise_append] at hord
  refine ⟨?_, fun a => ?_⟩
  · rw [List.pairwise_append]
    refine ⟨hord.1, List.pairwise_cons.2 ⟨h2, hord.2.1⟩, fun a ha b hb => ?_⟩
    rcases List.mem_cons.1 hb with rfl | hb
    · exact h1 a ha
    · exact hord.2.2 a ha b hb
  · have hm : a ∈ r.take k ++ x :: r.drop k ↔ a = x ∨ a ∈ r := by
      conv => rhs; rw [← List.take_append_drop k r]
      simp only [List.mem_append, List.mem_cons]
      constructor
      · rintro (q | q | q)
        · exact Or.inr (Or.inl q)
        · exact Or.inl q
        · exact Or.inr (Or.inr q)
      · rintro (q | q | q)
        · exact Or.inr (Or.inl q)
        · exact Or.inl q
        · exact Or.inr (Or.inr q)
    rw [hm, h.mem a]
    simp only [List.mem_append, List.mem_singleton]
    constructor
    · rintro (rfl | ⟨q1, q2⟩)
      · exact ⟨Or.inr rfl, fun b hb he => by
          rcases hb with hb | rfl
          · exact absurd he (hno b hb)
          · exact Int.le_refl _⟩
      · exact ⟨Or.inl q1, fun b hb he => by
          rcases hb with hb | rfl
          · exact q2 b hb he
          · exact absurd he.symm (hno a q1)⟩
    · rintro ⟨q1 | q1, q2⟩
      · exact Or.inr ⟨q1, fun b hb he => q2 b (Or.inl hb) he⟩
      · exact Or.inl q1

/-- one more arc, of a kind that is there -/
theorem IsMin.less {r l : List ArcD} {x y z : ArcD} {k : Nat} (h : IsMin r l) (hk : k < r.length) (hy : r.getD k a0 = y) (he : eqK y x) (hz : eqK z y) (hw : z.wt = if x.wt < y.wt then x.wt else y.wt) : IsMin (r.set k z) (l ++ [x]) := by
  have hym : y ∈ r := by rw [← hy]; simp [List.getD, hk]
  have hsp : r = r.take k ++ y :: r.drop (k + 1) := by
    conv => lhs; rw [← List.take_append_drop k r, List.drop_eq_getElem_cons hk]
    rw [← hy]
    simp [List.getD, hk]
  have hset : r.set k z = r.take k ++ z :: r.drop (k + 1) := by
    rw [List.set_eq_take_append_cons_drop, if_pos hk]
  have hord := h.ord
  rw [hsp, List.pairwise_append] at hord
  obtain ⟨o1, o2, o3⟩ := hord
  obtain ⟨o4, o5⟩ := List.pairwise_cons.1 o2
  have hyl := (h.mem y).1 hym
  have oth : ∀ a, a ∈ r.take k ∨ a ∈ r.drop (k + 1) → ¬ eqK a x := fun a ha q => by
    rcases ha with ha | ha
    · exact (ahead_not (o3 a ha y (List.mem_cons_self ..))).1 (q.trans he.symm)
    · exact (ahead_not (o4 a ha)).1 (he.trans q.symm)
  refine ⟨?_, fun a => ?_⟩
  · rw [hset, List.pairwise_append]
    refine ⟨o1, List.pairwise_cons.2 ⟨fun b hb => eq_ahead hz (o4 b hb), o5⟩, fun a ha b hb => ?_⟩
    rcases List.mem_cons.1 hb with rfl | hb
    · exact ahead_eq (o3 a ha y (List.mem_cons_self ..)) hz.symm
    · exact o3 a ha b (List.mem_cons_of_mem _ hb)
  · have hm : a ∈ r.set k z ↔ a = z ∨ (a ∈ r ∧ ¬ eqK a x) := by
      rw [hset]
      conv => rhs; rw [hsp]
      simp only [List.mem_append, List.mem_cons]
      constructor
      · rintro (q | q | q)
        · exact Or.inr ⟨Or.inl q, oth a (Or.inl q)⟩
        · exact Or.inl q
        · exact Or.inr ⟨Or.inr (Or.inr q), oth a (Or.inr q)⟩
      · rintro (q | ⟨q | q | q, q'⟩)
        · exact Or.inr (Or.inl q)
        · exact Or.inl q
        · exact absurd (q ▸ he) q'
        · exact Or.inr (Or.inr q)
    rw [hm, h.mem a]
    simp only [List.mem_append, List.mem_singleton]
    constructor
    · rintro (rfl | ⟨⟨q1, q2⟩, q3⟩)
      · by_cases hlt : x.wt < y.wt
        · rw [if_pos hlt] at hw
          have ex : a = x := (hz.trans he).one hw
          exact ⟨Or.inr ex, fun b hb q => by
            rcases hb with hb | rfl
            · have := hyl.2 b hb (hz.symm.trans q); omega
            · omega⟩
        · rw [if_neg hlt] at hw
          have ey : a = y := hz.one hw
          exact ⟨Or.inl (ey ▸ hyl.1), fun b hb q => by
            rcases hb with hb | rfl
            · have := hyl.2 b hb (hz.symm.trans q); omega
            · omega⟩
      · exact ⟨Or.inl q1, fun b hb q => by
          rcases hb with hb | rfl
          · exact q2 b hb q
          · exact absurd q q3⟩
    · rintro ⟨q1, q2⟩
      by_cases hax : eqK a x
      · left
        have hay : eqK a y := hax.trans he.symm
        have g1 := q2 x (Or.inr rfl) hax
        have g2 := q2 y (Or.inl hyl.1) hay
        refine (hay.trans hz.symm).one ?_
        rcases q1 with q1 | q1
        · have g3 := hyl.2 a q1 hay.symm
          rw [hw]; split <;> omega
        · rw [q1] at g2 ⊢
          rw [hw]; split <;> omega
      · right
        rcases q1 with q1 | q1
        · exact ⟨⟨q1, fun b hb q => q2 b (Or.inl hb) q⟩, hax⟩
        · exact absurd (q1 ▸ eqK.refl x) hax

/-- what stays of a sorted row -/
theorem kepL_min {s : List ArcD} (hs : s.Pairwise (fun a b => ¬ cmpW b a < 0)) : ∀ k, k ≤ s.length → IsMin (kepL s k) (s.take k) := by
  have le : ∀ i j, i < j → j < s.length → aheadB (s.getD i a0) (s.getD j a0) = true ∨ (eqK (s.getD i a0) (s.getD j a0) ∧ (s.getD i a0).wt ≤ (s.getD j a0).wt) := by
    intro i j hij hj
    have h := (List.pairwise_iff_getElem.1 hs) i j (by omega) hj hij
    have e1 : s.getD i a0 = s[i]'(by omega) := by simp [List.getD, show i < s.length by omega]
    have e2 : s.getD j a0 = s[j] := by simp [List.getD, hj]
    rw [← e1, ← e2, cmpW_neg] at h
    rcases ahead_tri (s.getD i a0) (s.getD j a0) with q | q | q
    · exact Or.inl q
    · exact Or.inr ⟨q, Int.not_lt.1 fun hh => h (Or.inr ⟨q.symm, hh⟩)⟩
    · exact absurd (Or.inl q) h
  intro k
  induction k with
  | zero => intro _; exact ⟨List.Pairwise.nil, fun a => by simp [kepL]⟩
  | succ k ih =>
    intro hk
    have h := ih (by omega)
    obtain ⟨x, hx⟩ : ∃ x, x = s.getD k a0 := ⟨_, rfl⟩
    have htk : s.take (k + 1) = s.take k ++ [x] := by rw [hx, List.take_add_one]; simp [List.getD, show k < s.length by omega]
    have hmem : ∀ b ∈ s.take k, ∃ i, i < k ∧ b = s.getD i a0 := fun b hb => by
      obtain ⟨i, hi, rfl⟩ := List.getElem_of_mem hb
      rw [List.length_take] at hi
      exact ⟨i, by omega, by simp [List.getD, show i < s.length by omega]⟩
    by_cases h0 : k = 0
    · subst h0
      rw [htk]
      have : kepL s 1 = [x] := by rw [hx]; rfl
      rw [this]
      refine ⟨List.pairwise_singleton _ _, fun a => ?_⟩
      simp only [List.take_zero, List.nil_append, List.mem_singleton]
      constructor
      · rintro rfl; exact ⟨rfl, fun b hb _ => by rw [hb]; exact Int.le_refl _⟩
      · exact fun q => q.1
    · by_cases hc : cmpArc (s.getD k a0) (s.getD (k - 1) a0) = 0
      · rw [kepL_skip (by omega) hc, htk]
        rw [cmpArc_zero, ← hx] at hc
        have hyx := le (k - 1) k (by omega) (by omega)
        rw [← hx] at hyx
        obtain ⟨y, hy⟩ : ∃ y, y = s.getD (k - 1) a0 := ⟨_, rfl⟩
        rw [← hy] at hc hyx
        have hyw : y.wt ≤ x.wt := by
          rcases hyx with q | q
          · exact absurd hc.symm (ahead_not q).1
          · exact q.2
        have hym : y ∈ s.take k := by
          rw [hy]
          have : k - 1 < (s.take k).length := by rw [List.length_take]; omega
          have e : s.getD (k - 1) a0 = (s.take k)[k - 1] := by simp [List.getD, show k - 1 < s.length by omega]
          rw [e]
          exact List.getElem_mem _
        refine ⟨h.ord, fun a => ?_⟩
        rw [h.mem a]
        simp only [List.mem_append, List.mem_singleton]
        constructor
        · rintro ⟨q1, q2⟩
          exact ⟨Or.inl q1, fun b hb q => by
            rcases hb with hb | rfl
            · exact q2 b hb q
            · have := q2 y hym (q.trans hc); omega⟩
        · rintro ⟨q1 | q1, q2⟩
          · exact ⟨q1, fun b hb q => q2 b (Or.inl hb) q⟩
          · subst q1
            have g := q2 y (Or.inl hym) hc
            have e : a = y := hc.one (by omega)
            exact ⟨e ▸ hym, fun b hb q => q2 b (Or.inl hb) q⟩
      · rw [kepL_keep hc, htk, ← hx]
        rw [cmpArc_zero] at hc
        have hah : ∀ b ∈ s.take k, aheadB b x = true := fun b hb => by
          obtain ⟨i, hi, rfl⟩ := hmem b hb
          have hyx : aheadB (s.getD (k - 1) a0) x = true := by
            rcases le (k - 1) k (by omega) (by omega) with q | q
            · rw [hx]; exact q
            · exact absurd q.1.symm hc
          by_cases e : i = k - 1
          · rw [e]; exact hyx
          · rcases le i (k - 1) (by omega) (by omega) with q | q
            · exact ahead_trans q hyx
            · exact eq_ahead q.1 hyx
        have := h.insert (x := x) (k := (kepL s k).length) (fun a ha => hah a ((h.mem a).1 (List.mem_of_mem_take ha)).1) (fun a ha => by simp at ha)
        rw [List.take_length, List.drop_length] at this
        exact this

theorem IsMin.perm {r l l' : List ArcD} (h : IsMin r l) (hp : ∀ a, a ∈ l ↔ a ∈ l') : IsMin r l' :=
  ⟨h.ord, fun a => by rw [h.mem a, hp a]; exact and_congr_right fun _ => ⟨fun q b hb => q b ((hp b).2 hb), fun q b hb => q b ((hp b).1 hb)⟩⟩
end Go.Proofs.Yteehgcbjmdideaa
