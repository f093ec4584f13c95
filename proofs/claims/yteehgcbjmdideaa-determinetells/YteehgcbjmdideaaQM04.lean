/- 'ToOf' of the document's answer. -/
import Derived.Test.YteehgcbjmdideaaQM03
namespace Go.Proofs.Yteehgcbjmdideaa
open Go.RowKit
attribute [local go_sem ↓] Go.wp_at_zero Go.wp_at_succ

theorem addr_plain (b off i : Nat) : (⟨b, off, none⟩ : Addr).add i = ⟨b, off + i, none⟩ := by
  by_cases h : i = 0
  · subst h; rfl
  · simp [Addr.add, h]
theorem ints_news {w : World} {b off n : Nat} {xs : List Int} (h : IntsAt w b off n xs) : ∀ j u, (xs.map (Value.int .i64))[j]? = some u → w.cell? ((⟨b, off, none⟩ : Addr).add j) = some u := by
  intro j u hj
  rw [addr_plain]
  by_cases hl : j < xs.length
  · have := h.cell j (by rw [← h.len]; exact hl)
    rw [this]
    simpa [List.getD, hl] using hj
  · simp [hl] at hj
theorem ints_ones (xs : List Int) : ∀ u ∈ xs.map (Value.int .i64), u.oneCell' = true := by
  intro u hu
  obtain ⟨x, _, rfl⟩ := List.mem_map.1 hu
  rfl
theorem lit0 (w : World) (o : Obj) : ((w.alloc o).alloc (.cells #[] 3)).ownsRow (w.heap.size + 1) 3 1 (.slice (some ⟨w.heap.size + 1, 0, none⟩) 0 0) 0 [] := by
  have h := World.ownsRow_lit (base := w.heap.size + 1) (e := 3) (size := 1) (w.alloc o) #[] 0 (by simp) (by decide) rfl
  simpa using h

set_option maxHeartbeats 1000000 in
set_option maxRecDepth 100000 in
theorem toOf_ok (f : FstD) (N s0 : Nat) (fb fo fc : Nat) (aa : Option Addr) (m ac : Nat) (w : World) (hok : OkF f N s0) (hf : IntsAt w fb fo N f.final) (ha : ASlice w (.slice aa m ac) f.arcs) (hal : f.arcs.length = m) :
    Calls Try.prog 40 #[.agg #[.int .i64 (N : Int), .int .i64 (s0 : Int), .slice (some ⟨fb, fo, none⟩) N fc, .slice aa m ac]] w fun e w' =>
      ∃ G cap, e = .returned (.slice (some ⟨G, 0, none⟩) N cap) ∧ NumsAt w' G N (toD f) ∧ w.heap.size ≤ G ∧ Below w.heap.size w w' := by
  have HOK : Hid (OkF f N s0) := hok
  have hn1 := hok.n1
  have hn2 := hok.n2
  have hm : m ≤ 3000 := by have := hok.many; omega
  have HAL : Hid (f.arcs.length = m) := hal
  have HBL : Hid (f.final.length = N) := hok.len
  clear hok
  have hbx := bel_up (bel_self w) (.cells #[.int .i64 (N : Int), .int .i64 (s0 : Int), .slice (some ⟨fb, fo, none⟩) N fc, .slice aa m ac] 25)
  have hcf := cellsF_new w (N : Int) (s0 : Int) (.slice (some ⟨fb, fo, none⟩) N fc) (.slice aa m ac) 25
  obtain ⟨i0, hi, hz0, hz1, hz2⟩ := info_parts Try.info3
  go_enter Try.func40, Try.ntmps40
  have hbx2 := two_up w (.cells #[.int .i64 (N : Int), .int .i64 (s0 : Int), .slice (some ⟨fb, fo, none⟩) N fc, .slice aa m ac] 25) (.cells #[] 3)
  have hnw := ints_news (hf.below hbx2)
  go_wp2_with (at_builtin; refine wpList_append_own _ rfl _ _ 22 rfl (w.heap.size + 1) 3 i0 (.int .i64 0) 1 8 Try.underlying22 hi hz0 hz1 hz2 rfl (by decide) _ 0 [] rfl (lit0 w _) ⟨fb, fo, none⟩ N fc (f.final.map (Value.int .i64)) rfl (by rw [List.length_map, HBL.out, Nat.mul_one]) hnw (ints_ones _) (by unfold maxLen; omega) (by omega) (by simp) ?_; intro v' w1 hown hgrow _; rw [Nat.zero_add, List.nil_append] at hown; obtain ⟨G, cap, rfl⟩ := Go.Joins.ownsRow_form hown (by omega))
  have hb1 : Below w.heap.size w w1 := hbx2.grown hgrow (by simp; omega) (fun g hg => by
    have hg' : some (w.heap.size + 1) = some g := hg
    injection hg' with hg'
    omega)
  have hcf1 : CellsF w1 w.heap.size (N : Int) (s0 : Int) (.slice (some ⟨fb, fo, none⟩) N fc) (.slice aa m ac) := hcf.grown hgrow (fun h => by
    have h' : some w.heap.size = some (w.heap.size + 1) := h
    injection h' with h'
    omega)
  have hFW : FW w w1 N G s0 (.slice (some ⟨fb, fo, none⟩) N fc) (.slice aa m ac) (edT f) f.final f.final := by
    obtain ⟨r1, r2⟩ := NumsAt.of_row hown
    exact ⟨hcf1, r1, r2, hb1, _, Inv.start (E := edT f) HOK.out.bT.1 HOK.out.bT.2⟩
  obtain ⟨fin, hfin⟩ : ∃ fin, fin = Value.slice (some ⟨fb, fo, none⟩) N fc := ⟨_, rfl⟩
  rw [← hfin] at hFW ⊢
  clear hfin hown hcf hcf1 hb1 hgrow hbx hbx2 hnw hi hz0 hz1 hz2 hf hal
  go_loopw [4] (fun i wr => ∃ r : Nat, r ≤ N ∧ i = .int .i64 r ∧ FW w wr N G s0 fin (.slice aa m ac) (edT f) f.final (rounds (edT f).reverse f.final r)) (fun i _ => N - (intOf i).toNat)
  case atStart => exact ⟨0, Nat.zero_le _, rfl, hFW⟩
  case round =>
    clear hFW
    obtain ⟨r, hr, rfl, hFW⟩ := hrel
    by_cases hlt : r < N
    · obtain ⟨q0, q1, q2, q3⟩ := hFW.cf
      have hri : (r : Int) < N := by omega
      go_wp2
      clear q0 q1 q2 q3
      go_loopw [5] (fun i wr => ∃ k : Nat, k ≤ m ∧ i = .int .i64 ((k : Int) - 1) ∧ FW w wr N G s0 fin (.slice aa m ac) (edT f) f.final (relAll ((edT f).reverse.take (m - k)) (rounds (edT f).reverse f.final r))) (fun i _ => (intOf i + 1).toNat)
      case atStart => exact ⟨m, Nat.le_refl _, by go_num, by rw [Nat.sub_self]; exact hFW⟩
      case round =>
        clear hFW
        obtain ⟨k, hk, rfl, hFW⟩ := hrel
        obtain ⟨c, hcd⟩ : ∃ c, c = relAll ((edT f).reverse.take (m - k)) (rounds (edT f).reverse f.final r) := ⟨_, rfl⟩
        rw [← hcd] at hFW
        have HCD : Hid (c = relAll ((edT f).reverse.take (m - k)) (rounds (edT f).reverse f.final r)) := hcd
        clear hcd
        obtain ⟨q0, q1, q2, q3⟩ := hFW.cf
        cases k with
        | succ j =>
          have hlj : j < m := by omega
          rw [show (((j + 1 : Nat) : Int) - 1) = (j : Int) by omega]
          obtain ⟨ab, aoff, rfl, hx⟩ := (ha.below hFW.bel).some (by omega)
          obtain ⟨a, hak⟩ : ∃ a, a = f.arcs.getD j a0 := ⟨_, rfl⟩
          have hjl : j < f.arcs.length := by have := HAL.out; omega
          have hmem : a ∈ f.arcs := by rw [hak]; simp [List.getD, hjl]
          obtain ⟨⟨p1, p2⟩, ⟨p3, p4⟩, p5, p6⟩ := HOK.out.arcs a hmem
          obtain ⟨s, hs⟩ : ∃ s : Nat, a.src = s := ⟨a.src.toNat, by omega⟩
          obtain ⟨t, ht⟩ : ∃ t : Nat, a.dst = t := ⟨a.dst.toNat, by omega⟩
          have hsN : s < N := by omega
          have htN : t < N := by omega
          have HEJ : Hid ((edT f)[j]? = some ⟨t, s, a.wt⟩) := by
            show (edT f)[j]? = some ⟨t, s, a.wt⟩
            have e1 : f.arcs[j]? = some a := by rw [hak]; simp [List.getD, hjl]
            unfold edT
            rw [List.getElem?_map, e1]
            simp [edgOf, hs, ht]
          have HRJ : Hid ((edT f).reverse[m - (j + 1)]? = some ⟨t, s, a.wt⟩) := by
            show (edT f).reverse[m - (j + 1)]? = some ⟨t, s, a.wt⟩
            have hl : (edT f).length = m := by simp [edT, HAL.out]
            rw [List.getElem?_reverse (by rw [hl]; omega), hl, show m - 1 - (m - (j + 1)) = j by omega]
            exact HEJ.out
          have c0 := hx.c0 j hlj
          have c1 := hx.c1 j hlj
          have c2 := hx.c2 j hlj
          have c3 := hx.c3 j hlj
          have c4 := hx.c4 j hlj
          rw [← hak] at c0 c1 c2 c3 c4
          rw [hs] at c0
          rw [ht] at c3
          have hji : (j : Int) < m := by omega
          clear hak hmem hjl hx hs ht p1 p2 p3 p4
          go_wp2
          have sN0 := hsN
          have tN0 := htN
          have hsi : (s : Int) < N := by omega
          have hti : (t : Int) < N := by omega
          have hFd := hFW.below (bel_up (bel_self wr) (.cells #[.int .i64 s, .int .i64 a.inp, .int .i64 a.out, .int .i64 t, .int .i64 a.wt] 63)).drew
          obtain ⟨Wd, hWd⟩ : ∃ Wd, Wd = (wr.alloc (.cells #[.int .i64 s, .int .i64 a.inp, .int .i64 a.out, .int .i64 t, .int .i64 a.wt] 63)).drew := ⟨_, rfl⟩
          have x0 : Wd.cell? ⟨wr.heap.size, 0, none⟩ = some (.int .i64 s) := by rw [hWd]; exact drew_cell (new_cell _ _ _ _ 0 _ rfl rfl)
          have x3 : Wd.cell? ⟨wr.heap.size, 3, none⟩ = some (.int .i64 t) := by rw [hWd]; exact drew_cell (new_cell _ _ _ _ 3 _ rfl rfl)
          have x4 : Wd.cell? ⟨wr.heap.size, 4, none⟩ = some (.int .i64 a.wt) := by rw [hWd]; exact drew_cell (new_cell _ _ _ _ 4 _ rfl rfl)
          rw [← hWd] at hFd
          have y0 := hFd.row.cell t tN0
          have y1 := hFd.row.cell s sN0
          have yz := hFd.row.frz s
          obtain ⟨yy, hinv⟩ := hFd.inv
          have hlo := hinv.lo t
          have hhi := hinv.top (by rw [HBL.out]; exact hn2) t
          have HREL := hinv.rel (by rw [HBL.out]; exact hn2) (List.mem_of_getElem? HEJ.out) (by rw [HBL.out]; exact sN0) p5 p6
          have HSET : Hid (relE c ⟨t, s, a.wt⟩ = c.set s (lessC (gI c s) (plusC (gI c t) a.wt))) := (rfl : relE c ⟨t, s, a.wt⟩ = _)
          clear hinv q0 q1 q2 q3 c0 c1 c2 c3 c4
          have hS0 : (fun wx : World => wx.cell? ⟨wr.heap.size, 0, none⟩ = some (.int .i64 s) ∧ wx.cell? ⟨wr.heap.size, 3, none⟩ = some (.int .i64 t) ∧ wx.cell? ⟨wr.heap.size, 4, none⟩ = some (.int .i64 a.wt) ∧ wx.cell? ⟨G, t, none⟩ = some (.int .i64 (gI c t)) ∧ wx.cell? ⟨G, s, none⟩ = some (.int .i64 (gI c s))) Wd := ⟨x0, x3, x4, y0, y1⟩
          refine wp_region_noPanic ?_
          refine wp_region_U (fun wx => wx.cell? ⟨wr.heap.size, 0, none⟩ = some (.int .i64 s) ∧ wx.cell? ⟨wr.heap.size, 3, none⟩ = some (.int .i64 t) ∧ wx.cell? ⟨wr.heap.size, 4, none⟩ = some (.int .i64 a.wt) ∧ wx.cell? ⟨G, t, none⟩ = some (.int .i64 (gI c t)) ∧ wx.cell? ⟨G, s, none⟩ = some (.int .i64 (gI c s))) 18 (by kernel_rfl) (by rw [← hWd]; exact hS0) (fun _ => ?_)
          rw [← hWd]
          clear hWd
          refine wpAnyU_take (i := 0) (v := .slice (some ⟨G, 0, none⟩) N cap) rfl (by kernel_rfl) (by kernel_rfl) (by kernel_rfl) (by kernel_rfl) (fun _ _ _ h => h) (Or.inl ⟨by rfl, fun wl hSw => ?_⟩) hS0 ?_
          · (try dsimp only at hSw); go_simp
          refine wpAnyU_take (i := 1) (v := .pointer (some ⟨wr.heap.size, 0, none⟩)) rfl (by kernel_rfl) (by kernel_rfl) (by kernel_rfl) (by kernel_rfl) (fun _ _ _ h => h) (Or.inl ⟨by rfl, fun wl hSw => ?_⟩) hS0 ?_
          · (try dsimp only at hSw); go_simp
          refine wpAnyU_take (i := 2) (v := .int .i64 s) rfl (by kernel_rfl) (by kernel_rfl) (by kernel_rfl) (by kernel_rfl) (fun _ _ _ h => h) (Or.inl ⟨by rfl, fun wl hSw => ?_⟩) hS0 ?_
          · (try dsimp only at hSw); go_simp
          refine wpAnyU_take (i := 3) (v := .slice (some ⟨G, 0, none⟩) N cap) rfl (by kernel_rfl) (by kernel_rfl) (by kernel_rfl) (by kernel_rfl) (fun _ _ _ h => h) (Or.inl ⟨by rfl, fun wl hSw => ?_⟩) hS0 ?_
          · (try dsimp only at hSw); go_simp
          refine wpAnyU_take (i := 4) (v := .pointer (some ⟨wr.heap.size, 0, none⟩)) rfl (by kernel_rfl) (by kernel_rfl) (by kernel_rfl) (by kernel_rfl) (fun _ _ _ h => h) (Or.inl ⟨by rfl, fun wl hSw => ?_⟩) hS0 ?_
          · (try dsimp only at hSw); go_simp
          refine wpAnyU_take (i := 5) (v := .int .i64 s) rfl (by kernel_rfl) (by kernel_rfl) (by kernel_rfl) (by kernel_rfl) (fun _ _ _ h => h) (Or.inl ⟨by rfl, fun wl hSw => ?_⟩) hS0 ?_
          · (try dsimp only at hSw); go_simp
          refine wpAnyU_take (i := 6) (v := .pointer (some ⟨G, s, none⟩)) rfl (by kernel_rfl) (by kernel_rfl) (by kernel_rfl) (by kernel_rfl) (fun _ _ _ h => h) (Or.inl ⟨by rfl, fun wl hSw => ?_⟩) hS0 ?_
          · (try dsimp only at hSw); go_simp
          refine wpAnyU_take (i := 7) (v := .int .i64 (gI c s)) rfl (by kernel_rfl) (by kernel_rfl) (by kernel_rfl) (by kernel_rfl) (fun _ _ _ h => h) (Or.inl ⟨by rfl, fun wl hSw => ?_⟩) hS0 ?_
          · (try dsimp only at hSw); go_simp
          refine wpAnyU_take (i := 8) (v := .slice (some ⟨G, 0, none⟩) N cap) rfl (by kernel_rfl) (by kernel_rfl) (by kernel_rfl) (by kernel_rfl) (fun _ _ _ h => h) (Or.inl ⟨by rfl, fun wl hSw => ?_⟩) hS0 ?_
          · (try dsimp only at hSw); go_simp
          refine wpAnyU_take (i := 9) (v := .pointer (some ⟨wr.heap.size, 3, none⟩)) rfl (by kernel_rfl) (by kernel_rfl) (by kernel_rfl) (by kernel_rfl) (fun _ _ _ h => h) (Or.inl ⟨by rfl, fun wl hSw => ?_⟩) hS0 ?_
          · (try dsimp only at hSw); go_simp
          refine wpAnyU_take (i := 10) (v := .int .i64 t) rfl (by kernel_rfl) (by kernel_rfl) (by kernel_rfl) (by kernel_rfl) (fun _ _ _ h => h) (Or.inl ⟨by rfl, fun wl hSw => ?_⟩) hS0 ?_
          · (try dsimp only at hSw); go_simp
          refine wpAnyU_take (i := 11) (v := .pointer (some ⟨G, t, none⟩)) rfl (by kernel_rfl) (by kernel_rfl) (by kernel_rfl) (by kernel_rfl) (fun _ _ _ h => h) (Or.inl ⟨by rfl, fun wl hSw => ?_⟩) hS0 ?_
          · (try dsimp only at hSw); go_simp
          refine wpAnyU_take (i := 12) (v := .int .i64 (gI c t)) rfl (by kernel_rfl) (by kernel_rfl) (by kernel_rfl) (by kernel_rfl) (fun _ _ _ h => h) (Or.inl ⟨by rfl, fun wl hSw => ?_⟩) hS0 ?_
          · (try dsimp only at hSw); go_simp
          refine wpAnyU_take (i := 13) (v := .pointer (some ⟨wr.heap.size, 4, none⟩)) rfl (by kernel_rfl) (by kernel_rfl) (by kernel_rfl) (by kernel_rfl) (fun _ _ _ h => h) (Or.inl ⟨by rfl, fun wl hSw => ?_⟩) hS0 ?_
          · (try dsimp only at hSw); go_simp
          refine wpAnyU_take (i := 14) (v := .int .i64 a.wt) rfl (by kernel_rfl) (by kernel_rfl) (by kernel_rfl) (by kernel_rfl) (fun _ _ _ h => h) (Or.inl ⟨by rfl, fun wl hSw => ?_⟩) hS0 ?_
          · (try dsimp only at hSw); go_simp
          refine wpAnyU_one (i := 15) rfl (by kernel_rfl) (fun K hK => ?_)
          go_simp
          refine (plusRef_any (gI c t) a.wt _ (by omega) (by omega)).mono ?_
          rintro e wq ⟨rfl, rfl⟩
          refine hK.out _ _ ⟨fun _ => hS0, ?_⟩
          clear hK K
          refine wpAnyU_one (i := 16) rfl (by kernel_rfl) (fun K hK => ?_)
          go_simp
          refine (lessRef_any (gI c s) (plusC (gI c t) a.wt) _).mono ?_
          rintro e wq ⟨rfl, rfl⟩
          refine hK.out _ _ ⟨fun _ => hS0, ?_⟩
          clear hK K
          refine wpAnyU_take (i := 17) (v := .pointer (some ⟨G, s, none⟩)) rfl (by kernel_rfl) (by kernel_rfl) (by kernel_rfl) (by kernel_rfl) (fun _ _ _ h => h) (Or.inl ⟨by rfl, fun wl hSw => ?_⟩) hS0 ?_
          · (try dsimp only at hSw); go_simp
          refine wpAnyU_one (i := 18) rfl (by kernel_rfl) (fun K hK => ?_)
          go_simp
          refine hK.out _ _ ⟨fun h => absurd rfl h, ?_⟩
          clear hK K
          refine wpAnyU_done (by kernel_rfl) ?_ _
          refine NoPanic.normal ?_
          go_wp2
          go_roundw
          case rel =>
            refine ⟨j, by omega, by go_num, ?_⟩
            rw [show m - j = m - (j + 1) + 1 by omega, relAll_take _ _ _ _ HRJ.out, ← HCD.out, HSET.out]
            exact hFd.set s _ hsN (by rw [← HSET.out]; exact HREL)
          case measure => simp [intOf]
        | zero =>
          have HFW : Hid (FW w wr N G s0 fin (.slice aa m ac) (edT f) f.final (rounds (edT f).reverse f.final (r + 1))) := by
            show FW w wr N G s0 fin (.slice aa m ac) (edT f) f.final (rounds (edT f).reverse f.final (r + 1))
            have e : rounds (edT f).reverse f.final (r + 1) = c := by
              rw [HCD.out, List.take_of_length_le (by have := HAL.out; simp [edT]; omega)]
              rfl
            rw [e]; exact hFW
          go_wp2
          go_roundw
          case rel => exact ⟨r + 1, by omega, by go_num, HFW.out⟩
          case measure => simp [intOf]; omega
    · obtain ⟨q0, q1, q2, q3⟩ := hFW.cf
      have HFD : Hid (rounds (edT f).reverse f.final r = toD f) := by
        have e : r = N := by omega
        show rounds (edT f).reverse f.final r = toD f
        unfold toD
        rw [HOK.out.st, Int.toNat_natCast, e]
      go_wp2
      go_ret
      exact ⟨G, cap, rfl, by rw [← HFD.out]; exact hFW.row, by have := hFW.ge; omega, hFW.bel⟩

end Go.Proofs.Yteehgcbjmdideaa

/- 'pushedEnds', 'pushedArcs' of package short. -/
namespace Go.Proofs.Yteehgcbjmdideaa
open Go.RowKit
attribute [local go_sem ↓] Go.wp_at_zero Go.wp_at_succ

set_option maxHeartbeats 1000000 in
set_option maxRecDepth 100000 in
theorem pushedEnds_any (xs to : List Int) (N : Nat) (st sta : Int) (fb fo fc gt tc : Nat) (arcs : Value) (w : World) (hf : IntsAt w fb fo N xs) (ht : NumsAt w gt N to) (hN : N ≤ 200) (hN1 : 1 ≤ N)
    (hx : ∀ x ∈ xs, x = -1 ∨ (0 ≤ x ∧ x ≤ 1000000000)) (hto : ∀ v, -1 ≤ gI to v ∧ gI to v ≤ 201000000000) :
    Calls Try.prog 87 #[.agg #[.int .i64 st, .int .i64 sta, .slice (some ⟨fb, fo, none⟩) N fc, arcs], .slice (some ⟨gt, 0, none⟩) N tc] w fun e w' =>
      ∃ v, e = .returned v ∧ w'.ownsRow w.heap.size 3 1 v N ((pushF to xs N).map (Value.int .i64)) ∧ Below w.heap.size w w' := by
  obtain ⟨i0, hi, hz0, hz1, hz2⟩ := info_parts Try.info3
  go_enter Try.func87, Try.ntmps87
  go_wp2
  have hbx := bel_up (bel_self w) (.cells #[.int .i64 st, .int .i64 sta, .slice (some ⟨fb, fo, none⟩) N fc, arcs] 25)
  have HXS : Hid (∀ x ∈ xs, x = -1 ∨ (0 ≤ x ∧ x ≤ 1000000000)) := hx
  have HLN : Hid (xs.length = N) := hf.len
  clear hx
  go_loopw [5, 11] (fun v i wr => ∃ k : Nat, k ≤ N ∧ i = .int .i64 k ∧ wr.ownsRow (w.heap.size + 1) 3 1 v k ((pushF to xs k).map (Value.int .i64)) ∧ Below w.heap.size w wr) (fun _ i _ => N - (intOf i).toNat)
  case atStart => exact ⟨0, Nat.zero_le _, rfl, World.ownsRow_nil _ _ _ _, hbx⟩
  case round =>
    obtain ⟨k, hk, rfl, hown, hb⟩ := hrel
    by_cases hlt : k < N
    · have c0 := (hf.below hb).cell k hlt
      have t0 := (ht.below hb).cell k hlt
      obtain ⟨hl1, hl2⟩ := hto k
      obtain ⟨x, hxk⟩ : ∃ x, x = xs.getD k 0 := ⟨_, rfl⟩
      rw [← hxk] at c0
      have hxm := HXS.out x (by rw [hxk]; have := HLN.out; simp [List.getD, show k < xs.length by omega])
      have HPF : Hid (pushF to xs (k + 1) = pushF to xs k ++ [pf (gI to k) x]) := (by rw [pushF_succ, ← hxk] : pushF to xs (k + 1) = pushF to xs k ++ [pf (gI to k) x])
      clear hxk
      have hki : (k : Int) < N := by omega
      have hsz := hb.size
      by_cases he : x = -1
      · subst he
        go_wp2_with (at_builtin; refine wpList_append_own _ rfl _ _ 22 rfl (w.heap.size + 1) 3 i0 (.int .i64 0) 1 8 Try.underlying22 hi hz0 hz1 hz2 rfl (by decide) _ _ _ rfl (hown.alloc _) ⟨wr.heap.size, 0, none⟩ 1 1 [.int .i64 (-1)] rfl rfl (cells_new _ #[.int .i64 (-1)] 3 wr.heap.size rfl) (ints_ones [-1]) (by unfold maxLen; omega) (by omega) (by simp; omega) ?_; intro v' w1 hown' hgrow _)
        have hb1 : Below w.heap.size w w1 := (bel_up hb _).grown hgrow (by simp; omega) (fun g hg => by have := own_base hown g hg; omega)
        go_roundw
        case rel => exact ⟨k + 1, by omega, by go_num, by rw [HPF.out]; simpa [pf] using hown', hb1⟩
        case measure => simp [intOf]; omega
      · have heb : (x == -1) = false := by simpa using he
        have hen : (x != -1) = true := by simpa using he
        go_wp2_with (at_builtin; refine wpList_append_own _ rfl _ _ 22 rfl (w.heap.size + 1) 3 i0 (.int .i64 0) 1 8 Try.underlying22 hi hz0 hz1 hz2 rfl (by decide) _ _ _ rfl (hown.alloc _) ⟨wr.heap.size, 0, none⟩ 1 1 [.int .i64 (x - gI to k)] rfl rfl (cells_new _ #[.int .i64 (x - gI to k)] 3 wr.heap.size rfl) (ints_ones [x - gI to k]) (by unfold maxLen; omega) (by omega) (by simp; omega) ?_; intro v' w1 hown' hgrow _)
        have hb1 : Below w.heap.size w w1 := (bel_up hb _).grown hgrow (by simp; omega) (fun g hg => by have := own_base hown g hg; omega)
        go_roundw
        case rel => exact ⟨k + 1, by omega, by go_num, by rw [HPF.out]; simpa [pf, he] using hown', hb1⟩
        case measure => simp [intOf]; omega
    · have hkn : k = N := by omega
      subst hkn
      go_wp2
      go_ret
      exact ⟨_, rfl, own_mono hown (Nat.le_succ _), hb⟩

set_option maxHeartbeats 1000000 in
set_option maxRecDepth 100000 in
theorem pushedArcs_any (ars : List ArcD) (to : List Int) (N : Nat) (st sta : Int) (fin : Value) (aa : Option Addr) (m ac gt tc : Nat) (w : World) (ha : ASlice w (.slice aa m ac) ars) (hal : ars.length = m) (hm : m ≤ 3000) (ht : NumsAt w gt N to)
    (hok : ∀ a ∈ ars, (0 ≤ a.src ∧ a.src < N) ∧ (0 ≤ a.dst ∧ a.dst < N) ∧ (0 ≤ a.wt ∧ a.wt ≤ 1000000000)) (hto : ∀ v, -1 ≤ gI to v ∧ gI to v ≤ 201000000000) :
    Calls Try.prog 88 #[.agg #[.int .i64 st, .int .i64 sta, fin, .slice aa m ac], .slice (some ⟨gt, 0, none⟩) N tc] w fun e w' =>
      ∃ v, e = .returned v ∧ w'.ownsRow w.heap.size 63 5 v (pushA to ars).length (arcsV (pushA to ars)) ∧ Below w.heap.size w w' := by
  obtain ⟨i0, hi, hz0, hz1, hz2⟩ := info_parts Try.info63
  go_enter Try.func88, Try.ntmps88
  go_wp2
  have hbx := bel_up (bel_self w) (.cells #[.int .i64 st, .int .i64 sta, fin, .slice aa m ac] 25)
  have HOK : Hid (∀ a ∈ ars, (0 ≤ a.src ∧ a.src < N) ∧ (0 ≤ a.dst ∧ a.dst < N) ∧ (0 ≤ a.wt ∧ a.wt ≤ 1000000000)) := hok
  have HAL : Hid (ars.length = m) := hal
  clear hok hal
  go_loopw [5, 11] (fun v i wr => ∃ k : Nat, k ≤ m ∧ i = .int .i64 k ∧ wr.ownsRow (w.heap.size + 1) 63 5 v (pushA to (ars.take k)).length (arcsV (pushA to (ars.take k))) ∧ Below w.heap.size w wr) (fun _ i _ => m - (intOf i).toNat)
  case atStart => exact ⟨0, Nat.zero_le _, rfl, World.ownsRow_nil _ _ _ _, hbx⟩
  case round =>
    obtain ⟨k, hk, rfl, hown, hb⟩ := hrel
    by_cases hlt : k < m
    · obtain ⟨ab, aoff, rfl, hx⟩ := (ha.below hb).some (by omega)
      obtain ⟨a, hak⟩ : ∃ a, a = ars.getD k a0 := ⟨_, rfl⟩
      have hkl : k < ars.length := by have := HAL.out; omega
      have hmem : a ∈ ars := by rw [hak]; simp [List.getD, hkl]
      obtain ⟨⟨p1, p2⟩, ⟨p3, p4⟩, p5, p6⟩ := HOK.out a hmem
      obtain ⟨s, hs⟩ : ∃ s : Nat, a.src = s := ⟨a.src.toNat, by omega⟩
      obtain ⟨t, ht'⟩ : ∃ t : Nat, a.dst = t := ⟨a.dst.toNat, by omega⟩
      have hsN : s < N := by omega
      have htN : t < N := by omega
      have c0 := hx.c0 k hlt
      have c1 := hx.c1 k hlt
      have c2 := hx.c2 k hlt
      have c3 := hx.c3 k hlt
      have c4 := hx.c4 k hlt
      rw [← hak] at c0 c1 c2 c3 c4
      rw [hs] at c0
      rw [ht'] at c3
      have HPA : Hid (pushA to (ars.take (k + 1)) = pushA to (ars.take k) ++ if ((gI to s != -1) && (gI to t != -1)) = true then [⟨s, a.inp, a.out, t, a.wt + (gI to t - gI to s)⟩] else []) := by
        show pushA to (ars.take (k + 1)) = pushA to (ars.take k) ++ if ((gI to s != -1) && (gI to t != -1)) = true then [⟨s, a.inp, a.out, t, a.wt + (gI to t - gI to s)⟩] else []
        have h := pushA_take to ars k a hkl hak
        unfold stayA pushArc at h
        rw [hs, ht', Int.toNat_natCast, Int.toNat_natCast] at h
        exact h
      clear hak hmem hkl hx hs ht' p1 p2 p3 p4
      have hlen : (pushA to (ars.take k)).length ≤ 3000 := by
        have h1 := pushA_len to (ars.take k)
        rw [List.length_take] at h1
        omega
      have t0 := old_cell (o := .cells #[.int .i64 s, .int .i64 a.inp, .int .i64 a.out, .int .i64 t, .int .i64 a.wt] 63) ((ht.below hb).cell s hsN)
      have t1 := old_cell (o := .cells #[.int .i64 s, .int .i64 a.inp, .int .i64 a.out, .int .i64 t, .int .i64 a.wt] 63) ((ht.below hb).cell t htN)
      obtain ⟨hl1, hl2⟩ := hto s
      obtain ⟨hl3, hl4⟩ := hto t
      have hki : (k : Int) < m := by omega
      have hsi : (s : Int) < N := by omega
      have hti : (t : Int) < N := by omega
      have hsz := hb.size
      by_cases he : gI to s = -1
      · have heb : (gI to s == -1) = true := by simpa using he
        have HK : Hid (((gI to s != -1) && (gI to t != -1)) = false) := (by simp [he] : ((gI to s != -1) && (gI to t != -1)) = false)
        go_wp2
        go_roundw
        case rel =>
          refine ⟨k + 1, by omega, by go_num, ?_, bel_up hb _⟩
          rw [HPA.out, HK.out]
          simp only [Bool.false_eq_true, if_false, List.append_nil]
          exact ownsRow_bel hown (bel_up (bel_self _) _)
        case measure => simp [intOf]; omega
      · have heb : (gI to s == -1) = false := by simpa using he
        by_cases he2 : gI to t = -1
        · have heb2 : (gI to t == -1) = true := by simpa using he2
          have HK : Hid (((gI to s != -1) && (gI to t != -1)) = false) := (by simp [he2] : ((gI to s != -1) && (gI to t != -1)) = false)
          go_wp2
          go_roundw
          case rel =>
            refine ⟨k + 1, by omega, by go_num, ?_, bel_up hb _⟩
            rw [HPA.out, HK.out]
            simp only [Bool.false_eq_true, if_false, List.append_nil]
            exact ownsRow_bel hown (bel_up (bel_self _) _)
          case measure => simp [intOf]; omega
        · have heb2 : (gI to t == -1) = false := by simpa using he2
          have HK : Hid (((gI to s != -1) && (gI to t != -1)) = true) := (by simp [he, he2] : ((gI to s != -1) && (gI to t != -1)) = true)
          · go_wp2
            obtain ⟨Wd, hWd⟩ : ∃ Wd, Wd = (wr.alloc (.cells #[.int .i64 s, .int .i64 a.inp, .int .i64 a.out, .int .i64 t, .int .i64 a.wt] 63)).drew := ⟨_, rfl⟩
            have x0 : Wd.cell? ⟨wr.heap.size, 0, none⟩ = some (.int .i64 s) := by rw [hWd]; exact drew_cell (new_cell _ _ _ _ 0 _ rfl rfl)
            have x1 : Wd.cell? ⟨wr.heap.size, 1, none⟩ = some (.int .i64 a.inp) := by rw [hWd]; exact drew_cell (new_cell _ _ _ _ 1 _ rfl rfl)
            have x2 : Wd.cell? ⟨wr.heap.size, 2, none⟩ = some (.int .i64 a.out) := by rw [hWd]; exact drew_cell (new_cell _ _ _ _ 2 _ rfl rfl)
            have x3 : Wd.cell? ⟨wr.heap.size, 3, none⟩ = some (.int .i64 t) := by rw [hWd]; exact drew_cell (new_cell _ _ _ _ 3 _ rfl rfl)
            have x4 : Wd.cell? ⟨wr.heap.size, 4, none⟩ = some (.int .i64 a.wt) := by rw [hWd]; exact drew_cell (new_cell _ _ _ _ 4 _ rfl rfl)
            have xz : Wd.frozen? ⟨wr.heap.size, 4, none⟩ = false := by rw [hWd]; exact ((bel_self _).drew.frozen (p := ⟨wr.heap.size, 4, none⟩) (by simp)).trans (new_frozen _ _ _ _ _ rfl)
            have htd : NumsAt Wd gt N to := by rw [hWd]; exact ((ht.below hb).below (bel_up (bel_self wr) _)).below (bel_self _).drew
            have hod : Wd.ownsRow (w.heap.size + 1) 63 5 u5 (pushA to (ars.take k)).length (arcsV (pushA to (ars.take k))) := by rw [hWd]; exact ownsRow_bel hown (bel_up (bel_self wr) _).drew
            have hbd : Below w.heap.size w Wd := by rw [hWd]; exact (bel_up hb _).drew
            have hsd : wr.heap.size + 1 = Wd.heap.size := by rw [hWd]; exact (one_size wr _).symm
            have y0 := htd.cell s hsN
            have y1 := htd.cell t htN
            have hS0 : (fun wx : World => wx.cell? ⟨wr.heap.size, 0, none⟩ = some (.int .i64 s) ∧ wx.cell? ⟨wr.heap.size, 3, none⟩ = some (.int .i64 t) ∧ wx.cell? ⟨wr.heap.size, 4, none⟩ = some (.int .i64 a.wt) ∧ wx.cell? ⟨gt, s, none⟩ = some (.int .i64 (gI to s)) ∧ wx.cell? ⟨gt, t, none⟩ = some (.int .i64 (gI to t))) Wd := ⟨x0, x3, x4, y0, y1⟩
            clear c0 c1 c2 c3 c4 t0 t1
            refine wp_region_noPanic ?_
            refine wp_region_U (fun wx => wx.cell? ⟨wr.heap.size, 0, none⟩ = some (.int .i64 s) ∧ wx.cell? ⟨wr.heap.size, 3, none⟩ = some (.int .i64 t) ∧ wx.cell? ⟨wr.heap.size, 4, none⟩ = some (.int .i64 a.wt) ∧ wx.cell? ⟨gt, s, none⟩ = some (.int .i64 (gI to s)) ∧ wx.cell? ⟨gt, t, none⟩ = some (.int .i64 (gI to t))) 15 (by kernel_rfl) (by rw [← hWd]; exact hS0) (fun _ => ?_)
            rw [← hWd]
            clear hWd
            refine wpAnyU_take (i := 0) (v := .pointer (some ⟨wr.heap.size, 4, none⟩)) rfl (by kernel_rfl) (by kernel_rfl) (by kernel_rfl) (by kernel_rfl) (fun _ _ _ h => h) (Or.inl ⟨by rfl, fun wl hSw => ?_⟩) hS0 ?_
            · (try dsimp only at hSw); go_simp
            refine wpAnyU_take (i := 1) (v := .int .i64 a.wt) rfl (by kernel_rfl) (by kernel_rfl) (by kernel_rfl) (by kernel_rfl) (fun _ _ _ h => h) (Or.inl ⟨by rfl, fun wl hSw => ?_⟩) hS0 ?_
            · (try dsimp only at hSw); go_simp
            refine wpAnyU_take (i := 2) (v := .slice (some ⟨gt, 0, none⟩) N tc) rfl (by kernel_rfl) (by kernel_rfl) (by kernel_rfl) (by kernel_rfl) (fun _ _ _ h => h) (Or.inl ⟨by rfl, fun wl hSw => ?_⟩) hS0 ?_
            · (try dsimp only at hSw); go_simp
            refine wpAnyU_take (i := 3) (v := .pointer (some ⟨wr.heap.size, 3, none⟩)) rfl (by kernel_rfl) (by kernel_rfl) (by kernel_rfl) (by kernel_rfl) (fun _ _ _ h => h) (Or.inl ⟨by rfl, fun wl hSw => ?_⟩) hS0 ?_
            · (try dsimp only at hSw); go_simp
            refine wpAnyU_take (i := 4) (v := .int .i64 t) rfl (by kernel_rfl) (by kernel_rfl) (by kernel_rfl) (by kernel_rfl) (fun _ _ _ h => h) (Or.inl ⟨by rfl, fun wl hSw => ?_⟩) hS0 ?_
            · (try dsimp only at hSw); go_simp
            refine wpAnyU_take (i := 5) (v := .pointer (some ⟨gt, t, none⟩)) rfl (by kernel_rfl) (by kernel_rfl) (by kernel_rfl) (by kernel_rfl) (fun _ _ _ h => h) (Or.inl ⟨by rfl, fun wl hSw => ?_⟩) hS0 ?_
            · (try dsimp only at hSw); go_simp
            refine wpAnyU_take (i := 6) (v := .int .i64 (gI to t)) rfl (by kernel_rfl) (by kernel_rfl) (by kernel_rfl) (by kernel_rfl) (fun _ _ _ h => h) (Or.inl ⟨by rfl, fun wl hSw => ?_⟩) hS0 ?_
            · (try dsimp only at hSw); go_simp
            refine wpAnyU_take (i := 7) (v := .slice (some ⟨gt, 0, none⟩) N tc) rfl (by kernel_rfl) (by kernel_rfl) (by kernel_rfl) (by kernel_rfl) (fun _ _ _ h => h) (Or.inl ⟨by rfl, fun wl hSw => ?_⟩) hS0 ?_
            · (try dsimp only at hSw); go_simp
            refine wpAnyU_take (i := 8) (v := .pointer (some ⟨wr.heap.size, 0, none⟩)) rfl (by kernel_rfl) (by kernel_rfl) (by kernel_rfl) (by kernel_rfl) (fun _ _ _ h => h) (Or.inl ⟨by rfl, fun wl hSw => ?_⟩) hS0 ?_
            · (try dsimp only at hSw); go_simp
            refine wpAnyU_take (i := 9) (v := .int .i64 s) rfl (by kernel_rfl) (by kernel_rfl) (by kernel_rfl) (by kernel_rfl) (fun _ _ _ h => h) (Or.inl ⟨by rfl, fun wl hSw => ?_⟩) hS0 ?_
            · (try dsimp only at hSw); go_simp
            refine wpAnyU_take (i := 10) (v := .pointer (some ⟨gt, s, none⟩)) rfl (by kernel_rfl) (by kernel_rfl) (by kernel_rfl) (by kernel_rfl) (fun _ _ _ h => h) (Or.inl ⟨by rfl, fun wl hSw => ?_⟩) hS0 ?_
            · (try dsimp only at hSw); go_simp
            refine wpAnyU_take (i := 11) (v := .int .i64 (gI to s)) rfl (by kernel_rfl) (by kernel_rfl) (by kernel_rfl) (by kernel_rfl) (fun _ _ _ h => h) (Or.inl ⟨by rfl, fun wl hSw => ?_⟩) hS0 ?_
            · (try dsimp only at hSw); go_simp
            refine wpAnyU_take (i := 12) (v := .int .i64 (gI to t - gI to s)) rfl (by kernel_rfl) (by kernel_rfl) (by kernel_rfl) (by kernel_rfl) (fun _ _ _ h => h) (Or.inl ⟨by rfl, fun wl hSw => ?_⟩) hS0 ?_
            · (try dsimp only at hSw); go_simp; exact wrap_in _ (by omega) (by omega)
            refine wpAnyU_take (i := 13) (v := .int .i64 (a.wt + (gI to t - gI to s))) rfl (by kernel_rfl) (by kernel_rfl) (by kernel_rfl) (by kernel_rfl) (fun _ _ _ h => h) (Or.inl ⟨by rfl, fun wl hSw => ?_⟩) hS0 ?_
            · (try dsimp only at hSw); go_simp; exact wrap_in _ (by omega) (by omega)
            refine wpAnyU_take (i := 14) (v := .pointer (some ⟨wr.heap.size, 4, none⟩)) rfl (by kernel_rfl) (by kernel_rfl) (by kernel_rfl) (by kernel_rfl) (fun _ _ _ h => h) (Or.inl ⟨by rfl, fun wl hSw => ?_⟩) hS0 ?_
            · (try dsimp only at hSw); go_simp
            refine wpAnyU_one (i := 15) rfl (by kernel_rfl) (fun K hK => ?_)
            go_simp
            refine hK.out _ _ ⟨fun h => absurd rfl h, ?_⟩
            clear hK K
            refine wpAnyU_done (by kernel_rfl) ?_ _
            refine NoPanic.normal ?_
            have z0 : (Wd.setCell ⟨wr.heap.size, 4, none⟩ (.int .i64 (a.wt + (gI to t - gI to s)))).cell? ⟨wr.heap.size, 0, none⟩ = some (.int .i64 s) := set_off x0 (by decide)
            have z1 : (Wd.setCell ⟨wr.heap.size, 4, none⟩ (.int .i64 (a.wt + (gI to t - gI to s)))).cell? ⟨wr.heap.size, 1, none⟩ = some (.int .i64 a.inp) := set_off x1 (by decide)
            have z2 : (Wd.setCell ⟨wr.heap.size, 4, none⟩ (.int .i64 (a.wt + (gI to t - gI to s)))).cell? ⟨wr.heap.size, 2, none⟩ = some (.int .i64 a.out) := set_off x2 (by decide)
            have z3 : (Wd.setCell ⟨wr.heap.size, 4, none⟩ (.int .i64 (a.wt + (gI to t - gI to s)))).cell? ⟨wr.heap.size, 3, none⟩ = some (.int .i64 t) := set_off x3 (by decide)
            have z4 : (Wd.setCell ⟨wr.heap.size, 4, none⟩ (.int .i64 (a.wt + (gI to t - gI to s)))).cell? ⟨wr.heap.size, 4, none⟩ = some (.int .i64 (a.wt + (gI to t - gI to s))) := World.cell?_setCell_same _ _ _ x4
            have hoe := ownsRow_setCell_far hod (k := wr.heap.size) (i := 4) (u := .int .i64 (a.wt + (gI to t - gI to s))) (fun h => by have := ownsRow_lt0 hown _ h; omega)
            have hbe : Below w.heap.size w (Wd.setCell ⟨wr.heap.size, 4, none⟩ (.int .i64 (a.wt + (gI to t - gI to s)))) := hbd.setCell (p := ⟨wr.heap.size, 4, none⟩) hsz _
            have hse : wr.heap.size + 1 = (Wd.setCell ⟨wr.heap.size, 4, none⟩ (.int .i64 (a.wt + (gI to t - gI to s)))).heap.size := by rw [hsd]; simp [World.setCell]
            generalize Wd.setCell ⟨wr.heap.size, 4, none⟩ (.int .i64 (a.wt + (gI to t - gI to s))) = We at *
            clear x0 x1 x2 x3 x4 xz htd hod hbd hsd y0 y1 hS0
            go_wp2_with (at_builtin; refine wpList_append_own _ rfl _ _ 23 rfl (w.heap.size + 1) 63 i0 (.agg #[.int .i64 0, .int .i64 0, .int .i64 0, .int .i64 0, .int .i64 0]) 5 40 Try.underlying23 hi hz0 hz1 hz2 rfl (by decide) _ _ _ rfl (hoe.alloc _) ⟨We.heap.size, 0, none⟩ 1 1 (arcCells ⟨s, a.inp, a.out, t, a.wt + (gI to t - gI to s)⟩) rfl rfl (cells_new _ #[.int .i64 s, .int .i64 a.inp, .int .i64 a.out, .int .i64 t, .int .i64 (a.wt + (gI to t - gI to s))] 63 We.heap.size rfl) (oneCell_arc _) (by unfold maxLen; omega) (by omega) (by simp; omega) ?_; intro v' w1 hown' hgrow _)
            have hb1 : Below w.heap.size w w1 := (bel_up hbe _).grown hgrow (by simp; omega) (fun g hg => by have := own_base hoe g hg; omega)
            go_roundw
            case rel =>
              refine ⟨k + 1, by omega, by go_num, ?_, hb1⟩
              rw [HPA.out, HK.out, if_pos rfl, arcsV_snoc, List.length_append, List.length_singleton]
              exact hown'
            case measure => simp [intOf]; omega
    · have HTT : Hid (ars.take k = ars) := List.take_of_length_le (by have := HAL.out; omega)
      rw [HTT.out] at hown
      go_wp2
      go_ret
      exact ⟨_, rfl, own_mono hown (Nat.le_succ _), hb⟩

end Go.Proofs.Yteehgcbjmdideaa
