/- 'end', 'meet', 'lead' and 'begin' of package compose. (Made by wip/gen/cpb.py.) -/
import Derived.Test.YteehgcbjmdideaaQM27
import Derived.Test.YteehgcbjmdideaaQM11
namespace Go.Proofs.Yteehgcbjmdideaa
open Go.RowKit Go.ChangeMaps
attribute [local go_sem ↓] Go.wp_at_zero Go.wp_at_succ

theorem infoPair : (Try.prog.info? 120).map (fun i => (i.zero, i.size, i.bytes)) = some (some (.agg #[.int .i64 0, .int .i64 0]), 2, 16) := by kernel_rfl

theorem IntsAt.blk {w w' : World} {b off n : Nat} {xs : List Int} (h : IntsAt w b off n xs) (hb : w'.heap[b]? = w.heap[b]?) : IntsAt w' b off n xs :=
  ⟨h.len, fun i hi => (World.cell?_of_block (w := w) (a := ⟨b, off + i, none⟩) hb).trans (h.cell i hi)⟩

set_option maxHeartbeats 1000000 in
set_option maxRecDepth 100000 in
theorem bend_any (K : TwoF) (P Mb : Nat) (st sta : Int) (fv av pv : Value) (fb fo N fc gb go M gc : Nat) (x : Int × Int) (w : World)
    (hbox : w.heap[P]? = some (.cells (bothV K st sta fv av Mb pv) 93 (0, 0))) (hfi : K.fi = .slice (some ⟨fb, fo, none⟩) N fc) (hfj : K.fj = .slice (some ⟨gb, go, none⟩) M gc) (hf : IntsAt w fb fo N K.f.final) (hg : IntsAt w gb go M K.g.final) (kf : Fine K.f) (kg : Fine K.g) (hx : InP K.f K.g x) :
    Calls Try.prog 141 #[.pointer (some ⟨P, 0, none⟩), .agg #[.int .i64 x.1, .int .i64 x.2]] w fun e w' => e = .returned (.int .i64 (endC K.f K.g x)) ∧ Below w.heap.size w w' := by
  obtain ⟨⟨x1, x2⟩, x3, x4⟩ := hx
  have hNs : K.f.states = N := by rw [← kf.len, hf.len]
  have hMs : K.g.states = M := by rw [← kg.len, hg.len]
  obtain ⟨p, hp⟩ : ∃ p : Nat, x.1 = (p : Int) := ⟨x.1.toNat, (Int.toNat_of_nonneg x1).symm⟩
  obtain ⟨q, hq⟩ : ∃ q : Nat, x.2 = (q : Int) := ⟨x.2.toNat, (Int.toNat_of_nonneg x3).symm⟩
  have hpN : p < N := by omega
  have hqM : q < M := by omega
  have hend : endC K.f K.g x = plusC (gI K.f.final p) (gI K.g.final q) := by unfold endC; rw [hp, hq, Int.toNat_natCast, Int.toNat_natCast]
  have hfl := hf.len
  have hgl := hg.len
  have ep : K.f.final.getD p 0 = gI K.f.final p := by unfold gI; rw [List.getD_eq_getElem?_getD, List.getD_eq_getElem?_getD, List.getElem?_eq_getElem (by omega)]; rfl
  have eq : K.g.final.getD q 0 = gI K.g.final q := by unfold gI; rw [List.getD_eq_getElem?_getD, List.getD_eq_getElem?_getD, List.getElem?_eq_getElem (by omega)]; rfl
  have cp := hf.cell p hpN
  have cq := hg.cell q hqM
  rw [ep] at cp
  rw [eq] at cq
  have rp : gI K.f.final p = -1 ∨ (0 ≤ gI K.f.final p ∧ gI K.f.final p ≤ 1000000000) := by
    by_cases h : gI K.f.final p = -1
    · exact Or.inl h
    · exact Or.inr (kf.end_pos h)
  have rq : gI K.g.final q = -1 ∨ (0 ≤ gI K.g.final q ∧ gI K.g.final q ≤ 1000000000) := by
    by_cases h : gI K.g.final q = -1
    · exact Or.inl h
    · exact Or.inr (kg.end_pos h)
  have c6 := box_cell (k := 6) (v := K.fi) hbox rfl
  have c10 := box_cell (k := 10) (v := K.fj) hbox rfl
  rw [hfi] at c6
  rw [hfj] at c10
  rw [hend, hp, hq]
  generalize gI K.f.final p = u at *
  generalize gI K.g.final q = v at *
  have hPl := heap_lt hbox
  have hbA := bel_up (bel_self w) (.cells #[.int .i64 (p : Int), .int .i64 (q : Int)] 120)
  have c6' := bel_c hbA c6
  have c10' := bel_c hbA c10
  have cp' := bel_c hbA cp
  have cq' := bel_c hbA cq
  have hpi : (p : Int) < N := by omega
  have hqi : (q : Int) < M := by omega
  clear hf hg hbox hend ep eq c6 c10 cp cq hp hq hfi hfj hNs hMs hfl hgl x1 x2 x3 x4 kf kg hbA
  go_enter Try.func141, Try.ntmps141
  go_wp2
  go_quiet (fail)
  rcases rp with rfl | ⟨u1, u2⟩
  · go_wp2
    go_ret
    exact ⟨ret_int (by unfold plusC; rw [if_pos (by omega)]), bel_drewN (bel_up (bel_self w) _) _⟩
  · have hu : (u == -1) = false := by simpa using (by omega : ¬ u = -1)
    rcases rq with rfl | ⟨v1, v2⟩
    · go_wp2
      go_ret
      exact ⟨ret_int (by unfold plusC; rw [if_pos (by omega)]), bel_drewN (bel_up (bel_self w) _) _⟩
    · have hv : (v == -1) = false := by simpa using (by omega : ¬ v = -1)
      have hw : IntKind.i64.wrap (u + v) = u + v := wrap_in _ (by omega) (by omega)
      go_wp2
      go_ret
      exact ⟨ret_int (by unfold plusC; rw [if_neg (by omega)]), bel_drewN (bel_up (bel_self w) _) _⟩

set_option maxHeartbeats 1000000 in
set_option maxRecDepth 100000 in
theorem bmeet_old (K : TwoF) (P B Mb : Nat) (st sta : Int) (fv av pv : Value) (xs : List Int) (ars : List ArcD) (ps ms : List (Int × Int)) (x : Int × Int) (w : World) (h : BV w P B Mb K st sta fv av pv xs ars ps ms) (hx : x ∈ ms) :
    Calls Try.prog 105 #[.pointer (some ⟨P, 0, none⟩), .agg #[.int .i64 x.1, .int .i64 x.2]] w fun e w' => e = .returned (.int .i64 (ms.idxOf x : Nat)) ∧ Below w.heap.size w w' := by
  have hbA := bel_up (bel_self w) (.cells #[.int .i64 x.1, .int .i64 x.2] 120)
  obtain ⟨Wd, hWd⟩ : ∃ Wd, Wd = (w.alloc (.cells #[.int .i64 x.1, .int .i64 x.2] 120)).drew := ⟨_, rfl⟩
  have hbd : Below w.heap.size w Wd := by rw [hWd]; exact hbA.drew
  have hbp : Wd.heap[w.heap.size]? = some (.cells #[.int .i64 x.1, .int .i64 x.2] 120 (0, 0)) := by rw [hWd]; exact heap_bel (bel_self _).drew (heap_alloc_new w _)
  have b0 := box_cell (k := 0) hbp rfl
  have b1 := box_cell (k := 1) hbp rfl
  have hd := h.below hbd
  have hmp := hd.mp
  have c12 := box_cell (k := 12) (v := .map (some Mb)) hd.box rfl
  have HWD : Hid (Wd = (w.alloc (.cells #[.int .i64 x.1, .int .i64 x.2] 120)).drew) := hWd
  have HX : Hid (x ∈ ms) := hx
  obtain ⟨n, hn⟩ : ∃ n : Nat, n = ms.idxOf x := ⟨_, rfl⟩
  have HN : Hid (n = ms.idxOf x) := hn
  rw [← hn]
  have hlk : ∀ {W : World}, PrAt W Mb ms → Hid (x ∈ ms) → (Instr.lookup 90 (.map (some Mb)) (.agg #[.int .i64 x.1, .int .i64 x.2]) true).run Try.prog W = .ok (.tuple #[.int .i64 (n : Int), .bool true]) W := fun hm hx => by rw [HN.out]; exact plook_yes hm hx.out
  have HLK : Hid (∀ {W : World}, PrAt W Mb ms → Hid (x ∈ ms) → (Instr.lookup 90 (.map (some Mb)) (.agg #[.int .i64 x.1, .int .i64 x.2]) true).run Try.prog W = .ok (.tuple #[.int .i64 (n : Int), .bool true]) W) := hlk
  clear h hd hbA hx hn hWd hlk hbp
  go_enter Try.func105, Try.ntmps105
  go_wp2
  have hS0 : (fun wx : World => wx.cell? ⟨P, 12, none⟩ = some (.map (some Mb)) ∧ wx.cell? ⟨w.heap.size, 0, none⟩ = some (.int .i64 x.1) ∧ wx.cell? ⟨w.heap.size, 1, none⟩ = some (.int .i64 x.2) ∧ PrAt wx Mb ms) Wd := ⟨c12, b0, b1, hmp⟩
  refine wp_region_noPanic ?_
  refine wp_region_U (fun wx : World => wx.cell? ⟨P, 12, none⟩ = some (.map (some Mb)) ∧ wx.cell? ⟨w.heap.size, 0, none⟩ = some (.int .i64 x.1) ∧ wx.cell? ⟨w.heap.size, 1, none⟩ = some (.int .i64 x.2) ∧ PrAt wx Mb ms) 10 (by kernel_rfl) (by rw [← HWD.out]; exact hS0) (fun _ => ?_)
  rw [← HWD.out]
  clear HWD
  refine wpAnyU_take (i := 0) (v := .pointer (some ⟨P, 0, none⟩)) rfl (by kernel_rfl) (by kernel_rfl) (by kernel_rfl) (by kernel_rfl) (fun _ _ _ h => h) (Or.inl ⟨by rfl, fun wl hSw => ?_⟩) hS0 ?_
  · (try dsimp only at hSw); go_simp
  refine wpAnyU_take (i := 1) (v := .pointer (some ⟨P, 0, none⟩)) rfl (by kernel_rfl) (by kernel_rfl) (by kernel_rfl) (by kernel_rfl) (fun _ _ _ h => h) (Or.inl ⟨by rfl, fun wl hSw => ?_⟩) hS0 ?_
  · (try dsimp only at hSw); go_simp
  refine wpAnyU_take (i := 2) (v := .pointer (some ⟨P, 12, none⟩)) rfl (by kernel_rfl) (by kernel_rfl) (by kernel_rfl) (by kernel_rfl) (fun _ _ _ h => h) (Or.inl ⟨by rfl, fun wl hSw => ?_⟩) hS0 ?_
  · (try dsimp only at hSw); go_simp
  refine wpAnyU_take (i := 3) (v := .map (some Mb)) rfl (by kernel_rfl) (by kernel_rfl) (by kernel_rfl) (by kernel_rfl) (fun _ _ _ h => h) (Or.inl ⟨by rfl, fun wl hSw => ?_⟩) hS0 ?_
  · (try dsimp only at hSw); go_simp
  refine wpAnyU_take (i := 4) (v := .agg #[.int .i64 x.1, .int .i64 x.2]) rfl (by kernel_rfl) (by kernel_rfl) (by kernel_rfl) (by kernel_rfl) (fun _ _ _ h => h) (Or.inl ⟨by rfl, fun wl hSw => ?_⟩) hS0 ?_
  · (try dsimp only at hSw); go_simp
  refine wpAnyU_take (i := 5) (v := .tuple #[.int .i64 (n : Int), .bool true]) rfl (by kernel_rfl) (by kernel_rfl) (by kernel_rfl) (by kernel_rfl) (fun _ _ _ h => h) (Or.inl ⟨by rfl, fun wl hSw => ?_⟩) hS0 ?_
  · (try dsimp only at hSw); go_simp; rw [HLK.out hSw.2.2.2 HX]; rfl
  refine wpAnyU_take (i := 6) (v := .tuple #[.int .i64 (n : Int), .bool true]) rfl (by kernel_rfl) (by kernel_rfl) (by kernel_rfl) (by kernel_rfl) (fun _ _ _ h => h) (Or.inl ⟨by rfl, fun wl hSw => ?_⟩) hS0 ?_
  · (try dsimp only at hSw); go_simp
  refine wpAnyU_take (i := 7) (v := .int .i64 (n : Int)) rfl (by kernel_rfl) (by kernel_rfl) (by kernel_rfl) (by kernel_rfl) (fun _ _ _ h => h) (Or.inl ⟨by rfl, fun wl hSw => ?_⟩) hS0 ?_
  · (try dsimp only at hSw); go_simp
  refine wpAnyU_take (i := 8) (v := .bool true) rfl (by kernel_rfl) (by kernel_rfl) (by kernel_rfl) (by kernel_rfl) (fun _ _ _ h => h) (Or.inl ⟨by rfl, fun wl hSw => ?_⟩) hS0 ?_
  · (try dsimp only at hSw); go_simp
  refine wpAnyU_one (i := 9) rfl (by kernel_rfl) (fun K hK => ?_)
  go_simp
  refine hK.out _ _ ⟨fun _ => hS0, ?_⟩
  clear hK K
  refine wpAnyU_one (i := 10) rfl (by kernel_rfl) (fun K hK => ?_)
  go_simp
  refine hK.out _ _ ⟨fun h => absurd rfl h, ?_⟩
  clear hK K
  refine wpAnyU_done (by kernel_rfl) ?_ _
  refine NoPanic.normal ?_
  go_wp2
  go_ret
  exact ⟨rfl, hbd⟩

set_option maxHeartbeats 2000000 in
set_option maxRecDepth 100000 in
theorem bmeet_new (K : TwoF) (P B Mb : Nat) (st sta : Int) (fv av pv : Value) (xs : List Int) (ars : List ArcD) (ps ms : List (Int × Int)) (fb fo N fc gb go M gc : Nat) (x : Int × Int) (w : World) (h : BV w P B Mb K st sta fv av pv xs ars ps ms) (hx : x ∉ ms)
    (hfi : K.fi = .slice (some ⟨fb, fo, none⟩) N fc) (hfj : K.fj = .slice (some ⟨gb, go, none⟩) M gc) (hf : IntsAt w fb fo N K.f.final) (hg : IntsAt w gb go M K.g.final) (hfB : fb < B) (hgB : gb < B) (kf : Fine K.f) (kg : Fine K.g) (hxp : InP K.f K.g x) (hst : st = ms.length) (hl1 : ms.length ≤ 100000) (hl2 : ps.length ≤ 100000) (hl3 : xs.length ≤ 100000) :
    Calls Try.prog 105 #[.pointer (some ⟨P, 0, none⟩), .agg #[.int .i64 x.1, .int .i64 x.2]] w fun e w' => e = .returned (.int .i64 st) ∧ ∃ fv' pv', BV w' P B Mb K (st + 1) sta fv' av pv' (xs ++ [endC K.f K.g x]) ars (ps ++ [x]) (ms ++ [x]) ∧ BS P Mb w w' (ownB fv av pv) (ownB fv' av pv') := by
  obtain ⟨i0, hi, hz0, hz1, hz2⟩ := info_parts Try.info3
  obtain ⟨j0, hj0, hj1, hj2, hj3⟩ := info_parts infoPair
  have hBw : B ≤ w.heap.size := by have := h.lt; have := h.hP; omega
  have hPw := h.lt
  have hMw := h.mp.lt
  have hOw := h.ownLt
  have hbA := bel_up (bel_self w) (.cells #[.int .i64 x.1, .int .i64 x.2] 120)
  obtain ⟨Wd, hWd⟩ : ∃ Wd, Wd = (w.alloc (.cells #[.int .i64 x.1, .int .i64 x.2] 120)).drew := ⟨_, rfl⟩
  have hbd : Below w.heap.size w Wd := by rw [hWd]; exact hbA.drew
  have hbp : Wd.heap[w.heap.size]? = some (.cells #[.int .i64 x.1, .int .i64 x.2] 120 (0, 0)) := by rw [hWd]; exact heap_bel (bel_self _).drew (heap_alloc_new w _)
  have b0 := box_cell (k := 0) hbp rfl
  have b1 := box_cell (k := 1) hbp rfl
  have hd := h.below hbd
  have hmp := hd.mp
  have c12 := box_cell (k := 12) (v := .map (some Mb)) hd.box rfl
  have HWD : Hid (Wd = (w.alloc (.cells #[.int .i64 x.1, .int .i64 x.2] 120)).drew) := hWd
  have HX : Hid (x ∉ ms) := hx
  have HLK : Hid (∀ {W : World}, PrAt W Mb ms → Hid (x ∉ ms) → (Instr.lookup 90 (.map (some Mb)) (.agg #[.int .i64 x.1, .int .i64 x.2]) true).run Try.prog W = .ok (.tuple #[.int .i64 0, .bool false]) W) := fun hm hx => plook_no hm hx.out
  have c0 := box_cell (k := 0) (v := .int .i64 st) hd.box rfl
  have HI : Hid (∀ W, Below B Wd W → IntsAt W fb fo N K.f.final ∧ IntsAt W gb go M K.g.final) := fun W hb => ⟨(hf.below hbd).blk (hb.block fb hfB), (hg.below hbd).blk (hb.block gb hgB)⟩
  have HQ : Hid (∀ W O', BS P Mb Wd W (ownB fv av pv) O' → W.heap[w.heap.size]? = some (.cells #[.int .i64 x.1, .int .i64 x.2] 120 (0, 0))) := fun W O' hb => (hb.block _ (heap_lt hbp) (by omega) (by omega) (fun e => by have := hOw _ e; omega)).trans hbp
  have HB0 : Hid (Below w.heap.size w Wd) := hbd
  have HK : Hid (K.fi = .slice (some ⟨fb, fo, none⟩) N fc ∧ K.fj = .slice (some ⟨gb, go, none⟩) M gc ∧ Fine K.f ∧ Fine K.g ∧ InP K.f K.g x ∧ st = ms.length) := ⟨hfi, hfj, kf, kg, hxp, hst⟩
  have HDD : Hid (BV Wd P B Mb K st sta fv av pv xs ars ps ms) := hd
  have HOW : Hid (∀ g, ownB fv av pv g → B ≤ g ∧ g < w.heap.size) := hOw
  have hst0 : 0 ≤ st ∧ st ≤ 100000 := by omega
  have hw1 : IntKind.i64.wrap (st + 1) = st + 1 := wrap_in _ (by omega) (by omega)
  obtain ⟨pa, pc, rfl⟩ := own_sl h.pr
  obtain ⟨fa, fcap, rfl⟩ := own_sl h.fin
  obtain ⟨pn, hpn⟩ : ∃ n, n = ps.length := ⟨_, rfl⟩
  obtain ⟨xn, hxn⟩ : ∃ n, n = xs.length := ⟨_, rfl⟩
  have HPN : Hid (pn = ps.length ∧ xn = xs.length) := ⟨hpn, hxn⟩
  rw [← hpn] at h hl2 hd HQ HOW HDD ⊢
  rw [← hxn] at h hl3 hd HQ HOW HDD ⊢
  clear h hbA hx hWd hbp hOw hf hg hfi hfj kf kg hxp hpn hxn hst hl1
  go_enter Try.func105, Try.ntmps105
  go_wp2
  have hS0 : (fun wx : World => wx.cell? ⟨P, 12, none⟩ = some (.map (some Mb)) ∧ wx.cell? ⟨w.heap.size, 0, none⟩ = some (.int .i64 x.1) ∧ wx.cell? ⟨w.heap.size, 1, none⟩ = some (.int .i64 x.2) ∧ PrAt wx Mb ms) Wd := ⟨c12, b0, b1, hmp⟩
  refine wp_region_noPanic ?_
  refine wp_region_U (fun wx : World => wx.cell? ⟨P, 12, none⟩ = some (.map (some Mb)) ∧ wx.cell? ⟨w.heap.size, 0, none⟩ = some (.int .i64 x.1) ∧ wx.cell? ⟨w.heap.size, 1, none⟩ = some (.int .i64 x.2) ∧ PrAt wx Mb ms) 10 (by kernel_rfl) (by rw [← HWD.out]; exact hS0) (fun _ => ?_)
  rw [← HWD.out]
  clear HWD
  refine wpAnyU_take (i := 0) (v := .pointer (some ⟨P, 0, none⟩)) rfl (by kernel_rfl) (by kernel_rfl) (by kernel_rfl) (by kernel_rfl) (fun _ _ _ h => h) (Or.inl ⟨by rfl, fun wl hSw => ?_⟩) hS0 ?_
  · (try dsimp only at hSw); go_simp
  refine wpAnyU_take (i := 1) (v := .pointer (some ⟨P, 0, none⟩)) rfl (by kernel_rfl) (by kernel_rfl) (by kernel_rfl) (by kernel_rfl) (fun _ _ _ h => h) (Or.inl ⟨by rfl, fun wl hSw => ?_⟩) hS0 ?_
  · (try dsimp only at hSw); go_simp
  refine wpAnyU_take (i := 2) (v := .pointer (some ⟨P, 12, none⟩)) rfl (by kernel_rfl) (by kernel_rfl) (by kernel_rfl) (by kernel_rfl) (fun _ _ _ h => h) (Or.inl ⟨by rfl, fun wl hSw => ?_⟩) hS0 ?_
  · (try dsimp only at hSw); go_simp
  refine wpAnyU_take (i := 3) (v := .map (some Mb)) rfl (by kernel_rfl) (by kernel_rfl) (by kernel_rfl) (by kernel_rfl) (fun _ _ _ h => h) (Or.inl ⟨by rfl, fun wl hSw => ?_⟩) hS0 ?_
  · (try dsimp only at hSw); go_simp
  refine wpAnyU_take (i := 4) (v := .agg #[.int .i64 x.1, .int .i64 x.2]) rfl (by kernel_rfl) (by kernel_rfl) (by kernel_rfl) (by kernel_rfl) (fun _ _ _ h => h) (Or.inl ⟨by rfl, fun wl hSw => ?_⟩) hS0 ?_
  · (try dsimp only at hSw); go_simp
  refine wpAnyU_take (i := 5) (v := .tuple #[.int .i64 0, .bool false]) rfl (by kernel_rfl) (by kernel_rfl) (by kernel_rfl) (by kernel_rfl) (fun _ _ _ h => h) (Or.inl ⟨by rfl, fun wl hSw => ?_⟩) hS0 ?_
  · (try dsimp only at hSw); go_simp; rw [HLK.out hSw.2.2.2 HX]; rfl
  refine wpAnyU_take (i := 6) (v := .tuple #[.int .i64 0, .bool false]) rfl (by kernel_rfl) (by kernel_rfl) (by kernel_rfl) (by kernel_rfl) (fun _ _ _ h => h) (Or.inl ⟨by rfl, fun wl hSw => ?_⟩) hS0 ?_
  · (try dsimp only at hSw); go_simp
  refine wpAnyU_take (i := 7) (v := .int .i64 0) rfl (by kernel_rfl) (by kernel_rfl) (by kernel_rfl) (by kernel_rfl) (fun _ _ _ h => h) (Or.inl ⟨by rfl, fun wl hSw => ?_⟩) hS0 ?_
  · (try dsimp only at hSw); go_simp
  refine wpAnyU_take (i := 8) (v := .bool false) rfl (by kernel_rfl) (by kernel_rfl) (by kernel_rfl) (by kernel_rfl) (fun _ _ _ h => h) (Or.inl ⟨by rfl, fun wl hSw => ?_⟩) hS0 ?_
  · (try dsimp only at hSw); go_simp
  refine wpAnyU_one (i := 9) rfl (by kernel_rfl) (fun K hK => ?_)
  go_simp
  refine hK.out _ _ ⟨fun _ => hS0, ?_⟩
  clear hK K
  refine wpAnyU_one (i := 10) rfl (by kernel_rfl) (fun K hK => ?_)
  go_simp
  refine hK.out _ _ ⟨fun h => absurd rfl h, ?_⟩
  clear hK K
  refine wpAnyU_done (by kernel_rfl) ?_ _
  refine NoPanic.normal ?_
  go_wp2
  clear hS0
  obtain ⟨We, hWe⟩ : ∃ We, We = Wd.drew := ⟨_, rfl⟩
  have hbWe : Below Wd.heap.size Wd We := by rw [hWe]; exact (bel_self Wd).drew
  have HW : Hid (We = Wd.drew) := hWe
  clear hWe
  have hde := hd.below hbWe
  have HSe : Hid (BS P Mb Wd We (ownB (.slice fa xn fcap) av (.slice pa pn pc)) (ownB (.slice fa xn fcap) av (.slice pa pn pc))) := BS.of_bel hbWe
  have hQe := HQ.out We _ HSe.out
  have c12e := box_cell (k := 12) (v := .map (some Mb)) hde.box rfl
  have b0e := box_cell (k := 0) hQe rfl
  have b1e := box_cell (k := 1) hQe rfl
  have hS0 : (fun wx : World => wx.cell? ⟨P, 12, none⟩ = some (.map (some Mb)) ∧ wx.cell? ⟨w.heap.size, 0, none⟩ = some (.int .i64 x.1) ∧ wx.cell? ⟨w.heap.size, 1, none⟩ = some (.int .i64 x.2)) We := ⟨c12e, b0e, b1e⟩
  obtain ⟨W4, hrun, hm4, hg4, hz4⟩ := pput hde.mp HX.out HK.out.2.2.2.2.2
  obtain ⟨hd4, hs4⟩ := hde.put hm4 hg4
  have HR : Hid ((Instr.mapUpdate 90 (.map (some Mb)) (.agg #[.int .i64 x.1, .int .i64 x.2]) (.int .i64 st)).run Try.prog We = .ok () W4) := hrun
  have HS4 : Hid (BS P Mb Wd W4 (ownB (.slice fa xn fcap) av (.slice pa pn pc)) (ownB (.slice fa xn fcap) av (.slice pa pn pc))) := HSe.out.trans hs4
  clear hrun hm4 hg4 hz4 hs4 hbWe hd c12 b0 b1 c0 hmp hde
  refine wp_region_noPanic ?_
  refine wp_region_U (fun wx : World => wx.cell? ⟨P, 12, none⟩ = some (.map (some Mb)) ∧ wx.cell? ⟨w.heap.size, 0, none⟩ = some (.int .i64 x.1) ∧ wx.cell? ⟨w.heap.size, 1, none⟩ = some (.int .i64 x.2)) 6 (by kernel_rfl) (by rw [← HW.out]; exact hS0) (fun _ => ?_)
  rw [← HW.out]
  clear HW
  refine wpAnyU_take (i := 0) (v := .pointer (some ⟨P, 0, none⟩)) rfl (by kernel_rfl) (by kernel_rfl) (by kernel_rfl) (by kernel_rfl) (fun _ _ _ h => h) (Or.inl ⟨by rfl, fun wl hSw => ?_⟩) hS0 ?_
  · (try dsimp only at hSw); go_simp
  refine wpAnyU_take (i := 1) (v := .pointer (some ⟨P, 0, none⟩)) rfl (by kernel_rfl) (by kernel_rfl) (by kernel_rfl) (by kernel_rfl) (fun _ _ _ h => h) (Or.inl ⟨by rfl, fun wl hSw => ?_⟩) hS0 ?_
  · (try dsimp only at hSw); go_simp
  refine wpAnyU_take (i := 2) (v := .pointer (some ⟨P, 12, none⟩)) rfl (by kernel_rfl) (by kernel_rfl) (by kernel_rfl) (by kernel_rfl) (fun _ _ _ h => h) (Or.inl ⟨by rfl, fun wl hSw => ?_⟩) hS0 ?_
  · (try dsimp only at hSw); go_simp
  refine wpAnyU_take (i := 3) (v := .map (some Mb)) rfl (by kernel_rfl) (by kernel_rfl) (by kernel_rfl) (by kernel_rfl) (fun _ _ _ h => h) (Or.inl ⟨by rfl, fun wl hSw => ?_⟩) hS0 ?_
  · (try dsimp only at hSw); go_simp
  refine wpAnyU_take (i := 4) (v := .agg #[.int .i64 x.1, .int .i64 x.2]) rfl (by kernel_rfl) (by kernel_rfl) (by kernel_rfl) (by kernel_rfl) (fun _ _ _ h => h) (Or.inl ⟨by rfl, fun wl hSw => ?_⟩) hS0 ?_
  · (try dsimp only at hSw); go_simp
  refine wpAnyU_take (i := 5) (v := .int .i64 st) rfl (by kernel_rfl) (by kernel_rfl) (by kernel_rfl) (by kernel_rfl) (fun _ _ _ h => h) (Or.inl ⟨by rfl, fun wl hSw => ?_⟩) hS0 ?_
  · (try dsimp only at hSw); go_simp
  refine wpAnyU_one (i := 6) rfl (by kernel_rfl) (fun K hK => ?_)
  have hrun := HR.out
  go_simp
  refine hK.out _ _ ⟨fun h => absurd rfl h, ?_⟩
  clear hK K
  refine wpAnyU_done (by kernel_rfl) ?_ _
  refine NoPanic.normal ?_
  clear hS0 c12e b0e b1e hQe HR
  go_wp2
  obtain ⟨Wf, hWf⟩ : ∃ Wf, Wf = W4.drew := ⟨_, rfl⟩
  have hbWf : Below W4.heap.size W4 Wf := by rw [hWf]; exact (bel_self W4).drew
  have HW : Hid (Wf = W4.drew) := hWf
  clear hWf
  have hdf := hd4.below hbWf
  have HSf : Hid (BS P Mb Wd Wf (ownB (.slice fa xn fcap) av (.slice pa pn pc)) (ownB (.slice fa xn fcap) av (.slice pa pn pc))) := HS4.out.trans (BS.of_bel hbWf)
  have hQf := HQ.out Wf _ HSf.out
  have c13 := box_cell (k := 13) (v := .slice pa pn pc) hdf.box rfl
  have b0 := box_cell (k := 0) hQf rfl
  have b1 := box_cell (k := 1) hQf rfl
  have hS0 : (fun wx : World => wx.cell? ⟨P, 13, none⟩ = some (.slice pa pn pc) ∧ wx.cell? ⟨w.heap.size, 0, none⟩ = some (.int .i64 x.1) ∧ wx.cell? ⟨w.heap.size, 1, none⟩ = some (.int .i64 x.2)) Wf := ⟨c13, b0, b1⟩
  have hBf : B ≤ Wf.heap.size := by have := hdf.lt; have := hdf.hP; omega
  clear hbWf hd4
  refine wp_region_noPanic ?_
  refine wp_region_U (fun wx : World => wx.cell? ⟨P, 13, none⟩ = some (.slice pa pn pc) ∧ wx.cell? ⟨w.heap.size, 0, none⟩ = some (.int .i64 x.1) ∧ wx.cell? ⟨w.heap.size, 1, none⟩ = some (.int .i64 x.2)) 10 (by kernel_rfl) (by rw [← HW.out]; exact hS0) (fun _ => ?_)
  rw [← HW.out]
  clear HW
  refine wpAnyU_take (i := 0) (v := .pointer (some ⟨P, 0, none⟩)) rfl (by kernel_rfl) (by kernel_rfl) (by kernel_rfl) (by kernel_rfl) (fun _ _ _ h => h) (Or.inl ⟨by rfl, fun wl hSw => ?_⟩) hS0 ?_
  · (try dsimp only at hSw); go_simp
  refine wpAnyU_take (i := 1) (v := .pointer (some ⟨P, 0, none⟩)) rfl (by kernel_rfl) (by kernel_rfl) (by kernel_rfl) (by kernel_rfl) (fun _ _ _ h => h) (Or.inl ⟨by rfl, fun wl hSw => ?_⟩) hS0 ?_
  · (try dsimp only at hSw); go_simp
  refine wpAnyU_take (i := 2) (v := .pointer (some ⟨P, 0, none⟩)) rfl (by kernel_rfl) (by kernel_rfl) (by kernel_rfl) (by kernel_rfl) (fun _ _ _ h => h) (Or.inl ⟨by rfl, fun wl hSw => ?_⟩) hS0 ?_
  · (try dsimp only at hSw); go_simp
  refine wpAnyU_take (i := 3) (v := .pointer (some ⟨P, 13, none⟩)) rfl (by kernel_rfl) (by kernel_rfl) (by kernel_rfl) (by kernel_rfl) (fun _ _ _ h => h) (Or.inl ⟨by rfl, fun wl hSw => ?_⟩) hS0 ?_
  · (try dsimp only at hSw); go_simp
  refine wpAnyU_take (i := 4) (v := .slice pa pn pc) rfl (by kernel_rfl) (by kernel_rfl) (by kernel_rfl) (by kernel_rfl) (fun _ _ _ h => h) (Or.inl ⟨by rfl, fun wl hSw => ?_⟩) hS0 ?_
  · (try dsimp only at hSw); go_simp
  refine wpAnyU_take (i := 5) (v := .agg #[.int .i64 x.1, .int .i64 x.2]) rfl (by kernel_rfl) (by kernel_rfl) (by kernel_rfl) (by kernel_rfl) (fun _ _ _ h => h) (Or.inl ⟨by rfl, fun wl hSw => ?_⟩) hS0 ?_
  · (try dsimp only at hSw); go_simp
  have hbG := bel_up (bel_self Wf) (.cells #[.int .i64 x.1, .int .i64 x.2] 120)
  refine wpAnyU_one (i := 6) rfl (by kernel_rfl) (fun K hK => ?_)
  go_simp
  refine hK.out _ _ ⟨fun _ => ⟨bel_c hbG c13, bel_c hbG b0, bel_c hbG b1⟩, ?_⟩
  clear hK K
  refine wpAnyU_one (i := 7) rfl (by kernel_rfl) (fun K hK => ?_)
  refine if_wanted rfl ?_
  refine wp_app_at (Operand.tmp 33) (Operand.tmp 35) 91 rfl B 120 j0 (.agg #[.int .i64 0, .int .i64 0]) 2 16 Try.underlying91 hj0 hj1 hj2 hj3 rfl (by decide) (.slice pa pn pc) pn (pairsV ps) ?hs (ownsRow_bel (by have := hdf.pr; rw [← HPN.out.1] at this; exact this) hbG) (.slice (some ⟨Wf.heap.size, 0, none⟩) 1 1) 1 (pairCells x) ?hx (Or.inr ⟨_, _, rfl, rfl, cells_new _ #[.int .i64 x.1, .int .i64 x.2] 120 _ rfl⟩) (oneCell_pair x) (by unfold maxLen; omega) (by omega) (by simp; omega) ?_
  case hs => go_simp
  case hx => go_simp
  intro v5 w5 hown5 hgrow5 hat5
  obtain ⟨va, vc, rfl⟩ := own_sl hown5
  obtain ⟨hd6, hs6⟩ := hdf.prs (more := [x]) hbG (by simpa [pairsV] using hown5) (by rw [HPN.out.1]; simp) hgrow5 hat5
  have hbx5 := hdf.box2 hbG hgrow5 hdf.pP
  have hQ5 : w5.heap[w.heap.size]? = some (.cells #[.int .i64 x.1, .int .i64 x.2] 120 (0, 0)) := (hgrow5.block _ (by have := heap_lt hQf; have := hbG.size; omega) (fun e => by have := (HOW.out _ (Or.inr (Or.inr e.symm))); omega)).trans (heap_bel hbG hQf)
  have d13 := box_cell (k := 13) (v := .slice pa pn pc) hbx5 rfl
  have z13 := box_frz hbx5 13
  have hS5 : (fun wx : World => wx.cell? ⟨P, 13, none⟩ = some (.slice pa pn pc) ∧ wx.cell? ⟨w.heap.size, 0, none⟩ = some (.int .i64 x.1) ∧ wx.cell? ⟨w.heap.size, 1, none⟩ = some (.int .i64 x.2)) w5 := ⟨d13, box_cell (k := 0) hQ5 rfl, box_cell (k := 1) hQ5 rfl⟩
  refine hK.out _ _ ⟨fun _ => hS5, ?_⟩
  clear hK K
  refine wpAnyU_one (i := 8) rfl (by kernel_rfl) (fun K hK => ?_)
  go_simp
  refine hK.out _ _ ⟨fun _ => hS5, ?_⟩
  clear hK K
  refine wpAnyU_one (i := 9) rfl (by kernel_rfl) (fun K hK => ?_)
  go_simp
  refine hK.out _ _ ⟨fun _ => hS5, ?_⟩
  clear hK K
  refine wpAnyU_one (i := 10) rfl (by kernel_rfl) (fun K hK => ?_)
  go_simp
  refine hK.out _ _ ⟨fun h => absurd rfl h, ?_⟩
  clear hK K
  refine wpAnyU_done (by kernel_rfl) ?_ _
  refine NoPanic.normal ?_
  obtain ⟨W6, hW6⟩ : ∃ W6, W6 = w5.setCell ⟨P, 13, none⟩ (.slice va (pn + 1) vc) := ⟨_, rfl⟩
  rw [← hW6] at hd6 hs6
  have HS6 : Hid (BS P Mb Wd W6 (ownB (.slice fa xn fcap) av (.slice pa pn pc)) (ownB (.slice fa xn fcap) av (.slice va (pn + 1) vc))) := HSf.out.trans hs6
  have c0 := box_cell (k := 0) (v := .int .i64 st) hd6.box rfl
  have z0 := box_frz hd6.box 0
  rw [← hW6]
  clear hW6 hS0 hS5 hs6 hdf hQ5 hQf hbG c13 b0 b1 d13 z13 hown5 hgrow5 hat5 hbx5 hBf
  go_wp2
  obtain ⟨W7, hW7⟩ : ∃ W7, W7 = W6.setCell ⟨P, 0, none⟩ (.int .i64 (st + 1)) := ⟨_, rfl⟩
  have hd7 := hd6.states (st + 1)
  rw [← hW7] at hd7
  have HS7 : Hid (BS P Mb Wd W7 (ownB (.slice fa xn fcap) av (.slice pa pn pc)) (ownB (.slice fa xn fcap) av (.slice va (pn + 1) vc))) := HS6.out.trans (by rw [hW7]; exact BS.set)
  rw [← hW7]
  clear hW7 hd6 c0 z0
  obtain ⟨Wh, hWh⟩ : ∃ Wh, Wh = W7.drew := ⟨_, rfl⟩
  have hbWh : Below W7.heap.size W7 Wh := by rw [hWh]; exact (bel_self W7).drew
  have HW : Hid (Wh = W7.drew) := hWh
  clear hWh
  have hdh := hd7.below hbWh
  have HSh : Hid (BS P Mb Wd Wh (ownB (.slice fa xn fcap) av (.slice pa pn pc)) (ownB (.slice fa xn fcap) av (.slice va (pn + 1) vc))) := HS7.out.trans (BS.of_bel hbWh)
  have HBh : Hid (Below B Wd Wh) := HSh.out.below HDD.out
  have hQh := HQ.out Wh _ HSh.out
  have c2 := box_cell (k := 2) (v := .slice fa xn fcap) hdh.box rfl
  have b0 := box_cell (k := 0) hQh rfl
  have b1 := box_cell (k := 1) hQh rfl
  have hS0 : (fun wx : World => wx.cell? ⟨P, 2, none⟩ = some (.slice fa xn fcap) ∧ wx.cell? ⟨w.heap.size, 0, none⟩ = some (.int .i64 x.1) ∧ wx.cell? ⟨w.heap.size, 1, none⟩ = some (.int .i64 x.2)) Wh := ⟨c2, b0, b1⟩
  have hend := bend_any K P Mb (st + 1) sta (.slice fa xn fcap) av (.slice va (pn + 1) vc) fb fo N fc gb go M gc x Wh hdh.box HK.out.1 HK.out.2.1 (HI.out Wh HBh.out).1 (HI.out Wh HBh.out).2 HK.out.2.2.1 HK.out.2.2.2.1 HK.out.2.2.2.2.1
  obtain ⟨ez, hez⟩ : ∃ e, e = endC K.f K.g x := ⟨_, rfl⟩
  rw [← hez] at hend
  have HEZ : Hid (ez = endC K.f K.g x) := hez
  clear hbWh hd7 hez
  refine wp_region_noPanic ?_
  refine wp_region_U (fun wx : World => wx.cell? ⟨P, 2, none⟩ = some (.slice fa xn fcap) ∧ wx.cell? ⟨w.heap.size, 0, none⟩ = some (.int .i64 x.1) ∧ wx.cell? ⟨w.heap.size, 1, none⟩ = some (.int .i64 x.2)) 14 (by kernel_rfl) (by rw [← HW.out]; exact hS0) (fun _ => ?_)
  rw [← HW.out]
  clear HW
  refine wpAnyU_take (i := 0) (v := .pointer (some ⟨P, 0, none⟩)) rfl (by kernel_rfl) (by kernel_rfl) (by kernel_rfl) (by kernel_rfl) (fun _ _ _ h => h) (Or.inl ⟨by rfl, fun wl hSw => ?_⟩) hS0 ?_
  · (try dsimp only at hSw); go_simp
  refine wpAnyU_take (i := 1) (v := .pointer (some ⟨P, 0, none⟩)) rfl (by kernel_rfl) (by kernel_rfl) (by kernel_rfl) (by kernel_rfl) (fun _ _ _ h => h) (Or.inl ⟨by rfl, fun wl hSw => ?_⟩) hS0 ?_
  · (try dsimp only at hSw); go_simp
  refine wpAnyU_take (i := 2) (v := .pointer (some ⟨P, 0, none⟩)) rfl (by kernel_rfl) (by kernel_rfl) (by kernel_rfl) (by kernel_rfl) (fun _ _ _ h => h) (Or.inl ⟨by rfl, fun wl hSw => ?_⟩) hS0 ?_
  · (try dsimp only at hSw); go_simp
  refine wpAnyU_take (i := 3) (v := .pointer (some ⟨P, 0, none⟩)) rfl (by kernel_rfl) (by kernel_rfl) (by kernel_rfl) (by kernel_rfl) (fun _ _ _ h => h) (Or.inl ⟨by rfl, fun wl hSw => ?_⟩) hS0 ?_
  · (try dsimp only at hSw); go_simp
  refine wpAnyU_take (i := 4) (v := .pointer (some ⟨P, 2, none⟩)) rfl (by kernel_rfl) (by kernel_rfl) (by kernel_rfl) (by kernel_rfl) (fun _ _ _ h => h) (Or.inl ⟨by rfl, fun wl hSw => ?_⟩) hS0 ?_
  · (try dsimp only at hSw); go_simp
  refine wpAnyU_take (i := 5) (v := .slice fa xn fcap) rfl (by kernel_rfl) (by kernel_rfl) (by kernel_rfl) (by kernel_rfl) (fun _ _ _ h => h) (Or.inl ⟨by rfl, fun wl hSw => ?_⟩) hS0 ?_
  · (try dsimp only at hSw); go_simp
  refine wpAnyU_take (i := 6) (v := .pointer (some ⟨P, 0, none⟩)) rfl (by kernel_rfl) (by kernel_rfl) (by kernel_rfl) (by kernel_rfl) (fun _ _ _ h => h) (Or.inl ⟨by rfl, fun wl hSw => ?_⟩) hS0 ?_
  · (try dsimp only at hSw); go_simp
  refine wpAnyU_take (i := 7) (v := .agg #[.int .i64 x.1, .int .i64 x.2]) rfl (by kernel_rfl) (by kernel_rfl) (by kernel_rfl) (by kernel_rfl) (fun _ _ _ h => h) (Or.inl ⟨by rfl, fun wl hSw => ?_⟩) hS0 ?_
  · (try dsimp only at hSw); go_simp
  refine wpAnyU_one (i := 8) rfl (by kernel_rfl) (fun K hK => ?_)
  go_simp
  refine hend.mono ?_
  rintro e W8 ⟨rfl, hc8⟩
  refine hK.out _ _ ⟨fun _ => ⟨bel_c hc8 c2, bel_c hc8 b0, bel_c hc8 b1⟩, ?_⟩
  clear hK K hend
  have hbG := bel_up (bel_self W8) (.cells #[.int .i64 ez] 3)
  have hbH := bel_on hc8 hbG
  refine wpAnyU_one (i := 9) rfl (by kernel_rfl) (fun K hK => ?_)
  go_simp
  refine hK.out _ _ ⟨fun _ => ⟨bel_c hbH c2, bel_c hbH b0, bel_c hbH b1⟩, ?_⟩
  clear hK K
  refine wpAnyU_one (i := 10) rfl (by kernel_rfl) (fun K hK => ?_)
  refine if_wanted rfl ?_
  refine wp_app_at (Operand.tmp 53) (Operand.tmp 57) 22 rfl B 3 i0 (.int .i64 0) 1 8 Try.underlying22 hi hz0 hz1 hz2 rfl (by decide) (.slice fa xn fcap) xn (xs.map (Value.int .i64)) ?hs (ownsRow_bel (by have := hdh.fin; rw [← HPN.out.2] at this; exact this) hbH) (.slice (some ⟨W8.heap.size, 0, none⟩) 1 1) 1 [.int .i64 ez] ?hx (Or.inr ⟨_, _, rfl, rfl, cells_new _ #[.int .i64 ez] 3 _ rfl⟩) (ints_ones [ez]) (by unfold maxLen; omega) (by omega) (by have := hdh.lt; have := hdh.hP; have := hbH.size; omega) ?_
  case hs => go_simp
  case hx => go_simp
  intro v9 w9 hown9 hgrow9 hat9
  obtain ⟨ua, uc, rfl⟩ := own_sl hown9
  obtain ⟨hd9, hs9⟩ := hdh.ends (more := [ez]) hbH hown9 (by rw [HPN.out.2]; simp) hgrow9 hat9
  have hbx9 := hdh.box2 hbH hgrow9 hdh.fP
  have hQ9 : w9.heap[w.heap.size]? = some (.cells #[.int .i64 x.1, .int .i64 x.2] 120 (0, 0)) := (hgrow9.block _ (by have := heap_lt hQh; have := hbH.size; omega) (fun e => by have := (HOW.out _ (Or.inl e.symm)); omega)).trans (heap_bel hbH hQh)
  have d2 := box_cell (k := 2) (v := .slice fa xn fcap) hbx9 rfl
  have z2 := box_frz hbx9 2
  have hS9 : (fun wx : World => wx.cell? ⟨P, 2, none⟩ = some (.slice fa xn fcap) ∧ wx.cell? ⟨w.heap.size, 0, none⟩ = some (.int .i64 x.1) ∧ wx.cell? ⟨w.heap.size, 1, none⟩ = some (.int .i64 x.2)) w9 := ⟨d2, box_cell (k := 0) hQ9 rfl, box_cell (k := 1) hQ9 rfl⟩
  refine hK.out _ _ ⟨fun _ => hS9, ?_⟩
  clear hK K
  refine wpAnyU_one (i := 11) rfl (by kernel_rfl) (fun K hK => ?_)
  go_simp
  refine hK.out _ _ ⟨fun _ => hS9, ?_⟩
  clear hK K
  refine wpAnyU_one (i := 12) rfl (by kernel_rfl) (fun K hK => ?_)
  go_simp
  refine hK.out _ _ ⟨fun _ => hS9, ?_⟩
  clear hK K
  refine wpAnyU_one (i := 13) rfl (by kernel_rfl) (fun K hK => ?_)
  go_simp
  refine hK.out _ _ ⟨fun _ => hS9, ?_⟩
  clear hK K
  refine wpAnyU_one (i := 14) rfl (by kernel_rfl) (fun K hK => ?_)
  go_simp
  refine hK.out _ _ ⟨fun h => absurd rfl h, ?_⟩
  clear hK K
  refine wpAnyU_done (by kernel_rfl) ?_ _
  refine NoPanic.normal ?_
  go_wp2
  go_ret
  rw [HEZ.out] at hd9
  exact ⟨rfl, _, _, hd9, (BS.of_bel HB0.out).trans (HSh.out.trans hs9)⟩

def BW (w : World) (P B Mb : Nat) (K : TwoF) (sta : Int) (fv av pv : Value) (b : BothD) : Prop := BV w P B Mb K b.ps.length sta fv av pv (b.ps.map (endC K.f K.g)) b.arcs b.ps b.ps

/-- what is known of the two, wherever it is asked -/
structure TwoAt (K : TwoF) (w : World) (B : Nat) (fb fo N fc gb go M gc : Nat) : Prop where
  fi : K.fi = .slice (some ⟨fb, fo, none⟩) N fc
  fj : K.fj = .slice (some ⟨gb, go, none⟩) M gc
  hf : IntsAt w fb fo N K.f.final
  hg : IntsAt w gb go M K.g.final
  fB : fb < B
  gB : gb < B
  kf : Fine K.f
  kg : Fine K.g
theorem TwoAt.below {K : TwoF} {w w' : World} {B fb fo N fc gb go M gc : Nat} (h : TwoAt K w B fb fo N fc gb go M gc) (hb : Below B w w') : TwoAt K w' B fb fo N fc gb go M gc :=
  ⟨h.fi, h.fj, h.hf.blk (hb.block fb h.fB), h.hg.blk (hb.block gb h.gB), h.fB, h.gB, h.kf, h.kg⟩

theorem bmeet_any (K : TwoF) (P B Mb : Nat) (sta : Int) (fv av pv : Value) (b : BothD) (fb fo N fc gb go M gc : Nat) (x : Int × Int) (w : World) (h : BW w P B Mb K sta fv av pv b) (hK : TwoAt K w B fb fo N fc gb go M gc) (hx : InP K.f K.g x) (hl : b.ps.length ≤ 100000) :
    Calls Try.prog 105 #[.pointer (some ⟨P, 0, none⟩), .agg #[.int .i64 x.1, .int .i64 x.2]] w fun e w' => e = .returned (.int .i64 (b.ps.idxOf x : Nat)) ∧ ∃ fv' pv', BW w' P B Mb K sta fv' av pv' ⟨meetP b.ps x, b.arcs⟩ ∧ BS P Mb w w' (ownB fv av pv) (ownB fv' av pv') := by
  by_cases hm : x ∈ b.ps
  · refine (bmeet_old K P B Mb _ sta fv av pv _ _ _ _ x w h hm).mono fun e w' ⟨he, hb⟩ => ⟨he, fv, pv, ?_, BS.of_bel hb⟩
    have e1 : meetP b.ps x = b.ps := by unfold meetP; rw [if_pos hm]
    rw [e1]
    exact BV.below h hb
  · refine (bmeet_new K P B Mb _ sta fv av pv _ _ _ _ fb fo N fc gb go M gc x w h hm hK.fi hK.fj hK.hf hK.hg hK.fB hK.gB hK.kf hK.kg hx rfl hl hl (by rw [List.length_map]; exact hl)).mono fun e w' ⟨he, fv', pv', hd, hs⟩ => ⟨?_, fv', pv', ?_, hs⟩
    · rw [List.idxOf_eq_length hm]; exact he
    · have e1 : meetP b.ps x = b.ps ++ [x] := by unfold meetP; rw [if_neg hm]
      rw [e1]
      unfold BW
      rw [List.map_append, List.length_append]
      exact hd

theorem BV.far {w : World} {P B Mb : Nat} {K : TwoF} {st sta : Int} {fv av pv : Value} {xs : List Int} {ars : List ArcD} {ps ms : List (Int × Int)} (h : BV w P B Mb K st sta fv av pv xs ars ps ms) {q i : Nat} {u : Value} (hP : q ≠ P) (hM : q ≠ Mb) (ho : ¬ ownB fv av pv q) : BV (w.setCell ⟨q, i, none⟩ u) P B Mb K st sta fv av pv xs ars ps ms :=
  ⟨heap_far h.box (fun e => hP e.symm), ownsRow_setCell_far h.fin (fun e => ho (Or.inl e)), ownsRow_setCell_far h.arc (fun e => ho (Or.inr (Or.inl e))), ownsRow_setCell_far h.pr (fun e => ho (Or.inr (Or.inr e))), h.mp.block (Below.heap_setCell w ⟨q, i, none⟩ _ Mb (fun e => hM e.symm)), h.hP, h.hM, h.fP, h.aP, h.pP, h.fa, h.fp, h.ap⟩
theorem BS.setNew {P Mb q i : Nat} {w w' : World} {O O' : Nat → Prop} {u : Value} (h : BS P Mb w w' O O') (hq : w.heap.size ≤ q) : BS P Mb w (w'.setCell ⟨q, i, none⟩ u) O O' :=
  ⟨h.os, h.tape, h.output, by simpa [World.setCell] using h.size, fun b hb hP hM ho => (Below.heap_setCell w' ⟨q, i, none⟩ u b (by show b ≠ q; omega)).trans (h.block b hb hP hM ho), h.own⟩

set_option maxHeartbeats 2000000 in
set_option maxRecDepth 100000 in
theorem blead_any (K : TwoF) (P B Mb : Nat) (sta : Int) (fv av pv : Value) (b : BothD) (fb fo N fc gb go M gc : Nat) (s : Stp) (k : Nat) (y0 y3 : Int) (w : World) (h : BW w P B Mb K sta fv av pv b) (hK : TwoAt K w B fb fo N fc gb go M gc) (hx : InP K.f K.g (s.to1, s.to2)) (hl : b.ps.length ≤ 100000) (hla : b.arcs.length ≤ 100000000) :
    Calls Try.prog 145 #[.pointer (some ⟨P, 0, none⟩), .int .i64 (k : Int), .agg #[.int .i64 s.to1, .int .i64 s.to2], .agg #[.int .i64 y0, .int .i64 s.inp, .int .i64 s.out, .int .i64 y3, .int .i64 s.wt]] w fun e w' => e = .returned (.tuple #[]) ∧ ∃ fv' av' pv', BW w' P B Mb K sta fv' av' pv' (leadD k b s) ∧ BS P Mb w w' (ownB fv av pv) (ownB fv' av' pv') := by
  obtain ⟨i0, hi, hz0, hz1, hz2⟩ := info_parts Try.info63
  obtain ⟨aa, ac, rfl⟩ := own_sl (BV.arc h)
  obtain ⟨an, han⟩ : ∃ n, n = b.arcs.length := ⟨_, rfl⟩
  have HAN0 : Hid (an = b.arcs.length) := han
  rw [← han] at h hla ⊢
  clear han
  obtain ⟨W0, hW0⟩ : ∃ W0, W0 = (w.alloc (.cells #[.int .i64 s.to1, .int .i64 s.to2] 120)).alloc (.cells #[.int .i64 y0, .int .i64 s.inp, .int .i64 s.out, .int .i64 y3, .int .i64 s.wt] 63) := ⟨_, rfl⟩
  have hb0 : Below w.heap.size w W0 := by rw [hW0]; exact two_up w _ _
  have hB1 : W0.heap[w.heap.size]? = some (.cells #[.int .i64 s.to1, .int .i64 s.to2] 120 (0, 0)) := by rw [hW0]; exact heap_bel (bel_up (bel_self _) _) (heap_alloc_new w _)
  have hB2 : W0.heap[w.heap.size + 1]? = some (.cells #[.int .i64 y0, .int .i64 s.inp, .int .i64 s.out, .int .i64 y3, .int .i64 s.wt] 63 (0, 0)) := by
    rw [hW0]
    have := heap_alloc_new (w.alloc (.cells #[.int .i64 s.to1, .int .i64 s.to2] 120)) (.cells #[.int .i64 y0, .int .i64 s.inp, .int .i64 s.out, .int .i64 y3, .int .i64 s.wt] 63)
    rw [one_size] at this
    exact this
  have hd0 : BW W0 P B Mb K sta fv (.slice aa an ac) pv b := BV.below h hb0
  have hBw : B ≤ w.heap.size := by have := BV.lt h; have := BV.hP h; omega
  have hPw := BV.lt h
  have hMw := (BV.mp h).lt
  have hOw := BV.ownLt h
  have hmeet := bmeet_any K P B Mb sta fv (.slice aa an ac) pv b fb fo N fc gb go M gc (s.to1, s.to2) W0 hd0 (hK.below (hb0.mono hBw)) hx hl
  obtain ⟨n, hn⟩ : ∃ n : Nat, n = b.ps.idxOf (s.to1, s.to2) := ⟨_, rfl⟩
  obtain ⟨b', hb'⟩ : ∃ b' : BothD, b' = ⟨meetP b.ps (s.to1, s.to2), b.arcs⟩ := ⟨_, rfl⟩
  have HL : Hid (leadD k b s = ⟨b'.ps, b'.arcs ++ [⟨k, s.inp, s.out, n, s.wt⟩]⟩ ∧ b'.arcs = b.arcs) := ⟨by rw [hb', hn]; rfl, by rw [hb']⟩
  have c00 := box_cell (k := 0) hB1 rfl
  have c01 := box_cell (k := 1) hB1 rfl
  have HB0 : Hid (Below w.heap.size w W0) := hb0
  have HB2 : Hid (W0.heap[w.heap.size + 1]? = some (.cells #[.int .i64 y0, .int .i64 s.inp, .int .i64 s.out, .int .i64 y3, .int .i64 s.wt] 63 (0, 0))) := hB2
  have HOW : Hid (∀ g, ownB fv (.slice aa an ac) pv g → B ≤ g ∧ g < w.heap.size) := hOw
  rw [← hn, ← hb'] at hmeet
  clear hn hb' hb0 hB1 hB2 hd0 hOw h hK hx
  go_enter Try.func145, Try.ntmps145
  go_wp2_with fail
  rw [← hW0]
  clear hW0
  refine hmeet.mono ?_
  rintro e w1 ⟨rfl, fv1, pv1, hd1, hs1⟩
  have hB3 := (hs1.block _ (heap_lt HB2.out) (by omega) (by omega) (fun e => by have := HOW.out _ e; omega)).trans HB2.out
  have z0 := box_frz hB3 0
  have e0 := box_cell (k := 0) hB3 rfl
  have e3 := box_cell (k := 3) hB3 rfl
  have hs01 := (BS.of_bel (P := P) (Mb := Mb) (O := ownB fv (.slice aa an ac) pv) HB0.out).trans hs1
  have hn1 : ¬ ownB fv1 (.slice aa an ac) pv1 (w.heap.size + 1) := fun e => by
    rcases hs1.own _ e with q | q
    · have := HOW.out _ q; omega
    · have := heap_lt HB2.out; omega
  have hB4 : (w1.setCell ⟨w.heap.size + 1, 0, none⟩ (.int .i64 (k : Int))).heap[w.heap.size + 1]? = some (.cells #[.int .i64 (k : Int), .int .i64 s.inp, .int .i64 s.out, .int .i64 y3, .int .i64 s.wt] 63 (0, 0)) := box_set (k := 0) hB3 rfl
  have z3 := box_frz hB4 3
  have e3' := box_cell (k := 3) hB4 rfl
  obtain ⟨w2, hw2⟩ : ∃ w2, w2 = (w1.setCell ⟨w.heap.size + 1, 0, none⟩ (.int .i64 (k : Int))).setCell ⟨w.heap.size + 1, 3, none⟩ (.int .i64 (n : Int)) := ⟨_, rfl⟩
  have hB5 : w2.heap[w.heap.size + 1]? = some (.cells #[.int .i64 (k : Int), .int .i64 s.inp, .int .i64 s.out, .int .i64 (n : Int), .int .i64 s.wt] 63 (0, 0)) := by rw [hw2]; exact box_set (k := 3) hB4 rfl
  have hd2 : BW w2 P B Mb K sta fv1 (.slice aa an ac) pv1 b' := by rw [hw2]; exact BV.far (BV.far hd1 (by omega) (by omega) hn1) (by omega) (by omega) hn1
  have HS2 : Hid (BS P Mb w w2 (ownB fv (.slice aa an ac) pv) (ownB fv1 (.slice aa an ac) pv1)) := by rw [hw2]; exact (hs01.setNew (by omega)).setNew (by omega)
  have HN1 : Hid (¬ ownB fv1 (.slice aa an ac) pv1 (w.heap.size + 1)) := hn1
  have HW2 : Hid (w2 = (w1.setCell ⟨w.heap.size + 1, 0, none⟩ (.int .i64 (k : Int))).setCell ⟨w.heap.size + 1, 3, none⟩ (.int .i64 (n : Int))) := hw2
  clear hw2 hs01 hs1 hd1 hmeet c00 c01 hn1 hB3 hB4
  go_wp2
  rw [← HW2.out]
  clear HW2 z0 z3 e0 e3 e3'
  have HAN : Hid (an = b'.arcs.length) := by rw [HL.out.2]; exact HAN0.out
  obtain ⟨Wf, hWf⟩ : ∃ Wf, Wf = w2.drew := ⟨_, rfl⟩
  have hbWf : Below w2.heap.size w2 Wf := by rw [hWf]; exact (bel_self w2).drew
  have HW : Hid (Wf = w2.drew) := hWf
  clear hWf
  have hdf : BW Wf P B Mb K sta fv1 (.slice aa an ac) pv1 b' := BV.below hd2 hbWf
  have HSf : Hid (BS P Mb w Wf (ownB fv (.slice aa an ac) pv) (ownB fv1 (.slice aa an ac) pv1)) := HS2.out.trans (BS.of_bel hbWf)
  have hBf := heap_bel hbWf hB5
  have c3 := box_cell (k := 3) (v := .slice aa an ac) (BV.box hdf) rfl
  have hS0 : (fun wx : World => wx.cell? ⟨P, 3, none⟩ = some (.slice aa an ac) ∧ wx.cell? ⟨w.heap.size + 1, 0, none⟩ = some (.int .i64 (k : Int)) ∧ wx.cell? ⟨w.heap.size + 1, 1, none⟩ = some (.int .i64 s.inp) ∧ wx.cell? ⟨w.heap.size + 1, 2, none⟩ = some (.int .i64 s.out) ∧ wx.cell? ⟨w.heap.size + 1, 3, none⟩ = some (.int .i64 (n : Int)) ∧ wx.cell? ⟨w.heap.size + 1, 4, none⟩ = some (.int .i64 s.wt)) Wf := ⟨c3, box_cell (k := 0) hBf rfl, box_cell (k := 1) hBf rfl, box_cell (k := 2) hBf rfl, box_cell (k := 3) hBf rfl, box_cell (k := 4) hBf rfl⟩
  have hBl := BV.lt hdf
  have hBP := BV.hP hdf
  clear hbWf hd2 hB5
  refine wp_region_noPanic ?_
  refine wp_region_U (fun wx : World => wx.cell? ⟨P, 3, none⟩ = some (.slice aa an ac) ∧ wx.cell? ⟨w.heap.size + 1, 0, none⟩ = some (.int .i64 (k : Int)) ∧ wx.cell? ⟨w.heap.size + 1, 1, none⟩ = some (.int .i64 s.inp) ∧ wx.cell? ⟨w.heap.size + 1, 2, none⟩ = some (.int .i64 s.out) ∧ wx.cell? ⟨w.heap.size + 1, 3, none⟩ = some (.int .i64 (n : Int)) ∧ wx.cell? ⟨w.heap.size + 1, 4, none⟩ = some (.int .i64 s.wt)) 12 (by kernel_rfl) (by rw [← HW.out]; exact hS0) (fun _ => ?_)
  rw [← HW.out]
  clear HW
  refine wpAnyU_take (i := 0) (v := .pointer (some ⟨P, 0, none⟩)) rfl (by kernel_rfl) (by kernel_rfl) (by kernel_rfl) (by kernel_rfl) (fun _ _ _ h => h) (Or.inl ⟨by rfl, fun wl hSw => ?_⟩) hS0 ?_
  · (try dsimp only at hSw); go_simp
  refine wpAnyU_take (i := 1) (v := .pointer (some ⟨P, 0, none⟩)) rfl (by kernel_rfl) (by kernel_rfl) (by kernel_rfl) (by kernel_rfl) (fun _ _ _ h => h) (Or.inl ⟨by rfl, fun wl hSw => ?_⟩) hS0 ?_
  · (try dsimp only at hSw); go_simp
  refine wpAnyU_take (i := 2) (v := .pointer (some ⟨P, 0, none⟩)) rfl (by kernel_rfl) (by kernel_rfl) (by kernel_rfl) (by kernel_rfl) (fun _ _ _ h => h) (Or.inl ⟨by rfl, fun wl hSw => ?_⟩) hS0 ?_
  · (try dsimp only at hSw); go_simp
  refine wpAnyU_take (i := 3) (v := .pointer (some ⟨P, 0, none⟩)) rfl (by kernel_rfl) (by kernel_rfl) (by kernel_rfl) (by kernel_rfl) (fun _ _ _ h => h) (Or.inl ⟨by rfl, fun wl hSw => ?_⟩) hS0 ?_
  · (try dsimp only at hSw); go_simp
  refine wpAnyU_take (i := 4) (v := .pointer (some ⟨P, 3, none⟩)) rfl (by kernel_rfl) (by kernel_rfl) (by kernel_rfl) (by kernel_rfl) (fun _ _ _ h => h) (Or.inl ⟨by rfl, fun wl hSw => ?_⟩) hS0 ?_
  · (try dsimp only at hSw); go_simp
  refine wpAnyU_take (i := 5) (v := .slice aa an ac) rfl (by kernel_rfl) (by kernel_rfl) (by kernel_rfl) (by kernel_rfl) (fun _ _ _ h => h) (Or.inl ⟨by rfl, fun wl hSw => ?_⟩) hS0 ?_
  · (try dsimp only at hSw); go_simp
  refine wpAnyU_take (i := 6) (v := .agg #[.int .i64 (k : Int), .int .i64 s.inp, .int .i64 s.out, .int .i64 (n : Int), .int .i64 s.wt]) rfl (by kernel_rfl) (by kernel_rfl) (by kernel_rfl) (by kernel_rfl) (fun _ _ _ h => h) (Or.inl ⟨by rfl, fun wl hSw => ?_⟩) hS0 ?_
  · (try dsimp only at hSw); go_simp
  have hbG := bel_up (bel_self Wf) (.cells #[.int .i64 (k : Int), .int .i64 s.inp, .int .i64 s.out, .int .i64 (n : Int), .int .i64 s.wt] 63)
  have hBg := heap_bel hbG hBf
  refine wpAnyU_one (i := 7) rfl (by kernel_rfl) (fun K hK => ?_)
  go_simp
  refine hK.out _ _ ⟨fun _ => ⟨bel_c hbG c3, box_cell (k := 0) hBg rfl, box_cell (k := 1) hBg rfl, box_cell (k := 2) hBg rfl, box_cell (k := 3) hBg rfl, box_cell (k := 4) hBg rfl⟩, ?_⟩
  clear hK K
  refine wpAnyU_one (i := 8) rfl (by kernel_rfl) (fun K hK => ?_)
  refine if_wanted rfl ?_
  refine wp_app_at (Operand.tmp 19) (Operand.tmp 21) 23 rfl B 63 i0 _ 5 40 Try.underlying23 hi hz0 hz1 hz2 rfl (by decide) (.slice aa an ac) an (arcsV b'.arcs) ?hs (ownsRow_bel (by have := BV.arc hdf; rw [← HAN.out] at this; exact this) hbG) (.slice (some ⟨Wf.heap.size, 0, none⟩) 1 1) 1 (arcCells ⟨k, s.inp, s.out, n, s.wt⟩) ?hx (Or.inr ⟨_, _, rfl, rfl, cells_new _ #[.int .i64 (k : Int), .int .i64 s.inp, .int .i64 s.out, .int .i64 (n : Int), .int .i64 s.wt] 63 _ rfl⟩) (oneCell_arc _) (by unfold maxLen; omega) (by omega) (by simp; omega) ?_
  case hs => go_simp
  case hx => go_simp
  intro v9 w9 hown9 hgrow9 hat9
  obtain ⟨ua, uc, rfl⟩ := own_sl hown9
  obtain ⟨hd9, hs9⟩ := BV.arcs (more := [⟨k, s.inp, s.out, n, s.wt⟩]) hdf hbG (by simpa [arcsV] using hown9) (by rw [HAN.out]; simp) hgrow9 hat9
  have hbx9 := BV.box2 hdf hbG hgrow9 (BV.aP hdf)
  have hB9 := (hgrow9.block _ (by have := heap_lt hBf; have := hbG.size; omega) (fun e => HN1.out (Or.inr (Or.inl e.symm)))).trans hBg
  have d3 := box_cell (k := 3) (v := .slice aa an ac) hbx9 rfl
  have z3 := box_frz hbx9 3
  have hS9 : (fun wx : World => wx.cell? ⟨P, 3, none⟩ = some (.slice aa an ac) ∧ wx.cell? ⟨w.heap.size + 1, 0, none⟩ = some (.int .i64 (k : Int)) ∧ wx.cell? ⟨w.heap.size + 1, 1, none⟩ = some (.int .i64 s.inp) ∧ wx.cell? ⟨w.heap.size + 1, 2, none⟩ = some (.int .i64 s.out) ∧ wx.cell? ⟨w.heap.size + 1, 3, none⟩ = some (.int .i64 (n : Int)) ∧ wx.cell? ⟨w.heap.size + 1, 4, none⟩ = some (.int .i64 s.wt)) w9 := ⟨d3, box_cell (k := 0) hB9 rfl, box_cell (k := 1) hB9 rfl, box_cell (k := 2) hB9 rfl, box_cell (k := 3) hB9 rfl, box_cell (k := 4) hB9 rfl⟩
  refine hK.out _ _ ⟨fun _ => hS9, ?_⟩
  clear hK K
  refine wpAnyU_one (i := 9) rfl (by kernel_rfl) (fun K hK => ?_)
  go_simp
  refine hK.out _ _ ⟨fun _ => hS9, ?_⟩
  clear hK K
  refine wpAnyU_one (i := 10) rfl (by kernel_rfl) (fun K hK => ?_)
  go_simp
  refine hK.out _ _ ⟨fun _ => hS9, ?_⟩
  clear hK K
  refine wpAnyU_one (i := 11) rfl (by kernel_rfl) (fun K hK => ?_)
  go_simp
  refine hK.out _ _ ⟨fun _ => hS9, ?_⟩
  clear hK K
  refine wpAnyU_one (i := 12) rfl (by kernel_rfl) (fun K hK => ?_)
  go_simp
  refine hK.out _ _ ⟨fun h => absurd rfl h, ?_⟩
  clear hK K
  refine wpAnyU_done (by kernel_rfl) ?_ _
  refine NoPanic.normal ?_
  go_wp2
  first | go_end0 | refine bodyPost_ret (results_none rfl _ _ _) rfl ?_
  rw [HL.out.1]
  exact ⟨rfl, _, _, _, hd9, HSf.out.trans hs9⟩
end Go.Proofs.Yteehgcbjmdideaa
