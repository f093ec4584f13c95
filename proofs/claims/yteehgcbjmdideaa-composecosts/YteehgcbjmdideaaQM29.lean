/- 'goAlone' of package compose. (Made by wip/gen/cpe.py.) -/
import Derived.Test.YteehgcbjmdideaaQM28
namespace Go.Proofs.Yteehgcbjmdideaa
open Go.RowKit Go.Shelf
attribute [local go_sem] Oper.semAt_some

theorem pairsV_get (ps : List (Int × Int)) {k : Nat} {x : Int × Int} (hk : ps[k]? = some x) : (pairsV ps)[k * 2]? = some (.int .i64 x.1) ∧ (pairsV ps)[k * 2 + 1]? = some (.int .i64 x.2) := by
  induction ps generalizing k with
  | nil => simp at hk
  | cons y ps ih =>
    have e : pairsV (y :: ps) = .int .i64 y.1 :: .int .i64 y.2 :: pairsV ps := by simp [pairsV, pairCells]
    rw [e]
    cases k with
    | zero =>
      have : y = x := by simpa using hk
      subst this
      exact ⟨rfl, rfl⟩
    | succ k =>
      have hk' : ps[k]? = some x := by simpa using hk
      obtain ⟨h1, h2⟩ := ih hk'
      rw [show (k + 1) * 2 = k * 2 + 1 + 1 by omega]
      exact ⟨by simpa using h1, by simpa using h2⟩
theorem pair_row {w : World} {B e n : Nat} {v : Value} {ps : List (Int × Int)} (h : w.ownsRow B e 2 v n (pairsV ps)) {k : Nat} {x : Int × Int} (hk : ps[k]? = some x) :
    ∃ g cap, v = .slice (some ⟨g, 0, none⟩) n cap ∧ w.cell? ⟨g, k * 2, none⟩ = some (.int .i64 x.1) ∧ w.cell? ⟨g, k * 2 + 1, none⟩ = some (.int .i64 x.2) := by
  obtain ⟨h1, h2⟩ := pairsV_get ps hk
  have hl := h.1
  rcases h.2 with ⟨e1, e2⟩ | ⟨g, cap, cur, he, _⟩
  · exfalso
    subst e2
    rw [Nat.zero_mul] at hl
    rw [List.length_eq_zero_iff.1 hl] at h1
    simp at h1
  · subst he
    have hc := h.cells (g := g) rfl
    have c1 := hc _ _ h1
    have c2 := hc _ _ h2
    rw [Addr.add_lit, Nat.zero_add] at c1 c2
    exact ⟨g, cap, rfl, c1, c2⟩

/-- a slice of arcs that lies ahead of B, or is empty -/
def ASliceB (B : Nat) (w : World) (aa : Option Addr) (m : Nat) (ars : List ArcD) : Prop := (m = 0 ∧ ars = []) ∨ ∃ ab ao, aa = some ⟨ab, ao, none⟩ ∧ ab < B ∧ ArcsAt w ab ao m ars ∧ m ≤ maxLen
theorem ASliceB.at {B m : Nat} {w W : World} {aa : Option Addr} {ars : List ArcD} (h : ASliceB B w aa m ars) (hk : ∀ q, q < B → W.heap[q]? = w.heap[q]?) (c : Nat) : ASlice W (.slice aa m c) ars := by
  rcases h with ⟨rfl, rfl⟩ | ⟨ab, ao, rfl, hB, ha, hm⟩
  · exact Or.inl ⟨_, _, rfl, rfl⟩
  · exact Or.inr ⟨ab, ao, m, c, rfl, ha.blk (hk ab hB), hm⟩
theorem ASliceB.keep {B m : Nat} {w W : World} {aa : Option Addr} {ars : List ArcD} (h : ASliceB B w aa m ars) (hk : ∀ q, q < B → W.heap[q]? = w.heap[q]?) : ASliceB B W aa m ars := by
  rcases h with h | ⟨ab, ao, e, hB, ha, hm⟩
  · exact Or.inl h
  · exact Or.inr ⟨ab, ao, e, hB, ha.blk (hk ab hB), hm⟩
theorem ASlice.toB {w : World} {aa : Option Addr} {m c : Nat} {ars : List ArcD} (h : ASlice w (.slice aa m c) ars) : ASliceB w.heap.size w aa m ars := by
  rcases h with ⟨_, _, e, e'⟩ | ⟨ab, ao, n', c', e, hx, hm⟩
  · injection e with _ e; exact Or.inl ⟨e, e'⟩
  · injection e with e1 e2 e3
    subst e2
    by_cases h0 : m = 0
    · subst h0
      exact Or.inl ⟨rfl, List.length_eq_zero_iff.1 hx.len⟩
    · exact Or.inr ⟨ab, ao, e1, cell_lt (hx.c0 0 (by omega)), hx, hm⟩

/-- what is known of the arcs of both, wherever it is asked -/
structure ArcsOf (K : TwoF) (w : World) (B : Nat) (aa : Option Addr) (m ac : Nat) (ca : Option Addr) (mc cc : Nat) : Prop where
  ar : K.ar = .slice aa m ac
  ar' : K.ar' = .slice ca mc cc
  len : K.f.arcs.length = m
  len' : K.g.arcs.length = mc
  hA : ASliceB B w aa m K.f.arcs
  hC : ASliceB B w ca mc K.g.arcs
theorem ArcsOf.below {K : TwoF} {w W : World} {B : Nat} {aa : Option Addr} {m ac : Nat} {ca : Option Addr} {mc cc : Nat} (h : ArcsOf K w B aa m ac ca mc cc) (hb : Below B w W) : ArcsOf K W B aa m ac ca mc cc :=
  ⟨h.ar, h.ar', h.len, h.len', h.hA.keep hb.block, h.hC.keep hb.block⟩

/-- how many pairs there are while steps are led along -/
theorem led_good {f g : FstD} (kf : Fine f) (kg : Fine g) {b : BothD} {k : Nat} {L : List Stp} (hnd : b.ps.Nodup) (hrg : ∀ y ∈ b.ps, InP f g y) (hL : ∀ s ∈ L, InP f g (s.to1, s.to2)) (hla : b.arcs.length ≤ 90000000) (hl : L.length ≤ 9000000) :
    (L.foldl (leadD k) b).ps.Nodup ∧ (∀ y ∈ (L.foldl (leadD k) b).ps, InP f g y) ∧ (L.foldl (leadD k) b).ps.length ≤ 100000 ∧ (L.foldl (leadD k) b).arcs.length ≤ 100000000 := by
  obtain ⟨_, h2, h3, new, h4, h5, _⟩ := led k L b
  have hr : ∀ y ∈ (L.foldl (leadD k) b).ps, InP f g y := fun y hy => by
    rcases h3 y hy with q | ⟨s, hs, rfl⟩
    · exact hrg y q
    · exact hL s hs
  refine ⟨h2 hnd, hr, ?_, ?_⟩
  · have h1 := pairs_le (h2 hnd) hr
    have a1 := kf.s2
    have a2 := kg.s2
    have h6 : f.states.toNat * g.states.toNat ≤ 200 * 200 := Nat.mul_le_mul (by omega) (by omega)
    omega
  · rw [h4, List.length_append]
    omega


set_option maxRecDepth 100000 in
set_option maxHeartbeats 4000000 in
theorem goAlone_any (K : TwoF) (P B Mb : Nat) (sta : Int) (fv av pv : Value) (b : BothD) (fb fo N fc gb go M gc : Nat) (aa : Option Addr) (m ac : Nat) (ca : Option Addr) (mc cc : Nat) (k : Nat) (x : Int × Int) (w : World)
    (h : BW w P B Mb K sta fv av pv b) (hK : TwoAt K w B fb fo N fc gb go M gc) (hR : ArcsOf K w B aa m ac ca mc cc) (hk : b.ps[k]? = some x) (hm : m ≤ 100) (hmc : mc ≤ 100) (hnd : b.ps.Nodup) (hrg : ∀ y ∈ b.ps, InP K.f K.g y) (hla : b.arcs.length ≤ 90000000) :
    Calls Try.prog 107 #[.pointer (some ⟨P, 0, none⟩), .int .i64 (k : Int)] w fun e w' =>
      e = .returned (.tuple #[]) ∧ ∃ fv' av' pv', BW w' P B Mb K sta fv' av' pv' ((fstL2 K.f.arcs x.1 x.2 ++ sndL K.g.arcs x.1 x.2).foldl (leadD k) b) ∧ BS P Mb w w' (ownB fv av pv) (ownB fv' av' pv') := by
  have hkl : k < b.ps.length := (List.getElem?_eq_some_iff.1 hk).1
  obtain ⟨pg, pc, rfl, hc1, hc2⟩ := pair_row (BV.pr h) hk
  obtain ⟨pn, hpn⟩ : ∃ n, n = b.ps.length := ⟨_, rfl⟩
  rw [← hpn] at h hkl ⊢
  have HPN : Hid (pn = b.ps.length) := hpn
  obtain ⟨W0, hW0⟩ : ∃ W0, W0 = (w.alloc (.cells #[.pointer (some ⟨P, 0, none⟩)] 88)).alloc (.cells #[.int .i64 (k : Int)] 3) := ⟨_, rfl⟩
  have hb0 : Below w.heap.size w W0 := by rw [hW0]; exact two_up w _ _
  have hB0 : W0.heap[w.heap.size]? = some (.cells #[.pointer (some ⟨P, 0, none⟩)] 88 (0, 0)) := by rw [hW0]; exact heap_bel (bel_up (bel_self _) _) (heap_alloc_new w _)
  have hB1 : W0.heap[w.heap.size + 1]? = some (.cells #[.int .i64 (k : Int)] 3 (0, 0)) := by
    rw [hW0]
    have := heap_alloc_new (w.alloc (.cells #[.pointer (some ⟨P, 0, none⟩)] 88)) (.cells #[.int .i64 (k : Int)] 3)
    rw [one_size] at this
    exact this
  obtain ⟨Wd, hWd⟩ : ∃ Wd, Wd = W0.drew := ⟨_, rfl⟩
  have hb0d : Below W0.heap.size W0 Wd := by rw [hWd]; exact (bel_self W0).drew
  have hbd : Below w.heap.size w Wd := bel_on hb0 hb0d
  have hBd0 := heap_bel hb0d hB0
  have hBd1 := heap_bel hb0d hB1
  have hdd : BW Wd P B Mb K sta fv av (.slice (some ⟨pg, 0, none⟩) pn pc) b := BV.below h hbd
  have hS0 : (fun wx : World => wx.cell? ⟨w.heap.size, 0, none⟩ = some (.pointer (some ⟨P, 0, none⟩)) ∧ wx.cell? ⟨w.heap.size + 1, 0, none⟩ = some (.int .i64 (k : Int)) ∧ wx.cell? ⟨P, 13, none⟩ = some (.slice (some ⟨pg, 0, none⟩) pn pc) ∧ wx.cell? ⟨pg, k * 2, none⟩ = some (.int .i64 x.1) ∧ wx.cell? ⟨pg, k * 2 + 1, none⟩ = some (.int .i64 x.2)) Wd := ⟨box_cell (k := 0) hBd0 rfl, box_cell (k := 0) hBd1 rfl, box_cell (k := 13) (v := .slice (some ⟨pg, 0, none⟩) pn pc) (BV.box hdd) rfl, bel_c hbd hc1, bel_c hbd hc2⟩
  have hki : (k : Int) < pn := by omega
  have HWD : Hid (Wd = W0.drew) := hWd
  refine (callsIn_wide (n := 8)).1 ?_
  refine callsIn_of_wp_marks Try.func107 rfl trivial ?_ rfl
  simp only [Try.ntmps107, List.size_toArray, List.length_cons, List.length_nil, Nat.reduceAdd, Nat.reduceSub, Array.replicate_succ, Array.replicate_zero, List.push_toArray, List.append_toArray, List.nil_append, List.cons_append]
  refine wpIn_wide.2 ?_
  go_wp2
  rw [← hW0]
  clear hW0 hWd hb0d hB0 hB1 hdd hpn
  refine wp_region_noPanic ?_
  refine wp_region_U (fun wx : World => wx.cell? ⟨w.heap.size, 0, none⟩ = some (.pointer (some ⟨P, 0, none⟩)) ∧ wx.cell? ⟨w.heap.size + 1, 0, none⟩ = some (.int .i64 (k : Int)) ∧ wx.cell? ⟨P, 13, none⟩ = some (.slice (some ⟨pg, 0, none⟩) pn pc) ∧ wx.cell? ⟨pg, k * 2, none⟩ = some (.int .i64 x.1) ∧ wx.cell? ⟨pg, k * 2 + 1, none⟩ = some (.int .i64 x.2)) 8 (by kernel_rfl) (by rw [← HWD.out]; exact hS0) (fun _ => ?_)
  rw [← HWD.out]
  clear HWD
  refine wpAnyU_take (i := 0) (v := .pointer (some ⟨P, 0, none⟩)) rfl (by kernel_rfl) (by kernel_rfl) (by kernel_rfl) (by kernel_rfl) (fun _ _ _ h => h) (Or.inl ⟨by rfl, fun wl hSw => ?_⟩) hS0 ?_
  · (try dsimp only at hSw); go_simp
  refine wpAnyU_take (i := 1) (v := .pointer (some ⟨P, 0, none⟩)) rfl (by kernel_rfl) (by kernel_rfl) (by kernel_rfl) (by kernel_rfl) (fun _ _ _ h => h) (Or.inl ⟨by rfl, fun wl hSw => ?_⟩) hS0 ?_
  · (try dsimp only at hSw); go_simp
  refine wpAnyU_take (i := 2) (v := .pointer (some ⟨P, 13, none⟩)) rfl (by kernel_rfl) (by kernel_rfl) (by kernel_rfl) (by kernel_rfl) (fun _ _ _ h => h) (Or.inl ⟨by rfl, fun wl hSw => ?_⟩) hS0 ?_
  · (try dsimp only at hSw); go_simp
  refine wpAnyU_take (i := 3) (v := .slice (some ⟨pg, 0, none⟩) pn pc) rfl (by kernel_rfl) (by kernel_rfl) (by kernel_rfl) (by kernel_rfl) (fun _ _ _ h => h) (Or.inl ⟨by rfl, fun wl hSw => ?_⟩) hS0 ?_
  · (try dsimp only at hSw); go_simp
  refine wpAnyU_take (i := 4) (v := .int .i64 (k : Int)) rfl (by kernel_rfl) (by kernel_rfl) (by kernel_rfl) (by kernel_rfl) (fun _ _ _ h => h) (Or.inl ⟨by rfl, fun wl hSw => ?_⟩) hS0 ?_
  · (try dsimp only at hSw); go_simp
  refine wpAnyU_take (i := 5) (v := .pointer (some ⟨pg, k * 2, none⟩)) rfl (by kernel_rfl) (by kernel_rfl) (by kernel_rfl) (by kernel_rfl) (fun _ _ _ h => h) (Or.inl ⟨by rfl, fun wl hSw => ?_⟩) hS0 ?_
  · (try dsimp only at hSw); go_simp
  refine wpAnyU_take (i := 6) (v := .agg #[.int .i64 x.1, .int .i64 x.2]) rfl (by kernel_rfl) (by kernel_rfl) (by kernel_rfl) (by kernel_rfl) (fun _ _ _ h => h) (Or.inl ⟨by rfl, fun wl hSw => ?_⟩) hS0 ?_
  · (try dsimp only at hSw); go_simp
  have hbZ := bel_up (bel_self Wd) (.cells #[.int .i64 0, .int .i64 0] 120)
  refine wpAnyU_one (i := 7) rfl (by kernel_rfl) (fun Kc hK => ?_)
  go_simp
  refine hK.out _ _ ⟨fun _ => ⟨bel_c hbZ hS0.1, bel_c hbZ hS0.2.1, bel_c hbZ hS0.2.2.1, bel_c hbZ hS0.2.2.2.1, bel_c hbZ hS0.2.2.2.2⟩, ?_⟩
  clear hK Kc
  refine wpAnyU_one (i := 8) rfl (by kernel_rfl) (fun Kc hK => ?_)
  go_simp
  refine hK.out _ _ ⟨fun h => absurd rfl h, ?_⟩
  clear hK Kc
  refine wpAnyU_done (by kernel_rfl) ?_ _
  refine NoPanic.normal ?_
  obtain ⟨Q2, hQ2⟩ : ∃ Q, Q = Wd.heap.size := ⟨_, rfl⟩
  obtain ⟨W1, hW1⟩ : ∃ W1, W1 = Wd.alloc (.cells #[.int .i64 x.1, .int .i64 x.2] 120) := ⟨_, rfl⟩
  have hb1 : Below Wd.heap.size Wd W1 := by rw [hW1]; exact bel_up (bel_self Wd) _
  have hqW1 : W1.heap[Q2]? = some (.cells #[.int .i64 x.1, .int .i64 x.2] 120 (0, 0)) := by rw [hW1, hQ2]; exact heap_alloc_new Wd _
  have hbw1 := bel_on hbd hb1
  have hdW1 : BW W1 P B Mb K sta fv av (.slice (some ⟨pg, 0, none⟩) pn pc) b := BV.below h hbw1
  have hpW1 := heap_bel hb1 hBd0
  have hfW1 := heap_bel hb1 hBd1
  have hQl : w.heap.size + 2 ≤ Q2 := by rw [hQ2]; exact heap_lt hBd1
  go_wp2
  rw [← hW1, ← hQ2]
  clear hW1 hQ2 hb1 hbZ hS0 hBd0 hBd1 hbd
  obtain ⟨We, hWe⟩ : ∃ We, We = W1.drew := ⟨_, rfl⟩
  have hbWe : Below W1.heap.size W1 We := by rw [hWe]; exact (bel_self W1).drew
  have HW : Hid (We = W1.drew) := hWe
  have hdWe := BV.below hdW1 hbWe
  have hpWe := heap_bel hbWe hpW1
  have hfWe := heap_bel hbWe hfW1
  have hqWe := heap_bel hbWe hqW1
  have hS0 : (fun wx : World => wx.cell? ⟨w.heap.size, 0, none⟩ = some (.pointer (some ⟨P, 0, none⟩)) ∧ wx.cell? ⟨P, 4, none⟩ = some (.int .i64 K.f.states) ∧ wx.cell? ⟨P, 5, none⟩ = some (.int .i64 K.f.start) ∧ wx.cell? ⟨P, 6, none⟩ = some K.fi ∧ wx.cell? ⟨P, 7, none⟩ = some K.ar ∧ wx.cell? ⟨Q2, 0, none⟩ = some (.int .i64 x.1)) We := ⟨box_cell (k := 0) hpWe rfl, box_cell (k := 4) hdWe.box rfl, box_cell (k := 5) hdWe.box rfl, box_cell (k := 6) hdWe.box rfl, box_cell (k := 7) hdWe.box rfl, box_cell (k := 0) hqWe rfl⟩
  clear hWe
  refine wp_region_noPanic ?_
  refine wp_region_F (fun wx : World => wx.cell? ⟨w.heap.size, 0, none⟩ = some (.pointer (some ⟨P, 0, none⟩)) ∧ wx.cell? ⟨P, 4, none⟩ = some (.int .i64 K.f.states) ∧ wx.cell? ⟨P, 5, none⟩ = some (.int .i64 K.f.start) ∧ wx.cell? ⟨P, 6, none⟩ = some K.fi ∧ wx.cell? ⟨P, 7, none⟩ = some K.ar ∧ wx.cell? ⟨Q2, 0, none⟩ = some (.int .i64 x.1)) [] (by kernel_rfl) (by rw [← HW.out]; exact hS0) (fun _ => ?_)
  rw [← HW.out]
  clear HW
  refine wpAnyF_take (i := 0) (v := .pointer (some ⟨P, 0, none⟩)) rfl (by kernel_rfl) (by kernel_rfl) (by kernel_rfl) (by kernel_rfl) (fun _ _ _ h => h) (Or.inl ⟨by rfl, fun wl hSw => ?_⟩) hS0 ?_
  · (try dsimp only at hSw); go_simp
  refine wpAnyF_take (i := 1) (v := .pointer (some ⟨P, 0, none⟩)) rfl (by kernel_rfl) (by kernel_rfl) (by kernel_rfl) (by kernel_rfl) (fun _ _ _ h => h) (Or.inl ⟨by rfl, fun wl hSw => ?_⟩) hS0 ?_
  · (try dsimp only at hSw); go_simp
  refine wpAnyF_take (i := 2) (v := .pointer (some ⟨P, 4, none⟩)) rfl (by kernel_rfl) (by kernel_rfl) (by kernel_rfl) (by kernel_rfl) (fun _ _ _ h => h) (Or.inl ⟨by rfl, fun wl hSw => ?_⟩) hS0 ?_
  · (try dsimp only at hSw); go_simp
  refine wpAnyF_take (i := 3) (v := .agg #[.int .i64 K.f.states, .int .i64 K.f.start, K.fi, K.ar]) rfl (by kernel_rfl) (by kernel_rfl) (by kernel_rfl) (by kernel_rfl) (fun _ _ _ h => h) (Or.inl ⟨by rfl, fun wl hSw => ?_⟩) hS0 ?_
  · (try dsimp only at hSw); go_simp
  refine wpAnyF_take (i := 4) (v := .pointer (some ⟨Q2, 0, none⟩)) rfl (by kernel_rfl) (by kernel_rfl) (by kernel_rfl) (by kernel_rfl) (fun _ _ _ h => h) (Or.inl ⟨by rfl, fun wl hSw => ?_⟩) hS0 ?_
  · (try dsimp only at hSw); go_simp
  refine wpAnyF_take (i := 5) (v := .int .i64 x.1) rfl (by kernel_rfl) (by kernel_rfl) (by kernel_rfl) (by kernel_rfl) (fun _ _ _ h => h) (Or.inl ⟨by rfl, fun wl hSw => ?_⟩) hS0 ?_
  · (try dsimp only at hSw); go_simp
  have hbL := bel_up (bel_up (bel_up (bel_self We) (.cells #[.int .i64 K.f.states, .int .i64 K.f.start, K.fi, K.ar] 25)) (.cells #[.int .i64 x.1] 3)) (.cells #[.func (.func 146) #[] #[]] 104)
  refine wpAnyF_one (i := 6) rfl (by kernel_rfl) (fun Kc hK => ?_)
  go_simp
  refine (leaving_any K.f.states K.f.start K.fi K.ar x.1 146 #[] We).mono ?_
  rintro e w' ⟨rfl, rfl⟩
  refine hK.out _ _ ⟨fun _ => ⟨bel_c hbL hS0.1, bel_c hbL hS0.2.1, bel_c hbL hS0.2.2.1, bel_c hbL hS0.2.2.2.1, bel_c hbL hS0.2.2.2.2.1, bel_c hbL hS0.2.2.2.2.2⟩, ?_⟩
  clear hK Kc
  refine wpAnyF_done (by kernel_rfl) ?_ _
  refine NoPanic.normal ?_
  obtain ⟨Qx, hQx⟩ : ∃ Q, Q = We.heap.size := ⟨_, rfl⟩
  obtain ⟨W2, hW2⟩ : ∃ W2, W2 = ((We.alloc (.cells #[.int .i64 K.f.states, .int .i64 K.f.start, K.fi, K.ar] 25)).alloc (.cells #[.int .i64 x.1] 3)).alloc (.cells #[.func (.func 146) #[] #[]] 104) := ⟨_, rfl⟩
  rw [← hW2] at hbL
  have hx3 : W2.heap[Qx]? = some (.cells #[.int .i64 K.f.states, .int .i64 K.f.start, K.fi, K.ar] 25 (0, 0)) := by rw [hW2, hQx]; exact heap_bel (bel_up (bel_up (bel_self _) _) _) (heap_alloc_new We _)
  have hx4 : W2.heap[Qx + 1]? = some (.cells #[.int .i64 x.1] 3 (0, 0)) := by
    rw [hW2, hQx]
    have := heap_alloc_new (We.alloc (.cells #[.int .i64 K.f.states, .int .i64 K.f.start, K.fi, K.ar] 25)) (.cells #[.int .i64 x.1] 3)
    rw [one_size] at this
    exact heap_bel (bel_up (bel_self _) _) this
  have hx5 : W2.heap[Qx + 1 + 1]? = some (.cells #[.func (.func 146) #[] #[]] 104 (0, 0)) := by
    rw [hW2, hQx]
    have := heap_alloc_new ((We.alloc (.cells #[.int .i64 K.f.states, .int .i64 K.f.start, K.fi, K.ar] 25)).alloc (.cells #[.int .i64 x.1] 3)) (.cells #[.func (.func 146) #[] #[]] 104)
    rw [one_size, one_size] at this
    exact this
  have hQw : We.heap.size ≤ Qx := by rw [hQx]; exact Nat.le_refl _
  have hdW2 := BV.below hdWe hbL
  have hpW2 := heap_bel hbL hpWe
  have hfW2 := heap_bel hbL hfWe
  have hqW2 := heap_bel hbL hqWe
  go_wp2
  rw [← hQx, ← hW2]
  clear hW2 hQx hS0
  have hQxw : w.heap.size ≤ Qx := by have := heap_lt hpWe; omega
  have hW2s : w.heap.size ≤ W2.heap.size := by have := heap_lt hqW2; omega
  have hbw2 : Below w.heap.size w W2 := bel_on (bel_on hbw1 hbWe) hbL
  have hOw := BV.ownLt h
  have hPw := BV.lt h
  have hMw := (BV.mp h).lt
  have hBw : B ≤ w.heap.size := by have := BV.hP h; omega
  have HKP : Hid (∀ q, w.heap.size ≤ q → q < W2.heap.size → KeptB W2 P Mb (ownB fv av (.slice (some ⟨pg, 0, none⟩) pn pc)) q) := fun q h1 h2 => ⟨h2, by omega, by omega, fun e => by have := hOw q e; omega⟩
  have HBX : Hid (∀ W O', BS P Mb W2 W (ownB fv av (.slice (some ⟨pg, 0, none⟩) pn pc)) O' → W.heap[w.heap.size]? = some (.cells #[.pointer (some ⟨P, 0, none⟩)] 88 (0, 0)) ∧ W.heap[w.heap.size + 1]? = some (.cells #[.int .i64 (k : Int)] 3 (0, 0)) ∧ W.heap[Q2]? = some (.cells #[.int .i64 x.1, .int .i64 x.2] 120 (0, 0)) ∧ Below B w W) := fun W O' hs => by
    have key : ∀ {q : Nat} {o : Obj}, w.heap.size ≤ q → W2.heap[q]? = some o → W.heap[q]? = some o := fun {q o} h1 h2 => (hs.block q (heap_lt h2) (by omega) (by omega) (fun e => by have := hOw q e; omega)).trans h2
    exact ⟨key (Nat.le_refl _) hpW2, key (by omega) hfW2, key (by omega) hqW2, (hbw2.mono hBw).trans (hs.below hdW2)⟩
  have HW2 : Hid (Mb < W2.heap.size ∧ BS P Mb w W2 (ownB fv av (.slice (some ⟨pg, 0, none⟩) pn pc)) (ownB fv av (.slice (some ⟨pg, 0, none⟩) pn pc))) := ⟨by omega, BS.of_bel hbw2⟩
  have HKQ : Hid (∀ q, q < B → KeptB W2 P Mb (ownB fv av (.slice (some ⟨pg, 0, none⟩) pn pc)) q) := fun q hq => ⟨by omega, by have := BV.hP h; omega, by have := BV.hM h; omega, fun e => by have := hOw q e; omega⟩
  have HAR : Hid (∀ W', (∀ q, KeptB W2 P Mb (ownB fv av (.slice (some ⟨pg, 0, none⟩) pn pc)) q → W'.heap[q]? = W2.heap[q]?) → ASlice W' (.slice aa m ac) K.f.arcs) := fun W' hk => hR.hA.at (fun q hq => (hk q (HKQ.out q hq)).trans (hbw2.block q (by omega))) ac
  have kf := hK.kf
  have kg := hK.kg
  have hxr := hrg x (List.mem_of_getElem? hk)
  have HLD : Hid (∀ pre : List { a : ArcD // a ∈ leavL x.1 (fun a => a.out == 0) K.f.arcs }, pre.length ≤ 3000 → (((pre.map Subtype.val).map (fstS x.2)).foldl (leadD k) b).ps.length ≤ 100000 ∧ (((pre.map Subtype.val).map (fstS x.2)).foldl (leadD k) b).arcs.length ≤ 100000000) := fun pre hl => by
    have := led_good kf kg (k := k) (L := (pre.map Subtype.val).map (fstS x.2)) hnd hrg (fun s hs => by
      obtain ⟨a, ha, rfl⟩ := List.mem_map.1 hs
      obtain ⟨y, hy, rfl⟩ := List.mem_map.1 ha
      obtain ⟨q1, q2⟩ := List.mem_filter.1 y.2
      simp only [Bool.and_eq_true, beq_iff_eq] at q2
      exact (stp_in kf kg hxr (mem_stp.2 (Or.inr (Or.inl ⟨y.1, q1, q2.1, q2.2, rfl⟩)))).1) hla (by rw [List.length_map, List.length_map]; omega)
    exact this.2.2
  have HIN : Hid (∀ y : { a : ArcD // a ∈ leavL x.1 (fun a => a.out == 0) K.f.arcs }, InP K.f K.g ((fstS x.2 y.1).to1, (fstS x.2 y.1).to2)) := fun y => by
    obtain ⟨q1, q2⟩ := List.mem_filter.1 y.2
    simp only [Bool.and_eq_true, beq_iff_eq] at q2
    exact (stp_in kf kg hxr (mem_stp.2 (Or.inr (Or.inl ⟨y.1, q1, q2.1, q2.2, rfl⟩)))).1
  have HTW : Hid (∀ W, Below B w W → TwoAt K W B fb fo N fc gb go M gc) := fun W hb => hK.below hb
  refine (wpIn_wide (n := 8)).1 ?_
  refine wpIn_rangeFunc_ownH (F := Fence.wide) rfl (by omega) (gf := 165) (lb := #[.pointer (some ⟨Qx, 0, none⟩), .pointer (some ⟨Qx + 1, 0, none⟩), .pointer (some ⟨Qx + 1 + 1, 0, none⟩)]) rfl trivial (enters_of Try.func165 (by kernel_rfl) rfl)
    (leaving_stops _ (by omega) (KeptB W2 P Mb (ownB fv av (.slice (some ⟨pg, 0, none⟩) pn pc))) Qx (Qx + 1) (Qx + 1 + 1) aa m ac K.f.arcs x.1 146 #[] (fun a => a.out == 0) (by omega) cgA1 W2 (fun W' _ a _ => alo1_any a W') (HKP.out _ (by omega) (heap_lt hx4)) (HKP.out _ (by omega) (heap_lt hx5)) (fun q hq => hq.1) (by have := box_cell (k := 3) (v := K.ar) hx3 rfl; rw [hR.ar] at this; exact this) (box_cell (k := 0) hx4 rfl) (box_cell (k := 0) hx5 rfl) HAR.out hR.len)
    (fun h k => kpB_trans h k) (fun W l o o' hl _ _ _ => kpB_put (Nat.le_refl _) W l o' hl) (Below.refl _ _) (fun _ => rfl)
    (fun (pre : List { a : ArcD // a ∈ leavL x.1 (fun a => a.out == 0) K.f.arcs }) W => ∃ fv' av' pv', BW W P B Mb K sta fv' av' pv' (((pre.map Subtype.val).map (fstS x.2)).foldl (leadD k) b) ∧ BS P Mb W2 W (ownB fv av (.slice (some ⟨pg, 0, none⟩) pn pc)) (ownB fv' av' pv'))
    (fun _ _ _ => False)
    (fun s A B' row ⟨fv', av', pv', h1, h2⟩ hg hr => ⟨fv', av', pv', BV.kept h1 hg hr HW2.out.1, h2.kept hg (Nat.le_refl _) (fun r e => (hr r e).1)⟩)
    (fun _ _ _ _ _ hs _ _ => hs)
    ⟨fv, av, _, hdW2, BS.refl⟩
    (fun y a' W => ∃ q, W2.heap.size ≤ q ∧ W.heap[q]? = some (.cells #[.int .i64 y.1.src, .int .i64 y.1.inp, .int .i64 y.1.out, .int .i64 y.1.dst, .int .i64 y.1.wt] 63 (0, 0)) ∧ a' = { tmps := #[.pointer (some ⟨P, 0, none⟩), .int .i64 (k : Int), .pointer (some ⟨w.heap.size, 0, none⟩), .pointer (some ⟨w.heap.size + 1, 0, none⟩), .pointer (some ⟨Q2, 0, none⟩), .pointer (some ⟨q, 0, none⟩), undef, .pointer (some ⟨P, 0, none⟩), .pointer (some ⟨P, 0, none⟩), .pointer (some ⟨P, 13, none⟩), .slice (some ⟨pg, 0, none⟩) pn pc, .int .i64 (k : Int), .pointer (some ⟨pg, k * 2, none⟩), .agg #[.int .i64 x.1, .int .i64 x.2], .pointer (some ⟨P, 0, none⟩), .pointer (some ⟨P, 0, none⟩), .pointer (some ⟨P, 4, none⟩), .agg #[.int .i64 K.f.states, .int .i64 K.f.start, K.fi, K.ar], .pointer (some ⟨Q2, 0, none⟩), .int .i64 x.1, .func (.func 165) #[] #[.pointer (some ⟨Qx, 0, none⟩), .pointer (some ⟨Qx + 1, 0, none⟩), .pointer (some ⟨Qx + 1 + 1, 0, none⟩)], .agg #[.int .i64 y.1.src, .int .i64 y.1.inp, .int .i64 y.1.out, .int .i64 y.1.dst, .int .i64 y.1.wt], undef, undef, undef, undef, undef, undef, undef, undef, undef, undef, undef, undef, undef, undef, undef, undef, undef, undef, undef, undef, undef, undef, undef, undef, undef, undef, undef, undef, undef, undef, undef, undef, undef, undef], defers := [] })
    (fun y a' _ X Y row hs hg hr => by
      obtain ⟨q, h1, h2, h3⟩ := hs
      exact ⟨q, h1, (hg.block q (heap_lt h2) (fun e => by obtain ⟨_, o, ho, hc⟩ := hr q e.symm; rw [h2] at ho; cases ho; cases hc)).trans h2, h3⟩)
    ?assign ?body ?done ?stop
  case assign =>
    rintro l pre y W Kc ⟨fv', av', pv', h1, h2⟩ hKc
    unfold arcV
    gi_wp2
    have hbA := bel_up (bel_self W) (.cells #[.int .i64 y.1.src, .int .i64 y.1.inp, .int .i64 y.1.out, .int .i64 y.1.dst, .int .i64 y.1.wt] 63)
    refine hKc _ _ ((KeepsOthers.alloc W _).from _) (kpB_bel hbA h2.size) ⟨fv', av', pv', BV.below h1 hbA, h2.trans (BS.of_bel hbA)⟩ ⟨W.heap.size, h2.size, heap_alloc_new W _, ?_⟩
    rfl
  case body =>
    rintro l pre y a' W hl hr ⟨fv', av', pv', h1, h2⟩ ⟨q, hq1, hq2, rfl⟩ hlen
    dsimp only
    obtain ⟨a, ha⟩ : ∃ a, a = y.1 := ⟨_, rfl⟩
    have HAY : Hid (a = y.1) := ha
    rw [← ha] at hq2
    simp only [← ha]
    have e1 := box_cell (k := 1) hq2 rfl
    have e3 := box_cell (k := 3) hq2 rfl
    have e4 := box_cell (k := 4) hq2 rfl
    obtain ⟨g0, g1, g2, hbB⟩ := HBX.out W _ h2
    have f0 := box_cell (k := 0) g0 rfl
    have f1 := box_cell (k := 0) g1 rfl
    have f2 := box_cell (k := 0) g2 rfl
    have f3 := box_cell (k := 1) g2 rfl
    obtain ⟨l1, l2⟩ := HLD.out pre (by omega)
    have hlead := blead_any K P B Mb sta fv' av' pv' _ fb fo N fc gb go M gc (fstS x.2 a) k 0 0 W h1 (HTW.out W hbB) (by rw [ha]; exact HIN.out y) l1 l2
    clear g0 g1 g2 hq2 ha l1 l2
    gi_wp2_with (refine ⟨trivial, ?_⟩; gi_at_call 145; refine (CallsIn.inRound l (callsIn_wide.2 hlead)).mono ?_; rintro e w2 ⟨rfl, fv2, av2, pv2, h3, h4⟩)
    exact ⟨h4.keepsFrom h1 HW2.out.1, h2.kpB h4, fv2, av2, pv2, by rw [List.map_append, List.map_append, List.foldl_append, List.map_singleton, List.map_singleton, ← HAY.out]; exact h3, h2.trans h4⟩
  case done =>
    rintro D ys Wx hD hys ⟨fv1, av1, pv1, h1, h2⟩ hDd
    rw [hys] at h1
    change BW Wx P B Mb K sta fv1 av1 pv1 ((fstL2 K.f.arcs x.1 x.2).foldl (leadD k) b) at h1
    gi_wp2
    go_wp2
    obtain ⟨b1, hb1⟩ : ∃ b1, b1 = (fstL2 K.f.arcs x.1 x.2).foldl (leadD k) b := ⟨_, rfl⟩
    rw [← hb1] at h1
    have HB1 : Hid (b1 = (fstL2 K.f.arcs x.1 x.2).foldl (leadD k) b) := hb1
    have hgood : b1.ps.Nodup ∧ (∀ y ∈ b1.ps, InP K.f K.g y) ∧ b1.arcs.length ≤ 90005000 := by
      obtain ⟨_, l2, l3, new, l4, l5, _⟩ := led k (fstL2 K.f.arcs x.1 x.2) b
      rw [← hb1] at l2 l3 l4
      refine ⟨l2 hnd, fun y hy => ?_, ?_⟩
      · rcases l3 y hy with q | ⟨s, hs, rfl⟩
        · exact hrg y q
        · exact (stp_in kf kg hxr (List.mem_append.2 (Or.inr (List.mem_append.2 (Or.inl hs))))).1
      · have : (fstL2 K.f.arcs x.1 x.2).length ≤ K.f.arcs.length := by unfold fstL2; rw [List.length_map]; exact List.length_filter_le _ _
        have := hR.len
        rw [l4, List.length_append]
        omega
    obtain ⟨hpWx, hfWx, hqWx, hbBx⟩ := HBX.out Wx _ h2
    have hdWx : BW Wx P B Mb K sta fv1 av1 pv1 b1 := h1
    have hRx := hR.below hbBx
    have hO1 : ∀ q, w.heap.size ≤ q → q < W2.heap.size → ¬ ownB fv1 av1 pv1 q := fun q q1 q2 e => by
      rcases h2.own q e with e | e
      · have := hOw q e; omega
      · omega
    have hQ2l := heap_lt hqW2
    have hx1l := heap_lt hfW2
    have HS1 : Hid (BS P Mb w Wx (ownB fv av (.slice (some ⟨pg, 0, none⟩) pn pc)) (ownB fv1 av1 pv1)) := HW2.out.2.trans h2
    have hOx := BV.ownLt hdWx
    have hPx := BV.lt hdWx
    have hMx := (BV.mp hdWx).lt
    have hDx := heap_lt hDd
    clear hb1
    obtain ⟨Wg, hWg⟩ : ∃ We, We = Wx.drew := ⟨_, rfl⟩
    have hbWg : Below Wx.heap.size Wx Wg := by rw [hWg]; exact (bel_self Wx).drew
    have HW : Hid (Wg = Wx.drew) := hWg
    have hdWg := BV.below hdWx hbWg
    have hpWg := heap_bel hbWg hpWx
    have hfWg := heap_bel hbWg hfWx
    have hqWg := heap_bel hbWg hqWx
    have hS0 : (fun wx : World => wx.cell? ⟨w.heap.size, 0, none⟩ = some (.pointer (some ⟨P, 0, none⟩)) ∧ wx.cell? ⟨P, 8, none⟩ = some (.int .i64 K.g.states) ∧ wx.cell? ⟨P, 9, none⟩ = some (.int .i64 K.g.start) ∧ wx.cell? ⟨P, 10, none⟩ = some K.fj ∧ wx.cell? ⟨P, 11, none⟩ = some K.ar' ∧ wx.cell? ⟨Q2, 1, none⟩ = some (.int .i64 x.2)) Wg := ⟨box_cell (k := 0) hpWg rfl, box_cell (k := 8) hdWg.box rfl, box_cell (k := 9) hdWg.box rfl, box_cell (k := 10) hdWg.box rfl, box_cell (k := 11) hdWg.box rfl, box_cell (k := 1) hqWg rfl⟩
    clear hWg
    refine wp_region_noPanic ?_
    refine wp_region_F (fun wx : World => wx.cell? ⟨w.heap.size, 0, none⟩ = some (.pointer (some ⟨P, 0, none⟩)) ∧ wx.cell? ⟨P, 8, none⟩ = some (.int .i64 K.g.states) ∧ wx.cell? ⟨P, 9, none⟩ = some (.int .i64 K.g.start) ∧ wx.cell? ⟨P, 10, none⟩ = some K.fj ∧ wx.cell? ⟨P, 11, none⟩ = some K.ar' ∧ wx.cell? ⟨Q2, 1, none⟩ = some (.int .i64 x.2)) [] (by kernel_rfl) (by rw [← HW.out]; exact hS0) (fun _ => ?_)
    rw [← HW.out]
    clear HW
    refine wpAnyF_take (i := 0) (v := .pointer (some ⟨P, 0, none⟩)) rfl (by kernel_rfl) (by kernel_rfl) (by kernel_rfl) (by kernel_rfl) (fun _ _ _ h => h) (Or.inl ⟨by rfl, fun wl hSw => ?_⟩) hS0 ?_
    · (try dsimp only at hSw); go_simp
    refine wpAnyF_take (i := 1) (v := .pointer (some ⟨P, 0, none⟩)) rfl (by kernel_rfl) (by kernel_rfl) (by kernel_rfl) (by kernel_rfl) (fun _ _ _ h => h) (Or.inl ⟨by rfl, fun wl hSw => ?_⟩) hS0 ?_
    · (try dsimp only at hSw); go_simp
    refine wpAnyF_take (i := 2) (v := .pointer (some ⟨P, 8, none⟩)) rfl (by kernel_rfl) (by kernel_rfl) (by kernel_rfl) (by kernel_rfl) (fun _ _ _ h => h) (Or.inl ⟨by rfl, fun wl hSw => ?_⟩) hS0 ?_
    · (try dsimp only at hSw); go_simp
    refine wpAnyF_take (i := 3) (v := .agg #[.int .i64 K.g.states, .int .i64 K.g.start, K.fj, K.ar']) rfl (by kernel_rfl) (by kernel_rfl) (by kernel_rfl) (by kernel_rfl) (fun _ _ _ h => h) (Or.inl ⟨by rfl, fun wl hSw => ?_⟩) hS0 ?_
    · (try dsimp only at hSw); go_simp
    refine wpAnyF_take (i := 4) (v := .pointer (some ⟨Q2, 1, none⟩)) rfl (by kernel_rfl) (by kernel_rfl) (by kernel_rfl) (by kernel_rfl) (fun _ _ _ h => h) (Or.inl ⟨by rfl, fun wl hSw => ?_⟩) hS0 ?_
    · (try dsimp only at hSw); go_simp
    refine wpAnyF_take (i := 5) (v := .int .i64 x.2) rfl (by kernel_rfl) (by kernel_rfl) (by kernel_rfl) (by kernel_rfl) (fun _ _ _ h => h) (Or.inl ⟨by rfl, fun wl hSw => ?_⟩) hS0 ?_
    · (try dsimp only at hSw); go_simp
    have hbL := bel_up (bel_up (bel_up (bel_self Wg) (.cells #[.int .i64 K.g.states, .int .i64 K.g.start, K.fj, K.ar'] 25)) (.cells #[.int .i64 x.2] 3)) (.cells #[.func (.func 147) #[] #[]] 104)
    refine wpAnyF_one (i := 6) rfl (by kernel_rfl) (fun Kc hK => ?_)
    go_simp
    refine (leaving_any K.g.states K.g.start K.fj K.ar' x.2 147 #[] Wg).mono ?_
    rintro e w' ⟨rfl, rfl⟩
    refine hK.out _ _ ⟨fun _ => ⟨bel_c hbL hS0.1, bel_c hbL hS0.2.1, bel_c hbL hS0.2.2.1, bel_c hbL hS0.2.2.2.1, bel_c hbL hS0.2.2.2.2.1, bel_c hbL hS0.2.2.2.2.2⟩, ?_⟩
    clear hK Kc
    refine wpAnyF_done (by kernel_rfl) ?_ _
    refine NoPanic.normal ?_
    obtain ⟨Qxy, hQx⟩ : ∃ Q, Q = Wg.heap.size := ⟨_, rfl⟩
    obtain ⟨W4, hW4⟩ : ∃ W2, W2 = ((Wg.alloc (.cells #[.int .i64 K.g.states, .int .i64 K.g.start, K.fj, K.ar'] 25)).alloc (.cells #[.int .i64 x.2] 3)).alloc (.cells #[.func (.func 147) #[] #[]] 104) := ⟨_, rfl⟩
    rw [← hW4] at hbL
    have hx3y : W4.heap[Qxy]? = some (.cells #[.int .i64 K.g.states, .int .i64 K.g.start, K.fj, K.ar'] 25 (0, 0)) := by rw [hW4, hQx]; exact heap_bel (bel_up (bel_up (bel_self _) _) _) (heap_alloc_new Wg _)
    have hx4y : W4.heap[Qxy + 1]? = some (.cells #[.int .i64 x.2] 3 (0, 0)) := by
      rw [hW4, hQx]
      have := heap_alloc_new (Wg.alloc (.cells #[.int .i64 K.g.states, .int .i64 K.g.start, K.fj, K.ar'] 25)) (.cells #[.int .i64 x.2] 3)
      rw [one_size] at this
      exact heap_bel (bel_up (bel_self _) _) this
    have hx5y : W4.heap[Qxy + 1 + 1]? = some (.cells #[.func (.func 147) #[] #[]] 104 (0, 0)) := by
      rw [hW4, hQx]
      have := heap_alloc_new ((Wg.alloc (.cells #[.int .i64 K.g.states, .int .i64 K.g.start, K.fj, K.ar'] 25)).alloc (.cells #[.int .i64 x.2] 3)) (.cells #[.func (.func 147) #[] #[]] 104)
      rw [one_size, one_size] at this
      exact this
    have hQwy : Wg.heap.size ≤ Qxy := by rw [hQx]; exact Nat.le_refl _
    have hdW4 := BV.below hdWg hbL
    have hpW4 := heap_bel hbL hpWg
    have hfW4 := heap_bel hbL hfWg
    have hqW4 := heap_bel hbL hqWg
    go_wp2
    rw [← hQx, ← hW4]
    clear hW4 hQx hS0
    have hQyw : Wx.heap.size ≤ Qxy := by have := hbWg.size; omega
    have hbx4 : Below Wx.heap.size Wx W4 := bel_on hbWg hbL
    have hW4s := hbx4.size
    have HKP2 : Hid (∀ q, Wx.heap.size ≤ q → q < W4.heap.size → KeptB W4 P Mb (ownB fv1 av1 pv1) q) := fun q q1 q2 => ⟨q2, by omega, by omega, fun e => by have := hOx q e; omega⟩
    have HKQ2 : Hid (∀ q, q < B → KeptB W4 P Mb (ownB fv1 av1 pv1) q) := fun q hq => ⟨by have := BV.hP hdWx; omega, by have := BV.hP hdWx; omega, by have := BV.hM hdWx; omega, fun e => by have := hOx q e; omega⟩
    have HDD : Hid (∀ W O' st sta' xs ars ps ms, ∀ fv av pv, BV W P B Mb K st sta' fv av pv xs ars ps ms → BS P Mb W4 W (ownB fv1 av1 pv1) (ownB fv av pv) → W.heap[D]? = some (.deferred (some [])) → ∀ W', BS P Mb W W' (ownB fv av pv) O' → W'.heap[D]? = some (.deferred (some []))) := fun W O' st sta' xs ars ps ms fv av pv hV _ hd W' hs => by
      refine (hs.block D (heap_lt hd) (by omega) (by omega) (fun e => ?_)).trans hd
      have key : ∀ g, (∃ o : Obj, W.heap[g]? = some o ∧ o.isCells = true) → g ≠ D := fun g ⟨o, ho, hc⟩ e => by
        subst e
        rw [hd] at ho
        cases ho
        cases hc
      rcases e with e | e | e
      · exact key D (own_cells hV.fin D e) rfl
      · exact key D (own_cells hV.arc D e) rfl
      · exact key D (own_cells hV.pr D e) rfl
    have HBX2 : Hid (∀ W O', BS P Mb W4 W (ownB fv1 av1 pv1) O' → W.heap[w.heap.size]? = some (.cells #[.pointer (some ⟨P, 0, none⟩)] 88 (0, 0)) ∧ W.heap[w.heap.size + 1]? = some (.cells #[.int .i64 (k : Int)] 3 (0, 0)) ∧ W.heap[Q2]? = some (.cells #[.int .i64 x.1, .int .i64 x.2] 120 (0, 0)) ∧ Below B w W) := fun W O' hs => by
      have key : ∀ {q : Nat} {o : Obj}, w.heap.size ≤ q → q < W2.heap.size → W4.heap[q]? = some o → W.heap[q]? = some o := fun {q o} q1 q2 q3 => (hs.block q (heap_lt q3) (by omega) (by omega) (hO1 q q1 q2)).trans q3
      exact ⟨key (Nat.le_refl _) (by omega) hpW4, key (by omega) (by omega) hfW4, key (by omega) (by omega) hqW4, hbBx.trans ((hbx4.mono (by have := BV.hP hdWx; omega)).trans (hs.below hdW4))⟩
    have HW4 : Hid (Mb < W4.heap.size ∧ D < W4.heap.size ∧ BS P Mb w W4 (ownB fv av (.slice (some ⟨pg, 0, none⟩) pn pc)) (ownB fv1 av1 pv1)) := ⟨by omega, by omega, HS1.out.trans (BS.of_bel hbx4)⟩
    have HAR2 : Hid (∀ W', (∀ q, KeptB W4 P Mb (ownB fv1 av1 pv1) q → W'.heap[q]? = W4.heap[q]?) → ASlice W' (.slice ca mc cc) K.g.arcs) := fun W' hk => hRx.hC.at (fun q hq => (hk q (HKQ2.out q hq)).trans (hbx4.block q (by have := BV.hP hdWx; omega))) cc
    have HLD2 : Hid (∀ pre : List { a : ArcD // a ∈ leavL x.2 (fun a => a.inp == 0) K.g.arcs }, pre.length ≤ 3000 → (((pre.map Subtype.val).map (sndS x.1)).foldl (leadD k) b1).ps.length ≤ 100000 ∧ (((pre.map Subtype.val).map (sndS x.1)).foldl (leadD k) b1).arcs.length ≤ 100000000) := fun pre hl => by
      obtain ⟨_, l2, l3, new, l4, l5, _⟩ := led k ((pre.map Subtype.val).map (sndS x.1)) b1
      rw [List.length_map, List.length_map] at l5
      have hr : ∀ y ∈ (((pre.map Subtype.val).map (sndS x.1)).foldl (leadD k) b1).ps, InP K.f K.g y := fun y hy => by
        rcases l3 y hy with q | ⟨s, hs, rfl⟩
        · exact hgood.2.1 y q
        · obtain ⟨a, ha, rfl⟩ := List.mem_map.1 hs
          obtain ⟨y, hy, rfl⟩ := List.mem_map.1 ha
          obtain ⟨q1, q2⟩ := List.mem_filter.1 y.2
          simp only [Bool.and_eq_true, beq_iff_eq] at q2
          exact (stp_in kf kg hxr (mem_stp.2 (Or.inr (Or.inr ⟨y.1, q1, q2.1, q2.2, rfl⟩)))).1
      refine ⟨?_, by rw [l4, List.length_append]; have := hgood.2.2; omega⟩
      have h1 := pairs_le (l2 hgood.1) hr
      have a1 := kf.s2
      have a2 := kg.s2
      have h6 : K.f.states.toNat * K.g.states.toNat ≤ 200 * 200 := Nat.mul_le_mul (by omega) (by omega)
      omega
    have HIN2 : Hid (∀ y : { a : ArcD // a ∈ leavL x.2 (fun a => a.inp == 0) K.g.arcs }, InP K.f K.g ((sndS x.1 y.1).to1, (sndS x.1 y.1).to2)) := fun y => by
      obtain ⟨q1, q2⟩ := List.mem_filter.1 y.2
      simp only [Bool.and_eq_true, beq_iff_eq] at q2
      exact (stp_in kf kg hxr (mem_stp.2 (Or.inr (Or.inr ⟨y.1, q1, q2.1, q2.2, rfl⟩)))).1
    refine (wpIn_wide (n := 8)).1 ?_
    refine wpIn_rangeFunc_ownH (F := Fence.wide) rfl (by omega) (gf := 165) (lb := #[.pointer (some ⟨Qxy, 0, none⟩), .pointer (some ⟨Qxy + 1, 0, none⟩), .pointer (some ⟨Qxy + 1 + 1, 0, none⟩)]) rfl trivial (enters_of Try.func165 (by kernel_rfl) rfl)
      (leaving_stops _ (by omega) (KeptB W4 P Mb (ownB fv1 av1 pv1)) Qxy (Qxy + 1) (Qxy + 1 + 1) ca mc cc K.g.arcs x.2 147 #[] (fun a => a.inp == 0) (by omega) cgA2 W4 (fun W' _ a _ => alo2_any a W') (HKP2.out _ (by omega) (heap_lt hx4y)) (HKP2.out _ (by omega) (heap_lt hx5y)) (fun q hq => hq.1) (by have := box_cell (k := 3) (v := K.ar') hx3y rfl; rw [hR.ar'] at this; exact this) (box_cell (k := 0) hx4y rfl) (box_cell (k := 0) hx5y rfl) HAR2.out hR.len')
      (fun h k => kpB_trans h k) (fun W l o o' hl _ _ _ => kpB_put (Nat.le_refl _) W l o' hl) (Below.refl _ _) (fun _ => rfl)
      (fun (pre : List { a : ArcD // a ∈ leavL x.2 (fun a => a.inp == 0) K.g.arcs }) W => ∃ fv' av' pv', BW W P B Mb K sta fv' av' pv' (((pre.map Subtype.val).map (sndS x.1)).foldl (leadD k) b1) ∧ BS P Mb W4 W (ownB fv1 av1 pv1) (ownB fv' av' pv') ∧ W.heap[D]? = some (.deferred (some [])))
      (fun _ _ _ => False)
      (fun s A B' row ⟨fv', av', pv', h1, h2, h3⟩ hg hr => ⟨fv', av', pv', BV.kept h1 hg hr HW4.out.1, h2.kept hg (Nat.le_refl _) (fun r e => (hr r e).1), (hg.block D (heap_lt h3) (fun e => by have := (hr D e.symm).1; have := HW4.out.2.1; omega)).trans h3⟩)
      (fun _ _ _ _ _ hs _ _ => hs)
      ⟨fv1, av1, pv1, hdW4, BS.refl, heap_bel hbx4 hDd⟩
      (fun y a' W => ∃ q q5, W4.heap.size ≤ q ∧ W.heap[q]? = some (.cells #[.int .i64 y.1.src, .int .i64 y.1.inp, .int .i64 y.1.out, .int .i64 y.1.dst, .int .i64 y.1.wt] 63 (0, 0)) ∧ q5 = undef ∧ a' = { tmps := #[.pointer (some ⟨P, 0, none⟩), .int .i64 (k : Int), .pointer (some ⟨w.heap.size, 0, none⟩), .pointer (some ⟨w.heap.size + 1, 0, none⟩), .pointer (some ⟨Q2, 0, none⟩), q5, .pointer (some ⟨q, 0, none⟩), .pointer (some ⟨P, 0, none⟩), .pointer (some ⟨P, 0, none⟩), .pointer (some ⟨P, 13, none⟩), .slice (some ⟨pg, 0, none⟩) pn pc, .int .i64 (k : Int), .pointer (some ⟨pg, k * 2, none⟩), .agg #[.int .i64 x.1, .int .i64 x.2], .pointer (some ⟨P, 0, none⟩), .pointer (some ⟨P, 0, none⟩), .pointer (some ⟨P, 4, none⟩), .agg #[.int .i64 K.f.states, .int .i64 K.f.start, K.fi, K.ar], .pointer (some ⟨Q2, 0, none⟩), .int .i64 x.1, .func (.func 165) #[] #[.pointer (some ⟨Qx, 0, none⟩), .pointer (some ⟨Qx + 1, 0, none⟩), .pointer (some ⟨Qx + 1 + 1, 0, none⟩)], undef, undef, undef, undef, undef, undef, undef, undef, undef, undef, undef, undef, undef, undef, .pointer (some ⟨P, 0, none⟩), .pointer (some ⟨P, 0, none⟩), .pointer (some ⟨P, 8, none⟩), .agg #[.int .i64 K.g.states, .int .i64 K.g.start, K.fj, K.ar'], .pointer (some ⟨Q2, 1, none⟩), .int .i64 x.2, .func (.func 165) #[] #[.pointer (some ⟨Qxy, 0, none⟩), .pointer (some ⟨Qxy + 1, 0, none⟩), .pointer (some ⟨Qxy + 1 + 1, 0, none⟩)], .agg #[.int .i64 y.1.src, .int .i64 y.1.inp, .int .i64 y.1.out, .int .i64 y.1.dst, .int .i64 y.1.wt], undef, undef, undef, undef, undef, undef, undef, undef, undef, undef, undef, undef, undef], defers := [] })
      (fun y a' _ X Y row hs hg hr => by
        obtain ⟨q, q5, h1, h2, h3⟩ := hs
        exact ⟨q, q5, h1, (hg.block q (heap_lt h2) (fun e => by obtain ⟨_, o, ho, hc⟩ := hr q e.symm; rw [h2] at ho; cases ho; cases hc)).trans h2, h3⟩)
      ?assign2 ?body2 ?done2 ?stop2
    case assign2 =>
      rintro l pre y W Kc ⟨fv', av', pv', h1, h2, h3⟩ hKc
      unfold arcV
      gi_wp2
      have hbA := bel_up (bel_self W) (.cells #[.int .i64 y.1.src, .int .i64 y.1.inp, .int .i64 y.1.out, .int .i64 y.1.dst, .int .i64 y.1.wt] 63)
      refine hKc _ _ ((KeepsOthers.alloc W _).from _) (kpB_bel hbA h2.size) ⟨fv', av', pv', BV.below h1 hbA, h2.trans (BS.of_bel hbA), heap_bel hbA h3⟩ ⟨W.heap.size, _, h2.size, heap_alloc_new W _, rfl, ?_⟩
      rfl
    case body2 =>
      rintro l pre y a' W hl hr ⟨fv', av', pv', h1, h2, h5⟩ ⟨q, q5, hq1, hq2, hq5, rfl⟩ hlen
      dsimp only
      obtain ⟨a, ha⟩ : ∃ a, a = y.1 := ⟨_, rfl⟩
      have HAY : Hid (a = y.1) := ha
      rw [← ha] at hq2
      simp only [← ha]
      have e1 := box_cell (k := 2) hq2 rfl
      have e3 := box_cell (k := 3) hq2 rfl
      have e4 := box_cell (k := 4) hq2 rfl
      obtain ⟨g0, g1, g2, hbB⟩ := HBX2.out W _ h2
      have f0 := box_cell (k := 0) g0 rfl
      have f1 := box_cell (k := 0) g1 rfl
      have f2 := box_cell (k := 0) g2 rfl
      have f3 := box_cell (k := 1) g2 rfl
      obtain ⟨l1, l2⟩ := HLD2.out pre (by omega)
      have hlead := blead_any K P B Mb sta fv' av' pv' _ fb fo N fc gb go M gc (sndS x.1 a) k 0 0 W h1 (HTW.out W hbB) (by rw [ha]; exact HIN2.out y) l1 l2
      clear g0 g1 g2 hq2 ha l1 l2 hq5
      gi_wp2_with (refine ⟨trivial, ?_⟩; gi_at_call 145; refine (CallsIn.inRound l (callsIn_wide.2 hlead)).mono ?_; rintro e w2 ⟨rfl, fv2, av2, pv2, h3, h4⟩)
      exact ⟨h4.keepsFrom h1 HW4.out.1, h2.kpB h4, fv2, av2, pv2, by rw [List.map_append, List.map_append, List.foldl_append, List.map_singleton, List.map_singleton, ← HAY.out]; exact h3, h2.trans h4, HDD.out W _ _ _ _ _ _ _ _ _ _ h1 h2 h5 w2 h4⟩
    case done2 =>
      rintro D2 ys Wz hD2 hys ⟨fv2, av2, pv2, h3, h4, h5⟩ hDd2
      rw [hys] at h3
      change BW Wz P B Mb K sta fv2 av2 pv2 ((sndL K.g.arcs x.1 x.2).foldl (leadD k) b1) at h3
      gi_wp2
      have hD4 := HW4.out.2.1
      have hg1 := grownBy_putObj' Wz D2 (.deferred none)
      have hv1 := BV.kept (D := W4.heap.size) h3 hg1 (fun r e => by cases e; exact ⟨hD2, _, hDd2, rfl⟩) HW4.out.1
      have hs1 := (HW4.out.2.2.trans h4).kept (D := w.heap.size) hg1 (Nat.le_refl _) (fun r e => by cases e; omega)
      have hd5 : (Wz.putObj D2 (.deferred none)).heap[D]? = some (.deferred (some [])) := (World.putObj_heap_other (by omega)).trans h5
      have hg2 := grownBy_putObj' (Wz.putObj D2 (.deferred none)) D (.deferred none)
      have hv2 := BV.kept (D := W2.heap.size) hv1 hg2 (fun r e => by cases e; exact ⟨hD, _, hd5, rfl⟩) HW2.out.1
      have hs2 := hs1.kept (D := w.heap.size) hg2 (Nat.le_refl _) (fun r e => by cases e; omega)
      refine ⟨by simp, .inl ⟨_, _, rfl, run_takeDeferred hDd2, ?_⟩⟩
      refine ⟨by simp, .inl ⟨_, _, rfl, run_takeDeferred hd5, ?_⟩⟩
      refine ⟨_, results_none rfl _ _ _, rfl, fv2, av2, pv2, ?_, hs2⟩
      rw [List.foldl_append, ← HB1.out]
      exact hv2
    case stop2 =>
      rintro D c pre W _ _ h _
      exact h.elim
  case stop =>
    rintro D c pre W _ _ h _
    exact h.elim
end Go.Proofs.Yteehgcbjmdideaa

/- A region that draws its order, in a round of a loop over an iterator: it goes as it does outside of one. -/
namespace Go.Proofs.Yteehgcbjmdideaa
open Go.RowKit Go.Shelf

theorem anyIn_of_any {l n : Nat} {P : Program} {md : Region.Mode} {ops : Array Oper} {Q : Exit → Act → World → Prop} (hnd : ∀ (j : Nat) (o : Oper) c, ops[j]? = some o → o.op ≠ .defer c) (hLO : ¬ LetsOut Q) :
    ∀ (fuel : Nat) (listed : Array Bool) (a : Act) (w : World), wpAny P md ops Q fuel listed a w → wpAnyIn (Fence.wide.inRound l) n P md ops Q fuel listed a w := by
  intro fuel
  induction fuel with
  | zero => exact fun _ _ _ h => h
  | succ fuel ih =>
    intro listed a w h
    refine ⟨h.1, fun i hi => ?_⟩
    have hq := h.2 i hi
    unfold wpOp at hq
    unfold wpOpIn
    cases ho : ops[i]? with
    | none =>
      rw [ho] at hq
      exact ih _ _ _ hq
    | some o =>
      rw [ho] at hq
      by_cases hw : Region.wanted o (yielded ops a.tmps) = true
      · simp only [hw, if_true] at hq ⊢
        rcases hq with hq | ⟨_, hq⟩
        · refine ⟨fun _ _ => trivial, ?_⟩
          rw [Oper.semAt_eq _ _ _ (fun c => hnd i o c ho)]
          unfold Oper.wp at hq
          generalize (execOp a.eval o).run P w = r at hq
          cases r with
          | ok x w' =>
            cases x with
            | value v => exact ih _ _ _ hq
            | skip => exact ih _ _ _ hq
            | defer d => exact ih _ _ _ hq
            | enter f args =>
              refine ⟨fun h => (by cases h), CallsIn.inRound l (callsIn_wide.2 (Calls.mono hq fun e w'' he => ?_))⟩
              cases e with
              | returned v => exact ih _ _ _ he
              | panicked c => exact he
              | outgrown => exact he
            | row row args =>
              refine ⟨fun h => (by cases h), fun c cs _ => ?_⟩
              obtain ⟨v, w'', hR, hs⟩ := hq c cs
              exact ⟨v, w'', ih _ _ _ hR, stepsIn_wide.2 hs⟩
            | _ => exact hq.elim
          | halt x w' => cases x <;> exact hq
        · exact absurd hq hLO
      · simp only [hw, Bool.false_eq_true, if_false] at hq ⊢
        exact ⟨fun _ _ => trivial, ih _ _ _ hq⟩

def noDefer (ops : Array Oper) : Bool := ops.all fun o => match o.op with | .defer _ => false | _ => true
theorem noDefer_spec {ops : Array Oper} (h : noDefer ops = true) : ∀ (j : Nat) (o : Oper) c, ops[j]? = some o → o.op ≠ .defer c := fun j o c ho e => by
  have h1 := Array.all_eq_true.1 h
  obtain ⟨hj, rfl⟩ := Array.getElem?_eq_some_iff.1 ho
  have h2 := h1 j hj
  rw [e] at h2
  cases h2

theorem region_round {l n : Nat} {P : Program} {id : Nat} {ops : Array Oper} {Q : Exit → Act → World → Prop} {a : Act} {w : World} (S : World → Prop) (fatal : List Nat) (hm : P.follows .mixedOrders = true) (hnd : noDefer ops = true) (hLO : ¬ LetsOut Q) (hS : S w.drew)
    (h : S w.drew → wpAnyF P .any ops Q S fatal ops.size (Array.replicate ops.size false) a w.drew) : (Code.region id ops true).wpIn (Fence.wide.inRound l) n P Q a w :=
  wpIn_region_any hm (anyIn_of_any (noDefer_spec hnd) hLO _ _ _ _ (wpAny_of_F _ _ _ _ (h hS)))
end Go.Proofs.Yteehgcbjmdideaa
