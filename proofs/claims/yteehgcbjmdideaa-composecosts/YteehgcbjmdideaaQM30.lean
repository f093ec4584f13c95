/- 'goTogether' of package compose. (Made by wip/gen/cpg.py.) -/
import Derived.Test.YteehgcbjmdideaaQM29
import Derived.Carry
namespace Go.Proofs.Yteehgcbjmdideaa
open Go.RowKit Go.Shelf
attribute [local go_sem] Oper.semAt_some

set_option maxRecDepth 100000 in
set_option maxHeartbeats 4000000 in
theorem goTogether_any (K : TwoF) (P B Mb : Nat) (sta : Int) (fv av pv : Value) (b : BothD) (fb fo N fc gb go M gc : Nat) (aa : Option Addr) (m ac : Nat) (ca : Option Addr) (mc cc : Nat) (k : Nat) (x : Int × Int) (w : World)
    (h : BW w P B Mb K sta fv av pv b) (hK : TwoAt K w B fb fo N fc gb go M gc) (hR : ArcsOf K w B aa m ac ca mc cc) (hk : b.ps[k]? = some x) (hm : m ≤ 100) (hmc : mc ≤ 100) (hnd : b.ps.Nodup) (hrg : ∀ y ∈ b.ps, InP K.f K.g y) (hla : b.arcs.length ≤ 90000000) :
    Calls Try.prog 106 #[.pointer (some ⟨P, 0, none⟩), .int .i64 (k : Int)] w fun e w' =>
      e = .returned (.tuple #[]) ∧ ∃ fv' av' pv', BW w' P B Mb K sta fv' av' pv' ((togL K.f.arcs K.g.arcs x.1 x.2).foldl (leadD k) b) ∧ BS P Mb w w' (ownB fv av pv) (ownB fv' av' pv') := by
  have hkl : k < b.ps.length := (List.getElem?_eq_some_iff.1 hk).1
  obtain ⟨pg, pc, rfl, hc1, hc2⟩ := pair_row (BV.pr h) hk
  obtain ⟨pn, hpn⟩ : ∃ n, n = b.ps.length := ⟨_, rfl⟩
  rw [← hpn] at h hkl ⊢
  have HPN : Hid (pn = b.ps.length) := hpn
  obtain ⟨W0, hW0⟩ : ∃ W0, W0 = (w.alloc (.cells #[.pointer (some ⟨P, 0, none⟩)] 88)).alloc (.cells #[.int .i64 (k : Int)] 3) := ⟨_, rfl⟩
  have hb0 : Below w.heap.size w W0 := by rw [hW0]; exact two_up w _ _
  have hB0 : W0.heap[w.heap.size]? = some (.cells #[.pointer (some ⟨P, 0, none⟩)] 88 (0, 0)) := by rw [hW0]; exact heap_bel (bel_up (bel_self _) _) (heap_alloc_new w _)
  have hB1 : W0.heap[w.heap.size + 1]? = some (.cells #[.int .i64 (k : Int)] 3 (0, 0)) := by
    rw [hW0]
    have := heap_alloc_new (w.alloc (.cells #[.pointer (some ⟨P, 0, none⟩)] 88)) (.cells #[.int .i64 (k : Int)] 3)
    rw [one_size] at this
    exact this
  obtain ⟨Wd, hWd⟩ : ∃ Wd, Wd = W0.drew := ⟨_, rfl⟩
  have hb0d : Below W0.heap.size W0 Wd := by rw [hWd]; exact (bel_self W0).drew
  have hbd : Below w.heap.size w Wd := bel_on hb0 hb0d
  have hBd0 := heap_bel hb0d hB0
  have hBd1 := heap_bel hb0d hB1
  have hdd : BW Wd P B Mb K sta fv av (.slice (some ⟨pg, 0, none⟩) pn pc) b := BV.below h hbd
  have hS0 : (fun wx : World => wx.cell? ⟨w.heap.size, 0, none⟩ = some (.pointer (some ⟨P, 0, none⟩)) ∧ wx.cell? ⟨w.heap.size + 1, 0, none⟩ = some (.int .i64 (k : Int)) ∧ wx.cell? ⟨P, 13, none⟩ = some (.slice (some ⟨pg, 0, none⟩) pn pc) ∧ wx.cell? ⟨pg, k * 2, none⟩ = some (.int .i64 x.1) ∧ wx.cell? ⟨pg, k * 2 + 1, none⟩ = some (.int .i64 x.2)) Wd := ⟨box_cell (k := 0) hBd0 rfl, box_cell (k := 0) hBd1 rfl, box_cell (k := 13) (v := .slice (some ⟨pg, 0, none⟩) pn pc) (BV.box hdd) rfl, bel_c hbd hc1, bel_c hbd hc2⟩
  have hki : (k : Int) < pn := by omega
  have HWD : Hid (Wd = W0.drew) := hWd
  refine (callsIn_wide (n := 8)).1 ?_
  refine callsIn_of_wp_marks Try.func106 rfl trivial ?_ rfl
  simp only [Try.ntmps106, List.size_toArray, List.length_cons, List.length_nil, Nat.reduceAdd, Nat.reduceSub, Array.replicate_succ, Array.replicate_zero, List.push_toArray, List.append_toArray, List.nil_append, List.cons_append]
  refine wpIn_wide.2 ?_
  go_wp2
  rw [← hW0]
  clear hW0 hWd hb0d hB0 hB1 hdd hpn
  refine wp_region_noPanic ?_
  refine wp_region_U (fun wx : World => wx.cell? ⟨w.heap.size, 0, none⟩ = some (.pointer (some ⟨P, 0, none⟩)) ∧ wx.cell? ⟨w.heap.size + 1, 0, none⟩ = some (.int .i64 (k : Int)) ∧ wx.cell? ⟨P, 13, none⟩ = some (.slice (some ⟨pg, 0, none⟩) pn pc) ∧ wx.cell? ⟨pg, k * 2, none⟩ = some (.int .i64 x.1) ∧ wx.cell? ⟨pg, k * 2 + 1, none⟩ = some (.int .i64 x.2)) 8 (by kernel_rfl) (by rw [← HWD.out]; exact hS0) (fun _ => ?_)
  rw [← HWD.out]
  clear HWD
  refine wpAnyU_take (i := 0) (v := .pointer (some ⟨P, 0, none⟩)) rfl (by kernel_rfl) (by kernel_rfl) (by kernel_rfl) (by kernel_rfl) (fun _ _ _ h => h) (Or.inl ⟨by rfl, fun wl hSw => ?_⟩) hS0 ?_
  · (try dsimp only at hSw); go_simp
  refine wpAnyU_take (i := 1) (v := .pointer (some ⟨P, 0, none⟩)) rfl (by kernel_rfl) (by kernel_rfl) (by kernel_rfl) (by kernel_rfl) (fun _ _ _ h => h) (Or.inl ⟨by rfl, fun wl hSw => ?_⟩) hS0 ?_
  · (try dsimp only at hSw); go_simp
  refine wpAnyU_take (i := 2) (v := .pointer (some ⟨P, 13, none⟩)) rfl (by kernel_rfl) (by kernel_rfl) (by kernel_rfl) (by kernel_rfl) (fun _ _ _ h => h) (Or.inl ⟨by rfl, fun wl hSw => ?_⟩) hS0 ?_
  · (try dsimp only at hSw); go_simp
  refine wpAnyU_take (i := 3) (v := .slice (some ⟨pg, 0, none⟩) pn pc) rfl (by kernel_rfl) (by kernel_rfl) (by kernel_rfl) (by kernel_rfl) (fun _ _ _ h => h) (Or.inl ⟨by rfl, fun wl hSw => ?_⟩) hS0 ?_
  · (try dsimp only at hSw); go_simp
  refine wpAnyU_take (i := 4) (v := .int .i64 (k : Int)) rfl (by kernel_rfl) (by kernel_rfl) (by kernel_rfl) (by kernel_rfl) (fun _ _ _ h => h) (Or.inl ⟨by rfl, fun wl hSw => ?_⟩) hS0 ?_
  · (try dsimp only at hSw); go_simp
  refine wpAnyU_take (i := 5) (v := .pointer (some ⟨pg, k * 2, none⟩)) rfl (by kernel_rfl) (by kernel_rfl) (by kernel_rfl) (by kernel_rfl) (fun _ _ _ h => h) (Or.inl ⟨by rfl, fun wl hSw => ?_⟩) hS0 ?_
  · (try dsimp only at hSw); go_simp
  refine wpAnyU_take (i := 6) (v := .agg #[.int .i64 x.1, .int .i64 x.2]) rfl (by kernel_rfl) (by kernel_rfl) (by kernel_rfl) (by kernel_rfl) (fun _ _ _ h => h) (Or.inl ⟨by rfl, fun wl hSw => ?_⟩) hS0 ?_
  · (try dsimp only at hSw); go_simp
  have hbZ := bel_up (bel_self Wd) (.cells #[.int .i64 0, .int .i64 0] 120)
  refine wpAnyU_one (i := 7) rfl (by kernel_rfl) (fun Kc hK => ?_)
  go_simp
  refine hK.out _ _ ⟨fun _ => ⟨bel_c hbZ hS0.1, bel_c hbZ hS0.2.1, bel_c hbZ hS0.2.2.1, bel_c hbZ hS0.2.2.2.1, bel_c hbZ hS0.2.2.2.2⟩, ?_⟩
  clear hK Kc
  refine wpAnyU_one (i := 8) rfl (by kernel_rfl) (fun Kc hK => ?_)
  go_simp
  refine hK.out _ _ ⟨fun h => absurd rfl h, ?_⟩
  clear hK Kc
  refine wpAnyU_done (by kernel_rfl) ?_ _
  refine NoPanic.normal ?_
  obtain ⟨Q2, hQ2⟩ : ∃ Q, Q = Wd.heap.size := ⟨_, rfl⟩
  obtain ⟨W1, hW1⟩ : ∃ W1, W1 = Wd.alloc (.cells #[.int .i64 x.1, .int .i64 x.2] 120) := ⟨_, rfl⟩
  have hb1 : Below Wd.heap.size Wd W1 := by rw [hW1]; exact bel_up (bel_self Wd) _
  have hqW1 : W1.heap[Q2]? = some (.cells #[.int .i64 x.1, .int .i64 x.2] 120 (0, 0)) := by rw [hW1, hQ2]; exact heap_alloc_new Wd _
  have hbw1 := bel_on hbd hb1
  have hdW1 : BW W1 P B Mb K sta fv av (.slice (some ⟨pg, 0, none⟩) pn pc) b := BV.below h hbw1
  have hpW1 := heap_bel hb1 hBd0
  have hfW1 := heap_bel hb1 hBd1
  have hQl : w.heap.size + 2 ≤ Q2 := by rw [hQ2]; exact heap_lt hBd1
  go_wp2
  rw [← hW1, ← hQ2]
  clear hW1 hQ2 hb1 hbZ hS0 hBd0 hBd1 hbd
  obtain ⟨We, hWe⟩ : ∃ We, We = W1.drew := ⟨_, rfl⟩
  have hbWe : Below W1.heap.size W1 We := by rw [hWe]; exact (bel_self W1).drew
  have HW : Hid (We = W1.drew) := hWe
  have hdWe := BV.below hdW1 hbWe
  have hpWe := heap_bel hbWe hpW1
  have hfWe := heap_bel hbWe hfW1
  have hqWe := heap_bel hbWe hqW1
  have hS0 : (fun wx : World => wx.cell? ⟨w.heap.size, 0, none⟩ = some (.pointer (some ⟨P, 0, none⟩)) ∧ wx.cell? ⟨P, 4, none⟩ = some (.int .i64 K.f.states) ∧ wx.cell? ⟨P, 5, none⟩ = some (.int .i64 K.f.start) ∧ wx.cell? ⟨P, 6, none⟩ = some K.fi ∧ wx.cell? ⟨P, 7, none⟩ = some K.ar ∧ wx.cell? ⟨Q2, 0, none⟩ = some (.int .i64 x.1)) We := ⟨box_cell (k := 0) hpWe rfl, box_cell (k := 4) hdWe.box rfl, box_cell (k := 5) hdWe.box rfl, box_cell (k := 6) hdWe.box rfl, box_cell (k := 7) hdWe.box rfl, box_cell (k := 0) hqWe rfl⟩
  clear hWe
  refine wp_region_noPanic ?_
  refine wp_region_F (fun wx : World => wx.cell? ⟨w.heap.size, 0, none⟩ = some (.pointer (some ⟨P, 0, none⟩)) ∧ wx.cell? ⟨P, 4, none⟩ = some (.int .i64 K.f.states) ∧ wx.cell? ⟨P, 5, none⟩ = some (.int .i64 K.f.start) ∧ wx.cell? ⟨P, 6, none⟩ = some K.fi ∧ wx.cell? ⟨P, 7, none⟩ = some K.ar ∧ wx.cell? ⟨Q2, 0, none⟩ = some (.int .i64 x.1)) [] (by kernel_rfl) (by rw [← HW.out]; exact hS0) (fun _ => ?_)
  rw [← HW.out]
  clear HW
  refine wpAnyF_take (i := 0) (v := .pointer (some ⟨P, 0, none⟩)) rfl (by kernel_rfl) (by kernel_rfl) (by kernel_rfl) (by kernel_rfl) (fun _ _ _ h => h) (Or.inl ⟨by rfl, fun wl hSw => ?_⟩) hS0 ?_
  · (try dsimp only at hSw); go_simp
  refine wpAnyF_take (i := 1) (v := .pointer (some ⟨P, 0, none⟩)) rfl (by kernel_rfl) (by kernel_rfl) (by kernel_rfl) (by kernel_rfl) (fun _ _ _ h => h) (Or.inl ⟨by rfl, fun wl hSw => ?_⟩) hS0 ?_
  · (try dsimp only at hSw); go_simp
  refine wpAnyF_take (i := 2) (v := .pointer (some ⟨P, 4, none⟩)) rfl (by kernel_rfl) (by kernel_rfl) (by kernel_rfl) (by kernel_rfl) (fun _ _ _ h => h) (Or.inl ⟨by rfl, fun wl hSw => ?_⟩) hS0 ?_
  · (try dsimp only at hSw); go_simp
  refine wpAnyF_take (i := 3) (v := .agg #[.int .i64 K.f.states, .int .i64 K.f.start, K.fi, K.ar]) rfl (by kernel_rfl) (by kernel_rfl) (by kernel_rfl) (by kernel_rfl) (fun _ _ _ h => h) (Or.inl ⟨by rfl, fun wl hSw => ?_⟩) hS0 ?_
  · (try dsimp only at hSw); go_simp
  refine wpAnyF_take (i := 4) (v := .pointer (some ⟨Q2, 0, none⟩)) rfl (by kernel_rfl) (by kernel_rfl) (by kernel_rfl) (by kernel_rfl) (fun _ _ _ h => h) (Or.inl ⟨by rfl, fun wl hSw => ?_⟩) hS0 ?_
  · (try dsimp only at hSw); go_simp
  refine wpAnyF_take (i := 5) (v := .int .i64 x.1) rfl (by kernel_rfl) (by kernel_rfl) (by kernel_rfl) (by kernel_rfl) (fun _ _ _ h => h) (Or.inl ⟨by rfl, fun wl hSw => ?_⟩) hS0 ?_
  · (try dsimp only at hSw); go_simp
  have hbL := bel_up (bel_up (bel_up (bel_self We) (.cells #[.int .i64 K.f.states, .int .i64 K.f.start, K.fi, K.ar] 25)) (.cells #[.int .i64 x.1] 3)) (.cells #[.func (.func 143) #[] #[]] 104)
  refine wpAnyF_one (i := 6) rfl (by kernel_rfl) (fun Kc hK => ?_)
  go_simp
  refine (leaving_any K.f.states K.f.start K.fi K.ar x.1 143 #[] We).mono ?_
  rintro e w' ⟨rfl, rfl⟩
  refine hK.out _ _ ⟨fun _ => ⟨bel_c hbL hS0.1, bel_c hbL hS0.2.1, bel_c hbL hS0.2.2.1, bel_c hbL hS0.2.2.2.1, bel_c hbL hS0.2.2.2.2.1, bel_c hbL hS0.2.2.2.2.2⟩, ?_⟩
  clear hK Kc
  refine wpAnyF_done (by kernel_rfl) ?_ _
  refine NoPanic.normal ?_
  obtain ⟨Qx, hQx⟩ : ∃ Q, Q = We.heap.size := ⟨_, rfl⟩
  obtain ⟨W2, hW2⟩ : ∃ W2, W2 = ((We.alloc (.cells #[.int .i64 K.f.states, .int .i64 K.f.start, K.fi, K.ar] 25)).alloc (.cells #[.int .i64 x.1] 3)).alloc (.cells #[.func (.func 143) #[] #[]] 104) := ⟨_, rfl⟩
  rw [← hW2] at hbL
  have hx3 : W2.heap[Qx]? = some (.cells #[.int .i64 K.f.states, .int .i64 K.f.start, K.fi, K.ar] 25 (0, 0)) := by rw [hW2, hQx]; exact heap_bel (bel_up (bel_up (bel_self _) _) _) (heap_alloc_new We _)
  have hx4 : W2.heap[Qx + 1]? = some (.cells #[.int .i64 x.1] 3 (0, 0)) := by
    rw [hW2, hQx]
    have := heap_alloc_new (We.alloc (.cells #[.int .i64 K.f.states, .int .i64 K.f.start, K.fi, K.ar] 25)) (.cells #[.int .i64 x.1] 3)
    rw [one_size] at this
    exact heap_bel (bel_up (bel_self _) _) this
  have hx5 : W2.heap[Qx + 1 + 1]? = some (.cells #[.func (.func 143) #[] #[]] 104 (0, 0)) := by
    rw [hW2, hQx]
    have := heap_alloc_new ((We.alloc (.cells #[.int .i64 K.f.states, .int .i64 K.f.start, K.fi, K.ar] 25)).alloc (.cells #[.int .i64 x.1] 3)) (.cells #[.func (.func 143) #[] #[]] 104)
    rw [one_size, one_size] at this
    exact this
  have hQw : We.heap.size ≤ Qx := by rw [hQx]; exact Nat.le_refl _
  have hdW2 := BV.below hdWe hbL
  have hpW2 := heap_bel hbL hpWe
  have hfW2 := heap_bel hbL hfWe
  have hqW2 := heap_bel hbL hqWe
  go_wp2
  rw [← hQx, ← hW2]
  clear hW2 hQx hS0
  have hQxw : w.heap.size ≤ Qx := by have := heap_lt hpWe; omega
  have hW2s : w.heap.size ≤ W2.heap.size := by have := heap_lt hqW2; omega
  have hbw2 : Below w.heap.size w W2 := bel_on (bel_on hbw1 hbWe) hbL
  have hOw := BV.ownLt h
  have hPw := BV.lt h
  have hMw := (BV.mp h).lt
  have hBw : B ≤ w.heap.size := by have := BV.hP h; omega
  have HKP : Hid (∀ q, w.heap.size ≤ q → q < W2.heap.size → KeptB W2 P Mb (ownB fv av (.slice (some ⟨pg, 0, none⟩) pn pc)) q) := fun q h1 h2 => ⟨h2, by omega, by omega, fun e => by have := hOw q e; omega⟩
  have HBX : Hid (∀ W O', BS P Mb W2 W (ownB fv av (.slice (some ⟨pg, 0, none⟩) pn pc)) O' → W.heap[w.heap.size]? = some (.cells #[.pointer (some ⟨P, 0, none⟩)] 88 (0, 0)) ∧ W.heap[w.heap.size + 1]? = some (.cells #[.int .i64 (k : Int)] 3 (0, 0)) ∧ W.heap[Q2]? = some (.cells #[.int .i64 x.1, .int .i64 x.2] 120 (0, 0)) ∧ Below B w W) := fun W O' hs => by
    have key : ∀ {q : Nat} {o : Obj}, w.heap.size ≤ q → W2.heap[q]? = some o → W.heap[q]? = some o := fun {q o} h1 h2 => (hs.block q (heap_lt h2) (by omega) (by omega) (fun e => by have := hOw q e; omega)).trans h2
    exact ⟨key (Nat.le_refl _) hpW2, key (by omega) hfW2, key (by omega) hqW2, (hbw2.mono hBw).trans (hs.below hdW2)⟩
  have HW2 : Hid (Mb < W2.heap.size ∧ BS P Mb w W2 (ownB fv av (.slice (some ⟨pg, 0, none⟩) pn pc)) (ownB fv av (.slice (some ⟨pg, 0, none⟩) pn pc))) := ⟨by omega, BS.of_bel hbw2⟩
  have HKQ : Hid (∀ q, q < B → KeptB W2 P Mb (ownB fv av (.slice (some ⟨pg, 0, none⟩) pn pc)) q) := fun q hq => ⟨by omega, by have := BV.hP h; omega, by have := BV.hM h; omega, fun e => by have := hOw q e; omega⟩
  have HAR : Hid (∀ W', (∀ q, KeptB W2 P Mb (ownB fv av (.slice (some ⟨pg, 0, none⟩) pn pc)) q → W'.heap[q]? = W2.heap[q]?) → ASlice W' (.slice aa m ac) K.f.arcs) := fun W' hk => hR.hA.at (fun q hq => (hk q (HKQ.out q hq)).trans (hbw2.block q (by omega))) ac
  have kf := hK.kf
  have kg := hK.kg
  have hxr := hrg x (List.mem_of_getElem? hk)
  have HMEM : Hid (∀ (a : ArcD), a ∈ leavL x.1 (fun a => decide (0 < a.out)) K.f.arcs → a ∈ K.f.arcs ∧ ∀ c ∈ togC K.g.arcs x.2 a, c ∈ stpL K.f K.g x) := fun a ha => by
    obtain ⟨q1, q2⟩ := List.mem_filter.1 ha
    refine ⟨q1, fun c hc => List.mem_append.2 (Or.inl (List.mem_flatMap.2 ⟨a, List.mem_filter.2 ⟨q1, q2⟩, hc⟩))⟩
  have HTL : Hid (∀ (a : ArcD), (togC K.g.arcs x.2 a).length ≤ 100) := fun a => by
    unfold togC
    rw [List.length_map]
    have := List.length_filter_le (fun c : ArcD => c.src == x.2 && c.inp == a.out) K.g.arcs
    have := hR.len'
    omega
  have HG : Hid (∀ pre : List { a : ArcD // a ∈ leavL x.1 (fun a => decide (0 < a.out)) K.f.arcs }, pre.length ≤ 3000 → (((pre.map Subtype.val).flatMap (togC K.g.arcs x.2)).foldl (leadD k) b).ps.Nodup ∧ (∀ y ∈ (((pre.map Subtype.val).flatMap (togC K.g.arcs x.2)).foldl (leadD k) b).ps, InP K.f K.g y) ∧ (((pre.map Subtype.val).flatMap (togC K.g.arcs x.2)).foldl (leadD k) b).arcs.length ≤ 90300000) := fun pre hl => by
    obtain ⟨_, l2, l3, new, l4, l5, _⟩ := led k ((pre.map Subtype.val).flatMap (togC K.g.arcs x.2)) b
    refine ⟨l2 hnd, fun y hy => ?_, ?_⟩
    · rcases l3 y hy with q | ⟨s, hs, rfl⟩
      · exact hrg y q
      · obtain ⟨a, ha, hc⟩ := List.mem_flatMap.1 hs
        obtain ⟨z, _, rfl⟩ := List.mem_map.1 ha
        exact (stp_in kf kg hxr ((HMEM.out z.1 z.2).2 s hc)).1
    · have h1 : ((pre.map Subtype.val).flatMap (togC K.g.arcs x.2)).length ≤ pre.length * 100 := by
        rw [flat_len]
        refine Nat.le_trans (sum_le _ (fun _ => 100) _ fun a _ => HTL.out a) ?_
        rw [sum_const, List.length_map]
        exact Nat.le_refl _
      rw [l4, List.length_append]
      omega
  have HTW : Hid (∀ W, Below B w W → TwoAt K W B fb fo N fc gb go M gc) := fun W hb => hK.below hb
  refine (wpIn_wide (n := 8)).1 ?_
  refine wpIn_rangeFunc_ownH (F := Fence.wide) rfl (by omega) (gf := 165) (lb := #[.pointer (some ⟨Qx, 0, none⟩), .pointer (some ⟨Qx + 1, 0, none⟩), .pointer (some ⟨Qx + 1 + 1, 0, none⟩)]) rfl trivial (enters_of Try.func165 (by kernel_rfl) rfl)
    (leaving_stops _ (by omega) (KeptB W2 P Mb (ownB fv av (.slice (some ⟨pg, 0, none⟩) pn pc))) Qx (Qx + 1) (Qx + 1 + 1) aa m ac K.f.arcs x.1 143 #[] (fun a => decide (0 < a.out)) (by omega) cgT1 W2 (fun W' _ a _ => tog1_any a W') (HKP.out _ (by omega) (heap_lt hx4)) (HKP.out _ (by omega) (heap_lt hx5)) (fun q hq => hq.1) (by have := box_cell (k := 3) (v := K.ar) hx3 rfl; rw [hR.ar] at this; exact this) (box_cell (k := 0) hx4 rfl) (box_cell (k := 0) hx5 rfl) HAR.out hR.len)
    (fun h k => kpB_trans h k) (fun W l o o' hl _ _ _ => kpB_put (Nat.le_refl _) W l o' hl) (Below.refl _ _) (fun _ => rfl)
    (fun (pre : List { a : ArcD // a ∈ leavL x.1 (fun a => decide (0 < a.out)) K.f.arcs }) W => ∃ fv' av' pv', BW W P B Mb K sta fv' av' pv' (((pre.map Subtype.val).flatMap (togC K.g.arcs x.2)).foldl (leadD k) b) ∧ BS P Mb W2 W (ownB fv av (.slice (some ⟨pg, 0, none⟩) pn pc)) (ownB fv' av' pv'))
    (fun _ _ _ => False)
    (fun s A B' row ⟨fv', av', pv', h1, h2⟩ hg hr => ⟨fv', av', pv', BV.kept h1 hg hr HW2.out.1, h2.kept hg (Nat.le_refl _) (fun r e => (hr r e).1)⟩)
    (fun _ _ _ _ _ hs _ _ => hs)
    ⟨fv, av, _, hdW2, BS.refl⟩
    (fun y a' W => ∃ q, W2.heap.size ≤ q ∧ W.heap[q]? = some (.cells #[.int .i64 y.1.src, .int .i64 y.1.inp, .int .i64 y.1.out, .int .i64 y.1.dst, .int .i64 y.1.wt] 63 (0, 0)) ∧ (∃ st' fv' av' pv', W.heap[P]? = some (.cells (bothV K st' sta fv' av' Mb pv') 93 (0, 0)) ∧ ¬ ownB fv' av' pv' q) ∧ a' = { tmps := #[.pointer (some ⟨P, 0, none⟩), .int .i64 (k : Int), .pointer (some ⟨w.heap.size, 0, none⟩), .pointer (some ⟨w.heap.size + 1, 0, none⟩), .pointer (some ⟨Q2, 0, none⟩), .pointer (some ⟨q, 0, none⟩), undef, .pointer (some ⟨P, 0, none⟩), .pointer (some ⟨P, 0, none⟩), .pointer (some ⟨P, 13, none⟩), .slice (some ⟨pg, 0, none⟩) pn pc, .int .i64 (k : Int), .pointer (some ⟨pg, k * 2, none⟩), .agg #[.int .i64 x.1, .int .i64 x.2], .pointer (some ⟨P, 0, none⟩), .pointer (some ⟨P, 0, none⟩), .pointer (some ⟨P, 4, none⟩), .agg #[.int .i64 K.f.states, .int .i64 K.f.start, K.fi, K.ar], .pointer (some ⟨Q2, 0, none⟩), .int .i64 x.1, .func (.func 165) #[] #[.pointer (some ⟨Qx, 0, none⟩), .pointer (some ⟨Qx + 1, 0, none⟩), .pointer (some ⟨Qx + 1 + 1, 0, none⟩)], .agg #[.int .i64 y.1.src, .int .i64 y.1.inp, .int .i64 y.1.out, .int .i64 y.1.dst, .int .i64 y.1.wt], undef, undef, undef, undef, undef, undef, undef, undef, undef, undef, undef, undef, undef, undef, undef, undef, undef, undef, undef, undef, undef, undef, undef, undef, undef, undef, undef], defers := [] })
    (fun y a' _ X Y row hs hg hr => by
      obtain ⟨q, h1, h2, ⟨st', fv', av', pv', h4, h5⟩, h3⟩ := hs
      exact ⟨q, h1, (hg.block q (heap_lt h2) (fun e => by obtain ⟨_, o, ho, hc⟩ := hr q e.symm; rw [h2] at ho; cases ho; cases hc)).trans h2, ⟨st', fv', av', pv', (hg.block P (heap_lt h4) (fun e => by obtain ⟨_, o, ho, hc⟩ := hr P e.symm; rw [h4] at ho; cases ho; cases hc)).trans h4, h5⟩, h3⟩)
    ?assign ?body ?done ?stop
  case assign =>
    rintro l pre y W Kc ⟨fv', av', pv', h1, h2⟩ hKc
    unfold arcV
    gi_wp2
    have hbA := bel_up (bel_self W) (.cells #[.int .i64 y.1.src, .int .i64 y.1.inp, .int .i64 y.1.out, .int .i64 y.1.dst, .int .i64 y.1.wt] 63)
    refine hKc _ _ ((KeepsOthers.alloc W _).from _) (kpB_bel hbA h2.size) ⟨fv', av', pv', BV.below h1 hbA, h2.trans (BS.of_bel hbA)⟩ ⟨W.heap.size, h2.size, heap_alloc_new W _, ⟨_, fv', av', pv', heap_bel hbA (BV.box h1), fun e => by have := (BV.ownLt h1 _ e).2; omega⟩, ?_⟩
    rfl
  case body =>
    rintro l pre y a' W hl ⟨r0, hr0⟩ ⟨fv', av', pv', h1, h2⟩ ⟨q, hq1, hq2, ⟨st', fv0, av0, pv0, hb4, hb5⟩, rfl⟩ hlen
    have hno : ¬ ownB fv' av' pv' q := by
      have hbx := BV.box h1
      rw [hb4] at hbx
      injection hbx with hbx
      injection hbx with hbx
      have e1 := congrArg (fun a : Array Value => a[2]?) hbx
      have e2 := congrArg (fun a : Array Value => a[3]?) hbx
      have e3 := congrArg (fun a : Array Value => a[13]?) hbx
      simp [bothV] at e1 e2 e3
      rw [← e1, ← e2, ← e3]
      exact hb5
    clear hb4 hb5
    dsimp only
    obtain ⟨a, ha⟩ : ∃ a, a = y.1 := ⟨_, rfl⟩
    have HAY : Hid (a = y.1) := ha
    have HAM : Hid (a ∈ K.f.arcs ∧ ∀ c ∈ togC K.g.arcs x.2 a, c ∈ stpL K.f K.g x) := by rw [ha]; exact HMEM.out y.1 y.2
    rw [← ha] at hq2
    simp only [← ha]
    obtain ⟨g0, g1, g2, hbB⟩ := HBX.out W _ h2
    obtain ⟨gd1, gd2, gd3⟩ := HG.out pre (by omega)
    obtain ⟨b1, hb1⟩ : ∃ b1, b1 = ((pre.map Subtype.val).flatMap (togC K.g.arcs x.2)).foldl (leadD k) b := ⟨_, rfl⟩
    have HB1 : Hid (b1 = ((pre.map Subtype.val).flatMap (togC K.g.arcs x.2)).foldl (leadD k) b) := hb1
    rw [← hb1] at h1 gd1 gd2 gd3
    clear hb1 ha
    have hRW := hR.below hbB
    have hOW := BV.ownLt h1
    have hPW := BV.lt h1
    have hMW := (BV.mp h1).lt
    have hBP := BV.hP h1
    have hBM := BV.hM h1
    obtain ⟨Wi, hWi⟩ : ∃ Wi, Wi = W.drew := ⟨_, rfl⟩
    have hbWi : Below W.heap.size W Wi := by rw [hWi]; exact (bel_self W).drew
    have HWI : Hid (Wi = W.drew) := hWi
    have hdWi := BV.below h1 hbWi
    have gi0 := heap_bel hbWi g0
    have gi2 := heap_bel hbWi g2
    have hS0 : (fun wx : World => wx.cell? ⟨w.heap.size, 0, none⟩ = some (.pointer (some ⟨P, 0, none⟩)) ∧ wx.cell? ⟨P, 8, none⟩ = some (.int .i64 K.g.states) ∧ wx.cell? ⟨P, 9, none⟩ = some (.int .i64 K.g.start) ∧ wx.cell? ⟨P, 10, none⟩ = some K.fj ∧ wx.cell? ⟨P, 11, none⟩ = some K.ar' ∧ wx.cell? ⟨Q2, 1, none⟩ = some (.int .i64 x.2)) Wi := ⟨box_cell (k := 0) gi0 rfl, box_cell (k := 8) hdWi.box rfl, box_cell (k := 9) hdWi.box rfl, box_cell (k := 10) hdWi.box rfl, box_cell (k := 11) hdWi.box rfl, box_cell (k := 1) gi2 rfl⟩
    clear hWi
    refine wpIn_block ?_
    refine wpIn_seq ?_
    refine region_round (fun wx : World => wx.cell? ⟨w.heap.size, 0, none⟩ = some (.pointer (some ⟨P, 0, none⟩)) ∧ wx.cell? ⟨P, 8, none⟩ = some (.int .i64 K.g.states) ∧ wx.cell? ⟨P, 9, none⟩ = some (.int .i64 K.g.start) ∧ wx.cell? ⟨P, 10, none⟩ = some K.fj ∧ wx.cell? ⟨P, 11, none⟩ = some K.ar' ∧ wx.cell? ⟨Q2, 1, none⟩ = some (.int .i64 x.2)) [] (by kernel_rfl) (by kernel_rfl) (fun ⟨_, _, hh⟩ => hh) (by rw [← HWI.out]; exact hS0) (fun _ => ?_)
    rw [← HWI.out]
    clear HWI
    refine wpAnyF_take (i := 0) (v := .pointer (some ⟨P, 0, none⟩)) rfl (by kernel_rfl) (by kernel_rfl) (by kernel_rfl) (by kernel_rfl) (fun _ _ _ h => h) (Or.inl ⟨by rfl, fun wl hSw => ?_⟩) hS0 ?_
    · (try dsimp only at hSw); go_simp
    refine wpAnyF_take (i := 1) (v := .pointer (some ⟨P, 0, none⟩)) rfl (by kernel_rfl) (by kernel_rfl) (by kernel_rfl) (by kernel_rfl) (fun _ _ _ h => h) (Or.inl ⟨by rfl, fun wl hSw => ?_⟩) hS0 ?_
    · (try dsimp only at hSw); go_simp
    refine wpAnyF_take (i := 2) (v := .pointer (some ⟨P, 8, none⟩)) rfl (by kernel_rfl) (by kernel_rfl) (by kernel_rfl) (by kernel_rfl) (fun _ _ _ h => h) (Or.inl ⟨by rfl, fun wl hSw => ?_⟩) hS0 ?_
    · (try dsimp only at hSw); go_simp
    refine wpAnyF_take (i := 3) (v := .agg #[.int .i64 K.g.states, .int .i64 K.g.start, K.fj, K.ar']) rfl (by kernel_rfl) (by kernel_rfl) (by kernel_rfl) (by kernel_rfl) (fun _ _ _ h => h) (Or.inl ⟨by rfl, fun wl hSw => ?_⟩) hS0 ?_
    · (try dsimp only at hSw); go_simp
    refine wpAnyF_take (i := 4) (v := .pointer (some ⟨Q2, 1, none⟩)) rfl (by kernel_rfl) (by kernel_rfl) (by kernel_rfl) (by kernel_rfl) (fun _ _ _ h => h) (Or.inl ⟨by rfl, fun wl hSw => ?_⟩) hS0 ?_
    · (try dsimp only at hSw); go_simp
    refine wpAnyF_take (i := 5) (v := .int .i64 x.2) rfl (by kernel_rfl) (by kernel_rfl) (by kernel_rfl) (by kernel_rfl) (fun _ _ _ h => h) (Or.inl ⟨by rfl, fun wl hSw => ?_⟩) hS0 ?_
    · (try dsimp only at hSw); go_simp
    refine wpAnyF_take (i := 6) (v := .func (.func 144) #[] #[.pointer (some ⟨q, 0, none⟩)]) rfl (by kernel_rfl) (by kernel_rfl) (by kernel_rfl) (by kernel_rfl) (fun _ _ _ h => h) (Or.inl ⟨by rfl, fun wl hSw => ?_⟩) hS0 ?_
    · (try dsimp only at hSw); go_simp
    have hbL := bel_up (bel_up (bel_up (bel_self Wi) (.cells #[.int .i64 K.g.states, .int .i64 K.g.start, K.fj, K.ar'] 25)) (.cells #[.int .i64 x.2] 3)) (.cells #[.func (.func 144) #[] #[.pointer (some ⟨q, 0, none⟩)]] 104)
    refine wpAnyF_one (i := 7) rfl (by kernel_rfl) (fun Kc hK => ?_)
    go_simp
    refine (leaving_any K.g.states K.g.start K.fj K.ar' x.2 144 #[.pointer (some ⟨q, 0, none⟩)] Wi).mono ?_
    rintro e w' ⟨rfl, rfl⟩
    refine hK.out _ _ ⟨fun _ => ⟨bel_c hbL hS0.1, bel_c hbL hS0.2.1, bel_c hbL hS0.2.2.1, bel_c hbL hS0.2.2.2.1, bel_c hbL hS0.2.2.2.2.1, bel_c hbL hS0.2.2.2.2.2⟩, ?_⟩
    clear hK Kc
    refine wpAnyF_done (by kernel_rfl) ?_ _
    change Code.wpIn (Fence.wide.inRound l) (8 - 1 - 1) Try.prog (Code.block _ _) _ _ _
    refine wpIn_block ?_
    obtain ⟨Qy, hQy⟩ : ∃ Q, Q = Wi.heap.size := ⟨_, rfl⟩
    obtain ⟨W5, hW5⟩ : ∃ W5, W5 = ((Wi.alloc (.cells #[.int .i64 K.g.states, .int .i64 K.g.start, K.fj, K.ar'] 25)).alloc (.cells #[.int .i64 x.2] 3)).alloc (.cells #[.func (.func 144) #[] #[.pointer (some ⟨q, 0, none⟩)]] 104) := ⟨_, rfl⟩
    rw [← hW5] at hbL
    have hx3y : W5.heap[Qy]? = some (.cells #[.int .i64 K.g.states, .int .i64 K.g.start, K.fj, K.ar'] 25 (0, 0)) := by rw [hW5, hQy]; exact heap_bel (bel_up (bel_up (bel_self _) _) _) (heap_alloc_new Wi _)
    have hx4y : W5.heap[Qy + 1]? = some (.cells #[.int .i64 x.2] 3 (0, 0)) := by
      rw [hW5, hQy]
      have := heap_alloc_new (Wi.alloc (.cells #[.int .i64 K.g.states, .int .i64 K.g.start, K.fj, K.ar'] 25)) (.cells #[.int .i64 x.2] 3)
      rw [one_size] at this
      exact heap_bel (bel_up (bel_self _) _) this
    have hx5y : W5.heap[Qy + 1 + 1]? = some (.cells #[.func (.func 144) #[] #[.pointer (some ⟨q, 0, none⟩)]] 104 (0, 0)) := by
      rw [hW5, hQy]
      have := heap_alloc_new ((Wi.alloc (.cells #[.int .i64 K.g.states, .int .i64 K.g.start, K.fj, K.ar'] 25)).alloc (.cells #[.int .i64 x.2] 3)) (.cells #[.func (.func 144) #[] #[.pointer (some ⟨q, 0, none⟩)]] 104)
      rw [one_size, one_size] at this
      exact this
    rw [← hQy, ← hW5]
    have hQyw : W.heap.size ≤ Qy := by rw [hQy]; exact hbWi.size
    have hbW5 : Below W.heap.size W W5 := bel_on hbWi hbL
    have hW5s := hbW5.size
    clear hW5 hQy hS0
    have hql := heap_lt hq2
    have hq5 := heap_bel hbW5 hq2
    have hr5 := heap_bel hbW5 hr0
    have hd5 := BV.below h1 hbW5
    have hO1 : ∀ q, w.heap.size ≤ q → q < W2.heap.size → ¬ ownB fv' av' pv' q := fun q q1 q2 e => by
      rcases h2.own q e with e | e
      · have := hOw q e; omega
      · omega
    have hQ2l := heap_lt hqW2
    have hx1l := heap_lt hfW2
    have HKQ5 : Hid (∀ q, q < B → KeptB W5 P Mb (ownB fv' av' pv') q) := fun q hq => ⟨by omega, by omega, by omega, fun e => by have := hOW q e; omega⟩
    have HKN5 : Hid (∀ q, W.heap.size ≤ q → q < W5.heap.size → KeptB W5 P Mb (ownB fv' av' pv') q) := fun q q1 q2 => ⟨q2, by omega, by omega, fun e => by have := hOW q e; omega⟩
    have HKA5 : Hid (KeptB W5 P Mb (ownB fv' av' pv') q) := ⟨by omega, by have := HW2.out.1; omega, by have := HW2.out.1; omega, hno⟩
    have HAR5 : Hid (∀ W', (∀ q, KeptB W5 P Mb (ownB fv' av' pv') q → W'.heap[q]? = W5.heap[q]?) → ASlice W' (.slice ca mc cc) K.g.arcs) := fun W' hk => hRW.hC.at (fun q hq => (hk q (HKQ5.out q hq)).trans (hbW5.block q (by omega))) cc
    have HBX5 : Hid (∀ W' O', BS P Mb W5 W' (ownB fv' av' pv') O' → W'.heap[w.heap.size]? = some (.cells #[.pointer (some ⟨P, 0, none⟩)] 88 (0, 0)) ∧ W'.heap[w.heap.size + 1]? = some (.cells #[.int .i64 (k : Int)] 3 (0, 0)) ∧ W'.heap[q]? = some (.cells #[.int .i64 a.src, .int .i64 a.inp, .int .i64 a.out, .int .i64 a.dst, .int .i64 a.wt] 63 (0, 0)) ∧ Below B w W') := fun W' O' hs => by
      have key : ∀ {q : Nat} {o : Obj}, w.heap.size ≤ q → q < W2.heap.size → W5.heap[q]? = some o → W'.heap[q]? = some o := fun {q o} q1 q2 q3 => (hs.block q (heap_lt q3) (by omega) (by omega) (hO1 q q1 q2)).trans q3
      exact ⟨key (Nat.le_refl _) (by omega) (heap_bel hbW5 g0), key (by omega) (by omega) (heap_bel hbW5 g1), (hs.block q (by omega) HKA5.out.2.1 HKA5.out.2.2.1 hno).trans hq5, hbB.trans ((hbW5.mono (by omega)).trans (hs.below hd5))⟩
    have HW5 : Hid (Mb < W5.heap.size ∧ BS P Mb W W5 (ownB fv' av' pv') (ownB fv' av' pv')) := ⟨by omega, BS.of_bel hbW5⟩
    have HI5 : Hid (∀ y : { c : ArcD // c ∈ leavL x.2 (fun c => c.inp == a.out) K.g.arcs }, togS a y.1 ∈ stpL K.f K.g x ∧ y.1 ∈ K.g.arcs) := fun y => ⟨HAM.out.2 _ (List.mem_map.2 ⟨y.1, y.2, rfl⟩), (List.mem_filter.1 y.2).1⟩
    have HL5 : Hid (∀ pre2 : List { c : ArcD // c ∈ leavL x.2 (fun c => c.inp == a.out) K.g.arcs }, pre2.length ≤ 3000 → (((pre2.map Subtype.val).map (togS a)).foldl (leadD k) b1).ps.length ≤ 100000 ∧ (((pre2.map Subtype.val).map (togS a)).foldl (leadD k) b1).arcs.length ≤ 100000000) := fun pre2 hl => by
      obtain ⟨_, l2, l3, new, l4, l5, _⟩ := led k ((pre2.map Subtype.val).map (togS a)) b1
      rw [List.length_map, List.length_map] at l5
      have hr : ∀ y ∈ (((pre2.map Subtype.val).map (togS a)).foldl (leadD k) b1).ps, InP K.f K.g y := fun y hy => by
        rcases l3 y hy with q | ⟨s, hs, rfl⟩
        · exact gd2 y q
        · obtain ⟨c, hc, rfl⟩ := List.mem_map.1 hs
          obtain ⟨z, _, rfl⟩ := List.mem_map.1 hc
          exact (stp_in kf kg hxr (HI5.out z).1).1
      refine ⟨?_, by rw [l4, List.length_append]; omega⟩
      have h1 := pairs_le (l2 gd1) hr
      have a1 := kf.s2
      have a2 := kg.s2
      have h6 : K.f.states.toNat * K.g.states.toNat ≤ 200 * 200 := Nat.mul_le_mul (by omega) (by omega)
      omega
    refine wpIn_rangeFunc_ownN (F := Fence.wide.inRound l) rfl hr5 (by omega) (gf := 165) (lb := #[.pointer (some ⟨Qy, 0, none⟩), .pointer (some ⟨Qy + 1, 0, none⟩), .pointer (some ⟨Qy + 1 + 1, 0, none⟩)]) rfl trivial (enters_of Try.func165 (by kernel_rfl) rfl)
      (SeqStopsK.inRound l (leaving_stops _ (by omega) (KeptB W5 P Mb (ownB fv' av' pv')) Qy (Qy + 1) (Qy + 1 + 1) ca mc cc K.g.arcs x.2 144 #[.pointer (some ⟨q, 0, none⟩)] (fun c => c.inp == a.out) (by omega) cgT2 W5 (fun W' hk c _ => tog2_any c q a.out W' (box_cell (k := 2) ((hk q HKA5.out).trans hq5) rfl)) (HKN5.out _ (by omega) (heap_lt hx4y)) (HKN5.out _ (by omega) (heap_lt hx5y)) (fun q hq => hq.1) (by have := box_cell (k := 3) (v := K.ar') hx3y rfl; rw [hR.ar'] at this; exact this) (box_cell (k := 0) hx4y rfl) (box_cell (k := 0) hx5y rfl) HAR5.out hR.len'))
      (fun h k => kpB_trans h k) (fun W l o o' hl _ _ _ => kpB_put (Nat.le_refl _) W l o' hl) (Below.refl _ _) (fun _ => rfl)
      (fun (pre2 : List { c : ArcD // c ∈ leavL x.2 (fun c => c.inp == a.out) K.g.arcs }) W' => ∃ fv2 av2 pv2, BW W' P B Mb K sta fv2 av2 pv2 (((pre2.map Subtype.val).map (togS a)).foldl (leadD k) b1) ∧ BS P Mb W5 W' (ownB fv' av' pv') (ownB fv2 av2 pv2))
      (fun _ _ _ => False)
      (fun s A B' row ⟨fv2, av2, pv2, h1, h2⟩ hg hr => ⟨fv2, av2, pv2, BV.kept h1 hg hr HW5.out.1, h2.kept hg (Nat.le_refl _) (fun r e => (hr r e).1)⟩)
      (fun _ _ _ _ _ hs _ _ => hs)
      ⟨fv', av', pv', hd5, BS.refl⟩
      (fun z a' W => ∃ p, W5.heap.size ≤ p ∧ W.heap[p]? = some (.cells #[.int .i64 z.1.src, .int .i64 z.1.inp, .int .i64 z.1.out, .int .i64 z.1.dst, .int .i64 z.1.wt] 63 (0, 0)) ∧ a' = { tmps := #[.pointer (some ⟨P, 0, none⟩), .int .i64 (k : Int), .pointer (some ⟨w.heap.size, 0, none⟩), .pointer (some ⟨w.heap.size + 1, 0, none⟩), .pointer (some ⟨Q2, 0, none⟩), .pointer (some ⟨q, 0, none⟩), .pointer (some ⟨p, 0, none⟩), .pointer (some ⟨P, 0, none⟩), .pointer (some ⟨P, 0, none⟩), .pointer (some ⟨P, 13, none⟩), .slice (some ⟨pg, 0, none⟩) pn pc, .int .i64 (k : Int), .pointer (some ⟨pg, k * 2, none⟩), .agg #[.int .i64 x.1, .int .i64 x.2], .pointer (some ⟨P, 0, none⟩), .pointer (some ⟨P, 0, none⟩), .pointer (some ⟨P, 4, none⟩), .agg #[.int .i64 K.f.states, .int .i64 K.f.start, K.fi, K.ar], .pointer (some ⟨Q2, 0, none⟩), .int .i64 x.1, .func (.func 165) #[] #[.pointer (some ⟨Qx, 0, none⟩), .pointer (some ⟨Qx + 1, 0, none⟩), .pointer (some ⟨Qx + 1 + 1, 0, none⟩)], .agg #[.int .i64 a.src, .int .i64 a.inp, .int .i64 a.out, .int .i64 a.dst, .int .i64 a.wt], .pointer (some ⟨P, 0, none⟩), .pointer (some ⟨P, 0, none⟩), .pointer (some ⟨P, 8, none⟩), .agg #[.int .i64 K.g.states, .int .i64 K.g.start, K.fj, K.ar'], .pointer (some ⟨Q2, 1, none⟩), .int .i64 x.2, .func (.func 144) #[] #[.pointer (some ⟨q, 0, none⟩)], .func (.func 165) #[] #[.pointer (some ⟨Qy, 0, none⟩), .pointer (some ⟨Qy + 1, 0, none⟩), .pointer (some ⟨Qy + 1 + 1, 0, none⟩)], .agg #[.int .i64 z.1.src, .int .i64 z.1.inp, .int .i64 z.1.out, .int .i64 z.1.dst, .int .i64 z.1.wt], undef, undef, undef, undef, undef, undef, undef, undef, undef, undef, undef, undef, undef, undef, undef, undef, undef, undef], defers := [] })
      (fun z a' _ X Y row hs hg hr => by
        obtain ⟨p, h1, h2, h3⟩ := hs
        exact ⟨p, h1, (hg.block p (heap_lt h2) (fun e => by obtain ⟨_, o, ho, hc⟩ := hr p e.symm; rw [h2] at ho; cases ho; cases hc)).trans h2, h3⟩)
      ?assign2 ?body2 ?done2 ?stop2
    case assign2 =>
      rintro l2 pre2 z W' Kc ⟨fv2, av2, pv2, h3, h4⟩ hKc
      unfold arcV
      gi_wp2
      have hbA := bel_up (bel_self W') (.cells #[.int .i64 z.1.src, .int .i64 z.1.inp, .int .i64 z.1.out, .int .i64 z.1.dst, .int .i64 z.1.wt] 63)
      refine hKc _ _ ((KeepsOthers.alloc W' _).from _) (kpB_bel hbA h4.size) ⟨fv2, av2, pv2, BV.below h3 hbA, h4.trans (BS.of_bel hbA)⟩ ⟨W'.heap.size, h4.size, heap_alloc_new W' _, ?_⟩
      rfl
    case body2 =>
      rintro l2 pre2 z a' W' hl2 hr2 ⟨fv2, av2, pv2, h3, h4⟩ ⟨p, hp1, hp2, rfl⟩ hlen2
      dsimp only
      obtain ⟨c, hc⟩ : ∃ c, c = z.1 := ⟨_, rfl⟩
      have HCZ : Hid (c = z.1) := hc
      rw [← hc] at hp2
      simp only [← hc]
      obtain ⟨u0, u1, u2, hbB2⟩ := HBX5.out W' _ h4
      have f0 := box_cell (k := 0) u0 rfl
      have f1 := box_cell (k := 0) u1 rfl
      have a1 := box_cell (k := 1) u2 rfl
      have a3 := box_cell (k := 3) u2 rfl
      have a4 := box_cell (k := 4) u2 rfl
      have c2 := box_cell (k := 2) hp2 rfl
      have c3 := box_cell (k := 3) hp2 rfl
      have c4 := box_cell (k := 4) hp2 rfl
      obtain ⟨l1', l2'⟩ := HL5.out pre2 (by omega)
      have hsm : togS a c ∈ stpL K.f K.g x := by rw [hc]; exact (HI5.out z).1
      have hwt := (stp_in kf kg hxr hsm).2.2.2
      have hwr : IntKind.i64.wrap (a.wt + c.wt) = a.wt + c.wt := by
        have w1 : 0 ≤ a.wt + c.wt := hwt.1
        have w2 : a.wt + c.wt ≤ 2000000000 := hwt.2
        exact wrap_in _ (by omega) (by omega)
      have hlead := blead_any K P B Mb sta fv2 av2 pv2 _ fb fo N fc gb go M gc (togS a c) k 0 0 W' h3 (HTW.out W' hbB2) (stp_in kf kg hxr hsm).1 l1' l2'
      clear u0 u1 u2 hp2 hc l1' l2' hsm hwt
      gi_wp2_with (refine ⟨trivial, ?_⟩; gi_at_call 145; refine (CallsIn.inRound l2 (CallsIn.inRound l (callsIn_wide.2 hlead))).mono ?_; rintro e w2 ⟨rfl, fv3, av3, pv3, h5, h6⟩)
      exact ⟨h6.keepsFrom h3 HW5.out.1, h4.kpB h6, fv3, av3, pv3, by rw [List.map_append, List.map_append, List.foldl_append, List.map_singleton, List.map_singleton, ← HCZ.out]; exact h5, h4.trans h6⟩
    case done2 =>
      rintro ys W' hys ⟨fv2, av2, pv2, h3, h4⟩
      rw [hys] at h3
      change BW W' P B Mb K sta fv2 av2 pv2 ((togC K.g.arcs x.2 a).foldl (leadD k) b1) at h3
      have hs := HW5.out.2.trans h4
      refine ⟨hs.keepsFrom h1 HW2.out.1, h2.kpB hs, fv2, av2, pv2, ?_, h2.trans hs⟩
      rw [List.map_append, List.flatMap_append, List.foldl_append, List.map_singleton, List.flatMap_singleton, ← HAY.out, ← HB1.out]
      exact h3
    case stop2 =>
      rintro c pre W _ h
      exact h.elim
  case done =>
    rintro D ys Wx hD hys ⟨fv1, av1, pv1, h1, h2⟩ hDd
    rw [hys] at h1
    change BW Wx P B Mb K sta fv1 av1 pv1 ((togL K.f.arcs K.g.arcs x.1 x.2).foldl (leadD k) b) at h1
    gi_wp2
    have hg1 := grownBy_putObj' Wx D (.deferred none)
    have hv1 := BV.kept (D := W2.heap.size) h1 hg1 (fun r e => by cases e; exact ⟨hD, _, hDd, rfl⟩) HW2.out.1
    have hs1 := (HW2.out.2.trans h2).kept (D := w.heap.size) hg1 (Nat.le_refl _) (fun r e => by cases e; omega)
    refine ⟨by simp, .inl ⟨_, _, rfl, run_takeDeferred hDd, ?_⟩⟩
    exact ⟨_, results_none rfl _ _ _, rfl, fv1, av1, pv1, hv1, hs1⟩
  case stop =>
    rintro D c pre W _ _ h _
    exact h.elim
end Go.Proofs.Yteehgcbjmdideaa

/- 'begin' and 'goAll' of package compose. -/
namespace Go.Proofs.Yteehgcbjmdideaa
open Go.RowKit Go.ChangeMaps
attribute [local go_sem ↓] Go.wp_at_zero Go.wp_at_succ

theorem ownsRow_none (w : World) (B e size : Nat) : w.ownsRow B e size (.slice none 0 0) 0 [] := ⟨by simp, Or.inl ⟨rfl, rfl⟩⟩

/-- how many arcs there are when k pairs are gone on from -/
theorem grown_arcs {f g : FstD} {k : Nat} {b : BothD} (h : GrI f g k b) (hf : f.arcs.length ≤ 100) (hg : g.arcs.length ≤ 100) : b.arcs.length ≤ k * 10200 := by
  rw [h.cnt]
  have h1 : ∀ x : Int × Int, (stpL f g x).length ≤ 10200 := fun x => by
    unfold stpL togL fstL2 sndL
    rw [List.length_append, List.length_append, List.length_map, List.length_map, flat_len]
    have a1 := List.length_filter_le (fun a : ArcD => a.src == x.1 && a.out == 0) f.arcs
    have a2 := List.length_filter_le (fun c : ArcD => c.src == x.2 && c.inp == 0) g.arcs
    have a3 := List.length_filter_le (fun a : ArcD => a.src == x.1 && decide (0 < a.out)) f.arcs
    have a4 : ((f.arcs.filter fun a => a.src == x.1 && decide (0 < a.out)).map fun a => (togC g.arcs x.2 a).length).sum ≤ (f.arcs.filter fun a => a.src == x.1 && decide (0 < a.out)).length * 100 := by
      rw [← sum_const]
      refine sum_le _ _ _ fun a _ => ?_
      unfold togC
      rw [List.length_map]
      have := List.length_filter_le (fun c : ArcD => c.src == x.2 && c.inp == a.out) g.arcs
      omega
    omega
  refine Nat.le_trans (sum_le _ (fun _ => 10200) _ fun x _ => h1 x) ?_
  rw [sum_const, List.length_take]
  exact Nat.mul_le_mul_right _ (Nat.min_le_left _ _)

set_option maxRecDepth 100000 in
set_option maxHeartbeats 2000000 in
theorem goAll_any (K : TwoF) (P B Mb : Nat) (sta : Int) (fv av pv : Value) (fb fo N fc gb go M gc : Nat) (aa : Option Addr) (m ac : Nat) (ca : Option Addr) (mc cc : Nat) (w : World)
    (h : BW w P B Mb K sta fv av pv (begD K.f K.g)) (hK : TwoAt K w B fb fo N fc gb go M gc) (hR : ArcsOf K w B aa m ac ca mc cc) (hm : m ≤ 100) (hmc : mc ≤ 100) (hs1 : K.f.states ≤ 12) (hs2 : K.g.states ≤ 12) :
    Calls Try.prog 77 #[.pointer (some ⟨P, 0, none⟩)] w fun e w' =>
      e = .returned (.tuple #[]) ∧ ∃ b, Grown K.f K.g b.ps.length b ∧ ∃ fv' av' pv', BW w' P B Mb K sta fv' av' pv' b ∧ BS P Mb w w' (ownB fv av pv) (ownB fv' av' pv') := by
  have kf := hK.kf
  have kg := hK.kg
  have hfl := hR.len
  have hgl := hR.len'
  have HST : Hid (∀ {k : Nat} {b : BothD}, Grown K.f K.g k b → GrI K.f K.g k b ∧ b.ps.length ≤ 144 ∧ b.arcs.length ≤ 2000000) := fun {k b} hg => by
    have hi := grown_inv kf kg hg
    have h1 := pairs_le hi.nd hi.rng
    have h2 : K.f.states.toNat * K.g.states.toNat ≤ 12 * 12 := Nat.mul_le_mul (by omega) (by omega)
    have h3 := grown_arcs hi (by omega) (by omega)
    have h4 := hi.kle
    exact ⟨hi, by omega, by omega⟩
  have HBE : Hid (∀ W O', BS P Mb w W (ownB fv av pv) O' → TwoAt K W B fb fo N fc gb go M gc ∧ ArcsOf K W B aa m ac ca mc cc) := fun W O' hs => ⟨hK.below (hs.below h), hR.below (hs.below h)⟩
  go_enter Try.func77, Try.ntmps77
  go_wp2
  go_loopw [2] (fun i wr => ∃ (k : Nat) (b : BothD) (fv' av' pv' : Value), i = .int .i64 k ∧ Grown K.f K.g k b ∧ BW wr P B Mb K sta fv' av' pv' b ∧ BS P Mb w wr (ownB fv av pv) (ownB fv' av' pv')) (fun i _ => 144 - (intOf i).toNat)
  case atStart => exact ⟨0, _, fv, av, pv, rfl, rfl, h, BS.refl⟩
  case round =>
    obtain ⟨k, b, fv', av', pv', rfl, hg, hb, hs⟩ := hrel
    obtain ⟨hi, hl1, hl2⟩ := HST.out hg
    have hkl := hi.kle
    have c0 := box_cell (k := 0) (v := .int .i64 (b.ps.length : Nat)) (BV.box hb) rfl
    have hwk : IntKind.i64.wrap ((k : Int) + 1) = (k : Int) + 1 := wrap_in _ (by omega) (by omega)
    by_cases hlt : k < b.ps.length
    · have hki : (k : Int) < b.ps.length := by omega
      obtain ⟨x, hx⟩ : ∃ x, b.ps[k]? = some x := ⟨_, List.getElem?_eq_getElem hlt⟩
      have hxr := hi.rng x (List.mem_of_getElem? hx)
      obtain ⟨hKw, hRw⟩ := HBE.out wr _ hs
      have htog := goTogether_any K P B Mb sta fv' av' pv' b fb fo N fc gb go M gc aa m ac ca mc cc k x wr hb hKw hRw hx hm hmc hi.nd hi.rng (by omega)
      have HGR : Hid (Grown K.f K.g (k + 1) (((fstL2 K.f.arcs x.1 x.2 ++ sndL K.g.arcs x.1 x.2)).foldl (leadD k) ((togL K.f.arcs K.g.arcs x.1 x.2).foldl (leadD k) b))) := by
        refine ⟨b, hg, hlt, ?_⟩
        unfold expD stpL
        rw [List.getD_eq_getElem?_getD, hx]
        show _ = List.foldl (leadD k) b (togL K.f.arcs K.g.arcs x.1 x.2 ++ (fstL2 K.f.arcs x.1 x.2 ++ sndL K.g.arcs x.1 x.2))
        exact List.foldl_append.symm
      have HL2 : Hid (((togL K.f.arcs K.g.arcs x.1 x.2).foldl (leadD k) b).ps[k]? = some x ∧ ((togL K.f.arcs K.g.arcs x.1 x.2).foldl (leadD k) b).ps.Nodup ∧ (∀ y ∈ ((togL K.f.arcs K.g.arcs x.1 x.2).foldl (leadD k) b).ps, InP K.f K.g y) ∧ ((togL K.f.arcs K.g.arcs x.1 x.2).foldl (leadD k) b).arcs.length ≤ 90000000) := by
        obtain ⟨l1, l2, l3, new, l4, l5, _⟩ := led k (togL K.f.arcs K.g.arcs x.1 x.2) b
        refine ⟨prefix_at l1 hx, l2 hi.nd, fun y hy => ?_, ?_⟩
        · rcases l3 y hy with q | ⟨s, hs, rfl⟩
          · exact hi.rng y q
          · exact (stp_in kf kg hxr (List.mem_append.2 (Or.inl hs))).1
        · have h1 : (togL K.f.arcs K.g.arcs x.1 x.2).length ≤ 10000 := by
            unfold togL
            rw [flat_len]
            have a3 := List.length_filter_le (fun a : ArcD => a.src == x.1 && decide (0 < a.out)) K.f.arcs
            refine Nat.le_trans (sum_le _ (fun _ => 100) _ fun a _ => ?_) (by rw [sum_const]; omega)
            unfold togC
            rw [List.length_map]
            have := List.length_filter_le (fun c : ArcD => c.src == x.2 && c.inp == a.out) K.g.arcs
            omega
          rw [l4, List.length_append]
          omega
      generalize (togL K.f.arcs K.g.arcs x.1 x.2).foldl (leadD k) b = b1 at *
      go_wp2_with fail
      refine htog.mono ?_
      rintro e w1 ⟨rfl, fv1, av1, pv1, h1, hs1'⟩
      obtain ⟨q1, q2, q3, q4⟩ := HL2.out
      obtain ⟨hK1, hR1⟩ := HBE.out w1 _ (hs.trans hs1')
      have halo := goAlone_any K P B Mb sta fv1 av1 pv1 b1 fb fo N fc gb go M gc aa m ac ca mc cc k x w1 h1 hK1 hR1 q1 hm hmc q2 q3 q4
      clear htog q1 q2 q3 q4 hK1 hR1 hKw hRw
      go_wp2_with fail
      refine halo.mono ?_
      rintro e w2 ⟨rfl, fv2, av2, pv2, h2, hs2'⟩
      go_wp2
      go_roundw
      case rel => exact ⟨k + 1, _, fv2, av2, pv2, by go_num, HGR.out, h2, hs.trans (hs1'.trans hs2')⟩
      case measure => simp [intOf]; omega
    · obtain rfl : k = b.ps.length := by omega
      have hkn : ¬ ((b.ps.length : Int) < b.ps.length) := by omega
      go_wp2
      go_end0
      exact ⟨rfl, b, hg, fv', av', pv', hb, hs⟩

/-- what both are made of at the beginning -/
theorem both_new (K : TwoF) (B P Mb : Nat) (w : World) (hbox : w.heap[P]? = some (.cells (bothV K 0 0 (.slice none 0 0) (.slice none 0 0) Mb (.slice none 0 0)) 93 (0, 0))) (hmp : PrAt w Mb []) (hP : B ≤ P) (hM : B ≤ Mb) : BW w P B Mb K 0 (.slice none 0 0) (.slice none 0 0) (.slice none 0 0) ⟨[], []⟩ :=
  ⟨hbox, ownsRow_none _ _ _ _, ownsRow_none _ _ _ _, ownsRow_none _ _ _ _, hmp, hP, hM, (by simp [Value.ownBlock]), (by simp [Value.ownBlock]), (by simp [Value.ownBlock]), (fun g h => by simp [Value.ownBlock] at h), (fun g h => by simp [Value.ownBlock] at h), (fun g h => by simp [Value.ownBlock] at h)⟩

set_option maxRecDepth 100000 in
set_option maxHeartbeats 2000000 in
theorem begin_both (K : TwoF) (fb fo N fc gb go M gc : Nat) (aa : Option Addr) (m ac : Nat) (ca : Option Addr) (mc cc : Nat) (w : World) (hK : TwoAt K w w.heap.size fb fo N fc gb go M gc) (hR : ArcsOf K w w.heap.size aa m ac ca mc cc) :
    Calls Try.prog 76 #[.agg #[.int .i64 K.f.states, .int .i64 K.f.start, K.fi, K.ar], .agg #[.int .i64 K.g.states, .int .i64 K.g.start, K.fj, K.ar']] w fun e w' =>
      ∃ P Mb, e = .returned (.pointer (some ⟨P, 0, none⟩)) ∧ w.heap.size ≤ P ∧ ∃ fv av pv, BW w' P w.heap.size Mb K 0 fv av pv (begD K.f K.g) ∧ Below w.heap.size w w' := by
  have hmm := @run_makeMap Try.prog
  obtain ⟨W2, hW2⟩ : ∃ W2, W2 = (w.alloc (.cells #[.int .i64 K.f.states, .int .i64 K.f.start, K.fi, K.ar] 25)).alloc (.cells #[.int .i64 K.g.states, .int .i64 K.g.start, K.fj, K.ar'] 25) := ⟨_, rfl⟩
  obtain ⟨W4, hW4⟩ : ∃ W4, W4 = (W2.alloc (.map #[] 0)).alloc (.cells (bothV K 0 0 (.slice none 0 0) (.slice none 0 0) (w.heap.size + 1 + 1) (.slice none 0 0)) 93) := ⟨_, rfl⟩
  have hb2 : Below w.heap.size w W2 := by rw [hW2]; exact two_up w _ _
  have hz2 : W2.heap.size = w.heap.size + 1 + 1 := by rw [hW2]; simp
  have hb24 : Below W2.heap.size W2 W4 := by rw [hW4]; exact two_up W2 _ _
  have hb4 : Below w.heap.size w W4 := bel_on hb2 hb24
  have hbx : W4.heap[w.heap.size + 1 + 1 + 1]? = some (.cells (bothV K 0 0 (.slice none 0 0) (.slice none 0 0) (w.heap.size + 1 + 1) (.slice none 0 0)) 93 (0, 0)) := by
    rw [hW4]
    have := heap_alloc_new (W2.alloc (.map #[] 0)) (.cells (bothV K 0 0 (.slice none 0 0) (.slice none 0 0) (w.heap.size + 1 + 1) (.slice none 0 0)) 93)
    rw [one_size, hz2] at this
    exact this
  have hmp : PrAt W4 (w.heap.size + 1 + 1) [] := ⟨#[], 0, by rw [hW4, ← hz2]; exact heap_bel (bel_up (bel_self _) _) (heap_alloc_new W2 _), rfl⟩
  have hnew := both_new K w.heap.size (w.heap.size + 1 + 1 + 1) (w.heap.size + 1 + 1) W4 hbx hmp (by omega) (by omega)
  have hmeet := bmeet_any K _ _ _ 0 _ _ _ ⟨[], []⟩ fb fo N fc gb go M gc (K.f.start, K.g.start) W4 hnew (hK.below hb4) (start_in hK.kf hK.kg) (by simp)
  have hf4 : W4.heap[w.heap.size]? = some (.cells #[.int .i64 K.f.states, .int .i64 K.f.start, K.fi, K.ar] 25 (0, 0)) := heap_bel hb24 (by rw [hW2]; exact heap_bel (bel_up (bel_self _) _) (heap_alloc_new w _))
  have hg4 : W4.heap[w.heap.size + 1]? = some (.cells #[.int .i64 K.g.states, .int .i64 K.g.start, K.fj, K.ar'] 25 (0, 0)) := heap_bel hb24 (by
    rw [hW2]
    have := heap_alloc_new (w.alloc (.cells #[.int .i64 K.f.states, .int .i64 K.f.start, K.fi, K.ar] 25)) (.cells #[.int .i64 K.g.states, .int .i64 K.g.start, K.fj, K.ar'] 25)
    rw [one_size] at this
    exact this)
  have x1 := box_cell (k := 1) hf4 rfl
  have y1 := box_cell (k := 1) hg4 rfl
  have HB4 : Hid (Below w.heap.size w W4) := hb4
  have HNW : Hid (BW W4 (w.heap.size + 1 + 1 + 1) w.heap.size (w.heap.size + 1 + 1) K 0 (.slice none 0 0) (.slice none 0 0) (.slice none 0 0) ⟨[], []⟩) := hnew
  have HW : Hid (W4 = (((w.alloc (.cells #[.int .i64 K.f.states, .int .i64 K.f.start, K.fi, K.ar] 25)).alloc (.cells #[.int .i64 K.g.states, .int .i64 K.g.start, K.fj, K.ar'] 25)).alloc (.map #[] 0)).alloc (.cells (bothV K 0 0 (.slice none 0 0) (.slice none 0 0) (w.heap.size + 1 + 1) (.slice none 0 0)) 93)) := by rw [hW4, hW2]; exact (rfl : _ = _)
  rw [HW.out, hK.fi, hK.fj, hR.ar, hR.ar'] at x1 y1
  unfold bothV at x1 y1
  rw [hK.fi, hK.fj, hR.ar, hR.ar'] at x1 y1
  have HFI : Hid (K.fi = .slice (some ⟨fb, fo, none⟩) N fc ∧ K.fj = .slice (some ⟨gb, go, none⟩) M gc ∧ K.ar = .slice aa m ac ∧ K.ar' = .slice ca mc cc) := ⟨hK.fi, hK.fj, hR.ar, hR.ar'⟩
  have HW' : Hid (W4 = (((w.alloc (.cells #[.int .i64 K.f.states, .int .i64 K.f.start, .slice (some ⟨fb, fo, none⟩) N fc, .slice aa m ac] 25)).alloc (.cells #[.int .i64 K.g.states, .int .i64 K.g.start, .slice (some ⟨gb, go, none⟩) M gc, .slice ca mc cc] 25)).alloc (.map #[] 0)).alloc (.cells #[.int .i64 0, .int .i64 0, .slice none 0 0, .slice none 0 0, .int .i64 K.f.states, .int .i64 K.f.start, .slice (some ⟨fb, fo, none⟩) N fc, .slice aa m ac, .int .i64 K.g.states, .int .i64 K.g.start, .slice (some ⟨gb, go, none⟩) M gc, .slice ca mc cc, .map (some (w.heap.size + 1 + 1)), .slice none 0 0] 93)) := by
    rw [HW.out]
    unfold bothV
    rw [hK.fi, hK.fj, hR.ar, hR.ar']
    exact (rfl : _ = _)
  rw [hK.fi, hK.fj, hR.ar, hR.ar']
  clear hW2 hW4 hb2 hz2 hb24 hb4 hbx hmp hnew hf4 hg4 HW hK hR
  go_enter Try.func76, Try.ntmps76
  go_wp2_with fail
  rw [← HW'.out]
  clear x1 y1
  refine hmeet.mono ?_
  rintro e w5 ⟨rfl, fv5, pv5, h5, hs5⟩
  have c1 := box_cell (k := 1) (v := .int .i64 0) (BV.box h5) rfl
  have z1 := box_frz (BV.box h5) 1
  have h6 := BV.start h5 0
  have e0 : List.idxOf (K.f.start, K.g.start) ([] : List (Int × Int)) = 0 := rfl
  go_wp2
  go_ret
  refine ⟨_, _, rfl, by omega, fv5, _, pv5, h6, ?_⟩
  have hb5 : Below w.heap.size W4 w5 := hs5.below HNW.out
  exact (HB4.out.trans hb5).setCell (p := ⟨w.heap.size + 1 + 1 + 1, 1, none⟩) (by show w.heap.size ≤ w.heap.size + 1 + 1 + 1; omega) _
end Go.Proofs.Yteehgcbjmdideaa
