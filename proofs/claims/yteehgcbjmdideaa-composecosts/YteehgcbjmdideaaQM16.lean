/- 'firstArcs' of package score: the number of the first arc of each state. -/
import Derived.Test.YteehgcbjmdideaaQGoOn
import Derived.Test.YteehgcbjmdideaaQFindP
namespace Go.Proofs.Yteehgcbjmdideaa
open Go.RowKit
attribute [local go_sem ↓] Go.wp_at_zero Go.wp_at_succ

/-- how many arcs begin just ahead of s -/
def oneC (l : List ArcD) (s : Nat) : Nat := (l.filter fun a => decide (a.src + 1 = (s : Int))).length
def cntL (l : List ArcD) (N : Nat) : List Int := (List.range (N + 1)).map fun s => (oneC l s : Int)
def mixC (l : List ArcD) (N j : Nat) : List Int := (List.range (N + 1)).map fun s => if s ≤ j then (cntB l s : Int) else (oneC l s : Int)

theorem cntL_len (l : List ArcD) (N : Nat) : (cntL l N).length = N + 1 := by simp [cntL]
theorem mixC_len (l : List ArcD) (N j : Nat) : (mixC l N j).length = N + 1 := by simp [mixC]
theorem cntL_at (l : List ArcD) (N s : Nat) (hs : s ≤ N) : gI (cntL l N) s = oneC l s := by
  unfold gI cntL
  simp [List.getD, show s < N + 1 by omega]
theorem mixC_at (l : List ArcD) (N j s : Nat) (hs : s ≤ N) : gI (mixC l N j) s = if s ≤ j then (cntB l s : Int) else (oneC l s : Int) := by
  unfold gI mixC
  simp [List.getD, show s < N + 1 by omega]
theorem cntL_nil (N : Nat) : cntL [] N = List.replicate (N + 1) 0 := by
  unfold cntL oneC
  apply List.ext_getElem
  · simp
  · intro i h1 h2
    simp
theorem oneC_le (l : List ArcD) (s : Nat) : oneC l s ≤ l.length := List.length_filter_le _ _

theorem gI_ext {c d : List Int} (hl : c.length = d.length) (h : ∀ v, v < c.length → gI c v = gI d v) : c = d := by
  apply List.ext_getElem hl
  intro i h1 h2
  have := h i h1
  unfold gI at this
  simpa [List.getD, h1, h2] using this

theorem cntL_snoc (l : List ArcD) (N t : Nat) (a : ArcD) (ht : a.src = (t : Int)) (htN : t < N) : (cntL l N).set (t + 1) (gI (cntL l N) (t + 1) + 1) = cntL (l ++ [a]) N := by
  apply gI_ext
  · rw [List.length_set, cntL_len, cntL_len]
  · intro v hv
    rw [List.length_set, cntL_len] at hv
    rw [gI_set _ _ _ _ (by rw [cntL_len]; omega), cntL_at _ _ _ (by omega), cntL_at _ _ _ (by omega), cntL_at _ _ _ (by omega)]
    unfold oneC
    rw [List.filter_append, List.length_append]
    by_cases e : v = t + 1
    · subst e
      rw [if_pos rfl, List.filter_cons_of_pos (by simp [ht])]
      simp
    · rw [if_neg e, List.filter_cons_of_neg (by simp [ht]; omega)]
      simp

theorem cntB_succ (l : List ArcD) (j : Nat) : cntB l (j + 1) = oneC l (j + 1) + cntB l j := by
  unfold cntB oneC
  induction l with
  | nil => rfl
  | cons a l ih =>
    rw [List.filter_cons, List.filter_cons, List.filter_cons]
    by_cases h1 : a.src < (j : Int)
    · simp only [show a.src < ((j + 1 : Nat) : Int) by omega, h1, show ¬ a.src + 1 = ((j + 1 : Nat) : Int) by omega, decide_true, decide_false, if_true, Bool.false_eq_true, if_false, List.length_cons]
      omega
    · by_cases h2 : a.src + 1 = ((j + 1 : Nat) : Int)
      · simp only [show a.src < ((j + 1 : Nat) : Int) by omega, h1, h2, decide_true, decide_false, if_true, Bool.false_eq_true, if_false, List.length_cons]
        omega
      · simp only [show ¬ a.src < ((j + 1 : Nat) : Int) by omega, h1, h2, decide_false, Bool.false_eq_true, if_false]
        exact ih

theorem mixC_zero (l : List ArcD) (N : Nat) (h : ∀ a ∈ l, 0 ≤ a.src) : mixC l N 0 = cntL l N := by
  apply gI_ext
  · rw [mixC_len, cntL_len]
  · intro v hv
    rw [mixC_len] at hv
    rw [mixC_at _ _ _ _ (by omega), cntL_at _ _ _ (by omega)]
    by_cases e : v ≤ 0
    · have e0 : v = 0 := by omega
      subst e0
      rw [if_pos e, cntB_zero l h]
      have : oneC l 0 = 0 := by
        unfold oneC
        rw [List.length_eq_zero_iff, List.filter_eq_nil_iff]
        intro a ha
        have := h a ha
        simp
        omega
      rw [this]
    · rw [if_neg e]

theorem mixC_succ (l : List ArcD) (N j : Nat) (hj : j < N) : (mixC l N j).set (j + 1) (gI (mixC l N j) (j + 1) + gI (mixC l N j) j) = mixC l N (j + 1) := by
  apply gI_ext
  · rw [List.length_set, mixC_len, mixC_len]
  · intro v hv
    rw [List.length_set, mixC_len] at hv
    rw [gI_set _ _ _ _ (by rw [mixC_len]; omega), mixC_at _ _ _ _ (by omega), mixC_at _ _ _ _ (by omega), mixC_at _ _ _ _ (by omega), mixC_at _ _ _ _ (by omega)]
    by_cases e : v = j + 1
    · subst e
      have := cntB_succ l j
      rw [if_pos rfl, if_neg (by omega), if_pos (Nat.le_refl _), if_pos (Nat.le_refl _)]
      omega
    · rw [if_neg e]
      by_cases h : v ≤ j
      · rw [if_pos h, if_pos (by omega)]
      · rw [if_neg h, if_neg (by omega)]

theorem mixC_all (l : List ArcD) (N : Nat) : mixC l N N = fstL l N := by
  apply gI_ext
  · rw [mixC_len]; simp [fstL]
  · intro v hv
    rw [mixC_len] at hv
    rw [mixC_at _ _ _ _ (by omega), fstL_at _ _ _ (by omega), if_pos (by omega)]

theorem made_zero (w : World) (n : Nat) : NumsAt (w.alloc (.cells (madeCells #[.int .i64 0] n) 3)) w.heap.size n (List.replicate n 0) := by
  have h : (w.alloc (.cells (madeCells #[.int .i64 0] n) 3)).heap[w.heap.size]? = some (.cells (intsW (List.replicate n 0)).toArray 3 (0, 0)) := by
    have e : madeCells #[.int .i64 0] n = (intsW (List.replicate n 0)).toArray := by
      rw [← rowR_made 0 n]
      simp [rowR, intsW]
    rw [← e]
    exact heap_alloc_new w _
  have := NumsAt.of_block h
  simpa using this

structure FAW (w wr : World) (N s0 G n1 : Nat) (fin arcs : Value) (c : List Int) : Prop where
  cf : CellsF wr w.heap.size (N : Int) (s0 : Int) fin arcs
  row : NumsAt wr G n1 c
  ge : w.heap.size + 1 ≤ G
  bel : Below w.heap.size w wr

theorem FAW.below {w wr wx : World} {N s0 G n1 : Nat} {fin arcs : Value} {c : List Int} (h : FAW w wr N s0 G n1 fin arcs c) (hb : Below wr.heap.size wr wx) : FAW w wx N s0 G n1 fin arcs c :=
  ⟨h.cf.below hb, h.row.below hb, h.ge, bel_on h.bel hb⟩
theorem FAW.set {w wr : World} {N s0 G n1 : Nat} {fin arcs : Value} {c : List Int} (h : FAW w wr N s0 G n1 fin arcs c) (i : Nat) (x : Int) (hi : i < n1) : FAW w (wr.setCell ⟨G, i, none⟩ (.int .i64 x)) N s0 G n1 fin arcs (c.set i x) := by
  have hk : w.heap.size ≠ G := by have := h.ge; omega
  exact ⟨⟨(set_far hk).trans h.cf.1, (set_far hk).trans h.cf.2.1, (set_far hk).trans h.cf.2.2.1, (set_far hk).trans h.cf.2.2.2⟩, h.row.set i x hi, h.ge, h.bel.setCell (p := ⟨G, i, none⟩) (by have := h.ge; show w.heap.size ≤ G; omega) _⟩

set_option maxHeartbeats 1000000 in
set_option maxRecDepth 100000 in
theorem firstArcs_any (f : FstD) (ins outs : List Int) (N s0 : Nat) (fin : Value) (aa : Option Addr) (m ac : Nat) (w : World) (hok : OkW f ins outs N s0) (ha : ASlice w (.slice aa m ac) f.arcs) (hal : f.arcs.length = m) :
    Calls Try.prog 130 #[.agg #[.int .i64 (N : Int), .int .i64 (s0 : Int), fin, .slice aa m ac]] w fun e w' =>
      ∃ G, e = .returned (.slice (some ⟨G, 0, none⟩) (N + 1) (N + 1)) ∧ NumsAt w' G (N + 1) (fstL f.arcs N) ∧ w.heap.size ≤ G ∧ Below w.heap.size w w' := by
  obtain ⟨n1, hn1⟩ : ∃ n1, n1 = N + 1 := ⟨_, rfl⟩
  rw [← hn1]
  have HN1 : Hid (n1 = N + 1) := hn1
  have hn1i : (N : Int) + 1 = (n1 : Int) := by omega
  have HOK : Hid (OkW f ins outs N s0) := hok
  have HAL : Hid (f.arcs.length = m) := hal
  have hN2 := hok.n2
  have hN0 := hok.n1
  have hm3 : m ≤ 3000 := by have := hok.many; omega
  have hn9 : n1 ≤ 201 := by omega
  have hNn : N < n1 := by omega
  clear hok hn1 hal
  have hmk := run_make_row' (P := Try.prog) 22 3 (.int .i64 0) 8 Try.underlying22 Try.info3 rfl .i64 .i64 n1 (by omega) (by omega)
  have hb0 := bel_up (bel_self w) (.cells #[.int .i64 (N : Int), .int .i64 (s0 : Int), fin, .slice aa m ac] 25)
  have hcf : CellsF (w.alloc (.cells #[.int .i64 (N : Int), .int .i64 (s0 : Int), fin, .slice aa m ac] 25)) w.heap.size (N : Int) (s0 : Int) fin (.slice aa m ac) := by simp [CellsF]
  go_enter Try.func130, Try.ntmps130
  go_wp2
  have hu1 := bel_up hb0 (.cells (madeCells #[.int .i64 0] n1) 3)
  have hF0 : FAW w ((w.alloc (.cells #[.int .i64 (N : Int), .int .i64 (s0 : Int), fin, .slice aa m ac] 25)).alloc (.cells (madeCells #[.int .i64 0] n1) 3)) N s0 (w.heap.size + 1) n1 fin (.slice aa m ac) (cntL [] N) := by
    have h1 := made_zero (w.alloc (.cells #[.int .i64 (N : Int), .int .i64 (s0 : Int), fin, .slice aa m ac] 25)) n1
    rw [show (w.alloc (.cells #[.int .i64 (N : Int), .int .i64 (s0 : Int), fin, .slice aa m ac] 25)).heap.size = w.heap.size + 1 by simp] at h1
    exact ⟨hcf.below (bel_up (bel_self _) _), by rw [cntL_nil, ← HN1.out]; exact h1, by omega, hu1⟩
  obtain ⟨G, hG⟩ : ∃ G, G = w.heap.size + 1 := ⟨_, rfl⟩
  rw [← hG] at hF0 ⊢
  clear hG hcf hb0 hu1 hmk
  go_loopw [14] (fun i wr => ∃ k : Nat, k ≤ m ∧ i = .int .i64 k ∧ FAW w wr N s0 G n1 fin (.slice aa m ac) (cntL (f.arcs.take k) N)) (fun i _ => m - (intOf i).toNat)
  case atStart => exact ⟨0, Nat.zero_le _, rfl, hF0⟩
  case round =>
    clear hF0
    obtain ⟨k, hk, rfl, hF⟩ := hrel
    by_cases hlt : k < m
    · obtain ⟨ab, aoff, rfl, hx⟩ := (ha.below hF.bel).some (by omega)
      obtain ⟨a, hak⟩ : ∃ a, a = f.arcs.getD k a0 := ⟨_, rfl⟩
      have hkl : k < f.arcs.length := by have := HAL.out; omega
      have hka : f.arcs[k]? = some a := by rw [hak]; simp [List.getD, hkl]
      obtain ⟨⟨p1, p2⟩, _⟩ := HOK.out.arcs a (List.mem_of_getElem? hka)
      obtain ⟨t, ht⟩ : ∃ t : Nat, a.src = t := ⟨a.src.toNat, by omega⟩
      have htN : t < N := by omega
      have c0 := hx.c0 k hlt
      have c1 := hx.c1 k hlt
      have c2 := hx.c2 k hlt
      have c3 := hx.c3 k hlt
      have c4 := hx.c4 k hlt
      rw [← hak] at c0 c1 c2 c3 c4
      rw [ht] at c0
      have HSN : Hid ((cntL (f.arcs.take k) N).set (t + 1) (gI (cntL (f.arcs.take k) N) (t + 1) + 1) = cntL (f.arcs.take (k + 1)) N) := by
        have h1 := cntL_snoc (f.arcs.take k) N t a ht htN
        rw [← show f.arcs.take (k + 1) = f.arcs.take k ++ [a] by rw [List.take_add_one, hka]; rfl] at h1
        exact h1
      have hF2 := hF.below (bel_up (bel_self wr) (.cells #[.int .i64 (t : Int), .int .i64 a.inp, .int .i64 a.out, .int .i64 a.dst, .int .i64 a.wt] 63))
      have r1 := hF2.row.cell (t + 1) (by omega)
      have rz := hF2.row.frz (t + 1)
      have hbd : 0 ≤ gI (cntL (f.arcs.take k) N) (t + 1) ∧ gI (cntL (f.arcs.take k) N) (t + 1) ≤ 3000 := by
        rw [cntL_at _ _ _ (by omega)]
        have h1 := oneC_le (f.arcs.take k) (t + 1)
        have h2 : (f.arcs.take k).length ≤ 3000 := by rw [List.length_take]; omega
        omega
      obtain ⟨x, hxd⟩ : ∃ x, x = gI (cntL (f.arcs.take k) N) (t + 1) := ⟨_, rfl⟩
      rw [← hxd] at r1 hbd HSN
      obtain ⟨hb1, hb2⟩ := hbd
      have hki : (k : Int) < m := by omega
      have hti : (t : Int) + 1 < n1 := by omega
      clear hak hkl hka p1 p2 ht hx hxd
      go_wp2
      go_roundw
      case rel => exact ⟨k + 1, by omega, by go_num, by rw [← HSN.out]; exact hF2.set (t + 1) _ (by omega)⟩
      case measure => simp [intOf]; omega
    · have hkm : f.arcs.take k = f.arcs := List.take_of_length_le (by have := HAL.out; omega)
      rw [hkm, ← mixC_zero f.arcs N (fun a ha => (HOK.out.arcs a ha).1.1)] at hF
      obtain ⟨q0, q1, q2, q3⟩ := hF.cf
      clear hkm
      go_wp2
      clear q0 q1 q2 q3
      go_loopw [29] (fun i wr => ∃ j : Nat, j ≤ N ∧ i = .int .i64 j ∧ FAW w wr N s0 G n1 fin (.slice aa m ac) (mixC f.arcs N j)) (fun i _ => N - (intOf i).toNat)
      case atStart => exact ⟨0, Nat.zero_le _, rfl, hF⟩
      case round =>
        clear hF
        obtain ⟨j, hj, rfl, hF⟩ := hrel
        by_cases hlt2 : j < N
        · have HSN : Hid ((mixC f.arcs N j).set (j + 1) (gI (mixC f.arcs N j) (j + 1) + gI (mixC f.arcs N j) j) = mixC f.arcs N (j + 1)) := mixC_succ f.arcs N j hlt2
          have hbd : (0 ≤ gI (mixC f.arcs N j) (j + 1) ∧ gI (mixC f.arcs N j) (j + 1) ≤ 3000) ∧ (0 ≤ gI (mixC f.arcs N j) j ∧ gI (mixC f.arcs N j) j ≤ 3000) := by
            rw [mixC_at _ _ _ _ (by omega), mixC_at _ _ _ _ (by omega), if_neg (by omega), if_pos (Nat.le_refl _)]
            have h1 := oneC_le f.arcs (j + 1)
            have h2 := cntB_le f.arcs j
            have h3 := HAL.out
            omega
          obtain ⟨x1, hx1⟩ : ∃ x, x = gI (mixC f.arcs N j) (j + 1) := ⟨_, rfl⟩
          obtain ⟨x0, hx0⟩ : ∃ x, x = gI (mixC f.arcs N j) j := ⟨_, rfl⟩
          have hFd := hF.below (bel_self wr).drew
          have r1 := hFd.row.cell (j + 1) (by omega)
          have r0 := hFd.row.cell j (by omega)
          have rz := hFd.row.frz (j + 1)
          rw [← hx1] at r1 hbd HSN
          rw [← hx0] at r0 hbd HSN
          obtain ⟨⟨hb1, hb2⟩, hb3, hb4⟩ := hbd
          have hji : (j : Int) < N := by omega
          have hj1 : (j : Int) + 1 < n1 := by omega
          have hjn : (j : Int) < n1 := by omega
          have hw1 : IntKind.i64.wrap ((j : Int) + 1) = (j : Int) + 1 := wrap_in _ (by omega) (by omega)
          clear hx1 hx0
          go_wp2
          obtain ⟨Wd, hWd⟩ : ∃ Wd, Wd = wr.drew := ⟨_, rfl⟩
          rw [← hWd] at r1 r0 rz hFd
          have hS0 : (fun wx : World => wx.cell? ⟨G, j + 1, none⟩ = some (.int .i64 x1) ∧ wx.cell? ⟨G, j, none⟩ = some (.int .i64 x0)) Wd := ⟨r1, r0⟩
          refine wp_region_noPanic ?_
          refine wp_region_F (fun wx => wx.cell? ⟨G, j + 1, none⟩ = some (.int .i64 x1) ∧ wx.cell? ⟨G, j, none⟩ = some (.int .i64 x0)) [11] (by kernel_rfl) (by rw [← hWd]; exact hS0) (fun _ => ?_)
          rw [← hWd]
          clear hWd
          refine wpAnyF_free (i := 0) (v := .slice (some ⟨G, 0, none⟩) n1 n1) rfl (by kernel_rfl) (by kernel_rfl) (by kernel_rfl) (by kernel_rfl) (fun _ _ _ h => h) (Or.inl ⟨by rfl, fun wl hSw => ?_⟩) hS0 ?_
          · (try dsimp only at hSw); go_simp
          refine wpAnyF_free (i := 1) (v := .int .i64 j) rfl (by kernel_rfl) (by kernel_rfl) (by kernel_rfl) (by kernel_rfl) (fun _ _ _ h => h) (Or.inl ⟨by rfl, fun wl hSw => ?_⟩) hS0 ?_
          · (try dsimp only at hSw); go_simp
          refine wpAnyF_free (i := 2) (v := .int .i64 ((j : Int) + 1)) rfl (by kernel_rfl) (by kernel_rfl) (by kernel_rfl) (by kernel_rfl) (fun _ _ _ h => h) (Or.inl ⟨by rfl, fun wl hSw => ?_⟩) hS0 ?_
          · (try dsimp only at hSw); go_simp
          refine wpAnyF_free (i := 3) (v := .pointer (some ⟨G, j + 1, none⟩)) rfl (by kernel_rfl) (by kernel_rfl) (by kernel_rfl) (by kernel_rfl) (fun _ _ _ h => h) (Or.inl ⟨by rfl, fun wl hSw => ?_⟩) hS0 ?_
          · (try dsimp only at hSw); go_simp; (intro hneg; omega)
          refine wpAnyF_take (i := 4) (v := .int .i64 x1) rfl (by kernel_rfl) (by kernel_rfl) (by kernel_rfl) (by kernel_rfl) (fun _ _ _ h => h) (Or.inl ⟨by rfl, fun wl hSw => ?_⟩) hS0 ?_
          · (try dsimp only at hSw); go_simp
          refine wpAnyF_free (i := 5) (v := .slice (some ⟨G, 0, none⟩) n1 n1) rfl (by kernel_rfl) (by kernel_rfl) (by kernel_rfl) (by kernel_rfl) (fun _ _ _ h => h) (Or.inl ⟨by rfl, fun wl hSw => ?_⟩) hS0 ?_
          · (try dsimp only at hSw); go_simp
          refine wpAnyF_free (i := 6) (v := .int .i64 j) rfl (by kernel_rfl) (by kernel_rfl) (by kernel_rfl) (by kernel_rfl) (fun _ _ _ h => h) (Or.inl ⟨by rfl, fun wl hSw => ?_⟩) hS0 ?_
          · (try dsimp only at hSw); go_simp
          refine wpAnyF_free (i := 7) (v := .pointer (some ⟨G, j, none⟩)) rfl (by kernel_rfl) (by kernel_rfl) (by kernel_rfl) (by kernel_rfl) (fun _ _ _ h => h) (Or.inl ⟨by rfl, fun wl hSw => ?_⟩) hS0 ?_
          · (try dsimp only at hSw); go_simp
          refine wpAnyF_take (i := 8) (v := .int .i64 x0) rfl (by kernel_rfl) (by kernel_rfl) (by kernel_rfl) (by kernel_rfl) (fun _ _ _ h => h) (Or.inl ⟨by rfl, fun wl hSw => ?_⟩) hS0 ?_
          · (try dsimp only at hSw); go_simp
          refine wpAnyF_free (i := 9) (v := .int .i64 (x1 + x0)) rfl (by kernel_rfl) (by kernel_rfl) (by kernel_rfl) (by kernel_rfl) (fun _ _ _ h => h) (Or.inl ⟨by rfl, fun wl hSw => ?_⟩) hS0 ?_
          · (try dsimp only at hSw); go_simp; exact wrap_in _ (by omega) (by omega)
          refine wpAnyF_free (i := 10) (v := .pointer (some ⟨G, j + 1, none⟩)) rfl (by kernel_rfl) (by kernel_rfl) (by kernel_rfl) (by kernel_rfl) (fun _ _ _ h => h) (Or.inl ⟨by rfl, fun wl hSw => ?_⟩) hS0 ?_
          · (try dsimp only at hSw); go_simp; (intro hneg; omega)
          refine wpAnyF_one (i := 11) rfl (by kernel_rfl) (fun K hK => ?_)
          go_simp
          refine hK.out _ _ ⟨fun h => absurd h (unl_no (by kernel_rfl)), ?_⟩
          clear hK K
          refine wpAnyF_done (by kernel_rfl) ?_ _
          refine NoPanic.normal ?_
          go_wp2
          go_roundw
          case rel => exact ⟨j + 1, by omega, by go_num, by rw [← HSN.out]; exact hFd.set (j + 1) _ (by omega)⟩
          case measure => simp [intOf]; omega
        · have hjN : j = N := by omega
          rw [hjN, mixC_all] at hF
          clear hjN
          go_wp2
          go_ret
          exact ⟨G, rfl, hF.row, by have := hF.ge; omega, hF.bel⟩
end Go.Proofs.Yteehgcbjmdideaa

/- 'begin' of package score; what it costs to end at a spot. -/
namespace Go.Proofs.Yteehgcbjmdideaa
open Go.RowKit
attribute [local go_sem ↓] Go.wp_at_zero Go.wp_at_succ

theorem wpAnyF_two {P : Program} {ops : Array Oper} {Q : Exit → Act → World → Prop} {md : Region.Mode} {S : World → Prop} {fatal : List Nat} {i j : Nat} {oi oj : Oper} {fuel : Nat} {listed : Array Bool} {a : Act} {w : World} (hi : ops[i]? = some oi) (hj : ops[j]? = some oj) (hr : Region.ready md ops listed = [i, j])
    (h1 : ∀ K' : Act → World → Prop, Shut (∀ a w, ((unl fatal (listed.setIfInBounds i true) → S w) ∧ wpAnyF P md ops Q S fatal fuel (listed.setIfInBounds i true) a w) → K' a w) → if Region.wanted oi (yielded ops a.tmps) = true then Oper.wp P oi a w K' Q else K' (a.put oi.dst undef) w)
    (h2 : ∀ K' : Act → World → Prop, Shut (∀ a w, ((unl fatal (listed.setIfInBounds j true) → S w) ∧ wpAnyF P md ops Q S fatal fuel (listed.setIfInBounds j true) a w) → K' a w) → if Region.wanted oj (yielded ops a.tmps) = true then Oper.wp P oj a w K' Q else K' (a.put oj.dst undef) w) : wpAnyF P md ops Q S fatal (fuel + 1) listed a w := by
  refine ⟨fun h0 => (by rw [hr] at h0; cases h0), fun n hn => ?_⟩
  rw [hr] at hn
  rcases List.mem_cons.1 hn with rfl | hn
  · exact wpOp_step hi (fun K' hK => h1 K' (fun a w hS => hK a w hS))
  · have : n = j := by simpa using hn
    subst this
    exact wpOp_step hj (fun K' hK => h2 K' (fun a w hS => hK a w hS))

theorem SW.new {w0 W : World} {N s0 Mb Fb : Nat} {fin arcs iv ov : Value} {fl : List Int} (hf : NumsAt W Fb (N + 1) fl) (hm : MetAt W Mb []) (hMF : Mb ≠ Fb) (gM : w0.heap.size ≤ Mb) (gF : w0.heap.size ≤ Fb) (hb : Below w0.heap.size w0 W) :
    SW w0 (W.alloc (.cells #[.int .i64 (N : Int), .int .i64 (s0 : Int), fin, arcs, iv, ov, .slice (some ⟨Fb, 0, none⟩) (N + 1) (N + 1), .map (some Mb), .slice none 0 0] 137)) N s0 W.heap.size Mb Fb fin arcs iv ov (.slice none 0 0) fl [] [] := by
  have hu := bel_up (bel_self W) (.cells #[.int .i64 (N : Int), .int .i64 (s0 : Int), fin, arcs, iv, ov, .slice (some ⟨Fb, 0, none⟩) (N + 1) (N + 1), .map (some Mb), .slice none 0 0] 137)
  have lF := hf.lt
  have lM := hm.lt
  refine ⟨new_cell _ _ _ _ 0 _ rfl rfl, new_cell _ _ _ _ 1 _ rfl rfl, new_cell _ _ _ _ 2 _ rfl rfl, new_cell _ _ _ _ 3 _ rfl rfl, new_cell _ _ _ _ 4 _ rfl rfl, new_cell _ _ _ _ 5 _ rfl rfl, new_cell _ _ _ _ 6 _ rfl rfl, new_cell _ _ _ _ 7 _ rfl rfl, ⟨new_cell _ _ _ _ 8 _ rfl rfl, new_frozen _ _ _ _ _ rfl, World.ownsRow_nil _ _ _ _, by simp [Value.ownBlock], Nat.le_trans hb.size hu.size⟩, hf.below hu, hm.block (hu.block Mb lM), by omega, by omega, hMF, by simp [Value.ownBlock], by simp [Value.ownBlock], hb.size, gM, gF, bel_on hb hu, fun k _ hk => by simp at hk⟩

theorem spotN_start (N O s0 : Nat) : spotN N O s0 0 0 = s0 := by simp [spotN]

theorem SGh.start {f : FstD} {ins outs : List Int} {N s0 : Nat} (hok : OkW f ins outs N s0) : SGh f ins outs N s0 (bgS s0 (totS ins outs N)) (List.replicate (bgS s0 (totS ins outs N)).length (-1)) [⟨s0, 0, 0, 0, -1⟩] [⟨s0, 0, 0, 0⟩] (-1) (totS ins outs N) [] 0 := by
  have hsT : s0 < totS ins outs N := by
    have := spotN_lt (N := N) (n := s0) (i := 0) (o := 0) hok.s (Nat.zero_le ins.length) (Nat.zero_le outs.length)
    rw [spotN_start] at this
    exact this
  have hb := fun v => bgS_at s0 (totS ins outs N) v
  have hb0 : gI (bgS s0 (totS ins outs N)) s0 = 0 := by rw [hb, if_pos ⟨rfl, hsT⟩]
  refine ⟨SI.start (fun v => ?_) (fun v => ?_) (fun p hp => ?_) (fun u hu => ?_), SD.start _ (Int.le_refl 0), fun n i o hn hi ho => ?_, fun p hp => ?_, bgS_len _ _⟩
  · rw [hb]; split <;> omega
  · rw [hb]; split <;> omega
  · rw [List.mem_singleton.1 hp]
    show 0 ≤ gI _ (spotN N outs.length s0 0 0) ∧ gI _ (spotN N outs.length s0 0 0) ≤ 0
    rw [spotN_start, hb0]
    decide
  · refine ⟨_, List.mem_singleton.2 rfl, ?_⟩
    rw [hb] at hu ⊢
    split at hu
    · rename_i h
      rw [if_pos h]
      exact ⟨by show spotN N outs.length s0 0 0 = u; rw [spotN_start]; exact h.1.symm, rfl⟩
    · omega
  · have hy : gI (List.replicate (bgS s0 (totS ins outs N)).length (-1)) (spotN N outs.length n i o) = -1 := by
      unfold gI
      simp only [List.getD, List.getElem?_replicate]
      split <;> rfl
    rw [hy, hb]
    show (if isAt n i o ⟨s0, 0, 0, 0, -1⟩ = true then some (⟨s0, 0, 0, 0, -1⟩ : MetD) else none) = _
    by_cases e : s0 = n ∧ 0 = i ∧ 0 = o
    · obtain ⟨rfl, rfl, rfl⟩ := e
      rw [if_pos (show isAt s0 0 0 ⟨s0, 0, 0, 0, -1⟩ = true from (isAt_iff _ _ _ _).2 ⟨rfl, rfl, rfl⟩), spotN_start, show (if s0 = s0 ∧ s0 < totS ins outs N then (0 : Int) else -1) = 0 from if_pos ⟨rfl, hsT⟩, if_neg (by decide)]
      rfl
    · have hsp : ¬ (spotN N outs.length n i o = s0 ∧ spotN N outs.length n i o < totS ins outs N) := by
        rintro ⟨h, _⟩
        rw [← spotN_start N outs.length s0] at h
        obtain ⟨h1, h2, h3⟩ := spotN_inj hn hok.s ho (Nat.zero_le _) h
        exact e ⟨h1.symm, h2.symm, h3.symm⟩
      rw [if_neg (fun h => e ((isAt_iff _ _ _ _).1 h)), if_neg hsp]
      rfl
  · rw [List.mem_singleton.1 hp]
    exact ⟨hok.s, Nat.zero_le _, Nat.zero_le _⟩

set_option maxHeartbeats 1000000 in
set_option maxRecDepth 100000 in
theorem begin_any (f : FstD) (ins outs : List Int) (N s0 : Nat) (fin : Value) (aa : Option Addr) (m ac : Nat) (ia : Option Addr) (il ic : Nat) (oa : Option Addr) (ol oc : Nat) (w : World) (hok : OkW f ins outs N s0) (ha : ASlice w (.slice aa m ac) f.arcs) (hal : f.arcs.length = m) :
    Calls Try.prog 96 #[.agg #[.int .i64 (N : Int), .int .i64 (s0 : Int), fin, .slice aa m ac], .slice ia il ic, .slice oa ol oc] w fun e w' =>
      ∃ B Mb Fb v c y ms p, e = .returned (.pointer (some ⟨B, 0, none⟩)) ∧ SW w w' N s0 B Mb Fb fin (.slice aa m ac) (.slice ia il ic) (.slice oa ol oc) v (fstL f.arcs N) ms [p] ∧ SGh f ins outs N s0 c y ms [p] (-1) (totS ins outs N) [] 0 := by
  have HOK : Hid (OkW f ins outs N s0) := hok
  have hb0 := bel_up (bel_self w) (.cells #[.int .i64 (N : Int), .int .i64 (s0 : Int), fin, .slice aa m ac] 25)
  obtain ⟨Wd, hWd⟩ : ∃ Wd, Wd = (w.alloc (.cells #[.int .i64 (N : Int), .int .i64 (s0 : Int), fin, .slice aa m ac] 25)).drew := ⟨_, rfl⟩
  have hbd : Below w.heap.size w Wd := by rw [hWd]; exact hb0.drew
  have x0 : Wd.cell? ⟨w.heap.size, 0, none⟩ = some (.int .i64 (N : Int)) := by rw [hWd]; exact drew_cell (new_cell _ _ _ _ 0 _ rfl rfl)
  have x1 : Wd.cell? ⟨w.heap.size, 1, none⟩ = some (.int .i64 (s0 : Int)) := by rw [hWd]; exact drew_cell (new_cell _ _ _ _ 1 _ rfl rfl)
  have x2 : Wd.cell? ⟨w.heap.size, 2, none⟩ = some fin := by rw [hWd]; exact drew_cell (new_cell _ _ _ _ 2 _ rfl rfl)
  have x3 : Wd.cell? ⟨w.heap.size, 3, none⟩ = some (.slice aa m ac) := by rw [hWd]; exact drew_cell (new_cell _ _ _ _ 3 _ rfl rfl)
  have hfa := fun (W : World) (hb : Below Wd.heap.size Wd W) => firstArcs_any f ins outs N s0 fin aa m ac W hok ((ha.below hbd).below hb) hal
  have hw0 := hbd.size
  have hS0 : (fun wx : World => wx.cell? ⟨w.heap.size, 0, none⟩ = some (.int .i64 (N : Int)) ∧ wx.cell? ⟨w.heap.size, 1, none⟩ = some (.int .i64 (s0 : Int)) ∧ wx.cell? ⟨w.heap.size, 2, none⟩ = some fin ∧ wx.cell? ⟨w.heap.size, 3, none⟩ = some (.slice aa m ac)) Wd := ⟨x0, x1, x2, x3⟩
  have HSB : Hid (∀ wx : World, Below Wd.heap.size Wd wx → (fun wx : World => wx.cell? ⟨w.heap.size, 0, none⟩ = some (.int .i64 (N : Int)) ∧ wx.cell? ⟨w.heap.size, 1, none⟩ = some (.int .i64 (s0 : Int)) ∧ wx.cell? ⟨w.heap.size, 2, none⟩ = some fin ∧ wx.cell? ⟨w.heap.size, 3, none⟩ = some (.slice aa m ac)) wx) := fun wx h => ⟨bel_c h x0, bel_c h x1, bel_c h x2, bel_c h x3⟩
  have HW : Hid (Wd = (w.alloc (.cells #[.int .i64 (N : Int), .int .i64 (s0 : Int), fin, .slice aa m ac] 25)).drew) := hWd
  clear hok hal hWd hb0 x0 x1 x2 x3
  go_enter Try.func96, Try.ntmps96
  go_wp2
  go_cut [7] from 8 (fun t7 wx => ∃ B Mb Fb, t7 = .pointer (some ⟨B, 0, none⟩) ∧ SW w wx N s0 B Mb Fb fin (.slice aa m ac) (.slice ia il ic) (.slice oa ol oc) (.slice none 0 0) (fstL f.arcs N) [] [] ∧ wx.cell? ⟨w.heap.size, 1, none⟩ = some (.int .i64 (s0 : Int)))
  case first =>
    refine wp_region_noPanic ?_
    refine wp_region_F (fun wx => wx.cell? ⟨w.heap.size, 0, none⟩ = some (.int .i64 (N : Int)) ∧ wx.cell? ⟨w.heap.size, 1, none⟩ = some (.int .i64 (s0 : Int)) ∧ wx.cell? ⟨w.heap.size, 2, none⟩ = some fin ∧ wx.cell? ⟨w.heap.size, 3, none⟩ = some (.slice aa m ac)) [] (by kernel_rfl) (by rw [← HW.out]; exact hS0) (fun _ => ?_)
    rw [← HW.out]
    clear HW
    refine wpAnyF_take (i := 0) (v := .agg #[.int .i64 (N : Int), .int .i64 (s0 : Int), fin, .slice aa m ac]) rfl (by kernel_rfl) (by kernel_rfl) (by kernel_rfl) (by kernel_rfl) (fun _ _ _ h => h) (Or.inl ⟨by rfl, fun wl hSw => ?_⟩) hS0 ?_
    · (try dsimp only at hSw); go_simp
    refine wpAnyF_free (i := 1) (v := .slice ia il ic) rfl (by kernel_rfl) (by kernel_rfl) (by kernel_rfl) (by kernel_rfl) (fun _ _ _ h => h) (Or.inl ⟨by rfl, fun wl hSw => ?_⟩) hS0 ?_
    · (try dsimp only at hSw); go_simp
    refine wpAnyF_free (i := 2) (v := .slice oa ol oc) rfl (by kernel_rfl) (by kernel_rfl) (by kernel_rfl) (by kernel_rfl) (fun _ _ _ h => h) (Or.inl ⟨by rfl, fun wl hSw => ?_⟩) hS0 ?_
    · (try dsimp only at hSw); go_simp
    refine wpAnyF_take (i := 3) (v := .agg #[.int .i64 (N : Int), .int .i64 (s0 : Int), fin, .slice aa m ac]) rfl (by kernel_rfl) (by kernel_rfl) (by kernel_rfl) (by kernel_rfl) (fun _ _ _ h => h) (Or.inl ⟨by rfl, fun wl hSw => ?_⟩) hS0 ?_
    · (try dsimp only at hSw); go_simp
    refine wpAnyF_two (i := 4) (j := 5) rfl rfl (by kernel_rfl) (fun K hK => ?_) (fun K hK => ?_)
    · go_simp
      refine (hfa Wd (bel_self Wd)).mono ?_
      rintro e W4 ⟨Fb, rfl, hn4, hg4, hb4⟩
      refine hK.out _ _ ⟨fun _ => HSB.out _ hb4, ?_⟩
      clear hK K
      have hF4 := hn4.lt
      refine wpAnyF_one (i := 5) rfl (by kernel_rfl) (fun K hK => ?_)
      go_simp
      have hu5 := bel_up (bel_self W4) (.map #[] 0)
      have hb5 := bel_on hb4 hu5
      have hsz4 := hb4.size
      refine hK.out _ _ ⟨fun _ => HSB.out _ hb5, ?_⟩
      clear hK K
      have hmet : MetAt (W4.alloc (.map #[] 0)) W4.heap.size [] := ⟨#[], 0, heap_alloc_new W4 _, rfl⟩
      have hn5 := hn4.below hu5
      refine wpAnyF_free (i := 6) (v := .agg #[.int .i64 (N : Int), .int .i64 (s0 : Int), fin, .slice aa m ac, .slice ia il ic, .slice oa ol oc, .slice (some ⟨Fb, 0, none⟩) (N + 1) (N + 1), .map (some W4.heap.size), .slice none 0 0]) rfl (by kernel_rfl) (by kernel_rfl) (by kernel_rfl) (by kernel_rfl) (fun _ _ _ h => h) (Or.inl ⟨by rfl, fun wl hSw => ?_⟩) (HSB.out _ hb5) ?_
      · (try dsimp only at hSw); go_simp
      have hSN : Hid (SW w ((W4.alloc (.map #[] 0)).alloc (.cells #[.int .i64 (N : Int), .int .i64 (s0 : Int), fin, .slice aa m ac, .slice ia il ic, .slice oa ol oc, .slice (some ⟨Fb, 0, none⟩) (N + 1) (N + 1), .map (some W4.heap.size), .slice none 0 0] 137)) N s0 (W4.heap.size + 1) W4.heap.size Fb fin (.slice aa m ac) (.slice ia il ic) (.slice oa ol oc) (.slice none 0 0) (fstL f.arcs N) [] []) := by
        have h1 : SW w ((W4.alloc (.map #[] 0)).alloc (.cells #[.int .i64 (N : Int), .int .i64 (s0 : Int), fin, .slice aa m ac, .slice ia il ic, .slice oa ol oc, .slice (some ⟨Fb, 0, none⟩) (N + 1) (N + 1), .map (some W4.heap.size), .slice none 0 0] 137)) N s0 (W4.alloc (.map #[] 0)).heap.size W4.heap.size Fb fin (.slice aa m ac) (.slice ia il ic) (.slice oa ol oc) (.slice none 0 0) (fstL f.arcs N) [] [] := SW.new hn5 hmet (by omega) (by omega) (by omega) (bel_on hbd hb5)
        rw [show (W4.alloc (.map #[] 0)).heap.size = W4.heap.size + 1 by simp] at h1
        exact h1
      have hbS := bel_up hb5 (.cells #[.int .i64 (N : Int), .int .i64 (s0 : Int), fin, .slice aa m ac, .slice ia il ic, .slice oa ol oc, .slice (some ⟨Fb, 0, none⟩) (N + 1) (N + 1), .map (some W4.heap.size), .slice none 0 0] 137)
      have HC1 : Hid (((W4.alloc (.map #[] 0)).alloc (.cells #[.int .i64 (N : Int), .int .i64 (s0 : Int), fin, .slice aa m ac, .slice ia il ic, .slice oa ol oc, .slice (some ⟨Fb, 0, none⟩) (N + 1) (N + 1), .map (some W4.heap.size), .slice none 0 0] 137)).cell? ⟨w.heap.size, 1, none⟩ = some (.int .i64 (s0 : Int))) := (HSB.out _ hbS).2.1
      refine wpAnyF_one (i := 7) rfl (by kernel_rfl) (fun K hK => ?_)
      go_simp
      refine hK.out _ _ ⟨fun _ => HSB.out _ hbS, ?_⟩
      clear hK K
      refine wpAnyF_one (i := 8) rfl (by kernel_rfl) (fun K hK => ?_)
      go_simp
      refine hK.out _ _ ⟨fun _ => HSB.out _ hbS, ?_⟩
      clear hK K
      refine wpAnyF_done (by kernel_rfl) ?_ _
      refine NoPanic.normal ?_
      go_wp2
      go_meet
      case rel => exact ⟨_, _, Fb, rfl, hSN.out, HC1.out⟩
    · go_simp
      have hu5 := bel_up (bel_self Wd) (.map #[] 0)
      refine hK.out _ _ ⟨fun _ => HSB.out _ hu5, ?_⟩
      clear hK K
      refine wpAnyF_one (i := 4) rfl (by kernel_rfl) (fun K hK => ?_)
      go_simp
      refine (hfa _ hu5).mono ?_
      rintro e W4 ⟨Fb, rfl, hn4, hg4, hb4⟩
      have hb5 := bel_on hu5 hb4
      rw [show (Wd.alloc (.map #[] 0)).heap.size = Wd.heap.size + 1 by simp] at hg4
      refine hK.out _ _ ⟨fun _ => HSB.out _ hb5, ?_⟩
      clear hK K
      have hmet : MetAt W4 Wd.heap.size [] := MetAt.block (w := Wd.alloc (.map #[] 0)) ⟨#[], 0, heap_alloc_new Wd _, rfl⟩ (hb4.block _ (by simp))
      refine wpAnyF_free (i := 6) (v := .agg #[.int .i64 (N : Int), .int .i64 (s0 : Int), fin, .slice aa m ac, .slice ia il ic, .slice oa ol oc, .slice (some ⟨Fb, 0, none⟩) (N + 1) (N + 1), .map (some Wd.heap.size), .slice none 0 0]) rfl (by kernel_rfl) (by kernel_rfl) (by kernel_rfl) (by kernel_rfl) (fun _ _ _ h => h) (Or.inl ⟨by rfl, fun wl hSw => ?_⟩) (HSB.out _ hb5) ?_
      · (try dsimp only at hSw); go_simp
      have hSN : Hid (SW w (W4.alloc (.cells #[.int .i64 (N : Int), .int .i64 (s0 : Int), fin, .slice aa m ac, .slice ia il ic, .slice oa ol oc, .slice (some ⟨Fb, 0, none⟩) (N + 1) (N + 1), .map (some Wd.heap.size), .slice none 0 0] 137)) N s0 W4.heap.size Wd.heap.size Fb fin (.slice aa m ac) (.slice ia il ic) (.slice oa ol oc) (.slice none 0 0) (fstL f.arcs N) [] []) := by
        have h1 : SW w (W4.alloc (.cells #[.int .i64 (N : Int), .int .i64 (s0 : Int), fin, .slice aa m ac, .slice ia il ic, .slice oa ol oc, .slice (some ⟨Fb, 0, none⟩) (N + 1) (N + 1), .map (some Wd.heap.size), .slice none 0 0] 137)) N s0 W4.heap.size Wd.heap.size Fb fin (.slice aa m ac) (.slice ia il ic) (.slice oa ol oc) (.slice none 0 0) (fstL f.arcs N) [] [] := SW.new hn4 hmet (by omega) (by omega) (by omega) (bel_on hbd hb5)
        skip
        exact h1
      have hbS := bel_up hb5 (.cells #[.int .i64 (N : Int), .int .i64 (s0 : Int), fin, .slice aa m ac, .slice ia il ic, .slice oa ol oc, .slice (some ⟨Fb, 0, none⟩) (N + 1) (N + 1), .map (some Wd.heap.size), .slice none 0 0] 137)
      have HC1 : Hid ((W4.alloc (.cells #[.int .i64 (N : Int), .int .i64 (s0 : Int), fin, .slice aa m ac, .slice ia il ic, .slice oa ol oc, .slice (some ⟨Fb, 0, none⟩) (N + 1) (N + 1), .map (some Wd.heap.size), .slice none 0 0] 137)).cell? ⟨w.heap.size, 1, none⟩ = some (.int .i64 (s0 : Int))) := (HSB.out _ hbS).2.1
      refine wpAnyF_one (i := 7) rfl (by kernel_rfl) (fun K hK => ?_)
      go_simp
      refine hK.out _ _ ⟨fun _ => HSB.out _ hbS, ?_⟩
      clear hK K
      refine wpAnyF_one (i := 8) rfl (by kernel_rfl) (fun K hK => ?_)
      go_simp
      refine hK.out _ _ ⟨fun _ => HSB.out _ hbS, ?_⟩
      clear hK K
      refine wpAnyF_done (by kernel_rfl) ?_ _
      refine NoPanic.normal ?_
      go_wp2
      go_meet
      case rel => exact ⟨_, _, Fb, rfl, hSN.out, HC1.out⟩
  case rest =>
    obtain ⟨B, Mb, Fb, rfl, hS, hc1⟩ := hcut
    rename World => w5
    clear hfa hS0 HSB HW
    have HN : Hid (foundV (lookM s0 0 0 []) = stepV 0 0) := (rfl : foundV (lookM s0 0 0 []) = stepV 0 0)
    go_wp2_with (go_at_call 131; refine (meet_new w N s0 B Mb Fb fin _ _ _ (.slice none 0 0) _ [] [] s0 0 0 0 (-1) 0 0 w5 hS (by decide) HN.out rfl).mono ?_; rintro e w6 ⟨rfl, v6, L6, hS6, hp6, _⟩)
    have hL6 : L6 = [⟨s0, 0, 0, 0⟩] := List.perm_singleton.1 hp6
    subst hL6
    go_ret
    exact ⟨B, Mb, Fb, v6, _, _, _, _, rfl, hS6, SGh.start HOK.out⟩
end Go.Proofs.Yteehgcbjmdideaa

/- the closure that 'Walk' gives to 'find': what ending at a spot costs. -/
namespace Go.Proofs.Yteehgcbjmdideaa
open Go.RowKit
attribute [local go_sem ↓] Go.wp_at_zero Go.wp_at_succ

set_option maxHeartbeats 1000000 in
set_option maxRecDepth 100000 in
theorem walkEnd_any (f : FstD) (ins outs : List Int) (N s0 : Nat) (fa : Option Addr) (fl fc : Nat) (ia : Option Addr) (il ic : Nat) (oa : Option Addr) (ol oc : Nat) (bi bo bf : Nat) (n i o : Nat) (w : World)
    (hok : OkW f ins outs N s0) (hil : ins.length = il) (hol : outs.length = ol)
    (hbi : w.cell? ⟨bi, 0, none⟩ = some (.slice ia il ic)) (hbo : w.cell? ⟨bo, 0, none⟩ = some (.slice oa ol oc)) (hbf : w.cell? ⟨bf, 2, none⟩ = some (.slice fa fl fc)) (hfi : ISlice w (.slice fa fl fc) f.final)
    (hn : n < N) (hi : i ≤ il) (ho : o ≤ ol) :
    Calls Try.prog 98 #[.agg #[.int .i64 n, .int .i64 i, .int .i64 o], .pointer (some ⟨bi, 0, none⟩), .pointer (some ⟨bo, 0, none⟩), .pointer (some ⟨bf, 0, none⟩)] w fun e w' =>
      e = .returned (.int .i64 (finS (totS ins outs N) N f.final (spotN N outs.length n i o))) ∧ Below w.heap.size w w' := by
  have hb0 := bel_up (bel_self w) (.cells #[.int .i64 n, .int .i64 i, .int .i64 o] 108)
  have k1 := bel_keep hb0 (cell_lt hbi) hbi
  have k2 := bel_keep hb0 (cell_lt hbo) hbo
  have k3 := bel_keep hb0 (cell_lt hbf) hbf
  have hi4 := hok.i40
  have ho4 := hok.o40
  by_cases h1 : i < il
  · have e1 : finS (totS ins outs N) N f.final (spotN N outs.length n i o) = -1 := finS_no N ins.length outs.length n i o f.final hn (by omega) (by omega) (Or.inl (by omega))
    rw [e1]
    have h1i : (i : Int) < il := by omega
    clear e1 hok hil hol hfi
    go_enter Try.func98, Try.ntmps98
    go_wp2
    go_ret
    exact ⟨rfl, hb0⟩
  · have hie : i = il := by omega
    subst hie
    by_cases h2 : o < ol
    · have e1 : finS (totS ins outs N) N f.final (spotN N outs.length n i o) = -1 := finS_no N ins.length outs.length n i o f.final hn (by omega) (by omega) (Or.inr (by omega))
      rw [e1]
      have h2i : (o : Int) < ol := by omega
      clear e1 hok hil hol hfi
      go_enter Try.func98, Try.ntmps98
      go_wp2
      go_ret
      exact ⟨rfl, hb0⟩
    · have hoe : o = ol := by omega
      subst hoe
      have e1 : finS (totS ins outs N) N f.final (spotN N outs.length n i o) = gI f.final n := by
        have := finS_end N ins.length outs.length n f.final
        rw [hil, hol] at this
        unfold totS
        rw [hil, hol]
        exact this
      rw [e1]
      obtain ⟨a', n', c', he, hl, _⟩ := hfi.lenOf
      injection he with q1 q2 q3
      subst q1 q2 q3
      have hfl := hok.len
      obtain ⟨b, off, rfl, hx⟩ := (hfi.below hb0).some (by omega)
      have c0 := hx.cell n (by omega)
      have hnn : n < fl := by omega
      have hni : (n : Int) < fl := by omega
      have e2 : f.final.getD n 0 = gI f.final n := by
        unfold gI
        simp [List.getD, show n < f.final.length by omega]
      rw [e2] at c0
      clear e1 e2 hok hil hol hfi hl hfl hx
      go_enter Try.func98, Try.ntmps98
      go_wp2
      go_ret
      exact ⟨rfl, hb0⟩
end Go.Proofs.Yteehgcbjmdideaa

/- 'Word' of package score, 'CheckWord' of the document. -/
namespace Go.Proofs.Yteehgcbjmdideaa
open Go.RowKit
attribute [local go_sem ↓] Go.wp_at_zero Go.wp_at_succ

def badL (x : Int) : Bool := !inB x 1 9
def wordD (l : List Int) : Int := if l.length > 40 then 2 else if l.any badL then 3 else 0

theorem any_at_b {p : Int → Bool} (l : List Int) (k : Nat) (hk : k < l.length) (h : p (l.getD k 0) = true) : l.any p = true := by
  rw [List.any_eq_true]
  exact ⟨l.getD k 0, by simp [List.getD, hk], h⟩
theorem any_none_b {p : Int → Bool} (l : List Int) (h : ∀ k, k < l.length → p (l.getD k 0) = false) : l.any p = false := by
  rw [List.any_eq_false]
  intro a ha
  obtain ⟨j, hj, rfl⟩ := List.getElem_of_mem ha
  have := h j hj
  simpa [List.getD, hj] using this

theorem badL_lt (x : Int) (h : x < 1) : badL x = true := by unfold badL inB; simp; omega
theorem badL_gt (x : Int) (h : 9 < x) : badL x = true := by unfold badL inB; simp; omega
theorem badL_in (x : Int) (h1 : 1 ≤ x) (h2 : x ≤ 9) : badL x = false := by unfold badL inB; simp; omega

set_option maxHeartbeats 400000 in
theorem letter_any (a : Int) (w : World) :
    Calls Try.prog 57 #[.int .i64 a] w fun e w' => e = .returned (.bool (badL a)) ∧ Below w.heap.size w w' := by
  by_cases h1 : a < 1
  · rw [badL_lt a h1]
    go_enter Try.func57, Try.ntmps57
    go_wp2
    go_ret
    exact ⟨rfl, bel_self _⟩
  · by_cases h2 : 9 < a
    · rw [badL_gt a h2]
      go_enter Try.func57, Try.ntmps57
      go_wp2
      go_ret
      exact ⟨rfl, bel_self _⟩
    · rw [badL_in a (by omega) (by omega)]
      go_enter Try.func57, Try.ntmps57
      go_wp2
      go_ret
      exact ⟨rfl, bel_self _⟩

theorem goL : ∀ args w, (callFunc 57 args).run Try.prog w = .ok (.enter 57 args) w := by
  intro args w
  have h1 : (Try.f57.name == "runtime.NumGoroutine") = false := by kernel_rfl
  have h2 : Try.f57.body.isNone = false := by kernel_rfl
  have h3 : ¬ Try.f57.name = "runtime.NumGoroutine" := by simpa using h1
  have h4 : ¬ Try.f57.body = none := fun e => by rw [e] at h2; cases h2
  simp [callFunc, Try.func57, h3, h4]

set_option maxHeartbeats 1000000 in
set_option maxRecDepth 100000 in
theorem intIndex_any (p : Int → Bool) (F : Nat) (hG : ∀ args w, (callFunc F args).run Try.prog w = .ok (.enter F args) w) (hF : ∀ (a : Int) (w : World), Calls Try.prog F #[.int .i64 a] w fun e w' => e = .returned (.bool (p a)) ∧ Below w.heap.size w w')
    (ars : List Int) (aa : Option Addr) (m ac : Nat) (w : World) (ha : ISlice w (.slice aa m ac) ars) (hal : ars.length = m) (hm : m ≤ 3000) :
    Calls Try.prog 100 #[.slice aa m ac, .func (.func F) #[] #[]] w fun e w' => ∃ i : Int, e = .returned (.int .i64 i) ∧ decide (0 ≤ i) = ars.any p ∧ Below w.heap.size w w' := by
  have HAL : Hid (ars.length = m) := hal
  clear hal
  go_enter Try.func100, Try.ntmps100
  go_wp2
  go_loopw [8] (fun i wr => ∃ k : Nat, k ≤ m ∧ i = .int .i64 k ∧ (∀ j, j < k → p (ars.getD j 0) = false) ∧ Below w.heap.size w wr) (fun i _ => m - (intOf i).toNat)
  case atStart => exact ⟨0, Nat.zero_le _, rfl, fun j hj => absurd hj (Nat.not_lt_zero _), bel_self _⟩
  case round =>
    obtain ⟨k, hk, rfl, hall, hb⟩ := hrel
    have HA : Hid (∀ j, j < k → p (ars.getD j 0) = false) := hall
    clear hall
    by_cases hlt : k < m
    · obtain ⟨ab, aoff, rfl, hx⟩ := (ha.below hb).some (by omega)
      obtain ⟨a, hak⟩ : ∃ a, a = ars.getD k 0 := ⟨_, rfl⟩
      have c0 := hx.cell k hlt
      rw [← hak] at c0
      have HAK : Hid (a = ars.getD k 0) := hak
      have hki : (k : Int) < m := by omega
      have hcall := hF a
      clear hak hx
      cases hp : p a with
      | false =>
        have HP : Hid (p a = false) := hp
        rw [hp] at hcall
        clear hp
        go_wp2_with (refine (hcall _).mono ?_; rintro e w1 ⟨rfl, hb1⟩)
        go_roundw
        case rel =>
          refine ⟨k + 1, by omega, by go_num, fun j hj => ?_, bel_on hb hb1⟩
          by_cases e : j = k
          · subst e; rw [← HAK.out]; exact HP.out
          · exact HA.out j (by omega)
        case measure => simp [intOf]; omega
      | true =>
        have HP : Hid (p a = true) := hp
        rw [hp] at hcall
        clear hp
        go_wp2_with (refine (hcall _).mono ?_; rintro e w1 ⟨rfl, hb1⟩)
        go_ret
        refine ⟨k, rfl, ?_, bel_on hb hb1⟩
        have : ars.any p = true := by
          rw [List.any_eq_true]
          refine ⟨a, ?_, HP.out⟩
          rw [HAK.out]
          have := HAL.out
          simp [List.getD, show k < ars.length by omega]
        rw [this]
        simp
    · go_wp2
      go_ret
      refine ⟨-1, rfl, ?_, hb⟩
      have : ars.any p = false := by
        rw [List.any_eq_false]
        intro a ha2
        obtain ⟨j, hj, rfl⟩ := List.getElem_of_mem ha2
        have := HA.out j (by have := HAL.out; omega)
        simpa [List.getD, hj] using this
      rw [this]
      decide

set_option maxHeartbeats 1000000 in
theorem intContains_any (p : Int → Bool) (F : Nat) (hG : ∀ args w, (callFunc F args).run Try.prog w = .ok (.enter F args) w) (hF : ∀ (a : Int) (w : World), Calls Try.prog F #[.int .i64 a] w fun e w' => e = .returned (.bool (p a)) ∧ Below w.heap.size w w')
    (ars : List Int) (aa : Option Addr) (m ac : Nat) (w : World) (ha : ISlice w (.slice aa m ac) ars) (hal : ars.length = m) (hm : m ≤ 3000) :
    Calls Try.prog 56 #[.slice aa m ac, .func (.func F) #[] #[]] w fun e w' => e = .returned (.bool (ars.any p)) ∧ Below w.heap.size w w' := by
  go_enter Try.func56, Try.ntmps56
  go_wp2_with (go_at_call 100; refine (intIndex_any p F hG hF ars aa m ac _ ha hal hm).mono ?_; rintro e w1 ⟨i, rfl, hi, hb1⟩)
  go_ret
  exact ⟨rfl, hb1⟩

set_option maxHeartbeats 1000000 in
theorem word_any (l : List Int) (aa : Option Addr) (m ac : Nat) (w : World) (ha : ISlice w (.slice aa m ac) l) (hal : l.length = m) :
    Calls Try.prog 14 #[.slice aa m ac] w fun e w' => e = .returned (.int .i64 (wordD l)) ∧ Below w.heap.size w w' := by
  obtain ⟨a', n', c', he, hl, hml⟩ := ha.lenOf
  injection he with q1 q2 q3
  subst q1 q2 q3
  unfold maxLen at hml
  by_cases h1 : 40 < m
  · have e1 : wordD l = 2 := by unfold wordD; rw [if_pos (by omega)]
    rw [e1]
    have h1i : (40 : Int) < m := by omega
    clear e1 hl hal
    go_enter Try.func14, Try.ntmps14
    go_wp2
    go_ret
    exact ⟨rfl, bel_self _⟩
  · have h1i : ¬ (40 : Int) < m := by omega
    cases hp : l.any badL with
    | true =>
      have e1 : wordD l = 3 := by unfold wordD; rw [if_neg (by omega), hp]; rfl
      rw [e1]
      have hcon := intContains_any badL 57 goL letter_any l aa m ac w ha hal (by omega)
      rw [hp] at hcon
      clear e1 hl hal hp
      go_enter Try.func14, Try.ntmps14
      go_wp2_with (go_at_call 56; refine hcon.mono ?_; rintro e w1 ⟨rfl, hb1⟩)
      go_ret
      exact ⟨rfl, hb1⟩
    | false =>
      have e1 : wordD l = 0 := by unfold wordD; rw [if_neg (by omega), hp]; rfl
      rw [e1]
      have hcon := intContains_any badL 57 goL letter_any l aa m ac w ha hal (by omega)
      rw [hp] at hcon
      clear e1 hl hal hp
      go_enter Try.func14, Try.ntmps14
      go_wp2_with (go_at_call 56; refine hcon.mono ?_; rintro e w1 ⟨rfl, hb1⟩)
      go_ret
      exact ⟨rfl, hb1⟩

set_option maxHeartbeats 1000000 in
set_option maxRecDepth 100000 in
theorem checkWord_any (l : List Int) (aa : Option Addr) (m ac : Nat) (w : World) (ha : ISlice w (.slice aa m ac) l) (hal : l.length = m) :
    Calls Try.prog 15 #[.slice aa m ac] w fun e w' => e = .returned (.int .i64 (wordD l)) ∧ Below w.heap.size w w' := by
  obtain ⟨a', n', c', he, hl, hml⟩ := ha.lenOf
  injection he with q1 q2 q3
  subst q1 q2 q3
  unfold maxLen at hml
  by_cases h1 : 40 < m
  · have e1 : wordD l = 2 := by unfold wordD; rw [if_pos (by omega)]
    rw [e1]
    have h1i : (40 : Int) < m := by omega
    clear e1 hl hal
    go_enter Try.func15, Try.ntmps15
    go_wp2
    go_ret
    exact ⟨rfl, bel_self _⟩
  · have h1i : ¬ (40 : Int) < m := by omega
    have HAL : Hid (l.length = m) := hal
    clear hal hl
    go_enter Try.func15, Try.ntmps15
    go_wp2
    go_loop [3] (fun i => ∃ k : Nat, k ≤ m ∧ i = .int .i64 k ∧ (∀ j, j < k → badL (l.getD j 0) = false)) (fun i => m - (intOf i).toNat)
    case atStart => exact ⟨0, Nat.zero_le _, rfl, fun j hj => absurd hj (Nat.not_lt_zero _)⟩
    case round =>
      obtain ⟨k, hk, rfl, hall⟩ := hrel
      have HA : Hid (∀ j, j < k → badL (l.getD j 0) = false) := hall
      clear hall
      by_cases hlt : k < m
      · obtain ⟨ab, aoff, rfl, hx⟩ := ha.some (by omega)
        have c0 := hx.cell k hlt
        obtain ⟨x, hxk⟩ : ∃ x, x = l.getD k 0 := ⟨_, rfl⟩
        rw [← hxk] at c0
        have HX : Hid (x = l.getD k 0) := hxk
        have hki : (k : Int) < m := by omega
        clear hxk hx
        cases hx : inB x 1 9
        · go_wp2_with (go_at_call 58; refine (between_any _ _ _ _).mono ?_; rintro e w' ⟨rfl, rfl⟩)
          go_ret
          refine ⟨ret_int ?_, bel_self _⟩
          have hany := any_at_b (p := badL) l k (by have := HAL.out; omega) (by rw [← HX.out]; unfold badL; rw [hx]; rfl)
          unfold wordD
          rw [if_neg (by have := HAL.out; omega), hany]
          rfl
        · go_wp2_with (go_at_call 58; refine (between_any _ _ _ _).mono ?_; rintro e w' ⟨rfl, rfl⟩)
          go_round
          case rel =>
            refine ⟨k + 1, by omega, by go_num, fun j hj => ?_⟩
            by_cases e : j = k
            · subst e; rw [← HX.out]; unfold badL; rw [hx]; rfl
            · exact HA.out j (by omega)
          case measure => simp [intOf]; omega
      · have hany : l.any badL = false := any_none_b l (fun j hj => HA.out j (by have := HAL.out; omega))
        have HC : Hid (wordD l = 0) := by
          show wordD l = 0
          unfold wordD
          rw [if_neg (by have := HAL.out; omega), hany]
          rfl
        clear hany HA
        go_wp2
        go_ret
        exact ⟨ret_int HC.out.symm, bel_self _⟩
end Go.Proofs.Yteehgcbjmdideaa
