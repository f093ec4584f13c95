/- 'Push' of package short. -/
import Derived.Test.YteehgcbjmdideaaQM04
import Derived.Test.YteehgcbjmdideaaQM02
namespace Go.Proofs.Yteehgcbjmdideaa
open Go.RowKit
attribute [local go_sem ↓] Go.wp_at_zero Go.wp_at_succ

set_option maxHeartbeats 400000 in
theorem great1_any (a : ArcD) (w : World) :
    Calls Try.prog 90 #[.agg #[.int .i64 a.src, .int .i64 a.inp, .int .i64 a.out, .int .i64 a.dst, .int .i64 a.wt]] w fun e w' => e = .returned (.bool (decide (1000000000 < a.wt))) ∧ Below w.heap.size w w' := by
  go_enter Try.func90, Try.ntmps90
  go_wp2
  go_ret
  exact ⟨rfl, bel_up (bel_self _) _⟩

theorem goG : ∀ args w, (callFunc 90 args).run Try.prog w = .ok (.enter 90 args) w := by
  intro args w
  have h1 : (Try.f90.name == "runtime.NumGoroutine") = false := by kernel_rfl
  have h2 : Try.f90.body.isNone = false := by kernel_rfl
  have h3 : ¬ Try.f90.name = "runtime.NumGoroutine" := by simpa using h1
  have h4 : ¬ Try.f90.body = none := fun e => by rw [e] at h2; cases h2
  simp [callFunc, Try.func90, h3, h4]

set_option maxHeartbeats 1000000 in
set_option maxRecDepth 100000 in
theorem arcIndex_any (p : ArcD → Bool) (F : Nat) (hG : ∀ args w, (callFunc F args).run Try.prog w = .ok (.enter F args) w) (hF : ∀ (a : ArcD) (w : World), Calls Try.prog F #[.agg #[.int .i64 a.src, .int .i64 a.inp, .int .i64 a.out, .int .i64 a.dst, .int .i64 a.wt]] w fun e w' => e = .returned (.bool (p a)) ∧ Below w.heap.size w w')
    (ars : List ArcD) (aa : Option Addr) (m ac : Nat) (w : World) (ha : ASlice w (.slice aa m ac) ars) (hal : ars.length = m) (hm : m ≤ 3000) :
    Calls Try.prog 122 #[.slice aa m ac, .func (.func F) #[] #[]] w fun e w' => ∃ i : Int, e = .returned (.int .i64 i) ∧ decide (0 ≤ i) = ars.any p ∧ Below w.heap.size w w' := by
  have HAL : Hid (ars.length = m) := hal
  clear hal
  go_enter Try.func122, Try.ntmps122
  go_wp2
  go_loopw [8] (fun i wr => ∃ k : Nat, k ≤ m ∧ i = .int .i64 k ∧ (∀ j, j < k → p (ars.getD j a0) = false) ∧ Below w.heap.size w wr) (fun i _ => m - (intOf i).toNat)
  case atStart => exact ⟨0, Nat.zero_le _, rfl, fun j hj => absurd hj (Nat.not_lt_zero _), bel_self _⟩
  case round =>
    obtain ⟨k, hk, rfl, hall, hb⟩ := hrel
    have HA : Hid (∀ j, j < k → p (ars.getD j a0) = false) := hall
    clear hall
    by_cases hlt : k < m
    · obtain ⟨ab, aoff, rfl, hx⟩ := (ha.below hb).some (by omega)
      obtain ⟨a, hak⟩ : ∃ a, a = ars.getD k a0 := ⟨_, rfl⟩
      have c0 := hx.c0 k hlt
      have c1 := hx.c1 k hlt
      have c2 := hx.c2 k hlt
      have c3 := hx.c3 k hlt
      have c4 := hx.c4 k hlt
      rw [← hak] at c0 c1 c2 c3 c4
      have HAK : Hid (a = ars.getD k a0) := hak
      have hki : (k : Int) < m := by omega
      have hcall := hF a
      clear hak hx
      cases hp : p a with
      | false =>
        have HP : Hid (p a = false) := hp
        rw [hp] at hcall
        clear hp
        go_wp2_with (refine (hcall _).mono ?_; rintro e w1 ⟨rfl, hb1⟩)
        go_roundw
        case rel =>
          refine ⟨k + 1, by omega, by go_num, fun j hj => ?_, bel_on hb hb1⟩
          by_cases e : j = k
          · subst e; rw [← HAK.out]; exact HP.out
          · exact HA.out j (by omega)
        case measure => simp [intOf]; omega
      | true =>
        have HP : Hid (p a = true) := hp
        rw [hp] at hcall
        clear hp
        go_wp2_with (refine (hcall _).mono ?_; rintro e w1 ⟨rfl, hb1⟩)
        go_ret
        refine ⟨k, rfl, ?_, bel_on hb hb1⟩
        have : ars.any p = true := by
          rw [List.any_eq_true]
          refine ⟨a, ?_, HP.out⟩
          rw [HAK.out]
          have := HAL.out
          simp [List.getD, show k < ars.length by omega]
        rw [this]
        simp
    · go_wp2
      go_ret
      refine ⟨-1, rfl, ?_, hb⟩
      have : ars.any p = false := by
        rw [List.any_eq_false]
        intro a ha2
        obtain ⟨j, hj, rfl⟩ := List.getElem_of_mem ha2
        have := HA.out j (by have := HAL.out; omega)
        simpa [List.getD, hj] using this
      rw [this]
      decide

set_option maxHeartbeats 1000000 in
theorem arcContains_any (p : ArcD → Bool) (F : Nat) (hG : ∀ args w, (callFunc F args).run Try.prog w = .ok (.enter F args) w) (hF : ∀ (a : ArcD) (w : World), Calls Try.prog F #[.agg #[.int .i64 a.src, .int .i64 a.inp, .int .i64 a.out, .int .i64 a.dst, .int .i64 a.wt]] w fun e w' => e = .returned (.bool (p a)) ∧ Below w.heap.size w w')
    (ars : List ArcD) (aa : Option Addr) (m ac : Nat) (w : World) (ha : ASlice w (.slice aa m ac) ars) (hal : ars.length = m) (hm : m ≤ 3000) :
    Calls Try.prog 89 #[.slice aa m ac, .func (.func F) #[] #[]] w fun e w' => e = .returned (.bool (ars.any p)) ∧ Below w.heap.size w w' := by
  go_enter Try.func89, Try.ntmps89
  go_wp2_with (go_at_call 122; refine (arcIndex_any p F hG hF ars aa m ac _ ha hal hm).mono ?_; rintro e w1 ⟨i, rfl, hi, hb1⟩)
  go_ret
  exact ⟨rfl, hb1⟩

/-- what 'Push' and 'PushOf' answer -/
def PushRes (w : World) (d : FstD × Int × Int) (e : Ending) (w' : World) : Prop :=
  ∃ fa fn fc ba bn bc, e = .returned (.tuple #[.agg #[.int .i64 d.1.states, .int .i64 d.1.start, .slice fa fn fc, .slice ba bn bc], .int .i64 d.2.1, .int .i64 d.2.2]) ∧ ISlice w' (.slice fa fn fc) d.1.final ∧ ASlice w' (.slice ba bn bc) d.1.arcs ∧ Below w.heap.size w w'

theorem nil_arcs (w : World) : ASlice w (.slice none 0 0) [] := Or.inl ⟨none, 0, rfl, rfl⟩

def ZBlock (w : World) (R : Nat) : Prop := w.heap[R]? = some (.cells #[.int .i64 0, .int .i64 0, .slice none 0 0, .slice none 0 0] 25 (0, 0))
theorem zfacts {w : World} {R : Nat} (h : ZBlock w R) : w.cell? ⟨R, 0, none⟩ = some (.int .i64 0) ∧ w.cell? ⟨R, 1, none⟩ = some (.int .i64 0) ∧ w.cell? ⟨R, 2, none⟩ = some (.slice none 0 0) ∧ w.cell? ⟨R, 3, none⟩ = some (.slice none 0 0) ∧ w.frozen? ⟨R, 0, none⟩ = false ∧ w.frozen? ⟨R, 1, none⟩ = false ∧ w.frozen? ⟨R, 2, none⟩ = false ∧ w.frozen? ⟨R, 3, none⟩ = false := by
  refine ⟨?_, ?_, ?_, ?_, Go.Joins.unfrozen_of_block h 0, Go.Joins.unfrozen_of_block h 1, Go.Joins.unfrozen_of_block h 2, Go.Joins.unfrozen_of_block h 3⟩
  · have := Go.Joins.cell_of_block h 0; simpa using this
  · have := Go.Joins.cell_of_block h 1; simpa using this
  · have := Go.Joins.cell_of_block h 2; simpa using this
  · have := Go.Joins.cell_of_block h 3; simpa using this
theorem bel_set4 {B R : Nat} {a w : World} (h : Below B a w) (hR : B ≤ R) (u0 u1 u2 u3 : Value) : Below B a ((((w.setCell ⟨R, 0, none⟩ u0).setCell ⟨R, 1, none⟩ u1).setCell ⟨R, 2, none⟩ u2).setCell ⟨R, 3, none⟩ u3) :=
  (((h.setCell (p := ⟨R, 0, none⟩) hR _).setCell (p := ⟨R, 1, none⟩) hR _).setCell (p := ⟨R, 2, none⟩) hR _).setCell (p := ⟨R, 3, none⟩) hR _
theorem far4 {w : World} {R b k : Nat} (h : b ≠ R) (u0 u1 u2 u3 : Value) : ((((w.setCell ⟨R, 0, none⟩ u0).setCell ⟨R, 1, none⟩ u1).setCell ⟨R, 2, none⟩ u2).setCell ⟨R, 3, none⟩ u3).cell? ⟨b, k, none⟩ = w.cell? ⟨b, k, none⟩ := by
  rw [set_far h, set_far h, set_far h, set_far h]
theorem isl_set4 {w : World} {R : Nat} {v : Value} {xs : List Int} (h : ISlice w v xs) (hv : ¬ v.ownBlock = some R) (u0 u1 u2 u3 : Value) : ISlice ((((w.setCell ⟨R, 0, none⟩ u0).setCell ⟨R, 1, none⟩ u1).setCell ⟨R, 2, none⟩ u2).setCell ⟨R, 3, none⟩ u3) v xs := by
  rcases h with h | ⟨b, off, n, cap, rfl, hx, hn⟩
  · exact Or.inl h
  · have hb : b ≠ R := fun e => hv (by rw [e]; rfl)
    exact Or.inr ⟨b, off, n, cap, rfl, ⟨hx.len, fun i hi => by rw [far4 hb]; exact hx.cell i hi⟩, hn⟩
theorem asl_set4 {w : World} {R : Nat} {v : Value} {xs : List ArcD} (h : ASlice w v xs) (hv : ¬ v.ownBlock = some R) (u0 u1 u2 u3 : Value) : ASlice ((((w.setCell ⟨R, 0, none⟩ u0).setCell ⟨R, 1, none⟩ u1).setCell ⟨R, 2, none⟩ u2).setCell ⟨R, 3, none⟩ u3) v xs := by
  rcases h with h | ⟨b, off, n, cap, rfl, hx, hn⟩
  · exact Or.inl h
  · have hb : b ≠ R := fun e => hv (by rw [e]; rfl)
    exact Or.inr ⟨b, off, n, cap, rfl, ⟨hx.len, fun i hi => by rw [far4 hb]; exact hx.c0 i hi, fun i hi => by rw [far4 hb]; exact hx.c1 i hi, fun i hi => by rw [far4 hb]; exact hx.c2 i hi, fun i hi => by rw [far4 hb]; exact hx.c3 i hi, fun i hi => by rw [far4 hb]; exact hx.c4 i hi⟩, hn⟩

theorem all_at2 (f : FstD) (fin arcs : Value) (c : Int) (w : World) (hf : ISlice w fin f.final) (ha : ASlice w arcs f.arcs) (hc : checkD f = c) :
    Calls Try.prog 59 #[.slice (some ⟨w.heap.size + 1 + 1, 0, none⟩) 1 1] (((w.alloc (.cells #[.int .i64 f.states, .int .i64 f.start, fin, arcs] 25)).alloc (.cells #[.int .i64 0, .int .i64 0, .slice none 0 0, .slice none 0 0] 25)).alloc (.cells #[.int .i64 f.states, .int .i64 f.start, fin, arcs] 25)) fun e w' =>
      e = .returned (.int .i64 c) ∧ Below w.heap.size w w' ∧ CellsF w' w.heap.size f.states f.start fin arcs ∧ ZBlock w' (w.heap.size + 1) ∧ ISlice w' fin f.final ∧ ASlice w' arcs f.arcs := by
  have hb := bel_up (two_up w (.cells #[.int .i64 f.states, .int .i64 f.start, fin, arcs] 25) (.cells #[.int .i64 0, .int .i64 0, .slice none 0 0, .slice none 0 0] 25)) (.cells #[.int .i64 f.states, .int .i64 f.start, fin, arcs] 25)
  have hz : ZBlock ((w.alloc (.cells #[.int .i64 f.states, .int .i64 f.start, fin, arcs] 25)).alloc (.cells #[.int .i64 0, .int .i64 0, .slice none 0 0, .slice none 0 0] 25)) (w.heap.size + 1) := by
    have := heap_alloc_new (w.alloc (.cells #[.int .i64 f.states, .int .i64 f.start, fin, arcs] 25)) (.cells #[.int .i64 0, .int .i64 0, .slice none 0 0, .slice none 0 0] 25)
    unfold ZBlock
    simpa using this
  refine (all_one f fin arcs (w.heap.size + 1 + 1) c _ (cellsF_at _ _ _ _ _ _ _ (by simp)) (hf.below hb) (ha.below hb) hc).mono ?_
  rintro e w' ⟨rfl, hb2⟩
  exact ⟨rfl, bel_on hb hb2, ((cellsF_new w _ _ _ _ _).below (two_up _ _ _)).below hb2, heap_bel hb2 (heap_bel (bel_up (bel_self _) _) hz), (hf.below hb).below hb2, (ha.below hb).below hb2⟩

set_option maxHeartbeats 1000000 in
set_option maxRecDepth 100000 in
theorem push_bad (f : FstD) (fin arcs : Value) (c : Int) (w : World) (hf : ISlice w fin f.final) (ha : ASlice w arcs f.arcs) (hc : checkD f = c) (h0 : (c == 0) = false) :
    Calls Try.prog 38 #[.agg #[.int .i64 f.states, .int .i64 f.start, fin, arcs]] w fun e w' => PushRes w (⟨0, 0, [], []⟩, 0, c) e w' := by
  obtain ⟨fa, fn, fc, rfl, _, _⟩ := hf.lenOf
  obtain ⟨ba, bn, bc, rfl, _, _⟩ := ha.lenOf
  have h0n : (c != 0) = true := by simpa using h0
  have hall := all_at2 f _ _ c w hf ha hc
  clear hc
  go_enter Try.func38, Try.ntmps38
  go_wp2_with (go_at_call 59; refine hall.mono ?_; rintro e w1 ⟨rfl, hb1, _, hz1, _, _⟩; obtain ⟨z0, z1, z2, z3, y0, y1, y2, y3⟩ := zfacts hz1)
  exact bodyPost_ret (v := .tuple #[.agg #[.int .i64 0, .int .i64 0, .slice none 0 0, .slice none 0 0], .int .i64 0, .int .i64 c]) (by simp [results, Try.results38, go_sem, *]) rfl ⟨_, _, _, _, _, _, rfl, nil_ints _, nil_arcs _, bel_set4 hb1 (by omega) _ _ _ _⟩

set_option maxHeartbeats 1000000 in
set_option maxRecDepth 100000 in
theorem push_none (f : FstD) (N s0 : Nat) (fin : Value) (aa : Option Addr) (m ac : Nat) (w : World) (hok : OkF f N s0) (hf : ISlice w fin f.final) (ha : ASlice w (.slice aa m ac) f.arcs) (hal : f.arcs.length = m) (hc : checkD f = 0) (hto : gI (toD f) s0 = -1) :
    Calls Try.prog 38 #[.agg #[.int .i64 f.states, .int .i64 f.start, fin, .slice aa m ac]] w fun e w' => PushRes w (⟨N, s0, f.final, []⟩, -1, 0) e w' := by
  obtain ⟨fa, fn, fc, rfl, _, _⟩ := hf.lenOf
  obtain ⟨fb, fo, rfl, rfl, hx⟩ := final_at hok hf
  have hall := all_at2 f _ _ 0 w hf ha hc
  have HOK : Hid (OkF f fn s0) := hok
  have HTO : Hid (gI (toD f) s0 = -1) := hto
  have hn1 := hok.n1
  have hn2 := hok.n2
  have hs := hok.s
  rw [hok.st, hok.sta] at *
  clear hc hok hto
  go_enter Try.func38, Try.ntmps38
  go_wp2_with (first | (go_at_call 59; refine hall.mono ?_; rintro e w1 ⟨rfl, hb1, hC1, hz1, hf1, ha1⟩; have hx1 := hx.below hb1; have hC1' := hC1; obtain ⟨q0, q1, q2, q3⟩ := hC1) | (go_at_call 85; refine (toEnd_ok f fn s0 _ aa m ac w1 HOK.out hf1 ha1 hal).mono ?_; rintro e w3 ⟨gc, gy, c, y, cc, cy, rfl, hcw, hfix⟩; have hc3 := hcw.rc.cell s0 hs; rw [HOK.out.toD hcw.inv hfix, HTO.out] at hc3; obtain ⟨r0, r1, r2, r3⟩ := hC1'.below hcw.bel; have hsi : (s0 : Int) < fn := by omega))
  have hz3 := heap_bel (bel_self w3).drew (heap_bel hcw.bel hz1)
  have hx3 := (hx1.below hcw.bel).below (bel_self w3).drew
  have hne : w.heap.size ≠ w.heap.size + 1 := by omega
  clear q0 q1 q2 q3 hc3
  obtain ⟨Wd, hWd⟩ : ∃ Wd, Wd = w3.drew := ⟨_, rfl⟩
  have s0' : Wd.cell? ⟨w.heap.size, 0, none⟩ = some (.int .i64 fn) := by rw [hWd]; exact drew_cell r0
  have s1' : Wd.cell? ⟨w.heap.size, 1, none⟩ = some (.int .i64 s0) := by rw [hWd]; exact drew_cell r1
  have s2' : Wd.cell? ⟨w.heap.size, 2, none⟩ = some (.slice (some ⟨fb, fo, none⟩) fn fc) := by rw [hWd]; exact drew_cell r2
  have hbd : Below w.heap.size w Wd := by rw [hWd]; exact (bel_on hb1 hcw.bel).drew
  rw [← hWd] at hz3 hx3
  have hS0 : (fun wx : World => wx.cell? ⟨w.heap.size, 0, none⟩ = some (.int .i64 fn) ∧ wx.cell? ⟨w.heap.size, 1, none⟩ = some (.int .i64 s0) ∧ wx.cell? ⟨w.heap.size, 2, none⟩ = some (.slice (some ⟨fb, fo, none⟩) fn fc)) Wd := ⟨s0', s1', s2'⟩
  refine wp_region_noPanic ?_
  refine wp_region_U (fun wx => wx.cell? ⟨w.heap.size, 0, none⟩ = some (.int .i64 fn) ∧ wx.cell? ⟨w.heap.size, 1, none⟩ = some (.int .i64 s0) ∧ wx.cell? ⟨w.heap.size, 2, none⟩ = some (.slice (some ⟨fb, fo, none⟩) fn fc)) 8 (by kernel_rfl) (by rw [← hWd]; exact hS0) (fun _ => ?_)
  rw [← hWd]
  clear hWd r0 r1 r2 r3 hcw hfix
  refine wpAnyU_take (i := 0) (v := .pointer (some ⟨w.heap.size, 0, none⟩)) rfl (by kernel_rfl) (by kernel_rfl) (by kernel_rfl) (by kernel_rfl) (fun _ _ _ h => h) (Or.inl ⟨by rfl, fun wl hSw => ?_⟩) hS0 ?_
  · (try dsimp only at hSw); go_simp
  refine wpAnyU_take (i := 1) (v := .int .i64 fn) rfl (by kernel_rfl) (by kernel_rfl) (by kernel_rfl) (by kernel_rfl) (fun _ _ _ h => h) (Or.inl ⟨by rfl, fun wl hSw => ?_⟩) hS0 ?_
  · (try dsimp only at hSw); go_simp
  refine wpAnyU_take (i := 2) (v := .pointer (some ⟨w.heap.size, 1, none⟩)) rfl (by kernel_rfl) (by kernel_rfl) (by kernel_rfl) (by kernel_rfl) (fun _ _ _ h => h) (Or.inl ⟨by rfl, fun wl hSw => ?_⟩) hS0 ?_
  · (try dsimp only at hSw); go_simp
  refine wpAnyU_take (i := 3) (v := .int .i64 s0) rfl (by kernel_rfl) (by kernel_rfl) (by kernel_rfl) (by kernel_rfl) (fun _ _ _ h => h) (Or.inl ⟨by rfl, fun wl hSw => ?_⟩) hS0 ?_
  · (try dsimp only at hSw); go_simp
  refine wpAnyU_take (i := 4) (v := .pointer (some ⟨w.heap.size, 2, none⟩)) rfl (by kernel_rfl) (by kernel_rfl) (by kernel_rfl) (by kernel_rfl) (fun _ _ _ h => h) (Or.inl ⟨by rfl, fun wl hSw => ?_⟩) hS0 ?_
  · (try dsimp only at hSw); go_simp
  refine wpAnyU_take (i := 5) (v := .slice (some ⟨fb, fo, none⟩) fn fc) rfl (by kernel_rfl) (by kernel_rfl) (by kernel_rfl) (by kernel_rfl) (fun _ _ _ h => h) (Or.inl ⟨by rfl, fun wl hSw => ?_⟩) hS0 ?_
  · (try dsimp only at hSw); go_simp
  refine wpAnyU_one (i := 6) rfl (by kernel_rfl) (fun K hK => ?_)
  go_simp
  refine (Try.slices_Clone_int fb fo fn fc f.final _ (by rw [HOK.out.len]; exact Nat.le_refl _) (by omega) (fun j hj => hx3.cell j (by rw [← HOK.out.len]; exact hj))).mono ?_
  rintro e w4 ⟨v4, rfl, hrow4, _, hb4⟩
  obtain ⟨g4, c4, rfl⟩ := Go.Joins.ownsRow_form hrow4 (by omega)
  obtain ⟨z0, z1, z2, z3, y0, y1, y2, y3⟩ := zfacts (heap_bel hb4 hz3)
  have hS4 : (fun wx : World => wx.cell? ⟨w.heap.size, 0, none⟩ = some (.int .i64 fn) ∧ wx.cell? ⟨w.heap.size, 1, none⟩ = some (.int .i64 s0) ∧ wx.cell? ⟨w.heap.size, 2, none⟩ = some (.slice (some ⟨fb, fo, none⟩) fn fc)) w4 := ⟨bel_c hb4 s0', bel_c hb4 s1', bel_c hb4 s2'⟩
  refine hK.out _ _ ⟨fun _ => hS4, ?_⟩
  clear hK K
  refine wpAnyU_take (i := 7) (v := .agg #[.int .i64 fn, .int .i64 s0, .slice (some ⟨g4, 0, none⟩) fn c4, .slice none 0 0]) rfl (by kernel_rfl) (by kernel_rfl) (by kernel_rfl) (by kernel_rfl) (fun _ _ _ h => h) (Or.inl ⟨by rfl, fun wl hSw => ?_⟩) hS4 ?_
  · (try dsimp only at hSw); go_simp
  refine wpAnyU_one (i := 8) rfl (by kernel_rfl) (fun K hK => ?_)
  go_simp
  refine hK.out _ _ ⟨fun h => absurd rfl h, ?_⟩
  clear hK K
  refine wpAnyU_one (i := 9) rfl (by kernel_rfl) (fun K hK => ?_)
  go_simp
  refine hK.out _ _ ⟨fun _ => ⟨(far4 hne _ _ _ _).trans hS4.1, (far4 hne _ _ _ _).trans hS4.2.1, (far4 hne _ _ _ _).trans hS4.2.2⟩, ?_⟩
  clear hK K
  refine wpAnyU_one (i := 10) rfl (by kernel_rfl) (fun K hK => ?_)
  go_simp
  refine hK.out _ _ ⟨fun _ => ⟨(far4 hne _ _ _ _).trans hS4.1, (far4 hne _ _ _ _).trans hS4.2.1, (far4 hne _ _ _ _).trans hS4.2.2⟩, ?_⟩
  clear hK K
  refine wpAnyU_done (by kernel_rfl) ?_ _
  refine NoPanic.normal ?_
  go_wp2
  obtain ⟨n4, g4le⟩ := NumsAt.of_row hrow4
  rw [List.take_of_length_le (by rw [HOK.out.len]; exact Nat.le_refl _)] at n4
  have hzl := heap_lt hz3
  exact bodyPost_ret (v := .tuple #[.agg #[.int .i64 fn, .int .i64 s0, .slice (some ⟨g4, 0, none⟩) fn c4, .slice none 0 0], .int .i64 (-1), .int .i64 0]) (by simp [results, Try.results38, go_sem, *]) rfl ⟨_, _, _, _, _, _, rfl, isl_set4 (n4.slice c4 (by unfold maxLen; omega)) (by simp [Value.ownBlock]; omega) _ _ _ _, nil_arcs _, bel_set4 (bel_on hbd hb4) (by omega) _ _ _ _⟩

theorem set4_cells {w : World} {R : Nat} {u0 u1 u2 u3 : Value} (z0 : w.cell? ⟨R, 0, none⟩ = some u0) (z1 : w.cell? ⟨R, 1, none⟩ = some u1) (z2 : w.cell? ⟨R, 2, none⟩ = some u2) (z3 : w.cell? ⟨R, 3, none⟩ = some u3) (a b : Int) (u v : Value) :
    CellsF ((((w.setCell ⟨R, 0, none⟩ (.int .i64 a)).setCell ⟨R, 1, none⟩ (.int .i64 b)).setCell ⟨R, 2, none⟩ u).setCell ⟨R, 3, none⟩ v) R a b u v := by
  refine ⟨?_, ?_, ?_, ?_⟩
  · exact set_off (set_off (set_off (World.cell?_setCell_same _ _ _ z0) (by decide)) (by decide)) (by decide)
  · exact set_off (set_off (World.cell?_setCell_same _ _ _ (set_off z1 (by decide))) (by decide)) (by decide)
  · exact set_off (World.cell?_setCell_same _ _ _ (set_off (set_off z2 (by decide)) (by decide))) (by decide)
  · exact World.cell?_setCell_same _ _ _ (set_off (set_off (set_off z3 (by decide)) (by decide)) (by decide))
theorem zb_set4 {w : World} {R P : Nat} (h : ZBlock w R) (hne : R ≠ P) (u0 u1 u2 u3 : Value) : ZBlock ((((w.setCell ⟨P, 0, none⟩ u0).setCell ⟨P, 1, none⟩ u1).setCell ⟨P, 2, none⟩ u2).setCell ⟨P, 3, none⟩ u3) R :=
  heap_far (heap_far (heap_far (heap_far h hne) hne) hne) hne

/-- the transducer that is pushed, at P, the answer's block R still noughts -/
def PRel (w : World) (R N s0 : Nat) (xs : List Int) (ars : List ArcD) (t : Value) (wx : World) : Prop :=
  ∃ P fa fn fc ba bn bc, t = .pointer (some ⟨P, 0, none⟩) ∧ CellsF wx P (N : Int) (s0 : Int) (.slice fa fn fc) (.slice ba bn bc) ∧ ISlice wx (.slice fa fn fc) xs ∧ ASlice wx (.slice ba bn bc) ars ∧ ZBlock wx R ∧ Below w.heap.size w wx ∧ R < P ∧ (∀ g, (Value.slice fa fn fc).ownBlock = some g → R < g) ∧ ∀ g, (Value.slice ba bn bc).ownBlock = some g → R < g

theorem PRel.make {w W : World} {R N s0 P : Nat} {xs : List Int} {ars : List ArcD} {fa : Option Addr} {fn fc : Nat} {ba : Option Addr} {bn bc : Nat} (hP : ZBlock W P) (hR : ZBlock W R) (hRP : R < P) (hwR : w.heap.size ≤ R) (hf : ISlice W (.slice fa fn fc) xs) (ha : ASlice W (.slice ba bn bc) ars) (hb : Below w.heap.size w W)
    (hfg : ∀ g, (Value.slice fa fn fc).ownBlock = some g → R < g ∧ g ≠ P) (hag : ∀ g, (Value.slice ba bn bc).ownBlock = some g → R < g ∧ g ≠ P) :
    PRel w R N s0 xs ars (.pointer (some ⟨P, 0, none⟩)) ((((W.setCell ⟨P, 0, none⟩ (.int .i64 N)).setCell ⟨P, 1, none⟩ (.int .i64 s0)).setCell ⟨P, 2, none⟩ (.slice fa fn fc)).setCell ⟨P, 3, none⟩ (.slice ba bn bc)) := by
  obtain ⟨z0, z1, z2, z3, _, _, _, _⟩ := zfacts hP
  exact ⟨P, fa, fn, fc, ba, bn, bc, rfl, set4_cells z0 z1 z2 z3 _ _ _ _, isl_set4 hf (fun h => (hfg P h).2 rfl) _ _ _ _, asl_set4 ha (fun h => (hag P h).2 rfl) _ _ _ _, zb_set4 hR (by omega) _ _ _ _, bel_set4 hb (by omega) _ _ _ _, hRP, fun g hg => (hfg g hg).1, fun g hg => (hag g hg).1⟩

theorem wpAnyU_two {P : Program} {ops : Array Oper} {Q : Exit → Act → World → Prop} {md : Region.Mode} {S : World → Prop} {k : Nat} {i j : Nat} {oi oj : Oper} {fuel : Nat} {listed : Array Bool} {a : Act} {w : World} (hi : ops[i]? = some oi) (hj : ops[j]? = some oj) (hr : Region.ready md ops listed = [i, j])
    (h1 : ∀ K' : Act → World → Prop, Shut (∀ a w, ((i ≠ k → S w) ∧ wpAnyU P md ops Q S k fuel (listed.setIfInBounds i true) a w) → K' a w) → if Region.wanted oi (yielded ops a.tmps) = true then Oper.wp P oi a w K' Q else K' (a.put oi.dst undef) w)
    (h2 : ∀ K' : Act → World → Prop, Shut (∀ a w, ((j ≠ k → S w) ∧ wpAnyU P md ops Q S k fuel (listed.setIfInBounds j true) a w) → K' a w) → if Region.wanted oj (yielded ops a.tmps) = true then Oper.wp P oj a w K' Q else K' (a.put oj.dst undef) w) : wpAnyU P md ops Q S k (fuel + 1) listed a w := by
  refine ⟨fun h0 => (by rw [hr] at h0; cases h0), fun n hn => ?_⟩
  rw [hr] at hn
  rcases List.mem_cons.1 hn with rfl | hn
  · exact wpOp_step hi (fun K' hK => h1 K' (fun a w hS => hK a w hS))
  · have : n = j := by simpa using hn
    subst this
    exact wpOp_step hj (fun K' hK => h2 K' (fun a w hS => hK a w hS))

set_option maxHeartbeats 1000000 in
set_option maxRecDepth 100000 in
theorem push_some (f : FstD) (N s0 : Nat) (fin : Value) (aa : Option Addr) (m ac : Nat) (w : World) (hok : OkF f N s0) (hf : ISlice w fin f.final) (ha : ASlice w (.slice aa m ac) f.arcs) (hal : f.arcs.length = m) (hc : checkD f = 0) (x : Int) (hto : gI (toD f) s0 = x) (hx1 : (x == -1) = false) (d : FstD × Int × Int) (hd : d = if greatA (pushA (toD f) f.arcs) = true then (⟨0, 0, [], []⟩, 0, 2) else (⟨N, s0, pushF (toD f) f.final N, pushA (toD f) f.arcs⟩, x, 0)) :
    Calls Try.prog 38 #[.agg #[.int .i64 f.states, .int .i64 f.start, fin, .slice aa m ac]] w fun e w' => PushRes w d e w' := by
  have HD : Hid (d = if greatA (pushA (toD f) f.arcs) = true then (⟨0, 0, [], []⟩, 0, 2) else (⟨N, s0, pushF (toD f) f.final N, pushA (toD f) f.arcs⟩, x, 0)) := hd
  clear hd
  obtain ⟨fa, fn, fc, rfl, _, _⟩ := hf.lenOf
  obtain ⟨fb, fo, rfl, rfl, hx⟩ := final_at hok hf
  have hall := all_at2 f _ _ 0 w hf ha hc
  have HOK : Hid (OkF f fn s0) := hok
  have HTO : Hid (gI (toD f) s0 = x) := hto
  have hn1 := hok.n1
  have hn2 := hok.n2
  have hs := hok.s
  rw [hok.st, hok.sta] at *
  clear hc hok hto
  go_enter Try.func38, Try.ntmps38
  go_wp2_with (first | (go_at_call 59; refine hall.mono ?_; rintro e w1 ⟨rfl, hb1, hC1, hz1, hf1, ha1⟩; have hx1 := hx.below hb1; have hC1' := hC1; obtain ⟨q0, q1, q2, q3⟩ := hC1) | (go_at_call 85; refine (toEnd_ok f fn s0 _ aa m ac w1 HOK.out hf1 ha1 hal).mono ?_; rintro e w3 ⟨gc, gy, c, y, cc, cy, rfl, hcw, hfix⟩; have hc3 := hcw.rc.cell s0 hs; rw [HOK.out.toD hcw.inv hfix, HTO.out] at hc3; obtain ⟨r0, r1, r2, r3⟩ := hC1'.below hcw.bel; have hsi : (s0 : Int) < fn := by omega))
  obtain ⟨Wd, hWd⟩ : ∃ Wd, Wd = w3.drew := ⟨_, rfl⟩
  have s0' : Wd.cell? ⟨w.heap.size, 0, none⟩ = some (.int .i64 fn) := by rw [hWd]; exact drew_cell r0
  have s1' : Wd.cell? ⟨w.heap.size, 1, none⟩ = some (.int .i64 s0) := by rw [hWd]; exact drew_cell r1
  have s2' : Wd.cell? ⟨w.heap.size, 2, none⟩ = some (.slice (some ⟨fb, fo, none⟩) fn fc) := by rw [hWd]; exact drew_cell r2
  have s3' : Wd.cell? ⟨w.heap.size, 3, none⟩ = some (.slice aa m ac) := by rw [hWd]; exact drew_cell r3
  have hbd : Below w.heap.size w Wd := by rw [hWd]; exact (bel_on hb1 hcw.bel).drew
  have hxd : IntsAt Wd fb fo fn f.final := by rw [hWd]; exact (hx1.below hcw.bel).below (bel_self w3).drew
  have had : ASlice Wd (.slice aa m ac) f.arcs := by rw [hWd]; exact (ha1.below hcw.bel).below (bel_self w3).drew
  have hzd : ZBlock Wd (w.heap.size + 1) := by rw [hWd]; exact heap_bel (bel_self w3).drew (heap_bel hcw.bel hz1)
  have hcd := HOK.out.toD hcw.inv hfix
  have hnd : NumsAt Wd gc fn (toD f) := by rw [hWd, ← hcd]; exact hcw.rc.below (bel_self w3).drew
  have HB : Hid (∀ v, -1 ≤ gI (toD f) v ∧ gI (toD f) v ≤ 201000000000) := fun v => by rw [← hcd]; exact ⟨hcw.inv.lo v, hcw.inv.top (by rw [HOK.out.len]; exact hn2) v⟩
  have hzl := heap_lt hzd
  have hm3 : m ≤ 3000 := by have := HOK.out.many; omega
  have hS0 : (fun wx : World => wx.cell? ⟨w.heap.size, 0, none⟩ = some (.int .i64 fn) ∧ wx.cell? ⟨w.heap.size, 1, none⟩ = some (.int .i64 s0) ∧ wx.cell? ⟨w.heap.size, 2, none⟩ = some (.slice (some ⟨fb, fo, none⟩) fn fc) ∧ wx.cell? ⟨w.heap.size, 3, none⟩ = some (.slice aa m ac)) Wd := ⟨s0', s1', s2', s3'⟩
  have HSB : Hid (∀ wx : World, Below Wd.heap.size Wd wx → (fun wx : World => wx.cell? ⟨w.heap.size, 0, none⟩ = some (.int .i64 fn) ∧ wx.cell? ⟨w.heap.size, 1, none⟩ = some (.int .i64 s0) ∧ wx.cell? ⟨w.heap.size, 2, none⟩ = some (.slice (some ⟨fb, fo, none⟩) fn fc) ∧ wx.cell? ⟨w.heap.size, 3, none⟩ = some (.slice aa m ac)) wx) := fun wx h => ⟨bel_c h s0', bel_c h s1', bel_c h s2', bel_c h s3'⟩
  have HXD : Hid (∀ wx : World, Below Wd.heap.size Wd wx → IntsAt wx fb fo fn f.final) := fun wx h => hxd.below h
  have HAD : Hid (∀ wx : World, Below Wd.heap.size Wd wx → ASlice wx (.slice aa m ac) f.arcs) := fun wx h => had.below h
  have HND : Hid (∀ wx : World, Below Wd.heap.size Wd wx → NumsAt wx gc fn (toD f)) := fun wx h => hnd.below h
  have HZD : Hid (∀ wx : World, Below Wd.heap.size Wd wx → ZBlock wx (w.heap.size + 1)) := fun wx h => heap_bel h hzd
  have hne : w.heap.size ≠ w.heap.size + 1 := by omega
  have HW : Hid (Wd = w3.drew) := hWd
  clear q0 q1 q2 q3 hc3 r0 r1 r2 r3 hxd had hnd hzd hcd hcw hfix hx1 ha1 hf1 hz1 hC1' hb1 hall s0' s1' s2' s3' hWd
  go_cut [9] from 10 (fun t9 wx => PRel w (w.heap.size + 1) fn s0 (pushF (toD f) f.final fn) (pushA (toD f) f.arcs) t9 wx)
  case first =>
    refine wp_region_noPanic ?_
    refine wp_region_U (fun wx => wx.cell? ⟨w.heap.size, 0, none⟩ = some (.int .i64 fn) ∧ wx.cell? ⟨w.heap.size, 1, none⟩ = some (.int .i64 s0) ∧ wx.cell? ⟨w.heap.size, 2, none⟩ = some (.slice (some ⟨fb, fo, none⟩) fn fc) ∧ wx.cell? ⟨w.heap.size, 3, none⟩ = some (.slice aa m ac)) 12 (by kernel_rfl) (by rw [← HW.out]; exact hS0) (fun _ => ?_)
    rw [← HW.out]
    clear HW
    refine wpAnyU_take (i := 0) (v := .pointer (some ⟨w.heap.size, 0, none⟩)) rfl (by kernel_rfl) (by kernel_rfl) (by kernel_rfl) (by kernel_rfl) (fun _ _ _ h => h) (Or.inl ⟨by rfl, fun wl hSw => ?_⟩) hS0 ?_
    · (try dsimp only at hSw); go_simp
    refine wpAnyU_take (i := 1) (v := .int .i64 fn) rfl (by kernel_rfl) (by kernel_rfl) (by kernel_rfl) (by kernel_rfl) (fun _ _ _ h => h) (Or.inl ⟨by rfl, fun wl hSw => ?_⟩) hS0 ?_
    · (try dsimp only at hSw); go_simp
    refine wpAnyU_take (i := 2) (v := .pointer (some ⟨w.heap.size, 1, none⟩)) rfl (by kernel_rfl) (by kernel_rfl) (by kernel_rfl) (by kernel_rfl) (fun _ _ _ h => h) (Or.inl ⟨by rfl, fun wl hSw => ?_⟩) hS0 ?_
    · (try dsimp only at hSw); go_simp
    refine wpAnyU_take (i := 3) (v := .int .i64 s0) rfl (by kernel_rfl) (by kernel_rfl) (by kernel_rfl) (by kernel_rfl) (fun _ _ _ h => h) (Or.inl ⟨by rfl, fun wl hSw => ?_⟩) hS0 ?_
    · (try dsimp only at hSw); go_simp
    refine wpAnyU_take (i := 4) (v := .agg #[.int .i64 fn, .int .i64 s0, .slice (some ⟨fb, fo, none⟩) fn fc, .slice aa m ac]) rfl (by kernel_rfl) (by kernel_rfl) (by kernel_rfl) (by kernel_rfl) (fun _ _ _ h => h) (Or.inl ⟨by rfl, fun wl hSw => ?_⟩) hS0 ?_
    · (try dsimp only at hSw); go_simp
    refine wpAnyU_take (i := 5) (v := .slice (some ⟨gc, 0, none⟩) fn cc) rfl (by kernel_rfl) (by kernel_rfl) (by kernel_rfl) (by kernel_rfl) (fun _ _ _ h => h) (Or.inl ⟨by rfl, fun wl hSw => ?_⟩) hS0 ?_
    · (try dsimp only at hSw); go_simp
    refine wpAnyU_take (i := 7) (v := .agg #[.int .i64 fn, .int .i64 s0, .slice (some ⟨fb, fo, none⟩) fn fc, .slice aa m ac]) rfl (by kernel_rfl) (by kernel_rfl) (by kernel_rfl) (by kernel_rfl) (fun _ _ _ h => h) (Or.inl ⟨by rfl, fun wl hSw => ?_⟩) hS0 ?_
    · (try dsimp only at hSw); go_simp
    refine wpAnyU_take (i := 8) (v := .slice (some ⟨gc, 0, none⟩) fn cc) rfl (by kernel_rfl) (by kernel_rfl) (by kernel_rfl) (by kernel_rfl) (fun _ _ _ h => h) (Or.inl ⟨by rfl, fun wl hSw => ?_⟩) hS0 ?_
    · (try dsimp only at hSw); go_simp
    refine wpAnyU_two (i := 6) (j := 11) rfl rfl (by kernel_rfl) (fun K hK => ?_) (fun K hK => ?_)
    · go_simp
      refine (pushedEnds_any f.final (toD f) fn (fn : Int) (s0 : Int) fb fo fc gc cc (.slice aa m ac) _ (HXD.out _ (bel_self Wd)) (HND.out _ (bel_self Wd)) hn2 hn1 HOK.out.fin HB.out).mono ?_
      rintro e wE ⟨v1, rfl, hr1, hE⟩
      obtain ⟨g1, c1, rfl⟩ := Go.Joins.ownsRow_form hr1 (by omega)
      have hbE := bel_on (bel_self Wd) hE
      refine hK.out _ _ ⟨fun _ => HSB.out _ hbE, ?_⟩
      clear hK K
      have hn1' := NumsAt.of_row hr1
      have hg1 := hn1'.1.lt
      have hg1b := hn1'.2
      refine wpAnyU_two (i := 9) (j := 11) rfl rfl (by kernel_rfl) (fun K hK => ?_) (fun K hK => ?_)
      · go_simp
        refine (pushedArcs_any f.arcs (toD f) fn (fn : Int) (s0 : Int) (.slice (some ⟨fb, fo, none⟩) fn fc) aa m ac gc cc _ (HAD.out _ hbE) hal hm3 (HND.out _ hbE) HOK.out.arcs HB.out).mono ?_
        rintro e wA ⟨v2, rfl, hr2, hA⟩
        obtain ⟨ba, bn, bc, rfl, _, _⟩ := (ownsRow_arcs hr2).lenOf
        have hbA := bel_on hbE hA
        refine hK.out _ _ ⟨fun _ => HSB.out _ hbA, ?_⟩
        clear hK K
        refine wpAnyU_take (i := 10) (v := .agg #[.int .i64 fn, .int .i64 s0, .slice (some ⟨g1, 0, none⟩) fn c1, .slice ba bn bc]) rfl (by kernel_rfl) (by kernel_rfl) (by kernel_rfl) (by kernel_rfl) (fun _ _ _ h => h) (Or.inl ⟨by rfl, fun wl hSw => ?_⟩) (HSB.out _ hbA) ?_
        · (try dsimp only at hSw); go_simp
        have hbZ := bel_up hbA (.cells #[.int .i64 0, .int .i64 0, .slice none 0 0, .slice none 0 0] 25)
        refine wpAnyU_one (i := 11) rfl (by kernel_rfl) (fun K hK => ?_)
        go_simp
        refine hK.out _ _ ⟨fun _ => HSB.out _ hbZ, ?_⟩
        clear hK K
        have hsz := hbA.size
        have hszA := hA.size
        have hzP : ZBlock (wA.alloc (.cells #[.int .i64 0, .int .i64 0, .slice none 0 0, .slice none 0 0] 25)) wA.heap.size := heap_alloc_new wA _
        obtain ⟨z0, z1, z2, z3, y0, y1, y2, y3⟩ := zfacts hzP
        have hM : Hid (PRel w (w.heap.size + 1) fn s0 (pushF (toD f) f.final fn) (pushA (toD f) f.arcs) (.pointer (some ⟨wA.heap.size, 0, none⟩)) (wA.alloc (.cells #[.int .i64 fn, .int .i64 s0, .slice (some ⟨g1, 0, none⟩) fn c1, .slice ba bn bc] 25))) := ⟨wA.heap.size, _, _, _, _, _, _, rfl, cellsF_new wA _ _ _ _ _, ((hn1'.1.slice c1 (by unfold maxLen; omega)).below hA).below (bel_up (bel_self wA) _), (ownsRow_arcs hr2).below (bel_up (bel_self wA) _), heap_bel (bel_up (bel_self wA) _) (HZD.out _ hbA), bel_on (bel_on hbd hbA) (bel_up (bel_self wA) _), by omega, (fun g hg => by have hg' : some g1 = some g := hg; injection hg' with hg'; omega), (fun g hg => by have h1 := own_base hr2 g hg; omega)⟩
        refine wpAnyU_one (i := 12) rfl (by kernel_rfl) (fun K hK => ?_)
        go_simp
        refine hK.out _ _ ⟨fun h => absurd rfl h, ?_⟩
        clear hK K
        refine wpAnyU_done (by kernel_rfl) ?_ _
        refine NoPanic.normal ?_
        go_wp2
        go_meet
        case rel => exact hM.out
      · go_simp
        have hbZ := bel_up hbE (.cells #[.int .i64 0, .int .i64 0, .slice none 0 0, .slice none 0 0] 25)
        refine hK.out _ _ ⟨fun _ => HSB.out _ hbZ, ?_⟩
        clear hK K
        refine wpAnyU_one (i := 9) rfl (by kernel_rfl) (fun K hK => ?_)
        go_simp
        refine (pushedArcs_any f.arcs (toD f) fn (fn : Int) (s0 : Int) (.slice (some ⟨fb, fo, none⟩) fn fc) aa m ac gc cc _ (HAD.out _ hbZ) hal hm3 (HND.out _ hbZ) HOK.out.arcs HB.out).mono ?_
        rintro e wA ⟨v2, rfl, hr2, hA⟩
        obtain ⟨ba, bn, bc, rfl, _, _⟩ := (ownsRow_arcs hr2).lenOf
        have hbA := bel_on hbZ hA
        refine hK.out _ _ ⟨fun _ => HSB.out _ hbA, ?_⟩
        clear hK K
        refine wpAnyU_take (i := 10) (v := .agg #[.int .i64 fn, .int .i64 s0, .slice (some ⟨g1, 0, none⟩) fn c1, .slice ba bn bc]) rfl (by kernel_rfl) (by kernel_rfl) (by kernel_rfl) (by kernel_rfl) (fun _ _ _ h => h) (Or.inl ⟨by rfl, fun wl hSw => ?_⟩) (HSB.out _ hbA) ?_
        · (try dsimp only at hSw); go_simp
        have hsz := hbE.size
        have hszA := hA.size
        rw [one_size] at hszA
        have hzP : ZBlock wA wE.heap.size := heap_bel hA (heap_alloc_new wE _)
        obtain ⟨z0, z1, z2, z3, y0, y1, y2, y3⟩ := zfacts hzP
        have hM : Hid (PRel w (w.heap.size + 1) fn s0 (pushF (toD f) f.final fn) (pushA (toD f) f.arcs) (.pointer (some ⟨wE.heap.size, 0, none⟩)) ((((wA.setCell ⟨wE.heap.size, 0, none⟩ (.int .i64 fn)).setCell ⟨wE.heap.size, 1, none⟩ (.int .i64 s0)).setCell ⟨wE.heap.size, 2, none⟩ (.slice (some ⟨g1, 0, none⟩) fn c1)).setCell ⟨wE.heap.size, 3, none⟩ (.slice ba bn bc))) := PRel.make hzP (HZD.out _ hbA) (by omega) (by omega) ((hn1'.1.slice c1 (by unfold maxLen; omega)).below (bel_on (bel_up (bel_self wE) _) hA)) (ownsRow_arcs hr2) (bel_on hbd hbA) (fun g hg => by have hg' : some g1 = some g := hg; injection hg' with hg'; omega) (fun g hg => by have h1 := own_base hr2 g hg; rw [one_size] at h1; omega)
        refine wpAnyU_one (i := 12) rfl (by kernel_rfl) (fun K hK => ?_)
        go_simp
        refine hK.out _ _ ⟨fun h => absurd rfl h, ?_⟩
        clear hK K
        refine wpAnyU_done (by kernel_rfl) ?_ _
        refine NoPanic.normal ?_
        go_wp2
        go_meet
        case rel => exact hM.out
    · go_simp
      have hbZ := bel_up (bel_self Wd) (.cells #[.int .i64 0, .int .i64 0, .slice none 0 0, .slice none 0 0] 25)
      refine hK.out _ _ ⟨fun _ => HSB.out _ hbZ, ?_⟩
      clear hK K
      refine wpAnyU_one (i := 6) rfl (by kernel_rfl) (fun K hK => ?_)
      go_simp
      refine (pushedEnds_any f.final (toD f) fn (fn : Int) (s0 : Int) fb fo fc gc cc (.slice aa m ac) _ (HXD.out _ hbZ) (HND.out _ hbZ) hn2 hn1 HOK.out.fin HB.out).mono ?_
      rintro e wE ⟨v1, rfl, hr1, hE⟩
      obtain ⟨g1, c1, rfl⟩ := Go.Joins.ownsRow_form hr1 (by omega)
      have hbE := bel_on hbZ hE
      refine hK.out _ _ ⟨fun _ => HSB.out _ hbE, ?_⟩
      clear hK K
      have hn1' := NumsAt.of_row hr1
      have hg1 := hn1'.1.lt
      have hg1b := hn1'.2
      rw [one_size] at hg1b
      refine wpAnyU_one (i := 9) rfl (by kernel_rfl) (fun K hK => ?_)
      go_simp
      refine (pushedArcs_any f.arcs (toD f) fn (fn : Int) (s0 : Int) (.slice (some ⟨fb, fo, none⟩) fn fc) aa m ac gc cc _ (HAD.out _ hbE) hal hm3 (HND.out _ hbE) HOK.out.arcs HB.out).mono ?_
      rintro e wA ⟨v2, rfl, hr2, hA⟩
      obtain ⟨ba, bn, bc, rfl, _, _⟩ := (ownsRow_arcs hr2).lenOf
      have hbA := bel_on hbE hA
      refine hK.out _ _ ⟨fun _ => HSB.out _ hbA, ?_⟩
      clear hK K
      refine wpAnyU_take (i := 10) (v := .agg #[.int .i64 fn, .int .i64 s0, .slice (some ⟨g1, 0, none⟩) fn c1, .slice ba bn bc]) rfl (by kernel_rfl) (by kernel_rfl) (by kernel_rfl) (by kernel_rfl) (fun _ _ _ h => h) (Or.inl ⟨by rfl, fun wl hSw => ?_⟩) (HSB.out _ hbA) ?_
      · (try dsimp only at hSw); go_simp
      have hsz := hE.size
      rw [one_size] at hsz
      have hzP : ZBlock wA Wd.heap.size := heap_bel hA (heap_bel hE (heap_alloc_new Wd _))
      obtain ⟨z0, z1, z2, z3, y0, y1, y2, y3⟩ := zfacts hzP
      have hM : Hid (PRel w (w.heap.size + 1) fn s0 (pushF (toD f) f.final fn) (pushA (toD f) f.arcs) (.pointer (some ⟨Wd.heap.size, 0, none⟩)) ((((wA.setCell ⟨Wd.heap.size, 0, none⟩ (.int .i64 fn)).setCell ⟨Wd.heap.size, 1, none⟩ (.int .i64 s0)).setCell ⟨Wd.heap.size, 2, none⟩ (.slice (some ⟨g1, 0, none⟩) fn c1)).setCell ⟨Wd.heap.size, 3, none⟩ (.slice ba bn bc))) := PRel.make hzP (HZD.out _ hbA) (by omega) (by omega) ((hn1'.1.slice c1 (by unfold maxLen; omega)).below hA) (ownsRow_arcs hr2) (bel_on hbd hbA) (fun g hg => by have hg' : some g1 = some g := hg; injection hg' with hg'; omega) (fun g hg => by have h1 := own_base hr2 g hg; omega)
      refine wpAnyU_one (i := 12) rfl (by kernel_rfl) (fun K hK => ?_)
      go_simp
      refine hK.out _ _ ⟨fun h => absurd rfl h, ?_⟩
      clear hK K
      refine wpAnyU_done (by kernel_rfl) ?_ _
      refine NoPanic.normal ?_
      go_wp2
      go_meet
      case rel => exact hM.out
  case rest =>
    obtain ⟨P, fa', fn', fc', ba', bn', bc', rfl, hC, hI, hAr, hZ, hB, hRP, hfg, hag⟩ := hcut
    have hC' := hC
    obtain ⟨k0, k1, k2, k3⟩ := hC
    rename World => w5
    have hbn : (pushA (toD f) f.arcs).length = bn' := by obtain ⟨_, _, _, e, h, _⟩ := hAr.lenOf; injection e with _ e2 _; omega
    have hbm : bn' ≤ 3000 := by have := pushA_len (toD f) f.arcs; have := HOK.out.many; omega
    have hct := arcContains_any (fun a => decide (1000000000 < a.wt)) 90 goG great1_any (pushA (toD f) f.arcs) ba' bn' bc'
    have HG0 : Hid ((pushA (toD f) f.arcs).any (fun a => decide (1000000000 < a.wt)) = greatA (pushA (toD f) f.arcs)) := (rfl : (pushA (toD f) f.arcs).any (fun a => decide (1000000000 < a.wt)) = greatA (pushA (toD f) f.arcs))
    rw [HG0.out] at hct
    clear HSB HXD HAD HND HZD HB
    cases hg : greatA (pushA (toD f) f.arcs) with
    | true =>
      rw [hg] at hct
      have HG : Hid (greatA (pushA (toD f) f.arcs) = true) := hg
      clear hg
      go_wp2_with (go_at_call 89; refine (hct _ hAr hbn hbm).mono ?_; rintro e w6 ⟨rfl, hb6⟩; obtain ⟨z0, z1, z2, z3, y0, y1, y2, y3⟩ := zfacts (heap_bel hb6 hZ))
      exact bodyPost_ret (v := .tuple #[.agg #[.int .i64 0, .int .i64 0, .slice none 0 0, .slice none 0 0], .int .i64 0, .int .i64 2]) (by simp [results, Try.results38, go_sem, *]) rfl (by rw [HD.out, if_pos HG.out]; exact ⟨_, _, _, _, _, _, rfl, nil_ints _, nil_arcs _, bel_set4 (bel_on hB hb6) (by omega) _ _ _ _⟩)
    | false =>
      rw [hg] at hct
      have HG : Hid (¬ greatA (pushA (toD f) f.arcs) = true) := (by rw [hg]; decide : ¬ greatA (pushA (toD f) f.arcs) = true)
      clear hg
      go_wp2_with (go_at_call 89; refine (hct _ hAr hbn hbm).mono ?_; rintro e w6 ⟨rfl, hb6⟩; obtain ⟨j0, j1, j2, j3⟩ := hC'.below hb6; obtain ⟨z0, z1, z2, z3, y0, y1, y2, y3⟩ := zfacts (heap_bel hb6 hZ))
      exact bodyPost_ret (v := .tuple #[.agg #[.int .i64 fn, .int .i64 s0, .slice fa' fn' fc', .slice ba' bn' bc'], .int .i64 x, .int .i64 0]) (by simp [results, Try.results38, go_sem, *]) rfl (by rw [HD.out, if_neg HG.out]; exact ⟨_, _, _, _, _, _, rfl, isl_set4 (hI.below hb6) (fun h => by have := hfg _ h; omega) _ _ _ _, asl_set4 (hAr.below hb6) (fun h => by have := hag _ h; omega) _ _ _ _, bel_set4 (bel_on hB hb6) (by omega) _ _ _ _⟩)

end Go.Proofs.Yteehgcbjmdideaa

/- Arcs in their order, each ahead of all behind it; what Check passes. -/
namespace Go.Proofs.Yteehgcbjmdideaa

theorem ahead_iff (a b : ArcD) : aheadB a b = true ↔ a.src < b.src ∨ (a.src = b.src ∧ (a.inp < b.inp ∨ (a.inp = b.inp ∧ (a.out < b.out ∨ (a.out = b.out ∧ a.dst < b.dst))))) := by
  unfold aheadB
  by_cases h0 : a.src = b.src
  · rw [if_neg (by simpa using h0)]
    by_cases h1 : a.inp = b.inp
    · rw [if_neg (by simpa using h1)]
      by_cases h2 : a.out = b.out
      · rw [if_neg (by simpa using h2), decide_eq_true_iff]
        omega
      · rw [if_pos h2, decide_eq_true_iff]
        omega
    · rw [if_pos h1, decide_eq_true_iff]
      omega
  · rw [if_pos h0, decide_eq_true_iff]
    omega

theorem ahead_trans {a b c : ArcD} (h1 : aheadB a b = true) (h2 : aheadB b c = true) : aheadB a c = true := by
  rw [ahead_iff] at *
  omega

theorem ahead_irrefl (a : ArcD) : aheadB a a = false := by
  rw [Bool.eq_false_iff]
  intro h
  rw [ahead_iff] at h
  omega

theorem arcErr_mk {st : Int} {p : Option ArcD} {a : ArcD} (h : ArcOk st a) (hp : ∀ q, p = some q → aheadB q a = true) : arcErr st p a = 0 := by
  unfold arcErr
  rw [h.src, h.dst, h.inp, h.out, h.wt]
  cases p with
  | none => rfl
  | some q => simp [hp q rfl]

theorem arcErr_ahead {st : Int} {q a : ArcD} (h : arcErr st (some q) a = 0) : aheadB q a = true := by
  have k := arcErr_ok _ _ _ h
  unfold arcErr at h
  rw [k.src, k.dst, k.inp, k.out, k.wt] at h
  cases e : aheadB q a with
  | true => rfl
  | false => simp [e] at h

theorem arcsErr_mk {st : Int} (l : List ArcD) : ∀ (p : Option ArcD), (∀ a ∈ l, ArcOk st a) → l.Pairwise (fun a b => aheadB a b = true) → (∀ q, p = some q → ∀ x ∈ l, aheadB q x = true) → arcsErr st p l = 0 := by
  induction l with
  | nil => intro p _ _ _; rfl
  | cons a l ih =>
    intro p h1 h2 h3
    rw [List.pairwise_cons] at h2
    rw [arcsErr, if_pos (arcErr_mk (h1 a (by simp)) (fun q hq => h3 q hq a (by simp)))]
    refine ih _ (fun b hb => h1 b (by simp [hb])) h2.2 (fun q hq x hx => ?_)
    injection hq with hq
    subst hq
    exact h2.1 x hx

theorem arcsErr_order {st : Int} (l : List ArcD) : ∀ (p : Option ArcD), arcsErr st p l = 0 → l.Pairwise (fun a b => aheadB a b = true) ∧ ∀ q, p = some q → ∀ x ∈ l, aheadB q x = true := by
  induction l with
  | nil => intro p _; exact ⟨List.Pairwise.nil, fun _ _ x hx => by cases hx⟩
  | cons a l ih =>
    intro p h
    rw [arcsErr] at h
    by_cases e : arcErr st p a = 0
    · rw [if_pos e] at h
      obtain ⟨g1, g2⟩ := ih _ h
      refine ⟨List.pairwise_cons.2 ⟨fun x hx => g2 a rfl x hx, g1⟩, fun q hq x hx => ?_⟩
      subst hq
      have e1 := arcErr_ahead e
      rcases List.mem_cons.1 hx with rfl | hx
      · exact e1
      · exact ahead_trans e1 (g2 a rfl x hx)
    · rw [if_neg e] at h; exact absurd h e

/-- what Check passes -/
structure Fine (f : FstD) : Prop where
  s1 : 1 ≤ f.states
  s2 : f.states ≤ 200
  b1 : 0 ≤ f.start
  b2 : f.start < f.states
  len : (f.final.length : Int) = f.states
  fin : ∀ x ∈ f.final, x = -1 ∨ (0 ≤ x ∧ x ≤ 1000000000)
  many : f.arcs.length ≤ 3000
  arcs : ∀ a ∈ f.arcs, ArcOk f.states a
  ord : f.arcs.Pairwise (fun a b => aheadB a b = true)

theorem fine_of {f : FstD} (h : checkD f = 0) : Fine f := by
  have k := check_ok f h
  have k0 := k.states
  have k1 := k.start
  simp [inB] at k0 k1
  exact ⟨k0.1, k0.2, k1.1, by omega, k.len, fun x hx => (finB_out (k.fin x hx)).1, k.many, k.arcs, (arcsErr_order _ _ k.err).1⟩

theorem Fine.check {f : FstD} (h : Fine f) : checkD f = 0 := by
  have e0 : inB f.states 1 200 = true := by simp [inB]; exact ⟨h.s1, h.s2⟩
  have e1 : inB f.start 0 (f.states - 1) = true := by simp [inB]; have := h.b1; have := h.b2; omega
  have e3 : f.final.any finB = false := by
    rw [List.any_eq_false]
    intro x hx
    have := h.fin x hx
    unfold finB inB
    rcases this with rfl | ⟨g1, g2⟩
    · decide
    · simp; omega
  unfold checkD
  rw [e0, e1, e3]
  have e2 : ¬ (f.final.length : Int) ≠ f.states := fun hh => hh h.len
  have e4 : ¬ 3000 < f.arcs.length := by have := h.many; omega
  simp only [Bool.not_true, Bool.false_eq_true, if_false, if_neg e2, if_neg e4]
  exact arcsErr_mk _ _ h.arcs h.ord (fun q hq => by cases hq)

theorem fine_iff {f : FstD} : checkD f = 0 ↔ Fine f := ⟨fine_of, Fine.check⟩
end Go.Proofs.Yteehgcbjmdideaa

/- Operations of a region that only reads. -/
namespace Go.Proofs.Yteehgcbjmdideaa
open Go

/-- one operation of a region that only reads: it is wanted -/
theorem quietY {P : Program} {ops : Array Oper} {C : World → Prop} {Q : Act → Prop} {a : Act} {o : Oper} {rest : List Oper} (hy : Region.wanted o (yielded ops a.tmps) = true) (h : ∀ K : Act → Prop, (∀ a, wpQuiet P ops C Q rest a → K a) → o.quiet P a C K) : wpQuiet P ops C Q (o :: rest) a :=
  wpQuiet_step (fun K hK => by rw [if_pos hy]; exact h K hK)

/-- it is not -/
theorem quietN {P : Program} {ops : Array Oper} {C : World → Prop} {Q : Act → Prop} {a : Act} {o : Oper} {rest : List Oper} (hy : Region.wanted o (yielded ops a.tmps) = false) (h : ∀ K : Act → Prop, (∀ a, wpQuiet P ops C Q rest a → K a) → K (a.put o.dst undef)) : wpQuiet P ops C Q (o :: rest) a :=
  wpQuiet_step (fun K hK => by rw [if_neg (by rw [hy]; decide)]; exact h K hK)
end Go.Proofs.Yteehgcbjmdideaa
