/- 'TurnedOf' of the document's answer. (Made by wip/gen/turng.py.) -/
import Derived.Test.YteehgcbjmdideaaQMapP
namespace Go.Proofs.Yteehgcbjmdideaa
open Go.RowKit
attribute [local go_sem ↓] Go.wp_at_zero Go.wp_at_succ

set_option maxHeartbeats 1000000 in
theorem mapped_zero (p : Option Addr) (c : Nat) (w : World) :
    Calls Try.prog 65 #[.slice p 0 c] w fun e w' => e = .returned (.slice none 0 0) ∧ Below w.heap.size w w' := by
  go_enter Try.func65, Try.ntmps65
  go_wp2
  go_loopw [3, 4] (fun t3 t4 wr => t3 = .slice none 0 0 ∧ t4 = .int .i64 0 ∧ Below w.heap.size w wr) (fun _ _ _ => 0)
  case atStart => exact ⟨rfl, rfl, bel_self _⟩
  case round =>
    obtain ⟨rfl, rfl, hb⟩ := hrel
    go_wp2
    go_ret
    exact ⟨rfl, hb⟩

theorem mapped_any (ars : List ArcD) (v : Value) (w : World) (ha : ASlice w v ars) (hm : ars.length ≤ 3000) (hw0 : ∀ a ∈ ars, 0 ≤ a.wt) :
    Calls Try.prog 65 #[v] w fun e w' => ∃ v', e = .returned v' ∧ AFrom w.heap.size w' v' (leastL ars) ∧ Below w.heap.size w w' := by
  have zero : ∀ (p : Option Addr) (c : Nat), Calls Try.prog 65 #[.slice p 0 c] w fun e w' => ∃ v', e = .returned v' ∧ AFrom w.heap.size w' v' (leastL []) ∧ Below w.heap.size w w' := fun p c => by
    refine (mapped_zero p c w).mono ?_
    rintro e w' ⟨rfl, hb⟩
    exact ⟨_, rfl, Or.inl ⟨_, _, rfl, leastL_nil⟩, hb⟩
  rcases ha with ⟨a, cap, rfl, rfl⟩ | ⟨b, off, n, cap, rfl, hx, _⟩
  · exact zero a cap
  · have hlen := hx.len
    by_cases h0 : n = 0
    · subst h0
      have : ars = [] := List.length_eq_zero_iff.1 hlen
      subst this
      exact zero _ cap
    · refine (mapped_some ars b off n cap w hx (by omega) (by omega) hw0).mono ?_
      rintro e w' ⟨v, out, rfl, hmin, hv, hb⟩
      rw [hmin.unique (leastL_min ars)] at hv
      exact ⟨v, rfl, hv, hb⟩

theorem lit1I (W : World) (base : Nat) (hb : base ≤ W.heap.size) : (W.alloc (.cells #[] 3)).ownsRow base 3 1 (.slice (some ⟨W.heap.size, 0, none⟩) 0 0) 0 [] := by
  have h := World.ownsRow_lit (base := base) (e := 3) (size := 1) W #[] 0 hb (by decide) rfl
  simpa using h

/-- the world of 'TurnedOf' -/
structure TW (w wx : World) (st sta : Int) (P G cap : Nat) (fin arcs : Value) (N : Nat) (xs : List Int) : Prop where
  cf : CellsF wx w.heap.size st sta fin arcs
  zb : ZBlock wx (w.heap.size + 1)
  out : wx.heap[P]? = some (.cells #[.int .i64 st, .int .i64 sta, .slice (some ⟨G, 0, none⟩) N cap, .slice none 0 0] 25 (0, 0))
  row : wx.ownsRow (w.heap.size + 2) 3 1 (.slice (some ⟨G, 0, none⟩) N cap) N (xs.map (Value.int .i64))
  gP : w.heap.size + 1 < P
  GP : G ≠ P
  bel : Below w.heap.size w wx

theorem TW.below {w wx wy : World} {st sta : Int} {P G cap N : Nat} {fin arcs : Value} {xs : List Int} (h : TW w wx st sta P G cap fin arcs N xs) (hb : Below wx.heap.size wx wy) : TW w wy st sta P G cap fin arcs N xs :=
  ⟨h.cf.below hb, heap_bel hb h.zb, heap_bel hb h.out, ownsRow_bel h.row hb, h.gP, h.GP, bel_on h.bel hb⟩

theorem bel_set4' {B P : Nat} {w w' : World} (h : Below B w w') (hP : B ≤ P) (u0 u1 u2 u3 : Value) : Below B w ((((w'.setCell ⟨P, 0, none⟩ u0).setCell ⟨P, 1, none⟩ u1).setCell ⟨P, 2, none⟩ u2).setCell ⟨P, 3, none⟩ u3) :=
  (((h.setCell (p := ⟨P, 0, none⟩) hP u0).setCell (p := ⟨P, 1, none⟩) hP u1).setCell (p := ⟨P, 2, none⟩) hP u2).setCell (p := ⟨P, 3, none⟩) hP u3
theorem box_set4 {w : World} {P : Nat} (h : ZBlock w P) (u0 u1 u2 u3 : Value) : ((((w.setCell ⟨P, 0, none⟩ u0).setCell ⟨P, 1, none⟩ u1).setCell ⟨P, 2, none⟩ u2).setCell ⟨P, 3, none⟩ u3).heap[P]? = some (.cells #[u0, u1, u2, u3] 25 (0, 0)) :=
  box_set (k := 3) (box_set (k := 2) (box_set (k := 1) (box_set (k := 0) h rfl) rfl) rfl) rfl
theorem row_set4 {w : World} {B e G N cap P : Nat} {xs : List Value} (h : w.ownsRow B e 1 (.slice (some ⟨G, 0, none⟩) N cap) N xs) (hP : G ≠ P) (u0 u1 u2 u3 : Value) : ((((w.setCell ⟨P, 0, none⟩ u0).setCell ⟨P, 1, none⟩ u1).setCell ⟨P, 2, none⟩ u2).setCell ⟨P, 3, none⟩ u3).ownsRow B e 1 (.slice (some ⟨G, 0, none⟩) N cap) N xs := by
  have e : (Value.slice (some ⟨G, 0, none⟩) N cap).ownBlock ≠ some P := fun q => by
    have q' : some G = some P := q
    injection q' with q'
    exact hP q'
  exact ownsRow_setCell_far (ownsRow_setCell_far (ownsRow_setCell_far (ownsRow_setCell_far h e) e) e) e

theorem far5 {w6 : World} {Bi B B' P R G N cap : Nat} {xs : List Int} {av : Value} {ars : List ArcD} (h1 : w6.ownsRow Bi 3 1 (.slice (some ⟨G, 0, none⟩) N cap) N (xs.map (Value.int .i64))) (hl : xs.length = N) (h2 : AFrom B w6 av ars) (hP : P < B) (hR : R < B) (hG : G ≠ P) (hGR : G ≠ R) (hB1 : B' ≤ Bi) (hB2 : B' ≤ B) (u u0 u1 u2 u3 : Value) :
    IFrom B' (((((w6.setCell ⟨P, 3, none⟩ u).setCell ⟨R, 0, none⟩ u0).setCell ⟨R, 1, none⟩ u1).setCell ⟨R, 2, none⟩ u2).setCell ⟨R, 3, none⟩ u3) (.slice (some ⟨G, 0, none⟩) N cap) xs ∧ AFrom B' (((((w6.setCell ⟨P, 3, none⟩ u).setCell ⟨R, 0, none⟩ u0).setCell ⟨R, 1, none⟩ u1).setCell ⟨R, 2, none⟩ u2).setCell ⟨R, 3, none⟩ u3) av ars := by
  have e : (Value.slice (some ⟨G, 0, none⟩) N cap).ownBlock ≠ some P := fun q => by
    have q' : some G = some P := q
    injection q' with q'
    exact hG q'
  have r := row_set4 (ownsRow_setCell_far (k := P) (i := 3) (u := u) h1 e) hGR u0 u1 u2 u3
  refine ⟨(own_ifrom (by rw [hl]; exact r)).mono hB1, ?_⟩
  exact (((((h2.set (i := 3) (u := u) hP).set (i := 0) (u := u0) hR).set (i := 1) (u := u1) hR).set (i := 2) (u := u2) hR).set (i := 3) (u := u3) hR).mono hB2

set_option maxHeartbeats 4000000 in
set_option maxRecDepth 100000 in
theorem turnedOf_some (f : FstD) (side : Int) (h : ArcD → ArcD) (hside : (side = 0 ∧ h = invA) ∨ (side = 1 ∧ h = inA) ∨ (side = 2 ∧ h = outA)) (fb fo N fc : Nat) (aa : Option Addr) (m ac : Nat) (w : World) (hN : 1 ≤ N) (hN2 : N ≤ 200) (hf : IntsAt w fb fo N f.final) (ha : ASlice w (.slice aa m ac) f.arcs) (hal : f.arcs.length = m) (hm : m ≤ 3000) (hwt : ∀ a ∈ f.arcs, 0 ≤ a.wt) :
    Calls Try.prog 19 #[.agg #[.int .i64 f.states, .int .i64 f.start, .slice (some ⟨fb, fo, none⟩) N fc, .slice aa m ac], .int .i64 side] w fun e w' =>
      ∃ fa' fn' fc' ba bn bc, e = .returned (.agg #[.int .i64 f.states, .int .i64 f.start, .slice fa' fn' fc', .slice ba bn bc]) ∧ IFrom w.heap.size w' (.slice fa' fn' fc') f.final ∧ AFrom w.heap.size w' (.slice ba bn bc) (leastL (f.arcs.map h)) ∧ Below w.heap.size w w' := by
  obtain ⟨i0, hi, hz0, hz1, hz2⟩ := info_parts Try.info3
  obtain ⟨j0, hj0, hj1, hj2, hj3⟩ := info_parts Try.info63
  have HAL : Hid (f.arcs.length = m) := hal
  have HBL : Hid (f.final.length = N) := hf.len
  have HWT : Hid (∀ a ∈ f.arcs, 0 ≤ a.wt) := hwt
  obtain ⟨W0, hW0⟩ : ∃ W0, W0 = (w.alloc (.cells #[.int .i64 f.states, .int .i64 f.start, .slice (some ⟨fb, fo, none⟩) N fc, .slice aa m ac] 25)).alloc (.cells #[.int .i64 0, .int .i64 0, .slice none 0 0, .slice none 0 0] 25) := ⟨_, rfl⟩
  have hb0 : Below w.heap.size w W0 := by rw [hW0]; exact two_up w _ _
  have hs0 : W0.heap.size = w.heap.size + 1 + 1 := by rw [hW0]; simp
  have hcf0 : CellsF W0 w.heap.size f.states f.start (.slice (some ⟨fb, fo, none⟩) N fc) (.slice aa m ac) := by rw [hW0]; exact (cellsF_new w _ _ _ _ 25).below (bel_up (bel_self _) _)
  have hzb0 : ZBlock W0 (w.heap.size + 1) := by
    rw [hW0]
    have := heap_alloc_new (w.alloc (.cells #[.int .i64 f.states, .int .i64 f.start, .slice (some ⟨fb, fo, none⟩) N fc, .slice aa m ac] 25)) (.cells #[.int .i64 0, .int .i64 0, .slice none 0 0, .slice none 0 0] 25)
    unfold ZBlock
    simpa using this
  go_enter Try.func19, Try.ntmps19
  go_wp2
  rw [← hW0]
  clear hW0 hal hwt
  obtain ⟨Wd, hWd⟩ : ∃ Wd, Wd = W0.drew := ⟨_, rfl⟩
  have hu1 : Below W0.heap.size W0 Wd := by rw [hWd]; exact (bel_self W0).drew
  have hsd : w.heap.size + 2 ≤ Wd.heap.size := by rw [hWd]; exact Nat.le_of_eq hs0.symm
  clear hs0
  have hbd : Below w.heap.size w Wd := bel_on hb0 hu1
  have HTW : Hid (∀ (wx : World) (P G cap : Nat), Below Wd.heap.size Wd wx → wx.heap[P]? = some (.cells #[.int .i64 f.states, .int .i64 f.start, .slice (some ⟨G, 0, none⟩) N cap, .slice none 0 0] 25 (0, 0)) → wx.ownsRow Wd.heap.size 3 1 (.slice (some ⟨G, 0, none⟩) N cap) N (f.final.map (Value.int .i64)) → w.heap.size + 1 < P → G ≠ P → TW w wx f.states f.start P G cap (.slice (some ⟨fb, fo, none⟩) N fc) (.slice aa m ac) N f.final) := fun wx P G cap h1 h2 h3 h4 h5 =>
    ⟨(hcf0.below hu1).below h1, heap_bel h1 (heap_bel hu1 hzb0), h2, own_mono h3 (by omega), h4, h5, bel_on hbd h1⟩
  have HNW : Hid (∀ wx : World, Below Wd.heap.size Wd wx → ∀ j u, (f.final.map (Value.int .i64))[j]? = some u → wx.cell? ((⟨fb, fo, none⟩ : Addr).add j) = some u) := fun wx h => ints_news ((hf.below hbd).below h)
  obtain ⟨s0', s1', s2', s3'⟩ := hcf0.below hu1
  have hS0 : (fun wx : World => wx.cell? ⟨w.heap.size, 0, none⟩ = some (.int .i64 f.states) ∧ wx.cell? ⟨w.heap.size, 1, none⟩ = some (.int .i64 f.start) ∧ wx.cell? ⟨w.heap.size, 2, none⟩ = some (.slice (some ⟨fb, fo, none⟩) N fc)) Wd := ⟨s0', s1', s2'⟩
  have HSB : Hid (∀ wx : World, Below Wd.heap.size Wd wx → (fun wx : World => wx.cell? ⟨w.heap.size, 0, none⟩ = some (.int .i64 f.states) ∧ wx.cell? ⟨w.heap.size, 1, none⟩ = some (.int .i64 f.start) ∧ wx.cell? ⟨w.heap.size, 2, none⟩ = some (.slice (some ⟨fb, fo, none⟩) N fc)) wx) := fun wx h => ⟨bel_c h s0', bel_c h s1', bel_c h s2'⟩
  have HW : Hid (Wd = W0.drew) := hWd
  have HAS : Hid (∀ wx : World, Below w.heap.size w wx → ASlice wx (.slice aa m ac) f.arcs) := fun wx h => ha.below h
  clear hWd hcf0 hzb0 hu1 s0' s1' s2' s3' hf ha hb0
  go_cut [5] from 9 (fun t5 wx => ∃ P G cap : Nat, t5 = .pointer (some ⟨P, 0, none⟩) ∧ TW w wx f.states f.start P G cap (.slice (some ⟨fb, fo, none⟩) N fc) (.slice aa m ac) N f.final)
  case first =>
    refine wp_region_noPanic ?_
    refine wp_region_U (fun wx : World => wx.cell? ⟨w.heap.size, 0, none⟩ = some (.int .i64 f.states) ∧ wx.cell? ⟨w.heap.size, 1, none⟩ = some (.int .i64 f.start) ∧ wx.cell? ⟨w.heap.size, 2, none⟩ = some (.slice (some ⟨fb, fo, none⟩) N fc)) 10 (by kernel_rfl) (by rw [← HW.out]; exact hS0) (fun _ => ?_)
    rw [← HW.out]
    clear HW
    refine wpAnyU_take (i := 0) (v := .pointer (some ⟨w.heap.size, 0, none⟩)) rfl (by kernel_rfl) (by kernel_rfl) (by kernel_rfl) (by kernel_rfl) (fun _ _ _ h => h) (Or.inl ⟨by rfl, fun wl hSw => ?_⟩) hS0 ?_
    · (try dsimp only at hSw); go_simp
    refine wpAnyU_take (i := 1) (v := .int .i64 f.states) rfl (by kernel_rfl) (by kernel_rfl) (by kernel_rfl) (by kernel_rfl) (fun _ _ _ h => h) (Or.inl ⟨by rfl, fun wl hSw => ?_⟩) hS0 ?_
    · (try dsimp only at hSw); go_simp
    refine wpAnyU_take (i := 2) (v := .pointer (some ⟨w.heap.size, 1, none⟩)) rfl (by kernel_rfl) (by kernel_rfl) (by kernel_rfl) (by kernel_rfl) (fun _ _ _ h => h) (Or.inl ⟨by rfl, fun wl hSw => ?_⟩) hS0 ?_
    · (try dsimp only at hSw); go_simp
    refine wpAnyU_take (i := 3) (v := .int .i64 f.start) rfl (by kernel_rfl) (by kernel_rfl) (by kernel_rfl) (by kernel_rfl) (fun _ _ _ h => h) (Or.inl ⟨by rfl, fun wl hSw => ?_⟩) hS0 ?_
    · (try dsimp only at hSw); go_simp
    refine wpAnyU_take (i := 5) (v := .pointer (some ⟨w.heap.size, 2, none⟩)) rfl (by kernel_rfl) (by kernel_rfl) (by kernel_rfl) (by kernel_rfl) (fun _ _ _ h => h) (Or.inl ⟨by rfl, fun wl hSw => ?_⟩) hS0 ?_
    · (try dsimp only at hSw); go_simp
    refine wpAnyU_take (i := 6) (v := .slice (some ⟨fb, fo, none⟩) N fc) rfl (by kernel_rfl) (by kernel_rfl) (by kernel_rfl) (by kernel_rfl) (fun _ _ _ h => h) (Or.inl ⟨by rfl, fun wl hSw => ?_⟩) hS0 ?_
    · (try dsimp only at hSw); go_simp
    refine wpAnyU_two (i := 4) (j := 9) rfl rfl (by kernel_rfl) (fun K hK => ?_) (fun K hK => ?_)
    · go_simp
      have hbL := bel_up (bel_self Wd) (.cells #[] 3)
      refine hK.out _ _ ⟨fun _ => HSB.out _ hbL, ?_⟩
      clear hK K
      refine wpAnyU_two (i := 7) (j := 9) rfl rfl (by kernel_rfl) (fun K hK => ?_) (fun K hK => ?_)
      · refine if_wanted rfl (wp_append_lies _ _ _ 22 rfl Wd.heap.size 3 i0 (.int .i64 0) 1 8 Try.underlying22 hi hz0 hz1 hz2 rfl (by decide) (.slice (some ⟨Wd.heap.size, 0, none⟩) 0 0) 0 [] rfl (lit1I Wd _ (Nat.le_refl _)) ⟨fb, fo, none⟩ N fc (f.final.map (Value.int .i64)) rfl (by rw [List.length_map, HBL.out, Nat.mul_one]) (HNW.out _ hbL) (ints_ones _) (by omega) (by unfold maxLen; omega) (by omega) (by have := hbL.size; omega) _ rfl ?_)
        intro G cap w4 hown hgrow hloc hG4
        rw [Nat.zero_add, List.nil_append] at hown
        simp only [Nat.zero_add]
        have hb4 : Below Wd.heap.size Wd w4 := hbL.grown hgrow (by have := hbL.size; omega) (fun g hg => by
          have hg' : some (Wd.heap.size) = some g := hg
          injection hg' with hg'
          omega)
        refine hK.out _ _ ⟨fun _ => HSB.out _ hb4, ?_⟩
        clear hK K
        refine wpAnyU_take (i := 8) (v := .agg #[.int .i64 f.states, .int .i64 f.start, .slice (some ⟨G, 0, none⟩) N cap, .slice none 0 0]) rfl (by kernel_rfl) (by kernel_rfl) (by kernel_rfl) (by kernel_rfl) (fun _ _ _ h => h) (Or.inl ⟨by rfl, fun wl hSw => ?_⟩) (HSB.out _ hb4) ?_
        · (try dsimp only at hSw); go_simp
        refine wpAnyU_one (i := 9) rfl (by kernel_rfl) (fun K hK => ?_)
        go_simp
        have hbZ := bel_up hb4 (.cells #[.int .i64 0, .int .i64 0, .slice none 0 0, .slice none 0 0] 25)
        refine hK.out _ _ ⟨fun _ => HSB.out _ hbZ, ?_⟩
        clear hK K
        have hzP : ZBlock (w4.alloc (.cells #[.int .i64 0, .int .i64 0, .slice none 0 0, .slice none 0 0] 25)) w4.heap.size := heap_alloc_new w4 _
        obtain ⟨z0, z1, z2, z3, y0, y1, y2, y3⟩ := zfacts hzP
        have hb4' := bel_up hb4 (.cells #[.int .i64 f.states, .int .i64 f.start, .slice (some ⟨G, 0, none⟩) N cap, .slice none 0 0] 25)
        have hM : Hid (∃ P1 G1 cap1 : Nat, Value.pointer (some ⟨w4.heap.size, 0, none⟩) = .pointer (some ⟨P1, 0, none⟩) ∧ TW w (w4.alloc (.cells #[.int .i64 f.states, .int .i64 f.start, .slice (some ⟨G, 0, none⟩) N cap, .slice none 0 0] 25)) f.states f.start P1 G1 cap1 (.slice (some ⟨fb, fo, none⟩) N fc) (.slice aa m ac) N f.final) := ⟨w4.heap.size, G, cap, rfl, HTW.out _ _ _ _ hb4' (heap_alloc_new w4 _) (ownsRow_bel hown (bel_up (bel_self w4) _)) (by have := hb4.size; omega) (by omega)⟩
        refine wpAnyU_one (i := 10) rfl (by kernel_rfl) (fun K hK => ?_)
        go_simp
        refine hK.out _ _ ⟨fun h => absurd rfl h, ?_⟩
        clear hK K
        refine wpAnyU_done (by kernel_rfl) ?_ _
        refine NoPanic.normal ?_
        go_wp2
        go_meet
        case rel => exact hM.out
      · go_simp
        have hbZ := bel_up hbL (.cells #[.int .i64 0, .int .i64 0, .slice none 0 0, .slice none 0 0] 25)
        refine hK.out _ _ ⟨fun _ => HSB.out _ hbZ, ?_⟩
        clear hK K
        have hzP : ZBlock ((Wd.alloc (.cells #[] 3)).alloc (.cells #[.int .i64 0, .int .i64 0, .slice none 0 0, .slice none 0 0] 25)) (Wd.heap.size + 1) := by
          have := heap_alloc_new (Wd.alloc (.cells #[] 3)) (.cells #[.int .i64 0, .int .i64 0, .slice none 0 0, .slice none 0 0] 25)
          unfold ZBlock
          simpa using this
        refine wpAnyU_one (i := 7) rfl (by kernel_rfl) (fun K hK => ?_)
        refine if_wanted rfl (wp_append_lies _ _ _ 22 rfl Wd.heap.size 3 i0 (.int .i64 0) 1 8 Try.underlying22 hi hz0 hz1 hz2 rfl (by decide) (.slice (some ⟨Wd.heap.size, 0, none⟩) 0 0) 0 [] rfl ((lit1I Wd _ (Nat.le_refl _)).alloc _) ⟨fb, fo, none⟩ N fc (f.final.map (Value.int .i64)) rfl (by rw [List.length_map, HBL.out, Nat.mul_one]) (HNW.out _ hbZ) (ints_ones _) (by omega) (by unfold maxLen; omega) (by omega) (by have := hbZ.size; omega) _ rfl ?_)
        intro G cap w4 hown hgrow hloc hG4
        rw [Nat.zero_add, List.nil_append] at hown
        simp only [Nat.zero_add]
        have hb4 : Below Wd.heap.size Wd w4 := hbZ.grown hgrow (by have := hbZ.size; omega) (fun g hg => by
          have hg' : some (Wd.heap.size) = some g := hg
          injection hg' with hg'
          omega)
        refine hK.out _ _ ⟨fun _ => HSB.out _ hb4, ?_⟩
        clear hK K
        refine wpAnyU_take (i := 8) (v := .agg #[.int .i64 f.states, .int .i64 f.start, .slice (some ⟨G, 0, none⟩) N cap, .slice none 0 0]) rfl (by kernel_rfl) (by kernel_rfl) (by kernel_rfl) (by kernel_rfl) (fun _ _ _ h => h) (Or.inl ⟨by rfl, fun wl hSw => ?_⟩) (HSB.out _ hb4) ?_
        · (try dsimp only at hSw); go_simp
        have hPG : G ≠ Wd.heap.size + 1 := by
          rcases hloc with e | e
          · have e' : some (Wd.heap.size) = some G := e
            injection e' with e'
            omega
          · rw [e]; simp <;> omega
        have hz4 : ZBlock w4 (Wd.heap.size + 1) := (hgrow.block _ (by simp <;> omega) (by simp [Value.ownBlock])).trans hzP
        obtain ⟨z0, z1, z2, z3, y0, y1, y2, y3⟩ := zfacts hz4
        have hM : Hid (∃ P1 G1 cap1 : Nat, Value.pointer (some ⟨Wd.heap.size + 1, 0, none⟩) = .pointer (some ⟨P1, 0, none⟩) ∧ TW w (((((w4.setCell ⟨Wd.heap.size + 1, 0, none⟩ (.int .i64 f.states)).setCell ⟨Wd.heap.size + 1, 1, none⟩ (.int .i64 f.start)).setCell ⟨Wd.heap.size + 1, 2, none⟩ (.slice (some ⟨G, 0, none⟩) N cap)).setCell ⟨Wd.heap.size + 1, 3, none⟩ (.slice none 0 0))) f.states f.start P1 G1 cap1 (.slice (some ⟨fb, fo, none⟩) N fc) (.slice aa m ac) N f.final) := ⟨Wd.heap.size + 1, G, cap, rfl, HTW.out _ _ _ _ (bel_set4' hb4 (by omega) _ _ _ _) (box_set4 hz4 _ _ _ _) (row_set4 hown hPG _ _ _ _) (by omega) hPG⟩
        refine wpAnyU_one (i := 10) rfl (by kernel_rfl) (fun K hK => ?_)
        go_simp
        refine hK.out _ _ ⟨fun h => absurd rfl h, ?_⟩
        clear hK K
        refine wpAnyU_done (by kernel_rfl) ?_ _
        refine NoPanic.normal ?_
        go_wp2
        go_meet
        case rel => exact hM.out
    · go_simp
      have hbZ := bel_up (bel_self Wd) (.cells #[.int .i64 0, .int .i64 0, .slice none 0 0, .slice none 0 0] 25)
      refine hK.out _ _ ⟨fun _ => HSB.out _ hbZ, ?_⟩
      clear hK K
      refine wpAnyU_one (i := 4) rfl (by kernel_rfl) (fun K hK => ?_)
      go_simp
      have hbL := bel_up hbZ (.cells #[] 3)
      refine hK.out _ _ ⟨fun _ => HSB.out _ hbL, ?_⟩
      clear hK K
      have hzP : ZBlock ((Wd.alloc (.cells #[.int .i64 0, .int .i64 0, .slice none 0 0, .slice none 0 0] 25)).alloc (.cells #[] 3)) Wd.heap.size := heap_bel (bel_up (bel_self _) _) (heap_alloc_new Wd _)
      have hlit0 := lit1I (Wd.alloc (.cells #[.int .i64 0, .int .i64 0, .slice none 0 0, .slice none 0 0] 25)) Wd.heap.size (by simp)
      rw [one_size] at hlit0
      refine wpAnyU_one (i := 7) rfl (by kernel_rfl) (fun K hK => ?_)
      refine if_wanted rfl (wp_append_lies _ _ _ 22 rfl Wd.heap.size 3 i0 (.int .i64 0) 1 8 Try.underlying22 hi hz0 hz1 hz2 rfl (by decide) (.slice (some ⟨Wd.heap.size + 1, 0, none⟩) 0 0) 0 [] rfl hlit0 ⟨fb, fo, none⟩ N fc (f.final.map (Value.int .i64)) rfl (by rw [List.length_map, HBL.out, Nat.mul_one]) (HNW.out _ hbL) (ints_ones _) (by omega) (by unfold maxLen; omega) (by omega) (by have := hbL.size; omega) _ rfl ?_)
      intro G cap w4 hown hgrow hloc hG4
      rw [Nat.zero_add, List.nil_append] at hown
      simp only [Nat.zero_add]
      have hb4 : Below Wd.heap.size Wd w4 := hbL.grown hgrow (by have := hbL.size; omega) (fun g hg => by
        have hg' : some (Wd.heap.size + 1) = some g := hg
        injection hg' with hg'
        omega)
      refine hK.out _ _ ⟨fun _ => HSB.out _ hb4, ?_⟩
      clear hK K
      refine wpAnyU_take (i := 8) (v := .agg #[.int .i64 f.states, .int .i64 f.start, .slice (some ⟨G, 0, none⟩) N cap, .slice none 0 0]) rfl (by kernel_rfl) (by kernel_rfl) (by kernel_rfl) (by kernel_rfl) (fun _ _ _ h => h) (Or.inl ⟨by rfl, fun wl hSw => ?_⟩) (HSB.out _ hb4) ?_
      · (try dsimp only at hSw); go_simp
      have hPG : G ≠ Wd.heap.size := by
        rcases hloc with e | e
        · have e' : some (Wd.heap.size + 1) = some G := e
          injection e' with e'
          omega
        · rw [e]; simp <;> omega
      have hz4 : ZBlock w4 (Wd.heap.size) := (hgrow.block _ (by simp <;> omega) (by simp [Value.ownBlock])).trans hzP
      obtain ⟨z0, z1, z2, z3, y0, y1, y2, y3⟩ := zfacts hz4
      have hM : Hid (∃ P1 G1 cap1 : Nat, Value.pointer (some ⟨Wd.heap.size, 0, none⟩) = .pointer (some ⟨P1, 0, none⟩) ∧ TW w (((((w4.setCell ⟨Wd.heap.size, 0, none⟩ (.int .i64 f.states)).setCell ⟨Wd.heap.size, 1, none⟩ (.int .i64 f.start)).setCell ⟨Wd.heap.size, 2, none⟩ (.slice (some ⟨G, 0, none⟩) N cap)).setCell ⟨Wd.heap.size, 3, none⟩ (.slice none 0 0))) f.states f.start P1 G1 cap1 (.slice (some ⟨fb, fo, none⟩) N fc) (.slice aa m ac) N f.final) := ⟨Wd.heap.size, G, cap, rfl, HTW.out _ _ _ _ (bel_set4' hb4 (by omega) _ _ _ _) (box_set4 hz4 _ _ _ _) (row_set4 hown hPG _ _ _ _) (by omega) hPG⟩
      refine wpAnyU_one (i := 10) rfl (by kernel_rfl) (fun K hK => ?_)
      go_simp
      refine hK.out _ _ ⟨fun h => absurd rfl h, ?_⟩
      clear hK K
      refine wpAnyU_done (by kernel_rfl) ?_ _
      refine NoPanic.normal ?_
      go_wp2
      go_meet
      case rel => exact hM.out
  case rest =>
    obtain ⟨P, G, cap, rfl, hO⟩ := hcut
    rename World => w5
    have HO : Hid (TW w w5 f.states f.start P G cap (.slice (some ⟨fb, fo, none⟩) N fc) (.slice aa m ac) N f.final) := hO
    clear hO HTW HNW hS0 HSB HW hbd hsd
    go_wp2
    rcases hside with ⟨rfl, rfl⟩ | ⟨rfl, rfl⟩ | ⟨rfl, rfl⟩
    · go_loopw [6, 7] (fun t6 t7 wr => ∃ k : Nat, k ≤ m ∧ t7 = .int .i64 k ∧ wr.ownsRow w5.heap.size 63 5 t6 k (arcsV ((f.arcs.map invA).take k)) ∧ Below w5.heap.size w5 wr) (fun _ i _ => m - (intOf i).toNat)
      case atStart => exact ⟨0, Nat.zero_le _, rfl, World.ownsRow_nil _ _ _ _, bel_self _⟩
      case round =>
        obtain ⟨k, hk, rfl, hown, hb⟩ := hrel
        have hcf := HO.out.cf.below hb
        obtain ⟨q0, q1, q2, q3⟩ := hcf
        have hsz := hb.size
        by_cases hlt : k < m
        · obtain ⟨ab, aoff, rfl, hx⟩ := (HAS.out _ (bel_on HO.out.bel hb)).some (by omega)
          obtain ⟨a, hak⟩ : ∃ a, a = f.arcs.getD k a0 := ⟨_, rfl⟩
          have c0 := hx.c0 k hlt
          have c1 := hx.c1 k hlt
          have c2 := hx.c2 k hlt
          have c3 := hx.c3 k hlt
          have c4 := hx.c4 k hlt
          rw [← hak] at c0 c1 c2 c3 c4
          have HTK : Hid (arcsV ((f.arcs.map invA).take (k + 1)) = arcsV ((f.arcs.map invA).take k) ++ arcCells (invA a)) := by
            show arcsV ((f.arcs.map invA).take (k + 1)) = arcsV ((f.arcs.map invA).take k) ++ arcCells (invA a)
            rw [← arcsV_snoc, List.take_add_one, hak]
            have := HAL.out
            simp [List.getD, show k < f.arcs.length by omega]
          have hki : (k : Int) < m := by omega
          clear hak hx
          go_wp2_with (at_builtin; refine wpList_append_own _ rfl _ _ 23 rfl w5.heap.size 63 j0 _ 5 40 Try.underlying23 hj0 hj1 hj2 hj3 rfl (by decide) _ _ _ rfl ((hown.alloc _).alloc _) ⟨wr.heap.size + 1, 0, none⟩ 1 1 (arcCells (invA a)) rfl rfl (cells_new _ #[.int .i64 a.src, .int .i64 a.out, .int .i64 a.inp, .int .i64 a.dst, .int .i64 a.wt] 63 _ (by simp)) (oneCell_arc _) (by unfold maxLen; omega) (by omega) (by simp; omega) ?_; intro v' w2 hown' hgrow _)
          have hb3 : Below w5.heap.size w5 w2 := (bel_up (bel_up hb _) _).grown hgrow (by simp; omega) (fun g hg => own_base hown g hg)
          go_roundw
          case rel => exact ⟨k + 1, by omega, by go_num, by rw [HTK.out]; exact hown', hb3⟩
          case measure => simp [intOf]; omega
        · have hkn : k = m := by omega
          subst hkn
          have HML : Hid ((f.arcs.map invA).length = k) := (by rw [List.length_map]; exact HAL.out : (f.arcs.map invA).length = k)
          rw [List.take_of_length_le (Nat.le_of_eq HML.out)] at hown
          have hmap := mapped_any (f.arcs.map invA) _ wr (ownsRow_arcs (by rw [HML.out]; exact hown)) (by rw [HML.out]; exact hm) (fun b hb' => by
            obtain ⟨a, ha, rfl⟩ := List.mem_map.1 hb'
            exact HWT.out a ha)
          have hT := HO.out.below hb
          clear hown
          go_wp2_with (go_at_call 65
                       refine hmap.mono ?_
                       rintro e w6 ⟨v6, rfl, hv6, hb6⟩
                       obtain ⟨a6, n6, c6, rfl, _, _⟩ := hv6.slice.lenOf
                       have hT6 := hT.below hb6
                       have hP6 := hT6.out
                       obtain ⟨z0, z1, z2, z3, y0, y1, y2, y3⟩ := zfacts hT6.zb
                       have e0 := box_cell (k := 0) hP6 rfl
                       have e1 := box_cell (k := 1) hP6 rfl
                       have e2 := box_cell (k := 2) hP6 rfl
                       have e3 := box_cell (k := 3) hP6 rfl
                       have x3 := box_frz hP6 3
                       have hPlt := heap_lt hT.out
                       have hRlt := heap_lt hT.zb
                       have hPR : P ≠ w.heap.size + 1 := (by have := hT.gP; omega))
          have hGR : G ≠ w.heap.size + 1 := by have := own_base hT6.row G rfl; omega
          have g1 := far5 hT6.row HBL.out hv6 hPlt hRlt hT6.GP hGR (Nat.le_add_right w.heap.size 2) (by omega) (.slice a6 n6 c6) (.int .i64 f.states) (.int .i64 f.start) (.slice (some ⟨G, 0, none⟩) N cap) (.slice a6 n6 c6)
          exact bodyPost_ret (v := .agg #[.int .i64 f.states, .int .i64 f.start, .slice (some ⟨G, 0, none⟩) N cap, .slice a6 n6 c6]) (by simp [results, Try.results19, go_sem, z0, z1, z2, z3]) rfl ⟨_, _, _, _, _, _, rfl, g1.1, g1.2, bel_set4' (hT6.bel.setCell (p := ⟨P, 3, none⟩) (by have := hT.gP; show w.heap.size ≤ P; omega) _) (by omega) _ _ _ _⟩
    · go_loopw [6, 7] (fun t6 t7 wr => ∃ k : Nat, k ≤ m ∧ t7 = .int .i64 k ∧ wr.ownsRow w5.heap.size 63 5 t6 k (arcsV ((f.arcs.map inA).take k)) ∧ Below w5.heap.size w5 wr) (fun _ i _ => m - (intOf i).toNat)
      case atStart => exact ⟨0, Nat.zero_le _, rfl, World.ownsRow_nil _ _ _ _, bel_self _⟩
      case round =>
        obtain ⟨k, hk, rfl, hown, hb⟩ := hrel
        have hcf := HO.out.cf.below hb
        obtain ⟨q0, q1, q2, q3⟩ := hcf
        have hsz := hb.size
        by_cases hlt : k < m
        · obtain ⟨ab, aoff, rfl, hx⟩ := (HAS.out _ (bel_on HO.out.bel hb)).some (by omega)
          obtain ⟨a, hak⟩ : ∃ a, a = f.arcs.getD k a0 := ⟨_, rfl⟩
          have c0 := hx.c0 k hlt
          have c1 := hx.c1 k hlt
          have c2 := hx.c2 k hlt
          have c3 := hx.c3 k hlt
          have c4 := hx.c4 k hlt
          rw [← hak] at c0 c1 c2 c3 c4
          have HTK : Hid (arcsV ((f.arcs.map inA).take (k + 1)) = arcsV ((f.arcs.map inA).take k) ++ arcCells (inA a)) := by
            show arcsV ((f.arcs.map inA).take (k + 1)) = arcsV ((f.arcs.map inA).take k) ++ arcCells (inA a)
            rw [← arcsV_snoc, List.take_add_one, hak]
            have := HAL.out
            simp [List.getD, show k < f.arcs.length by omega]
          have hki : (k : Int) < m := by omega
          clear hak hx
          go_wp2_with (at_builtin; refine wpList_append_own _ rfl _ _ 23 rfl w5.heap.size 63 j0 _ 5 40 Try.underlying23 hj0 hj1 hj2 hj3 rfl (by decide) _ _ _ rfl ((hown.alloc _).alloc _) ⟨wr.heap.size + 1, 0, none⟩ 1 1 (arcCells (inA a)) rfl rfl (cells_new _ #[.int .i64 a.src, .int .i64 a.inp, .int .i64 a.inp, .int .i64 a.dst, .int .i64 a.wt] 63 _ (by simp)) (oneCell_arc _) (by unfold maxLen; omega) (by omega) (by simp; omega) ?_; intro v' w2 hown' hgrow _)
          have hb3 : Below w5.heap.size w5 w2 := (bel_up (bel_up hb _) _).grown hgrow (by simp; omega) (fun g hg => own_base hown g hg)
          go_roundw
          case rel => exact ⟨k + 1, by omega, by go_num, by rw [HTK.out]; exact hown', hb3⟩
          case measure => simp [intOf]; omega
        · have hkn : k = m := by omega
          subst hkn
          have HML : Hid ((f.arcs.map inA).length = k) := (by rw [List.length_map]; exact HAL.out : (f.arcs.map inA).length = k)
          rw [List.take_of_length_le (Nat.le_of_eq HML.out)] at hown
          have hmap := mapped_any (f.arcs.map inA) _ wr (ownsRow_arcs (by rw [HML.out]; exact hown)) (by rw [HML.out]; exact hm) (fun b hb' => by
            obtain ⟨a, ha, rfl⟩ := List.mem_map.1 hb'
            exact HWT.out a ha)
          have hT := HO.out.below hb
          clear hown
          go_wp2_with (go_at_call 65
                       refine hmap.mono ?_
                       rintro e w6 ⟨v6, rfl, hv6, hb6⟩
                       obtain ⟨a6, n6, c6, rfl, _, _⟩ := hv6.slice.lenOf
                       have hT6 := hT.below hb6
                       have hP6 := hT6.out
                       obtain ⟨z0, z1, z2, z3, y0, y1, y2, y3⟩ := zfacts hT6.zb
                       have e0 := box_cell (k := 0) hP6 rfl
                       have e1 := box_cell (k := 1) hP6 rfl
                       have e2 := box_cell (k := 2) hP6 rfl
                       have e3 := box_cell (k := 3) hP6 rfl
                       have x3 := box_frz hP6 3
                       have hPlt := heap_lt hT.out
                       have hRlt := heap_lt hT.zb
                       have hPR : P ≠ w.heap.size + 1 := (by have := hT.gP; omega))
          have hGR : G ≠ w.heap.size + 1 := by have := own_base hT6.row G rfl; omega
          have g1 := far5 hT6.row HBL.out hv6 hPlt hRlt hT6.GP hGR (Nat.le_add_right w.heap.size 2) (by omega) (.slice a6 n6 c6) (.int .i64 f.states) (.int .i64 f.start) (.slice (some ⟨G, 0, none⟩) N cap) (.slice a6 n6 c6)
          exact bodyPost_ret (v := .agg #[.int .i64 f.states, .int .i64 f.start, .slice (some ⟨G, 0, none⟩) N cap, .slice a6 n6 c6]) (by simp [results, Try.results19, go_sem, z0, z1, z2, z3]) rfl ⟨_, _, _, _, _, _, rfl, g1.1, g1.2, bel_set4' (hT6.bel.setCell (p := ⟨P, 3, none⟩) (by have := hT.gP; show w.heap.size ≤ P; omega) _) (by omega) _ _ _ _⟩
    · go_loopw [6, 7] (fun t6 t7 wr => ∃ k : Nat, k ≤ m ∧ t7 = .int .i64 k ∧ wr.ownsRow w5.heap.size 63 5 t6 k (arcsV ((f.arcs.map outA).take k)) ∧ Below w5.heap.size w5 wr) (fun _ i _ => m - (intOf i).toNat)
      case atStart => exact ⟨0, Nat.zero_le _, rfl, World.ownsRow_nil _ _ _ _, bel_self _⟩
      case round =>
        obtain ⟨k, hk, rfl, hown, hb⟩ := hrel
        have hcf := HO.out.cf.below hb
        obtain ⟨q0, q1, q2, q3⟩ := hcf
        have hsz := hb.size
        by_cases hlt : k < m
        · obtain ⟨ab, aoff, rfl, hx⟩ := (HAS.out _ (bel_on HO.out.bel hb)).some (by omega)
          obtain ⟨a, hak⟩ : ∃ a, a = f.arcs.getD k a0 := ⟨_, rfl⟩
          have c0 := hx.c0 k hlt
          have c1 := hx.c1 k hlt
          have c2 := hx.c2 k hlt
          have c3 := hx.c3 k hlt
          have c4 := hx.c4 k hlt
          rw [← hak] at c0 c1 c2 c3 c4
          have HTK : Hid (arcsV ((f.arcs.map outA).take (k + 1)) = arcsV ((f.arcs.map outA).take k) ++ arcCells (outA a)) := by
            show arcsV ((f.arcs.map outA).take (k + 1)) = arcsV ((f.arcs.map outA).take k) ++ arcCells (outA a)
            rw [← arcsV_snoc, List.take_add_one, hak]
            have := HAL.out
            simp [List.getD, show k < f.arcs.length by omega]
          have hki : (k : Int) < m := by omega
          clear hak hx
          go_wp2_with (at_builtin; refine wpList_append_own _ rfl _ _ 23 rfl w5.heap.size 63 j0 _ 5 40 Try.underlying23 hj0 hj1 hj2 hj3 rfl (by decide) _ _ _ rfl ((hown.alloc _).alloc _) ⟨wr.heap.size + 1, 0, none⟩ 1 1 (arcCells (outA a)) rfl rfl (cells_new _ #[.int .i64 a.src, .int .i64 a.out, .int .i64 a.out, .int .i64 a.dst, .int .i64 a.wt] 63 _ (by simp)) (oneCell_arc _) (by unfold maxLen; omega) (by omega) (by simp; omega) ?_; intro v' w2 hown' hgrow _)
          have hb3 : Below w5.heap.size w5 w2 := (bel_up (bel_up hb _) _).grown hgrow (by simp; omega) (fun g hg => own_base hown g hg)
          go_roundw
          case rel => exact ⟨k + 1, by omega, by go_num, by rw [HTK.out]; exact hown', hb3⟩
          case measure => simp [intOf]; omega
        · have hkn : k = m := by omega
          subst hkn
          have HML : Hid ((f.arcs.map outA).length = k) := (by rw [List.length_map]; exact HAL.out : (f.arcs.map outA).length = k)
          rw [List.take_of_length_le (Nat.le_of_eq HML.out)] at hown
          have hmap := mapped_any (f.arcs.map outA) _ wr (ownsRow_arcs (by rw [HML.out]; exact hown)) (by rw [HML.out]; exact hm) (fun b hb' => by
            obtain ⟨a, ha, rfl⟩ := List.mem_map.1 hb'
            exact HWT.out a ha)
          have hT := HO.out.below hb
          clear hown
          go_wp2_with (go_at_call 65
                       refine hmap.mono ?_
                       rintro e w6 ⟨v6, rfl, hv6, hb6⟩
                       obtain ⟨a6, n6, c6, rfl, _, _⟩ := hv6.slice.lenOf
                       have hT6 := hT.below hb6
                       have hP6 := hT6.out
                       obtain ⟨z0, z1, z2, z3, y0, y1, y2, y3⟩ := zfacts hT6.zb
                       have e0 := box_cell (k := 0) hP6 rfl
                       have e1 := box_cell (k := 1) hP6 rfl
                       have e2 := box_cell (k := 2) hP6 rfl
                       have e3 := box_cell (k := 3) hP6 rfl
                       have x3 := box_frz hP6 3
                       have hPlt := heap_lt hT.out
                       have hRlt := heap_lt hT.zb
                       have hPR : P ≠ w.heap.size + 1 := (by have := hT.gP; omega))
          have hGR : G ≠ w.heap.size + 1 := by have := own_base hT6.row G rfl; omega
          have g1 := far5 hT6.row HBL.out hv6 hPlt hRlt hT6.GP hGR (Nat.le_add_right w.heap.size 2) (by omega) (.slice a6 n6 c6) (.int .i64 f.states) (.int .i64 f.start) (.slice (some ⟨G, 0, none⟩) N cap) (.slice a6 n6 c6)
          exact bodyPost_ret (v := .agg #[.int .i64 f.states, .int .i64 f.start, .slice (some ⟨G, 0, none⟩) N cap, .slice a6 n6 c6]) (by simp [results, Try.results19, go_sem, z0, z1, z2, z3]) rfl ⟨_, _, _, _, _, _, rfl, g1.1, g1.2, bel_set4' (hT6.bel.setCell (p := ⟨P, 3, none⟩) (by have := hT.gP; show w.heap.size ≤ P; omega) _) (by omega) _ _ _ _⟩
end Go.Proofs.Yteehgcbjmdideaa
