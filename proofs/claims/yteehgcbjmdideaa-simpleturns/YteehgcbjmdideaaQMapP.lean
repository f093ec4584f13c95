/- 'Mapped' of the document's answer: the arcs in their order, of those that are the same the least weight. (Made by wip/gen/mapg.py.) -/
import Derived.Test.YteehgcbjmdideaaQAppL
import Derived.Laws.AppendOwnNone
namespace Go.Proofs.Yteehgcbjmdideaa
open Go.RowKit
attribute [local go_sem ↓] Go.wp_at_zero Go.wp_at_succ

theorem arcsV_cut (l r : List ArcD) (x : ArcD) : arcsV (l ++ x :: r) = arcsV l ++ arcCells x ++ arcsV r := by simp [arcsV]

theorem lit_kept {w w' : World} {row : Option Nat} {g : Nat} {cs : List Value} (hg : w.grownBy w' row) (h : ∀ j u, cs[j]? = some u → w.cell? ((⟨g, 0, none⟩ : Addr).add j) = some u) (hlt : g < w.heap.size) (hne : some g ≠ row) : ∀ j u, cs[j]? = some u → w'.cell? ((⟨g, 0, none⟩ : Addr).add j) = some u := by
  intro j u hj
  have := h j u hj
  rw [addr_add] at this ⊢
  exact (World.cell?_of_block (w := w) (a := ⟨g, j, none⟩) (hg.block g hlt hne)).trans this

theorem lt_take {l : List ArcD} {k : Nat} {x : ArcD} (hk : k < l.length) (hx : l.getD k a0 = x) : l.take (k + 1) = l.take k ++ [x] := by
  rw [List.take_add_one, ← hx]
  simp [List.getD, hk]

theorem ahead_down {out : List ArcD} {x y : ArcD} {p n : Nat} (h : ∀ i, p ≤ i → i < n → aheadB x (out.getD i a0) = true) (hy : out.getD (p - 1) a0 = y) (hxy : aheadB x y = true) : ∀ i, p - 1 ≤ i → i < n → aheadB x (out.getD i a0) = true := by
  intro i h1 h2
  rcases Nat.lt_or_ge i p with q | q
  · rw [show i = p - 1 by omega, hy]
    exact hxy
  · exact h i q h2
theorem cut_len {out : List ArcD} {x : ArcD} {p : Nat} (hp : p ≤ out.length) : (out.take p ++ x :: out.drop p).length = out.length + 1 := by
  rw [List.length_append, List.length_take, List.length_cons, List.length_drop]
  omega
theorem cut_behind {out : List ArcD} {x : ArcD} {p : Nat} (h : ∀ i, p ≤ i → i < out.length → aheadB x (out.getD i a0) = true) : ∀ a ∈ out.drop p, aheadB x a = true := by
  intro a ha
  obtain ⟨i, hi, rfl⟩ := List.getElem_of_mem ha
  rw [List.length_drop] at hi
  have := h (p + i) (by omega) (by omega)
  simpa [List.getD, show p + i < out.length by omega] using this
theorem cut_before {out : List ArcD} {x y : ArcD} {p : Nat} (ho : out.Pairwise (fun a b => aheadB a b = true)) (hp : p ≤ out.length) (h1 : 1 ≤ p) (hy : out.getD (p - 1) a0 = y) (hyx : aheadB y x = true) : ∀ a ∈ out.take p, aheadB a x = true := by
  intro a ha
  obtain ⟨i, hi, rfl⟩ := List.getElem_of_mem ha
  rw [List.length_take] at hi
  by_cases e : i = p - 1
  · subst e
    simp [List.getD, show p - 1 < out.length by omega] at hy
    simp [hy, hyx]
  · have := (List.pairwise_iff_getElem.1 ho) i (p - 1) (by omega) (by omega) (by omega)
    simp [List.getD, show p - 1 < out.length by omega] at hy
    rw [hy] at this
    simp only [List.getElem_take]
    exact ahead_trans this hyx

/-- another weight in the row -/
theorem row_wt {w : World} {B e g n cap : Nat} {out : List ArcD} {y : ArcD} (h : w.ownsRow B e 5 (.slice (some ⟨g, 0, none⟩) n cap) n (arcsV out)) (i : Nat) (hi : i < n) (hy : out.getD i a0 = y) (z : Int) :
    (w.setCell ⟨g, i * 5 + 4, none⟩ (.int .i64 z)).ownsRow B e 5 (.slice (some ⟨g, 0, none⟩) n cap) n (arcsV (out.set i ⟨y.src, y.inp, y.out, y.dst, z⟩)) := by
  have hl0 := h.1
  rw [arcsV_len] at hl0
  have hl : out.length = n := by omega
  obtain ⟨_, h⟩ := h
  refine ⟨by rw [arcsV_len, List.length_set]; omega, ?_⟩
  rcases h with ⟨h, _⟩ | ⟨g', cap', cur, he, hB, hh, h1, h2, h3, h4⟩
  · cases h
  · cases he
    refine Or.inr ⟨g, cap, cur.setIfInBounds (i * 5 + 4) (.int .i64 z), rfl, hB, Go.Joins.block_setCell hh _, h1, h2, by simpa using h3, ?_⟩
    rw [Array.toList_setIfInBounds, List.take_set, h4]
    apply List.ext_getElem?
    intro j
    by_cases hj : j < n * 5
    · have hg := arcsV_get (out.set i ⟨y.src, y.inp, y.out, y.dst, z⟩) (j / 5) (j % 5) (by rw [List.length_set]; omega) (by omega)
      rw [show j / 5 * 5 + j % 5 = j by omega] at hg
      rw [hg, List.getElem?_set]
      by_cases e : i * 5 + 4 = j
      · subst e
        rw [if_pos rfl, if_pos (by rw [arcsV_len]; omega), show (i * 5 + 4) / 5 = i by omega, show (i * 5 + 4) % 5 = 4 by omega]
        simp [List.getD, show i < out.length by omega, arcCells]
      · rw [if_neg e]
        have hg0 := arcsV_get out (j / 5) (j % 5) (by omega) (by omega)
        rw [show j / 5 * 5 + j % 5 = j by omega] at hg0
        rw [hg0]
        by_cases e2 : j / 5 = i
        · have hm : j % 5 < 4 := by omega
          rw [e2]
          have hs : (out.set i ⟨y.src, y.inp, y.out, y.dst, z⟩).getD i a0 = ⟨y.src, y.inp, y.out, y.dst, z⟩ := by simp [List.getD, show i < out.length by omega]
          rw [hs, hy]
          generalize j % 5 = r at hm
          match r, hm with
          | 0, _ => rfl
          | 1, _ => rfl
          | 2, _ => rfl
          | 3, _ => rfl
        · have hs : (out.set i ⟨y.src, y.inp, y.out, y.dst, z⟩).getD (j / 5) a0 = out.getD (j / 5) a0 := by simp [List.getD, Ne.symm e2]
          rw [hs]
    · rw [List.getElem?_eq_none (by rw [List.length_set, arcsV_len]; omega), List.getElem?_eq_none (by rw [arcsV_len, List.length_set]; omega)]

/-- the row so far -/
def MRow (w wr : World) (k : Nat) (v : Value) (out : List ArcD) : Prop :=
  (k = 0 ∧ v = .slice none 0 0 ∧ out = []) ∨ (1 ≤ k ∧ ∃ g n cap, v = .slice (some ⟨g, 0, none⟩) n cap ∧ out.length = n ∧ 1 ≤ n ∧ w.heap.size ≤ g ∧ wr.ownsRow w.heap.size 63 5 v n (arcsV out))

set_option maxHeartbeats 8000000 in
set_option maxRecDepth 100000 in
theorem mapped_some (ars : List ArcD) (ab aoff m ac : Nat) (w : World) (hx : ArcsAt w ab aoff m ars) (hm1 : 1 ≤ m) (hm : m ≤ 3000) (hw0 : ∀ a ∈ ars, 0 ≤ a.wt) :
    Calls Try.prog 65 #[.slice (some ⟨ab, aoff, none⟩) m ac] w fun e w' => ∃ v out, e = .returned v ∧ IsMin out ars ∧ AFrom w.heap.size w' v out ∧ Below w.heap.size w w' := by
  obtain ⟨i0, hi, hz0, hz1, hz2⟩ := info_parts Try.info63
  have HL : Hid (ars.length = m) := hx.len
  have HXA : Hid (ArcsAt w ab aoff m ars) := hx
  have HW0 : Hid (∀ a ∈ ars, 0 ≤ a.wt) := hw0
  have q : ∀ (w : World) (a : Option Addr) (n c n' c' : Nat), (binOp .eql 23 (.slice a n c) (.slice none n' c')).run Try.prog w = .ok (.bool a.isNone) w := fun w a n c n' c' => Lib.run_eql_slice_nil w _ _ a n c n' c' Try.underlying23
  clear hx hw0
  go_enter Try.func65, Try.ntmps65
  go_wp2
  go_loopw [3, 4] (fun t3 t4 wr => ∃ (k : Nat) (out : List ArcD), k ≤ m ∧ t4 = .int .i64 k ∧ IsMin out (ars.take k) ∧ out.length ≤ k ∧ MRow w wr k t3 out ∧ Below w.heap.size w wr) (fun _ i _ => m - (intOf i).toNat)
  case atStart => exact ⟨0, [], Nat.zero_le _, rfl, ⟨List.Pairwise.nil, fun a => by simp⟩, Nat.le_refl _, Or.inl ⟨rfl, rfl, rfl⟩, bel_self _⟩
  case round =>
    obtain ⟨k, out, hk, rfl, hmin, hlen, hrow, hb⟩ := hrel
    have HM : Hid (IsMin out (ars.take k)) := hmin
    clear hmin
    obtain ⟨wo, hwo⟩ : ∃ wo, wo = wr := ⟨_, rfl⟩
    subst hwo
    by_cases hlt : k < m
    · have hki : (k : Int) < m := by omega
      obtain ⟨x, hxk⟩ : ∃ x, ars.getD k a0 = x := ⟨_, rfl⟩
      have HXK : Hid (ars.getD k a0 = x) := hxk
      clear hxk
      rcases hrow with ⟨hk0, rfl, rfl⟩ | ⟨hk1, g, n, cap, rfl, hon, hn1, hg, hown⟩
      · have HK0 : Hid (k = 0) := hk0
        clear hk0
        have HW : Hid (∀ W, Below wo.heap.size wo W → ArcsAt W ab aoff m ars ∧ True) := fun W h => ⟨(HXA.out.below hb).below h, trivial⟩
        have hbs := hb.size
        have HIN : Hid (IsMin [x] (ars.take (k + 1))) := by
          show IsMin [x] (ars.take (k + 1))
          rw [lt_take (by rw [HL.out]; exact hlt) HXK.out]
          exact HM.out.insert (k := 0) (fun a ha => by simp at ha) (fun a ha => by simp at ha)
        have HLEN : Hid ([x].length ≤ k + 1 ∧ [x].length = 1) := ⟨by simp, rfl⟩
        go_wp2
        go_loopw [5] (fun t5 wx => t5 = .int .i64 0 ∧ Below wo.heap.size wo wx) (fun _ _ => 0)
        case atStart => exact ⟨rfl, bel_self _⟩
        case round =>
          obtain ⟨rfl, hb1⟩ := hrel
          go_wp2
          go_quiet (fail)
          obtain ⟨W1, hqW1⟩ : ∃ W, W = wr.drewN nq := ⟨_, rfl⟩
          rw [← hqW1]
          have hbW1 : Below wo.heap.size wo W1 := by rw [hqW1]; exact bel_drewN hb1 _
          clear hqW1
          go_wp2
          go_quiet (fail)
          obtain ⟨W2, hqW2⟩ : ∃ W, W = W1.drewN nq := ⟨_, rfl⟩
          rw [← hqW2]
          have hbW2 : Below wo.heap.size wo W2 := by rw [hqW2]; exact bel_drewN hbW1 _
          clear hqW2
          go_wp2_with (at_builtin; refine wpList_append_own_none rfl _ _ 23 rfl W2.heap.size 63 i0 5 Try.underlying23 hi _ 0 [] rfl (World.ownsRow_made W2 #[] 0 (Nat.le_refl _) (Nat.zero_le _) rfl) rfl ?_)
          have hbR : Below W2.heap.size W2 (W2.alloc (.cells #[] 63)) := bel_up (bel_self W2) _
          have hownR : (W2.alloc (.cells #[] 63)).ownsRow W2.heap.size 63 5 (.slice (some ⟨W2.heap.size, 0, none⟩) 0 0) 0 [] := World.ownsRow_made W2 #[] 0 (Nat.le_refl _) (Nat.zero_le _) rfl
          obtain ⟨gR, hgR⟩ : ∃ gR, gR = W2.heap.size := ⟨_, rfl⟩
          obtain ⟨wR, hw2⟩ : ∃ wq, wq = W2.alloc (.cells #[] 63) := ⟨_, rfl⟩
          rw [← hgR] at hownR
          rw [← hgR, ← hw2]
          rw [← hw2] at hbR hownR
          have hown0 : wR.ownsRow gR 63 5 (.slice (some ⟨gR, 0, none⟩) 0 0) 0 [] := hownR
          clear hw2 hgR hownR
          have HB2 : Hid (Below wo.heap.size wo wR) := bel_on hbW2 hbR
          obtain ⟨Wd, hWd⟩ : ∃ Wd, Wd = wR.drew := ⟨_, rfl⟩
          have HWd : Hid (Below wo.heap.size wo Wd ∧ wo.heap.size ≤ Wd.heap.size ∧ Wd.ownsRow gR 63 5 (.slice (some ⟨gR, 0, none⟩) 0 0) 0 ([])) := by
            rw [hWd]
            exact ⟨HB2.out.drew, HB2.out.size, ownsRow_bel hown0 (bel_self _).drew⟩
          have hxs := (HW.out Wd HWd.out.1).1
          have x0 := hxs.c0 k hlt
          have x1 := hxs.c1 k hlt
          have x2 := hxs.c2 k hlt
          have x3 := hxs.c3 k hlt
          have x4 := hxs.c4 k hlt
          rw [HXK.out] at x0 x1 x2 x3 x4
          have hS0 : (fun wx : World => wx.cell? ⟨ab, aoff + k * 5, none⟩ = some (.int .i64 x.src) ∧ wx.cell? ⟨ab, aoff + k * 5 + 1, none⟩ = some (.int .i64 x.inp) ∧ wx.cell? ⟨ab, aoff + k * 5 + 2, none⟩ = some (.int .i64 x.out) ∧ wx.cell? ⟨ab, aoff + k * 5 + 3, none⟩ = some (.int .i64 x.dst) ∧ wx.cell? ⟨ab, aoff + k * 5 + 4, none⟩ = some (.int .i64 x.wt)) Wd := ⟨x0, x1, x2, x3, x4⟩
          have HSB : Hid (∀ wx : World, Below Wd.heap.size Wd wx → (fun wx : World => wx.cell? ⟨ab, aoff + k * 5, none⟩ = some (.int .i64 x.src) ∧ wx.cell? ⟨ab, aoff + k * 5 + 1, none⟩ = some (.int .i64 x.inp) ∧ wx.cell? ⟨ab, aoff + k * 5 + 2, none⟩ = some (.int .i64 x.out) ∧ wx.cell? ⟨ab, aoff + k * 5 + 3, none⟩ = some (.int .i64 x.dst) ∧ wx.cell? ⟨ab, aoff + k * 5 + 4, none⟩ = some (.int .i64 x.wt)) wx) := fun wx hb => ⟨bel_c hb x0, bel_c hb x1, bel_c hb x2, bel_c hb x3, bel_c hb x4⟩
          have HRS : Hid (∀ wx : World, Below Wd.heap.size Wd wx → SrcAt wx 5 (.slice (some ⟨gR, 0, none⟩) 0 0) 0 ([])) := fun wx hb => Or.inr ⟨_, _, rfl, rfl, fun j u hj => (ownsRow_bel HWd.out.2.2 hb).cells (g := gR) rfl j u hj⟩
          have HTS : Hid (∀ wx : World, Below Wd.heap.size Wd wx → SrcAt wx 5 (.slice none 0 0) 0 []) := fun wx hb => Or.inl ⟨rfl, rfl, rfl⟩
          have HFIN : Hid ((([] ++ arcCells x ++ [])) = arcsV [x] ∧ (0 + 1 + 0) = 1) := ⟨by simp [arcsV], by omega⟩
          have HWD : Hid (Wd = wR.drew) := hWd
          have hWs : W2.heap.size ≤ Wd.heap.size := by rw [hWd]; exact hbR.size
          clear hWd hown0 hbR x0 x1 x2 x3 x4 hxs
          refine wp_region_noPanic ?_
          refine wp_region_U (fun wx : World => wx.cell? ⟨ab, aoff + k * 5, none⟩ = some (.int .i64 x.src) ∧ wx.cell? ⟨ab, aoff + k * 5 + 1, none⟩ = some (.int .i64 x.inp) ∧ wx.cell? ⟨ab, aoff + k * 5 + 2, none⟩ = some (.int .i64 x.out) ∧ wx.cell? ⟨ab, aoff + k * 5 + 3, none⟩ = some (.int .i64 x.dst) ∧ wx.cell? ⟨ab, aoff + k * 5 + 4, none⟩ = some (.int .i64 x.wt)) 13 (by kernel_rfl) (by rw [← HWD.out]; exact hS0) (fun _ => ?_)
          rw [← HWD.out]
          clear HWD
          refine wpAnyU_take (i := 1) (v := .slice none 0 0) rfl (by kernel_rfl) (by kernel_rfl) (by kernel_rfl) (by kernel_rfl) (fun _ _ _ h => h) (Or.inl ⟨by rfl, fun wl hSw => ?_⟩) hS0 ?_
          · (try dsimp only at hSw); go_simp
          refine wpAnyU_take (i := 2) (v := .int .i64 0) rfl (by kernel_rfl) (by kernel_rfl) (by kernel_rfl) (by kernel_rfl) (fun _ _ _ h => h) (Or.inl ⟨by rfl, fun wl hSw => ?_⟩) hS0 ?_
          · (try dsimp only at hSw); go_simp
          refine wpAnyU_take (i := 3) (v := .slice none 0 0) rfl (by kernel_rfl) (by kernel_rfl) (by kernel_rfl) (by kernel_rfl) (fun _ _ _ h => h) (Or.inl ⟨by rfl, fun wl hSw => ?_⟩) hS0 ?_
          · (try dsimp only at hSw); go_simp
          refine wpAnyU_take (i := 5) (v := .slice (some ⟨ab, aoff, none⟩) m ac) rfl (by kernel_rfl) (by kernel_rfl) (by kernel_rfl) (by kernel_rfl) (fun _ _ _ h => h) (Or.inl ⟨by rfl, fun wl hSw => ?_⟩) hS0 ?_
          · (try dsimp only at hSw); go_simp
          refine wpAnyU_take (i := 6) (v := .int .i64 k) rfl (by kernel_rfl) (by kernel_rfl) (by kernel_rfl) (by kernel_rfl) (fun _ _ _ h => h) (Or.inl ⟨by rfl, fun wl hSw => ?_⟩) hS0 ?_
          · (try dsimp only at hSw); go_simp
          refine wpAnyU_take (i := 7) (v := .pointer (some ⟨ab, aoff + k * 5, none⟩)) rfl (by kernel_rfl) (by kernel_rfl) (by kernel_rfl) (by kernel_rfl) (fun _ _ _ h => h) (Or.inl ⟨by rfl, fun wl hSw => ?_⟩) hS0 ?_
          · (try dsimp only at hSw); go_simp
          refine wpAnyU_take (i := 8) (v := .agg #[.int .i64 x.src, .int .i64 x.inp, .int .i64 x.out, .int .i64 x.dst, .int .i64 x.wt]) rfl (by kernel_rfl) (by kernel_rfl) (by kernel_rfl) (by kernel_rfl) (fun _ _ _ h => h) (Or.inl ⟨by rfl, fun wl hSw => ?_⟩) hS0 ?_
          · (try dsimp only at hSw); go_simp
          refine wpAnyU_take (i := 11) (v := .slice (some ⟨gR, 0, none⟩) 0 0) rfl (by kernel_rfl) (by kernel_rfl) (by kernel_rfl) (by kernel_rfl) (fun _ _ _ h => h) (Or.inl ⟨by rfl, fun wl hSw => ?_⟩) hS0 ?_
          · (try dsimp only at hSw); go_simp
          refine wpAnyU_two (i := 0) (j := 9) rfl rfl (by kernel_rfl) (fun K hK => ?_) (fun K hK => ?_)
          · go_simp
            have hbL := bel_up (bel_self Wd) (.cells #[] 63)
            refine hK.out _ _ ⟨fun _ => HSB.out _ hbL, ?_⟩
            clear hK K
            refine wpAnyU_two (i := 4) (j := 9) rfl rfl (by kernel_rfl) (fun K hK => ?_) (fun K hK => ?_)
            · refine if_wanted rfl (wp_app _ _ 23 rfl Wd.heap.size 63 i0 _ 5 40 Try.underlying23 hi hz0 hz1 hz2 rfl (by decide) (.slice (some ⟨Wd.heap.size, 0, none⟩) 0 0) 0 [] rfl (lit1A Wd _ (Nat.le_refl _)) (.slice none 0 0) 0 ([]) rfl (HTS.out _ hbL) (fun u hu => absurd hu (by simp)) (by unfold maxLen; omega) (by omega) (by simp <;> omega) ?_)
              intro v4 w4 hown4 hgrow4 hne4
              rw [Nat.zero_add, List.nil_append] at hown4
              have hne4' := hne4 (by simp)
              clear hne4
              have hb4 : Below Wd.heap.size Wd w4 := hbL.grown hgrow4 (by simp) (fun g' hg' => by have hg'' : some Wd.heap.size = some g' := hg'; injection hg'' with hg''; omega)
              refine hK.out _ _ ⟨fun _ => HSB.out _ hb4, ?_⟩
              clear hK K hgrow4
              refine wpAnyU_one (i := 9) rfl (by kernel_rfl) (fun K hK => ?_)
              go_simp
              have hb9 := bel_up hb4 (.cells #[.int .i64 x.src, .int .i64 x.inp, .int .i64 x.out, .int .i64 x.dst, .int .i64 x.wt] 63)
              refine hK.out _ _ ⟨fun _ => HSB.out _ hb9, ?_⟩
              clear hK K
              have hown9 := hown4.alloc (.cells #[.int .i64 x.src, .int .i64 x.inp, .int .i64 x.out, .int .i64 x.dst, .int .i64 x.wt] 63)
              refine wpAnyU_one (i := 10) rfl (by kernel_rfl) (fun K hK => ?_)
              refine if_wanted rfl (wp_app _ _ 23 rfl Wd.heap.size 63 i0 _ 5 40 Try.underlying23 hi hz0 hz1 hz2 rfl (by decide) v4 0 ([]) rfl hown9 (.slice (some ⟨w4.heap.size, 0, none⟩) 1 1) 1 (arcCells x) rfl (Or.inr ⟨_, _, rfl, rfl, cells_new w4 #[.int .i64 x.src, .int .i64 x.inp, .int .i64 x.out, .int .i64 x.dst, .int .i64 x.wt] 63 _ rfl⟩) (oneCell_arc x) (by unfold maxLen; omega) (by omega) (by have := hb9.size; omega) ?_)
              intro v10 w10 hown10 hgrow10 hne10
              have hb10 : Below Wd.heap.size Wd w10 := hb9.grown hgrow10 (by have := hb9.size; omega) (fun g' hg' => own_base hown9 g' hg')
              refine hK.out _ _ ⟨fun _ => HSB.out _ hb10, ?_⟩
              clear hK K
              refine wpAnyU_one (i := 12) rfl (by kernel_rfl) (fun K hK => ?_)
              refine if_wanted rfl (wp_app _ _ 23 rfl Wd.heap.size 63 i0 _ 5 40 Try.underlying23 hi hz0 hz1 hz2 rfl (by decide) v10 (0 + 1) ([] ++ arcCells x) rfl hown10 (.slice (some ⟨gR, 0, none⟩) 0 0) 0 ([]) rfl (HRS.out _ hb10) (fun u hu => absurd hu (by simp)) (by unfold maxLen; omega) (by omega) (by have := hb10.size; omega) ?_)
              intro v12 w12 hown12 hgrow12 hne12
              have hb12 : Below Wd.heap.size Wd w12 := hb10.grown hgrow12 (by have := hb10.size; omega) (fun g' hg' => own_base hown10 g' hg')
              refine hK.out _ _ ⟨fun _ => HSB.out _ hb12, ?_⟩
              clear hK K
              have hne := hne12 (hne10 hne4')
              rw [HFIN.out.1, HFIN.out.2] at hown12
              obtain ⟨g', cap', hv12, hg'⟩ := own_some hown12 hne
              subst hv12
              have hM : Hid (w.heap.size ≤ g' ∧ w12.ownsRow w.heap.size 63 5 (.slice (some ⟨g', 0, none⟩) 1 cap') 1 (arcsV [x]) ∧ Below wo.heap.size wo w12) := ⟨by have := HWd.out.2.1; omega, own_mono hown12 (by have := HWd.out.2.1; omega), bel_on HWd.out.1 hb12⟩
              clear hown12 hgrow12 hne12 hown10 hgrow10 hne10 hne hne4'
              refine wpAnyU_one (i := 13) rfl (by kernel_rfl) (fun K hK => ?_)
              go_simp
              refine hK.out _ _ ⟨fun h => absurd rfl h, ?_⟩
              clear hK K
              refine wpAnyU_done (by kernel_rfl) ?_ _
              refine NoPanic.normal ?_
              go_wp2
              go_roundw
              case rel => exact ⟨k + 1, [x], by omega, by go_num, HIN.out, HLEN.out.1, Or.inr ⟨by omega, g', 1, cap', rfl, HLEN.out.2, by omega, hM.out.1, hM.out.2.1⟩, bel_on hb hM.out.2.2⟩
              case measure => simp [intOf]; omega
            · go_simp
              have hb9 := bel_up hbL (.cells #[.int .i64 x.src, .int .i64 x.inp, .int .i64 x.out, .int .i64 x.dst, .int .i64 x.wt] 63)
              refine hK.out _ _ ⟨fun _ => HSB.out _ hb9, ?_⟩
              clear hK K
              refine wpAnyU_one (i := 4) rfl (by kernel_rfl) (fun K hK => ?_)
              refine if_wanted rfl (wp_app _ _ 23 rfl Wd.heap.size 63 i0 _ 5 40 Try.underlying23 hi hz0 hz1 hz2 rfl (by decide) (.slice (some ⟨Wd.heap.size, 0, none⟩) 0 0) 0 [] rfl ((lit1A Wd _ (Nat.le_refl _)).alloc _) (.slice none 0 0) 0 ([]) rfl (HTS.out _ hb9) (fun u hu => absurd hu (by simp)) (by unfold maxLen; omega) (by omega) (by simp <;> omega) ?_)
              intro v4 w4 hown4 hgrow4 hne4
              rw [Nat.zero_add, List.nil_append] at hown4
              have hne4' := hne4 (by simp)
              clear hne4
              have hb4 : Below Wd.heap.size Wd w4 := hb9.grown hgrow4 (by simp <;> omega) (fun g' hg' => by have hg'' : some Wd.heap.size = some g' := hg'; injection hg'' with hg''; omega)
              have hlit : ∀ j u, (arcCells x)[j]? = some u → w4.cell? ((⟨Wd.heap.size + 1, 0, none⟩ : Addr).add j) = some u := lit_kept hgrow4 (cells_new (Wd.alloc (.cells #[] 63)) #[.int .i64 x.src, .int .i64 x.inp, .int .i64 x.out, .int .i64 x.dst, .int .i64 x.wt] 63 (Wd.heap.size + 1) (by simp)) (by simp) (by simp [Value.ownBlock])
              refine hK.out _ _ ⟨fun _ => HSB.out _ hb4, ?_⟩
              clear hK K hgrow4
              refine wpAnyU_one (i := 10) rfl (by kernel_rfl) (fun K hK => ?_)
              refine if_wanted rfl (wp_app _ _ 23 rfl Wd.heap.size 63 i0 _ 5 40 Try.underlying23 hi hz0 hz1 hz2 rfl (by decide) v4 0 ([]) rfl hown4 (.slice (some ⟨Wd.heap.size + 1, 0, none⟩) 1 1) 1 (arcCells x) rfl (Or.inr ⟨_, _, rfl, rfl, hlit⟩) (oneCell_arc x) (by unfold maxLen; omega) (by omega) (by have := hb4.size; omega) ?_)
              intro v10 w10 hown10 hgrow10 hne10
              have hb10 : Below Wd.heap.size Wd w10 := hb4.grown hgrow10 (by have := hb4.size; omega) (fun g' hg' => own_base hown4 g' hg')
              refine hK.out _ _ ⟨fun _ => HSB.out _ hb10, ?_⟩
              clear hK K
              refine wpAnyU_one (i := 12) rfl (by kernel_rfl) (fun K hK => ?_)
              refine if_wanted rfl (wp_app _ _ 23 rfl Wd.heap.size 63 i0 _ 5 40 Try.underlying23 hi hz0 hz1 hz2 rfl (by decide) v10 (0 + 1) ([] ++ arcCells x) rfl hown10 (.slice (some ⟨gR, 0, none⟩) 0 0) 0 ([]) rfl (HRS.out _ hb10) (fun u hu => absurd hu (by simp)) (by unfold maxLen; omega) (by omega) (by have := hb10.size; omega) ?_)
              intro v12 w12 hown12 hgrow12 hne12
              have hb12 : Below Wd.heap.size Wd w12 := hb10.grown hgrow12 (by have := hb10.size; omega) (fun g' hg' => own_base hown10 g' hg')
              refine hK.out _ _ ⟨fun _ => HSB.out _ hb12, ?_⟩
              clear hK K
              have hne := hne12 (hne10 hne4')
              rw [HFIN.out.1, HFIN.out.2] at hown12
              obtain ⟨g', cap', hv12, hg'⟩ := own_some hown12 hne
              subst hv12
              have hM : Hid (w.heap.size ≤ g' ∧ w12.ownsRow w.heap.size 63 5 (.slice (some ⟨g', 0, none⟩) 1 cap') 1 (arcsV [x]) ∧ Below wo.heap.size wo w12) := ⟨by have := HWd.out.2.1; omega, own_mono hown12 (by have := HWd.out.2.1; omega), bel_on HWd.out.1 hb12⟩
              clear hown12 hgrow12 hne12 hown10 hgrow10 hne10 hne hne4'
              refine wpAnyU_one (i := 13) rfl (by kernel_rfl) (fun K hK => ?_)
              go_simp
              refine hK.out _ _ ⟨fun h => absurd rfl h, ?_⟩
              clear hK K
              refine wpAnyU_done (by kernel_rfl) ?_ _
              refine NoPanic.normal ?_
              go_wp2
              go_roundw
              case rel => exact ⟨k + 1, [x], by omega, by go_num, HIN.out, HLEN.out.1, Or.inr ⟨by omega, g', 1, cap', rfl, HLEN.out.2, by omega, hM.out.1, hM.out.2.1⟩, bel_on hb hM.out.2.2⟩
              case measure => simp [intOf]; omega
          · go_simp
            have hbZ := bel_up (bel_self Wd) (.cells #[.int .i64 x.src, .int .i64 x.inp, .int .i64 x.out, .int .i64 x.dst, .int .i64 x.wt] 63)
            refine hK.out _ _ ⟨fun _ => HSB.out _ hbZ, ?_⟩
            clear hK K
            refine wpAnyU_one (i := 0) rfl (by kernel_rfl) (fun K hK => ?_)
            go_simp
            have hb9 := bel_up hbZ (.cells #[] 63)
            refine hK.out _ _ ⟨fun _ => HSB.out _ hb9, ?_⟩
            clear hK K
            have hlit0 := lit1A (Wd.alloc (.cells #[.int .i64 x.src, .int .i64 x.inp, .int .i64 x.out, .int .i64 x.dst, .int .i64 x.wt] 63)) Wd.heap.size (by simp)
            rw [one_size] at hlit0
            refine wpAnyU_one (i := 4) rfl (by kernel_rfl) (fun K hK => ?_)
            refine if_wanted rfl (wp_app _ _ 23 rfl Wd.heap.size 63 i0 _ 5 40 Try.underlying23 hi hz0 hz1 hz2 rfl (by decide) (.slice (some ⟨Wd.heap.size + 1, 0, none⟩) 0 0) 0 [] rfl hlit0 (.slice none 0 0) 0 ([]) rfl (HTS.out _ hb9) (fun u hu => absurd hu (by simp)) (by unfold maxLen; omega) (by omega) (by simp <;> omega) ?_)
            intro v4 w4 hown4 hgrow4 hne4
            rw [Nat.zero_add, List.nil_append] at hown4
            have hne4' := hne4 (by simp)
            clear hne4
            have hb4 : Below Wd.heap.size Wd w4 := hb9.grown hgrow4 (by simp <;> omega) (fun g' hg' => by have hg'' : some (Wd.heap.size + 1) = some g' := hg'; injection hg'' with hg''; omega)
            have hlit : ∀ j u, (arcCells x)[j]? = some u → w4.cell? ((⟨Wd.heap.size, 0, none⟩ : Addr).add j) = some u := lit_kept hgrow4 (fun j u hj => Lib.cell?_alloc_some _ (cells_new Wd #[.int .i64 x.src, .int .i64 x.inp, .int .i64 x.out, .int .i64 x.dst, .int .i64 x.wt] 63 _ rfl j u hj)) (by simp <;> omega) (by simp [Value.ownBlock])
            refine hK.out _ _ ⟨fun _ => HSB.out _ hb4, ?_⟩
            clear hK K hgrow4
            refine wpAnyU_one (i := 10) rfl (by kernel_rfl) (fun K hK => ?_)
            refine if_wanted rfl (wp_app _ _ 23 rfl Wd.heap.size 63 i0 _ 5 40 Try.underlying23 hi hz0 hz1 hz2 rfl (by decide) v4 0 ([]) rfl hown4 (.slice (some ⟨Wd.heap.size, 0, none⟩) 1 1) 1 (arcCells x) rfl (Or.inr ⟨_, _, rfl, rfl, hlit⟩) (oneCell_arc x) (by unfold maxLen; omega) (by omega) (by have := hb4.size; omega) ?_)
            intro v10 w10 hown10 hgrow10 hne10
            have hb10 : Below Wd.heap.size Wd w10 := hb4.grown hgrow10 (by have := hb4.size; omega) (fun g' hg' => own_base hown4 g' hg')
            refine hK.out _ _ ⟨fun _ => HSB.out _ hb10, ?_⟩
            clear hK K
            refine wpAnyU_one (i := 12) rfl (by kernel_rfl) (fun K hK => ?_)
            refine if_wanted rfl (wp_app _ _ 23 rfl Wd.heap.size 63 i0 _ 5 40 Try.underlying23 hi hz0 hz1 hz2 rfl (by decide) v10 (0 + 1) ([] ++ arcCells x) rfl hown10 (.slice (some ⟨gR, 0, none⟩) 0 0) 0 ([]) rfl (HRS.out _ hb10) (fun u hu => absurd hu (by simp)) (by unfold maxLen; omega) (by omega) (by have := hb10.size; omega) ?_)
            intro v12 w12 hown12 hgrow12 hne12
            have hb12 : Below Wd.heap.size Wd w12 := hb10.grown hgrow12 (by have := hb10.size; omega) (fun g' hg' => own_base hown10 g' hg')
            refine hK.out _ _ ⟨fun _ => HSB.out _ hb12, ?_⟩
            clear hK K
            have hne := hne12 (hne10 hne4')
            rw [HFIN.out.1, HFIN.out.2] at hown12
            obtain ⟨g', cap', hv12, hg'⟩ := own_some hown12 hne
            subst hv12
            have hM : Hid (w.heap.size ≤ g' ∧ w12.ownsRow w.heap.size 63 5 (.slice (some ⟨g', 0, none⟩) 1 cap') 1 (arcsV [x]) ∧ Below wo.heap.size wo w12) := ⟨by have := HWd.out.2.1; omega, own_mono hown12 (by have := HWd.out.2.1; omega), bel_on HWd.out.1 hb12⟩
            clear hown12 hgrow12 hne12 hown10 hgrow10 hne10 hne hne4'
            refine wpAnyU_one (i := 13) rfl (by kernel_rfl) (fun K hK => ?_)
            go_simp
            refine hK.out _ _ ⟨fun h => absurd rfl h, ?_⟩
            clear hK K
            refine wpAnyU_done (by kernel_rfl) ?_ _
            refine NoPanic.normal ?_
            go_wp2
            go_roundw
            case rel => exact ⟨k + 1, [x], by omega, by go_num, HIN.out, HLEN.out.1, Or.inr ⟨by omega, g', 1, cap', rfl, HLEN.out.2, by omega, hM.out.1, hM.out.2.1⟩, bel_on hb hM.out.2.2⟩
            case measure => simp [intOf]; omega
      · have HOL : Hid (out.length = n) := hon
        have hcap := (ARow.of hown).2
        have HW : Hid (∀ W, Below wo.heap.size wo W → ArcsAt W ab aoff m ars ∧ W.ownsRow w.heap.size 63 5 (.slice (some ⟨g, 0, none⟩) n cap) n (arcsV out)) := fun W h => ⟨(HXA.out.below hb).below h, ownsRow_bel hown h⟩
        have hbs := hb.size
        have hnk : n ≤ k := by omega
        have hgl : w.heap.size ≤ g := hg
        clear hon hown
        go_wp2
        go_loopw [5] (fun t5 wx => ∃ p : Nat, p ≤ n ∧ t5 = .int .i64 p ∧ (∀ i, p ≤ i → i < n → aheadB x (out.getD i a0) = true) ∧ Below wo.heap.size wo wx) (fun t5 _ => (intOf t5).toNat)
        case atStart => exact ⟨n, Nat.le_refl _, rfl, fun i h1 h2 => absurd h2 (by omega), bel_self _⟩
        case round =>
          obtain ⟨p, hpn, rfl, hall, hb1⟩ := hrel
          have HA : Hid (∀ i, p ≤ i → i < n → aheadB x (out.getD i a0) = true) := hall
          clear hall
          by_cases hp0 : p = 0
          · have hd : decide (0 < p) = false := by simp; omega
            have hd2 : ¬ (0 : Int) < p := by omega
            have hd3 : (p : Int) ≤ 0 := by omega
            have HIN : Hid (IsMin (out.take p ++ x :: out.drop p) (ars.take (k + 1))) := by
              show IsMin _ (ars.take (k + 1))
              rw [lt_take (by rw [HL.out]; exact hlt) HXK.out]
              exact HM.out.insert (k := p) (fun a ha => by rw [hp0] at ha; simp at ha) (cut_behind (by rw [HOL.out]; exact HA.out))
            have HLEN : Hid ((out.take p ++ x :: out.drop p).length ≤ k + 1 ∧ (out.take p ++ x :: out.drop p).length = n + 1) := (by rw [cut_len (by rw [HOL.out]; omega), HOL.out]; exact ⟨by omega, rfl⟩ : (out.take p ++ x :: out.drop p).length ≤ k + 1 ∧ (out.take p ++ x :: out.drop p).length = n + 1)
            have HP0 : Hid (p = 0) := hp0
            clear hp0
            go_wp2
            go_quiet (fail)
            obtain ⟨W1, hqW1⟩ : ∃ W, W = wr.drewN nq := ⟨_, rfl⟩
            rw [← hqW1]
            have hbW1 : Below wo.heap.size wo W1 := by rw [hqW1]; exact bel_drewN hb1 _
            clear hqW1
            go_wp2
            go_quiet (fail)
            obtain ⟨W2, hqW2⟩ : ∃ W, W = W1.drewN nq := ⟨_, rfl⟩
            rw [← hqW2]
            have hbW2 : Below wo.heap.size wo W2 := by rw [hqW2]; exact bel_drewN hbW1 _
            clear hqW2
            have hown0 := (HW.out W2 hbW2).2
            have hsrcR := row_src hown0 p (n - p) (by omega)
            rw [List.take_of_length_le (by rw [List.length_drop, HOL.out]; exact Nat.le_refl _)] at hsrcR
            have HLD : Hid ((arcsV (out.drop p)).length = (n - p) * 5) := (by rw [arcsV_len, List.length_drop, HOL.out] : (arcsV (out.drop p)).length = (n - p) * 5)
            have HTK : Hid ((arcsV (out.take p)).length = p * 5) := (by rw [arcsV_len, List.length_take, HOL.out, Nat.min_eq_left (by omega)] : (arcsV (out.take p)).length = p * 5)
            have HSR : Hid (∀ j u, (arcsV (out.drop p))[j]? = some u → W2.cell? ((⟨g, p * 5, none⟩ : Addr).add j) = some u) := hsrcR
            clear hsrcR hown0
            have hcapn := hcap
            have hai : (p : Int) ≤ n := by omega
            have hac : p ≤ cap := by omega
            have hatn : p ≤ n := by omega
            by_cases hca : cap = p
            · exfalso
              have := HP0.out
              omega
            · have hcb : ¬ p = cap := fun e => hca e.symm
              go_wp2_with (at_builtin; refine wpList_append_own _ rfl _ _ 23 rfl W2.heap.size 63 i0 _ 5 40 Try.underlying23 hi hz0 hz1 hz2 rfl (by decide) _ _ _ rfl (World.ownsRow_made W2 #[] 0 (Nat.le_refl _) (Nat.zero_le _) rfl) ⟨g, p * 5, none⟩ (n - p) _ (arcsV (out.drop p)) rfl HLD.out (fun j u hj => Lib.cell?_alloc_some _ (HSR.out j u hj)) (arcsV_one _) (by unfold maxLen; omega) (by omega) (by simp) ?_; intro vR wR hownR0 hgrowR hnilR)
              obtain ⟨gR, capR, hvR, hgR⟩ := own_some hownR0 (fun e => by have q : Value.slice (some ⟨W2.heap.size, 0, none⟩) 0 0 = Value.slice none 0 0 := (hnilR.1 e).1; cases q)
              subst hvR
              have hbR : Below W2.heap.size W2 wR := ((Below.refl _ W2).alloc (Nat.le_refl _) _).grown hgrowR (by simp) (fun g' hg' => by have hg'' : some W2.heap.size = some g' := hg'; injection hg'' with hg''; omega)
              rw [List.nil_append, Nat.zero_add] at hownR0
              have hown0 : wR.ownsRow W2.heap.size 63 5 (.slice (some ⟨gR, 0, none⟩) (n - p) capR) (n - p) (arcsV (out.drop p)) := hownR0
              clear hownR0 hgrowR hnilR
              have HB2 : Hid (Below wo.heap.size wo wR) := bel_on hbW2 hbR
              obtain ⟨Wd, hWd⟩ : ∃ Wd, Wd = wR.drew := ⟨_, rfl⟩
              have HWd : Hid (Below wo.heap.size wo Wd ∧ wo.heap.size ≤ Wd.heap.size ∧ Wd.ownsRow W2.heap.size 63 5 (.slice (some ⟨gR, 0, none⟩) (n - p) capR) (n - p) (arcsV (out.drop p))) := by
                rw [hWd]
                exact ⟨HB2.out.drew, HB2.out.size, ownsRow_bel hown0 (bel_self _).drew⟩
              have hxs := (HW.out Wd HWd.out.1).1
              have x0 := hxs.c0 k hlt
              have x1 := hxs.c1 k hlt
              have x2 := hxs.c2 k hlt
              have x3 := hxs.c3 k hlt
              have x4 := hxs.c4 k hlt
              rw [HXK.out] at x0 x1 x2 x3 x4
              have hS0 : (fun wx : World => wx.cell? ⟨ab, aoff + k * 5, none⟩ = some (.int .i64 x.src) ∧ wx.cell? ⟨ab, aoff + k * 5 + 1, none⟩ = some (.int .i64 x.inp) ∧ wx.cell? ⟨ab, aoff + k * 5 + 2, none⟩ = some (.int .i64 x.out) ∧ wx.cell? ⟨ab, aoff + k * 5 + 3, none⟩ = some (.int .i64 x.dst) ∧ wx.cell? ⟨ab, aoff + k * 5 + 4, none⟩ = some (.int .i64 x.wt)) Wd := ⟨x0, x1, x2, x3, x4⟩
              have HSB : Hid (∀ wx : World, Below Wd.heap.size Wd wx → (fun wx : World => wx.cell? ⟨ab, aoff + k * 5, none⟩ = some (.int .i64 x.src) ∧ wx.cell? ⟨ab, aoff + k * 5 + 1, none⟩ = some (.int .i64 x.inp) ∧ wx.cell? ⟨ab, aoff + k * 5 + 2, none⟩ = some (.int .i64 x.out) ∧ wx.cell? ⟨ab, aoff + k * 5 + 3, none⟩ = some (.int .i64 x.dst) ∧ wx.cell? ⟨ab, aoff + k * 5 + 4, none⟩ = some (.int .i64 x.wt)) wx) := fun wx hb => ⟨bel_c hb x0, bel_c hb x1, bel_c hb x2, bel_c hb x3, bel_c hb x4⟩
              have HRS : Hid (∀ wx : World, Below Wd.heap.size Wd wx → SrcAt wx 5 (.slice (some ⟨gR, 0, none⟩) (n - p) capR) (n - p) (arcsV (out.drop p))) := fun wx hb => Or.inr ⟨_, _, rfl, HLD.out, fun j u hj => (ownsRow_bel HWd.out.2.2 hb).cells (g := gR) rfl j u hj⟩
              have HTS : Hid (∀ wx : World, Below Wd.heap.size Wd wx → SrcAt wx 5 (.slice (some ⟨g, 0, none⟩) p cap) p (arcsV (out.take p))) := fun wx hb => Or.inr ⟨_, _, rfl, HTK.out, fun j u hj => by have := row_src (HW.out wx (bel_on HWd.out.1 hb)).2 0 p (by omega) j u (by rw [List.drop_zero]; exact hj); rw [Nat.zero_mul] at this; exact this⟩
              have HFIN : Hid ((arcsV (out.take p) ++ arcCells x ++ arcsV (out.drop p)) = arcsV (out.take p ++ x :: out.drop p) ∧ (p + 1 + (n - p)) = (n + 1)) := ⟨by rw [← arcsV_cut], by omega⟩
              have HWD : Hid (Wd = wR.drew) := hWd
              have hWs : W2.heap.size ≤ Wd.heap.size := by rw [hWd]; exact hbR.size
              clear hWd hown0 hbR x0 x1 x2 x3 x4 hxs
              refine wp_region_noPanic ?_
              refine wp_region_U (fun wx : World => wx.cell? ⟨ab, aoff + k * 5, none⟩ = some (.int .i64 x.src) ∧ wx.cell? ⟨ab, aoff + k * 5 + 1, none⟩ = some (.int .i64 x.inp) ∧ wx.cell? ⟨ab, aoff + k * 5 + 2, none⟩ = some (.int .i64 x.out) ∧ wx.cell? ⟨ab, aoff + k * 5 + 3, none⟩ = some (.int .i64 x.dst) ∧ wx.cell? ⟨ab, aoff + k * 5 + 4, none⟩ = some (.int .i64 x.wt)) 13 (by kernel_rfl) (by rw [← HWD.out]; exact hS0) (fun _ => ?_)
              rw [← HWD.out]
              clear HWD
              refine wpAnyU_take (i := 1) (v := .slice (some ⟨g, 0, none⟩) n cap) rfl (by kernel_rfl) (by kernel_rfl) (by kernel_rfl) (by kernel_rfl) (fun _ _ _ h => h) (Or.inl ⟨by rfl, fun wl hSw => ?_⟩) hS0 ?_
              · (try dsimp only at hSw); go_simp
              refine wpAnyU_take (i := 2) (v := .int .i64 p) rfl (by kernel_rfl) (by kernel_rfl) (by kernel_rfl) (by kernel_rfl) (fun _ _ _ h => h) (Or.inl ⟨by rfl, fun wl hSw => ?_⟩) hS0 ?_
              · (try dsimp only at hSw); go_simp
              refine wpAnyU_take (i := 3) (v := .slice (some ⟨g, 0, none⟩) p cap) rfl (by kernel_rfl) (by kernel_rfl) (by kernel_rfl) (by kernel_rfl) (fun _ _ _ h => h) (Or.inl ⟨by rfl, fun wl hSw => ?_⟩) hS0 ?_
              · (try dsimp only at hSw); go_simp
              refine wpAnyU_take (i := 5) (v := .slice (some ⟨ab, aoff, none⟩) m ac) rfl (by kernel_rfl) (by kernel_rfl) (by kernel_rfl) (by kernel_rfl) (fun _ _ _ h => h) (Or.inl ⟨by rfl, fun wl hSw => ?_⟩) hS0 ?_
              · (try dsimp only at hSw); go_simp
              refine wpAnyU_take (i := 6) (v := .int .i64 k) rfl (by kernel_rfl) (by kernel_rfl) (by kernel_rfl) (by kernel_rfl) (fun _ _ _ h => h) (Or.inl ⟨by rfl, fun wl hSw => ?_⟩) hS0 ?_
              · (try dsimp only at hSw); go_simp
              refine wpAnyU_take (i := 7) (v := .pointer (some ⟨ab, aoff + k * 5, none⟩)) rfl (by kernel_rfl) (by kernel_rfl) (by kernel_rfl) (by kernel_rfl) (fun _ _ _ h => h) (Or.inl ⟨by rfl, fun wl hSw => ?_⟩) hS0 ?_
              · (try dsimp only at hSw); go_simp
              refine wpAnyU_take (i := 8) (v := .agg #[.int .i64 x.src, .int .i64 x.inp, .int .i64 x.out, .int .i64 x.dst, .int .i64 x.wt]) rfl (by kernel_rfl) (by kernel_rfl) (by kernel_rfl) (by kernel_rfl) (fun _ _ _ h => h) (Or.inl ⟨by rfl, fun wl hSw => ?_⟩) hS0 ?_
              · (try dsimp only at hSw); go_simp
              refine wpAnyU_take (i := 11) (v := .slice (some ⟨gR, 0, none⟩) (n - p) capR) rfl (by kernel_rfl) (by kernel_rfl) (by kernel_rfl) (by kernel_rfl) (fun _ _ _ h => h) (Or.inl ⟨by rfl, fun wl hSw => ?_⟩) hS0 ?_
              · (try dsimp only at hSw); go_simp
              refine wpAnyU_two (i := 0) (j := 9) rfl rfl (by kernel_rfl) (fun K hK => ?_) (fun K hK => ?_)
              · go_simp
                have hbL := bel_up (bel_self Wd) (.cells #[] 63)
                refine hK.out _ _ ⟨fun _ => HSB.out _ hbL, ?_⟩
                clear hK K
                refine wpAnyU_two (i := 4) (j := 9) rfl rfl (by kernel_rfl) (fun K hK => ?_) (fun K hK => ?_)
                · refine if_wanted rfl (wp_app _ _ 23 rfl Wd.heap.size 63 i0 _ 5 40 Try.underlying23 hi hz0 hz1 hz2 rfl (by decide) (.slice (some ⟨Wd.heap.size, 0, none⟩) 0 0) 0 [] rfl (lit1A Wd _ (Nat.le_refl _)) (.slice (some ⟨g, 0, none⟩) p cap) p (arcsV (out.take p)) rfl (HTS.out _ hbL) (arcsV_one _) (by unfold maxLen; omega) (by omega) (by simp <;> omega) ?_)
                  intro v4 w4 hown4 hgrow4 hne4
                  rw [Nat.zero_add, List.nil_append] at hown4
                  have hne4' := hne4 (by simp)
                  clear hne4
                  have hb4 : Below Wd.heap.size Wd w4 := hbL.grown hgrow4 (by simp) (fun g' hg' => by have hg'' : some Wd.heap.size = some g' := hg'; injection hg'' with hg''; omega)
                  refine hK.out _ _ ⟨fun _ => HSB.out _ hb4, ?_⟩
                  clear hK K hgrow4
                  refine wpAnyU_one (i := 9) rfl (by kernel_rfl) (fun K hK => ?_)
                  go_simp
                  have hb9 := bel_up hb4 (.cells #[.int .i64 x.src, .int .i64 x.inp, .int .i64 x.out, .int .i64 x.dst, .int .i64 x.wt] 63)
                  refine hK.out _ _ ⟨fun _ => HSB.out _ hb9, ?_⟩
                  clear hK K
                  have hown9 := hown4.alloc (.cells #[.int .i64 x.src, .int .i64 x.inp, .int .i64 x.out, .int .i64 x.dst, .int .i64 x.wt] 63)
                  refine wpAnyU_one (i := 10) rfl (by kernel_rfl) (fun K hK => ?_)
                  refine if_wanted rfl (wp_app _ _ 23 rfl Wd.heap.size 63 i0 _ 5 40 Try.underlying23 hi hz0 hz1 hz2 rfl (by decide) v4 p (arcsV (out.take p)) rfl hown9 (.slice (some ⟨w4.heap.size, 0, none⟩) 1 1) 1 (arcCells x) rfl (Or.inr ⟨_, _, rfl, rfl, cells_new w4 #[.int .i64 x.src, .int .i64 x.inp, .int .i64 x.out, .int .i64 x.dst, .int .i64 x.wt] 63 _ rfl⟩) (oneCell_arc x) (by unfold maxLen; omega) (by omega) (by have := hb9.size; omega) ?_)
                  intro v10 w10 hown10 hgrow10 hne10
                  have hb10 : Below Wd.heap.size Wd w10 := hb9.grown hgrow10 (by have := hb9.size; omega) (fun g' hg' => own_base hown9 g' hg')
                  refine hK.out _ _ ⟨fun _ => HSB.out _ hb10, ?_⟩
                  clear hK K
                  refine wpAnyU_one (i := 12) rfl (by kernel_rfl) (fun K hK => ?_)
                  refine if_wanted rfl (wp_app _ _ 23 rfl Wd.heap.size 63 i0 _ 5 40 Try.underlying23 hi hz0 hz1 hz2 rfl (by decide) v10 (p + 1) (arcsV (out.take p) ++ arcCells x) rfl hown10 (.slice (some ⟨gR, 0, none⟩) (n - p) capR) (n - p) (arcsV (out.drop p)) rfl (HRS.out _ hb10) (arcsV_one _) (by unfold maxLen; omega) (by omega) (by have := hb10.size; omega) ?_)
                  intro v12 w12 hown12 hgrow12 hne12
                  have hb12 : Below Wd.heap.size Wd w12 := hb10.grown hgrow12 (by have := hb10.size; omega) (fun g' hg' => own_base hown10 g' hg')
                  refine hK.out _ _ ⟨fun _ => HSB.out _ hb12, ?_⟩
                  clear hK K
                  have hne := hne12 (hne10 hne4')
                  rw [HFIN.out.1, HFIN.out.2] at hown12
                  obtain ⟨g', cap', hv12, hg'⟩ := own_some hown12 hne
                  subst hv12
                  have hM : Hid (w.heap.size ≤ g' ∧ w12.ownsRow w.heap.size 63 5 (.slice (some ⟨g', 0, none⟩) (n + 1) cap') (n + 1) (arcsV (out.take p ++ x :: out.drop p)) ∧ Below wo.heap.size wo w12) := ⟨by have := HWd.out.2.1; omega, own_mono hown12 (by have := HWd.out.2.1; omega), bel_on HWd.out.1 hb12⟩
                  clear hown12 hgrow12 hne12 hown10 hgrow10 hne10 hne hne4'
                  refine wpAnyU_one (i := 13) rfl (by kernel_rfl) (fun K hK => ?_)
                  go_simp
                  refine hK.out _ _ ⟨fun h => absurd rfl h, ?_⟩
                  clear hK K
                  refine wpAnyU_done (by kernel_rfl) ?_ _
                  refine NoPanic.normal ?_
                  go_wp2
                  go_roundw
                  case rel => exact ⟨k + 1, (out.take p ++ x :: out.drop p), by omega, by go_num, HIN.out, HLEN.out.1, Or.inr ⟨by omega, g', (n + 1), cap', rfl, HLEN.out.2, by omega, hM.out.1, hM.out.2.1⟩, bel_on hb hM.out.2.2⟩
                  case measure => simp [intOf]; omega
                · go_simp
                  have hb9 := bel_up hbL (.cells #[.int .i64 x.src, .int .i64 x.inp, .int .i64 x.out, .int .i64 x.dst, .int .i64 x.wt] 63)
                  refine hK.out _ _ ⟨fun _ => HSB.out _ hb9, ?_⟩
                  clear hK K
                  refine wpAnyU_one (i := 4) rfl (by kernel_rfl) (fun K hK => ?_)
                  refine if_wanted rfl (wp_app _ _ 23 rfl Wd.heap.size 63 i0 _ 5 40 Try.underlying23 hi hz0 hz1 hz2 rfl (by decide) (.slice (some ⟨Wd.heap.size, 0, none⟩) 0 0) 0 [] rfl ((lit1A Wd _ (Nat.le_refl _)).alloc _) (.slice (some ⟨g, 0, none⟩) p cap) p (arcsV (out.take p)) rfl (HTS.out _ hb9) (arcsV_one _) (by unfold maxLen; omega) (by omega) (by simp <;> omega) ?_)
                  intro v4 w4 hown4 hgrow4 hne4
                  rw [Nat.zero_add, List.nil_append] at hown4
                  have hne4' := hne4 (by simp)
                  clear hne4
                  have hb4 : Below Wd.heap.size Wd w4 := hb9.grown hgrow4 (by simp <;> omega) (fun g' hg' => by have hg'' : some Wd.heap.size = some g' := hg'; injection hg'' with hg''; omega)
                  have hlit : ∀ j u, (arcCells x)[j]? = some u → w4.cell? ((⟨Wd.heap.size + 1, 0, none⟩ : Addr).add j) = some u := lit_kept hgrow4 (cells_new (Wd.alloc (.cells #[] 63)) #[.int .i64 x.src, .int .i64 x.inp, .int .i64 x.out, .int .i64 x.dst, .int .i64 x.wt] 63 (Wd.heap.size + 1) (by simp)) (by simp) (by simp [Value.ownBlock])
                  refine hK.out _ _ ⟨fun _ => HSB.out _ hb4, ?_⟩
                  clear hK K hgrow4
                  refine wpAnyU_one (i := 10) rfl (by kernel_rfl) (fun K hK => ?_)
                  refine if_wanted rfl (wp_app _ _ 23 rfl Wd.heap.size 63 i0 _ 5 40 Try.underlying23 hi hz0 hz1 hz2 rfl (by decide) v4 p (arcsV (out.take p)) rfl hown4 (.slice (some ⟨Wd.heap.size + 1, 0, none⟩) 1 1) 1 (arcCells x) rfl (Or.inr ⟨_, _, rfl, rfl, hlit⟩) (oneCell_arc x) (by unfold maxLen; omega) (by omega) (by have := hb4.size; omega) ?_)
                  intro v10 w10 hown10 hgrow10 hne10
                  have hb10 : Below Wd.heap.size Wd w10 := hb4.grown hgrow10 (by have := hb4.size; omega) (fun g' hg' => own_base hown4 g' hg')
                  refine hK.out _ _ ⟨fun _ => HSB.out _ hb10, ?_⟩
                  clear hK K
                  refine wpAnyU_one (i := 12) rfl (by kernel_rfl) (fun K hK => ?_)
                  refine if_wanted rfl (wp_app _ _ 23 rfl Wd.heap.size 63 i0 _ 5 40 Try.underlying23 hi hz0 hz1 hz2 rfl (by decide) v10 (p + 1) (arcsV (out.take p) ++ arcCells x) rfl hown10 (.slice (some ⟨gR, 0, none⟩) (n - p) capR) (n - p) (arcsV (out.drop p)) rfl (HRS.out _ hb10) (arcsV_one _) (by unfold maxLen; omega) (by omega) (by have := hb10.size; omega) ?_)
                  intro v12 w12 hown12 hgrow12 hne12
                  have hb12 : Below Wd.heap.size Wd w12 := hb10.grown hgrow12 (by have := hb10.size; omega) (fun g' hg' => own_base hown10 g' hg')
                  refine hK.out _ _ ⟨fun _ => HSB.out _ hb12, ?_⟩
                  clear hK K
                  have hne := hne12 (hne10 hne4')
                  rw [HFIN.out.1, HFIN.out.2] at hown12
                  obtain ⟨g', cap', hv12, hg'⟩ := own_some hown12 hne
                  subst hv12
                  have hM : Hid (w.heap.size ≤ g' ∧ w12.ownsRow w.heap.size 63 5 (.slice (some ⟨g', 0, none⟩) (n + 1) cap') (n + 1) (arcsV (out.take p ++ x :: out.drop p)) ∧ Below wo.heap.size wo w12) := ⟨by have := HWd.out.2.1; omega, own_mono hown12 (by have := HWd.out.2.1; omega), bel_on HWd.out.1 hb12⟩
                  clear hown12 hgrow12 hne12 hown10 hgrow10 hne10 hne hne4'
                  refine wpAnyU_one (i := 13) rfl (by kernel_rfl) (fun K hK => ?_)
                  go_simp
                  refine hK.out _ _ ⟨fun h => absurd rfl h, ?_⟩
                  clear hK K
                  refine wpAnyU_done (by kernel_rfl) ?_ _
                  refine NoPanic.normal ?_
                  go_wp2
                  go_roundw
                  case rel => exact ⟨k + 1, (out.take p ++ x :: out.drop p), by omega, by go_num, HIN.out, HLEN.out.1, Or.inr ⟨by omega, g', (n + 1), cap', rfl, HLEN.out.2, by omega, hM.out.1, hM.out.2.1⟩, bel_on hb hM.out.2.2⟩
                  case measure => simp [intOf]; omega
              · go_simp
                have hbZ := bel_up (bel_self Wd) (.cells #[.int .i64 x.src, .int .i64 x.inp, .int .i64 x.out, .int .i64 x.dst, .int .i64 x.wt] 63)
                refine hK.out _ _ ⟨fun _ => HSB.out _ hbZ, ?_⟩
                clear hK K
                refine wpAnyU_one (i := 0) rfl (by kernel_rfl) (fun K hK => ?_)
                go_simp
                have hb9 := bel_up hbZ (.cells #[] 63)
                refine hK.out _ _ ⟨fun _ => HSB.out _ hb9, ?_⟩
                clear hK K
                have hlit0 := lit1A (Wd.alloc (.cells #[.int .i64 x.src, .int .i64 x.inp, .int .i64 x.out, .int .i64 x.dst, .int .i64 x.wt] 63)) Wd.heap.size (by simp)
                rw [one_size] at hlit0
                refine wpAnyU_one (i := 4) rfl (by kernel_rfl) (fun K hK => ?_)
                refine if_wanted rfl (wp_app _ _ 23 rfl Wd.heap.size 63 i0 _ 5 40 Try.underlying23 hi hz0 hz1 hz2 rfl (by decide) (.slice (some ⟨Wd.heap.size + 1, 0, none⟩) 0 0) 0 [] rfl hlit0 (.slice (some ⟨g, 0, none⟩) p cap) p (arcsV (out.take p)) rfl (HTS.out _ hb9) (arcsV_one _) (by unfold maxLen; omega) (by omega) (by simp <;> omega) ?_)
                intro v4 w4 hown4 hgrow4 hne4
                rw [Nat.zero_add, List.nil_append] at hown4
                have hne4' := hne4 (by simp)
                clear hne4
                have hb4 : Below Wd.heap.size Wd w4 := hb9.grown hgrow4 (by simp <;> omega) (fun g' hg' => by have hg'' : some (Wd.heap.size + 1) = some g' := hg'; injection hg'' with hg''; omega)
                have hlit : ∀ j u, (arcCells x)[j]? = some u → w4.cell? ((⟨Wd.heap.size, 0, none⟩ : Addr).add j) = some u := lit_kept hgrow4 (fun j u hj => Lib.cell?_alloc_some _ (cells_new Wd #[.int .i64 x.src, .int .i64 x.inp, .int .i64 x.out, .int .i64 x.dst, .int .i64 x.wt] 63 _ rfl j u hj)) (by simp <;> omega) (by simp [Value.ownBlock])
                refine hK.out _ _ ⟨fun _ => HSB.out _ hb4, ?_⟩
                clear hK K hgrow4
                refine wpAnyU_one (i := 10) rfl (by kernel_rfl) (fun K hK => ?_)
                refine if_wanted rfl (wp_app _ _ 23 rfl Wd.heap.size 63 i0 _ 5 40 Try.underlying23 hi hz0 hz1 hz2 rfl (by decide) v4 p (arcsV (out.take p)) rfl hown4 (.slice (some ⟨Wd.heap.size, 0, none⟩) 1 1) 1 (arcCells x) rfl (Or.inr ⟨_, _, rfl, rfl, hlit⟩) (oneCell_arc x) (by unfold maxLen; omega) (by omega) (by have := hb4.size; omega) ?_)
                intro v10 w10 hown10 hgrow10 hne10
                have hb10 : Below Wd.heap.size Wd w10 := hb4.grown hgrow10 (by have := hb4.size; omega) (fun g' hg' => own_base hown4 g' hg')
                refine hK.out _ _ ⟨fun _ => HSB.out _ hb10, ?_⟩
                clear hK K
                refine wpAnyU_one (i := 12) rfl (by kernel_rfl) (fun K hK => ?_)
                refine if_wanted rfl (wp_app _ _ 23 rfl Wd.heap.size 63 i0 _ 5 40 Try.underlying23 hi hz0 hz1 hz2 rfl (by decide) v10 (p + 1) (arcsV (out.take p) ++ arcCells x) rfl hown10 (.slice (some ⟨gR, 0, none⟩) (n - p) capR) (n - p) (arcsV (out.drop p)) rfl (HRS.out _ hb10) (arcsV_one _) (by unfold maxLen; omega) (by omega) (by have := hb10.size; omega) ?_)
                intro v12 w12 hown12 hgrow12 hne12
                have hb12 : Below Wd.heap.size Wd w12 := hb10.grown hgrow12 (by have := hb10.size; omega) (fun g' hg' => own_base hown10 g' hg')
                refine hK.out _ _ ⟨fun _ => HSB.out _ hb12, ?_⟩
                clear hK K
                have hne := hne12 (hne10 hne4')
                rw [HFIN.out.1, HFIN.out.2] at hown12
                obtain ⟨g', cap', hv12, hg'⟩ := own_some hown12 hne
                subst hv12
                have hM : Hid (w.heap.size ≤ g' ∧ w12.ownsRow w.heap.size 63 5 (.slice (some ⟨g', 0, none⟩) (n + 1) cap') (n + 1) (arcsV (out.take p ++ x :: out.drop p)) ∧ Below wo.heap.size wo w12) := ⟨by have := HWd.out.2.1; omega, own_mono hown12 (by have := HWd.out.2.1; omega), bel_on HWd.out.1 hb12⟩
                clear hown12 hgrow12 hne12 hown10 hgrow10 hne10 hne hne4'
                refine wpAnyU_one (i := 13) rfl (by kernel_rfl) (fun K hK => ?_)
                go_simp
                refine hK.out _ _ ⟨fun h => absurd rfl h, ?_⟩
                clear hK K
                refine wpAnyU_done (by kernel_rfl) ?_ _
                refine NoPanic.normal ?_
                go_wp2
                go_roundw
                case rel => exact ⟨k + 1, (out.take p ++ x :: out.drop p), by omega, by go_num, HIN.out, HLEN.out.1, Or.inr ⟨by omega, g', (n + 1), cap', rfl, HLEN.out.2, by omega, hM.out.1, hM.out.2.1⟩, bel_on hb hM.out.2.2⟩
                case measure => simp [intOf]; omega
          · have hd : decide (0 < p) = true := by simp; omega
            have hd2 : (0 : Int) < p := by omega
            have hi0 : (0 : Int) ≤ (p : Int) - 1 := by omega
            have hi1 : (p : Int) - 1 < (n : Int) := by omega
            have hwk : IntKind.i64.wrap ((p : Int) - 1) = (p : Int) - 1 := IntWalk.i64_in _ ⟨by omega, by omega⟩
            have htk : ((p : Int) - 1).toNat = p - 1 := by omega
            have hi2 : (1 : Int) ≤ (p : Int) := by omega
            have hi3 : (p : Int) < (n : Int) + 1 := by omega
            have hi4 : p < n + 1 := by omega
            have hi5 : 1 ≤ p := by omega
            obtain ⟨y, hy⟩ : ∃ y, out.getD (p - 1) a0 = y := ⟨_, rfl⟩
            have HY : Hid (out.getD (p - 1) a0 = y) := hy
            clear hy
            have hxs := (HW.out wr hb1).1
            have hys := (ARow.of (HW.out wr hb1).2).1
            have x0 := hxs.c0 k hlt
            have x1 := hxs.c1 k hlt
            have x2 := hxs.c2 k hlt
            have x3 := hxs.c3 k hlt
            have x4 := hxs.c4 k hlt
            rw [HXK.out] at x0 x1 x2 x3 x4
            have y0 : wr.cell? ⟨g, (p - 1) * 5, none⟩ = some (.int .i64 y.src) := (hys.cell (p - 1) 0 (by omega) (by omega)).trans (by rw [HY.out]; rfl)
            have y1 : wr.cell? ⟨g, (p - 1) * 5 + 1, none⟩ = some (.int .i64 y.inp) := (hys.cell (p - 1) 1 (by omega) (by omega)).trans (by rw [HY.out]; rfl)
            have y2 : wr.cell? ⟨g, (p - 1) * 5 + 2, none⟩ = some (.int .i64 y.out) := (hys.cell (p - 1) 2 (by omega) (by omega)).trans (by rw [HY.out]; rfl)
            have y3 : wr.cell? ⟨g, (p - 1) * 5 + 3, none⟩ = some (.int .i64 y.dst) := (hys.cell (p - 1) 3 (by omega) (by omega)).trans (by rw [HY.out]; rfl)
            have y4 : wr.cell? ⟨g, (p - 1) * 5 + 4, none⟩ = some (.int .i64 y.wt) := (hys.cell (p - 1) 4 (by omega) (by omega)).trans (by rw [HY.out]; rfl)
            clear hxs hys
            cases hah : aheadB x y with
            | true =>
              have HAH : Hid (aheadB x y = true) := hah
              have hcall := ahead_any x y
              rw [hah] at hcall
              clear hah
              go_wp2
              go_region_held3 (fun wx => wx.cell? ⟨ab, aoff + k * 5, none⟩ = some (.int .i64 x.src) ∧ wx.cell? ⟨ab, aoff + k * 5 + 1, none⟩ = some (.int .i64 x.inp) ∧ wx.cell? ⟨ab, aoff + k * 5 + 2, none⟩ = some (.int .i64 x.out) ∧ wx.cell? ⟨ab, aoff + k * 5 + 3, none⟩ = some (.int .i64 x.dst) ∧ wx.cell? ⟨ab, aoff + k * 5 + 4, none⟩ = some (.int .i64 x.wt) ∧ wx.cell? ⟨g, (p - 1) * 5, none⟩ = some (.int .i64 y.src) ∧ wx.cell? ⟨g, (p - 1) * 5 + 1, none⟩ = some (.int .i64 y.inp) ∧ wx.cell? ⟨g, (p - 1) * 5 + 2, none⟩ = some (.int .i64 y.out) ∧ wx.cell? ⟨g, (p - 1) * 5 + 3, none⟩ = some (.int .i64 y.dst) ∧ wx.cell? ⟨g, (p - 1) * 5 + 4, none⟩ = some (.int .i64 y.wt)) (first | exact ⟨bel_c hbw (drew_cell x0), bel_c hbw (drew_cell x1), bel_c hbw (drew_cell x2), bel_c hbw (drew_cell x3), bel_c hbw (drew_cell x4), bel_c hbw (drew_cell y0), bel_c hbw (drew_cell y1), bel_c hbw (drew_cell y2), bel_c hbw (drew_cell y3), bel_c hbw (drew_cell y4)⟩ | exact ⟨drew_cell x0, drew_cell x1, drew_cell x2, drew_cell x3, drew_cell x4, drew_cell y0, drew_cell y1, drew_cell y2, drew_cell y3, drew_cell y4⟩) ((go_at_call 64; refine (hcall _).mono ?_; rintro e w1 ⟨rfl, hbw⟩))
              go_wp2
              go_roundw
              case rel => exact ⟨p - 1, by omega, by go_num, ahead_down HA.out HY.out HAH.out, bel_on hb1.drew hbw⟩
              case measure => simp [intOf]; omega
            | false =>
              have HAH : Hid (aheadB x y = false) := hah
              have hcall := ahead_any x y
              rw [hah] at hcall
              clear hah
              go_wp2
              go_region_held3 (fun wx => wx.cell? ⟨ab, aoff + k * 5, none⟩ = some (.int .i64 x.src) ∧ wx.cell? ⟨ab, aoff + k * 5 + 1, none⟩ = some (.int .i64 x.inp) ∧ wx.cell? ⟨ab, aoff + k * 5 + 2, none⟩ = some (.int .i64 x.out) ∧ wx.cell? ⟨ab, aoff + k * 5 + 3, none⟩ = some (.int .i64 x.dst) ∧ wx.cell? ⟨ab, aoff + k * 5 + 4, none⟩ = some (.int .i64 x.wt) ∧ wx.cell? ⟨g, (p - 1) * 5, none⟩ = some (.int .i64 y.src) ∧ wx.cell? ⟨g, (p - 1) * 5 + 1, none⟩ = some (.int .i64 y.inp) ∧ wx.cell? ⟨g, (p - 1) * 5 + 2, none⟩ = some (.int .i64 y.out) ∧ wx.cell? ⟨g, (p - 1) * 5 + 3, none⟩ = some (.int .i64 y.dst) ∧ wx.cell? ⟨g, (p - 1) * 5 + 4, none⟩ = some (.int .i64 y.wt)) (first | exact ⟨bel_c hbw (drew_cell x0), bel_c hbw (drew_cell x1), bel_c hbw (drew_cell x2), bel_c hbw (drew_cell x3), bel_c hbw (drew_cell x4), bel_c hbw (drew_cell y0), bel_c hbw (drew_cell y1), bel_c hbw (drew_cell y2), bel_c hbw (drew_cell y3), bel_c hbw (drew_cell y4)⟩ | exact ⟨drew_cell x0, drew_cell x1, drew_cell x2, drew_cell x3, drew_cell x4, drew_cell y0, drew_cell y1, drew_cell y2, drew_cell y3, drew_cell y4⟩) ((go_at_call 64; refine (hcall _).mono ?_; rintro e w1 ⟨rfl, hbw⟩))
              have hbw1 := bel_on hb1.drew hbw
              clear x0 x1 x2 x3 x4 y0 y1 y2 y3 y4 hbw hcall
              have hxs := (HW.out w1 hbw1).1
              have hys := (ARow.of (HW.out w1 hbw1).2).1
              have x0 := hxs.c0 k hlt
              have x1 := hxs.c1 k hlt
              have x2 := hxs.c2 k hlt
              have x3 := hxs.c3 k hlt
              have x4 := hxs.c4 k hlt
              rw [HXK.out] at x0 x1 x2 x3 x4
              have y0 : w1.cell? ⟨g, (p - 1) * 5, none⟩ = some (.int .i64 y.src) := (hys.cell (p - 1) 0 (by omega) (by omega)).trans (by rw [HY.out]; rfl)
              have y1 : w1.cell? ⟨g, (p - 1) * 5 + 1, none⟩ = some (.int .i64 y.inp) := (hys.cell (p - 1) 1 (by omega) (by omega)).trans (by rw [HY.out]; rfl)
              have y2 : w1.cell? ⟨g, (p - 1) * 5 + 2, none⟩ = some (.int .i64 y.out) := (hys.cell (p - 1) 2 (by omega) (by omega)).trans (by rw [HY.out]; rfl)
              have y3 : w1.cell? ⟨g, (p - 1) * 5 + 3, none⟩ = some (.int .i64 y.dst) := (hys.cell (p - 1) 3 (by omega) (by omega)).trans (by rw [HY.out]; rfl)
              have y4 : w1.cell? ⟨g, (p - 1) * 5 + 4, none⟩ = some (.int .i64 y.wt) := (hys.cell (p - 1) 4 (by omega) (by omega)).trans (by rw [HY.out]; rfl)
              clear hxs hys
              cases hah : aheadB y x with
              | true =>
                have HAH2 : Hid (aheadB y x = true) := hah
                have hcall := ahead_any y x
                rw [hah] at hcall
                clear hah
                have HIN : Hid (IsMin (out.take p ++ x :: out.drop p) (ars.take (k + 1))) := by
                  show IsMin _ (ars.take (k + 1))
                  rw [lt_take (by rw [HL.out]; exact hlt) HXK.out]
                  exact HM.out.insert (k := p) (cut_before HM.out.ord (by rw [HOL.out]; omega) hi5 HY.out HAH2.out) (cut_behind (by rw [HOL.out]; exact HA.out))
                have HLEN : Hid ((out.take p ++ x :: out.drop p).length ≤ k + 1 ∧ (out.take p ++ x :: out.drop p).length = n + 1) := (by rw [cut_len (by rw [HOL.out]; omega), HOL.out]; exact ⟨by omega, rfl⟩ : (out.take p ++ x :: out.drop p).length ≤ k + 1 ∧ (out.take p ++ x :: out.drop p).length = n + 1)
                go_wp2
                go_region_held3 (fun wx => wx.cell? ⟨ab, aoff + k * 5, none⟩ = some (.int .i64 x.src) ∧ wx.cell? ⟨ab, aoff + k * 5 + 1, none⟩ = some (.int .i64 x.inp) ∧ wx.cell? ⟨ab, aoff + k * 5 + 2, none⟩ = some (.int .i64 x.out) ∧ wx.cell? ⟨ab, aoff + k * 5 + 3, none⟩ = some (.int .i64 x.dst) ∧ wx.cell? ⟨ab, aoff + k * 5 + 4, none⟩ = some (.int .i64 x.wt) ∧ wx.cell? ⟨g, (p - 1) * 5, none⟩ = some (.int .i64 y.src) ∧ wx.cell? ⟨g, (p - 1) * 5 + 1, none⟩ = some (.int .i64 y.inp) ∧ wx.cell? ⟨g, (p - 1) * 5 + 2, none⟩ = some (.int .i64 y.out) ∧ wx.cell? ⟨g, (p - 1) * 5 + 3, none⟩ = some (.int .i64 y.dst) ∧ wx.cell? ⟨g, (p - 1) * 5 + 4, none⟩ = some (.int .i64 y.wt)) (first | exact ⟨bel_c hbw (drew_cell x0), bel_c hbw (drew_cell x1), bel_c hbw (drew_cell x2), bel_c hbw (drew_cell x3), bel_c hbw (drew_cell x4), bel_c hbw (drew_cell y0), bel_c hbw (drew_cell y1), bel_c hbw (drew_cell y2), bel_c hbw (drew_cell y3), bel_c hbw (drew_cell y4)⟩ | exact ⟨drew_cell x0, drew_cell x1, drew_cell x2, drew_cell x3, drew_cell x4, drew_cell y0, drew_cell y1, drew_cell y2, drew_cell y3, drew_cell y4⟩) ((go_at_call 64; refine (hcall _).mono ?_; rintro e w2 ⟨rfl, hbw⟩))
                have hbw2 := bel_on hbw1.drew hbw
                clear x0 x1 x2 x3 x4 y0 y1 y2 y3 y4 hbw hcall
                have hown0 := (HW.out w2 hbw2).2
                have hsrcR := row_src hown0 p (n - p) (by omega)
                rw [List.take_of_length_le (by rw [List.length_drop, HOL.out]; exact Nat.le_refl _)] at hsrcR
                have HLD : Hid ((arcsV (out.drop p)).length = (n - p) * 5) := (by rw [arcsV_len, List.length_drop, HOL.out] : (arcsV (out.drop p)).length = (n - p) * 5)
                have HTK : Hid ((arcsV (out.take p)).length = p * 5) := (by rw [arcsV_len, List.length_take, HOL.out, Nat.min_eq_left (by omega)] : (arcsV (out.take p)).length = p * 5)
                have HSR : Hid (∀ j u, (arcsV (out.drop p))[j]? = some u → w2.cell? ((⟨g, p * 5, none⟩ : Addr).add j) = some u) := hsrcR
                clear hsrcR hown0
                have hcapn := hcap
                have hai : (p : Int) ≤ n := by omega
                have hac : p ≤ cap := by omega
                have hatn : p ≤ n := by omega
                by_cases hca : cap = p
                · have hna : p = n := by omega
                  have HDR : Hid (out.drop p = []) := List.drop_of_length_le (by rw [HOL.out]; omega)
                  have hcs := hca.symm
                  clear hca HSR HLD
                  subst hcs
                  subst hna
                  go_wp2
                  have hbR : Below w2.heap.size w2 (w2.alloc (.cells #[] 63)) := bel_up (bel_self w2) _
                  have hownR : (w2.alloc (.cells #[] 63)).ownsRow w2.heap.size 63 5 (.slice (some ⟨w2.heap.size, 0, none⟩) 0 0) 0 [] := World.ownsRow_made w2 #[] 0 (Nat.le_refl _) (Nat.zero_le _) rfl
                  obtain ⟨gR, hgR⟩ : ∃ gR, gR = w2.heap.size := ⟨_, rfl⟩
                  obtain ⟨wR, hw2⟩ : ∃ wq, wq = w2.alloc (.cells #[] 63) := ⟨_, rfl⟩
                  rw [← hgR] at hownR
                  rw [← hgR, ← hw2]
                  rw [← hw2] at hbR hownR
                  have hown0 : wR.ownsRow gR 63 5 (.slice (some ⟨gR, 0, none⟩) 0 0) 0 [] := hownR
                  clear hw2 hgR hownR
                  have HB2 : Hid (Below wo.heap.size wo wR) := bel_on hbw2 hbR
                  obtain ⟨Wd, hWd⟩ : ∃ Wd, Wd = wR.drew := ⟨_, rfl⟩
                  have HWd : Hid (Below wo.heap.size wo Wd ∧ wo.heap.size ≤ Wd.heap.size ∧ Wd.ownsRow gR 63 5 (.slice (some ⟨gR, 0, none⟩) 0 0) 0 ([])) := by
                    rw [hWd]
                    exact ⟨HB2.out.drew, HB2.out.size, ownsRow_bel hown0 (bel_self _).drew⟩
                  have hxs := (HW.out Wd HWd.out.1).1
                  have x0 := hxs.c0 k hlt
                  have x1 := hxs.c1 k hlt
                  have x2 := hxs.c2 k hlt
                  have x3 := hxs.c3 k hlt
                  have x4 := hxs.c4 k hlt
                  rw [HXK.out] at x0 x1 x2 x3 x4
                  have hS0 : (fun wx : World => wx.cell? ⟨ab, aoff + k * 5, none⟩ = some (.int .i64 x.src) ∧ wx.cell? ⟨ab, aoff + k * 5 + 1, none⟩ = some (.int .i64 x.inp) ∧ wx.cell? ⟨ab, aoff + k * 5 + 2, none⟩ = some (.int .i64 x.out) ∧ wx.cell? ⟨ab, aoff + k * 5 + 3, none⟩ = some (.int .i64 x.dst) ∧ wx.cell? ⟨ab, aoff + k * 5 + 4, none⟩ = some (.int .i64 x.wt)) Wd := ⟨x0, x1, x2, x3, x4⟩
                  have HSB : Hid (∀ wx : World, Below Wd.heap.size Wd wx → (fun wx : World => wx.cell? ⟨ab, aoff + k * 5, none⟩ = some (.int .i64 x.src) ∧ wx.cell? ⟨ab, aoff + k * 5 + 1, none⟩ = some (.int .i64 x.inp) ∧ wx.cell? ⟨ab, aoff + k * 5 + 2, none⟩ = some (.int .i64 x.out) ∧ wx.cell? ⟨ab, aoff + k * 5 + 3, none⟩ = some (.int .i64 x.dst) ∧ wx.cell? ⟨ab, aoff + k * 5 + 4, none⟩ = some (.int .i64 x.wt)) wx) := fun wx hb => ⟨bel_c hb x0, bel_c hb x1, bel_c hb x2, bel_c hb x3, bel_c hb x4⟩
                  have HRS : Hid (∀ wx : World, Below Wd.heap.size Wd wx → SrcAt wx 5 (.slice (some ⟨gR, 0, none⟩) 0 0) 0 ([])) := fun wx hb => Or.inr ⟨_, _, rfl, rfl, fun j u hj => (ownsRow_bel HWd.out.2.2 hb).cells (g := gR) rfl j u hj⟩
                  have HTS : Hid (∀ wx : World, Below Wd.heap.size Wd wx → SrcAt wx 5 (.slice (some ⟨g, 0, none⟩) p p) p (arcsV (out.take p))) := fun wx hb => Or.inr ⟨_, _, rfl, HTK.out, fun j u hj => by have := row_src (HW.out wx (bel_on HWd.out.1 hb)).2 0 p (by omega) j u (by rw [List.drop_zero]; exact hj); rw [Nat.zero_mul] at this; exact this⟩
                  have HFIN : Hid ((arcsV (out.take p) ++ arcCells x ++ []) = arcsV (out.take p ++ x :: out.drop p) ∧ (p + 1 + 0) = (p + 1)) := ⟨by rw [HDR.out, arcsV_cut]; rfl, by omega⟩
                  have HWD : Hid (Wd = wR.drew) := hWd
                  have hWs : w2.heap.size ≤ Wd.heap.size := by rw [hWd]; exact hbR.size
                  clear hWd hown0 hbR x0 x1 x2 x3 x4 hxs
                  refine wp_region_noPanic ?_
                  refine wp_region_U (fun wx : World => wx.cell? ⟨ab, aoff + k * 5, none⟩ = some (.int .i64 x.src) ∧ wx.cell? ⟨ab, aoff + k * 5 + 1, none⟩ = some (.int .i64 x.inp) ∧ wx.cell? ⟨ab, aoff + k * 5 + 2, none⟩ = some (.int .i64 x.out) ∧ wx.cell? ⟨ab, aoff + k * 5 + 3, none⟩ = some (.int .i64 x.dst) ∧ wx.cell? ⟨ab, aoff + k * 5 + 4, none⟩ = some (.int .i64 x.wt)) 13 (by kernel_rfl) (by rw [← HWD.out]; exact hS0) (fun _ => ?_)
                  rw [← HWD.out]
                  clear HWD
                  refine wpAnyU_take (i := 1) (v := .slice (some ⟨g, 0, none⟩) p p) rfl (by kernel_rfl) (by kernel_rfl) (by kernel_rfl) (by kernel_rfl) (fun _ _ _ h => h) (Or.inl ⟨by rfl, fun wl hSw => ?_⟩) hS0 ?_
                  · (try dsimp only at hSw); go_simp
                  refine wpAnyU_take (i := 2) (v := .int .i64 p) rfl (by kernel_rfl) (by kernel_rfl) (by kernel_rfl) (by kernel_rfl) (fun _ _ _ h => h) (Or.inl ⟨by rfl, fun wl hSw => ?_⟩) hS0 ?_
                  · (try dsimp only at hSw); go_simp
                  refine wpAnyU_take (i := 3) (v := .slice (some ⟨g, 0, none⟩) p p) rfl (by kernel_rfl) (by kernel_rfl) (by kernel_rfl) (by kernel_rfl) (fun _ _ _ h => h) (Or.inl ⟨by rfl, fun wl hSw => ?_⟩) hS0 ?_
                  · (try dsimp only at hSw); go_simp
                  refine wpAnyU_take (i := 5) (v := .slice (some ⟨ab, aoff, none⟩) m ac) rfl (by kernel_rfl) (by kernel_rfl) (by kernel_rfl) (by kernel_rfl) (fun _ _ _ h => h) (Or.inl ⟨by rfl, fun wl hSw => ?_⟩) hS0 ?_
                  · (try dsimp only at hSw); go_simp
                  refine wpAnyU_take (i := 6) (v := .int .i64 k) rfl (by kernel_rfl) (by kernel_rfl) (by kernel_rfl) (by kernel_rfl) (fun _ _ _ h => h) (Or.inl ⟨by rfl, fun wl hSw => ?_⟩) hS0 ?_
                  · (try dsimp only at hSw); go_simp
                  refine wpAnyU_take (i := 7) (v := .pointer (some ⟨ab, aoff + k * 5, none⟩)) rfl (by kernel_rfl) (by kernel_rfl) (by kernel_rfl) (by kernel_rfl) (fun _ _ _ h => h) (Or.inl ⟨by rfl, fun wl hSw => ?_⟩) hS0 ?_
                  · (try dsimp only at hSw); go_simp
                  refine wpAnyU_take (i := 8) (v := .agg #[.int .i64 x.src, .int .i64 x.inp, .int .i64 x.out, .int .i64 x.dst, .int .i64 x.wt]) rfl (by kernel_rfl) (by kernel_rfl) (by kernel_rfl) (by kernel_rfl) (fun _ _ _ h => h) (Or.inl ⟨by rfl, fun wl hSw => ?_⟩) hS0 ?_
                  · (try dsimp only at hSw); go_simp
                  refine wpAnyU_take (i := 11) (v := .slice (some ⟨gR, 0, none⟩) 0 0) rfl (by kernel_rfl) (by kernel_rfl) (by kernel_rfl) (by kernel_rfl) (fun _ _ _ h => h) (Or.inl ⟨by rfl, fun wl hSw => ?_⟩) hS0 ?_
                  · (try dsimp only at hSw); go_simp
                  refine wpAnyU_two (i := 0) (j := 9) rfl rfl (by kernel_rfl) (fun K hK => ?_) (fun K hK => ?_)
                  · go_simp
                    have hbL := bel_up (bel_self Wd) (.cells #[] 63)
                    refine hK.out _ _ ⟨fun _ => HSB.out _ hbL, ?_⟩
                    clear hK K
                    refine wpAnyU_two (i := 4) (j := 9) rfl rfl (by kernel_rfl) (fun K hK => ?_) (fun K hK => ?_)
                    · refine if_wanted rfl (wp_app _ _ 23 rfl Wd.heap.size 63 i0 _ 5 40 Try.underlying23 hi hz0 hz1 hz2 rfl (by decide) (.slice (some ⟨Wd.heap.size, 0, none⟩) 0 0) 0 [] rfl (lit1A Wd _ (Nat.le_refl _)) (.slice (some ⟨g, 0, none⟩) p p) p (arcsV (out.take p)) rfl (HTS.out _ hbL) (arcsV_one _) (by unfold maxLen; omega) (by omega) (by simp <;> omega) ?_)
                      intro v4 w4 hown4 hgrow4 hne4
                      rw [Nat.zero_add, List.nil_append] at hown4
                      have hne4' := hne4 (by simp)
                      clear hne4
                      have hb4 : Below Wd.heap.size Wd w4 := hbL.grown hgrow4 (by simp) (fun g' hg' => by have hg'' : some Wd.heap.size = some g' := hg'; injection hg'' with hg''; omega)
                      refine hK.out _ _ ⟨fun _ => HSB.out _ hb4, ?_⟩
                      clear hK K hgrow4
                      refine wpAnyU_one (i := 9) rfl (by kernel_rfl) (fun K hK => ?_)
                      go_simp
                      have hb9 := bel_up hb4 (.cells #[.int .i64 x.src, .int .i64 x.inp, .int .i64 x.out, .int .i64 x.dst, .int .i64 x.wt] 63)
                      refine hK.out _ _ ⟨fun _ => HSB.out _ hb9, ?_⟩
                      clear hK K
                      have hown9 := hown4.alloc (.cells #[.int .i64 x.src, .int .i64 x.inp, .int .i64 x.out, .int .i64 x.dst, .int .i64 x.wt] 63)
                      refine wpAnyU_one (i := 10) rfl (by kernel_rfl) (fun K hK => ?_)
                      refine if_wanted rfl (wp_app _ _ 23 rfl Wd.heap.size 63 i0 _ 5 40 Try.underlying23 hi hz0 hz1 hz2 rfl (by decide) v4 p (arcsV (out.take p)) rfl hown9 (.slice (some ⟨w4.heap.size, 0, none⟩) 1 1) 1 (arcCells x) rfl (Or.inr ⟨_, _, rfl, rfl, cells_new w4 #[.int .i64 x.src, .int .i64 x.inp, .int .i64 x.out, .int .i64 x.dst, .int .i64 x.wt] 63 _ rfl⟩) (oneCell_arc x) (by unfold maxLen; omega) (by omega) (by have := hb9.size; omega) ?_)
                      intro v10 w10 hown10 hgrow10 hne10
                      have hb10 : Below Wd.heap.size Wd w10 := hb9.grown hgrow10 (by have := hb9.size; omega) (fun g' hg' => own_base hown9 g' hg')
                      refine hK.out _ _ ⟨fun _ => HSB.out _ hb10, ?_⟩
                      clear hK K
                      refine wpAnyU_one (i := 12) rfl (by kernel_rfl) (fun K hK => ?_)
                      refine if_wanted rfl (wp_app _ _ 23 rfl Wd.heap.size 63 i0 _ 5 40 Try.underlying23 hi hz0 hz1 hz2 rfl (by decide) v10 (p + 1) (arcsV (out.take p) ++ arcCells x) rfl hown10 (.slice (some ⟨gR, 0, none⟩) 0 0) 0 ([]) rfl (HRS.out _ hb10) (fun u hu => absurd hu (by simp)) (by unfold maxLen; omega) (by omega) (by have := hb10.size; omega) ?_)
                      intro v12 w12 hown12 hgrow12 hne12
                      have hb12 : Below Wd.heap.size Wd w12 := hb10.grown hgrow12 (by have := hb10.size; omega) (fun g' hg' => own_base hown10 g' hg')
                      refine hK.out _ _ ⟨fun _ => HSB.out _ hb12, ?_⟩
                      clear hK K
                      have hne := hne12 (hne10 hne4')
                      rw [HFIN.out.1, HFIN.out.2] at hown12
                      obtain ⟨g', cap', hv12, hg'⟩ := own_some hown12 hne
                      subst hv12
                      have hM : Hid (w.heap.size ≤ g' ∧ w12.ownsRow w.heap.size 63 5 (.slice (some ⟨g', 0, none⟩) (p + 1) cap') (p + 1) (arcsV (out.take p ++ x :: out.drop p)) ∧ Below wo.heap.size wo w12) := ⟨by have := HWd.out.2.1; omega, own_mono hown12 (by have := HWd.out.2.1; omega), bel_on HWd.out.1 hb12⟩
                      clear hown12 hgrow12 hne12 hown10 hgrow10 hne10 hne hne4'
                      refine wpAnyU_one (i := 13) rfl (by kernel_rfl) (fun K hK => ?_)
                      go_simp
                      refine hK.out _ _ ⟨fun h => absurd rfl h, ?_⟩
                      clear hK K
                      refine wpAnyU_done (by kernel_rfl) ?_ _
                      refine NoPanic.normal ?_
                      go_wp2
                      go_roundw
                      case rel => exact ⟨k + 1, (out.take p ++ x :: out.drop p), by omega, by go_num, HIN.out, HLEN.out.1, Or.inr ⟨by omega, g', (p + 1), cap', rfl, HLEN.out.2, by omega, hM.out.1, hM.out.2.1⟩, bel_on hb hM.out.2.2⟩
                      case measure => simp [intOf]; omega
                    · go_simp
                      have hb9 := bel_up hbL (.cells #[.int .i64 x.src, .int .i64 x.inp, .int .i64 x.out, .int .i64 x.dst, .int .i64 x.wt] 63)
                      refine hK.out _ _ ⟨fun _ => HSB.out _ hb9, ?_⟩
                      clear hK K
                      refine wpAnyU_one (i := 4) rfl (by kernel_rfl) (fun K hK => ?_)
                      refine if_wanted rfl (wp_app _ _ 23 rfl Wd.heap.size 63 i0 _ 5 40 Try.underlying23 hi hz0 hz1 hz2 rfl (by decide) (.slice (some ⟨Wd.heap.size, 0, none⟩) 0 0) 0 [] rfl ((lit1A Wd _ (Nat.le_refl _)).alloc _) (.slice (some ⟨g, 0, none⟩) p p) p (arcsV (out.take p)) rfl (HTS.out _ hb9) (arcsV_one _) (by unfold maxLen; omega) (by omega) (by simp <;> omega) ?_)
                      intro v4 w4 hown4 hgrow4 hne4
                      rw [Nat.zero_add, List.nil_append] at hown4
                      have hne4' := hne4 (by simp)
                      clear hne4
                      have hb4 : Below Wd.heap.size Wd w4 := hb9.grown hgrow4 (by simp <;> omega) (fun g' hg' => by have hg'' : some Wd.heap.size = some g' := hg'; injection hg'' with hg''; omega)
                      have hlit : ∀ j u, (arcCells x)[j]? = some u → w4.cell? ((⟨Wd.heap.size + 1, 0, none⟩ : Addr).add j) = some u := lit_kept hgrow4 (cells_new (Wd.alloc (.cells #[] 63)) #[.int .i64 x.src, .int .i64 x.inp, .int .i64 x.out, .int .i64 x.dst, .int .i64 x.wt] 63 (Wd.heap.size + 1) (by simp)) (by simp) (by simp [Value.ownBlock])
                      refine hK.out _ _ ⟨fun _ => HSB.out _ hb4, ?_⟩
                      clear hK K hgrow4
                      refine wpAnyU_one (i := 10) rfl (by kernel_rfl) (fun K hK => ?_)
                      refine if_wanted rfl (wp_app _ _ 23 rfl Wd.heap.size 63 i0 _ 5 40 Try.underlying23 hi hz0 hz1 hz2 rfl (by decide) v4 p (arcsV (out.take p)) rfl hown4 (.slice (some ⟨Wd.heap.size + 1, 0, none⟩) 1 1) 1 (arcCells x) rfl (Or.inr ⟨_, _, rfl, rfl, hlit⟩) (oneCell_arc x) (by unfold maxLen; omega) (by omega) (by have := hb4.size; omega) ?_)
                      intro v10 w10 hown10 hgrow10 hne10
                      have hb10 : Below Wd.heap.size Wd w10 := hb4.grown hgrow10 (by have := hb4.size; omega) (fun g' hg' => own_base hown4 g' hg')
                      refine hK.out _ _ ⟨fun _ => HSB.out _ hb10, ?_⟩
                      clear hK K
                      refine wpAnyU_one (i := 12) rfl (by kernel_rfl) (fun K hK => ?_)
                      refine if_wanted rfl (wp_app _ _ 23 rfl Wd.heap.size 63 i0 _ 5 40 Try.underlying23 hi hz0 hz1 hz2 rfl (by decide) v10 (p + 1) (arcsV (out.take p) ++ arcCells x) rfl hown10 (.slice (some ⟨gR, 0, none⟩) 0 0) 0 ([]) rfl (HRS.out _ hb10) (fun u hu => absurd hu (by simp)) (by unfold maxLen; omega) (by omega) (by have := hb10.size; omega) ?_)
                      intro v12 w12 hown12 hgrow12 hne12
                      have hb12 : Below Wd.heap.size Wd w12 := hb10.grown hgrow12 (by have := hb10.size; omega) (fun g' hg' => own_base hown10 g' hg')
                      refine hK.out _ _ ⟨fun _ => HSB.out _ hb12, ?_⟩
                      clear hK K
                      have hne := hne12 (hne10 hne4')
                      rw [HFIN.out.1, HFIN.out.2] at hown12
                      obtain ⟨g', cap', hv12, hg'⟩ := own_some hown12 hne
                      subst hv12
                      have hM : Hid (w.heap.size ≤ g' ∧ w12.ownsRow w.heap.size 63 5 (.slice (some ⟨g', 0, none⟩) (p + 1) cap') (p + 1) (arcsV (out.take p ++ x :: out.drop p)) ∧ Below wo.heap.size wo w12) := ⟨by have := HWd.out.2.1; omega, own_mono hown12 (by have := HWd.out.2.1; omega), bel_on HWd.out.1 hb12⟩
                      clear hown12 hgrow12 hne12 hown10 hgrow10 hne10 hne hne4'
                      refine wpAnyU_one (i := 13) rfl (by kernel_rfl) (fun K hK => ?_)
                      go_simp
                      refine hK.out _ _ ⟨fun h => absurd rfl h, ?_⟩
                      clear hK K
                      refine wpAnyU_done (by kernel_rfl) ?_ _
                      refine NoPanic.normal ?_
                      go_wp2
                      go_roundw
                      case rel => exact ⟨k + 1, (out.take p ++ x :: out.drop p), by omega, by go_num, HIN.out, HLEN.out.1, Or.inr ⟨by omega, g', (p + 1), cap', rfl, HLEN.out.2, by omega, hM.out.1, hM.out.2.1⟩, bel_on hb hM.out.2.2⟩
                      case measure => simp [intOf]; omega
                  · go_simp
                    have hbZ := bel_up (bel_self Wd) (.cells #[.int .i64 x.src, .int .i64 x.inp, .int .i64 x.out, .int .i64 x.dst, .int .i64 x.wt] 63)
                    refine hK.out _ _ ⟨fun _ => HSB.out _ hbZ, ?_⟩
                    clear hK K
                    refine wpAnyU_one (i := 0) rfl (by kernel_rfl) (fun K hK => ?_)
                    go_simp
                    have hb9 := bel_up hbZ (.cells #[] 63)
                    refine hK.out _ _ ⟨fun _ => HSB.out _ hb9, ?_⟩
                    clear hK K
                    have hlit0 := lit1A (Wd.alloc (.cells #[.int .i64 x.src, .int .i64 x.inp, .int .i64 x.out, .int .i64 x.dst, .int .i64 x.wt] 63)) Wd.heap.size (by simp)
                    rw [one_size] at hlit0
                    refine wpAnyU_one (i := 4) rfl (by kernel_rfl) (fun K hK => ?_)
                    refine if_wanted rfl (wp_app _ _ 23 rfl Wd.heap.size 63 i0 _ 5 40 Try.underlying23 hi hz0 hz1 hz2 rfl (by decide) (.slice (some ⟨Wd.heap.size + 1, 0, none⟩) 0 0) 0 [] rfl hlit0 (.slice (some ⟨g, 0, none⟩) p p) p (arcsV (out.take p)) rfl (HTS.out _ hb9) (arcsV_one _) (by unfold maxLen; omega) (by omega) (by simp <;> omega) ?_)
                    intro v4 w4 hown4 hgrow4 hne4
                    rw [Nat.zero_add, List.nil_append] at hown4
                    have hne4' := hne4 (by simp)
                    clear hne4
                    have hb4 : Below Wd.heap.size Wd w4 := hb9.grown hgrow4 (by simp <;> omega) (fun g' hg' => by have hg'' : some (Wd.heap.size + 1) = some g' := hg'; injection hg'' with hg''; omega)
                    have hlit : ∀ j u, (arcCells x)[j]? = some u → w4.cell? ((⟨Wd.heap.size, 0, none⟩ : Addr).add j) = some u := lit_kept hgrow4 (fun j u hj => Lib.cell?_alloc_some _ (cells_new Wd #[.int .i64 x.src, .int .i64 x.inp, .int .i64 x.out, .int .i64 x.dst, .int .i64 x.wt] 63 _ rfl j u hj)) (by simp <;> omega) (by simp [Value.ownBlock])
                    refine hK.out _ _ ⟨fun _ => HSB.out _ hb4, ?_⟩
                    clear hK K hgrow4
                    refine wpAnyU_one (i := 10) rfl (by kernel_rfl) (fun K hK => ?_)
                    refine if_wanted rfl (wp_app _ _ 23 rfl Wd.heap.size 63 i0 _ 5 40 Try.underlying23 hi hz0 hz1 hz2 rfl (by decide) v4 p (arcsV (out.take p)) rfl hown4 (.slice (some ⟨Wd.heap.size, 0, none⟩) 1 1) 1 (arcCells x) rfl (Or.inr ⟨_, _, rfl, rfl, hlit⟩) (oneCell_arc x) (by unfold maxLen; omega) (by omega) (by have := hb4.size; omega) ?_)
                    intro v10 w10 hown10 hgrow10 hne10
                    have hb10 : Below Wd.heap.size Wd w10 := hb4.grown hgrow10 (by have := hb4.size; omega) (fun g' hg' => own_base hown4 g' hg')
                    refine hK.out _ _ ⟨fun _ => HSB.out _ hb10, ?_⟩
                    clear hK K
                    refine wpAnyU_one (i := 12) rfl (by kernel_rfl) (fun K hK => ?_)
                    refine if_wanted rfl (wp_app _ _ 23 rfl Wd.heap.size 63 i0 _ 5 40 Try.underlying23 hi hz0 hz1 hz2 rfl (by decide) v10 (p + 1) (arcsV (out.take p) ++ arcCells x) rfl hown10 (.slice (some ⟨gR, 0, none⟩) 0 0) 0 ([]) rfl (HRS.out _ hb10) (fun u hu => absurd hu (by simp)) (by unfold maxLen; omega) (by omega) (by have := hb10.size; omega) ?_)
                    intro v12 w12 hown12 hgrow12 hne12
                    have hb12 : Below Wd.heap.size Wd w12 := hb10.grown hgrow12 (by have := hb10.size; omega) (fun g' hg' => own_base hown10 g' hg')
                    refine hK.out _ _ ⟨fun _ => HSB.out _ hb12, ?_⟩
                    clear hK K
                    have hne := hne12 (hne10 hne4')
                    rw [HFIN.out.1, HFIN.out.2] at hown12
                    obtain ⟨g', cap', hv12, hg'⟩ := own_some hown12 hne
                    subst hv12
                    have hM : Hid (w.heap.size ≤ g' ∧ w12.ownsRow w.heap.size 63 5 (.slice (some ⟨g', 0, none⟩) (p + 1) cap') (p + 1) (arcsV (out.take p ++ x :: out.drop p)) ∧ Below wo.heap.size wo w12) := ⟨by have := HWd.out.2.1; omega, own_mono hown12 (by have := HWd.out.2.1; omega), bel_on HWd.out.1 hb12⟩
                    clear hown12 hgrow12 hne12 hown10 hgrow10 hne10 hne hne4'
                    refine wpAnyU_one (i := 13) rfl (by kernel_rfl) (fun K hK => ?_)
                    go_simp
                    refine hK.out _ _ ⟨fun h => absurd rfl h, ?_⟩
                    clear hK K
                    refine wpAnyU_done (by kernel_rfl) ?_ _
                    refine NoPanic.normal ?_
                    go_wp2
                    go_roundw
                    case rel => exact ⟨k + 1, (out.take p ++ x :: out.drop p), by omega, by go_num, HIN.out, HLEN.out.1, Or.inr ⟨by omega, g', (p + 1), cap', rfl, HLEN.out.2, by omega, hM.out.1, hM.out.2.1⟩, bel_on hb hM.out.2.2⟩
                    case measure => simp [intOf]; omega
                · have hcb : ¬ p = cap := fun e => hca e.symm
                  go_wp2_with (at_builtin; refine wpList_append_own _ rfl _ _ 23 rfl w2.heap.size 63 i0 _ 5 40 Try.underlying23 hi hz0 hz1 hz2 rfl (by decide) _ _ _ rfl (World.ownsRow_made w2 #[] 0 (Nat.le_refl _) (Nat.zero_le _) rfl) ⟨g, p * 5, none⟩ (n - p) _ (arcsV (out.drop p)) rfl HLD.out (fun j u hj => Lib.cell?_alloc_some _ (HSR.out j u hj)) (arcsV_one _) (by unfold maxLen; omega) (by omega) (by simp) ?_; intro vR wR hownR0 hgrowR hnilR)
                  obtain ⟨gR, capR, hvR, hgR⟩ := own_some hownR0 (fun e => by have q : Value.slice (some ⟨w2.heap.size, 0, none⟩) 0 0 = Value.slice none 0 0 := (hnilR.1 e).1; cases q)
                  subst hvR
                  have hbR : Below w2.heap.size w2 wR := ((Below.refl _ w2).alloc (Nat.le_refl _) _).grown hgrowR (by simp) (fun g' hg' => by have hg'' : some w2.heap.size = some g' := hg'; injection hg'' with hg''; omega)
                  rw [List.nil_append, Nat.zero_add] at hownR0
                  have hown0 : wR.ownsRow w2.heap.size 63 5 (.slice (some ⟨gR, 0, none⟩) (n - p) capR) (n - p) (arcsV (out.drop p)) := hownR0
                  clear hownR0 hgrowR hnilR
                  have HB2 : Hid (Below wo.heap.size wo wR) := bel_on hbw2 hbR
                  obtain ⟨Wd, hWd⟩ : ∃ Wd, Wd = wR.drew := ⟨_, rfl⟩
                  have HWd : Hid (Below wo.heap.size wo Wd ∧ wo.heap.size ≤ Wd.heap.size ∧ Wd.ownsRow w2.heap.size 63 5 (.slice (some ⟨gR, 0, none⟩) (n - p) capR) (n - p) (arcsV (out.drop p))) := by
                    rw [hWd]
                    exact ⟨HB2.out.drew, HB2.out.size, ownsRow_bel hown0 (bel_self _).drew⟩
                  have hxs := (HW.out Wd HWd.out.1).1
                  have x0 := hxs.c0 k hlt
                  have x1 := hxs.c1 k hlt
                  have x2 := hxs.c2 k hlt
                  have x3 := hxs.c3 k hlt
                  have x4 := hxs.c4 k hlt
                  rw [HXK.out] at x0 x1 x2 x3 x4
                  have hS0 : (fun wx : World => wx.cell? ⟨ab, aoff + k * 5, none⟩ = some (.int .i64 x.src) ∧ wx.cell? ⟨ab, aoff + k * 5 + 1, none⟩ = some (.int .i64 x.inp) ∧ wx.cell? ⟨ab, aoff + k * 5 + 2, none⟩ = some (.int .i64 x.out) ∧ wx.cell? ⟨ab, aoff + k * 5 + 3, none⟩ = some (.int .i64 x.dst) ∧ wx.cell? ⟨ab, aoff + k * 5 + 4, none⟩ = some (.int .i64 x.wt)) Wd := ⟨x0, x1, x2, x3, x4⟩
                  have HSB : Hid (∀ wx : World, Below Wd.heap.size Wd wx → (fun wx : World => wx.cell? ⟨ab, aoff + k * 5, none⟩ = some (.int .i64 x.src) ∧ wx.cell? ⟨ab, aoff + k * 5 + 1, none⟩ = some (.int .i64 x.inp) ∧ wx.cell? ⟨ab, aoff + k * 5 + 2, none⟩ = some (.int .i64 x.out) ∧ wx.cell? ⟨ab, aoff + k * 5 + 3, none⟩ = some (.int .i64 x.dst) ∧ wx.cell? ⟨ab, aoff + k * 5 + 4, none⟩ = some (.int .i64 x.wt)) wx) := fun wx hb => ⟨bel_c hb x0, bel_c hb x1, bel_c hb x2, bel_c hb x3, bel_c hb x4⟩
                  have HRS : Hid (∀ wx : World, Below Wd.heap.size Wd wx → SrcAt wx 5 (.slice (some ⟨gR, 0, none⟩) (n - p) capR) (n - p) (arcsV (out.drop p))) := fun wx hb => Or.inr ⟨_, _, rfl, HLD.out, fun j u hj => (ownsRow_bel HWd.out.2.2 hb).cells (g := gR) rfl j u hj⟩
                  have HTS : Hid (∀ wx : World, Below Wd.heap.size Wd wx → SrcAt wx 5 (.slice (some ⟨g, 0, none⟩) p cap) p (arcsV (out.take p))) := fun wx hb => Or.inr ⟨_, _, rfl, HTK.out, fun j u hj => by have := row_src (HW.out wx (bel_on HWd.out.1 hb)).2 0 p (by omega) j u (by rw [List.drop_zero]; exact hj); rw [Nat.zero_mul] at this; exact this⟩
                  have HFIN : Hid ((arcsV (out.take p) ++ arcCells x ++ arcsV (out.drop p)) = arcsV (out.take p ++ x :: out.drop p) ∧ (p + 1 + (n - p)) = (n + 1)) := ⟨by rw [← arcsV_cut], by omega⟩
                  have HWD : Hid (Wd = wR.drew) := hWd
                  have hWs : w2.heap.size ≤ Wd.heap.size := by rw [hWd]; exact hbR.size
                  clear hWd hown0 hbR x0 x1 x2 x3 x4 hxs
                  refine wp_region_noPanic ?_
                  refine wp_region_U (fun wx : World => wx.cell? ⟨ab, aoff + k * 5, none⟩ = some (.int .i64 x.src) ∧ wx.cell? ⟨ab, aoff + k * 5 + 1, none⟩ = some (.int .i64 x.inp) ∧ wx.cell? ⟨ab, aoff + k * 5 + 2, none⟩ = some (.int .i64 x.out) ∧ wx.cell? ⟨ab, aoff + k * 5 + 3, none⟩ = some (.int .i64 x.dst) ∧ wx.cell? ⟨ab, aoff + k * 5 + 4, none⟩ = some (.int .i64 x.wt)) 13 (by kernel_rfl) (by rw [← HWD.out]; exact hS0) (fun _ => ?_)
                  rw [← HWD.out]
                  clear HWD
                  refine wpAnyU_take (i := 1) (v := .slice (some ⟨g, 0, none⟩) n cap) rfl (by kernel_rfl) (by kernel_rfl) (by kernel_rfl) (by kernel_rfl) (fun _ _ _ h => h) (Or.inl ⟨by rfl, fun wl hSw => ?_⟩) hS0 ?_
                  · (try dsimp only at hSw); go_simp
                  refine wpAnyU_take (i := 2) (v := .int .i64 p) rfl (by kernel_rfl) (by kernel_rfl) (by kernel_rfl) (by kernel_rfl) (fun _ _ _ h => h) (Or.inl ⟨by rfl, fun wl hSw => ?_⟩) hS0 ?_
                  · (try dsimp only at hSw); go_simp
                  refine wpAnyU_take (i := 3) (v := .slice (some ⟨g, 0, none⟩) p cap) rfl (by kernel_rfl) (by kernel_rfl) (by kernel_rfl) (by kernel_rfl) (fun _ _ _ h => h) (Or.inl ⟨by rfl, fun wl hSw => ?_⟩) hS0 ?_
                  · (try dsimp only at hSw); go_simp
                  refine wpAnyU_take (i := 5) (v := .slice (some ⟨ab, aoff, none⟩) m ac) rfl (by kernel_rfl) (by kernel_rfl) (by kernel_rfl) (by kernel_rfl) (fun _ _ _ h => h) (Or.inl ⟨by rfl, fun wl hSw => ?_⟩) hS0 ?_
                  · (try dsimp only at hSw); go_simp
                  refine wpAnyU_take (i := 6) (v := .int .i64 k) rfl (by kernel_rfl) (by kernel_rfl) (by kernel_rfl) (by kernel_rfl) (fun _ _ _ h => h) (Or.inl ⟨by rfl, fun wl hSw => ?_⟩) hS0 ?_
                  · (try dsimp only at hSw); go_simp
                  refine wpAnyU_take (i := 7) (v := .pointer (some ⟨ab, aoff + k * 5, none⟩)) rfl (by kernel_rfl) (by kernel_rfl) (by kernel_rfl) (by kernel_rfl) (fun _ _ _ h => h) (Or.inl ⟨by rfl, fun wl hSw => ?_⟩) hS0 ?_
                  · (try dsimp only at hSw); go_simp
                  refine wpAnyU_take (i := 8) (v := .agg #[.int .i64 x.src, .int .i64 x.inp, .int .i64 x.out, .int .i64 x.dst, .int .i64 x.wt]) rfl (by kernel_rfl) (by kernel_rfl) (by kernel_rfl) (by kernel_rfl) (fun _ _ _ h => h) (Or.inl ⟨by rfl, fun wl hSw => ?_⟩) hS0 ?_
                  · (try dsimp only at hSw); go_simp
                  refine wpAnyU_take (i := 11) (v := .slice (some ⟨gR, 0, none⟩) (n - p) capR) rfl (by kernel_rfl) (by kernel_rfl) (by kernel_rfl) (by kernel_rfl) (fun _ _ _ h => h) (Or.inl ⟨by rfl, fun wl hSw => ?_⟩) hS0 ?_
                  · (try dsimp only at hSw); go_simp
                  refine wpAnyU_two (i := 0) (j := 9) rfl rfl (by kernel_rfl) (fun K hK => ?_) (fun K hK => ?_)
                  · go_simp
                    have hbL := bel_up (bel_self Wd) (.cells #[] 63)
                    refine hK.out _ _ ⟨fun _ => HSB.out _ hbL, ?_⟩
                    clear hK K
                    refine wpAnyU_two (i := 4) (j := 9) rfl rfl (by kernel_rfl) (fun K hK => ?_) (fun K hK => ?_)
                    · refine if_wanted rfl (wp_app _ _ 23 rfl Wd.heap.size 63 i0 _ 5 40 Try.underlying23 hi hz0 hz1 hz2 rfl (by decide) (.slice (some ⟨Wd.heap.size, 0, none⟩) 0 0) 0 [] rfl (lit1A Wd _ (Nat.le_refl _)) (.slice (some ⟨g, 0, none⟩) p cap) p (arcsV (out.take p)) rfl (HTS.out _ hbL) (arcsV_one _) (by unfold maxLen; omega) (by omega) (by simp <;> omega) ?_)
                      intro v4 w4 hown4 hgrow4 hne4
                      rw [Nat.zero_add, List.nil_append] at hown4
                      have hne4' := hne4 (by simp)
                      clear hne4
                      have hb4 : Below Wd.heap.size Wd w4 := hbL.grown hgrow4 (by simp) (fun g' hg' => by have hg'' : some Wd.heap.size = some g' := hg'; injection hg'' with hg''; omega)
                      refine hK.out _ _ ⟨fun _ => HSB.out _ hb4, ?_⟩
                      clear hK K hgrow4
                      refine wpAnyU_one (i := 9) rfl (by kernel_rfl) (fun K hK => ?_)
                      go_simp
                      have hb9 := bel_up hb4 (.cells #[.int .i64 x.src, .int .i64 x.inp, .int .i64 x.out, .int .i64 x.dst, .int .i64 x.wt] 63)
                      refine hK.out _ _ ⟨fun _ => HSB.out _ hb9, ?_⟩
                      clear hK K
                      have hown9 := hown4.alloc (.cells #[.int .i64 x.src, .int .i64 x.inp, .int .i64 x.out, .int .i64 x.dst, .int .i64 x.wt] 63)
                      refine wpAnyU_one (i := 10) rfl (by kernel_rfl) (fun K hK => ?_)
                      refine if_wanted rfl (wp_app _ _ 23 rfl Wd.heap.size 63 i0 _ 5 40 Try.underlying23 hi hz0 hz1 hz2 rfl (by decide) v4 p (arcsV (out.take p)) rfl hown9 (.slice (some ⟨w4.heap.size, 0, none⟩) 1 1) 1 (arcCells x) rfl (Or.inr ⟨_, _, rfl, rfl, cells_new w4 #[.int .i64 x.src, .int .i64 x.inp, .int .i64 x.out, .int .i64 x.dst, .int .i64 x.wt] 63 _ rfl⟩) (oneCell_arc x) (by unfold maxLen; omega) (by omega) (by have := hb9.size; omega) ?_)
                      intro v10 w10 hown10 hgrow10 hne10
                      have hb10 : Below Wd.heap.size Wd w10 := hb9.grown hgrow10 (by have := hb9.size; omega) (fun g' hg' => own_base hown9 g' hg')
                      refine hK.out _ _ ⟨fun _ => HSB.out _ hb10, ?_⟩
                      clear hK K
                      refine wpAnyU_one (i := 12) rfl (by kernel_rfl) (fun K hK => ?_)
                      refine if_wanted rfl (wp_app _ _ 23 rfl Wd.heap.size 63 i0 _ 5 40 Try.underlying23 hi hz0 hz1 hz2 rfl (by decide) v10 (p + 1) (arcsV (out.take p) ++ arcCells x) rfl hown10 (.slice (some ⟨gR, 0, none⟩) (n - p) capR) (n - p) (arcsV (out.drop p)) rfl (HRS.out _ hb10) (arcsV_one _) (by unfold maxLen; omega) (by omega) (by have := hb10.size; omega) ?_)
                      intro v12 w12 hown12 hgrow12 hne12
                      have hb12 : Below Wd.heap.size Wd w12 := hb10.grown hgrow12 (by have := hb10.size; omega) (fun g' hg' => own_base hown10 g' hg')
                      refine hK.out _ _ ⟨fun _ => HSB.out _ hb12, ?_⟩
                      clear hK K
                      have hne := hne12 (hne10 hne4')
                      rw [HFIN.out.1, HFIN.out.2] at hown12
                      obtain ⟨g', cap', hv12, hg'⟩ := own_some hown12 hne
                      subst hv12
                      have hM : Hid (w.heap.size ≤ g' ∧ w12.ownsRow w.heap.size 63 5 (.slice (some ⟨g', 0, none⟩) (n + 1) cap') (n + 1) (arcsV (out.take p ++ x :: out.drop p)) ∧ Below wo.heap.size wo w12) := ⟨by have := HWd.out.2.1; omega, own_mono hown12 (by have := HWd.out.2.1; omega), bel_on HWd.out.1 hb12⟩
                      clear hown12 hgrow12 hne12 hown10 hgrow10 hne10 hne hne4'
                      refine wpAnyU_one (i := 13) rfl (by kernel_rfl) (fun K hK => ?_)
                      go_simp
                      refine hK.out _ _ ⟨fun h => absurd rfl h, ?_⟩
                      clear hK K
                      refine wpAnyU_done (by kernel_rfl) ?_ _
                      refine NoPanic.normal ?_
                      go_wp2
                      go_roundw
                      case rel => exact ⟨k + 1, (out.take p ++ x :: out.drop p), by omega, by go_num, HIN.out, HLEN.out.1, Or.inr ⟨by omega, g', (n + 1), cap', rfl, HLEN.out.2, by omega, hM.out.1, hM.out.2.1⟩, bel_on hb hM.out.2.2⟩
                      case measure => simp [intOf]; omega
                    · go_simp
                      have hb9 := bel_up hbL (.cells #[.int .i64 x.src, .int .i64 x.inp, .int .i64 x.out, .int .i64 x.dst, .int .i64 x.wt] 63)
                      refine hK.out _ _ ⟨fun _ => HSB.out _ hb9, ?_⟩
                      clear hK K
                      refine wpAnyU_one (i := 4) rfl (by kernel_rfl) (fun K hK => ?_)
                      refine if_wanted rfl (wp_app _ _ 23 rfl Wd.heap.size 63 i0 _ 5 40 Try.underlying23 hi hz0 hz1 hz2 rfl (by decide) (.slice (some ⟨Wd.heap.size, 0, none⟩) 0 0) 0 [] rfl ((lit1A Wd _ (Nat.le_refl _)).alloc _) (.slice (some ⟨g, 0, none⟩) p cap) p (arcsV (out.take p)) rfl (HTS.out _ hb9) (arcsV_one _) (by unfold maxLen; omega) (by omega) (by simp <;> omega) ?_)
                      intro v4 w4 hown4 hgrow4 hne4
                      rw [Nat.zero_add, List.nil_append] at hown4
                      have hne4' := hne4 (by simp)
                      clear hne4
                      have hb4 : Below Wd.heap.size Wd w4 := hb9.grown hgrow4 (by simp <;> omega) (fun g' hg' => by have hg'' : some Wd.heap.size = some g' := hg'; injection hg'' with hg''; omega)
                      have hlit : ∀ j u, (arcCells x)[j]? = some u → w4.cell? ((⟨Wd.heap.size + 1, 0, none⟩ : Addr).add j) = some u := lit_kept hgrow4 (cells_new (Wd.alloc (.cells #[] 63)) #[.int .i64 x.src, .int .i64 x.inp, .int .i64 x.out, .int .i64 x.dst, .int .i64 x.wt] 63 (Wd.heap.size + 1) (by simp)) (by simp) (by simp [Value.ownBlock])
                      refine hK.out _ _ ⟨fun _ => HSB.out _ hb4, ?_⟩
                      clear hK K hgrow4
                      refine wpAnyU_one (i := 10) rfl (by kernel_rfl) (fun K hK => ?_)
                      refine if_wanted rfl (wp_app _ _ 23 rfl Wd.heap.size 63 i0 _ 5 40 Try.underlying23 hi hz0 hz1 hz2 rfl (by decide) v4 p (arcsV (out.take p)) rfl hown4 (.slice (some ⟨Wd.heap.size + 1, 0, none⟩) 1 1) 1 (arcCells x) rfl (Or.inr ⟨_, _, rfl, rfl, hlit⟩) (oneCell_arc x) (by unfold maxLen; omega) (by omega) (by have := hb4.size; omega) ?_)
                      intro v10 w10 hown10 hgrow10 hne10
                      have hb10 : Below Wd.heap.size Wd w10 := hb4.grown hgrow10 (by have := hb4.size; omega) (fun g' hg' => own_base hown4 g' hg')
                      refine hK.out _ _ ⟨fun _ => HSB.out _ hb10, ?_⟩
                      clear hK K
                      refine wpAnyU_one (i := 12) rfl (by kernel_rfl) (fun K hK => ?_)
                      refine if_wanted rfl (wp_app _ _ 23 rfl Wd.heap.size 63 i0 _ 5 40 Try.underlying23 hi hz0 hz1 hz2 rfl (by decide) v10 (p + 1) (arcsV (out.take p) ++ arcCells x) rfl hown10 (.slice (some ⟨gR, 0, none⟩) (n - p) capR) (n - p) (arcsV (out.drop p)) rfl (HRS.out _ hb10) (arcsV_one _) (by unfold maxLen; omega) (by omega) (by have := hb10.size; omega) ?_)
                      intro v12 w12 hown12 hgrow12 hne12
                      have hb12 : Below Wd.heap.size Wd w12 := hb10.grown hgrow12 (by have := hb10.size; omega) (fun g' hg' => own_base hown10 g' hg')
                      refine hK.out _ _ ⟨fun _ => HSB.out _ hb12, ?_⟩
                      clear hK K
                      have hne := hne12 (hne10 hne4')
                      rw [HFIN.out.1, HFIN.out.2] at hown12
                      obtain ⟨g', cap', hv12, hg'⟩ := own_some hown12 hne
                      subst hv12
                      have hM : Hid (w.heap.size ≤ g' ∧ w12.ownsRow w.heap.size 63 5 (.slice (some ⟨g', 0, none⟩) (n + 1) cap') (n + 1) (arcsV (out.take p ++ x :: out.drop p)) ∧ Below wo.heap.size wo w12) := ⟨by have := HWd.out.2.1; omega, own_mono hown12 (by have := HWd.out.2.1; omega), bel_on HWd.out.1 hb12⟩
                      clear hown12 hgrow12 hne12 hown10 hgrow10 hne10 hne hne4'
                      refine wpAnyU_one (i := 13) rfl (by kernel_rfl) (fun K hK => ?_)
                      go_simp
                      refine hK.out _ _ ⟨fun h => absurd rfl h, ?_⟩
                      clear hK K
                      refine wpAnyU_done (by kernel_rfl) ?_ _
                      refine NoPanic.normal ?_
                      go_wp2
                      go_roundw
                      case rel => exact ⟨k + 1, (out.take p ++ x :: out.drop p), by omega, by go_num, HIN.out, HLEN.out.1, Or.inr ⟨by omega, g', (n + 1), cap', rfl, HLEN.out.2, by omega, hM.out.1, hM.out.2.1⟩, bel_on hb hM.out.2.2⟩
                      case measure => simp [intOf]; omega
                  · go_simp
                    have hbZ := bel_up (bel_self Wd) (.cells #[.int .i64 x.src, .int .i64 x.inp, .int .i64 x.out, .int .i64 x.dst, .int .i64 x.wt] 63)
                    refine hK.out _ _ ⟨fun _ => HSB.out _ hbZ, ?_⟩
                    clear hK K
                    refine wpAnyU_one (i := 0) rfl (by kernel_rfl) (fun K hK => ?_)
                    go_simp
                    have hb9 := bel_up hbZ (.cells #[] 63)
                    refine hK.out _ _ ⟨fun _ => HSB.out _ hb9, ?_⟩
                    clear hK K
                    have hlit0 := lit1A (Wd.alloc (.cells #[.int .i64 x.src, .int .i64 x.inp, .int .i64 x.out, .int .i64 x.dst, .int .i64 x.wt] 63)) Wd.heap.size (by simp)
                    rw [one_size] at hlit0
                    refine wpAnyU_one (i := 4) rfl (by kernel_rfl) (fun K hK => ?_)
                    refine if_wanted rfl (wp_app _ _ 23 rfl Wd.heap.size 63 i0 _ 5 40 Try.underlying23 hi hz0 hz1 hz2 rfl (by decide) (.slice (some ⟨Wd.heap.size + 1, 0, none⟩) 0 0) 0 [] rfl hlit0 (.slice (some ⟨g, 0, none⟩) p cap) p (arcsV (out.take p)) rfl (HTS.out _ hb9) (arcsV_one _) (by unfold maxLen; omega) (by omega) (by simp <;> omega) ?_)
                    intro v4 w4 hown4 hgrow4 hne4
                    rw [Nat.zero_add, List.nil_append] at hown4
                    have hne4' := hne4 (by simp)
                    clear hne4
                    have hb4 : Below Wd.heap.size Wd w4 := hb9.grown hgrow4 (by simp <;> omega) (fun g' hg' => by have hg'' : some (Wd.heap.size + 1) = some g' := hg'; injection hg'' with hg''; omega)
                    have hlit : ∀ j u, (arcCells x)[j]? = some u → w4.cell? ((⟨Wd.heap.size, 0, none⟩ : Addr).add j) = some u := lit_kept hgrow4 (fun j u hj => Lib.cell?_alloc_some _ (cells_new Wd #[.int .i64 x.src, .int .i64 x.inp, .int .i64 x.out, .int .i64 x.dst, .int .i64 x.wt] 63 _ rfl j u hj)) (by simp <;> omega) (by simp [Value.ownBlock])
                    refine hK.out _ _ ⟨fun _ => HSB.out _ hb4, ?_⟩
                    clear hK K hgrow4
                    refine wpAnyU_one (i := 10) rfl (by kernel_rfl) (fun K hK => ?_)
                    refine if_wanted rfl (wp_app _ _ 23 rfl Wd.heap.size 63 i0 _ 5 40 Try.underlying23 hi hz0 hz1 hz2 rfl (by decide) v4 p (arcsV (out.take p)) rfl hown4 (.slice (some ⟨Wd.heap.size, 0, none⟩) 1 1) 1 (arcCells x) rfl (Or.inr ⟨_, _, rfl, rfl, hlit⟩) (oneCell_arc x) (by unfold maxLen; omega) (by omega) (by have := hb4.size; omega) ?_)
                    intro v10 w10 hown10 hgrow10 hne10
                    have hb10 : Below Wd.heap.size Wd w10 := hb4.grown hgrow10 (by have := hb4.size; omega) (fun g' hg' => own_base hown4 g' hg')
                    refine hK.out _ _ ⟨fun _ => HSB.out _ hb10, ?_⟩
                    clear hK K
                    refine wpAnyU_one (i := 12) rfl (by kernel_rfl) (fun K hK => ?_)
                    refine if_wanted rfl (wp_app _ _ 23 rfl Wd.heap.size 63 i0 _ 5 40 Try.underlying23 hi hz0 hz1 hz2 rfl (by decide) v10 (p + 1) (arcsV (out.take p) ++ arcCells x) rfl hown10 (.slice (some ⟨gR, 0, none⟩) (n - p) capR) (n - p) (arcsV (out.drop p)) rfl (HRS.out _ hb10) (arcsV_one _) (by unfold maxLen; omega) (by omega) (by have := hb10.size; omega) ?_)
                    intro v12 w12 hown12 hgrow12 hne12
                    have hb12 : Below Wd.heap.size Wd w12 := hb10.grown hgrow12 (by have := hb10.size; omega) (fun g' hg' => own_base hown10 g' hg')
                    refine hK.out _ _ ⟨fun _ => HSB.out _ hb12, ?_⟩
                    clear hK K
                    have hne := hne12 (hne10 hne4')
                    rw [HFIN.out.1, HFIN.out.2] at hown12
                    obtain ⟨g', cap', hv12, hg'⟩ := own_some hown12 hne
                    subst hv12
                    have hM : Hid (w.heap.size ≤ g' ∧ w12.ownsRow w.heap.size 63 5 (.slice (some ⟨g', 0, none⟩) (n + 1) cap') (n + 1) (arcsV (out.take p ++ x :: out.drop p)) ∧ Below wo.heap.size wo w12) := ⟨by have := HWd.out.2.1; omega, own_mono hown12 (by have := HWd.out.2.1; omega), bel_on HWd.out.1 hb12⟩
                    clear hown12 hgrow12 hne12 hown10 hgrow10 hne10 hne hne4'
                    refine wpAnyU_one (i := 13) rfl (by kernel_rfl) (fun K hK => ?_)
                    go_simp
                    refine hK.out _ _ ⟨fun h => absurd rfl h, ?_⟩
                    clear hK K
                    refine wpAnyU_done (by kernel_rfl) ?_ _
                    refine NoPanic.normal ?_
                    go_wp2
                    go_roundw
                    case rel => exact ⟨k + 1, (out.take p ++ x :: out.drop p), by omega, by go_num, HIN.out, HLEN.out.1, Or.inr ⟨by omega, g', (n + 1), cap', rfl, HLEN.out.2, by omega, hM.out.1, hM.out.2.1⟩, bel_on hb hM.out.2.2⟩
                    case measure => simp [intOf]; omega
              | false =>
                have HAH2 : Hid (aheadB y x = false) := hah
                have hcall := ahead_any y x
                rw [hah] at hcall
                clear hah
                go_wp2
                go_region_held3 (fun wx => wx.cell? ⟨ab, aoff + k * 5, none⟩ = some (.int .i64 x.src) ∧ wx.cell? ⟨ab, aoff + k * 5 + 1, none⟩ = some (.int .i64 x.inp) ∧ wx.cell? ⟨ab, aoff + k * 5 + 2, none⟩ = some (.int .i64 x.out) ∧ wx.cell? ⟨ab, aoff + k * 5 + 3, none⟩ = some (.int .i64 x.dst) ∧ wx.cell? ⟨ab, aoff + k * 5 + 4, none⟩ = some (.int .i64 x.wt) ∧ wx.cell? ⟨g, (p - 1) * 5, none⟩ = some (.int .i64 y.src) ∧ wx.cell? ⟨g, (p - 1) * 5 + 1, none⟩ = some (.int .i64 y.inp) ∧ wx.cell? ⟨g, (p - 1) * 5 + 2, none⟩ = some (.int .i64 y.out) ∧ wx.cell? ⟨g, (p - 1) * 5 + 3, none⟩ = some (.int .i64 y.dst) ∧ wx.cell? ⟨g, (p - 1) * 5 + 4, none⟩ = some (.int .i64 y.wt)) (first | exact ⟨bel_c hbw (drew_cell x0), bel_c hbw (drew_cell x1), bel_c hbw (drew_cell x2), bel_c hbw (drew_cell x3), bel_c hbw (drew_cell x4), bel_c hbw (drew_cell y0), bel_c hbw (drew_cell y1), bel_c hbw (drew_cell y2), bel_c hbw (drew_cell y3), bel_c hbw (drew_cell y4)⟩ | exact ⟨drew_cell x0, drew_cell x1, drew_cell x2, drew_cell x3, drew_cell x4, drew_cell y0, drew_cell y1, drew_cell y2, drew_cell y3, drew_cell y4⟩) ((go_at_call 64; refine (hcall _).mono ?_; rintro e w2 ⟨rfl, hbw⟩))
                have hbw2 := bel_on hbw1.drew hbw
                clear x0 x1 x2 x3 x4 y0 y1 y2 y3 y4 hbw hcall
                have hYZ : 0 ≤ y.wt := HW0.out _ (List.mem_of_mem_take ((HM.out.mem y).1 (by rw [← HY.out]; simp [List.getD, HOL.out, show p - 1 < n by omega])).1)
                have hXZ : 0 ≤ x.wt := HW0.out _ (by rw [← HXK.out]; simp [List.getD, HL.out, hlt])
                obtain ⟨z, hz⟩ : ∃ z, z = lessC y.wt x.wt := ⟨_, rfl⟩
                have HZ : Hid (z = if x.wt < y.wt then x.wt else y.wt) := by
                  show z = _
                  rw [hz]
                  unfold lessC
                  split
                  · omega
                  · split <;> split <;> omega
                have HLS : Hid (∀ W, Calls Try.prog 27 #[.int .i64 y.wt, .int .i64 x.wt] W fun e w' => e = .returned (.int .i64 z) ∧ w' = W) := fun W => by rw [hz]; exact lessRef_any y.wt x.wt W
                clear hz hYZ hXZ
                have HIN : Hid (IsMin (out.set (p - 1) ⟨y.src, y.inp, y.out, y.dst, z⟩) (ars.take (k + 1))) := by
                  show IsMin _ (ars.take (k + 1))
                  rw [lt_take (by rw [HL.out]; exact hlt) HXK.out]
                  refine HM.out.less (y := y) (by rw [HOL.out]; omega) HY.out ?_ ⟨rfl, rfl, rfl, rfl⟩ HZ.out
                  rcases ahead_tri y x with q | q | q
                  · rw [HAH2.out] at q; exact absurd q (by decide)
                  · exact q
                  · rw [HAH.out] at q; exact absurd q (by decide)
                obtain ⟨Wd, hWd⟩ : ∃ Wd, Wd = w2.drew := ⟨_, rfl⟩
                have HWd : Hid (Below wo.heap.size wo Wd) := (by rw [hWd]; exact hbw2.drew : Below wo.heap.size wo Wd)
                have HRW := (HW.out Wd HWd.out).2
                have hrw := (ARow.of HRW).1
                have y4 : Wd.cell? ⟨g, (p - 1) * 5 + 4, none⟩ = some (.int .i64 y.wt) := (hrw.cell (p - 1) 4 (by omega) (by omega)).trans (by rw [HY.out]; rfl)
                have x4 := (HW.out Wd HWd.out).1.c4 k hlt
                rw [HXK.out] at x4
                have f4 : Wd.frozen? ⟨g, (p - 1) * 5 + 4, none⟩ = false := hrw.frz _ (by omega)
                have hS0 : (fun wx : World => wx.cell? ⟨g, (p - 1) * 5 + 4, none⟩ = some (.int .i64 y.wt) ∧ wx.cell? ⟨ab, aoff + k * 5 + 4, none⟩ = some (.int .i64 x.wt)) Wd := ⟨y4, x4⟩
                have HWD : Hid (Wd = w2.drew) := hWd
                clear hWd hrw
                go_wp2
                refine wp_region_noPanic ?_
                refine wp_region_U (fun wx : World => wx.cell? ⟨g, (p - 1) * 5 + 4, none⟩ = some (.int .i64 y.wt) ∧ wx.cell? ⟨ab, aoff + k * 5 + 4, none⟩ = some (.int .i64 x.wt)) 17 (by kernel_rfl) (by rw [← HWD.out]; exact hS0) (fun _ => ?_)
                rw [← HWD.out]
                clear HWD
                refine wpAnyU_take (i := 0) (v := .slice (some ⟨g, 0, none⟩) n cap) rfl (by kernel_rfl) (by kernel_rfl) (by kernel_rfl) (by kernel_rfl) (fun _ _ _ h => h) (Or.inl ⟨by rfl, fun wl hSw => ?_⟩) hS0 ?_
                · (try dsimp only at hSw); go_simp
                refine wpAnyU_take (i := 1) (v := .int .i64 p) rfl (by kernel_rfl) (by kernel_rfl) (by kernel_rfl) (by kernel_rfl) (fun _ _ _ h => h) (Or.inl ⟨by rfl, fun wl hSw => ?_⟩) hS0 ?_
                · (try dsimp only at hSw); go_simp
                refine wpAnyU_take (i := 2) (v := .int .i64 ((p : Int) - 1)) rfl (by kernel_rfl) (by kernel_rfl) (by kernel_rfl) (by kernel_rfl) (fun _ _ _ h => h) (Or.inl ⟨by rfl, fun wl hSw => ?_⟩) hS0 ?_
                · (try dsimp only at hSw); go_simp
                refine wpAnyU_take (i := 3) (v := .slice (some ⟨g, 0, none⟩) n cap) rfl (by kernel_rfl) (by kernel_rfl) (by kernel_rfl) (by kernel_rfl) (fun _ _ _ h => h) (Or.inl ⟨by rfl, fun wl hSw => ?_⟩) hS0 ?_
                · (try dsimp only at hSw); go_simp
                refine wpAnyU_take (i := 4) (v := .int .i64 p) rfl (by kernel_rfl) (by kernel_rfl) (by kernel_rfl) (by kernel_rfl) (fun _ _ _ h => h) (Or.inl ⟨by rfl, fun wl hSw => ?_⟩) hS0 ?_
                · (try dsimp only at hSw); go_simp
                refine wpAnyU_take (i := 5) (v := .int .i64 ((p : Int) - 1)) rfl (by kernel_rfl) (by kernel_rfl) (by kernel_rfl) (by kernel_rfl) (fun _ _ _ h => h) (Or.inl ⟨by rfl, fun wl hSw => ?_⟩) hS0 ?_
                · (try dsimp only at hSw); go_simp
                refine wpAnyU_take (i := 6) (v := .pointer (some ⟨g, (p - 1) * 5, none⟩)) rfl (by kernel_rfl) (by kernel_rfl) (by kernel_rfl) (by kernel_rfl) (fun _ _ _ h => h) (Or.inl ⟨by rfl, fun wl hSw => ?_⟩) hS0 ?_
                · (try dsimp only at hSw); go_simp
                refine wpAnyU_take (i := 7) (v := .pointer (some ⟨g, (p - 1) * 5 + 4, none⟩)) rfl (by kernel_rfl) (by kernel_rfl) (by kernel_rfl) (by kernel_rfl) (fun _ _ _ h => h) (Or.inl ⟨by rfl, fun wl hSw => ?_⟩) hS0 ?_
                · (try dsimp only at hSw); go_simp
                refine wpAnyU_take (i := 8) (v := .int .i64 y.wt) rfl (by kernel_rfl) (by kernel_rfl) (by kernel_rfl) (by kernel_rfl) (fun _ _ _ h => h) (Or.inl ⟨by rfl, fun wl hSw => ?_⟩) hS0 ?_
                · (try dsimp only at hSw); go_simp
                refine wpAnyU_take (i := 9) (v := .slice (some ⟨ab, aoff, none⟩) m ac) rfl (by kernel_rfl) (by kernel_rfl) (by kernel_rfl) (by kernel_rfl) (fun _ _ _ h => h) (Or.inl ⟨by rfl, fun wl hSw => ?_⟩) hS0 ?_
                · (try dsimp only at hSw); go_simp
                refine wpAnyU_take (i := 10) (v := .int .i64 k) rfl (by kernel_rfl) (by kernel_rfl) (by kernel_rfl) (by kernel_rfl) (fun _ _ _ h => h) (Or.inl ⟨by rfl, fun wl hSw => ?_⟩) hS0 ?_
                · (try dsimp only at hSw); go_simp
                refine wpAnyU_take (i := 11) (v := .pointer (some ⟨ab, aoff + k * 5, none⟩)) rfl (by kernel_rfl) (by kernel_rfl) (by kernel_rfl) (by kernel_rfl) (fun _ _ _ h => h) (Or.inl ⟨by rfl, fun wl hSw => ?_⟩) hS0 ?_
                · (try dsimp only at hSw); go_simp
                refine wpAnyU_take (i := 12) (v := .pointer (some ⟨ab, aoff + k * 5 + 4, none⟩)) rfl (by kernel_rfl) (by kernel_rfl) (by kernel_rfl) (by kernel_rfl) (fun _ _ _ h => h) (Or.inl ⟨by rfl, fun wl hSw => ?_⟩) hS0 ?_
                · (try dsimp only at hSw); go_simp
                refine wpAnyU_take (i := 13) (v := .int .i64 x.wt) rfl (by kernel_rfl) (by kernel_rfl) (by kernel_rfl) (by kernel_rfl) (fun _ _ _ h => h) (Or.inl ⟨by rfl, fun wl hSw => ?_⟩) hS0 ?_
                · (try dsimp only at hSw); go_simp
                refine wpAnyU_one (i := 14) rfl (by kernel_rfl) (fun K hK => ?_)
                go_simp
                refine (HLS.out _).mono ?_
                rintro e wq ⟨rfl, hwq⟩
                rw [hwq]
                refine hK.out _ _ ⟨fun _ => hS0, ?_⟩
                clear hK K hwq
                refine wpAnyU_one (i := 15) rfl (by kernel_rfl) (fun K hK => ?_)
                go_simp
                refine hK.out _ _ ⟨fun _ => hS0, ?_⟩
                clear hK K
                refine wpAnyU_one (i := 16) rfl (by kernel_rfl) (fun K hK => ?_)
                go_simp
                refine hK.out _ _ ⟨fun _ => hS0, ?_⟩
                clear hK K
                refine wpAnyU_one (i := 17) rfl (by kernel_rfl) (fun K hK => ?_)
                go_simp
                refine hK.out _ _ ⟨fun h => absurd rfl h, ?_⟩
                clear hK K
                refine wpAnyU_done (by kernel_rfl) ?_ _
                refine NoPanic.normal ?_
                go_wp2
                go_roundw
                case rel => exact ⟨k + 1, _, by omega, by go_num, HIN.out, by rw [List.length_set]; omega, Or.inr ⟨by omega, g, n, cap, rfl, by rw [List.length_set]; exact HOL.out, hn1, hg, row_wt HRW (p - 1) (by omega) HY.out z⟩, (bel_on hb HWd.out).setCell hg _⟩
                case measure => simp [intOf]; omega
    · have hkm : k = m := by omega
      subst hkm
      have HK : Hid (ars.take k = ars) := List.take_of_length_le (Nat.le_of_eq HL.out)
      rcases hrow with ⟨rfl, rfl, rfl⟩ | ⟨hk1, g, n, cap, rfl, hon, hn1, hg, hown⟩
      · exact absurd hm1 (by decide)
      · go_wp2
        go_ret
        refine ⟨_, out, rfl, by rw [← HK.out]; exact HM.out, ?_, hb⟩
        exact AFrom.mk (ownsRow_arcs (by rw [hon]; exact hown)) hg
end Go.Proofs.Yteehgcbjmdideaa
