/- The order by which 'order.Least' sorts: order.Compare and its two closures, in whatever world; they only lay blocks of their own. -/
import Derived.Test.YteehgcbjmdideaaQM01
import Derived.Test.YteehgcbjmdideaaQM00
import Derived.Sort.Grow
import Derived.Lib.SliceRun
import Derived.Deep.Upon
namespace Go.Proofs.Yteehgcbjmdideaa
open Go.RowKit Go.Sort
attribute [local go_sem ↓] Go.wp_at_zero Go.wp_at_succ

/-- only blocks behind, and draws -/
def Gr (w w' : World) : Prop := ∃ q os, w' = grow (w.drewN q) os

theorem Gr.self (w : World) : Gr w w := ⟨0, #[], by rw [grow_empty]; rfl⟩
theorem Gr.alloc {w w' : World} (h : Gr w w') (o : Obj) : Gr w (w'.alloc o) := by
  obtain ⟨q, os, rfl⟩ := h
  exact ⟨q, os ++ #[o], by rw [alloc_eq_grow, grow_grow]⟩
theorem Gr.drew {w w' : World} (h : Gr w w') : Gr w w'.drew := by
  obtain ⟨q, os, rfl⟩ := h
  exact ⟨q + 1, os, rfl⟩
theorem Gr.trans {a b c : World} (h : Gr a b) (k : Gr b c) : Gr a c := by
  obtain ⟨q, os, rfl⟩ := h
  obtain ⟨q', os', rfl⟩ := k
  exact ⟨q + q', os ++ os', by
    show grow (grow ((a.drewN q).drewN q') os) os' = _
    rw [grow_grow]
    show grow ({ a with drawn := a.drawn + q + q' } : World) _ = _
    rw [Nat.add_assoc]
    rfl⟩
theorem Gr.below {w w' : World} (h : Gr w w') : Below w.heap.size w w' := by
  obtain ⟨q, os, rfl⟩ := h
  refine ⟨rfl, rfl, rfl, ?_, fun k hk => ?_⟩
  · rw [size_grow]
    exact Nat.le_add_right _ _
  · exact heap_grow_old _ _ hk

set_option maxHeartbeats 1000000 in
theorem compare_gr (a b : ArcD) (w : World) :
    Calls Try.prog 112 #[.agg #[.int .i64 a.src, .int .i64 a.inp, .int .i64 a.out, .int .i64 a.dst, .int .i64 a.wt], .agg #[.int .i64 b.src, .int .i64 b.inp, .int .i64 b.out, .int .i64 b.dst, .int .i64 b.wt]] w fun e w' =>
      e = .returned (.int .i64 (cmpArc a b)) ∧ Gr w w' := by
  go_enter Try.func112, Try.ntmps112
  go_wp2
  go_region_held3 (fun w' => w'.cell? ⟨w.heap.size, 0, none⟩ = some (.int .i64 a.src) ∧ w'.cell? ⟨w.heap.size, 1, none⟩ = some (.int .i64 a.inp) ∧ w'.cell? ⟨w.heap.size, 2, none⟩ = some (.int .i64 a.out) ∧ w'.cell? ⟨w.heap.size, 3, none⟩ = some (.int .i64 a.dst) ∧ w'.cell? ⟨w.heap.size + 1, 0, none⟩ = some (.int .i64 b.src) ∧ w'.cell? ⟨w.heap.size + 1, 1, none⟩ = some (.int .i64 b.inp) ∧ w'.cell? ⟨w.heap.size + 1, 2, none⟩ = some (.int .i64 b.out) ∧ w'.cell? ⟨w.heap.size + 1, 3, none⟩ = some (.int .i64 b.dst)) (go_keep)
    (first | (go_at_call 113; refine (compare_any _ _ _).mono ?_; rintro e w' ⟨rfl, rfl⟩) | (go_at_call 111; refine (or_any _ _ _ _ [cmpI a.src b.src, cmpI a.inp b.inp, cmpI a.out b.out, cmpI a.dst b.dst] _ (intsAt4 _ _ _ _ _ _ _ (by simp)) four_le).mono ?_; rintro e w' ⟨rfl, rfl⟩))
  all_goals
    go_wp2
    go_ret
    exact ⟨rfl, ((((Gr.self _).alloc _).alloc _).alloc _).drew⟩

/-- first the order of arcs, then what they cost -/
def cmpW (a b : ArcD) : Int := orI [cmpArc a b, cmpI a.wt b.wt]


theorem keep10 {w w1 : World} {a b : ArcD} {t1 t2 : Nat} (h : Gr ((w.alloc (.cells #[.int .i64 a.src, .int .i64 a.inp, .int .i64 a.out, .int .i64 a.dst, .int .i64 a.wt] t1)).alloc (.cells #[.int .i64 b.src, .int .i64 b.inp, .int .i64 b.out, .int .i64 b.dst, .int .i64 b.wt] t2)).drew w1) : (fun wx => wx.cell? ⟨w.heap.size, 0, none⟩ = some (.int .i64 a.src) ∧ wx.cell? ⟨w.heap.size, 1, none⟩ = some (.int .i64 a.inp) ∧ wx.cell? ⟨w.heap.size, 2, none⟩ = some (.int .i64 a.out) ∧ wx.cell? ⟨w.heap.size, 3, none⟩ = some (.int .i64 a.dst) ∧ wx.cell? ⟨w.heap.size, 4, none⟩ = some (.int .i64 a.wt) ∧ wx.cell? ⟨w.heap.size + 1, 0, none⟩ = some (.int .i64 b.src) ∧ wx.cell? ⟨w.heap.size + 1, 1, none⟩ = some (.int .i64 b.inp) ∧ wx.cell? ⟨w.heap.size + 1, 2, none⟩ = some (.int .i64 b.out) ∧ wx.cell? ⟨w.heap.size + 1, 3, none⟩ = some (.int .i64 b.dst) ∧ wx.cell? ⟨w.heap.size + 1, 4, none⟩ = some (.int .i64 b.wt)) w1 := by
  have hb := h.below
  refine ⟨?_, ?_, ?_, ?_, ?_, ?_, ?_, ?_, ?_, ?_⟩ <;> exact bel_c hb (drew_cell (by simp))

theorem intsAt2 (x0 x1 : Int) (w : World) (t N : Nat) (hN : w.heap.size = N) : IntsAt (w.alloc (.cells #[.int .i64 x0, .int .i64 x1] t)) N 0 2 [x0, x1] := by
  subst hN
  refine ⟨rfl, fun i hi => ?_⟩
  match i, hi with
  | 0, _ => simp
  | 1, _ => simp
theorem two_le : 2 ≤ maxLen := by decide

set_option maxHeartbeats 1000000 in
theorem least1_gr (a b : ArcD) (w : World) :
    Calls Try.prog 110 #[.agg #[.int .i64 a.src, .int .i64 a.inp, .int .i64 a.out, .int .i64 a.dst, .int .i64 a.wt], .agg #[.int .i64 b.src, .int .i64 b.inp, .int .i64 b.out, .int .i64 b.dst, .int .i64 b.wt]] w fun e w' =>
      e = .returned (.int .i64 (cmpW a b)) ∧ Gr w w' := by
  unfold cmpW
  have hc := fun W => compare_gr a b W
  generalize cmpArc a b = u at hc ⊢
  have HC : Hid (∀ W, Calls Try.prog 112 #[.agg #[.int .i64 a.src, .int .i64 a.inp, .int .i64 a.out, .int .i64 a.dst, .int .i64 a.wt], .agg #[.int .i64 b.src, .int .i64 b.inp, .int .i64 b.out, .int .i64 b.dst, .int .i64 b.wt]] W fun e w' => e = .returned (.int .i64 u) ∧ Gr W w') := hc
  clear hc
  go_enter Try.func110, Try.ntmps110
  go_wp2
  go_region_held3 (fun wx => wx.cell? ⟨w.heap.size, 0, none⟩ = some (.int .i64 a.src) ∧ wx.cell? ⟨w.heap.size, 1, none⟩ = some (.int .i64 a.inp) ∧ wx.cell? ⟨w.heap.size, 2, none⟩ = some (.int .i64 a.out) ∧ wx.cell? ⟨w.heap.size, 3, none⟩ = some (.int .i64 a.dst) ∧ wx.cell? ⟨w.heap.size, 4, none⟩ = some (.int .i64 a.wt) ∧ wx.cell? ⟨w.heap.size + 1, 0, none⟩ = some (.int .i64 b.src) ∧ wx.cell? ⟨w.heap.size + 1, 1, none⟩ = some (.int .i64 b.inp) ∧ wx.cell? ⟨w.heap.size + 1, 2, none⟩ = some (.int .i64 b.out) ∧ wx.cell? ⟨w.heap.size + 1, 3, none⟩ = some (.int .i64 b.dst) ∧ wx.cell? ⟨w.heap.size + 1, 4, none⟩ = some (.int .i64 b.wt)) (first | exact hK | go_keep)
    (first
    | (go_at_call 111; refine (or_any _ _ _ _ [u, cmpI a.wt b.wt] _ (intsAt2 _ _ _ _ _ (by first | rfl | simp)) two_le).mono ?_; rintro e w' ⟨rfl, rfl⟩)
    | (go_at_call 112; refine (HC.out _).mono ?_; rintro e w1 ⟨rfl, hg1⟩; have hK := keep10 hg1)
    | (go_at_call 113; refine (compare_any _ _ _).mono ?_; rintro e w' ⟨rfl, rfl⟩))
  all_goals
    go_wp2
    go_ret
    exact ⟨rfl, (((((Gr.self _).alloc _).alloc _).drew).trans hg1).alloc _⟩

set_option maxHeartbeats 1000000 in
theorem least2_gr (a b : ArcD) (w : World) :
    Calls Try.prog 115 #[.agg #[.int .i64 a.src, .int .i64 a.inp, .int .i64 a.out, .int .i64 a.dst, .int .i64 a.wt], .agg #[.int .i64 b.src, .int .i64 b.inp, .int .i64 b.out, .int .i64 b.dst, .int .i64 b.wt]] w fun e w' =>
      e = .returned (.bool (cmpArc a b == 0)) ∧ Gr w w' := by
  go_enter Try.func115, Try.ntmps115
  go_wp2_with (go_at_call 112; refine (compare_gr a b _).mono ?_; rintro e w1 ⟨rfl, hg⟩)
  go_ret
  exact ⟨rfl, (((Gr.self _).alloc _).alloc _).trans hg⟩
end Go.Proofs.Yteehgcbjmdideaa

/- slices.Clone and slices.CompactFunc at arcs, as 'order.Least' calls them. -/
namespace Go.Proofs.Yteehgcbjmdideaa
open Go.RowKit
attribute [local go_sem ↓] Go.wp_at_zero Go.wp_at_succ

theorem arcsV_len (ars : List ArcD) : (arcsV ars).length = ars.length * 5 := by
  induction ars with
  | nil => rfl
  | cons a l ih =>
    have : arcsV (a :: l) = arcCells a ++ arcsV l := rfl
    rw [this, List.length_append, ih]
    show 5 + l.length * 5 = (l.length + 1) * 5
    omega

theorem arcsV_one (ars : List ArcD) : ∀ u ∈ arcsV ars, u.oneCell' = true := by
  intro u hu
  obtain ⟨a, _, ha⟩ := List.mem_flatMap.1 hu
  exact oneCell_arc a u ha

/-- the cells of a row of arcs, one by one -/
theorem ArcsAt.flat {w : World} {b off n : Nat} {ars : List ArcD} (h : ArcsAt w b off n ars) : ∀ j u, (arcsV ars)[j]? = some u → w.cell? ⟨b, off + j, none⟩ = some u := by
  intro j u hj
  have hl : j < (arcsV ars).length := (List.getElem?_eq_some_iff.1 hj).1
  rw [arcsV_len] at hl
  have hi : j / 5 < ars.length := by omega
  have hn : j / 5 < n := by rw [← h.len]; exact hi
  have he : j / 5 * 5 + j % 5 = j := by omega
  have hg := arcsV_get ars (j / 5) (j % 5) hi (by omega)
  rw [he, hj] at hg
  rw [← he]
  have hm : j % 5 < 5 := by omega
  generalize j % 5 = r at hg hm ⊢
  generalize j / 5 = q at hg hn ⊢
  match r, hm with
  | 0, _ => rw [show off + (q * 5 + 0) = off + q * 5 by omega, h.c0 q hn]; exact hg.symm
  | 1, _ => rw [show off + (q * 5 + 1) = off + q * 5 + 1 by omega, h.c1 q hn]; exact hg.symm
  | 2, _ => rw [show off + (q * 5 + 2) = off + q * 5 + 2 by omega, h.c2 q hn]; exact hg.symm
  | 3, _ => rw [show off + (q * 5 + 3) = off + q * 5 + 3 by omega, h.c3 q hn]; exact hg.symm
  | 4, _ => rw [show off + (q * 5 + 4) = off + q * 5 + 4 by omega, h.c4 q hn]; exact hg.symm

theorem ArcsAt.of_flat {w : World} {b off n : Nat} {ars : List ArcD} (hl : ars.length = n) (h : ∀ j u, (arcsV ars)[j]? = some u → w.cell? ⟨b, off + j, none⟩ = some u) : ArcsAt w b off n ars := by
  have key : ∀ i r v, i < n → r < 5 → (arcCells (ars.getD i a0))[r]? = some v → w.cell? ⟨b, off + i * 5 + r, none⟩ = some v := fun i r v hi hr hv => by
    rw [show off + i * 5 + r = off + (i * 5 + r) by omega]
    exact h _ _ (by rw [arcsV_get ars i r (by omega) hr]; exact hv)
  exact ⟨hl, fun i hi => key i 0 _ hi (by omega) rfl, fun i hi => key i 1 _ hi (by omega) rfl, fun i hi => key i 2 _ hi (by omega) rfl, fun i hi => key i 3 _ hi (by omega) rfl, fun i hi => key i 4 _ hi (by omega) rfl⟩

set_option maxHeartbeats 2000000 in
set_option maxRecDepth 100000 in
theorem cloneA_some (ars : List ArcD) (b off n c : Nat) (w : World) (hx : ArcsAt w b off n ars) (hn : n ≤ 100000) :
    Calls Try.prog 108 #[.slice (some ⟨b, off, none⟩) n c] w fun e w' => ∃ v', e = .returned v' ∧ w'.ownsRow w.heap.size 63 5 v' n (arcsV ars) ∧ v' ≠ .slice none 0 0 ∧ Below w.heap.size w w' := by
  obtain ⟨i0, hi, hz0, hz1, hz2⟩ := info_parts Try.info63
  have q : ∀ (w : World) (a : Option Addr) (n c n' c' : Nat), (binOp .eql 23 (.slice a n c) (.slice none n' c')).run Try.prog w = .ok (.bool a.isNone) w := fun w a n c n' c' => Lib.run_eql_slice_nil w _ _ a n c n' c' Try.underlying23
  have HX : Hid (∀ j u, (arcsV ars)[j]? = some u → w.cell? ⟨b, off + j, none⟩ = some u) := hx.flat
  have HL : Hid (ars.length = n) := hx.len
  clear hx
  go_enter Try.func108, Try.ntmps108
  go_wp2_with (at_builtin; refine wpList_append_own _ rfl _ _ 23 rfl w.heap.size 63 i0 _ 5 40 Try.underlying23 hi hz0 hz1 hz2 rfl (by decide) _ _ _ rfl (World.ownsRow_made w #[] 0 (Nat.le_refl _) (Nat.zero_le _) rfl) ⟨b, off, none⟩ n c (arcsV ars) rfl ?qc1 ?qc2 ?qc3 ?qc4 ?qc5 ?qc6 ?_)
  case qc1 => rw [arcsV_len, HL.out]
  case qc2 =>
    intro j u hj
    rw [Addr.add_lit]
    exact Lib.cell?_alloc_some _ (HX.out j u hj)
  case qc3 => exact arcsV_one ars
  case qc4 => unfold maxLen; omega
  case qc5 => omega
  case qc6 => simp
  intro v' w1 hown hgrow hnil
  go_wp2
  go_ret
  refine ⟨v', rfl, by simpa using hown, ?_, ?_⟩
  · exact hnil
  · exact ((Below.refl _ w).alloc (Nat.le_refl _) _).grown hgrow (by simp) (by intro k hk; simp [Value.ownBlock] at hk; omega)

set_option maxHeartbeats 1000000 in
theorem cloneA_nil (n c : Nat) (w : World) :
    Calls Try.prog 108 #[.slice none n c] w fun e w' => e = .returned (.slice none 0 0) ∧ w' = w := by
  have q : ∀ (w : World) (a : Option Addr) (n c n' c' : Nat), (binOp .eql 23 (.slice a n c) (.slice none n' c')).run Try.prog w = .ok (.bool a.isNone) w := fun w a n c n' c' => Lib.run_eql_slice_nil w _ _ a n c n' c' Try.underlying23
  go_enter Try.func108, Try.ntmps108
  go_wp2
  go_ret
  exact ⟨rfl, rfl⟩

set_option maxHeartbeats 2000000 in
set_option maxRecDepth 100000 in
theorem cloneA_zero (ad : Addr) (c : Nat) (w : World) :
    Calls Try.prog 108 #[.slice (some ad) 0 c] w fun e w' => (∃ a cap, e = .returned (.slice a 0 cap)) ∧ Below w.heap.size w w' := by
  obtain ⟨i0, hi, hz0, hz1, hz2⟩ := info_parts Try.info63
  have q : ∀ (w : World) (a : Option Addr) (n c n' c' : Nat), (binOp .eql 23 (.slice a n c) (.slice none n' c')).run Try.prog w = .ok (.bool a.isNone) w := fun w a n c n' c' => Lib.run_eql_slice_nil w _ _ a n c n' c' Try.underlying23
  go_enter Try.func108, Try.ntmps108
  go_wp2_with (at_builtin; refine wpList_append_own _ rfl _ _ 23 rfl w.heap.size 63 i0 _ 5 40 Try.underlying23 hi hz0 hz1 hz2 rfl (by decide) _ _ _ rfl (World.ownsRow_made w #[] 0 (Nat.le_refl _) (Nat.zero_le _) rfl) ad 0 c [] rfl ?qc1 ?qc2 ?qc3 ?qc4 ?qc5 ?qc6 ?_)
  case qc1 => rfl
  case qc2 => intro j u hj; simp at hj
  case qc3 => intro u hu; cases hu
  case qc4 => unfold maxLen; omega
  case qc5 => omega
  case qc6 => simp
  intro v' w1 hown hgrow hnil
  go_wp2
  go_ret
  refine ⟨?_, ((Below.refl _ w).alloc (Nat.le_refl _) _).grown hgrow (by simp) (by intro k hk; simp [Value.ownBlock] at hk; omega)⟩
  have : ASlice w1 v' [] := ownsRow_arcs (ars := []) (by simpa [arcsV] using hown)
  obtain ⟨a, n, c, rfl, h1, _⟩ := this.lenOf
  simp at h1
  subst h1
  exact ⟨a, c, rfl⟩
end Go.Proofs.Yteehgcbjmdideaa

/- slices.CompactFunc at arcs, with the closure of 'order.Least': of neighbours that differ in nothing but the weight the first stays. -/
namespace Go.Proofs.Yteehgcbjmdideaa
open Go.RowKit
attribute [local go_sem ↓] Go.wp_at_zero Go.wp_at_succ

/-- what stays of the first k -/
def kepL (l : List ArcD) : Nat → List ArcD
  | 0 => []
  | k + 1 => kepL l k ++ if k = 0 ∨ cmpArc (l.getD k a0) (l.getD (k - 1) a0) ≠ 0 then [l.getD k a0] else []

section
variable {l : List ArcD} {k : Nat}
theorem kepL_le : (kepL l k).length ≤ k := by
  induction k with
  | zero => exact Nat.le_refl _
  | succ k ih =>
    unfold kepL
    rw [List.length_append]
    split
    · simp; omega
    · simp; omega
theorem kepL_skip (hk : 0 < k) (h : cmpArc (l.getD k a0) (l.getD (k - 1) a0) = 0) : kepL l (k + 1) = kepL l k := by
  show kepL l k ++ _ = _
  rw [if_neg (by omega), List.append_nil]
theorem kepL_keep (h : cmpArc (l.getD k a0) (l.getD (k - 1) a0) ≠ 0) : kepL l (k + 1) = kepL l k ++ [l.getD k a0] := by
  show kepL l k ++ _ = _
  rw [if_pos (Or.inr h)]
theorem kepL_one : kepL l 1 = [l.getD 0 a0] := rfl

/-- the row while it is worked at -/
def mixK (l : List ArcD) (k : Nat) : List ArcD := kepL l k ++ l.drop (kepL l k).length
theorem mixK_len (hk : k ≤ l.length) : (mixK l k).length = l.length := by
  have := kepL_le (l := l) (k := k)
  unfold mixK
  rw [List.length_append, List.length_drop]
  omega
theorem mixK_at {i : Nat} (hi : (kepL l k).length ≤ i) : (mixK l k).getD i a0 = l.getD i a0 := by
  unfold mixK
  simp only [List.getD_eq_getElem?_getD]
  rw [List.getElem?_append_right hi, List.getElem?_drop, Nat.add_sub_cancel' hi]
theorem mixK_skip (hk : 0 < k) (h : cmpArc (l.getD k a0) (l.getD (k - 1) a0) = 0) : mixK l (k + 1) = mixK l k := by
  unfold mixK
  rw [kepL_skip hk h]
theorem mixK_keep (hj : (kepL l k).length < l.length) (h : cmpArc (l.getD k a0) (l.getD (k - 1) a0) ≠ 0) : (mixK l k).set (kepL l k).length (l.getD k a0) = mixK l (k + 1) := by
  unfold mixK
  rw [kepL_keep h, List.set_append_right _ _ (Nat.le_refl _), Nat.sub_self, List.length_append, List.append_assoc]
  have e : (l.drop (kepL l k).length).set 0 (l.getD k a0) = [l.getD k a0] ++ l.drop ((kepL l k).length + [l.getD k a0].length) := by
    rw [List.drop_eq_getElem_cons hj]
    rfl
  rw [e]
theorem mixK_take : (mixK l k).take (kepL l k).length = kepL l k := by
  unfold mixK
  rw [List.take_left']
  rfl
theorem mixK_same (h : kepL l k = l.take k) (hk : k ≤ l.length) : mixK l k = l := by
  unfold mixK
  rw [h, List.length_take, Nat.min_eq_left hk, List.take_append_drop]
end

/-- a row of arcs at the head of a block, to be written -/
structure ARow (w : World) (g n : Nat) (xs : List ArcD) : Prop where
  len : xs.length = n
  cell : ∀ i j, i < n → j < 5 → w.cell? ⟨g, i * 5 + j, none⟩ = (arcCells (xs.getD i a0))[j]?
  frz : ∀ i, i < n * 5 → w.frozen? ⟨g, i, none⟩ = false

theorem ARow.of {w : World} {B e g n cap : Nat} {xs : List ArcD} (h : w.ownsRow B e 5 (.slice (some ⟨g, 0, none⟩) n cap) n (arcsV xs)) : ARow w g n xs ∧ n ≤ cap := by
  have hl0 := h.1
  rw [arcsV_len] at hl0
  have hl : xs.length = n := by omega
  obtain ⟨_, h⟩ := h
  rcases h with ⟨h, _⟩ | ⟨g', cap', cur, he, _, hh, h1, h2, h3, h4⟩
  · cases h
  · cases he
    refine ⟨⟨hl, fun i j hi hj => ?_, fun i _ => Go.Joins.unfrozen_of_block hh i⟩, h1⟩
    have h5 := arcsV_get xs i j (by omega) hj
    rw [← h4, List.getElem?_take, if_pos (by omega), Array.getElem?_toList] at h5
    rw [Go.Joins.cell_of_block hh]; exact h5

theorem ARow.lt {w : World} {g n : Nat} {xs : List ArcD} (h : ARow w g n xs) (hn : 0 < n) : g < w.heap.size := by
  have := h.cell 0 0 hn (by omega)
  exact cell_lt (v := .int .i64 (xs.getD 0 a0).src) (by rw [this]; rfl)

theorem ARow.below {w w' : World} {g n : Nat} {xs : List ArcD} (h : ARow w g n xs) (hb : Below w.heap.size w w') : ARow w' g n xs :=
  ⟨h.len, fun i j hi hj => (hb.cell (p := ⟨g, i * 5 + j, none⟩) (h.lt (by omega))).trans (h.cell i j hi hj), fun i hi => (hb.frozen (p := ⟨g, i, none⟩) (h.lt (by omega))).trans (h.frz i hi)⟩

theorem ARow.slice {w : World} {g n cap : Nat} {xs : List ArcD} (h : ARow w g n xs) (k : Nat) (hk : k ≤ n) (hn : n ≤ maxLen) : ASlice w (.slice (some ⟨g, 0, none⟩) k cap) (xs.take k) := by
  have hl := h.len
  have e : ∀ i, i < k → (xs.take k).getD i a0 = xs.getD i a0 := fun i hi => by simp [List.getD, hi]
  exact Or.inr ⟨g, 0, k, cap, rfl, ⟨by rw [List.length_take]; omega, fun i hi => by rw [e i hi, Nat.zero_add]; exact h.cell i 0 (by omega) (by omega), fun i hi => by rw [e i hi, Nat.zero_add]; exact h.cell i 1 (by omega) (by omega), fun i hi => by rw [e i hi, Nat.zero_add]; exact h.cell i 2 (by omega) (by omega), fun i hi => by rw [e i hi, Nat.zero_add]; exact h.cell i 3 (by omega) (by omega), fun i hi => by rw [e i hi, Nat.zero_add]; exact h.cell i 4 (by omega) (by omega)⟩, by omega⟩

theorem ARow.cleared {w : World} {g n cap : Nat} {xs : List ArcD} (h : ARow w g n xs) (k : Nat) (hk : k ≤ n) (hn : n ≤ maxLen) (vs : List Value) : ASlice (w.setCells g (k * 5) vs) (.slice (some ⟨g, 0, none⟩) k cap) (xs.take k) := by
  have hl := h.len
  have e : ∀ i, i < k → (xs.take k).getD i a0 = xs.getD i a0 := fun i hi => by simp [List.getD, hi]
  have q : ∀ i j, i < k → j < 5 → (w.setCells g (k * 5) vs).cell? ⟨g, i * 5 + j, none⟩ = (arcCells (xs.getD i a0))[j]? := fun i j hi hj => by
    rw [World.cell?_setCells_out]
    · exact h.cell i j (by omega) hj
    · intro _ _
      show i * 5 + j < k * 5 ∨ _
      omega
  exact Or.inr ⟨g, 0, k, cap, rfl, ⟨by rw [List.length_take]; omega, fun i hi => by rw [e i hi, Nat.zero_add]; exact q i 0 hi (by omega), fun i hi => by rw [e i hi, Nat.zero_add]; exact q i 1 hi (by omega), fun i hi => by rw [e i hi, Nat.zero_add]; exact q i 2 hi (by omega), fun i hi => by rw [e i hi, Nat.zero_add]; exact q i 3 hi (by omega), fun i hi => by rw [e i hi, Nat.zero_add]; exact q i 4 hi (by omega)⟩, by omega⟩

theorem ARow.set {w : World} {g n : Nat} {xs : List ArcD} (h : ARow w g n xs) (i : Nat) (hi : i < n) (a : ArcD) : ARow (w.setCells g (i * 5) (arcCells a)) g n (xs.set i a) := by
  refine ⟨by rw [List.length_set]; exact h.len, fun k c hk hc => ?_, fun k hk => ?_⟩
  · by_cases e : k = i
    · subst e
      have hg : (xs.set k a).getD k a0 = a := by simp [List.getD, h.len, hk]
      rw [hg, World.cell?_setCells_in g (arcCells a) (k * 5) w (fun j hj => by rw [h.cell k j hk hj]; simp [arcCells] at hj ⊢; exact hj) c hc]
      simp [arcCells, List.getElem?_eq_getElem (show c < ([.int .i64 a.src, .int .i64 a.inp, .int .i64 a.out, .int .i64 a.dst, .int .i64 a.wt] : List Value).length from hc)]
    · have hg : (xs.set i a).getD k a0 = xs.getD k a0 := by simp [List.getD, Ne.symm e]
      rw [hg, World.cell?_setCells_out]
      · exact h.cell k c hk hc
      · intro _ _
        show k * 5 + c < i * 5 ∨ i * 5 + 5 ≤ k * 5 + c
        omega
  · have e : ∀ (vs : List Value) (o : Nat) (w : World), (w.setCells g o vs).frozen? ⟨g, k, none⟩ = w.frozen? ⟨g, k, none⟩ := fun vs => by
      induction vs with
      | nil => intro _ _; rfl
      | cons v r ih => intro o w; show ((w.setCell ⟨g, o, none⟩ v).setCells g (o + 1) r).frozen? _ = _; rw [ih, World.frozen?_setCell]
    rw [e]
    exact h.frz k hk

/-- all blocks but one are as they were -/
def Apart (g : Nat) (w w' : World) : Prop := w.grownBy w' (some g)
theorem Apart.self {g : Nat} (w : World) : Apart g w w := ⟨rfl, rfl, rfl, Nat.le_refl _, fun _ _ _ => rfl⟩
theorem Apart.trans {g : Nat} {a b c : World} (h : Apart g a b) (k : Apart g b c) : Apart g a c := World.grownBy.trans h k
theorem Apart.of_bel {g : Nat} {w w' : World} (h : Below w.heap.size w w') : Apart g w w' := ⟨h.os, h.tape, h.output, h.size, fun k hk _ => h.block k hk⟩
theorem Apart.set {g : Nat} (w : World) (o : Nat) (vs : List Value) : Apart g w (w.setCells g o vs) := by
  have key : ∀ (vs : List Value) (o : Nat) (w : World), (w.setCells g o vs).os = w.os ∧ (w.setCells g o vs).tape = w.tape ∧ (w.setCells g o vs).output = w.output ∧ (w.setCells g o vs).heap.size = w.heap.size := fun vs => by
    induction vs with
    | nil => intro _ _; exact ⟨rfl, rfl, rfl, rfl⟩
    | cons v r ih =>
      intro o w
      obtain ⟨h1, h2, h3, h4⟩ := ih (o + 1) (w.setCell ⟨g, o, none⟩ v)
      exact ⟨h1.trans rfl, h2.trans rfl, h3.trans rfl, h4.trans (by simp [World.setCell])⟩
  obtain ⟨h1, h2, h3, h4⟩ := key vs o w
  exact ⟨h1, h2, h3, Nat.le_of_eq h4.symm, fun k hk hne => World.heap_setCells_other w g o vs hk (fun e => hne (by rw [e]))⟩
theorem Apart.below {g B : Nat} {w w' : World} (h : Apart g w w') (hB : B ≤ g) (hw : B ≤ w.heap.size) : Below B w w' :=
  ⟨h.os, h.tape, h.output, h.size, fun k hk => h.block k (by omega) (fun e => by injection e with e; omega)⟩

theorem clear_arcs (w : World) (ty g o n c : Nat) (hn : 0 < n) (hc : ∀ j, j < n * 5 → (w.cell? ⟨g, o + j, none⟩).isSome = true) (hf : ∀ j, j < n * 5 → w.frozen? ⟨g, o + j, none⟩ = false) :
    ∃ vs, (Builtin.clear_ #[23] ty #[.slice (some ⟨g, o, none⟩) n c]).run Try.prog w = .ok (.tuple #[]) (w.setCells g o vs) := by
  obtain ⟨vs, hvs⟩ : ∃ vs, vs = (Builtin.zeroCells #[.int .i64 0, .int .i64 0, .int .i64 0, .int .i64 0, .int .i64 0] n).toList := ⟨_, rfl⟩
  have hl : vs.length = n * 5 := by rw [hvs]; simp [Builtin.zeroCells]
  have h1 : ∀ v ∈ vs, v.oneCell' = true := by
    intro v hv
    rw [hvs] at hv
    simp only [Builtin.zeroCells, Array.toList_map, List.mem_map] at hv
    obtain ⟨i, _, rfl⟩ := hv
    have hm : i % 5 < 5 := by omega
    show ((#[.int .i64 0, .int .i64 0, .int .i64 0, .int .i64 0, .int .i64 0] : Array Value)[i % 5]!).oneCell' = true
    generalize i % 5 = r at hm ⊢
    match r, hm with
    | 0, _ => rfl
    | 1, _ => rfl
    | 2, _ => rfl
    | 3, _ => rfl
    | 4, _ => rfl
  have hst := run_storeCells_cells (P := Try.prog) g o vs 0 w (by rw [hl]; simpa using hc) (by rw [hl]; simpa using hf) h1
  simp only [Nat.add_zero] at hst
  obtain ⟨m, rfl⟩ : ∃ m, n = m + 1 := ⟨n - 1, by omega⟩
  refine ⟨vs, ?_⟩
  have hv := Try.zeroValue63
  have hz : (Builtin.zeroCells (Value.agg #[.int .i64 0, .int .i64 0, .int .i64 0, .int .i64 0, .int .i64 0]).cells (m + 1)).toList = vs := by rw [hvs]; rfl
  simp [Builtin.clear_, run_underlying Try.underlying23, hv, hz, hst]
end Go.Proofs.Yteehgcbjmdideaa
