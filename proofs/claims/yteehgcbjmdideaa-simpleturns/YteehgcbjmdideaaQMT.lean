/- 'made' of package simple, whatever closure it is handed. -/
import Derived.Test.YteehgcbjmdideaaQMQ
import Derived.Test.YteehgcbjmdideaaQMS
import Derived.Test.YteehgcbjmdideaaQMB
namespace Go.Proofs.Yteehgcbjmdideaa
open Go.RowKit
attribute [local go_sem ↓] Go.wp_at_zero Go.wp_at_succ

def arcV (a : ArcD) : Value := .agg #[.int .i64 a.src, .int .i64 a.inp, .int .i64 a.out, .int .i64 a.dst, .int .i64 a.wt]

theorem make_arcs (n : Nat) (hn : n ≤ 100000) (w : World) : ∃ cs : Array Value, cs.size = n * 5 ∧ (Instr.makeSlice 23 (.int .i64 0) (.int .i64 (n : Int))).run Try.prog w = .ok (.slice (some ⟨w.heap.size, 0, none⟩) 0 n) (w.alloc (.cells cs 63)) := by
  obtain ⟨i0, hi, hz0, hz1, hz2⟩ := info_parts Try.info63
  have hr := run_make (P := Try.prog) w 23 63 i0 _ Try.underlying23 hi hz0 .i64 .i64 0 n (by omega) (by omega) (by rw [hz2]; omega) (by omega)
  refine ⟨_, ?_, hr⟩
  rw [size_madeCells, hz1]
  simp

set_option maxHeartbeats 2000000 in
set_option maxRecDepth 100000 in
theorem made_any (h : ArcD → ArcD) (F : Nat) (cb : Array Value) (hG : ∀ args w, (callFunc F args).run Try.prog w = .ok (.enter F args) w)
    (ars : List ArcD) (aa : Option Addr) (m ac : Nat) (w : World) (hF : Hid (∀ (a : ArcD), a ∈ ars → ∀ (W : World), Below w.heap.size w W → Calls Try.prog F (#[.agg #[.int .i64 a.src, .int .i64 a.inp, .int .i64 a.out, .int .i64 a.dst, .int .i64 a.wt]] ++ cb) W fun e w' => e = .returned (.agg #[.int .i64 (h a).src, .int .i64 (h a).inp, .int .i64 (h a).out, .int .i64 (h a).dst, .int .i64 (h a).wt]) ∧ Below W.heap.size W w'))
    (ha : ASlice w (.slice aa m ac) ars) (hal : ars.length = m) (hm : m ≤ 3000) :
    Calls Try.prog 102 #[.slice aa m ac, .func (.func F) #[] cb] w fun e w' =>
      ∃ v, e = .returned v ∧ w'.ownsRow w.heap.size 63 5 v m (arcsV (ars.map h)) ∧ Below w.heap.size w w' := by
  obtain ⟨i0, hi, hz0, hz1, hz2⟩ := info_parts Try.info63
  obtain ⟨cs, hcs, hmk⟩ := make_arcs m (by omega) w
  have HAL : Hid (ars.length = m) := hal
  have HO0 : Hid ((w.alloc (.cells cs 63)).ownsRow w.heap.size 63 5 (.slice (some ⟨w.heap.size, 0, none⟩) 0 m) 0 []) := World.ownsRow_made w cs m (Nat.le_refl _) (by unfold maxLen; omega) hcs
  clear hal hcs
  go_enter Try.func102, Try.ntmps102
  go_wp2
  go_loopw [5, 13] (fun v i wr => ∃ k : Nat, k ≤ m ∧ i = .int .i64 k ∧ wr.ownsRow w.heap.size 63 5 v k (arcsV ((ars.map h).take k)) ∧ Below w.heap.size w wr) (fun _ i _ => m - (intOf i).toNat)
  case atStart => exact ⟨0, Nat.zero_le _, rfl, HO0.out, bel_up (bel_self w) _⟩
  case round =>
    clear hmk
    obtain ⟨k, hk, rfl, hown, hb⟩ := hrel
    by_cases hlt : k < m
    · obtain ⟨ab, aoff, rfl, hx⟩ := (ha.below hb).some (by omega)
      obtain ⟨a, hak⟩ : ∃ a, a = ars.getD k a0 := ⟨_, rfl⟩
      have c0 := hx.c0 k hlt
      have c1 := hx.c1 k hlt
      have c2 := hx.c2 k hlt
      have c3 := hx.c3 k hlt
      have c4 := hx.c4 k hlt
      rw [← hak] at c0 c1 c2 c3 c4
      have HTK : Hid (arcsV ((ars.map h).take (k + 1)) = arcsV ((ars.map h).take k) ++ arcCells (h a)) := by
        show arcsV ((ars.map h).take (k + 1)) = arcsV ((ars.map h).take k) ++ arcCells (h a)
        rw [← arcsV_snoc, List.take_add_one, hak]
        have := HAL.out
        simp [List.getD, show k < ars.length by omega]
      have hcall := hF.out a (by rw [hak]; have := HAL.out; simp [List.getD, show k < ars.length by omega])
      obtain ⟨b, hbq⟩ : ∃ b, b = h a := ⟨_, rfl⟩
      rw [← hbq] at hcall HTK
      have HCALL : Hid (∀ (W : World), Below w.heap.size w W → Calls Try.prog F (#[.agg #[.int .i64 a.src, .int .i64 a.inp, .int .i64 a.out, .int .i64 a.dst, .int .i64 a.wt]] ++ cb) W fun e w' => e = .returned (.agg #[.int .i64 b.src, .int .i64 b.inp, .int .i64 b.out, .int .i64 b.dst, .int .i64 b.wt]) ∧ Below W.heap.size W w') := hcall
      have hki : (k : Int) < m := by omega
      have hsz := hb.size
      have hb1 := bel_up hb (.cells #[.int .i64 a.src, .int .i64 a.inp, .int .i64 a.out, .int .i64 a.dst, .int .i64 a.wt] 63)
      clear hak hx hcall hbq
      go_wp2
      refine (HCALL.out _ hb1).mono ?_
      rintro e w1 ⟨rfl, hbw⟩
      have hb2 := bel_on hb1 hbw
      have hown1 := ownsRow_bel hown (bel_on (bel_up (bel_self wr) (.cells #[.int .i64 a.src, .int .i64 a.inp, .int .i64 a.out, .int .i64 a.dst, .int .i64 a.wt] 63)) hbw)
      have hsz1 := hb2.size
      clear c0 c1 c2 c3 c4 hb1 hbw hown
      go_wp2_with (at_builtin; refine wpList_append_own _ rfl _ _ 23 rfl w.heap.size 63 i0 _ 5 40 Try.underlying23 hi hz0 hz1 hz2 rfl (by decide) _ _ _ rfl (hown1.alloc _) ⟨w1.heap.size, 0, none⟩ 1 1 (arcCells b) rfl rfl (cells_new _ #[.int .i64 b.src, .int .i64 b.inp, .int .i64 b.out, .int .i64 b.dst, .int .i64 b.wt] 63 w1.heap.size rfl) (oneCell_arc b) (by unfold maxLen; omega) (by omega) (by simp; omega) ?_; intro v' w2 hown' hgrow _)
      have hb3 : Below w.heap.size w w2 := (bel_up hb2 _).grown hgrow (by simp; omega) (fun g hg => own_base hown1 g hg)
      go_roundw
      case rel => exact ⟨k + 1, by omega, by go_num, by rw [HTK.out]; exact hown', hb3⟩
      case measure => simp [intOf]; omega
    · have hkn : k = m := by omega
      subst hkn
      go_wp2
      go_ret
      exact ⟨_, rfl, by rw [List.take_of_length_le (by rw [List.length_map]; exact Nat.le_of_eq HAL.out)] at hown; exact hown, hb⟩
end Go.Proofs.Yteehgcbjmdideaa

/- The closures of package simple: what is made of one arc. -/
namespace Go.Proofs.Yteehgcbjmdideaa
open Go.RowKit
attribute [local go_sem ↓] Go.wp_at_zero Go.wp_at_succ

def invA (a : ArcD) : ArcD := ⟨a.src, a.out, a.inp, a.dst, a.wt⟩
def inA (a : ArcD) : ArcD := ⟨a.src, a.inp, a.inp, a.dst, a.wt⟩
def outA (a : ArcD) : ArcD := ⟨a.src, a.out, a.out, a.dst, a.wt⟩
def movA (d : Int) (a : ArcD) : ArcD := ⟨a.src + d, a.inp, a.out, a.dst + d, a.wt⟩

theorem gI1 : ∀ args w, (callFunc 61 args).run Try.prog w = .ok (.enter 61 args) w := enters_of Try.func61 (by kernel_rfl) rfl
theorem gP1 : ∀ args w, (callFunc 62 args).run Try.prog w = .ok (.enter 62 args) w := enters_of Try.func62 (by kernel_rfl) rfl
theorem gP2 : ∀ args w, (callFunc 63 args).run Try.prog w = .ok (.enter 63 args) w := enters_of Try.func63 (by kernel_rfl) rfl
theorem gT1 : ∀ args w, (callFunc 103 args).run Try.prog w = .ok (.enter 103 args) w := enters_of Try.func103 (by kernel_rfl) rfl

set_option maxHeartbeats 1000000 in
theorem inv_one (a : ArcD) (w : World) :
    Calls Try.prog 61 #[.agg #[.int .i64 a.src, .int .i64 a.inp, .int .i64 a.out, .int .i64 a.dst, .int .i64 a.wt]] w fun e w' => e = .returned (.agg #[.int .i64 a.src, .int .i64 a.out, .int .i64 a.inp, .int .i64 a.dst, .int .i64 a.wt]) ∧ Below w.heap.size w w' := by
  go_enter Try.func61, Try.ntmps61
  go_wp2
  exact bodyPost_ret (v := .agg #[.int .i64 a.src, .int .i64 a.out, .int .i64 a.inp, .int .i64 a.dst, .int .i64 a.wt]) (by simp [results, Try.results61, go_sem]) rfl ⟨rfl, bel_up (bel_up (bel_self w) _) _⟩

set_option maxHeartbeats 1000000 in
theorem in_one (a : ArcD) (w : World) :
    Calls Try.prog 62 #[.agg #[.int .i64 a.src, .int .i64 a.inp, .int .i64 a.out, .int .i64 a.dst, .int .i64 a.wt]] w fun e w' => e = .returned (.agg #[.int .i64 a.src, .int .i64 a.inp, .int .i64 a.inp, .int .i64 a.dst, .int .i64 a.wt]) ∧ Below w.heap.size w w' := by
  go_enter Try.func62, Try.ntmps62
  go_wp2
  exact bodyPost_ret (v := .agg #[.int .i64 a.src, .int .i64 a.inp, .int .i64 a.inp, .int .i64 a.dst, .int .i64 a.wt]) (by simp [results, Try.results62, go_sem]) rfl ⟨rfl, bel_up (bel_up (bel_self w) _) _⟩

set_option maxHeartbeats 1000000 in
theorem out_one (a : ArcD) (w : World) :
    Calls Try.prog 63 #[.agg #[.int .i64 a.src, .int .i64 a.inp, .int .i64 a.out, .int .i64 a.dst, .int .i64 a.wt]] w fun e w' => e = .returned (.agg #[.int .i64 a.src, .int .i64 a.out, .int .i64 a.out, .int .i64 a.dst, .int .i64 a.wt]) ∧ Below w.heap.size w w' := by
  go_enter Try.func63, Try.ntmps63
  go_wp2
  exact bodyPost_ret (v := .agg #[.int .i64 a.src, .int .i64 a.out, .int .i64 a.out, .int .i64 a.dst, .int .i64 a.wt]) (by simp [results, Try.results63, go_sem]) rfl ⟨rfl, bel_up (bel_up (bel_self w) _) _⟩

set_option maxHeartbeats 1000000 in
theorem mov_one (a : ArcD) (d : Int) (B : Nat) (w : World) (hB : w.cell? ⟨B, 0, none⟩ = some (.int .i64 d)) (h1 : 0 ≤ a.src ∧ a.src ≤ 1000) (h2 : 0 ≤ a.dst ∧ a.dst ≤ 1000) (h3 : 0 ≤ d ∧ d ≤ 1000) :
    Calls Try.prog 103 #[.agg #[.int .i64 a.src, .int .i64 a.inp, .int .i64 a.out, .int .i64 a.dst, .int .i64 a.wt], .pointer (some ⟨B, 0, none⟩)] w fun e w' => e = .returned (.agg #[.int .i64 (a.src + d), .int .i64 a.inp, .int .i64 a.out, .int .i64 (a.dst + d), .int .i64 a.wt]) ∧ Below w.heap.size w w' := by
  have e1 : IntKind.i64.wrap (a.src + d) = a.src + d := wrap_in _ (by omega) (by omega)
  have e2 : IntKind.i64.wrap (a.dst + d) = a.dst + d := wrap_in _ (by omega) (by omega)
  have hlt := cell_lt hB
  go_enter Try.func103, Try.ntmps103
  go_wp2
  go_region
  all_goals
    go_wp2
    exact bodyPost_ret (v := .agg #[.int .i64 (a.src + d), .int .i64 a.inp, .int .i64 a.out, .int .i64 (a.dst + d), .int .i64 a.wt]) (by simp [results, Try.results103, go_sem]) rfl ⟨rfl, by first | exact (bel_up (bel_up (bel_self w) _) _).drew | exact bel_up (bel_up (bel_self w) _) _⟩
end Go.Proofs.Yteehgcbjmdideaa

/- 'turned' of package simple. -/
namespace Go.Proofs.Yteehgcbjmdideaa
open Go.RowKit
attribute [local go_sem ↓] Go.wp_at_zero Go.wp_at_succ

theorem cloneI_any (xs : List Int) (v : Value) (w : World) (h : ISlice w v xs) (hl : xs.length ≤ 100000) :
    Calls Try.prog 86 #[v] w fun e w' => ∃ v', e = .returned v' ∧ w'.ownsRow w.heap.size 3 1 v' xs.length (xs.map (Value.int .i64)) ∧ Below w.heap.size w w' := by
  rcases h with ⟨a, cap, rfl, rfl⟩ | ⟨b, off, n, cap, rfl, hx, _⟩
  · cases a with
    | none =>
      refine (Try.slices_Clone_int_nil 0 cap w).mono ?_
      rintro e w' ⟨rfl, hw⟩
      rw [hw]
      exact ⟨_, rfl, World.ownsRow_nil _ _ _ _, bel_self w⟩
    | some ad =>
      refine (Try.slices_Clone_int_zero ad cap w).mono ?_
      rintro e w' ⟨v', rfl, hown, _, hb⟩
      exact ⟨v', rfl, hown, hb⟩
  · have hlen := hx.len
    refine (Try.slices_Clone_int b off n cap xs w (by omega) (by omega) (fun j hj => hx.cell j (by omega))).mono ?_
    rintro e w' ⟨v', rfl, hown, _, hb⟩
    rw [List.take_of_length_le (by omega), ← hlen] at hown
    exact ⟨v', rfl, hown, hb⟩

theorem box_cell {w : World} {P t k : Nat} {cs : Array Value} {v : Value} (h : w.heap[P]? = some (.cells cs t (0, 0))) (hk : cs[k]? = some v) : w.cell? ⟨P, k, none⟩ = some v := (Go.Joins.cell_of_block h k).trans hk
theorem box_frz {w : World} {P t : Nat} {cs : Array Value} (h : w.heap[P]? = some (.cells cs t (0, 0))) (k : Nat) : w.frozen? ⟨P, k, none⟩ = false := Go.Joins.unfrozen_of_block h k
theorem box_set {w : World} {P t k : Nat} {cs cs' : Array Value} {v : Value} (h : w.heap[P]? = some (.cells cs t (0, 0))) (e : cs' = cs.setIfInBounds k v) : (w.setCell ⟨P, k, none⟩ v).heap[P]? = some (.cells cs' t (0, 0)) := by rw [e]; exact Go.Joins.block_setCell h v

set_option maxHeartbeats 2000000 in
set_option maxRecDepth 100000 in
theorem turned_any (h : ArcD → ArcD) (F : Nat) (hG : ∀ args w, (callFunc F args).run Try.prog w = .ok (.enter F args) w)
    (hF : Hid (∀ (a : ArcD) (W : World), Calls Try.prog F #[.agg #[.int .i64 a.src, .int .i64 a.inp, .int .i64 a.out, .int .i64 a.dst, .int .i64 a.wt]] W fun e w' => e = .returned (.agg #[.int .i64 (h a).src, .int .i64 (h a).inp, .int .i64 (h a).out, .int .i64 (h a).dst, .int .i64 (h a).wt]) ∧ Below W.heap.size W w'))
    (f : FstD) (fin arcs : Value) (w : World) (hf : ISlice w fin f.final) (ha : ASlice w arcs f.arcs) (hfl : f.final.length ≤ 1000) (hm : f.arcs.length ≤ 3000) :
    Calls Try.prog 60 #[.agg #[.int .i64 f.states, .int .i64 f.start, fin, arcs], .func (.func F) #[] #[]] w fun e w' =>
      ∃ fv av, e = .returned (.agg #[.int .i64 f.states, .int .i64 f.start, fv, av]) ∧ w'.ownsRow w.heap.size 3 1 fv f.final.length (f.final.map (Value.int .i64)) ∧ AFrom w.heap.size w' av (leastL (f.arcs.map h)) ∧ Below w.heap.size w w' := by
  obtain ⟨aa, m, ac, rfl, hal, _⟩ := ha.lenOf
  obtain ⟨fa, fn, fc, rfl, hfn, _⟩ := hf.lenOf
  obtain ⟨W0, hW0⟩ : ∃ W0, W0 = (w.alloc (.cells #[.int .i64 f.states, .int .i64 f.start, .slice fa fn fc, .slice aa m ac] 25)).alloc (.cells #[.int .i64 0, .int .i64 0, .slice none 0 0, .slice none 0 0] 25) := ⟨_, rfl⟩
  have hb0 : Below w.heap.size w W0 := by rw [hW0]; exact two_up w _ _
  have hs0 : W0.heap.size = w.heap.size + 1 + 1 := by rw [hW0]; simp
  have hP : W0.heap[w.heap.size]? = some (.cells #[.int .i64 f.states, .int .i64 f.start, .slice fa fn fc, .slice aa m ac] 25 (0, 0)) := by rw [hW0]; exact (Below.heap_alloc _ _ _ (by simp)).trans (heap_alloc_new w _)
  have hR : W0.heap[w.heap.size + 1]? = some (.cells #[.int .i64 0, .int .i64 0, .slice none 0 0, .slice none 0 0] 25 (0, 0)) := by
    rw [hW0]
    have := heap_alloc_new (w.alloc (.cells #[.int .i64 f.states, .int .i64 f.start, .slice fa fn fc, .slice aa m ac] 25)) (.cells #[.int .i64 0, .int .i64 0, .slice none 0 0, .slice none 0 0] 25)
    rw [one_size] at this
    exact this
  have hcl := cloneI_any f.final _ _ (hf.below hb0) (by omega)
  have HA : Hid (ASlice w (.slice aa m ac) f.arcs ∧ f.arcs.length = m ∧ Below w.heap.size w W0) := ⟨ha, hal, hb0⟩
  have hm3 : m ≤ 3000 := by omega
  have c2 := box_cell (k := 2) hP rfl
  clear hf ha hal hfl hm
  go_enter Try.func60, Try.ntmps60
  go_wp2_with fail
  rw [← hW0]
  clear hW0
  go_wp2_with (first
    | (go_at_call 86; refine hcl.mono ?_; rintro e w1 ⟨v1, rfl, hv1, hb1⟩; obtain ⟨a1, n1, c1, rfl, _, _⟩ := (ownsRow_ints hv1).lenOf; have hP1 := heap_bel hb1 hP; have hR1 := heap_bel hb1 hR; have d2 := box_cell (k := 2) hP1 rfl; have z2 := box_frz hP1 2; have d3 := box_cell (k := 3) hP1 rfl)
    | (go_at_call 102
       have hP2 := box_set (k := 2) (v := .slice a1 n1 c1) hP1 rfl
       have hb2 : Below w.heap.size w (w1.setCell ⟨w.heap.size, 2, none⟩ (.slice a1 n1 c1)) := (HA.out.2.2.trans (hb1.mono (by omega))).setCell (Nat.le_refl _) _
       have hR2 := heap_far (i := 2) (k := w.heap.size) (v := .slice a1 n1 c1) hR1 (by omega)
       have hv2 := ownsRow_setCell_below hv1 (a := ⟨w.heap.size, 2, none⟩) (by rw [hs0]; exact Nat.lt_succ_of_lt (Nat.lt_succ_self _)) (.slice a1 n1 c1)
       refine (made_any h F #[] hG f.arcs aa m ac _ (fun a _ W _ => by rw [Array.append_empty]; exact hF.out a W) (HA.out.1.below hb2) HA.out.2.1 hm3).mono ?_
       rintro e w3 ⟨v3, rfl, hv3, hb3⟩
       have hP3 := heap_bel hb3 hP2
       have hR3 := heap_bel hb3 hR2
       have hv3' := ownsRow_bel hv2 hb3
       have hb23 := hb2.trans (hb3.mono hb2.size))
    | (go_at_call 78
       refine (least_any (f.arcs.map h) _ _ (ownsRow_arcs (by rw [List.length_map, HA.out.2.1]; exact hv3)) (by rw [List.length_map, HA.out.2.1]; omega)).mono ?_
       rintro e w4 ⟨v4, rfl, hv4, hb4⟩
       obtain ⟨a4, n4, c4, rfl, _, _⟩ := hv4.slice.lenOf
       have hP4 := heap_bel hb4 hP3
       have hR4 := heap_bel hb4 hR3
       have hI4 := ownsRow_bel hv3' hb4
       have hb34 := hb23.trans (hb4.mono hb23.size)
       have hsz := hb23.size
       have e0 := box_cell (k := 0) (v := .int .i64 f.states) hP4 rfl
       have e1 := box_cell (k := 1) (v := .int .i64 f.start) hP4 rfl
       have e2 := box_cell (k := 2) (v := .slice a1 n1 c1) hP4 rfl
       have e3 := box_cell (k := 3) (v := .slice aa m ac) hP4 rfl
       have y3 := box_frz hP4 3
       have r0 := box_cell (k := 0) (v := .int .i64 0) hR4 rfl
       have r1 := box_cell (k := 1) (v := .int .i64 0) hR4 rfl
       have r2 := box_cell (k := 2) (v := .slice none 0 0) hR4 rfl
       have r3 := box_cell (k := 3) (v := .slice none 0 0) hR4 rfl
       have x0 := box_frz hR4 0
       have x1 := box_frz hR4 1
       have x2 := box_frz hR4 2
       have x3 := box_frz hR4 3
       clear c2 d2 d3 z2 hP hR hP1 hR1 hP2 hR2 hP3 hR3))
  have q0 : w.heap.size < W0.heap.size := by omega
  have q1 : w.heap.size + 1 < W0.heap.size := by omega
  have q2 : w.heap.size < w3.heap.size := by have := hb1.size; have := hb3.size; simp [World.setCell] at this; omega
  have q3 : w.heap.size + 1 < w3.heap.size := by have := hb1.size; have := hb3.size; simp [World.setCell] at this; omega
  have g1 := own_mono (ownsRow_setCell_below (ownsRow_setCell_below (ownsRow_setCell_below (ownsRow_setCell_below (ownsRow_setCell_below hI4 (a := ⟨w.heap.size, 3, none⟩) q0 (.slice a4 n4 c4)) (a := ⟨w.heap.size + 1, 0, none⟩) q1 (.int .i64 f.states)) (a := ⟨w.heap.size + 1, 1, none⟩) q1 (.int .i64 f.start)) (a := ⟨w.heap.size + 1, 2, none⟩) q1 (.slice a1 n1 c1)) (a := ⟨w.heap.size + 1, 3, none⟩) q1 (.slice a4 n4 c4)) (Nat.le_of_lt q0)
  have g2 := (((((hv4.set (P := w.heap.size) (i := 3) (u := .slice a4 n4 c4) q2).set (P := w.heap.size + 1) (i := 0) (u := .int .i64 f.states) q3).set (P := w.heap.size + 1) (i := 1) (u := .int .i64 f.start) q3).set (P := w.heap.size + 1) (i := 2) (u := .slice a1 n1 c1) q3).set (P := w.heap.size + 1) (i := 3) (u := .slice a4 n4 c4) q3).mono (Nat.le_of_lt q2)
  have g3 := ((((hb34.setCell (p := ⟨w.heap.size, 3, none⟩) (Nat.le_refl _) (.slice a4 n4 c4)).setCell (p := ⟨w.heap.size + 1, 0, none⟩) (Nat.le_succ _) (.int .i64 f.states)).setCell (p := ⟨w.heap.size + 1, 1, none⟩) (Nat.le_succ _) (.int .i64 f.start)).setCell (p := ⟨w.heap.size + 1, 2, none⟩) (Nat.le_succ _) (.slice a1 n1 c1)).setCell (p := ⟨w.heap.size + 1, 3, none⟩) (Nat.le_succ _) (.slice a4 n4 c4)
  exact bodyPost_ret (v := .agg #[.int .i64 f.states, .int .i64 f.start, .slice a1 n1 c1, .slice a4 n4 c4]) (by simp [results, Try.results60, go_sem, r0, r1, r2, r3]) rfl ⟨_, _, rfl, g1, g2, g3⟩
end Go.Proofs.Yteehgcbjmdideaa
