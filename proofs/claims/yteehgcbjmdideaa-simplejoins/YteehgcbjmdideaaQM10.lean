/- 'Either' of package simple, where all is right. -/
import Derived.Test.YteehgcbjmdideaaQM09
import Derived.RangeFuncNested
import Derived.RangeFuncBound
import Derived.RangeFuncCalls
import Derived.RangeFuncLeaves
import Derived.Shelf.Abstract
import Derived.Shelf.RegionOpen
import Derived.WalkKit
import Derived.OwnWalkIn
import Derived.TacticsInMore
import Derived.LoopNIn
import Derived.LoopIn
namespace Go.Proofs.Yteehgcbjmdideaa
open Go.RowKit
attribute [local go_sem ↓] Go.wp_at_zero Go.wp_at_succ

set_option maxHeartbeats 1000000 in
set_option maxRecDepth 100000 in
theorem fit_ok1 (f : FstD) (fin : Value) (aa : Option Addr) (m ac : Nat) (B : Nat) (w : World) (hC : CellsF w B f.states f.start fin (.slice aa m ac)) (hf : ISlice w fin f.final) (ha : ASlice w (.slice aa m ac) f.arcs) (hc : checkD f = 0)
    (h1 : 0 ≤ f.states) (h3 : f.states ≤ 198) (h4 : m ≤ 2500) :
    Calls Try.prog 66 #[.slice (some ⟨B, 0, none⟩) 1 1] w fun e w' => e = .returned (.int .i64 0) ∧ Below w.heap.size w w' := by
  obtain ⟨fa, fn, fc, rfl, _, _⟩ := hf.lenOf
  have hall := all_one f _ _ B 0 w hC hf ha hc
  clear hf ha hc
  go_enter Try.func66, Try.ntmps66
  go_wp2_with (go_at_call 59; refine hall.mono ?_; rintro e w1 ⟨rfl, hb1⟩)
  go_loopw [4, 5, 15] (fun s4 s5 i wr => (∃ k : Nat, i = .int .i64 k ∧ ((k = 0 ∧ s4 = .int .i64 0 ∧ s5 = .int .i64 0) ∨ (k = 1 ∧ s4 = .int .i64 f.states ∧ s5 = .int .i64 m))) ∧ Below w.heap.size w wr) (fun _ _ i _ => 1 - (intOf i).toNat)
  case atStart => exact ⟨⟨0, rfl, Or.inl ⟨rfl, rfl, rfl⟩⟩, hb1⟩
  case round =>
    obtain ⟨⟨k, rfl, hk⟩, hb⟩ := hrel
    rcases hk with ⟨rfl, rfl, rfl⟩ | ⟨rfl, rfl, rfl⟩
    · obtain ⟨q0, q1, q2, q3⟩ := hC.below hb
      have e1 : IntKind.i64.wrap f.states = f.states := wrap_in _ (by omega) (by omega)
      have e2 : IntKind.i64.wrap (m : Int) = m := wrap_in _ (by omega) (by omega)
      go_wp2
      go_region_held3 (fun wx => wx.cell? ⟨wr.heap.size, 0, none⟩ = some (.int .i64 f.states) ∧ wx.cell? ⟨wr.heap.size, 3, none⟩ = some (.slice aa m ac)) (exact ⟨drew_cell (new_cell _ _ _ _ 0 _ rfl rfl), drew_cell (new_cell _ _ _ _ 3 _ rfl rfl)⟩) (fail)
      go_wp2
      go_roundw
      case rel => exact ⟨⟨1, by go_num, Or.inr ⟨rfl, by go_num, by go_num⟩⟩, (bel_up hb _).drew⟩
      case measure => simp [intOf]
    · have e1 : ¬ (198 : Int) < f.states := by omega
      have e2 : ¬ (2500 : Int) < (m : Int) := by omega
      go_wp2
      go_ret
      exact ⟨rfl, hb⟩

/-- what 'Either' answers -/
def eitherD (f g : FstD) : FstD := ⟨f.states + g.states + 1, f.states + g.states, f.final ++ g.final ++ [-1], leastL (f.arcs ++ g.arcs.map (movA f.states) ++ [⟨f.states + g.states, 0, 0, f.start, 0⟩] ++ [⟨f.states + g.states, 0, 0, g.start + f.states, 0⟩])⟩

/-- a transducer that is right, as it came in -/
structure FIn (w : World) (f : FstD) (fb fo N fc : Nat) (aa : Option Addr) (m ac : Nat) : Prop where
  fin : IntsAt w fb fo N f.final
  arc : ASlice w (.slice aa m ac) f.arcs
  al : f.arcs.length = m
  n : N ≤ 200
  m3 : m ≤ 3000
  st : 0 ≤ f.states ∧ f.states ≤ 200
  sta : 0 ≤ f.start ∧ f.start ≤ 200
  ok : ∀ a ∈ f.arcs, (0 ≤ a.src ∧ a.src ≤ 200) ∧ (0 ≤ a.dst ∧ a.dst ≤ 200)
  ck : checkD f = 0
theorem FIn.below {w w' : World} {f : FstD} {fb fo N fc : Nat} {aa : Option Addr} {m ac : Nat} (h : FIn w f fb fo N fc aa m ac) (hb : Below w.heap.size w w') : FIn w' f fb fo N fc aa m ac :=
  ⟨h.fin.below hb, h.arc.below hb, h.al, h.n, h.m3, h.st, h.sta, h.ok, h.ck⟩

set_option maxHeartbeats 2000000 in
set_option maxRecDepth 100000 in
theorem either_ok (f g : FstD) (fb fo N fc : Nat) (aa : Option Addr) (m ac : Nat) (gb go N' gc : Nat) (ea : Option Addr) (m' ec : Nat) (w : World) (hF : FIn w f fb fo N fc aa m ac) (hG : FIn w g gb go N' gc ea m' ec) (h3 : f.states + g.states ≤ 198) (h4 : m + m' ≤ 2500) :
    Calls Try.prog 23 #[.agg #[.int .i64 f.states, .int .i64 f.start, .slice (some ⟨fb, fo, none⟩) N fc, .slice aa m ac], .agg #[.int .i64 g.states, .int .i64 g.start, .slice (some ⟨gb, go, none⟩) N' gc, .slice ea m' ec]] w fun e w' => FstRes w (eitherD f g) 0 e w' := by
  obtain ⟨W0, hW0⟩ : ∃ W0, W0 = (((w.alloc (.cells #[.int .i64 f.states, .int .i64 f.start, .slice (some ⟨fb, fo, none⟩) N fc, .slice aa m ac] 25)).alloc (.cells #[.int .i64 g.states, .int .i64 g.start, .slice (some ⟨gb, go, none⟩) N' gc, .slice ea m' ec] 25)).alloc (.cells #[.int .i64 0, .int .i64 0, .slice none 0 0, .slice none 0 0] 25)).alloc (.cells #[.int .i64 f.states, .int .i64 f.start, .slice (some ⟨fb, fo, none⟩) N fc, .slice aa m ac, .int .i64 g.states, .int .i64 g.start, .slice (some ⟨gb, go, none⟩) N' gc, .slice ea m' ec] 25) := ⟨_, rfl⟩
  have hb0 : Below w.heap.size w W0 := by rw [hW0]; exact bel_up (bel_up (two_up w _ _) _) _
  have hbF : W0.heap[w.heap.size]? = some (.cells #[.int .i64 f.states, .int .i64 f.start, .slice (some ⟨fb, fo, none⟩) N fc, .slice aa m ac] 25 (0, 0)) := by
    rw [hW0]; exact heap_bel (bel_up (bel_up (bel_up (bel_self _) _) _) _) (heap_alloc_new w _)
  have hbG : W0.heap[w.heap.size + 1]? = some (.cells #[.int .i64 g.states, .int .i64 g.start, .slice (some ⟨gb, go, none⟩) N' gc, .slice ea m' ec] 25 (0, 0)) := by
    rw [hW0]
    have := heap_alloc_new (w.alloc (.cells #[.int .i64 f.states, .int .i64 f.start, .slice (some ⟨fb, fo, none⟩) N fc, .slice aa m ac] 25)) (.cells #[.int .i64 g.states, .int .i64 g.start, .slice (some ⟨gb, go, none⟩) N' gc, .slice ea m' ec] 25)
    rw [one_size] at this
    exact heap_bel (bel_up (bel_up (bel_self _) _) _) this
  have hbZ : ZBlock W0 (w.heap.size + 1 + 1) := by
    rw [hW0]
    have := heap_alloc_new ((w.alloc (.cells #[.int .i64 f.states, .int .i64 f.start, .slice (some ⟨fb, fo, none⟩) N fc, .slice aa m ac] 25)).alloc (.cells #[.int .i64 g.states, .int .i64 g.start, .slice (some ⟨gb, go, none⟩) N' gc, .slice ea m' ec] 25)) (.cells #[.int .i64 0, .int .i64 0, .slice none 0 0, .slice none 0 0] 25)
    rw [one_size, one_size] at this
    exact heap_bel (bel_up (bel_self _) _) this
  have hb8 : W0.heap[w.heap.size + 1 + 1 + 1]? = some (.cells #[.int .i64 f.states, .int .i64 f.start, .slice (some ⟨fb, fo, none⟩) N fc, .slice aa m ac, .int .i64 g.states, .int .i64 g.start, .slice (some ⟨gb, go, none⟩) N' gc, .slice ea m' ec] 25 (0, 0)) := by
    rw [hW0]
    have := heap_alloc_new (((w.alloc (.cells #[.int .i64 f.states, .int .i64 f.start, .slice (some ⟨fb, fo, none⟩) N fc, .slice aa m ac] 25)).alloc (.cells #[.int .i64 g.states, .int .i64 g.start, .slice (some ⟨gb, go, none⟩) N' gc, .slice ea m' ec] 25)).alloc (.cells #[.int .i64 0, .int .i64 0, .slice none 0 0, .slice none 0 0] 25)) (.cells #[.int .i64 f.states, .int .i64 f.start, .slice (some ⟨fb, fo, none⟩) N fc, .slice aa m ac, .int .i64 g.states, .int .i64 g.start, .slice (some ⟨gb, go, none⟩) N' gc, .slice ea m' ec] 25)
    rw [one_size, one_size, one_size] at this
    exact this
  have hF0 := hF.below hb0
  have hG0 := hG.below hb0
  have hnF := hF0.n
  have hfit := fit_ok2 f g _ _ aa m ac ea m' ec (w.heap.size + 1 + 1 + 1) W0 ⟨box_cell (k := 0) hb8 rfl, box_cell (k := 1) hb8 rfl, box_cell (k := 2) hb8 rfl, box_cell (k := 3) hb8 rfl⟩ ⟨box_cell (k := 4) hb8 rfl, box_cell (k := 5) hb8 rfl, box_cell (k := 6) hb8 rfl, box_cell (k := 7) hb8 rfl⟩ (Or.inr ⟨_, _, _, _, rfl, hF0.fin, by unfold maxLen; omega⟩) hF0.arc (Or.inr ⟨_, _, _, _, rfl, hG0.fin, by have := hG0.n; unfold maxLen; omega⟩) hG0.arc hF0.ck hG0.ck hF0.st.1 hG0.st.1 h3 h4
  have HB0 : Hid (Below w.heap.size w W0) := hb0
  have HFI : Hid (FIn W0 f fb fo N fc aa m ac ∧ FIn W0 g gb go N' gc ea m' ec) := ⟨hF0, hG0⟩
  have hst1 := hF.st
  have hst2 := hG.st
  have hsa1 := hF.sta
  have hsa2 := hG.sta
  clear hF hG hF0 hG0 hb8 hnF hb0
  go_enter Try.func23, Try.ntmps23
  go_wp2_with fail
  rw [← hW0]
  clear hW0
  obtain ⟨S, hS⟩ : ∃ S, S = f.states + g.states := ⟨_, rfl⟩
  have hSb : 0 ≤ S ∧ S ≤ 198 := by omega
  have HSQ : Hid (S = f.states + g.states) := hS
  clear hS
  go_wp2_with (first
    | (go_at_call 66
       refine hfit.mono ?_
       rintro e w1 ⟨rfl, hb1⟩
       have hbF1 := heap_bel hb1 hbF
       have hbG1 := heap_bel hb1 hbG
       have hbZ1 := heap_bel hb1 hbZ
       have u0 := box_cell (k := 0) hbF1 rfl
       have u1 := box_cell (k := 1) hbF1 rfl
       have u2 := box_cell (k := 2) hbF1 rfl
       have u3 := box_cell (k := 3) hbF1 rfl
       have HF1 : Hid (FIn w1 f fb fo N fc aa m ac ∧ FIn w1 g gb go N' gc ea m' ec ∧ Below w.heap.size w w1) := ⟨HFI.out.1.below hb1, HFI.out.2.below hb1, bel_on HB0.out hb1⟩
       clear hbF hbG hbZ hfit)
    | (go_at_call 67
       refine (jbegin_any f fb fo N fc aa m ac w1 HF1.out.1.fin HF1.out.1.arc HF1.out.1.al HF1.out.1.n HF1.out.1.m3 HF1.out.1.st HF1.out.1.sta HF1.out.1.ok).mono ?_
       rintro e w2 ⟨P, fv, av, rfl, hJ2, hb2⟩
       have hbG2 := heap_bel hb2 hbG1
       have v0 := box_cell (k := 0) hbG2 rfl
       have v1 := box_cell (k := 1) hbG2 rfl
       have v2 := box_cell (k := 2) hbG2 rfl
       have v3 := box_cell (k := 3) hbG2 rfl
       clear u0 u1 u2 u3)
    | (go_at_call 68
       refine (jtake_any g P w1.heap.size f.states f.start fv av f.final f.arcs gb go N' gc ea m' ec w2 hJ2 (fun W h => ⟨HF1.out.2.1.fin.below (hb2.trans h), HF1.out.2.1.arc.below (hb2.trans h)⟩) HF1.out.2.1.al HF1.out.2.1.n HF1.out.2.1.m3 (by omega) (by omega) (by have := HF1.out.1.fin.len; have := HF1.out.1.n; omega) (by have := HF1.out.1.al; have := HF1.out.1.m3; omega) HF1.out.2.1.st HF1.out.2.1.sta HF1.out.2.1.ok).mono ?_
       rintro e w3 ⟨rfl, fv3, av3, hJ3, hS3⟩
       have hb3 : Below w1.heap.size w1 w3 := hb2.trans (hS3.below hJ2)
       rw [← HSQ.out] at hJ3
       clear v0 v1 v2 v3 hbG2)
    | (go_at_call 69
       refine (jadd_any P w1.heap.size S f.start fv3 av3 (f.final ++ g.final) _ (-1) w3 hJ3 (by omega) (by omega) (by rw [List.length_append]; have := HF1.out.1.fin.len; have := HF1.out.1.n; have := HF1.out.2.1.fin.len; have := HF1.out.2.1.n; omega)).mono ?_
       rintro e w4 ⟨rfl, fv4, hJ4, hS4⟩
       have hb4 : Below w1.heap.size w1 w4 := hb3.trans (hS4.below hJ3)
       have d1 := box_cell (k := 1) hJ4.box rfl
       have z1 := box_frz hJ4.box 1))
  obtain ⟨W5, hW5⟩ : ∃ W5, W5 = w4.setCell ⟨P, 1, none⟩ (.int .i64 S) := ⟨_, rfl⟩
  have hJ5 : JW W5 P w1.heap.size (S + 1) S fv4 av3 (f.final ++ g.final ++ [-1]) (f.arcs ++ g.arcs.map (movA f.states)) := by rw [hW5]; exact hJ4.start S
  have hb5 : Below w1.heap.size w1 W5 := by rw [hW5]; exact hb4.setCell (p := ⟨P, 1, none⟩) hJ4.hP _
  rw [← hW5]
  clear hW5 hJ4 hJ3 hS3 hS4 d1 z1
  have hJ5d := hJ5.below (bel_self W5).drew
  have hb5d : Below w1.heap.size w1 W5.drew := hb5.drew
  have p1 := box_cell (k := 1) hJ5d.box rfl
  have p2 := box_cell (k := 1) (heap_bel hb5d hbF1) rfl
  have hal5 : (f.arcs ++ g.arcs.map (movA f.states)).length ≤ 6000 := by
    rw [List.length_append, List.length_map, HF1.out.1.al, HF1.out.2.1.al]
    have := HF1.out.1.m3
    have := HF1.out.2.1.m3
    omega
  have hlead := jlead_any P w1.heap.size (S + 1) S fv4 av3 _ _ S f.start 0 W5.drew hJ5d (by omega)
  clear hJ5 hb3 hb4
  go_region_held3 (fun wx => wx.cell? ⟨P, 1, none⟩ = some (.int .i64 S) ∧ wx.cell? ⟨w.heap.size, 1, none⟩ = some (.int .i64 f.start)) (first | exact hK | exact ⟨p1, p2⟩) ((go_at_call 70; refine hlead.mono ?_; rintro e w6 ⟨rfl, av6, hJ6, hS6⟩; have hb6 : Below w1.heap.size w1 w6 := hb5d.trans (hS6.below hJ5d); have hK : (fun wx : World => wx.cell? ⟨P, 1, none⟩ = some (.int .i64 S) ∧ wx.cell? ⟨w.heap.size, 1, none⟩ = some (.int .i64 f.start)) w6 := ⟨box_cell (k := 1) hJ6.box rfl, box_cell (k := 1) (heap_bel hb6 hbF1) rfl⟩))
  have p3 := box_cell (k := 1) hJ6.box rfl
  go_wp2_with (first
    | (go_at_call 70
       refine (jlead_any P w1.heap.size (S + 1) S fv4 av6 _ _ S (g.start + f.states) 0 w6 hJ6 (by have := hal5; simp at this ⊢; omega)).mono ?_
       rintro e w7 ⟨rfl, av7, hJ7, hS7⟩
       have hb7 : Below w1.heap.size w1 w7 := hb6.trans (hS7.below hJ6))
    | (go_at_call 71
       refine (jdone_any P w1.heap.size (S + 1) S fv4 av7 _ _ w7 hJ7 (by have := hal5; simp at this ⊢; omega)).mono ?_
       rintro e w8 ⟨fv8, av8, rfl, hI8, hA8, hb8⟩
       obtain ⟨fa8, fn8, fc8, rfl, _, _⟩ := (ownsRow_ints hI8).lenOf
       obtain ⟨a8, n8, c8, rfl, _, _⟩ := hA8.slice.lenOf
       have hb81 := hb7.trans hb8
       have hz8 := heap_bel hb81 hbZ1
       obtain ⟨z0, z1, z2, z3, y0, y1, y2, y3⟩ := zfacts hz8
       have hltZ := heap_lt hbZ1))
  have HSZ1 : w.heap.size ≤ w1.heap.size := by first | exact HF1.out.2.2.size | exact HF1.out.2.size
  obtain ⟨g1, g2⟩ := farS hI8 hA8 hltZ HSZ1 (.int .i64 (S + 1)) (.int .i64 S) (.slice fa8 fn8 fc8) (.slice a8 n8 c8)
  have g3 := bel4 (B := w.heap.size) (P := w.heap.size + 1 + 1) (HF1.out.2.2.trans (hb81.mono HF1.out.2.2.size)) (by omega) (.int .i64 (S + 1)) (.int .i64 S) (.slice fa8 fn8 fc8) (.slice a8 n8 c8)
  have hS := HSQ.out
  subst hS
  exact bodyPost_ret (v := .tuple #[.agg #[.int .i64 (f.states + g.states + 1), .int .i64 (f.states + g.states), .slice fa8 fn8 fc8, .slice a8 n8 c8], .int .i64 0]) (by simp [results, Try.results23, go_sem, z0, z1, z2, z3]) rfl ⟨_, _, _, _, _, _, rfl, g1, g2, g3⟩
end Go.Proofs.Yteehgcbjmdideaa

/- 'ends' of package simple: a loop over the ends of a transducer. -/
namespace Go.Proofs.Yteehgcbjmdideaa
open Go.RowKit Go.Shelf
attribute [local go_sem] Oper.semAt_some

/-- the ends among the first k states, and what they cost -/
def endsU (xs : List Int) : Nat → List (Nat × Int)
  | 0 => []
  | k + 1 => endsU xs k ++ if xs.getD k 0 = -1 then [] else [(k, xs.getD k 0)]
theorem endsU_skip {xs : List Int} {k : Nat} (h : xs.getD k 0 = -1) : endsU xs (k + 1) = endsU xs k := by
  show _ ++ _ = _
  rw [if_pos h, List.append_nil]
theorem endsU_keep {xs : List Int} {k : Nat} {c : Int} (hc : xs.getD k 0 = c) (h : c ≠ -1) : endsU xs (k + 1) = endsU xs k ++ [(k, c)] := by
  show _ ++ _ = _
  rw [hc, if_neg h]
theorem endsU_len (xs : List Int) (k : Nat) : (endsU xs k).length ≤ k := by
  induction k with
  | zero => exact Nat.le_refl _
  | succ k ih =>
    unfold endsU
    rw [List.length_append]
    split
    · simp; omega
    · simp; omega

set_option maxRecDepth 100000 in
set_option maxHeartbeats 2000000 in
theorem ends_in (F : Fence) (n : Nat) (hFn : F.fn 140) (hro : F.round = none) (hn : 1 ≤ n) (l Bx fb fo N fc : Nat) (hN : N ≤ 200) (xs : List Int) (J Jx : List { x : Nat × Int // x.1 < N } → World → Prop)
    (hY : ∀ pre x W, J pre W → pre.length < N → YieldAt F (n - 1) Try.prog l #[.int .i64 (x.1.1 : Int), .int .i64 x.1.2] W fun e W' =>
      (e = .returned (.bool true) ∧ J (pre ++ [x]) W' ∧ W'.heap[fb]? = W.heap[fb]?) ∨ (e = .returned (.bool false) ∧ Jx (pre ++ [x]) W'))
    (W : World) (hBx : W.cell? ⟨Bx, 2, none⟩ = some (.slice (some ⟨fb, fo, none⟩) N fc)) (hx : IntsAt W fb fo N xs) (h0 : J [] W) :
    CallsIn F n Try.prog 140 #[.func (.yield l) #[] #[], .pointer (some ⟨Bx, 0, none⟩)] W fun e W' => (∃ v, e = .returned v) ∧
      ((∃ ys, ys.map Subtype.val = endsU xs N ∧ J ys W') ∨ (∃ pre, True ∧ Jx pre W')) := by
  refine callsIn_of_wp Try.func140 rfl hFn ?_ hro
  simp only [Try.ntmps140, List.size_toArray, List.length_cons, List.length_nil, Nat.reduceAdd, Nat.reduceSub, Array.replicate_succ, Array.replicate_zero, List.push_toArray, List.append_toArray, List.nil_append, List.cons_append]
  gi_wp2
  gi_loopw [8] (fun i wr => ∃ (k : Nat) (pre : List { x : Nat × Int // x.1 < N }), k ≤ N ∧ i = .int .i64 k ∧ pre.map Subtype.val = endsU xs k ∧ J pre wr ∧ wr.heap[fb]? = W.heap[fb]?)
    (fun i _ => N - (intOf i).toNat)
  case atStart => exact ⟨0, [], Nat.zero_le _, rfl, rfl, h0, rfl⟩
  case round =>
    obtain ⟨k, pre, hk, rfl, hpre, hJs, hfb⟩ := hrel
    by_cases hlt : k < N
    · have hcx : wr.cell? ⟨fb, fo + k, none⟩ = some (.int .i64 (xs.getD k 0)) := (World.cell?_of_block (w := W) (a := ⟨fb, fo + k, none⟩) hfb).trans (hx.cell k hlt)
      obtain ⟨c, hc⟩ : ∃ c, xs.getD k 0 = c := ⟨_, rfl⟩
      rw [hc] at hcx
      have HC : Hid (xs.getD k 0 = c) := hc
      have HPRE : Hid (pre.map Subtype.val = endsU xs k) := hpre
      have hki : (k : Int) < N := by omega
      have hpl : pre.length < N := by
        have := endsU_len xs k
        rw [← hpre, List.length_map] at this
        omega
      clear hc hpre
      by_cases hce : c = -1
      · subst hce
        gi_wp2
        refine ⟨fun _ h => (by cases h), ?_⟩
        gi_wp2
        go_roundw
        case rel => exact ⟨k + 1, pre, by omega, by simp, by rw [endsU_skip HC.out]; exact HPRE.out, hJs, hfb⟩
        case measure => simp [intOf]; omega
      · have hcb : (c != -1) = true := by simpa using hce
        obtain ⟨fn, tmps, assign, body, hy, hR⟩ := hY pre ⟨(k, c), hlt⟩ wr hJs hpl
        dsimp only at hy
        gi_wp2
        refine hR.mono ?_
        rintro e W3 (⟨rfl, hJ3, hk3⟩ | ⟨rfl, hJx3⟩)
        · gi_wp2
          go_roundw
          case rel => exact ⟨k + 1, pre ++ [⟨(k, c), hlt⟩], by omega, by simp, by rw [endsU_keep HC.out hce, List.map_append, HPRE.out]; rfl, hJ3, hk3.trans hfb⟩
          case measure => simp [intOf]; omega
        · gi_wp2
          refine bodyPost_ret (results_none rfl _ _ _) rfl ?_
          exact ⟨⟨_, rfl⟩, .inr ⟨_, trivial, hJx3⟩⟩
    · obtain rfl : k = N := by omega
      gi_wp2
      go_end0
      exact ⟨⟨_, rfl⟩, .inl ⟨pre, hpre, hJs⟩⟩

theorem ends_stops (F : Fence) (n : Nat) (hFn : F.fn 140) (hro : F.round = none) (hn : 1 ≤ n) (Bx fb fo N fc : Nat) (hN : N ≤ 200) (xs : List Int) (w : World) (hBx : w.cell? ⟨Bx, 2, none⟩ = some (.slice (some ⟨fb, fo, none⟩) N fc)) (hx : IntsAt w fb fo N xs) :
    SeqStopsK F n Try.prog 140 #[.pointer (some ⟨Bx, 0, none⟩)] (fun x : { x : Nat × Int // x.1 < N } => #[.int .i64 (x.1.1 : Int), .int .i64 x.1.2]) (fun W W' => W'.heap[fb]? = W.heap[fb]?) (fun ys => ys.map Subtype.val = endsU xs N) (fun _ => True) N w :=
  fun l J Jx W hW _ _ hY h0 => ends_in F n hFn hro hn l Bx fb fo N fc hN xs J Jx hY W (bel_c hW hBx) (hx.below hW) h0

set_option maxHeartbeats 1000000 in
theorem ends_any (st sta : Int) (fa : Option Addr) (fn fc : Nat) (aa : Option Addr) (an ac : Nat) (w : World) :
    Calls Try.prog 104 #[.agg #[.int .i64 st, .int .i64 sta, .slice fa fn fc, .slice aa an ac]] w fun e w' => e = .returned (.func (.func 140) #[] #[.pointer (some ⟨w.heap.size, 0, none⟩)]) ∧ w' = w.alloc (.cells #[.int .i64 st, .int .i64 sta, .slice fa fn fc, .slice aa an ac] 25) := by
  go_enter Try.func104, Try.ntmps104
  go_wp2
  go_ret
  exact ⟨rfl, rfl⟩

/-- what 'goOn' makes of ends and arcs -/
def goX (xs : List Int) (pre : List (Nat × Int)) : List Int := pre.foldl (fun l x => l.set x.1 (-1)) xs
def goA (ars : List ArcD) (to : Int) (pre : List (Nat × Int)) : List ArcD := ars ++ pre.map fun x => ⟨x.1, 0, 0, to, x.2⟩
theorem goX_snoc (xs : List Int) (pre : List (Nat × Int)) (x : Nat × Int) : goX xs (pre ++ [x]) = (goX xs pre).set x.1 (-1) := by simp [goX]
theorem goX_len (xs : List Int) (pre : List (Nat × Int)) : (goX xs pre).length = xs.length := by
  unfold goX
  induction pre generalizing xs with
  | nil => rfl
  | cons x pre ih => rw [List.foldl_cons, ih, List.length_set]
theorem goA_snoc (ars : List ArcD) (to : Int) (pre : List (Nat × Int)) (x : Nat × Int) : goA ars to (pre ++ [x]) = goA ars to pre ++ [⟨x.1, 0, 0, to, x.2⟩] := by simp [goA]

theorem own_cells {w : World} {B e size n : Nat} {v : Value} {xs : List Value} (h : w.ownsRow B e size v n xs) : ∀ g, v.ownBlock = some g → ∃ o : Obj, w.heap[g]? = some o ∧ o.isCells = true := by
  intro g hg
  rcases h.2 with ⟨h1, _⟩ | ⟨g', cap, cur, he, _, hh, _⟩
  · rw [h1] at hg; simp [Value.ownBlock] at hg
  · rw [he] at hg
    have hg' : some g' = some g := hg
    injection hg' with hg'
    subst hg'
    exact ⟨_, hh, rfl⟩

/-- whatever turns that is no cells, the joint stays -/
theorem JW.kept {w w' : World} {P B : Nat} {st sta : Int} {fv av : Value} {xs : List Int} {ars : List ArcD} {row : Option Nat} (h : JW w P B st sta fv av xs ars) (hg : w.grownBy w' row) (hr : ∀ r, row = some r → ∃ o : Obj, w.heap[r]? = some o ∧ o.isCells = false) : JW w' P B st sta fv av xs ars := by
  have key : ∀ g, (∃ o : Obj, w.heap[g]? = some o ∧ o.isCells = true) → some g ≠ row := fun g ⟨o, ho, hc⟩ e => by
    obtain ⟨o', ho', hc'⟩ := hr g e.symm
    rw [ho] at ho'
    injection ho' with ho'
    subst ho'
    rw [hc] at hc'
    exact Bool.noConfusion hc'
  refine ⟨(hg.block P h.lt (key P ⟨_, h.box, rfl⟩)).trans h.box, h.fin.kept hg ?_, h.arc.kept hg ?_, h.hP, h.fP, h.aP, h.fa⟩
  · cases hf : fv.ownBlock with
    | none => exact Or.inl rfl
    | some g => exact Or.inr (key g (own_cells h.fin g hf))
  · cases hf : av.ownBlock with
    | none => exact Or.inl rfl
    | some g => exact Or.inr (key g (own_cells h.arc g hf))
theorem JS.kept {P D : Nat} {w w1 w2 : World} {fv av fv' av' : Value} {row : Option Nat} (h : JS P w w1 fv av fv' av') (hg : w1.grownBy w2 row) (hD : w.heap.size ≤ D) (hr : ∀ r, row = some r → D ≤ r) : JS P w w2 fv av fv' av' :=
  ⟨hg.os.trans h.os, hg.tape.trans h.tape, hg.output.trans h.output, Nat.le_trans h.size hg.size, fun b hb hP hf ha => (hg.block b (by have := h.size; omega) (fun e => by have := hr b e.symm; omega)).trans (h.block b hb hP hf ha), h.own⟩
theorem JS.others {P B : Nat} {w w' : World} {st sta : Int} {fv av fv' av' : Value} {xs : List Int} {ars : List ArcD} (h : JS P w w' fv av fv' av') (hJ : JW w P B st sta fv av xs ars) : KeepsOthers w w' := by
  refine ⟨h.size, fun k o hk ho => ?_⟩
  have key : ∀ g, (∃ o : Obj, w.heap[g]? = some o ∧ o.isCells = true) → k ≠ g := fun g ⟨o', ho', hc⟩ e => by
    subst e
    rw [hk] at ho'
    injection ho' with ho'
    subst ho'
    rw [hc] at ho
    exact Bool.noConfusion ho
  exact (h.block k (heap_lt hk) (key P ⟨_, hJ.box, rfl⟩) (fun e => key k (own_cells hJ.fin k e) rfl) (fun e => key k (own_cells hJ.arc k e) rfl)).trans hk

/-- an end is none any more -/
theorem JW.unend {w : World} {P B G n cap : Nat} {st sta : Int} {av : Value} {xs : List Int} {ars : List ArcD} (h : JW w P B st sta (.slice (some ⟨G, 0, none⟩) n cap) av xs ars) (i : Nat) (x : Int) : JW (w.setCell ⟨G, i, none⟩ (.int .i64 x)) P B st sta (.slice (some ⟨G, 0, none⟩) n cap) av (xs.set i x) ars := by
  have hGP : P ≠ G := fun e => h.fP (by rw [e]; rfl)
  refine ⟨heap_far h.box hGP, ?_, ownsRow_setCell_far h.arc (h.fa G rfl), h.hP, h.fP, h.aP, h.fa⟩
  have hf := h.fin
  refine ⟨by simp, ?_⟩
  rcases hf.2 with ⟨h1, _⟩ | ⟨g', cap', cur, he, hB, hh, h1, h2, h3, h4⟩
  · cases h1
  · cases he
    refine Or.inr ⟨G, cap, cur.setIfInBounds i (.int .i64 x), by rw [List.length_set], hB, Go.Joins.block_setCell hh _, by rw [List.length_set]; exact h1, h2, by simpa using h3, ?_⟩
    rw [Array.toList_setIfInBounds, List.take_set, List.length_set, h4, List.map_set]
theorem JS.unend {P G n cap i : Nat} {w : World} {av u : Value} : JS P w (w.setCell ⟨G, i, none⟩ u) (.slice (some ⟨G, 0, none⟩) n cap) av (.slice (some ⟨G, 0, none⟩) n cap) av :=
  ⟨rfl, rfl, rfl, by simp [World.setCell], fun b _ _ hf _ => Below.heap_setCell w ⟨G, i, none⟩ u b (fun e => hf (by rw [e]; rfl)), fun _ h => h.imp id Or.inl⟩
end Go.Proofs.Yteehgcbjmdideaa

/- 'goOn' of package simple. -/
namespace Go.Proofs.Yteehgcbjmdideaa
open Go.RowKit Go.Shelf
attribute [local go_sem] Oper.semAt_some

set_option maxRecDepth 100000 in
set_option maxHeartbeats 4000000 in
theorem goEnds_any (f : FstD) (P B : Nat) (st sta : Int) (fv av : Value) (xs : List Int) (ars : List ArcD) (fb fo N fc : Nat) (aa : Option Addr) (m ac : Nat) (to : Int) (w : World) (hJ : JW w P B st sta fv av xs ars)
    (hf : IntsAt w fb fo N f.final) (hfB : fb < B) (hN1 : 1 ≤ N) (hN : N ≤ 200) (hx : N ≤ xs.length) (hx2 : xs.length ≤ 1000) (har : ars.length ≤ 6000) :
    Calls Try.prog 72 #[.pointer (some ⟨P, 0, none⟩), .agg #[.int .i64 f.states, .int .i64 f.start, .slice (some ⟨fb, fo, none⟩) N fc, .slice aa m ac], .int .i64 to] w fun e w' =>
      e = .returned (.tuple #[]) ∧ ∃ fv' av', JW w' P B st sta fv' av' (goX xs (endsU f.final N)) (goA ars to (endsU f.final N)) ∧ JS P w w' fv av fv' av' := by
  obtain ⟨G, cap, rfl, hGB⟩ := own_some hJ.fin (fun e => by
    have h1 := hJ.fin
    rw [e] at h1
    rcases h1.2 with ⟨_, h2⟩ | ⟨_, _, _, h2, _⟩
    · omega
    · cases h2)
  have hlt := hJ.lt
  have hBw : B ≤ w.heap.size := by have := hJ.hP; omega
  obtain ⟨W0, hW0⟩ : ∃ W0, W0 = (((w.alloc (.cells #[.pointer (some ⟨P, 0, none⟩)] 80)).alloc (.cells #[.int .i64 f.states, .int .i64 f.start, .slice (some ⟨fb, fo, none⟩) N fc, .slice aa m ac] 25)).alloc (.cells #[.int .i64 to] 3)).alloc (.cells #[.int .i64 f.states, .int .i64 f.start, .slice (some ⟨fb, fo, none⟩) N fc, .slice aa m ac] 25) := ⟨_, rfl⟩
  have hb0 : Below w.heap.size w W0 := by rw [hW0]; exact bel_up (bel_up (two_up w _ _) _) _
  refine (callsIn_wide (n := 3)).1 ?_
  refine callsIn_of_wp_marks Try.func72 rfl trivial ?_ rfl
  simp only [Try.ntmps72, List.size_toArray, List.length_cons, List.length_nil, Nat.reduceAdd, Nat.reduceSub, Array.replicate_succ, Array.replicate_zero, List.push_toArray, List.append_toArray, List.nil_append, List.cons_append]
  gi_wp2_with (refine ⟨trivial, ?_⟩; gi_at_call 104; refine (callsIn_wide.2 (ends_any f.states f.start (some ⟨fb, fo, none⟩) N fc aa m ac _)).mono ?_; rintro e w' ⟨rfl, rfl⟩)
  rw [← hW0]
  have hbP : W0.heap[w.heap.size]? = some (.cells #[.pointer (some ⟨P, 0, none⟩)] 80 (0, 0)) := by
    rw [hW0]; exact heap_bel (bel_up (bel_up (bel_up (bel_self _) _) _) _) (heap_alloc_new w _)
  have hbT : W0.heap[w.heap.size + 1 + 1]? = some (.cells #[.int .i64 to] 3 (0, 0)) := by
    rw [hW0]
    have := heap_alloc_new ((w.alloc (.cells #[.pointer (some ⟨P, 0, none⟩)] 80)).alloc (.cells #[.int .i64 f.states, .int .i64 f.start, .slice (some ⟨fb, fo, none⟩) N fc, .slice aa m ac] 25)) (.cells #[.int .i64 to] 3)
    rw [one_size, one_size] at this
    exact heap_bel (bel_up (bel_self _) _) this
  have hbX : W0.heap[w.heap.size + 1 + 1 + 1]? = some (.cells #[.int .i64 f.states, .int .i64 f.start, .slice (some ⟨fb, fo, none⟩) N fc, .slice aa m ac] 25 (0, 0)) := by
    rw [hW0]
    have := heap_alloc_new (((w.alloc (.cells #[.pointer (some ⟨P, 0, none⟩)] 80)).alloc (.cells #[.int .i64 f.states, .int .i64 f.start, .slice (some ⟨fb, fo, none⟩) N fc, .slice aa m ac] 25)).alloc (.cells #[.int .i64 to] 3)) (.cells #[.int .i64 f.states, .int .i64 f.start, .slice (some ⟨fb, fo, none⟩) N fc, .slice aa m ac] 25)
    rw [one_size, one_size, one_size] at this
    exact this
  have hJ0 := hJ.below hb0
  have hsz0 : w.heap.size + 3 < W0.heap.size := heap_lt hbX
  have hrow : (∀ g, (Value.slice (some ⟨G, 0, none⟩) xs.length cap).ownBlock = some g → g < w.heap.size) ∧ (∀ g, av.ownBlock = some g → g < w.heap.size) := ⟨fun g hg => ownsRow_lt0 hJ.fin g hg, fun g hg => ownsRow_lt0 hJ.arc g hg⟩
  have HB : Hid (Below w.heap.size w W0) := hb0
  have HR : Hid ((∀ g, (Value.slice (some ⟨G, 0, none⟩) xs.length cap).ownBlock = some g → g < w.heap.size) ∧ (∀ g, av.ownBlock = some g → g < w.heap.size)) := hrow
  clear hW0 hrow
  refine wpIn_rangeFunc_ownG (F := Fence.wide) rfl (by omega) (gf := 140) (lb := #[.pointer (some ⟨w.heap.size + 1 + 1 + 1, 0, none⟩)]) rfl trivial (enters_of Try.func140 (by kernel_rfl) rfl)
    (ends_stops Fence.wide _ trivial rfl (by omega) (w.heap.size + 1 + 1 + 1) fb fo N fc hN f.final W0 (box_cell (k := 2) hbX rfl) (hf.below hb0)) (fun h k => k.trans h) (fun W l o o' hl _ _ _ => World.putObj_heap_other (by omega)) (Below.refl _ _) (fun _ => rfl)
    (fun pre W => ∃ av', JW W P B st sta (.slice (some ⟨G, 0, none⟩) xs.length cap) av' (goX xs (pre.map Subtype.val)) (goA ars to (pre.map Subtype.val)) ∧ JS P W0 W (.slice (some ⟨G, 0, none⟩) xs.length cap) av (.slice (some ⟨G, 0, none⟩) xs.length cap) av')
    (fun _ _ _ => False)
    (fun s A B' row ⟨av', h1, h2⟩ hg hr => ⟨av', h1.kept hg (fun r e => (hr r e).2), h2.kept hg (Nat.le_refl _) (fun r e => (hr r e).1)⟩)
    (fun _ _ _ _ _ hs _ _ => hs)
    ⟨av, by simpa [goX, goA] using hJ0, JS.refl⟩
    (fun x => { tmps := #[.pointer (some ⟨P, 0, none⟩), .agg #[.int .i64 f.states, .int .i64 f.start, .slice (some ⟨fb, fo, none⟩) N fc, .slice aa m ac], .int .i64 to, .pointer (some ⟨w.heap.size, 0, none⟩), .pointer (some ⟨w.heap.size + 1, 0, none⟩), .pointer (some ⟨w.heap.size + 1 + 1, 0, none⟩), .int .i64 (x.1.1 : Int), .int .i64 x.1.2, .agg #[.int .i64 f.states, .int .i64 f.start, .slice (some ⟨fb, fo, none⟩) N fc, .slice aa m ac], .func (.func 140) #[] #[.pointer (some ⟨w.heap.size + 1 + 1 + 1, 0, none⟩)], .int .i64 (x.1.1 : Int), .int .i64 x.1.2, undef, undef, undef, undef, undef, undef, undef, undef, undef, undef, undef, undef], defers := [] }) ?assign ?body ?done ?stop
  case assign =>
    intro l x W K hK
    gi_wp2
    exact hK
  case body =>
    rintro l pre x W ⟨av', hJ', hS'⟩ hlen
    have hxl : x.1.1 < xs.length := Nat.lt_of_lt_of_le x.2 hx
    obtain ⟨i, c, hic⟩ : ∃ (i : Nat) (c : Int), x.1 = (i, c) := ⟨x.1.1, x.1.2, rfl⟩
    have HX : Hid (x.1 = (i, c)) := hic
    have e1 : x.1.1 = i := by rw [hic]
    have e2 : x.1.2 = c := by rw [hic]
    rw [e1, e2]
    rw [e1] at hxl
    have hbPW := (hS'.block _ (heap_lt hbP) (by omega) (fun e => by have := HR.out.1 _ e; omega) (fun e => by have := HR.out.2 _ e; omega)).trans hbP
    have hbTW := (hS'.block _ (heap_lt hbT) (by omega) (fun e => by have := HR.out.1 _ e; omega) (fun e => by have := HR.out.2 _ e; omega)).trans hbT
    have b0 := box_cell (k := 0) hbPW rfl
    have b2 := box_cell (k := 0) hbTW rfl
    have c2 := box_cell (k := 2) hJ'.box rfl
    have hfin := hJ'.fin
    rw [goX_len] at hfin
    have hci := hfin.cellAt i (by omega)
    have hcz := hfin.frozenAt i
    have hcs : ∃ y, W.cell? ⟨G, i, none⟩ = some (.int .i64 y) := ⟨(goX xs (pre.map Subtype.val)).getD i 0, by rw [hci]; simp [List.getD, goX_len, hxl]⟩
    obtain ⟨y, hy⟩ := hcs
    have hJ1 := hJ'.unend i (-1)
    have hlead := jlead_any P B st sta _ av' _ _ i to c _ hJ1 (by unfold goA; rw [List.length_append, List.length_map, List.length_map]; omega)
    have b0' : (W.setCell ⟨G, i, none⟩ (.int .i64 (-1))).cell? ⟨w.heap.size, 0, none⟩ = some (.pointer (some ⟨P, 0, none⟩)) := by rw [set_far (fun e => by have := HR.out.1 G rfl; omega)]; exact b0
    have b2' : (W.setCell ⟨G, i, none⟩ (.int .i64 (-1))).cell? ⟨w.heap.size + 1 + 1, 0, none⟩ = some (.int .i64 to) := by rw [set_far (fun e => by have := HR.out.1 G rfl; omega)]; exact b2
    have hii : (i : Int) < xs.length := by omega
    have hGw : G ≠ w.heap.size := fun e => by have := HR.out.1 G rfl; omega
    have hGw2 : G ≠ w.heap.size + 1 + 1 := fun e => by have := HR.out.1 G rfl; omega
    clear hfin hci
    gi_wp2_with (refine ⟨trivial, ?_⟩; gi_at_call 70; refine (CallsIn.inRound l (callsIn_wide.2 hlead)).mono ?_; rintro e w2 ⟨rfl, av2, hJ2, hS2⟩)
    have hS3 := (JS.unend (P := P) (G := G) (n := xs.length) (cap := cap) (i := i) (w := W) (av := av') (u := .int .i64 (-1))).trans hS2
    exact ⟨(hS3.others hJ').from _, (hS3.below hJ').block fb hfB, av2, by rw [List.map_append, List.map_singleton, HX.out, goX_snoc, goA_snoc]; exact hJ2, hS'.trans hS3⟩
  case done =>
    rintro D ys W hD hys ⟨av', hJ', hS'⟩ hK
    rw [hys] at hJ'
    have hg := grownBy_putObj' W D (.deferred none)
    have hJ2 := hJ'.kept hg (fun r e => by cases e; exact ⟨_, hK, rfl⟩)
    have hS2 := hS'.kept hg (Nat.le_refl _) (fun r e => by cases e; exact hD)
    gi_wp2
    refine ⟨by simp, .inl ⟨_, _, rfl, run_takeDeferred hK, ?_⟩⟩
    exact ⟨_, results_none rfl _ _ _, rfl, _, av', hJ2, (JS.of_bel HB.out).trans hS2⟩
  case stop =>
    rintro D c pre W _ _ h _
    exact h.elim
end Go.Proofs.Yteehgcbjmdideaa
