/- 'fit' and 'Either' of package simple, where all is right. -/
import Derived.Test.YteehgcbjmdideaaQMU
namespace Go.Proofs.Yteehgcbjmdideaa
open Go.RowKit
attribute [local go_sem ↓] Go.wp_at_zero Go.wp_at_succ

/-- the second of two transducers in a block -/
def CellsG (w : World) (B : Nat) (st sta : Int) (fin arcs : Value) : Prop :=
  w.cell? ⟨B, 4, none⟩ = some (.int .i64 st) ∧ w.cell? ⟨B, 5, none⟩ = some (.int .i64 sta) ∧ w.cell? ⟨B, 6, none⟩ = some fin ∧ w.cell? ⟨B, 7, none⟩ = some arcs
theorem CellsG.below {w w' : World} {B : Nat} {st sta : Int} {fin arcs : Value} (h : CellsG w B st sta fin arcs) (hb : Below w.heap.size w w') : CellsG w' B st sta fin arcs :=
  ⟨bel_c hb h.1, bel_c hb h.2.1, bel_c hb h.2.2.1, bel_c hb h.2.2.2⟩

set_option maxHeartbeats 1000000 in
theorem all_ok2 (f g : FstD) (fin arcs fin' arcs' : Value) (B : Nat) (w : World) (hC : CellsF w B f.states f.start fin arcs) (hD : CellsG w B g.states g.start fin' arcs') (hf : ISlice w fin f.final) (ha : ASlice w arcs f.arcs) (hf' : ISlice w fin' g.final) (ha' : ASlice w arcs' g.arcs) (hc : checkD f = 0) (hc' : checkD g = 0) :
    Calls Try.prog 59 #[.slice (some ⟨B, 0, none⟩) 2 2] w fun e w' => e = .returned (.int .i64 0) ∧ Below w.heap.size w w' := by
  obtain ⟨fa, fn, fc, rfl, _, _⟩ := hf.lenOf
  obtain ⟨ba, bn, bc, rfl, _, _⟩ := ha.lenOf
  obtain ⟨ga, gn, gc, rfl, _, _⟩ := hf'.lenOf
  obtain ⟨ea, en, ec, rfl, _, _⟩ := ha'.lenOf
  have hchk : ∀ W, ISlice W (.slice fa fn fc) f.final → ASlice W (.slice ba bn bc) f.arcs → Calls Try.prog 101 #[.agg #[.int .i64 f.states, .int .i64 f.start, .slice fa fn fc, .slice ba bn bc]] W fun e w' => e = .returned (.int .i64 0) ∧ Below W.heap.size W w' := by
    intro W k1 k2; rw [← hc]; exact check_any f _ _ W k1 k2
  have hchk' : ∀ W, ISlice W (.slice ga gn gc) g.final → ASlice W (.slice ea en ec) g.arcs → Calls Try.prog 101 #[.agg #[.int .i64 g.states, .int .i64 g.start, .slice ga gn gc, .slice ea en ec]] W fun e w' => e = .returned (.int .i64 0) ∧ Below W.heap.size W w' := by
    intro W k1 k2; rw [← hc']; exact check_any g _ _ W k1 k2
  clear hc hc'
  go_enter Try.func59, Try.ntmps59
  go_wp2
  go_loopw [8] (fun i wr => ∃ k : Nat, k ≤ 2 ∧ i = .int .i64 k ∧ Below w.heap.size w wr) (fun i _ => 2 - (intOf i).toNat)
  case atStart => exact ⟨0, by omega, rfl, bel_self _⟩
  case round =>
    obtain ⟨k, hk, rfl, hb⟩ := hrel
    by_cases h0 : k = 0
    · subst h0
      obtain ⟨q0, q1, q2, q3⟩ := hC.below hb
      have hb1 := bel_up (bel_self wr) (.cells #[.int .i64 f.states, .int .i64 f.start, .slice fa fn fc, .slice ba bn bc] 25)
      have h1 := (hf.below hb).below hb1
      have h2 := (ha.below hb).below hb1
      go_wp2_with (go_at_call 101; refine (hchk _ h1 h2).mono ?_; rintro e w1 ⟨rfl, hb2⟩)
      go_roundw
      case rel => exact ⟨1, by omega, by go_num, bel_on (bel_on hb hb1) hb2⟩
      case measure => simp [intOf]
    · by_cases h1' : k = 1
      · subst h1'
        obtain ⟨q0, q1, q2, q3⟩ := hD.below hb
        have hb1 := bel_up (bel_self wr) (.cells #[.int .i64 g.states, .int .i64 g.start, .slice ga gn gc, .slice ea en ec] 25)
        have h1 := (hf'.below hb).below hb1
        have h2 := (ha'.below hb).below hb1
        go_wp2_with (go_at_call 101; refine (hchk' _ h1 h2).mono ?_; rintro e w1 ⟨rfl, hb2⟩)
        go_roundw
        case rel => exact ⟨2, by omega, by go_num, bel_on (bel_on hb hb1) hb2⟩
        case measure => simp [intOf]
      · have hk2 : k = 2 := by omega
        subst hk2
        go_wp2
        go_ret
        exact ⟨rfl, hb⟩

set_option maxHeartbeats 1000000 in
set_option maxRecDepth 100000 in
theorem fit_ok2 (f g : FstD) (fin fin' : Value) (aa : Option Addr) (m ac : Nat) (ga : Option Addr) (m' gc : Nat) (B : Nat) (w : World) (hC : CellsF w B f.states f.start fin (.slice aa m ac)) (hD : CellsG w B g.states g.start fin' (.slice ga m' gc)) (hf : ISlice w fin f.final) (ha : ASlice w (.slice aa m ac) f.arcs) (hf' : ISlice w fin' g.final) (ha' : ASlice w (.slice ga m' gc) g.arcs) (hc : checkD f = 0) (hc' : checkD g = 0)
    (h1 : 0 ≤ f.states) (h2 : 0 ≤ g.states) (h3 : f.states + g.states ≤ 198) (h4 : m + m' ≤ 2500) :
    Calls Try.prog 66 #[.slice (some ⟨B, 0, none⟩) 2 2] w fun e w' => e = .returned (.int .i64 0) ∧ Below w.heap.size w w' := by
  obtain ⟨fa, fn, fc, rfl, _, _⟩ := hf.lenOf
  obtain ⟨ea, en, ec, rfl, _, _⟩ := hf'.lenOf
  have hall := all_ok2 f g _ _ _ _ B w hC hD hf ha hf' ha' hc hc'
  clear hf ha hf' ha' hc hc'
  go_enter Try.func66, Try.ntmps66
  go_wp2_with (go_at_call 59; refine hall.mono ?_; rintro e w1 ⟨rfl, hb1⟩)
  go_loopw [4, 5, 15] (fun s4 s5 i wr => (∃ k : Nat, i = .int .i64 k ∧ ((k = 0 ∧ s4 = .int .i64 0 ∧ s5 = .int .i64 0) ∨ (k = 1 ∧ s4 = .int .i64 f.states ∧ s5 = .int .i64 m) ∨ (k = 2 ∧ s4 = .int .i64 (f.states + g.states) ∧ s5 = .int .i64 (m + m')))) ∧ Below w.heap.size w wr) (fun _ _ i _ => 2 - (intOf i).toNat)
  case atStart => exact ⟨⟨0, rfl, Or.inl ⟨rfl, rfl, rfl⟩⟩, hb1⟩
  case round =>
    obtain ⟨⟨k, rfl, hk⟩, hb⟩ := hrel
    rcases hk with ⟨rfl, rfl, rfl⟩ | ⟨rfl, rfl, rfl⟩ | ⟨rfl, rfl, rfl⟩
    · obtain ⟨q0, q1, q2, q3⟩ := hC.below hb
      have e1 : IntKind.i64.wrap f.states = f.states := wrap_in _ (by omega) (by omega)
      have e2 : IntKind.i64.wrap (m : Int) = m := wrap_in _ (by omega) (by omega)
      go_wp2
      go_region_held3 (fun wx => wx.cell? ⟨wr.heap.size, 0, none⟩ = some (.int .i64 f.states) ∧ wx.cell? ⟨wr.heap.size, 3, none⟩ = some (.slice aa m ac)) (exact ⟨drew_cell (new_cell _ _ _ _ 0 _ rfl rfl), drew_cell (new_cell _ _ _ _ 3 _ rfl rfl)⟩) (fail)
      go_wp2
      go_roundw
      case rel => exact ⟨⟨1, by go_num, Or.inr (Or.inl ⟨rfl, by go_num, by go_num⟩)⟩, (bel_up hb _).drew⟩
      case measure => simp [intOf]
    · obtain ⟨q0, q1, q2, q3⟩ := hD.below hb
      have e1 : IntKind.i64.wrap (f.states + g.states) = f.states + g.states := wrap_in _ (by omega) (by omega)
      have e2 : IntKind.i64.wrap ((m : Int) + m') = m + m' := wrap_in _ (by omega) (by omega)
      go_wp2
      go_region_held3 (fun wx => wx.cell? ⟨wr.heap.size, 0, none⟩ = some (.int .i64 g.states) ∧ wx.cell? ⟨wr.heap.size, 3, none⟩ = some (.slice ga m' gc)) (exact ⟨drew_cell (new_cell _ _ _ _ 0 _ rfl rfl), drew_cell (new_cell _ _ _ _ 3 _ rfl rfl)⟩) (fail)
      go_wp2
      go_roundw
      case rel => exact ⟨⟨2, by go_num, Or.inr (Or.inr ⟨rfl, by go_num, by go_num⟩)⟩, (bel_up hb _).drew⟩
      case measure => simp [intOf]
    · have e1 : ¬ (198 : Int) < f.states + g.states := by omega
      have e2 : ¬ (2500 : Int) < (m : Int) + m' := by omega
      go_wp2
      go_ret
      exact ⟨rfl, hb⟩
end Go.Proofs.Yteehgcbjmdideaa

/- 'Either' of package simple, where all is right. -/
namespace Go.Proofs.Yteehgcbjmdideaa
open Go.RowKit
attribute [local go_sem ↓] Go.wp_at_zero Go.wp_at_succ

set_option maxHeartbeats 1000000 in
set_option maxRecDepth 100000 in
theorem fit_ok1 (f : FstD) (fin : Value) (aa : Option Addr) (m ac : Nat) (B : Nat) (w : World) (hC : CellsF w B f.states f.start fin (.slice aa m ac)) (hf : ISlice w fin f.final) (ha : ASlice w (.slice aa m ac) f.arcs) (hc : checkD f = 0)
    (h1 : 0 ≤ f.states) (h3 : f.states ≤ 198) (h4 : m ≤ 2500) :
    Calls Try.prog 66 #[.slice (some ⟨B, 0, none⟩) 1 1] w fun e w' => e = .returned (.int .i64 0) ∧ Below w.heap.size w w' := by
  obtain ⟨fa, fn, fc, rfl, _, _⟩ := hf.lenOf
  have hall := all_one f _ _ B 0 w hC hf ha hc
  clear hf ha hc
  go_enter Try.func66, Try.ntmps66
  go_wp2_with (go_at_call 59; refine hall.mono ?_; rintro e w1 ⟨rfl, hb1⟩)
  go_loopw [4, 5, 15] (fun s4 s5 i wr => (∃ k : Nat, i = .int .i64 k ∧ ((k = 0 ∧ s4 = .int .i64 0 ∧ s5 = .int .i64 0) ∨ (k = 1 ∧ s4 = .int .i64 f.states ∧ s5 = .int .i64 m))) ∧ Below w.heap.size w wr) (fun _ _ i _ => 1 - (intOf i).toNat)
  case atStart => exact ⟨⟨0, rfl, Or.inl ⟨rfl, rfl, rfl⟩⟩, hb1⟩
  case round =>
    obtain ⟨⟨k, rfl, hk⟩, hb⟩ := hrel
    rcases hk with ⟨rfl, rfl, rfl⟩ | ⟨rfl, rfl, rfl⟩
    · obtain ⟨q0, q1, q2, q3⟩ := hC.below hb
      have e1 : IntKind.i64.wrap f.states = f.states := wrap_in _ (by omega) (by omega)
      have e2 : IntKind.i64.wrap (m : Int) = m := wrap_in _ (by omega) (by omega)
      go_wp2
      go_region_held3 (fun wx => wx.cell? ⟨wr.heap.size, 0, none⟩ = some (.int .i64 f.states) ∧ wx.cell? ⟨wr.heap.size, 3, none⟩ = some (.slice aa m ac)) (exact ⟨drew_cell (new_cell _ _ _ _ 0 _ rfl rfl), drew_cell (new_cell _ _ _ _ 3 _ rfl rfl)⟩) (fail)
      go_wp2
      go_roundw
      case rel => exact ⟨⟨1, by go_num, Or.inr ⟨rfl, by go_num, by go_num⟩⟩, (bel_up hb _).drew⟩
      case measure => simp [intOf]
    · have e1 : ¬ (198 : Int) < f.states := by omega
      have e2 : ¬ (2500 : Int) < (m : Int) := by omega
      go_wp2
      go_ret
      exact ⟨rfl, hb⟩

/-- what 'Either' answers -/
def eitherD (f g : FstD) : FstD := ⟨f.states + g.states + 1, f.states + g.states, f.final ++ g.final ++ [-1], leastL (f.arcs ++ g.arcs.map (movA f.states) ++ [⟨f.states + g.states, 0, 0, f.start, 0⟩] ++ [⟨f.states + g.states, 0, 0, g.start + f.states, 0⟩])⟩

/-- a transducer that is right, as it came in -/
structure FIn (w : World) (f : FstD) (fb fo N fc : Nat) (aa : Option Addr) (m ac : Nat) : Prop where
  fin : IntsAt w fb fo N f.final
  arc : ASlice w (.slice aa m ac) f.arcs
  al : f.arcs.length = m
  n : N ≤ 200
  m3 : m ≤ 3000
  st : 0 ≤ f.states ∧ f.states ≤ 200
  sta : 0 ≤ f.start ∧ f.start ≤ 200
  ok : ∀ a ∈ f.arcs, (0 ≤ a.src ∧ a.src ≤ 200) ∧ (0 ≤ a.dst ∧ a.dst ≤ 200)
  ck : checkD f = 0
theorem FIn.below {w w' : World} {f : FstD} {fb fo N fc : Nat} {aa : Option Addr} {m ac : Nat} (h : FIn w f fb fo N fc aa m ac) (hb : Below w.heap.size w w') : FIn w' f fb fo N fc aa m ac :=
  ⟨h.fin.below hb, h.arc.below hb, h.al, h.n, h.m3, h.st, h.sta, h.ok, h.ck⟩

set_option maxHeartbeats 2000000 in
set_option maxRecDepth 100000 in
theorem either_ok (f g : FstD) (fb fo N fc : Nat) (aa : Option Addr) (m ac : Nat) (gb go N' gc : Nat) (ea : Option Addr) (m' ec : Nat) (w : World) (hF : FIn w f fb fo N fc aa m ac) (hG : FIn w g gb go N' gc ea m' ec) (h3 : f.states + g.states ≤ 198) (h4 : m + m' ≤ 2500) :
    Calls Try.prog 23 #[.agg #[.int .i64 f.states, .int .i64 f.start, .slice (some ⟨fb, fo, none⟩) N fc, .slice aa m ac], .agg #[.int .i64 g.states, .int .i64 g.start, .slice (some ⟨gb, go, none⟩) N' gc, .slice ea m' ec]] w fun e w' => FstRes w (eitherD f g) 0 e w' := by
  obtain ⟨W0, hW0⟩ : ∃ W0, W0 = (((w.alloc (.cells #[.int .i64 f.states, .int .i64 f.start, .slice (some ⟨fb, fo, none⟩) N fc, .slice aa m ac] 25)).alloc (.cells #[.int .i64 g.states, .int .i64 g.start, .slice (some ⟨gb, go, none⟩) N' gc, .slice ea m' ec] 25)).alloc (.cells #[.int .i64 0, .int .i64 0, .slice none 0 0, .slice none 0 0] 25)).alloc (.cells #[.int .i64 f.states, .int .i64 f.start, .slice (some ⟨fb, fo, none⟩) N fc, .slice aa m ac, .int .i64 g.states, .int .i64 g.start, .slice (some ⟨gb, go, none⟩) N' gc, .slice ea m' ec] 25) := ⟨_, rfl⟩
  have hb0 : Below w.heap.size w W0 := by rw [hW0]; exact bel_up (bel_up (two_up w _ _) _) _
  have hbF : W0.heap[w.heap.size]? = some (.cells #[.int .i64 f.states, .int .i64 f.start, .slice (some ⟨fb, fo, none⟩) N fc, .slice aa m ac] 25 (0, 0)) := by
    rw [hW0]; exact heap_bel (bel_up (bel_up (bel_up (bel_self _) _) _) _) (heap_alloc_new w _)
  have hbG : W0.heap[w.heap.size + 1]? = some (.cells #[.int .i64 g.states, .int .i64 g.start, .slice (some ⟨gb, go, none⟩) N' gc, .slice ea m' ec] 25 (0, 0)) := by
    rw [hW0]
    have := heap_alloc_new (w.alloc (.cells #[.int .i64 f.states, .int .i64 f.start, .slice (some ⟨fb, fo, none⟩) N fc, .slice aa m ac] 25)) (.cells #[.int .i64 g.states, .int .i64 g.start, .slice (some ⟨gb, go, none⟩) N' gc, .slice ea m' ec] 25)
    rw [one_size] at this
    exact heap_bel (bel_up (bel_up (bel_self _) _) _) this
  have hbZ : ZBlock W0 (w.heap.size + 1 + 1) := by
    rw [hW0]
    have := heap_alloc_new ((w.alloc (.cells #[.int .i64 f.states, .int .i64 f.start, .slice (some ⟨fb, fo, none⟩) N fc, .slice aa m ac] 25)).alloc (.cells #[.int .i64 g.states, .int .i64 g.start, .slice (some ⟨gb, go, none⟩) N' gc, .slice ea m' ec] 25)) (.cells #[.int .i64 0, .int .i64 0, .slice none 0 0, .slice none 0 0] 25)
    rw [one_size, one_size] at this
    exact heap_bel (bel_up (bel_self _) _) this
  have hb8 : W0.heap[w.heap.size + 1 + 1 + 1]? = some (.cells #[.int .i64 f.states, .int .i64 f.start, .slice (some ⟨fb, fo, none⟩) N fc, .slice aa m ac, .int .i64 g.states, .int .i64 g.start, .slice (some ⟨gb, go, none⟩) N' gc, .slice ea m' ec] 25 (0, 0)) := by
    rw [hW0]
    have := heap_alloc_new (((w.alloc (.cells #[.int .i64 f.states, .int .i64 f.start, .slice (some ⟨fb, fo, none⟩) N fc, .slice aa m ac] 25)).alloc (.cells #[.int .i64 g.states, .int .i64 g.start, .slice (some ⟨gb, go, none⟩) N' gc, .slice ea m' ec] 25)).alloc (.cells #[.int .i64 0, .int .i64 0, .slice none 0 0, .slice none 0 0] 25)) (.cells #[.int .i64 f.states, .int .i64 f.start, .slice (some ⟨fb, fo, none⟩) N fc, .slice aa m ac, .int .i64 g.states, .int .i64 g.start, .slice (some ⟨gb, go, none⟩) N' gc, .slice ea m' ec] 25)
    rw [one_size, one_size, one_size] at this
    exact this
  have hF0 := hF.below hb0
  have hG0 := hG.below hb0
  have hnF := hF0.n
  have hfit := fit_ok2 f g _ _ aa m ac ea m' ec (w.heap.size + 1 + 1 + 1) W0 ⟨box_cell (k := 0) hb8 rfl, box_cell (k := 1) hb8 rfl, box_cell (k := 2) hb8 rfl, box_cell (k := 3) hb8 rfl⟩ ⟨box_cell (k := 4) hb8 rfl, box_cell (k := 5) hb8 rfl, box_cell (k := 6) hb8 rfl, box_cell (k := 7) hb8 rfl⟩ (Or.inr ⟨_, _, _, _, rfl, hF0.fin, by unfold maxLen; omega⟩) hF0.arc (Or.inr ⟨_, _, _, _, rfl, hG0.fin, by have := hG0.n; unfold maxLen; omega⟩) hG0.arc hF0.ck hG0.ck hF0.st.1 hG0.st.1 h3 h4
  have HB0 : Hid (Below w.heap.size w W0) := hb0
  have HFI : Hid (FIn W0 f fb fo N fc aa m ac ∧ FIn W0 g gb go N' gc ea m' ec) := ⟨hF0, hG0⟩
  have hst1 := hF.st
  have hst2 := hG.st
  have hsa1 := hF.sta
  have hsa2 := hG.sta
  clear hF hG hF0 hG0 hb8 hnF hb0
  go_enter Try.func23, Try.ntmps23
  go_wp2_with fail
  rw [← hW0]
  clear hW0
  obtain ⟨S, hS⟩ : ∃ S, S = f.states + g.states := ⟨_, rfl⟩
  have hSb : 0 ≤ S ∧ S ≤ 198 := by omega
  have HSQ : Hid (S = f.states + g.states) := hS
  clear hS
  go_wp2_with (first
    | (go_at_call 66
       refine hfit.mono ?_
       rintro e w1 ⟨rfl, hb1⟩
       have hbF1 := heap_bel hb1 hbF
       have hbG1 := heap_bel hb1 hbG
       have hbZ1 := heap_bel hb1 hbZ
       have u0 := box_cell (k := 0) hbF1 rfl
       have u1 := box_cell (k := 1) hbF1 rfl
       have u2 := box_cell (k := 2) hbF1 rfl
       have u3 := box_cell (k := 3) hbF1 rfl
       have HF1 : Hid (FIn w1 f fb fo N fc aa m ac ∧ FIn w1 g gb go N' gc ea m' ec ∧ Below w.heap.size w w1) := ⟨HFI.out.1.below hb1, HFI.out.2.below hb1, bel_on HB0.out hb1⟩
       clear hbF hbG hbZ hfit)
    | (go_at_call 67
       refine (jbegin_any f fb fo N fc aa m ac w1 HF1.out.1.fin HF1.out.1.arc HF1.out.1.al HF1.out.1.n HF1.out.1.m3 HF1.out.1.st HF1.out.1.sta HF1.out.1.ok).mono ?_
       rintro e w2 ⟨P, fv, av, rfl, hJ2, hb2⟩
       have hbG2 := heap_bel hb2 hbG1
       have v0 := box_cell (k := 0) hbG2 rfl
       have v1 := box_cell (k := 1) hbG2 rfl
       have v2 := box_cell (k := 2) hbG2 rfl
       have v3 := box_cell (k := 3) hbG2 rfl
       clear u0 u1 u2 u3)
    | (go_at_call 68
       refine (jtake_any g P w1.heap.size f.states f.start fv av f.final f.arcs gb go N' gc ea m' ec w2 hJ2 (fun W h => ⟨HF1.out.2.1.fin.below (hb2.trans h), HF1.out.2.1.arc.below (hb2.trans h)⟩) HF1.out.2.1.al HF1.out.2.1.n HF1.out.2.1.m3 (by omega) (by omega) (by have := HF1.out.1.fin.len; have := HF1.out.1.n; omega) (by have := HF1.out.1.al; have := HF1.out.1.m3; omega) HF1.out.2.1.st HF1.out.2.1.sta HF1.out.2.1.ok).mono ?_
       rintro e w3 ⟨rfl, fv3, av3, hJ3, hS3⟩
       have hb3 : Below w1.heap.size w1 w3 := hb2.trans (hS3.below hJ2)
       rw [← HSQ.out] at hJ3
       clear v0 v1 v2 v3 hbG2)
    | (go_at_call 69
       refine (jadd_any P w1.heap.size S f.start fv3 av3 (f.final ++ g.final) _ (-1) w3 hJ3 (by omega) (by omega) (by rw [List.length_append]; have := HF1.out.1.fin.len; have := HF1.out.1.n; have := HF1.out.2.1.fin.len; have := HF1.out.2.1.n; omega)).mono ?_
       rintro e w4 ⟨rfl, fv4, hJ4, hS4⟩
       have hb4 : Below w1.heap.size w1 w4 := hb3.trans (hS4.below hJ3)
       have d1 := box_cell (k := 1) hJ4.box rfl
       have z1 := box_frz hJ4.box 1))
  obtain ⟨W5, hW5⟩ : ∃ W5, W5 = w4.setCell ⟨P, 1, none⟩ (.int .i64 S) := ⟨_, rfl⟩
  have hJ5 : JW W5 P w1.heap.size (S + 1) S fv4 av3 (f.final ++ g.final ++ [-1]) (f.arcs ++ g.arcs.map (movA f.states)) := by rw [hW5]; exact hJ4.start S
  have hb5 : Below w1.heap.size w1 W5 := by rw [hW5]; exact hb4.setCell (p := ⟨P, 1, none⟩) hJ4.hP _
  rw [← hW5]
  clear hW5 hJ4 hJ3 hS3 hS4 d1 z1
  have hJ5d := hJ5.below (bel_self W5).drew
  have hb5d : Below w1.heap.size w1 W5.drew := hb5.drew
  have p1 := box_cell (k := 1) hJ5d.box rfl
  have p2 := box_cell (k := 1) (heap_bel hb5d hbF1) rfl
  have hal5 : (f.arcs ++ g.arcs.map (movA f.states)).length ≤ 6000 := by
    rw [List.length_append, List.length_map, HF1.out.1.al, HF1.out.2.1.al]
    have := HF1.out.1.m3
    have := HF1.out.2.1.m3
    omega
  have hlead := jlead_any P w1.heap.size (S + 1) S fv4 av3 _ _ S f.start 0 W5.drew hJ5d (by omega)
  clear hJ5 hb3 hb4
  go_region_held3 (fun wx => wx.cell? ⟨P, 1, none⟩ = some (.int .i64 S) ∧ wx.cell? ⟨w.heap.size, 1, none⟩ = some (.int .i64 f.start)) (first | exact hK | exact ⟨p1, p2⟩) ((go_at_call 70; refine hlead.mono ?_; rintro e w6 ⟨rfl, av6, hJ6, hS6⟩; have hb6 : Below w1.heap.size w1 w6 := hb5d.trans (hS6.below hJ5d); have hK : (fun wx : World => wx.cell? ⟨P, 1, none⟩ = some (.int .i64 S) ∧ wx.cell? ⟨w.heap.size, 1, none⟩ = some (.int .i64 f.start)) w6 := ⟨box_cell (k := 1) hJ6.box rfl, box_cell (k := 1) (heap_bel hb6 hbF1) rfl⟩))
  have p3 := box_cell (k := 1) hJ6.box rfl
  go_wp2_with (first
    | (go_at_call 70
       refine (jlead_any P w1.heap.size (S + 1) S fv4 av6 _ _ S (g.start + f.states) 0 w6 hJ6 (by have := hal5; simp at this ⊢; omega)).mono ?_
       rintro e w7 ⟨rfl, av7, hJ7, hS7⟩
       have hb7 : Below w1.heap.size w1 w7 := hb6.trans (hS7.below hJ6))
    | (go_at_call 71
       refine (jdone_any P w1.heap.size (S + 1) S fv4 av7 _ _ w7 hJ7 (by have := hal5; simp at this ⊢; omega)).mono ?_
       rintro e w8 ⟨fv8, av8, rfl, hI8, hA8, hb8⟩
       obtain ⟨fa8, fn8, fc8, rfl, _, _⟩ := (ownsRow_ints hI8).lenOf
       obtain ⟨a8, n8, c8, rfl, _, _⟩ := hA8.slice.lenOf
       have hb81 := hb7.trans hb8
       have hz8 := heap_bel hb81 hbZ1
       obtain ⟨z0, z1, z2, z3, y0, y1, y2, y3⟩ := zfacts hz8
       have hltZ := heap_lt hbZ1))
  have HSZ1 : w.heap.size ≤ w1.heap.size := by first | exact HF1.out.2.2.size | exact HF1.out.2.size
  obtain ⟨g1, g2⟩ := farS hI8 hA8 hltZ HSZ1 (.int .i64 (S + 1)) (.int .i64 S) (.slice fa8 fn8 fc8) (.slice a8 n8 c8)
  have g3 := bel4 (B := w.heap.size) (P := w.heap.size + 1 + 1) (HF1.out.2.2.trans (hb81.mono HF1.out.2.2.size)) (by omega) (.int .i64 (S + 1)) (.int .i64 S) (.slice fa8 fn8 fc8) (.slice a8 n8 c8)
  have hS := HSQ.out
  subst hS
  exact bodyPost_ret (v := .tuple #[.agg #[.int .i64 (f.states + g.states + 1), .int .i64 (f.states + g.states), .slice fa8 fn8 fc8, .slice a8 n8 c8], .int .i64 0]) (by simp [results, Try.results23, go_sem, z0, z1, z2, z3]) rfl ⟨_, _, _, _, _, _, rfl, g1, g2, g3⟩
end Go.Proofs.Yteehgcbjmdideaa
