/- What is so of the one transducer that determineBegun looks at. -/
import Derived.Test.YteehgcbjmdideaaQM22
import Derived.Test.YteehgcbjmdideaaQM30
namespace Go.Proofs.Yteehgcbjmdideaa
open Go.RowKit

def sameF : FstD := ⟨2, 0, [-1, 1], [⟨0, 1, 1, 1, 5⟩]⟩
def sameG : FstD := ⟨2, 0, [-1, 0], [⟨0, 1, 1, 1, 6⟩]⟩
theorem sameF_chk : checkD sameF = 0 := by decide
theorem sameG_chk : checkD sameG = 0 := by decide
theorem sameF_reads : (decide (checkD sameF = 0) && (bothB sameF && !silB sameF)) = true := by decide
theorem sameF_sil : silB sameF = false := by decide

theorem same_trim {t : FstD} (h : Sc.IsTrim sameF t) : t = sameF := by
  refine h.unique ⟨fun i => decide (i < 2), fun i => ?_, rfl⟩
  rw [decide_eq_true_iff]
  have r0 : Sc.ReachP 2 (Sc.pairsA sameF) (Sc.firstA sameF) 0 := Sc.Reach.first ⟨by decide, by decide⟩
  have r1 : Sc.ReachP 2 (Sc.pairsA sameF) (Sc.firstA sameF) 1 := Sc.Reach.on r0 (by decide)
  have b1 : Sc.ReachP 2 (Sc.pairsB sameF) (Sc.firstB sameF) 1 := Sc.Reach.first ⟨by decide, by decide⟩
  have b0 : Sc.ReachP 2 (Sc.pairsB sameF) (Sc.firstB sameF) 0 := Sc.Reach.on b1 (by decide)
  constructor
  · intro hi
    have : i = 0 ∨ i = 1 := by omega
    rcases this with rfl | rfl
    · exact ⟨r0, b0⟩
    · exact ⟨r1, b1⟩
  · intro hs
    exact hs.1.lt (by decide)

theorem sub0 : (subR sameF 2 0).ms.length = 1 := by decide
theorem sub1 : (subR sameF 2 1).ms.length = 2 := by decide
set_option maxRecDepth 100000 in
theorem sub2 : (subR sameF 2 2).ms.length = 2 ∧ (subR sameF 2 2).fin = [-1, 1] ∧ (subR sameF 2 2).ars = [⟨0, 1, 1, 1, 5⟩] := ⟨by decide, by decide, rfl⟩
theorem same_early : earlyD sameF = sameG := rfl
theorem same_all : gI (toD sameF) 0 = 6 := by decide
theorem same_move : ∀ a ∈ sameF.arcs, 0 ≤ (movA (toD sameF) a).wt ∧ (movA (toD sameF) a).wt ≤ 1000000000 := by decide
def cntS (s : Nat) : Nat := if s = 0 then 2 else 1
theorem same_cnt : CntOk (edgesE sameF.arcs) cntS := by
  intro s
  have e : edgesE sameF.arcs = [(0, 1)] := by decide
  rw [e]
  by_cases h : s = 0
  · subst h; decide
  · simp [sumC, cntS, h, Ne.symm h]
theorem same_round : ¬ RoundD sameF := by
  rintro ⟨v, _, u, h1, u', h2, _⟩
  have e : edgesE sameF.arcs = [(0, 1)] := by decide
  rw [e] at h1 h2
  have e1 := List.mem_singleton.1 h1
  have e2 := List.mem_singleton.1 h2
  injection e1 with e1 _
  injection e2 with _ e2
  omega
theorem same_rk : ∀ e ∈ edgesE sameF.arcs, (fun s : Nat => 1 - s) e.2 < (fun s : Nat => 1 - s) e.1 := by decide
theorem same_okF : OkF sameF 2 0 := ⟨rfl, rfl, by decide, by decide, by decide, rfl, by decide, by decide, by decide⟩
theorem same_subs {w w' : World} {e : Ending} (h : SubsRes sameF 2 200 w e w') : ∃ fa fn fc aa an ac, e = .returned (.tuple #[.agg #[.int .i64 2, .int .i64 0, .slice fa fn fc, .slice aa an ac], .bool true]) ∧ ISlice w' (.slice fa fn fc) sameF.final ∧ ASlice w' (.slice aa an ac) sameF.arcs ∧ Below w.heap.size w w' := by
  obtain ⟨k, hk, h, hb⟩ := h
  have h3 : k < 3 := by
    refine Nat.lt_of_not_le fun h => ?_
    have := (hk 2 (by omega)).1
    rw [sub2.1] at this
    omega
  have : k = 0 ∨ k = 1 ∨ k = 2 := by omega
  rcases this with rfl | rfl | rfl
  · rw [sub0] at h
    rcases h with h | h
    · omega
    · have := h.1; omega
  · rw [sub1] at h
    rcases h with h | h
    · omega
    · have := h.1; omega
  · obtain ⟨s1, s2, s3⟩ := sub2
    rw [s1, s2, s3] at h
    rcases h with h | ⟨_, fa, fn, fc, aa, an, ac, he, hI, hA⟩
    · omega
    · exact ⟨fa, fn, fc, aa, an, ac, he, hI, hA, hb⟩
end Go.Proofs.Yteehgcbjmdideaa

/- 'Determine' of package determine, at one transducer: what it calls. -/
namespace Go.Proofs.Yteehgcbjmdideaa
open Go.RowKit
attribute [local go_sem ↓] Go.wp_at_zero Go.wp_at_succ

theorem same_fine : Fine sameF := fine_iff.1 sameF_chk

section
variable (fin arcs : Value) (W : World) (hf : ISlice W fin sameF.final) (ha : ASlice W arcs sameF.arcs)
include hf ha
theorem reads_same : Calls Try.prog 91 #[.agg #[.int .i64 2, .int .i64 0, fin, arcs]] W fun e w' => e = .returned (.tuple #[.bool true, .int .i64 0]) ∧ Below W.heap.size W w' := by
  refine (reads_any sameF fin arcs W hf ha).mono ?_
  rintro e w' ⟨rfl, hb⟩
  rw [sameF_reads, sameF_chk]
  exact ⟨rfl, hb⟩
theorem round_same : Calls Try.prog 92 #[.agg #[.int .i64 2, .int .i64 0, fin, arcs]] W fun e w' => e = .returned (.bool false) ∧ Below W.heap.size W w' := by
  refine (goesRound_at sameF fin arcs W same_fine hf ha).mono ?_
  rintro e w' ⟨b, rfl, hr, hb⟩
  cases b with
  | false => exact ⟨rfl, hb⟩
  | true => exact absurd (hr.1 rfl) same_round
theorem trim_same : Calls Try.prog 125 #[.agg #[.int .i64 2, .int .i64 0, fin, arcs]] W fun e w' => ∃ fb fo fc ab ao ac, e = .returned (.tuple #[.agg #[.int .i64 2, .int .i64 0, .slice (some ⟨fb, fo, none⟩) 2 fc, .slice (some ⟨ab, ao, none⟩) 1 ac], .int .i64 0]) ∧ IntsAt w' fb fo 2 sameF.final ∧ ArcsAt w' ab ao 1 sameF.arcs ∧ Below W.heap.size W w' := by
  refine (Sc.trim_any sameF fin arcs W hf ha).mono ?_
  rintro e w' ⟨h | h, hb⟩
  · exact absurd sameF_chk h.1
  · obtain ⟨_, t, fv, av, rfl, ht, hI, hA⟩ := h
    obtain rfl := same_trim ht
    obtain ⟨fa, fn, fc, rfl, h1, _⟩ := hI.lenOf
    obtain ⟨aa, an, ac, rfl, h2, _⟩ := hA.lenOf
    obtain rfl : 2 = fn := h1
    obtain rfl : 1 = an := h2
    obtain ⟨fb, fo, rfl, hx⟩ := hI.some (by omega)
    obtain ⟨ab, ao, rfl, hy⟩ := hA.some (by omega)
    exact ⟨fb, fo, fc, ab, ao, ac, rfl, hx, hy, hb⟩
theorem subs_same : Calls Try.prog 126 #[.agg #[.int .i64 2, .int .i64 0, fin, arcs], .int .i64 200, .func (.func 127) #[] #[]] W fun e w' => ∃ fa fc aa ac, e = .returned (.tuple #[.agg #[.int .i64 2, .int .i64 0, .slice fa 2 fc, .slice aa 1 ac], .bool true]) ∧ ISlice w' (.slice fa 2 fc) sameF.final ∧ ASlice w' (.slice aa 1 ac) sameF.arcs ∧ Below W.heap.size W w' := by
  refine (subsets_any sameF 2 0 200 fin arcs W same_fine rfl rfl sameF_sil hf ha (by decide)).mono ?_
  intro e w' h
  obtain ⟨fa, fn, fc, aa, an, ac, rfl, hI, hA, hb⟩ := same_subs h
  obtain ⟨fa', fn', fc', e1, h1, _⟩ := hI.lenOf
  obtain ⟨aa', an', ac', e2, h2, _⟩ := hA.lenOf
  injection e1 with _ e1 _
  injection e2 with _ e2 _
  obtain rfl : 2 = fn := by rw [e1]; exact h1
  obtain rfl : 1 = an := by rw [e2]; exact h2
  exact ⟨fa, fc, aa, ac, rfl, hI, hA, hb⟩
end
theorem check_sameG {fin arcs : Value} {W : World} (hf : ISlice W fin sameG.final) (ha : ASlice W arcs sameG.arcs) : Calls Try.prog 101 #[.agg #[.int .i64 2, .int .i64 0, fin, arcs]] W fun e w' => e = .returned (.int .i64 0) ∧ Below W.heap.size W w' := by
  refine (check_any sameG fin arcs W hf ha).mono ?_
  rintro e w' ⟨rfl, hb⟩
  rw [sameG_chk]
  exact ⟨rfl, hb⟩
theorem begs_same (fa : Option Addr) (fn fc : Nat) (aa : Option Addr) (ac : Nat) (W : World) (ha : ASlice W (.slice aa 1 ac) sameF.arcs) : Calls Try.prog 128 #[.agg #[.int .i64 2, .int .i64 0, .slice fa fn fc, .slice aa 1 ac]] W fun e w' => e = .returned (.int .i64 2) ∧ Below W.heap.size W w' :=
  beginnings_any sameF 2 0 2 fa fn fc aa 1 ac cntS (fun s => 1 - s) W (by decide) (by decide) (fun a h => by
    obtain rfl := List.mem_singleton.1 h
    exact ⟨0, 1, rfl, rfl, by decide, by decide⟩) rfl (by decide) same_cnt same_rk ha
theorem early_same (fin : Value) (aa : Option Addr) (ac : Nat) (W : World) (hf : ISlice W fin sameF.final) (ha : ASlice W (.slice aa 1 ac) sameF.arcs) : Calls Try.prog 129 #[.agg #[.int .i64 2, .int .i64 0, fin, .slice aa 1 ac]] W fun e w' => ∃ g1 c1 ba bc, e = .returned (.agg #[.int .i64 2, .int .i64 0, .slice (some ⟨g1, 0, none⟩) 2 c1, .slice ba 1 bc]) ∧ NumsAt w' g1 2 sameG.final ∧ W.heap.size ≤ g1 ∧ ArcsB W.heap.size w' ba 1 sameG.arcs ∧ Below W.heap.size W w' := by
  have h := early_some sameF 2 0 fin aa 1 ac W same_okF hf ha rfl (by rw [same_all]; decide) same_move
  rw [same_early] at h
  exact h

theorem box_not {w : World} {X b k t : Nat} {x : Int} {a1 a2 : Option Addr} {n1 n2 c1 c2 : Nat} (h : w.heap[X]? = some (.cells #[.int .i64 2, .int .i64 0, .slice a1 n1 c1, .slice a2 n2 c2] t (0, 0))) (hc : w.cell? ⟨b, k, none⟩ = some (.int .i64 x)) (h2 : x ≠ 2) (h0 : x ≠ 0) : b ≠ X := by
  rintro rfl
  have := (Go.Joins.cell_of_block h k).symm.trans hc
  match k, this with
  | 0, e => simp at e; omega
  | 1, e => simp at e; omega
  | 2, e => simp at e
  | 3, e => simp at e
  | k + 4, e => simp at e
end Go.Proofs.Yteehgcbjmdideaa

/- 'Determine' of package determine, at one transducer: the walk. -/
namespace Go.Proofs.Yteehgcbjmdideaa
open Go.RowKit
attribute [local go_sem ↓] Go.wp_at_zero Go.wp_at_succ

def DetOk (w : World) (e : Ending) (w' : World) : Prop := ∃ fa fn fc ba bn bc, e = .returned (.tuple #[.agg #[.int .i64 2, .int .i64 0, .slice fa fn fc, .slice ba bn bc], .int .i64 0]) ∧ ISlice w' (.slice fa fn fc) sameG.final ∧ ASlice w' (.slice ba bn bc) sameG.arcs ∧ Below w.heap.size w w'

theorem far4I {w : World} {X fb fo n : Nat} {xs : List Int} (h : IntsAt w fb fo n xs) (hne : fb ≠ X) (u0 u1 u2 u3 : Value) : IntsAt ((((w.setCell ⟨X, 0, none⟩ u0).setCell ⟨X, 1, none⟩ u1).setCell ⟨X, 2, none⟩ u2).setCell ⟨X, 3, none⟩ u3) fb fo n xs :=
  ⟨h.len, fun i hi => (far4 hne _ _ _ _).trans (h.cell i hi)⟩
theorem far4A {w : World} {X fb fo n : Nat} {xs : List ArcD} (h : ArcsAt w fb fo n xs) (hne : fb ≠ X) (u0 u1 u2 u3 : Value) : ArcsAt ((((w.setCell ⟨X, 0, none⟩ u0).setCell ⟨X, 1, none⟩ u1).setCell ⟨X, 2, none⟩ u2).setCell ⟨X, 3, none⟩ u3) fb fo n xs :=
  ⟨h.len, fun i hi => (far4 hne _ _ _ _).trans (h.c0 i hi), fun i hi => (far4 hne _ _ _ _).trans (h.c1 i hi), fun i hi => (far4 hne _ _ _ _).trans (h.c2 i hi), fun i hi => (far4 hne _ _ _ _).trans (h.c3 i hi), fun i hi => (far4 hne _ _ _ _).trans (h.c4 i hi)⟩

set_option maxHeartbeats 3200000 in
set_option maxRecDepth 100000 in
theorem determine_same (fin arcs : Value) (w : World) (hf : ISlice w fin sameF.final) (ha : ASlice w arcs sameF.arcs) :
    Calls Try.prog 95 #[.agg #[.int .i64 2, .int .i64 0, fin, arcs]] w fun e w' => DetOk w e w' := by
  obtain ⟨fa, fn, fc, rfl, _, _⟩ := hf.lenOf
  obtain ⟨aa, an, ac, rfl, _, _⟩ := ha.lenOf
  obtain ⟨A1, hA1⟩ : ∃ W, W = w.alloc (.cells #[.int .i64 2, .int .i64 0, .slice fa fn fc, .slice aa an ac] 25) := ⟨_, rfl⟩
  have hX1 : A1.heap[w.heap.size]? = some (.cells #[.int .i64 2, .int .i64 0, .slice fa fn fc, .slice aa an ac] 25 (0, 0)) := by rw [hA1]; exact heap_alloc_new w _
  have hB1 : Below w.heap.size w A1 := by rw [hA1]; exact bel_up (bel_self w) _
  have s1 : A1.heap.size = w.heap.size + 1 := by rw [hA1]; exact one_size _ _
  obtain ⟨A2, hA2⟩ : ∃ W, W = A1.alloc (.cells #[.int .i64 0, .int .i64 0, .slice none 0 0, .slice none 0 0] 25) := ⟨_, rfl⟩
  have hz2 : ZBlock A2 (w.heap.size + 1) := by unfold ZBlock; rw [hA2, ← s1]; exact heap_alloc_new A1 _
  have hB12 : Below A1.heap.size A1 A2 := by rw [hA2]; exact bel_up (bel_self _) _
  have hX2 := heap_bel hB12 hX1
  have hB2 := bel_on hB1 hB12
  have q2 : CellsF A2 w.heap.size 2 0 (.slice fa fn fc) (.slice aa an ac) := (by rw [hA1]; exact cellsF_new _ _ _ _ _ _ : CellsF A1 w.heap.size 2 0 (.slice fa fn fc) (.slice aa an ac)).below hB12
  have HW : Hid (A2 = (w.alloc (.cells #[.int .i64 2, .int .i64 0, .slice fa fn fc, .slice aa an ac] 25)).alloc (.cells #[.int .i64 0, .int .i64 0, .slice none 0 0, .slice none 0 0] 25)) := by rw [← hA1]; exact hA2
  have h91 := reads_same _ _ A2 (hf.below hB2) (ha.below hB2)
  rw [HW.out] at h91
  have HIN : Hid (∀ W : World, Below w.heap.size w W → ISlice W (.slice fa fn fc) sameF.final ∧ ASlice W (.slice aa an ac) sameF.arcs) := fun W h => ⟨hf.below h, ha.below h⟩
  have hsz2 : A2.heap.size = w.heap.size + 2 := by rw [hA2, one_size, s1]
  clear hA1 hA2 hX1 hB1 s1 hB12 hf ha
  go_enter Try.func95, Try.ntmps95
  go_wp2_with (first | (go_at_call 91; refine h91.mono ?_; rintro e w1 ⟨rfl, hb1⟩; rw [← HW.out] at hb1; clear h91; obtain ⟨p0, p1, p2, p3⟩ := q2.below hb1; have h92 := round_same _ _ w1 (HIN.out w1 (bel_on hB2 hb1)).1 (HIN.out w1 (bel_on hB2 hb1)).2) | (go_at_call 92; refine h92.mono ?_; rintro e w2 ⟨rfl, hb2⟩; clear h92 p0 p1 p2 p3; have hb02 := bel_on (bel_on hB2 hb1) hb2; have hb22 := bel_on hb1 hb2; obtain ⟨p0, p1, p2, p3⟩ := q2.below hb22; have h125 := trim_same _ _ w2 (HIN.out w2 hb02).1 (HIN.out w2 hb02).2) | (go_at_call 125; refine h125.mono ?_; rintro e w3 ⟨fb3, fo3, fc3, ab3, ao3, ac3, rfl, hI3, hA3, hb3⟩; clear h125 p0 p1 p2 p3; have hb03 := bel_on hb02 hb3; have hb23 := bel_on hb22 hb3; obtain ⟨p0, p1, p2, p3⟩ := q2.below hb23; have hX3 := heap_bel hb23 hX2; have f0 := Go.Joins.unfrozen_of_block hX3 0; have f1 := Go.Joins.unfrozen_of_block hX3 1; have f2 := Go.Joins.unfrozen_of_block hX3 2; have f3 := Go.Joins.unfrozen_of_block hX3 3; have hn1 : fb3 ≠ w.heap.size := box_not hX3 (hI3.cell 0 (by decide)) (by decide) (by decide); have hn2 : ab3 ≠ w.heap.size := box_not hX3 (hA3.c1 0 (by decide)) (by decide) (by decide); have hz3 := zb_set4 (heap_bel hb23 hz2) (Nat.succ_ne_self _) (.int .i64 2) (.int .i64 0) (.slice (some ⟨fb3, fo3, none⟩) 2 fc3) (.slice (some ⟨ab3, ao3, none⟩) 1 ac3); have hb33 := bel_set4 hb03 (Nat.le_refl _) (.int .i64 2) (.int .i64 0) (.slice (some ⟨fb3, fo3, none⟩) 2 fc3) (.slice (some ⟨ab3, ao3, none⟩) 1 ac3); obtain ⟨r0, r1, r2, r3⟩ := set4_cells p0 p1 p2 p3 2 0 (.slice (some ⟨fb3, fo3, none⟩) 2 fc3) (.slice (some ⟨ab3, ao3, none⟩) 1 ac3); have h126 := subs_same _ _ ((((w3.setCell ⟨w.heap.size, 0, none⟩ (.int .i64 2)).setCell ⟨w.heap.size, 1, none⟩ (.int .i64 0)).setCell ⟨w.heap.size, 2, none⟩ (.slice (some ⟨fb3, fo3, none⟩) 2 fc3)).setCell ⟨w.heap.size, 3, none⟩ (.slice (some ⟨ab3, ao3, none⟩) 1 ac3)) (Or.inr ⟨fb3, fo3, 2, fc3, rfl, far4I hI3 hn1 (.int .i64 2) (.int .i64 0) (.slice (some ⟨fb3, fo3, none⟩) 2 fc3) (.slice (some ⟨ab3, ao3, none⟩) 1 ac3), by decide⟩) (Or.inr ⟨ab3, ao3, 1, ac3, rfl, far4A hA3 hn2 (.int .i64 2) (.int .i64 0) (.slice (some ⟨fb3, fo3, none⟩) 2 fc3) (.slice (some ⟨ab3, ao3, none⟩) 1 ac3), by decide⟩); clear hX3 hI3 hA3 hn1 hn2) | (go_at_call 126; refine h126.mono ?_; rintro e w4 ⟨fa4, fc4, aa4, ac4, rfl, hI4, hA4, hb4⟩; clear h126 p0 p1 p2 p3 f0 f1 f2 f3 r0 r1 r2 r3; have hz4 := heap_bel hb4 hz3; have hb04 := bel_on hb33 hb4; have hbA := bel_up (bel_self w4) (.cells #[.int .i64 2, .int .i64 0, .slice fa4 2 fc4, .slice aa4 1 ac4] 25); have hc4 := cellsF_new w4 2 0 (.slice fa4 2 fc4) (.slice aa4 1 ac4) 25; have hG4 := heap_alloc_new w4 (.cells #[.int .i64 2, .int .i64 0, .slice fa4 2 fc4, .slice aa4 1 ac4] 25); have r0 := hc4.1; have r1 := hc4.2.1; have r2 := hc4.2.2.1; have r3 := hc4.2.2.2; have h128 := begs_same fa4 2 fc4 aa4 ac4 (w4.alloc (.cells #[.int .i64 2, .int .i64 0, .slice fa4 2 fc4, .slice aa4 1 ac4] 25)) (hA4.below hbA)) | (go_at_call 128; refine h128.mono ?_; rintro e w5 ⟨rfl, hb5⟩; clear h128 r0 r1 r2 r3; have hb45 := bel_on hbA hb5; have hc5 := hc4.below hb5; obtain ⟨r0, r1, r2, r3⟩ := hc5; have hG5 := heap_bel hb5 hG4; have h129 := early_same _ aa4 ac4 w5 (hI4.below hb45) (hA4.below hb45)) | (go_at_call 129; refine h129.mono ?_; rintro e w6 ⟨g6, c6, ba6, bc6, rfl, hN6, hg6, hA6, hb6⟩; clear h129 r0 r1 r2 r3; have hG6 := heap_bel hb6 hG5; have f0 := Go.Joins.unfrozen_of_block hG6 0; have f1 := Go.Joins.unfrozen_of_block hG6 1; have f2 := Go.Joins.unfrozen_of_block hG6 2; have f3 := Go.Joins.unfrozen_of_block hG6 3; obtain ⟨p0, p1, p2, p3⟩ := (hc4.below hb5).below hb6; obtain ⟨r0, r1, r2, r3⟩ := set4_cells p0 p1 p2 p3 2 0 (.slice (some ⟨g6, 0, none⟩) 2 c6) (.slice ba6 1 bc6); have hlt5 := heap_lt hG5; have hgn : g6 ≠ w4.heap.size := (by omega); have hN6t := (((hN6.other (v := .int .i64 2) (i := 0) hgn).other (v := .int .i64 0) (i := 1) hgn).other (v := .slice (some ⟨g6, 0, none⟩) 2 c6) (i := 2) hgn).other (v := .slice ba6 1 bc6) (i := 3) hgn; have hA6t := (((hA6.set (v := .int .i64 2) (i := 0) hlt5).set (v := .int .i64 0) (i := 1) hlt5).set (v := .slice (some ⟨g6, 0, none⟩) 2 c6) (i := 2) hlt5).set (v := .slice ba6 1 bc6) (i := 3) hlt5; have h101 := check_sameG (hN6t.slice c6 (by decide)) (hA6t.slice bc6); have hb46 := bel_on hb45 hb6; have hb66 := bel_set4 hb46 (Nat.le_refl _) (.int .i64 2) (.int .i64 0) (.slice (some ⟨g6, 0, none⟩) 2 c6) (.slice ba6 1 bc6)) | (go_at_call 101; refine h101.mono ?_; rintro e w7 ⟨rfl, hb7⟩; clear h101 p0 p1 p2 p3 f0 f1 f2 f3; have hc7 := (set4_cells ((hc4.below hb5).below hb6).1 ((hc4.below hb5).below hb6).2.1 ((hc4.below hb5).below hb6).2.2.1 ((hc4.below hb5).below hb6).2.2.2 2 0 (.slice (some ⟨g6, 0, none⟩) 2 c6) (.slice ba6 1 bc6)).below hb7; clear r0 r1 r2 r3; obtain ⟨r0, r1, r2, r3⟩ := hc7; have hb47 := bel_on hb66 hb7; have hz7 := heap_bel hb47 hz4; obtain ⟨z0, z1, z2, z3, y0, y1, y2, y3⟩ := zfacts hz7; obtain ⟨t0, t1, t2, t3⟩ := set4_cells z0 z1 z2 z3 2 0 (.slice (some ⟨g6, 0, none⟩) 2 c6) (.slice ba6 1 bc6)))
  have hzl := heap_lt hz4
  have hszA := hbA.size
  have hsz5 := hb5.size
  rw [one_size] at hsz5
  have hne : g6 ≠ w.heap.size + 1 := by omega
  have hR : w.heap.size + 1 < w5.heap.size := by omega
  have hN7 := hN6t.below hb7
  have hA7 := hA6t.below hb7
  have hN8 := (((hN7.other (v := .int .i64 2) (i := 0) hne).other (v := .int .i64 0) (i := 1) hne).other (v := .slice (some ⟨g6, 0, none⟩) 2 c6) (i := 2) hne).other (v := .slice ba6 1 bc6) (i := 3) hne
  have hA8 := (((hA7.set (v := .int .i64 2) (i := 0) hR).set (v := .int .i64 0) (i := 1) hR).set (v := .slice (some ⟨g6, 0, none⟩) 2 c6) (i := 2) hR).set (v := .slice ba6 1 bc6) (i := 3) hR
  exact bodyPost_ret (v := .tuple #[.agg #[.int .i64 2, .int .i64 0, .slice (some ⟨g6, 0, none⟩) 2 c6, .slice ba6 1 bc6], .int .i64 0]) (by simp [results, Try.results95, go_sem, *]) rfl ⟨_, _, _, _, _, _, rfl, hN8.slice c6 (by decide), hA8.slice bc6, bel_set4 (bel_on hb04 hb47) (by omega) _ _ _ _⟩
end Go.Proofs.Yteehgcbjmdideaa
