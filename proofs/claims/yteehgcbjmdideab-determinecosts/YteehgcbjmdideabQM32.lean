/- 'Determine', and the document's words, told together. -/
import Derived.Test.YteehgcbjmdideabQDeB
import Derived.Test.YteehgcbjmdideabQWoE
import Derived.Test.YteehgcbjmdideabQM29
import Derived.Test.YteehgcbjmdideabQM10
import Derived.Test.YteehgcbjmdideabQM22
import Derived.Test.YteehgcbjmdideabQM28
import Derived.Test.YteehgcbjmdideabQM24
import Derived.Test.YteehgcbjmdideabQM16
import Derived.Test.YteehgcbjmdideabQM03
import Derived.Test.YteehgcbjmdideabQM15
set_option maxRecDepth 100000
namespace Go.Proofs.Yteehgcbjmdideab
open Go.RowKit
theorem din_of {f : FstD} (hc : checkD f = 0) (hb : bothB f = true) (hs : silB f = false) (hr : ¬ RoundD f) : ∃ t N s0, DIn f t N s0 := by
 have hst : ∀ i, (fun i => @decide (Sc.Stays f i) (Classical.propDecidable _)) i = true ↔ Sc.Stays f i := fun i => by simp
 have ht : Sc.IsTrim f (Sc.trimBy f fun i => @decide (Sc.Stays f i) (Classical.propDecidable _)) := ⟨_, hst, rfl⟩
 exact ⟨_, _, _, hc, hb, hs, hr, ht, Sc.trim_in hc ht hb hs hr⟩
theorem det_what {f t : FstD} {N s0 : Nat} (hd : DIn f t N s0) :
  (ManyD t s0 ∧ ∀ (fin arcs : Value) (W : World), ISlice W fin f.final → ASlice W arcs f.arcs → Calls Try.prog 7 #[.agg #[.int .i64 f.states, .int .i64 f.start, fin, arcs]] W fun e w' => NoFst W 2 e w') ∨
  (¬ ManyD t s0 ∧ 1000000000 < allD f ∧ ∀ (fin arcs : Value) (W : World), ISlice W fin f.final → ASlice W arcs f.arcs → Calls Try.prog 7 #[.agg #[.int .i64 f.states, .int .i64 f.start, fin, arcs]] W fun e w' => NoFst W 2 e w') ∨
  (¬ ManyD t s0 ∧ ∃ (K m : Nat) (x : FstD), DetOut f f.start.toNat K x ∧ 1 ≤ K ∧ K ≤ 200 ∧ checkD x = 0 ∧ ∀ (fin arcs : Value) (W : World), ISlice W fin f.final → ASlice W arcs f.arcs → Calls Try.prog 7 #[.agg #[.int .i64 f.states, .int .i64 f.start, fin, arcs]] W fun e w' => HasFst W K m x e w') := by
 rcases done_or t N with ⟨K, hk⟩ | ⟨K, hk⟩
 ·obtain ⟨cnt, rk, h1, h2, h3, h4⟩ := hk.count hd.hT
  obtain ⟨ho, hl1, hl2⟩ := hk.out hd.hT
  obtain ⟨_, hK1, hK⟩ := hk.sub hd.hT.sin
  by_cases hgt : 200 < cnt 0
  ·exact Or.inl ⟨h3.1 hgt, fun fin arcs W hf ha => det_count f t N s0 K _ cnt rk fin arcs W hf ha hd hk rfl h1 h2 hgt⟩
  ·have hm : ¬ ManyD t s0 := fun h => hgt (h3.2 h)
   by_cases hx : checkD (detX t N K) = 0
   ·exact Or.inr (Or.inr ⟨hm, K, _, _, ho, hK1, hK, hx, fun fin arcs W hf ha => det_good f t N s0 K _ cnt rk fin arcs W hf ha hd hk rfl h1 h2 (by omega) hx⟩)
   ·refine Or.inr (Or.inl ⟨hm, ?_, fun fin arcs W hf ha => det_heavy f t N s0 K _ cnt rk fin arcs W hf ha hd hk rfl h1 h2 (by omega) hx⟩)
    by_cases hle : 1000000000 < allD f
    ·exact hle
    ·exact absurd (ho.fine hK1 hK (by omega) (by omega)).check hx
 ·exact Or.inl ⟨hk.many hd.hT.sin, fun fin arcs W hf ha => det_fail f t N s0 K fin arcs W hf ha hd hk⟩
end Go.Proofs.Yteehgcbjmdideab
/- 'AllWeights' of the document. -/
namespace Go.Proofs.Yteehgcbjmdideab
open Go.RowKit
attribute [local go_sem ↓] Go.wp_at_zero Go.wp_at_succ
theorem sumW_snoc (l : List ArcD) (a : ArcD) : sumW (l ++ [a]) = sumW l + a.wt := by
 unfold sumW
 rw [List.map_append, List.sum_append]
 simp
theorem mostF_snoc (l : List Int) (x : Int) : mostF (l ++ [x]) = if x > mostF l then x else mostF l := by
 unfold mostF
 rw [List.foldl_append]
 rfl
theorem sumW_take {l : List ArcD} (h : ∀ a ∈ l, 0 ≤ a.wt ∧ a.wt ≤ 1000000000) (k : Nat) : 0 ≤ sumW (l.take k) ∧ sumW (l.take k) ≤ 1000000000 * (l.length : Int) := by
 have h1 : ∀ l : List ArcD, (∀ a ∈ l, 0 ≤ a.wt ∧ a.wt ≤ 1000000000) → 0 ≤ sumW l ∧ sumW l ≤ 1000000000 * (l.length : Int) := by
  intro l
  induction l with
  | nil => intro _; simp [sumW]
  | cons a l ih =>
   intro h
   have h2 := ih (fun b hb => h b (List.mem_cons_of_mem _ hb))
   have h3 := h a List.mem_cons_self
   rw [sumW_cons, List.length_cons]
   omega
 have h2 := h1 (l.take k) (fun a ha => h a (List.mem_of_mem_take ha))
 have h3 : (l.take k).length ≤ l.length := by rw [List.length_take]; omega
 omega
set_option maxHeartbeats 1600000 in
theorem allWeights_any (f : FstD) (fin arcs : Value) (w : World) (kf : Fine f) (hf : ISlice w fin f.final) (ha : ASlice w arcs f.arcs) :
  Calls Try.prog 15 #[.agg #[.int .i64 f.states, .int .i64 f.start, fin, arcs]] w fun e w' => e = .returned (.int .i64 (allD f)) ∧ Below w.heap.size w w' := by
 obtain ⟨fa, fn, fc, rfl, hfl, _⟩ := hf.lenOf
 obtain ⟨aa, m, ac, rfl, hal, _⟩ := ha.lenOf
 have hm3 : m ≤ 3000 := by have := kf.many; omega
 have hfn : fn ≤ 200 := by have := kf.len; have := kf.s2; omega
 have HWT : Hid (∀ a ∈ f.arcs, 0 ≤ a.wt ∧ a.wt ≤ 1000000000) := fun a ha => by
  have e := (kf.arcs a ha).wt
  simp [inB] at e
  exact e
 have HFI : Hid (∀ x ∈ f.final, x = -1 ∨ (0 ≤ x ∧ x ≤ 1000000000)) := kf.fin
 have HFL : Hid (f.final.length = fn) := hfl
 have HAL : Hid (f.arcs.length = m) := hal
 obtain ⟨A, hA⟩ : ∃ A, A = w.alloc (.cells #[.int .i64 f.states, .int .i64 f.start, .slice fa fn fc, .slice aa m ac] 25) := ⟨_, rfl⟩
 have hb0 : Below w.heap.size w A := by rw [hA]; exact bel_up (bel_self w) _
 have hcf : CellsF A w.heap.size f.states f.start (.slice fa fn fc) (.slice aa m ac) := by rw [hA]; exact cellsF_new _ _ _ _ _ _
 have hfA := hf.below hb0
 have haA := ha.below hb0
 obtain ⟨q0, q1, q2, q3⟩ := hcf
 have HW : Hid (A = w.alloc (.cells #[.int .i64 f.states, .int .i64 f.start, .slice fa fn fc, .slice aa m ac] 25)) := hA
 clear hf ha hfl hal kf hA
 go_enter Try.func15, Try.ntmps15
 go_wp2
 rw [← HW.out]
 clear HW
 go_loopw [3, 5] (fun t3 t5 wx => ∃ k : Nat, k ≤ m ∧ t3 = .int .i64 (sumW (f.arcs.take k)) ∧ t5 = .int .i64 (k : Int) ∧ wx = A) (fun _ t5 _ => m - (intOf t5).toNat)
 case atStart => exact ⟨0, Nat.zero_le _, rfl, rfl, rfl⟩
 case round =>
  obtain ⟨k, hk, rfl, rfl, hwx⟩ := hrel
  subst hwx
  by_cases hlt : k < m
  ·have hki : (k : Int) < m := by omega
   obtain ⟨ab, ao, rfl, hxa⟩ := haA.some (by omega)
   obtain ⟨a, hak⟩ : ∃ d, f.arcs[k]? = some d := ⟨_, List.getElem?_eq_getElem (by have := HAL.out; omega)⟩
   have hgd : f.arcs.getD k a0 = a := by simp [List.getD, hak]
   have c4 := hxa.c4 k hlt
   rw [hgd] at c4
   have HS : Hid (sumW (f.arcs.take (k + 1)) = sumW (f.arcs.take k) + a.wt) := by
    show _ = _
    rw [take_snocA hak, sumW_snoc]
   have h1 := sumW_take HWT.out k
   have h2 := HWT.out a (List.mem_of_getElem? hak)
   have hal := HAL.out
   obtain ⟨x, hx⟩ : ∃ x, x = sumW (f.arcs.take k) := ⟨_, rfl⟩
   rw [← hx] at h1 HS ⊢
   have hwr : IntKind.i64.wrap (x + a.wt) = x + a.wt := wrap_in _ (by omega) (by omega)
   clear hx h1 h2 hal hxa hgd hak
   go_wp2
   go_roundw
   case rel => exact ⟨k + 1, by omega, by rw [HS.out], by go_num, trivial⟩
   case measure => simp [intOf]; omega
  ·have hkm : k = m := by omega
   subst hkm
   have hki : ¬ (k : Int) < k := by omega
   have HTK : Hid (f.arcs.take k = f.arcs) := List.take_of_length_le (by have := HAL.out; omega)
   rw [HTK.out]
   have HS1 : Hid (0 ≤ sumW f.arcs ∧ sumW f.arcs ≤ 3000000000000) := by
    have h1 := sumW_take HWT.out k
    rw [HTK.out] at h1
    have := HAL.out
    exact ⟨h1.1, by omega⟩
   go_wp2
   go_loopw [4, 6] (fun t4 t6 wx => ∃ j : Nat, j ≤ fn ∧ t4 = .int .i64 (mostF (f.final.take j)) ∧ t6 = .int .i64 (j : Int) ∧ wx = wr) (fun _ t6 _ => fn - (intOf t6).toNat)
   case atStart => exact ⟨0, Nat.zero_le _, rfl, rfl, rfl⟩
   case round =>
    obtain ⟨j, hj, rfl, rfl, hwx⟩ := hrel
    subst hwx
    by_cases hlt2 : j < fn
    ·have hji : (j : Int) < fn := by omega
     obtain ⟨fb, fo, rfl, hxf⟩ := hfA.some (by omega)
     obtain ⟨x, hxj⟩ : ∃ x, f.final[j]? = some x := ⟨_, List.getElem?_eq_getElem (by have := HFL.out; omega)⟩
     have cx := hxf.cell j hlt2
     have hgx : f.final.getD j 0 = x := by simp [List.getD, hxj]
     rw [hgx] at cx
     have HS : Hid (mostF (f.final.take (j + 1)) = if x > mostF (f.final.take j) then x else mostF (f.final.take j)) := by
      show _ = _
      rw [take_snocI hxj, mostF_snoc]
     obtain ⟨y, hy⟩ : ∃ y, y = mostF (f.final.take j) := ⟨_, rfl⟩
     rw [← hy] at HS ⊢
     clear hy hgx hxf hxj
     by_cases hgt : y < x
     ·have HS' : Hid (mostF (f.final.take (j + 1)) = x) := by show _ = _; rw [HS.out, if_pos hgt]
      go_wp2
      go_roundw
      case rel => exact ⟨j + 1, by omega, by rw [HS'.out], by go_num, trivial⟩
      case measure => simp [intOf]; omega
     ·have HS' : Hid (mostF (f.final.take (j + 1)) = y) := by show _ = _; rw [HS.out, if_neg hgt]
      go_wp2
      go_roundw
      case rel => exact ⟨j + 1, by omega, by rw [HS'.out], by go_num, trivial⟩
      case measure => simp [intOf]; omega
    ·have hjn : j = fn := by omega
     subst hjn
     have hji : ¬ (j : Int) < j := by omega
     have HTJ : Hid (f.final.take j = f.final) := List.take_of_length_le (by have := HFL.out; omega)
     rw [HTJ.out]
     have h1 := (mostF_ge f.final).1
     have h2 : mostF f.final ≤ 1000000000 := Sc.mostF_le (by decide) fun x hx => by rcases HFI.out x hx with e | e <;> omega
     have h3 := HS1.out
     have hwr : IntKind.i64.wrap (sumW f.arcs + mostF f.final) = sumW f.arcs + mostF f.final := wrap_in _ (by omega) (by omega)
     go_wp2
     go_ret
     exact ⟨rfl, hb0⟩
end Go.Proofs.Yteehgcbjmdideab
/- What is so of the one transducer that determineBegun looks at. -/
namespace Go.Proofs.Yteehgcbjmdideab
open Go.RowKit
def sameF : FstD := ⟨2, 0, [-1, 1], [⟨0, 1, 1, 1, 5⟩]⟩
def sameG : FstD := ⟨2, 0, [-1, 0], [⟨0, 1, 1, 1, 6⟩]⟩
theorem sameF_chk : checkD sameF = 0 := by decide
theorem sameG_chk : checkD sameG = 0 := by decide
theorem sameF_reads : (decide (checkD sameF = 0) && (bothB sameF && !silB sameF)) = true := by decide
theorem sameF_sil : silB sameF = false := by decide
theorem same_trim {t : FstD} (h : Sc.IsTrim sameF t) : t = sameF := by
 refine h.unique ⟨fun i => decide (i < 2), fun i => ?_, rfl⟩
 rw [decide_eq_true_iff]
 have r0 : Sc.ReachP 2 (Sc.pairsA sameF) (Sc.firstA sameF) 0 := Sc.Reach.first ⟨by decide, by decide⟩
 have r1 : Sc.ReachP 2 (Sc.pairsA sameF) (Sc.firstA sameF) 1 := Sc.Reach.on r0 (by decide)
 have b1 : Sc.ReachP 2 (Sc.pairsB sameF) (Sc.firstB sameF) 1 := Sc.Reach.first ⟨by decide, by decide⟩
 have b0 : Sc.ReachP 2 (Sc.pairsB sameF) (Sc.firstB sameF) 0 := Sc.Reach.on b1 (by decide)
 constructor
 ·intro hi
  have : i = 0 ∨ i = 1 := by omega
  rcases this with rfl | rfl
  ·exact ⟨r0, b0⟩
  ·exact ⟨r1, b1⟩
 ·intro hs
  exact hs.1.lt (by decide)
theorem sub0 : (subR sameF 2 0).ms.length = 1 := by decide
theorem sub1 : (subR sameF 2 1).ms.length = 2 := by decide
theorem sub2 : (subR sameF 2 2).ms.length = 2 ∧ (subR sameF 2 2).fin = [-1, 1] ∧ (subR sameF 2 2).ars = [⟨0, 1, 1, 1, 5⟩] := ⟨by decide, by decide, rfl⟩
theorem same_early : earlyD sameF = sameG := rfl
theorem same_all : gI (toD sameF) 0 = 6 := by decide
def cntS (s : Nat) : Nat := if s = 0 then 2 else 1
theorem same_cnt : CntOk (edgesE sameF.arcs) cntS := by
 intro s
 have e : edgesE sameF.arcs = [(0, 1)] := by decide
 rw [e]
 by_cases h : s = 0
 ·subst h; decide
 ·simp [sumC, cntS, h, Ne.symm h]
theorem same_round : ¬ RoundD sameF := by
 rintro ⟨v, _, u, h1, u', h2, _⟩
 have e : edgesE sameF.arcs = [(0, 1)] := by decide
 rw [e] at h1 h2
 have e1 := List.mem_singleton.1 h1
 have e2 := List.mem_singleton.1 h2
 injection e1 with e1 _
 injection e2 with _ e2
 omega
theorem same_rk : ∀ e ∈ edgesE sameF.arcs, (fun s : Nat => 1 - s) e.2 < (fun s : Nat => 1 - s) e.1 := by decide
theorem same_subs {w w' : World} {e : Ending} (h : SubsRes sameF 2 200 w e w') : ∃ fa fn fc aa an ac, e = .returned (.tuple #[.agg #[.int .i64 2, .int .i64 0, .slice fa fn fc, .slice aa an ac], .bool true]) ∧ ISlice w' (.slice fa fn fc) sameF.final ∧ ASlice w' (.slice aa an ac) sameF.arcs ∧ Below w.heap.size w w' := by
 obtain ⟨k, hk, h, hb⟩ := h
 have h3 : k < 3 := by
  refine Nat.lt_of_not_le fun h => ?_
  have := (hk 2 (by omega)).1
  rw [sub2.1] at this
  omega
 have : k = 0 ∨ k = 1 ∨ k = 2 := by omega
 rcases this with rfl | rfl | rfl
 ·rw [sub0] at h
  rcases h with h | h
  ·omega
  ·have := h.1; omega
 ·rw [sub1] at h
  rcases h with h | h
  ·omega
  ·have := h.1; omega
 ·obtain ⟨s1, s2, s3⟩ := sub2
  rw [s1, s2, s3] at h
  rcases h with h | ⟨_, fa, fn, fc, aa, an, ac, he, hI, hA⟩
  ·omega
  ·exact ⟨fa, fn, fc, aa, an, ac, he, hI, hA, hb⟩
end Go.Proofs.Yteehgcbjmdideab
/- 'Determine' of package determine, at one transducer: what it calls. -/
namespace Go.Proofs.Yteehgcbjmdideab
open Go.RowKit
attribute [local go_sem ↓] Go.wp_at_zero Go.wp_at_succ
theorem same_fine : Fine sameF := fine_iff.1 sameF_chk
section
variable (fin arcs : Value) (W : World) (hf : ISlice W fin sameF.final) (ha : ASlice W arcs sameF.arcs)
include hf ha
theorem reads_same : Calls Try.prog 26 #[.agg #[.int .i64 2, .int .i64 0, fin, arcs]] W fun e w' => e = .returned (.tuple #[.bool true, .int .i64 0]) ∧ Below W.heap.size W w' := by
 refine (reads_any sameF fin arcs W hf ha).mono ?_
 rintro e w' ⟨rfl, hb⟩
 rw [sameF_reads, sameF_chk]
 exact ⟨rfl, hb⟩
theorem round_same : Calls Try.prog 27 #[.agg #[.int .i64 2, .int .i64 0, fin, arcs]] W fun e w' => e = .returned (.bool false) ∧ Below W.heap.size W w' := by
 refine (goesRound_at sameF fin arcs W same_fine hf ha).mono ?_
 rintro e w' ⟨b, rfl, hr, hb⟩
 cases b with
 | false => exact ⟨rfl, hb⟩
 | true => exact absurd (hr.1 rfl) same_round
theorem trim_same : Calls Try.prog 28 #[.agg #[.int .i64 2, .int .i64 0, fin, arcs]] W fun e w' => ∃ fb fo fc ab ao ac, e = .returned (.tuple #[.agg #[.int .i64 2, .int .i64 0, .slice (some ⟨fb, fo, none⟩) 2 fc, .slice (some ⟨ab, ao, none⟩) 1 ac], .int .i64 0]) ∧ IntsAt w' fb fo 2 sameF.final ∧ ArcsAt w' ab ao 1 sameF.arcs ∧ Below W.heap.size W w' := by
 refine (Sc.trim_any sameF fin arcs W hf ha).mono ?_
 rintro e w' ⟨h | h, hb⟩
 ·exact absurd sameF_chk h.1
 ·obtain ⟨_, t, fv, av, rfl, ht, hI, hA⟩ := h
  obtain rfl := same_trim ht
  obtain ⟨fa, fn, fc, rfl, h1, _⟩ := hI.lenOf
  obtain ⟨aa, an, ac, rfl, h2, _⟩ := hA.lenOf
  obtain rfl : 2 = fn := h1
  obtain rfl : 1 = an := h2
  obtain ⟨fb, fo, rfl, hx⟩ := hI.some (by omega)
  obtain ⟨ab, ao, rfl, hy⟩ := hA.some (by omega)
  exact ⟨fb, fo, fc, ab, ao, ac, rfl, hx, hy, hb⟩
theorem subs_same : Calls Try.prog 29 #[.agg #[.int .i64 2, .int .i64 0, fin, arcs], .int .i64 200, .func (.func 30) #[] #[]] W fun e w' => ∃ fa fc aa ac, e = .returned (.tuple #[.agg #[.int .i64 2, .int .i64 0, .slice fa 2 fc, .slice aa 1 ac], .bool true]) ∧ ISlice w' (.slice fa 2 fc) sameF.final ∧ ASlice w' (.slice aa 1 ac) sameF.arcs ∧ Below W.heap.size W w' := by
 refine (subsets_any sameF 2 0 200 fin arcs W same_fine rfl rfl sameF_sil hf ha (by decide)).mono ?_
 intro e w' h
 obtain ⟨fa, fn, fc, aa, an, ac, rfl, hI, hA, hb⟩ := same_subs h
 obtain ⟨fa', fn', fc', e1, h1, _⟩ := hI.lenOf
 obtain ⟨aa', an', ac', e2, h2, _⟩ := hA.lenOf
 injection e1 with _ e1 _
 injection e2 with _ e2 _
 obtain rfl : 2 = fn := by rw [e1]; exact h1
 obtain rfl : 1 = an := by rw [e2]; exact h2
 exact ⟨fa, fc, aa, ac, rfl, hI, hA, hb⟩
end
theorem check_sameG {fin arcs : Value} {W : World} (hf : ISlice W fin sameG.final) (ha : ASlice W arcs sameG.arcs) : Calls Try.prog 33 #[.agg #[.int .i64 2, .int .i64 0, fin, arcs]] W fun e w' => e = .returned (.int .i64 0) ∧ Below W.heap.size W w' := by
 refine (check_any sameG fin arcs W hf ha).mono ?_
 rintro e w' ⟨rfl, hb⟩
 rw [sameG_chk]
 exact ⟨rfl, hb⟩
theorem begs_same (fa : Option Addr) (fn fc : Nat) (aa : Option Addr) (ac : Nat) (W : World) (ha : ASlice W (.slice aa 1 ac) sameF.arcs) : Calls Try.prog 31 #[.agg #[.int .i64 2, .int .i64 0, .slice fa fn fc, .slice aa 1 ac]] W fun e w' => e = .returned (.int .i64 2) ∧ Below W.heap.size W w' :=
 beginnings_any sameF 2 0 2 fa fn fc aa 1 ac cntS (fun s => 1 - s) W (by decide) (by decide) (fun a h => by
  obtain rfl := List.mem_singleton.1 h
  exact ⟨0, 1, rfl, rfl, by decide, by decide⟩) rfl (by decide) same_cnt same_rk ha
theorem early_same (fin : Value) (aa : Option Addr) (ac : Nat) (W : World) (hf : ISlice W fin sameF.final) (ha : ASlice W (.slice aa 1 ac) sameF.arcs) : Calls Try.prog 32 #[.agg #[.int .i64 2, .int .i64 0, fin, .slice aa 1 ac]] W fun e w' => ∃ g1 c1 ba bc, e = .returned (.agg #[.int .i64 2, .int .i64 0, .slice (some ⟨g1, 0, none⟩) 2 c1, .slice ba 1 bc]) ∧ NumsAt w' g1 2 sameG.final ∧ W.heap.size ≤ g1 ∧ ArcsB W.heap.size w' ba 1 sameG.arcs ∧ Below W.heap.size W w' := by
 have h := Bg.early_some sameF 2 0 fin aa 1 ac W ⟨rfl, rfl, by decide, by decide, by decide, rfl, by decide, by decide, by decide⟩ hf ha rfl (by rw [same_all]; decide) (by decide) (fun s => gI_of _ (fun x => x ≤ 4000000000000) (by decide) (by decide) s) (fun s => gI_of _ (fun x => x ≤ 4000000000000) (by decide) (by decide) s) (by decide)
 rw [same_early] at h
 exact h
theorem box_not {w : World} {X b k t : Nat} {x : Int} {a1 a2 : Option Addr} {n1 n2 c1 c2 : Nat} (h : w.heap[X]? = some (.cells #[.int .i64 2, .int .i64 0, .slice a1 n1 c1, .slice a2 n2 c2] t (0, 0))) (hc : w.cell? ⟨b, k, none⟩ = some (.int .i64 x)) (h2 : x ≠ 2) (h0 : x ≠ 0) : b ≠ X := by
 rintro rfl
 have := (Go.Joins.cell_of_block h k).symm.trans hc
 match k, this with
 | 0, e => simp at e; omega
 | 1, e => simp at e; omega
 | 2, e => simp at e
 | 3, e => simp at e
 | k + 4, e => simp at e
end Go.Proofs.Yteehgcbjmdideab
/- 'Determine' of package determine, at one transducer: the walk. -/
namespace Go.Proofs.Yteehgcbjmdideab
open Go.RowKit
attribute [local go_sem ↓] Go.wp_at_zero Go.wp_at_succ
def DetOk (w : World) (e : Ending) (w' : World) : Prop := ∃ fa fn fc ba bn bc, e = .returned (.tuple #[.agg #[.int .i64 2, .int .i64 0, .slice fa fn fc, .slice ba bn bc], .int .i64 0]) ∧ ISlice w' (.slice fa fn fc) sameG.final ∧ ASlice w' (.slice ba bn bc) sameG.arcs ∧ Below w.heap.size w w'
theorem far4I {w : World} {X fb fo n : Nat} {xs : List Int} (h : IntsAt w fb fo n xs) (hne : fb ≠ X) (u0 u1 u2 u3 : Value) : IntsAt ((((w.setCell ⟨X, 0, none⟩ u0).setCell ⟨X, 1, none⟩ u1).setCell ⟨X, 2, none⟩ u2).setCell ⟨X, 3, none⟩ u3) fb fo n xs :=
 ⟨h.len, fun i hi => (far4 hne _ _ _ _).trans (h.cell i hi)⟩
theorem far4A {w : World} {X fb fo n : Nat} {xs : List ArcD} (h : ArcsAt w fb fo n xs) (hne : fb ≠ X) (u0 u1 u2 u3 : Value) : ArcsAt ((((w.setCell ⟨X, 0, none⟩ u0).setCell ⟨X, 1, none⟩ u1).setCell ⟨X, 2, none⟩ u2).setCell ⟨X, 3, none⟩ u3) fb fo n xs :=
 ⟨h.len, fun i hi => (far4 hne _ _ _ _).trans (h.c0 i hi), fun i hi => (far4 hne _ _ _ _).trans (h.c1 i hi), fun i hi => (far4 hne _ _ _ _).trans (h.c2 i hi), fun i hi => (far4 hne _ _ _ _).trans (h.c3 i hi), fun i hi => (far4 hne _ _ _ _).trans (h.c4 i hi)⟩
set_option maxHeartbeats 3200000 in
theorem determine_same (fin arcs : Value) (w : World) (hf : ISlice w fin sameF.final) (ha : ASlice w arcs sameF.arcs) :
  Calls Try.prog 7 #[.agg #[.int .i64 2, .int .i64 0, fin, arcs]] w fun e w' => DetOk w e w' := by
 obtain ⟨fa, fn, fc, rfl, _, _⟩ := hf.lenOf
 obtain ⟨aa, an, ac, rfl, _, _⟩ := ha.lenOf
 obtain ⟨A1, hA1⟩ : ∃ W, W = w.alloc (.cells #[.int .i64 2, .int .i64 0, .slice fa fn fc, .slice aa an ac] 25) := ⟨_, rfl⟩
 have hX1 : A1.heap[w.heap.size]? = some (.cells #[.int .i64 2, .int .i64 0, .slice fa fn fc, .slice aa an ac] 25 (0, 0)) := by rw [hA1]; exact heap_alloc_new w _
 have hB1 : Below w.heap.size w A1 := by rw [hA1]; exact bel_up (bel_self w) _
 have s1 : A1.heap.size = w.heap.size + 1 := by rw [hA1]; exact one_size _ _
 obtain ⟨A2, hA2⟩ : ∃ W, W = A1.alloc (.cells #[.int .i64 0, .int .i64 0, .slice none 0 0, .slice none 0 0] 25) := ⟨_, rfl⟩
 have hz2 : ZBlock A2 (w.heap.size + 1) := by unfold ZBlock; rw [hA2, ← s1]; exact heap_alloc_new A1 _
 have hB12 : Below A1.heap.size A1 A2 := by rw [hA2]; exact bel_up (bel_self _) _
 have hX2 := heap_bel hB12 hX1
 have hB2 := bel_on hB1 hB12
 have q2 : CellsF A2 w.heap.size 2 0 (.slice fa fn fc) (.slice aa an ac) := (by rw [hA1]; exact cellsF_new _ _ _ _ _ _ : CellsF A1 w.heap.size 2 0 (.slice fa fn fc) (.slice aa an ac)).below hB12
 have HW : Hid (A2 = (w.alloc (.cells #[.int .i64 2, .int .i64 0, .slice fa fn fc, .slice aa an ac] 25)).alloc (.cells #[.int .i64 0, .int .i64 0, .slice none 0 0, .slice none 0 0] 25)) := by rw [← hA1]; exact hA2
 have h91 := reads_same _ _ A2 (hf.below hB2) (ha.below hB2)
 rw [HW.out] at h91
 have HIN : Hid (∀ W : World, Below w.heap.size w W → ISlice W (.slice fa fn fc) sameF.final ∧ ASlice W (.slice aa an ac) sameF.arcs) := fun W h => ⟨hf.below h, ha.below h⟩
 have hsz2 : A2.heap.size = w.heap.size + 2 := by rw [hA2, one_size, s1]
 clear hA1 hA2 hX1 hB1 s1 hB12 hf ha
 go_enter Try.func7, Try.ntmps7
 go_wp2_with (first | (go_at_call 26; refine h91.mono ?_; rintro e w1 ⟨rfl, hb1⟩; rw [← HW.out] at hb1; clear h91; obtain ⟨p0, p1, p2, p3⟩ := q2.below hb1; have h92 := round_same _ _ w1 (HIN.out w1 (bel_on hB2 hb1)).1 (HIN.out w1 (bel_on hB2 hb1)).2) | (go_at_call 27; refine h92.mono ?_; rintro e w2 ⟨rfl, hb2⟩; clear h92 p0 p1 p2 p3; have hb02 := bel_on (bel_on hB2 hb1) hb2; have hb22 := bel_on hb1 hb2; obtain ⟨p0, p1, p2, p3⟩ := q2.below hb22; have h125 := trim_same _ _ w2 (HIN.out w2 hb02).1 (HIN.out w2 hb02).2) | (go_at_call 28; refine h125.mono ?_; rintro e w3 ⟨fb3, fo3, fc3, ab3, ao3, ac3, rfl, hI3, hA3, hb3⟩; clear h125 p0 p1 p2 p3; have hb03 := bel_on hb02 hb3; have hb23 := bel_on hb22 hb3; obtain ⟨p0, p1, p2, p3⟩ := q2.below hb23; have hX3 := heap_bel hb23 hX2; have f0 := Go.Joins.unfrozen_of_block hX3 0; have f1 := Go.Joins.unfrozen_of_block hX3 1; have f2 := Go.Joins.unfrozen_of_block hX3 2; have f3 := Go.Joins.unfrozen_of_block hX3 3; have hn1 : fb3 ≠ w.heap.size := box_not hX3 (hI3.cell 0 (by decide)) (by decide) (by decide); have hn2 : ab3 ≠ w.heap.size := box_not hX3 (hA3.c1 0 (by decide)) (by decide) (by decide); have hz3 := zb_set4 (heap_bel hb23 hz2) (Nat.succ_ne_self _) (.int .i64 2) (.int .i64 0) (.slice (some ⟨fb3, fo3, none⟩) 2 fc3) (.slice (some ⟨ab3, ao3, none⟩) 1 ac3); have hb33 := bel_set4 hb03 (Nat.le_refl _) (.int .i64 2) (.int .i64 0) (.slice (some ⟨fb3, fo3, none⟩) 2 fc3) (.slice (some ⟨ab3, ao3, none⟩) 1 ac3); obtain ⟨r0, r1, r2, r3⟩ := set4_cells p0 p1 p2 p3 2 0 (.slice (some ⟨fb3, fo3, none⟩) 2 fc3) (.slice (some ⟨ab3, ao3, none⟩) 1 ac3); have h126 := subs_same _ _ ((((w3.setCell ⟨w.heap.size, 0, none⟩ (.int .i64 2)).setCell ⟨w.heap.size, 1, none⟩ (.int .i64 0)).setCell ⟨w.heap.size, 2, none⟩ (.slice (some ⟨fb3, fo3, none⟩) 2 fc3)).setCell ⟨w.heap.size, 3, none⟩ (.slice (some ⟨ab3, ao3, none⟩) 1 ac3)) (Or.inr ⟨fb3, fo3, 2, fc3, rfl, far4I hI3 hn1 (.int .i64 2) (.int .i64 0) (.slice (some ⟨fb3, fo3, none⟩) 2 fc3) (.slice (some ⟨ab3, ao3, none⟩) 1 ac3), by decide⟩) (Or.inr ⟨ab3, ao3, 1, ac3, rfl, far4A hA3 hn2 (.int .i64 2) (.int .i64 0) (.slice (some ⟨fb3, fo3, none⟩) 2 fc3) (.slice (some ⟨ab3, ao3, none⟩) 1 ac3), by decide⟩); clear hX3 hI3 hA3 hn1 hn2) | (go_at_call 29; refine h126.mono ?_; rintro e w4 ⟨fa4, fc4, aa4, ac4, rfl, hI4, hA4, hb4⟩; clear h126 p0 p1 p2 p3 f0 f1 f2 f3 r0 r1 r2 r3; have hz4 := heap_bel hb4 hz3; have hb04 := bel_on hb33 hb4; have hbA := bel_up (bel_self w4) (.cells #[.int .i64 2, .int .i64 0, .slice fa4 2 fc4, .slice aa4 1 ac4] 25); have hc4 := cellsF_new w4 2 0 (.slice fa4 2 fc4) (.slice aa4 1 ac4) 25; have hG4 := heap_alloc_new w4 (.cells #[.int .i64 2, .int .i64 0, .slice fa4 2 fc4, .slice aa4 1 ac4] 25); have r0 := hc4.1; have r1 := hc4.2.1; have r2 := hc4.2.2.1; have r3 := hc4.2.2.2; have h128 := begs_same fa4 2 fc4 aa4 ac4 (w4.alloc (.cells #[.int .i64 2, .int .i64 0, .slice fa4 2 fc4, .slice aa4 1 ac4] 25)) (hA4.below hbA)) | (go_at_call 31; refine h128.mono ?_; rintro e w5 ⟨rfl, hb5⟩; clear h128 r0 r1 r2 r3; have hb45 := bel_on hbA hb5; have hc5 := hc4.below hb5; obtain ⟨r0, r1, r2, r3⟩ := hc5; have hG5 := heap_bel hb5 hG4; have h129 := early_same _ aa4 ac4 w5 (hI4.below hb45) (hA4.below hb45)) | (go_at_call 32; refine h129.mono ?_; rintro e w6 ⟨g6, c6, ba6, bc6, rfl, hN6, hg6, hA6, hb6⟩; clear h129 r0 r1 r2 r3; have hG6 := heap_bel hb6 hG5; have f0 := Go.Joins.unfrozen_of_block hG6 0; have f1 := Go.Joins.unfrozen_of_block hG6 1; have f2 := Go.Joins.unfrozen_of_block hG6 2; have f3 := Go.Joins.unfrozen_of_block hG6 3; obtain ⟨p0, p1, p2, p3⟩ := (hc4.below hb5).below hb6; obtain ⟨r0, r1, r2, r3⟩ := set4_cells p0 p1 p2 p3 2 0 (.slice (some ⟨g6, 0, none⟩) 2 c6) (.slice ba6 1 bc6); have hlt5 := heap_lt hG5; have hgn : g6 ≠ w4.heap.size := (by omega); have hN6t := (((hN6.other (v := .int .i64 2) (i := 0) hgn).other (v := .int .i64 0) (i := 1) hgn).other (v := .slice (some ⟨g6, 0, none⟩) 2 c6) (i := 2) hgn).other (v := .slice ba6 1 bc6) (i := 3) hgn; have hA6t := (((hA6.set (v := .int .i64 2) (i := 0) hlt5).set (v := .int .i64 0) (i := 1) hlt5).set (v := .slice (some ⟨g6, 0, none⟩) 2 c6) (i := 2) hlt5).set (v := .slice ba6 1 bc6) (i := 3) hlt5; have h101 := check_sameG (hN6t.slice c6 (by decide)) (hA6t.slice bc6); have hb46 := bel_on hb45 hb6; have hb66 := bel_set4 hb46 (Nat.le_refl _) (.int .i64 2) (.int .i64 0) (.slice (some ⟨g6, 0, none⟩) 2 c6) (.slice ba6 1 bc6)) | (go_at_call 33; refine h101.mono ?_; rintro e w7 ⟨rfl, hb7⟩; clear h101 p0 p1 p2 p3 f0 f1 f2 f3; have hc7 := (set4_cells ((hc4.below hb5).below hb6).1 ((hc4.below hb5).below hb6).2.1 ((hc4.below hb5).below hb6).2.2.1 ((hc4.below hb5).below hb6).2.2.2 2 0 (.slice (some ⟨g6, 0, none⟩) 2 c6) (.slice ba6 1 bc6)).below hb7; clear r0 r1 r2 r3; obtain ⟨r0, r1, r2, r3⟩ := hc7; have hb47 := bel_on hb66 hb7; have hz7 := heap_bel hb47 hz4; obtain ⟨z0, z1, z2, z3, y0, y1, y2, y3⟩ := zfacts hz7; obtain ⟨t0, t1, t2, t3⟩ := set4_cells z0 z1 z2 z3 2 0 (.slice (some ⟨g6, 0, none⟩) 2 c6) (.slice ba6 1 bc6)))
 have hzl := heap_lt hz4
 have hszA := hbA.size
 have hsz5 := hb5.size
 rw [one_size] at hsz5
 have hne : g6 ≠ w.heap.size + 1 := by omega
 have hR : w.heap.size + 1 < w5.heap.size := by omega
 have hN7 := hN6t.below hb7
 have hA7 := hA6t.below hb7
 have hN8 := (((hN7.other (v := .int .i64 2) (i := 0) hne).other (v := .int .i64 0) (i := 1) hne).other (v := .slice (some ⟨g6, 0, none⟩) 2 c6) (i := 2) hne).other (v := .slice ba6 1 bc6) (i := 3) hne
 have hA8 := (((hA7.set (v := .int .i64 2) (i := 0) hR).set (v := .int .i64 0) (i := 1) hR).set (v := .slice (some ⟨g6, 0, none⟩) 2 c6) (i := 2) hR).set (v := .slice ba6 1 bc6) (i := 3) hR
 exact bodyPost_ret (v := .tuple #[.agg #[.int .i64 2, .int .i64 0, .slice (some ⟨g6, 0, none⟩) 2 c6, .slice ba6 1 bc6], .int .i64 0]) (by simp [results, Try.results7, go_sem, *]) rfl ⟨_, _, _, _, _, _, rfl, hN8.slice c6 (by decide), hA8.slice bc6, bel_set4 (bel_on hb04 hb47) (by omega) _ _ _ _⟩
end Go.Proofs.Yteehgcbjmdideab
/- The law 'DetermineTells', from what determineBegun answers. (Made by wip/gen/dth.py.) -/
namespace Go.Proofs.Yteehgcbjmdideab
open Go.RowKit
attribute [local go_sem ↓] Go.wp_at_zero Go.wp_at_succ
end Go.Proofs.Yteehgcbjmdideab
/- determineBegun: its numbers. -/
namespace Go.Proofs.Yteehgcbjmdideab
open Go.RowKit
attribute [local go_sem ↓] Go.wp_at_zero Go.wp_at_succ
def roundF : FstD := ⟨2, 0, [-1, 1], [⟨0, 1, 1, 0, 2⟩, ⟨0, 1, 1, 1, 5⟩]⟩
theorem roundF_chk : checkD roundF = 0 := by decide
theorem roundF_round : RoundD roundF := ⟨0, by decide, 0, by decide, 0, by decide, trivial⟩
theorem okW_same {ins outs : List Int} (h1 : ins.length ≤ 40) (h2 : outs.length ≤ 40) : OkW sameG ins outs 2 0 where
 n1 := by decide
 n2 := by decide
 s := by decide
 i40 := h1
 o40 := h2
 many := by decide
 arcs := by
  intro a ha
  simp [sameG] at ha
  subst ha
  decide
 sort := (arcsErr_sorted _ _ _ (check_ok sameG sameG_chk).err).1
 len := rfl
 fin := by
  intro x hx
  simp [sameG] at hx
  omega
theorem best_same : IsBest (EdS sameG [1] [1] 2) (bgS 0 (totS [1] [1] 2)) (finS (totS [1] [1] 2) 2 sameG.final) 6 := by
 obtain ⟨h1, h2, _⟩ := relAll_round (E := EdS sameG [1] [1] 2) (b := bgS 0 (totS [1] [1] 2)) (EdS sameG [1] [1] 2) (bgS 0 (totS [1] [1] 2)) (fun _ h => h) (fun e he => by have := (okW_same (ins := [1]) (outs := [1]) (by decide) (by decide)).edges e he; rw [bgS_len]; exact ⟨this.1, this.2.1⟩) (ach_start _ _ (bgS_lo _ _))
 have h3 := doc_best (f := sameG) (ins := [1]) (outs := [1]) (N := 2) (s0 := 0) (by rw [relAll_len, bgS_len]) h1 h2 (fix_list (by decide))
 exact h3
theorem score_same (fin arcs iv ov : Value) (w : World) (hf : ISlice w fin sameG.final) (ha : ASlice w arcs sameG.arcs) (hI : ISlice w iv [1]) (hO : ISlice w ov [1]) :
  Calls Try.prog 17 #[.agg #[.int .i64 2, .int .i64 0, fin, arcs], iv, ov] w fun e w' => e = .returned (.tuple #[.int .i64 6, .int .i64 0]) ∧ Below w.heap.size w w' := by
 refine (score_any sameG [1] [1] _ _ _ _ w hf ha hI hO).mono ?_
 rintro e w' ⟨z, c, rfl, ⟨h3, _, h4⟩, hb⟩
 have hc : c = 0 := by
  rw [h3]
  unfold chkS
  rw [if_pos sameG_chk]
  decide
 subst hc
 obtain ⟨N', s', e1, e2, _, hz⟩ := h4 rfl
 have e1' : N' = 2 := by have : (2 : Int) = N' := e1; omega
 have e2' : s' = 0 := by have : (0 : Int) = s' := e2; omega
 subst e1' e2'
 rw [hz.unique best_same]
 exact ⟨rfl, hb⟩
theorem round_lit (fin arcs : Value) (w : World) (hf : ISlice w fin roundF.final) (ha : ASlice w arcs roundF.arcs) :
  Calls Try.prog 40 #[.agg #[.int .i64 2, .int .i64 0, fin, arcs]] w fun e w' => e = .returned (.tuple #[.bool true, .int .i64 0]) ∧ Below w.heap.size w w' := by
 refine (round_any roundF _ _ w hf ha).mono ?_
 rintro e w' ⟨b, rfl, hr, hb⟩
 rw [hr.2 ⟨roundF_chk, roundF_round⟩, roundF_chk]
 exact ⟨rfl, hb⟩
theorem is_lit (fin arcs : Value) (w : World) (hf : ISlice w fin roundF.final) (ha : ASlice w arcs roundF.arcs) :
  Calls Try.prog 41 #[.agg #[.int .i64 2, .int .i64 0, fin, arcs]] w fun e w' => e = .returned (.tuple #[.bool false, .int .i64 0]) ∧ Below w.heap.size w w' := by
 refine (is_any roundF _ _ w hf ha).mono ?_
 rintro e w' ⟨b, rfl, hr, hb⟩
 rw [roundF_chk]
 cases b with
 | false => exact ⟨rfl, hb⟩
 | true =>
  obtain ⟨_, h⟩ := hr.1 rfl
  exact absurd (h.2.2 0 (by decide)) (by decide)
theorem is_same (fin arcs : Value) (w : World) (hf : ISlice w fin sameG.final) (ha : ASlice w arcs sameG.arcs) :
  Calls Try.prog 41 #[.agg #[.int .i64 2, .int .i64 0, fin, arcs]] w fun e w' => e = .returned (.tuple #[.bool true, .int .i64 0]) ∧ Below w.heap.size w w' := by
 refine (is_any sameG _ _ w hf ha).mono ?_
 rintro e w' ⟨b, rfl, hr, hb⟩
 rw [hr.2 ⟨sameG_chk, ⟨by decide, by decide, fun k hk => absurd hk (by simp [sameG])⟩⟩, sameG_chk]
 exact ⟨rfl, hb⟩
set_option maxHeartbeats 1000000 in
theorem same_any (w : World) : Calls Try.prog 39 #[] w fun e w' => ∃ N M, e = .returned (.agg #[.int .i64 2, .int .i64 0, .slice (some ⟨N, 0, none⟩) 2 2, .slice (some ⟨M, 0, none⟩) 1 1]) ∧ ISlice w' (.slice (some ⟨N, 0, none⟩) 2 2) sameF.final ∧ ASlice w' (.slice (some ⟨M, 0, none⟩) 1 1) sameF.arcs ∧ Below w.heap.size w w' := by
 go_enter Try.func39, Try.ntmps39
 go_wp2_with (go_at_call 42; refine (one_any _).mono ?_; rintro e w1 ⟨rfl, hf1, ha1, hb1⟩; have hz1 : ZBlock w1 w.heap.size := (heap_bel hb1 (heap_alloc_new w _)); have hbu := bel_up (bel_up (bel_self w1) (.cells #[.int .i64 2, .int .i64 0, .slice (some ⟨w.heap.size + 1 + 1, 0, none⟩) 2 2, .slice (some ⟨w1.heap.size + 1, 0, none⟩) 1 1] 25)) (.cells #[.int .i64 0, .int .i64 1, .int .i64 1, .int .i64 1, .int .i64 5] 54); have hz2 := heap_bel hbu hz1; obtain ⟨z0, z1, z2, z3, y0, y1, y2, y3⟩ := zfacts hz2; obtain ⟨r0, r1, r2, r3⟩ := set4_cells z0 z1 z2 z3 2 0 (.slice (some ⟨w.heap.size + 1 + 1, 0, none⟩) 2 2) (.slice (some ⟨w1.heap.size + 1, 0, none⟩) 1 1); rw [one_size] at hf1)
 obtain ⟨S, hS⟩ : ∃ S, S = ((((((w1.alloc (.cells #[.int .i64 2, .int .i64 0, .slice (some ⟨w.heap.size + 1 + 1, 0, none⟩) 2 2, .slice (some ⟨w1.heap.size + 1, 0, none⟩) 1 1] 25)).alloc (.cells #[.int .i64 0, .int .i64 1, .int .i64 1, .int .i64 1, .int .i64 5] 54)).setCell ⟨w.heap.size, 0, none⟩ (.int .i64 2)).setCell ⟨w.heap.size, 1, none⟩ (.int .i64 0)).setCell ⟨w.heap.size, 2, none⟩ (.slice (some ⟨w.heap.size + 1 + 1, 0, none⟩) 2 2)).setCell ⟨w.heap.size, 3, none⟩ (.slice (some ⟨w1.heap.size + 1, 0, none⟩) 1 1)) := ⟨_, rfl⟩
 have r := World.ownsRow_lit (base := 0) (e := 54) (size := 5) (w1.alloc (.cells #[.int .i64 2, .int .i64 0, .slice (some ⟨w.heap.size + 1 + 1, 0, none⟩) 2 2, .slice (some ⟨w1.heap.size + 1, 0, none⟩) 1 1] 25)) #[.int .i64 0, .int .i64 1, .int .i64 1, .int .i64 1, .int .i64 5] 1 (Nat.zero_le _) (by decide) rfl
 rw [one_size] at r
 have hA := ownsRow_arcs (ars := sameF.arcs) r
 obtain ⟨b1, o1, e1, hx⟩ := hf1.some (by omega)
 obtain ⟨b2, o2, e2, hy⟩ := hA.some (by omega)
 injection e1 with e1
 injection e2 with e2
 injection e1 with e1 e3
 injection e2 with e2 e4
 subst e1 e2 e3 e4
 have hzl := heap_lt hz1
 have hx2 := far4I (hx.below hbu) (X := w.heap.size) (by omega) (.int .i64 2) (.int .i64 0) (.slice (some ⟨w.heap.size + 1 + 1, 0, none⟩) 2 2) (.slice (some ⟨w1.heap.size + 1, 0, none⟩) 1 1)
 have hy2 := far4A hy (X := w.heap.size) (by omega) (.int .i64 2) (.int .i64 0) (.slice (some ⟨w.heap.size + 1 + 1, 0, none⟩) 2 2) (.slice (some ⟨w1.heap.size + 1, 0, none⟩) 1 1)
 have hbW := bel_set4 (bel_on (bel_on (bel_up (bel_self w) _) hb1) hbu) (Nat.le_refl _) (.int .i64 2) (.int .i64 0) (.slice (some ⟨w.heap.size + 1 + 1, 0, none⟩) 2 2) (.slice (some ⟨w1.heap.size + 1, 0, none⟩) 1 1)
 rw [← hS] at hx2 hy2 hbW r0 r1 r2 r3
 rw [← hS]
 clear hS
 exact bodyPost_ret (v := .agg #[.int .i64 2, .int .i64 0, .slice (some ⟨w.heap.size + 1 + 1, 0, none⟩) 2 2, .slice (some ⟨w1.heap.size + 1, 0, none⟩) 1 1]) (by simp [results, Try.results39, go_sem, r0, r1, r2, r3]) rfl ⟨_, _, rfl, Or.inr ⟨_, _, _, _, rfl, hx2, by decide⟩, Or.inr ⟨_, _, _, _, rfl, hy2, by decide⟩, hbW⟩
end Go.Proofs.Yteehgcbjmdideab
/- determineBegun: the walk. -/
namespace Go.Proofs.Yteehgcbjmdideab
open Go.RowKit
attribute [local go_sem ↓] Go.wp_at_zero Go.wp_at_succ
set_option maxHeartbeats 3200000 in
theorem determineBegun_any (w : World) : Calls Try.prog 13 #[] w fun e w' => e = .returned (.bool true) ∧ Below w.heap.size w w' := by
 go_enter Try.func13, Try.ntmps13
 go_wp2_with (go_at_call 39; refine (same_any _).mono ?_; rintro e w1 ⟨N1, M1, rfl, hf1, ha1, hb1⟩)
 have hu1 := bel_up (bel_up (bel_self w1) (.cells #[.int .i64 2, .int .i64 0, .slice (some ⟨N1, 0, none⟩) 2 2, .slice (some ⟨w1.heap.size + 1, 0, none⟩) 2 2] 25)) (.cells #[.int .i64 0, .int .i64 1, .int .i64 1, .int .i64 0, .int .i64 2, .int .i64 0, .int .i64 1, .int .i64 1, .int .i64 1, .int .i64 5] 54)
 have r := World.ownsRow_lit (base := 0) (e := 54) (size := 5) (w1.alloc (.cells #[.int .i64 2, .int .i64 0, .slice (some ⟨N1, 0, none⟩) 2 2, .slice (some ⟨w1.heap.size + 1, 0, none⟩) 2 2] 25)) #[.int .i64 0, .int .i64 1, .int .i64 1, .int .i64 0, .int .i64 2, .int .i64 0, .int .i64 1, .int .i64 1, .int .i64 1, .int .i64 5] 2 (Nat.zero_le _) (by decide) rfl
 rw [one_size] at r
 have hA1 := ownsRow_arcs (ars := roundF.arcs) r
 have hF1 : ISlice _ _ roundF.final := hf1.below hu1
 have hq := (cellsF_new w1 2 0 (.slice (some ⟨N1, 0, none⟩) 2 2) (.slice (some ⟨w1.heap.size + 1, 0, none⟩) 2 2) 25).below (bel_up (bel_self _) (.cells #[.int .i64 0, .int .i64 1, .int .i64 1, .int .i64 0, .int .i64 2, .int .i64 0, .int .i64 1, .int .i64 1, .int .i64 1, .int .i64 5] 54))
 clear r
 refine (round_lit _ _ _ hF1 hA1).mono ?_
 rintro e w2 ⟨rfl, hb2⟩
 obtain ⟨q0, q1, q2, q3⟩ := hq.below hb2
 have h3 := is_lit _ _ w2 (hF1.below hb2) (hA1.below hb2)
 go_wp2_with (go_at_call 41; refine h3.mono ?_; rintro e w3 ⟨rfl, hb3⟩)
 have hc3 := bel_on (bel_on (bel_on hb1 hu1) hb2) hb3
 clear hf1 ha1 hb1 hu1 hA1 hF1 hq hb2 hb3 q0 q1 q2 q3 h3
 refine (same_any _).mono ?_
 rintro e w4 ⟨N4, M4, rfl, hf4, ha4, hb4⟩
 have hc4 := bel_on hc3 hb4
 have hd := determine_same _ _ w4 hf4 ha4
 go_wp2_with (go_at_call 7; refine hd.mono ?_; rintro e w5 ⟨fa, fn, fc, ba, bn, bc, rfl, hf5, ha5, hb5⟩)
 have hc5 := bel_on hc4 hb5
 clear hd hf4 ha4 hb4 hb5 hc3 hc4
 have hu5 := bel_up (bel_up (bel_up (bel_self w5) (.cells #[.int .i64 2, .int .i64 0, .slice fa fn fc, .slice ba bn bc] 25)) (.cells #[.int .i64 1] 3)) (.cells #[.int .i64 1] 3)
 have hi5 := (lit_one (w5.alloc (.cells #[.int .i64 2, .int .i64 0, .slice fa fn fc, .slice ba bn bc] 25)) 1 _ (one_size _ _)).below (bel_up (bel_self _) (.cells #[.int .i64 1] 3))
 have ho5 := lit_one ((w5.alloc (.cells #[.int .i64 2, .int .i64 0, .slice fa fn fc, .slice ba bn bc] 25)).alloc (.cells #[.int .i64 1] 3)) 1 _ ((one_size _ _).trans (congrArg (· + 1) (one_size _ _)))
 have hq := (cellsF_new w5 2 0 (.slice fa fn fc) (.slice ba bn bc) 25).below (bel_up (bel_up (bel_self _) (.cells #[.int .i64 1] 3)) (.cells #[.int .i64 1] 3))
 refine (score_same _ _ _ _ _ (hf5.below hu5) (ha5.below hu5) hi5 ho5).mono ?_
 rintro e w6 ⟨rfl, hb6⟩
 obtain ⟨q0, q1, q2, q3⟩ := hq.below hb6
 have hb56 := bel_on hu5 hb6
 have h7 := is_same _ _ w6 (hf5.below hb56) (ha5.below hb56)
 have hc6 := bel_on hc5 hb56
 clear hf5 ha5 hu5 hi5 ho5 hq hb6 hb56 hc5
 go_wp2_with (go_at_call 41; refine h7.mono ?_; rintro e w7 ⟨rfl, hb7⟩)
 go_ret
 exact ⟨rfl, bel_on hc6 hb7⟩
end Go.Proofs.Yteehgcbjmdideab
