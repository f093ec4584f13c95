/- What must be in any case of package simple: the pieces of one transducer, and what they cost. -/
import Derived.Test.YteehgcbjmdideaaQJoiI
import Derived.Test.YteehgcbjmdideaaQMD
import Derived.Test.YteehgcbjmdideaaQMG
namespace Go.Proofs.Yteehgcbjmdideaa
open Go.RowKit

theorem min_of {r l : List ArcD} (ho : r.Pairwise (fun a b => aheadB a b = true)) (hp : ∀ a, a ∈ r ↔ a ∈ l) : leastL l = r := by
  refine (leastL_min l).unique ⟨ho, fun a => ?_⟩
  rw [hp a]
  refine ⟨fun h => ⟨h, fun b hb he => ?_⟩, fun h => h.1⟩
  have ha := (hp a).2 h
  have hb' := (hp b).2 hb
  obtain ⟨i, hi, rfl⟩ := List.getElem_of_mem ha
  obtain ⟨j, hj, rfl⟩ := List.getElem_of_mem hb'
  have key := List.pairwise_iff_getElem.1 ho
  rcases Nat.lt_trichotomy i j with q | q | q
  · exact absurd he (ahead_not (key i j hi hj q)).1
  · subst q; exact Int.le_refl _
  · exact absurd he.symm (ahead_not (key j i hj hi q)).1

def invOne : FstD := ⟨2, 0, [-1, 1], [⟨0, 2, 1, 1, 5⟩]⟩
def outOne : FstD := ⟨2, 0, [-1, 1], [⟨0, 2, 2, 1, 5⟩]⟩
def eithOne : FstD := ⟨5, 4, [-1, 1, -1, 1, -1], [⟨0, 1, 2, 1, 5⟩, ⟨2, 2, 2, 3, 5⟩, ⟨4, 0, 0, 0, 0⟩, ⟨4, 0, 0, 2, 0⟩]⟩
def behOne : FstD := ⟨4, 0, [-1, -1, -1, 1], [⟨0, 1, 2, 1, 5⟩, ⟨1, 0, 0, 2, 1⟩, ⟨2, 2, 1, 3, 5⟩]⟩
def agaOne : FstD := ⟨3, 2, [-1, -1, 0], [⟨0, 1, 2, 1, 5⟩, ⟨1, 0, 0, 2, 1⟩, ⟨2, 0, 0, 0, 0⟩]⟩

theorem inv_one_is : mapD invA oneD = invOne := by
  unfold mapD invOne
  rw [min_of (r := [⟨0, 2, 1, 1, 5⟩]) (l := oneD.arcs.map invA) (by decide) (fun a => Iff.rfl)]
  rfl
theorem out_one_is : mapD outA oneD = outOne := by
  unfold mapD outOne
  rw [min_of (r := [⟨0, 2, 2, 1, 5⟩]) (l := oneD.arcs.map outA) (by decide) (fun a => Iff.rfl)]
  rfl
theorem eith_one_is : eitherD oneD outOne = eithOne := by
  show FstD.mk 5 4 [-1, 1, -1, 1, -1] (leastL [⟨0, 1, 2, 1, 5⟩, ⟨2, 2, 2, 3, 5⟩, ⟨4, 0, 0, 0, 0⟩, ⟨4, 0, 0, 2, 0⟩]) = eithOne
  rw [min_of (r := [⟨0, 1, 2, 1, 5⟩, ⟨2, 2, 2, 3, 5⟩, ⟨4, 0, 0, 0, 0⟩, ⟨4, 0, 0, 2, 0⟩]) (by decide) (fun a => Iff.rfl)]
  rfl
theorem beh_one_is : behindD oneD invOne = behOne := by
  unfold behindD behOne
  rw [min_of (r := [⟨0, 1, 2, 1, 5⟩, ⟨1, 0, 0, 2, 1⟩, ⟨2, 2, 1, 3, 5⟩]) (by decide) (fun a => by
    show a ∈ [_, _, _] ↔ a ∈ [(⟨0, 1, 2, 1, 5⟩ : ArcD), ⟨2, 2, 1, 3, 5⟩, ⟨1, 0, 0, 2, 1⟩]
    simp only [List.mem_cons, List.mem_nil_iff, or_false]
    constructor
    · rintro (h | h | h)
      · exact Or.inl h
      · exact Or.inr (Or.inr h)
      · exact Or.inr (Or.inl h)
    · rintro (h | h | h)
      · exact Or.inl h
      · exact Or.inr (Or.inr h)
      · exact Or.inr (Or.inl h))]
  rfl
theorem aga_one_is : againD oneD = agaOne := by
  unfold againD agaOne
  rw [min_of (r := [⟨0, 1, 2, 1, 5⟩, ⟨1, 0, 0, 2, 1⟩, ⟨2, 0, 0, 0, 0⟩]) (by decide) (fun a => by
    show a ∈ [_, _, _] ↔ a ∈ [(⟨0, 1, 2, 1, 5⟩ : ArcD), ⟨2, 0, 0, 0, 0⟩, ⟨1, 0, 0, 2, 1⟩]
    simp only [List.mem_cons, List.mem_nil_iff, or_false]
    constructor
    · rintro (h | h | h)
      · exact Or.inl h
      · exact Or.inr (Or.inr h)
      · exact Or.inr (Or.inl h)
    · rintro (h | h | h)
      · exact Or.inl h
      · exact Or.inr (Or.inr h)
      · exact Or.inr (Or.inl h))]
  rfl

theorem check_inv : checkD invOne = 0 := by decide
theorem check_out : checkD outOne = 0 := by decide
theorem check_eith : checkD eithOne = 0 := by decide
theorem check_beh : checkD behOne = 0 := by decide
theorem check_aga : checkD agaOne = 0 := by decide

/-- where one can come to, and for how much: a table that no arc leads out of -/
def stepR (ins outs : List Int) (R : List (Nat × Nat × Nat × Int)) (a : ArcD) (r : Nat × Nat × Nat × Int) : Bool :=
  !(decide (a.src = (r.1 : Int)) && fitB ins r.2.1 a.inp && fitB outs r.2.2.1 a.out) || decide ((a.dst.toNat, usedBy r.2.1 a.inp, usedBy r.2.2.1 a.out, r.2.2.2 + a.wt) ∈ R)

theorem path_all {f : FstD} {ins outs : List Int} {s0 : Nat} (R : List (Nat × Nat × Nat × Int)) (h0 : (s0, 0, 0, 0) ∈ R) (hs : (f.arcs.all fun a => R.all (stepR ins outs R a)) = true) {h n i o : Nat} {z : Int} (hp : PathN f ins outs s0 h n i o z) : (n, i, o, z) ∈ R := by
  induction h generalizing n i o z with
  | zero =>
    obtain ⟨rfl, rfl, rfl, rfl⟩ := hp
    exact h0
  | succ h ih =>
    obtain ⟨a, ha, n', i', o', z', hp', h1, h2, f1, f2, rfl, rfl, rfl⟩ := hp
    have hr := ih hp'
    have hst := List.all_eq_true.1 (List.all_eq_true.1 hs a ha) _ hr
    unfold stepR at hst
    rw [Bool.or_eq_true] at hst
    rcases hst with q | q
    · simp [h1, f1, f2] at q
    · have := of_decide_eq_true q
      rw [h2, Int.toNat_natCast] at this
      exact this

/-- a way, arc by arc -/
def runA (ins outs : List Int) : (Nat × Nat × Nat × Int) → List ArcD → Option (Nat × Nat × Nat × Int)
  | r, [] => some r
  | r, a :: l => if a.src = (r.1 : Int) ∧ 0 ≤ a.dst ∧ fitB ins r.2.1 a.inp = true ∧ fitB outs r.2.2.1 a.out = true then runA ins outs (a.dst.toNat, usedBy r.2.1 a.inp, usedBy r.2.2.1 a.out, r.2.2.2 + a.wt) l else none

theorem run_path {f : FstD} {ins outs : List Int} {s0 : Nat} (l : List ArcD) : ∀ (h n i o : Nat) (z : Int) (r : Nat × Nat × Nat × Int), (∀ a ∈ l, a ∈ f.arcs) → PathN f ins outs s0 h n i o z → runA ins outs (n, i, o, z) l = some r → ∃ h', PathN f ins outs s0 h' r.1 r.2.1 r.2.2.1 r.2.2.2 := by
  induction l with
  | nil =>
    intro h n i o z r _ hp hr
    have : (n, i, o, z) = r := by injection hr
    subst this
    exact ⟨h, hp⟩
  | cons a l ih =>
    intro h n i o z r hm hp hr
    unfold runA at hr
    split at hr
    · rename_i hc
      obtain ⟨h1, h2, h3, h4⟩ := hc
      exact ih (h + 1) _ _ _ _ r (fun b hb => hm b (List.mem_cons_of_mem _ hb)) ⟨a, hm a List.mem_cons_self, n, i, o, z, hp, h1, by omega, h3, h4, rfl, rfl, rfl⟩ hr
    · cases hr

theorem best_by {f : FstD} {ins outs : List Int} {s0 : Nat} (x : Int) (hx : 0 ≤ x) (R : List (Nat × Nat × Nat × Int)) (h0 : (s0, 0, 0, 0) ∈ R) (hs : (f.arcs.all fun a => R.all (stepR ins outs R a)) = true)
    (hm : (R.all fun r => !(decide (r.2.1 = ins.length) && decide (r.2.2.1 = outs.length) && decide (0 ≤ gI f.final r.1)) || decide (x ≤ r.2.2.2 + gI f.final r.1)) = true)
    (l : List ArcD) (hl : ∀ a ∈ l, a ∈ f.arcs) (n : Nat) (z : Int) (hr : runA ins outs (s0, 0, 0, 0) l = some (n, ins.length, outs.length, z)) (hn : 0 ≤ gI f.final n) (hz : x = z + gI f.final n) : BestP f ins outs s0 x := by
  refine Or.inr ⟨hx, ?_, fun y hy => ?_⟩
  · obtain ⟨h', hp⟩ := run_path (f := f) (s0 := s0) l 0 s0 0 0 0 _ hl ⟨rfl, rfl, rfl, rfl⟩ hr
    exact ⟨h', n, z, hp, hn, hz⟩
  · obtain ⟨h, n, z, hp, hf, rfl⟩ := hy
    have := List.all_eq_true.1 hm _ (path_all R h0 hs hp)
    simpa [hf] using this

theorem best_eith : BestP eithOne [2] [2] 4 6 :=
  best_by 6 (by decide) [(4, 0, 0, 0), (0, 0, 0, 0), (2, 0, 0, 0), (3, 1, 1, 5)] (by decide) (by decide) (by decide) [⟨4, 0, 0, 2, 0⟩, ⟨2, 2, 2, 3, 5⟩] (by simp [eithOne]) 3 5 (by decide) (by decide) (by decide)
theorem best_beh : BestP behOne [1, 2] [2, 1] 0 12 :=
  best_by 12 (by decide) [(0, 0, 0, 0), (1, 1, 1, 5), (2, 1, 1, 6), (3, 2, 2, 11)] (by decide) (by decide) (by decide) [⟨0, 1, 2, 1, 5⟩, ⟨1, 0, 0, 2, 1⟩, ⟨2, 2, 1, 3, 5⟩] (by simp [behOne]) 3 11 (by decide) (by decide) (by decide)
theorem best_aga : BestP agaOne [1, 1] [2, 2] 2 12 :=
  best_by 12 (by decide) [(2, 0, 0, 0), (0, 0, 0, 0), (1, 1, 1, 5), (2, 1, 1, 6), (0, 1, 1, 6), (1, 2, 2, 11), (2, 2, 2, 12), (0, 2, 2, 12)] (by decide) (by decide) (by decide) [⟨2, 0, 0, 0, 0⟩, ⟨0, 1, 2, 1, 5⟩, ⟨1, 0, 0, 2, 1⟩, ⟨2, 0, 0, 0, 0⟩, ⟨0, 1, 2, 1, 5⟩, ⟨1, 0, 0, 2, 1⟩] (by simp [agaOne]) 2 12 (by decide) (by decide) (by decide)

/-- a transducer that passes Check, as it came in -/
theorem fin_of {w : World} {f : FstD} {fin arcs : Value} (hf : ISlice w fin f.final) (ha : ASlice w arcs f.arcs) (hc : checkD f = 0) : ∃ fb fo N fc aa m ac, fin = .slice (some ⟨fb, fo, none⟩) N fc ∧ arcs = .slice aa m ac ∧ FIn w f fb fo N fc aa m ac ∧ 1 ≤ N ∧ f.arcs.length = m := by
  obtain ⟨N, s0, hok⟩ := okF f hc
  obtain ⟨aa, m, ac, rfl, hal, _⟩ := ha.lenOf
  obtain ⟨fa, fn, fc, rfl, hfl, _⟩ := hf.lenOf
  have hlen := hok.len
  have h1 := hok.n1
  obtain ⟨fb, fo, rfl, hx⟩ := hf.some (by omega)
  have hn2 := hok.n2
  have hmany := hok.many
  have hst := hok.st
  have hsta := hok.sta
  have hs := hok.s
  exact ⟨fb, fo, fn, fc, aa, m, ac, rfl, rfl, ⟨hx, ha, hal, by omega, by omega, by omega, by omega, fun a h => by have := hok.arcs a h; omega, hc⟩, by omega, hal⟩

theorem either_fine (f g : FstD) (fin arcs fin' arcs' : Value) (w : World) (hf : ISlice w fin f.final) (ha : ASlice w arcs f.arcs) (hf' : ISlice w fin' g.final) (ha' : ASlice w arcs' g.arcs) (hc : checkD f = 0) (hc' : checkD g = 0) (h3 : f.states + g.states ≤ 198) (h4 : f.arcs.length + g.arcs.length ≤ 2500) :
    Calls Try.prog 23 #[.agg #[.int .i64 f.states, .int .i64 f.start, fin, arcs], .agg #[.int .i64 g.states, .int .i64 g.start, fin', arcs']] w fun e w' => FstRes w (eitherD f g) 0 e w' := by
  obtain ⟨fb, fo, N, fc, aa, m, ac, rfl, rfl, hF, _, hm⟩ := fin_of hf ha hc
  obtain ⟨gb, go, N', gc, ea, m', ec, rfl, rfl, hG, _, hm'⟩ := fin_of hf' ha' hc'
  exact either_ok f g fb fo N fc aa m ac gb go N' gc ea m' ec w hF hG h3 (by omega)
theorem behind_fine (f g : FstD) (fin arcs fin' arcs' : Value) (w : World) (hf : ISlice w fin f.final) (ha : ASlice w arcs f.arcs) (hf' : ISlice w fin' g.final) (ha' : ASlice w arcs' g.arcs) (hc : checkD f = 0) (hc' : checkD g = 0) (h3 : f.states + g.states ≤ 198) (h4 : f.arcs.length + g.arcs.length ≤ 2500) :
    Calls Try.prog 24 #[.agg #[.int .i64 f.states, .int .i64 f.start, fin, arcs], .agg #[.int .i64 g.states, .int .i64 g.start, fin', arcs']] w fun e w' => FstRes w (behindD f g) 0 e w' := by
  obtain ⟨fb, fo, N, fc, aa, m, ac, rfl, rfl, hF, h1, hm⟩ := fin_of hf ha hc
  obtain ⟨gb, go, N', gc, ea, m', ec, rfl, rfl, hG, _, hm'⟩ := fin_of hf' ha' hc'
  exact behind_ok f g fb fo N fc aa m ac gb go N' gc ea m' ec w hF hG h1 h3 (by omega)
theorem again_fine (f : FstD) (fin arcs : Value) (w : World) (hf : ISlice w fin f.final) (ha : ASlice w arcs f.arcs) (hc : checkD f = 0) (h3 : f.states ≤ 198) (h4 : f.arcs.length ≤ 2500) :
    Calls Try.prog 25 #[.agg #[.int .i64 f.states, .int .i64 f.start, fin, arcs]] w fun e w' => FstRes w (againD f) 0 e w' := by
  obtain ⟨fb, fo, N, fc, aa, m, ac, rfl, rfl, hF, h1, hm⟩ := fin_of hf ha hc
  exact again_ok f fb fo N fc aa m ac w hF h1 h3 (by omega)
end Go.Proofs.Yteehgcbjmdideaa
