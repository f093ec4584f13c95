/- What is joined of pieces costs what the pieces do: ways through what is joined are cut where they leave a piece. -/
import Derived.Test.YteehgcbjmdideaaQM19
namespace Go.Proofs.Yteehgcbjmdideaa

/-- a way through arcs from a state and two places of the words -/
def PathF (A : List ArcD) (ins outs : List Int) (s i0 o0 : Nat) : Nat → Nat → Nat → Nat → Int → Prop
  | 0, n, i, o, z => n = s ∧ i = i0 ∧ o = o0 ∧ z = 0
  | h + 1, n, i, o, z => ∃ a ∈ A, ∃ n' i' o' z', PathF A ins outs s i0 o0 h n' i' o' z' ∧ a.src = (n' : Int) ∧ a.dst = (n : Int) ∧ fitB ins i' a.inp = true ∧ fitB outs o' a.out = true ∧ i = usedBy i' a.inp ∧ o = usedBy o' a.out ∧ z = z' + a.wt

section
variable {A : List ArcD} {ins outs : List Int} {s i0 o0 : Nat}

theorem PathF.ge {h n i o : Nat} {z : Int} (hp : PathF A ins outs s i0 o0 h n i o z) : i0 ≤ i ∧ o0 ≤ o := by
  induction h generalizing n i o z with
  | zero => obtain ⟨_, rfl, rfl, _⟩ := hp; exact ⟨Nat.le_refl _, Nat.le_refl _⟩
  | succ h ih =>
    obtain ⟨a, _, n', i', o', z', hp', _, _, _, _, rfl, rfl, _⟩ := hp
    have := ih hp'
    have := usedBy_ge i' a.inp
    have := usedBy_ge o' a.out
    omega

theorem PathF.le {h n i o : Nat} {z : Int} (hp : PathF A ins outs s i0 o0 h n i o z) (h1 : i0 ≤ ins.length) (h2 : o0 ≤ outs.length) : i ≤ ins.length ∧ o ≤ outs.length := by
  induction h generalizing n i o z with
  | zero => obtain ⟨_, rfl, rfl, _⟩ := hp; exact ⟨h1, h2⟩
  | succ h ih =>
    obtain ⟨a, _, n', i', o', z', hp', _, _, f1, f2, rfl, rfl, _⟩ := hp
    obtain ⟨g1, g2⟩ := ih hp'
    exact ⟨usedBy_le f1 g1, usedBy_le f2 g2⟩

theorem PathF.lt {N : Nat} (hs : s < N) (hA : ∀ a ∈ A, a.dst < N) {h n i o : Nat} {z : Int} (hp : PathF A ins outs s i0 o0 h n i o z) : n < N := by
  cases h with
  | zero => obtain ⟨rfl, _⟩ := hp; exact hs
  | succ h =>
    obtain ⟨a, ha, _, _, _, _, _, _, hd, _⟩ := hp
    have := hA a ha
    omega

end

/-- the least of some costs, or -1 where there is none -/
def Mn (S : Int → Prop) (x : Int) : Prop := (x = -1 ∧ ∀ y, ¬ S y) ∨ (0 ≤ x ∧ S x ∧ ∀ y, S y → x ≤ y)

theorem best_mn {f : FstD} {ins outs : List Int} {s : Nat} {x : Int} : BestP f ins outs s x ↔ Mn (TotP f ins outs s) x := Iff.rfl
theorem Mn.cong {S T : Int → Prop} {x : Int} (h : Mn S x) (he : ∀ y, S y ↔ T y) : Mn T x := by
  rcases h with ⟨h1, h2⟩ | ⟨h1, h2, h3⟩
  · exact Or.inl ⟨h1, fun y hy => h2 y ((he y).2 hy)⟩
  · exact Or.inr ⟨h1, (he x).1 h2, fun y hy => h3 y ((he y).2 hy)⟩
theorem Mn.unique {S : Int → Prop} {x y : Int} (h : Mn S x) (k : Mn S y) : x = y := by
  rcases h with ⟨h1, h2⟩ | ⟨h1, h2, h3⟩
  · rcases k with ⟨k1, _⟩ | ⟨_, k2, _⟩
    · omega
    · exact absurd k2 (h2 _)
  · rcases k with ⟨_, k2⟩ | ⟨_, k2, k3⟩
    · exact absurd h2 (k2 _)
    · have := h3 _ k2
      have := k3 _ h2
      omega
theorem Mn.ge {S : Int → Prop} {x : Int} (h : Mn S x) : -1 ≤ x := by
  rcases h with ⟨h1, _⟩ | ⟨h1, _⟩ <;> omega
theorem Mn.none {S : Int → Prop} (h : ∀ y, ¬ S y) : Mn S (-1) := Or.inl ⟨rfl, h⟩
theorem Mn.less {S T : Int → Prop} {a b : Int} (h : Mn S a) (k : Mn T b) : Mn (fun y => S y ∨ T y) (lessC a b) := by
  unfold lessC
  rcases h with ⟨rfl, h2⟩ | ⟨h1, h2, h3⟩
  · rw [if_pos (by decide)]
    exact k.cong fun y => ⟨Or.inr, fun q => q.resolve_left (h2 y)⟩
  · rw [if_neg (by omega)]
    rcases k with ⟨rfl, k2⟩ | ⟨k1, k2, k3⟩
    · rw [if_pos (by omega)]
      exact Or.inr ⟨h1, Or.inl h2, fun y hy => h3 y (hy.resolve_right (k2 y))⟩
    · split
      · exact Or.inr ⟨h1, Or.inl h2, fun y hy => by
          rcases hy with q | q
          · exact h3 y q
          · have := k3 y q; omega⟩
      · exact Or.inr ⟨k1, Or.inr k2, fun y hy => by
          rcases hy with q | q
          · have := h3 y q; omega
          · exact k3 y q⟩
theorem Mn.plus {S T : Int → Prop} {a b : Int} (h : Mn S a) (k : Mn T b) : Mn (fun y => ∃ u v, S u ∧ T v ∧ y = u + v) (plusC a b) := by
  unfold plusC
  rcases h with ⟨rfl, h2⟩ | ⟨h1, h2, h3⟩
  · rw [if_pos (by omega)]
    exact Mn.none fun y ⟨u, v, hu, _⟩ => h2 u hu
  · rcases k with ⟨rfl, k2⟩ | ⟨k1, k2, k3⟩
    · rw [if_pos (by omega)]
      exact Mn.none fun y ⟨u, v, _, hv, _⟩ => k2 v hv
    · rw [if_neg (by omega)]
      exact Or.inr ⟨by omega, ⟨a, b, h2, k2, rfl⟩, fun y ⟨u, v, hu, hv, e⟩ => by have := h3 u hu; have := k3 v hv; omega⟩

/-- what Check passes, in numbers -/
theorem Fine.nums {f : FstD} (k : Fine f) : ∃ N s0 : Nat, f.states = N ∧ f.start = s0 ∧ s0 < N ∧ f.final.length = N ∧ N ≤ 200 ∧ ∀ a ∈ f.arcs, (0 ≤ a.src ∧ a.src < N) ∧ (0 ≤ a.dst ∧ a.dst < N) ∧ (0 ≤ a.inp ∧ a.inp ≤ 9) ∧ (0 ≤ a.out ∧ a.out ≤ 9) ∧ (0 ≤ a.wt ∧ a.wt ≤ 1000000000) := by
  have h1 := k.s1
  have h2 := k.s2
  have h3 := k.b1
  have h4 := k.b2
  have h5 := k.len
  refine ⟨f.states.toNat, f.start.toNat, by omega, by omega, by omega, by omega, by omega, fun a ha => ?_⟩
  have q := k.arcs a ha
  have q1 := q.src
  have q2 := q.dst
  have q3 := q.inp
  have q4 := q.out
  have q5 := q.wt
  simp [inB] at q1 q2 q3 q4 q5
  omega

end Go.Proofs.Yteehgcbjmdideaa

/- Either, Behind and Again: right, and they cost what their pieces do. -/
namespace Go.Proofs.Yteehgcbjmdideaa

def OneW (l : List ArcD) : Prop := ∀ a ∈ l, ∀ b ∈ l, eqK a b → a.wt = b.wt
theorem OneW.sorted {l : List ArcD} (ho : l.Pairwise (fun a b => aheadB a b = true)) : OneW l := fun a ha b hb he => by rw [sorted_eq ho ha hb he]
theorem OneW.one (a : ArcD) : OneW [a] := by
  intro b hb c hc _
  rw [List.mem_singleton.1 hb, List.mem_singleton.1 hc]

theorem arc_in {N : Nat} {a : ArcD} (h1 : 0 ≤ a.src ∧ a.src < N) (h2 : 0 ≤ a.dst ∧ a.dst < N) (h3 : 0 ≤ a.inp ∧ a.inp ≤ 9) (h4 : 0 ≤ a.out ∧ a.out ≤ 9) (h5 : 0 ≤ a.wt ∧ a.wt ≤ 1000000000) {st : Int} (hst : st = N) : ArcOk st a := by
  subst hst
  exact ⟨by simp [inB]; omega, by simp [inB]; omega, by simp [inB]; omega, by simp [inB]; omega, by simp [inB]; omega⟩

theorem Fine.end_pos {f : FstD} (kf : Fine f) {n : Nat} (h : gI f.final n ≠ -1) : 0 ≤ gI f.final n ∧ gI f.final n ≤ 1000000000 := by
  rcases Nat.lt_or_ge n f.final.length with q | q
  · have e : gI f.final n = f.final[n] := by unfold gI; simp [List.getD, q]
    rw [e] at h ⊢
    exact (kf.fin _ (List.getElem_mem q)).resolve_left h
  · exact absurd (by unfold gI; simp [List.getD, List.getElem?_eq_none q]) h

section
variable {f g : FstD} (kf : Fine f) (kg : Fine g) {N M s0 t0 : Nat} (hN : f.states = N) (hM : g.states = M) (hs : f.start = s0) (ht : g.start = t0) {ins outs : List Int}
include kf hN hs

include kg hM ht

end
end Go.Proofs.Yteehgcbjmdideaa
