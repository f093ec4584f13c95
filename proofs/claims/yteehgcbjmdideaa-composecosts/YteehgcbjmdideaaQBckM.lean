/- The way back from the last spot: by which arc each spot was met. -/
import Derived.Test.YteehgcbjmdideaaQM16
namespace Go.Proofs.Yteehgcbjmdideaa
open Go.RowKit

/-- what falls at every step back -/
def muB (c : List Int) (r : Nat → Nat) (R u : Nat) : Nat := (gI c u).toNat * (R + 1) + r u

/-- a step back along the arc k -/
def BStep (f : FstD) (ins outs : List Int) (N : Nat) (c y : List Int) (k : Int) (n i o n' i' o' : Nat) : Prop :=
  ∃ (j : Nat) (a : ArcD), k = j ∧ arcOf f.arcs.length (gI y (spotN N outs.length n i o)) = j ∧ f.arcs[j]? = some a ∧ a.src = n' ∧ a.dst = n ∧ fitB ins i' a.inp = true ∧ fitB outs o' a.out = true ∧ i = usedBy i' a.inp ∧ o = usedBy o' a.out ∧ n' < N ∧ i' ≤ ins.length ∧ o' ≤ outs.length ∧
    0 ≤ gI c (spotN N outs.length n' i' o') ∧ gI c (spotN N outs.length n' i' o') + a.wt ≤ gI c (spotN N outs.length n i o)

/-- the whole way back, from the spot's own arc on -/
def BWay (f : FstD) (ins outs : List Int) (N s0 : Nat) (c y : List Int) : List Int → Nat → Nat → Nat → Prop
  | [], n, i, o => n = s0 ∧ i = 0 ∧ o = 0 ∧ gI y (spotN N outs.length n i o) = -1 ∧ gI c (spotN N outs.length n i o) = 0
  | k :: l, n, i, o => ∃ n' i' o', BStep f ins outs N c y k n i o n' i' o' ∧ BWay f ins outs N s0 c y l n' i' o'

theorem edS_at {N : Nat} {ins outs : List Int} {arcs : List ArcD} {j : Nat} {e : Edg} (h : (edS N ins outs arcs)[j]? = some e) :
    ∃ i o a, i ≤ ins.length ∧ o ≤ outs.length ∧ arcs[j % arcs.length]? = some a ∧ e = edgeS N ins outs i o a := by
  obtain ⟨hlt, _⟩ := List.getElem?_eq_some_iff.1 h
  have hl : (edS N ins outs arcs).length = (ins.length + 1) * (outs.length + 1) * arcs.length := edK_len N ins outs arcs _
  rw [hl] at hlt
  have hm : 0 < arcs.length := by
    rcases Nat.eq_zero_or_pos arcs.length with e0 | e0
    · rw [e0, Nat.mul_zero] at hlt; omega
    · exact e0
  have hp : j / arcs.length < (ins.length + 1) * (outs.length + 1) := Nat.div_lt_of_lt_mul (by rw [Nat.mul_comm]; exact hlt)
  obtain ⟨h1, h2, h3⟩ := place_of hp
  have hk : j % arcs.length < arcs.length := Nat.mod_lt _ hm
  have hg := edS_get (N := N) (arcs := arcs) (a := arcs[j % arcs.length]) h1 h2 (List.getElem?_eq_getElem hk)
  rw [h3, Nat.mul_comm, Nat.div_add_mod, h] at hg
  injection hg with hg
  exact ⟨_, _, _, h1, h2, List.getElem?_eq_getElem hk, hg⟩

theorem mu_less {c : List Int} {r : Nat → Nat} {R u v : Nat} {wt : Int} (hr : ∀ x, r x ≤ R) (h0 : 0 ≤ gI c u) (hw : 0 ≤ wt) (hle : gI c u + wt ≤ gI c v) (he : gI c u + wt = gI c v → r u < r v) : muB c r R u < muB c r R v := by
  unfold muB
  by_cases e : gI c u = gI c v
  · have := he (by omega)
    rw [e]
    omega
  · have h1 : (gI c u).toNat + 1 ≤ (gI c v).toNat := by omega
    have h2 := Nat.mul_le_mul_right (R + 1) h1
    rw [Nat.add_mul, Nat.one_mul] at h2
    have := hr u
    omega

theorem back_spot {f : FstD} {ins outs : List Int} {N s0 : Nat} {c y : List Int} {r : Nat → Nat} {R : Nat} (hok : OkW f ins outs N s0) (hl : c.length = totS ins outs N) (hr : ∀ x, r x ≤ R) (hby : ByOk (EdS f ins outs N) (bgS s0 (totS ins outs N)) c y r) {n i o : Nat} (hn : n < N) (hi : i ≤ ins.length) (ho : o ≤ outs.length) (hc : 0 ≤ gI c (spotN N outs.length n i o)) :
    (arcOf f.arcs.length (gI y (spotN N outs.length n i o)) = -1 ∧ BWay f ins outs N s0 c y [] n i o) ∨ ∃ (k : Nat) (n' i' o' : Nat), BStep f ins outs N c y k n i o n' i' o' ∧ muB c r R (spotN N outs.length n' i' o') < muB c r R (spotN N outs.length n i o) := by
  have hu : spotN N outs.length n i o < totS ins outs N := spotN_lt hn hi ho
  rcases hby _ (by rw [hl]; exact hu) with ⟨h1, h2⟩ | ⟨j, e, h1, h2, h3, h4, h5, h6, h7⟩
  · refine Or.inl ⟨by rw [h1]; rfl, ?_⟩
    rw [h2, bgS_at] at hc
    by_cases es : spotN N outs.length n i o = s0 ∧ spotN N outs.length n i o < totS ins outs N
    · have e0 : spotN N outs.length s0 0 0 = s0 := by unfold spotN; omega
      obtain ⟨g1, g2, g3⟩ := spotN_inj hn hok.s ho (Nat.zero_le _) (es.1.trans e0.symm)
      refine ⟨g1, g2, g3, h1, ?_⟩
      rw [h2, bgS_at, if_pos es]
    · rw [if_neg es] at hc
      omega
  · right
    obtain ⟨i', o', a, hi', ho', ha, rfl⟩ := edS_at h2
    obtain ⟨⟨p1, p2⟩, ⟨p3, p4⟩, p5, _⟩ := hok.arcs a (List.mem_of_getElem? ha)
    unfold edgeS at h3 h4 h6 h7
    by_cases hf : (fitB ins i' a.inp && fitB outs o' a.out) = true
    · rw [if_pos hf] at h3 h4 h6 h7
      dsimp only at h3 h4 h6 h7
      rw [Bool.and_eq_true] at hf
      obtain ⟨q1, q2, q3⟩ := spotN_inj (by omega) hn (usedBy_le hf.2 ho') ho h3
      refine ⟨j % f.arcs.length, a.src.toNat, i', o', ⟨j % f.arcs.length, a, rfl, ?_, ha, by omega, by omega, hf.1, hf.2, q2.symm, q3.symm, by omega, hi', ho', h4, h6⟩, mu_less hr h4 p5 h6 h7⟩
      rw [h1]
      unfold arcOf
      rw [if_neg (by omega)]
      omega
    · rw [if_neg hf] at h3 h4 h6 h7
      dsimp only at h3 h4 h6 h7
      have := h7 (by rw [← h3]; omega)
      rw [← h3] at this
      omega
end Go.Proofs.Yteehgcbjmdideaa
