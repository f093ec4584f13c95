/- What it costs from the start to each state, and from each state to an end: the document's rounds. -/
import Derived.Test.YteehgcbjmdideaaCostsP
import Derived.Test.YteehgcbjmdideaaPMath
import Derived.Test.YteehgcbjmdideaaPushM
namespace Go.Proofs.Yteehgcbjmdideaa

def edF (f : FstD) : List Edg := f.arcs.map (edgOf ArcD.src ArcD.dst)
def edT (f : FstD) : List Edg := f.arcs.map (edgOf ArcD.dst ArcD.src)
def fromD (f : FstD) : List Int := rounds (edF f) (begL f.start f.states.toNat) f.states.toNat
def toD (f : FstD) : List Int := rounds (edT f).reverse f.final f.states.toNat

theorem fix_rounds {E L : List Edg} {b c y : List Int} (hL : ∀ e, e ∈ L ↔ e ∈ E) (hE : ∀ e ∈ E, e.v < b.length ∧ 0 ≤ e.w) (hb : ∀ v, gI b v = -1 ∨ 0 ≤ gI b v) (hi : Inv E b c y) (hf : Fix E c) : c = rounds L b b.length :=
  least_same (by rw [hi.len, rounds_len]) (fix_least (fun e he => (hE e he).2) hi.ach hi.le hf) (rounds_are L hL hE hb)

/-- a transducer that is right, with its numbers -/
structure OkF (f : FstD) (N s0 : Nat) : Prop where
  st : f.states = N
  sta : f.start = s0
  n1 : 1 ≤ N
  n2 : N ≤ 200
  s : s0 < N
  len : f.final.length = N
  fin : ∀ x ∈ f.final, x = -1 ∨ (0 ≤ x ∧ x ≤ 1000000000)
  many : f.arcs.length ≤ 3000
  arcs : ∀ a ∈ f.arcs, (0 ≤ a.src ∧ a.src < N) ∧ (0 ≤ a.dst ∧ a.dst < N) ∧ (0 ≤ a.wt ∧ a.wt ≤ 1000000000)

theorem okF (f : FstD) (h : checkD f = 0) : ∃ N s0, OkF f N s0 := by
  have k := check_ok f h
  have k0 := k.states
  have k1 := k.start
  have k2 := k.len
  simp [inB] at k0 k1
  refine ⟨f.states.toNat, f.start.toNat, by omega, by omega, by omega, by omega, by omega, by omega, fun x hx => (finB_out (k.fin x hx)).1, k.many, fun a ha => ?_⟩
  have q := k.arcs a ha
  have e0 := q.src
  have e1 := q.dst
  have e4 := q.wt
  simp [inB] at e0 e1 e4
  refine ⟨⟨?_, ?_⟩, ⟨?_, ?_⟩, ?_, ?_⟩ <;> omega

theorem beg_set (N s0 : Nat) : (List.replicate N (-1 : Int)).set s0 0 = begL (s0 : Int) N := by
  apply List.ext_getElem
  · simp [begL]
  · intro i h1 h2
    simp only [List.getElem_set, List.getElem_replicate, begL, List.getElem_map, List.getElem_range]
    by_cases e : s0 = i
    · subst e; simp
    · have : ¬ (i : Int) = s0 := by omega
      simp [e, this]

theorem gI_of (xs : List Int) (p : Int → Prop) (h : ∀ x ∈ xs, p x) (h0 : p (-1)) (v : Nat) : p (gI xs v) := by
  unfold gI
  by_cases hv : v < xs.length
  · simp only [List.getD, List.getElem?_eq_getElem hv, Option.getD_some]
    exact h _ (List.getElem_mem hv)
  · simp only [List.getD, List.getElem?_eq_none (Nat.not_lt.1 hv), Option.getD_none]
    exact h0

theorem begL_mem (s : Int) (N : Nat) : ∀ x ∈ begL s N, x = -1 ∨ x = 0 := by
  intro x hx
  unfold begL at hx
  obtain ⟨i, _, rfl⟩ := List.mem_map.1 hx
  split
  · exact Or.inr rfl
  · exact Or.inl rfl

section
variable {f : FstD} {N s0 : Nat}
theorem OkF.bF (_h : OkF f N s0) : (∀ v, gI (begL (s0 : Int) N) v = -1 ∨ 0 ≤ gI (begL (s0 : Int) N) v) ∧ ∀ v, gI (begL (s0 : Int) N) v ≤ 1000000000 :=
  ⟨gI_of _ (fun x => x = -1 ∨ 0 ≤ x) (fun x hx => by rcases begL_mem _ _ x hx with h | h <;> omega) (Or.inl rfl), gI_of _ (fun x => x ≤ 1000000000) (fun x hx => by rcases begL_mem _ _ x hx with h | h <;> omega) (by decide)⟩
theorem OkF.bT (h : OkF f N s0) : (∀ v, gI f.final v = -1 ∨ 0 ≤ gI f.final v) ∧ ∀ v, gI f.final v ≤ 1000000000 :=
  ⟨gI_of _ (fun x => x = -1 ∨ 0 ≤ x) (fun x hx => by rcases h.fin x hx with h | h <;> omega) (Or.inl rfl), gI_of _ (fun x => x ≤ 1000000000) (fun x hx => by rcases h.fin x hx with h | h <;> omega) (by decide)⟩
theorem OkF.eF (h : OkF f N s0) : ∀ e ∈ edF f, e.v < N ∧ 0 ≤ e.w := by
  intro e he
  obtain ⟨a, ha, rfl⟩ := List.mem_map.1 he
  have := h.arcs a ha
  exact ⟨by show a.dst.toNat < N; omega, this.2.2.1⟩
theorem OkF.eT (h : OkF f N s0) : ∀ e ∈ edT f, e.v < N ∧ 0 ≤ e.w := by
  intro e he
  obtain ⟨a, ha, rfl⟩ := List.mem_map.1 he
  have := h.arcs a ha
  exact ⟨by show a.src.toNat < N; omega, this.2.2.1⟩
theorem OkF.fromD (h : OkF f N s0) {c y : List Int} (hi : Inv (edF f) (begL (s0 : Int) N) c y) (hf : Fix (edF f) c) : c = fromD f := by
  have hb : (begL (s0 : Int) N).length = N := begL_len _ _
  have := fix_rounds (L := edF f) (fun e => Iff.rfl) (by rw [hb]; exact h.eF) h.bF.1 hi hf
  rw [this, hb]
  unfold Proofs.Yteehgcbjmdideaa.fromD
  rw [h.st, h.sta, Int.toNat_natCast]
theorem OkF.toD (h : OkF f N s0) {c y : List Int} (hi : Inv (edT f) f.final c y) (hf : Fix (edT f) c) : c = toD f := by
  have := fix_rounds (L := (edT f).reverse) (fun e => List.mem_reverse) (by rw [h.len]; exact h.eT) h.bT.1 hi hf
  rw [this, h.len]
  unfold Proofs.Yteehgcbjmdideaa.toD
  rw [h.st, Int.toNat_natCast]

theorem round_bounds (L : List Edg) (b : List Int) (hL : ∀ e ∈ L, e.v < b.length ∧ 0 ≤ e.w) (hb : ∀ v, gI b v = -1 ∨ 0 ≤ gI b v) (r : Nat) (v : Nat) : gI (rounds L b r) v = -1 ∨ 0 ≤ gI (rounds L b r) v := by
  have ha0 : Ach L b b := fun v => (hb v).imp id fun h => ⟨0, rfl, h⟩
  have hach : ∀ r, Ach L b (rounds L b r) := by
    intro r
    induction r with
    | zero => exact ha0
    | succ r ih => exact (relAll_round L (rounds L b r) (fun e he => he) (by simpa [rounds_len] using hL) ih).1
  exact (hach r v).imp id fun ⟨k, hk⟩ => hk.nonneg (fun e he => (hL e he).2)
end

end Go.Proofs.Yteehgcbjmdideaa
