/- Again: right, and it costs what its pieces do; any number of them. -/
import Derived.Test.YteehgcbjmdideaaQM20
import Derived.Test.YteehgcbjmdideaaQM15
import Derived.Test.YteehgcbjmdideaaQM18
namespace Go.Proofs.Yteehgcbjmdideaa

/-- so many pieces one behind the other -/
def AgN (f : FstD) (ins outs : List Int) (s : Nat) : Nat → Nat → Nat → Int → Prop
  | 0, i, o, z => i = 0 ∧ o = 0 ∧ z = 0
  | k + 1, i, o, z => ∃ i' o' y u, AgN f ins outs s k i' o' y ∧ PieceP f ins outs s i' o' i o u ∧ z = y + u
def AgP (f : FstD) (ins outs : List Int) (s i o : Nat) (z : Int) : Prop := ∃ k, AgN f ins outs s k i o z

section
variable {f : FstD} (kf : Fine f) {N s0 : Nat} (hN : f.states = N) (hs : f.start = s0) {ins outs : List Int}
include kf hN hs

theorem again_arcs (a : ArcD) : a ∈ (againD f).arcs ↔ a ∈ f.arcs ∨ a = ⟨(N : Int), 0, 0, s0, 0⟩ ∨ ∃ n : Nat, n < N ∧ gI f.final n ≠ -1 ∧ a = ⟨(n : Int), 0, 0, (N : Int), gI f.final n⟩ := by
  obtain ⟨hs1, hl1, _, hA⟩ := nums_of kf hN hs
  have h1 : OneW (f.arcs ++ [⟨f.states, 0, 0, f.start, 0⟩]) := (OneW.sorted kf.ord).app (OneW.one _) (fun a ha b hb he => by
    rw [List.mem_singleton.1 hb] at he
    have e : a.src = f.states := he.1
    have := hA a ha
    omega)
  have h2 : OneW (goA (f.arcs ++ [⟨f.states, 0, 0, f.start, 0⟩]) f.states (endsU f.final f.final.length)) := by
    refine h1.app ?_ (fun a ha b hb he => ?_)
    · intro a ha b hb he
      obtain ⟨x, hx, rfl⟩ := List.mem_map.1 ha
      obtain ⟨y, hy, rfl⟩ := List.mem_map.1 hb
      have e : (x.1 : Int) = y.1 := he.1
      have e' : x.1 = y.1 := by omega
      show x.2 = y.2
      rw [(mem_ends.1 hx).2.1, (mem_ends.1 hy).2.1, e']
    · obtain ⟨y, hy, rfl⟩ := List.mem_map.1 hb
      have e1 : a.src = (y.1 : Int) := he.1
      have e4 : a.dst = f.states := he.2.2.2
      have := (mem_ends.1 hy).1
      rcases List.mem_append.1 ha with q | q
      · have := hA a q; omega
      · rw [List.mem_singleton.1 q] at e1
        have e1' : f.states = (y.1 : Int) := e1
        omega
  show a ∈ leastL _ ↔ _
  rw [least_all h2, mem_goA, List.mem_append, List.mem_singleton, hN, hs, hl1]
  constructor
  · rintro ((h | h) | ⟨x, hx, rfl⟩)
    · exact Or.inl h
    · exact Or.inr (Or.inl h)
    · obtain ⟨h1, h2, h3⟩ := mem_ends.1 hx
      rw [getD_gI (by omega)] at h2
      rw [h2] at h3 ⊢
      exact Or.inr (Or.inr ⟨x.1, h1, h3, rfl⟩)
  · rintro (h | h | ⟨n, hn, h3, rfl⟩)
    · exact Or.inl (Or.inl h)
    · exact Or.inl (Or.inr h)
    · exact Or.inr ⟨(n, gI f.final n), mem_ends.2 ⟨hn, (getD_gI (by omega)).symm, h3⟩, rfl⟩

theorem again_path {h : Nat} : ∀ {n i o : Nat} {z : Int}, PathF (againD f).arcs ins outs N 0 0 h n i o z →
    (n = N ∧ AgP f ins outs s0 i o z) ∨ (n < N ∧ ∃ h' i1 o1 u v, AgP f ins outs s0 i1 o1 u ∧ PathF f.arcs ins outs s0 i1 o1 h' n i o v ∧ z = u + v) := by
  obtain ⟨hs1, _, _, hA⟩ := nums_of kf hN hs
  induction h with
  | zero => rintro n i o z ⟨rfl, rfl, rfl, rfl⟩; exact Or.inl ⟨rfl, 0, rfl, rfl, rfl⟩
  | succ h ih =>
    rintro n i o z ⟨a, ha, n', i', o', z', hp, e1, e2, f1, f2, rfl, rfl, rfl⟩
    rcases (again_arcs kf hN hs a).1 ha with q | rfl | ⟨k, hk, hk1, rfl⟩
    · have := hA a q
      rcases ih hp with ⟨rfl, _⟩ | ⟨h1, h', i1, o1, u, v, h2, h3, rfl⟩
      · omega
      · exact Or.inr ⟨by omega, h' + 1, i1, o1, u, v + a.wt, h2, ⟨a, q, n', i', o', v, h3, e1, e2, f1, f2, rfl, rfl, rfl⟩, by omega⟩
    · have e1' : (N : Int) = n' := e1
      have e2' : (s0 : Int) = n := e2
      rcases ih hp with ⟨rfl, h2⟩ | ⟨h1, h', i1, o1, u, v, h2, h3, rfl⟩
      · exact Or.inr ⟨by omega, 0, _, _, z', 0, h2, ⟨by omega, rfl, rfl, rfl⟩, rfl⟩
      · omega
    · have e1' : (k : Int) = n' := e1
      have e2' : (N : Int) = n := e2
      have e1'' : k = n' := by omega
      subst e1''
      rcases ih hp with ⟨rfl, h2⟩ | ⟨h1, h', i1, o1, u, v, ⟨m, h2⟩, h3, rfl⟩
      · omega
      · exact Or.inl ⟨by omega, m + 1, i1, o1, u, v + gI f.final k, h2, ⟨h', k, v, h3, (kf.end_pos hk1).1, rfl⟩, by show u + v + gI f.final k = _; omega⟩

theorem path_again {k : Nat} : ∀ {i o : Nat} {z : Int}, AgN f ins outs s0 k i o z → ∃ h, PathF (againD f).arcs ins outs N 0 0 h N i o z := by
  obtain ⟨hs1, _, _, hA⟩ := nums_of kf hN hs
  have hE := again_arcs kf hN hs
  induction k with
  | zero => rintro i o z ⟨rfl, rfl, rfl⟩; exact ⟨0, rfl, rfl, rfl, rfl⟩
  | succ k ih =>
    rintro i o z ⟨i', o', y, u, h1, ⟨h', n, v, hp, hf, rfl⟩, rfl⟩
    obtain ⟨h, p0⟩ := ih h1
    have hn := hp.lt (N := N) hs1 (fun a ha => (hA a ha).2.1.2)
    have p1 := path_more (m := s0) p0 ((hE _).2 (Or.inr (Or.inl rfl)))
    have p2 := path_copy (d := 0) (fun a ha => by rw [movA_zero]; exact (hE _).2 (Or.inl ha)) p1 hp
    have p3 := path_more (m := N) p2 ((hE _).2 (Or.inr (Or.inr ⟨n, hn, by omega, rfl⟩)))
    have e : y + 0 + v + gI f.final n = y + (v + gI f.final n) := by omega
    rw [e] at p3
    exact ⟨_, p3⟩

theorem again_tot (y : Int) : TotP (againD f) ins outs N y ↔ AgP f ins outs s0 ins.length outs.length y := by
  obtain ⟨hs1, hl1, _, hA⟩ := nums_of kf hN hs
  rw [tot_piece]
  have g1 : ∀ n, n < N → gI (againD f).final n = -1 := fun n hn => ends_gone (by omega)
  have g2 : gI (againD f).final N = 0 := by
    have : gI (againD f).final (0 + f.final.length) = gI [0] 0 := ends_kept
    rw [hl1, Nat.zero_add] at this
    rw [this]
    rfl
  constructor
  · rintro ⟨h, n, z, hp, hf, rfl⟩
    rcases again_path kf hN hs hp with ⟨rfl, h2⟩ | ⟨h1, _⟩
    · rw [g2, Int.add_zero]
      exact h2
    · rw [g1 n h1] at hf; omega
  · rintro ⟨k, hk⟩
    obtain ⟨h, p⟩ := path_again kf hN hs hk
    exact ⟨h, N, y, p, by rw [g2]; exact Int.le_refl _, by rw [g2]; omega⟩

theorem again_right (h3 : f.states ≤ 198) (h4 : f.arcs.length ≤ 2500) : checkD (againD f) = 0 := by
  obtain ⟨hs1, hl1, _, hA⟩ := nums_of kf hN hs
  refine Fine.check ⟨?_, ?_, ?_, ?_, ?_, ?_, ?_, ?_, (leastL_min _).ord⟩
  · show 1 ≤ f.states + 1; omega
  · show f.states + 1 ≤ 200; omega
  · show 0 ≤ f.states; omega
  · show f.states < f.states + 1; omega
  · show ((goX (f.final ++ [0]) _).length : Int) = f.states + 1
    rw [goX_len, List.length_append, hl1]
    simp
    omega
  · intro x hx
    rcases goX_mem _ hx with q | q
    · exact Or.inl q
    · rcases List.mem_append.1 q with q | q
      · exact kf.fin x q
      · rw [List.mem_singleton.1 q]
        exact Or.inr ⟨Int.le_refl 0, by decide⟩
  · refine Nat.le_trans (least_len _) ?_
    rw [goA_len, List.length_append]
    have := endsU_len f.final f.final.length
    simp
    omega
  · intro a ha
    have hst : (againD f).states = ((N + 1 : Nat) : Int) := by show f.states + 1 = _; omega
    rcases (again_arcs kf hN hs a).1 ha with q | rfl | ⟨k, hk, hk1, rfl⟩
    · have := hA a q
      exact arc_in (N := N + 1) (by omega) (by omega) (by omega) (by omega) (by omega) hst
    · exact arc_new (by omega) (by omega) (by omega) (by omega) hst
    · have := kf.end_pos hk1
      exact arc_new (by omega) (by omega) this.1 this.2 hst
end

/-- what the document's tables say of a place, ended -/
theorem piece_end {f : FstD} {ins outs : List Int} {N s0 : Nat} {c : List Int} (hok : OkW f ins outs N s0) (ha : Ach (EdS f ins outs N) (bgS s0 (totS ins outs N)) c) (hb : LeC c (bgS s0 (totS ins outs N))) (hf : Fix (EdS f ins outs N) c) {i o : Nat} (ho : o ≤ outs.length) :
    Mn (PieceP f ins outs s0 0 0 i o) (endD (segL c N (i * (outs.length + 1) + o)) f.final N) := by
  have hseg : ∀ n, n < N → gI (segL c N (i * (outs.length + 1) + o)) n = gI c (spotN N outs.length n i o) := fun n hn => segL_at _ _ _ _ hn
  have to : ∀ n, n < N → 0 ≤ gI c (spotN N outs.length n i o) → ∃ h, PathF f.arcs ins outs s0 0 0 h n i o (gI c (spotN N outs.length n i o)) := fun n hn h0 => by
    rcases ha (spotN N outs.length n i o) with e | ⟨h, hw⟩
    · omega
    · obtain ⟨h', n', i', o', hn', hi', ho', e, hp⟩ := way_path hok hw
      obtain ⟨e1, e2, e3⟩ := spotN_inj hn hn' ho ho' e
      subst e1 e2 e3
      exact ⟨h', (path_eq ..).1 hp⟩
  have back : ∀ h n z, PathF f.arcs ins outs s0 0 0 h n i o z → n < N ∧ 0 ≤ gI c (spotN N outs.length n i o) ∧ gI c (spotN N outs.length n i o) ≤ z := fun h n z hp =>
    ⟨hp.lt hok.s (fun a ha => (hok.arcs a ha).2.1.2), fix_le hb hf (path_way hok ((path_eq ..).2 hp))⟩
  rcases endD_is (segL c N (i * (outs.length + 1) + o)) f.final N with ⟨h1, h2⟩ | ⟨h1, ⟨n, g1, g2, g3, g4⟩, h3⟩
  · refine Or.inl ⟨h1, ?_⟩
    rintro y ⟨h, n, z, hp, hfin, _⟩
    obtain ⟨q1, q2, _⟩ := back h n z hp
    exact h2 n q1 ⟨by rw [hseg n q1]; exact q2, hfin⟩
  · rw [hseg n g1] at g2 g4
    obtain ⟨h, hp⟩ := to n g1 g2
    refine Or.inr ⟨h1, ⟨h, n, _, hp, g3, g4⟩, ?_⟩
    rintro y ⟨h', m, z, hp', hfin, rfl⟩
    obtain ⟨q1, q2, q3⟩ := back h' m z hp'
    have := h3 m q1 (by rw [hseg m q1]; exact q2) hfin
    rw [hseg m q1] at this
    omega

/-- how the document's table of Again goes on: what is told of a place is what some pieces cost; places that are done have told all that goes on from them -/
structure AgI (f : FstD) (ins outs : List Int) (s : Nat) (b : Nat → Nat → Int) (D : Nat → Nat → Prop) : Prop where
  at0 : b 0 0 = 0
  ge : ∀ i o, -1 ≤ b i o
  ach : ∀ i o, 0 ≤ b i o → AgP f ins outs s i o (b i o)
  fix : ∀ i o, D i o → 0 ≤ b i o → ∀ x y u, PieceP f ins outs s i o x y u → 0 ≤ b x y ∧ b x y ≤ b i o + u

theorem AgI.best {f : FstD} {ins outs : List Int} {s : Nat} {b : Nat → Nat → Int} {D : Nat → Nat → Prop} (h : AgI f ins outs s b D) (hD : ∀ i o, i ≤ ins.length → o ≤ outs.length → D i o) {k : Nat} : ∀ {i o : Nat} {z : Int}, AgN f ins outs s k i o z → i ≤ ins.length ∧ o ≤ outs.length ∧ 0 ≤ b i o ∧ b i o ≤ z := by
  induction k with
  | zero => rintro i o z ⟨rfl, rfl, rfl⟩; exact ⟨Nat.zero_le _, Nat.zero_le _, by rw [h.at0]; exact Int.le_refl _, by rw [h.at0]; exact Int.le_refl _⟩
  | succ k ih =>
    rintro i o z ⟨i', o', y, u, h1, h2, rfl⟩
    obtain ⟨q1, q2, q3, q4⟩ := ih h1
    obtain ⟨r1, r2⟩ := h.fix i' o' (hD i' o' q1 q2) q3 i o u h2
    obtain ⟨hh, n, v, hp, _⟩ := h2
    obtain ⟨p1, p2⟩ := hp.le q1 q2
    exact ⟨p1, p2, r1, by omega⟩

theorem AgI.mn {f : FstD} {ins outs : List Int} {s : Nat} {b : Nat → Nat → Int} {D : Nat → Nat → Prop} (h : AgI f ins outs s b D) (hD : ∀ i o, i ≤ ins.length → o ≤ outs.length → D i o) (i o : Nat) : Mn (AgP f ins outs s i o) (b i o) := by
  by_cases h0 : 0 ≤ b i o
  · exact Or.inr ⟨h0, h.ach i o h0, fun y ⟨k, hk⟩ => (h.best hD hk).2.2.2⟩
  · have := h.ge i o
    exact Or.inl ⟨by omega, fun y ⟨k, hk⟩ => h0 (h.best hD hk).2.2.1⟩
end Go.Proofs.Yteehgcbjmdideaa

/- The document's tables, place by place: what is true of the prices between one arc and the next. -/
namespace Go.Proofs.Yteehgcbjmdideaa

theorem Inv.relK {E : List Edg} {b c y : List Int} (h : Inv E b c y) (hbn : b.length ≤ 400000) {e : Edg} (he : e ∈ E) (hv : e.v < b.length) (hw0 : 0 ≤ e.w) (hw1 : e.w ≤ 1000000000) : (∃ y', Inv E b (relE c e) y') ∧ (relE c e = c ∨ muL (relE c e) < muL c) := by
  obtain ⟨j, hj⟩ := List.getElem?_of_mem he
  rw [← progE_eq c e h.lo]
  unfold progE
  split
  · rename_i hbt
    have := h.step hbn hj hv hw0 hw1 hbt
    exact ⟨⟨_, this.1⟩, Or.inr this.2⟩
  · exact ⟨⟨y, h⟩, Or.inl rfl⟩

section
variable (f : FstD) (ins outs : List Int) (N i o : Nat)

/-- an arc that says something, into the place -/
def IntoL (a : ArcD) (i' o' : Nat) : Prop := ¬ (a.inp = 0 ∧ a.out = 0) ∧ i' ≤ ins.length ∧ o' ≤ outs.length ∧ (fitB ins i' a.inp && fitB outs o' a.out) = true ∧ usedBy i' a.inp = i ∧ usedBy o' a.out = o

/-- the first k arcs that say something make nothing better at the place -/
def loudOk (c : List Int) (k : Nat) : Prop := ∀ k' a i' o', k' < k → f.arcs[k']? = some a → IntoL ins outs i o a i' o' → 0 ≤ gI c (edgeS N ins outs i' o' a).u → Rlx c (edgeS N ins outs i' o' a)

/-- nor do the first k silent ones -/
def silentOk (c : List Int) (k : Nat) : Prop := ∀ k' a, k' < k → f.arcs[k']? = some a → a.inp = 0 ∧ a.out = 0 → 0 ≤ gI c (edgeS N ins outs i o a).u → Rlx c (edgeS N ins outs i o a)
end

section
variable {f : FstD} {ins outs : List Int} {N i o s0 : Nat} {c : List Int}

theorem usedBy_inj {u u' : Nat} {x : Int} (h : usedBy u x = usedBy u' x) : u = u' := by
  unfold usedBy at h
  split at h <;> omega

theorem into_edge {a : ArcD} {i' o' : Nat} (h : IntoL ins outs i o a i' o') : edgeS N ins outs i' o' a = ⟨spotN N outs.length a.src.toNat i' o', spotN N outs.length a.dst.toNat i o, a.wt⟩ := by
  unfold edgeS
  rw [if_pos h.2.2.2.1, h.2.2.2.2.1, h.2.2.2.2.2]

theorem silent_edge {a : ArcD} (h : a.inp = 0 ∧ a.out = 0) : edgeS N ins outs i o a = ⟨spotN N outs.length a.src.toNat i o, spotN N outs.length a.dst.toNat i o, a.wt⟩ := by
  unfold edgeS
  rw [if_pos (by unfold fitB; rw [h.1, h.2]; rfl), h.1, h.2]
  rfl

theorem into_before {a : ArcD} {i' o' n : Nat} (h : IntoL ins outs i o a i' o') (hn : n < N) : spotN N outs.length n i' o' < (i * (outs.length + 1) + o) * N := by
  obtain ⟨h1, _, h3, _, h5, h6⟩ := h
  have hp : i' * (outs.length + 1) + o' + 1 ≤ i * (outs.length + 1) + o := by
    rw [← h5, ← h6]
    unfold usedBy
    split
    · split
      · rename_i e1 e2; exact absurd ⟨e1, e2⟩ h1
      · omega
    · rw [Nat.add_mul, Nat.one_mul]
      split <;> omega
  have := Nat.mul_le_mul_right N hp
  rw [Nat.add_mul, Nat.one_mul] at this
  unfold spotN
  omega

theorem place_ge (n : Nat) : (i * (outs.length + 1) + o) * N ≤ spotN N outs.length n i o := by unfold spotN; omega

theorem relE_u {e : Edg} {u : Nat} (hv : e.v < c.length) (h : u ≠ e.v) : gI (relE c e) u = gI c u := by
  unfold relE
  rw [gI_set _ _ _ _ hv, if_neg h]

/-- a step into the place leaves what was true of arcs that say something -/
theorem loudOk.rel {k : Nat} {e : Edg} {n : Nat} (h : loudOk f ins outs N i o c k) (hok : OkW f ins outs N s0) (he : e.v = spotN N outs.length n i o) (hv : e.v < c.length) : loudOk f ins outs N i o (relE c e) k := by
  intro k' a i' o' hk ha hin
  obtain ⟨⟨p1, p2⟩, _⟩ := hok.arcs a (List.mem_of_getElem? ha)
  refine rlx_stays (h k' a i' o' hk ha hin) (relE_le c e hv) (relE_u hv ?_)
  rw [into_edge hin, he]
  have h1 := into_before (N := N) hin (show a.src.toNat < N by omega)
  have h2 := place_ge (N := N) (i := i) (o := o) (outs := outs) n
  dsimp only
  omega

/-- one more arc that says something -/
theorem loudOk.step {k : Nat} {a : ArcD} {i' o' : Nat} (h : loudOk f ins outs N i o c k) (hok : OkW f ins outs N s0) (ha : f.arcs[k]? = some a) (hin : IntoL ins outs i o a i' o') (hv : (edgeS N ins outs i' o' a).v < c.length) (hlo : ∀ v, -1 ≤ gI c v) : loudOk f ins outs N i o (relE c (edgeS N ins outs i' o' a)) (k + 1) := by
  intro k' a' i2 o2 hk ha' hin'
  by_cases hlt : k' < k
  · exact h.rel hok (by rw [into_edge hin]) hv k' a' i2 o2 hlt ha' hin'
  · have e : k' = k := by omega
    subst e
    rw [ha] at ha'
    injection ha' with ha'
    subst ha'
    have e1 := usedBy_inj (hin.2.2.2.2.1.trans hin'.2.2.2.2.1.symm)
    have e2 := usedBy_inj (hin.2.2.2.2.2.trans hin'.2.2.2.2.2.symm)
    subst e1 e2
    refine relE_rlx hv ?_ hlo
    rw [into_edge hin]
    exact (hok.arcs a (List.mem_of_getElem? ha)).2.2.1

theorem loudOk.skip {k : Nat} {a : ArcD} (h : loudOk f ins outs N i o c k) (ha : f.arcs[k]? = some a) (hno : ∀ i' o', ¬ IntoL ins outs i o a i' o') : loudOk f ins outs N i o c (k + 1) := by
  intro k' a' i2 o2 hk ha' hin'
  by_cases hlt : k' < k
  · exact h k' a' i2 o2 hlt ha' hin'
  · have e : k' = k := by omega
    subst e
    rw [ha] at ha'
    injection ha' with ha'
    subst ha'
    exact absurd hin' (hno _ _)

theorem silentOk.step {k : Nat} {a : ArcD} (h : silentOk f ins outs N i o c k) (hok : OkW f ins outs N s0) (ha : f.arcs[k]? = some a) (hs : a.inp = 0 ∧ a.out = 0) (hlo : ∀ v, -1 ≤ gI c v) (he : lessC (gI c (spotN N outs.length a.dst.toNat i o)) (plusC (gI c (spotN N outs.length a.src.toNat i o)) a.wt) = gI c (spotN N outs.length a.dst.toNat i o)) : silentOk f ins outs N i o c (k + 1) := by
  intro k' a' hk ha' hs'
  by_cases hlt : k' < k
  · exact h k' a' hlt ha' hs'
  · have e : k' = k := by omega
    subst e
    rw [ha] at ha'
    injection ha' with ha'
    subst ha'
    rw [silent_edge hs]
    exact rlx_same (hok.arcs a (List.mem_of_getElem? ha)).2.2.1 (hlo _) he

theorem silentOk.skip {k : Nat} {a : ArcD} (h : silentOk f ins outs N i o c k) (ha : f.arcs[k]? = some a) (hs : ¬ (a.inp = 0 ∧ a.out = 0)) : silentOk f ins outs N i o c (k + 1) := by
  intro k' a' hk ha' hs'
  by_cases hlt : k' < k
  · exact h k' a' hlt ha' hs'
  · have e : k' = k := by omega
    subst e
    rw [ha] at ha'
    injection ha' with ha'
    subst ha'
    exact absurd hs' hs

/-- the place is done -/
theorem place_done (hok : OkW f ins outs N s0) (ho : o ≤ outs.length) (hf : FixTo (EdS f ins outs N) c ((i * (outs.length + 1) + o) * N)) (hl : loudOk f ins outs N i o c f.arcs.length) (hs : silentOk f ins outs N i o c f.arcs.length) : FixTo (EdS f ins outs N) c ((i * (outs.length + 1) + o + 1) * N) := by
  intro e he hk h0
  by_cases hlt : e.v < (i * (outs.length + 1) + o) * N
  · exact hf e he hlt h0
  · obtain ⟨i', o', a, hi', ho', ha, rfl⟩ := edS_mem.1 he
    obtain ⟨⟨p1, p2⟩, ⟨p3, p4⟩, _⟩ := hok.arcs a ha
    obtain ⟨j, hj⟩ := List.getElem?_of_mem ha
    have hjl : j < f.arcs.length := (List.getElem?_eq_some_iff.1 hj).1
    by_cases hfit : (fitB ins i' a.inp && fitB outs o' a.out) = true
    · have hv : (edgeS N ins outs i' o' a).v = spotN N outs.length a.dst.toNat (usedBy i' a.inp) (usedBy o' a.out) := by unfold edgeS; rw [if_pos hfit]
      rw [hv] at hlt hk
      rw [Bool.and_eq_true] at hfit
      have hu := usedBy_le hfit.2 ho'
      have hpl : usedBy i' a.inp * (outs.length + 1) + usedBy o' a.out = i * (outs.length + 1) + o := by
        unfold spotN at hlt hk
        have h1 : ¬ usedBy i' a.inp * (outs.length + 1) + usedBy o' a.out + 1 ≤ i * (outs.length + 1) + o := fun h => by
          have := Nat.mul_le_mul_right N h
          rw [Nat.add_mul, Nat.one_mul] at this
          omega
        have h2 : ¬ i * (outs.length + 1) + o + 1 ≤ usedBy i' a.inp * (outs.length + 1) + usedBy o' a.out := fun h => by
          have := Nat.mul_le_mul_right N h
          omega
        omega
      obtain ⟨e1, e2⟩ := mul_add_inj (by omega) (by omega) hpl
      by_cases hsil : a.inp = 0 ∧ a.out = 0
      · have e1' : i' = i := by rw [← e1, hsil.1]; rfl
        have e2' : o' = o := by rw [← e2, hsil.2]; rfl
        subst e1' e2'
        exact hs j a hjl hj hsil h0
      · exact hl j a i' o' hjl hj ⟨hsil, hi', ho', by rw [Bool.and_eq_true]; exact hfit, e1, e2⟩ h0
    · have hd : edgeS N ins outs i' o' a = ⟨0, 0, 0⟩ := by unfold edgeS; rw [if_neg hfit]
      rw [hd] at h0 ⊢
      exact ⟨h0, by dsimp only; omega⟩

/-- along an edge into the place nothing changes elsewhere -/
theorem FixTo.rel {E : List Edg} {k : Nat} {e : Edg} (h : FixTo E c k) (hE : ∀ e ∈ E, e.v < k → e.u < k) (hk : k ≤ e.v) (hv : e.v < c.length) : FixTo E (relE c e) k := by
  unfold relE
  exact h.set hE hk hv
end
end Go.Proofs.Yteehgcbjmdideaa

/- The document's 'ScoreOf', where 'Costs' is known. -/
namespace Go.Proofs.Yteehgcbjmdideaa
open Go.RowKit
attribute [local go_sem ↓] Go.wp_at_zero Go.wp_at_succ

/-- what 'Costs' answers: the last row of its tables -/
def CostsEnd (w : World) (f : FstD) (ins outs : List Int) (N s0 il ol : Nat) (e : Ending) (w' : World) : Prop :=
  ∃ c T tc H hc G gc, e = .returned (.slice (some ⟨T, 0, none⟩) (il + 1) tc) ∧ w'.cell? ⟨T, il, none⟩ = some (.slice (some ⟨H, 0, none⟩) (ol + 1) hc) ∧ w'.cell? ⟨H, ol, none⟩ = some (.slice (some ⟨G, 0, none⟩) N gc) ∧ NumsAt w' G N (segL c N (ins.length * (outs.length + 1) + outs.length)) ∧
    c.length = totS ins outs N ∧ Ach (EdS f ins outs N) (bgS s0 (totS ins outs N)) c ∧ LeC c (bgS s0 (totS ins outs N)) ∧ Fix (EdS f ins outs N) c ∧ (∀ v, gI c v ≤ 400001000000000) ∧ Below w.heap.size w w'

def CostsTell : Prop :=
  ∀ (f : FstD) (ins outs : List Int) (N s0 G0 cap0 : Nat) (fin : Value) (aa : Option Addr) (m ac : Nat) (ia : Option Addr) (il ic : Nat) (oa : Option Addr) (ol oc : Nat) (w : World), OkW f ins outs N s0 → (∀ a ∈ f.arcs, (0 ≤ a.inp ∧ a.inp ≤ 9) ∧ (0 ≤ a.out ∧ a.out ≤ 9)) → ASlice w (.slice aa m ac) f.arcs → f.arcs.length = m → ISlice w (.slice ia il ic) ins → ins.length = il → ISlice w (.slice oa ol oc) outs → outs.length = ol → NumsAt w G0 N (begL (s0 : Int) N) →
    Calls Try.prog 52 #[.agg #[.int .i64 (N : Int), .int .i64 (s0 : Int), fin, .slice aa m ac], .slice (some ⟨G0, 0, none⟩) N cap0, .slice ia il ic, .slice oa ol oc] w fun e w' => CostsEnd w f ins outs N s0 il ol e w'

theorem row_nums {w : World} {B e g n cap : Nat} {xs : List Int} (h : w.ownsRow B e 1 (.slice (some ⟨g, 0, none⟩) n cap) n (intsW xs)) (hl : xs.length = n) : NumsAt w g n xs := by
  have hx : intsW xs = xs.map (Value.int .i64) := by simp [intsW]
  have h' := h.2
  rcases h' with ⟨h0, _⟩ | ⟨g', cap', cur, hv, hg, hb, h1, h2, h3, h4⟩
  · cases h0
  · cases hv
    refine ⟨hl, fun i hi => ?_, fun i => Go.Joins.unfrozen_of_block hb i, heap_lt hb⟩
    have := h.cellAt i (by omega)
    rw [this]
    simp [hx, gI, List.getD, show i < xs.length by omega]

set_option maxHeartbeats 2000000 in
set_option maxRecDepth 100000 in
theorem scoreOf_ok (HC : CostsTell) (f : FstD) (ins outs : List Int) (N s0 : Nat) (fa : Option Addr) (fn fc : Nat) (aa : Option Addr) (m ac : Nat) (ia : Option Addr) (il ic : Nat) (oa : Option Addr) (ol oc : Nat) (w : World) (hok : OkW f ins outs N s0) (hlet : ∀ a ∈ f.arcs, (0 ≤ a.inp ∧ a.inp ≤ 9) ∧ (0 ≤ a.out ∧ a.out ≤ 9)) (hf : ISlice w (.slice fa fn fc) f.final) (ha : ASlice w (.slice aa m ac) f.arcs) (hal : f.arcs.length = m) (hI : ISlice w (.slice ia il ic) ins) (hil : ins.length = il) (hO : ISlice w (.slice oa ol oc) outs) (hol : outs.length = ol) (x : Int) (hx : IsBest (EdS f ins outs N) (bgS s0 (totS ins outs N)) (finS (totS ins outs N) N f.final) x) :
    Calls Try.prog 12 #[.agg #[.int .i64 (N : Int), .int .i64 (s0 : Int), .slice fa fn fc, .slice aa m ac], .slice ia il ic, .slice oa ol oc] w fun e w' => e = .returned (.int .i64 x) ∧ Below w.heap.size w w' := by
  have hN1 := hok.n1
  have hN2 := hok.n2
  have hi40 := hok.i40
  have ho40 := hok.o40
  have hfn : fn = N := by
    obtain ⟨_, _, _, he, hl, _⟩ := hf.lenOf
    injection he with q1 q2 q3
    rw [q2, ← hl, hok.len]
  subst hfn
  obtain ⟨fb, fo, rfl, hfx⟩ := hf.some (by omega)
  have hb0 := bel_up (bel_self w) (.cells #[.int .i64 (fn : Int), .int .i64 (s0 : Int), .slice (some ⟨fb, fo, none⟩) fn fc, .slice aa m ac] 25)
  obtain ⟨Wd, hWd⟩ : ∃ Wd, Wd = (w.alloc (.cells #[.int .i64 (fn : Int), .int .i64 (s0 : Int), .slice (some ⟨fb, fo, none⟩) fn fc, .slice aa m ac] 25)).drew := ⟨_, rfl⟩
  have hbd : Below w.heap.size w Wd := by rw [hWd]; exact hb0.drew
  have x0 : Wd.cell? ⟨w.heap.size, 0, none⟩ = some (.int .i64 (fn : Int)) := by rw [hWd]; exact drew_cell (new_cell _ _ _ _ 0 _ rfl rfl)
  have x1 : Wd.cell? ⟨w.heap.size, 1, none⟩ = some (.int .i64 (s0 : Int)) := by rw [hWd]; exact drew_cell (new_cell _ _ _ _ 1 _ rfl rfl)
  have x2 : Wd.cell? ⟨w.heap.size, 2, none⟩ = some (.slice (some ⟨fb, fo, none⟩) fn fc) := by rw [hWd]; exact drew_cell (new_cell _ _ _ _ 2 _ rfl rfl)
  have x3 : Wd.cell? ⟨w.heap.size, 3, none⟩ = some (.slice aa m ac) := by rw [hWd]; exact drew_cell (new_cell _ _ _ _ 3 _ rfl rfl)
  have hS0 : (fun wx : World => wx.cell? ⟨w.heap.size, 0, none⟩ = some (.int .i64 (fn : Int)) ∧ wx.cell? ⟨w.heap.size, 1, none⟩ = some (.int .i64 (s0 : Int)) ∧ wx.cell? ⟨w.heap.size, 2, none⟩ = some (.slice (some ⟨fb, fo, none⟩) fn fc) ∧ wx.cell? ⟨w.heap.size, 3, none⟩ = some (.slice aa m ac)) Wd := ⟨x0, x1, x2, x3⟩
  have HSB : Hid (∀ wx : World, Below Wd.heap.size Wd wx → (fun wx : World => wx.cell? ⟨w.heap.size, 0, none⟩ = some (.int .i64 (fn : Int)) ∧ wx.cell? ⟨w.heap.size, 1, none⟩ = some (.int .i64 (s0 : Int)) ∧ wx.cell? ⟨w.heap.size, 2, none⟩ = some (.slice (some ⟨fb, fo, none⟩) fn fc) ∧ wx.cell? ⟨w.heap.size, 3, none⟩ = some (.slice aa m ac)) wx) := fun wx h => ⟨bel_c h x0, bel_c h x1, bel_c h x2, bel_c h x3⟩
  have HW : Hid (Wd = (w.alloc (.cells #[.int .i64 (fn : Int), .int .i64 (s0 : Int), .slice (some ⟨fb, fo, none⟩) fn fc, .slice aa m ac] 25)).drew) := hWd
  have HCO : Hid (∀ G0 cap0 W, Below w.heap.size w W → NumsAt W G0 fn (begL (s0 : Int) fn) → Calls Try.prog 52 #[.agg #[.int .i64 (fn : Int), .int .i64 (s0 : Int), .slice (some ⟨fb, fo, none⟩) fn fc, .slice aa m ac], .slice (some ⟨G0, 0, none⟩) fn cap0, .slice ia il ic, .slice oa ol oc] W fun e w' => CostsEnd W f ins outs fn s0 il ol e w') := fun G0 cap0 W hb hg => HC f ins outs fn s0 G0 cap0 _ aa m ac ia il ic oa ol oc W hok hlet (ha.below hb) hal (hI.below hb) hil (hO.below hb) hol hg
  have HFX : Hid (∀ W, Below w.heap.size w W → IntsAt W fb fo fn f.final) := fun W hb => hfx.below hb
  have HFH : Hid (∀ v, gI f.final v ≤ 1000000000) := fun v => by
    unfold gI
    rcases Nat.lt_or_ge v f.final.length with h | h
    · simp only [List.getD, List.getElem?_eq_getElem h, Option.getD_some]
      have := hok.fin _ (List.getElem_mem h)
      omega
    · simp only [List.getD, List.getElem?_eq_none h, Option.getD_none]
      decide
  have HX : Hid (∀ c, c.length = totS ins outs fn → Ach (EdS f ins outs fn) (bgS s0 (totS ins outs fn)) c → LeC c (bgS s0 (totS ins outs fn)) → Fix (EdS f ins outs fn) c → endD (segL c fn (ins.length * (outs.length + 1) + outs.length)) f.final fn = x) := fun c h1 h2 h3 h4 => (doc_best h1 h2 h3 h4).unique hx
  clear hok hal hWd hb0 x0 x1 x2 x3 HC hlet ha hI hO hil hol hx hf hfx
  go_enter Try.func12, Try.ntmps12
  go_wp2
  refine wp_region_noPanic ?_
  refine wp_region_F (fun wx => wx.cell? ⟨w.heap.size, 0, none⟩ = some (.int .i64 (fn : Int)) ∧ wx.cell? ⟨w.heap.size, 1, none⟩ = some (.int .i64 (s0 : Int)) ∧ wx.cell? ⟨w.heap.size, 2, none⟩ = some (.slice (some ⟨fb, fo, none⟩) fn fc) ∧ wx.cell? ⟨w.heap.size, 3, none⟩ = some (.slice aa m ac)) [] (by kernel_rfl) (by rw [← HW.out]; exact hS0) (fun _ => ?_)
  rw [← HW.out]
  clear HW
  refine wpAnyF_take (i := 0) (v := .agg #[.int .i64 (fn : Int), .int .i64 (s0 : Int), .slice (some ⟨fb, fo, none⟩) fn fc, .slice aa m ac]) rfl (by kernel_rfl) (by kernel_rfl) (by kernel_rfl) (by kernel_rfl) (fun _ _ _ h => h) (Or.inl ⟨by rfl, fun wl hSw => ?_⟩) hS0 ?_
  · (try dsimp only at hSw); go_simp
  refine wpAnyF_take (i := 1) (v := .agg #[.int .i64 (fn : Int), .int .i64 (s0 : Int), .slice (some ⟨fb, fo, none⟩) fn fc, .slice aa m ac]) rfl (by kernel_rfl) (by kernel_rfl) (by kernel_rfl) (by kernel_rfl) (fun _ _ _ h => h) (Or.inl ⟨by rfl, fun wl hSw => ?_⟩) hS0 ?_
  · (try dsimp only at hSw); go_simp
  refine wpAnyF_free (i := 3) (v := .slice ia il ic) rfl (by kernel_rfl) (by kernel_rfl) (by kernel_rfl) (by kernel_rfl) (fun _ _ _ h => h) (Or.inl ⟨by rfl, fun wl hSw => ?_⟩) hS0 ?_
  · (try dsimp only at hSw); go_simp
  refine wpAnyF_free (i := 4) (v := .slice oa ol oc) rfl (by kernel_rfl) (by kernel_rfl) (by kernel_rfl) (by kernel_rfl) (fun _ _ _ h => h) (Or.inl ⟨by rfl, fun wl hSw => ?_⟩) hS0 ?_
  · (try dsimp only at hSw); go_simp
  refine wpAnyF_one (i := 2) rfl (by kernel_rfl) (fun K hK => ?_)
  go_simp
  refine (begunRef_any fn (s0 : Int) (.slice (some ⟨fb, fo, none⟩) fn fc) (.slice aa m ac) _ hN2).mono ?_
  rintro e w1 ⟨v, rfl, hown, hb1⟩
  obtain ⟨G0, cap0, rfl⟩ := Go.Joins.ownsRow_form hown (by omega)
  have hg0 := row_nums hown (begL_len _ _)
  refine hK.out _ _ ⟨fun _ => HSB.out _ hb1, ?_⟩
  clear hK K hown
  refine wpAnyF_one (i := 5) rfl (by kernel_rfl) (fun K hK => ?_)
  go_simp
  refine (HCO.out G0 cap0 w1 (bel_on hbd hb1) hg0).mono ?_
  rintro e w2 ⟨c, T, tc, H, hc, G, gc, rfl, k1, k2, k3, k4, k5, k6, k7, k8, hb2⟩
  have hb12 := bel_on hb1 hb2
  have hbw2 := bel_on hbd hb12
  have HXE : Hid (endD (segL c fn (ins.length * (outs.length + 1) + outs.length)) f.final fn = x) := HX.out c k4 k5 k6 k7
  have HK8 : Hid (∀ v, gI (segL c fn (ins.length * (outs.length + 1) + outs.length)) v ≤ 400001000000000) := fun v => by
    rcases Nat.lt_or_ge v fn with h | h
    · rw [segL_at _ _ _ _ h]; exact k8 _
    · rw [out_gI _ _ (by rw [k3.len]; exact h)]; decide
  have hS2 := HSB.out _ hb12
  refine hK.out _ _ ⟨fun _ => hS2, ?_⟩
  clear hK K hg0 k4 k5 k6 k7 k8 HX HCO hb1 hb2 hS0
  refine wpAnyF_one (i := 6) rfl (by kernel_rfl) (fun K hK => ?_)
  go_simp
  refine hK.out _ _ ⟨fun _ => hS2, ?_⟩
  clear hK K
  refine wpAnyF_done (by kernel_rfl) ?_ _
  refine NoPanic.normal ?_
  go_wp2
  obtain ⟨W3, hW3⟩ : ∃ W3, W3 = w2.drew := ⟨_, rfl⟩
  have hb23 : Below w2.heap.size w2 W3 := by rw [hW3]; exact (bel_self w2).drew
  have hS3 : (fun wx : World => (wx.cell? ⟨w.heap.size, 0, none⟩ = some (.int .i64 (fn : Int)) ∧ wx.cell? ⟨w.heap.size, 1, none⟩ = some (.int .i64 (s0 : Int)) ∧ wx.cell? ⟨w.heap.size, 2, none⟩ = some (.slice (some ⟨fb, fo, none⟩) fn fc) ∧ wx.cell? ⟨w.heap.size, 3, none⟩ = some (.slice aa m ac)) ∧ wx.cell? ⟨T, il, none⟩ = some (.slice (some ⟨H, 0, none⟩) (ol + 1) hc) ∧ wx.cell? ⟨H, ol, none⟩ = some (.slice (some ⟨G, 0, none⟩) fn gc)) W3 := ⟨HSB.out _ (bel_on hb12 hb23), bel_c hb23 k1, bel_c hb23 k2⟩
  have hend := ended_any f fn G gc fb fo fc (s0 : Int) (.slice aa m ac) _ W3 hN2 (k3.below hb23) ((HFX.out _ hbw2).below hb23) HK8.out HFH.out
  rw [HXE.out] at hend
  have hili : (il : Int) < il + 1 := by omega
  have holi : (ol : Int) < ol + 1 := by omega
  refine wp_region_noPanic ?_
  refine wp_region_F (fun wx : World => (wx.cell? ⟨w.heap.size, 0, none⟩ = some (.int .i64 (fn : Int)) ∧ wx.cell? ⟨w.heap.size, 1, none⟩ = some (.int .i64 (s0 : Int)) ∧ wx.cell? ⟨w.heap.size, 2, none⟩ = some (.slice (some ⟨fb, fo, none⟩) fn fc) ∧ wx.cell? ⟨w.heap.size, 3, none⟩ = some (.slice aa m ac)) ∧ wx.cell? ⟨T, il, none⟩ = some (.slice (some ⟨H, 0, none⟩) (ol + 1) hc) ∧ wx.cell? ⟨H, ol, none⟩ = some (.slice (some ⟨G, 0, none⟩) fn gc)) [] (by kernel_rfl) (by rw [← hW3]; exact hS3) (fun _ => ?_)
  rw [← hW3]
  clear hW3
  refine wpAnyF_take (i := 0) (v := .agg #[.int .i64 (fn : Int), .int .i64 (s0 : Int), .slice (some ⟨fb, fo, none⟩) fn fc, .slice aa m ac]) rfl (by kernel_rfl) (by kernel_rfl) (by kernel_rfl) (by kernel_rfl) (fun _ _ _ h => h) (Or.inl ⟨by rfl, fun wl hSw => ?_⟩) hS3 ?_
  · (try dsimp only at hSw); go_simp
  refine wpAnyF_free (i := 1) (v := .slice (some ⟨T, 0, none⟩) (il + 1) tc) rfl (by kernel_rfl) (by kernel_rfl) (by kernel_rfl) (by kernel_rfl) (fun _ _ _ h => h) (Or.inl ⟨by rfl, fun wl hSw => ?_⟩) hS3 ?_
  · (try dsimp only at hSw); go_simp
  refine wpAnyF_free (i := 2) (v := .slice ia il ic) rfl (by kernel_rfl) (by kernel_rfl) (by kernel_rfl) (by kernel_rfl) (fun _ _ _ h => h) (Or.inl ⟨by rfl, fun wl hSw => ?_⟩) hS3 ?_
  · (try dsimp only at hSw); go_simp
  refine wpAnyF_free (i := 3) (v := .int .i64 il) rfl (by kernel_rfl) (by kernel_rfl) (by kernel_rfl) (by kernel_rfl) (fun _ _ _ h => h) (Or.inl ⟨by rfl, fun wl hSw => ?_⟩) hS3 ?_
  · (try dsimp only at hSw); go_simp
  refine wpAnyF_free (i := 4) (v := .pointer (some ⟨T, il, none⟩)) rfl (by kernel_rfl) (by kernel_rfl) (by kernel_rfl) (by kernel_rfl) (fun _ _ _ h => h) (Or.inl ⟨by rfl, fun wl hSw => ?_⟩) hS3 ?_
  · (try dsimp only at hSw); go_simp
  refine wpAnyF_take (i := 5) (v := .slice (some ⟨H, 0, none⟩) (ol + 1) hc) rfl (by kernel_rfl) (by kernel_rfl) (by kernel_rfl) (by kernel_rfl) (fun _ _ _ h => h) (Or.inl ⟨by rfl, fun wl hSw => ?_⟩) hS3 ?_
  · (try dsimp only at hSw); go_simp
  refine wpAnyF_free (i := 6) (v := .slice oa ol oc) rfl (by kernel_rfl) (by kernel_rfl) (by kernel_rfl) (by kernel_rfl) (fun _ _ _ h => h) (Or.inl ⟨by rfl, fun wl hSw => ?_⟩) hS3 ?_
  · (try dsimp only at hSw); go_simp
  refine wpAnyF_free (i := 7) (v := .int .i64 ol) rfl (by kernel_rfl) (by kernel_rfl) (by kernel_rfl) (by kernel_rfl) (fun _ _ _ h => h) (Or.inl ⟨by rfl, fun wl hSw => ?_⟩) hS3 ?_
  · (try dsimp only at hSw); go_simp
  refine wpAnyF_free (i := 8) (v := .pointer (some ⟨H, ol, none⟩)) rfl (by kernel_rfl) (by kernel_rfl) (by kernel_rfl) (by kernel_rfl) (fun _ _ _ h => h) (Or.inl ⟨by rfl, fun wl hSw => ?_⟩) hS3 ?_
  · (try dsimp only at hSw); go_simp
  refine wpAnyF_take (i := 9) (v := .slice (some ⟨G, 0, none⟩) fn gc) rfl (by kernel_rfl) (by kernel_rfl) (by kernel_rfl) (by kernel_rfl) (fun _ _ _ h => h) (Or.inl ⟨by rfl, fun wl hSw => ?_⟩) hS3 ?_
  · (try dsimp only at hSw); go_simp
  refine wpAnyF_one (i := 10) rfl (by kernel_rfl) (fun K hK => ?_)
  go_simp
  refine hend.mono ?_
  rintro e w4 ⟨rfl, hb4⟩
  have hS4 := (⟨HSB.out _ (bel_on (bel_on hb12 hb23) hb4), bel_c hb4 hS3.2.1, bel_c hb4 hS3.2.2⟩ : (fun wx : World => (wx.cell? ⟨w.heap.size, 0, none⟩ = some (.int .i64 (fn : Int)) ∧ wx.cell? ⟨w.heap.size, 1, none⟩ = some (.int .i64 (s0 : Int)) ∧ wx.cell? ⟨w.heap.size, 2, none⟩ = some (.slice (some ⟨fb, fo, none⟩) fn fc) ∧ wx.cell? ⟨w.heap.size, 3, none⟩ = some (.slice aa m ac)) ∧ wx.cell? ⟨T, il, none⟩ = some (.slice (some ⟨H, 0, none⟩) (ol + 1) hc) ∧ wx.cell? ⟨H, ol, none⟩ = some (.slice (some ⟨G, 0, none⟩) fn gc)) w4)
  refine hK.out _ _ ⟨fun _ => hS4, ?_⟩
  clear hK K
  refine wpAnyF_one (i := 11) rfl (by kernel_rfl) (fun K hK => ?_)
  go_simp
  refine hK.out _ _ ⟨fun _ => hS4, ?_⟩
  clear hK K
  refine wpAnyF_done (by kernel_rfl) ?_ _
  refine NoPanic.normal ?_
  go_wp2
  go_ret
  exact ⟨rfl, bel_on (bel_on hbw2 hb23) hb4⟩
end Go.Proofs.Yteehgcbjmdideaa

/- The document's tables in memory. -/
namespace Go.Proofs.Yteehgcbjmdideaa
open Go.RowKit

structure TB (w wr : World) (N ol : Nat) (sta : Int) (fin arcs : Value) (g h hc : Nat → Nat) (c : List Int) (i o : Nat) (t9 t11 : Value) : Prop where
  cf : CellsF wr w.heap.size (N : Int) sta fin arcs
  bel : Below w.heap.size w wr
  tab : wr.ownsRow (w.heap.size + 1) 70 1 t9 i ((List.range i).map fun k => .slice (some ⟨h k, 0, none⟩) (ol + 1) (hc k))
  pl : wr.ownsRow (w.heap.size + 1) 22 1 t11 o ((List.range o).map fun k => .slice (some ⟨g (i * (ol + 1) + k), 0, none⟩) N N)
  hpl : ∀ k, k < i → ∀ o', o' ≤ ol → wr.cell? ⟨h k, o', none⟩ = some (.slice (some ⟨g (k * (ol + 1) + o'), 0, none⟩) N N)
  rows : ∀ q, q < i * (ol + 1) + o → NumsAt wr (g q) N (segL c N q)
  gg : ∀ q, q < i * (ol + 1) + o → w.heap.size + 1 ≤ g q ∧ t9.ownBlock ≠ some (g q) ∧ t11.ownBlock ≠ some (g q)
  gh : ∀ k, k < i → w.heap.size + 1 ≤ h k ∧ t9.ownBlock ≠ some (h k) ∧ t11.ownBlock ≠ some (h k)
  sep : ∀ b, t9.ownBlock = some b → t11.ownBlock ≠ some b

section
variable {w wr wx : World} {N ol : Nat} {sta : Int} {fin arcs : Value} {g h hc : Nat → Nat} {c : List Int} {i o : Nat} {t9 t11 : Value}

theorem TB.below (t : TB w wr N ol sta fin arcs g h hc c i o t9 t11) (hb : Below wr.heap.size wr wx) : TB w wx N ol sta fin arcs g h hc c i o t9 t11 :=
  ⟨t.cf.below hb, bel_on t.bel hb, ownsRow_bel t.tab hb, ownsRow_bel t.pl hb, fun k hk o' ho => bel_c hb (t.hpl k hk o' ho), fun q hq => (t.rows q hq).below hb, t.gg, t.gh, t.sep⟩

/-- what is not yet laid down may change -/
theorem TB.other (t : TB w wr N ol sta fin arcs g h hc c i o t9 t11) {d : List Int} (hd : ∀ q, q < i * (ol + 1) + o → segL d N q = segL c N q) : TB w wr N ol sta fin arcs g h hc d i o t9 t11 :=
  ⟨t.cf, t.bel, t.tab, t.pl, t.hpl, fun q hq => by rw [hd q hq]; exact t.rows q hq, t.gg, t.gh, t.sep⟩

/-- a store into the row at work -/
theorem TB.far (t : TB w wr N ol sta fin arcs g h hc c i o t9 t11) {R k : Nat} {u : Value} (h0 : w.heap.size + 1 ≤ R) (h9 : t9.ownBlock ≠ some R) (h11 : t11.ownBlock ≠ some R) (hg : ∀ q, q < i * (ol + 1) + o → g q ≠ R) (hh : ∀ k, k < i → h k ≠ R) : TB w (wr.setCell ⟨R, k, none⟩ u) N ol sta fin arcs g h hc c i o t9 t11 := by
  have hX : w.heap.size ≠ R := by omega
  exact ⟨⟨(set_far hX).trans t.cf.1, (set_far hX).trans t.cf.2.1, (set_far hX).trans t.cf.2.2.1, (set_far hX).trans t.cf.2.2.2⟩, t.bel.setCell (p := ⟨R, k, none⟩) (by show w.heap.size ≤ R; omega) _, ownsRow_setCell_far t.tab h9, ownsRow_setCell_far t.pl h11, fun k hk o' ho => (set_far (hh k hk)).trans (t.hpl k hk o' ho), fun q hq => (t.rows q hq).other (hg q hq), t.gg, t.gh, t.sep⟩

/-- the row at work is laid down -/
theorem TB.row {w' : World} {R : Nat} {v' : Value} (t : TB w wr N ol sta fin arcs g h hc c i o t9 t11) (hR : NumsAt wr R N (segL c N (i * (ol + 1) + o))) (h0 : w.heap.size + 1 ≤ R) (h9 : t9.ownBlock ≠ some R) (h11 : t11.ownBlock ≠ some R)
    (hgr : wr.grownBy w' t11.ownBlock) (hown : w'.ownsRow (w.heap.size + 1) 22 1 v' (o + 1) (((List.range o).map fun k => .slice (some ⟨g (i * (ol + 1) + k), 0, none⟩) N N) ++ [.slice (some ⟨R, 0, none⟩) N N])) (hv : v'.ownBlock = t11.ownBlock ∨ v'.ownBlock = some wr.heap.size) :
    TB w w' N ol sta fin arcs (fun q => if q = i * (ol + 1) + o then R else g q) h hc c i (o + 1) t9 v' := by
  have hX : some w.heap.size ≠ t11.ownBlock := fun e => by have := own_base t.pl _ e.symm; omega
  have hlX := cell_lt t.cf.1
  have hne : ∀ b, t11.ownBlock ≠ some b → some b ≠ t11.ownBlock := fun b hb e => hb e.symm
  have h9' : ∀ b, t9.ownBlock = some b → b < wr.heap.size := ownsRow_lt0 t.tab
  refine ⟨⟨(hgr.cell_far ⟨_, 0, none⟩ hlX hX).trans t.cf.1, (hgr.cell_far ⟨_, 1, none⟩ hlX hX).trans t.cf.2.1, (hgr.cell_far ⟨_, 2, none⟩ hlX hX).trans t.cf.2.2.1, (hgr.cell_far ⟨_, 3, none⟩ hlX hX).trans t.cf.2.2.2⟩, t.bel.grown hgr (by have := t.bel.size; omega) (fun k hk => by have := own_base t.pl _ hk; omega), ?_, ?_, fun k hk o' ho => ?_, fun q hq => ?_, fun q hq => ?_, fun k hk => ?_, fun b hb => ?_⟩
  · refine t.tab.kept hgr ?_
    cases h9b : t9.ownBlock with
    | none => exact Or.inl rfl
    | some b => exact Or.inr fun e => t.sep b h9b e.symm
  · have e : ((List.range (o + 1)).map fun k => Value.slice (some ⟨if i * (ol + 1) + k = i * (ol + 1) + o then R else g (i * (ol + 1) + k), 0, none⟩) N N) = ((List.range o).map fun k => .slice (some ⟨g (i * (ol + 1) + k), 0, none⟩) N N) ++ [.slice (some ⟨R, 0, none⟩) N N] := by
      rw [List.range_succ, List.map_append]
      congr 1
      · apply List.map_congr_left
        intro k hk
        rw [List.mem_range] at hk
        rw [if_neg (by omega)]
      · simp
    rw [e]
    exact hown
  · have hlt := cell_lt (t.hpl k hk o' ho)
    have hpl : k * (ol + 1) + o' < i * (ol + 1) + o := by
      have := Nat.mul_le_mul_right (ol + 1) (show k + 1 ≤ i by omega)
      rw [Nat.add_mul, Nat.one_mul] at this
      omega
    rw [if_neg (by omega)]
    exact (hgr.cell_far ⟨_, o', none⟩ hlt (hne _ (t.gh k hk).2.2)).trans (t.hpl k hk o' ho)
  · by_cases e : q = i * (ol + 1) + o
    · subst e
      rw [if_pos rfl]
      exact hR.block (hgr.block R hR.lt (hne _ h11)) (Nat.lt_of_lt_of_le hR.lt hgr.size)
    · rw [if_neg e]
      have hq' : q < i * (ol + 1) + o := by omega
      exact (t.rows q hq').block (hgr.block _ (t.rows q hq').lt (hne _ (t.gg q hq').2.2)) (Nat.lt_of_lt_of_le (t.rows q hq').lt hgr.size)
  · have hsz : ∀ b, b < wr.heap.size → t11.ownBlock ≠ some b → v'.ownBlock ≠ some b := fun b hb hn e => by
      rcases hv with hv | hv
      · rw [hv] at e; exact hn e
      · rw [hv] at e; injection e with e; omega
    by_cases e : q = i * (ol + 1) + o
    · subst e
      rw [if_pos rfl]
      exact ⟨h0, h9, hsz R hR.lt h11⟩
    · rw [if_neg e]
      have hq' : q < i * (ol + 1) + o := by omega
      exact ⟨(t.gg q hq').1, (t.gg q hq').2.1, hsz _ (t.rows q hq').lt (t.gg q hq').2.2⟩
  · have hlt := cell_lt (t.hpl k hk 0 (Nat.zero_le _))
    refine ⟨(t.gh k hk).1, (t.gh k hk).2.1, fun e => ?_⟩
    rcases hv with hv | hv
    · rw [hv] at e; exact (t.gh k hk).2.2 e
    · rw [hv] at e; injection e with e; omega
  · intro e
    rcases hv with hv | hv
    · rw [hv] at e; exact t.sep b hb e
    · rw [hv] at e; injection e with e; have := h9' b hb; omega

/-- the plane at work is laid down -/
theorem TB.plane {w' : World} {H cap : Nat} {v' : Value} (t : TB w wr N ol sta fin arcs g h hc c i (ol + 1) t9 (.slice (some ⟨H, 0, none⟩) (ol + 1) cap))
    (hgr : wr.grownBy w' t9.ownBlock) (hown : w'.ownsRow (w.heap.size + 1) 70 1 v' (i + 1) (((List.range i).map fun k => .slice (some ⟨h k, 0, none⟩) (ol + 1) (hc k)) ++ [.slice (some ⟨H, 0, none⟩) (ol + 1) cap])) (hv : v'.ownBlock = t9.ownBlock ∨ v'.ownBlock = some wr.heap.size) :
    TB w w' N ol sta fin arcs g (fun k => if k = i then H else h k) (fun k => if k = i then cap else hc k) c (i + 1) 0 v' (.slice none 0 0) := by
  have hX : some w.heap.size ≠ t9.ownBlock := fun e => by have := own_base t.tab _ e.symm; omega
  have hlX := cell_lt t.cf.1
  have hne : ∀ b, t9.ownBlock ≠ some b → some b ≠ t9.ownBlock := fun b hb e => hb e.symm
  have hH9 : t9.ownBlock ≠ some H := fun e => t.sep H e rfl
  have hpe : (i + 1) * (ol + 1) + 0 = i * (ol + 1) + (ol + 1) := by rw [Nat.add_mul, Nat.one_mul]; rfl
  have hcH : ∀ o', o' ≤ ol → wr.cell? ⟨H, o', none⟩ = some (.slice (some ⟨g (i * (ol + 1) + o'), 0, none⟩) N N) := fun o' ho => by
    rw [t.pl.cellAt o' (by omega)]
    simp [show o' < ol + 1 by omega]
  have hHl := cell_lt (hcH 0 (Nat.zero_le _))
  have hHb : w.heap.size + 1 ≤ H := own_base t.pl H rfl
  have hsz : ∀ b, b < wr.heap.size → t9.ownBlock ≠ some b → v'.ownBlock ≠ some b := fun b hb hn e => by
    rcases hv with hv | hv
    · rw [hv] at e; exact hn e
    · rw [hv] at e; injection e with e; omega
  have hno : ∀ b, (Value.slice none 0 0).ownBlock ≠ some b := fun b e => by cases e
  refine ⟨⟨(hgr.cell_far ⟨_, 0, none⟩ hlX hX).trans t.cf.1, (hgr.cell_far ⟨_, 1, none⟩ hlX hX).trans t.cf.2.1, (hgr.cell_far ⟨_, 2, none⟩ hlX hX).trans t.cf.2.2.1, (hgr.cell_far ⟨_, 3, none⟩ hlX hX).trans t.cf.2.2.2⟩, t.bel.grown hgr (by have := t.bel.size; omega) (fun k hk => by have := own_base t.tab _ hk; omega), ?_, World.ownsRow_nil _ _ _ _, fun k hk o' ho => ?_, fun q hq => ?_, fun q hq => ?_, fun k hk => ?_, fun b hb => hno b⟩
  · have e : ((List.range (i + 1)).map fun k => Value.slice (some ⟨if k = i then H else h k, 0, none⟩) (ol + 1) (if k = i then cap else hc k)) = ((List.range i).map fun k => .slice (some ⟨h k, 0, none⟩) (ol + 1) (hc k)) ++ [.slice (some ⟨H, 0, none⟩) (ol + 1) cap] := by
      rw [List.range_succ, List.map_append]
      congr 1
      · apply List.map_congr_left
        intro k hk
        rw [List.mem_range] at hk
        rw [if_neg (by omega), if_neg (by omega)]
      · simp
    rw [e]
    exact hown
  · by_cases e : k = i
    · subst e
      rw [if_pos rfl]
      exact (hgr.cell_far ⟨_, o', none⟩ hHl (hne _ hH9)).trans (hcH o' ho)
    · rw [if_neg e]
      have hk' : k < i := by omega
      exact (hgr.cell_far ⟨_, o', none⟩ (cell_lt (t.hpl k hk' o' ho)) (hne _ (t.gh k hk').2.1)).trans (t.hpl k hk' o' ho)
  · rw [hpe] at hq
    exact (t.rows q hq).block (hgr.block _ (t.rows q hq).lt (hne _ (t.gg q hq).2.1)) (Nat.lt_of_lt_of_le (t.rows q hq).lt hgr.size)
  · rw [hpe] at hq
    exact ⟨(t.gg q hq).1, hsz _ (t.rows q hq).lt (t.gg q hq).2.1, hno _⟩
  · by_cases e : k = i
    · subst e
      rw [if_pos rfl]
      exact ⟨hHb, hsz H hHl hH9, hno _⟩
    · rw [if_neg e]
      have hk' : k < i := by omega
      exact ⟨(t.gh k hk').1, hsz _ (cell_lt (t.hpl k hk' 0 (Nat.zero_le _))) (t.gh k hk').2.1, hno _⟩
end
end Go.Proofs.Yteehgcbjmdideaa

/- The document's 'Costs': what is true when the first places are done; a row that is being written. -/
namespace Go.Proofs.Yteehgcbjmdideaa
open Go.RowKit
attribute [local go_sem ↓] Go.wp_at_zero Go.wp_at_succ

/-- what is true of the prices when the first p places are done -/
structure GS (f : FstD) (ins outs : List Int) (N s0 : Nat) (c : List Int) (p : Nat) : Prop where
  inv : ∃ y, Inv (EdS f ins outs N) (bgS s0 (totS ins outs N)) c y
  fix : FixTo (EdS f ins outs N) c (p * N)
  rest : ∀ v, p * N ≤ v → gI c v = gI (bgS s0 (totS ins outs N)) v

theorem GS.start {f : FstD} {ins outs : List Int} {N s0 : Nat} : GS f ins outs N s0 (bgS s0 (totS ins outs N)) 0 :=
  ⟨⟨_, Inv.start (bgS_lo _ _) (fun v => by rw [bgS_at]; split <;> decide)⟩, fun e _ hk => by rw [Nat.zero_mul] at hk; omega, fun _ _ => rfl⟩

/-- a row that is written up to k -/
def fillL (s : List Int) (N k : Nat) : List Int := (List.range N).map fun n => if n < k then gI s n else 0
theorem fillL_len (s : List Int) (N k : Nat) : (fillL s N k).length = N := by simp [fillL]
theorem fillL_at (s : List Int) (N k n : Nat) (hn : n < N) : gI (fillL s N k) n = if n < k then gI s n else 0 := by
  show (fillL s N k).getD n (-1) = _
  unfold fillL
  simp [List.getD, hn]
theorem fillL_zero (s : List Int) (N : Nat) : fillL s N 0 = List.replicate N 0 := by
  unfold fillL
  apply List.ext_getElem
  · simp
  · intro i h1 h2
    simp
theorem fillL_succ (s : List Int) (N k : Nat) (hk : k < N) : (fillL s N k).set k (gI s k) = fillL s N (k + 1) := by
  apply gI_ext
  · rw [List.length_set, fillL_len, fillL_len]
  · intro v hv
    rw [List.length_set, fillL_len] at hv
    rw [gI_set _ _ _ _ (by rw [fillL_len]; exact hk), fillL_at _ _ _ _ hv, fillL_at _ _ _ _ hv]
    by_cases e : v = k
    · subst e
      rw [if_pos rfl, if_pos (by omega)]
    · rw [if_neg e]
      by_cases h : v < k
      · rw [if_pos h, if_pos (by omega)]
      · rw [if_neg h, if_neg (by omega)]
theorem fillL_all (s : List Int) (N : Nat) (h : s.length = N) : fillL s N N = s := by
  apply gI_ext
  · rw [fillL_len, h]
  · intro v hv
    rw [fillL_len] at hv
    rw [fillL_at _ _ _ _ hv, if_pos hv]

theorem GS.fresh {f : FstD} {ins outs : List Int} {N s0 : Nat} {c : List Int} {p k : Nat} (h : GS f ins outs N s0 c p) (hok : OkW f ins outs N s0) (hk : k < N) : gI (segL c N p) k = if p = 0 then gI (begL (s0 : Int) N) k else -1 := by
  rw [segL_at _ _ _ _ hk, h.rest _ (by omega), bgS_at]
  have hs := hok.s
  by_cases e : p = 0
  · subst e
    rw [Nat.zero_mul, Nat.zero_add, if_pos rfl]
    have hNT : k < totS ins outs N := by
      have := spotN_lt (N := N) (n := k) (i := 0) (o := 0) hk (Nat.zero_le ins.length) (Nat.zero_le outs.length)
      have e0 : spotN N outs.length k 0 0 = k := by unfold spotN; omega
      rw [e0] at this
      exact this
    unfold gI begL
    simp only [List.getD, List.getElem?_map, List.getElem?_range hk, Option.map_some, Option.getD_some]
    by_cases e2 : k = s0
    · subst e2; simp [hNT]
    · rw [if_neg (by omega)]
      have : ¬ (k : Int) = s0 := by omega
      simp [this]
  · rw [if_neg e, if_neg]
    rintro ⟨h1, _⟩
    have := Nat.mul_le_mul_right N (show 1 ≤ p by omega)
    omega

theorem one_sl (a : Option Addr) (n c : Nat) : ∀ u ∈ [Value.slice a n c], u.oneCell' = true := by
  intro u hu
  rw [List.mem_singleton] at hu
  subst hu
  rfl
theorem infoS : (Try.prog.info? 22).map (fun i => (i.zero, i.size, i.bytes)) = some (some (.slice none 0 0), 1, 24) := by kernel_rfl
theorem infoSS : (Try.prog.info? 70).map (fun i => (i.zero, i.size, i.bytes)) = some (some (.slice none 0 0), 1, 24) := by kernel_rfl
end Go.Proofs.Yteehgcbjmdideaa
