/- The program's search: what stays true of prices, and of the arcs that they came by, from one step to the next. -/
import Derived.Test.YteehgcbjmdideaaRelaxM
namespace Go.Proofs.Yteehgcbjmdideaa

/-- how much a price can still fall -/
def muI (x : Int) : Nat := if x < 0 then 1000000000000000 else x.toNat
def muL (c : List Int) : Nat := (c.map muI).sum
/-- how many prices there are -/
def metL (c : List Int) : Nat := (c.map fun x => if x < 0 then 0 else 1).sum

theorem sum_set (f : Int → Nat) (c : List Int) (v : Nat) (x : Int) (hv : v < c.length) : ((c.set v x).map f).sum + f (gI c v) = (c.map f).sum + f x := by
  induction c generalizing v with
  | nil => simp at hv
  | cons y c ih =>
    cases v with
    | zero => simp [gI, List.getD]; omega
    | succ v =>
      have := ih v (by simpa using hv)
      have e : gI (y :: c) (v + 1) = gI c v := by simp [gI, List.getD]
      rw [e]
      simp only [List.set_cons_succ, List.map_cons, List.sum_cons]
      omega

theorem metL_le (c : List Int) : metL c ≤ c.length := by
  unfold metL
  induction c with
  | nil => simp
  | cons x c ih =>
    simp only [List.map_cons, List.sum_cons, List.length_cons]
    split <;> omega

/-- by which arc each price came: none, and it is what it was at the beginning; or it is no better than by that arc, and if it is just that, the arc's price came first -/
def ByOk (E : List Edg) (b c y : List Int) (r : Nat → Nat) : Prop :=
  ∀ v, v < c.length → (gI y v = -1 ∧ gI c v = gI b v) ∨ ∃ (j : Nat) (e : Edg), gI y v = j ∧ E[j]? = some e ∧ e.v = v ∧ 0 ≤ gI c e.u ∧ 0 ≤ gI c v ∧ gI c e.u + e.w ≤ gI c v ∧ (gI c e.u + e.w = gI c v → r e.u < r v)

/-- what stays true -/
structure Inv (E : List Edg) (b c y : List Int) : Prop where
  len : c.length = b.length
  ylen : y.length = b.length
  ach : Ach E b c
  le : LeC c b
  lo : ∀ v, -1 ≤ gI c v
  hi : ∀ v, gI c v ≤ 1000000000 * (1 + (metL c : Int))
  by_ : ∃ r R, (∀ x, r x ≤ R) ∧ ByOk E b c y r

section
variable {E : List Edg} {b c y : List Int}

theorem Inv.top (h : Inv E b c y) (hn : b.length ≤ 200) (v : Nat) : gI c v ≤ 201000000000 := by
  have h1 := h.hi v
  have h2 := metL_le c
  have h3 := h.len
  omega

theorem Inv.topK (h : Inv E b c y) (hn : b.length ≤ 400000) (v : Nat) : gI c v ≤ 400001000000000 := by
  have h1 := h.hi v
  have h2 := metL_le c
  have h3 := h.len
  omega

theorem Inv.start (hb : ∀ v, gI b v = -1 ∨ 0 ≤ gI b v) (hm : ∀ v, gI b v ≤ 1000000000) : Inv E b b (List.replicate b.length (-1)) where
  len := rfl
  ylen := by simp
  ach := fun v => (hb v).imp id fun h => ⟨0, rfl, h⟩
  le := LeC.refl _
  lo := fun v => by rcases hb v with h | h <;> omega
  hi := fun v => by have := hm v; omega
  by_ := ⟨fun _ => 0, 0, fun _ => Nat.le_refl _, fun v hv => Or.inl ⟨by simp [gI, List.getD, hv], rfl⟩⟩

theorem better_iff {a d : Int} (ha : -1 ≤ a) (hd : -1 ≤ d) : betterB a d = true ↔ 0 ≤ a ∧ (d = -1 ∨ a < d) := by
  unfold betterB
  simp only [Bool.and_eq_true, bne_iff_ne, ne_eq, Bool.or_eq_true, beq_iff_eq, decide_eq_true_eq]
  omega

theorem plusC_lo (a w : Int) : -1 ≤ plusC a w := by
  unfold plusC; split
  · omega
  · omega

/-- a step along an edge that makes a price better -/
theorem Inv.step {j : Nat} {e : Edg} (h : Inv E b c y) (hbn : b.length ≤ 400000) (hj : E[j]? = some e) (hv : e.v < b.length) (hw0 : 0 ≤ e.w) (hw1 : e.w ≤ 1000000000)
    (hbt : betterB (plusC (gI c e.u) e.w) (gI c e.v) = true) :
    Inv E b (c.set e.v (plusC (gI c e.u) e.w)) (y.set e.v (j : Int)) ∧ muL (c.set e.v (plusC (gI c e.u) e.w)) < muL c := by
  have hvc : e.v < c.length := by have := h.len; omega
  have hvy : e.v < y.length := by have := h.ylen; omega
  have he : e ∈ E := List.mem_of_getElem? hj
  obtain ⟨hp0, hbet⟩ := (better_iff (plusC_lo _ _) (h.lo _)).1 hbt
  have hcu : 0 ≤ gI c e.u := by
    unfold plusC at hp0
    split at hp0
    · omega
    · rename_i hh; omega
  have hp : plusC (gI c e.u) e.w = gI c e.u + e.w := by unfold plusC; rw [if_neg (by omega)]
  have hrel : c.set e.v (plusC (gI c e.u) e.w) = relE c e := by
    rw [← progE_eq c e h.lo]
    unfold progE
    rw [if_pos hbt]
  have hne : e.u ≠ e.v := by
    intro hh
    rw [hh] at hp hcu
    rw [hh, hp] at hbet
    omega
  have hset : ∀ x, gI (c.set e.v (plusC (gI c e.u) e.w)) x = if x = e.v then gI c e.u + e.w else gI c x := fun x => by rw [gI_set _ _ _ _ hvc, hp]
  have hyset : ∀ x, gI (y.set e.v (j : Int)) x = if x = e.v then (j : Int) else gI y x := fun x => gI_set _ _ _ _ hvy
  have hmet := sum_set (fun x => if x < 0 then 0 else 1) c e.v (plusC (gI c e.u) e.w) hvc
  have hmu := sum_set muI c e.v (plusC (gI c e.u) e.w) hvc
  change metL (c.set e.v (plusC (gI c e.u) e.w)) + _ = metL c + _ at hmet
  change muL (c.set e.v (plusC (gI c e.u) e.w)) + _ = muL c + _ at hmu
  rw [if_neg (by omega : ¬ plusC (gI c e.u) e.w < 0)] at hmet
  have htop := h.hi e.u
  refine ⟨⟨by simpa using h.len, by simpa using h.ylen, ?_, ?_, ?_, ?_, ?_⟩, ?_⟩
  · rw [hrel]; exact relE_ach he hvc h.ach
  · rw [hrel]; exact (relE_le c e hvc).trans h.le
  · intro x
    rw [hset]
    split
    · omega
    · exact h.lo x
  · intro x
    rw [hset]
    have hx := h.hi x
    by_cases hn : gI c e.v < 0
    · rw [if_pos hn] at hmet
      split <;> omega
    · rw [if_neg hn] at hmet
      have := h.hi e.v
      split <;> omega
  · obtain ⟨r, R, hR, hby⟩ := h.by_
    refine ⟨fun x => if x = e.v then R + 1 else r x, R + 1, fun x => ?_, fun v hv' => ?_⟩
    · show (if x = e.v then R + 1 else r x) ≤ R + 1
      split
      · exact Nat.le_refl _
      · have := hR x; omega
    · rw [hset, hyset]
      by_cases hve : v = e.v
      · subst hve
        right
        rw [if_pos rfl, if_pos rfl]
        refine ⟨j, e, rfl, hj, rfl, ?_⟩
        rw [hset, if_neg hne]
        simp only [hne, if_true, if_false]
        have := hR e.u
        refine ⟨hcu, by omega, by omega, fun _ => by omega⟩
      · rw [if_neg hve, if_neg hve]
        rcases hby v (by simpa using hv') with hl | ⟨j', e', h1, h2, h3, h4, h5, h6, h7⟩
        · exact Or.inl hl
        · right
          refine ⟨j', e', h1, h2, h3, ?_⟩
          rw [hset]
          by_cases hue : e'.u = e.v
          · rw [if_pos hue]
            rw [hue] at h4 h6
            refine ⟨by omega, h5, by omega, fun hh => by omega⟩
          · rw [if_neg hue]
            refine ⟨h4, h5, h6, fun hh => ?_⟩
            have := h7 hh
            simp only [hue, if_false, hve]
            exact this
  · have hmu1 : muI (plusC (gI c e.u) e.w) < muI (gI c e.v) := by
      unfold muI
      rw [if_neg (by omega)]
      by_cases hn : gI c e.v < 0
      · rw [if_pos hn]
        have := h.topK hbn e.u
        omega
      · rw [if_neg hn]; omega
    omega

/-- no arc makes a price better: prices are the least ones, and each is just what it is by its arc -/
theorem Inv.done (h : Inv E b c y) (hw : ∀ e ∈ E, 0 ≤ e.w) (hno : ∀ e ∈ E, betterB (plusC (gI c e.u) e.w) (gI c e.v) = false) :
    (∀ v, IsLeast E b v (gI c v)) ∧ ∃ r : Nat → Nat, ∀ v, v < c.length → (gI y v = -1 ∧ gI c v = gI b v) ∨ ∃ (j : Nat) (e : Edg), gI y v = j ∧ E[j]? = some e ∧ e.v = v ∧ 0 ≤ gI c e.u ∧ 0 ≤ gI c v ∧ gI c e.u + e.w = gI c v ∧ r e.u < r v := by
  have hf := fix_of E c hw h.lo hno
  refine ⟨fix_least hw h.ach h.le hf, ?_⟩
  obtain ⟨r, _, _, hby⟩ := h.by_
  refine ⟨r, fun v hv => ?_⟩
  rcases hby v hv with hl | ⟨j, e, h1, h2, h3, h4, h5, h6, h7⟩
  · exact Or.inl hl
  · right
    have hle := (hf e (List.mem_of_getElem? h2) h4).2
    rw [h3] at hle
    have heq : gI c e.u + e.w = gI c v := by omega
    exact ⟨j, e, h1, h2, h3, h4, h5, heq, h7 heq⟩

end
end Go.Proofs.Yteehgcbjmdideaa
