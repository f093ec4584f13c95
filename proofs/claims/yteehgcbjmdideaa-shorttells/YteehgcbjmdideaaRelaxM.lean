/- One edge after the other: what a round makes of prices. -/
import Derived.Test.YteehgcbjmdideaaShMath
namespace Go.Proofs.Yteehgcbjmdideaa

def plusC (a w : Int) : Int := if a < 0 ∨ w < 0 then -1 else a + w
def lessC (a b : Int) : Int := if a < 0 then b else if b < 0 ∨ a < b then a else b

/-- along one edge -/
def relE (c : List Int) (e : Edg) : List Int := c.set e.v (lessC (gI c e.v) (plusC (gI c e.u) e.w))
def relAll (L : List Edg) (c : List Int) : List Int := L.foldl relE c

theorem relE_len (c : List Int) (e : Edg) : (relE c e).length = c.length := by simp [relE]
theorem relAll_len (L : List Edg) (c : List Int) : (relAll L c).length = c.length := by
  unfold relAll
  induction L generalizing c with
  | nil => rfl
  | cons e L ih => rw [List.foldl_cons, ih, relE_len]

theorem gI_set (c : List Int) (i v : Nat) (x : Int) (hi : i < c.length) : gI (c.set i x) v = if v = i then x else gI c v := by
  unfold gI
  by_cases h : v = i
  · subst h; simp [List.getD, hi]
  · have h' : ¬ i = v := fun e => h e.symm
    simp [List.getD, h, h']

section
variable {E : List Edg} {b : List Int}

theorem relE_ach {c : List Int} {e : Edg} (he : e ∈ E) (hv : e.v < c.length) (ha : Ach E b c) : Ach E b (relE c e) := by
  intro v
  unfold relE
  rw [gI_set _ _ _ _ hv]
  split
  · rename_i h
    subst h
    have hnew : plusC (gI c e.u) e.w = -1 ∨ ∃ h, WayN E b h e.v (plusC (gI c e.u) e.w) := by
      unfold plusC
      split
      · exact Or.inl rfl
      · rename_i h
        right
        rcases ha e.u with hu | ⟨k, hu⟩
        · exact absurd (Or.inl (by omega)) h
        · exact ⟨k + 1, e, he, rfl, gI c e.u, hu, rfl⟩
    unfold lessC
    split
    · exact hnew
    · split
      · exact ha e.v
      · exact hnew
  · exact ha v

theorem relE_le (c : List Int) (e : Edg) (hv : e.v < c.length) : LeC (relE c e) c := by
  intro v h0
  unfold relE
  rw [gI_set _ _ _ _ hv]
  split
  · rename_i h
    subst h
    unfold lessC
    split
    · omega
    · split
      · exact ⟨h0, Int.le_refl _⟩
      · rename_i h; omega
  · exact ⟨h0, Int.le_refl _⟩

theorem relE_edge (c : List Int) (e : Edg) (hv : e.v < c.length) (hw : 0 ≤ e.w) (h0 : 0 ≤ gI c e.u) : 0 ≤ gI (relE c e) e.v ∧ gI (relE c e) e.v ≤ gI c e.u + e.w := by
  unfold relE
  rw [gI_set _ _ _ _ hv, if_pos rfl]
  have hp : plusC (gI c e.u) e.w = gI c e.u + e.w := by unfold plusC; rw [if_neg (by omega)]
  rw [hp]
  unfold lessC
  split
  · omega
  · split
    · omega
    · omega

theorem LeC.trans {a c d : List Int} (h : LeC a c) (k : LeC c d) : LeC a d := by
  intro v h0
  obtain ⟨h1, h2⟩ := k v h0
  obtain ⟨h3, h4⟩ := h v h1
  exact ⟨h3, by omega⟩
theorem LeC.refl (c : List Int) : LeC c c := fun _ h => ⟨h, Int.le_refl _⟩

theorem relAll_round (L : List Edg) (c : List Int) (hL : ∀ e ∈ L, e ∈ E) (hE : ∀ e ∈ E, e.v < c.length ∧ 0 ≤ e.w) (ha : Ach E b c) :
    Ach E b (relAll L c) ∧ LeC (relAll L c) c ∧ ∀ e ∈ L, 0 ≤ gI c e.u → 0 ≤ gI (relAll L c) e.v ∧ gI (relAll L c) e.v ≤ gI c e.u + e.w := by
  induction L generalizing c with
  | nil => exact ⟨ha, LeC.refl _, by simp⟩
  | cons x L ih =>
    have hx := hL x (by simp)
    obtain ⟨hxv, hxw⟩ := hE x hx
    have h1 := ih (relE c x) (fun e he => hL e (by simp [he])) (by simpa [relE_len] using hE) (relE_ach hx hxv ha)
    have hle := relE_le c x hxv
    show Ach E b (relAll L (relE c x)) ∧ LeC (relAll L (relE c x)) c ∧ _
    refine ⟨h1.1, h1.2.1.trans hle, fun e he h0 => ?_⟩
    rcases List.mem_cons.1 he with rfl | he
    · obtain ⟨h2, h3⟩ := relE_edge c e hxv hxw h0
      obtain ⟨h4, h5⟩ := h1.2.1 e.v h2
      exact ⟨h4, by show gI (relAll L (relE c e)) e.v ≤ _; omega⟩
    · obtain ⟨h2, h3⟩ := hle e.u h0
      obtain ⟨h4, h5⟩ := h1.2.2 e he h2
      exact ⟨h4, by show gI (relAll L (relE c x)) e.v ≤ _; omega⟩

/-- the document's rounds -/
def rounds (L : List Edg) (c : List Int) : Nat → List Int
  | 0 => c
  | r + 1 => relAll L (rounds L c r)

theorem rounds_len (L : List Edg) (c : List Int) (r : Nat) : (rounds L c r).length = c.length := by
  induction r with
  | zero => rfl
  | succ r ih => rw [rounds, relAll_len, ih]

theorem way_lt (hE : ∀ e ∈ E, e.v < b.length) {h v : Nat} {x : Int} (H : WayN E b h v x) : v < b.length := by
  cases h with
  | zero =>
    obtain ⟨rfl, h0⟩ := H
    by_cases hv : v < b.length
    · exact hv
    · simp [gI, List.getD, hv] at h0
  | succ h => obtain ⟨e, he, rfl, _⟩ := H; exact hE e he

/-- as many rounds as there are states give the least prices, in whatever order the edges are gone by -/
theorem rounds_are (L : List Edg) (hL : ∀ e, e ∈ L ↔ e ∈ E) (hE : ∀ e ∈ E, e.v < b.length ∧ 0 ≤ e.w) (hb : ∀ v, gI b v = -1 ∨ 0 ≤ gI b v) (v : Nat) : IsLeast E b v (gI (rounds L b b.length) v) := by
  have ha0 : Ach E b b := fun v => (hb v).imp id fun h => ⟨0, rfl, h⟩
  have hach : ∀ r, Ach E b (rounds L b r) := by
    intro r
    induction r with
    | zero => exact ha0
    | succ r ih => exact (relAll_round L (rounds L b r) (fun e he => (hL e).1 he) (by simpa [rounds_len] using hE) ih).1
  refine rounds_least b.length (rounds L b) (fun e he => (hE e he).2) (fun v h x H => way_lt (fun e he => (hE e he).1) H) ha0 (LeC.refl _) (fun r _ => ?_) v
  obtain ⟨h1, h2, h3⟩ := relAll_round (b := b) L (rounds L b r) (fun e he => (hL e).1 he) (by simpa [rounds_len] using hE) (hach r)
  exact ⟨h1, h2, fun e he => h3 e ((hL e).2 he)⟩

end

/-- is the first price the better one? -/
def betterB (a b : Int) : Bool := (a != -1) && ((b == -1) || decide (a < b))

/-- the program's step along one edge -/
def progE (c : List Int) (e : Edg) : List Int := if betterB (plusC (gI c e.u) e.w) (gI c e.v) then c.set e.v (plusC (gI c e.u) e.w) else c

theorem set_same (c : List Int) (v : Nat) : c.set v (gI c v) = c := by
  by_cases h : v < c.length
  · apply List.ext_getElem (by simp)
    intro i h1 h2
    rw [List.getElem_set]
    split
    · rename_i e; subst e; simp [gI, List.getD, h]
    · rfl
  · exact List.set_eq_of_length_le (by omega)

theorem progE_eq (c : List Int) (e : Edg) (hc : ∀ v, -1 ≤ gI c v) : progE c e = relE c e := by
  have hv := hc e.v
  have hp : -1 ≤ plusC (gI c e.u) e.w := by
    unfold plusC; split
    · omega
    · omega
  unfold progE relE betterB lessC
  generalize plusC (gI c e.u) e.w = p at *
  by_cases h1 : p = -1
  · subst h1
    by_cases h2 : gI c e.v < 0
    · have : gI c e.v = -1 := by omega
      simp only [bne_self_eq_false, Bool.false_and, Bool.false_eq_true, if_false, h2, if_true]
      rw [← this, set_same]
    · simp [h2, set_same]
  · have hp0 : ¬ p < 0 := by omega
    by_cases h2 : gI c e.v = -1
    · simp [h1, h2]
    · have h2' : ¬ gI c e.v < 0 := by omega
      by_cases h3 : p < gI c e.v
      · have : ¬ gI c e.v < p := by omega
        simp [h1, h3, h2', hp0, this]
      · by_cases h4 : gI c e.v < p
        · simp [h1, h2, h3, h2', h4, set_same]
        · have : p = gI c e.v := by omega
          simp [h2', this, set_same]

theorem fix_of (E : List Edg) (c : List Int) (hw : ∀ e ∈ E, 0 ≤ e.w) (hc : ∀ v, -1 ≤ gI c v) (h : ∀ e ∈ E, betterB (plusC (gI c e.u) e.w) (gI c e.v) = false) : Fix E c := by
  intro e he h0
  have h1 := h e he
  have hp : plusC (gI c e.u) e.w = gI c e.u + e.w := by have := hw e he; unfold plusC; rw [if_neg (by omega)]
  have hwe := hw e he
  have hv := hc e.v
  rw [hp] at h1
  unfold betterB at h1
  have hne : (gI c e.u + e.w != -1) = true := by simp; omega
  rw [hne, Bool.true_and, Bool.or_eq_false_iff] at h1
  have h2 : gI c e.v ≠ -1 := by simpa using h1.1
  have h3 : ¬ gI c e.u + e.w < gI c e.v := by simpa using h1.2
  omega

end Go.Proofs.Yteehgcbjmdideaa
