/- The states on a way, reckoned round by round, as the document's answer does it. -/
import Derived.Test.YteehgcbjmdideaaDoorTrimMath
namespace Go.Proofs.YteehgcbjmdideaaDoor

def atB (m : List Bool) (x : Nat) : Bool := m.getD x false
def relax1 (m : List Bool) (p : Nat × Nat) : List Bool := m.set p.2 (atB m p.2 || atB m p.1)
def relax (ps : List (Nat × Nat)) (m : List Bool) : List Bool := ps.foldl relax1 m
def relaxN (ps : List (Nat × Nat)) : Nat → List Bool → List Bool
  | 0, m => m
  | k + 1, m => relax ps (relaxN ps k m)

theorem relax1_len (m : List Bool) (p : Nat × Nat) : (relax1 m p).length = m.length := by simp [relax1]
theorem relax_len (ps : List (Nat × Nat)) : ∀ m : List Bool, (relax ps m).length = m.length := by
  induction ps with
  | nil => intro m; rfl
  | cons p ps ih => intro m; show (relax ps (relax1 m p)).length = _; rw [ih, relax1_len]
theorem relaxN_len (ps : List (Nat × Nat)) (k : Nat) (m : List Bool) : (relaxN ps k m).length = m.length := by
  induction k with
  | zero => rfl
  | succ k ih => rw [relaxN, relax_len, ih]

theorem atB_lt {m : List Bool} {x : Nat} (h : atB m x = true) : x < m.length := by
  unfold atB at h
  by_cases hx : x < m.length
  · exact hx
  · simp [List.getD, hx] at h

theorem atB_relax1 (m : List Bool) (p : Nat × Nat) (x : Nat) : atB (relax1 m p) x = if x = p.2 ∧ p.2 < m.length then (atB m p.2 || atB m p.1) else atB m x := by
  unfold relax1 atB
  by_cases h : x = p.2
  · subst h
    by_cases hl : p.2 < m.length
    · rw [if_pos ⟨rfl, hl⟩]; simp [List.getD, hl]
    · rw [if_neg (fun q => hl q.2)]; simp [List.getD, hl]
  · rw [if_neg (fun q => h q.1)]
    simp [List.getD, Ne.symm h]

theorem relax1_le {m : List Bool} {p : Nat × Nat} {x : Nat} (h : atB m x = true) : atB (relax1 m p) x = true := by
  rw [atB_relax1]
  split
  · rename_i q; rw [← q.1, h]; rfl
  · exact h
theorem relax_le (ps : List (Nat × Nat)) : ∀ {m : List Bool} {x : Nat}, atB m x = true → atB (relax ps m) x = true := by
  induction ps with
  | nil => intro m x h; exact h
  | cons p ps ih => intro m x h; exact ih (relax1_le h)
theorem relaxN_le (ps : List (Nat × Nat)) (k : Nat) {m : List Bool} {x : Nat} (h : atB m x = true) : atB (relaxN ps k m) x = true := by
  induction k with
  | zero => exact h
  | succ k ih => exact relax_le ps ih

theorem relax_sound {R : Nat → Prop} (ps : List (Nat × Nat)) (hR : ∀ p ∈ ps, R p.1 → R p.2) : ∀ {m : List Bool}, (∀ x, atB m x = true → R x) → ∀ x, atB (relax ps m) x = true → R x := by
  induction ps with
  | nil => intro m h; exact h
  | cons p ps ih =>
    intro m h
    refine ih (fun q hq => hR q (by simp [hq])) ?_
    intro x hx
    rw [atB_relax1] at hx
    split at hx
    · rename_i q
      rw [Bool.or_eq_true] at hx
      rw [q.1]
      rcases hx with hx | hx
      · exact h _ hx
      · exact hR p (by simp) (h _ hx)
    · exact h x hx
theorem relaxN_sound {R : Nat → Prop} (ps : List (Nat × Nat)) (hR : ∀ p ∈ ps, R p.1 → R p.2) (k : Nat) {m : List Bool} (h : ∀ x, atB m x = true → R x) : ∀ x, atB (relaxN ps k m) x = true → R x := by
  induction k with
  | zero => exact h
  | succ k ih => exact relax_sound ps hR ih

theorem relax_fix (ps : List (Nat × Nat)) : ∀ {m : List Bool}, (∀ x, atB (relax ps m) x = true → atB m x = true) → ∀ p ∈ ps, p.2 < m.length → atB m p.1 = true → atB m p.2 = true := by
  induction ps with
  | nil => intro m _ p hp; cases hp
  | cons q ps ih =>
    intro m h p hp hl h1
    have back : ∀ x, atB (relax1 m q) x = true → atB m x = true := fun x hx => h x (relax_le ps hx)
    rcases List.mem_cons.1 hp with rfl | hp
    · apply back
      rw [atB_relax1, if_pos ⟨rfl, hl⟩, h1, Bool.or_true]
    · exact back _ (ih (m := relax1 m q) (fun x hx => relax1_le (h x hx)) p hp (by rw [relax1_len]; exact hl) (relax1_le h1))

theorem newNo_mono (f g : Nat → Bool) (h : ∀ x, f x = true → g x = true) (k : Nat) : newNo f k ≤ newNo g k := by
  induction k with
  | zero => simp [newNo]
  | succ k ih =>
    rw [newNo_succ, newNo_succ]
    cases hf : f k
    · simp; omega
    · rw [h k hf]; simp; omega
theorem newNo_lt (f g : Nat → Bool) (h : ∀ x, f x = true → g x = true) (x : Nat) (hf : f x = false) (hg : g x = true) (k : Nat) (hx : x < k) : newNo f k < newNo g k := by
  induction k with
  | zero => omega
  | succ k ih =>
    rw [newNo_succ, newNo_succ]
    by_cases e : x = k
    · subst e
      rw [hf, hg]
      have := newNo_mono f g h x
      simp; omega
    · have := ih (by omega)
      cases hfk : f k
      · simp; omega
      · rw [h k hfk]; simp; omega
theorem newNo_all (f : Nat → Bool) (k : Nat) (h : k ≤ newNo f k) : ∀ x, x < k → f x = true := by
  induction k with
  | zero => intro x hx; omega
  | succ k ih =>
    rw [newNo_succ] at h
    have := newNo_le f k
    cases hf : f k
    · rw [hf] at h; simp at h; omega
    · rw [hf] at h
      simp at h
      intro x hx
      by_cases e : x = k
      · subst e; exact hf
      · exact ih h x (by omega)

theorem relaxN_grows (ps : List (Nat × Nat)) (N : Nat) (m : List Bool) (hl : m.length = N) (k : Nat) :
    (∀ x, atB (relax ps (relaxN ps k m)) x = true → atB (relaxN ps k m) x = true) ∨ k ≤ newNo (atB (relaxN ps k m)) N := by
  induction k with
  | zero => right; omega
  | succ k ih =>
    by_cases hfix : ∀ x, atB (relax ps (relaxN ps k m)) x = true → atB (relaxN ps k m) x = true
    · left
      have e : ∀ x, atB (relaxN ps (k + 1) m) x = atB (relaxN ps k m) x := fun x => by
        rw [Bool.eq_iff_iff]
        exact ⟨hfix x, fun h => relax_le ps h⟩
      have e2 : relaxN ps (k + 1) m = relaxN ps k m := by
        apply List.ext_getElem
        · rw [relaxN_len, relaxN_len]
        · intro i h1 h2
          have := e i
          simpa [atB, List.getD, h1, h2] using this
      rw [e2]; exact hfix
    · right
      rcases ih with h | h
      · exact absurd h hfix
      · obtain ⟨x, hx⟩ := Classical.not_forall.1 hfix
        have hx1 : atB (relax ps (relaxN ps k m)) x = true := Classical.byContradiction fun q => hx fun q2 => absurd q2 q
        have hx2 : atB (relaxN ps k m) x = false := Bool.eq_false_iff.2 fun q => hx fun _ => q
        have hxl := atB_lt hx1
        rw [relax_len, relaxN_len] at hxl
        have := newNo_lt (atB (relaxN ps k m)) (atB (relaxN ps (k + 1) m)) (fun y hy => relax_le ps hy) x hx2 hx1 N (by omega)
        omega

theorem relaxN_closed (ps : List (Nat × Nat)) (N : Nat) (m : List Bool) (hl : m.length = N) (hp : ∀ p ∈ ps, p.2 < N) : ∀ p ∈ ps, atB (relaxN ps N m) p.1 = true → atB (relaxN ps N m) p.2 = true := by
  intro p hpm h1
  rcases relaxN_grows ps N m hl N with h | h
  · exact relax_fix ps h p hpm (by rw [relaxN_len, hl]; exact hp p hpm) h1
  · exact newNo_all _ N h p.2 (hp p hpm)

theorem relaxN_reach (ps : List (Nat × Nat)) (N : Nat) (m : List Bool) (S : Nat → Bool) (hl : m.length = N) (hp : ∀ p ∈ ps, p.2 < N) (hm : ∀ x, atB m x = (decide (x < N) && S x)) (x : Nat) :
    atB (relaxN ps N m) x = true ↔ ReachP N ps S x := by
  constructor
  · refine relaxN_sound (R := ReachP N ps S) ps (fun p hp h => Reach.on h hp) N (fun y hy => ?_) x
    rw [hm y, Bool.and_eq_true, decide_eq_true_eq] at hy
    exact Reach.first hy
  · intro h
    refine h (fun y => atB (relaxN ps N m) y = true) (fun s hs => relaxN_le ps N ?_) (fun s t hs he => relaxN_closed ps N m hl hp (s, t) he hs)
    rw [hm s, Bool.and_eq_true, decide_eq_true_eq]
    exact hs

/-- where the document's answer begins: the start; the ends -/
def thereM (f : FstD) : List Bool := (List.replicate f.states.toNat false).set f.start.toNat true
def onM (f : FstD) : List Bool := f.final.map fun x => decide (0 ≤ x)
def thereN (f : FstD) : List Bool := relaxN (pairsA f) f.states.toNat (thereM f)
def onN (f : FstD) : List Bool := relaxN (pairsB f) f.states.toNat (onM f)

theorem okA (f : FstD) (ok : CheckOk f) : ∀ p ∈ pairsA f, p.2 < f.states.toNat := fun p hp => by
  obtain ⟨a, ha, rfl⟩ := List.mem_map.1 hp
  have := (ok.arcs a ha).dst
  simp only [inB, Bool.and_eq_true, decide_eq_true_eq] at this
  show a.dst.toNat < _
  omega
theorem okB (f : FstD) (ok : CheckOk f) : ∀ p ∈ pairsB f, p.2 < f.states.toNat := fun p hp => by
  obtain ⟨a, ha, rfl⟩ := List.mem_map.1 hp
  have := (ok.arcs a ha).src
  simp only [inB, Bool.and_eq_true, decide_eq_true_eq] at this
  show a.src.toNat < _
  omega

theorem stays_relax (f : FstD) (hc : checkD f = 0) (x : Nat) : (atB (thereN f) x && atB (onN f) x) = true ↔ Stays f x := by
  have ok := check_ok f hc
  have hs := ok.states
  have ht := ok.start
  have hl := ok.len
  simp only [inB, Bool.and_eq_true, decide_eq_true_eq] at hs ht
  have h1 := relaxN_reach (pairsA f) f.states.toNat (thereM f) (firstA f) (by simp [thereM]) (okA f ok) (fun y => by
    unfold thereM atB firstA
    by_cases e : y = f.start.toNat
    · subst e
      have : f.start.toNat < f.states.toNat := by omega
      have e2 : ((f.start.toNat : Nat) : Int) = f.start := by omega
      simp [List.getD, this, e2]
    · have e2 : ¬ (y : Int) = f.start := by omega
      simp only [List.getD, e2, decide_false, Bool.and_false]
      rw [List.getElem?_set_ne (Ne.symm e)]
      by_cases hy : y < f.states.toNat
      · simp [hy]
      · simp [hy]) x
  have h2 := relaxN_reach (pairsB f) f.states.toNat (onM f) (firstB f) (by simp [onM]; omega) (okB f ok) (fun y => by
    unfold onM atB firstB
    by_cases hy : y < f.final.length
    · have hy2 : y < f.states.toNat := by omega
      have hm : f.final[y] ∈ f.final := List.getElem_mem hy
      have := (finB_out (ok.fin _ hm)).1
      simp only [List.getD, List.getElem?_map, List.getElem?_eq_getElem hy, Option.map_some, Option.getD_some, hy2, decide_true, Bool.true_and]
      rw [Bool.eq_iff_iff]
      simp
      omega
    · have hy2 : ¬ y < f.states.toNat := by omega
      simp [List.getD, hy, hy2]) x
  rw [Bool.and_eq_true]
  show (atB (relaxN (pairsA f) f.states.toNat (thereM f)) x = true ∧ atB (relaxN (pairsB f) f.states.toNat (onM f)) x = true) ↔ _
  rw [h1, h2]
  rfl

theorem start_there (f : FstD) (hc : checkD f = 0) : atB (thereN f) f.start.toNat = true := by
  have ok := check_ok f hc
  have hs := ok.states
  have ht := ok.start
  simp only [inB, Bool.and_eq_true, decide_eq_true_eq] at hs ht
  apply relaxN_le
  unfold thereM atB
  have : f.start.toNat < f.states.toNat := by omega
  simp [List.getD, this]

/-- what is trimmed, as it is reckoned -/
def trimD (f : FstD) : FstD := trimBy f fun i => atB (thereN f) i && atB (onN f) i
theorem trimD_is (f : FstD) (hc : checkD f = 0) : IsTrim f (trimD f) := ⟨_, fun i => stays_relax f hc i, rfl⟩

end Go.Proofs.YteehgcbjmdideaaDoor
