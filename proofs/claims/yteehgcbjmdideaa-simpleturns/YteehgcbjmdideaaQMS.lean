/- Of arcs that differ in nothing but the weight the least one, all in their order: there is just one such list. -/
import Derived.Test.YteehgcbjmdideaaQMQ
import Derived.Test.YteehgcbjmdideaaQMA
import Derived.Test.YteehgcbjmdideaaQLeaD
import Derived.Test.YteehgcbjmdideaaQShelfS
namespace Go.Proofs.Yteehgcbjmdideaa

/-- they differ in nothing but the weight -/
def eqK (a b : ArcD) : Prop := a.src = b.src ∧ a.inp = b.inp ∧ a.out = b.out ∧ a.dst = b.dst

theorem eqK.symm {a b : ArcD} (h : eqK a b) : eqK b a := ⟨h.1.symm, h.2.1.symm, h.2.2.1.symm, h.2.2.2.symm⟩
theorem eqK.trans {a b c : ArcD} (h : eqK a b) (k : eqK b c) : eqK a c := ⟨h.1.trans k.1, h.2.1.trans k.2.1, h.2.2.1.trans k.2.2.1, h.2.2.2.trans k.2.2.2⟩
theorem eqK.refl (a : ArcD) : eqK a a := ⟨rfl, rfl, rfl, rfl⟩
theorem eqK.one {a b : ArcD} (h : eqK a b) (hw : a.wt = b.wt) : a = b := by
  obtain ⟨s, i, o, d, t⟩ := a
  obtain ⟨s', i', o', d', t'⟩ := b
  obtain ⟨h1, h2, h3, h4⟩ := h
  cases h1; cases h2; cases h3; cases h4; cases hw
  rfl

theorem orI_cons (x : Int) (xs : List Int) : orI (x :: xs) = if x = 0 then orI xs else x := by
  unfold orI
  by_cases h : x = 0
  · simp [h]
  · simp [h]

theorem cmpArc_zero {a b : ArcD} : cmpArc a b = 0 ↔ eqK a b := by
  unfold cmpArc eqK
  have e : orI [] = 0 := rfl
  simp only [orI_cons, e]
  have h1 := cmpI_zero a.src b.src
  have h2 := cmpI_zero a.inp b.inp
  have h3 := cmpI_zero a.out b.out
  have h4 := cmpI_zero a.dst b.dst
  rw [← h1, ← h2, ← h3, ← h4]
  generalize cmpI a.src b.src = p
  generalize cmpI a.inp b.inp = q
  generalize cmpI a.out b.out = r
  generalize cmpI a.dst b.dst = s
  split
  · split
    · split
      · split <;> simp [*]
      · simp [*]
    · simp [*]
  · simp [*]

theorem cmpArc_neg {a b : ArcD} : cmpArc a b < 0 ↔ aheadB a b = true := by
  have h := cmpArc_ahead a b
  cases hb : aheadB a b with
  | true => rw [hb] at h; simp at h; simp [h]
  | false => rw [hb] at h; simp at h; simp; omega

theorem cmpW_neg {a b : ArcD} : cmpW a b < 0 ↔ aheadB a b = true ∨ (eqK a b ∧ a.wt < b.wt) := by
  unfold cmpW
  have e : orI [] = 0 := rfl
  simp only [orI_cons, e]
  rw [← cmpArc_neg, ← cmpArc_zero, ← cmpI_neg a.wt b.wt]
  generalize cmpArc a b = p
  generalize cmpI a.wt b.wt = q
  split
  · split <;> omega
  · omega

theorem ahead_tri (a b : ArcD) : aheadB a b = true ∨ eqK a b ∨ aheadB b a = true := by
  rw [ahead_iff, ahead_iff]
  unfold eqK
  omega
theorem ahead_not {a b : ArcD} (h : aheadB a b = true) : ¬ eqK a b ∧ aheadB b a = false := by
  rw [ahead_iff] at h
  have : ¬ (aheadB b a = true) := by rw [ahead_iff]; omega
  unfold eqK
  exact ⟨by omega, by simpa using this⟩
theorem ahead_eq {a b c : ArcD} (h : aheadB a b = true) (k : eqK b c) : aheadB a c = true := by
  rw [ahead_iff] at h ⊢
  obtain ⟨k1, k2, k3, k4⟩ := k
  rw [← k1, ← k2, ← k3, ← k4]
  exact h
theorem eq_ahead {a b c : ArcD} (h : eqK a b) (k : aheadB b c = true) : aheadB a c = true := by
  rw [ahead_iff] at k ⊢
  obtain ⟨k1, k2, k3, k4⟩ := h
  rw [k1, k2, k3, k4]
  exact k

structure IsMin (r l : List ArcD) : Prop where
  ord : r.Pairwise (fun a b => aheadB a b = true)
  mem : ∀ a, a ∈ r ↔ a ∈ l ∧ ∀ b ∈ l, eqK a b → a.wt ≤ b.wt

theorem ord_ext {r r' : List ArcD} (h : r.Pairwise (fun a b => aheadB a b = true)) (h' : r'.Pairwise (fun a b => aheadB a b = true)) (hm : ∀ a, a ∈ r ↔ a ∈ r') : r = r' := by
  induction r generalizing r' with
  | nil =>
    cases r' with
    | nil => rfl
    | cons b r' => exact absurd ((hm b).2 (List.mem_cons_self ..)) (by simp)
  | cons a r ih =>
    cases r' with
    | nil => exact absurd ((hm a).1 (List.mem_cons_self ..)) (by simp)
    | cons b r' =>
      obtain ⟨h1, h2⟩ := List.pairwise_cons.1 h
      obtain ⟨h3, h4⟩ := List.pairwise_cons.1 h'
      have e : a = b := by
        rcases List.mem_cons.1 ((hm a).1 (List.mem_cons_self ..)) with e | e
        · exact e
        · rcases List.mem_cons.1 ((hm b).2 (List.mem_cons_self ..)) with e' | e'
          · exact e'.symm
          · have q1 := h3 a e
            have q2 := h1 b e'
            rw [(ahead_not q1).2] at q2
            exact absurd q2 (by decide)
      subst e
      have irr : ∀ c, c ∈ r ∨ c ∈ r' → c ≠ a := fun c hc e => by
        subst e
        rcases hc with hc | hc
        · have := h1 c hc; rw [ahead_irrefl] at this; exact absurd this (by decide)
        · have := h3 c hc; rw [ahead_irrefl] at this; exact absurd this (by decide)
      rw [ih h2 h4 fun c => ⟨fun hc => ?_, fun hc => ?_⟩]
      · rcases List.mem_cons.1 ((hm c).1 (List.mem_cons_of_mem _ hc)) with e | e
        · exact absurd e (irr c (Or.inl hc))
        · exact e
      · rcases List.mem_cons.1 ((hm c).2 (List.mem_cons_of_mem _ hc)) with e | e
        · exact absurd e (irr c (Or.inr hc))
        · exact e

theorem IsMin.unique {r r' l : List ArcD} (h : IsMin r l) (h' : IsMin r' l) : r = r' := ord_ext h.ord h'.ord fun a => (h.mem a).trans (h'.mem a).symm

/-- each arc has a least one of its kind -/
theorem min_ex (l : List ArcD) : ∀ b ∈ l, ∃ a ∈ l, eqK a b ∧ ∀ c ∈ l, eqK a c → a.wt ≤ c.wt := by
  induction l with
  | nil => intro b hb; cases hb
  | cons d l ih =>
    have key : ∀ b, (b = d ∨ b ∈ l) → ∃ a ∈ d :: l, eqK a b ∧ ∀ c ∈ d :: l, eqK a c → a.wt ≤ c.wt := by
      intro b hb
      by_cases hx : ∃ b' ∈ l, eqK b' b
      · obtain ⟨b', hb', he⟩ := hx
        obtain ⟨a, ha, h1, h2⟩ := ih b' hb'
        by_cases hd : eqK a d ∧ d.wt < a.wt
        · refine ⟨d, List.mem_cons_self .., hd.1.symm.trans (h1.trans he), fun c hc k => ?_⟩
          rcases List.mem_cons.1 hc with rfl | hc
          · exact Int.le_refl _
          · have := h2 c hc (hd.1.trans k); omega
        · refine ⟨a, List.mem_cons_of_mem _ ha, h1.trans he, fun c hc k => ?_⟩
          rcases List.mem_cons.1 hc with rfl | hc
          · exact Int.not_lt.1 fun hh => hd ⟨k, hh⟩
          · exact h2 c hc k
      · have hbd : b = d := by
          rcases hb with h | h
          · exact h
          · exact absurd ⟨b, h, eqK.refl b⟩ hx
        subst hbd
        refine ⟨b, List.mem_cons_self .., eqK.refl b, fun c hc k => ?_⟩
        rcases List.mem_cons.1 hc with rfl | hc
        · exact Int.le_refl _
        · exact absurd ⟨c, hc, k.symm⟩ hx
    exact fun b hb => key b (List.mem_cons.1 hb)

theorem IsMin.rep {r l : List ArcD} (h : IsMin r l) {b : ArcD} (hb : b ∈ l) : ∃ a ∈ r, eqK a b ∧ a.wt ≤ b.wt := by
  obtain ⟨a, ha, h1, h2⟩ := min_ex l b hb
  exact ⟨a, (h.mem a).2 ⟨ha, h2⟩, h1, h2 b hb h1⟩

/-- one more arc, put in its place -/
theorem IsMin.insert {r l : List ArcD} {x : ArcD} {k : Nat} (h : IsMin r l) (h1 : ∀ a ∈ r.take k, aheadB a x = true) (h2 : ∀ a ∈ r.drop k, aheadB x a = true) : IsMin (r.take k ++ x :: r.drop k) (l ++ [x]) := by
  have hno : ∀ b ∈ l, ¬ eqK x b := fun b hb he => by
    obtain ⟨a, ha, k1, _⟩ := h.rep hb
    have hax : eqK a x := k1.trans he.symm
    rw [← List.take_append_drop k r] at ha
    rcases List.mem_append.1 ha with ha | ha
    · exact (ahead_not (h1 a ha)).1 hax
    · exact (ahead_not (h2 a ha)).1 hax.symm
  have hord := h.ord
  rw [← List.take_append_drop k r, List.pairwise_append] at hord
  refine ⟨?_, fun a => ?_⟩
  · rw [List.pairwise_append]
    refine ⟨hord.1, List.pairwise_cons.2 ⟨h2, hord.2.1⟩, fun a ha b hb => ?_⟩
    rcases List.mem_cons.1 hb with rfl | hb
    · exact h1 a ha
    · exact hord.2.2 a ha b hb
  · have hm : a ∈ r.take k ++ x :: r.drop k ↔ a = x ∨ a ∈ r := by
      conv => rhs; rw [← List.take_append_drop k r]
      simp only [List.mem_append, List.mem_cons]
      constructor
      · rintro (q | q | q)
        · exact Or.inr (Or.inl q)
        · exact Or.inl q
        · exact Or.inr (Or.inr q)
      · rintro (q | q | q)
        · exact Or.inr (Or.inl q)
        · exact Or.inl q
        · exact Or.inr (Or.inr q)
    rw [hm, h.mem a]
    simp only [List.mem_append, List.mem_singleton]
    constructor
    · rintro (rfl | ⟨q1, q2⟩)
      · exact ⟨Or.inr rfl, fun b hb he => by
          rcases hb with hb | rfl
          · exact absurd he (hno b hb)
          · exact Int.le_refl _⟩
      · exact ⟨Or.inl q1, fun b hb he => by
          rcases hb with hb | rfl
          · exact q2 b hb he
          · exact absurd he.symm (hno a q1)⟩
    · rintro ⟨q1 | q1, q2⟩
      · exact Or.inr ⟨q1, fun b hb he => q2 b (Or.inl hb) he⟩
      · exact Or.inl q1

/-- one more arc, of a kind that is there -/
theorem IsMin.less {r l : List ArcD} {x y z : ArcD} {k : Nat} (h : IsMin r l) (hk : k < r.length) (hy : r.getD k a0 = y) (he : eqK y x) (hz : eqK z y) (hw : z.wt = if x.wt < y.wt then x.wt else y.wt) : IsMin (r.set k z) (l ++ [x]) := by
  have hym : y ∈ r := by rw [← hy]; simp [List.getD, hk]
  have hsp : r = r.take k ++ y :: r.drop (k + 1) := by
    conv => lhs; rw [← List.take_append_drop k r, List.drop_eq_getElem_cons hk]
    rw [← hy]
    simp [List.getD, hk]
  have hset : r.set k z = r.take k ++ z :: r.drop (k + 1) := by
    rw [List.set_eq_take_append_cons_drop, if_pos hk]
  have hord := h.ord
  rw [hsp, List.pairwise_append] at hord
  obtain ⟨o1, o2, o3⟩ := hord
  obtain ⟨o4, o5⟩ := List.pairwise_cons.1 o2
  have hyl := (h.mem y).1 hym
  have oth : ∀ a, a ∈ r.take k ∨ a ∈ r.drop (k + 1) → ¬ eqK a x := fun a ha q => by
    rcases ha with ha | ha
    · exact (ahead_not (o3 a ha y (List.mem_cons_self ..))).1 (q.trans he.symm)
    · exact (ahead_not (o4 a ha)).1 (he.trans q.symm)
  refine ⟨?_, fun a => ?_⟩
  · rw [hset, List.pairwise_append]
    refine ⟨o1, List.pairwise_cons.2 ⟨fun b hb => eq_ahead hz (o4 b hb), o5⟩, fun a ha b hb => ?_⟩
    rcases List.mem_cons.1 hb with rfl | hb
    · exact ahead_eq (o3 a ha y (List.mem_cons_self ..)) hz.symm
    · exact o3 a ha b (List.mem_cons_of_mem _ hb)
  · have hm : a ∈ r.set k z ↔ a = z ∨ (a ∈ r ∧ ¬ eqK a x) := by
      rw [hset]
      conv => rhs; rw [hsp]
      simp only [List.mem_append, List.mem_cons]
      constructor
      · rintro (q | q | q)
        · exact Or.inr ⟨Or.inl q, oth a (Or.inl q)⟩
        · exact Or.inl q
        · exact Or.inr ⟨Or.inr (Or.inr q), oth a (Or.inr q)⟩
      · rintro (q | ⟨q | q | q, q'⟩)
        · exact Or.inr (Or.inl q)
        · exact Or.inl q
        · exact absurd (q ▸ he) q'
        · exact Or.inr (Or.inr q)
    rw [hm, h.mem a]
    simp only [List.mem_append, List.mem_singleton]
    constructor
    · rintro (rfl | ⟨⟨q1, q2⟩, q3⟩)
      · by_cases hlt : x.wt < y.wt
        · rw [if_pos hlt] at hw
          have ex : a = x := (hz.trans he).one hw
          exact ⟨Or.inr ex, fun b hb q => by
            rcases hb with hb | rfl
            · have := hyl.2 b hb (hz.symm.trans q); omega
            · omega⟩
        · rw [if_neg hlt] at hw
          have ey : a = y := hz.one hw
          exact ⟨Or.inl (ey ▸ hyl.1), fun b hb q => by
            rcases hb with hb | rfl
            · have := hyl.2 b hb (hz.symm.trans q); omega
            · omega⟩
      · exact ⟨Or.inl q1, fun b hb q => by
          rcases hb with hb | rfl
          · exact q2 b hb q
          · exact absurd q q3⟩
    · rintro ⟨q1, q2⟩
      by_cases hax : eqK a x
      · left
        have hay : eqK a y := hax.trans he.symm
        have g1 := q2 x (Or.inr rfl) hax
        have g2 := q2 y (Or.inl hyl.1) hay
        refine (hay.trans hz.symm).one ?_
        rcases q1 with q1 | q1
        · have g3 := hyl.2 a q1 hay.symm
          rw [hw]; split <;> omega
        · rw [q1] at g2 ⊢
          rw [hw]; split <;> omega
      · right
        rcases q1 with q1 | q1
        · exact ⟨⟨q1, fun b hb q => q2 b (Or.inl hb) q⟩, hax⟩
        · exact absurd (q1 ▸ eqK.refl x) hax

/-- what stays of a sorted row -/
theorem kepL_min {s : List ArcD} (hs : s.Pairwise (fun a b => ¬ cmpW b a < 0)) : ∀ k, k ≤ s.length → IsMin (kepL s k) (s.take k) := by
  have le : ∀ i j, i < j → j < s.length → aheadB (s.getD i a0) (s.getD j a0) = true ∨ (eqK (s.getD i a0) (s.getD j a0) ∧ (s.getD i a0).wt ≤ (s.getD j a0).wt) := by
    intro i j hij hj
    have h := (List.pairwise_iff_getElem.1 hs) i j (by omega) hj hij
    have e1 : s.getD i a0 = s[i]'(by omega) := by simp [List.getD, show i < s.length by omega]
    have e2 : s.getD j a0 = s[j] := by simp [List.getD, hj]
    rw [← e1, ← e2, cmpW_neg] at h
    rcases ahead_tri (s.getD i a0) (s.getD j a0) with q | q | q
    · exact Or.inl q
    · exact Or.inr ⟨q, Int.not_lt.1 fun hh => h (Or.inr ⟨q.symm, hh⟩)⟩
    · exact absurd (Or.inl q) h
  intro k
  induction k with
  | zero => intro _; exact ⟨List.Pairwise.nil, fun a => by simp [kepL]⟩
  | succ k ih =>
    intro hk
    have h := ih (by omega)
    obtain ⟨x, hx⟩ : ∃ x, x = s.getD k a0 := ⟨_, rfl⟩
    have htk : s.take (k + 1) = s.take k ++ [x] := by rw [hx, List.take_add_one]; simp [List.getD, show k < s.length by omega]
    have hmem : ∀ b ∈ s.take k, ∃ i, i < k ∧ b = s.getD i a0 := fun b hb => by
      obtain ⟨i, hi, rfl⟩ := List.getElem_of_mem hb
      rw [List.length_take] at hi
      exact ⟨i, by omega, by simp [List.getD, show i < s.length by omega]⟩
    by_cases h0 : k = 0
    · subst h0
      rw [htk]
      have : kepL s 1 = [x] := by rw [hx]; rfl
      rw [this]
      refine ⟨List.pairwise_singleton _ _, fun a => ?_⟩
      simp only [List.take_zero, List.nil_append, List.mem_singleton]
      constructor
      · rintro rfl; exact ⟨rfl, fun b hb _ => by rw [hb]; exact Int.le_refl _⟩
      · exact fun q => q.1
    · by_cases hc : cmpArc (s.getD k a0) (s.getD (k - 1) a0) = 0
      · rw [kepL_skip (by omega) hc, htk]
        rw [cmpArc_zero, ← hx] at hc
        have hyx := le (k - 1) k (by omega) (by omega)
        rw [← hx] at hyx
        obtain ⟨y, hy⟩ : ∃ y, y = s.getD (k - 1) a0 := ⟨_, rfl⟩
        rw [← hy] at hc hyx
        have hyw : y.wt ≤ x.wt := by
          rcases hyx with q | q
          · exact absurd hc.symm (ahead_not q).1
          · exact q.2
        have hym : y ∈ s.take k := by
          rw [hy]
          have : k - 1 < (s.take k).length := by rw [List.length_take]; omega
          have e : s.getD (k - 1) a0 = (s.take k)[k - 1] := by simp [List.getD, show k - 1 < s.length by omega]
          rw [e]
          exact List.getElem_mem _
        refine ⟨h.ord, fun a => ?_⟩
        rw [h.mem a]
        simp only [List.mem_append, List.mem_singleton]
        constructor
        · rintro ⟨q1, q2⟩
          exact ⟨Or.inl q1, fun b hb q => by
            rcases hb with hb | rfl
            · exact q2 b hb q
            · have := q2 y hym (q.trans hc); omega⟩
        · rintro ⟨q1 | q1, q2⟩
          · exact ⟨q1, fun b hb q => q2 b (Or.inl hb) q⟩
          · subst q1
            have g := q2 y (Or.inl hym) hc
            have e : a = y := hc.one (by omega)
            exact ⟨e ▸ hym, fun b hb q => q2 b (Or.inl hb) q⟩
      · rw [kepL_keep hc, htk, ← hx]
        rw [cmpArc_zero] at hc
        have hah : ∀ b ∈ s.take k, aheadB b x = true := fun b hb => by
          obtain ⟨i, hi, rfl⟩ := hmem b hb
          have hyx : aheadB (s.getD (k - 1) a0) x = true := by
            rcases le (k - 1) k (by omega) (by omega) with q | q
            · rw [hx]; exact q
            · exact absurd q.1.symm hc
          by_cases e : i = k - 1
          · rw [e]; exact hyx
          · rcases le i (k - 1) (by omega) (by omega) with q | q
            · exact ahead_trans q hyx
            · exact eq_ahead q.1 hyx
        have := h.insert (x := x) (k := (kepL s k).length) (fun a ha => hah a ((h.mem a).1 (List.mem_of_mem_take ha)).1) (fun a ha => by simp at ha)
        rw [List.take_length, List.drop_length] at this
        exact this

theorem IsMin.perm {r l l' : List ArcD} (h : IsMin r l) (hp : ∀ a, a ∈ l ↔ a ∈ l') : IsMin r l' :=
  ⟨h.ord, fun a => by rw [h.mem a, hp a]; exact and_congr_right fun _ => ⟨fun q b hb => q b ((hp b).2 hb), fun q b hb => q b ((hp b).1 hb)⟩⟩
end Go.Proofs.Yteehgcbjmdideaa

/- 'order.Least': the arcs in their order, of those that differ in nothing but the weight the least one. -/
namespace Go.Proofs.Yteehgcbjmdideaa
open Go.RowKit Go.Sort
attribute [local go_sem ↓] Go.wp_at_zero Go.wp_at_succ

theorem ltW {a b : ArcD} : ltOf cmpW a b = true ↔ aheadB a b = true ∨ (eqK a b ∧ a.wt < b.wt) := by
  unfold ltOf
  rw [decide_eq_true_iff]
  exact cmpW_neg

theorem ltW_not {a b : ArcD} : ltOf cmpW a b = false ↔ aheadB b a = true ∨ (eqK b a ∧ b.wt ≤ a.wt) := by
  rw [← Bool.not_eq_true, ltW]
  constructor
  · intro h
    rcases ahead_tri a b with q | q | q
    · exact absurd (Or.inl q) h
    · exact Or.inr ⟨q.symm, Int.not_lt.1 fun hh => h (Or.inr ⟨q, hh⟩)⟩
    · exact Or.inl q
  · rintro (q | ⟨q, q'⟩) (k | ⟨k, k'⟩)
    · rw [(ahead_not q).2] at k; exact absurd k (by decide)
    · exact (ahead_not q).1 k.symm
    · exact (ahead_not k).1 q.symm
    · omega

theorem swoW : SWO (ltOf cmpW) where
  irrefl x := ltW_not.2 (Or.inr ⟨eqK.refl x, Int.le_refl _⟩)
  trans x y z h1 h2 := by
    rw [ltW] at *
    rcases h1 with q | ⟨q, q'⟩
    · rcases h2 with k | ⟨k, k'⟩
      · exact Or.inl (ahead_trans q k)
      · exact Or.inl (ahead_eq q k)
    · rcases h2 with k | ⟨k, k'⟩
      · exact Or.inl (eq_ahead q k)
      · exact Or.inr ⟨q.trans k, by omega⟩
  ntrans x y z h1 h2 := by
    rw [ltW_not] at *
    rcases h2 with q | ⟨q, q'⟩
    · rcases h1 with k | ⟨k, k'⟩
      · exact Or.inl (ahead_trans q k)
      · exact Or.inl (ahead_eq q k)
    · rcases h1 with k | ⟨k, k'⟩
      · exact Or.inl (eq_ahead q k)
      · exact Or.inr ⟨q.trans k, by omega⟩

/-- sorted -/
def sortL (l : List ArcD) : List ArcD := l.mergeSort fun x y => !(ltOf cmpW) y x
/-- of those that differ in nothing but the weight the least one -/
def leastL (l : List ArcD) : List ArcD := kepL (sortL l) (sortL l).length

theorem sortL_len (l : List ArcD) : (sortL l).length = l.length := by unfold sortL; exact List.length_mergeSort l
theorem sortL_mem (l : List ArcD) (a : ArcD) : a ∈ sortL l ↔ a ∈ l := (List.mergeSort_perm l _).mem_iff
theorem sortL_ord (l : List ArcD) : (sortL l).Pairwise (fun a b => ¬ cmpW b a < 0) := by
  have h := List.pairwise_mergeSort (le := fun x y => !(ltOf cmpW) y x) (fun a b c h1 h2 => by
    simp only [Bool.not_eq_true'] at *
    exact swoW.ntrans c b a h2 h1) (fun a b => by
    simp only [Bool.or_eq_true, Bool.not_eq_true']
    rw [ltW_not, ltW_not]
    rcases ahead_tri a b with q | q | q
    · exact Or.inl (Or.inl q)
    · rcases Int.le_total a.wt b.wt with k | k
      · exact Or.inl (Or.inr ⟨q, k⟩)
      · exact Or.inr (Or.inr ⟨q.symm, k⟩)
    · exact Or.inr (Or.inl q)) l
  refine h.imp fun {a b} hab hlt => ?_
  simp only [Bool.not_eq_true'] at hab
  unfold ltOf at hab
  rw [decide_eq_false_iff_not] at hab
  exact hab hlt

theorem leastL_min (l : List ArcD) : IsMin (leastL l) l := by
  have h := kepL_min (sortL_ord l) _ (Nat.le_refl _)
  rw [List.take_length] at h
  exact h.perm (sortL_mem l)

theorem gL1 : ∀ args w, (callFunc 110 args).run Try.prog w = .ok (.enter 110 args) w := enters_of Try.func110 (by kernel_rfl) rfl

theorem sortArcs_any (l : List ArcD) (g n cap : Nat) (w : World) (hr : ARow w g n l) (hn0 : 0 < n) (hn : n ≤ 100000) :
    Calls Try.prog 109 #[.slice (some ⟨g, 0, none⟩) n cap, .func (.func 110) #[] #[]] w fun e w' =>
      e = .returned (.tuple #[]) ∧ ARow w' g n (sortL l) ∧ Apart g w w' := by
  letI : Inhabited ArcD := ⟨a0⟩
  have hlen := hr.len
  have hget : ∀ (xs : List ArcD) i, i < xs.length → xs.toArray[i]! = xs.getD i a0 := fun xs i hi => by
    simp [List.getD, hi]
  have hH : HoldsK arcCells 5 w g 0 l.toArray := fun j hj => by
    rw [size_flatK] at hj
    have hj' : j < l.length * 5 := hj
    rw [get_flatK _ _ _ _ hj, hget l _ (by omega), Nat.zero_add]
    refine ⟨?_, hr.frz j (by omega)⟩
    have := hr.cell (j / 5) (j % 5) (by omega) (by omega)
    rw [show j / 5 * 5 + j % 5 = j by omega] at this
    rw [this]
    have hm : j % 5 < 5 := by omega
    generalize j % 5 = r at hm ⊢
    match r, hm with
    | 0, _ => rfl
    | 1, _ => rfl
    | 2, _ => rfl
    | 3, _ => rfl
    | 4, _ => rfl
  have hcmp : CmpLays Try.prog 110 #[] arcCells 5 cmpW g 0 l.toArray.size w := fun m os dk _ x y =>
    (least1_gr x y _).mono fun e w' ⟨he, q, os', hw⟩ => ⟨he, q, os', hw⟩
  have hcon := AnyQ.slices_SortFunc_total Try.sortArc 5 Try.isAgg63 Try.sizeOf63 arcCells (fun _ => rfl) oneCell_arc cmpW swoW 110 #[] g 0 cap l.toArray w gL1 hcmp hH (hr.lt hn0) (by show l.length < _; omega) (fun x y h1 h2 => by
    rw [ltW_not] at h1 h2
    rcases h1 with q | ⟨q, q'⟩
    · rcases h2 with k | ⟨k, k'⟩
      · rw [(ahead_not q).2] at k; exact absurd k (by decide)
      · exact absurd k.symm (ahead_not q).1
    · rcases h2 with k | ⟨k, k'⟩
      · exact absurd q.symm (ahead_not k).1
      · exact k.one (by omega))
  have hsz : l.toArray.size = n := hlen
  rw [hsz] at hcon
  refine hcon.mono fun e w' ⟨he, m, os, hw⟩ => ⟨he, ?_, ?_⟩
  · have hs : (sortL l).toArray.size = l.toArray.size := sortL_len l
    have hh := holdsK_sortWorldK_c arcCells 5 w g 0 l.toArray (sortL l).toArray m os hH (hr.lt hn0) hs
    have hw' : w' = sortWorldK arcCells 5 w g 0 m (sortL l).toArray os := hw
    rw [← hw'] at hh
    have hl2 : (sortL l).length = n := (sortL_len l).trans hlen
    have key : ∀ j, j < n * 5 → w'.cell? ⟨g, j, none⟩ = (arcCells ((sortL l).getD (j / 5) a0))[j % 5]? ∧ w'.frozen? ⟨g, j, none⟩ = false := fun j hj => by
      have hj' : j < (sortL l).toArray.size * 5 := by show j < (sortL l).length * 5; omega
      have := hh j (by rw [size_flatK]; exact hj')
      rw [get_flatK _ _ _ _ hj', hget (sortL l) _ (by omega), Nat.zero_add] at this
      refine ⟨?_, this.2⟩
      rw [this.1]
      have hm : j % 5 < 5 := by omega
      generalize j % 5 = r at hm ⊢
      match r, hm with
      | 0, _ => rfl
      | 1, _ => rfl
      | 2, _ => rfl
      | 3, _ => rfl
      | 4, _ => rfl
    exact ⟨hl2, fun i j hi hj => by
      have := (key (i * 5 + j) (by omega)).1
      rw [show (i * 5 + j) / 5 = i by omega, show (i * 5 + j) % 5 = j by omega] at this
      exact this, fun i hi => (key i hi).2⟩
  · rw [hw]
    refine ⟨rfl, rfl, rfl, ?_, fun k hk hne => ?_⟩
    · exact size_sortWorldK_c arcCells 5 w g 0 m _ os
    · unfold sortWorldK
      have hkg : g ≠ k := fun e => hne (by rw [e])
      rw [heap_grow_old _ _ (by rw [size_putRowK]; exact hk)]
      show (w.heap.modify g _)[k]? = w.heap[k]?
      rw [Array.getElem?_modify, if_neg hkg]

set_option maxHeartbeats 1000000 in
theorem sort_none (p : Option Addr) (cap : Nat) (fv : Value) (w : World) : Calls Try.prog 109 #[.slice p 0 cap, fv] w fun e w' => e = .returned (.tuple #[]) ∧ w' = w :=
  AnyF.slices_SortFunc_none Try.sortArc p cap fv w
end Go.Proofs.Yteehgcbjmdideaa

/- 'order.Least', whatever arcs it is handed. -/
namespace Go.Proofs.Yteehgcbjmdideaa
open Go.RowKit
attribute [local go_sem ↓] Go.wp_at_zero Go.wp_at_succ

set_option maxHeartbeats 1000000 in
theorem compact_small (p : Option Addr) (n cap : Nat) (fv : Value) (w : World) (hn : n < 2) : Calls Try.prog 114 #[.slice p n cap, fv] w fun e w' => e = .returned (.slice p n cap) ∧ w' = w := by
  have hi : (n : Int) < 2 := by omega
  go_enter Try.func114, Try.ntmps114
  go_wp2
  go_ret
  exact ⟨rfl, rfl⟩

theorem own_some {w : World} {B e size n : Nat} {v : Value} {xs : List Value} (h : w.ownsRow B e size v n xs) (hne : v ≠ .slice none 0 0) : ∃ g cap, v = .slice (some ⟨g, 0, none⟩) n cap ∧ B ≤ g := by
  rcases h.2 with ⟨h, _⟩ | ⟨g, cap, cur, he, hB, _⟩
  · exact absurd h hne
  · exact ⟨g, cap, he, hB⟩

/-- arcs in a block of their own from B on (or none) -/
def AFrom (B : Nat) (w : World) (v : Value) (ars : List ArcD) : Prop :=
  (∃ a cap, v = .slice a 0 cap ∧ ars = []) ∨ ∃ g n cap, B ≤ g ∧ v = .slice (some ⟨g, 0, none⟩) n cap ∧ ArcsAt w g 0 n ars ∧ n ≤ maxLen
theorem AFrom.slice {B : Nat} {w : World} {v : Value} {ars : List ArcD} (h : AFrom B w v ars) : ASlice w v ars := by
  rcases h with h | ⟨g, n, cap, _, h1, h2, h3⟩
  · exact Or.inl h
  · exact Or.inr ⟨g, 0, n, cap, h1, h2, h3⟩
theorem AFrom.mk {B g j c : Nat} {w : World} {ars : List ArcD} (h : ASlice w (.slice (some ⟨g, 0, none⟩) j c) ars) (hg : B ≤ g) : AFrom B w (.slice (some ⟨g, 0, none⟩) j c) ars := by
  rcases h with ⟨a, cap, he, h⟩ | ⟨b, off, n, cap, he, h2, h3⟩
  · injection he with h1 h2 h3
    subst h2
    exact Or.inl ⟨_, _, rfl, h⟩
  · cases he
    exact Or.inr ⟨_, _, _, hg, rfl, h2, h3⟩
theorem AFrom.mono {B B' : Nat} {w : World} {v : Value} {ars : List ArcD} (h : AFrom B w v ars) (hB : B' ≤ B) : AFrom B' w v ars := by
  rcases h with h | ⟨g, n, cap, h0, h1, h2, h3⟩
  · exact Or.inl h
  · exact Or.inr ⟨g, n, cap, Nat.le_trans hB h0, h1, h2, h3⟩
theorem AFrom.below {B : Nat} {w w' : World} {v : Value} {ars : List ArcD} (h : AFrom B w v ars) (hb : Below w.heap.size w w') : AFrom B w' v ars := by
  rcases h with h | ⟨g, n, cap, h0, h1, h2, h3⟩
  · exact Or.inl h
  · exact Or.inr ⟨g, n, cap, h0, h1, h2.below hb, h3⟩
theorem AFrom.set {B P i : Nat} {w : World} {v u : Value} {ars : List ArcD} (h : AFrom B w v ars) (hP : P < B) : AFrom B (w.setCell ⟨P, i, none⟩ u) v ars := by
  rcases h with h | ⟨g, n, cap, h0, h1, h2, h3⟩
  · exact Or.inl h
  · have e : g ≠ P := by omega
    exact Or.inr ⟨g, n, cap, h0, h1, ⟨h2.len, fun i hi => by rw [set_far e]; exact h2.c0 i hi, fun i hi => by rw [set_far e]; exact h2.c1 i hi, fun i hi => by rw [set_far e]; exact h2.c2 i hi, fun i hi => by rw [set_far e]; exact h2.c3 i hi, fun i hi => by rw [set_far e]; exact h2.c4 i hi⟩, h3⟩

theorem leastL_nil : leastL [] = [] := by
  have := sortL_len []
  have e : sortL [] = [] := List.length_eq_zero_iff.1 this
  unfold leastL
  rw [e]
  rfl

theorem least_len (l : List ArcD) : (leastL l).length ≤ l.length := by
  have := kepL_le (l := sortL l) (k := (sortL l).length)
  rw [sortL_len] at this
  unfold leastL
  rw [sortL_len]
  exact this

/-- sorted, then the row is gone through -/
theorem compact_row (l : List ArcD) (g n cap : Nat) (w : World) (hr : ARow w g n (sortL l)) (hn0 : 0 < n) (hn : n ≤ 100000) (hcap : n ≤ cap) :
    Calls Try.prog 114 #[.slice (some ⟨g, 0, none⟩) n cap, .func (.func 115) #[] #[]] w fun e w' =>
      ∃ j c, e = .returned (.slice (some ⟨g, 0, none⟩) j c) ∧ ASlice w' (.slice (some ⟨g, 0, none⟩) j c) (leastL l) ∧ Apart g w w' := by
  have hl : (sortL l).length = n := hr.len
  by_cases h2 : 2 ≤ n
  · refine (compact_any (sortL l) g n cap w hr h2 hn hcap).mono ?_
    rintro e w' ⟨j, c, rfl, hv, hap⟩
    refine ⟨j, c, rfl, ?_, hap⟩
    unfold leastL
    rw [hl]
    exact hv
  · refine (compact_small _ n cap _ w (by omega)).mono ?_
    rintro e w' ⟨rfl, hw⟩
    rw [hw]
    refine ⟨_, _, rfl, ?_, Apart.self w⟩
    have h1 : n = 1 := by omega
    subst h1
    unfold leastL
    rw [hl, take_one (by omega)]
    exact hr.slice 1 (Nat.le_refl _) (by decide)

set_option maxHeartbeats 2000000 in
theorem least_some (ars : List ArcD) (b off n c : Nat) (w : World) (hx : ArcsAt w b off n ars) (hn0 : 0 < n) (hn : n ≤ 100000) :
    Calls Try.prog 78 #[.slice (some ⟨b, off, none⟩) n c] w fun e w' => ∃ v, e = .returned v ∧ AFrom w.heap.size w' v (leastL ars) ∧ Below w.heap.size w w' := by
  have hcl := cloneA_some ars b off n c w hx hn
  clear hx
  go_enter Try.func78, Try.ntmps78
  go_wp2_with (go_at_call 108; refine hcl.mono ?_; rintro e w1 ⟨v, rfl, hown, hne, hb⟩; obtain ⟨g, cap, hv, hg⟩ : ∃ g cap, v = .slice (some ⟨g, 0, none⟩) n cap ∧ w.heap.size ≤ g := own_some hown hne; subst hv; obtain ⟨hrow, hcap⟩ := ARow.of hown; have hsort := sortArcs_any ars g n cap w1 hrow hn0 hn; have hsz := hb.size; clear hown hne)
  go_wp2_with (go_at_call 109; refine hsort.mono ?_; rintro e w2 ⟨rfl, hrow2, hap⟩; have hcom := compact_row ars g n cap w2 hrow2 hn0 hn hcap; have hb2 : Below w.heap.size w w2 := hb.trans (hap.below hg hsz); have hsz2 := hb2.size; clear hsort hrow hrow2)
  go_wp2_with (go_at_call 114; refine hcom.mono ?_; rintro e w3 ⟨j, c', rfl, hv, hap3⟩; have hb3 : Below w.heap.size w w3 := hb2.trans (hap3.below hg hsz2))
  go_ret
  exact ⟨_, rfl, AFrom.mk hv hg, hb3⟩

set_option maxHeartbeats 2000000 in
theorem least_zero (p : Option Addr) (c : Nat) (w : World) :
    Calls Try.prog 78 #[.slice p 0 c] w fun e w' => ∃ v, e = .returned v ∧ AFrom w.heap.size w' v [] ∧ Below w.heap.size w w' := by
  have hcl : Calls Try.prog 108 #[.slice p 0 c] w fun e w' => (∃ a cap, e = .returned (.slice a 0 cap)) ∧ Below w.heap.size w w' := by
    cases p with
    | none =>
      refine (cloneA_nil 0 c w).mono ?_
      rintro e w' ⟨rfl, hw⟩
      rw [hw]
      exact ⟨⟨_, _, rfl⟩, bel_self w⟩
    | some ad => exact cloneA_zero ad c w
  go_enter Try.func78, Try.ntmps78
  go_wp2_with (first | (go_at_call 108; refine hcl.mono ?_; rintro e w1 ⟨⟨a, cap, rfl⟩, hb⟩) | (go_at_call 109; refine (sort_none _ _ _ _).mono ?_; rintro e w2 ⟨rfl, hw2⟩; subst hw2) | (go_at_call 114; refine (compact_small _ 0 _ _ _ (by omega)).mono ?_; rintro e w3 ⟨rfl, hw3⟩; subst hw3))
  go_ret
  exact ⟨_, rfl, Or.inl ⟨_, _, rfl, rfl⟩, hb⟩

theorem least_any (ars : List ArcD) (v : Value) (w : World) (ha : ASlice w v ars) (hl : ars.length ≤ 100000) :
    Calls Try.prog 78 #[v] w fun e w' => ∃ v', e = .returned v' ∧ AFrom w.heap.size w' v' (leastL ars) ∧ Below w.heap.size w w' := by
  rcases ha with ⟨a, cap, rfl, rfl⟩ | ⟨b, off, n, cap, rfl, hx, _⟩
  · rw [leastL_nil]
    exact least_zero a cap w
  · have hlen := hx.len
    by_cases h0 : n = 0
    · subst h0
      have : ars = [] := List.length_eq_zero_iff.1 hlen
      subst this
      rw [leastL_nil]
      exact least_zero _ cap w
    · exact least_some ars b off n cap w hx (by omega) (by omega)
end Go.Proofs.Yteehgcbjmdideaa
