/- A line's words: what the document's second writing makes of them is what the first one makes of the line. -/
import Derived.Test.YteehgcbjmdideaaDoorUndig
namespace Go.Proofs.YteehgcbjmdideaaDoor

theorem split_head (c : UInt8) (l : List UInt8) : ∃ h t, splitOn c l = h :: t ∧ h <+: l := by
  induction l with
  | nil => exact ⟨[], [], rfl, List.nil_prefix⟩
  | cons x l ih =>
    obtain ⟨h, t, e, hp⟩ := ih
    rw [splitOn]
    by_cases hx : x = c
    · rw [if_pos hx]; exact ⟨[], _, rfl, List.nil_prefix⟩
    · rw [if_neg hx, e]; exact ⟨x :: h, t, rfl, by simpa using hp⟩

theorem split_head_pre (c : UInt8) (p l : List UInt8) (hp : c ∉ p) (h : p <+: l) : ∃ a t, splitOn c l = a :: t ∧ p <+: a := by
  induction p generalizing l with
  | nil => obtain ⟨a, t, e, _⟩ := split_head c l; exact ⟨a, t, e, List.nil_prefix⟩
  | cons y p ih =>
    cases l with
    | nil => simp at h
    | cons x l =>
      obtain ⟨rfl, h'⟩ := by simpa using h
      have hy : ¬ y = c := fun e => hp (by simp [e])
      obtain ⟨a, t, e, ha⟩ := ih l (fun e => hp (by simp [e])) h'
      rw [splitOn, if_neg hy, e]
      exact ⟨y :: a, t, rfl, by simpa using ha⟩

/-- what a line's words make of what was read so far, behind the first line -/
def stepW (f : FstD) (last : Int) (ws : List (List UInt8)) : Option (FstD × Int) :=
  if ws.headD [] = bFinal then (match numsB ws.tail with
    | some [x, y] => if f.arcs = [] ∧ last < x ∧ x < f.states then some (⟨f.states, f.start, f.final.set x.toNat y, f.arcs⟩, x) else none
    | _ => none)
  else match numsB ws with
    | some [a, b, c, d, e] => some (⟨f.states, f.start, f.final, f.arcs ++ [⟨a, b, c, d, e⟩]⟩, last)
    | _ => none

theorem numsB_two (b c : List UInt8) : numsB [b, c] = match numB b, numB c with | some x, some y => some [x, y] | _, _ => none := by
  unfold numsB
  cases hb : numB b <;> cases hc : numB c <;> simp [List.mapM_cons, hb, hc]

theorem numB_f (a : List UInt8) (h : bFinal <+: a) : numB a = none := by
  obtain ⟨t, rfl⟩ := h
  exact numB_bad _ (Or.inr (Or.inr (Or.inl ⟨102, by simp [bFinal], by decide⟩)))

theorem stepW_eq (f : FstD) (last : Int) (l : List UInt8) (h0 : f.states ≠ 0) : stepL f last l = stepW f last (splitOn 32 l) := by
  unfold stepL stepW
  rw [if_neg h0]
  by_cases hp : Lib.hasPrefix l bFinal = true
  · have hpre : bFinal <+: l := by simpa [Lib.hasPrefix, List.isPrefixOf_iff_prefix] using hp
    obtain ⟨a, t, e, ha⟩ := split_head_pre 32 bFinal l (by decide) hpre
    rw [if_pos hp]
    unfold stepFinal
    rw [e]
    by_cases hA : a = bFinal
    · rw [if_pos (show (a :: t).headD [] = bFinal from hA), List.tail_cons]
      rcases t with _ | ⟨b, _ | ⟨c, _ | ⟨d, t⟩⟩⟩
      · rfl
      · have h : ∀ x y, numsB [b] ≠ some [x, y] := fun x y h => by have := numsB_length _ _ h; simp at this
        cases hn : numsB [b] with
        | none => rfl
        | some ns => rcases ns with _ | ⟨x, _ | ⟨y, _ | ⟨z, r⟩⟩⟩ <;> first | rfl | exact absurd hn (h x y)
      · rw [numsB_two]
        cases hb : numB b with
        | none => simp [hb]
        | some x =>
          cases hc : numB c with
          | none => simp [hb, hc]
          | some y =>
            have hx := (numB_back b x hb).2.1
            by_cases hr : f.arcs = []
            · by_cases hl : last < x
              · by_cases hs : x < f.states
                · have : x ≤ f.states - 1 := by omega
                  simp [hA, hb, hc, hr, hl, inB, hx, hs, this]
                · have : ¬ x ≤ f.states - 1 := by omega
                  simp [hb, hc, hs, inB, this]
              · simp [hb, hc, hl]
            · have : 0 < f.arcs.length := List.length_pos_iff.2 hr
              simp [hr, this]
      · have h : ∀ x y, numsB (b :: c :: d :: t) ≠ some [x, y] := fun x y h => by have := numsB_length _ _ h; simp at this
        cases hn : numsB (b :: c :: d :: t) with
        | none => rfl
        | some ns => rcases ns with _ | ⟨x, _ | ⟨y, _ | ⟨z, r⟩⟩⟩ <;> first | rfl | exact absurd hn (h x y)
    · rw [if_neg (show ¬ (a :: t).headD [] = bFinal from hA), numsB_none (a :: t) a (by simp) (numB_f a ha)]
      rcases t with _ | ⟨b, _ | ⟨c, _ | ⟨d, t⟩⟩⟩ <;> simp [hA]
  · rw [if_neg hp]
    obtain ⟨a, t, e, ha⟩ := split_head 32 l
    have hA : ¬ (splitOn 32 l).headD [] = bFinal := by
      rw [e]; simp only [List.headD_cons]
      rintro rfl
      exact hp (by simpa [Lib.hasPrefix, List.isPrefixOf_iff_prefix] using ha)
    rw [if_neg hA]
    unfold stepArc
    unfold numsB
    generalize (splitOn 32 l).mapM numB = q
    rcases q with _ | ns
    · rfl
    · rcases ns with _ | ⟨a, _ | ⟨b, _ | ⟨c, _ | ⟨d, _ | ⟨e, _ | ⟨g, r⟩⟩⟩⟩⟩⟩ <;> rfl

end Go.Proofs.YteehgcbjmdideaaDoor
