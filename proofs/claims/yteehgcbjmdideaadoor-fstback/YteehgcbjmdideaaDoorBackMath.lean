/- What is printed is read as it was, and nothing else is: on lists of bytes. -/
import Derived.Test.YteehgcbjmdideaaDoorParMath
namespace Go.Proofs.YteehgcbjmdideaaDoor

theorem ofNat_toNat (n : Nat) (h : n < 256) : (UInt8.ofNat n).toNat = n := by
  rw [UInt8.toNat_ofNat']; omega

theorem dec_small {u : Nat} (h : u < 10) : Lib.decDigits u = [UInt8.ofNat (48 + u)] := by rw [Lib.decDigits, dif_pos h]
theorem dec_big {u : Nat} (h : ¬ u < 10) : Lib.decDigits u = Lib.decDigits (u / 10) ++ [UInt8.ofNat (48 + u % 10)] := by rw [Lib.decDigits, dif_neg h]

theorem digB_of (n : Nat) (h : n < 10) : digB (UInt8.ofNat (48 + n)) = true := by
  unfold digB; rw [ofNat_toNat _ (by omega)]; simp; omega

theorem dec_digB (u : Nat) : ∀ c ∈ Lib.decDigits u, digB c = true := by
  induction u using Nat.strongRecOn with
  | _ u ih =>
    intro c hc
    by_cases h : u < 10
    · rw [dec_small h] at hc
      rw [List.mem_singleton.1 hc]; exact digB_of u h
    · rw [dec_big h] at hc
      rcases List.mem_append.1 hc with hc | hc
      · exact ih (u / 10) (by omega) c hc
      · rw [List.mem_singleton.1 hc]; exact digB_of _ (by omega)

theorem valB_one (c : UInt8) : valB [c] = (c.toNat : Int) - 48 := by simp [valB]

theorem dec_valB (u : Nat) : valB (Lib.decDigits u) = u := by
  induction u using Nat.strongRecOn with
  | _ u ih =>
    by_cases h : u < 10
    · rw [dec_small h, valB_one, ofNat_toNat _ (by omega)]; omega
    · rw [dec_big h, valB_snoc, ih (u / 10) (by omega), ofNat_toNat _ (by omega)]; omega

theorem dec_ne (u : Nat) : Lib.decDigits u ≠ [] := by
  by_cases h : u < 10
  · rw [dec_small h]; simp
  · rw [dec_big h]; simp

theorem dec_first (u : Nat) (h : 1 ≤ u) : (Lib.decDigits u).getD 0 0 ≠ 48 := by
  induction u using Nat.strongRecOn with
  | _ u ih =>
    by_cases h10 : u < 10
    · rw [dec_small h10]
      intro e
      have e' : (UInt8.ofNat (48 + u)).toNat = 48 := by
        have : UInt8.ofNat (48 + u) = 48 := by simpa using e
        rw [this]; rfl
      rw [ofNat_toNat _ (by omega)] at e'; omega
    · rw [dec_big h10]
      have := ih (u / 10) (by omega) (by omega)
      cases hd : Lib.decDigits (u / 10) with
      | nil => exact absurd hd (dec_ne _)
      | cons x l => rw [hd] at this; simpa using this

theorem nDigits_lt10 (u : Nat) (h : u < 10000000000) : Lib.nDigits u ≤ 10 := by
  by_cases h0 : u < 10
  · rw [Lib.nDigits_small h0]; omega
  · by_cases h1 : Lib.nDigits u ≤ 10
    · exact h1
    · exfalso
      have key : ∀ k v, Lib.nDigits v ≥ k + 1 → 10 ^ k ≤ v ∨ k = 0 := by
        intro k
        induction k with
        | zero => intro v _; exact Or.inr rfl
        | succ k ih =>
          intro v hv
          left
          by_cases hv10 : v < 10
          · rw [Lib.nDigits_small hv10] at hv; omega
          · rw [Lib.nDigits_big hv10] at hv
            rcases ih (v / 10) (by omega) with h | h
            · rw [Nat.pow_succ]; omega
            · subst h; simp; omega
      rcases key 10 u (by omega) with h | h
      · omega
      · omega

theorem numB_dec (u : Nat) (h : u < 10000000000) : numB (Lib.decDigits u) = some (u : Int) := by
  have hf : formB (Lib.decDigits u) = true := by
    have hl := Lib.decDigits_length u
    have h1 := Lib.nDigits_pos u
    have h2 := nDigits_lt10 u h
    unfold formB
    have hall : (Lib.decDigits u).all digB = true := by rw [List.all_eq_true]; exact dec_digB u
    rw [hall, hl]
    have e1 : decide (Lib.nDigits u < 1) = false := by simp; omega
    have e2 : decide (10 < Lib.nDigits u) = false := by simp; omega
    rw [e1, e2]
    by_cases h10 : u < 10
    · have : decide (1 < Lib.nDigits u) = false := by rw [Lib.nDigits_small h10]; rfl
      rw [this]; rfl
    · have : decide ((Lib.decDigits u).getD 0 0 = 48) = false := by simpa using dec_first u (by omega)
      rw [this]; simp
  rw [numB, if_pos hf, dec_valB]

theorem numB_itoa (n : Int) (h0 : 0 ≤ n) (h : n < 10000000000) : numB (Lib.itoa n) = some n := by
  obtain ⟨u, rfl⟩ : ∃ u : Nat, n = u := ⟨n.toNat, by omega⟩
  rw [Lib.itoa_nonneg, numB_dec u (by omega)]

theorem itoa_digB (n : Int) (h0 : 0 ≤ n) : ∀ c ∈ Lib.itoa n, digB c = true := by
  obtain ⟨u, rfl⟩ : ∃ u : Nat, n = u := ⟨n.toNat, by omega⟩
  rw [Lib.itoa_nonneg]; exact dec_digB u
theorem itoa_ne (n : Int) (h0 : 0 ≤ n) : Lib.itoa n ≠ [] := by
  obtain ⟨u, rfl⟩ : ∃ u : Nat, n = u := ⟨n.toNat, by omega⟩
  rw [Lib.itoa_nonneg]; exact dec_ne u

theorem foldV_ge (l : List UInt8) (a : Int) (ha : 0 ≤ a) (h : ∀ c ∈ l, digB c = true) : a ≤ l.foldl (fun n c => n * 10 + ((c.toNat : Int) - 48)) a := by
  induction l generalizing a with
  | nil => simp
  | cons c l ih =>
    have hc := h c (by simp)
    simp [digB] at hc
    have := ih (a * 10 + ((c.toNat : Int) - 48)) (by omega) (fun x hx => h x (by simp [hx]))
    simp only [List.foldl_cons]; omega

theorem toNat48 (c : UInt8) (h : c ≠ 48) : c.toNat ≠ 48 := by
  intro e; apply h
  exact UInt8.toNat_inj.1 (by rw [e]; rfl)

theorem valB_pos (l : List UInt8) (hn : l ≠ []) (h : ∀ c ∈ l, digB c = true) (h0 : l.getD 0 0 ≠ 48) : 1 ≤ valB l := by
  cases l with
  | nil => exact absurd rfl hn
  | cons c l =>
    have hc := h c (by simp)
    simp [digB] at hc
    have h48 : c.toNat ≠ 48 := toNat48 c (by simpa using h0)
    have := foldV_ge l (0 * 10 + ((c.toNat : Int) - 48)) (by omega) (fun x hx => h x (by simp [hx]))
    simp only [valB, List.foldl_cons]; omega

theorem ofNat_of (c : UInt8) (n : Nat) (h : c.toNat = n) : UInt8.ofNat n = c := by
  subst h; simp

theorem dec_of_val : ∀ (k : Nat) (l : List UInt8), l.length = k → l ≠ [] → (∀ c ∈ l, digB c = true) → (1 < l.length → l.getD 0 0 ≠ 48) → Lib.decDigits (valB l).toNat = l := by
  intro k
  induction k with
  | zero => intro l hl hn; exact absurd (List.length_eq_zero_iff.1 hl) hn
  | succ k ih =>
    intro l hl hn hd h0
    obtain ⟨i, c, rfl⟩ : ∃ i c, l = i ++ [c] := ⟨l.dropLast, l.getLast hn, (List.dropLast_concat_getLast hn).symm⟩
    have hc := hd c (by simp)
    simp [digB] at hc
    have hil : i.length = k := by simpa using hl
    by_cases hi : i = []
    · subst hi
      show Lib.decDigits (valB [c]).toNat = [c]
      rw [valB_one, dec_small (by omega)]
      rw [ofNat_of c _ (by omega)]
    · have hip : 0 < i.length := List.length_pos_iff.2 hi
      have h1 : (i ++ [c]).getD 0 0 = i.getD 0 0 := by
        cases i with
        | nil => exact absurd rfl hi
        | cons x t => simp
      have h2 : i.getD 0 0 ≠ 48 := by rw [← h1]; exact h0 (by simp; omega)
      have hv := valB_pos i hi (fun x hx => hd x (by simp [hx])) h2
      have e := ih i hil hi (fun x hx => hd x (by simp [hx])) (fun _ => h2)
      rw [valB_snoc, dec_big (by omega)]
      have e1 : (valB i * 10 + ((c.toNat : Int) - 48)).toNat / 10 = (valB i).toNat := by omega
      have e2 : 48 + (valB i * 10 + ((c.toNat : Int) - 48)).toNat % 10 = c.toNat := by omega
      rw [e1, e, ofNat_of c _ e2.symm]

theorem numB_back (l : List UInt8) (n : Int) (h : numB l = some n) : Lib.itoa n = l ∧ 0 ≤ n ∧ n < 10000000000 := by
  unfold numB at h
  cases hf : formB l with
  | false => rw [hf] at h; simp at h
  | true =>
    rw [hf] at h
    simp only [if_true, Option.some.injEq] at h
    subst h
    unfold formB at hf
    rw [Bool.and_eq_true] at hf
    obtain ⟨h1, h2⟩ := hf
    have hd := List.all_eq_true.1 h2
    simp only [Bool.not_eq_true', Bool.or_eq_false_iff, decide_eq_false_iff_not] at h1
    obtain ⟨⟨h3, h4⟩, h5⟩ := h1
    have hb := valB_lt l hd (by omega)
    refine ⟨?_, hb.1, hb.2⟩
    have e := dec_of_val l.length l rfl (fun e => h3 (by subst e; simp)) hd (fun h6 e => by
      have : decide (1 < l.length) = true := by simpa using h6
      rw [this, e] at h5; simp at h5)
    obtain ⟨u, hu⟩ : ∃ u : Nat, valB l = u := ⟨(valB l).toNat, by omega⟩
    rw [hu, Lib.itoa_nonneg]
    rw [hu] at e
    simpa using e

/-! cutting and joining -/

theorem splitOn_none (c : UInt8) (x : List UInt8) (h : c ∉ x) : splitOn c x = [x] := by
  induction x with
  | nil => rfl
  | cons a x ih =>
    have h1 : a ≠ c := fun e => h (by simp [e])
    rw [splitOn, if_neg h1, ih (fun e => h (by simp [e]))]

theorem splitOn_app (c : UInt8) (x r : List UInt8) (h : c ∉ x) : splitOn c (x ++ c :: r) = x :: splitOn c r := by
  induction x with
  | nil => show splitOn c (c :: r) = _; rw [splitOn, if_pos rfl]
  | cons a x ih =>
    have h1 : a ≠ c := fun e => h (by simp [e])
    show splitOn c (a :: (x ++ c :: r)) = _
    rw [splitOn, if_neg h1, ih (fun e => h (by simp [e]))]

theorem join_cons2 (x y : List UInt8) (r : List (List UInt8)) (c : UInt8) : Lib.join (x :: y :: r) [c] = x ++ c :: Lib.join (y :: r) [c] := by
  rw [Lib.join_cons, Lib.join_cons]
  simp [Lib.joinTail]

theorem split_join (c : UInt8) : ∀ (xs : List (List UInt8)), xs ≠ [] → (∀ x ∈ xs, c ∉ x) → splitOn c (Lib.join xs [c]) = xs
  | [], h, _ => absurd rfl h
  | [x], _, h => by rw [Lib.join_one]; exact splitOn_none c x (h x (by simp))
  | x :: y :: r, _, h => by
    rw [join_cons2, splitOn_app c x _ (h x (by simp)), split_join c (y :: r) (by simp) (fun z hz => h z (by simp [hz]))]

theorem join_split (c : UInt8) (l : List UInt8) : Lib.join (splitOn c l) [c] = l := by
  induction l with
  | nil => simp [splitOn, Lib.join_one]
  | cons a l ih =>
    rw [splitOn]
    split
    · rename_i e
      subst e
      cases hs : splitOn a l with
      | nil => exact absurd hs (splitOn_ne _ _)
      | cons y r => rw [hs] at ih; rw [join_cons2, ih]; rfl
    · split
      · rename_i hs; exact absurd hs (splitOn_ne _ _)
      · rename_i y r hs
        rw [hs, Lib.join_cons] at ih
        rw [Lib.join_cons]
        simp only [List.cons_append, ih]

theorem join_notin (c d : UInt8) (hd : d ≠ c) : ∀ (xs : List (List UInt8)), (∀ x ∈ xs, d ∉ x) → d ∉ Lib.join xs [c]
  | [], _ => by simp [Lib.join_nil]
  | [x], h => by rw [Lib.join_one]; exact h x (by simp)
  | x :: y :: r, h => by
    rw [join_cons2]
    intro hm
    rcases List.mem_append.1 hm with hm | hm
    · exact h x (by simp) hm
    · rcases List.mem_cons.1 hm with hm | hm
      · exact hd hm
      · exact join_notin c d hd (y :: r) (fun z hz => h z (by simp [hz])) hm

theorem dig_notin (d : UInt8) (hd : digB d = false) (n : Int) (h : 0 ≤ n) : d ∉ Lib.itoa n := fun hm => by
  have := itoa_digB n h d hm
  rw [hd] at this; cases this

theorem runL_line (x r : List UInt8) (n : Nat) (f : FstD) (last : Int) (p : FstD × Int) (h : (10 : UInt8) ∉ x) (hs : stepL f last x = some p) : runL (splitOn 10 (x ++ 10 :: r)) n f last = runL (splitOn 10 r) (n + 1) p.1 p.2 := by
  rw [splitOn_app 10 x r h]
  cases hr : splitOn 10 r with
  | nil => exact absurd hr (splitOn_ne _ _)
  | cons a t => rw [runL, hs]

/-! the text of a transducer, read -/

def finalsFrom (xs : List Int) (k m : Nat) : List UInt8 := (List.range' k m).flatMap fun i => if xs.getD i 0 = -1 then [] else finalB i (xs.getD i 0)

theorem finalsFrom_all (xs : List Int) (n : Nat) : finalsB xs n = finalsFrom xs 0 n := by
  rw [finalsB, finalsFrom, List.range_eq_range']

theorem finalsFrom_succ (xs : List Int) (k m : Nat) : finalsFrom xs k (m + 1) = (if xs.getD k 0 = -1 then [] else finalB k (xs.getD k 0)) ++ finalsFrom xs (k + 1) m := by
  rw [finalsFrom, List.range'_succ, List.flatMap_cons]; rfl

theorem arcsB_all (l : List ArcD) : arcsB l l.length = l.flatMap arcB := by
  have key : ∀ (k : Nat), k ≤ l.length → arcsB l k = (l.take k).flatMap arcB := by
    intro k
    induction k with
    | zero => intro _; simp [arcsB]
    | succ k ih =>
      intro hk
      have hk' : k < l.length := by omega
      rw [arcsB_succ l k l[k] (by simp [List.getD, hk']), ih (by omega), List.take_add_one, List.getElem?_eq_getElem hk', List.flatMap_append]
      simp only [Option.toList_some, List.flatMap_cons, List.flatMap_nil, List.append_nil]
  rw [key l.length (Nat.le_refl _), List.take_length]

theorem stepL_final (f : FstD) (last : Int) (k : Nat) (x : Int) (h0 : f.states ≠ 0) (ha : f.arcs = []) (hk : (k : Int) < f.states) (hl : last < k) (hx0 : 0 ≤ x) (hx : x < 10000000000) (hk10 : k < 10000000000) :
    stepL f last (Lib.join [bFinal, Lib.itoa k, Lib.itoa x] [32]) = some ((⟨f.states, f.start, f.final.set k x, f.arcs⟩ : FstD), (k : Int)) := by
  unfold stepL
  rw [if_neg h0]
  have hp : Lib.hasPrefix (Lib.join [bFinal, Lib.itoa k, Lib.itoa x] [32]) bFinal = true := by
    rw [Lib.join_cons]; unfold Lib.hasPrefix
    rw [List.isPrefixOf_iff_prefix]; exact List.prefix_append _ _
  rw [hp, if_pos rfl]
  have hs : splitOn 32 (Lib.join [bFinal, Lib.itoa k, Lib.itoa x] [32]) = [bFinal, Lib.itoa k, Lib.itoa x] := by
    apply split_join 32 _ (by simp)
    intro y hy
    simp only [List.mem_cons, List.mem_nil_iff, or_false] at hy
    rcases hy with rfl | rfl | rfl
    · decide
    · exact dig_notin 32 (by decide) _ (by omega)
    · exact dig_notin 32 (by decide) _ hx0
  unfold stepFinal
  rw [hs]
  have hi : inB (k : Int) 0 (f.states - 1) = true := by simp [inB]; omega
  simp [ha, numB_itoa _ (show (0 : Int) ≤ (k : Int) by omega) (by omega), numB_itoa _ hx0 hx, hi, hl]

theorem stepL_arc (f : FstD) (last : Int) (a : ArcD) (h0 : f.states ≠ 0) (h1 : 0 ≤ a.src ∧ a.src < 10000000000) (h2 : 0 ≤ a.inp ∧ a.inp < 10000000000) (h3 : 0 ≤ a.out ∧ a.out < 10000000000) (h4 : 0 ≤ a.dst ∧ a.dst < 10000000000) (h5 : 0 ≤ a.wt ∧ a.wt < 10000000000) :
    stepL f last (Lib.join [Lib.itoa a.src, Lib.itoa a.inp, Lib.itoa a.out, Lib.itoa a.dst, Lib.itoa a.wt] [32]) = some (⟨f.states, f.start, f.final, f.arcs ++ [a]⟩, last) := by
  unfold stepL
  rw [if_neg h0]
  have hp : Lib.hasPrefix (Lib.join [Lib.itoa a.src, Lib.itoa a.inp, Lib.itoa a.out, Lib.itoa a.dst, Lib.itoa a.wt] [32]) bFinal = false := by
    rw [Lib.join_cons]; unfold Lib.hasPrefix
    cases hd : Lib.itoa a.src with
    | nil => exact absurd hd (itoa_ne _ h1.1)
    | cons c t =>
      have hc : digB c = true := itoa_digB a.src h1.1 c (by rw [hd]; simp)
      have : ((102 : UInt8) == c) = false := by
        rw [beq_eq_false_iff_ne]; intro e; subst e; revert hc; decide
      simp [bFinal, List.isPrefixOf, this]
  rw [hp]
  have hs : splitOn 32 (Lib.join [Lib.itoa a.src, Lib.itoa a.inp, Lib.itoa a.out, Lib.itoa a.dst, Lib.itoa a.wt] [32]) = [Lib.itoa a.src, Lib.itoa a.inp, Lib.itoa a.out, Lib.itoa a.dst, Lib.itoa a.wt] := by
    apply split_join 32 _ (by simp)
    intro y hy
    simp only [List.mem_cons, List.mem_nil_iff, or_false] at hy
    rcases hy with rfl | rfl | rfl | rfl | rfl
    · exact dig_notin 32 (by decide) _ h1.1
    · exact dig_notin 32 (by decide) _ h2.1
    · exact dig_notin 32 (by decide) _ h3.1
    · exact dig_notin 32 (by decide) _ h4.1
    · exact dig_notin 32 (by decide) _ h5.1
  unfold stepArc
  rw [hs]
  simp [numB_itoa _ h1.1 h1.2, numB_itoa _ h2.1 h2.2, numB_itoa _ h3.1 h3.2, numB_itoa _ h4.1 h4.2, numB_itoa _ h5.1 h5.2]

theorem stepL_head (f : FstD) (last st sta : Int) (h0 : f.states = 0) (hs : 1 ≤ st ∧ st ≤ 200) (ht : 0 ≤ sta ∧ sta < 10000000000) :
    stepL f last (Lib.join [bStates, Lib.itoa st, bStart, Lib.itoa sta] [32]) = some (⟨st, sta, List.replicate st.toNat (-1), f.arcs⟩, last) := by
  unfold stepL
  rw [if_pos h0]
  have hsp : splitOn 32 (Lib.join [bStates, Lib.itoa st, bStart, Lib.itoa sta] [32]) = [bStates, Lib.itoa st, bStart, Lib.itoa sta] := by
    apply split_join 32 _ (by simp)
    intro y hy
    simp only [List.mem_cons, List.mem_nil_iff, or_false] at hy
    rcases hy with rfl | rfl | rfl | rfl
    · decide
    · exact dig_notin 32 (by decide) _ (by omega)
    · decide
    · exact dig_notin 32 (by decide) _ ht.1
  unfold stepHead
  rw [hsp]
  have hi : inB st 1 200 = true := by simp [inB, hs]
  simp [numB_itoa st (by omega) (by omega), numB_itoa sta ht.1 ht.2, hi]

theorem line_ten (ws : List (List UInt8)) (h : ∀ x ∈ ws, (10 : UInt8) ∉ x) : (10 : UInt8) ∉ Lib.join ws [32] := join_notin 32 10 (by decide) ws h

theorem read_arcs (l : List ArcD) (r : List UInt8) (hl : ∀ a ∈ l, (0 ≤ a.src ∧ a.src < 10000000000) ∧ (0 ≤ a.inp ∧ a.inp < 10000000000) ∧ (0 ≤ a.out ∧ a.out < 10000000000) ∧ (0 ≤ a.dst ∧ a.dst < 10000000000) ∧ (0 ≤ a.wt ∧ a.wt < 10000000000)) :
    ∀ (n : Nat) (f : FstD) (last : Int), f.states ≠ 0 → runL (splitOn 10 (l.flatMap arcB ++ r)) n f last = runL (splitOn 10 r) (n + l.length) ⟨f.states, f.start, f.final, f.arcs ++ l⟩ last := by
  induction l with
  | nil => intro n f last h0; simp
  | cons a l ih =>
    intro n f last h0
    have ha := hl a (by simp)
    rw [List.flatMap_cons, List.append_assoc]
    have e : arcB a ++ (l.flatMap arcB ++ r) = Lib.join [Lib.itoa a.src, Lib.itoa a.inp, Lib.itoa a.out, Lib.itoa a.dst, Lib.itoa a.wt] [32] ++ 10 :: (l.flatMap arcB ++ r) := by simp [arcB, lineB]
    rw [e, runL_line _ _ n f last _ (line_ten _ ?_) (stepL_arc f last a h0 ha.1 ha.2.1 ha.2.2.1 ha.2.2.2.1 ha.2.2.2.2)]
    · refine (ih (fun x hx => hl x (by simp [hx])) (n + 1) ⟨f.states, f.start, f.final, f.arcs ++ [a]⟩ last h0).trans ?_
      simp [Nat.add_assoc, Nat.add_comm 1]
    · intro y hy
      simp only [List.mem_cons, List.mem_nil_iff, or_false] at hy
      rcases hy with rfl | rfl | rfl | rfl | rfl
      · exact dig_notin 10 (by decide) _ ha.1.1
      · exact dig_notin 10 (by decide) _ ha.2.1.1
      · exact dig_notin 10 (by decide) _ ha.2.2.1.1
      · exact dig_notin 10 (by decide) _ ha.2.2.2.1.1
      · exact dig_notin 10 (by decide) _ ha.2.2.2.2.1

theorem set_mid (xs : List Int) (k m : Nat) (hk : k < xs.length) (x : Int) (hx : xs.getD k 0 = x) : (xs.take k ++ List.replicate (m + 1) (-1)).set k x = xs.take (k + 1) ++ List.replicate m (-1) := by
  have hl : (xs.take k).length = k := by simp; omega
  rw [List.set_append_right _ _ (by omega), hl, Nat.sub_self, List.replicate_succ]
  simp only [List.set_cons_zero]
  rw [List.take_add_one]
  have : xs[k]? = some x := by
    rw [← hx]; simp [List.getD, hk]
  simp [this]

theorem read_finals (st sta : Int) (xs : List Int) (hst : (xs.length : Int) = st) (h1 : 1 ≤ st) (h2 : st ≤ 200) (r : List UInt8) (hx : ∀ x ∈ xs, x = -1 ∨ (0 ≤ x ∧ x ≤ 1000000000)) :
    ∀ (m k n : Nat) (last : Int), k + m = xs.length → last < k → 2 ≤ n → ∃ n' last', 2 ≤ n' ∧ runL (splitOn 10 (finalsFrom xs k m ++ r)) n ⟨st, sta, xs.take k ++ List.replicate m (-1), []⟩ last = runL (splitOn 10 r) n' ⟨st, sta, xs, []⟩ last' := by
  intro m
  induction m with
  | zero =>
    intro k n last hk hl hn
    refine ⟨n, last, hn, ?_⟩
    have : k = xs.length := by omega
    subst this
    simp [finalsFrom]
  | succ m ih =>
    intro k n last hk hl hn
    have hk' : k < xs.length := by omega
    rw [finalsFrom_succ]
    by_cases e : xs.getD k 0 = -1
    · rw [if_pos e, List.nil_append]
      obtain ⟨n', last', hn', h⟩ := ih (k + 1) n last (by omega) (by omega) hn
      refine ⟨n', last', hn', ?_⟩
      rw [← h]
      have : xs.take (k + 1) ++ List.replicate m (-1) = xs.take k ++ List.replicate (m + 1) (-1) := by
        rw [List.take_add_one, List.replicate_succ]
        have : xs[k]? = some (-1) := by rw [← e]; simp [List.getD, hk']
        simp [this]
      rw [this]
    · rw [if_neg e]
      have hxk : 0 ≤ xs.getD k 0 ∧ xs.getD k 0 ≤ 1000000000 := by
        rcases hx (xs.getD k 0) (by simp [List.getD, hk']) with h | h
        · exact absurd h e
        · exact h
      obtain ⟨n', last', hn', h⟩ := ih (k + 1) (n + 1) k (by omega) (by omega) (by omega)
      refine ⟨n', last', hn', ?_⟩
      rw [← h]
      have e2 : finalB k (xs.getD k 0) ++ finalsFrom xs (k + 1) m ++ r = Lib.join [bFinal, Lib.itoa k, Lib.itoa (xs.getD k 0)] [32] ++ 10 :: (finalsFrom xs (k + 1) m ++ r) := by simp [finalB, lineB]
      rw [e2, runL_line _ _ n _ last _ (line_ten _ ?_) (stepL_final _ last k (xs.getD k 0) (by show st ≠ 0; omega) rfl (by show (k : Int) < st; omega) hl hxk.1 (by omega) (by omega))]
      · rw [set_mid xs k m hk' _ rfl]
      · intro y hy
        simp only [List.mem_cons, List.mem_nil_iff, or_false] at hy
        rcases hy with rfl | rfl | rfl
        · decide
        · exact dig_notin 10 (by decide) _ (by omega)
        · exact dig_notin 10 (by decide) _ hxk.1

theorem runL_last (n : Nat) (f : FstD) (last : Int) (hn : 2 ≤ n) : runL (splitOn 10 []) n f last = (0, f) := runL_end n f last (by omega)

theorem fst_eta (f : FstD) : (⟨f.states, f.start, f.final, f.arcs⟩ : FstD) = f := rfl

/-- what is printed is read as it was -/
theorem parse_print (f : FstD) (h : checkD f = 0) (hl : (printD f).length ≤ 100000) : parseD (printD f) = ⟨f, 0, 0⟩ := by
  have ok := check_ok f h
  have hs := ok.states
  have ht := ok.start
  simp only [inB, Bool.and_eq_true, decide_eq_true_eq] at hs ht
  have hrun : runL (splitOn 10 (printD f)) 1 fst0 (-1) = (0, f) := by
    have e1 : printD f = Lib.join [bStates, Lib.itoa f.states, bStart, Lib.itoa f.start] [32] ++ 10 :: (finalsFrom f.final 0 f.final.length ++ (f.arcs.flatMap arcB ++ [])) := by
      rw [printD, finalsFrom_all, arcsB_all]; simp [headB, lineB]
    rw [e1, runL_line _ _ 1 fst0 (-1) _ (line_ten _ ?_) (stepL_head fst0 (-1) f.states f.start rfl hs (by omega))]
    · have hN : f.states.toNat = f.final.length := by have := ok.len; omega
      obtain ⟨n', last', hn', hr⟩ := read_finals f.states f.start f.final ok.len hs.1 hs.2 (f.arcs.flatMap arcB ++ []) (fun x hx => (finB_out (ok.fin x hx)).1) f.final.length 0 2 (-1) (by omega) (by omega) (by omega)
      simp only [List.take_zero, List.nil_append] at hr
      rw [hN]
      show runL (splitOn 10 (finalsFrom f.final 0 f.final.length ++ (f.arcs.flatMap arcB ++ []))) 2 ⟨f.states, f.start, List.replicate f.final.length (-1), []⟩ (-1) = _
      rw [hr, read_arcs f.arcs [] ?_ n' _ last' (by show f.states ≠ 0; omega), runL_last _ _ _ (by omega)]
      · show (0, (⟨f.states, f.start, f.final, [] ++ f.arcs⟩ : FstD)) = _
        rw [List.nil_append]
      · intro a ha
        have oka := ok.arcs a ha
        have q1 := oka.src
        have q2 := oka.inp
        have q3 := oka.out
        have q4 := oka.dst
        have q5 := oka.wt
        simp only [inB, Bool.and_eq_true, decide_eq_true_eq] at q1 q2 q3 q4 q5
        refine ⟨?_, ?_, ?_, ?_, ?_⟩ <;> omega
    · intro y hy
      simp only [List.mem_cons, List.mem_nil_iff, or_false] at hy
      rcases hy with rfl | rfl | rfl | rfl
      · decide
      · exact dig_notin 10 (by decide) _ (by omega)
      · decide
      · exact dig_notin 10 (by decide) _ (by omega)
  unfold parseD
  rw [if_neg (by omega), hrun]
  simp [h]

/-! what is read is printed as it was -/

theorem split_three {l : List UInt8} {a b c : List UInt8} (h : splitOn 32 l = [a, b, c]) : l = Lib.join [a, b, c] [32] := by rw [← h, join_split]

theorem stepFinal_text (st last : Int) (q : Bool) (l : List UInt8) (x y : Int) (h : stepFinal st last q l = some (x, y)) : l = Lib.join [bFinal, Lib.itoa x, Lib.itoa y] [32] ∧ 0 ≤ x ∧ x < st ∧ last < x ∧ 0 ≤ y ∧ q = false := by
  unfold stepFinal at h
  split at h
  · rename_i a b c hs
    split at h
    · rename_i hab
      split at h
      · rename_i m n hm hn
        split at h
        · rename_i hi
          simp only [Option.some.injEq, Prod.mk.injEq] at h
          obtain ⟨rfl, rfl⟩ := h
          obtain ⟨e1, p1, p2⟩ := numB_back _ _ hm
          obtain ⟨e2, p3, p4⟩ := numB_back _ _ hn
          simp only [inB, Bool.and_eq_true, decide_eq_true_eq] at hi
          refine ⟨?_, p1, by omega, hi.2, p3, hab.2⟩
          rw [split_three hs, hab.1, e1, e2]
        · cases h
      · cases h
    · cases h
  · cases h

theorem stepHead_text (l : List UInt8) (x y : Int) (h : stepHead l = some (x, y)) : l = Lib.join [bStates, Lib.itoa x, bStart, Lib.itoa y] [32] ∧ 1 ≤ x ∧ x ≤ 200 := by
  unfold stepHead at h
  split at h
  · rename_i a b c d hs
    split at h
    · rename_i hab
      split at h
      · rename_i m n hm hn
        split at h
        · rename_i hi
          simp only [Option.some.injEq, Prod.mk.injEq] at h
          obtain ⟨rfl, rfl⟩ := h
          obtain ⟨e1, p1, p2⟩ := numB_back _ _ hm
          obtain ⟨e2, p3, p4⟩ := numB_back _ _ hn
          simp only [inB, Bool.and_eq_true, decide_eq_true_eq] at hi
          refine ⟨?_, hi.1, hi.2⟩
          have e3 := join_split 32 l
          rw [hs] at e3
          rw [← e3, hab.1, hab.2, e1, e2]
        · cases h
      · cases h
    · cases h
  · cases h

theorem mapM_five (ws : List (List UInt8)) (a b c d e : Int) (h : ws.mapM numB = some [a, b, c, d, e]) : ws = [Lib.itoa a, Lib.itoa b, Lib.itoa c, Lib.itoa d, Lib.itoa e] := by
  have key : ∀ (ws : List (List UInt8)) (ns : List Int), ws.mapM numB = some ns → ws = ns.map Lib.itoa := by
    intro ws
    induction ws with
    | nil => intro ns h; simp at h; subst h; rfl
    | cons w ws ih =>
      intro ns h
      rw [List.mapM_cons] at h
      cases hw : numB w with
      | none => rw [hw] at h; simp at h
      | some n =>
        cases hr : ws.mapM numB with
        | none => rw [hw, hr] at h; simp at h
        | some ms =>
          rw [hw, hr] at h
          simp at h
          subst h
          rw [List.map_cons, ← ih ms hr, (numB_back _ _ hw).1]
  exact key ws _ h

theorem stepArc_text (l : List UInt8) (a : ArcD) (h : stepArc l = some a) : l = Lib.join [Lib.itoa a.src, Lib.itoa a.inp, Lib.itoa a.out, Lib.itoa a.dst, Lib.itoa a.wt] [32] := by
  unfold stepArc at h
  split at h
  · rename_i x b c d e hm
    simp only [Option.some.injEq] at h
    subst h
    have e3 := join_split 32 l
    rw [mapM_five _ _ _ _ _ _ hm] at e3
    exact e3.symm
  · cases h

theorem text_cons (x y : List UInt8) (r : List (List UInt8)) : Lib.join (x :: y :: r) [10] = x ++ [10] ++ Lib.join (y :: r) [10] := by rw [join_cons2]; simp

theorem back_arcs : ∀ (ls : List (List UInt8)) (n : Nat) (f g : FstD) (last : Int), runL ls n f last = (0, g) → 1 ≤ n → f.states ≠ 0 → f.arcs ≠ [] →
    ∃ more, g = ⟨f.states, f.start, f.final, f.arcs ++ more⟩ ∧ Lib.join ls [10] = more.flatMap arcB := by
  intro ls
  induction ls with
  | nil =>
    intro n f g last h _ _ _
    rw [runL] at h
    simp only [Prod.mk.injEq, true_and] at h
    exact ⟨[], by rw [← h]; simp, rfl⟩
  | cons x ls ih =>
    intro n f g last h hn h0 ha
    cases ls with
    | nil =>
      rw [runL] at h
      split at h
      · rename_i hc
        simp only [Prod.mk.injEq, true_and] at h
        exact ⟨[], by rw [← h]; simp, by rw [hc.2, Lib.join_one]; rfl⟩
      · simp only [Prod.mk.injEq] at h; omega
    | cons y r =>
      rw [runL] at h
      split at h
      · simp only [Prod.mk.injEq] at h; omega
      · rename_i p hp
        unfold stepL at hp
        rw [if_neg h0] at hp
        split at hp
        · cases hf : stepFinal f.states last (decide (0 < f.arcs.length)) x with
          | none => rw [hf] at hp; cases hp
          | some q =>
            have := (stepFinal_text _ _ _ _ q.1 q.2 hf).2.2.2.2.2
            have hp : 0 < f.arcs.length := List.length_pos_iff.2 ha
            simp only [decide_eq_false_iff_not] at this
            omega
        · cases hf : stepArc x with
          | none => rw [hf] at hp; cases hp
          | some a =>
            rw [hf] at hp
            simp only [Option.map_some, Option.some.injEq] at hp
            subst hp
            obtain ⟨more, hg, ht⟩ := ih (n + 1) _ g last h (by omega) h0 (by simp)
            refine ⟨a :: more, by rw [hg]; simp, ?_⟩
            rw [text_cons, ht, stepArc_text x a hf, List.flatMap_cons]
            rfl

theorem finalsFrom_skip (xs : List Int) : ∀ (d k m : Nat), (∀ i, k ≤ i → i < k + d → xs.getD i 0 = -1) → finalsFrom xs k (d + m) = finalsFrom xs (k + d) m := by
  intro d
  induction d with
  | zero => intro k m _; simp
  | succ d ih =>
    intro k m h
    rw [show d + 1 + m = (d + m) + 1 by omega, finalsFrom_succ, if_pos (h k (by omega) (by omega)), List.nil_append, ih (k + 1) m (fun i h1 h2 => h i (by omega) (by omega)), show k + 1 + d = k + (d + 1) by omega]

theorem getD_set_same (xs : List Int) (k : Nat) (x : Int) (h : k < xs.length) : (xs.set k x).getD k 0 = x := by simp [List.getD, h]
theorem getD_set_other (xs : List Int) (k i : Nat) (x : Int) (h : k ≠ i) : (xs.set k x).getD i 0 = xs.getD i 0 := by simp [List.getD, h]

theorem back_finals : ∀ (ls : List (List UInt8)) (n : Nat) (f g : FstD) (k : Nat), runL ls n f ((k : Int) - 1) = (0, g) → 1 ≤ n → f.states ≠ 0 → f.arcs = [] → (f.final.length : Int) = f.states → k ≤ f.final.length → (∀ i, k ≤ i → i < f.final.length → f.final.getD i 0 = -1) →
    g.states = f.states ∧ g.start = f.start ∧ g.final.length = f.final.length ∧ (∀ i, i < k → g.final.getD i 0 = f.final.getD i 0) ∧ Lib.join ls [10] = finalsFrom g.final k (g.final.length - k) ++ g.arcs.flatMap arcB := by
  have stop : ∀ (f : FstD) (k : Nat), k ≤ f.final.length → (∀ i, k ≤ i → i < f.final.length → f.final.getD i 0 = -1) → finalsFrom f.final k (f.final.length - k) = [] := by
    intro f k hk h
    have := finalsFrom_skip f.final (f.final.length - k) k 0 (fun i h1 h2 => h i h1 (by omega))
    rw [Nat.add_zero] at this
    rw [this]; rfl
  intro ls
  induction ls with
  | nil =>
    intro n f g k h hn h0 ha hl hk hm
    rw [runL] at h
    simp only [Prod.mk.injEq, true_and] at h
    subst h
    refine ⟨rfl, rfl, rfl, fun _ _ => rfl, ?_⟩
    rw [stop f k hk hm, ha]; rfl
  | cons x ls ih =>
    intro n f g k h hn h0 ha hl hk hm
    cases ls with
    | nil =>
      rw [runL] at h
      split at h
      · rename_i hc
        simp only [Prod.mk.injEq, true_and] at h
        subst h
        refine ⟨rfl, rfl, rfl, fun _ _ => rfl, ?_⟩
        rw [stop f k hk hm, ha, hc.2, Lib.join_one]; rfl
      · simp only [Prod.mk.injEq] at h; omega
    | cons y r =>
      rw [runL] at h
      split at h
      · simp only [Prod.mk.injEq] at h; omega
      · rename_i p hp
        unfold stepL at hp
        rw [if_neg h0] at hp
        split at hp
        · cases hf : stepFinal f.states ((k : Int) - 1) (decide (0 < f.arcs.length)) x with
          | none => rw [hf] at hp; cases hp
          | some q =>
            obtain ⟨q1, q2⟩ := q
            rw [hf] at hp
            simp only [Option.map_some, Option.some.injEq] at hp
            subst hp
            obtain ⟨ht, p0, p1, p2, p3, _⟩ := stepFinal_text _ _ _ _ q1 q2 hf
            obtain ⟨j, rfl⟩ : ∃ j : Nat, q1 = j := ⟨q1.toNat, by omega⟩
            have hj : j < f.final.length := by omega
            have hlast : ((j : Int)) = (((j + 1 : Nat) : Int) - 1) := by omega
            simp only at h
            rw [hlast] at h
            obtain ⟨e1, e2, e3, e4, e5⟩ := ih (n + 1) _ g (j + 1) h (by omega) h0 ha (by simpa using hl) (by simp; omega) (fun i h1 h2 => by
              simp only [List.length_set] at h2
              show (f.final.set (((j + 1 : Nat) : Int) - 1).toNat q2).getD i 0 = -1
              rw [show (((j + 1 : Nat) : Int) - 1).toNat = j by omega, getD_set_other _ _ _ _ (by omega)]
              exact hm i (by omega) h2)
            simp only [List.length_set] at e3
            have ej : (((j + 1 : Nat) : Int) - 1).toNat = j := by omega
            rw [ej] at e4
            have hgj : g.final.getD j 0 = q2 := by rw [e4 j (by omega)]; exact getD_set_same _ _ _ hj
            refine ⟨e1, e2, e3, fun i hi => ?_, ?_⟩
            · rw [e4 i (by omega)]; exact getD_set_other _ _ _ _ (by omega)
            · rw [text_cons, e5, ht]
              have hsk : finalsFrom g.final k (g.final.length - k) = finalsFrom g.final j (g.final.length - j) := by
                have := finalsFrom_skip g.final (j - k) k (g.final.length - j) (fun i h1 h2 => by
                  rw [e4 i (by omega)]
                  show (f.final.set j q2).getD i 0 = -1
                  rw [getD_set_other _ _ _ _ (by omega)]
                  exact hm i h1 (by omega))
                rw [show j - k + (g.final.length - j) = g.final.length - k by omega, show k + (j - k) = j by omega] at this
                exact this
              rw [hsk, show g.final.length - j = (g.final.length - (j + 1)) + 1 by omega, finalsFrom_succ, hgj, if_neg (by omega)]
              simp [finalB, lineB]
        · cases hf : stepArc x with
          | none => rw [hf] at hp; cases hp
          | some a =>
            rw [hf] at hp
            simp only [Option.map_some, Option.some.injEq] at hp
            subst hp
            obtain ⟨more, hg, ht⟩ := back_arcs (y :: r) (n + 1) _ g _ h (by omega) h0 (by simp)
            simp only [ha, List.nil_append] at hg
            subst hg
            refine ⟨rfl, rfl, rfl, fun _ _ => rfl, ?_⟩
            rw [text_cons, ht, stop f k hk hm, stepArc_text x a hf]
            simp [arcB, lineB]

/-- what is read is printed as it was -/
theorem print_parse (s : List UInt8) (h : (parseD s).err = 0) : checkD (parseD s).f = 0 ∧ printD (parseD s).f = s := by
  unfold parseD at h ⊢
  split
  · rename_i h1; rw [if_pos h1] at h; cases h
  · rename_i h1
    rw [if_neg h1] at h
    split
    · rename_i h2; rw [if_pos h2] at h; cases h
    · rename_i h2
      rw [if_neg h2] at h
      split
      · rename_i h3; rw [if_pos h3] at h; exact absurd h h3
      · rename_i h3
        simp only [ne_eq, Decidable.not_not] at h2 h3
        refine ⟨h3, ?_⟩
        obtain ⟨g, hg⟩ : ∃ g, g = (runL (splitOn 10 s) 1 fst0 (-1)).2 := ⟨_, rfl⟩
        have hr : runL (splitOn 10 s) 1 fst0 (-1) = (0, g) := by rw [hg, ← h2]
        show printD (runL (splitOn 10 s) 1 fst0 (-1)).2 = s
        rw [← hg]
        clear h h1 h2 h3 hg
        have hjs := join_split 10 s
        cases hs : splitOn 10 s with
        | nil => exact absurd hs (splitOn_ne _ _)
        | cons x ls =>
          rw [hs] at hr hjs
          cases ls with
          | nil =>
            rw [runL, if_neg (by omega)] at hr
            simp only [Prod.mk.injEq] at hr; omega
          | cons y r =>
            rw [runL] at hr
            split at hr
            · simp only [Prod.mk.injEq] at hr; omega
            · rename_i p hp
              unfold stepL at hp
              rw [if_pos (show fst0.states = 0 from rfl)] at hp
              cases hf : stepHead x with
              | none => rw [hf] at hp; cases hp
              | some q =>
                obtain ⟨st, sta⟩ := q
                rw [hf] at hp
                simp only [Option.map_some, Option.some.injEq] at hp
                subst hp
                obtain ⟨ht, p1, p2⟩ := stepHead_text x st sta hf
                obtain ⟨e1, e2, e3, e4, e5⟩ := back_finals (y :: r) 2 _ g 0 hr (by omega) (by show st ≠ 0; omega) rfl (by show ((List.replicate st.toNat (-1 : Int)).length : Int) = st; simp; omega) (Nat.zero_le _) (fun i _ h2 => by
                  have h2' : i < st.toNat := by simpa using h2
                  show (List.replicate st.toNat (-1 : Int)).getD i 0 = -1
                  simp [List.getD, h2'])
                rw [← hjs, text_cons, e5, ht, printD, finalsFrom_all, arcsB_all, e1, e2]
                simp [headB, lineB]

end Go.Proofs.YteehgcbjmdideaaDoor
