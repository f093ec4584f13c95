/- Spots: a state, and how many letters of two words are used; edges from spot to spot; what a pair of words costs. -/
import Derived.Test.YteehgcbjmdideaaQM10
import Derived.Test.YteehgcbjmdideaaQM00
import Derived.Test.YteehgcbjmdideaaQM02
import Derived.Deep.QuietTactic
import Derived.BigQuiet
namespace Go.Proofs.Yteehgcbjmdideaa

/-- a spot as a number: N states, words of so many letters -/
def spotN (N O n i o : Nat) : Nat := (i * (O + 1) + o) * N + n

theorem mul_add_inj {N a a' n n' : Nat} (hn : n < N) (hn' : n' < N) (h : a * N + n = a' * N + n') : a = a' ∧ n = n' := by
  have e1 : (a * N + n) / N = a := by rw [Nat.mul_comm, Nat.mul_add_div (by omega), Nat.div_eq_of_lt hn, Nat.add_zero]
  have e2 : (a' * N + n') / N = a' := by rw [Nat.mul_comm, Nat.mul_add_div (by omega), Nat.div_eq_of_lt hn', Nat.add_zero]
  have e3 : a = a' := by rw [← e1, ← e2, h]
  subst e3
  exact ⟨rfl, by omega⟩

theorem spotN_inj {N O n i o n' i' o' : Nat} (hn : n < N) (hn' : n' < N) (ho : o ≤ O) (ho' : o' ≤ O) (h : spotN N O n i o = spotN N O n' i' o') : n = n' ∧ i = i' ∧ o = o' := by
  obtain ⟨h1, h2⟩ := mul_add_inj hn hn' h
  obtain ⟨h3, h4⟩ := mul_add_inj (N := O + 1) (by omega) (by omega) h1
  exact ⟨h2, h3, h4⟩

theorem place_lt {I O i o : Nat} (hi : i ≤ I) (ho : o ≤ O) : i * (O + 1) + o < (I + 1) * (O + 1) := by
  have h := Nat.mul_le_mul_right (O + 1) hi
  have e : (I + 1) * (O + 1) = I * (O + 1) + (O + 1) := by rw [Nat.add_mul, Nat.one_mul]
  omega

theorem mul_add_lt {N P p n : Nat} (hp : p < P) (hn : n < N) : p * N + n < P * N := by
  have h := Nat.mul_le_mul_right N (show p + 1 ≤ P by omega)
  rw [Nat.add_mul, Nat.one_mul] at h
  omega

theorem spotN_lt {N I O n i o : Nat} (hn : n < N) (hi : i ≤ I) (ho : o ≤ O) : spotN N O n i o < (I + 1) * (O + 1) * N := mul_add_lt (place_lt hi ho) hn

/-- does a letter stand behind those that are used already? -/
def fitB (word : List Int) (used : Nat) (letter : Int) : Bool := (letter == 0) || (decide (used < word.length) && (word.getD used 0 == letter))
def usedBy (used : Nat) (letter : Int) : Nat := if letter = 0 then used else used + 1

theorem usedBy_le {word : List Int} {used : Nat} {letter : Int} (h : fitB word used letter = true) (hu : used ≤ word.length) : usedBy used letter ≤ word.length := by
  unfold usedBy
  unfold fitB at h
  split
  · exact hu
  · rename_i hl
    simp [hl] at h
    omega

/-- an arc at a place of both words; one that does not fit leads from the first spot to itself -/
def edgeS (N : Nat) (ins outs : List Int) (i o : Nat) (a : ArcD) : Edg :=
  if (fitB ins i a.inp && fitB outs o a.out) = true then ⟨spotN N outs.length a.src.toNat i o, spotN N outs.length a.dst.toNat (usedBy i a.inp) (usedBy o a.out), a.wt⟩ else ⟨0, 0, 0⟩

/-- the edges at the first k places -/
def edK (N : Nat) (ins outs : List Int) (arcs : List ArcD) (k : Nat) : List Edg := (List.range k).flatMap fun p => arcs.map (edgeS N ins outs (p / (outs.length + 1)) (p % (outs.length + 1)))
def edS (N : Nat) (ins outs : List Int) (arcs : List ArcD) : List Edg := edK N ins outs arcs ((ins.length + 1) * (outs.length + 1))

theorem edK_succ (N : Nat) (ins outs : List Int) (arcs : List ArcD) (k : Nat) : edK N ins outs arcs (k + 1) = edK N ins outs arcs k ++ arcs.map (edgeS N ins outs (k / (outs.length + 1)) (k % (outs.length + 1))) := by
  simp [edK, List.range_succ]
theorem edK_len (N : Nat) (ins outs : List Int) (arcs : List ArcD) (k : Nat) : (edK N ins outs arcs k).length = k * arcs.length := by
  induction k with
  | zero => simp [edK]
  | succ k ih => rw [edK_succ, List.length_append, ih, List.length_map, Nat.add_mul, Nat.one_mul]
theorem edK_get (N : Nat) (ins outs : List Int) (arcs : List ArcD) (k p n : Nat) (a : ArcD) (hp : p < k) (hn : arcs[n]? = some a) : (edK N ins outs arcs k)[p * arcs.length + n]? = some (edgeS N ins outs (p / (outs.length + 1)) (p % (outs.length + 1)) a) := by
  have hnl : n < arcs.length := by
    by_cases h : n < arcs.length
    · exact h
    · rw [List.getElem?_eq_none (by omega)] at hn; cases hn
  induction k with
  | zero => omega
  | succ k ih =>
    rw [edK_succ]
    by_cases h : p < k
    · rw [List.getElem?_append_left (by rw [edK_len]; exact mul_add_lt h hnl)]
      exact ih h
    · have : p = k := by omega
      subst this
      rw [List.getElem?_append_right (by rw [edK_len]; omega), edK_len, Nat.add_sub_cancel_left, List.getElem?_map, hn]
      rfl

theorem place_div {O i o : Nat} (ho : o ≤ O) : (i * (O + 1) + o) / (O + 1) = i ∧ (i * (O + 1) + o) % (O + 1) = o := by
  constructor
  · rw [Nat.mul_comm, Nat.mul_add_div (by omega), Nat.div_eq_of_lt (by omega), Nat.add_zero]
  · rw [Nat.mul_comm, Nat.mul_add_mod, Nat.mod_eq_of_lt (by omega)]

theorem place_of {I O p : Nat} (hp : p < (I + 1) * (O + 1)) : p / (O + 1) ≤ I ∧ p % (O + 1) ≤ O ∧ p / (O + 1) * (O + 1) + p % (O + 1) = p := by
  have h1 : p / (O + 1) < I + 1 := Nat.div_lt_of_lt_mul (by rw [Nat.mul_comm]; exact hp)
  have h2 : p % (O + 1) < O + 1 := Nat.mod_lt _ (by omega)
  have h3 := Nat.div_add_mod p (O + 1)
  rw [Nat.mul_comm] at h3
  exact ⟨by omega, by omega, h3⟩

theorem edS_get {N : Nat} {ins outs : List Int} {arcs : List ArcD} {i o n : Nat} {a : ArcD} (hi : i ≤ ins.length) (ho : o ≤ outs.length) (hn : arcs[n]? = some a) : (edS N ins outs arcs)[(i * (outs.length + 1) + o) * arcs.length + n]? = some (edgeS N ins outs i o a) := by
  have := edK_get N ins outs arcs _ _ n a (place_lt hi ho) hn
  rw [(place_div ho).1, (place_div ho).2] at this
  exact this

theorem edS_mem {N : Nat} {ins outs : List Int} {arcs : List ArcD} {e : Edg} : e ∈ edS N ins outs arcs ↔ ∃ i o a, i ≤ ins.length ∧ o ≤ outs.length ∧ a ∈ arcs ∧ e = edgeS N ins outs i o a := by
  unfold edS edK
  rw [List.mem_flatMap]
  constructor
  · rintro ⟨p, hp, he⟩
    obtain ⟨a, ha, rfl⟩ := List.mem_map.1 he
    obtain ⟨h1, h2, _⟩ := place_of (List.mem_range.1 hp)
    exact ⟨_, _, a, h1, h2, ha, rfl⟩
  · rintro ⟨i, o, a, hi, ho, ha, rfl⟩
    refine ⟨i * (outs.length + 1) + o, List.mem_range.2 (place_lt hi ho), List.mem_map.2 ⟨a, ha, ?_⟩⟩
    rw [(place_div ho).1, (place_div ho).2]

/-- nothing at the beginning but one spot, for nothing -/
def bgS (s T : Nat) : List Int := (List.range T).map fun v => if v = s then 0 else -1
theorem bgS_len (s T : Nat) : (bgS s T).length = T := by simp [bgS]
theorem bgS_at (s T v : Nat) : gI (bgS s T) v = if v = s ∧ v < T then 0 else -1 := by
  unfold gI bgS
  by_cases hv : v < T
  · simp [List.getD, hv]
  · simp [List.getD, hv]

/-- what it costs to end at a spot: only where both words are used up -/
def finS (T N : Nat) (fin : List Int) (u : Nat) : Int := if T - N ≤ u then gI fin (u - (T - N)) else -1

theorem spotN_end (N I O n : Nat) : spotN N O n I O = (I + 1) * (O + 1) * N - N + n := by
  have e : (I + 1) * (O + 1) = (I * (O + 1) + O) + 1 := by rw [Nat.add_mul, Nat.one_mul]; omega
  unfold spotN
  rw [e, Nat.add_mul (I * (O + 1) + O) 1 N, Nat.one_mul]
  omega
theorem finS_end (N I O n : Nat) (fin : List Int) : finS ((I + 1) * (O + 1) * N) N fin (spotN N O n I O) = gI fin n := by
  unfold finS
  rw [spotN_end N I O n, if_pos (by omega), Nat.add_sub_cancel_left]
theorem finS_no (N I O n i o : Nat) (fin : List Int) (hn : n < N) (hi : i ≤ I) (ho : o ≤ O) (h : i < I ∨ o < O) : finS ((I + 1) * (O + 1) * N) N fin (spotN N O n i o) = -1 := by
  unfold finS
  rw [if_neg]
  intro hle
  have hp : i * (O + 1) + o < I * (O + 1) + O := by
    have h1 := Nat.mul_le_mul_right (O + 1) hi
    rcases h with h | h
    · have h2 := Nat.mul_le_mul_right (O + 1) (show i + 1 ≤ I by omega)
      rw [Nat.add_mul, Nat.one_mul] at h2
      omega
    · omega
  have h3 := mul_add_lt (N := N) hp hn
  have e : (I + 1) * (O + 1) = (I * (O + 1) + O) + 1 := by rw [Nat.add_mul, Nat.one_mul]; omega
  rw [e, Nat.add_mul (I * (O + 1) + O) 1 N, Nat.one_mul] at hle
  unfold spotN at hle
  omega

/-- what a pair of words costs -/
def IsScore (f : FstD) (ins outs : List Int) (x : Int) : Prop :=
  IsBest (edS f.states.toNat ins outs f.arcs) (bgS f.start.toNat ((ins.length + 1) * (outs.length + 1) * f.states.toNat)) (finS ((ins.length + 1) * (outs.length + 1) * f.states.toNat) f.states.toNat f.final) x

end Go.Proofs.Yteehgcbjmdideaa

/- What the document's tables hold: place by place, along arcs that say something, then along silent ones till nothing is better. -/
namespace Go.Proofs.Yteehgcbjmdideaa

/-- the prices at one place -/
def segL (c : List Int) (N p : Nat) : List Int := (c.drop (p * N)).take N

theorem segL_len {c : List Int} {N P p : Nat} (hc : c.length = P * N) (hp : p < P) : (segL c N p).length = N := by
  have := Nat.mul_le_mul_right N (show p + 1 ≤ P by omega)
  rw [Nat.add_mul, Nat.one_mul] at this
  simp [segL]
  omega
theorem segL_at (c : List Int) (N p n : Nat) (hn : n < N) : gI (segL c N p) n = gI c (p * N + n) := by
  unfold gI segL
  simp [List.getD, hn]
theorem segL_set_same {c : List Int} {N p n : Nat} (x : Int) : segL (c.set (p * N + n) x) N p = (segL c N p).set n x := by
  unfold segL
  rw [List.drop_set, if_neg (by omega), Nat.add_sub_cancel_left, List.take_set]
theorem segL_set_other {c : List Int} {N p q n : Nat} (x : Int) (hn : n < N) (hq : q ≠ p) : segL (c.set (p * N + n) x) N q = segL c N q := by
  apply List.ext_getElem?
  intro k
  unfold segL
  rw [List.getElem?_take, List.getElem?_take]
  split
  · rename_i hk
    rw [List.getElem?_drop, List.getElem?_drop, List.getElem?_set, if_neg]
    intro he
    exact hq (mul_add_inj hn hk he).1.symm
  · rfl

/-- no edge to one of the first k spots makes anything better -/
def FixTo (E : List Edg) (c : List Int) (k : Nat) : Prop := ∀ e ∈ E, e.v < k → 0 ≤ gI c e.u → Rlx c e

theorem FixTo.set {E : List Edg} {c : List Int} {k v : Nat} {x : Int} (h : FixTo E c k) (hE : ∀ e ∈ E, e.v < k → e.u < k) (hv : k ≤ v) (hvc : v < c.length) : FixTo E (c.set v x) k := by
  intro e he hk h0
  have hu := hE e he hk
  have e1 : gI (c.set v x) e.u = gI c e.u := by rw [gI_set _ _ _ _ hvc, if_neg (by omega)]
  have e2 : gI (c.set v x) e.v = gI c e.v := by rw [gI_set _ _ _ _ hvc, if_neg (by omega)]
  rw [e1] at h0
  have := h e he hk h0
  unfold Rlx at this ⊢
  rw [e1, e2]
  exact this

theorem FixTo.all {E : List Edg} {c : List Int} {k : Nat} (h : FixTo E c k) (hE : ∀ e ∈ E, e.v < k) : Fix E c := fun e he h0 => h e he (hE e he) h0

/-- along one edge -/
theorem relE_rlx {c : List Int} {e : Edg} (hvc : e.v < c.length) (hw : 0 ≤ e.w) (hlo : ∀ v, -1 ≤ gI c v) (h0 : 0 ≤ gI (relE c e) e.u) : Rlx (relE c e) e := by
  by_cases hu : 0 ≤ gI c e.u
  · obtain ⟨h1, h2⟩ := relE_edge c e hvc hw hu
    refine ⟨h1, ?_⟩
    by_cases huv : e.u = e.v
    · rw [huv]; omega
    · have : gI (relE c e) e.u = gI c e.u := by unfold relE; rw [gI_set _ _ _ _ hvc, if_neg huv]
      omega
  · exfalso
    have hm : gI c e.u = -1 := by have := hlo e.u; omega
    have hp : plusC (gI c e.u) e.w = -1 := by unfold plusC; rw [if_pos (by omega)]
    by_cases huv : e.u = e.v
    · have : gI (relE c e) e.u = gI c e.u := by
        unfold relE
        rw [gI_set _ _ _ _ hvc, if_pos huv, hp, ← huv, hm]
        rfl
      omega
    · have : gI (relE c e) e.u = gI c e.u := by unfold relE; rw [gI_set _ _ _ _ hvc, if_neg huv]
      omega

/-- an edge that made nothing better stays so while only other spots' prices fall, and its own end's -/
theorem rlx_stays {c c' : List Int} {e : Edg} (h : 0 ≤ gI c e.u → Rlx c e) (hl : LeC c' c) (hu : gI c' e.u = gI c e.u) : 0 ≤ gI c' e.u → Rlx c' e := by
  intro h0
  rw [hu] at h0
  exact (h h0).mono hl hu

/-- nothing is better along an edge: its price is what it was -/
theorem rlx_same {c : List Int} {e : Edg} (hw : 0 ≤ e.w) (hlo : -1 ≤ gI c e.v) (h : lessC (gI c e.v) (plusC (gI c e.u) e.w) = gI c e.v) : 0 ≤ gI c e.u → Rlx c e := by
  intro h0
  have hp : plusC (gI c e.u) e.w = gI c e.u + e.w := by unfold plusC; rw [if_neg (by omega)]
  rw [hp] at h
  unfold lessC at h
  unfold Rlx
  split at h
  · omega
  · split at h <;> omega

end Go.Proofs.Yteehgcbjmdideaa

/- Arcs that stand by where they begin: the number of the first arc of each state. Edges from spot to spot, their bounds. -/
namespace Go.Proofs.Yteehgcbjmdideaa

/-- no arc begins ahead of where the one ahead of it does -/
def SortedA : List ArcD → Prop
  | [] => True
  | a :: l => (∀ x ∈ l, a.src ≤ x.src) ∧ SortedA l

theorem ahead_src {a b : ArcD} (h : aheadB a b = true) : a.src ≤ b.src := by
  unfold aheadB at h
  split at h
  · have := of_decide_eq_true h; omega
  · rename_i he
    have : a.src = b.src := Classical.byContradiction fun hn => he hn
    omega

theorem arcsErr_sorted (st : Int) (l : List ArcD) (p : Option ArcD) (h : arcsErr st p l = 0) : SortedA l ∧ ∀ q, p = some q → ∀ x ∈ l, q.src ≤ x.src := by
  induction l generalizing p with
  | nil => exact ⟨trivial, fun _ _ x hx => by cases hx⟩
  | cons a l ih =>
    unfold arcsErr at h
    split at h
    · rename_i h0
      obtain ⟨h1, h2⟩ := ih (some a) h
      refine ⟨⟨h2 a rfl, h1⟩, fun q hq x hx => ?_⟩
      have hqa : q.src ≤ a.src := by
        subst hq
        unfold arcErr at h0
        split at h0
        · cases h0
        · split at h0
          · cases h0
          · simp only at h0
            split at h0
            · rename_i ha; exact ahead_src ha
            · cases h0
      rcases List.mem_cons.1 hx with rfl | hx
      · exact hqa
      · have := h2 a rfl x hx; omega
    · rename_i h0; exact absurd h h0

/-- how many arcs begin at one of the first s states -/
def cntB (l : List ArcD) (s : Nat) : Nat := (l.filter fun a => decide (a.src < (s : Int))).length

theorem cntB_le (l : List ArcD) (s : Nat) : cntB l s ≤ l.length := List.length_filter_le _ _
theorem cntB_zero (l : List ArcD) (h : ∀ a ∈ l, 0 ≤ a.src) : cntB l 0 = 0 := by
  unfold cntB
  rw [List.length_eq_zero_iff, List.filter_eq_nil_iff]
  intro a ha
  have := h a ha
  simp
  omega

theorem SortedA.at {l : List ArcD} (h : SortedA l) (s k : Nat) (a : ArcD) (hk : l[k]? = some a) : k < cntB l s ↔ a.src < (s : Int) := by
  induction l generalizing k with
  | nil => simp at hk
  | cons b l ih =>
    obtain ⟨h1, h2⟩ := h
    unfold cntB
    by_cases hb : b.src < (s : Int)
    · rw [List.filter_cons_of_pos (by simpa using hb), List.length_cons]
      cases k with
      | zero =>
        simp at hk; subst hk
        exact ⟨fun _ => hb, fun _ => by omega⟩
      | succ k =>
        have := ih h2 k (by simpa using hk)
        unfold cntB at this
        omega
    · have hn : (b :: l).filter (fun a => decide (a.src < (s : Int))) = [] := by
        rw [List.filter_eq_nil_iff]
        intro x hx
        rcases List.mem_cons.1 hx with rfl | hx
        · simpa using hb
        · have := h1 x hx
          simp; omega
      rw [hn]
      have ha : a ∈ b :: l := List.mem_of_getElem? hk
      have : b.src ≤ a.src := by
        rcases List.mem_cons.1 ha with rfl | ha
        · exact Int.le_refl _
        · exact h1 a ha
      simp
      omega

/-- the arcs of a state stand between its first one and the next state's -/
theorem SortedA.of {l : List ArcD} (h : SortedA l) (s k : Nat) (a : ArcD) (hk : l[k]? = some a) : (cntB l s ≤ k ∧ k < cntB l (s + 1)) ↔ a.src = (s : Int) := by
  have h1 := h.at s k a hk
  have h2 := h.at (s + 1) k a hk
  omega

section
variable {N : Nat} {ins outs : List Int} {arcs : List ArcD}

theorem edS_bounds (hN : 1 ≤ N) (hok : ∀ a ∈ arcs, (0 ≤ a.src ∧ a.src < N) ∧ (0 ≤ a.dst ∧ a.dst < N) ∧ (0 ≤ a.wt ∧ a.wt ≤ 1000000000)) : ∀ e ∈ edS N ins outs arcs, e.v < (ins.length + 1) * (outs.length + 1) * N ∧ 0 ≤ e.w ∧ e.w ≤ 1000000000 := by
  intro e he
  obtain ⟨i, o, a, hi, ho, ha, rfl⟩ := edS_mem.1 he
  obtain ⟨_, h2, h3⟩ := hok a ha
  unfold edgeS
  split
  · rename_i hf
    rw [Bool.and_eq_true] at hf
    exact ⟨spotN_lt (by omega) (usedBy_le hf.1 hi) (usedBy_le hf.2 ho), h3⟩
  · refine ⟨?_, by decide, by decide⟩
    have := spotN_lt (N := N) (n := 0) (i := 0) (o := 0) (by omega) (Nat.zero_le ins.length) (Nat.zero_le outs.length)
    show 0 < _
    omega

theorem usedBy_ge (u : Nat) (l : Int) : u ≤ usedBy u l := by unfold usedBy; split <;> omega

/-- edges lead to the same place, or to one behind it -/
theorem edS_down (hok : ∀ a ∈ arcs, (0 ≤ a.src ∧ a.src < N) ∧ (0 ≤ a.dst ∧ a.dst < N) ∧ (0 ≤ a.wt ∧ a.wt ≤ 1000000000)) (k : Nat) : ∀ e ∈ edS N ins outs arcs, e.v < k * N → e.u < k * N := by
  intro e he hk
  obtain ⟨i, o, a, hi, ho, ha, rfl⟩ := edS_mem.1 he
  obtain ⟨h1, h2, _⟩ := hok a ha
  unfold edgeS at hk ⊢
  split
  · rename_i hf
    rw [if_pos hf] at hk
    have hp : i * (outs.length + 1) + o ≤ usedBy i a.inp * (outs.length + 1) + usedBy o a.out := by
      have := Nat.mul_le_mul_right (outs.length + 1) (usedBy_ge i a.inp)
      have := usedBy_ge o a.out
      omega
    have hlt : usedBy i a.inp * (outs.length + 1) + usedBy o a.out < k := by
      apply Classical.byContradiction
      intro hn
      have := Nat.mul_le_mul_right N (Nat.not_lt.1 hn)
      have hk' : (usedBy i a.inp * (outs.length + 1) + usedBy o a.out) * N + a.dst.toNat < k * N := hk
      omega
    exact mul_add_lt (Nat.lt_of_le_of_lt hp hlt) (by omega)
  · rename_i hf
    rw [if_neg hf] at hk
    exact hk

/-- an edge from a spot: an arc of its state that fits; or it leads from the first spot to itself for nothing -/
theorem edS_from {n i o : Nat} (hn : n < N) (ho : o ≤ outs.length) (hok : ∀ a ∈ arcs, (0 ≤ a.src ∧ a.src < N) ∧ (0 ≤ a.dst ∧ a.dst < N) ∧ (0 ≤ a.wt ∧ a.wt ≤ 1000000000)) {e : Edg} (he : e ∈ edS N ins outs arcs) (hu : e.u = spotN N outs.length n i o) :
    e = ⟨0, 0, 0⟩ ∨ ∃ (k : Nat) (a : ArcD), arcs[k]? = some a ∧ a.src = (n : Int) ∧ (fitB ins i a.inp && fitB outs o a.out) = true ∧ e = edgeS N ins outs i o a := by
  obtain ⟨i', o', a, hi', ho', ha, rfl⟩ := edS_mem.1 he
  obtain ⟨h1, _, _⟩ := hok a ha
  by_cases hf : (fitB ins i' a.inp && fitB outs o' a.out) = true
  · right
    unfold edgeS at hu
    rw [if_pos hf] at hu
    obtain ⟨h3, rfl, rfl⟩ := spotN_inj (by omega) hn ho' ho hu
    obtain ⟨k, hk⟩ := List.getElem?_of_mem ha
    exact ⟨k, a, hk, by omega, hf, rfl⟩
  · left
    unfold edgeS
    rw [if_neg hf]

theorem rlx_zero {c : List Int} (h : 0 ≤ gI c 0) : Rlx c ⟨0, 0, 0⟩ := ⟨h, by simp⟩
end

end Go.Proofs.Yteehgcbjmdideaa

/- 'use' of package score: a letter behind those that are used already. -/
namespace Go.Proofs.Yteehgcbjmdideaa
open Go.RowKit
attribute [local go_sem ↓] Go.wp_at_zero Go.wp_at_succ

theorem ret_use {x y : Int} {r s : Bool} (h1 : x = y) (h2 : r = s) : Ending.returned (.tuple #[.int .i64 x, .bool r]) = .returned (.tuple #[.int .i64 y, .bool s]) := by rw [h1, h2]

set_option maxHeartbeats 1000000 in
theorem use_any (ws : List Int) (a : Option Addr) (n c used : Nat) (letter : Int) (w : World) (h : ISlice w (.slice a n c) ws) (hl : ws.length = n) (hn : n ≤ 40) (hu : used ≤ n) :
    Calls Try.prog 164 #[.slice a n c, .int .i64 used, .int .i64 letter] w fun e w' => e = .returned (.tuple #[.int .i64 (usedBy used letter : Nat), .bool (fitB ws used letter)]) ∧ Below w.heap.size w w' := by
  by_cases h0 : letter = 0
  · subst h0
    go_enter Try.func164, Try.ntmps164
    go_wp2
    go_ret2
    exact ⟨ret_use (by simp [usedBy]) (by simp [fitB]), bel_self _⟩
  · have h0b : (letter == 0) = false := by simpa using h0
    have HU : Hid (((usedBy used letter : Nat) : Int) = used + 1) := (by simp [usedBy, h0] : ((usedBy used letter : Nat) : Int) = used + 1)
    by_cases hlt : used < n
    · obtain ⟨b, off, rfl, hx⟩ := h.some (by omega)
      have c0 := hx.cell used hlt
      obtain ⟨x, hxd⟩ : ∃ x, x = ws.getD used 0 := ⟨_, rfl⟩
      rw [← hxd] at c0
      have HX : Hid (fitB ws used letter = (x == letter)) := (by rw [hxd]; simp [fitB, h0, hl, hlt] : fitB ws used letter = (x == letter))
      have hd : decide ((used : Int) < n) = true := by simpa using hlt
      have hi : (used : Int) < n := by omega
      clear hxd h0 hx
      go_enter Try.func164, Try.ntmps164
      go_wp2
      go_quiet (fail)
      go_wp2
      go_ret2
      exact ⟨ret_use HU.out.symm HX.out.symm, bel_drewN (bel_self w) _⟩
    · have HX : Hid (fitB ws used letter = false) := (by simp [fitB, h0, hl, hlt] : fitB ws used letter = false)
      have hd : decide ((used : Int) < n) = false := by simpa using hlt
      have hi : (n : Int) ≤ used := by omega
      clear h0
      go_enter Try.func164, Try.ntmps164
      go_wp2
      go_quiet (fail)
      go_wp2
      go_ret2
      exact ⟨ret_use HU.out.symm HX.out.symm, bel_drewN (bel_self w) _⟩

end Go.Proofs.Yteehgcbjmdideaa

/- What the search's map and queue hold, as prices of spots. -/
namespace Go.Proofs.Yteehgcbjmdideaa
open Go.RowKit

def eP (N O : Nat) (p : PlD) : Nat := spotN N O p.st p.rd p.wt
def arcOf (m : Nat) (z : Int) : Int := if z = -1 then -1 else z % (m : Int)

/-- the map holds the prices -/
def MsOk (N I O m : Nat) (c y : List Int) (ms : List MetD) : Prop :=
  ∀ n i o, n < N → i ≤ I → o ≤ O → lookM n i o ms = if gI c (spotN N O n i o) = -1 then none else some ⟨n, i, o, gI c (spotN N O n i o), arcOf m (gI y (spotN N O n i o))⟩

theorem MsOk.put {N I O m : Nat} {c y : List Int} {ms : List MetD} (h : MsOk N I O m c y ms) {n i o : Nat} (hn : n < N) (hi : i ≤ I) (ho : o ≤ O) (hc : c.length = (I + 1) * (O + 1) * N) (hy : y.length = c.length) {x : Int} (hx : 0 ≤ x) {j k : Nat} (hj : j % m = k) :
    MsOk N I O m (c.set (spotN N O n i o) x) (y.set (spotN N O n i o) (j : Int)) (putM ⟨n, i, o, x, (k : Int)⟩ ms) := by
  have hu : spotN N O n i o < c.length := by rw [hc]; exact spotN_lt hn hi ho
  intro n' i' o' hn' hi' ho'
  rw [lookM_put, gI_set c _ _ _ hu, gI_set y _ _ _ (by rw [hy]; exact hu)]
  by_cases he : n = n' ∧ i = i' ∧ o = o'
  · obtain ⟨rfl, rfl, rfl⟩ := he
    rw [if_pos ⟨rfl, rfl, rfl⟩, if_pos rfl, if_pos rfl, if_neg (by omega)]
    have e : arcOf m (j : Int) = (k : Int) := by
      unfold arcOf
      rw [if_neg (by omega), ← hj]
      omega
    rw [e]
  · rw [if_neg he]
    have hne : ¬ spotN N O n' i' o' = spotN N O n i o := fun e => by
      obtain ⟨h1, h2, h3⟩ := spotN_inj hn' hn ho' ho e
      exact he ⟨h1.symm, h2.symm, h3.symm⟩
    rw [if_neg hne, if_neg hne]
    exact h n' i' o' hn' hi' ho'

section
variable (f : FstD) (ins outs : List Int) (N : Nat)
def totS : Nat := (ins.length + 1) * (outs.length + 1) * N
def EdS : List Edg := edS N ins outs f.arcs
end

/-- what stays true of the search as a whole, but for memory -/
structure SGh (f : FstD) (ins outs : List Int) (N s0 : Nat) (c y : List Int) (ms : List MetD) (L : List PlD) (best : Int) (x0 : Nat) (D : List Nat) (lo : Int) : Prop where
  si : SI (EdS f ins outs N) (bgS s0 (totS ins outs N)) (finS (totS ins outs N) N f.final) (eP N outs.length) PlD.cost c y L best x0
  sd : SD (eP N outs.length) PlD.cost c L D lo
  mo : MsOk N ins.length outs.length f.arcs.length c y ms
  vd : ∀ p ∈ L, p.st < N ∧ p.rd ≤ ins.length ∧ p.wt ≤ outs.length
  cl : c.length = totS ins outs N

/-- words that are right, beside a transducer that is -/
structure OkW (f : FstD) (ins outs : List Int) (N s0 : Nat) : Prop where
  n1 : 1 ≤ N
  n2 : N ≤ 200
  s : s0 < N
  i40 : ins.length ≤ 40
  o40 : outs.length ≤ 40
  many : f.arcs.length ≤ 3000
  arcs : ∀ a ∈ f.arcs, (0 ≤ a.src ∧ a.src < N) ∧ (0 ≤ a.dst ∧ a.dst < N) ∧ (0 ≤ a.wt ∧ a.wt ≤ 1000000000)
  sort : SortedA f.arcs
  len : f.final.length = N
  fin : ∀ x ∈ f.final, x = -1 ∨ (0 ≤ x ∧ x ≤ 1000000000)

section
variable {f : FstD} {ins outs : List Int} {N s0 : Nat} {c y : List Int} {ms : List MetD} {L : List PlD} {best : Int} {x0 : Nat} {D : List Nat} {lo : Int}

theorem OkW.tot (h : OkW f ins outs N s0) : totS ins outs N ≤ 400000 := by
  unfold totS
  have h1 : (ins.length + 1) * (outs.length + 1) ≤ 41 * 41 := Nat.mul_le_mul (by have := h.i40; omega) (by have := h.o40; omega)
  have h2 := Nat.mul_le_mul h1 h.n2
  omega

theorem OkW.edges (h : OkW f ins outs N s0) : ∀ e ∈ EdS f ins outs N, e.v < totS ins outs N ∧ 0 ≤ e.w ∧ e.w ≤ 1000000000 := edS_bounds h.n1 h.arcs

theorem SGh.perm {L' : List PlD} (h : SGh f ins outs N s0 c y ms L best x0 D lo) (hp : L.Perm L') : SGh f ins outs N s0 c y ms L' best x0 D lo :=
  ⟨h.si.perm hp, h.sd.perm hp, h.mo, fun p hm => h.vd p (hp.mem_iff.2 hm), h.cl⟩

/-- an arc that fits, gone along from a spot: what is looked up, and what becomes of it -/
theorem SGh.look (h : SGh f ins outs N s0 c y ms L best x0 D lo) {n i o : Nat} (hn : n < N) (hi : i ≤ ins.length) (ho : o ≤ outs.length) :
    (gI c (spotN N outs.length n i o) = -1 ∧ lookM n i o ms = none) ∨ (0 ≤ gI c (spotN N outs.length n i o) ∧ lookM n i o ms = some ⟨n, i, o, gI c (spotN N outs.length n i o), arcOf f.arcs.length (gI y (spotN N outs.length n i o))⟩) := by
  have h1 := h.mo n i o hn hi ho
  have h2 := h.si.inv.lo (spotN N outs.length n i o)
  by_cases e : gI c (spotN N outs.length n i o) = -1
  · rw [if_pos e] at h1
    exact Or.inl ⟨e, h1⟩
  · rw [if_neg e] at h1
    exact Or.inr ⟨by omega, h1⟩

theorem SGh.go {n i o k : Nat} {a : ArcD} (hok : OkW f ins outs N s0) (h : SGh f ins outs N s0 c y ms L best (spotN N outs.length n i o) D lo) (hi : i ≤ ins.length) (ho : o ≤ outs.length) (hk : f.arcs[k]? = some a) (hs : a.src = (n : Int)) (hfit : (fitB ins i a.inp && fitB outs o a.out) = true)
    (hx : gI c (spotN N outs.length n i o) = lo) (hx0 : 0 ≤ lo) {t : Nat} (ht : a.dst = (t : Int)) {c' : Int} (hc' : gI c (spotN N outs.length t (usedBy i a.inp) (usedBy o a.out)) = c') :
    (¬ (c' = -1 ∨ lo + a.wt < c') → Rlx c (edgeS N ins outs i o a)) ∧
    ((c' = -1 ∨ lo + a.wt < c') → ∃ c2 y2, SGh f ins outs N s0 c2 y2 (putM ⟨t, usedBy i a.inp, usedBy o a.out, lo + a.wt, (k : Int)⟩ ms) (⟨t, usedBy i a.inp, usedBy o a.out, lo + a.wt⟩ :: L) best (spotN N outs.length n i o) D lo ∧ gI c2 (spotN N outs.length n i o) = lo ∧ LeC c2 c ∧ Rlx c2 (edgeS N ins outs i o a)) := by
  have hmem := List.mem_of_getElem? hk
  obtain ⟨⟨s1, s2⟩, ⟨d1, d2⟩, w1, w2⟩ := hok.arcs a hmem
  have htN : t < N := by omega
  rw [Bool.and_eq_true] at hfit
  have hi' := usedBy_le hfit.1 hi
  have ho' := usedBy_le hfit.2 ho
  have he : edgeS N ins outs i o a = ⟨spotN N outs.length n i o, spotN N outs.length t (usedBy i a.inp) (usedBy o a.out), a.wt⟩ := by
    unfold edgeS
    rw [if_pos (by rw [Bool.and_eq_true]; exact hfit), hs, ht, Int.toNat_natCast, Int.toNat_natCast]
  have hj := edS_get (N := N) (outs := outs) hi ho hk
  rw [he] at hj
  have hkm : k < f.arcs.length := by
    obtain ⟨h1, _⟩ := List.getElem?_eq_some_iff.1 hk
    exact h1
  refine ⟨fun hbt => ?_, fun hbt => ?_⟩
  · rw [he]
    exact rlx_no hx (h.si.inv.lo _) (by rw [hc']; exact hbt)
  · have hvT : spotN N outs.length t (usedBy i a.inp) (usedBy o a.out) < totS ins outs N := spotN_lt htN hi' ho'
    have hm := h.si.meet (e := ⟨spotN N outs.length n i o, spotN N outs.length t (usedBy i a.inp) (usedBy o a.out), a.wt⟩) (q := ⟨t, usedBy i a.inp, usedBy o a.out, lo + a.wt⟩) (x := lo) (by rw [bgS_len]; exact hok.tot) hj (by rw [bgS_len]; exact hvT) w1 w2 hx hx0 (by show gI c (spotN N outs.length t (usedBy i a.inp) (usedBy o a.out)) = -1 ∨ _; rw [hc']; exact hbt) rfl rfl
    refine ⟨_, _, ⟨hm.1, h.sd.meet (by rw [h.cl]; exact hvT) w1 (by rw [hc']; exact hbt) rfl rfl (fun p hp => h.si.heap p hp), ?_, fun p hp => ?_, by rw [List.length_set]; exact h.cl⟩, hm.2.2.1, hm.2.2.2.1, by rw [he]; exact hm.2.2.2.2⟩
    · exact h.mo.put (x := lo + a.wt) htN hi' ho' h.cl (by rw [h.si.inv.ylen, h.si.inv.len]) (by omega) (by rw [Nat.mul_comm, Nat.mul_add_mod]; exact Nat.mod_eq_of_lt hkm)
    · rcases List.mem_cons.1 hp with rfl | hp
      · exact ⟨htN, hi', ho'⟩
      · exact h.vd p hp
end

end Go.Proofs.Yteehgcbjmdideaa
