/- A search that takes the spot that costs least first: what stays true, and what it tells. -/
import Derived.Test.YteehgcbjmdideabQM06
import Derived.Test.YteehgcbjmdideabQM00
import Derived.Deep.QuietTactic
import Derived.BigQuiet
namespace Go.Proofs.Yteehgcbjmdideab
section
variable {E : List Edg} {b c y : List Int} {fin : Nat → Int}
def IsBest (E : List Edg) (b : List Int) (fin : Nat → Int) (x : Int) : Prop :=
 (x = -1 ∧ ∀ v h z, WayN E b h v z → ¬ 0 ≤ fin v) ∨ (0 ≤ x ∧ (∃ v h z, WayN E b h v z ∧ 0 ≤ fin v ∧ x = z + fin v) ∧ ∀ v h z, WayN E b h v z → 0 ≤ fin v → x ≤ z + fin v)
theorem IsBest.unique {x z : Int} (hx : IsBest E b fin x) (hz : IsBest E b fin z) : x = z := by
 rcases hx with ⟨rfl, h1⟩ | ⟨h0, ⟨v, h, q, hw, hf, rfl⟩, h1⟩
 ·rcases hz with ⟨rfl, _⟩ | ⟨_, ⟨v, h, q, hw, hf, rfl⟩, _⟩
  ·rfl
  ·exact absurd hf (h1 v h q hw)
 ·rcases hz with ⟨rfl, h2⟩ | ⟨_, ⟨v', h', q', hw', hf', rfl⟩, h2⟩
  ·exact absurd hf (h2 v h q hw)
  ·have := h1 v' h' q' hw' hf'
   have := h2 v h q hw hf
   omega
def Rlx (c : List Int) (e : Edg) : Prop := 0 ≤ gI c e.v ∧ gI c e.v ≤ gI c e.u + e.w
def DoneS (E : List Edg) (fin : Nat → Int) (c : List Int) (best : Int) (u : Nat) : Prop :=
 (∀ e ∈ E, e.u = u → Rlx c e) ∧ (0 ≤ fin u → 0 ≤ best ∧ best ≤ gI c u + fin u)
variable {α : Type} {enc : α → Nat} {key : α → Int}
structure SI (E : List Edg) (b : List Int) (fin : Nat → Int) (enc : α → Nat) (key : α → Int) (c y : List Int) (L : List α) (best : Int) (x0 : Nat) : Prop where
 inv : Inv E b c y
 heap : ∀ p ∈ L, 0 ≤ gI c (enc p) ∧ gI c (enc p) ≤ key p
 wait : ∀ u, u ≠ x0 → 0 ≤ gI c u → (∃ p ∈ L, enc p = u ∧ key p = gI c u) ∨ DoneS E fin c best u
 bst : best = -1 ∨ (0 ≤ best ∧ ∃ v h z, WayN E b h v z ∧ 0 ≤ fin v ∧ best = z + fin v)
theorem SI.perm {L L' : List α} {best : Int} {x0 : Nat} (h : SI E b fin enc key c y L best x0) (hp : L.Perm L') : SI E b fin enc key c y L' best x0 :=
 ⟨h.inv, fun p hm => h.heap p (hp.mem_iff.2 hm), fun u hu h0 => (h.wait u hu h0).imp (fun ⟨p, hm, he⟩ => ⟨p, hp.mem_iff.1 hm, he⟩) id, h.bst⟩
theorem SI.start {L : List α} {x0 : Nat} (hb : ∀ v, gI b v = -1 ∨ 0 ≤ gI b v) (hm : ∀ v, gI b v ≤ 1000000000) (hL : ∀ p ∈ L, 0 ≤ gI b (enc p) ∧ gI b (enc p) ≤ key p) (hw : ∀ u, 0 ≤ gI b u → ∃ p ∈ L, enc p = u ∧ key p = gI b u) :
  SI E b fin enc key b (List.replicate b.length (-1)) L (-1) x0 :=
 ⟨Inv.start hb hm, hL, fun u _ h0 => Or.inl (hw u h0), Or.inl rfl⟩
theorem out_gI (c : List Int) (x : Nat) (h : c.length ≤ x) : gI c x = -1 := by
 unfold gI
 simp [List.getD, List.getElem?_eq_none h]
theorem SI.stale {L : List α} {p : α} {best : Int} {x0 : Nat} (h : SI E b fin enc key c y (p :: L) best x0) (hs : gI c (enc p) < key p) : SI E b fin enc key c y L best x0 :=
 ⟨h.inv, fun q hq => h.heap q (List.mem_cons_of_mem _ hq), fun u hu h0 => by
  rcases h.wait u hu h0 with ⟨q, hq, e1, e2⟩ | hd
  ·rcases List.mem_cons.1 hq with rfl | hq
   ·rw [e1] at hs; omega
   ·exact Or.inl ⟨q, hq, e1, e2⟩
  ·exact Or.inr hd, h.bst⟩
theorem SI.take {L : List α} {p : α} {best : Int} {x0 : Nat} (h : SI E b fin enc key c y (p :: L) best x0) (hx : c.length ≤ x0) : SI E b fin enc key c y L best (enc p) :=
 ⟨h.inv, fun q hq => h.heap q (List.mem_cons_of_mem _ hq), fun u hu h0 => by
  have hux : u ≠ x0 := fun e => by rw [e, out_gI c x0 hx] at h0; omega
  rcases h.wait u hux h0 with ⟨q, hq, e1, e2⟩ | hd
  ·rcases List.mem_cons.1 hq with rfl | hq
   ·exact absurd e1.symm hu
   ·exact Or.inl ⟨q, hq, e1, e2⟩
  ·exact Or.inr hd, h.bst⟩
theorem DoneS.better {best best' : Int} {u : Nat} (h : DoneS E fin c best u) (h0 : 0 ≤ best') (hb : best = -1 ∨ best' ≤ best) : DoneS E fin c best' u :=
 ⟨h.1, fun hf => by obtain ⟨h1, h2⟩ := h.2 hf; exact ⟨h0, by omega⟩⟩
theorem SI.ends {L : List α} {best x : Int} {u0 : Nat} (h : SI E b fin enc key c y L best u0) (hx : gI c u0 = x) (hx0 : 0 ≤ x) (hf : 0 ≤ fin u0) (hb : best = -1 ∨ x + fin u0 < best) : SI E b fin enc key c y L (x + fin u0) u0 :=
 ⟨h.inv, h.heap, fun u hu h0 => (h.wait u hu h0).imp id fun hd => hd.better (by omega) (by omega), Or.inr ⟨by omega, by
  rcases h.inv.ach u0 with hn | ⟨k, hk⟩
  ·omega
  ·exact ⟨u0, k, _, hk, hf, by rw [hx]⟩⟩⟩
theorem Rlx.mono {c' : List Int} {e : Edg} (h : Rlx c e) (hl : LeC c' c) (hu : gI c' e.u = gI c e.u) : Rlx c' e := by
 obtain ⟨h1, h2⟩ := h
 obtain ⟨h3, h4⟩ := hl e.v h1
 exact ⟨h3, by omega⟩
theorem SI.meet {L : List α} {q : α} {best x : Int} {j : Nat} {e : Edg} (h : SI E b fin enc key c y L best e.u) (hbn : b.length ≤ 400000) (hj : E[j]? = some e) (hv : e.v < b.length) (hw0 : 0 ≤ e.w) (hw1 : e.w ≤ 1000000000) (hx : gI c e.u = x) (hx0 : 0 ≤ x)
  (hbt : gI c e.v = -1 ∨ x + e.w < gI c e.v) (hq : enc q = e.v) (hk : key q = x + e.w) :
  SI E b fin enc key (c.set e.v (x + e.w)) (y.set e.v (j : Int)) (q :: L) best e.u ∧ muL (c.set e.v (x + e.w)) < muL c ∧ gI (c.set e.v (x + e.w)) e.u = x ∧ LeC (c.set e.v (x + e.w)) c ∧ Rlx (c.set e.v (x + e.w)) e := by
 have hp : plusC (gI c e.u) e.w = x + e.w := by unfold plusC; rw [hx, if_neg (by omega)]
 have hbb : betterB (plusC (gI c e.u) e.w) (gI c e.v) = true := (better_iff (plusC_lo _ _) (h.inv.lo _)).2 ⟨by omega, by omega⟩
 have hst := h.inv.step hbn hj hv hw0 hw1 hbb
 rw [hp] at hst
 have hvc : e.v < c.length := by have := h.inv.len; omega
 have hset := fun k => gI_set c e.v k (x + e.w) hvc
 have hne : e.u ≠ e.v := fun hh => by rw [hh] at hx; rcases hbt with h1 | h1 <;> omega
 have hle : LeC (c.set e.v (x + e.w)) c := by
  intro k hk0
  rw [hset]
  split
  ·rename_i hkv; rw [hkv] at hk0 ⊢; rcases hbt with h1 | h1 <;> omega
  ·exact ⟨hk0, Int.le_refl _⟩
 refine ⟨⟨hst.1, ?_, ?_, h.bst⟩, hst.2, by rw [hset, if_neg hne]; exact hx, hle, ?_⟩
 ·intro p hp'
  rcases List.mem_cons.1 hp' with rfl | hp'
  ·rw [hset, hq, if_pos rfl]; omega
  ·obtain ⟨h1, h2⟩ := h.heap p hp'
   obtain ⟨h3, h4⟩ := hle _ h1
   exact ⟨h3, by omega⟩
 ·intro u hu h0
  by_cases huv : u = e.v
  ·subst huv
   rw [hset, if_pos rfl]
   exact Or.inl ⟨q, List.mem_cons_self, hq, hk⟩
  ·have hgu : gI (c.set e.v (x + e.w)) u = gI c u := by rw [hset, if_neg huv]
   rw [hgu] at h0 ⊢
   rcases h.wait u hu h0 with ⟨p, hp', e1, e2⟩ | hd
   ·exact Or.inl ⟨p, List.mem_cons_of_mem _ hp', e1, e2⟩
   ·refine Or.inr ⟨fun e' he' hue => (hd.1 e' he' hue).mono hle (by rw [hue]; exact hgu), fun hf => by rw [hgu]; exact hd.2 hf⟩
 ·unfold Rlx
  rw [hset, hset, if_pos rfl, if_neg hne, hx]
  omega
theorem rlx_no {e : Edg} {x : Int} (hx : gI c e.u = x) (hlo : -1 ≤ gI c e.v) (hbt : ¬ (gI c e.v = -1 ∨ x + e.w < gI c e.v)) : Rlx c e := by
 unfold Rlx
 rw [hx]
 omega
theorem SI.done {L : List α} {best : Int} {u0 x1 : Nat} (h : SI E b fin enc key c y L best u0) (hr : ∀ e ∈ E, e.u = u0 → Rlx c e) (hf : 0 ≤ fin u0 → 0 ≤ best ∧ best ≤ gI c u0 + fin u0) : SI E b fin enc key c y L best x1 :=
 ⟨h.inv, h.heap, fun u _ h0 => by
  by_cases e : u = u0
  ·subst e; exact Or.inr ⟨hr, hf⟩
  ·exact h.wait u e h0, h.bst⟩
theorem SI.cover {L : List α} {best : Int} {x0 : Nat} (h : SI E b fin enc key c y L best x0) (hx : c.length ≤ x0) (hw : ∀ e ∈ E, 0 ≤ e.w) (k v : Nat) (x : Int) (H : WayN E b k v x) :
  (∃ p ∈ L, key p ≤ x) ∨ (0 ≤ gI c v ∧ gI c v ≤ x ∧ DoneS E fin c best v) := by
 have hne : ∀ u, 0 ≤ gI c u → u ≠ x0 := fun u h0 e => by rw [e, out_gI c x0 hx] at h0; omega
 induction k generalizing v x with
 | zero =>
  obtain ⟨rfl, h0⟩ := H
  obtain ⟨h1, h2⟩ := h.inv.le v h0
  rcases h.wait v (hne v h1) h1 with ⟨p, hp, _, e2⟩ | hd
  ·exact Or.inl ⟨p, hp, by omega⟩
  ·exact Or.inr ⟨h1, h2, hd⟩
 | succ k ih =>
  obtain ⟨e, he, rfl, z, hz, rfl⟩ := H
  have hew := hw e he
  rcases ih e.u z hz with ⟨p, hp, hle⟩ | ⟨h1, h2, hd⟩
  ·exact Or.inl ⟨p, hp, by omega⟩
  ·obtain ⟨h3, h4⟩ := hd.1 e he rfl
   rcases h.wait e.v (hne e.v h3) h3 with ⟨p, hp, _, e2⟩ | hd'
   ·exact Or.inl ⟨p, hp, by omega⟩
   ·exact Or.inr ⟨h3, by omega, hd'⟩
theorem SI.best {L : List α} {best : Int} {x0 : Nat} (h : SI E b fin enc key c y L best x0) (hx : c.length ≤ x0) (hw : ∀ e ∈ E, 0 ≤ e.w) (hL : ∀ p ∈ L, 0 ≤ best ∧ best ≤ key p) : IsBest E b fin best := by
 have all : ∀ v k z, WayN E b k v z → 0 ≤ fin v → 0 ≤ best ∧ best ≤ z + fin v := by
  intro v k z hz hf
  rcases h.cover hx hw k v z hz with ⟨p, hp, hle⟩ | ⟨_, h2, hd⟩
  ·have := hL p hp
   omega
  ·have := hd.2 hf
   omega
 rcases h.bst with hb | ⟨h0, hb⟩
 ·exact Or.inl ⟨hb, fun v k z hz hf => by have := (all v k z hz hf).1; omega⟩
 ·exact Or.inr ⟨h0, hb, fun v k z hz hf => (all v k z hz hf).2⟩
structure SD (enc : α → Nat) (key : α → Int) (c : List Int) (L : List α) (D : List Nat) (lo : Int) : Prop where
 low : ∀ p ∈ L, lo ≤ key p
 past : ∀ u ∈ D, 0 ≤ gI c u ∧ gI c u ≤ lo ∧ ∀ p ∈ L, enc p = u → gI c u < key p
 nd : D.Nodup
 lt : ∀ u ∈ D, u < c.length
 twice : (L.map fun p => (enc p, key p)).Nodup
theorem SD.perm {L L' : List α} {D : List Nat} {lo : Int} (h : SD enc key c L D lo) (hp : L.Perm L') : SD enc key c L' D lo :=
 ⟨fun p hm => h.low p (hp.mem_iff.2 hm), fun u hu => ⟨(h.past u hu).1, (h.past u hu).2.1, fun p hm => (h.past u hu).2.2 p (hp.mem_iff.2 hm)⟩, h.nd, h.lt, (hp.map _).nodup_iff.1 h.twice⟩
theorem SD.start (p : α) (hk : 0 ≤ key p) : SD enc key c [p] [] 0 :=
 ⟨fun q hq => (by rw [List.mem_singleton.1 hq]; exact hk), fun u hu => (by cases hu), List.nodup_nil, fun u hu => (by cases hu), (by simp)⟩
theorem SD.stale {L : List α} {p : α} {D : List Nat} {lo : Int} (h : SD enc key c (p :: L) D lo) (hmin : ∀ q ∈ L, key p ≤ key q) : SD enc key c L D (key p) :=
 ⟨hmin, fun u hu => ⟨(h.past u hu).1, Int.le_trans (h.past u hu).2.1 (h.low p List.mem_cons_self), fun q hq => (h.past u hu).2.2 q (List.mem_cons_of_mem _ hq)⟩, h.nd, h.lt, (List.nodup_cons.1 h.twice).2⟩
theorem SD.take {L : List α} {p : α} {D : List Nat} {lo : Int} (h : SD enc key c (p :: L) D lo) (hmin : ∀ q ∈ L, key p ≤ key q) (hx : key p = gI c (enc p)) (hx0 : 0 ≤ key p) (hl : enc p < c.length) (hle : ∀ q ∈ L, gI c (enc q) ≤ key q) : SD enc key c L (enc p :: D) (key p) := by
 obtain ⟨h1, h2⟩ := List.nodup_cons.1 h.twice
 refine ⟨hmin, fun u hu => ?_, ?_, fun u hu => ?_, h2⟩
 ·rcases List.mem_cons.1 hu with rfl | hu
  ·refine ⟨by omega, by omega, fun q hq he => ?_⟩
   have h3 := hle q hq
   have h4 : key q ≠ key p := fun e => h1 (List.mem_map.2 ⟨q, hq, by rw [he, e]⟩)
   rw [he] at h3
   omega
  ·exact (h.stale hmin).past u hu
 ·refine List.nodup_cons.2 ⟨fun hm => ?_, h.nd⟩
  have := (h.past _ hm).2.2 p List.mem_cons_self rfl
  omega
 ·rcases List.mem_cons.1 hu with rfl | hu
  ·exact hl
  ·exact h.lt u hu
theorem SD.meet {L : List α} {q : α} {D : List Nat} {lo : Int} {v : Nat} {w : Int} (h : SD enc key c L D lo) (hv : v < c.length) (hw : 0 ≤ w) (hbt : gI c v = -1 ∨ lo + w < gI c v) (hq : enc q = v) (hk : key q = lo + w)
  (hle : ∀ p ∈ L, 0 ≤ gI c (enc p) ∧ gI c (enc p) ≤ key p) : SD enc key (c.set v (lo + w)) (q :: L) D lo := by
 have hset := fun k => gI_set c v k (lo + w) hv
 have hvD : v ∉ D := fun hm => by have := h.past v hm; omega
 refine ⟨fun p hp => ?_, fun u hu => ?_, h.nd, fun u hu => by simpa using h.lt u hu, ?_⟩
 ·rcases List.mem_cons.1 hp with rfl | hp
  ·omega
  ·exact h.low p hp
 ·have huv : u ≠ v := fun e => hvD (e ▸ hu)
  rw [hset, if_neg huv]
  refine ⟨(h.past u hu).1, (h.past u hu).2.1, fun p hp he => ?_⟩
  rcases List.mem_cons.1 hp with rfl | hp
  ·exact absurd (he.symm.trans hq) huv
  ·exact (h.past u hu).2.2 p hp he
 ·rw [List.map_cons]
  refine List.nodup_cons.2 ⟨fun hm => ?_, h.twice⟩
  obtain ⟨p, hp, he⟩ := List.mem_map.1 hm
  injection he with e1 e2
  have := hle p hp
  rw [e1, hq] at this
  omega
end
end Go.Proofs.Yteehgcbjmdideab
/- Spots: a state, and how many letters of two words are used; edges from spot to spot; what a pair of words costs. -/
namespace Go.Proofs.Yteehgcbjmdideab
def spotN (N O n i o : Nat) : Nat := (i * (O + 1) + o) * N + n
theorem mul_add_inj {N a a' n n' : Nat} (hn : n < N) (hn' : n' < N) (h : a * N + n = a' * N + n') : a = a' ∧ n = n' := by
 have e1 : (a * N + n) / N = a := by rw [Nat.mul_comm, Nat.mul_add_div (by omega), Nat.div_eq_of_lt hn, Nat.add_zero]
 have e2 : (a' * N + n') / N = a' := by rw [Nat.mul_comm, Nat.mul_add_div (by omega), Nat.div_eq_of_lt hn', Nat.add_zero]
 have e3 : a = a' := by rw [← e1, ← e2, h]
 subst e3
 exact ⟨rfl, by omega⟩
theorem spotN_inj {N O n i o n' i' o' : Nat} (hn : n < N) (hn' : n' < N) (ho : o ≤ O) (ho' : o' ≤ O) (h : spotN N O n i o = spotN N O n' i' o') : n = n' ∧ i = i' ∧ o = o' := by
 obtain ⟨h1, h2⟩ := mul_add_inj hn hn' h
 obtain ⟨h3, h4⟩ := mul_add_inj (N := O + 1) (by omega) (by omega) h1
 exact ⟨h2, h3, h4⟩
theorem place_lt {I O i o : Nat} (hi : i ≤ I) (ho : o ≤ O) : i * (O + 1) + o < (I + 1) * (O + 1) := by
 have h := Nat.mul_le_mul_right (O + 1) hi
 have e : (I + 1) * (O + 1) = I * (O + 1) + (O + 1) := by rw [Nat.add_mul, Nat.one_mul]
 omega
theorem mul_add_lt {N P p n : Nat} (hp : p < P) (hn : n < N) : p * N + n < P * N := by
 have h := Nat.mul_le_mul_right N (show p + 1 ≤ P by omega)
 rw [Nat.add_mul, Nat.one_mul] at h
 omega
theorem spotN_lt {N I O n i o : Nat} (hn : n < N) (hi : i ≤ I) (ho : o ≤ O) : spotN N O n i o < (I + 1) * (O + 1) * N := mul_add_lt (place_lt hi ho) hn
def fitB (word : List Int) (used : Nat) (letter : Int) : Bool := (letter == 0) || (decide (used < word.length) && (word.getD used 0 == letter))
def usedBy (used : Nat) (letter : Int) : Nat := if letter = 0 then used else used + 1
theorem usedBy_le {word : List Int} {used : Nat} {letter : Int} (h : fitB word used letter = true) (hu : used ≤ word.length) : usedBy used letter ≤ word.length := by
 unfold usedBy
 unfold fitB at h
 split
 ·exact hu
 ·rename_i hl
  simp [hl] at h
  omega
def edgeS (N : Nat) (ins outs : List Int) (i o : Nat) (a : ArcD) : Edg :=
 if (fitB ins i a.inp && fitB outs o a.out) = true then ⟨spotN N outs.length a.src.toNat i o, spotN N outs.length a.dst.toNat (usedBy i a.inp) (usedBy o a.out), a.wt⟩ else ⟨0, 0, 0⟩
def edK (N : Nat) (ins outs : List Int) (arcs : List ArcD) (k : Nat) : List Edg := (List.range k).flatMap fun p => arcs.map (edgeS N ins outs (p / (outs.length + 1)) (p % (outs.length + 1)))
def edS (N : Nat) (ins outs : List Int) (arcs : List ArcD) : List Edg := edK N ins outs arcs ((ins.length + 1) * (outs.length + 1))
theorem edK_succ (N : Nat) (ins outs : List Int) (arcs : List ArcD) (k : Nat) : edK N ins outs arcs (k + 1) = edK N ins outs arcs k ++ arcs.map (edgeS N ins outs (k / (outs.length + 1)) (k % (outs.length + 1))) := by
 simp [edK, List.range_succ]
theorem edK_len (N : Nat) (ins outs : List Int) (arcs : List ArcD) (k : Nat) : (edK N ins outs arcs k).length = k * arcs.length := by
 induction k with
 | zero => simp [edK]
 | succ k ih => rw [edK_succ, List.length_append, ih, List.length_map, Nat.add_mul, Nat.one_mul]
theorem edK_get (N : Nat) (ins outs : List Int) (arcs : List ArcD) (k p n : Nat) (a : ArcD) (hp : p < k) (hn : arcs[n]? = some a) : (edK N ins outs arcs k)[p * arcs.length + n]? = some (edgeS N ins outs (p / (outs.length + 1)) (p % (outs.length + 1)) a) := by
 have hnl : n < arcs.length := by
  by_cases h : n < arcs.length
  ·exact h
  ·rw [List.getElem?_eq_none (by omega)] at hn; cases hn
 induction k with
 | zero => omega
 | succ k ih =>
  rw [edK_succ]
  by_cases h : p < k
  ·rw [List.getElem?_append_left (by rw [edK_len]; exact mul_add_lt h hnl)]
   exact ih h
  ·have : p = k := by omega
   subst this
   rw [List.getElem?_append_right (by rw [edK_len]; omega), edK_len, Nat.add_sub_cancel_left, List.getElem?_map, hn]
   rfl
theorem place_div {O i o : Nat} (ho : o ≤ O) : (i * (O + 1) + o) / (O + 1) = i ∧ (i * (O + 1) + o) % (O + 1) = o := by
 constructor
 ·rw [Nat.mul_comm, Nat.mul_add_div (by omega), Nat.div_eq_of_lt (by omega), Nat.add_zero]
 ·rw [Nat.mul_comm, Nat.mul_add_mod, Nat.mod_eq_of_lt (by omega)]
theorem place_of {I O p : Nat} (hp : p < (I + 1) * (O + 1)) : p / (O + 1) ≤ I ∧ p % (O + 1) ≤ O ∧ p / (O + 1) * (O + 1) + p % (O + 1) = p := by
 have h1 : p / (O + 1) < I + 1 := Nat.div_lt_of_lt_mul (by rw [Nat.mul_comm]; exact hp)
 have h2 : p % (O + 1) < O + 1 := Nat.mod_lt _ (by omega)
 have h3 := Nat.div_add_mod p (O + 1)
 rw [Nat.mul_comm] at h3
 exact ⟨by omega, by omega, h3⟩
theorem edS_get {N : Nat} {ins outs : List Int} {arcs : List ArcD} {i o n : Nat} {a : ArcD} (hi : i ≤ ins.length) (ho : o ≤ outs.length) (hn : arcs[n]? = some a) : (edS N ins outs arcs)[(i * (outs.length + 1) + o) * arcs.length + n]? = some (edgeS N ins outs i o a) := by
 have := edK_get N ins outs arcs _ _ n a (place_lt hi ho) hn
 rw [(place_div ho).1, (place_div ho).2] at this
 exact this
theorem edS_mem {N : Nat} {ins outs : List Int} {arcs : List ArcD} {e : Edg} : e ∈ edS N ins outs arcs ↔ ∃ i o a, i ≤ ins.length ∧ o ≤ outs.length ∧ a ∈ arcs ∧ e = edgeS N ins outs i o a := by
 unfold edS edK
 rw [List.mem_flatMap]
 constructor
 ·rintro ⟨p, hp, he⟩
  obtain ⟨a, ha, rfl⟩ := List.mem_map.1 he
  obtain ⟨h1, h2, _⟩ := place_of (List.mem_range.1 hp)
  exact ⟨_, _, a, h1, h2, ha, rfl⟩
 ·rintro ⟨i, o, a, hi, ho, ha, rfl⟩
  refine ⟨i * (outs.length + 1) + o, List.mem_range.2 (place_lt hi ho), List.mem_map.2 ⟨a, ha, ?_⟩⟩
  rw [(place_div ho).1, (place_div ho).2]
def bgS (s T : Nat) : List Int := (List.range T).map fun v => if v = s then 0 else -1
theorem bgS_len (s T : Nat) : (bgS s T).length = T := by simp [bgS]
theorem bgS_at (s T v : Nat) : gI (bgS s T) v = if v = s ∧ v < T then 0 else -1 := by
 unfold gI bgS
 by_cases hv : v < T
 ·simp [List.getD, hv]
 ·simp [List.getD, hv]
def finS (T N : Nat) (fin : List Int) (u : Nat) : Int := if T - N ≤ u then gI fin (u - (T - N)) else -1
theorem spotN_end (N I O n : Nat) : spotN N O n I O = (I + 1) * (O + 1) * N - N + n := by
 have e : (I + 1) * (O + 1) = (I * (O + 1) + O) + 1 := by rw [Nat.add_mul, Nat.one_mul]; omega
 unfold spotN
 rw [e, Nat.add_mul (I * (O + 1) + O) 1 N, Nat.one_mul]
 omega
theorem finS_end (N I O n : Nat) (fin : List Int) : finS ((I + 1) * (O + 1) * N) N fin (spotN N O n I O) = gI fin n := by
 unfold finS
 rw [spotN_end N I O n, if_pos (by omega), Nat.add_sub_cancel_left]
theorem finS_no (N I O n i o : Nat) (fin : List Int) (hn : n < N) (hi : i ≤ I) (ho : o ≤ O) (h : i < I ∨ o < O) : finS ((I + 1) * (O + 1) * N) N fin (spotN N O n i o) = -1 := by
 unfold finS
 rw [if_neg]
 intro hle
 have hp : i * (O + 1) + o < I * (O + 1) + O := by
  have h1 := Nat.mul_le_mul_right (O + 1) hi
  rcases h with h | h
  ·have h2 := Nat.mul_le_mul_right (O + 1) (show i + 1 ≤ I by omega)
   rw [Nat.add_mul, Nat.one_mul] at h2
   omega
  ·omega
 have h3 := mul_add_lt (N := N) hp hn
 have e : (I + 1) * (O + 1) = (I * (O + 1) + O) + 1 := by rw [Nat.add_mul, Nat.one_mul]; omega
 rw [e, Nat.add_mul (I * (O + 1) + O) 1 N, Nat.one_mul] at hle
 unfold spotN at hle
 omega
end Go.Proofs.Yteehgcbjmdideab
/- What the document's tables hold: place by place, along arcs that say something, then along silent ones till nothing is better. -/
namespace Go.Proofs.Yteehgcbjmdideab
def segL (c : List Int) (N p : Nat) : List Int := (c.drop (p * N)).take N
theorem segL_at (c : List Int) (N p n : Nat) (hn : n < N) : gI (segL c N p) n = gI c (p * N + n) := by
 unfold gI segL
 simp [List.getD, hn]
end Go.Proofs.Yteehgcbjmdideab
/- Arcs that stand by where they begin: the number of the first arc of each state. Edges from spot to spot, their bounds. -/
namespace Go.Proofs.Yteehgcbjmdideab
def SortedA : List ArcD → Prop
 | [] => True
 | a :: l => (∀ x ∈ l, a.src ≤ x.src) ∧ SortedA l
theorem ahead_src {a b : ArcD} (h : aheadB a b = true) : a.src ≤ b.src := by
 unfold aheadB at h
 split at h
 ·have := of_decide_eq_true h; omega
 ·rename_i he
  have : a.src = b.src := Classical.byContradiction fun hn => he hn
  omega
theorem arcsErr_sorted (st : Int) (l : List ArcD) (p : Option ArcD) (h : arcsErr st p l = 0) : SortedA l ∧ ∀ q, p = some q → ∀ x ∈ l, q.src ≤ x.src := by
 induction l generalizing p with
 | nil => exact ⟨trivial, fun _ _ x hx => by cases hx⟩
 | cons a l ih =>
  unfold arcsErr at h
  split at h
  ·rename_i h0
   obtain ⟨h1, h2⟩ := ih (some a) h
   refine ⟨⟨h2 a rfl, h1⟩, fun q hq x hx => ?_⟩
   have hqa : q.src ≤ a.src := by
    subst hq
    unfold arcErr at h0
    split at h0
    ·cases h0
    ·split at h0
     ·cases h0
     ·simp only at h0
      split at h0
      ·rename_i ha; exact ahead_src ha
      ·cases h0
   rcases List.mem_cons.1 hx with rfl | hx
   ·exact hqa
   ·have := h2 a rfl x hx; omega
  ·rename_i h0; exact absurd h h0
def cntB (l : List ArcD) (s : Nat) : Nat := (l.filter fun a => decide (a.src < (s : Int))).length
theorem cntB_le (l : List ArcD) (s : Nat) : cntB l s ≤ l.length := List.length_filter_le _ _
theorem cntB_zero (l : List ArcD) (h : ∀ a ∈ l, 0 ≤ a.src) : cntB l 0 = 0 := by
 unfold cntB
 rw [List.length_eq_zero_iff, List.filter_eq_nil_iff]
 intro a ha
 have := h a ha
 simp
 omega
theorem SortedA.at {l : List ArcD} (h : SortedA l) (s k : Nat) (a : ArcD) (hk : l[k]? = some a) : k < cntB l s ↔ a.src < (s : Int) := by
 induction l generalizing k with
 | nil => simp at hk
 | cons b l ih =>
  obtain ⟨h1, h2⟩ := h
  unfold cntB
  by_cases hb : b.src < (s : Int)
  ·rw [List.filter_cons_of_pos (by simpa using hb), List.length_cons]
   cases k with
   | zero =>
    simp at hk; subst hk
    exact ⟨fun _ => hb, fun _ => by omega⟩
   | succ k =>
    have := ih h2 k (by simpa using hk)
    unfold cntB at this
    omega
  ·have hn : (b :: l).filter (fun a => decide (a.src < (s : Int))) = [] := by
    rw [List.filter_eq_nil_iff]
    intro x hx
    rcases List.mem_cons.1 hx with rfl | hx
    ·simpa using hb
    ·have := h1 x hx
     simp; omega
   rw [hn]
   have ha : a ∈ b :: l := List.mem_of_getElem? hk
   have : b.src ≤ a.src := by
    rcases List.mem_cons.1 ha with rfl | ha
    ·exact Int.le_refl _
    ·exact h1 a ha
   simp
   omega
theorem SortedA.of {l : List ArcD} (h : SortedA l) (s k : Nat) (a : ArcD) (hk : l[k]? = some a) : (cntB l s ≤ k ∧ k < cntB l (s + 1)) ↔ a.src = (s : Int) := by
 have h1 := h.at s k a hk
 have h2 := h.at (s + 1) k a hk
 omega
section
variable {N : Nat} {ins outs : List Int} {arcs : List ArcD}
theorem edS_bounds (hN : 1 ≤ N) (hok : ∀ a ∈ arcs, (0 ≤ a.src ∧ a.src < N) ∧ (0 ≤ a.dst ∧ a.dst < N) ∧ (0 ≤ a.wt ∧ a.wt ≤ 1000000000)) : ∀ e ∈ edS N ins outs arcs, e.v < (ins.length + 1) * (outs.length + 1) * N ∧ 0 ≤ e.w ∧ e.w ≤ 1000000000 := by
 intro e he
 obtain ⟨i, o, a, hi, ho, ha, rfl⟩ := edS_mem.1 he
 obtain ⟨_, h2, h3⟩ := hok a ha
 unfold edgeS
 split
 ·rename_i hf
  rw [Bool.and_eq_true] at hf
  exact ⟨spotN_lt (by omega) (usedBy_le hf.1 hi) (usedBy_le hf.2 ho), h3⟩
 ·refine ⟨?_, by decide, by decide⟩
  have := spotN_lt (N := N) (n := 0) (i := 0) (o := 0) (by omega) (Nat.zero_le ins.length) (Nat.zero_le outs.length)
  show 0 < _
  omega
theorem edS_from {n i o : Nat} (hn : n < N) (ho : o ≤ outs.length) (hok : ∀ a ∈ arcs, (0 ≤ a.src ∧ a.src < N) ∧ (0 ≤ a.dst ∧ a.dst < N) ∧ (0 ≤ a.wt ∧ a.wt ≤ 1000000000)) {e : Edg} (he : e ∈ edS N ins outs arcs) (hu : e.u = spotN N outs.length n i o) :
  e = ⟨0, 0, 0⟩ ∨ ∃ (k : Nat) (a : ArcD), arcs[k]? = some a ∧ a.src = (n : Int) ∧ (fitB ins i a.inp && fitB outs o a.out) = true ∧ e = edgeS N ins outs i o a := by
 obtain ⟨i', o', a, hi', ho', ha, rfl⟩ := edS_mem.1 he
 obtain ⟨h1, _, _⟩ := hok a ha
 by_cases hf : (fitB ins i' a.inp && fitB outs o' a.out) = true
 ·right
  unfold edgeS at hu
  rw [if_pos hf] at hu
  obtain ⟨h3, rfl, rfl⟩ := spotN_inj (by omega) hn ho' ho hu
  obtain ⟨k, hk⟩ := List.getElem?_of_mem ha
  exact ⟨k, a, hk, by omega, hf, rfl⟩
 ·left
  unfold edgeS
  rw [if_neg hf]
theorem rlx_zero {c : List Int} (h : 0 ≤ gI c 0) : Rlx c ⟨0, 0, 0⟩ := ⟨h, by simp⟩
end
end Go.Proofs.Yteehgcbjmdideab
/- 'use' of package score: a letter behind those that are used already. -/
namespace Go.Proofs.Yteehgcbjmdideab
open Go.RowKit
attribute [local go_sem ↓] Go.wp_at_zero Go.wp_at_succ
theorem ret_use {x y : Int} {r s : Bool} (h1 : x = y) (h2 : r = s) : Ending.returned (.tuple #[.int .i64 x, .bool r]) = .returned (.tuple #[.int .i64 y, .bool s]) := by rw [h1, h2]
set_option maxHeartbeats 1000000 in
theorem use_any (ws : List Int) (a : Option Addr) (n c used : Nat) (letter : Int) (w : World) (h : ISlice w (.slice a n c) ws) (hl : ws.length = n) (hn : n ≤ 40) (hu : used ≤ n) :
  Calls Try.prog 113 #[.slice a n c, .int .i64 used, .int .i64 letter] w fun e w' => e = .returned (.tuple #[.int .i64 (usedBy used letter : Nat), .bool (fitB ws used letter)]) ∧ Below w.heap.size w w' := by
 by_cases h0 : letter = 0
 ·subst h0
  go_enter Try.func113, Try.ntmps113
  go_wp2
  go_ret2
  exact ⟨ret_use (by simp [usedBy]) (by simp [fitB]), bel_self _⟩
 ·have h0b : (letter == 0) = false := by simpa using h0
  have HU : Hid (((usedBy used letter : Nat) : Int) = used + 1) := (by simp [usedBy, h0] : ((usedBy used letter : Nat) : Int) = used + 1)
  by_cases hlt : used < n
  ·obtain ⟨b, off, rfl, hx⟩ := h.some (by omega)
   have c0 := hx.cell used hlt
   obtain ⟨x, hxd⟩ : ∃ x, x = ws.getD used 0 := ⟨_, rfl⟩
   rw [← hxd] at c0
   have HX : Hid (fitB ws used letter = (x == letter)) := (by rw [hxd]; simp [fitB, h0, hl, hlt] : fitB ws used letter = (x == letter))
   have hd : decide ((used : Int) < n) = true := by simpa using hlt
   have hi : (used : Int) < n := by omega
   clear hxd h0 hx
   go_enter Try.func113, Try.ntmps113
   go_wp2
   go_quiet (fail)
   go_wp2
   go_ret2
   exact ⟨ret_use HU.out.symm HX.out.symm, bel_drewN (bel_self w) _⟩
  ·have HX : Hid (fitB ws used letter = false) := (by simp [fitB, h0, hl, hlt] : fitB ws used letter = false)
   have hd : decide ((used : Int) < n) = false := by simpa using hlt
   have hi : (n : Int) ≤ used := by omega
   clear h0
   go_enter Try.func113, Try.ntmps113
   go_wp2
   go_quiet (fail)
   go_wp2
   go_ret2
   exact ⟨ret_use HU.out.symm HX.out.symm, bel_drewN (bel_self w) _⟩
end Go.Proofs.Yteehgcbjmdideab
/- What the search's map and queue hold, as prices of spots. -/
namespace Go.Proofs.Yteehgcbjmdideab
open Go.RowKit
def eP (N O : Nat) (p : PlD) : Nat := spotN N O p.st p.rd p.wt
def arcOf (m : Nat) (z : Int) : Int := if z = -1 then -1 else z % (m : Int)
def MsOk (N I O m : Nat) (c y : List Int) (ms : List MetD) : Prop :=
 ∀ n i o, n < N → i ≤ I → o ≤ O → lookM n i o ms = if gI c (spotN N O n i o) = -1 then none else some ⟨n, i, o, gI c (spotN N O n i o), arcOf m (gI y (spotN N O n i o))⟩
theorem MsOk.put {N I O m : Nat} {c y : List Int} {ms : List MetD} (h : MsOk N I O m c y ms) {n i o : Nat} (hn : n < N) (hi : i ≤ I) (ho : o ≤ O) (hc : c.length = (I + 1) * (O + 1) * N) (hy : y.length = c.length) {x : Int} (hx : 0 ≤ x) {j k : Nat} (hj : j % m = k) :
  MsOk N I O m (c.set (spotN N O n i o) x) (y.set (spotN N O n i o) (j : Int)) (putM ⟨n, i, o, x, (k : Int)⟩ ms) := by
 have hu : spotN N O n i o < c.length := by rw [hc]; exact spotN_lt hn hi ho
 intro n' i' o' hn' hi' ho'
 rw [lookM_put, gI_set c _ _ _ hu, gI_set y _ _ _ (by rw [hy]; exact hu)]
 by_cases he : n = n' ∧ i = i' ∧ o = o'
 ·obtain ⟨rfl, rfl, rfl⟩ := he
  rw [if_pos ⟨rfl, rfl, rfl⟩, if_pos rfl, if_pos rfl, if_neg (by omega)]
  have e : arcOf m (j : Int) = (k : Int) := by
   unfold arcOf
   rw [if_neg (by omega), ← hj]
   omega
  rw [e]
 ·rw [if_neg he]
  have hne : ¬ spotN N O n' i' o' = spotN N O n i o := fun e => by
   obtain ⟨h1, h2, h3⟩ := spotN_inj hn' hn ho' ho e
   exact he ⟨h1.symm, h2.symm, h3.symm⟩
  rw [if_neg hne, if_neg hne]
  exact h n' i' o' hn' hi' ho'
section
variable (f : FstD) (ins outs : List Int) (N : Nat)
def totS : Nat := (ins.length + 1) * (outs.length + 1) * N
def EdS : List Edg := edS N ins outs f.arcs
end
structure SGh (f : FstD) (ins outs : List Int) (N s0 : Nat) (c y : List Int) (ms : List MetD) (L : List PlD) (best : Int) (x0 : Nat) (D : List Nat) (lo : Int) : Prop where
 si : SI (EdS f ins outs N) (bgS s0 (totS ins outs N)) (finS (totS ins outs N) N f.final) (eP N outs.length) PlD.cost c y L best x0
 sd : SD (eP N outs.length) PlD.cost c L D lo
 mo : MsOk N ins.length outs.length f.arcs.length c y ms
 vd : ∀ p ∈ L, p.st < N ∧ p.rd ≤ ins.length ∧ p.wt ≤ outs.length
 cl : c.length = totS ins outs N
structure OkW (f : FstD) (ins outs : List Int) (N s0 : Nat) : Prop where
 n1 : 1 ≤ N
 n2 : N ≤ 200
 s : s0 < N
 i40 : ins.length ≤ 40
 o40 : outs.length ≤ 40
 many : f.arcs.length ≤ 3000
 arcs : ∀ a ∈ f.arcs, (0 ≤ a.src ∧ a.src < N) ∧ (0 ≤ a.dst ∧ a.dst < N) ∧ (0 ≤ a.wt ∧ a.wt ≤ 1000000000)
 sort : SortedA f.arcs
 len : f.final.length = N
 fin : ∀ x ∈ f.final, x = -1 ∨ (0 ≤ x ∧ x ≤ 1000000000)
section
variable {f : FstD} {ins outs : List Int} {N s0 : Nat} {c y : List Int} {ms : List MetD} {L : List PlD} {best : Int} {x0 : Nat} {D : List Nat} {lo : Int}
theorem OkW.tot (h : OkW f ins outs N s0) : totS ins outs N ≤ 400000 := by
 unfold totS
 have h1 : (ins.length + 1) * (outs.length + 1) ≤ 41 * 41 := Nat.mul_le_mul (by have := h.i40; omega) (by have := h.o40; omega)
 have h2 := Nat.mul_le_mul h1 h.n2
 omega
theorem OkW.edges (h : OkW f ins outs N s0) : ∀ e ∈ EdS f ins outs N, e.v < totS ins outs N ∧ 0 ≤ e.w ∧ e.w ≤ 1000000000 := edS_bounds h.n1 h.arcs
theorem SGh.perm {L' : List PlD} (h : SGh f ins outs N s0 c y ms L best x0 D lo) (hp : L.Perm L') : SGh f ins outs N s0 c y ms L' best x0 D lo :=
 ⟨h.si.perm hp, h.sd.perm hp, h.mo, fun p hm => h.vd p (hp.mem_iff.2 hm), h.cl⟩
theorem SGh.look (h : SGh f ins outs N s0 c y ms L best x0 D lo) {n i o : Nat} (hn : n < N) (hi : i ≤ ins.length) (ho : o ≤ outs.length) :
  (gI c (spotN N outs.length n i o) = -1 ∧ lookM n i o ms = none) ∨ (0 ≤ gI c (spotN N outs.length n i o) ∧ lookM n i o ms = some ⟨n, i, o, gI c (spotN N outs.length n i o), arcOf f.arcs.length (gI y (spotN N outs.length n i o))⟩) := by
 have h1 := h.mo n i o hn hi ho
 have h2 := h.si.inv.lo (spotN N outs.length n i o)
 by_cases e : gI c (spotN N outs.length n i o) = -1
 ·rw [if_pos e] at h1
  exact Or.inl ⟨e, h1⟩
 ·rw [if_neg e] at h1
  exact Or.inr ⟨by omega, h1⟩
theorem SGh.go {n i o k : Nat} {a : ArcD} (hok : OkW f ins outs N s0) (h : SGh f ins outs N s0 c y ms L best (spotN N outs.length n i o) D lo) (hi : i ≤ ins.length) (ho : o ≤ outs.length) (hk : f.arcs[k]? = some a) (hs : a.src = (n : Int)) (hfit : (fitB ins i a.inp && fitB outs o a.out) = true)
  (hx : gI c (spotN N outs.length n i o) = lo) (hx0 : 0 ≤ lo) {t : Nat} (ht : a.dst = (t : Int)) {c' : Int} (hc' : gI c (spotN N outs.length t (usedBy i a.inp) (usedBy o a.out)) = c') :
  (¬ (c' = -1 ∨ lo + a.wt < c') → Rlx c (edgeS N ins outs i o a)) ∧
  ((c' = -1 ∨ lo + a.wt < c') → ∃ c2 y2, SGh f ins outs N s0 c2 y2 (putM ⟨t, usedBy i a.inp, usedBy o a.out, lo + a.wt, (k : Int)⟩ ms) (⟨t, usedBy i a.inp, usedBy o a.out, lo + a.wt⟩ :: L) best (spotN N outs.length n i o) D lo ∧ gI c2 (spotN N outs.length n i o) = lo ∧ LeC c2 c ∧ Rlx c2 (edgeS N ins outs i o a)) := by
 have hmem := List.mem_of_getElem? hk
 obtain ⟨⟨s1, s2⟩, ⟨d1, d2⟩, w1, w2⟩ := hok.arcs a hmem
 have htN : t < N := by omega
 rw [Bool.and_eq_true] at hfit
 have hi' := usedBy_le hfit.1 hi
 have ho' := usedBy_le hfit.2 ho
 have he : edgeS N ins outs i o a = ⟨spotN N outs.length n i o, spotN N outs.length t (usedBy i a.inp) (usedBy o a.out), a.wt⟩ := by
  unfold edgeS
  rw [if_pos (by rw [Bool.and_eq_true]; exact hfit), hs, ht, Int.toNat_natCast, Int.toNat_natCast]
 have hj := edS_get (N := N) (outs := outs) hi ho hk
 rw [he] at hj
 have hkm : k < f.arcs.length := by
  obtain ⟨h1, _⟩ := List.getElem?_eq_some_iff.1 hk
  exact h1
 refine ⟨fun hbt => ?_, fun hbt => ?_⟩
 ·rw [he]
  exact rlx_no hx (h.si.inv.lo _) (by rw [hc']; exact hbt)
 ·have hvT : spotN N outs.length t (usedBy i a.inp) (usedBy o a.out) < totS ins outs N := spotN_lt htN hi' ho'
  have hm := h.si.meet (e := ⟨spotN N outs.length n i o, spotN N outs.length t (usedBy i a.inp) (usedBy o a.out), a.wt⟩) (q := ⟨t, usedBy i a.inp, usedBy o a.out, lo + a.wt⟩) (x := lo) (by rw [bgS_len]; exact hok.tot) hj (by rw [bgS_len]; exact hvT) w1 w2 hx hx0 (by show gI c (spotN N outs.length t (usedBy i a.inp) (usedBy o a.out)) = -1 ∨ _; rw [hc']; exact hbt) rfl rfl
  refine ⟨_, _, ⟨hm.1, h.sd.meet (by rw [h.cl]; exact hvT) w1 (by rw [hc']; exact hbt) rfl rfl (fun p hp => h.si.heap p hp), ?_, fun p hp => ?_, by rw [List.length_set]; exact h.cl⟩, hm.2.2.1, hm.2.2.2.1, by rw [he]; exact hm.2.2.2.2⟩
  ·exact h.mo.put (x := lo + a.wt) htN hi' ho' h.cl (by rw [h.si.inv.ylen, h.si.inv.len]) (by omega) (by rw [Nat.mul_comm, Nat.mul_add_mod]; exact Nat.mod_eq_of_lt hkm)
  ·rcases List.mem_cons.1 hp with rfl | hp
   ·exact ⟨htN, hi', ho'⟩
   ·exact h.vd p hp
end
end Go.Proofs.Yteehgcbjmdideab
/- Ways through a transducer by two words: a state, how many letters are used, what it cost. What a pair of words costs, told by them. -/
namespace Go.Proofs.Yteehgcbjmdideab
def PathN (f : FstD) (ins outs : List Int) (s0 : Nat) : Nat → Nat → Nat → Nat → Int → Prop
 | 0, n, i, o, z => n = s0 ∧ i = 0 ∧ o = 0 ∧ z = 0
 | h + 1, n, i, o, z => ∃ a ∈ f.arcs, ∃ n' i' o' z', PathN f ins outs s0 h n' i' o' z' ∧ a.src = (n' : Int) ∧ a.dst = (n : Int) ∧ fitB ins i' a.inp = true ∧ fitB outs o' a.out = true ∧ i = usedBy i' a.inp ∧ o = usedBy o' a.out ∧ z = z' + a.wt
def TotP (f : FstD) (ins outs : List Int) (s0 : Nat) (x : Int) : Prop :=
 ∃ h n z, PathN f ins outs s0 h n ins.length outs.length z ∧ 0 ≤ gI f.final n ∧ x = z + gI f.final n
def BestP (f : FstD) (ins outs : List Int) (s0 : Nat) (x : Int) : Prop :=
 (x = -1 ∧ ∀ y, ¬ TotP f ins outs s0 y) ∨ (0 ≤ x ∧ TotP f ins outs s0 x ∧ ∀ y, TotP f ins outs s0 y → x ≤ y)
theorem BestP.unique {f : FstD} {ins outs : List Int} {s0 : Nat} {x z : Int} (h : BestP f ins outs s0 x) (h' : BestP f ins outs s0 z) : x = z := by
 rcases h with ⟨rfl, h1⟩ | ⟨_, h1, h2⟩
 ·rcases h' with ⟨rfl, _⟩ | ⟨_, h3, _⟩
  ·rfl
  ·exact absurd h3 (h1 _)
 ·rcases h' with ⟨rfl, h3⟩ | ⟨_, h3, h4⟩
  ·exact absurd h1 (h3 _)
  ·have := h2 _ h3
   have := h4 _ h1
   omega
theorem BestP.of_tot {f g : FstD} {ins outs ins' outs' : List Int} {s0 t0 : Nat} {x : Int} (h : BestP f ins outs s0 x) (he : ∀ y, TotP f ins outs s0 y ↔ TotP g ins' outs' t0 y) : BestP g ins' outs' t0 x := by
 rcases h with ⟨h1, h2⟩ | ⟨h1, h2, h3⟩
 ·exact Or.inl ⟨h1, fun y hy => h2 y ((he y).2 hy)⟩
 ·exact Or.inr ⟨h1, (he x).1 h2, fun y hy => h3 y ((he y).2 hy)⟩
section
variable {f : FstD} {ins outs : List Int} {N s0 : Nat}
theorem PathN.le {h n i o : Nat} {z : Int} (hp : PathN f ins outs s0 h n i o z) : i ≤ ins.length ∧ o ≤ outs.length := by
 induction h generalizing n i o z with
 | zero => obtain ⟨_, rfl, rfl, _⟩ := hp; exact ⟨Nat.zero_le _, Nat.zero_le _⟩
 | succ h ih =>
  obtain ⟨a, _, n', i', o', z', hp', _, _, h1, h2, rfl, rfl, _⟩ := hp
  obtain ⟨g1, g2⟩ := ih hp'
  exact ⟨usedBy_le h1 g1, usedBy_le h2 g2⟩
theorem PathN.lt (hs : s0 < N) (ha : ∀ a ∈ f.arcs, 0 ≤ a.dst ∧ a.dst < N) {h n i o : Nat} {z : Int} (hp : PathN f ins outs s0 h n i o z) : n < N := by
 cases h with
 | zero => obtain ⟨rfl, _⟩ := hp; exact hs
 | succ h =>
  obtain ⟨a, hm, _, _, _, _, _, _, hd, _⟩ := hp
  have := ha a hm
  omega
theorem way_path (hok : OkW f ins outs N s0) {h v : Nat} {z : Int} (hw : WayN (EdS f ins outs N) (bgS s0 (totS ins outs N)) h v z) :
  ∃ h' n i o, n < N ∧ i ≤ ins.length ∧ o ≤ outs.length ∧ v = spotN N outs.length n i o ∧ PathN f ins outs s0 h' n i o z := by
 induction h generalizing v z with
 | zero =>
  obtain ⟨h1, h2⟩ := hw
  rw [bgS_at] at h1
  split at h1
  ·rename_i hv
   refine ⟨0, s0, 0, 0, hok.s, Nat.zero_le _, Nat.zero_le _, ?_, rfl, rfl, rfl, h1.symm⟩
   rw [hv.1]
   unfold spotN
   omega
  ·omega
 | succ h ih =>
  obtain ⟨e, he, rfl, c, hc, rfl⟩ := hw
  obtain ⟨h', n, i, o, hn, hi, ho, hu, hp⟩ := ih hc
  obtain ⟨i', o', a, hi', ho', ha, rfl⟩ := edS_mem.1 he
  obtain ⟨⟨p1, p2⟩, ⟨p3, p4⟩, _⟩ := hok.arcs a ha
  by_cases hf : (fitB ins i' a.inp && fitB outs o' a.out) = true
  ·have hE : edgeS N ins outs i' o' a = ⟨spotN N outs.length a.src.toNat i' o', spotN N outs.length a.dst.toNat (usedBy i' a.inp) (usedBy o' a.out), a.wt⟩ := by unfold edgeS; rw [if_pos hf]
   rw [hE] at hu ⊢
   rw [Bool.and_eq_true] at hf
   obtain ⟨e1, e2, e3⟩ := spotN_inj (by omega) hn ho' ho hu
   subst e1 e2 e3
   exact ⟨h' + 1, a.dst.toNat, usedBy i' a.inp, usedBy o' a.out, by omega, usedBy_le hf.1 hi', usedBy_le hf.2 ho', rfl, a, ha, a.src.toNat, i', o', c, hp, by omega, by omega, hf.1, hf.2, rfl, rfl, rfl⟩
  ·have hE : edgeS N ins outs i' o' a = ⟨0, 0, 0⟩ := by unfold edgeS; rw [if_neg hf]
   rw [hE] at hu ⊢
   exact ⟨h', n, i, o, hn, hi, ho, hu, by rw [Int.add_zero]; exact hp⟩
theorem path_way (hok : OkW f ins outs N s0) {h n i o : Nat} {z : Int} (hp : PathN f ins outs s0 h n i o z) : WayN (EdS f ins outs N) (bgS s0 (totS ins outs N)) h (spotN N outs.length n i o) z := by
 induction h generalizing n i o z with
 | zero =>
  obtain ⟨rfl, rfl, rfl, rfl⟩ := hp
  refine ⟨?_, by decide⟩
  have e : spotN N outs.length n 0 0 = n := by unfold spotN; omega
  have hl := spotN_lt (N := N) (n := n) (i := 0) (o := 0) hok.s (Nat.zero_le ins.length) (Nat.zero_le outs.length)
  rw [e] at hl
  rw [e, bgS_at, if_pos ⟨rfl, hl⟩]
 | succ h ih =>
  obtain ⟨a, hm, n', i', o', z', hp', hs, hd, h1, h2, rfl, rfl, rfl⟩ := hp
  obtain ⟨g1, g2⟩ := hp'.le
  refine ⟨edgeS N ins outs i' o' a, edS_mem.2 ⟨i', o', a, g1, g2, hm, rfl⟩, ?_, z', ?_, ?_⟩
  ·unfold edgeS
   rw [if_pos (by rw [Bool.and_eq_true]; exact ⟨h1, h2⟩), hd, Int.toNat_natCast]
  ·have := ih hp'
   unfold edgeS
   rw [if_pos (by rw [Bool.and_eq_true]; exact ⟨h1, h2⟩), hs, Int.toNat_natCast]
   exact this
  ·unfold edgeS
   rw [if_pos (by rw [Bool.and_eq_true]; exact ⟨h1, h2⟩)]
theorem best_path (hok : OkW f ins outs N s0) {x : Int} : IsBest (EdS f ins outs N) (bgS s0 (totS ins outs N)) (finS (totS ins outs N) N f.final) x ↔ BestP f ins outs s0 x := by
 have key : ∀ y, (∃ v h z, WayN (EdS f ins outs N) (bgS s0 (totS ins outs N)) h v z ∧ 0 ≤ finS (totS ins outs N) N f.final v ∧ y = z + finS (totS ins outs N) N f.final v) ↔ TotP f ins outs s0 y := by
  intro y
  constructor
  ·rintro ⟨v, h, z, hw, hf, rfl⟩
   obtain ⟨h', n, i, o, hn, hi, ho, rfl, hp⟩ := way_path hok hw
   by_cases hend : i = ins.length ∧ o = outs.length
   ·obtain ⟨rfl, rfl⟩ := hend
    have e : finS (totS ins outs N) N f.final (spotN N outs.length n ins.length outs.length) = gI f.final n := finS_end N ins.length outs.length n f.final
    rw [e] at hf ⊢
    exact ⟨h', n, z, hp, hf, rfl⟩
   ·have e : finS (totS ins outs N) N f.final (spotN N outs.length n i o) = -1 := finS_no N ins.length outs.length n i o f.final hn hi ho (by omega)
    rw [e] at hf
    omega
  ·rintro ⟨h, n, z, hp, hf, rfl⟩
   have e : finS (totS ins outs N) N f.final (spotN N outs.length n ins.length outs.length) = gI f.final n := finS_end N ins.length outs.length n f.final
   exact ⟨_, h, z, path_way hok hp, by rw [e]; exact hf, by rw [e]⟩
 constructor
 ·rintro (⟨h1, h2⟩ | ⟨h1, h2, h3⟩)
  ·exact Or.inl ⟨h1, fun y hy => by obtain ⟨v, h, z, hw, hf, _⟩ := (key y).2 hy; exact h2 v h z hw hf⟩
  ·obtain ⟨v, h, z, hw, hf, e⟩ := h2
   refine Or.inr ⟨h1, (key x).1 ⟨v, h, z, hw, hf, e⟩, fun y hy => ?_⟩
   obtain ⟨v, h, z, hw, hf, e⟩ := (key y).2 hy
   have := h3 v h z hw hf
   omega
 ·rintro (⟨h1, h2⟩ | ⟨h1, h2, h3⟩)
  ·exact Or.inl ⟨h1, fun v h z hw hf => h2 _ ((key _).1 ⟨v, h, z, hw, hf, rfl⟩)⟩
  ·exact Or.inr ⟨h1, (key x).2 h2, fun v h z hw hf => h3 _ ((key _).1 ⟨v, h, z, hw, hf, rfl⟩)⟩
end
end Go.Proofs.Yteehgcbjmdideab
