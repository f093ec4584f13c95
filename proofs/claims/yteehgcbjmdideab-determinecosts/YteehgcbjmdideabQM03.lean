/- A heap as a list: what lifting and sinking keep. -/
import Derived.OrdersHeld
import Derived.Deep.RegionHeld
import Derived.Deep.DrawnRows
import Derived.Test.YteehgcbjmdideabQM02
import Derived.Deep.AppendLies
namespace Go.Proofs.Yteehgcbjmdideab
section
variable {α : Type} {key : α → Int} {d : α} {L : List α}
def swapL (d : α) (L : List α) (i j : Nat) : List α := (L.set i (L.getD j d)).set j (L.getD i d)
theorem swapL_len (L : List α) (i j : Nat) : (swapL d L i j).length = L.length := by simp [swapL]
theorem swapL_at (L : List α) (i j k : Nat) (hi : i < L.length) (hj : j < L.length) : (swapL d L i j).getD k d = if k = j then L.getD i d else if k = i then L.getD j d else L.getD k d := by
 unfold swapL
 simp only [List.getD_eq_getElem?_getD, List.getElem?_set, List.length_set]
 by_cases h1 : j = k
 ·subst h1; simp [hj, hi]
 ·by_cases h2 : i = k
  ·subst h2; simp [h1, hi, Ne.symm h1]
  ·simp [h1, h2, Ne.symm h1, Ne.symm h2]
theorem set_mem_perm (L : List α) (i : Nat) (hi : i < L.length) (x : α) : (L.getD i d :: L.set i x).Perm (x :: L) := by
 induction L generalizing i with
 | nil => simp at hi
 | cons a l ih =>
  cases i with
  | zero => simpa using List.Perm.swap _ _ _
  | succ i =>
   have h := ih i (by simpa using hi)
   simp only [List.getD_cons_succ, List.set_cons_succ]
   exact (List.Perm.swap _ _ _).trans ((h.cons a).trans (List.Perm.swap _ _ _))
theorem swapL_perm (L : List α) (i j : Nat) (hi : i < L.length) (hj : j < L.length) : (swapL d L i j).Perm L := by
 have h1 := set_mem_perm (d := d) L i hi (L.getD j d)
 have h2 := set_mem_perm (d := d) (L.set i (L.getD j d)) j (by simpa using hj) (L.getD i d)
 have e : (L.set i (L.getD j d)).getD j d = L.getD j d := by
  simp only [List.getD_eq_getElem?_getD, List.getElem?_set]
  split
  ·rename_i h; subst h; simp [hi]
  ·rfl
 rw [e] at h2
 have h3 := h2.trans h1
 exact (List.perm_cons _).1 h3
def HeapL (key : α → Int) (d : α) (L : List α) (n : Nat) : Prop := ∀ k, 0 < k → k < n → key (L.getD ((k - 1) / 2) d) ≤ key (L.getD k d)
def UpOk (key : α → Int) (d : α) (L : List α) (n j : Nat) : Prop :=
 (∀ k, 0 < k → k < n → k ≠ j → key (L.getD ((k - 1) / 2) d) ≤ key (L.getD k d)) ∧ ∀ k, 0 < k → k < n → (k - 1) / 2 = j → 0 < j → key (L.getD ((j - 1) / 2) d) ≤ key (L.getD k d)
def DownOk (key : α → Int) (d : α) (L : List α) (n i : Nat) : Prop :=
 (∀ k, 0 < k → k < n → (k - 1) / 2 ≠ i → key (L.getD ((k - 1) / 2) d) ≤ key (L.getD k d)) ∧ ∀ k, 0 < k → k < n → (k - 1) / 2 = i → 0 < i → key (L.getD ((i - 1) / 2) d) ≤ key (L.getD k d)
theorem HeapL.push (h : HeapL key d L L.length) (x : α) : UpOk key d (L ++ [x]) (L.length + 1) L.length := by
 have e : ∀ k, k < L.length → (L ++ [x]).getD k d = L.getD k d := by
  intro k hk
  simp [List.getD_eq_getElem?_getD, List.getElem?_append_left hk]
 refine ⟨fun k h0 hk hne => ?_, fun k h0 hk hp _ => by omega⟩
 rw [e k (by omega), e _ (by omega)]
 exact h k h0 (by omega)
theorem UpOk.step {n j : Nat} (h : UpOk key d L n j) (hj0 : 0 < j) (hj : j < n) (hn : n ≤ L.length) (hlt : key (L.getD j d) < key (L.getD ((j - 1) / 2) d)) : UpOk key d (swapL d L ((j - 1) / 2) j) n ((j - 1) / 2) := by
 have hp : (j - 1) / 2 < j := by omega
 have hat := fun k => swapL_at (d := d) L ((j - 1) / 2) j k (by omega) (by omega)
 refine ⟨fun k h0 hk hne => ?_, fun k h0 hk hpk hp0 => ?_⟩
 ·rw [hat k, hat ((k - 1) / 2)]
  by_cases hkj : k = j
  ·subst hkj
   rw [if_pos rfl, if_neg (by omega), if_pos rfl]
   omega
  ·rw [if_neg hkj, if_neg hne]
   by_cases hpj : (k - 1) / 2 = j
   ·rw [if_pos hpj]
    exact h.2 k h0 hk hpj hj0
   ·rw [if_neg hpj]
    have h1 := h.1 k h0 hk hkj
    by_cases hpp : (k - 1) / 2 = (j - 1) / 2
    ·rw [if_pos hpp]
     rw [hpp] at h1
     omega
    ·rw [if_neg hpp]; exact h1
 ·rw [hat k, hat (((j - 1) / 2 - 1) / 2)]
  rw [if_neg (by omega : ¬ ((j - 1) / 2 - 1) / 2 = j), if_neg (by omega : ¬ ((j - 1) / 2 - 1) / 2 = (j - 1) / 2)]
  have h1 := h.1 ((j - 1) / 2) hp0 (by omega) (by omega)
  by_cases hkj : k = j
  ·rw [if_pos hkj]; exact h1
  ·rw [if_neg hkj, if_neg (by omega)]
   have h2 := h.1 k h0 hk hkj
   rw [hpk] at h2
   omega
theorem UpOk.done {n j : Nat} (h : UpOk key d L n j) (hd : j = 0 ∨ ¬ key (L.getD j d) < key (L.getD ((j - 1) / 2) d)) : HeapL key d L n := by
 intro k h0 hk
 by_cases hkj : k = j
 ·subst hkj
  rcases hd with hd | hd <;> omega
 ·exact h.1 k h0 hk hkj
theorem HeapL.pop {m : Nat} (h : HeapL key d L (m + 1)) (hl : L.length = m + 1) : DownOk key d (swapL d L 0 m) m 0 := by
 have hat := fun k => swapL_at (d := d) L 0 m k (by omega) (by omega)
 refine ⟨fun k h0 hk hne => ?_, fun k _ _ _ h00 => by omega⟩
 rw [hat k, hat ((k - 1) / 2), if_neg (by omega : ¬ k = m), if_neg (by omega : ¬ k = 0), if_neg (by omega : ¬ (k - 1) / 2 = m), if_neg hne]
 exact h k h0 (by omega)
theorem DownOk.step {n i j : Nat} (h : DownOk key d L n i) (hj0 : 0 < j) (hj : j < n) (hn : n ≤ L.length) (hp : (j - 1) / 2 = i) (hlt : key (L.getD j d) < key (L.getD i d))
  (hle : ∀ k, 0 < k → k < n → (k - 1) / 2 = i → key (L.getD j d) ≤ key (L.getD k d)) : DownOk key d (swapL d L i j) n j := by
 have hat := fun k => swapL_at (d := d) L i j k (by omega) (by omega)
 refine ⟨fun k h0 hk hne => ?_, fun k h0 hk hpk _ => ?_⟩
 ·rw [hat k, hat ((k - 1) / 2), if_neg hne]
  by_cases hkj : k = j
  ·subst hkj
   rw [if_pos rfl, if_pos hp]
   omega
  ·rw [if_neg hkj]
   by_cases hki : k = i
   ·subst hki
    rw [if_pos rfl, if_neg (by omega)]
    exact h.2 j hj0 hj hp h0
   ·rw [if_neg hki]
    by_cases hpi : (k - 1) / 2 = i
    ·rw [if_pos hpi]; exact hle k h0 hk hpi
    ·rw [if_neg hpi]; exact h.1 k h0 hk hpi
 ·rw [hat k, hat ((j - 1) / 2), hp]
  rw [if_neg (by omega : ¬ i = j), if_pos rfl, if_neg (by omega : ¬ k = j), if_neg (by omega : ¬ k = i)]
  have := h.1 k h0 hk (by omega)
  rw [hpk] at this
  exact this
theorem DownOk.done {n i : Nat} (h : DownOk key d L n i) (hd : ∀ k, 0 < k → k < n → (k - 1) / 2 = i → key (L.getD i d) ≤ key (L.getD k d)) : HeapL key d L n := by
 intro k h0 hk
 by_cases hp : (k - 1) / 2 = i
 ·rw [hp]; exact hd k h0 hk hp
 ·exact h.1 k h0 hk hp
theorem HeapL.top {n : Nat} (h : HeapL key d L n) : ∀ k, k < n → key (L.getD 0 d) ≤ key (L.getD k d) := by
 intro k
 induction k using Nat.strongRecOn with
 | ind k ih =>
  intro hk
  by_cases h0 : k = 0
  ·subst h0; exact Int.le_refl _
  ·exact Int.le_trans (ih ((k - 1) / 2) (by omega) (by omega)) (h k (by omega) hk)
theorem HeapL.take {n : Nat} (h : HeapL key d L n) : HeapL key d (L.take n) n := by
 have e : ∀ k, k < n → (L.take n).getD k d = L.getD k d := by
  intro k hk
  simp [List.getD_eq_getElem?_getD, hk]
 intro k h0 hk
 rw [e k hk, e _ (by omega)]
 exact h k h0 hk
theorem take_last (L : List α) (n : Nat) (h : L.length = n + 1) : L = L.take n ++ [L.getD n d] := by
 have h1 : L.drop n = [L.getD n d] := by
  rw [List.drop_eq_getElem_cons (by omega), List.drop_of_length_le (by omega)]
  simp [List.getD_eq_getElem?_getD, show n < L.length by omega]
 rw [← h1, List.take_append_drop]
end
end Go.Proofs.Yteehgcbjmdideab
/- A region that draws its order and whose last operation, number k, waits for all the others: a load may be taken first where nobody but k writes its cell. What is held need not outlive k. -/
namespace Go.Proofs.Yteehgcbjmdideab
open Go
section
variable {P : Program} {ops : Array Oper} {Q : Exit → Act → World → Prop} {md : Region.Mode} {S : World → Prop} {k : Nat}
def wpAnyU (P : Program) (md : Region.Mode) (ops : Array Oper) (Q : Exit → Act → World → Prop) (S : World → Prop) (k : Nat) : Nat → Array Bool → Act → World → Prop
 | 0, listed, a, w => Region.ready md ops listed = [] ∧ Q .normal a w
 | fuel + 1, listed, a, w =>
  (Region.ready md ops listed = [] → Q .normal a w) ∧
  ∀ i ∈ Region.ready md ops listed, wpOp P ops Q i (fun a' w' => (i ≠ k → S w') ∧ wpAnyU P md ops Q S k fuel (listed.setIfInBounds i true) a' w') a w
theorem wpAny_of_U : ∀ (fuel : Nat) (listed : Array Bool) (a : Act) (w : World), wpAnyU P md ops Q S k fuel listed a w → wpAny P md ops Q fuel listed a w
 | 0, _, _, _, h => h
 | fuel + 1, _, _, _, h => ⟨h.1, fun i hi => wpOp_mono (fun a' w' h' => wpAny_of_U fuel _ a' w' h'.2) (h.2 i hi)⟩
theorem ready_not_on {listed : Array Bool} {i j : Nat} {oj : Oper} (hr : i ∈ Region.ready md ops listed) (hj : j ∈ Region.ready md ops listed) (hoj : ops[j]? = some oj) :
  ∀ e ∈ oj.after, Region.binds md e = true → e.on ≠ i := by
 obtain ⟨_, o, ho, hall⟩ := mem_ready.1 hj
 rw [hoj] at ho
 injection ho with ho
 subst ho
 have hun := (mem_ready.1 hr).1
 rintro e he hb rfl
 have hl := hall e he hb
 by_cases hs : e.on < listed.size
 ·simp only [Array.getD_eq_getD_getElem?, Array.getElem?_eq_getElem hs, Option.getD_some] at hun hl
  exact Bool.noConfusion (hun.symm.trans hl)
 ·simp only [Array.getD_eq_getD_getElem?, Array.getElem?_eq_none (Nat.le_of_not_lt hs), Option.getD_none] at hl
  cases hl
structure CanWait (P : Program) (md : Region.Mode) (ops : Array Oper) (Q : Exit → Act → World → Prop) (S : World → Prop) (k i : Nat) (oi : Oper) (v : Value) (fuel : Nat) (listed : Array Bool) (a : Act) (w : World) : Prop where
 up : i ∈ Region.ready md ops listed
 apart : ∀ j oj, ops[j]? = some oj → j ≠ i → listed.getD j true = false → (∀ e ∈ oj.after, Region.binds md e = true → e.on ≠ i) → oi.apart ops oj = true
 val : YieldsIf P ops S oi v a
 holds : S w
 taken : wpAnyU P md ops Q S k fuel (listed.setIfInBounds i true) (a.put oi.dst v) w
section
variable {i : Nat} {oi : Oper} {v : Value}
theorem CanWait.other (hi : ops[i]? = some oi) (hsel : ∀ (j : Nat) (o : Oper) cs b, ops[j]? = some o → o.op ≠ .select cs b)
  (hk : i ≠ k ∧ ∀ ok, ops[k]? = some ok → ∃ e ∈ ok.after, Region.binds md e = true ∧ e.on = i)
  (hQ : ∀ c a w, Q (.panic c) (a.put oi.dst v) w → Q (.panic c) a w) {fuel j : Nat} {listed : Array Bool} {a : Act} {w : World}
  (h : CanWait P md ops Q S k i oi v (fuel + 1) listed a w) (hj : j ∈ Region.ready md ops listed) (hne : j ≠ i) :
  wpOp P ops Q j (fun a' w' => (j ≠ k → S w') ∧ CanWait P md ops Q S k i oi v fuel (listed.setIfInBounds j true) a' w') a w := by
 obtain ⟨hun, oj, hoj, _⟩ := mem_ready.1 hj
 have hno := ready_not_on h.up hj hoj
 have hjk : j ≠ k := by
  rintro rfl
  obtain ⟨e, he, hb, hon⟩ := hk.2 oj hoj
  exact hno e he hb hon
 have hstep := h.taken.2 j (ready_mono hj hne)
 rw [Array.setIfInBounds_comm _ _ (Ne.symm hne)] at hstep
 refine wpOp_mono ?_ (wpOp_putIf hoj (h.apart j oj hoj hne hun hno) (hsel i oi · · hi) (hsel j oj · · hoj) hQ h.val hstep)
 rintro a' w' ⟨hval, hS, hrest⟩
 refine ⟨hS, ready_mono h.up (Ne.symm hne), fun m om hm hmi hml hmo => h.apart m om hm hmi ?_ hmo, hval, hS hjk, hrest⟩
 by_cases hjm : j = m
 ·exact hjm ▸ hun
 ·rwa [getD_set_ne true hjm] at hml
theorem CanWait.any (hi : ops[i]? = some oi) (hsel : ∀ (j : Nat) (o : Oper) cs b, ops[j]? = some o → o.op ≠ .select cs b)
  (hk : i ≠ k ∧ ∀ ok, ops[k]? = some ok → ∃ e ∈ ok.after, Region.binds md e = true ∧ e.on = i)
  (hQ : ∀ c a w, Q (.panic c) (a.put oi.dst v) w → Q (.panic c) a w) (fuel : Nat) :
  ∀ {listed : Array Bool} {a : Act} {w : World}, CanWait P md ops Q S k i oi v fuel listed a w → wpAnyU P md ops Q S k (fuel + 1) listed a w := by
 induction fuel with
 | zero =>
  intro listed a w h
  refine ⟨fun hnil => absurd h.up (by simp [hnil]), fun j hj => ?_⟩
  rcases Nat.decEq j i with hne | rfl
  ·exact absurd (ready_mono hj hne) (by simp [h.taken.1])
  ·exact h.val.wpOp hi h.holds ⟨fun _ => h.holds, h.taken⟩
 | succ fuel ih =>
  intro listed a w h
  refine ⟨fun hnil => absurd h.up (by simp [hnil]), fun j hj => ?_⟩
  rcases Nat.decEq j i with hne | rfl
  ·exact wpOp_mono (fun _ _ hc => ⟨hc.1, ih hc.2⟩) (h.other hi hsel hk hQ hj hne)
  ·exact h.val.wpOp hi h.holds ⟨fun _ => h.holds, h.taken⟩
end
def waits (md : Region.Mode) (ops : Array Oper) (k i : Nat) : Bool := i != k && ((ops[k]?).map (·.after.any fun e => Region.binds md e && e.on == i)).getD true
theorem waits_spec {i : Nat} (h : waits md ops k i = true) : i ≠ k ∧ ∀ ok, ops[k]? = some ok → ∃ e ∈ ok.after, Region.binds md e = true ∧ e.on = i := by
 unfold waits at h
 rw [Bool.and_eq_true] at h
 refine ⟨by simpa using h.1, fun ok hok => ?_⟩
 have h2 := h.2
 rw [hok] at h2
 simp only [Option.map_some, Option.getD_some, Array.any_eq_true] at h2
 obtain ⟨j, hj, h3⟩ := h2
 rw [Bool.and_eq_true] at h3
 exact ⟨ok.after[j], Array.getElem_mem hj, h3.1, by simpa using h3.2⟩
theorem wpAnyU_take {i : Nat} {oi : Oper} {v : Value} {fuel : Nat} {listed : Array Bool} {a : Act} {w : World} (hi : ops[i]? = some oi)
  (hs : Region.noSelect ops = true) (hf : Region.free md ops listed i = true) (hr : (Region.ready md ops listed).contains i = true) (hk : waits md ops k i = true)
  (hQ : ∀ c a w, Q (.panic c) (a.put oi.dst v) w → Q (.panic c) a w) (hy : YieldsIf P ops S oi v a) (hS : S w)
  (h : wpAnyU P md ops Q S k fuel (listed.setIfInBounds i true) (a.put oi.dst v) w) : wpAnyU P md ops Q S k (fuel + 1) listed a w :=
 CanWait.any hi (Region.noSelect_spec hs) (waits_spec hk) hQ fuel ⟨by simpa using hr, Region.free_spec hi hf, hy, hS, h⟩
theorem wpAnyU_one {i : Nat} {o : Oper} {fuel : Nat} {listed : Array Bool} {a : Act} {w : World} (ho : ops[i]? = some o) (hr : Region.ready md ops listed = [i])
  (h : ∀ K' : Act → World → Prop, Shut (∀ a w, ((i ≠ k → S w) ∧ wpAnyU P md ops Q S k fuel (listed.setIfInBounds i true) a w) → K' a w) → if Region.wanted o (yielded ops a.tmps) = true then Oper.wp P o a w K' Q else K' (a.put o.dst undef) w) : wpAnyU P md ops Q S k (fuel + 1) listed a w := by
 refine ⟨fun h0 => (by rw [hr] at h0; cases h0), fun j hj => ?_⟩
 rw [hr] at hj
 have : j = i := by simpa using hj
 subst this
 exact wpOp_step ho (fun K' hK => h K' (fun a w hS => hK a w hS))
theorem wpAnyU_done {listed : Array Bool} {a : Act} {w : World} (hr : Region.ready md ops listed = []) (h : Q .normal a w) :
  ∀ fuel, wpAnyU P md ops Q S k fuel listed a w
 | 0 => ⟨hr, h⟩
 | _ + 1 => ⟨fun _ => h, by rw [hr]; simp⟩
theorem wp_region_U (S : World → Prop) (k : Nat) {id : Nat} {a : Act} {w : World} (hm : P.follows .mixedOrders = true) (hS : S w.drew)
  (h : S w.drew → wpAnyU P .any ops Q S k ops.size (Array.replicate ops.size false) a w.drew) : (Code.region id ops true).wp P Q a w :=
 wp_region_any hm (wpAny_of_U _ _ _ _ (h hS))
end
end Go.Proofs.Yteehgcbjmdideab
/- A region that draws its order, some of whose operations are fatal to what is held: a load may be taken first where all the fatal ones wait for it; what looks at no memory may be taken first in any case. What is held need hold only till a fatal one has come up. -/
namespace Go.Proofs.Yteehgcbjmdideab
open Go
section
variable {P : Program} {ops : Array Oper} {Q : Exit → Act → World → Prop} {md : Region.Mode} {S : World → Prop} {fatal : List Nat}
def unl (fatal : List Nat) (listed : Array Bool) : Prop := ∀ k ∈ fatal, listed.getD k false = false
theorem getD_set (listed : Array Bool) (i k : Nat) (h : i ≠ k) : (listed.setIfInBounds i true).getD k false = listed.getD k false := by
 simp only [Array.getD_eq_getD_getElem?, Array.getElem?_setIfInBounds_ne h]
theorem unl_set {listed : Array Bool} {i : Nat} (hi : i ∉ fatal) : unl fatal (listed.setIfInBounds i true) ↔ unl fatal listed := by
 unfold unl
 constructor
 ·intro h k hk
  rw [← getD_set listed i k (fun e => hi (e ▸ hk))]
  exact h k hk
 ·intro h k hk
  rw [getD_set listed i k (fun e => hi (e ▸ hk))]
  exact h k hk
def wpAnyF (P : Program) (md : Region.Mode) (ops : Array Oper) (Q : Exit → Act → World → Prop) (S : World → Prop) (fatal : List Nat) : Nat → Array Bool → Act → World → Prop
 | 0, listed, a, w => Region.ready md ops listed = [] ∧ Q .normal a w
 | fuel + 1, listed, a, w =>
  (Region.ready md ops listed = [] → Q .normal a w) ∧
  ∀ i ∈ Region.ready md ops listed, wpOp P ops Q i (fun a' w' => (unl fatal (listed.setIfInBounds i true) → S w') ∧ wpAnyF P md ops Q S fatal fuel (listed.setIfInBounds i true) a' w') a w
theorem wpAny_of_F : ∀ (fuel : Nat) (listed : Array Bool) (a : Act) (w : World), wpAnyF P md ops Q S fatal fuel listed a w → wpAny P md ops Q fuel listed a w
 | 0, _, _, _, h => h
 | fuel + 1, _, _, _, h => ⟨h.1, fun i hi => wpOp_mono (fun a' w' h' => wpAny_of_F fuel _ a' w' h'.2) (h.2 i hi)⟩
structure CanF (P : Program) (md : Region.Mode) (ops : Array Oper) (Q : Exit → Act → World → Prop) (S R : World → Prop) (fatal : List Nat) (i : Nat) (oi : Oper) (v : Value) (fuel : Nat) (listed : Array Bool) (a : Act) (w : World) : Prop where
 up : i ∈ Region.ready md ops listed
 apart : ∀ j oj, ops[j]? = some oj → j ≠ i → listed.getD j true = false → (∀ e ∈ oj.after, Region.binds md e = true → e.on ≠ i) → oi.apart ops oj = true
 val : YieldsIf P ops R oi v a
 known : R w
 holds : unl fatal listed → S w
 taken : wpAnyF P md ops Q S fatal fuel (listed.setIfInBounds i true) (a.put oi.dst v) w
section
variable {i : Nat} {oi : Oper} {v : Value} {R : World → Prop}
theorem CanF.other (hi : ops[i]? = some oi) (hsel : ∀ (j : Nat) (o : Oper) cs b, ops[j]? = some o → o.op ≠ .select cs b) (hif : i ∉ fatal)
  (hQ : ∀ c a w, Q (.panic c) (a.put oi.dst v) w → Q (.panic c) a w) {fuel j : Nat} {listed : Array Bool} {a : Act} {w : World}
  (hR : ∀ w', (unl fatal (listed.setIfInBounds j true) → S w') → R w')
  (h : CanF P md ops Q S R fatal i oi v (fuel + 1) listed a w) (hj : j ∈ Region.ready md ops listed) (hne : j ≠ i) :
  wpOp P ops Q j (fun a' w' => (unl fatal (listed.setIfInBounds j true) → S w') ∧ CanF P md ops Q S R fatal i oi v fuel (listed.setIfInBounds j true) a' w') a w := by
 obtain ⟨hun, oj, hoj, _⟩ := mem_ready.1 hj
 have hno := ready_not_on h.up hj hoj
 have hstep := h.taken.2 j (ready_mono hj hne)
 rw [Array.setIfInBounds_comm _ _ (Ne.symm hne)] at hstep
 refine wpOp_mono ?_ (wpOp_putIf hoj (h.apart j oj hoj hne hun hno) (hsel i oi · · hi) (hsel j oj · · hoj) hQ h.val hstep)
 rintro a' w' ⟨hval, hS, hrest⟩
 have hS' : unl fatal (listed.setIfInBounds j true) → S w' := fun hu => hS ((unl_set hif).2 hu)
 refine ⟨hS', ready_mono h.up (Ne.symm hne), fun m om hm hmi hml hmo => h.apart m om hm hmi ?_ hmo, hval, hR w' hS', hS', hrest⟩
 by_cases hjm : j = m
 ·exact hjm ▸ hun
 ·rwa [getD_set_ne true hjm] at hml
theorem CanF.free (hi : ops[i]? = some oi) (hsel : ∀ (j : Nat) (o : Oper) cs b, ops[j]? = some o → o.op ≠ .select cs b) (hif : i ∉ fatal)
  (hQ : ∀ c a w, Q (.panic c) (a.put oi.dst v) w → Q (.panic c) a w) (fuel : Nat) :
  ∀ {listed : Array Bool} {a : Act} {w : World}, CanF P md ops Q S (fun _ => True) fatal i oi v fuel listed a w → wpAnyF P md ops Q S fatal (fuel + 1) listed a w := by
 induction fuel with
 | zero =>
  intro listed a w h
  refine ⟨fun hnil => absurd h.up (by simp [hnil]), fun j hj => ?_⟩
  rcases Nat.decEq j i with hne | rfl
  ·exact absurd (ready_mono hj hne) (by simp [h.taken.1])
  ·exact h.val.wpOp hi trivial ⟨fun hu => h.holds ((unl_set hif).1 hu), h.taken⟩
 | succ fuel ih =>
  intro listed a w h
  refine ⟨fun hnil => absurd h.up (by simp [hnil]), fun j hj => ?_⟩
  rcases Nat.decEq j i with hne | rfl
  ·exact wpOp_mono (fun _ _ hc => ⟨hc.1, ih hc.2⟩) (h.other hi hsel hif hQ (fun _ _ => trivial) hj hne)
  ·exact h.val.wpOp hi trivial ⟨fun hu => h.holds ((unl_set hif).1 hu), h.taken⟩
theorem CanF.held (hi : ops[i]? = some oi) (hsel : ∀ (j : Nat) (o : Oper) cs b, ops[j]? = some o → o.op ≠ .select cs b) (hif : i ∉ fatal)
  (hk : ∀ k ∈ fatal, waits md ops k i = true) (hQ : ∀ c a w, Q (.panic c) (a.put oi.dst v) w → Q (.panic c) a w) (fuel : Nat) :
  ∀ {listed : Array Bool} {a : Act} {w : World}, unl fatal listed → CanF P md ops Q S S fatal i oi v fuel listed a w → wpAnyF P md ops Q S fatal (fuel + 1) listed a w := by
 induction fuel with
 | zero =>
  intro listed a w hu h
  refine ⟨fun hnil => absurd h.up (by simp [hnil]), fun j hj => ?_⟩
  rcases Nat.decEq j i with hne | rfl
  ·exact absurd (ready_mono hj hne) (by simp [h.taken.1])
  ·exact h.val.wpOp hi h.known ⟨fun _ => h.known, h.taken⟩
 | succ fuel ih =>
  intro listed a w hu h
  refine ⟨fun hnil => absurd h.up (by simp [hnil]), fun j hj => ?_⟩
  rcases Nat.decEq j i with hne | rfl
  ·have hjf : j ∉ fatal := by
    intro hm
    obtain ⟨_, oj, hoj, _⟩ := mem_ready.1 hj
    obtain ⟨e, he, hb, hon⟩ := (waits_spec (hk j hm)).2 oj hoj
    exact ready_not_on h.up hj hoj e he hb hon
   have hu' : unl fatal (listed.setIfInBounds j true) := (unl_set hjf).2 hu
   exact wpOp_mono (fun _ _ hc => ⟨hc.1, ih hu' hc.2⟩) (h.other hi hsel hif hQ (fun _ hS => hS hu') hj hne)
  ·exact h.val.wpOp hi h.known ⟨fun _ => h.known, h.taken⟩
end
def unlB (fatal : List Nat) (listed : Array Bool) : Bool := fatal.all fun k => listed.getD k false == false
theorem unlB_spec {listed : Array Bool} (h : unlB fatal listed = true) : unl fatal listed := fun k hk => by
 have := List.all_eq_true.1 h k hk
 simpa using this
theorem wpAnyF_take {i : Nat} {oi : Oper} {v : Value} {fuel : Nat} {listed : Array Bool} {a : Act} {w : World} (hi : ops[i]? = some oi)
  (hs : Region.noSelect ops = true) (hf : Region.free md ops listed i = true) (hr : (Region.ready md ops listed).contains i = true) (hk : (!fatal.contains i && unlB fatal listed && fatal.all fun k => waits md ops k i) = true)
  (hQ : ∀ c a w, Q (.panic c) (a.put oi.dst v) w → Q (.panic c) a w) (hy : YieldsIf P ops S oi v a) (hS : S w)
  (h : wpAnyF P md ops Q S fatal fuel (listed.setIfInBounds i true) (a.put oi.dst v) w) : wpAnyF P md ops Q S fatal (fuel + 1) listed a w := by
 rw [Bool.and_eq_true, Bool.and_eq_true] at hk
 exact CanF.held hi (Region.noSelect_spec hs) (by simpa using hk.1.1) (fun k hm => List.all_eq_true.1 hk.2 k hm) hQ fuel (unlB_spec hk.1.2) ⟨by simpa using hr, Region.free_spec hi hf, hy, hS, fun _ => hS, h⟩
theorem wpAnyF_free {i : Nat} {oi : Oper} {v : Value} {fuel : Nat} {listed : Array Bool} {a : Act} {w : World} (hi : ops[i]? = some oi)
  (hs : Region.noSelect ops = true) (hf : Region.free md ops listed i = true) (hr : (Region.ready md ops listed).contains i = true) (hk : (!fatal.contains i) = true)
  (hQ : ∀ c a w, Q (.panic c) (a.put oi.dst v) w → Q (.panic c) a w) (hy : YieldsIf P ops (fun _ => True) oi v a) (hS : S w)
  (h : wpAnyF P md ops Q S fatal fuel (listed.setIfInBounds i true) (a.put oi.dst v) w) : wpAnyF P md ops Q S fatal (fuel + 1) listed a w :=
 CanF.free hi (Region.noSelect_spec hs) (by simpa using hk) hQ fuel ⟨by simpa using hr, Region.free_spec hi hf, hy, trivial, fun _ => hS, h⟩
theorem wpAnyF_one {i : Nat} {o : Oper} {fuel : Nat} {listed : Array Bool} {a : Act} {w : World} (ho : ops[i]? = some o) (hr : Region.ready md ops listed = [i])
  (h : ∀ K' : Act → World → Prop, Shut (∀ a w, ((unl fatal (listed.setIfInBounds i true) → S w) ∧ wpAnyF P md ops Q S fatal fuel (listed.setIfInBounds i true) a w) → K' a w) → if Region.wanted o (yielded ops a.tmps) = true then Oper.wp P o a w K' Q else K' (a.put o.dst undef) w) : wpAnyF P md ops Q S fatal (fuel + 1) listed a w := by
 refine ⟨fun h0 => (by rw [hr] at h0; cases h0), fun j hj => ?_⟩
 rw [hr] at hj
 have : j = i := by simpa using hj
 subst this
 exact wpOp_step ho (fun K' hK => h K' (fun a w hS => hK a w hS))
theorem wpAnyF_done {listed : Array Bool} {a : Act} {w : World} (hr : Region.ready md ops listed = []) (h : Q .normal a w) :
  ∀ fuel, wpAnyF P md ops Q S fatal fuel listed a w
 | 0 => ⟨hr, h⟩
 | _ + 1 => ⟨fun _ => h, by rw [hr]; simp⟩
theorem unl_no {listed : Array Bool} (h : unlB fatal listed = false) : ¬ unl fatal listed := fun hu => by
 have : unlB fatal listed = true := List.all_eq_true.2 fun k hk => by simpa using hu k hk
 rw [h] at this
 cases this
theorem wp_region_F (S : World → Prop) (fatal : List Nat) {id : Nat} {a : Act} {w : World} (hm : P.follows .mixedOrders = true) (hS : S w.drew)
  (h : S w.drew → wpAnyF P .any ops Q S fatal ops.size (Array.replicate ops.size false) a w.drew) : (Code.region id ops true).wp P Q a w :=
 wp_region_any hm (wpAny_of_F _ _ _ _ (h hS))
end
end Go.Proofs.Yteehgcbjmdideab
/- The queue in memory: places in a row; what a step on it leaves as it was. -/
namespace Go.Proofs.Yteehgcbjmdideab
open Go.RowKit
attribute [local go_sem ↓] Go.wp_at_zero Go.wp_at_succ
structure PlD where
 st : Nat
 rd : Nat
 wt : Nat
 cost : Int
def p0 : PlD := ⟨0, 0, 0, 0⟩
def plCells (p : PlD) : List Value := [.int .i64 p.st, .int .i64 p.rd, .int .i64 p.wt, .int .i64 p.cost]
def plsV (l : List PlD) : List Value := l.flatMap plCells
theorem plsV_len (l : List PlD) : (plsV l).length = l.length * 4 := by
 induction l with
 | nil => rfl
 | cons a l ih =>
  have e : plsV (a :: l) = plCells a ++ plsV l := by simp [plsV]
  rw [e, List.length_append, ih, List.length_cons]
  show 4 + _ = _
  omega
theorem plsV_get (l : List PlD) (i j : Nat) (hi : i < l.length) (hj : j < 4) : (plsV l)[i * 4 + j]? = (plCells (l.getD i p0))[j]? := by
 induction l generalizing i with
 | nil => simp at hi
 | cons a l ih =>
  have e : plsV (a :: l) = plCells a ++ plsV l := by simp [plsV]
  have hl : (plCells a).length = 4 := rfl
  rw [e]
  cases i with
  | zero => rw [Nat.zero_mul, Nat.zero_add, List.getElem?_append_left (by omega)]; rfl
  | succ i =>
   rw [List.getElem?_append_right (by omega), hl, show (i + 1) * 4 + j - 4 = i * 4 + j by omega, ih i (by simpa using hi)]
   rfl
theorem plsV_snoc (l : List PlD) (p : PlD) : plsV (l ++ [p]) = plsV l ++ plCells p := by simp [plsV]
theorem plsV_take (l : List PlD) (n : Nat) : plsV (l.take n) = (plsV l).take (n * 4) := by
 induction l generalizing n with
 | nil => simp [plsV]
 | cons a l ih =>
  cases n with
  | zero => simp [plsV]
  | succ n =>
   have e : plsV (a :: l) = plCells a ++ plsV l := by simp [plsV]
   have e2 : plsV (a :: l.take n) = plCells a ++ plsV (l.take n) := by simp [plsV]
   rw [List.take_succ_cons, e2, e, ih, List.take_append, List.take_of_length_le (l := plCells a) (by show 4 ≤ (n + 1) * 4; omega)]
   show _ = plCells a ++ (plsV l).take ((n + 1) * 4 - 4)
   rw [show (n + 1) * 4 - 4 = n * 4 by omega]
theorem oneCell_pl (p : PlD) : ∀ u ∈ plCells p, u.oneCell' = true := by
 intro u hu
 simp [plCells] at hu
 rcases hu with rfl | rfl | rfl | rfl <;> rfl
theorem infoPl : (Try.prog.info? 123).map (fun i => (i.zero, i.size, i.bytes)) = some (some (.agg #[.int .i64 0, .int .i64 0, .int .i64 0, .int .i64 0]), 4, 32) := by kernel_rfl
structure PlsAt (w : World) (g n : Nat) (L : List PlD) : Prop where
 len : L.length = n
 cell : ∀ i j, i < n → j < 4 → w.cell? ⟨g, i * 4 + j, none⟩ = (plCells (L.getD i p0))[j]?
 frz : ∀ i, w.frozen? ⟨g, i, none⟩ = false
theorem PlsAt.of {w : World} {B e g n cap : Nat} {L : List PlD} (h : w.ownsRow B e 4 (.slice (some ⟨g, 0, none⟩) n cap) n (plsV L)) : PlsAt w g n L := by
 have hl0 := h.1
 rw [plsV_len] at hl0
 have hl : L.length = n := by omega
 obtain ⟨_, h⟩ := h
 rcases h with ⟨h, _⟩ | ⟨g', cap', cur, he, _, hh, h1, h2, h3, h4⟩
 ·cases h
 ·cases he
  refine ⟨hl, fun i j hi hj => ?_, fun i => Go.Joins.unfrozen_of_block hh i⟩
  have h5 := plsV_get L i j (by omega) hj
  rw [← h4, List.getElem?_take, if_pos (by omega), Array.getElem?_toList] at h5
  rw [Go.Joins.cell_of_block hh]; exact h5
theorem plsV_set (L : List PlD) (i : Nat) (p : PlD) (hi : i < L.length) : ((((plsV L).set (i * 4) (.int .i64 p.st)).set (i * 4 + 1) (.int .i64 p.rd)).set (i * 4 + 2) (.int .i64 p.wt)).set (i * 4 + 3) (.int .i64 p.cost) = plsV (L.set i p) := by
 induction L generalizing i with
 | nil => simp at hi
 | cons a l ih =>
  have e : ∀ (b : PlD) (l : List PlD), plsV (b :: l) = .int .i64 b.st :: .int .i64 b.rd :: .int .i64 b.wt :: .int .i64 b.cost :: plsV l := fun b l => by simp [plsV, plCells]
  cases i with
  | zero =>
   show _ = plsV (p :: l)
   rw [e, e]
   rfl
  | succ i =>
   show _ = plsV (a :: l.set i p)
   rw [e, e, ← ih i (by simpa using hi)]
   rw [show (i + 1) * 4 + 3 = (i * 4 + 3) + 1 + 1 + 1 + 1 by omega, show (i + 1) * 4 + 2 = (i * 4 + 2) + 1 + 1 + 1 + 1 by omega, show (i + 1) * 4 + 1 = (i * 4 + 1) + 1 + 1 + 1 + 1 by omega, show (i + 1) * 4 = (i * 4) + 1 + 1 + 1 + 1 by omega]
   simp only [List.set_cons_succ]
def setPl (w : World) (g k : Nat) (p : PlD) : World := (((w.setCell ⟨g, k, none⟩ (.int .i64 p.st)).setCell ⟨g, k + 1, none⟩ (.int .i64 p.rd)).setCell ⟨g, k + 2, none⟩ (.int .i64 p.wt)).setCell ⟨g, k + 3, none⟩ (.int .i64 p.cost)
theorem row_setPl {w : World} {B e g n cap : Nat} {L : List PlD} (h : w.ownsRow B e 4 (.slice (some ⟨g, 0, none⟩) n cap) n (plsV L)) (i : Nat) (hi : i < n) (p : PlD) : (setPl w g (i * 4) p).ownsRow B e 4 (.slice (some ⟨g, 0, none⟩) n cap) n (plsV (L.set i p)) := by
 have hl0 := h.1
 rw [plsV_len] at hl0
 have hl : L.length = n := by omega
 obtain ⟨_, h⟩ := h
 refine ⟨by rw [plsV_len, List.length_set]; omega, ?_⟩
 rcases h with ⟨h, _⟩ | ⟨g', cap', cur, he, hB, hh, h1, h2, h3, h4⟩
 ·cases h
 ·cases he
  refine Or.inr ⟨g, cap, (((cur.setIfInBounds (i * 4) (.int .i64 p.st)).setIfInBounds (i * 4 + 1) (.int .i64 p.rd)).setIfInBounds (i * 4 + 2) (.int .i64 p.wt)).setIfInBounds (i * 4 + 3) (.int .i64 p.cost), rfl, hB, ?_, h1, h2, by simpa using h3, ?_⟩
  ·exact Go.Joins.block_setCell (i := i * 4 + 3) (Go.Joins.block_setCell (i := i * 4 + 2) (Go.Joins.block_setCell (i := i * 4 + 1) (Go.Joins.block_setCell (i := i * 4) hh _) _) _) _
  ·rw [← plsV_set L i p (by omega), ← h4]
   simp only [Array.toList_setIfInBounds, List.take_set]
structure QStep (B : Nat) (w : World) (v : Value) (w' : World) (v' : Value) : Prop where
 os : w'.os = w.os
 tape : w'.tape = w.tape
 output : w'.output = w.output
 size : w.heap.size ≤ w'.heap.size
 block : ∀ b, b < w.heap.size → b ≠ B → v.ownBlock ≠ some b → w'.heap[b]? = w.heap[b]?
 cell : ∀ k, k ≠ 8 → w'.cell? ⟨B, k, none⟩ = w.cell? ⟨B, k, none⟩
 frz : ∀ k, w'.frozen? ⟨B, k, none⟩ = w.frozen? ⟨B, k, none⟩
 own : ∀ g, v'.ownBlock = some g → v.ownBlock = some g ∨ w.heap.size ≤ g
theorem QStep.trans {B : Nat} {w w' w'' : World} {v v' v'' : Value} (h : QStep B w v w' v') (k : QStep B w' v' w'' v'') : QStep B w v w'' v'' :=
 ⟨k.os.trans h.os, k.tape.trans h.tape, k.output.trans h.output, Nat.le_trans h.size k.size, fun b hb hB hv => (k.block b (Nat.lt_of_lt_of_le hb h.size) hB (fun e => by
   rcases h.own b e with e | e
   ·exact hv e
   ·omega)).trans (h.block b hb hB hv), fun i hi => (k.cell i hi).trans (h.cell i hi), fun i => (k.frz i).trans (h.frz i), fun g hg => by
   rcases k.own g hg with e | e
   ·exact h.own g e
   ·exact Or.inr (Nat.le_trans h.size e)⟩
theorem QStep.bel {B : Nat} {w w' : World} {v : Value} (hB : B < w.heap.size) (h : Below w.heap.size w w') : QStep B w v w' v :=
 ⟨h.os, h.tape, h.output, h.size, fun b hb _ _ => h.block b hb, fun k _ => h.cell (p := ⟨B, k, none⟩) hB, fun k => h.frozen (p := ⟨B, k, none⟩) hB, fun _ hg => Or.inl hg⟩
theorem QStep.refl {B : Nat} {w : World} {v : Value} : QStep B w v w v :=
 ⟨rfl, rfl, rfl, Nat.le_refl _, fun _ _ _ _ => rfl, fun _ _ => rfl, fun _ => rfl, fun _ hg => Or.inl hg⟩
theorem QStep.row {B g i : Nat} {w : World} {v u : Value} (hv : v.ownBlock = some g) (hg : g ≠ B) : QStep B w v (w.setCell ⟨g, i, none⟩ u) v :=
 ⟨rfl, rfl, rfl, by simp [World.setCell], fun b _ _ hne => Below.heap_setCell w ⟨g, i, none⟩ u b (fun e => hne (by rw [hv, e])), fun k _ => set_far (Ne.symm hg), fun k => World.frozen?_setCell _ _ _ _, fun _ h => Or.inl h⟩
theorem QStep.rowPl {B g i : Nat} {w : World} {v : Value} {p : PlD} (hv : v.ownBlock = some g) (hg : g ≠ B) : QStep B w v (setPl w g i p) v :=
 (((QStep.row hv hg).trans (QStep.row hv hg)).trans (QStep.row hv hg)).trans (QStep.row hv hg)
theorem QStep.grown {B : Nat} {w w' : World} {v : Value} (hB : B < w.heap.size) (hg : w.grownBy w' v.ownBlock) (hne : some B ≠ v.ownBlock) : QStep B w v w' v :=
 ⟨hg.os, hg.tape, hg.output, hg.size, fun b hb _ hv => hg.block b hb (fun e => hv e.symm), fun k _ => hg.cell_far ⟨B, k, none⟩ hB hne, fun k => hg.frozen_far ⟨B, k, none⟩ hB hne, fun _ h => Or.inl h⟩
theorem QStep.below {B C : Nat} {w0 w w' : World} {v v' : Value} (h : QStep B w v w' v') (hb : Below C w0 w) (hC : C ≤ w.heap.size) (hB : C ≤ B) (hv : ∀ g, v.ownBlock = some g → C ≤ g) : Below C w0 w' :=
 ⟨h.os.trans hb.os, h.tape.trans hb.tape, h.output.trans hb.output, Nat.le_trans hb.size h.size, fun b hk => (h.block b (by omega) (by omega) (fun e => by have := hv b e; omega)).trans (hb.block b hk)⟩
structure QAt (base B : Nat) (w : World) (v : Value) (L : List PlD) : Prop where
 cell : w.cell? ⟨B, 8, none⟩ = some v
 frz : w.frozen? ⟨B, 8, none⟩ = false
 row : w.ownsRow base 123 4 v L.length (plsV L)
 ne : v.ownBlock ≠ some B
 base_le : base ≤ w.heap.size
theorem QAt.bel {base B : Nat} {w w' : World} {v : Value} {L : List PlD} (h : QAt base B w v L) (hb : Below w.heap.size w w') : QAt base B w' v L :=
 ⟨bel_c hb h.cell, (hb.frozen (p := ⟨B, 8, none⟩) (cell_lt h.cell)).trans h.frz, ownsRow_bel h.row hb, h.ne, Nat.le_trans h.base_le hb.size⟩
end Go.Proofs.Yteehgcbjmdideab
