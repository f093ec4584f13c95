/- What is trimmed: the states on a way from the start to an end, numbered anew. -/
import Derived.Test.YteehgcbjmdideaaDoorPMath
namespace Go.Proofs.YteehgcbjmdideaaDoor

/-- what can be come to from S along E -/
def Reach (E : Nat → Nat → Prop) (S : Nat → Prop) (x : Nat) : Prop := ∀ P : Nat → Prop, (∀ s, S s → P s) → (∀ s t, P s → E s t → P t) → P x

theorem Reach.first {E : Nat → Nat → Prop} {S : Nat → Prop} {x : Nat} (h : S x) : Reach E S x := fun _ h0 _ => h0 x h
theorem Reach.on {E : Nat → Nat → Prop} {S : Nat → Prop} {x y : Nat} (h : Reach E S x) (e : E x y) : Reach E S y := fun P h0 h1 => h1 x y (h P h0 h1) e

/-- the arcs as pairs, one way and the other -/
def pairsA (f : FstD) : List (Nat × Nat) := f.arcs.map fun a => (a.src.toNat, a.dst.toNat)
def pairsB (f : FstD) : List (Nat × Nat) := f.arcs.map fun a => (a.dst.toNat, a.src.toNat)
def firstA (f : FstD) (s : Nat) : Bool := decide ((s : Int) = f.start)
def firstB (f : FstD) (s : Nat) : Bool := !decide (f.final.getD s 0 = -1)

def ReachP (n : Nat) (ps : List (Nat × Nat)) (S : Nat → Bool) (x : Nat) : Prop := Reach (fun s t => (s, t) ∈ ps) (fun s => s < n ∧ S s = true) x

def Stays (f : FstD) (x : Nat) : Prop := ReachP f.states.toNat (pairsA f) (firstA f) x ∧ ReachP f.states.toNat (pairsB f) (firstB f) x

theorem ReachP.lt {n : Nat} {ps : List (Nat × Nat)} {S : Nat → Bool} {x : Nat} (h : ReachP n ps S x) (hp : ∀ p ∈ ps, p.2 < n) : x < n :=
  h (fun y => y < n) (fun _ hs => hs.1) (fun s t _ he => hp (s, t) he)

/-- how many of those below k stay -/
def newNo (st : Nat → Bool) (k : Nat) : Nat := ((List.range k).filter st).length
theorem newNo_succ (st : Nat → Bool) (k : Nat) : newNo st (k + 1) = newNo st k + if st k then 1 else 0 := by
  unfold newNo
  rw [List.range_succ, List.filter_append]
  cases h : st k <;> simp [h]
theorem newNo_le (st : Nat → Bool) (k : Nat) : newNo st k ≤ k := by
  unfold newNo
  have := List.length_filter_le st (List.range k)
  simpa using this

def finT (f : FstD) (st : Nat → Bool) (k : Nat) : List Int := ((List.range k).filter st).map fun i => f.final.getD i 0
def arcT (st : Nat → Bool) (a : ArcD) : ArcD := ⟨newNo st a.src.toNat, a.inp, a.out, newNo st a.dst.toNat, a.wt⟩
def arcsT (st : Nat → Bool) (l : List ArcD) : List ArcD := (l.filter fun a => st a.src.toNat && st a.dst.toNat).map (arcT st)

def trimBy (f : FstD) (st : Nat → Bool) : FstD :=
  if st f.start.toNat then ⟨newNo st f.states.toNat, newNo st f.start.toNat, finT f st f.states.toNat, arcsT st f.arcs⟩ else ⟨1, 0, [-1], []⟩

def IsTrim (f t : FstD) : Prop := ∃ st : Nat → Bool, (∀ i, st i = true ↔ Stays f i) ∧ t = trimBy f st

theorem IsTrim.unique {f t t' : FstD} (h : IsTrim f t) (h' : IsTrim f t') : t = t' := by
  obtain ⟨st, hs, rfl⟩ := h
  obtain ⟨st', hs', rfl⟩ := h'
  have : st = st' := by
    funext i
    rw [Bool.eq_iff_iff, hs i, hs' i]
  rw [this]

theorem finT_hit (f : FstD) (st : Nat → Bool) (k : Nat) (h : st k = true) : finT f st (k + 1) = finT f st k ++ [f.final.getD k 0] := by
  unfold finT; rw [List.range_succ, List.filter_append]; simp [h]
theorem finT_miss (f : FstD) (st : Nat → Bool) (k : Nat) (h : st k = false) : finT f st (k + 1) = finT f st k := by
  unfold finT; rw [List.range_succ, List.filter_append]; simp [h]
theorem finT_len (f : FstD) (st : Nat → Bool) (k : Nat) : (finT f st k).length = newNo st k := by simp [finT, newNo]

theorem arcsT_take (st : Nat → Bool) (l : List ArcD) (k : Nat) (a : ArcD) (hk : k < l.length) (ha : a = l.getD k a0) :
    arcsT st (l.take (k + 1)) = arcsT st (l.take k) ++ if st a.src.toNat && st a.dst.toNat then [arcT st a] else [] := by
  have : l[k]? = some a := by rw [ha]; simp [List.getD, hk]
  rw [List.take_add_one, this]
  unfold arcsT
  rw [List.filter_append, List.map_append]
  congr 1
  cases h : (st a.src.toNat && st a.dst.toNat) <;> simp [List.filter, h]

theorem arcsT_len (st : Nat → Bool) (l : List ArcD) : (arcsT st l).length ≤ l.length := by
  unfold arcsT; rw [List.length_map]; exact List.length_filter_le _ _

/-- the one of the document's example -/
def oneD : FstD := ⟨2, 0, [-1, 1], [⟨0, 1, 2, 1, 5⟩]⟩

theorem check_one : checkD oneD = 0 := by decide

theorem stays_one (i : Nat) : decide (i < 2) = true ↔ Stays oneD i := by
  constructor
  · intro h
    have hi : i < 2 := by simpa using h
    have a0' : ReachP 2 (pairsA oneD) (firstA oneD) 0 := Reach.first ⟨by omega, by decide⟩
    have b1 : ReachP 2 (pairsB oneD) (firstB oneD) 1 := Reach.first ⟨by omega, by decide⟩
    have a1 : ReachP 2 (pairsA oneD) (firstA oneD) 1 := Reach.on (x := 0) a0' (by show (0, 1) ∈ [((0 : Int).toNat, (1 : Int).toNat)]; simp)
    have b0 : ReachP 2 (pairsB oneD) (firstB oneD) 0 := Reach.on (x := 1) b1 (by show (1, 0) ∈ [((1 : Int).toNat, (0 : Int).toNat)]; simp)
    have : i = 0 ∨ i = 1 := by omega
    rcases this with rfl | rfl
    · exact ⟨a0', b0⟩
    · exact ⟨a1, b1⟩
  · intro h
    have := ReachP.lt h.1 (by
      intro p hp
      have : p = (0, 1) := by
        have hp' : p ∈ [((0 : Int).toNat, (1 : Int).toNat)] := hp
        simpa using hp'
      subst this; decide)
    have h2 : i < 2 := this
    simpa using h2

theorem trim_one : IsTrim oneD oneD := ⟨fun i => decide (i < 2), stays_one, by
  unfold trimBy
  rw [if_pos (by decide)]
  rfl⟩

/-- a search that is at its end has met just what can be come to -/
theorem search_done (n : Nat) (ps : List (Nat × Nat)) (S : Nat → Bool) (M : Nat → Bool) (h1 : ∀ x, M x = true → ReachP n ps S x) (h2 : ∀ x, x < n → S x = true → M x = true) (h3 : ∀ x t, M x = true → (x, t) ∈ ps → M t = true) (x : Nat) : M x = true ↔ ReachP n ps S x :=
  ⟨h1 x, fun h => h (fun y => M y = true) (fun s hs => h2 s hs.1 hs.2) (fun s t hs he => h3 s t hs he)⟩

/-- the ends of the arcs from x among the first k -/
def nexts (ps : List (Nat × Nat)) (x : Nat) : List Nat := (ps.filter fun p => p.1 == x).map (·.2)
theorem mem_nexts (ps : List (Nat × Nat)) (x t : Nat) : t ∈ nexts ps x ↔ (x, t) ∈ ps := by
  unfold nexts
  simp only [List.mem_map, List.mem_filter, beq_iff_eq]
  constructor
  · rintro ⟨⟨a, b⟩, ⟨h1, h2⟩, rfl⟩
    simp only at h2
    subst h2; exact h1
  · intro h; exact ⟨(x, t), ⟨h, rfl⟩, rfl⟩

end Go.Proofs.YteehgcbjmdideaaDoor
