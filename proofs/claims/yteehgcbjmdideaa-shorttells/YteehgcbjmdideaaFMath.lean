/- Transducers as plain data: an arc of five numbers, a transducer; the order of arcs; what Check says. -/
namespace Go.Proofs.Yteehgcbjmdideaa

structure ArcD where
  src : Int
  inp : Int
  out : Int
  dst : Int
  wt : Int

structure FstD where
  states : Int
  start : Int
  final : List Int
  arcs : List ArcD

/-- an arc of noughts -/
def a0 : ArcD := ⟨0, 0, 0, 0, 0⟩

def decA (x y : ArcD) : Decidable (x = y) :=
  decidable_of_iff (x.src = y.src ∧ x.inp = y.inp ∧ x.out = y.out ∧ x.dst = y.dst ∧ x.wt = y.wt) (by cases x; cases y; simp)
def decAs (x y : List ArcD) : Decidable (x = y) := @instDecidableEqList ArcD decA x y

def inB (n a b : Int) : Bool := decide (a ≤ n) && decide (n ≤ b)
def cmpI (a b : Int) : Int := if a < b then -1 else if b < a then 1 else 0
def orI (xs : List Int) : Int := (xs.find? (· != 0)).getD 0
def cmpArc (a b : ArcD) : Int := orI [cmpI a.src b.src, cmpI a.inp b.inp, cmpI a.out b.out, cmpI a.dst b.dst]

/-- does one arc stand ahead of another one? -/
def aheadB (a b : ArcD) : Bool :=
  if a.src ≠ b.src then decide (a.src < b.src) else if a.inp ≠ b.inp then decide (a.inp < b.inp) else if a.out ≠ b.out then decide (a.out < b.out) else decide (a.dst < b.dst)

theorem cmpI_neg (a b : Int) : cmpI a b < 0 ↔ a < b := by unfold cmpI; split <;> (try split) <;> omega
theorem cmpI_zero (a b : Int) : cmpI a b = 0 ↔ a = b := by unfold cmpI; split <;> (try split) <;> omega

theorem cmpArc_ahead (a b : ArcD) : decide (0 ≤ cmpArc a b) = !aheadB a b := by
  unfold cmpArc orI aheadB
  have h0 := cmpI_zero a.src b.src
  have h1 := cmpI_zero a.inp b.inp
  have h2 := cmpI_zero a.out b.out
  have h3 := cmpI_zero a.dst b.dst
  have n0 := cmpI_neg a.src b.src
  have n1 := cmpI_neg a.inp b.inp
  have n2 := cmpI_neg a.out b.out
  have n3 := cmpI_neg a.dst b.dst
  generalize cmpI a.src b.src = c0 at *
  generalize cmpI a.inp b.inp = c1 at *
  generalize cmpI a.out b.out = c2 at *
  generalize cmpI a.dst b.dst = c3 at *
  by_cases e0 : c0 = 0
  · by_cases e1 : c1 = 0
    · by_cases e2 : c2 = 0
      · by_cases e3 : c3 = 0
        · simp [e0, e1, e2, e3, h0.1 e0, h1.1 e1, h2.1 e2, h3.1 e3]
        · have e3' : (c3 == 0) = false := by simpa using e3
          simp [List.find?, e0, e1, e2, bne, e3', h0.1 e0, h1.1 e1, h2.1 e2]
          rw [Bool.eq_iff_iff]; simp; omega
      · have e2' : (c2 == 0) = false := by simpa using e2
        simp [List.find?, e0, e1, bne, e2', h0.1 e0, h1.1 e1, mt h2.2 e2]
        rw [Bool.eq_iff_iff]; simp; omega
    · have e1' : (c1 == 0) = false := by simpa using e1
      simp [List.find?, e0, bne, e1', h0.1 e0, mt h1.2 e1]
      rw [Bool.eq_iff_iff]; simp; omega
  · have e0' : (c0 == 0) = false := by simpa using e0
    simp [List.find?, bne, e0', mt h0.2 e0]
    rw [Bool.eq_iff_iff]; simp; omega

/-- what is told of one arc, p the one ahead of it -/
def arcErr (st : Int) (p : Option ArcD) (a : ArcD) : Int :=
  if !inB a.src 0 (st - 1) || !inB a.dst 0 (st - 1) then 5
  else if !inB a.inp 0 9 || !inB a.out 0 9 || !inB a.wt 0 1000000000 then 3
  else match p with
    | some q => if aheadB q a then 0 else 4
    | none => 0

def arcsErr (st : Int) : Option ArcD → List ArcD → Int
  | _, [] => 0
  | p, a :: l => if arcErr st p a = 0 then arcsErr st (some a) l else arcErr st p a

def finB (x : Int) : Bool := (x != -1) && !(inB x 0 1000000000)

def checkD (f : FstD) : Int :=
  if !inB f.states 1 200 then 3
  else if !inB f.start 0 (f.states - 1) then 5
  else if (f.final.length : Int) ≠ f.states then 1
  else if f.final.any finB then 3
  else if 3000 < f.arcs.length then 2
  else arcsErr f.states none f.arcs

/-- the arc ahead of place k -/
def prevA (l : List ArcD) (k : Nat) : Option ArcD := if k = 0 then none else l[k - 1]?

theorem arcsErr_from (st : Int) (l : List ArcD) (k : Nat) (hk : k ≤ l.length) (h : ∀ j, j < k → arcErr st (prevA l j) (l.getD j a0) = 0) : arcsErr st none l = arcsErr st (prevA l k) (l.drop k) := by
  induction k with
  | zero => simp [prevA]
  | succ k ih =>
    rw [ih (by omega) (fun j hj => h j (by omega))]
    have hk' : k < l.length := by omega
    have e := h k (by omega)
    have hg : l.getD k a0 = l[k] := by simp [List.getD, hk']
    rw [hg] at e
    rw [List.drop_eq_getElem_cons hk', arcsErr, if_pos e]
    simp [prevA, hk']

theorem arcsErr_hit (st : Int) (l : List ArcD) (k : Nat) (hk : k < l.length) (h : ∀ j, j < k → arcErr st (prevA l j) (l.getD j a0) = 0) (he : arcErr st (prevA l k) (l.getD k a0) ≠ 0) :
    arcsErr st none l = arcErr st (prevA l k) (l.getD k a0) := by
  rw [arcsErr_from st l k (by omega) h, List.drop_eq_getElem_cons hk]
  have hg : l.getD k a0 = l[k] := by simp [List.getD, hk]
  rw [hg] at he ⊢
  rw [arcsErr, if_neg he]

theorem arcsErr_bad (st : Int) (l : List ArcD) (k : Nat) (a : ArcD) (v : Int) (hk : k < l.length) (h : ∀ j, j < k → arcErr st (prevA l j) (l.getD j a0) = 0) (ha : a = l.getD k a0) (he : arcErr st (prevA l k) a = v) (hv : v ≠ 0) :
    arcsErr st none l = v := by
  subst ha; subst he; exact arcsErr_hit st l k hk h hv

theorem arcsErr_on (st : Int) (l : List ArcD) (k : Nat) (a : ArcD) (h : ∀ j, j < k → arcErr st (prevA l j) (l.getD j a0) = 0) (ha : a = l.getD k a0) (he : arcErr st (prevA l k) a = 0) :
    ∀ j, j < k + 1 → arcErr st (prevA l j) (l.getD j a0) = 0 := by
  subst ha
  intro j hj
  by_cases e : j = k
  · subst e; exact he
  · exact h j (by omega)

theorem prevA_zero (l : List ArcD) (k : Nat) (h : (k : Int) ≤ 0) : prevA l k = none := by
  have : k = 0 := by omega
  simp [prevA, this]

theorem prevA_pos (l : List ArcD) (k : Nat) (p : ArcD) (h : 0 < k) (hk : k < l.length) (hp : p = l.getD (k - 1) a0) : prevA l k = some p := by
  have : k ≠ 0 := by omega
  subst hp
  simp [prevA, this, List.getD, show k - 1 < l.length by omega]

theorem arcsErr_miss (st : Int) (l : List ArcD) (h : ∀ j, j < l.length → arcErr st (prevA l j) (l.getD j a0) = 0) : arcsErr st none l = 0 := by
  rw [arcsErr_from st l l.length (Nat.le_refl _) h, List.drop_length, arcsErr]

end Go.Proofs.Yteehgcbjmdideaa
