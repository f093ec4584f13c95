/- The queue in memory: places in a row; what a step on it leaves as it was. -/
import Derived.Test.YteehgcbjmdideaaQMB
import Derived.Test.YteehgcbjmdideaaQMA
import Derived.Deep.AppendLies
import Derived.Laws.StructEq
import Derived.Maps.OwnSet
import Derived.Deep.RegionHeld3
namespace Go.Proofs.Yteehgcbjmdideaa
open Go.RowKit
attribute [local go_sem ↓] Go.wp_at_zero Go.wp_at_succ

/-- a place: a spot, and what it cost -/
structure PlD where
  st : Nat
  rd : Nat
  wt : Nat
  cost : Int

def p0 : PlD := ⟨0, 0, 0, 0⟩
def plCells (p : PlD) : List Value := [.int .i64 p.st, .int .i64 p.rd, .int .i64 p.wt, .int .i64 p.cost]
def plsV (l : List PlD) : List Value := l.flatMap plCells

theorem plsV_len (l : List PlD) : (plsV l).length = l.length * 4 := by
  induction l with
  | nil => rfl
  | cons a l ih =>
    have e : plsV (a :: l) = plCells a ++ plsV l := by simp [plsV]
    rw [e, List.length_append, ih, List.length_cons]
    show 4 + _ = _
    omega
theorem plsV_get (l : List PlD) (i j : Nat) (hi : i < l.length) (hj : j < 4) : (plsV l)[i * 4 + j]? = (plCells (l.getD i p0))[j]? := by
  induction l generalizing i with
  | nil => simp at hi
  | cons a l ih =>
    have e : plsV (a :: l) = plCells a ++ plsV l := by simp [plsV]
    have hl : (plCells a).length = 4 := rfl
    rw [e]
    cases i with
    | zero => rw [Nat.zero_mul, Nat.zero_add, List.getElem?_append_left (by omega)]; rfl
    | succ i =>
      rw [List.getElem?_append_right (by omega), hl, show (i + 1) * 4 + j - 4 = i * 4 + j by omega, ih i (by simpa using hi)]
      rfl
theorem plsV_snoc (l : List PlD) (p : PlD) : plsV (l ++ [p]) = plsV l ++ plCells p := by simp [plsV]
theorem plsV_take (l : List PlD) (n : Nat) : plsV (l.take n) = (plsV l).take (n * 4) := by
  induction l generalizing n with
  | nil => simp [plsV]
  | cons a l ih =>
    cases n with
    | zero => simp [plsV]
    | succ n =>
      have e : plsV (a :: l) = plCells a ++ plsV l := by simp [plsV]
      have e2 : plsV (a :: l.take n) = plCells a ++ plsV (l.take n) := by simp [plsV]
      rw [List.take_succ_cons, e2, e, ih, List.take_append, List.take_of_length_le (l := plCells a) (by show 4 ≤ (n + 1) * 4; omega)]
      show _ = plCells a ++ (plsV l).take ((n + 1) * 4 - 4)
      rw [show (n + 1) * 4 - 4 = n * 4 by omega]
theorem oneCell_pl (p : PlD) : ∀ u ∈ plCells p, u.oneCell' = true := by
  intro u hu
  simp [plCells] at hu
  rcases hu with rfl | rfl | rfl | rfl <;> rfl

theorem infoPl : (Try.prog.info? 143).map (fun i => (i.zero, i.size, i.bytes)) = some (some (.agg #[.int .i64 0, .int .i64 0, .int .i64 0, .int .i64 0]), 4, 32) := by kernel_rfl

/-- places in a row, at the head of a block -/
structure PlsAt (w : World) (g n : Nat) (L : List PlD) : Prop where
  len : L.length = n
  cell : ∀ i j, i < n → j < 4 → w.cell? ⟨g, i * 4 + j, none⟩ = (plCells (L.getD i p0))[j]?
  frz : ∀ i, w.frozen? ⟨g, i, none⟩ = false

theorem PlsAt.of {w : World} {B e g n cap : Nat} {L : List PlD} (h : w.ownsRow B e 4 (.slice (some ⟨g, 0, none⟩) n cap) n (plsV L)) : PlsAt w g n L := by
  have hl0 := h.1
  rw [plsV_len] at hl0
  have hl : L.length = n := by omega
  obtain ⟨_, h⟩ := h
  rcases h with ⟨h, _⟩ | ⟨g', cap', cur, he, _, hh, h1, h2, h3, h4⟩
  · cases h
  · cases he
    refine ⟨hl, fun i j hi hj => ?_, fun i => Go.Joins.unfrozen_of_block hh i⟩
    have h5 := plsV_get L i j (by omega) hj
    rw [← h4, List.getElem?_take, if_pos (by omega), Array.getElem?_toList] at h5
    rw [Go.Joins.cell_of_block hh]; exact h5

theorem plsV_set (L : List PlD) (i : Nat) (p : PlD) (hi : i < L.length) : ((((plsV L).set (i * 4) (.int .i64 p.st)).set (i * 4 + 1) (.int .i64 p.rd)).set (i * 4 + 2) (.int .i64 p.wt)).set (i * 4 + 3) (.int .i64 p.cost) = plsV (L.set i p) := by
  induction L generalizing i with
  | nil => simp at hi
  | cons a l ih =>
    have e : ∀ (b : PlD) (l : List PlD), plsV (b :: l) = .int .i64 b.st :: .int .i64 b.rd :: .int .i64 b.wt :: .int .i64 b.cost :: plsV l := fun b l => by simp [plsV, plCells]
    cases i with
    | zero =>
      show _ = plsV (p :: l)
      rw [e, e]
      rfl
    | succ i =>
      show _ = plsV (a :: l.set i p)
      rw [e, e, ← ih i (by simpa using hi)]
      rw [show (i + 1) * 4 + 3 = (i * 4 + 3) + 1 + 1 + 1 + 1 by omega, show (i + 1) * 4 + 2 = (i * 4 + 2) + 1 + 1 + 1 + 1 by omega, show (i + 1) * 4 + 1 = (i * 4 + 1) + 1 + 1 + 1 + 1 by omega, show (i + 1) * 4 = (i * 4) + 1 + 1 + 1 + 1 by omega]
      simp only [List.set_cons_succ]

def setPl (w : World) (g k : Nat) (p : PlD) : World := (((w.setCell ⟨g, k, none⟩ (.int .i64 p.st)).setCell ⟨g, k + 1, none⟩ (.int .i64 p.rd)).setCell ⟨g, k + 2, none⟩ (.int .i64 p.wt)).setCell ⟨g, k + 3, none⟩ (.int .i64 p.cost)

theorem row_setPl {w : World} {B e g n cap : Nat} {L : List PlD} (h : w.ownsRow B e 4 (.slice (some ⟨g, 0, none⟩) n cap) n (plsV L)) (i : Nat) (hi : i < n) (p : PlD) : (setPl w g (i * 4) p).ownsRow B e 4 (.slice (some ⟨g, 0, none⟩) n cap) n (plsV (L.set i p)) := by
  have hl0 := h.1
  rw [plsV_len] at hl0
  have hl : L.length = n := by omega
  obtain ⟨_, h⟩ := h
  refine ⟨by rw [plsV_len, List.length_set]; omega, ?_⟩
  rcases h with ⟨h, _⟩ | ⟨g', cap', cur, he, hB, hh, h1, h2, h3, h4⟩
  · cases h
  · cases he
    refine Or.inr ⟨g, cap, (((cur.setIfInBounds (i * 4) (.int .i64 p.st)).setIfInBounds (i * 4 + 1) (.int .i64 p.rd)).setIfInBounds (i * 4 + 2) (.int .i64 p.wt)).setIfInBounds (i * 4 + 3) (.int .i64 p.cost), rfl, hB, ?_, h1, h2, by simpa using h3, ?_⟩
    · exact Go.Joins.block_setCell (i := i * 4 + 3) (Go.Joins.block_setCell (i := i * 4 + 2) (Go.Joins.block_setCell (i := i * 4 + 1) (Go.Joins.block_setCell (i := i * 4) hh _) _) _) _
    · rw [← plsV_set L i p (by omega), ← h4]
      simp only [Array.toList_setIfInBounds, List.take_set]

/-- a step on the queue whose header lies in block B at 8: nothing else is changed -/
structure QStep (B : Nat) (w : World) (v : Value) (w' : World) (v' : Value) : Prop where
  os : w'.os = w.os
  tape : w'.tape = w.tape
  output : w'.output = w.output
  size : w.heap.size ≤ w'.heap.size
  block : ∀ b, b < w.heap.size → b ≠ B → v.ownBlock ≠ some b → w'.heap[b]? = w.heap[b]?
  cell : ∀ k, k ≠ 8 → w'.cell? ⟨B, k, none⟩ = w.cell? ⟨B, k, none⟩
  frz : ∀ k, w'.frozen? ⟨B, k, none⟩ = w.frozen? ⟨B, k, none⟩
  own : ∀ g, v'.ownBlock = some g → v.ownBlock = some g ∨ w.heap.size ≤ g

theorem QStep.trans {B : Nat} {w w' w'' : World} {v v' v'' : Value} (h : QStep B w v w' v') (k : QStep B w' v' w'' v'') : QStep B w v w'' v'' :=
  ⟨k.os.trans h.os, k.tape.trans h.tape, k.output.trans h.output, Nat.le_trans h.size k.size, fun b hb hB hv => (k.block b (Nat.lt_of_lt_of_le hb h.size) hB (fun e => by
      rcases h.own b e with e | e
      · exact hv e
      · omega)).trans (h.block b hb hB hv), fun i hi => (k.cell i hi).trans (h.cell i hi), fun i => (k.frz i).trans (h.frz i), fun g hg => by
      rcases k.own g hg with e | e
      · exact h.own g e
      · exact Or.inr (Nat.le_trans h.size e)⟩
theorem QStep.bel {B : Nat} {w w' : World} {v : Value} (hB : B < w.heap.size) (h : Below w.heap.size w w') : QStep B w v w' v :=
  ⟨h.os, h.tape, h.output, h.size, fun b hb _ _ => h.block b hb, fun k _ => h.cell (p := ⟨B, k, none⟩) hB, fun k => h.frozen (p := ⟨B, k, none⟩) hB, fun _ hg => Or.inl hg⟩
theorem QStep.refl {B : Nat} {w : World} {v : Value} : QStep B w v w v :=
  ⟨rfl, rfl, rfl, Nat.le_refl _, fun _ _ _ _ => rfl, fun _ _ => rfl, fun _ => rfl, fun _ hg => Or.inl hg⟩
theorem QStep.row {B g i : Nat} {w : World} {v u : Value} (hv : v.ownBlock = some g) (hg : g ≠ B) : QStep B w v (w.setCell ⟨g, i, none⟩ u) v :=
  ⟨rfl, rfl, rfl, by simp [World.setCell], fun b _ _ hne => Below.heap_setCell w ⟨g, i, none⟩ u b (fun e => hne (by rw [hv, e])), fun k _ => set_far (Ne.symm hg), fun k => World.frozen?_setCell _ _ _ _, fun _ h => Or.inl h⟩
theorem QStep.rowPl {B g i : Nat} {w : World} {v : Value} {p : PlD} (hv : v.ownBlock = some g) (hg : g ≠ B) : QStep B w v (setPl w g i p) v :=
  (((QStep.row hv hg).trans (QStep.row hv hg)).trans (QStep.row hv hg)).trans (QStep.row hv hg)
theorem QStep.put {B : Nat} {w : World} {v v' : Value} (hown : ∀ g, v'.ownBlock = some g → v.ownBlock = some g ∨ w.heap.size ≤ g) : QStep B w v (w.setCell ⟨B, 8, none⟩ v') v' :=
  ⟨rfl, rfl, rfl, by simp [World.setCell], fun b _ hB _ => Below.heap_setCell w ⟨B, 8, none⟩ v' b hB, fun k hk => World.cell?_setCell_other _ _ _ _ (by intro e; apply hk; injection e with _ e2; exact e2.symm), fun k => World.frozen?_setCell _ _ _ _, hown⟩
theorem QStep.grown {B : Nat} {w w' : World} {v : Value} (hB : B < w.heap.size) (hg : w.grownBy w' v.ownBlock) (hne : some B ≠ v.ownBlock) : QStep B w v w' v :=
  ⟨hg.os, hg.tape, hg.output, hg.size, fun b hb _ hv => hg.block b hb (fun e => hv e.symm), fun k _ => hg.cell_far ⟨B, k, none⟩ hB hne, fun k => hg.frozen_far ⟨B, k, none⟩ hB hne, fun _ h => Or.inl h⟩

/-- what lies below stays -/
theorem QStep.below {B C : Nat} {w0 w w' : World} {v v' : Value} (h : QStep B w v w' v') (hb : Below C w0 w) (hC : C ≤ w.heap.size) (hB : C ≤ B) (hv : ∀ g, v.ownBlock = some g → C ≤ g) : Below C w0 w' :=
  ⟨h.os.trans hb.os, h.tape.trans hb.tape, h.output.trans hb.output, Nat.le_trans hb.size h.size, fun b hk => (h.block b (by omega) (by omega) (fun e => by have := hv b e; omega)).trans (hb.block b hk)⟩

/-- the queue: its header at 8 in block B, its places in a row of its own -/
structure QAt (base B : Nat) (w : World) (v : Value) (L : List PlD) : Prop where
  cell : w.cell? ⟨B, 8, none⟩ = some v
  frz : w.frozen? ⟨B, 8, none⟩ = false
  row : w.ownsRow base 143 4 v L.length (plsV L)
  ne : v.ownBlock ≠ some B
  base_le : base ≤ w.heap.size

theorem QAt.bel {base B : Nat} {w w' : World} {v : Value} {L : List PlD} (h : QAt base B w v L) (hb : Below w.heap.size w w') : QAt base B w' v L :=
  ⟨bel_c hb h.cell, (hb.frozen (p := ⟨B, 8, none⟩) (cell_lt h.cell)).trans h.frz, ownsRow_bel h.row hb, h.ne, Nat.le_trans h.base_le hb.size⟩

end Go.Proofs.Yteehgcbjmdideaa

/- The map of spots: how it is looked up, and written. -/
namespace Go.Proofs.Yteehgcbjmdideaa
open Go.RowKit Go.ChangeMaps

def spotV (n i o : Nat) : Value := .agg #[.int .i64 n, .int .i64 i, .int .i64 o]
def stepV (c a : Int) : Value := .agg #[.int .i64 c, .int .i64 a]

/-- what is known of a spot: what it costs, and by which arc -/
structure MetD where
  st : Nat
  rd : Nat
  wt : Nat
  cost : Int
  arc : Int

def isAt (n i o : Nat) (m : MetD) : Bool := decide (m.st = n) && decide (m.rd = i) && decide (m.wt = o)
def lookM (n i o : Nat) : List MetD → Option MetD
  | [] => none
  | m :: l => if isAt n i o m = true then some m else lookM n i o l
def putM (x : MetD) : List MetD → List MetD
  | [] => [x]
  | m :: l => if isAt x.st x.rd x.wt m = true then x :: l else m :: putM x l

theorem isAt_iff (n i o : Nat) (m : MetD) : isAt n i o m = true ↔ m.st = n ∧ m.rd = i ∧ m.wt = o := by
  simp [isAt, and_assoc]

theorem lookM_put (x : MetD) (n i o : Nat) (l : List MetD) : lookM n i o (putM x l) = if x.st = n ∧ x.rd = i ∧ x.wt = o then some x else lookM n i o l := by
  induction l with
  | nil =>
    unfold putM lookM
    by_cases h : x.st = n ∧ x.rd = i ∧ x.wt = o
    · rw [if_pos ((isAt_iff _ _ _ _).2 h), if_pos h]
    · rw [if_neg (fun e => h ((isAt_iff _ _ _ _).1 e)), if_neg h]
      rfl
  | cons m l ih =>
    unfold putM
    by_cases hx : isAt x.st x.rd x.wt m = true
    · rw [if_pos hx]
      obtain ⟨e1, e2, e3⟩ := (isAt_iff _ _ _ _).1 hx
      by_cases h : x.st = n ∧ x.rd = i ∧ x.wt = o
      · rw [if_pos h]
        unfold lookM
        rw [if_pos ((isAt_iff _ _ _ _).2 h)]
      · rw [if_neg h]
        unfold lookM
        rw [if_neg (fun e => h ((isAt_iff _ _ _ _).1 e)), if_neg (fun e => h (by have := (isAt_iff _ _ _ _).1 e; omega))]
    · rw [if_neg hx]
      unfold lookM
      by_cases hm : isAt n i o m = true
      · rw [if_pos hm, if_pos hm, if_neg]
        intro h
        obtain ⟨e1, e2, e3⟩ := (isAt_iff _ _ _ _).1 hm
        exact hx ((isAt_iff _ _ _ _).2 (by omega))
      · rw [if_neg hm, if_neg hm]
        exact ih

def EsOk (es : List MapEntry) (ms : List MetD) : Prop := es.map (fun e => (e.key, e.val)) = ms.map fun m => (spotV m.st m.rd m.wt, stepV m.cost m.arc)
/-- block b is a map that holds just this -/
def MetAt (w : World) (b : Nat) (ms : List MetD) : Prop := ∃ es clock, w.heap[b]? = some (.map es clock) ∧ EsOk es.toList ms

theorem MetAt.lt {w : World} {b : Nat} {ms : List MetD} (h : MetAt w b ms) : b < w.heap.size := by
  obtain ⟨es, clock, hb, _⟩ := h
  exact heap_lt hb
theorem MetAt.block {w w' : World} {b : Nat} {ms : List MetD} (h : MetAt w b ms) (hb : w'.heap[b]? = w.heap[b]?) : MetAt w' b ms := by
  obtain ⟨es, clock, h1, h2⟩ := h
  exact ⟨es, clock, hb.trans h1, h2⟩

theorem spot_eq (n i o n' i' o' : Nat) (w : World) : (Op.equal 108 (spotV n i o) (spotV n' i' o')).run Try.prog w = .ok (decide (n = n' ∧ i = i' ∧ o = o')) w := by
  have h : (Op.equalIn 10000 108 (spotV n i o) (spotV n' i' o')).run Try.prog w = .ok (decide (n = n' ∧ i = i' ∧ o = o')) w := by
    unfold spotV
    rw [run_equalIn_agg w 9999 108 _ _ (by kernel_rfl) (by kernel_rfl)]
    go_simp
    by_cases h0 : n = n' <;> by_cases h1 : i = i' <;> by_cases h2 : o = o' <;> simp [h0, h1, h2] <;> omega
  exact h
theorem spot_check (n i o : Nat) (em : Bool) (w : World) : (Instr.checkKey em 10000 108 (spotV n i o)).run Try.prog w = .ok () w := by kernel_rfl

theorem spot_find (n i o : Nat) (w : World) (es : List MapEntry) : ∀ (ms : List MetD) (k : Nat), EsOk es ms →
    ((Instr.findAsking 108 (spotV n i o) es k).run Try.prog w = .ok none w ∧ lookM n i o ms = none ∧ ∀ c a, putM ⟨n, i, o, c, a⟩ ms = ms ++ [⟨n, i, o, c, a⟩]) ∨
    ∃ j m, (Instr.findAsking 108 (spotV n i o) es k).run Try.prog w = .ok (some (k + j, stepV m.cost m.arc)) w ∧ lookM n i o ms = some m ∧ ms[j]? = some m ∧ (m.st = n ∧ m.rd = i ∧ m.wt = o) ∧ ∀ c a, putM ⟨n, i, o, c, a⟩ ms = ms.set j ⟨n, i, o, c, a⟩ := by
  induction es with
  | nil =>
    intro ms k h
    cases ms with
    | nil => exact Or.inl ⟨rfl, rfl, fun _ _ => rfl⟩
    | cons m ms => simp [EsOk] at h
  | cons e es ih =>
    intro ms k h
    cases ms with
    | nil => simp [EsOk] at h
    | cons m ms =>
      have h1 : (e.key = spotV m.st m.rd m.wt ∧ e.val = stepV m.cost m.arc) ∧ EsOk es ms := by
        simpa [EsOk] using h
      obtain ⟨⟨hk, hv⟩, h2⟩ := h1
      have hq := spot_eq n i o m.st m.rd m.wt w
      by_cases he : n = m.st ∧ i = m.rd ∧ o = m.wt
      · right
        have hat : isAt n i o m = true := (isAt_iff _ _ _ _).2 (by omega)
        refine ⟨0, m, ?_, ?_, rfl, by omega, fun c a => ?_⟩
        · rw [decide_eq_true he] at hq
          simp [Instr.findAsking, hk, hv, hq, Result.andThen]
        · unfold lookM; rw [if_pos hat]
        · unfold putM; rw [if_pos hat]; rfl
      · have hat : ¬ isAt n i o m = true := fun h' => he (by have := (isAt_iff _ _ _ _).1 h'; omega)
        rw [decide_eq_false he] at hq
        have hstep : (Instr.findAsking 108 (spotV n i o) (e :: es) k).run Try.prog w = (Instr.findAsking 108 (spotV n i o) es (k + 1)).run Try.prog w := by
          simp [Instr.findAsking, hk, hq, Result.andThen]
        have hl : lookM n i o (m :: ms) = lookM n i o ms := by
          show (if isAt n i o m = true then some m else lookM n i o ms) = _
          rw [if_neg hat]
        have hp : ∀ c a, putM ⟨n, i, o, c, a⟩ (m :: ms) = m :: putM ⟨n, i, o, c, a⟩ ms := fun c a => by
          show (if isAt n i o m = true then _ else _) = _
          rw [if_neg hat]
        rw [hstep, hl]
        rcases ih ms (k + 1) h2 with ⟨r1, r2, r3⟩ | ⟨j, m', r1, r2, r3, r4, r5⟩
        · exact Or.inl ⟨r1, r2, fun c a => by rw [hp, r3]; rfl⟩
        · exact Or.inr ⟨j + 1, m', by rw [r1, Nat.add_assoc, Nat.add_comm 1 j], r2, r3, r4, fun c a => by rw [hp, r5]; rfl⟩

theorem spot_key (n i o : Nat) (w : World) (es : List MapEntry) : (Instr.findKey 108 (spotV n i o) es).run Try.prog w = (Instr.findAsking 108 (spotV n i o) es).run Try.prog w := by
  cases es with
  | nil =>
    unfold Instr.findKey
    simp [run_underlying Try.underlying108, Instr.findNow, Instr.findAsking, Result.andThen]
  | cons e es =>
    unfold Instr.findKey
    simp [run_underlying Try.underlying108, Instr.findNow, Instr.sameNow, Result.andThen]

def foundV : Option MetD → Value
  | some m => stepV m.cost m.arc
  | none => stepV 0 0

theorem look_ok {w : World} {b : Nat} {ms : List MetD} (h : MetAt w b ms) (n i o : Nat) : (Instr.lookup 133 (.map (some b)) (spotV n i o) true).run Try.prog w = .ok (.tuple #[foundV (lookM n i o ms), .bool (lookM n i o ms).isSome]) w := by
  obtain ⟨es, clock, hb, hes⟩ := h
  rcases spot_find n i o w es.toList ms 0 hes with ⟨r1, r2, _⟩ | ⟨j, m, r1, r2, _⟩
  · rw [r2]
    simp [Instr.lookup, run_underlying Try.underlying133, MapKept.run_getObj_map hb, spot_check, spot_key, r1, foundV, Result.andThen]
    rfl
  · rw [r2]
    simp [Instr.lookup, run_underlying Try.underlying133, MapKept.run_getObj_map hb, spot_check, spot_key, r1, foundV, Result.andThen]
theorem look_bare {w : World} {b : Nat} {ms : List MetD} (h : MetAt w b ms) (n i o : Nat) : (Instr.lookup 133 (.map (some b)) (spotV n i o) false).run Try.prog w = .ok (foundV (lookM n i o ms)) w := by
  obtain ⟨es, clock, hb, hes⟩ := h
  rcases spot_find n i o w es.toList ms 0 hes with ⟨r1, r2, _⟩ | ⟨j, m, r1, r2, _⟩
  · rw [r2]
    simp [Instr.lookup, run_underlying Try.underlying133, MapKept.run_getObj_map hb, spot_check, spot_key, r1, foundV, Result.andThen]
    rfl
  · rw [r2]
    simp [Instr.lookup, run_underlying Try.underlying133, MapKept.run_getObj_map hb, spot_check, spot_key, r1, foundV, Result.andThen]

theorem stays_spot (n i o : Nat) (w : World) : (Instr.keyThatStays (spotV n i o) (spotV n i o)).run Try.prog w = .ok (spotV n i o) w := by
  have h : Instr.sameBits 10000 (spotV n i o) (spotV n i o) = true := by simp [Instr.sameBits, spotV]
  simp [Instr.keyThatStays, h]

theorem put_ok {w : World} {b : Nat} {ms : List MetD} (h : MetAt w b ms) (n i o : Nat) (c a : Int) : ∃ w', (Instr.mapUpdate 133 (.map (some b)) (spotV n i o) (stepV c a)).run Try.prog w = .ok () w' ∧ MetAt w' b (putM ⟨n, i, o, c, a⟩ ms) ∧ w.grownBy w' (some b) := by
  obtain ⟨es, clock, hb, hes⟩ := h
  rcases spot_find n i o w es.toList ms 0 hes with ⟨r1, r2, r3⟩ | ⟨j, m, r1, r2, r3, r4, r5⟩
  · refine ⟨setBlock w b (.map (es.push ⟨spotV n i o, stepV c a, clock⟩) (clock + 1)), ?_, ?_, ?_⟩
    · simp [Instr.mapUpdate, run_underlying Try.underlying133, MapKept.run_getObj_map hb, spot_check, spot_key, r1, MapKept.run_setObj_map _ hb, Result.andThen, setBlock]
    · refine ⟨_, _, heap_setBlock_same hb _, ?_⟩
      rw [r3]
      unfold EsOk at hes ⊢
      simp [hes]
    · exact ⟨rfl, rfl, rfl, by simp [setBlock], fun k _ hne => heap_setBlock_other hb _ (fun e => hne (by rw [e]))⟩
  · obtain ⟨e, he, hek⟩ : ∃ e, es[j]? = some e ∧ e.key = spotV n i o := by
      have h1 : (es.toList.map (fun e => (e.key, e.val)))[j]? = some (spotV m.st m.rd m.wt, stepV m.cost m.arc) := by
        rw [hes, List.getElem?_map, r3]; rfl
      rw [List.getElem?_map] at h1
      cases h2 : es.toList[j]? with
      | none => rw [h2] at h1; cases h1
      | some e =>
        rw [h2] at h1
        have h3 : (e.key, e.val) = (spotV m.st m.rd m.wt, stepV m.cost m.arc) := by simpa using h1
        injection h3 with h4 _
        obtain ⟨q1, q2, q3⟩ := r4
        exact ⟨e, by simpa using h2, by rw [h4, q1, q2, q3]⟩
    rw [Nat.zero_add] at r1
    refine ⟨setBlock w b (.map (es.modify j fun e => { e with key := spotV n i o, val := stepV c a }) clock), ?_, ?_, ?_⟩
    · simp [Instr.mapUpdate, run_underlying Try.underlying133, MapKept.run_getObj_map hb, spot_check, spot_key, r1, he, hek, stays_spot, MapKept.run_setObj_map _ hb, Result.andThen, setBlock]
    · refine ⟨_, _, heap_setBlock_same hb _, ?_⟩
      rw [r5]
      unfold EsOk at hes ⊢
      rw [List.map_set, ← hes]
      apply List.ext_getElem?
      intro k
      simp only [Array.toList_modify, List.getElem?_map, List.getElem?_set, List.getElem?_modify, List.length_map]
      by_cases hjk : j = k
      · subst hjk
        have hlt : j < es.toList.length := by
          have := Array.getElem?_eq_some_iff.1 he
          obtain ⟨h, _⟩ := this
          simpa using h
        have hlt' : j < es.size := by simpa using hlt
        simp [hlt']
      · simp [hjk]
    · exact ⟨rfl, rfl, rfl, by simp [setBlock], fun k _ hne => heap_setBlock_other hb _ (fun e => hne (by rw [e]))⟩

end Go.Proofs.Yteehgcbjmdideaa

/- 'Len', 'Less', 'Swap' of the queue. -/
namespace Go.Proofs.Yteehgcbjmdideaa
open Go.RowKit
attribute [local go_sem ↓] Go.wp_at_zero Go.wp_at_succ

set_option maxHeartbeats 400000 in
theorem qLen_any (a : Option Addr) (n c : Nat) (w : World) :
    Calls Try.prog 132 #[.slice a n c] w fun e w' => e = .returned (.int .i64 n) ∧ w' = w := by
  go_enter Try.func132, Try.ntmps132
  go_wp2
  go_ret
  exact ⟨rfl, rfl⟩

set_option maxHeartbeats 1000000 in
theorem qLess_any (i j g n cap : Nat) (L : List PlD) (w : World) (h : PlsAt w g n L) (hi : i < n) (hj : j < n) (r : Bool) (hr : r = decide ((L.getD i p0).cost < (L.getD j p0).cost)) :
    Calls Try.prog 208 #[.slice (some ⟨g, 0, none⟩) n cap, .int .i64 i, .int .i64 j] w fun e w' => e = .returned (.bool r) ∧ Below w.heap.size w w' := by
  have c0 := h.cell i 3 hi (by decide)
  have c1 := h.cell j 3 hj (by decide)
  have e0 : (plCells (L.getD i p0))[3]? = some (.int .i64 (L.getD i p0).cost) := rfl
  have e1 : (plCells (L.getD j p0))[3]? = some (.int .i64 (L.getD j p0).cost) := rfl
  rw [e0] at c0
  rw [e1] at c1
  have hii : (i : Int) < n := by omega
  have hji : (j : Int) < n := by omega
  have HR : Hid (r = decide ((L.getD i p0).cost < (L.getD j p0).cost)) := hr
  clear e0 e1 h hr
  generalize (L.getD i p0).cost = x at *
  generalize (L.getD j p0).cost = y at *
  go_enter Try.func208, Try.ntmps208
  go_wp2
  go_region_held3 (fun wx => wx.cell? ⟨g, i * 4 + 3, none⟩ = some (.int .i64 x) ∧ wx.cell? ⟨g, j * 4 + 3, none⟩ = some (.int .i64 y)) (exact ⟨drew_cell c0, drew_cell c1⟩) (fail)
  go_wp2
  go_ret
  exact ⟨ret_bool HR.out.symm, (bel_self w).drew⟩

/-- 'Swap' -/
theorem PlsAt.four {w : World} {g n : Nat} {L : List PlD} (h : PlsAt w g n L) (i : Nat) (hi : i < n) (p : PlD) (hp : p = L.getD i p0) : w.cell? ⟨g, i * 4, none⟩ = some (.int .i64 p.st) ∧ w.cell? ⟨g, i * 4 + 1, none⟩ = some (.int .i64 p.rd) ∧ w.cell? ⟨g, i * 4 + 2, none⟩ = some (.int .i64 p.wt) ∧ w.cell? ⟨g, i * 4 + 3, none⟩ = some (.int .i64 p.cost) := by
  subst hp
  exact ⟨h.cell i 0 hi (by decide), h.cell i 1 hi (by decide), h.cell i 2 hi (by decide), h.cell i 3 hi (by decide)⟩
theorem PlsAt.below {w w' : World} {g n : Nat} {L : List PlD} (h : PlsAt w g n L) (hb : Below w.heap.size w w') (hg : g < w.heap.size) : PlsAt w' g n L :=
  ⟨h.len, fun i j hi hj => (hb.cell (p := ⟨g, i * 4 + j, none⟩) hg).trans (h.cell i j hi hj), fun i => (hb.frozen (p := ⟨g, i, none⟩) hg).trans (h.frz i)⟩
theorem row_lt {w : World} {B e g n cap : Nat} {xs : List Value} (h : w.ownsRow B e 4 (.slice (some ⟨g, 0, none⟩) n cap) n xs) : g < w.heap.size := ownsRow_lt0 h g rfl

set_option maxHeartbeats 1000000 in
set_option maxRecDepth 100000 in
theorem qSwap_any (i j g n cap base : Nat) (L : List PlD) (w : World) (h : w.ownsRow base 143 4 (.slice (some ⟨g, 0, none⟩) n cap) n (plsV L)) (hi : i < n) (hj : j < n) (hij : i ≠ j) :
    Calls Try.prog 209 #[.slice (some ⟨g, 0, none⟩) n cap, .int .i64 i, .int .i64 j] w fun e w' => e = .returned (.tuple #[]) ∧ w' = setPl (setPl w.drew g (i * 4) (L.getD j p0)) g (j * 4) (L.getD i p0) := by
  have hP := PlsAt.of h
  obtain ⟨pi, hpi⟩ : ∃ p, p = L.getD i p0 := ⟨_, rfl⟩
  obtain ⟨pj, hpj⟩ : ∃ p, p = L.getD j p0 := ⟨_, rfl⟩
  obtain ⟨a0', a1, a2, a3⟩ := (hP.below (bel_self w).drew (row_lt h)).four i hi pi hpi
  obtain ⟨b0, b1, b2, b3⟩ := (hP.below (bel_self w).drew (row_lt h)).four j hj pj hpj
  have hfr : ∀ k, w.drew.frozen? ⟨g, k, none⟩ = false := fun k => (hP.below (bel_self w).drew (row_lt h)).frz k
  rw [← hpi, ← hpj]
  have hii : (i : Int) < n := by omega
  have hji : (j : Int) < n := by omega
  clear hpi hpj hP h
  go_enter Try.func209, Try.ntmps209
  go_wp2
  have hS0 : (fun wx : World => wx.cell? ⟨g, i * 4, none⟩ = some (.int .i64 pi.st) ∧ wx.cell? ⟨g, i * 4 + 1, none⟩ = some (.int .i64 pi.rd) ∧ wx.cell? ⟨g, i * 4 + 2, none⟩ = some (.int .i64 pi.wt) ∧ wx.cell? ⟨g, i * 4 + 3, none⟩ = some (.int .i64 pi.cost) ∧ wx.cell? ⟨g, j * 4, none⟩ = some (.int .i64 pj.st) ∧ wx.cell? ⟨g, j * 4 + 1, none⟩ = some (.int .i64 pj.rd) ∧ wx.cell? ⟨g, j * 4 + 2, none⟩ = some (.int .i64 pj.wt) ∧ wx.cell? ⟨g, j * 4 + 3, none⟩ = some (.int .i64 pj.cost)) w.drew := ⟨a0', a1, a2, a3, b0, b1, b2, b3⟩
  obtain ⟨Wd, hWd⟩ : ∃ Wd, Wd = w.drew := ⟨_, rfl⟩
  rw [← hWd] at hS0 hfr a0' a1 a2 a3 b0 b1 b2 b3
  have HW : Hid (Wd = w.drew) := hWd
  refine wp_region_noPanic ?_
  refine wp_region_F (fun wx => wx.cell? ⟨g, i * 4, none⟩ = some (.int .i64 pi.st) ∧ wx.cell? ⟨g, i * 4 + 1, none⟩ = some (.int .i64 pi.rd) ∧ wx.cell? ⟨g, i * 4 + 2, none⟩ = some (.int .i64 pi.wt) ∧ wx.cell? ⟨g, i * 4 + 3, none⟩ = some (.int .i64 pi.cost) ∧ wx.cell? ⟨g, j * 4, none⟩ = some (.int .i64 pj.st) ∧ wx.cell? ⟨g, j * 4 + 1, none⟩ = some (.int .i64 pj.rd) ∧ wx.cell? ⟨g, j * 4 + 2, none⟩ = some (.int .i64 pj.wt) ∧ wx.cell? ⟨g, j * 4 + 3, none⟩ = some (.int .i64 pj.cost)) [13, 15] (by kernel_rfl) (by rw [← hWd]; exact hS0) (fun _ => ?_)
  rw [← hWd]
  clear hWd
  refine wpAnyF_free (i := 0) (v := .slice (some ⟨g, 0, none⟩) n cap) rfl (by kernel_rfl) (by kernel_rfl) (by kernel_rfl) (by kernel_rfl) (fun _ _ _ h => h) (Or.inl ⟨by rfl, fun wl hSw => ?_⟩) hS0 ?_
  · (try dsimp only at hSw); go_simp
  refine wpAnyF_free (i := 1) (v := .int .i64 i) rfl (by kernel_rfl) (by kernel_rfl) (by kernel_rfl) (by kernel_rfl) (fun _ _ _ h => h) (Or.inl ⟨by rfl, fun wl hSw => ?_⟩) hS0 ?_
  · (try dsimp only at hSw); go_simp
  refine wpAnyF_free (i := 2) (v := .slice (some ⟨g, 0, none⟩) n cap) rfl (by kernel_rfl) (by kernel_rfl) (by kernel_rfl) (by kernel_rfl) (fun _ _ _ h => h) (Or.inl ⟨by rfl, fun wl hSw => ?_⟩) hS0 ?_
  · (try dsimp only at hSw); go_simp
  refine wpAnyF_free (i := 3) (v := .int .i64 j) rfl (by kernel_rfl) (by kernel_rfl) (by kernel_rfl) (by kernel_rfl) (fun _ _ _ h => h) (Or.inl ⟨by rfl, fun wl hSw => ?_⟩) hS0 ?_
  · (try dsimp only at hSw); go_simp
  refine wpAnyF_free (i := 4) (v := .slice (some ⟨g, 0, none⟩) n cap) rfl (by kernel_rfl) (by kernel_rfl) (by kernel_rfl) (by kernel_rfl) (fun _ _ _ h => h) (Or.inl ⟨by rfl, fun wl hSw => ?_⟩) hS0 ?_
  · (try dsimp only at hSw); go_simp
  refine wpAnyF_free (i := 5) (v := .int .i64 j) rfl (by kernel_rfl) (by kernel_rfl) (by kernel_rfl) (by kernel_rfl) (fun _ _ _ h => h) (Or.inl ⟨by rfl, fun wl hSw => ?_⟩) hS0 ?_
  · (try dsimp only at hSw); go_simp
  refine wpAnyF_free (i := 6) (v := .pointer (some ⟨g, j * 4, none⟩)) rfl (by kernel_rfl) (by kernel_rfl) (by kernel_rfl) (by kernel_rfl) (fun _ _ _ h => h) (Or.inl ⟨by rfl, fun wl hSw => ?_⟩) hS0 ?_
  · (try dsimp only at hSw); go_simp
  refine wpAnyF_take (i := 7) (v := .agg #[.int .i64 pj.st, .int .i64 pj.rd, .int .i64 pj.wt, .int .i64 pj.cost]) rfl (by kernel_rfl) (by kernel_rfl) (by kernel_rfl) (by kernel_rfl) (fun _ _ _ h => h) (Or.inl ⟨by rfl, fun wl hSw => ?_⟩) hS0 ?_
  · (try dsimp only at hSw); go_simp
  refine wpAnyF_free (i := 8) (v := .slice (some ⟨g, 0, none⟩) n cap) rfl (by kernel_rfl) (by kernel_rfl) (by kernel_rfl) (by kernel_rfl) (fun _ _ _ h => h) (Or.inl ⟨by rfl, fun wl hSw => ?_⟩) hS0 ?_
  · (try dsimp only at hSw); go_simp
  refine wpAnyF_free (i := 9) (v := .int .i64 i) rfl (by kernel_rfl) (by kernel_rfl) (by kernel_rfl) (by kernel_rfl) (fun _ _ _ h => h) (Or.inl ⟨by rfl, fun wl hSw => ?_⟩) hS0 ?_
  · (try dsimp only at hSw); go_simp
  refine wpAnyF_free (i := 10) (v := .pointer (some ⟨g, i * 4, none⟩)) rfl (by kernel_rfl) (by kernel_rfl) (by kernel_rfl) (by kernel_rfl) (fun _ _ _ h => h) (Or.inl ⟨by rfl, fun wl hSw => ?_⟩) hS0 ?_
  · (try dsimp only at hSw); go_simp
  refine wpAnyF_take (i := 11) (v := .agg #[.int .i64 pi.st, .int .i64 pi.rd, .int .i64 pi.wt, .int .i64 pi.cost]) rfl (by kernel_rfl) (by kernel_rfl) (by kernel_rfl) (by kernel_rfl) (fun _ _ _ h => h) (Or.inl ⟨by rfl, fun wl hSw => ?_⟩) hS0 ?_
  · (try dsimp only at hSw); go_simp
  refine wpAnyF_free (i := 12) (v := .pointer (some ⟨g, i * 4, none⟩)) rfl (by kernel_rfl) (by kernel_rfl) (by kernel_rfl) (by kernel_rfl) (fun _ _ _ h => h) (Or.inl ⟨by rfl, fun wl hSw => ?_⟩) hS0 ?_
  · (try dsimp only at hSw); go_simp
  refine wpAnyF_one (i := 13) rfl (by kernel_rfl) (fun K hK => ?_)
  go_simp
  refine hK.out _ _ ⟨fun h => absurd h (unl_no (by kernel_rfl)), ?_⟩
  clear hK K
  refine wpAnyF_one (i := 14) rfl (by kernel_rfl) (fun K hK => ?_)
  go_simp
  refine hK.out _ _ ⟨fun h => absurd h (unl_no (by kernel_rfl)), ?_⟩
  clear hK K
  refine wpAnyF_one (i := 15) rfl (by kernel_rfl) (fun K hK => ?_)
  go_simp
  refine hK.out _ _ ⟨fun h => absurd h (unl_no (by kernel_rfl)), ?_⟩
  clear hK K
  refine wpAnyF_done (by kernel_rfl) ?_ _
  refine NoPanic.normal ?_
  go_wp2
  go_end0
  exact ⟨rfl, by rw [← HW.out]; rfl⟩

set_option maxHeartbeats 1000000 in
set_option maxRecDepth 100000 in
theorem qSwap_one (i g n cap base : Nat) (L : List PlD) (w : World) (h : w.ownsRow base 143 4 (.slice (some ⟨g, 0, none⟩) n cap) n (plsV L)) (hi : i < n) :
    Calls Try.prog 209 #[.slice (some ⟨g, 0, none⟩) n cap, .int .i64 i, .int .i64 i] w fun e w' => e = .returned (.tuple #[]) ∧ w' = setPl (setPl w.drew g (i * 4) (L.getD i p0)) g (i * 4) (L.getD i p0) := by
  have hP := PlsAt.of h
  obtain ⟨pi, hpi⟩ : ∃ p, p = L.getD i p0 := ⟨_, rfl⟩
  obtain ⟨a0', a1, a2, a3⟩ := (hP.below (bel_self w).drew (row_lt h)).four i hi pi hpi
  have hfr : ∀ k, w.drew.frozen? ⟨g, k, none⟩ = false := fun k => (hP.below (bel_self w).drew (row_lt h)).frz k
  rw [← hpi]
  have hii : (i : Int) < n := by omega
  clear hpi hP h
  go_enter Try.func209, Try.ntmps209
  go_wp2
  have hS0 : (fun wx : World => wx.cell? ⟨g, i * 4, none⟩ = some (.int .i64 pi.st) ∧ wx.cell? ⟨g, i * 4 + 1, none⟩ = some (.int .i64 pi.rd) ∧ wx.cell? ⟨g, i * 4 + 2, none⟩ = some (.int .i64 pi.wt) ∧ wx.cell? ⟨g, i * 4 + 3, none⟩ = some (.int .i64 pi.cost)) w.drew := ⟨a0', a1, a2, a3⟩
  obtain ⟨Wd, hWd⟩ : ∃ Wd, Wd = w.drew := ⟨_, rfl⟩
  rw [← hWd] at hS0 hfr a0' a1 a2 a3
  have HW : Hid (Wd = w.drew) := hWd
  refine wp_region_noPanic ?_
  refine wp_region_F (fun wx => wx.cell? ⟨g, i * 4, none⟩ = some (.int .i64 pi.st) ∧ wx.cell? ⟨g, i * 4 + 1, none⟩ = some (.int .i64 pi.rd) ∧ wx.cell? ⟨g, i * 4 + 2, none⟩ = some (.int .i64 pi.wt) ∧ wx.cell? ⟨g, i * 4 + 3, none⟩ = some (.int .i64 pi.cost)) [13, 15] (by kernel_rfl) (by rw [← hWd]; exact hS0) (fun _ => ?_)
  rw [← hWd]
  clear hWd
  refine wpAnyF_free (i := 0) (v := .slice (some ⟨g, 0, none⟩) n cap) rfl (by kernel_rfl) (by kernel_rfl) (by kernel_rfl) (by kernel_rfl) (fun _ _ _ h => h) (Or.inl ⟨by rfl, fun wl hSw => ?_⟩) hS0 ?_
  · (try dsimp only at hSw); go_simp
  refine wpAnyF_free (i := 1) (v := .int .i64 i) rfl (by kernel_rfl) (by kernel_rfl) (by kernel_rfl) (by kernel_rfl) (fun _ _ _ h => h) (Or.inl ⟨by rfl, fun wl hSw => ?_⟩) hS0 ?_
  · (try dsimp only at hSw); go_simp
  refine wpAnyF_free (i := 2) (v := .slice (some ⟨g, 0, none⟩) n cap) rfl (by kernel_rfl) (by kernel_rfl) (by kernel_rfl) (by kernel_rfl) (fun _ _ _ h => h) (Or.inl ⟨by rfl, fun wl hSw => ?_⟩) hS0 ?_
  · (try dsimp only at hSw); go_simp
  refine wpAnyF_free (i := 3) (v := .int .i64 i) rfl (by kernel_rfl) (by kernel_rfl) (by kernel_rfl) (by kernel_rfl) (fun _ _ _ h => h) (Or.inl ⟨by rfl, fun wl hSw => ?_⟩) hS0 ?_
  · (try dsimp only at hSw); go_simp
  refine wpAnyF_free (i := 4) (v := .slice (some ⟨g, 0, none⟩) n cap) rfl (by kernel_rfl) (by kernel_rfl) (by kernel_rfl) (by kernel_rfl) (fun _ _ _ h => h) (Or.inl ⟨by rfl, fun wl hSw => ?_⟩) hS0 ?_
  · (try dsimp only at hSw); go_simp
  refine wpAnyF_free (i := 5) (v := .int .i64 i) rfl (by kernel_rfl) (by kernel_rfl) (by kernel_rfl) (by kernel_rfl) (fun _ _ _ h => h) (Or.inl ⟨by rfl, fun wl hSw => ?_⟩) hS0 ?_
  · (try dsimp only at hSw); go_simp
  refine wpAnyF_free (i := 6) (v := .pointer (some ⟨g, i * 4, none⟩)) rfl (by kernel_rfl) (by kernel_rfl) (by kernel_rfl) (by kernel_rfl) (fun _ _ _ h => h) (Or.inl ⟨by rfl, fun wl hSw => ?_⟩) hS0 ?_
  · (try dsimp only at hSw); go_simp
  refine wpAnyF_take (i := 7) (v := .agg #[.int .i64 pi.st, .int .i64 pi.rd, .int .i64 pi.wt, .int .i64 pi.cost]) rfl (by kernel_rfl) (by kernel_rfl) (by kernel_rfl) (by kernel_rfl) (fun _ _ _ h => h) (Or.inl ⟨by rfl, fun wl hSw => ?_⟩) hS0 ?_
  · (try dsimp only at hSw); go_simp
  refine wpAnyF_free (i := 8) (v := .slice (some ⟨g, 0, none⟩) n cap) rfl (by kernel_rfl) (by kernel_rfl) (by kernel_rfl) (by kernel_rfl) (fun _ _ _ h => h) (Or.inl ⟨by rfl, fun wl hSw => ?_⟩) hS0 ?_
  · (try dsimp only at hSw); go_simp
  refine wpAnyF_free (i := 9) (v := .int .i64 i) rfl (by kernel_rfl) (by kernel_rfl) (by kernel_rfl) (by kernel_rfl) (fun _ _ _ h => h) (Or.inl ⟨by rfl, fun wl hSw => ?_⟩) hS0 ?_
  · (try dsimp only at hSw); go_simp
  refine wpAnyF_free (i := 10) (v := .pointer (some ⟨g, i * 4, none⟩)) rfl (by kernel_rfl) (by kernel_rfl) (by kernel_rfl) (by kernel_rfl) (fun _ _ _ h => h) (Or.inl ⟨by rfl, fun wl hSw => ?_⟩) hS0 ?_
  · (try dsimp only at hSw); go_simp
  refine wpAnyF_take (i := 11) (v := .agg #[.int .i64 pi.st, .int .i64 pi.rd, .int .i64 pi.wt, .int .i64 pi.cost]) rfl (by kernel_rfl) (by kernel_rfl) (by kernel_rfl) (by kernel_rfl) (fun _ _ _ h => h) (Or.inl ⟨by rfl, fun wl hSw => ?_⟩) hS0 ?_
  · (try dsimp only at hSw); go_simp
  refine wpAnyF_free (i := 12) (v := .pointer (some ⟨g, i * 4, none⟩)) rfl (by kernel_rfl) (by kernel_rfl) (by kernel_rfl) (by kernel_rfl) (fun _ _ _ h => h) (Or.inl ⟨by rfl, fun wl hSw => ?_⟩) hS0 ?_
  · (try dsimp only at hSw); go_simp
  refine wpAnyF_one (i := 13) rfl (by kernel_rfl) (fun K hK => ?_)
  go_simp
  refine hK.out _ _ ⟨fun h => absurd h (unl_no (by kernel_rfl)), ?_⟩
  clear hK K
  refine wpAnyF_one (i := 14) rfl (by kernel_rfl) (fun K hK => ?_)
  go_simp
  refine hK.out _ _ ⟨fun h => absurd h (unl_no (by kernel_rfl)), ?_⟩
  clear hK K
  refine wpAnyF_one (i := 15) rfl (by kernel_rfl) (fun K hK => ?_)
  go_simp
  refine hK.out _ _ ⟨fun h => absurd h (unl_no (by kernel_rfl)), ?_⟩
  clear hK K
  refine wpAnyF_done (by kernel_rfl) ?_ _
  refine NoPanic.normal ?_
  go_wp2
  go_end0
  exact ⟨rfl, by rw [← HW.out]; rfl⟩

theorem qSwap (i j g n cap base : Nat) (L : List PlD) (w : World) (h : w.ownsRow base 143 4 (.slice (some ⟨g, 0, none⟩) n cap) n (plsV L)) (hi : i < n) (hj : j < n) :
    Calls Try.prog 209 #[.slice (some ⟨g, 0, none⟩) n cap, .int .i64 i, .int .i64 j] w fun e w' => e = .returned (.tuple #[]) ∧ w' = setPl (setPl w.drew g (i * 4) (L.getD j p0)) g (j * 4) (L.getD i p0) := by
  by_cases hij : i = j
  · subst hij; exact qSwap_one i g n cap base L w h hi
  · exact qSwap_any i j g n cap base L w h hi hj hij

theorem row_swap {w : World} {B e g n cap : Nat} {L : List PlD} (h : w.ownsRow B e 4 (.slice (some ⟨g, 0, none⟩) n cap) n (plsV L)) (i j : Nat) (hi : i < n) (hj : j < n) : (setPl (setPl w.drew g (i * 4) (L.getD j p0)) g (j * 4) (L.getD i p0)).ownsRow B e 4 (.slice (some ⟨g, 0, none⟩) n cap) n (plsV (swapL p0 L i j)) :=
  row_setPl (row_setPl (ownsRow_bel h (bel_self w).drew) i hi _) j hj _

/-- the queue's places change places -/
theorem QAt.swap {base B g cap : Nat} {w : World} {L : List PlD} {n : Nat} (hn : L.length = n) (h : QAt base B w (.slice (some ⟨g, 0, none⟩) n cap) L) (i j : Nat) (hi : i < n) (hj : j < n) :
    QAt base B (setPl (setPl w.drew g (i * 4) (L.getD j p0)) g (j * 4) (L.getD i p0)) (.slice (some ⟨g, 0, none⟩) n cap) (swapL p0 L i j) ∧ QStep B w (.slice (some ⟨g, 0, none⟩) n cap) (setPl (setPl w.drew g (i * 4) (L.getD j p0)) g (j * 4) (L.getD i p0)) (.slice (some ⟨g, 0, none⟩) n cap) := by
  subst hn
  have hgB : g ≠ B := fun e => h.ne (by rw [← e]; rfl)
  have hst : QStep B w (.slice (some ⟨g, 0, none⟩) L.length cap) (setPl (setPl w.drew g (i * 4) (L.getD j p0)) g (j * 4) (L.getD i p0)) (.slice (some ⟨g, 0, none⟩) L.length cap) :=
    ((QStep.bel (cell_lt h.cell) (bel_self w).drew).trans (QStep.rowPl rfl hgB)).trans (QStep.rowPl rfl hgB)
  have hc : ∀ (W : World) (k : Nat) (p : PlD), (setPl W g k p).cell? ⟨B, 8, none⟩ = W.cell? ⟨B, 8, none⟩ := fun W k p => by
    unfold setPl
    rw [set_far (Ne.symm hgB), set_far (Ne.symm hgB), set_far (Ne.symm hgB), set_far (Ne.symm hgB)]
  refine ⟨⟨?_, ?_, ?_, h.ne, Nat.le_trans h.base_le hst.size⟩, hst⟩
  · rw [hc, hc]; exact drew_cell h.cell
  · exact (hst.frz 8).trans h.frz
  · rw [swapL_len]; exact row_swap h.row i j hi hj

end Go.Proofs.Yteehgcbjmdideaa

/- The queue's methods, called through the interface. -/
namespace Go.Proofs.Yteehgcbjmdideaa
open Go.RowKit
attribute [local go_sem ↓] Go.wp_at_zero Go.wp_at_succ

theorem mth_push (a : Addr) (w : World) : (method 325 145 (.pointer (some a)) "Push").run Try.prog w = .ok (211, .pointer (some a)) w := by kernel_rfl
theorem mth_pop (a : Addr) (w : World) : (method 325 145 (.pointer (some a)) "Pop").run Try.prog w = .ok (210, .pointer (some a)) w := by kernel_rfl

theorem wrap_ok (t : TypeId) (a : Addr) (s : String) (P : Program) (w : World) : (Builtin.ssaWrapNilChk_ #[t] t #[.pointer (some a), strVal "", strVal s]).run P w = .ok (.pointer (some a)) w := rfl

/-- a method of the queue itself, called through its address -/
theorem mth_val (name : String) (K : Nat) (hm : (Try.prog.info? 145).bind (fun i => (i.methods.find? (·.name == name)).map fun m => (m.func, m.path.toList)) = some (some (K, false), [])) (a : Addr) (v : Value) (w : World) (h : w.cell? a = some v) :
    (method 325 145 (.pointer (some a)) name).run Try.prog w = .ok (K, v) w := by
  cases hi : Try.prog.info? 145 with
  | none => rw [hi] at hm; cases hm
  | some i =>
    rw [hi] at hm
    cases hf : i.methods.find? (·.name == name) with
    | none => simp [hf] at hm
    | some m =>
      have h2 : m.func = some (K, false) ∧ m.path.toList = [] := by simpa [hf] using hm
      have h3 : m.path = #[] := by
        apply Array.ext'
        simpa using h2.2
      unfold method
      simp [typeInfo, hi, hf, h2.1, h3, follow, receiverAt, Place.get, wrap_ok, h, go_sem]

theorem mth_len (a : Addr) (v : Value) (w : World) (h : w.cell? a = some v) : (method 325 145 (.pointer (some a)) "Len").run Try.prog w = .ok (132, v) w := mth_val "Len" _ (by kernel_rfl) a v w h
theorem mth_less (a : Addr) (v : Value) (w : World) (h : w.cell? a = some v) : (method 325 145 (.pointer (some a)) "Less").run Try.prog w = .ok (208, v) w := mth_val "Less" _ (by kernel_rfl) a v w h
theorem mth_swap (a : Addr) (v : Value) (w : World) (h : w.cell? a = some v) : (method 325 145 (.pointer (some a)) "Swap").run Try.prog w = .ok (209, v) w := mth_val "Swap" _ (by kernel_rfl) a v w h

end Go.Proofs.Yteehgcbjmdideaa
