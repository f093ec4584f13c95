/- The map of spots: how it is looked up, and written. -/
import Derived.Test.YteehgcbjmdideaaQM07
import Derived.Laws.StructEq
import Derived.Maps.OwnSet
import Derived.Test.YteehgcbjmdideaaQM08
namespace Go.Proofs.Yteehgcbjmdideaa
open Go.RowKit Go.ChangeMaps

def spotV (n i o : Nat) : Value := .agg #[.int .i64 n, .int .i64 i, .int .i64 o]
def stepV (c a : Int) : Value := .agg #[.int .i64 c, .int .i64 a]

/-- what is known of a spot: what it costs, and by which arc -/
structure MetD where
  st : Nat
  rd : Nat
  wt : Nat
  cost : Int
  arc : Int

def isAt (n i o : Nat) (m : MetD) : Bool := decide (m.st = n) && decide (m.rd = i) && decide (m.wt = o)
def lookM (n i o : Nat) : List MetD → Option MetD
  | [] => none
  | m :: l => if isAt n i o m = true then some m else lookM n i o l
def putM (x : MetD) : List MetD → List MetD
  | [] => [x]
  | m :: l => if isAt x.st x.rd x.wt m = true then x :: l else m :: putM x l

theorem isAt_iff (n i o : Nat) (m : MetD) : isAt n i o m = true ↔ m.st = n ∧ m.rd = i ∧ m.wt = o := by
  simp [isAt, and_assoc]

theorem lookM_put (x : MetD) (n i o : Nat) (l : List MetD) : lookM n i o (putM x l) = if x.st = n ∧ x.rd = i ∧ x.wt = o then some x else lookM n i o l := by
  induction l with
  | nil =>
    unfold putM lookM
    by_cases h : x.st = n ∧ x.rd = i ∧ x.wt = o
    · rw [if_pos ((isAt_iff _ _ _ _).2 h), if_pos h]
    · rw [if_neg (fun e => h ((isAt_iff _ _ _ _).1 e)), if_neg h]
      rfl
  | cons m l ih =>
    unfold putM
    by_cases hx : isAt x.st x.rd x.wt m = true
    · rw [if_pos hx]
      obtain ⟨e1, e2, e3⟩ := (isAt_iff _ _ _ _).1 hx
      by_cases h : x.st = n ∧ x.rd = i ∧ x.wt = o
      · rw [if_pos h]
        unfold lookM
        rw [if_pos ((isAt_iff _ _ _ _).2 h)]
      · rw [if_neg h]
        unfold lookM
        rw [if_neg (fun e => h ((isAt_iff _ _ _ _).1 e)), if_neg (fun e => h (by have := (isAt_iff _ _ _ _).1 e; omega))]
    · rw [if_neg hx]
      unfold lookM
      by_cases hm : isAt n i o m = true
      · rw [if_pos hm, if_pos hm, if_neg]
        intro h
        obtain ⟨e1, e2, e3⟩ := (isAt_iff _ _ _ _).1 hm
        exact hx ((isAt_iff _ _ _ _).2 (by omega))
      · rw [if_neg hm, if_neg hm]
        exact ih

def EsOk (es : List MapEntry) (ms : List MetD) : Prop := es.map (fun e => (e.key, e.val)) = ms.map fun m => (spotV m.st m.rd m.wt, stepV m.cost m.arc)
/-- block b is a map that holds just this -/
def MetAt (w : World) (b : Nat) (ms : List MetD) : Prop := ∃ es clock, w.heap[b]? = some (.map es clock) ∧ EsOk es.toList ms

theorem MetAt.lt {w : World} {b : Nat} {ms : List MetD} (h : MetAt w b ms) : b < w.heap.size := by
  obtain ⟨es, clock, hb, _⟩ := h
  exact heap_lt hb
theorem MetAt.block {w w' : World} {b : Nat} {ms : List MetD} (h : MetAt w b ms) (hb : w'.heap[b]? = w.heap[b]?) : MetAt w' b ms := by
  obtain ⟨es, clock, h1, h2⟩ := h
  exact ⟨es, clock, hb.trans h1, h2⟩

theorem spot_eq (n i o n' i' o' : Nat) (w : World) : (Op.equal 108 (spotV n i o) (spotV n' i' o')).run Try.prog w = .ok (decide (n = n' ∧ i = i' ∧ o = o')) w := by
  have h : (Op.equalIn 10000 108 (spotV n i o) (spotV n' i' o')).run Try.prog w = .ok (decide (n = n' ∧ i = i' ∧ o = o')) w := by
    unfold spotV
    rw [run_equalIn_agg w 9999 108 _ _ (by kernel_rfl) (by kernel_rfl)]
    go_simp
    by_cases h0 : n = n' <;> by_cases h1 : i = i' <;> by_cases h2 : o = o' <;> simp [h0, h1, h2] <;> omega
  exact h
theorem spot_check (n i o : Nat) (em : Bool) (w : World) : (Instr.checkKey em 10000 108 (spotV n i o)).run Try.prog w = .ok () w := by kernel_rfl

theorem spot_find (n i o : Nat) (w : World) (es : List MapEntry) : ∀ (ms : List MetD) (k : Nat), EsOk es ms →
    ((Instr.findAsking 108 (spotV n i o) es k).run Try.prog w = .ok none w ∧ lookM n i o ms = none ∧ ∀ c a, putM ⟨n, i, o, c, a⟩ ms = ms ++ [⟨n, i, o, c, a⟩]) ∨
    ∃ j m, (Instr.findAsking 108 (spotV n i o) es k).run Try.prog w = .ok (some (k + j, stepV m.cost m.arc)) w ∧ lookM n i o ms = some m ∧ ms[j]? = some m ∧ (m.st = n ∧ m.rd = i ∧ m.wt = o) ∧ ∀ c a, putM ⟨n, i, o, c, a⟩ ms = ms.set j ⟨n, i, o, c, a⟩ := by
  induction es with
  | nil =>
    intro ms k h
    cases ms with
    | nil => exact Or.inl ⟨rfl, rfl, fun _ _ => rfl⟩
    | cons m ms => simp [EsOk] at h
  | cons e es ih =>
    intro ms k h
    cases ms with
    | nil => simp [EsOk] at h
    | cons m ms =>
      have h1 : (e.key = spotV m.st m.rd m.wt ∧ e.val = stepV m.cost m.arc) ∧ EsOk es ms := by
        simpa [EsOk] using h
      obtain ⟨⟨hk, hv⟩, h2⟩ := h1
      have hq := spot_eq n i o m.st m.rd m.wt w
      by_cases he : n = m.st ∧ i = m.rd ∧ o = m.wt
      · right
        have hat : isAt n i o m = true := (isAt_iff _ _ _ _).2 (by omega)
        refine ⟨0, m, ?_, ?_, rfl, by omega, fun c a => ?_⟩
        · rw [decide_eq_true he] at hq
          simp [Instr.findAsking, hk, hv, hq, Result.andThen]
        · unfold lookM; rw [if_pos hat]
        · unfold putM; rw [if_pos hat]; rfl
      · have hat : ¬ isAt n i o m = true := fun h' => he (by have := (isAt_iff _ _ _ _).1 h'; omega)
        rw [decide_eq_false he] at hq
        have hstep : (Instr.findAsking 108 (spotV n i o) (e :: es) k).run Try.prog w = (Instr.findAsking 108 (spotV n i o) es (k + 1)).run Try.prog w := by
          simp [Instr.findAsking, hk, hq, Result.andThen]
        have hl : lookM n i o (m :: ms) = lookM n i o ms := by
          show (if isAt n i o m = true then some m else lookM n i o ms) = _
          rw [if_neg hat]
        have hp : ∀ c a, putM ⟨n, i, o, c, a⟩ (m :: ms) = m :: putM ⟨n, i, o, c, a⟩ ms := fun c a => by
          show (if isAt n i o m = true then _ else _) = _
          rw [if_neg hat]
        rw [hstep, hl]
        rcases ih ms (k + 1) h2 with ⟨r1, r2, r3⟩ | ⟨j, m', r1, r2, r3, r4, r5⟩
        · exact Or.inl ⟨r1, r2, fun c a => by rw [hp, r3]; rfl⟩
        · exact Or.inr ⟨j + 1, m', by rw [r1, Nat.add_assoc, Nat.add_comm 1 j], r2, r3, r4, fun c a => by rw [hp, r5]; rfl⟩

theorem spot_key (n i o : Nat) (w : World) (es : List MapEntry) : (Instr.findKey 108 (spotV n i o) es).run Try.prog w = (Instr.findAsking 108 (spotV n i o) es).run Try.prog w := by
  cases es with
  | nil =>
    unfold Instr.findKey
    simp [run_underlying Try.underlying108, Instr.findNow, Instr.findAsking, Result.andThen]
  | cons e es =>
    unfold Instr.findKey
    simp [run_underlying Try.underlying108, Instr.findNow, Instr.sameNow, Result.andThen]

def foundV : Option MetD → Value
  | some m => stepV m.cost m.arc
  | none => stepV 0 0

theorem look_ok {w : World} {b : Nat} {ms : List MetD} (h : MetAt w b ms) (n i o : Nat) : (Instr.lookup 133 (.map (some b)) (spotV n i o) true).run Try.prog w = .ok (.tuple #[foundV (lookM n i o ms), .bool (lookM n i o ms).isSome]) w := by
  obtain ⟨es, clock, hb, hes⟩ := h
  rcases spot_find n i o w es.toList ms 0 hes with ⟨r1, r2, _⟩ | ⟨j, m, r1, r2, _⟩
  · rw [r2]
    simp [Instr.lookup, run_underlying Try.underlying133, MapKept.run_getObj_map hb, spot_check, spot_key, r1, foundV, Result.andThen]
    rfl
  · rw [r2]
    simp [Instr.lookup, run_underlying Try.underlying133, MapKept.run_getObj_map hb, spot_check, spot_key, r1, foundV, Result.andThen]
theorem look_bare {w : World} {b : Nat} {ms : List MetD} (h : MetAt w b ms) (n i o : Nat) : (Instr.lookup 133 (.map (some b)) (spotV n i o) false).run Try.prog w = .ok (foundV (lookM n i o ms)) w := by
  obtain ⟨es, clock, hb, hes⟩ := h
  rcases spot_find n i o w es.toList ms 0 hes with ⟨r1, r2, _⟩ | ⟨j, m, r1, r2, _⟩
  · rw [r2]
    simp [Instr.lookup, run_underlying Try.underlying133, MapKept.run_getObj_map hb, spot_check, spot_key, r1, foundV, Result.andThen]
    rfl
  · rw [r2]
    simp [Instr.lookup, run_underlying Try.underlying133, MapKept.run_getObj_map hb, spot_check, spot_key, r1, foundV, Result.andThen]

theorem stays_spot (n i o : Nat) (w : World) : (Instr.keyThatStays (spotV n i o) (spotV n i o)).run Try.prog w = .ok (spotV n i o) w := by
  have h : Instr.sameBits 10000 (spotV n i o) (spotV n i o) = true := by simp [Instr.sameBits, spotV]
  simp [Instr.keyThatStays, h]

theorem put_ok {w : World} {b : Nat} {ms : List MetD} (h : MetAt w b ms) (n i o : Nat) (c a : Int) : ∃ w', (Instr.mapUpdate 133 (.map (some b)) (spotV n i o) (stepV c a)).run Try.prog w = .ok () w' ∧ MetAt w' b (putM ⟨n, i, o, c, a⟩ ms) ∧ w.grownBy w' (some b) := by
  obtain ⟨es, clock, hb, hes⟩ := h
  rcases spot_find n i o w es.toList ms 0 hes with ⟨r1, r2, r3⟩ | ⟨j, m, r1, r2, r3, r4, r5⟩
  · refine ⟨setBlock w b (.map (es.push ⟨spotV n i o, stepV c a, clock⟩) (clock + 1)), ?_, ?_, ?_⟩
    · simp [Instr.mapUpdate, run_underlying Try.underlying133, MapKept.run_getObj_map hb, spot_check, spot_key, r1, MapKept.run_setObj_map _ hb, Result.andThen, setBlock]
    · refine ⟨_, _, heap_setBlock_same hb _, ?_⟩
      rw [r3]
      unfold EsOk at hes ⊢
      simp [hes]
    · exact ⟨rfl, rfl, rfl, by simp [setBlock], fun k _ hne => heap_setBlock_other hb _ (fun e => hne (by rw [e]))⟩
  · obtain ⟨e, he, hek⟩ : ∃ e, es[j]? = some e ∧ e.key = spotV n i o := by
      have h1 : (es.toList.map (fun e => (e.key, e.val)))[j]? = some (spotV m.st m.rd m.wt, stepV m.cost m.arc) := by
        rw [hes, List.getElem?_map, r3]; rfl
      rw [List.getElem?_map] at h1
      cases h2 : es.toList[j]? with
      | none => rw [h2] at h1; cases h1
      | some e =>
        rw [h2] at h1
        have h3 : (e.key, e.val) = (spotV m.st m.rd m.wt, stepV m.cost m.arc) := by simpa using h1
        injection h3 with h4 _
        obtain ⟨q1, q2, q3⟩ := r4
        exact ⟨e, by simpa using h2, by rw [h4, q1, q2, q3]⟩
    rw [Nat.zero_add] at r1
    refine ⟨setBlock w b (.map (es.modify j fun e => { e with key := spotV n i o, val := stepV c a }) clock), ?_, ?_, ?_⟩
    · simp [Instr.mapUpdate, run_underlying Try.underlying133, MapKept.run_getObj_map hb, spot_check, spot_key, r1, he, hek, stays_spot, MapKept.run_setObj_map _ hb, Result.andThen, setBlock]
    · refine ⟨_, _, heap_setBlock_same hb _, ?_⟩
      rw [r5]
      unfold EsOk at hes ⊢
      rw [List.map_set, ← hes]
      apply List.ext_getElem?
      intro k
      simp only [Array.toList_modify, List.getElem?_map, List.getElem?_set, List.getElem?_modify, List.length_map]
      by_cases hjk : j = k
      · subst hjk
        have hlt : j < es.toList.length := by
          have := Array.getElem?_eq_some_iff.1 he
          obtain ⟨h, _⟩ := this
          simpa using h
        have hlt' : j < es.size := by simpa using hlt
        simp [hlt']
      · simp [hjk]
    · exact ⟨rfl, rfl, rfl, by simp [setBlock], fun k _ hne => heap_setBlock_other hb _ (fun e => hne (by rw [e]))⟩

end Go.Proofs.Yteehgcbjmdideaa

/- The search in memory. -/
namespace Go.Proofs.Yteehgcbjmdideaa
open Go.RowKit
attribute [local go_sem ↓] Go.wp_at_zero Go.wp_at_succ

theorem NumsAt.block {w w' : World} {g n : Nat} {c : List Int} (h : NumsAt w g n c) (hb : w'.heap[g]? = w.heap[g]?) (hl : g < w'.heap.size) : NumsAt w' g n c :=
  ⟨h.len, fun i hi => (World.cell?_of_block (w := w) (a := ⟨g, i, none⟩) hb).trans (h.cell i hi), fun i => (World.frozen?_of_block (w := w) (a := ⟨g, i, none⟩) hb).trans (h.frz i), hl⟩

structure SW (w0 w : World) (N s0 B Mb Fb : Nat) (fin arcs iv ov v : Value) (fl : List Int) (ms : List MetD) (L : List PlD) : Prop where
  c0 : w.cell? ⟨B, 0, none⟩ = some (.int .i64 N)
  c1 : w.cell? ⟨B, 1, none⟩ = some (.int .i64 s0)
  c2 : w.cell? ⟨B, 2, none⟩ = some fin
  c3 : w.cell? ⟨B, 3, none⟩ = some arcs
  c4 : w.cell? ⟨B, 4, none⟩ = some iv
  c5 : w.cell? ⟨B, 5, none⟩ = some ov
  c6 : w.cell? ⟨B, 6, none⟩ = some (.slice (some ⟨Fb, 0, none⟩) (N + 1) (N + 1))
  c7 : w.cell? ⟨B, 7, none⟩ = some (.map (some Mb))
  q : QAt w0.heap.size B w v L
  first : NumsAt w Fb (N + 1) fl
  met : MetAt w Mb ms
  BM : B ≠ Mb
  BF : B ≠ Fb
  MF : Mb ≠ Fb
  vM : v.ownBlock ≠ some Mb
  vF : v.ownBlock ≠ some Fb
  gB : w0.heap.size ≤ B
  gM : w0.heap.size ≤ Mb
  gF : w0.heap.size ≤ Fb
  bel : Below w0.heap.size w0 w
  hp : HeapL PlD.cost p0 L L.length

section
variable {w0 w w' : World} {N s0 B Mb Fb : Nat} {fin arcs iv ov v v' : Value} {fl : List Int} {ms ms' : List MetD} {L L' : List PlD}

theorem SW.below (h : SW w0 w N s0 B Mb Fb fin arcs iv ov v fl ms L) (hb : Below w.heap.size w w') : SW w0 w' N s0 B Mb Fb fin arcs iv ov v fl ms L :=
  ⟨bel_c hb h.c0, bel_c hb h.c1, bel_c hb h.c2, bel_c hb h.c3, bel_c hb h.c4, bel_c hb h.c5, bel_c hb h.c6, bel_c hb h.c7, h.q.bel hb, h.first.below hb, h.met.block (hb.block Mb h.met.lt), h.BM, h.BF, h.MF, h.vM, h.vF, h.gB, h.gM, h.gF, bel_on h.bel hb, h.hp⟩

theorem SW.step (h : SW w0 w N s0 B Mb Fb fin arcs iv ov v fl ms L) (hs : QStep B w v w' v') (hq : QAt w0.heap.size B w' v' L') (hh : HeapL PlD.cost p0 L' L'.length) : SW w0 w' N s0 B Mb Fb fin arcs iv ov v' fl ms L' := by
  have hM := h.met.lt
  have hF := h.first.lt
  refine ⟨(hs.cell 0 (by decide)).trans h.c0, (hs.cell 1 (by decide)).trans h.c1, (hs.cell 2 (by decide)).trans h.c2, (hs.cell 3 (by decide)).trans h.c3, (hs.cell 4 (by decide)).trans h.c4, (hs.cell 5 (by decide)).trans h.c5, (hs.cell 6 (by decide)).trans h.c6, (hs.cell 7 (by decide)).trans h.c7, hq, h.first.block (hs.block Fb hF (Ne.symm h.BF) h.vF) (Nat.lt_of_lt_of_le hF hs.size), h.met.block (hs.block Mb hM (Ne.symm h.BM) h.vM), h.BM, h.BF, h.MF, fun e => ?_, fun e => ?_, h.gB, h.gM, h.gF, hs.below h.bel h.bel.size h.gB (fun g hg => own_base h.q.row g hg), hh⟩
  · rcases hs.own _ e with e | e
    · exact h.vM e
    · omega
  · rcases hs.own _ e with e | e
    · exact h.vF e
    · omega

theorem SW.put (h : SW w0 w N s0 B Mb Fb fin arcs iv ov v fl ms L) (hg : w.grownBy w' (some Mb)) (hm : MetAt w' Mb ms') : SW w0 w' N s0 B Mb Fb fin arcs iv ov v fl ms' L := by
  have hB := cell_lt h.c0
  have hne : some B ≠ some Mb := fun e => h.BM (by injection e)
  have hF := h.first.lt
  have hc : ∀ k u, w.cell? ⟨B, k, none⟩ = some u → w'.cell? ⟨B, k, none⟩ = some u := fun k u hk => (hg.cell_far ⟨B, k, none⟩ hB hne).trans hk
  refine ⟨hc 0 _ h.c0, hc 1 _ h.c1, hc 2 _ h.c2, hc 3 _ h.c3, hc 4 _ h.c4, hc 5 _ h.c5, hc 6 _ h.c6, hc 7 _ h.c7, ⟨hc 8 _ h.q.cell, (hg.frozen_far ⟨B, 8, none⟩ hB hne).trans h.q.frz, h.q.row.kept hg (Or.inr h.vM), h.q.ne, Nat.le_trans h.q.base_le hg.size⟩, h.first.block (hg.block Fb hF (fun e => h.MF (by injection e with e; exact e.symm))) (Nat.lt_of_lt_of_le hF hg.size), hm, h.BM, h.BF, h.MF, h.vM, h.vF, h.gB, h.gM, h.gF, h.bel.grown hg h.bel.size (fun k hk => by injection hk with hk; have := h.gM; omega), h.hp⟩
end

/-- nothing but the search's own blocks is changed -/
structure MStep (B Mb : Nat) (w : World) (v : Value) (w' : World) (v' : Value) : Prop where
  size : w.heap.size ≤ w'.heap.size
  block : ∀ b, b < w.heap.size → b ≠ B → b ≠ Mb → v.ownBlock ≠ some b → w'.heap[b]? = w.heap[b]?
  own : ∀ g, v'.ownBlock = some g → v.ownBlock = some g ∨ w.heap.size ≤ g

section
variable {B Mb : Nat} {w w' w'' : World} {v v' v'' : Value}
theorem MStep.trans (h : MStep B Mb w v w' v') (k : MStep B Mb w' v' w'' v'') : MStep B Mb w v w'' v'' :=
  ⟨Nat.le_trans h.size k.size, fun b hb hB hM hv => (k.block b (Nat.lt_of_lt_of_le hb h.size) hB hM (fun e => by
      rcases h.own b e with e | e
      · exact hv e
      · omega)).trans (h.block b hb hB hM hv), fun g hg => by
      rcases k.own g hg with e | e
      · exact h.own g e
      · exact Or.inr (Nat.le_trans h.size e)⟩
theorem MStep.bel (h : Below w.heap.size w w') : MStep B Mb w v w' v := ⟨h.size, fun b hb _ _ _ => h.block b hb, fun _ hg => Or.inl hg⟩
theorem MStep.que (h : QStep B w v w' v') : MStep B Mb w v w' v' := ⟨h.size, fun b hb hB _ hv => h.block b hb hB hv, h.own⟩
theorem MStep.map (h : w.grownBy w' (some Mb)) : MStep B Mb w v w' v := ⟨h.size, fun b hb _ hM _ => h.block b hb (fun e => hM (by injection e)), fun _ hg => Or.inl hg⟩
theorem MStep.cell (h : MStep B Mb w v w' v') {b k : Nat} {u : Value} (hc : w.cell? ⟨b, k, none⟩ = some u) (hB : b ≠ B) (hM : b ≠ Mb) (hv : v.ownBlock ≠ some b) : w'.cell? ⟨b, k, none⟩ = some u :=
  (World.cell?_of_block (w := w) (a := ⟨b, k, none⟩) (h.block b (cell_lt hc) hB hM hv)).trans hc
end

end Go.Proofs.Yteehgcbjmdideaa
