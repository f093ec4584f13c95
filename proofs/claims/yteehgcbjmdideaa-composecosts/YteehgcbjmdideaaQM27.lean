/- 'CheckTwo' and 'MostWeight' of the document. -/
import Derived.Test.YteehgcbjmdideaaQM26
import Derived.Test.YteehgcbjmdideaaQM10
import Derived.Test.YteehgcbjmdideaaQM13
import Derived.Test.YteehgcbjmdideaaQM21
namespace Go.Proofs.Yteehgcbjmdideaa
open Go.RowKit
attribute [local go_sem ↓] Go.wp_at_zero Go.wp_at_succ

/-- what CheckTwo answers -/
def twoD (f g : FstD) : Int := if checkD f = 0 then checkD g else checkD f

set_option maxHeartbeats 800000 in
theorem checkTwo_any (f g : FstD) (fin arcs fin' arcs' : Value) (w : World) (hf : ISlice w fin f.final) (ha : ASlice w arcs f.arcs) (hf' : ISlice w fin' g.final) (ha' : ASlice w arcs' g.arcs) (c : Int) (hc : twoD f g = c) :
    Calls Try.prog 32 #[.agg #[.int .i64 f.states, .int .i64 f.start, fin, arcs], .agg #[.int .i64 g.states, .int .i64 g.start, fin', arcs']] w fun e w' => e = .returned (.int .i64 c) ∧ Below w.heap.size w w' := by
  obtain ⟨fa, fn, fc, rfl, _, _⟩ := hf.lenOf
  obtain ⟨aa, m, ac, rfl, _, _⟩ := ha.lenOf
  obtain ⟨ga, gn, gc, rfl, _, _⟩ := hf'.lenOf
  obtain ⟨ca, mc, cc, rfl, _, _⟩ := ha'.lenOf
  obtain ⟨A, hA⟩ : ∃ A, A = (w.alloc (.cells #[.int .i64 f.states, .int .i64 f.start, .slice fa fn fc, .slice aa m ac] 25)).alloc (.cells #[.int .i64 g.states, .int .i64 g.start, .slice ga gn gc, .slice ca mc cc] 25) := ⟨_, rfl⟩
  have hb0 : Below w.heap.size w A := by rw [hA]; exact two_up w _ _
  have hchk := checkFst_any f _ _ A (hf.below hb0) (ha.below hb0)
  have HG : Hid (∀ W, Below w.heap.size w W → Calls Try.prog 18 #[.agg #[.int .i64 g.states, .int .i64 g.start, .slice ga gn gc, .slice ca mc cc]] W fun e w' => e = .returned (.int .i64 (checkD g)) ∧ Below W.heap.size W w') := fun W h => checkFst_any g _ _ W (hf'.below h) (ha'.below h)
  have hB : CellsF A (w.heap.size + 1) g.states g.start (.slice ga gn gc) (.slice ca mc cc) := by rw [hA]; exact cellsF_at _ _ _ _ _ _ _ (one_size w _)
  unfold twoD at hc
  have HA : Hid (A = (w.alloc (.cells #[.int .i64 f.states, .int .i64 f.start, .slice fa fn fc, .slice aa m ac] 25)).alloc (.cells #[.int .i64 g.states, .int .i64 g.start, .slice ga gn gc, .slice ca mc cc] 25)) := hA
  rw [hA] at hchk
  clear hA
  by_cases h0 : checkD f = 0
  · rw [if_pos h0] at hc
    rw [h0] at hchk
    rw [hc] at HG
    clear hc h0
    go_enter Try.func32, Try.ntmps32
    go_wp2_with (first | (go_at_call 18; refine hchk.mono ?_; rintro e w1 ⟨rfl, hb1⟩; rw [← HA.out] at hb1; have hc1 := bel_on hb0 hb1; obtain ⟨k0, k1, k2, k3⟩ := hB.below hb1; clear hchk) | (go_at_call 18; refine (HG.out w1 hc1).mono ?_; rintro e w2 ⟨rfl, hb2⟩; have hc2 := bel_on hc1 hb2))
    go_ret
    exact ⟨rfl, hc2⟩
  · rw [if_neg h0] at hc
    rw [hc] at hchk h0
    have h0b : (c == 0) = false := by simpa using h0
    clear hc
    go_enter Try.func32, Try.ntmps32
    go_wp2_with (go_at_call 18; refine hchk.mono ?_; rintro e w1 ⟨rfl, hb1⟩; rw [← HA.out] at hb1; have hc1 := bel_on hb0 hb1)
    go_ret
    exact ⟨rfl, hc1⟩

set_option maxHeartbeats 1600000 in
set_option maxRecDepth 100000 in
theorem mostWeight_any (f : FstD) (fin arcs : Value) (w : World) (kf : Fine f) (hf : ISlice w fin f.final) (ha : ASlice w arcs f.arcs) :
    Calls Try.prog 34 #[.agg #[.int .i64 f.states, .int .i64 f.start, fin, arcs]] w fun e w' => ∃ x, e = .returned (.int .i64 x) ∧ (0 ≤ x ∧ x ≤ 1000000000) ∧ (∀ a ∈ f.arcs, a.wt ≤ x) ∧ (∀ y ∈ f.final, y ≤ x) ∧ Below w.heap.size w w' := by
  obtain ⟨fa, fn, fc, rfl, hfl, _⟩ := hf.lenOf
  obtain ⟨aa, m, ac, rfl, hal, _⟩ := ha.lenOf
  obtain ⟨A, hA⟩ : ∃ A, A = w.alloc (.cells #[.int .i64 f.states, .int .i64 f.start, .slice fa fn fc, .slice aa m ac] 25) := ⟨_, rfl⟩
  have hb0 : Below w.heap.size w A := by rw [hA]; exact bel_up (bel_self w) _
  have hcf : CellsF A w.heap.size f.states f.start (.slice fa fn fc) (.slice aa m ac) := by rw [hA]; exact cellsF_new _ _ _ _ _ _
  have HF : Hid (ISlice A (.slice fa fn fc) f.final) := hf.below hb0
  have HR : Hid (ASlice A (.slice aa m ac) f.arcs) := ha.below hb0
  have HL : Hid (f.final.length = fn ∧ f.arcs.length = m) := ⟨hfl, hal⟩
  have HKF : Hid (Fine f) := kf
  have hm3 : m ≤ 3000 := by have := kf.many; omega
  have hf2 : fn ≤ 200 := by have := kf.len; have := kf.s2; omega
  have HA : Hid (A = w.alloc (.cells #[.int .i64 f.states, .int .i64 f.start, .slice fa fn fc, .slice aa m ac] 25)) := hA
  obtain ⟨q0, q1, q2, q3⟩ := hcf
  clear hA hf ha hfl hal kf
  go_enter Try.func34, Try.ntmps34
  go_wp2
  rw [← HA.out]
  clear HA
  go_loopw [3, 4] (fun t3 t4 wx => ∃ (k : Nat) (x : Int), k ≤ m ∧ t3 = .int .i64 x ∧ t4 = .int .i64 (k : Int) ∧ wx = A ∧ (0 ≤ x ∧ x ≤ 1000000000) ∧ ∀ j a, j < k → f.arcs[j]? = some a → a.wt ≤ x) (fun _ t4 _ => m - (intOf t4).toNat)
  case atStart => exact ⟨0, 0, Nat.zero_le _, rfl, rfl, rfl, by omega, fun j a h => absurd h (Nat.not_lt_zero _)⟩
  case round =>
    obtain ⟨k, x, hk, rfl, rfl, rfl, ⟨x0, x1⟩, hx⟩ := hrel
    have HX : Hid (∀ j a, j < k → f.arcs[j]? = some a → a.wt ≤ x) := hx
    clear hx
    have hkw : IntKind.i64.wrap ((k : Int) + 1) = (k : Int) + 1 := wrap_in _ (by omega) (by omega)
    by_cases hlt : k < m
    · have hki : (k : Int) < m := by omega
      obtain ⟨ab, ao, rfl, hxa⟩ := HR.out.some (by omega)
      obtain ⟨a, hak⟩ : ∃ d, f.arcs[k]? = some d := ⟨_, List.getElem?_eq_getElem (by have := HL.out.2; omega)⟩
      have hgd : f.arcs.getD k a0 = a := by simp [List.getD, hak]
      have c4' := hxa.c4 k hlt
      rw [hgd] at c4'
      obtain ⟨n1, _, _, _, _, _, _, hnm⟩ := HKF.out.nums
      obtain ⟨_, _, _, _, p9, p10⟩ := hnm a (List.mem_of_getElem? hak)
      obtain ⟨wt, hwt⟩ : ∃ t, a.wt = t := ⟨_, rfl⟩
      rw [hwt] at c4' p9 p10
      have HS : Hid (∀ y, x ≤ y → wt ≤ y → ∀ j b, j < k + 1 → f.arcs[j]? = some b → b.wt ≤ y) := fun y h1 h2 j b hj hb => by
        by_cases e : j = k
        · subst e
          rw [hak] at hb
          injection hb with hb
          subst hb
          rw [hwt]
          exact h2
        · exact Int.le_trans (HX.out j b (by omega) hb) h1
      clear hxa hgd hnm hwt hak
      by_cases hgt : x < wt
      · go_wp2
        go_roundw
        case rel => exact ⟨k + 1, wt, by omega, rfl, by go_num, trivial, ⟨by omega, by omega⟩, HS.out wt (by omega) (by omega)⟩
        case measure => simp [intOf]; omega
      · go_wp2
        go_roundw
        case rel => exact ⟨k + 1, x, by omega, rfl, by go_num, trivial, ⟨by omega, by omega⟩, HS.out x (by omega) (by omega)⟩
        case measure => simp [intOf]; omega
    · obtain rfl : k = m := by omega
      have hnl : ¬ ((k : Int) < k) := by omega
      have HARC : Hid (∀ a ∈ f.arcs, a.wt ≤ x) := fun a ha => by
        obtain ⟨j, hj⟩ := List.getElem?_of_mem ha
        exact HX.out j a (by have := (List.getElem?_eq_some_iff.1 hj).1; have := HL.out.2; omega) hj
      clear HX
      go_wp2
      go_loopw [3, 5] (fun t3 t5 wx => ∃ (i : Nat) (y : Int), i ≤ fn ∧ t3 = .int .i64 y ∧ t5 = .int .i64 (i : Int) ∧ wx = wr ∧ (0 ≤ y ∧ y ≤ 1000000000) ∧ x ≤ y ∧ ∀ j v, j < i → f.final[j]? = some v → v ≤ y) (fun _ t5 _ => fn - (intOf t5).toNat)
      case atStart => exact ⟨0, x, Nat.zero_le _, rfl, rfl, rfl, ⟨x0, x1⟩, Int.le_refl _, fun j a h => absurd h (Nat.not_lt_zero _)⟩
      case round =>
        obtain ⟨i, y, hi, rfl, rfl, rfl, ⟨y0, y1⟩, hxy, hy⟩ := hrel
        have HY : Hid (∀ j v, j < i → f.final[j]? = some v → v ≤ y) := hy
        clear hy
        have hiw : IntKind.i64.wrap ((i : Int) + 1) = (i : Int) + 1 := wrap_in _ (by omega) (by omega)
        by_cases hlt2 : i < fn
        · have hii : (i : Int) < fn := by omega
          obtain ⟨fb, fo, rfl, hxf⟩ := HF.out.some (by omega)
          have d0 := hxf.cell i hlt2
          obtain ⟨v, hv⟩ : ∃ d, f.final[i]? = some d := ⟨_, List.getElem?_eq_getElem (by have := HL.out.1; omega)⟩
          have hgd : f.final.getD i 0 = v := by simp [List.getD, hv]
          rw [hgd] at d0
          have p := HKF.out.fin v (List.mem_of_getElem? hv)
          have p1 : v ≤ 1000000000 := by omega
          have HS : Hid (∀ z, y ≤ z → v ≤ z → ∀ j u, j < i + 1 → f.final[j]? = some u → u ≤ z) := fun z h1 h2 j u hj hu => by
            by_cases e : j = i
            · subst e
              rw [hv] at hu
              injection hu with hu
              omega
            · exact Int.le_trans (HY.out j u (by omega) hu) h1
          clear hxf hgd hv p
          by_cases hgt : y < v
          · go_wp2
            go_roundw
            case rel => exact ⟨i + 1, v, by omega, rfl, by go_num, trivial, ⟨by omega, by omega⟩, by omega, HS.out v (by omega) (by omega)⟩
            case measure => simp [intOf]; omega
          · go_wp2
            go_roundw
            case rel => exact ⟨i + 1, y, by omega, rfl, by go_num, trivial, ⟨by omega, by omega⟩, by omega, HS.out y (by omega) (by omega)⟩
            case measure => simp [intOf]; omega
        · obtain rfl : i = fn := by omega
          have hnl2 : ¬ ((i : Int) < i) := by omega
          have HFIN : Hid (∀ v ∈ f.final, v ≤ y) := fun v hv => by
            obtain ⟨j, hj⟩ := List.getElem?_of_mem hv
            exact HY.out j v (by have := (List.getElem?_eq_some_iff.1 hj).1; have := HL.out.1; omega) hj
          clear HY
          go_wp2
          go_ret
          exact ⟨y, rfl, ⟨y0, y1⟩, fun a ha => Int.le_trans (HARC.out a ha) hxy, HFIN.out, hb0⟩
end Go.Proofs.Yteehgcbjmdideaa

/- Two transducers at the same time ('both' of package compose): how it lies in memory, its map of pairs, and a step on it. -/
namespace Go.Proofs.Yteehgcbjmdideaa
open Go.RowKit Go.ChangeMaps
attribute [local go_sem ↓] Go.wp_at_zero Go.wp_at_succ

def pairV (x : Int × Int) : Value := .agg #[.int .i64 x.1, .int .i64 x.2]
def pairCells (x : Int × Int) : List Value := [.int .i64 x.1, .int .i64 x.2]
def pairsV (l : List (Int × Int)) : List Value := l.flatMap pairCells
theorem oneCell_pair (x : Int × Int) : ∀ u ∈ pairCells x, u.oneCell' = true := by
  intro u hu
  simp only [pairCells, List.mem_cons, List.not_mem_nil, or_false] at hu
  rcases hu with rfl | rfl <;> rfl

/-! The map of pairs. -/
def EsP (es : List MapEntry) (ps : List (Int × Int)) (n : Nat) : Prop := es.map (fun e => (e.key, e.val)) = (ps.zipIdx n).map fun y => (pairV y.1, Value.int .i64 (y.2 : Int))
def PrAt (w : World) (b : Nat) (ps : List (Int × Int)) : Prop := ∃ es clock, w.heap[b]? = some (.map es clock) ∧ EsP es.toList ps 0
theorem PrAt.lt {w : World} {b : Nat} {ps : List (Int × Int)} (h : PrAt w b ps) : b < w.heap.size := by
  obtain ⟨es, clock, hb, _⟩ := h
  exact heap_lt hb
theorem PrAt.block {w w' : World} {b : Nat} {ps : List (Int × Int)} (h : PrAt w b ps) (hb : w'.heap[b]? = w.heap[b]?) : PrAt w' b ps := by
  obtain ⟨es, clock, h1, h2⟩ := h
  exact ⟨es, clock, hb.trans h1, h2⟩
theorem PrAt.noCells {w : World} {b : Nat} {ps : List (Int × Int)} (h : PrAt w b ps) : ∃ o : Obj, w.heap[b]? = some o ∧ o.isCells = false := by
  obtain ⟨es, clock, h1, _⟩ := h
  exact ⟨_, h1, rfl⟩

theorem pair_eq (x y : Int × Int) (w : World) : (Op.equal 120 (pairV x) (pairV y)).run Try.prog w = .ok (decide (x = y)) w := by
  have h : (Op.equalIn 10000 120 (pairV x) (pairV y)).run Try.prog w = .ok (decide (x = y)) w := by
    obtain ⟨x1, x2⟩ := x
    obtain ⟨y1, y2⟩ := y
    unfold pairV
    rw [run_equalIn_agg w 9999 120 _ _ (by kernel_rfl) (by kernel_rfl)]
    go_simp
    by_cases h0 : x1 = y1 <;> by_cases h1 : x2 = y2 <;> simp [h0, h1]
  exact h
theorem pair_check (x : Int × Int) (em : Bool) (w : World) : (Instr.checkKey em 10000 120 (pairV x)).run Try.prog w = .ok () w := by kernel_rfl
theorem pair_find (x : Int × Int) (w : World) (es : List MapEntry) : ∀ (ps : List (Int × Int)) (k n : Nat), EsP es ps n →
    (x ∉ ps ∧ (Instr.findAsking 120 (pairV x) es k).run Try.prog w = .ok none w) ∨
    (x ∈ ps ∧ (Instr.findAsking 120 (pairV x) es k).run Try.prog w = .ok (some (k + ps.idxOf x, .int .i64 ((n + ps.idxOf x : Nat) : Int))) w) := by
  induction es with
  | nil =>
    intro ps k n h
    cases ps with
    | nil => exact Or.inl ⟨by simp, rfl⟩
    | cons m ms => simp [EsP] at h
  | cons e es ih =>
    intro ps k n h
    cases ps with
    | nil => simp [EsP] at h
    | cons y ps =>
      have h1 : (e.key = pairV y ∧ e.val = .int .i64 (n : Int)) ∧ EsP es ps (n + 1) := by
        simpa [EsP, List.zipIdx_cons] using h
      obtain ⟨⟨hk, hv⟩, h2⟩ := h1
      have hq := pair_eq x y w
      by_cases he : x = y
      · right
        refine ⟨by simp [he], ?_⟩
        rw [decide_eq_true he] at hq
        have e0 : (y :: ps).idxOf x = 0 := by rw [he]; exact List.idxOf_cons_self
        rw [e0]
        simp [Instr.findAsking, hk, hv, hq, Result.andThen]
      · rw [decide_eq_false he] at hq
        have hstep : (Instr.findAsking 120 (pairV x) (e :: es) k).run Try.prog w = (Instr.findAsking 120 (pairV x) es (k + 1)).run Try.prog w := by
          simp [Instr.findAsking, hk, hq, Result.andThen]
        rw [hstep]
        rcases ih ps (k + 1) (n + 1) h2 with ⟨r1, r2⟩ | ⟨r1, r2⟩
        · exact Or.inl ⟨by simp [he, r1], r2⟩
        · refine Or.inr ⟨by simp [r1], ?_⟩
          have e3 : (y :: ps).idxOf x = (ps.idxOf x).succ := by rw [List.idxOf_cons, beq_false_of_ne (Ne.symm he)]; rfl
          rw [e3, r2]
          have e1 : k + 1 + ps.idxOf x = k + (ps.idxOf x).succ := by omega
          have e2 : n + 1 + ps.idxOf x = n + (ps.idxOf x).succ := by omega
          rw [e1, e2]
theorem pair_key (x : Int × Int) (w : World) (es : List MapEntry) : (Instr.findKey 120 (pairV x) es).run Try.prog w = (Instr.findAsking 120 (pairV x) es).run Try.prog w := by
  cases es with
  | nil =>
    unfold Instr.findKey
    simp [run_underlying Try.underlying120, Instr.findNow, Instr.findAsking, Result.andThen]
  | cons e es =>
    unfold Instr.findKey
    simp [run_underlying Try.underlying120, Instr.findNow, Instr.sameNow, Result.andThen]
theorem plook_yes {w : World} {b : Nat} {ps : List (Int × Int)} (h : PrAt w b ps) {x : Int × Int} (hx : x ∈ ps) : (Instr.lookup 90 (.map (some b)) (.agg #[.int .i64 x.1, .int .i64 x.2]) true).run Try.prog w = .ok (.tuple #[.int .i64 (ps.idxOf x : Nat), .bool true]) w := by
  obtain ⟨es, clock, hb, hes⟩ := h
  show (Instr.lookup 90 (.map (some b)) (pairV x) true).run Try.prog w = _
  rcases pair_find x w es.toList ps 0 0 hes with ⟨r1, _⟩ | ⟨_, r2⟩
  · exact absurd hx r1
  · rw [Nat.zero_add] at r2
    simp [Instr.lookup, run_underlying Try.underlying90, MapKept.run_getObj_map hb, pair_check, pair_key, r2, Result.andThen]
theorem plook_no {w : World} {b : Nat} {ps : List (Int × Int)} (h : PrAt w b ps) {x : Int × Int} (hx : x ∉ ps) : (Instr.lookup 90 (.map (some b)) (.agg #[.int .i64 x.1, .int .i64 x.2]) true).run Try.prog w = .ok (.tuple #[.int .i64 0, .bool false]) w := by
  obtain ⟨es, clock, hb, hes⟩ := h
  show (Instr.lookup 90 (.map (some b)) (pairV x) true).run Try.prog w = _
  rcases pair_find x w es.toList ps 0 0 hes with ⟨_, r2⟩ | ⟨r1, _⟩
  · simp [Instr.lookup, run_underlying Try.underlying90, MapKept.run_getObj_map hb, pair_check, pair_key, r2, Result.andThen]
  · exact absurd r1 hx
theorem pput {w : World} {b : Nat} {ps : List (Int × Int)} (h : PrAt w b ps) {x : Int × Int} (hx : x ∉ ps) {n : Int} (hn : n = ps.length) : ∃ w', (Instr.mapUpdate 90 (.map (some b)) (.agg #[.int .i64 x.1, .int .i64 x.2]) (.int .i64 n)).run Try.prog w = .ok () w' ∧ PrAt w' b (ps ++ [x]) ∧ w.grownBy w' (some b) ∧ w'.heap.size = w.heap.size := by
  obtain ⟨es, clock, hb, hes⟩ := h
  show ∃ w', (Instr.mapUpdate 90 (.map (some b)) (pairV x) (.int .i64 n)).run Try.prog w = .ok () w' ∧ _
  rcases pair_find x w es.toList ps 0 0 hes with ⟨_, r2⟩ | ⟨r1, _⟩
  · refine ⟨setBlock w b (.map (es.push ⟨pairV x, .int .i64 n, clock⟩) (clock + 1)), ?_, ?_, ?_, ?_⟩
    · simp [Instr.mapUpdate, run_underlying Try.underlying90, MapKept.run_getObj_map hb, pair_check, pair_key, r2, MapKept.run_setObj_map _ hb, Result.andThen, setBlock]
    · refine ⟨_, _, heap_setBlock_same hb _, ?_⟩
      unfold EsP at hes ⊢
      rw [Array.toList_push, List.map_append, hes, List.zipIdx_append, List.map_append]
      simp [hn]
    · exact ⟨rfl, rfl, rfl, by simp [setBlock], fun k _ hne => heap_setBlock_other hb _ (fun e => hne (by rw [e]))⟩
    · simp [setBlock]
  · exact absurd r1 hx

/-! How it lies in memory. -/
structure TwoF where
  f : FstD
  g : FstD
  fi : Value
  ar : Value
  fj : Value
  ar' : Value
def bothV (K : TwoF) (st sta : Int) (fv av : Value) (Mb : Nat) (pv : Value) : Array Value := #[.int .i64 st, .int .i64 sta, fv, av, .int .i64 K.f.states, .int .i64 K.f.start, K.fi, K.ar, .int .i64 K.g.states, .int .i64 K.g.start, K.fj, K.ar', .map (some Mb), pv]
def ownB (fv av pv : Value) (g : Nat) : Prop := fv.ownBlock = some g ∨ av.ownBlock = some g ∨ pv.ownBlock = some g

structure BV (w : World) (P B Mb : Nat) (K : TwoF) (st sta : Int) (fv av pv : Value) (xs : List Int) (ars : List ArcD) (ps ms : List (Int × Int)) : Prop where
  box : w.heap[P]? = some (.cells (bothV K st sta fv av Mb pv) 93 (0, 0))
  fin : w.ownsRow B 3 1 fv xs.length (xs.map (Value.int .i64))
  arc : w.ownsRow B 63 5 av ars.length (arcsV ars)
  pr : w.ownsRow B 120 2 pv ps.length (pairsV ps)
  mp : PrAt w Mb ms
  hP : B ≤ P
  hM : B ≤ Mb
  fP : fv.ownBlock ≠ some P
  aP : av.ownBlock ≠ some P
  pP : pv.ownBlock ≠ some P
  fa : ∀ g, fv.ownBlock = some g → av.ownBlock ≠ some g
  fp : ∀ g, fv.ownBlock = some g → pv.ownBlock ≠ some g
  ap : ∀ g, av.ownBlock = some g → pv.ownBlock ≠ some g

structure BS (P Mb : Nat) (w w' : World) (O O' : Nat → Prop) : Prop where
  os : w'.os = w.os
  tape : w'.tape = w.tape
  output : w'.output = w.output
  size : w.heap.size ≤ w'.heap.size
  block : ∀ b, b < w.heap.size → b ≠ P → b ≠ Mb → ¬ O b → w'.heap[b]? = w.heap[b]?
  own : ∀ g, O' g → O g ∨ w.heap.size ≤ g

theorem BS.refl {P Mb : Nat} {w : World} {O : Nat → Prop} : BS P Mb w w O O := ⟨rfl, rfl, rfl, Nat.le_refl _, fun _ _ _ _ _ => rfl, fun _ h => Or.inl h⟩
theorem BS.trans {P Mb : Nat} {w w' w'' : World} {O O' O'' : Nat → Prop} (h : BS P Mb w w' O O') (k : BS P Mb w' w'' O' O'') : BS P Mb w w'' O O'' := by
  refine ⟨k.os.trans h.os, k.tape.trans h.tape, k.output.trans h.output, Nat.le_trans h.size k.size, fun b hb hP hM ho => (k.block b (Nat.lt_of_lt_of_le hb h.size) hP hM (fun e => ?_)).trans (h.block b hb hP hM ho), fun g hg => ?_⟩
  · rcases h.own b e with q | q
    · exact ho q
    · omega
  · rcases k.own g hg with q | q
    · exact h.own g q
    · have := h.size; exact Or.inr (by omega)
theorem BS.of_bel {P Mb : Nat} {w w' : World} {O : Nat → Prop} (h : Below w.heap.size w w') : BS P Mb w w' O O :=
  ⟨h.os, h.tape, h.output, h.size, fun b hb _ _ _ => h.block b hb, fun _ h => Or.inl h⟩
theorem BS.set {P Mb i : Nat} {w : World} {O : Nat → Prop} {u : Value} : BS P Mb w (w.setCell ⟨P, i, none⟩ u) O O :=
  ⟨rfl, rfl, rfl, by simp [World.setCell], fun b _ hb _ _ => Below.heap_setCell w ⟨P, i, none⟩ u b hb, fun _ h => Or.inl h⟩

section
variable {w w' w1 w2 : World} {P B Mb n : Nat} {K : TwoF} {st sta : Int} {fv av pv fv' av' pv' : Value} {xs : List Int} {ars : List ArcD} {ps ms : List (Int × Int)}

theorem BV.lt (h : BV w P B Mb K st sta fv av pv xs ars ps ms) : P < w.heap.size := heap_lt h.box
theorem BV.below (h : BV w P B Mb K st sta fv av pv xs ars ps ms) (hb : Below w.heap.size w w') : BV w' P B Mb K st sta fv av pv xs ars ps ms :=
  ⟨heap_bel hb h.box, ownsRow_bel h.fin hb, ownsRow_bel h.arc hb, ownsRow_bel h.pr hb, h.mp.block (hb.block Mb h.mp.lt), h.hP, h.hM, h.fP, h.aP, h.pP, h.fa, h.fp, h.ap⟩
theorem BV.notM (h : BV w P B Mb K st sta fv av pv xs ars ps ms) : P ≠ Mb ∧ ¬ ownB fv av pv Mb := by
  obtain ⟨o, ho, hc⟩ := h.mp.noCells
  have key : ∀ g, (∃ o : Obj, w.heap[g]? = some o ∧ o.isCells = true) → g ≠ Mb := fun g ⟨o', ho', hc'⟩ e => by
    subst e
    rw [ho] at ho'
    injection ho' with ho'
    subst ho'
    rw [hc] at hc'
    exact Bool.noConfusion hc'
  refine ⟨key P ⟨_, h.box, rfl⟩, fun q => ?_⟩
  rcases q with q | q | q
  · exact key Mb (own_cells h.fin Mb q) rfl
  · exact key Mb (own_cells h.arc Mb q) rfl
  · exact key Mb (own_cells h.pr Mb q) rfl
theorem BV.ownLt (h : BV w P B Mb K st sta fv av pv xs ars ps ms) : ∀ g, ownB fv av pv g → B ≤ g ∧ g < w.heap.size := fun g q => by
  rcases q with q | q | q
  · exact ⟨own_base h.fin g q, ownsRow_lt0 h.fin g q⟩
  · exact ⟨own_base h.arc g q, ownsRow_lt0 h.arc g q⟩
  · exact ⟨own_base h.pr g q, ownsRow_lt0 h.pr g q⟩
theorem BS.below {O' : Nat → Prop} (h : BS P Mb w w' (ownB fv av pv) O') (hJ : BV w P B Mb K st sta fv av pv xs ars ps ms) : Below B w w' :=
  ⟨h.os, h.tape, h.output, h.size, fun b hb => h.block b (by have := hJ.lt; have := hJ.hP; omega) (by have := hJ.hP; omega) (by have := hJ.hM; omega) (fun e => by have := (hJ.ownLt b e).1; omega)⟩

/-- other numbers in the box -/
theorem BV.states (h : BV w P B Mb K st sta fv av pv xs ars ps ms) (k : Int) : BV (w.setCell ⟨P, 0, none⟩ (.int .i64 k)) P B Mb K k sta fv av pv xs ars ps ms :=
  ⟨box_set (k := 0) h.box rfl, ownsRow_setCell_far h.fin h.fP, ownsRow_setCell_far h.arc h.aP, ownsRow_setCell_far h.pr h.pP, h.mp.block (Below.heap_setCell w ⟨P, 0, none⟩ _ Mb (fun e => h.notM.1 e.symm)), h.hP, h.hM, h.fP, h.aP, h.pP, h.fa, h.fp, h.ap⟩
theorem BV.start (h : BV w P B Mb K st sta fv av pv xs ars ps ms) (k : Int) : BV (w.setCell ⟨P, 1, none⟩ (.int .i64 k)) P B Mb K st k fv av pv xs ars ps ms :=
  ⟨box_set (k := 1) h.box rfl, ownsRow_setCell_far h.fin h.fP, ownsRow_setCell_far h.arc h.aP, ownsRow_setCell_far h.pr h.pP, h.mp.block (Below.heap_setCell w ⟨P, 1, none⟩ _ Mb (fun e => h.notM.1 e.symm)), h.hP, h.hM, h.fP, h.aP, h.pP, h.fa, h.fp, h.ap⟩
/-- another map -/
theorem BV.put {ms' : List (Int × Int)} (h : BV w P B Mb K st sta fv av pv xs ars ps ms) (hm : PrAt w' Mb ms') (hg : w.grownBy w' (some Mb)) : BV w' P B Mb K st sta fv av pv xs ars ps ms' ∧ BS P Mb w w' (ownB fv av pv) (ownB fv av pv) := by
  obtain ⟨n1, n2⟩ := h.notM
  have key : ∀ {v : Value}, (∀ g, v.ownBlock = some g → ownB fv av pv g) → v.ownBlock = none ∨ v.ownBlock ≠ some Mb := fun {v} hv => by
    cases hf : v.ownBlock with
    | none => exact Or.inl rfl
    | some g => exact Or.inr (fun e => n2 (hv Mb (by rw [hf]; exact e)))
  refine ⟨⟨(hg.block P h.lt (fun e => n1 (by injection e))).trans h.box, h.fin.kept hg (key fun g q => Or.inl q), h.arc.kept hg (key fun g q => Or.inr (Or.inl q)), h.pr.kept hg (key fun g q => Or.inr (Or.inr q)), hm, h.hP, h.hM, h.fP, h.aP, h.pP, h.fa, h.fp, h.ap⟩, ?_⟩
  exact ⟨hg.os, hg.tape, hg.output, hg.size, fun b hb _ hM _ => hg.block b hb (fun e => hM (by injection e)), fun _ q => Or.inl q⟩

/-- one of its rows behind an append: w1 is w with blocks behind it, v' what append gives -/
theorem BV.box2 (h : BV w P B Mb K st sta fv av pv xs ars ps ms) (hb : Below w.heap.size w w1) {row : Option Nat} (hg : w1.grownBy w2 row) (hr : row ≠ some P) : w2.heap[P]? = some (.cells (bothV K st sta fv av Mb pv) 93 (0, 0)) :=
  (hg.block P (by have := h.lt; have := hb.size; omega) (fun e => hr e.symm)).trans (h.below hb).box
theorem kept_far {B e size n : Nat} {v u : Value} {ys : List Value} (h : w1.ownsRow B e size v n ys) (hg : w1.grownBy w2 u.ownBlock) (hd : ∀ g, v.ownBlock = some g → u.ownBlock ≠ some g) : w2.ownsRow B e size v n ys := h.kept hg (by
  cases hf : v.ownBlock with
  | none => exact Or.inl rfl
  | some g => exact Or.inr (fun e => hd g hf e.symm))
theorem map_far (h : BV w P B Mb K st sta fv av pv xs ars ps ms) (hb : Below w.heap.size w w1) {u : Value} (hg : w1.grownBy w2 u.ownBlock) (hu : u.ownBlock ≠ some Mb) (i : Nat) (x : Value) : PrAt (w2.setCell ⟨P, i, none⟩ x) Mb ms :=
  h.mp.block (by rw [Below.heap_setCell _ _ _ _ (fun e => h.notM.1 e.symm), hg.block Mb (by have := h.mp.lt; have := hb.size; omega) (fun e => hu e.symm)]; exact hb.block Mb h.mp.lt)

theorem BV.arcs {more : List ArcD} (h : BV w P B Mb K st sta fv av pv xs ars ps ms) (hb : Below w.heap.size w w1)
    (hown : w2.ownsRow B 63 5 av' n (arcsV ars ++ arcsV more)) (hn : n = (ars ++ more).length) (hg : w1.grownBy w2 av.ownBlock) (hat : av'.ownBlock = av.ownBlock ∨ av'.ownBlock = some w1.heap.size) :
    BV (w2.setCell ⟨P, 3, none⟩ av') P B Mb K st sta fv av' pv xs (ars ++ more) ps ms ∧ BS P Mb w (w2.setCell ⟨P, 3, none⟩ av') (ownB fv av pv) (ownB fv av' pv) := by
  have hlt := h.lt
  have hsz := hb.size
  have h1 := h.below hb
  have hnew : ∀ g, av'.ownBlock = some g → av.ownBlock = some g ∨ g = w1.heap.size := fun g e => by
    rcases hat with q | q
    · exact Or.inl (q ▸ e)
    · rw [q] at e; injection e with e; exact Or.inr e.symm
  have hap : av'.ownBlock ≠ some P := fun e => by rcases hnew P e with q | q; exact h.aP q; omega
  have hfa : ∀ g, fv.ownBlock = some g → av'.ownBlock ≠ some g := fun g hg' e => by
    rcases hnew g e with q | q
    · exact h.fa g hg' q
    · have := ownsRow_lt0 h.fin g hg'; omega
  have hpa : ∀ g, av'.ownBlock = some g → pv.ownBlock ≠ some g := fun g e hg' => by
    rcases hnew g e with q | q
    · exact h.ap g q hg'
    · have := ownsRow_lt0 h.pr g hg'; omega
  have hbox := h.box2 hb hg h.aP
  have harc : w2.ownsRow B 63 5 av' (ars ++ more).length (arcsV (ars ++ more)) := by
    have e : arcsV (ars ++ more) = arcsV ars ++ arcsV more := by simp [arcsV]
    rw [e, ← hn]
    exact hown
  refine ⟨⟨box_set (k := 3) hbox rfl, ownsRow_setCell_far (kept_far h1.fin hg h.fa) h.fP, ownsRow_setCell_far harc hap, ownsRow_setCell_far (kept_far h1.pr hg (fun g q e => h.ap g e q)) h.pP, map_far h hb hg (fun e => h.notM.2 (Or.inr (Or.inl e))) 3 _, h.hP, h.hM, h.fP, hap, h.pP, hfa, h.fp, hpa⟩, ?_⟩
  refine ⟨hg.os.trans hb.os, hg.tape.trans hb.tape, hg.output.trans hb.output, ?_, fun b hb' hP _ ho => ?_, fun g hg' => ?_⟩
  · have := hg.size
    simp [World.setCell]
    omega
  · rw [Below.heap_setCell _ _ _ _ hP, hg.block b (by omega) (fun e => ho (Or.inr (Or.inl e.symm)))]
    exact hb.block b hb'
  · rcases hg' with e | e | e
    · exact Or.inl (Or.inl e)
    · rcases hnew g e with q | q
      · exact Or.inl (Or.inr (Or.inl q))
      · exact Or.inr (by omega)
    · exact Or.inl (Or.inr (Or.inr e))

theorem BV.ends {more : List Int} (h : BV w P B Mb K st sta fv av pv xs ars ps ms) (hb : Below w.heap.size w w1)
    (hown : w2.ownsRow B 3 1 fv' n (xs.map (Value.int .i64) ++ more.map (Value.int .i64))) (hn : n = (xs ++ more).length) (hg : w1.grownBy w2 fv.ownBlock) (hat : fv'.ownBlock = fv.ownBlock ∨ fv'.ownBlock = some w1.heap.size) :
    BV (w2.setCell ⟨P, 2, none⟩ fv') P B Mb K st sta fv' av pv (xs ++ more) ars ps ms ∧ BS P Mb w (w2.setCell ⟨P, 2, none⟩ fv') (ownB fv av pv) (ownB fv' av pv) := by
  have hlt := h.lt
  have hsz := hb.size
  have h1 := h.below hb
  have hnew : ∀ g, fv'.ownBlock = some g → fv.ownBlock = some g ∨ g = w1.heap.size := fun g e => by
    rcases hat with q | q
    · exact Or.inl (q ▸ e)
    · rw [q] at e; injection e with e; exact Or.inr e.symm
  have hap : fv'.ownBlock ≠ some P := fun e => by rcases hnew P e with q | q; exact h.fP q; omega
  have hfa : ∀ g, fv'.ownBlock = some g → av.ownBlock ≠ some g := fun g e hg' => by
    rcases hnew g e with q | q
    · exact h.fa g q hg'
    · have := ownsRow_lt0 h.arc g hg'; omega
  have hfp : ∀ g, fv'.ownBlock = some g → pv.ownBlock ≠ some g := fun g e hg' => by
    rcases hnew g e with q | q
    · exact h.fp g q hg'
    · have := ownsRow_lt0 h.pr g hg'; omega
  have hbox := h.box2 hb hg h.fP
  have hfin : w2.ownsRow B 3 1 fv' (xs ++ more).length ((xs ++ more).map (Value.int .i64)) := by
    rw [List.map_append, ← hn]
    exact hown
  refine ⟨⟨box_set (k := 2) hbox rfl, ownsRow_setCell_far hfin hap, ownsRow_setCell_far (kept_far h1.arc hg (fun g q e => h.fa g e q)) h.aP, ownsRow_setCell_far (kept_far h1.pr hg (fun g q e => h.fp g e q)) h.pP, map_far h hb hg (fun e => h.notM.2 (Or.inl e)) 2 _, h.hP, h.hM, hap, h.aP, h.pP, hfa, hfp, h.ap⟩, ?_⟩
  refine ⟨hg.os.trans hb.os, hg.tape.trans hb.tape, hg.output.trans hb.output, ?_, fun b hb' hP _ ho => ?_, fun g hg' => ?_⟩
  · have := hg.size
    simp [World.setCell]
    omega
  · rw [Below.heap_setCell _ _ _ _ hP, hg.block b (by omega) (fun e => ho (Or.inl e.symm))]
    exact hb.block b hb'
  · rcases hg' with e | e | e
    · rcases hnew g e with q | q
      · exact Or.inl (Or.inl q)
      · exact Or.inr (by omega)
    · exact Or.inl (Or.inr (Or.inl e))
    · exact Or.inl (Or.inr (Or.inr e))

theorem BV.prs {more : List (Int × Int)} (h : BV w P B Mb K st sta fv av pv xs ars ps ms) (hb : Below w.heap.size w w1)
    (hown : w2.ownsRow B 120 2 pv' n (pairsV ps ++ pairsV more)) (hn : n = (ps ++ more).length) (hg : w1.grownBy w2 pv.ownBlock) (hat : pv'.ownBlock = pv.ownBlock ∨ pv'.ownBlock = some w1.heap.size) :
    BV (w2.setCell ⟨P, 13, none⟩ pv') P B Mb K st sta fv av pv' xs ars (ps ++ more) ms ∧ BS P Mb w (w2.setCell ⟨P, 13, none⟩ pv') (ownB fv av pv) (ownB fv av pv') := by
  have hlt := h.lt
  have hsz := hb.size
  have h1 := h.below hb
  have hnew : ∀ g, pv'.ownBlock = some g → pv.ownBlock = some g ∨ g = w1.heap.size := fun g e => by
    rcases hat with q | q
    · exact Or.inl (q ▸ e)
    · rw [q] at e; injection e with e; exact Or.inr e.symm
  have hap : pv'.ownBlock ≠ some P := fun e => by rcases hnew P e with q | q; exact h.pP q; omega
  have hfp : ∀ g, fv.ownBlock = some g → pv'.ownBlock ≠ some g := fun g hg' e => by
    rcases hnew g e with q | q
    · exact h.fp g hg' q
    · have := ownsRow_lt0 h.fin g hg'; omega
  have hpa : ∀ g, av.ownBlock = some g → pv'.ownBlock ≠ some g := fun g hg' e => by
    rcases hnew g e with q | q
    · exact h.ap g hg' q
    · have := ownsRow_lt0 h.arc g hg'; omega
  have hbox := h.box2 hb hg h.pP
  have hpr : w2.ownsRow B 120 2 pv' (ps ++ more).length (pairsV (ps ++ more)) := by
    have e : pairsV (ps ++ more) = pairsV ps ++ pairsV more := by simp [pairsV]
    rw [e, ← hn]
    exact hown
  refine ⟨⟨box_set (k := 13) hbox rfl, ownsRow_setCell_far (kept_far h1.fin hg h.fp) h.fP, ownsRow_setCell_far (kept_far h1.arc hg h.ap) h.aP, ownsRow_setCell_far hpr hap, map_far h hb hg (fun e => h.notM.2 (Or.inr (Or.inr e))) 13 _, h.hP, h.hM, h.fP, h.aP, hap, h.fa, hfp, hpa⟩, ?_⟩
  refine ⟨hg.os.trans hb.os, hg.tape.trans hb.tape, hg.output.trans hb.output, ?_, fun b hb' hP _ ho => ?_, fun g hg' => ?_⟩
  · have := hg.size
    simp [World.setCell]
    omega
  · rw [Below.heap_setCell _ _ _ _ hP, hg.block b (by omega) (fun e => ho (Or.inr (Or.inr e.symm)))]
    exact hb.block b hb'
  · rcases hg' with e | e | e
    · exact Or.inl (Or.inl e)
    · exact Or.inl (Or.inr (Or.inl e))
    · rcases hnew g e with q | q
      · exact Or.inl (Or.inr (Or.inr q))
      · exact Or.inr (by omega)
end
end Go.Proofs.Yteehgcbjmdideaa
