/- The small functions of package fst: 'within', 'isState', the test of a final's weight; the library's cmp.Compare. -/
import Derived.Test.YteehgcbjmdideaaProg
import Derived.Test.YteehgcbjmdideaaQMA
import Derived.WalkKit
import Derived.WalkSpells
import Derived.WalkLawsBesides
import Derived.Deep.QuietTactic
import Derived.BigQuiet
namespace Go.Proofs.Yteehgcbjmdideaa
open Go.RowKit

theorem bel_up {w w' : World} (h : Below w.heap.size w w') (o : Obj) : Below w.heap.size w (w'.alloc o) := h.alloc h.size o
theorem bel_on {a b c : World} (h : Below a.heap.size a b) (k : Below b.heap.size b c) : Below a.heap.size a c := h.trans (k.mono h.size)
theorem bel_self (w : World) : Below w.heap.size w w := Below.refl _ _
theorem bel_keep {w w' : World} (h : Below w.heap.size w w') {b o : Nat} {v : Value} (hb : b < w.heap.size) (hc : w.cell? ⟨b, o, none⟩ = some v) : w'.cell? ⟨b, o, none⟩ = some v := (h.cell (p := ⟨b, o, none⟩) hb).trans hc
theorem bel_drewN {B : Nat} {w w' : World} (h : Below B w w') (n : Nat) : Below B w (w'.drewN n) := h.trans ⟨rfl, rfl, rfl, Nat.le_refl _, fun _ _ => rfl⟩
theorem bcell {W w1 : World} (hb : Below W.heap.size W w1) : (∀ b o, b < W.heap.size → w1.cell? ⟨b, o, none⟩ = W.cell? ⟨b, o, none⟩) ∧ (∀ b o, b < W.heap.size → w1.frozen? ⟨b, o, none⟩ = W.frozen? ⟨b, o, none⟩) :=
  ⟨fun b o h => hb.cell (p := ⟨b, o, none⟩) h, fun b o h => hb.frozen (p := ⟨b, o, none⟩) h⟩
theorem cell_lt {w : World} {b o : Nat} {v : Value} (h : w.cell? ⟨b, o, none⟩ = some v) : b < w.heap.size := World.block_lt_of_cell? w ⟨b, o, none⟩ h

theorem ret_bool {a b : Bool} (h : a = b) : Ending.returned (.bool a) = .returned (.bool b) := by rw [h]
theorem ret_int {k : IntKind} {a b : Int} (h : a = b) : Ending.returned (.int k a) = .returned (.int k b) := by rw [h]

theorem within_any (n a b : Int) (w : World) :
    Calls Try.prog 136 #[.int .i64 n, .int .i64 a, .int .i64 b] w fun e w' => e = .returned (.bool (inB n a b)) ∧ w' = w := by
  go_enter Try.func136, Try.ntmps136
  go_wp2
  all_goals
    go_ret
    exact ⟨ret_bool (by unfold inB; simp; try omega), rfl⟩

theorem between_any (n a b : Int) (w : World) :
    Calls Try.prog 58 #[.int .i64 n, .int .i64 a, .int .i64 b] w fun e w' => e = .returned (.bool (inB n a b)) ∧ w' = w := by
  go_enter Try.func58, Try.ntmps58
  go_wp2
  all_goals
    go_ret
    exact ⟨ret_bool (by unfold inB; simp; try omega), rfl⟩

theorem isNaN_any (n : Int) (w : World) :
    Calls Try.prog 150 #[.int .i64 n] w fun e w' => e = .returned (.bool false) ∧ w' = w := by
  go_enter Try.func150, Try.ntmps150
  go_wp2
  go_ret
  exact ⟨rfl, rfl⟩

theorem compare_any (a b : Int) (w : World) :
    Calls Try.prog 113 #[.int .i64 a, .int .i64 b] w fun e w' => e = .returned (.int .i64 (cmpI a b)) ∧ w' = w := by
  go_enter Try.func113, Try.ntmps113
  go_wp2_with (go_at_call 150; refine (isNaN_any _ _).mono ?_; rintro e w' ⟨rfl, rfl⟩)
  all_goals
    go_ret
    exact ⟨ret_int (by unfold cmpI; repeat' split <;> first | rfl | omega), rfl⟩

theorem check1_any (x : Int) (w : World) :
    Calls Try.prog 138 #[.int .i64 x] w fun e w' => e = .returned (.bool (finB x)) ∧ w' = w := by
  go_enter Try.func138, Try.ntmps138
  go_wp2_with (go_at_call 136; refine (within_any _ _ _ _).mono ?_; rintro e w' ⟨rfl, rfl⟩)
  all_goals
    go_ret
    exact ⟨ret_bool (by unfold finB; simp [*]), rfl⟩

theorem isState_any (st sta : Int) (fin arcs : Value) (n : Int) (w : World) (h1 : -1000 ≤ st) (h2 : st ≤ 1000) :
    Calls Try.prog 137 #[.agg #[.int .i64 st, .int .i64 sta, fin, arcs], .int .i64 n] w fun e w' => e = .returned (.bool (inB n 0 (st - 1))) ∧ Below w.heap.size w w' := by
  go_enter Try.func137, Try.ntmps137
  go_wp2_with (go_at_call 136; refine (within_any _ _ _ _).mono ?_; rintro e w' ⟨rfl, rfl⟩)
  go_ret
  exact ⟨rfl, (Below.refl _ _).alloc (Nat.le_refl _) _⟩

/-- a slice of integers: what it holds -/
structure IntsAt (w : World) (b off n : Nat) (xs : List Int) : Prop where
  len : xs.length = n
  cell : ∀ i, i < n → w.cell? ⟨b, off + i, none⟩ = some (.int .i64 (xs.getD i 0))

theorem bel_c {w w' : World} (h : Below w.heap.size w w') {b o : Nat} {v : Value} (hc : w.cell? ⟨b, o, none⟩ = some v) : w'.cell? ⟨b, o, none⟩ = some v := bel_keep h (cell_lt hc) hc

theorem new_cell (w : World) (cs : Array Value) (t N k : Nat) (v : Value) (hN : w.heap.size = N) (hv : cs[k]? = some v) : (w.alloc (.cells cs t)).cell? ⟨N, k, none⟩ = some v := by
  subst hN; simp [hv]
theorem old_cell {w : World} {o : Obj} {b k : Nat} {v : Value} (h : w.cell? ⟨b, k, none⟩ = some v) : (w.alloc o).cell? ⟨b, k, none⟩ = some v := bel_c (bel_up (bel_self _) _) h
theorem drew_cell {w : World} {b k : Nat} {v : Value} (h : w.cell? ⟨b, k, none⟩ = some v) : w.drew.cell? ⟨b, k, none⟩ = some v := bel_c (bel_self _).drew h

theorem IntsAt.below {w w' : World} {b off n : Nat} {xs : List Int} (h : IntsAt w b off n xs) (hb : Below w.heap.size w w') : IntsAt w' b off n xs :=
  ⟨h.len, fun i hi => bel_keep hb (cell_lt (h.cell i hi)) (h.cell i hi)⟩

/-- an arc in a block of its own -/
def CellsA (w : World) (B : Nat) (a : ArcD) : Prop :=
  w.cell? ⟨B, 0, none⟩ = some (.int .i64 a.src) ∧ w.cell? ⟨B, 1, none⟩ = some (.int .i64 a.inp) ∧ w.cell? ⟨B, 2, none⟩ = some (.int .i64 a.out) ∧ w.cell? ⟨B, 3, none⟩ = some (.int .i64 a.dst) ∧ w.cell? ⟨B, 4, none⟩ = some (.int .i64 a.wt)

theorem CellsA.below {w w' : World} {B : Nat} {a : ArcD} (h : CellsA w B a) (hb : Below w.heap.size w w') : CellsA w' B a :=
  ⟨bel_keep hb (cell_lt h.1) h.1, bel_keep hb (cell_lt h.2.1) h.2.1, bel_keep hb (cell_lt h.2.2.1) h.2.2.1, bel_keep hb (cell_lt h.2.2.2.1) h.2.2.2.1, bel_keep hb (cell_lt h.2.2.2.2) h.2.2.2.2⟩

/-- a transducer in a block of its own -/
def CellsF (w : World) (B : Nat) (st sta : Int) (fin arcs : Value) : Prop :=
  w.cell? ⟨B, 0, none⟩ = some (.int .i64 st) ∧ w.cell? ⟨B, 1, none⟩ = some (.int .i64 sta) ∧ w.cell? ⟨B, 2, none⟩ = some fin ∧ w.cell? ⟨B, 3, none⟩ = some arcs

theorem CellsF.below {w w' : World} {B : Nat} {st sta : Int} {fin arcs : Value} (h : CellsF w B st sta fin arcs) (hb : Below w.heap.size w w') : CellsF w' B st sta fin arcs :=
  ⟨bel_keep hb (cell_lt h.1) h.1, bel_keep hb (cell_lt h.2.1) h.2.1, bel_keep hb (cell_lt h.2.2.1) h.2.2.1, bel_keep hb (cell_lt h.2.2.2) h.2.2.2⟩

/-- a slice of arcs: what it holds -/
structure ArcsAt (w : World) (b off n : Nat) (ars : List ArcD) : Prop where
  len : ars.length = n
  c0 : ∀ i, i < n → w.cell? ⟨b, off + i * 5, none⟩ = some (.int .i64 (ars.getD i a0).src)
  c1 : ∀ i, i < n → w.cell? ⟨b, off + i * 5 + 1, none⟩ = some (.int .i64 (ars.getD i a0).inp)
  c2 : ∀ i, i < n → w.cell? ⟨b, off + i * 5 + 2, none⟩ = some (.int .i64 (ars.getD i a0).out)
  c3 : ∀ i, i < n → w.cell? ⟨b, off + i * 5 + 3, none⟩ = some (.int .i64 (ars.getD i a0).dst)
  c4 : ∀ i, i < n → w.cell? ⟨b, off + i * 5 + 4, none⟩ = some (.int .i64 (ars.getD i a0).wt)

theorem ArcsAt.below {w w' : World} {b off n : Nat} {ars : List ArcD} (h : ArcsAt w b off n ars) (hb : Below w.heap.size w w') : ArcsAt w' b off n ars :=
  ⟨h.len, fun i hi => bel_keep hb (cell_lt (h.c0 i hi)) (h.c0 i hi), fun i hi => bel_keep hb (cell_lt (h.c1 i hi)) (h.c1 i hi), fun i hi => bel_keep hb (cell_lt (h.c2 i hi)) (h.c2 i hi),
    fun i hi => bel_keep hb (cell_lt (h.c3 i hi)) (h.c3 i hi), fun i hi => bel_keep hb (cell_lt (h.c4 i hi)) (h.c4 i hi)⟩

/-- the first place at which p holds, or -1 -/
def idxOf (p : Int → Bool) (xs : List Int) : Int := match xs.findIdx? p with | some i => i | none => -1

theorem idxOf_hit (p : Int → Bool) (xs : List Int) (k : Nat) (hk : k < xs.length) (hp : p (xs.getD k 0) = true) (h : ∀ j, j < k → p (xs.getD j 0) = false) : idxOf p xs = k := by
  have : xs.findIdx? p = some k := by
    rw [List.findIdx?_eq_some_iff_getElem]
    refine ⟨hk, by simpa [List.getD, hk] using hp, fun j hj => ?_⟩
    have := h j hj
    simpa [List.getD, show j < xs.length by omega] using this
  simp [idxOf, this]

theorem idxOf_miss (p : Int → Bool) (xs : List Int) (h : ∀ j, j < xs.length → p (xs.getD j 0) = false) : idxOf p xs = -1 := by
  have : xs.findIdx? p = none := by
    rw [List.findIdx?_eq_none_iff]
    intro x hx
    obtain ⟨j, hj, rfl⟩ := List.getElem_of_mem hx
    have := h j hj
    simpa [List.getD, hj] using this
  simp [idxOf, this]

theorem idxOf_any (p : Int → Bool) (xs : List Int) : decide ((0 : Int) ≤ idxOf p xs) = xs.any p := by
  unfold idxOf
  cases h : xs.findIdx? p with
  | none =>
    rw [List.findIdx?_eq_none_iff] at h
    have : xs.any p = false := by simpa using h
    simp [this]
  | some i =>
    obtain ⟨hi, hp, _⟩ := List.findIdx?_eq_some_iff_getElem.1 h
    have : xs.any p = true := List.any_eq_true.2 ⟨xs[i], List.getElem_mem _, hp⟩
    rw [this]; simp

/-- a value that is a slice of integers, and what it holds -/
def ISlice (w : World) (v : Value) (xs : List Int) : Prop :=
  (∃ a cap, v = .slice a 0 cap ∧ xs = []) ∨ ∃ b off n cap, v = .slice (some ⟨b, off, none⟩) n cap ∧ IntsAt w b off n xs ∧ n ≤ maxLen

theorem ISlice.below {w w' : World} {v : Value} {xs : List Int} (h : ISlice w v xs) (hb : Below w.heap.size w w') : ISlice w' v xs := by
  rcases h with h | ⟨b, off, n, cap, rfl, hx, hn⟩
  · exact Or.inl h
  · exact Or.inr ⟨b, off, n, cap, rfl, hx.below hb, hn⟩

/-- a value that is a slice of arcs, and what it holds -/
def ASlice (w : World) (v : Value) (ars : List ArcD) : Prop :=
  (∃ a cap, v = .slice a 0 cap ∧ ars = []) ∨ ∃ b off n cap, v = .slice (some ⟨b, off, none⟩) n cap ∧ ArcsAt w b off n ars ∧ n ≤ maxLen

theorem ASlice.below {w w' : World} {v : Value} {ars : List ArcD} (h : ASlice w v ars) (hb : Below w.heap.size w w') : ASlice w' v ars := by
  rcases h with h | ⟨b, off, n, cap, rfl, hx, hn⟩
  · exact Or.inl h
  · exact Or.inr ⟨b, off, n, cap, rfl, hx.below hb, hn⟩

theorem chk_index (b off n cap : Nat) (xs : List Int) (w : World) (hx : IntsAt w b off n xs) (hn : n ≤ maxLen) :
    Calls Try.prog 100 #[.slice (some ⟨b, off, none⟩) n cap, .func (.func 138) #[] #[]] w fun e w' => e = .returned (.int .i64 (idxOf finB xs)) ∧ w' = w := by
  unfold maxLen at hn
  go_enter Try.func100, Try.ntmps100
  go_wp2
  go_loop [8] (fun i => ∃ k : Nat, k ≤ n ∧ i = .int .i64 k ∧ (∀ j, j < k → finB (xs.getD j 0) = false)) (fun i => n - (intOf i).toNat)
  case atStart => exact ⟨0, Nat.zero_le _, rfl, fun j hj => absurd hj (Nat.not_lt_zero _)⟩
  case round =>
    obtain ⟨k, hk, rfl, hall⟩ := hrel
    have HA : Hid (∀ j, j < k → finB (xs.getD j 0) = false) := hall
    clear hall
    by_cases hlt : k < n
    · have hc := hx.cell k hlt
      cases hp : finB (xs.getD k 0)
      · have hp' : finB (xs[k]?.getD 0) = false := by simpa using hp
        go_wp2_with (go_at_call 138; refine (check1_any _ _).mono ?_; rintro e w' ⟨rfl, rfl⟩)
        go_round
        case rel =>
          refine ⟨k + 1, by omega, by go_num, fun j hj => ?_⟩
          by_cases e : j = k
          · subst e; exact hp
          · exact HA.out j (by omega)
        case measure => simp [intOf]; omega
      · have hp' : finB (xs[k]?.getD 0) = true := by simpa using hp
        go_wp2_with (go_at_call 138; refine (check1_any _ _).mono ?_; rintro e w' ⟨rfl, rfl⟩)
        go_ret
        exact ⟨ret_int (idxOf_hit finB xs k (by rw [hx.len]; exact hlt) hp HA.out).symm, rfl⟩
    · go_wp2
      go_ret
      exact ⟨ret_int (idxOf_miss finB xs (fun j hj => HA.out j (by have := hx.len; omega))).symm, rfl⟩

theorem chk_index_nil (a : Option Addr) (cap : Nat) (w : World) :
    Calls Try.prog 100 #[.slice a 0 cap, .func (.func 138) #[] #[]] w fun e w' => e = .returned (.int .i64 (-1)) ∧ w' = w := by
  go_enter Try.func100, Try.ntmps100
  go_wp2
  go_loop [8] (fun i => i = .int .i64 0) (fun _ => 0)
  case atStart => rfl
  case round =>
    subst hrel
    go_wp2
    go_ret
    exact ⟨rfl, rfl⟩

theorem chk_contains (v : Value) (xs : List Int) (w : World) (hx : ISlice w v xs) :
    Calls Try.prog 56 #[v, .func (.func 138) #[] #[]] w fun e w' => e = .returned (.bool (xs.any finB)) ∧ w' = w := by
  rcases hx with ⟨a, cap, rfl, rfl⟩ | ⟨b, off, n, cap, rfl, hx, hn⟩
  · go_enter Try.func56, Try.ntmps56
    go_wp2_with (go_at_call 100; refine (chk_index_nil a cap _).mono ?_; rintro e w' ⟨rfl, rfl⟩)
    go_ret
    exact ⟨rfl, rfl⟩
  · have hd := idxOf_any finB xs
    go_enter Try.func56, Try.ntmps56
    go_wp2_with (go_at_call 100; refine (chk_index _ _ _ _ xs _ hx hn).mono ?_; rintro e w' ⟨rfl, rfl⟩)
    go_ret
    exact ⟨rfl, rfl⟩

end Go.Proofs.Yteehgcbjmdideaa
