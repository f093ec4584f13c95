/- 'meet' of package fst's 'reach': a state is met once, and lies open then. -/
import Derived.Test.YteehgcbjmdideaaGreatDoorQCheckF
import Derived.Test.YteehgcbjmdideaaGreatDoorQMA
import Derived.Maps.OwnRows
import Derived.Maps.OwnSet
import Derived.Maps.OwnOps
import Derived.Maps.GroupsBeside
import Derived.Maps.AppendAt
import Derived.WalkSmall
import Derived.Outline
import Derived.Lib.SmallJoins
import Derived.Deep.RegionHeld
namespace Go.Proofs.YteehgcbjmdideaaGreatDoor
open Go.RowKit Go.Maps
attribute [local go_sem ↓] Go.wp_at_zero Go.wp_at_succ

theorem keyI : Keyed Tryz.prog 3 := int_keyed Tryz.underlying3
theorem zeroU (w : World) : (zeroValue 102).run Tryz.prog w = .ok (.agg #[]) w := by kernel_rfl
theorem zeroI (w : World) : (zeroValue 3).run Tryz.prog w = .ok (.int .i64 0) w := by kernel_rfl
theorem zeroS (w : World) : (zeroValue 22).run Tryz.prog w = .ok (.slice none 0 0) w := by kernel_rfl
theorem infoInt : (Tryz.prog.info? 3).map (fun i => (i.zero, i.size, i.bytes)) = some (some (.int .i64 0), 1, 8) := by kernel_rfl

theorem wfN (x : Nat) (h : x ≤ 1000000) : (Lit.int .i64 (x : Int)).wf = true := WalkArith.wf_i64 (by omega)
theorem keyN (x : Nat) (h : x ≤ 1000000) : keyOf Tryz.prog 3 (.int .i64 (x : Int)) = some (.int .i64 (x : Int)) := keyOf_int_mk Tryz.underlying3 (wfN x h)

def natI (l : List Nat) : List Int := l.map (fun n : Nat => (n : Int))

/-- a set of numbers -/
def SetAt (w : World) (B n : Nat) (M : Nat → Bool) : Prop := ∃ D : DataW Unit, w.ownsMap Tryz.prog 3 unitElem B n D ∧ ∀ x : Nat, Maps.has D (.int .i64 (x : Int)) = M x

theorem bel_grown {w w' : World} (h : Below w.heap.size w w') : w.grownBy w' none := ⟨h.os, h.tape, h.output, h.size, fun k hk _ => h.block k hk⟩

theorem SetAt.below {w w' : World} {B n : Nat} {M : Nat → Bool} (h : SetAt w B n M) (hb : Below w.heap.size w w') : SetAt w' B n M := by
  obtain ⟨D, h1, h2⟩ := h
  exact ⟨D, h1.kept (bel_grown hb) (by simp), h2⟩

/-- what is met, and what lies open: block B the set, B + 1 and B + 2 the variables -/
structure MS (w : World) (B n : Nat) (M : Nat → Bool) (v : Value) (zs : List Nat) : Prop where
  met : w.cell? ⟨B + 1, 0, none⟩ = some (.map (some B))
  opn : w.cell? ⟨B + 2, 0, none⟩ = some v
  row : w.ownsInts (B + 3) 3 .i64 v (natI zs)
  frz : w.frozen? ⟨B + 2, 0, none⟩ = false
  set : SetAt w B n M
  size : B + 3 ≤ w.heap.size

theorem MS.below {w w' : World} {B n : Nat} {M : Nat → Bool} {v : Value} {zs : List Nat} (h : MS w B n M v zs) (hb : Below w.heap.size w w') : MS w' B n M v zs :=
  ⟨bel_c hb h.met, bel_c hb h.opn, h.row.kept (bel_grown hb) (by cases h1 : v.ownBlock <;> simp), (hb.frozen (p := ⟨B + 2, 0, none⟩) (by have := h.size; show B + 2 < _; omega)).trans h.frz, h.set.below hb, Nat.le_trans h.size hb.size⟩

theorem SetAt.mono {w : World} {B n n' : Nat} {M : Nat → Bool} (h : SetAt w B n M) (hn : n ≤ n') : SetAt w B n' M := by
  obtain ⟨D, h1, h2⟩ := h
  exact ⟨D, h1.mono hn, h2⟩

def meetM (M : Nat → Bool) (x : Nat) : Nat → Bool := if M x then M else fun y => M y || decide (y = x)
def meetN (M : Nat → Bool) (x n : Nat) : Nat := if M x then n else n + 1
def meetZ (M : Nat → Bool) (x : Nat) (zs : List Nat) : List Nat := if M x then zs else zs ++ [x]

theorem natI_snoc (zs : List Nat) (x : Nat) : natI (zs ++ [x]) = natI zs ++ [(x : Int)] := by simp [natI]
theorem natI_len (zs : List Nat) : (natI zs).length = zs.length := by simp [natI]

theorem isKeyI (x : Int) : WideAt.IsKeyLit (.int .i64 x) := by trivial

theorem grown_cell {w w' : World} {r : Nat} (h : w.grownBy w' (some r)) {b o : Nat} {u : Value} (hc : w.cell? ⟨b, o, none⟩ = some u) (hb : b ≠ r) : w'.cell? ⟨b, o, none⟩ = some u := h.cell hc (by simpa using hb)

set_option maxHeartbeats 1000000 in
set_option maxRecDepth 100000 in
theorem meet_old (B n : Nat) (M : Nat → Bool) (v : Value) (zs : List Nat) (x : Nat) (w : World) (h : MS w B n M v zs) (hx : x ≤ 1000) (hM : M x = true) :
    Calls Tryz.prog 59 #[.int .i64 (x : Int), .pointer (some ⟨B + 1, 0, none⟩), .pointer (some ⟨B + 2, 0, none⟩)] w fun e w' => e = .returned (.tuple #[]) ∧ Below w.heap.size w w' := by
  obtain ⟨D, hD, hh⟩ := h.set
  have hm := h.met
  have hxm := hh x
  rw [hM] at hxm
  have hkey := keyN x (by omega)
  go_enter Tryz.func59, Tryz.ntmps59
  go_wp2_with (first | (at_lookup; refine wpList_lookup_own_unit _ rfl _ _ 99 rfl 3 102 keyI Tryz.underlying99 (zeroU _) B n D rfl hD _ _ rfl hkey ?_; rw [hxm]))
  go_end0
  exact ⟨rfl, bel_up (bel_self _) _⟩

theorem has_put (D : DataW Unit) (hD : IsMap D) (x : Nat) (d : DataW Unit) (y : Nat) : Maps.has (D.put (.int .i64 (x : Int)) d) (.int .i64 (y : Int)) = (Maps.has D (.int .i64 (y : Int)) || decide (y = x)) := by
  by_cases e : y = x
  · subst e; rw [has_put_same hD (isKeyI _)]; simp
  · rw [has_put_other (by intro h; apply e; have := (Lit.int.inj h).2; omega)]; simp [e]

theorem grown_frozen {w w' : World} {r : Option Nat} (h : w.grownBy w' r) {b o : Nat} (hb : b < w.heap.size) (hne : some b ≠ r) : w'.frozen? ⟨b, o, none⟩ = w.frozen? ⟨b, o, none⟩ :=
  World.frozen?_of_block (w := w) (h.block b hb hne)
theorem grown_cell' {w w' : World} {r : Option Nat} (h : w.grownBy w' r) {b o : Nat} {u : Value} (hc : w.cell? ⟨b, o, none⟩ = some u) (hb : some b ≠ r) : w'.cell? ⟨b, o, none⟩ = some u := h.cell hc hb
theorem old_frozen {w : World} {o : Obj} {b k : Nat} (hb : b < w.heap.size) : (w.alloc o).frozen? ⟨b, k, none⟩ = w.frozen? ⟨b, k, none⟩ := (bel_up (bel_self w) o).frozen (p := ⟨b, k, none⟩) hb

theorem row_ne {w : World} {base e : Nat} {v : Value} {zs : List Int} {k : Nat} (h : w.ownsInts base e .i64 v zs) (hk : k < base) : some k ≠ v.ownBlock := fun e1 => by
  have := (h.1.lt k e1.symm).1
  omega
theorem row_ne' {w : World} {base e : Nat} {v : Value} {zs : List Int} {k : Nat} (h : w.ownsInts base e .i64 v zs) (hk : k < base) : v.ownBlock = none ∨ v.ownBlock ≠ some k := Or.inr fun e1 => row_ne h hk e1.symm

/-- behind the store into the set -/
structure M1 (w w1 : World) (B n : Nat) (D : DataW Unit) (v : Value) (zs : List Nat) : Prop where
  met : w1.cell? ⟨B + 1, 0, none⟩ = some (.map (some B))
  opn : w1.cell? ⟨B + 2, 0, none⟩ = some v
  row : w1.ownsInts (B + 3) 3 .i64 v (natI zs)
  frz : w1.frozen? ⟨B + 2, 0, none⟩ = false
  own : w1.ownsMap Tryz.prog 3 unitElem B n D
  size : B + 3 ≤ w1.heap.size
  bel : Below B w w1

theorem M1.stored {w w1 : World} {B n n' : Nat} {D : DataW Unit} {M : Nat → Bool} {v : Value} {zs : List Nat} (h : MS w B n M v zs) (o : Obj) (hD1 : w1.ownsMap Tryz.prog 3 unitElem B n' D) (hg : (w.alloc o).grownBy w1 (some B)) : M1 w w1 B n' D v zs := by
  have hs := h.size
  have hs1 : B + 3 ≤ (w.alloc o).heap.size := by simp; omega
  exact ⟨grown_cell hg (old_cell h.met) (by omega), grown_cell hg (old_cell h.opn) (by omega), (h.row.alloc o).kept hg (row_ne' h.row (by omega)), by
    rw [grown_frozen hg (by omega) (by simp), old_frozen (by omega)]; exact h.frz, hD1, Nat.le_trans hs1 hg.size, ((bel_up (bel_self w) o).mono (by omega)).grown hg (by omega) (fun k hk => by cases hk; omega)⟩

theorem cell_set {w : World} {a : Addr} {u : Value} (h : w.cell? a = some u) (v : Value) : (w.setCell a v).cell? a = some v := by
  exact World.cell?_setCell_same _ _ _ h

theorem M1.appended {w w1 w2 : World} {B n : Nat} {D : DataW Unit} {v v' : Value} {zs : List Nat} {x : Nat} (h : M1 w w1 B n D v zs) (o : Obj) (hx : x ≤ 1000) (hg : (w1.alloc o).grownBy w2 v.ownBlock) (hown : w2.ownsRow (B + 3) 3 1 v' ((natI zs).length + 1) ((natI zs).map (Value.int .i64) ++ [.int .i64 (x : Int)])) :
    w2.cell? ⟨B + 2, 0, none⟩ = some v ∧ w2.frozen? ⟨B + 2, 0, none⟩ = false ∧ ∀ M, (∀ y : Nat, Maps.has D (.int .i64 (y : Int)) = M y) → Below B w (w2.setCell ⟨B + 2, 0, none⟩ v') ∧ MS (w2.setCell ⟨B + 2, 0, none⟩ v') B n M v' (zs ++ [x]) := by
  have hs := h.size
  have hs1 : B + 3 ≤ (w1.alloc o).heap.size := by simp; omega
  have c1 : w2.cell? ⟨B + 2, 0, none⟩ = some v := grown_cell' hg (old_cell h.opn) (row_ne h.row (by omega))
  have f1 : w2.frozen? ⟨B + 2, 0, none⟩ = false := by rw [grown_frozen hg (by omega) (row_ne h.row (by omega)), old_frozen (by omega)]; exact h.frz
  refine ⟨c1, f1, fun M hM => ⟨?_, ?_⟩⟩
  · exact ((h.bel.alloc (by omega) o).grown hg (by omega) (fun k hk => by have := (h.row.1.lt k hk).1; omega)).setCell (by show B ≤ B + 2; omega) _
  · have hoi : w2.ownsInts (B + 3) 3 .i64 v' (natI zs ++ [(x : Int)]) := h.row.appended hown (wfN x (by omega))
    rw [← natI_snoc] at hoi
    refine ⟨?_, ?_, ⟨ownsRow_setCell_below hoi.1 (by show B + 2 < B + 3; omega) _, hoi.2⟩, ?_, ⟨D, ?_, hM⟩, ?_⟩
    · rw [World.cell?_setCell_far _ _ _ _ (by show B + 2 ≠ B + 1; omega)]
      exact grown_cell' hg (old_cell (o := o) h.met) (row_ne h.row (by omega))
    · exact cell_set c1 v'
    · rw [World.frozen?_setCell]; exact f1
    · exact (((h.own.alloc o).kept hg (row_ne h.row (by omega)))).setCell (by show B ≠ B + 2; omega) _
    · have := hg.size
      simp [World.setCell] at this ⊢
      omega

set_option maxHeartbeats 1000000 in
set_option maxRecDepth 100000 in
theorem meet_new (B n : Nat) (M : Nat → Bool) (v : Value) (zs : List Nat) (x : Nat) (w : World) (h : MS w B n M v zs) (hx : x ≤ 1000) (hM : M x = false) (hn : n ≤ 100000) (hzl : zs.length ≤ 100000) :
    Calls Tryz.prog 59 #[.int .i64 (x : Int), .pointer (some ⟨B + 1, 0, none⟩), .pointer (some ⟨B + 2, 0, none⟩)] w fun e w' => e = .returned (.tuple #[]) ∧ Below B w w' ∧ ∃ v', MS w' B (n + 1) (fun y => M y || decide (y = x)) v' (zs ++ [x]) := by
  obtain ⟨D, hD, hh⟩ := h.set
  have hm := h.met
  have hxm := hh x
  rw [hM] at hxm
  have hkey := keyN x (by omega)
  have HS : Hid (B + 3 ≤ w.heap.size) := h.size
  have HL : Hid ((natI zs).length ≤ 100000) := (by rw [natI_len]; exact hzl : (natI zs).length ≤ 100000)
  have HH : Hid (∀ y : Nat, Maps.has (D.put (.int .i64 (x : Int)) (.agg [])) (.int .i64 (y : Int)) = (M y || decide (y = x))) := fun y => by rw [has_put D hD.isMap, hh y]
  have hmx : (w.alloc (.cells #[] 102)).cell? ⟨B + 1, 0, none⟩ = some (.map (some B)) := old_cell hm
  obtain ⟨i0, hi, hz0, hz1, hz2⟩ := info_parts infoInt
  clear hh
  go_enter Tryz.func59, Tryz.ntmps59
  go_wp2_with (first | (at_lookup; refine wpList_lookup_own_unit _ rfl _ _ 99 rfl 3 102 keyI Tryz.underlying99 (zeroU _) B n D rfl hD _ _ rfl hkey ?_; rw [hxm]) | (at_mapUpdate; refine wpList_mapUpdate_own _ rfl _ _ _ 99 rfl 3 102 keyI Tryz.underlying99 unitElem B n D rfl (hD.alloc _) (by unfold maxLen; omega) _ _ _ rfl rfl hkey (.agg []) [] unitElem_mk ?_; intro w1 hD1 hg1; have h1 := M1.stored h _ hD1 hg1; clear hg1 hD1; have ho1 := h1.opn) | (at_builtin; refine wpList_append_own_at _ rfl _ _ 22 rfl (B + 3) 3 i0 (.int .i64 0) 1 8 Tryz.underlying22 hi hz0 hz1 hz2 rfl (by decide) _ _ _ rfl (h1.row.1.alloc _) ⟨w1.heap.size, 0, none⟩ 1 1 [.int .i64 (x : Int)] rfl rfl (cell_one_new _ _ _) (ints_oneCell .i64 [(x : Int)]) (by have := HL.out; unfold maxLen; omega) (by have := HL.out; omega) (by have := h1.size; simp; omega) ?_; intro v' w2 hown2 hg2 _ _; obtain ⟨g, cap, hv⟩ := Go.Joins.ownsRow_form hown2 (Nat.succ_pos _); rw [hv] at hown2 ⊢; obtain ⟨c2, f2, hfin⟩ := h1.appended _ hx hg2 hown2; clear hg2 hown2))
  go_end0
  exact ⟨rfl, (hfin _ HH.out).1, _, (hfin _ HH.out).2⟩

theorem meet_any (B n : Nat) (M : Nat → Bool) (v : Value) (zs : List Nat) (x : Nat) (w : World) (h : MS w B n M v zs) (hx : x ≤ 1000) (hn : n ≤ 100000) (hzl : zs.length ≤ 100000) :
    Calls Tryz.prog 59 #[.int .i64 (x : Int), .pointer (some ⟨B + 1, 0, none⟩), .pointer (some ⟨B + 2, 0, none⟩)] w fun e w' => e = .returned (.tuple #[]) ∧ Below B w w' ∧ ∃ v', MS w' B (meetN M x n) (meetM M x) v' (meetZ M x zs) := by
  cases hM : M x
  · refine (meet_new B n M v zs x w h hx hM hn hzl).mono fun e w' ⟨h1, h2, h3⟩ => ⟨h1, h2, ?_⟩
    simpa [meetM, meetZ, meetN, hM] using h3
  · refine (meet_old B n M v zs x w h hx hM).mono fun e w' ⟨h1, h2⟩ => ⟨h1, h2.mono (by have := h.size; omega), v, ?_⟩
    have h3 := h.below h2
    simpa [meetM, meetZ, meetN, hM] using h3

end Go.Proofs.YteehgcbjmdideaaGreatDoor

/- The four small functions that 'stay' of package fst hands to 'reach'. -/
namespace Go.Proofs.YteehgcbjmdideaaGreatDoor
open Go.RowKit Go.Maps Go.ChangeShapes
attribute [local go_sem ↓] Go.wp_at_zero Go.wp_at_succ

theorem first_ahead (fb : Nat) (st sta : Int) (fin arcs : Value) (x : Nat) (w : World) (h : CellsF w fb st sta fin arcs) :
    Calls Tryz.prog 42 #[.int .i64 (x : Int), .pointer (some ⟨fb, 0, none⟩)] w fun e w' => e = .returned (.bool (decide ((x : Int) = sta))) ∧ w = w' := by
  obtain ⟨f0, f1, f2, f3⟩ := h
  go_enter Tryz.func42, Tryz.ntmps42
  go_wp2
  go_ret
  exact ⟨ret_bool (by rw [Bool.eq_iff_iff]; simp), rfl⟩

theorem first_back (fb b off n cap : Nat) (st sta : Int) (xs : List Int) (arcs : Value) (x : Nat) (w : World) (h : CellsF w fb st sta (.slice (some ⟨b, off, none⟩) n cap) arcs) (hx : IntsAt w b off n xs) (hlt : x < n) :
    Calls Tryz.prog 44 #[.int .i64 (x : Int), .pointer (some ⟨fb, 0, none⟩)] w fun e w' => e = .returned (.bool (!decide (xs.getD x 0 = -1))) ∧ w = w' := by
  obtain ⟨f0, f1, f2, f3⟩ := h
  have hc := hx.cell x hlt
  have hi : (x : Int) < n := by omega
  go_enter Tryz.func44, Tryz.ntmps44
  go_wp2
  go_ret
  exact ⟨ret_bool (by rw [Bool.eq_iff_iff]; simp), rfl⟩

theorem along_ahead (a : ArcD) (w : World) :
    Calls Tryz.prog 43 #[.agg #[.int .i64 a.src, .int .i64 a.inp, .int .i64 a.out, .int .i64 a.dst, .int .i64 a.wt]] w fun e w' => e = .returned (.tuple #[.int .i64 a.src, .int .i64 a.dst]) ∧ Below w.heap.size w w' := by
  go_enter Tryz.func43, Tryz.ntmps43
  go_wp2
  go_quiet (fail)
  go_wp2
  go_ret2
  exact ⟨rfl, bel_drewN (bel_up (bel_self _) _) _⟩

theorem along_back (a : ArcD) (w : World) :
    Calls Tryz.prog 45 #[.agg #[.int .i64 a.src, .int .i64 a.inp, .int .i64 a.out, .int .i64 a.dst, .int .i64 a.wt]] w fun e w' => e = .returned (.tuple #[.int .i64 a.dst, .int .i64 a.src]) ∧ Below w.heap.size w w' := by
  go_enter Tryz.func45, Tryz.ntmps45
  go_wp2
  go_quiet (fail)
  go_wp2
  go_ret2
  exact ⟨rfl, bel_drewN (bel_up (bel_self _) _) _⟩

theorem along_aheadN (a : ArcD) (s t : Nat) (w : World) (hs : a.src = s) (ht : a.dst = t) :
    Calls Tryz.prog 43 #[.agg #[.int .i64 a.src, .int .i64 a.inp, .int .i64 a.out, .int .i64 a.dst, .int .i64 a.wt]] w fun e w' => e = .returned (.tuple #[.int .i64 (s : Int), .int .i64 (t : Int)]) ∧ Below w.heap.size w w' :=
  (along_ahead a w).mono fun _ _ ⟨h1, h2⟩ => ⟨by rw [h1, hs, ht], h2⟩
theorem along_backN (a : ArcD) (s t : Nat) (w : World) (hs : a.dst = s) (ht : a.src = t) :
    Calls Tryz.prog 45 #[.agg #[.int .i64 a.src, .int .i64 a.inp, .int .i64 a.out, .int .i64 a.dst, .int .i64 a.wt]] w fun e w' => e = .returned (.tuple #[.int .i64 (s : Int), .int .i64 (t : Int)]) ∧ Below w.heap.size w w' :=
  (along_back a w).mono fun _ _ ⟨h1, h2⟩ => ⟨by rw [h1, hs, ht], h2⟩

/-! the lists of what comes next -/

def itemsD : DataW Unit → List (DataW Unit)
  | .slice es _ => es
  | _ => []
def NextsAt (D : DataW Unit) (ps : List (Nat × Nat)) : Prop := ∀ x : Nat, itemsD (D.atKey (.int .i64 (x : Int)) .nil) = lits .i64 (natI (nexts ps x))

theorem items_row {w : World} {base e : Nat} {v : Value} {zs : List Int} (h : w.ownsInts base e .i64 v zs) : itemsD (rowDatum (H := Unit) .i64 v zs) = lits .i64 zs := by
  rcases h.datum (H := Unit) with ⟨h1, h2⟩ | h1
  · rw [h1, h2]; rfl
  · rw [h1]; rfl

theorem lits_inj {a b : List Int} (h : lits (H := Unit) .i64 a = lits .i64 b) : a = b :=
  (List.map_inj_right (fun x y hxy => by cases hxy; rfl)).1 h

theorem NextsAt.at {D : DataW Unit} {ps : List (Nat × Nat)} {w : World} {base e : Nat} {v : Value} {zs : List Int} {x : Nat} (hN : NextsAt D ps) (hat : D.atKey (.int .i64 (x : Int)) .nil = rowDatum .i64 v zs) (hoi : w.ownsInts base e .i64 v zs) : zs = natI (nexts ps x) := by
  have := hN x
  rw [hat, items_row hoi] at this
  exact lits_inj this

theorem nexts_snoc (ps : List (Nat × Nat)) (s t x : Nat) : nexts (ps ++ [(s, t)]) x = nexts ps x ++ if s = x then [t] else [] := by
  unfold nexts
  rw [List.filter_append, List.map_append]
  congr 1
  by_cases e : s = x
  · simp [e]
  · simp [e]

theorem NextsAt.put {D : DataW Unit} {ps : List (Nat × Nat)} {w : World} {base e : Nat} {v : Value} {s t : Nat} (hN : NextsAt D ps) (hD : IsMap D) (hoi : w.ownsInts base e .i64 v (natI (nexts ps s) ++ [(t : Int)])) :
    NextsAt (D.put (.int .i64 (s : Int)) (rowDatum .i64 v (natI (nexts ps s) ++ [(t : Int)]))) (ps ++ [(s, t)]) := by
  intro x
  rw [nexts_snoc]
  by_cases e : s = x
  · subst e
    rw [atKey_put_same hD (isKeyI _), items_row hoi, if_pos rfl, ← natI_snoc]
  · rw [atKey_put_other (by intro h; apply e; have := (Lit.int.inj h).2; omega), hN x, if_neg e, List.append_nil]

theorem nextsAt_made : NextsAt (.map []) [] := fun _ => rfl

theorem groups_below {w w' : World} {base b n : Nat} {D : DataW Unit} (h : w.ownsGroups Tryz.prog 3 base 3 .i64 b n D) (hb : Below w.heap.size w w') : w'.ownsGroups Tryz.prog 3 base 3 .i64 b n D :=
  h.kept (bel_grown hb) (by simp) (fun _ _ _ x _ => by cases x.val.ownBlock <;> simp)
theorem groups_isMap {w : World} {base b n : Nat} {D : DataW Unit} (h : w.ownsGroups Tryz.prog 3 base 3 .i64 b n D) : IsMap D := by
  obtain ⟨es, c, _, _, _, hD, _⟩ := h
  exact ⟨_, hD⟩

/-! the search -/

theorem newNo_put (M : Nat → Bool) (x : Nat) (hM : M x = false) (k : Nat) : newNo (fun y => M y || decide (y = x)) k = newNo M k + if x < k then 1 else 0 := by
  induction k with
  | zero => simp [newNo]
  | succ k ih =>
    rw [newNo_succ, newNo_succ, ih]
    by_cases e : k = x
    · subst e; simp [hM]
    · have e2 : (M k || decide (k = x)) = M k := by simp [e]
      rw [e2]
      by_cases h : x < k
      · rw [if_pos h, if_pos (show x < k + 1 by omega)]; omega
      · rw [if_neg h, if_neg (show ¬ x < k + 1 by omega)]; omega

theorem meetM_self (M : Nat → Bool) (x : Nat) : meetM M x x = true := by
  unfold meetM
  cases h : M x <;> simp [h]
theorem meetM_mono {M : Nat → Bool} {x y : Nat} (h : M y = true) : meetM M x y = true := by
  unfold meetM
  cases hx : M x <;> simp [h]
theorem meetM_inv {M : Nat → Bool} {x y : Nat} (h : meetM M x y = true) : M y = true ∨ y = x := by
  unfold meetM at h
  cases hx : M x
  · rw [hx] at h; simpa using h
  · rw [hx] at h; exact Or.inl (by simpa using h)
theorem meetZ_mono {M : Nat → Bool} {x y : Nat} {zs : List Nat} (h : y ∈ zs) : y ∈ meetZ M x zs := by
  unfold meetZ
  cases hx : M x <;> simp [h]
theorem meetZ_inv {M : Nat → Bool} {x y : Nat} {zs : List Nat} (h : y ∈ meetZ M x zs) : y ∈ zs ∨ y = x := by
  unfold meetZ at h
  cases hx : M x
  · rw [hx] at h; simpa using h
  · rw [hx] at h; exact Or.inl (by simpa using h)
theorem meetZ_new {M : Nat → Bool} {x : Nat} {zs : List Nat} (h : M x = false) : x ∈ meetZ M x zs := by
  unfold meetZ; simp [h]

/-- how the search stands: those below k that are first are met; x is under way -/
structure Srch (N : Nat) (ps : List (Nat × Nat)) (S : Nat → Bool) (k : Nat) (on : Nat → Prop) (n : Nat) (M : Nat → Bool) (zs : List Nat) : Prop where
  num : n = newNo M N
  zlen : zs.length ≤ n
  lt : ∀ x, M x = true → x < N
  sound : ∀ x, M x = true → ReachP N ps S x
  opn : ∀ x ∈ zs, M x = true
  all : ∀ x, M x = true → x ∈ zs ∨ on x ∨ ∀ t, (x, t) ∈ ps → M t = true
  first : ∀ x, x < k → x < N → S x = true → M x = true

theorem newNo_none (N : Nat) : newNo (fun _ => false) N = 0 := by
  induction N with
  | zero => rfl
  | succ N ih => rw [newNo_succ, ih]; rfl

theorem Srch.start (N : Nat) (ps : List (Nat × Nat)) (S : Nat → Bool) : Srch N ps S 0 (fun _ => False) 0 (fun _ => false) [] :=
  ⟨(newNo_none N).symm, by simp, fun _ h => by simp at h, fun _ h => by simp at h, fun _ h => by simp at h, fun _ h => by simp at h, fun _ h => by omega⟩

theorem Srch.le {N : Nat} {ps : List (Nat × Nat)} {S : Nat → Bool} {k : Nat} {on : Nat → Prop} {n : Nat} {M : Nat → Bool} {zs : List Nat} (h : Srch N ps S k on n M zs) : n ≤ N := by rw [h.num]; exact newNo_le _ _

theorem Srch.meet {N : Nat} {ps : List (Nat × Nat)} {S : Nat → Bool} {k : Nat} {on : Nat → Prop} {n : Nat} {M : Nat → Bool} {zs : List Nat} (h : Srch N ps S k on n M zs) (x : Nat) (hx : x < N) (hr : ReachP N ps S x) :
    Srch N ps S k on (meetN M x n) (meetM M x) (meetZ M x zs) ∧ 2 * (N - meetN M x n) + (meetZ M x zs).length ≤ 2 * (N - n) + zs.length := by
  have hle := h.le
  refine ⟨⟨?_, ?_, ?_, ?_, ?_, ?_, ?_⟩, ?_⟩
  · unfold meetN meetM
    cases hM : M x
    · simp only [Bool.false_eq_true, if_false]
      rw [newNo_put M x hM, if_pos hx, h.num]
    · simpa using h.num
  · have := h.zlen
    unfold meetN meetZ
    cases hM : M x <;> simp <;> omega
  · intro y hy
    rcases meetM_inv hy with h1 | h1
    · exact h.lt y h1
    · omega
  · intro y hy
    rcases meetM_inv hy with h1 | h1
    · exact h.sound y h1
    · subst h1; exact hr
  · intro y hy
    rcases meetZ_inv hy with h1 | h1
    · exact meetM_mono (h.opn y h1)
    · subst h1; exact meetM_self _ _
  · intro y hy
    cases hMy : M y
    · rcases meetM_inv hy with h1 | h1
      · rw [hMy] at h1; cases h1
      · subst h1; exact Or.inl (meetZ_new hMy)
    · rcases h.all y hMy with h1 | h1 | h1
      · exact Or.inl (meetZ_mono h1)
      · exact Or.inr (Or.inl h1)
      · exact Or.inr (Or.inr fun t ht => meetM_mono (h1 t ht))
  · intro y hy hyN hS
    exact meetM_mono (h.first y hy hyN hS)
  · have hlt : M x = false → n + 1 ≤ N := fun hM => by
      have h1 := newNo_put M x hM N
      rw [if_pos hx] at h1
      have := newNo_le (fun y => M y || decide (y = x)) N
      rw [h.num]; omega
    unfold meetN meetZ
    cases hM : M x
    · have := hlt hM; simp; omega
    · simp

theorem Srch.hit {N : Nat} {ps : List (Nat × Nat)} {S : Nat → Bool} {k : Nat} {n : Nat} {M : Nat → Bool} {zs : List Nat} (h : Srch N ps S k (fun _ => False) n M zs) (hk : k < N) (hS : S k = true) :
    Srch N ps S (k + 1) (fun _ => False) (meetN M k n) (meetM M k) (meetZ M k zs) := by
  have h1 := (h.meet k hk (Reach.first ⟨hk, hS⟩)).1
  refine ⟨h1.num, h1.zlen, h1.lt, h1.sound, h1.opn, h1.all, fun x hx hxN hSx => ?_⟩
  by_cases e : x = k
  · subst e; exact meetM_self _ _
  · exact h1.first x (by omega) hxN hSx

theorem Srch.miss {N : Nat} {ps : List (Nat × Nat)} {S : Nat → Bool} {k : Nat} {n : Nat} {M : Nat → Bool} {zs : List Nat} (h : Srch N ps S k (fun _ => False) n M zs) (hS : S k = false) :
    Srch N ps S (k + 1) (fun _ => False) n M zs :=
  ⟨h.num, h.zlen, h.lt, h.sound, h.opn, h.all, fun x hx hxN hSx => by
    by_cases e : x = k
    · subst e; rw [hS] at hSx; cases hSx
    · exact h.first x (by omega) hxN hSx⟩

theorem Srch.pop {N : Nat} {ps : List (Nat × Nat)} {S : Nat → Bool} {k : Nat} {n : Nat} {M : Nat → Bool} {zs : List Nat} {x : Nat} (h : Srch N ps S k (fun _ => False) n M (zs ++ [x])) :
    Srch N ps S k (fun y => y = x) n M zs ∧ M x = true :=
  ⟨⟨h.num, by have := h.zlen; simp at this; omega, h.lt, h.sound, fun y hy => h.opn y (by simp [hy]), fun y hy => by
    rcases h.all y hy with h1 | h1 | h1
    · rcases List.mem_append.1 h1 with h1 | h1
      · exact Or.inl h1
      · exact Or.inr (Or.inl (by simpa using h1))
    · exact h1.elim
    · exact Or.inr (Or.inr h1), h.first⟩, h.opn x (by simp)⟩

theorem Srch.did {N : Nat} {ps : List (Nat × Nat)} {S : Nat → Bool} {k : Nat} {n : Nat} {M : Nat → Bool} {zs : List Nat} {x : Nat} (h : Srch N ps S k (fun y => y = x) n M zs) (hd : ∀ t ∈ nexts ps x, M t = true) :
    Srch N ps S k (fun _ => False) n M zs :=
  ⟨h.num, h.zlen, h.lt, h.sound, h.opn, fun y hy => by
    rcases h.all y hy with h1 | h1 | h1
    · exact Or.inl h1
    · exact Or.inr (Or.inr fun t ht => hd t ((mem_nexts ps x t).2 (h1 ▸ ht)))
    · exact Or.inr (Or.inr h1), h.first⟩

theorem Srch.done {N : Nat} {ps : List (Nat × Nat)} {S : Nat → Bool} {n : Nat} {M : Nat → Bool} (h : Srch N ps S N (fun _ => False) n M []) (x : Nat) : M x = true ↔ ReachP N ps S x :=
  search_done N ps S M h.sound (fun y hy hS => h.first y hy hy hS) (fun y t hy ht => by
    rcases h.all y hy with h1 | h1 | h1
    · simp at h1
    · exact h1.elim
    · exact h1 t ht) x

theorem least_of {p : Nat → Prop} (h : ∃ m, p m) : ∃ m, p m ∧ ∀ k, p k → m ≤ k := by
  obtain ⟨m, hm⟩ := h
  induction m using Nat.strongRecOn with
  | _ m ih =>
    by_cases hx : ∃ k, k < m ∧ p k
    · obtain ⟨k, hk, hp⟩ := hx
      exact ih k hk hp
    · exact ⟨m, hm, fun k hk => by
        by_cases hl : m ≤ k
        · exact hl
        · exact absurd ⟨k, by omega, hk⟩ hx⟩

theorem eps_min {p : Nat → Prop} (h : ∃ m, p m) : p (Classical.epsilon fun m => p m ∧ ∀ k, p k → m ≤ k) ∧ ∀ k, p k → (Classical.epsilon fun m => p m ∧ ∀ k, p k → m ≤ k) ≤ k := Classical.epsilon_spec (least_of h)

/-! the worlds of the search -/

theorem CellsF.keepB {w w' : World} {B H : Nat} {st sta : Int} {fin arcs : Value} (h : CellsF w H st sta fin arcs) (hb : Below B w w') (hH : H < B) : CellsF w' H st sta fin arcs :=
  ⟨(hb.cell (p := ⟨H, 0, none⟩) hH).trans h.1, (hb.cell (p := ⟨H, 1, none⟩) hH).trans h.2.1, (hb.cell (p := ⟨H, 2, none⟩) hH).trans h.2.2.1, (hb.cell (p := ⟨H, 3, none⟩) hH).trans h.2.2.2⟩

theorem new_frozen (w : World) (cs : Array Value) (t N k : Nat) (hN : w.heap.size = N) : (w.alloc (.cells cs t)).frozen? ⟨N, k, none⟩ = false := by
  subst hN
  have h : (w.alloc (.cells cs t)).heap[w.heap.size]? = some (.cells cs t) := heap_alloc_new w _
  unfold World.frozen?
  simp only [h]
  simp
theorem addr_add (g j : Nat) : (⟨g, 0, none⟩ : Addr).add j = ⟨g, j, none⟩ := by
  by_cases h : j = 0
  · subst h; rfl
  · simp [Addr.add, h]

theorem MS.start (w : World) : MS (((w.alloc (.map #[] 0)).alloc (.cells #[.map (some w.heap.size)] 99)).alloc (.cells #[.slice none 0 0] 22)) w.heap.size 0 (fun _ => false) (.slice none 0 0) [] := by
  refine ⟨?_, ?_, World.ownsInts_nil _ _ _ _, ?_, ⟨.map [], ?_, fun _ => rfl⟩, by simp⟩
  · exact old_cell (new_cell _ _ _ _ 0 _ (by simp) rfl)
  · exact new_cell _ _ _ _ 0 _ (by simp) rfl
  · exact new_frozen _ _ _ _ 0 (by simp)
  · exact (((World.ownsMap_made _ _ _ _).alloc _).alloc _)

theorem first_A (f : FstD) (N fb : Nat) (fin arcs : Value) (x : Nat) (v : Bool) (w : World) (h : CellsF w fb (N : Int) f.start fin arcs) (hv : firstA f x = v) :
    Calls Tryz.prog 42 #[.int .i64 (x : Int), .pointer (some ⟨fb, 0, none⟩)] w fun e w' => e = .returned (.bool v) ∧ w = w' := by
  subst hv; exact first_ahead fb _ _ _ _ x w h

theorem first_B (f : FstD) (N fb : Nat) (fin arcs : Value) (x : Nat) (v : Bool) (w : World) (h : CellsF w fb (N : Int) f.start fin arcs) (hf : ISlice w fin f.final) (hl : f.final.length = N) (hx : x < N) (hv : firstB f x = v) :
    Calls Tryz.prog 44 #[.int .i64 (x : Int), .pointer (some ⟨fb, 0, none⟩)] w fun e w' => e = .returned (.bool v) ∧ w = w' := by
  subst hv
  obtain ⟨a, n, c, rfl, hn, hm⟩ := hf.lenOf
  obtain ⟨b, off, rfl, hi⟩ := hf.some (by omega)
  exact first_back fb b off n c _ _ f.final arcs x w h hi (by omega)

/-- the search under way, with what is left of it -/
def Open3 (N : Nat) (ps : List (Nat × Nat)) (S : Nat → Bool) (w0 wx : World) (u : Nat) : Prop :=
  ∃ m M v zs, MS wx w0.heap.size m M v zs ∧ Below w0.heap.size w0 wx ∧ Srch N ps S N (fun _ => False) m M zs ∧ u = 2 * (N - m) + zs.length
def Open4 (N : Nat) (ps : List (Nat × Nat)) (S : Nat → Bool) (w0 wx : World) (x j u : Nat) : Prop :=
  ∃ m M v zs, MS wx w0.heap.size m M v zs ∧ Below w0.heap.size w0 wx ∧ Srch N ps S N (fun y => y = x) m M zs ∧ (∀ t ∈ (nexts ps x).take j, M t = true) ∧ M x = true ∧ 2 * (N - m) + zs.length + 1 ≤ u

theorem next_row {w0 wl : World} {base : Nat} {v : Value} {l : List Nat} (hoi : wl.ownsInts base 3 .i64 v (natI l)) (hB : Below w0.heap.size w0 wl) (hsh : ∀ g, v.ownBlock = some g → ¬ w0.heap.size ≤ g) :
    ∃ a c, v = .slice a l.length c ∧ (0 < l.length → ∃ g, a = some ⟨g, 0, none⟩ ∧ ∀ wy, Below w0.heap.size w0 wy → ∀ (j t : Nat), l[j]? = some t → wy.cell? ⟨g, j, none⟩ = some (.int .i64 (t : Int))) := by
  have hl := natI_len l
  rcases Go.Joins.ownsRow_forms hoi.1 with ⟨h1, h2⟩ | ⟨g, c, h1⟩
  · rw [hl] at h2
    exact ⟨none, 0, by rw [h1, h2], fun h => by omega⟩
  · rw [hl] at h1
    refine ⟨some ⟨g, 0, none⟩, c, h1, fun _ => ⟨g, rfl, fun wy hy j t hj => ?_⟩⟩
    have hg : g < w0.heap.size := by
      have := hsh g (by rw [h1]; rfl)
      omega
    have hc := hoi.1.cells (g := g) (by rw [h1]; rfl) j (.int .i64 (t : Int)) (by simp [natI, hj])
    have hc' : wl.cell? ⟨g, j, none⟩ = some (.int .i64 (t : Int)) := by rw [addr_add] at hc; exact hc
    rw [hy.cell (p := ⟨g, j, none⟩) hg, ← hB.cell (p := ⟨g, j, none⟩) hg]
    exact hc'

theorem shuns_all {w0 wl : World} {base b n : Nat} {D : DataW Unit} (h : w0.ownsGroups Tryz.prog 3 base 3 .i64 b n D) (hb : b < w0.heap.size) (hB : Below w0.heap.size w0 wl) : wl.Shuns b (fun g => w0.heap.size ≤ g) :=
  (World.Shuns.reno (No := fun _ => False) (fun _ _ _ _ _ _ _ h => h) h (fun g hg => Or.inr hg)).kept (bel_grown hB) hb (by simp)

theorem row_cap {w : World} {base e g n cap : Nat} {xs : List Value} {m : Nat} (h : w.ownsRow base e 1 (.slice (some ⟨g, 0, none⟩) n cap) m xs) : n ≤ cap ∧ cap ≤ maxLen := by
  rcases h.2 with ⟨h0, _⟩ | ⟨g', cap', cur, hv, _, _, h1, h2, _⟩
  · cases h0
  · cases hv; exact ⟨h1, h2⟩

/-- a state is taken off the open ones -/
theorem MS.pop {w : World} {B n g cap : Nat} {M : Nat → Bool} {zs : List Nat} {x : Nat} (h : MS w B n M (.slice (some ⟨g, 0, none⟩) (zs.length + 1) cap) (zs ++ [x])) :
    w.cell? ⟨g, zs.length, none⟩ = some (.int .i64 (x : Int)) ∧ MS (w.setCell ⟨B + 1 + 1, 0, none⟩ (.slice (some ⟨g, 0, none⟩) zs.length cap)) B n M (.slice (some ⟨g, 0, none⟩) zs.length cap) zs := by
  have hl := natI_len zs
  have hr := h.row
  rw [natI_snoc] at hr
  constructor
  · have hc := hr.1.cells (g := g) rfl zs.length (.int .i64 (x : Int)) (by
      rw [List.map_append, List.getElem?_append_right (by simp [hl])]; simp [hl])
    rw [addr_add] at hc; exact hc
  · have h1 := hr.1
    rw [List.map_append, List.length_append, List.length_singleton, hl] at h1
    have h2 := ownsRow_pop (n := zs.length) (by simp [natI]) h1
    refine ⟨?_, ?_, ⟨ownsRow_setCell_below (by rw [hl]; exact h2) (by show B + 2 < B + 3; omega) _, fun z hz => hr.2 z (by simp [hz])⟩, ?_, ?_, ?_⟩
    · rw [World.cell?_setCell_far _ _ _ _ (by show B + 2 ≠ B + 1; omega)]; exact h.met
    · exact cell_set (a := ⟨B + 2, 0, none⟩) h.opn _
    · rw [World.frozen?_setCell]; exact h.frz
    · obtain ⟨D, hD, hh⟩ := h.set
      exact ⟨D, hD.setCell (by show B ≠ B + 2; omega) _, hh⟩
    · have := h.size
      simpa [World.setCell] using this

end Go.Proofs.YteehgcbjmdideaaGreatDoor
