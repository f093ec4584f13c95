/- What is trimmed: the states on a way from the start to an end, numbered anew. -/
import Derived.Test.YteehgcbjmdideaaQM02
import Derived.Test.YteehgcbjmdideaaQCheckF
import Derived.Maps.OwnRows
import Derived.Maps.OwnSet
import Derived.Maps.OwnOps
import Derived.Maps.GroupsBeside
import Derived.Maps.AppendAt
import Derived.WalkSmall
import Derived.Outline
import Derived.Lib.SmallJoins
import Derived.Deep.RegionHeld
namespace Go.Proofs.Yteehgcbjmdideaa.Sc

/-- what can be come to from S along E -/
def Reach (E : Nat → Nat → Prop) (S : Nat → Prop) (x : Nat) : Prop := ∀ P : Nat → Prop, (∀ s, S s → P s) → (∀ s t, P s → E s t → P t) → P x

theorem Reach.first {E : Nat → Nat → Prop} {S : Nat → Prop} {x : Nat} (h : S x) : Reach E S x := fun _ h0 _ => h0 x h
theorem Reach.on {E : Nat → Nat → Prop} {S : Nat → Prop} {x y : Nat} (h : Reach E S x) (e : E x y) : Reach E S y := fun P h0 h1 => h1 x y (h P h0 h1) e

/-- the arcs as pairs, one way and the other -/
def pairsA (f : FstD) : List (Nat × Nat) := f.arcs.map fun a => (a.src.toNat, a.dst.toNat)
def pairsB (f : FstD) : List (Nat × Nat) := f.arcs.map fun a => (a.dst.toNat, a.src.toNat)
def firstA (f : FstD) (s : Nat) : Bool := decide ((s : Int) = f.start)
def firstB (f : FstD) (s : Nat) : Bool := !decide (f.final.getD s 0 = -1)

def ReachP (n : Nat) (ps : List (Nat × Nat)) (S : Nat → Bool) (x : Nat) : Prop := Reach (fun s t => (s, t) ∈ ps) (fun s => s < n ∧ S s = true) x

def Stays (f : FstD) (x : Nat) : Prop := ReachP f.states.toNat (pairsA f) (firstA f) x ∧ ReachP f.states.toNat (pairsB f) (firstB f) x

theorem ReachP.lt {n : Nat} {ps : List (Nat × Nat)} {S : Nat → Bool} {x : Nat} (h : ReachP n ps S x) (hp : ∀ p ∈ ps, p.2 < n) : x < n :=
  h (fun y => y < n) (fun _ hs => hs.1) (fun s t _ he => hp (s, t) he)

/-- how many of those below k stay -/
def newNo (st : Nat → Bool) (k : Nat) : Nat := ((List.range k).filter st).length
theorem newNo_succ (st : Nat → Bool) (k : Nat) : newNo st (k + 1) = newNo st k + if st k then 1 else 0 := by
  unfold newNo
  rw [List.range_succ, List.filter_append]
  cases h : st k <;> simp [h]
theorem newNo_le (st : Nat → Bool) (k : Nat) : newNo st k ≤ k := by
  unfold newNo
  have := List.length_filter_le st (List.range k)
  simpa using this

def finT (f : FstD) (st : Nat → Bool) (k : Nat) : List Int := ((List.range k).filter st).map fun i => f.final.getD i 0
def arcT (st : Nat → Bool) (a : ArcD) : ArcD := ⟨newNo st a.src.toNat, a.inp, a.out, newNo st a.dst.toNat, a.wt⟩
def arcsT (st : Nat → Bool) (l : List ArcD) : List ArcD := (l.filter fun a => st a.src.toNat && st a.dst.toNat).map (arcT st)

def trimBy (f : FstD) (st : Nat → Bool) : FstD :=
  if st f.start.toNat then ⟨newNo st f.states.toNat, newNo st f.start.toNat, finT f st f.states.toNat, arcsT st f.arcs⟩ else ⟨1, 0, [-1], []⟩

def IsTrim (f t : FstD) : Prop := ∃ st : Nat → Bool, (∀ i, st i = true ↔ Stays f i) ∧ t = trimBy f st

theorem IsTrim.unique {f t t' : FstD} (h : IsTrim f t) (h' : IsTrim f t') : t = t' := by
  obtain ⟨st, hs, rfl⟩ := h
  obtain ⟨st', hs', rfl⟩ := h'
  have : st = st' := by
    funext i
    rw [Bool.eq_iff_iff, hs i, hs' i]
  rw [this]

theorem finT_hit (f : FstD) (st : Nat → Bool) (k : Nat) (h : st k = true) : finT f st (k + 1) = finT f st k ++ [f.final.getD k 0] := by
  unfold finT; rw [List.range_succ, List.filter_append]; simp [h]
theorem finT_miss (f : FstD) (st : Nat → Bool) (k : Nat) (h : st k = false) : finT f st (k + 1) = finT f st k := by
  unfold finT; rw [List.range_succ, List.filter_append]; simp [h]
theorem finT_len (f : FstD) (st : Nat → Bool) (k : Nat) : (finT f st k).length = newNo st k := by simp [finT, newNo]

theorem arcsT_take (st : Nat → Bool) (l : List ArcD) (k : Nat) (a : ArcD) (hk : k < l.length) (ha : a = l.getD k a0) :
    arcsT st (l.take (k + 1)) = arcsT st (l.take k) ++ if st a.src.toNat && st a.dst.toNat then [arcT st a] else [] := by
  have : l[k]? = some a := by rw [ha]; simp [List.getD, hk]
  rw [List.take_add_one, this]
  unfold arcsT
  rw [List.filter_append, List.map_append]
  congr 1
  cases h : (st a.src.toNat && st a.dst.toNat) <;> simp [List.filter, h]

theorem arcsT_len (st : Nat → Bool) (l : List ArcD) : (arcsT st l).length ≤ l.length := by
  unfold arcsT; rw [List.length_map]; exact List.length_filter_le _ _

/-- the one of the document's example -/
def oneD : FstD := ⟨2, 0, [-1, 1], [⟨0, 1, 2, 1, 5⟩]⟩

theorem check_one : checkD oneD = 0 := by decide

theorem stays_one (i : Nat) : decide (i < 2) = true ↔ Stays oneD i := by
  constructor
  · intro h
    have hi : i < 2 := by simpa using h
    have a0' : ReachP 2 (pairsA oneD) (firstA oneD) 0 := Reach.first ⟨by omega, by decide⟩
    have b1 : ReachP 2 (pairsB oneD) (firstB oneD) 1 := Reach.first ⟨by omega, by decide⟩
    have a1 : ReachP 2 (pairsA oneD) (firstA oneD) 1 := Reach.on (x := 0) a0' (by show (0, 1) ∈ [((0 : Int).toNat, (1 : Int).toNat)]; simp)
    have b0 : ReachP 2 (pairsB oneD) (firstB oneD) 0 := Reach.on (x := 1) b1 (by show (1, 0) ∈ [((1 : Int).toNat, (0 : Int).toNat)]; simp)
    have : i = 0 ∨ i = 1 := by omega
    rcases this with rfl | rfl
    · exact ⟨a0', b0⟩
    · exact ⟨a1, b1⟩
  · intro h
    have := ReachP.lt h.1 (by
      intro p hp
      have : p = (0, 1) := by
        have hp' : p ∈ [((0 : Int).toNat, (1 : Int).toNat)] := hp
        simpa using hp'
      subst this; decide)
    have h2 : i < 2 := this
    simpa using h2

theorem trim_one : IsTrim oneD oneD := ⟨fun i => decide (i < 2), stays_one, by
  unfold trimBy
  rw [if_pos (by decide)]
  rfl⟩

/-- a search that is at its end has met just what can be come to -/
theorem search_done (n : Nat) (ps : List (Nat × Nat)) (S : Nat → Bool) (M : Nat → Bool) (h1 : ∀ x, M x = true → ReachP n ps S x) (h2 : ∀ x, x < n → S x = true → M x = true) (h3 : ∀ x t, M x = true → (x, t) ∈ ps → M t = true) (x : Nat) : M x = true ↔ ReachP n ps S x :=
  ⟨h1 x, fun h => h (fun y => M y = true) (fun s hs => h2 s hs.1 hs.2) (fun s t hs he => h3 s t hs he)⟩

/-- the ends of the arcs from x among the first k -/
def nexts (ps : List (Nat × Nat)) (x : Nat) : List Nat := (ps.filter fun p => p.1 == x).map (·.2)
theorem mem_nexts (ps : List (Nat × Nat)) (x t : Nat) : t ∈ nexts ps x ↔ (x, t) ∈ ps := by
  unfold nexts
  simp only [List.mem_map, List.mem_filter, beq_iff_eq]
  constructor
  · rintro ⟨⟨a, b⟩, ⟨h1, h2⟩, rfl⟩
    simp only at h2
    subst h2; exact h1
  · intro h; exact ⟨(x, t), ⟨h, rfl⟩, rfl⟩

end Go.Proofs.Yteehgcbjmdideaa.Sc

/- 'meet' of package fst's 'reach': a state is met once, and lies open then. -/
namespace Go.Proofs.Yteehgcbjmdideaa.Sc
open Go.RowKit Go.Maps
attribute [local go_sem ↓] Go.wp_at_zero Go.wp_at_succ

theorem keyI : Keyed Try.prog 3 := int_keyed Try.underlying3
theorem zeroU (w : World) : (zeroValue 196).run Try.prog w = .ok (.agg #[]) w := by kernel_rfl
theorem zeroI (w : World) : (zeroValue 3).run Try.prog w = .ok (.int .i64 0) w := by kernel_rfl
theorem zeroS (w : World) : (zeroValue 22).run Try.prog w = .ok (.slice none 0 0) w := by kernel_rfl
theorem infoInt : (Try.prog.info? 3).map (fun i => (i.zero, i.size, i.bytes)) = some (some (.int .i64 0), 1, 8) := by kernel_rfl

theorem wfN (x : Nat) (h : x ≤ 1000000) : (Lit.int .i64 (x : Int)).wf = true := WalkArith.wf_i64 (by omega)
theorem keyN (x : Nat) (h : x ≤ 1000000) : keyOf Try.prog 3 (.int .i64 (x : Int)) = some (.int .i64 (x : Int)) := keyOf_int_mk Try.underlying3 (wfN x h)

def natI (l : List Nat) : List Int := l.map (fun n : Nat => (n : Int))

/-- a set of numbers -/
def SetAt (w : World) (B n : Nat) (M : Nat → Bool) : Prop := ∃ D : DataW Unit, w.ownsMap Try.prog 3 unitElem B n D ∧ ∀ x : Nat, Maps.has D (.int .i64 (x : Int)) = M x

theorem bel_grown {w w' : World} (h : Below w.heap.size w w') : w.grownBy w' none := ⟨h.os, h.tape, h.output, h.size, fun k hk _ => h.block k hk⟩

theorem SetAt.below {w w' : World} {B n : Nat} {M : Nat → Bool} (h : SetAt w B n M) (hb : Below w.heap.size w w') : SetAt w' B n M := by
  obtain ⟨D, h1, h2⟩ := h
  exact ⟨D, h1.kept (bel_grown hb) (by simp), h2⟩

/-- what is met, and what lies open: block B the set, B + 1 and B + 2 the variables -/
structure MS (w : World) (B n : Nat) (M : Nat → Bool) (v : Value) (zs : List Nat) : Prop where
  met : w.cell? ⟨B + 1, 0, none⟩ = some (.map (some B))
  opn : w.cell? ⟨B + 2, 0, none⟩ = some v
  row : w.ownsInts (B + 3) 3 .i64 v (natI zs)
  frz : w.frozen? ⟨B + 2, 0, none⟩ = false
  set : SetAt w B n M
  size : B + 3 ≤ w.heap.size

theorem MS.below {w w' : World} {B n : Nat} {M : Nat → Bool} {v : Value} {zs : List Nat} (h : MS w B n M v zs) (hb : Below w.heap.size w w') : MS w' B n M v zs :=
  ⟨bel_c hb h.met, bel_c hb h.opn, h.row.kept (bel_grown hb) (by cases h1 : v.ownBlock <;> simp), (hb.frozen (p := ⟨B + 2, 0, none⟩) (by have := h.size; show B + 2 < _; omega)).trans h.frz, h.set.below hb, Nat.le_trans h.size hb.size⟩

theorem SetAt.mono {w : World} {B n n' : Nat} {M : Nat → Bool} (h : SetAt w B n M) (hn : n ≤ n') : SetAt w B n' M := by
  obtain ⟨D, h1, h2⟩ := h
  exact ⟨D, h1.mono hn, h2⟩

def meetM (M : Nat → Bool) (x : Nat) : Nat → Bool := if M x then M else fun y => M y || decide (y = x)
def meetN (M : Nat → Bool) (x n : Nat) : Nat := if M x then n else n + 1
def meetZ (M : Nat → Bool) (x : Nat) (zs : List Nat) : List Nat := if M x then zs else zs ++ [x]

theorem natI_snoc (zs : List Nat) (x : Nat) : natI (zs ++ [x]) = natI zs ++ [(x : Int)] := by simp [natI]
theorem natI_len (zs : List Nat) : (natI zs).length = zs.length := by simp [natI]

theorem isKeyI (x : Int) : WideAt.IsKeyLit (.int .i64 x) := by trivial

theorem grown_cell {w w' : World} {r : Nat} (h : w.grownBy w' (some r)) {b o : Nat} {u : Value} (hc : w.cell? ⟨b, o, none⟩ = some u) (hb : b ≠ r) : w'.cell? ⟨b, o, none⟩ = some u := h.cell hc (by simpa using hb)

set_option maxHeartbeats 1000000 in
set_option maxRecDepth 100000 in
theorem meet_old (B n : Nat) (M : Nat → Bool) (v : Value) (zs : List Nat) (x : Nat) (w : World) (h : MS w B n M v zs) (hx : x ≤ 1000) (hM : M x = true) :
    Calls Try.prog 190 #[.int .i64 (x : Int), .pointer (some ⟨B + 1, 0, none⟩), .pointer (some ⟨B + 2, 0, none⟩)] w fun e w' => e = .returned (.tuple #[]) ∧ Below w.heap.size w w' := by
  obtain ⟨D, hD, hh⟩ := h.set
  have hm := h.met
  have hxm := hh x
  rw [hM] at hxm
  have hkey := keyN x (by omega)
  go_enter Try.func190, Try.ntmps190
  go_wp2_with (first | (at_lookup; refine wpList_lookup_own_unit _ rfl _ _ 194 rfl 3 196 keyI Try.underlying194 (zeroU _) B n D rfl hD _ _ rfl hkey ?_; rw [hxm]))
  go_end0
  exact ⟨rfl, bel_up (bel_self _) _⟩

theorem has_put (D : DataW Unit) (hD : IsMap D) (x : Nat) (d : DataW Unit) (y : Nat) : Maps.has (D.put (.int .i64 (x : Int)) d) (.int .i64 (y : Int)) = (Maps.has D (.int .i64 (y : Int)) || decide (y = x)) := by
  by_cases e : y = x
  · subst e; rw [has_put_same hD (isKeyI _)]; simp
  · rw [has_put_other (by intro h; apply e; have := (Lit.int.inj h).2; omega)]; simp [e]

theorem grown_frozen {w w' : World} {r : Option Nat} (h : w.grownBy w' r) {b o : Nat} (hb : b < w.heap.size) (hne : some b ≠ r) : w'.frozen? ⟨b, o, none⟩ = w.frozen? ⟨b, o, none⟩ :=
  World.frozen?_of_block (w := w) (h.block b hb hne)
theorem grown_cell' {w w' : World} {r : Option Nat} (h : w.grownBy w' r) {b o : Nat} {u : Value} (hc : w.cell? ⟨b, o, none⟩ = some u) (hb : some b ≠ r) : w'.cell? ⟨b, o, none⟩ = some u := h.cell hc hb
theorem old_frozen {w : World} {o : Obj} {b k : Nat} (hb : b < w.heap.size) : (w.alloc o).frozen? ⟨b, k, none⟩ = w.frozen? ⟨b, k, none⟩ := (bel_up (bel_self w) o).frozen (p := ⟨b, k, none⟩) hb

theorem row_ne {w : World} {base e : Nat} {v : Value} {zs : List Int} {k : Nat} (h : w.ownsInts base e .i64 v zs) (hk : k < base) : some k ≠ v.ownBlock := fun e1 => by
  have := (h.1.lt k e1.symm).1
  omega
theorem row_ne' {w : World} {base e : Nat} {v : Value} {zs : List Int} {k : Nat} (h : w.ownsInts base e .i64 v zs) (hk : k < base) : v.ownBlock = none ∨ v.ownBlock ≠ some k := Or.inr fun e1 => row_ne h hk e1.symm

/-- behind the store into the set -/
structure M1 (w w1 : World) (B n : Nat) (D : DataW Unit) (v : Value) (zs : List Nat) : Prop where
  met : w1.cell? ⟨B + 1, 0, none⟩ = some (.map (some B))
  opn : w1.cell? ⟨B + 2, 0, none⟩ = some v
  row : w1.ownsInts (B + 3) 3 .i64 v (natI zs)
  frz : w1.frozen? ⟨B + 2, 0, none⟩ = false
  own : w1.ownsMap Try.prog 3 unitElem B n D
  size : B + 3 ≤ w1.heap.size
  bel : Below B w w1

theorem M1.stored {w w1 : World} {B n n' : Nat} {D : DataW Unit} {M : Nat → Bool} {v : Value} {zs : List Nat} (h : MS w B n M v zs) (o : Obj) (hD1 : w1.ownsMap Try.prog 3 unitElem B n' D) (hg : (w.alloc o).grownBy w1 (some B)) : M1 w w1 B n' D v zs := by
  have hs := h.size
  have hs1 : B + 3 ≤ (w.alloc o).heap.size := by simp; omega
  exact ⟨grown_cell hg (old_cell h.met) (by omega), grown_cell hg (old_cell h.opn) (by omega), (h.row.alloc o).kept hg (row_ne' h.row (by omega)), by
    rw [grown_frozen hg (by omega) (by simp), old_frozen (by omega)]; exact h.frz, hD1, Nat.le_trans hs1 hg.size, ((bel_up (bel_self w) o).mono (by omega)).grown hg (by omega) (fun k hk => by cases hk; omega)⟩

theorem cell_set {w : World} {a : Addr} {u : Value} (h : w.cell? a = some u) (v : Value) : (w.setCell a v).cell? a = some v := by
  exact World.cell?_setCell_same _ _ _ h

theorem M1.appended {w w1 w2 : World} {B n : Nat} {D : DataW Unit} {v v' : Value} {zs : List Nat} {x : Nat} (h : M1 w w1 B n D v zs) (o : Obj) (hx : x ≤ 1000) (hg : (w1.alloc o).grownBy w2 v.ownBlock) (hown : w2.ownsRow (B + 3) 3 1 v' ((natI zs).length + 1) ((natI zs).map (Value.int .i64) ++ [.int .i64 (x : Int)])) :
    w2.cell? ⟨B + 2, 0, none⟩ = some v ∧ w2.frozen? ⟨B + 2, 0, none⟩ = false ∧ ∀ M, (∀ y : Nat, Maps.has D (.int .i64 (y : Int)) = M y) → Below B w (w2.setCell ⟨B + 2, 0, none⟩ v') ∧ MS (w2.setCell ⟨B + 2, 0, none⟩ v') B n M v' (zs ++ [x]) := by
  have hs := h.size
  have hs1 : B + 3 ≤ (w1.alloc o).heap.size := by simp; omega
  have c1 : w2.cell? ⟨B + 2, 0, none⟩ = some v := grown_cell' hg (old_cell h.opn) (row_ne h.row (by omega))
  have f1 : w2.frozen? ⟨B + 2, 0, none⟩ = false := by rw [grown_frozen hg (by omega) (row_ne h.row (by omega)), old_frozen (by omega)]; exact h.frz
  refine ⟨c1, f1, fun M hM => ⟨?_, ?_⟩⟩
  · exact ((h.bel.alloc (by omega) o).grown hg (by omega) (fun k hk => by have := (h.row.1.lt k hk).1; omega)).setCell (by show B ≤ B + 2; omega) _
  · have hoi : w2.ownsInts (B + 3) 3 .i64 v' (natI zs ++ [(x : Int)]) := h.row.appended hown (wfN x (by omega))
    rw [← natI_snoc] at hoi
    refine ⟨?_, ?_, ⟨ownsRow_setCell_below hoi.1 (by show B + 2 < B + 3; omega) _, hoi.2⟩, ?_, ⟨D, ?_, hM⟩, ?_⟩
    · rw [World.cell?_setCell_far _ _ _ _ (by show B + 2 ≠ B + 1; omega)]
      exact grown_cell' hg (old_cell (o := o) h.met) (row_ne h.row (by omega))
    · exact cell_set c1 v'
    · rw [World.frozen?_setCell]; exact f1
    · exact (((h.own.alloc o).kept hg (row_ne h.row (by omega)))).setCell (by show B ≠ B + 2; omega) _
    · have := hg.size
      simp [World.setCell] at this ⊢
      omega

set_option maxHeartbeats 1000000 in
set_option maxRecDepth 100000 in
theorem meet_new (B n : Nat) (M : Nat → Bool) (v : Value) (zs : List Nat) (x : Nat) (w : World) (h : MS w B n M v zs) (hx : x ≤ 1000) (hM : M x = false) (hn : n ≤ 100000) (hzl : zs.length ≤ 100000) :
    Calls Try.prog 190 #[.int .i64 (x : Int), .pointer (some ⟨B + 1, 0, none⟩), .pointer (some ⟨B + 2, 0, none⟩)] w fun e w' => e = .returned (.tuple #[]) ∧ Below B w w' ∧ ∃ v', MS w' B (n + 1) (fun y => M y || decide (y = x)) v' (zs ++ [x]) := by
  obtain ⟨D, hD, hh⟩ := h.set
  have hm := h.met
  have hxm := hh x
  rw [hM] at hxm
  have hkey := keyN x (by omega)
  have HS : Hid (B + 3 ≤ w.heap.size) := h.size
  have HL : Hid ((natI zs).length ≤ 100000) := (by rw [natI_len]; exact hzl : (natI zs).length ≤ 100000)
  have HH : Hid (∀ y : Nat, Maps.has (D.put (.int .i64 (x : Int)) (.agg [])) (.int .i64 (y : Int)) = (M y || decide (y = x))) := fun y => by rw [has_put D hD.isMap, hh y]
  have hmx : (w.alloc (.cells #[] 196)).cell? ⟨B + 1, 0, none⟩ = some (.map (some B)) := old_cell hm
  obtain ⟨i0, hi, hz0, hz1, hz2⟩ := info_parts infoInt
  clear hh
  go_enter Try.func190, Try.ntmps190
  go_wp2_with (first | (at_lookup; refine wpList_lookup_own_unit _ rfl _ _ 194 rfl 3 196 keyI Try.underlying194 (zeroU _) B n D rfl hD _ _ rfl hkey ?_; rw [hxm]) | (at_mapUpdate; refine wpList_mapUpdate_own _ rfl _ _ _ 194 rfl 3 196 keyI Try.underlying194 unitElem B n D rfl (hD.alloc _) (by unfold maxLen; omega) _ _ _ rfl rfl hkey (.agg []) [] unitElem_mk ?_; intro w1 hD1 hg1; have h1 := M1.stored h _ hD1 hg1; clear hg1 hD1; have ho1 := h1.opn) | (at_builtin; refine wpList_append_own_at _ rfl _ _ 22 rfl (B + 3) 3 i0 (.int .i64 0) 1 8 Try.underlying22 hi hz0 hz1 hz2 rfl (by decide) _ _ _ rfl (h1.row.1.alloc _) ⟨w1.heap.size, 0, none⟩ 1 1 [.int .i64 (x : Int)] rfl rfl (cell_one_new _ _ _) (ints_oneCell .i64 [(x : Int)]) (by have := HL.out; unfold maxLen; omega) (by have := HL.out; omega) (by have := h1.size; simp; omega) ?_; intro v' w2 hown2 hg2 _ _; obtain ⟨g, cap, hv⟩ := Go.Joins.ownsRow_form hown2 (Nat.succ_pos _); rw [hv] at hown2 ⊢; obtain ⟨c2, f2, hfin⟩ := h1.appended _ hx hg2 hown2; clear hg2 hown2))
  go_end0
  exact ⟨rfl, (hfin _ HH.out).1, _, (hfin _ HH.out).2⟩

theorem meet_any (B n : Nat) (M : Nat → Bool) (v : Value) (zs : List Nat) (x : Nat) (w : World) (h : MS w B n M v zs) (hx : x ≤ 1000) (hn : n ≤ 100000) (hzl : zs.length ≤ 100000) :
    Calls Try.prog 190 #[.int .i64 (x : Int), .pointer (some ⟨B + 1, 0, none⟩), .pointer (some ⟨B + 2, 0, none⟩)] w fun e w' => e = .returned (.tuple #[]) ∧ Below B w w' ∧ ∃ v', MS w' B (meetN M x n) (meetM M x) v' (meetZ M x zs) := by
  cases hM : M x
  · refine (meet_new B n M v zs x w h hx hM hn hzl).mono fun e w' ⟨h1, h2, h3⟩ => ⟨h1, h2, ?_⟩
    simpa [meetM, meetZ, meetN, hM] using h3
  · refine (meet_old B n M v zs x w h hx hM).mono fun e w' ⟨h1, h2⟩ => ⟨h1, h2.mono (by have := h.size; omega), v, ?_⟩
    have h3 := h.below h2
    simpa [meetM, meetZ, meetN, hM] using h3

end Go.Proofs.Yteehgcbjmdideaa.Sc
