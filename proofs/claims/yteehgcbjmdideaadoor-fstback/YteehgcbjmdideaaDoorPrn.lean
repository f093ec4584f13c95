/- 'Print' of package fst: the text, and what Check says. -/
import Derived.Test.YteehgcbjmdideaaDoorSame
import Derived.Test.YteehgcbjmdideaaDoorPMath
import Derived.Test.YteehgcbjmdideaaDoorShelf
import Derived.Lib.AppendIntMem
import Derived.Lib.SmallJoins
namespace Go.Proofs.YteehgcbjmdideaaDoor
open Go.RowKit
attribute [local go_sem ↓] Go.wp_at_zero Go.wp_at_succ

theorem heap_bel {w w' : World} (h : Below w.heap.size w w') {g : Nat} {o : Obj} (hg : w.heap[g]? = some o) : w'.heap[g]? = some o := by
  have : g < w.heap.size := by
    by_cases h : g < w.heap.size
    · exact h
    · rw [Array.getElem?_eq_none (by omega)] at hg; cases hg
  rw [h.block g this]; exact hg

theorem ownsRowF_bel {w w' : World} {B e size n : Nat} {v : Value} {xs : List Value} (h : w.ownsRowF B e size v n xs) (hb : Below w.heap.size w w') : w'.ownsRowF B e size v n xs := by
  obtain ⟨hl, h⟩ := h
  refine ⟨hl, ?_⟩
  rcases h with h | ⟨g, cap, cur, fz, hv, hg, hh, h1⟩
  · exact Or.inl h
  · exact Or.inr ⟨g, cap, cur, fz, hv, hg, heap_bel hb hh, h1⟩

theorem ownsRow_bel {w w' : World} {B e size n : Nat} {v : Value} {xs : List Value} (h : w.ownsRow B e size v n xs) (hb : Below w.heap.size w w') : w'.ownsRow B e size v n xs := by
  obtain ⟨hl, h⟩ := h
  refine ⟨hl, ?_⟩
  rcases h with h | ⟨g, cap, cur, hv, hg, hh, h1, h2, h3, h4⟩
  · exact Or.inl h
  · exact Or.inr ⟨g, cap, cur, hv, hg, heap_bel hb hh, h1, h2, h3, h4⟩

theorem builderAt_bel {w w' : World} {T e B b : Nat} {p : Value} {bs : List Value} (h : Lib.BuilderAtF T e B b p bs w) (hb : Below w.heap.size w w') : Lib.BuilderAtF T e B b p bs w' := by
  obtain ⟨hB, v, hh, ho, hn⟩ := h
  exact ⟨hB, v, heap_bel hb hh, ownsRowF_bel ho hb, hn⟩

theorem isBuilder_bel {w w' : World} {T e B b : Nat} {bs : List Value} (h : Lib.IsBuilderF T e B b bs w) (hb : Below w.heap.size w w') : Lib.IsBuilderF T e B b bs w' := by
  rcases h with h | h
  · exact Or.inl (builderAt_bel h hb)
  · exact Or.inr (builderAt_bel h hb)

/-- the library's table of powers of ten lies in the world -/
def TabW (w : World) : Prop := Lib.TabIs Tryd.prog w "internal/strconv.uint64pow10" .u64 Lib.pow10Tab

theorem TabW.below {w w' : World} {B : Nat} (h : TabW w) (hb : Below B w w') (hB : w.heap.size ≤ B) : TabW w' :=
  by
  unfold TabW at h ⊢
  cases hg : Tryd.prog.globalNamed "internal/strconv.uint64pow10" with
  | none => unfold Lib.TabIs World.var? at h; rw [hg] at h; simp at h
  | some g => exact Go.Joins.tab_stays hg h hb hB

theorem itoa_any (n : Int) (w : World) (hn : in64 n) (ht : TabW w) :
    Calls Tryd.prog 20 #[.int .i64 n] w fun e w' => e = .returned (.string ⟨(Lib.itoa n).toArray⟩) ∧ Below w.heap.size w w' :=
  (Tryd.strconv_Itoa n hn.1 hn.2 w ht).mono fun _ _ ⟨he, k, os, hw⟩ => ⟨he, hw ▸ Lib.below_grow _ w (Nat.le_refl _) k os⟩

def strOf (l : List UInt8) : ByteArray := ⟨l.toArray⟩

theorem map_strOf (xs : List (List UInt8)) : (xs.map strOf).map (fun x => x.data.toList) = xs := by
  induction xs with
  | nil => rfl
  | cons x l ih => simp only [List.map_cons, ih]; simp [strOf]

theorem join_any (bk o c : Nat) (xs : List (List UInt8)) (w : World) (hcells : ∀ (j : Nat) x, (xs.map strOf)[j]? = some x → w.cell? ⟨bk, o + j, none⟩ = some (.string x)) (hbk : bk < w.heap.size) (hN : xs.length ≤ 10) (hcap : xs.length ≤ c)
    (hlen : (Lib.join xs [32]).length ≤ 1000000) :
    Calls Tryd.prog 19 #[.slice (some ⟨bk, o, none⟩) xs.length c, .string ⟨#[32]⟩] w fun e w' => e = .returned (.string (strOf (Lib.join xs [32]))) ∧ Below w.heap.size w w' := by
  have h := Tryd.strings_Join bk o c (xs.map strOf) ⟨#[32]⟩ w hcells hbk (by simp; omega) (by simpa using hcap) (by rw [map_strOf]; simp at hlen ⊢; omega)
  rw [map_strOf, List.length_map] at h
  exact h

theorem size_strOf (l : List UInt8) : (strOf l).size = l.length := by simp [strOf, ByteArray.size]

theorem write_any (b : Nat) (t l : List UInt8) (w : World) (hB : Lib.IsBuilderF 45 5 b b (Lib.byteCells t) w) (hb : b < w.heap.size) (hlen : (t ++ l).length ≤ 1000000) :
    Calls Tryd.prog 18 #[.pointer (some ⟨b, 0, none⟩), .string (strOf l)] w fun e w' => e = .returned (.tuple #[.int .i64 l.length, .nilIface]) ∧ Lib.IsBuilderF 45 5 b b (Lib.byteCells (t ++ l)) w' ∧ Below b w w' ∧ Lib.OthersKept 5 (some b) w w' := by
  have h := Tryd.builder_write b b (Lib.byteCells t) (strOf l) w hB (by rw [Lib.byteCells_length, size_strOf]; simp at hlen; omega) (by omega)
  rw [size_strOf] at h
  refine h.mono fun e w' ⟨he, h1, h2, h3⟩ => ⟨he, Or.inr ?_, h2, h3⟩
  rw [Lib.byteCells_append]
  exact h1

theorem bel_size {B : Nat} {w w' : World} (h : Below B w w') {b : Nat} (hb : b < w.heap.size) : b < w'.heap.size := Nat.lt_of_lt_of_le hb h.size

theorem others_bel {w w' : World} {e : Nat} {b : Option Nat} (h : Below w.heap.size w w') : Lib.OthersKept e b w w' := fun _ _ hk _ _ => heap_bel h hk

theorem say_any (b bk o c : Nat) (t : List UInt8) (xs : List (List UInt8)) (w : World) (hB : Lib.IsBuilderF 45 5 b b (Lib.byteCells t) w)
    (hcells : ∀ (j : Nat) x, (xs.map strOf)[j]? = some x → w.cell? ⟨bk, o + j, none⟩ = some (.string x)) (hbk : bk < w.heap.size) (hb : b < w.heap.size) (hN : xs.length ≤ 10) (hcap : xs.length ≤ c)
    (hlen : (t ++ lineB xs).length ≤ 1000000) :
    Calls Tryd.prog 17 #[.slice (some ⟨bk, o, none⟩) xs.length c, .pointer (some ⟨b, 0, none⟩)] w fun e w' => e = .returned (.tuple #[]) ∧ Lib.IsBuilderF 45 5 b b (Lib.byteCells (t ++ lineB xs)) w' ∧ Below b w w' ∧ Lib.OthersKept 5 (some b) w w' := by
  have hl1 : (Lib.join xs [32]).length ≤ 1000000 := by simp [lineB] at hlen; omega
  have hl2 : (t ++ Lib.join xs [32]).length ≤ 1000000 := by simp [lineB] at hlen ⊢; omega
  have hl3 : ((t ++ Lib.join xs [32]) ++ [10]).length ≤ 1000000 := by simp [lineB] at hlen ⊢; omega
  have HL : Hid ((t ++ Lib.join xs [32]) ++ [10] = t ++ lineB xs) := List.append_assoc _ _ _
  clear hlen
  go_enter Tryd.func17, Tryd.ntmps17
  go_wp2_with (first | (go_at_call 19; refine (join_any bk o c xs w hcells hbk hN hcap hl1).mono ?_; rintro e w1 ⟨rfl, hb1⟩) | (go_at_call 18; refine (write_any b (t ++ Lib.join xs [32]) [10] w2 hB2 (bel_size hb2 (bel_size hb1 hb)) hl3).mono ?_; rintro e w3 ⟨rfl, hB3, hb3, ho3⟩) | (go_at_call 18; refine (write_any b t (Lib.join xs [32]) w1 (isBuilder_bel hB hb1) (bel_size hb1 hb) hl2).mono ?_; rintro e w2 ⟨rfl, hB2, hb2, ho2⟩))
  go_end0
  exact ⟨rfl, HL.out ▸ hB3, (hb1.mono (by omega)).trans (hb2.trans hb3), (others_bel hb1).trans (ho2.trans ho3)⟩

theorem builder_new (w : World) (N : Nat) (hN : w.heap.size = N) : Lib.IsBuilderF 45 5 N N (Lib.byteCells []) (w.alloc (.cells #[.pointer none, .slice none 0 0] 45)) := by
  subst hN
  refine Lib.IsBuilderF.of (Or.inl ⟨Nat.le_refl _, .slice none 0 0, ?_, ?_, ?_⟩)
  · exact heap_alloc_new w _
  · exact ⟨rfl, Or.inl ⟨rfl, rfl⟩⟩
  · simp [Value.ownBlock]

theorem CellsF.belowB {w w' : World} {B H : Nat} {st sta : Int} {fin arcs : Value} (h : CellsF w H st sta fin arcs) (hb : Below B w w') (hH : H < B) : CellsF w' H st sta fin arcs :=
  ⟨(hb.cell (p := ⟨H, 0, none⟩) hH).trans h.1, (hb.cell (p := ⟨H, 1, none⟩) hH).trans h.2.1, (hb.cell (p := ⟨H, 2, none⟩) hH).trans h.2.2.1, (hb.cell (p := ⟨H, 3, none⟩) hH).trans h.2.2.2⟩

/-- what stands while a text is made: the table, the builder at b with t, the transducer's own block, nothing old turned -/
structure PS (w : World) (b : Nat) (t : List UInt8) (st sta : Int) (fin arcs : Value) (wx : World) : Prop where
  tab : TabW wx
  bld : Lib.IsBuilderF 45 5 b b (Lib.byteCells t) wx
  lt : b < wx.heap.size
  bel : Below w.heap.size w wx
  cf : CellsF wx w.heap.size st sta fin arcs
  hb : w.heap.size < b

theorem PS.below {w : World} {b : Nat} {t : List UInt8} {st sta : Int} {fin arcs : Value} {wx wy : World} (h : PS w b t st sta fin arcs wx) (hw : Below wx.heap.size wx wy) : PS w b t st sta fin arcs wy :=
  ⟨h.tab.below hw (Nat.le_refl _), isBuilder_bel h.bld hw, bel_size hw h.lt, bel_on h.bel hw, h.cf.below hw, h.hb⟩

theorem PS.said {w : World} {b : Nat} {t t' : List UInt8} {st sta : Int} {fin arcs : Value} {wx wy : World} (h : PS w b t st sta fin arcs wx) (ht : TabW w) (hB : Lib.IsBuilderF 45 5 b b (Lib.byteCells t') wy) (hw : Below b wx wy) : PS w b t' st sta fin arcs wy :=
  have hbel : Below w.heap.size w wy := h.bel.trans (hw.mono (Nat.le_of_lt h.hb))
  ⟨ht.below hbel (Nat.le_refl _), hB, bel_size hw h.lt, hbel, h.cf.belowB hw h.hb, h.hb⟩

def fieldsV (xs : List (List UInt8)) : Array Value := (xs.map fun l => Value.string (strOf l)).toArray

theorem say_new (w0 : World) (b : Nat) (t : List UInt8) (st sta : Int) (fin arcs : Value) (xs : List (List UInt8)) (w : World) (N k : Nat) (cs : Array Value) (hP : PS w0 b t st sta fin arcs w) (ht : TabW w0) (hN : w.heap.size = N) (hk : xs.length = k) (hcs : cs = fieldsV xs) (hk10 : k ≤ 10)
    (hlen : (t ++ lineB xs).length ≤ 1000000) :
    Calls Tryd.prog 17 #[.slice (some ⟨N, 0, none⟩) k k, .pointer (some ⟨b, 0, none⟩)] (w.alloc (.cells cs 9)) fun e w' => e = .returned (.tuple #[]) ∧ PS w0 b (t ++ lineB xs) st sta fin arcs w' ∧ Lib.OthersKept 5 (some b) w w' := by
  subst hN hk hcs
  have hP' := hP.below (bel_up (bel_self w) (.cells (fieldsV xs) 9))
  refine (say_any b w.heap.size 0 xs.length t xs _ hP'.bld ?_ ?_ hP'.lt hk10 (Nat.le_refl _) hlen).mono ?_
  · intro j x hx
    refine new_cell _ _ _ _ _ _ rfl ?_
    simp only [fieldsV, Nat.zero_add, List.getElem?_toArray, List.getElem?_map] at hx ⊢
    cases hj : xs[j]? with
    | none => rw [hj] at hx; simp at hx
    | some y => rw [hj] at hx; simp at hx ⊢; rw [hx]
  · simp
  · rintro e w' ⟨rfl, hB, hb, ho⟩
    exact ⟨rfl, hP'.said ht hB hb, (others_bel (bel_up (bel_self w) _)).trans ho⟩

/-- an arc's block, whole -/
def HeapA (w : World) (V : Nat) (a : ArcD) : Prop := w.heap[V]? = some (.cells #[.int .i64 a.src, .int .i64 a.inp, .int .i64 a.out, .int .i64 a.dst, .int .i64 a.wt] 55 (0, 0))
theorem HeapA.cells {w : World} {V : Nat} {a : ArcD} (h : HeapA w V a) : CellsA w V a := by
  unfold HeapA at h
  simp [CellsA, World.cell?, h]
theorem HeapA.below {w w' : World} {V : Nat} {a : ArcD} (h : HeapA w V a) (hb : Below w.heap.size w w') : HeapA w' V a := heap_bel hb h
theorem HeapA.others {w w' : World} {V b : Nat} {a : ArcD} (h : HeapA w V a) (ho : Lib.OthersKept 5 (some b) w w') (hV : V ≠ b) : HeapA w' V a :=
  ho V _ h (by simpa using hV) (by intro c fz hc; injection hc with _ h2; exact absurd h2 (by decide))

theorem print_bad (f : FstD) (fin arcs : Value) (w : World) (hf : ISlice w fin f.final) (ha : ASlice w arcs f.arcs) (hc : (checkD f == 0) = false) :
    Calls Tryd.prog 6 #[.agg #[.int .i64 f.states, .int .i64 f.start, fin, arcs]] w fun e w' =>
      e = .returned (.tuple #[.string ⟨#[]⟩, .int .i64 (checkD f)]) ∧ Below w.heap.size w w' := by
  have hb0 := bel_up (bel_self w) (.cells #[.int .i64 f.states, .int .i64 f.start, fin, arcs] 25)
  have h1 := hf.below hb0
  have h2 := ha.below hb0
  go_enter Tryd.func6, Tryd.ntmps6
  go_wp2_with (go_at_call 12; refine (check_any f _ _ _ h1 h2).mono ?_; rintro e w' ⟨rfl, hbw⟩)
  go_ret2
  exact ⟨rfl, bel_on hb0 hbw⟩

theorem inB_in64 {x a b : Int} (h : inB x a b = true) (ha : in64 a) (hb : in64 b) : in64 x := by
  have := inB_le h
  exact ⟨by have := ha.1; omega, by have := hb.2; omega⟩

set_option maxHeartbeats 1000000 in
theorem print_some (f : FstD) (fb foff fn fc : Nat) (aa : Option Addr) (n ac : Nat) (w : World) (hf : IntsAt w fb foff fn f.final) (ha : ASlice w (.slice aa n ac) f.arcs) (hc : checkD f = 0) (ht : TabW w)
    (hs : in64 f.states) (hst : in64 f.start) (hfi : ∀ x ∈ f.final, in64 x) (hai : ∀ a ∈ f.arcs, arcIn64 a) (hfn : fn ≤ 200) (hn : n ≤ 3000) (hal : f.arcs.length = n) :
    Calls Tryd.prog 6 #[.agg #[.int .i64 f.states, .int .i64 f.start, .slice (some ⟨fb, foff, none⟩) fn fc, .slice aa n ac]] w fun e w' =>
      e = .returned (.tuple #[.string (strOf (printD f)), .int .i64 0]) ∧ Below w.heap.size w w' := by
  have hb0 := bel_up (bel_self w) (.cells #[.int .i64 f.states, .int .i64 f.start, .slice (some ⟨fb, foff, none⟩) fn fc, .slice aa n ac] 25)
  have h1 : ISlice (w.alloc (.cells #[.int .i64 f.states, .int .i64 f.start, .slice (some ⟨fb, foff, none⟩) fn fc, .slice aa n ac] 25)) (.slice (some ⟨fb, foff, none⟩) fn fc) f.final := Or.inr ⟨fb, foff, fn, fc, rfl, hf.below hb0, by unfold maxLen; omega⟩
  have h2 := ha.below hb0
  have hbF : CellsF (w.alloc (.cells #[.int .i64 f.states, .int .i64 f.start, .slice (some ⟨fb, foff, none⟩) fn fc, .slice aa n ac] 25)) w.heap.size f.states f.start (.slice (some ⟨fb, foff, none⟩) fn fc) (.slice aa n ac) := by simp [CellsF]
  have hch := check_any f _ _ _ h1 h2
  rw [hc] at hch
  clear h1 h2
  go_enter Tryd.func6, Tryd.ntmps6
  go_wp2_with (go_at_call 12; refine hch.mono ?_; rintro e w1 ⟨rfl, hbw⟩; have hF := hbF.below hbw; have hB := bel_on hb0 hbw; clear hbw hb0 hbF hch)
  have hF' := hF
  obtain ⟨f0, f1, f2, f3⟩ := hF'
  have hHl := cell_lt f0
  have htw : TabW w1 := ht.below hB (Nat.le_refl _)
  have hP : PS w w1.heap.size [] f.states f.start (.slice (some ⟨fb, foff, none⟩) fn fc) (.slice aa n ac) (w1.alloc (.cells #[.pointer none, .slice none 0 0] 45)) :=
    ⟨htw.below (bel_up (bel_self w1) _) (Nat.le_refl _), builder_new w1 _ rfl, by simp, bel_up hB _, hF.below (bel_up (bel_self _) _), hHl⟩
  have hlen0 : (([] : List UInt8) ++ lineB [bStates, Lib.itoa f.states, bStart, Lib.itoa f.start]).length ≤ 1000000 := by
    have := headB_le f.states f.start hs hst
    simp only [List.nil_append]; unfold headB at this; omega
  go_region_held3 (fun wx => wx.cell? ⟨w.heap.size, 0, none⟩ = some (.int .i64 f.states) ∧ wx.cell? ⟨w.heap.size, 1, none⟩ = some (.int .i64 f.start))
    (first | exact ⟨hP3.cf.1, hP3.cf.2.1⟩ | exact ⟨old_cell hP2.cf.1, old_cell hP2.cf.2.1⟩ | exact ⟨hP2.cf.1, hP2.cf.2.1⟩ | exact ⟨hP1.cf.1, hP1.cf.2.1⟩ | exact ⟨drew_cell (old_cell f0), drew_cell (old_cell f1)⟩)
    (first | (go_at_call 17; refine (say_new w w1.heap.size [] _ _ _ _ [bStates, Lib.itoa f.states, bStart, Lib.itoa f.start] _ _ 4 _ hP2 ht (by rfl) (by rfl) (by rfl) (by omega) hlen0).mono ?_; rintro e w4 ⟨rfl, hP3, _⟩) | (go_at_call 20; refine (itoa_any _ _ hst hP1.tab).mono ?_; rintro e w3 ⟨rfl, hbw⟩; have hP2 := hP1.below hbw) | (go_at_call 20; refine (itoa_any _ _ hs (hP.below (bel_self _).drew).tab).mono ?_; rintro e w2 ⟨rfl, hbw⟩; have hP1 := (hP.below (bel_self _).drew).below hbw))
  clear f0 f1 f2 f3 hF hP hP1 hP2 htw hB hHl hlen0
  have hcf := hP3.cf
  obtain ⟨f0, f1, f2, f3⟩ := hcf
  have e0 : [] ++ lineB [bStates, Lib.itoa f.states, bStart, Lib.itoa f.start] = headB f.states f.start ++ finalsB f.final 0 := by simp [headB, finalsB]
  rw [e0] at hP3
  have HH : Hid ((headB f.states f.start).length ≤ 100) := headB_le _ _ hs hst
  have HFI : Hid (∀ x ∈ f.final, in64 x) := hfi
  have HAI : Hid (∀ a ∈ f.arcs, arcIn64 a) := hai
  have HFL : Hid (f.final.length = fn) := hf.len
  have HAL : Hid (f.arcs.length = n) := hal
  have HF : Hid (IntsAt w fb foff fn f.final) := hf
  clear hfi hai hc hal e0 hf
  generalize w1.heap.size = b at *
  go_wp2
  go_loopw [29] (fun i wr => ∃ k : Nat, k ≤ fn ∧ i = .int .i64 k ∧ PS w b (headB f.states f.start ++ finalsB f.final k) f.states f.start (.slice (some ⟨fb, foff, none⟩) fn fc) (.slice aa n ac) wr) (fun i _ => fn - (intOf i).toNat)
  case atStart => exact ⟨0, Nat.zero_le _, rfl, hP3⟩
  case round =>
    clear f0 f1 f2 f3 hP3
    obtain ⟨k, hk, rfl, hP⟩ := hrel
    have hcf := hP.cf
    obtain ⟨f0, f1, f2, f3⟩ := hcf
    by_cases hlt : k < fn
    · have c0 := (HF.out.below hP.bel).cell k hlt
      obtain ⟨x, hxk⟩ : ∃ x, x = f.final.getD k 0 := ⟨_, rfl⟩
      rw [← hxk] at c0
      have HX : Hid (x = f.final.getD k 0) := hxk
      have hx64 : in64 x := HFI.out x (by rw [hxk]; have := HFL.out; simp [List.getD, show k < f.final.length by omega])
      have hk64 : in64 (k : Int) := ⟨by omega, by omega⟩
      clear hxk
      by_cases hx : x = -1
      · have hd : (x != -1) = false := by simp [hx]
        have HE : Hid (finalsB f.final (k + 1) = finalsB f.final k) := finalsB_miss _ _ (by rw [← HX.out]; exact hx)
        clear hx
        go_wp2
        go_roundw
        case rel => exact ⟨k + 1, by omega, by go_num, HE.out ▸ hP⟩
        case measure => simp [intOf]; omega
      · have hd : (x == -1) = false := by simpa using hx
        have HE : Hid (finalsB f.final (k + 1) = finalsB f.final k ++ finalB k x) := finalsB_hit _ _ x HX.out hx
        have hlen : ((headB f.states f.start ++ finalsB f.final k) ++ lineB [bFinal, Lib.itoa k, Lib.itoa x]).length ≤ 1000000 := by
          have h1 := HH.out
          have h2 := finalsB_le f.final k (by omega) HFI.out in64_z
          have h3 := finalB_le k x hk64 hx64
          unfold finalB at h3
          simp only [List.length_append] at h3 ⊢; omega
        clear hx
        go_wp2_with (first | (go_at_call 17; refine (say_new w b _ _ _ _ _ [bFinal, Lib.itoa k, Lib.itoa x] _ _ 3 _ hP2 ht (by rfl) (by rfl) (by rfl) (by omega) hlen).mono ?_; rintro e w4 ⟨rfl, hP3, _⟩) | (go_at_call 20; refine (itoa_any _ _ hx64 hP1.tab).mono ?_; rintro e w3 ⟨rfl, hbw⟩; have hP2 := hP1.below hbw) | (go_at_call 20; refine (itoa_any _ _ hk64 hP.tab).mono ?_; rintro e w2 ⟨rfl, hbw⟩; have hP1 := hP.below hbw))
        go_roundw
        case rel => exact ⟨k + 1, by omega, by go_num, by rw [HE.out, ← List.append_assoc]; exact hP3⟩
        case measure => simp [intOf]; omega
    · have hk' : fn = k := by omega
      subst hk'
      go_wp2
      have hbl := ha.below hP.bel
      go_loopw [47] (fun i wr => ∃ k : Nat, k ≤ n ∧ i = .int .i64 k ∧ PS w b (headB f.states f.start ++ finalsB f.final fn ++ arcsB f.arcs k) f.states f.start (.slice (some ⟨fb, foff, none⟩) fn fc) (.slice aa n ac) wr) (fun i _ => n - (intOf i).toNat)
      case atStart => exact ⟨0, Nat.zero_le _, rfl, by simpa [arcsB] using hP⟩
      case round =>
        clear f0 f1 f2 f3 hP hbl
        obtain ⟨k, hk, rfl, hP⟩ := hrel
        have hcf := hP.cf
        obtain ⟨f0, f1, f2, f3⟩ := hcf
        by_cases hlt : k < n
        · obtain ⟨ab, aoff, rfl, hax⟩ := (ha.below hP.bel).some (by omega)
          have c0 := hax.c0 k hlt
          have c1 := hax.c1 k hlt
          have c2 := hax.c2 k hlt
          have c3 := hax.c3 k hlt
          have c4 := hax.c4 k hlt
          obtain ⟨a, hak⟩ : ∃ a, a = f.arcs.getD k a0 := ⟨_, rfl⟩
          rw [← hak] at c0 c1 c2 c3 c4
          have ha64 : arcIn64 a := HAI.out a (by rw [hak]; have := HAL.out; simp [List.getD, show k < f.arcs.length by omega])
          have HE : Hid (arcsB f.arcs (k + 1) = arcsB f.arcs k ++ arcB a) := arcsB_succ _ _ a hak
          have hlen : ((headB f.states f.start ++ finalsB f.final fn ++ arcsB f.arcs k) ++ lineB [Lib.itoa a.src, Lib.itoa a.inp, Lib.itoa a.out, Lib.itoa a.dst, Lib.itoa a.wt]).length ≤ 1000000 := by
            have h1 := HH.out
            have h2 := finalsB_le f.final fn (by omega) HFI.out in64_z
            have h3 := arcsB_le f.arcs k HAI.out
            have h4 := arcB_le a ha64.1 ha64.2.1 ha64.2.2.1 ha64.2.2.2.1 ha64.2.2.2.2
            unfold arcB at h4
            simp only [List.length_append] at h4 ⊢; omega
          clear hak hax
          go_wp2
          have hP0 := hP.below (bel_up (bel_self wr) (.cells #[.int .i64 a.src, .int .i64 a.inp, .int .i64 a.out, .int .i64 a.dst, .int .i64 a.wt] 55)).drew
          have hA0 : HeapA (wr.alloc (.cells #[.int .i64 a.src, .int .i64 a.inp, .int .i64 a.out, .int .i64 a.dst, .int .i64 a.wt] 55)).drew wr.heap.size a := HeapA.below (heap_alloc_new wr _) (bel_self _).drew
          have hVb : wr.heap.size ≠ b := Nat.ne_of_gt hP.lt
          go_region_held3 (fun wx => wx.cell? ⟨wr.heap.size, 0, none⟩ = some (.int .i64 a.src) ∧ wx.cell? ⟨wr.heap.size, 1, none⟩ = some (.int .i64 a.inp) ∧ wx.cell? ⟨wr.heap.size, 2, none⟩ = some (.int .i64 a.out) ∧ wx.cell? ⟨wr.heap.size, 3, none⟩ = some (.int .i64 a.dst) ∧ wx.cell? ⟨wr.heap.size, 4, none⟩ = some (.int .i64 a.wt)) (first | exact hAK | exact (hA5.below (bel_up (bel_self _) _)).cells | exact hA5.cells | exact hA4.cells | exact hA3.cells | exact hA2.cells | exact hA1.cells | exact hA0.cells)
            (first | (go_at_call 17; refine (say_new w b _ _ _ _ _ [Lib.itoa a.src, Lib.itoa a.inp, Lib.itoa a.out, Lib.itoa a.dst, Lib.itoa a.wt] _ _ 5 _ hP5 ht (by rfl) (by rfl) (by rfl) (by omega) hlen).mono ?_; rintro e w6 ⟨rfl, hP6, ho6⟩; have hAK := (hA5.others ho6 hVb).cells) | (go_at_call 20; refine (itoa_any _ _ ha64.2.2.2.2 hP4.tab).mono ?_; rintro e w5 ⟨rfl, hbw⟩; have hP5 := hP4.below hbw; have hA5 := hA4.below hbw) | (go_at_call 20; refine (itoa_any _ _ ha64.2.2.2.1 hP3.tab).mono ?_; rintro e w4 ⟨rfl, hbw⟩; have hP4 := hP3.below hbw; have hA4 := hA3.below hbw) | (go_at_call 20; refine (itoa_any _ _ ha64.2.2.1 hP2.tab).mono ?_; rintro e w3 ⟨rfl, hbw⟩; have hP3 := hP2.below hbw; have hA3 := hA2.below hbw) | (go_at_call 20; refine (itoa_any _ _ ha64.2.1 hP1.tab).mono ?_; rintro e w2 ⟨rfl, hbw⟩; have hP2 := hP1.below hbw; have hA2 := hA1.below hbw) | (go_at_call 20; refine (itoa_any _ _ ha64.1 hP0.tab).mono ?_; rintro e w1 ⟨rfl, hbw⟩; have hP1 := hP0.below hbw; have hA1 := hA0.below hbw))
          go_wp2
          go_roundw
          case rel => exact ⟨k + 1, by omega, by go_num, by rw [HE.out, ← List.append_assoc]; exact hP6⟩
          case measure => simp [intOf]; omega
        · have hk' : n = k := by omega
          subst hk'
          go_wp2_with (go_at_call 21; refine (Tryd.Builder_String_any_k b b _ _ hP.bld (Nat.le_of_lt hP.lt)).mono ?_; rintro e w5 ⟨rfl, _, hbw, _⟩)
          go_ret2
          refine ⟨?_, hP.bel.trans (hbw.mono (Nat.le_of_lt hP.hb))⟩
          unfold printD
          rw [HFL.out, HAL.out, List.append_assoc]
          rfl

theorem print_any (f : FstD) (fin arcs : Value) (w : World) (hf : ISlice w fin f.final) (ha : ASlice w arcs f.arcs) (ht : TabW w) :
    Calls Tryd.prog 6 #[.agg #[.int .i64 f.states, .int .i64 f.start, fin, arcs]] w fun e w' =>
      e = .returned (.tuple #[.string (strOf (if checkD f = 0 then printD f else [])), .int .i64 (checkD f)]) ∧ Below w.heap.size w w' := by
  by_cases hc : checkD f = 0
  · rw [if_pos hc, hc]
    have ok := check_ok f hc
    obtain ⟨fa, fn, fc, rfl, hfl, hfm⟩ := hf.lenOf
    obtain ⟨aa, n, ac, rfl, hal, ham⟩ := ha.lenOf
    have hb := inB_le ok.states
    have hlen := ok.len
    obtain ⟨fb, foff, rfl, hx⟩ := hf.some (by omega)
    exact print_some f fb foff fn fc aa n ac w hx ha hc ht (inB_in64 ok.states ⟨by decide, by decide⟩ ⟨by decide, by decide⟩) (inB_in64 ok.start in64_z ⟨by omega, by omega⟩) (fun x hx => (finB_out (ok.fin x hx)).2) (fun a h => arcOk_in64 (ok.arcs a h) hb.1 hb.2) (by omega) (by have := ok.many; omega) hal
  · rw [if_neg hc]
    exact print_bad f fin arcs w hf ha (by simpa using hc)

end Go.Proofs.YteehgcbjmdideaaDoor
