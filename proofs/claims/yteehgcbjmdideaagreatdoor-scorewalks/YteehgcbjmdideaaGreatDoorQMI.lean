/- 'Print' of package fst: the text, and what Check says. -/
import Derived.Test.YteehgcbjmdideaaGreatDoorQSame
import Derived.Test.YteehgcbjmdideaaGreatDoorQMA
import Derived.Test.YteehgcbjmdideaaGreatDoorQShelf
import Derived.Lib.AppendIntMem
import Derived.Lib.SmallJoins
import Derived.Laws.CopyOwn
import Derived.Deep.RegionLaw
namespace Go.Proofs.YteehgcbjmdideaaGreatDoor
open Go.RowKit
attribute [local go_sem ↓] Go.wp_at_zero Go.wp_at_succ

theorem heap_bel {w w' : World} (h : Below w.heap.size w w') {g : Nat} {o : Obj} (hg : w.heap[g]? = some o) : w'.heap[g]? = some o := by
  have : g < w.heap.size := by
    by_cases h : g < w.heap.size
    · exact h
    · rw [Array.getElem?_eq_none (by omega)] at hg; cases hg
  rw [h.block g this]; exact hg

theorem ownsRowF_bel {w w' : World} {B e size n : Nat} {v : Value} {xs : List Value} (h : w.ownsRowF B e size v n xs) (hb : Below w.heap.size w w') : w'.ownsRowF B e size v n xs := by
  obtain ⟨hl, h⟩ := h
  refine ⟨hl, ?_⟩
  rcases h with h | ⟨g, cap, cur, fz, hv, hg, hh, h1⟩
  · exact Or.inl h
  · exact Or.inr ⟨g, cap, cur, fz, hv, hg, heap_bel hb hh, h1⟩

theorem ownsRow_bel {w w' : World} {B e size n : Nat} {v : Value} {xs : List Value} (h : w.ownsRow B e size v n xs) (hb : Below w.heap.size w w') : w'.ownsRow B e size v n xs := by
  obtain ⟨hl, h⟩ := h
  refine ⟨hl, ?_⟩
  rcases h with h | ⟨g, cap, cur, hv, hg, hh, h1, h2, h3, h4⟩
  · exact Or.inl h
  · exact Or.inr ⟨g, cap, cur, hv, hg, heap_bel hb hh, h1, h2, h3, h4⟩

theorem builderAt_bel {w w' : World} {T e B b : Nat} {p : Value} {bs : List Value} (h : Lib.BuilderAtF T e B b p bs w) (hb : Below w.heap.size w w') : Lib.BuilderAtF T e B b p bs w' := by
  obtain ⟨hB, v, hh, ho, hn⟩ := h
  exact ⟨hB, v, heap_bel hb hh, ownsRowF_bel ho hb, hn⟩

theorem isBuilder_bel {w w' : World} {T e B b : Nat} {bs : List Value} (h : Lib.IsBuilderF T e B b bs w) (hb : Below w.heap.size w w') : Lib.IsBuilderF T e B b bs w' := by
  rcases h with h | h
  · exact Or.inl (builderAt_bel h hb)
  · exact Or.inr (builderAt_bel h hb)

/-- the library's table of powers of ten lies in the world -/
def TabW (w : World) : Prop := Lib.TabIs Tryz.prog w "internal/strconv.uint64pow10" .u64 Lib.pow10Tab

theorem TabW.below {w w' : World} {B : Nat} (h : TabW w) (hb : Below B w w') (hB : w.heap.size ≤ B) : TabW w' :=
  by
  unfold TabW at h ⊢
  cases hg : Tryz.prog.globalNamed "internal/strconv.uint64pow10" with
  | none => unfold Lib.TabIs World.var? at h; rw [hg] at h; simp at h
  | some g => exact Go.Joins.tab_stays hg h hb hB

theorem itoa_any (n : Int) (w : World) (hn : in64 n) (ht : TabW w) :
    Calls Tryz.prog 32 #[.int .i64 n] w fun e w' => e = .returned (.string ⟨(Lib.itoa n).toArray⟩) ∧ Below w.heap.size w w' :=
  (Tryz.strconv_Itoa n hn.1 hn.2 w ht).mono fun _ _ ⟨he, k, os, hw⟩ => ⟨he, hw ▸ Lib.below_grow _ w (Nat.le_refl _) k os⟩

def strOf (l : List UInt8) : ByteArray := ⟨l.toArray⟩

theorem map_strOf (xs : List (List UInt8)) : (xs.map strOf).map (fun x => x.data.toList) = xs := by
  induction xs with
  | nil => rfl
  | cons x l ih => simp only [List.map_cons, ih]; simp [strOf]

theorem join_any (bk o c : Nat) (xs : List (List UInt8)) (w : World) (hcells : ∀ (j : Nat) x, (xs.map strOf)[j]? = some x → w.cell? ⟨bk, o + j, none⟩ = some (.string x)) (hbk : bk < w.heap.size) (hN : xs.length ≤ 10) (hcap : xs.length ≤ c)
    (hlen : (Lib.join xs [32]).length ≤ 1000000) :
    Calls Tryz.prog 31 #[.slice (some ⟨bk, o, none⟩) xs.length c, .string ⟨#[32]⟩] w fun e w' => e = .returned (.string (strOf (Lib.join xs [32]))) ∧ Below w.heap.size w w' := by
  have h := Tryz.strings_Join bk o c (xs.map strOf) ⟨#[32]⟩ w hcells hbk (by simp; omega) (by simpa using hcap) (by rw [map_strOf]; simp at hlen ⊢; omega)
  rw [map_strOf, List.length_map] at h
  exact h

theorem size_strOf (l : List UInt8) : (strOf l).size = l.length := by simp [strOf, ByteArray.size]

theorem write_any (b : Nat) (t l : List UInt8) (w : World) (hB : Lib.IsBuilderF 79 5 b b (Lib.byteCells t) w) (hb : b < w.heap.size) (hlen : (t ++ l).length ≤ 1000000) :
    Calls Tryz.prog 30 #[.pointer (some ⟨b, 0, none⟩), .string (strOf l)] w fun e w' => e = .returned (.tuple #[.int .i64 l.length, .nilIface]) ∧ Lib.IsBuilderF 79 5 b b (Lib.byteCells (t ++ l)) w' ∧ Below b w w' ∧ Lib.OthersKept 5 (some b) w w' := by
  have h := Tryz.builder_write b b (Lib.byteCells t) (strOf l) w hB (by rw [Lib.byteCells_length, size_strOf]; simp at hlen; omega) (by omega)
  rw [size_strOf] at h
  refine h.mono fun e w' ⟨he, h1, h2, h3⟩ => ⟨he, Or.inr ?_, h2, h3⟩
  rw [Lib.byteCells_append]
  exact h1

theorem bel_size {B : Nat} {w w' : World} (h : Below B w w') {b : Nat} (hb : b < w.heap.size) : b < w'.heap.size := Nat.lt_of_lt_of_le hb h.size

theorem others_bel {w w' : World} {e : Nat} {b : Option Nat} (h : Below w.heap.size w w') : Lib.OthersKept e b w w' := fun _ _ hk _ _ => heap_bel h hk

theorem say_any (b bk o c : Nat) (t : List UInt8) (xs : List (List UInt8)) (w : World) (hB : Lib.IsBuilderF 79 5 b b (Lib.byteCells t) w)
    (hcells : ∀ (j : Nat) x, (xs.map strOf)[j]? = some x → w.cell? ⟨bk, o + j, none⟩ = some (.string x)) (hbk : bk < w.heap.size) (hb : b < w.heap.size) (hN : xs.length ≤ 10) (hcap : xs.length ≤ c)
    (hlen : (t ++ lineB xs).length ≤ 1000000) :
    Calls Tryz.prog 29 #[.slice (some ⟨bk, o, none⟩) xs.length c, .pointer (some ⟨b, 0, none⟩)] w fun e w' => e = .returned (.tuple #[]) ∧ Lib.IsBuilderF 79 5 b b (Lib.byteCells (t ++ lineB xs)) w' ∧ Below b w w' ∧ Lib.OthersKept 5 (some b) w w' := by
  have hl1 : (Lib.join xs [32]).length ≤ 1000000 := by simp [lineB] at hlen; omega
  have hl2 : (t ++ Lib.join xs [32]).length ≤ 1000000 := by simp [lineB] at hlen ⊢; omega
  have hl3 : ((t ++ Lib.join xs [32]) ++ [10]).length ≤ 1000000 := by simp [lineB] at hlen ⊢; omega
  have HL : Hid ((t ++ Lib.join xs [32]) ++ [10] = t ++ lineB xs) := List.append_assoc _ _ _
  clear hlen
  go_enter Tryz.func29, Tryz.ntmps29
  go_wp2_with (first | (go_at_call 31; refine (join_any bk o c xs w hcells hbk hN hcap hl1).mono ?_; rintro e w1 ⟨rfl, hb1⟩) | (go_at_call 30; refine (write_any b (t ++ Lib.join xs [32]) [10] w2 hB2 (bel_size hb2 (bel_size hb1 hb)) hl3).mono ?_; rintro e w3 ⟨rfl, hB3, hb3, ho3⟩) | (go_at_call 30; refine (write_any b t (Lib.join xs [32]) w1 (isBuilder_bel hB hb1) (bel_size hb1 hb) hl2).mono ?_; rintro e w2 ⟨rfl, hB2, hb2, ho2⟩))
  go_end0
  exact ⟨rfl, HL.out ▸ hB3, (hb1.mono (by omega)).trans (hb2.trans hb3), (others_bel hb1).trans (ho2.trans ho3)⟩

theorem builder_new (w : World) (N : Nat) (hN : w.heap.size = N) : Lib.IsBuilderF 79 5 N N (Lib.byteCells []) (w.alloc (.cells #[.pointer none, .slice none 0 0] 79)) := by
  subst hN
  refine Lib.IsBuilderF.of (Or.inl ⟨Nat.le_refl _, .slice none 0 0, ?_, ?_, ?_⟩)
  · exact heap_alloc_new w _
  · exact ⟨rfl, Or.inl ⟨rfl, rfl⟩⟩
  · simp [Value.ownBlock]

theorem CellsF.belowB {w w' : World} {B H : Nat} {st sta : Int} {fin arcs : Value} (h : CellsF w H st sta fin arcs) (hb : Below B w w') (hH : H < B) : CellsF w' H st sta fin arcs :=
  ⟨(hb.cell (p := ⟨H, 0, none⟩) hH).trans h.1, (hb.cell (p := ⟨H, 1, none⟩) hH).trans h.2.1, (hb.cell (p := ⟨H, 2, none⟩) hH).trans h.2.2.1, (hb.cell (p := ⟨H, 3, none⟩) hH).trans h.2.2.2⟩

/-- what stands while a text is made: the table, the builder at b with t, the transducer's own block, nothing old turned -/
structure PS (w : World) (b : Nat) (t : List UInt8) (st sta : Int) (fin arcs : Value) (wx : World) : Prop where
  tab : TabW wx
  bld : Lib.IsBuilderF 79 5 b b (Lib.byteCells t) wx
  lt : b < wx.heap.size
  bel : Below w.heap.size w wx
  cf : CellsF wx w.heap.size st sta fin arcs
  hb : w.heap.size < b

theorem PS.below {w : World} {b : Nat} {t : List UInt8} {st sta : Int} {fin arcs : Value} {wx wy : World} (h : PS w b t st sta fin arcs wx) (hw : Below wx.heap.size wx wy) : PS w b t st sta fin arcs wy :=
  ⟨h.tab.below hw (Nat.le_refl _), isBuilder_bel h.bld hw, bel_size hw h.lt, bel_on h.bel hw, h.cf.below hw, h.hb⟩

theorem PS.said {w : World} {b : Nat} {t t' : List UInt8} {st sta : Int} {fin arcs : Value} {wx wy : World} (h : PS w b t st sta fin arcs wx) (ht : TabW w) (hB : Lib.IsBuilderF 79 5 b b (Lib.byteCells t') wy) (hw : Below b wx wy) : PS w b t' st sta fin arcs wy :=
  have hbel : Below w.heap.size w wy := h.bel.trans (hw.mono (Nat.le_of_lt h.hb))
  ⟨ht.below hbel (Nat.le_refl _), hB, bel_size hw h.lt, hbel, h.cf.belowB hw h.hb, h.hb⟩

def fieldsV (xs : List (List UInt8)) : Array Value := (xs.map fun l => Value.string (strOf l)).toArray

theorem say_new (w0 : World) (b : Nat) (t : List UInt8) (st sta : Int) (fin arcs : Value) (xs : List (List UInt8)) (w : World) (N k : Nat) (cs : Array Value) (hP : PS w0 b t st sta fin arcs w) (ht : TabW w0) (hN : w.heap.size = N) (hk : xs.length = k) (hcs : cs = fieldsV xs) (hk10 : k ≤ 10)
    (hlen : (t ++ lineB xs).length ≤ 1000000) :
    Calls Tryz.prog 29 #[.slice (some ⟨N, 0, none⟩) k k, .pointer (some ⟨b, 0, none⟩)] (w.alloc (.cells cs 9)) fun e w' => e = .returned (.tuple #[]) ∧ PS w0 b (t ++ lineB xs) st sta fin arcs w' ∧ Lib.OthersKept 5 (some b) w w' := by
  subst hN hk hcs
  have hP' := hP.below (bel_up (bel_self w) (.cells (fieldsV xs) 9))
  refine (say_any b w.heap.size 0 xs.length t xs _ hP'.bld ?_ ?_ hP'.lt hk10 (Nat.le_refl _) hlen).mono ?_
  · intro j x hx
    refine new_cell _ _ _ _ _ _ rfl ?_
    simp only [fieldsV, Nat.zero_add, List.getElem?_toArray, List.getElem?_map] at hx ⊢
    cases hj : xs[j]? with
    | none => rw [hj] at hx; simp at hx
    | some y => rw [hj] at hx; simp at hx ⊢; rw [hx]
  · simp
  · rintro e w' ⟨rfl, hB, hb, ho⟩
    exact ⟨rfl, hP'.said ht hB hb, (others_bel (bel_up (bel_self w) _)).trans ho⟩

/-- an arc's block, whole -/
def HeapA (w : World) (V : Nat) (a : ArcD) : Prop := w.heap[V]? = some (.cells #[.int .i64 a.src, .int .i64 a.inp, .int .i64 a.out, .int .i64 a.dst, .int .i64 a.wt] 35 (0, 0))
theorem HeapA.cells {w : World} {V : Nat} {a : ArcD} (h : HeapA w V a) : CellsA w V a := by
  unfold HeapA at h
  simp [CellsA, World.cell?, h]
theorem HeapA.below {w w' : World} {V : Nat} {a : ArcD} (h : HeapA w V a) (hb : Below w.heap.size w w') : HeapA w' V a := heap_bel hb h
theorem HeapA.others {w w' : World} {V b : Nat} {a : ArcD} (h : HeapA w V a) (ho : Lib.OthersKept 5 (some b) w w') (hV : V ≠ b) : HeapA w' V a :=
  ho V _ h (by simpa using hV) (by intro c fz hc; injection hc with _ h2; exact absurd h2 (by decide))

theorem print_bad (f : FstD) (fin arcs : Value) (w : World) (hf : ISlice w fin f.final) (ha : ASlice w arcs f.arcs) (hc : (checkD f == 0) = false) :
    Calls Tryz.prog 16 #[.agg #[.int .i64 f.states, .int .i64 f.start, fin, arcs]] w fun e w' =>
      e = .returned (.tuple #[.string ⟨#[]⟩, .int .i64 (checkD f)]) ∧ Below w.heap.size w w' := by
  have hb0 := bel_up (bel_self w) (.cells #[.int .i64 f.states, .int .i64 f.start, fin, arcs] 25)
  have h1 := hf.below hb0
  have h2 := ha.below hb0
  go_enter Tryz.func16, Tryz.ntmps16
  go_wp2_with (go_at_call 18; refine (check_any f _ _ _ h1 h2).mono ?_; rintro e w' ⟨rfl, hbw⟩)
  go_ret2
  exact ⟨rfl, bel_on hb0 hbw⟩

theorem inB_in64 {x a b : Int} (h : inB x a b = true) (ha : in64 a) (hb : in64 b) : in64 x := by
  have := inB_le h
  exact ⟨by have := ha.1; omega, by have := hb.2; omega⟩

set_option maxHeartbeats 1000000 in
theorem print_some (f : FstD) (fb foff fn fc : Nat) (aa : Option Addr) (n ac : Nat) (w : World) (hf : IntsAt w fb foff fn f.final) (ha : ASlice w (.slice aa n ac) f.arcs) (hc : checkD f = 0) (ht : TabW w)
    (hs : in64 f.states) (hst : in64 f.start) (hfi : ∀ x ∈ f.final, in64 x) (hai : ∀ a ∈ f.arcs, arcIn64 a) (hfn : fn ≤ 200) (hn : n ≤ 3000) (hal : f.arcs.length = n) :
    Calls Tryz.prog 16 #[.agg #[.int .i64 f.states, .int .i64 f.start, .slice (some ⟨fb, foff, none⟩) fn fc, .slice aa n ac]] w fun e w' =>
      e = .returned (.tuple #[.string (strOf (printD f)), .int .i64 0]) ∧ Below w.heap.size w w' := by
  have hb0 := bel_up (bel_self w) (.cells #[.int .i64 f.states, .int .i64 f.start, .slice (some ⟨fb, foff, none⟩) fn fc, .slice aa n ac] 25)
  have h1 : ISlice (w.alloc (.cells #[.int .i64 f.states, .int .i64 f.start, .slice (some ⟨fb, foff, none⟩) fn fc, .slice aa n ac] 25)) (.slice (some ⟨fb, foff, none⟩) fn fc) f.final := Or.inr ⟨fb, foff, fn, fc, rfl, hf.below hb0, by unfold maxLen; omega⟩
  have h2 := ha.below hb0
  have hbF : CellsF (w.alloc (.cells #[.int .i64 f.states, .int .i64 f.start, .slice (some ⟨fb, foff, none⟩) fn fc, .slice aa n ac] 25)) w.heap.size f.states f.start (.slice (some ⟨fb, foff, none⟩) fn fc) (.slice aa n ac) := by simp [CellsF]
  have hch := check_any f _ _ _ h1 h2
  rw [hc] at hch
  clear h1 h2
  go_enter Tryz.func16, Tryz.ntmps16
  go_wp2_with (go_at_call 18; refine hch.mono ?_; rintro e w1 ⟨rfl, hbw⟩; have hF := hbF.below hbw; have hB := bel_on hb0 hbw; clear hbw hb0 hbF hch)
  have hF' := hF
  obtain ⟨f0, f1, f2, f3⟩ := hF'
  have hHl := cell_lt f0
  have htw : TabW w1 := ht.below hB (Nat.le_refl _)
  have hP : PS w w1.heap.size [] f.states f.start (.slice (some ⟨fb, foff, none⟩) fn fc) (.slice aa n ac) (w1.alloc (.cells #[.pointer none, .slice none 0 0] 79)) :=
    ⟨htw.below (bel_up (bel_self w1) _) (Nat.le_refl _), builder_new w1 _ rfl, by simp, bel_up hB _, hF.below (bel_up (bel_self _) _), hHl⟩
  have hlen0 : (([] : List UInt8) ++ lineB [bStates, Lib.itoa f.states, bStart, Lib.itoa f.start]).length ≤ 1000000 := by
    have := headB_le f.states f.start hs hst
    simp only [List.nil_append]; unfold headB at this; omega
  go_region_held3 (fun wx => wx.cell? ⟨w.heap.size, 0, none⟩ = some (.int .i64 f.states) ∧ wx.cell? ⟨w.heap.size, 1, none⟩ = some (.int .i64 f.start))
    (first | exact ⟨hP3.cf.1, hP3.cf.2.1⟩ | exact ⟨old_cell hP2.cf.1, old_cell hP2.cf.2.1⟩ | exact ⟨hP2.cf.1, hP2.cf.2.1⟩ | exact ⟨hP1.cf.1, hP1.cf.2.1⟩ | exact ⟨drew_cell (old_cell f0), drew_cell (old_cell f1)⟩)
    (first | (go_at_call 29; refine (say_new w w1.heap.size [] _ _ _ _ [bStates, Lib.itoa f.states, bStart, Lib.itoa f.start] _ _ 4 _ hP2 ht (by rfl) (by rfl) (by rfl) (by omega) hlen0).mono ?_; rintro e w4 ⟨rfl, hP3, _⟩) | (go_at_call 32; refine (itoa_any _ _ hst hP1.tab).mono ?_; rintro e w3 ⟨rfl, hbw⟩; have hP2 := hP1.below hbw) | (go_at_call 32; refine (itoa_any _ _ hs (hP.below (bel_self _).drew).tab).mono ?_; rintro e w2 ⟨rfl, hbw⟩; have hP1 := (hP.below (bel_self _).drew).below hbw))
  clear f0 f1 f2 f3 hF hP hP1 hP2 htw hB hHl hlen0
  have hcf := hP3.cf
  obtain ⟨f0, f1, f2, f3⟩ := hcf
  have e0 : [] ++ lineB [bStates, Lib.itoa f.states, bStart, Lib.itoa f.start] = headB f.states f.start ++ finalsB f.final 0 := by simp [headB, finalsB]
  rw [e0] at hP3
  have HH : Hid ((headB f.states f.start).length ≤ 100) := headB_le _ _ hs hst
  have HFI : Hid (∀ x ∈ f.final, in64 x) := hfi
  have HAI : Hid (∀ a ∈ f.arcs, arcIn64 a) := hai
  have HFL : Hid (f.final.length = fn) := hf.len
  have HAL : Hid (f.arcs.length = n) := hal
  have HF : Hid (IntsAt w fb foff fn f.final) := hf
  clear hfi hai hc hal e0 hf
  generalize w1.heap.size = b at *
  go_wp2
  go_loopw [29] (fun i wr => ∃ k : Nat, k ≤ fn ∧ i = .int .i64 k ∧ PS w b (headB f.states f.start ++ finalsB f.final k) f.states f.start (.slice (some ⟨fb, foff, none⟩) fn fc) (.slice aa n ac) wr) (fun i _ => fn - (intOf i).toNat)
  case atStart => exact ⟨0, Nat.zero_le _, rfl, hP3⟩
  case round =>
    clear f0 f1 f2 f3 hP3
    obtain ⟨k, hk, rfl, hP⟩ := hrel
    have hcf := hP.cf
    obtain ⟨f0, f1, f2, f3⟩ := hcf
    by_cases hlt : k < fn
    · have c0 := (HF.out.below hP.bel).cell k hlt
      obtain ⟨x, hxk⟩ : ∃ x, x = f.final.getD k 0 := ⟨_, rfl⟩
      rw [← hxk] at c0
      have HX : Hid (x = f.final.getD k 0) := hxk
      have hx64 : in64 x := HFI.out x (by rw [hxk]; have := HFL.out; simp [List.getD, show k < f.final.length by omega])
      have hk64 : in64 (k : Int) := ⟨by omega, by omega⟩
      clear hxk
      by_cases hx : x = -1
      · have hd : (x != -1) = false := by simp [hx]
        have HE : Hid (finalsB f.final (k + 1) = finalsB f.final k) := finalsB_miss _ _ (by rw [← HX.out]; exact hx)
        clear hx
        go_wp2
        go_roundw
        case rel => exact ⟨k + 1, by omega, by go_num, HE.out ▸ hP⟩
        case measure => simp [intOf]; omega
      · have hd : (x == -1) = false := by simpa using hx
        have HE : Hid (finalsB f.final (k + 1) = finalsB f.final k ++ finalB k x) := finalsB_hit _ _ x HX.out hx
        have hlen : ((headB f.states f.start ++ finalsB f.final k) ++ lineB [bFinal, Lib.itoa k, Lib.itoa x]).length ≤ 1000000 := by
          have h1 := HH.out
          have h2 := finalsB_le f.final k (by omega) HFI.out in64_z
          have h3 := finalB_le k x hk64 hx64
          unfold finalB at h3
          simp only [List.length_append] at h3 ⊢; omega
        clear hx
        go_wp2_with (first | (go_at_call 29; refine (say_new w b _ _ _ _ _ [bFinal, Lib.itoa k, Lib.itoa x] _ _ 3 _ hP2 ht (by rfl) (by rfl) (by rfl) (by omega) hlen).mono ?_; rintro e w4 ⟨rfl, hP3, _⟩) | (go_at_call 32; refine (itoa_any _ _ hx64 hP1.tab).mono ?_; rintro e w3 ⟨rfl, hbw⟩; have hP2 := hP1.below hbw) | (go_at_call 32; refine (itoa_any _ _ hk64 hP.tab).mono ?_; rintro e w2 ⟨rfl, hbw⟩; have hP1 := hP.below hbw))
        go_roundw
        case rel => exact ⟨k + 1, by omega, by go_num, by rw [HE.out, ← List.append_assoc]; exact hP3⟩
        case measure => simp [intOf]; omega
    · have hk' : fn = k := by omega
      subst hk'
      go_wp2
      have hbl := ha.below hP.bel
      go_loopw [47] (fun i wr => ∃ k : Nat, k ≤ n ∧ i = .int .i64 k ∧ PS w b (headB f.states f.start ++ finalsB f.final fn ++ arcsB f.arcs k) f.states f.start (.slice (some ⟨fb, foff, none⟩) fn fc) (.slice aa n ac) wr) (fun i _ => n - (intOf i).toNat)
      case atStart => exact ⟨0, Nat.zero_le _, rfl, by simpa [arcsB] using hP⟩
      case round =>
        clear f0 f1 f2 f3 hP hbl
        obtain ⟨k, hk, rfl, hP⟩ := hrel
        have hcf := hP.cf
        obtain ⟨f0, f1, f2, f3⟩ := hcf
        by_cases hlt : k < n
        · obtain ⟨ab, aoff, rfl, hax⟩ := (ha.below hP.bel).some (by omega)
          have c0 := hax.c0 k hlt
          have c1 := hax.c1 k hlt
          have c2 := hax.c2 k hlt
          have c3 := hax.c3 k hlt
          have c4 := hax.c4 k hlt
          obtain ⟨a, hak⟩ : ∃ a, a = f.arcs.getD k a0 := ⟨_, rfl⟩
          rw [← hak] at c0 c1 c2 c3 c4
          have ha64 : arcIn64 a := HAI.out a (by rw [hak]; have := HAL.out; simp [List.getD, show k < f.arcs.length by omega])
          have HE : Hid (arcsB f.arcs (k + 1) = arcsB f.arcs k ++ arcB a) := arcsB_succ _ _ a hak
          have hlen : ((headB f.states f.start ++ finalsB f.final fn ++ arcsB f.arcs k) ++ lineB [Lib.itoa a.src, Lib.itoa a.inp, Lib.itoa a.out, Lib.itoa a.dst, Lib.itoa a.wt]).length ≤ 1000000 := by
            have h1 := HH.out
            have h2 := finalsB_le f.final fn (by omega) HFI.out in64_z
            have h3 := arcsB_le f.arcs k HAI.out
            have h4 := arcB_le a ha64.1 ha64.2.1 ha64.2.2.1 ha64.2.2.2.1 ha64.2.2.2.2
            unfold arcB at h4
            simp only [List.length_append] at h4 ⊢; omega
          clear hak hax
          go_wp2
          have hP0 := hP.below (bel_up (bel_self wr) (.cells #[.int .i64 a.src, .int .i64 a.inp, .int .i64 a.out, .int .i64 a.dst, .int .i64 a.wt] 35)).drew
          have hA0 : HeapA (wr.alloc (.cells #[.int .i64 a.src, .int .i64 a.inp, .int .i64 a.out, .int .i64 a.dst, .int .i64 a.wt] 35)).drew wr.heap.size a := HeapA.below (heap_alloc_new wr _) (bel_self _).drew
          have hVb : wr.heap.size ≠ b := Nat.ne_of_gt hP.lt
          go_region_held3 (fun wx => wx.cell? ⟨wr.heap.size, 0, none⟩ = some (.int .i64 a.src) ∧ wx.cell? ⟨wr.heap.size, 1, none⟩ = some (.int .i64 a.inp) ∧ wx.cell? ⟨wr.heap.size, 2, none⟩ = some (.int .i64 a.out) ∧ wx.cell? ⟨wr.heap.size, 3, none⟩ = some (.int .i64 a.dst) ∧ wx.cell? ⟨wr.heap.size, 4, none⟩ = some (.int .i64 a.wt)) (first | exact hAK | exact (hA5.below (bel_up (bel_self _) _)).cells | exact hA5.cells | exact hA4.cells | exact hA3.cells | exact hA2.cells | exact hA1.cells | exact hA0.cells)
            (first | (go_at_call 29; refine (say_new w b _ _ _ _ _ [Lib.itoa a.src, Lib.itoa a.inp, Lib.itoa a.out, Lib.itoa a.dst, Lib.itoa a.wt] _ _ 5 _ hP5 ht (by rfl) (by rfl) (by rfl) (by omega) hlen).mono ?_; rintro e w6 ⟨rfl, hP6, ho6⟩; have hAK := (hA5.others ho6 hVb).cells) | (go_at_call 32; refine (itoa_any _ _ ha64.2.2.2.2 hP4.tab).mono ?_; rintro e w5 ⟨rfl, hbw⟩; have hP5 := hP4.below hbw; have hA5 := hA4.below hbw) | (go_at_call 32; refine (itoa_any _ _ ha64.2.2.2.1 hP3.tab).mono ?_; rintro e w4 ⟨rfl, hbw⟩; have hP4 := hP3.below hbw; have hA4 := hA3.below hbw) | (go_at_call 32; refine (itoa_any _ _ ha64.2.2.1 hP2.tab).mono ?_; rintro e w3 ⟨rfl, hbw⟩; have hP3 := hP2.below hbw; have hA3 := hA2.below hbw) | (go_at_call 32; refine (itoa_any _ _ ha64.2.1 hP1.tab).mono ?_; rintro e w2 ⟨rfl, hbw⟩; have hP2 := hP1.below hbw; have hA2 := hA1.below hbw) | (go_at_call 32; refine (itoa_any _ _ ha64.1 hP0.tab).mono ?_; rintro e w1 ⟨rfl, hbw⟩; have hP1 := hP0.below hbw; have hA1 := hA0.below hbw))
          go_wp2
          go_roundw
          case rel => exact ⟨k + 1, by omega, by go_num, by rw [HE.out, ← List.append_assoc]; exact hP6⟩
          case measure => simp [intOf]; omega
        · have hk' : n = k := by omega
          subst hk'
          go_wp2_with (go_at_call 33; refine (Tryz.Builder_String_any_k b b _ _ hP.bld (Nat.le_of_lt hP.lt)).mono ?_; rintro e w5 ⟨rfl, _, hbw, _⟩)
          go_ret2
          refine ⟨?_, hP.bel.trans (hbw.mono (Nat.le_of_lt hP.hb))⟩
          unfold printD
          rw [HFL.out, HAL.out, List.append_assoc]
          rfl

theorem print_any (f : FstD) (fin arcs : Value) (w : World) (hf : ISlice w fin f.final) (ha : ASlice w arcs f.arcs) (ht : TabW w) :
    Calls Tryz.prog 16 #[.agg #[.int .i64 f.states, .int .i64 f.start, fin, arcs]] w fun e w' =>
      e = .returned (.tuple #[.string (strOf (if checkD f = 0 then printD f else [])), .int .i64 (checkD f)]) ∧ Below w.heap.size w w' := by
  by_cases hc : checkD f = 0
  · rw [if_pos hc, hc]
    have ok := check_ok f hc
    obtain ⟨fa, fn, fc, rfl, hfl, hfm⟩ := hf.lenOf
    obtain ⟨aa, n, ac, rfl, hal, ham⟩ := ha.lenOf
    have hb := inB_le ok.states
    have hlen := ok.len
    obtain ⟨fb, foff, rfl, hx⟩ := hf.some (by omega)
    exact print_some f fb foff fn fc aa n ac w hx ha hc ht (inB_in64 ok.states ⟨by decide, by decide⟩ ⟨by decide, by decide⟩) (inB_in64 ok.start in64_z ⟨by omega, by omega⟩) (fun x hx => (finB_out (ok.fin x hx)).2) (fun a h => arcOk_in64 (ok.arcs a h) hb.1 hb.2) (by omega) (by have := ok.many; omega) hal
  · rw [if_neg hc]
    exact print_bad f fin arcs w hf ha (by simpa using hc)

end Go.Proofs.YteehgcbjmdideaaGreatDoor

/- 'number' and 'numbers' of package fst. -/
namespace Go.Proofs.YteehgcbjmdideaaGreatDoor
open Go.RowKit
attribute [local go_sem ↓] Go.wp_at_zero Go.wp_at_succ

def listOf (s : ByteArray) : List UInt8 := s.data.toList

theorem listOf_len (s : ByteArray) : (listOf s).length = s.size := Array.length_toList
theorem listOf_take (s : ByteArray) (k : Nat) (h : k < s.size) : (listOf s).take (k + 1) = (listOf s).take k ++ [s[k]] := by
  unfold listOf; rw [List.take_succ_eq_append_getElem (by simpa using h)]; rfl
theorem listOf_get (s : ByteArray) (k : Nat) (h : k < s.size) : (listOf s)[k]? = some s[k] := by
  unfold listOf; rw [Array.getElem?_toList]; exact Array.getElem?_eq_getElem h

def numV (l : List UInt8) : Value := match numB l with | some n => .tuple #[.int .i64 n, .bool true] | none => .tuple #[.int .i64 0, .bool false]

theorem numB_none {l : List UInt8} (h : formB l = false) : numV l = .tuple #[.int .i64 0, .bool false] := by simp [numV, numB, h]
theorem numB_some {l : List UInt8} (h : formB l = true) : numV l = .tuple #[.int .i64 (valB l), .bool true] := by simp [numV, numB, h]

theorem form_head (s : ByteArray) (h1 : 1 ≤ s.size) (h2 : s.size ≤ 10) (h3 : s.size ≤ 1 ∨ ∃ h : 0 < s.size, s[0].toNat ≠ 48) : formB (listOf s) = (listOf s).all digB := by
  unfold formB
  have hl := listOf_len s
  have e1 : decide ((listOf s).length < 1) = false := decide_eq_false (by omega)
  have e2 : decide (10 < (listOf s).length) = false := decide_eq_false (by omega)
  rw [e1, e2]
  rcases h3 with h | ⟨h, hne⟩
  · have e3 : decide (1 < (listOf s).length) = false := decide_eq_false (by omega)
    rw [e3]; simp
  · have : (listOf s).getD 0 0 = s[0] := by rw [List.getD, listOf_get s 0 h]; rfl
    have e4 : decide ((listOf s).getD 0 0 = 48) = false := by
      rw [this]; simp; intro hh; apply hne; rw [hh]; rfl
    rw [e4]; simp

theorem form_zero (s : ByteArray) (h1 : 1 < s.size) (h : s[0].toNat = 48) : formB (listOf s) = false := by
  unfold formB
  have hl := listOf_len s
  have e3 : decide (1 < (listOf s).length) = true := decide_eq_true (by omega)
  have : (listOf s).getD 0 0 = s[0] := by rw [List.getD, listOf_get s 0 (by omega)]; rfl
  have e4 : decide ((listOf s).getD 0 0 = 48) = true := by
    rw [this]; simp; exact UInt8.toNat_inj.1 h
  rw [e3, e4]; simp

theorem form_size (s : ByteArray) (h : s.size < 1 ∨ 10 < s.size) : formB (listOf s) = false := by
  unfold formB
  have hl := listOf_len s
  rcases h with h | h
  · have e1 : decide ((listOf s).length < 1) = true := decide_eq_true (by omega)
    rw [e1]; simp
  · have e2 : decide (10 < (listOf s).length) = true := decide_eq_true (by omega)
    rw [e2]; simp

theorem ret_val {a b : Value} (h : a = b) : Ending.returned a = .returned b := by rw [h]

theorem number_head (s : ByteArray) (w : World) (h1 : 1 ≤ s.size) (h2 : s.size ≤ 10) (h3 : s.size ≤ 1 ∨ ∃ h : 0 < s.size, s[0].toNat ≠ 48) :
    Calls Tryz.prog 81 #[.string s] w fun e w' => e = .returned (numV (listOf s)) ∧ w = w' := by
  have hform := form_head s h1 h2 h3
  have HFO : Hid (formB (listOf s) = (listOf s).all digB) := hform
  have hl := listOf_len s
  have h1i : (1 : Int) ≤ (s.size : Int) := by omega
  have h2i : (s.size : Int) ≤ 10 := by omega
  have key : (∀ h : 0 < s.size, 1 < s.size → ((s[0].toNat : Int) == 48) = false) := by
    intro h h'
    rcases h3 with h3 | ⟨_, hne⟩
    · omega
    · rw [beq_eq_false_iff_ne]; omega
  clear hform h3
  by_cases hone : 1 < s.size
  all_goals
    first | (have hone' : (1 : Int) < (s.size : Int) := by omega) | (have hone' : (s.size : Int) ≤ 1 := by omega)
    first | (have hz := key (by omega) hone) | skip
    clear key
    go_enter Tryz.func81, Tryz.ntmps81
    go_wp2
    go_loop [4, 26] (fun n i => ∃ k : Nat, k ≤ s.size ∧ i = .int .i64 k ∧ (∀ c ∈ (listOf s).take k, digB c = true) ∧ n = .int .i64 (valB ((listOf s).take k))) (fun _ i => s.size - (intOf i).toNat)
    case atStart => exact ⟨0, Nat.zero_le _, rfl, by simp, rfl⟩
    case round =>
      obtain ⟨k, hk, rfl, hall, rfl⟩ := hrel
      have hbd := valB_lt _ hall (by rw [List.length_take]; omega)
      have HA : Hid (∀ c ∈ (listOf s).take k, digB c = true) := hall
      clear hall
      obtain ⟨v, hv⟩ : ∃ v, v = valB ((listOf s).take k) := ⟨_, rfl⟩
      rw [← hv] at hbd ⊢
      have HV : Hid (v = valB ((listOf s).take k)) := hv
      clear hv
      by_cases hlt : k < s.size
      · have hts := listOf_take s k hlt
        have HT : Hid ((listOf s).take (k + 1) = (listOf s).take k ++ [s[k]]) := hts
        have hgt : s[k].toNat < 256 := UInt8.toNat_lt _
        clear hts
        by_cases hd : 48 ≤ s[k].toNat ∧ s[k].toNat ≤ 57
        · obtain ⟨d1, d2⟩ := hd
          have d1i : (48 : Int) ≤ (s[k].toNat : Int) := by omega
          have d2i : (s[k].toNat : Int) ≤ 57 := by omega
          go_wp2
          go_round
          case rel =>
            refine ⟨k + 1, by omega, by go_num, ?_, ?_⟩
            · intro c hc
              rw [HT.out] at hc
              rcases List.mem_append.1 hc with hc | hc
              · exact HA.out c hc
              · simp at hc; subst hc; simp [digB, d1, d2]
            · rw [HT.out, valB_snoc, ← HV.out]
          case measure => simp [intOf]; omega
        · have hf : formB (listOf s) = false := by
            rw [HFO.out, List.all_eq_false]
            refine ⟨s[k], List.mem_of_getElem? (listOf_get s k hlt), ?_⟩
            simp [digB]; omega
          have HN : Hid (numV (listOf s) = .tuple #[.int .i64 0, .bool false]) := numB_none hf
          clear hf
          by_cases d1 : (s[k].toNat : Int) < 48
          · go_wp2
            go_ret2
            exact ⟨ret_val HN.out.symm, rfl⟩
          · have d1' : (48 : Int) ≤ (s[k].toNat : Int) := by omega
            have d2 : (57 : Int) < (s[k].toNat : Int) := by omega
            go_wp2
            go_ret2
            exact ⟨ret_val HN.out.symm, rfl⟩
      · have htk : (listOf s).take k = listOf s := List.take_of_length_le (by omega)
        have HN : Hid (numV (listOf s) = .tuple #[.int .i64 v, .bool true]) := by
          have := numB_some (l := listOf s) (by rw [HFO.out, List.all_eq_true]; intro c hc; exact HA.out c (by rw [htk]; exact hc))
          rw [HV.out, htk]; exact this
        clear htk
        go_wp2
        go_ret2
        exact ⟨ret_val HN.out.symm, rfl⟩

theorem number_any (s : ByteArray) (w : World) (hs : s.size ≤ maxLen) :
    Calls Tryz.prog 81 #[.string s] w fun e w' => e = .returned (numV (listOf s)) ∧ w = w' := by
  unfold maxLen at hs
  by_cases h : s.size < 1 ∨ 10 < s.size
  · have HN : Hid (numV (listOf s) = .tuple #[.int .i64 0, .bool false]) := numB_none (form_size s h)
    rcases h with h | h
    · have hi : (s.size : Int) < 1 := by omega
      go_enter Tryz.func81, Tryz.ntmps81
      go_wp2
      go_ret2
      exact ⟨ret_val HN.out.symm, rfl⟩
    · have hi : (10 : Int) < (s.size : Int) := by omega
      go_enter Tryz.func81, Tryz.ntmps81
      go_wp2
      go_ret2
      exact ⟨ret_val HN.out.symm, rfl⟩
  · by_cases hz : ∃ h : 1 < s.size, s[0].toNat = 48
    · obtain ⟨h1, h0⟩ := hz
      have HN : Hid (numV (listOf s) = .tuple #[.int .i64 0, .bool false]) := numB_none (form_zero s h1 h0)
      have a1 : (1 : Int) ≤ (s.size : Int) := by omega
      have a2 : (s.size : Int) ≤ 10 := by omega
      have a3 : (1 : Int) < (s.size : Int) := by omega
      have a4 : ((s[0].toNat : Int) == 48) = true := by rw [h0]; rfl
      clear h0
      go_enter Tryz.func81, Tryz.ntmps81
      go_wp2
      go_ret2
      exact ⟨ret_val HN.out.symm, rfl⟩
    · refine number_head s w (by omega) (by omega) ?_
      by_cases h1 : 1 < s.size
      · exact Or.inr ⟨by omega, fun h0 => hz ⟨h1, h0⟩⟩
      · exact Or.inl (by omega)

end Go.Proofs.YteehgcbjmdideaaGreatDoor

/- 'numbers' of package fst. -/
namespace Go.Proofs.YteehgcbjmdideaaGreatDoor
open Go.RowKit
attribute [local go_sem ↓] Go.wp_at_zero Go.wp_at_succ

theorem Tryz.info3 : (Tryz.prog.info? 3).map (fun i => (i.zero, i.size, i.bytes)) = some (some (.int .i64 0), 1, 8) := by kernel_rfl

/-- a slice of strings: what it holds -/
structure StrsAt (w : World) (b off n : Nat) (ss : List ByteArray) : Prop where
  len : ss.length = n
  cell : ∀ i, i < n → w.cell? ⟨b, off + i, none⟩ = some (.string (ss.getD i ByteArray.empty))
  size : ∀ s ∈ ss, s.size ≤ maxLen

theorem StrsAt.below {w w' : World} {b off n : Nat} {ss : List ByteArray} (h : StrsAt w b off n ss) (hb : Below w.heap.size w w') : StrsAt w' b off n ss :=
  ⟨h.len, fun i hi => bel_c hb (h.cell i hi), h.size⟩

def numsB (l : List (List UInt8)) : Option (List Int) := l.mapM numB

theorem numsB_snoc_some (l : List (List UInt8)) (x : List UInt8) (ns : List Int) (n : Int) (h : numsB l = some ns) (hx : numB x = some n) : numsB (l ++ [x]) = some (ns ++ [n]) := by
  unfold numsB at *
  simp [List.mapM_append, h, hx]

theorem numsB_none (l : List (List UInt8)) (x : List UInt8) (hx : x ∈ l) (h : numB x = none) : numsB l = none := by
  unfold numsB
  induction l with
  | nil => cases hx
  | cons y l ih =>
    rw [List.mapM_cons]
    rcases List.mem_cons.1 hx with rfl | hx
    · simp [h]
    · cases numB y with
      | none => simp
      | some n => simp [ih hx]

theorem numsB_length (l : List (List UInt8)) (ns : List Int) (h : numsB l = some ns) : ns.length = l.length := by
  unfold numsB at h
  induction l generalizing ns with
  | nil => simp at h; simp [h]
  | cons y l ih =>
    rw [List.mapM_cons] at h
    cases hy : numB y with
    | none => simp [hy] at h
    | some n =>
      cases hl : l.mapM numB with
      | none => simp [hy, hl] at h
      | some ms => simp [hy, hl] at h; subst h; simp [ih ms hl]

theorem ownsRow_base {w : World} {B e size n : Nat} {v : Value} {xs : List Value} (h : w.ownsRow B e size v n xs) : ∀ g, v.ownBlock = some g → B ≤ g := by
  intro g hg
  obtain ⟨_, h⟩ := h
  rcases h with ⟨rfl, _⟩ | ⟨g', cap, cur, rfl, hB, _⟩
  · simp [Value.ownBlock] at hg
  · simp [Value.ownBlock] at hg; omega

theorem ownsRow_ints {w : World} {B g : Nat} {v : Value} {xs : List Int} (h : w.ownsRow B g 1 v xs.length (xs.map (Value.int .i64))) : ISlice w v xs := by
  obtain ⟨_, h⟩ := h
  rcases h with ⟨rfl, h⟩ | ⟨g, cap, cur, rfl, _, hh, h1, h2, h3, h4⟩
  · exact Or.inl ⟨none, 0, rfl, List.length_eq_zero_iff.1 h⟩
  · refine Or.inr ⟨g, 0, xs.length, cap, rfl, ⟨rfl, fun i hi => ?_⟩, by omega⟩
    have : (cur.toList.take (xs.length * 1))[i]? = some (.int .i64 (xs.getD i 0)) := by
      rw [h4]; simp [List.getD, hi]
    rw [List.getElem?_take] at this
    simp only [Nat.mul_one, hi, if_true, Array.getElem?_toList] at this
    simp [World.cell?, hh, this]

def fieldsOf (ss : List ByteArray) : List (List UInt8) := ss.map listOf

/-- what 'numbers' answers -/
def NumsRes (B : Nat) (ls : List (List UInt8)) (v : Value) (b : Bool) (w : World) : Prop := match numsB ls with | some ns => b = true ∧ ISlice w v ns ∧ (∀ g, v.ownBlock = some g → B ≤ g) | none => b = false ∧ v = .slice none 0 0

theorem NumsRes.some {B : Nat} {ls : List (List UInt8)} {v : Value} {w : World} {ns : List Int} (h : numsB ls = .some ns) (hv : ISlice w v ns) (hg : ∀ g, v.ownBlock = .some g → B ≤ g) : NumsRes B ls v true w := by unfold NumsRes; rw [h]; exact ⟨rfl, hv, hg⟩
theorem NumsRes.none {B : Nat} {ls : List (List UInt8)} {w : World} (h : numsB ls = .none) : NumsRes B ls (.slice .none 0 0) false w := by unfold NumsRes; rw [h]; exact ⟨rfl, rfl⟩

set_option maxHeartbeats 1000000 in
set_option maxRecDepth 1000000 in
theorem numbers_any (b off n cap : Nat) (ss : List ByteArray) (w : World) (hx : StrsAt w b off n ss) (hn : n ≤ 1000000) :
    Calls Tryz.prog 66 #[.slice (some ⟨b, off, none⟩) n cap] w fun e w' =>
      (∃ v b, e = .returned (.tuple #[v, .bool b]) ∧ NumsRes w.heap.size (fieldsOf ss) v b w') ∧ Below w.heap.size w w' := by
  obtain ⟨i0, hi, hz0, hz1, hz2⟩ := info_parts Tryz.info3
  have hlen := hx.len
  go_enter Tryz.func66, Tryz.ntmps66
  go_wp2
  go_loopw [4, 11] (fun v i wr => ∃ (k : Nat) (ns : List Int), k ≤ n ∧ i = .int .i64 k ∧ numsB ((fieldsOf ss).take k) = some ns ∧ wr.ownsRow w.heap.size 3 1 v ns.length (ns.map (Value.int .i64)) ∧ Below w.heap.size w wr) (fun _ i _ => n - (intOf i).toNat)
  case atStart => exact ⟨0, [], Nat.zero_le _, rfl, rfl, World.ownsRow_nil _ _ _ _, bel_self _⟩
  case round =>
    obtain ⟨k, ns, hk, rfl, hns, hown, hb⟩ := hrel
    have HN : Hid (numsB ((fieldsOf ss).take k) = some ns) := hns
    have hnl : ns.length = k := by rw [numsB_length _ _ hns]; simp [fieldsOf]; omega
    clear hns
    by_cases hlt : k < n
    · have c0 := (hx.below hb).cell k hlt
      obtain ⟨s, hsk⟩ : ∃ s, s = ss.getD k ByteArray.empty := ⟨_, rfl⟩
      rw [← hsk] at c0
      have hmem : s ∈ ss := by rw [hsk]; simp [List.getD, show k < ss.length by omega]
      have hsz := hx.size s hmem
      have HT : Hid ((fieldsOf ss).take (k + 1) = (fieldsOf ss).take k ++ [listOf s]) := by
        show (fieldsOf ss).take (k + 1) = (fieldsOf ss).take k ++ [listOf s]
        rw [List.take_succ_eq_append_getElem (by simp [fieldsOf]; omega)]
        simp [fieldsOf, hsk, List.getD, show k < ss.length by omega]
      have HM : Hid (listOf s ∈ fieldsOf ss) := List.mem_map_of_mem hmem
      clear hsk hmem
      cases hnb : numB (listOf s) with
      | none =>
        have hv : numV (listOf s) = .tuple #[.int .i64 0, .bool false] := by simp [numV, hnb]
        have HNN : Hid (numsB (fieldsOf ss) = none) := numsB_none _ _ HM.out hnb
        have hcall := number_any s wr hsz
        rw [hv] at hcall
        clear hnb hv
        go_wp2_with (go_at_call 81; refine hcall.mono ?_; rintro e w' ⟨rfl, rfl⟩)
        go_ret2
        exact ⟨⟨_, _, rfl, NumsRes.none HNN.out⟩, hb⟩
      | some m =>
        have hv : numV (listOf s) = .tuple #[.int .i64 m, .bool true] := by simp [numV, hnb]
        have HNN : Hid (numsB ((fieldsOf ss).take (k + 1)) = some (ns ++ [m])) := by
          show numsB ((fieldsOf ss).take (k + 1)) = some (ns ++ [m])
          rw [HT.out]; exact numsB_snoc_some _ _ _ _ HN.out hnb
        have hcall := number_any s wr hsz
        rw [hv] at hcall
        clear hnb hv
        go_wp2_with (first | (at_builtin; refine wpList_append_own _ rfl _ _ 22 rfl w.heap.size 3 i0 (.int .i64 0) 1 8 Tryz.underlying22 hi hz0 hz1 hz2 rfl (by decide) _ _ _ rfl (hown.alloc _) ⟨wr.heap.size, 0, none⟩ 1 1 [.int .i64 m] rfl rfl ?c1 ?c2 ?c3 ?c4 ?c5 ?_) | (go_at_call 81; refine hcall.mono ?_; rintro e w' ⟨rfl, rfl⟩))
        case c1 =>
          intro j u hj
          match j, hj with
          | 0, hj => simp at hj; subst hj; simp [Addr.add]
        case c2 => intro u hu; simp at hu; subst hu; rfl
        case c3 => unfold maxLen; omega
        case c4 => omega
        case c5 => have := hb.size; simp; omega
        intro v' w1 hown' hgrow _
        have hb1 : Below w.heap.size w w1 := (bel_up hb _).grown hgrow (by have := hb.size; simp; omega) (ownsRow_base hown)
        clear hgrow hown hb
        go_wp2
        go_roundw
        case rel => exact ⟨k + 1, ns ++ [m], by omega, by go_num, HNN.out, by simpa [hnl] using hown', hb1⟩
        case measure => simp [intOf]; omega
    · go_wp2
      go_ret2
      have hkn : (fieldsOf ss).take k = fieldsOf ss := List.take_of_length_le (by simp [fieldsOf]; omega)
      exact ⟨⟨_, _, rfl, NumsRes.some (hkn ▸ HN.out) (ownsRow_ints hown) (ownsRow_base hown)⟩, hb⟩

theorem numbers_some (b off n cap : Nat) (ss : List ByteArray) (ns : List Int) (w : World) (hx : StrsAt w b off n ss) (hn : n ≤ 1000000) (h : numsB (fieldsOf ss) = some ns) (h0 : 0 < n) :
    Calls Tryz.prog 66 #[.slice (some ⟨b, off, none⟩) n cap] w fun e w' =>
      ∃ g o c, e = .returned (.tuple #[.slice (some ⟨g, o, none⟩) n c, .bool true]) ∧ IntsAt w' g o n ns ∧ Below w.heap.size w w' ∧ w.heap.size ≤ g := by
  refine (numbers_any b off n cap ss w hx hn).mono ?_
  rintro e w' ⟨⟨v, q, rfl, hres⟩, hb⟩
  unfold NumsRes at hres
  rw [h] at hres
  obtain ⟨rfl, hi, hg⟩ := hres
  have hl : ns.length = n := by rw [numsB_length _ _ h]; simpa [fieldsOf] using hx.len
  rcases hi with ⟨_, _, rfl, rfl⟩ | ⟨g, o, m, c, rfl, hi, _⟩
  · simp at hl; omega
  · have : m = n := by rw [← hi.len, hl]
    subst this
    exact ⟨g, o, c, rfl, hi, hb, hg g rfl⟩

theorem numbers_none (b off n cap : Nat) (ss : List ByteArray) (w : World) (hx : StrsAt w b off n ss) (hn : n ≤ 1000000) (h : numsB (fieldsOf ss) = none) :
    Calls Tryz.prog 66 #[.slice (some ⟨b, off, none⟩) n cap] w fun e w' =>
      e = .returned (.tuple #[.slice none 0 0, .bool false]) ∧ Below w.heap.size w w' := by
  refine (numbers_any b off n cap ss w hx hn).mono ?_
  rintro e w' ⟨⟨v, q, rfl, hres⟩, hb⟩
  unfold NumsRes at hres
  rw [h] at hres
  obtain ⟨rfl, rfl⟩ := hres
  exact ⟨rfl, hb⟩

end Go.Proofs.YteehgcbjmdideaaGreatDoor

/- The library's slices.Repeat of one number. -/
namespace Go.Proofs.YteehgcbjmdideaaGreatDoor
open Go.RowKit
attribute [local go_sem ↓] Go.wp_at_zero Go.wp_at_succ

def rowR (x : Int) (m c : Nat) : List Value := List.replicate m (Value.int .i64 x) ++ List.replicate (c - m) (Value.int .i64 0)

theorem rowR_len (x : Int) (m c : Nat) (h : m ≤ c) : (rowR x m c).length = c := by simp [rowR]; omega
theorem rowR_made (x : Int) (c : Nat) : (rowR x 0 c).toArray = madeCells #[.int .i64 0] c := by
  unfold rowR madeCells
  apply Array.ext
  · simp
  · intro i h1 h2
    simp [Nat.mod_one]

theorem rowR_splice (x : Int) (m j c : Nat) (_h : m + j ≤ c) : splice (rowR x m c) m (List.replicate j (Value.int .i64 x)) = rowR x (m + j) c := by
  unfold splice rowR
  rw [List.take_left' (by simp), List.length_replicate, List.drop_append]
  rw [List.drop_of_length_le (by simp), List.nil_append, List.length_replicate, List.drop_replicate, ← List.append_assoc, List.replicate_append_replicate]
  congr 2
  omega

theorem rowR_get (x : Int) (m c i : Nat) (h : i < m) : (rowR x m c)[i]? = some (.int .i64 x) := by
  unfold rowR
  rw [List.getElem?_append_left (by simpa using h)]
  simp [h]

theorem min_fit (m c : Nat) (h : m ≤ c) : m + Nat.min m (c - m) ≤ c := by have := Nat.min_le_right m (c - m); show m + min m (c - m) ≤ c; omega
theorem one_rep (n : Nat) (x : Int) : ∀ v ∈ List.replicate n (Value.int .i64 x), v.oneCell' = true := by intro v hv; rw [List.eq_of_mem_replicate hv]; rfl
theorem hsrc (x : Int) (m c g : Nat) (w : World) (hg : Hid (w.heap[g]? = some (.cells (rowR x m c).toArray 3 (0, 0)))) (_hlt : m < c) (_hm : 1 ≤ m) : 0 < (List.replicate (Nat.min m (c - m)) (Value.int .i64 x)).length → (some (⟨g, m, none⟩ : Addr) = some ⟨g, m, none⟩ ∧ ∃ ad, some (⟨g, 0, none⟩ : Addr) = some ad ∧ ∀ j v, (List.replicate (Nat.min m (c - m)) (Value.int .i64 x))[j]? = some v → w.cell? (ad.add j) = some v) := by
  intro _
  refine ⟨rfl, _, rfl, fun j v hj => ?_⟩
  rw [List.getElem?_replicate] at hj
  split at hj
  · rename_i hjm
    have hjm' : j < m := Nat.lt_of_lt_of_le hjm (Nat.min_le_left _ _)
    injection hj with hj
    subst hj
    have hgg := hg.out
    have hr := rowR_get x m c j hjm'
    by_cases h0 : j = 0
    · subst h0; simp [Addr.add, World.cell?, hgg, hr]
    · simp [Addr.add, h0, World.cell?, hgg, hr]
  · cases hj

set_option maxHeartbeats 1000000 in
set_option maxRecDepth 1000000 in
theorem repeat_any (x : Int) (b off cap c : Nat) (w : World) (hx : w.cell? ⟨b, off, none⟩ = some (.int .i64 x)) (h1 : 1 ≤ c) (h2 : c ≤ 200) :
    Calls Tryz.prog 67 #[.slice (some ⟨b, off, none⟩) 1 cap, .int .i64 c] w fun e w' =>
      e = .returned (.slice (some ⟨w.heap.size, 0, none⟩) c c) ∧ w'.heap[w.heap.size]? = some (.cells (rowR x c c).toArray 3 (0, 0)) ∧ Below w.heap.size w w' := by
  have hmk := run_make_row' (P := Tryz.prog) 22 3 (.int .i64 0) 8 Tryz.underlying22 Tryz.info3 rfl .i64 .i64 c (by omega) (by omega)
  have hmul := Tryz.bits_Mul 1 c (by omega) (by omega) w
  have e1 : (1 * c / 18446744073709551616 : Nat) = 0 := by omega
  have e2 : (1 * c % 18446744073709551616 : Nat) = c := by omega
  rw [e1, e2] at hmul
  clear e1 e2
  have hbl := cell_lt hx
  go_enter Tryz.func67, Tryz.ntmps67
  have hz3 : (Tryz.prog.info? 3).map (·.size) = some 1 := by kernel_rfl
  have hg0 : (w.alloc (.cells (madeCells #[.int .i64 0] c) 3)).heap[w.heap.size]? = some (.cells (rowR x 0 c).toArray 3 (0, 0)) := by rw [rowR_made]; exact heap_alloc_new w _
  have hx0 : (w.alloc (.cells (madeCells #[.int .i64 0] c) 3)).cell? ⟨b, off, none⟩ = some (.int .i64 x) := old_cell hx
  have hcp : (Builtin.copy_ #[22, 22] 3 #[.slice (some ⟨w.heap.size, 0, none⟩) c c, .slice (some ⟨b, off, none⟩) 1 cap]).run Tryz.prog (w.alloc (.cells (madeCells #[.int .i64 0] c) 3)) = .ok (.int .i64 1) ((w.alloc (.cells (madeCells #[.int .i64 0] c) 3)).setRow w.heap.size (rowR x 1 c).toArray) := by
    have h := run_copy_row (P := Tryz.prog) (w.alloc (.cells (madeCells #[.int .i64 0] c) 3)) 22 22 3 3 w.heap.size 0 c c ⟨b, off, none⟩ 1 cap (rowR x 0 c).toArray 3 [.int .i64 x] Tryz.underlying22 hz3 hg0 (Nat.min_eq_left h1).symm
      (by intro j v hj
          match j, hj with
          | 0, hj => simp at hj; subst hj; simpa [Addr.add] using hx0)
      (by simp [rowR_len]; omega) (by intro v hv; simp at hv; subst hv; rfl)
    have e := rowR_splice x 0 1 c (by omega)
    unfold splice at e
    rw [← List.append_assoc] at e
    simp only [Nat.zero_add] at e h ⊢
    rw [h]
    simp only [List.length_singleton] at e ⊢
    rw [show ([Value.int .i64 x] : List Value) = List.replicate 1 (Value.int .i64 x) from rfl]
    simp only [List.length_replicate] at e
    rw [e]; rfl
  obtain ⟨w1, hw1⟩ : ∃ w1, w1 = (w.alloc (.cells (madeCells #[.int .i64 0] c) 3)).setRow w.heap.size (rowR x 1 c).toArray := ⟨_, rfl⟩
  have hg1 : Hid (w1.heap[w.heap.size]? = some (.cells (rowR x 1 c).toArray 3 (0, 0))) := by
    show w1.heap[w.heap.size]? = _
    rw [hw1]; exact setRow_heap _ _ _ _ _ _ hg0
  have hb1 : Below w.heap.size w w1 := by rw [hw1]; exact below_setRow (bel_up (bel_self w) _) (Nat.le_refl _) _
  rw [← hw1] at hcp
  clear hw1
  clear hg0 hx0 hx
  go_wp2_with (go_at_call 82; refine hmul.mono ?_; rintro e w' ⟨rfl, hw⟩; obtain rfl := hw.symm)
  go_loopw [8] (fun i wr => ∃ m : Nat, 1 ≤ m ∧ m ≤ c ∧ i = .int .i64 m ∧ Hid (wr.heap[w.heap.size]? = some (.cells (rowR x m c).toArray 3 (0, 0))) ∧ Below w.heap.size w wr) (fun i _ => c - (intOf i).toNat)
  case atStart => exact ⟨1, by omega, h1, rfl, hg1, hb1⟩
  case round =>
    clear hcp hg1 hb1
    obtain ⟨m, hm1, hm2, rfl, hg, hb⟩ := hrel
    by_cases hlt : m < c
    · have hne : ¬ c = m := by omega
      obtain ⟨j, hj⟩ : ∃ j, j = Nat.min m (c - m) := ⟨_, rfl⟩
      have hj1 : 1 ≤ j := by rw [hj]; show 1 ≤ min m (c - m); omega
      have hj2 : m + j ≤ c := by rw [hj]; exact min_fit m c hm2
      obtain ⟨w2, hw2⟩ : ∃ w2, w2 = wr.drew.setRow w.heap.size (rowR x (m + j) c).toArray := ⟨_, rfl⟩
      have hcp : (Builtin.copy_ #[22, 22] 3 #[.slice (some ⟨w.heap.size, m, none⟩) (c - m) (c - m), .slice (some ⟨w.heap.size, 0, none⟩) m c]).run Tryz.prog wr.drew = .ok (.int .i64 j) w2 := by
        have h := run_copy_row (P := Tryz.prog) wr.drew 22 22 3 3 w.heap.size m (c - m) (c - m) ⟨w.heap.size, 0, none⟩ m c (rowR x m c).toArray 3 (List.replicate j (.int .i64 x)) Tryz.underlying22 hz3 hg.out (by rw [List.length_replicate]; exact hj)
          (((hsrc x m c w.heap.size wr.drew hg hlt hm1) (by rw [← hj, List.length_replicate]; omega)).2.elim fun ad h => by have e := h.1; injection e with e; subst e; rw [hj]; exact h.2)
          (by simp [rowR_len _ _ _ hm2]; omega) (one_rep _ _)
        have e := rowR_splice x m j c hj2
        unfold splice at e
        rw [← List.append_assoc] at e
        rw [h, hw2]
        simp only [List.length_replicate] at e ⊢
        rw [e]; rfl
      have hg2 : Hid (w2.heap[w.heap.size]? = some (.cells (rowR x (m + j) c).toArray 3 (0, 0))) := by
        show w2.heap[w.heap.size]? = _
        rw [hw2]; exact setRow_heap _ _ _ _ _ _ hg.out
      have hb2 : Below w.heap.size w w2 := by rw [hw2]; exact below_setRow hb.drew (Nat.le_refl _) _
      clear hw2 hj
      go_wp2
      go_region
      go_wp2
      go_roundw
      case rel => exact ⟨m + j, by omega, hj2, by go_num, hg2, hb2⟩
      case measure => simp [intOf]; omega
    · have hmc : m = c := by omega
      subst hmc
      go_wp2
      go_ret
      exact ⟨rfl, hg.out, hb⟩

end Go.Proofs.YteehgcbjmdideaaGreatDoor
