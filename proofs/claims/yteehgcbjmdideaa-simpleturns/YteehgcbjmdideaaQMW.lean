/- 'ends' of package simple: a loop over the ends of a transducer. -/
import Derived.Test.YteehgcbjmdideaaQMV
import Derived.RangeFuncNested
import Derived.RangeFuncBound
import Derived.RangeFuncCalls
import Derived.RangeFuncLeaves
import Derived.Shelf.Abstract
import Derived.Shelf.RegionOpen
import Derived.WalkKit
import Derived.OwnWalkIn
import Derived.TacticsInMore
import Derived.LoopNIn
import Derived.LoopIn
namespace Go.Proofs.Yteehgcbjmdideaa
open Go.RowKit Go.Shelf
attribute [local go_sem] Oper.semAt_some

/-- the ends among the first k states, and what they cost -/
def endsU (xs : List Int) : Nat → List (Nat × Int)
  | 0 => []
  | k + 1 => endsU xs k ++ if xs.getD k 0 = -1 then [] else [(k, xs.getD k 0)]
theorem endsU_skip {xs : List Int} {k : Nat} (h : xs.getD k 0 = -1) : endsU xs (k + 1) = endsU xs k := by
  show _ ++ _ = _
  rw [if_pos h, List.append_nil]
theorem endsU_keep {xs : List Int} {k : Nat} {c : Int} (hc : xs.getD k 0 = c) (h : c ≠ -1) : endsU xs (k + 1) = endsU xs k ++ [(k, c)] := by
  show _ ++ _ = _
  rw [hc, if_neg h]
theorem endsU_len (xs : List Int) (k : Nat) : (endsU xs k).length ≤ k := by
  induction k with
  | zero => exact Nat.le_refl _
  | succ k ih =>
    unfold endsU
    rw [List.length_append]
    split
    · simp; omega
    · simp; omega

set_option maxRecDepth 100000 in
set_option maxHeartbeats 2000000 in
theorem ends_in (F : Fence) (n : Nat) (hFn : F.fn 140) (hro : F.round = none) (hn : 1 ≤ n) (l Bx fb fo N fc : Nat) (hN : N ≤ 200) (xs : List Int) (J Jx : List { x : Nat × Int // x.1 < N } → World → Prop)
    (hY : ∀ pre x W, J pre W → pre.length < N → YieldAt F (n - 1) Try.prog l #[.int .i64 (x.1.1 : Int), .int .i64 x.1.2] W fun e W' =>
      (e = .returned (.bool true) ∧ J (pre ++ [x]) W' ∧ W'.heap[fb]? = W.heap[fb]?) ∨ (e = .returned (.bool false) ∧ Jx (pre ++ [x]) W'))
    (W : World) (hBx : W.cell? ⟨Bx, 2, none⟩ = some (.slice (some ⟨fb, fo, none⟩) N fc)) (hx : IntsAt W fb fo N xs) (h0 : J [] W) :
    CallsIn F n Try.prog 140 #[.func (.yield l) #[] #[], .pointer (some ⟨Bx, 0, none⟩)] W fun e W' => (∃ v, e = .returned v) ∧
      ((∃ ys, ys.map Subtype.val = endsU xs N ∧ J ys W') ∨ (∃ pre, True ∧ Jx pre W')) := by
  refine callsIn_of_wp Try.func140 rfl hFn ?_ hro
  simp only [Try.ntmps140, List.size_toArray, List.length_cons, List.length_nil, Nat.reduceAdd, Nat.reduceSub, Array.replicate_succ, Array.replicate_zero, List.push_toArray, List.append_toArray, List.nil_append, List.cons_append]
  gi_wp2
  gi_loopw [8] (fun i wr => ∃ (k : Nat) (pre : List { x : Nat × Int // x.1 < N }), k ≤ N ∧ i = .int .i64 k ∧ pre.map Subtype.val = endsU xs k ∧ J pre wr ∧ wr.heap[fb]? = W.heap[fb]?)
    (fun i _ => N - (intOf i).toNat)
  case atStart => exact ⟨0, [], Nat.zero_le _, rfl, rfl, h0, rfl⟩
  case round =>
    obtain ⟨k, pre, hk, rfl, hpre, hJs, hfb⟩ := hrel
    by_cases hlt : k < N
    · have hcx : wr.cell? ⟨fb, fo + k, none⟩ = some (.int .i64 (xs.getD k 0)) := (World.cell?_of_block (w := W) (a := ⟨fb, fo + k, none⟩) hfb).trans (hx.cell k hlt)
      obtain ⟨c, hc⟩ : ∃ c, xs.getD k 0 = c := ⟨_, rfl⟩
      rw [hc] at hcx
      have HC : Hid (xs.getD k 0 = c) := hc
      have HPRE : Hid (pre.map Subtype.val = endsU xs k) := hpre
      have hki : (k : Int) < N := by omega
      have hpl : pre.length < N := by
        have := endsU_len xs k
        rw [← hpre, List.length_map] at this
        omega
      clear hc hpre
      by_cases hce : c = -1
      · subst hce
        gi_wp2
        refine ⟨fun _ h => (by cases h), ?_⟩
        gi_wp2
        go_roundw
        case rel => exact ⟨k + 1, pre, by omega, by simp, by rw [endsU_skip HC.out]; exact HPRE.out, hJs, hfb⟩
        case measure => simp [intOf]; omega
      · have hcb : (c != -1) = true := by simpa using hce
        obtain ⟨fn, tmps, assign, body, hy, hR⟩ := hY pre ⟨(k, c), hlt⟩ wr hJs hpl
        dsimp only at hy
        gi_wp2
        refine hR.mono ?_
        rintro e W3 (⟨rfl, hJ3, hk3⟩ | ⟨rfl, hJx3⟩)
        · gi_wp2
          go_roundw
          case rel => exact ⟨k + 1, pre ++ [⟨(k, c), hlt⟩], by omega, by simp, by rw [endsU_keep HC.out hce, List.map_append, HPRE.out]; rfl, hJ3, hk3.trans hfb⟩
          case measure => simp [intOf]; omega
        · gi_wp2
          refine bodyPost_ret (results_none rfl _ _ _) rfl ?_
          exact ⟨⟨_, rfl⟩, .inr ⟨_, trivial, hJx3⟩⟩
    · obtain rfl : k = N := by omega
      gi_wp2
      go_end0
      exact ⟨⟨_, rfl⟩, .inl ⟨pre, hpre, hJs⟩⟩

theorem ends_stops (F : Fence) (n : Nat) (hFn : F.fn 140) (hro : F.round = none) (hn : 1 ≤ n) (Bx fb fo N fc : Nat) (hN : N ≤ 200) (xs : List Int) (w : World) (hBx : w.cell? ⟨Bx, 2, none⟩ = some (.slice (some ⟨fb, fo, none⟩) N fc)) (hx : IntsAt w fb fo N xs) :
    SeqStopsK F n Try.prog 140 #[.pointer (some ⟨Bx, 0, none⟩)] (fun x : { x : Nat × Int // x.1 < N } => #[.int .i64 (x.1.1 : Int), .int .i64 x.1.2]) (fun W W' => W'.heap[fb]? = W.heap[fb]?) (fun ys => ys.map Subtype.val = endsU xs N) (fun _ => True) N w :=
  fun l J Jx W hW _ _ hY h0 => ends_in F n hFn hro hn l Bx fb fo N fc hN xs J Jx hY W (bel_c hW hBx) (hx.below hW) h0

set_option maxHeartbeats 1000000 in
theorem ends_any (st sta : Int) (fa : Option Addr) (fn fc : Nat) (aa : Option Addr) (an ac : Nat) (w : World) :
    Calls Try.prog 104 #[.agg #[.int .i64 st, .int .i64 sta, .slice fa fn fc, .slice aa an ac]] w fun e w' => e = .returned (.func (.func 140) #[] #[.pointer (some ⟨w.heap.size, 0, none⟩)]) ∧ w' = w.alloc (.cells #[.int .i64 st, .int .i64 sta, .slice fa fn fc, .slice aa an ac] 25) := by
  go_enter Try.func104, Try.ntmps104
  go_wp2
  go_ret
  exact ⟨rfl, rfl⟩

/-- what 'goOn' makes of ends and arcs -/
def goX (xs : List Int) (pre : List (Nat × Int)) : List Int := pre.foldl (fun l x => l.set x.1 (-1)) xs
def goA (ars : List ArcD) (to : Int) (pre : List (Nat × Int)) : List ArcD := ars ++ pre.map fun x => ⟨x.1, 0, 0, to, x.2⟩
theorem goX_snoc (xs : List Int) (pre : List (Nat × Int)) (x : Nat × Int) : goX xs (pre ++ [x]) = (goX xs pre).set x.1 (-1) := by simp [goX]
theorem goX_len (xs : List Int) (pre : List (Nat × Int)) : (goX xs pre).length = xs.length := by
  unfold goX
  induction pre generalizing xs with
  | nil => rfl
  | cons x pre ih => rw [List.foldl_cons, ih, List.length_set]
theorem goA_snoc (ars : List ArcD) (to : Int) (pre : List (Nat × Int)) (x : Nat × Int) : goA ars to (pre ++ [x]) = goA ars to pre ++ [⟨x.1, 0, 0, to, x.2⟩] := by simp [goA]

theorem own_cells {w : World} {B e size n : Nat} {v : Value} {xs : List Value} (h : w.ownsRow B e size v n xs) : ∀ g, v.ownBlock = some g → ∃ o : Obj, w.heap[g]? = some o ∧ o.isCells = true := by
  intro g hg
  rcases h.2 with ⟨h1, _⟩ | ⟨g', cap, cur, he, _, hh, _⟩
  · rw [h1] at hg; simp [Value.ownBlock] at hg
  · rw [he] at hg
    have hg' : some g' = some g := hg
    injection hg' with hg'
    subst hg'
    exact ⟨_, hh, rfl⟩

/-- whatever turns that is no cells, the joint stays -/
theorem JW.kept {w w' : World} {P B : Nat} {st sta : Int} {fv av : Value} {xs : List Int} {ars : List ArcD} {row : Option Nat} (h : JW w P B st sta fv av xs ars) (hg : w.grownBy w' row) (hr : ∀ r, row = some r → ∃ o : Obj, w.heap[r]? = some o ∧ o.isCells = false) : JW w' P B st sta fv av xs ars := by
  have key : ∀ g, (∃ o : Obj, w.heap[g]? = some o ∧ o.isCells = true) → some g ≠ row := fun g ⟨o, ho, hc⟩ e => by
    obtain ⟨o', ho', hc'⟩ := hr g e.symm
    rw [ho] at ho'
    injection ho' with ho'
    subst ho'
    rw [hc] at hc'
    exact Bool.noConfusion hc'
  refine ⟨(hg.block P h.lt (key P ⟨_, h.box, rfl⟩)).trans h.box, h.fin.kept hg ?_, h.arc.kept hg ?_, h.hP, h.fP, h.aP, h.fa⟩
  · cases hf : fv.ownBlock with
    | none => exact Or.inl rfl
    | some g => exact Or.inr (key g (own_cells h.fin g hf))
  · cases hf : av.ownBlock with
    | none => exact Or.inl rfl
    | some g => exact Or.inr (key g (own_cells h.arc g hf))
theorem JS.kept {P D : Nat} {w w1 w2 : World} {fv av fv' av' : Value} {row : Option Nat} (h : JS P w w1 fv av fv' av') (hg : w1.grownBy w2 row) (hD : w.heap.size ≤ D) (hr : ∀ r, row = some r → D ≤ r) : JS P w w2 fv av fv' av' :=
  ⟨hg.os.trans h.os, hg.tape.trans h.tape, hg.output.trans h.output, Nat.le_trans h.size hg.size, fun b hb hP hf ha => (hg.block b (by have := h.size; omega) (fun e => by have := hr b e.symm; omega)).trans (h.block b hb hP hf ha), h.own⟩
theorem JS.others {P B : Nat} {w w' : World} {st sta : Int} {fv av fv' av' : Value} {xs : List Int} {ars : List ArcD} (h : JS P w w' fv av fv' av') (hJ : JW w P B st sta fv av xs ars) : KeepsOthers w w' := by
  refine ⟨h.size, fun k o hk ho => ?_⟩
  have key : ∀ g, (∃ o : Obj, w.heap[g]? = some o ∧ o.isCells = true) → k ≠ g := fun g ⟨o', ho', hc⟩ e => by
    subst e
    rw [hk] at ho'
    injection ho' with ho'
    subst ho'
    rw [hc] at ho
    exact Bool.noConfusion ho
  exact (h.block k (heap_lt hk) (key P ⟨_, hJ.box, rfl⟩) (fun e => key k (own_cells hJ.fin k e) rfl) (fun e => key k (own_cells hJ.arc k e) rfl)).trans hk

/-- an end is none any more -/
theorem JW.unend {w : World} {P B G n cap : Nat} {st sta : Int} {av : Value} {xs : List Int} {ars : List ArcD} (h : JW w P B st sta (.slice (some ⟨G, 0, none⟩) n cap) av xs ars) (i : Nat) (x : Int) : JW (w.setCell ⟨G, i, none⟩ (.int .i64 x)) P B st sta (.slice (some ⟨G, 0, none⟩) n cap) av (xs.set i x) ars := by
  have hGP : P ≠ G := fun e => h.fP (by rw [e]; rfl)
  refine ⟨heap_far h.box hGP, ?_, ownsRow_setCell_far h.arc (h.fa G rfl), h.hP, h.fP, h.aP, h.fa⟩
  have hf := h.fin
  refine ⟨by simp, ?_⟩
  rcases hf.2 with ⟨h1, _⟩ | ⟨g', cap', cur, he, hB, hh, h1, h2, h3, h4⟩
  · cases h1
  · cases he
    refine Or.inr ⟨G, cap, cur.setIfInBounds i (.int .i64 x), by rw [List.length_set], hB, Go.Joins.block_setCell hh _, by rw [List.length_set]; exact h1, h2, by simpa using h3, ?_⟩
    rw [Array.toList_setIfInBounds, List.take_set, List.length_set, h4, List.map_set]
theorem JS.unend {P G n cap i : Nat} {w : World} {av u : Value} : JS P w (w.setCell ⟨G, i, none⟩ u) (.slice (some ⟨G, 0, none⟩) n cap) av (.slice (some ⟨G, 0, none⟩) n cap) av :=
  ⟨rfl, rfl, rfl, by simp [World.setCell], fun b _ _ hf _ => Below.heap_setCell w ⟨G, i, none⟩ u b (fun e => hf (by rw [e]; rfl)), fun _ h => h.imp id Or.inl⟩
end Go.Proofs.Yteehgcbjmdideaa

/- 'goOn' of package simple. -/
namespace Go.Proofs.Yteehgcbjmdideaa
open Go.RowKit Go.Shelf
attribute [local go_sem] Oper.semAt_some

set_option maxRecDepth 100000 in
set_option maxHeartbeats 4000000 in
theorem goEnds_any (f : FstD) (P B : Nat) (st sta : Int) (fv av : Value) (xs : List Int) (ars : List ArcD) (fb fo N fc : Nat) (aa : Option Addr) (m ac : Nat) (to : Int) (w : World) (hJ : JW w P B st sta fv av xs ars)
    (hf : IntsAt w fb fo N f.final) (hfB : fb < B) (hN1 : 1 ≤ N) (hN : N ≤ 200) (hx : N ≤ xs.length) (hx2 : xs.length ≤ 1000) (har : ars.length ≤ 6000) :
    Calls Try.prog 72 #[.pointer (some ⟨P, 0, none⟩), .agg #[.int .i64 f.states, .int .i64 f.start, .slice (some ⟨fb, fo, none⟩) N fc, .slice aa m ac], .int .i64 to] w fun e w' =>
      e = .returned (.tuple #[]) ∧ ∃ fv' av', JW w' P B st sta fv' av' (goX xs (endsU f.final N)) (goA ars to (endsU f.final N)) ∧ JS P w w' fv av fv' av' := by
  obtain ⟨G, cap, rfl, hGB⟩ := own_some hJ.fin (fun e => by
    have h1 := hJ.fin
    rw [e] at h1
    rcases h1.2 with ⟨_, h2⟩ | ⟨_, _, _, h2, _⟩
    · omega
    · cases h2)
  have hlt := hJ.lt
  have hBw : B ≤ w.heap.size := by have := hJ.hP; omega
  obtain ⟨W0, hW0⟩ : ∃ W0, W0 = (((w.alloc (.cells #[.pointer (some ⟨P, 0, none⟩)] 80)).alloc (.cells #[.int .i64 f.states, .int .i64 f.start, .slice (some ⟨fb, fo, none⟩) N fc, .slice aa m ac] 25)).alloc (.cells #[.int .i64 to] 3)).alloc (.cells #[.int .i64 f.states, .int .i64 f.start, .slice (some ⟨fb, fo, none⟩) N fc, .slice aa m ac] 25) := ⟨_, rfl⟩
  have hb0 : Below w.heap.size w W0 := by rw [hW0]; exact bel_up (bel_up (two_up w _ _) _) _
  refine (callsIn_wide (n := 3)).1 ?_
  refine callsIn_of_wp_marks Try.func72 rfl trivial ?_ rfl
  simp only [Try.ntmps72, List.size_toArray, List.length_cons, List.length_nil, Nat.reduceAdd, Nat.reduceSub, Array.replicate_succ, Array.replicate_zero, List.push_toArray, List.append_toArray, List.nil_append, List.cons_append]
  gi_wp2_with (refine ⟨trivial, ?_⟩; gi_at_call 104; refine (callsIn_wide.2 (ends_any f.states f.start (some ⟨fb, fo, none⟩) N fc aa m ac _)).mono ?_; rintro e w' ⟨rfl, rfl⟩)
  rw [← hW0]
  have hbP : W0.heap[w.heap.size]? = some (.cells #[.pointer (some ⟨P, 0, none⟩)] 80 (0, 0)) := by
    rw [hW0]; exact heap_bel (bel_up (bel_up (bel_up (bel_self _) _) _) _) (heap_alloc_new w _)
  have hbT : W0.heap[w.heap.size + 1 + 1]? = some (.cells #[.int .i64 to] 3 (0, 0)) := by
    rw [hW0]
    have := heap_alloc_new ((w.alloc (.cells #[.pointer (some ⟨P, 0, none⟩)] 80)).alloc (.cells #[.int .i64 f.states, .int .i64 f.start, .slice (some ⟨fb, fo, none⟩) N fc, .slice aa m ac] 25)) (.cells #[.int .i64 to] 3)
    rw [one_size, one_size] at this
    exact heap_bel (bel_up (bel_self _) _) this
  have hbX : W0.heap[w.heap.size + 1 + 1 + 1]? = some (.cells #[.int .i64 f.states, .int .i64 f.start, .slice (some ⟨fb, fo, none⟩) N fc, .slice aa m ac] 25 (0, 0)) := by
    rw [hW0]
    have := heap_alloc_new (((w.alloc (.cells #[.pointer (some ⟨P, 0, none⟩)] 80)).alloc (.cells #[.int .i64 f.states, .int .i64 f.start, .slice (some ⟨fb, fo, none⟩) N fc, .slice aa m ac] 25)).alloc (.cells #[.int .i64 to] 3)) (.cells #[.int .i64 f.states, .int .i64 f.start, .slice (some ⟨fb, fo, none⟩) N fc, .slice aa m ac] 25)
    rw [one_size, one_size, one_size] at this
    exact this
  have hJ0 := hJ.below hb0
  have hsz0 : w.heap.size + 3 < W0.heap.size := heap_lt hbX
  have hrow : (∀ g, (Value.slice (some ⟨G, 0, none⟩) xs.length cap).ownBlock = some g → g < w.heap.size) ∧ (∀ g, av.ownBlock = some g → g < w.heap.size) := ⟨fun g hg => ownsRow_lt0 hJ.fin g hg, fun g hg => ownsRow_lt0 hJ.arc g hg⟩
  have HB : Hid (Below w.heap.size w W0) := hb0
  have HR : Hid ((∀ g, (Value.slice (some ⟨G, 0, none⟩) xs.length cap).ownBlock = some g → g < w.heap.size) ∧ (∀ g, av.ownBlock = some g → g < w.heap.size)) := hrow
  clear hW0 hrow
  refine wpIn_rangeFunc_ownG (F := Fence.wide) rfl (by omega) (gf := 140) (lb := #[.pointer (some ⟨w.heap.size + 1 + 1 + 1, 0, none⟩)]) rfl trivial (enters_of Try.func140 (by kernel_rfl) rfl)
    (ends_stops Fence.wide _ trivial rfl (by omega) (w.heap.size + 1 + 1 + 1) fb fo N fc hN f.final W0 (box_cell (k := 2) hbX rfl) (hf.below hb0)) (fun h k => k.trans h) (fun W l o o' hl _ _ _ => World.putObj_heap_other (by omega)) (Below.refl _ _) (fun _ => rfl)
    (fun pre W => ∃ av', JW W P B st sta (.slice (some ⟨G, 0, none⟩) xs.length cap) av' (goX xs (pre.map Subtype.val)) (goA ars to (pre.map Subtype.val)) ∧ JS P W0 W (.slice (some ⟨G, 0, none⟩) xs.length cap) av (.slice (some ⟨G, 0, none⟩) xs.length cap) av')
    (fun _ _ _ => False)
    (fun s A B' row ⟨av', h1, h2⟩ hg hr => ⟨av', h1.kept hg (fun r e => (hr r e).2), h2.kept hg (Nat.le_refl _) (fun r e => (hr r e).1)⟩)
    (fun _ _ _ _ _ hs _ _ => hs)
    ⟨av, by simpa [goX, goA] using hJ0, JS.refl⟩
    (fun x => { tmps := #[.pointer (some ⟨P, 0, none⟩), .agg #[.int .i64 f.states, .int .i64 f.start, .slice (some ⟨fb, fo, none⟩) N fc, .slice aa m ac], .int .i64 to, .pointer (some ⟨w.heap.size, 0, none⟩), .pointer (some ⟨w.heap.size + 1, 0, none⟩), .pointer (some ⟨w.heap.size + 1 + 1, 0, none⟩), .int .i64 (x.1.1 : Int), .int .i64 x.1.2, .agg #[.int .i64 f.states, .int .i64 f.start, .slice (some ⟨fb, fo, none⟩) N fc, .slice aa m ac], .func (.func 140) #[] #[.pointer (some ⟨w.heap.size + 1 + 1 + 1, 0, none⟩)], .int .i64 (x.1.1 : Int), .int .i64 x.1.2, undef, undef, undef, undef, undef, undef, undef, undef, undef, undef, undef, undef], defers := [] }) ?assign ?body ?done ?stop
  case assign =>
    intro l x W K hK
    gi_wp2
    exact hK
  case body =>
    rintro l pre x W ⟨av', hJ', hS'⟩ hlen
    have hxl : x.1.1 < xs.length := Nat.lt_of_lt_of_le x.2 hx
    obtain ⟨i, c, hic⟩ : ∃ (i : Nat) (c : Int), x.1 = (i, c) := ⟨x.1.1, x.1.2, rfl⟩
    have HX : Hid (x.1 = (i, c)) := hic
    have e1 : x.1.1 = i := by rw [hic]
    have e2 : x.1.2 = c := by rw [hic]
    rw [e1, e2]
    rw [e1] at hxl
    have hbPW := (hS'.block _ (heap_lt hbP) (by omega) (fun e => by have := HR.out.1 _ e; omega) (fun e => by have := HR.out.2 _ e; omega)).trans hbP
    have hbTW := (hS'.block _ (heap_lt hbT) (by omega) (fun e => by have := HR.out.1 _ e; omega) (fun e => by have := HR.out.2 _ e; omega)).trans hbT
    have b0 := box_cell (k := 0) hbPW rfl
    have b2 := box_cell (k := 0) hbTW rfl
    have c2 := box_cell (k := 2) hJ'.box rfl
    have hfin := hJ'.fin
    rw [goX_len] at hfin
    have hci := hfin.cellAt i (by omega)
    have hcz := hfin.frozenAt i
    have hcs : ∃ y, W.cell? ⟨G, i, none⟩ = some (.int .i64 y) := ⟨(goX xs (pre.map Subtype.val)).getD i 0, by rw [hci]; simp [List.getD, goX_len, hxl]⟩
    obtain ⟨y, hy⟩ := hcs
    have hJ1 := hJ'.unend i (-1)
    have hlead := jlead_any P B st sta _ av' _ _ i to c _ hJ1 (by unfold goA; rw [List.length_append, List.length_map, List.length_map]; omega)
    have b0' : (W.setCell ⟨G, i, none⟩ (.int .i64 (-1))).cell? ⟨w.heap.size, 0, none⟩ = some (.pointer (some ⟨P, 0, none⟩)) := by rw [set_far (fun e => by have := HR.out.1 G rfl; omega)]; exact b0
    have b2' : (W.setCell ⟨G, i, none⟩ (.int .i64 (-1))).cell? ⟨w.heap.size + 1 + 1, 0, none⟩ = some (.int .i64 to) := by rw [set_far (fun e => by have := HR.out.1 G rfl; omega)]; exact b2
    have hii : (i : Int) < xs.length := by omega
    have hGw : G ≠ w.heap.size := fun e => by have := HR.out.1 G rfl; omega
    have hGw2 : G ≠ w.heap.size + 1 + 1 := fun e => by have := HR.out.1 G rfl; omega
    clear hfin hci
    gi_wp2_with (refine ⟨trivial, ?_⟩; gi_at_call 70; refine (CallsIn.inRound l (callsIn_wide.2 hlead)).mono ?_; rintro e w2 ⟨rfl, av2, hJ2, hS2⟩)
    have hS3 := (JS.unend (P := P) (G := G) (n := xs.length) (cap := cap) (i := i) (w := W) (av := av') (u := .int .i64 (-1))).trans hS2
    exact ⟨(hS3.others hJ').from _, (hS3.below hJ').block fb hfB, av2, by rw [List.map_append, List.map_singleton, HX.out, goX_snoc, goA_snoc]; exact hJ2, hS'.trans hS3⟩
  case done =>
    rintro D ys W hD hys ⟨av', hJ', hS'⟩ hK
    rw [hys] at hJ'
    have hg := grownBy_putObj' W D (.deferred none)
    have hJ2 := hJ'.kept hg (fun r e => by cases e; exact ⟨_, hK, rfl⟩)
    have hS2 := hS'.kept hg (Nat.le_refl _) (fun r e => by cases e; exact hD)
    gi_wp2
    refine ⟨by simp, .inl ⟨_, _, rfl, run_takeDeferred hK, ?_⟩⟩
    exact ⟨_, results_none rfl _ _ _, rfl, _, av', hJ2, (JS.of_bel HB.out).trans hS2⟩
  case stop =>
    rintro D c pre W _ _ h _
    exact h.elim
end Go.Proofs.Yteehgcbjmdideaa
