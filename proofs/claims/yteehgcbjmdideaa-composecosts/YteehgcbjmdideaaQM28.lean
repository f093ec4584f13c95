/- 'leaving' of package compose: a loop over the arcs from a state that are looked for. -/
import Derived.Test.YteehgcbjmdideaaQCpB
namespace Go.Proofs.Yteehgcbjmdideaa
open Go.RowKit Go.Shelf
attribute [local go_sem] Oper.semAt_some

theorem ArcsAt.blk {w w' : World} {b off n : Nat} {ars : List ArcD} (h : ArcsAt w b off n ars) (hb : w'.heap[b]? = w.heap[b]?) : ArcsAt w' b off n ars :=
  have key : ∀ {k : Nat} {v : Value}, w.cell? ⟨b, k, none⟩ = some v → w'.cell? ⟨b, k, none⟩ = some v := fun {k _} hc => (World.cell?_of_block (w := w) (a := ⟨b, k, none⟩) hb).trans hc
  ⟨h.len, fun i hi => key (h.c0 i hi), fun i hi => key (h.c1 i hi), fun i hi => key (h.c2 i hi), fun i hi => key (h.c3 i hi), fun i hi => key (h.c4 i hi)⟩

/-- those of the first k arcs that leave a state and are wanted -/
def leavL (st : Int) (wantB : ArcD → Bool) (ars : List ArcD) : List ArcD := ars.filter fun a => a.src == st && wantB a
theorem leav_skip {st : Int} {wantB : ArcD → Bool} {ars : List ArcD} {k : Nat} {a : ArcD} (ha : ars[k]? = some a) (h : (a.src == st && wantB a) = false) : leavL st wantB (ars.take (k + 1)) = leavL st wantB (ars.take k) := by
  unfold leavL
  rw [List.take_add_one, ha, List.filter_append]
  simp [h]
theorem leav_keep {st : Int} {wantB : ArcD → Bool} {ars : List ArcD} {k : Nat} {a : ArcD} (ha : ars[k]? = some a) (h : (a.src == st && wantB a) = true) : leavL st wantB (ars.take (k + 1)) = leavL st wantB (ars.take k) ++ [a] := by
  unfold leavL
  rw [List.take_add_one, ha, List.filter_append]
  simp only [Option.toList_some, List.filter_cons, h, if_true, List.filter_nil]
theorem leav_len (st : Int) (wantB : ArcD → Bool) (ars : List ArcD) (k : Nat) : (leavL st wantB (ars.take k)).length ≤ k := by
  unfold leavL
  have := List.length_filter_le (fun a : ArcD => a.src == st && wantB a) (ars.take k)
  rw [List.length_take] at this
  omega

/-- what a round keeps: some blocks -/
def KpB (Kept : Nat → Prop) (A B : World) : Prop := A.heap.size ≤ B.heap.size ∧ ∀ b, Kept b → B.heap[b]? = A.heap[b]?

theorem grown_bel {w w' : World} (h : Below w.heap.size w w') : w.grownBy w' none := ⟨h.os, h.tape, h.output, h.size, fun k hk _ => h.block k hk⟩

set_option maxRecDepth 100000 in
set_option maxHeartbeats 2000000 in
theorem leaving_in (n : Nat) (hn : 1 ≤ n) (Kept : Nat → Prop) (l Bx Bs Bw : Nat) (aa : Option Addr) (m ac : Nat) (ars : List ArcD) (st : Int) (gw : Nat) (lbw : Array Value) (wantB : ArcD → Bool) (hm : m ≤ 3000)
    (hG : ∀ args w, (callFunc gw args).run Try.prog w = .ok (.enter gw args) w)
    (J Jx : List { a : ArcD // a ∈ leavL st wantB ars } → World → Prop) (W : World) (hJ : AbidesFrom W.heap.size J)
    (hY : ∀ pre x W1, J pre W1 → pre.length < 3000 → YieldAt Fence.wide (n - 1) Try.prog l #[arcV x.1] W1 fun e W' =>
      (e = .returned (.bool true) ∧ J (pre ++ [x]) W' ∧ KpB Kept W1 W') ∨ (e = .returned (.bool false) ∧ Jx (pre ++ [x]) W'))
    (hW : ∀ W', (∀ b, Kept b → W'.heap[b]? = W.heap[b]?) → ∀ a ∈ ars, Calls Try.prog gw (#[arcV a] ++ lbw) W' fun e W'' => e = .returned (.bool (wantB a)) ∧ Below W'.heap.size W' W'')
    (hk1 : Kept Bs) (hk2 : Kept Bw) (hkl : ∀ b, Kept b → b < W.heap.size)
    (hBx : W.cell? ⟨Bx, 3, none⟩ = some (.slice aa m ac)) (hBs : W.cell? ⟨Bs, 0, none⟩ = some (.int .i64 st)) (hBw : W.cell? ⟨Bw, 0, none⟩ = some (.func (.func gw) #[] lbw)) (HA : Hid (∀ W', (∀ b, Kept b → W'.heap[b]? = W.heap[b]?) → ASlice W' (.slice aa m ac) ars)) (hlen : ars.length = m) (h0 : J [] W) :
    CallsIn Fence.wide n Try.prog 165 #[.func (.yield l) #[] #[], .pointer (some ⟨Bx, 0, none⟩), .pointer (some ⟨Bs, 0, none⟩), .pointer (some ⟨Bw, 0, none⟩)] W fun e W' => (∃ v, e = .returned v) ∧
      ((∃ ys, ys.map Subtype.val = leavL st wantB ars ∧ J ys W') ∨ (∃ pre, True ∧ Jx pre W')) := by
  refine callsIn_of_wp Try.func165 rfl trivial ?_ rfl
  simp only [Try.ntmps165, List.size_toArray, List.length_cons, List.length_nil, Nat.reduceAdd, Nat.reduceSub, Array.replicate_succ, Array.replicate_zero, List.push_toArray, List.append_toArray, List.nil_append, List.cons_append]
  gi_wp2
  gi_loopw [6, 10] (fun v6 i wr => ∃ (k : Nat) (pre : List { a : ArcD // a ∈ leavL st wantB ars }), k ≤ m ∧ i = .int .i64 k ∧ pre.map Subtype.val = leavL st wantB (ars.take k) ∧ J pre wr ∧ (∀ b, Kept b → wr.heap[b]? = W.heap[b]?) ∧ W.heap.size ≤ wr.heap.size)
    (fun _ i _ => m - (intOf i).toNat)
  case atStart => exact ⟨0, [], Nat.zero_le _, rfl, rfl, h0, fun _ _ => rfl, Nat.le_refl _⟩
  case round =>
    obtain ⟨k, pre, hk, rfl, hpre, hJs, hkp, hsz⟩ := hrel
    by_cases hlt : k < m
    · obtain ⟨ab, ao, eaa, haw⟩ : ∃ ab ao, aa = some ⟨ab, ao, none⟩ ∧ ArcsAt wr ab ao m ars := by
        rcases HA.out wr hkp with ⟨_, _, e, _⟩ | ⟨ab, ao, n', c', e, hx, _⟩
        · injection e with _ e; omega
        · injection e with e1 e2 e3
          subst e2
          exact ⟨ab, ao, e1, hx⟩
      subst eaa
      obtain ⟨a, hga, hak⟩ : ∃ a, ars.getD k a0 = a ∧ ars[k]? = some a := ⟨ars.getD k a0, rfl, by rw [List.getD_eq_getElem?_getD, List.getElem?_eq_getElem (by omega)]; rfl⟩
      have hmem : a ∈ ars := List.mem_of_getElem? hak
      have q0 := haw.c0 k hlt
      have q1 := haw.c1 k hlt
      have q2 := haw.c2 k hlt
      have q3 := haw.c3 k hlt
      have q4 := haw.c4 k hlt
      rw [hga] at q0 q1 q2 q3 q4
      have hs0 : wr.cell? ⟨Bs, 0, none⟩ = some (.int .i64 st) := (World.cell?_of_block (w := W) (a := ⟨Bs, 0, none⟩) (hkp Bs hk1)).trans hBs
      have hw0 : wr.cell? ⟨Bw, 0, none⟩ = some (.func (.func gw) #[] lbw) := (World.cell?_of_block (w := W) (a := ⟨Bw, 0, none⟩) (hkp Bw hk2)).trans hBw
      have hki : (k : Int) < m := by omega
      have hpl : pre.length < 3000 := by
        have := leav_len st wantB ars k
        rw [← hpre, List.length_map] at this
        omega
      have hbA := bel_up (bel_self wr) (.cells #[.int .i64 a.src, .int .i64 a.inp, .int .i64 a.out, .int .i64 a.dst, .int .i64 a.wt] 63)
      obtain ⟨wA, hwA⟩ : ∃ wA, wA = wr.alloc (.cells #[.int .i64 a.src, .int .i64 a.inp, .int .i64 a.out, .int .i64 a.dst, .int .i64 a.wt] 63) := ⟨_, rfl⟩
      rw [← hwA] at hbA
      have hJA : J pre wA := hJ pre wr wA none hJs (grown_bel hbA) (fun r e => by cases e)
      have hkA : ∀ b, Kept b → wA.heap[b]? = W.heap[b]? := fun b hb => (hbA.block b (by have := hkl b hb; omega)).trans (hkp b hb)
      have hwan := hW wA hkA a hmem
      have hsA := bel_c hbA hs0
      have hfA := bel_c hbA hw0
      have HPRE : Hid (pre.map Subtype.val = leavL st wantB (ars.take k)) := hpre
      have HAK : Hid (ars[k]? = some a) := hak
      have hszA : W.heap.size ≤ wA.heap.size := by have := hbA.size; omega
      have HWA : Hid (wA = wr.alloc (.cells #[.int .i64 a.src, .int .i64 a.inp, .int .i64 a.out, .int .i64 a.dst, .int .i64 a.wt] 63)) := hwA
      rw [hwA] at hsA hfA
      clear hpre hak hga haw hwA
      by_cases he : a.src = st
      · have heb : (a.src == st) = true := by simpa using he
        have HEB : Hid ((a.src == st) = true) := heb
        clear he
        have hbx : wA.heap[wr.heap.size]? = some (.cells #[.int .i64 a.src, .int .i64 a.inp, .int .i64 a.out, .int .i64 a.dst, .int .i64 a.wt] 63 (0, 0)) := by rw [HWA.out]; exact heap_alloc_new wr _
        gi_wp2_with fail
        rw [← HWA.out]
        refine ⟨trivial, (callsIn_wide.2 hwan).mono ?_⟩
        rintro e w1 ⟨rfl, hb1⟩
        have hbx1 := heap_bel hb1 hbx
        have e0 := box_cell (k := 0) hbx1 rfl
        have e1 := box_cell (k := 1) hbx1 rfl
        have e2 := box_cell (k := 2) hbx1 rfl
        have e3 := box_cell (k := 3) hbx1 rfl
        have e4 := box_cell (k := 4) hbx1 rfl
        have hJ1 : J pre w1 := hJ pre wA w1 none hJA (grown_bel hb1) (fun r e => by cases e)
        have hk1' : ∀ b, Kept b → w1.heap[b]? = W.heap[b]? := fun b hb => (hb1.block b (by have := hkl b hb; omega)).trans (hkA b hb)
        have hsz1 : W.heap.size ≤ w1.heap.size := by have := hb1.size; omega
        clear hwan hbx hbx1 hsA hfA q0 q1 q2 q3 q4 hbA hs0 hw0 hb1
        cases hwb : wantB a with
        | false =>
          gi_wp2
          refine ⟨fun _ h => (by cases h), ?_⟩
          gi_wp2
          go_roundw
          case rel => exact ⟨k + 1, pre, by omega, by simp, by rw [leav_skip HAK.out (by rw [HEB.out, hwb]; rfl)]; exact HPRE.out, hJ1, hk1', hsz1⟩
          case measure => simp [intOf]; omega
        | true =>
          have hmf : a ∈ leavL st wantB ars := List.mem_filter.2 ⟨hmem, by rw [HEB.out, hwb]; rfl⟩
          obtain ⟨fn, tmps, assign, body, hy, hR⟩ := hY pre ⟨a, hmf⟩ w1 hJ1 hpl
          unfold arcV at hy
          dsimp only at hy
          have HWB : Hid (wantB a = true) := hwb
          clear hwb
          gi_wp2
          refine hR.mono ?_
          rintro e W3 (⟨rfl, hJ3, hk3'⟩ | ⟨rfl, hJx3⟩)
          · gi_wp2
            go_roundw
            case rel => exact ⟨k + 1, pre ++ [⟨a, hmf⟩], by omega, by simp, by rw [leav_keep HAK.out (by rw [HEB.out, HWB.out]; rfl), List.map_append, HPRE.out]; rfl, hJ3, fun b hb => (hk3'.2 b hb).trans (hk1' b hb), by have := hk3'.1; omega⟩
            case measure => simp [intOf]; omega
          · gi_wp2
            refine bodyPost_ret (results_none rfl _ _ _) rfl ?_
            exact ⟨⟨_, rfl⟩, .inr ⟨_, trivial, hJx3⟩⟩
      · have heb : (a.src == st) = false := by simpa using he
        gi_wp2
        rw [← HWA.out]
        refine ⟨fun _ h => (by cases h), ?_⟩
        gi_wp2
        refine ⟨fun _ h => (by cases h), ?_⟩
        gi_wp2
        go_roundw
        case rel => exact ⟨k + 1, pre, by omega, by simp, by rw [leav_skip HAK.out (by rw [heb]; rfl)]; exact HPRE.out, hJA, hkA, hszA⟩
        case measure => simp [intOf]; omega
    · obtain rfl : k = m := by omega
      gi_wp2
      go_end0
      refine ⟨⟨_, rfl⟩, .inl ⟨pre, ?_, hJs⟩⟩
      rw [hpre, List.take_of_length_le (by omega)]
end Go.Proofs.Yteehgcbjmdideaa

/- What a loop over an iterator keeps, of 'both' of package compose. -/
namespace Go.Proofs.Yteehgcbjmdideaa
open Go.RowKit Go.Shelf
attribute [local go_sem] Oper.semAt_some

/-- whatever turns that is no cells, and no block ahead of D, it stays -/
theorem BV.kept {w w' : World} {P B Mb D : Nat} {K : TwoF} {st sta : Int} {fv av pv : Value} {xs : List Int} {ars : List ArcD} {ps ms : List (Int × Int)} {row : Option Nat} (h : BV w P B Mb K st sta fv av pv xs ars ps ms) (hg : w.grownBy w' row) (hr : ∀ r, row = some r → D ≤ r ∧ ∃ o : Obj, w.heap[r]? = some o ∧ o.isCells = false) (hM : Mb < D) : BV w' P B Mb K st sta fv av pv xs ars ps ms := by
  have key : ∀ g, (∃ o : Obj, w.heap[g]? = some o ∧ o.isCells = true) → some g ≠ row := fun g ⟨o, ho, hc⟩ e => by
    obtain ⟨_, o', ho', hc'⟩ := hr g e.symm
    rw [ho] at ho'
    injection ho' with ho'
    subst ho'
    rw [hc] at hc'
    exact Bool.noConfusion hc'
  have kr : ∀ {v : Value}, (∀ g, v.ownBlock = some g → ∃ o : Obj, w.heap[g]? = some o ∧ o.isCells = true) → v.ownBlock = none ∨ v.ownBlock ≠ row := fun {v} hv => by
    cases hf : v.ownBlock with
    | none => exact Or.inl rfl
    | some g => exact Or.inr (key g (hv g hf))
  exact ⟨(hg.block P h.lt (key P ⟨_, h.box, rfl⟩)).trans h.box, h.fin.kept hg (kr (own_cells h.fin)), h.arc.kept hg (kr (own_cells h.arc)), h.pr.kept hg (kr (own_cells h.pr)), h.mp.block (hg.block Mb h.mp.lt (fun e => by have := (hr Mb e.symm).1; omega)), h.hP, h.hM, h.fP, h.aP, h.pP, h.fa, h.fp, h.ap⟩
theorem BS.kept {P Mb D : Nat} {w w1 w2 : World} {O O' : Nat → Prop} {row : Option Nat} (h : BS P Mb w w1 O O') (hg : w1.grownBy w2 row) (hD : w.heap.size ≤ D) (hr : ∀ r, row = some r → D ≤ r) : BS P Mb w w2 O O' :=
  ⟨hg.os.trans h.os, hg.tape.trans h.tape, hg.output.trans h.output, Nat.le_trans h.size hg.size, fun b hb hP hM ho => (hg.block b (by have := h.size; omega) (fun e => by have := hr b e.symm; omega)).trans (h.block b hb hP hM ho), h.own⟩
/-- a step keeps all that is no cells, from D on -/
theorem BS.keepsFrom {P B Mb D : Nat} {w w' : World} {K : TwoF} {st sta : Int} {fv av pv : Value} {xs : List Int} {ars : List ArcD} {ps ms : List (Int × Int)} {O' : Nat → Prop} (h : BS P Mb w w' (ownB fv av pv) O') (hJ : BV w P B Mb K st sta fv av pv xs ars ps ms) (hM : Mb < D) : KeepsFrom D w w' := by
  refine ⟨h.size, fun k o hk ho hc => ?_⟩
  have key : ∀ g, (∃ o : Obj, w.heap[g]? = some o ∧ o.isCells = true) → k ≠ g := fun g ⟨o', ho', hc'⟩ e => by
    subst e
    rw [ho] at ho'
    injection ho' with ho'
    subst ho'
    rw [hc] at hc'
    exact Bool.noConfusion hc'
  refine (h.block k (heap_lt ho) (key P ⟨_, hJ.box, rfl⟩) (by omega) (fun q => ?_)).trans ho
  rcases q with q | q | q
  · exact key k (own_cells hJ.fin k q) rfl
  · exact key k (own_cells hJ.arc k q) rfl
  · exact key k (own_cells hJ.pr k q) rfl

/-- blocks that no step turns -/
def KeptB (W0 : World) (P Mb : Nat) (O : Nat → Prop) (b : Nat) : Prop := b < W0.heap.size ∧ b ≠ P ∧ b ≠ Mb ∧ ¬ O b
theorem BS.kpB {P Mb : Nat} {W0 w w' : World} {O O1 O2 : Nat → Prop} (h0 : BS P Mb W0 w O O1) (h : BS P Mb w w' O1 O2) : KpB (KeptB W0 P Mb O) w w' :=
  ⟨h.size, fun b ⟨h1, h2, h3, h4⟩ => h.block b (by have := h0.size; omega) h2 h3 (fun e => by
    rcases h0.own b e with q | q
    · exact h4 q
    · omega)⟩
theorem kpB_trans {Kept : Nat → Prop} {A B C : World} (h : KpB Kept A B) (k : KpB Kept B C) : KpB Kept A C := ⟨Nat.le_trans h.1 k.1, fun b hb => (k.2 b hb).trans (h.2 b hb)⟩
theorem kpB_put {W0 : World} {P Mb : Nat} {O : Nat → Prop} {D : Nat} (hD : W0.heap.size ≤ D) (W : World) (l : Nat) (o' : Obj) (hl : D ≤ l) : KpB (KeptB W0 P Mb O) W (W.putObj l o') :=
  ⟨by simp [World.putObj], fun b hb => World.putObj_heap_other (by have := hb.1; omega)⟩
theorem kpB_bel {W0 : World} {P Mb : Nat} {O : Nat → Prop} {w w' : World} (h : Below w.heap.size w w') (hs : W0.heap.size ≤ w.heap.size) : KpB (KeptB W0 P Mb O) w w' := ⟨h.size, fun b hb => h.block b (by have := hb.1; omega)⟩

/-- 'leaving' hands back what goes through the arcs -/
theorem leaving_stops (n : Nat) (hn : 1 ≤ n) (Kept : Nat → Prop) (Bx Bs Bw : Nat) (aa : Option Addr) (m ac : Nat) (ars : List ArcD) (st : Int) (gw : Nat) (lbw : Array Value) (wantB : ArcD → Bool) (hm : m ≤ 3000)
    (hG : ∀ args w, (callFunc gw args).run Try.prog w = .ok (.enter gw args) w) (w : World)
    (hW : ∀ W', (∀ b, Kept b → W'.heap[b]? = w.heap[b]?) → ∀ a ∈ ars, Calls Try.prog gw (#[arcV a] ++ lbw) W' fun e W'' => e = .returned (.bool (wantB a)) ∧ Below W'.heap.size W' W'')
    (hk1 : Kept Bs) (hk2 : Kept Bw) (hkl : ∀ b, Kept b → b < w.heap.size)
    (hBx : w.cell? ⟨Bx, 3, none⟩ = some (.slice aa m ac)) (hBs : w.cell? ⟨Bs, 0, none⟩ = some (.int .i64 st)) (hBw : w.cell? ⟨Bw, 0, none⟩ = some (.func (.func gw) #[] lbw)) (HA : ∀ W', (∀ b, Kept b → W'.heap[b]? = w.heap[b]?) → ASlice W' (.slice aa m ac) ars) (hlen : ars.length = m) :
    SeqStopsK Fence.wide n Try.prog 165 #[.pointer (some ⟨Bx, 0, none⟩), .pointer (some ⟨Bs, 0, none⟩), .pointer (some ⟨Bw, 0, none⟩)] (fun x : { a : ArcD // a ∈ leavL st wantB ars } => #[arcV x.1]) (KpB Kept) (fun ys => ys.map Subtype.val = leavL st wantB ars) (fun _ => True) 3000 w :=
  fun l J Jx W hb hJ _ hY h0 => leaving_in n hn Kept l Bx Bs Bw aa m ac ars st gw lbw wantB hm hG J Jx W hJ hY (fun W' hk => hW W' fun b q => (hk b q).trans (hb.block b (hkl b q))) hk1 hk2 (fun b q => by have := hkl b q; have := hb.size; omega) (bel_c hb hBx) (bel_c hb hBs) (bel_c hb hBw) (fun W' hk => HA W' fun b q => (hk b q).trans (hb.block b (hkl b q))) hlen h0

set_option maxHeartbeats 1000000 in
theorem leaving_any (st sta : Int) (fi ar : Value) (p : Int) (gw : Nat) (lbw : Array Value) (w : World) :
    Calls Try.prog 142 #[.agg #[.int .i64 st, .int .i64 sta, fi, ar], .int .i64 p, .func (.func gw) #[] lbw] w fun e w' => e = .returned (.func (.func 165) #[] #[.pointer (some ⟨w.heap.size, 0, none⟩), .pointer (some ⟨w.heap.size + 1, 0, none⟩), .pointer (some ⟨w.heap.size + 1 + 1, 0, none⟩)]) ∧ w' = ((w.alloc (.cells #[.int .i64 st, .int .i64 sta, fi, ar] 25)).alloc (.cells #[.int .i64 p] 3)).alloc (.cells #[.func (.func gw) #[] lbw] 104) := by
  go_enter Try.func142, Try.ntmps142
  go_wp2
  go_ret
  exact ⟨rfl, rfl⟩

/-! What is looked for. -/
theorem tog1_any (a : ArcD) (w : World) : Calls Try.prog 143 #[arcV a] w fun e w' => e = .returned (.bool (decide (0 < a.out))) ∧ Below w.heap.size w w' := by
  unfold arcV
  go_enter Try.func143, Try.ntmps143
  go_wp2
  go_ret
  exact ⟨rfl, bel_up (bel_self w) _⟩
theorem alo1_any (a : ArcD) (w : World) : Calls Try.prog 146 #[arcV a] w fun e w' => e = .returned (.bool (a.out == 0)) ∧ Below w.heap.size w w' := by
  unfold arcV
  go_enter Try.func146, Try.ntmps146
  go_wp2
  go_ret
  exact ⟨rfl, bel_up (bel_self w) _⟩
theorem alo2_any (a : ArcD) (w : World) : Calls Try.prog 147 #[arcV a] w fun e w' => e = .returned (.bool (a.inp == 0)) ∧ Below w.heap.size w w' := by
  unfold arcV
  go_enter Try.func147, Try.ntmps147
  go_wp2
  go_ret
  exact ⟨rfl, bel_up (bel_self w) _⟩
theorem tog2_any (a : ArcD) (q : Nat) (x : Int) (w : World) (hq : w.cell? ⟨q, 2, none⟩ = some (.int .i64 x)) : Calls Try.prog 144 #[arcV a, .pointer (some ⟨q, 0, none⟩)] w fun e w' => e = .returned (.bool (a.inp == x)) ∧ Below w.heap.size w w' := by
  unfold arcV
  have hq' := bel_c (bel_up (bel_self w) (.cells #[.int .i64 a.src, .int .i64 a.inp, .int .i64 a.out, .int .i64 a.dst, .int .i64 a.wt] 63)) hq
  go_enter Try.func144, Try.ntmps144
  go_wp2
  go_ret
  exact ⟨rfl, bel_up (bel_self w) _⟩
theorem cgT1 : ∀ args w, (callFunc 143 args).run Try.prog w = .ok (.enter 143 args) w := enters_of Try.func143 (by kernel_rfl) rfl
theorem cgT2 : ∀ args w, (callFunc 144 args).run Try.prog w = .ok (.enter 144 args) w := enters_of Try.func144 (by kernel_rfl) rfl
theorem cgA1 : ∀ args w, (callFunc 146 args).run Try.prog w = .ok (.enter 146 args) w := enters_of Try.func146 (by kernel_rfl) rfl
theorem cgA2 : ∀ args w, (callFunc 147 args).run Try.prog w = .ok (.enter 147 args) w := enters_of Try.func147 (by kernel_rfl) rfl
end Go.Proofs.Yteehgcbjmdideaa
