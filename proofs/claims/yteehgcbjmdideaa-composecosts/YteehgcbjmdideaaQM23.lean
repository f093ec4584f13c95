/- One round of the loop of 'Costs' over arcs that say something: what is known when it begins; the loops of a function's text. -/
import Derived.Test.YteehgcbjmdideaaQM22
import Derived.Test.YteehgcbjmdideaaQM21
import Derived.Test.YteehgcbjmdideaaQM04
import Derived.Test.YteehgcbjmdideaaQM01
import Derived.Test.YteehgcbjmdideaaQM18
import Derived.Test.YteehgcbjmdideaaQM07
namespace Go.Proofs.Yteehgcbjmdideaa
open Go.RowKit

/-- the bodies of the loops, the outer ones first -/
def loopsOf : Code → List Code
  | .seq a b => loopsOf a ++ loopsOf b
  | .cond _ a b => loopsOf a ++ loopsOf b
  | .block _ c => loopsOf c
  | .scope c => loopsOf c
  | .loop c => c :: loopsOf c
  | _ => []

end Go.Proofs.Yteehgcbjmdideaa

/- The document's table of pairs at places of both words ('ComposedOf'): how it lies in memory, where a pair stands in it, and one step. -/
namespace Go.Proofs.Yteehgcbjmdideaa
open Go.RowKit
attribute [local go_sem ↓] Go.wp_at_zero Go.wp_at_succ

/-- a row of numbers in a block of its own -/
def CT (w : World) (C : Nat) (c : List Int) : Prop := w.heap[C]? = some (.cells (c.map (Value.int .i64)).toArray 3 (0, 0))
theorem CT.cell {w : World} {C : Nat} {c : List Int} (h : CT w C c) {v : Nat} (hv : v < c.length) : w.cell? ⟨C, v, none⟩ = some (.int .i64 (gI c v)) := by
  refine box_cell (k := v) h ?_
  unfold gI
  simp [hv]
theorem CT.frz {w : World} {C : Nat} {c : List Int} (h : CT w C c) (v : Nat) : w.frozen? ⟨C, v, none⟩ = false := box_frz h v
theorem CT.set {w : World} {C : Nat} {c : List Int} (h : CT w C c) (v : Nat) (x : Int) : CT (w.setCell ⟨C, v, none⟩ (.int .i64 x)) C (c.set v x) := by
  refine box_set (k := v) h ?_
  apply Array.ext'
  simp [List.map_set]

/-- all blocks ahead of w0's end stay but the table -/
structure KX (w0 : World) (C : Nat) (W : World) : Prop where
  os : W.os = w0.os
  tape : W.tape = w0.tape
  output : W.output = w0.output
  size : w0.heap.size ≤ W.heap.size
  block : ∀ b, b < w0.heap.size → b ≠ C → W.heap[b]? = w0.heap[b]?
/-- of a world's blocks two may be turned -/
structure BK (W W' : World) (C H : Nat) : Prop where
  os : W'.os = W.os
  tape : W'.tape = W.tape
  output : W'.output = W.output
  size : W.heap.size ≤ W'.heap.size
  block : ∀ b, b < W.heap.size → b ≠ C → b ≠ H → W'.heap[b]? = W.heap[b]?
theorem BK.refl {W : World} {C H : Nat} : BK W W C H := ⟨rfl, rfl, rfl, Nat.le_refl _, fun _ _ _ _ => rfl⟩
theorem BK.trans {W W' W'' : World} {C H : Nat} (h : BK W W' C H) (k : BK W' W'' C H) : BK W W'' C H :=
  ⟨k.os.trans h.os, k.tape.trans h.tape, k.output.trans h.output, Nat.le_trans h.size k.size, fun b hb h1 h2 => (k.block b (Nat.lt_of_lt_of_le hb h.size) h1 h2).trans (h.block b hb h1 h2)⟩
theorem BK.of_bel {W W' : World} {C H : Nat} (h : Below W.heap.size W W') : BK W W' C H := ⟨h.os, h.tape, h.output, h.size, fun b hb _ _ => h.block b hb⟩
theorem KX.step {w0 W W' : World} {C H : Nat} (h : KX w0 C W) (k : BK W W' C H) (hH : w0.heap.size ≤ H) : KX w0 C W' :=
  ⟨k.os.trans h.os, k.tape.trans h.tape, k.output.trans h.output, Nat.le_trans h.size k.size, fun b hb h1 => (k.block b (Nat.lt_of_lt_of_le hb h.size) h1 (by omega)).trans (h.block b hb h1)⟩
theorem KX.bel {w0 W W' : World} {C : Nat} (h : KX w0 C W) (k : Below W.heap.size W W') : KX w0 C W' :=
  ⟨k.os.trans h.os, k.tape.trans h.tape, k.output.trans h.output, Nat.le_trans h.size k.size, fun b hb h1 => (k.block b (Nat.lt_of_lt_of_le hb h.size)).trans (h.block b hb h1)⟩

/-- the table, and whether something was better -/
structure SX (w0 : World) (C H : Nat) (W : World) (c : List Int) (ch : Bool) : Prop where
  kx : KX w0 C W
  ct : CT W C c
  hb : W.heap[H]? = some (.cells #[.bool ch] 4 (0, 0))
  hH : w0.heap.size ≤ H
  hC : C < w0.heap.size
theorem SX.bel {w0 W W' : World} {C H : Nat} {c : List Int} {ch : Bool} (h : SX w0 C H W c ch) (k : Below W.heap.size W W') : SX w0 C H W' c ch :=
  ⟨h.kx.bel k, heap_bel k h.ct, heap_bel k h.hb, h.hH, h.hC⟩

set_option maxHeartbeats 1000000 in
theorem at_any (a b i o S M ol : Nat) (oa : Option Addr) (oc Bo Bs Bg : Nat) (w : World) (h1 : w.cell? ⟨Bo, 0, none⟩ = some (.slice oa ol oc)) (h2 : w.cell? ⟨Bs, 0, none⟩ = some (.int .i64 (S : Int))) (h3 : w.cell? ⟨Bg, 0, none⟩ = some (.int .i64 (M : Int)))
    (b1 : ol ≤ 40) (b2 : i ≤ 41) (b3 : o ≤ 41) (b4 : S ≤ 400000) (b5 : a ≤ 1000) (b6 : M ≤ 1000) (b7 : b ≤ 1000) :
    Calls Try.prog 80 #[.int .i64 (a : Int), .int .i64 (b : Int), .int .i64 (i : Int), .int .i64 (o : Int), .pointer (some ⟨Bo, 0, none⟩), .pointer (some ⟨Bs, 0, none⟩), .pointer (some ⟨Bg, 0, none⟩)] w fun e w' => e = .returned (.int .i64 (spC M S ol a b i o : Nat)) ∧ w' = w := by
  have m1 : i * (ol + 1) ≤ 41 * 41 := Nat.mul_le_mul b2 (by omega)
  have m2 : (i * (ol + 1) + o) * S ≤ 2000 * 400000 := Nat.mul_le_mul (by omega) b4
  have m3 : a * M ≤ 1000 * 1000 := Nat.mul_le_mul b5 b6
  have e1 : (i : Int) * ((ol : Int) + 1) = ((i * (ol + 1) : Nat) : Int) := by simp
  have e2 : ((i * (ol + 1) : Nat) : Int) + (o : Int) = ((i * (ol + 1) + o : Nat) : Int) := by simp
  have e3 : ((i * (ol + 1) + o : Nat) : Int) * (S : Int) = (((i * (ol + 1) + o) * S : Nat) : Int) := by simp
  have e4 : (a : Int) * (M : Int) = ((a * M : Nat) : Int) := by simp
  have w0 : IntKind.i64.wrap ((ol : Int) + 1) = (ol : Int) + 1 := wrap_in _ (by omega) (by omega)
  have w1 : IntKind.i64.wrap ((i : Int) * ((ol : Int) + 1)) = ((i * (ol + 1) : Nat) : Int) := by rw [e1]; exact wrap_in _ (by omega) (by omega)
  have w2 : IntKind.i64.wrap (((i * (ol + 1) : Nat) : Int) + (o : Int)) = ((i * (ol + 1) + o : Nat) : Int) := by rw [e2]; exact wrap_in _ (by omega) (by omega)
  have w3 : IntKind.i64.wrap (((i * (ol + 1) + o : Nat) : Int) * (S : Int)) = (((i * (ol + 1) + o) * S : Nat) : Int) := by rw [e3]; exact wrap_in _ (by omega) (by omega)
  have w4 : IntKind.i64.wrap ((a : Int) * (M : Int)) = ((a * M : Nat) : Int) := by rw [e4]; exact wrap_in _ (by omega) (by omega)
  have HE : Hid ((((i * (ol + 1) + o) * S : Nat) : Int) + ((a * M : Nat) : Int) + (b : Int) = (spC M S ol a b i o : Nat)) := by unfold spC; show _ = _; omega
  obtain ⟨X, hX⟩ : ∃ X, X = i * (ol + 1) := ⟨_, rfl⟩
  obtain ⟨Y, hY⟩ : ∃ Y, Y = (i * (ol + 1) + o) * S := ⟨_, rfl⟩
  obtain ⟨Z, hZ⟩ : ∃ Z, Z = a * M := ⟨_, rfl⟩
  obtain ⟨R, hR⟩ : ∃ R, R = spC M S ol a b i o := ⟨_, rfl⟩
  rw [← hR] at HE ⊢
  rw [← hY, ← hZ] at HE
  rw [← hX] at w1 w2
  rw [← hY] at w3 m2
  rw [← hZ] at w4 m3
  have hXo : X + o = i * (ol + 1) + o := by rw [hX]
  rw [← hXo] at w3
  have hR' : R = Y + Z + b := by have := HE.out; omega
  clear HE hX hY hZ hR hXo e1 e2 e3 e4 m1
  have w5 : IntKind.i64.wrap ((Y : Int) + (Z : Int)) = ((Y : Int) + Z) := wrap_in _ (by omega) (by omega)
  have w6 : IntKind.i64.wrap ((Y : Int) + (Z : Int) + (b : Int)) = (R : Int) := by rw [hR']; rw [wrap_in _ (by omega) (by omega)]; omega
  have H3 : Hid (IntKind.i64.wrap (((X : Int) + (o : Int)) * (S : Int)) = (Y : Int)) := by rw [Int.natCast_add] at w3; exact w3
  have H5 : Hid (IntKind.i64.wrap ((Y : Int) + (Z : Int)) = ((Y : Int) + Z)) := w5
  have H6 : Hid (IntKind.i64.wrap ((Y : Int) + (Z : Int) + (b : Int)) = (R : Int)) := w6
  clear hR' w3 w5 w6
  go_enter Try.func80, Try.ntmps80
  go_wp2
  go_ret
  refine ⟨ret_int ?_, rfl⟩
  have k3 := H3.out
  have k5 := H5.out
  have k6 := H6.out
  rw [IntKind.wrap_i64] at k3 k5 k6
  show wrap64 (wrap64 (wrap64 (((X : Int) + (o : Int)) * (S : Int)) + (Z : Int)) + (b : Int)) = (R : Int)
  unfold wrap64
  rw [k3, k5, k6]

set_option maxHeartbeats 1000000 in
set_option maxRecDepth 100000 in
/-- one step of the document: the table along an edge -/
theorem better_any (w0 : World) (C H : Nat) (c : List Int) (ch : Bool) (u v T Bc : Nat) (wt : Int) (W : World) (h : SX w0 C H W c ch) (hBc : W.cell? ⟨Bc, 0, none⟩ = some (.slice (some ⟨C, 0, none⟩) T T)) (hT : c.length = T) (hu : u < T) (hv : v < T) (hlo : ∀ x, gI c x ≤ 800002000000000) (hw0 : wt ≤ 2000000000) :
    Calls Try.prog 81 #[.int .i64 (u : Int), .int .i64 (v : Int), .int .i64 wt, .pointer (some ⟨Bc, 0, none⟩), .pointer (some ⟨H, 0, none⟩)] W fun e W' => e = .returned (.tuple #[]) ∧ SX w0 C H W' (relE c ⟨u, v, wt⟩) (chB ch c ⟨u, v, wt⟩) ∧ BK W W' C H := by
  have cu := h.ct.cell (v := u) (by omega)
  have cv := h.ct.cell (v := v) (by omega)
  have zv := h.ct.frz v
  have zh := box_frz h.hb 0
  have hh := box_cell (k := 0) h.hb rfl
  have hCH : C ≠ H := by have := h.hH; have := h.hC; omega
  have HLU : Hid (gI c u ≤ 800002000000000) := hlo u
  have HS : Hid (SX w0 C H W c ch) := h
  have HV : Hid (v < c.length) := by rw [hT]; exact hv
  obtain ⟨x, hx⟩ : ∃ x, x = lessC (gI c v) (plusC (gI c u) wt) := ⟨_, rfl⟩
  have HX : Hid (x = lessC (gI c v) (plusC (gI c u) wt)) := hx
  obtain ⟨p, hp⟩ : ∃ p, p = plusC (gI c u) wt := ⟨_, rfl⟩
  have hpl : ∀ W, Calls Try.prog 74 #[.int .i64 (gI c u), .int .i64 wt] W fun e w' => e = .returned (.int .i64 p) ∧ w' = W := fun W => by rw [hp]; exact plusBig_any _ _ W (by have := hlo u; omega) (by omega)
  have hls : ∀ W, Calls Try.prog 27 #[.int .i64 (gI c v), .int .i64 p] W fun e w' => e = .returned (.int .i64 x) ∧ w' = W := fun W => by rw [hx, hp]; exact lessRef_any _ _ W
  have hui : (u : Int) < T := by omega
  have hvi : (v : Int) < T := by omega
  have HEQ : Hid (relE c ⟨u, v, wt⟩ = c.set v x ∧ chB ch c ⟨u, v, wt⟩ = if x = gI c v then ch else true) := by
    rw [hx]
    exact ⟨rfl, rfl⟩
  have HSET : Hid (gI c v = x → c.set v x = c) := fun e => by rw [← e]; exact set_same c v
  clear hx hp h hlo
  generalize gI c u = cU at *
  generalize gI c v = cV at *
  go_enter Try.func81, Try.ntmps81
  go_wp2
  go_quiet (first | (go_at_call 74; refine Calls.quiet_of_same (hpl _)) | (go_at_call 27; refine Calls.quiet_of_same (hls _)))
  have hb1 : Below W.heap.size W (W.drewN nq) := bel_drewN (bel_self W) _
  have hS1 := HS.out.bel hb1
  obtain ⟨W1, hW1⟩ : ∃ W1, W1 = W.drewN nq := ⟨_, rfl⟩
  rw [← hW1] at hb1 hS1 ⊢
  have zv1 := hS1.ct.frz v
  have zh1 := box_frz hS1.hb 0
  have hh1 := box_cell (k := 0) hS1.hb rfl
  have cv1 := bel_c hb1 cv
  have bc1 := bel_c hb1 hBc
  clear hW1 cu cv zv zh hh hBc hpl hls
  by_cases hxe : x = cV
  · subst hxe
    go_wp2
    first | go_end0 | refine bodyPost_ret (results_none rfl _ _ _) rfl ?_
    rw [HEQ.out.1, HEQ.out.2]; rw [if_pos trivial]
    refine ⟨rfl, ?_, BK.of_bel hb1⟩
    rw [HSET.out trivial]
    exact hS1
  · have hxb : (x != cV) = true := by simpa using hxe
    have HNE : Hid (¬ x = cV) := hxe
    clear hxe
    have zh2 : (W1.setCell ⟨C, v, none⟩ (.int .i64 x)).frozen? ⟨H, 0, none⟩ = false := box_frz (heap_far hS1.hb (fun e => hCH e.symm)) 0
    have hh2 : (W1.setCell ⟨C, v, none⟩ (.int .i64 x)).cell? ⟨H, 0, none⟩ = some (.bool ch) := box_cell (k := 0) (heap_far hS1.hb (fun e => hCH e.symm)) rfl
    go_wp2
    first | go_end0 | refine bodyPost_ret (results_none rfl _ _ _) rfl ?_
    rw [HEQ.out.1, HEQ.out.2, if_neg HNE.out]
    have hH0 := hS1.hH
    have hC0 := hS1.hC
    have hk : BK W1 ((W1.setCell ⟨C, v, none⟩ (.int .i64 x)).setCell ⟨H, 0, none⟩ (.bool true)) C H := ⟨rfl, rfl, rfl, by simp [World.setCell], fun b _ h1 h2 => (Below.heap_setCell _ ⟨H, 0, none⟩ _ b h2).trans (Below.heap_setCell _ ⟨C, v, none⟩ _ b h1)⟩
    refine ⟨rfl, ⟨hS1.kx.step hk hH0, ?_, box_set (k := 0) (heap_far hS1.hb (fun e => hCH e.symm)) rfl, hH0, hC0⟩, (BK.of_bel hb1).trans hk⟩
    exact heap_far (hS1.ct.set v x) hCH
end Go.Proofs.Yteehgcbjmdideaa

/- What is known in the loops of 'ComposedOf'. (Made by wip/gen/cpl.py.) -/
namespace Go.Proofs.Yteehgcbjmdideaa
open Go.RowKit

structure CX (f g : FstD) (ins outs : List Int) (N M s0 t0 : Nat) (fi fj : Value) (aa : Option Addr) (m ac : Nat) (ca : Option Addr) (mc cc : Nat) (ia : Option Addr) (il ic : Nat) (oa : Option Addr) (ol oc Bf Bg Bo Bs Bc C T : Nat) (w0 : World) : Prop where
  kf : Fine f
  kg : Fine g
  hN : f.states = N
  hM : g.states = M
  hs : f.start = s0
  ht : g.start = t0
  hN2 : N ≤ 12
  hM2 : M ≤ 12
  hal : f.arcs.length = m
  hal' : g.arcs.length = mc
  hm : m ≤ 100
  hmc : mc ≤ 100
  hil : ins.length = il
  hol : outs.length = ol
  hi40 : il ≤ 12
  ho40 : ol ≤ 12
  hT : T = (il + 1) * (ol + 1) * (N * M)
  box : ∀ W, KX w0 C W → W.heap[Bf]? = some (.cells #[.int .i64 (N : Int), .int .i64 (s0 : Int), fi, .slice aa m ac] 25 (0, 0)) ∧ W.heap[Bg]? = some (.cells #[.int .i64 (M : Int), .int .i64 (t0 : Int), fj, .slice ca mc cc] 25 (0, 0)) ∧ W.heap[Bo]? = some (.cells #[.slice oa ol oc] 22 (0, 0)) ∧ W.heap[Bs]? = some (.cells #[.int .i64 ((N * M : Nat) : Int)] 3 (0, 0)) ∧ W.heap[Bc]? = some (.cells #[.slice (some ⟨C, 0, none⟩) T T] 22 (0, 0))
  mem : ∀ W, KX w0 C W → ASlice W (.slice aa m ac) f.arcs ∧ ASlice W (.slice ca mc cc) g.arcs ∧ ISlice W (.slice ia il ic) ins ∧ ISlice W (.slice oa ol oc) outs

abbrev bgC (N M s0 t0 : Nat) (ins outs : List Int) : List Int := bgS (spC M (N * M) outs.length s0 t0 0 0) ((ins.length + 1) * (outs.length + 1) * (N * M))

section
variable {f g : FstD} {ins outs : List Int} {N M s0 t0 : Nat} {fi fj : Value} {aa : Option Addr} {m ac : Nat} {ca : Option Addr} {mc cc : Nat} {ia : Option Addr} {il ic : Nat} {oa : Option Addr} {ol oc Bf Bg Bo Bs Bc C T : Nat} {w0 : World} (h : CX f g ins outs N M s0 t0 fi fj aa m ac ca mc cc ia il ic oa ol oc Bf Bg Bo Bs Bc C T w0)
include h

theorem CX.T_le : T ≤ 400000 := by
  have h1 := h.hN2
  have h2 := h.hM2
  have h3 := h.hi40
  have h4 := h.ho40
  have h5 := h.hT
  have a1 : N * M ≤ 12 * 12 := Nat.mul_le_mul h1 h2
  have a2 : (il + 1) * (ol + 1) ≤ 13 * 13 := Nat.mul_le_mul (by omega) (by omega)
  have a3 : (il + 1) * (ol + 1) * (N * M) ≤ 13 * 13 * (12 * 12) := Nat.mul_le_mul a2 a1
  omega
theorem CX.Mpos : (0 : Int) < M := by
  have := h.kg.s1
  have := h.hM
  omega
theorem CX.NM : N * M ≤ 144 := by
  have a1 : N * M ≤ 12 * 12 := Nat.mul_le_mul h.hN2 h.hM2
  omega
theorem CX.bg_len : (bgC N M s0 t0 ins outs).length = T := by
  rw [bgS_len, h.hT, h.hil, h.hol]

/-- one step along an edge of pairs -/
theorem CX.rel {i o : Nat} {x : Int × Int} {s : Stp} {c0 c : List Int} {ch : Bool} {Q : Prop} (hi : i ≤ il) (ho : o ≤ ol) (hx : InP f g x) (hs : s ∈ stpL f g x) (h1 : fitB ins i s.inp = true) (h2 : fitB outs o s.out = true) (hr : RI (EC f g N M ins outs) (bgC N M s0 t0 ins outs) c0 c ch Q) :
    RI (EC f g N M ins outs) (bgC N M s0 t0 ins outs) c0 (relE c (edgeC N M outs.length i o x s)) (chB ch c (edgeC N M outs.length i o x s)) (Q ∧ Rx c0 (edgeC N M outs.length i o x s)) := by
  have hl := h.bg_len
  have hT := h.T_le
  obtain ⟨q1, q2, q3, q4⟩ := edge_in h.kf h.kg h.hN h.hM (by rw [h.hil]; exact hi) (by rw [h.hol]; exact ho) hx hs h1 h2
  exact hr.better (by omega) q1 (by rw [hl, h.hT, ← h.hil, ← h.hol]; exact q2) q3 q4
theorem CX.top {c0 c : List Int} {ch : Bool} {Q : Prop} (hr : RI (EC f g N M ins outs) (bgC N M s0 t0 ins outs) c0 c ch Q) : c.length = T ∧ ∀ x, gI c x ≤ 800002000000000 := by
  have hl := h.bg_len
  have hT := h.T_le
  exact ⟨by rw [hr.1.len, hl], hr.1.top (by omega)⟩
/-- the spots of an edge lie in the table -/
theorem CX.spot {i o p q : Nat} (hi : i ≤ il) (ho : o ≤ ol) (hp : p < N) (hq : q < M) : spC M (N * M) ol p q i o < T := by
  rw [h.hT]
  exact spC_lt hp hq hi ho
end
end Go.Proofs.Yteehgcbjmdideaa

/- Loops of 'ComposedOf': the first one goes alone. (Made by wip/gen/cpl.py.) -/
namespace Go.Proofs.Yteehgcbjmdideaa
open Go.RowKit
attribute [local go_sem ↓] Go.wp_at_zero Go.wp_at_succ

set_option maxHeartbeats 1000000 in
set_option maxRecDepth 100000 in
theorem loop6 {f g : FstD} {ins outs : List Int} {N M s0 t0 : Nat} {fi fj : Value} {aa : Option Addr} {m ac : Nat} {ca : Option Addr} {mc cc : Nat} {ia : Option Addr} {il ic : Nat} {oa : Option Addr} {ol oc Bf Bg Bo Bs Bc C T : Nat} {w0 : World} {i o x q H k : Nat} {c0 c : List Int} {ch : Bool} {R : Prop} {W : World} {u0 u1 u3 u6 u8 u10 u12 u18 u22 u23 u24 u25 u26 u27 u28 u29 u30 u31 u32 u33 u34 u35 u36 u37 u38 u39 u40 u41 u42 u43 u44 u45 u46 u47 u48 u49 u50 u51 u52 u53 u54 u55 u56 u57 u58 u59 u60 u61 u62 u63 u64 u65 u66 u67 u68 u69 u70 u71 u72 u73 u74 u75 u76 u77 u78 u79 u80 u81 u82 u83 u84 u85 u86 u87 u88 u89 u90 u91 u92 u93 u94 u95 u96 u97 u98 u99 u100 u101 u102 u103 u104 u105 u106 u107 u108 u109 u110 u111 u112 u113 u114 u115 u116 u117 u118 u119 u120 u121 u122 u123 u124 u125 u126 u127 u128 u129 u130 u131 u132 u133 u134 u135 u136 u137 u138 u139 u140 u141 u142 u143 u144 u145 u146 u147 u148 u149 u150 u151 u152 u153 u154 u155 u156 u157 u158 u159 u160 u161 u162 u163 u164 u165 u166 u167 u168 u169 u170 u171 u172 u173 u174 u175 u176 u177 u178 u179 u180 u181 u182 u183 u184 u185 u186 u187 u188 u189 u190 u191 u192 u193 u194 u195 u196 u197 u198 u199 u200 u201 u202 u203 u204 u205 u206 u207 u208 u209 u210 u211 u212 u213 u214 u215 u216 u217 u218 u219 u220 u221 u222 u223 u224 u225 u226 u227 u228 u229 u230 u231 u232 u233 u234 u235 u236 u237 u238 u239 u240 u241 u242 u243 u244 u245 u246 u247 u248 u249 u250 u251 u252 u253 u254 u255 u256 u257 u258 u259 u260 u261 u262 u263 u264 u265 u266 u267 u268 u269 u270 u271 u272 u273 u274 u275 u276 u277 u278 u279 u280 u281 u282 u283 u284 u285 u286 u287 u288 u289 u290 u291 u292 u293 u294 u295 u296 u297 u298 u299 u300 u301 u302 u303 u304 u305 u306 u307 u308 u309 u310 u311 u312 u313 u314 : Value} {cd : Code} {Q : Exit → Act → World → Prop} {a : ArcD}
    (hcd : cd = (loopsOf (Try.f35.body.getD .skip)).getD 5 .skip) (hX : CX f g ins outs N M s0 t0 fi fj aa m ac ca mc cc ia il ic oa ol oc Bf Bg Bo Bs Bc C T w0) (hi : i ≤ il) (ho : o ≤ ol) (hak : f.arcs[k]? = some a) (hfit : fitB ins i a.inp = true) (hx : x = usedBy i a.inp)
    (hS : SX w0 C H W c ch) (hq : W.heap[q]? = some (.cells #[.int .i64 a.src, .int .i64 a.inp, .int .i64 a.out, .int .i64 a.dst, .int .i64 a.wt] 63 (0, 0))) (hqw : w0.heap.size ≤ q) (hqH : q ≠ H) (hR : RI (EC f g N M ins outs) (bgC N M s0 t0 ins outs) c0 c ch R)
    (HK : Hid (∀ {x21 x111 x112 x113 x114 x115 x116 x117 x118 x119 x120 x121 x122 x123 x124 x125 x126 x127 x128 x129 x130 x131 x132 x133 x134 x135 x136 x137 x138 x139 : Value} {W' : World} {c' : List Int} {ch' : Bool}, SX w0 C H W' c' ch' → BK W W' C H → RI (EC f g N M ins outs) (bgC N M s0 t0 ins outs) c0 c' ch' (R ∧ (a.out = 0 → ∀ z : Nat, z < M → Rx c0 (edgeC N M outs.length i o (a.src, (z : Int)) (fstS z a)))) → Q (.exit 10) { tmps := #[u0, u1, .slice ia il ic, u3, .pointer (some ⟨Bf, 0, none⟩), .pointer (some ⟨Bg, 0, none⟩), u6, .pointer (some ⟨Bo, 0, none⟩), u8, .pointer (some ⟨Bs, 0, none⟩), u10, .pointer (some ⟨Bc, 0, none⟩), u12, .func (.func 80) #[] #[.pointer (some ⟨Bo, 0, none⟩), .pointer (some ⟨Bs, 0, none⟩), .pointer (some ⟨Bg, 0, none⟩)], .pointer (some ⟨H, 0, none⟩), .func (.func 81) #[] #[.pointer (some ⟨Bc, 0, none⟩), .pointer (some ⟨H, 0, none⟩)], .int .i64 (i : Int), .int .i64 (o : Int), u18, .pointer (some ⟨q, 0, none⟩), .int .i64 (x : Int), x21, u22, u23, u24, u25, u26, u27, u28, u29, u30, u31, u32, u33, u34, u35, u36, u37, u38, u39, u40, u41, u42, u43, u44, u45, u46, u47, u48, u49, u50, u51, u52, u53, u54, u55, u56, u57, u58, u59, u60, u61, u62, u63, u64, u65, u66, u67, u68, u69, u70, u71, u72, u73, u74, u75, u76, u77, u78, u79, u80, u81, u82, u83, u84, u85, u86, u87, u88, u89, u90, u91, u92, u93, u94, u95, u96, u97, u98, u99, u100, u101, u102, u103, u104, u105, u106, u107, u108, u109, u110, x111, x112, x113, x114, x115, x116, x117, x118, x119, x120, x121, x122, x123, x124, x125, x126, x127, x128, x129, x130, x131, x132, x133, x134, x135, x136, x137, x138, x139, u140, u141, u142, u143, u144, u145, u146, u147, u148, u149, u150, u151, u152, u153, u154, u155, u156, u157, u158, u159, u160, u161, u162, u163, u164, u165, u166, u167, u168, u169, u170, u171, u172, u173, u174, u175, u176, u177, u178, u179, u180, u181, u182, u183, u184, u185, u186, u187, u188, u189, u190, u191, u192, u193, u194, u195, u196, u197, u198, u199, u200, u201, u202, u203, u204, u205, u206, u207, u208, u209, u210, u211, u212, u213, u214, u215, u216, u217, u218, u219, u220, u221, u222, u223, u224, u225, u226, u227, u228, u229, u230, u231, u232, u233, u234, u235, u236, u237, u238, u239, u240, u241, u242, u243, u244, u245, u246, u247, u248, u249, u250, u251, u252, u253, u254, u255, u256, u257, u258, u259, u260, u261, u262, u263, u264, u265, u266, u267, u268, u269, u270, u271, u272, u273, u274, u275, u276, u277, u278, u279, u280, u281, u282, u283, u284, u285, u286, u287, u288, u289, u290, u291, u292, u293, u294, u295, u296, u297, u298, u299, u300, u301, u302, u303, u304, u305, u306, u307, u308, u309, u310, u311, u312, u313, u314], defers := [] } W')) :
    (Code.loop cd).wp Try.prog Q { tmps := #[u0, u1, .slice ia il ic, u3, .pointer (some ⟨Bf, 0, none⟩), .pointer (some ⟨Bg, 0, none⟩), u6, .pointer (some ⟨Bo, 0, none⟩), u8, .pointer (some ⟨Bs, 0, none⟩), u10, .pointer (some ⟨Bc, 0, none⟩), u12, .func (.func 80) #[] #[.pointer (some ⟨Bo, 0, none⟩), .pointer (some ⟨Bs, 0, none⟩), .pointer (some ⟨Bg, 0, none⟩)], .pointer (some ⟨H, 0, none⟩), .func (.func 81) #[] #[.pointer (some ⟨Bc, 0, none⟩), .pointer (some ⟨H, 0, none⟩)], .int .i64 (i : Int), .int .i64 (o : Int), u18, .pointer (some ⟨q, 0, none⟩), .int .i64 (x : Int), .int .i64 0, u22, u23, u24, u25, u26, u27, u28, u29, u30, u31, u32, u33, u34, u35, u36, u37, u38, u39, u40, u41, u42, u43, u44, u45, u46, u47, u48, u49, u50, u51, u52, u53, u54, u55, u56, u57, u58, u59, u60, u61, u62, u63, u64, u65, u66, u67, u68, u69, u70, u71, u72, u73, u74, u75, u76, u77, u78, u79, u80, u81, u82, u83, u84, u85, u86, u87, u88, u89, u90, u91, u92, u93, u94, u95, u96, u97, u98, u99, u100, u101, u102, u103, u104, u105, u106, u107, u108, u109, u110, u111, u112, u113, u114, u115, u116, u117, u118, u119, u120, u121, u122, u123, u124, u125, u126, u127, u128, u129, u130, u131, u132, u133, u134, u135, u136, u137, u138, u139, u140, u141, u142, u143, u144, u145, u146, u147, u148, u149, u150, u151, u152, u153, u154, u155, u156, u157, u158, u159, u160, u161, u162, u163, u164, u165, u166, u167, u168, u169, u170, u171, u172, u173, u174, u175, u176, u177, u178, u179, u180, u181, u182, u183, u184, u185, u186, u187, u188, u189, u190, u191, u192, u193, u194, u195, u196, u197, u198, u199, u200, u201, u202, u203, u204, u205, u206, u207, u208, u209, u210, u211, u212, u213, u214, u215, u216, u217, u218, u219, u220, u221, u222, u223, u224, u225, u226, u227, u228, u229, u230, u231, u232, u233, u234, u235, u236, u237, u238, u239, u240, u241, u242, u243, u244, u245, u246, u247, u248, u249, u250, u251, u252, u253, u254, u255, u256, u257, u258, u259, u260, u261, u262, u263, u264, u265, u266, u267, u268, u269, u270, u271, u272, u273, u274, u275, u276, u277, u278, u279, u280, u281, u282, u283, u284, u285, u286, u287, u288, u289, u290, u291, u292, u293, u294, u295, u296, u297, u298, u299, u300, u301, u302, u303, u304, u305, u306, u307, u308, u309, u310, u311, u312, u313, u314], defers := [] } W := by
  simp only [Try.f35, loopsOf, List.append_eq, List.nil_append, List.cons_append, List.append_nil, List.getD_cons_zero, List.getD_cons_succ, Option.getD_some] at hcd
  subst hcd
  dsimp only
  obtain ⟨n1, _, hn1, _, _, _, _, hnm⟩ := hX.kf.nums
  have hnN : n1 = N := by have := hX.hN; omega
  rw [hnN] at hnm
  obtain ⟨⟨p1, p2⟩, ⟨p3, p4⟩, ⟨p5, p6⟩, ⟨p7, p8⟩, p9, p10⟩ := hnm a (List.mem_of_getElem? hak)
  have HX : Hid (CX f g ins outs N M s0 t0 fi fj aa m ac ca mc cc ia il ic oa ol oc Bf Bg Bo Bs Bc C T w0) := hX
  have HXU : Hid (x = usedBy i a.inp) := hx
  clear hx
  by_cases hout : a.out = 0
  · go_loopw [21] (fun t21 wx => ∃ (z : Nat) (c' : List Int) (ch' : Bool), z ≤ M ∧ t21 = .int .i64 (z : Int) ∧ SX w0 C H wx c' ch' ∧ BK W wx C H ∧ RI (EC f g N M ins outs) (bgC N M s0 t0 ins outs) c0 c' ch' (R ∧ ∀ y : Nat, y < z → Rx c0 (edgeC N M outs.length i o (a.src, (y : Int)) (fstS y a)))) (fun t21 _ => M - (intOf t21).toNat)
    case atStart => exact ⟨0, c, ch, Nat.zero_le _, rfl, hS, BK.refl, hR.mono fun r => ⟨r, fun y hy => absurd hy (Nat.not_lt_zero _)⟩⟩
    case round =>
      obtain ⟨z, c', ch', hz, rfl, hS', hK', hR'⟩ := hrel
      obtain ⟨g1, g2, g3, g4, g5⟩ := HX.out.box wr hS'.kx
      have hCw := hS'.hC
      have hq' := (hK'.block q (heap_lt hq) (by omega) hqH).trans hq
      have y0 := box_cell (k := 0) g2 rfl
      have y2 := box_cell (k := 2) hq' rfl
      rw [hout] at y2
      by_cases hlt : z < M
      · have hlti : (z : Int) < M := by omega
        have hwx : x ≤ il := by rw [HXU.out, ← hX.hil]; exact usedBy_le hfit (by rw [hX.hil]; exact hi)
        obtain ⟨p, hp⟩ : ∃ p : Nat, a.src = (p : Int) := ⟨a.src.toNat, (Int.toNat_of_nonneg p1).symm⟩
        obtain ⟨d, hd⟩ : ∃ d : Nat, a.dst = (d : Int) := ⟨a.dst.toNat, (Int.toNat_of_nonneg p3).symm⟩
        obtain ⟨wt, hwt⟩ : ∃ wt, wt = a.wt := ⟨_, rfl⟩
        have hpN : p < N := by omega
        have hdN : d < N := by omega
        have HE : Hid (edgeC N M outs.length i o (a.src, (z : Int)) (fstS z a) = ⟨spC M (N * M) ol p z i o, spC M (N * M) ol d z x o, wt⟩) := by
          unfold edgeC fstS
          show (⟨spC M (N * M) outs.length a.src.toNat (z : Int).toNat i o, spC M (N * M) outs.length a.dst.toNat (z : Int).toNat (usedBy i a.inp) (usedBy o 0), a.wt⟩ : Edg) = _
          rw [hp, hd, hwt, HXU.out, hX.hol, Int.toNat_natCast, Int.toNat_natCast, Int.toNat_natCast]
          exact (rfl : _ = _)
        have HTOP : Hid (c'.length = T ∧ ∀ x, gI c' x ≤ 800002000000000) := hX.top hR'
        have HSP : Hid (spC M (N * M) ol p z i o < T ∧ spC M (N * M) ol d z x o < T) := ⟨hX.spot hi ho hpN hlt, hX.spot hwx ho hdN hlt⟩
        have HR2 := hX.rel (x := (a.src, (z : Int))) (s := fstS z a) hi ho ⟨⟨p1, by rw [hX.hN]; omega⟩, by show (0 : Int) ≤ (z : Int); omega, by show (z : Int) < g.states; rw [hX.hM]; omega⟩ (mem_stp.2 (Or.inr (Or.inl ⟨a, List.mem_of_getElem? hak, rfl, hout, rfl⟩))) hfit (by show fitB outs o 0 = true; rfl) hR'
        have HR3 : Hid (RI (EC f g N M ins outs) (bgC N M s0 t0 ins outs) c0 (relE c' ⟨spC M (N * M) ol p z i o, spC M (N * M) ol d z x o, wt⟩) (chB ch' c' ⟨spC M (N * M) ol p z i o, spC M (N * M) ol d z x o, wt⟩) (R ∧ ∀ y : Nat, y < z + 1 → Rx c0 (edgeC N M outs.length i o (a.src, (y : Int)) (fstS y a)))) := by
          rw [← HE.out]
          refine HR2.mono fun r => ⟨r.1.1, fun y hy => ?_⟩
          by_cases e : y = z
          · subst e; exact r.2
          · exact r.1.2 y (by omega)
        have hNM := hX.NM
        have hN2 := hX.hN2
        have hM2 := hX.hM2
        have hi40 := hX.hi40
        have ho40 := hX.ho40
        have hzw : IntKind.i64.wrap ((z : Int) + 1) = (z : Int) + 1 := wrap_in _ (by omega) (by omega)
        rw [hp, hd, ← hwt] at hq'
        have hwt2 : wt ≤ 1000000000 := by omega
        clear HR2 hp hd hwt HE y0 y2 g1 g2 g3 g4 g5
        have y0 := box_cell (k := 0) (HX.out.box wr hS'.kx).2.1 rfl
        have y2 := box_cell (k := 2) hq' rfl
        rw [hout] at y2
        go_wp2
        clear y0 y2
        obtain ⟨Wd, hWd⟩ : ∃ Wd, Wd = wr.drew := ⟨_, rfl⟩
        have hbd : Below wr.heap.size wr Wd := by rw [hWd]; exact (bel_self wr).drew
        have hSd := hS'.bel hbd
        have HWD : Hid (Wd = wr.drew) := hWd
        obtain ⟨b1, b2, b3, b4, b5⟩ := HX.out.box Wd hSd.kx
        have hS0 : (fun wx : World => wx.cell? ⟨q, 0, none⟩ = some (.int .i64 (p : Int)) ∧ wx.cell? ⟨q, 3, none⟩ = some (.int .i64 (d : Int)) ∧ wx.cell? ⟨q, 4, none⟩ = some (.int .i64 wt)) Wd := ⟨box_cell (k := 0) (heap_bel hbd hq') rfl, box_cell (k := 3) (heap_bel hbd hq') rfl, box_cell (k := 4) (heap_bel hbd hq') rfl⟩
        have hat1 := at_any p z i o (N * M) M ol _ oc Bo Bs Bg Wd (box_cell (k := 0) b3 rfl) (box_cell (k := 0) b4 rfl) (box_cell (k := 0) b2 rfl) (by omega) (by omega) (by omega) (by omega) (by omega) (by omega) (by omega)
        have hat2 := at_any d z x o (N * M) M ol _ oc Bo Bs Bg Wd (box_cell (k := 0) b3 rfl) (box_cell (k := 0) b4 rfl) (box_cell (k := 0) b2 rfl) (by omega) (by omega) (by omega) (by omega) (by omega) (by omega) (by omega)
        have hbet := better_any w0 C H c' ch' _ _ T Bc wt Wd hSd (box_cell (k := 0) b5 rfl) HTOP.out.1 HSP.out.1 HSP.out.2 HTOP.out.2 (by omega)
        obtain ⟨U, hU⟩ : ∃ U, U = spC M (N * M) ol p z i o := ⟨_, rfl⟩
        obtain ⟨V, hV⟩ : ∃ V, V = spC M (N * M) ol d z x o := ⟨_, rfl⟩
        have HUV : Hid (U = spC M (N * M) ol p z i o ∧ V = spC M (N * M) ol d z x o) := ⟨hU, hV⟩
        rw [← hU] at hat1 hbet
        rw [← hV] at hat2 hbet
        clear hWd hU hV b1 b2 b3 b4 b5
        have hq1 : ∀ W1, BK Wd W1 C H → W1.heap[q]? = some (.cells #[.int .i64 (p : Int), .int .i64 a.inp, .int .i64 a.out, .int .i64 (d : Int), .int .i64 wt] 63 (0, 0)) := fun W1 hk => (hk.block q (heap_lt (heap_bel hbd hq')) (by omega) hqH).trans (heap_bel hbd hq')
        refine wp_region_noPanic ?_
        refine wp_region_F (fun wx : World => wx.cell? ⟨q, 0, none⟩ = some (.int .i64 (p : Int)) ∧ wx.cell? ⟨q, 3, none⟩ = some (.int .i64 (d : Int)) ∧ wx.cell? ⟨q, 4, none⟩ = some (.int .i64 wt)) [] (by kernel_rfl) (by rw [← HWD.out]; exact hS0) (fun _ => ?_)
        rw [← HWD.out]
        clear HWD
        refine wpAnyF_take (i := 0) (v := .func (.func 81) #[] #[.pointer (some ⟨Bc, 0, none⟩), .pointer (some ⟨H, 0, none⟩)]) rfl (by kernel_rfl) (by kernel_rfl) (by kernel_rfl) (by kernel_rfl) (fun _ _ _ h => h) (Or.inl ⟨by rfl, fun wl hSw => ?_⟩) hS0 ?_
        · (try dsimp only at hSw); go_simp
        refine wpAnyF_take (i := 1) (v := .func (.func 80) #[] #[.pointer (some ⟨Bo, 0, none⟩), .pointer (some ⟨Bs, 0, none⟩), .pointer (some ⟨Bg, 0, none⟩)]) rfl (by kernel_rfl) (by kernel_rfl) (by kernel_rfl) (by kernel_rfl) (fun _ _ _ h => h) (Or.inl ⟨by rfl, fun wl hSw => ?_⟩) hS0 ?_
        · (try dsimp only at hSw); go_simp
        refine wpAnyF_take (i := 2) (v := .pointer (some ⟨q, 0, none⟩)) rfl (by kernel_rfl) (by kernel_rfl) (by kernel_rfl) (by kernel_rfl) (fun _ _ _ h => h) (Or.inl ⟨by rfl, fun wl hSw => ?_⟩) hS0 ?_
        · (try dsimp only at hSw); go_simp
        refine wpAnyF_take (i := 3) (v := .int .i64 (p : Int)) rfl (by kernel_rfl) (by kernel_rfl) (by kernel_rfl) (by kernel_rfl) (fun _ _ _ h => h) (Or.inl ⟨by rfl, fun wl hSw => ?_⟩) hS0 ?_
        · (try dsimp only at hSw); go_simp
        refine wpAnyF_take (i := 4) (v := .int .i64 (z : Int)) rfl (by kernel_rfl) (by kernel_rfl) (by kernel_rfl) (by kernel_rfl) (fun _ _ _ h => h) (Or.inl ⟨by rfl, fun wl hSw => ?_⟩) hS0 ?_
        · (try dsimp only at hSw); go_simp
        refine wpAnyF_take (i := 5) (v := .int .i64 (i : Int)) rfl (by kernel_rfl) (by kernel_rfl) (by kernel_rfl) (by kernel_rfl) (fun _ _ _ h => h) (Or.inl ⟨by rfl, fun wl hSw => ?_⟩) hS0 ?_
        · (try dsimp only at hSw); go_simp
        refine wpAnyF_take (i := 6) (v := .int .i64 (o : Int)) rfl (by kernel_rfl) (by kernel_rfl) (by kernel_rfl) (by kernel_rfl) (fun _ _ _ h => h) (Or.inl ⟨by rfl, fun wl hSw => ?_⟩) hS0 ?_
        · (try dsimp only at hSw); go_simp
        refine wpAnyF_take (i := 8) (v := .func (.func 80) #[] #[.pointer (some ⟨Bo, 0, none⟩), .pointer (some ⟨Bs, 0, none⟩), .pointer (some ⟨Bg, 0, none⟩)]) rfl (by kernel_rfl) (by kernel_rfl) (by kernel_rfl) (by kernel_rfl) (fun _ _ _ h => h) (Or.inl ⟨by rfl, fun wl hSw => ?_⟩) hS0 ?_
        · (try dsimp only at hSw); go_simp
        refine wpAnyF_take (i := 9) (v := .pointer (some ⟨q, 3, none⟩)) rfl (by kernel_rfl) (by kernel_rfl) (by kernel_rfl) (by kernel_rfl) (fun _ _ _ h => h) (Or.inl ⟨by rfl, fun wl hSw => ?_⟩) hS0 ?_
        · (try dsimp only at hSw); go_simp
        refine wpAnyF_take (i := 10) (v := .int .i64 (d : Int)) rfl (by kernel_rfl) (by kernel_rfl) (by kernel_rfl) (by kernel_rfl) (fun _ _ _ h => h) (Or.inl ⟨by rfl, fun wl hSw => ?_⟩) hS0 ?_
        · (try dsimp only at hSw); go_simp
        refine wpAnyF_take (i := 11) (v := .int .i64 (z : Int)) rfl (by kernel_rfl) (by kernel_rfl) (by kernel_rfl) (by kernel_rfl) (fun _ _ _ h => h) (Or.inl ⟨by rfl, fun wl hSw => ?_⟩) hS0 ?_
        · (try dsimp only at hSw); go_simp
        refine wpAnyF_take (i := 12) (v := .int .i64 (x : Int)) rfl (by kernel_rfl) (by kernel_rfl) (by kernel_rfl) (by kernel_rfl) (fun _ _ _ h => h) (Or.inl ⟨by rfl, fun wl hSw => ?_⟩) hS0 ?_
        · (try dsimp only at hSw); go_simp
        refine wpAnyF_take (i := 13) (v := .int .i64 (o : Int)) rfl (by kernel_rfl) (by kernel_rfl) (by kernel_rfl) (by kernel_rfl) (fun _ _ _ h => h) (Or.inl ⟨by rfl, fun wl hSw => ?_⟩) hS0 ?_
        · (try dsimp only at hSw); go_simp
        refine wpAnyF_take (i := 15) (v := .pointer (some ⟨q, 4, none⟩)) rfl (by kernel_rfl) (by kernel_rfl) (by kernel_rfl) (by kernel_rfl) (fun _ _ _ h => h) (Or.inl ⟨by rfl, fun wl hSw => ?_⟩) hS0 ?_
        · (try dsimp only at hSw); go_simp
        refine wpAnyF_take (i := 16) (v := .int .i64 wt) rfl (by kernel_rfl) (by kernel_rfl) (by kernel_rfl) (by kernel_rfl) (fun _ _ _ h => h) (Or.inl ⟨by rfl, fun wl hSw => ?_⟩) hS0 ?_
        · (try dsimp only at hSw); go_simp
        refine wpAnyF_one (i := 7) rfl (by kernel_rfl) (fun Kc hKc => ?_)
        go_simp
        refine hat1.mono ?_
        rintro e w1 ⟨rfl, rfl⟩
        refine hKc.out _ _ ⟨fun _ => hS0, ?_⟩
        clear hKc Kc
        refine wpAnyF_one (i := 14) rfl (by kernel_rfl) (fun Kc hKc => ?_)
        go_simp
        refine hat2.mono ?_
        rintro e w1 ⟨rfl, rfl⟩
        refine hKc.out _ _ ⟨fun _ => hS0, ?_⟩
        clear hKc Kc
        refine wpAnyF_one (i := 17) rfl (by kernel_rfl) (fun Kc hKc => ?_)
        go_simp
        refine hbet.mono ?_
        rintro e w1 ⟨rfl, hS1, hK1⟩
        refine hKc.out _ _ ⟨fun _ => ⟨box_cell (k := 0) (hq1 _ hK1) rfl, box_cell (k := 3) (hq1 _ hK1) rfl, box_cell (k := 4) (hq1 _ hK1) rfl⟩, ?_⟩
        clear hKc Kc
        refine wpAnyF_done (by kernel_rfl) ?_ _
        refine NoPanic.normal ?_
        clear hat1 hat2 hbet hS0
        have hS2 := hS1
        rw [HUV.out.1, HUV.out.2] at hS2
        go_wp2
        go_roundw
        case rel => exact ⟨z + 1, _, _, by omega, by go_num, hS2, hK'.trans ((BK.of_bel hbd).trans hK1), HR3.out⟩
        case measure => simp [intOf]; omega
      · obtain rfl : z = M := by omega
        have hnl : ¬ ((z : Int) < z) := by omega
        go_wp2
        exact HK.out hS' hK' (hR'.mono fun r => ⟨r.1, fun _ => r.2⟩)
  · have hob : (a.out == 0) = false := by simpa using hout
    have HOUT : Hid (¬ a.out = 0) := hout
    clear hout
    go_loopw [21] (fun t21 wx => t21 = .int .i64 0 ∧ wx = W) (fun _ _ => 0)
    case atStart => exact ⟨rfl, rfl⟩
    case round =>
      obtain ⟨rfl, rfl⟩ := hrel
      obtain ⟨g1, g2, g3, g4, g5⟩ := HX.out.box wr hS.kx
      have y0 := box_cell (k := 0) g2 rfl
      have y2 := box_cell (k := 2) hq rfl
      have hM0 : (0 : Int) < M := HX.out.Mpos
      go_wp2
      exact HK.out hS BK.refl (hR.mono fun r => ⟨r, fun e => absurd e HOUT.out⟩)
end Go.Proofs.Yteehgcbjmdideaa
