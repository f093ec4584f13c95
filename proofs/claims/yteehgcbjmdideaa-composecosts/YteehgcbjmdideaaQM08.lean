/- 'Invert' and 'Project' of package simple. -/
import Derived.Test.YteehgcbjmdideaaQM04
import Derived.Test.YteehgcbjmdideaaQM07
import Derived.Maps.AppendAt
namespace Go.Proofs.Yteehgcbjmdideaa
open Go.RowKit
attribute [local go_sem ↓] Go.wp_at_zero Go.wp_at_succ

/-- numbers in a block of their own from B on (or none) -/
def IFrom (B : Nat) (w : World) (v : Value) (xs : List Int) : Prop :=
  (∃ a cap, v = .slice a 0 cap ∧ xs = []) ∨ ∃ g n cap, B ≤ g ∧ v = .slice (some ⟨g, 0, none⟩) n cap ∧ IntsAt w g 0 n xs ∧ n ≤ maxLen
theorem IFrom.slice {B : Nat} {w : World} {v : Value} {xs : List Int} (h : IFrom B w v xs) : ISlice w v xs := by
  rcases h with h | ⟨g, n, cap, _, h1, h2, h3⟩
  · exact Or.inl h
  · exact Or.inr ⟨g, 0, n, cap, h1, h2, h3⟩
theorem IFrom.mono {B B' : Nat} {w : World} {v : Value} {xs : List Int} (h : IFrom B w v xs) (hB : B' ≤ B) : IFrom B' w v xs := by
  rcases h with h | ⟨g, n, cap, h0, h1, h2, h3⟩
  · exact Or.inl h
  · exact Or.inr ⟨g, n, cap, Nat.le_trans hB h0, h1, h2, h3⟩
theorem IFrom.set {B P i : Nat} {w : World} {v u : Value} {xs : List Int} (h : IFrom B w v xs) (hP : P < B) : IFrom B (w.setCell ⟨P, i, none⟩ u) v xs := by
  rcases h with h | ⟨g, n, cap, h0, h1, h2, h3⟩
  · exact Or.inl h
  · exact Or.inr ⟨g, n, cap, h0, h1, ⟨h2.len, fun i hi => by rw [set_far (by omega)]; exact h2.cell i hi⟩, h3⟩
theorem own_ifrom {w : World} {B e : Nat} {v : Value} {xs : List Int} (h : w.ownsRow B e 1 v xs.length (xs.map (Value.int .i64))) : IFrom B w v xs := by
  have hs := ownsRow_ints h
  rcases h.2 with ⟨h1, h2⟩ | ⟨g, cap, cur, he, hB, _⟩
  · exact Or.inl ⟨none, 0, h1, List.length_eq_zero_iff.1 h2⟩
  · subst he
    rcases hs with ⟨a, c, q, q'⟩ | ⟨b, off, n, c, q, q1, q2⟩
    · injection q with q0 q1 q2
      exact Or.inl ⟨some ⟨g, 0, none⟩, cap, by rw [q1], q'⟩
    · cases q
      exact Or.inr ⟨g, _, cap, hB, rfl, q1, q2⟩

/-- a transducer and an errno are answered -/
def FstRes (w : World) (f : FstD) (c : Int) (e : Ending) (w' : World) : Prop :=
  ∃ fa fn fc ba bn bc, e = .returned (.tuple #[.agg #[.int .i64 f.states, .int .i64 f.start, .slice fa fn fc, .slice ba bn bc], .int .i64 c]) ∧ IFrom w.heap.size w' (.slice fa fn fc) f.final ∧ AFrom w.heap.size w' (.slice ba bn bc) f.arcs ∧ Below w.heap.size w w'

def mapD (h : ArcD → ArcD) (f : FstD) : FstD := ⟨f.states, f.start, f.final, leastL (f.arcs.map h)⟩

theorem farS {w : World} {B B' P : Nat} {fv av : Value} {xs : List Int} {ars : List ArcD} (h1 : w.ownsRow B 3 1 fv xs.length (xs.map (Value.int .i64))) (h2 : AFrom B w av ars) (hP : P < B) (hB : B' ≤ B) (u0 u1 u2 u3 : Value) :
    IFrom B' ((((w.setCell ⟨P, 0, none⟩ u0).setCell ⟨P, 1, none⟩ u1).setCell ⟨P, 2, none⟩ u2).setCell ⟨P, 3, none⟩ u3) fv xs ∧ AFrom B' ((((w.setCell ⟨P, 0, none⟩ u0).setCell ⟨P, 1, none⟩ u1).setCell ⟨P, 2, none⟩ u2).setCell ⟨P, 3, none⟩ u3) av ars :=
  ⟨(((((own_ifrom h1).set (i := 0) (u := u0) hP).set (i := 1) (u := u1) hP).set (i := 2) (u := u2) hP).set (i := 3) (u := u3) hP).mono hB, ((((h2.set (i := 0) (u := u0) hP).set (i := 1) (u := u1) hP).set (i := 2) (u := u2) hP).set (i := 3) (u := u3) hP).mono hB⟩

set_option maxHeartbeats 1000000 in
set_option maxRecDepth 100000 in
theorem invert_ok (f : FstD) (fin arcs : Value) (w : World) (hf : ISlice w fin f.final) (ha : ASlice w arcs f.arcs) (hc : checkD f = 0) :
    Calls Try.prog 16 #[.agg #[.int .i64 f.states, .int .i64 f.start, fin, arcs]] w fun e w' => FstRes w (mapD invA f) 0 e w' := by
  obtain ⟨fa, fn, fc, rfl, _, _⟩ := hf.lenOf
  obtain ⟨ba, bn, bc, rfl, _, _⟩ := ha.lenOf
  have hall := all_at2 f _ _ 0 w hf ha hc
  obtain ⟨N, s0, hok⟩ := okF f hc
  have hfl : f.final.length ≤ 1000 := by have := hok.len; have := hok.n2; omega
  have hm := hok.many
  clear hc hok hf ha
  go_enter Try.func16, Try.ntmps16
  go_wp2_with (first
    | (go_at_call 59; refine hall.mono ?_; rintro e w1 ⟨rfl, hb1, hC1, hz1, hf1, ha1⟩; obtain ⟨q0, q1, q2, q3⟩ := hC1; have hlt := heap_lt hz1)
    | (go_at_call 60; refine (turned_any invA 61 gI1 (fun a W => inv_one a W) f _ _ w1 hf1 ha1 hfl hm).mono ?_; rintro e w2 ⟨fv, av, rfl, hI2, hA2, hb2⟩; obtain ⟨ga, gn, gc, rfl, _, _⟩ := (ownsRow_ints hI2).lenOf; obtain ⟨ea, en, ec, rfl, _, _⟩ := hA2.slice.lenOf; have hz2 := heap_bel hb2 hz1; obtain ⟨z0, z1, z2, z3, y0, y1, y2, y3⟩ := zfacts hz2; clear q0 q1 q2 q3 hf1 ha1 hz1))
  obtain ⟨g1, g2⟩ := farS hI2 hA2 hlt hb1.size (.int .i64 f.states) (.int .i64 f.start) (.slice ga gn gc) (.slice ea en ec)
  exact bodyPost_ret (v := .tuple #[.agg #[.int .i64 f.states, .int .i64 f.start, .slice ga gn gc, .slice ea en ec], .int .i64 0]) (by simp [results, Try.results16, go_sem, z0, z1, z2, z3]) rfl ⟨_, _, _, _, _, _, rfl, g1, g2, bel_set4 (bel_on hb1 hb2) (by omega) _ _ _ _⟩
end Go.Proofs.Yteehgcbjmdideaa

/- An append whose second argument is nil or a slice, in a region that draws its order; words about rows of arcs that grow. -/
namespace Go.Proofs.Yteehgcbjmdideaa
open Go.RowKit

/-- what is appended: nothing (nil), or so many elements -/
def SrcAt (w : World) (size : Nat) (vx : Value) (m : Nat) (news : List Value) : Prop :=
  (vx = .slice none 0 0 ∧ m = 0 ∧ news = []) ∨ ∃ ad c, vx = .slice (some ad) m c ∧ news.length = m * size ∧ ∀ j u, news[j]? = some u → w.cell? (ad.add j) = some u

end Go.Proofs.Yteehgcbjmdideaa

/- What is made of pieces, as far as it is made ('joint' of package simple): how it lies in memory, and a step on it. -/
namespace Go.Proofs.Yteehgcbjmdideaa
open Go.RowKit
attribute [local go_sem ↓] Go.wp_at_zero Go.wp_at_succ

structure JW (w : World) (P B : Nat) (st sta : Int) (fv av : Value) (xs : List Int) (ars : List ArcD) : Prop where
  box : w.heap[P]? = some (.cells #[.int .i64 st, .int .i64 sta, fv, av] 84 (0, 0))
  fin : w.ownsRow B 3 1 fv xs.length (xs.map (Value.int .i64))
  arc : w.ownsRow B 63 5 av ars.length (arcsV ars)
  hP : B ≤ P
  fP : fv.ownBlock ≠ some P
  aP : av.ownBlock ≠ some P
  fa : ∀ g, fv.ownBlock = some g → av.ownBlock ≠ some g

/-- a step: no other block is changed -/
structure JS (P : Nat) (w w' : World) (fv av fv' av' : Value) : Prop where
  os : w'.os = w.os
  tape : w'.tape = w.tape
  output : w'.output = w.output
  size : w.heap.size ≤ w'.heap.size
  block : ∀ b, b < w.heap.size → b ≠ P → fv.ownBlock ≠ some b → av.ownBlock ≠ some b → w'.heap[b]? = w.heap[b]?
  own : ∀ g, fv'.ownBlock = some g ∨ av'.ownBlock = some g → fv.ownBlock = some g ∨ av.ownBlock = some g ∨ w.heap.size ≤ g

theorem JS.refl {P : Nat} {w : World} {fv av : Value} : JS P w w fv av fv av := ⟨rfl, rfl, rfl, Nat.le_refl _, fun _ _ _ _ _ => rfl, fun _ h => h.imp id Or.inl⟩
theorem JS.trans {P : Nat} {w w' w'' : World} {fv av fv' av' fv'' av'' : Value} (h : JS P w w' fv av fv' av') (k : JS P w' w'' fv' av' fv'' av'') : JS P w w'' fv av fv'' av'' := by
  refine ⟨k.os.trans h.os, k.tape.trans h.tape, k.output.trans h.output, Nat.le_trans h.size k.size, fun b hb hP hf ha => (k.block b (Nat.lt_of_lt_of_le hb h.size) hP (fun e => ?_) (fun e => ?_)).trans (h.block b hb hP hf ha), fun g hg => ?_⟩
  · rcases h.own b (Or.inl e) with q | q | q
    · exact hf q
    · exact ha q
    · omega
  · rcases h.own b (Or.inr e) with q | q | q
    · exact hf q
    · exact ha q
    · omega
  · rcases k.own g hg with q | q | q
    · exact h.own g (Or.inl q)
    · exact h.own g (Or.inr q)
    · have := h.size; exact Or.inr (Or.inr (by omega))
theorem JS.of_bel {P : Nat} {w w' : World} {fv av : Value} (h : Below w.heap.size w w') : JS P w w' fv av fv av :=
  ⟨h.os, h.tape, h.output, h.size, fun b hb _ _ _ => h.block b hb, fun _ h => h.imp id Or.inl⟩
theorem JS.below {P B : Nat} {w w' : World} {fv av fv' av' : Value} {st sta : Int} {xs : List Int} {ars : List ArcD} (h : JS P w w' fv av fv' av') (hJ : JW w P B st sta fv av xs ars) : Below B w w' :=
  ⟨h.os, h.tape, h.output, h.size, fun b hb => h.block b (by have := heap_lt hJ.box; have := hJ.hP; omega) (by have := hJ.hP; omega) (fun e => by have := own_base hJ.fin b e; omega) (fun e => by have := own_base hJ.arc b e; omega)⟩

theorem JW.below {w w' : World} {P B : Nat} {st sta : Int} {fv av : Value} {xs : List Int} {ars : List ArcD} (h : JW w P B st sta fv av xs ars) (hb : Below w.heap.size w w') : JW w' P B st sta fv av xs ars :=
  ⟨heap_bel hb h.box, ownsRow_bel h.fin hb, ownsRow_bel h.arc hb, h.hP, h.fP, h.aP, h.fa⟩
theorem JW.lt {w : World} {P B : Nat} {st sta : Int} {fv av : Value} {xs : List Int} {ars : List ArcD} (h : JW w P B st sta fv av xs ars) : P < w.heap.size := heap_lt h.box

/-- another number in the box -/
theorem JW.states {w : World} {P B : Nat} {st sta : Int} {fv av : Value} {xs : List Int} {ars : List ArcD} (h : JW w P B st sta fv av xs ars) (n : Int) : JW (w.setCell ⟨P, 0, none⟩ (.int .i64 n)) P B n sta fv av xs ars :=
  ⟨box_set (k := 0) h.box rfl, ownsRow_setCell_far h.fin h.fP, ownsRow_setCell_far h.arc h.aP, h.hP, h.fP, h.aP, h.fa⟩
theorem JW.start {w : World} {P B : Nat} {st sta : Int} {fv av : Value} {xs : List Int} {ars : List ArcD} (h : JW w P B st sta fv av xs ars) (n : Int) : JW (w.setCell ⟨P, 1, none⟩ (.int .i64 n)) P B st n fv av xs ars :=
  ⟨box_set (k := 1) h.box rfl, ownsRow_setCell_far h.fin h.fP, ownsRow_setCell_far h.arc h.aP, h.hP, h.fP, h.aP, h.fa⟩
theorem JS.set {P i : Nat} {w : World} {fv av u : Value} : JS P w (w.setCell ⟨P, i, none⟩ u) fv av fv av :=
  ⟨rfl, rfl, rfl, by simp [World.setCell], fun b _ hb _ _ => Below.heap_setCell w ⟨P, i, none⟩ u b hb, fun _ h => h.imp id Or.inl⟩

/-- arcs are put behind: w1 is w with blocks behind it, av' what append gives -/
theorem JW.arcs {w w1 w2 : World} {P B n : Nat} {st sta : Int} {fv av av' : Value} {xs : List Int} {ars more : List ArcD} (h : JW w P B st sta fv av xs ars) (hb : Below w.heap.size w w1)
    (hown : w2.ownsRow B 63 5 av' n (arcsV ars ++ arcsV more)) (hn : n = (ars ++ more).length) (hg : w1.grownBy w2 av.ownBlock) (hat : av'.ownBlock = av.ownBlock ∨ av'.ownBlock = some w1.heap.size) :
    JW (w2.setCell ⟨P, 3, none⟩ av') P B st sta fv av' xs (ars ++ more) ∧ JS P w (w2.setCell ⟨P, 3, none⟩ av') fv av fv av' := by
  have hlt := h.lt
  have hsz := hb.size
  have h1 := h.below hb
  have hap : av'.ownBlock ≠ some P := by
    rcases hat with e | e
    · rw [e]; exact h.aP
    · rw [e]; intro q; injection q with q; omega
  have hfa : ∀ g, fv.ownBlock = some g → av'.ownBlock ≠ some g := fun g hg' => by
    rcases hat with e | e
    · rw [e]; exact h.fa g hg'
    · rw [e]; intro q; injection q with q
      have := ownsRow_lt0 h.fin g hg'
      omega
  have hbox : w2.heap[P]? = some (.cells #[.int .i64 st, .int .i64 sta, fv, av] 84 (0, 0)) := (hg.block P (by omega) (fun e => h.aP e.symm)).trans h1.box
  have hfin : w2.ownsRow B 3 1 fv xs.length (xs.map (Value.int .i64)) := h1.fin.kept hg (by
    cases hf : fv.ownBlock with
    | none => exact Or.inl rfl
    | some g => exact Or.inr (fun e => h.fa g hf e.symm))
  have harc : w2.ownsRow B 63 5 av' (ars ++ more).length (arcsV (ars ++ more)) := by
    have e : arcsV (ars ++ more) = arcsV ars ++ arcsV more := by simp [arcsV]
    rw [e, ← hn]
    exact hown
  refine ⟨⟨box_set (k := 3) hbox rfl, ownsRow_setCell_far hfin h.fP, ownsRow_setCell_far harc hap, h.hP, h.fP, hap, hfa⟩, ?_⟩
  refine ⟨hg.os.trans hb.os, hg.tape.trans hb.tape, hg.output.trans hb.output, ?_, fun b hb' hP hf ha => ?_, fun g hg' => ?_⟩
  · have := hg.size
    simp [World.setCell]
    omega
  · rw [Below.heap_setCell _ _ _ _ hP, hg.block b (by omega) (fun e => ha e.symm)]
    exact hb.block b hb'
  · rcases hg' with e | e
    · exact Or.inl e
    · rcases hat with q | q
      · exact Or.inr (Or.inl (q ▸ e))
      · rw [q] at e; injection e with e; exact Or.inr (Or.inr (by omega))

/-- ends are put behind -/
theorem JW.ends {w w1 w2 : World} {P B n : Nat} {st sta : Int} {fv av fv' : Value} {xs more : List Int} {ars : List ArcD} (h : JW w P B st sta fv av xs ars) (hb : Below w.heap.size w w1)
    (hown : w2.ownsRow B 3 1 fv' n (xs.map (Value.int .i64) ++ more.map (Value.int .i64))) (hn : n = (xs ++ more).length) (hg : w1.grownBy w2 fv.ownBlock) (hat : fv'.ownBlock = fv.ownBlock ∨ fv'.ownBlock = some w1.heap.size) :
    JW (w2.setCell ⟨P, 2, none⟩ fv') P B st sta fv' av (xs ++ more) ars ∧ JS P w (w2.setCell ⟨P, 2, none⟩ fv') fv av fv' av := by
  have hlt := h.lt
  have hsz := hb.size
  have h1 := h.below hb
  have hap : fv'.ownBlock ≠ some P := by
    rcases hat with e | e
    · rw [e]; exact h.fP
    · rw [e]; intro q; injection q with q; omega
  have hfa : ∀ g, fv'.ownBlock = some g → av.ownBlock ≠ some g := fun g hg' => by
    rcases hat with e | e
    · rw [e] at hg'; exact h.fa g hg'
    · rw [e] at hg'; injection hg' with q
      intro ha
      have := ownsRow_lt0 h.arc g ha
      omega
  have hbox : w2.heap[P]? = some (.cells #[.int .i64 st, .int .i64 sta, fv, av] 84 (0, 0)) := (hg.block P (by omega) (fun e => h.fP e.symm)).trans h1.box
  have harc : w2.ownsRow B 63 5 av ars.length (arcsV ars) := h1.arc.kept hg (by
    cases hf : av.ownBlock with
    | none => exact Or.inl rfl
    | some g => exact Or.inr (fun e => h.fa g e.symm hf))
  have hfin : w2.ownsRow B 3 1 fv' (xs ++ more).length ((xs ++ more).map (Value.int .i64)) := by
    rw [List.map_append, ← hn]
    exact hown
  refine ⟨⟨box_set (k := 2) hbox rfl, ownsRow_setCell_far hfin hap, ownsRow_setCell_far harc h.aP, h.hP, hap, h.aP, hfa⟩, ?_⟩
  refine ⟨hg.os.trans hb.os, hg.tape.trans hb.tape, hg.output.trans hb.output, ?_, fun b hb' hP hf ha => ?_, fun g hg' => ?_⟩
  · have := hg.size
    simp [World.setCell]
    omega
  · rw [Below.heap_setCell _ _ _ _ hP, hg.block b (by omega) (fun e => hf e.symm)]
    exact hb.block b hb'
  · rcases hg' with e | e
    · rcases hat with q | q
      · exact Or.inl (q ▸ e)
      · rw [q] at e; injection e with e; exact Or.inr (Or.inr (by omega))
    · exact Or.inr (Or.inl e)

theorem own_sl {w : World} {B e size n : Nat} {v : Value} {xs : List Value} (h : w.ownsRow B e size v n xs) : ∃ a c, v = .slice a n c := by
  rcases h.2 with ⟨h1, h2⟩ | ⟨g, cap, cur, he, _⟩
  · subst h2; exact ⟨_, _, h1⟩
  · exact ⟨_, _, he⟩

end Go.Proofs.Yteehgcbjmdideaa
