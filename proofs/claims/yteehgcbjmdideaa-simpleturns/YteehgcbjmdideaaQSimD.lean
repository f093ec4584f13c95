/- 'Invert' and 'Project' of package simple. -/
import Derived.Test.YteehgcbjmdideaaQMT
import Derived.Test.YteehgcbjmdideaaQMP
namespace Go.Proofs.Yteehgcbjmdideaa
open Go.RowKit
attribute [local go_sem ↓] Go.wp_at_zero Go.wp_at_succ

/-- numbers in a block of their own from B on (or none) -/
def IFrom (B : Nat) (w : World) (v : Value) (xs : List Int) : Prop :=
  (∃ a cap, v = .slice a 0 cap ∧ xs = []) ∨ ∃ g n cap, B ≤ g ∧ v = .slice (some ⟨g, 0, none⟩) n cap ∧ IntsAt w g 0 n xs ∧ n ≤ maxLen
theorem IFrom.slice {B : Nat} {w : World} {v : Value} {xs : List Int} (h : IFrom B w v xs) : ISlice w v xs := by
  rcases h with h | ⟨g, n, cap, _, h1, h2, h3⟩
  · exact Or.inl h
  · exact Or.inr ⟨g, 0, n, cap, h1, h2, h3⟩
theorem IFrom.mono {B B' : Nat} {w : World} {v : Value} {xs : List Int} (h : IFrom B w v xs) (hB : B' ≤ B) : IFrom B' w v xs := by
  rcases h with h | ⟨g, n, cap, h0, h1, h2, h3⟩
  · exact Or.inl h
  · exact Or.inr ⟨g, n, cap, Nat.le_trans hB h0, h1, h2, h3⟩
theorem IFrom.set {B P i : Nat} {w : World} {v u : Value} {xs : List Int} (h : IFrom B w v xs) (hP : P < B) : IFrom B (w.setCell ⟨P, i, none⟩ u) v xs := by
  rcases h with h | ⟨g, n, cap, h0, h1, h2, h3⟩
  · exact Or.inl h
  · exact Or.inr ⟨g, n, cap, h0, h1, ⟨h2.len, fun i hi => by rw [set_far (by omega)]; exact h2.cell i hi⟩, h3⟩
theorem own_ifrom {w : World} {B e : Nat} {v : Value} {xs : List Int} (h : w.ownsRow B e 1 v xs.length (xs.map (Value.int .i64))) : IFrom B w v xs := by
  have hs := ownsRow_ints h
  rcases h.2 with ⟨h1, h2⟩ | ⟨g, cap, cur, he, hB, _⟩
  · exact Or.inl ⟨none, 0, h1, List.length_eq_zero_iff.1 h2⟩
  · subst he
    rcases hs with ⟨a, c, q, q'⟩ | ⟨b, off, n, c, q, q1, q2⟩
    · injection q with q0 q1 q2
      exact Or.inl ⟨some ⟨g, 0, none⟩, cap, by rw [q1], q'⟩
    · cases q
      exact Or.inr ⟨g, _, cap, hB, rfl, q1, q2⟩

/-- a transducer and an errno are answered -/
def FstRes (w : World) (f : FstD) (c : Int) (e : Ending) (w' : World) : Prop :=
  ∃ fa fn fc ba bn bc, e = .returned (.tuple #[.agg #[.int .i64 f.states, .int .i64 f.start, .slice fa fn fc, .slice ba bn bc], .int .i64 c]) ∧ IFrom w.heap.size w' (.slice fa fn fc) f.final ∧ AFrom w.heap.size w' (.slice ba bn bc) f.arcs ∧ Below w.heap.size w w'

def mapD (h : ArcD → ArcD) (f : FstD) : FstD := ⟨f.states, f.start, f.final, leastL (f.arcs.map h)⟩

set_option maxHeartbeats 1000000 in
set_option maxRecDepth 100000 in
theorem invert_bad (f : FstD) (fin arcs : Value) (c : Int) (w : World) (hf : ISlice w fin f.final) (ha : ASlice w arcs f.arcs) (hc : checkD f = c) (h0 : (c == 0) = false) :
    Calls Try.prog 16 #[.agg #[.int .i64 f.states, .int .i64 f.start, fin, arcs]] w fun e w' => FstRes w ⟨0, 0, [], []⟩ c e w' := by
  obtain ⟨fa, fn, fc, rfl, _, _⟩ := hf.lenOf
  obtain ⟨ba, bn, bc, rfl, _, _⟩ := ha.lenOf
  have h0n : (c != 0) = true := by simpa using h0
  have hall := all_at2 f _ _ c w hf ha hc
  clear hc
  go_enter Try.func16, Try.ntmps16
  go_wp2_with (go_at_call 59; refine hall.mono ?_; rintro e w1 ⟨rfl, hb1, _, hz1, _, _⟩; obtain ⟨z0, z1, z2, z3, y0, y1, y2, y3⟩ := zfacts hz1)
  exact bodyPost_ret (v := .tuple #[.agg #[.int .i64 0, .int .i64 0, .slice none 0 0, .slice none 0 0], .int .i64 c]) (by simp [results, Try.results16, go_sem, *]) rfl ⟨_, _, _, _, _, _, rfl, Or.inl ⟨_, _, rfl, rfl⟩, Or.inl ⟨_, _, rfl, rfl⟩, bel_set4 hb1 (by omega) _ _ _ _⟩

theorem farS {w : World} {B B' P : Nat} {fv av : Value} {xs : List Int} {ars : List ArcD} (h1 : w.ownsRow B 3 1 fv xs.length (xs.map (Value.int .i64))) (h2 : AFrom B w av ars) (hP : P < B) (hB : B' ≤ B) (u0 u1 u2 u3 : Value) :
    IFrom B' ((((w.setCell ⟨P, 0, none⟩ u0).setCell ⟨P, 1, none⟩ u1).setCell ⟨P, 2, none⟩ u2).setCell ⟨P, 3, none⟩ u3) fv xs ∧ AFrom B' ((((w.setCell ⟨P, 0, none⟩ u0).setCell ⟨P, 1, none⟩ u1).setCell ⟨P, 2, none⟩ u2).setCell ⟨P, 3, none⟩ u3) av ars :=
  ⟨(((((own_ifrom h1).set (i := 0) (u := u0) hP).set (i := 1) (u := u1) hP).set (i := 2) (u := u2) hP).set (i := 3) (u := u3) hP).mono hB, ((((h2.set (i := 0) (u := u0) hP).set (i := 1) (u := u1) hP).set (i := 2) (u := u2) hP).set (i := 3) (u := u3) hP).mono hB⟩

set_option maxHeartbeats 1000000 in
set_option maxRecDepth 100000 in
theorem invert_ok (f : FstD) (fin arcs : Value) (w : World) (hf : ISlice w fin f.final) (ha : ASlice w arcs f.arcs) (hc : checkD f = 0) :
    Calls Try.prog 16 #[.agg #[.int .i64 f.states, .int .i64 f.start, fin, arcs]] w fun e w' => FstRes w (mapD invA f) 0 e w' := by
  obtain ⟨fa, fn, fc, rfl, _, _⟩ := hf.lenOf
  obtain ⟨ba, bn, bc, rfl, _, _⟩ := ha.lenOf
  have hall := all_at2 f _ _ 0 w hf ha hc
  obtain ⟨N, s0, hok⟩ := okF f hc
  have hfl : f.final.length ≤ 1000 := by have := hok.len; have := hok.n2; omega
  have hm := hok.many
  clear hc hok hf ha
  go_enter Try.func16, Try.ntmps16
  go_wp2_with (first
    | (go_at_call 59; refine hall.mono ?_; rintro e w1 ⟨rfl, hb1, hC1, hz1, hf1, ha1⟩; obtain ⟨q0, q1, q2, q3⟩ := hC1; have hlt := heap_lt hz1)
    | (go_at_call 60; refine (turned_any invA 61 gI1 (fun a W => inv_one a W) f _ _ w1 hf1 ha1 hfl hm).mono ?_; rintro e w2 ⟨fv, av, rfl, hI2, hA2, hb2⟩; obtain ⟨ga, gn, gc, rfl, _, _⟩ := (ownsRow_ints hI2).lenOf; obtain ⟨ea, en, ec, rfl, _, _⟩ := hA2.slice.lenOf; have hz2 := heap_bel hb2 hz1; obtain ⟨z0, z1, z2, z3, y0, y1, y2, y3⟩ := zfacts hz2; clear q0 q1 q2 q3 hf1 ha1 hz1))
  obtain ⟨g1, g2⟩ := farS hI2 hA2 hlt hb1.size (.int .i64 f.states) (.int .i64 f.start) (.slice ga gn gc) (.slice ea en ec)
  exact bodyPost_ret (v := .tuple #[.agg #[.int .i64 f.states, .int .i64 f.start, .slice ga gn gc, .slice ea en ec], .int .i64 0]) (by simp [results, Try.results16, go_sem, z0, z1, z2, z3]) rfl ⟨_, _, _, _, _, _, rfl, g1, g2, bel_set4 (bel_on hb1 hb2) (by omega) _ _ _ _⟩
set_option maxHeartbeats 1000000 in
set_option maxRecDepth 100000 in
theorem project_bad (side : Int) (f : FstD) (fin arcs : Value) (c : Int) (w : World) (hf : ISlice w fin f.final) (ha : ASlice w arcs f.arcs) (hc : checkD f = c) (h0 : (c == 0) = false) :
    Calls Try.prog 17 #[.agg #[.int .i64 f.states, .int .i64 f.start, fin, arcs], .int .i64 side] w fun e w' => FstRes w ⟨0, 0, [], []⟩ c e w' := by
  obtain ⟨fa, fn, fc, rfl, _, _⟩ := hf.lenOf
  obtain ⟨ba, bn, bc, rfl, _, _⟩ := ha.lenOf
  have h0n : (c != 0) = true := by simpa using h0
  have hall := all_at2 f _ _ c w hf ha hc
  clear hc
  go_enter Try.func17, Try.ntmps17
  go_wp2_with (go_at_call 59; refine hall.mono ?_; rintro e w1 ⟨rfl, hb1, _, hz1, _, _⟩; obtain ⟨z0, z1, z2, z3, y0, y1, y2, y3⟩ := zfacts hz1)
  exact bodyPost_ret (v := .tuple #[.agg #[.int .i64 0, .int .i64 0, .slice none 0 0, .slice none 0 0], .int .i64 c]) (by simp [results, Try.results17, go_sem, *]) rfl ⟨_, _, _, _, _, _, rfl, Or.inl ⟨_, _, rfl, rfl⟩, Or.inl ⟨_, _, rfl, rfl⟩, bel_set4 hb1 (by omega) _ _ _ _⟩

set_option maxHeartbeats 1000000 in
set_option maxRecDepth 100000 in
theorem project_in (side : Int) (hs : side = 1) (f : FstD) (fin arcs : Value) (w : World) (hf : ISlice w fin f.final) (ha : ASlice w arcs f.arcs) (hc : checkD f = 0) :
    Calls Try.prog 17 #[.agg #[.int .i64 f.states, .int .i64 f.start, fin, arcs], .int .i64 side] w fun e w' => FstRes w (mapD inA f) 0 e w' := by
  obtain ⟨fa, fn, fc, rfl, _, _⟩ := hf.lenOf
  obtain ⟨ba, bn, bc, rfl, _, _⟩ := ha.lenOf
  have hall := all_at2 f _ _ 0 w hf ha hc
  obtain ⟨N, s0, hok⟩ := okF f hc
  have hfl : f.final.length ≤ 1000 := by have := hok.len; have := hok.n2; omega
  have hm := hok.many
  clear hc hok hf ha
  subst hs
  go_enter Try.func17, Try.ntmps17
  go_wp2_with (first
    | (go_at_call 59; refine hall.mono ?_; rintro e w1 ⟨rfl, hb1, hC1, hz1, hf1, ha1⟩; obtain ⟨q0, q1, q2, q3⟩ := hC1; have hlt := heap_lt hz1)
    | (go_at_call 60; refine (turned_any inA 62 gP1 (fun a W => in_one a W) f _ _ w1 hf1 ha1 hfl hm).mono ?_; rintro e w2 ⟨fv, av, rfl, hI2, hA2, hb2⟩; obtain ⟨ga, gn, gc, rfl, _, _⟩ := (ownsRow_ints hI2).lenOf; obtain ⟨ea, en, ec, rfl, _, _⟩ := hA2.slice.lenOf; have hz2 := heap_bel hb2 hz1; obtain ⟨z0, z1, z2, z3, y0, y1, y2, y3⟩ := zfacts hz2; clear q0 q1 q2 q3 hf1 ha1 hz1))
  obtain ⟨g1, g2⟩ := farS hI2 hA2 hlt hb1.size (.int .i64 f.states) (.int .i64 f.start) (.slice ga gn gc) (.slice ea en ec)
  exact bodyPost_ret (v := .tuple #[.agg #[.int .i64 f.states, .int .i64 f.start, .slice ga gn gc, .slice ea en ec], .int .i64 0]) (by simp [results, Try.results17, go_sem, z0, z1, z2, z3]) rfl ⟨_, _, _, _, _, _, rfl, g1, g2, bel_set4 (bel_on hb1 hb2) (by omega) _ _ _ _⟩
set_option maxHeartbeats 1000000 in
set_option maxRecDepth 100000 in
theorem project_out (side : Int) (hs : side = 2) (f : FstD) (fin arcs : Value) (w : World) (hf : ISlice w fin f.final) (ha : ASlice w arcs f.arcs) (hc : checkD f = 0) :
    Calls Try.prog 17 #[.agg #[.int .i64 f.states, .int .i64 f.start, fin, arcs], .int .i64 side] w fun e w' => FstRes w (mapD outA f) 0 e w' := by
  obtain ⟨fa, fn, fc, rfl, _, _⟩ := hf.lenOf
  obtain ⟨ba, bn, bc, rfl, _, _⟩ := ha.lenOf
  have hall := all_at2 f _ _ 0 w hf ha hc
  obtain ⟨N, s0, hok⟩ := okF f hc
  have hfl : f.final.length ≤ 1000 := by have := hok.len; have := hok.n2; omega
  have hm := hok.many
  clear hc hok hf ha
  subst hs
  go_enter Try.func17, Try.ntmps17
  go_wp2_with (first
    | (go_at_call 59; refine hall.mono ?_; rintro e w1 ⟨rfl, hb1, hC1, hz1, hf1, ha1⟩; obtain ⟨q0, q1, q2, q3⟩ := hC1; have hlt := heap_lt hz1)
    | (go_at_call 60; refine (turned_any outA 63 gP2 (fun a W => out_one a W) f _ _ w1 hf1 ha1 hfl hm).mono ?_; rintro e w2 ⟨fv, av, rfl, hI2, hA2, hb2⟩; obtain ⟨ga, gn, gc, rfl, _, _⟩ := (ownsRow_ints hI2).lenOf; obtain ⟨ea, en, ec, rfl, _, _⟩ := hA2.slice.lenOf; have hz2 := heap_bel hb2 hz1; obtain ⟨z0, z1, z2, z3, y0, y1, y2, y3⟩ := zfacts hz2; clear q0 q1 q2 q3 hf1 ha1 hz1))
  obtain ⟨g1, g2⟩ := farS hI2 hA2 hlt hb1.size (.int .i64 f.states) (.int .i64 f.start) (.slice ga gn gc) (.slice ea en ec)
  exact bodyPost_ret (v := .tuple #[.agg #[.int .i64 f.states, .int .i64 f.start, .slice ga gn gc, .slice ea en ec], .int .i64 0]) (by simp [results, Try.results17, go_sem, z0, z1, z2, z3]) rfl ⟨_, _, _, _, _, _, rfl, g1, g2, bel_set4 (bel_on hb1 hb2) (by omega) _ _ _ _⟩
set_option maxHeartbeats 1000000 in
set_option maxRecDepth 100000 in
theorem project_no (side : Int) (h1 : side ≠ 1) (h2 : side ≠ 2) (f : FstD) (fin arcs : Value) (w : World) (hf : ISlice w fin f.final) (ha : ASlice w arcs f.arcs) (hc : checkD f = 0) :
    Calls Try.prog 17 #[.agg #[.int .i64 f.states, .int .i64 f.start, fin, arcs], .int .i64 side] w fun e w' => FstRes w ⟨0, 0, [], []⟩ 3 e w' := by
  obtain ⟨fa, fn, fc, rfl, _, _⟩ := hf.lenOf
  obtain ⟨ba, bn, bc, rfl, _, _⟩ := ha.lenOf
  have e1 : (side == 1) = false := by simpa using h1
  have e2 : (side == 2) = false := by simpa using h2
  have hall := all_at2 f _ _ 0 w hf ha hc
  clear hc h1 h2
  go_enter Try.func17, Try.ntmps17
  go_wp2_with (go_at_call 59; refine hall.mono ?_; rintro e w1 ⟨rfl, hb1, _, hz1, _, _⟩; obtain ⟨z0, z1, z2, z3, y0, y1, y2, y3⟩ := zfacts hz1)
  exact bodyPost_ret (v := .tuple #[.agg #[.int .i64 0, .int .i64 0, .slice none 0 0, .slice none 0 0], .int .i64 3]) (by simp [results, Try.results17, go_sem, *]) rfl ⟨_, _, _, _, _, _, rfl, Or.inl ⟨_, _, rfl, rfl⟩, Or.inl ⟨_, _, rfl, rfl⟩, bel_set4 hb1 (by omega) _ _ _ _⟩

end Go.Proofs.Yteehgcbjmdideaa
