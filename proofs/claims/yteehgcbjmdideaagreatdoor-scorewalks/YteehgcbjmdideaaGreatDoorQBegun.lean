/- 'Trim' whole; 'one' and 'fstBegun' of the statements. -/
import Derived.Test.YteehgcbjmdideaaGreatDoorQML
import Derived.Test.YteehgcbjmdideaaGreatDoorQMA
import Derived.Test.YteehgcbjmdideaaGreatDoorQSame
namespace Go.Proofs.YteehgcbjmdideaaGreatDoor
open Go.RowKit Go.Maps Go.ChangeShapes
attribute [local go_sem ↓] Go.wp_at_zero Go.wp_at_succ

theorem trim_any (f : FstD) (fin arcs : Value) (w : World) (hf : ISlice w fin f.final) (ha : ASlice w arcs f.arcs) :
    Calls Tryz.prog 8 #[.agg #[.int .i64 f.states, .int .i64 f.start, fin, arcs]] w fun e w' =>
      ((checkD f ≠ 0 ∧ e = .returned (.tuple #[.agg #[.int .i64 0, .int .i64 0, .slice none 0 0, .slice none 0 0], .int .i64 (checkD f)])) ∨ (checkD f = 0 ∧ TrimRes f e w')) ∧ Below w.heap.size w w' := by
  by_cases hc : checkD f = 0
  · have ok := check_ok f hc
    obtain ⟨st, sta, xs, ars⟩ := f
    have hb := inB_le ok.states
    have hs := inB_le ok.start
    have hlen := ok.len
    simp only at hb hs hlen hf ha
    obtain ⟨N, rfl⟩ : ∃ N : Nat, st = N := ⟨st.toNat, by omega⟩
    obtain ⟨s0, rfl⟩ : ∃ s0 : Nat, sta = s0 := ⟨sta.toNat, by omega⟩
    obtain ⟨fa, fn, fc, rfl, hfl, hfm⟩ := hf.lenOf
    obtain ⟨aa, n, ac, rfl, hal, ham⟩ := ha.lenOf
    obtain ⟨fb, off, rfl, hx⟩ := hf.some (by omega)
    have hfn : fn = N := by omega
    subst hfn
    have hmany : n ≤ 3000 := by have := ok.many; simp only at this; omega
    have hok : ∀ a ∈ ars, (0 ≤ a.src ∧ a.src < (fn : Int)) ∧ (0 ≤ a.dst ∧ a.dst < (fn : Int)) := fun a h => by
      have o := ok.arcs a h
      have q1 := inB_le o.src
      have q2 := inB_le o.dst
      simp only at q1 q2
      omega
    by_cases hS : Stays ⟨fn, s0, xs, ars⟩ s0
    · exact (trim_some fn s0 xs ars fb off fc aa n ac w hx ha hal hmany (by omega) (by omega) (by omega) hfm hok (fun x hx => (finB_out (ok.fin x hx)).2) (fun a h => arcOk_in64 (ok.arcs a h) hb.1 hb.2) hc hS).mono fun e w' ⟨h1, h2⟩ => ⟨Or.inr ⟨hc, h1⟩, h2⟩
    · exact (trim_none fn s0 xs ars _ aa n ac w hf (by omega) ha hal hmany (by omega) (by omega) (by omega) hok hc hS).mono fun e w' ⟨h1, h2⟩ => ⟨Or.inr ⟨hc, h1⟩, h2⟩
  · exact (trim_bad f fin arcs w hf ha (by simpa using hc)).mono fun e w' ⟨h1, h2⟩ => ⟨Or.inl ⟨hc, h1⟩, h2⟩

def arcOne : ArcD := ⟨0, 1, 2, 1, 5⟩

theorem one_any (w : World) :
    Calls Tryz.prog 15 #[] w fun e w' => e = .returned (.agg #[.int .i64 2, .int .i64 0, .slice (some ⟨w.heap.size + 1, 0, none⟩) 2 2, .slice (some ⟨w.heap.size + 2, 0, none⟩) 1 1]) ∧
      ISlice w' (.slice (some ⟨w.heap.size + 1, 0, none⟩) 2 2) oneD.final ∧ ASlice w' (.slice (some ⟨w.heap.size + 2, 0, none⟩) 1 1) oneD.arcs ∧ Below w.heap.size w w' := by
  have hsz : ∀ (x : World) (o : Obj), (x.alloc o).heap.size = x.heap.size + 1 := fun x o => by simp
  have r1 := (World.ownsRow_lit (base := 0) (e := 3) (size := 1) (w.alloc (.cells #[.int .i64 2, .int .i64 0, .slice (some ⟨w.heap.size + 1, 0, none⟩) 2 2, .slice (some ⟨w.heap.size + 1 + 1, 0, none⟩) 1 1] 25)) #[.int .i64 (-1), .int .i64 1] 2 (Nat.zero_le _) (by decide) rfl).alloc (.cells #[.int .i64 0, .int .i64 1, .int .i64 2, .int .i64 1, .int .i64 5] 35)
  have r2 := World.ownsRow_lit (base := 0) (e := 35) (size := 5) ((w.alloc (.cells #[.int .i64 2, .int .i64 0, .slice (some ⟨w.heap.size + 1, 0, none⟩) 2 2, .slice (some ⟨w.heap.size + 1 + 1, 0, none⟩) 1 1] 25)).alloc (.cells #[.int .i64 (-1), .int .i64 1] 3)) #[.int .i64 0, .int .i64 1, .int .i64 2, .int .i64 1, .int .i64 5] 1 (Nat.zero_le _) (by decide) rfl
  rw [hsz] at r1
  rw [hsz, hsz] at r2
  clear hsz
  go_enter Tryz.func15, Tryz.ntmps15
  go_wp2
  exact bodyPost_ret (v := .agg #[.int .i64 2, .int .i64 0, .slice (some ⟨w.heap.size + 1, 0, none⟩) 2 2, .slice (some ⟨w.heap.size + 1 + 1, 0, none⟩) 1 1]) (by simp [results, Tryz.results15, go_sem]) rfl ⟨rfl, ownsRow_ints (xs := oneD.final) r1, ownsRow_arcs (ars := oneD.arcs) r2, bel_up (bel_up (bel_up (bel_self w) _) _) _⟩

theorem itoa_lit (n : Nat) (h : n < 10) : Lib.itoa (n : Int) = [UInt8.ofNat (48 + n)] := by rw [Lib.itoa_nonneg, dec_small h]

def oneS : List UInt8 := [115, 116, 97, 116, 101, 115, 32, 50, 32, 115, 116, 97, 114, 116, 32, 48, 10, 102, 105, 110, 97, 108, 32, 49, 32, 49, 10, 48, 32, 49, 32, 50, 32, 49, 32, 53, 10]

theorem print_oneD : printD oneD = oneS := by
  have i0 : Lib.itoa 0 = [48] := itoa_lit 0 (by decide)
  have i1 : Lib.itoa 1 = [49] := itoa_lit 1 (by decide)
  have i2 : Lib.itoa 2 = [50] := itoa_lit 2 (by decide)
  have i5 : Lib.itoa 5 = [53] := itoa_lit 5 (by decide)
  unfold printD
  show headB 2 0 ++ finalsB [-1, 1] 2 ++ arcsB [⟨0, 1, 2, 1, 5⟩] 1 = oneS
  have e1 : headB 2 0 = [115, 116, 97, 116, 101, 115, 32, 50, 32, 115, 116, 97, 114, 116, 32, 48, 10] := by
    unfold headB; rw [i2, i0]; rfl
  have e2 : finalsB [-1, 1] 2 = [102, 105, 110, 97, 108, 32, 49, 32, 49, 10] := by
    show (if (-1 : Int) = -1 then [] else finalB 0 (-1)) ++ ((if (1 : Int) = -1 then [] else finalB 1 1) ++ []) = _
    rw [if_pos rfl, if_neg (by decide)]
    unfold finalB
    have i1' : Lib.itoa ((1 : Nat) : Int) = [49] := i1
    rw [i1', i1]; rfl
  have e3 : arcsB [⟨0, 1, 2, 1, 5⟩] 1 = [48, 32, 49, 32, 50, 32, 49, 32, 53, 10] := by
    show arcB ⟨0, 1, 2, 1, 5⟩ ++ [] = _
    unfold arcB
    simp only [i0, i1, i2, i5]; rfl
  rw [e1, e2, e3]; rfl

theorem print_one (fin arcs : Value) (w : World) (hf : ISlice w fin oneD.final) (ha : ASlice w arcs oneD.arcs) (ht : TabW w) :
    Calls Tryz.prog 16 #[.agg #[.int .i64 2, .int .i64 0, fin, arcs]] w fun e w' => e = .returned (.tuple #[.string (strOf oneS), .int .i64 0]) ∧ Below w.heap.size w w' := by
  refine (print_any oneD fin arcs w hf ha ht).mono fun e w' ⟨h1, h2⟩ => ⟨?_, h2⟩
  rw [h1, check_one, if_pos rfl, print_oneD]

theorem parse_one (w : World) (hsh : w.ShapedOpen Tryz.prog) :
    Calls Tryz.prog 17 #[.string (strOf oneS)] w fun e w' => (∃ a n c b m d, e = .returned (.tuple #[.agg #[.int .i64 2, .int .i64 0, .slice a n c, .slice b m d], .int .i64 0, .int .i64 0]) ∧ ISlice w' (.slice a n c) oneD.final ∧ ASlice w' (.slice b m d) oneD.arcs) ∧ Below w.heap.size w w' := by
  refine (parse_any (strOf oneS) w (by decide) hsh).mono fun e w' ⟨⟨fv, av, h1, h2, h3⟩, hb⟩ => ⟨?_, hb⟩
  have hp : parseD (listOf (strOf oneS)) = ⟨oneD, 0, 0⟩ := by
    rw [listOf_strOf, ← print_oneD]
    exact parse_print oneD check_one (by rw [print_oneD]; decide)
  rw [hp] at h1 h2 h3
  obtain ⟨a, n, c, rfl, _, _⟩ := h2.lenOf
  obtain ⟨b, m, d, rfl, _, _⟩ := h3.lenOf
  exact ⟨a, n, c, b, m, d, h1, h2, h3⟩

theorem trim_oneW (fin arcs : Value) (w : World) (hf : ISlice w fin oneD.final) (ha : ASlice w arcs oneD.arcs) :
    Calls Tryz.prog 8 #[.agg #[.int .i64 2, .int .i64 0, fin, arcs]] w fun e w' => (∃ a n c b m d, e = .returned (.tuple #[.agg #[.int .i64 2, .int .i64 0, .slice a n c, .slice b m d], .int .i64 0]) ∧ ISlice w' (.slice a n c) oneD.final ∧ ASlice w' (.slice b m d) oneD.arcs) ∧ Below w.heap.size w w' := by
  refine (trim_any oneD fin arcs w hf ha).mono fun e w' ⟨h, hb⟩ => ⟨?_, hb⟩
  rcases h with ⟨h0, _⟩ | ⟨_, t, fv, av, h1, h2, h3, h4⟩
  · exact absurd check_one h0
  · have ht : t = oneD := h2.unique trim_one
    subst ht
    obtain ⟨a, n, c, rfl, _, _⟩ := h3.lenOf
    obtain ⟨b, m, d, rfl, _, _⟩ := h4.lenOf
    exact ⟨a, n, c, b, m, d, h1, h3, h4⟩

theorem check_oneW (fin arcs : Value) (w : World) (hf : ISlice w fin oneD.final) (ha : ASlice w arcs oneD.arcs) :
    Calls Tryz.prog 18 #[.agg #[.int .i64 2, .int .i64 0, fin, arcs]] w fun e w' => e = .returned (.int .i64 0) ∧ Below w.heap.size w w' := by
  refine (check_any oneD fin arcs w hf ha).mono fun e w' ⟨h1, h2⟩ => ⟨?_, h2⟩
  rw [h1, check_one]

theorem sameD_self (f : FstD) : sameD f f = true := by simp [sameD]

theorem same_oneW (fin arcs fin' arcs' : Value) (w : World) (hf : ISlice w fin oneD.final) (ha : ASlice w arcs oneD.arcs) (hf' : ISlice w fin' oneD.final) (ha' : ASlice w arcs' oneD.arcs) :
    Calls Tryz.prog 19 #[.agg #[.int .i64 2, .int .i64 0, fin, arcs], .agg #[.int .i64 2, .int .i64 0, fin', arcs']] w fun e w' => e = .returned (.bool true) ∧ Below w.heap.size w w' := by
  refine (sameFst_any oneD oneD fin arcs fin' arcs' w hf ha hf' ha').mono fun e w' ⟨h1, h2⟩ => ⟨?_, h2⟩
  rw [h1, sameD_self]

end Go.Proofs.YteehgcbjmdideaaGreatDoor
