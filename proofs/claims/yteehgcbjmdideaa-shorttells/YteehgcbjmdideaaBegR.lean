/- 'Begun' of the document's answer. -/
import Derived.Test.YteehgcbjmdideaaOnlyS
import Derived.Test.YteehgcbjmdideaaRefC
import Derived.Maps.AppendAt
import Derived.Deep.AppendLies
namespace Go.Proofs.Yteehgcbjmdideaa
open Go.RowKit
attribute [local go_sem ↓] Go.wp_at_zero Go.wp_at_succ

/-- what states cost at the beginning -/
def begL (s : Int) (k : Nat) : List Int := (List.range k).map fun (i : Nat) => if (i : Int) = s then 0 else -1

theorem begL_len (s : Int) (k : Nat) : (begL s k).length = k := by simp [begL]
theorem begL_succ (s : Int) (k : Nat) : begL s (k + 1) = begL s k ++ [if (k : Int) = s then 0 else -1] := by simp [begL, List.range_succ]

theorem own_base {w : World} {B e size n : Nat} {v : Value} {xs : List Value} (h : w.ownsRow B e size v n xs) : ∀ g, v.ownBlock = some g → B ≤ g := by
  intro g hg
  obtain ⟨_, h⟩ := h
  rcases h with ⟨rfl, _⟩ | ⟨g', cap, cur, rfl, hB, _⟩
  · simp [Value.ownBlock] at hg
  · simp [Value.ownBlock] at hg; omega
theorem own_mono {w : World} {B B' e size n : Nat} {v : Value} {xs : List Value} (h : w.ownsRow B e size v n xs) (hB : B' ≤ B) : w.ownsRow B' e size v n xs := by
  obtain ⟨h0, h⟩ := h
  refine ⟨h0, ?_⟩
  rcases h with h | ⟨g, cap, cur, rfl, hg, h1⟩
  · exact Or.inl h
  · exact Or.inr ⟨g, cap, cur, rfl, by omega, h1⟩
theorem CellsF.grown {w w' : World} {o : Obj} {B : Nat} {st sta : Int} {fin arcs : Value} {row : Option Nat} (h : CellsF w B st sta fin arcs) (hg : (w.alloc o).grownBy w' row) (hne : some B ≠ row) : CellsF w' B st sta fin arcs := by
  have h1 := h.below (bel_up (bel_self w) o)
  have hl := cell_lt h1.1
  exact ⟨(hg.cell_far ⟨B, 0, none⟩ hl hne).trans h1.1, (hg.cell_far ⟨B, 1, none⟩ hl hne).trans h1.2.1, (hg.cell_far ⟨B, 2, none⟩ hl hne).trans h1.2.2.1, (hg.cell_far ⟨B, 3, none⟩ hl hne).trans h1.2.2.2⟩

set_option maxHeartbeats 1000000 in
set_option maxRecDepth 100000 in
theorem begunRef_any (n : Nat) (sta : Int) (fin arcs : Value) (w : World) (hn : n ≤ 200) :
    Calls Try.prog 53 #[.agg #[.int .i64 n, .int .i64 sta, fin, arcs]] w fun e w' =>
      ∃ v, e = .returned v ∧ w'.ownsRow w.heap.size 3 1 v n (intsW (begL sta n)) ∧ Below w.heap.size w w' := by
  obtain ⟨i0, hi, hz0, hz1, hz2⟩ := info_parts Try.info3
  go_enter Try.func53, Try.ntmps53
  go_wp2
  go_loopw [3, 4] (fun v i wr => ∃ k : Nat, k ≤ n ∧ i = .int .i64 k ∧ wr.ownsRow (w.heap.size + 1) 3 1 v k (intsW (begL sta k)) ∧ CellsF wr w.heap.size n sta fin arcs ∧ Below w.heap.size w wr) (fun _ i _ => n - (intOf i).toNat)
  case atStart => exact ⟨0, Nat.zero_le _, rfl, World.ownsRow_nil _ _ _ _, by simp [CellsF], bel_up (bel_self _) _⟩
  case round =>
    obtain ⟨k, hk, rfl, hown, hC, hb⟩ := hrel
    have hC' := hC
    obtain ⟨f0, f1, f2, f3⟩ := hC'
    have hsl := cell_lt f0
    by_cases hlt : k < n
    · by_cases hs : (k : Int) = sta
      · have hsb : ((k : Int) == sta) = true := by simpa using hs
        go_wp2_with (at_builtin; refine wpList_append_own _ rfl _ _ 22 rfl (w.heap.size + 1) 3 i0 (.int .i64 0) 1 8 Try.underlying22 hi hz0 hz1 hz2 rfl (by decide) _ _ _ rfl (hown.alloc _) ⟨wr.heap.size, 0, none⟩ 1 1 [.int .i64 0] rfl rfl ?c1 ?c2 ?c3 ?c4 ?c5 ?_)
        case c1 =>
          intro j u hj
          match j, hj with
          | 0, hj => simp at hj; subst hj; simp [Addr.add]
        case c2 => intro u hu; simp at hu; subst hu; rfl
        case c3 => unfold maxLen; omega
        case c4 => omega
        case c5 => have := hb.size; simp; omega
        intro v' w1 hown' hgrow _
        have hb1 : Below w.heap.size w w1 := (bel_up hb _).grown hgrow (by have := hb.size; simp; omega) (fun g hg => by have := own_base hown g hg; omega)
        have hC1 : CellsF w1 w.heap.size n sta fin arcs := hC.grown hgrow (fun h => by have := own_base hown _ h.symm; omega)
        clear hgrow hown hb hC
        go_wp2
        go_roundw
        case rel => exact ⟨k + 1, by omega, by go_num, by rw [begL_succ, if_pos hs]; simpa [intsW] using hown', hC1, hb1⟩
        case measure => simp [intOf]; omega
      · have hsb : ((k : Int) == sta) = false := by simpa using hs
        go_wp2_with (at_builtin; refine wpList_append_own _ rfl _ _ 22 rfl (w.heap.size + 1) 3 i0 (.int .i64 0) 1 8 Try.underlying22 hi hz0 hz1 hz2 rfl (by decide) _ _ _ rfl (hown.alloc _) ⟨wr.heap.size, 0, none⟩ 1 1 [.int .i64 (-1)] rfl rfl ?c1 ?c2 ?c3 ?c4 ?c5 ?_)
        case c1 =>
          intro j u hj
          match j, hj with
          | 0, hj => simp at hj; subst hj; simp [Addr.add]
        case c2 => intro u hu; simp at hu; subst hu; rfl
        case c3 => unfold maxLen; omega
        case c4 => omega
        case c5 => have := hb.size; simp; omega
        intro v' w1 hown' hgrow _
        have hb1 : Below w.heap.size w w1 := (bel_up hb _).grown hgrow (by have := hb.size; simp; omega) (fun g hg => by have := own_base hown g hg; omega)
        have hC1 : CellsF w1 w.heap.size n sta fin arcs := hC.grown hgrow (fun h => by have := own_base hown _ h.symm; omega)
        clear hgrow hown hb hC
        go_wp2
        go_roundw
        case rel => exact ⟨k + 1, by omega, by go_num, by rw [begL_succ, if_neg hs]; simpa [intsW] using hown', hC1, hb1⟩
        case measure => simp [intOf]; omega
    · have hkn : k = n := by omega
      subst hkn
      go_wp2
      go_ret
      exact ⟨_, rfl, own_mono hown (Nat.le_succ _), hb⟩

end Go.Proofs.Yteehgcbjmdideaa
