/- The library's slices.Repeat of one number (for a seat without package fst's reader). -/
import Derived.Test.YteehgcbjmdideaaCheckF
import Derived.Test.YteehgcbjmdideaaShelf
import Derived.Maps.OwnRows
import Derived.Deep.OwnRows
import Derived.Deep.DrawnRows
import Derived.Outline
import Derived.Laws.CopyOwn
import Derived.Deep.RegionLaw
namespace Go.Proofs.Yteehgcbjmdideaa
open Go.RowKit
attribute [local go_sem ↓] Go.wp_at_zero Go.wp_at_succ

theorem Try.info3 : (Try.prog.info? 3).map (fun i => (i.zero, i.size, i.bytes)) = some (some (.int .i64 0), 1, 8) := by kernel_rfl

def rowR (x : Int) (m c : Nat) : List Value := List.replicate m (Value.int .i64 x) ++ List.replicate (c - m) (Value.int .i64 0)

theorem rowR_len (x : Int) (m c : Nat) (h : m ≤ c) : (rowR x m c).length = c := by simp [rowR]; omega
theorem rowR_made (x : Int) (c : Nat) : (rowR x 0 c).toArray = madeCells #[.int .i64 0] c := by
  unfold rowR madeCells
  apply Array.ext
  · simp
  · intro i h1 h2
    simp [Nat.mod_one]

theorem rowR_splice (x : Int) (m j c : Nat) (_h : m + j ≤ c) : splice (rowR x m c) m (List.replicate j (Value.int .i64 x)) = rowR x (m + j) c := by
  unfold splice rowR
  rw [List.take_left' (by simp), List.length_replicate, List.drop_append]
  rw [List.drop_of_length_le (by simp), List.nil_append, List.length_replicate, List.drop_replicate, ← List.append_assoc, List.replicate_append_replicate]
  congr 2
  omega

theorem rowR_get (x : Int) (m c i : Nat) (h : i < m) : (rowR x m c)[i]? = some (.int .i64 x) := by
  unfold rowR
  rw [List.getElem?_append_left (by simpa using h)]
  simp [h]

theorem min_fit (m c : Nat) (h : m ≤ c) : m + Nat.min m (c - m) ≤ c := by have := Nat.min_le_right m (c - m); show m + min m (c - m) ≤ c; omega
theorem one_rep (n : Nat) (x : Int) : ∀ v ∈ List.replicate n (Value.int .i64 x), v.oneCell' = true := by intro v hv; rw [List.eq_of_mem_replicate hv]; rfl
theorem hsrc (x : Int) (m c g : Nat) (w : World) (hg : Hid (w.heap[g]? = some (.cells (rowR x m c).toArray 3 (0, 0)))) (_hlt : m < c) (_hm : 1 ≤ m) : 0 < (List.replicate (Nat.min m (c - m)) (Value.int .i64 x)).length → (some (⟨g, m, none⟩ : Addr) = some ⟨g, m, none⟩ ∧ ∃ ad, some (⟨g, 0, none⟩ : Addr) = some ad ∧ ∀ j v, (List.replicate (Nat.min m (c - m)) (Value.int .i64 x))[j]? = some v → w.cell? (ad.add j) = some v) := by
  intro _
  refine ⟨rfl, _, rfl, fun j v hj => ?_⟩
  rw [List.getElem?_replicate] at hj
  split at hj
  · rename_i hjm
    have hjm' : j < m := Nat.lt_of_lt_of_le hjm (Nat.min_le_left _ _)
    injection hj with hj
    subst hj
    have hgg := hg.out
    have hr := rowR_get x m c j hjm'
    by_cases h0 : j = 0
    · subst h0; simp [Addr.add, World.cell?, hgg, hr]
    · simp [Addr.add, h0, World.cell?, hgg, hr]
  · cases hj

set_option maxHeartbeats 1000000 in
set_option maxRecDepth 1000000 in
theorem repeat_any (x : Int) (b off cap c : Nat) (w : World) (hx : w.cell? ⟨b, off, none⟩ = some (.int .i64 x)) (h1 : 1 ≤ c) (h2 : c ≤ 200) :
    Calls Try.prog 118 #[.slice (some ⟨b, off, none⟩) 1 cap, .int .i64 c] w fun e w' =>
      e = .returned (.slice (some ⟨w.heap.size, 0, none⟩) c c) ∧ w'.heap[w.heap.size]? = some (.cells (rowR x c c).toArray 3 (0, 0)) ∧ Below w.heap.size w w' := by
  have hmk := run_make_row' (P := Try.prog) 22 3 (.int .i64 0) 8 Try.underlying22 Try.info3 rfl .i64 .i64 c (by omega) (by omega)
  have hmul := Try.bits_Mul 1 c (by omega) (by omega) w
  have e1 : (1 * c / 18446744073709551616 : Nat) = 0 := by omega
  have e2 : (1 * c % 18446744073709551616 : Nat) = c := by omega
  rw [e1, e2] at hmul
  clear e1 e2
  have hbl := cell_lt hx
  go_enter Try.func118, Try.ntmps118
  have hz3 : (Try.prog.info? 3).map (·.size) = some 1 := by kernel_rfl
  have hg0 : (w.alloc (.cells (madeCells #[.int .i64 0] c) 3)).heap[w.heap.size]? = some (.cells (rowR x 0 c).toArray 3 (0, 0)) := by rw [rowR_made]; exact heap_alloc_new w _
  have hx0 : (w.alloc (.cells (madeCells #[.int .i64 0] c) 3)).cell? ⟨b, off, none⟩ = some (.int .i64 x) := old_cell hx
  have hcp : (Builtin.copy_ #[22, 22] 3 #[.slice (some ⟨w.heap.size, 0, none⟩) c c, .slice (some ⟨b, off, none⟩) 1 cap]).run Try.prog (w.alloc (.cells (madeCells #[.int .i64 0] c) 3)) = .ok (.int .i64 1) ((w.alloc (.cells (madeCells #[.int .i64 0] c) 3)).setRow w.heap.size (rowR x 1 c).toArray) := by
    have h := run_copy_row (P := Try.prog) (w.alloc (.cells (madeCells #[.int .i64 0] c) 3)) 22 22 3 3 w.heap.size 0 c c ⟨b, off, none⟩ 1 cap (rowR x 0 c).toArray 3 [.int .i64 x] Try.underlying22 hz3 hg0 (Nat.min_eq_left h1).symm
      (by intro j v hj
          match j, hj with
          | 0, hj => simp at hj; subst hj; simpa [Addr.add] using hx0)
      (by simp [rowR_len]; omega) (by intro v hv; simp at hv; subst hv; rfl)
    have e := rowR_splice x 0 1 c (by omega)
    unfold splice at e
    rw [← List.append_assoc] at e
    simp only [Nat.zero_add] at e h ⊢
    rw [h]
    simp only [List.length_singleton] at e ⊢
    rw [show ([Value.int .i64 x] : List Value) = List.replicate 1 (Value.int .i64 x) from rfl]
    simp only [List.length_replicate] at e
    rw [e]; rfl
  obtain ⟨w1, hw1⟩ : ∃ w1, w1 = (w.alloc (.cells (madeCells #[.int .i64 0] c) 3)).setRow w.heap.size (rowR x 1 c).toArray := ⟨_, rfl⟩
  have hg1 : Hid (w1.heap[w.heap.size]? = some (.cells (rowR x 1 c).toArray 3 (0, 0))) := by
    show w1.heap[w.heap.size]? = _
    rw [hw1]; exact setRow_heap _ _ _ _ _ _ hg0
  have hb1 : Below w.heap.size w w1 := by rw [hw1]; exact below_setRow (bel_up (bel_self w) _) (Nat.le_refl _) _
  rw [← hw1] at hcp
  clear hw1
  clear hg0 hx0 hx
  go_wp2_with (go_at_call 151; refine hmul.mono ?_; rintro e w' ⟨rfl, hw⟩; obtain rfl := hw.symm)
  go_loopw [8] (fun i wr => ∃ m : Nat, 1 ≤ m ∧ m ≤ c ∧ i = .int .i64 m ∧ Hid (wr.heap[w.heap.size]? = some (.cells (rowR x m c).toArray 3 (0, 0))) ∧ Below w.heap.size w wr) (fun i _ => c - (intOf i).toNat)
  case atStart => exact ⟨1, by omega, h1, rfl, hg1, hb1⟩
  case round =>
    clear hcp hg1 hb1
    obtain ⟨m, hm1, hm2, rfl, hg, hb⟩ := hrel
    by_cases hlt : m < c
    · have hne : ¬ c = m := by omega
      obtain ⟨j, hj⟩ : ∃ j, j = Nat.min m (c - m) := ⟨_, rfl⟩
      have hj1 : 1 ≤ j := by rw [hj]; show 1 ≤ min m (c - m); omega
      have hj2 : m + j ≤ c := by rw [hj]; exact min_fit m c hm2
      obtain ⟨w2, hw2⟩ : ∃ w2, w2 = wr.drew.setRow w.heap.size (rowR x (m + j) c).toArray := ⟨_, rfl⟩
      have hcp : (Builtin.copy_ #[22, 22] 3 #[.slice (some ⟨w.heap.size, m, none⟩) (c - m) (c - m), .slice (some ⟨w.heap.size, 0, none⟩) m c]).run Try.prog wr.drew = .ok (.int .i64 j) w2 := by
        have h := run_copy_row (P := Try.prog) wr.drew 22 22 3 3 w.heap.size m (c - m) (c - m) ⟨w.heap.size, 0, none⟩ m c (rowR x m c).toArray 3 (List.replicate j (.int .i64 x)) Try.underlying22 hz3 hg.out (by rw [List.length_replicate]; exact hj)
          (((hsrc x m c w.heap.size wr.drew hg hlt hm1) (by rw [← hj, List.length_replicate]; omega)).2.elim fun ad h => by have e := h.1; injection e with e; subst e; rw [hj]; exact h.2)
          (by simp [rowR_len _ _ _ hm2]; omega) (one_rep _ _)
        have e := rowR_splice x m j c hj2
        unfold splice at e
        rw [← List.append_assoc] at e
        rw [h, hw2]
        simp only [List.length_replicate] at e ⊢
        rw [e]; rfl
      have hg2 : Hid (w2.heap[w.heap.size]? = some (.cells (rowR x (m + j) c).toArray 3 (0, 0))) := by
        show w2.heap[w.heap.size]? = _
        rw [hw2]; exact setRow_heap _ _ _ _ _ _ hg.out
      have hb2 : Below w.heap.size w w2 := by rw [hw2]; exact below_setRow hb.drew (Nat.le_refl _) _
      clear hw2 hj
      go_wp2
      go_region
      go_wp2
      go_roundw
      case rel => exact ⟨m + j, by omega, hj2, by go_num, hg2, hb2⟩
      case measure => simp [intOf]; omega
    · have hmc : m = c := by omega
      subst hmc
      go_wp2
      go_ret
      exact ⟨rfl, hg.out, hb⟩

end Go.Proofs.Yteehgcbjmdideaa
