/- The document's 'Ended'. -/
import Derived.Test.YteehgcbjmdideaaQM15
import Derived.Test.YteehgcbjmdideaaQM01
import Derived.Test.YteehgcbjmdideaaQM11
import Derived.Test.YteehgcbjmdideaaQM13
namespace Go.Proofs.Yteehgcbjmdideaa
open Go.RowKit
attribute [local go_sem ↓] Go.wp_at_zero Go.wp_at_succ

set_option maxHeartbeats 400000 in
theorem plusBig_any (a b : Int) (w : World) (ha2 : a ≤ 1000000000000000) (hb2 : b ≤ 1000000000000) :
    Calls Try.prog 74 #[.int .i64 a, .int .i64 b] w fun e w' => e = .returned (.int .i64 (plusC a b)) ∧ w' = w := by
  by_cases h1 : a < 0
  · go_enter Try.func74, Try.ntmps74
    go_wp2
    go_ret
    exact ⟨ret_int (by unfold plusC; split <;> omega), rfl⟩
  · by_cases h2 : b < 0
    · go_enter Try.func74, Try.ntmps74
      go_wp2
      go_ret
      exact ⟨ret_int (by unfold plusC; split <;> omega), rfl⟩
    · have h1' : 0 ≤ a := by omega
      have h2' : 0 ≤ b := by omega
      go_enter Try.func74, Try.ntmps74
      go_wp2
      go_ret
      exact ⟨ret_int (by unfold plusC; split <;> omega), rfl⟩

/-- the best of the first k states to end at -/
def endD (c fin : List Int) : Nat → Int
  | 0 => -1
  | k + 1 => lessC (endD c fin k) (plusC (gI c k) (gI fin k))

theorem endD_is (c fin : List Int) (k : Nat) : (endD c fin k = -1 ∧ ∀ n, n < k → ¬ (0 ≤ gI c n ∧ 0 ≤ gI fin n)) ∨ (0 ≤ endD c fin k ∧ (∃ n, n < k ∧ 0 ≤ gI c n ∧ 0 ≤ gI fin n ∧ endD c fin k = gI c n + gI fin n) ∧ ∀ n, n < k → 0 ≤ gI c n → 0 ≤ gI fin n → endD c fin k ≤ gI c n + gI fin n) := by
  induction k with
  | zero => exact Or.inl ⟨rfl, fun n hn => by omega⟩
  | succ k ih =>
    have e : endD c fin (k + 1) = lessC (endD c fin k) (plusC (gI c k) (gI fin k)) := rfl
    rw [e]
    by_cases hk : 0 ≤ gI c k ∧ 0 ≤ gI fin k
    · have hp : plusC (gI c k) (gI fin k) = gI c k + gI fin k := by unfold plusC; rw [if_neg (by omega)]
      rw [hp]
      right
      rcases ih with ⟨h1, h2⟩ | ⟨h1, ⟨n, g1, g2, g3, g4⟩, h3⟩
      · have hl : lessC (endD c fin k) (gI c k + gI fin k) = gI c k + gI fin k := by unfold lessC; rw [if_pos (by omega)]
        rw [hl]
        refine ⟨by omega, ⟨k, by omega, hk.1, hk.2, rfl⟩, fun n hn a b => ?_⟩
        by_cases e : n = k
        · subst e; omega
        · exact absurd ⟨a, b⟩ (h2 n (by omega))
      · by_cases hlt : endD c fin k < gI c k + gI fin k
        · have hl : lessC (endD c fin k) (gI c k + gI fin k) = endD c fin k := by unfold lessC; rw [if_neg (by omega), if_pos (Or.inr hlt)]
          rw [hl]
          refine ⟨h1, ⟨n, by omega, g2, g3, g4⟩, fun n hn a b => ?_⟩
          by_cases e : n = k
          · subst e; omega
          · exact h3 n (by omega) a b
        · have hl : lessC (endD c fin k) (gI c k + gI fin k) = gI c k + gI fin k := by unfold lessC; rw [if_neg (by omega), if_neg (by omega)]
          rw [hl]
          refine ⟨by omega, ⟨k, by omega, hk.1, hk.2, rfl⟩, fun n hn a b => ?_⟩
          by_cases e : n = k
          · subst e; omega
          · have := h3 n (by omega) a b; omega
    · have hp : plusC (gI c k) (gI fin k) = -1 := by unfold plusC; rw [if_pos (by omega)]
      rw [hp]
      have hl : lessC (endD c fin k) (-1) = endD c fin k := by
        unfold lessC
        rcases ih with ⟨h1, _⟩ | ⟨h1, _⟩
        · rw [if_pos (by omega), h1]
        · rw [if_neg (by omega), if_pos (Or.inl (by omega))]
      rw [hl]
      rcases ih with ⟨h1, h2⟩ | ⟨h1, ⟨n, g1, g2⟩, h3⟩
      · refine Or.inl ⟨h1, fun n hn => ?_⟩
        by_cases e : n = k
        · subst e; exact hk
        · exact h2 n (by omega)
      · refine Or.inr ⟨h1, ⟨n, by omega, g2⟩, fun n hn a b => ?_⟩
        by_cases e : n = k
        · subst e; exact absurd ⟨a, b⟩ hk
        · exact h3 n (by omega) a b

theorem endD_hi (c fin : List Int) (h1 : ∀ v, gI c v ≤ 400001000000000) (h2 : ∀ v, gI fin v ≤ 1000000000) (k : Nat) : endD c fin k ≤ 400002000000000 := by
  rcases endD_is c fin k with ⟨h, _⟩ | ⟨_, ⟨n, _, _, _, h⟩, _⟩
  · omega
  · have := h1 n; have := h2 n; omega

set_option maxHeartbeats 1000000 in
set_option maxRecDepth 100000 in
theorem ended_any (f : FstD) (N G cap fb fo fc : Nat) (sta : Int) (arcs : Value) (c : List Int) (w : World) (hN : N ≤ 200) (hG : NumsAt w G N c) (hf : IntsAt w fb fo N f.final) (h1 : ∀ v, gI c v ≤ 400001000000000) (h2 : ∀ v, gI f.final v ≤ 1000000000) :
    Calls Try.prog 54 #[.agg #[.int .i64 (N : Int), .int .i64 sta, .slice (some ⟨fb, fo, none⟩) N fc, arcs], .slice (some ⟨G, 0, none⟩) N cap] w fun e w' => e = .returned (.int .i64 (endD c f.final N)) ∧ Below w.heap.size w w' := by
  have hb0 := bel_up (bel_self w) (.cells #[.int .i64 (N : Int), .int .i64 sta, .slice (some ⟨fb, fo, none⟩) N fc, arcs] 25)
  have hcf := cellsF_new w (N : Int) sta (.slice (some ⟨fb, fo, none⟩) N fc) arcs 25
  have HFL : Hid (f.final.length = N) := hf.len
  have HH : Hid ((∀ v, gI c v ≤ 400001000000000) ∧ ∀ v, gI f.final v ≤ 1000000000) := ⟨h1, h2⟩
  have H1 : Hid (∀ wx, Below w.heap.size w wx → NumsAt wx G N c ∧ IntsAt wx fb fo N f.final) := fun wx h => ⟨hG.below h, hf.below h⟩
  clear h1 h2 hG hf
  go_enter Try.func54, Try.ntmps54
  go_wp2
  go_loopw [5, 6] (fun t i wr => ∃ k : Nat, k ≤ N ∧ i = .int .i64 k ∧ t = .int .i64 (endD c f.final k) ∧ CellsF wr w.heap.size (N : Int) sta (.slice (some ⟨fb, fo, none⟩) N fc) arcs ∧ Below w.heap.size w wr) (fun _ i _ => N - (intOf i).toNat)
  case atStart => exact ⟨0, Nat.zero_le _, rfl, rfl, hcf, hb0⟩
  case round =>
    obtain ⟨k, hk, rfl, rfl, hC, hb⟩ := hrel
    have hC' := hC
    obtain ⟨q0, q1, q2, q3⟩ := hC
    by_cases hlt : k < N
    · obtain ⟨g1, g2⟩ := H1.out wr hb
      have c0 := g1.cell k hlt
      have d0 := g2.cell k hlt
      have e2 : f.final.getD k 0 = gI f.final k := by
        have := HFL.out
        unfold gI
        simp [List.getD, show k < f.final.length by omega]
      rw [e2] at d0
      obtain ⟨x, hx⟩ : ∃ x, x = gI c k := ⟨_, rfl⟩
      obtain ⟨z, hz⟩ : ∃ z, z = gI f.final k := ⟨_, rfl⟩
      have hx1 : x ≤ 1000000000000000 := by have := HH.out.1 k; omega
      have hz1 : z ≤ 1000000000000 := by have := HH.out.2 k; omega
      rw [← hx] at c0
      rw [← hz] at d0
      have HXZ : Hid (x = gI c k ∧ z = gI f.final k) := ⟨hx, hz⟩
      have hki : (k : Int) < N := by omega
      have hpl := fun W => plusBig_any x z W hx1 hz1
      have hls := fun W => lessRef_any (endD c f.final k) (plusC x z) W
      clear hx hz g1 g2 e2 hx1 hz1
      go_wp2
      go_quiet (first | (go_at_call 74; refine Calls.quiet_of_same (hpl _)) | (go_at_call 27; refine Calls.quiet_of_same (hls _)))
      go_wp2
      go_roundw
      case rel =>
        refine ⟨k + 1, by omega, by go_num, ?_, hC'.below (bel_drewN (bel_self _) _), bel_drewN hb _⟩
        rw [HXZ.out.1, HXZ.out.2]
        rfl
      case measure => simp [intOf]; omega
    · have hkN : k = N := by omega
      subst hkN
      go_wp2
      go_ret
      exact ⟨rfl, hb⟩
end Go.Proofs.Yteehgcbjmdideaa

/- 'one' of the statements, a transducer of two states and one arc. -/
namespace Go.Proofs.Yteehgcbjmdideaa
open Go.RowKit
attribute [local go_sem ↓] Go.wp_at_zero Go.wp_at_succ

def oneD : FstD := ⟨2, 0, [-1, 1], [⟨0, 1, 2, 1, 5⟩]⟩
theorem check_one : checkD oneD = 0 := by decide

theorem one_any (w : World) :
    Calls Try.prog 55 #[] w fun e w' => e = .returned (.agg #[.int .i64 2, .int .i64 0, .slice (some ⟨w.heap.size + 1, 0, none⟩) 2 2, .slice (some ⟨w.heap.size + 2, 0, none⟩) 1 1]) ∧
      ISlice w' (.slice (some ⟨w.heap.size + 1, 0, none⟩) 2 2) oneD.final ∧ ASlice w' (.slice (some ⟨w.heap.size + 2, 0, none⟩) 1 1) oneD.arcs ∧ Below w.heap.size w w' := by
  have hsz : ∀ (x : World) (o : Obj), (x.alloc o).heap.size = x.heap.size + 1 := fun x o => by simp
  have r1 := (World.ownsRow_lit (base := 0) (e := 3) (size := 1) (w.alloc (.cells #[.int .i64 2, .int .i64 0, .slice (some ⟨w.heap.size + 1, 0, none⟩) 2 2, .slice (some ⟨w.heap.size + 1 + 1, 0, none⟩) 1 1] 25)) #[.int .i64 (-1), .int .i64 1] 2 (Nat.zero_le _) (by decide) rfl).alloc (.cells #[.int .i64 0, .int .i64 1, .int .i64 2, .int .i64 1, .int .i64 5] 63)
  have r2 := World.ownsRow_lit (base := 0) (e := 63) (size := 5) ((w.alloc (.cells #[.int .i64 2, .int .i64 0, .slice (some ⟨w.heap.size + 1, 0, none⟩) 2 2, .slice (some ⟨w.heap.size + 1 + 1, 0, none⟩) 1 1] 25)).alloc (.cells #[.int .i64 (-1), .int .i64 1] 3)) #[.int .i64 0, .int .i64 1, .int .i64 2, .int .i64 1, .int .i64 5] 1 (Nat.zero_le _) (by decide) rfl
  rw [hsz] at r1
  rw [hsz, hsz] at r2
  clear hsz
  go_enter Try.func55, Try.ntmps55
  go_wp2
  exact bodyPost_ret (v := .agg #[.int .i64 2, .int .i64 0, .slice (some ⟨w.heap.size + 1, 0, none⟩) 2 2, .slice (some ⟨w.heap.size + 1 + 1, 0, none⟩) 1 1]) (by simp [results, Try.results55, go_sem]) rfl ⟨rfl, ownsRow_ints (xs := oneD.final) r1, ownsRow_arcs (ars := oneD.arcs) r2, bel_up (bel_up (bel_up (bel_self w) _) _) _⟩

theorem one_ex (w : World) :
    Calls Try.prog 55 #[] w fun e w' => ∃ N M : Nat, e = .returned (.agg #[.int .i64 2, .int .i64 0, .slice (some ⟨N, 0, none⟩) 2 2, .slice (some ⟨M, 0, none⟩) 1 1]) ∧
      ISlice w' (.slice (some ⟨N, 0, none⟩) 2 2) oneD.final ∧ ASlice w' (.slice (some ⟨M, 0, none⟩) 1 1) oneD.arcs ∧ Below w.heap.size w w' :=
  (one_any w).mono fun _ _ ⟨h1, h2, h3, h4⟩ => ⟨_, _, h1, h2, h3, h4⟩
end Go.Proofs.Yteehgcbjmdideaa

/- What the document's tables say is the least cost; 'one' and its words. -/
namespace Go.Proofs.Yteehgcbjmdideaa
open Go.RowKit

theorem best_fix {E : List Edg} {b c : List Int} {fin : Nat → Int} {x : Int} (ha : Ach E b c) (hb : LeC c b) (hf : Fix E c) (hx : (x = -1 ∧ ∀ v, 0 ≤ gI c v → ¬ 0 ≤ fin v) ∨ (0 ≤ x ∧ (∃ v, 0 ≤ gI c v ∧ 0 ≤ fin v ∧ x = gI c v + fin v) ∧ ∀ v, 0 ≤ gI c v → 0 ≤ fin v → x ≤ gI c v + fin v)) : IsBest E b fin x := by
  rcases hx with ⟨h1, h2⟩ | ⟨h1, ⟨v, g1, g2, g3⟩, h3⟩
  · exact Or.inl ⟨h1, fun v h z hw => h2 v (fix_le hb hf hw).1⟩
  · refine Or.inr ⟨h1, ?_, fun v h z hw h0 => ?_⟩
    · rcases ha v with e | ⟨k, hk⟩
      · omega
      · exact ⟨v, k, _, hk, g2, g3⟩
    · obtain ⟨q1, q2⟩ := fix_le hb hf hw
      have := h3 v q1 h0
      omega

theorem last_place (N I O : Nat) : (I * (O + 1) + O) * N = (I + 1) * (O + 1) * N - N := by
  have := spotN_end N I O 0
  unfold spotN at this
  omega

theorem doc_best {f : FstD} {ins outs : List Int} {N s0 : Nat} {c : List Int} (hl : c.length = totS ins outs N) (ha : Ach (EdS f ins outs N) (bgS s0 (totS ins outs N)) c) (hb : LeC c (bgS s0 (totS ins outs N))) (hf : Fix (EdS f ins outs N) c) :
    IsBest (EdS f ins outs N) (bgS s0 (totS ins outs N)) (finS (totS ins outs N) N f.final) (endD (segL c N (ins.length * (outs.length + 1) + outs.length)) f.final N) := by
  refine best_fix ha hb hf ?_
  have hp := last_place N ins.length outs.length
  have hNT : N ≤ totS ins outs N := by
    unfold totS
    have : 1 * N ≤ (ins.length + 1) * (outs.length + 1) * N := Nat.mul_le_mul_right N (Nat.mul_pos (by omega) (by omega))
    omega
  have hseg : ∀ n, n < N → gI (segL c N (ins.length * (outs.length + 1) + outs.length)) n = gI c (totS ins outs N - N + n) := fun n hn => by
    rw [segL_at _ _ _ _ hn, hp]
    rfl
  have hfin : ∀ n, finS (totS ins outs N) N f.final (totS ins outs N - N + n) = gI f.final n := fun n => by
    unfold finS
    rw [if_pos (by omega)]
    congr 1
    omega
  have hcov : ∀ v, 0 ≤ gI c v → 0 ≤ finS (totS ins outs N) N f.final v → ∃ n, n < N ∧ v = totS ins outs N - N + n := fun v h0 h1 => by
    have hv : v < totS ins outs N := by
      rcases Nat.lt_or_ge v c.length with h | h
      · omega
      · rw [out_gI c v h] at h0; omega
    unfold finS at h1
    split at h1
    · exact ⟨v - (totS ins outs N - N), by omega, by omega⟩
    · omega
  rcases endD_is (segL c N (ins.length * (outs.length + 1) + outs.length)) f.final N with ⟨h1, h2⟩ | ⟨h1, ⟨n, g1, g2, g3, g4⟩, h3⟩
  · refine Or.inl ⟨h1, fun v h0 hf0 => ?_⟩
    obtain ⟨n, hn, rfl⟩ := hcov v h0 hf0
    rw [hfin] at hf0
    exact h2 n hn ⟨by rw [hseg n hn]; exact h0, hf0⟩
  · refine Or.inr ⟨h1, ⟨totS ins outs N - N + n, by rw [← hseg n g1]; exact g2, by rw [hfin]; exact g3, by rw [hfin, ← hseg n g1]; exact g4⟩, fun v h0 hf0 => ?_⟩
    obtain ⟨n, hn, rfl⟩ := hcov v h0 hf0
    rw [hfin] at hf0 ⊢
    have := h3 n hn (by rw [hseg n hn]; exact h0) hf0
    rw [hseg n hn] at this
    exact this

theorem okW_one {ins outs : List Int} (h1 : ins.length ≤ 40) (h2 : outs.length ≤ 40) : OkW oneD ins outs 2 0 where
  n1 := by decide
  n2 := by decide
  s := by decide
  i40 := h1
  o40 := h2
  many := by decide
  arcs := by
    intro a ha
    simp [oneD] at ha
    subst ha
    decide
  sort := (arcsErr_sorted _ _ _ (check_ok oneD check_one).err).1
  len := rfl
  fin := by
    intro x hx
    simp [oneD] at hx
    omega

theorem ach_start (E : List Edg) (b : List Int) (hb : ∀ v, gI b v = -1 ∨ 0 ≤ gI b v) : Ach E b b := fun v => (hb v).imp id fun h => ⟨0, rfl, h⟩

theorem bgS_lo (s T v : Nat) : gI (bgS s T) v = -1 ∨ 0 ≤ gI (bgS s T) v := by
  rw [bgS_at]
  split
  · right; decide
  · left; rfl

theorem fix_list {E : List Edg} {c : List Int} (h : E.all (fun e => decide (0 ≤ gI c e.u → 0 ≤ gI c e.v ∧ gI c e.v ≤ gI c e.u + e.w)) = true) : Fix E c := by
  intro e he
  rw [List.all_eq_true] at h
  exact of_decide_eq_true (h e he)

theorem best_one : IsBest (EdS oneD [1] [2] 2) (bgS 0 (totS [1] [2] 2)) (finS (totS [1] [2] 2) 2 oneD.final) 6 := by
  obtain ⟨h1, h2, _⟩ := relAll_round (E := EdS oneD [1] [2] 2) (b := bgS 0 (totS [1] [2] 2)) (EdS oneD [1] [2] 2) (bgS 0 (totS [1] [2] 2)) (fun _ h => h) (fun e he => by have := (okW_one (ins := [1]) (outs := [2]) (by decide) (by decide)).edges e he; rw [bgS_len]; exact ⟨this.1, this.2.1⟩) (ach_start _ _ (bgS_lo _ _))
  have h3 := doc_best (f := oneD) (ins := [1]) (outs := [2]) (N := 2) (s0 := 0) (by rw [relAll_len, bgS_len]) h1 h2 (fix_list (by decide))
  exact h3

theorem best_none : IsBest (EdS oneD [] [] 2) (bgS 0 (totS [] [] 2)) (finS (totS [] [] 2) 2 oneD.final) (-1) := by
  obtain ⟨h1, h2, _⟩ := relAll_round (E := EdS oneD [] [] 2) (b := bgS 0 (totS [] [] 2)) (EdS oneD [] [] 2) (bgS 0 (totS [] [] 2)) (fun _ h => h) (fun e he => by have := (okW_one (ins := []) (outs := []) (by decide) (by decide)).edges e he; rw [bgS_len]; exact ⟨this.1, this.2.1⟩) (ach_start _ _ (bgS_lo _ _))
  have h3 := doc_best (f := oneD) (ins := []) (outs := []) (N := 2) (s0 := 0) (by rw [relAll_len, bgS_len]) h1 h2 (fix_list (by decide))
  exact h3

/-- the one way back -/
theorem way_one {c y : List Int} {l : List Int} {n : Nat} (hn : n < 2) (hf : 0 ≤ gI oneD.final n) (h : BWay oneD [1] [2] 2 0 c y l.reverse n 1 1) : l = [0] := by
  have hn1 : n = 1 := by
    rcases (show n = 0 ∨ n = 1 by omega) with rfl | rfl
    · exact absurd hf (by decide)
    · rfl
  subst hn1
  have hr : l.reverse = [0] := by
    match hl : l.reverse, h with
    | [], h => exact absurd h.1 (by decide)
    | k :: r, h =>
      obtain ⟨n', i', o', ⟨j, a, e1, _, e2, e3, _, _, _, e4, e5, _⟩, hr⟩ := h
      have hj : j = 0 := by
        obtain ⟨hj, _⟩ := List.getElem?_eq_some_iff.1 e2
        simp [oneD] at hj
        exact hj
      subst hj
      simp [oneD] at e2
      subst e2
      have hn' : n' = 0 := by simpa using e3.symm
      have hi' : i' = 0 := by simp [usedBy] at e4; omega
      have ho' : o' = 0 := by simp [usedBy] at e5; omega
      subst hn' hi' ho'
      match r, hr with
      | [], _ => rw [e1]; rfl
      | k2 :: r2, hr =>
        obtain ⟨_, _, _, ⟨j2, a2, _, _, g2, _, g3, _⟩, _⟩ := hr
        exfalso
        have hj : j2 = 0 := by
          obtain ⟨hj, _⟩ := List.getElem?_eq_some_iff.1 g2
          simp [oneD] at hj
          exact hj
        subst hj
        simp [oneD] at g2
        subst g2
        simp at g3
  have := congrArg List.reverse hr
  simpa using this
end Go.Proofs.Yteehgcbjmdideaa

/- 'scoreBegun' of the statements. -/
namespace Go.Proofs.Yteehgcbjmdideaa
open Go.RowKit
attribute [local go_sem ↓] Go.wp_at_zero Go.wp_at_succ

theorem lit_one (w : World) (x : Int) (g : Nat) (hg : w.heap.size = g) : ISlice (w.alloc (.cells #[.int .i64 x] 3)) (.slice (some ⟨g, 0, none⟩) 1 1) [x] := by
  subst hg
  have h := World.ownsRow_lit (base := 0) (e := 3) (size := 1) w #[.int .i64 x] 1 (Nat.zero_le _) (by decide) rfl
  exact ownsRow_ints (xs := [x]) h

theorem nil_int (w : World) : ISlice w (.slice none 0 0) [] := Or.inl ⟨none, 0, rfl, rfl⟩

theorem score_lit (ins outs : List Int) (x : Int) (h1 : wordD ins = 0) (h2 : wordD outs = 0) (hx : IsBest (EdS oneD ins outs 2) (bgS 0 (totS ins outs 2)) (finS (totS ins outs 2) 2 oneD.final) x) (N M : Nat) (iv ov : Value) (w : World) (hf : ISlice w (.slice (some ⟨N, 0, none⟩) 2 2) oneD.final) (ha : ASlice w (.slice (some ⟨M, 0, none⟩) 1 1) oneD.arcs) (hI : ISlice w iv ins) (hO : ISlice w ov outs) :
    Calls Try.prog 10 #[.agg #[.int .i64 2, .int .i64 0, .slice (some ⟨N, 0, none⟩) 2 2, .slice (some ⟨M, 0, none⟩) 1 1], iv, ov] w fun e w' => e = .returned (.tuple #[.int .i64 x, .int .i64 0]) ∧ Below w.heap.size w w' := by
  refine (score_any oneD ins outs _ _ _ _ w hf ha hI hO).mono ?_
  rintro e w' ⟨z, c, rfl, ⟨h3, _, h4⟩, hb⟩
  have hc : c = 0 := by
    rw [h3]
    unfold chkS
    rw [if_pos check_one, if_pos h1, h2]
  subst hc
  obtain ⟨N', s', e1, e2, _, hz⟩ := h4 rfl
  have e1' : N' = 2 := by have : (2 : Int) = N' := e1; omega
  have e2' : s' = 0 := by have : (0 : Int) = s' := e2; omega
  subst e1' e2'
  rw [hz.unique hx]
  exact ⟨rfl, hb⟩

theorem walk_lit (N M : Nat) (ib ob : Nat) (w : World) (hf : ISlice w (.slice (some ⟨N, 0, none⟩) 2 2) oneD.final) (ha : ASlice w (.slice (some ⟨M, 0, none⟩) 1 1) oneD.arcs) (hI : ISlice w (.slice (some ⟨ib, 0, none⟩) 1 1) [1]) (hO : ISlice w (.slice (some ⟨ob, 0, none⟩) 1 1) [2]) :
    Calls Try.prog 51 #[.agg #[.int .i64 2, .int .i64 0, .slice (some ⟨N, 0, none⟩) 2 2, .slice (some ⟨M, 0, none⟩) 1 1], .slice (some ⟨ib, 0, none⟩) 1 1, .slice (some ⟨ob, 0, none⟩) 1 1] w fun e w' => ∃ g off uc, e = .returned (.tuple #[.slice (some ⟨g, off, none⟩) 1 uc, .int .i64 6, .int .i64 0]) ∧ w'.cell? ⟨g, off, none⟩ = some (.int .i64 0) ∧ Below w.heap.size w w' := by
  refine (walk_ok oneD [1] [2] 2 0 _ (some ⟨M, 0, none⟩) 1 1 (some ⟨ib, 0, none⟩) 1 1 (some ⟨ob, 0, none⟩) 1 1 w hf ha rfl check_one hI rfl (by decide) hO rfl (by decide) rfl rfl (okW_one (by decide) (by decide)) (by intro a h; simp [oneD] at h; subst h; decide)).mono ?_
  rintro e w' ⟨ua, un, uc, l, best, rfl, hu, hul, hb, _, hw, hbl⟩
  have hb6 : best = 6 := hb.unique best_one
  subst hb6
  obtain ⟨c, y, n, _, hla, hbw⟩ := hw (by decide)
  have hl := way_one hla.1 hla.2.2.2.1 hbw
  subst hl
  have hun : un = 1 := hul.symm
  subst hun
  obtain ⟨g, off, rfl, hx⟩ := hu.some (by omega)
  have := hx.cell 0 (by omega)
  exact ⟨g, off, uc, rfl, by simpa using this, hbl⟩

set_option maxHeartbeats 1000000 in
set_option maxRecDepth 100000 in
theorem scoreBegun_any (w : World) : Calls Try.prog 13 #[] w fun e w' => e = .returned (.bool true) ∧ Below w.heap.size w w' := by
  go_enter Try.func13, Try.ntmps13
  go_wp2_with (go_at_call 55; refine (one_ex _).mono ?_; rintro e w1 ⟨N1, M1, rfl, hf1, ha1, hb1⟩)
  have hu1 := two_up w1 (.cells #[.int .i64 1] 3) (.cells #[.int .i64 2] 3)
  have hi1 := (lit_one w1 1 _ rfl).below (bel_up (bel_self _) (.cells #[.int .i64 2] 3))
  have ho1 := lit_one (w1.alloc (.cells #[.int .i64 1] 3)) 2 _ (one_size _ _)
  refine (score_lit [1] [2] 6 (by decide) (by decide) best_one N1 M1 _ _ _ (hf1.below hu1) (ha1.below hu1) hi1 ho1).mono ?_
  rintro e w2 ⟨rfl, hb2⟩
  have hc2 := bel_on (bel_on hb1 hu1) hb2
  clear hf1 ha1 hb1 hu1 hi1 ho1 hb2
  go_wp2_with (go_at_call 55; refine (one_ex _).mono ?_; rintro e w3 ⟨N3, M3, rfl, hf3, ha3, hb3⟩)
  refine (score_lit [] [] (-1) (by decide) (by decide) best_none N3 M3 _ _ _ hf3 ha3 (nil_int _) (nil_int _)).mono ?_
  rintro e w4 ⟨rfl, hb4⟩
  have hc4 := bel_on (bel_on hc2 hb3) hb4
  clear hf3 ha3 hb3 hb4 hc2
  go_wp2_with (go_at_call 55; refine (one_ex _).mono ?_; rintro e w5 ⟨N5, M5, rfl, hf5, ha5, hb5⟩)
  have hu5 := two_up w5 (.cells #[.int .i64 1] 3) (.cells #[.int .i64 2] 3)
  have hi5 := (lit_one w5 1 _ rfl).below (bel_up (bel_self _) (.cells #[.int .i64 2] 3))
  have ho5 := lit_one (w5.alloc (.cells #[.int .i64 1] 3)) 2 _ (one_size _ _)
  refine (walk_lit N5 M5 _ _ _ (hf5.below hu5) (ha5.below hu5) hi5 ho5).mono ?_
  rintro e w6 ⟨g, off, uc, rfl, hcell, hb6⟩
  have hc6 := bel_on (bel_on (bel_on hc4 hb5) hu5) hb6
  clear hf5 ha5 hb5 hu5 hi5 ho5 hb6 hc4
  have hu6 := bel_up (bel_self w6) (.cells #[.int .i64 1] 3)
  have hw6 := word_any [1] _ 1 1 _ (lit_one w6 1 _ rfl) rfl
  rw [show wordD [1] = 0 by decide] at hw6
  go_wp2_with (go_at_call 14; refine hw6.mono ?_; rintro e w7 ⟨rfl, hb7⟩)
  go_ret
  exact ⟨rfl, bel_on (bel_on hc6 hu6) hb7⟩
end Go.Proofs.Yteehgcbjmdideaa

/- The document's 'ScoreOf', where 'Costs' is known. -/
namespace Go.Proofs.Yteehgcbjmdideaa
open Go.RowKit
attribute [local go_sem ↓] Go.wp_at_zero Go.wp_at_succ

/-- what 'Costs' answers: the last row of its tables -/
def CostsEnd (w : World) (f : FstD) (ins outs : List Int) (N s0 il ol : Nat) (e : Ending) (w' : World) : Prop :=
  ∃ c T tc H hc G gc, e = .returned (.slice (some ⟨T, 0, none⟩) (il + 1) tc) ∧ w'.cell? ⟨T, il, none⟩ = some (.slice (some ⟨H, 0, none⟩) (ol + 1) hc) ∧ w'.cell? ⟨H, ol, none⟩ = some (.slice (some ⟨G, 0, none⟩) N gc) ∧ NumsAt w' G N (segL c N (ins.length * (outs.length + 1) + outs.length)) ∧
    c.length = totS ins outs N ∧ Ach (EdS f ins outs N) (bgS s0 (totS ins outs N)) c ∧ LeC c (bgS s0 (totS ins outs N)) ∧ Fix (EdS f ins outs N) c ∧ (∀ v, gI c v ≤ 400001000000000) ∧ Below w.heap.size w w'

def CostsTell : Prop :=
  ∀ (f : FstD) (ins outs : List Int) (N s0 G0 cap0 : Nat) (fin : Value) (aa : Option Addr) (m ac : Nat) (ia : Option Addr) (il ic : Nat) (oa : Option Addr) (ol oc : Nat) (w : World), OkW f ins outs N s0 → (∀ a ∈ f.arcs, (0 ≤ a.inp ∧ a.inp ≤ 9) ∧ (0 ≤ a.out ∧ a.out ≤ 9)) → ASlice w (.slice aa m ac) f.arcs → f.arcs.length = m → ISlice w (.slice ia il ic) ins → ins.length = il → ISlice w (.slice oa ol oc) outs → outs.length = ol → NumsAt w G0 N (begL (s0 : Int) N) →
    Calls Try.prog 52 #[.agg #[.int .i64 (N : Int), .int .i64 (s0 : Int), fin, .slice aa m ac], .slice (some ⟨G0, 0, none⟩) N cap0, .slice ia il ic, .slice oa ol oc] w fun e w' => CostsEnd w f ins outs N s0 il ol e w'

theorem row_nums {w : World} {B e g n cap : Nat} {xs : List Int} (h : w.ownsRow B e 1 (.slice (some ⟨g, 0, none⟩) n cap) n (intsW xs)) (hl : xs.length = n) : NumsAt w g n xs := by
  have hx : intsW xs = xs.map (Value.int .i64) := by simp [intsW]
  have h' := h.2
  rcases h' with ⟨h0, _⟩ | ⟨g', cap', cur, hv, hg, hb, h1, h2, h3, h4⟩
  · cases h0
  · cases hv
    refine ⟨hl, fun i hi => ?_, fun i => Go.Joins.unfrozen_of_block hb i, heap_lt hb⟩
    have := h.cellAt i (by omega)
    rw [this]
    simp [hx, gI, List.getD, show i < xs.length by omega]

set_option maxHeartbeats 2000000 in
set_option maxRecDepth 100000 in
theorem scoreOf_ok (HC : CostsTell) (f : FstD) (ins outs : List Int) (N s0 : Nat) (fa : Option Addr) (fn fc : Nat) (aa : Option Addr) (m ac : Nat) (ia : Option Addr) (il ic : Nat) (oa : Option Addr) (ol oc : Nat) (w : World) (hok : OkW f ins outs N s0) (hlet : ∀ a ∈ f.arcs, (0 ≤ a.inp ∧ a.inp ≤ 9) ∧ (0 ≤ a.out ∧ a.out ≤ 9)) (hf : ISlice w (.slice fa fn fc) f.final) (ha : ASlice w (.slice aa m ac) f.arcs) (hal : f.arcs.length = m) (hI : ISlice w (.slice ia il ic) ins) (hil : ins.length = il) (hO : ISlice w (.slice oa ol oc) outs) (hol : outs.length = ol) (x : Int) (hx : IsBest (EdS f ins outs N) (bgS s0 (totS ins outs N)) (finS (totS ins outs N) N f.final) x) :
    Calls Try.prog 12 #[.agg #[.int .i64 (N : Int), .int .i64 (s0 : Int), .slice fa fn fc, .slice aa m ac], .slice ia il ic, .slice oa ol oc] w fun e w' => e = .returned (.int .i64 x) ∧ Below w.heap.size w w' := by
  have hN1 := hok.n1
  have hN2 := hok.n2
  have hi40 := hok.i40
  have ho40 := hok.o40
  have hfn : fn = N := by
    obtain ⟨_, _, _, he, hl, _⟩ := hf.lenOf
    injection he with q1 q2 q3
    rw [q2, ← hl, hok.len]
  subst hfn
  obtain ⟨fb, fo, rfl, hfx⟩ := hf.some (by omega)
  have hb0 := bel_up (bel_self w) (.cells #[.int .i64 (fn : Int), .int .i64 (s0 : Int), .slice (some ⟨fb, fo, none⟩) fn fc, .slice aa m ac] 25)
  obtain ⟨Wd, hWd⟩ : ∃ Wd, Wd = (w.alloc (.cells #[.int .i64 (fn : Int), .int .i64 (s0 : Int), .slice (some ⟨fb, fo, none⟩) fn fc, .slice aa m ac] 25)).drew := ⟨_, rfl⟩
  have hbd : Below w.heap.size w Wd := by rw [hWd]; exact hb0.drew
  have x0 : Wd.cell? ⟨w.heap.size, 0, none⟩ = some (.int .i64 (fn : Int)) := by rw [hWd]; exact drew_cell (new_cell _ _ _ _ 0 _ rfl rfl)
  have x1 : Wd.cell? ⟨w.heap.size, 1, none⟩ = some (.int .i64 (s0 : Int)) := by rw [hWd]; exact drew_cell (new_cell _ _ _ _ 1 _ rfl rfl)
  have x2 : Wd.cell? ⟨w.heap.size, 2, none⟩ = some (.slice (some ⟨fb, fo, none⟩) fn fc) := by rw [hWd]; exact drew_cell (new_cell _ _ _ _ 2 _ rfl rfl)
  have x3 : Wd.cell? ⟨w.heap.size, 3, none⟩ = some (.slice aa m ac) := by rw [hWd]; exact drew_cell (new_cell _ _ _ _ 3 _ rfl rfl)
  have hS0 : (fun wx : World => wx.cell? ⟨w.heap.size, 0, none⟩ = some (.int .i64 (fn : Int)) ∧ wx.cell? ⟨w.heap.size, 1, none⟩ = some (.int .i64 (s0 : Int)) ∧ wx.cell? ⟨w.heap.size, 2, none⟩ = some (.slice (some ⟨fb, fo, none⟩) fn fc) ∧ wx.cell? ⟨w.heap.size, 3, none⟩ = some (.slice aa m ac)) Wd := ⟨x0, x1, x2, x3⟩
  have HSB : Hid (∀ wx : World, Below Wd.heap.size Wd wx → (fun wx : World => wx.cell? ⟨w.heap.size, 0, none⟩ = some (.int .i64 (fn : Int)) ∧ wx.cell? ⟨w.heap.size, 1, none⟩ = some (.int .i64 (s0 : Int)) ∧ wx.cell? ⟨w.heap.size, 2, none⟩ = some (.slice (some ⟨fb, fo, none⟩) fn fc) ∧ wx.cell? ⟨w.heap.size, 3, none⟩ = some (.slice aa m ac)) wx) := fun wx h => ⟨bel_c h x0, bel_c h x1, bel_c h x2, bel_c h x3⟩
  have HW : Hid (Wd = (w.alloc (.cells #[.int .i64 (fn : Int), .int .i64 (s0 : Int), .slice (some ⟨fb, fo, none⟩) fn fc, .slice aa m ac] 25)).drew) := hWd
  have HCO : Hid (∀ G0 cap0 W, Below w.heap.size w W → NumsAt W G0 fn (begL (s0 : Int) fn) → Calls Try.prog 52 #[.agg #[.int .i64 (fn : Int), .int .i64 (s0 : Int), .slice (some ⟨fb, fo, none⟩) fn fc, .slice aa m ac], .slice (some ⟨G0, 0, none⟩) fn cap0, .slice ia il ic, .slice oa ol oc] W fun e w' => CostsEnd W f ins outs fn s0 il ol e w') := fun G0 cap0 W hb hg => HC f ins outs fn s0 G0 cap0 _ aa m ac ia il ic oa ol oc W hok hlet (ha.below hb) hal (hI.below hb) hil (hO.below hb) hol hg
  have HFX : Hid (∀ W, Below w.heap.size w W → IntsAt W fb fo fn f.final) := fun W hb => hfx.below hb
  have HFH : Hid (∀ v, gI f.final v ≤ 1000000000) := fun v => by
    unfold gI
    rcases Nat.lt_or_ge v f.final.length with h | h
    · simp only [List.getD, List.getElem?_eq_getElem h, Option.getD_some]
      have := hok.fin _ (List.getElem_mem h)
      omega
    · simp only [List.getD, List.getElem?_eq_none h, Option.getD_none]
      decide
  have HX : Hid (∀ c, c.length = totS ins outs fn → Ach (EdS f ins outs fn) (bgS s0 (totS ins outs fn)) c → LeC c (bgS s0 (totS ins outs fn)) → Fix (EdS f ins outs fn) c → endD (segL c fn (ins.length * (outs.length + 1) + outs.length)) f.final fn = x) := fun c h1 h2 h3 h4 => (doc_best h1 h2 h3 h4).unique hx
  clear hok hal hWd hb0 x0 x1 x2 x3 HC hlet ha hI hO hil hol hx hf hfx
  go_enter Try.func12, Try.ntmps12
  go_wp2
  refine wp_region_noPanic ?_
  refine wp_region_F (fun wx => wx.cell? ⟨w.heap.size, 0, none⟩ = some (.int .i64 (fn : Int)) ∧ wx.cell? ⟨w.heap.size, 1, none⟩ = some (.int .i64 (s0 : Int)) ∧ wx.cell? ⟨w.heap.size, 2, none⟩ = some (.slice (some ⟨fb, fo, none⟩) fn fc) ∧ wx.cell? ⟨w.heap.size, 3, none⟩ = some (.slice aa m ac)) [] (by kernel_rfl) (by rw [← HW.out]; exact hS0) (fun _ => ?_)
  rw [← HW.out]
  clear HW
  refine wpAnyF_take (i := 0) (v := .agg #[.int .i64 (fn : Int), .int .i64 (s0 : Int), .slice (some ⟨fb, fo, none⟩) fn fc, .slice aa m ac]) rfl (by kernel_rfl) (by kernel_rfl) (by kernel_rfl) (by kernel_rfl) (fun _ _ _ h => h) (Or.inl ⟨by rfl, fun wl hSw => ?_⟩) hS0 ?_
  · (try dsimp only at hSw); go_simp
  refine wpAnyF_take (i := 1) (v := .agg #[.int .i64 (fn : Int), .int .i64 (s0 : Int), .slice (some ⟨fb, fo, none⟩) fn fc, .slice aa m ac]) rfl (by kernel_rfl) (by kernel_rfl) (by kernel_rfl) (by kernel_rfl) (fun _ _ _ h => h) (Or.inl ⟨by rfl, fun wl hSw => ?_⟩) hS0 ?_
  · (try dsimp only at hSw); go_simp
  refine wpAnyF_free (i := 3) (v := .slice ia il ic) rfl (by kernel_rfl) (by kernel_rfl) (by kernel_rfl) (by kernel_rfl) (fun _ _ _ h => h) (Or.inl ⟨by rfl, fun wl hSw => ?_⟩) hS0 ?_
  · (try dsimp only at hSw); go_simp
  refine wpAnyF_free (i := 4) (v := .slice oa ol oc) rfl (by kernel_rfl) (by kernel_rfl) (by kernel_rfl) (by kernel_rfl) (fun _ _ _ h => h) (Or.inl ⟨by rfl, fun wl hSw => ?_⟩) hS0 ?_
  · (try dsimp only at hSw); go_simp
  refine wpAnyF_one (i := 2) rfl (by kernel_rfl) (fun K hK => ?_)
  go_simp
  refine (begunRef_any fn (s0 : Int) (.slice (some ⟨fb, fo, none⟩) fn fc) (.slice aa m ac) _ hN2).mono ?_
  rintro e w1 ⟨v, rfl, hown, hb1⟩
  obtain ⟨G0, cap0, rfl⟩ := Go.Joins.ownsRow_form hown (by omega)
  have hg0 := row_nums hown (begL_len _ _)
  refine hK.out _ _ ⟨fun _ => HSB.out _ hb1, ?_⟩
  clear hK K hown
  refine wpAnyF_one (i := 5) rfl (by kernel_rfl) (fun K hK => ?_)
  go_simp
  refine (HCO.out G0 cap0 w1 (bel_on hbd hb1) hg0).mono ?_
  rintro e w2 ⟨c, T, tc, H, hc, G, gc, rfl, k1, k2, k3, k4, k5, k6, k7, k8, hb2⟩
  have hb12 := bel_on hb1 hb2
  have hbw2 := bel_on hbd hb12
  have HXE : Hid (endD (segL c fn (ins.length * (outs.length + 1) + outs.length)) f.final fn = x) := HX.out c k4 k5 k6 k7
  have HK8 : Hid (∀ v, gI (segL c fn (ins.length * (outs.length + 1) + outs.length)) v ≤ 400001000000000) := fun v => by
    rcases Nat.lt_or_ge v fn with h | h
    · rw [segL_at _ _ _ _ h]; exact k8 _
    · rw [out_gI _ _ (by rw [k3.len]; exact h)]; decide
  have hS2 := HSB.out _ hb12
  refine hK.out _ _ ⟨fun _ => hS2, ?_⟩
  clear hK K hg0 k4 k5 k6 k7 k8 HX HCO hb1 hb2 hS0
  refine wpAnyF_one (i := 6) rfl (by kernel_rfl) (fun K hK => ?_)
  go_simp
  refine hK.out _ _ ⟨fun _ => hS2, ?_⟩
  clear hK K
  refine wpAnyF_done (by kernel_rfl) ?_ _
  refine NoPanic.normal ?_
  go_wp2
  obtain ⟨W3, hW3⟩ : ∃ W3, W3 = w2.drew := ⟨_, rfl⟩
  have hb23 : Below w2.heap.size w2 W3 := by rw [hW3]; exact (bel_self w2).drew
  have hS3 : (fun wx : World => (wx.cell? ⟨w.heap.size, 0, none⟩ = some (.int .i64 (fn : Int)) ∧ wx.cell? ⟨w.heap.size, 1, none⟩ = some (.int .i64 (s0 : Int)) ∧ wx.cell? ⟨w.heap.size, 2, none⟩ = some (.slice (some ⟨fb, fo, none⟩) fn fc) ∧ wx.cell? ⟨w.heap.size, 3, none⟩ = some (.slice aa m ac)) ∧ wx.cell? ⟨T, il, none⟩ = some (.slice (some ⟨H, 0, none⟩) (ol + 1) hc) ∧ wx.cell? ⟨H, ol, none⟩ = some (.slice (some ⟨G, 0, none⟩) fn gc)) W3 := ⟨HSB.out _ (bel_on hb12 hb23), bel_c hb23 k1, bel_c hb23 k2⟩
  have hend := ended_any f fn G gc fb fo fc (s0 : Int) (.slice aa m ac) _ W3 hN2 (k3.below hb23) ((HFX.out _ hbw2).below hb23) HK8.out HFH.out
  rw [HXE.out] at hend
  have hili : (il : Int) < il + 1 := by omega
  have holi : (ol : Int) < ol + 1 := by omega
  refine wp_region_noPanic ?_
  refine wp_region_F (fun wx : World => (wx.cell? ⟨w.heap.size, 0, none⟩ = some (.int .i64 (fn : Int)) ∧ wx.cell? ⟨w.heap.size, 1, none⟩ = some (.int .i64 (s0 : Int)) ∧ wx.cell? ⟨w.heap.size, 2, none⟩ = some (.slice (some ⟨fb, fo, none⟩) fn fc) ∧ wx.cell? ⟨w.heap.size, 3, none⟩ = some (.slice aa m ac)) ∧ wx.cell? ⟨T, il, none⟩ = some (.slice (some ⟨H, 0, none⟩) (ol + 1) hc) ∧ wx.cell? ⟨H, ol, none⟩ = some (.slice (some ⟨G, 0, none⟩) fn gc)) [] (by kernel_rfl) (by rw [← hW3]; exact hS3) (fun _ => ?_)
  rw [← hW3]
  clear hW3
  refine wpAnyF_take (i := 0) (v := .agg #[.int .i64 (fn : Int), .int .i64 (s0 : Int), .slice (some ⟨fb, fo, none⟩) fn fc, .slice aa m ac]) rfl (by kernel_rfl) (by kernel_rfl) (by kernel_rfl) (by kernel_rfl) (fun _ _ _ h => h) (Or.inl ⟨by rfl, fun wl hSw => ?_⟩) hS3 ?_
  · (try dsimp only at hSw); go_simp
  refine wpAnyF_free (i := 1) (v := .slice (some ⟨T, 0, none⟩) (il + 1) tc) rfl (by kernel_rfl) (by kernel_rfl) (by kernel_rfl) (by kernel_rfl) (fun _ _ _ h => h) (Or.inl ⟨by rfl, fun wl hSw => ?_⟩) hS3 ?_
  · (try dsimp only at hSw); go_simp
  refine wpAnyF_free (i := 2) (v := .slice ia il ic) rfl (by kernel_rfl) (by kernel_rfl) (by kernel_rfl) (by kernel_rfl) (fun _ _ _ h => h) (Or.inl ⟨by rfl, fun wl hSw => ?_⟩) hS3 ?_
  · (try dsimp only at hSw); go_simp
  refine wpAnyF_free (i := 3) (v := .int .i64 il) rfl (by kernel_rfl) (by kernel_rfl) (by kernel_rfl) (by kernel_rfl) (fun _ _ _ h => h) (Or.inl ⟨by rfl, fun wl hSw => ?_⟩) hS3 ?_
  · (try dsimp only at hSw); go_simp
  refine wpAnyF_free (i := 4) (v := .pointer (some ⟨T, il, none⟩)) rfl (by kernel_rfl) (by kernel_rfl) (by kernel_rfl) (by kernel_rfl) (fun _ _ _ h => h) (Or.inl ⟨by rfl, fun wl hSw => ?_⟩) hS3 ?_
  · (try dsimp only at hSw); go_simp
  refine wpAnyF_take (i := 5) (v := .slice (some ⟨H, 0, none⟩) (ol + 1) hc) rfl (by kernel_rfl) (by kernel_rfl) (by kernel_rfl) (by kernel_rfl) (fun _ _ _ h => h) (Or.inl ⟨by rfl, fun wl hSw => ?_⟩) hS3 ?_
  · (try dsimp only at hSw); go_simp
  refine wpAnyF_free (i := 6) (v := .slice oa ol oc) rfl (by kernel_rfl) (by kernel_rfl) (by kernel_rfl) (by kernel_rfl) (fun _ _ _ h => h) (Or.inl ⟨by rfl, fun wl hSw => ?_⟩) hS3 ?_
  · (try dsimp only at hSw); go_simp
  refine wpAnyF_free (i := 7) (v := .int .i64 ol) rfl (by kernel_rfl) (by kernel_rfl) (by kernel_rfl) (by kernel_rfl) (fun _ _ _ h => h) (Or.inl ⟨by rfl, fun wl hSw => ?_⟩) hS3 ?_
  · (try dsimp only at hSw); go_simp
  refine wpAnyF_free (i := 8) (v := .pointer (some ⟨H, ol, none⟩)) rfl (by kernel_rfl) (by kernel_rfl) (by kernel_rfl) (by kernel_rfl) (fun _ _ _ h => h) (Or.inl ⟨by rfl, fun wl hSw => ?_⟩) hS3 ?_
  · (try dsimp only at hSw); go_simp
  refine wpAnyF_take (i := 9) (v := .slice (some ⟨G, 0, none⟩) fn gc) rfl (by kernel_rfl) (by kernel_rfl) (by kernel_rfl) (by kernel_rfl) (fun _ _ _ h => h) (Or.inl ⟨by rfl, fun wl hSw => ?_⟩) hS3 ?_
  · (try dsimp only at hSw); go_simp
  refine wpAnyF_one (i := 10) rfl (by kernel_rfl) (fun K hK => ?_)
  go_simp
  refine hend.mono ?_
  rintro e w4 ⟨rfl, hb4⟩
  have hS4 := (⟨HSB.out _ (bel_on (bel_on hb12 hb23) hb4), bel_c hb4 hS3.2.1, bel_c hb4 hS3.2.2⟩ : (fun wx : World => (wx.cell? ⟨w.heap.size, 0, none⟩ = some (.int .i64 (fn : Int)) ∧ wx.cell? ⟨w.heap.size, 1, none⟩ = some (.int .i64 (s0 : Int)) ∧ wx.cell? ⟨w.heap.size, 2, none⟩ = some (.slice (some ⟨fb, fo, none⟩) fn fc) ∧ wx.cell? ⟨w.heap.size, 3, none⟩ = some (.slice aa m ac)) ∧ wx.cell? ⟨T, il, none⟩ = some (.slice (some ⟨H, 0, none⟩) (ol + 1) hc) ∧ wx.cell? ⟨H, ol, none⟩ = some (.slice (some ⟨G, 0, none⟩) fn gc)) w4)
  refine hK.out _ _ ⟨fun _ => hS4, ?_⟩
  clear hK K
  refine wpAnyF_one (i := 11) rfl (by kernel_rfl) (fun K hK => ?_)
  go_simp
  refine hK.out _ _ ⟨fun _ => hS4, ?_⟩
  clear hK K
  refine wpAnyF_done (by kernel_rfl) ?_ _
  refine NoPanic.normal ?_
  go_wp2
  go_ret
  exact ⟨rfl, bel_on (bel_on hbw2 hb23) hb4⟩
end Go.Proofs.Yteehgcbjmdideaa

/- The document's tables in memory. -/
namespace Go.Proofs.Yteehgcbjmdideaa
open Go.RowKit

structure TB (w wr : World) (N ol : Nat) (sta : Int) (fin arcs : Value) (g h hc : Nat → Nat) (c : List Int) (i o : Nat) (t9 t11 : Value) : Prop where
  cf : CellsF wr w.heap.size (N : Int) sta fin arcs
  bel : Below w.heap.size w wr
  tab : wr.ownsRow (w.heap.size + 1) 70 1 t9 i ((List.range i).map fun k => .slice (some ⟨h k, 0, none⟩) (ol + 1) (hc k))
  pl : wr.ownsRow (w.heap.size + 1) 22 1 t11 o ((List.range o).map fun k => .slice (some ⟨g (i * (ol + 1) + k), 0, none⟩) N N)
  hpl : ∀ k, k < i → ∀ o', o' ≤ ol → wr.cell? ⟨h k, o', none⟩ = some (.slice (some ⟨g (k * (ol + 1) + o'), 0, none⟩) N N)
  rows : ∀ q, q < i * (ol + 1) + o → NumsAt wr (g q) N (segL c N q)
  gg : ∀ q, q < i * (ol + 1) + o → w.heap.size + 1 ≤ g q ∧ t9.ownBlock ≠ some (g q) ∧ t11.ownBlock ≠ some (g q)
  gh : ∀ k, k < i → w.heap.size + 1 ≤ h k ∧ t9.ownBlock ≠ some (h k) ∧ t11.ownBlock ≠ some (h k)
  sep : ∀ b, t9.ownBlock = some b → t11.ownBlock ≠ some b

section
variable {w wr wx : World} {N ol : Nat} {sta : Int} {fin arcs : Value} {g h hc : Nat → Nat} {c : List Int} {i o : Nat} {t9 t11 : Value}

theorem TB.below (t : TB w wr N ol sta fin arcs g h hc c i o t9 t11) (hb : Below wr.heap.size wr wx) : TB w wx N ol sta fin arcs g h hc c i o t9 t11 :=
  ⟨t.cf.below hb, bel_on t.bel hb, ownsRow_bel t.tab hb, ownsRow_bel t.pl hb, fun k hk o' ho => bel_c hb (t.hpl k hk o' ho), fun q hq => (t.rows q hq).below hb, t.gg, t.gh, t.sep⟩

/-- what is not yet laid down may change -/
theorem TB.other (t : TB w wr N ol sta fin arcs g h hc c i o t9 t11) {d : List Int} (hd : ∀ q, q < i * (ol + 1) + o → segL d N q = segL c N q) : TB w wr N ol sta fin arcs g h hc d i o t9 t11 :=
  ⟨t.cf, t.bel, t.tab, t.pl, t.hpl, fun q hq => by rw [hd q hq]; exact t.rows q hq, t.gg, t.gh, t.sep⟩

/-- a store into the row at work -/
theorem TB.far (t : TB w wr N ol sta fin arcs g h hc c i o t9 t11) {R k : Nat} {u : Value} (h0 : w.heap.size + 1 ≤ R) (h9 : t9.ownBlock ≠ some R) (h11 : t11.ownBlock ≠ some R) (hg : ∀ q, q < i * (ol + 1) + o → g q ≠ R) (hh : ∀ k, k < i → h k ≠ R) : TB w (wr.setCell ⟨R, k, none⟩ u) N ol sta fin arcs g h hc c i o t9 t11 := by
  have hX : w.heap.size ≠ R := by omega
  exact ⟨⟨(set_far hX).trans t.cf.1, (set_far hX).trans t.cf.2.1, (set_far hX).trans t.cf.2.2.1, (set_far hX).trans t.cf.2.2.2⟩, t.bel.setCell (p := ⟨R, k, none⟩) (by show w.heap.size ≤ R; omega) _, ownsRow_setCell_far t.tab h9, ownsRow_setCell_far t.pl h11, fun k hk o' ho => (set_far (hh k hk)).trans (t.hpl k hk o' ho), fun q hq => (t.rows q hq).other (hg q hq), t.gg, t.gh, t.sep⟩

/-- the row at work is laid down -/
theorem TB.row {w' : World} {R : Nat} {v' : Value} (t : TB w wr N ol sta fin arcs g h hc c i o t9 t11) (hR : NumsAt wr R N (segL c N (i * (ol + 1) + o))) (h0 : w.heap.size + 1 ≤ R) (h9 : t9.ownBlock ≠ some R) (h11 : t11.ownBlock ≠ some R)
    (hgr : wr.grownBy w' t11.ownBlock) (hown : w'.ownsRow (w.heap.size + 1) 22 1 v' (o + 1) (((List.range o).map fun k => .slice (some ⟨g (i * (ol + 1) + k), 0, none⟩) N N) ++ [.slice (some ⟨R, 0, none⟩) N N])) (hv : v'.ownBlock = t11.ownBlock ∨ v'.ownBlock = some wr.heap.size) :
    TB w w' N ol sta fin arcs (fun q => if q = i * (ol + 1) + o then R else g q) h hc c i (o + 1) t9 v' := by
  have hX : some w.heap.size ≠ t11.ownBlock := fun e => by have := own_base t.pl _ e.symm; omega
  have hlX := cell_lt t.cf.1
  have hne : ∀ b, t11.ownBlock ≠ some b → some b ≠ t11.ownBlock := fun b hb e => hb e.symm
  have h9' : ∀ b, t9.ownBlock = some b → b < wr.heap.size := ownsRow_lt0 t.tab
  refine ⟨⟨(hgr.cell_far ⟨_, 0, none⟩ hlX hX).trans t.cf.1, (hgr.cell_far ⟨_, 1, none⟩ hlX hX).trans t.cf.2.1, (hgr.cell_far ⟨_, 2, none⟩ hlX hX).trans t.cf.2.2.1, (hgr.cell_far ⟨_, 3, none⟩ hlX hX).trans t.cf.2.2.2⟩, t.bel.grown hgr (by have := t.bel.size; omega) (fun k hk => by have := own_base t.pl _ hk; omega), ?_, ?_, fun k hk o' ho => ?_, fun q hq => ?_, fun q hq => ?_, fun k hk => ?_, fun b hb => ?_⟩
  · refine t.tab.kept hgr ?_
    cases h9b : t9.ownBlock with
    | none => exact Or.inl rfl
    | some b => exact Or.inr fun e => t.sep b h9b e.symm
  · have e : ((List.range (o + 1)).map fun k => Value.slice (some ⟨if i * (ol + 1) + k = i * (ol + 1) + o then R else g (i * (ol + 1) + k), 0, none⟩) N N) = ((List.range o).map fun k => .slice (some ⟨g (i * (ol + 1) + k), 0, none⟩) N N) ++ [.slice (some ⟨R, 0, none⟩) N N] := by
      rw [List.range_succ, List.map_append]
      congr 1
      · apply List.map_congr_left
        intro k hk
        rw [List.mem_range] at hk
        rw [if_neg (by omega)]
      · simp
    rw [e]
    exact hown
  · have hlt := cell_lt (t.hpl k hk o' ho)
    have hpl : k * (ol + 1) + o' < i * (ol + 1) + o := by
      have := Nat.mul_le_mul_right (ol + 1) (show k + 1 ≤ i by omega)
      rw [Nat.add_mul, Nat.one_mul] at this
      omega
    rw [if_neg (by omega)]
    exact (hgr.cell_far ⟨_, o', none⟩ hlt (hne _ (t.gh k hk).2.2)).trans (t.hpl k hk o' ho)
  · by_cases e : q = i * (ol + 1) + o
    · subst e
      rw [if_pos rfl]
      exact hR.block (hgr.block R hR.lt (hne _ h11)) (Nat.lt_of_lt_of_le hR.lt hgr.size)
    · rw [if_neg e]
      have hq' : q < i * (ol + 1) + o := by omega
      exact (t.rows q hq').block (hgr.block _ (t.rows q hq').lt (hne _ (t.gg q hq').2.2)) (Nat.lt_of_lt_of_le (t.rows q hq').lt hgr.size)
  · have hsz : ∀ b, b < wr.heap.size → t11.ownBlock ≠ some b → v'.ownBlock ≠ some b := fun b hb hn e => by
      rcases hv with hv | hv
      · rw [hv] at e; exact hn e
      · rw [hv] at e; injection e with e; omega
    by_cases e : q = i * (ol + 1) + o
    · subst e
      rw [if_pos rfl]
      exact ⟨h0, h9, hsz R hR.lt h11⟩
    · rw [if_neg e]
      have hq' : q < i * (ol + 1) + o := by omega
      exact ⟨(t.gg q hq').1, (t.gg q hq').2.1, hsz _ (t.rows q hq').lt (t.gg q hq').2.2⟩
  · have hlt := cell_lt (t.hpl k hk 0 (Nat.zero_le _))
    refine ⟨(t.gh k hk).1, (t.gh k hk).2.1, fun e => ?_⟩
    rcases hv with hv | hv
    · rw [hv] at e; exact (t.gh k hk).2.2 e
    · rw [hv] at e; injection e with e; omega
  · intro e
    rcases hv with hv | hv
    · rw [hv] at e; exact t.sep b hb e
    · rw [hv] at e; injection e with e; have := h9' b hb; omega

/-- the plane at work is laid down -/
theorem TB.plane {w' : World} {H cap : Nat} {v' : Value} (t : TB w wr N ol sta fin arcs g h hc c i (ol + 1) t9 (.slice (some ⟨H, 0, none⟩) (ol + 1) cap))
    (hgr : wr.grownBy w' t9.ownBlock) (hown : w'.ownsRow (w.heap.size + 1) 70 1 v' (i + 1) (((List.range i).map fun k => .slice (some ⟨h k, 0, none⟩) (ol + 1) (hc k)) ++ [.slice (some ⟨H, 0, none⟩) (ol + 1) cap])) (hv : v'.ownBlock = t9.ownBlock ∨ v'.ownBlock = some wr.heap.size) :
    TB w w' N ol sta fin arcs g (fun k => if k = i then H else h k) (fun k => if k = i then cap else hc k) c (i + 1) 0 v' (.slice none 0 0) := by
  have hX : some w.heap.size ≠ t9.ownBlock := fun e => by have := own_base t.tab _ e.symm; omega
  have hlX := cell_lt t.cf.1
  have hne : ∀ b, t9.ownBlock ≠ some b → some b ≠ t9.ownBlock := fun b hb e => hb e.symm
  have hH9 : t9.ownBlock ≠ some H := fun e => t.sep H e rfl
  have hpe : (i + 1) * (ol + 1) + 0 = i * (ol + 1) + (ol + 1) := by rw [Nat.add_mul, Nat.one_mul]; rfl
  have hcH : ∀ o', o' ≤ ol → wr.cell? ⟨H, o', none⟩ = some (.slice (some ⟨g (i * (ol + 1) + o'), 0, none⟩) N N) := fun o' ho => by
    rw [t.pl.cellAt o' (by omega)]
    simp [show o' < ol + 1 by omega]
  have hHl := cell_lt (hcH 0 (Nat.zero_le _))
  have hHb : w.heap.size + 1 ≤ H := own_base t.pl H rfl
  have hsz : ∀ b, b < wr.heap.size → t9.ownBlock ≠ some b → v'.ownBlock ≠ some b := fun b hb hn e => by
    rcases hv with hv | hv
    · rw [hv] at e; exact hn e
    · rw [hv] at e; injection e with e; omega
  have hno : ∀ b, (Value.slice none 0 0).ownBlock ≠ some b := fun b e => by cases e
  refine ⟨⟨(hgr.cell_far ⟨_, 0, none⟩ hlX hX).trans t.cf.1, (hgr.cell_far ⟨_, 1, none⟩ hlX hX).trans t.cf.2.1, (hgr.cell_far ⟨_, 2, none⟩ hlX hX).trans t.cf.2.2.1, (hgr.cell_far ⟨_, 3, none⟩ hlX hX).trans t.cf.2.2.2⟩, t.bel.grown hgr (by have := t.bel.size; omega) (fun k hk => by have := own_base t.tab _ hk; omega), ?_, World.ownsRow_nil _ _ _ _, fun k hk o' ho => ?_, fun q hq => ?_, fun q hq => ?_, fun k hk => ?_, fun b hb => hno b⟩
  · have e : ((List.range (i + 1)).map fun k => Value.slice (some ⟨if k = i then H else h k, 0, none⟩) (ol + 1) (if k = i then cap else hc k)) = ((List.range i).map fun k => .slice (some ⟨h k, 0, none⟩) (ol + 1) (hc k)) ++ [.slice (some ⟨H, 0, none⟩) (ol + 1) cap] := by
      rw [List.range_succ, List.map_append]
      congr 1
      · apply List.map_congr_left
        intro k hk
        rw [List.mem_range] at hk
        rw [if_neg (by omega), if_neg (by omega)]
      · simp
    rw [e]
    exact hown
  · by_cases e : k = i
    · subst e
      rw [if_pos rfl]
      exact (hgr.cell_far ⟨_, o', none⟩ hHl (hne _ hH9)).trans (hcH o' ho)
    · rw [if_neg e]
      have hk' : k < i := by omega
      exact (hgr.cell_far ⟨_, o', none⟩ (cell_lt (t.hpl k hk' o' ho)) (hne _ (t.gh k hk').2.1)).trans (t.hpl k hk' o' ho)
  · rw [hpe] at hq
    exact (t.rows q hq).block (hgr.block _ (t.rows q hq).lt (hne _ (t.gg q hq).2.1)) (Nat.lt_of_lt_of_le (t.rows q hq).lt hgr.size)
  · rw [hpe] at hq
    exact ⟨(t.gg q hq).1, hsz _ (t.rows q hq).lt (t.gg q hq).2.1, hno _⟩
  · by_cases e : k = i
    · subst e
      rw [if_pos rfl]
      exact ⟨hHb, hsz H hHl hH9, hno _⟩
    · rw [if_neg e]
      have hk' : k < i := by omega
      exact ⟨(t.gh k hk').1, hsz _ (cell_lt (t.hpl k hk' 0 (Nat.zero_le _))) (t.gh k hk').2.1, hno _⟩
end
end Go.Proofs.Yteehgcbjmdideaa
