/- The document's 'Ended'. -/
import Derived.Test.YteehgcbjmdideaaQM17
import Derived.Test.YteehgcbjmdideaaQM01
import Derived.Test.YteehgcbjmdideaaQM15
import Derived.Test.YteehgcbjmdideaaQM11
namespace Go.Proofs.Yteehgcbjmdideaa
open Go.RowKit
attribute [local go_sem ↓] Go.wp_at_zero Go.wp_at_succ

set_option maxHeartbeats 400000 in
theorem plusBig_any (a b : Int) (w : World) (ha2 : a ≤ 1000000000000000) (hb2 : b ≤ 1000000000000) :
    Calls Try.prog 74 #[.int .i64 a, .int .i64 b] w fun e w' => e = .returned (.int .i64 (plusC a b)) ∧ w' = w := by
  by_cases h1 : a < 0
  · go_enter Try.func74, Try.ntmps74
    go_wp2
    go_ret
    exact ⟨ret_int (by unfold plusC; split <;> omega), rfl⟩
  · by_cases h2 : b < 0
    · go_enter Try.func74, Try.ntmps74
      go_wp2
      go_ret
      exact ⟨ret_int (by unfold plusC; split <;> omega), rfl⟩
    · have h1' : 0 ≤ a := by omega
      have h2' : 0 ≤ b := by omega
      go_enter Try.func74, Try.ntmps74
      go_wp2
      go_ret
      exact ⟨ret_int (by unfold plusC; split <;> omega), rfl⟩

/-- the best of the first k states to end at -/
def endD (c fin : List Int) : Nat → Int
  | 0 => -1
  | k + 1 => lessC (endD c fin k) (plusC (gI c k) (gI fin k))

theorem endD_is (c fin : List Int) (k : Nat) : (endD c fin k = -1 ∧ ∀ n, n < k → ¬ (0 ≤ gI c n ∧ 0 ≤ gI fin n)) ∨ (0 ≤ endD c fin k ∧ (∃ n, n < k ∧ 0 ≤ gI c n ∧ 0 ≤ gI fin n ∧ endD c fin k = gI c n + gI fin n) ∧ ∀ n, n < k → 0 ≤ gI c n → 0 ≤ gI fin n → endD c fin k ≤ gI c n + gI fin n) := by
  induction k with
  | zero => exact Or.inl ⟨rfl, fun n hn => by omega⟩
  | succ k ih =>
    have e : endD c fin (k + 1) = lessC (endD c fin k) (plusC (gI c k) (gI fin k)) := rfl
    rw [e]
    by_cases hk : 0 ≤ gI c k ∧ 0 ≤ gI fin k
    · have hp : plusC (gI c k) (gI fin k) = gI c k + gI fin k := by unfold plusC; rw [if_neg (by omega)]
      rw [hp]
      right
      rcases ih with ⟨h1, h2⟩ | ⟨h1, ⟨n, g1, g2, g3, g4⟩, h3⟩
      · have hl : lessC (endD c fin k) (gI c k + gI fin k) = gI c k + gI fin k := by unfold lessC; rw [if_pos (by omega)]
        rw [hl]
        refine ⟨by omega, ⟨k, by omega, hk.1, hk.2, rfl⟩, fun n hn a b => ?_⟩
        by_cases e : n = k
        · subst e; omega
        · exact absurd ⟨a, b⟩ (h2 n (by omega))
      · by_cases hlt : endD c fin k < gI c k + gI fin k
        · have hl : lessC (endD c fin k) (gI c k + gI fin k) = endD c fin k := by unfold lessC; rw [if_neg (by omega), if_pos (Or.inr hlt)]
          rw [hl]
          refine ⟨h1, ⟨n, by omega, g2, g3, g4⟩, fun n hn a b => ?_⟩
          by_cases e : n = k
          · subst e; omega
          · exact h3 n (by omega) a b
        · have hl : lessC (endD c fin k) (gI c k + gI fin k) = gI c k + gI fin k := by unfold lessC; rw [if_neg (by omega), if_neg (by omega)]
          rw [hl]
          refine ⟨by omega, ⟨k, by omega, hk.1, hk.2, rfl⟩, fun n hn a b => ?_⟩
          by_cases e : n = k
          · subst e; omega
          · have := h3 n (by omega) a b; omega
    · have hp : plusC (gI c k) (gI fin k) = -1 := by unfold plusC; rw [if_pos (by omega)]
      rw [hp]
      have hl : lessC (endD c fin k) (-1) = endD c fin k := by
        unfold lessC
        rcases ih with ⟨h1, _⟩ | ⟨h1, _⟩
        · rw [if_pos (by omega), h1]
        · rw [if_neg (by omega), if_pos (Or.inl (by omega))]
      rw [hl]
      rcases ih with ⟨h1, h2⟩ | ⟨h1, ⟨n, g1, g2⟩, h3⟩
      · refine Or.inl ⟨h1, fun n hn => ?_⟩
        by_cases e : n = k
        · subst e; exact hk
        · exact h2 n (by omega)
      · refine Or.inr ⟨h1, ⟨n, by omega, g2⟩, fun n hn a b => ?_⟩
        by_cases e : n = k
        · subst e; exact absurd ⟨a, b⟩ hk
        · exact h3 n (by omega) a b

end Go.Proofs.Yteehgcbjmdideaa

/- 'one' of the statements, a transducer of two states and one arc. -/
namespace Go.Proofs.Yteehgcbjmdideaa
open Go.RowKit
attribute [local go_sem ↓] Go.wp_at_zero Go.wp_at_succ

def oneD : FstD := ⟨2, 0, [-1, 1], [⟨0, 1, 2, 1, 5⟩]⟩
theorem check_one : checkD oneD = 0 := by decide

theorem one_any (w : World) :
    Calls Try.prog 55 #[] w fun e w' => e = .returned (.agg #[.int .i64 2, .int .i64 0, .slice (some ⟨w.heap.size + 1, 0, none⟩) 2 2, .slice (some ⟨w.heap.size + 2, 0, none⟩) 1 1]) ∧
      ISlice w' (.slice (some ⟨w.heap.size + 1, 0, none⟩) 2 2) oneD.final ∧ ASlice w' (.slice (some ⟨w.heap.size + 2, 0, none⟩) 1 1) oneD.arcs ∧ Below w.heap.size w w' := by
  have hsz : ∀ (x : World) (o : Obj), (x.alloc o).heap.size = x.heap.size + 1 := fun x o => by simp
  have r1 := (World.ownsRow_lit (base := 0) (e := 3) (size := 1) (w.alloc (.cells #[.int .i64 2, .int .i64 0, .slice (some ⟨w.heap.size + 1, 0, none⟩) 2 2, .slice (some ⟨w.heap.size + 1 + 1, 0, none⟩) 1 1] 25)) #[.int .i64 (-1), .int .i64 1] 2 (Nat.zero_le _) (by decide) rfl).alloc (.cells #[.int .i64 0, .int .i64 1, .int .i64 2, .int .i64 1, .int .i64 5] 63)
  have r2 := World.ownsRow_lit (base := 0) (e := 63) (size := 5) ((w.alloc (.cells #[.int .i64 2, .int .i64 0, .slice (some ⟨w.heap.size + 1, 0, none⟩) 2 2, .slice (some ⟨w.heap.size + 1 + 1, 0, none⟩) 1 1] 25)).alloc (.cells #[.int .i64 (-1), .int .i64 1] 3)) #[.int .i64 0, .int .i64 1, .int .i64 2, .int .i64 1, .int .i64 5] 1 (Nat.zero_le _) (by decide) rfl
  rw [hsz] at r1
  rw [hsz, hsz] at r2
  clear hsz
  go_enter Try.func55, Try.ntmps55
  go_wp2
  exact bodyPost_ret (v := .agg #[.int .i64 2, .int .i64 0, .slice (some ⟨w.heap.size + 1, 0, none⟩) 2 2, .slice (some ⟨w.heap.size + 1 + 1, 0, none⟩) 1 1]) (by simp [results, Try.results55, go_sem]) rfl ⟨rfl, ownsRow_ints (xs := oneD.final) r1, ownsRow_arcs (ars := oneD.arcs) r2, bel_up (bel_up (bel_up (bel_self w) _) _) _⟩

theorem one_ex (w : World) :
    Calls Try.prog 55 #[] w fun e w' => ∃ N M : Nat, e = .returned (.agg #[.int .i64 2, .int .i64 0, .slice (some ⟨N, 0, none⟩) 2 2, .slice (some ⟨M, 0, none⟩) 1 1]) ∧
      ISlice w' (.slice (some ⟨N, 0, none⟩) 2 2) oneD.final ∧ ASlice w' (.slice (some ⟨M, 0, none⟩) 1 1) oneD.arcs ∧ Below w.heap.size w w' :=
  (one_any w).mono fun _ _ ⟨h1, h2, h3, h4⟩ => ⟨_, _, h1, h2, h3, h4⟩
end Go.Proofs.Yteehgcbjmdideaa

/- What the document's tables say is the least cost; 'one' and its words. -/
namespace Go.Proofs.Yteehgcbjmdideaa
open Go.RowKit

theorem best_fix {E : List Edg} {b c : List Int} {fin : Nat → Int} {x : Int} (ha : Ach E b c) (hb : LeC c b) (hf : Fix E c) (hx : (x = -1 ∧ ∀ v, 0 ≤ gI c v → ¬ 0 ≤ fin v) ∨ (0 ≤ x ∧ (∃ v, 0 ≤ gI c v ∧ 0 ≤ fin v ∧ x = gI c v + fin v) ∧ ∀ v, 0 ≤ gI c v → 0 ≤ fin v → x ≤ gI c v + fin v)) : IsBest E b fin x := by
  rcases hx with ⟨h1, h2⟩ | ⟨h1, ⟨v, g1, g2, g3⟩, h3⟩
  · exact Or.inl ⟨h1, fun v h z hw => h2 v (fix_le hb hf hw).1⟩
  · refine Or.inr ⟨h1, ?_, fun v h z hw h0 => ?_⟩
    · rcases ha v with e | ⟨k, hk⟩
      · omega
      · exact ⟨v, k, _, hk, g2, g3⟩
    · obtain ⟨q1, q2⟩ := fix_le hb hf hw
      have := h3 v q1 h0
      omega

theorem last_place (N I O : Nat) : (I * (O + 1) + O) * N = (I + 1) * (O + 1) * N - N := by
  have := spotN_end N I O 0
  unfold spotN at this
  omega

theorem doc_best {f : FstD} {ins outs : List Int} {N s0 : Nat} {c : List Int} (hl : c.length = totS ins outs N) (ha : Ach (EdS f ins outs N) (bgS s0 (totS ins outs N)) c) (hb : LeC c (bgS s0 (totS ins outs N))) (hf : Fix (EdS f ins outs N) c) :
    IsBest (EdS f ins outs N) (bgS s0 (totS ins outs N)) (finS (totS ins outs N) N f.final) (endD (segL c N (ins.length * (outs.length + 1) + outs.length)) f.final N) := by
  refine best_fix ha hb hf ?_
  have hp := last_place N ins.length outs.length
  have hNT : N ≤ totS ins outs N := by
    unfold totS
    have : 1 * N ≤ (ins.length + 1) * (outs.length + 1) * N := Nat.mul_le_mul_right N (Nat.mul_pos (by omega) (by omega))
    omega
  have hseg : ∀ n, n < N → gI (segL c N (ins.length * (outs.length + 1) + outs.length)) n = gI c (totS ins outs N - N + n) := fun n hn => by
    rw [segL_at _ _ _ _ hn, hp]
    rfl
  have hfin : ∀ n, finS (totS ins outs N) N f.final (totS ins outs N - N + n) = gI f.final n := fun n => by
    unfold finS
    rw [if_pos (by omega)]
    congr 1
    omega
  have hcov : ∀ v, 0 ≤ gI c v → 0 ≤ finS (totS ins outs N) N f.final v → ∃ n, n < N ∧ v = totS ins outs N - N + n := fun v h0 h1 => by
    have hv : v < totS ins outs N := by
      rcases Nat.lt_or_ge v c.length with h | h
      · omega
      · rw [out_gI c v h] at h0; omega
    unfold finS at h1
    split at h1
    · exact ⟨v - (totS ins outs N - N), by omega, by omega⟩
    · omega
  rcases endD_is (segL c N (ins.length * (outs.length + 1) + outs.length)) f.final N with ⟨h1, h2⟩ | ⟨h1, ⟨n, g1, g2, g3, g4⟩, h3⟩
  · refine Or.inl ⟨h1, fun v h0 hf0 => ?_⟩
    obtain ⟨n, hn, rfl⟩ := hcov v h0 hf0
    rw [hfin] at hf0
    exact h2 n hn ⟨by rw [hseg n hn]; exact h0, hf0⟩
  · refine Or.inr ⟨h1, ⟨totS ins outs N - N + n, by rw [← hseg n g1]; exact g2, by rw [hfin]; exact g3, by rw [hfin, ← hseg n g1]; exact g4⟩, fun v h0 hf0 => ?_⟩
    obtain ⟨n, hn, rfl⟩ := hcov v h0 hf0
    rw [hfin] at hf0 ⊢
    have := h3 n hn (by rw [hseg n hn]; exact h0) hf0
    rw [hseg n hn] at this
    exact this

theorem okW_one {ins outs : List Int} (h1 : ins.length ≤ 40) (h2 : outs.length ≤ 40) : OkW oneD ins outs 2 0 where
  n1 := by decide
  n2 := by decide
  s := by decide
  i40 := h1
  o40 := h2
  many := by decide
  arcs := by
    intro a ha
    simp [oneD] at ha
    subst ha
    decide
  sort := (arcsErr_sorted _ _ _ (check_ok oneD check_one).err).1
  len := rfl
  fin := by
    intro x hx
    simp [oneD] at hx
    omega

theorem ach_start (E : List Edg) (b : List Int) (hb : ∀ v, gI b v = -1 ∨ 0 ≤ gI b v) : Ach E b b := fun v => (hb v).imp id fun h => ⟨0, rfl, h⟩

theorem bgS_lo (s T v : Nat) : gI (bgS s T) v = -1 ∨ 0 ≤ gI (bgS s T) v := by
  rw [bgS_at]
  split
  · right; decide
  · left; rfl

theorem fix_list {E : List Edg} {c : List Int} (h : E.all (fun e => decide (0 ≤ gI c e.u → 0 ≤ gI c e.v ∧ gI c e.v ≤ gI c e.u + e.w)) = true) : Fix E c := by
  intro e he
  rw [List.all_eq_true] at h
  exact of_decide_eq_true (h e he)

theorem best_one : IsBest (EdS oneD [1] [2] 2) (bgS 0 (totS [1] [2] 2)) (finS (totS [1] [2] 2) 2 oneD.final) 6 := by
  obtain ⟨h1, h2, _⟩ := relAll_round (E := EdS oneD [1] [2] 2) (b := bgS 0 (totS [1] [2] 2)) (EdS oneD [1] [2] 2) (bgS 0 (totS [1] [2] 2)) (fun _ h => h) (fun e he => by have := (okW_one (ins := [1]) (outs := [2]) (by decide) (by decide)).edges e he; rw [bgS_len]; exact ⟨this.1, this.2.1⟩) (ach_start _ _ (bgS_lo _ _))
  have h3 := doc_best (f := oneD) (ins := [1]) (outs := [2]) (N := 2) (s0 := 0) (by rw [relAll_len, bgS_len]) h1 h2 (fix_list (by decide))
  exact h3

theorem best_none : IsBest (EdS oneD [] [] 2) (bgS 0 (totS [] [] 2)) (finS (totS [] [] 2) 2 oneD.final) (-1) := by
  obtain ⟨h1, h2, _⟩ := relAll_round (E := EdS oneD [] [] 2) (b := bgS 0 (totS [] [] 2)) (EdS oneD [] [] 2) (bgS 0 (totS [] [] 2)) (fun _ h => h) (fun e he => by have := (okW_one (ins := []) (outs := []) (by decide) (by decide)).edges e he; rw [bgS_len]; exact ⟨this.1, this.2.1⟩) (ach_start _ _ (bgS_lo _ _))
  have h3 := doc_best (f := oneD) (ins := []) (outs := []) (N := 2) (s0 := 0) (by rw [relAll_len, bgS_len]) h1 h2 (fix_list (by decide))
  exact h3

/-- the one way back -/
theorem way_one {c y : List Int} {l : List Int} {n : Nat} (hn : n < 2) (hf : 0 ≤ gI oneD.final n) (h : BWay oneD [1] [2] 2 0 c y l.reverse n 1 1) : l = [0] := by
  have hn1 : n = 1 := by
    rcases (show n = 0 ∨ n = 1 by omega) with rfl | rfl
    · exact absurd hf (by decide)
    · rfl
  subst hn1
  have hr : l.reverse = [0] := by
    match hl : l.reverse, h with
    | [], h => exact absurd h.1 (by decide)
    | k :: r, h =>
      obtain ⟨n', i', o', ⟨j, a, e1, _, e2, e3, _, _, _, e4, e5, _⟩, hr⟩ := h
      have hj : j = 0 := by
        obtain ⟨hj, _⟩ := List.getElem?_eq_some_iff.1 e2
        simp [oneD] at hj
        exact hj
      subst hj
      simp [oneD] at e2
      subst e2
      have hn' : n' = 0 := by simpa using e3.symm
      have hi' : i' = 0 := by simp [usedBy] at e4; omega
      have ho' : o' = 0 := by simp [usedBy] at e5; omega
      subst hn' hi' ho'
      match r, hr with
      | [], _ => rw [e1]; rfl
      | k2 :: r2, hr =>
        obtain ⟨_, _, _, ⟨j2, a2, _, _, g2, _, g3, _⟩, _⟩ := hr
        exfalso
        have hj : j2 = 0 := by
          obtain ⟨hj, _⟩ := List.getElem?_eq_some_iff.1 g2
          simp [oneD] at hj
          exact hj
        subst hj
        simp [oneD] at g2
        subst g2
        simp at g3
  have := congrArg List.reverse hr
  simpa using this
end Go.Proofs.Yteehgcbjmdideaa

/- 'scoreBegun' of the statements. -/
namespace Go.Proofs.Yteehgcbjmdideaa
open Go.RowKit
attribute [local go_sem ↓] Go.wp_at_zero Go.wp_at_succ

theorem lit_one (w : World) (x : Int) (g : Nat) (hg : w.heap.size = g) : ISlice (w.alloc (.cells #[.int .i64 x] 3)) (.slice (some ⟨g, 0, none⟩) 1 1) [x] := by
  subst hg
  have h := World.ownsRow_lit (base := 0) (e := 3) (size := 1) w #[.int .i64 x] 1 (Nat.zero_le _) (by decide) rfl
  exact ownsRow_ints (xs := [x]) h

theorem nil_int (w : World) : ISlice w (.slice none 0 0) [] := Or.inl ⟨none, 0, rfl, rfl⟩

theorem score_lit (ins outs : List Int) (x : Int) (h1 : wordD ins = 0) (h2 : wordD outs = 0) (hx : IsBest (EdS oneD ins outs 2) (bgS 0 (totS ins outs 2)) (finS (totS ins outs 2) 2 oneD.final) x) (N M : Nat) (iv ov : Value) (w : World) (hf : ISlice w (.slice (some ⟨N, 0, none⟩) 2 2) oneD.final) (ha : ASlice w (.slice (some ⟨M, 0, none⟩) 1 1) oneD.arcs) (hI : ISlice w iv ins) (hO : ISlice w ov outs) :
    Calls Try.prog 10 #[.agg #[.int .i64 2, .int .i64 0, .slice (some ⟨N, 0, none⟩) 2 2, .slice (some ⟨M, 0, none⟩) 1 1], iv, ov] w fun e w' => e = .returned (.tuple #[.int .i64 x, .int .i64 0]) ∧ Below w.heap.size w w' := by
  refine (score_any oneD ins outs _ _ _ _ w hf ha hI hO).mono ?_
  rintro e w' ⟨z, c, rfl, ⟨h3, _, h4⟩, hb⟩
  have hc : c = 0 := by
    rw [h3]
    unfold chkS
    rw [if_pos check_one, if_pos h1, h2]
  subst hc
  obtain ⟨N', s', e1, e2, _, hz⟩ := h4 rfl
  have e1' : N' = 2 := by have : (2 : Int) = N' := e1; omega
  have e2' : s' = 0 := by have : (0 : Int) = s' := e2; omega
  subst e1' e2'
  rw [hz.unique hx]
  exact ⟨rfl, hb⟩

theorem walk_lit (N M : Nat) (ib ob : Nat) (w : World) (hf : ISlice w (.slice (some ⟨N, 0, none⟩) 2 2) oneD.final) (ha : ASlice w (.slice (some ⟨M, 0, none⟩) 1 1) oneD.arcs) (hI : ISlice w (.slice (some ⟨ib, 0, none⟩) 1 1) [1]) (hO : ISlice w (.slice (some ⟨ob, 0, none⟩) 1 1) [2]) :
    Calls Try.prog 51 #[.agg #[.int .i64 2, .int .i64 0, .slice (some ⟨N, 0, none⟩) 2 2, .slice (some ⟨M, 0, none⟩) 1 1], .slice (some ⟨ib, 0, none⟩) 1 1, .slice (some ⟨ob, 0, none⟩) 1 1] w fun e w' => ∃ g off uc, e = .returned (.tuple #[.slice (some ⟨g, off, none⟩) 1 uc, .int .i64 6, .int .i64 0]) ∧ w'.cell? ⟨g, off, none⟩ = some (.int .i64 0) ∧ Below w.heap.size w w' := by
  refine (walk_ok oneD [1] [2] 2 0 _ (some ⟨M, 0, none⟩) 1 1 (some ⟨ib, 0, none⟩) 1 1 (some ⟨ob, 0, none⟩) 1 1 w hf ha rfl check_one hI rfl (by decide) hO rfl (by decide) rfl rfl (okW_one (by decide) (by decide)) (by intro a h; simp [oneD] at h; subst h; decide)).mono ?_
  rintro e w' ⟨ua, un, uc, l, best, rfl, hu, hul, hb, _, hw, hbl⟩
  have hb6 : best = 6 := hb.unique best_one
  subst hb6
  obtain ⟨c, y, n, _, hla, hbw⟩ := hw (by decide)
  have hl := way_one hla.1 hla.2.2.2.1 hbw
  subst hl
  have hun : un = 1 := hul.symm
  subst hun
  obtain ⟨g, off, rfl, hx⟩ := hu.some (by omega)
  have := hx.cell 0 (by omega)
  exact ⟨g, off, uc, rfl, by simpa using this, hbl⟩

set_option maxHeartbeats 1000000 in
set_option maxRecDepth 100000 in
theorem scoreBegun_any (w : World) : Calls Try.prog 13 #[] w fun e w' => e = .returned (.bool true) ∧ Below w.heap.size w w' := by
  go_enter Try.func13, Try.ntmps13
  go_wp2_with (go_at_call 55; refine (one_ex _).mono ?_; rintro e w1 ⟨N1, M1, rfl, hf1, ha1, hb1⟩)
  have hu1 := two_up w1 (.cells #[.int .i64 1] 3) (.cells #[.int .i64 2] 3)
  have hi1 := (lit_one w1 1 _ rfl).below (bel_up (bel_self _) (.cells #[.int .i64 2] 3))
  have ho1 := lit_one (w1.alloc (.cells #[.int .i64 1] 3)) 2 _ (one_size _ _)
  refine (score_lit [1] [2] 6 (by decide) (by decide) best_one N1 M1 _ _ _ (hf1.below hu1) (ha1.below hu1) hi1 ho1).mono ?_
  rintro e w2 ⟨rfl, hb2⟩
  have hc2 := bel_on (bel_on hb1 hu1) hb2
  clear hf1 ha1 hb1 hu1 hi1 ho1 hb2
  go_wp2_with (go_at_call 55; refine (one_ex _).mono ?_; rintro e w3 ⟨N3, M3, rfl, hf3, ha3, hb3⟩)
  refine (score_lit [] [] (-1) (by decide) (by decide) best_none N3 M3 _ _ _ hf3 ha3 (nil_int _) (nil_int _)).mono ?_
  rintro e w4 ⟨rfl, hb4⟩
  have hc4 := bel_on (bel_on hc2 hb3) hb4
  clear hf3 ha3 hb3 hb4 hc2
  go_wp2_with (go_at_call 55; refine (one_ex _).mono ?_; rintro e w5 ⟨N5, M5, rfl, hf5, ha5, hb5⟩)
  have hu5 := two_up w5 (.cells #[.int .i64 1] 3) (.cells #[.int .i64 2] 3)
  have hi5 := (lit_one w5 1 _ rfl).below (bel_up (bel_self _) (.cells #[.int .i64 2] 3))
  have ho5 := lit_one (w5.alloc (.cells #[.int .i64 1] 3)) 2 _ (one_size _ _)
  refine (walk_lit N5 M5 _ _ _ (hf5.below hu5) (ha5.below hu5) hi5 ho5).mono ?_
  rintro e w6 ⟨g, off, uc, rfl, hcell, hb6⟩
  have hc6 := bel_on (bel_on (bel_on hc4 hb5) hu5) hb6
  clear hf5 ha5 hb5 hu5 hi5 ho5 hb6 hc4
  have hu6 := bel_up (bel_self w6) (.cells #[.int .i64 1] 3)
  have hw6 := word_any [1] _ 1 1 _ (lit_one w6 1 _ rfl) rfl
  rw [show wordD [1] = 0 by decide] at hw6
  go_wp2_with (go_at_call 14; refine hw6.mono ?_; rintro e w7 ⟨rfl, hb7⟩)
  go_ret
  exact ⟨rfl, bel_on (bel_on hc6 hu6) hb7⟩
end Go.Proofs.Yteehgcbjmdideaa

/- What must be in any case of package simple: the pieces of one transducer, and what they cost. -/
namespace Go.Proofs.Yteehgcbjmdideaa
open Go.RowKit

theorem min_of {r l : List ArcD} (ho : r.Pairwise (fun a b => aheadB a b = true)) (hp : ∀ a, a ∈ r ↔ a ∈ l) : leastL l = r := by
  refine (leastL_min l).unique ⟨ho, fun a => ?_⟩
  rw [hp a]
  refine ⟨fun h => ⟨h, fun b hb he => ?_⟩, fun h => h.1⟩
  have ha := (hp a).2 h
  have hb' := (hp b).2 hb
  obtain ⟨i, hi, rfl⟩ := List.getElem_of_mem ha
  obtain ⟨j, hj, rfl⟩ := List.getElem_of_mem hb'
  have key := List.pairwise_iff_getElem.1 ho
  rcases Nat.lt_trichotomy i j with q | q | q
  · exact absurd he (ahead_not (key i j hi hj q)).1
  · subst q; exact Int.le_refl _
  · exact absurd he.symm (ahead_not (key j i hj hi q)).1

def invOne : FstD := ⟨2, 0, [-1, 1], [⟨0, 2, 1, 1, 5⟩]⟩
theorem inv_one_is : mapD invA oneD = invOne := by
  unfold mapD invOne
  rw [min_of (r := [⟨0, 2, 1, 1, 5⟩]) (l := oneD.arcs.map invA) (by decide) (fun a => Iff.rfl)]
  rfl
theorem check_inv : checkD invOne = 0 := by decide
/-- where one can come to, and for how much: a table that no arc leads out of -/
def stepR (ins outs : List Int) (R : List (Nat × Nat × Nat × Int)) (a : ArcD) (r : Nat × Nat × Nat × Int) : Bool :=
  !(decide (a.src = (r.1 : Int)) && fitB ins r.2.1 a.inp && fitB outs r.2.2.1 a.out) || decide ((a.dst.toNat, usedBy r.2.1 a.inp, usedBy r.2.2.1 a.out, r.2.2.2 + a.wt) ∈ R)

theorem path_all {f : FstD} {ins outs : List Int} {s0 : Nat} (R : List (Nat × Nat × Nat × Int)) (h0 : (s0, 0, 0, 0) ∈ R) (hs : (f.arcs.all fun a => R.all (stepR ins outs R a)) = true) {h n i o : Nat} {z : Int} (hp : PathN f ins outs s0 h n i o z) : (n, i, o, z) ∈ R := by
  induction h generalizing n i o z with
  | zero =>
    obtain ⟨rfl, rfl, rfl, rfl⟩ := hp
    exact h0
  | succ h ih =>
    obtain ⟨a, ha, n', i', o', z', hp', h1, h2, f1, f2, rfl, rfl, rfl⟩ := hp
    have hr := ih hp'
    have hst := List.all_eq_true.1 (List.all_eq_true.1 hs a ha) _ hr
    unfold stepR at hst
    rw [Bool.or_eq_true] at hst
    rcases hst with q | q
    · simp [h1, f1, f2] at q
    · have := of_decide_eq_true q
      rw [h2, Int.toNat_natCast] at this
      exact this

/-- a way, arc by arc -/
def runA (ins outs : List Int) : (Nat × Nat × Nat × Int) → List ArcD → Option (Nat × Nat × Nat × Int)
  | r, [] => some r
  | r, a :: l => if a.src = (r.1 : Int) ∧ 0 ≤ a.dst ∧ fitB ins r.2.1 a.inp = true ∧ fitB outs r.2.2.1 a.out = true then runA ins outs (a.dst.toNat, usedBy r.2.1 a.inp, usedBy r.2.2.1 a.out, r.2.2.2 + a.wt) l else none

theorem run_path {f : FstD} {ins outs : List Int} {s0 : Nat} (l : List ArcD) : ∀ (h n i o : Nat) (z : Int) (r : Nat × Nat × Nat × Int), (∀ a ∈ l, a ∈ f.arcs) → PathN f ins outs s0 h n i o z → runA ins outs (n, i, o, z) l = some r → ∃ h', PathN f ins outs s0 h' r.1 r.2.1 r.2.2.1 r.2.2.2 := by
  induction l with
  | nil =>
    intro h n i o z r _ hp hr
    have : (n, i, o, z) = r := by injection hr
    subst this
    exact ⟨h, hp⟩
  | cons a l ih =>
    intro h n i o z r hm hp hr
    unfold runA at hr
    split at hr
    · rename_i hc
      obtain ⟨h1, h2, h3, h4⟩ := hc
      exact ih (h + 1) _ _ _ _ r (fun b hb => hm b (List.mem_cons_of_mem _ hb)) ⟨a, hm a List.mem_cons_self, n, i, o, z, hp, h1, by omega, h3, h4, rfl, rfl, rfl⟩ hr
    · cases hr

theorem best_by {f : FstD} {ins outs : List Int} {s0 : Nat} (x : Int) (hx : 0 ≤ x) (R : List (Nat × Nat × Nat × Int)) (h0 : (s0, 0, 0, 0) ∈ R) (hs : (f.arcs.all fun a => R.all (stepR ins outs R a)) = true)
    (hm : (R.all fun r => !(decide (r.2.1 = ins.length) && decide (r.2.2.1 = outs.length) && decide (0 ≤ gI f.final r.1)) || decide (x ≤ r.2.2.2 + gI f.final r.1)) = true)
    (l : List ArcD) (hl : ∀ a ∈ l, a ∈ f.arcs) (n : Nat) (z : Int) (hr : runA ins outs (s0, 0, 0, 0) l = some (n, ins.length, outs.length, z)) (hn : 0 ≤ gI f.final n) (hz : x = z + gI f.final n) : BestP f ins outs s0 x := by
  refine Or.inr ⟨hx, ?_, fun y hy => ?_⟩
  · obtain ⟨h', hp⟩ := run_path (f := f) (s0 := s0) l 0 s0 0 0 0 _ hl ⟨rfl, rfl, rfl, rfl⟩ hr
    exact ⟨h', n, z, hp, hn, hz⟩
  · obtain ⟨h, n, z, hp, hf, rfl⟩ := hy
    have := List.all_eq_true.1 hm _ (path_all R h0 hs hp)
    simpa [hf] using this

end Go.Proofs.Yteehgcbjmdideaa
