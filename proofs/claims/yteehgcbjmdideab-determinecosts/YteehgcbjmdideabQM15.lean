/- 'one' of the statements, a transducer of two states and one arc. -/
import Derived.Test.YteehgcbjmdideabQM02
import Derived.Test.YteehgcbjmdideabQM14
import Derived.Test.YteehgcbjmdideabQM12
import Derived.Test.YteehgcbjmdideabQM09
set_option maxRecDepth 100000
namespace Go.Proofs.Yteehgcbjmdideab
open Go.RowKit
attribute [local go_sem ↓] Go.wp_at_zero Go.wp_at_succ
def oneD : FstD := ⟨2, 0, [-1, 1], [⟨0, 1, 2, 1, 5⟩]⟩
theorem check_one : checkD oneD = 0 := by decide
theorem one_any (w : World) :
  Calls Try.prog 42 #[] w fun e w' => e = .returned (.agg #[.int .i64 2, .int .i64 0, .slice (some ⟨w.heap.size + 1, 0, none⟩) 2 2, .slice (some ⟨w.heap.size + 2, 0, none⟩) 1 1]) ∧
   ISlice w' (.slice (some ⟨w.heap.size + 1, 0, none⟩) 2 2) oneD.final ∧ ASlice w' (.slice (some ⟨w.heap.size + 2, 0, none⟩) 1 1) oneD.arcs ∧ Below w.heap.size w w' := by
 have hsz : ∀ (x : World) (o : Obj), (x.alloc o).heap.size = x.heap.size + 1 := fun x o => by simp
 have r1 := (World.ownsRow_lit (base := 0) (e := 3) (size := 1) (w.alloc (.cells #[.int .i64 2, .int .i64 0, .slice (some ⟨w.heap.size + 1, 0, none⟩) 2 2, .slice (some ⟨w.heap.size + 1 + 1, 0, none⟩) 1 1] 25)) #[.int .i64 (-1), .int .i64 1] 2 (Nat.zero_le _) (by decide) rfl).alloc (.cells #[.int .i64 0, .int .i64 1, .int .i64 2, .int .i64 1, .int .i64 5] 54)
 have r2 := World.ownsRow_lit (base := 0) (e := 54) (size := 5) ((w.alloc (.cells #[.int .i64 2, .int .i64 0, .slice (some ⟨w.heap.size + 1, 0, none⟩) 2 2, .slice (some ⟨w.heap.size + 1 + 1, 0, none⟩) 1 1] 25)).alloc (.cells #[.int .i64 (-1), .int .i64 1] 3)) #[.int .i64 0, .int .i64 1, .int .i64 2, .int .i64 1, .int .i64 5] 1 (Nat.zero_le _) (by decide) rfl
 rw [hsz] at r1
 rw [hsz, hsz] at r2
 clear hsz
 go_enter Try.func42, Try.ntmps42
 go_wp2
 exact bodyPost_ret (v := .agg #[.int .i64 2, .int .i64 0, .slice (some ⟨w.heap.size + 1, 0, none⟩) 2 2, .slice (some ⟨w.heap.size + 1 + 1, 0, none⟩) 1 1]) (by simp [results, Try.results42, go_sem]) rfl ⟨rfl, ownsRow_ints (xs := oneD.final) r1, ownsRow_arcs (ars := oneD.arcs) r2, bel_up (bel_up (bel_up (bel_self w) _) _) _⟩
theorem one_ex (w : World) :
  Calls Try.prog 42 #[] w fun e w' => ∃ N M : Nat, e = .returned (.agg #[.int .i64 2, .int .i64 0, .slice (some ⟨N, 0, none⟩) 2 2, .slice (some ⟨M, 0, none⟩) 1 1]) ∧
   ISlice w' (.slice (some ⟨N, 0, none⟩) 2 2) oneD.final ∧ ASlice w' (.slice (some ⟨M, 0, none⟩) 1 1) oneD.arcs ∧ Below w.heap.size w w' :=
 (one_any w).mono fun _ _ ⟨h1, h2, h3, h4⟩ => ⟨_, _, h1, h2, h3, h4⟩
end Go.Proofs.Yteehgcbjmdideab
/- What the document's tables say is the least cost; 'one' and its words. -/
namespace Go.Proofs.Yteehgcbjmdideab
open Go.RowKit
theorem best_fix {E : List Edg} {b c : List Int} {fin : Nat → Int} {x : Int} (ha : Ach E b c) (hb : LeC c b) (hf : Fix E c) (hx : (x = -1 ∧ ∀ v, 0 ≤ gI c v → ¬ 0 ≤ fin v) ∨ (0 ≤ x ∧ (∃ v, 0 ≤ gI c v ∧ 0 ≤ fin v ∧ x = gI c v + fin v) ∧ ∀ v, 0 ≤ gI c v → 0 ≤ fin v → x ≤ gI c v + fin v)) : IsBest E b fin x := by
 rcases hx with ⟨h1, h2⟩ | ⟨h1, ⟨v, g1, g2, g3⟩, h3⟩
 ·exact Or.inl ⟨h1, fun v h z hw => h2 v (fix_le hb hf hw).1⟩
 ·refine Or.inr ⟨h1, ?_, fun v h z hw h0 => ?_⟩
  ·rcases ha v with e | ⟨k, hk⟩
   ·omega
   ·exact ⟨v, k, _, hk, g2, g3⟩
  ·obtain ⟨q1, q2⟩ := fix_le hb hf hw
   have := h3 v q1 h0
   omega
theorem last_place (N I O : Nat) : (I * (O + 1) + O) * N = (I + 1) * (O + 1) * N - N := by
 have := spotN_end N I O 0
 unfold spotN at this
 omega
theorem doc_best {f : FstD} {ins outs : List Int} {N s0 : Nat} {c : List Int} (hl : c.length = totS ins outs N) (ha : Ach (EdS f ins outs N) (bgS s0 (totS ins outs N)) c) (hb : LeC c (bgS s0 (totS ins outs N))) (hf : Fix (EdS f ins outs N) c) :
  IsBest (EdS f ins outs N) (bgS s0 (totS ins outs N)) (finS (totS ins outs N) N f.final) (endD (segL c N (ins.length * (outs.length + 1) + outs.length)) f.final N) := by
 refine best_fix ha hb hf ?_
 have hp := last_place N ins.length outs.length
 have hNT : N ≤ totS ins outs N := by
  unfold totS
  have : 1 * N ≤ (ins.length + 1) * (outs.length + 1) * N := Nat.mul_le_mul_right N (Nat.mul_pos (by omega) (by omega))
  omega
 have hseg : ∀ n, n < N → gI (segL c N (ins.length * (outs.length + 1) + outs.length)) n = gI c (totS ins outs N - N + n) := fun n hn => by
  rw [segL_at _ _ _ _ hn, hp]
  rfl
 have hfin : ∀ n, finS (totS ins outs N) N f.final (totS ins outs N - N + n) = gI f.final n := fun n => by
  unfold finS
  rw [if_pos (by omega)]
  congr 1
  omega
 have hcov : ∀ v, 0 ≤ gI c v → 0 ≤ finS (totS ins outs N) N f.final v → ∃ n, n < N ∧ v = totS ins outs N - N + n := fun v h0 h1 => by
  have hv : v < totS ins outs N := by
   rcases Nat.lt_or_ge v c.length with h | h
   ·omega
   ·rw [out_gI c v h] at h0; omega
  unfold finS at h1
  split at h1
  ·exact ⟨v - (totS ins outs N - N), by omega, by omega⟩
  ·omega
 rcases endD_is (segL c N (ins.length * (outs.length + 1) + outs.length)) f.final N with ⟨h1, h2⟩ | ⟨h1, ⟨n, g1, g2, g3, g4⟩, h3⟩
 ·refine Or.inl ⟨h1, fun v h0 hf0 => ?_⟩
  obtain ⟨n, hn, rfl⟩ := hcov v h0 hf0
  rw [hfin] at hf0
  exact h2 n hn ⟨by rw [hseg n hn]; exact h0, hf0⟩
 ·refine Or.inr ⟨h1, ⟨totS ins outs N - N + n, by rw [← hseg n g1]; exact g2, by rw [hfin]; exact g3, by rw [hfin, ← hseg n g1]; exact g4⟩, fun v h0 hf0 => ?_⟩
  obtain ⟨n, hn, rfl⟩ := hcov v h0 hf0
  rw [hfin] at hf0 ⊢
  have := h3 n hn (by rw [hseg n hn]; exact h0) hf0
  rw [hseg n hn] at this
  exact this
theorem okW_one {ins outs : List Int} (h1 : ins.length ≤ 40) (h2 : outs.length ≤ 40) : OkW oneD ins outs 2 0 where
 n1 := by decide
 n2 := by decide
 s := by decide
 i40 := h1
 o40 := h2
 many := by decide
 arcs := by
  intro a ha
  simp [oneD] at ha
  subst ha
  decide
 sort := (arcsErr_sorted _ _ _ (check_ok oneD check_one).err).1
 len := rfl
 fin := by
  intro x hx
  simp [oneD] at hx
  omega
theorem ach_start (E : List Edg) (b : List Int) (hb : ∀ v, gI b v = -1 ∨ 0 ≤ gI b v) : Ach E b b := fun v => (hb v).imp id fun h => ⟨0, rfl, h⟩
theorem bgS_lo (s T v : Nat) : gI (bgS s T) v = -1 ∨ 0 ≤ gI (bgS s T) v := by
 rw [bgS_at]
 split
 ·right; decide
 ·left; rfl
theorem fix_list {E : List Edg} {c : List Int} (h : E.all (fun e => decide (0 ≤ gI c e.u → 0 ≤ gI c e.v ∧ gI c e.v ≤ gI c e.u + e.w)) = true) : Fix E c := by
 intro e he
 rw [List.all_eq_true] at h
 exact of_decide_eq_true (h e he)
theorem best_one : IsBest (EdS oneD [1] [2] 2) (bgS 0 (totS [1] [2] 2)) (finS (totS [1] [2] 2) 2 oneD.final) 6 := by
 obtain ⟨h1, h2, _⟩ := relAll_round (E := EdS oneD [1] [2] 2) (b := bgS 0 (totS [1] [2] 2)) (EdS oneD [1] [2] 2) (bgS 0 (totS [1] [2] 2)) (fun _ h => h) (fun e he => by have := (okW_one (ins := [1]) (outs := [2]) (by decide) (by decide)).edges e he; rw [bgS_len]; exact ⟨this.1, this.2.1⟩) (ach_start _ _ (bgS_lo _ _))
 have h3 := doc_best (f := oneD) (ins := [1]) (outs := [2]) (N := 2) (s0 := 0) (by rw [relAll_len, bgS_len]) h1 h2 (fix_list (by decide))
 exact h3
theorem best_none : IsBest (EdS oneD [] [] 2) (bgS 0 (totS [] [] 2)) (finS (totS [] [] 2) 2 oneD.final) (-1) := by
 obtain ⟨h1, h2, _⟩ := relAll_round (E := EdS oneD [] [] 2) (b := bgS 0 (totS [] [] 2)) (EdS oneD [] [] 2) (bgS 0 (totS [] [] 2)) (fun _ h => h) (fun e he => by have := (okW_one (ins := []) (outs := []) (by decide) (by decide)).edges e he; rw [bgS_len]; exact ⟨this.1, this.2.1⟩) (ach_start _ _ (bgS_lo _ _))
 have h3 := doc_best (f := oneD) (ins := []) (outs := []) (N := 2) (s0 := 0) (by rw [relAll_len, bgS_len]) h1 h2 (fix_list (by decide))
 exact h3
theorem way_one {c y : List Int} {l : List Int} {n : Nat} (hn : n < 2) (hf : 0 ≤ gI oneD.final n) (h : BWay oneD [1] [2] 2 0 c y l.reverse n 1 1) : l = [0] := by
 have hn1 : n = 1 := by
  rcases (show n = 0 ∨ n = 1 by omega) with rfl | rfl
  ·exact absurd hf (by decide)
  ·rfl
 subst hn1
 have hr : l.reverse = [0] := by
  match hl : l.reverse, h with
  | [], h => exact absurd h.1 (by decide)
  | k :: r, h =>
   obtain ⟨n', i', o', ⟨j, a, e1, _, e2, e3, _, _, _, e4, e5, _⟩, hr⟩ := h
   have hj : j = 0 := by
    obtain ⟨hj, _⟩ := List.getElem?_eq_some_iff.1 e2
    simp [oneD] at hj
    exact hj
   subst hj
   simp [oneD] at e2
   subst e2
   have hn' : n' = 0 := by simpa using e3.symm
   have hi' : i' = 0 := by simp [usedBy] at e4; omega
   have ho' : o' = 0 := by simp [usedBy] at e5; omega
   subst hn' hi' ho'
   match r, hr with
   | [], _ => rw [e1]; rfl
   | k2 :: r2, hr =>
    obtain ⟨_, _, _, ⟨j2, a2, _, _, g2, _, g3, _⟩, _⟩ := hr
    exfalso
    have hj : j2 = 0 := by
     obtain ⟨hj, _⟩ := List.getElem?_eq_some_iff.1 g2
     simp [oneD] at hj
     exact hj
    subst hj
    simp [oneD] at g2
    subst g2
    simp at g3
 have := congrArg List.reverse hr
 simpa using this
end Go.Proofs.Yteehgcbjmdideab
/- 'scoreBegun' of the statements. -/
namespace Go.Proofs.Yteehgcbjmdideab
open Go.RowKit
attribute [local go_sem ↓] Go.wp_at_zero Go.wp_at_succ
theorem lit_one (w : World) (x : Int) (g : Nat) (hg : w.heap.size = g) : ISlice (w.alloc (.cells #[.int .i64 x] 3)) (.slice (some ⟨g, 0, none⟩) 1 1) [x] := by
 subst hg
 have h := World.ownsRow_lit (base := 0) (e := 3) (size := 1) w #[.int .i64 x] 1 (Nat.zero_le _) (by decide) rfl
 exact ownsRow_ints (xs := [x]) h
theorem nil_int (w : World) : ISlice w (.slice none 0 0) [] := Or.inl ⟨none, 0, rfl, rfl⟩
theorem score_lit (ins outs : List Int) (x : Int) (h1 : wordD ins = 0) (h2 : wordD outs = 0) (hx : IsBest (EdS oneD ins outs 2) (bgS 0 (totS ins outs 2)) (finS (totS ins outs 2) 2 oneD.final) x) (N M : Nat) (iv ov : Value) (w : World) (hf : ISlice w (.slice (some ⟨N, 0, none⟩) 2 2) oneD.final) (ha : ASlice w (.slice (some ⟨M, 0, none⟩) 1 1) oneD.arcs) (hI : ISlice w iv ins) (hO : ISlice w ov outs) :
  Calls Try.prog 17 #[.agg #[.int .i64 2, .int .i64 0, .slice (some ⟨N, 0, none⟩) 2 2, .slice (some ⟨M, 0, none⟩) 1 1], iv, ov] w fun e w' => e = .returned (.tuple #[.int .i64 x, .int .i64 0]) ∧ Below w.heap.size w w' := by
 refine (score_any oneD ins outs _ _ _ _ w hf ha hI hO).mono ?_
 rintro e w' ⟨z, c, rfl, ⟨h3, _, h4⟩, hb⟩
 have hc : c = 0 := by
  rw [h3]
  unfold chkS
  rw [if_pos check_one, if_pos h1, h2]
 subst hc
 obtain ⟨N', s', e1, e2, _, hz⟩ := h4 rfl
 have e1' : N' = 2 := by have : (2 : Int) = N' := e1; omega
 have e2' : s' = 0 := by have : (0 : Int) = s' := e2; omega
 subst e1' e2'
 rw [hz.unique hx]
 exact ⟨rfl, hb⟩
theorem walk_lit (N M : Nat) (ib ob : Nat) (w : World) (hf : ISlice w (.slice (some ⟨N, 0, none⟩) 2 2) oneD.final) (ha : ASlice w (.slice (some ⟨M, 0, none⟩) 1 1) oneD.arcs) (hI : ISlice w (.slice (some ⟨ib, 0, none⟩) 1 1) [1]) (hO : ISlice w (.slice (some ⟨ob, 0, none⟩) 1 1) [2]) :
  Calls Try.prog 43 #[.agg #[.int .i64 2, .int .i64 0, .slice (some ⟨N, 0, none⟩) 2 2, .slice (some ⟨M, 0, none⟩) 1 1], .slice (some ⟨ib, 0, none⟩) 1 1, .slice (some ⟨ob, 0, none⟩) 1 1] w fun e w' => ∃ g off uc, e = .returned (.tuple #[.slice (some ⟨g, off, none⟩) 1 uc, .int .i64 6, .int .i64 0]) ∧ w'.cell? ⟨g, off, none⟩ = some (.int .i64 0) ∧ Below w.heap.size w w' := by
 refine (walk_ok oneD [1] [2] 2 0 _ (some ⟨M, 0, none⟩) 1 1 (some ⟨ib, 0, none⟩) 1 1 (some ⟨ob, 0, none⟩) 1 1 w hf ha rfl check_one hI rfl (by decide) hO rfl (by decide) rfl rfl (okW_one (by decide) (by decide)) (by intro a h; simp [oneD] at h; subst h; decide)).mono ?_
 rintro e w' ⟨ua, un, uc, l, best, rfl, hu, hul, hb, _, hw, hbl⟩
 have hb6 : best = 6 := hb.unique best_one
 subst hb6
 obtain ⟨c, y, n, _, hla, hbw⟩ := hw (by decide)
 have hl := way_one hla.1 hla.2.2.2.1 hbw
 subst hl
 have hun : un = 1 := hul.symm
 subst hun
 obtain ⟨g, off, rfl, hx⟩ := hu.some (by omega)
 have := hx.cell 0 (by omega)
 exact ⟨g, off, uc, rfl, by simpa using this, hbl⟩
set_option maxHeartbeats 1000000 in
theorem scoreBegun_any (w : World) : Calls Try.prog 14 #[] w fun e w' => e = .returned (.bool true) ∧ Below w.heap.size w w' := by
 go_enter Try.func14, Try.ntmps14
 go_wp2_with (go_at_call 42; refine (one_ex _).mono ?_; rintro e w1 ⟨N1, M1, rfl, hf1, ha1, hb1⟩)
 have hu1 := two_up w1 (.cells #[.int .i64 1] 3) (.cells #[.int .i64 2] 3)
 have hi1 := (lit_one w1 1 _ rfl).below (bel_up (bel_self _) (.cells #[.int .i64 2] 3))
 have ho1 := lit_one (w1.alloc (.cells #[.int .i64 1] 3)) 2 _ (one_size _ _)
 refine (score_lit [1] [2] 6 (by decide) (by decide) best_one N1 M1 _ _ _ (hf1.below hu1) (ha1.below hu1) hi1 ho1).mono ?_
 rintro e w2 ⟨rfl, hb2⟩
 have hc2 := bel_on (bel_on hb1 hu1) hb2
 clear hf1 ha1 hb1 hu1 hi1 ho1 hb2
 go_wp2_with (go_at_call 42; refine (one_ex _).mono ?_; rintro e w3 ⟨N3, M3, rfl, hf3, ha3, hb3⟩)
 refine (score_lit [] [] (-1) (by decide) (by decide) best_none N3 M3 _ _ _ hf3 ha3 (nil_int _) (nil_int _)).mono ?_
 rintro e w4 ⟨rfl, hb4⟩
 have hc4 := bel_on (bel_on hc2 hb3) hb4
 clear hf3 ha3 hb3 hb4 hc2
 go_wp2_with (go_at_call 42; refine (one_ex _).mono ?_; rintro e w5 ⟨N5, M5, rfl, hf5, ha5, hb5⟩)
 have hu5 := two_up w5 (.cells #[.int .i64 1] 3) (.cells #[.int .i64 2] 3)
 have hi5 := (lit_one w5 1 _ rfl).below (bel_up (bel_self _) (.cells #[.int .i64 2] 3))
 have ho5 := lit_one (w5.alloc (.cells #[.int .i64 1] 3)) 2 _ (one_size _ _)
 refine (walk_lit N5 M5 _ _ _ (hf5.below hu5) (ha5.below hu5) hi5 ho5).mono ?_
 rintro e w6 ⟨g, off, uc, rfl, hcell, hb6⟩
 have hc6 := bel_on (bel_on (bel_on hc4 hb5) hu5) hb6
 clear hf5 ha5 hb5 hu5 hi5 ho5 hb6 hc4
 have hu6 := bel_up (bel_self w6) (.cells #[.int .i64 1] 3)
 have hw6 := word_any [1] _ 1 1 _ (lit_one w6 1 _ rfl) rfl
 rw [show wordD [1] = 0 by decide] at hw6
 go_wp2_with (go_at_call 44; refine hw6.mono ?_; rintro e w7 ⟨rfl, hb7⟩)
 go_ret
 exact ⟨rfl, bel_on (bel_on hc6 hu6) hb7⟩
end Go.Proofs.Yteehgcbjmdideab
/- The document's 'ScoreOf', where 'Costs' is known. -/
namespace Go.Proofs.Yteehgcbjmdideab
open Go.RowKit
attribute [local go_sem ↓] Go.wp_at_zero Go.wp_at_succ
end Go.Proofs.Yteehgcbjmdideab
/- The document's tables in memory. -/
namespace Go.Proofs.Yteehgcbjmdideab
open Go.RowKit
section
variable {w wr wx : World} {N ol : Nat} {sta : Int} {fin arcs : Value} {g h hc : Nat → Nat} {c : List Int} {i o : Nat} {t9 t11 : Value}
end
end Go.Proofs.Yteehgcbjmdideab
/- Rows that grow, of which a row of rows tells. -/
namespace Go.Proofs.Yteehgcbjmdideab
open Go.RowKit
def natL (l : List Nat) : List Int := l.map fun (x : Nat) => (x : Int)
def natV (l : List Nat) : List Value := l.map fun (x : Nat) => .int .i64 (x : Int)
theorem natV_eq (l : List Nat) : natV l = (natL l).map (Value.int .i64) := by simp [natV, natL]
theorem natL_len (l : List Nat) : (natL l).length = l.length := by simp [natL]
theorem natL_get {l : List Nat} {i x : Nat} (h : l[i]? = some x) : (natL l).getD i 0 = (x : Int) := by simp [natL, List.getD, h]
theorem wp_app_at {P : Program} {w : World} {o : Oper} {a : Act} {K : Act → World → Prop} {Q : Exit → Act → World → Prop} (s x : Operand) (t : TypeId)
  (ho : o.op = .call { callee := .builtin .append, args := #[s, x], argTypes := #[t, t] })
  (base : Nat) (e : TypeId) (i : TypeInfo) (z : Value) (size bytes : Nat) (ht : P.underlying t = some (.slice e)) (hi : P.info? e = some i) (hz : i.zero = some z)
  (hsize : i.size = size) (hby : i.bytes = bytes) (hzs : z.cells.size = size) (hsz : 0 < size)
  (v : Value) (n : Nat) (xs : List Value) (hs : a.eval s = v) (hown : w.ownsRow base e size v n xs)
  (ad : Addr) (m c : Nat) (news : List Value) (hx : a.eval x = .slice (some ad) m c) (hl : news.length = m * size) (hnews : ∀ j u, news[j]? = some u → w.cell? (ad.add j) = some u) (h1 : ∀ u ∈ news, u.oneCell' = true)
  (h63 : n + m ≤ maxLen) (hbytes : (n + m) * bytes ≤ 140737488355328) (hbase : base ≤ w.heap.size)
  (h : ∀ v' w', w'.ownsRow base e size v' (n + m) (xs ++ news) → w.grownBy w' v.ownBlock → (v'.ownBlock = v.ownBlock ∨ v'.ownBlock = some w.heap.size) → K (a.put o.dst v') w') : o.wp P a w K Q := by
 obtain ⟨v', w', hr, h2, h3, _, h5⟩ := run_append_own_at (P := P) w base t o.type e i z size bytes ht hi hz hsize hby hzs hsz v n xs hown ad m c news hl hnews h1 h63 hbytes hbase
 unfold Oper.wp execOp
 simp only [ho, resolve, invoke, builtin, Sem.run_bind, Sem.run_pure, Result.andThen_ok, List.map_toArray, List.map_cons, List.map_nil, hs, hx, hr]
 exact h v' w' h2 h3 h5
structure NXW (w wr : World) (N : Nat) (sta : Int) (fin arcs : Value) (gi gn : Nat) (c : Nat → Nat) (V : Nat → Value) (L : Nat → List Nat) : Prop where
 rw : RW w wr N sta fin arcs
 into : ValsAt wr gi N (fun v => .int .i64 (c v : Int))
 next : ValsAt wr gn N V
 gi1 : w.heap.size < gi
 gn1 : gi < gn
 rows : ∀ s, s < N → wr.ownsRow (gn + 1) 3 1 (V s) (L s).length (natV (L s))
 sep : ∀ s t, s < N → t < N → s ≠ t → ∀ b, (V s).ownBlock = some b → (V t).ownBlock ≠ some b
section
variable {w wr wx : World} {N : Nat} {sta : Int} {fin arcs : Value} {gi gn : Nat} {c : Nat → Nat} {V : Nat → Value} {L : Nat → List Nat}
theorem NXW.below (h : NXW w wr N sta fin arcs gi gn c V L) (hb : Below wr.heap.size wr wx) : NXW w wx N sta fin arcs gi gn c V L :=
 ⟨h.rw.below hb, h.into.below hb, h.next.below hb, h.gi1, h.gn1, fun s hs => ownsRow_bel (h.rows s hs) hb, h.sep⟩
theorem NXW.notRow (h : NXW w wr N sta fin arcs gi gn c V L) {s k : Nat} (hs : s < N) (hk : k ≤ gn) : (V s).ownBlock ≠ some k := fun e => by
 have := own_base (h.rows s hs) k e
 omega
theorem NXW.setInto (h : NXW w wr N sta fin arcs gi gn c V L) {t x : Nat} (ht : t < N) : NXW w (wr.setCell ⟨gi, t, none⟩ (.int .i64 (x : Int))) N sta fin arcs gi gn (fun v => if v = t then x else c v) V L := by
 refine ⟨h.rw.set h.gi1, (h.into.set t _ ht).cong fun i _ => ?_, h.next.other (by have := h.gn1; omega), h.gi1, h.gn1, fun s hs => ownsRow_setCell_far (h.rows s hs) (h.notRow hs (by have := h.gn1; omega)), h.sep⟩
 unfold updV
 by_cases e : i = t
 ·rw [if_pos e, if_pos e]
 ·rw [if_neg e, if_neg e]
theorem NXW.cong {c' : Nat → Nat} {L' : Nat → List Nat} (h : NXW w wr N sta fin arcs gi gn c V L) (hc : ∀ v, v < N → c v = c' v) (hL : ∀ s, s < N → L s = L' s) : NXW w wr N sta fin arcs gi gn c' V L' :=
 ⟨h.rw, h.into.cong fun i hi => by rw [hc i hi], h.next, h.gi1, h.gn1, fun s hs => by rw [← hL s hs]; exact h.rows s hs, h.sep⟩
theorem NXW.app (h : NXW w wr N sta fin arcs gi gn c V L) {s t : Nat} (hs : s < N) {v' : Value} (hg : wr.grownBy wx (V s).ownBlock) (ho : wx.ownsRow (gn + 1) 3 1 v' ((L s).length + 1) (natV (L s) ++ [.int .i64 (t : Int)]))
  (hv : v'.ownBlock = (V s).ownBlock ∨ v'.ownBlock = some wr.heap.size) : NXW w (wx.setCell ⟨gn, s, none⟩ v') N sta fin arcs gi gn c (updV V s v') (updR L s (L s ++ [t])) := by
 have hgn := h.gn1
 have hgi := h.gi1
 have hrow : ∀ k, k ≤ gn → some k ≠ (V s).ownBlock := fun k hk e => h.notRow hs hk e.symm
 have hlt : ∀ u, u < N → ∀ b, (V u).ownBlock = some b → b < wr.heap.size := fun u hu => ownsRow_lt0 (h.rows u hu)
 have hvn : ∀ k, k ≤ gn → v'.ownBlock ≠ some k := fun k hk e => by
  have := own_base ho k e
  omega
 have hcf := h.rw.cf
 have hl0 := cell_lt hcf.1
 have hcf' : CellsF wx w.heap.size (N : Int) sta fin arcs := ⟨(hg.cell_far ⟨w.heap.size, 0, none⟩ hl0 (hrow w.heap.size (by omega))).trans hcf.1, (hg.cell_far ⟨w.heap.size, 1, none⟩ hl0 (hrow w.heap.size (by omega))).trans hcf.2.1, (hg.cell_far ⟨w.heap.size, 2, none⟩ hl0 (hrow w.heap.size (by omega))).trans hcf.2.2.1, (hg.cell_far ⟨w.heap.size, 3, none⟩ hl0 (hrow w.heap.size (by omega))).trans hcf.2.2.2⟩
 have hb' : Below w.heap.size w wx := h.rw.bel.grown hg (by have := h.rw.bel.size; omega) (fun k hk => by have := own_base (h.rows s hs) k hk; omega)
 have hrw : RW w wx N sta fin arcs := ⟨hcf', hb'⟩
 have hin := h.into.grown hg (hrow gi (by omega))
 have hnx := h.next.grown hg (hrow gn (Nat.le_refl _))
 refine ⟨hrw.set (by omega), hin.other (by omega), hnx.set s v' hs, hgi, hgn, fun u hu => ?_, fun u t' hu ht hne b hb => ?_⟩
 ·unfold updV updR
  by_cases e : u = s
  ·rw [if_pos e, if_pos e]
   refine ownsRow_setCell_far ?_ (hvn gn (Nat.le_refl _))
   have e1 : (L s ++ [t]).length = (L s).length + 1 := by simp
   have e2 : natV (L s ++ [t]) = natV (L s) ++ [.int .i64 (t : Int)] := by simp [natV]
   rw [e1, e2]
   exact ho
  ·rw [if_neg e, if_neg e]
   refine ownsRow_setCell_far ((h.rows u hu).kept hg ?_) (h.notRow hu (Nat.le_refl _))
   cases hu' : (V u).ownBlock with
   | none => exact Or.inl rfl
   | some b => exact Or.inr fun e' => h.sep u s hu hs e b hu' e'.symm
 ·unfold updV at hb ⊢
  by_cases e : u = s
  ·rw [if_pos e] at hb
   rw [if_neg (by omega)]
   rcases hv with hv | hv
   ·rw [hv] at hb
    exact h.sep s t' hs ht (by omega) b hb
   ·rw [hv] at hb
    injection hb with hb
    intro e'
    have := hlt t' ht b e'
    omega
  ·rw [if_neg e] at hb
   by_cases e2 : t' = s
   ·rw [if_pos e2]
    rcases hv with hv | hv
    ·rw [hv]
     exact h.sep u s hu hs e b hb
    ·rw [hv]
     intro e'
     injection e' with e'
     have := hlt u hu b hb
     omega
   ·rw [if_neg e2]
    exact h.sep u t' hu ht hne b hb
theorem NXW.grown {row : Option Nat} (h : NXW w wr N sta fin arcs gi gn c V L) (hg : wr.grownBy wx row) (hlo : ∀ k, row = some k → gn < k) (hr : ∀ s, s < N → ∀ b, (V s).ownBlock = some b → row ≠ some b) : NXW w wx N sta fin arcs gi gn c V L := by
 have hgn := h.gn1
 have hgi := h.gi1
 have hrow : ∀ k, k ≤ gn → some k ≠ row := fun k hk e => by have := hlo k e.symm; omega
 have hcf := h.rw.cf
 have hl0 := cell_lt hcf.1
 refine ⟨⟨⟨(hg.cell_far ⟨w.heap.size, 0, none⟩ hl0 (hrow w.heap.size (by omega))).trans hcf.1, (hg.cell_far ⟨w.heap.size, 1, none⟩ hl0 (hrow w.heap.size (by omega))).trans hcf.2.1, (hg.cell_far ⟨w.heap.size, 2, none⟩ hl0 (hrow w.heap.size (by omega))).trans hcf.2.2.1, (hg.cell_far ⟨w.heap.size, 3, none⟩ hl0 (hrow w.heap.size (by omega))).trans hcf.2.2.2⟩, h.rw.bel.grown hg (by have := h.rw.bel.size; omega) (fun k hk => by have := hlo k hk; omega)⟩, h.into.grown hg (hrow gi (by omega)), h.next.grown hg (hrow gn (Nat.le_refl _)), hgi, hgn, fun s hs => (h.rows s hs).kept hg ?_, h.sep⟩
 cases hu' : (V s).ownBlock with
 | none => exact Or.inl rfl
 | some b => exact Or.inr fun e' => hr s hs b hu' e'.symm
end
end Go.Proofs.Yteehgcbjmdideab
/- 'PushOf' of the document's answer: what lies in memory. -/
namespace Go.Proofs.Yteehgcbjmdideab
open Go.RowKit
attribute [local go_sem ↓] Go.wp_at_zero Go.wp_at_succ
theorem if_wanted {P : Program} {o : Oper} {y : Nat → Option Bool} {a : Act} {w : World} {K : Act → World → Prop} {Q : Exit → Act → World → Prop} (hgd : o.guard = none) (h : o.wp P a w K Q) : if Region.wanted o y = true then o.wp P a w K Q else K (a.put o.dst undef) w := by
 rw [if_pos (by simp [Region.wanted, hgd])]
 exact h
end Go.Proofs.Yteehgcbjmdideab
/- The document's 'Costs': what is true when the first places are done; a row that is being written. -/
namespace Go.Proofs.Yteehgcbjmdideab
open Go.RowKit
attribute [local go_sem ↓] Go.wp_at_zero Go.wp_at_succ
theorem infoS : (Try.prog.info? 22).map (fun i => (i.zero, i.size, i.bytes)) = some (some (.slice none 0 0), 1, 24) := by kernel_rfl
end Go.Proofs.Yteehgcbjmdideab
