/- 'order.Least': the arcs in their order, of those that differ in nothing but the weight the least one. -/
import Derived.Test.YteehgcbjmdideaaQM03
import Derived.Test.YteehgcbjmdideaaQShelfS
import Derived.Test.YteehgcbjmdideaaQM01
import Derived.Test.YteehgcbjmdideaaQM02
import Derived.OrdersHeld
import Derived.Deep.RegionHeld
import Derived.Deep.DrawnRows
namespace Go.Proofs.Yteehgcbjmdideaa
open Go.RowKit Go.Sort
attribute [local go_sem ↓] Go.wp_at_zero Go.wp_at_succ

theorem ltW {a b : ArcD} : ltOf cmpW a b = true ↔ aheadB a b = true ∨ (eqK a b ∧ a.wt < b.wt) := by
  unfold ltOf
  rw [decide_eq_true_iff]
  exact cmpW_neg

theorem ltW_not {a b : ArcD} : ltOf cmpW a b = false ↔ aheadB b a = true ∨ (eqK b a ∧ b.wt ≤ a.wt) := by
  rw [← Bool.not_eq_true, ltW]
  constructor
  · intro h
    rcases ahead_tri a b with q | q | q
    · exact absurd (Or.inl q) h
    · exact Or.inr ⟨q.symm, Int.not_lt.1 fun hh => h (Or.inr ⟨q, hh⟩)⟩
    · exact Or.inl q
  · rintro (q | ⟨q, q'⟩) (k | ⟨k, k'⟩)
    · rw [(ahead_not q).2] at k; exact absurd k (by decide)
    · exact (ahead_not q).1 k.symm
    · exact (ahead_not k).1 q.symm
    · omega

theorem swoW : SWO (ltOf cmpW) where
  irrefl x := ltW_not.2 (Or.inr ⟨eqK.refl x, Int.le_refl _⟩)
  trans x y z h1 h2 := by
    rw [ltW] at *
    rcases h1 with q | ⟨q, q'⟩
    · rcases h2 with k | ⟨k, k'⟩
      · exact Or.inl (ahead_trans q k)
      · exact Or.inl (ahead_eq q k)
    · rcases h2 with k | ⟨k, k'⟩
      · exact Or.inl (eq_ahead q k)
      · exact Or.inr ⟨q.trans k, by omega⟩
  ntrans x y z h1 h2 := by
    rw [ltW_not] at *
    rcases h2 with q | ⟨q, q'⟩
    · rcases h1 with k | ⟨k, k'⟩
      · exact Or.inl (ahead_trans q k)
      · exact Or.inl (ahead_eq q k)
    · rcases h1 with k | ⟨k, k'⟩
      · exact Or.inl (eq_ahead q k)
      · exact Or.inr ⟨q.trans k, by omega⟩

/-- sorted -/
def sortL (l : List ArcD) : List ArcD := l.mergeSort fun x y => !(ltOf cmpW) y x
/-- of those that differ in nothing but the weight the least one -/
def leastL (l : List ArcD) : List ArcD := kepL (sortL l) (sortL l).length

theorem sortL_len (l : List ArcD) : (sortL l).length = l.length := by unfold sortL; exact List.length_mergeSort l
theorem sortL_mem (l : List ArcD) (a : ArcD) : a ∈ sortL l ↔ a ∈ l := (List.mergeSort_perm l _).mem_iff
theorem sortL_ord (l : List ArcD) : (sortL l).Pairwise (fun a b => ¬ cmpW b a < 0) := by
  have h := List.pairwise_mergeSort (le := fun x y => !(ltOf cmpW) y x) (fun a b c h1 h2 => by
    simp only [Bool.not_eq_true'] at *
    exact swoW.ntrans c b a h2 h1) (fun a b => by
    simp only [Bool.or_eq_true, Bool.not_eq_true']
    rw [ltW_not, ltW_not]
    rcases ahead_tri a b with q | q | q
    · exact Or.inl (Or.inl q)
    · rcases Int.le_total a.wt b.wt with k | k
      · exact Or.inl (Or.inr ⟨q, k⟩)
      · exact Or.inr (Or.inr ⟨q.symm, k⟩)
    · exact Or.inr (Or.inl q)) l
  refine h.imp fun {a b} hab hlt => ?_
  simp only [Bool.not_eq_true'] at hab
  unfold ltOf at hab
  rw [decide_eq_false_iff_not] at hab
  exact hab hlt

theorem leastL_min (l : List ArcD) : IsMin (leastL l) l := by
  have h := kepL_min (sortL_ord l) _ (Nat.le_refl _)
  rw [List.take_length] at h
  exact h.perm (sortL_mem l)

theorem gL1 : ∀ args w, (callFunc 110 args).run Try.prog w = .ok (.enter 110 args) w := enters_of Try.func110 (by kernel_rfl) rfl

theorem sortArcs_any (l : List ArcD) (g n cap : Nat) (w : World) (hr : ARow w g n l) (hn0 : 0 < n) (hn : n ≤ 100000) :
    Calls Try.prog 109 #[.slice (some ⟨g, 0, none⟩) n cap, .func (.func 110) #[] #[]] w fun e w' =>
      e = .returned (.tuple #[]) ∧ ARow w' g n (sortL l) ∧ Apart g w w' := by
  letI : Inhabited ArcD := ⟨a0⟩
  have hlen := hr.len
  have hget : ∀ (xs : List ArcD) i, i < xs.length → xs.toArray[i]! = xs.getD i a0 := fun xs i hi => by
    simp [List.getD, hi]
  have hH : HoldsK arcCells 5 w g 0 l.toArray := fun j hj => by
    rw [size_flatK] at hj
    have hj' : j < l.length * 5 := hj
    rw [get_flatK _ _ _ _ hj, hget l _ (by omega), Nat.zero_add]
    refine ⟨?_, hr.frz j (by omega)⟩
    have := hr.cell (j / 5) (j % 5) (by omega) (by omega)
    rw [show j / 5 * 5 + j % 5 = j by omega] at this
    rw [this]
    have hm : j % 5 < 5 := by omega
    generalize j % 5 = r at hm ⊢
    match r, hm with
    | 0, _ => rfl
    | 1, _ => rfl
    | 2, _ => rfl
    | 3, _ => rfl
    | 4, _ => rfl
  have hcmp : CmpLays Try.prog 110 #[] arcCells 5 cmpW g 0 l.toArray.size w := fun m os dk _ x y =>
    (least1_gr x y _).mono fun e w' ⟨he, q, os', hw⟩ => ⟨he, q, os', hw⟩
  have hcon := AnyQ.slices_SortFunc_total Try.sortArc 5 Try.isAgg63 Try.sizeOf63 arcCells (fun _ => rfl) oneCell_arc cmpW swoW 110 #[] g 0 cap l.toArray w gL1 hcmp hH (hr.lt hn0) (by show l.length < _; omega) (fun x y h1 h2 => by
    rw [ltW_not] at h1 h2
    rcases h1 with q | ⟨q, q'⟩
    · rcases h2 with k | ⟨k, k'⟩
      · rw [(ahead_not q).2] at k; exact absurd k (by decide)
      · exact absurd k.symm (ahead_not q).1
    · rcases h2 with k | ⟨k, k'⟩
      · exact absurd q.symm (ahead_not k).1
      · exact k.one (by omega))
  have hsz : l.toArray.size = n := hlen
  rw [hsz] at hcon
  refine hcon.mono fun e w' ⟨he, m, os, hw⟩ => ⟨he, ?_, ?_⟩
  · have hs : (sortL l).toArray.size = l.toArray.size := sortL_len l
    have hh := holdsK_sortWorldK_c arcCells 5 w g 0 l.toArray (sortL l).toArray m os hH (hr.lt hn0) hs
    have hw' : w' = sortWorldK arcCells 5 w g 0 m (sortL l).toArray os := hw
    rw [← hw'] at hh
    have hl2 : (sortL l).length = n := (sortL_len l).trans hlen
    have key : ∀ j, j < n * 5 → w'.cell? ⟨g, j, none⟩ = (arcCells ((sortL l).getD (j / 5) a0))[j % 5]? ∧ w'.frozen? ⟨g, j, none⟩ = false := fun j hj => by
      have hj' : j < (sortL l).toArray.size * 5 := by show j < (sortL l).length * 5; omega
      have := hh j (by rw [size_flatK]; exact hj')
      rw [get_flatK _ _ _ _ hj', hget (sortL l) _ (by omega), Nat.zero_add] at this
      refine ⟨?_, this.2⟩
      rw [this.1]
      have hm : j % 5 < 5 := by omega
      generalize j % 5 = r at hm ⊢
      match r, hm with
      | 0, _ => rfl
      | 1, _ => rfl
      | 2, _ => rfl
      | 3, _ => rfl
      | 4, _ => rfl
    exact ⟨hl2, fun i j hi hj => by
      have := (key (i * 5 + j) (by omega)).1
      rw [show (i * 5 + j) / 5 = i by omega, show (i * 5 + j) % 5 = j by omega] at this
      exact this, fun i hi => (key i hi).2⟩
  · rw [hw]
    refine ⟨rfl, rfl, rfl, ?_, fun k hk hne => ?_⟩
    · exact size_sortWorldK_c arcCells 5 w g 0 m _ os
    · unfold sortWorldK
      have hkg : g ≠ k := fun e => hne (by rw [e])
      rw [heap_grow_old _ _ (by rw [size_putRowK]; exact hk)]
      show (w.heap.modify g _)[k]? = w.heap[k]?
      rw [Array.getElem?_modify, if_neg hkg]

set_option maxHeartbeats 1000000 in
theorem sort_none (p : Option Addr) (cap : Nat) (fv : Value) (w : World) : Calls Try.prog 109 #[.slice p 0 cap, fv] w fun e w' => e = .returned (.tuple #[]) ∧ w' = w :=
  AnyF.slices_SortFunc_none Try.sortArc p cap fv w
end Go.Proofs.Yteehgcbjmdideaa

/- 'order.Least', whatever arcs it is handed. -/
namespace Go.Proofs.Yteehgcbjmdideaa
open Go.RowKit
attribute [local go_sem ↓] Go.wp_at_zero Go.wp_at_succ

set_option maxHeartbeats 1000000 in
theorem compact_small (p : Option Addr) (n cap : Nat) (fv : Value) (w : World) (hn : n < 2) : Calls Try.prog 114 #[.slice p n cap, fv] w fun e w' => e = .returned (.slice p n cap) ∧ w' = w := by
  have hi : (n : Int) < 2 := by omega
  go_enter Try.func114, Try.ntmps114
  go_wp2
  go_ret
  exact ⟨rfl, rfl⟩

theorem own_some {w : World} {B e size n : Nat} {v : Value} {xs : List Value} (h : w.ownsRow B e size v n xs) (hne : v ≠ .slice none 0 0) : ∃ g cap, v = .slice (some ⟨g, 0, none⟩) n cap ∧ B ≤ g := by
  rcases h.2 with ⟨h, _⟩ | ⟨g, cap, cur, he, hB, _⟩
  · exact absurd h hne
  · exact ⟨g, cap, he, hB⟩

/-- arcs in a block of their own from B on (or none) -/
def AFrom (B : Nat) (w : World) (v : Value) (ars : List ArcD) : Prop :=
  (∃ a cap, v = .slice a 0 cap ∧ ars = []) ∨ ∃ g n cap, B ≤ g ∧ v = .slice (some ⟨g, 0, none⟩) n cap ∧ ArcsAt w g 0 n ars ∧ n ≤ maxLen
theorem AFrom.slice {B : Nat} {w : World} {v : Value} {ars : List ArcD} (h : AFrom B w v ars) : ASlice w v ars := by
  rcases h with h | ⟨g, n, cap, _, h1, h2, h3⟩
  · exact Or.inl h
  · exact Or.inr ⟨g, 0, n, cap, h1, h2, h3⟩
theorem AFrom.mk {B g j c : Nat} {w : World} {ars : List ArcD} (h : ASlice w (.slice (some ⟨g, 0, none⟩) j c) ars) (hg : B ≤ g) : AFrom B w (.slice (some ⟨g, 0, none⟩) j c) ars := by
  rcases h with ⟨a, cap, he, h⟩ | ⟨b, off, n, cap, he, h2, h3⟩
  · injection he with h1 h2 h3
    subst h2
    exact Or.inl ⟨_, _, rfl, h⟩
  · cases he
    exact Or.inr ⟨_, _, _, hg, rfl, h2, h3⟩
theorem AFrom.mono {B B' : Nat} {w : World} {v : Value} {ars : List ArcD} (h : AFrom B w v ars) (hB : B' ≤ B) : AFrom B' w v ars := by
  rcases h with h | ⟨g, n, cap, h0, h1, h2, h3⟩
  · exact Or.inl h
  · exact Or.inr ⟨g, n, cap, Nat.le_trans hB h0, h1, h2, h3⟩
theorem AFrom.below {B : Nat} {w w' : World} {v : Value} {ars : List ArcD} (h : AFrom B w v ars) (hb : Below w.heap.size w w') : AFrom B w' v ars := by
  rcases h with h | ⟨g, n, cap, h0, h1, h2, h3⟩
  · exact Or.inl h
  · exact Or.inr ⟨g, n, cap, h0, h1, h2.below hb, h3⟩
theorem AFrom.set {B P i : Nat} {w : World} {v u : Value} {ars : List ArcD} (h : AFrom B w v ars) (hP : P < B) : AFrom B (w.setCell ⟨P, i, none⟩ u) v ars := by
  rcases h with h | ⟨g, n, cap, h0, h1, h2, h3⟩
  · exact Or.inl h
  · have e : g ≠ P := by omega
    exact Or.inr ⟨g, n, cap, h0, h1, ⟨h2.len, fun i hi => by rw [set_far e]; exact h2.c0 i hi, fun i hi => by rw [set_far e]; exact h2.c1 i hi, fun i hi => by rw [set_far e]; exact h2.c2 i hi, fun i hi => by rw [set_far e]; exact h2.c3 i hi, fun i hi => by rw [set_far e]; exact h2.c4 i hi⟩, h3⟩

theorem leastL_nil : leastL [] = [] := by
  have := sortL_len []
  have e : sortL [] = [] := List.length_eq_zero_iff.1 this
  unfold leastL
  rw [e]
  rfl

theorem least_len (l : List ArcD) : (leastL l).length ≤ l.length := by
  have := kepL_le (l := sortL l) (k := (sortL l).length)
  rw [sortL_len] at this
  unfold leastL
  rw [sortL_len]
  exact this

/-- sorted, then the row is gone through -/
theorem compact_row (l : List ArcD) (g n cap : Nat) (w : World) (hr : ARow w g n (sortL l)) (hn0 : 0 < n) (hn : n ≤ 100000) (hcap : n ≤ cap) :
    Calls Try.prog 114 #[.slice (some ⟨g, 0, none⟩) n cap, .func (.func 115) #[] #[]] w fun e w' =>
      ∃ j c, e = .returned (.slice (some ⟨g, 0, none⟩) j c) ∧ ASlice w' (.slice (some ⟨g, 0, none⟩) j c) (leastL l) ∧ Apart g w w' := by
  have hl : (sortL l).length = n := hr.len
  by_cases h2 : 2 ≤ n
  · refine (compact_any (sortL l) g n cap w hr h2 hn hcap).mono ?_
    rintro e w' ⟨j, c, rfl, hv, hap⟩
    refine ⟨j, c, rfl, ?_, hap⟩
    unfold leastL
    rw [hl]
    exact hv
  · refine (compact_small _ n cap _ w (by omega)).mono ?_
    rintro e w' ⟨rfl, hw⟩
    rw [hw]
    refine ⟨_, _, rfl, ?_, Apart.self w⟩
    have h1 : n = 1 := by omega
    subst h1
    unfold leastL
    rw [hl, take_one (by omega)]
    exact hr.slice 1 (Nat.le_refl _) (by decide)

set_option maxHeartbeats 2000000 in
theorem least_some (ars : List ArcD) (b off n c : Nat) (w : World) (hx : ArcsAt w b off n ars) (hn0 : 0 < n) (hn : n ≤ 100000) :
    Calls Try.prog 78 #[.slice (some ⟨b, off, none⟩) n c] w fun e w' => ∃ v, e = .returned v ∧ AFrom w.heap.size w' v (leastL ars) ∧ Below w.heap.size w w' := by
  have hcl := cloneA_some ars b off n c w hx hn
  clear hx
  go_enter Try.func78, Try.ntmps78
  go_wp2_with (go_at_call 108; refine hcl.mono ?_; rintro e w1 ⟨v, rfl, hown, hne, hb⟩; obtain ⟨g, cap, hv, hg⟩ : ∃ g cap, v = .slice (some ⟨g, 0, none⟩) n cap ∧ w.heap.size ≤ g := own_some hown hne; subst hv; obtain ⟨hrow, hcap⟩ := ARow.of hown; have hsort := sortArcs_any ars g n cap w1 hrow hn0 hn; have hsz := hb.size; clear hown hne)
  go_wp2_with (go_at_call 109; refine hsort.mono ?_; rintro e w2 ⟨rfl, hrow2, hap⟩; have hcom := compact_row ars g n cap w2 hrow2 hn0 hn hcap; have hb2 : Below w.heap.size w w2 := hb.trans (hap.below hg hsz); have hsz2 := hb2.size; clear hsort hrow hrow2)
  go_wp2_with (go_at_call 114; refine hcom.mono ?_; rintro e w3 ⟨j, c', rfl, hv, hap3⟩; have hb3 : Below w.heap.size w w3 := hb2.trans (hap3.below hg hsz2))
  go_ret
  exact ⟨_, rfl, AFrom.mk hv hg, hb3⟩

set_option maxHeartbeats 2000000 in
theorem least_zero (p : Option Addr) (c : Nat) (w : World) :
    Calls Try.prog 78 #[.slice p 0 c] w fun e w' => ∃ v, e = .returned v ∧ AFrom w.heap.size w' v [] ∧ Below w.heap.size w w' := by
  have hcl : Calls Try.prog 108 #[.slice p 0 c] w fun e w' => (∃ a cap, e = .returned (.slice a 0 cap)) ∧ Below w.heap.size w w' := by
    cases p with
    | none =>
      refine (cloneA_nil 0 c w).mono ?_
      rintro e w' ⟨rfl, hw⟩
      rw [hw]
      exact ⟨⟨_, _, rfl⟩, bel_self w⟩
    | some ad => exact cloneA_zero ad c w
  go_enter Try.func78, Try.ntmps78
  go_wp2_with (first | (go_at_call 108; refine hcl.mono ?_; rintro e w1 ⟨⟨a, cap, rfl⟩, hb⟩) | (go_at_call 109; refine (sort_none _ _ _ _).mono ?_; rintro e w2 ⟨rfl, hw2⟩; subst hw2) | (go_at_call 114; refine (compact_small _ 0 _ _ _ (by omega)).mono ?_; rintro e w3 ⟨rfl, hw3⟩; subst hw3))
  go_ret
  exact ⟨_, rfl, Or.inl ⟨_, _, rfl, rfl⟩, hb⟩

theorem least_any (ars : List ArcD) (v : Value) (w : World) (ha : ASlice w v ars) (hl : ars.length ≤ 100000) :
    Calls Try.prog 78 #[v] w fun e w' => ∃ v', e = .returned v' ∧ AFrom w.heap.size w' v' (leastL ars) ∧ Below w.heap.size w w' := by
  rcases ha with ⟨a, cap, rfl, rfl⟩ | ⟨b, off, n, cap, rfl, hx, _⟩
  · rw [leastL_nil]
    exact least_zero a cap w
  · have hlen := hx.len
    by_cases h0 : n = 0
    · subst h0
      have : ars = [] := List.length_eq_zero_iff.1 hlen
      subst this
      rw [leastL_nil]
      exact least_zero _ cap w
    · exact least_some ars b off n cap w hx (by omega) (by omega)
end Go.Proofs.Yteehgcbjmdideaa

/- 'All' of package sound. -/
namespace Go.Proofs.Yteehgcbjmdideaa
open Go.RowKit
attribute [local go_sem ↓] Go.wp_at_zero Go.wp_at_succ

set_option maxHeartbeats 1000000 in
set_option maxRecDepth 100000 in
theorem all_one (f : FstD) (fin arcs : Value) (B : Nat) (c : Int) (w : World) (hC : CellsF w B f.states f.start fin arcs) (hf : ISlice w fin f.final) (ha : ASlice w arcs f.arcs) (hc : checkD f = c) :
    Calls Try.prog 59 #[.slice (some ⟨B, 0, none⟩) 1 1] w fun e w' => e = .returned (.int .i64 c) ∧ Below w.heap.size w w' := by
  obtain ⟨fa, fn, fc, rfl, _, _⟩ := hf.lenOf
  obtain ⟨ba, bn, bc, rfl, _, _⟩ := ha.lenOf
  have hchk : ∀ W, ISlice W (.slice fa fn fc) f.final → ASlice W (.slice ba bn bc) f.arcs → Calls Try.prog 101 #[.agg #[.int .i64 f.states, .int .i64 f.start, .slice fa fn fc, .slice ba bn bc]] W fun e w' => e = .returned (.int .i64 c) ∧ Below W.heap.size W w' := by
    intro W k1 k2; subst hc; exact check_any f _ _ W k1 k2
  clear hc
  go_enter Try.func59, Try.ntmps59
  go_wp2
  go_loopw [8] (fun i wr => ∃ k : Nat, k ≤ 1 ∧ i = .int .i64 k ∧ (k = 1 → c = 0) ∧ Below w.heap.size w wr) (fun i _ => 1 - (intOf i).toNat)
  case atStart => exact ⟨0, by omega, rfl, fun h => by omega, bel_self _⟩
  case round =>
    obtain ⟨k, hk, rfl, hck, hb⟩ := hrel
    by_cases hlt : k < 1
    · have hk0 : k = 0 := by omega
      subst hk0
      clear hck
      obtain ⟨q0, q1, q2, q3⟩ := hC.below hb
      have hb1 := bel_up (bel_self wr) (.cells #[.int .i64 f.states, .int .i64 f.start, .slice fa fn fc, .slice ba bn bc] 25)
      have h1 := (hf.below hb).below hb1
      have h2 := (ha.below hb).below hb1
      by_cases h0 : c = 0
      · subst h0
        go_wp2_with (go_at_call 101; refine (hchk _ h1 h2).mono ?_; rintro e w1 ⟨rfl, hb2⟩)
        go_roundw
        case rel => exact ⟨1, Nat.le_refl _, by go_num, fun _ => by trivial, bel_on (bel_on hb hb1) hb2⟩
        case measure => simp [intOf]
      · have h0b : (c == 0) = false := by simpa using h0
        have h0n : (c != 0) = true := by simpa using h0
        go_wp2_with (go_at_call 101; refine (hchk _ h1 h2).mono ?_; rintro e w1 ⟨rfl, hb2⟩)
        go_ret
        exact ⟨rfl, bel_on (bel_on hb hb1) hb2⟩
    · have hk1 : k = 1 := by omega
      have h0 := hck hk1
      subst hk1 h0
      clear hck
      go_wp2
      go_ret
      exact ⟨rfl, hb⟩

theorem cellsF_new (w : World) (st sta : Int) (fin arcs : Value) (t : Nat) : CellsF (w.alloc (.cells #[.int .i64 st, .int .i64 sta, fin, arcs] t)) w.heap.size st sta fin arcs := by simp [CellsF]
theorem cellsF_at (w : World) (st sta : Int) (fin arcs : Value) (t B : Nat) (h : w.heap.size = B) : CellsF (w.alloc (.cells #[.int .i64 st, .int .i64 sta, fin, arcs] t)) B st sta fin arcs := by subst h; exact cellsF_new w st sta fin arcs t
theorem two_up (w : World) (o p : Obj) : Below w.heap.size w ((w.alloc o).alloc p) := bel_up (bel_up (bel_self w) o) p
theorem one_size (w : World) (o : Obj) : (w.alloc o).heap.size = w.heap.size + 1 := by simp
end Go.Proofs.Yteehgcbjmdideaa

/- 'turned' of package simple. -/
namespace Go.Proofs.Yteehgcbjmdideaa
open Go.RowKit
attribute [local go_sem ↓] Go.wp_at_zero Go.wp_at_succ

theorem cloneI_any (xs : List Int) (v : Value) (w : World) (h : ISlice w v xs) (hl : xs.length ≤ 100000) :
    Calls Try.prog 86 #[v] w fun e w' => ∃ v', e = .returned v' ∧ w'.ownsRow w.heap.size 3 1 v' xs.length (xs.map (Value.int .i64)) ∧ Below w.heap.size w w' := by
  rcases h with ⟨a, cap, rfl, rfl⟩ | ⟨b, off, n, cap, rfl, hx, _⟩
  · cases a with
    | none =>
      refine (Try.slices_Clone_int_nil 0 cap w).mono ?_
      rintro e w' ⟨rfl, hw⟩
      rw [hw]
      exact ⟨_, rfl, World.ownsRow_nil _ _ _ _, bel_self w⟩
    | some ad =>
      refine (Try.slices_Clone_int_zero ad cap w).mono ?_
      rintro e w' ⟨v', rfl, hown, _, hb⟩
      exact ⟨v', rfl, hown, hb⟩
  · have hlen := hx.len
    refine (Try.slices_Clone_int b off n cap xs w (by omega) (by omega) (fun j hj => hx.cell j (by omega))).mono ?_
    rintro e w' ⟨v', rfl, hown, _, hb⟩
    rw [List.take_of_length_le (by omega), ← hlen] at hown
    exact ⟨v', rfl, hown, hb⟩

theorem box_cell {w : World} {P t k : Nat} {cs : Array Value} {v : Value} (h : w.heap[P]? = some (.cells cs t (0, 0))) (hk : cs[k]? = some v) : w.cell? ⟨P, k, none⟩ = some v := (Go.Joins.cell_of_block h k).trans hk
theorem box_frz {w : World} {P t : Nat} {cs : Array Value} (h : w.heap[P]? = some (.cells cs t (0, 0))) (k : Nat) : w.frozen? ⟨P, k, none⟩ = false := Go.Joins.unfrozen_of_block h k
theorem box_set {w : World} {P t k : Nat} {cs cs' : Array Value} {v : Value} (h : w.heap[P]? = some (.cells cs t (0, 0))) (e : cs' = cs.setIfInBounds k v) : (w.setCell ⟨P, k, none⟩ v).heap[P]? = some (.cells cs' t (0, 0)) := by rw [e]; exact Go.Joins.block_setCell h v

set_option maxHeartbeats 2000000 in
set_option maxRecDepth 100000 in
theorem turned_any (h : ArcD → ArcD) (F : Nat) (hG : ∀ args w, (callFunc F args).run Try.prog w = .ok (.enter F args) w)
    (hF : Hid (∀ (a : ArcD) (W : World), Calls Try.prog F #[.agg #[.int .i64 a.src, .int .i64 a.inp, .int .i64 a.out, .int .i64 a.dst, .int .i64 a.wt]] W fun e w' => e = .returned (.agg #[.int .i64 (h a).src, .int .i64 (h a).inp, .int .i64 (h a).out, .int .i64 (h a).dst, .int .i64 (h a).wt]) ∧ Below W.heap.size W w'))
    (f : FstD) (fin arcs : Value) (w : World) (hf : ISlice w fin f.final) (ha : ASlice w arcs f.arcs) (hfl : f.final.length ≤ 1000) (hm : f.arcs.length ≤ 3000) :
    Calls Try.prog 60 #[.agg #[.int .i64 f.states, .int .i64 f.start, fin, arcs], .func (.func F) #[] #[]] w fun e w' =>
      ∃ fv av, e = .returned (.agg #[.int .i64 f.states, .int .i64 f.start, fv, av]) ∧ w'.ownsRow w.heap.size 3 1 fv f.final.length (f.final.map (Value.int .i64)) ∧ AFrom w.heap.size w' av (leastL (f.arcs.map h)) ∧ Below w.heap.size w w' := by
  obtain ⟨aa, m, ac, rfl, hal, _⟩ := ha.lenOf
  obtain ⟨fa, fn, fc, rfl, hfn, _⟩ := hf.lenOf
  obtain ⟨W0, hW0⟩ : ∃ W0, W0 = (w.alloc (.cells #[.int .i64 f.states, .int .i64 f.start, .slice fa fn fc, .slice aa m ac] 25)).alloc (.cells #[.int .i64 0, .int .i64 0, .slice none 0 0, .slice none 0 0] 25) := ⟨_, rfl⟩
  have hb0 : Below w.heap.size w W0 := by rw [hW0]; exact two_up w _ _
  have hs0 : W0.heap.size = w.heap.size + 1 + 1 := by rw [hW0]; simp
  have hP : W0.heap[w.heap.size]? = some (.cells #[.int .i64 f.states, .int .i64 f.start, .slice fa fn fc, .slice aa m ac] 25 (0, 0)) := by rw [hW0]; exact (Below.heap_alloc _ _ _ (by simp)).trans (heap_alloc_new w _)
  have hR : W0.heap[w.heap.size + 1]? = some (.cells #[.int .i64 0, .int .i64 0, .slice none 0 0, .slice none 0 0] 25 (0, 0)) := by
    rw [hW0]
    have := heap_alloc_new (w.alloc (.cells #[.int .i64 f.states, .int .i64 f.start, .slice fa fn fc, .slice aa m ac] 25)) (.cells #[.int .i64 0, .int .i64 0, .slice none 0 0, .slice none 0 0] 25)
    rw [one_size] at this
    exact this
  have hcl := cloneI_any f.final _ _ (hf.below hb0) (by omega)
  have HA : Hid (ASlice w (.slice aa m ac) f.arcs ∧ f.arcs.length = m ∧ Below w.heap.size w W0) := ⟨ha, hal, hb0⟩
  have hm3 : m ≤ 3000 := by omega
  have c2 := box_cell (k := 2) hP rfl
  clear hf ha hal hfl hm
  go_enter Try.func60, Try.ntmps60
  go_wp2_with fail
  rw [← hW0]
  clear hW0
  go_wp2_with (first
    | (go_at_call 86; refine hcl.mono ?_; rintro e w1 ⟨v1, rfl, hv1, hb1⟩; obtain ⟨a1, n1, c1, rfl, _, _⟩ := (ownsRow_ints hv1).lenOf; have hP1 := heap_bel hb1 hP; have hR1 := heap_bel hb1 hR; have d2 := box_cell (k := 2) hP1 rfl; have z2 := box_frz hP1 2; have d3 := box_cell (k := 3) hP1 rfl)
    | (go_at_call 102
       have hP2 := box_set (k := 2) (v := .slice a1 n1 c1) hP1 rfl
       have hb2 : Below w.heap.size w (w1.setCell ⟨w.heap.size, 2, none⟩ (.slice a1 n1 c1)) := (HA.out.2.2.trans (hb1.mono (by omega))).setCell (Nat.le_refl _) _
       have hR2 := heap_far (i := 2) (k := w.heap.size) (v := .slice a1 n1 c1) hR1 (by omega)
       have hv2 := ownsRow_setCell_below hv1 (a := ⟨w.heap.size, 2, none⟩) (by rw [hs0]; exact Nat.lt_succ_of_lt (Nat.lt_succ_self _)) (.slice a1 n1 c1)
       refine (made_any h F #[] hG f.arcs aa m ac _ (fun a _ W _ => by rw [Array.append_empty]; exact hF.out a W) (HA.out.1.below hb2) HA.out.2.1 hm3).mono ?_
       rintro e w3 ⟨v3, rfl, hv3, hb3⟩
       have hP3 := heap_bel hb3 hP2
       have hR3 := heap_bel hb3 hR2
       have hv3' := ownsRow_bel hv2 hb3
       have hb23 := hb2.trans (hb3.mono hb2.size))
    | (go_at_call 78
       refine (least_any (f.arcs.map h) _ _ (ownsRow_arcs (by rw [List.length_map, HA.out.2.1]; exact hv3)) (by rw [List.length_map, HA.out.2.1]; omega)).mono ?_
       rintro e w4 ⟨v4, rfl, hv4, hb4⟩
       obtain ⟨a4, n4, c4, rfl, _, _⟩ := hv4.slice.lenOf
       have hP4 := heap_bel hb4 hP3
       have hR4 := heap_bel hb4 hR3
       have hI4 := ownsRow_bel hv3' hb4
       have hb34 := hb23.trans (hb4.mono hb23.size)
       have hsz := hb23.size
       have e0 := box_cell (k := 0) (v := .int .i64 f.states) hP4 rfl
       have e1 := box_cell (k := 1) (v := .int .i64 f.start) hP4 rfl
       have e2 := box_cell (k := 2) (v := .slice a1 n1 c1) hP4 rfl
       have e3 := box_cell (k := 3) (v := .slice aa m ac) hP4 rfl
       have y3 := box_frz hP4 3
       have r0 := box_cell (k := 0) (v := .int .i64 0) hR4 rfl
       have r1 := box_cell (k := 1) (v := .int .i64 0) hR4 rfl
       have r2 := box_cell (k := 2) (v := .slice none 0 0) hR4 rfl
       have r3 := box_cell (k := 3) (v := .slice none 0 0) hR4 rfl
       have x0 := box_frz hR4 0
       have x1 := box_frz hR4 1
       have x2 := box_frz hR4 2
       have x3 := box_frz hR4 3
       clear c2 d2 d3 z2 hP hR hP1 hR1 hP2 hR2 hP3 hR3))
  have q0 : w.heap.size < W0.heap.size := by omega
  have q1 : w.heap.size + 1 < W0.heap.size := by omega
  have q2 : w.heap.size < w3.heap.size := by have := hb1.size; have := hb3.size; simp [World.setCell] at this; omega
  have q3 : w.heap.size + 1 < w3.heap.size := by have := hb1.size; have := hb3.size; simp [World.setCell] at this; omega
  have g1 := own_mono (ownsRow_setCell_below (ownsRow_setCell_below (ownsRow_setCell_below (ownsRow_setCell_below (ownsRow_setCell_below hI4 (a := ⟨w.heap.size, 3, none⟩) q0 (.slice a4 n4 c4)) (a := ⟨w.heap.size + 1, 0, none⟩) q1 (.int .i64 f.states)) (a := ⟨w.heap.size + 1, 1, none⟩) q1 (.int .i64 f.start)) (a := ⟨w.heap.size + 1, 2, none⟩) q1 (.slice a1 n1 c1)) (a := ⟨w.heap.size + 1, 3, none⟩) q1 (.slice a4 n4 c4)) (Nat.le_of_lt q0)
  have g2 := (((((hv4.set (P := w.heap.size) (i := 3) (u := .slice a4 n4 c4) q2).set (P := w.heap.size + 1) (i := 0) (u := .int .i64 f.states) q3).set (P := w.heap.size + 1) (i := 1) (u := .int .i64 f.start) q3).set (P := w.heap.size + 1) (i := 2) (u := .slice a1 n1 c1) q3).set (P := w.heap.size + 1) (i := 3) (u := .slice a4 n4 c4) q3).mono (Nat.le_of_lt q2)
  have g3 := ((((hb34.setCell (p := ⟨w.heap.size, 3, none⟩) (Nat.le_refl _) (.slice a4 n4 c4)).setCell (p := ⟨w.heap.size + 1, 0, none⟩) (Nat.le_succ _) (.int .i64 f.states)).setCell (p := ⟨w.heap.size + 1, 1, none⟩) (Nat.le_succ _) (.int .i64 f.start)).setCell (p := ⟨w.heap.size + 1, 2, none⟩) (Nat.le_succ _) (.slice a1 n1 c1)).setCell (p := ⟨w.heap.size + 1, 3, none⟩) (Nat.le_succ _) (.slice a4 n4 c4)
  exact bodyPost_ret (v := .agg #[.int .i64 f.states, .int .i64 f.start, .slice a1 n1 c1, .slice a4 n4 c4]) (by simp [results, Try.results60, go_sem, r0, r1, r2, r3]) rfl ⟨_, _, rfl, g1, g2, g3⟩
end Go.Proofs.Yteehgcbjmdideaa

/- The program's search: what stays true of prices, and of the arcs that they came by, from one step to the next. -/
namespace Go.Proofs.Yteehgcbjmdideaa

/-- how much a price can still fall -/
def muI (x : Int) : Nat := if x < 0 then 1000000000000000 else x.toNat
def muL (c : List Int) : Nat := (c.map muI).sum
/-- how many prices there are -/
def metL (c : List Int) : Nat := (c.map fun x => if x < 0 then 0 else 1).sum

theorem sum_set (f : Int → Nat) (c : List Int) (v : Nat) (x : Int) (hv : v < c.length) : ((c.set v x).map f).sum + f (gI c v) = (c.map f).sum + f x := by
  induction c generalizing v with
  | nil => simp at hv
  | cons y c ih =>
    cases v with
    | zero => simp [gI, List.getD]; omega
    | succ v =>
      have := ih v (by simpa using hv)
      have e : gI (y :: c) (v + 1) = gI c v := by simp [gI, List.getD]
      rw [e]
      simp only [List.set_cons_succ, List.map_cons, List.sum_cons]
      omega

theorem metL_le (c : List Int) : metL c ≤ c.length := by
  unfold metL
  induction c with
  | nil => simp
  | cons x c ih =>
    simp only [List.map_cons, List.sum_cons, List.length_cons]
    split <;> omega

/-- by which arc each price came: none, and it is what it was at the beginning; or it is no better than by that arc, and if it is just that, the arc's price came first -/
def ByOk (E : List Edg) (b c y : List Int) (r : Nat → Nat) : Prop :=
  ∀ v, v < c.length → (gI y v = -1 ∧ gI c v = gI b v) ∨ ∃ (j : Nat) (e : Edg), gI y v = j ∧ E[j]? = some e ∧ e.v = v ∧ 0 ≤ gI c e.u ∧ 0 ≤ gI c v ∧ gI c e.u + e.w ≤ gI c v ∧ (gI c e.u + e.w = gI c v → r e.u < r v)

/-- what stays true -/
structure Inv (E : List Edg) (b c y : List Int) : Prop where
  len : c.length = b.length
  ylen : y.length = b.length
  ach : Ach E b c
  le : LeC c b
  lo : ∀ v, -1 ≤ gI c v
  hi : ∀ v, gI c v ≤ 1000000000 * (1 + (metL c : Int))
  by_ : ∃ r R, (∀ x, r x ≤ R) ∧ ByOk E b c y r

section
variable {E : List Edg} {b c y : List Int}

theorem Inv.top (h : Inv E b c y) (hn : b.length ≤ 200) (v : Nat) : gI c v ≤ 201000000000 := by
  have h1 := h.hi v
  have h2 := metL_le c
  have h3 := h.len
  omega

theorem Inv.topK (h : Inv E b c y) (hn : b.length ≤ 400000) (v : Nat) : gI c v ≤ 400001000000000 := by
  have h1 := h.hi v
  have h2 := metL_le c
  have h3 := h.len
  omega

theorem Inv.start (hb : ∀ v, gI b v = -1 ∨ 0 ≤ gI b v) (hm : ∀ v, gI b v ≤ 1000000000) : Inv E b b (List.replicate b.length (-1)) where
  len := rfl
  ylen := by simp
  ach := fun v => (hb v).imp id fun h => ⟨0, rfl, h⟩
  le := LeC.refl _
  lo := fun v => by rcases hb v with h | h <;> omega
  hi := fun v => by have := hm v; omega
  by_ := ⟨fun _ => 0, 0, fun _ => Nat.le_refl _, fun v hv => Or.inl ⟨by simp [gI, List.getD, hv], rfl⟩⟩

theorem better_iff {a d : Int} (ha : -1 ≤ a) (hd : -1 ≤ d) : betterB a d = true ↔ 0 ≤ a ∧ (d = -1 ∨ a < d) := by
  unfold betterB
  simp only [Bool.and_eq_true, bne_iff_ne, ne_eq, Bool.or_eq_true, beq_iff_eq, decide_eq_true_eq]
  omega

theorem plusC_lo (a w : Int) : -1 ≤ plusC a w := by
  unfold plusC; split
  · omega
  · omega

/-- a step along an edge that makes a price better -/
theorem Inv.step {j : Nat} {e : Edg} (h : Inv E b c y) (hbn : b.length ≤ 400000) (hj : E[j]? = some e) (hv : e.v < b.length) (hw0 : 0 ≤ e.w) (hw1 : e.w ≤ 1000000000)
    (hbt : betterB (plusC (gI c e.u) e.w) (gI c e.v) = true) :
    Inv E b (c.set e.v (plusC (gI c e.u) e.w)) (y.set e.v (j : Int)) ∧ muL (c.set e.v (plusC (gI c e.u) e.w)) < muL c := by
  have hvc : e.v < c.length := by have := h.len; omega
  have hvy : e.v < y.length := by have := h.ylen; omega
  have he : e ∈ E := List.mem_of_getElem? hj
  obtain ⟨hp0, hbet⟩ := (better_iff (plusC_lo _ _) (h.lo _)).1 hbt
  have hcu : 0 ≤ gI c e.u := by
    unfold plusC at hp0
    split at hp0
    · omega
    · rename_i hh; omega
  have hp : plusC (gI c e.u) e.w = gI c e.u + e.w := by unfold plusC; rw [if_neg (by omega)]
  have hrel : c.set e.v (plusC (gI c e.u) e.w) = relE c e := by
    rw [← progE_eq c e h.lo]
    unfold progE
    rw [if_pos hbt]
  have hne : e.u ≠ e.v := by
    intro hh
    rw [hh] at hp hcu
    rw [hh, hp] at hbet
    omega
  have hset : ∀ x, gI (c.set e.v (plusC (gI c e.u) e.w)) x = if x = e.v then gI c e.u + e.w else gI c x := fun x => by rw [gI_set _ _ _ _ hvc, hp]
  have hyset : ∀ x, gI (y.set e.v (j : Int)) x = if x = e.v then (j : Int) else gI y x := fun x => gI_set _ _ _ _ hvy
  have hmet := sum_set (fun x => if x < 0 then 0 else 1) c e.v (plusC (gI c e.u) e.w) hvc
  have hmu := sum_set muI c e.v (plusC (gI c e.u) e.w) hvc
  change metL (c.set e.v (plusC (gI c e.u) e.w)) + _ = metL c + _ at hmet
  change muL (c.set e.v (plusC (gI c e.u) e.w)) + _ = muL c + _ at hmu
  rw [if_neg (by omega : ¬ plusC (gI c e.u) e.w < 0)] at hmet
  have htop := h.hi e.u
  refine ⟨⟨by simpa using h.len, by simpa using h.ylen, ?_, ?_, ?_, ?_, ?_⟩, ?_⟩
  · rw [hrel]; exact relE_ach he hvc h.ach
  · rw [hrel]; exact (relE_le c e hvc).trans h.le
  · intro x
    rw [hset]
    split
    · omega
    · exact h.lo x
  · intro x
    rw [hset]
    have hx := h.hi x
    by_cases hn : gI c e.v < 0
    · rw [if_pos hn] at hmet
      split <;> omega
    · rw [if_neg hn] at hmet
      have := h.hi e.v
      split <;> omega
  · obtain ⟨r, R, hR, hby⟩ := h.by_
    refine ⟨fun x => if x = e.v then R + 1 else r x, R + 1, fun x => ?_, fun v hv' => ?_⟩
    · show (if x = e.v then R + 1 else r x) ≤ R + 1
      split
      · exact Nat.le_refl _
      · have := hR x; omega
    · rw [hset, hyset]
      by_cases hve : v = e.v
      · subst hve
        right
        rw [if_pos rfl, if_pos rfl]
        refine ⟨j, e, rfl, hj, rfl, ?_⟩
        rw [hset, if_neg hne]
        simp only [hne, if_true, if_false]
        have := hR e.u
        refine ⟨hcu, by omega, by omega, fun _ => by omega⟩
      · rw [if_neg hve, if_neg hve]
        rcases hby v (by simpa using hv') with hl | ⟨j', e', h1, h2, h3, h4, h5, h6, h7⟩
        · exact Or.inl hl
        · right
          refine ⟨j', e', h1, h2, h3, ?_⟩
          rw [hset]
          by_cases hue : e'.u = e.v
          · rw [if_pos hue]
            rw [hue] at h4 h6
            refine ⟨by omega, h5, by omega, fun hh => by omega⟩
          · rw [if_neg hue]
            refine ⟨h4, h5, h6, fun hh => ?_⟩
            have := h7 hh
            simp only [hue, if_false, hve]
            exact this
  · have hmu1 : muI (plusC (gI c e.u) e.w) < muI (gI c e.v) := by
      unfold muI
      rw [if_neg (by omega)]
      by_cases hn : gI c e.v < 0
      · rw [if_pos hn]
        have := h.topK hbn e.u
        omega
      · rw [if_neg hn]; omega
    omega

/-- no arc makes a price better: prices are the least ones, and each is just what it is by its arc -/
theorem Inv.done (h : Inv E b c y) (hw : ∀ e ∈ E, 0 ≤ e.w) (hno : ∀ e ∈ E, betterB (plusC (gI c e.u) e.w) (gI c e.v) = false) :
    (∀ v, IsLeast E b v (gI c v)) ∧ ∃ r : Nat → Nat, ∀ v, v < c.length → (gI y v = -1 ∧ gI c v = gI b v) ∨ ∃ (j : Nat) (e : Edg), gI y v = j ∧ E[j]? = some e ∧ e.v = v ∧ 0 ≤ gI c e.u ∧ 0 ≤ gI c v ∧ gI c e.u + e.w = gI c v ∧ r e.u < r v := by
  have hf := fix_of E c hw h.lo hno
  refine ⟨fix_least hw h.ach h.le hf, ?_⟩
  obtain ⟨r, _, _, hby⟩ := h.by_
  refine ⟨r, fun v hv => ?_⟩
  rcases hby v hv with hl | ⟨j, e, h1, h2, h3, h4, h5, h6, h7⟩
  · exact Or.inl hl
  · right
    have hle := (hf e (List.mem_of_getElem? h2) h4).2
    rw [h3] at hle
    have heq : gI c e.u + e.w = gI c v := by omega
    exact ⟨j, e, h1, h2, h3, h4, h5, heq, h7 heq⟩

end
end Go.Proofs.Yteehgcbjmdideaa

/- A region that draws its order and whose last operation, number k, waits for all the others: a load may be taken first where nobody but k writes its cell. What is held need not outlive k. -/
namespace Go.Proofs.Yteehgcbjmdideaa
open Go

section
variable {P : Program} {ops : Array Oper} {Q : Exit → Act → World → Prop} {md : Region.Mode} {S : World → Prop} {k : Nat}

/-- whatever order is picked from here on, and S holds behind every operation but k -/
def wpAnyU (P : Program) (md : Region.Mode) (ops : Array Oper) (Q : Exit → Act → World → Prop) (S : World → Prop) (k : Nat) : Nat → Array Bool → Act → World → Prop
  | 0, listed, a, w => Region.ready md ops listed = [] ∧ Q .normal a w
  | fuel + 1, listed, a, w =>
    (Region.ready md ops listed = [] → Q .normal a w) ∧
    ∀ i ∈ Region.ready md ops listed, wpOp P ops Q i (fun a' w' => (i ≠ k → S w') ∧ wpAnyU P md ops Q S k fuel (listed.setIfInBounds i true) a' w') a w

theorem wpAny_of_U : ∀ (fuel : Nat) (listed : Array Bool) (a : Act) (w : World), wpAnyU P md ops Q S k fuel listed a w → wpAny P md ops Q fuel listed a w
  | 0, _, _, _, h => h
  | fuel + 1, _, _, _, h => ⟨h.1, fun i hi => wpOp_mono (fun a' w' h' => wpAny_of_U fuel _ a' w' h'.2) (h.2 i hi)⟩

/-- who may come up does not wait for one that has not come up -/
theorem ready_not_on {listed : Array Bool} {i j : Nat} {oj : Oper} (hr : i ∈ Region.ready md ops listed) (hj : j ∈ Region.ready md ops listed) (hoj : ops[j]? = some oj) :
    ∀ e ∈ oj.after, Region.binds md e = true → e.on ≠ i := by
  obtain ⟨_, o, ho, hall⟩ := mem_ready.1 hj
  rw [hoj] at ho
  injection ho with ho
  subst ho
  have hun := (mem_ready.1 hr).1
  rintro e he hb rfl
  have hl := hall e he hb
  by_cases hs : e.on < listed.size
  · simp only [Array.getD_eq_getD_getElem?, Array.getElem?_eq_getElem hs, Option.getD_some] at hun hl
    exact Bool.noConfusion (hun.symm.trans hl)
  · simp only [Array.getD_eq_getD_getElem?, Array.getElem?_eq_none (Nat.le_of_not_lt hs), Option.getD_none] at hl
    cases hl

/-- number i can wait: it may come up, its value is known, and all goes well if it is taken now -/
structure CanWait (P : Program) (md : Region.Mode) (ops : Array Oper) (Q : Exit → Act → World → Prop) (S : World → Prop) (k i : Nat) (oi : Oper) (v : Value) (fuel : Nat) (listed : Array Bool) (a : Act) (w : World) : Prop where
  up : i ∈ Region.ready md ops listed
  apart : ∀ j oj, ops[j]? = some oj → j ≠ i → listed.getD j true = false → (∀ e ∈ oj.after, Region.binds md e = true → e.on ≠ i) → oi.apart ops oj = true
  val : YieldsIf P ops S oi v a
  holds : S w
  taken : wpAnyU P md ops Q S k fuel (listed.setIfInBounds i true) (a.put oi.dst v) w

section
variable {i : Nat} {oi : Oper} {v : Value}

/-- behind any other one that comes up, it still can -/
theorem CanWait.other (hi : ops[i]? = some oi) (hsel : ∀ (j : Nat) (o : Oper) cs b, ops[j]? = some o → o.op ≠ .select cs b)
    (hk : i ≠ k ∧ ∀ ok, ops[k]? = some ok → ∃ e ∈ ok.after, Region.binds md e = true ∧ e.on = i)
    (hQ : ∀ c a w, Q (.panic c) (a.put oi.dst v) w → Q (.panic c) a w) {fuel j : Nat} {listed : Array Bool} {a : Act} {w : World}
    (h : CanWait P md ops Q S k i oi v (fuel + 1) listed a w) (hj : j ∈ Region.ready md ops listed) (hne : j ≠ i) :
    wpOp P ops Q j (fun a' w' => (j ≠ k → S w') ∧ CanWait P md ops Q S k i oi v fuel (listed.setIfInBounds j true) a' w') a w := by
  obtain ⟨hun, oj, hoj, _⟩ := mem_ready.1 hj
  have hno := ready_not_on h.up hj hoj
  have hjk : j ≠ k := by
    rintro rfl
    obtain ⟨e, he, hb, hon⟩ := hk.2 oj hoj
    exact hno e he hb hon
  have hstep := h.taken.2 j (ready_mono hj hne)
  rw [Array.setIfInBounds_comm _ _ (Ne.symm hne)] at hstep
  refine wpOp_mono ?_ (wpOp_putIf hoj (h.apart j oj hoj hne hun hno) (hsel i oi · · hi) (hsel j oj · · hoj) hQ h.val hstep)
  rintro a' w' ⟨hval, hS, hrest⟩
  refine ⟨hS, ready_mono h.up (Ne.symm hne), fun m om hm hmi hml hmo => h.apart m om hm hmi ?_ hmo, hval, hS hjk, hrest⟩
  by_cases hjm : j = m
  · exact hjm ▸ hun
  · rwa [getD_set_ne true hjm] at hml

/-- so all goes well whenever it comes up -/
theorem CanWait.any (hi : ops[i]? = some oi) (hsel : ∀ (j : Nat) (o : Oper) cs b, ops[j]? = some o → o.op ≠ .select cs b)
    (hk : i ≠ k ∧ ∀ ok, ops[k]? = some ok → ∃ e ∈ ok.after, Region.binds md e = true ∧ e.on = i)
    (hQ : ∀ c a w, Q (.panic c) (a.put oi.dst v) w → Q (.panic c) a w) (fuel : Nat) :
    ∀ {listed : Array Bool} {a : Act} {w : World}, CanWait P md ops Q S k i oi v fuel listed a w → wpAnyU P md ops Q S k (fuel + 1) listed a w := by
  induction fuel with
  | zero =>
    intro listed a w h
    refine ⟨fun hnil => absurd h.up (by simp [hnil]), fun j hj => ?_⟩
    rcases Nat.decEq j i with hne | rfl
    · exact absurd (ready_mono hj hne) (by simp [h.taken.1])
    · exact h.val.wpOp hi h.holds ⟨fun _ => h.holds, h.taken⟩
  | succ fuel ih =>
    intro listed a w h
    refine ⟨fun hnil => absurd h.up (by simp [hnil]), fun j hj => ?_⟩
    rcases Nat.decEq j i with hne | rfl
    · exact wpOp_mono (fun _ _ hc => ⟨hc.1, ih hc.2⟩) (h.other hi hsel hk hQ hj hne)
    · exact h.val.wpOp hi h.holds ⟨fun _ => h.holds, h.taken⟩

end

/-- does number k wait for number i? -/
def waits (md : Region.Mode) (ops : Array Oper) (k i : Nat) : Bool := i != k && ((ops[k]?).map (·.after.any fun e => Region.binds md e && e.on == i)).getD true

theorem waits_spec {i : Nat} (h : waits md ops k i = true) : i ≠ k ∧ ∀ ok, ops[k]? = some ok → ∃ e ∈ ok.after, Region.binds md e = true ∧ e.on = i := by
  unfold waits at h
  rw [Bool.and_eq_true] at h
  refine ⟨by simpa using h.1, fun ok hok => ?_⟩
  have h2 := h.2
  rw [hok] at h2
  simp only [Option.map_some, Option.getD_some, Array.any_eq_true] at h2
  obtain ⟨j, hj, h3⟩ := h2
  rw [Bool.and_eq_true] at h3
  exact ⟨ok.after[j], Array.getElem_mem hj, h3.1, by simpa using h3.2⟩

theorem wpAnyU_take {i : Nat} {oi : Oper} {v : Value} {fuel : Nat} {listed : Array Bool} {a : Act} {w : World} (hi : ops[i]? = some oi)
    (hs : Region.noSelect ops = true) (hf : Region.free md ops listed i = true) (hr : (Region.ready md ops listed).contains i = true) (hk : waits md ops k i = true)
    (hQ : ∀ c a w, Q (.panic c) (a.put oi.dst v) w → Q (.panic c) a w) (hy : YieldsIf P ops S oi v a) (hS : S w)
    (h : wpAnyU P md ops Q S k fuel (listed.setIfInBounds i true) (a.put oi.dst v) w) : wpAnyU P md ops Q S k (fuel + 1) listed a w :=
  CanWait.any hi (Region.noSelect_spec hs) (waits_spec hk) hQ fuel ⟨by simpa using hr, Region.free_spec hi hf, hy, hS, h⟩

/-- only number i may come up -/
theorem wpAnyU_one {i : Nat} {o : Oper} {fuel : Nat} {listed : Array Bool} {a : Act} {w : World} (ho : ops[i]? = some o) (hr : Region.ready md ops listed = [i])
    (h : ∀ K' : Act → World → Prop, Shut (∀ a w, ((i ≠ k → S w) ∧ wpAnyU P md ops Q S k fuel (listed.setIfInBounds i true) a w) → K' a w) → if Region.wanted o (yielded ops a.tmps) = true then Oper.wp P o a w K' Q else K' (a.put o.dst undef) w) : wpAnyU P md ops Q S k (fuel + 1) listed a w := by
  refine ⟨fun h0 => (by rw [hr] at h0; cases h0), fun j hj => ?_⟩
  rw [hr] at hj
  have : j = i := by simpa using hj
  subst this
  exact wpOp_step ho (fun K' hK => h K' (fun a w hS => hK a w hS))

theorem wpAnyU_done {listed : Array Bool} {a : Act} {w : World} (hr : Region.ready md ops listed = []) (h : Q .normal a w) :
    ∀ fuel, wpAnyU P md ops Q S k fuel listed a w
  | 0 => ⟨hr, h⟩
  | _ + 1 => ⟨fun _ => h, by rw [hr]; simp⟩

theorem wp_region_U (S : World → Prop) (k : Nat) {id : Nat} {a : Act} {w : World} (hm : P.follows .mixedOrders = true) (hS : S w.drew)
    (h : S w.drew → wpAnyU P .any ops Q S k ops.size (Array.replicate ops.size false) a w.drew) : (Code.region id ops true).wp P Q a w :=
  wp_region_any hm (wpAny_of_U _ _ _ _ (h hS))

end
end Go.Proofs.Yteehgcbjmdideaa
