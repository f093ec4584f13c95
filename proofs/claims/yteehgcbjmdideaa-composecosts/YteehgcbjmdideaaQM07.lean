/- 'Push' of package short. -/
import Derived.Test.YteehgcbjmdideaaQM06
namespace Go.Proofs.Yteehgcbjmdideaa
open Go.RowKit
attribute [local go_sem ↓] Go.wp_at_zero Go.wp_at_succ

set_option maxHeartbeats 1000000 in
set_option maxRecDepth 100000 in
theorem arcIndex_any (p : ArcD → Bool) (F : Nat) (hG : ∀ args w, (callFunc F args).run Try.prog w = .ok (.enter F args) w) (hF : ∀ (a : ArcD) (w : World), Calls Try.prog F #[.agg #[.int .i64 a.src, .int .i64 a.inp, .int .i64 a.out, .int .i64 a.dst, .int .i64 a.wt]] w fun e w' => e = .returned (.bool (p a)) ∧ Below w.heap.size w w')
    (ars : List ArcD) (aa : Option Addr) (m ac : Nat) (w : World) (ha : ASlice w (.slice aa m ac) ars) (hal : ars.length = m) (hm : m ≤ 3000) :
    Calls Try.prog 122 #[.slice aa m ac, .func (.func F) #[] #[]] w fun e w' => ∃ i : Int, e = .returned (.int .i64 i) ∧ decide (0 ≤ i) = ars.any p ∧ Below w.heap.size w w' := by
  have HAL : Hid (ars.length = m) := hal
  clear hal
  go_enter Try.func122, Try.ntmps122
  go_wp2
  go_loopw [8] (fun i wr => ∃ k : Nat, k ≤ m ∧ i = .int .i64 k ∧ (∀ j, j < k → p (ars.getD j a0) = false) ∧ Below w.heap.size w wr) (fun i _ => m - (intOf i).toNat)
  case atStart => exact ⟨0, Nat.zero_le _, rfl, fun j hj => absurd hj (Nat.not_lt_zero _), bel_self _⟩
  case round =>
    obtain ⟨k, hk, rfl, hall, hb⟩ := hrel
    have HA : Hid (∀ j, j < k → p (ars.getD j a0) = false) := hall
    clear hall
    by_cases hlt : k < m
    · obtain ⟨ab, aoff, rfl, hx⟩ := (ha.below hb).some (by omega)
      obtain ⟨a, hak⟩ : ∃ a, a = ars.getD k a0 := ⟨_, rfl⟩
      have c0 := hx.c0 k hlt
      have c1 := hx.c1 k hlt
      have c2 := hx.c2 k hlt
      have c3 := hx.c3 k hlt
      have c4 := hx.c4 k hlt
      rw [← hak] at c0 c1 c2 c3 c4
      have HAK : Hid (a = ars.getD k a0) := hak
      have hki : (k : Int) < m := by omega
      have hcall := hF a
      clear hak hx
      cases hp : p a with
      | false =>
        have HP : Hid (p a = false) := hp
        rw [hp] at hcall
        clear hp
        go_wp2_with (refine (hcall _).mono ?_; rintro e w1 ⟨rfl, hb1⟩)
        go_roundw
        case rel =>
          refine ⟨k + 1, by omega, by go_num, fun j hj => ?_, bel_on hb hb1⟩
          by_cases e : j = k
          · subst e; rw [← HAK.out]; exact HP.out
          · exact HA.out j (by omega)
        case measure => simp [intOf]; omega
      | true =>
        have HP : Hid (p a = true) := hp
        rw [hp] at hcall
        clear hp
        go_wp2_with (refine (hcall _).mono ?_; rintro e w1 ⟨rfl, hb1⟩)
        go_ret
        refine ⟨k, rfl, ?_, bel_on hb hb1⟩
        have : ars.any p = true := by
          rw [List.any_eq_true]
          refine ⟨a, ?_, HP.out⟩
          rw [HAK.out]
          have := HAL.out
          simp [List.getD, show k < ars.length by omega]
        rw [this]
        simp
    · go_wp2
      go_ret
      refine ⟨-1, rfl, ?_, hb⟩
      have : ars.any p = false := by
        rw [List.any_eq_false]
        intro a ha2
        obtain ⟨j, hj, rfl⟩ := List.getElem_of_mem ha2
        have := HA.out j (by have := HAL.out; omega)
        simpa [List.getD, hj] using this
      rw [this]
      decide

set_option maxHeartbeats 1000000 in
theorem arcContains_any (p : ArcD → Bool) (F : Nat) (hG : ∀ args w, (callFunc F args).run Try.prog w = .ok (.enter F args) w) (hF : ∀ (a : ArcD) (w : World), Calls Try.prog F #[.agg #[.int .i64 a.src, .int .i64 a.inp, .int .i64 a.out, .int .i64 a.dst, .int .i64 a.wt]] w fun e w' => e = .returned (.bool (p a)) ∧ Below w.heap.size w w')
    (ars : List ArcD) (aa : Option Addr) (m ac : Nat) (w : World) (ha : ASlice w (.slice aa m ac) ars) (hal : ars.length = m) (hm : m ≤ 3000) :
    Calls Try.prog 89 #[.slice aa m ac, .func (.func F) #[] #[]] w fun e w' => e = .returned (.bool (ars.any p)) ∧ Below w.heap.size w w' := by
  go_enter Try.func89, Try.ntmps89
  go_wp2_with (go_at_call 122; refine (arcIndex_any p F hG hF ars aa m ac _ ha hal hm).mono ?_; rintro e w1 ⟨i, rfl, hi, hb1⟩)
  go_ret
  exact ⟨rfl, hb1⟩

def ZBlock (w : World) (R : Nat) : Prop := w.heap[R]? = some (.cells #[.int .i64 0, .int .i64 0, .slice none 0 0, .slice none 0 0] 25 (0, 0))
theorem zfacts {w : World} {R : Nat} (h : ZBlock w R) : w.cell? ⟨R, 0, none⟩ = some (.int .i64 0) ∧ w.cell? ⟨R, 1, none⟩ = some (.int .i64 0) ∧ w.cell? ⟨R, 2, none⟩ = some (.slice none 0 0) ∧ w.cell? ⟨R, 3, none⟩ = some (.slice none 0 0) ∧ w.frozen? ⟨R, 0, none⟩ = false ∧ w.frozen? ⟨R, 1, none⟩ = false ∧ w.frozen? ⟨R, 2, none⟩ = false ∧ w.frozen? ⟨R, 3, none⟩ = false := by
  refine ⟨?_, ?_, ?_, ?_, Go.Joins.unfrozen_of_block h 0, Go.Joins.unfrozen_of_block h 1, Go.Joins.unfrozen_of_block h 2, Go.Joins.unfrozen_of_block h 3⟩
  · have := Go.Joins.cell_of_block h 0; simpa using this
  · have := Go.Joins.cell_of_block h 1; simpa using this
  · have := Go.Joins.cell_of_block h 2; simpa using this
  · have := Go.Joins.cell_of_block h 3; simpa using this
theorem bel_set4 {B R : Nat} {a w : World} (h : Below B a w) (hR : B ≤ R) (u0 u1 u2 u3 : Value) : Below B a ((((w.setCell ⟨R, 0, none⟩ u0).setCell ⟨R, 1, none⟩ u1).setCell ⟨R, 2, none⟩ u2).setCell ⟨R, 3, none⟩ u3) :=
  (((h.setCell (p := ⟨R, 0, none⟩) hR _).setCell (p := ⟨R, 1, none⟩) hR _).setCell (p := ⟨R, 2, none⟩) hR _).setCell (p := ⟨R, 3, none⟩) hR _
theorem far4 {w : World} {R b k : Nat} (h : b ≠ R) (u0 u1 u2 u3 : Value) : ((((w.setCell ⟨R, 0, none⟩ u0).setCell ⟨R, 1, none⟩ u1).setCell ⟨R, 2, none⟩ u2).setCell ⟨R, 3, none⟩ u3).cell? ⟨b, k, none⟩ = w.cell? ⟨b, k, none⟩ := by
  rw [set_far h, set_far h, set_far h, set_far h]
theorem isl_set4 {w : World} {R : Nat} {v : Value} {xs : List Int} (h : ISlice w v xs) (hv : ¬ v.ownBlock = some R) (u0 u1 u2 u3 : Value) : ISlice ((((w.setCell ⟨R, 0, none⟩ u0).setCell ⟨R, 1, none⟩ u1).setCell ⟨R, 2, none⟩ u2).setCell ⟨R, 3, none⟩ u3) v xs := by
  rcases h with h | ⟨b, off, n, cap, rfl, hx, hn⟩
  · exact Or.inl h
  · have hb : b ≠ R := fun e => hv (by rw [e]; rfl)
    exact Or.inr ⟨b, off, n, cap, rfl, ⟨hx.len, fun i hi => by rw [far4 hb]; exact hx.cell i hi⟩, hn⟩
theorem asl_set4 {w : World} {R : Nat} {v : Value} {xs : List ArcD} (h : ASlice w v xs) (hv : ¬ v.ownBlock = some R) (u0 u1 u2 u3 : Value) : ASlice ((((w.setCell ⟨R, 0, none⟩ u0).setCell ⟨R, 1, none⟩ u1).setCell ⟨R, 2, none⟩ u2).setCell ⟨R, 3, none⟩ u3) v xs := by
  rcases h with h | ⟨b, off, n, cap, rfl, hx, hn⟩
  · exact Or.inl h
  · have hb : b ≠ R := fun e => hv (by rw [e]; rfl)
    exact Or.inr ⟨b, off, n, cap, rfl, ⟨hx.len, fun i hi => by rw [far4 hb]; exact hx.c0 i hi, fun i hi => by rw [far4 hb]; exact hx.c1 i hi, fun i hi => by rw [far4 hb]; exact hx.c2 i hi, fun i hi => by rw [far4 hb]; exact hx.c3 i hi, fun i hi => by rw [far4 hb]; exact hx.c4 i hi⟩, hn⟩

theorem all_at2 (f : FstD) (fin arcs : Value) (c : Int) (w : World) (hf : ISlice w fin f.final) (ha : ASlice w arcs f.arcs) (hc : checkD f = c) :
    Calls Try.prog 59 #[.slice (some ⟨w.heap.size + 1 + 1, 0, none⟩) 1 1] (((w.alloc (.cells #[.int .i64 f.states, .int .i64 f.start, fin, arcs] 25)).alloc (.cells #[.int .i64 0, .int .i64 0, .slice none 0 0, .slice none 0 0] 25)).alloc (.cells #[.int .i64 f.states, .int .i64 f.start, fin, arcs] 25)) fun e w' =>
      e = .returned (.int .i64 c) ∧ Below w.heap.size w w' ∧ CellsF w' w.heap.size f.states f.start fin arcs ∧ ZBlock w' (w.heap.size + 1) ∧ ISlice w' fin f.final ∧ ASlice w' arcs f.arcs := by
  have hb := bel_up (two_up w (.cells #[.int .i64 f.states, .int .i64 f.start, fin, arcs] 25) (.cells #[.int .i64 0, .int .i64 0, .slice none 0 0, .slice none 0 0] 25)) (.cells #[.int .i64 f.states, .int .i64 f.start, fin, arcs] 25)
  have hz : ZBlock ((w.alloc (.cells #[.int .i64 f.states, .int .i64 f.start, fin, arcs] 25)).alloc (.cells #[.int .i64 0, .int .i64 0, .slice none 0 0, .slice none 0 0] 25)) (w.heap.size + 1) := by
    have := heap_alloc_new (w.alloc (.cells #[.int .i64 f.states, .int .i64 f.start, fin, arcs] 25)) (.cells #[.int .i64 0, .int .i64 0, .slice none 0 0, .slice none 0 0] 25)
    unfold ZBlock
    simpa using this
  refine (all_one f fin arcs (w.heap.size + 1 + 1) c _ (cellsF_at _ _ _ _ _ _ _ (by simp)) (hf.below hb) (ha.below hb) hc).mono ?_
  rintro e w' ⟨rfl, hb2⟩
  exact ⟨rfl, bel_on hb hb2, ((cellsF_new w _ _ _ _ _).below (two_up _ _ _)).below hb2, heap_bel hb2 (heap_bel (bel_up (bel_self _) _) hz), (hf.below hb).below hb2, (ha.below hb).below hb2⟩

theorem set4_cells {w : World} {R : Nat} {u0 u1 u2 u3 : Value} (z0 : w.cell? ⟨R, 0, none⟩ = some u0) (z1 : w.cell? ⟨R, 1, none⟩ = some u1) (z2 : w.cell? ⟨R, 2, none⟩ = some u2) (z3 : w.cell? ⟨R, 3, none⟩ = some u3) (a b : Int) (u v : Value) :
    CellsF ((((w.setCell ⟨R, 0, none⟩ (.int .i64 a)).setCell ⟨R, 1, none⟩ (.int .i64 b)).setCell ⟨R, 2, none⟩ u).setCell ⟨R, 3, none⟩ v) R a b u v := by
  refine ⟨?_, ?_, ?_, ?_⟩
  · exact set_off (set_off (set_off (World.cell?_setCell_same _ _ _ z0) (by decide)) (by decide)) (by decide)
  · exact set_off (set_off (World.cell?_setCell_same _ _ _ (set_off z1 (by decide))) (by decide)) (by decide)
  · exact set_off (World.cell?_setCell_same _ _ _ (set_off (set_off z2 (by decide)) (by decide))) (by decide)
  · exact World.cell?_setCell_same _ _ _ (set_off (set_off (set_off z3 (by decide)) (by decide)) (by decide))
theorem zb_set4 {w : World} {R P : Nat} (h : ZBlock w R) (hne : R ≠ P) (u0 u1 u2 u3 : Value) : ZBlock ((((w.setCell ⟨P, 0, none⟩ u0).setCell ⟨P, 1, none⟩ u1).setCell ⟨P, 2, none⟩ u2).setCell ⟨P, 3, none⟩ u3) R :=
  heap_far (heap_far (heap_far (heap_far h hne) hne) hne) hne

/-- the transducer that is pushed, at P, the answer's block R still noughts -/
def PRel (w : World) (R N s0 : Nat) (xs : List Int) (ars : List ArcD) (t : Value) (wx : World) : Prop :=
  ∃ P fa fn fc ba bn bc, t = .pointer (some ⟨P, 0, none⟩) ∧ CellsF wx P (N : Int) (s0 : Int) (.slice fa fn fc) (.slice ba bn bc) ∧ ISlice wx (.slice fa fn fc) xs ∧ ASlice wx (.slice ba bn bc) ars ∧ ZBlock wx R ∧ Below w.heap.size w wx ∧ R < P ∧ (∀ g, (Value.slice fa fn fc).ownBlock = some g → R < g) ∧ ∀ g, (Value.slice ba bn bc).ownBlock = some g → R < g

theorem PRel.make {w W : World} {R N s0 P : Nat} {xs : List Int} {ars : List ArcD} {fa : Option Addr} {fn fc : Nat} {ba : Option Addr} {bn bc : Nat} (hP : ZBlock W P) (hR : ZBlock W R) (hRP : R < P) (hwR : w.heap.size ≤ R) (hf : ISlice W (.slice fa fn fc) xs) (ha : ASlice W (.slice ba bn bc) ars) (hb : Below w.heap.size w W)
    (hfg : ∀ g, (Value.slice fa fn fc).ownBlock = some g → R < g ∧ g ≠ P) (hag : ∀ g, (Value.slice ba bn bc).ownBlock = some g → R < g ∧ g ≠ P) :
    PRel w R N s0 xs ars (.pointer (some ⟨P, 0, none⟩)) ((((W.setCell ⟨P, 0, none⟩ (.int .i64 N)).setCell ⟨P, 1, none⟩ (.int .i64 s0)).setCell ⟨P, 2, none⟩ (.slice fa fn fc)).setCell ⟨P, 3, none⟩ (.slice ba bn bc)) := by
  obtain ⟨z0, z1, z2, z3, _, _, _, _⟩ := zfacts hP
  exact ⟨P, fa, fn, fc, ba, bn, bc, rfl, set4_cells z0 z1 z2 z3 _ _ _ _, isl_set4 hf (fun h => (hfg P h).2 rfl) _ _ _ _, asl_set4 ha (fun h => (hag P h).2 rfl) _ _ _ _, zb_set4 hR (by omega) _ _ _ _, bel_set4 hb (by omega) _ _ _ _, hRP, fun g hg => (hfg g hg).1, fun g hg => (hag g hg).1⟩

theorem wpAnyU_two {P : Program} {ops : Array Oper} {Q : Exit → Act → World → Prop} {md : Region.Mode} {S : World → Prop} {k : Nat} {i j : Nat} {oi oj : Oper} {fuel : Nat} {listed : Array Bool} {a : Act} {w : World} (hi : ops[i]? = some oi) (hj : ops[j]? = some oj) (hr : Region.ready md ops listed = [i, j])
    (h1 : ∀ K' : Act → World → Prop, Shut (∀ a w, ((i ≠ k → S w) ∧ wpAnyU P md ops Q S k fuel (listed.setIfInBounds i true) a w) → K' a w) → if Region.wanted oi (yielded ops a.tmps) = true then Oper.wp P oi a w K' Q else K' (a.put oi.dst undef) w)
    (h2 : ∀ K' : Act → World → Prop, Shut (∀ a w, ((j ≠ k → S w) ∧ wpAnyU P md ops Q S k fuel (listed.setIfInBounds j true) a w) → K' a w) → if Region.wanted oj (yielded ops a.tmps) = true then Oper.wp P oj a w K' Q else K' (a.put oj.dst undef) w) : wpAnyU P md ops Q S k (fuel + 1) listed a w := by
  refine ⟨fun h0 => (by rw [hr] at h0; cases h0), fun n hn => ?_⟩
  rw [hr] at hn
  rcases List.mem_cons.1 hn with rfl | hn
  · exact wpOp_step hi (fun K' hK => h1 K' (fun a w hS => hK a w hS))
  · have : n = j := by simpa using hn
    subst this
    exact wpOp_step hj (fun K' hK => h2 K' (fun a w hS => hK a w hS))

end Go.Proofs.Yteehgcbjmdideaa

/- 'PushOf' of the document's answer: what lies in memory. -/
namespace Go.Proofs.Yteehgcbjmdideaa
open Go.RowKit
attribute [local go_sem ↓] Go.wp_at_zero Go.wp_at_succ

theorem if_wanted {P : Program} {o : Oper} {y : Nat → Option Bool} {a : Act} {w : World} {K : Act → World → Prop} {Q : Exit → Act → World → Prop} (hgd : o.guard = none) (h : o.wp P a w K Q) : if Region.wanted o y = true then o.wp P a w K Q else K (a.put o.dst undef) w := by
  rw [if_pos (by simp [Region.wanted, hgd])]
  exact h

/-- the world of 'PushOf' -/
structure OW (w wx : World) (N s0 gt P G cap : Nat) (fin arcs av : Value) (to xs : List Int) (ars : List ArcD) : Prop where
  cf : CellsF wx w.heap.size (N : Int) (s0 : Int) fin arcs
  zb : ZBlock wx (w.heap.size + 1)
  row : NumsAt wx gt N to
  out : CellsF wx P (N : Int) (s0 : Int) (.slice (some ⟨G, 0, none⟩) N cap) av
  frz : wx.frozen? ⟨P, 3, none⟩ = false
  fin : NumsAt wx G N xs
  ar : wx.ownsRow (w.heap.size + 2) 63 5 av ars.length (arcsV ars)
  gt1 : w.heap.size + 1 < gt
  gP : w.heap.size + 1 < P
  gG : w.heap.size + 1 < G
  tP : gt ≠ P
  tG : gt ≠ G
  PG : P ≠ G
  at_ : av.ownBlock ≠ some gt
  aP : av.ownBlock ≠ some P
  aG : av.ownBlock ≠ some G
  bel : Below w.heap.size w wx

theorem OW.below {w wx wy : World} {N s0 gt P G cap : Nat} {fin arcs av : Value} {to xs : List Int} {ars : List ArcD} (h : OW w wx N s0 gt P G cap fin arcs av to xs ars) (hb : Below wx.heap.size wx wy) : OW w wy N s0 gt P G cap fin arcs av to xs ars :=
  ⟨h.cf.below hb, heap_bel hb h.zb, h.row.below hb, h.out.below hb, (hb.frozen (p := ⟨P, 3, none⟩) (cell_lt h.out.1)).trans h.frz, h.fin.below hb, ownsRow_bel h.ar hb, h.gt1, h.gP, h.gG, h.tP, h.tG, h.PG, h.at_, h.aP, h.aG, bel_on h.bel hb⟩

theorem OW.set {w wx : World} {N s0 gt P G cap : Nat} {fin arcs av : Value} {to xs : List Int} {ars : List ArcD} (h : OW w wx N s0 gt P G cap fin arcs av to xs ars) (i : Nat) (x : Int) (hi : i < N) : OW w (wx.setCell ⟨G, i, none⟩ (.int .i64 x)) N s0 gt P G cap fin arcs av to (xs.set i x) ars :=
  ⟨h.cf.set (by have := h.gG; omega), heap_far h.zb (by have := h.gG; omega), h.row.other h.tG, h.out.set h.PG, by rw [World.frozen?_setCell]; exact h.frz, h.fin.set i x hi, ownsRow_setCell_far h.ar h.aG, h.gt1, h.gP, h.gG, h.tP, h.tG, h.PG, h.at_, h.aP, h.aG, h.bel.setCell (p := ⟨G, i, none⟩) (by have := h.gG; show w.heap.size ≤ G; omega) _⟩

end Go.Proofs.Yteehgcbjmdideaa

/- 'fstIs' of the statements, for a seat without package fst's reader. -/
namespace Go.Proofs.Yteehgcbjmdideaa
open Go.RowKit
attribute [local go_sem ↓] Go.wp_at_zero Go.wp_at_succ

end Go.Proofs.Yteehgcbjmdideaa
