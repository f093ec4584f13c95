/- 'PushOf' of the document's answer: what lies in memory. -/
import Derived.Test.YteehgcbjmdideaaQPushP
namespace Go.Proofs.Yteehgcbjmdideaa
open Go.RowKit
attribute [local go_sem ↓] Go.wp_at_zero Go.wp_at_succ

theorem if_wanted {P : Program} {o : Oper} {y : Nat → Option Bool} {a : Act} {w : World} {K : Act → World → Prop} {Q : Exit → Act → World → Prop} (hgd : o.guard = none) (h : o.wp P a w K Q) : if Region.wanted o y = true then o.wp P a w K Q else K (a.put o.dst undef) w := by
  rw [if_pos (by simp [Region.wanted, hgd])]
  exact h

/-- ends, the first k of them pushed -/
def mixF (to fin : List Int) (k : Nat) : List Int := pushF to fin k ++ fin.drop k
theorem mixF_zero (to fin : List Int) : mixF to fin 0 = fin := by simp [mixF, pushF]
theorem mixF_len (to fin : List Int) (k : Nat) (hk : k ≤ fin.length) : (mixF to fin k).length = fin.length := by simp [mixF, pushF_len]; omega
theorem mixF_all (to fin : List Int) (k : Nat) (hk : fin.length ≤ k) : mixF to fin k = pushF to fin k := by simp [mixF, List.drop_of_length_le hk]
theorem mixF_at (to fin : List Int) (k : Nat) (hk : k < fin.length) : gI (mixF to fin k) k = fin.getD k 0 := by
  unfold gI mixF List.getD
  rw [List.getElem?_append_right (by rw [pushF_len]; exact Nat.le_refl _), pushF_len, Nat.sub_self]
  simp [hk]
theorem mixF_succ (to fin : List Int) (k : Nat) (hk : k < fin.length) : (mixF to fin k).set k (pf (gI to k) (fin.getD k 0)) = mixF to fin (k + 1) := by
  unfold mixF
  rw [List.set_append_right _ _ (by rw [pushF_len]; exact Nat.le_refl _), pushF_len, Nat.sub_self, List.drop_eq_getElem_cons hk, List.set_cons_zero, pushF_succ]
  simp
theorem mixF_same (to fin : List Int) (k : Nat) (hk : k < fin.length) (h : fin.getD k 0 = -1) : mixF to fin (k + 1) = mixF to fin k := by
  rw [← mixF_succ to fin k hk]
  have e : pf (gI to k) (fin.getD k 0) = gI (mixF to fin k) k := by rw [mixF_at to fin k hk, h]; simp [pf]
  rw [e, set_same]

/-- the world of 'PushOf' -/
structure OW (w wx : World) (N s0 gt P G cap : Nat) (fin arcs av : Value) (to xs : List Int) (ars : List ArcD) : Prop where
  cf : CellsF wx w.heap.size (N : Int) (s0 : Int) fin arcs
  zb : ZBlock wx (w.heap.size + 1)
  row : NumsAt wx gt N to
  out : CellsF wx P (N : Int) (s0 : Int) (.slice (some ⟨G, 0, none⟩) N cap) av
  frz : wx.frozen? ⟨P, 3, none⟩ = false
  fin : NumsAt wx G N xs
  ar : wx.ownsRow (w.heap.size + 2) 63 5 av ars.length (arcsV ars)
  gt1 : w.heap.size + 1 < gt
  gP : w.heap.size + 1 < P
  gG : w.heap.size + 1 < G
  tP : gt ≠ P
  tG : gt ≠ G
  PG : P ≠ G
  at_ : av.ownBlock ≠ some gt
  aP : av.ownBlock ≠ some P
  aG : av.ownBlock ≠ some G
  bel : Below w.heap.size w wx

theorem OW.below {w wx wy : World} {N s0 gt P G cap : Nat} {fin arcs av : Value} {to xs : List Int} {ars : List ArcD} (h : OW w wx N s0 gt P G cap fin arcs av to xs ars) (hb : Below wx.heap.size wx wy) : OW w wy N s0 gt P G cap fin arcs av to xs ars :=
  ⟨h.cf.below hb, heap_bel hb h.zb, h.row.below hb, h.out.below hb, (hb.frozen (p := ⟨P, 3, none⟩) (cell_lt h.out.1)).trans h.frz, h.fin.below hb, ownsRow_bel h.ar hb, h.gt1, h.gP, h.gG, h.tP, h.tG, h.PG, h.at_, h.aP, h.aG, bel_on h.bel hb⟩

theorem OW.set {w wx : World} {N s0 gt P G cap : Nat} {fin arcs av : Value} {to xs : List Int} {ars : List ArcD} (h : OW w wx N s0 gt P G cap fin arcs av to xs ars) (i : Nat) (x : Int) (hi : i < N) : OW w (wx.setCell ⟨G, i, none⟩ (.int .i64 x)) N s0 gt P G cap fin arcs av to (xs.set i x) ars :=
  ⟨h.cf.set (by have := h.gG; omega), heap_far h.zb (by have := h.gG; omega), h.row.other h.tG, h.out.set h.PG, by rw [World.frozen?_setCell]; exact h.frz, h.fin.set i x hi, ownsRow_setCell_far h.ar h.aG, h.gt1, h.gP, h.gG, h.tP, h.tG, h.PG, h.at_, h.aP, h.aG, h.bel.setCell (p := ⟨G, i, none⟩) (by have := h.gG; show w.heap.size ≤ G; omega) _⟩

end Go.Proofs.Yteehgcbjmdideaa

/- 'fstIs' of the statements, for a seat without package fst's reader. -/
namespace Go.Proofs.Yteehgcbjmdideaa
open Go.RowKit
attribute [local go_sem ↓] Go.wp_at_zero Go.wp_at_succ

theorem same_self (f : FstD) (fin arcs fin' arcs' : Value) (w : World) (hf : ISlice w fin f.final) (ha : ASlice w arcs f.arcs) (hf' : ISlice w fin' f.final) (ha' : ASlice w arcs' f.arcs) :
    Calls Try.prog 22 #[.agg #[.int .i64 f.states, .int .i64 f.start, fin, arcs], .agg #[.int .i64 f.states, .int .i64 f.start, fin', arcs']] w fun e w' => e = .returned (.bool true) ∧ Below w.heap.size w w' := by
  refine (sameFst_any f f fin arcs fin' arcs' w hf ha hf' ha').mono ?_
  rintro e w' ⟨rfl, hb⟩
  exact ⟨ret_bool (by simp [sameD]), hb⟩

theorem zero_same (w : World) : Calls Try.prog 22 #[.agg #[.int .i64 0, .int .i64 0, .slice none 0 0, .slice none 0 0], .agg #[.int .i64 0, .int .i64 0, .slice none 0 0, .slice none 0 0]] w fun e w' => e = .returned (.bool true) ∧ Below w.heap.size w w' :=
  same_self ⟨0, 0, [], []⟩ _ _ _ _ w (Or.inl ⟨none, 0, rfl, rfl⟩) (Or.inl ⟨none, 0, rfl, rfl⟩) (Or.inl ⟨none, 0, rfl, rfl⟩) (Or.inl ⟨none, 0, rfl, rfl⟩)

set_option maxHeartbeats 1000000 in
theorem fstIs_ok (t : FstD) (fa : Option Addr) (fn fc : Nat) (ba : Option Addr) (bn bc : Nat) (fa' : Option Addr) (fn' fc' : Nat) (ba' : Option Addr) (bn' bc' : Nat) (w : World) (hf : ISlice w (.slice fa fn fc) t.final) (ha : ASlice w (.slice ba bn bc) t.arcs) (hf' : ISlice w (.slice fa' fn' fc') t.final) (ha' : ASlice w (.slice ba' bn' bc') t.arcs) :
    Calls Try.prog 21 #[.agg #[.int .i64 t.states, .int .i64 t.start, .slice fa fn fc, .slice ba bn bc], .int .i64 0, .int .i64 0, .agg #[.int .i64 t.states, .int .i64 t.start, .slice fa' fn' fc', .slice ba' bn' bc']] w fun e w' => e = .returned (.bool true) ∧ Below w.heap.size w w' := by
  have hb := two_up w (.cells #[.int .i64 t.states, .int .i64 t.start, .slice fa fn fc, .slice ba bn bc] 25) (.cells #[.int .i64 t.states, .int .i64 t.start, .slice fa' fn' fc', .slice ba' bn' bc'] 25)
  have h1 := hf.below hb
  have h2 := ha.below hb
  have h3 := hf'.below hb
  have h4 := ha'.below hb
  go_enter Try.func21, Try.ntmps21
  go_wp2_with (go_at_call 22; refine (same_self t _ _ _ _ _ h1 h2 h3 h4).mono ?_; rintro e w1 ⟨rfl, hb1⟩)
  go_ret
  exact ⟨rfl, bel_on hb hb1⟩

set_option maxHeartbeats 1000000 in
theorem fstIs_no (c : Int) (hc : (c == 0) = false) (w : World) :
    Calls Try.prog 21 #[.agg #[.int .i64 0, .int .i64 0, .slice none 0 0, .slice none 0 0], .int .i64 c, .int .i64 c, .agg #[.int .i64 0, .int .i64 0, .slice none 0 0, .slice none 0 0]] w fun e w' => e = .returned (.bool true) ∧ Below w.heap.size w w' := by
  have hb := two_up w (.cells #[.int .i64 0, .int .i64 0, .slice none 0 0, .slice none 0 0] 25) (.cells #[.int .i64 0, .int .i64 0, .slice none 0 0, .slice none 0 0] 25)
  go_enter Try.func21, Try.ntmps21
  go_wp2_with (go_at_call 22; refine (zero_same _).mono ?_; rintro e w1 ⟨rfl, hb1⟩)
  go_ret
  exact ⟨rfl, bel_on hb hb1⟩

end Go.Proofs.Yteehgcbjmdideaa

/- 'Best' of package short. -/
namespace Go.Proofs.Yteehgcbjmdideaa
open Go.RowKit
attribute [local go_sem ↓] Go.wp_at_zero Go.wp_at_succ

/-- the arc that a best way on from each state begins with, or it is best to end there; r falls along the way -/
def BackOk (f : FstD) (N : Nat) (to y : List Int) (r : Nat → Nat) : Prop :=
  ∀ v, v < N → (gI y v = -1 ∧ gI to v = gI f.final v) ∨ ∃ (j : Nat) (a : ArcD), gI y v = j ∧ f.arcs[j]? = some a ∧ a.src = v ∧ 0 ≤ gI to a.dst.toNat ∧ 0 ≤ gI to v ∧ gI to a.dst.toNat + a.wt = gI to v ∧ r a.dst.toNat < r v

theorem back_ok {f : FstD} {N s0 : Nat} {c y : List Int} (hok : OkF f N s0) (hi : Inv (edT f) f.final c y) (hf : Fix (edT f) c) : ∃ r, BackOk f N c y r := by
  obtain ⟨r, _, _, hby⟩ := hi.by_
  refine ⟨r, fun v hv => ?_⟩
  rcases hby v (by rw [hi.len, hok.len]; exact hv) with hl | ⟨j, e, h1, h2, h3, h4, h5, h6, h7⟩
  · exact Or.inl hl
  · right
    have hle := (hf e (List.mem_of_getElem? h2) h4).2
    rw [h3] at hle
    have heq : gI c e.u + e.w = gI c v := by omega
    have h7' := h7 heq
    unfold edT at h2
    rw [List.getElem?_map] at h2
    cases ha : f.arcs[j]? with
    | none => rw [ha] at h2; cases h2
    | some a =>
      rw [ha] at h2
      have he : edgOf ArcD.dst ArcD.src a = e := by simpa using h2
      obtain ⟨⟨p1, p2⟩, _⟩ := hok.arcs a (List.mem_of_getElem? ha)
      subst he
      have hv' : a.src.toNat = v := h3
      exact ⟨j, a, h1, ha, by omega, h4, h5, heq, h7'⟩

/-- a way: the numbers of its arcs -/
def WayL (f : FstD) (y : List Int) : Nat → List Int → Prop
  | s, [] => gI y s = -1
  | s, n :: l => ∃ (j : Nat) (a : ArcD), n = j ∧ gI y s = j ∧ f.arcs[j]? = some a ∧ a.src = s ∧ WayL f y a.dst.toNat l

def lenV : Value → Nat
  | .slice _ n _ => n
  | _ => 0

/-- what 'Best' answers -/
def BestRes (w : World) (f : FstD) (N s0 : Nat) (x : Int) (e : Ending) (w' : World) : Prop :=
  ∃ a n cap l y r, e = .returned (.tuple #[.slice a n cap, .int .i64 x, .int .i64 0]) ∧ ISlice w' (.slice a n cap) l ∧ l.length = n ∧ BackOk f N (toD f) y r ∧ WayL f y s0 l ∧ Below w.heap.size w w'

set_option maxHeartbeats 1000000 in
set_option maxRecDepth 100000 in
theorem best_bad (f : FstD) (fin arcs : Value) (c : Int) (w : World) (hf : ISlice w fin f.final) (ha : ASlice w arcs f.arcs) (hc : checkD f = c) (h0 : (c == 0) = false) :
    Calls Try.prog 44 #[.agg #[.int .i64 f.states, .int .i64 f.start, fin, arcs]] w fun e w' => e = .returned (.tuple #[.slice none 0 0, .int .i64 0, .int .i64 c]) ∧ Below w.heap.size w w' := by
  obtain ⟨fa, fn, fc, rfl, _, _⟩ := hf.lenOf
  obtain ⟨ba, bn, bc, rfl, _, _⟩ := ha.lenOf
  have hall := all_at f _ _ c w hf ha hc
  have h0n : (c != 0) = true := by simpa using h0
  clear hc
  go_enter Try.func44, Try.ntmps44
  go_wp2_with (go_at_call 59; refine hall.mono ?_; rintro e w1 ⟨rfl, hb1, _, _, _⟩)
  exact bodyPost_ret (v := .tuple #[.slice none 0 0, .int .i64 0, .int .i64 c]) (by simp [results, Try.results44, go_sem]) rfl ⟨rfl, hb1⟩

set_option maxHeartbeats 1000000 in
set_option maxRecDepth 100000 in
theorem best_ok (f : FstD) (N s0 : Nat) (fin : Value) (aa : Option Addr) (m ac : Nat) (w : World) (hok : OkF f N s0) (hf : ISlice w fin f.final) (ha : ASlice w (.slice aa m ac) f.arcs) (hal : f.arcs.length = m) (hc : checkD f = 0) (x : Int) (hto : gI (toD f) s0 = x) :
    Calls Try.prog 44 #[.agg #[.int .i64 f.states, .int .i64 f.start, fin, .slice aa m ac]] w fun e w' => BestRes w f N s0 x e w' := by
  obtain ⟨fa, fn, fc, rfl, _, _⟩ := hf.lenOf
  have hall := all_at f _ _ 0 w hf ha hc
  have HOK : Hid (OkF f N s0) := hok
  have HTO : Hid (gI (toD f) s0 = x) := hto
  have HAL : Hid (f.arcs.length = m) := hal
  have hn1 := hok.n1
  have hn2 := hok.n2
  have hs := hok.s
  have hm : m ≤ 3000 := by have := hok.many; omega
  rw [hok.st, hok.sta] at *
  clear hc hok hto
  obtain ⟨i0, hi, hz0, hz1, hz2⟩ := info_parts Try.info3
  go_enter Try.func44, Try.ntmps44
  go_wp2_with (first | (go_at_call 59; refine hall.mono ?_; rintro e w1 ⟨rfl, hb1, hC1, hf1, ha1⟩; have hC1' := hC1; obtain ⟨q0, q1, q2, q3⟩ := hC1) | (go_at_call 85; refine (toEnd_ok f N s0 _ aa m ac w1 HOK.out hf1 ha1 hal).mono ?_; rintro e w3 ⟨gc, gy, c, y, cc, cy, rfl, hcw, hfix⟩; have hy3 := hcw.ry.cell s0 hs; have hsi : (s0 : Int) < N := (by omega); have hC3 := hC1'.below hcw.bel; have hC3' := hC3; obtain ⟨r0, r1, r2, r3⟩ := hC3))
  obtain ⟨r, hback⟩ := back_ok HOK.out hcw.inv hfix
  have hcd := HOK.out.toD hcw.inv hfix
  rw [hcd] at hback
  have HBK : Hid (BackOk f N (toD f) y r) := hback
  have hb3 := bel_on hb1 hcw.bel
  have HC : Hid (∀ wx, Below w3.heap.size w3 wx → CellsF wx w.heap.size (N : Int) (s0 : Int) (.slice fa fn fc) (.slice aa m ac)) := fun wx h => hC3'.below h
  have HY : Hid (∀ wx, Below w3.heap.size w3 wx → NumsAt wx gy N y) := fun wx h => hcw.ry.below h
  have HT : Hid (∀ wx, Below w3.heap.size w3 wx → NumsAt wx gc N (toD f)) := fun wx h => by rw [← hcd]; exact hcw.rc.below h
  have HA : Hid (∀ wx, Below w3.heap.size w3 wx → ASlice wx (.slice aa m ac) f.arcs) := fun wx h => (ha1.below hcw.bel).below h
  clear q0 q1 q2 q3 r0 r1 r2 r3 hy3 hback hcd hcw hfix hC1' hC3' hb1 hall hf1 ha1 hf ha hal
  go_loopw [8, 9] (fun v i wr => ∃ (pre : List Int) (vs : List Nat) (s : Nat), s < N ∧ i = .int .i64 (gI y s) ∧ wr.ownsRow w3.heap.size 3 1 v pre.length (pre.map (Value.int .i64)) ∧ Below w3.heap.size w3 wr ∧ (∀ l, WayL f y s l → WayL f y s0 (pre ++ l)) ∧ vs.length = pre.length ∧ (s :: vs).Nodup ∧ ∀ u ∈ vs, u < N ∧ r s < r u) (fun v _ _ => N + 1 - lenV v)
  case atStart => exact ⟨[], [], s0, hs, rfl, World.ownsRow_nil _ _ _ _, bel_self _, fun l h => h, rfl, by simp, fun u hu => by cases hu⟩
  case round =>
    obtain ⟨pre, vs, s, hsN, rfl, hown, hb, hway, hvl, hnd, hvs⟩ := hrel
    have HWY : Hid (∀ l, WayL f y s l → WayL f y s0 (pre ++ l)) := hway
    have HVS : Hid (vs.length = pre.length ∧ (s :: vs).Nodup ∧ ∀ u ∈ vs, u < N ∧ r s < r u) := ⟨hvl, hnd, hvs⟩
    have hpl : pre.length + 1 ≤ N := by
      have := nodup_le N (s :: vs) hnd (fun u hu => by
        rcases List.mem_cons.1 hu with rfl | hu
        · exact hsN
        · exact (hvs u hu).1)
      rw [List.length_cons, hvl] at this
      exact this
    clear hway hvl hnd hvs
    have hC := HC.out wr hb
    have hC' := hC
    obtain ⟨q0, q1, q2, q3⟩ := hC
    rcases HBK.out s hsN with ⟨e1, _⟩ | ⟨j, a, e1, e2, e3, _, _, _, e7⟩
    · have HWL : Hid (WayL f y s0 pre) := by
        have := HWY.out [] e1
        rw [List.append_nil] at this
        exact this
      rw [e1]
      have t0 := (HT.out wr hb).cell s0 hs
      rw [HTO.out] at t0
      have hsi : (s0 : Int) < N := by omega
      obtain ⟨va, vn, vc, rfl, hvn, _⟩ := (ownsRow_ints (xs := pre) hown).lenOf
      have HVN : Hid (pre.length = vn) := hvn
      clear e1 hvn
      go_wp2
      go_region_held3 (fun wx => wx.cell? ⟨w.heap.size, 1, none⟩ = some (.int .i64 s0) ∧ wx.cell? ⟨gc, s0, none⟩ = some (.int .i64 x)) (exact ⟨drew_cell q1, drew_cell t0⟩) (fail)
      go_wp2
      exact bodyPost_ret (v := .tuple #[.slice va vn vc, .int .i64 x, .int .i64 0]) (by simp [results, Try.results44, go_sem]) rfl ⟨va, vn, vc, pre, y, r, rfl, (ownsRow_ints (xs := pre) hown).below (bel_self wr).drew, HVN.out, HBK.out, HWL.out, bel_on (bel_on hb3 hb) (bel_self wr).drew⟩
    · obtain ⟨p1, p2⟩ := (HOK.out.arcs a (List.mem_of_getElem? e2)).2.1
      obtain ⟨t, ht⟩ : ∃ t : Nat, a.dst = t := ⟨a.dst.toNat, by omega⟩
      have htN : t < N := by omega
      rw [ht, Int.toNat_natCast] at e7
      have hjm : j < m := by
        have := HAL.out
        have h2 := List.getElem?_eq_some_iff.1 e2
        obtain ⟨h3, _⟩ := h2
        omega
      have HAJ : Hid (f.arcs.getD j a0 = a) := (by simp [List.getD, e2] : f.arcs.getD j a0 = a)
      have HE : Hid (gI y s = j ∧ f.arcs[j]? = some a ∧ a.src = s ∧ a.dst = t ∧ r t < r s) := ⟨e1, e2, e3, ht, e7⟩
      obtain ⟨ab, aoff, haa, _⟩ := (HA.out wr hb).some (by omega)
      subst haa
      rw [e1]
      have hji : (j : Int) < m := by omega
      have hti : (t : Int) < N := by omega
      have hjb : ((j : Int) != -1) = true := by
        rw [bne_iff_ne]
        omega
      have hsz := hb.size
      clear e1 e2 e3 ht e7 p1 p2
      go_wp2_with (at_builtin; refine wpList_append_own _ rfl _ _ 22 rfl w3.heap.size 3 i0 (.int .i64 0) 1 8 Try.underlying22 hi hz0 hz1 hz2 rfl (by decide) _ _ _ rfl (hown.alloc _) ⟨wr.heap.size, 0, none⟩ 1 1 [.int .i64 (j : Int)] rfl rfl (cells_new _ #[.int .i64 (j : Int)] 3 wr.heap.size rfl) (ints_ones [(j : Int)]) (by unfold maxLen; omega) (by omega) (by simp; omega) ?_; intro v' w4 hown' hgrow _; have hb4 : Below w3.heap.size w3 w4 := (bel_up hb _).grown hgrow (by simp; omega) (fun g hg => own_base hown g hg); obtain ⟨k0, k1, k2, k3⟩ := HC.out w4 hb4; obtain ⟨ab', aoff', haa, hx⟩ := (HA.out w4 hb4).some (by omega); cases haa; have c3 := hx.c3 j hjm; rw [HAJ.out, HE.out.2.2.2.1] at c3; have y0 := (HY.out w4 hb4).cell t htN; clear hx hgrow)
      go_roundw
      case rel =>
        obtain ⟨h1, h2, h3, h4, h5⟩ := HE.out
        obtain ⟨g1, g2, g3⟩ := HVS.out
        refine ⟨pre ++ [(j : Int)], s :: vs, t, htN, rfl, by simpa using hown', hb4, fun l hl => ?_, by simp [g1], ?_, ?_⟩
        · have := HWY.out ((j : Int) :: l) ⟨j, a, rfl, h1, h2, h3, by rw [h4, Int.toNat_natCast]; exact hl⟩
          simpa using this
        · rw [List.nodup_cons]
          refine ⟨fun hm => ?_, g2⟩
          rcases List.mem_cons.1 hm with e | hm
          · rw [e] at h5; omega
          · have := (g3 t hm).2; omega
        · intro u hu
          rcases List.mem_cons.1 hu with rfl | hu
          · exact ⟨hsN, h5⟩
          · have := g3 u hu
            exact ⟨this.1, by omega⟩
      case measure =>
        obtain ⟨G, cap, rfl⟩ := Go.Joins.ownsRow_form hown' (by omega)
        obtain ⟨va, vn, vc, rfl, hvn, _⟩ := (ownsRow_ints (xs := pre) hown).lenOf
        simp only [lenV]
        omega

end Go.Proofs.Yteehgcbjmdideaa
