/- 'Best' of package short. -/
import Derived.Test.YteehgcbjmdideaaFstIsB
namespace Go.Proofs.Yteehgcbjmdideaa
open Go.RowKit
attribute [local go_sem ↓] Go.wp_at_zero Go.wp_at_succ

/-- the arc that a best way on from each state begins with, or it is best to end there; r falls along the way -/
def BackOk (f : FstD) (N : Nat) (to y : List Int) (r : Nat → Nat) : Prop :=
  ∀ v, v < N → (gI y v = -1 ∧ gI to v = gI f.final v) ∨ ∃ (j : Nat) (a : ArcD), gI y v = j ∧ f.arcs[j]? = some a ∧ a.src = v ∧ 0 ≤ gI to a.dst.toNat ∧ 0 ≤ gI to v ∧ gI to a.dst.toNat + a.wt = gI to v ∧ r a.dst.toNat < r v

theorem back_ok {f : FstD} {N s0 : Nat} {c y : List Int} (hok : OkF f N s0) (hi : Inv (edT f) f.final c y) (hf : Fix (edT f) c) : ∃ r, BackOk f N c y r := by
  obtain ⟨r, _, _, hby⟩ := hi.by_
  refine ⟨r, fun v hv => ?_⟩
  rcases hby v (by rw [hi.len, hok.len]; exact hv) with hl | ⟨j, e, h1, h2, h3, h4, h5, h6, h7⟩
  · exact Or.inl hl
  · right
    have hle := (hf e (List.mem_of_getElem? h2) h4).2
    rw [h3] at hle
    have heq : gI c e.u + e.w = gI c v := by omega
    have h7' := h7 heq
    unfold edT at h2
    rw [List.getElem?_map] at h2
    cases ha : f.arcs[j]? with
    | none => rw [ha] at h2; cases h2
    | some a =>
      rw [ha] at h2
      have he : edgOf ArcD.dst ArcD.src a = e := by simpa using h2
      obtain ⟨⟨p1, p2⟩, _⟩ := hok.arcs a (List.mem_of_getElem? ha)
      subst he
      have hv' : a.src.toNat = v := h3
      exact ⟨j, a, h1, ha, by omega, h4, h5, heq, h7'⟩

/-- a way: the numbers of its arcs -/
def WayL (f : FstD) (y : List Int) : Nat → List Int → Prop
  | s, [] => gI y s = -1
  | s, n :: l => ∃ (j : Nat) (a : ArcD), n = j ∧ gI y s = j ∧ f.arcs[j]? = some a ∧ a.src = s ∧ WayL f y a.dst.toNat l

def lenV : Value → Nat
  | .slice _ n _ => n
  | _ => 0

/-- what 'Best' answers -/
def BestRes (w : World) (f : FstD) (N s0 : Nat) (x : Int) (e : Ending) (w' : World) : Prop :=
  ∃ a n cap l y r, e = .returned (.tuple #[.slice a n cap, .int .i64 x, .int .i64 0]) ∧ ISlice w' (.slice a n cap) l ∧ l.length = n ∧ BackOk f N (toD f) y r ∧ WayL f y s0 l ∧ Below w.heap.size w w'

set_option maxHeartbeats 1000000 in
set_option maxRecDepth 100000 in
theorem best_bad (f : FstD) (fin arcs : Value) (c : Int) (w : World) (hf : ISlice w fin f.final) (ha : ASlice w arcs f.arcs) (hc : checkD f = c) (h0 : (c == 0) = false) :
    Calls Try.prog 44 #[.agg #[.int .i64 f.states, .int .i64 f.start, fin, arcs]] w fun e w' => e = .returned (.tuple #[.slice none 0 0, .int .i64 0, .int .i64 c]) ∧ Below w.heap.size w w' := by
  obtain ⟨fa, fn, fc, rfl, _, _⟩ := hf.lenOf
  obtain ⟨ba, bn, bc, rfl, _, _⟩ := ha.lenOf
  have hall := all_at f _ _ c w hf ha hc
  have h0n : (c != 0) = true := by simpa using h0
  clear hc
  go_enter Try.func44, Try.ntmps44
  go_wp2_with (go_at_call 59; refine hall.mono ?_; rintro e w1 ⟨rfl, hb1, _, _, _⟩)
  exact bodyPost_ret (v := .tuple #[.slice none 0 0, .int .i64 0, .int .i64 c]) (by simp [results, Try.results44, go_sem]) rfl ⟨rfl, hb1⟩

set_option maxHeartbeats 1000000 in
set_option maxRecDepth 100000 in
theorem best_ok (f : FstD) (N s0 : Nat) (fin : Value) (aa : Option Addr) (m ac : Nat) (w : World) (hok : OkF f N s0) (hf : ISlice w fin f.final) (ha : ASlice w (.slice aa m ac) f.arcs) (hal : f.arcs.length = m) (hc : checkD f = 0) (x : Int) (hto : gI (toD f) s0 = x) :
    Calls Try.prog 44 #[.agg #[.int .i64 f.states, .int .i64 f.start, fin, .slice aa m ac]] w fun e w' => BestRes w f N s0 x e w' := by
  obtain ⟨fa, fn, fc, rfl, _, _⟩ := hf.lenOf
  have hall := all_at f _ _ 0 w hf ha hc
  have HOK : Hid (OkF f N s0) := hok
  have HTO : Hid (gI (toD f) s0 = x) := hto
  have HAL : Hid (f.arcs.length = m) := hal
  have hn1 := hok.n1
  have hn2 := hok.n2
  have hs := hok.s
  have hm : m ≤ 3000 := by have := hok.many; omega
  rw [hok.st, hok.sta] at *
  clear hc hok hto
  obtain ⟨i0, hi, hz0, hz1, hz2⟩ := info_parts Try.info3
  go_enter Try.func44, Try.ntmps44
  go_wp2_with (first | (go_at_call 59; refine hall.mono ?_; rintro e w1 ⟨rfl, hb1, hC1, hf1, ha1⟩; have hC1' := hC1; obtain ⟨q0, q1, q2, q3⟩ := hC1) | (go_at_call 85; refine (toEnd_ok f N s0 _ aa m ac w1 HOK.out hf1 ha1 hal).mono ?_; rintro e w3 ⟨gc, gy, c, y, cc, cy, rfl, hcw, hfix⟩; have hy3 := hcw.ry.cell s0 hs; have hsi : (s0 : Int) < N := (by omega); have hC3 := hC1'.below hcw.bel; have hC3' := hC3; obtain ⟨r0, r1, r2, r3⟩ := hC3))
  obtain ⟨r, hback⟩ := back_ok HOK.out hcw.inv hfix
  have hcd := HOK.out.toD hcw.inv hfix
  rw [hcd] at hback
  have HBK : Hid (BackOk f N (toD f) y r) := hback
  have hb3 := bel_on hb1 hcw.bel
  have HC : Hid (∀ wx, Below w3.heap.size w3 wx → CellsF wx w.heap.size (N : Int) (s0 : Int) (.slice fa fn fc) (.slice aa m ac)) := fun wx h => hC3'.below h
  have HY : Hid (∀ wx, Below w3.heap.size w3 wx → NumsAt wx gy N y) := fun wx h => hcw.ry.below h
  have HT : Hid (∀ wx, Below w3.heap.size w3 wx → NumsAt wx gc N (toD f)) := fun wx h => by rw [← hcd]; exact hcw.rc.below h
  have HA : Hid (∀ wx, Below w3.heap.size w3 wx → ASlice wx (.slice aa m ac) f.arcs) := fun wx h => (ha1.below hcw.bel).below h
  clear q0 q1 q2 q3 r0 r1 r2 r3 hy3 hback hcd hcw hfix hC1' hC3' hb1 hall hf1 ha1 hf ha hal
  go_loopw [8, 9] (fun v i wr => ∃ (pre : List Int) (vs : List Nat) (s : Nat), s < N ∧ i = .int .i64 (gI y s) ∧ wr.ownsRow w3.heap.size 3 1 v pre.length (pre.map (Value.int .i64)) ∧ Below w3.heap.size w3 wr ∧ (∀ l, WayL f y s l → WayL f y s0 (pre ++ l)) ∧ vs.length = pre.length ∧ (s :: vs).Nodup ∧ ∀ u ∈ vs, u < N ∧ r s < r u) (fun v _ _ => N + 1 - lenV v)
  case atStart => exact ⟨[], [], s0, hs, rfl, World.ownsRow_nil _ _ _ _, bel_self _, fun l h => h, rfl, by simp, fun u hu => by cases hu⟩
  case round =>
    obtain ⟨pre, vs, s, hsN, rfl, hown, hb, hway, hvl, hnd, hvs⟩ := hrel
    have HWY : Hid (∀ l, WayL f y s l → WayL f y s0 (pre ++ l)) := hway
    have HVS : Hid (vs.length = pre.length ∧ (s :: vs).Nodup ∧ ∀ u ∈ vs, u < N ∧ r s < r u) := ⟨hvl, hnd, hvs⟩
    have hpl : pre.length + 1 ≤ N := by
      have := nodup_le N (s :: vs) hnd (fun u hu => by
        rcases List.mem_cons.1 hu with rfl | hu
        · exact hsN
        · exact (hvs u hu).1)
      rw [List.length_cons, hvl] at this
      exact this
    clear hway hvl hnd hvs
    have hC := HC.out wr hb
    have hC' := hC
    obtain ⟨q0, q1, q2, q3⟩ := hC
    rcases HBK.out s hsN with ⟨e1, _⟩ | ⟨j, a, e1, e2, e3, _, _, _, e7⟩
    · have HWL : Hid (WayL f y s0 pre) := by
        have := HWY.out [] e1
        rw [List.append_nil] at this
        exact this
      rw [e1]
      have t0 := (HT.out wr hb).cell s0 hs
      rw [HTO.out] at t0
      have hsi : (s0 : Int) < N := by omega
      obtain ⟨va, vn, vc, rfl, hvn, _⟩ := (ownsRow_ints (xs := pre) hown).lenOf
      have HVN : Hid (pre.length = vn) := hvn
      clear e1 hvn
      go_wp2
      go_region_held3 (fun wx => wx.cell? ⟨w.heap.size, 1, none⟩ = some (.int .i64 s0) ∧ wx.cell? ⟨gc, s0, none⟩ = some (.int .i64 x)) (exact ⟨drew_cell q1, drew_cell t0⟩) (fail)
      go_wp2
      exact bodyPost_ret (v := .tuple #[.slice va vn vc, .int .i64 x, .int .i64 0]) (by simp [results, Try.results44, go_sem]) rfl ⟨va, vn, vc, pre, y, r, rfl, (ownsRow_ints (xs := pre) hown).below (bel_self wr).drew, HVN.out, HBK.out, HWL.out, bel_on (bel_on hb3 hb) (bel_self wr).drew⟩
    · obtain ⟨p1, p2⟩ := (HOK.out.arcs a (List.mem_of_getElem? e2)).2.1
      obtain ⟨t, ht⟩ : ∃ t : Nat, a.dst = t := ⟨a.dst.toNat, by omega⟩
      have htN : t < N := by omega
      rw [ht, Int.toNat_natCast] at e7
      have hjm : j < m := by
        have := HAL.out
        have h2 := List.getElem?_eq_some_iff.1 e2
        obtain ⟨h3, _⟩ := h2
        omega
      have HAJ : Hid (f.arcs.getD j a0 = a) := (by simp [List.getD, e2] : f.arcs.getD j a0 = a)
      have HE : Hid (gI y s = j ∧ f.arcs[j]? = some a ∧ a.src = s ∧ a.dst = t ∧ r t < r s) := ⟨e1, e2, e3, ht, e7⟩
      obtain ⟨ab, aoff, haa, _⟩ := (HA.out wr hb).some (by omega)
      subst haa
      rw [e1]
      have hji : (j : Int) < m := by omega
      have hti : (t : Int) < N := by omega
      have hjb : ((j : Int) != -1) = true := by
        rw [bne_iff_ne]
        omega
      have hsz := hb.size
      clear e1 e2 e3 ht e7 p1 p2
      go_wp2_with (at_builtin; refine wpList_append_own _ rfl _ _ 22 rfl w3.heap.size 3 i0 (.int .i64 0) 1 8 Try.underlying22 hi hz0 hz1 hz2 rfl (by decide) _ _ _ rfl (hown.alloc _) ⟨wr.heap.size, 0, none⟩ 1 1 [.int .i64 (j : Int)] rfl rfl (cells_new _ #[.int .i64 (j : Int)] 3 wr.heap.size rfl) (ints_ones [(j : Int)]) (by unfold maxLen; omega) (by omega) (by simp; omega) ?_; intro v' w4 hown' hgrow _; have hb4 : Below w3.heap.size w3 w4 := (bel_up hb _).grown hgrow (by simp; omega) (fun g hg => own_base hown g hg); obtain ⟨k0, k1, k2, k3⟩ := HC.out w4 hb4; obtain ⟨ab', aoff', haa, hx⟩ := (HA.out w4 hb4).some (by omega); cases haa; have c3 := hx.c3 j hjm; rw [HAJ.out, HE.out.2.2.2.1] at c3; have y0 := (HY.out w4 hb4).cell t htN; clear hx hgrow)
      go_roundw
      case rel =>
        obtain ⟨h1, h2, h3, h4, h5⟩ := HE.out
        obtain ⟨g1, g2, g3⟩ := HVS.out
        refine ⟨pre ++ [(j : Int)], s :: vs, t, htN, rfl, by simpa using hown', hb4, fun l hl => ?_, by simp [g1], ?_, ?_⟩
        · have := HWY.out ((j : Int) :: l) ⟨j, a, rfl, h1, h2, h3, by rw [h4, Int.toNat_natCast]; exact hl⟩
          simpa using this
        · rw [List.nodup_cons]
          refine ⟨fun hm => ?_, g2⟩
          rcases List.mem_cons.1 hm with e | hm
          · rw [e] at h5; omega
          · have := (g3 t hm).2; omega
        · intro u hu
          rcases List.mem_cons.1 hu with rfl | hu
          · exact ⟨hsN, h5⟩
          · have := g3 u hu
            exact ⟨this.1, by omega⟩
      case measure =>
        obtain ⟨G, cap, rfl⟩ := Go.Joins.ownsRow_form hown' (by omega)
        obtain ⟨va, vn, vc, rfl, hvn, _⟩ := (ownsRow_ints (xs := pre) hown).lenOf
        simp only [lenV]
        omega

end Go.Proofs.Yteehgcbjmdideaa
