/- The document's 'ScoreOf', where 'Costs' is known. -/
import Derived.Test.YteehgcbjmdideaaQMG
namespace Go.Proofs.Yteehgcbjmdideaa
open Go.RowKit
attribute [local go_sem ↓] Go.wp_at_zero Go.wp_at_succ

/-- what 'Costs' answers: the last row of its tables -/
def CostsEnd (w : World) (f : FstD) (ins outs : List Int) (N s0 il ol : Nat) (e : Ending) (w' : World) : Prop :=
  ∃ c T tc H hc G gc, e = .returned (.slice (some ⟨T, 0, none⟩) (il + 1) tc) ∧ w'.cell? ⟨T, il, none⟩ = some (.slice (some ⟨H, 0, none⟩) (ol + 1) hc) ∧ w'.cell? ⟨H, ol, none⟩ = some (.slice (some ⟨G, 0, none⟩) N gc) ∧ NumsAt w' G N (segL c N (ins.length * (outs.length + 1) + outs.length)) ∧
    c.length = totS ins outs N ∧ Ach (EdS f ins outs N) (bgS s0 (totS ins outs N)) c ∧ LeC c (bgS s0 (totS ins outs N)) ∧ Fix (EdS f ins outs N) c ∧ (∀ v, gI c v ≤ 400001000000000) ∧ Below w.heap.size w w'

def CostsTell : Prop :=
  ∀ (f : FstD) (ins outs : List Int) (N s0 G0 cap0 : Nat) (fin : Value) (aa : Option Addr) (m ac : Nat) (ia : Option Addr) (il ic : Nat) (oa : Option Addr) (ol oc : Nat) (w : World), OkW f ins outs N s0 → (∀ a ∈ f.arcs, (0 ≤ a.inp ∧ a.inp ≤ 9) ∧ (0 ≤ a.out ∧ a.out ≤ 9)) → ASlice w (.slice aa m ac) f.arcs → f.arcs.length = m → ISlice w (.slice ia il ic) ins → ins.length = il → ISlice w (.slice oa ol oc) outs → outs.length = ol → NumsAt w G0 N (begL (s0 : Int) N) →
    Calls Try.prog 52 #[.agg #[.int .i64 (N : Int), .int .i64 (s0 : Int), fin, .slice aa m ac], .slice (some ⟨G0, 0, none⟩) N cap0, .slice ia il ic, .slice oa ol oc] w fun e w' => CostsEnd w f ins outs N s0 il ol e w'

theorem row_nums {w : World} {B e g n cap : Nat} {xs : List Int} (h : w.ownsRow B e 1 (.slice (some ⟨g, 0, none⟩) n cap) n (intsW xs)) (hl : xs.length = n) : NumsAt w g n xs := by
  have hx : intsW xs = xs.map (Value.int .i64) := by simp [intsW]
  have h' := h.2
  rcases h' with ⟨h0, _⟩ | ⟨g', cap', cur, hv, hg, hb, h1, h2, h3, h4⟩
  · cases h0
  · cases hv
    refine ⟨hl, fun i hi => ?_, fun i => Go.Joins.unfrozen_of_block hb i, heap_lt hb⟩
    have := h.cellAt i (by omega)
    rw [this]
    simp [hx, gI, List.getD, show i < xs.length by omega]

set_option maxHeartbeats 2000000 in
set_option maxRecDepth 100000 in
theorem scoreOf_ok (HC : CostsTell) (f : FstD) (ins outs : List Int) (N s0 : Nat) (fa : Option Addr) (fn fc : Nat) (aa : Option Addr) (m ac : Nat) (ia : Option Addr) (il ic : Nat) (oa : Option Addr) (ol oc : Nat) (w : World) (hok : OkW f ins outs N s0) (hlet : ∀ a ∈ f.arcs, (0 ≤ a.inp ∧ a.inp ≤ 9) ∧ (0 ≤ a.out ∧ a.out ≤ 9)) (hf : ISlice w (.slice fa fn fc) f.final) (ha : ASlice w (.slice aa m ac) f.arcs) (hal : f.arcs.length = m) (hI : ISlice w (.slice ia il ic) ins) (hil : ins.length = il) (hO : ISlice w (.slice oa ol oc) outs) (hol : outs.length = ol) (x : Int) (hx : IsBest (EdS f ins outs N) (bgS s0 (totS ins outs N)) (finS (totS ins outs N) N f.final) x) :
    Calls Try.prog 12 #[.agg #[.int .i64 (N : Int), .int .i64 (s0 : Int), .slice fa fn fc, .slice aa m ac], .slice ia il ic, .slice oa ol oc] w fun e w' => e = .returned (.int .i64 x) ∧ Below w.heap.size w w' := by
  have hN1 := hok.n1
  have hN2 := hok.n2
  have hi40 := hok.i40
  have ho40 := hok.o40
  have hfn : fn = N := by
    obtain ⟨_, _, _, he, hl, _⟩ := hf.lenOf
    injection he with q1 q2 q3
    rw [q2, ← hl, hok.len]
  subst hfn
  obtain ⟨fb, fo, rfl, hfx⟩ := hf.some (by omega)
  have hb0 := bel_up (bel_self w) (.cells #[.int .i64 (fn : Int), .int .i64 (s0 : Int), .slice (some ⟨fb, fo, none⟩) fn fc, .slice aa m ac] 25)
  obtain ⟨Wd, hWd⟩ : ∃ Wd, Wd = (w.alloc (.cells #[.int .i64 (fn : Int), .int .i64 (s0 : Int), .slice (some ⟨fb, fo, none⟩) fn fc, .slice aa m ac] 25)).drew := ⟨_, rfl⟩
  have hbd : Below w.heap.size w Wd := by rw [hWd]; exact hb0.drew
  have x0 : Wd.cell? ⟨w.heap.size, 0, none⟩ = some (.int .i64 (fn : Int)) := by rw [hWd]; exact drew_cell (new_cell _ _ _ _ 0 _ rfl rfl)
  have x1 : Wd.cell? ⟨w.heap.size, 1, none⟩ = some (.int .i64 (s0 : Int)) := by rw [hWd]; exact drew_cell (new_cell _ _ _ _ 1 _ rfl rfl)
  have x2 : Wd.cell? ⟨w.heap.size, 2, none⟩ = some (.slice (some ⟨fb, fo, none⟩) fn fc) := by rw [hWd]; exact drew_cell (new_cell _ _ _ _ 2 _ rfl rfl)
  have x3 : Wd.cell? ⟨w.heap.size, 3, none⟩ = some (.slice aa m ac) := by rw [hWd]; exact drew_cell (new_cell _ _ _ _ 3 _ rfl rfl)
  have hS0 : (fun wx : World => wx.cell? ⟨w.heap.size, 0, none⟩ = some (.int .i64 (fn : Int)) ∧ wx.cell? ⟨w.heap.size, 1, none⟩ = some (.int .i64 (s0 : Int)) ∧ wx.cell? ⟨w.heap.size, 2, none⟩ = some (.slice (some ⟨fb, fo, none⟩) fn fc) ∧ wx.cell? ⟨w.heap.size, 3, none⟩ = some (.slice aa m ac)) Wd := ⟨x0, x1, x2, x3⟩
  have HSB : Hid (∀ wx : World, Below Wd.heap.size Wd wx → (fun wx : World => wx.cell? ⟨w.heap.size, 0, none⟩ = some (.int .i64 (fn : Int)) ∧ wx.cell? ⟨w.heap.size, 1, none⟩ = some (.int .i64 (s0 : Int)) ∧ wx.cell? ⟨w.heap.size, 2, none⟩ = some (.slice (some ⟨fb, fo, none⟩) fn fc) ∧ wx.cell? ⟨w.heap.size, 3, none⟩ = some (.slice aa m ac)) wx) := fun wx h => ⟨bel_c h x0, bel_c h x1, bel_c h x2, bel_c h x3⟩
  have HW : Hid (Wd = (w.alloc (.cells #[.int .i64 (fn : Int), .int .i64 (s0 : Int), .slice (some ⟨fb, fo, none⟩) fn fc, .slice aa m ac] 25)).drew) := hWd
  have HCO : Hid (∀ G0 cap0 W, Below w.heap.size w W → NumsAt W G0 fn (begL (s0 : Int) fn) → Calls Try.prog 52 #[.agg #[.int .i64 (fn : Int), .int .i64 (s0 : Int), .slice (some ⟨fb, fo, none⟩) fn fc, .slice aa m ac], .slice (some ⟨G0, 0, none⟩) fn cap0, .slice ia il ic, .slice oa ol oc] W fun e w' => CostsEnd W f ins outs fn s0 il ol e w') := fun G0 cap0 W hb hg => HC f ins outs fn s0 G0 cap0 _ aa m ac ia il ic oa ol oc W hok hlet (ha.below hb) hal (hI.below hb) hil (hO.below hb) hol hg
  have HFX : Hid (∀ W, Below w.heap.size w W → IntsAt W fb fo fn f.final) := fun W hb => hfx.below hb
  have HFH : Hid (∀ v, gI f.final v ≤ 1000000000) := fun v => by
    unfold gI
    rcases Nat.lt_or_ge v f.final.length with h | h
    · simp only [List.getD, List.getElem?_eq_getElem h, Option.getD_some]
      have := hok.fin _ (List.getElem_mem h)
      omega
    · simp only [List.getD, List.getElem?_eq_none h, Option.getD_none]
      decide
  have HX : Hid (∀ c, c.length = totS ins outs fn → Ach (EdS f ins outs fn) (bgS s0 (totS ins outs fn)) c → LeC c (bgS s0 (totS ins outs fn)) → Fix (EdS f ins outs fn) c → endD (segL c fn (ins.length * (outs.length + 1) + outs.length)) f.final fn = x) := fun c h1 h2 h3 h4 => (doc_best h1 h2 h3 h4).unique hx
  clear hok hal hWd hb0 x0 x1 x2 x3 HC hlet ha hI hO hil hol hx hf hfx
  go_enter Try.func12, Try.ntmps12
  go_wp2
  refine wp_region_noPanic ?_
  refine wp_region_F (fun wx => wx.cell? ⟨w.heap.size, 0, none⟩ = some (.int .i64 (fn : Int)) ∧ wx.cell? ⟨w.heap.size, 1, none⟩ = some (.int .i64 (s0 : Int)) ∧ wx.cell? ⟨w.heap.size, 2, none⟩ = some (.slice (some ⟨fb, fo, none⟩) fn fc) ∧ wx.cell? ⟨w.heap.size, 3, none⟩ = some (.slice aa m ac)) [] (by kernel_rfl) (by rw [← HW.out]; exact hS0) (fun _ => ?_)
  rw [← HW.out]
  clear HW
  refine wpAnyF_take (i := 0) (v := .agg #[.int .i64 (fn : Int), .int .i64 (s0 : Int), .slice (some ⟨fb, fo, none⟩) fn fc, .slice aa m ac]) rfl (by kernel_rfl) (by kernel_rfl) (by kernel_rfl) (by kernel_rfl) (fun _ _ _ h => h) (Or.inl ⟨by rfl, fun wl hSw => ?_⟩) hS0 ?_
  · (try dsimp only at hSw); go_simp
  refine wpAnyF_take (i := 1) (v := .agg #[.int .i64 (fn : Int), .int .i64 (s0 : Int), .slice (some ⟨fb, fo, none⟩) fn fc, .slice aa m ac]) rfl (by kernel_rfl) (by kernel_rfl) (by kernel_rfl) (by kernel_rfl) (fun _ _ _ h => h) (Or.inl ⟨by rfl, fun wl hSw => ?_⟩) hS0 ?_
  · (try dsimp only at hSw); go_simp
  refine wpAnyF_free (i := 3) (v := .slice ia il ic) rfl (by kernel_rfl) (by kernel_rfl) (by kernel_rfl) (by kernel_rfl) (fun _ _ _ h => h) (Or.inl ⟨by rfl, fun wl hSw => ?_⟩) hS0 ?_
  · (try dsimp only at hSw); go_simp
  refine wpAnyF_free (i := 4) (v := .slice oa ol oc) rfl (by kernel_rfl) (by kernel_rfl) (by kernel_rfl) (by kernel_rfl) (fun _ _ _ h => h) (Or.inl ⟨by rfl, fun wl hSw => ?_⟩) hS0 ?_
  · (try dsimp only at hSw); go_simp
  refine wpAnyF_one (i := 2) rfl (by kernel_rfl) (fun K hK => ?_)
  go_simp
  refine (begunRef_any fn (s0 : Int) (.slice (some ⟨fb, fo, none⟩) fn fc) (.slice aa m ac) _ hN2).mono ?_
  rintro e w1 ⟨v, rfl, hown, hb1⟩
  obtain ⟨G0, cap0, rfl⟩ := Go.Joins.ownsRow_form hown (by omega)
  have hg0 := row_nums hown (begL_len _ _)
  refine hK.out _ _ ⟨fun _ => HSB.out _ hb1, ?_⟩
  clear hK K hown
  refine wpAnyF_one (i := 5) rfl (by kernel_rfl) (fun K hK => ?_)
  go_simp
  refine (HCO.out G0 cap0 w1 (bel_on hbd hb1) hg0).mono ?_
  rintro e w2 ⟨c, T, tc, H, hc, G, gc, rfl, k1, k2, k3, k4, k5, k6, k7, k8, hb2⟩
  have hb12 := bel_on hb1 hb2
  have hbw2 := bel_on hbd hb12
  have HXE : Hid (endD (segL c fn (ins.length * (outs.length + 1) + outs.length)) f.final fn = x) := HX.out c k4 k5 k6 k7
  have HK8 : Hid (∀ v, gI (segL c fn (ins.length * (outs.length + 1) + outs.length)) v ≤ 400001000000000) := fun v => by
    rcases Nat.lt_or_ge v fn with h | h
    · rw [segL_at _ _ _ _ h]; exact k8 _
    · rw [out_gI _ _ (by rw [k3.len]; exact h)]; decide
  have hS2 := HSB.out _ hb12
  refine hK.out _ _ ⟨fun _ => hS2, ?_⟩
  clear hK K hg0 k4 k5 k6 k7 k8 HX HCO hb1 hb2 hS0
  refine wpAnyF_one (i := 6) rfl (by kernel_rfl) (fun K hK => ?_)
  go_simp
  refine hK.out _ _ ⟨fun _ => hS2, ?_⟩
  clear hK K
  refine wpAnyF_done (by kernel_rfl) ?_ _
  refine NoPanic.normal ?_
  go_wp2
  obtain ⟨W3, hW3⟩ : ∃ W3, W3 = w2.drew := ⟨_, rfl⟩
  have hb23 : Below w2.heap.size w2 W3 := by rw [hW3]; exact (bel_self w2).drew
  have hS3 : (fun wx : World => (wx.cell? ⟨w.heap.size, 0, none⟩ = some (.int .i64 (fn : Int)) ∧ wx.cell? ⟨w.heap.size, 1, none⟩ = some (.int .i64 (s0 : Int)) ∧ wx.cell? ⟨w.heap.size, 2, none⟩ = some (.slice (some ⟨fb, fo, none⟩) fn fc) ∧ wx.cell? ⟨w.heap.size, 3, none⟩ = some (.slice aa m ac)) ∧ wx.cell? ⟨T, il, none⟩ = some (.slice (some ⟨H, 0, none⟩) (ol + 1) hc) ∧ wx.cell? ⟨H, ol, none⟩ = some (.slice (some ⟨G, 0, none⟩) fn gc)) W3 := ⟨HSB.out _ (bel_on hb12 hb23), bel_c hb23 k1, bel_c hb23 k2⟩
  have hend := ended_any f fn G gc fb fo fc (s0 : Int) (.slice aa m ac) _ W3 hN2 (k3.below hb23) ((HFX.out _ hbw2).below hb23) HK8.out HFH.out
  rw [HXE.out] at hend
  have hili : (il : Int) < il + 1 := by omega
  have holi : (ol : Int) < ol + 1 := by omega
  refine wp_region_noPanic ?_
  refine wp_region_F (fun wx : World => (wx.cell? ⟨w.heap.size, 0, none⟩ = some (.int .i64 (fn : Int)) ∧ wx.cell? ⟨w.heap.size, 1, none⟩ = some (.int .i64 (s0 : Int)) ∧ wx.cell? ⟨w.heap.size, 2, none⟩ = some (.slice (some ⟨fb, fo, none⟩) fn fc) ∧ wx.cell? ⟨w.heap.size, 3, none⟩ = some (.slice aa m ac)) ∧ wx.cell? ⟨T, il, none⟩ = some (.slice (some ⟨H, 0, none⟩) (ol + 1) hc) ∧ wx.cell? ⟨H, ol, none⟩ = some (.slice (some ⟨G, 0, none⟩) fn gc)) [] (by kernel_rfl) (by rw [← hW3]; exact hS3) (fun _ => ?_)
  rw [← hW3]
  clear hW3
  refine wpAnyF_take (i := 0) (v := .agg #[.int .i64 (fn : Int), .int .i64 (s0 : Int), .slice (some ⟨fb, fo, none⟩) fn fc, .slice aa m ac]) rfl (by kernel_rfl) (by kernel_rfl) (by kernel_rfl) (by kernel_rfl) (fun _ _ _ h => h) (Or.inl ⟨by rfl, fun wl hSw => ?_⟩) hS3 ?_
  · (try dsimp only at hSw); go_simp
  refine wpAnyF_free (i := 1) (v := .slice (some ⟨T, 0, none⟩) (il + 1) tc) rfl (by kernel_rfl) (by kernel_rfl) (by kernel_rfl) (by kernel_rfl) (fun _ _ _ h => h) (Or.inl ⟨by rfl, fun wl hSw => ?_⟩) hS3 ?_
  · (try dsimp only at hSw); go_simp
  refine wpAnyF_free (i := 2) (v := .slice ia il ic) rfl (by kernel_rfl) (by kernel_rfl) (by kernel_rfl) (by kernel_rfl) (fun _ _ _ h => h) (Or.inl ⟨by rfl, fun wl hSw => ?_⟩) hS3 ?_
  · (try dsimp only at hSw); go_simp
  refine wpAnyF_free (i := 3) (v := .int .i64 il) rfl (by kernel_rfl) (by kernel_rfl) (by kernel_rfl) (by kernel_rfl) (fun _ _ _ h => h) (Or.inl ⟨by rfl, fun wl hSw => ?_⟩) hS3 ?_
  · (try dsimp only at hSw); go_simp
  refine wpAnyF_free (i := 4) (v := .pointer (some ⟨T, il, none⟩)) rfl (by kernel_rfl) (by kernel_rfl) (by kernel_rfl) (by kernel_rfl) (fun _ _ _ h => h) (Or.inl ⟨by rfl, fun wl hSw => ?_⟩) hS3 ?_
  · (try dsimp only at hSw); go_simp
  refine wpAnyF_take (i := 5) (v := .slice (some ⟨H, 0, none⟩) (ol + 1) hc) rfl (by kernel_rfl) (by kernel_rfl) (by kernel_rfl) (by kernel_rfl) (fun _ _ _ h => h) (Or.inl ⟨by rfl, fun wl hSw => ?_⟩) hS3 ?_
  · (try dsimp only at hSw); go_simp
  refine wpAnyF_free (i := 6) (v := .slice oa ol oc) rfl (by kernel_rfl) (by kernel_rfl) (by kernel_rfl) (by kernel_rfl) (fun _ _ _ h => h) (Or.inl ⟨by rfl, fun wl hSw => ?_⟩) hS3 ?_
  · (try dsimp only at hSw); go_simp
  refine wpAnyF_free (i := 7) (v := .int .i64 ol) rfl (by kernel_rfl) (by kernel_rfl) (by kernel_rfl) (by kernel_rfl) (fun _ _ _ h => h) (Or.inl ⟨by rfl, fun wl hSw => ?_⟩) hS3 ?_
  · (try dsimp only at hSw); go_simp
  refine wpAnyF_free (i := 8) (v := .pointer (some ⟨H, ol, none⟩)) rfl (by kernel_rfl) (by kernel_rfl) (by kernel_rfl) (by kernel_rfl) (fun _ _ _ h => h) (Or.inl ⟨by rfl, fun wl hSw => ?_⟩) hS3 ?_
  · (try dsimp only at hSw); go_simp
  refine wpAnyF_take (i := 9) (v := .slice (some ⟨G, 0, none⟩) fn gc) rfl (by kernel_rfl) (by kernel_rfl) (by kernel_rfl) (by kernel_rfl) (fun _ _ _ h => h) (Or.inl ⟨by rfl, fun wl hSw => ?_⟩) hS3 ?_
  · (try dsimp only at hSw); go_simp
  refine wpAnyF_one (i := 10) rfl (by kernel_rfl) (fun K hK => ?_)
  go_simp
  refine hend.mono ?_
  rintro e w4 ⟨rfl, hb4⟩
  have hS4 := (⟨HSB.out _ (bel_on (bel_on hb12 hb23) hb4), bel_c hb4 hS3.2.1, bel_c hb4 hS3.2.2⟩ : (fun wx : World => (wx.cell? ⟨w.heap.size, 0, none⟩ = some (.int .i64 (fn : Int)) ∧ wx.cell? ⟨w.heap.size, 1, none⟩ = some (.int .i64 (s0 : Int)) ∧ wx.cell? ⟨w.heap.size, 2, none⟩ = some (.slice (some ⟨fb, fo, none⟩) fn fc) ∧ wx.cell? ⟨w.heap.size, 3, none⟩ = some (.slice aa m ac)) ∧ wx.cell? ⟨T, il, none⟩ = some (.slice (some ⟨H, 0, none⟩) (ol + 1) hc) ∧ wx.cell? ⟨H, ol, none⟩ = some (.slice (some ⟨G, 0, none⟩) fn gc)) w4)
  refine hK.out _ _ ⟨fun _ => hS4, ?_⟩
  clear hK K
  refine wpAnyF_one (i := 11) rfl (by kernel_rfl) (fun K hK => ?_)
  go_simp
  refine hK.out _ _ ⟨fun _ => hS4, ?_⟩
  clear hK K
  refine wpAnyF_done (by kernel_rfl) ?_ _
  refine NoPanic.normal ?_
  go_wp2
  go_ret
  exact ⟨rfl, bel_on (bel_on hbw2 hb23) hb4⟩
end Go.Proofs.Yteehgcbjmdideaa
