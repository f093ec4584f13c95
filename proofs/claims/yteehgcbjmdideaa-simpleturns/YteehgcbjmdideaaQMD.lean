/- The search in memory. -/
import Derived.Test.YteehgcbjmdideaaQPpP
import Derived.Test.YteehgcbjmdideaaQMC
import Derived.Test.YteehgcbjmdideaaQMA
import Derived.Deep.QuietTactic
import Derived.BigQuiet
namespace Go.Proofs.Yteehgcbjmdideaa
open Go.RowKit
attribute [local go_sem ↓] Go.wp_at_zero Go.wp_at_succ

theorem NumsAt.block {w w' : World} {g n : Nat} {c : List Int} (h : NumsAt w g n c) (hb : w'.heap[g]? = w.heap[g]?) (hl : g < w'.heap.size) : NumsAt w' g n c :=
  ⟨h.len, fun i hi => (World.cell?_of_block (w := w) (a := ⟨g, i, none⟩) hb).trans (h.cell i hi), fun i => (World.frozen?_of_block (w := w) (a := ⟨g, i, none⟩) hb).trans (h.frz i), hl⟩

structure SW (w0 w : World) (N s0 B Mb Fb : Nat) (fin arcs iv ov v : Value) (fl : List Int) (ms : List MetD) (L : List PlD) : Prop where
  c0 : w.cell? ⟨B, 0, none⟩ = some (.int .i64 N)
  c1 : w.cell? ⟨B, 1, none⟩ = some (.int .i64 s0)
  c2 : w.cell? ⟨B, 2, none⟩ = some fin
  c3 : w.cell? ⟨B, 3, none⟩ = some arcs
  c4 : w.cell? ⟨B, 4, none⟩ = some iv
  c5 : w.cell? ⟨B, 5, none⟩ = some ov
  c6 : w.cell? ⟨B, 6, none⟩ = some (.slice (some ⟨Fb, 0, none⟩) (N + 1) (N + 1))
  c7 : w.cell? ⟨B, 7, none⟩ = some (.map (some Mb))
  q : QAt w0.heap.size B w v L
  first : NumsAt w Fb (N + 1) fl
  met : MetAt w Mb ms
  BM : B ≠ Mb
  BF : B ≠ Fb
  MF : Mb ≠ Fb
  vM : v.ownBlock ≠ some Mb
  vF : v.ownBlock ≠ some Fb
  gB : w0.heap.size ≤ B
  gM : w0.heap.size ≤ Mb
  gF : w0.heap.size ≤ Fb
  bel : Below w0.heap.size w0 w
  hp : HeapL PlD.cost p0 L L.length

section
variable {w0 w w' : World} {N s0 B Mb Fb : Nat} {fin arcs iv ov v v' : Value} {fl : List Int} {ms ms' : List MetD} {L L' : List PlD}

theorem SW.below (h : SW w0 w N s0 B Mb Fb fin arcs iv ov v fl ms L) (hb : Below w.heap.size w w') : SW w0 w' N s0 B Mb Fb fin arcs iv ov v fl ms L :=
  ⟨bel_c hb h.c0, bel_c hb h.c1, bel_c hb h.c2, bel_c hb h.c3, bel_c hb h.c4, bel_c hb h.c5, bel_c hb h.c6, bel_c hb h.c7, h.q.bel hb, h.first.below hb, h.met.block (hb.block Mb h.met.lt), h.BM, h.BF, h.MF, h.vM, h.vF, h.gB, h.gM, h.gF, bel_on h.bel hb, h.hp⟩

theorem SW.step (h : SW w0 w N s0 B Mb Fb fin arcs iv ov v fl ms L) (hs : QStep B w v w' v') (hq : QAt w0.heap.size B w' v' L') (hh : HeapL PlD.cost p0 L' L'.length) : SW w0 w' N s0 B Mb Fb fin arcs iv ov v' fl ms L' := by
  have hM := h.met.lt
  have hF := h.first.lt
  refine ⟨(hs.cell 0 (by decide)).trans h.c0, (hs.cell 1 (by decide)).trans h.c1, (hs.cell 2 (by decide)).trans h.c2, (hs.cell 3 (by decide)).trans h.c3, (hs.cell 4 (by decide)).trans h.c4, (hs.cell 5 (by decide)).trans h.c5, (hs.cell 6 (by decide)).trans h.c6, (hs.cell 7 (by decide)).trans h.c7, hq, h.first.block (hs.block Fb hF (Ne.symm h.BF) h.vF) (Nat.lt_of_lt_of_le hF hs.size), h.met.block (hs.block Mb hM (Ne.symm h.BM) h.vM), h.BM, h.BF, h.MF, fun e => ?_, fun e => ?_, h.gB, h.gM, h.gF, hs.below h.bel h.bel.size h.gB (fun g hg => own_base h.q.row g hg), hh⟩
  · rcases hs.own _ e with e | e
    · exact h.vM e
    · omega
  · rcases hs.own _ e with e | e
    · exact h.vF e
    · omega

theorem SW.put (h : SW w0 w N s0 B Mb Fb fin arcs iv ov v fl ms L) (hg : w.grownBy w' (some Mb)) (hm : MetAt w' Mb ms') : SW w0 w' N s0 B Mb Fb fin arcs iv ov v fl ms' L := by
  have hB := cell_lt h.c0
  have hne : some B ≠ some Mb := fun e => h.BM (by injection e)
  have hF := h.first.lt
  have hc : ∀ k u, w.cell? ⟨B, k, none⟩ = some u → w'.cell? ⟨B, k, none⟩ = some u := fun k u hk => (hg.cell_far ⟨B, k, none⟩ hB hne).trans hk
  refine ⟨hc 0 _ h.c0, hc 1 _ h.c1, hc 2 _ h.c2, hc 3 _ h.c3, hc 4 _ h.c4, hc 5 _ h.c5, hc 6 _ h.c6, hc 7 _ h.c7, ⟨hc 8 _ h.q.cell, (hg.frozen_far ⟨B, 8, none⟩ hB hne).trans h.q.frz, h.q.row.kept hg (Or.inr h.vM), h.q.ne, Nat.le_trans h.q.base_le hg.size⟩, h.first.block (hg.block Fb hF (fun e => h.MF (by injection e with e; exact e.symm))) (Nat.lt_of_lt_of_le hF hg.size), hm, h.BM, h.BF, h.MF, h.vM, h.vF, h.gB, h.gM, h.gF, h.bel.grown hg h.bel.size (fun k hk => by injection hk with hk; have := h.gM; omega), h.hp⟩
end

/-- nothing but the search's own blocks is changed -/
structure MStep (B Mb : Nat) (w : World) (v : Value) (w' : World) (v' : Value) : Prop where
  size : w.heap.size ≤ w'.heap.size
  block : ∀ b, b < w.heap.size → b ≠ B → b ≠ Mb → v.ownBlock ≠ some b → w'.heap[b]? = w.heap[b]?
  own : ∀ g, v'.ownBlock = some g → v.ownBlock = some g ∨ w.heap.size ≤ g

section
variable {B Mb : Nat} {w w' w'' : World} {v v' v'' : Value}
theorem MStep.trans (h : MStep B Mb w v w' v') (k : MStep B Mb w' v' w'' v'') : MStep B Mb w v w'' v'' :=
  ⟨Nat.le_trans h.size k.size, fun b hb hB hM hv => (k.block b (Nat.lt_of_lt_of_le hb h.size) hB hM (fun e => by
      rcases h.own b e with e | e
      · exact hv e
      · omega)).trans (h.block b hb hB hM hv), fun g hg => by
      rcases k.own g hg with e | e
      · exact h.own g e
      · exact Or.inr (Nat.le_trans h.size e)⟩
theorem MStep.bel (h : Below w.heap.size w w') : MStep B Mb w v w' v := ⟨h.size, fun b hb _ _ _ => h.block b hb, fun _ hg => Or.inl hg⟩
theorem MStep.que (h : QStep B w v w' v') : MStep B Mb w v w' v' := ⟨h.size, fun b hb hB _ hv => h.block b hb hB hv, h.own⟩
theorem MStep.map (h : w.grownBy w' (some Mb)) : MStep B Mb w v w' v := ⟨h.size, fun b hb _ hM _ => h.block b hb (fun e => hM (by injection e)), fun _ hg => Or.inl hg⟩
theorem MStep.cell (h : MStep B Mb w v w' v') {b k : Nat} {u : Value} (hc : w.cell? ⟨b, k, none⟩ = some u) (hB : b ≠ B) (hM : b ≠ Mb) (hv : v.ownBlock ≠ some b) : w'.cell? ⟨b, k, none⟩ = some u :=
  (World.cell?_of_block (w := w) (a := ⟨b, k, none⟩) (h.block b (cell_lt hc) hB hM hv)).trans hc
end

end Go.Proofs.Yteehgcbjmdideaa

/- 'meet' of the search. -/
namespace Go.Proofs.Yteehgcbjmdideaa
open Go.RowKit
attribute [local go_sem ↓] Go.wp_at_zero Go.wp_at_succ

theorem look_agg {w : World} {b : Nat} {ms : List MetD} {n i o : Nat} {c' a' : Int} {ok : Bool} (h : MetAt w b ms) (hf : foundV (lookM n i o ms) = stepV c' a') (ho : (lookM n i o ms).isSome = ok) : (Instr.lookup 133 (.map (some b)) (.agg #[.int .i64 n, .int .i64 i, .int .i64 o]) true).run Try.prog w = .ok (.tuple #[.agg #[.int .i64 c', .int .i64 a'], .bool ok]) w := by
  have := look_ok h n i o
  rw [hf, ho] at this
  exact this
set_option maxHeartbeats 1000000 in
set_option maxRecDepth 100000 in
theorem meet_no (w0 : World) (N s0 B Mb Fb : Nat) (fin arcs iv ov v : Value) (fl : List Int) (ms : List MetD) (L : List PlD) (n i o : Nat) (x a c' a' : Int) (w : World) (h : SW w0 w N s0 B Mb Fb fin arcs iv ov v fl ms L) (hc : c' ≤ x) (hf : foundV (lookM n i o ms) = stepV c' a') (ho : (lookM n i o ms).isSome = true) :
    Calls Try.prog 131 #[.pointer (some ⟨B, 0, none⟩), spotV n i o, stepV x a] w fun e w' => e = .returned (.tuple #[]) ∧ SW w0 w' N s0 B Mb Fb fin arcs iv ov v fl ms L ∧ MStep B Mb w v w' v := by
  unfold spotV stepV
  have hb1 := bel_up (bel_up (bel_self w) (.cells #[.int .i64 (n : Int), .int .i64 (i : Int), .int .i64 (o : Int)] 108)) (.cells #[.int .i64 x, .int .i64 a] 140)
  obtain ⟨Wd, hWd⟩ : ∃ Wd, Wd = ((w.alloc (.cells #[.int .i64 (n : Int), .int .i64 (i : Int), .int .i64 (o : Int)] 108)).alloc (.cells #[.int .i64 x, .int .i64 a] 140)).drew := ⟨_, rfl⟩
  have hbd : Below w.heap.size w Wd := by rw [hWd]; exact hb1.drew
  have hSd := h.below hbd
  have b0 : Wd.cell? ⟨w.heap.size, 0, none⟩ = some (.int .i64 n) := by rw [hWd]; exact drew_cell (old_cell (new_cell _ _ _ _ 0 _ rfl rfl))
  have b1 : Wd.cell? ⟨w.heap.size, 1, none⟩ = some (.int .i64 i) := by rw [hWd]; exact drew_cell (old_cell (new_cell _ _ _ _ 1 _ rfl rfl))
  have b2 : Wd.cell? ⟨w.heap.size, 2, none⟩ = some (.int .i64 o) := by rw [hWd]; exact drew_cell (old_cell (new_cell _ _ _ _ 2 _ rfl rfl))
  have d0 : Wd.cell? ⟨w.heap.size + 1, 0, none⟩ = some (.int .i64 x) := by rw [hWd]; exact drew_cell (new_cell _ _ _ _ 0 _ (by simp) rfl)
  have d1 : Wd.cell? ⟨w.heap.size + 1, 1, none⟩ = some (.int .i64 a) := by rw [hWd]; exact drew_cell (new_cell _ _ _ _ 1 _ (by simp) rfl)
  have hdl : w.heap.size + 1 < Wd.heap.size := cell_lt d0
  have hS0 : (fun wx : World => wx.cell? ⟨B, 7, none⟩ = some (.map (some Mb)) ∧ wx.cell? ⟨w.heap.size, 0, none⟩ = some (.int .i64 n) ∧ wx.cell? ⟨w.heap.size, 1, none⟩ = some (.int .i64 i) ∧ wx.cell? ⟨w.heap.size, 2, none⟩ = some (.int .i64 o) ∧ MetAt wx Mb ms) Wd := ⟨hSd.c7, b0, b1, b2, hSd.met⟩
  have HF : Hid (foundV (lookM n i o ms) = stepV c' a') := hf
  have HO : Hid ((lookM n i o ms).isSome = true) := ho
  have hBl := cell_lt h.c0
  clear hf ho hb1
  go_enter Try.func131, Try.ntmps131
  go_wp2
  refine wp_region_noPanic ?_
  refine wp_region_F (fun wx => wx.cell? ⟨B, 7, none⟩ = some (.map (some Mb)) ∧ wx.cell? ⟨w.heap.size, 0, none⟩ = some (.int .i64 n) ∧ wx.cell? ⟨w.heap.size, 1, none⟩ = some (.int .i64 i) ∧ wx.cell? ⟨w.heap.size, 2, none⟩ = some (.int .i64 o) ∧ MetAt wx Mb ms) [10] (by kernel_rfl) (by rw [← hWd]; exact hS0) (fun _ => ?_)
  rw [← hWd]
  clear hWd
  refine wpAnyF_free (i := 0) (v := .pointer (some ⟨B, 0, none⟩)) rfl (by kernel_rfl) (by kernel_rfl) (by kernel_rfl) (by kernel_rfl) (fun _ _ _ h => h) (Or.inl ⟨by rfl, fun wl hSw => ?_⟩) hS0 ?_
  · (try dsimp only at hSw); go_simp
  refine wpAnyF_free (i := 1) (v := .pointer (some ⟨B, 0, none⟩)) rfl (by kernel_rfl) (by kernel_rfl) (by kernel_rfl) (by kernel_rfl) (fun _ _ _ h => h) (Or.inl ⟨by rfl, fun wl hSw => ?_⟩) hS0 ?_
  · (try dsimp only at hSw); go_simp
  refine wpAnyF_free (i := 2) (v := .pointer (some ⟨B, 7, none⟩)) rfl (by kernel_rfl) (by kernel_rfl) (by kernel_rfl) (by kernel_rfl) (fun _ _ _ h => h) (Or.inl ⟨by rfl, fun wl hSw => ?_⟩) hS0 ?_
  · (try dsimp only at hSw); go_simp
  refine wpAnyF_take (i := 3) (v := .map (some Mb)) rfl (by kernel_rfl) (by kernel_rfl) (by kernel_rfl) (by kernel_rfl) (fun _ _ _ h => h) (Or.inl ⟨by rfl, fun wl hSw => ?_⟩) hS0 ?_
  · (try dsimp only at hSw); go_simp
  refine wpAnyF_take (i := 4) (v := .agg #[.int .i64 n, .int .i64 i, .int .i64 o]) rfl (by kernel_rfl) (by kernel_rfl) (by kernel_rfl) (by kernel_rfl) (fun _ _ _ h => h) (Or.inl ⟨by rfl, fun wl hSw => ?_⟩) hS0 ?_
  · (try dsimp only at hSw); go_simp
  refine wpAnyF_take (i := 5) (v := .tuple #[.agg #[.int .i64 c', .int .i64 a'], .bool true]) rfl (by kernel_rfl) (by kernel_rfl) (by kernel_rfl) (by kernel_rfl) (fun _ _ _ h => h) (Or.inl ⟨by rfl, fun wl hSw => ?_⟩) hS0 ?_
  · (try dsimp only at hSw); go_simp; rw [look_agg hSw.2.2.2.2 HF.out HO.out]; rfl
  refine wpAnyF_free (i := 6) (v := .tuple #[.agg #[.int .i64 c', .int .i64 a'], .bool true]) rfl (by kernel_rfl) (by kernel_rfl) (by kernel_rfl) (by kernel_rfl) (fun _ _ _ h => h) (Or.inl ⟨by rfl, fun wl hSw => ?_⟩) hS0 ?_
  · (try dsimp only at hSw); go_simp
  refine wpAnyF_free (i := 7) (v := .agg #[.int .i64 c', .int .i64 a']) rfl (by kernel_rfl) (by kernel_rfl) (by kernel_rfl) (by kernel_rfl) (fun _ _ _ h => h) (Or.inl ⟨by rfl, fun wl hSw => ?_⟩) hS0 ?_
  · (try dsimp only at hSw); go_simp
  refine wpAnyF_free (i := 8) (v := .bool true) rfl (by kernel_rfl) (by kernel_rfl) (by kernel_rfl) (by kernel_rfl) (fun _ _ _ h => h) (Or.inl ⟨by rfl, fun wl hSw => ?_⟩) hS0 ?_
  · (try dsimp only at hSw); go_simp
  have hbZ := bel_up (bel_self Wd) (.cells #[.int .i64 0, .int .i64 0] 140)
  refine wpAnyF_one (i := 9) rfl (by kernel_rfl) (fun K hK => ?_)
  go_simp
  refine hK.out _ _ ⟨fun _ => ⟨bel_c hbZ hSd.c7, bel_c hbZ b0, bel_c hbZ b1, bel_c hbZ b2, hSd.met.block (hbZ.block Mb hSd.met.lt)⟩, ?_⟩
  clear hK K
  refine wpAnyF_one (i := 10) rfl (by kernel_rfl) (fun K hK => ?_)
  go_simp
  refine hK.out _ _ ⟨fun h => absurd h (unl_no (by kernel_rfl)), ?_⟩
  clear hK K
  refine wpAnyF_one (i := 11) rfl (by kernel_rfl) (fun K hK => ?_)
  go_simp
  refine hK.out _ _ ⟨fun h => absurd h (unl_no (by kernel_rfl)), ?_⟩
  clear hK K
  refine wpAnyF_done (by kernel_rfl) ?_ _
  refine NoPanic.normal ?_
  have hbA := bel_up (bel_self Wd) (.cells #[.int .i64 c', .int .i64 a'] 140)
  have e0 : (Wd.alloc (.cells #[.int .i64 c', .int .i64 a'] 140)).cell? ⟨w.heap.size + 1, 0, none⟩ = some (.int .i64 x) := bel_c hbA d0
  have hSe := hSd.below hbA
  clear hbZ hS0
  go_wp2
  first | go_end0 | refine bodyPost_ret (results_none rfl _ _ _) rfl ?_
  exact ⟨rfl, hSe, MStep.bel (bel_on hbd hbA)⟩
set_option maxHeartbeats 1000000 in
set_option maxRecDepth 100000 in
theorem meet_new (w0 : World) (N s0 B Mb Fb : Nat) (fin arcs iv ov v : Value) (fl : List Int) (ms : List MetD) (L : List PlD) (n i o : Nat) (x a c' a' : Int) (w : World) (h : SW w0 w N s0 B Mb Fb fin arcs iv ov v fl ms L) (hN : L.length ≤ 3000000000) (hf : foundV (lookM n i o ms) = stepV c' a') (ho : (lookM n i o ms).isSome = false) :
    Calls Try.prog 131 #[.pointer (some ⟨B, 0, none⟩), spotV n i o, stepV x a] w fun e w' => e = .returned (.tuple #[]) ∧ ∃ v' L', SW w0 w' N s0 B Mb Fb fin arcs iv ov v' fl (putM ⟨n, i, o, x, a⟩ ms) L' ∧ L'.Perm (⟨n, i, o, x⟩ :: L) ∧ MStep B Mb w v w' v' := by
  unfold spotV stepV
  have hb1 := bel_up (bel_up (bel_self w) (.cells #[.int .i64 (n : Int), .int .i64 (i : Int), .int .i64 (o : Int)] 108)) (.cells #[.int .i64 x, .int .i64 a] 140)
  obtain ⟨Wd, hWd⟩ : ∃ Wd, Wd = ((w.alloc (.cells #[.int .i64 (n : Int), .int .i64 (i : Int), .int .i64 (o : Int)] 108)).alloc (.cells #[.int .i64 x, .int .i64 a] 140)).drew := ⟨_, rfl⟩
  have hbd : Below w.heap.size w Wd := by rw [hWd]; exact hb1.drew
  have hSd := h.below hbd
  have b0 : Wd.cell? ⟨w.heap.size, 0, none⟩ = some (.int .i64 n) := by rw [hWd]; exact drew_cell (old_cell (new_cell _ _ _ _ 0 _ rfl rfl))
  have b1 : Wd.cell? ⟨w.heap.size, 1, none⟩ = some (.int .i64 i) := by rw [hWd]; exact drew_cell (old_cell (new_cell _ _ _ _ 1 _ rfl rfl))
  have b2 : Wd.cell? ⟨w.heap.size, 2, none⟩ = some (.int .i64 o) := by rw [hWd]; exact drew_cell (old_cell (new_cell _ _ _ _ 2 _ rfl rfl))
  have d0 : Wd.cell? ⟨w.heap.size + 1, 0, none⟩ = some (.int .i64 x) := by rw [hWd]; exact drew_cell (new_cell _ _ _ _ 0 _ (by simp) rfl)
  have d1 : Wd.cell? ⟨w.heap.size + 1, 1, none⟩ = some (.int .i64 a) := by rw [hWd]; exact drew_cell (new_cell _ _ _ _ 1 _ (by simp) rfl)
  have hdl : w.heap.size + 1 < Wd.heap.size := cell_lt d0
  have hS0 : (fun wx : World => wx.cell? ⟨B, 7, none⟩ = some (.map (some Mb)) ∧ wx.cell? ⟨w.heap.size, 0, none⟩ = some (.int .i64 n) ∧ wx.cell? ⟨w.heap.size, 1, none⟩ = some (.int .i64 i) ∧ wx.cell? ⟨w.heap.size, 2, none⟩ = some (.int .i64 o) ∧ MetAt wx Mb ms) Wd := ⟨hSd.c7, b0, b1, b2, hSd.met⟩
  have HF : Hid (foundV (lookM n i o ms) = stepV c' a') := hf
  have HO : Hid ((lookM n i o ms).isSome = false) := ho
  have hBl := cell_lt h.c0
  clear hf ho hb1
  go_enter Try.func131, Try.ntmps131
  go_wp2
  refine wp_region_noPanic ?_
  refine wp_region_F (fun wx => wx.cell? ⟨B, 7, none⟩ = some (.map (some Mb)) ∧ wx.cell? ⟨w.heap.size, 0, none⟩ = some (.int .i64 n) ∧ wx.cell? ⟨w.heap.size, 1, none⟩ = some (.int .i64 i) ∧ wx.cell? ⟨w.heap.size, 2, none⟩ = some (.int .i64 o) ∧ MetAt wx Mb ms) [10] (by kernel_rfl) (by rw [← hWd]; exact hS0) (fun _ => ?_)
  rw [← hWd]
  clear hWd
  refine wpAnyF_free (i := 0) (v := .pointer (some ⟨B, 0, none⟩)) rfl (by kernel_rfl) (by kernel_rfl) (by kernel_rfl) (by kernel_rfl) (fun _ _ _ h => h) (Or.inl ⟨by rfl, fun wl hSw => ?_⟩) hS0 ?_
  · (try dsimp only at hSw); go_simp
  refine wpAnyF_free (i := 1) (v := .pointer (some ⟨B, 0, none⟩)) rfl (by kernel_rfl) (by kernel_rfl) (by kernel_rfl) (by kernel_rfl) (fun _ _ _ h => h) (Or.inl ⟨by rfl, fun wl hSw => ?_⟩) hS0 ?_
  · (try dsimp only at hSw); go_simp
  refine wpAnyF_free (i := 2) (v := .pointer (some ⟨B, 7, none⟩)) rfl (by kernel_rfl) (by kernel_rfl) (by kernel_rfl) (by kernel_rfl) (fun _ _ _ h => h) (Or.inl ⟨by rfl, fun wl hSw => ?_⟩) hS0 ?_
  · (try dsimp only at hSw); go_simp
  refine wpAnyF_take (i := 3) (v := .map (some Mb)) rfl (by kernel_rfl) (by kernel_rfl) (by kernel_rfl) (by kernel_rfl) (fun _ _ _ h => h) (Or.inl ⟨by rfl, fun wl hSw => ?_⟩) hS0 ?_
  · (try dsimp only at hSw); go_simp
  refine wpAnyF_take (i := 4) (v := .agg #[.int .i64 n, .int .i64 i, .int .i64 o]) rfl (by kernel_rfl) (by kernel_rfl) (by kernel_rfl) (by kernel_rfl) (fun _ _ _ h => h) (Or.inl ⟨by rfl, fun wl hSw => ?_⟩) hS0 ?_
  · (try dsimp only at hSw); go_simp
  refine wpAnyF_take (i := 5) (v := .tuple #[.agg #[.int .i64 c', .int .i64 a'], .bool false]) rfl (by kernel_rfl) (by kernel_rfl) (by kernel_rfl) (by kernel_rfl) (fun _ _ _ h => h) (Or.inl ⟨by rfl, fun wl hSw => ?_⟩) hS0 ?_
  · (try dsimp only at hSw); go_simp; rw [look_agg hSw.2.2.2.2 HF.out HO.out]; rfl
  refine wpAnyF_free (i := 6) (v := .tuple #[.agg #[.int .i64 c', .int .i64 a'], .bool false]) rfl (by kernel_rfl) (by kernel_rfl) (by kernel_rfl) (by kernel_rfl) (fun _ _ _ h => h) (Or.inl ⟨by rfl, fun wl hSw => ?_⟩) hS0 ?_
  · (try dsimp only at hSw); go_simp
  refine wpAnyF_free (i := 7) (v := .agg #[.int .i64 c', .int .i64 a']) rfl (by kernel_rfl) (by kernel_rfl) (by kernel_rfl) (by kernel_rfl) (fun _ _ _ h => h) (Or.inl ⟨by rfl, fun wl hSw => ?_⟩) hS0 ?_
  · (try dsimp only at hSw); go_simp
  refine wpAnyF_free (i := 8) (v := .bool false) rfl (by kernel_rfl) (by kernel_rfl) (by kernel_rfl) (by kernel_rfl) (fun _ _ _ h => h) (Or.inl ⟨by rfl, fun wl hSw => ?_⟩) hS0 ?_
  · (try dsimp only at hSw); go_simp
  have hbZ := bel_up (bel_self Wd) (.cells #[.int .i64 0, .int .i64 0] 140)
  refine wpAnyF_one (i := 9) rfl (by kernel_rfl) (fun K hK => ?_)
  go_simp
  refine hK.out _ _ ⟨fun _ => ⟨bel_c hbZ hSd.c7, bel_c hbZ b0, bel_c hbZ b1, bel_c hbZ b2, hSd.met.block (hbZ.block Mb hSd.met.lt)⟩, ?_⟩
  clear hK K
  refine wpAnyF_one (i := 10) rfl (by kernel_rfl) (fun K hK => ?_)
  go_simp
  refine hK.out _ _ ⟨fun h => absurd h (unl_no (by kernel_rfl)), ?_⟩
  clear hK K
  refine wpAnyF_one (i := 11) rfl (by kernel_rfl) (fun K hK => ?_)
  go_simp
  refine hK.out _ _ ⟨fun h => absurd h (unl_no (by kernel_rfl)), ?_⟩
  clear hK K
  refine wpAnyF_done (by kernel_rfl) ?_ _
  refine NoPanic.normal ?_
  have hbA := bel_up (bel_self Wd) (.cells #[.int .i64 c', .int .i64 a'] 140)
  have e0 : (Wd.alloc (.cells #[.int .i64 c', .int .i64 a'] 140)).cell? ⟨w.heap.size + 1, 0, none⟩ = some (.int .i64 x) := bel_c hbA d0
  have hSe := hSd.below hbA
  clear hbZ hS0
  go_wp2
  obtain ⟨We, hWe⟩ : ∃ We, We = (Wd.alloc (.cells #[.int .i64 c', .int .i64 a'] 140)).drew := ⟨_, rfl⟩
  have hbE : Below Wd.heap.size Wd We := by rw [hWe]; exact hbA.drew
  have hSf := hSd.below hbE
  have hS3 : (fun wx : World => wx.cell? ⟨B, 7, none⟩ = some (.map (some Mb)) ∧ wx.cell? ⟨w.heap.size, 0, none⟩ = some (.int .i64 n) ∧ wx.cell? ⟨w.heap.size, 1, none⟩ = some (.int .i64 i) ∧ wx.cell? ⟨w.heap.size, 2, none⟩ = some (.int .i64 o) ∧ wx.cell? ⟨w.heap.size + 1, 0, none⟩ = some (.int .i64 x) ∧ wx.cell? ⟨w.heap.size + 1, 1, none⟩ = some (.int .i64 a)) We := ⟨hSf.c7, bel_c hbE b0, bel_c hbE b1, bel_c hbE b2, bel_c hbE d0, bel_c hbE d1⟩
  obtain ⟨W4, hrun, hmet4, hgrow⟩ := put_ok hSf.met n i o x a
  unfold spotV stepV at hrun
  have HR : Hid ((Instr.mapUpdate 133 (.map (some Mb)) (.agg #[.int .i64 n, .int .i64 i, .int .i64 o]) (.agg #[.int .i64 x, .int .i64 a])).run Try.prog We = .ok () W4) := hrun
  have hS4 := hSf.put hgrow hmet4
  have hne : ∀ k u, w.heap.size ≤ k → k ≤ w.heap.size + 1 → ∀ j, We.cell? ⟨k, j, none⟩ = some u → W4.cell? ⟨k, j, none⟩ = some u := fun k u h1 h2 j hk => (hgrow.cell_far ⟨k, j, none⟩ (cell_lt hk) (fun e => by injection e with e; have e' : k = Mb := e; have := h.met.lt; omega)).trans hk
  clear hrun hSe e0
  refine wp_region_noPanic ?_
  refine wp_region_F (fun wx => wx.cell? ⟨B, 7, none⟩ = some (.map (some Mb)) ∧ wx.cell? ⟨w.heap.size, 0, none⟩ = some (.int .i64 n) ∧ wx.cell? ⟨w.heap.size, 1, none⟩ = some (.int .i64 i) ∧ wx.cell? ⟨w.heap.size, 2, none⟩ = some (.int .i64 o) ∧ wx.cell? ⟨w.heap.size + 1, 0, none⟩ = some (.int .i64 x) ∧ wx.cell? ⟨w.heap.size + 1, 1, none⟩ = some (.int .i64 a)) [6] (by kernel_rfl) (by rw [← hWe]; exact hS3) (fun _ => ?_)
  rw [← hWe]
  clear hWe
  refine wpAnyF_free (i := 0) (v := .pointer (some ⟨B, 0, none⟩)) rfl (by kernel_rfl) (by kernel_rfl) (by kernel_rfl) (by kernel_rfl) (fun _ _ _ h => h) (Or.inl ⟨by rfl, fun wl hSw => ?_⟩) hS3 ?_
  · (try dsimp only at hSw); go_simp
  refine wpAnyF_free (i := 1) (v := .pointer (some ⟨B, 0, none⟩)) rfl (by kernel_rfl) (by kernel_rfl) (by kernel_rfl) (by kernel_rfl) (fun _ _ _ h => h) (Or.inl ⟨by rfl, fun wl hSw => ?_⟩) hS3 ?_
  · (try dsimp only at hSw); go_simp
  refine wpAnyF_free (i := 2) (v := .pointer (some ⟨B, 7, none⟩)) rfl (by kernel_rfl) (by kernel_rfl) (by kernel_rfl) (by kernel_rfl) (fun _ _ _ h => h) (Or.inl ⟨by rfl, fun wl hSw => ?_⟩) hS3 ?_
  · (try dsimp only at hSw); go_simp
  refine wpAnyF_take (i := 3) (v := .map (some Mb)) rfl (by kernel_rfl) (by kernel_rfl) (by kernel_rfl) (by kernel_rfl) (fun _ _ _ h => h) (Or.inl ⟨by rfl, fun wl hSw => ?_⟩) hS3 ?_
  · (try dsimp only at hSw); go_simp
  refine wpAnyF_take (i := 4) (v := .agg #[.int .i64 n, .int .i64 i, .int .i64 o]) rfl (by kernel_rfl) (by kernel_rfl) (by kernel_rfl) (by kernel_rfl) (fun _ _ _ h => h) (Or.inl ⟨by rfl, fun wl hSw => ?_⟩) hS3 ?_
  · (try dsimp only at hSw); go_simp
  refine wpAnyF_take (i := 5) (v := .agg #[.int .i64 x, .int .i64 a]) rfl (by kernel_rfl) (by kernel_rfl) (by kernel_rfl) (by kernel_rfl) (fun _ _ _ h => h) (Or.inl ⟨by rfl, fun wl hSw => ?_⟩) hS3 ?_
  · (try dsimp only at hSw); go_simp
  refine wpAnyF_one (i := 6) rfl (by kernel_rfl) (fun K hK => ?_)
  have hrun := HR.out
  go_simp
  refine hK.out _ _ ⟨fun h => absurd h (unl_no (by kernel_rfl)), ?_⟩
  clear hK K hrun HR
  refine wpAnyF_done (by kernel_rfl) ?_ _
  refine NoPanic.normal ?_
  go_wp2
  obtain ⟨Wg, hWg⟩ : ∃ Wg, Wg = W4.drew := ⟨_, rfl⟩
  have hbG : Below W4.heap.size W4 Wg := by rw [hWg]; exact (bel_self W4).drew
  have hSg := hS4.below hbG
  have g0 := bel_c hbG (hne w.heap.size _ (by omega) (by omega) 0 (bel_c hbE b0))
  have g1 := bel_c hbG (hne w.heap.size _ (by omega) (by omega) 1 (bel_c hbE b1))
  have g2 := bel_c hbG (hne w.heap.size _ (by omega) (by omega) 2 (bel_c hbE b2))
  have g3 := bel_c hbG (hne (w.heap.size + 1) _ (by omega) (by omega) 0 (bel_c hbE d0))
  have hS5 : (fun wx : World => wx.cell? ⟨w.heap.size, 0, none⟩ = some (.int .i64 n) ∧ wx.cell? ⟨w.heap.size, 1, none⟩ = some (.int .i64 i) ∧ wx.cell? ⟨w.heap.size, 2, none⟩ = some (.int .i64 o) ∧ wx.cell? ⟨w.heap.size + 1, 0, none⟩ = some (.int .i64 x)) Wg := ⟨g0, g1, g2, g3⟩
  clear hS3 b0 b1 b2 d0 d1
  refine wp_region_noPanic ?_
  refine wp_region_F (fun wx => wx.cell? ⟨w.heap.size, 0, none⟩ = some (.int .i64 n) ∧ wx.cell? ⟨w.heap.size, 1, none⟩ = some (.int .i64 i) ∧ wx.cell? ⟨w.heap.size, 2, none⟩ = some (.int .i64 o) ∧ wx.cell? ⟨w.heap.size + 1, 0, none⟩ = some (.int .i64 x)) [] (by kernel_rfl) (by rw [← hWg]; exact hS5) (fun _ => ?_)
  rw [← hWg]
  clear hWg
  refine wpAnyF_free (i := 0) (v := .pointer (some ⟨B, 0, none⟩)) rfl (by kernel_rfl) (by kernel_rfl) (by kernel_rfl) (by kernel_rfl) (fun _ _ _ h => h) (Or.inl ⟨by rfl, fun wl hSw => ?_⟩) hS5 ?_
  · (try dsimp only at hSw); go_simp
  refine wpAnyF_free (i := 1) (v := .pointer (some ⟨B, 0, none⟩)) rfl (by kernel_rfl) (by kernel_rfl) (by kernel_rfl) (by kernel_rfl) (fun _ _ _ h => h) (Or.inl ⟨by rfl, fun wl hSw => ?_⟩) hS5 ?_
  · (try dsimp only at hSw); go_simp
  refine wpAnyF_free (i := 2) (v := .pointer (some ⟨B, 8, none⟩)) rfl (by kernel_rfl) (by kernel_rfl) (by kernel_rfl) (by kernel_rfl) (fun _ _ _ h => h) (Or.inl ⟨by rfl, fun wl hSw => ?_⟩) hS5 ?_
  · (try dsimp only at hSw); go_simp
  refine wpAnyF_free (i := 3) (v := .iface 145 (.pointer (some ⟨B, 8, none⟩))) rfl (by kernel_rfl) (by kernel_rfl) (by kernel_rfl) (by kernel_rfl) (fun _ _ _ h => h) (Or.inl ⟨by rfl, fun wl hSw => ?_⟩) hS5 ?_
  · (try dsimp only at hSw); go_simp
  refine wpAnyF_take (i := 4) (v := .agg #[.int .i64 n, .int .i64 i, .int .i64 o]) rfl (by kernel_rfl) (by kernel_rfl) (by kernel_rfl) (by kernel_rfl) (fun _ _ _ h => h) (Or.inl ⟨by rfl, fun wl hSw => ?_⟩) hS5 ?_
  · (try dsimp only at hSw); go_simp
  refine wpAnyF_free (i := 5) (v := .pointer (some ⟨w.heap.size + 1, 0, none⟩)) rfl (by kernel_rfl) (by kernel_rfl) (by kernel_rfl) (by kernel_rfl) (fun _ _ _ h => h) (Or.inl ⟨by rfl, fun wl hSw => ?_⟩) hS5 ?_
  · (try dsimp only at hSw); go_simp
  refine wpAnyF_take (i := 6) (v := .int .i64 x) rfl (by kernel_rfl) (by kernel_rfl) (by kernel_rfl) (by kernel_rfl) (fun _ _ _ h => h) (Or.inl ⟨by rfl, fun wl hSw => ?_⟩) hS5 ?_
  · (try dsimp only at hSw); go_simp
  refine wpAnyF_free (i := 7) (v := .agg #[.int .i64 n, .int .i64 i, .int .i64 o, .int .i64 x]) rfl (by kernel_rfl) (by kernel_rfl) (by kernel_rfl) (by kernel_rfl) (fun _ _ _ h => h) (Or.inl ⟨by rfl, fun wl hSw => ?_⟩) hS5 ?_
  · (try dsimp only at hSw); go_simp
  refine wpAnyF_free (i := 8) (v := .iface 143 (.agg #[.int .i64 n, .int .i64 i, .int .i64 o, .int .i64 x])) rfl (by kernel_rfl) (by kernel_rfl) (by kernel_rfl) (by kernel_rfl) (fun _ _ _ h => h) (Or.inl ⟨by rfl, fun wl hSw => ?_⟩) hS5 ?_
  · (try dsimp only at hSw); go_simp
  refine wpAnyF_one (i := 9) rfl (by kernel_rfl) (fun K hK => ?_)
  go_simp
  refine (hpush_any B w0.heap.size v L ⟨n, i, o, x⟩ Wg hSg.q hN hSg.hp).mono ?_
  rintro e W5 ⟨rfl, v5, L5, r1, r2, r3, r4⟩
  have hk5 : ∀ k u, w.heap.size ≤ k → ∀ j, Wg.cell? ⟨k, j, none⟩ = some u → W5.cell? ⟨k, j, none⟩ = some u := fun k u h1 j hk => (World.cell?_of_block (w := Wg) (a := ⟨k, j, none⟩) (r4.block k (cell_lt hk) (by omega) (fun e => by have := ownsRow_lt0 h.q.row _ e; omega))).trans hk
  refine hK.out _ _ ⟨fun _ => ⟨hk5 _ _ (by omega) 0 g0, hk5 _ _ (by omega) 1 g1, hk5 _ _ (by omega) 2 g2, hk5 _ _ (by omega) 0 g3⟩, ?_⟩
  clear hK K
  refine wpAnyF_done (by kernel_rfl) ?_ _
  refine NoPanic.normal ?_
  go_wp2
  go_end0
  exact ⟨rfl, v5, L5, hSg.step r4 r3 r2, r1, (((MStep.bel (bel_on hbd hbE)).trans (MStep.map hgrow)).trans (MStep.bel hbG)).trans (MStep.que r4)⟩
set_option maxHeartbeats 1000000 in
set_option maxRecDepth 100000 in
theorem meet_less (w0 : World) (N s0 B Mb Fb : Nat) (fin arcs iv ov v : Value) (fl : List Int) (ms : List MetD) (L : List PlD) (n i o : Nat) (x a c' a' : Int) (w : World) (h : SW w0 w N s0 B Mb Fb fin arcs iv ov v fl ms L) (hN : L.length ≤ 3000000000) (hc : x < c') (hf : foundV (lookM n i o ms) = stepV c' a') (ho : (lookM n i o ms).isSome = true) :
    Calls Try.prog 131 #[.pointer (some ⟨B, 0, none⟩), spotV n i o, stepV x a] w fun e w' => e = .returned (.tuple #[]) ∧ ∃ v' L', SW w0 w' N s0 B Mb Fb fin arcs iv ov v' fl (putM ⟨n, i, o, x, a⟩ ms) L' ∧ L'.Perm (⟨n, i, o, x⟩ :: L) ∧ MStep B Mb w v w' v' := by
  unfold spotV stepV
  have hb1 := bel_up (bel_up (bel_self w) (.cells #[.int .i64 (n : Int), .int .i64 (i : Int), .int .i64 (o : Int)] 108)) (.cells #[.int .i64 x, .int .i64 a] 140)
  obtain ⟨Wd, hWd⟩ : ∃ Wd, Wd = ((w.alloc (.cells #[.int .i64 (n : Int), .int .i64 (i : Int), .int .i64 (o : Int)] 108)).alloc (.cells #[.int .i64 x, .int .i64 a] 140)).drew := ⟨_, rfl⟩
  have hbd : Below w.heap.size w Wd := by rw [hWd]; exact hb1.drew
  have hSd := h.below hbd
  have b0 : Wd.cell? ⟨w.heap.size, 0, none⟩ = some (.int .i64 n) := by rw [hWd]; exact drew_cell (old_cell (new_cell _ _ _ _ 0 _ rfl rfl))
  have b1 : Wd.cell? ⟨w.heap.size, 1, none⟩ = some (.int .i64 i) := by rw [hWd]; exact drew_cell (old_cell (new_cell _ _ _ _ 1 _ rfl rfl))
  have b2 : Wd.cell? ⟨w.heap.size, 2, none⟩ = some (.int .i64 o) := by rw [hWd]; exact drew_cell (old_cell (new_cell _ _ _ _ 2 _ rfl rfl))
  have d0 : Wd.cell? ⟨w.heap.size + 1, 0, none⟩ = some (.int .i64 x) := by rw [hWd]; exact drew_cell (new_cell _ _ _ _ 0 _ (by simp) rfl)
  have d1 : Wd.cell? ⟨w.heap.size + 1, 1, none⟩ = some (.int .i64 a) := by rw [hWd]; exact drew_cell (new_cell _ _ _ _ 1 _ (by simp) rfl)
  have hdl : w.heap.size + 1 < Wd.heap.size := cell_lt d0
  have hS0 : (fun wx : World => wx.cell? ⟨B, 7, none⟩ = some (.map (some Mb)) ∧ wx.cell? ⟨w.heap.size, 0, none⟩ = some (.int .i64 n) ∧ wx.cell? ⟨w.heap.size, 1, none⟩ = some (.int .i64 i) ∧ wx.cell? ⟨w.heap.size, 2, none⟩ = some (.int .i64 o) ∧ MetAt wx Mb ms) Wd := ⟨hSd.c7, b0, b1, b2, hSd.met⟩
  have HF : Hid (foundV (lookM n i o ms) = stepV c' a') := hf
  have HO : Hid ((lookM n i o ms).isSome = true) := ho
  have hBl := cell_lt h.c0
  clear hf ho hb1
  go_enter Try.func131, Try.ntmps131
  go_wp2
  refine wp_region_noPanic ?_
  refine wp_region_F (fun wx => wx.cell? ⟨B, 7, none⟩ = some (.map (some Mb)) ∧ wx.cell? ⟨w.heap.size, 0, none⟩ = some (.int .i64 n) ∧ wx.cell? ⟨w.heap.size, 1, none⟩ = some (.int .i64 i) ∧ wx.cell? ⟨w.heap.size, 2, none⟩ = some (.int .i64 o) ∧ MetAt wx Mb ms) [10] (by kernel_rfl) (by rw [← hWd]; exact hS0) (fun _ => ?_)
  rw [← hWd]
  clear hWd
  refine wpAnyF_free (i := 0) (v := .pointer (some ⟨B, 0, none⟩)) rfl (by kernel_rfl) (by kernel_rfl) (by kernel_rfl) (by kernel_rfl) (fun _ _ _ h => h) (Or.inl ⟨by rfl, fun wl hSw => ?_⟩) hS0 ?_
  · (try dsimp only at hSw); go_simp
  refine wpAnyF_free (i := 1) (v := .pointer (some ⟨B, 0, none⟩)) rfl (by kernel_rfl) (by kernel_rfl) (by kernel_rfl) (by kernel_rfl) (fun _ _ _ h => h) (Or.inl ⟨by rfl, fun wl hSw => ?_⟩) hS0 ?_
  · (try dsimp only at hSw); go_simp
  refine wpAnyF_free (i := 2) (v := .pointer (some ⟨B, 7, none⟩)) rfl (by kernel_rfl) (by kernel_rfl) (by kernel_rfl) (by kernel_rfl) (fun _ _ _ h => h) (Or.inl ⟨by rfl, fun wl hSw => ?_⟩) hS0 ?_
  · (try dsimp only at hSw); go_simp
  refine wpAnyF_take (i := 3) (v := .map (some Mb)) rfl (by kernel_rfl) (by kernel_rfl) (by kernel_rfl) (by kernel_rfl) (fun _ _ _ h => h) (Or.inl ⟨by rfl, fun wl hSw => ?_⟩) hS0 ?_
  · (try dsimp only at hSw); go_simp
  refine wpAnyF_take (i := 4) (v := .agg #[.int .i64 n, .int .i64 i, .int .i64 o]) rfl (by kernel_rfl) (by kernel_rfl) (by kernel_rfl) (by kernel_rfl) (fun _ _ _ h => h) (Or.inl ⟨by rfl, fun wl hSw => ?_⟩) hS0 ?_
  · (try dsimp only at hSw); go_simp
  refine wpAnyF_take (i := 5) (v := .tuple #[.agg #[.int .i64 c', .int .i64 a'], .bool true]) rfl (by kernel_rfl) (by kernel_rfl) (by kernel_rfl) (by kernel_rfl) (fun _ _ _ h => h) (Or.inl ⟨by rfl, fun wl hSw => ?_⟩) hS0 ?_
  · (try dsimp only at hSw); go_simp; rw [look_agg hSw.2.2.2.2 HF.out HO.out]; rfl
  refine wpAnyF_free (i := 6) (v := .tuple #[.agg #[.int .i64 c', .int .i64 a'], .bool true]) rfl (by kernel_rfl) (by kernel_rfl) (by kernel_rfl) (by kernel_rfl) (fun _ _ _ h => h) (Or.inl ⟨by rfl, fun wl hSw => ?_⟩) hS0 ?_
  · (try dsimp only at hSw); go_simp
  refine wpAnyF_free (i := 7) (v := .agg #[.int .i64 c', .int .i64 a']) rfl (by kernel_rfl) (by kernel_rfl) (by kernel_rfl) (by kernel_rfl) (fun _ _ _ h => h) (Or.inl ⟨by rfl, fun wl hSw => ?_⟩) hS0 ?_
  · (try dsimp only at hSw); go_simp
  refine wpAnyF_free (i := 8) (v := .bool true) rfl (by kernel_rfl) (by kernel_rfl) (by kernel_rfl) (by kernel_rfl) (fun _ _ _ h => h) (Or.inl ⟨by rfl, fun wl hSw => ?_⟩) hS0 ?_
  · (try dsimp only at hSw); go_simp
  have hbZ := bel_up (bel_self Wd) (.cells #[.int .i64 0, .int .i64 0] 140)
  refine wpAnyF_one (i := 9) rfl (by kernel_rfl) (fun K hK => ?_)
  go_simp
  refine hK.out _ _ ⟨fun _ => ⟨bel_c hbZ hSd.c7, bel_c hbZ b0, bel_c hbZ b1, bel_c hbZ b2, hSd.met.block (hbZ.block Mb hSd.met.lt)⟩, ?_⟩
  clear hK K
  refine wpAnyF_one (i := 10) rfl (by kernel_rfl) (fun K hK => ?_)
  go_simp
  refine hK.out _ _ ⟨fun h => absurd h (unl_no (by kernel_rfl)), ?_⟩
  clear hK K
  refine wpAnyF_one (i := 11) rfl (by kernel_rfl) (fun K hK => ?_)
  go_simp
  refine hK.out _ _ ⟨fun h => absurd h (unl_no (by kernel_rfl)), ?_⟩
  clear hK K
  refine wpAnyF_done (by kernel_rfl) ?_ _
  refine NoPanic.normal ?_
  have hbA := bel_up (bel_self Wd) (.cells #[.int .i64 c', .int .i64 a'] 140)
  have e0 : (Wd.alloc (.cells #[.int .i64 c', .int .i64 a'] 140)).cell? ⟨w.heap.size + 1, 0, none⟩ = some (.int .i64 x) := bel_c hbA d0
  have hSe := hSd.below hbA
  clear hbZ hS0
  go_wp2
  obtain ⟨We, hWe⟩ : ∃ We, We = (Wd.alloc (.cells #[.int .i64 c', .int .i64 a'] 140)).drew := ⟨_, rfl⟩
  have hbE : Below Wd.heap.size Wd We := by rw [hWe]; exact hbA.drew
  have hSf := hSd.below hbE
  have hS3 : (fun wx : World => wx.cell? ⟨B, 7, none⟩ = some (.map (some Mb)) ∧ wx.cell? ⟨w.heap.size, 0, none⟩ = some (.int .i64 n) ∧ wx.cell? ⟨w.heap.size, 1, none⟩ = some (.int .i64 i) ∧ wx.cell? ⟨w.heap.size, 2, none⟩ = some (.int .i64 o) ∧ wx.cell? ⟨w.heap.size + 1, 0, none⟩ = some (.int .i64 x) ∧ wx.cell? ⟨w.heap.size + 1, 1, none⟩ = some (.int .i64 a)) We := ⟨hSf.c7, bel_c hbE b0, bel_c hbE b1, bel_c hbE b2, bel_c hbE d0, bel_c hbE d1⟩
  obtain ⟨W4, hrun, hmet4, hgrow⟩ := put_ok hSf.met n i o x a
  unfold spotV stepV at hrun
  have HR : Hid ((Instr.mapUpdate 133 (.map (some Mb)) (.agg #[.int .i64 n, .int .i64 i, .int .i64 o]) (.agg #[.int .i64 x, .int .i64 a])).run Try.prog We = .ok () W4) := hrun
  have hS4 := hSf.put hgrow hmet4
  have hne : ∀ k u, w.heap.size ≤ k → k ≤ w.heap.size + 1 → ∀ j, We.cell? ⟨k, j, none⟩ = some u → W4.cell? ⟨k, j, none⟩ = some u := fun k u h1 h2 j hk => (hgrow.cell_far ⟨k, j, none⟩ (cell_lt hk) (fun e => by injection e with e; have e' : k = Mb := e; have := h.met.lt; omega)).trans hk
  clear hrun hSe e0
  refine wp_region_noPanic ?_
  refine wp_region_F (fun wx => wx.cell? ⟨B, 7, none⟩ = some (.map (some Mb)) ∧ wx.cell? ⟨w.heap.size, 0, none⟩ = some (.int .i64 n) ∧ wx.cell? ⟨w.heap.size, 1, none⟩ = some (.int .i64 i) ∧ wx.cell? ⟨w.heap.size, 2, none⟩ = some (.int .i64 o) ∧ wx.cell? ⟨w.heap.size + 1, 0, none⟩ = some (.int .i64 x) ∧ wx.cell? ⟨w.heap.size + 1, 1, none⟩ = some (.int .i64 a)) [6] (by kernel_rfl) (by rw [← hWe]; exact hS3) (fun _ => ?_)
  rw [← hWe]
  clear hWe
  refine wpAnyF_free (i := 0) (v := .pointer (some ⟨B, 0, none⟩)) rfl (by kernel_rfl) (by kernel_rfl) (by kernel_rfl) (by kernel_rfl) (fun _ _ _ h => h) (Or.inl ⟨by rfl, fun wl hSw => ?_⟩) hS3 ?_
  · (try dsimp only at hSw); go_simp
  refine wpAnyF_free (i := 1) (v := .pointer (some ⟨B, 0, none⟩)) rfl (by kernel_rfl) (by kernel_rfl) (by kernel_rfl) (by kernel_rfl) (fun _ _ _ h => h) (Or.inl ⟨by rfl, fun wl hSw => ?_⟩) hS3 ?_
  · (try dsimp only at hSw); go_simp
  refine wpAnyF_free (i := 2) (v := .pointer (some ⟨B, 7, none⟩)) rfl (by kernel_rfl) (by kernel_rfl) (by kernel_rfl) (by kernel_rfl) (fun _ _ _ h => h) (Or.inl ⟨by rfl, fun wl hSw => ?_⟩) hS3 ?_
  · (try dsimp only at hSw); go_simp
  refine wpAnyF_take (i := 3) (v := .map (some Mb)) rfl (by kernel_rfl) (by kernel_rfl) (by kernel_rfl) (by kernel_rfl) (fun _ _ _ h => h) (Or.inl ⟨by rfl, fun wl hSw => ?_⟩) hS3 ?_
  · (try dsimp only at hSw); go_simp
  refine wpAnyF_take (i := 4) (v := .agg #[.int .i64 n, .int .i64 i, .int .i64 o]) rfl (by kernel_rfl) (by kernel_rfl) (by kernel_rfl) (by kernel_rfl) (fun _ _ _ h => h) (Or.inl ⟨by rfl, fun wl hSw => ?_⟩) hS3 ?_
  · (try dsimp only at hSw); go_simp
  refine wpAnyF_take (i := 5) (v := .agg #[.int .i64 x, .int .i64 a]) rfl (by kernel_rfl) (by kernel_rfl) (by kernel_rfl) (by kernel_rfl) (fun _ _ _ h => h) (Or.inl ⟨by rfl, fun wl hSw => ?_⟩) hS3 ?_
  · (try dsimp only at hSw); go_simp
  refine wpAnyF_one (i := 6) rfl (by kernel_rfl) (fun K hK => ?_)
  have hrun := HR.out
  go_simp
  refine hK.out _ _ ⟨fun h => absurd h (unl_no (by kernel_rfl)), ?_⟩
  clear hK K hrun HR
  refine wpAnyF_done (by kernel_rfl) ?_ _
  refine NoPanic.normal ?_
  go_wp2
  obtain ⟨Wg, hWg⟩ : ∃ Wg, Wg = W4.drew := ⟨_, rfl⟩
  have hbG : Below W4.heap.size W4 Wg := by rw [hWg]; exact (bel_self W4).drew
  have hSg := hS4.below hbG
  have g0 := bel_c hbG (hne w.heap.size _ (by omega) (by omega) 0 (bel_c hbE b0))
  have g1 := bel_c hbG (hne w.heap.size _ (by omega) (by omega) 1 (bel_c hbE b1))
  have g2 := bel_c hbG (hne w.heap.size _ (by omega) (by omega) 2 (bel_c hbE b2))
  have g3 := bel_c hbG (hne (w.heap.size + 1) _ (by omega) (by omega) 0 (bel_c hbE d0))
  have hS5 : (fun wx : World => wx.cell? ⟨w.heap.size, 0, none⟩ = some (.int .i64 n) ∧ wx.cell? ⟨w.heap.size, 1, none⟩ = some (.int .i64 i) ∧ wx.cell? ⟨w.heap.size, 2, none⟩ = some (.int .i64 o) ∧ wx.cell? ⟨w.heap.size + 1, 0, none⟩ = some (.int .i64 x)) Wg := ⟨g0, g1, g2, g3⟩
  clear hS3 b0 b1 b2 d0 d1
  refine wp_region_noPanic ?_
  refine wp_region_F (fun wx => wx.cell? ⟨w.heap.size, 0, none⟩ = some (.int .i64 n) ∧ wx.cell? ⟨w.heap.size, 1, none⟩ = some (.int .i64 i) ∧ wx.cell? ⟨w.heap.size, 2, none⟩ = some (.int .i64 o) ∧ wx.cell? ⟨w.heap.size + 1, 0, none⟩ = some (.int .i64 x)) [] (by kernel_rfl) (by rw [← hWg]; exact hS5) (fun _ => ?_)
  rw [← hWg]
  clear hWg
  refine wpAnyF_free (i := 0) (v := .pointer (some ⟨B, 0, none⟩)) rfl (by kernel_rfl) (by kernel_rfl) (by kernel_rfl) (by kernel_rfl) (fun _ _ _ h => h) (Or.inl ⟨by rfl, fun wl hSw => ?_⟩) hS5 ?_
  · (try dsimp only at hSw); go_simp
  refine wpAnyF_free (i := 1) (v := .pointer (some ⟨B, 0, none⟩)) rfl (by kernel_rfl) (by kernel_rfl) (by kernel_rfl) (by kernel_rfl) (fun _ _ _ h => h) (Or.inl ⟨by rfl, fun wl hSw => ?_⟩) hS5 ?_
  · (try dsimp only at hSw); go_simp
  refine wpAnyF_free (i := 2) (v := .pointer (some ⟨B, 8, none⟩)) rfl (by kernel_rfl) (by kernel_rfl) (by kernel_rfl) (by kernel_rfl) (fun _ _ _ h => h) (Or.inl ⟨by rfl, fun wl hSw => ?_⟩) hS5 ?_
  · (try dsimp only at hSw); go_simp
  refine wpAnyF_free (i := 3) (v := .iface 145 (.pointer (some ⟨B, 8, none⟩))) rfl (by kernel_rfl) (by kernel_rfl) (by kernel_rfl) (by kernel_rfl) (fun _ _ _ h => h) (Or.inl ⟨by rfl, fun wl hSw => ?_⟩) hS5 ?_
  · (try dsimp only at hSw); go_simp
  refine wpAnyF_take (i := 4) (v := .agg #[.int .i64 n, .int .i64 i, .int .i64 o]) rfl (by kernel_rfl) (by kernel_rfl) (by kernel_rfl) (by kernel_rfl) (fun _ _ _ h => h) (Or.inl ⟨by rfl, fun wl hSw => ?_⟩) hS5 ?_
  · (try dsimp only at hSw); go_simp
  refine wpAnyF_free (i := 5) (v := .pointer (some ⟨w.heap.size + 1, 0, none⟩)) rfl (by kernel_rfl) (by kernel_rfl) (by kernel_rfl) (by kernel_rfl) (fun _ _ _ h => h) (Or.inl ⟨by rfl, fun wl hSw => ?_⟩) hS5 ?_
  · (try dsimp only at hSw); go_simp
  refine wpAnyF_take (i := 6) (v := .int .i64 x) rfl (by kernel_rfl) (by kernel_rfl) (by kernel_rfl) (by kernel_rfl) (fun _ _ _ h => h) (Or.inl ⟨by rfl, fun wl hSw => ?_⟩) hS5 ?_
  · (try dsimp only at hSw); go_simp
  refine wpAnyF_free (i := 7) (v := .agg #[.int .i64 n, .int .i64 i, .int .i64 o, .int .i64 x]) rfl (by kernel_rfl) (by kernel_rfl) (by kernel_rfl) (by kernel_rfl) (fun _ _ _ h => h) (Or.inl ⟨by rfl, fun wl hSw => ?_⟩) hS5 ?_
  · (try dsimp only at hSw); go_simp
  refine wpAnyF_free (i := 8) (v := .iface 143 (.agg #[.int .i64 n, .int .i64 i, .int .i64 o, .int .i64 x])) rfl (by kernel_rfl) (by kernel_rfl) (by kernel_rfl) (by kernel_rfl) (fun _ _ _ h => h) (Or.inl ⟨by rfl, fun wl hSw => ?_⟩) hS5 ?_
  · (try dsimp only at hSw); go_simp
  refine wpAnyF_one (i := 9) rfl (by kernel_rfl) (fun K hK => ?_)
  go_simp
  refine (hpush_any B w0.heap.size v L ⟨n, i, o, x⟩ Wg hSg.q hN hSg.hp).mono ?_
  rintro e W5 ⟨rfl, v5, L5, r1, r2, r3, r4⟩
  have hk5 : ∀ k u, w.heap.size ≤ k → ∀ j, Wg.cell? ⟨k, j, none⟩ = some u → W5.cell? ⟨k, j, none⟩ = some u := fun k u h1 j hk => (World.cell?_of_block (w := Wg) (a := ⟨k, j, none⟩) (r4.block k (cell_lt hk) (by omega) (fun e => by have := ownsRow_lt0 h.q.row _ e; omega))).trans hk
  refine hK.out _ _ ⟨fun _ => ⟨hk5 _ _ (by omega) 0 g0, hk5 _ _ (by omega) 1 g1, hk5 _ _ (by omega) 2 g2, hk5 _ _ (by omega) 0 g3⟩, ?_⟩
  clear hK K
  refine wpAnyF_done (by kernel_rfl) ?_ _
  refine NoPanic.normal ?_
  go_wp2
  go_end0
  exact ⟨rfl, v5, L5, hSg.step r4 r3 r2, r1, (((MStep.bel (bel_on hbd hbE)).trans (MStep.map hgrow)).trans (MStep.bel hbG)).trans (MStep.que r4)⟩
end Go.Proofs.Yteehgcbjmdideaa

/- 'use' of package score: a letter behind those that are used already. -/
namespace Go.Proofs.Yteehgcbjmdideaa
open Go.RowKit
attribute [local go_sem ↓] Go.wp_at_zero Go.wp_at_succ

theorem ret_use {x y : Int} {r s : Bool} (h1 : x = y) (h2 : r = s) : Ending.returned (.tuple #[.int .i64 x, .bool r]) = .returned (.tuple #[.int .i64 y, .bool s]) := by rw [h1, h2]

set_option maxHeartbeats 1000000 in
theorem use_any (ws : List Int) (a : Option Addr) (n c used : Nat) (letter : Int) (w : World) (h : ISlice w (.slice a n c) ws) (hl : ws.length = n) (hn : n ≤ 40) (hu : used ≤ n) :
    Calls Try.prog 164 #[.slice a n c, .int .i64 used, .int .i64 letter] w fun e w' => e = .returned (.tuple #[.int .i64 (usedBy used letter : Nat), .bool (fitB ws used letter)]) ∧ Below w.heap.size w w' := by
  by_cases h0 : letter = 0
  · subst h0
    go_enter Try.func164, Try.ntmps164
    go_wp2
    go_ret2
    exact ⟨ret_use (by simp [usedBy]) (by simp [fitB]), bel_self _⟩
  · have h0b : (letter == 0) = false := by simpa using h0
    have HU : Hid (((usedBy used letter : Nat) : Int) = used + 1) := (by simp [usedBy, h0] : ((usedBy used letter : Nat) : Int) = used + 1)
    by_cases hlt : used < n
    · obtain ⟨b, off, rfl, hx⟩ := h.some (by omega)
      have c0 := hx.cell used hlt
      obtain ⟨x, hxd⟩ : ∃ x, x = ws.getD used 0 := ⟨_, rfl⟩
      rw [← hxd] at c0
      have HX : Hid (fitB ws used letter = (x == letter)) := (by rw [hxd]; simp [fitB, h0, hl, hlt] : fitB ws used letter = (x == letter))
      have hd : decide ((used : Int) < n) = true := by simpa using hlt
      have hi : (used : Int) < n := by omega
      clear hxd h0 hx
      go_enter Try.func164, Try.ntmps164
      go_wp2
      go_quiet (fail)
      go_wp2
      go_ret2
      exact ⟨ret_use HU.out.symm HX.out.symm, bel_drewN (bel_self w) _⟩
    · have HX : Hid (fitB ws used letter = false) := (by simp [fitB, h0, hl, hlt] : fitB ws used letter = false)
      have hd : decide ((used : Int) < n) = false := by simpa using hlt
      have hi : (n : Int) ≤ used := by omega
      clear h0
      go_enter Try.func164, Try.ntmps164
      go_wp2
      go_quiet (fail)
      go_wp2
      go_ret2
      exact ⟨ret_use HU.out.symm HX.out.symm, bel_drewN (bel_self w) _⟩

end Go.Proofs.Yteehgcbjmdideaa

/- What the search's map and queue hold, as prices of spots. -/
namespace Go.Proofs.Yteehgcbjmdideaa
open Go.RowKit

def eP (N O : Nat) (p : PlD) : Nat := spotN N O p.st p.rd p.wt
def arcOf (m : Nat) (z : Int) : Int := if z = -1 then -1 else z % (m : Int)

/-- the map holds the prices -/
def MsOk (N I O m : Nat) (c y : List Int) (ms : List MetD) : Prop :=
  ∀ n i o, n < N → i ≤ I → o ≤ O → lookM n i o ms = if gI c (spotN N O n i o) = -1 then none else some ⟨n, i, o, gI c (spotN N O n i o), arcOf m (gI y (spotN N O n i o))⟩

theorem MsOk.put {N I O m : Nat} {c y : List Int} {ms : List MetD} (h : MsOk N I O m c y ms) {n i o : Nat} (hn : n < N) (hi : i ≤ I) (ho : o ≤ O) (hc : c.length = (I + 1) * (O + 1) * N) (hy : y.length = c.length) {x : Int} (hx : 0 ≤ x) {j k : Nat} (hj : j % m = k) :
    MsOk N I O m (c.set (spotN N O n i o) x) (y.set (spotN N O n i o) (j : Int)) (putM ⟨n, i, o, x, (k : Int)⟩ ms) := by
  have hu : spotN N O n i o < c.length := by rw [hc]; exact spotN_lt hn hi ho
  intro n' i' o' hn' hi' ho'
  rw [lookM_put, gI_set c _ _ _ hu, gI_set y _ _ _ (by rw [hy]; exact hu)]
  by_cases he : n = n' ∧ i = i' ∧ o = o'
  · obtain ⟨rfl, rfl, rfl⟩ := he
    rw [if_pos ⟨rfl, rfl, rfl⟩, if_pos rfl, if_pos rfl, if_neg (by omega)]
    have e : arcOf m (j : Int) = (k : Int) := by
      unfold arcOf
      rw [if_neg (by omega), ← hj]
      omega
    rw [e]
  · rw [if_neg he]
    have hne : ¬ spotN N O n' i' o' = spotN N O n i o := fun e => by
      obtain ⟨h1, h2, h3⟩ := spotN_inj hn' hn ho' ho e
      exact he ⟨h1.symm, h2.symm, h3.symm⟩
    rw [if_neg hne, if_neg hne]
    exact h n' i' o' hn' hi' ho'

section
variable (f : FstD) (ins outs : List Int) (N : Nat)
def totS : Nat := (ins.length + 1) * (outs.length + 1) * N
def EdS : List Edg := edS N ins outs f.arcs
end

/-- what stays true of the search as a whole, but for memory -/
structure SGh (f : FstD) (ins outs : List Int) (N s0 : Nat) (c y : List Int) (ms : List MetD) (L : List PlD) (best : Int) (x0 : Nat) (D : List Nat) (lo : Int) : Prop where
  si : SI (EdS f ins outs N) (bgS s0 (totS ins outs N)) (finS (totS ins outs N) N f.final) (eP N outs.length) PlD.cost c y L best x0
  sd : SD (eP N outs.length) PlD.cost c L D lo
  mo : MsOk N ins.length outs.length f.arcs.length c y ms
  vd : ∀ p ∈ L, p.st < N ∧ p.rd ≤ ins.length ∧ p.wt ≤ outs.length
  cl : c.length = totS ins outs N

/-- words that are right, beside a transducer that is -/
structure OkW (f : FstD) (ins outs : List Int) (N s0 : Nat) : Prop where
  n1 : 1 ≤ N
  n2 : N ≤ 200
  s : s0 < N
  i40 : ins.length ≤ 40
  o40 : outs.length ≤ 40
  many : f.arcs.length ≤ 3000
  arcs : ∀ a ∈ f.arcs, (0 ≤ a.src ∧ a.src < N) ∧ (0 ≤ a.dst ∧ a.dst < N) ∧ (0 ≤ a.wt ∧ a.wt ≤ 1000000000)
  sort : SortedA f.arcs
  len : f.final.length = N
  fin : ∀ x ∈ f.final, x = -1 ∨ (0 ≤ x ∧ x ≤ 1000000000)

section
variable {f : FstD} {ins outs : List Int} {N s0 : Nat} {c y : List Int} {ms : List MetD} {L : List PlD} {best : Int} {x0 : Nat} {D : List Nat} {lo : Int}

theorem OkW.tot (h : OkW f ins outs N s0) : totS ins outs N ≤ 400000 := by
  unfold totS
  have h1 : (ins.length + 1) * (outs.length + 1) ≤ 41 * 41 := Nat.mul_le_mul (by have := h.i40; omega) (by have := h.o40; omega)
  have h2 := Nat.mul_le_mul h1 h.n2
  omega

theorem OkW.edges (h : OkW f ins outs N s0) : ∀ e ∈ EdS f ins outs N, e.v < totS ins outs N ∧ 0 ≤ e.w ∧ e.w ≤ 1000000000 := edS_bounds h.n1 h.arcs

theorem SGh.perm {L' : List PlD} (h : SGh f ins outs N s0 c y ms L best x0 D lo) (hp : L.Perm L') : SGh f ins outs N s0 c y ms L' best x0 D lo :=
  ⟨h.si.perm hp, h.sd.perm hp, h.mo, fun p hm => h.vd p (hp.mem_iff.2 hm), h.cl⟩

/-- an arc that fits, gone along from a spot: what is looked up, and what becomes of it -/
theorem SGh.look (h : SGh f ins outs N s0 c y ms L best x0 D lo) {n i o : Nat} (hn : n < N) (hi : i ≤ ins.length) (ho : o ≤ outs.length) :
    (gI c (spotN N outs.length n i o) = -1 ∧ lookM n i o ms = none) ∨ (0 ≤ gI c (spotN N outs.length n i o) ∧ lookM n i o ms = some ⟨n, i, o, gI c (spotN N outs.length n i o), arcOf f.arcs.length (gI y (spotN N outs.length n i o))⟩) := by
  have h1 := h.mo n i o hn hi ho
  have h2 := h.si.inv.lo (spotN N outs.length n i o)
  by_cases e : gI c (spotN N outs.length n i o) = -1
  · rw [if_pos e] at h1
    exact Or.inl ⟨e, h1⟩
  · rw [if_neg e] at h1
    exact Or.inr ⟨by omega, h1⟩

theorem SGh.go {n i o k : Nat} {a : ArcD} (hok : OkW f ins outs N s0) (h : SGh f ins outs N s0 c y ms L best (spotN N outs.length n i o) D lo) (hi : i ≤ ins.length) (ho : o ≤ outs.length) (hk : f.arcs[k]? = some a) (hs : a.src = (n : Int)) (hfit : (fitB ins i a.inp && fitB outs o a.out) = true)
    (hx : gI c (spotN N outs.length n i o) = lo) (hx0 : 0 ≤ lo) {t : Nat} (ht : a.dst = (t : Int)) {c' : Int} (hc' : gI c (spotN N outs.length t (usedBy i a.inp) (usedBy o a.out)) = c') :
    (¬ (c' = -1 ∨ lo + a.wt < c') → Rlx c (edgeS N ins outs i o a)) ∧
    ((c' = -1 ∨ lo + a.wt < c') → ∃ c2 y2, SGh f ins outs N s0 c2 y2 (putM ⟨t, usedBy i a.inp, usedBy o a.out, lo + a.wt, (k : Int)⟩ ms) (⟨t, usedBy i a.inp, usedBy o a.out, lo + a.wt⟩ :: L) best (spotN N outs.length n i o) D lo ∧ gI c2 (spotN N outs.length n i o) = lo ∧ LeC c2 c ∧ Rlx c2 (edgeS N ins outs i o a)) := by
  have hmem := List.mem_of_getElem? hk
  obtain ⟨⟨s1, s2⟩, ⟨d1, d2⟩, w1, w2⟩ := hok.arcs a hmem
  have htN : t < N := by omega
  rw [Bool.and_eq_true] at hfit
  have hi' := usedBy_le hfit.1 hi
  have ho' := usedBy_le hfit.2 ho
  have he : edgeS N ins outs i o a = ⟨spotN N outs.length n i o, spotN N outs.length t (usedBy i a.inp) (usedBy o a.out), a.wt⟩ := by
    unfold edgeS
    rw [if_pos (by rw [Bool.and_eq_true]; exact hfit), hs, ht, Int.toNat_natCast, Int.toNat_natCast]
  have hj := edS_get (N := N) (outs := outs) hi ho hk
  rw [he] at hj
  have hkm : k < f.arcs.length := by
    obtain ⟨h1, _⟩ := List.getElem?_eq_some_iff.1 hk
    exact h1
  refine ⟨fun hbt => ?_, fun hbt => ?_⟩
  · rw [he]
    exact rlx_no hx (h.si.inv.lo _) (by rw [hc']; exact hbt)
  · have hvT : spotN N outs.length t (usedBy i a.inp) (usedBy o a.out) < totS ins outs N := spotN_lt htN hi' ho'
    have hm := h.si.meet (e := ⟨spotN N outs.length n i o, spotN N outs.length t (usedBy i a.inp) (usedBy o a.out), a.wt⟩) (q := ⟨t, usedBy i a.inp, usedBy o a.out, lo + a.wt⟩) (x := lo) (by rw [bgS_len]; exact hok.tot) hj (by rw [bgS_len]; exact hvT) w1 w2 hx hx0 (by show gI c (spotN N outs.length t (usedBy i a.inp) (usedBy o a.out)) = -1 ∨ _; rw [hc']; exact hbt) rfl rfl
    refine ⟨_, _, ⟨hm.1, h.sd.meet (by rw [h.cl]; exact hvT) w1 (by rw [hc']; exact hbt) rfl rfl (fun p hp => h.si.heap p hp), ?_, fun p hp => ?_, by rw [List.length_set]; exact h.cl⟩, hm.2.2.1, hm.2.2.2.1, by rw [he]; exact hm.2.2.2.2⟩
    · exact h.mo.put (x := lo + a.wt) htN hi' ho' h.cl (by rw [h.si.inv.ylen, h.si.inv.len]) (by omega) (by rw [Nat.mul_comm, Nat.mul_add_mod]; exact Nat.mod_eq_of_lt hkm)
    · rcases List.mem_cons.1 hp with rfl | hp
      · exact ⟨htN, hi', ho'⟩
      · exact h.vd p hp
end

end Go.Proofs.Yteehgcbjmdideaa

/- Ways through a transducer by two words: a state, how many letters are used, what it cost. What a pair of words costs, told by them. -/
namespace Go.Proofs.Yteehgcbjmdideaa

/-- a way of so many arcs from the start to a state, with so many letters read and written, that costs z -/
def PathN (f : FstD) (ins outs : List Int) (s0 : Nat) : Nat → Nat → Nat → Nat → Int → Prop
  | 0, n, i, o, z => n = s0 ∧ i = 0 ∧ o = 0 ∧ z = 0
  | h + 1, n, i, o, z => ∃ a ∈ f.arcs, ∃ n' i' o' z', PathN f ins outs s0 h n' i' o' z' ∧ a.src = (n' : Int) ∧ a.dst = (n : Int) ∧ fitB ins i' a.inp = true ∧ fitB outs o' a.out = true ∧ i = usedBy i' a.inp ∧ o = usedBy o' a.out ∧ z = z' + a.wt

/-- what some way by both words costs, its end too -/
def TotP (f : FstD) (ins outs : List Int) (s0 : Nat) (x : Int) : Prop :=
  ∃ h n z, PathN f ins outs s0 h n ins.length outs.length z ∧ 0 ≤ gI f.final n ∧ x = z + gI f.final n

/-- the least of that, or -1 -/
def BestP (f : FstD) (ins outs : List Int) (s0 : Nat) (x : Int) : Prop :=
  (x = -1 ∧ ∀ y, ¬ TotP f ins outs s0 y) ∨ (0 ≤ x ∧ TotP f ins outs s0 x ∧ ∀ y, TotP f ins outs s0 y → x ≤ y)

theorem BestP.unique {f : FstD} {ins outs : List Int} {s0 : Nat} {x z : Int} (h : BestP f ins outs s0 x) (h' : BestP f ins outs s0 z) : x = z := by
  rcases h with ⟨rfl, h1⟩ | ⟨_, h1, h2⟩
  · rcases h' with ⟨rfl, _⟩ | ⟨_, h3, _⟩
    · rfl
    · exact absurd h3 (h1 _)
  · rcases h' with ⟨rfl, h3⟩ | ⟨_, h3, h4⟩
    · exact absurd h1 (h3 _)
    · have := h2 _ h3
      have := h4 _ h1
      omega

theorem BestP.of_tot {f g : FstD} {ins outs ins' outs' : List Int} {s0 t0 : Nat} {x : Int} (h : BestP f ins outs s0 x) (he : ∀ y, TotP f ins outs s0 y ↔ TotP g ins' outs' t0 y) : BestP g ins' outs' t0 x := by
  rcases h with ⟨h1, h2⟩ | ⟨h1, h2, h3⟩
  · exact Or.inl ⟨h1, fun y hy => h2 y ((he y).2 hy)⟩
  · exact Or.inr ⟨h1, (he x).1 h2, fun y hy => h3 y ((he y).2 hy)⟩

section
variable {f : FstD} {ins outs : List Int} {N s0 : Nat}

theorem usedBy_fit {l : List Int} {u : Nat} {x : Int} (h : fitB l u x = true) (hu : u ≤ l.length) : usedBy u x ≤ l.length := usedBy_le h hu

theorem PathN.le {h n i o : Nat} {z : Int} (hp : PathN f ins outs s0 h n i o z) : i ≤ ins.length ∧ o ≤ outs.length := by
  induction h generalizing n i o z with
  | zero => obtain ⟨_, rfl, rfl, _⟩ := hp; exact ⟨Nat.zero_le _, Nat.zero_le _⟩
  | succ h ih =>
    obtain ⟨a, _, n', i', o', z', hp', _, _, h1, h2, rfl, rfl, _⟩ := hp
    obtain ⟨g1, g2⟩ := ih hp'
    exact ⟨usedBy_le h1 g1, usedBy_le h2 g2⟩

theorem PathN.lt (hs : s0 < N) (ha : ∀ a ∈ f.arcs, 0 ≤ a.dst ∧ a.dst < N) {h n i o : Nat} {z : Int} (hp : PathN f ins outs s0 h n i o z) : n < N := by
  cases h with
  | zero => obtain ⟨rfl, _⟩ := hp; exact hs
  | succ h =>
    obtain ⟨a, hm, _, _, _, _, _, _, hd, _⟩ := hp
    have := ha a hm
    omega

theorem PathN.nonneg (ha : ∀ a ∈ f.arcs, 0 ≤ a.wt) {h n i o : Nat} {z : Int} (hp : PathN f ins outs s0 h n i o z) : 0 ≤ z := by
  induction h generalizing n i o z with
  | zero => obtain ⟨_, _, _, rfl⟩ := hp; decide
  | succ h ih =>
    obtain ⟨a, hm, n', i', o', z', hp', _, _, _, _, _, _, rfl⟩ := hp
    have := ih hp'
    have := ha a hm
    omega

/-- a way from spot to spot is a way through the transducer -/
theorem way_path (hok : OkW f ins outs N s0) {h v : Nat} {z : Int} (hw : WayN (EdS f ins outs N) (bgS s0 (totS ins outs N)) h v z) :
    ∃ h' n i o, n < N ∧ i ≤ ins.length ∧ o ≤ outs.length ∧ v = spotN N outs.length n i o ∧ PathN f ins outs s0 h' n i o z := by
  induction h generalizing v z with
  | zero =>
    obtain ⟨h1, h2⟩ := hw
    rw [bgS_at] at h1
    split at h1
    · rename_i hv
      refine ⟨0, s0, 0, 0, hok.s, Nat.zero_le _, Nat.zero_le _, ?_, rfl, rfl, rfl, h1.symm⟩
      rw [hv.1]
      unfold spotN
      omega
    · omega
  | succ h ih =>
    obtain ⟨e, he, rfl, c, hc, rfl⟩ := hw
    obtain ⟨h', n, i, o, hn, hi, ho, hu, hp⟩ := ih hc
    obtain ⟨i', o', a, hi', ho', ha, rfl⟩ := edS_mem.1 he
    obtain ⟨⟨p1, p2⟩, ⟨p3, p4⟩, _⟩ := hok.arcs a ha
    by_cases hf : (fitB ins i' a.inp && fitB outs o' a.out) = true
    · have hE : edgeS N ins outs i' o' a = ⟨spotN N outs.length a.src.toNat i' o', spotN N outs.length a.dst.toNat (usedBy i' a.inp) (usedBy o' a.out), a.wt⟩ := by unfold edgeS; rw [if_pos hf]
      rw [hE] at hu ⊢
      rw [Bool.and_eq_true] at hf
      obtain ⟨e1, e2, e3⟩ := spotN_inj (by omega) hn ho' ho hu
      subst e1 e2 e3
      exact ⟨h' + 1, a.dst.toNat, usedBy i' a.inp, usedBy o' a.out, by omega, usedBy_le hf.1 hi', usedBy_le hf.2 ho', rfl, a, ha, a.src.toNat, i', o', c, hp, by omega, by omega, hf.1, hf.2, rfl, rfl, rfl⟩
    · have hE : edgeS N ins outs i' o' a = ⟨0, 0, 0⟩ := by unfold edgeS; rw [if_neg hf]
      rw [hE] at hu ⊢
      exact ⟨h', n, i, o, hn, hi, ho, hu, by rw [Int.add_zero]; exact hp⟩

/-- and the other way about -/
theorem path_way (hok : OkW f ins outs N s0) {h n i o : Nat} {z : Int} (hp : PathN f ins outs s0 h n i o z) : WayN (EdS f ins outs N) (bgS s0 (totS ins outs N)) h (spotN N outs.length n i o) z := by
  induction h generalizing n i o z with
  | zero =>
    obtain ⟨rfl, rfl, rfl, rfl⟩ := hp
    refine ⟨?_, by decide⟩
    have e : spotN N outs.length n 0 0 = n := by unfold spotN; omega
    have hl := spotN_lt (N := N) (n := n) (i := 0) (o := 0) hok.s (Nat.zero_le ins.length) (Nat.zero_le outs.length)
    rw [e] at hl
    rw [e, bgS_at, if_pos ⟨rfl, hl⟩]
  | succ h ih =>
    obtain ⟨a, hm, n', i', o', z', hp', hs, hd, h1, h2, rfl, rfl, rfl⟩ := hp
    obtain ⟨g1, g2⟩ := hp'.le
    refine ⟨edgeS N ins outs i' o' a, edS_mem.2 ⟨i', o', a, g1, g2, hm, rfl⟩, ?_, z', ?_, ?_⟩
    · unfold edgeS
      rw [if_pos (by rw [Bool.and_eq_true]; exact ⟨h1, h2⟩), hd, Int.toNat_natCast]
    · have := ih hp'
      unfold edgeS
      rw [if_pos (by rw [Bool.and_eq_true]; exact ⟨h1, h2⟩), hs, Int.toNat_natCast]
      exact this
    · unfold edgeS
      rw [if_pos (by rw [Bool.and_eq_true]; exact ⟨h1, h2⟩)]

theorem best_path (hok : OkW f ins outs N s0) {x : Int} : IsBest (EdS f ins outs N) (bgS s0 (totS ins outs N)) (finS (totS ins outs N) N f.final) x ↔ BestP f ins outs s0 x := by
  have key : ∀ y, (∃ v h z, WayN (EdS f ins outs N) (bgS s0 (totS ins outs N)) h v z ∧ 0 ≤ finS (totS ins outs N) N f.final v ∧ y = z + finS (totS ins outs N) N f.final v) ↔ TotP f ins outs s0 y := by
    intro y
    constructor
    · rintro ⟨v, h, z, hw, hf, rfl⟩
      obtain ⟨h', n, i, o, hn, hi, ho, rfl, hp⟩ := way_path hok hw
      by_cases hend : i = ins.length ∧ o = outs.length
      · obtain ⟨rfl, rfl⟩ := hend
        have e : finS (totS ins outs N) N f.final (spotN N outs.length n ins.length outs.length) = gI f.final n := finS_end N ins.length outs.length n f.final
        rw [e] at hf ⊢
        exact ⟨h', n, z, hp, hf, rfl⟩
      · have e : finS (totS ins outs N) N f.final (spotN N outs.length n i o) = -1 := finS_no N ins.length outs.length n i o f.final hn hi ho (by omega)
        rw [e] at hf
        omega
    · rintro ⟨h, n, z, hp, hf, rfl⟩
      have e : finS (totS ins outs N) N f.final (spotN N outs.length n ins.length outs.length) = gI f.final n := finS_end N ins.length outs.length n f.final
      exact ⟨_, h, z, path_way hok hp, by rw [e]; exact hf, by rw [e]⟩
  constructor
  · rintro (⟨h1, h2⟩ | ⟨h1, h2, h3⟩)
    · exact Or.inl ⟨h1, fun y hy => by obtain ⟨v, h, z, hw, hf, _⟩ := (key y).2 hy; exact h2 v h z hw hf⟩
    · obtain ⟨v, h, z, hw, hf, e⟩ := h2
      refine Or.inr ⟨h1, (key x).1 ⟨v, h, z, hw, hf, e⟩, fun y hy => ?_⟩
      obtain ⟨v, h, z, hw, hf, e⟩ := (key y).2 hy
      have := h3 v h z hw hf
      omega
  · rintro (⟨h1, h2⟩ | ⟨h1, h2, h3⟩)
    · exact Or.inl ⟨h1, fun v h z hw hf => h2 _ ((key _).1 ⟨v, h, z, hw, hf, rfl⟩)⟩
    · exact Or.inr ⟨h1, (key x).2 h2, fun v h z hw hf => h3 _ ((key _).1 ⟨v, h, z, hw, hf, rfl⟩)⟩
end
end Go.Proofs.Yteehgcbjmdideaa
