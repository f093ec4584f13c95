/- 'take' of package simple: a piece is taken in behind those that are there. (Made by wip/gen/joi.py.) -/
import Derived.Test.YteehgcbjmdideaaQM08
namespace Go.Proofs.Yteehgcbjmdideaa
open Go.RowKit
attribute [local go_sem ↓] Go.wp_at_zero Go.wp_at_succ

theorem wp_app_at {P : Program} {w : World} {o : Oper} {a : Act} {K : Act → World → Prop} {Q : Exit → Act → World → Prop} (s x : Operand) (t : TypeId)
    (ho : o.op = .call { callee := .builtin .append, args := #[s, x], argTypes := #[t, t] })
    (base : Nat) (e : TypeId) (i : TypeInfo) (z : Value) (size bytes : Nat) (ht : P.underlying t = some (.slice e)) (hi : P.info? e = some i) (hz : i.zero = some z)
    (hsize : i.size = size) (hby : i.bytes = bytes) (hzs : z.cells.size = size) (hsz : 0 < size)
    (v : Value) (n : Nat) (xs : List Value) (hs : a.eval s = v) (hown : w.ownsRow base e size v n xs)
    (vx : Value) (m : Nat) (news : List Value) (hx : a.eval x = vx) (hsrc : SrcAt w size vx m news) (h1 : ∀ u ∈ news, u.oneCell' = true)
    (h63 : n + m ≤ maxLen) (hbytes : (n + m) * bytes ≤ 140737488355328) (hbase : base ≤ w.heap.size)
    (h : ∀ v' w', w'.ownsRow base e size v' (n + m) (xs ++ news) → w.grownBy w' v.ownBlock → (v'.ownBlock = v.ownBlock ∨ v'.ownBlock = some w.heap.size) → K (a.put o.dst v') w') : o.wp P a w K Q := by
  rcases hsrc with ⟨rfl, rfl, rfl⟩ | ⟨ad, c, rfl, hl, hnews⟩
  · have hrun := run_append_owned_none (P := P) (w := w) base t o.type e i size ht hi v n xs hown
    unfold Oper.wp execOp
    simp only [ho, resolve, invoke, builtin, Sem.run_bind, Sem.run_pure, Result.andThen_ok, List.map_toArray, List.map_cons, List.map_nil, hs, hx, hrun]
    exact h v w (by rw [List.append_nil]; exact hown) ⟨rfl, rfl, rfl, Nat.le_refl _, fun _ _ _ => rfl⟩ (Or.inl rfl)
  · obtain ⟨v', w', hr, h2, h3, h4, h5⟩ := run_append_own_at (P := P) w base t o.type e i z size bytes ht hi hz hsize hby hzs hsz v n xs hown ad m c news hl hnews h1 h63 hbytes hbase
    unfold Oper.wp execOp
    simp only [ho, resolve, invoke, builtin, Sem.run_bind, Sem.run_pure, Result.andThen_ok, List.map_toArray, List.map_cons, List.map_nil, hs, hx, hr]
    exact h v' w' h2 h3 h5

theorem own_src {w : World} {B e size n : Nat} {v : Value} {xs : List Value} (h : w.ownsRow B e size v n xs) : SrcAt w size v n xs := by
  have hl := h.1
  rcases h.2 with ⟨h1, h2⟩ | ⟨g, cap, cur, he, _⟩
  · subst h2
    refine Or.inl ⟨h1, rfl, ?_⟩
    rw [Nat.zero_mul] at hl
    exact List.length_eq_zero_iff.1 hl
  · subst he
    exact Or.inr ⟨_, _, rfl, hl, h.cells (g := g) rfl⟩

set_option maxHeartbeats 4000000 in
set_option maxRecDepth 100000 in
theorem jtake_any (f : FstD) (P B : Nat) (st sta : Int) (fv av : Value) (xs : List Int) (ars : List ArcD) (fb fo N fc : Nat) (aa : Option Addr) (m ac : Nat) (w : World) (hJ : JW w P B st sta fv av xs ars)
    (HF : Hid (∀ W, Below B w W → IntsAt W fb fo N f.final ∧ ASlice W (.slice aa m ac) f.arcs)) (hal : f.arcs.length = m) (hN : N ≤ 200) (hm : m ≤ 3000) (h0 : 0 ≤ st) (h1 : st ≤ 400) (hx : xs.length ≤ 400) (har : ars.length ≤ 6000)
    (hfs : 0 ≤ f.states ∧ f.states ≤ 200) (hss : 0 ≤ f.start ∧ f.start ≤ 200) (hok : ∀ a ∈ f.arcs, (0 ≤ a.src ∧ a.src ≤ 200) ∧ (0 ≤ a.dst ∧ a.dst ≤ 200)) :
    Calls Try.prog 68 #[.pointer (some ⟨P, 0, none⟩), .agg #[.int .i64 f.states, .int .i64 f.start, .slice (some ⟨fb, fo, none⟩) N fc, .slice aa m ac]] w fun e w' =>
      e = .returned (.int .i64 (f.start + st)) ∧ ∃ fv' av', JW w' P B (st + f.states) sta fv' av' (xs ++ f.final) (ars ++ f.arcs.map (movA st)) ∧ JS P w w' fv av fv' av' := by
  obtain ⟨i0, hi, hz0, hz1, hz2⟩ := info_parts Try.info3
  obtain ⟨j0, hj0, hj1, hj2, hj3⟩ := info_parts Try.info63
  obtain ⟨ja, jc, rfl⟩ := own_sl hJ.fin
  obtain ⟨ka, kc, rfl⟩ := own_sl hJ.arc
  obtain ⟨jn, hjn⟩ : ∃ jn, jn = xs.length := ⟨_, rfl⟩
  obtain ⟨kn, hkn⟩ : ∃ kn, kn = ars.length := ⟨_, rfl⟩
  have HJN : Hid (jn = xs.length ∧ kn = ars.length) := ⟨hjn, hkn⟩
  rw [← hjn] at hJ hx ⊢
  rw [← hkn] at hJ har ⊢
  have HAL : Hid (f.arcs.length = m) := hal
  have HBL : Hid (f.final.length = N) := (HF.out w (Below.refl _ _)).1.len
  have HOK : Hid (∀ a ∈ f.arcs, (0 ≤ a.src ∧ a.src ≤ 200) ∧ (0 ≤ a.dst ∧ a.dst ≤ 200)) := hok
  obtain ⟨W0, hW0⟩ : ∃ W0, W0 = (w.alloc (.cells #[.int .i64 f.states, .int .i64 f.start, .slice (some ⟨fb, fo, none⟩) N fc, .slice aa m ac] 25)).alloc (.cells #[.int .i64 st] 3) := ⟨_, rfl⟩
  have hb0 : Below w.heap.size w W0 := by rw [hW0]; exact two_up w _ _
  have hbx0 : W0.heap[w.heap.size]? = some (.cells #[.int .i64 f.states, .int .i64 f.start, .slice (some ⟨fb, fo, none⟩) N fc, .slice aa m ac] 25 (0, 0)) := by rw [hW0]; exact (Below.heap_alloc _ _ _ (by simp)).trans (heap_alloc_new w _)
  have hby0 : W0.heap[w.heap.size + 1]? = some (.cells #[.int .i64 st] 3 (0, 0)) := by
    rw [hW0]
    have := heap_alloc_new (w.alloc (.cells #[.int .i64 f.states, .int .i64 f.start, .slice (some ⟨fb, fo, none⟩) N fc, .slice aa m ac] 25)) (.cells #[.int .i64 st] 3)
    rw [one_size] at this
    exact this
  have hlt := hJ.lt
  have hBw : B ≤ w.heap.size := by have := hJ.hP; omega
  have c0 := box_cell (k := 0) hJ.box rfl
  have hwst : IntKind.i64.wrap (st + f.states) = st + f.states := wrap_in _ (by omega) (by omega)
  have hwss : IntKind.i64.wrap (f.start + st) = f.start + st := wrap_in _ (by omega) (by omega)
  have HROW : Hid ((∀ g, (Value.slice ja jn jc).ownBlock = some g → g < w.heap.size) ∧ (∀ g, (Value.slice ka kn kc).ownBlock = some g → g < w.heap.size)) := ⟨fun g hg => ownsRow_lt0 hJ.fin g hg, fun g hg => ownsRow_lt0 hJ.arc g hg⟩
  go_enter Try.func68, Try.ntmps68
  go_wp2
  rw [← hW0]
  clear hW0 hal hok c0 hjn hkn
  obtain ⟨Wd, hWd⟩ : ∃ Wd, Wd = W0.drew := ⟨_, rfl⟩
  have hud : Below w.heap.size w Wd := by rw [hWd]; exact hb0.drew
  have hJd : JW Wd P B st sta (.slice ja jn jc) (.slice ka kn kc) xs ars := hJ.below hud
  have hbx1 : Wd.heap[w.heap.size]? = some (.cells #[.int .i64 f.states, .int .i64 f.start, .slice (some ⟨fb, fo, none⟩) N fc, .slice aa m ac] 25 (0, 0)) := by rw [hWd]; exact hbx0
  have hby1 : Wd.heap[w.heap.size + 1]? = some (.cells #[.int .i64 st] 3 (0, 0)) := by rw [hWd]; exact hby0
  have q0 := box_cell (k := 0) hbx1 rfl
  have p0 := box_cell (k := 0) hJd.box rfl
  have p0z := box_frz hJd.box 0
  have hS0 : (fun wx : World => wx.cell? ⟨P, 0, none⟩ = some (.int .i64 st) ∧ wx.cell? ⟨w.heap.size, 0, none⟩ = some (.int .i64 f.states)) Wd := ⟨p0, q0⟩
  have HJS0 : Hid (JS P w Wd (.slice ja jn jc) (.slice ka kn kc) (.slice ja jn jc) (.slice ka kn kc) ∧ Below B w Wd) := ⟨JS.of_bel hud, hud.mono hBw⟩
  have HWD : Hid (Wd = W0.drew) := hWd
  clear hWd hb0 hbx0 hby0 hJ hud
  refine wp_region_noPanic ?_
  refine wp_region_U (fun wx : World => wx.cell? ⟨P, 0, none⟩ = some (.int .i64 st) ∧ wx.cell? ⟨w.heap.size, 0, none⟩ = some (.int .i64 f.states)) 11 (by kernel_rfl) (by rw [← HWD.out]; exact hS0) (fun _ => ?_)
  rw [← HWD.out]
  clear HWD
  refine wpAnyU_take (i := 0) (v := .pointer (some ⟨P, 0, none⟩)) rfl (by kernel_rfl) (by kernel_rfl) (by kernel_rfl) (by kernel_rfl) (fun _ _ _ h => h) (Or.inl ⟨by rfl, fun wl hSw => ?_⟩) hS0 ?_
  · (try dsimp only at hSw); go_simp
  refine wpAnyU_take (i := 1) (v := .pointer (some ⟨P, 0, none⟩)) rfl (by kernel_rfl) (by kernel_rfl) (by kernel_rfl) (by kernel_rfl) (fun _ _ _ h => h) (Or.inl ⟨by rfl, fun wl hSw => ?_⟩) hS0 ?_
  · (try dsimp only at hSw); go_simp
  refine wpAnyU_take (i := 2) (v := .pointer (some ⟨P, 0, none⟩)) rfl (by kernel_rfl) (by kernel_rfl) (by kernel_rfl) (by kernel_rfl) (fun _ _ _ h => h) (Or.inl ⟨by rfl, fun wl hSw => ?_⟩) hS0 ?_
  · (try dsimp only at hSw); go_simp
  refine wpAnyU_take (i := 3) (v := .pointer (some ⟨P, 0, none⟩)) rfl (by kernel_rfl) (by kernel_rfl) (by kernel_rfl) (by kernel_rfl) (fun _ _ _ h => h) (Or.inl ⟨by rfl, fun wl hSw => ?_⟩) hS0 ?_
  · (try dsimp only at hSw); go_simp
  refine wpAnyU_take (i := 4) (v := .int .i64 st) rfl (by kernel_rfl) (by kernel_rfl) (by kernel_rfl) (by kernel_rfl) (fun _ _ _ h => h) (Or.inl ⟨by rfl, fun wl hSw => ?_⟩) hS0 ?_
  · (try dsimp only at hSw); go_simp
  refine wpAnyU_take (i := 5) (v := .pointer (some ⟨w.heap.size, 0, none⟩)) rfl (by kernel_rfl) (by kernel_rfl) (by kernel_rfl) (by kernel_rfl) (fun _ _ _ h => h) (Or.inl ⟨by rfl, fun wl hSw => ?_⟩) hS0 ?_
  · (try dsimp only at hSw); go_simp
  refine wpAnyU_take (i := 6) (v := .int .i64 f.states) rfl (by kernel_rfl) (by kernel_rfl) (by kernel_rfl) (by kernel_rfl) (fun _ _ _ h => h) (Or.inl ⟨by rfl, fun wl hSw => ?_⟩) hS0 ?_
  · (try dsimp only at hSw); go_simp
  refine wpAnyU_take (i := 7) (v := .int .i64 (st + f.states)) rfl (by kernel_rfl) (by kernel_rfl) (by kernel_rfl) (by kernel_rfl) (fun _ _ _ h => h) (Or.inl ⟨by rfl, fun wl hSw => ?_⟩) hS0 ?_
  · (try dsimp only at hSw); go_simp
  refine wpAnyU_one (i := 8) rfl (by kernel_rfl) (fun K hK => ?_)
  go_simp
  refine hK.out _ _ ⟨fun _ => hS0, ?_⟩
  clear hK K
  refine wpAnyU_one (i := 9) rfl (by kernel_rfl) (fun K hK => ?_)
  go_simp
  refine hK.out _ _ ⟨fun _ => hS0, ?_⟩
  clear hK K
  refine wpAnyU_one (i := 10) rfl (by kernel_rfl) (fun K hK => ?_)
  go_simp
  refine hK.out _ _ ⟨fun _ => hS0, ?_⟩
  clear hK K
  refine wpAnyU_one (i := 11) rfl (by kernel_rfl) (fun K hK => ?_)
  go_simp
  refine hK.out _ _ ⟨fun h => absurd rfl h, ?_⟩
  clear hK K
  refine wpAnyU_done (by kernel_rfl) ?_ _
  refine NoPanic.normal ?_
  go_wp2
  obtain ⟨W2, hW2⟩ : ∃ W2, W2 = Wd.setCell ⟨P, 0, none⟩ (.int .i64 (st + f.states)) := ⟨_, rfl⟩
  have hJ2 : JW W2 P B (st + f.states) sta (.slice ja jn jc) (.slice ka kn kc) xs ars := by rw [hW2]; exact hJd.states _
  have HJS2 : Hid (JS P w W2 (.slice ja jn jc) (.slice ka kn kc) (.slice ja jn jc) (.slice ka kn kc) ∧ Below B w W2) := by
    rw [hW2]
    exact ⟨HJS0.out.1.trans JS.set, HJS0.out.2.setCell (p := ⟨P, 0, none⟩) hJd.hP _⟩
  have hbx2 : W2.heap[w.heap.size]? = some (.cells #[.int .i64 f.states, .int .i64 f.start, .slice (some ⟨fb, fo, none⟩) N fc, .slice aa m ac] 25 (0, 0)) := by rw [hW2]; exact heap_far hbx1 (by omega)
  have hby2 : W2.heap[w.heap.size + 1]? = some (.cells #[.int .i64 st] 3 (0, 0)) := by rw [hW2]; exact heap_far hby1 (by omega)
  rw [← hW2]
  clear hW2 hbx1 hby1 hJd hS0 p0 q0 p0z HJS0
  obtain ⟨We, hWe⟩ : ∃ We, We = W2.drew := ⟨_, rfl⟩
  have hue : Below W2.heap.size W2 We := by rw [hWe]; exact (bel_self W2).drew
  have hJe := hJ2.below hue
  have hbxe := heap_bel hue hbx2
  have hbye := heap_bel hue hby2
  have HJSe : Hid (JS P w We (.slice ja jn jc) (.slice ka kn kc) (.slice ja jn jc) (.slice ka kn kc) ∧ Below B w We) := ⟨HJS2.out.1.trans (JS.of_bel hue), HJS2.out.2.trans (hue.mono (by have := hJ2.lt; have := hJ2.hP; omega))⟩
  have q2 := box_cell (k := 2) hbxe rfl
  have p2 := box_cell (k := 2) hJe.box rfl
  have hS0 : (fun wx : World => wx.cell? ⟨P, 2, none⟩ = some (.slice ja jn jc) ∧ wx.cell? ⟨w.heap.size, 2, none⟩ = some (.slice (some ⟨fb, fo, none⟩) N fc)) We := ⟨p2, q2⟩
  have hBe : B ≤ We.heap.size := by have := hJe.lt; have := hJe.hP; omega
  have HFE : Hid (SrcAt We 1 (.slice (some ⟨fb, fo, none⟩) N fc) N (f.final.map (Value.int .i64))) := Or.inr ⟨_, _, rfl, by rw [List.length_map, HBL.out, Nat.mul_one], ints_news (HF.out We HJSe.out.2).1⟩
  have HWE : Hid (We = W2.drew) := hWe
  clear hWe hue hJ2 hbx2 hby2 HJS2
  refine wp_region_noPanic ?_
  refine wp_region_U (fun wx : World => wx.cell? ⟨P, 2, none⟩ = some (.slice ja jn jc) ∧ wx.cell? ⟨w.heap.size, 2, none⟩ = some (.slice (some ⟨fb, fo, none⟩) N fc)) 12 (by kernel_rfl) (by rw [← HWE.out]; exact hS0) (fun _ => ?_)
  rw [← HWE.out]
  clear HWE
  refine wpAnyU_take (i := 0) (v := .pointer (some ⟨P, 0, none⟩)) rfl (by kernel_rfl) (by kernel_rfl) (by kernel_rfl) (by kernel_rfl) (fun _ _ _ h => h) (Or.inl ⟨by rfl, fun wl hSw => ?_⟩) hS0 ?_
  · (try dsimp only at hSw); go_simp
  refine wpAnyU_take (i := 1) (v := .pointer (some ⟨P, 0, none⟩)) rfl (by kernel_rfl) (by kernel_rfl) (by kernel_rfl) (by kernel_rfl) (fun _ _ _ h => h) (Or.inl ⟨by rfl, fun wl hSw => ?_⟩) hS0 ?_
  · (try dsimp only at hSw); go_simp
  refine wpAnyU_take (i := 2) (v := .pointer (some ⟨P, 0, none⟩)) rfl (by kernel_rfl) (by kernel_rfl) (by kernel_rfl) (by kernel_rfl) (fun _ _ _ h => h) (Or.inl ⟨by rfl, fun wl hSw => ?_⟩) hS0 ?_
  · (try dsimp only at hSw); go_simp
  refine wpAnyU_take (i := 3) (v := .pointer (some ⟨P, 0, none⟩)) rfl (by kernel_rfl) (by kernel_rfl) (by kernel_rfl) (by kernel_rfl) (fun _ _ _ h => h) (Or.inl ⟨by rfl, fun wl hSw => ?_⟩) hS0 ?_
  · (try dsimp only at hSw); go_simp
  refine wpAnyU_take (i := 4) (v := .pointer (some ⟨P, 2, none⟩)) rfl (by kernel_rfl) (by kernel_rfl) (by kernel_rfl) (by kernel_rfl) (fun _ _ _ h => h) (Or.inl ⟨by rfl, fun wl hSw => ?_⟩) hS0 ?_
  · (try dsimp only at hSw); go_simp
  refine wpAnyU_take (i := 5) (v := .slice ja jn jc) rfl (by kernel_rfl) (by kernel_rfl) (by kernel_rfl) (by kernel_rfl) (fun _ _ _ h => h) (Or.inl ⟨by rfl, fun wl hSw => ?_⟩) hS0 ?_
  · (try dsimp only at hSw); go_simp
  refine wpAnyU_take (i := 6) (v := .pointer (some ⟨w.heap.size, 2, none⟩)) rfl (by kernel_rfl) (by kernel_rfl) (by kernel_rfl) (by kernel_rfl) (fun _ _ _ h => h) (Or.inl ⟨by rfl, fun wl hSw => ?_⟩) hS0 ?_
  · (try dsimp only at hSw); go_simp
  refine wpAnyU_take (i := 7) (v := .slice (some ⟨fb, fo, none⟩) N fc) rfl (by kernel_rfl) (by kernel_rfl) (by kernel_rfl) (by kernel_rfl) (fun _ _ _ h => h) (Or.inl ⟨by rfl, fun wl hSw => ?_⟩) hS0 ?_
  · (try dsimp only at hSw); go_simp
  refine wpAnyU_one (i := 8) rfl (by kernel_rfl) (fun K hK => ?_)
  refine if_wanted rfl ?_
  refine wp_app_at (Operand.tmp 27) (Operand.tmp 29) 22 rfl B 3 i0 (.int .i64 0) 1 8 Try.underlying22 hi hz0 hz1 hz2 rfl (by decide) (.slice ja jn jc) jn (xs.map (Value.int .i64)) ?hs (by have := hJe.fin; rw [← HJN.out.1] at this; exact this) (.slice (some ⟨fb, fo, none⟩) N fc) N (f.final.map (Value.int .i64)) ?hx HFE.out (ints_ones _) (by unfold maxLen; omega) (by omega) hBe ?_
  case hs => go_simp
  case hx => go_simp
  intro v8 w8 hown8 hgrow8 hat8
  obtain ⟨va, vc, rfl⟩ := own_sl hown8
  have hbox8 := hJe.boxed (bel_self We) hgrow8 hJe.fP
  have e2 := box_cell (k := 2) hbox8 rfl
  have y2 := box_frz hbox8 2
  have hne8 : (Value.slice ja jn jc).ownBlock ≠ some w.heap.size ∧ (Value.slice ja jn jc).ownBlock ≠ some (w.heap.size + 1) := ⟨fun e => by have := HROW.out.1 _ e; omega, fun e => by have := HROW.out.1 _ e; omega⟩
  have hbx8 := (hgrow8.block _ (heap_lt hbxe) (fun e => hne8.1 e.symm)).trans hbxe
  have hby8 := (hgrow8.block _ (heap_lt hbye) (fun e => hne8.2 e.symm)).trans hbye
  have q2' := box_cell (k := 2) hbx8 rfl
  have hS8 : (fun wx : World => wx.cell? ⟨P, 2, none⟩ = some (.slice ja jn jc) ∧ wx.cell? ⟨w.heap.size, 2, none⟩ = some (.slice (some ⟨fb, fo, none⟩) N fc)) w8 := ⟨e2, q2'⟩
  refine hK.out _ _ ⟨fun _ => hS8, ?_⟩
  clear hK K
  refine wpAnyU_one (i := 9) rfl (by kernel_rfl) (fun K hK => ?_)
  go_simp
  refine hK.out _ _ ⟨fun _ => hS8, ?_⟩
  clear hK K
  refine wpAnyU_one (i := 10) rfl (by kernel_rfl) (fun K hK => ?_)
  go_simp
  refine hK.out _ _ ⟨fun _ => hS8, ?_⟩
  clear hK K
  refine wpAnyU_one (i := 11) rfl (by kernel_rfl) (fun K hK => ?_)
  go_simp
  refine hK.out _ _ ⟨fun _ => hS8, ?_⟩
  clear hK K
  refine wpAnyU_one (i := 12) rfl (by kernel_rfl) (fun K hK => ?_)
  go_simp
  refine hK.out _ _ ⟨fun h => absurd rfl h, ?_⟩
  clear hK K
  refine wpAnyU_done (by kernel_rfl) ?_ _
  refine NoPanic.normal ?_
  go_wp2
  obtain ⟨q1, q3⟩ := hJe.ends (more := f.final) (bel_self We) hown8 (by rw [List.length_append, HJN.out.1, HBL.out]) hgrow8 hat8
  obtain ⟨W3, hW3⟩ : ∃ W3, W3 = w8.setCell ⟨P, 2, none⟩ (.slice va (jn + N) vc) := ⟨_, rfl⟩
  rw [← hW3] at q1 q3
  have hbx3 : W3.heap[w.heap.size]? = some (.cells #[.int .i64 f.states, .int .i64 f.start, .slice (some ⟨fb, fo, none⟩) N fc, .slice aa m ac] 25 (0, 0)) := by rw [hW3]; exact heap_far hbx8 (by omega)
  have hby3 : W3.heap[w.heap.size + 1]? = some (.cells #[.int .i64 st] 3 (0, 0)) := by rw [hW3]; exact heap_far hby8 (by omega)
  rw [← hW3]
  clear hW3 hbx8 hby8 hS0 hS8 e2 y2 q2' p2 q2 hown8 hgrow8 hbox8 hne8
  have HJS3 : Hid (JS P w W3 (.slice ja jn jc) (.slice ka kn kc) (.slice va (jn + N) vc) (.slice ka kn kc) ∧ Below B w W3) := ⟨HJSe.out.1.trans q3, HJSe.out.2.trans (q3.below hJe)⟩
  clear q3 hat8 hbxe hbye HFE hJe HJSe hBe
  obtain ⟨Wf, hWf⟩ : ∃ Wf, Wf = W3.drew := ⟨_, rfl⟩
  have huf : Below W3.heap.size W3 Wf := by rw [hWf]; exact (bel_self W3).drew
  have hJf := q1.below huf
  have hbxf := heap_bel huf hbx3
  have hbyf := heap_bel huf hby3
  have HJSf : Hid (JS P w Wf (.slice ja jn jc) (.slice ka kn kc) (.slice va (jn + N) vc) (.slice ka kn kc) ∧ Below B w Wf) := ⟨HJS3.out.1.trans (JS.of_bel huf), HJS3.out.2.trans (huf.mono (by have := q1.lt; have := q1.hP; omega))⟩
  have q3 := box_cell (k := 3) hbxf rfl
  have p3 := box_cell (k := 3) hJf.box rfl
  have hS0 : (fun wx : World => wx.cell? ⟨P, 3, none⟩ = some (.slice ka kn kc) ∧ wx.cell? ⟨w.heap.size, 3, none⟩ = some (.slice aa m ac)) Wf := ⟨p3, q3⟩
  have hBf : B ≤ Wf.heap.size := by have := hJf.lt; have := hJf.hP; omega
  have HMADE : Hid (Calls Try.prog 102 #[.slice aa m ac, .func (.func 103) #[] #[.pointer (some ⟨w.heap.size + 1, 0, none⟩)]] Wf fun e w' => ∃ v, e = .returned v ∧ w'.ownsRow Wf.heap.size 63 5 v m (arcsV (f.arcs.map (movA st))) ∧ Below Wf.heap.size Wf w') := made_any (movA st) 103 #[.pointer (some ⟨w.heap.size + 1, 0, none⟩)] gT1 f.arcs aa m ac Wf (fun a ham W hbW => mov_one a st (w.heap.size + 1) W (bel_c hbW (box_cell (k := 0) hbyf rfl)) (by have := HOK.out a ham; omega) (by have := HOK.out a ham; omega) (by omega)) (HF.out Wf HJSf.out.2).2 HAL.out hm
  have HWF : Hid (Wf = W3.drew) := hWf
  clear hWf huf q1 hbx3 hby3 HJS3
  refine wp_region_noPanic ?_
  refine wp_region_U (fun wx : World => wx.cell? ⟨P, 3, none⟩ = some (.slice ka kn kc) ∧ wx.cell? ⟨w.heap.size, 3, none⟩ = some (.slice aa m ac)) 14 (by kernel_rfl) (by rw [← HWF.out]; exact hS0) (fun _ => ?_)
  rw [← HWF.out]
  clear HWF
  refine wpAnyU_take (i := 0) (v := .pointer (some ⟨P, 0, none⟩)) rfl (by kernel_rfl) (by kernel_rfl) (by kernel_rfl) (by kernel_rfl) (fun _ _ _ h => h) (Or.inl ⟨by rfl, fun wl hSw => ?_⟩) hS0 ?_
  · (try dsimp only at hSw); go_simp
  refine wpAnyU_take (i := 1) (v := .pointer (some ⟨P, 0, none⟩)) rfl (by kernel_rfl) (by kernel_rfl) (by kernel_rfl) (by kernel_rfl) (fun _ _ _ h => h) (Or.inl ⟨by rfl, fun wl hSw => ?_⟩) hS0 ?_
  · (try dsimp only at hSw); go_simp
  refine wpAnyU_take (i := 2) (v := .pointer (some ⟨P, 0, none⟩)) rfl (by kernel_rfl) (by kernel_rfl) (by kernel_rfl) (by kernel_rfl) (fun _ _ _ h => h) (Or.inl ⟨by rfl, fun wl hSw => ?_⟩) hS0 ?_
  · (try dsimp only at hSw); go_simp
  refine wpAnyU_take (i := 3) (v := .pointer (some ⟨P, 0, none⟩)) rfl (by kernel_rfl) (by kernel_rfl) (by kernel_rfl) (by kernel_rfl) (fun _ _ _ h => h) (Or.inl ⟨by rfl, fun wl hSw => ?_⟩) hS0 ?_
  · (try dsimp only at hSw); go_simp
  refine wpAnyU_take (i := 4) (v := .pointer (some ⟨P, 3, none⟩)) rfl (by kernel_rfl) (by kernel_rfl) (by kernel_rfl) (by kernel_rfl) (fun _ _ _ h => h) (Or.inl ⟨by rfl, fun wl hSw => ?_⟩) hS0 ?_
  · (try dsimp only at hSw); go_simp
  refine wpAnyU_take (i := 5) (v := .slice ka kn kc) rfl (by kernel_rfl) (by kernel_rfl) (by kernel_rfl) (by kernel_rfl) (fun _ _ _ h => h) (Or.inl ⟨by rfl, fun wl hSw => ?_⟩) hS0 ?_
  · (try dsimp only at hSw); go_simp
  refine wpAnyU_take (i := 6) (v := .pointer (some ⟨w.heap.size, 3, none⟩)) rfl (by kernel_rfl) (by kernel_rfl) (by kernel_rfl) (by kernel_rfl) (fun _ _ _ h => h) (Or.inl ⟨by rfl, fun wl hSw => ?_⟩) hS0 ?_
  · (try dsimp only at hSw); go_simp
  refine wpAnyU_take (i := 7) (v := .slice aa m ac) rfl (by kernel_rfl) (by kernel_rfl) (by kernel_rfl) (by kernel_rfl) (fun _ _ _ h => h) (Or.inl ⟨by rfl, fun wl hSw => ?_⟩) hS0 ?_
  · (try dsimp only at hSw); go_simp
  refine wpAnyU_take (i := 8) (v := .func (.func 103) #[] #[.pointer (some ⟨w.heap.size + 1, 0, none⟩)]) rfl (by kernel_rfl) (by kernel_rfl) (by kernel_rfl) (by kernel_rfl) (fun _ _ _ h => h) (Or.inl ⟨by rfl, fun wl hSw => ?_⟩) hS0 ?_
  · (try dsimp only at hSw); go_simp
  refine wpAnyU_one (i := 9) rfl (by kernel_rfl) (fun K hK => ?_)
  go_simp
  refine HMADE.out.mono ?_
  rintro e w9 ⟨v9, rfl, hv9, hb9⟩
  have hS9 : (fun wx : World => wx.cell? ⟨P, 3, none⟩ = some (.slice ka kn kc) ∧ wx.cell? ⟨w.heap.size, 3, none⟩ = some (.slice aa m ac)) w9 := ⟨bel_c hb9 p3, bel_c hb9 q3⟩
  refine hK.out _ _ ⟨fun _ => hS9, ?_⟩
  clear hK K
  have hJ9 := hJf.below hb9
  have hB9 : B ≤ w9.heap.size := by have := hb9.size; omega
  have hbx9 := heap_bel hb9 hbxf
  have hby9 := heap_bel hb9 hbyf
  refine wpAnyU_one (i := 10) rfl (by kernel_rfl) (fun K hK => ?_)
  refine if_wanted rfl ?_
  refine wp_app_at (Operand.tmp 39) (Operand.tmp 43) 23 rfl B 63 j0 _ 5 40 Try.underlying23 hj0 hj1 hj2 hj3 rfl (by decide) (.slice ka kn kc) kn (arcsV ars) ?hs (by have := hJ9.arc; rw [← HJN.out.2] at this; exact this) v9 m (arcsV (f.arcs.map (movA st))) ?hx (own_src hv9) (arcsV_one _) (by unfold maxLen; omega) (by omega) hB9 ?_
  case hs => go_simp
  case hx => go_simp
  intro v10 w10 hown10 hgrow10 hat10
  obtain ⟨ua, uc, rfl⟩ := own_sl hown10
  have hbox10 := hJ9.boxed (bel_self w9) hgrow10 hJ9.aP
  have e3 := box_cell (k := 3) hbox10 rfl
  have y3 := box_frz hbox10 3
  have hne10 : (Value.slice ka kn kc).ownBlock ≠ some w.heap.size ∧ (Value.slice ka kn kc).ownBlock ≠ some (w.heap.size + 1) := ⟨fun e => by have := HROW.out.2 _ e; omega, fun e => by have := HROW.out.2 _ e; omega⟩
  have hbx10 := (hgrow10.block _ (heap_lt hbx9) (fun e => hne10.1 e.symm)).trans hbx9
  have hby10 := (hgrow10.block _ (heap_lt hby9) (fun e => hne10.2 e.symm)).trans hby9
  have q3' := box_cell (k := 3) hbx10 rfl
  have hS10 : (fun wx : World => wx.cell? ⟨P, 3, none⟩ = some (.slice ka kn kc) ∧ wx.cell? ⟨w.heap.size, 3, none⟩ = some (.slice aa m ac)) w10 := ⟨e3, q3'⟩
  refine hK.out _ _ ⟨fun _ => hS10, ?_⟩
  clear hK K
  refine wpAnyU_one (i := 11) rfl (by kernel_rfl) (fun K hK => ?_)
  go_simp
  refine hK.out _ _ ⟨fun _ => hS10, ?_⟩
  clear hK K
  refine wpAnyU_one (i := 12) rfl (by kernel_rfl) (fun K hK => ?_)
  go_simp
  refine hK.out _ _ ⟨fun _ => hS10, ?_⟩
  clear hK K
  refine wpAnyU_one (i := 13) rfl (by kernel_rfl) (fun K hK => ?_)
  go_simp
  refine hK.out _ _ ⟨fun _ => hS10, ?_⟩
  clear hK K
  refine wpAnyU_one (i := 14) rfl (by kernel_rfl) (fun K hK => ?_)
  go_simp
  refine hK.out _ _ ⟨fun h => absurd rfl h, ?_⟩
  clear hK K
  refine wpAnyU_done (by kernel_rfl) ?_ _
  refine NoPanic.normal ?_
  have s1 := box_cell (k := 1) hbx10 rfl
  have s2 := box_cell (k := 0) hby10 rfl
  have hlt2 : P ≠ w.heap.size := by omega
  have hlt3 : P ≠ w.heap.size + 1 := by omega
  obtain ⟨r1, r2⟩ := hJ9.arcs (more := f.arcs.map (movA st)) (bel_self w9) hown10 (by rw [List.length_append, List.length_map, HJN.out.2, HAL.out]) hgrow10 hat10
  go_wp2
  go_ret
  exact ⟨rfl, _, _, r1, (HJSf.out.1.trans (JS.of_bel hb9)).trans r2⟩
end Go.Proofs.Yteehgcbjmdideaa

/- 'begin' and 'done' of package simple. -/
namespace Go.Proofs.Yteehgcbjmdideaa
open Go.RowKit
attribute [local go_sem ↓] Go.wp_at_zero Go.wp_at_succ

theorem bel4 {B P : Nat} {w w' : World} (h : Below B w w') (hP : B ≤ P) (u0 u1 u2 u3 : Value) : Below B w ((((w'.setCell ⟨P, 0, none⟩ u0).setCell ⟨P, 1, none⟩ u1).setCell ⟨P, 2, none⟩ u2).setCell ⟨P, 3, none⟩ u3) :=
  (((h.setCell (p := ⟨P, 0, none⟩) hP u0).setCell (p := ⟨P, 1, none⟩) hP u1).setCell (p := ⟨P, 2, none⟩) hP u2).setCell (p := ⟨P, 3, none⟩) hP u3

theorem mov_zero (l : List ArcD) : l.map (movA 0) = l := by
  have e : movA 0 = id := funext fun a => by
    unfold movA
    rw [Int.add_zero, Int.add_zero]
    rfl
  rw [e, List.map_id]

theorem JW.new {w : World} {P B : Nat} (h : w.heap[P]? = some (.cells #[.int .i64 0, .int .i64 0, .slice none 0 0, .slice none 0 0] 84 (0, 0))) (hP : B ≤ P) : JW w P B 0 0 (.slice none 0 0) (.slice none 0 0) [] [] :=
  ⟨h, World.ownsRow_nil _ _ _ _, World.ownsRow_nil _ _ _ _, hP, by simp [Value.ownBlock], by simp [Value.ownBlock], fun g hg => by simp [Value.ownBlock] at hg⟩

set_option maxHeartbeats 1000000 in
set_option maxRecDepth 100000 in
theorem jbegin_any (f : FstD) (fb fo N fc : Nat) (aa : Option Addr) (m ac : Nat) (w : World) (hf : IntsAt w fb fo N f.final) (ha : ASlice w (.slice aa m ac) f.arcs) (hal : f.arcs.length = m) (hN : N ≤ 200) (hm : m ≤ 3000)
    (hfs : 0 ≤ f.states ∧ f.states ≤ 200) (hss : 0 ≤ f.start ∧ f.start ≤ 200) (hok : ∀ a ∈ f.arcs, (0 ≤ a.src ∧ a.src ≤ 200) ∧ (0 ≤ a.dst ∧ a.dst ≤ 200)) :
    Calls Try.prog 67 #[.agg #[.int .i64 f.states, .int .i64 f.start, .slice (some ⟨fb, fo, none⟩) N fc, .slice aa m ac]] w fun e w' =>
      ∃ P fv av, e = .returned (.pointer (some ⟨P, 0, none⟩)) ∧ JW w' P w.heap.size f.states f.start fv av f.final f.arcs ∧ Below w.heap.size w w' := by
  obtain ⟨W0, hW0⟩ : ∃ W0, W0 = (w.alloc (.cells #[.int .i64 f.states, .int .i64 f.start, .slice (some ⟨fb, fo, none⟩) N fc, .slice aa m ac] 25)).alloc (.cells #[.int .i64 0, .int .i64 0, .slice none 0 0, .slice none 0 0] 84) := ⟨_, rfl⟩
  have hb0 : Below w.heap.size w W0 := by rw [hW0]; exact two_up w _ _
  have hJ0 : JW W0 (w.heap.size + 1) w.heap.size 0 0 (.slice none 0 0) (.slice none 0 0) [] [] := by
    refine JW.new ?_ (Nat.le_succ _)
    rw [hW0]
    have := heap_alloc_new (w.alloc (.cells #[.int .i64 f.states, .int .i64 f.start, .slice (some ⟨fb, fo, none⟩) N fc, .slice aa m ac] 25)) (.cells #[.int .i64 0, .int .i64 0, .slice none 0 0, .slice none 0 0] 84)
    rw [one_size] at this
    exact this
  have htake := jtake_any f (w.heap.size + 1) w.heap.size 0 0 _ _ [] [] fb fo N fc aa m ac W0 hJ0 (fun W h => ⟨hf.below (hb0.trans h), ha.below (hb0.trans h)⟩) hal hN hm (Int.le_refl _) (by decide) (by decide) (by decide) hfs hss hok
  have HJ0 : Hid (∀ w1 fv av, JS (w.heap.size + 1) W0 w1 (.slice none 0 0) (.slice none 0 0) fv av → Below w.heap.size w w1) := fun w1 fv av h => hb0.trans (h.below hJ0)
  rw [hW0] at htake HJ0
  clear hJ0 hW0 hb0
  go_enter Try.func67, Try.ntmps67
  go_wp2_with (go_at_call 68; refine htake.mono ?_; rintro e w1 ⟨rfl, fv, av, hJ1, hS1⟩; have d1 := box_cell (k := 1) hJ1.box rfl; have z1 := box_frz hJ1.box 1; have hlt := hJ1.lt)
  have h := hJ1.start f.start
  rw [Int.zero_add, List.nil_append, List.nil_append, mov_zero] at h
  go_ret
  exact ⟨_, fv, av, rfl, h, (HJ0.out _ _ _ hS1).setCell (p := ⟨w.heap.size + 1, 1, none⟩) (Nat.le_succ _) _⟩

set_option maxHeartbeats 1000000 in
set_option maxRecDepth 100000 in
theorem jdone_any (P B : Nat) (st sta : Int) (fv av : Value) (xs : List Int) (ars : List ArcD) (w : World) (hJ : JW w P B st sta fv av xs ars) (har : ars.length ≤ 100000) :
    Calls Try.prog 71 #[.pointer (some ⟨P, 0, none⟩)] w fun e w' =>
      ∃ fv' av', e = .returned (.agg #[.int .i64 st, .int .i64 sta, fv', av']) ∧ w'.ownsRow B 3 1 fv' xs.length (xs.map (Value.int .i64)) ∧ AFrom B w' av' (leastL ars) ∧ Below B w w' := by
  obtain ⟨fa, fc, rfl⟩ := own_sl hJ.fin
  obtain ⟨aa, ac, rfl⟩ := own_sl hJ.arc
  have hlt := hJ.lt
  have hBw : B ≤ w.heap.size := by have := hJ.hP; omega
  have hb0 := bel_up (bel_self w) (.cells #[.int .i64 0, .int .i64 0, .slice none 0 0, .slice none 0 0] 25)
  have hzb : ZBlock (w.alloc (.cells #[.int .i64 0, .int .i64 0, .slice none 0 0, .slice none 0 0] 25)) w.heap.size := heap_alloc_new w _
  have hJ1 := hJ.below hb0
  have c3 := box_cell (k := 3) hJ1.box rfl
  have hle := least_any ars _ _ (ownsRow_arcs hJ1.arc) har
  go_enter Try.func71, Try.ntmps71
  go_wp2_with (go_at_call 78; refine hle.mono ?_; rintro e w2 ⟨v, rfl, hv, hb2⟩; obtain ⟨va, vn, vc, rfl, _, _⟩ := hv.slice.lenOf; have hJ2 := hJ1.below hb2; have hz2 := heap_bel hb2 hzb; obtain ⟨z0, z1, z2, z3, y0, y1, y2, y3⟩ := zfacts hz2; have d0 := box_cell (k := 0) hJ2.box rfl; have d1 := box_cell (k := 1) hJ2.box rfl; have d2 := box_cell (k := 2) hJ2.box rfl; have d3 := box_cell (k := 3) hJ2.box rfl; have x3 := box_frz hJ2.box 3)
  have hne : (Value.slice fa xs.length fc).ownBlock ≠ some w.heap.size := fun e => by have := ownsRow_lt0 hJ.fin _ e; omega
  have g1 := ownsRow_setCell_far (k := w.heap.size) (i := 3) (u := .slice va vn vc) (ownsRow_setCell_far (k := w.heap.size) (i := 2) (u := .slice fa xs.length fc) (ownsRow_setCell_far (k := w.heap.size) (i := 1) (u := .int .i64 sta) (ownsRow_setCell_far (k := w.heap.size) (i := 0) (u := .int .i64 st) (ownsRow_setCell_far (k := P) (i := 3) (u := .slice va vn vc) hJ2.fin hJ.fP) hne) hne) hne) hne
  have hs0 : w.heap.size < (w.alloc (.cells #[.int .i64 0, .int .i64 0, .slice none 0 0, .slice none 0 0] 25)).heap.size := by simp
  have g2 := (((((hv.set (P := P) (i := 3) (u := .slice va vn vc) (by omega)).set (P := w.heap.size) (i := 0) (u := .int .i64 st) hs0).set (P := w.heap.size) (i := 1) (u := .int .i64 sta) hs0).set (P := w.heap.size) (i := 2) (u := .slice fa xs.length fc) hs0).set (P := w.heap.size) (i := 3) (u := .slice va vn vc) hs0).mono (B' := B) (by omega)
  have g3 := bel4 ((((bel_on hb0 hb2).mono hBw).setCell (p := ⟨P, 3, none⟩) hJ.hP (.slice va vn vc))) hBw (.int .i64 st) (.int .i64 sta) (.slice fa xs.length fc) (.slice va vn vc)
  exact bodyPost_ret (v := .agg #[.int .i64 st, .int .i64 sta, .slice fa xs.length fc, .slice va vn vc]) (by simp [results, Try.results71, go_sem, z0, z1, z2, z3]) rfl ⟨_, _, rfl, g1, g2, g3⟩
end Go.Proofs.Yteehgcbjmdideaa

/- 'fit' and 'Either' of package simple, where all is right. -/
namespace Go.Proofs.Yteehgcbjmdideaa
open Go.RowKit
attribute [local go_sem ↓] Go.wp_at_zero Go.wp_at_succ

/-- the second of two transducers in a block -/
def CellsG (w : World) (B : Nat) (st sta : Int) (fin arcs : Value) : Prop :=
  w.cell? ⟨B, 4, none⟩ = some (.int .i64 st) ∧ w.cell? ⟨B, 5, none⟩ = some (.int .i64 sta) ∧ w.cell? ⟨B, 6, none⟩ = some fin ∧ w.cell? ⟨B, 7, none⟩ = some arcs
theorem CellsG.below {w w' : World} {B : Nat} {st sta : Int} {fin arcs : Value} (h : CellsG w B st sta fin arcs) (hb : Below w.heap.size w w') : CellsG w' B st sta fin arcs :=
  ⟨bel_c hb h.1, bel_c hb h.2.1, bel_c hb h.2.2.1, bel_c hb h.2.2.2⟩

set_option maxHeartbeats 1000000 in
theorem all_ok2 (f g : FstD) (fin arcs fin' arcs' : Value) (B : Nat) (w : World) (hC : CellsF w B f.states f.start fin arcs) (hD : CellsG w B g.states g.start fin' arcs') (hf : ISlice w fin f.final) (ha : ASlice w arcs f.arcs) (hf' : ISlice w fin' g.final) (ha' : ASlice w arcs' g.arcs) (hc : checkD f = 0) (hc' : checkD g = 0) :
    Calls Try.prog 59 #[.slice (some ⟨B, 0, none⟩) 2 2] w fun e w' => e = .returned (.int .i64 0) ∧ Below w.heap.size w w' := by
  obtain ⟨fa, fn, fc, rfl, _, _⟩ := hf.lenOf
  obtain ⟨ba, bn, bc, rfl, _, _⟩ := ha.lenOf
  obtain ⟨ga, gn, gc, rfl, _, _⟩ := hf'.lenOf
  obtain ⟨ea, en, ec, rfl, _, _⟩ := ha'.lenOf
  have hchk : ∀ W, ISlice W (.slice fa fn fc) f.final → ASlice W (.slice ba bn bc) f.arcs → Calls Try.prog 101 #[.agg #[.int .i64 f.states, .int .i64 f.start, .slice fa fn fc, .slice ba bn bc]] W fun e w' => e = .returned (.int .i64 0) ∧ Below W.heap.size W w' := by
    intro W k1 k2; rw [← hc]; exact check_any f _ _ W k1 k2
  have hchk' : ∀ W, ISlice W (.slice ga gn gc) g.final → ASlice W (.slice ea en ec) g.arcs → Calls Try.prog 101 #[.agg #[.int .i64 g.states, .int .i64 g.start, .slice ga gn gc, .slice ea en ec]] W fun e w' => e = .returned (.int .i64 0) ∧ Below W.heap.size W w' := by
    intro W k1 k2; rw [← hc']; exact check_any g _ _ W k1 k2
  clear hc hc'
  go_enter Try.func59, Try.ntmps59
  go_wp2
  go_loopw [8] (fun i wr => ∃ k : Nat, k ≤ 2 ∧ i = .int .i64 k ∧ Below w.heap.size w wr) (fun i _ => 2 - (intOf i).toNat)
  case atStart => exact ⟨0, by omega, rfl, bel_self _⟩
  case round =>
    obtain ⟨k, hk, rfl, hb⟩ := hrel
    by_cases h0 : k = 0
    · subst h0
      obtain ⟨q0, q1, q2, q3⟩ := hC.below hb
      have hb1 := bel_up (bel_self wr) (.cells #[.int .i64 f.states, .int .i64 f.start, .slice fa fn fc, .slice ba bn bc] 25)
      have h1 := (hf.below hb).below hb1
      have h2 := (ha.below hb).below hb1
      go_wp2_with (go_at_call 101; refine (hchk _ h1 h2).mono ?_; rintro e w1 ⟨rfl, hb2⟩)
      go_roundw
      case rel => exact ⟨1, by omega, by go_num, bel_on (bel_on hb hb1) hb2⟩
      case measure => simp [intOf]
    · by_cases h1' : k = 1
      · subst h1'
        obtain ⟨q0, q1, q2, q3⟩ := hD.below hb
        have hb1 := bel_up (bel_self wr) (.cells #[.int .i64 g.states, .int .i64 g.start, .slice ga gn gc, .slice ea en ec] 25)
        have h1 := (hf'.below hb).below hb1
        have h2 := (ha'.below hb).below hb1
        go_wp2_with (go_at_call 101; refine (hchk' _ h1 h2).mono ?_; rintro e w1 ⟨rfl, hb2⟩)
        go_roundw
        case rel => exact ⟨2, by omega, by go_num, bel_on (bel_on hb hb1) hb2⟩
        case measure => simp [intOf]
      · have hk2 : k = 2 := by omega
        subst hk2
        go_wp2
        go_ret
        exact ⟨rfl, hb⟩

set_option maxHeartbeats 1000000 in
set_option maxRecDepth 100000 in
theorem fit_ok2 (f g : FstD) (fin fin' : Value) (aa : Option Addr) (m ac : Nat) (ga : Option Addr) (m' gc : Nat) (B : Nat) (w : World) (hC : CellsF w B f.states f.start fin (.slice aa m ac)) (hD : CellsG w B g.states g.start fin' (.slice ga m' gc)) (hf : ISlice w fin f.final) (ha : ASlice w (.slice aa m ac) f.arcs) (hf' : ISlice w fin' g.final) (ha' : ASlice w (.slice ga m' gc) g.arcs) (hc : checkD f = 0) (hc' : checkD g = 0)
    (h1 : 0 ≤ f.states) (h2 : 0 ≤ g.states) (h3 : f.states + g.states ≤ 198) (h4 : m + m' ≤ 2500) :
    Calls Try.prog 66 #[.slice (some ⟨B, 0, none⟩) 2 2] w fun e w' => e = .returned (.int .i64 0) ∧ Below w.heap.size w w' := by
  obtain ⟨fa, fn, fc, rfl, _, _⟩ := hf.lenOf
  obtain ⟨ea, en, ec, rfl, _, _⟩ := hf'.lenOf
  have hall := all_ok2 f g _ _ _ _ B w hC hD hf ha hf' ha' hc hc'
  clear hf ha hf' ha' hc hc'
  go_enter Try.func66, Try.ntmps66
  go_wp2_with (go_at_call 59; refine hall.mono ?_; rintro e w1 ⟨rfl, hb1⟩)
  go_loopw [4, 5, 15] (fun s4 s5 i wr => (∃ k : Nat, i = .int .i64 k ∧ ((k = 0 ∧ s4 = .int .i64 0 ∧ s5 = .int .i64 0) ∨ (k = 1 ∧ s4 = .int .i64 f.states ∧ s5 = .int .i64 m) ∨ (k = 2 ∧ s4 = .int .i64 (f.states + g.states) ∧ s5 = .int .i64 (m + m')))) ∧ Below w.heap.size w wr) (fun _ _ i _ => 2 - (intOf i).toNat)
  case atStart => exact ⟨⟨0, rfl, Or.inl ⟨rfl, rfl, rfl⟩⟩, hb1⟩
  case round =>
    obtain ⟨⟨k, rfl, hk⟩, hb⟩ := hrel
    rcases hk with ⟨rfl, rfl, rfl⟩ | ⟨rfl, rfl, rfl⟩ | ⟨rfl, rfl, rfl⟩
    · obtain ⟨q0, q1, q2, q3⟩ := hC.below hb
      have e1 : IntKind.i64.wrap f.states = f.states := wrap_in _ (by omega) (by omega)
      have e2 : IntKind.i64.wrap (m : Int) = m := wrap_in _ (by omega) (by omega)
      go_wp2
      go_region_held3 (fun wx => wx.cell? ⟨wr.heap.size, 0, none⟩ = some (.int .i64 f.states) ∧ wx.cell? ⟨wr.heap.size, 3, none⟩ = some (.slice aa m ac)) (exact ⟨drew_cell (new_cell _ _ _ _ 0 _ rfl rfl), drew_cell (new_cell _ _ _ _ 3 _ rfl rfl)⟩) (fail)
      go_wp2
      go_roundw
      case rel => exact ⟨⟨1, by go_num, Or.inr (Or.inl ⟨rfl, by go_num, by go_num⟩)⟩, (bel_up hb _).drew⟩
      case measure => simp [intOf]
    · obtain ⟨q0, q1, q2, q3⟩ := hD.below hb
      have e1 : IntKind.i64.wrap (f.states + g.states) = f.states + g.states := wrap_in _ (by omega) (by omega)
      have e2 : IntKind.i64.wrap ((m : Int) + m') = m + m' := wrap_in _ (by omega) (by omega)
      go_wp2
      go_region_held3 (fun wx => wx.cell? ⟨wr.heap.size, 0, none⟩ = some (.int .i64 g.states) ∧ wx.cell? ⟨wr.heap.size, 3, none⟩ = some (.slice ga m' gc)) (exact ⟨drew_cell (new_cell _ _ _ _ 0 _ rfl rfl), drew_cell (new_cell _ _ _ _ 3 _ rfl rfl)⟩) (fail)
      go_wp2
      go_roundw
      case rel => exact ⟨⟨2, by go_num, Or.inr (Or.inr ⟨rfl, by go_num, by go_num⟩)⟩, (bel_up hb _).drew⟩
      case measure => simp [intOf]
    · have e1 : ¬ (198 : Int) < f.states + g.states := by omega
      have e2 : ¬ (2500 : Int) < (m : Int) + m' := by omega
      go_wp2
      go_ret
      exact ⟨rfl, hb⟩
end Go.Proofs.Yteehgcbjmdideaa
