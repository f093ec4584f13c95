/- 'PushOf' of the document's answer. -/
import Derived.Test.YteehgcbjmdideaaQMP
namespace Go.Proofs.Yteehgcbjmdideaa
open Go.RowKit
attribute [local go_sem ↓] Go.wp_at_zero Go.wp_at_succ

theorem lit1 (W : World) (base : Nat) (hb : base ≤ W.heap.size) : (W.alloc (.cells #[] 3)).ownsRow base 3 1 (.slice (some ⟨W.heap.size, 0, none⟩) 0 0) 0 [] := by
  have h := World.ownsRow_lit (base := base) (e := 3) (size := 1) W #[] 0 hb (by decide) rfl
  simpa using h

theorem OW.make {w W : World} {N s0 gt P G cap : Nat} {fin arcs : Value} {to xs : List Int} (hcf : CellsF W w.heap.size (N : Int) (s0 : Int) fin arcs) (hzb : ZBlock W (w.heap.size + 1)) (hrow : NumsAt W gt N to) (hP : ZBlock W P) (hfin : NumsAt W G N xs)
    (gt1 : w.heap.size + 1 < gt) (gP : w.heap.size + 1 < P) (gG : w.heap.size + 1 < G) (tP : gt ≠ P) (tG : gt ≠ G) (PG : P ≠ G) (bel : Below w.heap.size w W) :
    OW w ((((W.setCell ⟨P, 0, none⟩ (.int .i64 N)).setCell ⟨P, 1, none⟩ (.int .i64 s0)).setCell ⟨P, 2, none⟩ (.slice (some ⟨G, 0, none⟩) N cap)).setCell ⟨P, 3, none⟩ (.slice none 0 0)) N s0 gt P G cap fin arcs (.slice none 0 0) to xs [] := by
  obtain ⟨z0, z1, z2, z3, _, _, _, y3⟩ := zfacts hP
  have h1 : w.heap.size ≠ P := by omega
  exact ⟨(((hcf.set h1).set h1).set h1).set h1, zb_set4 hzb (by omega) _ _ _ _, (((hrow.other tP).other tP).other tP).other tP, set4_cells z0 z1 z2 z3 _ _ _ _, by simp only [World.frozen?_setCell]; exact y3, (((hfin.other (Ne.symm PG)).other (Ne.symm PG)).other (Ne.symm PG)).other (Ne.symm PG), World.ownsRow_nil _ _ _ _, gt1, gP, gG, tP, tG, PG, by simp [Value.ownBlock], by simp [Value.ownBlock], by simp [Value.ownBlock], bel_set4 bel (by omega) _ _ _ _⟩

theorem OW.new {w W : World} {N s0 gt G cap : Nat} {fin arcs : Value} {to xs : List Int} (hcf : CellsF W w.heap.size (N : Int) (s0 : Int) fin arcs) (hzb : ZBlock W (w.heap.size + 1)) (hrow : NumsAt W gt N to) (hfin : NumsAt W G N xs)
    (gt1 : w.heap.size + 1 < gt) (gG : w.heap.size + 1 < G) (tG : gt ≠ G) (bel : Below w.heap.size w W) :
    OW w (W.alloc (.cells #[.int .i64 (N : Int), .int .i64 (s0 : Int), .slice (some ⟨G, 0, none⟩) N cap, .slice none 0 0] 25)) N s0 gt W.heap.size G cap fin arcs (.slice none 0 0) to xs [] := by
  have hu := bel_up (bel_self W) (.cells #[.int .i64 (N : Int), .int .i64 (s0 : Int), .slice (some ⟨G, 0, none⟩) N cap, .slice none 0 0] 25)
  have l1 := hrow.lt
  have l2 := hfin.lt
  have l3 := heap_lt hzb
  exact ⟨hcf.below hu, heap_bel hu hzb, hrow.below hu, cellsF_new _ _ _ _ _ _, new_frozen _ _ _ _ _ rfl, hfin.below hu, World.ownsRow_nil _ _ _ _, gt1, by omega, gG, by omega, tG, by omega, by simp [Value.ownBlock], by simp [Value.ownBlock], by simp [Value.ownBlock], bel_on bel hu⟩

theorem NumsAt.grown {w w' : World} {g n : Nat} {c : List Int} {row : Option Nat} (h : NumsAt w g n c) (hg : w.grownBy w' row) (hne : some g ≠ row) : NumsAt w' g n c :=
  ⟨h.len, fun i hi => (hg.cell_far ⟨g, i, none⟩ h.lt hne).trans (h.cell i hi), fun i => (hg.frozen_far ⟨g, i, none⟩ h.lt hne).trans (h.frz i), Nat.lt_of_lt_of_le h.lt hg.size⟩
theorem CellsF.grown1 {w w' : World} {B : Nat} {st sta : Int} {fin arcs : Value} {row : Option Nat} (h : CellsF w B st sta fin arcs) (hg : w.grownBy w' row) (hne : some B ≠ row) : CellsF w' B st sta fin arcs := by
  have hl := cell_lt h.1
  exact ⟨(hg.cell_far ⟨B, 0, none⟩ hl hne).trans h.1, (hg.cell_far ⟨B, 1, none⟩ hl hne).trans h.2.1, (hg.cell_far ⟨B, 2, none⟩ hl hne).trans h.2.2.1, (hg.cell_far ⟨B, 3, none⟩ hl hne).trans h.2.2.2⟩
theorem ZBlock.grown {w w' : World} {R : Nat} {row : Option Nat} (h : ZBlock w R) (hg : w.grownBy w' row) (hne : some R ≠ row) : ZBlock w' R := (hg.block R (heap_lt h) hne).trans h

/-- one arc more -/
theorem OW.arc {w W w' : World} {N s0 gt P G cap H g c : Nat} {fin arcs av : Value} {to xs : List Int} {ars : List ArcD} {a : ArcD} (h : OW w W N s0 gt P G cap fin arcs av to xs ars) (hg : W.grownBy w' av.ownBlock) (hH : W.heap.size = H)
    (hown : w'.ownsRow (w.heap.size + 2) 63 5 (.slice (some ⟨g, 0, none⟩) (ars.length + 1) c) (ars.length + 1) (arcsV ars ++ arcCells a)) (hloc : av.ownBlock = some g ∨ g = H) :
    OW w (w'.setCell ⟨P, 3, none⟩ (.slice (some ⟨g, 0, none⟩) (ars.length + 1) c)) N s0 gt P G cap fin arcs (.slice (some ⟨g, 0, none⟩) (ars.length + 1) c) to xs (ars ++ [a]) := by
  have lP := cell_lt h.out.1
  have lG := h.fin.lt
  have lt := h.row.lt
  have hgP : g ≠ P := by
    rcases hloc with e | e
    · exact fun e2 => h.aP (by rw [e, e2])
    · omega
  have hgG : g ≠ G := by
    rcases hloc with e | e
    · exact fun e2 => h.aG (by rw [e, e2])
    · omega
  have hgt : g ≠ gt := by
    rcases hloc with e | e
    · exact fun e2 => h.at_ (by rw [e, e2])
    · omega
  have hb0 : some w.heap.size ≠ av.ownBlock := fun e => by have := own_base h.ar _ e.symm; omega
  have hb1 : some (w.heap.size + 1) ≠ av.ownBlock := fun e => by have := own_base h.ar _ e.symm; omega
  have hP1 : w.heap.size ≠ P := by have := h.gP; omega
  have hP2 : w.heap.size + 1 ≠ P := by have := h.gP; omega
  obtain ⟨k0, k1, k2, k3⟩ := h.out.grown1 hg (Ne.symm h.aP)
  have hbel : Below w.heap.size w w' := h.bel.grown hg h.bel.size (fun g' hg' => by have := own_base h.ar g' hg'; omega)
  refine ⟨(h.cf.grown1 hg hb0).set hP1, heap_far (h.zb.grown hg hb1) hP2, (h.row.grown hg (Ne.symm h.at_)).other h.tP, ⟨set_off k0 (by decide), set_off k1 (by decide), set_off k2 (by decide), World.cell?_setCell_same _ _ _ k3⟩, ?_, (h.fin.grown hg (Ne.symm h.aG)).other (Ne.symm h.PG), ?_, h.gt1, h.gP, h.gG, h.tP, h.tG, h.PG, ?_, ?_, ?_, hbel.setCell (p := ⟨P, 3, none⟩) (by have := h.gP; show w.heap.size ≤ P; omega) _⟩
  · rw [World.frozen?_setCell]; exact (hg.frozen_far ⟨P, 3, none⟩ lP (Ne.symm h.aP)).trans h.frz
  · rw [arcsV_snoc, List.length_append, List.length_singleton]
    exact ownsRow_setCell_far hown (by simpa [Value.ownBlock] using hgP)
  · simpa [Value.ownBlock] using hgt
  · simpa [Value.ownBlock] using hgP
  · simpa [Value.ownBlock] using hgG

theorem OW.lts {w wx : World} {N s0 gt P G cap : Nat} {fin arcs av : Value} {to xs : List Int} {ars : List ArcD} (h : OW w wx N s0 gt P G cap fin arcs av to xs ars) : w.heap.size + 1 < wx.heap.size ∧ gt < wx.heap.size ∧ P < wx.heap.size ∧ G < wx.heap.size :=
  ⟨heap_lt h.zb, h.row.lt, cell_lt h.out.1, h.fin.lt⟩
theorem OW.far {w wx : World} {N s0 gt P G cap : Nat} {fin arcs av : Value} {to xs : List Int} {ars : List ArcD} (h : OW w wx N s0 gt P G cap fin arcs av to xs ars) {V i : Nat} {u : Value} (h0 : w.heap.size < V) (h1 : w.heap.size + 1 ≠ V) (h2 : gt ≠ V) (h3 : P ≠ V) (h4 : G ≠ V) (h5 : av.ownBlock ≠ some V) : OW w (wx.setCell ⟨V, i, none⟩ u) N s0 gt P G cap fin arcs av to xs ars :=
  ⟨h.cf.set (by omega), heap_far h.zb h1, h.row.other h2, h.out.set h3, by rw [World.frozen?_setCell]; exact h.frz, h.fin.other h4, ownsRow_setCell_far h.ar h5, h.gt1, h.gP, h.gG, h.tP, h.tG, h.PG, h.at_, h.aP, h.aG, h.bel.setCell (p := ⟨V, i, none⟩) (by show w.heap.size ≤ V; omega) _⟩

theorem greatA_snoc (l : List ArcD) (a : ArcD) : greatA (l ++ [a]) = (greatA l || decide (1000000000 < a.wt)) := by simp [greatA]
theorem greatA_take (to : List Int) (l : List ArcD) (k : Nat) (h : greatA (pushA to (l.take k)) = true) : greatA (pushA to l) = true := by
  have e : pushA to l = pushA to (l.take k) ++ pushA to (l.drop k) := by
    unfold pushA
    rw [← List.map_append, ← List.filter_append, List.take_append_drop]
  rw [e]
  simp only [greatA, List.any_append] at h ⊢
  rw [h]; rfl

/-- what 'PushOf' answers: nothing that was there before -/
def PushResO (w : World) (d : FstD × Int × Int) (e : Ending) (w' : World) : Prop :=
  ∃ fa fn fc ba bn bc, e = .returned (.tuple #[.agg #[.int .i64 d.1.states, .int .i64 d.1.start, .slice fa fn fc, .slice ba bn bc], .int .i64 d.2.1, .int .i64 d.2.2]) ∧ ISlice w' (.slice fa fn fc) d.1.final ∧ ASlice w' (.slice ba bn bc) d.1.arcs ∧ Below w.heap.size w w' ∧ (∀ g, (Value.slice fa fn fc).ownBlock = some g → w.heap.size ≤ g) ∧ ∀ g, (Value.slice ba bn bc).ownBlock = some g → w.heap.size ≤ g
theorem own_none (n : Nat) : ∀ g, (Value.slice none 0 0).ownBlock = some g → n ≤ g := fun g h => by cases h
theorem own_at {G a b : Nat} (n : Nat) (h : n ≤ G) : ∀ g, (Value.slice (some ⟨G, 0, none⟩) a b).ownBlock = some g → n ≤ g := fun g hg => by
  have hg' : some G = some g := hg
  injection hg' with hg'
  omega

theorem toD_bounds {f : FstD} {N s0 : Nat} (h : OkF f N s0) : (toD f).length = N ∧ ∀ v, -1 ≤ gI (toD f) v ∧ gI (toD f) v ≤ 201000000000 := by
  have hE : ∀ e ∈ (edT f).reverse, e.v < f.final.length ∧ 0 ≤ e.w := by
    intro e he
    rw [h.len]
    exact h.eT e (List.mem_reverse.1 he)
  have hi : ∀ r, ∃ y, Inv (edT f) f.final (rounds (edT f).reverse f.final r) y := by
    intro r
    induction r with
    | zero => exact ⟨_, Inv.start h.bT.1 h.bT.2⟩
    | succ r ih =>
      obtain ⟨y, hy⟩ := ih
      have key : ∀ (L : List Edg) (c y : List Int), (∀ e ∈ L, e ∈ edT f) → Inv (edT f) f.final c y → ∃ y', Inv (edT f) f.final (relAll L c) y' := by
        intro L
        induction L with
        | nil => intro c y _ hy; exact ⟨y, hy⟩
        | cons e L ih2 =>
          intro c y hL hy
          have he := hL e List.mem_cons_self
          obtain ⟨a, ha, hea⟩ := List.mem_map.1 he
          have hw : e.w ≤ 1000000000 := by rw [← hea]; exact (h.arcs a ha).2.2.2
          obtain ⟨y1, hy1⟩ := hy.rel (by rw [h.len]; exact h.n2) he (by rw [h.len]; exact (h.eT e he).1) (h.eT e he).2 hw
          exact ih2 _ y1 (fun e' he' => hL e' (List.mem_cons_of_mem _ he')) hy1
      exact key _ _ y (fun e he => List.mem_reverse.1 he) hy
  obtain ⟨y, hy⟩ := hi N
  have e : toD f = rounds (edT f).reverse f.final N := by unfold toD; rw [h.st, Int.toNat_natCast]
  rw [e]
  exact ⟨by rw [hy.len, h.len], fun v => ⟨hy.lo v, hy.top (by rw [h.len]; exact h.n2) v⟩⟩

set_option maxHeartbeats 2000000 in
set_option maxRecDepth 100000 in
theorem pushOf_ok (f : FstD) (N s0 : Nat) (fb fo fc : Nat) (aa : Option Addr) (m ac : Nat) (w : World) (hok : OkF f N s0) (hf : IntsAt w fb fo N f.final) (ha : ASlice w (.slice aa m ac) f.arcs) (hal : f.arcs.length = m) (d : FstD × Int × Int) (hd : d = pushD f (toD f)) :
    Calls Try.prog 41 #[.agg #[.int .i64 (N : Int), .int .i64 (s0 : Int), .slice (some ⟨fb, fo, none⟩) N fc, .slice aa m ac]] w fun e w' => PushResO w d e w' := by
  have HD : Hid (d = pushD f (toD f)) := hd
  have HOK : Hid (OkF f N s0) := hok
  have hn1 := hok.n1
  have hn2 := hok.n2
  have hs := hok.s
  have hm : m ≤ 3000 := by have := hok.many; omega
  have HAL : Hid (f.arcs.length = m) := hal
  have HBL : Hid (f.final.length = N) := hok.len
  have HTB : Hid (∀ v, -1 ≤ gI (toD f) v ∧ gI (toD f) v ≤ 201000000000) := (toD_bounds hok).2
  clear hok hd
  obtain ⟨i0, hi, hz0, hz1, hz2⟩ := info_parts Try.info3
  obtain ⟨j0, hj0, hj1, hj2, hj3⟩ := info_parts Try.info63
  have hb0 := two_up w (.cells #[.int .i64 (N : Int), .int .i64 (s0 : Int), .slice (some ⟨fb, fo, none⟩) N fc, .slice aa m ac] 25) (.cells #[.int .i64 0, .int .i64 0, .slice none 0 0, .slice none 0 0] 25)
  have hcf0 := (cellsF_new w (N : Int) (s0 : Int) (.slice (some ⟨fb, fo, none⟩) N fc) (.slice aa m ac) 25).below (bel_up (bel_self _) (.cells #[.int .i64 0, .int .i64 0, .slice none 0 0, .slice none 0 0] 25))
  have hzb0 : ZBlock ((w.alloc (.cells #[.int .i64 (N : Int), .int .i64 (s0 : Int), .slice (some ⟨fb, fo, none⟩) N fc, .slice aa m ac] 25)).alloc (.cells #[.int .i64 0, .int .i64 0, .slice none 0 0, .slice none 0 0] 25)) (w.heap.size + 1) := by
    have := heap_alloc_new (w.alloc (.cells #[.int .i64 (N : Int), .int .i64 (s0 : Int), .slice (some ⟨fb, fo, none⟩) N fc, .slice aa m ac] 25)) (.cells #[.int .i64 0, .int .i64 0, .slice none 0 0, .slice none 0 0] 25)
    unfold ZBlock
    simpa using this
  have hto := toOf_ok f N s0 fb fo fc aa m ac _ HOK.out (hf.below hb0) (ha.below hb0) hal
  go_enter Try.func41, Try.ntmps41
  go_wp2_with (first | (go_at_call 40; refine hto.mono ?_; rintro e w1 ⟨gt, tc, rfl, hrow, hgt, hb1⟩))
  have hcf1 := hcf0.below hb1
  have hzb1 := heap_bel hb1 hzb0
  have hgt1 : w.heap.size + 1 < gt := by simp at hgt; omega
  have hbw1 := bel_on hb0 hb1
  clear hto hcf0 hzb0 hb0 hb1 hgt
  obtain ⟨Wd, hWd⟩ : ∃ Wd, Wd = w1.drew := ⟨_, rfl⟩
  have hu1 : Below w1.heap.size w1 Wd := by rw [hWd]; exact (bel_self w1).drew
  have HCF : Hid (∀ wx : World, Below Wd.heap.size Wd wx → CellsF wx w.heap.size (N : Int) (s0 : Int) (.slice (some ⟨fb, fo, none⟩) N fc) (.slice aa m ac)) := fun wx h => (hcf1.below hu1).below h
  have HZB : Hid (∀ wx : World, Below Wd.heap.size Wd wx → ZBlock wx (w.heap.size + 1)) := fun wx h => heap_bel h (heap_bel hu1 hzb1)
  have HRW : Hid (∀ wx : World, Below Wd.heap.size Wd wx → NumsAt wx gt N (toD f)) := fun wx h => (hrow.below hu1).below h
  have hbd : Below w.heap.size w Wd := bel_on hbw1 hu1
  have HNW : Hid (∀ wx : World, Below Wd.heap.size Wd wx → ∀ j u, (f.final.map (Value.int .i64))[j]? = some u → wx.cell? ((⟨fb, fo, none⟩ : Addr).add j) = some u) := fun wx h => ints_news ((hf.below hbd).below h)
  obtain ⟨s0', s1', s2', s3'⟩ := HCF.out Wd (bel_self Wd)
  have hgtl := (HRW.out Wd (bel_self Wd)).lt
  have hzl := heap_lt (HZB.out Wd (bel_self Wd))
  have hS0 : (fun wx : World => wx.cell? ⟨w.heap.size, 0, none⟩ = some (.int .i64 N) ∧ wx.cell? ⟨w.heap.size, 1, none⟩ = some (.int .i64 s0) ∧ wx.cell? ⟨w.heap.size, 2, none⟩ = some (.slice (some ⟨fb, fo, none⟩) N fc)) Wd := ⟨s0', s1', s2'⟩
  have HSB : Hid (∀ wx : World, Below Wd.heap.size Wd wx → (fun wx : World => wx.cell? ⟨w.heap.size, 0, none⟩ = some (.int .i64 N) ∧ wx.cell? ⟨w.heap.size, 1, none⟩ = some (.int .i64 s0) ∧ wx.cell? ⟨w.heap.size, 2, none⟩ = some (.slice (some ⟨fb, fo, none⟩) N fc)) wx) := fun wx h => ⟨bel_c h s0', bel_c h s1', bel_c h s2'⟩
  have HW : Hid (Wd = w1.drew) := hWd
  clear hWd hcf1 hzb1 hrow hbw1 hu1 s0' s1' s2' s3' hf hal
  go_cut [6] from 10 (fun t6 wx => ∃ P G cap : Nat, t6 = .pointer (some ⟨P, 0, none⟩) ∧ OW w wx N s0 gt P G cap (.slice (some ⟨fb, fo, none⟩) N fc) (.slice aa m ac) (.slice none 0 0) (toD f) f.final [])
  case first =>
    refine wp_region_noPanic ?_
    refine wp_region_U (fun wx => wx.cell? ⟨w.heap.size, 0, none⟩ = some (.int .i64 N) ∧ wx.cell? ⟨w.heap.size, 1, none⟩ = some (.int .i64 s0) ∧ wx.cell? ⟨w.heap.size, 2, none⟩ = some (.slice (some ⟨fb, fo, none⟩) N fc)) 10 (by kernel_rfl) (by rw [← HW.out]; exact hS0) (fun _ => ?_)
    rw [← HW.out]
    clear HW
    refine wpAnyU_take (i := 0) (v := .pointer (some ⟨w.heap.size, 0, none⟩)) rfl (by kernel_rfl) (by kernel_rfl) (by kernel_rfl) (by kernel_rfl) (fun _ _ _ h => h) (Or.inl ⟨by rfl, fun wl hSw => ?_⟩) hS0 ?_
    · (try dsimp only at hSw); go_simp
    refine wpAnyU_take (i := 1) (v := .int .i64 N) rfl (by kernel_rfl) (by kernel_rfl) (by kernel_rfl) (by kernel_rfl) (fun _ _ _ h => h) (Or.inl ⟨by rfl, fun wl hSw => ?_⟩) hS0 ?_
    · (try dsimp only at hSw); go_simp
    refine wpAnyU_take (i := 2) (v := .pointer (some ⟨w.heap.size, 1, none⟩)) rfl (by kernel_rfl) (by kernel_rfl) (by kernel_rfl) (by kernel_rfl) (fun _ _ _ h => h) (Or.inl ⟨by rfl, fun wl hSw => ?_⟩) hS0 ?_
    · (try dsimp only at hSw); go_simp
    refine wpAnyU_take (i := 3) (v := .int .i64 s0) rfl (by kernel_rfl) (by kernel_rfl) (by kernel_rfl) (by kernel_rfl) (fun _ _ _ h => h) (Or.inl ⟨by rfl, fun wl hSw => ?_⟩) hS0 ?_
    · (try dsimp only at hSw); go_simp
    refine wpAnyU_take (i := 5) (v := .pointer (some ⟨w.heap.size, 2, none⟩)) rfl (by kernel_rfl) (by kernel_rfl) (by kernel_rfl) (by kernel_rfl) (fun _ _ _ h => h) (Or.inl ⟨by rfl, fun wl hSw => ?_⟩) hS0 ?_
    · (try dsimp only at hSw); go_simp
    refine wpAnyU_take (i := 6) (v := .slice (some ⟨fb, fo, none⟩) N fc) rfl (by kernel_rfl) (by kernel_rfl) (by kernel_rfl) (by kernel_rfl) (fun _ _ _ h => h) (Or.inl ⟨by rfl, fun wl hSw => ?_⟩) hS0 ?_
    · (try dsimp only at hSw); go_simp
    refine wpAnyU_two (i := 4) (j := 9) rfl rfl (by kernel_rfl) (fun K hK => ?_) (fun K hK => ?_)
    · go_simp
      have hbL := bel_up (bel_self Wd) (.cells #[] 3)
      refine hK.out _ _ ⟨fun _ => HSB.out _ hbL, ?_⟩
      clear hK K
      refine wpAnyU_two (i := 7) (j := 9) rfl rfl (by kernel_rfl) (fun K hK => ?_) (fun K hK => ?_)
      · skip
        refine if_wanted rfl (wp_append_lies _ _ _ 22 rfl (w.heap.size + 2) 3 i0 (.int .i64 0) 1 8 Try.underlying22 hi hz0 hz1 hz2 rfl (by decide) (.slice (some ⟨Wd.heap.size, 0, none⟩) 0 0) 0 [] rfl (lit1 Wd _ (by omega)) ⟨fb, fo, none⟩ N fc (f.final.map (Value.int .i64)) rfl (by rw [List.length_map, HBL.out, Nat.mul_one]) (HNW.out _ hbL) (ints_ones _) (by omega) (by unfold maxLen; omega) (by omega) (by simp; omega) _ rfl ?_)
        intro G cap w4 hown hgrow hloc hG4
        rw [Nat.zero_add, List.nil_append] at hown
        simp only [Nat.zero_add]
        have hb4 : Below Wd.heap.size Wd w4 := hbL.grown hgrow (by simp <;> omega) (fun g hg => by
          have hg' : some Wd.heap.size = some g := hg
          injection hg' with hg'
          omega)
        have hGg : Wd.heap.size ≤ G := by
          rcases hloc with e | e
          · have e' : some Wd.heap.size = some G := e
            injection e' with e'
            omega
          · rw [e]; simp <;> omega
        obtain ⟨n4, _⟩ := NumsAt.of_row hown
        refine hK.out _ _ ⟨fun _ => HSB.out _ hb4, ?_⟩
        clear hK K
        refine wpAnyU_take (i := 8) (v := .agg #[.int .i64 N, .int .i64 s0, .slice (some ⟨G, 0, none⟩) N cap, .slice none 0 0]) rfl (by kernel_rfl) (by kernel_rfl) (by kernel_rfl) (by kernel_rfl) (fun _ _ _ h => h) (Or.inl ⟨by rfl, fun wl hSw => ?_⟩) (HSB.out _ hb4) ?_
        · (try dsimp only at hSw); go_simp
        have hbZ := bel_up hb4 (.cells #[.int .i64 0, .int .i64 0, .slice none 0 0, .slice none 0 0] 25)
        refine wpAnyU_one (i := 9) rfl (by kernel_rfl) (fun K hK => ?_)
        go_simp
        refine hK.out _ _ ⟨fun _ => HSB.out _ hbZ, ?_⟩
        clear hK K
        have hzP : ZBlock (w4.alloc (.cells #[.int .i64 0, .int .i64 0, .slice none 0 0, .slice none 0 0] 25)) w4.heap.size := heap_alloc_new w4 _
        obtain ⟨z0, z1, z2, z3, y0, y1, y2, y3⟩ := zfacts hzP
        have hM : Hid (∃ P1 G1 cap1 : Nat, Value.pointer (some ⟨w4.heap.size, 0, none⟩) = .pointer (some ⟨P1, 0, none⟩) ∧ OW w (w4.alloc (.cells #[.int .i64 (N : Int), .int .i64 (s0 : Int), .slice (some ⟨G, 0, none⟩) N cap, .slice none 0 0] 25)) N s0 gt P1 G1 cap1 (.slice (some ⟨fb, fo, none⟩) N fc) (.slice aa m ac) (.slice none 0 0) (toD f) f.final []) := ⟨w4.heap.size, G, cap, rfl, OW.new (HCF.out _ hb4) (HZB.out _ hb4) (HRW.out _ hb4) n4 hgt1 (by omega) (by omega) (bel_on hbd hb4)⟩
        refine wpAnyU_one (i := 10) rfl (by kernel_rfl) (fun K hK => ?_)
        go_simp
        refine hK.out _ _ ⟨fun h => absurd rfl h, ?_⟩
        clear hK K
        refine wpAnyU_done (by kernel_rfl) ?_ _
        refine NoPanic.normal ?_
        go_wp2
        go_meet
        case rel => exact hM.out
      · go_simp
        have hbZ := bel_up hbL (.cells #[.int .i64 0, .int .i64 0, .slice none 0 0, .slice none 0 0] 25)
        refine hK.out _ _ ⟨fun _ => HSB.out _ hbZ, ?_⟩
        clear hK K
        refine wpAnyU_one (i := 7) rfl (by kernel_rfl) (fun K hK => ?_)
        refine if_wanted rfl (wp_append_lies _ _ _ 22 rfl (w.heap.size + 2) 3 i0 (.int .i64 0) 1 8 Try.underlying22 hi hz0 hz1 hz2 rfl (by decide) (.slice (some ⟨Wd.heap.size, 0, none⟩) 0 0) 0 [] rfl ((lit1 Wd _ (by omega)).alloc _) ⟨fb, fo, none⟩ N fc (f.final.map (Value.int .i64)) rfl (by rw [List.length_map, HBL.out, Nat.mul_one]) (HNW.out _ hbZ) (ints_ones _) (by omega) (by unfold maxLen; omega) (by omega) (by simp; omega) _ rfl ?_)
        intro G cap w4 hown hgrow hloc hG4
        rw [Nat.zero_add, List.nil_append] at hown
        simp only [Nat.zero_add]
        have hb4 : Below Wd.heap.size Wd w4 := hbZ.grown hgrow (by simp <;> omega) (fun g hg => by
          have hg' : some Wd.heap.size = some g := hg
          injection hg' with hg'
          omega)
        have hGg : Wd.heap.size ≤ G := by
          rcases hloc with e | e
          · have e' : some Wd.heap.size = some G := e
            injection e' with e'
            omega
          · rw [e]; simp <;> omega
        obtain ⟨n4, _⟩ := NumsAt.of_row hown
        refine hK.out _ _ ⟨fun _ => HSB.out _ hb4, ?_⟩
        clear hK K
        refine wpAnyU_take (i := 8) (v := .agg #[.int .i64 N, .int .i64 s0, .slice (some ⟨G, 0, none⟩) N cap, .slice none 0 0]) rfl (by kernel_rfl) (by kernel_rfl) (by kernel_rfl) (by kernel_rfl) (fun _ _ _ h => h) (Or.inl ⟨by rfl, fun wl hSw => ?_⟩) (HSB.out _ hb4) ?_
        · (try dsimp only at hSw); go_simp
        have hzP : ZBlock w4 (Wd.heap.size + 1) := ZBlock.grown (w := (Wd.alloc (.cells #[] 3)).alloc (.cells #[.int .i64 0, .int .i64 0, .slice none 0 0, .slice none 0 0] 25)) (by have := heap_alloc_new (Wd.alloc (.cells #[] 3)) (.cells #[.int .i64 0, .int .i64 0, .slice none 0 0, .slice none 0 0] 25); unfold ZBlock; simpa using this) hgrow (fun h => by have h' : some (Wd.heap.size + 1) = some Wd.heap.size := h; injection h' with h'; omega)
        have hGP : Wd.heap.size + 1 ≠ G := by
          rcases hloc with e | e
          · have e' : some Wd.heap.size = some G := e
            injection e' with e'
            omega
          · rw [e]; simp
        obtain ⟨z0, z1, z2, z3, y0, y1, y2, y3⟩ := zfacts hzP
        have hM : Hid (∃ P1 G1 cap1 : Nat, Value.pointer (some ⟨Wd.heap.size + 1, 0, none⟩) = .pointer (some ⟨P1, 0, none⟩) ∧ OW w ((((w4.setCell ⟨Wd.heap.size + 1, 0, none⟩ (.int .i64 N)).setCell ⟨Wd.heap.size + 1, 1, none⟩ (.int .i64 s0)).setCell ⟨Wd.heap.size + 1, 2, none⟩ (.slice (some ⟨G, 0, none⟩) N cap)).setCell ⟨Wd.heap.size + 1, 3, none⟩ (.slice none 0 0)) N s0 gt P1 G1 cap1 (.slice (some ⟨fb, fo, none⟩) N fc) (.slice aa m ac) (.slice none 0 0) (toD f) f.final []) := ⟨Wd.heap.size + 1, G, cap, rfl, OW.make (HCF.out _ hb4) (HZB.out _ hb4) (HRW.out _ hb4) hzP n4 hgt1 (by omega) (by omega) (by omega) (by omega) hGP (bel_on hbd hb4)⟩
        refine wpAnyU_one (i := 10) rfl (by kernel_rfl) (fun K hK => ?_)
        go_simp
        refine hK.out _ _ ⟨fun h => absurd rfl h, ?_⟩
        clear hK K
        refine wpAnyU_done (by kernel_rfl) ?_ _
        refine NoPanic.normal ?_
        go_wp2
        go_meet
        case rel => exact hM.out
    · go_simp
      have hbZ := bel_up (bel_self Wd) (.cells #[.int .i64 0, .int .i64 0, .slice none 0 0, .slice none 0 0] 25)
      refine hK.out _ _ ⟨fun _ => HSB.out _ hbZ, ?_⟩
      clear hK K
      refine wpAnyU_one (i := 4) rfl (by kernel_rfl) (fun K hK => ?_)
      go_simp
      have hbL := bel_up hbZ (.cells #[] 3)
      refine hK.out _ _ ⟨fun _ => HSB.out _ hbL, ?_⟩
      clear hK K
      refine wpAnyU_one (i := 7) rfl (by kernel_rfl) (fun K hK => ?_)
      refine if_wanted rfl (wp_append_lies _ _ _ 22 rfl (w.heap.size + 2) 3 i0 (.int .i64 0) 1 8 Try.underlying22 hi hz0 hz1 hz2 rfl (by decide) (.slice (some ⟨(Wd.heap.size + 1), 0, none⟩) 0 0) 0 [] rfl (by have := lit1 (Wd.alloc (.cells #[.int .i64 0, .int .i64 0, .slice none 0 0, .slice none 0 0] 25)) (w.heap.size + 2) (by simp; omega); simpa using this) ⟨fb, fo, none⟩ N fc (f.final.map (Value.int .i64)) rfl (by rw [List.length_map, HBL.out, Nat.mul_one]) (HNW.out _ hbL) (ints_ones _) (by omega) (by unfold maxLen; omega) (by omega) (by simp; omega) _ rfl ?_)
      intro G cap w4 hown hgrow hloc hG4
      rw [Nat.zero_add, List.nil_append] at hown
      simp only [Nat.zero_add]
      have hb4 : Below Wd.heap.size Wd w4 := hbL.grown hgrow (by simp <;> omega) (fun g hg => by
        have hg' : some (Wd.heap.size + 1) = some g := hg
        injection hg' with hg'
        omega)
      have hGg : Wd.heap.size ≤ G := by
        rcases hloc with e | e
        · have e' : some (Wd.heap.size + 1) = some G := e
          injection e' with e'
          omega
        · rw [e]; simp <;> omega
      obtain ⟨n4, _⟩ := NumsAt.of_row hown
      refine hK.out _ _ ⟨fun _ => HSB.out _ hb4, ?_⟩
      clear hK K
      refine wpAnyU_take (i := 8) (v := .agg #[.int .i64 N, .int .i64 s0, .slice (some ⟨G, 0, none⟩) N cap, .slice none 0 0]) rfl (by kernel_rfl) (by kernel_rfl) (by kernel_rfl) (by kernel_rfl) (fun _ _ _ h => h) (Or.inl ⟨by rfl, fun wl hSw => ?_⟩) (HSB.out _ hb4) ?_
      · (try dsimp only at hSw); go_simp
      have hzP : ZBlock w4 Wd.heap.size := ZBlock.grown (w := (Wd.alloc (.cells #[.int .i64 0, .int .i64 0, .slice none 0 0, .slice none 0 0] 25)).alloc (.cells #[] 3)) (heap_bel (bel_up (bel_self _) _) (heap_alloc_new Wd _)) hgrow (fun h => by have h' : some Wd.heap.size = some (Wd.heap.size + 1) := h; injection h' with h'; omega)
      have hGP : Wd.heap.size ≠ G := by
        rcases hloc with e | e
        · have e' : some (Wd.heap.size + 1) = some G := e
          injection e' with e'
          omega
        · rw [e]; simp; omega
      obtain ⟨z0, z1, z2, z3, y0, y1, y2, y3⟩ := zfacts hzP
      have hM : Hid (∃ P1 G1 cap1 : Nat, Value.pointer (some ⟨Wd.heap.size, 0, none⟩) = .pointer (some ⟨P1, 0, none⟩) ∧ OW w ((((w4.setCell ⟨Wd.heap.size, 0, none⟩ (.int .i64 N)).setCell ⟨Wd.heap.size, 1, none⟩ (.int .i64 s0)).setCell ⟨Wd.heap.size, 2, none⟩ (.slice (some ⟨G, 0, none⟩) N cap)).setCell ⟨Wd.heap.size, 3, none⟩ (.slice none 0 0)) N s0 gt P1 G1 cap1 (.slice (some ⟨fb, fo, none⟩) N fc) (.slice aa m ac) (.slice none 0 0) (toD f) f.final []) := ⟨Wd.heap.size, G, cap, rfl, OW.make (HCF.out _ hb4) (HZB.out _ hb4) (HRW.out _ hb4) hzP n4 hgt1 (by omega) (by omega) (by omega) (by omega) hGP (bel_on hbd hb4)⟩
      refine wpAnyU_one (i := 10) rfl (by kernel_rfl) (fun K hK => ?_)
      go_simp
      refine hK.out _ _ ⟨fun h => absurd rfl h, ?_⟩
      clear hK K
      refine wpAnyU_done (by kernel_rfl) ?_ _
      refine NoPanic.normal ?_
      go_wp2
      go_meet
      case rel => exact hM.out
  case rest =>
    clear HCF HZB HRW HNW HSB HW hS0 hbd hgtl hzl
    obtain ⟨P, G, cap, rfl, hO⟩ := hcut
    rename World => w5
    obtain ⟨q0, q1, q2, q3⟩ := hO.cf
    obtain ⟨o0, o1, o2, o3⟩ := hO.out
    obtain ⟨x, hx⟩ : ∃ x, x = gI (toD f) s0 := ⟨_, rfl⟩
    have t0 := hO.row.cell s0 hs
    rw [← hx] at t0
    obtain ⟨hx1, hx2⟩ := HTB.out s0
    rw [← hx] at hx1 hx2
    have HX : Hid (x = gI (toD f) s0) := hx
    clear hx
    have hsi : (s0 : Int) < N := by omega
    obtain ⟨z0, z1, z2, z3, y0, y1, y2, y3⟩ := zfacts hO.zb
    have hR : w.heap.size + 1 ≠ P := by have := hO.gP; omega
    by_cases hneg : x < 0
    · have hx3 : x = -1 := by omega
      go_wp2
      refine bodyPost_ret (v := .tuple #[.agg #[.int .i64 N, .int .i64 s0, .slice (some ⟨G, 0, none⟩) N cap, .slice none 0 0], .int .i64 (-1), .int .i64 0]) (by simp [results, Try.results41, go_sem, *]) rfl ?_
      have e : d = (⟨N, s0, f.final, []⟩, -1, 0) := by
        rw [HD.out]
        unfold pushD
        rw [HOK.out.sta, HOK.out.st, Int.toNat_natCast, if_pos (by rw [← HX.out]; exact hx3)]
      rw [e]
      exact ⟨_, _, _, _, _, _, rfl, isl_set4 (hO.fin.slice cap (by unfold maxLen; omega)) (by have := hO.gG; simp [Value.ownBlock]; omega) _ _ _ _, nil_arcs _, bel_set4 hO.bel (by omega) _ _ _ _, own_at _ (by have := hO.gG; omega), own_none _⟩
    · go_wp2
      clear q0 q1 q2 q3 o0 o1 o2 o3 t0 z0 z1 z2 z3 y0 y1 y2 y3
      have hNI : (0 : Int) ≤ N := by omega
      go_loopw [7] (fun i wr => ∃ k : Nat, k ≤ N ∧ i = .int .i64 k ∧ OW w wr N s0 gt P G cap (.slice (some ⟨fb, fo, none⟩) N fc) (.slice aa m ac) (.slice none 0 0) (toD f) (mixF (toD f) f.final k) []) (fun i _ => N - (intOf i).toNat)
      case atStart => exact ⟨0, Nat.zero_le _, rfl, by rw [mixF_zero]; exact hO⟩
      case round =>
        clear hO
        obtain ⟨k, hk, rfl, hO⟩ := hrel
        obtain ⟨q0, q1, q2, q3⟩ := hO.cf
        obtain ⟨o0, o1, o2, o3⟩ := hO.out
        by_cases hlt : k < N
        · have hki : (k : Int) < N := by omega
          have hkl : k < f.final.length := by have := HBL.out; omega
          have g0 := hO.fin.cell k hlt
          have gz := hO.fin.frz k
          have t0 := hO.row.cell k hlt
          rw [mixF_at _ _ _ hkl] at g0
          obtain ⟨v, hv⟩ : ∃ v, v = f.final.getD k 0 := ⟨_, rfl⟩
          rw [← hv] at g0
          have hvm := HOK.out.fin v (by rw [hv]; simp [List.getD, hkl])
          have HSUC : Hid ((mixF (toD f) f.final k).set k (pf (gI (toD f) k) v) = mixF (toD f) f.final (k + 1)) := (by rw [hv]; exact mixF_succ _ _ _ hkl : (mixF (toD f) f.final k).set k (pf (gI (toD f) k) v) = mixF (toD f) f.final (k + 1))
          have HSAM : Hid (v = -1 → mixF (toD f) f.final (k + 1) = mixF (toD f) f.final k) := fun e => mixF_same _ _ _ hkl (by rw [← hv]; exact e)
          clear hv
          obtain ⟨hl1, hl2⟩ := HTB.out k
          by_cases hvn : v = -1
          · have HV : Hid (v = -1) := hvn
            have hvl : v < 0 := by omega
            clear hvn
            go_wp2
            go_roundw
            case rel => exact ⟨k + 1, by omega, by go_num, by rw [HSAM.out HV.out]; exact hO⟩
            case measure => simp [intOf]; omega
          · have hvl : 0 ≤ v := by omega
            have hvb : (v != -1) = true := by simpa using hvn
            have HP : Hid (pf (gI (toD f) k) v = v - gI (toD f) k) := (by unfold pf; rw [if_neg hvn] : pf (gI (toD f) k) v = v - gI (toD f) k)
            go_wp2
            obtain ⟨Wd, hWd⟩ : ∃ Wd, Wd = wr.drew := ⟨_, rfl⟩
            have hOd : OW w Wd N s0 gt P G cap (.slice (some ⟨fb, fo, none⟩) N fc) (.slice aa m ac) (.slice none 0 0) (toD f) (mixF (toD f) f.final k) [] := by rw [hWd]; exact hO.below (bel_self wr).drew
            have hS0 : (fun wx : World => wx.cell? ⟨P, 2, none⟩ = some (.slice (some ⟨G, 0, none⟩) N cap) ∧ wx.cell? ⟨G, k, none⟩ = some (.int .i64 v) ∧ wx.cell? ⟨gt, k, none⟩ = some (.int .i64 (gI (toD f) k))) Wd := by rw [hWd]; exact ⟨drew_cell o2, drew_cell g0, drew_cell t0⟩
            have gz' := hOd.fin.frz k
            clear q0 q1 q2 q3 o0 o1 o2 o3 g0 t0 gz hO
            refine wp_region_noPanic ?_
            refine wp_region_U (fun wx => wx.cell? ⟨P, 2, none⟩ = some (.slice (some ⟨G, 0, none⟩) N cap) ∧ wx.cell? ⟨G, k, none⟩ = some (.int .i64 v) ∧ wx.cell? ⟨gt, k, none⟩ = some (.int .i64 (gI (toD f) k))) 11 (by kernel_rfl) (by rw [← hWd]; exact hS0) (fun _ => ?_)
            rw [← hWd]
            clear hWd
            obtain ⟨d0, d1, d2⟩ := hS0
            have hS0 : (fun wx : World => wx.cell? ⟨P, 2, none⟩ = some (.slice (some ⟨G, 0, none⟩) N cap) ∧ wx.cell? ⟨G, k, none⟩ = some (.int .i64 v) ∧ wx.cell? ⟨gt, k, none⟩ = some (.int .i64 (gI (toD f) k))) Wd := ⟨d0, d1, d2⟩
            refine wpAnyU_take (i := 0) (v := .pointer (some ⟨P, 2, none⟩)) rfl (by kernel_rfl) (by kernel_rfl) (by kernel_rfl) (by kernel_rfl) (fun _ _ _ h => h) (Or.inl ⟨by rfl, fun wl hSw => ?_⟩) hS0 ?_
            · (try dsimp only at hSw); go_simp
            refine wpAnyU_take (i := 1) (v := .slice (some ⟨G, 0, none⟩) N cap) rfl (by kernel_rfl) (by kernel_rfl) (by kernel_rfl) (by kernel_rfl) (fun _ _ _ h => h) (Or.inl ⟨by rfl, fun wl hSw => ?_⟩) hS0 ?_
            · (try dsimp only at hSw); go_simp
            refine wpAnyU_take (i := 2) (v := .int .i64 k) rfl (by kernel_rfl) (by kernel_rfl) (by kernel_rfl) (by kernel_rfl) (fun _ _ _ h => h) (Or.inl ⟨by rfl, fun wl hSw => ?_⟩) hS0 ?_
            · (try dsimp only at hSw); go_simp
            refine wpAnyU_take (i := 3) (v := .pointer (some ⟨G, k, none⟩)) rfl (by kernel_rfl) (by kernel_rfl) (by kernel_rfl) (by kernel_rfl) (fun _ _ _ h => h) (Or.inl ⟨by rfl, fun wl hSw => ?_⟩) hS0 ?_
            · (try dsimp only at hSw); go_simp
            refine wpAnyU_take (i := 4) (v := .int .i64 v) rfl (by kernel_rfl) (by kernel_rfl) (by kernel_rfl) (by kernel_rfl) (fun _ _ _ h => h) (Or.inl ⟨by rfl, fun wl hSw => ?_⟩) hS0 ?_
            · (try dsimp only at hSw); go_simp
            refine wpAnyU_take (i := 5) (v := .slice (some ⟨gt, 0, none⟩) N tc) rfl (by kernel_rfl) (by kernel_rfl) (by kernel_rfl) (by kernel_rfl) (fun _ _ _ h => h) (Or.inl ⟨by rfl, fun wl hSw => ?_⟩) hS0 ?_
            · (try dsimp only at hSw); go_simp
            refine wpAnyU_take (i := 6) (v := .int .i64 k) rfl (by kernel_rfl) (by kernel_rfl) (by kernel_rfl) (by kernel_rfl) (fun _ _ _ h => h) (Or.inl ⟨by rfl, fun wl hSw => ?_⟩) hS0 ?_
            · (try dsimp only at hSw); go_simp
            refine wpAnyU_take (i := 7) (v := .pointer (some ⟨gt, k, none⟩)) rfl (by kernel_rfl) (by kernel_rfl) (by kernel_rfl) (by kernel_rfl) (fun _ _ _ h => h) (Or.inl ⟨by rfl, fun wl hSw => ?_⟩) hS0 ?_
            · (try dsimp only at hSw); go_simp
            refine wpAnyU_take (i := 8) (v := .int .i64 (gI (toD f) k)) rfl (by kernel_rfl) (by kernel_rfl) (by kernel_rfl) (by kernel_rfl) (fun _ _ _ h => h) (Or.inl ⟨by rfl, fun wl hSw => ?_⟩) hS0 ?_
            · (try dsimp only at hSw); go_simp
            refine wpAnyU_take (i := 9) (v := .int .i64 (v - gI (toD f) k)) rfl (by kernel_rfl) (by kernel_rfl) (by kernel_rfl) (by kernel_rfl) (fun _ _ _ h => h) (Or.inl ⟨by rfl, fun wl hSw => ?_⟩) hS0 ?_
            · (try dsimp only at hSw); go_simp; exact wrap_in _ (by omega) (by omega)
            refine wpAnyU_take (i := 10) (v := .pointer (some ⟨G, k, none⟩)) rfl (by kernel_rfl) (by kernel_rfl) (by kernel_rfl) (by kernel_rfl) (fun _ _ _ h => h) (Or.inl ⟨by rfl, fun wl hSw => ?_⟩) hS0 ?_
            · (try dsimp only at hSw); go_simp
            refine wpAnyU_one (i := 11) rfl (by kernel_rfl) (fun K hK => ?_)
            go_simp
            refine hK.out _ _ ⟨fun h => absurd rfl h, ?_⟩
            clear hK K
            refine wpAnyU_done (by kernel_rfl) ?_ _
            refine NoPanic.normal ?_
            go_wp2
            go_roundw
            case rel => exact ⟨k + 1, by omega, by go_num, by rw [← HSUC.out, HP.out]; exact hOd.set k _ hlt⟩
            case measure => simp [intOf]; omega
        · have hkN : k = N := by omega
          have HOX : Hid (OW w wr N s0 gt P G cap (.slice (some ⟨fb, fo, none⟩) N fc) (.slice aa m ac) (.slice none 0 0) (toD f) (pushF (toD f) f.final N) []) := by
            have h := hO
            rw [hkN, mixF_all _ _ _ (by have := HBL.out; omega)] at h
            exact h
          clear hO hkN
          go_wp2
          clear q0 q1 q2 q3 o0 o1 o2 o3
          have HXN : Hid (¬ gI (toD f) s0 = -1) := (by rw [← HX.out]; omega : ¬ gI (toD f) s0 = -1)
          rename World => w6
          go_loopw [8] (fun i wr => ∃ (k : Nat) (av : Value), k ≤ m ∧ i = .int .i64 k ∧ OW w wr N s0 gt P G cap (.slice (some ⟨fb, fo, none⟩) N fc) (.slice aa m ac) av (toD f) (pushF (toD f) f.final N) (pushA (toD f) (f.arcs.take k)) ∧ greatA (pushA (toD f) (f.arcs.take k)) = false) (fun i _ => m - (intOf i).toNat)
          case atStart => exact ⟨0, _, Nat.zero_le _, rfl, HOX.out, rfl⟩
          case round =>
            clear HOX
            obtain ⟨k, av, hk, rfl, hO, hgr⟩ := hrel
            have HGR : Hid (greatA (pushA (toD f) (f.arcs.take k)) = false) := hgr
            clear hgr
            obtain ⟨q0, q1, q2, q3⟩ := hO.cf
            by_cases hlt : k < m
            · obtain ⟨ab, aoff, rfl, hxa⟩ := (ha.below hO.bel).some (by omega)
              obtain ⟨a, hak⟩ : ∃ a, a = f.arcs.getD k a0 := ⟨_, rfl⟩
              have hkl : k < f.arcs.length := by have := HAL.out; omega
              have hmem : a ∈ f.arcs := by rw [hak]; simp [List.getD, hkl]
              obtain ⟨⟨p1, p2⟩, ⟨p3, p4⟩, p5, p6⟩ := HOK.out.arcs a hmem
              obtain ⟨s, hsa⟩ : ∃ s : Nat, a.src = s := ⟨a.src.toNat, by omega⟩
              obtain ⟨t, hta⟩ : ∃ t : Nat, a.dst = t := ⟨a.dst.toNat, by omega⟩
              have hsN : s < N := by omega
              have htN : t < N := by omega
              have c0 := hxa.c0 k hlt
              have c1 := hxa.c1 k hlt
              have c2 := hxa.c2 k hlt
              have c3 := hxa.c3 k hlt
              have c4 := hxa.c4 k hlt
              rw [← hak] at c0 c1 c2 c3 c4
              rw [hsa] at c0
              rw [hta] at c3
              have HPA : Hid (pushA (toD f) (f.arcs.take (k + 1)) = pushA (toD f) (f.arcs.take k) ++ if ((gI (toD f) s != -1) && (gI (toD f) t != -1)) = true then [⟨s, a.inp, a.out, t, a.wt + (gI (toD f) t - gI (toD f) s)⟩] else []) := by
                show pushA (toD f) (f.arcs.take (k + 1)) = pushA (toD f) (f.arcs.take k) ++ if ((gI (toD f) s != -1) && (gI (toD f) t != -1)) = true then [⟨s, a.inp, a.out, t, a.wt + (gI (toD f) t - gI (toD f) s)⟩] else []
                have h := pushA_take (toD f) f.arcs k a hkl hak
                unfold stayA pushArc at h
                rw [hsa, hta, Int.toNat_natCast, Int.toNat_natCast] at h
                exact h
              clear hak hmem hkl hxa hsa hta p1 p2 p3 p4
              have hlen : (pushA (toD f) (f.arcs.take k)).length ≤ 3000 := by
                have h1 := pushA_len (toD f) (f.arcs.take k)
                rw [List.length_take] at h1
                omega
              have t0 := old_cell (o := .cells #[.int .i64 s, .int .i64 a.inp, .int .i64 a.out, .int .i64 t, .int .i64 a.wt] 63) (hO.row.cell s hsN)
              have t1 := old_cell (o := .cells #[.int .i64 s, .int .i64 a.inp, .int .i64 a.out, .int .i64 t, .int .i64 a.wt] 63) (hO.row.cell t htN)
              obtain ⟨hl1, hl2⟩ := HTB.out s
              obtain ⟨hl3, hl4⟩ := HTB.out t
              have hki : (k : Int) < m := by omega
              have hsi : (s : Int) < N := by omega
              have hti : (t : Int) < N := by omega
              by_cases he : gI (toD f) s < 0
              · have HK : Hid (((gI (toD f) s != -1) && (gI (toD f) t != -1)) = false) := (by rw [show gI (toD f) s = -1 by omega]; rfl : ((gI (toD f) s != -1) && (gI (toD f) t != -1)) = false)
                go_wp2
                go_roundw
                case rel =>
                  refine ⟨k + 1, av, by omega, by go_num, ?_, ?_⟩
                  · rw [HPA.out, HK.out]
                    simp only [Bool.false_eq_true, if_false, List.append_nil]
                    exact hO.below (bel_up (bel_self _) _)
                  · rw [HPA.out, HK.out]
                    simp only [Bool.false_eq_true, if_false, List.append_nil]
                    exact HGR.out
                case measure => simp [intOf]; omega
              · by_cases he2 : gI (toD f) t < 0
                · have HK : Hid (((gI (toD f) s != -1) && (gI (toD f) t != -1)) = false) := (by rw [show gI (toD f) t = -1 by omega]; simp : ((gI (toD f) s != -1) && (gI (toD f) t != -1)) = false)
                  go_wp2
                  go_roundw
                  case rel =>
                    refine ⟨k + 1, av, by omega, by go_num, ?_, ?_⟩
                    · rw [HPA.out, HK.out]
                      simp only [Bool.false_eq_true, if_false, List.append_nil]
                      exact hO.below (bel_up (bel_self _) _)
                    · rw [HPA.out, HK.out]
                      simp only [Bool.false_eq_true, if_false, List.append_nil]
                      exact HGR.out
                  case measure => simp [intOf]; omega
                · have HK : Hid (((gI (toD f) s != -1) && (gI (toD f) t != -1)) = true) := (by rw [Bool.and_eq_true, bne_iff_ne, bne_iff_ne]; omega : ((gI (toD f) s != -1) && (gI (toD f) t != -1)) = true)
                  rw [HK.out, if_pos rfl] at HPA
                  go_wp2
                  obtain ⟨Wd, hWd⟩ : ∃ Wd, Wd = (wr.alloc (.cells #[.int .i64 s, .int .i64 a.inp, .int .i64 a.out, .int .i64 t, .int .i64 a.wt] 63)).drew := ⟨_, rfl⟩
                  have x0 : Wd.cell? ⟨wr.heap.size, 0, none⟩ = some (.int .i64 s) := by rw [hWd]; exact drew_cell (new_cell _ _ _ _ 0 _ rfl rfl)
                  have x1 : Wd.cell? ⟨wr.heap.size, 1, none⟩ = some (.int .i64 a.inp) := by rw [hWd]; exact drew_cell (new_cell _ _ _ _ 1 _ rfl rfl)
                  have x2 : Wd.cell? ⟨wr.heap.size, 2, none⟩ = some (.int .i64 a.out) := by rw [hWd]; exact drew_cell (new_cell _ _ _ _ 2 _ rfl rfl)
                  have x3 : Wd.cell? ⟨wr.heap.size, 3, none⟩ = some (.int .i64 t) := by rw [hWd]; exact drew_cell (new_cell _ _ _ _ 3 _ rfl rfl)
                  have x4 : Wd.cell? ⟨wr.heap.size, 4, none⟩ = some (.int .i64 a.wt) := by rw [hWd]; exact drew_cell (new_cell _ _ _ _ 4 _ rfl rfl)
                  have xz : Wd.frozen? ⟨wr.heap.size, 4, none⟩ = false := by rw [hWd]; exact ((bel_self _).drew.frozen (p := ⟨wr.heap.size, 4, none⟩) (by simp)).trans (new_frozen _ _ _ _ _ rfl)
                  have hOd : OW w Wd N s0 gt P G cap (.slice (some ⟨fb, fo, none⟩) N fc) (.slice (some ⟨ab, aoff, none⟩) m ac) av (toD f) (pushF (toD f) f.final N) (pushA (toD f) (f.arcs.take k)) := by rw [hWd]; exact hO.below (bel_up (bel_self wr) _).drew
                  have y0 := hOd.row.cell s hsN
                  have y1 := hOd.row.cell t htN
                  have hwl : Wd.heap.size = wr.heap.size + 1 := by rw [hWd]; exact one_size wr _
                  have hS0 : (fun wx : World => wx.cell? ⟨wr.heap.size, 0, none⟩ = some (.int .i64 s) ∧ wx.cell? ⟨wr.heap.size, 3, none⟩ = some (.int .i64 t) ∧ wx.cell? ⟨wr.heap.size, 4, none⟩ = some (.int .i64 a.wt) ∧ wx.cell? ⟨gt, s, none⟩ = some (.int .i64 (gI (toD f) s)) ∧ wx.cell? ⟨gt, t, none⟩ = some (.int .i64 (gI (toD f) t))) Wd := ⟨x0, x3, x4, y0, y1⟩
                  clear c0 c1 c2 c3 c4 t0 t1 q0 q1 q2 q3
                  refine wp_region_noPanic ?_
                  refine wp_region_U (fun wx => wx.cell? ⟨wr.heap.size, 0, none⟩ = some (.int .i64 s) ∧ wx.cell? ⟨wr.heap.size, 3, none⟩ = some (.int .i64 t) ∧ wx.cell? ⟨wr.heap.size, 4, none⟩ = some (.int .i64 a.wt) ∧ wx.cell? ⟨gt, s, none⟩ = some (.int .i64 (gI (toD f) s)) ∧ wx.cell? ⟨gt, t, none⟩ = some (.int .i64 (gI (toD f) t))) 15 (by kernel_rfl) (by rw [← hWd]; exact hS0) (fun _ => ?_)
                  rw [← hWd]
                  clear hWd
                  refine wpAnyU_take (i := 0) (v := .pointer (some ⟨wr.heap.size, 4, none⟩)) rfl (by kernel_rfl) (by kernel_rfl) (by kernel_rfl) (by kernel_rfl) (fun _ _ _ h => h) (Or.inl ⟨by rfl, fun wl hSw => ?_⟩) hS0 ?_
                  · (try dsimp only at hSw); go_simp
                  refine wpAnyU_take (i := 1) (v := .int .i64 a.wt) rfl (by kernel_rfl) (by kernel_rfl) (by kernel_rfl) (by kernel_rfl) (fun _ _ _ h => h) (Or.inl ⟨by rfl, fun wl hSw => ?_⟩) hS0 ?_
                  · (try dsimp only at hSw); go_simp
                  refine wpAnyU_take (i := 2) (v := .slice (some ⟨gt, 0, none⟩) N tc) rfl (by kernel_rfl) (by kernel_rfl) (by kernel_rfl) (by kernel_rfl) (fun _ _ _ h => h) (Or.inl ⟨by rfl, fun wl hSw => ?_⟩) hS0 ?_
                  · (try dsimp only at hSw); go_simp
                  refine wpAnyU_take (i := 3) (v := .pointer (some ⟨wr.heap.size, 3, none⟩)) rfl (by kernel_rfl) (by kernel_rfl) (by kernel_rfl) (by kernel_rfl) (fun _ _ _ h => h) (Or.inl ⟨by rfl, fun wl hSw => ?_⟩) hS0 ?_
                  · (try dsimp only at hSw); go_simp
                  refine wpAnyU_take (i := 4) (v := .int .i64 t) rfl (by kernel_rfl) (by kernel_rfl) (by kernel_rfl) (by kernel_rfl) (fun _ _ _ h => h) (Or.inl ⟨by rfl, fun wl hSw => ?_⟩) hS0 ?_
                  · (try dsimp only at hSw); go_simp
                  refine wpAnyU_take (i := 5) (v := .pointer (some ⟨gt, t, none⟩)) rfl (by kernel_rfl) (by kernel_rfl) (by kernel_rfl) (by kernel_rfl) (fun _ _ _ h => h) (Or.inl ⟨by rfl, fun wl hSw => ?_⟩) hS0 ?_
                  · (try dsimp only at hSw); go_simp
                  refine wpAnyU_take (i := 6) (v := .int .i64 (gI (toD f) t)) rfl (by kernel_rfl) (by kernel_rfl) (by kernel_rfl) (by kernel_rfl) (fun _ _ _ h => h) (Or.inl ⟨by rfl, fun wl hSw => ?_⟩) hS0 ?_
                  · (try dsimp only at hSw); go_simp
                  refine wpAnyU_take (i := 7) (v := .int .i64 (a.wt + gI (toD f) t)) rfl (by kernel_rfl) (by kernel_rfl) (by kernel_rfl) (by kernel_rfl) (fun _ _ _ h => h) (Or.inl ⟨by rfl, fun wl hSw => ?_⟩) hS0 ?_
                  · (try dsimp only at hSw); go_simp; exact wrap_in _ (by omega) (by omega)
                  refine wpAnyU_take (i := 8) (v := .slice (some ⟨gt, 0, none⟩) N tc) rfl (by kernel_rfl) (by kernel_rfl) (by kernel_rfl) (by kernel_rfl) (fun _ _ _ h => h) (Or.inl ⟨by rfl, fun wl hSw => ?_⟩) hS0 ?_
                  · (try dsimp only at hSw); go_simp
                  refine wpAnyU_take (i := 9) (v := .pointer (some ⟨wr.heap.size, 0, none⟩)) rfl (by kernel_rfl) (by kernel_rfl) (by kernel_rfl) (by kernel_rfl) (fun _ _ _ h => h) (Or.inl ⟨by rfl, fun wl hSw => ?_⟩) hS0 ?_
                  · (try dsimp only at hSw); go_simp
                  refine wpAnyU_take (i := 10) (v := .int .i64 s) rfl (by kernel_rfl) (by kernel_rfl) (by kernel_rfl) (by kernel_rfl) (fun _ _ _ h => h) (Or.inl ⟨by rfl, fun wl hSw => ?_⟩) hS0 ?_
                  · (try dsimp only at hSw); go_simp
                  refine wpAnyU_take (i := 11) (v := .pointer (some ⟨gt, s, none⟩)) rfl (by kernel_rfl) (by kernel_rfl) (by kernel_rfl) (by kernel_rfl) (fun _ _ _ h => h) (Or.inl ⟨by rfl, fun wl hSw => ?_⟩) hS0 ?_
                  · (try dsimp only at hSw); go_simp
                  refine wpAnyU_take (i := 12) (v := .int .i64 (gI (toD f) s)) rfl (by kernel_rfl) (by kernel_rfl) (by kernel_rfl) (by kernel_rfl) (fun _ _ _ h => h) (Or.inl ⟨by rfl, fun wl hSw => ?_⟩) hS0 ?_
                  · (try dsimp only at hSw); go_simp
                  refine wpAnyU_take (i := 13) (v := .int .i64 (a.wt + gI (toD f) t - gI (toD f) s)) rfl (by kernel_rfl) (by kernel_rfl) (by kernel_rfl) (by kernel_rfl) (fun _ _ _ h => h) (Or.inl ⟨by rfl, fun wl hSw => ?_⟩) hS0 ?_
                  · (try dsimp only at hSw); go_simp; exact wrap_in _ (by omega) (by omega)
                  refine wpAnyU_take (i := 14) (v := .pointer (some ⟨wr.heap.size, 4, none⟩)) rfl (by kernel_rfl) (by kernel_rfl) (by kernel_rfl) (by kernel_rfl) (fun _ _ _ h => h) (Or.inl ⟨by rfl, fun wl hSw => ?_⟩) hS0 ?_
                  · (try dsimp only at hSw); go_simp
                  refine wpAnyU_one (i := 15) rfl (by kernel_rfl) (fun K hK => ?_)
                  go_simp
                  refine hK.out _ _ ⟨fun h => absurd rfl h, ?_⟩
                  clear hK K
                  refine wpAnyU_done (by kernel_rfl) ?_ _
                  refine NoPanic.normal ?_
                  have hVl := hO.lts
                  have hOe : OW w (Wd.setCell ⟨wr.heap.size, 4, none⟩ (.int .i64 (a.wt + gI (toD f) t - gI (toD f) s))) N s0 gt P G cap (.slice (some ⟨fb, fo, none⟩) N fc) (.slice (some ⟨ab, aoff, none⟩) m ac) av (toD f) (pushF (toD f) f.final N) (pushA (toD f) (f.arcs.take k)) := hOd.far (V := wr.heap.size) (by omega) (by omega) (by omega) (by omega) (by omega) (fun h => by have := ownsRow_lt0 hO.ar _ h; omega)
                  have z0 : (Wd.setCell ⟨wr.heap.size, 4, none⟩ (.int .i64 (a.wt + gI (toD f) t - gI (toD f) s))).cell? ⟨wr.heap.size, 0, none⟩ = some (.int .i64 s) := set_off x0 (by decide)
                  have z1 : (Wd.setCell ⟨wr.heap.size, 4, none⟩ (.int .i64 (a.wt + gI (toD f) t - gI (toD f) s))).cell? ⟨wr.heap.size, 1, none⟩ = some (.int .i64 a.inp) := set_off x1 (by decide)
                  have z2 : (Wd.setCell ⟨wr.heap.size, 4, none⟩ (.int .i64 (a.wt + gI (toD f) t - gI (toD f) s))).cell? ⟨wr.heap.size, 2, none⟩ = some (.int .i64 a.out) := set_off x2 (by decide)
                  have z3 : (Wd.setCell ⟨wr.heap.size, 4, none⟩ (.int .i64 (a.wt + gI (toD f) t - gI (toD f) s))).cell? ⟨wr.heap.size, 3, none⟩ = some (.int .i64 t) := set_off x3 (by decide)
                  have z4 : (Wd.setCell ⟨wr.heap.size, 4, none⟩ (.int .i64 (a.wt + gI (toD f) t - gI (toD f) s))).cell? ⟨wr.heap.size, 4, none⟩ = some (.int .i64 (a.wt + gI (toD f) t - gI (toD f) s)) := World.cell?_setCell_same _ _ _ x4
                  have HPA2 : Hid (pushA (toD f) (f.arcs.take (k + 1)) = pushA (toD f) (f.arcs.take k) ++ [⟨s, a.inp, a.out, t, (a.wt + gI (toD f) t - gI (toD f) s)⟩]) := (by rw [HPA.out, show a.wt + (gI (toD f) t - gI (toD f) s) = (a.wt + gI (toD f) t - gI (toD f) s) by omega] : pushA (toD f) (f.arcs.take (k + 1)) = pushA (toD f) (f.arcs.take k) ++ [⟨s, a.inp, a.out, t, (a.wt + gI (toD f) t - gI (toD f) s)⟩])
                  have hxb : (a.wt + gI (toD f) t - gI (toD f) s) ≤ 300000000000 ∧ -300000000000 ≤ (a.wt + gI (toD f) t - gI (toD f) s) := by omega
                  generalize Wd.setCell ⟨wr.heap.size, 4, none⟩ (.int .i64 (a.wt + gI (toD f) t - gI (toD f) s)) = We at *
                  generalize (a.wt + gI (toD f) t - gI (toD f) s) = wt at *
                  clear x0 x1 x2 x3 x4 xz y0 y1 hS0 hOd HPA HK hO
                  by_cases hbig : 1000000000 < wt
                  · obtain ⟨zz0, zz1, zz2, zz3, yy0, yy1, yy2, yy3⟩ := zfacts hOe.zb
                    have HBG : Hid (1000000000 < wt) := hbig
                    go_wp2
                    refine bodyPost_ret (v := .tuple #[.agg #[.int .i64 0, .int .i64 0, .slice none 0 0, .slice none 0 0], .int .i64 0, .int .i64 2]) (by simp [results, Try.results41, go_sem, *]) rfl ?_
                    have e : d = (⟨0, 0, [], []⟩, 0, 2) := by
                      rw [HD.out]
                      unfold pushD
                      rw [HOK.out.sta, HOK.out.st, Int.toNat_natCast, if_neg HXN.out, if_pos]
                      refine greatA_take _ _ (k + 1) ?_
                      rw [HPA2.out, greatA_snoc]
                      simp [HBG.out]
                    rw [e]
                    exact ⟨_, _, _, _, _, _, rfl, nil_ints _, nil_arcs _, bel_set4 hOe.bel (by omega) _ _ _ _, own_none _, own_none _⟩
                  · have hacl := hOe.out.2.2.2
                    have hOf := hOe.below (bel_up (bel_self We) (.cells #[.int .i64 s, .int .i64 a.inp, .int .i64 a.out, .int .i64 t, .int .i64 wt] 63))
                    go_wp2_with (at_builtin; refine wpList_append_lies _ rfl _ _ 23 rfl (w.heap.size + 2) 63 j0 (.agg #[.int .i64 0, .int .i64 0, .int .i64 0, .int .i64 0, .int .i64 0]) 5 40 Try.underlying23 hj0 hj1 hj2 hj3 rfl (by decide) _ _ _ rfl hOf.ar ⟨We.heap.size, 0, none⟩ 1 1 (arcCells ⟨s, a.inp, a.out, t, wt⟩) rfl rfl (cells_new _ #[.int .i64 s, .int .i64 a.inp, .int .i64 a.out, .int .i64 t, .int .i64 wt] 63 We.heap.size rfl) (oneCell_arc _) (by omega) (by unfold maxLen; omega) (by omega) (by have := hOe.bel.size; have := hOe.lts; simp; omega) _ rfl ?_; intro g cg w7 hown7 hgrow7 hloc hlt7; have k3 : w7.cell? ⟨P, 3, none⟩ = some av := (hOf.out.grown1 hgrow7 (Ne.symm hOf.aP)).2.2.2; have f3 : w7.frozen? ⟨P, 3, none⟩ = false := (hgrow7.frozen_far ⟨P, 3, none⟩ (cell_lt hOf.out.1) (Ne.symm hOf.aP)).trans hOf.frz; have hOg := hOf.arc hgrow7 rfl hown7 hloc; clear hgrow7 hown7 hloc)
                    go_roundw
                    case rel =>
                      refine ⟨k + 1, _, by omega, by go_num, by rw [HPA2.out]; exact hOg, ?_⟩
                      rw [HPA2.out, greatA_snoc, HGR.out]
                      simp
                      omega
                    case measure => simp [intOf]; omega
            · have hkm : f.arcs.take k = f.arcs := List.take_of_length_le (by have := HAL.out; omega)
              rw [hkm] at hO HGR
              obtain ⟨ba, bn, bc, hav, _, _⟩ := (ownsRow_arcs hO.ar).lenOf
              subst hav
              clear hkm
              have t0 := hO.row.cell s0 hs
              rw [← HX.out] at t0
              have hsi : (s0 : Int) < N := by omega
              go_wp2
              obtain ⟨Wd, hWd⟩ : ∃ Wd, Wd = wr.drew := ⟨_, rfl⟩
              have hOd : OW w Wd N s0 gt P G cap (.slice (some ⟨fb, fo, none⟩) N fc) (.slice aa m ac) (.slice ba bn bc) (toD f) (pushF (toD f) f.final N) (pushA (toD f) f.arcs) := by rw [hWd]; exact hO.below (bel_self wr).drew
              have d1 := hOd.cf.2.1
              obtain ⟨o0, o1, o2, o3⟩ := hOd.out
              have t0' : Wd.cell? ⟨gt, s0, none⟩ = some (.int .i64 x) := by rw [hWd]; exact drew_cell t0
              have hS0 : (fun wx : World => wx.cell? ⟨P, 0, none⟩ = some (.int .i64 N) ∧ wx.cell? ⟨P, 1, none⟩ = some (.int .i64 s0) ∧ wx.cell? ⟨P, 2, none⟩ = some (.slice (some ⟨G, 0, none⟩) N cap) ∧ wx.cell? ⟨P, 3, none⟩ = some (.slice ba bn bc) ∧ wx.cell? ⟨w.heap.size, 1, none⟩ = some (.int .i64 s0) ∧ wx.cell? ⟨gt, s0, none⟩ = some (.int .i64 x)) Wd := ⟨o0, o1, o2, o3, d1, t0'⟩
              obtain ⟨zz0, zz1, zz2, zz3, yy0, yy1, yy2, yy3⟩ := zfacts hOd.zb
              have hn1' : w.heap.size ≠ w.heap.size + 1 := by omega
              have hn2' : P ≠ w.heap.size + 1 := by have := hOd.gP; omega
              have hn3' : gt ≠ w.heap.size + 1 := by have := hOd.gt1; omega
              clear q0 q1 q2 q3 t0 hO
              refine wp_region_noPanic ?_
              refine wp_region_U (fun wx => wx.cell? ⟨P, 0, none⟩ = some (.int .i64 N) ∧ wx.cell? ⟨P, 1, none⟩ = some (.int .i64 s0) ∧ wx.cell? ⟨P, 2, none⟩ = some (.slice (some ⟨G, 0, none⟩) N cap) ∧ wx.cell? ⟨P, 3, none⟩ = some (.slice ba bn bc) ∧ wx.cell? ⟨w.heap.size, 1, none⟩ = some (.int .i64 s0) ∧ wx.cell? ⟨gt, s0, none⟩ = some (.int .i64 x)) 8 (by kernel_rfl) (by rw [← hWd]; exact hS0) (fun _ => ?_)
              rw [← hWd]
              clear hWd
              refine wpAnyU_take (i := 0) (v := .agg #[.int .i64 N, .int .i64 s0, .slice (some ⟨G, 0, none⟩) N cap, .slice ba bn bc]) rfl (by kernel_rfl) (by kernel_rfl) (by kernel_rfl) (by kernel_rfl) (fun _ _ _ h => h) (Or.inl ⟨by rfl, fun wl hSw => ?_⟩) hS0 ?_
              · (try dsimp only at hSw); go_simp
              refine wpAnyU_take (i := 1) (v := .slice (some ⟨gt, 0, none⟩) N tc) rfl (by kernel_rfl) (by kernel_rfl) (by kernel_rfl) (by kernel_rfl) (fun _ _ _ h => h) (Or.inl ⟨by rfl, fun wl hSw => ?_⟩) hS0 ?_
              · (try dsimp only at hSw); go_simp
              refine wpAnyU_take (i := 2) (v := .pointer (some ⟨w.heap.size, 1, none⟩)) rfl (by kernel_rfl) (by kernel_rfl) (by kernel_rfl) (by kernel_rfl) (fun _ _ _ h => h) (Or.inl ⟨by rfl, fun wl hSw => ?_⟩) hS0 ?_
              · (try dsimp only at hSw); go_simp
              refine wpAnyU_take (i := 3) (v := .int .i64 s0) rfl (by kernel_rfl) (by kernel_rfl) (by kernel_rfl) (by kernel_rfl) (fun _ _ _ h => h) (Or.inl ⟨by rfl, fun wl hSw => ?_⟩) hS0 ?_
              · (try dsimp only at hSw); go_simp
              refine wpAnyU_take (i := 4) (v := .pointer (some ⟨gt, s0, none⟩)) rfl (by kernel_rfl) (by kernel_rfl) (by kernel_rfl) (by kernel_rfl) (fun _ _ _ h => h) (Or.inl ⟨by rfl, fun wl hSw => ?_⟩) hS0 ?_
              · (try dsimp only at hSw); go_simp
              refine wpAnyU_take (i := 5) (v := .int .i64 x) rfl (by kernel_rfl) (by kernel_rfl) (by kernel_rfl) (by kernel_rfl) (fun _ _ _ h => h) (Or.inl ⟨by rfl, fun wl hSw => ?_⟩) hS0 ?_
              · (try dsimp only at hSw); go_simp
              refine wpAnyU_one (i := 6) rfl (by kernel_rfl) (fun K hK => ?_)
              go_simp
              refine hK.out _ _ ⟨fun _ => ⟨(far4 hn2' _ _ _ _).trans o0, (far4 hn2' _ _ _ _).trans o1, (far4 hn2' _ _ _ _).trans o2, (far4 hn2' _ _ _ _).trans o3, (far4 hn1' _ _ _ _).trans d1, (far4 hn3' _ _ _ _).trans t0'⟩, ?_⟩
              clear hK K
              refine wpAnyU_one (i := 7) rfl (by kernel_rfl) (fun K hK => ?_)
              go_simp
              refine hK.out _ _ ⟨fun _ => ⟨(far4 hn2' _ _ _ _).trans o0, (far4 hn2' _ _ _ _).trans o1, (far4 hn2' _ _ _ _).trans o2, (far4 hn2' _ _ _ _).trans o3, (far4 hn1' _ _ _ _).trans d1, (far4 hn3' _ _ _ _).trans t0'⟩, ?_⟩
              clear hK K
              refine wpAnyU_one (i := 8) rfl (by kernel_rfl) (fun K hK => ?_)
              go_simp
              refine hK.out _ _ ⟨fun h => absurd rfl h, ?_⟩
              clear hK K
              refine wpAnyU_done (by kernel_rfl) ?_ _
              refine NoPanic.normal ?_
              go_wp2
              refine bodyPost_ret (v := .tuple #[.agg #[.int .i64 N, .int .i64 s0, .slice (some ⟨G, 0, none⟩) N cap, .slice ba bn bc], .int .i64 x, .int .i64 0]) (by simp [results, Try.results41, go_sem, *]) rfl ?_
              have e : d = (⟨N, s0, pushF (toD f) f.final N, pushA (toD f) f.arcs⟩, x, 0) := by
                rw [HD.out]
                unfold pushD
                rw [HOK.out.sta, HOK.out.st, Int.toNat_natCast, if_neg HXN.out, if_neg (by rw [HGR.out]; decide), HBL.out, ← HX.out]
              rw [e]
              exact ⟨_, _, _, _, _, _, rfl, isl_set4 (hOd.fin.slice cap (by unfold maxLen; omega)) (by have := hOd.gG; simp [Value.ownBlock]; omega) _ _ _ _, asl_set4 (ownsRow_arcs hOd.ar) (fun h => by have := own_base hOd.ar _ h; omega) _ _ _ _, bel_set4 hOd.bel (by omega) _ _ _ _, own_at _ (by have := hOd.gG; omega), fun g hg => by have := own_base hOd.ar g hg; omega⟩

end Go.Proofs.Yteehgcbjmdideaa
