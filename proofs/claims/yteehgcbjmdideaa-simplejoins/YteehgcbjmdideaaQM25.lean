/- The document's 'Pieces': what a transducer costs for each two beginnings. -/
import Derived.Test.YteehgcbjmdideaaQM21
import Derived.Test.YteehgcbjmdideaaQCoQ
import Derived.Deep.AppendLies
namespace Go.Proofs.Yteehgcbjmdideaa
open Go.RowKit
attribute [local go_sem ↓] Go.wp_at_zero Go.wp_at_succ

/-- rows of numbers in a row, as far as they are made: i rows, and o numbers of one more -/
structure PB (w0 wr : World) (ol : Nat) (p : Nat → Nat → Int) (h hc : Nat → Nat) (i o : Nat) (t8 t10 : Value) : Prop where
  bel : Below w0.heap.size w0 wr
  tab : wr.ownsRow w0.heap.size 22 1 t8 i ((List.range i).map fun k => .slice (some ⟨h k, 0, none⟩) (ol + 1) (hc k))
  row : wr.ownsRow w0.heap.size 3 1 t10 o ((List.range o).map fun k => .int .i64 (p i k))
  rows : ∀ k, k < i → ∀ o', o' ≤ ol → wr.cell? ⟨h k, o', none⟩ = some (.int .i64 (p k o'))
  gh : ∀ k, k < i → t8.ownBlock ≠ some (h k) ∧ t10.ownBlock ≠ some (h k)
  sep : ∀ b, t8.ownBlock = some b → t10.ownBlock ≠ some b
  lo : ∀ k, k < i → w0.heap.size ≤ h k

section
variable {w0 wr wx : World} {ol : Nat} {p : Nat → Nat → Int} {h hc : Nat → Nat} {i o : Nat} {t8 t10 : Value}

theorem PB.new (w0 : World) (ol : Nat) (p : Nat → Nat → Int) (h hc : Nat → Nat) : PB w0 w0 ol p h hc 0 0 (.slice none 0 0) (.slice none 0 0) :=
  ⟨bel_self _, World.ownsRow_nil _ _ _ _, World.ownsRow_nil _ _ _ _, fun k hk => absurd hk (Nat.not_lt_zero _), fun k hk => absurd hk (Nat.not_lt_zero _), fun b hb => (by cases hb), fun k hk => absurd hk (Nat.not_lt_zero _)⟩

theorem PB.below (t : PB w0 wr ol p h hc i o t8 t10) (hb : Below wr.heap.size wr wx) : PB w0 wx ol p h hc i o t8 t10 :=
  ⟨bel_on t.bel hb, ownsRow_bel t.tab hb, ownsRow_bel t.row hb, fun k hk o' ho => bel_c hb (t.rows k hk o' ho), t.gh, t.sep, t.lo⟩

/-- one number more -/
theorem PB.push {w' : World} {v' : Value} (t : PB w0 wr ol p h hc i o t8 t10) (hgr : wr.grownBy w' t10.ownBlock) (hown : w'.ownsRow w0.heap.size 3 1 v' (o + 1) (((List.range o).map fun k => .int .i64 (p i k)) ++ [.int .i64 (p i o)])) (hv : v'.ownBlock = t10.ownBlock ∨ v'.ownBlock = some wr.heap.size) :
    PB w0 w' ol p h hc i (o + 1) t8 v' := by
  have hne : ∀ b, t10.ownBlock ≠ some b → some b ≠ t10.ownBlock := fun b hb e => hb e.symm
  have h8 : ∀ b, t8.ownBlock = some b → b < wr.heap.size := ownsRow_lt0 t.tab
  refine ⟨t.bel.grown hgr t.bel.size (fun k hk => own_base t.row _ hk), ?_, ?_, fun k hk o' ho => ?_, fun k hk => ?_, fun b hb => ?_, t.lo⟩
  · refine t.tab.kept hgr ?_
    cases h9b : t8.ownBlock with
    | none => exact Or.inl rfl
    | some b => exact Or.inr fun e => t.sep b h9b e.symm
  · have e : ((List.range (o + 1)).map fun k => Value.int .i64 (p i k)) = ((List.range o).map fun k => .int .i64 (p i k)) ++ [.int .i64 (p i o)] := by
      rw [List.range_succ, List.map_append]
      rfl
    rw [e]
    exact hown
  · have hlt := cell_lt (t.rows k hk o' ho)
    exact (hgr.cell_far ⟨_, o', none⟩ hlt (hne _ (t.gh k hk).2)).trans (t.rows k hk o' ho)
  · have hlt := cell_lt (t.rows k hk 0 (Nat.zero_le _))
    refine ⟨(t.gh k hk).1, fun e => ?_⟩
    rcases hv with hv | hv
    · rw [hv] at e; exact (t.gh k hk).2 e
    · rw [hv] at e; injection e with e; omega
  · intro e
    rcases hv with hv | hv
    · rw [hv] at e; exact t.sep b hb e
    · rw [hv] at e; injection e with e; have := h8 b hb; omega

/-- the row is laid down -/
theorem PB.lay {w' : World} {H cap : Nat} {v' : Value} (t : PB w0 wr ol p h hc i (ol + 1) t8 (.slice (some ⟨H, 0, none⟩) (ol + 1) cap))
    (hgr : wr.grownBy w' t8.ownBlock) (hown : w'.ownsRow w0.heap.size 22 1 v' (i + 1) (((List.range i).map fun k => .slice (some ⟨h k, 0, none⟩) (ol + 1) (hc k)) ++ [.slice (some ⟨H, 0, none⟩) (ol + 1) cap])) (hv : v'.ownBlock = t8.ownBlock ∨ v'.ownBlock = some wr.heap.size) :
    PB w0 w' ol p (fun k => if k = i then H else h k) (fun k => if k = i then cap else hc k) (i + 1) 0 v' (.slice none 0 0) := by
  have hne : ∀ b, t8.ownBlock ≠ some b → some b ≠ t8.ownBlock := fun b hb e => hb e.symm
  have hH9 : t8.ownBlock ≠ some H := fun e => t.sep H e rfl
  have hcH : ∀ o', o' ≤ ol → wr.cell? ⟨H, o', none⟩ = some (.int .i64 (p i o')) := fun o' ho => by
    rw [t.row.cellAt o' (by omega)]
    simp [show o' < ol + 1 by omega]
  have hHl := cell_lt (hcH 0 (Nat.zero_le _))
  have hsz : ∀ b, b < wr.heap.size → t8.ownBlock ≠ some b → v'.ownBlock ≠ some b := fun b hb hn e => by
    rcases hv with hv | hv
    · rw [hv] at e; exact hn e
    · rw [hv] at e; injection e with e; omega
  have hno : ∀ b, (Value.slice none 0 0).ownBlock ≠ some b := fun b e => by cases e
  refine ⟨t.bel.grown hgr t.bel.size (fun k hk => own_base t.tab _ hk), ?_, World.ownsRow_nil _ _ _ _, fun k hk o' ho => ?_, fun k hk => ?_, fun b _ => hno b, fun k hk => ?_⟩
  · have e : ((List.range (i + 1)).map fun k => Value.slice (some ⟨if k = i then H else h k, 0, none⟩) (ol + 1) (if k = i then cap else hc k)) = ((List.range i).map fun k => .slice (some ⟨h k, 0, none⟩) (ol + 1) (hc k)) ++ [.slice (some ⟨H, 0, none⟩) (ol + 1) cap] := by
      rw [List.range_succ, List.map_append]
      congr 1
      · apply List.map_congr_left
        intro k hk
        rw [List.mem_range] at hk
        rw [if_neg (by omega), if_neg (by omega)]
      · simp
    rw [e]
    exact hown
  · by_cases e : k = i
    · subst e
      rw [if_pos rfl]
      exact (hgr.cell_far ⟨_, o', none⟩ hHl (hne _ hH9)).trans (hcH o' ho)
    · rw [if_neg e]
      have hk' : k < i := by omega
      exact (hgr.cell_far ⟨_, o', none⟩ (cell_lt (t.rows k hk' o' ho)) (hne _ (t.gh k hk').1)).trans (t.rows k hk' o' ho)
  · by_cases e : k = i
    · subst e
      rw [if_pos rfl]
      exact ⟨hsz H hHl hH9, hno _⟩
    · rw [if_neg e]
      have hk' : k < i := by omega
      exact ⟨hsz _ (cell_lt (t.rows k hk' 0 (Nat.zero_le _))) (t.gh k hk').1, hno _⟩
  · by_cases e : k = i
    · subst e
      rw [if_pos rfl]
      exact own_base t.row H rfl
    · rw [if_neg e]
      exact t.lo k (by omega)
end

/-- what 'Pieces' answers -/
def PiecesEnd (w : World) (f : FstD) (ins outs : List Int) (s0 il ol : Nat) (e : Ending) (w' : World) : Prop :=
  ∃ (T tc : Nat) (h hc : Nat → Nat) (p : Nat → Nat → Int), e = .returned (.slice (some ⟨T, 0, none⟩) (il + 1) tc) ∧ (∀ i, i ≤ il → w'.cell? ⟨T, i, none⟩ = some (.slice (some ⟨h i, 0, none⟩) (ol + 1) (hc i))) ∧ (∀ i, i ≤ il → ∀ o, o ≤ ol → w'.cell? ⟨h i, o, none⟩ = some (.int .i64 (p i o))) ∧
    (∀ i, i ≤ il → ∀ o, o ≤ ol → Mn (PieceP f ins outs s0 0 0 i o) (p i o)) ∧ (∀ i o, p i o ≤ 400002000000000) ∧ w.heap.size ≤ T ∧ (∀ i, i ≤ il → w.heap.size ≤ h i) ∧ Below w.heap.size w w'

set_option maxHeartbeats 2000000 in
set_option maxRecDepth 100000 in
theorem pieces_any (f : FstD) (ins outs : List Int) (N s0 fb fo fc : Nat) (aa : Option Addr) (m ac : Nat) (ia : Option Addr) (il ic : Nat) (oa : Option Addr) (ol oc : Nat) (w : World) (hok : OkW f ins outs N s0) (hlet : ∀ a ∈ f.arcs, (0 ≤ a.inp ∧ a.inp ≤ 9) ∧ (0 ≤ a.out ∧ a.out ≤ 9)) (hfx : IntsAt w fb fo N f.final) (ha : ASlice w (.slice aa m ac) f.arcs) (hal : f.arcs.length = m) (hI : ISlice w (.slice ia il ic) ins) (hil : ins.length = il) (hO : ISlice w (.slice oa ol oc) outs) (hol : outs.length = ol) :
    Calls Try.prog 73 #[.agg #[.int .i64 (N : Int), .int .i64 (s0 : Int), .slice (some ⟨fb, fo, none⟩) N fc, .slice aa m ac], .slice ia il ic, .slice oa ol oc] w fun e w' => PiecesEnd w f ins outs s0 il ol e w' := by
  have hN1 := hok.n1
  have hN2 := hok.n2
  have hi40 : il ≤ 40 := by have := hok.i40; omega
  have ho40 : ol ≤ 40 := by have := hok.o40; omega
  obtain ⟨i0, hi0, hx0, hx1, hx2⟩ := info_parts Try.info3
  obtain ⟨i1, hi1, hy0, hy1, hy2⟩ := info_parts infoS
  have HFH : ∀ v, gI f.final v ≤ 1000000000 := fun v => by
    unfold gI
    rcases Nat.lt_or_ge v f.final.length with h | h
    · simp only [List.getD, List.getElem?_eq_getElem h, Option.getD_some]
      have := hok.fin _ (List.getElem_mem h)
      omega
    · simp only [List.getD, List.getElem?_eq_none h, Option.getD_none]
      decide
  obtain ⟨Wd, hWd⟩ : ∃ Wd, Wd = (w.alloc (.cells #[.int .i64 (N : Int), .int .i64 (s0 : Int), .slice (some ⟨fb, fo, none⟩) N fc, .slice aa m ac] 25)).drew := ⟨_, rfl⟩
  have hbd : Below w.heap.size w Wd := by rw [hWd]; exact (bel_up (bel_self w) _).drew
  have x0 : Wd.cell? ⟨w.heap.size, 0, none⟩ = some (.int .i64 (N : Int)) := by rw [hWd]; exact drew_cell (new_cell _ _ _ _ 0 _ rfl rfl)
  have x1 : Wd.cell? ⟨w.heap.size, 1, none⟩ = some (.int .i64 (s0 : Int)) := by rw [hWd]; exact drew_cell (new_cell _ _ _ _ 1 _ rfl rfl)
  have x2 : Wd.cell? ⟨w.heap.size, 2, none⟩ = some (.slice (some ⟨fb, fo, none⟩) N fc) := by rw [hWd]; exact drew_cell (new_cell _ _ _ _ 2 _ rfl rfl)
  have x3 : Wd.cell? ⟨w.heap.size, 3, none⟩ = some (.slice aa m ac) := by rw [hWd]; exact drew_cell (new_cell _ _ _ _ 3 _ rfl rfl)
  have HCO : Hid (∀ G0 cap0 W, Below w.heap.size w W → NumsAt W G0 N (begL (s0 : Int) N) → Calls Try.prog 52 #[.agg #[.int .i64 (N : Int), .int .i64 (s0 : Int), .slice (some ⟨fb, fo, none⟩) N fc, .slice aa m ac], .slice (some ⟨G0, 0, none⟩) N cap0, .slice ia il ic, .slice oa ol oc] W fun e w' => CostsAll W f ins outs N s0 il ol e w') := fun G0 cap0 W hb hg => costs_tells f ins outs N s0 G0 cap0 _ aa m ac ia il ic oa ol oc W hok hlet (ha.below hb) hal (hI.below hb) hil (hO.below hb) hol hg
  have hbeg := begunRef_any N (s0 : Int) (.slice (some ⟨fb, fo, none⟩) N fc) (.slice aa m ac) Wd hN2
  have HSB : Hid (∀ wx : World, Below Wd.heap.size Wd wx → wx.cell? ⟨w.heap.size, 0, none⟩ = some (.int .i64 (N : Int)) ∧ wx.cell? ⟨w.heap.size, 1, none⟩ = some (.int .i64 (s0 : Int)) ∧ wx.cell? ⟨w.heap.size, 2, none⟩ = some (.slice (some ⟨fb, fo, none⟩) N fc) ∧ wx.cell? ⟨w.heap.size, 3, none⟩ = some (.slice aa m ac)) := fun wx h => ⟨bel_c h x0, bel_c h x1, bel_c h x2, bel_c h x3⟩
  have HFX : Hid (∀ W, Below w.heap.size w W → IntsAt W fb fo N f.final) := fun W hb => hfx.below hb
  have HFH' : Hid (∀ v, gI f.final v ≤ 1000000000) := HFH
  have HOK : Hid (OkW f ins outs N s0) := hok
  have HBD : Hid (Below w.heap.size w Wd) := hbd
  have HIL : Hid (ins.length = il ∧ outs.length = ol) := ⟨hil, hol⟩
  clear hok hlet ha hal hI hil hO hol hfx HFH
  go_enter Try.func73, Try.ntmps73
  go_wp2
  rw [hWd] at hbeg x0 x1 x2 x3
  go_region_held3 (fun wx => wx.cell? ⟨w.heap.size, 0, none⟩ = some (.int .i64 (N : Int)) ∧ wx.cell? ⟨w.heap.size, 1, none⟩ = some (.int .i64 (s0 : Int)) ∧ wx.cell? ⟨w.heap.size, 2, none⟩ = some (.slice (some ⟨fb, fo, none⟩) N fc) ∧ wx.cell? ⟨w.heap.size, 3, none⟩ = some (.slice aa m ac)) (first | exact hK2 | exact hK1 | exact ⟨x0, x1, x2, x3⟩) (first
    | (go_at_call 53
       refine hbeg.mono ?_
       rintro e w1 ⟨v, rfl, hown, hb1⟩
       rw [← hWd] at hb1
       obtain ⟨G0, cap0, rfl⟩ := Go.Joins.ownsRow_form hown (by omega)
       have hg0 := row_nums hown (begL_len _ _)
       have hK1 := HSB.out w1 hb1)
    | (go_at_call 52
       refine (HCO.out G0 cap0 w1 (bel_on HBD.out hb1) hg0).mono ?_
       rintro e w2 ⟨c, T, tc, g, h, hc, rfl, k1, k2, k3, k4, k5, k6, k7, k8, hb2⟩
       have hK2 := HSB.out w2 (bel_on hb1 hb2)))
  obtain ⟨p, hp⟩ : ∃ p : Nat → Nat → Int, p = fun i o => endD (segL c N (i * (ol + 1) + o)) f.final N := ⟨_, rfl⟩
  have hseg : ∀ q v, q < (il + 1) * (ol + 1) → gI (segL c N q) v ≤ 400001000000000 := fun q v hq => by
    rcases Nat.lt_or_ge v N with h | h
    · rw [segL_at _ _ _ _ h]; exact k8 _
    · rw [out_gI _ _ (by rw [(k3 q hq).len]; exact h)]; decide
  have hplace : ∀ i o, i ≤ il → o ≤ ol → i * (ol + 1) + o < (il + 1) * (ol + 1) := fun i o h1 h2 => by
    have := Nat.mul_le_mul_right (ol + 1) h1
    rw [Nat.add_mul, Nat.one_mul]
    omega
  have HMN : Hid (∀ i, i ≤ il → ∀ o, o ≤ ol → Mn (PieceP f ins outs s0 0 0 i o) (p i o)) := fun i _ o ho => by
    have := piece_end HOK.out k5 k6 k7 (i := i) (o := o) (by rw [HIL.out.2]; exact ho)
    rw [HIL.out.2] at this
    rw [hp]
    exact this
  have HHI : Hid (∀ i, i ≤ il → ∀ o, o ≤ ol → p i o ≤ 400002000000000) := fun i hi o ho => by
    rw [hp]
    exact endD_hi _ _ (fun v => hseg _ v (hplace i o hi ho)) HFH'.out N
  have HEN : Hid (∀ W, Below w2.heap.size w2 W → ∀ i o, i ≤ il → o ≤ ol → Calls Try.prog 54 #[.agg #[.int .i64 (N : Int), .int .i64 (s0 : Int), .slice (some ⟨fb, fo, none⟩) N fc, .slice aa m ac], .slice (some ⟨g (i * (ol + 1) + o), 0, none⟩) N N] W fun e w' => e = .returned (.int .i64 (p i o)) ∧ Below W.heap.size W w') := fun W hb i o hi ho => by
    have h1 := bel_on HBD.out (bel_on hb1 (bel_on hb2 hb))
    rw [hp]
    exact ended_any f N _ N fb fo fc (s0 : Int) (.slice aa m ac) _ W hN2 ((k3 _ (hplace i o hi ho)).below hb) (HFX.out W h1) (fun v => hseg _ v (hplace i o hi ho)) HFH'.out
  have HTA : Hid (∀ W, Below w2.heap.size w2 W → (∀ i, i ≤ il → W.cell? ⟨T, i, none⟩ = some (.slice (some ⟨h i, 0, none⟩) (ol + 1) (hc i))) ∧ (∀ i, i ≤ il → ∀ o, o ≤ ol → W.cell? ⟨h i, o, none⟩ = some (.slice (some ⟨g (i * (ol + 1) + o), 0, none⟩) N N)) ∧ W.cell? ⟨w.heap.size, 0, none⟩ = some (.int .i64 (N : Int)) ∧ W.cell? ⟨w.heap.size, 1, none⟩ = some (.int .i64 (s0 : Int)) ∧ W.cell? ⟨w.heap.size, 2, none⟩ = some (.slice (some ⟨fb, fo, none⟩) N fc) ∧ W.cell? ⟨w.heap.size, 3, none⟩ = some (.slice aa m ac)) := fun W hb => ⟨fun i hi => bel_c hb (k1 i hi), fun i hi o ho => bel_c hb (k2 i hi o ho), bel_c hb hK2.1, bel_c hb hK2.2.1, bel_c hb hK2.2.2.1, bel_c hb hK2.2.2.2⟩
  have HBW : Hid (Below w.heap.size w w2) := bel_on HBD.out (bel_on hb1 hb2)
  clear k1 k2 k3 k4 k5 k6 k7 k8 hseg hplace hp hK1 hK2 hb1 hb2 x0 x1 x2 x3 hbeg HCO hWd hg0 hown HFX HFH' HOK HIL HBD HSB hbd
  go_wp2
  go_loopw [8, 9] (fun t8 t9 wr => ∃ (i : Nat) (H HC : Nat → Nat), i ≤ il + 1 ∧ t9 = .int .i64 i ∧ PB w2 wr ol p H HC i 0 t8 (.slice none 0 0)) (fun _ t9 _ => il + 1 - (intOf t9).toNat)
  case atStart => exact ⟨0, fun _ => 0, fun _ => 0, Nat.zero_le _, rfl, PB.new _ _ _ _ _⟩
  case round =>
    obtain ⟨i, H, HC, hi, rfl, hPB⟩ := hrel
    by_cases hlt : i ≤ il
    · have hii : (i : Int) < il + 1 := by omega
      go_wp2
      go_loopw [10, 11] (fun t10 t11 wr => ∃ o : Nat, o ≤ ol + 1 ∧ t11 = .int .i64 o ∧ PB w2 wr ol p H HC i o u8 t10) (fun _ t11 _ => ol + 1 - (intOf t11).toNat)
      case atStart => exact ⟨0, Nat.zero_le _, rfl, hPB⟩
      case round =>
        clear hPB
        obtain ⟨o, ho, rfl, hPB⟩ := hrel
        obtain ⟨q1, q2, q3, q4, q5, q6⟩ := HTA.out wr hPB.bel
        have r1 := q1 i hlt
        by_cases hlo : o ≤ ol
        · have hoi : (o : Int) < ol + 1 := by omega
          have r2 := q2 i hlt o hlo
          have hPd := hPB.below (bel_self wr).drew
          have hen := HEN.out wr.drew hPd.bel i o hlt hlo
          have S0 : (fun wx : World => wx.cell? ⟨w.heap.size, 0, none⟩ = some (.int .i64 (N : Int)) ∧ wx.cell? ⟨w.heap.size, 1, none⟩ = some (.int .i64 (s0 : Int)) ∧ wx.cell? ⟨w.heap.size, 2, none⟩ = some (.slice (some ⟨fb, fo, none⟩) N fc) ∧ wx.cell? ⟨w.heap.size, 3, none⟩ = some (.slice aa m ac) ∧ wx.cell? ⟨T, i, none⟩ = some (.slice (some ⟨h i, 0, none⟩) (ol + 1) (hc i)) ∧ wx.cell? ⟨h i, o, none⟩ = some (.slice (some ⟨g (i * (ol + 1) + o), 0, none⟩) N N)) wr.drew := ⟨drew_cell q3, drew_cell q4, drew_cell q5, drew_cell q6, drew_cell r1, drew_cell r2⟩
          have HS : Hid (∀ wx, Below w2.heap.size w2 wx → (fun wx : World => wx.cell? ⟨w.heap.size, 0, none⟩ = some (.int .i64 (N : Int)) ∧ wx.cell? ⟨w.heap.size, 1, none⟩ = some (.int .i64 (s0 : Int)) ∧ wx.cell? ⟨w.heap.size, 2, none⟩ = some (.slice (some ⟨fb, fo, none⟩) N fc) ∧ wx.cell? ⟨w.heap.size, 3, none⟩ = some (.slice aa m ac) ∧ wx.cell? ⟨T, i, none⟩ = some (.slice (some ⟨h i, 0, none⟩) (ol + 1) (hc i)) ∧ wx.cell? ⟨h i, o, none⟩ = some (.slice (some ⟨g (i * (ol + 1) + o), 0, none⟩) N N)) wx) := fun wx hb => by
            obtain ⟨a1, a2, a3, a4, a5, a6⟩ := HTA.out wx hb
            exact ⟨a3, a4, a5, a6, a1 i hlt, a2 i hlt o hlo⟩
          have HP : Hid _ := hPd
          clear hPB hPd q1 q2
          go_wp2
          go_region_held3 (fun wx : World => wx.cell? ⟨w.heap.size, 0, none⟩ = some (.int .i64 (N : Int)) ∧ wx.cell? ⟨w.heap.size, 1, none⟩ = some (.int .i64 (s0 : Int)) ∧ wx.cell? ⟨w.heap.size, 2, none⟩ = some (.slice (some ⟨fb, fo, none⟩) N fc) ∧ wx.cell? ⟨w.heap.size, 3, none⟩ = some (.slice aa m ac) ∧ wx.cell? ⟨T, i, none⟩ = some (.slice (some ⟨h i, 0, none⟩) (ol + 1) (hc i)) ∧ wx.cell? ⟨h i, o, none⟩ = some (.slice (some ⟨g (i * (ol + 1) + o), 0, none⟩) N N)) (first | exact HS.out _ HP4.out.bel | exact HS.out _ HP3.out.bel | exact HS.out _ HP2.out.bel | exact S0) (first
            | (go_at_call 54
               refine hen.mono ?_
               rintro e w3 ⟨rfl, hb3⟩
               have HP2 : Hid _ := HP.out.below hb3
               have HP3 : Hid _ := HP2.out.below (bel_up (bel_self w3) (.cells #[.int .i64 (p i o)] 3))
               have hrow := HP3.out.row
               have hsz3 : w2.heap.size ≤ w3.heap.size := HP2.out.bel.size
               clear hen hb3)
            | (refine step_append_lies _ (by rfl) _ _ _ (by rfl) w2.heap.size 3 i0 _ 1 8 Try.underlying22 hi0 hx0 hx1 hx2 rfl (by omega) u10 o _ (by rfl) hrow ⟨w3.heap.size, 0, none⟩ 1 1 [.int .i64 (p i o)] (by rfl) (by rfl) (World.news_of_block (cs := #[.int .i64 (p i o)]) (t := 3) (fr := (0, 0)) (heap_alloc_new w3 _)) (ints_ones [p i o]) (by omega) (by unfold maxLen; omega) (by omega) (by simp; omega) (w3.heap.size + 1) (by simp) ?_
               intro G4 cap4 w4 hown' hgrow hat _
               have HP4 : Hid _ := HP3.out.push hgrow hown' (hat.imp (fun e => e.symm) (fun e => by subst e; simp [Value.ownBlock]))
               clear hown' hgrow hat))
          go_wp2
          go_roundw
          case rel => exact ⟨o + 1, by omega, by go_num, HP4.out⟩
          case measure => simp [intOf]; omega
        · have hoe : o = ol + 1 := by omega
          subst hoe
          obtain ⟨H', cap, rfl⟩ := Go.Joins.ownsRow_form hPB.row (by omega)
          have hPA := hPB.below (bel_up (bel_self wr) (.cells #[.slice (some ⟨H', 0, none⟩) (ol + 1) cap] 22))
          have HPA : Hid _ := hPA
          have hown := hPA.tab
          have hsz : w2.heap.size ≤ wr.heap.size := hPB.bel.size
          have hnl : ¬ ((ol : Int) + 1 < ol + 1) := by omega
          clear hPB hPA q1 q2
          go_wp2_with (at_builtin; refine wpList_append_own_at _ rfl _ _ 70 rfl w2.heap.size 22 i1 (.slice none 0 0) 1 24 Try.underlying70 hi1 hy0 hy1 hy2 rfl (by decide) _ _ _ rfl hown ⟨wr.heap.size, 0, none⟩ 1 1 [.slice (some ⟨H', 0, none⟩) (ol + 1) cap] rfl rfl (cells_new _ #[.slice (some ⟨H', 0, none⟩) (ol + 1) cap] 22 wr.heap.size rfl) (one_sl _ _ _) (by unfold maxLen; omega) (by omega) (by simp; omega) ?_; intro v' w4 hown' hgrow _ hvv; have HT4 : Hid _ := HPA.out.lay hgrow hown' hvv; clear hown' hgrow hvv)
          go_roundw
          case rel => exact ⟨i + 1, _, _, by omega, by go_num, HT4.out⟩
          case measure => simp [intOf]; omega
    · have hie : i = il + 1 := by omega
      subst hie
      have hnl : ¬ ((il : Int) + 1 < il + 1) := by omega
      go_wp2
      obtain ⟨T', tc', rfl⟩ := Go.Joins.ownsRow_form hPB.tab (by omega)
      go_ret
      refine ⟨T', tc', H, HC, fun i o => if i ≤ il ∧ o ≤ ol then p i o else 0, rfl, fun i hi => ?_, fun i hi o ho => ?_, fun i hi o ho => ?_, fun i o => ?_, Nat.le_trans HBW.out.size (own_base hPB.tab T' rfl), fun i hi => Nat.le_trans HBW.out.size (hPB.lo i (by omega)), bel_on HBW.out hPB.bel⟩
      · rw [hPB.tab.cellAt i (by omega)]
        simp [show i < il + 1 by omega]
      · dsimp only
        rw [if_pos ⟨hi, ho⟩]
        exact hPB.rows i (by omega) o ho
      · dsimp only
        rw [if_pos ⟨hi, ho⟩]
        exact HMN.out i hi o ho
      · dsimp only
        split
        · rename_i q
          exact HHI.out i q.1 o q.2
        · decide
end Go.Proofs.Yteehgcbjmdideaa

/- The rest of a slice; sums that are greater; the document's 'ScoreOf', and how much it can be. -/
namespace Go.Proofs.Yteehgcbjmdideaa
open Go.RowKit
attribute [local go_sem ↓] Go.wp_at_zero Go.wp_at_succ

/-- the rest of a slice -/
def tailA (a : Option Addr) (c i : Nat) : Option Addr := if c = i then a else a.map (·.add i)

theorem run_tail (a : Option Addr) (n c i : Nat) (hi : i ≤ n) (w : World) :
    (Instr.sliceAt 22 (.slice a n c) (some (.int .i64 (i : Int))) none none).run Try.prog w = .ok (.slice (tailA a c i) (n - i) (c - i)) w := by
  have hz : Try.t3.size = 1 := by kernel_rfl
  simp [Instr.sliceAt, Instr.slice, Instr.sliceBounds, Instr.sliceBound, go_sem, hi, sizeOf, hz, tailA]

theorem ISlice.tail {w : World} {a : Option Addr} {n c : Nat} {xs : List Int} (h : ISlice w (.slice a n c) xs) (hc : n ≤ c) (i : Nat) : ISlice w (.slice (tailA a c i) (n - i) (c - i)) (xs.drop i) := by
  obtain ⟨a', n', c', e, hl, hm⟩ := h.lenOf
  injection e with e1 e2 e3
  subst e1 e2 e3
  by_cases h0 : n - i = 0
  · refine Or.inl ⟨_, _, by rw [h0], ?_⟩
    rw [List.drop_eq_nil_iff]
    omega
  · obtain ⟨b, off, rfl, hx⟩ := h.some (by omega)
    refine Or.inr ⟨b, off + i, n - i, c - i, ?_, ⟨by rw [List.length_drop]; omega, fun k hk => ?_⟩, by omega⟩
    · unfold tailA
      rw [if_neg (by omega), Option.map_some]
      simp [Addr.add]
    · have := hx.cell (i + k) (by omega)
      rw [show off + i + k = off + (i + k) by omega, this]
      simp [List.getD, List.getElem?_drop]

set_option maxHeartbeats 400000 in
theorem plusWide_any (a b : Int) (w : World) (ha2 : a ≤ 100000000000000000) (hb2 : b ≤ 100000000000000000) :
    Calls Try.prog 74 #[.int .i64 a, .int .i64 b] w fun e w' => e = .returned (.int .i64 (plusC a b)) ∧ w' = w := by
  by_cases h1 : a < 0
  · go_enter Try.func74, Try.ntmps74
    go_wp2
    go_ret
    exact ⟨ret_int (by unfold plusC; split <;> omega), rfl⟩
  · by_cases h2 : b < 0
    · go_enter Try.func74, Try.ntmps74
      go_wp2
      go_ret
      exact ⟨ret_int (by unfold plusC; split <;> omega), rfl⟩
    · have h1' : 0 ≤ a := by omega
      have h2' : 0 ≤ b := by omega
      go_enter Try.func74, Try.ntmps74
      go_wp2
      go_ret
      exact ⟨ret_int (by unfold plusC; split <;> omega), rfl⟩

set_option maxHeartbeats 2000000 in
set_option maxRecDepth 100000 in
theorem scoreOf_is (f : FstD) (ins outs : List Int) (N s0 fb fo fc : Nat) (aa : Option Addr) (m ac : Nat) (ia : Option Addr) (il ic : Nat) (oa : Option Addr) (ol oc : Nat) (w : World) (hok : OkW f ins outs N s0) (hlet : ∀ a ∈ f.arcs, (0 ≤ a.inp ∧ a.inp ≤ 9) ∧ (0 ≤ a.out ∧ a.out ≤ 9)) (hfx : IntsAt w fb fo N f.final) (ha : ASlice w (.slice aa m ac) f.arcs) (hal : f.arcs.length = m) (hI : ISlice w (.slice ia il ic) ins) (hil : ins.length = il) (hO : ISlice w (.slice oa ol oc) outs) (hol : outs.length = ol) :
    Calls Try.prog 12 #[.agg #[.int .i64 (N : Int), .int .i64 (s0 : Int), .slice (some ⟨fb, fo, none⟩) N fc, .slice aa m ac], .slice ia il ic, .slice oa ol oc] w fun e w' => ∃ x, e = .returned (.int .i64 x) ∧ BestP f ins outs s0 x ∧ x ≤ 400002000000000 ∧ Below w.heap.size w w' := by
  have hN1 := hok.n1
  have hN2 := hok.n2
  have hi40 : il ≤ 40 := by have := hok.i40; omega
  have ho40 : ol ≤ 40 := by have := hok.o40; omega
  have HFH : ∀ v, gI f.final v ≤ 1000000000 := fun v => by
    unfold gI
    rcases Nat.lt_or_ge v f.final.length with h | h
    · simp only [List.getD, List.getElem?_eq_getElem h, Option.getD_some]
      have := hok.fin _ (List.getElem_mem h)
      omega
    · simp only [List.getD, List.getElem?_eq_none h, Option.getD_none]
      decide
  obtain ⟨Wd, hWd⟩ : ∃ Wd, Wd = (w.alloc (.cells #[.int .i64 (N : Int), .int .i64 (s0 : Int), .slice (some ⟨fb, fo, none⟩) N fc, .slice aa m ac] 25)).drew := ⟨_, rfl⟩
  have hbd : Below w.heap.size w Wd := by rw [hWd]; exact (bel_up (bel_self w) _).drew
  have x0 : Wd.cell? ⟨w.heap.size, 0, none⟩ = some (.int .i64 (N : Int)) := by rw [hWd]; exact drew_cell (new_cell _ _ _ _ 0 _ rfl rfl)
  have x1 : Wd.cell? ⟨w.heap.size, 1, none⟩ = some (.int .i64 (s0 : Int)) := by rw [hWd]; exact drew_cell (new_cell _ _ _ _ 1 _ rfl rfl)
  have x2 : Wd.cell? ⟨w.heap.size, 2, none⟩ = some (.slice (some ⟨fb, fo, none⟩) N fc) := by rw [hWd]; exact drew_cell (new_cell _ _ _ _ 2 _ rfl rfl)
  have x3 : Wd.cell? ⟨w.heap.size, 3, none⟩ = some (.slice aa m ac) := by rw [hWd]; exact drew_cell (new_cell _ _ _ _ 3 _ rfl rfl)
  have HCO : Hid (∀ G0 cap0 W, Below w.heap.size w W → NumsAt W G0 N (begL (s0 : Int) N) → Calls Try.prog 52 #[.agg #[.int .i64 (N : Int), .int .i64 (s0 : Int), .slice (some ⟨fb, fo, none⟩) N fc, .slice aa m ac], .slice (some ⟨G0, 0, none⟩) N cap0, .slice ia il ic, .slice oa ol oc] W fun e w' => CostsEnd W f ins outs N s0 il ol e w') := fun G0 cap0 W hb hg => costs_tell f ins outs N s0 G0 cap0 _ aa m ac ia il ic oa ol oc W hok hlet (ha.below hb) hal (hI.below hb) hil (hO.below hb) hol hg
  have hbeg := begunRef_any N (s0 : Int) (.slice (some ⟨fb, fo, none⟩) N fc) (.slice aa m ac) Wd hN2
  have HSB : Hid (∀ wx : World, Below Wd.heap.size Wd wx → wx.cell? ⟨w.heap.size, 0, none⟩ = some (.int .i64 (N : Int)) ∧ wx.cell? ⟨w.heap.size, 1, none⟩ = some (.int .i64 (s0 : Int)) ∧ wx.cell? ⟨w.heap.size, 2, none⟩ = some (.slice (some ⟨fb, fo, none⟩) N fc) ∧ wx.cell? ⟨w.heap.size, 3, none⟩ = some (.slice aa m ac)) := fun wx h => ⟨bel_c h x0, bel_c h x1, bel_c h x2, bel_c h x3⟩
  have HFX : Hid (∀ W, Below w.heap.size w W → IntsAt W fb fo N f.final) := fun W hb => hfx.below hb
  have HFH' : Hid (∀ v, gI f.final v ≤ 1000000000) := HFH
  have HOK : Hid (OkW f ins outs N s0) := hok
  have HBD : Hid (Below w.heap.size w Wd) := hbd
  clear hok hlet ha hal hI hil hO hol hfx HFH
  go_enter Try.func12, Try.ntmps12
  go_wp2
  rw [hWd] at hbeg x0 x1 x2 x3
  go_region_held3 (fun wx => wx.cell? ⟨w.heap.size, 0, none⟩ = some (.int .i64 (N : Int)) ∧ wx.cell? ⟨w.heap.size, 1, none⟩ = some (.int .i64 (s0 : Int)) ∧ wx.cell? ⟨w.heap.size, 2, none⟩ = some (.slice (some ⟨fb, fo, none⟩) N fc) ∧ wx.cell? ⟨w.heap.size, 3, none⟩ = some (.slice aa m ac)) (first | exact hK2 | exact hK1 | exact ⟨x0, x1, x2, x3⟩) (first
    | (go_at_call 53
       refine hbeg.mono ?_
       rintro e w1 ⟨v, rfl, hown, hb1⟩
       rw [← hWd] at hb1
       obtain ⟨G0, cap0, rfl⟩ := Go.Joins.ownsRow_form hown (by omega)
       have hg0 := row_nums hown (begL_len _ _)
       have hK1 := HSB.out w1 hb1)
    | (go_at_call 52
       refine (HCO.out G0 cap0 w1 (bel_on HBD.out hb1) hg0).mono ?_
       rintro e w2 ⟨c, T, tc, H, hc, G, gc, rfl, k1, k2, k3, k4, k5, k6, k7, k8, hb2⟩
       have hK2 := HSB.out w2 (bel_on hb1 hb2)))
  obtain ⟨x, hx⟩ : ∃ x, x = endD (segL c N (ins.length * (outs.length + 1) + outs.length)) f.final N := ⟨_, rfl⟩
  have hseg : ∀ v, gI (segL c N (ins.length * (outs.length + 1) + outs.length)) v ≤ 400001000000000 := fun v => by
    rcases Nat.lt_or_ge v N with h | h
    · rw [segL_at _ _ _ _ h]; exact k8 _
    · rw [out_gI _ _ (by rw [k3.len]; exact h)]; decide
  have HXB : Hid (BestP f ins outs s0 x ∧ x ≤ 400002000000000) := ⟨by rw [hx]; exact (best_path HOK.out).1 (doc_best k4 k5 k6 k7), by rw [hx]; exact endD_hi _ _ hseg HFH'.out N⟩
  have hb12 := bel_on hb1 hb2
  have hb0d := (bel_self w2).drew
  have hbw2 := bel_on HBD.out hb12
  have hend := ended_any f N G gc fb fo fc (s0 : Int) (.slice aa m ac) _ w2.drew hN2 (k3.below hb0d) ((HFX.out _ hbw2).below hb0d) hseg HFH'.out
  rw [← hx] at hend
  have hili : (il : Int) < il + 1 := by omega
  have holi : (ol : Int) < ol + 1 := by omega
  have S0 : (fun wx : World => wx.cell? ⟨w.heap.size, 0, none⟩ = some (.int .i64 (N : Int)) ∧ wx.cell? ⟨w.heap.size, 1, none⟩ = some (.int .i64 (s0 : Int)) ∧ wx.cell? ⟨w.heap.size, 2, none⟩ = some (.slice (some ⟨fb, fo, none⟩) N fc) ∧ wx.cell? ⟨w.heap.size, 3, none⟩ = some (.slice aa m ac) ∧ wx.cell? ⟨T, il, none⟩ = some (.slice (some ⟨H, 0, none⟩) (ol + 1) hc) ∧ wx.cell? ⟨H, ol, none⟩ = some (.slice (some ⟨G, 0, none⟩) N gc)) w2.drew := ⟨drew_cell hK2.1, drew_cell hK2.2.1, drew_cell hK2.2.2.1, drew_cell hK2.2.2.2, drew_cell k1, drew_cell k2⟩
  have HS : Hid (∀ wx, Below w2.drew.heap.size w2.drew wx → (fun wx : World => wx.cell? ⟨w.heap.size, 0, none⟩ = some (.int .i64 (N : Int)) ∧ wx.cell? ⟨w.heap.size, 1, none⟩ = some (.int .i64 (s0 : Int)) ∧ wx.cell? ⟨w.heap.size, 2, none⟩ = some (.slice (some ⟨fb, fo, none⟩) N fc) ∧ wx.cell? ⟨w.heap.size, 3, none⟩ = some (.slice aa m ac) ∧ wx.cell? ⟨T, il, none⟩ = some (.slice (some ⟨H, 0, none⟩) (ol + 1) hc) ∧ wx.cell? ⟨H, ol, none⟩ = some (.slice (some ⟨G, 0, none⟩) N gc)) wx) := fun wx hb => ⟨bel_c hb S0.1, bel_c hb S0.2.1, bel_c hb S0.2.2.1, bel_c hb S0.2.2.2.1, bel_c hb S0.2.2.2.2.1, bel_c hb S0.2.2.2.2.2⟩
  clear k1 k2 k3 k4 k5 k6 k7 k8 hseg hx hK1 hK2 hb1 hb2 x0 x1 x2 x3 hbeg HCO hWd hg0 hown HFX HFH' HOK HSB
  go_wp2
  go_region_held3 (fun wx : World => wx.cell? ⟨w.heap.size, 0, none⟩ = some (.int .i64 (N : Int)) ∧ wx.cell? ⟨w.heap.size, 1, none⟩ = some (.int .i64 (s0 : Int)) ∧ wx.cell? ⟨w.heap.size, 2, none⟩ = some (.slice (some ⟨fb, fo, none⟩) N fc) ∧ wx.cell? ⟨w.heap.size, 3, none⟩ = some (.slice aa m ac) ∧ wx.cell? ⟨T, il, none⟩ = some (.slice (some ⟨H, 0, none⟩) (ol + 1) hc) ∧ wx.cell? ⟨H, ol, none⟩ = some (.slice (some ⟨G, 0, none⟩) N gc)) (first | exact HS.out _ hb4 | exact S0) (
    (go_at_call 54
     refine hend.mono ?_
     rintro e w4 ⟨rfl, hb4⟩))
  go_wp2
  go_ret
  exact ⟨x, rfl, HXB.out.1, HXB.out.2, bel_on (bel_on hbw2 hb0d) hb4⟩
end Go.Proofs.Yteehgcbjmdideaa

/- The document's 'BehindOf'. -/
namespace Go.Proofs.Yteehgcbjmdideaa
open Go.RowKit
attribute [local go_sem ↓] Go.wp_at_zero Go.wp_at_succ

theorem OkW.drop {f : FstD} {ins outs : List Int} {N s0 : Nat} (h : OkW f ins outs N s0) (i o : Nat) : OkW f (ins.drop i) (outs.drop o) N s0 :=
  ⟨h.n1, h.n2, h.s, by rw [List.length_drop]; have := h.i40; omega, by rw [List.length_drop]; have := h.o40; omega, h.many, h.arcs, h.sort, h.len, h.fin⟩

/-- a piece and the rest behind it, cut at one of the first places -/
def BehS (f g : FstD) (ins outs : List Int) (s t i o : Nat) (y : Int) : Prop :=
  ∃ i' o', i' ≤ ins.length ∧ o' ≤ outs.length ∧ (i' < i ∨ (i' = i ∧ o' < o)) ∧ ∃ u v, PieceP f ins outs s 0 0 i' o' u ∧ PieceP g ins outs t i' o' ins.length outs.length v ∧ y = u + v

theorem BehS.none {f g : FstD} {ins outs : List Int} {s t : Nat} (y : Int) : ¬ BehS f g ins outs s t 0 0 y := by
  rintro ⟨i', o', _, _, h, _⟩
  omega
theorem BehS.line {f g : FstD} {ins outs : List Int} {s t i : Nat} (y : Int) : BehS f g ins outs s t i (outs.length + 1) y ↔ BehS f g ins outs s t (i + 1) 0 y := by
  constructor
  · rintro ⟨i', o', h1, h2, h3, h4⟩; exact ⟨i', o', h1, h2, by omega, h4⟩
  · rintro ⟨i', o', h1, h2, h3, h4⟩; exact ⟨i', o', h1, h2, by omega, h4⟩
theorem BehS.all {f g : FstD} {ins outs : List Int} {s t : Nat} (y : Int) : BehS f g ins outs s t (ins.length + 1) 0 y ↔ ∃ i o, i ≤ ins.length ∧ o ≤ outs.length ∧ ∃ u v, PieceP f ins outs s 0 0 i o u ∧ PieceP g ins outs t i o ins.length outs.length v ∧ y = u + v := by
  constructor
  · rintro ⟨i', o', h1, h2, h3, h4⟩; exact ⟨i', o', h1, h2, h4⟩
  · rintro ⟨i', o', h1, h2, h4⟩; exact ⟨i', o', h1, h2, by omega, h4⟩
theorem BehS.step {f g : FstD} {ins outs : List Int} {s t i o : Nat} (hi : i ≤ ins.length) (ho : o ≤ outs.length) (y : Int) : BehS f g ins outs s t i (o + 1) y ↔ BehS f g ins outs s t i o y ∨ ∃ u v, PieceP f ins outs s 0 0 i o u ∧ PieceP g ins outs t i o ins.length outs.length v ∧ y = u + v := by
  constructor
  · rintro ⟨i', o', h1, h2, h3, h4⟩
    by_cases e : i' = i ∧ o' = o
    · obtain ⟨rfl, rfl⟩ := e
      exact Or.inr h4
    · exact Or.inl ⟨i', o', h1, h2, by omega, h4⟩
  · rintro (⟨i', o', h1, h2, h3, h4⟩ | h4)
    · exact ⟨i', o', h1, h2, by omega, h4⟩
    · exact ⟨i, o, hi, ho, by omega, h4⟩

theorem rest_mn {g : FstD} {ins outs : List Int} {t i o : Nat} {x : Int} (hi : i ≤ ins.length) (ho : o ≤ outs.length) (h : BestP g (ins.drop i) (outs.drop o) t x) : Mn (PieceP g ins outs t i o ins.length outs.length) x := by
  refine (best_mn.1 h).cong fun y => ?_
  rw [tot_piece, piece_drop, List.length_drop, List.length_drop, show i + (ins.length - i) = ins.length by omega, show o + (outs.length - o) = outs.length by omega]
  exact Iff.rfl

theorem beh_more {f g : FstD} {ins outs : List Int} {s t i o : Nat} {b p x : Int} (hi : i ≤ ins.length) (ho : o ≤ outs.length) (hb : Mn (BehS f g ins outs s t i o) b) (hp : Mn (PieceP f ins outs s 0 0 i o) p) (hx : BestP g (ins.drop i) (outs.drop o) t x) : Mn (BehS f g ins outs s t i (o + 1)) (lessC b (plusC p x)) :=
  (hb.less (hp.plus (rest_mn hi ho hx))).cong fun y => (BehS.step hi ho y).symm
theorem beh_same {f g : FstD} {ins outs : List Int} {s t i o : Nat} {b p : Int} (hi : i ≤ ins.length) (ho : o ≤ outs.length) (hb : Mn (BehS f g ins outs s t i o) b) (hp : Mn (PieceP f ins outs s 0 0 i o) p) (h0 : p < 0) : Mn (BehS f g ins outs s t i (o + 1)) b := by
  refine hb.cong fun y => ?_
  rw [BehS.step hi ho y]
  refine ⟨Or.inl, fun h => h.resolve_right ?_⟩
  rintro ⟨u, v, hu, _⟩
  rcases hp with ⟨_, hn⟩ | ⟨h1, _⟩
  · exact hn u hu
  · omega

set_option maxHeartbeats 2000000 in
set_option maxRecDepth 100000 in
theorem behindOf_any (f g : FstD) (ins outs : List Int) (N s0 fb fo fc : Nat) (aa : Option Addr) (m ac : Nat) (M t0 gb go gc : Nat) (ea : Option Addr) (m' ec : Nat) (ia : Option Addr) (il ic : Nat) (oa : Option Addr) (ol oc : Nat) (w : World)
    (hok : OkW f ins outs N s0) (hlet : ∀ a ∈ f.arcs, (0 ≤ a.inp ∧ a.inp ≤ 9) ∧ (0 ≤ a.out ∧ a.out ≤ 9)) (hfx : IntsAt w fb fo N f.final) (ha : ASlice w (.slice aa m ac) f.arcs) (hal : f.arcs.length = m)
    (hok' : OkW g ins outs M t0) (hlet' : ∀ a ∈ g.arcs, (0 ≤ a.inp ∧ a.inp ≤ 9) ∧ (0 ≤ a.out ∧ a.out ≤ 9)) (hgx : IntsAt w gb go M g.final) (ha' : ASlice w (.slice ea m' ec) g.arcs) (hal' : g.arcs.length = m')
    (hI : ISlice w (.slice ia il ic) ins) (hil : ins.length = il) (hic : il ≤ ic) (hO : ISlice w (.slice oa ol oc) outs) (hol : outs.length = ol) (hoc : ol ≤ oc) :
    Calls Try.prog 28 #[.agg #[.int .i64 (N : Int), .int .i64 (s0 : Int), .slice (some ⟨fb, fo, none⟩) N fc, .slice aa m ac], .agg #[.int .i64 (M : Int), .int .i64 (t0 : Int), .slice (some ⟨gb, go, none⟩) M gc, .slice ea m' ec], .slice ia il ic, .slice oa ol oc] w fun e w' => ∃ x, e = .returned (.int .i64 x) ∧ Mn (BehS f g ins outs s0 t0 (ins.length + 1) 0) x ∧ Below w.heap.size w w' := by
  have hi40 : il ≤ 40 := by have := hok.i40; omega
  have ho40 : ol ≤ 40 := by have := hok.o40; omega
  obtain ⟨W0, hW0⟩ : ∃ W0, W0 = (w.alloc (.cells #[.int .i64 (N : Int), .int .i64 (s0 : Int), .slice (some ⟨fb, fo, none⟩) N fc, .slice aa m ac] 25)).alloc (.cells #[.int .i64 (M : Int), .int .i64 (t0 : Int), .slice (some ⟨gb, go, none⟩) M gc, .slice ea m' ec] 25) := ⟨_, rfl⟩
  have hb0 : Below w.heap.size w W0 := by rw [hW0]; exact two_up w _ _
  have hbF : W0.heap[w.heap.size]? = some (.cells #[.int .i64 (N : Int), .int .i64 (s0 : Int), .slice (some ⟨fb, fo, none⟩) N fc, .slice aa m ac] 25 (0, 0)) := by
    rw [hW0]; exact heap_bel (bel_up (bel_self _) _) (heap_alloc_new w _)
  have hbG : W0.heap[w.heap.size + 1]? = some (.cells #[.int .i64 (M : Int), .int .i64 (t0 : Int), .slice (some ⟨gb, go, none⟩) M gc, .slice ea m' ec] 25 (0, 0)) := by
    rw [hW0]
    have := heap_alloc_new (w.alloc (.cells #[.int .i64 (N : Int), .int .i64 (s0 : Int), .slice (some ⟨fb, fo, none⟩) N fc, .slice aa m ac] 25)) (.cells #[.int .i64 (M : Int), .int .i64 (t0 : Int), .slice (some ⟨gb, go, none⟩) M gc, .slice ea m' ec] 25)
    rw [one_size] at this
    exact this
  have u0 := box_cell (k := 0) hbF rfl
  have u1 := box_cell (k := 1) hbF rfl
  have u2 := box_cell (k := 2) hbF rfl
  have u3 := box_cell (k := 3) hbF rfl
  have hpi := pieces_any f ins outs N s0 fb fo fc aa m ac ia il ic oa ol oc W0 hok hlet (hfx.below hb0) (ha.below hb0) hal (hI.below hb0) hil (hO.below hb0) hol
  have HSC : Hid (∀ i o W, Below w.heap.size w W → Calls Try.prog 12 #[.agg #[.int .i64 (M : Int), .int .i64 (t0 : Int), .slice (some ⟨gb, go, none⟩) M gc, .slice ea m' ec], .slice (tailA ia ic i) (il - i) (ic - i), .slice (tailA oa oc o) (ol - o) (oc - o)] W fun e w' => ∃ x, e = .returned (.int .i64 x) ∧ BestP g (ins.drop i) (outs.drop o) t0 x ∧ x ≤ 400002000000000 ∧ Below W.heap.size W w') := fun i o W hb =>
    scoreOf_is g (ins.drop i) (outs.drop o) M t0 gb go gc ea m' ec _ _ _ _ _ _ W (hok'.drop i o) hlet' (hgx.below hb) (ha'.below hb) hal' ((hI.below hb).tail hic i) (by rw [List.length_drop, hil]) ((hO.below hb).tail hoc o) (by rw [List.length_drop, hol])
  have HIL : Hid (ins.length = il ∧ outs.length = ol) := ⟨hil, hol⟩
  have HB0 : Hid (Below w.heap.size w W0) := hb0
  have HBG : Hid (W0.heap[w.heap.size + 1]? = some (.cells #[.int .i64 (M : Int), .int .i64 (t0 : Int), .slice (some ⟨gb, go, none⟩) M gc, .slice ea m' ec] 25 (0, 0))) := hbG
  clear hok hlet hfx ha hal hok' hlet' hgx ha' hal' hI hil hO hol hbF hbG hb0
  go_enter Try.func28, Try.ntmps28
  rw [hW0] at hpi u0 u1 u2 u3
  go_wp2_with (go_at_call 73
               refine hpi.mono ?_
               rintro e w2 ⟨T, tc, h, hc, p, rfl, k1, k2, k3, k4, _, _, hb2⟩
               rw [← hW0] at hb2)
  have HTA : Hid (∀ W, Below w2.heap.size w2 W → (∀ i, i ≤ il → W.cell? ⟨T, i, none⟩ = some (.slice (some ⟨h i, 0, none⟩) (ol + 1) (hc i))) ∧ (∀ i, i ≤ il → ∀ o, o ≤ ol → W.cell? ⟨h i, o, none⟩ = some (.int .i64 (p i o))) ∧ W.cell? ⟨w.heap.size + 1, 0, none⟩ = some (.int .i64 (M : Int)) ∧ W.cell? ⟨w.heap.size + 1, 1, none⟩ = some (.int .i64 (t0 : Int)) ∧ W.cell? ⟨w.heap.size + 1, 2, none⟩ = some (.slice (some ⟨gb, go, none⟩) M gc) ∧ W.cell? ⟨w.heap.size + 1, 3, none⟩ = some (.slice ea m' ec)) := fun W hb => by
    have hg := heap_bel (bel_on hb2 hb) HBG.out
    exact ⟨fun i hi => bel_c hb (k1 i hi), fun i hi o ho => bel_c hb (k2 i hi o ho), box_cell (k := 0) hg rfl, box_cell (k := 1) hg rfl, box_cell (k := 2) hg rfl, box_cell (k := 3) hg rfl⟩
  have HP : Hid (∀ i, i ≤ il → ∀ o, o ≤ ol → Mn (PieceP f ins outs s0 0 0 i o) (p i o) ∧ p i o ≤ 400002000000000) := fun i hi o ho => ⟨k3 i hi o ho, k4 i o⟩
  have HBW : Hid (Below w.heap.size w w2) := bel_on HB0.out hb2
  clear k1 k2 k3 k4 hb2 u0 u1 u2 u3 hW0 HBG HB0 hpi
  go_loopw [10, 11] (fun t10 t11 wr => ∃ (i : Nat) (b : Int), i ≤ il + 1 ∧ t11 = .int .i64 i ∧ t10 = .int .i64 b ∧ Mn (BehS f g ins outs s0 t0 i 0) b ∧ Below w2.heap.size w2 wr) (fun _ t11 _ => il + 1 - (intOf t11).toNat)
  case atStart => exact ⟨0, -1, Nat.zero_le _, rfl, rfl, Mn.none BehS.none, bel_self _⟩
  case round =>
    obtain ⟨i, b, hi, rfl, rfl, hmn, hb⟩ := hrel
    by_cases hlt : i ≤ il
    · have hii : (i : Int) ≤ il := by omega
      have HMN : Hid _ := hmn
      clear hmn
      go_wp2
      go_loopw [10, 12] (fun t10 t12 wr => ∃ (o : Nat) (b : Int), o ≤ ol + 1 ∧ t12 = .int .i64 o ∧ t10 = .int .i64 b ∧ Hid (Mn (BehS f g ins outs s0 t0 i o) b) ∧ Below w2.heap.size w2 wr) (fun _ t12 _ => ol + 1 - (intOf t12).toNat)
      case atStart => exact ⟨0, b, Nat.zero_le _, rfl, rfl, HMN, hb⟩
      case round =>
        clear HMN hb
        obtain ⟨o, b, ho, rfl, rfl, HMN, hb⟩ := hrel
        obtain ⟨q1, q2, q3, q4, q5, q6⟩ := HTA.out wr hb
        have r1 := q1 i hlt
        by_cases hlo : o ≤ ol
        · have hoi : (o : Int) ≤ ol := by omega
          have hoj : (o : Int) < ol + 1 := by omega
          have hij : (i : Int) < il + 1 := by omega
          have r2 := q2 i hlt o hlo
          by_cases hp0 : 0 ≤ p i o
          · have hsc := HSC.out i o wr.drew (bel_on HBW.out (bel_on hb (bel_self wr).drew))
            have hsl1 := fun wx => run_tail ia il ic i hlt wx
            have hsl2 := fun wx => run_tail oa ol oc o hlo wx
            have S0 : (fun wx : World => wx.cell? ⟨w.heap.size + 1, 0, none⟩ = some (.int .i64 (M : Int)) ∧ wx.cell? ⟨w.heap.size + 1, 1, none⟩ = some (.int .i64 (t0 : Int)) ∧ wx.cell? ⟨w.heap.size + 1, 2, none⟩ = some (.slice (some ⟨gb, go, none⟩) M gc) ∧ wx.cell? ⟨w.heap.size + 1, 3, none⟩ = some (.slice ea m' ec) ∧ wx.cell? ⟨T, i, none⟩ = some (.slice (some ⟨h i, 0, none⟩) (ol + 1) (hc i)) ∧ wx.cell? ⟨h i, o, none⟩ = some (.int .i64 (p i o))) wr.drew := ⟨drew_cell q3, drew_cell q4, drew_cell q5, drew_cell q6, drew_cell r1, drew_cell r2⟩
            have HS : Hid (∀ wx, Below w2.heap.size w2 wx → (fun wx : World => wx.cell? ⟨w.heap.size + 1, 0, none⟩ = some (.int .i64 (M : Int)) ∧ wx.cell? ⟨w.heap.size + 1, 1, none⟩ = some (.int .i64 (t0 : Int)) ∧ wx.cell? ⟨w.heap.size + 1, 2, none⟩ = some (.slice (some ⟨gb, go, none⟩) M gc) ∧ wx.cell? ⟨w.heap.size + 1, 3, none⟩ = some (.slice ea m' ec) ∧ wx.cell? ⟨T, i, none⟩ = some (.slice (some ⟨h i, 0, none⟩) (ol + 1) (hc i)) ∧ wx.cell? ⟨h i, o, none⟩ = some (.int .i64 (p i o))) wx) := fun wx hb => by
              obtain ⟨a1, a2, a3, a4, a5, a6⟩ := HTA.out wx hb
              exact ⟨a3, a4, a5, a6, a1 i hlt, a2 i hlt o hlo⟩
            have hpb := (HP.out i hlt o hlo).2
            clear q1 q2
            go_wp2
            go_region_held3 (fun wx : World => wx.cell? ⟨w.heap.size + 1, 0, none⟩ = some (.int .i64 (M : Int)) ∧ wx.cell? ⟨w.heap.size + 1, 1, none⟩ = some (.int .i64 (t0 : Int)) ∧ wx.cell? ⟨w.heap.size + 1, 2, none⟩ = some (.slice (some ⟨gb, go, none⟩) M gc) ∧ wx.cell? ⟨w.heap.size + 1, 3, none⟩ = some (.slice ea m' ec) ∧ wx.cell? ⟨T, i, none⟩ = some (.slice (some ⟨h i, 0, none⟩) (ol + 1) (hc i)) ∧ wx.cell? ⟨h i, o, none⟩ = some (.int .i64 (p i o))) (first | exact HS.out _ hb3 | exact S0) (first
              | (go_at_call 12
                 refine hsc.mono ?_
                 rintro e w3 ⟨x, rfl, hxb, hxle, hbx⟩
                 have hb3 := bel_on hb (bel_on (bel_self wr).drew hbx)
                 have HXB : Hid (BestP g (ins.drop i) (outs.drop o) t0 x) := hxb
                 clear hxb hsc)
              | (go_at_call 74
                 refine (plusWide_any (p i o) x _ (by omega) (by omega)).mono ?_
                 rintro e w4 ⟨rfl, rfl⟩)
              | (go_at_call 27
                 refine (lessRef_any _ _ _).mono ?_
                 rintro e w5 ⟨rfl, rfl⟩))
            go_wp2
            go_roundw
            case rel => exact ⟨o + 1, _, by omega, by go_num, rfl, beh_more (by rw [HIL.out.1]; exact hlt) (by rw [HIL.out.2]; exact hlo) HMN.out (HP.out i hlt o hlo).1 HXB.out, hb3⟩
            case measure => simp [intOf]; omega
          · have hp1 : p i o < 0 := by omega
            clear q1 q2
            go_wp2
            go_roundw
            case rel => exact ⟨o + 1, b, by omega, by go_num, rfl, beh_same (by rw [HIL.out.1]; exact hlt) (by rw [HIL.out.2]; exact hlo) HMN.out (HP.out i hlt o hlo).1 hp1, hb⟩
            case measure => simp [intOf]; omega
        · have hoe : o = ol + 1 := by omega
          subst hoe
          have hnl : ¬ ((ol : Int) + 1 ≤ ol) := by omega
          clear q1 q2
          go_wp2
          go_roundw
          case rel => exact ⟨i + 1, b, by omega, by go_num, rfl, HMN.out.cong (fun y => by rw [← HIL.out.2]; exact BehS.line y), hb⟩
          case measure => simp [intOf]; omega
    · have hie : i = il + 1 := by omega
      subst hie
      have hnl : ¬ ((il : Int) + 1 ≤ il) := by omega
      go_wp2
      go_ret
      exact ⟨b, rfl, by rw [HIL.out.1]; exact hmn, bel_on HBW.out hb⟩
end Go.Proofs.Yteehgcbjmdideaa
