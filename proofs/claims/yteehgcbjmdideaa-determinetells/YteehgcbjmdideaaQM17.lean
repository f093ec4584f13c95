/- Rows that grow, of which a row of rows tells. -/
import Derived.Test.YteehgcbjmdideaaQM13
import Derived.Test.YteehgcbjmdideaaQM16
import Derived.Test.YteehgcbjmdideaaQM05
namespace Go.Proofs.Yteehgcbjmdideaa
open Go.RowKit

/-- numbers that are none below nought -/
def natL (l : List Nat) : List Int := l.map fun (x : Nat) => (x : Int)
def natV (l : List Nat) : List Value := l.map fun (x : Nat) => .int .i64 (x : Int)
theorem natV_eq (l : List Nat) : natV l = (natL l).map (Value.int .i64) := by simp [natV, natL]
theorem natL_len (l : List Nat) : (natL l).length = l.length := by simp [natL]
theorem natL_get {l : List Nat} {i x : Nat} (h : l[i]? = some x) : (natL l).getD i 0 = (x : Int) := by simp [natL, List.getD, h]

/-- an append to a row of one's own, told where it lies then -/
theorem wp_app_at {P : Program} {w : World} {o : Oper} {a : Act} {K : Act → World → Prop} {Q : Exit → Act → World → Prop} (s x : Operand) (t : TypeId)
    (ho : o.op = .call { callee := .builtin .append, args := #[s, x], argTypes := #[t, t] })
    (base : Nat) (e : TypeId) (i : TypeInfo) (z : Value) (size bytes : Nat) (ht : P.underlying t = some (.slice e)) (hi : P.info? e = some i) (hz : i.zero = some z)
    (hsize : i.size = size) (hby : i.bytes = bytes) (hzs : z.cells.size = size) (hsz : 0 < size)
    (v : Value) (n : Nat) (xs : List Value) (hs : a.eval s = v) (hown : w.ownsRow base e size v n xs)
    (ad : Addr) (m c : Nat) (news : List Value) (hx : a.eval x = .slice (some ad) m c) (hl : news.length = m * size) (hnews : ∀ j u, news[j]? = some u → w.cell? (ad.add j) = some u) (h1 : ∀ u ∈ news, u.oneCell' = true)
    (h63 : n + m ≤ maxLen) (hbytes : (n + m) * bytes ≤ 140737488355328) (hbase : base ≤ w.heap.size)
    (h : ∀ v' w', w'.ownsRow base e size v' (n + m) (xs ++ news) → w.grownBy w' v.ownBlock → (v'.ownBlock = v.ownBlock ∨ v'.ownBlock = some w.heap.size) → K (a.put o.dst v') w') : o.wp P a w K Q := by
  obtain ⟨v', w', hr, h2, h3, _, h5⟩ := run_append_own_at (P := P) w base t o.type e i z size bytes ht hi hz hsize hby hzs hsz v n xs hown ad m c news hl hnews h1 h63 hbytes hbase
  unfold Oper.wp execOp
  simp only [ho, resolve, invoke, builtin, Sem.run_bind, Sem.run_pure, Result.andThen_ok, List.map_toArray, List.map_cons, List.map_nil, hs, hx, hr]
  exact h v' w' h2 h3 h5

/-- the program's rows: how many lead to each state; where arcs lead to from each -/
structure NXW (w wr : World) (N : Nat) (sta : Int) (fin arcs : Value) (gi gn : Nat) (c : Nat → Nat) (V : Nat → Value) (L : Nat → List Nat) : Prop where
  rw : RW w wr N sta fin arcs
  into : ValsAt wr gi N (fun v => .int .i64 (c v : Int))
  next : ValsAt wr gn N V
  gi1 : w.heap.size < gi
  gn1 : gi < gn
  rows : ∀ s, s < N → wr.ownsRow (gn + 1) 3 1 (V s) (L s).length (natV (L s))
  sep : ∀ s t, s < N → t < N → s ≠ t → ∀ b, (V s).ownBlock = some b → (V t).ownBlock ≠ some b

section
variable {w wr wx : World} {N : Nat} {sta : Int} {fin arcs : Value} {gi gn : Nat} {c : Nat → Nat} {V : Nat → Value} {L : Nat → List Nat}

theorem NXW.below (h : NXW w wr N sta fin arcs gi gn c V L) (hb : Below wr.heap.size wr wx) : NXW w wx N sta fin arcs gi gn c V L :=
  ⟨h.rw.below hb, h.into.below hb, h.next.below hb, h.gi1, h.gn1, fun s hs => ownsRow_bel (h.rows s hs) hb, h.sep⟩

theorem NXW.notRow (h : NXW w wr N sta fin arcs gi gn c V L) {s k : Nat} (hs : s < N) (hk : k ≤ gn) : (V s).ownBlock ≠ some k := fun e => by
  have := own_base (h.rows s hs) k e
  omega

/-- how many lead to a state is told anew -/
theorem NXW.setInto (h : NXW w wr N sta fin arcs gi gn c V L) {t x : Nat} (ht : t < N) : NXW w (wr.setCell ⟨gi, t, none⟩ (.int .i64 (x : Int))) N sta fin arcs gi gn (fun v => if v = t then x else c v) V L := by
  refine ⟨h.rw.set h.gi1, (h.into.set t _ ht).cong fun i _ => ?_, h.next.other (by have := h.gn1; omega), h.gi1, h.gn1, fun s hs => ownsRow_setCell_far (h.rows s hs) (h.notRow hs (by have := h.gn1; omega)), h.sep⟩
  unfold updV
  by_cases e : i = t
  · rw [if_pos e, if_pos e]
  · rw [if_neg e, if_neg e]

theorem NXW.cong {c' : Nat → Nat} {L' : Nat → List Nat} (h : NXW w wr N sta fin arcs gi gn c V L) (hc : ∀ v, v < N → c v = c' v) (hL : ∀ s, s < N → L s = L' s) : NXW w wr N sta fin arcs gi gn c' V L' :=
  ⟨h.rw, h.into.cong fun i hi => by rw [hc i hi], h.next, h.gi1, h.gn1, fun s hs => by rw [← hL s hs]; exact h.rows s hs, h.sep⟩

/-- one more in a row -/
theorem NXW.app (h : NXW w wr N sta fin arcs gi gn c V L) {s t : Nat} (hs : s < N) {v' : Value} (hg : wr.grownBy wx (V s).ownBlock) (ho : wx.ownsRow (gn + 1) 3 1 v' ((L s).length + 1) (natV (L s) ++ [.int .i64 (t : Int)]))
    (hv : v'.ownBlock = (V s).ownBlock ∨ v'.ownBlock = some wr.heap.size) : NXW w (wx.setCell ⟨gn, s, none⟩ v') N sta fin arcs gi gn c (updV V s v') (updR L s (L s ++ [t])) := by
  have hgn := h.gn1
  have hgi := h.gi1
  have hrow : ∀ k, k ≤ gn → some k ≠ (V s).ownBlock := fun k hk e => h.notRow hs hk e.symm
  have hlt : ∀ u, u < N → ∀ b, (V u).ownBlock = some b → b < wr.heap.size := fun u hu => ownsRow_lt0 (h.rows u hu)
  have hvn : ∀ k, k ≤ gn → v'.ownBlock ≠ some k := fun k hk e => by
    have := own_base ho k e
    omega
  have hcf := h.rw.cf
  have hl0 := cell_lt hcf.1
  have hcf' : CellsF wx w.heap.size (N : Int) sta fin arcs := ⟨(hg.cell_far ⟨w.heap.size, 0, none⟩ hl0 (hrow w.heap.size (by omega))).trans hcf.1, (hg.cell_far ⟨w.heap.size, 1, none⟩ hl0 (hrow w.heap.size (by omega))).trans hcf.2.1, (hg.cell_far ⟨w.heap.size, 2, none⟩ hl0 (hrow w.heap.size (by omega))).trans hcf.2.2.1, (hg.cell_far ⟨w.heap.size, 3, none⟩ hl0 (hrow w.heap.size (by omega))).trans hcf.2.2.2⟩
  have hb' : Below w.heap.size w wx := h.rw.bel.grown hg (by have := h.rw.bel.size; omega) (fun k hk => by have := own_base (h.rows s hs) k hk; omega)
  have hrw : RW w wx N sta fin arcs := ⟨hcf', hb'⟩
  have hin := h.into.grown hg (hrow gi (by omega))
  have hnx := h.next.grown hg (hrow gn (Nat.le_refl _))
  refine ⟨hrw.set (by omega), hin.other (by omega), hnx.set s v' hs, hgi, hgn, fun u hu => ?_, fun u t' hu ht hne b hb => ?_⟩
  · unfold updV updR
    by_cases e : u = s
    · rw [if_pos e, if_pos e]
      refine ownsRow_setCell_far ?_ (hvn gn (Nat.le_refl _))
      have e1 : (L s ++ [t]).length = (L s).length + 1 := by simp
      have e2 : natV (L s ++ [t]) = natV (L s) ++ [.int .i64 (t : Int)] := by simp [natV]
      rw [e1, e2]
      exact ho
    · rw [if_neg e, if_neg e]
      refine ownsRow_setCell_far ((h.rows u hu).kept hg ?_) (h.notRow hu (Nat.le_refl _))
      cases hu' : (V u).ownBlock with
      | none => exact Or.inl rfl
      | some b => exact Or.inr fun e' => h.sep u s hu hs e b hu' e'.symm
  · unfold updV at hb ⊢
    by_cases e : u = s
    · rw [if_pos e] at hb
      rw [if_neg (by omega)]
      rcases hv with hv | hv
      · rw [hv] at hb
        exact h.sep s t' hs ht (by omega) b hb
      · rw [hv] at hb
        injection hb with hb
        intro e'
        have := hlt t' ht b e'
        omega
    · rw [if_neg e] at hb
      by_cases e2 : t' = s
      · rw [if_pos e2]
        rcases hv with hv | hv
        · rw [hv]
          exact h.sep u s hu hs e b hb
        · rw [hv]
          intro e'
          injection e' with e'
          have := hlt u hu b hb
          omega
      · rw [if_neg e2]
        exact h.sep u t' hu ht hne b hb

/-- something else grows that lies in no row -/
theorem NXW.grown {row : Option Nat} (h : NXW w wr N sta fin arcs gi gn c V L) (hg : wr.grownBy wx row) (hlo : ∀ k, row = some k → gn < k) (hr : ∀ s, s < N → ∀ b, (V s).ownBlock = some b → row ≠ some b) : NXW w wx N sta fin arcs gi gn c V L := by
  have hgn := h.gn1
  have hgi := h.gi1
  have hrow : ∀ k, k ≤ gn → some k ≠ row := fun k hk e => by have := hlo k e.symm; omega
  have hcf := h.rw.cf
  have hl0 := cell_lt hcf.1
  refine ⟨⟨⟨(hg.cell_far ⟨w.heap.size, 0, none⟩ hl0 (hrow w.heap.size (by omega))).trans hcf.1, (hg.cell_far ⟨w.heap.size, 1, none⟩ hl0 (hrow w.heap.size (by omega))).trans hcf.2.1, (hg.cell_far ⟨w.heap.size, 2, none⟩ hl0 (hrow w.heap.size (by omega))).trans hcf.2.2.1, (hg.cell_far ⟨w.heap.size, 3, none⟩ hl0 (hrow w.heap.size (by omega))).trans hcf.2.2.2⟩, h.rw.bel.grown hg (by have := h.rw.bel.size; omega) (fun k hk => by have := hlo k hk; omega)⟩, h.into.grown hg (hrow gi (by omega)), h.next.grown hg (hrow gn (Nat.le_refl _)), hgi, hgn, fun s hs => (h.rows s hs).kept hg ?_, h.sep⟩
  cases hu' : (V s).ownBlock with
  | none => exact Or.inl rfl
  | some b => exact Or.inr fun e' => hr s hs b hu' e'.symm
end
end Go.Proofs.Yteehgcbjmdideaa

/- 'PushOf' of the document's answer: what lies in memory. -/
namespace Go.Proofs.Yteehgcbjmdideaa
open Go.RowKit
attribute [local go_sem ↓] Go.wp_at_zero Go.wp_at_succ

theorem if_wanted {P : Program} {o : Oper} {y : Nat → Option Bool} {a : Act} {w : World} {K : Act → World → Prop} {Q : Exit → Act → World → Prop} (hgd : o.guard = none) (h : o.wp P a w K Q) : if Region.wanted o y = true then o.wp P a w K Q else K (a.put o.dst undef) w := by
  rw [if_pos (by simp [Region.wanted, hgd])]
  exact h

/-- ends, the first k of them pushed -/
def mixF (to fin : List Int) (k : Nat) : List Int := pushF to fin k ++ fin.drop k
theorem mixF_zero (to fin : List Int) : mixF to fin 0 = fin := by simp [mixF, pushF]
theorem mixF_len (to fin : List Int) (k : Nat) (hk : k ≤ fin.length) : (mixF to fin k).length = fin.length := by simp [mixF, pushF_len]; omega
theorem mixF_all (to fin : List Int) (k : Nat) (hk : fin.length ≤ k) : mixF to fin k = pushF to fin k := by simp [mixF, List.drop_of_length_le hk]
theorem mixF_at (to fin : List Int) (k : Nat) (hk : k < fin.length) : gI (mixF to fin k) k = fin.getD k 0 := by
  unfold gI mixF List.getD
  rw [List.getElem?_append_right (by rw [pushF_len]; exact Nat.le_refl _), pushF_len, Nat.sub_self]
  simp [hk]
theorem mixF_succ (to fin : List Int) (k : Nat) (hk : k < fin.length) : (mixF to fin k).set k (pf (gI to k) (fin.getD k 0)) = mixF to fin (k + 1) := by
  unfold mixF
  rw [List.set_append_right _ _ (by rw [pushF_len]; exact Nat.le_refl _), pushF_len, Nat.sub_self, List.drop_eq_getElem_cons hk, List.set_cons_zero, pushF_succ]
  simp
theorem mixF_same (to fin : List Int) (k : Nat) (hk : k < fin.length) (h : fin.getD k 0 = -1) : mixF to fin (k + 1) = mixF to fin k := by
  rw [← mixF_succ to fin k hk]
  have e : pf (gI to k) (fin.getD k 0) = gI (mixF to fin k) k := by rw [mixF_at to fin k hk, h]; simp [pf]
  rw [e, set_same]

/-- the world of 'PushOf' -/
structure OW (w wx : World) (N s0 gt P G cap : Nat) (fin arcs av : Value) (to xs : List Int) (ars : List ArcD) : Prop where
  cf : CellsF wx w.heap.size (N : Int) (s0 : Int) fin arcs
  zb : ZBlock wx (w.heap.size + 1)
  row : NumsAt wx gt N to
  out : CellsF wx P (N : Int) (s0 : Int) (.slice (some ⟨G, 0, none⟩) N cap) av
  frz : wx.frozen? ⟨P, 3, none⟩ = false
  fin : NumsAt wx G N xs
  ar : wx.ownsRow (w.heap.size + 2) 63 5 av ars.length (arcsV ars)
  gt1 : w.heap.size + 1 < gt
  gP : w.heap.size + 1 < P
  gG : w.heap.size + 1 < G
  tP : gt ≠ P
  tG : gt ≠ G
  PG : P ≠ G
  at_ : av.ownBlock ≠ some gt
  aP : av.ownBlock ≠ some P
  aG : av.ownBlock ≠ some G
  bel : Below w.heap.size w wx

theorem OW.below {w wx wy : World} {N s0 gt P G cap : Nat} {fin arcs av : Value} {to xs : List Int} {ars : List ArcD} (h : OW w wx N s0 gt P G cap fin arcs av to xs ars) (hb : Below wx.heap.size wx wy) : OW w wy N s0 gt P G cap fin arcs av to xs ars :=
  ⟨h.cf.below hb, heap_bel hb h.zb, h.row.below hb, h.out.below hb, (hb.frozen (p := ⟨P, 3, none⟩) (cell_lt h.out.1)).trans h.frz, h.fin.below hb, ownsRow_bel h.ar hb, h.gt1, h.gP, h.gG, h.tP, h.tG, h.PG, h.at_, h.aP, h.aG, bel_on h.bel hb⟩

theorem OW.set {w wx : World} {N s0 gt P G cap : Nat} {fin arcs av : Value} {to xs : List Int} {ars : List ArcD} (h : OW w wx N s0 gt P G cap fin arcs av to xs ars) (i : Nat) (x : Int) (hi : i < N) : OW w (wx.setCell ⟨G, i, none⟩ (.int .i64 x)) N s0 gt P G cap fin arcs av to (xs.set i x) ars :=
  ⟨h.cf.set (by have := h.gG; omega), heap_far h.zb (by have := h.gG; omega), h.row.other h.tG, h.out.set h.PG, by rw [World.frozen?_setCell]; exact h.frz, h.fin.set i x hi, ownsRow_setCell_far h.ar h.aG, h.gt1, h.gP, h.gG, h.tP, h.tG, h.PG, h.at_, h.aP, h.aG, h.bel.setCell (p := ⟨G, i, none⟩) (by have := h.gG; show w.heap.size ≤ G; omega) _⟩

end Go.Proofs.Yteehgcbjmdideaa

/- The document's 'Costs': what is true when the first places are done; a row that is being written. -/
namespace Go.Proofs.Yteehgcbjmdideaa
open Go.RowKit
attribute [local go_sem ↓] Go.wp_at_zero Go.wp_at_succ

/-- what is true of the prices when the first p places are done -/
structure GS (f : FstD) (ins outs : List Int) (N s0 : Nat) (c : List Int) (p : Nat) : Prop where
  inv : ∃ y, Inv (EdS f ins outs N) (bgS s0 (totS ins outs N)) c y
  fix : FixTo (EdS f ins outs N) c (p * N)
  rest : ∀ v, p * N ≤ v → gI c v = gI (bgS s0 (totS ins outs N)) v

theorem GS.start {f : FstD} {ins outs : List Int} {N s0 : Nat} : GS f ins outs N s0 (bgS s0 (totS ins outs N)) 0 :=
  ⟨⟨_, Inv.start (bgS_lo _ _) (fun v => by rw [bgS_at]; split <;> decide)⟩, fun e _ hk => by rw [Nat.zero_mul] at hk; omega, fun _ _ => rfl⟩

/-- a row that is written up to k -/
def fillL (s : List Int) (N k : Nat) : List Int := (List.range N).map fun n => if n < k then gI s n else 0
theorem fillL_len (s : List Int) (N k : Nat) : (fillL s N k).length = N := by simp [fillL]
theorem fillL_at (s : List Int) (N k n : Nat) (hn : n < N) : gI (fillL s N k) n = if n < k then gI s n else 0 := by
  show (fillL s N k).getD n (-1) = _
  unfold fillL
  simp [List.getD, hn]
theorem fillL_zero (s : List Int) (N : Nat) : fillL s N 0 = List.replicate N 0 := by
  unfold fillL
  apply List.ext_getElem
  · simp
  · intro i h1 h2
    simp
theorem fillL_succ (s : List Int) (N k : Nat) (hk : k < N) : (fillL s N k).set k (gI s k) = fillL s N (k + 1) := by
  apply gI_ext
  · rw [List.length_set, fillL_len, fillL_len]
  · intro v hv
    rw [List.length_set, fillL_len] at hv
    rw [gI_set _ _ _ _ (by rw [fillL_len]; exact hk), fillL_at _ _ _ _ hv, fillL_at _ _ _ _ hv]
    by_cases e : v = k
    · subst e
      rw [if_pos rfl, if_pos (by omega)]
    · rw [if_neg e]
      by_cases h : v < k
      · rw [if_pos h, if_pos (by omega)]
      · rw [if_neg h, if_neg (by omega)]
theorem fillL_all (s : List Int) (N : Nat) (h : s.length = N) : fillL s N N = s := by
  apply gI_ext
  · rw [fillL_len, h]
  · intro v hv
    rw [fillL_len] at hv
    rw [fillL_at _ _ _ _ hv, if_pos hv]

theorem GS.fresh {f : FstD} {ins outs : List Int} {N s0 : Nat} {c : List Int} {p k : Nat} (h : GS f ins outs N s0 c p) (hok : OkW f ins outs N s0) (hk : k < N) : gI (segL c N p) k = if p = 0 then gI (begL (s0 : Int) N) k else -1 := by
  rw [segL_at _ _ _ _ hk, h.rest _ (by omega), bgS_at]
  have hs := hok.s
  by_cases e : p = 0
  · subst e
    rw [Nat.zero_mul, Nat.zero_add, if_pos rfl]
    have hNT : k < totS ins outs N := by
      have := spotN_lt (N := N) (n := k) (i := 0) (o := 0) hk (Nat.zero_le ins.length) (Nat.zero_le outs.length)
      have e0 : spotN N outs.length k 0 0 = k := by unfold spotN; omega
      rw [e0] at this
      exact this
    unfold gI begL
    simp only [List.getD, List.getElem?_map, List.getElem?_range hk, Option.map_some, Option.getD_some]
    by_cases e2 : k = s0
    · subst e2; simp [hNT]
    · rw [if_neg (by omega)]
      have : ¬ (k : Int) = s0 := by omega
      simp [this]
  · rw [if_neg e, if_neg]
    rintro ⟨h1, _⟩
    have := Nat.mul_le_mul_right N (show 1 ≤ p by omega)
    omega

theorem one_sl (a : Option Addr) (n c : Nat) : ∀ u ∈ [Value.slice a n c], u.oneCell' = true := by
  intro u hu
  rw [List.mem_singleton] at hu
  subst hu
  rfl
theorem infoS : (Try.prog.info? 22).map (fun i => (i.zero, i.size, i.bytes)) = some (some (.slice none 0 0), 1, 24) := by kernel_rfl
theorem infoSS : (Try.prog.info? 70).map (fun i => (i.zero, i.size, i.bytes)) = some (some (.slice none 0 0), 1, 24) := by kernel_rfl
end Go.Proofs.Yteehgcbjmdideaa
