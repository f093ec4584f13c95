/- The document's tables, place by place: what is true of the prices between one arc and the next. -/
import Derived.Test.YteehgcbjmdideaaQMA
import Derived.Test.YteehgcbjmdideaaQMD
import Derived.Test.YteehgcbjmdideaaQSofP
namespace Go.Proofs.Yteehgcbjmdideaa

theorem Inv.relK {E : List Edg} {b c y : List Int} (h : Inv E b c y) (hbn : b.length ≤ 400000) {e : Edg} (he : e ∈ E) (hv : e.v < b.length) (hw0 : 0 ≤ e.w) (hw1 : e.w ≤ 1000000000) : (∃ y', Inv E b (relE c e) y') ∧ (relE c e = c ∨ muL (relE c e) < muL c) := by
  obtain ⟨j, hj⟩ := List.getElem?_of_mem he
  rw [← progE_eq c e h.lo]
  unfold progE
  split
  · rename_i hbt
    have := h.step hbn hj hv hw0 hw1 hbt
    exact ⟨⟨_, this.1⟩, Or.inr this.2⟩
  · exact ⟨⟨y, h⟩, Or.inl rfl⟩

section
variable (f : FstD) (ins outs : List Int) (N i o : Nat)

/-- an arc that says something, into the place -/
def IntoL (a : ArcD) (i' o' : Nat) : Prop := ¬ (a.inp = 0 ∧ a.out = 0) ∧ i' ≤ ins.length ∧ o' ≤ outs.length ∧ (fitB ins i' a.inp && fitB outs o' a.out) = true ∧ usedBy i' a.inp = i ∧ usedBy o' a.out = o

/-- the first k arcs that say something make nothing better at the place -/
def loudOk (c : List Int) (k : Nat) : Prop := ∀ k' a i' o', k' < k → f.arcs[k']? = some a → IntoL ins outs i o a i' o' → 0 ≤ gI c (edgeS N ins outs i' o' a).u → Rlx c (edgeS N ins outs i' o' a)

/-- nor do the first k silent ones -/
def silentOk (c : List Int) (k : Nat) : Prop := ∀ k' a, k' < k → f.arcs[k']? = some a → a.inp = 0 ∧ a.out = 0 → 0 ≤ gI c (edgeS N ins outs i o a).u → Rlx c (edgeS N ins outs i o a)
end

section
variable {f : FstD} {ins outs : List Int} {N i o s0 : Nat} {c : List Int}

theorem usedBy_inj {u u' : Nat} {x : Int} (h : usedBy u x = usedBy u' x) : u = u' := by
  unfold usedBy at h
  split at h <;> omega

theorem into_edge {a : ArcD} {i' o' : Nat} (h : IntoL ins outs i o a i' o') : edgeS N ins outs i' o' a = ⟨spotN N outs.length a.src.toNat i' o', spotN N outs.length a.dst.toNat i o, a.wt⟩ := by
  unfold edgeS
  rw [if_pos h.2.2.2.1, h.2.2.2.2.1, h.2.2.2.2.2]

theorem silent_edge {a : ArcD} (h : a.inp = 0 ∧ a.out = 0) : edgeS N ins outs i o a = ⟨spotN N outs.length a.src.toNat i o, spotN N outs.length a.dst.toNat i o, a.wt⟩ := by
  unfold edgeS
  rw [if_pos (by unfold fitB; rw [h.1, h.2]; rfl), h.1, h.2]
  rfl

theorem into_before {a : ArcD} {i' o' n : Nat} (h : IntoL ins outs i o a i' o') (hn : n < N) : spotN N outs.length n i' o' < (i * (outs.length + 1) + o) * N := by
  obtain ⟨h1, _, h3, _, h5, h6⟩ := h
  have hp : i' * (outs.length + 1) + o' + 1 ≤ i * (outs.length + 1) + o := by
    rw [← h5, ← h6]
    unfold usedBy
    split
    · split
      · rename_i e1 e2; exact absurd ⟨e1, e2⟩ h1
      · omega
    · rw [Nat.add_mul, Nat.one_mul]
      split <;> omega
  have := Nat.mul_le_mul_right N hp
  rw [Nat.add_mul, Nat.one_mul] at this
  unfold spotN
  omega

theorem place_ge (n : Nat) : (i * (outs.length + 1) + o) * N ≤ spotN N outs.length n i o := by unfold spotN; omega

theorem relE_u {e : Edg} {u : Nat} (hv : e.v < c.length) (h : u ≠ e.v) : gI (relE c e) u = gI c u := by
  unfold relE
  rw [gI_set _ _ _ _ hv, if_neg h]

/-- a step into the place leaves what was true of arcs that say something -/
theorem loudOk.rel {k : Nat} {e : Edg} {n : Nat} (h : loudOk f ins outs N i o c k) (hok : OkW f ins outs N s0) (he : e.v = spotN N outs.length n i o) (hv : e.v < c.length) : loudOk f ins outs N i o (relE c e) k := by
  intro k' a i' o' hk ha hin
  obtain ⟨⟨p1, p2⟩, _⟩ := hok.arcs a (List.mem_of_getElem? ha)
  refine rlx_stays (h k' a i' o' hk ha hin) (relE_le c e hv) (relE_u hv ?_)
  rw [into_edge hin, he]
  have h1 := into_before (N := N) hin (show a.src.toNat < N by omega)
  have h2 := place_ge (N := N) (i := i) (o := o) (outs := outs) n
  dsimp only
  omega

/-- one more arc that says something -/
theorem loudOk.step {k : Nat} {a : ArcD} {i' o' : Nat} (h : loudOk f ins outs N i o c k) (hok : OkW f ins outs N s0) (ha : f.arcs[k]? = some a) (hin : IntoL ins outs i o a i' o') (hv : (edgeS N ins outs i' o' a).v < c.length) (hlo : ∀ v, -1 ≤ gI c v) : loudOk f ins outs N i o (relE c (edgeS N ins outs i' o' a)) (k + 1) := by
  intro k' a' i2 o2 hk ha' hin'
  by_cases hlt : k' < k
  · exact h.rel hok (by rw [into_edge hin]) hv k' a' i2 o2 hlt ha' hin'
  · have e : k' = k := by omega
    subst e
    rw [ha] at ha'
    injection ha' with ha'
    subst ha'
    have e1 := usedBy_inj (hin.2.2.2.2.1.trans hin'.2.2.2.2.1.symm)
    have e2 := usedBy_inj (hin.2.2.2.2.2.trans hin'.2.2.2.2.2.symm)
    subst e1 e2
    refine relE_rlx hv ?_ hlo
    rw [into_edge hin]
    exact (hok.arcs a (List.mem_of_getElem? ha)).2.2.1

theorem loudOk.skip {k : Nat} {a : ArcD} (h : loudOk f ins outs N i o c k) (ha : f.arcs[k]? = some a) (hno : ∀ i' o', ¬ IntoL ins outs i o a i' o') : loudOk f ins outs N i o c (k + 1) := by
  intro k' a' i2 o2 hk ha' hin'
  by_cases hlt : k' < k
  · exact h k' a' i2 o2 hlt ha' hin'
  · have e : k' = k := by omega
    subst e
    rw [ha] at ha'
    injection ha' with ha'
    subst ha'
    exact absurd hin' (hno _ _)

theorem silentOk.step {k : Nat} {a : ArcD} (h : silentOk f ins outs N i o c k) (hok : OkW f ins outs N s0) (ha : f.arcs[k]? = some a) (hs : a.inp = 0 ∧ a.out = 0) (hlo : ∀ v, -1 ≤ gI c v) (he : lessC (gI c (spotN N outs.length a.dst.toNat i o)) (plusC (gI c (spotN N outs.length a.src.toNat i o)) a.wt) = gI c (spotN N outs.length a.dst.toNat i o)) : silentOk f ins outs N i o c (k + 1) := by
  intro k' a' hk ha' hs'
  by_cases hlt : k' < k
  · exact h k' a' hlt ha' hs'
  · have e : k' = k := by omega
    subst e
    rw [ha] at ha'
    injection ha' with ha'
    subst ha'
    rw [silent_edge hs]
    exact rlx_same (hok.arcs a (List.mem_of_getElem? ha)).2.2.1 (hlo _) he

theorem silentOk.skip {k : Nat} {a : ArcD} (h : silentOk f ins outs N i o c k) (ha : f.arcs[k]? = some a) (hs : ¬ (a.inp = 0 ∧ a.out = 0)) : silentOk f ins outs N i o c (k + 1) := by
  intro k' a' hk ha' hs'
  by_cases hlt : k' < k
  · exact h k' a' hlt ha' hs'
  · have e : k' = k := by omega
    subst e
    rw [ha] at ha'
    injection ha' with ha'
    subst ha'
    exact absurd hs' hs

/-- the place is done -/
theorem place_done (hok : OkW f ins outs N s0) (ho : o ≤ outs.length) (hf : FixTo (EdS f ins outs N) c ((i * (outs.length + 1) + o) * N)) (hl : loudOk f ins outs N i o c f.arcs.length) (hs : silentOk f ins outs N i o c f.arcs.length) : FixTo (EdS f ins outs N) c ((i * (outs.length + 1) + o + 1) * N) := by
  intro e he hk h0
  by_cases hlt : e.v < (i * (outs.length + 1) + o) * N
  · exact hf e he hlt h0
  · obtain ⟨i', o', a, hi', ho', ha, rfl⟩ := edS_mem.1 he
    obtain ⟨⟨p1, p2⟩, ⟨p3, p4⟩, _⟩ := hok.arcs a ha
    obtain ⟨j, hj⟩ := List.getElem?_of_mem ha
    have hjl : j < f.arcs.length := (List.getElem?_eq_some_iff.1 hj).1
    by_cases hfit : (fitB ins i' a.inp && fitB outs o' a.out) = true
    · have hv : (edgeS N ins outs i' o' a).v = spotN N outs.length a.dst.toNat (usedBy i' a.inp) (usedBy o' a.out) := by unfold edgeS; rw [if_pos hfit]
      rw [hv] at hlt hk
      rw [Bool.and_eq_true] at hfit
      have hu := usedBy_le hfit.2 ho'
      have hpl : usedBy i' a.inp * (outs.length + 1) + usedBy o' a.out = i * (outs.length + 1) + o := by
        unfold spotN at hlt hk
        have h1 : ¬ usedBy i' a.inp * (outs.length + 1) + usedBy o' a.out + 1 ≤ i * (outs.length + 1) + o := fun h => by
          have := Nat.mul_le_mul_right N h
          rw [Nat.add_mul, Nat.one_mul] at this
          omega
        have h2 : ¬ i * (outs.length + 1) + o + 1 ≤ usedBy i' a.inp * (outs.length + 1) + usedBy o' a.out := fun h => by
          have := Nat.mul_le_mul_right N h
          omega
        omega
      obtain ⟨e1, e2⟩ := mul_add_inj (by omega) (by omega) hpl
      by_cases hsil : a.inp = 0 ∧ a.out = 0
      · have e1' : i' = i := by rw [← e1, hsil.1]; rfl
        have e2' : o' = o := by rw [← e2, hsil.2]; rfl
        subst e1' e2'
        exact hs j a hjl hj hsil h0
      · exact hl j a i' o' hjl hj ⟨hsil, hi', ho', by rw [Bool.and_eq_true]; exact hfit, e1, e2⟩ h0
    · have hd : edgeS N ins outs i' o' a = ⟨0, 0, 0⟩ := by unfold edgeS; rw [if_neg hfit]
      rw [hd] at h0 ⊢
      exact ⟨h0, by dsimp only; omega⟩

/-- along an edge into the place nothing changes elsewhere -/
theorem FixTo.rel {E : List Edg} {k : Nat} {e : Edg} (h : FixTo E c k) (hE : ∀ e ∈ E, e.v < k → e.u < k) (hk : k ≤ e.v) (hv : e.v < c.length) : FixTo E (relE c e) k := by
  unfold relE
  exact h.set hE hk hv
end
end Go.Proofs.Yteehgcbjmdideaa

/- The document's tables in memory. -/
namespace Go.Proofs.Yteehgcbjmdideaa
open Go.RowKit

structure TB (w wr : World) (N ol : Nat) (sta : Int) (fin arcs : Value) (g h hc : Nat → Nat) (c : List Int) (i o : Nat) (t9 t11 : Value) : Prop where
  cf : CellsF wr w.heap.size (N : Int) sta fin arcs
  bel : Below w.heap.size w wr
  tab : wr.ownsRow (w.heap.size + 1) 70 1 t9 i ((List.range i).map fun k => .slice (some ⟨h k, 0, none⟩) (ol + 1) (hc k))
  pl : wr.ownsRow (w.heap.size + 1) 22 1 t11 o ((List.range o).map fun k => .slice (some ⟨g (i * (ol + 1) + k), 0, none⟩) N N)
  hpl : ∀ k, k < i → ∀ o', o' ≤ ol → wr.cell? ⟨h k, o', none⟩ = some (.slice (some ⟨g (k * (ol + 1) + o'), 0, none⟩) N N)
  rows : ∀ q, q < i * (ol + 1) + o → NumsAt wr (g q) N (segL c N q)
  gg : ∀ q, q < i * (ol + 1) + o → w.heap.size + 1 ≤ g q ∧ t9.ownBlock ≠ some (g q) ∧ t11.ownBlock ≠ some (g q)
  gh : ∀ k, k < i → w.heap.size + 1 ≤ h k ∧ t9.ownBlock ≠ some (h k) ∧ t11.ownBlock ≠ some (h k)
  sep : ∀ b, t9.ownBlock = some b → t11.ownBlock ≠ some b

section
variable {w wr wx : World} {N ol : Nat} {sta : Int} {fin arcs : Value} {g h hc : Nat → Nat} {c : List Int} {i o : Nat} {t9 t11 : Value}

theorem TB.below (t : TB w wr N ol sta fin arcs g h hc c i o t9 t11) (hb : Below wr.heap.size wr wx) : TB w wx N ol sta fin arcs g h hc c i o t9 t11 :=
  ⟨t.cf.below hb, bel_on t.bel hb, ownsRow_bel t.tab hb, ownsRow_bel t.pl hb, fun k hk o' ho => bel_c hb (t.hpl k hk o' ho), fun q hq => (t.rows q hq).below hb, t.gg, t.gh, t.sep⟩

/-- what is not yet laid down may change -/
theorem TB.other (t : TB w wr N ol sta fin arcs g h hc c i o t9 t11) {d : List Int} (hd : ∀ q, q < i * (ol + 1) + o → segL d N q = segL c N q) : TB w wr N ol sta fin arcs g h hc d i o t9 t11 :=
  ⟨t.cf, t.bel, t.tab, t.pl, t.hpl, fun q hq => by rw [hd q hq]; exact t.rows q hq, t.gg, t.gh, t.sep⟩

/-- a store into the row at work -/
theorem TB.far (t : TB w wr N ol sta fin arcs g h hc c i o t9 t11) {R k : Nat} {u : Value} (h0 : w.heap.size + 1 ≤ R) (h9 : t9.ownBlock ≠ some R) (h11 : t11.ownBlock ≠ some R) (hg : ∀ q, q < i * (ol + 1) + o → g q ≠ R) (hh : ∀ k, k < i → h k ≠ R) : TB w (wr.setCell ⟨R, k, none⟩ u) N ol sta fin arcs g h hc c i o t9 t11 := by
  have hX : w.heap.size ≠ R := by omega
  exact ⟨⟨(set_far hX).trans t.cf.1, (set_far hX).trans t.cf.2.1, (set_far hX).trans t.cf.2.2.1, (set_far hX).trans t.cf.2.2.2⟩, t.bel.setCell (p := ⟨R, k, none⟩) (by show w.heap.size ≤ R; omega) _, ownsRow_setCell_far t.tab h9, ownsRow_setCell_far t.pl h11, fun k hk o' ho => (set_far (hh k hk)).trans (t.hpl k hk o' ho), fun q hq => (t.rows q hq).other (hg q hq), t.gg, t.gh, t.sep⟩

/-- the row at work is laid down -/
theorem TB.row {w' : World} {R : Nat} {v' : Value} (t : TB w wr N ol sta fin arcs g h hc c i o t9 t11) (hR : NumsAt wr R N (segL c N (i * (ol + 1) + o))) (h0 : w.heap.size + 1 ≤ R) (h9 : t9.ownBlock ≠ some R) (h11 : t11.ownBlock ≠ some R)
    (hgr : wr.grownBy w' t11.ownBlock) (hown : w'.ownsRow (w.heap.size + 1) 22 1 v' (o + 1) (((List.range o).map fun k => .slice (some ⟨g (i * (ol + 1) + k), 0, none⟩) N N) ++ [.slice (some ⟨R, 0, none⟩) N N])) (hv : v'.ownBlock = t11.ownBlock ∨ v'.ownBlock = some wr.heap.size) :
    TB w w' N ol sta fin arcs (fun q => if q = i * (ol + 1) + o then R else g q) h hc c i (o + 1) t9 v' := by
  have hX : some w.heap.size ≠ t11.ownBlock := fun e => by have := own_base t.pl _ e.symm; omega
  have hlX := cell_lt t.cf.1
  have hne : ∀ b, t11.ownBlock ≠ some b → some b ≠ t11.ownBlock := fun b hb e => hb e.symm
  have h9' : ∀ b, t9.ownBlock = some b → b < wr.heap.size := ownsRow_lt0 t.tab
  refine ⟨⟨(hgr.cell_far ⟨_, 0, none⟩ hlX hX).trans t.cf.1, (hgr.cell_far ⟨_, 1, none⟩ hlX hX).trans t.cf.2.1, (hgr.cell_far ⟨_, 2, none⟩ hlX hX).trans t.cf.2.2.1, (hgr.cell_far ⟨_, 3, none⟩ hlX hX).trans t.cf.2.2.2⟩, t.bel.grown hgr (by have := t.bel.size; omega) (fun k hk => by have := own_base t.pl _ hk; omega), ?_, ?_, fun k hk o' ho => ?_, fun q hq => ?_, fun q hq => ?_, fun k hk => ?_, fun b hb => ?_⟩
  · refine t.tab.kept hgr ?_
    cases h9b : t9.ownBlock with
    | none => exact Or.inl rfl
    | some b => exact Or.inr fun e => t.sep b h9b e.symm
  · have e : ((List.range (o + 1)).map fun k => Value.slice (some ⟨if i * (ol + 1) + k = i * (ol + 1) + o then R else g (i * (ol + 1) + k), 0, none⟩) N N) = ((List.range o).map fun k => .slice (some ⟨g (i * (ol + 1) + k), 0, none⟩) N N) ++ [.slice (some ⟨R, 0, none⟩) N N] := by
      rw [List.range_succ, List.map_append]
      congr 1
      · apply List.map_congr_left
        intro k hk
        rw [List.mem_range] at hk
        rw [if_neg (by omega)]
      · simp
    rw [e]
    exact hown
  · have hlt := cell_lt (t.hpl k hk o' ho)
    have hpl : k * (ol + 1) + o' < i * (ol + 1) + o := by
      have := Nat.mul_le_mul_right (ol + 1) (show k + 1 ≤ i by omega)
      rw [Nat.add_mul, Nat.one_mul] at this
      omega
    rw [if_neg (by omega)]
    exact (hgr.cell_far ⟨_, o', none⟩ hlt (hne _ (t.gh k hk).2.2)).trans (t.hpl k hk o' ho)
  · by_cases e : q = i * (ol + 1) + o
    · subst e
      rw [if_pos rfl]
      exact hR.block (hgr.block R hR.lt (hne _ h11)) (Nat.lt_of_lt_of_le hR.lt hgr.size)
    · rw [if_neg e]
      have hq' : q < i * (ol + 1) + o := by omega
      exact (t.rows q hq').block (hgr.block _ (t.rows q hq').lt (hne _ (t.gg q hq').2.2)) (Nat.lt_of_lt_of_le (t.rows q hq').lt hgr.size)
  · have hsz : ∀ b, b < wr.heap.size → t11.ownBlock ≠ some b → v'.ownBlock ≠ some b := fun b hb hn e => by
      rcases hv with hv | hv
      · rw [hv] at e; exact hn e
      · rw [hv] at e; injection e with e; omega
    by_cases e : q = i * (ol + 1) + o
    · subst e
      rw [if_pos rfl]
      exact ⟨h0, h9, hsz R hR.lt h11⟩
    · rw [if_neg e]
      have hq' : q < i * (ol + 1) + o := by omega
      exact ⟨(t.gg q hq').1, (t.gg q hq').2.1, hsz _ (t.rows q hq').lt (t.gg q hq').2.2⟩
  · have hlt := cell_lt (t.hpl k hk 0 (Nat.zero_le _))
    refine ⟨(t.gh k hk).1, (t.gh k hk).2.1, fun e => ?_⟩
    rcases hv with hv | hv
    · rw [hv] at e; exact (t.gh k hk).2.2 e
    · rw [hv] at e; injection e with e; omega
  · intro e
    rcases hv with hv | hv
    · rw [hv] at e; exact t.sep b hb e
    · rw [hv] at e; injection e with e; have := h9' b hb; omega

/-- the plane at work is laid down -/
theorem TB.plane {w' : World} {H cap : Nat} {v' : Value} (t : TB w wr N ol sta fin arcs g h hc c i (ol + 1) t9 (.slice (some ⟨H, 0, none⟩) (ol + 1) cap))
    (hgr : wr.grownBy w' t9.ownBlock) (hown : w'.ownsRow (w.heap.size + 1) 70 1 v' (i + 1) (((List.range i).map fun k => .slice (some ⟨h k, 0, none⟩) (ol + 1) (hc k)) ++ [.slice (some ⟨H, 0, none⟩) (ol + 1) cap])) (hv : v'.ownBlock = t9.ownBlock ∨ v'.ownBlock = some wr.heap.size) :
    TB w w' N ol sta fin arcs g (fun k => if k = i then H else h k) (fun k => if k = i then cap else hc k) c (i + 1) 0 v' (.slice none 0 0) := by
  have hX : some w.heap.size ≠ t9.ownBlock := fun e => by have := own_base t.tab _ e.symm; omega
  have hlX := cell_lt t.cf.1
  have hne : ∀ b, t9.ownBlock ≠ some b → some b ≠ t9.ownBlock := fun b hb e => hb e.symm
  have hH9 : t9.ownBlock ≠ some H := fun e => t.sep H e rfl
  have hpe : (i + 1) * (ol + 1) + 0 = i * (ol + 1) + (ol + 1) := by rw [Nat.add_mul, Nat.one_mul]; rfl
  have hcH : ∀ o', o' ≤ ol → wr.cell? ⟨H, o', none⟩ = some (.slice (some ⟨g (i * (ol + 1) + o'), 0, none⟩) N N) := fun o' ho => by
    rw [t.pl.cellAt o' (by omega)]
    simp [show o' < ol + 1 by omega]
  have hHl := cell_lt (hcH 0 (Nat.zero_le _))
  have hHb : w.heap.size + 1 ≤ H := own_base t.pl H rfl
  have hsz : ∀ b, b < wr.heap.size → t9.ownBlock ≠ some b → v'.ownBlock ≠ some b := fun b hb hn e => by
    rcases hv with hv | hv
    · rw [hv] at e; exact hn e
    · rw [hv] at e; injection e with e; omega
  have hno : ∀ b, (Value.slice none 0 0).ownBlock ≠ some b := fun b e => by cases e
  refine ⟨⟨(hgr.cell_far ⟨_, 0, none⟩ hlX hX).trans t.cf.1, (hgr.cell_far ⟨_, 1, none⟩ hlX hX).trans t.cf.2.1, (hgr.cell_far ⟨_, 2, none⟩ hlX hX).trans t.cf.2.2.1, (hgr.cell_far ⟨_, 3, none⟩ hlX hX).trans t.cf.2.2.2⟩, t.bel.grown hgr (by have := t.bel.size; omega) (fun k hk => by have := own_base t.tab _ hk; omega), ?_, World.ownsRow_nil _ _ _ _, fun k hk o' ho => ?_, fun q hq => ?_, fun q hq => ?_, fun k hk => ?_, fun b hb => hno b⟩
  · have e : ((List.range (i + 1)).map fun k => Value.slice (some ⟨if k = i then H else h k, 0, none⟩) (ol + 1) (if k = i then cap else hc k)) = ((List.range i).map fun k => .slice (some ⟨h k, 0, none⟩) (ol + 1) (hc k)) ++ [.slice (some ⟨H, 0, none⟩) (ol + 1) cap] := by
      rw [List.range_succ, List.map_append]
      congr 1
      · apply List.map_congr_left
        intro k hk
        rw [List.mem_range] at hk
        rw [if_neg (by omega), if_neg (by omega)]
      · simp
    rw [e]
    exact hown
  · by_cases e : k = i
    · subst e
      rw [if_pos rfl]
      exact (hgr.cell_far ⟨_, o', none⟩ hHl (hne _ hH9)).trans (hcH o' ho)
    · rw [if_neg e]
      have hk' : k < i := by omega
      exact (hgr.cell_far ⟨_, o', none⟩ (cell_lt (t.hpl k hk' o' ho)) (hne _ (t.gh k hk').2.1)).trans (t.hpl k hk' o' ho)
  · rw [hpe] at hq
    exact (t.rows q hq).block (hgr.block _ (t.rows q hq).lt (hne _ (t.gg q hq).2.1)) (Nat.lt_of_lt_of_le (t.rows q hq).lt hgr.size)
  · rw [hpe] at hq
    exact ⟨(t.gg q hq).1, hsz _ (t.rows q hq).lt (t.gg q hq).2.1, hno _⟩
  · by_cases e : k = i
    · subst e
      rw [if_pos rfl]
      exact ⟨hHb, hsz H hHl hH9, hno _⟩
    · rw [if_neg e]
      have hk' : k < i := by omega
      exact ⟨(t.gh k hk').1, hsz _ (cell_lt (t.hpl k hk' 0 (Nat.zero_le _))) (t.gh k hk').2.1, hno _⟩
end
end Go.Proofs.Yteehgcbjmdideaa

/- The document's 'Costs': what is true when the first places are done; a row that is being written. -/
namespace Go.Proofs.Yteehgcbjmdideaa
open Go.RowKit
attribute [local go_sem ↓] Go.wp_at_zero Go.wp_at_succ

/-- what is true of the prices when the first p places are done -/
structure GS (f : FstD) (ins outs : List Int) (N s0 : Nat) (c : List Int) (p : Nat) : Prop where
  inv : ∃ y, Inv (EdS f ins outs N) (bgS s0 (totS ins outs N)) c y
  fix : FixTo (EdS f ins outs N) c (p * N)
  rest : ∀ v, p * N ≤ v → gI c v = gI (bgS s0 (totS ins outs N)) v

theorem GS.start {f : FstD} {ins outs : List Int} {N s0 : Nat} : GS f ins outs N s0 (bgS s0 (totS ins outs N)) 0 :=
  ⟨⟨_, Inv.start (bgS_lo _ _) (fun v => by rw [bgS_at]; split <;> decide)⟩, fun e _ hk => by rw [Nat.zero_mul] at hk; omega, fun _ _ => rfl⟩

/-- a row that is written up to k -/
def fillL (s : List Int) (N k : Nat) : List Int := (List.range N).map fun n => if n < k then gI s n else 0
theorem fillL_len (s : List Int) (N k : Nat) : (fillL s N k).length = N := by simp [fillL]
theorem fillL_at (s : List Int) (N k n : Nat) (hn : n < N) : gI (fillL s N k) n = if n < k then gI s n else 0 := by
  show (fillL s N k).getD n (-1) = _
  unfold fillL
  simp [List.getD, hn]
theorem fillL_zero (s : List Int) (N : Nat) : fillL s N 0 = List.replicate N 0 := by
  unfold fillL
  apply List.ext_getElem
  · simp
  · intro i h1 h2
    simp
theorem fillL_succ (s : List Int) (N k : Nat) (hk : k < N) : (fillL s N k).set k (gI s k) = fillL s N (k + 1) := by
  apply gI_ext
  · rw [List.length_set, fillL_len, fillL_len]
  · intro v hv
    rw [List.length_set, fillL_len] at hv
    rw [gI_set _ _ _ _ (by rw [fillL_len]; exact hk), fillL_at _ _ _ _ hv, fillL_at _ _ _ _ hv]
    by_cases e : v = k
    · subst e
      rw [if_pos rfl, if_pos (by omega)]
    · rw [if_neg e]
      by_cases h : v < k
      · rw [if_pos h, if_pos (by omega)]
      · rw [if_neg h, if_neg (by omega)]
theorem fillL_all (s : List Int) (N : Nat) (h : s.length = N) : fillL s N N = s := by
  apply gI_ext
  · rw [fillL_len, h]
  · intro v hv
    rw [fillL_len] at hv
    rw [fillL_at _ _ _ _ hv, if_pos hv]

theorem GS.fresh {f : FstD} {ins outs : List Int} {N s0 : Nat} {c : List Int} {p k : Nat} (h : GS f ins outs N s0 c p) (hok : OkW f ins outs N s0) (hk : k < N) : gI (segL c N p) k = if p = 0 then gI (begL (s0 : Int) N) k else -1 := by
  rw [segL_at _ _ _ _ hk, h.rest _ (by omega), bgS_at]
  have hs := hok.s
  by_cases e : p = 0
  · subst e
    rw [Nat.zero_mul, Nat.zero_add, if_pos rfl]
    have hNT : k < totS ins outs N := by
      have := spotN_lt (N := N) (n := k) (i := 0) (o := 0) hk (Nat.zero_le ins.length) (Nat.zero_le outs.length)
      have e0 : spotN N outs.length k 0 0 = k := by unfold spotN; omega
      rw [e0] at this
      exact this
    unfold gI begL
    simp only [List.getD, List.getElem?_map, List.getElem?_range hk, Option.map_some, Option.getD_some]
    by_cases e2 : k = s0
    · subst e2; simp [hNT]
    · rw [if_neg (by omega)]
      have : ¬ (k : Int) = s0 := by omega
      simp [this]
  · rw [if_neg e, if_neg]
    rintro ⟨h1, _⟩
    have := Nat.mul_le_mul_right N (show 1 ≤ p by omega)
    omega

theorem one_sl (a : Option Addr) (n c : Nat) : ∀ u ∈ [Value.slice a n c], u.oneCell' = true := by
  intro u hu
  rw [List.mem_singleton] at hu
  subst hu
  rfl
theorem infoS : (Try.prog.info? 22).map (fun i => (i.zero, i.size, i.bytes)) = some (some (.slice none 0 0), 1, 24) := by kernel_rfl
theorem infoSS : (Try.prog.info? 70).map (fun i => (i.zero, i.size, i.bytes)) = some (some (.slice none 0 0), 1, 24) := by kernel_rfl
end Go.Proofs.Yteehgcbjmdideaa

/- The prices while one place is worked at. -/
namespace Go.Proofs.Yteehgcbjmdideaa

/-- the places ahead are done, those behind are as at the beginning -/
structure PSt (f : FstD) (ins outs : List Int) (N s0 i o : Nat) (c : List Int) : Prop where
  inv : ∃ y, Inv (EdS f ins outs N) (bgS s0 (totS ins outs N)) c y
  fix : FixTo (EdS f ins outs N) c ((i * (outs.length + 1) + o) * N)
  rest : ∀ v, (i * (outs.length + 1) + o + 1) * N ≤ v → gI c v = gI (bgS s0 (totS ins outs N)) v

section
variable {f : FstD} {ins outs : List Int} {N s0 i o : Nat} {c : List Int}

theorem GS.toP (h : GS f ins outs N s0 c (i * (outs.length + 1) + o)) : PSt f ins outs N s0 i o c :=
  ⟨h.inv, h.fix, fun v hv => h.rest v (by rw [Nat.add_mul, Nat.one_mul] at hv; omega)⟩

theorem PSt.len (h : PSt f ins outs N s0 i o c) : c.length = totS ins outs N := by
  obtain ⟨y, hy⟩ := h.inv
  rw [hy.len, bgS_len]

theorem PSt.lo (h : PSt f ins outs N s0 i o c) (v : Nat) : -1 ≤ gI c v := by
  obtain ⟨y, hy⟩ := h.inv
  exact hy.lo v

theorem PSt.hi (h : PSt f ins outs N s0 i o c) (hok : OkW f ins outs N s0) (v : Nat) : gI c v ≤ 400001000000000 := by
  obtain ⟨y, hy⟩ := h.inv
  exact hy.topK (by rw [bgS_len]; exact hok.tot) v

/-- along an edge into the place -/
theorem PSt.rel (h : PSt f ins outs N s0 i o c) (hok : OkW f ins outs N s0) {e : Edg} (he : e ∈ EdS f ins outs N) {n : Nat} (hn : n < N) (hv : e.v = spotN N outs.length n i o) : PSt f ins outs N s0 i o (relE c e) ∧ (relE c e = c ∨ muL (relE c e) < muL c) := by
  obtain ⟨y, hy⟩ := h.inv
  obtain ⟨b1, b2, b3⟩ := hok.edges e he
  obtain ⟨k1, k2⟩ := hy.relK (by rw [bgS_len]; exact hok.tot) he (by rw [bgS_len]; exact b1) b2 b3
  have hvc : e.v < c.length := by rw [h.len]; exact b1
  refine ⟨⟨k1, h.fix.rel (edS_down hok.arcs _) (by rw [hv]; exact place_ge n) hvc, fun v hlt => ?_⟩, k2⟩
  rw [relE_u hvc ?_]
  · exact h.rest v hlt
  · rw [hv]
    rw [Nat.add_mul, Nat.one_mul] at hlt
    unfold spotN
    omega

theorem PSt.done (h : PSt f ins outs N s0 i o c) (hok : OkW f ins outs N s0) (ho : o ≤ outs.length) (hl : loudOk f ins outs N i o c f.arcs.length) (hs : silentOk f ins outs N i o c f.arcs.length) : GS f ins outs N s0 c (i * (outs.length + 1) + o + 1) :=
  ⟨h.inv, place_done hok ho h.fix hl hs, h.rest⟩

/-- the row at work, when its place's price falls; the rows laid down stay -/
theorem segL_rel {e : Edg} {n : Nat} (hn : n < N) (hv : e.v = spotN N outs.length n i o) : segL (relE c e) N (i * (outs.length + 1) + o) = (segL c N (i * (outs.length + 1) + o)).set n (lessC (gI c e.v) (plusC (gI c e.u) e.w)) ∧ ∀ q, q < i * (outs.length + 1) + o → segL (relE c e) N q = segL c N q := by
  have e1 : spotN N outs.length n i o = (i * (outs.length + 1) + o) * N + n := rfl
  unfold relE
  rw [hv, e1]
  exact ⟨segL_set_same _, fun q hq => segL_set_other _ hn (by omega)⟩
end
end Go.Proofs.Yteehgcbjmdideaa

/- One arc more at a place: what becomes of the prices. -/
namespace Go.Proofs.Yteehgcbjmdideaa


/-- one operation of a region that only reads: it is wanted -/
theorem quiet_yes {P : Program} {ops : Array Oper} {C : World → Prop} {Q : Act → Prop} {a : Act} {o : Oper} {rest : List Oper} (hy : Region.wanted o (yielded ops a.tmps) = true) (h : ∀ K : Act → Prop, (∀ a, wpQuiet P ops C Q rest a → K a) → o.quiet P a C K) : wpQuiet P ops C Q (o :: rest) a :=
  wpQuiet_step (fun K hK => by rw [if_pos hy]; exact h K hK)

/-- it is not -/
theorem quiet_no {P : Program} {ops : Array Oper} {C : World → Prop} {Q : Act → Prop} {a : Act} {o : Oper} {rest : List Oper} (hy : Region.wanted o (yielded ops a.tmps) = false) (h : ∀ K : Act → Prop, (∀ a, wpQuiet P ops C Q rest a → K a) → K (a.put o.dst undef)) : wpQuiet P ops C Q (o :: rest) a :=
  wpQuiet_step (fun K hK => by rw [if_neg (by rw [hy]; decide)]; exact h K hK)

section
variable {f : FstD} {ins outs : List Int} {N s0 i o : Nat} {c : List Int}

/-- an arc that says something and fits -/
theorem loud_go (hok : OkW f ins outs N s0) (hP : PSt f ins outs N s0 i o c) {j : Nat} (hL : loudOk f ins outs N i o c j) {a : ArcD} (ha : f.arcs[j]? = some a) {x y s t ol : Nat} (hol : outs.length = ol) (hin : IntoL ins outs i o a x y) (hs : a.src = (s : Int)) (ht : a.dst = (t : Int)) :
    ∃ c', PSt f ins outs N s0 i o c' ∧ loudOk f ins outs N i o c' (j + 1) ∧ segL c' N (i * (ol + 1) + o) = (segL c N (i * (ol + 1) + o)).set t (lessC (gI (segL c N (i * (ol + 1) + o)) t) (plusC (gI (segL c N (x * (ol + 1) + y)) s) a.wt)) ∧ ∀ q, q < i * (ol + 1) + o → segL c' N q = segL c N q := by
  subst hol
  have hmem := List.mem_of_getElem? ha
  obtain ⟨⟨p1, p2⟩, ⟨p3, p4⟩, _⟩ := hok.arcs a hmem
  have hsN : s < N := by omega
  have htN : t < N := by omega
  have he : edgeS N ins outs x y a = ⟨spotN N outs.length s x y, spotN N outs.length t i o, a.wt⟩ := by
    rw [into_edge hin, hs, ht, Int.toNat_natCast, Int.toNat_natCast]
  have hmE : edgeS N ins outs x y a ∈ EdS f ins outs N := edS_mem.2 ⟨x, y, a, hin.2.1, hin.2.2.1, hmem, rfl⟩
  have hv : (edgeS N ins outs x y a).v = spotN N outs.length t i o := by rw [he]
  have hvc : (edgeS N ins outs x y a).v < c.length := by rw [hP.len]; exact (hok.edges _ hmE).1
  obtain ⟨k1, k2⟩ := segL_rel (c := c) htN hv
  refine ⟨relE c (edgeS N ins outs x y a), (hP.rel hok hmE htN hv).1, hL.step hok ha hin hvc hP.lo, ?_, k2⟩
  rw [k1, he, segL_at _ _ _ _ htN, segL_at _ _ _ _ hsN]
  rfl

/-- a silent arc -/
theorem silent_go (hok : OkW f ins outs N s0) (hi : i ≤ ins.length) (ho : o ≤ outs.length) (hP : PSt f ins outs N s0 i o c) {m : Nat} (hL : loudOk f ins outs N i o c m) {j : Nat} {a : ArcD} (ha : f.arcs[j]? = some a) {s t ol : Nat} (hol : outs.length = ol) (hsi : a.inp = 0 ∧ a.out = 0) (hs : a.src = (s : Int)) (ht : a.dst = (t : Int))
    (hne : ¬ lessC (gI (segL c N (i * (ol + 1) + o)) t) (plusC (gI (segL c N (i * (ol + 1) + o)) s) a.wt) = gI (segL c N (i * (ol + 1) + o)) t) :
    ∃ c', PSt f ins outs N s0 i o c' ∧ loudOk f ins outs N i o c' m ∧ muL c' < muL c ∧ segL c' N (i * (ol + 1) + o) = (segL c N (i * (ol + 1) + o)).set t (lessC (gI (segL c N (i * (ol + 1) + o)) t) (plusC (gI (segL c N (i * (ol + 1) + o)) s) a.wt)) ∧ ∀ q, q < i * (ol + 1) + o → segL c' N q = segL c N q := by
  subst hol
  have hmem := List.mem_of_getElem? ha
  obtain ⟨⟨p1, p2⟩, ⟨p3, p4⟩, _⟩ := hok.arcs a hmem
  have hsN : s < N := by omega
  have htN : t < N := by omega
  have he : edgeS N ins outs i o a = ⟨spotN N outs.length s i o, spotN N outs.length t i o, a.wt⟩ := by
    rw [silent_edge hsi, hs, ht, Int.toNat_natCast, Int.toNat_natCast]
  have hmE : edgeS N ins outs i o a ∈ EdS f ins outs N := edS_mem.2 ⟨i, o, a, hi, ho, hmem, rfl⟩
  have hv : (edgeS N ins outs i o a).v = spotN N outs.length t i o := by rw [he]
  have hvc : (edgeS N ins outs i o a).v < c.length := by rw [hP.len]; exact (hok.edges _ hmE).1
  obtain ⟨k1, k2⟩ := segL_rel (c := c) htN hv
  obtain ⟨r1, r2⟩ := hP.rel hok hmE htN hv
  have e3 : segL (relE c (edgeS N ins outs i o a)) N (i * (outs.length + 1) + o) = (segL c N (i * (outs.length + 1) + o)).set t (lessC (gI (segL c N (i * (outs.length + 1) + o)) t) (plusC (gI (segL c N (i * (outs.length + 1) + o)) s) a.wt)) := by
    rw [k1, he, segL_at _ _ _ _ htN, segL_at _ _ _ _ hsN]
    rfl
  refine ⟨relE c (edgeS N ins outs i o a), r1, hL.rel hok hv hvc, ?_, e3, k2⟩
  rcases r2 with r2 | r2
  · exfalso
    rw [r2] at e3
    apply hne
    have hl : (segL c N (i * (outs.length + 1) + o)).length = N := by
      have h1 := hP.len
      unfold totS at h1
      exact segL_len h1 (place_lt hi ho)
    have : gI (segL c N (i * (outs.length + 1) + o)) t = _ := congrArg (fun l => gI l t) e3
    rw [gI_set _ _ _ _ (by rw [hl]; exact htN), if_pos rfl] at this
    exact this.symm
  · exact r2

theorem silent_keep (hok : OkW f ins outs N s0) (hP : PSt f ins outs N s0 i o c) {j : Nat} (hS : silentOk f ins outs N i o c j) {a : ArcD} (ha : f.arcs[j]? = some a) {s t ol : Nat} (hol : outs.length = ol) (hsi : a.inp = 0 ∧ a.out = 0) (hs : a.src = (s : Int)) (ht : a.dst = (t : Int))
    (he : lessC (gI (segL c N (i * (ol + 1) + o)) t) (plusC (gI (segL c N (i * (ol + 1) + o)) s) a.wt) = gI (segL c N (i * (ol + 1) + o)) t) : silentOk f ins outs N i o c (j + 1) := by
  subst hol
  obtain ⟨⟨p1, p2⟩, ⟨p3, p4⟩, _⟩ := hok.arcs a (List.mem_of_getElem? ha)
  have hsN : s < N := by omega
  have htN : t < N := by omega
  refine hS.step hok ha hsi hP.lo ?_
  rw [segL_at _ _ _ _ htN, segL_at _ _ _ _ hsN] at he
  rw [hs, ht, Int.toNat_natCast, Int.toNat_natCast]
  exact he

theorem no_sil {a : ArcD} (h : a.inp = 0 ∧ a.out = 0) (i' o' : Nat) : ¬ IntoL ins outs i o a i' o' := fun k => k.1 h
theorem no_i0 {a : ArcD} (h : a.inp ≠ 0) (hi : i = 0) (i' o' : Nat) : ¬ IntoL ins outs i o a i' o' := fun k => by
  have := k.2.2.2.2.1
  unfold usedBy at this
  rw [if_neg h] at this
  omega
theorem no_o0 {a : ArcD} (h : a.out ≠ 0) (ho : o = 0) (i' o' : Nat) : ¬ IntoL ins outs i o a i' o' := fun k => by
  have := k.2.2.2.2.2
  unfold usedBy at this
  rw [if_neg h] at this
  omega
theorem no_ix {a : ArcD} (h : a.inp ≠ 0) {x : Nat} (hi : i = x + 1) (hx : ins.getD x 0 ≠ a.inp) (i' o' : Nat) : ¬ IntoL ins outs i o a i' o' := fun k => by
  have h1 := k.2.2.2.2.1
  unfold usedBy at h1
  rw [if_neg h] at h1
  have h2 := k.2.2.2.1
  rw [Bool.and_eq_true] at h2
  have h3 := h2.1
  have e : i' = x := by omega
  subst e
  unfold fitB at h3
  simp [h] at h3
  exact hx (by simpa [List.getD] using h3.2)
theorem no_ox {a : ArcD} (h : a.out ≠ 0) {x : Nat} (ho : o = x + 1) (hx : outs.getD x 0 ≠ a.out) (i' o' : Nat) : ¬ IntoL ins outs i o a i' o' := fun k => by
  have h1 := k.2.2.2.2.2
  unfold usedBy at h1
  rw [if_neg h] at h1
  have h2 := k.2.2.2.1
  rw [Bool.and_eq_true] at h2
  have h3 := h2.2
  have e : o' = x := by omega
  subst e
  unfold fitB at h3
  simp [h] at h3
  exact hx (by simpa [List.getD] using h3.2)

theorem fit_0 (l : List Int) (x : Nat) : fitB l x 0 = true := by unfold fitB; simp
theorem fit_1 {l : List Int} {x : Nat} {p : Int} (h : x < l.length) (h2 : l.getD x 0 = p) : fitB l x p = true := by
  unfold fitB
  simp [h]
  right
  simpa [List.getD, h] using h2
theorem into_01 {a : ArcD} (h1 : a.inp = 0) (h2 : a.out ≠ 0) (hi : i ≤ ins.length) {y : Nat} (ho : o = y + 1) (hy : y < outs.length) (hf : outs.getD y 0 = a.out) : IntoL ins outs i o a i y := by
  refine ⟨fun h => h2 h.2, hi, by omega, ?_, ?_, ?_⟩
  · rw [h1, fit_0, fit_1 hy hf]; rfl
  · unfold usedBy; rw [if_pos h1]
  · unfold usedBy; rw [if_neg h2]; exact ho.symm
theorem into_10 {a : ArcD} (h1 : a.inp ≠ 0) (h2 : a.out = 0) (ho : o ≤ outs.length) {x : Nat} (hi : i = x + 1) (hx : x < ins.length) (hf : ins.getD x 0 = a.inp) : IntoL ins outs i o a x o := by
  refine ⟨fun h => h1 h.1, by omega, ho, ?_, ?_, ?_⟩
  · rw [h2, fit_0, fit_1 hx hf]; rfl
  · unfold usedBy; rw [if_neg h1]; exact hi.symm
  · unfold usedBy; rw [if_pos h2]
theorem into_11 {a : ArcD} (h1 : a.inp ≠ 0) (h2 : a.out ≠ 0) {x y : Nat} (hi : i = x + 1) (hx : x < ins.length) (hf : ins.getD x 0 = a.inp) (ho : o = y + 1) (hy : y < outs.length) (hg : outs.getD y 0 = a.out) : IntoL ins outs i o a x y := by
  refine ⟨fun h => h1 h.1, by omega, by omega, ?_, ?_, ?_⟩
  · rw [fit_1 hx hf, fit_1 hy hg]; rfl
  · unfold usedBy; rw [if_neg h1]; exact hi.symm
  · unfold usedBy; rw [if_neg h2]; exact ho.symm
end
end Go.Proofs.Yteehgcbjmdideaa

/- One round of the loop of 'Costs' over arcs that say something: what is known when it begins; the loops of a function's text. -/
namespace Go.Proofs.Yteehgcbjmdideaa
open Go.RowKit

/-- the bodies of the loops, the outer ones first -/
def loopsOf : Code → List Code
  | .seq a b => loopsOf a ++ loopsOf b
  | .cond _ a b => loopsOf a ++ loopsOf b
  | .block _ c => loopsOf c
  | .scope c => loopsOf c
  | .loop c => c :: loopsOf c
  | _ => []

structure L4 (f : FstD) (ins outs : List Int) (k s0 : Nat) (fin : Value) (aa : Option Addr) (m ac : Nat) (ia : Option Addr) (il ic : Nat) (oa : Option Addr) (ol oc : Nat) (w wr : World) (g h hc : Nat → Nat) (c : List Int) (i o R j : Nat) (u9 u11 : Value) : Prop where
  HOK : OkW f ins outs k s0
  HLET : ∀ a ∈ f.arcs, (0 ≤ a.inp ∧ a.inp ≤ 9) ∧ (0 ≤ a.out ∧ a.out ≤ 9)
  HAL : f.arcs.length = m
  HIL : ins.length = il
  HOL : outs.length = ol
  hN1 : 1 ≤ k
  hN2 : k ≤ 200
  hi40 : il ≤ 40
  ho40 : ol ≤ 40
  hm3 : m ≤ 3000
  hlt : i ≤ il
  hlo : o ≤ ol
  hlj : j < m
  HME : ∀ W, Below w.heap.size w W → ASlice W (.slice aa m ac) f.arcs ∧ ISlice W (.slice ia il ic) ins ∧ ISlice W (.slice oa ol oc) outs
  HRR : u9.ownBlock ≠ some R ∧ u11.ownBlock ≠ some R ∧ (∀ q, q < i * (ol + 1) + o → g q ≠ R) ∧ (∀ k, k < i → h k ≠ R) ∧ w.heap.size + 1 ≤ R
  hTB : TB w wr k ol (s0 : Int) fin (.slice aa m ac) g h hc c i o u9 u11
  hRow : NumsAt wr R k (segL c k (i * (ol + 1) + o))
  HPS : PSt f ins outs k s0 i o c
  HLO : loudOk f ins outs k i o c j
end Go.Proofs.Yteehgcbjmdideaa
