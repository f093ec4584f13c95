/- The document's tables, place by place: what is true of the prices between one arc and the next. -/
import Derived.Test.YteehgcbjmdideaaQM15
import Derived.Test.YteehgcbjmdideaaQM18
namespace Go.Proofs.Yteehgcbjmdideaa

theorem Inv.relK {E : List Edg} {b c y : List Int} (h : Inv E b c y) (hbn : b.length ≤ 400000) {e : Edg} (he : e ∈ E) (hv : e.v < b.length) (hw0 : 0 ≤ e.w) (hw1 : e.w ≤ 1000000000) : (∃ y', Inv E b (relE c e) y') ∧ (relE c e = c ∨ muL (relE c e) < muL c) := by
  obtain ⟨j, hj⟩ := List.getElem?_of_mem he
  rw [← progE_eq c e h.lo]
  unfold progE
  split
  · rename_i hbt
    have := h.step hbn hj hv hw0 hw1 hbt
    exact ⟨⟨_, this.1⟩, Or.inr this.2⟩
  · exact ⟨⟨y, h⟩, Or.inl rfl⟩

section
variable (f : FstD) (ins outs : List Int) (N i o : Nat)

/-- an arc that says something, into the place -/
def IntoL (a : ArcD) (i' o' : Nat) : Prop := ¬ (a.inp = 0 ∧ a.out = 0) ∧ i' ≤ ins.length ∧ o' ≤ outs.length ∧ (fitB ins i' a.inp && fitB outs o' a.out) = true ∧ usedBy i' a.inp = i ∧ usedBy o' a.out = o

/-- the first k arcs that say something make nothing better at the place -/
def loudOk (c : List Int) (k : Nat) : Prop := ∀ k' a i' o', k' < k → f.arcs[k']? = some a → IntoL ins outs i o a i' o' → 0 ≤ gI c (edgeS N ins outs i' o' a).u → Rlx c (edgeS N ins outs i' o' a)

/-- nor do the first k silent ones -/
def silentOk (c : List Int) (k : Nat) : Prop := ∀ k' a, k' < k → f.arcs[k']? = some a → a.inp = 0 ∧ a.out = 0 → 0 ≤ gI c (edgeS N ins outs i o a).u → Rlx c (edgeS N ins outs i o a)
end

section
variable {f : FstD} {ins outs : List Int} {N i o s0 : Nat} {c : List Int}

theorem usedBy_inj {u u' : Nat} {x : Int} (h : usedBy u x = usedBy u' x) : u = u' := by
  unfold usedBy at h
  split at h <;> omega

theorem into_edge {a : ArcD} {i' o' : Nat} (h : IntoL ins outs i o a i' o') : edgeS N ins outs i' o' a = ⟨spotN N outs.length a.src.toNat i' o', spotN N outs.length a.dst.toNat i o, a.wt⟩ := by
  unfold edgeS
  rw [if_pos h.2.2.2.1, h.2.2.2.2.1, h.2.2.2.2.2]

theorem silent_edge {a : ArcD} (h : a.inp = 0 ∧ a.out = 0) : edgeS N ins outs i o a = ⟨spotN N outs.length a.src.toNat i o, spotN N outs.length a.dst.toNat i o, a.wt⟩ := by
  unfold edgeS
  rw [if_pos (by unfold fitB; rw [h.1, h.2]; rfl), h.1, h.2]
  rfl

theorem into_before {a : ArcD} {i' o' n : Nat} (h : IntoL ins outs i o a i' o') (hn : n < N) : spotN N outs.length n i' o' < (i * (outs.length + 1) + o) * N := by
  obtain ⟨h1, _, h3, _, h5, h6⟩ := h
  have hp : i' * (outs.length + 1) + o' + 1 ≤ i * (outs.length + 1) + o := by
    rw [← h5, ← h6]
    unfold usedBy
    split
    · split
      · rename_i e1 e2; exact absurd ⟨e1, e2⟩ h1
      · omega
    · rw [Nat.add_mul, Nat.one_mul]
      split <;> omega
  have := Nat.mul_le_mul_right N hp
  rw [Nat.add_mul, Nat.one_mul] at this
  unfold spotN
  omega

theorem place_ge (n : Nat) : (i * (outs.length + 1) + o) * N ≤ spotN N outs.length n i o := by unfold spotN; omega

theorem relE_u {e : Edg} {u : Nat} (hv : e.v < c.length) (h : u ≠ e.v) : gI (relE c e) u = gI c u := by
  unfold relE
  rw [gI_set _ _ _ _ hv, if_neg h]

/-- a step into the place leaves what was true of arcs that say something -/
theorem loudOk.rel {k : Nat} {e : Edg} {n : Nat} (h : loudOk f ins outs N i o c k) (hok : OkW f ins outs N s0) (he : e.v = spotN N outs.length n i o) (hv : e.v < c.length) : loudOk f ins outs N i o (relE c e) k := by
  intro k' a i' o' hk ha hin
  obtain ⟨⟨p1, p2⟩, _⟩ := hok.arcs a (List.mem_of_getElem? ha)
  refine rlx_stays (h k' a i' o' hk ha hin) (relE_le c e hv) (relE_u hv ?_)
  rw [into_edge hin, he]
  have h1 := into_before (N := N) hin (show a.src.toNat < N by omega)
  have h2 := place_ge (N := N) (i := i) (o := o) (outs := outs) n
  dsimp only
  omega

/-- one more arc that says something -/
theorem loudOk.step {k : Nat} {a : ArcD} {i' o' : Nat} (h : loudOk f ins outs N i o c k) (hok : OkW f ins outs N s0) (ha : f.arcs[k]? = some a) (hin : IntoL ins outs i o a i' o') (hv : (edgeS N ins outs i' o' a).v < c.length) (hlo : ∀ v, -1 ≤ gI c v) : loudOk f ins outs N i o (relE c (edgeS N ins outs i' o' a)) (k + 1) := by
  intro k' a' i2 o2 hk ha' hin'
  by_cases hlt : k' < k
  · exact h.rel hok (by rw [into_edge hin]) hv k' a' i2 o2 hlt ha' hin'
  · have e : k' = k := by omega
    subst e
    rw [ha] at ha'
    injection ha' with ha'
    subst ha'
    have e1 := usedBy_inj (hin.2.2.2.2.1.trans hin'.2.2.2.2.1.symm)
    have e2 := usedBy_inj (hin.2.2.2.2.2.trans hin'.2.2.2.2.2.symm)
    subst e1 e2
    refine relE_rlx hv ?_ hlo
    rw [into_edge hin]
    exact (hok.arcs a (List.mem_of_getElem? ha)).2.2.1

theorem loudOk.skip {k : Nat} {a : ArcD} (h : loudOk f ins outs N i o c k) (ha : f.arcs[k]? = some a) (hno : ∀ i' o', ¬ IntoL ins outs i o a i' o') : loudOk f ins outs N i o c (k + 1) := by
  intro k' a' i2 o2 hk ha' hin'
  by_cases hlt : k' < k
  · exact h k' a' i2 o2 hlt ha' hin'
  · have e : k' = k := by omega
    subst e
    rw [ha] at ha'
    injection ha' with ha'
    subst ha'
    exact absurd hin' (hno _ _)

theorem silentOk.step {k : Nat} {a : ArcD} (h : silentOk f ins outs N i o c k) (hok : OkW f ins outs N s0) (ha : f.arcs[k]? = some a) (hs : a.inp = 0 ∧ a.out = 0) (hlo : ∀ v, -1 ≤ gI c v) (he : lessC (gI c (spotN N outs.length a.dst.toNat i o)) (plusC (gI c (spotN N outs.length a.src.toNat i o)) a.wt) = gI c (spotN N outs.length a.dst.toNat i o)) : silentOk f ins outs N i o c (k + 1) := by
  intro k' a' hk ha' hs'
  by_cases hlt : k' < k
  · exact h k' a' hlt ha' hs'
  · have e : k' = k := by omega
    subst e
    rw [ha] at ha'
    injection ha' with ha'
    subst ha'
    rw [silent_edge hs]
    exact rlx_same (hok.arcs a (List.mem_of_getElem? ha)).2.2.1 (hlo _) he

theorem silentOk.skip {k : Nat} {a : ArcD} (h : silentOk f ins outs N i o c k) (ha : f.arcs[k]? = some a) (hs : ¬ (a.inp = 0 ∧ a.out = 0)) : silentOk f ins outs N i o c (k + 1) := by
  intro k' a' hk ha' hs'
  by_cases hlt : k' < k
  · exact h k' a' hlt ha' hs'
  · have e : k' = k := by omega
    subst e
    rw [ha] at ha'
    injection ha' with ha'
    subst ha'
    exact absurd hs' hs

/-- the place is done -/
theorem place_done (hok : OkW f ins outs N s0) (ho : o ≤ outs.length) (hf : FixTo (EdS f ins outs N) c ((i * (outs.length + 1) + o) * N)) (hl : loudOk f ins outs N i o c f.arcs.length) (hs : silentOk f ins outs N i o c f.arcs.length) : FixTo (EdS f ins outs N) c ((i * (outs.length + 1) + o + 1) * N) := by
  intro e he hk h0
  by_cases hlt : e.v < (i * (outs.length + 1) + o) * N
  · exact hf e he hlt h0
  · obtain ⟨i', o', a, hi', ho', ha, rfl⟩ := edS_mem.1 he
    obtain ⟨⟨p1, p2⟩, ⟨p3, p4⟩, _⟩ := hok.arcs a ha
    obtain ⟨j, hj⟩ := List.getElem?_of_mem ha
    have hjl : j < f.arcs.length := (List.getElem?_eq_some_iff.1 hj).1
    by_cases hfit : (fitB ins i' a.inp && fitB outs o' a.out) = true
    · have hv : (edgeS N ins outs i' o' a).v = spotN N outs.length a.dst.toNat (usedBy i' a.inp) (usedBy o' a.out) := by unfold edgeS; rw [if_pos hfit]
      rw [hv] at hlt hk
      rw [Bool.and_eq_true] at hfit
      have hu := usedBy_le hfit.2 ho'
      have hpl : usedBy i' a.inp * (outs.length + 1) + usedBy o' a.out = i * (outs.length + 1) + o := by
        unfold spotN at hlt hk
        have h1 : ¬ usedBy i' a.inp * (outs.length + 1) + usedBy o' a.out + 1 ≤ i * (outs.length + 1) + o := fun h => by
          have := Nat.mul_le_mul_right N h
          rw [Nat.add_mul, Nat.one_mul] at this
          omega
        have h2 : ¬ i * (outs.length + 1) + o + 1 ≤ usedBy i' a.inp * (outs.length + 1) + usedBy o' a.out := fun h => by
          have := Nat.mul_le_mul_right N h
          omega
        omega
      obtain ⟨e1, e2⟩ := mul_add_inj (by omega) (by omega) hpl
      by_cases hsil : a.inp = 0 ∧ a.out = 0
      · have e1' : i' = i := by rw [← e1, hsil.1]; rfl
        have e2' : o' = o := by rw [← e2, hsil.2]; rfl
        subst e1' e2'
        exact hs j a hjl hj hsil h0
      · exact hl j a i' o' hjl hj ⟨hsil, hi', ho', by rw [Bool.and_eq_true]; exact hfit, e1, e2⟩ h0
    · have hd : edgeS N ins outs i' o' a = ⟨0, 0, 0⟩ := by unfold edgeS; rw [if_neg hfit]
      rw [hd] at h0 ⊢
      exact ⟨h0, by dsimp only; omega⟩

/-- along an edge into the place nothing changes elsewhere -/
theorem FixTo.rel {E : List Edg} {k : Nat} {e : Edg} (h : FixTo E c k) (hE : ∀ e ∈ E, e.v < k → e.u < k) (hk : k ≤ e.v) (hv : e.v < c.length) : FixTo E (relE c e) k := by
  unfold relE
  exact h.set hE hk hv
end
end Go.Proofs.Yteehgcbjmdideaa

/- The document's 'ScoreOf', where 'Costs' is known. -/
namespace Go.Proofs.Yteehgcbjmdideaa
open Go.RowKit
attribute [local go_sem ↓] Go.wp_at_zero Go.wp_at_succ

end Go.Proofs.Yteehgcbjmdideaa

/- The document's tables in memory. -/
namespace Go.Proofs.Yteehgcbjmdideaa
open Go.RowKit

structure TB (w wr : World) (N ol : Nat) (sta : Int) (fin arcs : Value) (g h hc : Nat → Nat) (c : List Int) (i o : Nat) (t9 t11 : Value) : Prop where
  cf : CellsF wr w.heap.size (N : Int) sta fin arcs
  bel : Below w.heap.size w wr
  tab : wr.ownsRow (w.heap.size + 1) 70 1 t9 i ((List.range i).map fun k => .slice (some ⟨h k, 0, none⟩) (ol + 1) (hc k))
  pl : wr.ownsRow (w.heap.size + 1) 22 1 t11 o ((List.range o).map fun k => .slice (some ⟨g (i * (ol + 1) + k), 0, none⟩) N N)
  hpl : ∀ k, k < i → ∀ o', o' ≤ ol → wr.cell? ⟨h k, o', none⟩ = some (.slice (some ⟨g (k * (ol + 1) + o'), 0, none⟩) N N)
  rows : ∀ q, q < i * (ol + 1) + o → NumsAt wr (g q) N (segL c N q)
  gg : ∀ q, q < i * (ol + 1) + o → w.heap.size + 1 ≤ g q ∧ t9.ownBlock ≠ some (g q) ∧ t11.ownBlock ≠ some (g q)
  gh : ∀ k, k < i → w.heap.size + 1 ≤ h k ∧ t9.ownBlock ≠ some (h k) ∧ t11.ownBlock ≠ some (h k)
  sep : ∀ b, t9.ownBlock = some b → t11.ownBlock ≠ some b

section
variable {w wr wx : World} {N ol : Nat} {sta : Int} {fin arcs : Value} {g h hc : Nat → Nat} {c : List Int} {i o : Nat} {t9 t11 : Value}

theorem TB.below (t : TB w wr N ol sta fin arcs g h hc c i o t9 t11) (hb : Below wr.heap.size wr wx) : TB w wx N ol sta fin arcs g h hc c i o t9 t11 :=
  ⟨t.cf.below hb, bel_on t.bel hb, ownsRow_bel t.tab hb, ownsRow_bel t.pl hb, fun k hk o' ho => bel_c hb (t.hpl k hk o' ho), fun q hq => (t.rows q hq).below hb, t.gg, t.gh, t.sep⟩

/-- what is not yet laid down may change -/
theorem TB.other (t : TB w wr N ol sta fin arcs g h hc c i o t9 t11) {d : List Int} (hd : ∀ q, q < i * (ol + 1) + o → segL d N q = segL c N q) : TB w wr N ol sta fin arcs g h hc d i o t9 t11 :=
  ⟨t.cf, t.bel, t.tab, t.pl, t.hpl, fun q hq => by rw [hd q hq]; exact t.rows q hq, t.gg, t.gh, t.sep⟩

/-- a store into the row at work -/
theorem TB.far (t : TB w wr N ol sta fin arcs g h hc c i o t9 t11) {R k : Nat} {u : Value} (h0 : w.heap.size + 1 ≤ R) (h9 : t9.ownBlock ≠ some R) (h11 : t11.ownBlock ≠ some R) (hg : ∀ q, q < i * (ol + 1) + o → g q ≠ R) (hh : ∀ k, k < i → h k ≠ R) : TB w (wr.setCell ⟨R, k, none⟩ u) N ol sta fin arcs g h hc c i o t9 t11 := by
  have hX : w.heap.size ≠ R := by omega
  exact ⟨⟨(set_far hX).trans t.cf.1, (set_far hX).trans t.cf.2.1, (set_far hX).trans t.cf.2.2.1, (set_far hX).trans t.cf.2.2.2⟩, t.bel.setCell (p := ⟨R, k, none⟩) (by show w.heap.size ≤ R; omega) _, ownsRow_setCell_far t.tab h9, ownsRow_setCell_far t.pl h11, fun k hk o' ho => (set_far (hh k hk)).trans (t.hpl k hk o' ho), fun q hq => (t.rows q hq).other (hg q hq), t.gg, t.gh, t.sep⟩

/-- the row at work is laid down -/
theorem TB.row {w' : World} {R : Nat} {v' : Value} (t : TB w wr N ol sta fin arcs g h hc c i o t9 t11) (hR : NumsAt wr R N (segL c N (i * (ol + 1) + o))) (h0 : w.heap.size + 1 ≤ R) (h9 : t9.ownBlock ≠ some R) (h11 : t11.ownBlock ≠ some R)
    (hgr : wr.grownBy w' t11.ownBlock) (hown : w'.ownsRow (w.heap.size + 1) 22 1 v' (o + 1) (((List.range o).map fun k => .slice (some ⟨g (i * (ol + 1) + k), 0, none⟩) N N) ++ [.slice (some ⟨R, 0, none⟩) N N])) (hv : v'.ownBlock = t11.ownBlock ∨ v'.ownBlock = some wr.heap.size) :
    TB w w' N ol sta fin arcs (fun q => if q = i * (ol + 1) + o then R else g q) h hc c i (o + 1) t9 v' := by
  have hX : some w.heap.size ≠ t11.ownBlock := fun e => by have := own_base t.pl _ e.symm; omega
  have hlX := cell_lt t.cf.1
  have hne : ∀ b, t11.ownBlock ≠ some b → some b ≠ t11.ownBlock := fun b hb e => hb e.symm
  have h9' : ∀ b, t9.ownBlock = some b → b < wr.heap.size := ownsRow_lt0 t.tab
  refine ⟨⟨(hgr.cell_far ⟨_, 0, none⟩ hlX hX).trans t.cf.1, (hgr.cell_far ⟨_, 1, none⟩ hlX hX).trans t.cf.2.1, (hgr.cell_far ⟨_, 2, none⟩ hlX hX).trans t.cf.2.2.1, (hgr.cell_far ⟨_, 3, none⟩ hlX hX).trans t.cf.2.2.2⟩, t.bel.grown hgr (by have := t.bel.size; omega) (fun k hk => by have := own_base t.pl _ hk; omega), ?_, ?_, fun k hk o' ho => ?_, fun q hq => ?_, fun q hq => ?_, fun k hk => ?_, fun b hb => ?_⟩
  · refine t.tab.kept hgr ?_
    cases h9b : t9.ownBlock with
    | none => exact Or.inl rfl
    | some b => exact Or.inr fun e => t.sep b h9b e.symm
  · have e : ((List.range (o + 1)).map fun k => Value.slice (some ⟨if i * (ol + 1) + k = i * (ol + 1) + o then R else g (i * (ol + 1) + k), 0, none⟩) N N) = ((List.range o).map fun k => .slice (some ⟨g (i * (ol + 1) + k), 0, none⟩) N N) ++ [.slice (some ⟨R, 0, none⟩) N N] := by
      rw [List.range_succ, List.map_append]
      congr 1
      · apply List.map_congr_left
        intro k hk
        rw [List.mem_range] at hk
        rw [if_neg (by omega)]
      · simp
    rw [e]
    exact hown
  · have hlt := cell_lt (t.hpl k hk o' ho)
    have hpl : k * (ol + 1) + o' < i * (ol + 1) + o := by
      have := Nat.mul_le_mul_right (ol + 1) (show k + 1 ≤ i by omega)
      rw [Nat.add_mul, Nat.one_mul] at this
      omega
    rw [if_neg (by omega)]
    exact (hgr.cell_far ⟨_, o', none⟩ hlt (hne _ (t.gh k hk).2.2)).trans (t.hpl k hk o' ho)
  · by_cases e : q = i * (ol + 1) + o
    · subst e
      rw [if_pos rfl]
      exact hR.block (hgr.block R hR.lt (hne _ h11)) (Nat.lt_of_lt_of_le hR.lt hgr.size)
    · rw [if_neg e]
      have hq' : q < i * (ol + 1) + o := by omega
      exact (t.rows q hq').block (hgr.block _ (t.rows q hq').lt (hne _ (t.gg q hq').2.2)) (Nat.lt_of_lt_of_le (t.rows q hq').lt hgr.size)
  · have hsz : ∀ b, b < wr.heap.size → t11.ownBlock ≠ some b → v'.ownBlock ≠ some b := fun b hb hn e => by
      rcases hv with hv | hv
      · rw [hv] at e; exact hn e
      · rw [hv] at e; injection e with e; omega
    by_cases e : q = i * (ol + 1) + o
    · subst e
      rw [if_pos rfl]
      exact ⟨h0, h9, hsz R hR.lt h11⟩
    · rw [if_neg e]
      have hq' : q < i * (ol + 1) + o := by omega
      exact ⟨(t.gg q hq').1, (t.gg q hq').2.1, hsz _ (t.rows q hq').lt (t.gg q hq').2.2⟩
  · have hlt := cell_lt (t.hpl k hk 0 (Nat.zero_le _))
    refine ⟨(t.gh k hk).1, (t.gh k hk).2.1, fun e => ?_⟩
    rcases hv with hv | hv
    · rw [hv] at e; exact (t.gh k hk).2.2 e
    · rw [hv] at e; injection e with e; omega
  · intro e
    rcases hv with hv | hv
    · rw [hv] at e; exact t.sep b hb e
    · rw [hv] at e; injection e with e; have := h9' b hb; omega

end
end Go.Proofs.Yteehgcbjmdideaa

/- The document's 'Costs': what is true when the first places are done; a row that is being written. -/
namespace Go.Proofs.Yteehgcbjmdideaa
open Go.RowKit
attribute [local go_sem ↓] Go.wp_at_zero Go.wp_at_succ

/-- what is true of the prices when the first p places are done -/
structure GS (f : FstD) (ins outs : List Int) (N s0 : Nat) (c : List Int) (p : Nat) : Prop where
  inv : ∃ y, Inv (EdS f ins outs N) (bgS s0 (totS ins outs N)) c y
  fix : FixTo (EdS f ins outs N) c (p * N)
  rest : ∀ v, p * N ≤ v → gI c v = gI (bgS s0 (totS ins outs N)) v

theorem GS.start {f : FstD} {ins outs : List Int} {N s0 : Nat} : GS f ins outs N s0 (bgS s0 (totS ins outs N)) 0 :=
  ⟨⟨_, Inv.start (bgS_lo _ _) (fun v => by rw [bgS_at]; split <;> decide)⟩, fun e _ hk => by rw [Nat.zero_mul] at hk; omega, fun _ _ => rfl⟩

end Go.Proofs.Yteehgcbjmdideaa

/- The prices while one place is worked at. -/
namespace Go.Proofs.Yteehgcbjmdideaa

/-- the places ahead are done, those behind are as at the beginning -/
structure PSt (f : FstD) (ins outs : List Int) (N s0 i o : Nat) (c : List Int) : Prop where
  inv : ∃ y, Inv (EdS f ins outs N) (bgS s0 (totS ins outs N)) c y
  fix : FixTo (EdS f ins outs N) c ((i * (outs.length + 1) + o) * N)
  rest : ∀ v, (i * (outs.length + 1) + o + 1) * N ≤ v → gI c v = gI (bgS s0 (totS ins outs N)) v

section
variable {f : FstD} {ins outs : List Int} {N s0 i o : Nat} {c : List Int}

theorem PSt.len (h : PSt f ins outs N s0 i o c) : c.length = totS ins outs N := by
  obtain ⟨y, hy⟩ := h.inv
  rw [hy.len, bgS_len]

theorem PSt.lo (h : PSt f ins outs N s0 i o c) (v : Nat) : -1 ≤ gI c v := by
  obtain ⟨y, hy⟩ := h.inv
  exact hy.lo v

theorem PSt.hi (h : PSt f ins outs N s0 i o c) (hok : OkW f ins outs N s0) (v : Nat) : gI c v ≤ 400001000000000 := by
  obtain ⟨y, hy⟩ := h.inv
  exact hy.topK (by rw [bgS_len]; exact hok.tot) v

/-- along an edge into the place -/
theorem PSt.rel (h : PSt f ins outs N s0 i o c) (hok : OkW f ins outs N s0) {e : Edg} (he : e ∈ EdS f ins outs N) {n : Nat} (hn : n < N) (hv : e.v = spotN N outs.length n i o) : PSt f ins outs N s0 i o (relE c e) ∧ (relE c e = c ∨ muL (relE c e) < muL c) := by
  obtain ⟨y, hy⟩ := h.inv
  obtain ⟨b1, b2, b3⟩ := hok.edges e he
  obtain ⟨k1, k2⟩ := hy.relK (by rw [bgS_len]; exact hok.tot) he (by rw [bgS_len]; exact b1) b2 b3
  have hvc : e.v < c.length := by rw [h.len]; exact b1
  refine ⟨⟨k1, h.fix.rel (edS_down hok.arcs _) (by rw [hv]; exact place_ge n) hvc, fun v hlt => ?_⟩, k2⟩
  rw [relE_u hvc ?_]
  · exact h.rest v hlt
  · rw [hv]
    rw [Nat.add_mul, Nat.one_mul] at hlt
    unfold spotN
    omega

theorem PSt.done (h : PSt f ins outs N s0 i o c) (hok : OkW f ins outs N s0) (ho : o ≤ outs.length) (hl : loudOk f ins outs N i o c f.arcs.length) (hs : silentOk f ins outs N i o c f.arcs.length) : GS f ins outs N s0 c (i * (outs.length + 1) + o + 1) :=
  ⟨h.inv, place_done hok ho h.fix hl hs, h.rest⟩

end
end Go.Proofs.Yteehgcbjmdideaa

/- One arc more at a place: what becomes of the prices. -/
namespace Go.Proofs.Yteehgcbjmdideaa


/-- one operation of a region that only reads: it is wanted -/
theorem quiet_yes {P : Program} {ops : Array Oper} {C : World → Prop} {Q : Act → Prop} {a : Act} {o : Oper} {rest : List Oper} (hy : Region.wanted o (yielded ops a.tmps) = true) (h : ∀ K : Act → Prop, (∀ a, wpQuiet P ops C Q rest a → K a) → o.quiet P a C K) : wpQuiet P ops C Q (o :: rest) a :=
  wpQuiet_step (fun K hK => by rw [if_pos hy]; exact h K hK)

/-- it is not -/
theorem quiet_no {P : Program} {ops : Array Oper} {C : World → Prop} {Q : Act → Prop} {a : Act} {o : Oper} {rest : List Oper} (hy : Region.wanted o (yielded ops a.tmps) = false) (h : ∀ K : Act → Prop, (∀ a, wpQuiet P ops C Q rest a → K a) → K (a.put o.dst undef)) : wpQuiet P ops C Q (o :: rest) a :=
  wpQuiet_step (fun K hK => by rw [if_neg (by rw [hy]; decide)]; exact h K hK)

section
variable {f : FstD} {ins outs : List Int} {N s0 i o : Nat} {c : List Int}

theorem fit_0 (l : List Int) (x : Nat) : fitB l x 0 = true := by unfold fitB; simp
theorem fit_1 {l : List Int} {x : Nat} {p : Int} (h : x < l.length) (h2 : l.getD x 0 = p) : fitB l x p = true := by
  unfold fitB
  simp [h]
  right
  simpa [List.getD, h] using h2
end
end Go.Proofs.Yteehgcbjmdideaa
