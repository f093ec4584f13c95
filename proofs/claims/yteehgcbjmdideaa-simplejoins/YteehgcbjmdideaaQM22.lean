/- The prices while one place is worked at. -/
import Derived.Test.YteehgcbjmdideaaQM21
namespace Go.Proofs.Yteehgcbjmdideaa

/-- the places ahead are done, those behind are as at the beginning -/
structure PSt (f : FstD) (ins outs : List Int) (N s0 i o : Nat) (c : List Int) : Prop where
  inv : ∃ y, Inv (EdS f ins outs N) (bgS s0 (totS ins outs N)) c y
  fix : FixTo (EdS f ins outs N) c ((i * (outs.length + 1) + o) * N)
  rest : ∀ v, (i * (outs.length + 1) + o + 1) * N ≤ v → gI c v = gI (bgS s0 (totS ins outs N)) v

section
variable {f : FstD} {ins outs : List Int} {N s0 i o : Nat} {c : List Int}

theorem GS.toP (h : GS f ins outs N s0 c (i * (outs.length + 1) + o)) : PSt f ins outs N s0 i o c :=
  ⟨h.inv, h.fix, fun v hv => h.rest v (by rw [Nat.add_mul, Nat.one_mul] at hv; omega)⟩

theorem PSt.len (h : PSt f ins outs N s0 i o c) : c.length = totS ins outs N := by
  obtain ⟨y, hy⟩ := h.inv
  rw [hy.len, bgS_len]

theorem PSt.lo (h : PSt f ins outs N s0 i o c) (v : Nat) : -1 ≤ gI c v := by
  obtain ⟨y, hy⟩ := h.inv
  exact hy.lo v

theorem PSt.hi (h : PSt f ins outs N s0 i o c) (hok : OkW f ins outs N s0) (v : Nat) : gI c v ≤ 400001000000000 := by
  obtain ⟨y, hy⟩ := h.inv
  exact hy.topK (by rw [bgS_len]; exact hok.tot) v

/-- along an edge into the place -/
theorem PSt.rel (h : PSt f ins outs N s0 i o c) (hok : OkW f ins outs N s0) {e : Edg} (he : e ∈ EdS f ins outs N) {n : Nat} (hn : n < N) (hv : e.v = spotN N outs.length n i o) : PSt f ins outs N s0 i o (relE c e) ∧ (relE c e = c ∨ muL (relE c e) < muL c) := by
  obtain ⟨y, hy⟩ := h.inv
  obtain ⟨b1, b2, b3⟩ := hok.edges e he
  obtain ⟨k1, k2⟩ := hy.relK (by rw [bgS_len]; exact hok.tot) he (by rw [bgS_len]; exact b1) b2 b3
  have hvc : e.v < c.length := by rw [h.len]; exact b1
  refine ⟨⟨k1, h.fix.rel (edS_down hok.arcs _) (by rw [hv]; exact place_ge n) hvc, fun v hlt => ?_⟩, k2⟩
  rw [relE_u hvc ?_]
  · exact h.rest v hlt
  · rw [hv]
    rw [Nat.add_mul, Nat.one_mul] at hlt
    unfold spotN
    omega

theorem PSt.done (h : PSt f ins outs N s0 i o c) (hok : OkW f ins outs N s0) (ho : o ≤ outs.length) (hl : loudOk f ins outs N i o c f.arcs.length) (hs : silentOk f ins outs N i o c f.arcs.length) : GS f ins outs N s0 c (i * (outs.length + 1) + o + 1) :=
  ⟨h.inv, place_done hok ho h.fix hl hs, h.rest⟩

/-- the row at work, when its place's price falls; the rows laid down stay -/
theorem segL_rel {e : Edg} {n : Nat} (hn : n < N) (hv : e.v = spotN N outs.length n i o) : segL (relE c e) N (i * (outs.length + 1) + o) = (segL c N (i * (outs.length + 1) + o)).set n (lessC (gI c e.v) (plusC (gI c e.u) e.w)) ∧ ∀ q, q < i * (outs.length + 1) + o → segL (relE c e) N q = segL c N q := by
  have e1 : spotN N outs.length n i o = (i * (outs.length + 1) + o) * N + n := rfl
  unfold relE
  rw [hv, e1]
  exact ⟨segL_set_same _, fun q hq => segL_set_other _ hn (by omega)⟩
end
end Go.Proofs.Yteehgcbjmdideaa

/- One arc more at a place: what becomes of the prices. -/
namespace Go.Proofs.Yteehgcbjmdideaa


/-- one operation of a region that only reads: it is wanted -/
theorem quiet_yes {P : Program} {ops : Array Oper} {C : World → Prop} {Q : Act → Prop} {a : Act} {o : Oper} {rest : List Oper} (hy : Region.wanted o (yielded ops a.tmps) = true) (h : ∀ K : Act → Prop, (∀ a, wpQuiet P ops C Q rest a → K a) → o.quiet P a C K) : wpQuiet P ops C Q (o :: rest) a :=
  wpQuiet_step (fun K hK => by rw [if_pos hy]; exact h K hK)

/-- it is not -/
theorem quiet_no {P : Program} {ops : Array Oper} {C : World → Prop} {Q : Act → Prop} {a : Act} {o : Oper} {rest : List Oper} (hy : Region.wanted o (yielded ops a.tmps) = false) (h : ∀ K : Act → Prop, (∀ a, wpQuiet P ops C Q rest a → K a) → K (a.put o.dst undef)) : wpQuiet P ops C Q (o :: rest) a :=
  wpQuiet_step (fun K hK => by rw [if_neg (by rw [hy]; decide)]; exact h K hK)

section
variable {f : FstD} {ins outs : List Int} {N s0 i o : Nat} {c : List Int}

/-- an arc that says something and fits -/
theorem loud_go (hok : OkW f ins outs N s0) (hP : PSt f ins outs N s0 i o c) {j : Nat} (hL : loudOk f ins outs N i o c j) {a : ArcD} (ha : f.arcs[j]? = some a) {x y s t ol : Nat} (hol : outs.length = ol) (hin : IntoL ins outs i o a x y) (hs : a.src = (s : Int)) (ht : a.dst = (t : Int)) :
    ∃ c', PSt f ins outs N s0 i o c' ∧ loudOk f ins outs N i o c' (j + 1) ∧ segL c' N (i * (ol + 1) + o) = (segL c N (i * (ol + 1) + o)).set t (lessC (gI (segL c N (i * (ol + 1) + o)) t) (plusC (gI (segL c N (x * (ol + 1) + y)) s) a.wt)) ∧ ∀ q, q < i * (ol + 1) + o → segL c' N q = segL c N q := by
  subst hol
  have hmem := List.mem_of_getElem? ha
  obtain ⟨⟨p1, p2⟩, ⟨p3, p4⟩, _⟩ := hok.arcs a hmem
  have hsN : s < N := by omega
  have htN : t < N := by omega
  have he : edgeS N ins outs x y a = ⟨spotN N outs.length s x y, spotN N outs.length t i o, a.wt⟩ := by
    rw [into_edge hin, hs, ht, Int.toNat_natCast, Int.toNat_natCast]
  have hmE : edgeS N ins outs x y a ∈ EdS f ins outs N := edS_mem.2 ⟨x, y, a, hin.2.1, hin.2.2.1, hmem, rfl⟩
  have hv : (edgeS N ins outs x y a).v = spotN N outs.length t i o := by rw [he]
  have hvc : (edgeS N ins outs x y a).v < c.length := by rw [hP.len]; exact (hok.edges _ hmE).1
  obtain ⟨k1, k2⟩ := segL_rel (c := c) htN hv
  refine ⟨relE c (edgeS N ins outs x y a), (hP.rel hok hmE htN hv).1, hL.step hok ha hin hvc hP.lo, ?_, k2⟩
  rw [k1, he, segL_at _ _ _ _ htN, segL_at _ _ _ _ hsN]
  rfl

/-- a silent arc -/
theorem silent_go (hok : OkW f ins outs N s0) (hi : i ≤ ins.length) (ho : o ≤ outs.length) (hP : PSt f ins outs N s0 i o c) {m : Nat} (hL : loudOk f ins outs N i o c m) {j : Nat} {a : ArcD} (ha : f.arcs[j]? = some a) {s t ol : Nat} (hol : outs.length = ol) (hsi : a.inp = 0 ∧ a.out = 0) (hs : a.src = (s : Int)) (ht : a.dst = (t : Int))
    (hne : ¬ lessC (gI (segL c N (i * (ol + 1) + o)) t) (plusC (gI (segL c N (i * (ol + 1) + o)) s) a.wt) = gI (segL c N (i * (ol + 1) + o)) t) :
    ∃ c', PSt f ins outs N s0 i o c' ∧ loudOk f ins outs N i o c' m ∧ muL c' < muL c ∧ segL c' N (i * (ol + 1) + o) = (segL c N (i * (ol + 1) + o)).set t (lessC (gI (segL c N (i * (ol + 1) + o)) t) (plusC (gI (segL c N (i * (ol + 1) + o)) s) a.wt)) ∧ ∀ q, q < i * (ol + 1) + o → segL c' N q = segL c N q := by
  subst hol
  have hmem := List.mem_of_getElem? ha
  obtain ⟨⟨p1, p2⟩, ⟨p3, p4⟩, _⟩ := hok.arcs a hmem
  have hsN : s < N := by omega
  have htN : t < N := by omega
  have he : edgeS N ins outs i o a = ⟨spotN N outs.length s i o, spotN N outs.length t i o, a.wt⟩ := by
    rw [silent_edge hsi, hs, ht, Int.toNat_natCast, Int.toNat_natCast]
  have hmE : edgeS N ins outs i o a ∈ EdS f ins outs N := edS_mem.2 ⟨i, o, a, hi, ho, hmem, rfl⟩
  have hv : (edgeS N ins outs i o a).v = spotN N outs.length t i o := by rw [he]
  have hvc : (edgeS N ins outs i o a).v < c.length := by rw [hP.len]; exact (hok.edges _ hmE).1
  obtain ⟨k1, k2⟩ := segL_rel (c := c) htN hv
  obtain ⟨r1, r2⟩ := hP.rel hok hmE htN hv
  have e3 : segL (relE c (edgeS N ins outs i o a)) N (i * (outs.length + 1) + o) = (segL c N (i * (outs.length + 1) + o)).set t (lessC (gI (segL c N (i * (outs.length + 1) + o)) t) (plusC (gI (segL c N (i * (outs.length + 1) + o)) s) a.wt)) := by
    rw [k1, he, segL_at _ _ _ _ htN, segL_at _ _ _ _ hsN]
    rfl
  refine ⟨relE c (edgeS N ins outs i o a), r1, hL.rel hok hv hvc, ?_, e3, k2⟩
  rcases r2 with r2 | r2
  · exfalso
    rw [r2] at e3
    apply hne
    have hl : (segL c N (i * (outs.length + 1) + o)).length = N := by
      have h1 := hP.len
      unfold totS at h1
      exact segL_len h1 (place_lt hi ho)
    have : gI (segL c N (i * (outs.length + 1) + o)) t = _ := congrArg (fun l => gI l t) e3
    rw [gI_set _ _ _ _ (by rw [hl]; exact htN), if_pos rfl] at this
    exact this.symm
  · exact r2

theorem silent_keep (hok : OkW f ins outs N s0) (hP : PSt f ins outs N s0 i o c) {j : Nat} (hS : silentOk f ins outs N i o c j) {a : ArcD} (ha : f.arcs[j]? = some a) {s t ol : Nat} (hol : outs.length = ol) (hsi : a.inp = 0 ∧ a.out = 0) (hs : a.src = (s : Int)) (ht : a.dst = (t : Int))
    (he : lessC (gI (segL c N (i * (ol + 1) + o)) t) (plusC (gI (segL c N (i * (ol + 1) + o)) s) a.wt) = gI (segL c N (i * (ol + 1) + o)) t) : silentOk f ins outs N i o c (j + 1) := by
  subst hol
  obtain ⟨⟨p1, p2⟩, ⟨p3, p4⟩, _⟩ := hok.arcs a (List.mem_of_getElem? ha)
  have hsN : s < N := by omega
  have htN : t < N := by omega
  refine hS.step hok ha hsi hP.lo ?_
  rw [segL_at _ _ _ _ htN, segL_at _ _ _ _ hsN] at he
  rw [hs, ht, Int.toNat_natCast, Int.toNat_natCast]
  exact he

theorem no_sil {a : ArcD} (h : a.inp = 0 ∧ a.out = 0) (i' o' : Nat) : ¬ IntoL ins outs i o a i' o' := fun k => k.1 h
theorem no_i0 {a : ArcD} (h : a.inp ≠ 0) (hi : i = 0) (i' o' : Nat) : ¬ IntoL ins outs i o a i' o' := fun k => by
  have := k.2.2.2.2.1
  unfold usedBy at this
  rw [if_neg h] at this
  omega
theorem no_o0 {a : ArcD} (h : a.out ≠ 0) (ho : o = 0) (i' o' : Nat) : ¬ IntoL ins outs i o a i' o' := fun k => by
  have := k.2.2.2.2.2
  unfold usedBy at this
  rw [if_neg h] at this
  omega
theorem no_ix {a : ArcD} (h : a.inp ≠ 0) {x : Nat} (hi : i = x + 1) (hx : ins.getD x 0 ≠ a.inp) (i' o' : Nat) : ¬ IntoL ins outs i o a i' o' := fun k => by
  have h1 := k.2.2.2.2.1
  unfold usedBy at h1
  rw [if_neg h] at h1
  have h2 := k.2.2.2.1
  rw [Bool.and_eq_true] at h2
  have h3 := h2.1
  have e : i' = x := by omega
  subst e
  unfold fitB at h3
  simp [h] at h3
  exact hx (by simpa [List.getD] using h3.2)
theorem no_ox {a : ArcD} (h : a.out ≠ 0) {x : Nat} (ho : o = x + 1) (hx : outs.getD x 0 ≠ a.out) (i' o' : Nat) : ¬ IntoL ins outs i o a i' o' := fun k => by
  have h1 := k.2.2.2.2.2
  unfold usedBy at h1
  rw [if_neg h] at h1
  have h2 := k.2.2.2.1
  rw [Bool.and_eq_true] at h2
  have h3 := h2.2
  have e : o' = x := by omega
  subst e
  unfold fitB at h3
  simp [h] at h3
  exact hx (by simpa [List.getD] using h3.2)

theorem fit_0 (l : List Int) (x : Nat) : fitB l x 0 = true := by unfold fitB; simp
theorem fit_1 {l : List Int} {x : Nat} {p : Int} (h : x < l.length) (h2 : l.getD x 0 = p) : fitB l x p = true := by
  unfold fitB
  simp [h]
  right
  simpa [List.getD, h] using h2
theorem into_01 {a : ArcD} (h1 : a.inp = 0) (h2 : a.out ≠ 0) (hi : i ≤ ins.length) {y : Nat} (ho : o = y + 1) (hy : y < outs.length) (hf : outs.getD y 0 = a.out) : IntoL ins outs i o a i y := by
  refine ⟨fun h => h2 h.2, hi, by omega, ?_, ?_, ?_⟩
  · rw [h1, fit_0, fit_1 hy hf]; rfl
  · unfold usedBy; rw [if_pos h1]
  · unfold usedBy; rw [if_neg h2]; exact ho.symm
theorem into_10 {a : ArcD} (h1 : a.inp ≠ 0) (h2 : a.out = 0) (ho : o ≤ outs.length) {x : Nat} (hi : i = x + 1) (hx : x < ins.length) (hf : ins.getD x 0 = a.inp) : IntoL ins outs i o a x o := by
  refine ⟨fun h => h1 h.1, by omega, ho, ?_, ?_, ?_⟩
  · rw [h2, fit_0, fit_1 hx hf]; rfl
  · unfold usedBy; rw [if_neg h1]; exact hi.symm
  · unfold usedBy; rw [if_pos h2]
theorem into_11 {a : ArcD} (h1 : a.inp ≠ 0) (h2 : a.out ≠ 0) {x y : Nat} (hi : i = x + 1) (hx : x < ins.length) (hf : ins.getD x 0 = a.inp) (ho : o = y + 1) (hy : y < outs.length) (hg : outs.getD y 0 = a.out) : IntoL ins outs i o a x y := by
  refine ⟨fun h => h1 h.1, by omega, by omega, ?_, ?_, ?_⟩
  · rw [fit_1 hx hf, fit_1 hy hg]; rfl
  · unfold usedBy; rw [if_neg h1]; exact hi.symm
  · unfold usedBy; rw [if_neg h2]; exact ho.symm
end
end Go.Proofs.Yteehgcbjmdideaa

/- One round of the loop of 'Costs' over arcs that say something: what is known when it begins; the loops of a function's text. -/
namespace Go.Proofs.Yteehgcbjmdideaa
open Go.RowKit

/-- the bodies of the loops, the outer ones first -/
def loopsOf : Code → List Code
  | .seq a b => loopsOf a ++ loopsOf b
  | .cond _ a b => loopsOf a ++ loopsOf b
  | .block _ c => loopsOf c
  | .scope c => loopsOf c
  | .loop c => c :: loopsOf c
  | _ => []

structure L4 (f : FstD) (ins outs : List Int) (k s0 : Nat) (fin : Value) (aa : Option Addr) (m ac : Nat) (ia : Option Addr) (il ic : Nat) (oa : Option Addr) (ol oc : Nat) (w wr : World) (g h hc : Nat → Nat) (c : List Int) (i o R j : Nat) (u9 u11 : Value) : Prop where
  HOK : OkW f ins outs k s0
  HLET : ∀ a ∈ f.arcs, (0 ≤ a.inp ∧ a.inp ≤ 9) ∧ (0 ≤ a.out ∧ a.out ≤ 9)
  HAL : f.arcs.length = m
  HIL : ins.length = il
  HOL : outs.length = ol
  hN1 : 1 ≤ k
  hN2 : k ≤ 200
  hi40 : il ≤ 40
  ho40 : ol ≤ 40
  hm3 : m ≤ 3000
  hlt : i ≤ il
  hlo : o ≤ ol
  hlj : j < m
  HME : ∀ W, Below w.heap.size w W → ASlice W (.slice aa m ac) f.arcs ∧ ISlice W (.slice ia il ic) ins ∧ ISlice W (.slice oa ol oc) outs
  HRR : u9.ownBlock ≠ some R ∧ u11.ownBlock ≠ some R ∧ (∀ q, q < i * (ol + 1) + o → g q ≠ R) ∧ (∀ k, k < i → h k ≠ R) ∧ w.heap.size + 1 ≤ R
  hTB : TB w wr k ol (s0 : Int) fin (.slice aa m ac) g h hc c i o u9 u11
  hRow : NumsAt wr R k (segL c k (i * (ol + 1) + o))
  HPS : PSt f ins outs k s0 i o c
  HLO : loudOk f ins outs k i o c j
end Go.Proofs.Yteehgcbjmdideaa
