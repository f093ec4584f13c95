/- The program's search: what stays true of prices, and of the arcs that they came by, from one step to the next. -/
import Derived.Test.YteehgcbjmdideaaQM01
import Derived.OrdersHeld
import Derived.Deep.RegionHeld
import Derived.Deep.DrawnRows
import Derived.Deep.RegionHeld3
import Derived.Deep.Cut
import Derived.Test.YteehgcbjmdideaaQM00
import Derived.Lib.Join
import Derived.Lib.ItoaLen
import Derived.Lib.UnsafeStr
namespace Go.Proofs.Yteehgcbjmdideaa

/-- how much a price can still fall -/
def muI (x : Int) : Nat := if x < 0 then 1000000000000000 else x.toNat
def muL (c : List Int) : Nat := (c.map muI).sum
/-- how many prices there are -/
def metL (c : List Int) : Nat := (c.map fun x => if x < 0 then 0 else 1).sum

theorem sum_set (f : Int → Nat) (c : List Int) (v : Nat) (x : Int) (hv : v < c.length) : ((c.set v x).map f).sum + f (gI c v) = (c.map f).sum + f x := by
  induction c generalizing v with
  | nil => simp at hv
  | cons y c ih =>
    cases v with
    | zero => simp [gI, List.getD]; omega
    | succ v =>
      have := ih v (by simpa using hv)
      have e : gI (y :: c) (v + 1) = gI c v := by simp [gI, List.getD]
      rw [e]
      simp only [List.set_cons_succ, List.map_cons, List.sum_cons]
      omega

theorem metL_le (c : List Int) : metL c ≤ c.length := by
  unfold metL
  induction c with
  | nil => simp
  | cons x c ih =>
    simp only [List.map_cons, List.sum_cons, List.length_cons]
    split <;> omega

/-- by which arc each price came: none, and it is what it was at the beginning; or it is no better than by that arc, and if it is just that, the arc's price came first -/
def ByOk (E : List Edg) (b c y : List Int) (r : Nat → Nat) : Prop :=
  ∀ v, v < c.length → (gI y v = -1 ∧ gI c v = gI b v) ∨ ∃ (j : Nat) (e : Edg), gI y v = j ∧ E[j]? = some e ∧ e.v = v ∧ 0 ≤ gI c e.u ∧ 0 ≤ gI c v ∧ gI c e.u + e.w ≤ gI c v ∧ (gI c e.u + e.w = gI c v → r e.u < r v)

/-- what stays true -/
structure Inv (E : List Edg) (b c y : List Int) : Prop where
  len : c.length = b.length
  ylen : y.length = b.length
  ach : Ach E b c
  le : LeC c b
  lo : ∀ v, -1 ≤ gI c v
  hi : ∀ v, gI c v ≤ 1000000000 * (1 + (metL c : Int))
  by_ : ∃ r R, (∀ x, r x ≤ R) ∧ ByOk E b c y r

section
variable {E : List Edg} {b c y : List Int}

theorem Inv.top (h : Inv E b c y) (hn : b.length ≤ 200) (v : Nat) : gI c v ≤ 201000000000 := by
  have h1 := h.hi v
  have h2 := metL_le c
  have h3 := h.len
  omega

theorem Inv.topK (h : Inv E b c y) (hn : b.length ≤ 400000) (v : Nat) : gI c v ≤ 400001000000000 := by
  have h1 := h.hi v
  have h2 := metL_le c
  have h3 := h.len
  omega

theorem Inv.start (hb : ∀ v, gI b v = -1 ∨ 0 ≤ gI b v) (hm : ∀ v, gI b v ≤ 1000000000) : Inv E b b (List.replicate b.length (-1)) where
  len := rfl
  ylen := by simp
  ach := fun v => (hb v).imp id fun h => ⟨0, rfl, h⟩
  le := LeC.refl _
  lo := fun v => by rcases hb v with h | h <;> omega
  hi := fun v => by have := hm v; omega
  by_ := ⟨fun _ => 0, 0, fun _ => Nat.le_refl _, fun v hv => Or.inl ⟨by simp [gI, List.getD, hv], rfl⟩⟩

theorem better_iff {a d : Int} (ha : -1 ≤ a) (hd : -1 ≤ d) : betterB a d = true ↔ 0 ≤ a ∧ (d = -1 ∨ a < d) := by
  unfold betterB
  simp only [Bool.and_eq_true, bne_iff_ne, ne_eq, Bool.or_eq_true, beq_iff_eq, decide_eq_true_eq]
  omega

theorem plusC_lo (a w : Int) : -1 ≤ plusC a w := by
  unfold plusC; split
  · omega
  · omega

/-- a step along an edge that makes a price better -/
theorem Inv.step {j : Nat} {e : Edg} (h : Inv E b c y) (hbn : b.length ≤ 400000) (hj : E[j]? = some e) (hv : e.v < b.length) (hw0 : 0 ≤ e.w) (hw1 : e.w ≤ 1000000000)
    (hbt : betterB (plusC (gI c e.u) e.w) (gI c e.v) = true) :
    Inv E b (c.set e.v (plusC (gI c e.u) e.w)) (y.set e.v (j : Int)) ∧ muL (c.set e.v (plusC (gI c e.u) e.w)) < muL c := by
  have hvc : e.v < c.length := by have := h.len; omega
  have hvy : e.v < y.length := by have := h.ylen; omega
  have he : e ∈ E := List.mem_of_getElem? hj
  obtain ⟨hp0, hbet⟩ := (better_iff (plusC_lo _ _) (h.lo _)).1 hbt
  have hcu : 0 ≤ gI c e.u := by
    unfold plusC at hp0
    split at hp0
    · omega
    · rename_i hh; omega
  have hp : plusC (gI c e.u) e.w = gI c e.u + e.w := by unfold plusC; rw [if_neg (by omega)]
  have hrel : c.set e.v (plusC (gI c e.u) e.w) = relE c e := by
    rw [← progE_eq c e h.lo]
    unfold progE
    rw [if_pos hbt]
  have hne : e.u ≠ e.v := by
    intro hh
    rw [hh] at hp hcu
    rw [hh, hp] at hbet
    omega
  have hset : ∀ x, gI (c.set e.v (plusC (gI c e.u) e.w)) x = if x = e.v then gI c e.u + e.w else gI c x := fun x => by rw [gI_set _ _ _ _ hvc, hp]
  have hyset : ∀ x, gI (y.set e.v (j : Int)) x = if x = e.v then (j : Int) else gI y x := fun x => gI_set _ _ _ _ hvy
  have hmet := sum_set (fun x => if x < 0 then 0 else 1) c e.v (plusC (gI c e.u) e.w) hvc
  have hmu := sum_set muI c e.v (plusC (gI c e.u) e.w) hvc
  change metL (c.set e.v (plusC (gI c e.u) e.w)) + _ = metL c + _ at hmet
  change muL (c.set e.v (plusC (gI c e.u) e.w)) + _ = muL c + _ at hmu
  rw [if_neg (by omega : ¬ plusC (gI c e.u) e.w < 0)] at hmet
  have htop := h.hi e.u
  refine ⟨⟨by simpa using h.len, by simpa using h.ylen, ?_, ?_, ?_, ?_, ?_⟩, ?_⟩
  · rw [hrel]; exact relE_ach he hvc h.ach
  · rw [hrel]; exact (relE_le c e hvc).trans h.le
  · intro x
    rw [hset]
    split
    · omega
    · exact h.lo x
  · intro x
    rw [hset]
    have hx := h.hi x
    by_cases hn : gI c e.v < 0
    · rw [if_pos hn] at hmet
      split <;> omega
    · rw [if_neg hn] at hmet
      have := h.hi e.v
      split <;> omega
  · obtain ⟨r, R, hR, hby⟩ := h.by_
    refine ⟨fun x => if x = e.v then R + 1 else r x, R + 1, fun x => ?_, fun v hv' => ?_⟩
    · show (if x = e.v then R + 1 else r x) ≤ R + 1
      split
      · exact Nat.le_refl _
      · have := hR x; omega
    · rw [hset, hyset]
      by_cases hve : v = e.v
      · subst hve
        right
        rw [if_pos rfl, if_pos rfl]
        refine ⟨j, e, rfl, hj, rfl, ?_⟩
        rw [hset, if_neg hne]
        simp only [hne, if_true, if_false]
        have := hR e.u
        refine ⟨hcu, by omega, by omega, fun _ => by omega⟩
      · rw [if_neg hve, if_neg hve]
        rcases hby v (by simpa using hv') with hl | ⟨j', e', h1, h2, h3, h4, h5, h6, h7⟩
        · exact Or.inl hl
        · right
          refine ⟨j', e', h1, h2, h3, ?_⟩
          rw [hset]
          by_cases hue : e'.u = e.v
          · rw [if_pos hue]
            rw [hue] at h4 h6
            refine ⟨by omega, h5, by omega, fun hh => by omega⟩
          · rw [if_neg hue]
            refine ⟨h4, h5, h6, fun hh => ?_⟩
            have := h7 hh
            simp only [hue, if_false, hve]
            exact this
  · have hmu1 : muI (plusC (gI c e.u) e.w) < muI (gI c e.v) := by
      unfold muI
      rw [if_neg (by omega)]
      by_cases hn : gI c e.v < 0
      · rw [if_pos hn]
        have := h.topK hbn e.u
        omega
      · rw [if_neg hn]; omega
    omega

/-- no arc makes a price better: prices are the least ones, and each is just what it is by its arc -/
theorem Inv.done (h : Inv E b c y) (hw : ∀ e ∈ E, 0 ≤ e.w) (hno : ∀ e ∈ E, betterB (plusC (gI c e.u) e.w) (gI c e.v) = false) :
    (∀ v, IsLeast E b v (gI c v)) ∧ ∃ r : Nat → Nat, ∀ v, v < c.length → (gI y v = -1 ∧ gI c v = gI b v) ∨ ∃ (j : Nat) (e : Edg), gI y v = j ∧ E[j]? = some e ∧ e.v = v ∧ 0 ≤ gI c e.u ∧ 0 ≤ gI c v ∧ gI c e.u + e.w = gI c v ∧ r e.u < r v := by
  have hf := fix_of E c hw h.lo hno
  refine ⟨fix_least hw h.ach h.le hf, ?_⟩
  obtain ⟨r, _, _, hby⟩ := h.by_
  refine ⟨r, fun v hv => ?_⟩
  rcases hby v hv with hl | ⟨j, e, h1, h2, h3, h4, h5, h6, h7⟩
  · exact Or.inl hl
  · right
    have hle := (hf e (List.mem_of_getElem? h2) h4).2
    rw [h3] at hle
    have heq : gI c e.u + e.w = gI c v := by omega
    exact ⟨j, e, h1, h2, h3, h4, h5, heq, h7 heq⟩

end
end Go.Proofs.Yteehgcbjmdideaa

/- A region that draws its order and whose last operation, number k, waits for all the others: a load may be taken first where nobody but k writes its cell. What is held need not outlive k. -/
namespace Go.Proofs.Yteehgcbjmdideaa
open Go

section
variable {P : Program} {ops : Array Oper} {Q : Exit → Act → World → Prop} {md : Region.Mode} {S : World → Prop} {k : Nat}

/-- whatever order is picked from here on, and S holds behind every operation but k -/
def wpAnyU (P : Program) (md : Region.Mode) (ops : Array Oper) (Q : Exit → Act → World → Prop) (S : World → Prop) (k : Nat) : Nat → Array Bool → Act → World → Prop
  | 0, listed, a, w => Region.ready md ops listed = [] ∧ Q .normal a w
  | fuel + 1, listed, a, w =>
    (Region.ready md ops listed = [] → Q .normal a w) ∧
    ∀ i ∈ Region.ready md ops listed, wpOp P ops Q i (fun a' w' => (i ≠ k → S w') ∧ wpAnyU P md ops Q S k fuel (listed.setIfInBounds i true) a' w') a w

theorem wpAny_of_U : ∀ (fuel : Nat) (listed : Array Bool) (a : Act) (w : World), wpAnyU P md ops Q S k fuel listed a w → wpAny P md ops Q fuel listed a w
  | 0, _, _, _, h => h
  | fuel + 1, _, _, _, h => ⟨h.1, fun i hi => wpOp_mono (fun a' w' h' => wpAny_of_U fuel _ a' w' h'.2) (h.2 i hi)⟩

/-- who may come up does not wait for one that has not come up -/
theorem ready_not_on {listed : Array Bool} {i j : Nat} {oj : Oper} (hr : i ∈ Region.ready md ops listed) (hj : j ∈ Region.ready md ops listed) (hoj : ops[j]? = some oj) :
    ∀ e ∈ oj.after, Region.binds md e = true → e.on ≠ i := by
  obtain ⟨_, o, ho, hall⟩ := mem_ready.1 hj
  rw [hoj] at ho
  injection ho with ho
  subst ho
  have hun := (mem_ready.1 hr).1
  rintro e he hb rfl
  have hl := hall e he hb
  by_cases hs : e.on < listed.size
  · simp only [Array.getD_eq_getD_getElem?, Array.getElem?_eq_getElem hs, Option.getD_some] at hun hl
    exact Bool.noConfusion (hun.symm.trans hl)
  · simp only [Array.getD_eq_getD_getElem?, Array.getElem?_eq_none (Nat.le_of_not_lt hs), Option.getD_none] at hl
    cases hl

/-- number i can wait: it may come up, its value is known, and all goes well if it is taken now -/
structure CanWait (P : Program) (md : Region.Mode) (ops : Array Oper) (Q : Exit → Act → World → Prop) (S : World → Prop) (k i : Nat) (oi : Oper) (v : Value) (fuel : Nat) (listed : Array Bool) (a : Act) (w : World) : Prop where
  up : i ∈ Region.ready md ops listed
  apart : ∀ j oj, ops[j]? = some oj → j ≠ i → listed.getD j true = false → (∀ e ∈ oj.after, Region.binds md e = true → e.on ≠ i) → oi.apart ops oj = true
  val : YieldsIf P ops S oi v a
  holds : S w
  taken : wpAnyU P md ops Q S k fuel (listed.setIfInBounds i true) (a.put oi.dst v) w

section
variable {i : Nat} {oi : Oper} {v : Value}

/-- behind any other one that comes up, it still can -/
theorem CanWait.other (hi : ops[i]? = some oi) (hsel : ∀ (j : Nat) (o : Oper) cs b, ops[j]? = some o → o.op ≠ .select cs b)
    (hk : i ≠ k ∧ ∀ ok, ops[k]? = some ok → ∃ e ∈ ok.after, Region.binds md e = true ∧ e.on = i)
    (hQ : ∀ c a w, Q (.panic c) (a.put oi.dst v) w → Q (.panic c) a w) {fuel j : Nat} {listed : Array Bool} {a : Act} {w : World}
    (h : CanWait P md ops Q S k i oi v (fuel + 1) listed a w) (hj : j ∈ Region.ready md ops listed) (hne : j ≠ i) :
    wpOp P ops Q j (fun a' w' => (j ≠ k → S w') ∧ CanWait P md ops Q S k i oi v fuel (listed.setIfInBounds j true) a' w') a w := by
  obtain ⟨hun, oj, hoj, _⟩ := mem_ready.1 hj
  have hno := ready_not_on h.up hj hoj
  have hjk : j ≠ k := by
    rintro rfl
    obtain ⟨e, he, hb, hon⟩ := hk.2 oj hoj
    exact hno e he hb hon
  have hstep := h.taken.2 j (ready_mono hj hne)
  rw [Array.setIfInBounds_comm _ _ (Ne.symm hne)] at hstep
  refine wpOp_mono ?_ (wpOp_putIf hoj (h.apart j oj hoj hne hun hno) (hsel i oi · · hi) (hsel j oj · · hoj) hQ h.val hstep)
  rintro a' w' ⟨hval, hS, hrest⟩
  refine ⟨hS, ready_mono h.up (Ne.symm hne), fun m om hm hmi hml hmo => h.apart m om hm hmi ?_ hmo, hval, hS hjk, hrest⟩
  by_cases hjm : j = m
  · exact hjm ▸ hun
  · rwa [getD_set_ne true hjm] at hml

/-- so all goes well whenever it comes up -/
theorem CanWait.any (hi : ops[i]? = some oi) (hsel : ∀ (j : Nat) (o : Oper) cs b, ops[j]? = some o → o.op ≠ .select cs b)
    (hk : i ≠ k ∧ ∀ ok, ops[k]? = some ok → ∃ e ∈ ok.after, Region.binds md e = true ∧ e.on = i)
    (hQ : ∀ c a w, Q (.panic c) (a.put oi.dst v) w → Q (.panic c) a w) (fuel : Nat) :
    ∀ {listed : Array Bool} {a : Act} {w : World}, CanWait P md ops Q S k i oi v fuel listed a w → wpAnyU P md ops Q S k (fuel + 1) listed a w := by
  induction fuel with
  | zero =>
    intro listed a w h
    refine ⟨fun hnil => absurd h.up (by simp [hnil]), fun j hj => ?_⟩
    rcases Nat.decEq j i with hne | rfl
    · exact absurd (ready_mono hj hne) (by simp [h.taken.1])
    · exact h.val.wpOp hi h.holds ⟨fun _ => h.holds, h.taken⟩
  | succ fuel ih =>
    intro listed a w h
    refine ⟨fun hnil => absurd h.up (by simp [hnil]), fun j hj => ?_⟩
    rcases Nat.decEq j i with hne | rfl
    · exact wpOp_mono (fun _ _ hc => ⟨hc.1, ih hc.2⟩) (h.other hi hsel hk hQ hj hne)
    · exact h.val.wpOp hi h.holds ⟨fun _ => h.holds, h.taken⟩

end

/-- does number k wait for number i? -/
def waits (md : Region.Mode) (ops : Array Oper) (k i : Nat) : Bool := i != k && ((ops[k]?).map (·.after.any fun e => Region.binds md e && e.on == i)).getD true

theorem waits_spec {i : Nat} (h : waits md ops k i = true) : i ≠ k ∧ ∀ ok, ops[k]? = some ok → ∃ e ∈ ok.after, Region.binds md e = true ∧ e.on = i := by
  unfold waits at h
  rw [Bool.and_eq_true] at h
  refine ⟨by simpa using h.1, fun ok hok => ?_⟩
  have h2 := h.2
  rw [hok] at h2
  simp only [Option.map_some, Option.getD_some, Array.any_eq_true] at h2
  obtain ⟨j, hj, h3⟩ := h2
  rw [Bool.and_eq_true] at h3
  exact ⟨ok.after[j], Array.getElem_mem hj, h3.1, by simpa using h3.2⟩

theorem wpAnyU_take {i : Nat} {oi : Oper} {v : Value} {fuel : Nat} {listed : Array Bool} {a : Act} {w : World} (hi : ops[i]? = some oi)
    (hs : Region.noSelect ops = true) (hf : Region.free md ops listed i = true) (hr : (Region.ready md ops listed).contains i = true) (hk : waits md ops k i = true)
    (hQ : ∀ c a w, Q (.panic c) (a.put oi.dst v) w → Q (.panic c) a w) (hy : YieldsIf P ops S oi v a) (hS : S w)
    (h : wpAnyU P md ops Q S k fuel (listed.setIfInBounds i true) (a.put oi.dst v) w) : wpAnyU P md ops Q S k (fuel + 1) listed a w :=
  CanWait.any hi (Region.noSelect_spec hs) (waits_spec hk) hQ fuel ⟨by simpa using hr, Region.free_spec hi hf, hy, hS, h⟩

/-- only number i may come up -/
theorem wpAnyU_one {i : Nat} {o : Oper} {fuel : Nat} {listed : Array Bool} {a : Act} {w : World} (ho : ops[i]? = some o) (hr : Region.ready md ops listed = [i])
    (h : ∀ K' : Act → World → Prop, Shut (∀ a w, ((i ≠ k → S w) ∧ wpAnyU P md ops Q S k fuel (listed.setIfInBounds i true) a w) → K' a w) → if Region.wanted o (yielded ops a.tmps) = true then Oper.wp P o a w K' Q else K' (a.put o.dst undef) w) : wpAnyU P md ops Q S k (fuel + 1) listed a w := by
  refine ⟨fun h0 => (by rw [hr] at h0; cases h0), fun j hj => ?_⟩
  rw [hr] at hj
  have : j = i := by simpa using hj
  subst this
  exact wpOp_step ho (fun K' hK => h K' (fun a w hS => hK a w hS))

theorem wpAnyU_done {listed : Array Bool} {a : Act} {w : World} (hr : Region.ready md ops listed = []) (h : Q .normal a w) :
    ∀ fuel, wpAnyU P md ops Q S k fuel listed a w
  | 0 => ⟨hr, h⟩
  | _ + 1 => ⟨fun _ => h, by rw [hr]; simp⟩

theorem wp_region_U (S : World → Prop) (k : Nat) {id : Nat} {a : Act} {w : World} (hm : P.follows .mixedOrders = true) (hS : S w.drew)
    (h : S w.drew → wpAnyU P .any ops Q S k ops.size (Array.replicate ops.size false) a w.drew) : (Code.region id ops true).wp P Q a w :=
  wp_region_any hm (wpAny_of_U _ _ _ _ (h hS))

end
end Go.Proofs.Yteehgcbjmdideaa

/- 'Costs' of package spread: the least prices along edges, and by which arc each came. -/
namespace Go.Proofs.Yteehgcbjmdideaa
open Go.RowKit
attribute [local go_sem ↓] Go.wp_at_zero Go.wp_at_succ

/-- the edge of an arc, if its ends are so -/
def edgOf (pu pv : ArcD → Int) (a : ArcD) : Edg := ⟨(pu a).toNat, (pv a).toNat, a.wt⟩

/-- what prices there are, in memory -/
def muW (w : World) (g n : Nat) : Nat := ((List.range n).map fun i => muI (intOf ((w.cell? ⟨g, i, none⟩).getD (.int .i64 0)))).sum
theorem muW_eq {w : World} {g n : Nat} {c : List Int} (h : NumsAt w g n c) : muW w g n = muL c := by
  unfold muW muL
  congr 1
  apply List.ext_getElem
  · simp [h.len]
  · intro i h1 h2
    have hi : i < n := by simpa using h1
    have hl := h.len
    simp [h.cell i hi, intOf, gI, List.getD, show i < c.length by omega]

/-- the world of the search -/
structure CW (w wr : World) (gc gy n : Nat) (E : List Edg) (b c y : List Int) : Prop where
  rc : NumsAt wr gc n c
  ry : NumsAt wr gy n y
  ne : gc ≠ gy
  lc : w.heap.size ≤ gc
  ly : w.heap.size ≤ gy
  bel : Below w.heap.size w wr
  inv : Inv E b c y

theorem CW.below {w wr wx : World} {gc gy n : Nat} {E : List Edg} {b c y : List Int} (h : CW w wr gc gy n E b c y) (hb : Below wr.heap.size wr wx) : CW w wx gc gy n E b c y :=
  ⟨h.rc.below hb, h.ry.below hb, h.ne, h.lc, h.ly, bel_on h.bel hb, h.inv⟩

theorem NumsAt.of_row {w : World} {B e g n cap : Nat} {xs : List Int} (h : w.ownsRow B e 1 (.slice (some ⟨g, 0, none⟩) n cap) n (xs.map (Value.int .i64))) : NumsAt w g n xs ∧ B ≤ g := by
  obtain ⟨hl, h⟩ := h
  rcases h with ⟨h, _⟩ | ⟨g', cap', cur, h0, hB, hh, h1, h2, h3, h4⟩
  · cases h
  · injection h0 with h5 h6 h7
    injection h5 with h5
    injection h5 with h5
    subst h5
    have hxl : xs.length = n := by simpa using hl
    refine ⟨⟨hxl, fun i hi => ?_, fun i => Go.Joins.unfrozen_of_block hh i, heap_lt hh⟩, hB⟩
    have : (cur.toList.take (n * 1))[i]? = some (.int .i64 (gI xs i)) := by
      rw [h4]; simp [gI, List.getD, show i < xs.length by omega]
    rw [List.getElem?_take] at this
    simp only [Nat.mul_one, hi, if_true, Array.getElem?_toList] at this
    simp [World.cell?, hh, this]

theorem rep_row {w w1 : World} {n t : Nat} {o : Obj} (h : w1.heap[(w.alloc o).heap.size]? = some (.cells (rowR (-1) n n).toArray t (0, 0))) : NumsAt w1 (w.heap.size + 1) n (List.replicate n (-1)) := by
  have h1 := NumsAt.of_block (only_row h)
  simpa using h1

/-- what 'Costs' answers -/
def CostsRes (w : World) (n : Nat) (E : List Edg) (b : List Int) (e : Ending) (w' : World) : Prop :=
  ∃ gc gy c y cc cy, e = .returned (.tuple #[.slice (some ⟨gc, 0, none⟩) n cc, .slice (some ⟨gy, 0, none⟩) n cy]) ∧ CW w w' gc gy n E b c y ∧ Fix E c

def boolN : Value → Nat
  | .bool true => 1
  | _ => 0

set_option maxHeartbeats 1000000 in
set_option maxRecDepth 100000 in
theorem costs_some (pu pv : ArcD → Int) (F : Nat) (hG : ∀ args w, (callFunc F args).run Try.prog w = .ok (.enter F args) w) (hF : ∀ (a : ArcD) (w : World), Calls Try.prog F #[.agg #[.int .i64 a.src, .int .i64 a.inp, .int .i64 a.out, .int .i64 a.dst, .int .i64 a.wt]] w fun e w' => e = .returned (.tuple #[.int .i64 (pu a), .int .i64 (pv a)]) ∧ Below w.heap.size w w')
    (b : List Int) (gb ob cb n : Nat) (aa : Option Addr) (m ac : Nat) (ars : List ArcD) (w : World) (hb : IntsAt w gb ob n b) (ha : ASlice w (.slice aa m ac) ars) (hal : ars.length = m) (hm : m ≤ 3000) (hn1 : 1 ≤ n) (hn : n ≤ 200)
    (hb0 : ∀ v, gI b v = -1 ∨ 0 ≤ gI b v) (hb1 : ∀ v, gI b v ≤ 1000000000)
    (hok : ∀ a ∈ ars, (0 ≤ pu a ∧ pu a < n) ∧ (0 ≤ pv a ∧ pv a < n) ∧ (0 ≤ a.wt ∧ a.wt ≤ 1000000000)) :
    Calls Try.prog 82 #[.slice (some ⟨gb, ob, none⟩) n cb, .slice aa m ac, .func (.func F) #[] #[]] w fun e w' =>
      CostsRes w n (ars.map (edgOf pu pv)) b e w' := by
  have HOK : Hid (∀ a ∈ ars, (0 ≤ pu a ∧ pu a < n) ∧ (0 ≤ pv a ∧ pv a < n) ∧ (0 ≤ a.wt ∧ a.wt ≤ 1000000000)) := hok
  have HAL : Hid (ars.length = m) := hal
  have hbl := hb.len
  have hcl := Try.slices_Clone_int gb ob n cb b w (by omega) (by omega) (fun j hj => hb.cell j (by omega))
  clear hok hal
  go_enter Try.func82, Try.ntmps82
  go_wp2_with (first | (go_at_call 86; refine hcl.mono ?_; rintro e w1 ⟨v1, rfl, hrow, _, hb1'⟩; obtain ⟨gc, cc, rfl⟩ := Go.Joins.ownsRow_form hrow (by omega)) | (go_at_call 118; refine (repeat_any (-1) w1.heap.size 0 1 n _ (new_cell _ _ _ _ _ _ rfl rfl) hn1 hn).mono ?_; rintro e w2 ⟨rfl, hG0, hb2⟩))
  have hW : CW w w2 gc (w1.heap.size + 1) n (ars.map (edgOf pu pv)) b b (List.replicate n (-1)) := by
    obtain ⟨r1, r2⟩ := NumsAt.of_row hrow
    rw [List.take_of_length_le (by omega)] at r1
    have r1l := r1.lt
    have h12 := bel_on (bel_up (bel_self w1) (.cells #[.int .i64 (-1)] 3)) hb2
    exact ⟨r1.below h12, rep_row hG0, by omega, r2, by have := hb1'.size; omega, bel_on hb1' h12, by have := Inv.start (E := ars.map (edgOf pu pv)) hb0 hb1; rw [hbl] at this; exact this⟩
  have HB0 : Hid (∀ v, gI b v = -1 ∨ 0 ≤ gI b v) := hb0
  have HB1 : Hid (∀ v, gI b v ≤ 1000000000) := hb1
  obtain ⟨gy, hgy⟩ : ∃ gy, gy = w1.heap.size + 1 := ⟨_, rfl⟩
  rw [← hgy] at hW
  have h12 : w1.heap.size + 1 ≤ w2.heap.size := by have := hb2.size; simp at this; omega
  clear hcl hG0 hrow hb0 hb1
  rw [← hgy]
  clear hgy h12 hb1' hb2
  go_loopw [8] (fun t8 wr => ∃ f : Bool, t8 = .bool f ∧ ∃ c y, CW w wr gc gy n (ars.map (edgOf pu pv)) b c y ∧ (f = false → Fix (ars.map (edgOf pu pv)) c)) (fun t8 wr => 2 * muW wr gc n + boolN t8)
  case atStart => exact ⟨true, rfl, b, _, hW, fun h => by cases h⟩
  case round =>
    clear hW
    obtain ⟨f, rfl, c, y, hW, hfix⟩ := hrel
    cases f with
    | false =>
      have HF : Hid (Fix (ars.map (edgOf pu pv)) c) := hfix rfl
      go_wp2
      go_ret2
      exact ⟨gc, gy, c, y, cc, n, rfl, hW, HF.out⟩
    | true =>
      clear hfix
      have HMU : Hid (muW wr gc n = muL c) := muW_eq hW.rc
      go_wp2
      go_loopw [8, 23] (fun t8 t23 wr => ∃ (f : Bool) (k : Nat), t8 = .bool f ∧ k ≤ m ∧ t23 = .int .i64 k ∧ ∃ c' y', CW w wr gc gy n (ars.map (edgOf pu pv)) b c' y' ∧ ((f = false ∧ c' = c ∧ ∀ j, j < k → ∀ e, (ars.map (edgOf pu pv))[j]? = some e → betterB (plusC (gI c e.u) e.w) (gI c e.v) = false) ∨ (f = true ∧ muL c' < muL c))) (fun _ t23 _ => m - (intOf t23).toNat)
      case atStart => exact ⟨false, 0, rfl, Nat.zero_le _, rfl, c, y, hW, Or.inl ⟨rfl, rfl, fun j hj => absurd hj (Nat.not_lt_zero _)⟩⟩
      case round =>
        obtain ⟨f, k, rfl, hk, rfl, c', y', hW', hrel⟩ := hrel
        have HR : Hid ((f = false ∧ c' = c ∧ ∀ j, j < k → ∀ e, (ars.map (edgOf pu pv))[j]? = some e → betterB (plusC (gI c e.u) e.w) (gI c e.v) = false) ∨ (f = true ∧ muL c' < muL c)) := hrel
        clear hrel hW
        by_cases hlt : k < m
        · obtain ⟨ab, aoff, rfl, hx⟩ := (ha.below hW'.bel).some (by omega)
          obtain ⟨a, hak⟩ : ∃ a, a = ars.getD k a0 := ⟨_, rfl⟩
          have hkl : k < ars.length := by have := HAL.out; omega
          have hmem : a ∈ ars := by rw [hak]; simp [List.getD, hkl]
          obtain ⟨⟨q1, q2⟩, ⟨q3, q4⟩, q5, q6⟩ := HOK.out a hmem
          obtain ⟨s, hs⟩ : ∃ s : Nat, pu a = s := ⟨(pu a).toNat, by omega⟩
          obtain ⟨t, ht⟩ : ∃ t : Nat, pv a = t := ⟨(pv a).toNat, by omega⟩
          have hsN : s < n := by omega
          have htN : t < n := by omega
          have c0 := hx.c0 k hlt
          have c1 := hx.c1 k hlt
          have c2 := hx.c2 k hlt
          have c3 := hx.c3 k hlt
          have c4 := hx.c4 k hlt
          rw [← hak] at c0 c1 c2 c3 c4
          have HAK : Hid ((ars.map (edgOf pu pv))[k]? = some ⟨s, t, a.wt⟩) := by
            show (ars.map (edgOf pu pv))[k]? = some ⟨s, t, a.wt⟩
            have e1 : ars[k]? = some a := by rw [hak]; simp [List.getD, hkl]
            rw [List.getElem?_map, e1]
            simp [edgOf, hs, ht]
          clear hak hmem hkl hx
          have hlti : (k : Int) < m := by omega
          have hcall := hF a
          rw [hs, ht] at hcall
          clear hs ht q1 q2 q3 q4
          have hlo := hW'.inv.lo s
          have hhi := hW'.inv.top (by omega) s
          obtain ⟨p, hp⟩ : ∃ p, p = plusC (gI c' s) a.wt := ⟨_, rfl⟩
          have hsum := sum_any (gI c' s) a.wt
          rw [← hp] at hsum
          have hsi : (s : Int) < n := by omega
          have hti : (t : Int) < n := by omega
          have HP : Hid (p = plusC (gI c' s) a.wt) := hp
          clear hp
          cases hbt : betterB p (gI c' t) with
          | false =>
            have hless := lessP_any p (gI c' t)
            rw [hbt] at hless
            have HBT : Hid (betterB p (gI c' t) = false) := hbt
            clear hbt
            go_wp2_with (first | (refine (hcall _).mono ?_; rintro e w3 ⟨rfl, hb3⟩; have hW3 := hW'.below (bel_on (bel_up (bel_self wr) _) hb3); have x0 := hW3.rc.cell s hsN; have x1 := hW3.rc.cell t htN; have x2 := hW3.ry.cell t htN; have f1 := hW3.rc.frz t; have f2 := hW3.ry.frz t; have x4 := bel_c hb3 (new_cell wr #[.int .i64 a.src, .int .i64 a.inp, .int .i64 a.out, .int .i64 a.dst, .int .i64 a.wt] 63 wr.heap.size 4 (.int .i64 a.wt) rfl rfl); clear c0 c1 c2 c3 c4 hb3))
            go_quiet (first | (go_at_call 119; refine Calls.quiet_of_same (hsum _ hlo (by omega) (by omega) (by omega))))
            go_wp2_with (first | (go_at_call 120; refine (hless _).mono ?_; rintro e w4 ⟨rfl, rfl⟩))
            have hW4 := hW3.below (bel_drewN (bel_self w3) nq)
            go_roundw
            case rel =>
              refine ⟨f, k + 1, rfl, by omega, by go_num, c', y', hW4, ?_⟩
              rcases HR.out with ⟨h1, h2, h3⟩ | h
              · refine Or.inl ⟨h1, h2, fun j hj e he => ?_⟩
                by_cases hjk : j = k
                · subst hjk
                  rw [HAK.out] at he
                  injection he with he
                  subst he
                  have := HBT.out
                  rw [HP.out, h2] at this
                  exact this
                · exact h3 j (by omega) e he
              · exact Or.inr h
            case measure => simp [intOf]; omega
          | true =>
            have hless := lessP_any p (gI c' t)
            rw [hbt] at hless
            have HBT : Hid (betterB p (gI c' t) = true) := hbt
            clear hbt
            go_wp2_with (first | (refine (hcall _).mono ?_; rintro e w3 ⟨rfl, hb3⟩; have hW3 := hW'.below (bel_on (bel_up (bel_self wr) _) hb3); have x0 := hW3.rc.cell s hsN; have x1 := hW3.rc.cell t htN; have x2 := hW3.ry.cell t htN; have f1 := hW3.rc.frz t; have f2 := hW3.ry.frz t; have x4 := bel_c hb3 (new_cell wr #[.int .i64 a.src, .int .i64 a.inp, .int .i64 a.out, .int .i64 a.dst, .int .i64 a.wt] 63 wr.heap.size 4 (.int .i64 a.wt) rfl rfl); clear c0 c1 c2 c3 c4 hb3))
            go_quiet (first | (go_at_call 119; refine Calls.quiet_of_same (hsum _ hlo (by omega) (by omega) (by omega))))
            have hW4 := hW3.below (bel_drewN (bel_self w3) nq)
            have hne := hW4.ne
            have z1 := hW4.rc.cell t htN
            have z2 := (hW4.ry.other (k := gc) (i := t) (v := .int .i64 p) (Ne.symm hne)).cell t htN
            have z3 := (hW4.ry.other (k := gc) (i := t) (v := .int .i64 p) (Ne.symm hne)).frz t
            have z4 := hW4.rc.frz t
            go_wp2_with (first | (go_at_call 120; refine (hless _).mono ?_; rintro e w4 ⟨rfl, rfl⟩))
            go_roundw
            case rel =>
              have hst := hW4.inv.step (j := k) (by omega) HAK.out (by rw [hbl]; exact htN) q5 q6 (by show betterB (plusC (gI c' s) a.wt) (gI c' t) = true; rw [← HP.out]; exact HBT.out)
              change Inv _ _ (c'.set t (plusC (gI c' s) a.wt)) (y'.set t (k : Int)) ∧ muL (c'.set t (plusC (gI c' s) a.wt)) < muL c' at hst
              rw [← HP.out] at hst
              refine ⟨true, k + 1, rfl, by omega, by go_num, c'.set t p, y'.set t (k : Int), ⟨(hW4.rc.set t p htN).other hne, (hW4.ry.other (Ne.symm hne)).set t k htN, hne, hW4.lc, hW4.ly, (hW4.bel.setCell (p := ⟨gc, t, none⟩) hW4.lc _).setCell (p := ⟨gy, t, none⟩) hW4.ly _, hst.1⟩, Or.inr ⟨rfl, ?_⟩⟩
              have hlt2 := hst.2
              rcases HR.out with ⟨_, h2, _⟩ | ⟨_, h⟩
              · rw [← h2]; exact hlt2
              · omega
            case measure => simp [intOf]; omega
        · have hkm : k = m := by omega
          subst hkm
          go_wp2
          go_roundw
          case rel =>
            refine ⟨f, rfl, c', y', hW', fun hf => ?_⟩
            rcases HR.out with ⟨_, h2, h3⟩ | ⟨h, _⟩
            · subst h2
              refine fix_of _ _ (fun e he => ?_) hW'.inv.lo (fun e he => ?_)
              · obtain ⟨a, ha1, rfl⟩ := List.mem_map.1 he
                exact (HOK.out a ha1).2.2.1
              · obtain ⟨j, hj, hje⟩ := List.getElem_of_mem he
                exact h3 j (by have := HAL.out; simp at hj; omega) e (by rw [List.getElem?_eq_getElem hj, hje])
            · rw [hf] at h; cases h
          case measure =>
            rw [muW_eq hW'.rc, HMU.out]
            rcases HR.out with ⟨h1, h2, _⟩ | ⟨h, h2⟩
            · rw [h1, h2]; simp [boolN]
            · rw [h]; simp [boolN]; omega

end Go.Proofs.Yteehgcbjmdideaa

/- The text of a transducer, as bytes: one line a piece; how long it is at most. -/
namespace Go.Proofs.Yteehgcbjmdideaa

def bStates : List UInt8 := [115, 116, 97, 116, 101, 115]
def bStart : List UInt8 := [115, 116, 97, 114, 116]
def bFinal : List UInt8 := [102, 105, 110, 97, 108]

/-- words with a blank between, a line feed behind -/
def lineB (l : List (List UInt8)) : List UInt8 := Lib.join l [32] ++ [10]

def headB (st sta : Int) : List UInt8 := lineB [bStates, Lib.itoa st, bStart, Lib.itoa sta]
def finalB (k : Nat) (x : Int) : List UInt8 := lineB [bFinal, Lib.itoa k, Lib.itoa x]
def arcB (a : ArcD) : List UInt8 := lineB [Lib.itoa a.src, Lib.itoa a.inp, Lib.itoa a.out, Lib.itoa a.dst, Lib.itoa a.wt]

def finalsB (xs : List Int) (k : Nat) : List UInt8 := (List.range k).flatMap fun i => if xs.getD i 0 = -1 then [] else finalB i (xs.getD i 0)
def arcsB (l : List ArcD) (k : Nat) : List UInt8 := (List.range k).flatMap fun i => arcB (l.getD i a0)

def printD (f : FstD) : List UInt8 := headB f.states f.start ++ finalsB f.final f.final.length ++ arcsB f.arcs f.arcs.length

theorem finalsB_hit (xs : List Int) (k : Nat) (x : Int) (hx : x = xs.getD k 0) (h : x ≠ -1) : finalsB xs (k + 1) = finalsB xs k ++ finalB k x := by
  subst hx
  simp only [finalsB, List.range_succ, List.flatMap_append, List.flatMap_cons, List.flatMap_nil, List.append_nil]
  rw [if_neg h]
theorem finalsB_miss (xs : List Int) (k : Nat) (h : xs.getD k 0 = -1) : finalsB xs (k + 1) = finalsB xs k := by
  simp only [finalsB, List.range_succ, List.flatMap_append, List.flatMap_cons, List.flatMap_nil, List.append_nil]
  rw [if_pos h, List.append_nil]
theorem arcsB_succ (l : List ArcD) (k : Nat) (a : ArcD) (ha : a = l.getD k a0) : arcsB l (k + 1) = arcsB l k ++ arcB a := by
  subst ha
  simp only [arcsB, List.range_succ, List.flatMap_append, List.flatMap_cons, List.flatMap_nil, List.append_nil]

/-- numbers of int's kind -/
def in64 (n : Int) : Prop := -9223372036854775808 ≤ n ∧ n ≤ 9223372036854775807
theorem in64_z : in64 0 := ⟨by decide, by decide⟩

theorem itoa_le (n : Int) (h : in64 n) : (Lib.itoa n).length ≤ 21 := Lib.itoa_length_le n h.1 h.2

theorem headB_le (st sta : Int) (h1 : in64 st) (h2 : in64 sta) : (headB st sta).length ≤ 100 := by
  have a := itoa_le st h1
  have b := itoa_le sta h2
  simp [headB, lineB, Lib.join_cons, Lib.joinTail, bStates, bStart]; omega
theorem finalB_le (k : Nat) (x : Int) (h1 : in64 k) (h2 : in64 x) : (finalB k x).length ≤ 100 := by
  have a := itoa_le k h1
  have b := itoa_le x h2
  simp [finalB, lineB, Lib.join_cons, Lib.joinTail, bFinal]; omega
theorem arcB_le (a : ArcD) (h0 : in64 a.src) (h1 : in64 a.inp) (h2 : in64 a.out) (h3 : in64 a.dst) (h4 : in64 a.wt) : (arcB a).length ≤ 120 := by
  have e0 := itoa_le _ h0
  have e1 := itoa_le _ h1
  have e2 := itoa_le _ h2
  have e3 := itoa_le _ h3
  have e4 := itoa_le _ h4
  simp [arcB, lineB, Lib.join_cons, Lib.joinTail]; omega

theorem finalsB_le (xs : List Int) (k : Nat) (hk : k ≤ 1000) (h : ∀ x ∈ xs, in64 x) (h0 : in64 0) : (finalsB xs k).length ≤ 100 * k := by
  induction k with
  | zero => simp [finalsB]
  | succ k ih =>
    have ih := ih (by omega)
    by_cases e : xs.getD k 0 = -1
    · rw [finalsB_miss xs k e]; omega
    · have hx : in64 (xs.getD k 0) := by
        by_cases hk : k < xs.length
        · exact h _ (by simp [List.getD, hk])
        · simp [List.getD, hk, h0]
      have := finalB_le k _ ⟨by omega, by omega⟩ hx
      rw [finalsB_hit xs k _ rfl e, List.length_append]; omega

def arcIn64 (a : ArcD) : Prop := in64 a.src ∧ in64 a.inp ∧ in64 a.out ∧ in64 a.dst ∧ in64 a.wt

theorem arcsB_le (l : List ArcD) (k : Nat) (h : ∀ a ∈ l, arcIn64 a) : (arcsB l k).length ≤ 120 * k := by
  induction k with
  | zero => simp [arcsB]
  | succ k ih =>
    have hx : arcIn64 (l.getD k a0) := by
      by_cases hk : k < l.length
      · exact h _ (by simp [List.getD, hk])
      · simp only [List.getD, List.getElem?_eq_none, Option.getD_none, Nat.not_lt.1 hk]
        exact ⟨in64_z, in64_z, in64_z, in64_z, in64_z⟩
    have := arcB_le _ hx.1 hx.2.1 hx.2.2.1 hx.2.2.2.1 hx.2.2.2.2
    rw [arcsB_succ l k _ rfl, List.length_append]; omega

/-- an arc that may stand in a transducer of so many states -/
structure ArcOk (st : Int) (a : ArcD) : Prop where
  src : inB a.src 0 (st - 1) = true
  dst : inB a.dst 0 (st - 1) = true
  inp : inB a.inp 0 9 = true
  out : inB a.out 0 9 = true
  wt : inB a.wt 0 1000000000 = true

theorem arcErr_ok (st : Int) (p : Option ArcD) (a : ArcD) (h : arcErr st p a = 0) : ArcOk st a := by
  unfold arcErr at h
  cases h0 : inB a.src 0 (st - 1) <;> cases h1 : inB a.dst 0 (st - 1) <;> simp [h0, h1] at h
  cases h2 : inB a.inp 0 9 <;> cases h3 : inB a.out 0 9 <;> cases h4 : inB a.wt 0 1000000000 <;> simp [h2, h3, h4] at h
  exact ⟨h0, h1, h2, h3, h4⟩

theorem arcsErr_ok (st : Int) (l : List ArcD) (p : Option ArcD) (h : arcsErr st p l = 0) : ∀ a ∈ l, ArcOk st a := by
  induction l generalizing p with
  | nil => intro a ha; cases ha
  | cons b l ih =>
    rw [arcsErr] at h
    by_cases e : arcErr st p b = 0
    · rw [if_pos e] at h
      intro a ha
      rcases List.mem_cons.1 ha with rfl | ha
      · exact arcErr_ok _ _ _ e
      · exact ih _ h a ha
    · rw [if_neg e] at h; exact absurd h e

structure CheckOk (f : FstD) : Prop where
  states : inB f.states 1 200 = true
  start : inB f.start 0 (f.states - 1) = true
  len : (f.final.length : Int) = f.states
  fin : ∀ x ∈ f.final, finB x = false
  many : f.arcs.length ≤ 3000
  err : arcsErr f.states none f.arcs = 0
  arcs : ∀ a ∈ f.arcs, ArcOk f.states a

theorem check_ok (f : FstD) (h : checkD f = 0) : CheckOk f := by
  unfold checkD at h
  cases h0 : inB f.states 1 200 <;> simp only [h0, Bool.not_false, Bool.not_true, if_true, if_false, Bool.false_eq_true] at h
  · exact absurd h (by decide)
  cases h1 : inB f.start 0 (f.states - 1) <;> simp only [h1, Bool.not_false, Bool.not_true, if_true, if_false, Bool.false_eq_true] at h
  · exact absurd h (by decide)
  by_cases h2 : (f.final.length : Int) = f.states
  · rw [if_neg (by simpa using h2)] at h
    cases h3 : f.final.any finB <;> simp only [h3, if_true, if_false, Bool.false_eq_true] at h
    · by_cases h4 : 3000 < f.arcs.length
      · rw [if_pos h4] at h; exact absurd h (by decide)
      · rw [if_neg h4] at h
        exact ⟨h0, h1, h2, by simpa using h3, by omega, h, arcsErr_ok _ _ _ h⟩
    · exact absurd h (by decide)
  · rw [if_pos (by simpa using h2)] at h; exact absurd h (by decide)

theorem finB_out {x : Int} (h : finB x = false) : (x = -1 ∨ (0 ≤ x ∧ x ≤ 1000000000)) ∧ in64 x := by
  unfold finB inB at h
  by_cases e : x = -1
  · subst e; exact ⟨Or.inl rfl, by decide, by decide⟩
  · have : (x != -1) = true := by simpa using e
    rw [this] at h
    simp at h
    exact ⟨Or.inr h, ⟨by omega, by omega⟩⟩

theorem arcOk_in64 {st : Int} {a : ArcD} (h : ArcOk st a) (h1 : 1 ≤ st) (h2 : st ≤ 200) : arcIn64 a := by
  have e0 := h.src
  have e1 := h.dst
  have e2 := h.inp
  have e3 := h.out
  have e4 := h.wt
  unfold inB at e0 e1 e2 e3 e4
  simp at e0 e1 e2 e3 e4
  refine ⟨⟨?_, ?_⟩, ⟨?_, ?_⟩, ⟨?_, ?_⟩, ⟨?_, ?_⟩, ⟨?_, ?_⟩⟩ <;> omega

end Go.Proofs.Yteehgcbjmdideaa

/- What is pushed: ends and arcs, from what it costs to come to an end. -/
namespace Go.Proofs.Yteehgcbjmdideaa

def pf (t x : Int) : Int := if x = -1 then x else x - t
def pushF (to fin : List Int) (k : Nat) : List Int := (List.range k).map fun i => pf (gI to i) (fin.getD i 0)
theorem pushF_succ (to fin : List Int) (k : Nat) : pushF to fin (k + 1) = pushF to fin k ++ [pf (gI to k) (fin.getD k 0)] := by simp [pushF, List.range_succ]
theorem pushF_len (to fin : List Int) (k : Nat) : (pushF to fin k).length = k := by simp [pushF]

/-- does a way lead on from both ends? -/
def stayA (to : List Int) (a : ArcD) : Bool := (gI to a.src.toNat != -1) && (gI to a.dst.toNat != -1)
def pushArc (to : List Int) (a : ArcD) : ArcD := ⟨a.src, a.inp, a.out, a.dst, a.wt + (gI to a.dst.toNat - gI to a.src.toNat)⟩
def pushA (to : List Int) (l : List ArcD) : List ArcD := (l.filter (stayA to)).map (pushArc to)
theorem pushA_len (to : List Int) (l : List ArcD) : (pushA to l).length ≤ l.length := by
  unfold pushA
  rw [List.length_map]
  exact List.length_filter_le _ _
theorem pushA_take (to : List Int) (l : List ArcD) (k : Nat) (a : ArcD) (hk : k < l.length) (ha : a = l.getD k a0) : pushA to (l.take (k + 1)) = pushA to (l.take k) ++ if stayA to a = true then [pushArc to a] else [] := by
  have h : l[k]? = some a := by rw [ha]; simp [List.getD, hk]
  rw [List.take_add_one, h]
  unfold pushA
  rw [List.filter_append, List.map_append]
  congr 1
  cases hs : stayA to a <;> simp [hs]

def greatA (l : List ArcD) : Bool := l.any fun a => decide (1000000000 < a.wt)

/-- what Push answers, if it costs so much to come to an end -/
def pushD (f : FstD) (to : List Int) : FstD × Int × Int :=
  if gI to f.start.toNat = -1 then (⟨f.states, f.start, f.final, []⟩, -1, 0)
  else if greatA (pushA to f.arcs) = true then (⟨0, 0, [], []⟩, 0, 2)
  else (⟨f.states, f.start, pushF to f.final f.final.length, pushA to f.arcs⟩, gI to f.start.toNat, 0)

end Go.Proofs.Yteehgcbjmdideaa

/- What it costs from the start to each state, and from each state to an end: the document's rounds. -/
namespace Go.Proofs.Yteehgcbjmdideaa

def edF (f : FstD) : List Edg := f.arcs.map (edgOf ArcD.src ArcD.dst)
def edT (f : FstD) : List Edg := f.arcs.map (edgOf ArcD.dst ArcD.src)
def fromD (f : FstD) : List Int := rounds (edF f) (begL f.start f.states.toNat) f.states.toNat
def toD (f : FstD) : List Int := rounds (edT f).reverse f.final f.states.toNat

theorem fix_rounds {E L : List Edg} {b c y : List Int} (hL : ∀ e, e ∈ L ↔ e ∈ E) (hE : ∀ e ∈ E, e.v < b.length ∧ 0 ≤ e.w) (hb : ∀ v, gI b v = -1 ∨ 0 ≤ gI b v) (hi : Inv E b c y) (hf : Fix E c) : c = rounds L b b.length :=
  least_same (by rw [hi.len, rounds_len]) (fix_least (fun e he => (hE e he).2) hi.ach hi.le hf) (rounds_are L hL hE hb)

/-- a transducer that is right, with its numbers -/
structure OkF (f : FstD) (N s0 : Nat) : Prop where
  st : f.states = N
  sta : f.start = s0
  n1 : 1 ≤ N
  n2 : N ≤ 200
  s : s0 < N
  len : f.final.length = N
  fin : ∀ x ∈ f.final, x = -1 ∨ (0 ≤ x ∧ x ≤ 1000000000)
  many : f.arcs.length ≤ 3000
  arcs : ∀ a ∈ f.arcs, (0 ≤ a.src ∧ a.src < N) ∧ (0 ≤ a.dst ∧ a.dst < N) ∧ (0 ≤ a.wt ∧ a.wt ≤ 1000000000)

theorem okF (f : FstD) (h : checkD f = 0) : ∃ N s0, OkF f N s0 := by
  have k := check_ok f h
  have k0 := k.states
  have k1 := k.start
  have k2 := k.len
  simp [inB] at k0 k1
  refine ⟨f.states.toNat, f.start.toNat, by omega, by omega, by omega, by omega, by omega, by omega, fun x hx => (finB_out (k.fin x hx)).1, k.many, fun a ha => ?_⟩
  have q := k.arcs a ha
  have e0 := q.src
  have e1 := q.dst
  have e4 := q.wt
  simp [inB] at e0 e1 e4
  refine ⟨⟨?_, ?_⟩, ⟨?_, ?_⟩, ?_, ?_⟩ <;> omega

theorem beg_set (N s0 : Nat) : (List.replicate N (-1 : Int)).set s0 0 = begL (s0 : Int) N := by
  apply List.ext_getElem
  · simp [begL]
  · intro i h1 h2
    simp only [List.getElem_set, List.getElem_replicate, begL, List.getElem_map, List.getElem_range]
    by_cases e : s0 = i
    · subst e; simp
    · have : ¬ (i : Int) = s0 := by omega
      simp [e, this]

theorem gI_of (xs : List Int) (p : Int → Prop) (h : ∀ x ∈ xs, p x) (h0 : p (-1)) (v : Nat) : p (gI xs v) := by
  unfold gI
  by_cases hv : v < xs.length
  · simp only [List.getD, List.getElem?_eq_getElem hv, Option.getD_some]
    exact h _ (List.getElem_mem hv)
  · simp only [List.getD, List.getElem?_eq_none (Nat.not_lt.1 hv), Option.getD_none]
    exact h0

theorem begL_mem (s : Int) (N : Nat) : ∀ x ∈ begL s N, x = -1 ∨ x = 0 := by
  intro x hx
  unfold begL at hx
  obtain ⟨i, _, rfl⟩ := List.mem_map.1 hx
  split
  · exact Or.inr rfl
  · exact Or.inl rfl

section
variable {f : FstD} {N s0 : Nat}
theorem OkF.bF (_h : OkF f N s0) : (∀ v, gI (begL (s0 : Int) N) v = -1 ∨ 0 ≤ gI (begL (s0 : Int) N) v) ∧ ∀ v, gI (begL (s0 : Int) N) v ≤ 1000000000 :=
  ⟨gI_of _ (fun x => x = -1 ∨ 0 ≤ x) (fun x hx => by rcases begL_mem _ _ x hx with h | h <;> omega) (Or.inl rfl), gI_of _ (fun x => x ≤ 1000000000) (fun x hx => by rcases begL_mem _ _ x hx with h | h <;> omega) (by decide)⟩
theorem OkF.bT (h : OkF f N s0) : (∀ v, gI f.final v = -1 ∨ 0 ≤ gI f.final v) ∧ ∀ v, gI f.final v ≤ 1000000000 :=
  ⟨gI_of _ (fun x => x = -1 ∨ 0 ≤ x) (fun x hx => by rcases h.fin x hx with h | h <;> omega) (Or.inl rfl), gI_of _ (fun x => x ≤ 1000000000) (fun x hx => by rcases h.fin x hx with h | h <;> omega) (by decide)⟩
theorem OkF.eF (h : OkF f N s0) : ∀ e ∈ edF f, e.v < N ∧ 0 ≤ e.w := by
  intro e he
  obtain ⟨a, ha, rfl⟩ := List.mem_map.1 he
  have := h.arcs a ha
  exact ⟨by show a.dst.toNat < N; omega, this.2.2.1⟩
theorem OkF.eT (h : OkF f N s0) : ∀ e ∈ edT f, e.v < N ∧ 0 ≤ e.w := by
  intro e he
  obtain ⟨a, ha, rfl⟩ := List.mem_map.1 he
  have := h.arcs a ha
  exact ⟨by show a.src.toNat < N; omega, this.2.2.1⟩
theorem OkF.fromD (h : OkF f N s0) {c y : List Int} (hi : Inv (edF f) (begL (s0 : Int) N) c y) (hf : Fix (edF f) c) : c = fromD f := by
  have hb : (begL (s0 : Int) N).length = N := begL_len _ _
  have := fix_rounds (L := edF f) (fun e => Iff.rfl) (by rw [hb]; exact h.eF) h.bF.1 hi hf
  rw [this, hb]
  unfold Proofs.Yteehgcbjmdideaa.fromD
  rw [h.st, h.sta, Int.toNat_natCast]
theorem OkF.toD (h : OkF f N s0) {c y : List Int} (hi : Inv (edT f) f.final c y) (hf : Fix (edT f) c) : c = toD f := by
  have := fix_rounds (L := (edT f).reverse) (fun e => List.mem_reverse) (by rw [h.len]; exact h.eT) h.bT.1 hi hf
  rw [this, h.len]
  unfold Proofs.Yteehgcbjmdideaa.toD
  rw [h.st, Int.toNat_natCast]

theorem round_bounds (L : List Edg) (b : List Int) (hL : ∀ e ∈ L, e.v < b.length ∧ 0 ≤ e.w) (hb : ∀ v, gI b v = -1 ∨ 0 ≤ gI b v) (r : Nat) (v : Nat) : gI (rounds L b r) v = -1 ∨ 0 ≤ gI (rounds L b r) v := by
  have ha0 : Ach L b b := fun v => (hb v).imp id fun h => ⟨0, rfl, h⟩
  have hach : ∀ r, Ach L b (rounds L b r) := by
    intro r
    induction r with
    | zero => exact ha0
    | succ r ih => exact (relAll_round L (rounds L b r) (fun e he => he) (by simpa [rounds_len] using hL) ih).1
  exact (hach r v).imp id fun ⟨k, hk⟩ => hk.nonneg (fun e he => (hL e he).2)
end

end Go.Proofs.Yteehgcbjmdideaa
