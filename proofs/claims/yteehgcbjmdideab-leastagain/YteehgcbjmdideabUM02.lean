/- A region that draws its order and whose last operation,number k,waits for all the others: a load may be taken first where nobody but k writes its cell. What is held need not outlive k. -/
import Derived.OrdersHeld
import Derived.Deep.RegionHeld
import Derived.Deep.DrawnRows
import Derived.Test.YteehgcbjmdideabUM01
import Derived.Deep.AppendLies
import Derived.Deep.RegionHeld3
set_option maxRecDepth 100000
namespace Go.Proofs.Yteehgcbjmdideab
open Go
section
variable {P : Program} {ops : Array Oper} {Q : Exit -> Act -> World -> Prop} {md : Region.Mode} {S : World -> Prop} {k : Nat}
def wpAnyU (P : Program) (md : Region.Mode) (ops : Array Oper) (Q : Exit -> Act -> World -> Prop) (S : World -> Prop) (k : Nat) : Nat -> Array Bool -> Act -> World -> Prop
 | 0,listed,a,w => Region.ready md ops listed = [] /\ Q .normal a w
 | fuel + 1,listed,a,w =>
  (Region.ready md ops listed = [] -> Q .normal a w) /\
  ∀ i ∈ Region.ready md ops listed,wpOp P ops Q i (fun a' w' => (i ≠ k -> S w') /\ wpAnyU P md ops Q S k fuel (listed.setIfInBounds i true) a' w') a w
theorem wpAny_of_U : ∀ (fuel : Nat) (listed : Array Bool) (a : Act) (w : World),wpAnyU P md ops Q S k fuel listed a w -> wpAny P md ops Q fuel listed a w
 | 0,_,_,_,h => h
 | fuel + 1,_,_,_,h => ⟨h.1,fun i hi => wpOp_mono (fun a' w' h' => wpAny_of_U fuel _ a' w' h'.2) (h.2 i hi)⟩
theorem ready_not_on {listed : Array Bool} {i j : Nat} {oj : Oper} (hr : i ∈ Region.ready md ops listed) (hj : j ∈ Region.ready md ops listed) (hoj : ops[j]? = some oj) :
  ∀ e ∈ oj.after,Region.binds md e = true -> e.on ≠ i:=by
 obtain ⟨_,o,ho,hall⟩:=mem_ready.1 hj
 rw [hoj] at ho
 injection ho with ho
 subst ho
 have hun:=(mem_ready.1 hr).1
 rintro e he hb rfl
 have hl:=hall e he hb
 by_cases hs : e.on < listed.size
 ·simp only [Array.getD_eq_getD_getElem?,Array.getElem?_eq_getElem hs,Option.getD_some] at hun hl
  exact Bool.noConfusion (hun.symm.trans hl)
 ·simp only [Array.getD_eq_getD_getElem?,Array.getElem?_eq_none (Nat.le_of_not_lt hs),Option.getD_none] at hl
  cases hl
structure CanWait (P : Program) (md : Region.Mode) (ops : Array Oper) (Q : Exit -> Act -> World -> Prop) (S : World -> Prop) (k i : Nat) (oi : Oper) (v : Value) (fuel : Nat) (listed : Array Bool) (a : Act) (w : World) : Prop where
 up : i ∈ Region.ready md ops listed
 apart : ∀ j oj,ops[j]? = some oj -> j ≠ i -> listed.getD j true = false -> (∀ e ∈ oj.after,Region.binds md e = true -> e.on ≠ i) -> oi.apart ops oj = true
 val : YieldsIf P ops S oi v a
 holds : S w
 taken : wpAnyU P md ops Q S k fuel (listed.setIfInBounds i true) (a.put oi.dst v) w
section
variable {i : Nat} {oi : Oper} {v : Value}
theorem CanWait.other (hi : ops[i]? = some oi) (hsel : ∀ (j : Nat) (o : Oper) cs b,ops[j]? = some o -> o.op ≠ .select cs b)
  (hk : i ≠ k /\ ∀ ok,ops[k]? = some ok -> ∃ e ∈ ok.after,Region.binds md e = true /\ e.on = i)
  (hQ : ∀ c a w,Q (.panic c) (a.put oi.dst v) w -> Q (.panic c) a w) {fuel j : Nat} {listed : Array Bool} {a : Act} {w : World}
  (h : CanWait P md ops Q S k i oi v (fuel + 1) listed a w) (hj : j ∈ Region.ready md ops listed) (hne : j ≠ i) :
  wpOp P ops Q j (fun a' w' => (j ≠ k -> S w') /\ CanWait P md ops Q S k i oi v fuel (listed.setIfInBounds j true) a' w') a w:=by
 obtain ⟨hun,oj,hoj,_⟩:=mem_ready.1 hj
 have hno:=ready_not_on h.up hj hoj
 have hjk : j ≠ k:=by
  rintro rfl
  obtain ⟨e,he,hb,hon⟩:=hk.2 oj hoj
  exact hno e he hb hon
 have hstep:=h.taken.2 j (ready_mono hj hne)
 rw [Array.setIfInBounds_comm _ _ (Ne.symm hne)] at hstep
 refine wpOp_mono ?_ (wpOp_putIf hoj (h.apart j oj hoj hne hun hno) (hsel i oi · · hi) (hsel j oj · · hoj) hQ h.val hstep)
 rintro a' w' ⟨hval,hS,hrest⟩
 refine ⟨hS,ready_mono h.up (Ne.symm hne),fun m om hm hmi hml hmo => h.apart m om hm hmi ?_ hmo,hval,hS hjk,hrest⟩
 by_cases hjm : j = m
 ·exact hjm ▸ hun
 ·rwa [getD_set_ne true hjm] at hml
theorem CanWait.any (hi : ops[i]? = some oi) (hsel : ∀ (j : Nat) (o : Oper) cs b,ops[j]? = some o -> o.op ≠ .select cs b)
  (hk : i ≠ k /\ ∀ ok,ops[k]? = some ok -> ∃ e ∈ ok.after,Region.binds md e = true /\ e.on = i)
  (hQ : ∀ c a w,Q (.panic c) (a.put oi.dst v) w -> Q (.panic c) a w) (fuel : Nat) :
  ∀ {listed : Array Bool} {a : Act} {w : World},CanWait P md ops Q S k i oi v fuel listed a w -> wpAnyU P md ops Q S k (fuel + 1) listed a w:=by
 induction fuel with
 | zero =>
  intro listed a w h
  refine ⟨fun hnil => absurd h.up (by simp [hnil]),fun j hj => ?_⟩
  rcases Nat.decEq j i with hne | rfl
  ·exact absurd (ready_mono hj hne) (by simp [h.taken.1])
  ·exact h.val.wpOp hi h.holds ⟨fun _ => h.holds,h.taken⟩
 | succ fuel ih =>
  intro listed a w h
  refine ⟨fun hnil => absurd h.up (by simp [hnil]),fun j hj => ?_⟩
  rcases Nat.decEq j i with hne | rfl
  ·exact wpOp_mono (fun _ _ hc => ⟨hc.1,ih hc.2⟩) (h.other hi hsel hk hQ hj hne)
  ·exact h.val.wpOp hi h.holds ⟨fun _ => h.holds,h.taken⟩
end
def waits (md : Region.Mode) (ops : Array Oper) (k i : Nat) : Bool:=i != k && ((ops[k]?).map (·.after.any fun e => Region.binds md e && e.on == i)).getD true
theorem waits_spec {i : Nat} (h : waits md ops k i = true) : i ≠ k /\ ∀ ok,ops[k]? = some ok -> ∃ e ∈ ok.after,Region.binds md e = true /\ e.on = i:=by
 unfold waits at h
 rw [Bool.and_eq_true] at h
 refine ⟨by simpa using h.1,fun ok hok => ?_⟩
 have h2:=h.2
 rw [hok] at h2
 simp only [Option.map_some,Option.getD_some,Array.any_eq_true] at h2
 obtain ⟨j,hj,h3⟩:=h2
 rw [Bool.and_eq_true] at h3
 exact ⟨ok.after[j],Array.getElem_mem hj,h3.1,by simpa using h3.2⟩
theorem wpAnyU_take {i : Nat} {oi : Oper} {v : Value} {fuel : Nat} {listed : Array Bool} {a : Act} {w : World} (hi : ops[i]? = some oi)
  (hs : Region.noSelect ops = true) (hf : Region.free md ops listed i = true) (hr : (Region.ready md ops listed).contains i = true) (hk : waits md ops k i = true)
  (hQ : ∀ c a w,Q (.panic c) (a.put oi.dst v) w -> Q (.panic c) a w) (hy : YieldsIf P ops S oi v a) (hS : S w)
  (h : wpAnyU P md ops Q S k fuel (listed.setIfInBounds i true) (a.put oi.dst v) w) : wpAnyU P md ops Q S k (fuel + 1) listed a w :=
 CanWait.any hi (Region.noSelect_spec hs) (waits_spec hk) hQ fuel ⟨by simpa using hr,Region.free_spec hi hf,hy,hS,h⟩
theorem tkU {i : Nat} {oi : Oper} {v : Value} {fuel : Nat} {listed : Array Bool} {a : Act} {w : World} (hi : ops[i]? = some oi)
 (hk : (Region.noSelect ops && Region.free md ops listed i && (Region.ready md ops listed).contains i && waits md ops k i) = true) (hQ : ∀ c a w, Q (.panic c) (a.put oi.dst v) w → Q (.panic c) a w) (hw : Region.wanted oi (yielded ops a.tmps) = true) (hS : S w)
 (hv : ∀ w, S w → (execOp a.eval oi).run P w = .ok (.value v) w) (h : wpAnyU P md ops Q S k fuel (listed.setIfInBounds i true) (a.put oi.dst v) w) : wpAnyU P md ops Q S k (fuel + 1) listed a w := by
 rw [Bool.and_eq_true, Bool.and_eq_true, Bool.and_eq_true] at hk
 exact wpAnyU_take hi hk.1.1.1 hk.1.1.2 hk.1.2 hk.2 hQ (Or.inl ⟨hw, hv⟩) hS h
theorem wpAnyU_one {i : Nat} {o : Oper} {fuel : Nat} {listed : Array Bool} {a : Act} {w : World} (ho : ops[i]? = some o) (hr : Region.ready md ops listed = [i])
  (h : ∀ K' : Act -> World -> Prop,Shut (∀ a w,((i ≠ k -> S w) /\ wpAnyU P md ops Q S k fuel (listed.setIfInBounds i true) a w) -> K' a w) -> if Region.wanted o (yielded ops a.tmps) = true then Oper.wp P o a w K' Q else K' (a.put o.dst undef) w) : wpAnyU P md ops Q S k (fuel + 1) listed a w:=by
 refine ⟨fun h0 => (by rw [hr] at h0; cases h0),fun j hj => ?_⟩
 rw [hr] at hj
 have : j = i:=by simpa using hj
 subst this
 exact wpOp_step ho (fun K' hK => h K' (fun a w hS => hK a w hS))
theorem wpAnyU_done {listed : Array Bool} {a : Act} {w : World} (hr : Region.ready md ops listed = []) (h : Q .normal a w) :
  ∀ fuel,wpAnyU P md ops Q S k fuel listed a w
 | 0 => ⟨hr,h⟩
 | _ + 1 => ⟨fun _ => h,by rw [hr]; simp⟩
theorem wp_region_U (S : World -> Prop) (k : Nat) {id : Nat} {a : Act} {w : World} (hm : P.follows .mixedOrders = true) (hS : S w.drew)
  (h : S w.drew -> wpAnyU P .any ops Q S k ops.size (Array.replicate ops.size false) a w.drew) : (Code.region id ops true).wp P Q a w :=
 wp_region_any hm (wpAny_of_U _ _ _ _ (h hS))
end
end Go.Proofs.Yteehgcbjmdideab
/- A region that draws its order,some of whose operations are fatal to what is held: a load may be taken first where all the fatal ones wait for it; what looks at no memory may be taken first in any case. What is held need hold only till a fatal one has come up. -/
namespace Go.Proofs.Yteehgcbjmdideab
open Go
section
variable {P : Program} {ops : Array Oper} {Q : Exit -> Act -> World -> Prop} {md : Region.Mode} {S : World -> Prop} {fatal : List Nat}
def unl (fatal : List Nat) (listed : Array Bool) : Prop:=∀ k ∈ fatal,listed.getD k false = false
theorem getD_set (listed : Array Bool) (i k : Nat) (h : i ≠ k) : (listed.setIfInBounds i true).getD k false = listed.getD k false:=by
 simp only [Array.getD_eq_getD_getElem?,Array.getElem?_setIfInBounds_ne h]
theorem unl_set {listed : Array Bool} {i : Nat} (hi : i ∉ fatal) : unl fatal (listed.setIfInBounds i true) ↔ unl fatal listed:=by
 unfold unl
 constructor
 ·intro h k hk
  rw [<- getD_set listed i k (fun e => hi (e ▸ hk))]
  exact h k hk
 ·intro h k hk
  rw [getD_set listed i k (fun e => hi (e ▸ hk))]
  exact h k hk
def wpAnyF (P : Program) (md : Region.Mode) (ops : Array Oper) (Q : Exit -> Act -> World -> Prop) (S : World -> Prop) (fatal : List Nat) : Nat -> Array Bool -> Act -> World -> Prop
 | 0,listed,a,w => Region.ready md ops listed = [] /\ Q .normal a w
 | fuel + 1,listed,a,w =>
  (Region.ready md ops listed = [] -> Q .normal a w) /\
  ∀ i ∈ Region.ready md ops listed,wpOp P ops Q i (fun a' w' => (unl fatal (listed.setIfInBounds i true) -> S w') /\ wpAnyF P md ops Q S fatal fuel (listed.setIfInBounds i true) a' w') a w
theorem wpAny_of_F : ∀ (fuel : Nat) (listed : Array Bool) (a : Act) (w : World),wpAnyF P md ops Q S fatal fuel listed a w -> wpAny P md ops Q fuel listed a w
 | 0,_,_,_,h => h
 | fuel + 1,_,_,_,h => ⟨h.1,fun i hi => wpOp_mono (fun a' w' h' => wpAny_of_F fuel _ a' w' h'.2) (h.2 i hi)⟩
structure CanF (P : Program) (md : Region.Mode) (ops : Array Oper) (Q : Exit -> Act -> World -> Prop) (S R : World -> Prop) (fatal : List Nat) (i : Nat) (oi : Oper) (v : Value) (fuel : Nat) (listed : Array Bool) (a : Act) (w : World) : Prop where
 up : i ∈ Region.ready md ops listed
 apart : ∀ j oj,ops[j]? = some oj -> j ≠ i -> listed.getD j true = false -> (∀ e ∈ oj.after,Region.binds md e = true -> e.on ≠ i) -> oi.apart ops oj = true
 val : YieldsIf P ops R oi v a
 known : R w
 holds : unl fatal listed -> S w
 taken : wpAnyF P md ops Q S fatal fuel (listed.setIfInBounds i true) (a.put oi.dst v) w
section
variable {i : Nat} {oi : Oper} {v : Value} {R : World -> Prop}
theorem CanF.other (hi : ops[i]? = some oi) (hsel : ∀ (j : Nat) (o : Oper) cs b,ops[j]? = some o -> o.op ≠ .select cs b) (hif : i ∉ fatal)
  (hQ : ∀ c a w,Q (.panic c) (a.put oi.dst v) w -> Q (.panic c) a w) {fuel j : Nat} {listed : Array Bool} {a : Act} {w : World}
  (hR : ∀ w',(unl fatal (listed.setIfInBounds j true) -> S w') -> R w')
  (h : CanF P md ops Q S R fatal i oi v (fuel + 1) listed a w) (hj : j ∈ Region.ready md ops listed) (hne : j ≠ i) :
  wpOp P ops Q j (fun a' w' => (unl fatal (listed.setIfInBounds j true) -> S w') /\ CanF P md ops Q S R fatal i oi v fuel (listed.setIfInBounds j true) a' w') a w:=by
 obtain ⟨hun,oj,hoj,_⟩:=mem_ready.1 hj
 have hno:=ready_not_on h.up hj hoj
 have hstep:=h.taken.2 j (ready_mono hj hne)
 rw [Array.setIfInBounds_comm _ _ (Ne.symm hne)] at hstep
 refine wpOp_mono ?_ (wpOp_putIf hoj (h.apart j oj hoj hne hun hno) (hsel i oi · · hi) (hsel j oj · · hoj) hQ h.val hstep)
 rintro a' w' ⟨hval,hS,hrest⟩
 have hS' : unl fatal (listed.setIfInBounds j true) -> S w':=fun hu => hS ((unl_set hif).2 hu)
 refine ⟨hS',ready_mono h.up (Ne.symm hne),fun m om hm hmi hml hmo => h.apart m om hm hmi ?_ hmo,hval,hR w' hS',hS',hrest⟩
 by_cases hjm : j = m
 ·exact hjm ▸ hun
 ·rwa [getD_set_ne true hjm] at hml
theorem CanF.free (hi : ops[i]? = some oi) (hsel : ∀ (j : Nat) (o : Oper) cs b,ops[j]? = some o -> o.op ≠ .select cs b) (hif : i ∉ fatal)
  (hQ : ∀ c a w,Q (.panic c) (a.put oi.dst v) w -> Q (.panic c) a w) (fuel : Nat) :
  ∀ {listed : Array Bool} {a : Act} {w : World},CanF P md ops Q S (fun _ => True) fatal i oi v fuel listed a w -> wpAnyF P md ops Q S fatal (fuel + 1) listed a w:=by
 induction fuel with
 | zero =>
  intro listed a w h
  refine ⟨fun hnil => absurd h.up (by simp [hnil]),fun j hj => ?_⟩
  rcases Nat.decEq j i with hne | rfl
  ·exact absurd (ready_mono hj hne) (by simp [h.taken.1])
  ·exact h.val.wpOp hi trivial ⟨fun hu => h.holds ((unl_set hif).1 hu),h.taken⟩
 | succ fuel ih =>
  intro listed a w h
  refine ⟨fun hnil => absurd h.up (by simp [hnil]),fun j hj => ?_⟩
  rcases Nat.decEq j i with hne | rfl
  ·exact wpOp_mono (fun _ _ hc => ⟨hc.1,ih hc.2⟩) (h.other hi hsel hif hQ (fun _ _ => trivial) hj hne)
  ·exact h.val.wpOp hi trivial ⟨fun hu => h.holds ((unl_set hif).1 hu),h.taken⟩
theorem CanF.held (hi : ops[i]? = some oi) (hsel : ∀ (j : Nat) (o : Oper) cs b,ops[j]? = some o -> o.op ≠ .select cs b) (hif : i ∉ fatal)
  (hk : ∀ k ∈ fatal,waits md ops k i = true) (hQ : ∀ c a w,Q (.panic c) (a.put oi.dst v) w -> Q (.panic c) a w) (fuel : Nat) :
  ∀ {listed : Array Bool} {a : Act} {w : World},unl fatal listed -> CanF P md ops Q S S fatal i oi v fuel listed a w -> wpAnyF P md ops Q S fatal (fuel + 1) listed a w:=by
 induction fuel with
 | zero =>
  intro listed a w hu h
  refine ⟨fun hnil => absurd h.up (by simp [hnil]),fun j hj => ?_⟩
  rcases Nat.decEq j i with hne | rfl
  ·exact absurd (ready_mono hj hne) (by simp [h.taken.1])
  ·exact h.val.wpOp hi h.known ⟨fun _ => h.known,h.taken⟩
 | succ fuel ih =>
  intro listed a w hu h
  refine ⟨fun hnil => absurd h.up (by simp [hnil]),fun j hj => ?_⟩
  rcases Nat.decEq j i with hne | rfl
  ·have hjf : j ∉ fatal:=by
    intro hm
    obtain ⟨_,oj,hoj,_⟩:=mem_ready.1 hj
    obtain ⟨e,he,hb,hon⟩:=(waits_spec (hk j hm)).2 oj hoj
    exact ready_not_on h.up hj hoj e he hb hon
   have hu' : unl fatal (listed.setIfInBounds j true):=(unl_set hjf).2 hu
   exact wpOp_mono (fun _ _ hc => ⟨hc.1,ih hu' hc.2⟩) (h.other hi hsel hif hQ (fun _ hS => hS hu') hj hne)
  ·exact h.val.wpOp hi h.known ⟨fun _ => h.known,h.taken⟩
end
def unlB (fatal : List Nat) (listed : Array Bool) : Bool:=fatal.all fun k => listed.getD k false == false
theorem unlB_spec {listed : Array Bool} (h : unlB fatal listed = true) : unl fatal listed:=fun k hk => by
 have:=List.all_eq_true.1 h k hk
 simpa using this
theorem wpAnyF_take {i : Nat} {oi : Oper} {v : Value} {fuel : Nat} {listed : Array Bool} {a : Act} {w : World} (hi : ops[i]? = some oi)
  (hs : Region.noSelect ops = true) (hf : Region.free md ops listed i = true) (hr : (Region.ready md ops listed).contains i = true) (hk : (!fatal.contains i && unlB fatal listed && fatal.all fun k => waits md ops k i) = true)
  (hQ : ∀ c a w,Q (.panic c) (a.put oi.dst v) w -> Q (.panic c) a w) (hy : YieldsIf P ops S oi v a) (hS : S w)
  (h : wpAnyF P md ops Q S fatal fuel (listed.setIfInBounds i true) (a.put oi.dst v) w) : wpAnyF P md ops Q S fatal (fuel + 1) listed a w:=by
 rw [Bool.and_eq_true,Bool.and_eq_true] at hk
 exact CanF.held hi (Region.noSelect_spec hs) (by simpa using hk.1.1) (fun k hm => List.all_eq_true.1 hk.2 k hm) hQ fuel (unlB_spec hk.1.2) ⟨by simpa using hr,Region.free_spec hi hf,hy,hS,fun _ => hS,h⟩
theorem tkF {i : Nat} {oi : Oper} {v : Value} {fuel : Nat} {listed : Array Bool} {a : Act} {w : World} (hi : ops[i]? = some oi)
 (hk : (Region.noSelect ops && Region.free md ops listed i && (Region.ready md ops listed).contains i && (!fatal.contains i && unlB fatal listed && fatal.all fun k => waits md ops k i)) = true) (hQ : ∀ c a w, Q (.panic c) (a.put oi.dst v) w → Q (.panic c) a w) (hw : Region.wanted oi (yielded ops a.tmps) = true) (hS : S w)
 (hv : ∀ w, S w → (execOp a.eval oi).run P w = .ok (.value v) w) (h : wpAnyF P md ops Q S fatal fuel (listed.setIfInBounds i true) (a.put oi.dst v) w) : wpAnyF P md ops Q S fatal (fuel + 1) listed a w := by
 rw [Bool.and_eq_true, Bool.and_eq_true, Bool.and_eq_true] at hk
 exact wpAnyF_take hi hk.1.1.1 hk.1.1.2 hk.1.2 hk.2 hQ (Or.inl ⟨hw, hv⟩) hS h
theorem wpAnyF_free {i : Nat} {oi : Oper} {v : Value} {fuel : Nat} {listed : Array Bool} {a : Act} {w : World} (hi : ops[i]? = some oi)
  (hs : Region.noSelect ops = true) (hf : Region.free md ops listed i = true) (hr : (Region.ready md ops listed).contains i = true) (hk : (!fatal.contains i) = true)
  (hQ : ∀ c a w,Q (.panic c) (a.put oi.dst v) w -> Q (.panic c) a w) (hy : YieldsIf P ops (fun _ => True) oi v a) (hS : S w)
  (h : wpAnyF P md ops Q S fatal fuel (listed.setIfInBounds i true) (a.put oi.dst v) w) : wpAnyF P md ops Q S fatal (fuel + 1) listed a w :=
 CanF.free hi (Region.noSelect_spec hs) (by simpa using hk) hQ fuel ⟨by simpa using hr,Region.free_spec hi hf,hy,trivial,fun _ => hS,h⟩
theorem wpAnyF_one {i : Nat} {o : Oper} {fuel : Nat} {listed : Array Bool} {a : Act} {w : World} (ho : ops[i]? = some o) (hr : Region.ready md ops listed = [i])
  (h : ∀ K' : Act -> World -> Prop,Shut (∀ a w,((unl fatal (listed.setIfInBounds i true) -> S w) /\ wpAnyF P md ops Q S fatal fuel (listed.setIfInBounds i true) a w) -> K' a w) -> if Region.wanted o (yielded ops a.tmps) = true then Oper.wp P o a w K' Q else K' (a.put o.dst undef) w) : wpAnyF P md ops Q S fatal (fuel + 1) listed a w:=by
 refine ⟨fun h0 => (by rw [hr] at h0; cases h0),fun j hj => ?_⟩
 rw [hr] at hj
 have : j = i:=by simpa using hj
 subst this
 exact wpOp_step ho (fun K' hK => h K' (fun a w hS => hK a w hS))
theorem wpAnyF_done {listed : Array Bool} {a : Act} {w : World} (hr : Region.ready md ops listed = []) (h : Q .normal a w) :
  ∀ fuel,wpAnyF P md ops Q S fatal fuel listed a w
 | 0 => ⟨hr,h⟩
 | _ + 1 => ⟨fun _ => h,by rw [hr]; simp⟩
theorem unl_no {listed : Array Bool} (h : unlB fatal listed = false) : ¬ unl fatal listed:=fun hu => by
 have : unlB fatal listed = true:=List.all_eq_true.2 fun k hk => by simpa using hu k hk
 rw [h] at this
 cases this
theorem wp_region_F (S : World -> Prop) (fatal : List Nat) {id : Nat} {a : Act} {w : World} (hm : P.follows .mixedOrders = true) (hS : S w.drew)
  (h : S w.drew -> wpAnyF P .any ops Q S fatal ops.size (Array.replicate ops.size false) a w.drew) : (Code.region id ops true).wp P Q a w :=
 wp_region_any hm (wpAny_of_F _ _ _ _ (h hS))
end
end Go.Proofs.Yteehgcbjmdideab
/- The queue in memory: places in a row; what a step on it leaves as it was. -/
namespace Go.Proofs.Yteehgcbjmdideab
open Go.RowKit
attribute [local go_sem ↓] Go.wp_at_zero Go.wp_at_succ
structure PlD where
 st : Nat
 rd : Nat
 wt : Nat
 cost : Int
def p0 : PlD:=⟨0,0,0,0⟩
def plCells (p : PlD) : List Value:=[.int .i64 p.st,.int .i64 p.rd,.int .i64 p.wt,.int .i64 p.cost]
def plsV (l : List PlD) : List Value:=l.flatMap plCells
theorem plsV_len (l : List PlD) : (plsV l).length = l.length * 4:=by
 induction l with
 | nil => rfl
 | cons a l ih =>
  have e : plsV (a :: l) = plCells a ++ plsV l:=by simp [plsV]
  rw [e,List.length_append,ih,List.length_cons]
  show 4 + _ = _
  omega
theorem plsV_get (l : List PlD) (i j : Nat) (hi : i < l.length) (hj : j < 4) : (plsV l)[i * 4 + j]? = (plCells (l.getD i p0))[j]?:=by
 induction l generalizing i with
 | nil => simp at hi
 | cons a l ih =>
  have e : plsV (a :: l) = plCells a ++ plsV l:=by simp [plsV]
  have hl : (plCells a).length = 4:=rfl
  rw [e]
  cases i with
  | zero => rw [Nat.zero_mul,Nat.zero_add,List.getElem?_append_left (by omega)]; rfl
  | succ i =>
   rw [List.getElem?_append_right (by omega),hl,show (i + 1) * 4 + j - 4 = i * 4 + j by omega,ih i (by simpa using hi)]
   rfl
theorem plsV_snoc (l : List PlD) (p : PlD) : plsV (l ++ [p]) = plsV l ++ plCells p:=by simp [plsV]
theorem plsV_take (l : List PlD) (n : Nat) : plsV (l.take n) = (plsV l).take (n * 4):=by
 induction l generalizing n with
 | nil => simp [plsV]
 | cons a l ih =>
  cases n with
  | zero => simp [plsV]
  | succ n =>
   have e : plsV (a :: l) = plCells a ++ plsV l:=by simp [plsV]
   have e2 : plsV (a :: l.take n) = plCells a ++ plsV (l.take n):=by simp [plsV]
   rw [List.take_succ_cons,e2,e,ih,List.take_append,List.take_of_length_le (l:=plCells a) (by show 4 <= (n + 1) * 4; omega)]
   show _ = plCells a ++ (plsV l).take ((n + 1) * 4 - 4)
   rw [show (n + 1) * 4 - 4 = n * 4 by omega]
theorem oneCell_pl (p : PlD) : ∀ u ∈ plCells p,u.oneCell' = true:=by
 intro u hu
 simp [plCells] at hu
 rcases hu with rfl | rfl | rfl | rfl <;> rfl
theorem infoPl : (Try.prog.info? 123).map (fun i => (i.zero,i.size,i.bytes)) = some (some (.agg #[.int .i64 0,.int .i64 0,.int .i64 0,.int .i64 0]),4,32):=by kernel_rfl
structure PlsAt (w : World) (g n : Nat) (L : List PlD) : Prop where
 len : L.length = n
 cell : ∀ i j,i < n -> j < 4 -> w.cell? ⟨g,i * 4 + j,none⟩ = (plCells (L.getD i p0))[j]?
 frz : ∀ i,w.frozen? ⟨g,i,none⟩ = false
theorem PlsAt.of {w : World} {B e g n cap : Nat} {L : List PlD} (h : w.ownsRow B e 4 (.slice (some ⟨g,0,none⟩) n cap) n (plsV L)) : PlsAt w g n L:=by
 have hl0:=h.1
 rw [plsV_len] at hl0
 have hl : L.length = n:=by omega
 obtain ⟨_,h⟩:=h
 rcases h with ⟨h,_⟩ | ⟨g',cap',cur,he,_,hh,h1,h2,h3,h4⟩
 ·cases h
 ·cases he
  refine ⟨hl,fun i j hi hj => ?_,fun i => Go.Joins.unfrozen_of_block hh i⟩
  have h5:=plsV_get L i j (by omega) hj
  rw [<- h4,List.getElem?_take,if_pos (by omega),Array.getElem?_toList] at h5
  rw [Go.Joins.cell_of_block hh]; exact h5
theorem plsV_set (L : List PlD) (i : Nat) (p : PlD) (hi : i < L.length) : ((((plsV L).set (i * 4) (.int .i64 p.st)).set (i * 4 + 1) (.int .i64 p.rd)).set (i * 4 + 2) (.int .i64 p.wt)).set (i * 4 + 3) (.int .i64 p.cost) = plsV (L.set i p):=by
 induction L generalizing i with
 | nil => simp at hi
 | cons a l ih =>
  have e : ∀ (b : PlD) (l : List PlD),plsV (b :: l) = .int .i64 b.st :: .int .i64 b.rd :: .int .i64 b.wt :: .int .i64 b.cost :: plsV l:=fun b l => by simp [plsV,plCells]
  cases i with
  | zero =>
   show _ = plsV (p :: l)
   rw [e,e]
   rfl
  | succ i =>
   show _ = plsV (a :: l.set i p)
   rw [e,e,<- ih i (by simpa using hi)]
   rw [show (i + 1) * 4 + 3 = (i * 4 + 3) + 1 + 1 + 1 + 1 by omega,show (i + 1) * 4 + 2 = (i * 4 + 2) + 1 + 1 + 1 + 1 by omega,show (i + 1) * 4 + 1 = (i * 4 + 1) + 1 + 1 + 1 + 1 by omega,show (i + 1) * 4 = (i * 4) + 1 + 1 + 1 + 1 by omega]
   simp only [List.set_cons_succ]
def setPl (w : World) (g k : Nat) (p : PlD) : World:=(((w.setCell ⟨g,k,none⟩ (.int .i64 p.st)).setCell ⟨g,k + 1,none⟩ (.int .i64 p.rd)).setCell ⟨g,k + 2,none⟩ (.int .i64 p.wt)).setCell ⟨g,k + 3,none⟩ (.int .i64 p.cost)
theorem row_setPl {w : World} {B e g n cap : Nat} {L : List PlD} (h : w.ownsRow B e 4 (.slice (some ⟨g,0,none⟩) n cap) n (plsV L)) (i : Nat) (hi : i < n) (p : PlD) : (setPl w g (i * 4) p).ownsRow B e 4 (.slice (some ⟨g,0,none⟩) n cap) n (plsV (L.set i p)):=by
 have hl0:=h.1
 rw [plsV_len] at hl0
 have hl : L.length = n:=by omega
 obtain ⟨_,h⟩:=h
 refine ⟨by rw [plsV_len,List.length_set]; omega,?_⟩
 rcases h with ⟨h,_⟩ | ⟨g',cap',cur,he,hB,hh,h1,h2,h3,h4⟩
 ·cases h
 ·cases he
  refine Or.inr ⟨g,cap,(((cur.setIfInBounds (i * 4) (.int .i64 p.st)).setIfInBounds (i * 4 + 1) (.int .i64 p.rd)).setIfInBounds (i * 4 + 2) (.int .i64 p.wt)).setIfInBounds (i * 4 + 3) (.int .i64 p.cost),rfl,hB,?_,h1,h2,by simpa using h3,?_⟩
  ·exact Go.Joins.block_setCell (i:=i * 4 + 3) (Go.Joins.block_setCell (i:=i * 4 + 2) (Go.Joins.block_setCell (i:=i * 4 + 1) (Go.Joins.block_setCell (i:=i * 4) hh _) _) _) _
  ·rw [<- plsV_set L i p (by omega),<- h4]
   simp only [Array.toList_setIfInBounds,List.take_set]
structure QStep (B : Nat) (w : World) (v : Value) (w' : World) (v' : Value) : Prop where
 os : w'.os = w.os
 tape : w'.tape = w.tape
 output : w'.output = w.output
 size : w.heap.size <= w'.heap.size
 block : ∀ b,b < w.heap.size -> b ≠ B -> v.ownBlock ≠ some b -> w'.heap[b]? = w.heap[b]?
 cell : ∀ k,k ≠ 8 -> w'.cell? ⟨B,k,none⟩ = w.cell? ⟨B,k,none⟩
 frz : ∀ k,w'.frozen? ⟨B,k,none⟩ = w.frozen? ⟨B,k,none⟩
 own : ∀ g,v'.ownBlock = some g -> v.ownBlock = some g \/ w.heap.size <= g
theorem QStep.trans {B : Nat} {w w' w'' : World} {v v' v'' : Value} (h : QStep B w v w' v') (k : QStep B w' v' w'' v'') : QStep B w v w'' v'' :=
 ⟨k.os.trans h.os,k.tape.trans h.tape,k.output.trans h.output,Nat.le_trans h.size k.size,fun b hb hB hv => (k.block b (Nat.lt_of_lt_of_le hb h.size) hB (fun e => by
   rcases h.own b e with e | e
   ·exact hv e
   ·omega)).trans (h.block b hb hB hv),fun i hi => (k.cell i hi).trans (h.cell i hi),fun i => (k.frz i).trans (h.frz i),fun g hg => by
   rcases k.own g hg with e | e
   ·exact h.own g e
   ·exact Or.inr (Nat.le_trans h.size e)⟩
theorem QStep.bel {B : Nat} {w w' : World} {v : Value} (hB : B < w.heap.size) (h : Below w.heap.size w w') : QStep B w v w' v :=
 ⟨h.os,h.tape,h.output,h.size,fun b hb _ _ => h.block b hb,fun k _ => h.cell (p:=⟨B,k,none⟩) hB,fun k => h.frozen (p:=⟨B,k,none⟩) hB,fun _ hg => Or.inl hg⟩
theorem QStep.refl {B : Nat} {w : World} {v : Value} : QStep B w v w v :=
 ⟨rfl,rfl,rfl,Nat.le_refl _,fun _ _ _ _ => rfl,fun _ _ => rfl,fun _ => rfl,fun _ hg => Or.inl hg⟩
theorem QStep.row {B g i : Nat} {w : World} {v u : Value} (hv : v.ownBlock = some g) (hg : g ≠ B) : QStep B w v (w.setCell ⟨g,i,none⟩ u) v :=
 ⟨rfl,rfl,rfl,by simp [World.setCell],fun b _ _ hne => Below.heap_setCell w ⟨g,i,none⟩ u b (fun e => hne (by rw [hv,e])),fun k _ => set_far (Ne.symm hg),fun k => World.frozen?_setCell _ _ _ _,fun _ h => Or.inl h⟩
theorem QStep.rowPl {B g i : Nat} {w : World} {v : Value} {p : PlD} (hv : v.ownBlock = some g) (hg : g ≠ B) : QStep B w v (setPl w g i p) v :=
 (((QStep.row hv hg).trans (QStep.row hv hg)).trans (QStep.row hv hg)).trans (QStep.row hv hg)
theorem QStep.grown {B : Nat} {w w' : World} {v : Value} (hB : B < w.heap.size) (hg : w.grownBy w' v.ownBlock) (hne : some B ≠ v.ownBlock) : QStep B w v w' v :=
 ⟨hg.os,hg.tape,hg.output,hg.size,fun b hb _ hv => hg.block b hb (fun e => hv e.symm),fun k _ => hg.cell_far ⟨B,k,none⟩ hB hne,fun k => hg.frozen_far ⟨B,k,none⟩ hB hne,fun _ h => Or.inl h⟩
theorem QStep.below {B C : Nat} {w0 w w' : World} {v v' : Value} (h : QStep B w v w' v') (hb : Below C w0 w) (hC : C <= w.heap.size) (hB : C <= B) (hv : ∀ g,v.ownBlock = some g -> C <= g) : Below C w0 w' :=
 ⟨h.os.trans hb.os,h.tape.trans hb.tape,h.output.trans hb.output,Nat.le_trans hb.size h.size,fun b hk => (h.block b (by omega) (by omega) (fun e => by have:=hv b e; omega)).trans (hb.block b hk)⟩
structure QAt (base B : Nat) (w : World) (v : Value) (L : List PlD) : Prop where
 cell : w.cell? ⟨B,8,none⟩ = some v
 frz : w.frozen? ⟨B,8,none⟩ = false
 row : w.ownsRow base 123 4 v L.length (plsV L)
 ne : v.ownBlock ≠ some B
 base_le : base <= w.heap.size
theorem QAt.bel {base B : Nat} {w w' : World} {v : Value} {L : List PlD} (h : QAt base B w v L) (hb : Below w.heap.size w w') : QAt base B w' v L :=
 ⟨bel_c hb h.cell,(hb.frozen (p:=⟨B,8,none⟩) (cell_lt h.cell)).trans h.frz,ownsRow_bel h.row hb,h.ne,Nat.le_trans h.base_le hb.size⟩
end Go.Proofs.Yteehgcbjmdideab
/- 'Len','Less','Swap' of the queue. -/
namespace Go.Proofs.Yteehgcbjmdideab
open Go.RowKit
attribute [local go_sem ↓] Go.wp_at_zero Go.wp_at_succ
set_option maxHeartbeats 400000 in
theorem qLen_any (a : Option Addr) (n c : Nat) (w : World) :
  Calls Try.prog 99 #[.slice a n c] w fun e w' => e = .returned (.int .i64 n) /\ w' = w:=by
 go_enter Try.func99,Try.ntmps99
 go_wp2
 go_ret
 exact ⟨rfl,rfl⟩
set_option maxHeartbeats 1000000 in
theorem qLess_any (i j g n cap : Nat) (L : List PlD) (w : World) (h : PlsAt w g n L) (hi : i < n) (hj : j < n) (r : Bool) (hr : r = decide ((L.getD i p0).cost < (L.getD j p0).cost)) :
  Calls Try.prog 134 #[.slice (some ⟨g,0,none⟩) n cap,.int .i64 i,.int .i64 j] w fun e w' => e = .returned (.bool r) /\ Below w.heap.size w w':=by
 have c0:=h.cell i 3 hi (by decide)
 have c1:=h.cell j 3 hj (by decide)
 have e0 : (plCells (L.getD i p0))[3]? = some (.int .i64 (L.getD i p0).cost):=rfl
 have e1 : (plCells (L.getD j p0))[3]? = some (.int .i64 (L.getD j p0).cost):=rfl
 rw [e0] at c0
 rw [e1] at c1
 have hii : (i : Int) < n:=by omega
 have hji : (j : Int) < n:=by omega
 have HR : Hid (r = decide ((L.getD i p0).cost < (L.getD j p0).cost)):=hr
 clear e0 e1 h hr
 generalize (L.getD i p0).cost = x at *
 generalize (L.getD j p0).cost = y at *
 go_enter Try.func134,Try.ntmps134
 go_wp2
 go_region_held3 (fun wx => wx.cell? ⟨g,i * 4 + 3,none⟩ = some (.int .i64 x) /\ wx.cell? ⟨g,j * 4 + 3,none⟩ = some (.int .i64 y)) (exact ⟨drew_cell c0,drew_cell c1⟩) (fail)
 go_wp2
 go_ret
 exact ⟨ret_bool HR.out.symm,(bel_self w).drew⟩
theorem PlsAt.four {w : World} {g n : Nat} {L : List PlD} (h : PlsAt w g n L) (i : Nat) (hi : i < n) (p : PlD) (hp : p = L.getD i p0) : w.cell? ⟨g,i * 4,none⟩ = some (.int .i64 p.st) /\ w.cell? ⟨g,i * 4 + 1,none⟩ = some (.int .i64 p.rd) /\ w.cell? ⟨g,i * 4 + 2,none⟩ = some (.int .i64 p.wt) /\ w.cell? ⟨g,i * 4 + 3,none⟩ = some (.int .i64 p.cost):=by
 subst hp
 exact ⟨h.cell i 0 hi (by decide),h.cell i 1 hi (by decide),h.cell i 2 hi (by decide),h.cell i 3 hi (by decide)⟩
theorem PlsAt.below {w w' : World} {g n : Nat} {L : List PlD} (h : PlsAt w g n L) (hb : Below w.heap.size w w') (hg : g < w.heap.size) : PlsAt w' g n L :=
 ⟨h.len,fun i j hi hj => (hb.cell (p:=⟨g,i * 4 + j,none⟩) hg).trans (h.cell i j hi hj),fun i => (hb.frozen (p:=⟨g,i,none⟩) hg).trans (h.frz i)⟩
theorem row_lt {w : World} {B e g n cap : Nat} {xs : List Value} (h : w.ownsRow B e 4 (.slice (some ⟨g,0,none⟩) n cap) n xs) : g < w.heap.size:=ownsRow_lt0 h g rfl
set_option maxHeartbeats 1000000 in
theorem qSwap_any (i j g n cap base : Nat) (L : List PlD) (w : World) (h : w.ownsRow base 123 4 (.slice (some ⟨g,0,none⟩) n cap) n (plsV L)) (hi : i < n) (hj : j < n) (hij : i ≠ j) :
  Calls Try.prog 135 #[.slice (some ⟨g,0,none⟩) n cap,.int .i64 i,.int .i64 j] w fun e w' => e = .returned (.tuple #[]) /\ w' = setPl (setPl w.drew g (i * 4) (L.getD j p0)) g (j * 4) (L.getD i p0):=by
 have hP:=PlsAt.of h
 obtain ⟨pi,hpi⟩ : ∃ p,p = L.getD i p0:=⟨_,rfl⟩
 obtain ⟨pj,hpj⟩ : ∃ p,p = L.getD j p0:=⟨_,rfl⟩
 obtain ⟨a0',a1,a2,a3⟩:=(hP.below (bel_self w).drew (row_lt h)).four i hi pi hpi
 obtain ⟨b0,b1,b2,b3⟩:=(hP.below (bel_self w).drew (row_lt h)).four j hj pj hpj
 have hfr : ∀ k,w.drew.frozen? ⟨g,k,none⟩ = false:=fun k => (hP.below (bel_self w).drew (row_lt h)).frz k
 rw [<- hpi,<- hpj]
 have hii : (i : Int) < n:=by omega
 have hji : (j : Int) < n:=by omega
 clear hpi hpj hP h
 go_enter Try.func135,Try.ntmps135
 go_wp2
 have hS0 : (fun wx : World => wx.cell? ⟨g,i * 4,none⟩ = some (.int .i64 pi.st) /\ wx.cell? ⟨g,i * 4 + 1,none⟩ = some (.int .i64 pi.rd) /\ wx.cell? ⟨g,i * 4 + 2,none⟩ = some (.int .i64 pi.wt) /\ wx.cell? ⟨g,i * 4 + 3,none⟩ = some (.int .i64 pi.cost) /\ wx.cell? ⟨g,j * 4,none⟩ = some (.int .i64 pj.st) /\ wx.cell? ⟨g,j * 4 + 1,none⟩ = some (.int .i64 pj.rd) /\ wx.cell? ⟨g,j * 4 + 2,none⟩ = some (.int .i64 pj.wt) /\ wx.cell? ⟨g,j * 4 + 3,none⟩ = some (.int .i64 pj.cost)) w.drew:=⟨a0',a1,a2,a3,b0,b1,b2,b3⟩
 obtain ⟨Wd,hWd⟩ : ∃ Wd,Wd = w.drew:=⟨_,rfl⟩
 rw [<- hWd] at hS0 hfr a0' a1 a2 a3 b0 b1 b2 b3
 have HW : Hid (Wd = w.drew):=hWd
 refine wp_region_noPanic ?_
 refine wp_region_F (fun wx => wx.cell? ⟨g,i * 4,none⟩ = some (.int .i64 pi.st) /\ wx.cell? ⟨g,i * 4 + 1,none⟩ = some (.int .i64 pi.rd) /\ wx.cell? ⟨g,i * 4 + 2,none⟩ = some (.int .i64 pi.wt) /\ wx.cell? ⟨g,i * 4 + 3,none⟩ = some (.int .i64 pi.cost) /\ wx.cell? ⟨g,j * 4,none⟩ = some (.int .i64 pj.st) /\ wx.cell? ⟨g,j * 4 + 1,none⟩ = some (.int .i64 pj.rd) /\ wx.cell? ⟨g,j * 4 + 2,none⟩ = some (.int .i64 pj.wt) /\ wx.cell? ⟨g,j * 4 + 3,none⟩ = some (.int .i64 pj.cost)) [13,15] (by kernel_rfl) (by rw [<- hWd]; exact hS0) (fun _ => ?_)
 rw [<- hWd]
 clear hWd
 refine wpAnyF_free (i:=0) (v:=.slice (some ⟨g,0,none⟩) n cap) rfl (by kernel_rfl) (by kernel_rfl) (by kernel_rfl) (by kernel_rfl) (fun _ _ _ h => h) (Or.inl ⟨by rfl,fun wl hSw => ?_⟩) hS0 ?_
 ·(try dsimp only at hSw); go_simp
 refine wpAnyF_free (i:=1) (v:=.int .i64 i) rfl (by kernel_rfl) (by kernel_rfl) (by kernel_rfl) (by kernel_rfl) (fun _ _ _ h => h) (Or.inl ⟨by rfl,fun wl hSw => ?_⟩) hS0 ?_
 ·(try dsimp only at hSw); go_simp
 refine wpAnyF_free (i:=2) (v:=.slice (some ⟨g,0,none⟩) n cap) rfl (by kernel_rfl) (by kernel_rfl) (by kernel_rfl) (by kernel_rfl) (fun _ _ _ h => h) (Or.inl ⟨by rfl,fun wl hSw => ?_⟩) hS0 ?_
 ·(try dsimp only at hSw); go_simp
 refine wpAnyF_free (i:=3) (v:=.int .i64 j) rfl (by kernel_rfl) (by kernel_rfl) (by kernel_rfl) (by kernel_rfl) (fun _ _ _ h => h) (Or.inl ⟨by rfl,fun wl hSw => ?_⟩) hS0 ?_
 ·(try dsimp only at hSw); go_simp
 refine wpAnyF_free (i:=4) (v:=.slice (some ⟨g,0,none⟩) n cap) rfl (by kernel_rfl) (by kernel_rfl) (by kernel_rfl) (by kernel_rfl) (fun _ _ _ h => h) (Or.inl ⟨by rfl,fun wl hSw => ?_⟩) hS0 ?_
 ·(try dsimp only at hSw); go_simp
 refine wpAnyF_free (i:=5) (v:=.int .i64 j) rfl (by kernel_rfl) (by kernel_rfl) (by kernel_rfl) (by kernel_rfl) (fun _ _ _ h => h) (Or.inl ⟨by rfl,fun wl hSw => ?_⟩) hS0 ?_
 ·(try dsimp only at hSw); go_simp
 refine wpAnyF_free (i:=6) (v:=.pointer (some ⟨g,j * 4,none⟩)) rfl (by kernel_rfl) (by kernel_rfl) (by kernel_rfl) (by kernel_rfl) (fun _ _ _ h => h) (Or.inl ⟨by rfl,fun wl hSw => ?_⟩) hS0 ?_
 ·(try dsimp only at hSw); go_simp
 refine tkF (i:=7) (v:=.agg #[.int .i64 pj.st,.int .i64 pj.rd,.int .i64 pj.wt,.int .i64 pj.cost]) rfl (by kernel_rfl) (fun _ _ _ h => h) (by rfl) hS0 (fun wl hSw => ?_) ?_
 ·(try dsimp only at hSw); go_simp
 refine wpAnyF_free (i:=8) (v:=.slice (some ⟨g,0,none⟩) n cap) rfl (by kernel_rfl) (by kernel_rfl) (by kernel_rfl) (by kernel_rfl) (fun _ _ _ h => h) (Or.inl ⟨by rfl,fun wl hSw => ?_⟩) hS0 ?_
 ·(try dsimp only at hSw); go_simp
 refine wpAnyF_free (i:=9) (v:=.int .i64 i) rfl (by kernel_rfl) (by kernel_rfl) (by kernel_rfl) (by kernel_rfl) (fun _ _ _ h => h) (Or.inl ⟨by rfl,fun wl hSw => ?_⟩) hS0 ?_
 ·(try dsimp only at hSw); go_simp
 refine wpAnyF_free (i:=10) (v:=.pointer (some ⟨g,i * 4,none⟩)) rfl (by kernel_rfl) (by kernel_rfl) (by kernel_rfl) (by kernel_rfl) (fun _ _ _ h => h) (Or.inl ⟨by rfl,fun wl hSw => ?_⟩) hS0 ?_
 ·(try dsimp only at hSw); go_simp
 refine tkF (i:=11) (v:=.agg #[.int .i64 pi.st,.int .i64 pi.rd,.int .i64 pi.wt,.int .i64 pi.cost]) rfl (by kernel_rfl) (fun _ _ _ h => h) (by rfl) hS0 (fun wl hSw => ?_) ?_
 ·(try dsimp only at hSw); go_simp
 refine wpAnyF_free (i:=12) (v:=.pointer (some ⟨g,i * 4,none⟩)) rfl (by kernel_rfl) (by kernel_rfl) (by kernel_rfl) (by kernel_rfl) (fun _ _ _ h => h) (Or.inl ⟨by rfl,fun wl hSw => ?_⟩) hS0 ?_
 ·(try dsimp only at hSw); go_simp
 refine wpAnyF_one (i:=13) rfl (by kernel_rfl) (fun K hK => ?_)
 go_simp
 refine hK.out _ _ ⟨fun h => absurd h (unl_no (by kernel_rfl)),?_⟩
 clear hK K
 refine wpAnyF_one (i:=14) rfl (by kernel_rfl) (fun K hK => ?_)
 go_simp
 refine hK.out _ _ ⟨fun h => absurd h (unl_no (by kernel_rfl)),?_⟩
 clear hK K
 refine wpAnyF_one (i:=15) rfl (by kernel_rfl) (fun K hK => ?_)
 go_simp
 refine hK.out _ _ ⟨fun h => absurd h (unl_no (by kernel_rfl)),?_⟩
 clear hK K
 refine wpAnyF_done (by kernel_rfl) ?_ _
 refine NoPanic.normal ?_
 go_wp2
 go_end0
 exact ⟨rfl,by rw [<- HW.out]; rfl⟩
set_option maxHeartbeats 1000000 in
theorem qSwap_one (i g n cap base : Nat) (L : List PlD) (w : World) (h : w.ownsRow base 123 4 (.slice (some ⟨g,0,none⟩) n cap) n (plsV L)) (hi : i < n) :
  Calls Try.prog 135 #[.slice (some ⟨g,0,none⟩) n cap,.int .i64 i,.int .i64 i] w fun e w' => e = .returned (.tuple #[]) /\ w' = setPl (setPl w.drew g (i * 4) (L.getD i p0)) g (i * 4) (L.getD i p0):=by
 have hP:=PlsAt.of h
 obtain ⟨pi,hpi⟩ : ∃ p,p = L.getD i p0:=⟨_,rfl⟩
 obtain ⟨a0',a1,a2,a3⟩:=(hP.below (bel_self w).drew (row_lt h)).four i hi pi hpi
 have hfr : ∀ k,w.drew.frozen? ⟨g,k,none⟩ = false:=fun k => (hP.below (bel_self w).drew (row_lt h)).frz k
 rw [<- hpi]
 have hii : (i : Int) < n:=by omega
 clear hpi hP h
 go_enter Try.func135,Try.ntmps135
 go_wp2
 have hS0 : (fun wx : World => wx.cell? ⟨g,i * 4,none⟩ = some (.int .i64 pi.st) /\ wx.cell? ⟨g,i * 4 + 1,none⟩ = some (.int .i64 pi.rd) /\ wx.cell? ⟨g,i * 4 + 2,none⟩ = some (.int .i64 pi.wt) /\ wx.cell? ⟨g,i * 4 + 3,none⟩ = some (.int .i64 pi.cost)) w.drew:=⟨a0',a1,a2,a3⟩
 obtain ⟨Wd,hWd⟩ : ∃ Wd,Wd = w.drew:=⟨_,rfl⟩
 rw [<- hWd] at hS0 hfr a0' a1 a2 a3
 have HW : Hid (Wd = w.drew):=hWd
 refine wp_region_noPanic ?_
 refine wp_region_F (fun wx => wx.cell? ⟨g,i * 4,none⟩ = some (.int .i64 pi.st) /\ wx.cell? ⟨g,i * 4 + 1,none⟩ = some (.int .i64 pi.rd) /\ wx.cell? ⟨g,i * 4 + 2,none⟩ = some (.int .i64 pi.wt) /\ wx.cell? ⟨g,i * 4 + 3,none⟩ = some (.int .i64 pi.cost)) [13,15] (by kernel_rfl) (by rw [<- hWd]; exact hS0) (fun _ => ?_)
 rw [<- hWd]
 clear hWd
 refine wpAnyF_free (i:=0) (v:=.slice (some ⟨g,0,none⟩) n cap) rfl (by kernel_rfl) (by kernel_rfl) (by kernel_rfl) (by kernel_rfl) (fun _ _ _ h => h) (Or.inl ⟨by rfl,fun wl hSw => ?_⟩) hS0 ?_
 ·(try dsimp only at hSw); go_simp
 refine wpAnyF_free (i:=1) (v:=.int .i64 i) rfl (by kernel_rfl) (by kernel_rfl) (by kernel_rfl) (by kernel_rfl) (fun _ _ _ h => h) (Or.inl ⟨by rfl,fun wl hSw => ?_⟩) hS0 ?_
 ·(try dsimp only at hSw); go_simp
 refine wpAnyF_free (i:=2) (v:=.slice (some ⟨g,0,none⟩) n cap) rfl (by kernel_rfl) (by kernel_rfl) (by kernel_rfl) (by kernel_rfl) (fun _ _ _ h => h) (Or.inl ⟨by rfl,fun wl hSw => ?_⟩) hS0 ?_
 ·(try dsimp only at hSw); go_simp
 refine wpAnyF_free (i:=3) (v:=.int .i64 i) rfl (by kernel_rfl) (by kernel_rfl) (by kernel_rfl) (by kernel_rfl) (fun _ _ _ h => h) (Or.inl ⟨by rfl,fun wl hSw => ?_⟩) hS0 ?_
 ·(try dsimp only at hSw); go_simp
 refine wpAnyF_free (i:=4) (v:=.slice (some ⟨g,0,none⟩) n cap) rfl (by kernel_rfl) (by kernel_rfl) (by kernel_rfl) (by kernel_rfl) (fun _ _ _ h => h) (Or.inl ⟨by rfl,fun wl hSw => ?_⟩) hS0 ?_
 ·(try dsimp only at hSw); go_simp
 refine wpAnyF_free (i:=5) (v:=.int .i64 i) rfl (by kernel_rfl) (by kernel_rfl) (by kernel_rfl) (by kernel_rfl) (fun _ _ _ h => h) (Or.inl ⟨by rfl,fun wl hSw => ?_⟩) hS0 ?_
 ·(try dsimp only at hSw); go_simp
 refine wpAnyF_free (i:=6) (v:=.pointer (some ⟨g,i * 4,none⟩)) rfl (by kernel_rfl) (by kernel_rfl) (by kernel_rfl) (by kernel_rfl) (fun _ _ _ h => h) (Or.inl ⟨by rfl,fun wl hSw => ?_⟩) hS0 ?_
 ·(try dsimp only at hSw); go_simp
 refine tkF (i:=7) (v:=.agg #[.int .i64 pi.st,.int .i64 pi.rd,.int .i64 pi.wt,.int .i64 pi.cost]) rfl (by kernel_rfl) (fun _ _ _ h => h) (by rfl) hS0 (fun wl hSw => ?_) ?_
 ·(try dsimp only at hSw); go_simp
 refine wpAnyF_free (i:=8) (v:=.slice (some ⟨g,0,none⟩) n cap) rfl (by kernel_rfl) (by kernel_rfl) (by kernel_rfl) (by kernel_rfl) (fun _ _ _ h => h) (Or.inl ⟨by rfl,fun wl hSw => ?_⟩) hS0 ?_
 ·(try dsimp only at hSw); go_simp
 refine wpAnyF_free (i:=9) (v:=.int .i64 i) rfl (by kernel_rfl) (by kernel_rfl) (by kernel_rfl) (by kernel_rfl) (fun _ _ _ h => h) (Or.inl ⟨by rfl,fun wl hSw => ?_⟩) hS0 ?_
 ·(try dsimp only at hSw); go_simp
 refine wpAnyF_free (i:=10) (v:=.pointer (some ⟨g,i * 4,none⟩)) rfl (by kernel_rfl) (by kernel_rfl) (by kernel_rfl) (by kernel_rfl) (fun _ _ _ h => h) (Or.inl ⟨by rfl,fun wl hSw => ?_⟩) hS0 ?_
 ·(try dsimp only at hSw); go_simp
 refine tkF (i:=11) (v:=.agg #[.int .i64 pi.st,.int .i64 pi.rd,.int .i64 pi.wt,.int .i64 pi.cost]) rfl (by kernel_rfl) (fun _ _ _ h => h) (by rfl) hS0 (fun wl hSw => ?_) ?_
 ·(try dsimp only at hSw); go_simp
 refine wpAnyF_free (i:=12) (v:=.pointer (some ⟨g,i * 4,none⟩)) rfl (by kernel_rfl) (by kernel_rfl) (by kernel_rfl) (by kernel_rfl) (fun _ _ _ h => h) (Or.inl ⟨by rfl,fun wl hSw => ?_⟩) hS0 ?_
 ·(try dsimp only at hSw); go_simp
 refine wpAnyF_one (i:=13) rfl (by kernel_rfl) (fun K hK => ?_)
 go_simp
 refine hK.out _ _ ⟨fun h => absurd h (unl_no (by kernel_rfl)),?_⟩
 clear hK K
 refine wpAnyF_one (i:=14) rfl (by kernel_rfl) (fun K hK => ?_)
 go_simp
 refine hK.out _ _ ⟨fun h => absurd h (unl_no (by kernel_rfl)),?_⟩
 clear hK K
 refine wpAnyF_one (i:=15) rfl (by kernel_rfl) (fun K hK => ?_)
 go_simp
 refine hK.out _ _ ⟨fun h => absurd h (unl_no (by kernel_rfl)),?_⟩
 clear hK K
 refine wpAnyF_done (by kernel_rfl) ?_ _
 refine NoPanic.normal ?_
 go_wp2
 go_end0
 exact ⟨rfl,by rw [<- HW.out]; rfl⟩
theorem qSwap (i j g n cap base : Nat) (L : List PlD) (w : World) (h : w.ownsRow base 123 4 (.slice (some ⟨g,0,none⟩) n cap) n (plsV L)) (hi : i < n) (hj : j < n) :
  Calls Try.prog 135 #[.slice (some ⟨g,0,none⟩) n cap,.int .i64 i,.int .i64 j] w fun e w' => e = .returned (.tuple #[]) /\ w' = setPl (setPl w.drew g (i * 4) (L.getD j p0)) g (j * 4) (L.getD i p0):=by
 by_cases hij : i = j
 ·subst hij; exact qSwap_one i g n cap base L w h hi
 ·exact qSwap_any i j g n cap base L w h hi hj hij
theorem row_swap {w : World} {B e g n cap : Nat} {L : List PlD} (h : w.ownsRow B e 4 (.slice (some ⟨g,0,none⟩) n cap) n (plsV L)) (i j : Nat) (hi : i < n) (hj : j < n) : (setPl (setPl w.drew g (i * 4) (L.getD j p0)) g (j * 4) (L.getD i p0)).ownsRow B e 4 (.slice (some ⟨g,0,none⟩) n cap) n (plsV (swapL p0 L i j)) :=
 row_setPl (row_setPl (ownsRow_bel h (bel_self w).drew) i hi _) j hj _
theorem QAt.swap {base B g cap : Nat} {w : World} {L : List PlD} {n : Nat} (hn : L.length = n) (h : QAt base B w (.slice (some ⟨g,0,none⟩) n cap) L) (i j : Nat) (hi : i < n) (hj : j < n) :
  QAt base B (setPl (setPl w.drew g (i * 4) (L.getD j p0)) g (j * 4) (L.getD i p0)) (.slice (some ⟨g,0,none⟩) n cap) (swapL p0 L i j) /\ QStep B w (.slice (some ⟨g,0,none⟩) n cap) (setPl (setPl w.drew g (i * 4) (L.getD j p0)) g (j * 4) (L.getD i p0)) (.slice (some ⟨g,0,none⟩) n cap):=by
 subst hn
 have hgB : g ≠ B:=fun e => h.ne (by rw [<- e]; rfl)
 have hst : QStep B w (.slice (some ⟨g,0,none⟩) L.length cap) (setPl (setPl w.drew g (i * 4) (L.getD j p0)) g (j * 4) (L.getD i p0)) (.slice (some ⟨g,0,none⟩) L.length cap) :=
  ((QStep.bel (cell_lt h.cell) (bel_self w).drew).trans (QStep.rowPl rfl hgB)).trans (QStep.rowPl rfl hgB)
 have hc : ∀ (W : World) (k : Nat) (p : PlD),(setPl W g k p).cell? ⟨B,8,none⟩ = W.cell? ⟨B,8,none⟩:=fun W k p => by
  unfold setPl
  rw [set_far (Ne.symm hgB),set_far (Ne.symm hgB),set_far (Ne.symm hgB),set_far (Ne.symm hgB)]
 refine ⟨⟨?_,?_,?_,h.ne,Nat.le_trans h.base_le hst.size⟩,hst⟩
 ·rw [hc,hc]; exact drew_cell h.cell
 ·exact (hst.frz 8).trans h.frz
 ·rw [swapL_len]; exact row_swap h.row i j hi hj
end Go.Proofs.Yteehgcbjmdideab
/- The queue's methods,called through the interface. -/
namespace Go.Proofs.Yteehgcbjmdideab
open Go.RowKit
attribute [local go_sem ↓] Go.wp_at_zero Go.wp_at_succ
theorem mth_push (a : Addr) (w : World) : (method 275 125 (.pointer (some a)) "Push").run Try.prog w = .ok (137, .pointer (some a)) w := by kernel_rfl
theorem mth_pop (a : Addr) (w : World) : (method 275 125 (.pointer (some a)) "Pop").run Try.prog w = .ok (136, .pointer (some a)) w := by kernel_rfl
theorem wrap_ok (t : TypeId) (a : Addr) (s : String) (P : Program) (w : World) : (Builtin.ssaWrapNilChk_ #[t] t #[.pointer (some a), strVal "", strVal s]).run P w = .ok (.pointer (some a)) w := rfl
theorem mth_val (name : String) (K : Nat) (hm : (Try.prog.info? 125).bind (fun i => (i.methods.find? (·.name == name)).map fun m => (m.func,m.path.toList)) = some (some (K,false),[])) (a : Addr) (v : Value) (w : World) (h : w.cell? a = some v) :
  (method 275 125 (.pointer (some a)) name).run Try.prog w = .ok (K,v) w:=by
 cases hi : Try.prog.info? 125 with
 | none => rw [hi] at hm; cases hm
 | some i =>
  rw [hi] at hm
  cases hf : i.methods.find? (·.name == name) with
  | none => simp [hf] at hm
  | some m =>
   have h2 : m.func = some (K,false) /\ m.path.toList = []:=by simpa [hf] using hm
   have h3 : m.path = #[]:=by
    apply Array.ext'
    simpa using h2.2
   unfold method
   simp [typeInfo,hi,hf,h2.1,h3,follow,receiverAt,Place.get,wrap_ok,h,go_sem]
theorem mth_len (a : Addr) (v : Value) (w : World) (h : w.cell? a = some v) : (method 275 125 (.pointer (some a)) "Len").run Try.prog w = .ok (99, v) w := mth_val "Len" _ (by kernel_rfl) a v w h
theorem mth_less (a : Addr) (v : Value) (w : World) (h : w.cell? a = some v) : (method 275 125 (.pointer (some a)) "Less").run Try.prog w = .ok (134, v) w := mth_val "Less" _ (by kernel_rfl) a v w h
theorem mth_swap (a : Addr) (v : Value) (w : World) (h : w.cell? a = some v) : (method 275 125 (.pointer (some a)) "Swap").run Try.prog w = .ok (135, v) w := mth_val "Swap" _ (by kernel_rfl) a v w h
end Go.Proofs.Yteehgcbjmdideab
/- 'up' of container/heap,over the queue. -/
namespace Go.Proofs.Yteehgcbjmdideab
open Go.RowKit
attribute [local go_sem ↓] Go.wp_at_zero Go.wp_at_succ
theorem half (k : Nat) (hk : 0 < k) : ((k : Int) - 1).tdiv 2 = (((k - 1) / 2 : Nat) : Int):=by
 have e : (k : Int) - 1 = ((k - 1 : Nat) : Int):=by omega
 rw [e,show (2 : Int) = ((2 : Nat) : Int) from rfl,<- Int.ofNat_tdiv]
def QPerm (base B : Nat) (w : World) (v : Value) (L : List PlD) (n : Nat) (w' : World) : Prop :=
 ∃ L',L'.Perm L /\ HeapL PlD.cost p0 L' n /\ QAt base B w' v L' /\ QStep B w v w' v
set_option maxHeartbeats 1000000 in
theorem up_any (B g n cap base j : Nat) (L : List PlD) (w : World) (hn : L.length = n) (hN : n <= 4000000000) (h : QAt base B w (.slice (some ⟨g,0,none⟩) n cap) L) (hj : j < n) (hu : UpOk PlD.cost p0 L n j) :
  Calls Try.prog 117 #[.iface 125 (.pointer (some ⟨B,8,none⟩)),.int .i64 j] w fun e w' => e = .returned (.tuple #[]) /\ QPerm base B w (.slice (some ⟨g,0,none⟩) n cap) L n w':=by
 go_enter Try.func117,Try.ntmps117
 go_wp2
 go_loopw [1] (fun i wr => ∃ (k : Nat) (L' : List PlD),k < n /\ i = .int .i64 k /\ L'.Perm L /\ UpOk PlD.cost p0 L' n k /\ QAt base B wr (.slice (some ⟨g,0,none⟩) n cap) L' /\ QStep B w (.slice (some ⟨g,0,none⟩) n cap) wr (.slice (some ⟨g,0,none⟩) n cap)) (fun i _ => (intOf i).toNat)
 case atStart => exact ⟨j,L,hj,rfl,List.Perm.refl _,hu,h,QStep.refl⟩
 case round =>
  obtain ⟨k,L',hk,rfl,hp,hU,hq,hs⟩:=hrel
  have HP : Hid (L'.Perm L):=hp
  have HU : Hid (UpOk PlD.cost p0 L' n k):=hU
  have HL : Hid (L'.length = n):=hp.length_eq.trans hn
  have hml:=mth_less ⟨B,8,none⟩ _ wr hq.cell
  clear hp hU hu hn
  by_cases h0 : k = 0
  ·subst h0
   go_wp2
   go_end0
   exact ⟨rfl,L',HP.out,HU.out.done (Or.inl rfl),hq,hs⟩
  ·obtain ⟨p,hpk⟩ : ∃ p,p = (k - 1) / 2:=⟨_,rfl⟩
   have hh:=half k (by omega)
   rw [<- hpk] at hh
   have hpk2 : p < k:=by omega
   have hpn : p < n:=by omega
   have hne : ((p : Int) == (k : Int)) = false:=by simpa using (by omega : ¬ (p : Int) = k)
   have hk1 : (1 : Int) <= k:=by omega
   have HPK : Hid (p = (k - 1) / 2):=hpk
   have hrow:=hq.row
   rw [HL.out] at hrow
   clear hpk h0
   by_cases hlt : (L'.getD k p0).cost < (L'.getD p p0).cost
   ·have HLT : Hid ((L'.getD k p0).cost < (L'.getD p p0).cost):=hlt
    have hless:=qLess_any k p g n cap L' wr (PlsAt.of hrow) hk hpn true (by simpa using hlt)
    clear hlt
    go_wp2_with (first
     | (go_at_call 134; refine hless.mono ?_; rintro e w1 ⟨rfl,hb1⟩; have hms:=mth_swap ⟨B,8,none⟩ _ w1 (bel_c hb1 hq.cell))
     | (go_at_call 135; refine (qSwap p k g n cap base L' w1 (ownsRow_bel hrow hb1) hpn hk).mono ?_; rintro e w2 ⟨rfl,hw2⟩; obtain ⟨r1,r2⟩:=(hq.bel hb1).swap HL.out p k hpn hk; rw [<- hw2] at r1 r2; clear hw2))
    have HSP : Hid ((swapL p0 L' p k).Perm L /\ UpOk PlD.cost p0 (swapL p0 L' p k) n p):=by
     have hl:=HL.out
     have h1 : (swapL p0 L' p k).Perm L':=swapL_perm (d:=p0) L' p k (by omega) (by omega)
     have h2:=HU.out.step (by omega) hk (by omega) (by rw [<- HPK.out]; exact HLT.out)
     rw [<- HPK.out] at h2
     exact ⟨h1.trans HP.out,h2⟩
    go_roundw
    case rel => exact ⟨p,swapL p0 L' p k,hpn,rfl,HSP.out.1,HSP.out.2,r1,(hs.trans (QStep.bel (cell_lt hq.cell) hb1)).trans r2⟩
    case measure => simp [intOf]; omega
   ·have HLT : Hid (¬ (L'.getD k p0).cost < (L'.getD p p0).cost):=hlt
    have hless:=qLess_any k p g n cap L' wr (PlsAt.of hrow) hk hpn false (by simpa using hlt)
    clear hlt
    go_wp2_with (go_at_call 134; refine hless.mono ?_; rintro e w1 ⟨rfl,hb1⟩)
    go_end0
    exact ⟨rfl,L',HP.out,HU.out.done (Or.inr (by rw [<- HPK.out]; have:=HLT.out; omega)),hq.bel hb1,hs.trans (QStep.bel (cell_lt hq.cell) hb1)⟩
end Go.Proofs.Yteehgcbjmdideab
