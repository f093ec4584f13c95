/- A region that draws its order and whose last operation,number k,waits for all the others: a load may be taken first where nobody but k writes its cell. What is held need not outlive k. -/
import Derived.OrdersHeld
import Derived.Deep.RegionHeld
import Derived.Deep.DrawnRows
import Derived.Test.YteehgcbjmdideabVM01
import Derived.Deep.AppendLies
import Derived.Deep.RegionHeld3
namespace Go.Proofs.Yteehgcbjmdideab
open Go
section
variable {P : Program} {ops : Array Oper} {Q : Exit -> Act -> World -> Prop} {md : Region.Mode} {S : World -> Prop} {k : Nat}
def wpAnyU (P : Program) (md : Region.Mode) (ops : Array Oper) (Q : Exit -> Act -> World -> Prop) (S : World -> Prop) (k : Nat) : Nat -> Array Bool -> Act -> World -> Prop
 | 0,listed,a,w => Region.ready md ops listed = [] /\ Q .normal a w
 | fuel + 1,listed,a,w =>
  (Region.ready md ops listed = [] -> Q .normal a w) /\
  ∀ i ∈ Region.ready md ops listed,wpOp P ops Q i (fun a' w' => (i ≠ k -> S w') /\ wpAnyU P md ops Q S k fuel (listed.setIfInBounds i true) a' w') a w
theorem wpAny_of_U : ∀ (fuel : Nat) (listed : Array Bool) (a : Act) (w : World),wpAnyU P md ops Q S k fuel listed a w -> wpAny P md ops Q fuel listed a w
 | 0,_,_,_,h => h
 | fuel + 1,_,_,_,h => ⟨h.1,fun i hi => wpOp_mono (fun a' w' h' => wpAny_of_U fuel _ a' w' h'.2) (h.2 i hi)⟩
theorem ready_not_on {listed : Array Bool} {i j : Nat} {oj : Oper} (hr : i ∈ Region.ready md ops listed) (hj : j ∈ Region.ready md ops listed) (hoj : ops[j]? = some oj) :
  ∀ e ∈ oj.after,Region.binds md e = true -> e.on ≠ i:=by
 obtain ⟨_,o,ho,hall⟩:=mem_ready.1 hj
 rw [hoj] at ho
 injection ho with ho
 subst ho
 have hun:=(mem_ready.1 hr).1
 rintro e he hb rfl
 have hl:=hall e he hb
 by_cases hs : e.on < listed.size
 ·simp only [Array.getD_eq_getD_getElem?,Array.getElem?_eq_getElem hs,Option.getD_some] at hun hl
  exact Bool.noConfusion (hun.symm.trans hl)
 ·simp only [Array.getD_eq_getD_getElem?,Array.getElem?_eq_none (Nat.le_of_not_lt hs),Option.getD_none] at hl
  cases hl
structure CanWait (P : Program) (md : Region.Mode) (ops : Array Oper) (Q : Exit -> Act -> World -> Prop) (S : World -> Prop) (k i : Nat) (oi : Oper) (v : Value) (fuel : Nat) (listed : Array Bool) (a : Act) (w : World) : Prop where
 up : i ∈ Region.ready md ops listed
 apart : ∀ j oj,ops[j]? = some oj -> j ≠ i -> listed.getD j true = false -> (∀ e ∈ oj.after,Region.binds md e = true -> e.on ≠ i) -> oi.apart ops oj = true
 val : YieldsIf P ops S oi v a
 holds : S w
 taken : wpAnyU P md ops Q S k fuel (listed.setIfInBounds i true) (a.put oi.dst v) w
section
variable {i : Nat} {oi : Oper} {v : Value}
theorem CanWait.other (hi : ops[i]? = some oi) (hsel : ∀ (j : Nat) (o : Oper) cs b,ops[j]? = some o -> o.op ≠ .select cs b)
  (hk : i ≠ k /\ ∀ ok,ops[k]? = some ok -> ∃ e ∈ ok.after,Region.binds md e = true /\ e.on = i)
  (hQ : ∀ c a w,Q (.panic c) (a.put oi.dst v) w -> Q (.panic c) a w) {fuel j : Nat} {listed : Array Bool} {a : Act} {w : World}
  (h : CanWait P md ops Q S k i oi v (fuel + 1) listed a w) (hj : j ∈ Region.ready md ops listed) (hne : j ≠ i) :
  wpOp P ops Q j (fun a' w' => (j ≠ k -> S w') /\ CanWait P md ops Q S k i oi v fuel (listed.setIfInBounds j true) a' w') a w:=by
 obtain ⟨hun,oj,hoj,_⟩:=mem_ready.1 hj
 have hno:=ready_not_on h.up hj hoj
 have hjk : j ≠ k:=by
  rintro rfl
  obtain ⟨e,he,hb,hon⟩:=hk.2 oj hoj
  exact hno e he hb hon
 have hstep:=h.taken.2 j (ready_mono hj hne)
 rw [Array.setIfInBounds_comm _ _ (Ne.symm hne)] at hstep
 refine wpOp_mono ?_ (wpOp_putIf hoj (h.apart j oj hoj hne hun hno) (hsel i oi · · hi) (hsel j oj · · hoj) hQ h.val hstep)
 rintro a' w' ⟨hval,hS,hrest⟩
 refine ⟨hS,ready_mono h.up (Ne.symm hne),fun m om hm hmi hml hmo => h.apart m om hm hmi ?_ hmo,hval,hS hjk,hrest⟩
 by_cases hjm : j = m
 ·exact hjm ▸ hun
 ·rwa [getD_set_ne true hjm] at hml
theorem CanWait.any (hi : ops[i]? = some oi) (hsel : ∀ (j : Nat) (o : Oper) cs b,ops[j]? = some o -> o.op ≠ .select cs b)
  (hk : i ≠ k /\ ∀ ok,ops[k]? = some ok -> ∃ e ∈ ok.after,Region.binds md e = true /\ e.on = i)
  (hQ : ∀ c a w,Q (.panic c) (a.put oi.dst v) w -> Q (.panic c) a w) (fuel : Nat) :
  ∀ {listed : Array Bool} {a : Act} {w : World},CanWait P md ops Q S k i oi v fuel listed a w -> wpAnyU P md ops Q S k (fuel + 1) listed a w:=by
 induction fuel with
 | zero =>
  intro listed a w h
  refine ⟨fun hnil => absurd h.up (by simp [hnil]),fun j hj => ?_⟩
  rcases Nat.decEq j i with hne | rfl
  ·exact absurd (ready_mono hj hne) (by simp [h.taken.1])
  ·exact h.val.wpOp hi h.holds ⟨fun _ => h.holds,h.taken⟩
 | succ fuel ih =>
  intro listed a w h
  refine ⟨fun hnil => absurd h.up (by simp [hnil]),fun j hj => ?_⟩
  rcases Nat.decEq j i with hne | rfl
  ·exact wpOp_mono (fun _ _ hc => ⟨hc.1,ih hc.2⟩) (h.other hi hsel hk hQ hj hne)
  ·exact h.val.wpOp hi h.holds ⟨fun _ => h.holds,h.taken⟩
end
def waits (md : Region.Mode) (ops : Array Oper) (k i : Nat) : Bool:=i != k && ((ops[k]?).map (·.after.any fun e => Region.binds md e && e.on == i)).getD true
theorem waits_spec {i : Nat} (h : waits md ops k i = true) : i ≠ k /\ ∀ ok,ops[k]? = some ok -> ∃ e ∈ ok.after,Region.binds md e = true /\ e.on = i:=by
 unfold waits at h
 rw [Bool.and_eq_true] at h
 refine ⟨by simpa using h.1,fun ok hok => ?_⟩
 have h2:=h.2
 rw [hok] at h2
 simp only [Option.map_some,Option.getD_some,Array.any_eq_true] at h2
 obtain ⟨j,hj,h3⟩:=h2
 rw [Bool.and_eq_true] at h3
 exact ⟨ok.after[j],Array.getElem_mem hj,h3.1,by simpa using h3.2⟩
theorem wpAnyU_take {i : Nat} {oi : Oper} {v : Value} {fuel : Nat} {listed : Array Bool} {a : Act} {w : World} (hi : ops[i]? = some oi)
  (hs : Region.noSelect ops = true) (hf : Region.free md ops listed i = true) (hr : (Region.ready md ops listed).contains i = true) (hk : waits md ops k i = true)
  (hQ : ∀ c a w,Q (.panic c) (a.put oi.dst v) w -> Q (.panic c) a w) (hy : YieldsIf P ops S oi v a) (hS : S w)
  (h : wpAnyU P md ops Q S k fuel (listed.setIfInBounds i true) (a.put oi.dst v) w) : wpAnyU P md ops Q S k (fuel + 1) listed a w :=
 CanWait.any hi (Region.noSelect_spec hs) (waits_spec hk) hQ fuel ⟨by simpa using hr,Region.free_spec hi hf,hy,hS,h⟩
theorem tkU {i : Nat} {oi : Oper} {v : Value} {fuel : Nat} {listed : Array Bool} {a : Act} {w : World} (hi : ops[i]? = some oi)
 (hk : (Region.noSelect ops && Region.free md ops listed i && (Region.ready md ops listed).contains i && waits md ops k i) = true) (hQ : ∀ c a w, Q (.panic c) (a.put oi.dst v) w → Q (.panic c) a w) (hw : Region.wanted oi (yielded ops a.tmps) = true) (hS : S w)
 (hv : ∀ w, S w → (execOp a.eval oi).run P w = .ok (.value v) w) (h : wpAnyU P md ops Q S k fuel (listed.setIfInBounds i true) (a.put oi.dst v) w) : wpAnyU P md ops Q S k (fuel + 1) listed a w := by
 rw [Bool.and_eq_true, Bool.and_eq_true, Bool.and_eq_true] at hk
 exact wpAnyU_take hi hk.1.1.1 hk.1.1.2 hk.1.2 hk.2 hQ (Or.inl ⟨hw, hv⟩) hS h
theorem wpAnyU_one {i : Nat} {o : Oper} {fuel : Nat} {listed : Array Bool} {a : Act} {w : World} (ho : ops[i]? = some o) (hr : Region.ready md ops listed = [i])
  (h : ∀ K' : Act -> World -> Prop,Shut (∀ a w,((i ≠ k -> S w) /\ wpAnyU P md ops Q S k fuel (listed.setIfInBounds i true) a w) -> K' a w) -> if Region.wanted o (yielded ops a.tmps) = true then Oper.wp P o a w K' Q else K' (a.put o.dst undef) w) : wpAnyU P md ops Q S k (fuel + 1) listed a w:=by
 refine ⟨fun h0 => (by rw [hr] at h0; cases h0),fun j hj => ?_⟩
 rw [hr] at hj
 have : j = i:=by simpa using hj
 subst this
 exact wpOp_step ho (fun K' hK => h K' (fun a w hS => hK a w hS))
theorem wpAnyU_done {listed : Array Bool} {a : Act} {w : World} (hr : Region.ready md ops listed = []) (h : Q .normal a w) :
  ∀ fuel,wpAnyU P md ops Q S k fuel listed a w
 | 0 => ⟨hr,h⟩
 | _ + 1 => ⟨fun _ => h,by rw [hr]; simp⟩
theorem wp_region_U (S : World -> Prop) (k : Nat) {id : Nat} {a : Act} {w : World} (hm : P.follows .mixedOrders = true) (hS : S w.drew)
  (h : S w.drew -> wpAnyU P .any ops Q S k ops.size (Array.replicate ops.size false) a w.drew) : (Code.region id ops true).wp P Q a w :=
 wp_region_any hm (wpAny_of_U _ _ _ _ (h hS))
end
end Go.Proofs.Yteehgcbjmdideab
/- A region that draws its order,some of whose operations are fatal to what is held: a load may be taken first where all the fatal ones wait for it; what looks at no memory may be taken first in any case. What is held need hold only till a fatal one has come up. -/
namespace Go.Proofs.Yteehgcbjmdideab
open Go
section
variable {P : Program} {ops : Array Oper} {Q : Exit -> Act -> World -> Prop} {md : Region.Mode} {S : World -> Prop} {fatal : List Nat}
def unl (fatal : List Nat) (listed : Array Bool) : Prop:=∀ k ∈ fatal,listed.getD k false = false
theorem getD_set (listed : Array Bool) (i k : Nat) (h : i ≠ k) : (listed.setIfInBounds i true).getD k false = listed.getD k false:=by
 simp only [Array.getD_eq_getD_getElem?,Array.getElem?_setIfInBounds_ne h]
theorem unl_set {listed : Array Bool} {i : Nat} (hi : i ∉ fatal) : unl fatal (listed.setIfInBounds i true) ↔ unl fatal listed:=by
 unfold unl
 constructor
 ·intro h k hk
  rw [<- getD_set listed i k (fun e => hi (e ▸ hk))]
  exact h k hk
 ·intro h k hk
  rw [getD_set listed i k (fun e => hi (e ▸ hk))]
  exact h k hk
def wpAnyF (P : Program) (md : Region.Mode) (ops : Array Oper) (Q : Exit -> Act -> World -> Prop) (S : World -> Prop) (fatal : List Nat) : Nat -> Array Bool -> Act -> World -> Prop
 | 0,listed,a,w => Region.ready md ops listed = [] /\ Q .normal a w
 | fuel + 1,listed,a,w =>
  (Region.ready md ops listed = [] -> Q .normal a w) /\
  ∀ i ∈ Region.ready md ops listed,wpOp P ops Q i (fun a' w' => (unl fatal (listed.setIfInBounds i true) -> S w') /\ wpAnyF P md ops Q S fatal fuel (listed.setIfInBounds i true) a' w') a w
theorem wpAny_of_F : ∀ (fuel : Nat) (listed : Array Bool) (a : Act) (w : World),wpAnyF P md ops Q S fatal fuel listed a w -> wpAny P md ops Q fuel listed a w
 | 0,_,_,_,h => h
 | fuel + 1,_,_,_,h => ⟨h.1,fun i hi => wpOp_mono (fun a' w' h' => wpAny_of_F fuel _ a' w' h'.2) (h.2 i hi)⟩
structure CanF (P : Program) (md : Region.Mode) (ops : Array Oper) (Q : Exit -> Act -> World -> Prop) (S R : World -> Prop) (fatal : List Nat) (i : Nat) (oi : Oper) (v : Value) (fuel : Nat) (listed : Array Bool) (a : Act) (w : World) : Prop where
 up : i ∈ Region.ready md ops listed
 apart : ∀ j oj,ops[j]? = some oj -> j ≠ i -> listed.getD j true = false -> (∀ e ∈ oj.after,Region.binds md e = true -> e.on ≠ i) -> oi.apart ops oj = true
 val : YieldsIf P ops R oi v a
 known : R w
 holds : unl fatal listed -> S w
 taken : wpAnyF P md ops Q S fatal fuel (listed.setIfInBounds i true) (a.put oi.dst v) w
section
variable {i : Nat} {oi : Oper} {v : Value} {R : World -> Prop}
theorem CanF.other (hi : ops[i]? = some oi) (hsel : ∀ (j : Nat) (o : Oper) cs b,ops[j]? = some o -> o.op ≠ .select cs b) (hif : i ∉ fatal)
  (hQ : ∀ c a w,Q (.panic c) (a.put oi.dst v) w -> Q (.panic c) a w) {fuel j : Nat} {listed : Array Bool} {a : Act} {w : World}
  (hR : ∀ w',(unl fatal (listed.setIfInBounds j true) -> S w') -> R w')
  (h : CanF P md ops Q S R fatal i oi v (fuel + 1) listed a w) (hj : j ∈ Region.ready md ops listed) (hne : j ≠ i) :
  wpOp P ops Q j (fun a' w' => (unl fatal (listed.setIfInBounds j true) -> S w') /\ CanF P md ops Q S R fatal i oi v fuel (listed.setIfInBounds j true) a' w') a w:=by
 obtain ⟨hun,oj,hoj,_⟩:=mem_ready.1 hj
 have hno:=ready_not_on h.up hj hoj
 have hstep:=h.taken.2 j (ready_mono hj hne)
 rw [Array.setIfInBounds_comm _ _ (Ne.symm hne)] at hstep
 refine wpOp_mono ?_ (wpOp_putIf hoj (h.apart j oj hoj hne hun hno) (hsel i oi · · hi) (hsel j oj · · hoj) hQ h.val hstep)
 rintro a' w' ⟨hval,hS,hrest⟩
 have hS' : unl fatal (listed.setIfInBounds j true) -> S w':=fun hu => hS ((unl_set hif).2 hu)
 refine ⟨hS',ready_mono h.up (Ne.symm hne),fun m om hm hmi hml hmo => h.apart m om hm hmi ?_ hmo,hval,hR w' hS',hS',hrest⟩
 by_cases hjm : j = m
 ·exact hjm ▸ hun
 ·rwa [getD_set_ne true hjm] at hml
theorem CanF.free (hi : ops[i]? = some oi) (hsel : ∀ (j : Nat) (o : Oper) cs b,ops[j]? = some o -> o.op ≠ .select cs b) (hif : i ∉ fatal)
  (hQ : ∀ c a w,Q (.panic c) (a.put oi.dst v) w -> Q (.panic c) a w) (fuel : Nat) :
  ∀ {listed : Array Bool} {a : Act} {w : World},CanF P md ops Q S (fun _ => True) fatal i oi v fuel listed a w -> wpAnyF P md ops Q S fatal (fuel + 1) listed a w:=by
 induction fuel with
 | zero =>
  intro listed a w h
  refine ⟨fun hnil => absurd h.up (by simp [hnil]),fun j hj => ?_⟩
  rcases Nat.decEq j i with hne | rfl
  ·exact absurd (ready_mono hj hne) (by simp [h.taken.1])
  ·exact h.val.wpOp hi trivial ⟨fun hu => h.holds ((unl_set hif).1 hu),h.taken⟩
 | succ fuel ih =>
  intro listed a w h
  refine ⟨fun hnil => absurd h.up (by simp [hnil]),fun j hj => ?_⟩
  rcases Nat.decEq j i with hne | rfl
  ·exact wpOp_mono (fun _ _ hc => ⟨hc.1,ih hc.2⟩) (h.other hi hsel hif hQ (fun _ _ => trivial) hj hne)
  ·exact h.val.wpOp hi trivial ⟨fun hu => h.holds ((unl_set hif).1 hu),h.taken⟩
theorem CanF.held (hi : ops[i]? = some oi) (hsel : ∀ (j : Nat) (o : Oper) cs b,ops[j]? = some o -> o.op ≠ .select cs b) (hif : i ∉ fatal)
  (hk : ∀ k ∈ fatal,waits md ops k i = true) (hQ : ∀ c a w,Q (.panic c) (a.put oi.dst v) w -> Q (.panic c) a w) (fuel : Nat) :
  ∀ {listed : Array Bool} {a : Act} {w : World},unl fatal listed -> CanF P md ops Q S S fatal i oi v fuel listed a w -> wpAnyF P md ops Q S fatal (fuel + 1) listed a w:=by
 induction fuel with
 | zero =>
  intro listed a w hu h
  refine ⟨fun hnil => absurd h.up (by simp [hnil]),fun j hj => ?_⟩
  rcases Nat.decEq j i with hne | rfl
  ·exact absurd (ready_mono hj hne) (by simp [h.taken.1])
  ·exact h.val.wpOp hi h.known ⟨fun _ => h.known,h.taken⟩
 | succ fuel ih =>
  intro listed a w hu h
  refine ⟨fun hnil => absurd h.up (by simp [hnil]),fun j hj => ?_⟩
  rcases Nat.decEq j i with hne | rfl
  ·have hjf : j ∉ fatal:=by
    intro hm
    obtain ⟨_,oj,hoj,_⟩:=mem_ready.1 hj
    obtain ⟨e,he,hb,hon⟩:=(waits_spec (hk j hm)).2 oj hoj
    exact ready_not_on h.up hj hoj e he hb hon
   have hu' : unl fatal (listed.setIfInBounds j true):=(unl_set hjf).2 hu
   exact wpOp_mono (fun _ _ hc => ⟨hc.1,ih hu' hc.2⟩) (h.other hi hsel hif hQ (fun _ hS => hS hu') hj hne)
  ·exact h.val.wpOp hi h.known ⟨fun _ => h.known,h.taken⟩
end
def unlB (fatal : List Nat) (listed : Array Bool) : Bool:=fatal.all fun k => listed.getD k false == false
theorem unlB_spec {listed : Array Bool} (h : unlB fatal listed = true) : unl fatal listed:=fun k hk => by
 have:=List.all_eq_true.1 h k hk
 simpa using this
theorem wpAnyF_take {i : Nat} {oi : Oper} {v : Value} {fuel : Nat} {listed : Array Bool} {a : Act} {w : World} (hi : ops[i]? = some oi)
  (hs : Region.noSelect ops = true) (hf : Region.free md ops listed i = true) (hr : (Region.ready md ops listed).contains i = true) (hk : (!fatal.contains i && unlB fatal listed && fatal.all fun k => waits md ops k i) = true)
  (hQ : ∀ c a w,Q (.panic c) (a.put oi.dst v) w -> Q (.panic c) a w) (hy : YieldsIf P ops S oi v a) (hS : S w)
  (h : wpAnyF P md ops Q S fatal fuel (listed.setIfInBounds i true) (a.put oi.dst v) w) : wpAnyF P md ops Q S fatal (fuel + 1) listed a w:=by
 rw [Bool.and_eq_true,Bool.and_eq_true] at hk
 exact CanF.held hi (Region.noSelect_spec hs) (by simpa using hk.1.1) (fun k hm => List.all_eq_true.1 hk.2 k hm) hQ fuel (unlB_spec hk.1.2) ⟨by simpa using hr,Region.free_spec hi hf,hy,hS,fun _ => hS,h⟩
theorem tkF {i : Nat} {oi : Oper} {v : Value} {fuel : Nat} {listed : Array Bool} {a : Act} {w : World} (hi : ops[i]? = some oi)
 (hk : (Region.noSelect ops && Region.free md ops listed i && (Region.ready md ops listed).contains i && (!fatal.contains i && unlB fatal listed && fatal.all fun k => waits md ops k i)) = true) (hQ : ∀ c a w, Q (.panic c) (a.put oi.dst v) w → Q (.panic c) a w) (hw : Region.wanted oi (yielded ops a.tmps) = true) (hS : S w)
 (hv : ∀ w, S w → (execOp a.eval oi).run P w = .ok (.value v) w) (h : wpAnyF P md ops Q S fatal fuel (listed.setIfInBounds i true) (a.put oi.dst v) w) : wpAnyF P md ops Q S fatal (fuel + 1) listed a w := by
 rw [Bool.and_eq_true, Bool.and_eq_true, Bool.and_eq_true] at hk
 exact wpAnyF_take hi hk.1.1.1 hk.1.1.2 hk.1.2 hk.2 hQ (Or.inl ⟨hw, hv⟩) hS h
theorem wpAnyF_free {i : Nat} {oi : Oper} {v : Value} {fuel : Nat} {listed : Array Bool} {a : Act} {w : World} (hi : ops[i]? = some oi)
  (hs : Region.noSelect ops = true) (hf : Region.free md ops listed i = true) (hr : (Region.ready md ops listed).contains i = true) (hk : (!fatal.contains i) = true)
  (hQ : ∀ c a w,Q (.panic c) (a.put oi.dst v) w -> Q (.panic c) a w) (hy : YieldsIf P ops (fun _ => True) oi v a) (hS : S w)
  (h : wpAnyF P md ops Q S fatal fuel (listed.setIfInBounds i true) (a.put oi.dst v) w) : wpAnyF P md ops Q S fatal (fuel + 1) listed a w :=
 CanF.free hi (Region.noSelect_spec hs) (by simpa using hk) hQ fuel ⟨by simpa using hr,Region.free_spec hi hf,hy,trivial,fun _ => hS,h⟩
theorem wpAnyF_one {i : Nat} {o : Oper} {fuel : Nat} {listed : Array Bool} {a : Act} {w : World} (ho : ops[i]? = some o) (hr : Region.ready md ops listed = [i])
  (h : ∀ K' : Act -> World -> Prop,Shut (∀ a w,((unl fatal (listed.setIfInBounds i true) -> S w) /\ wpAnyF P md ops Q S fatal fuel (listed.setIfInBounds i true) a w) -> K' a w) -> if Region.wanted o (yielded ops a.tmps) = true then Oper.wp P o a w K' Q else K' (a.put o.dst undef) w) : wpAnyF P md ops Q S fatal (fuel + 1) listed a w:=by
 refine ⟨fun h0 => (by rw [hr] at h0; cases h0),fun j hj => ?_⟩
 rw [hr] at hj
 have : j = i:=by simpa using hj
 subst this
 exact wpOp_step ho (fun K' hK => h K' (fun a w hS => hK a w hS))
theorem wpAnyF_done {listed : Array Bool} {a : Act} {w : World} (hr : Region.ready md ops listed = []) (h : Q .normal a w) :
  ∀ fuel,wpAnyF P md ops Q S fatal fuel listed a w
 | 0 => ⟨hr,h⟩
 | _ + 1 => ⟨fun _ => h,by rw [hr]; simp⟩
theorem unl_no {listed : Array Bool} (h : unlB fatal listed = false) : ¬ unl fatal listed:=fun hu => by
 have : unlB fatal listed = true:=List.all_eq_true.2 fun k hk => by simpa using hu k hk
 rw [h] at this
 cases this
theorem wp_region_F (S : World -> Prop) (fatal : List Nat) {id : Nat} {a : Act} {w : World} (hm : P.follows .mixedOrders = true) (hS : S w.drew)
  (h : S w.drew -> wpAnyF P .any ops Q S fatal ops.size (Array.replicate ops.size false) a w.drew) : (Code.region id ops true).wp P Q a w :=
 wp_region_any hm (wpAny_of_F _ _ _ _ (h hS))
end
end Go.Proofs.Yteehgcbjmdideab
/- The queue in memory: places in a row; what a step on it leaves as it was. -/
namespace Go.Proofs.Yteehgcbjmdideab
open Go.RowKit
attribute [local go_sem ↓] Go.wp_at_zero Go.wp_at_succ
structure PlD where
 st : Nat
 rd : Nat
 wt : Nat
 cost : Int
def p0 : PlD:=⟨0,0,0,0⟩
end Go.Proofs.Yteehgcbjmdideab
/- 'Len','Less','Swap' of the queue. -/
namespace Go.Proofs.Yteehgcbjmdideab
open Go.RowKit
attribute [local go_sem ↓] Go.wp_at_zero Go.wp_at_succ
end Go.Proofs.Yteehgcbjmdideab
/- The queue's methods,called through the interface. -/
namespace Go.Proofs.Yteehgcbjmdideab
open Go.RowKit
attribute [local go_sem ↓] Go.wp_at_zero Go.wp_at_succ
end Go.Proofs.Yteehgcbjmdideab
/- 'up' of container/heap,over the queue. -/
namespace Go.Proofs.Yteehgcbjmdideab
open Go.RowKit
attribute [local go_sem ↓] Go.wp_at_zero Go.wp_at_succ
end Go.Proofs.Yteehgcbjmdideab
