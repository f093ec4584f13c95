/- Transducers as plain data: an arc of five numbers,a transducer; the order of arcs; what Check says. -/
import Derived.Lib.Join
import Derived.Lib.ItoaLen
import Derived.Lib.UnsafeStr
import Derived.Test.YteehgcbjmdideabProg
import Derived.WalkKit
import Derived.WalkSpells
import Derived.WalkLawsBesides
import Derived.Deep.QuietTactic
import Derived.BigQuiet
import Derived.Deep.RegionHeld3
import Derived.Deep.DrawnRows
namespace Go.Proofs.Yteehgcbjmdideab
structure ArcD where
 src : Int
 inp : Int
 out : Int
 dst : Int
 wt : Int
structure FstD where
 states : Int
 start : Int
 final : List Int
 arcs : List ArcD
def a0 : ArcD:=⟨0,0,0,0,0⟩
def decA (x y : ArcD) : Decidable (x = y) :=
 decidable_of_iff (x.src = y.src /\ x.inp = y.inp /\ x.out = y.out /\ x.dst = y.dst /\ x.wt = y.wt) (by cases x; cases y; simp)
def decAs (x y : List ArcD) : Decidable (x = y):=@instDecidableEqList ArcD decA x y
def inB (n a b : Int) : Bool:=decide (a <= n) && decide (n <= b)
def cmpI (a b : Int) : Int:=if a < b then -1 else if b < a then 1 else 0
def orI (xs : List Int) : Int:=(xs.find? (· != 0)).getD 0
def cmpArc (a b : ArcD) : Int:=orI [cmpI a.src b.src,cmpI a.inp b.inp,cmpI a.out b.out,cmpI a.dst b.dst]
def aheadB (a b : ArcD) : Bool :=
 if a.src ≠ b.src then decide (a.src < b.src) else if a.inp ≠ b.inp then decide (a.inp < b.inp) else if a.out ≠ b.out then decide (a.out < b.out) else decide (a.dst < b.dst)
theorem cmpI_neg (a b : Int) : cmpI a b < 0 ↔ a < b:=by unfold cmpI; split <;> (try split) <;> omega
theorem cmpI_zero (a b : Int) : cmpI a b = 0 ↔ a = b:=by unfold cmpI; split <;> (try split) <;> omega
theorem cmpArc_ahead (a b : ArcD) : decide (0 <= cmpArc a b) = !aheadB a b:=by
 unfold cmpArc orI aheadB
 have h0:=cmpI_zero a.src b.src
 have h1:=cmpI_zero a.inp b.inp
 have h2:=cmpI_zero a.out b.out
 have h3:=cmpI_zero a.dst b.dst
 have n0:=cmpI_neg a.src b.src
 have n1:=cmpI_neg a.inp b.inp
 have n2:=cmpI_neg a.out b.out
 have n3:=cmpI_neg a.dst b.dst
 generalize cmpI a.src b.src = c0 at *
 generalize cmpI a.inp b.inp = c1 at *
 generalize cmpI a.out b.out = c2 at *
 generalize cmpI a.dst b.dst = c3 at *
 by_cases e0 : c0 = 0
 ·by_cases e1 : c1 = 0
  ·by_cases e2 : c2 = 0
   ·by_cases e3 : c3 = 0
    ·simp [e0,e1,e2,e3,h0.1 e0,h1.1 e1,h2.1 e2,h3.1 e3]
    ·have e3' : (c3 == 0) = false:=by simpa using e3
     simp [List.find?,e0,e1,e2,bne,e3',h0.1 e0,h1.1 e1,h2.1 e2]
     rw [Bool.eq_iff_iff]; simp; omega
   ·have e2' : (c2 == 0) = false:=by simpa using e2
    simp [List.find?,e0,e1,bne,e2',h0.1 e0,h1.1 e1,mt h2.2 e2]
    rw [Bool.eq_iff_iff]; simp; omega
  ·have e1' : (c1 == 0) = false:=by simpa using e1
   simp [List.find?,e0,bne,e1',h0.1 e0,mt h1.2 e1]
   rw [Bool.eq_iff_iff]; simp; omega
 ·have e0' : (c0 == 0) = false:=by simpa using e0
  simp [List.find?,bne,e0',mt h0.2 e0]
  rw [Bool.eq_iff_iff]; simp; omega
def arcErr (st : Int) (p : Option ArcD) (a : ArcD) : Int :=
 if !inB a.src 0 (st - 1) || !inB a.dst 0 (st - 1) then 5
 else if !inB a.inp 0 9 || !inB a.out 0 9 || !inB a.wt 0 1000000000 then 3
 else match p with
  | some q => if aheadB q a then 0 else 4
  | none => 0
def arcsErr (st : Int) : Option ArcD -> List ArcD -> Int
 | _,[] => 0
 | p,a :: l => if arcErr st p a = 0 then arcsErr st (some a) l else arcErr st p a
def finB (x : Int) : Bool:=(x != -1) && !(inB x 0 1000000000)
def checkD (f : FstD) : Int :=
 if !inB f.states 1 200 then 3
 else if !inB f.start 0 (f.states - 1) then 5
 else if (f.final.length : Int) ≠ f.states then 1
 else if f.final.any finB then 3
 else if 3000 < f.arcs.length then 2
 else arcsErr f.states none f.arcs
def prevA (l : List ArcD) (k : Nat) : Option ArcD:=if k = 0 then none else l[k - 1]?
theorem arcsErr_from (st : Int) (l : List ArcD) (k : Nat) (hk : k <= l.length) (h : ∀ j,j < k -> arcErr st (prevA l j) (l.getD j a0) = 0) : arcsErr st none l = arcsErr st (prevA l k) (l.drop k):=by
 induction k with
 | zero => simp [prevA]
 | succ k ih =>
  rw [ih (by omega) (fun j hj => h j (by omega))]
  have hk' : k < l.length:=by omega
  have e:=h k (by omega)
  have hg : l.getD k a0 = l[k]:=by simp [List.getD,hk']
  rw [hg] at e
  rw [List.drop_eq_getElem_cons hk',arcsErr,if_pos e]
  simp [prevA,hk']
theorem arcsErr_hit (st : Int) (l : List ArcD) (k : Nat) (hk : k < l.length) (h : ∀ j,j < k -> arcErr st (prevA l j) (l.getD j a0) = 0) (he : arcErr st (prevA l k) (l.getD k a0) ≠ 0) :
  arcsErr st none l = arcErr st (prevA l k) (l.getD k a0):=by
 rw [arcsErr_from st l k (by omega) h,List.drop_eq_getElem_cons hk]
 have hg : l.getD k a0 = l[k]:=by simp [List.getD,hk]
 rw [hg] at he ⊢
 rw [arcsErr,if_neg he]
theorem arcsErr_bad (st : Int) (l : List ArcD) (k : Nat) (a : ArcD) (v : Int) (hk : k < l.length) (h : ∀ j,j < k -> arcErr st (prevA l j) (l.getD j a0) = 0) (ha : a = l.getD k a0) (he : arcErr st (prevA l k) a = v) (hv : v ≠ 0) :
  arcsErr st none l = v:=by
 subst ha; subst he; exact arcsErr_hit st l k hk h hv
theorem arcsErr_on (st : Int) (l : List ArcD) (k : Nat) (a : ArcD) (h : ∀ j,j < k -> arcErr st (prevA l j) (l.getD j a0) = 0) (ha : a = l.getD k a0) (he : arcErr st (prevA l k) a = 0) :
  ∀ j,j < k + 1 -> arcErr st (prevA l j) (l.getD j a0) = 0:=by
 subst ha
 intro j hj
 by_cases e : j = k
 ·subst e; exact he
 ·exact h j (by omega)
theorem prevA_zero (l : List ArcD) (k : Nat) (h : (k : Int) <= 0) : prevA l k = none:=by
 have : k = 0:=by omega
 simp [prevA,this]
theorem prevA_pos (l : List ArcD) (k : Nat) (p : ArcD) (h : 0 < k) (hk : k < l.length) (hp : p = l.getD (k - 1) a0) : prevA l k = some p:=by
 have : k ≠ 0:=by omega
 subst hp
 simp [prevA,this,List.getD,show k - 1 < l.length by omega]
theorem arcsErr_miss (st : Int) (l : List ArcD) (h : ∀ j,j < l.length -> arcErr st (prevA l j) (l.getD j a0) = 0) : arcsErr st none l = 0:=by
 rw [arcsErr_from st l l.length (Nat.le_refl _) h,List.drop_length,arcsErr]
end Go.Proofs.Yteehgcbjmdideab
/- The text of a transducer,as bytes: one line a piece; how long it is at most. -/
namespace Go.Proofs.Yteehgcbjmdideab
def in64 (n : Int) : Prop:=-9223372036854775808 <= n /\ n <= 9223372036854775807
def arcIn64 (a : ArcD) : Prop:=in64 a.src /\ in64 a.inp /\ in64 a.out /\ in64 a.dst /\ in64 a.wt
structure ArcOk (st : Int) (a : ArcD) : Prop where
 src : inB a.src 0 (st - 1) = true
 dst : inB a.dst 0 (st - 1) = true
 inp : inB a.inp 0 9 = true
 out : inB a.out 0 9 = true
 wt : inB a.wt 0 1000000000 = true
theorem arcErr_ok (st : Int) (p : Option ArcD) (a : ArcD) (h : arcErr st p a = 0) : ArcOk st a:=by
 unfold arcErr at h
 cases h0 : inB a.src 0 (st - 1) <;> cases h1 : inB a.dst 0 (st - 1) <;> simp [h0,h1] at h
 cases h2 : inB a.inp 0 9 <;> cases h3 : inB a.out 0 9 <;> cases h4 : inB a.wt 0 1000000000 <;> simp [h2,h3,h4] at h
 exact ⟨h0,h1,h2,h3,h4⟩
theorem arcsErr_ok (st : Int) (l : List ArcD) (p : Option ArcD) (h : arcsErr st p l = 0) : ∀ a ∈ l,ArcOk st a:=by
 induction l generalizing p with
 | nil => intro a ha; cases ha
 | cons b l ih =>
  rw [arcsErr] at h
  by_cases e : arcErr st p b = 0
  ·rw [if_pos e] at h
   intro a ha
   rcases List.mem_cons.1 ha with rfl | ha
   ·exact arcErr_ok _ _ _ e
   ·exact ih _ h a ha
  ·rw [if_neg e] at h; exact absurd h e
structure CheckOk (f : FstD) : Prop where
 states : inB f.states 1 200 = true
 start : inB f.start 0 (f.states - 1) = true
 len : (f.final.length : Int) = f.states
 fin : ∀ x ∈ f.final,finB x = false
 many : f.arcs.length <= 3000
 err : arcsErr f.states none f.arcs = 0
 arcs : ∀ a ∈ f.arcs,ArcOk f.states a
theorem check_ok (f : FstD) (h : checkD f = 0) : CheckOk f:=by
 unfold checkD at h
 cases h0 : inB f.states 1 200 <;> simp only [h0,Bool.not_false,Bool.not_true,if_true,if_false,Bool.false_eq_true] at h
 ·exact absurd h (by decide)
 cases h1 : inB f.start 0 (f.states - 1) <;> simp only [h1,Bool.not_false,Bool.not_true,if_true,if_false,Bool.false_eq_true] at h
 ·exact absurd h (by decide)
 by_cases h2 : (f.final.length : Int) = f.states
 ·rw [if_neg (by simpa using h2)] at h
  cases h3 : f.final.any finB <;> simp only [h3,if_true,if_false,Bool.false_eq_true] at h
  ·by_cases h4 : 3000 < f.arcs.length
   ·rw [if_pos h4] at h; exact absurd h (by decide)
   ·rw [if_neg h4] at h
    exact ⟨h0,h1,h2,by simpa using h3,by omega,h,arcsErr_ok _ _ _ h⟩
  ·exact absurd h (by decide)
 ·rw [if_pos (by simpa using h2)] at h; exact absurd h (by decide)
theorem finB_out {x : Int} (h : finB x = false) : (x = -1 \/ (0 <= x /\ x <= 1000000000)) /\ in64 x:=by
 unfold finB inB at h
 by_cases e : x = -1
 ·subst e; exact ⟨Or.inl rfl,by decide,by decide⟩
 ·have : (x != -1) = true:=by simpa using e
  rw [this] at h
  simp at h
  exact ⟨Or.inr h,⟨by omega,by omega⟩⟩
theorem arcOk_in64 {st : Int} {a : ArcD} (h : ArcOk st a) (h1 : 1 <= st) (h2 : st <= 200) : arcIn64 a:=by
 have e0:=h.src
 have e1:=h.dst
 have e2:=h.inp
 have e3:=h.out
 have e4:=h.wt
 unfold inB at e0 e1 e2 e3 e4
 simp at e0 e1 e2 e3 e4
 refine ⟨⟨?_,?_⟩,⟨?_,?_⟩,⟨?_,?_⟩,⟨?_,?_⟩,⟨?_,?_⟩⟩ <;> omega
end Go.Proofs.Yteehgcbjmdideab
/- What is trimmed: the states on a way from the start to an end,numbered anew. -/
namespace Go.Proofs.Yteehgcbjmdideab.Sc
def Reach (E : Nat -> Nat -> Prop) (S : Nat -> Prop) (x : Nat) : Prop:=∀ P : Nat -> Prop,(∀ s,S s -> P s) -> (∀ s t,P s -> E s t -> P t) -> P x
theorem Reach.first {E : Nat -> Nat -> Prop} {S : Nat -> Prop} {x : Nat} (h : S x) : Reach E S x:=fun _ h0 _ => h0 x h
theorem Reach.on {E : Nat -> Nat -> Prop} {S : Nat -> Prop} {x y : Nat} (h : Reach E S x) (e : E x y) : Reach E S y:=fun P h0 h1 => h1 x y (h P h0 h1) e
def pairsA (f : FstD) : List (Nat × Nat):=f.arcs.map fun a => (a.src.toNat,a.dst.toNat)
def pairsB (f : FstD) : List (Nat × Nat):=f.arcs.map fun a => (a.dst.toNat,a.src.toNat)
def firstA (f : FstD) (s : Nat) : Bool:=decide ((s : Int) = f.start)
def firstB (f : FstD) (s : Nat) : Bool:=!decide (f.final.getD s 0 = -1)
def ReachP (n : Nat) (ps : List (Nat × Nat)) (S : Nat -> Bool) (x : Nat) : Prop:=Reach (fun s t => (s,t) ∈ ps) (fun s => s < n /\ S s = true) x
def Stays (f : FstD) (x : Nat) : Prop:=ReachP f.states.toNat (pairsA f) (firstA f) x /\ ReachP f.states.toNat (pairsB f) (firstB f) x
theorem ReachP.lt {n : Nat} {ps : List (Nat × Nat)} {S : Nat -> Bool} {x : Nat} (h : ReachP n ps S x) (hp : ∀ p ∈ ps,p.2 < n) : x < n :=
 h (fun y => y < n) (fun _ hs => hs.1) (fun s t _ he => hp (s,t) he)
def newNo (st : Nat -> Bool) (k : Nat) : Nat:=((List.range k).filter st).length
theorem newNo_succ (st : Nat -> Bool) (k : Nat) : newNo st (k + 1) = newNo st k + if st k then 1 else 0:=by
 unfold newNo
 rw [List.range_succ,List.filter_append]
 cases h : st k <;> simp [h]
theorem newNo_le (st : Nat -> Bool) (k : Nat) : newNo st k <= k:=by
 unfold newNo
 have:=List.length_filter_le st (List.range k)
 simpa using this
def finT (f : FstD) (st : Nat -> Bool) (k : Nat) : List Int:=((List.range k).filter st).map fun i => f.final.getD i 0
def arcT (st : Nat -> Bool) (a : ArcD) : ArcD:=⟨newNo st a.src.toNat,a.inp,a.out,newNo st a.dst.toNat,a.wt⟩
def arcsT (st : Nat -> Bool) (l : List ArcD) : List ArcD:=(l.filter fun a => st a.src.toNat && st a.dst.toNat).map (arcT st)
def trimBy (f : FstD) (st : Nat -> Bool) : FstD :=
 if st f.start.toNat then ⟨newNo st f.states.toNat,newNo st f.start.toNat,finT f st f.states.toNat,arcsT st f.arcs⟩ else ⟨1,0,[-1],[]⟩
def IsTrim (f t : FstD) : Prop:=∃ st : Nat -> Bool,(∀ i,st i = true ↔ Stays f i) /\ t = trimBy f st
theorem IsTrim.unique {f t t' : FstD} (h : IsTrim f t) (h' : IsTrim f t') : t = t':=by
 obtain ⟨st,hs,rfl⟩:=h
 obtain ⟨st',hs',rfl⟩:=h'
 have : st = st':=by
  funext i
  rw [Bool.eq_iff_iff,hs i,hs' i]
 rw [this]
theorem finT_hit (f : FstD) (st : Nat -> Bool) (k : Nat) (h : st k = true) : finT f st (k + 1) = finT f st k ++ [f.final.getD k 0]:=by
 unfold finT; rw [List.range_succ,List.filter_append]; simp [h]
theorem finT_miss (f : FstD) (st : Nat -> Bool) (k : Nat) (h : st k = false) : finT f st (k + 1) = finT f st k:=by
 unfold finT; rw [List.range_succ,List.filter_append]; simp [h]
theorem finT_len (f : FstD) (st : Nat -> Bool) (k : Nat) : (finT f st k).length = newNo st k:=by simp [finT,newNo]
theorem arcsT_take (st : Nat -> Bool) (l : List ArcD) (k : Nat) (a : ArcD) (hk : k < l.length) (ha : a = l.getD k a0) :
  arcsT st (l.take (k + 1)) = arcsT st (l.take k) ++ if st a.src.toNat && st a.dst.toNat then [arcT st a] else []:=by
 have : l[k]? = some a:=by rw [ha]; simp [List.getD,hk]
 rw [List.take_add_one,this]
 unfold arcsT
 rw [List.filter_append,List.map_append]
 congr 1
 cases h : (st a.src.toNat && st a.dst.toNat) <;> simp [List.filter,h]
theorem arcsT_len (st : Nat -> Bool) (l : List ArcD) : (arcsT st l).length <= l.length:=by
 unfold arcsT; rw [List.length_map]; exact List.length_filter_le _ _
theorem search_done (n : Nat) (ps : List (Nat × Nat)) (S : Nat -> Bool) (M : Nat -> Bool) (h1 : ∀ x,M x = true -> ReachP n ps S x) (h2 : ∀ x,x < n -> S x = true -> M x = true) (h3 : ∀ x t,M x = true -> (x,t) ∈ ps -> M t = true) (x : Nat) : M x = true ↔ ReachP n ps S x :=
 ⟨h1 x,fun h => h (fun y => M y = true) (fun s hs => h2 s hs.1 hs.2) (fun s t hs he => h3 s t hs he)⟩
def nexts (ps : List (Nat × Nat)) (x : Nat) : List Nat:=(ps.filter fun p => p.1 == x).map (·.2)
theorem mem_nexts (ps : List (Nat × Nat)) (x t : Nat) : t ∈ nexts ps x ↔ (x,t) ∈ ps:=by
 unfold nexts
 simp only [List.mem_map,List.mem_filter,beq_iff_eq]
 constructor
 ·rintro ⟨⟨a,b⟩,⟨h1,h2⟩,rfl⟩
  simp only at h2
  subst h2; exact h1
 ·intro h; exact ⟨(x,t),⟨h,rfl⟩,rfl⟩
end Go.Proofs.Yteehgcbjmdideab.Sc
/- The small functions of package fst: 'within','isState',the test of a final's weight; the library's cmp.Compare. -/
namespace Go.Proofs.Yteehgcbjmdideab
open Go.RowKit
theorem bel_up {w w' : World} (h : Below w.heap.size w w') (o : Obj) : Below w.heap.size w (w'.alloc o):=h.alloc h.size o
theorem bel_on {a b c : World} (h : Below a.heap.size a b) (k : Below b.heap.size b c) : Below a.heap.size a c:=h.trans (k.mono h.size)
theorem bel_self (w : World) : Below w.heap.size w w:=Below.refl _ _
theorem bel_keep {w w' : World} (h : Below w.heap.size w w') {b o : Nat} {v : Value} (hb : b < w.heap.size) (hc : w.cell? ⟨b,o,none⟩ = some v) : w'.cell? ⟨b,o,none⟩ = some v:=(h.cell (p:=⟨b,o,none⟩) hb).trans hc
theorem bel_drewN {B : Nat} {w w' : World} (h : Below B w w') (n : Nat) : Below B w (w'.drewN n):=h.trans ⟨rfl,rfl,rfl,Nat.le_refl _,fun _ _ => rfl⟩
theorem cell_lt {w : World} {b o : Nat} {v : Value} (h : w.cell? ⟨b,o,none⟩ = some v) : b < w.heap.size:=World.block_lt_of_cell? w ⟨b,o,none⟩ h
theorem ret_bool {a b : Bool} (h : a = b) : Ending.returned (.bool a) = .returned (.bool b):=by rw [h]
theorem ret_int {k : IntKind} {a b : Int} (h : a = b) : Ending.returned (.int k a) = .returned (.int k b):=by rw [h]
theorem within_any (n a b : Int) (w : World) :
  Calls Try.prog 70 #[.int .i64 n,.int .i64 a,.int .i64 b] w fun e w' => e = .returned (.bool (inB n a b)) /\ w' = w:=by
 go_enter Try.func70,Try.ntmps70
 go_wp2
 all_goals
  go_ret
  exact ⟨ret_bool (by unfold inB; simp; try omega),rfl⟩
theorem between_any (n a b : Int) (w : World) :
  Calls Try.prog 34 #[.int .i64 n,.int .i64 a,.int .i64 b] w fun e w' => e = .returned (.bool (inB n a b)) /\ w' = w:=by
 go_enter Try.func34,Try.ntmps34
 go_wp2
 all_goals
  go_ret
  exact ⟨ret_bool (by unfold inB; simp; try omega),rfl⟩
theorem isNaN_any (n : Int) (w : World) :
  Calls Try.prog 116 #[.int .i64 n] w fun e w' => e = .returned (.bool false) /\ w' = w:=by
 go_enter Try.func116,Try.ntmps116
 go_wp2
 go_ret
 exact ⟨rfl,rfl⟩
theorem compare_any (a b : Int) (w : World) :
  Calls Try.prog 110 #[.int .i64 a,.int .i64 b] w fun e w' => e = .returned (.int .i64 (cmpI a b)) /\ w' = w:=by
 go_enter Try.func110,Try.ntmps110
 go_wp2_with (go_at_call 116; refine (isNaN_any _ _).mono ?_; rintro e w' ⟨rfl,rfl⟩)
 all_goals
  go_ret
  exact ⟨ret_int (by unfold cmpI; repeat' split <;> first | rfl | omega),rfl⟩
theorem check1_any (x : Int) (w : World) :
  Calls Try.prog 73 #[.int .i64 x] w fun e w' => e = .returned (.bool (finB x)) /\ w' = w:=by
 go_enter Try.func73,Try.ntmps73
 go_wp2_with (go_at_call 70; refine (within_any _ _ _ _).mono ?_; rintro e w' ⟨rfl,rfl⟩)
 all_goals
  go_ret
  exact ⟨ret_bool (by unfold finB; simp [*]),rfl⟩
theorem isState_any (st sta : Int) (fin arcs : Value) (n : Int) (w : World) (h1 : -1000 <= st) (h2 : st <= 1000) :
  Calls Try.prog 71 #[.agg #[.int .i64 st,.int .i64 sta,fin,arcs],.int .i64 n] w fun e w' => e = .returned (.bool (inB n 0 (st - 1))) /\ Below w.heap.size w w':=by
 go_enter Try.func71,Try.ntmps71
 go_wp2_with (go_at_call 70; refine (within_any _ _ _ _).mono ?_; rintro e w' ⟨rfl,rfl⟩)
 go_ret
 exact ⟨rfl,(Below.refl _ _).alloc (Nat.le_refl _) _⟩
structure IntsAt (w : World) (b off n : Nat) (xs : List Int) : Prop where
 len : xs.length = n
 cell : ∀ i,i < n -> w.cell? ⟨b,off + i,none⟩ = some (.int .i64 (xs.getD i 0))
theorem bel_c {w w' : World} (h : Below w.heap.size w w') {b o : Nat} {v : Value} (hc : w.cell? ⟨b,o,none⟩ = some v) : w'.cell? ⟨b,o,none⟩ = some v:=bel_keep h (cell_lt hc) hc
theorem new_cell (w : World) (cs : Array Value) (t N k : Nat) (v : Value) (hN : w.heap.size = N) (hv : cs[k]? = some v) : (w.alloc (.cells cs t)).cell? ⟨N,k,none⟩ = some v:=by
 subst hN; simp [hv]
theorem old_cell {w : World} {o : Obj} {b k : Nat} {v : Value} (h : w.cell? ⟨b,k,none⟩ = some v) : (w.alloc o).cell? ⟨b,k,none⟩ = some v:=bel_c (bel_up (bel_self _) _) h
theorem drew_cell {w : World} {b k : Nat} {v : Value} (h : w.cell? ⟨b,k,none⟩ = some v) : w.drew.cell? ⟨b,k,none⟩ = some v:=bel_c (bel_self _).drew h
theorem IntsAt.below {w w' : World} {b off n : Nat} {xs : List Int} (h : IntsAt w b off n xs) (hb : Below w.heap.size w w') : IntsAt w' b off n xs :=
 ⟨h.len,fun i hi => bel_keep hb (cell_lt (h.cell i hi)) (h.cell i hi)⟩
def CellsA (w : World) (B : Nat) (a : ArcD) : Prop :=
 w.cell? ⟨B,0,none⟩ = some (.int .i64 a.src) /\ w.cell? ⟨B,1,none⟩ = some (.int .i64 a.inp) /\ w.cell? ⟨B,2,none⟩ = some (.int .i64 a.out) /\ w.cell? ⟨B,3,none⟩ = some (.int .i64 a.dst) /\ w.cell? ⟨B,4,none⟩ = some (.int .i64 a.wt)
theorem CellsA.below {w w' : World} {B : Nat} {a : ArcD} (h : CellsA w B a) (hb : Below w.heap.size w w') : CellsA w' B a :=
 ⟨bel_keep hb (cell_lt h.1) h.1,bel_keep hb (cell_lt h.2.1) h.2.1,bel_keep hb (cell_lt h.2.2.1) h.2.2.1,bel_keep hb (cell_lt h.2.2.2.1) h.2.2.2.1,bel_keep hb (cell_lt h.2.2.2.2) h.2.2.2.2⟩
def CellsF (w : World) (B : Nat) (st sta : Int) (fin arcs : Value) : Prop :=
 w.cell? ⟨B,0,none⟩ = some (.int .i64 st) /\ w.cell? ⟨B,1,none⟩ = some (.int .i64 sta) /\ w.cell? ⟨B,2,none⟩ = some fin /\ w.cell? ⟨B,3,none⟩ = some arcs
theorem CellsF.below {w w' : World} {B : Nat} {st sta : Int} {fin arcs : Value} (h : CellsF w B st sta fin arcs) (hb : Below w.heap.size w w') : CellsF w' B st sta fin arcs :=
 ⟨bel_keep hb (cell_lt h.1) h.1,bel_keep hb (cell_lt h.2.1) h.2.1,bel_keep hb (cell_lt h.2.2.1) h.2.2.1,bel_keep hb (cell_lt h.2.2.2) h.2.2.2⟩
structure ArcsAt (w : World) (b off n : Nat) (ars : List ArcD) : Prop where
 len : ars.length = n
 c0 : ∀ i,i < n -> w.cell? ⟨b,off + i * 5,none⟩ = some (.int .i64 (ars.getD i a0).src)
 c1 : ∀ i,i < n -> w.cell? ⟨b,off + i * 5 + 1,none⟩ = some (.int .i64 (ars.getD i a0).inp)
 c2 : ∀ i,i < n -> w.cell? ⟨b,off + i * 5 + 2,none⟩ = some (.int .i64 (ars.getD i a0).out)
 c3 : ∀ i,i < n -> w.cell? ⟨b,off + i * 5 + 3,none⟩ = some (.int .i64 (ars.getD i a0).dst)
 c4 : ∀ i,i < n -> w.cell? ⟨b,off + i * 5 + 4,none⟩ = some (.int .i64 (ars.getD i a0).wt)
theorem ArcsAt.below {w w' : World} {b off n : Nat} {ars : List ArcD} (h : ArcsAt w b off n ars) (hb : Below w.heap.size w w') : ArcsAt w' b off n ars :=
 ⟨h.len,fun i hi => bel_keep hb (cell_lt (h.c0 i hi)) (h.c0 i hi),fun i hi => bel_keep hb (cell_lt (h.c1 i hi)) (h.c1 i hi),fun i hi => bel_keep hb (cell_lt (h.c2 i hi)) (h.c2 i hi),
  fun i hi => bel_keep hb (cell_lt (h.c3 i hi)) (h.c3 i hi),fun i hi => bel_keep hb (cell_lt (h.c4 i hi)) (h.c4 i hi)⟩
def idxOf (p : Int -> Bool) (xs : List Int) : Int:=match xs.findIdx? p with | some i => i | none => -1
theorem idxOf_hit (p : Int -> Bool) (xs : List Int) (k : Nat) (hk : k < xs.length) (hp : p (xs.getD k 0) = true) (h : ∀ j,j < k -> p (xs.getD j 0) = false) : idxOf p xs = k:=by
 have : xs.findIdx? p = some k:=by
  rw [List.findIdx?_eq_some_iff_getElem]
  refine ⟨hk,by simpa [List.getD,hk] using hp,fun j hj => ?_⟩
  have:=h j hj
  simpa [List.getD,show j < xs.length by omega] using this
 simp [idxOf,this]
theorem idxOf_miss (p : Int -> Bool) (xs : List Int) (h : ∀ j,j < xs.length -> p (xs.getD j 0) = false) : idxOf p xs = -1:=by
 have : xs.findIdx? p = none:=by
  rw [List.findIdx?_eq_none_iff]
  intro x hx
  obtain ⟨j,hj,rfl⟩:=List.getElem_of_mem hx
  have:=h j hj
  simpa [List.getD,hj] using this
 simp [idxOf,this]
theorem idxOf_any (p : Int -> Bool) (xs : List Int) : decide ((0 : Int) <= idxOf p xs) = xs.any p:=by
 unfold idxOf
 cases h : xs.findIdx? p with
 | none =>
  rw [List.findIdx?_eq_none_iff] at h
  have : xs.any p = false:=by simpa using h
  simp [this]
 | some i =>
  obtain ⟨hi,hp,_⟩:=List.findIdx?_eq_some_iff_getElem.1 h
  have : xs.any p = true:=List.any_eq_true.2 ⟨xs[i],List.getElem_mem _,hp⟩
  rw [this]; simp
def ISlice (w : World) (v : Value) (xs : List Int) : Prop :=
 (∃ a cap,v = .slice a 0 cap /\ xs = []) \/ ∃ b off n cap,v = .slice (some ⟨b,off,none⟩) n cap /\ IntsAt w b off n xs /\ n <= maxLen
theorem ISlice.below {w w' : World} {v : Value} {xs : List Int} (h : ISlice w v xs) (hb : Below w.heap.size w w') : ISlice w' v xs:=by
 rcases h with h | ⟨b,off,n,cap,rfl,hx,hn⟩
 ·exact Or.inl h
 ·exact Or.inr ⟨b,off,n,cap,rfl,hx.below hb,hn⟩
def ASlice (w : World) (v : Value) (ars : List ArcD) : Prop :=
 (∃ a cap,v = .slice a 0 cap /\ ars = []) \/ ∃ b off n cap,v = .slice (some ⟨b,off,none⟩) n cap /\ ArcsAt w b off n ars /\ n <= maxLen
theorem ASlice.below {w w' : World} {v : Value} {ars : List ArcD} (h : ASlice w v ars) (hb : Below w.heap.size w w') : ASlice w' v ars:=by
 rcases h with h | ⟨b,off,n,cap,rfl,hx,hn⟩
 ·exact Or.inl h
 ·exact Or.inr ⟨b,off,n,cap,rfl,hx.below hb,hn⟩
theorem chk_index (b off n cap : Nat) (xs : List Int) (w : World) (hx : IntsAt w b off n xs) (hn : n <= maxLen) :
  Calls Try.prog 95 #[.slice (some ⟨b,off,none⟩) n cap,.func (.func 73) #[] #[]] w fun e w' => e = .returned (.int .i64 (idxOf finB xs)) /\ w' = w:=by
 unfold maxLen at hn
 go_enter Try.func95,Try.ntmps95
 go_wp2
 go_loop [8] (fun i => ∃ k : Nat,k <= n /\ i = .int .i64 k /\ (∀ j,j < k -> finB (xs.getD j 0) = false)) (fun i => n - (intOf i).toNat)
 case atStart => exact ⟨0,Nat.zero_le _,rfl,fun j hj => absurd hj (Nat.not_lt_zero _)⟩
 case round =>
  obtain ⟨k,hk,rfl,hall⟩:=hrel
  have HA : Hid (∀ j,j < k -> finB (xs.getD j 0) = false):=hall
  clear hall
  by_cases hlt : k < n
  ·have hc:=hx.cell k hlt
   cases hp : finB (xs.getD k 0)
   ·have hp' : finB (xs[k]?.getD 0) = false:=by simpa using hp
    go_wp2_with (go_at_call 73; refine (check1_any _ _).mono ?_; rintro e w' ⟨rfl,rfl⟩)
    go_round
    case rel =>
     refine ⟨k + 1,by omega,by go_num,fun j hj => ?_⟩
     by_cases e : j = k
     ·subst e; exact hp
     ·exact HA.out j (by omega)
    case measure => simp [intOf]; omega
   ·have hp' : finB (xs[k]?.getD 0) = true:=by simpa using hp
    go_wp2_with (go_at_call 73; refine (check1_any _ _).mono ?_; rintro e w' ⟨rfl,rfl⟩)
    go_ret
    exact ⟨ret_int (idxOf_hit finB xs k (by rw [hx.len]; exact hlt) hp HA.out).symm,rfl⟩
  ·go_wp2
   go_ret
   exact ⟨ret_int (idxOf_miss finB xs (fun j hj => HA.out j (by have:=hx.len; omega))).symm,rfl⟩
theorem chk_index_nil (a : Option Addr) (cap : Nat) (w : World) :
  Calls Try.prog 95 #[.slice a 0 cap,.func (.func 73) #[] #[]] w fun e w' => e = .returned (.int .i64 (-1)) /\ w' = w:=by
 go_enter Try.func95,Try.ntmps95
 go_wp2
 go_loop [8] (fun i => i = .int .i64 0) (fun _ => 0)
 case atStart => rfl
 case round =>
  subst hrel
  go_wp2
  go_ret
  exact ⟨rfl,rfl⟩
theorem chk_contains (v : Value) (xs : List Int) (w : World) (hx : ISlice w v xs) :
  Calls Try.prog 72 #[v,.func (.func 73) #[] #[]] w fun e w' => e = .returned (.bool (xs.any finB)) /\ w' = w:=by
 rcases hx with ⟨a,cap,rfl,rfl⟩ | ⟨b,off,n,cap,rfl,hx,hn⟩
 ·go_enter Try.func72,Try.ntmps72
  go_wp2_with (go_at_call 95; refine (chk_index_nil a cap _).mono ?_; rintro e w' ⟨rfl,rfl⟩)
  go_ret
  exact ⟨rfl,rfl⟩
 ·have hd:=idxOf_any finB xs
  go_enter Try.func72,Try.ntmps72
  go_wp2_with (go_at_call 95; refine (chk_index _ _ _ _ xs _ hx hn).mono ?_; rintro e w' ⟨rfl,rfl⟩)
  go_ret
  exact ⟨rfl,rfl⟩
end Go.Proofs.Yteehgcbjmdideab
/- The order of two arcs: the library's cmp.Or,'compareArcs' of package fst. -/
namespace Go.Proofs.Yteehgcbjmdideab
open Go.RowKit
attribute [local go_sem ↓] Go.wp_at_zero Go.wp_at_succ
theorem orI_hit (xs : List Int) (k : Nat) (hk : k < xs.length) (h0 : xs.getD k 0 ≠ 0) (h : ∀ j,j < k -> xs.getD j 0 = 0) : orI xs = xs.getD k 0:=by
 have : xs.find? (· != 0) = some (xs[k]):=by
  rw [List.find?_eq_some_iff_getElem]
  refine ⟨by simpa [List.getD,hk] using h0,k,hk,rfl,fun j hj => ?_⟩
  have:=h j hj
  simpa [List.getD,show j < xs.length by omega] using this
 simp [orI,this,List.getD,hk]
theorem orI_miss (xs : List Int) (h : ∀ j,j < xs.length -> xs.getD j 0 = 0) : orI xs = 0:=by
 have : xs.find? (· != 0) = none:=by
  rw [List.find?_eq_none]
  intro x hx
  obtain ⟨j,hj,rfl⟩:=List.getElem_of_mem hx
  have:=h j hj
  simpa [List.getD,hj] using this
 simp [orI,this]
theorem or_any (b off n cap : Nat) (xs : List Int) (w : World) (hx : IntsAt w b off n xs) (hn : n <= maxLen) :
  Calls Try.prog 109 #[.slice (some ⟨b,off,none⟩) n cap] w fun e w' => e = .returned (.int .i64 (orI xs)) /\ w' = w:=by
 unfold maxLen at hn
 go_enter Try.func109,Try.ntmps109
 go_wp2
 go_loop [8] (fun i => ∃ k : Nat,k <= n /\ i = .int .i64 k /\ (∀ j,j < k -> xs.getD j 0 = 0)) (fun i => n - (intOf i).toNat)
 case atStart => exact ⟨0,Nat.zero_le _,rfl,fun j hj => absurd hj (Nat.not_lt_zero _)⟩
 case round =>
  obtain ⟨k,hk,rfl,hall⟩:=hrel
  have HA : Hid (∀ j,j < k -> xs.getD j 0 = 0):=hall
  clear hall
  by_cases hlt : k < n
  ·have hc:=hx.cell k hlt
   by_cases hp : xs.getD k 0 = 0
   ·have hp' : xs[k]?.getD 0 = 0:=by simpa using hp
    go_wp2
    go_round
    case rel =>
     refine ⟨k + 1,by omega,by go_num,fun j hj => ?_⟩
     by_cases e : j = k
     ·subst e; exact hp
     ·exact HA.out j (by omega)
    case measure => simp [intOf]; omega
   ·have hp' : (xs[k]?.getD 0 == 0) = false:=by simpa using hp
    have HE : Hid (orI xs = xs.getD k 0):=orI_hit xs k (by rw [hx.len]; exact hlt) hp HA.out
    go_wp2
    go_ret
    exact ⟨ret_int (by rw [HE.out]; simp),rfl⟩
  ·go_wp2
   go_ret
   exact ⟨ret_int (orI_miss xs (fun j hj => HA.out j (by have:=hx.len; omega))).symm,rfl⟩
theorem four_le : 4 <= maxLen:=by decide
theorem intsAt4 (x0 x1 x2 x3 : Int) (w : World) (t N : Nat) (hN : w.heap.size = N) : IntsAt (w.alloc (.cells #[.int .i64 x0,.int .i64 x1,.int .i64 x2,.int .i64 x3] t)).drew N 0 4 [x0,x1,x2,x3]:=by
 subst hN
 refine ⟨rfl,fun i hi => ?_⟩
 match i,hi with
 | 0,_ => simp
 | 1,_ => simp
 | 2,_ => simp
 | 3,_ => simp
set_option maxHeartbeats 1000000 in
theorem compareArcs_any (a b : ArcD) (w : World) :
  Calls Try.prog 96 #[.agg #[.int .i64 a.src,.int .i64 a.inp,.int .i64 a.out,.int .i64 a.dst,.int .i64 a.wt],.agg #[.int .i64 b.src,.int .i64 b.inp,.int .i64 b.out,.int .i64 b.dst,.int .i64 b.wt]] w fun e w' =>
   e = .returned (.int .i64 (cmpArc a b)) /\ Below w.heap.size w w':=by
 go_enter Try.func96,Try.ntmps96
 go_wp2
 go_region_held3 (fun w' => w'.cell? ⟨w.heap.size,0,none⟩ = some (.int .i64 a.src) /\ w'.cell? ⟨w.heap.size,1,none⟩ = some (.int .i64 a.inp) /\ w'.cell? ⟨w.heap.size,2,none⟩ = some (.int .i64 a.out) /\ w'.cell? ⟨w.heap.size,3,none⟩ = some (.int .i64 a.dst) /\ w'.cell? ⟨w.heap.size + 1,0,none⟩ = some (.int .i64 b.src) /\ w'.cell? ⟨w.heap.size + 1,1,none⟩ = some (.int .i64 b.inp) /\ w'.cell? ⟨w.heap.size + 1,2,none⟩ = some (.int .i64 b.out) /\ w'.cell? ⟨w.heap.size + 1,3,none⟩ = some (.int .i64 b.dst)) (go_keep)
  (first | (go_at_call 110; refine (compare_any _ _ _).mono ?_; rintro e w' ⟨rfl,rfl⟩) | (go_at_call 109; refine (or_any _ _ _ _ [cmpI a.src b.src,cmpI a.inp b.inp,cmpI a.out b.out,cmpI a.dst b.dst] _ (intsAt4 _ _ _ _ _ _ _ (by simp)) four_le).mono ?_; rintro e w' ⟨rfl,rfl⟩))
 all_goals
  go_wp2
  go_ret
  exact ⟨rfl,(bel_up (bel_up (bel_up (bel_self _) _) _) _).drew⟩
end Go.Proofs.Yteehgcbjmdideab
/- 'checkArcs' and 'Check' of package fst. -/
namespace Go.Proofs.Yteehgcbjmdideab
open Go.RowKit
attribute [local go_sem ↓] Go.wp_at_zero Go.wp_at_succ
set_option maxHeartbeats 1000000 in
theorem checkArcs_some (f : FstD) (fin : Value) (b off n cap : Nat) (w : World) (hx : ArcsAt w b off n f.arcs) (hn : n <= maxLen) (h1 : 1 <= f.states) (h2 : f.states <= 200) :
  Calls Try.prog 74 #[.agg #[.int .i64 f.states,.int .i64 f.start,fin,.slice (some ⟨b,off,none⟩) n cap]] w fun e w' =>
   e = .returned (.int .i64 (arcsErr f.states none f.arcs)) /\ Below w.heap.size w w':=by
 unfold maxLen at hn
 have hlen:=hx.len
 go_enter Try.func74,Try.ntmps74
 go_wp2
 go_loopw [8] (fun i wr => ∃ k : Nat,k <= n /\ i = .int .i64 k /\ (∀ j,j < k -> arcErr f.states (prevA f.arcs j) (f.arcs.getD j a0) = 0) /\ Below w.heap.size w wr /\ CellsF wr w.heap.size f.states f.start fin (.slice (some ⟨b,off,none⟩) n cap) /\ ArcsAt wr b off n f.arcs) (fun i _ => n - (intOf i).toNat)
 case atStart => exact ⟨0,Nat.zero_le _,rfl,fun j hj => absurd hj (Nat.not_lt_zero _),bel_up (bel_self _) _,by simp [CellsF],hx.below (bel_up (bel_self _) _)⟩
 case round =>
  clear hx
  obtain ⟨k,hk,rfl,hall,hbr,hF,hx⟩:=hrel
  have HA : Hid (∀ j,j < k -> arcErr f.states (prevA f.arcs j) (f.arcs.getD j a0) = 0):=hall
  clear hall
  have hF':=hF
  obtain ⟨f0,f1,f2,f3⟩:=hF'
  have hsl:=cell_lt f0
  by_cases hlt : k < n
  ·obtain ⟨a,ha⟩ : ∃ a,a = f.arcs.getD k a0:=⟨_,rfl⟩
   have c0:=hx.c0 k hlt
   have c1:=hx.c1 k hlt
   have c2:=hx.c2 k hlt
   have c3:=hx.c3 k hlt
   have c4:=hx.c4 k hlt
   rw [<- ha] at c0 c1 c2 c3 c4
   have HX : Hid (a = f.arcs.getD k a0):=ha
   have hbl:=cell_lt c0
   have hkl : k < f.arcs.length:=by omega
   clear ha
   by_cases hk0 : (k : Int) <= 0
   ·have HP : Hid (prevA f.arcs k = none):=prevA_zero _ _ hk0
    have hd : decide (0 < k) = false:=by simp; omega
    go_wp2_with (first | (go_at_call 71; refine (isState_any _ _ _ _ _ _ (by omega) (by omega)).mono ?_; rintro e w' ⟨rfl,hbw⟩; have hF : CellsF w' w.heap.size f.states f.start fin (.slice (some ⟨b,off,none⟩) n cap):=(by first | exact (hF.below (bel_up (bel_self _) _)).below hbw | exact hF.below hbw); have hA : CellsA w' wr.heap.size a:=(by first | exact hA.below hbw | exact CellsA.below (by simp [CellsA]) hbw); have hx : ArcsAt w' b off n f.arcs:=(by first | exact (hx.below (bel_up (bel_self _) _)).below hbw | exact hx.below hbw); have hBel : Below w.heap.size w w':=(by first | exact bel_on (bel_up hbr _) hbw | exact bel_on hBel hbw); have hF':=hF; have hA':=hA; obtain ⟨f0,f1,f2,f3⟩:=hF'; obtain ⟨v0,v1,v2,v3,v4⟩:=hA'; clear hbw) | (go_at_call 70; refine (within_any _ _ _ _).mono ?_; rintro e w' ⟨rfl,rfl⟩))
    all_goals try (go_ret; exact ⟨ret_int (arcsErr_bad _ _ _ a _ hkl HA.out HX.out (by simp [arcErr, *]) (by decide)).symm,hBel⟩)
    go_quiet (fail)
    go_wp2
    go_roundw
    case rel => exact ⟨k + 1,by omega,by go_num,arcsErr_on _ _ _ a HA.out HX.out (by rw [HP.out]; simp [arcErr, *]),bel_drewN hBel _,hF.below (bel_drewN (bel_self _) _),hx.below (bel_drewN (bel_self _) _)⟩
    case measure => simp [intOf]; omega
   ·have hk1 : 0 < k:=by omega
    obtain ⟨p,hp⟩ : ∃ p,p = f.arcs.getD (k - 1) a0:=⟨_,rfl⟩
    have HP : Hid (prevA f.arcs k = some p):=prevA_pos _ _ p hk1 hkl hp
    have HPP : Hid (p = f.arcs.getD (k - 1) a0):=hp
    clear hp
    have hd : decide (0 < k) = true:=by simpa using hk1
    have hi0 : (0 : Int) <= (k : Int) - 1:=by omega
    have hi1 : (k : Int) - 1 < (n : Int):=by omega
    have hwk : IntKind.i64.wrap ((k : Int) - 1) = (k : Int) - 1:=IntWalk.i64_in _ ⟨by omega,by omega⟩
    have htk : ((k : Int) - 1).toNat = k - 1:=by omega
    have hi2 : (1 : Int) <= (k : Int):=by omega
    have hi3 : (k : Int) < (n : Int) + 1:=by omega
    have hi4 : k < n + 1:=by omega
    have hi5 : 1 <= k:=by omega
    go_wp2_with (first | (go_at_call 71; refine (isState_any _ _ _ _ _ _ (by omega) (by omega)).mono ?_; rintro e w' ⟨rfl,hbw⟩; have hF : CellsF w' w.heap.size f.states f.start fin (.slice (some ⟨b,off,none⟩) n cap):=(by first | exact (hF.below (bel_up (bel_self _) _)).below hbw | exact hF.below hbw); have hA : CellsA w' wr.heap.size a:=(by first | exact hA.below hbw | exact CellsA.below (by simp [CellsA]) hbw); have hx : ArcsAt w' b off n f.arcs:=(by first | exact (hx.below (bel_up (bel_self _) _)).below hbw | exact hx.below hbw); have hBel : Below w.heap.size w w':=(by first | exact bel_on (bel_up hbr _) hbw | exact bel_on hBel hbw); have hF':=hF; have hA':=hA; obtain ⟨f0,f1,f2,f3⟩:=hF'; obtain ⟨v0,v1,v2,v3,v4⟩:=hA'; clear hbw) | (go_at_call 70; refine (within_any _ _ _ _).mono ?_; rintro e w' ⟨rfl,rfl⟩))
    all_goals try (go_ret; exact ⟨ret_int (arcsErr_bad _ _ _ a _ hkl HA.out HX.out (by simp [arcErr, *]) (by decide)).symm,hBel⟩)
    have e0:=hx.c0 (k - 1) (by omega)
    have e1:=hx.c1 (k - 1) (by omega)
    have e2:=hx.c2 (k - 1) (by omega)
    have e3:=hx.c3 (k - 1) (by omega)
    have e4:=hx.c4 (k - 1) (by omega)
    rw [<- HPP.out] at e0 e1 e2 e3 e4
    have s1:=cell_lt f0
    have s2:=cell_lt e0
    have s3:=cell_lt v0
    have hca:=cmpArc_ahead p a
    cases hah : aheadB p a
    ·have hcd : decide (0 <= cmpArc p a) = true:=by rw [hca,hah]; rfl
     have hcd' : 0 <= cmpArc p a:=by simpa using hcd
     have HAH : Hid (aheadB p a = false):=hah
     clear hca hah
     go_region_held3 (fun wx => wx.cell? ⟨w.heap.size,3,none⟩ = some (.slice (some ⟨b,off,none⟩) n cap) /\ wx.cell? ⟨b,off + (k - 1) * 5,none⟩ = some (.int .i64 p.src) /\ wx.cell? ⟨b,off + (k - 1) * 5 + 1,none⟩ = some (.int .i64 p.inp) /\ wx.cell? ⟨b,off + (k - 1) * 5 + 2,none⟩ = some (.int .i64 p.out) /\ wx.cell? ⟨b,off + (k - 1) * 5 + 3,none⟩ = some (.int .i64 p.dst) /\ wx.cell? ⟨b,off + (k - 1) * 5 + 4,none⟩ = some (.int .i64 p.wt) /\ wx.cell? ⟨wr.heap.size,0,none⟩ = some (.int .i64 a.src) /\ wx.cell? ⟨wr.heap.size,1,none⟩ = some (.int .i64 a.inp) /\ wx.cell? ⟨wr.heap.size,2,none⟩ = some (.int .i64 a.out) /\ wx.cell? ⟨wr.heap.size,3,none⟩ = some (.int .i64 a.dst) /\ wx.cell? ⟨wr.heap.size,4,none⟩ = some (.int .i64 a.wt)) (first | go_keep | (go_split_ands; refine ⟨bel_c hbw (by assumption),bel_c hbw (by assumption),bel_c hbw (by assumption),bel_c hbw (by assumption),bel_c hbw (by assumption),bel_c hbw (by assumption),bel_c hbw (by assumption),bel_c hbw (by assumption),bel_c hbw (by assumption),bel_c hbw (by assumption),bel_c hbw (by assumption)⟩)) ((go_at_call 96; refine (compareArcs_any p a _).mono ?_; rintro e w' ⟨rfl,hbw⟩))
     go_wp2
     go_ret
     exact ⟨ret_int (arcsErr_bad _ _ _ a _ hkl HA.out HX.out (by rw [HP.out]; simp [arcErr,HAH.out, *]) (by decide)).symm,bel_on hBel.drew hbw⟩
    ·have hcd : decide (0 <= cmpArc p a) = false:=by rw [hca,hah]; rfl
     have hcd' : cmpArc p a < 0:=by simpa using hcd
     have HAH : Hid (aheadB p a = true):=hah
     clear hca hah
     go_region_held3 (fun wx => wx.cell? ⟨w.heap.size,3,none⟩ = some (.slice (some ⟨b,off,none⟩) n cap) /\ wx.cell? ⟨b,off + (k - 1) * 5,none⟩ = some (.int .i64 p.src) /\ wx.cell? ⟨b,off + (k - 1) * 5 + 1,none⟩ = some (.int .i64 p.inp) /\ wx.cell? ⟨b,off + (k - 1) * 5 + 2,none⟩ = some (.int .i64 p.out) /\ wx.cell? ⟨b,off + (k - 1) * 5 + 3,none⟩ = some (.int .i64 p.dst) /\ wx.cell? ⟨b,off + (k - 1) * 5 + 4,none⟩ = some (.int .i64 p.wt) /\ wx.cell? ⟨wr.heap.size,0,none⟩ = some (.int .i64 a.src) /\ wx.cell? ⟨wr.heap.size,1,none⟩ = some (.int .i64 a.inp) /\ wx.cell? ⟨wr.heap.size,2,none⟩ = some (.int .i64 a.out) /\ wx.cell? ⟨wr.heap.size,3,none⟩ = some (.int .i64 a.dst) /\ wx.cell? ⟨wr.heap.size,4,none⟩ = some (.int .i64 a.wt)) (first | go_keep | (go_split_ands; refine ⟨bel_c hbw (by assumption),bel_c hbw (by assumption),bel_c hbw (by assumption),bel_c hbw (by assumption),bel_c hbw (by assumption),bel_c hbw (by assumption),bel_c hbw (by assumption),bel_c hbw (by assumption),bel_c hbw (by assumption),bel_c hbw (by assumption),bel_c hbw (by assumption)⟩)) ((go_at_call 96; refine (compareArcs_any p a _).mono ?_; rintro e w' ⟨rfl,hbw⟩))
     go_wp2
     go_roundw
     case rel => exact ⟨k + 1,by omega,by go_num,arcsErr_on _ _ _ a HA.out HX.out (by rw [HP.out]; simp [arcErr,HAH.out, *]),bel_on hBel.drew hbw,(hF.below (bel_self _).drew).below hbw,(hx.below (bel_self _).drew).below hbw⟩
     case measure => simp [intOf]; omega
  ·go_wp2
   go_ret
   exact ⟨ret_int (arcsErr_miss _ _ (fun j hj => HA.out j (by omega))).symm,hbr⟩
theorem checkArcs_nil (f : FstD) (fin : Value) (a : Option Addr) (cap : Nat) (w : World) :
  Calls Try.prog 74 #[.agg #[.int .i64 f.states,.int .i64 f.start,fin,.slice a 0 cap]] w fun e w' =>
   e = .returned (.int .i64 0) /\ Below w.heap.size w w':=by
 go_enter Try.func74,Try.ntmps74
 go_wp2
 go_loop [8] (fun i => i = .int .i64 0) (fun _ => 0)
 case atStart => rfl
 case round =>
  subst hrel
  go_wp2
  go_ret
  exact ⟨rfl,bel_up (bel_self _) _⟩
theorem checkArcs_any (f : FstD) (fin arcs : Value) (w : World) (ha : ASlice w arcs f.arcs) (h1 : 1 <= f.states) (h2 : f.states <= 200) :
  Calls Try.prog 74 #[.agg #[.int .i64 f.states,.int .i64 f.start,fin,arcs]] w fun e w' =>
   e = .returned (.int .i64 (arcsErr f.states none f.arcs)) /\ Below w.heap.size w w':=by
 rcases ha with ⟨a,cap,rfl,h⟩ | ⟨b,off,n,cap,rfl,hx,hn⟩
 ·rw [h]; exact checkArcs_nil f fin a cap w
 ·exact checkArcs_some f fin b off n cap w hx hn h1 h2
theorem inB_le {n a b : Int} (h : inB n a b = true) : a <= n /\ n <= b:=by simpa [inB] using h
theorem ISlice.lenOf {w : World} {v : Value} {xs : List Int} (h : ISlice w v xs) : ∃ a n c,v = .slice a n c /\ xs.length = n /\ n <= maxLen:=by
 rcases h with ⟨a,cap,rfl,rfl⟩ | ⟨b,off,n,cap,rfl,hx,hn⟩
 ·exact ⟨a,0,cap,rfl,rfl,by decide⟩
 ·exact ⟨_,n,cap,rfl,hx.len,hn⟩
theorem ASlice.lenOf {w : World} {v : Value} {xs : List ArcD} (h : ASlice w v xs) : ∃ a n c,v = .slice a n c /\ xs.length = n /\ n <= maxLen:=by
 rcases h with ⟨a,cap,rfl,rfl⟩ | ⟨b,off,n,cap,rfl,hx,hn⟩
 ·exact ⟨a,0,cap,rfl,rfl,by decide⟩
 ·exact ⟨_,n,cap,rfl,hx.len,hn⟩
set_option maxHeartbeats 1000000 in
theorem check_any (f : FstD) (fin arcs : Value) (w : World) (hf : ISlice w fin f.final) (ha : ASlice w arcs f.arcs) :
  Calls Try.prog 33 #[.agg #[.int .i64 f.states,.int .i64 f.start,fin,arcs]] w fun e w' =>
   e = .returned (.int .i64 (checkD f)) /\ Below w.heap.size w w':=by
 obtain ⟨fa,fn,fc,rfl,hfl,hfm⟩:=hf.lenOf
 obtain ⟨aa,an,ac,rfl,hal,ham⟩:=ha.lenOf
 have HFL : Hid (f.final.length = fn):=hfl
 have HAL : Hid (f.arcs.length = an):=hal
 unfold maxLen at hfm ham
 clear hfl hal
 cases hs : inB f.states 1 200
 ·go_enter Try.func33,Try.ntmps33
  go_wp2_with (go_at_call 70; refine (within_any _ _ _ _).mono ?_; rintro e w' ⟨rfl,rfl⟩)
  go_ret
  exact ⟨ret_int (by simp [checkD,hs]),bel_up (bel_self _) _⟩
 ·obtain ⟨l1,l2⟩:=inB_le hs
  have hbF : CellsF (w.alloc (.cells #[.int .i64 f.states,.int .i64 f.start,.slice fa fn fc,.slice aa an ac] 25)) w.heap.size f.states f.start (.slice fa fn fc) (.slice aa an ac):=by simp [CellsF]
  go_enter Try.func33,Try.ntmps33
  go_wp2_with (first | (go_at_call 70; refine (within_any _ _ _ _).mono ?_; rintro e w' ⟨rfl,rfl⟩) | (go_at_call 71; refine (isState_any _ _ _ _ _ _ (by omega) (by omega)).mono ?_; rintro e w' ⟨rfl,hbw⟩; have hF:=hbF.below hbw; have hB:=bel_on (bel_up (bel_self w) _) hbw; have hf:=hf.below hB; have ha:=ha.below hB; clear hbw; have hF':=hF; obtain ⟨f0,f1,f2,f3⟩:=hF') | (go_at_call 72; refine (chk_contains _ f.final _ hf).mono ?_; rintro e w' ⟨rfl,rfl⟩) | (go_at_call 74; refine (checkArcs_any f _ _ _ ha (by omega) (by omega)).mono ?_; rintro e w' ⟨rfl,hbw⟩))
  all_goals
   go_ret
   refine ⟨ret_int ?_,?_⟩
   ·have e1:=HFL.out
    have e2:=HAL.out
    clear hbF
    unfold checkD
    rw [hs,e1,e2]
    generalize f.final.any finB = q at *
    simp_all <;> omega
   ·first | exact hB | exact bel_on hB hbw
end Go.Proofs.Yteehgcbjmdideab
/- 'Ahead' and 'CheckFst' of the document's answer. -/
namespace Go.Proofs.Yteehgcbjmdideab
open Go.RowKit
attribute [local go_sem ↓] Go.wp_at_zero Go.wp_at_succ
def four (a : ArcD) : List Int:=[a.src,a.inp,a.out,a.dst]
theorem ahead_hit (a b : ArcD) (k : Nat) (hk : k < 4) (h : ∀ j,j < k -> (four a).getD j 0 = (four b).getD j 0) (hne : (four a).getD k 0 ≠ (four b).getD k 0) :
  aheadB a b = decide ((four a).getD k 0 < (four b).getD k 0):=by
 unfold aheadB
 match k,hk with
 | 0,_ => simp [four] at hne ⊢; simp [hne]
 | 1,_ =>
  have h0:=h 0 (by omega); simp [four] at hne h0 ⊢; simp [hne,h0]
 | 2,_ =>
  have h0:=h 0 (by omega); have h1:=h 1 (by omega); simp [four] at hne h0 h1 ⊢; simp [hne,h0,h1]
 | 3,_ =>
  have h0:=h 0 (by omega); have h1:=h 1 (by omega); have h2:=h 2 (by omega); simp [four] at hne h0 h1 h2 ⊢; simp [h0,h1,h2]
theorem ahead_miss (a b : ArcD) (h : ∀ j,j < 4 -> (four a).getD j 0 = (four b).getD j 0) : aheadB a b = false:=by
 have h0:=h 0 (by omega); have h1:=h 1 (by omega); have h2:=h 2 (by omega); have h3:=h 3 (by omega)
 simp [four] at h0 h1 h2 h3
 simp [aheadB,h0,h1,h2,h3]
theorem four_cells (w : World) (B : Nat) (a : ArcD) (h0 : w.cell? ⟨B,0,none⟩ = some (.int .i64 a.src)) (h1 : w.cell? ⟨B,1,none⟩ = some (.int .i64 a.inp)) (h2 : w.cell? ⟨B,2,none⟩ = some (.int .i64 a.out)) (h3 : w.cell? ⟨B,3,none⟩ = some (.int .i64 a.dst)) :
  ∀ i,i < 4 -> w.cell? ⟨B,0 + i,none⟩ = some (.int .i64 ((four a).getD i 0)):=by
 intro i hi
 match i,hi with
 | 0,_ => simpa [four] using h0
 | 1,_ => simpa [four] using h1
 | 2,_ => simpa [four] using h2
 | 3,_ => simpa [four] using h3
set_option maxHeartbeats 1000000 in
theorem ahead_any (a b : ArcD) (w : World) :
  Calls Try.prog 35 #[.agg #[.int .i64 a.src,.int .i64 a.inp,.int .i64 a.out,.int .i64 a.dst,.int .i64 a.wt],.agg #[.int .i64 b.src,.int .i64 b.inp,.int .i64 b.out,.int .i64 b.dst,.int .i64 b.wt]] w fun e w' =>
   e = .returned (.bool (aheadB a b)) /\ Below w.heap.size w w':=by
 go_enter Try.func35,Try.ntmps35
 go_wp2
 go_region_held3 (fun w' => w'.cell? ⟨w.heap.size,0,none⟩ = some (.int .i64 a.src) /\ w'.cell? ⟨w.heap.size,1,none⟩ = some (.int .i64 a.inp) /\ w'.cell? ⟨w.heap.size,2,none⟩ = some (.int .i64 a.out) /\ w'.cell? ⟨w.heap.size,3,none⟩ = some (.int .i64 a.dst) /\ w'.cell? ⟨w.heap.size + 1,0,none⟩ = some (.int .i64 b.src) /\ w'.cell? ⟨w.heap.size + 1,1,none⟩ = some (.int .i64 b.inp) /\ w'.cell? ⟨w.heap.size + 1,2,none⟩ = some (.int .i64 b.out) /\ w'.cell? ⟨w.heap.size + 1,3,none⟩ = some (.int .i64 b.dst)) (go_keep) (fail)
 ·go_wp2
  go_loopw [7] (fun i wr => ∃ k : Nat,k <= 4 /\ i = .int .i64 k /\ (∀ j,j < k -> (four a).getD j 0 = (four b).getD j 0) /\ IntsAt wr (w.heap.size + 1 + 1) 0 4 (four a) /\ IntsAt wr (w.heap.size + 1 + 1 + 1) 0 4 (four b) /\ Below w.heap.size w wr) (fun i _ => 4 - (intOf i).toNat)
  case atStart => exact ⟨0,Nat.zero_le _,rfl,fun j hj => absurd hj (Nat.not_lt_zero _),⟨rfl,four_cells _ _ _ (by first | exact drew_cell (new_cell _ _ _ _ _ _ (by simp) rfl) | exact drew_cell (old_cell (new_cell _ _ _ _ _ _ (by simp) rfl))) (by first | exact drew_cell (new_cell _ _ _ _ _ _ (by simp) rfl) | exact drew_cell (old_cell (new_cell _ _ _ _ _ _ (by simp) rfl))) (by first | exact drew_cell (new_cell _ _ _ _ _ _ (by simp) rfl) | exact drew_cell (old_cell (new_cell _ _ _ _ _ _ (by simp) rfl))) (by first | exact drew_cell (new_cell _ _ _ _ _ _ (by simp) rfl) | exact drew_cell (old_cell (new_cell _ _ _ _ _ _ (by simp) rfl)))⟩,⟨rfl,four_cells _ _ _ (by first | exact drew_cell (new_cell _ _ _ _ _ _ (by simp) rfl) | exact drew_cell (old_cell (new_cell _ _ _ _ _ _ (by simp) rfl))) (by first | exact drew_cell (new_cell _ _ _ _ _ _ (by simp) rfl) | exact drew_cell (old_cell (new_cell _ _ _ _ _ _ (by simp) rfl))) (by first | exact drew_cell (new_cell _ _ _ _ _ _ (by simp) rfl) | exact drew_cell (old_cell (new_cell _ _ _ _ _ _ (by simp) rfl))) (by first | exact drew_cell (new_cell _ _ _ _ _ _ (by simp) rfl) | exact drew_cell (old_cell (new_cell _ _ _ _ _ _ (by simp) rfl)))⟩,(bel_up (bel_up (bel_up (bel_up (bel_self _) _) _) _) _).drew⟩
  case round =>
   obtain ⟨k,hk,rfl,hall,hx,hy,hb⟩:=hrel
   have HA : Hid (∀ j,j < k -> (four a).getD j 0 = (four b).getD j 0):=hall
   clear hall
   by_cases hlt : k < 4
   ·have c0:=hx.cell k hlt
    have c1:=hy.cell k hlt
    simp only [Nat.zero_add] at c0 c1
    obtain ⟨x,hxk⟩ : ∃ x,x = (four a).getD k 0:=⟨_,rfl⟩
    obtain ⟨y,hyk⟩ : ∃ y,y = (four b).getD k 0:=⟨_,rfl⟩
    rw [<- hxk] at c0
    rw [<- hyk] at c1
    have HX : Hid (x = (four a).getD k 0):=hxk
    have HY : Hid (y = (four b).getD k 0):=hyk
    clear hxk hyk
    have hi : (k : Int) < 4:=by omega
    by_cases hxy : x = y
    ·have hd : (x != y) = false:=by simp [hxy]
     go_wp2
     go_quiet (fail)
     go_wp2
     go_roundw
     case rel =>
      refine ⟨k + 1,by omega,by go_num,fun j hj => ?_,hx.below (bel_drewN (bel_self _) _),hy.below (bel_drewN (bel_self _) _),bel_drewN hb _⟩
      by_cases e : j = k
      ·subst e; rw [<- HX.out,<- HY.out]; exact hxy
      ·exact HA.out j (by omega)
     case measure => simp [intOf]; omega
    ·have hd : (x == y) = false:=by simpa using hxy
     have HB : Hid (aheadB a b = decide (x < y)):=by rw [HX.out,HY.out]; exact ahead_hit a b k hlt HA.out (by rw [<- HX.out,<- HY.out]; exact hxy)
     go_wp2
     go_quiet (fail)
     go_wp2
     go_quiet (fail)
     go_wp2
     go_ret
     exact ⟨ret_bool HB.out.symm,bel_drewN (bel_drewN hb _) _⟩
   ·go_wp2
    go_ret
    exact ⟨ret_bool (ahead_miss a b (fun j hj => HA.out j (by omega))).symm,hb⟩
 ·go_wp2
  go_loopw [7] (fun i wr => ∃ k : Nat,k <= 4 /\ i = .int .i64 k /\ (∀ j,j < k -> (four a).getD j 0 = (four b).getD j 0) /\ IntsAt wr (w.heap.size + 1 + 1 + 1) 0 4 (four a) /\ IntsAt wr (w.heap.size + 1 + 1) 0 4 (four b) /\ Below w.heap.size w wr) (fun i _ => 4 - (intOf i).toNat)
  case atStart => exact ⟨0,Nat.zero_le _,rfl,fun j hj => absurd hj (Nat.not_lt_zero _),⟨rfl,four_cells _ _ _ (by first | exact drew_cell (new_cell _ _ _ _ _ _ (by simp) rfl) | exact drew_cell (old_cell (new_cell _ _ _ _ _ _ (by simp) rfl))) (by first | exact drew_cell (new_cell _ _ _ _ _ _ (by simp) rfl) | exact drew_cell (old_cell (new_cell _ _ _ _ _ _ (by simp) rfl))) (by first | exact drew_cell (new_cell _ _ _ _ _ _ (by simp) rfl) | exact drew_cell (old_cell (new_cell _ _ _ _ _ _ (by simp) rfl))) (by first | exact drew_cell (new_cell _ _ _ _ _ _ (by simp) rfl) | exact drew_cell (old_cell (new_cell _ _ _ _ _ _ (by simp) rfl)))⟩,⟨rfl,four_cells _ _ _ (by first | exact drew_cell (new_cell _ _ _ _ _ _ (by simp) rfl) | exact drew_cell (old_cell (new_cell _ _ _ _ _ _ (by simp) rfl))) (by first | exact drew_cell (new_cell _ _ _ _ _ _ (by simp) rfl) | exact drew_cell (old_cell (new_cell _ _ _ _ _ _ (by simp) rfl))) (by first | exact drew_cell (new_cell _ _ _ _ _ _ (by simp) rfl) | exact drew_cell (old_cell (new_cell _ _ _ _ _ _ (by simp) rfl))) (by first | exact drew_cell (new_cell _ _ _ _ _ _ (by simp) rfl) | exact drew_cell (old_cell (new_cell _ _ _ _ _ _ (by simp) rfl)))⟩,(bel_up (bel_up (bel_up (bel_up (bel_self _) _) _) _) _).drew⟩
  case round =>
   obtain ⟨k,hk,rfl,hall,hx,hy,hb⟩:=hrel
   have HA : Hid (∀ j,j < k -> (four a).getD j 0 = (four b).getD j 0):=hall
   clear hall
   by_cases hlt : k < 4
   ·have c0:=hx.cell k hlt
    have c1:=hy.cell k hlt
    simp only [Nat.zero_add] at c0 c1
    obtain ⟨x,hxk⟩ : ∃ x,x = (four a).getD k 0:=⟨_,rfl⟩
    obtain ⟨y,hyk⟩ : ∃ y,y = (four b).getD k 0:=⟨_,rfl⟩
    rw [<- hxk] at c0
    rw [<- hyk] at c1
    have HX : Hid (x = (four a).getD k 0):=hxk
    have HY : Hid (y = (four b).getD k 0):=hyk
    clear hxk hyk
    have hi : (k : Int) < 4:=by omega
    by_cases hxy : x = y
    ·have hd : (x != y) = false:=by simp [hxy]
     go_wp2
     go_quiet (fail)
     go_wp2
     go_roundw
     case rel =>
      refine ⟨k + 1,by omega,by go_num,fun j hj => ?_,hx.below (bel_drewN (bel_self _) _),hy.below (bel_drewN (bel_self _) _),bel_drewN hb _⟩
      by_cases e : j = k
      ·subst e; rw [<- HX.out,<- HY.out]; exact hxy
      ·exact HA.out j (by omega)
     case measure => simp [intOf]; omega
    ·have hd : (x == y) = false:=by simpa using hxy
     have HB : Hid (aheadB a b = decide (x < y)):=by rw [HX.out,HY.out]; exact ahead_hit a b k hlt HA.out (by rw [<- HX.out,<- HY.out]; exact hxy)
     go_wp2
     go_quiet (fail)
     go_wp2
     go_quiet (fail)
     go_wp2
     go_ret
     exact ⟨ret_bool HB.out.symm,bel_drewN (bel_drewN hb _) _⟩
   ·go_wp2
    go_ret
    exact ⟨ret_bool (ahead_miss a b (fun j hj => HA.out j (by omega))).symm,hb⟩
end Go.Proofs.Yteehgcbjmdideab
