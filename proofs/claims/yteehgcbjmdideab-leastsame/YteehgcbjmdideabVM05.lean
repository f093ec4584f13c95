/- Spots: a state,and how many letters of two words are used; edges from spot to spot; what a pair of words costs. -/
import Derived.Test.YteehgcbjmdideabVM04
import Derived.Test.YteehgcbjmdideabVM00
import Derived.Deep.QuietTactic
import Derived.BigQuiet
namespace Go.Proofs.Yteehgcbjmdideab
def fitB (word : List Int) (used : Nat) (letter : Int) : Bool:=(letter == 0) || (decide (used < word.length) && (word.getD used 0 == letter))
def usedBy (used : Nat) (letter : Int) : Nat:=if letter = 0 then used else used + 1
end Go.Proofs.Yteehgcbjmdideab
/- What the document's tables hold: place by place,along arcs that say something,then along silent ones till nothing is better. -/
namespace Go.Proofs.Yteehgcbjmdideab
end Go.Proofs.Yteehgcbjmdideab
/- Arcs that stand by where they begin: the number of the first arc of each state. Edges from spot to spot,their bounds. -/
namespace Go.Proofs.Yteehgcbjmdideab
section
variable {N : Nat} {ins outs : List Int} {arcs : List ArcD}
end
end Go.Proofs.Yteehgcbjmdideab
/- 'use' of package score: a letter behind those that are used already. -/
namespace Go.Proofs.Yteehgcbjmdideab
open Go.RowKit
attribute [local go_sem ↓] Go.wp_at_zero Go.wp_at_succ
end Go.Proofs.Yteehgcbjmdideab
/- What the search's map and queue hold,as prices of spots. -/
namespace Go.Proofs.Yteehgcbjmdideab
open Go.RowKit
section
variable (f : FstD) (ins outs : List Int) (N : Nat)
end
section
variable {f : FstD} {ins outs : List Int} {N s0 : Nat} {c y : List Int} {ms : List MetD} {L : List PlD} {best : Int} {x0 : Nat} {D : List Nat} {lo : Int}
end
end Go.Proofs.Yteehgcbjmdideab
/- Ways through a transducer by two words: a state,how many letters are used,what it cost. What a pair of words costs,told by them. -/
namespace Go.Proofs.Yteehgcbjmdideab
def PathN (f : FstD) (ins outs : List Int) (s0 : Nat) : Nat -> Nat -> Nat -> Nat -> Int -> Prop
 | 0,n,i,o,z => n = s0 /\ i = 0 /\ o = 0 /\ z = 0
 | h + 1,n,i,o,z => ∃ a ∈ f.arcs,∃ n' i' o' z',PathN f ins outs s0 h n' i' o' z' /\ a.src = (n' : Int) /\ a.dst = (n : Int) /\ fitB ins i' a.inp = true /\ fitB outs o' a.out = true /\ i = usedBy i' a.inp /\ o = usedBy o' a.out /\ z = z' + a.wt
def TotP (f : FstD) (ins outs : List Int) (s0 : Nat) (x : Int) : Prop :=
 ∃ h n z,PathN f ins outs s0 h n ins.length outs.length z /\ 0 <= gI f.final n /\ x = z + gI f.final n
def BestP (f : FstD) (ins outs : List Int) (s0 : Nat) (x : Int) : Prop :=
 (x = -1 /\ ∀ y,¬ TotP f ins outs s0 y) \/ (0 <= x /\ TotP f ins outs s0 x /\ ∀ y,TotP f ins outs s0 y -> x <= y)
theorem BestP.unique {f : FstD} {ins outs : List Int} {s0 : Nat} {x z : Int} (h : BestP f ins outs s0 x) (h' : BestP f ins outs s0 z) : x = z:=by
 rcases h with ⟨rfl,h1⟩ | ⟨_,h1,h2⟩
 ·rcases h' with ⟨rfl,_⟩ | ⟨_,h3,_⟩
  ·rfl
  ·exact absurd h3 (h1 _)
 ·rcases h' with ⟨rfl,h3⟩ | ⟨_,h3,h4⟩
  ·exact absurd h1 (h3 _)
  ·have:=h2 _ h3
   have:=h4 _ h1
   omega
theorem BestP.of_tot {f g : FstD} {ins outs ins' outs' : List Int} {s0 t0 : Nat} {x : Int} (h : BestP f ins outs s0 x) (he : ∀ y,TotP f ins outs s0 y ↔ TotP g ins' outs' t0 y) : BestP g ins' outs' t0 x:=by
 rcases h with ⟨h1,h2⟩ | ⟨h1,h2,h3⟩
 ·exact Or.inl ⟨h1,fun y hy => h2 y ((he y).2 hy)⟩
 ·exact Or.inr ⟨h1,(he x).1 h2,fun y hy => h3 y ((he y).2 hy)⟩
section
variable {f : FstD} {ins outs : List Int} {N s0 : Nat}
theorem PathN.lt (hs : s0 < N) (ha : ∀ a ∈ f.arcs,0 <= a.dst /\ a.dst < N) {h n i o : Nat} {z : Int} (hp : PathN f ins outs s0 h n i o z) : n < N:=by
 cases h with
 | zero => obtain ⟨rfl,_⟩:=hp; exact hs
 | succ h =>
  obtain ⟨a,hm,_,_,_,_,_,_,hd,_⟩:=hp
  have:=ha a hm
  omega
end
end Go.Proofs.Yteehgcbjmdideab
/- Arcs in their order,each ahead of all behind it; what Check passes. -/
namespace Go.Proofs.Yteehgcbjmdideab
theorem ahead_iff (a b : ArcD) : aheadB a b = true ↔ a.src < b.src \/ (a.src = b.src /\ (a.inp < b.inp \/ (a.inp = b.inp /\ (a.out < b.out \/ (a.out = b.out /\ a.dst < b.dst))))):=by
 unfold aheadB
 by_cases h0 : a.src = b.src
 ·rw [if_neg (by simpa using h0)]
  by_cases h1 : a.inp = b.inp
  ·rw [if_neg (by simpa using h1)]
   by_cases h2 : a.out = b.out
   ·rw [if_neg (by simpa using h2),decide_eq_true_iff]
    omega
   ·rw [if_pos h2,decide_eq_true_iff]
    omega
  ·rw [if_pos h1,decide_eq_true_iff]
   omega
 ·rw [if_pos h0,decide_eq_true_iff]
  omega
theorem ahead_trans {a b c : ArcD} (h1 : aheadB a b = true) (h2 : aheadB b c = true) : aheadB a c = true:=by
 rw [ahead_iff] at *
 omega
theorem arcErr_mk {st : Int} {p : Option ArcD} {a : ArcD} (h : ArcOk st a) (hp : ∀ q,p = some q -> aheadB q a = true) : arcErr st p a = 0:=by
 unfold arcErr
 rw [h.src,h.dst,h.inp,h.out,h.wt]
 cases p with
 | none => rfl
 | some q => simp [hp q rfl]
theorem arcErr_ahead {st : Int} {q a : ArcD} (h : arcErr st (some q) a = 0) : aheadB q a = true:=by
 have k:=arcErr_ok _ _ _ h
 unfold arcErr at h
 rw [k.src,k.dst,k.inp,k.out,k.wt] at h
 cases e : aheadB q a with
 | true => rfl
 | false => simp [e] at h
theorem arcsErr_mk {st : Int} (l : List ArcD) : ∀ (p : Option ArcD),(∀ a ∈ l,ArcOk st a) -> l.Pairwise (fun a b => aheadB a b = true) -> (∀ q,p = some q -> ∀ x ∈ l,aheadB q x = true) -> arcsErr st p l = 0:=by
 induction l with
 | nil => intro p _ _ _; rfl
 | cons a l ih =>
  intro p h1 h2 h3
  rw [List.pairwise_cons] at h2
  rw [arcsErr,if_pos (arcErr_mk (h1 a (by simp)) (fun q hq => h3 q hq a (by simp)))]
  refine ih _ (fun b hb => h1 b (by simp [hb])) h2.2 (fun q hq x hx => ?_)
  injection hq with hq
  subst hq
  exact h2.1 x hx
theorem arcsErr_order {st : Int} (l : List ArcD) : ∀ (p : Option ArcD),arcsErr st p l = 0 -> l.Pairwise (fun a b => aheadB a b = true) /\ ∀ q,p = some q -> ∀ x ∈ l,aheadB q x = true:=by
 induction l with
 | nil => intro p _; exact ⟨List.Pairwise.nil,fun _ _ x hx => by cases hx⟩
 | cons a l ih =>
  intro p h
  rw [arcsErr] at h
  by_cases e : arcErr st p a = 0
  ·rw [if_pos e] at h
   obtain ⟨g1,g2⟩:=ih _ h
   refine ⟨List.pairwise_cons.2 ⟨fun x hx => g2 a rfl x hx,g1⟩,fun q hq x hx => ?_⟩
   subst hq
   have e1:=arcErr_ahead e
   rcases List.mem_cons.1 hx with rfl | hx
   ·exact e1
   ·exact ahead_trans e1 (g2 a rfl x hx)
  ·rw [if_neg e] at h; exact absurd h e
structure Fine (f : FstD) : Prop where
 s1 : 1 <= f.states
 s2 : f.states <= 200
 b1 : 0 <= f.start
 b2 : f.start < f.states
 len : (f.final.length : Int) = f.states
 fin : ∀ x ∈ f.final,x = -1 \/ (0 <= x /\ x <= 1000000000)
 many : f.arcs.length <= 3000
 arcs : ∀ a ∈ f.arcs,ArcOk f.states a
 ord : f.arcs.Pairwise (fun a b => aheadB a b = true)
theorem fine_of {f : FstD} (h : checkD f = 0) : Fine f:=by
 have k:=check_ok f h
 have k0:=k.states
 have k1:=k.start
 simp [inB] at k0 k1
 exact ⟨k0.1,k0.2,k1.1,by omega,k.len,fun x hx => (finB_out (k.fin x hx)).1,k.many,k.arcs,(arcsErr_order _ _ k.err).1⟩
theorem Fine.check {f : FstD} (h : Fine f) : checkD f = 0:=by
 have e0 : inB f.states 1 200 = true:=by simp [inB]; exact ⟨h.s1,h.s2⟩
 have e1 : inB f.start 0 (f.states - 1) = true:=by simp [inB]; have:=h.b1; have:=h.b2; omega
 have e3 : f.final.any finB = false:=by
  rw [List.any_eq_false]
  intro x hx
  have:=h.fin x hx
  unfold finB inB
  rcases this with rfl | ⟨g1,g2⟩
  ·decide
  ·simp; omega
 unfold checkD
 rw [e0,e1,e3]
 have e2 : ¬ (f.final.length : Int) ≠ f.states:=fun hh => hh h.len
 have e4 : ¬ 3000 < f.arcs.length:=by have:=h.many; omega
 simp only [Bool.not_true,Bool.false_eq_true,if_false,if_neg e2,if_neg e4]
 exact arcsErr_mk _ _ h.arcs h.ord (fun q hq => by cases hq)
theorem fine_iff {f : FstD} : checkD f = 0 ↔ Fine f:=⟨fine_of,Fine.check⟩
end Go.Proofs.Yteehgcbjmdideab
/- What is trimmed passes Check,and costs the same for whatever two words. -/
namespace Go.Proofs.Yteehgcbjmdideab.Sc
section
variable {st : Nat -> Bool}
theorem newNo_monoM {a b : Nat} (h : a ≤ b) : newNo st a ≤ newNo st b := by
  induction b with
  | zero => have : a = 0 := by omega
            subst this; exact Nat.le_refl _
  | succ b ih =>
    by_cases e : a = b + 1
    · subst e; exact Nat.le_refl _
    · have := ih (by omega)
      rw [newNo_succ]
      omega
theorem newNo_ltM {a b : Nat} (h : a < b) (ha : st a = true) : newNo st a < newNo st b:=by
 have h1:=newNo_succ st a
 rw [ha,if_pos rfl] at h1
 have:=newNo_monoM (st:=st) (show a + 1 <= b by omega)
 omega
theorem newNo_inj {a b : Nat} (ha : st a = true) (hb : st b = true) (h : newNo st a = newNo st b) : a = b:=by
 rcases Nat.lt_trichotomy a b with h1 | h1 | h1
 ·have:=newNo_ltM h1 ha; omega
 ·exact h1
 ·have:=newNo_ltM h1 hb; omega
theorem filter_at (k n : Nat) (hn : n < k) (h : st n = true) : ((List.range k).filter st)[newNo st n]? = some n:=by
 induction k with
 | zero => omega
 | succ k ih =>
  rw [List.range_succ,List.filter_append]
  by_cases e : n = k
  ·subst e
   rw [List.getElem?_append_right (by unfold newNo; exact Nat.le_refl _)]
   unfold newNo
   simp [h]
  ·have:=ih (by omega)
   rw [List.getElem?_append_left]
   ·exact this
   ·exact (List.getElem?_eq_some_iff.1 this).1
theorem finT_at {f : FstD} {k n : Nat} (hn : n < k) (h : st n = true) (hl : n < f.final.length) : gI (finT f st k) (newNo st n) = gI f.final n:=by
 unfold gI finT
 simp only [List.getD,List.getElem?_map,filter_at k n hn h,Option.map_some,Option.getD_some,List.getElem?_eq_getElem hl]
end
section
variable {f t : FstD}
theorem trim_fine (hc : checkD f = 0) (h : IsTrim f t) : checkD t = 0:=by
 obtain ⟨st,hst,rfl⟩:=h
 have k:=fine_of hc
 unfold trimBy
 by_cases hs : st f.start.toNat = true
 ·rw [if_pos hs]
  have hN : f.start.toNat < f.states.toNat:=by have:=k.b1; have:=k.b2; omega
  have hlt:=newNo_ltM hN hs
  have hle:=newNo_le st f.states.toNat
  have hs2:=k.s2
  refine Fine.check ⟨?_,?_,?_,?_,?_,?_,?_,?_,?_⟩
  ·show (1 : Int) <= (newNo st f.states.toNat : Nat); omega
  ·show ((newNo st f.states.toNat : Nat) : Int) <= 200; omega
  ·show (0 : Int) <= (newNo st f.start.toNat : Nat); omega
  ·show ((newNo st f.start.toNat : Nat) : Int) < (newNo st f.states.toNat : Nat); omega
  ·show ((finT f st f.states.toNat).length : Int) = _
   rw [finT_len]
  ·intro x hx
   obtain ⟨i,hi,rfl⟩:=List.mem_map.1 hx
   have hi2:=List.mem_range.1 (List.mem_filter.1 hi).1
   have hil : i < f.final.length:=by have:=k.len; omega
   refine k.fin _ ?_
   simp [List.getD,hil]
  ·exact Nat.le_trans (arcsT_len st f.arcs) k.many
  ·intro b hb
   obtain ⟨a,ha,rfl⟩:=List.mem_map.1 hb
   obtain ⟨ha1,ha2⟩:=List.mem_filter.1 ha
   rw [Bool.and_eq_true] at ha2
   have q:=k.arcs a ha1
   have e0:=q.src
   have e1:=q.dst
   simp [inB] at e0 e1
   have l0:=newNo_ltM (show a.src.toNat < f.states.toNat by omega) ha2.1
   have l1:=newNo_ltM (show a.dst.toNat < f.states.toNat by omega) ha2.2
   refine ⟨?_,?_,q.inp,q.out,q.wt⟩
   ·show inB ((newNo st a.src.toNat : Nat) : Int) 0 (((newNo st f.states.toNat : Nat) : Int) - 1) = true
    simp [inB]; omega
   ·show inB ((newNo st a.dst.toNat : Nat) : Int) 0 (((newNo st f.states.toNat : Nat) : Int) - 1) = true
    simp [inB]; omega
  ·show (arcsT st f.arcs).Pairwise _
   unfold arcsT
   rw [List.pairwise_map]
   have h1:=k.ord.filter (p:=fun a => st a.src.toNat && st a.dst.toNat)
   refine List.Pairwise.imp_of_mem (fun {a b} ha hb hab => ?_) h1
   obtain ⟨ha1,ha2⟩:=List.mem_filter.1 ha
   obtain ⟨hb1,hb2⟩:=List.mem_filter.1 hb
   rw [Bool.and_eq_true] at ha2 hb2
   have qa:=k.arcs a ha1
   have qb:=k.arcs b hb1
   have a0':=qa.src
   have a1':=qa.dst
   have b0':=qb.src
   have b1':=qb.dst
   simp [inB] at a0' a1' b0' b1'
   rw [ahead_iff] at hab ⊢
   show ((newNo st a.src.toNat : Nat) : Int) < (newNo st b.src.toNat : Nat) \/ (((newNo st a.src.toNat : Nat) : Int) = (newNo st b.src.toNat : Nat) /\ (a.inp < b.inp \/ (a.inp = b.inp /\ (a.out < b.out \/ (a.out = b.out /\ ((newNo st a.dst.toNat : Nat) : Int) < (newNo st b.dst.toNat : Nat))))))
   rcases hab with h | ⟨h,h2⟩
   ·left
    have:=newNo_ltM (show a.src.toNat < b.src.toNat by omega) ha2.1
    omega
   ·right
    refine ⟨by rw [h],?_⟩
    rcases h2 with h2 | ⟨h2,h3⟩
    ·exact Or.inl h2
    ·right
     refine ⟨h2,?_⟩
     rcases h3 with h3 | ⟨h3,h4⟩
     ·exact Or.inl h3
     ·right
      have:=newNo_ltM (show a.dst.toNat < b.dst.toNat by omega) ha2.2
      exact ⟨h3,by omega⟩
 ·rw [if_neg hs]
  decide
variable {ins outs : List Int}
theorem path_reach {s0 : Nat} (hs : f.start = (s0 : Nat)) (hN : s0 < f.states.toNat) {h n i o : Nat} {z : Int} (hp : PathN f ins outs s0 h n i o z) : ReachP f.states.toNat (pairsA f) (firstA f) n:=by
 induction h generalizing n i o z with
 | zero =>
  obtain ⟨rfl,_⟩:=hp
  exact Reach.first ⟨hN,by unfold firstA; rw [hs]; simp⟩
 | succ h ih =>
  obtain ⟨a,hm,n',i',o',z',hp',h1,h2,_⟩:=hp
  refine Reach.on (ih hp') ?_
  show (n',n) ∈ pairsA f
  unfold pairsA
  rw [List.mem_map]
  exact ⟨a,hm,by rw [h1,h2,Int.toNat_natCast,Int.toNat_natCast]⟩
theorem path_back {s0 : Nat} {h n i o : Nat} {z : Int} (hp : PathN f ins outs s0 h n i o z) (hB : ReachP f.states.toNat (pairsB f) (firstB f) n) : ReachP f.states.toNat (pairsB f) (firstB f) s0:=by
 induction h generalizing n i o z with
 | zero =>
  obtain ⟨rfl,_⟩:=hp
  exact hB
 | succ h ih =>
  obtain ⟨a,hm,n',i',o',z',hp',h1,h2,_⟩:=hp
  refine ih hp' (Reach.on hB ?_)
  show (n,n') ∈ pairsB f
  unfold pairsB
  rw [List.mem_map]
  exact ⟨a,hm,by rw [h1,h2,Int.toNat_natCast,Int.toNat_natCast]⟩
theorem path_trim {st : Nat -> Bool} (hst : ∀ i,st i = true ↔ Stays f i) {s0 : Nat} (hs : f.start = (s0 : Nat)) (hN : s0 < f.states.toNat) (hS : st s0 = true) {h n i o : Nat} {z : Int} (hp : PathN f ins outs s0 h n i o z) (hB : ReachP f.states.toNat (pairsB f) (firstB f) n) :
  st n = true /\ PathN (trimBy f st) ins outs (newNo st s0) h (newNo st n) i o z:=by
 induction h generalizing n i o z with
 | zero =>
  obtain ⟨rfl,h2,h3,h4⟩:=hp
  exact ⟨hS,rfl,h2,h3,h4⟩
 | succ h ih =>
  have hA:=path_reach hs hN hp
  have hn:=(hst n).2 ⟨hA,hB⟩
  obtain ⟨a,hm,n',i',o',z',hp',h1,h2,h3⟩:=hp
  obtain ⟨g1,g2⟩:=ih hp' (Reach.on hB (by
   show (n,n') ∈ pairsB f
   unfold pairsB
   rw [List.mem_map]
   exact ⟨a,hm,by rw [h1,h2,Int.toNat_natCast,Int.toNat_natCast]⟩))
  refine ⟨hn,arcT st a,?_,newNo st n',i',o',z',g2,?_,?_,h3⟩
  ·unfold trimBy
   rw [if_pos (by rw [hs,Int.toNat_natCast]; exact hS)]
   show arcT st a ∈ arcsT st f.arcs
   unfold arcsT
   refine List.mem_map.2 ⟨a,List.mem_filter.2 ⟨hm,?_⟩,rfl⟩
   rw [h1,h2,Int.toNat_natCast,Int.toNat_natCast,g1,hn]
   rfl
  ·show ((newNo st a.src.toNat : Nat) : Int) = _
   rw [h1,Int.toNat_natCast]
  ·show ((newNo st a.dst.toNat : Nat) : Int) = _
   rw [h2,Int.toNat_natCast]
theorem trim_path {st : Nat -> Bool} {s0 : Nat} (hs : f.start = (s0 : Nat)) (hS : st s0 = true) (ha : ∀ a ∈ f.arcs,0 <= a.src /\ 0 <= a.dst) {h m i o : Nat} {z : Int} (hp : PathN (trimBy f st) ins outs (newNo st s0) h m i o z) :
  ∃ n,st n = true /\ m = newNo st n /\ PathN f ins outs s0 h n i o z:=by
 induction h generalizing m i o z with
 | zero =>
  obtain ⟨h1,h2,h3,h4⟩:=hp
  exact ⟨s0,hS,h1,rfl,h2,h3,h4⟩
 | succ h ih =>
  obtain ⟨b,hm,n',i',o',z',hp',h1,h2,h3⟩:=hp
  obtain ⟨n,g1,rfl,g2⟩:=ih hp'
  unfold trimBy at hm
  rw [if_pos (by rw [hs,Int.toNat_natCast]; exact hS)] at hm
  obtain ⟨a,ha1,rfl⟩:=List.mem_map.1 hm
  obtain ⟨ha2,ha3⟩:=List.mem_filter.1 ha1
  rw [Bool.and_eq_true] at ha3
  obtain ⟨p1,p2⟩:=ha a ha2
  have e1 : ((newNo st a.src.toNat : Nat) : Int) = (newNo st n : Nat):=h1
  have e2 : ((newNo st a.dst.toNat : Nat) : Int) = (m : Nat):=h2
  have q1:=newNo_inj ha3.1 g1 (by omega)
  exact ⟨a.dst.toNat,ha3.2,by omega,a,ha2,n,i',o',z',g2,by omega,by omega,h3⟩
theorem trim_tot (hc : checkD f = 0) (h : IsTrim f t) (y : Int) : TotP f ins outs f.start.toNat y ↔ TotP t ins outs t.start.toNat y:=by
 obtain ⟨st,hst,rfl⟩:=h
 have k:=fine_of hc
 obtain ⟨s0,hs⟩ : ∃ s0 : Nat,f.start = s0:=⟨f.start.toNat,by have:=k.b1; omega⟩
 have hN : s0 < f.states.toNat:=by have:=k.b2; omega
 have hfl : f.final.length = f.states.toNat:=by have:=k.len; omega
 have harc : ∀ a ∈ f.arcs,(0 <= a.src /\ 0 <= a.dst) /\ a.dst < f.states:=fun a ha => by
  have q:=k.arcs a ha
  have e0:=q.src
  have e1:=q.dst
  simp [inB] at e0 e1
  omega
 have hend : ∀ {h n i o : Nat} {z : Int},PathN f ins outs s0 h n i o z -> 0 <= gI f.final n -> n < f.states.toNat /\ ReachP f.states.toNat (pairsB f) (firstB f) n:=fun {h n i o z} hp h0 => by
  have hn : n < f.states.toNat:=hp.lt hN (fun a ha => by have:=harc a ha; omega)
  refine ⟨hn,Reach.first ⟨hn,?_⟩⟩
  have hg : gI f.final n = f.final.getD n 0:=by unfold gI; simp [List.getD,show n < f.final.length by omega]
  unfold firstB
  rw [<- hg]
  simp
  omega
 rw [hs,Int.toNat_natCast]
 by_cases hS : st s0 = true
 ·have e1 : (trimBy f st).start = (newNo st s0 : Nat):=by
   unfold trimBy
   rw [if_pos (by rw [hs,Int.toNat_natCast]; exact hS)]
   show ((newNo st f.start.toNat : Nat) : Int) = _
   rw [hs,Int.toNat_natCast]
  have e2 : (trimBy f st).final = finT f st f.states.toNat:=by
   unfold trimBy
   rw [if_pos (by rw [hs,Int.toNat_natCast]; exact hS)]
  rw [e1,Int.toNat_natCast]
  constructor
  ·rintro ⟨h,n,z,hp,h0,rfl⟩
   obtain ⟨hn,hB⟩:=hend hp h0
   obtain ⟨g1,g2⟩:=path_trim hst hs hN hS hp hB
   have e3 : gI (trimBy f st).final (newNo st n) = gI f.final n:=by rw [e2]; exact finT_at hn g1 (by omega)
   exact ⟨h,newNo st n,z,g2,by rw [e3]; exact h0,by rw [e3]⟩
  ·rintro ⟨h,m,z,hp,h0,rfl⟩
   obtain ⟨n,g1,rfl,g2⟩:=trim_path hs hS (fun a ha => (harc a ha).1) hp
   have hn : n < f.states.toNat:=g2.lt hN (fun a ha => by have:=harc a ha; omega)
   have e3 : gI (trimBy f st).final (newNo st n) = gI f.final n:=by rw [e2]; exact finT_at hn g1 (by omega)
   rw [e3] at h0 ⊢
   exact ⟨h,n,z,g2,h0,rfl⟩
 ·constructor
  ·rintro ⟨h,n,z,hp,h0,rfl⟩
   obtain ⟨hn,hB⟩:=hend hp h0
   exact absurd ((hst s0).2 ⟨Reach.first ⟨hN,by unfold firstA; rw [hs]; simp⟩,path_back hp hB⟩) hS
  ·rintro ⟨h,n,z,hp,h0,_⟩
   exfalso
   have e2 : (trimBy f st).final = [-1]:=by
    unfold trimBy
    rw [if_neg (by rw [hs,Int.toNat_natCast]; exact hS)]
   rw [e2] at h0
   unfold gI at h0
   cases n with
   | zero => simp at h0
   | succ n => simp at h0
end
end Go.Proofs.Yteehgcbjmdideab.Sc
