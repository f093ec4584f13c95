/- Arcs in their order,each ahead of all behind it; what Check passes. -/
import Derived.Test.YteehgcbjmdideabQM00
import Derived.Test.YteehgcbjmdideabQM07
import Derived.Test.YteehgcbjmdideabQM02
import Derived.Test.YteehgcbjmdideabQM06
import Derived.Test.YteehgcbjmdideabQM03
import Derived.Deep.RegionHeld3
import Derived.Deep.Cut
import Derived.Test.YteehgcbjmdideabQM01
namespace Go.Proofs.Yteehgcbjmdideab
theorem ahead_iff (a b : ArcD) : aheadB a b = true ↔ a.src < b.src \/ (a.src = b.src /\ (a.inp < b.inp \/ (a.inp = b.inp /\ (a.out < b.out \/ (a.out = b.out /\ a.dst < b.dst))))):=by
 unfold aheadB
 by_cases h0 : a.src = b.src
 ·rw [if_neg (by simpa using h0)]
  by_cases h1 : a.inp = b.inp
  ·rw [if_neg (by simpa using h1)]
   by_cases h2 : a.out = b.out
   ·rw [if_neg (by simpa using h2),decide_eq_true_iff]
    omega
   ·rw [if_pos h2,decide_eq_true_iff]
    omega
  ·rw [if_pos h1,decide_eq_true_iff]
   omega
 ·rw [if_pos h0,decide_eq_true_iff]
  omega
theorem ahead_trans {a b c : ArcD} (h1 : aheadB a b = true) (h2 : aheadB b c = true) : aheadB a c = true:=by
 rw [ahead_iff] at *
 omega
theorem arcErr_mk {st : Int} {p : Option ArcD} {a : ArcD} (h : ArcOk st a) (hp : ∀ q,p = some q -> aheadB q a = true) : arcErr st p a = 0:=by
 unfold arcErr
 rw [h.src,h.dst,h.inp,h.out,h.wt]
 cases p with
 | none => rfl
 | some q => simp [hp q rfl]
theorem arcErr_ahead {st : Int} {q a : ArcD} (h : arcErr st (some q) a = 0) : aheadB q a = true:=by
 have k:=arcErr_ok _ _ _ h
 unfold arcErr at h
 rw [k.src,k.dst,k.inp,k.out,k.wt] at h
 cases e : aheadB q a with
 | true => rfl
 | false => simp [e] at h
theorem arcsErr_mk {st : Int} (l : List ArcD) : ∀ (p : Option ArcD),(∀ a ∈ l,ArcOk st a) -> l.Pairwise (fun a b => aheadB a b = true) -> (∀ q,p = some q -> ∀ x ∈ l,aheadB q x = true) -> arcsErr st p l = 0:=by
 induction l with
 | nil => intro p _ _ _; rfl
 | cons a l ih =>
  intro p h1 h2 h3
  rw [List.pairwise_cons] at h2
  rw [arcsErr,if_pos (arcErr_mk (h1 a (by simp)) (fun q hq => h3 q hq a (by simp)))]
  refine ih _ (fun b hb => h1 b (by simp [hb])) h2.2 (fun q hq x hx => ?_)
  injection hq with hq
  subst hq
  exact h2.1 x hx
theorem arcsErr_order {st : Int} (l : List ArcD) : ∀ (p : Option ArcD),arcsErr st p l = 0 -> l.Pairwise (fun a b => aheadB a b = true) /\ ∀ q,p = some q -> ∀ x ∈ l,aheadB q x = true:=by
 induction l with
 | nil => intro p _; exact ⟨List.Pairwise.nil,fun _ _ x hx => by cases hx⟩
 | cons a l ih =>
  intro p h
  rw [arcsErr] at h
  by_cases e : arcErr st p a = 0
  ·rw [if_pos e] at h
   obtain ⟨g1,g2⟩:=ih _ h
   refine ⟨List.pairwise_cons.2 ⟨fun x hx => g2 a rfl x hx,g1⟩,fun q hq x hx => ?_⟩
   subst hq
   have e1:=arcErr_ahead e
   rcases List.mem_cons.1 hx with rfl | hx
   ·exact e1
   ·exact ahead_trans e1 (g2 a rfl x hx)
  ·rw [if_neg e] at h; exact absurd h e
structure Fine (f : FstD) : Prop where
 s1 : 1 <= f.states
 s2 : f.states <= 200
 b1 : 0 <= f.start
 b2 : f.start < f.states
 len : (f.final.length : Int) = f.states
 fin : ∀ x ∈ f.final,x = -1 \/ (0 <= x /\ x <= 1000000000)
 many : f.arcs.length <= 3000
 arcs : ∀ a ∈ f.arcs,ArcOk f.states a
 ord : f.arcs.Pairwise (fun a b => aheadB a b = true)
theorem fine_of {f : FstD} (h : checkD f = 0) : Fine f:=by
 have k:=check_ok f h
 have k0:=k.states
 have k1:=k.start
 simp [inB] at k0 k1
 exact ⟨k0.1,k0.2,k1.1,by omega,k.len,fun x hx => (finB_out (k.fin x hx)).1,k.many,k.arcs,(arcsErr_order _ _ k.err).1⟩
theorem Fine.check {f : FstD} (h : Fine f) : checkD f = 0:=by
 have e0 : inB f.states 1 200 = true:=by simp [inB]; exact ⟨h.s1,h.s2⟩
 have e1 : inB f.start 0 (f.states - 1) = true:=by simp [inB]; have:=h.b1; have:=h.b2; omega
 have e3 : f.final.any finB = false:=by
  rw [List.any_eq_false]
  intro x hx
  have:=h.fin x hx
  unfold finB inB
  rcases this with rfl | ⟨g1,g2⟩
  ·decide
  ·simp; omega
 unfold checkD
 rw [e0,e1,e3]
 have e2 : ¬ (f.final.length : Int) ≠ f.states:=fun hh => hh h.len
 have e4 : ¬ 3000 < f.arcs.length:=by have:=h.many; omega
 simp only [Bool.not_true,Bool.false_eq_true,if_false,if_neg e2,if_neg e4]
 exact arcsErr_mk _ _ h.arcs h.ord (fun q hq => by cases hq)
theorem fine_iff {f : FstD} : checkD f = 0 ↔ Fine f:=⟨fine_of,Fine.check⟩
end Go.Proofs.Yteehgcbjmdideab
/- What is trimmed passes Check,and costs the same for whatever two words. -/
namespace Go.Proofs.Yteehgcbjmdideab.Sc
section
variable {st : Nat -> Bool}
theorem newNo_monoM {a b : Nat} (h : a ≤ b) : newNo st a ≤ newNo st b := by
  induction b with
  | zero => have : a = 0 := by omega
            subst this; exact Nat.le_refl _
  | succ b ih =>
    by_cases e : a = b + 1
    · subst e; exact Nat.le_refl _
    · have := ih (by omega)
      rw [newNo_succ]
      omega
theorem newNo_ltM {a b : Nat} (h : a < b) (ha : st a = true) : newNo st a < newNo st b:=by
 have h1:=newNo_succ st a
 rw [ha,if_pos rfl] at h1
 have:=newNo_monoM (st:=st) (show a + 1 <= b by omega)
 omega
theorem newNo_inj {a b : Nat} (ha : st a = true) (hb : st b = true) (h : newNo st a = newNo st b) : a = b:=by
 rcases Nat.lt_trichotomy a b with h1 | h1 | h1
 ·have:=newNo_ltM h1 ha; omega
 ·exact h1
 ·have:=newNo_ltM h1 hb; omega
theorem filter_at (k n : Nat) (hn : n < k) (h : st n = true) : ((List.range k).filter st)[newNo st n]? = some n:=by
 induction k with
 | zero => omega
 | succ k ih =>
  rw [List.range_succ,List.filter_append]
  by_cases e : n = k
  ·subst e
   rw [List.getElem?_append_right (by unfold newNo; exact Nat.le_refl _)]
   unfold newNo
   simp [h]
  ·have:=ih (by omega)
   rw [List.getElem?_append_left]
   ·exact this
   ·exact (List.getElem?_eq_some_iff.1 this).1
theorem finT_at {f : FstD} {k n : Nat} (hn : n < k) (h : st n = true) (hl : n < f.final.length) : gI (finT f st k) (newNo st n) = gI f.final n:=by
 unfold gI finT
 simp only [List.getD,List.getElem?_map,filter_at k n hn h,Option.map_some,Option.getD_some,List.getElem?_eq_getElem hl]
end
section
variable {f t : FstD}
theorem trim_fine (hc : checkD f = 0) (h : IsTrim f t) : checkD t = 0:=by
 obtain ⟨st,hst,rfl⟩:=h
 have k:=fine_of hc
 unfold trimBy
 by_cases hs : st f.start.toNat = true
 ·rw [if_pos hs]
  have hN : f.start.toNat < f.states.toNat:=by have:=k.b1; have:=k.b2; omega
  have hlt:=newNo_ltM hN hs
  have hle:=newNo_le st f.states.toNat
  have hs2:=k.s2
  refine Fine.check ⟨?_,?_,?_,?_,?_,?_,?_,?_,?_⟩
  ·show (1 : Int) <= (newNo st f.states.toNat : Nat); omega
  ·show ((newNo st f.states.toNat : Nat) : Int) <= 200; omega
  ·show (0 : Int) <= (newNo st f.start.toNat : Nat); omega
  ·show ((newNo st f.start.toNat : Nat) : Int) < (newNo st f.states.toNat : Nat); omega
  ·show ((finT f st f.states.toNat).length : Int) = _
   rw [finT_len]
  ·intro x hx
   obtain ⟨i,hi,rfl⟩:=List.mem_map.1 hx
   have hi2:=List.mem_range.1 (List.mem_filter.1 hi).1
   have hil : i < f.final.length:=by have:=k.len; omega
   refine k.fin _ ?_
   simp [List.getD,hil]
  ·exact Nat.le_trans (arcsT_len st f.arcs) k.many
  ·intro b hb
   obtain ⟨a,ha,rfl⟩:=List.mem_map.1 hb
   obtain ⟨ha1,ha2⟩:=List.mem_filter.1 ha
   rw [Bool.and_eq_true] at ha2
   have q:=k.arcs a ha1
   have e0:=q.src
   have e1:=q.dst
   simp [inB] at e0 e1
   have l0:=newNo_ltM (show a.src.toNat < f.states.toNat by omega) ha2.1
   have l1:=newNo_ltM (show a.dst.toNat < f.states.toNat by omega) ha2.2
   refine ⟨?_,?_,q.inp,q.out,q.wt⟩
   ·show inB ((newNo st a.src.toNat : Nat) : Int) 0 (((newNo st f.states.toNat : Nat) : Int) - 1) = true
    simp [inB]; omega
   ·show inB ((newNo st a.dst.toNat : Nat) : Int) 0 (((newNo st f.states.toNat : Nat) : Int) - 1) = true
    simp [inB]; omega
  ·show (arcsT st f.arcs).Pairwise _
   unfold arcsT
   rw [List.pairwise_map]
   have h1:=k.ord.filter (p:=fun a => st a.src.toNat && st a.dst.toNat)
   refine List.Pairwise.imp_of_mem (fun {a b} ha hb hab => ?_) h1
   obtain ⟨ha1,ha2⟩:=List.mem_filter.1 ha
   obtain ⟨hb1,hb2⟩:=List.mem_filter.1 hb
   rw [Bool.and_eq_true] at ha2 hb2
   have qa:=k.arcs a ha1
   have qb:=k.arcs b hb1
   have a0':=qa.src
   have a1':=qa.dst
   have b0':=qb.src
   have b1':=qb.dst
   simp [inB] at a0' a1' b0' b1'
   rw [ahead_iff] at hab ⊢
   show ((newNo st a.src.toNat : Nat) : Int) < (newNo st b.src.toNat : Nat) \/ (((newNo st a.src.toNat : Nat) : Int) = (newNo st b.src.toNat : Nat) /\ (a.inp < b.inp \/ (a.inp = b.inp /\ (a.out < b.out \/ (a.out = b.out /\ ((newNo st a.dst.toNat : Nat) : Int) < (newNo st b.dst.toNat : Nat))))))
   rcases hab with h | ⟨h,h2⟩
   ·left
    have:=newNo_ltM (show a.src.toNat < b.src.toNat by omega) ha2.1
    omega
   ·right
    refine ⟨by rw [h],?_⟩
    rcases h2 with h2 | ⟨h2,h3⟩
    ·exact Or.inl h2
    ·right
     refine ⟨h2,?_⟩
     rcases h3 with h3 | ⟨h3,h4⟩
     ·exact Or.inl h3
     ·right
      have:=newNo_ltM (show a.dst.toNat < b.dst.toNat by omega) ha2.2
      exact ⟨h3,by omega⟩
 ·rw [if_neg hs]
  decide
variable {ins outs : List Int}
theorem path_reach {s0 : Nat} (hs : f.start = (s0 : Nat)) (hN : s0 < f.states.toNat) {h n i o : Nat} {z : Int} (hp : PathN f ins outs s0 h n i o z) : ReachP f.states.toNat (pairsA f) (firstA f) n:=by
 induction h generalizing n i o z with
 | zero =>
  obtain ⟨rfl,_⟩:=hp
  exact Reach.first ⟨hN,by unfold firstA; rw [hs]; simp⟩
 | succ h ih =>
  obtain ⟨a,hm,n',i',o',z',hp',h1,h2,_⟩:=hp
  refine Reach.on (ih hp') ?_
  show (n',n) ∈ pairsA f
  unfold pairsA
  rw [List.mem_map]
  exact ⟨a,hm,by rw [h1,h2,Int.toNat_natCast,Int.toNat_natCast]⟩
theorem path_back {s0 : Nat} {h n i o : Nat} {z : Int} (hp : PathN f ins outs s0 h n i o z) (hB : ReachP f.states.toNat (pairsB f) (firstB f) n) : ReachP f.states.toNat (pairsB f) (firstB f) s0:=by
 induction h generalizing n i o z with
 | zero =>
  obtain ⟨rfl,_⟩:=hp
  exact hB
 | succ h ih =>
  obtain ⟨a,hm,n',i',o',z',hp',h1,h2,_⟩:=hp
  refine ih hp' (Reach.on hB ?_)
  show (n,n') ∈ pairsB f
  unfold pairsB
  rw [List.mem_map]
  exact ⟨a,hm,by rw [h1,h2,Int.toNat_natCast,Int.toNat_natCast]⟩
theorem path_trim {st : Nat -> Bool} (hst : ∀ i,st i = true ↔ Stays f i) {s0 : Nat} (hs : f.start = (s0 : Nat)) (hN : s0 < f.states.toNat) (hS : st s0 = true) {h n i o : Nat} {z : Int} (hp : PathN f ins outs s0 h n i o z) (hB : ReachP f.states.toNat (pairsB f) (firstB f) n) :
  st n = true /\ PathN (trimBy f st) ins outs (newNo st s0) h (newNo st n) i o z:=by
 induction h generalizing n i o z with
 | zero =>
  obtain ⟨rfl,h2,h3,h4⟩:=hp
  exact ⟨hS,rfl,h2,h3,h4⟩
 | succ h ih =>
  have hA:=path_reach hs hN hp
  have hn:=(hst n).2 ⟨hA,hB⟩
  obtain ⟨a,hm,n',i',o',z',hp',h1,h2,h3⟩:=hp
  obtain ⟨g1,g2⟩:=ih hp' (Reach.on hB (by
   show (n,n') ∈ pairsB f
   unfold pairsB
   rw [List.mem_map]
   exact ⟨a,hm,by rw [h1,h2,Int.toNat_natCast,Int.toNat_natCast]⟩))
  refine ⟨hn,arcT st a,?_,newNo st n',i',o',z',g2,?_,?_,h3⟩
  ·unfold trimBy
   rw [if_pos (by rw [hs,Int.toNat_natCast]; exact hS)]
   show arcT st a ∈ arcsT st f.arcs
   unfold arcsT
   refine List.mem_map.2 ⟨a,List.mem_filter.2 ⟨hm,?_⟩,rfl⟩
   rw [h1,h2,Int.toNat_natCast,Int.toNat_natCast,g1,hn]
   rfl
  ·show ((newNo st a.src.toNat : Nat) : Int) = _
   rw [h1,Int.toNat_natCast]
  ·show ((newNo st a.dst.toNat : Nat) : Int) = _
   rw [h2,Int.toNat_natCast]
theorem trim_path {st : Nat -> Bool} {s0 : Nat} (hs : f.start = (s0 : Nat)) (hS : st s0 = true) (ha : ∀ a ∈ f.arcs,0 <= a.src /\ 0 <= a.dst) {h m i o : Nat} {z : Int} (hp : PathN (trimBy f st) ins outs (newNo st s0) h m i o z) :
  ∃ n,st n = true /\ m = newNo st n /\ PathN f ins outs s0 h n i o z:=by
 induction h generalizing m i o z with
 | zero =>
  obtain ⟨h1,h2,h3,h4⟩:=hp
  exact ⟨s0,hS,h1,rfl,h2,h3,h4⟩
 | succ h ih =>
  obtain ⟨b,hm,n',i',o',z',hp',h1,h2,h3⟩:=hp
  obtain ⟨n,g1,rfl,g2⟩:=ih hp'
  unfold trimBy at hm
  rw [if_pos (by rw [hs,Int.toNat_natCast]; exact hS)] at hm
  obtain ⟨a,ha1,rfl⟩:=List.mem_map.1 hm
  obtain ⟨ha2,ha3⟩:=List.mem_filter.1 ha1
  rw [Bool.and_eq_true] at ha3
  obtain ⟨p1,p2⟩:=ha a ha2
  have e1 : ((newNo st a.src.toNat : Nat) : Int) = (newNo st n : Nat):=h1
  have e2 : ((newNo st a.dst.toNat : Nat) : Int) = (m : Nat):=h2
  have q1:=newNo_inj ha3.1 g1 (by omega)
  exact ⟨a.dst.toNat,ha3.2,by omega,a,ha2,n,i',o',z',g2,by omega,by omega,h3⟩
theorem trim_tot (hc : checkD f = 0) (h : IsTrim f t) (y : Int) : TotP f ins outs f.start.toNat y ↔ TotP t ins outs t.start.toNat y:=by
 obtain ⟨st,hst,rfl⟩:=h
 have k:=fine_of hc
 obtain ⟨s0,hs⟩ : ∃ s0 : Nat,f.start = s0:=⟨f.start.toNat,by have:=k.b1; omega⟩
 have hN : s0 < f.states.toNat:=by have:=k.b2; omega
 have hfl : f.final.length = f.states.toNat:=by have:=k.len; omega
 have harc : ∀ a ∈ f.arcs,(0 <= a.src /\ 0 <= a.dst) /\ a.dst < f.states:=fun a ha => by
  have q:=k.arcs a ha
  have e0:=q.src
  have e1:=q.dst
  simp [inB] at e0 e1
  omega
 have hend : ∀ {h n i o : Nat} {z : Int},PathN f ins outs s0 h n i o z -> 0 <= gI f.final n -> n < f.states.toNat /\ ReachP f.states.toNat (pairsB f) (firstB f) n:=fun {h n i o z} hp h0 => by
  have hn : n < f.states.toNat:=hp.lt hN (fun a ha => by have:=harc a ha; omega)
  refine ⟨hn,Reach.first ⟨hn,?_⟩⟩
  have hg : gI f.final n = f.final.getD n 0:=by unfold gI; simp [List.getD,show n < f.final.length by omega]
  unfold firstB
  rw [<- hg]
  simp
  omega
 rw [hs,Int.toNat_natCast]
 by_cases hS : st s0 = true
 ·have e1 : (trimBy f st).start = (newNo st s0 : Nat):=by
   unfold trimBy
   rw [if_pos (by rw [hs,Int.toNat_natCast]; exact hS)]
   show ((newNo st f.start.toNat : Nat) : Int) = _
   rw [hs,Int.toNat_natCast]
  have e2 : (trimBy f st).final = finT f st f.states.toNat:=by
   unfold trimBy
   rw [if_pos (by rw [hs,Int.toNat_natCast]; exact hS)]
  rw [e1,Int.toNat_natCast]
  constructor
  ·rintro ⟨h,n,z,hp,h0,rfl⟩
   obtain ⟨hn,hB⟩:=hend hp h0
   obtain ⟨g1,g2⟩:=path_trim hst hs hN hS hp hB
   have e3 : gI (trimBy f st).final (newNo st n) = gI f.final n:=by rw [e2]; exact finT_at hn g1 (by omega)
   exact ⟨h,newNo st n,z,g2,by rw [e3]; exact h0,by rw [e3]⟩
  ·rintro ⟨h,m,z,hp,h0,rfl⟩
   obtain ⟨n,g1,rfl,g2⟩:=trim_path hs hS (fun a ha => (harc a ha).1) hp
   have hn : n < f.states.toNat:=g2.lt hN (fun a ha => by have:=harc a ha; omega)
   have e3 : gI (trimBy f st).final (newNo st n) = gI f.final n:=by rw [e2]; exact finT_at hn g1 (by omega)
   rw [e3] at h0 ⊢
   exact ⟨h,n,z,g2,h0,rfl⟩
 ·constructor
  ·rintro ⟨h,n,z,hp,h0,rfl⟩
   obtain ⟨hn,hB⟩:=hend hp h0
   exact absurd ((hst s0).2 ⟨Reach.first ⟨hN,by unfold firstA; rw [hs]; simp⟩,path_back hp hB⟩) hS
  ·rintro ⟨h,n,z,hp,h0,_⟩
   exfalso
   have e2 : (trimBy f st).final = [-1]:=by
    unfold trimBy
    rw [if_neg (by rw [hs,Int.toNat_natCast]; exact hS)]
   rw [e2] at h0
   unfold gI at h0
   cases n with
   | zero => simp at h0
   | succ n => simp at h0
end
end Go.Proofs.Yteehgcbjmdideab.Sc
/- 'Costs' of package spread: the least prices along edges,and by which arc each came. -/
namespace Go.Proofs.Yteehgcbjmdideab
open Go.RowKit
attribute [local go_sem ↓] Go.wp_at_zero Go.wp_at_succ
def edgOf (pu pv : ArcD -> Int) (a : ArcD) : Edg:=⟨(pu a).toNat,(pv a).toNat,a.wt⟩
theorem NumsAt.of_row {w : World} {B e g n cap : Nat} {xs : List Int} (h : w.ownsRow B e 1 (.slice (some ⟨g,0,none⟩) n cap) n (xs.map (Value.int .i64))) : NumsAt w g n xs /\ B <= g:=by
 obtain ⟨hl,h⟩:=h
 rcases h with ⟨h,_⟩ | ⟨g',cap',cur,h0,hB,hh,h1,h2,h3,h4⟩
 ·cases h
 ·injection h0 with h5 h6 h7
  injection h5 with h5
  injection h5 with h5
  subst h5
  have hxl : xs.length = n:=by simpa using hl
  refine ⟨⟨hxl,fun i hi => ?_,fun i => Go.Joins.unfrozen_of_block hh i,heap_lt hh⟩,hB⟩
  have : (cur.toList.take (n * 1))[i]? = some (.int .i64 (gI xs i)):=by
   rw [h4]; simp [gI,List.getD,show i < xs.length by omega]
  rw [List.getElem?_take] at this
  simp only [Nat.mul_one,hi,if_true,Array.getElem?_toList] at this
  simp [World.cell?,hh,this]
theorem rep_row {w w1 : World} {n t : Nat} {o : Obj} (h : w1.heap[(w.alloc o).heap.size]? = some (.cells (rowR (-1) n n).toArray t (0,0))) : NumsAt w1 (w.heap.size + 1) n (List.replicate n (-1)):=by
 have h1:=NumsAt.of_block (only_row h)
 simpa using h1
def boolN : Value -> Nat
 | .bool true => 1
 | _ => 0
end Go.Proofs.Yteehgcbjmdideab
/- What is pushed: ends and arcs,from what it costs to come to an end. -/
namespace Go.Proofs.Yteehgcbjmdideab
end Go.Proofs.Yteehgcbjmdideab
/- What it costs from the start to each state,and from each state to an end: the document's rounds. -/
namespace Go.Proofs.Yteehgcbjmdideab
def edT (f : FstD) : List Edg:=f.arcs.map (edgOf ArcD.dst ArcD.src)
def toD (f : FstD) : List Int:=rounds (edT f).reverse f.final f.states.toNat
theorem beg_set (N s0 : Nat) : (List.replicate N (-1 : Int)).set s0 0 = begL (s0 : Int) N:=by
 apply List.ext_getElem
 ·simp [begL]
 ·intro i h1 h2
  simp only [List.getElem_set,List.getElem_replicate,begL,List.getElem_map,List.getElem_range]
  by_cases e : s0 = i
  ·subst e; simp
  ·have : ¬ (i : Int) = s0:=by omega
   simp [e,this]
theorem gI_of (xs : List Int) (p : Int -> Prop) (h : ∀ x ∈ xs,p x) (h0 : p (-1)) (v : Nat) : p (gI xs v):=by
 unfold gI
 by_cases hv : v < xs.length
 ·simp only [List.getD,List.getElem?_eq_getElem hv,Option.getD_some]
  exact h _ (List.getElem_mem hv)
 ·simp only [List.getD,List.getElem?_eq_none (Nat.not_lt.1 hv),Option.getD_none]
  exact h0
theorem begL_mem (s : Int) (N : Nat) : ∀ x ∈ begL s N,x = -1 \/ x = 0:=by
 intro x hx
 unfold begL at hx
 obtain ⟨i,_,rfl⟩:=List.mem_map.1 hx
 split
 ·exact Or.inr rfl
 ·exact Or.inl rfl
section
variable {f : FstD} {N s0 : Nat}
end
end Go.Proofs.Yteehgcbjmdideab
/- 'SameInts','SameFst' of the document's answer; 'one','fstIs' of the statements. -/
namespace Go.Proofs.Yteehgcbjmdideab
open Go.RowKit
attribute [local go_sem ↓] Go.wp_at_zero Go.wp_at_succ
theorem getD_ext {α : Type} (d : α) (xs ys : List α) (h : xs.length = ys.length) (he : ∀ j,j < xs.length -> xs.getD j d = ys.getD j d) : xs = ys:=by
 apply List.ext_getElem h
 intro i h1 h2
 have:=he i h1
 simpa [List.getD,h1,h2] using this
set_option maxHeartbeats 1000000 in
theorem sameInts_any (u v : Value) (xs ys : List Int) (w : World) (hu : ISlice w u xs) (hv : ISlice w v ys) :
  Calls Try.prog 53 #[u,v] w fun e w' => e = .returned (.bool (decide (xs = ys))) /\ Below w.heap.size w w':=by
 obtain ⟨ua,n,uc,rfl,hul,hum⟩:=hu.lenOf
 obtain ⟨va,m,vc,rfl,hvl,hvm⟩:=hv.lenOf
 have HU : Hid (xs.length = n):=hul
 have HV : Hid (ys.length = m):=hvl
 unfold maxLen at hum hvm
 clear hul hvl
 by_cases hnm : n = m
 ·subst hnm
  go_enter Try.func53,Try.ntmps53
  go_wp2
  go_loopw [5] (fun i wr => ∃ k : Nat,k <= n /\ i = .int .i64 k /\ (∀ j,j < k -> xs.getD j 0 = ys.getD j 0) /\ Below w.heap.size w wr) (fun i _ => n - (intOf i).toNat)
  case atStart => exact ⟨0,Nat.zero_le _,rfl,fun j hj => absurd hj (Nat.not_lt_zero _),bel_self _⟩
  case round =>
   obtain ⟨k,hk,rfl,hall,hb⟩:=hrel
   have HA : Hid (∀ j,j < k -> xs.getD j 0 = ys.getD j 0):=hall
   clear hall
   by_cases hlt : k < n
   ·obtain ⟨b,off,rfl,hx⟩:=hu.some (by omega)
    obtain ⟨b',off',rfl,hy⟩:=hv.some (by omega)
    have c0:=(hx.below hb).cell k hlt
    have c1:=(hy.below hb).cell k hlt
    obtain ⟨x,hxk⟩ : ∃ x,x = xs.getD k 0:=⟨_,rfl⟩
    obtain ⟨y,hyk⟩ : ∃ y,y = ys.getD k 0:=⟨_,rfl⟩
    rw [<- hxk] at c0
    rw [<- hyk] at c1
    have HX : Hid (x = xs.getD k 0):=hxk
    have HY : Hid (y = ys.getD k 0):=hyk
    clear hxk hyk
    have hi : (k : Int) < n:=by omega
    by_cases hxy : x = y
    ·have hd : (x != y) = false:=by simp [hxy]
     go_wp2
     go_quiet (fail)
     go_wp2
     go_roundw
     case rel =>
      refine ⟨k + 1,by omega,by go_num,fun j hj => ?_,bel_drewN hb _⟩
      by_cases e : j = k
      ·subst e; rw [<- HX.out,<- HY.out]; exact hxy
      ·exact HA.out j (by omega)
     case measure => simp [intOf]; omega
    ·have hd : (x == y) = false:=by simpa using hxy
     have hne : decide (xs = ys) = false:=by
      simp only [decide_eq_false_iff_not]
      intro h; apply hxy; rw [HX.out,HY.out,h]
     have HD : Hid (decide (xs = ys) = false):=hne
     clear hne
     go_wp2
     go_quiet (fail)
     go_wp2
     go_ret
     exact ⟨ret_bool HD.out.symm,bel_drewN hb _⟩
   ·have HD : Hid (xs = ys):=getD_ext 0 xs ys (by rw [HU.out,HV.out]) (fun j hj => HA.out j (by have:=HU.out; omega))
    go_wp2
    go_ret
    exact ⟨ret_bool (by simp [HD.out]),hb⟩
 ·have hd : ((n : Int) == (m : Int)) = false:=by rw [beq_eq_false_iff_ne]; omega
  have hd' : (n == m) = false:=by simpa using hnm
  have HD : Hid (decide (xs = ys) = false):=by
   have h1:=HU.out
   have h2:=HV.out
   show decide (xs = ys) = false
   simp only [decide_eq_false_iff_not]
   intro h; subst h; omega
  go_enter Try.func53,Try.ntmps53
  go_wp2
  go_ret
  exact ⟨ret_bool HD.out.symm,bel_self _⟩
theorem arcs_neq (x y : ArcD) (w : World) : (binOp .neq 54 (.agg #[.int .i64 x.src,.int .i64 x.inp,.int .i64 x.out,.int .i64 x.dst,.int .i64 x.wt]) (.agg #[.int .i64 y.src,.int .i64 y.inp,.int .i64 y.out,.int .i64 y.dst,.int .i64 y.wt])).run Try.prog w = .ok (.bool (!@decide (x = y) (decA x y))) w:=by
 rw [run_neq_struct]
 rw [run_equalIn_agg w 9999 54 _ _ (by kernel_rfl) (by kernel_rfl)]
 go_simp
 obtain ⟨x0,x1,x2,x3,x4⟩:=x
 obtain ⟨y0,y1,y2,y3,y4⟩:=y
 simp only [ArcD.mk.injEq]
 by_cases h0 : x0 = y0 <;> by_cases h1 : x1 = y1 <;> by_cases h2 : x2 = y2 <;> by_cases h3 : x3 = y3 <;> by_cases h4 : x4 = y4 <;> simp [h0,h1,h2,h3,h4]
def sameD (f g : FstD) : Bool:=decide (f.states = g.states) && decide (f.start = g.start) && decide (f.final = g.final) && @decide (f.arcs = g.arcs) (decAs f.arcs g.arcs)
set_option maxHeartbeats 1000000 in
theorem sameFst_any (f g : FstD) (fin arcs fin' arcs' : Value) (w : World) (hf : ISlice w fin f.final) (ha : ASlice w arcs f.arcs) (hf' : ISlice w fin' g.final) (ha' : ASlice w arcs' g.arcs) :
  Calls Try.prog 25 #[.agg #[.int .i64 f.states,.int .i64 f.start,fin,arcs],.agg #[.int .i64 g.states,.int .i64 g.start,fin',arcs']] w fun e w' =>
   e = .returned (.bool (sameD f g)) /\ Below w.heap.size w w':=by
 obtain ⟨aa,n,ac,rfl,hal,ham⟩:=ha.lenOf
 obtain ⟨ba,m,bc,rfl,hbl,hbm⟩:=ha'.lenOf
 have HAL : Hid (f.arcs.length = n):=hal
 have HBL : Hid (g.arcs.length = m):=hbl
 unfold maxLen at ham hbm
 clear hal hbl
 have hbF : CellsF ((w.alloc (.cells #[.int .i64 f.states,.int .i64 f.start,fin,.slice aa n ac] 25)).alloc (.cells #[.int .i64 g.states,.int .i64 g.start,fin',.slice ba m bc] 25)) w.heap.size f.states f.start fin (.slice aa n ac):=by simp [CellsF]
 have hbG : CellsF ((w.alloc (.cells #[.int .i64 f.states,.int .i64 f.start,fin,.slice aa n ac] 25)).alloc (.cells #[.int .i64 g.states,.int .i64 g.start,fin',.slice ba m bc] 25)) (w.heap.size + 1) g.states g.start fin' (.slice ba m bc):=by simp [CellsF]
 have hb0:=bel_up (bel_up (bel_self w) (.cells #[.int .i64 f.states,.int .i64 f.start,fin,.slice aa n ac] 25)) (.cells #[.int .i64 g.states,.int .i64 g.start,fin',.slice ba m bc] 25)
 have h1:=hf.below hb0
 have h2:=hf'.below hb0
 have h3:=ha.below hb0
 have h4:=ha'.below hb0
 cases d1 : (f.states != g.states)
 ·cases d2 : (f.start != g.start)
  ·cases d3 : decide (f.final = g.final)
   ·go_enter Try.func25,Try.ntmps25
    go_wp2_with (go_at_call 53; refine (sameInts_any _ _ f.final g.final _ h1 h2).mono ?_; rintro e w' ⟨rfl,hbw⟩; have hF:=hbF.below hbw; have hG:=hbG.below hbw; have hB:=bel_on hb0 hbw; have k3:=h3.below hbw; have k4:=h4.below hbw; clear hbw; have hF':=hF; obtain ⟨f0,f1,f2,f3⟩:=hF'; have hG':=hG; obtain ⟨g0,g1,g2,g3⟩:=hG')
    go_ret
    exact ⟨ret_bool (by simp [sameD,d3]),hB⟩
   ·cases d4 : (n != m)
    ·have hnm : n = m:=by simpa using d4
     subst hnm
     go_enter Try.func25,Try.ntmps25
     go_wp2_with (go_at_call 53; refine (sameInts_any _ _ f.final g.final _ h1 h2).mono ?_; rintro e w' ⟨rfl,hbw⟩; have hF:=hbF.below hbw; have hG:=hbG.below hbw; have hB:=bel_on hb0 hbw; have k3:=h3.below hbw; have k4:=h4.below hbw; clear hbw; have hF':=hF; obtain ⟨f0,f1,f2,f3⟩:=hF'; have hG':=hG; obtain ⟨g0,g1,g2,g3⟩:=hG')
     clear h1 h2 h3 h4 hbF hbG hb0 f0 f1 f2 f3 g0 g1 g2 g3
     go_loopw [5] (fun i wr => ∃ k : Nat,k <= n /\ i = .int .i64 k /\ (∀ j,j < k -> f.arcs.getD j a0 = g.arcs.getD j a0) /\ CellsF wr w.heap.size f.states f.start fin (.slice aa n ac) /\ CellsF wr (w.heap.size + 1) g.states g.start fin' (.slice ba n bc) /\ ASlice wr (.slice aa n ac) f.arcs /\ ASlice wr (.slice ba n bc) g.arcs /\ Below w.heap.size w wr) (fun i _ => n - (intOf i).toNat)
     case atStart => exact ⟨0,Nat.zero_le _,rfl,fun j hj => absurd hj (Nat.not_lt_zero _),hF,hG,k3,k4,hB⟩
     case round =>
      clear hF hG k3 k4 hB
      obtain ⟨k,hk,rfl,hall,hF,hG,k3,k4,hB⟩:=hrel
      have HA : Hid (∀ j,j < k -> f.arcs.getD j a0 = g.arcs.getD j a0):=hall
      clear hall
      have hF':=hF
      have hG':=hG
      obtain ⟨f0,f1,f2,f3⟩:=hF'
      obtain ⟨g0,g1,g2,g3⟩:=hG'
      by_cases hlt : k < n
      ·obtain ⟨b,off,rfl,hx⟩:=k3.some (by omega)
       obtain ⟨b',off',rfl,hy⟩:=k4.some (by omega)
       obtain ⟨x,hxk⟩ : ∃ x,x = f.arcs.getD k a0:=⟨_,rfl⟩
       obtain ⟨y,hyk⟩ : ∃ y,y = g.arcs.getD k a0:=⟨_,rfl⟩
       have c0:=hx.c0 k hlt
       have c1:=hx.c1 k hlt
       have c2:=hx.c2 k hlt
       have c3:=hx.c3 k hlt
       have c4:=hx.c4 k hlt
       rw [<- hxk] at c0 c1 c2 c3 c4
       have e0:=hy.c0 k hlt
       have e1:=hy.c1 k hlt
       have e2:=hy.c2 k hlt
       have e3:=hy.c3 k hlt
       have e4:=hy.c4 k hlt
       rw [<- hyk] at e0 e1 e2 e3 e4
       have HX : Hid (x = f.arcs.getD k a0):=hxk
       have HY : Hid (y = g.arcs.getD k a0):=hyk
       clear hxk hyk
       have hi : (k : Int) < n:=by omega
       have hneq:=arcs_neq x y
       have hgd : Try.prog.eqGuardType Try.prog.depth 54 = false:=by kernel_rfl
       cases hxy : @decide (x = y) (decA x y)
       ·have HD : Hid (@decide (f.arcs = g.arcs) (decAs f.arcs g.arcs) = false):=by
         show @decide (f.arcs = g.arcs) (decAs f.arcs g.arcs) = false
         simp only [decide_eq_false_iff_not] at hxy ⊢
         intro h; apply hxy; rw [HX.out,HY.out,h]
        go_wp2
        go_quiet (fail)
        go_wp2
        go_ret
        exact ⟨ret_bool (by simp [sameD,HD.out]),bel_drewN hB _⟩
       ·have HD : Hid (x = y):=(by have h:=hxy; simpa using h : x = y)
        go_wp2
        go_quiet (fail)
        go_wp2
        go_roundw
        case rel =>
         refine ⟨k + 1,by omega,by go_num,fun j hj => ?_,hF.below (bel_drewN (bel_self _) _),hG.below (bel_drewN (bel_self _) _),k3.below (bel_drewN (bel_self _) _),k4.below (bel_drewN (bel_self _) _),bel_drewN hB _⟩
         by_cases e : j = k
         ·subst e; rw [<- HX.out,<- HY.out]; exact HD.out
         ·exact HA.out j (by omega)
        case measure => simp [intOf]; omega
      ·have HD : Hid (f.arcs = g.arcs):=getD_ext a0 _ _ (by rw [HAL.out,HBL.out]) (fun j hj => HA.out j (by have:=HAL.out; omega))
       go_wp2
       go_ret
       exact ⟨ret_bool (by simp at d1 d2; simp [sameD,HD.out,d1,d2,d3]),hB⟩
    ·have HD : Hid (@decide (f.arcs = g.arcs) (decAs f.arcs g.arcs) = false):=by
      have q1:=HAL.out
      have q2:=HBL.out
      show @decide (f.arcs = g.arcs) (decAs f.arcs g.arcs) = false
      simp only [decide_eq_false_iff_not]
      intro h
      rw [h] at q1
      simp at d4; omega
     have d4' : (n == m) = false:=by simpa using d4
     go_enter Try.func25,Try.ntmps25
     go_wp2_with (go_at_call 53; refine (sameInts_any _ _ f.final g.final _ h1 h2).mono ?_; rintro e w' ⟨rfl,hbw⟩; have hF:=hbF.below hbw; have hG:=hbG.below hbw; have hB:=bel_on hb0 hbw; have k3:=h3.below hbw; have k4:=h4.below hbw; clear hbw; have hF':=hF; obtain ⟨f0,f1,f2,f3⟩:=hF'; have hG':=hG; obtain ⟨g0,g1,g2,g3⟩:=hG')
     go_ret
     exact ⟨ret_bool (by simp [sameD,HD.out]),hB⟩
  ·go_enter Try.func25,Try.ntmps25
   go_wp2
   go_ret
   exact ⟨ret_bool (by simp at d2; simp [sameD,d2]),hb0⟩
 ·go_enter Try.func25,Try.ntmps25
  go_wp2
  go_ret
  exact ⟨ret_bool (by simp at d1; simp [sameD,d1]),hb0⟩
end Go.Proofs.Yteehgcbjmdideab
