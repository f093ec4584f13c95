/- What is trimmed,of an acceptor that does not go round: each state leads to an end,no way leads round,no weight is greater. -/
import Derived.Test.YteehgcbjmdideabVM05
import Derived.Test.YteehgcbjmdideabVM20
import Derived.Test.YteehgcbjmdideabVM13
import Derived.Test.YteehgcbjmdideabVM17
import Derived.Test.YteehgcbjmdideabVM12
import Derived.Test.YteehgcbjmdideabVM15
import Derived.Test.YteehgcbjmdideabVM10
import Derived.Test.YteehgcbjmdideabVM04
namespace Go.Proofs.Yteehgcbjmdideab.Sc
theorem acc_of {f : FstD} (hb : bothB f = true) (hs : silB f = false) : AccD f:=by
 intro a ha
 unfold bothB at hb
 unfold silB at hs
 rw [Bool.not_eq_true',List.any_eq_false] at hb
 rw [List.any_eq_false] at hs
 have h1:=hb a ha
 have h2:=hs a ha
 simp at h1 h2
 exact ⟨h1.symm,h2⟩
theorem fine_in {f : FstD} (k : Fine f) (hA : AccD f) : SubIn f f.states.toNat f.start.toNat:=by
 have h1:=k.s1
 have h2:=k.s2
 have h3:=k.b1
 have h4:=k.b2
 have h5:=k.len
 have har : ∀ a ∈ f.arcs,((0 <= a.src /\ a.src < (f.states.toNat : Int)) /\ (0 <= a.dst /\ a.dst < (f.states.toNat : Int)) /\ 0 <= a.wt /\ 0 <= a.inp /\ a.inp <= 9) /\ a.wt <= 1000000000:=fun a ha => by
  have q:=k.arcs a ha
  have e0:=q.src
  have e1:=q.dst
  have e2:=q.inp
  have e4:=q.wt
  simp [inB] at e0 e1 e2 e4
  omega
 exact ⟨by omega,by omega,fun a ha => (har a ha).1,hA,fun a ha => ⟨(har a ha).1.2.2.1,(har a ha).2⟩,by omega,k.fin,by omega,by omega⟩
theorem sumW_nonneg {l : List ArcD} (h : ∀ a ∈ l,0 <= a.wt) : 0 <= sumW l:=by
 have:=(sumW_filter (p:=fun _ => true) h)
 omega
theorem mostF_le {l : List Int} {M : Int} (h0 : 0 <= M) (h : ∀ x ∈ l,x <= M) : mostF l <= M:=by
 unfold mostF
 have key : ∀ (l : List Int) (m : Int),m <= M -> (∀ x ∈ l,x <= M) -> l.foldl (fun m x => if x > m then x else m) m <= M:=by
  intro l
  induction l with
  | nil => intro m hm _; exact hm
  | cons y l ih =>
   intro m hm hh
   rw [List.foldl_cons]
   refine ih _ ?_ (fun x hx => hh x (List.mem_cons_of_mem _ hx))
   have:=hh y List.mem_cons_self
   split <;> omega
 exact key l 0 h0 h
theorem sumW_arcsT (st : Nat -> Bool) (l : List ArcD) : sumW (arcsT st l) = sumW (l.filter fun a => st a.src.toNat && st a.dst.toNat):=by
 unfold sumW arcsT
 rw [List.map_map]
 rfl
structure TrimIn (f t : FstD) (N s0 : Nat) : Prop where
 sin : SubIn t N s0
 chk : checkD t = 0
 rank : ∃ (r : Nat -> Nat) (M : Nat),(∀ v,r v <= M) /\ ∀ e ∈ edgesE t.arcs,r e.1 < r e.2
 all : allD t <= allD f
 live : (∀ n,n < N -> ∃ v m z,WdR t n v m z /\ 0 <= gI t.final m) \/ t = ⟨1,0,[-1],[]⟩
 best : ∀ l y,BestP f l l f.start.toNat y -> BestP t l l s0 y
 sil : silB t = false
theorem trim_in {f t : FstD} (hc : checkD f = 0) (h : IsTrim f t) (hb : bothB f = true) (hs : silB f = false) (hr : ¬ RoundD f) : TrimIn f t t.states.toNat t.start.toNat:=by
 have kf:=fine_of hc
 have hA:=acc_of hb hs
 have hI:=fine_in kf hA
 have htc:=trim_fine hc h
 have kt:=fine_of htc
 have hbest : ∀ l y,BestP f l l f.start.toNat y -> BestP t l l t.start.toNat y:=fun l y hy => hy.of_tot fun z => trim_tot hc h z
 obtain ⟨rf,hrM,hrf⟩:=rank_of (E:=edgesE f.arcs) (N:=f.states.toNat) (fun e he => by
  obtain ⟨a,ha,rfl⟩:=List.mem_map.1 he
  have:=hI.wide a ha
  dsimp only
  omega) hr
 obtain ⟨st,hst,ht⟩:=h
 have hall0 : 0 <= sumW f.arcs:=sumW_nonneg fun a ha => (hI.wide a ha).2.2.1
 have hm0:=(mostF_ge f.final)
 by_cases hS : st f.start.toNat = true
 ·have e1 : t = ⟨newNo st f.states.toNat,newNo st f.start.toNat,finT f st f.states.toNat,arcsT st f.arcs⟩:=by rw [ht]; unfold trimBy; rw [if_pos hS]
  have hAt : AccD t:=by
   rw [e1]
   intro b hb
   obtain ⟨a,ha,rfl⟩:=List.mem_map.1 hb
   exact hA a (List.mem_filter.1 ha).1
  have hsil : silB t = false:=by
   unfold silB
   rw [List.any_eq_false]
   intro b hb
   have:=(hAt b hb).2
   simpa using this
  refine ⟨fine_in kt hAt,htc,⟨fun m => rf (((List.range f.states.toNat).filter st).getD m 0),f.states.toNat + 1,fun v => hrM _,?_⟩,?_,?_,hbest,hsil⟩
  ·intro e he
   obtain ⟨b,hb,rfl⟩:=List.mem_map.1 he
   rw [e1] at hb
   obtain ⟨a,ha,rfl⟩:=List.mem_map.1 hb
   obtain ⟨ha1,ha2⟩:=List.mem_filter.1 ha
   rw [Bool.and_eq_true] at ha2
   have hw:=hI.wide a ha1
   have f1:=filter_at f.states.toNat a.src.toNat (by omega) ha2.1
   have f2:=filter_at f.states.toNat a.dst.toNat (by omega) ha2.2
   have hlt:=hrf _ (List.mem_map.2 ⟨a,ha1,rfl⟩)
   dsimp only at hlt
   show rf (((List.range f.states.toNat).filter st).getD ((newNo st a.src.toNat : Nat) : Int).toNat 0) < rf (((List.range f.states.toNat).filter st).getD ((newNo st a.dst.toNat : Nat) : Int).toNat 0)
   rw [Int.toNat_natCast,Int.toNat_natCast,List.getD_eq_getElem?_getD,List.getD_eq_getElem?_getD,f1,f2]
   exact hlt
  ·unfold allD
   have h1 : sumW t.arcs <= sumW f.arcs:=by
    rw [e1]
    show sumW (arcsT st f.arcs) <= _
    rw [sumW_arcsT]
    exact (sumW_filter fun a ha => (hI.wide a ha).2.2.1).2
   have h2 : mostF t.final <= mostF f.final:=by
    refine mostF_le hm0.1 fun x hx => ?_
    rw [e1] at hx
    obtain ⟨n,hn,rfl⟩:=List.mem_map.1 hx
    have hn2 : n < f.states.toNat:=List.mem_range.1 (List.mem_filter.1 hn).1
    refine hm0.2 _ ?_
    have : n < f.final.length:=by have:=hI.flen; omega
    rw [List.getD_eq_getElem?_getD,List.getElem?_eq_getElem this,Option.getD_some]
    exact List.getElem_mem _
   omega
  ·left
   intro m hm
   have hmN : m < newNo st f.states.toNat:=by
    have h5 : t.states.toNat = newNo st f.states.toNat:=by
     rw [e1]
     show ((newNo st f.states.toNat : Nat) : Int).toNat = _
     rw [Int.toNat_natCast]
    omega
   have hLm : m < ((List.range f.states.toNat).filter st).length:=hmN
   obtain ⟨n,hn⟩ : ∃ n,((List.range f.states.toNat).filter st)[m]? = some n:=⟨_,List.getElem?_eq_getElem hLm⟩
   obtain ⟨hn1,hn2⟩:=List.mem_filter.1 (List.mem_of_getElem? hn)
   have hnN : n < f.states.toNat:=List.mem_range.1 hn1
   have hno : newNo st n = m:=by
    have h6:=filter_at f.states.toNat n hnN hn2
    have hnd : ((List.range f.states.toNat).filter st).Nodup:=List.Pairwise.filter _ List.nodup_range
    exact nodup_at hnd h6 hn
   obtain ⟨hRA,hRB⟩:=(hst n).1 hn2
   have hgoal : ReachP f.states.toNat (pairsB f) (firstB f) n /\ (st n = true -> ∃ v m z,WdR t (newNo st n) v m z /\ 0 <= gI t.final m):=by
    refine hRB (fun s => ReachP f.states.toNat (pairsB f) (firstB f) s /\ (st s = true -> ∃ v m z,WdR t (newNo st s) v m z /\ 0 <= gI t.final m)) ?_ ?_
    ·intro s hs0
     refine ⟨Reach.first hs0,fun hss => ⟨[],newNo st s,0,⟨rfl,rfl⟩,?_⟩⟩
     have h7 : gI t.final (newNo st s) = gI f.final s:=by
      rw [e1]
      exact finT_at hs0.1 hss (by have:=hI.flen; have:=hs0.1; omega)
     rw [h7]
     have h8 : f.final.getD s 0 ≠ -1:=by
      have:=hs0.2
      unfold firstB at this
      simpa using this
     have h9 : gI f.final s = f.final.getD s 0:=by
      unfold gI
      have : s < f.final.length:=by have:=hI.flen; have:=hs0.1; omega
      rw [List.getD_eq_getElem?_getD,List.getD_eq_getElem?_getD,List.getElem?_eq_getElem this]
      rfl
     rcases gI_of f.final (fun x => x = -1 \/ (0 <= x /\ x <= 1000000000)) hI.fin (Or.inl rfl) s with h | h
     ·rw [h9] at h; exact absurd h h8
     ·exact h.1
    ·rintro s s' ⟨h1,h2⟩ he
     refine ⟨Reach.on h1 he,fun hs' => ?_⟩
     obtain ⟨a,ha,hae⟩:=List.mem_map.1 he
     injection hae with hd hsr
     have hRA':=((hst s').1 hs').1
     have hRAs : ReachP f.states.toNat (pairsA f) (firstA f) s:=Reach.on hRA' (List.mem_map.2 ⟨a,ha,by rw [hd,hsr]⟩)
     have hss : st s = true:=(hst s).2 ⟨hRAs,h1⟩
     obtain ⟨v,m',z,hv,h0⟩:=h2 hss
     refine ⟨v ++ [a.inp],m',z + a.wt,(wdr_first v _ _).2 ⟨arcT st a,?_,newNo st s,?_,rfl,?_,?_⟩,h0⟩
     ·rw [e1]
      exact List.mem_map.2 ⟨a,List.mem_filter.2 ⟨ha,by rw [hd,hsr,hss,hs']; rfl⟩,rfl⟩
     ·show ((newNo st a.src.toNat : Nat) : Int) = _
      rw [hsr]
     ·show ((newNo st a.dst.toNat : Nat) : Int) = _
      rw [hd]
     ·show WdR t (newNo st s) v m' (z + a.wt - a.wt)
      rw [show z + a.wt - a.wt = z by omega]
      exact hv
   rw [<- hno]
   exact hgoal.2 hn2
 ·have e1 : t = ⟨1,0,[-1],[]⟩:=by rw [ht]; unfold trimBy; rw [if_neg hS]
  subst e1
  refine ⟨fine_in kt (fun a ha => by cases ha),htc,⟨fun _ => 0,0,fun _ => Nat.le_refl _,fun e he => by cases he⟩,?_,Or.inr rfl,hbest,rfl⟩
  show (0 : Int) + mostF [-1] <= sumW f.arcs + mostF f.final
  have : mostF [-1] = 0:=rfl
  have:=hm0.1
  omega
end Go.Proofs.Yteehgcbjmdideab.Sc
/- What Determine makes of one that is trimmed: when its subsets are too many,and what comes,told by words. -/
namespace Go.Proofs.Yteehgcbjmdideab
def DoneK (t : FstD) (N k : Nat) : Prop:=(∀ j,j < k -> j < (subR t N j).ms.length /\ (subR t N j).ms.length <= 200) /\ k = (subR t N k).ms.length
def FailK (t : FstD) (N k : Nat) : Prop:=(∀ j,j < k -> j < (subR t N j).ms.length /\ (subR t N j).ms.length <= 200) /\ k < (subR t N k).ms.length /\ 200 < (subR t N k).ms.length
theorem subR_grow (t : FstD) (N k : Nat) : (subR t N k).ms.length <= (subR t N (k + 1)).ms.length /\ (subR t N (k + 1)).ms.length <= (subR t N k).ms.length + 9:=letsN_more (atS N (subR t N k) k) N t.arcs k ((subR t N k).ms,(subR t N k).ars) 9
theorem done_or (t : FstD) (N : Nat) : (∃ k,DoneK t N k) \/ ∃ k,FailK t N k:=by
 have h200 : ∃ k,k <= 200 /\ ¬ (k < (subR t N k).ms.length /\ (subR t N k).ms.length <= 200):=⟨200,Nat.le_refl _,by omega⟩
 obtain ⟨k0,_,hk0⟩:=h200
 obtain ⟨k,_,h1,h2⟩:=first_not (fun k => k < (subR t N k).ms.length /\ (subR t N k).ms.length <= 200) k0 hk0
 by_cases hlt : k < (subR t N k).ms.length
 ·exact Or.inr ⟨k,h2,hlt,by omega⟩
 ·refine Or.inl ⟨k,h2,?_⟩
  cases k with
  | zero =>
   have : (subR t N 0).ms.length = 1:=rfl
   omega
  | succ k =>
   have:=h2 k (by omega)
   have:=(subR_grow t N k).1
   omega
theorem done_unique {t : FstD} {N k k' : Nat} (h : DoneK t N k) (h' : DoneK t N k') : k = k':=by
 by_cases h1 : k < k'
 ·have:=h'.1 k h1; have:=h.2; omega
 ·by_cases h2 : k' < k
  ·have:=h.1 k' h2; have:=h'.2; omega
  ·omega
theorem done_fail {t : FstD} {N k k' : Nat} (h : DoneK t N k) (h' : FailK t N k') : False:=by
 by_cases h1 : k < k'
 ·have:=h'.1 k h1; have:=h.2; omega
 ·by_cases h2 : k' < k
  ·have:=h.1 k' h2; have:=h'.2; omega
  ·obtain rfl : k = k':=by omega
   have:=h.2; have:=h'.2; omega
def subG (t : FstD) (N k : Nat) : FstD:=⟨(k : Int),0,(subR t N k).fin,(subR t N k).ars⟩
def detX (t : FstD) (N k : Nat) : FstD:=if gI (toD (subG t N k)) 0 = -1 then subG t N k else earlyD (subG t N k)
def ManyD (t : FstD) (s0 : Nat) : Prop:=∃ L : List (List Int),L.Nodup /\ (∀ u ∈ L,Alive t s0 u) /\ 200 < L.length
section
variable {f t : FstD} {N s0 K : Nat}
theorem DoneK.sub (h : DoneK t N K) (hi : SubIn t N s0) : Sub t N s0 K (subG t N K) (subR t N K).ms /\ 1 <= K /\ K <= 200:=by
 have hK : K <= 200:=by
  cases K with
  | zero => omega
  | succ k => have:=h.1 k (by omega); omega
 have hs:=subR_sub hi.wt hi.hs hi.sta (show K <= 300 by omega) (fun j hj => (h.1 j hj).1) h.2.symm
 exact ⟨hs,hs.k0,hK⟩
theorem FailK.many (h : FailK t N K) (hi : SubIn t N s0) : ManyD t s0:=by
 have hK : K <= 200:=by
  cases K with
  | zero => omega
  | succ k => have:=h.1 k (by omega); omega
 have hlen : (subR t N K).ms.length <= 300:=by
  cases K with
  | zero =>
   have : (subR t N 0).ms.length = 1:=rfl
   omega
  | succ k =>
   have h1:=h.1 k (by omega)
   have h2:=(subR_grow t N k).2
   omega
 have hp:=(subR_part hi.wt hi.hs hi.sta K (by omega) (fun j hj => (h.1 j hj).1)).1
 obtain ⟨L,h1,h2,h3,_⟩:=Part.words (g:=subG t N K) hp hi hlen (subR t N K).ms.length (Nat.le_refl _)
 exact ⟨L,h2,h3,by have:=h.2.2; omega⟩
theorem DoneK.count (h : DoneK t N K) (hT : Sc.TrimIn f t N s0) : ∃ cnt rk : Nat -> Nat,CntOk (edgesE (subG t N K).arcs) cnt /\ (∀ e ∈ edgesE (subG t N K).arcs,rk e.2 < rk e.1) /\ (200 < cnt 0 ↔ ManyD t s0) /\ cnt 0 <= 201:=by
 obtain ⟨hs,_,hK⟩:=h.sub hT.sin
 obtain ⟨r,M,hM,hr⟩:=hT.rank
 have hrk:=hs.rank hT.sin (by omega) (r:=fun n => M - r n) (fun e he => by
  have h1:=hr e he
  have h2:=hM e.2
  show M - r e.2 < M - r e.1
  omega)
 obtain ⟨L,h1,h2,h3⟩:=hs.begs hT.sin (by omega) hrk
 refine ⟨_,_,cntF_ok hrk,hrk,⟨fun hlt => ⟨L,h1,fun u hu => (h2 u).1 hu,by omega⟩,?_⟩,by omega⟩
 rintro ⟨L',h4,h5,h6⟩
 have:=nodup_sub L' L h4 (fun u hu => (h2 u).2 (h5 u hu))
 omega
theorem empty_sub {K : Nat} (h : Sub ⟨1,0,[-1],[]⟩ N s0 K (subG ⟨1,0,[-1],[]⟩ N K) (subR ⟨1,0,[-1],[]⟩ N K).ms) (hi : SubIn ⟨1,0,[-1],[]⟩ N s0) (hK : K <= 300) : (subG ⟨1,0,[-1],[]⟩ N K).arcs = [] /\ ∀ y ∈ (subG ⟨1,0,[-1],[]⟩ N K).final,y = -1:=by
 have hlen:=h.len
 constructor
 ·apply List.eq_nil_iff_forall_not_mem.2
  intro a ha
  obtain ⟨k,l,i,t',_,h9,h1,h2,h3,rfl⟩:=h.part.is a ha
  have hk:=(List.getElem?_eq_some_iff.1 h1).1
  apply h2
  refine (cheapD_none (behL_len _ _ _ _) (nxt_pr (N:=N) hi.wt h.part.bd h1 (by omega) i)).2 fun n hn => ?_
  unfold behL gI
  simp [List.getD,hn]
 ·intro y hy
  obtain ⟨k,hk,rfl⟩:=List.mem_iff_getElem.1 hy
  have hkm : k < (subR ⟨1,0,[-1],[]⟩ N K).ms.length:=by have:=h.flen; omega
  have e:=h.fin k _ (List.getElem?_eq_getElem hkm)
  have e2 : gI (subG ⟨1,0,[-1],[]⟩ N K).final k = (subG ⟨1,0,[-1],[]⟩ N K).final[k]:=by unfold gI; rw [List.getD_eq_getElem?_getD,List.getElem?_eq_getElem hk,Option.getD_some]
  rw [<- e2,e]
  rcases ownEnd_what hi.flen hi.fin (h.row hK (List.getElem?_eq_getElem hkm)) with ⟨e3,_⟩ | ⟨_,⟨s,hs,_,h2,_⟩,_⟩
  ·exact e3
  ·exfalso
   have hs1 : s < 1:=by have:=hi.flen; simp at this; omega
   obtain rfl : s = 0:=by omega
   have : gI ([-1] : List Int) 0 = -1:=rfl
   rw [this] at h2
   omega
theorem DetOut.up {x : FstD} (h : DetOut t s0 K x) (hT : Sc.TrimIn f t N s0) : DetOut f f.start.toNat K x:=by
 have ha:=hT.all
 exact ⟨h.st,h.sta,h.flen,fun y hy => by
  rcases h.fin y hy with e | e
  ·exact Or.inl e
  ·right; omega,fun a hm => by
  obtain ⟨h1,h2,h3,h4,h5⟩:=h.arcs a hm
  exact ⟨h1,h2,h3,h4,by omega⟩,h.ord,h.rank,fun l y hb => h.best l y (hT.best l y hb)⟩
theorem earlyD_len (g : FstD) : (earlyD g).arcs.length = g.arcs.length:=by
 unfold earlyD movD
 simp
theorem DoneK.out (h : DoneK t N K) (hT : Sc.TrimIn f t N s0) : DetOut f f.start.toNat K (detX t N K) /\ (detX t N K).arcs.length = (subG t N K).arcs.length /\ (subG t N K).arcs.length <= 3000:=by
 obtain ⟨hs,hK1,hK⟩:=h.sub hT.sin
 obtain ⟨r,M,hM,hr⟩:=hT.rank
 have hrk:=hs.rank hT.sin (by omega) (r:=fun n => M - r n) (fun e he => by
  have h1:=hr e he
  have h2:=hM e.2
  show M - r e.2 < M - r e.1
  omega)
 have hlen : (subG t N K).arcs.length <= 3000:=by
  have : (subR t N K).ars.length <= 9 * K:=subR_ars t N K
  show (subR t N K).ars.length <= 3000
  omega
 have hG:=hs.gin hT.sin (by omega)
 rcases hT.live with hl | he
 ·have hlv : ∀ k,k < K -> 0 <= gI (toD (subG t N K)) k:=fun k hk => hs.live hT.sin (by omega) hl hk
  have h0:=hlv 0 (by omega)
  have hx : detX t N K = earlyD (subG t N K):=by unfold detX; rw [if_neg (by omega)]
  rw [hx]
  exact ⟨(hs.early hT.sin (by omega) hlv hrk hr).up hT,earlyD_len _,hlen⟩
 ·have he':=he
  subst he
  obtain ⟨e1,e2⟩:=empty_sub hs hT.sin (by omega)
  have hto : gI (toD (subG ⟨1,0,[-1],[]⟩ N K)) 0 = -1:=by
   rcases hG.to 0 with ⟨e,_⟩ | ⟨_,⟨v,k,z,_,h2,_⟩,_⟩
   ·exact e
   ·exfalso
    have hk : k < K:=by
     by_cases hlt : k < K
     ·exact hlt
     ·rw [gI_out (by rw [hG.flen]; omega)] at h2; omega
    have:=e2 _ (gI_mem (c:=(subG ⟨1,0,[-1],[]⟩ N K).final) (s:=k) (by rw [hG.flen]; exact hk))
    omega
  have hx : detX ⟨1,0,[-1],[]⟩ N K = subG ⟨1,0,[-1],[]⟩ N K:=by unfold detX; rw [if_pos hto]
  rw [hx]
  refine ⟨DetOut.up (t:=⟨1,0,[-1],[]⟩) (N:=N) ⟨hs.st,hs.sta,hs.flen,fun y hy => Or.inl (e2 y hy),fun a ha => ?_,hs.part.ord,⟨_,hrk⟩,fun l y hb => hs.best hT.sin (by omega) hb⟩ hT,rfl,hlen⟩
  rw [e1] at ha
  cases ha
theorem allD_most (hi : SubIn t N s0) (hm : t.arcs.length <= 3000) : allD t <= 3001000000000:=by
 have h1 : ∀ l : List ArcD,(∀ a ∈ l,a.wt <= 1000000000) -> sumW l <= 1000000000 * (l.length : Int):=by
  intro l
  induction l with
  | nil => intro _; simp [sumW]
  | cons a l ih =>
   intro h
   have:=ih (fun b hb => h b (List.mem_cons_of_mem _ hb))
   have:=h a List.mem_cons_self
   rw [sumW_cons,List.length_cons]
   omega
 have h2:=h1 t.arcs (fun a ha => (hi.wt a ha).2)
 have h3 : mostF t.final <= 1000000000:=Sc.mostF_le (by decide) fun x hx => by rcases hi.fin x hx with e | e <;> omega
 unfold allD
 omega
theorem DoneK.nums (h : DoneK t N K) (hT : Sc.TrimIn f t N s0) : (∀ x ∈ (subG t N K).final,x = -1 \/ (0 <= x /\ x <= 4000000000000)) /\ (∀ a ∈ (subG t N K).arcs,(0 <= a.src /\ a.src < K) /\ (0 <= a.dst /\ a.dst < K) /\ (0 <= a.wt /\ a.wt <= 4000000000000)) /\ (∀ s,gI (toD (subG t N K)) s <= 4000000000000) /\
  (gI (toD (subG t N K)) 0 ≠ -1 -> (∀ a ∈ (subG t N K).arcs,0 <= (movA (toD (subG t N K)) a).wt /\ (movA (toD (subG t N K)) a).wt <= 4000000000000) /\ ∀ s,gI (toD (backF (subG t N K))) s <= 4000000000000):=by
 obtain ⟨hs,hK1,hK⟩:=h.sub hT.sin
 have hG:=hs.gin hT.sin (by omega)
 obtain ⟨r,M,hM,hr⟩:=hT.rank
 have hrk:=hs.rank hT.sin (by omega) (r:=fun n => M - r n) (fun e he => by
  have h1:=hr e he
  have h2:=hM e.2
  show M - r e.2 < M - r e.1
  omega)
 have hmany : t.arcs.length <= 3000:=(fine_of hT.chk).many
 have hall:=allD_most hT.sin hmany
 have hlenms:=hs.len
 have htl : (toD (subG t N K)).length = K:=by unfold toD; rw [rounds_len,hs.flen]
 have hto : ∀ s,gI (toD (subG t N K)) s <= 4000000000000:=fun s => by
  by_cases hs1 : s < K
  ·have:=hs.to_cap hT.sin (by omega) hr hs1; omega
  ·rw [gI_out (by omega)]; omega
 refine ⟨fun x hx => ?_,fun a ha => ?_,hto,fun h0 => ?_⟩
 ·obtain ⟨k,hk,rfl⟩:=List.mem_iff_getElem.1 hx
  have hkm : k < (subR t N K).ms.length:=by have:=hs.flen; omega
  have e:=hs.fin k _ (List.getElem?_eq_getElem hkm)
  have e2 : gI (subG t N K).final k = (subG t N K).final[k]:=by unfold gI; rw [List.getD_eq_getElem?_getD,List.getElem?_eq_getElem hk,Option.getD_some]
  have hrow:=hs.row (show K <= 300 by omega) (List.getElem?_eq_getElem hkm)
  rw [<- e2,e]
  rcases ownEnd_what hT.sin.flen hT.sin.fin hrow with ⟨e3,_⟩ | ⟨e3,⟨s,hs1,h2,h3,h4⟩,_⟩
  ·exact Or.inl e3
  ·right
   have h5:=hrow s
   have h6:=hT.sin.fin _ (gI_mem (c:=t.final) (s:=s) (by rw [hT.sin.flen]; exact hs1))
   omega
 ·have h1:=hG.arcs a ha
  refine ⟨h1.1,h1.2.1,h1.2.2,?_⟩
  obtain ⟨k,l,i,t',_,h9,e1,e2,e3,rfl⟩:=hs.part.is a ha
  have hk:=(List.getElem?_eq_some_iff.1 e1).1
  have hpr:=nxt_pr (N:=N) hT.sin.wt hs.part.bd e1 (by omega) i
  rcases cheapD_what _ hpr with ⟨e,_⟩ | ⟨_,e5,_⟩
  ·exact absurd e e2
  ·have:=hpr _ e5
   dsimp only
   omega
 ·rcases hT.live with hl | he
  ·have hlv : ∀ k,k < K -> 0 <= gI (toD (subG t N K)) k:=fun k hk => hs.live hT.sin (by omega) hl hk
   refine ⟨fun a ha => ?_,fun s => ?_⟩
   ·have h1:=hG.moved hlv ha
    have hb:=hG.arcs a ha
    have h2:=hs.arc_cap hT.sin (by omega) hr ha (hlv a.dst.toNat (by omega))
    omega
   ·obtain ⟨hB,h2⟩:=hs.back hT.sin (by omega) hlv hrk
    by_cases hs1 : s < K
    ·rw [h2 s hs1]
     split <;> omega
    ·have htl2 : (toD (backF (subG t N K))).length = K:=by unfold toD; rw [rounds_len,hB.flen]
     rw [gI_out (by omega)]
     omega
  ·exfalso
   subst he
   obtain ⟨e1,e2⟩:=empty_sub hs hT.sin (by omega)
   rcases hG.to 0 with ⟨e,_⟩ | ⟨_,⟨v,k,z,_,h2,_⟩,_⟩
   ·exact h0 e
   ·have hk : k < K:=by
     by_cases hlt : k < K
     ·exact hlt
     ·rw [gI_out (by rw [hG.flen]; omega)] at h2; omega
    have:=e2 _ (gI_mem (c:=(subG ⟨1,0,[-1],[]⟩ N K).final) (s:=k) (by rw [hG.flen]; exact hk))
    omega
end
end Go.Proofs.Yteehgcbjmdideab
/- The words of one that is trimmed,as a tree of beginnings: what stays true while it grows. -/
namespace Go.Proofs.Yteehgcbjmdideab
def lessB (at' : List Int) (j : Nat) (l : List Int) (a : ArcD) : List Int :=
 if a.inp = (j : Int) + 1 /\ 0 <= gI at' a.src.toNat then l.set a.dst.toNat (lessC (gI l a.dst.toNat) (gI at' a.src.toNat + a.wt)) else l
theorem lessB_eq {at' : List Int} {j : Nat} {l : List Int} {a : ArcD} (hlo : ∀ s,gI at' s = -1 \/ 0 <= gI at' s) (hl : ∀ s,gI l s = -1 \/ 0 <= gI l s) (hw : 0 <= a.wt) : lessB at' j l a = stepB at' j l a:=by
 unfold lessB stepB
 by_cases hi : a.inp = (j : Int) + 1
 ·rw [if_pos hi]
  have h1:=hlo a.src.toNat
  have h2:=hl a.dst.toNat
  by_cases h0 : 0 <= gI at' a.src.toNat
  ·rw [if_pos ⟨hi,h0⟩]
   have hp : plusC (gI at' a.src.toNat) a.wt = gI at' a.src.toNat + a.wt:=by unfold plusC; rw [if_neg (by omega)]
   rw [hp]
   by_cases hb : gI l a.dst.toNat = -1 \/ gI at' a.src.toNat + a.wt < gI l a.dst.toNat
   ·rw [if_pos ((better_iff (by omega) (by omega)).2 ⟨by omega,hb⟩)]
    have : lessC (gI l a.dst.toNat) (gI at' a.src.toNat + a.wt) = gI at' a.src.toNat + a.wt:=by
     unfold lessC
     by_cases e : gI l a.dst.toNat < 0
     ·rw [if_pos e]
     ·rw [if_neg e,if_neg (by omega)]
    rw [this]
   ·rw [if_neg (fun h => hb ((better_iff (by omega) (by omega)).1 h).2)]
    have : lessC (gI l a.dst.toNat) (gI at' a.src.toNat + a.wt) = gI l a.dst.toNat:=by
     unfold lessC
     rw [if_neg (by omega)]
     by_cases e : gI l a.dst.toNat < gI at' a.src.toNat + a.wt
     ·rw [if_pos (Or.inr e)]
     ·rw [if_neg (by omega)]
      omega
    rw [this,set_same]
  ·rw [if_neg (by rintro ⟨_,h⟩; exact h0 h)]
   have hp : plusC (gI at' a.src.toNat) a.wt = -1:=by unfold plusC; rw [if_pos (by omega)]
   rw [hp]
   have : ¬ betterB (-1) (gI l a.dst.toNat) = true:=by unfold betterB; simp
   rw [if_neg this]
 ·rw [if_neg hi,if_neg (by rintro ⟨h,_⟩; exact hi h)]
def goesB (at' : List Int) (j : Nat) (ars : List ArcD) : Bool:=ars.any fun a => decide (a.inp = (j : Int) + 1) && decide (0 <= gI at' a.src.toNat)
theorem take_snocA {l : List ArcD} {k : Nat} {x : ArcD} (h : l[k]? = some x) : l.take (k + 1) = l.take k ++ [x]:=by
 rw [List.take_add_one,h]
 rfl
theorem behL_take {at' : List Int} {N : Nat} {ars : List ArcD} {j k : Nat} {a : ArcD} (hlo : ∀ s,gI at' s = -1 \/ 0 <= gI at' s) (hw : ∀ b ∈ ars,0 <= b.dst /\ b.dst < N /\ 0 <= b.wt) (hk : ars[k]? = some a) :
  behL at' N (ars.take (k + 1)) j = (if a.inp = (j : Int) + 1 /\ 0 <= gI at' a.src.toNat then (behL at' N (ars.take k) j).set a.dst.toNat (lessC (gI (behL at' N (ars.take k) j) a.dst.toNat) (gI at' a.src.toNat + a.wt)) else behL at' N (ars.take k) j):=by
 rw [take_snocA hk,behL_snoc,<- lessB_eq hlo (fun s => ?_) (hw a (List.mem_of_getElem? hk)).2.2]
 ·rfl
 ·by_cases hs : s < N
  ·rcases behL_what (N:=N) j hlo (ars.take k) (fun b hb => hw b (List.mem_of_mem_take hb)) s hs with ⟨e,_⟩ | ⟨e,_⟩
   ·exact Or.inl e
   ·exact Or.inr e
  ·exact Or.inl (gI_out (by rw [behL_len]; omega))
theorem goesB_take {at' : List Int} {ars : List ArcD} {j k : Nat} {a : ArcD} (hk : ars[k]? = some a) : goesB at' j (ars.take (k + 1)) = (goesB at' j (ars.take k) || (decide (a.inp = (j : Int) + 1) && decide (0 <= gI at' a.src.toNat))):=by
 rw [take_snocA hk]
 unfold goesB
 rw [List.any_append]
 simp
structure Tree (t : FstD) (N s0 : Nat) (ws cs : List (List Int)) (ps ls : List Int) (i c : Nat) : Prop where
 l1 : cs.length = ws.length
 l2 : ps.length = ws.length
 l3 : ls.length = ws.length
 w0 : ws[0]? = some []
 p0 : ps[0]? = some (-1)
 q0 : ls[0]? = some 0
 up : ∀ (j : Nat) (w : List Int),0 < j -> ws[j]? = some w -> ∃ (p x : Nat) (v : List Int),p < j /\ ps[j]? = some (p : Int) /\ ls[j]? = some (x : Int) /\ 1 <= x /\ x <= 9 /\ ws[p]? = some v /\ w = (x : Int) :: v /\ (p < i \/ (p = i /\ x <= c))
 nd : ws.Nodup
 enc : ∀ (j : Nat) (w : List Int),ws[j]? = some w -> ∃ V,cs[j]? = some V /\ V.length = N /\ Enc t s0 N V 0 w /\ ∀ s,gI V s <= (j : Int) * 1000000000
 live : ∀ w ∈ ws,Alive t s0 w
 all : ∀ (j x : Nat) (v : List Int),(j < i \/ (j = i /\ x <= c)) -> 1 <= x -> x <= 9 -> ws[j]? = some v -> Alive t s0 ((x : Int) :: v) -> (x : Int) :: v ∈ ws
section
variable {t : FstD} {N s0 : Nat} {ws cs : List (List Int)} {ps ls : List Int} {i c : Nat}
theorem tree_start (hi : SubIn t N s0) : Tree t N s0 [[]] [onlyL N s0] [-1] [0] 0 0 where
 l1:=rfl
 l2:=rfl
 l3:=rfl
 w0:=rfl
 p0:=rfl
 q0:=rfl
 up:=fun j w hj hw => by
  have:=(List.getElem?_eq_some_iff.1 hw).1
  simp at this
  omega
 nd:=by simp
 enc:=fun j w hw => by
  have hj:=(List.getElem?_eq_some_iff.1 hw).1
  obtain rfl : j = 0:=by simp at hj; omega
  have : w = []:=by simpa using hw.symm
  subst this
  refine ⟨onlyL N s0,rfl,by unfold onlyL; simp,enc_start hi.hs,fun s => ?_⟩
  by_cases hs : s < (onlyL N s0).length
  ·have:=onlyL_ok N s0 _ (gI_mem hs)
   omega
  ·rw [gI_out (by omega)]; omega
 live:=fun w hw => by
  have : w = []:=by simpa using hw
  subst this
  exact ⟨s0,0,rfl,rfl⟩
 all:=fun j x v h1 h2 => by omega
theorem Tree.none (h : Tree t N s0 ws cs ps ls i c) {V v : List Int} (hv : ws[i]? = some v) (hV : cs[i]? = some V) (hi : SubIn t N s0) (hg : goesB V c t.arcs = false) : Tree t N s0 ws cs ps ls i (c + 1):=by
 obtain ⟨V',hV',hl,hE,hb⟩:=h.enc i v hv
 have : V' = V:=by rw [hV] at hV'; injection hV' with h; exact h.symm
 subst this
 refine ⟨h.l1,h.l2,h.l3,h.w0,h.p0,h.q0,fun j w hj hw => ?_,h.nd,h.enc,h.live,fun j x u hlt h1 h9 hu ha => ?_⟩
 ·obtain ⟨p,x,v,r1,r2,r3,r4,r5,r6,r7,r8⟩:=h.up j w hj hw
  exact ⟨p,x,v,r1,r2,r3,r4,r5,r6,r7,by omega⟩
 ·by_cases e : j = i /\ x = c + 1
  ·obtain ⟨rfl,rfl⟩:=e
   exfalso
   have : u = v:=by rw [hu] at hv; injection hv
   subst this
   obtain ⟨n,z,a,ha,n',z',hr,hin,hs,hd,rfl⟩:=ha
   unfold goesB at hg
   rw [List.any_eq_false] at hg
   have h5:=hg a ha
   have hn':=hr.lt hi.wide hi.hs
   have h6 : 0 <= gI V' n':=by
    rcases hE.2.2 n' hn' with ⟨_,h7⟩ | ⟨h7,_⟩
    ·exact absurd hr (h7 _)
    ·by_cases e : gI V' n' = -1
     ·rw [if_pos e] at h7; omega
     ·rcases hE.2.1 n' with h8 | h8
      ·exact absurd h8 e
      ·exact h8
   apply h5
   rw [hs,Int.toNat_natCast]
   have : a.inp = (c : Int) + 1:=by rw [hin]; omega
   simp [this,h6]
  ·exact h.all j x u (by omega) h1 h9 hu ha
theorem Tree.more (h : Tree t N s0 ws cs ps ls i c) {V v : List Int} (hv : ws[i]? = some v) (hV : cs[i]? = some V) (hi : SubIn t N s0) (hc : c < 9) (hg : goesB V c t.arcs = true) :
  Tree t N s0 (ws ++ [((c : Int) + 1) :: v]) (cs ++ [behL V N t.arcs c]) (ps ++ [(i : Int)]) (ls ++ [(c : Int) + 1]) i (c + 1):=by
 obtain ⟨V',hV',hl,hE,hb⟩:=h.enc i v hv
 have : V' = V:=by rw [hV] at hV'; injection hV' with h; exact h.symm
 subst this
 have hil:=(List.getElem?_eq_some_iff.1 hv).1
 have hE2:=hE.next hi.wide hi.hs c
 have hlive : Alive t s0 (((c : Int) + 1) :: v):=by
  unfold goesB at hg
  obtain ⟨a,ha,h1⟩:=List.any_eq_true.1 hg
  rw [Bool.and_eq_true] at h1
  have h2:=of_decide_eq_true h1.1
  have h3:=of_decide_eq_true h1.2
  have hw:=hi.wide a ha
  have hr:=hE.live (n:=a.src.toNat) (by omega) (by omega)
  exact ⟨a.dst.toNat,_,a,ha,a.src.toNat,_,hr,h2,by omega,by omega,rfl⟩
 have hnew : ((c : Int) + 1) :: v ∉ ws:=by
  intro hin
  obtain ⟨j,hj⟩:=List.mem_iff_getElem?.1 hin
  by_cases e : 0 < j
  ·obtain ⟨p,x,u,r1,r2,r3,r4,r5,r6,r7,r8⟩:=h.up j _ e hj
   injection r7 with r9 r10
   have : p = i:=nodup_at h.nd (by rw [r6,<- r10]) hv
   omega
  ·obtain rfl : j = 0:=by omega
   have:=h.w0
   rw [this] at hj
   cases hj
 have ext : ∀ {j : Nat} {w : List Int},ws[j]? = some w -> (ws ++ [((c : Int) + 1) :: v])[j]? = some w:=fun hw => by
  rw [List.getElem?_append_left (List.getElem?_eq_some_iff.1 hw).1]; exact hw
 have old : ∀ {j : Nat} {w : List Int},(ws ++ [((c : Int) + 1) :: v])[j]? = some w -> (j < ws.length /\ ws[j]? = some w) \/ (j = ws.length /\ w = ((c : Int) + 1) :: v):=fun {j w} hw => by
  by_cases e : j < ws.length
  ·rw [List.getElem?_append_left e] at hw
   exact Or.inl ⟨e,hw⟩
  ·have:=(List.getElem?_eq_some_iff.1 hw).1
   rw [List.length_append,List.length_singleton] at this
   obtain rfl : j = ws.length:=by omega
   rw [List.getElem?_append_right (Nat.le_refl _),Nat.sub_self] at hw
   exact Or.inr ⟨rfl,by simpa using hw.symm⟩
 have l1:=h.l1
 have l2:=h.l2
 have l3:=h.l3
 have at0 : ∀ {l : List Int} {x y : Int},l[0]? = some x -> (l ++ [y])[0]? = some x:=fun hl => by
  rw [List.getElem?_append_left (List.getElem?_eq_some_iff.1 hl).1]; exact hl
 refine ⟨by simp [l1],by simp [l2],by simp [l3],ext h.w0,at0 h.p0,at0 h.q0,fun j w hj hw => ?_,?_,fun j w hw => ?_,fun w hw => ?_,fun j x u hlt h1 h9 hu ha => ?_⟩
 ·rcases old hw with ⟨e,hw'⟩ | ⟨rfl,rfl⟩
  ·obtain ⟨p,x,u,r1,r2,r3,r4,r5,r6,r7,r8⟩:=h.up j w hj hw'
   exact ⟨p,x,u,r1,by rw [List.getElem?_append_left (by omega)]; exact r2,by rw [List.getElem?_append_left (by omega)]; exact r3,r4,r5,ext r6,r7,by omega⟩
  ·refine ⟨i,c + 1,v,hil,?_,?_,by omega,by omega,ext hv,by simp,by omega⟩
   ·rw [List.getElem?_append_right (by omega),l2,Nat.sub_self]; rfl
   ·rw [List.getElem?_append_right (by omega),l3,Nat.sub_self]; simp
 ·rw [List.nodup_append]
  refine ⟨h.nd,by simp,fun a ha b hb e => ?_⟩
  have : b = ((c : Int) + 1) :: v:=by simpa using hb
  subst this
  rw [e] at ha
  exact hnew ha
 ·rcases old hw with ⟨e,hw'⟩ | ⟨rfl,rfl⟩
  ·obtain ⟨U,r1,r2⟩:=h.enc j w hw'
   exact ⟨U,by rw [List.getElem?_append_left (by omega)]; exact r1,r2⟩
  ·refine ⟨behL V' N t.arcs c,?_,behL_len _ _ _ _,hE2,fun s => ?_⟩
   ·rw [<- l1,List.getElem?_append_right (Nat.le_refl _),Nat.sub_self]; rfl
   ·by_cases hs : s < (behL V' N t.arcs c).length
    ·have h1:=behL_bound (at':=V') (N:=N) (M:=(i : Int) * 1000000000) (fun s => by
      have h2:=hb s
      rcases hE.2.1 s with h3 | h3
      ·exact Or.inl h3
      ·exact Or.inr ⟨h3,h2⟩) hi.wt c _ (gI_mem hs)
     omega
    ·rw [gI_out (by omega)]; omega
 ·rcases List.mem_append.1 hw with hw | hw
  ·exact h.live w hw
  ·have : w = ((c : Int) + 1) :: v:=by simpa using hw
   rw [this]
   exact hlive
 ·rcases old hu with ⟨e,hu'⟩ | ⟨rfl,rfl⟩
  ·by_cases e2 : j = i /\ x = c + 1
   ·obtain ⟨rfl,rfl⟩:=e2
    have : u = v:=by rw [hu'] at hv; injection hv
    subst this
    exact List.mem_append_right _ (by simp)
   ·exact List.mem_append_left _ (h.all j x u (by omega) h1 h9 hu' ha)
  ·omega
theorem Tree.next (h : Tree t N s0 ws cs ps ls i 9) : Tree t N s0 ws cs ps ls (i + 1) 0 :=
 ⟨h.l1,h.l2,h.l3,h.w0,h.p0,h.q0,fun j w hj hw => by
  obtain ⟨p,x,v,r1,r2,r3,r4,r5,r6,r7,r8⟩:=h.up j w hj hw
  exact ⟨p,x,v,r1,r2,r3,r4,r5,r6,r7,by omega⟩,h.nd,h.enc,h.live,fun j x v hlt h1 h9 => h.all j x v (by omega) h1 h9⟩
theorem Tree.whole (h : Tree t N s0 ws cs ps ls ws.length 0) (hi : SubIn t N s0) : ∀ u,Alive t s0 u -> u ∈ ws:=by
 refine words_all (List.mem_of_getElem? h.w0) fun c u hu ha => ?_
 obtain ⟨j,hj⟩:=List.mem_iff_getElem?.1 hu
 have hjl:=(List.getElem?_eq_some_iff.1 hj).1
 have hc : ∃ x : Nat,c = (x : Int) /\ 1 <= x /\ x <= 9:=by
  obtain ⟨n,z,a,ha,n',z',hr,hin,_⟩:=ha
  have h1:=(hi.wide a ha).2.2.2
  have h2:=(hi.acc a ha).2
  exact ⟨c.toNat,by omega,by omega,by omega⟩
 obtain ⟨x,rfl,h1,h9⟩:=hc
 exact h.all j x u (Or.inl hjl) h1 h9 hj ha
theorem Tree.few (h : Tree t N s0 ws cs ps ls ws.length 0) (hi : SubIn t N s0) (hl : ws.length <= 200) : ¬ ManyD t s0:=by
 rintro ⟨L,h1,h2,h3⟩
 have:=words_most (h.whole hi) h1 h2
 omega
theorem Tree.many (h : Tree t N s0 ws cs ps ls i c) (hl : 200 < ws.length) : ManyD t s0:=⟨ws,h.nd,h.live,hl⟩
end
end Go.Proofs.Yteehgcbjmdideab
/- What 'WordsOf' has in memory: the transducer,the rows of costs,parents and letters; what grows,and what stays. -/
namespace Go.Proofs.Yteehgcbjmdideab
open Go.RowKit
theorem NumsAt.grown {w w' : World} {g n : Nat} {c : List Int} {row : Option Nat} (h : NumsAt w g n c) (hg : w.grownBy w' row) (hne : some g ≠ row) : NumsAt w' g n c :=
 ⟨h.len,fun i hi => (hg.cell_far ⟨g,i,none⟩ h.lt hne).trans (h.cell i hi),fun i => frz_block (hg.block g h.lt hne) (h.frz i),Nat.lt_of_lt_of_le h.lt hg.size⟩
structure WM (w0 wr : World) (Q N : Nat) (sta : Int) (fin arcs cv pv lv vC vP vL : Value) (LC : List Value) (cs : List (List Int)) (LP LL : List Int) : Prop where
 bel : Below Q w0 wr
 cf : CellsF wr Q (N : Int) sta fin arcs
 c4 : wr.cell? ⟨Q,4,none⟩ = some cv
 c5 : wr.cell? ⟨Q,5,none⟩ = some pv
 c6 : wr.cell? ⟨Q,6,none⟩ = some lv
 frz : ∀ i,wr.frozen? ⟨Q,i,none⟩ = false
 oC : wr.ownsRow (Q + 1) 22 1 vC LC.length LC
 oP : wr.ownsRow (Q + 1) 3 1 vP LP.length (intsW LP)
 oL : wr.ownsRow (Q + 1) 3 1 vL LL.length (intsW LL)
 nCP : ∀ b,vC.ownBlock = some b -> vP.ownBlock ≠ some b
 nCL : ∀ b,vC.ownBlock = some b -> vL.ownBlock ≠ some b
 nPL : ∀ b,vP.ownBlock = some b -> vL.ownBlock ≠ some b
 lc : LC.length = cs.length
 rows : ∀ (j : Nat) (V : List Int),cs[j]? = some V -> ∃ G cap,LC[j]? = some (.slice (some ⟨G,0,none⟩) N cap) /\ NumsAt wr G N V /\ Q < G /\ vC.ownBlock ≠ some G /\ vP.ownBlock ≠ some G /\ vL.ownBlock ≠ some G
section
variable {w0 wr wx : World} {Q N : Nat} {sta : Int} {fin arcs cv pv lv vC vP vL v' : Value} {LC : List Value} {cs : List (List Int)} {LP LL : List Int}
theorem WM.lt (h : WM w0 wr Q N sta fin arcs cv pv lv vC vP vL LC cs LP LL) : Q < wr.heap.size:=cell_lt h.c4
theorem WM.below (h : WM w0 wr Q N sta fin arcs cv pv lv vC vP vL LC cs LP LL) (hb : Below wr.heap.size wr wx) : WM w0 wx Q N sta fin arcs cv pv lv vC vP vL LC cs LP LL :=
 ⟨h.bel.trans (hb.mono (Nat.le_of_lt h.lt)),h.cf.below hb,bel_c hb h.c4,bel_c hb h.c5,bel_c hb h.c6,fun i => (hb.frozen (p:=⟨Q,i,none⟩) h.lt).trans (h.frz i),ownsRow_bel h.oC hb,ownsRow_bel h.oP hb,ownsRow_bel h.oL hb,h.nCP,h.nCL,h.nPL,h.lc,fun j V hV => by
  obtain ⟨G,cap,r1,r2,r3⟩:=h.rows j V hV
  exact ⟨G,cap,r1,r2.below hb,r3⟩⟩
theorem WM.ownC (h : WM w0 wr Q N sta fin arcs cv pv lv vC vP vL LC cs LP LL) : ∀ b,vC.ownBlock = some b -> Q < b /\ b < wr.heap.size:=fun b hb => ⟨own_base h.oC b hb,ownsRow_lt0 h.oC b hb⟩
theorem WM.ownP (h : WM w0 wr Q N sta fin arcs cv pv lv vC vP vL LC cs LP LL) : ∀ b,vP.ownBlock = some b -> Q < b /\ b < wr.heap.size:=fun b hb => ⟨own_base h.oP b hb,ownsRow_lt0 h.oP b hb⟩
theorem WM.ownL (h : WM w0 wr Q N sta fin arcs cv pv lv vC vP vL LC cs LP LL) : ∀ b,vL.ownBlock = some b -> Q < b /\ b < wr.heap.size:=fun b hb => ⟨own_base h.oL b hb,ownsRow_lt0 h.oL b hb⟩
theorem WM.appC (h : WM w0 wr Q N sta fin arcs cv pv lv vC vP vL LC cs LP LL) {G cap : Nat} {V : List Int} (hV : NumsAt wr G N V) (hG : Q < G) (n1 : vC.ownBlock ≠ some G) (n2 : vP.ownBlock ≠ some G) (n3 : vL.ownBlock ≠ some G) (hg : wr.grownBy wx vC.ownBlock) (ho : wx.ownsRow (Q + 1) 22 1 v' (LC.length + 1) (LC ++ [.slice (some ⟨G,0,none⟩) N cap])) (hv : v'.ownBlock = vC.ownBlock \/ v'.ownBlock = some wr.heap.size) :
  WM w0 wx Q N sta fin arcs cv pv lv v' vP vL (LC ++ [.slice (some ⟨G,0,none⟩) N cap]) (cs ++ [V]) LP LL:=by
 have hQl:=h.lt
 have hne : some Q ≠ vC.ownBlock:=fun e => by have:=(h.ownC Q e.symm).1; omega
 have far : ∀ b,b < wr.heap.size -> vC.ownBlock ≠ some b -> v'.ownBlock ≠ some b:=fun b hb hn e => by
  rcases hv with hv | hv
  ·rw [hv] at e; exact hn e
  ·rw [hv] at e; injection e with e; omega
 have hc : ∀ {i : Nat} {u : Value},wr.cell? ⟨Q,i,none⟩ = some u -> wx.cell? ⟨Q,i,none⟩ = some u:=fun hh => (hg.cell_far ⟨Q,_,none⟩ hQl hne).trans hh
 refine ⟨h.bel.grown hg (by omega) (fun b hb => by have:=(h.ownC b hb).1; omega),⟨hc h.cf.1,hc h.cf.2.1,hc h.cf.2.2.1,hc h.cf.2.2.2⟩,hc h.c4,hc h.c5,hc h.c6,fun i => frz_block (hg.block Q hQl hne) (h.frz i),?_,own_same h.oP (fun b hb => hg.block b (h.ownP b hb).2 (fun e => h.nCP b e.symm hb)),own_same h.oL (fun b hb => hg.block b (h.ownL b hb).2 (fun e => h.nCL b e.symm hb)),fun b hb e => ?_,fun b hb e => ?_,h.nPL,by simp [h.lc],fun j U hU => ?_⟩
 ·rw [List.length_append,List.length_singleton]; exact ho
 ·exact far b (h.ownP b e).2 (fun e2 => h.nCP b e2 e) hb
 ·exact far b (h.ownL b e).2 (fun e2 => h.nCL b e2 e) hb
 ·by_cases e : j < cs.length
  ·rw [List.getElem?_append_left e] at hU
   obtain ⟨G',cap',r1,r2,r3,r4,r5,r6⟩:=h.rows j U hU
   exact ⟨G',cap',by rw [List.getElem?_append_left (by have:=h.lc; omega)]; exact r1,r2.grown hg (fun e => r4 e.symm),r3,far G' r2.lt r4,r5,r6⟩
  ·have hj:=(List.getElem?_eq_some_iff.1 hU).1
   rw [List.length_append,List.length_singleton] at hj
   obtain rfl : j = cs.length:=by omega
   rw [List.getElem?_append_right (Nat.le_refl _),Nat.sub_self] at hU
   have : V = U:=by simpa using hU
   subst this
   exact ⟨G,cap,by rw [<- h.lc,List.getElem?_append_right (Nat.le_refl _),Nat.sub_self]; rfl,hV.grown hg (fun e => n1 e.symm),hG,far G hV.lt n1,n2,n3⟩
theorem WM.appP (h : WM w0 wr Q N sta fin arcs cv pv lv vC vP vL LC cs LP LL) {x : Int} (hg : wr.grownBy wx vP.ownBlock) (ho : wx.ownsRow (Q + 1) 3 1 v' (LP.length + 1) (intsW LP ++ [.int .i64 x])) (hv : v'.ownBlock = vP.ownBlock \/ v'.ownBlock = some wr.heap.size) :
  WM w0 wx Q N sta fin arcs cv pv lv vC v' vL LC cs (LP ++ [x]) LL:=by
 have hQl:=h.lt
 have hne : some Q ≠ vP.ownBlock:=fun e => by have:=(h.ownP Q e.symm).1; omega
 have far : ∀ b,b < wr.heap.size -> vP.ownBlock ≠ some b -> v'.ownBlock ≠ some b:=fun b hb hn e => by
  rcases hv with hv | hv
  ·rw [hv] at e; exact hn e
  ·rw [hv] at e; injection e with e; omega
 have hc : ∀ {i : Nat} {u : Value},wr.cell? ⟨Q,i,none⟩ = some u -> wx.cell? ⟨Q,i,none⟩ = some u:=fun hh => (hg.cell_far ⟨Q,_,none⟩ hQl hne).trans hh
 refine ⟨h.bel.grown hg (by omega) (fun b hb => by have:=(h.ownP b hb).1; omega),⟨hc h.cf.1,hc h.cf.2.1,hc h.cf.2.2.1,hc h.cf.2.2.2⟩,hc h.c4,hc h.c5,hc h.c6,fun i => frz_block (hg.block Q hQl hne) (h.frz i),own_same h.oC (fun b hb => hg.block b (h.ownC b hb).2 (fun e => h.nCP b hb e.symm)),?_,own_same h.oL (fun b hb => hg.block b (h.ownL b hb).2 (fun e => h.nPL b e.symm hb)),fun b hb e => ?_,h.nCL,fun b hb e => ?_,h.lc,fun j U hU => ?_⟩
 ·have e1 : (LP ++ [x]).length = LP.length + 1:=by simp
  have e2 : intsW (LP ++ [x]) = intsW LP ++ [.int .i64 x]:=by simp [intsW]
  rw [e1,e2]; exact ho
 ·exact far b (h.ownC b hb).2 (h.nCP b hb) e
 ·exact far b (h.ownL b e).2 (fun e2 => h.nPL b e2 e) hb
 ·obtain ⟨G',cap',r1,r2,r3,r4,r5,r6⟩:=h.rows j U hU
  exact ⟨G',cap',r1,r2.grown hg (fun e => r5 e.symm),r3,r4,far G' r2.lt r5,r6⟩
theorem WM.appL (h : WM w0 wr Q N sta fin arcs cv pv lv vC vP vL LC cs LP LL) {x : Int} (hg : wr.grownBy wx vL.ownBlock) (ho : wx.ownsRow (Q + 1) 3 1 v' (LL.length + 1) (intsW LL ++ [.int .i64 x])) (hv : v'.ownBlock = vL.ownBlock \/ v'.ownBlock = some wr.heap.size) :
  WM w0 wx Q N sta fin arcs cv pv lv vC vP v' LC cs LP (LL ++ [x]):=by
 have hQl:=h.lt
 have hne : some Q ≠ vL.ownBlock:=fun e => by have:=(h.ownL Q e.symm).1; omega
 have far : ∀ b,b < wr.heap.size -> vL.ownBlock ≠ some b -> v'.ownBlock ≠ some b:=fun b hb hn e => by
  rcases hv with hv | hv
  ·rw [hv] at e; exact hn e
  ·rw [hv] at e; injection e with e; omega
 have hc : ∀ {i : Nat} {u : Value},wr.cell? ⟨Q,i,none⟩ = some u -> wx.cell? ⟨Q,i,none⟩ = some u:=fun hh => (hg.cell_far ⟨Q,_,none⟩ hQl hne).trans hh
 refine ⟨h.bel.grown hg (by omega) (fun b hb => by have:=(h.ownL b hb).1; omega),⟨hc h.cf.1,hc h.cf.2.1,hc h.cf.2.2.1,hc h.cf.2.2.2⟩,hc h.c4,hc h.c5,hc h.c6,fun i => frz_block (hg.block Q hQl hne) (h.frz i),own_same h.oC (fun b hb => hg.block b (h.ownC b hb).2 (fun e => h.nCL b hb e.symm)),own_same h.oP (fun b hb => hg.block b (h.ownP b hb).2 (fun e => h.nPL b hb e.symm)),?_,h.nCP,fun b hb e => ?_,fun b hb e => ?_,h.lc,fun j U hU => ?_⟩
 ·have e1 : (LL ++ [x]).length = LL.length + 1:=by simp
  have e2 : intsW (LL ++ [x]) = intsW LL ++ [.int .i64 x]:=by simp [intsW]
  rw [e1,e2]; exact ho
 ·exact far b (h.ownC b hb).2 (h.nCL b hb) e
 ·exact far b (h.ownP b hb).2 (h.nPL b hb) e
 ·obtain ⟨G',cap',r1,r2,r3,r4,r5,r6⟩:=h.rows j U hU
  exact ⟨G',cap',r1,r2.grown hg (fun e => r6 e.symm),r3,r4,r5,far G' r2.lt r6⟩
theorem set_off7 {w : World} {B i j : Nat} {u v : Value} (h : w.cell? ⟨B,j,none⟩ = some u) (hij : j ≠ i) : (w.setCell ⟨B,i,none⟩ v).cell? ⟨B,j,none⟩ = some u:=by
 rw [World.cell?_setCell_other _ _ _ _ (by intro e; injection e with _ e2; omega)]
 exact h
theorem WM.setBox (h : WM w0 wr Q N sta fin arcs cv pv lv vC vP vL LC cs LP LL) (i : Nat) (u : Value) (cv' pv' lv' : Value) (hi : 4 <= i) (h4 : (wr.setCell ⟨Q,i,none⟩ u).cell? ⟨Q,4,none⟩ = some cv') (h5 : (wr.setCell ⟨Q,i,none⟩ u).cell? ⟨Q,5,none⟩ = some pv') (h6 : (wr.setCell ⟨Q,i,none⟩ u).cell? ⟨Q,6,none⟩ = some lv') :
  WM w0 (wr.setCell ⟨Q,i,none⟩ u) Q N sta fin arcs cv' pv' lv' vC vP vL LC cs LP LL:=by
 have nC : vC.ownBlock ≠ some Q:=fun e => by have:=(h.ownC Q e).1; omega
 have nP : vP.ownBlock ≠ some Q:=fun e => by have:=(h.ownP Q e).1; omega
 have nL : vL.ownBlock ≠ some Q:=fun e => by have:=(h.ownL Q e).1; omega
 refine ⟨h.bel.setCell (p:=⟨Q,i,none⟩) (Nat.le_refl _) _,⟨set_off7 h.cf.1 (by omega),set_off7 h.cf.2.1 (by omega),set_off7 h.cf.2.2.1 (by omega),set_off7 h.cf.2.2.2 (by omega)⟩,h4,h5,h6,fun k => by rw [World.frozen?_setCell]; exact h.frz k,ownsRow_setCell_far h.oC nC,ownsRow_setCell_far h.oP nP,ownsRow_setCell_far h.oL nL,h.nCP,h.nCL,h.nPL,h.lc,fun j U hU => ?_⟩
 obtain ⟨G',cap',r1,r2,r3,r4⟩:=h.rows j U hU
 exact ⟨G',cap',r1,r2.other (by omega),r3,r4⟩
theorem WM.set4 (h : WM w0 wr Q N sta fin arcs cv pv lv vC vP vL LC cs LP LL) : WM w0 (wr.setCell ⟨Q,4,none⟩ vC) Q N sta fin arcs vC pv lv vC vP vL LC cs LP LL :=
 h.setBox 4 vC vC pv lv (by omega) (World.cell?_setCell_same _ _ _ h.c4) (set_off7 h.c5 (by decide)) (set_off7 h.c6 (by decide))
theorem WM.set5 (h : WM w0 wr Q N sta fin arcs cv pv lv vC vP vL LC cs LP LL) : WM w0 (wr.setCell ⟨Q,5,none⟩ vP) Q N sta fin arcs cv vP lv vC vP vL LC cs LP LL :=
 h.setBox 5 vP cv vP lv (by omega) (set_off7 h.c4 (by decide)) (World.cell?_setCell_same _ _ _ h.c5) (set_off7 h.c6 (by decide))
theorem WM.set6 (h : WM w0 wr Q N sta fin arcs cv pv lv vC vP vL LC cs LP LL) : WM w0 (wr.setCell ⟨Q,6,none⟩ vL) Q N sta fin arcs cv pv vL vC vP vL LC cs LP LL :=
 h.setBox 6 vL cv pv vL (by omega) (set_off7 h.c4 (by decide)) (set_off7 h.c5 (by decide)) (World.cell?_setCell_same _ _ _ h.c6)
end
end Go.Proofs.Yteehgcbjmdideab
/- What 'WordsOf' has in hand while rows grow: literals,the row that is next; three operations that may come up. -/
namespace Go.Proofs.Yteehgcbjmdideab
open Go.RowKit
open Go
structure LitAt (W : World) (b : Nat) (u vC vP vL : Value) : Prop where
 c : W.cell? ⟨b,0,none⟩ = some u
 nC : vC.ownBlock ≠ some b
 nP : vP.ownBlock ≠ some b
 nL : vL.ownBlock ≠ some b
structure RowAt (W : World) (Q N G : Nat) (V : List Int) (vC vP vL : Value) : Prop where
 num : NumsAt W G N V
 q : Q < G
 nC : vC.ownBlock ≠ some G
 nP : vP.ownBlock ≠ some G
 nL : vL.ownBlock ≠ some G
theorem own_far {W : World} {v v' : Value} {b : Nat} (hb : b < W.heap.size) (hn : v.ownBlock ≠ some b) (hv : v'.ownBlock = v.ownBlock \/ v'.ownBlock = some W.heap.size) : v'.ownBlock ≠ some b:=fun e => by
 rcases hv with hv | hv
 ·rw [hv] at e; exact hn e
 ·rw [hv] at e; injection e with e; omega
section
variable {W Wx : World} {Q N b G : Nat} {u vC vP vL v' : Value} {V : List Int}
theorem LitAt.below (h : LitAt W b u vC vP vL) (hb : Below W.heap.size W Wx) : LitAt Wx b u vC vP vL:=⟨bel_c hb h.c,h.nC,h.nP,h.nL⟩
theorem LitAt.gC (h : LitAt W b u vC vP vL) (hg : W.grownBy Wx vC.ownBlock) (hv : v'.ownBlock = vC.ownBlock \/ v'.ownBlock = some W.heap.size) : LitAt Wx b u v' vP vL :=
 ⟨(hg.cell_far ⟨b,0,none⟩ (cell_lt h.c) (fun e => h.nC e.symm)).trans h.c,own_far (cell_lt h.c) h.nC hv,h.nP,h.nL⟩
theorem LitAt.gP (h : LitAt W b u vC vP vL) (hg : W.grownBy Wx vP.ownBlock) (hv : v'.ownBlock = vP.ownBlock \/ v'.ownBlock = some W.heap.size) : LitAt Wx b u vC v' vL :=
 ⟨(hg.cell_far ⟨b,0,none⟩ (cell_lt h.c) (fun e => h.nP e.symm)).trans h.c,h.nC,own_far (cell_lt h.c) h.nP hv,h.nL⟩
theorem LitAt.news (h : LitAt W b u vC vP vL) : ∀ j x,([u] : List Value)[j]? = some x -> W.cell? ((⟨b,0,none⟩ : Addr).add j) = some x:=by
 intro j x hj
 match j,hj with
 | 0,hj => simp at hj; subst hj; simpa [Addr.add] using h.c
theorem RowAt.below (h : RowAt W Q N G V vC vP vL) (hb : Below W.heap.size W Wx) : RowAt Wx Q N G V vC vP vL:=⟨h.num.below hb,h.q,h.nC,h.nP,h.nL⟩
theorem lit_new {w0 : World} {sta : Int} {fin arcs cv pv lv : Value} {LC : List Value} {cs : List (List Int)} {LP LL : List Int} (h : WM w0 W Q N sta fin arcs cv pv lv vC vP vL LC cs LP LL) (u : Value) (t : Nat) : LitAt (W.alloc (.cells #[u] t)) W.heap.size u vC vP vL :=
 ⟨new_cell _ _ _ _ 0 _ rfl rfl,fun e => by have:=(h.ownC _ e).2; omega,fun e => by have:=(h.ownP _ e).2; omega,fun e => by have:=(h.ownL _ e).2; omega⟩
end
theorem one_val {u : Value} (h : u.oneCell' = true) : ∀ x ∈ ([u] : List Value),x.oneCell' = true:=fun x hx => by
 have : x = u:=by simpa using hx
 rw [this]; exact h
end Go.Proofs.Yteehgcbjmdideab
/- The program's search,where weights may be great. (Made by wip/gen/bg.py out of CostM.) -/
namespace Go.Proofs.Yteehgcbjmdideab.Bg
def muI (x : Int) : Nat:=if x < 0 then 10000000000000000000 else x.toNat
def muL (c : List Int) : Nat:=(c.map muI).sum
structure Inv (E : List Edg) (b c y : List Int) : Prop where
 len : c.length = b.length
 ylen : y.length = b.length
 ach : Ach E b c
 le : LeC c b
 lo : ∀ v,-1 <= gI c v
 hi : ∀ v,gI c v <= 10000000000000 * (1 + (metL c : Int))
 by_ : ∃ r R,(∀ x,r x <= R) /\ ByOk E b c y r
section
variable {E : List Edg} {b c y : List Int}
theorem Inv.top (h : Inv E b c y) (hn : b.length <= 200) (v : Nat) : gI c v <= 2010000000000000:=by
 have h1:=h.hi v
 have h2:=metL_le c
 have h3:=h.len
 omega
theorem Inv.topK (h : Inv E b c y) (hn : b.length <= 400000) (v : Nat) : gI c v <= 4000010000000000000:=by
 have h1:=h.hi v
 have h2:=metL_le c
 have h3:=h.len
 omega
theorem Inv.start (hb : ∀ v,gI b v = -1 \/ 0 <= gI b v) (hm : ∀ v,gI b v <= 10000000000000) : Inv E b b (List.replicate b.length (-1)) where
 len:=rfl
 ylen:=by simp
 ach:=fun v => (hb v).imp id fun h => ⟨0,rfl,h⟩
 le:=LeC.refl _
 lo:=fun v => by rcases hb v with h | h <;> omega
 hi:=fun v => by have:=hm v; omega
 by_:=⟨fun _ => 0,0,fun _ => Nat.le_refl _,fun v hv => Or.inl ⟨by simp [gI,List.getD,hv],rfl⟩⟩
theorem Inv.step {j : Nat} {e : Edg} (h : Inv E b c y) (hbn : b.length <= 400000) (hj : E[j]? = some e) (hv : e.v < b.length) (hw0 : 0 <= e.w) (hw1 : e.w <= 10000000000000)
  (hbt : betterB (plusC (gI c e.u) e.w) (gI c e.v) = true) :
  Inv E b (c.set e.v (plusC (gI c e.u) e.w)) (y.set e.v (j : Int)) /\ muL (c.set e.v (plusC (gI c e.u) e.w)) < muL c:=by
 have hvc : e.v < c.length:=by have:=h.len; omega
 have hvy : e.v < y.length:=by have:=h.ylen; omega
 have he : e ∈ E:=List.mem_of_getElem? hj
 obtain ⟨hp0,hbet⟩:=(better_iff (plusC_lo _ _) (h.lo _)).1 hbt
 have hcu : 0 <= gI c e.u:=by
  unfold plusC at hp0
  split at hp0
  ·omega
  ·rename_i hh; omega
 have hp : plusC (gI c e.u) e.w = gI c e.u + e.w:=by unfold plusC; rw [if_neg (by omega)]
 have hrel : c.set e.v (plusC (gI c e.u) e.w) = relE c e:=by
  rw [<- progE_eq c e h.lo]
  unfold progE
  rw [if_pos hbt]
 have hne : e.u ≠ e.v:=by
  intro hh
  rw [hh] at hp hcu
  rw [hh,hp] at hbet
  omega
 have hset : ∀ x,gI (c.set e.v (plusC (gI c e.u) e.w)) x = if x = e.v then gI c e.u + e.w else gI c x:=fun x => by rw [gI_set _ _ _ _ hvc,hp]
 have hyset : ∀ x,gI (y.set e.v (j : Int)) x = if x = e.v then (j : Int) else gI y x:=fun x => gI_set _ _ _ _ hvy
 have hmet:=sum_set (fun x => if x < 0 then 0 else 1) c e.v (plusC (gI c e.u) e.w) hvc
 have hmu:=sum_set muI c e.v (plusC (gI c e.u) e.w) hvc
 change metL (c.set e.v (plusC (gI c e.u) e.w)) + _ = metL c + _ at hmet
 change muL (c.set e.v (plusC (gI c e.u) e.w)) + _ = muL c + _ at hmu
 rw [if_neg (by omega : ¬ plusC (gI c e.u) e.w < 0)] at hmet
 have htop:=h.hi e.u
 refine ⟨⟨by simpa using h.len,by simpa using h.ylen,?_,?_,?_,?_,?_⟩,?_⟩
 ·rw [hrel]; exact relE_ach he hvc h.ach
 ·rw [hrel]; exact (relE_le c e hvc).trans h.le
 ·intro x
  rw [hset]
  split
  ·omega
  ·exact h.lo x
 ·intro x
  rw [hset]
  have hx:=h.hi x
  by_cases hn : gI c e.v < 0
  ·rw [if_pos hn] at hmet
   split <;> omega
  ·rw [if_neg hn] at hmet
   have:=h.hi e.v
   split <;> omega
 ·obtain ⟨r,R,hR,hby⟩:=h.by_
  refine ⟨fun x => if x = e.v then R + 1 else r x,R + 1,fun x => ?_,fun v hv' => ?_⟩
  ·show (if x = e.v then R + 1 else r x) <= R + 1
   split
   ·exact Nat.le_refl _
   ·have:=hR x; omega
  ·rw [hset,hyset]
   by_cases hve : v = e.v
   ·subst hve
    right
    rw [if_pos rfl,if_pos rfl]
    refine ⟨j,e,rfl,hj,rfl,?_⟩
    rw [hset,if_neg hne]
    simp only [hne,if_true,if_false]
    have:=hR e.u
    refine ⟨hcu,by omega,by omega,fun _ => by omega⟩
   ·rw [if_neg hve,if_neg hve]
    rcases hby v (by simpa using hv') with hl | ⟨j',e',h1,h2,h3,h4,h5,h6,h7⟩
    ·exact Or.inl hl
    ·right
     refine ⟨j',e',h1,h2,h3,?_⟩
     rw [hset]
     by_cases hue : e'.u = e.v
     ·rw [if_pos hue]
      rw [hue] at h4 h6
      refine ⟨by omega,h5,by omega,fun hh => by omega⟩
     ·rw [if_neg hue]
      refine ⟨h4,h5,h6,fun hh => ?_⟩
      have:=h7 hh
      simp only [hue,if_false,hve]
      exact this
 ·have hmu1 : muI (plusC (gI c e.u) e.w) < muI (gI c e.v):=by
   unfold muI
   rw [if_neg (by omega)]
   by_cases hn : gI c e.v < 0
   ·rw [if_pos hn]
    have:=h.topK hbn e.u
    omega
   ·rw [if_neg hn]; omega
  omega
end
end Go.Proofs.Yteehgcbjmdideab.Bg
