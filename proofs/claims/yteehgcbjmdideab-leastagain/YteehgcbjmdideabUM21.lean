/- What is trimmed,of an acceptor that does not go round: each state leads to an end,no way leads round,no weight is greater. -/
import Derived.Test.YteehgcbjmdideabUM05
import Derived.Test.YteehgcbjmdideabUM20
import Derived.Test.YteehgcbjmdideabUM13
import Derived.Test.YteehgcbjmdideabUM17
import Derived.Test.YteehgcbjmdideabUM12
import Derived.Test.YteehgcbjmdideabUM15
import Derived.Test.YteehgcbjmdideabUM10
import Derived.Test.YteehgcbjmdideabUM04
namespace Go.Proofs.Yteehgcbjmdideab.Sc
theorem acc_of {f : FstD} (hb : bothB f = true) (hs : silB f = false) : AccD f:=by
 intro a ha
 unfold bothB at hb
 unfold silB at hs
 rw [Bool.not_eq_true',List.any_eq_false] at hb
 rw [List.any_eq_false] at hs
 have h1:=hb a ha
 have h2:=hs a ha
 simp at h1 h2
 exact ⟨h1.symm,h2⟩
theorem fine_in {f : FstD} (k : Fine f) (hA : AccD f) : SubIn f f.states.toNat f.start.toNat:=by
 have h1:=k.s1
 have h2:=k.s2
 have h3:=k.b1
 have h4:=k.b2
 have h5:=k.len
 have har : ∀ a ∈ f.arcs,((0 <= a.src /\ a.src < (f.states.toNat : Int)) /\ (0 <= a.dst /\ a.dst < (f.states.toNat : Int)) /\ 0 <= a.wt /\ 0 <= a.inp /\ a.inp <= 9) /\ a.wt <= 1000000000:=fun a ha => by
  have q:=k.arcs a ha
  have e0:=q.src
  have e1:=q.dst
  have e2:=q.inp
  have e4:=q.wt
  simp [inB] at e0 e1 e2 e4
  omega
 exact ⟨by omega,by omega,fun a ha => (har a ha).1,hA,fun a ha => ⟨(har a ha).1.2.2.1,(har a ha).2⟩,by omega,k.fin,by omega,by omega⟩
theorem sumW_nonneg {l : List ArcD} (h : ∀ a ∈ l,0 <= a.wt) : 0 <= sumW l:=by
 have:=(sumW_filter (p:=fun _ => true) h)
 omega
theorem mostF_le {l : List Int} {M : Int} (h0 : 0 <= M) (h : ∀ x ∈ l,x <= M) : mostF l <= M:=by
 unfold mostF
 have key : ∀ (l : List Int) (m : Int),m <= M -> (∀ x ∈ l,x <= M) -> l.foldl (fun m x => if x > m then x else m) m <= M:=by
  intro l
  induction l with
  | nil => intro m hm _; exact hm
  | cons y l ih =>
   intro m hm hh
   rw [List.foldl_cons]
   refine ih _ ?_ (fun x hx => hh x (List.mem_cons_of_mem _ hx))
   have:=hh y List.mem_cons_self
   split <;> omega
 exact key l 0 h0 h
theorem sumW_arcsT (st : Nat -> Bool) (l : List ArcD) : sumW (arcsT st l) = sumW (l.filter fun a => st a.src.toNat && st a.dst.toNat):=by
 unfold sumW arcsT
 rw [List.map_map]
 rfl
structure TrimIn (f t : FstD) (N s0 : Nat) : Prop where
 sin : SubIn t N s0
 chk : checkD t = 0
 rank : ∃ (r : Nat -> Nat) (M : Nat),(∀ v,r v <= M) /\ ∀ e ∈ edgesE t.arcs,r e.1 < r e.2
 all : allD t <= allD f
 live : (∀ n,n < N -> ∃ v m z,WdR t n v m z /\ 0 <= gI t.final m) \/ t = ⟨1,0,[-1],[]⟩
 best : ∀ l y,BestP f l l f.start.toNat y -> BestP t l l s0 y
 sil : silB t = false
theorem trim_in {f t : FstD} (hc : checkD f = 0) (h : IsTrim f t) (hb : bothB f = true) (hs : silB f = false) (hr : ¬ RoundD f) : TrimIn f t t.states.toNat t.start.toNat:=by
 have kf:=fine_of hc
 have hA:=acc_of hb hs
 have hI:=fine_in kf hA
 have htc:=trim_fine hc h
 have kt:=fine_of htc
 have hbest : ∀ l y,BestP f l l f.start.toNat y -> BestP t l l t.start.toNat y:=fun l y hy => hy.of_tot fun z => trim_tot hc h z
 obtain ⟨rf,hrM,hrf⟩:=rank_of (E:=edgesE f.arcs) (N:=f.states.toNat) (fun e he => by
  obtain ⟨a,ha,rfl⟩:=List.mem_map.1 he
  have:=hI.wide a ha
  dsimp only
  omega) hr
 obtain ⟨st,hst,ht⟩:=h
 have hall0 : 0 <= sumW f.arcs:=sumW_nonneg fun a ha => (hI.wide a ha).2.2.1
 have hm0:=(mostF_ge f.final)
 by_cases hS : st f.start.toNat = true
 ·have e1 : t = ⟨newNo st f.states.toNat,newNo st f.start.toNat,finT f st f.states.toNat,arcsT st f.arcs⟩:=by rw [ht]; unfold trimBy; rw [if_pos hS]
  have hAt : AccD t:=by
   rw [e1]
   intro b hb
   obtain ⟨a,ha,rfl⟩:=List.mem_map.1 hb
   exact hA a (List.mem_filter.1 ha).1
  have hsil : silB t = false:=by
   unfold silB
   rw [List.any_eq_false]
   intro b hb
   have:=(hAt b hb).2
   simpa using this
  refine ⟨fine_in kt hAt,htc,⟨fun m => rf (((List.range f.states.toNat).filter st).getD m 0),f.states.toNat + 1,fun v => hrM _,?_⟩,?_,?_,hbest,hsil⟩
  ·intro e he
   obtain ⟨b,hb,rfl⟩:=List.mem_map.1 he
   rw [e1] at hb
   obtain ⟨a,ha,rfl⟩:=List.mem_map.1 hb
   obtain ⟨ha1,ha2⟩:=List.mem_filter.1 ha
   rw [Bool.and_eq_true] at ha2
   have hw:=hI.wide a ha1
   have f1:=filter_at f.states.toNat a.src.toNat (by omega) ha2.1
   have f2:=filter_at f.states.toNat a.dst.toNat (by omega) ha2.2
   have hlt:=hrf _ (List.mem_map.2 ⟨a,ha1,rfl⟩)
   dsimp only at hlt
   show rf (((List.range f.states.toNat).filter st).getD ((newNo st a.src.toNat : Nat) : Int).toNat 0) < rf (((List.range f.states.toNat).filter st).getD ((newNo st a.dst.toNat : Nat) : Int).toNat 0)
   rw [Int.toNat_natCast,Int.toNat_natCast,List.getD_eq_getElem?_getD,List.getD_eq_getElem?_getD,f1,f2]
   exact hlt
  ·unfold allD
   have h1 : sumW t.arcs <= sumW f.arcs:=by
    rw [e1]
    show sumW (arcsT st f.arcs) <= _
    rw [sumW_arcsT]
    exact (sumW_filter fun a ha => (hI.wide a ha).2.2.1).2
   have h2 : mostF t.final <= mostF f.final:=by
    refine mostF_le hm0.1 fun x hx => ?_
    rw [e1] at hx
    obtain ⟨n,hn,rfl⟩:=List.mem_map.1 hx
    have hn2 : n < f.states.toNat:=List.mem_range.1 (List.mem_filter.1 hn).1
    refine hm0.2 _ ?_
    have : n < f.final.length:=by have:=hI.flen; omega
    rw [List.getD_eq_getElem?_getD,List.getElem?_eq_getElem this,Option.getD_some]
    exact List.getElem_mem _
   omega
  ·left
   intro m hm
   have hmN : m < newNo st f.states.toNat:=by
    have h5 : t.states.toNat = newNo st f.states.toNat:=by
     rw [e1]
     show ((newNo st f.states.toNat : Nat) : Int).toNat = _
     rw [Int.toNat_natCast]
    omega
   have hLm : m < ((List.range f.states.toNat).filter st).length:=hmN
   obtain ⟨n,hn⟩ : ∃ n,((List.range f.states.toNat).filter st)[m]? = some n:=⟨_,List.getElem?_eq_getElem hLm⟩
   obtain ⟨hn1,hn2⟩:=List.mem_filter.1 (List.mem_of_getElem? hn)
   have hnN : n < f.states.toNat:=List.mem_range.1 hn1
   have hno : newNo st n = m:=by
    have h6:=filter_at f.states.toNat n hnN hn2
    have hnd : ((List.range f.states.toNat).filter st).Nodup:=List.Pairwise.filter _ List.nodup_range
    exact nodup_at hnd h6 hn
   obtain ⟨hRA,hRB⟩:=(hst n).1 hn2
   have hgoal : ReachP f.states.toNat (pairsB f) (firstB f) n /\ (st n = true -> ∃ v m z,WdR t (newNo st n) v m z /\ 0 <= gI t.final m):=by
    refine hRB (fun s => ReachP f.states.toNat (pairsB f) (firstB f) s /\ (st s = true -> ∃ v m z,WdR t (newNo st s) v m z /\ 0 <= gI t.final m)) ?_ ?_
    ·intro s hs0
     refine ⟨Reach.first hs0,fun hss => ⟨[],newNo st s,0,⟨rfl,rfl⟩,?_⟩⟩
     have h7 : gI t.final (newNo st s) = gI f.final s:=by
      rw [e1]
      exact finT_at hs0.1 hss (by have:=hI.flen; have:=hs0.1; omega)
     rw [h7]
     have h8 : f.final.getD s 0 ≠ -1:=by
      have:=hs0.2
      unfold firstB at this
      simpa using this
     have h9 : gI f.final s = f.final.getD s 0:=by
      unfold gI
      have : s < f.final.length:=by have:=hI.flen; have:=hs0.1; omega
      rw [List.getD_eq_getElem?_getD,List.getD_eq_getElem?_getD,List.getElem?_eq_getElem this]
      rfl
     rcases gI_of f.final (fun x => x = -1 \/ (0 <= x /\ x <= 1000000000)) hI.fin (Or.inl rfl) s with h | h
     ·rw [h9] at h; exact absurd h h8
     ·exact h.1
    ·rintro s s' ⟨h1,h2⟩ he
     refine ⟨Reach.on h1 he,fun hs' => ?_⟩
     obtain ⟨a,ha,hae⟩:=List.mem_map.1 he
     injection hae with hd hsr
     have hRA':=((hst s').1 hs').1
     have hRAs : ReachP f.states.toNat (pairsA f) (firstA f) s:=Reach.on hRA' (List.mem_map.2 ⟨a,ha,by rw [hd,hsr]⟩)
     have hss : st s = true:=(hst s).2 ⟨hRAs,h1⟩
     obtain ⟨v,m',z,hv,h0⟩:=h2 hss
     refine ⟨v ++ [a.inp],m',z + a.wt,(wdr_first v _ _).2 ⟨arcT st a,?_,newNo st s,?_,rfl,?_,?_⟩,h0⟩
     ·rw [e1]
      exact List.mem_map.2 ⟨a,List.mem_filter.2 ⟨ha,by rw [hd,hsr,hss,hs']; rfl⟩,rfl⟩
     ·show ((newNo st a.src.toNat : Nat) : Int) = _
      rw [hsr]
     ·show ((newNo st a.dst.toNat : Nat) : Int) = _
      rw [hd]
     ·show WdR t (newNo st s) v m' (z + a.wt - a.wt)
      rw [show z + a.wt - a.wt = z by omega]
      exact hv
   rw [<- hno]
   exact hgoal.2 hn2
 ·have e1 : t = ⟨1,0,[-1],[]⟩:=by rw [ht]; unfold trimBy; rw [if_neg hS]
  subst e1
  refine ⟨fine_in kt (fun a ha => by cases ha),htc,⟨fun _ => 0,0,fun _ => Nat.le_refl _,fun e he => by cases he⟩,?_,Or.inr rfl,hbest,rfl⟩
  show (0 : Int) + mostF [-1] <= sumW f.arcs + mostF f.final
  have : mostF [-1] = 0:=rfl
  have:=hm0.1
  omega
end Go.Proofs.Yteehgcbjmdideab.Sc
/- What Determine makes of one that is trimmed: when its subsets are too many,and what comes,told by words. -/
namespace Go.Proofs.Yteehgcbjmdideab
def DoneK (t : FstD) (N k : Nat) : Prop:=(∀ j,j < k -> j < (subR t N j).ms.length /\ (subR t N j).ms.length <= 200) /\ k = (subR t N k).ms.length
def FailK (t : FstD) (N k : Nat) : Prop:=(∀ j,j < k -> j < (subR t N j).ms.length /\ (subR t N j).ms.length <= 200) /\ k < (subR t N k).ms.length /\ 200 < (subR t N k).ms.length
theorem subR_grow (t : FstD) (N k : Nat) : (subR t N k).ms.length <= (subR t N (k + 1)).ms.length /\ (subR t N (k + 1)).ms.length <= (subR t N k).ms.length + 9:=letsN_more (atS N (subR t N k) k) N t.arcs k ((subR t N k).ms,(subR t N k).ars) 9
theorem done_or (t : FstD) (N : Nat) : (∃ k,DoneK t N k) \/ ∃ k,FailK t N k:=by
 have h200 : ∃ k,k <= 200 /\ ¬ (k < (subR t N k).ms.length /\ (subR t N k).ms.length <= 200):=⟨200,Nat.le_refl _,by omega⟩
 obtain ⟨k0,_,hk0⟩:=h200
 obtain ⟨k,_,h1,h2⟩:=first_not (fun k => k < (subR t N k).ms.length /\ (subR t N k).ms.length <= 200) k0 hk0
 by_cases hlt : k < (subR t N k).ms.length
 ·exact Or.inr ⟨k,h2,hlt,by omega⟩
 ·refine Or.inl ⟨k,h2,?_⟩
  cases k with
  | zero =>
   have : (subR t N 0).ms.length = 1:=rfl
   omega
  | succ k =>
   have:=h2 k (by omega)
   have:=(subR_grow t N k).1
   omega
theorem done_unique {t : FstD} {N k k' : Nat} (h : DoneK t N k) (h' : DoneK t N k') : k = k':=by
 by_cases h1 : k < k'
 ·have:=h'.1 k h1; have:=h.2; omega
 ·by_cases h2 : k' < k
  ·have:=h.1 k' h2; have:=h'.2; omega
  ·omega
theorem done_fail {t : FstD} {N k k' : Nat} (h : DoneK t N k) (h' : FailK t N k') : False:=by
 by_cases h1 : k < k'
 ·have:=h'.1 k h1; have:=h.2; omega
 ·by_cases h2 : k' < k
  ·have:=h.1 k' h2; have:=h'.2; omega
  ·obtain rfl : k = k':=by omega
   have:=h.2; have:=h'.2; omega
def subG (t : FstD) (N k : Nat) : FstD:=⟨(k : Int),0,(subR t N k).fin,(subR t N k).ars⟩
def detX (t : FstD) (N k : Nat) : FstD:=if gI (toD (subG t N k)) 0 = -1 then subG t N k else earlyD (subG t N k)
def ManyD (t : FstD) (s0 : Nat) : Prop:=∃ L : List (List Int),L.Nodup /\ (∀ u ∈ L,Alive t s0 u) /\ 200 < L.length
section
variable {f t : FstD} {N s0 K : Nat}
theorem DoneK.sub (h : DoneK t N K) (hi : SubIn t N s0) : Sub t N s0 K (subG t N K) (subR t N K).ms /\ 1 <= K /\ K <= 200:=by
 have hK : K <= 200:=by
  cases K with
  | zero => omega
  | succ k => have:=h.1 k (by omega); omega
 have hs:=subR_sub hi.wt hi.hs hi.sta (show K <= 300 by omega) (fun j hj => (h.1 j hj).1) h.2.symm
 exact ⟨hs,hs.k0,hK⟩
theorem FailK.many (h : FailK t N K) (hi : SubIn t N s0) : ManyD t s0:=by
 have hK : K <= 200:=by
  cases K with
  | zero => omega
  | succ k => have:=h.1 k (by omega); omega
 have hlen : (subR t N K).ms.length <= 300:=by
  cases K with
  | zero =>
   have : (subR t N 0).ms.length = 1:=rfl
   omega
  | succ k =>
   have h1:=h.1 k (by omega)
   have h2:=(subR_grow t N k).2
   omega
 have hp:=(subR_part hi.wt hi.hs hi.sta K (by omega) (fun j hj => (h.1 j hj).1)).1
 obtain ⟨L,h1,h2,h3,_⟩:=Part.words (g:=subG t N K) hp hi hlen (subR t N K).ms.length (Nat.le_refl _)
 exact ⟨L,h2,h3,by have:=h.2.2; omega⟩
theorem DoneK.count (h : DoneK t N K) (hT : Sc.TrimIn f t N s0) : ∃ cnt rk : Nat -> Nat,CntOk (edgesE (subG t N K).arcs) cnt /\ (∀ e ∈ edgesE (subG t N K).arcs,rk e.2 < rk e.1) /\ (200 < cnt 0 ↔ ManyD t s0) /\ cnt 0 <= 201:=by
 obtain ⟨hs,_,hK⟩:=h.sub hT.sin
 obtain ⟨r,M,hM,hr⟩:=hT.rank
 have hrk:=hs.rank hT.sin (by omega) (r:=fun n => M - r n) (fun e he => by
  have h1:=hr e he
  have h2:=hM e.2
  show M - r e.2 < M - r e.1
  omega)
 obtain ⟨L,h1,h2,h3⟩:=hs.begs hT.sin (by omega) hrk
 refine ⟨_,_,cntF_ok hrk,hrk,⟨fun hlt => ⟨L,h1,fun u hu => (h2 u).1 hu,by omega⟩,?_⟩,by omega⟩
 rintro ⟨L',h4,h5,h6⟩
 have:=nodup_sub L' L h4 (fun u hu => (h2 u).2 (h5 u hu))
 omega
theorem empty_sub {K : Nat} (h : Sub ⟨1,0,[-1],[]⟩ N s0 K (subG ⟨1,0,[-1],[]⟩ N K) (subR ⟨1,0,[-1],[]⟩ N K).ms) (hi : SubIn ⟨1,0,[-1],[]⟩ N s0) (hK : K <= 300) : (subG ⟨1,0,[-1],[]⟩ N K).arcs = [] /\ ∀ y ∈ (subG ⟨1,0,[-1],[]⟩ N K).final,y = -1:=by
 have hlen:=h.len
 constructor
 ·apply List.eq_nil_iff_forall_not_mem.2
  intro a ha
  obtain ⟨k,l,i,t',_,h9,h1,h2,h3,rfl⟩:=h.part.is a ha
  have hk:=(List.getElem?_eq_some_iff.1 h1).1
  apply h2
  refine (cheapD_none (behL_len _ _ _ _) (nxt_pr (N:=N) hi.wt h.part.bd h1 (by omega) i)).2 fun n hn => ?_
  unfold behL gI
  simp [List.getD,hn]
 ·intro y hy
  obtain ⟨k,hk,rfl⟩:=List.mem_iff_getElem.1 hy
  have hkm : k < (subR ⟨1,0,[-1],[]⟩ N K).ms.length:=by have:=h.flen; omega
  have e:=h.fin k _ (List.getElem?_eq_getElem hkm)
  have e2 : gI (subG ⟨1,0,[-1],[]⟩ N K).final k = (subG ⟨1,0,[-1],[]⟩ N K).final[k]:=by unfold gI; rw [List.getD_eq_getElem?_getD,List.getElem?_eq_getElem hk,Option.getD_some]
  rw [<- e2,e]
  rcases ownEnd_what hi.flen hi.fin (h.row hK (List.getElem?_eq_getElem hkm)) with ⟨e3,_⟩ | ⟨_,⟨s,hs,_,h2,_⟩,_⟩
  ·exact e3
  ·exfalso
   have hs1 : s < 1:=by have:=hi.flen; simp at this; omega
   obtain rfl : s = 0:=by omega
   have : gI ([-1] : List Int) 0 = -1:=rfl
   rw [this] at h2
   omega
theorem DetOut.up {x : FstD} (h : DetOut t s0 K x) (hT : Sc.TrimIn f t N s0) : DetOut f f.start.toNat K x:=by
 have ha:=hT.all
 exact ⟨h.st,h.sta,h.flen,fun y hy => by
  rcases h.fin y hy with e | e
  ·exact Or.inl e
  ·right; omega,fun a hm => by
  obtain ⟨h1,h2,h3,h4,h5⟩:=h.arcs a hm
  exact ⟨h1,h2,h3,h4,by omega⟩,h.ord,h.rank,fun l y hb => h.best l y (hT.best l y hb)⟩
theorem earlyD_len (g : FstD) : (earlyD g).arcs.length = g.arcs.length:=by
 unfold earlyD movD
 simp
theorem DoneK.out (h : DoneK t N K) (hT : Sc.TrimIn f t N s0) : DetOut f f.start.toNat K (detX t N K) /\ (detX t N K).arcs.length = (subG t N K).arcs.length /\ (subG t N K).arcs.length <= 3000:=by
 obtain ⟨hs,hK1,hK⟩:=h.sub hT.sin
 obtain ⟨r,M,hM,hr⟩:=hT.rank
 have hrk:=hs.rank hT.sin (by omega) (r:=fun n => M - r n) (fun e he => by
  have h1:=hr e he
  have h2:=hM e.2
  show M - r e.2 < M - r e.1
  omega)
 have hlen : (subG t N K).arcs.length <= 3000:=by
  have : (subR t N K).ars.length <= 9 * K:=subR_ars t N K
  show (subR t N K).ars.length <= 3000
  omega
 have hG:=hs.gin hT.sin (by omega)
 rcases hT.live with hl | he
 ·have hlv : ∀ k,k < K -> 0 <= gI (toD (subG t N K)) k:=fun k hk => hs.live hT.sin (by omega) hl hk
  have h0:=hlv 0 (by omega)
  have hx : detX t N K = earlyD (subG t N K):=by unfold detX; rw [if_neg (by omega)]
  rw [hx]
  exact ⟨(hs.early hT.sin (by omega) hlv hrk hr).up hT,earlyD_len _,hlen⟩
 ·have he':=he
  subst he
  obtain ⟨e1,e2⟩:=empty_sub hs hT.sin (by omega)
  have hto : gI (toD (subG ⟨1,0,[-1],[]⟩ N K)) 0 = -1:=by
   rcases hG.to 0 with ⟨e,_⟩ | ⟨_,⟨v,k,z,_,h2,_⟩,_⟩
   ·exact e
   ·exfalso
    have hk : k < K:=by
     by_cases hlt : k < K
     ·exact hlt
     ·rw [gI_out (by rw [hG.flen]; omega)] at h2; omega
    have:=e2 _ (gI_mem (c:=(subG ⟨1,0,[-1],[]⟩ N K).final) (s:=k) (by rw [hG.flen]; exact hk))
    omega
  have hx : detX ⟨1,0,[-1],[]⟩ N K = subG ⟨1,0,[-1],[]⟩ N K:=by unfold detX; rw [if_pos hto]
  rw [hx]
  refine ⟨DetOut.up (t:=⟨1,0,[-1],[]⟩) (N:=N) ⟨hs.st,hs.sta,hs.flen,fun y hy => Or.inl (e2 y hy),fun a ha => ?_,hs.part.ord,⟨_,hrk⟩,fun l y hb => hs.best hT.sin (by omega) hb⟩ hT,rfl,hlen⟩
  rw [e1] at ha
  cases ha
theorem allD_most (hi : SubIn t N s0) (hm : t.arcs.length <= 3000) : allD t <= 3001000000000:=by
 have h1 : ∀ l : List ArcD,(∀ a ∈ l,a.wt <= 1000000000) -> sumW l <= 1000000000 * (l.length : Int):=by
  intro l
  induction l with
  | nil => intro _; simp [sumW]
  | cons a l ih =>
   intro h
   have:=ih (fun b hb => h b (List.mem_cons_of_mem _ hb))
   have:=h a List.mem_cons_self
   rw [sumW_cons,List.length_cons]
   omega
 have h2:=h1 t.arcs (fun a ha => (hi.wt a ha).2)
 have h3 : mostF t.final <= 1000000000:=Sc.mostF_le (by decide) fun x hx => by rcases hi.fin x hx with e | e <;> omega
 unfold allD
 omega
theorem DoneK.nums (h : DoneK t N K) (hT : Sc.TrimIn f t N s0) : (∀ x ∈ (subG t N K).final,x = -1 \/ (0 <= x /\ x <= 4000000000000)) /\ (∀ a ∈ (subG t N K).arcs,(0 <= a.src /\ a.src < K) /\ (0 <= a.dst /\ a.dst < K) /\ (0 <= a.wt /\ a.wt <= 4000000000000)) /\ (∀ s,gI (toD (subG t N K)) s <= 4000000000000) /\
  (gI (toD (subG t N K)) 0 ≠ -1 -> (∀ a ∈ (subG t N K).arcs,0 <= (movA (toD (subG t N K)) a).wt /\ (movA (toD (subG t N K)) a).wt <= 4000000000000) /\ ∀ s,gI (toD (backF (subG t N K))) s <= 4000000000000):=by
 obtain ⟨hs,hK1,hK⟩:=h.sub hT.sin
 have hG:=hs.gin hT.sin (by omega)
 obtain ⟨r,M,hM,hr⟩:=hT.rank
 have hrk:=hs.rank hT.sin (by omega) (r:=fun n => M - r n) (fun e he => by
  have h1:=hr e he
  have h2:=hM e.2
  show M - r e.2 < M - r e.1
  omega)
 have hmany : t.arcs.length <= 3000:=(fine_of hT.chk).many
 have hall:=allD_most hT.sin hmany
 have hlenms:=hs.len
 have htl : (toD (subG t N K)).length = K:=by unfold toD; rw [rounds_len,hs.flen]
 have hto : ∀ s,gI (toD (subG t N K)) s <= 4000000000000:=fun s => by
  by_cases hs1 : s < K
  ·have:=hs.to_cap hT.sin (by omega) hr hs1; omega
  ·rw [gI_out (by omega)]; omega
 refine ⟨fun x hx => ?_,fun a ha => ?_,hto,fun h0 => ?_⟩
 ·obtain ⟨k,hk,rfl⟩:=List.mem_iff_getElem.1 hx
  have hkm : k < (subR t N K).ms.length:=by have:=hs.flen; omega
  have e:=hs.fin k _ (List.getElem?_eq_getElem hkm)
  have e2 : gI (subG t N K).final k = (subG t N K).final[k]:=by unfold gI; rw [List.getD_eq_getElem?_getD,List.getElem?_eq_getElem hk,Option.getD_some]
  have hrow:=hs.row (show K <= 300 by omega) (List.getElem?_eq_getElem hkm)
  rw [<- e2,e]
  rcases ownEnd_what hT.sin.flen hT.sin.fin hrow with ⟨e3,_⟩ | ⟨e3,⟨s,hs1,h2,h3,h4⟩,_⟩
  ·exact Or.inl e3
  ·right
   have h5:=hrow s
   have h6:=hT.sin.fin _ (gI_mem (c:=t.final) (s:=s) (by rw [hT.sin.flen]; exact hs1))
   omega
 ·have h1:=hG.arcs a ha
  refine ⟨h1.1,h1.2.1,h1.2.2,?_⟩
  obtain ⟨k,l,i,t',_,h9,e1,e2,e3,rfl⟩:=hs.part.is a ha
  have hk:=(List.getElem?_eq_some_iff.1 e1).1
  have hpr:=nxt_pr (N:=N) hT.sin.wt hs.part.bd e1 (by omega) i
  rcases cheapD_what _ hpr with ⟨e,_⟩ | ⟨_,e5,_⟩
  ·exact absurd e e2
  ·have:=hpr _ e5
   dsimp only
   omega
 ·rcases hT.live with hl | he
  ·have hlv : ∀ k,k < K -> 0 <= gI (toD (subG t N K)) k:=fun k hk => hs.live hT.sin (by omega) hl hk
   refine ⟨fun a ha => ?_,fun s => ?_⟩
   ·have h1:=hG.moved hlv ha
    have hb:=hG.arcs a ha
    have h2:=hs.arc_cap hT.sin (by omega) hr ha (hlv a.dst.toNat (by omega))
    omega
   ·obtain ⟨hB,h2⟩:=hs.back hT.sin (by omega) hlv hrk
    by_cases hs1 : s < K
    ·rw [h2 s hs1]
     split <;> omega
    ·have htl2 : (toD (backF (subG t N K))).length = K:=by unfold toD; rw [rounds_len,hB.flen]
     rw [gI_out (by omega)]
     omega
  ·exfalso
   subst he
   obtain ⟨e1,e2⟩:=empty_sub hs hT.sin (by omega)
   rcases hG.to 0 with ⟨e,_⟩ | ⟨_,⟨v,k,z,_,h2,_⟩,_⟩
   ·exact h0 e
   ·have hk : k < K:=by
     by_cases hlt : k < K
     ·exact hlt
     ·rw [gI_out (by rw [hG.flen]; omega)] at h2; omega
    have:=e2 _ (gI_mem (c:=(subG ⟨1,0,[-1],[]⟩ N K).final) (s:=k) (by rw [hG.flen]; exact hk))
    omega
end
end Go.Proofs.Yteehgcbjmdideab
/- The words of one that is trimmed,as a tree of beginnings: what stays true while it grows. -/
namespace Go.Proofs.Yteehgcbjmdideab
section
variable {t : FstD} {N s0 : Nat} {ws cs : List (List Int)} {ps ls : List Int} {i c : Nat}
end
end Go.Proofs.Yteehgcbjmdideab
/- What 'WordsOf' has in memory: the transducer,the rows of costs,parents and letters; what grows,and what stays. -/
namespace Go.Proofs.Yteehgcbjmdideab
open Go.RowKit
section
variable {w0 wr wx : World} {Q N : Nat} {sta : Int} {fin arcs cv pv lv vC vP vL v' : Value} {LC : List Value} {cs : List (List Int)} {LP LL : List Int}
end
end Go.Proofs.Yteehgcbjmdideab
/- What 'WordsOf' has in hand while rows grow: literals,the row that is next; three operations that may come up. -/
namespace Go.Proofs.Yteehgcbjmdideab
open Go.RowKit
open Go
section
variable {W Wx : World} {Q N b G : Nat} {u vC vP vL v' : Value} {V : List Int}
end
end Go.Proofs.Yteehgcbjmdideab
/- The program's search,where weights may be great. (Made by wip/gen/bg.py out of CostM.) -/
namespace Go.Proofs.Yteehgcbjmdideab.Bg
def muI (x : Int) : Nat:=if x < 0 then 10000000000000000000 else x.toNat
def muL (c : List Int) : Nat:=(c.map muI).sum
structure Inv (E : List Edg) (b c y : List Int) : Prop where
 len : c.length = b.length
 ylen : y.length = b.length
 ach : Ach E b c
 le : LeC c b
 lo : ∀ v,-1 <= gI c v
 hi : ∀ v,gI c v <= 10000000000000 * (1 + (metL c : Int))
 by_ : ∃ r R,(∀ x,r x <= R) /\ ByOk E b c y r
section
variable {E : List Edg} {b c y : List Int}
theorem Inv.top (h : Inv E b c y) (hn : b.length <= 200) (v : Nat) : gI c v <= 2010000000000000:=by
 have h1:=h.hi v
 have h2:=metL_le c
 have h3:=h.len
 omega
theorem Inv.topK (h : Inv E b c y) (hn : b.length <= 400000) (v : Nat) : gI c v <= 4000010000000000000:=by
 have h1:=h.hi v
 have h2:=metL_le c
 have h3:=h.len
 omega
theorem Inv.start (hb : ∀ v,gI b v = -1 \/ 0 <= gI b v) (hm : ∀ v,gI b v <= 10000000000000) : Inv E b b (List.replicate b.length (-1)) where
 len:=rfl
 ylen:=by simp
 ach:=fun v => (hb v).imp id fun h => ⟨0,rfl,h⟩
 le:=LeC.refl _
 lo:=fun v => by rcases hb v with h | h <;> omega
 hi:=fun v => by have:=hm v; omega
 by_:=⟨fun _ => 0,0,fun _ => Nat.le_refl _,fun v hv => Or.inl ⟨by simp [gI,List.getD,hv],rfl⟩⟩
theorem Inv.step {j : Nat} {e : Edg} (h : Inv E b c y) (hbn : b.length <= 400000) (hj : E[j]? = some e) (hv : e.v < b.length) (hw0 : 0 <= e.w) (hw1 : e.w <= 10000000000000)
  (hbt : betterB (plusC (gI c e.u) e.w) (gI c e.v) = true) :
  Inv E b (c.set e.v (plusC (gI c e.u) e.w)) (y.set e.v (j : Int)) /\ muL (c.set e.v (plusC (gI c e.u) e.w)) < muL c:=by
 have hvc : e.v < c.length:=by have:=h.len; omega
 have hvy : e.v < y.length:=by have:=h.ylen; omega
 have he : e ∈ E:=List.mem_of_getElem? hj
 obtain ⟨hp0,hbet⟩:=(better_iff (plusC_lo _ _) (h.lo _)).1 hbt
 have hcu : 0 <= gI c e.u:=by
  unfold plusC at hp0
  split at hp0
  ·omega
  ·rename_i hh; omega
 have hp : plusC (gI c e.u) e.w = gI c e.u + e.w:=by unfold plusC; rw [if_neg (by omega)]
 have hrel : c.set e.v (plusC (gI c e.u) e.w) = relE c e:=by
  rw [<- progE_eq c e h.lo]
  unfold progE
  rw [if_pos hbt]
 have hne : e.u ≠ e.v:=by
  intro hh
  rw [hh] at hp hcu
  rw [hh,hp] at hbet
  omega
 have hset : ∀ x,gI (c.set e.v (plusC (gI c e.u) e.w)) x = if x = e.v then gI c e.u + e.w else gI c x:=fun x => by rw [gI_set _ _ _ _ hvc,hp]
 have hyset : ∀ x,gI (y.set e.v (j : Int)) x = if x = e.v then (j : Int) else gI y x:=fun x => gI_set _ _ _ _ hvy
 have hmet:=sum_set (fun x => if x < 0 then 0 else 1) c e.v (plusC (gI c e.u) e.w) hvc
 have hmu:=sum_set muI c e.v (plusC (gI c e.u) e.w) hvc
 change metL (c.set e.v (plusC (gI c e.u) e.w)) + _ = metL c + _ at hmet
 change muL (c.set e.v (plusC (gI c e.u) e.w)) + _ = muL c + _ at hmu
 rw [if_neg (by omega : ¬ plusC (gI c e.u) e.w < 0)] at hmet
 have htop:=h.hi e.u
 refine ⟨⟨by simpa using h.len,by simpa using h.ylen,?_,?_,?_,?_,?_⟩,?_⟩
 ·rw [hrel]; exact relE_ach he hvc h.ach
 ·rw [hrel]; exact (relE_le c e hvc).trans h.le
 ·intro x
  rw [hset]
  split
  ·omega
  ·exact h.lo x
 ·intro x
  rw [hset]
  have hx:=h.hi x
  by_cases hn : gI c e.v < 0
  ·rw [if_pos hn] at hmet
   split <;> omega
  ·rw [if_neg hn] at hmet
   have:=h.hi e.v
   split <;> omega
 ·obtain ⟨r,R,hR,hby⟩:=h.by_
  refine ⟨fun x => if x = e.v then R + 1 else r x,R + 1,fun x => ?_,fun v hv' => ?_⟩
  ·show (if x = e.v then R + 1 else r x) <= R + 1
   split
   ·exact Nat.le_refl _
   ·have:=hR x; omega
  ·rw [hset,hyset]
   by_cases hve : v = e.v
   ·subst hve
    right
    rw [if_pos rfl,if_pos rfl]
    refine ⟨j,e,rfl,hj,rfl,?_⟩
    rw [hset,if_neg hne]
    simp only [hne,if_true,if_false]
    have:=hR e.u
    refine ⟨hcu,by omega,by omega,fun _ => by omega⟩
   ·rw [if_neg hve,if_neg hve]
    rcases hby v (by simpa using hv') with hl | ⟨j',e',h1,h2,h3,h4,h5,h6,h7⟩
    ·exact Or.inl hl
    ·right
     refine ⟨j',e',h1,h2,h3,?_⟩
     rw [hset]
     by_cases hue : e'.u = e.v
     ·rw [if_pos hue]
      rw [hue] at h4 h6
      refine ⟨by omega,h5,by omega,fun hh => by omega⟩
     ·rw [if_neg hue]
      refine ⟨h4,h5,h6,fun hh => ?_⟩
      have:=h7 hh
      simp only [hue,if_false,hve]
      exact this
 ·have hmu1 : muI (plusC (gI c e.u) e.w) < muI (gI c e.v):=by
   unfold muI
   rw [if_neg (by omega)]
   by_cases hn : gI c e.v < 0
   ·rw [if_pos hn]
    have:=h.topK hbn e.u
    omega
   ·rw [if_neg hn]; omega
  omega
end
end Go.Proofs.Yteehgcbjmdideab.Bg
