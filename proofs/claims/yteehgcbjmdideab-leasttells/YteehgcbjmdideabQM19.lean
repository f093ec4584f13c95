/- The subsets of states: one row for each,and what is read leads to one of them. -/
import Derived.Test.YteehgcbjmdideabQM18
import Derived.Test.YteehgcbjmdideabQM02
import Derived.Test.YteehgcbjmdideabQM01
import Derived.Sort.Grow
namespace Go.Proofs.Yteehgcbjmdideab
theorem nodup_at {α : Type} {l : List α} (h : l.Nodup) {i j : Nat} {x : α} (hi : l[i]? = some x) (hj : l[j]? = some x) : i = j:=by
 induction l generalizing i j with
 | nil => simp at hi
 | cons a t ih =>
  rw [List.nodup_cons] at h
  cases i with
  | zero =>
   cases j with
   | zero => rfl
   | succ j =>
    rw [List.getElem?_cons_zero] at hi
    rw [List.getElem?_cons_succ] at hj
    injection hi with hi
    subst hi
    exact absurd (List.mem_of_getElem? hj) h.1
  | succ i =>
   cases j with
   | zero =>
    rw [List.getElem?_cons_zero] at hj
    rw [List.getElem?_cons_succ] at hi
    injection hj with hj
    subst hj
    exact absurd (List.mem_of_getElem? hi) h.1
   | succ j =>
    rw [List.getElem?_cons_succ] at hi hj
    rw [ih h.2 hi hj]
def nxtL (f : FstD) (N : Nat) (l : List Int) (i : Nat) : List Int:=behL (l.take N) N f.arcs i
structure Part (f : FstD) (N s0 : Nat) (ms : List (List Int)) (ars : List ArcD) (k i : Nat) : Prop where
 zero : ms[0]? = some (padL (onlyL N s0))
 nd : ms.Nodup
 bd : SubB ms
 arc : ∀ (k' : Nat) (l : List Int) (i' : Nat),(k' < k \/ (k' = k /\ i' < i)) -> i' < 9 -> ms[k']? = some l -> cheapD (nxtL f N l i') ≠ -1 -> ∃ t : Nat,ms[t]? = some (padL (nxtL f N l i')) /\ (⟨(k' : Int),(i' : Int) + 1,(i' : Int) + 1,(t : Int),cheapD (nxtL f N l i')⟩ : ArcD) ∈ ars
 is : ∀ a ∈ ars,∃ (k' : Nat) (l : List Int) (i' t : Nat),(k' < k \/ (k' = k /\ i' < i)) /\ i' < 9 /\ ms[k']? = some l /\ cheapD (nxtL f N l i') ≠ -1 /\ ms[t]? = some (padL (nxtL f N l i')) /\ a = ⟨(k' : Int),(i' : Int) + 1,(i' : Int) + 1,(t : Int),cheapD (nxtL f N l i')⟩
 ord : ars.Pairwise (fun a b => a.src < b.src \/ (a.src = b.src /\ a.inp < b.inp))
 come : ∀ t : Nat,0 < t -> t < ms.length -> ∃ a ∈ ars,a.dst = (t : Int) /\ a.src < (t : Int)
theorem meetL_ext (ms : List (List Int)) (l : List Int) {k : Nat} {m : List Int} (h : ms[k]? = some m) : (meetL ms l)[k]? = some m:=by
 unfold meetL
 split
 ·exact h
 ·rw [List.getElem?_append_left (List.getElem?_eq_some_iff.1 h).1]
  exact h
theorem meetL_nd {ms : List (List Int)} {l : List Int} (h : ms.Nodup) : (meetL ms l).Nodup:=by
 unfold meetL
 split
 ·exact h
 ·rename_i hn
  rw [List.nodup_append]
  refine ⟨h,by simp,fun a ha b hb e => ?_⟩
  have : b = l:=by simpa using hb
  subst this
  rw [e] at ha
  exact hn ha
theorem row_prices {ms : List (List Int)} (h : SubB ms) {k : Nat} {l : List Int} (hk : ms[k]? = some l) (N : Nat) : ∀ s,gI (l.take N) s = -1 \/ (0 <= gI (l.take N) s /\ gI (l.take N) s <= (k : Int) * 1000000000):=by
 intro s
 unfold gI
 rw [List.getD_eq_getElem?_getD]
 rcases e : (l.take N)[s]? with _ | x
 ·exact Or.inl rfl
 ·rw [Option.getD_some]
  exact (h k l hk).2 x (List.mem_of_mem_take (List.mem_of_getElem? e))
section
variable {f : FstD} {N s0 : Nat} {ms : List (List Int)} {ars : List ArcD} {k i : Nat} {l : List Int}
theorem nxt_bound (hw : ∀ a ∈ f.arcs,0 <= a.wt /\ a.wt <= 1000000000) (h : SubB ms) (hk : ms[k]? = some l) (i : Nat) : ∀ x ∈ nxtL f N l i,x = -1 \/ (0 <= x /\ x <= (k : Int) * 1000000000 + 1000000000) :=
 behL_bound (row_prices h hk N) hw i
theorem nxt_pr (hw : ∀ a ∈ f.arcs,0 <= a.wt /\ a.wt <= 1000000000) (h : SubB ms) (hk : ms[k]? = some l) (hk2 : k <= 300) (i : Nat) : PrOk (nxtL f N l i):=fun x hx => by
 have:=nxt_bound (N:=N) hw h hk i x hx
 omega
theorem Part.letter (hw : ∀ a ∈ f.arcs,0 <= a.wt /\ a.wt <= 1000000000) (h : Part f N s0 ms ars k i) (hk : ms[k]? = some l) (hk2 : k <= 300) (hi : i < 9) :
  Part f N s0 (letS (l.take N) N f.arcs k i (ms,ars)).1 (letS (l.take N) N f.arcs k i (ms,ars)).2 k (i + 1):=by
 have hkl:=(List.getElem?_eq_some_iff.1 hk).1
 unfold letS
 by_cases hc : cheapD (nxtL f N l i) = -1
 ·rw [if_pos (show cheapD (behL (l.take N) N f.arcs i) = -1 from hc)]
  refine ⟨h.zero,h.nd,h.bd,fun k' l' i' hlt hi9 hk' hc' => ?_,fun a ha => ?_,h.ord,h.come⟩
  ·by_cases e : k' = k /\ i' = i
   ·obtain ⟨rfl,rfl⟩:=e
    have : l' = l:=by rw [hk'] at hk; injection hk
    subst this
    exact absurd hc hc'
   ·exact h.arc k' l' i' (by omega) hi9 hk' hc'
  ·obtain ⟨k',l',i',t,hlt,r⟩:=h.is a ha
   exact ⟨k',l',i',t,by omega,r⟩
 ·rw [if_neg (show ¬ cheapD (behL (l.take N) N f.arcs i) = -1 from hc)]
  dsimp only
  obtain ⟨p,hp⟩ : ∃ p,p = padL (nxtL f N l i):=⟨_,rfl⟩
  obtain ⟨c,hcd⟩ : ∃ c,c = cheapD (nxtL f N l i):=⟨_,rfl⟩
  have e1 : padL (behL (l.take N) N f.arcs i) = p:=by rw [hp]; rfl
  have e2 : cheapD (behL (l.take N) N f.arcs i) = c:=by rw [hcd]; rfl
  rw [e1,e2]
  have hat:=idxL_at (meetL_mem ms p)
  obtain ⟨t,ht⟩ : ∃ t,t = idxL (meetL ms p) p:=⟨_,rfl⟩
  rw [<- ht] at hat ⊢
  refine ⟨meetL_ext _ _ h.zero,meetL_nd h.nd,?_,fun k' l' i' hlt hi9 hk' hc' => ?_,fun a ha => ?_,?_,fun t' h0 hlt => ?_⟩
  ·refine meetL_B h.bd hkl (by rw [hp]; exact padL_len _) ?_
   rw [hp]
   exact padL_bound (nxt_bound hw h.bd hk i) (by omega) hc
  ·have hold : k' < k \/ (k' = k /\ i' < i) \/ (k' = k /\ i' = i):=by omega
   have hk'' : ms[k']? = some l':=by
    have h1 : k' < ms.length:=by omega
    rw [<- hk',List.getElem?_eq_getElem h1]
    exact (meetL_ext ms p (List.getElem?_eq_getElem h1)).symm
   by_cases e : k' = k /\ i' = i
   ·obtain ⟨rfl,rfl⟩:=e
    have : l' = l:=by rw [hk''] at hk; injection hk
    subst this
    refine ⟨t,?_,List.mem_append_right _ ?_⟩
    ·rw [<- hp]; exact hat
    ·rw [<- hcd]; exact List.mem_singleton.2 rfl
   ·obtain ⟨t',h1,h2⟩:=h.arc k' l' i' (by omega) hi9 hk'' hc'
    exact ⟨t',meetL_ext _ _ h1,List.mem_append_left _ h2⟩
  ·rcases List.mem_append.1 ha with ha | ha
   ·obtain ⟨k',l',i',t',hlt,h9,h1,h2,h3,h4⟩:=h.is a ha
    exact ⟨k',l',i',t',by omega,h9,meetL_ext _ _ h1,h2,meetL_ext _ _ h3,h4⟩
   ·have : a = ⟨(k : Int),(i : Int) + 1,(i : Int) + 1,(t : Int),c⟩:=by simpa using ha
    exact ⟨k,l,i,t,by omega,hi,meetL_ext _ _ hk,hc,by rw [<- hp]; exact hat,by rw [this,hcd]⟩
  ·rw [List.pairwise_append]
   refine ⟨h.ord,by simp,fun a ha b hb => ?_⟩
   have hbe : b = ⟨(k : Int),(i : Int) + 1,(i : Int) + 1,(t : Int),c⟩:=by simpa using hb
   obtain ⟨k',l',i',t',hlt,h9,h1,h2,h3,h4⟩:=h.is a ha
   rw [hbe,h4]
   dsimp only
   omega
  ·by_cases e : t' < ms.length
   ·obtain ⟨a,ha,h1⟩:=h.come t' h0 e
    exact ⟨a,List.mem_append_left _ ha,h1⟩
   ·have hm:=meetL_len ms p
    have hnd:=meetL_nd (l:=p) h.nd
    have hpm : p ∉ ms:=fun hin => by
     have : meetL ms p = ms:=by unfold meetL; rw [if_pos hin]
     rw [this] at hlt
     omega
    have hm2 : meetL ms p = ms ++ [p]:=by unfold meetL; rw [if_neg hpm]
    have hte : t = ms.length:=by
     rw [hm2] at hat
     by_cases e3 : t < ms.length
     ·rw [List.getElem?_append_left e3] at hat
      exact absurd (List.mem_of_getElem? hat) hpm
     ·have:=(List.getElem?_eq_some_iff.1 hat).1
      rw [List.length_append,List.length_singleton] at this
      omega
    refine ⟨_,List.mem_append_right _ (List.mem_singleton.2 rfl),?_,?_⟩
    ·show ((t : Nat) : Int) = _
     omega
    ·show ((k : Nat) : Int) < _
     omega
theorem Part.next (h : Part f N s0 ms ars k 9) : Part f N s0 ms ars (k + 1) 0 :=
 ⟨h.zero,h.nd,h.bd,fun k' l i' hlt hi => h.arc k' l i' (by omega) hi,fun a ha => by
  obtain ⟨k',l,i',t,hlt,r⟩:=h.is a ha
  exact ⟨k',l,i',t,by omega,r⟩,h.ord,h.come⟩
theorem letsN_ext (at' : List Int) (ars' : List ArcD) (k : Nat) (S : List (List Int) × List ArcD) {j : Nat} {m : List Int} (h : S.1[j]? = some m) : ∀ i,(letsN at' N ars' k i S).1[j]? = some m
 | 0 => h
 | i + 1 => by
  unfold letsN letS
  split
  ·exact letsN_ext at' ars' k S h i
  ·exact meetL_ext _ _ (letsN_ext at' ars' k S h i)
theorem Part.letters (hw : ∀ a ∈ f.arcs,0 <= a.wt /\ a.wt <= 1000000000) (h : Part f N s0 ms ars k 0) (hk : ms[k]? = some l) (hk2 : k <= 300) :
  ∀ i,i <= 9 -> Part f N s0 (letsN (l.take N) N f.arcs k i (ms,ars)).1 (letsN (l.take N) N f.arcs k i (ms,ars)).2 k i
 | 0,_ => h
 | i + 1,hi => (h.letters hw hk hk2 i (by omega)).letter hw (letsN_ext _ _ _ _ hk i) hk2 (by omega)
theorem subR_ext (f : FstD) (N : Nat) {k j : Nat} {m : List Int} (h : (subR f N k).ms[j]? = some m) : (subR f N (k + 1)).ms[j]? = some m:=letsN_ext _ _ _ _ h 9
theorem subR_part (hw : ∀ a ∈ f.arcs,0 <= a.wt /\ a.wt <= 1000000000) (hs : s0 < N) (hsta : f.start = (s0 : Int)) : ∀ k,k <= 300 -> (∀ j,j < k -> j < (subR f N j).ms.length) ->
  Part f N s0 (subR f N k).ms (subR f N k).ars k 0 /\ ∀ (k' : Nat) (l : List Int),k' < k -> (subR f N k).ms[k']? = some l -> gI (subR f N k).fin k' = ownEnd f (l.take N)
 | 0,_,_ => by
  refine ⟨⟨?_,?_,?_,fun k' l i' hlt => (by omega),fun a ha => (by cases ha),List.Pairwise.nil,fun t h0 hlt => ?_⟩,fun k' l hlt => by omega⟩
  ·show some (padL ((List.replicate N (-1)).set f.start.toNat 0)) = _
   rw [hsta]
   rfl
  ·show List.Nodup [_]
   simp
  ·have:=subB_zero hs
   show SubB [padL ((List.replicate N (-1)).set f.start.toNat 0)]
   rw [hsta]
   exact this
  ·have : t < 1:=hlt
   omega
 | k + 1,hk,hp => by
  obtain ⟨ih,ihf⟩:=subR_part hw hs hsta k (by omega) (fun j hj => hp j (by omega))
  have hkl:=hp k (by omega)
  have hl : (subR f N k).ms[k]? = some ((subR f N k).ms[k]):=List.getElem?_eq_getElem hkl
  have hat : atS N (subR f N k) k = ((subR f N k).ms[k]).take N:=by
   unfold atS
   rw [List.getD_eq_getElem?_getD,hl]
   rfl
  refine ⟨?_,fun k' l hlt hk' => ?_⟩
  ·have:=(ih.letters hw hl (by omega) 9 (by omega)).next
   unfold subR
   rw [hat]
   exact this
  ·have hfl:=subR_fin f N k
   show gI ((subR f N k).fin ++ [ownEnd f (atS N (subR f N k) k)]) k' = _
   by_cases e : k' = k
   ·subst e
    have : (subR f N (k' + 1)).ms[k']? = some ((subR f N k').ms[k']):=subR_ext f N hl
    rw [this] at hk'
    injection hk' with hk'
    unfold gI
    rw [List.getD_eq_getElem?_getD,List.getElem?_append_right (by omega),hfl,Nat.sub_self]
    show ownEnd f (atS N (subR f N k') k') = _
    rw [hat,hk']
   ·have h1 : k' < k:=by omega
    have h2 : k' < (subR f N k).ms.length:=by omega
    have h3:=subR_ext f N (List.getElem?_eq_getElem h2)
    rw [h3] at hk'
    injection hk' with hk'
    have h4:=ihf k' _ h1 (List.getElem?_eq_getElem h2)
    rw [<- hk',<- h4]
    unfold gI
    rw [List.getD_eq_getElem?_getD,List.getD_eq_getElem?_getD,List.getElem?_append_left (by omega)]
end
structure Sub (f : FstD) (N s0 K : Nat) (g : FstD) (ms : List (List Int)) : Prop where
 st : g.states = (K : Int)
 sta : g.start = 0
 len : ms.length = K
 flen : g.final.length = K
 fin : ∀ (k : Nat) (l : List Int),ms[k]? = some l -> gI g.final k = ownEnd f (l.take N)
 part : Part f N s0 ms g.arcs K 0
theorem subR_sub {f : FstD} {N s0 K : Nat} (hw : ∀ a ∈ f.arcs,0 <= a.wt /\ a.wt <= 1000000000) (hs : s0 < N) (hsta : f.start = (s0 : Int)) (hK : K <= 300) (hp : ∀ j,j < K -> j < (subR f N j).ms.length) (hlen : (subR f N K).ms.length = K) :
  Sub f N s0 K ⟨(K : Int),0,(subR f N K).fin,(subR f N K).ars⟩ (subR f N K).ms:=by
 obtain ⟨h1,h2⟩:=subR_part hw hs hsta K hK hp
 exact ⟨rfl,rfl,hlen,subR_fin f N K,fun k l hk => h2 k l (by have:=(List.getElem?_eq_some_iff.1 hk).1; omega) hk,h1⟩
section
variable {f : FstD} {N s0 K : Nat} {g : FstD} {ms : List (List Int)}
theorem Sub.k0 (h : Sub f N s0 K g ms) : 0 < K:=by
 have:=(List.getElem?_eq_some_iff.1 h.part.zero).1
 have:=h.len
 omega
theorem pad_only {N s0 : Nat} (hs : s0 < N) (hN : N <= 200) : (padL (onlyL N s0)).take N = onlyL N s0:=by
 have hg : ∀ n,gI (onlyL N s0) n = if n = s0 then 0 else -1:=by
  intro n
  unfold onlyL
  rw [gI_set _ _ _ _ (by simpa using hs)]
  split
  ·rfl
  ·unfold gI
   by_cases hn : n < N <;> simp [List.getD,hn]
 have hp : PrOk (onlyL N s0):=fun x hx => by have:=onlyL_ok N s0 x hx; omega
 have hc : cheapD (onlyL N s0) = 0:=by
  rcases cheapD_what _ hp with ⟨e,_⟩ | ⟨e1,_,e3⟩
  ·exact absurd e (onlyL_cheap hs)
  ·have h0 : (0 : Int) ∈ onlyL N s0:=by
    unfold onlyL
    exact List.mem_iff_getElem.2 ⟨s0,by simpa using hs,by simp⟩
   have:=e3 0 h0
   omega
 apply List.ext_getElem
 ·rw [List.length_take,padL_len]
  unfold onlyL
  simp
  omega
 ·intro i h1 h2
  have hi : i < N:=by rw [List.length_take] at h1; omega
  have h3 : gI (padL (onlyL N s0)) i = gI (onlyL N s0) i:=by
   rw [padL_at _ (by omega),hc]
   split
   ·rename_i e; exact e.symm
   ·omega
  unfold gI at h3
  rw [List.getD_eq_getElem?_getD,List.getD_eq_getElem?_getD,List.getElem?_eq_getElem h2,List.getElem?_eq_getElem (by rw [padL_len]; omega)] at h3
  rw [List.getElem_take]
  exact h3
theorem Part.run {k0 i0 : Nat} (h : Part f N s0 ms g.arcs k0 i0) (hW : WideA f N) (hw : ∀ a ∈ f.arcs,0 <= a.wt /\ a.wt <= 1000000000) (hs : s0 < N) (hN : N <= 200) (hK : ms.length <= 300) : ∀ (u : List Int) (k : Nat) (c : Int),WdR g 0 u k c -> ∃ l,ms[k]? = some l /\ Enc f s0 N (l.take N) c u
 | [],k,c,hr => by
  obtain ⟨rfl,rfl⟩:=hr
  exact ⟨_,h.zero,by rw [pad_only hs hN]; exact enc_start hs⟩
 | x :: u,k,c,hr => by
  obtain ⟨a,ha,k',c',hr',hi,hsr,hd,rfl⟩:=hr
  obtain ⟨l,hl,hE⟩:=h.run hW hw hs hN hK u k' c' hr'
  obtain ⟨k2,l2,i,t,_,h9,h1,h2,h3,rfl⟩:=h.is a ha
  dsimp only at hi hsr hd ⊢
  obtain rfl : k2 = k':=by omega
  obtain rfl : t = k:=by omega
  have : l2 = l:=by rw [h1] at hl; injection hl
  subst this
  have hkK:=(List.getElem?_eq_some_iff.1 h1).1
  refine ⟨_,h3,?_⟩
  rw [<- hi]
  exact (hE.next hW hs i).pad (behL_len _ _ _ _) hN (nxt_pr hw h.bd h1 (by omega) i) h2
theorem Sub.reads (h : Sub f N s0 K g ms) (hW : WideA f N) (hA : AccD f) (hw : ∀ a ∈ f.arcs,0 <= a.wt /\ a.wt <= 1000000000) (hs : s0 < N) (hN : N <= 200) (hK : K <= 300) : ∀ (u : List Int) (n : Nat) (z : Int),WdR f s0 u n z -> ∃ k c,WdR g 0 u k c
 | [],_,_,_ => ⟨0,0,rfl,rfl⟩
 | x :: u,n,z,hr => by
  obtain ⟨a,ha,n',z',hr',hi,hsr,hd,rfl⟩:=hr
  obtain ⟨k,c,hg⟩:=h.reads hW hA hw hs hN hK u n' z' hr'
  obtain ⟨l,hl,hE⟩:=h.part.run hW hw hs hN (by rw [h.len]; exact hK) u k c hg
  have hin:=(hW a ha).2.2.2
  have h0:=(hA a ha).2
  obtain ⟨i,hie⟩ : ∃ i : Nat,a.inp = (i : Int) + 1:=⟨(a.inp - 1).toNat,by omega⟩
  have hkK:=(List.getElem?_eq_some_iff.1 hl).1
  have hlen:=h.len
  have hpr:=nxt_pr (N:=N) hw h.part.bd hl (by omega) i
  have hc : cheapD (nxtL f N l i) ≠ -1:=by
   intro e
   have hn:=(cheapD_none (behL_len _ _ _ _) hpr).1 e
   refine (hE.next hW hs i).dead hW hs hn (n:=n) (z:=z' + a.wt) ?_
   exact ⟨a,ha,n',z',hr',hie,hsr,hd,rfl⟩
  obtain ⟨t,ht,hm⟩:=h.part.arc k l i (Or.inl (by omega)) (by omega) hl hc
  exact ⟨t,_,_,hm,k,c,hg,by rw [<- hi,hie],rfl,rfl,rfl⟩
theorem Part.det {k0 i0 : Nat} (h : Part f N s0 ms g.arcs k0 i0) : ∀ (u : List Int) (k k' : Nat) (c c' : Int),WdR g 0 u k c -> WdR g 0 u k' c' -> k = k' /\ c = c'
 | [],_,_,_,_,h1,h2 => by obtain ⟨rfl,rfl⟩:=h1; obtain ⟨rfl,rfl⟩:=h2; exact ⟨rfl,rfl⟩
 | x :: u,k,k',c,c',h1,h2 => by
  obtain ⟨a,ha,m,z,hr,hi,hsr,hd,rfl⟩:=h1
  obtain ⟨b,hb,m',z',hr',hi',hsr',hd',rfl⟩:=h2
  obtain ⟨rfl,rfl⟩:=h.det u m m' z z' hr hr'
  obtain ⟨q,l,i,t,_,h9,e1,e2,e3,rfl⟩:=h.is a ha
  obtain ⟨q',l',i',t',_,h9',e1',e2',e3',rfl⟩:=h.is b hb
  dsimp only at hi hi' hsr hsr' hd hd' ⊢
  obtain rfl : q = q':=by omega
  obtain rfl : i = i':=by omega
  have : l = l':=by rw [e1] at e1'; injection e1'
  subst this
  have ht : t = t':=by
   exact nodup_at h.nd e3 e3'
  exact ⟨by omega,rfl⟩
theorem Part.comes {k0 i0 : Nat} (h : Part f N s0 ms g.arcs k0 i0) : ∀ (m k : Nat),k < m -> k < ms.length -> ∃ u c,WdR g 0 u k c
 | 0,_,hm,_ => by omega
 | m + 1,k,hm,hk => by
  by_cases e : k = 0
  ·exact ⟨[],0,e,rfl⟩
  ·obtain ⟨a,ha,hd,hsr⟩:=h.come k (by omega) hk
   obtain ⟨q,l,i,t,_,h9,e1,e2,e3,rfl⟩:=h.is a ha
   dsimp only at hd hsr
   obtain ⟨u,c,hr⟩:=h.comes m q (by omega) (by omega)
   exact ⟨((i : Int) + 1) :: u,_,_,ha,q,c,hr,rfl,rfl,hd,rfl⟩
end
end Go.Proofs.Yteehgcbjmdideab
/- What is read through the subsets costs the same; as many words as rows. -/
namespace Go.Proofs.Yteehgcbjmdideab
theorem gI_out {c : List Int} {s : Nat} (h : c.length <= s) : gI c s = -1:=by
 unfold gI
 rw [List.getD_eq_getElem?_getD,List.getElem?_eq_none h]
 rfl
theorem gI_mem {c : List Int} {s : Nat} (h : s < c.length) : gI c s ∈ c:=by
 unfold gI
 rw [List.getD_eq_getElem?_getD,List.getElem?_eq_getElem h,Option.getD_some]
 exact List.getElem_mem _
theorem ownEnd_what {f : FstD} {at' : List Int} {N : Nat} (hl : f.final.length = N) (hf : ∀ x ∈ f.final,x = -1 \/ (0 <= x /\ x <= 1000000000)) (hb : ∀ s,gI at' s = -1 \/ (0 <= gI at' s /\ gI at' s <= 300000000000)) :
  (ownEnd f at' = -1 /\ ∀ s,s < N -> gI at' s = -1 \/ gI f.final s = -1) \/
  (0 <= ownEnd f at' /\ (∃ s,s < N /\ 0 <= gI at' s /\ 0 <= gI f.final s /\ ownEnd f at' = gI at' s + gI f.final s) /\ ∀ s,s < N -> 0 <= gI at' s -> 0 <= gI f.final s -> ownEnd f at' <= gI at' s + gI f.final s):=by
 have hfin : ∀ s,s < N -> gI f.final s = -1 \/ (0 <= gI f.final s /\ gI f.final s <= 1000000000):=fun s hs => hf _ (gI_mem (by omega))
 have hpl : ∀ s,s < N -> (plusC (gI at' s) (gI f.final s) = -1 /\ (gI at' s = -1 \/ gI f.final s = -1)) \/ (plusC (gI at' s) (gI f.final s) = gI at' s + gI f.final s /\ 0 <= gI at' s /\ 0 <= gI f.final s):=by
  intro s hs
  have h1:=hb s
  have h2:=hfin s hs
  unfold plusC
  split
  ·left; exact ⟨rfl,by omega⟩
  ·right; exact ⟨rfl,by omega,by omega⟩
 have hmem : ∀ x,x ∈ endsL f at' N ↔ ∃ s,s < N /\ x = plusC (gI at' s) (gI f.final s):=by
  intro x
  unfold endsL
  rw [List.mem_map]
  constructor
  ·rintro ⟨s,hs,rfl⟩; exact ⟨s,List.mem_range.1 hs,rfl⟩
  ·rintro ⟨s,hs,rfl⟩; exact ⟨s,List.mem_range.2 hs,rfl⟩
 have hp : PrOk (endsL f at' N):=by
  intro x hx
  obtain ⟨s,hs,rfl⟩:=(hmem x).1 hx
  have h1:=hb s
  have h2:=hfin s hs
  rcases hpl s hs with ⟨e,_⟩ | ⟨e,_,_⟩ <;> omega
 have he : ownEnd f at' = cheapD (endsL f at' N):=by unfold ownEnd; rw [hl]
 rw [he]
 rcases cheapD_what _ hp with ⟨e1,e2⟩ | ⟨e1,e2,e3⟩
 ·left
  refine ⟨e1,fun s hs => ?_⟩
  have:=e2 _ ((hmem _).2 ⟨s,hs,rfl⟩)
  rcases hpl s hs with ⟨_,h⟩ | ⟨h,h3,h4⟩
  ·exact h
  ·omega
 ·right
  refine ⟨e1,?_,fun s hs h1 h2 => ?_⟩
  ·obtain ⟨s,hs,h1⟩:=(hmem _).1 e2
   rcases hpl s hs with ⟨h2,_⟩ | ⟨h2,h3,h4⟩
   ·omega
   ·exact ⟨s,hs,h3,h4,by omega⟩
  ·have:=e3 _ ((hmem _).2 ⟨s,hs,rfl⟩)
   rcases hpl s hs with ⟨h3,h4⟩ | ⟨h3,_,_⟩
   ·omega
   ·omega
structure SubIn (f : FstD) (N s0 : Nat) : Prop where
 hN : N <= 200
 hs : s0 < N
 wide : WideA f N
 acc : AccD f
 wt : ∀ a ∈ f.arcs,0 <= a.wt /\ a.wt <= 1000000000
 flen : f.final.length = N
 fin : ∀ x ∈ f.final,x = -1 \/ (0 <= x /\ x <= 1000000000)
 sta : f.start = (s0 : Int)
 st : f.states = (N : Int)
section
variable {f : FstD} {N s0 K : Nat} {g : FstD} {ms : List (List Int)}
theorem Sub.acc (h : Sub f N s0 K g ms) : AccD g:=by
 intro a ha
 obtain ⟨k,l,i,t,_,_,_,_,_,rfl⟩:=h.part.is a ha
 exact ⟨rfl,by show (i : Int) + 1 ≠ 0; omega⟩
theorem Sub.row (h : Sub f N s0 K g ms) (hK : K <= 300) {k : Nat} {l : List Int} (hk : ms[k]? = some l) (s : Nat) : gI (l.take N) s = -1 \/ (0 <= gI (l.take N) s /\ gI (l.take N) s <= 300000000000):=by
 have h1:=row_prices h.part.bd hk N s
 have h2:=(List.getElem?_eq_some_iff.1 hk).1
 have h3:=h.len
 omega
theorem Sub.best (h : Sub f N s0 K g ms) (hf : SubIn f N s0) (hK : K <= 300) {l : List Int} {x : Int} (hb : BestP f l l s0 x) : BestP g l l 0 x:=by
 have hms : ms.length <= 300:=by rw [h.len]; exact hK
 have key : ∀ k c,WdR g 0 l.reverse k c -> ∃ r,ms[k]? = some r /\ Enc f s0 N (r.take N) c l.reverse /\ gI g.final k = ownEnd f (r.take N):=fun k c hr => by
  obtain ⟨r,hr1,hr2⟩:=h.part.run hf.wide hf.wt hf.hs hf.hN hms l.reverse k c hr
  exact ⟨r,hr1,hr2,h.fin k r hr1⟩
 rcases hb with ⟨rfl,hno⟩ | ⟨hx0,hx,hle⟩
 ·refine Or.inl ⟨rfl,fun y hy => ?_⟩
  obtain ⟨k,c,hr,h0,_⟩:=(tot_word h.acc l 0 y).1 hy
  obtain ⟨r,hr1,hE,hfi⟩:=key k c hr
  rcases ownEnd_what hf.flen hf.fin (h.row hK hr1) with ⟨e,_⟩ | ⟨_,⟨s,hs,h1,h2,h3⟩,_⟩
  ·omega
  ·exact hno _ ((tot_word hf.acc l s0 _).2 ⟨s,_,hE.live hs (by omega),h2,rfl⟩)
 ·obtain ⟨n,z,hr,h0,e⟩:=(tot_word hf.acc l s0 x).1 hx
  obtain ⟨k,c,hg⟩:=h.reads hf.wide hf.acc hf.wt hf.hs hf.hN hK _ n z hr
  obtain ⟨r,hr1,hE,hfi⟩:=key k c hg
  have hn:=hr.lt hf.wide hf.hs
  have hV : 0 <= gI (r.take N) n /\ gI (r.take N) n + c <= z:=by
   rcases hE.2.2 n hn with ⟨_,h2⟩ | ⟨h1,h2,h3⟩
   ·exact absurd hr (h2 z)
   ·by_cases e1 : gI (r.take N) n = -1
    ·rw [if_pos e1] at h1; omega
    ·rw [if_neg e1] at h3
     have:=h3 z hr
     rcases hE.2.1 n with e2 | e2
     ·exact absurd e2 e1
     ·exact ⟨e2,this⟩
  have hxe : x = c + gI g.final k /\ 0 <= gI g.final k:=by
   rw [hfi]
   rcases ownEnd_what hf.flen hf.fin (h.row hK hr1) with ⟨_,h2⟩ | ⟨h1,⟨s,hs,h2,h3,h4⟩,h5⟩
   ·rcases h2 n hn with h2 | h2 <;> omega
   ·have h6:=h5 n hn hV.1 h0
    have h7:=hle _ ((tot_word hf.acc l s0 _).2 ⟨s,_,hE.live hs (by omega),h3,rfl⟩)
    omega
  refine Or.inr ⟨hx0,(tot_word h.acc l 0 x).2 ⟨k,c,hg,hxe.2,hxe.1⟩,fun y hy => ?_⟩
  obtain ⟨k',c',hg',_,e'⟩:=(tot_word h.acc l 0 y).1 hy
  obtain ⟨rfl,rfl⟩:=h.part.det _ _ _ _ _ hg hg'
  omega
def Alive (f : FstD) (s0 : Nat) (u : List Int) : Prop:=∃ n z,WdR f s0 u n z
theorem Part.row_live {k0 i0 : Nat} (h : Part f N s0 ms g.arcs k0 i0) (hf : SubIn f N s0) (hK : ms.length <= 300) {u : List Int} {k : Nat} {c : Int} (hr : WdR g 0 u k c) : Alive f s0 u:=by
 cases u with
 | nil => exact ⟨s0,0,rfl,rfl⟩
 | cons x u =>
  obtain ⟨a,ha,k',c',hr',hi,hsr,hd,rfl⟩:=hr
  obtain ⟨l,hl,hE⟩:=h.run hf.wide hf.wt hf.hs hf.hN hK u k' c' hr'
  obtain ⟨k2,l2,i,t,_,h9,h1,h2,h3,rfl⟩:=h.is a ha
  dsimp only at hi hsr hd
  obtain rfl : k2 = k':=by omega
  have : l2 = l:=by rw [h1] at hl; injection hl
  subst this
  have hkK:=(List.getElem?_eq_some_iff.1 h1).1
  have hpr:=nxt_pr (N:=N) hf.wt h.bd h1 (by omega) i
  have hx:=hE.next hf.wide hf.hs i
  rw [hi] at hx
  have hno : ¬ ∀ n,n < N -> gI (behL (l2.take N) N f.arcs i) n = -1:=fun hall => h2 ((cheapD_none (behL_len _ _ _ _) hpr).2 hall)
  obtain ⟨n,hn⟩:=Classical.not_forall.1 hno
  obtain ⟨hn1,hn2⟩:=Classical.not_imp.1 hn
  exact ⟨n,_,hx.live hn1 hn2⟩
theorem Part.words {k0 i0 : Nat} (h : Part f N s0 ms g.arcs k0 i0) (hf : SubIn f N s0) (hK : ms.length <= 300) : ∀ m,m <= ms.length -> ∃ L : List (List Int),L.length = m /\ L.Nodup /\ (∀ u ∈ L,Alive f s0 u) /\ ∀ u ∈ L,∃ k c,k < m /\ WdR g 0 u k c
 | 0,_ => ⟨[],rfl,List.nodup_nil,fun u hu => (by cases hu),fun u hu => by cases hu⟩
 | m + 1,hm => by
  obtain ⟨L,h1,h2,h3,h4⟩:=h.words hf hK m (by omega)
  obtain ⟨u,c,hr⟩:=h.comes (m + 1) m (by omega) (by omega)
  refine ⟨u :: L,by rw [List.length_cons,h1],List.nodup_cons.2 ⟨fun hin => ?_,h2⟩,fun v hv => ?_,fun v hv => ?_⟩
  ·obtain ⟨k,c',hk,hr'⟩:=h4 u hin
   have:=(h.det u _ _ _ _ hr hr').1
   omega
  ·rcases List.mem_cons.1 hv with rfl | hv
   ·exact h.row_live hf hK hr
   ·exact h3 v hv
  ·rcases List.mem_cons.1 hv with rfl | hv
   ·exact ⟨m,c,by omega,hr⟩
   ·obtain ⟨k,c',hk,hr'⟩:=h4 v hv
    exact ⟨k,c',by omega,hr'⟩
end
theorem nodup_sub {α : Type} : ∀ (L M : List α),L.Nodup -> (∀ x ∈ L,x ∈ M) -> L.length <= M.length
 | [],_,_,_ => Nat.zero_le _
 | a :: t,M,hn,h => by
  rw [List.nodup_cons] at hn
  obtain ⟨p,q,rfl⟩:=List.append_of_mem (h a List.mem_cons_self)
  have:=nodup_sub t (p ++ q) hn.2 (fun x hx => by
   have h1:=h x (List.mem_cons_of_mem _ hx)
   rcases List.mem_append.1 h1 with h1 | h1
   ·exact List.mem_append_left _ h1
   ·rcases List.mem_cons.1 h1 with h1 | h1
    ·exact absurd (h1 ▸ hx) hn.1
    ·exact List.mem_append_right _ h1)
  simp only [List.length_append,List.length_cons] at this ⊢
  omega
end Go.Proofs.Yteehgcbjmdideab
/- Ranks,and the beginnings of words,each once. -/
namespace Go.Proofs.Yteehgcbjmdideab
theorem first_not (P : Nat -> Prop) : ∀ k,¬ P k -> ∃ m,m <= k /\ ¬ P m /\ ∀ j,j < m -> P j
 | 0,h => ⟨0,Nat.le_refl _,h,fun j hj => absurd hj (Nat.not_lt_zero _)⟩
 | k + 1,h => by
  by_cases e : ∃ m,m <= k /\ ¬ P m
  ·obtain ⟨m,hm,hn⟩:=e
   obtain ⟨m',h1,h2,h3⟩:=first_not P m hn
   exact ⟨m',by omega,h2,h3⟩
  ·refine ⟨k + 1,Nat.le_refl _,h,fun j hj => ?_⟩
   exact Classical.byContradiction fun hn => e ⟨j,by omega,hn⟩
theorem rank_of {E : List (Nat × Nat)} {N : Nat} (hE : ∀ e ∈ E,e.1 < N /\ e.2 < N) (h : ¬ RoundE E N) : ∃ r : Nat -> Nat,(∀ v,r v <= N + 1) /\ ∀ e ∈ E,r e.1 < r e.2:=by
 have key : ∀ v,∃ k,k <= N + 1 /\ ¬ endsAt E k v /\ ∀ j,j < k -> endsAt E j v:=by
  intro v
  by_cases hv : v < N
  ·obtain ⟨m,h1,h2,h3⟩:=first_not (fun k => endsAt E k v) N (fun he => h ⟨v,hv,he⟩)
   exact ⟨m,by omega,h2,h3⟩
  ·obtain ⟨m,h1,h2,h3⟩:=first_not (fun k => endsAt E k v) 1 (by
    rintro ⟨u,hu,_⟩
    have:=(hE _ hu).2
    dsimp only at this
    omega)
   exact ⟨m,by omega,h2,h3⟩
 obtain ⟨r,hr⟩:=Classical.axiomOfChoice key
 refine ⟨r,fun v => (hr v).1,fun e he => ?_⟩
 obtain ⟨_,h1,_⟩:=hr e.2
 obtain ⟨_,_,h2⟩:=hr e.1
 rcases hk : r e.2 with _ | k
 ·rw [hk] at h1
  exact absurd trivial h1
 ·rw [hk] at h1
  by_cases hlt : r e.1 < k + 1
  ·exact hlt
  ·exact absurd ⟨e.1,he,h2 k (by omega)⟩ h1
def rkRow (h : Nat -> Nat) (l : List Int) : Nat -> Nat
 | 0 => 0
 | n + 1 => if gI l n = -1 then rkRow h l n else max (rkRow h l n) (h n + 1)
theorem rkRow_ge {h : Nat -> Nat} {l : List Int} : ∀ {N n : Nat},n < N -> gI l n ≠ -1 -> h n + 1 <= rkRow h l N
 | 0,_,hn,_ => by omega
 | N + 1,n,hn,he => by
  unfold rkRow
  by_cases e : n = N
  ·subst e
   rw [if_neg he]
   exact Nat.le_max_right _ _
  ·have:=rkRow_ge (h:=h) (show n < N by omega) he
   split
   ·exact this
   ·exact Nat.le_trans this (Nat.le_max_left _ _)
theorem rkRow_le {h : Nat -> Nat} {l : List Int} {m : Nat} : ∀ {N : Nat},(∀ n,n < N -> gI l n ≠ -1 -> h n + 1 <= m) -> rkRow h l N <= m
 | 0,_ => Nat.zero_le _
 | N + 1,hh => by
  unfold rkRow
  have:=rkRow_le (h:=h) (l:=l) (m:=m) (N:=N) (fun n hn => hh n (by omega))
  split
  ·exact this
  ·rename_i e
   exact Nat.max_le.2 ⟨this,hh N (by omega) e⟩
def cntN (E : List (Nat × Nat)) : Nat -> Nat -> Nat
 | 0,_ => 0
 | d + 1,s => min (1 + sumC (cntN E d) s E) 201
theorem sumC_cong {c c' : Nat -> Nat} {s : Nat} : ∀ {E : List (Nat × Nat)},(∀ e ∈ E,e.1 = s -> c e.2 = c' e.2) -> sumC c s E = sumC c' s E
 | [],_ => rfl
 | e :: E,h => by
  unfold sumC
  rw [sumC_cong (E:=E) (fun d hd => h d (List.mem_cons_of_mem _ hd))]
  by_cases he : e.1 = s
  ·rw [if_pos he,if_pos he,h e List.mem_cons_self he]
  ·rw [if_neg he,if_neg he]
theorem cntN_same {E : List (Nat × Nat)} {rk : Nat -> Nat} (hr : ∀ e ∈ E,rk e.2 < rk e.1) : ∀ (d d' s : Nat),rk s < d -> rk s < d' -> cntN E d s = cntN E d' s
 | 0,_,_,h,_ => by omega
 | _ + 1,0,_,_,h => by omega
 | d + 1,d' + 1,s,h,h' => by
  unfold cntN
  rw [sumC_cong (c:=cntN E d) (c':=cntN E d') fun e he hs => cntN_same hr d d' e.2 (by have:=hr e he; rw [hs] at this; omega) (by have:=hr e he; rw [hs] at this; omega)]
def cntF (E : List (Nat × Nat)) (rk : Nat -> Nat) (s : Nat) : Nat:=cntN E (rk s + 1) s
theorem cntF_ok {E : List (Nat × Nat)} {rk : Nat -> Nat} (hr : ∀ e ∈ E,rk e.2 < rk e.1) : CntOk E (cntF E rk):=by
 intro s
 unfold cntF
 conv => lhs; unfold cntN
 rw [sumC_cong (c:=cntN E (rk s)) (c':=fun s => cntN E (rk s + 1) s) fun e he hs => cntN_same hr _ _ e.2 (by have:=hr e he; rw [hs] at this; omega) (by omega)]
def wdsN (ars : List ArcD) : Nat -> Nat -> List (List Int)
 | 0,_ => []
 | d + 1,s => [] :: (ars.filter (fun a => a.src.toNat == s)).flatMap (fun a => (wdsN ars d a.dst.toNat).map (fun v => a.inp :: v))
theorem cntN_wds (ars : List ArcD) : ∀ (d s : Nat),cntN (edgesE ars) d s = min (wdsN ars d s).length 201
 | 0,s => by simp [cntN,wdsN]
 | d + 1,s => by
  unfold cntN wdsN
  have key : ∀ (l : List ArcD) (c : Nat),min (c + sumC (cntN (edgesE ars) d) s (edgesE l)) 201 = min (c + ((l.filter (fun a => a.src.toNat == s)).flatMap (fun a => (wdsN ars d a.dst.toNat).map (fun v => a.inp :: v))).length) 201:=by
   intro l
   induction l with
   | nil => intro c; rfl
   | cons a l ih =>
    intro c
    have e1 : edgesE (a :: l) = (a.src.toNat,a.dst.toNat) :: edgesE l:=rfl
    rw [e1]
    unfold sumC
    dsimp only
    by_cases hs : a.src.toNat = s
    ·rw [if_pos hs,List.filter_cons_of_pos (by simpa using hs),List.flatMap_cons,List.length_append,List.length_map,cntN_wds ars d a.dst.toNat]
     have h1:=ih (c + min (wdsN ars d a.dst.toNat).length 201)
     rw [<- Nat.add_assoc,h1]
     omega
    ·rw [if_neg hs,List.filter_cons_of_neg (by simpa using hs),Nat.zero_add]
     exact ih c
  rw [key ars 1,List.length_cons,Nat.add_comm]
theorem wdr_first {g : FstD} {k : Nat} {c : Int} : ∀ (u : List Int) (s : Nat) (z : Int),WdR g s (u ++ [c]) k z ↔ ∃ a ∈ g.arcs,∃ m : Nat,a.src = (s : Int) /\ a.inp = c /\ a.dst = (m : Int) /\ WdR g m u k (z - a.wt)
 | [],s,z => by
  constructor
  ·rintro ⟨a,ha,n',z',⟨rfl,rfl⟩,hi,hs,hd,rfl⟩
   exact ⟨a,ha,k,hs,hi,hd,rfl,by omega⟩
  ·rintro ⟨a,ha,m,hs,hi,hd,rfl,e⟩
   exact ⟨a,ha,s,0,⟨rfl,rfl⟩,hi,hs,hd,by omega⟩
 | x :: u,s,z => by
  constructor
  ·rintro ⟨b,hb,n',z',hr,hi,hs,hd,rfl⟩
   obtain ⟨a,ha,m,h1,h2,h3,h4⟩:=(wdr_first (k:=n') u s z').1 hr
   exact ⟨a,ha,m,h1,h2,h3,b,hb,n',_,h4,hi,hs,hd,by omega⟩
  ·rintro ⟨a,ha,m,h1,h2,h3,b,hb,n',z',hr,hi,hs,hd,e⟩
   refine ⟨b,hb,n',z' + a.wt,(wdr_first (k:=n') u s _).2 ⟨a,ha,m,h1,h2,h3,?_⟩,hi,hs,hd,by omega⟩
   rw [show z' + a.wt - a.wt = z' by omega]
   exact hr
theorem wdsN_mem {g : FstD} {rk : Nat -> Nat} (hw : ∀ a ∈ g.arcs,0 <= a.src /\ 0 <= a.dst) (hr : ∀ e ∈ edgesE g.arcs,rk e.2 < rk e.1) : ∀ (d s : Nat) (v : List Int),rk s < d -> (v ∈ wdsN g.arcs d s ↔ ∃ k z,WdR g s v.reverse k z)
 | 0,_,_,h => by omega
 | d + 1,s,[],_ => by
  unfold wdsN
  exact ⟨fun _ => ⟨s,0,rfl,rfl⟩,fun _ => List.mem_cons_self⟩
 | d + 1,s,c :: v,h => by
  unfold wdsN
  rw [List.mem_cons,List.reverse_cons]
  have hedge : ∀ a ∈ g.arcs,(a.src.toNat,a.dst.toNat) ∈ edgesE g.arcs:=fun a ha => List.mem_map.2 ⟨a,ha,rfl⟩
  constructor
  ·rintro (e | hm)
   ·cases e
   ·obtain ⟨a,ha,hm⟩:=List.mem_flatMap.1 hm
    obtain ⟨v',hv',e⟩:=List.mem_map.1 hm
    injection e with e1 e2
    subst e2
    obtain ⟨ha1,ha2⟩:=List.mem_filter.1 ha
    have hs : a.src.toNat = s:=by simpa using ha2
    have hlt:=hr _ (hedge a ha1)
    dsimp only at hlt
    obtain ⟨k,z,hk⟩:=(wdsN_mem hw hr d a.dst.toNat v' (by rw [hs] at hlt; omega)).1 hv'
    refine ⟨k,z + a.wt,(wdr_first v'.reverse s _).2 ⟨a,ha1,a.dst.toNat,?_,e1,?_,?_⟩⟩
    ·have:=(hw a ha1).1; omega
    ·have:=(hw a ha1).2; omega
    ·rw [show z + a.wt - a.wt = z by omega]
     exact hk
  ·rintro ⟨k,z,hk⟩
   obtain ⟨a,ha,m,hs,hi,hd,hk⟩:=(wdr_first v.reverse s z).1 hk
   have hlt:=hr _ (hedge a ha)
   dsimp only at hlt
   have e1 : a.src.toNat = s:=by omega
   have e2 : a.dst.toNat = m:=by omega
   rw [e1,e2] at hlt
   refine Or.inr (List.mem_flatMap.2 ⟨a,List.mem_filter.2 ⟨ha,by simpa using e1⟩,List.mem_map.2 ⟨v,?_,by rw [hi]⟩⟩)
   rw [e2]
   exact (wdsN_mem hw hr d m v (by omega)).2 ⟨k,_,hk⟩
theorem wdsN_nd {ars : List ArcD} (hp : ars.Pairwise (fun a b => a.src < b.src \/ (a.src = b.src /\ a.inp < b.inp))) (hw : ∀ a ∈ ars,0 <= a.src) : ∀ (d s : Nat),(wdsN ars d s).Nodup
 | 0,_ => List.nodup_nil
 | d + 1,s => by
  unfold wdsN
  rw [List.nodup_cons]
  refine ⟨fun hin => ?_,?_⟩
  ·obtain ⟨a,_,hm⟩:=List.mem_flatMap.1 hin
   obtain ⟨v,_,e⟩:=List.mem_map.1 hm
   cases e
  ·have key : ∀ l : List ArcD,(∀ a ∈ l,0 <= a.src) -> l.Pairwise (fun a b => a.src < b.src \/ (a.src = b.src /\ a.inp < b.inp)) -> ((l.filter (fun a => a.src.toNat == s)).flatMap (fun a => (wdsN ars d a.dst.toNat).map (fun v => a.inp :: v))).Nodup:=by
    intro l
    induction l with
    | nil => intro _ _; exact List.nodup_nil
    | cons a l ih =>
     intro hl hq
     rw [List.pairwise_cons] at hq
     have ih':=ih (fun b hb => hl b (List.mem_cons_of_mem _ hb)) hq.2
     by_cases hs : a.src.toNat = s
     ·rw [List.filter_cons_of_pos (by simpa using hs),List.flatMap_cons,List.nodup_append]
      refine ⟨?_,ih',?_⟩
      ·rw [List.nodup_iff_pairwise_ne,List.pairwise_map]
       refine List.Pairwise.imp ?_ (List.nodup_iff_pairwise_ne.1 (wdsN_nd hp hw d a.dst.toNat))
       intro x y hne e
       injection e with _ e
       exact hne e
      ·intro x hx y hy e
       obtain ⟨v,_,rfl⟩:=List.mem_map.1 hx
       obtain ⟨b,hb,hm⟩:=List.mem_flatMap.1 hy
       obtain ⟨v',_,rfl⟩:=List.mem_map.1 hm
       injection e with e1 _
       obtain ⟨hb1,hb2⟩:=List.mem_filter.1 hb
       have hbs : b.src.toNat = s:=by simpa using hb2
       have h1:=hq.1 b hb1
       have h2:=hl a List.mem_cons_self
       have h3:=hl b (List.mem_cons_of_mem _ hb1)
       omega
     ·rw [List.filter_cons_of_neg (by simpa using hs)]
      exact ih'
   exact key ars hw hp
section
variable {f : FstD} {N s0 K : Nat} {g : FstD} {ms : List (List Int)}
def rkG (h : Nat -> Nat) (ms : List (List Int)) (N k : Nat) : Nat:=rkRow h ((ms.getD k []).take N) N
theorem Sub.rank (h : Sub f N s0 K g ms) (hf : SubIn f N s0) (hK : K <= 300) {r : Nat -> Nat} (hr : ∀ e ∈ edgesE f.arcs,r e.2 < r e.1) : ∀ e ∈ edgesE g.arcs,rkG r ms N e.2 < rkG r ms N e.1:=by
 intro e he
 obtain ⟨a,ha,rfl⟩:=List.mem_map.1 he
 obtain ⟨k,l,i,t,_,h9,h1,h2,h3,rfl⟩:=h.part.is a ha
 dsimp only
 rw [Int.toNat_natCast,Int.toNat_natCast]
 have hlen:=h.len
 have hkK:=(List.getElem?_eq_some_iff.1 h1).1
 have e1 : (ms.getD k []) = l:=by rw [List.getD_eq_getElem?_getD,h1]; rfl
 have e2 : (ms.getD t []) = padL (nxtL f N l i):=by rw [List.getD_eq_getElem?_getD,h3]; rfl
 unfold rkG
 rw [e1,e2]
 have hpr:=nxt_pr (N:=N) hf.wt h.part.bd h1 (by omega) i
 have hbeh:=behL_what (at':=l.take N) (N:=N) i (fun s => by have:=h.row hK h1 s; omega) f.arcs (fun a ha => ⟨(hf.wide a ha).2.1.1,(hf.wide a ha).2.1.2,(hf.wide a ha).2.2.1⟩)
 have step : ∀ n,n < N -> gI (nxtL f N l i) n ≠ -1 -> r n + 1 < rkRow r (l.take N) N:=by
  intro n hn hne
  rcases hbeh n hn with ⟨e,_⟩ | ⟨_,⟨b,hb,_,hd,h0,_⟩,_⟩
  ·exact absurd e hne
  ·have hlt:=hr _ (List.mem_map.2 ⟨b,hb,rfl⟩)
   dsimp only at hlt
   have hbw:=hf.wide b hb
   have hdn : b.dst.toNat = n:=by omega
   rw [hdn] at hlt
   have:=rkRow_ge (h:=r) (l:=l.take N) (N:=N) (n:=b.src.toNat) (by omega) (by omega)
   omega
 have hno : ¬ ∀ n,n < N -> gI (nxtL f N l i) n = -1:=fun hall => h2 ((cheapD_none (behL_len _ _ _ _) hpr).2 hall)
 obtain ⟨n,hn⟩:=Classical.not_forall.1 hno
 obtain ⟨hn1,hn2⟩:=Classical.not_imp.1 hn
 have hpos:=step n hn1 hn2
 have hle : rkRow r ((padL (nxtL f N l i)).take N) N <= rkRow r (l.take N) N - 1:=by
  refine rkRow_le fun n hn hne => ?_
  have : gI (nxtL f N l i) n ≠ -1:=by
   intro e
   apply hne
   have h4 : gI ((padL (nxtL f N l i)).take N) n = gI (padL (nxtL f N l i)) n:=by
    unfold gI
    rw [List.getD_eq_getElem?_getD,List.getD_eq_getElem?_getD,List.getElem?_take_of_lt hn]
   rw [h4,padL_at _ (by have:=hf.hN; omega),if_pos e]
  have:=step n hn this
  omega
 omega
theorem Sub.alive (h : Sub f N s0 K g ms) (hf : SubIn f N s0) (hK : K <= 300) (u : List Int) : Alive f s0 u ↔ ∃ k c,WdR g 0 u k c :=
 ⟨fun ⟨n,z,hr⟩ => h.reads hf.wide hf.acc hf.wt hf.hs hf.hN hK u n z hr,fun ⟨_,_,hr⟩ => h.part.row_live hf (by rw [h.len]; exact hK) hr⟩
theorem Sub.begs (h : Sub f N s0 K g ms) (hf : SubIn f N s0) (hK : K <= 300) {rk : Nat -> Nat} (hr : ∀ e ∈ edgesE g.arcs,rk e.2 < rk e.1) : ∃ L : List (List Int),L.Nodup /\ (∀ u,u ∈ L ↔ Alive f s0 u) /\ cntF (edgesE g.arcs) rk 0 = min L.length 201:=by
 have hw : ∀ a ∈ g.arcs,0 <= a.src /\ 0 <= a.dst:=fun a ha => by
  obtain ⟨k,l,i,t,_,_,_,_,_,rfl⟩:=h.part.is a ha
  dsimp only
  omega
 refine ⟨(wdsN g.arcs (rk 0 + 1) 0).map List.reverse,?_,fun u => ?_,?_⟩
 ·rw [List.nodup_iff_pairwise_ne,List.pairwise_map]
  refine List.Pairwise.imp ?_ (List.nodup_iff_pairwise_ne.1 (wdsN_nd h.part.ord (fun a ha => (hw a ha).1) (rk 0 + 1) 0))
  intro x y hne e
  exact hne (List.reverse_inj.1 e)
 ·rw [h.alive hf hK u,List.mem_map]
  constructor
  ·rintro ⟨v,hv,rfl⟩
   exact (wdsN_mem hw hr _ 0 v (by omega)).1 hv
  ·intro hx
   exact ⟨u.reverse,(wdsN_mem hw hr _ 0 u.reverse (by omega)).2 (by rw [List.reverse_reverse]; exact hx),List.reverse_reverse u⟩
 ·unfold cntF
  rw [cntN_wds,List.length_map]
end
end Go.Proofs.Yteehgcbjmdideab
/- The order by which 'order.Least' sorts: order.Compare and its two closures,in whatever world; they only lay blocks of their own. -/
namespace Go.Proofs.Yteehgcbjmdideab
open Go.RowKit Go.Sort
attribute [local go_sem ↓] Go.wp_at_zero Go.wp_at_succ
end Go.Proofs.Yteehgcbjmdideab
