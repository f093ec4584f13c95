/- It is trimmed,and told as early as may be. -/
import Derived.Test.YteehgcbjmdideabQLmC
import Derived.Test.YteehgcbjmdideabQM21
import Derived.Test.YteehgcbjmdideabQM23
import Derived.Test.YteehgcbjmdideabQM22
namespace Go.Proofs.Yteehgcbjmdideab
section
variable {x : FstD} {K : Nat}
theorem XIn.none (h : XIn x K) (h0 : gI (toD x) 0 = -1) : K = 1 /\ x = ⟨1,0,[-1],[]⟩:=by
 have hno : ∀ v y,¬ EndP x 0 v y:=by
  rintro v y ⟨m,z,hr,hf,rfl⟩
  rcases h.gin.to 0 with ⟨_,h1⟩ | ⟨h1,_⟩
  ·have:=h1 v m z hr; omega
  ·omega
 have hK : K = 1:=by
  by_cases e : 1 < K
  ·exfalso
   obtain ⟨u,z,hu⟩:=h.comes 1 e
   obtain ⟨⟨v,hv⟩,_⟩:=h.zero (k:=1) (by omega) e
   exact hno (v ++ u) z ((endP_split h.ord hu v z).2 (by rw [Int.sub_self]; exact hv))
  ·have:=h.k0; omega
 subst hK
 have harcs : x.arcs = []:=by
  rcases e : x.arcs with _ | ⟨a,l⟩
  ·rfl
  ·exfalso
   have ha : a ∈ x.arcs:=by rw [e]; exact List.mem_cons_self
   have h1:=h.gin.arcs a ha
   have h2:=h.no_back ha
   omega
 have hfin : x.final = [-1]:=by
  have hl:=h.gin.flen
  rcases e : x.final with _ | ⟨y,l⟩
  ·rw [e] at hl; simp at hl
  ·rw [e] at hl
   have : l = []:=by
    cases l with
    | nil => rfl
    | cons _ _ => simp at hl
   subst this
   have hg : gI x.final 0 = y:=by rw [e]; rfl
   rcases h.fin 0 with h1 | h1
   ·rw [hg] at h1; rw [h1]
   ·exact absurd (endP_nil.2 ⟨h1,rfl⟩) (hno [] _)
 refine ⟨rfl,?_⟩
 have h1:=h.gin.st
 have h2:=h.sta
 obtain ⟨a,b,c,d⟩:=x
 simp only at h1 h2 harcs hfin
 subst h1 h2 harcs hfin
 rfl
theorem XIn.leads (h : XIn x K) (h0 : gI (toD x) 0 ≠ -1) {k : Nat} (hk : k < K) : ∃ v y,EndP x k v y:=by
 by_cases e : k = 0
 ·subst e
  rcases h.gin.to 0 with ⟨h1,_⟩ | ⟨_,⟨v,m,z,h1,h2,h3⟩,_⟩
  ·exact absurd h1 h0
  ·exact ⟨v,_,m,z,h1,h2,rfl⟩
 ·obtain ⟨⟨v,hv⟩,_⟩:=h.zero (k:=k) (by omega) hk
  exact ⟨v,0,hv⟩
theorem XIn.reachA (h : XIn x K) : ∀ (u : List Int) (k : Nat) (z : Int),WdR x 0 u k z -> Sc.ReachP K (Sc.pairsA x) (Sc.firstA x) k
 | [],k,z,hu => by
  obtain ⟨rfl,_⟩:=hu
  exact Sc.Reach.first ⟨h.k0,by unfold Sc.firstA; rw [h.sta]; decide⟩
 | c :: u,k,z,hu => by
  obtain ⟨a,ha,k',z',hu',hi,hs,hd,rfl⟩:=hu
  refine Sc.Reach.on (h.reachA u k' z' hu') (List.mem_map.2 ⟨a,ha,?_⟩)
  rw [hs,hd,Int.toNat_natCast,Int.toNat_natCast]
theorem XIn.reachB (h : XIn x K) : ∀ v : List Int,∀ (k : Nat) (y : Int),k < K -> EndP x k v y -> Sc.ReachP K (Sc.pairsB x) (Sc.firstB x) k:=by
 refine snoc_ind ?_ ?_
 ·intro k y hk hv
  have h1:=(endP_nil.1 hv).1
  refine Sc.Reach.first ⟨hk,?_⟩
  unfold Sc.firstB
  have hl : k < x.final.length:=by rw [h.gin.flen]; exact hk
  have : x.final.getD k 0 = gI x.final k:=by
   unfold gI
   rw [List.getD_eq_getElem?_getD,List.getD_eq_getElem?_getD,List.getElem?_eq_getElem hl]
   rfl
  rw [this]
  simp
  omega
 ·intro v c ih k y hk hv
  obtain ⟨a,ha,m,hs,hi,hd,hv⟩:=endP_first.1 hv
  have hb:=h.gin.arcs a ha
  refine Sc.Reach.on (ih m _ (by omega) hv) (List.mem_map.2 ⟨a,ha,?_⟩)
  rw [hs,hd,Int.toNat_natCast,Int.toNat_natCast]
theorem newNo_all {st : Nat -> Bool} : ∀ {k : Nat},(∀ i,i < k -> st i = true) -> Sc.newNo st k = k
 | 0,_ => rfl
 | k + 1,h => by
  rw [Sc.newNo_succ,newNo_all (fun i hi => h i (by omega)),if_pos (h k (by omega))]
theorem XIn.trim (h : XIn x K) : Sc.IsTrim x x:=by
 by_cases h0 : gI (toD x) 0 = -1
 ·obtain ⟨_,rfl⟩:=h.none h0
  refine ⟨fun _ => false,fun i => ⟨fun e => (by cases e),fun e => ?_⟩,rfl⟩
  exfalso
  refine e.2 (fun _ => False) ?_ (fun s t h _ => h)
  rintro s ⟨h1,h2⟩
  have h1 : s < 1:=h1
  obtain rfl : s = 0:=by omega
  cases h2
 ·have hst : x.states.toNat = K:=by rw [h.gin.st,Int.toNat_natCast]
  refine ⟨fun i => decide (i < K),fun i => ?_,?_⟩
  ·unfold Sc.Stays
   rw [hst]
   constructor
   ·intro e
    have hi:=of_decide_eq_true e
    obtain ⟨u,z,hu⟩:=h.comes i hi
    obtain ⟨v,y,hv⟩:=h.leads h0 hi
    exact ⟨h.reachA u i z hu,h.reachB v i y hi hv⟩
   ·intro e
    refine decide_eq_true (Sc.ReachP.lt e.1 fun p hp => ?_)
    obtain ⟨a,ha,rfl⟩:=List.mem_map.1 hp
    have:=h.gin.arcs a ha
    show a.dst.toNat < K
    omega
  ·have all : ∀ i,i < K -> (fun i => decide (i < K)) i = true:=fun i hi => decide_eq_true hi
   have hn : ∀ k,k <= K -> Sc.newNo (fun i => decide (i < K)) k = k:=fun k hk => newNo_all fun i hi => all i (by omega)
   have hs0 : x.start.toNat = 0:=by rw [h.sta]; rfl
   have e1 : Sc.finT x (fun i => decide (i < K)) K = x.final:=by
    unfold Sc.finT
    have : (List.range K).filter (fun i => decide (i < K)) = List.range K:=List.filter_eq_self.2 fun i hi => decide_eq_true (List.mem_range.1 hi)
    rw [this]
    apply List.ext_getElem (by simp [h.gin.flen])
    intro i h1 h2
    simp [List.getD,h2]
   have e2 : Sc.arcsT (fun i => decide (i < K)) x.arcs = x.arcs:=by
    unfold Sc.arcsT
    have hw:=h.gin.arcs
    have : x.arcs.filter (fun a => decide (a.src.toNat < K) && decide (a.dst.toNat < K)) = x.arcs:=List.filter_eq_self.2 fun a ha => by
     have:=hw a ha
     simp
     omega
    rw [this]
    have : ∀ a ∈ x.arcs,Sc.arcT (fun i => decide (i < K)) a = a:=fun a ha => by
     have:=hw a ha
     unfold Sc.arcT
     rw [hn _ (by omega),hn _ (by omega)]
     obtain ⟨a1,a2,a3,a4,a5⟩:=a
     simp only at this ⊢
     rw [show ((a1.toNat : Nat) : Int) = a1 by omega,show ((a4.toNat : Nat) : Int) = a4 by omega]
    exact (List.map_congr_left (g:=id) this).trans (List.map_id _)
   unfold Sc.trimBy
   rw [hs0,if_pos (all 0 h.k0),hst,hn K (Nat.le_refl _),hn 0 (Nat.zero_le _),e1,e2]
   have h1:=h.gin.st
   have h2:=h.sta
   obtain ⟨a,b,c,d⟩:=x
   simp only at h1 h2 ⊢
   subst h1 h2
   rfl
theorem XIn.back (h : XIn x K) (h0 : 0 <= gI (toD x) 0) : GIn (backF x) K /\ ∀ n,n < K -> gI (toD (backF x)) n = if n = 0 then 0 else -1:=by
 have hl : ∀ k,k < K -> 0 <= gI (toD x) k:=fun k hk => by
  by_cases e : k = 0
  ·subst e; exact h0
  ·rw [h.early k (by omega) hk]; omega
 have hst : x.states.toNat = K:=by rw [h.gin.st,Int.toNat_natCast]
 have hbg : ∀ n,n < K -> gI (begL x.start x.states.toNat) n = if n = 0 then 0 else -1:=by
  intro n hn
  rw [h.sta,hst]
  unfold gI begL
  rw [List.getD_eq_getElem?_getD,List.getElem?_map,List.getElem?_range hn]
  show (if (n : Int) = 0 then (0 : Int) else -1) = _
  by_cases e : n = 0
  ·rw [if_pos e,if_pos (by omega)]
  ·rw [if_neg e,if_neg (by omega)]
 have hB : GIn (backF x) K:=by
  refine ⟨h.gin.st,?_,fun y hy => ?_,fun b hb => ?_⟩
  ·show (begL x.start x.states.toNat).length = K
   rw [begL_len,hst]
  ·rcases begL_mem _ _ y hy with e | e <;> omega
  ·obtain ⟨a,ha,rfl⟩:=List.mem_map.1 hb
   have h1:=h.gin.arcs a ha
   exact ⟨h1.1,h1.2.1,(h.gin.moved hl ha).1⟩
 refine ⟨hB,fun n hn => ?_⟩
 have hk0:=h.k0
 by_cases e : n = 0
 ·subst e
  rw [if_pos rfl]
  have h0 : gI (backF x).final 0 = 0:=by
   have:=hbg 0 hk0
   rw [if_pos rfl] at this
   exact this
  have:=hB.to_fin (n:=0) (by omega)
  omega
 ·rw [if_neg e]
  rcases hB.to n with ⟨h1,_⟩ | ⟨_,⟨v,k,z,h1,h2,_⟩,_⟩
  ·exact h1
  ·exfalso
   have hkK : k < K:=by
    by_cases hlt : k < K
    ·exact hlt
    ·have : gI (backF x).final k = -1:=gI_out (by rw [hB.flen]; omega)
     omega
   have hk : k = 0:=by
    have h3 : gI (backF x).final k = _:=hbg k hkK
    by_cases e2 : k = 0
    ·exact e2
    ·rw [if_neg e2] at h3; omega
   subst hk
   cases v with
   | nil => exact e h1.1.symm
   | cons c v =>
    obtain ⟨b,hb,n',z',_,_,_,hd,_⟩:=h1
    obtain ⟨a,ha,rfl⟩:=List.mem_map.1 hb
    exact h.no_back ha hd
theorem XIn.pot (h : XIn x K) (h0 : 0 <= gI (toD x) 0) {n : Nat} (hn : n < K) : gI (toD x) n + gI (ahD (toD x) (toD (backF x)) (gI (toD x) x.start.toNat) x.states.toNat) n = 0:=by
 have hb:=(h.back h0).2 n hn
 have hlen : (toD x).length = K:=by
  unfold toD
  rw [rounds_len,h.gin.flen]
 have hst : x.states.toNat = K:=by rw [h.gin.st,Int.toNat_natCast]
 have hs0 : x.start.toNat = 0:=by rw [h.sta]; rfl
 rw [ahD_at _ _ _ _ (by omega),hst,if_pos hn,hb,hs0]
 by_cases e : n = 0
 ·subst e
  rw [if_pos rfl]
  by_cases hb2 : betterB 0 (gI (toD x) 0) = true
  ·rw [if_pos hb2]; omega
  ·rw [if_neg hb2]
   have : ¬ (gI (toD x) 0 = -1 \/ (0 : Int) < gI (toD x) 0):=fun hh => hb2 ((better_iff (by omega) (by omega)).2 ⟨by omega,hh⟩)
   omega
 ·rw [if_neg e]
  have : ¬ betterB (-1) (gI (toD x) 0) = true:=by unfold betterB; simp
  rw [if_neg this,h.early n (by omega) hn]
  omega
theorem XIn.again (h : XIn x K) (h0 : 0 <= gI (toD x) 0) : earlyD x = x:=by
 have hpot : ∀ n,n < K -> _:=fun n hn => h.pot h0 hn
 obtain ⟨q,hq⟩ : ∃ q,q = ahD (toD x) (toD (backF x)) (gI (toD x) x.start.toNat) x.states.toNat:=⟨_,rfl⟩
 rw [<- hq] at hpot
 have hx : earlyD x = movD (movD x (toD x)) q:=by rw [hq]; rfl
 have hfl:=h.gin.flen
 have e1 : (movD (movD x (toD x)) q).final = x.final:=by
  have hl1 : (movD x (toD x)).final.length = K:=by show (movF _ _ _).length = K; rw [movF_len,hfl]
  have hl2 : (movD (movD x (toD x)) q).final.length = K:=by show (movF _ _ _).length = K; rw [movF_len,hl1]
  apply List.ext_getElem (by rw [hl2,hfl])
  intro i h1 h2
  have hiK : i < K:=by omega
  have h3 : gI (movD (movD x (toD x)) q).final i = gI x.final i:=by
   rw [mov_fin (by omega),mov_fin (by omega)]
   by_cases e : gI x.final i = -1
   ·rw [if_pos e,if_pos rfl,e]
   ·have h3 : 0 <= gI x.final i:=(h.fin i).resolve_left e
    have h4:=h.gin.to_fin h3
    rw [if_neg e,if_neg (by omega)]
    have:=hpot i hiK
    omega
  unfold gI at h3
  rw [List.getD_eq_getElem?_getD,List.getD_eq_getElem?_getD,List.getElem?_eq_getElem h1,List.getElem?_eq_getElem h2] at h3
  exact h3
 have e2 : (movD (movD x (toD x)) q).arcs = x.arcs:=by
  show (x.arcs.map (movA (toD x))).map (movA q) = x.arcs
  rw [List.map_map]
  have : ∀ a ∈ x.arcs,(movA q ∘ movA (toD x)) a = a:=fun a ha => by
   have hb:=h.gin.arcs a ha
   have p1:=hpot a.dst.toNat (by omega)
   have p2:=hpot a.src.toNat (by omega)
   obtain ⟨a1,a2,a3,a4,a5⟩:=a
   show (⟨a1,a2,a3,a4,a5 + (gI (toD x) a4.toNat - gI (toD x) a1.toNat) + (gI q a4.toNat - gI q a1.toNat)⟩ : ArcD) = _
   dsimp only at p1 p2
   rw [show a5 + (gI (toD x) a4.toNat - gI (toD x) a1.toNat) + (gI q a4.toNat - gI q a1.toNat) = a5 by omega]
  exact (List.map_congr_left (g:=id) this).trans (List.map_id _)
 rw [hx]
 have e3 : (movD (movD x (toD x)) q).states = x.states:=rfl
 have e4 : (movD (movD x (toD x)) q).start = x.start:=rfl
 obtain ⟨y,hy⟩ : ∃ y,y = movD (movD x (toD x)) q:=⟨_,rfl⟩
 rw [<- hy] at e1 e2 e3 e4 ⊢
 obtain ⟨a,b,c,d⟩:=x
 obtain ⟨a',b',c',d'⟩:=y
 simp only at e1 e2 e3 e4
 subst e1 e2 e3 e4
 rfl
end
end Go.Proofs.Yteehgcbjmdideab
/- What Determine makes is one way for each word,told early; it costs the same. -/
namespace Go.Proofs.Yteehgcbjmdideab
section
variable {f : FstD} {N s0 K : Nat} {g : FstD} {ms : List (List Int)}
theorem Sub.moved (h : Sub f N s0 K g ms) (hf : SubIn f N s0) (hK : K <= 300) (hl : ∀ k,k < K -> 0 <= gI (toD g) k) {rk : Nat -> Nat} (hr : ∀ e ∈ edgesE g.arcs,rk e.2 < rk e.1) :
  (∀ s u n z,s < K -> n < K -> (WdR (earlyD g) s u n z ↔ WdR g s u n (z - potD g n + potD g s))) /\ ∀ n,n < K -> gI (earlyD g).final n = if gI g.final n = -1 then -1 else gI g.final n - potD g n:=by
 have hG:=h.gin hf hK
 have hpot : ∀ n,n < K -> _:=fun n hn => h.pot hf hK hl hr hn
 obtain ⟨q,hq⟩ : ∃ q,q = ahD (toD g) (toD (backF g)) (gI (toD g) g.start.toNat) g.states.toNat:=⟨_,rfl⟩
 rw [<- hq] at hpot
 have hx : earlyD g = movD (movD g (toD g)) q:=by rw [hq]; rfl
 have hfl1 : (movD g (toD g)).final.length = K:=by show (movF _ _ _).length = K; rw [movF_len,h.flen]
 constructor
 ·intro s u n z hs hn
  rw [hx,mov_word,mov_word]
  have p1:=hpot n hn
  have p2:=hpot s hs
  rw [show z - gI q n + gI q s - gI (toD g) n + gI (toD g) s = z - potD g n + potD g s by omega]
 ·intro n hn
  rw [hx,mov_fin (by omega),mov_fin (by rw [h.flen]; exact hn)]
  by_cases e : gI g.final n = -1
  ·rw [if_pos e,if_pos rfl,if_pos e]
  ·have h0 : 0 <= gI g.final n:=by
    rcases gI_of _ (fun x => x = -1 \/ 0 <= x) hG.fin (Or.inl rfl) n with h1 | h1
    ·exact absurd h1 e
    ·exact h1
   have h1:=hG.to_fin h0
   rw [if_neg e,if_neg (by omega),if_neg e]
   have:=hpot n hn
   omega
theorem DetOut.gin {x : FstD} (h : DetOut f s0 K x) : GIn x K:=⟨h.st,h.flen,fun y hy => by
 rcases h.fin y hy with e | e
 ·exact Or.inl e
 ·exact Or.inr e.1,fun a ha => ⟨(h.arcs a ha).1,(h.arcs a ha).2.1,(h.arcs a ha).2.2.2.2.1⟩⟩
theorem Sub.xin (h : Sub f N s0 K g ms) (hf : SubIn f N s0) (hK : K <= 300) (hl : ∀ k,k < K -> 0 <= gI (toD g) k) {rk : Nat -> Nat} (hr : ∀ e ∈ edgesE g.arcs,rk e.2 < rk e.1) (ho : DetOut f s0 K (earlyD g)) : XIn (earlyD g) K:=by
 have hG:=h.gin hf hK
 obtain ⟨hw,hfin⟩:=h.moved hf hK hl hr
 have hX:=ho.gin
 refine ⟨hX,ho.sta,h.k0,ho.acc,fun a ha => (ho.arcs a ha).2.2.1,ho.ord,ho.rank,fun k hk => ?_,fun k h0 hk => ?_⟩
 ·obtain ⟨u,c,hu⟩:=h.part.comes (k + 1) k (by omega) (by rw [h.len]; exact hk)
  refine ⟨u,c + potD g k,(hw 0 u k _ h.k0 hk).2 ?_⟩
  have : potD g 0 = 0:=rfl
  rw [this,show c + potD g k - potD g k + 0 = c by omega]
  exact hu
 ·have hp : potD g k = gI (toD g) k:=by unfold potD; rw [if_neg (by omega)]
  have low : ∀ v m z,WdR (earlyD g) k v m z -> 0 <= gI (earlyD g).final m -> 0 <= z + gI (earlyD g).final m /\ m < K:=by
   intro v m z hv hm
   have hmK : m < K:=by
    by_cases e : m < K
    ·exact e
    ·rw [gI_out (by rw [ho.flen]; omega)] at hm; omega
   have h1:=(hw k v m z hk hmK).1 hv
   rw [hfin m hmK] at hm ⊢
   by_cases e : gI g.final m = -1
   ·rw [if_pos e] at hm; omega
   ·rw [if_neg e] at hm ⊢
    have h2 : 0 <= gI g.final m:=(gI_of _ (fun x => x = -1 \/ 0 <= x) hG.fin (Or.inl rfl) m).resolve_left e
    rcases hG.to k with ⟨e1,_⟩ | ⟨_,_,h3⟩
    ·have:=hl k hk; omega
    ·have:=h3 v m _ h1 h2
     exact ⟨by omega,hmK⟩
  have some : ∃ v m z,WdR (earlyD g) k v m z /\ 0 <= gI (earlyD g).final m /\ z + gI (earlyD g).final m = 0:=by
   rcases hG.to k with ⟨e1,_⟩ | ⟨_,⟨v,m,z,h1,h2,h3⟩,_⟩
   ·have:=hl k hk; omega
   ·have hmK : m < K:=by
     by_cases e : m < K
     ·exact e
     ·rw [gI_out (by rw [h.flen]; omega)] at h2; omega
    have h4:=hG.to_fin h2
    have h5 : potD g m <= gI (toD g) m:=by
     unfold potD
     have:=hl m hmK
     split <;> omega
    refine ⟨v,m,z + potD g m - potD g k,(hw k v m _ hk hmK).2 ?_,?_,?_⟩
    ·rw [show z + potD g m - potD g k - potD g m + potD g k = z by omega]
     exact h1
    ·rw [hfin m hmK,if_neg (by omega)]; omega
    ·rw [hfin m hmK,if_neg (by omega)]; omega
  obtain ⟨v,m,z,h1,h2,h3⟩:=some
  rcases hX.to k with ⟨_,h4⟩ | ⟨h4,⟨v',m',z',h5,h6,h7⟩,h8⟩
  ·have:=h4 v m z h1; omega
  ·have:=h8 v m z h1 h2
   omega
end
theorem word_min {f : FstD} (hA : AccD f) {s0 : Nat} {u : List Int} {a : Int} : MinP (EndP f s0 u) a ↔ BestP f u.reverse u.reverse s0 a:=by
 have e : ∀ y,TotP f u.reverse u.reverse s0 y ↔ EndP f s0 u y:=fun y => by
  rw [tot_word hA,List.reverse_reverse]
  exact Iff.rfl
 constructor
 ·rintro (⟨h1,h2⟩ | ⟨h1,h2,h3⟩)
  ·exact Or.inl ⟨h1,fun y hy => h2 y ((e y).1 hy)⟩
  ·exact Or.inr ⟨h1,(e a).2 h2,fun y hy => h3 y ((e y).1 hy)⟩
 ·rintro (⟨h1,h2⟩ | ⟨h1,h2,h3⟩)
  ·exact Or.inl ⟨h1,fun y hy => h2 y ((e y).2 hy)⟩
  ·exact Or.inr ⟨h1,(e a).1 h2,fun y hy => h3 y ((e y).2 hy)⟩
section
variable {f t : FstD} {N s0 K : Nat}
theorem DoneK.xin (h : DoneK t N K) (hT : Sc.TrimIn f t N s0) : XIn (detX t N K) K /\ EndSame t s0 (detX t N K) 0:=by
 have key : XIn (detX t N K) K /\ DetOut t s0 K (detX t N K):=by
  obtain ⟨hs,hK1,hK⟩:=h.sub hT.sin
  obtain ⟨r,M,hM,hr⟩:=hT.rank
  have hrk:=hs.rank hT.sin (by omega) (r:=fun n => M - r n) (fun e he => by
   have h1:=hr e he
   have h2:=hM e.2
   show M - r e.2 < M - r e.1
   omega)
  have hG:=hs.gin hT.sin (by omega)
  rcases hT.live with hl | he
  ·have hlv : ∀ k,k < K -> 0 <= gI (toD (subG t N K)) k:=fun k hk => hs.live hT.sin (by omega) hl hk
   have h0:=hlv 0 (by omega)
   have hx : detX t N K = earlyD (subG t N K):=by unfold detX; rw [if_neg (by omega)]
   rw [hx]
   have ho:=hs.early hT.sin (by omega) hlv hrk hr
   exact ⟨hs.xin hT.sin (by omega) hlv hrk ho,ho⟩
  ·have he':=he
   subst he
   obtain ⟨e1,e2⟩:=empty_sub hs hT.sin (by omega)
   have hto : gI (toD (subG ⟨1,0,[-1],[]⟩ N K)) 0 = -1:=by
    rcases hG.to 0 with ⟨e,_⟩ | ⟨_,⟨v,k,z,_,h2,_⟩,_⟩
    ·exact e
    ·exfalso
     have hk : k < K:=by
      by_cases hlt : k < K
      ·exact hlt
      ·rw [gI_out (by rw [hG.flen]; omega)] at h2; omega
     have:=e2 _ (gI_mem (c:=(subG ⟨1,0,[-1],[]⟩ N K).final) (s:=k) (by rw [hG.flen]; exact hk))
     omega
   have hx : detX ⟨1,0,[-1],[]⟩ N K = subG ⟨1,0,[-1],[]⟩ N K:=by unfold detX; rw [if_pos hto]
   rw [hx]
   have ho : DetOut ⟨1,0,[-1],[]⟩ s0 K (subG ⟨1,0,[-1],[]⟩ N K):=⟨hs.st,hs.sta,hs.flen,fun y hy => Or.inl (e2 y hy),fun a ha => (by rw [e1] at ha; cases ha),hs.part.ord,⟨_,hrk⟩,fun l y hb => hs.best hT.sin (by omega) hb⟩
   have hc : ∀ k,k < K -> ∃ u z,WdR (subG ⟨1,0,[-1],[]⟩ N K) 0 u k z:=fun k hk => hs.part.comes (k + 1) k (by omega) (by rw [hs.len]; exact hk)
   refine ⟨⟨hG,ho.sta,hs.k0,ho.acc,fun a ha => (ho.arcs a ha).2.2.1,ho.ord,ho.rank,hc,fun k h0 hk => ?_⟩,ho⟩
   exfalso
   obtain ⟨u,z,hu⟩:=hc k hk
   cases u with
   | nil => have:=hu.1; omega
   | cons c u =>
    obtain ⟨a,ha,_⟩:=hu
    rw [e1] at ha
    cases ha
 refine ⟨key.1,fun u a b ha hb => ?_⟩
 have h1:=key.2.best _ _ ((word_min hT.sin.acc).1 ha)
 have h2:=(word_min key.1.acc).1 hb
 exact h1.unique h2
theorem trim_live (hT : Sc.TrimIn f t N s0) : LiveW t s0:=by
 rintro c u ⟨n,z,hu⟩
 rcases hT.live with hl | he
 ·obtain ⟨v,m,y,h1,h2⟩:=hl n (hu.lt hT.sin.wide hT.sin.hs)
  exact ⟨_,v,m,z + y,(wdr_split v m _).2 ⟨n,z,hu,by rw [show z + y - z = y by omega]; exact h1⟩,h2,rfl⟩
 ·subst he
  obtain ⟨a,ha,_⟩:=hu
  cases ha
end
end Go.Proofs.Yteehgcbjmdideab
