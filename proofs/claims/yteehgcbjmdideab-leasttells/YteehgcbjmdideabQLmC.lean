/- The numbers of classes as they are first come to: all are met; as great weights as there were. -/
import Derived.Test.YteehgcbjmdideabQM36
import Derived.Test.YteehgcbjmdideabQM35
namespace Go.Proofs.Yteehgcbjmdideab
theorem cls_exists {x : FstD} {K : Nat} (hK : 0 < K) (hok : ∀ a ∈ x.arcs,∃ t : Nat,a.dst = (t : Int) /\ t < K) : ∃ cl n,n <= K /\ ClsIn x K cl n:=by
 have key : ∀ (d : Nat) (cl : List Int) (n : Nat),K - n < d -> n <= K -> Cls K cl n -> Finer (kindL x.arcs x.final cl) K cl -> ∃ cl n,n <= K /\ ClsIn x K cl n:=by
  intro d
  induction d with
  | zero => intro cl n h; omega
  | succ d ih =>
   intro cl n hd hn hc hf
   by_cases e : (distK (kindL x.arcs x.final cl) K).length = n
   ·exact ⟨cl,n,hn,hc,hf,fun s s' hs hs' h => finer_same hc hf e hs hs' h⟩
   ·have h1:=finer_more hc hf
    have h2:=distK_len (κ:=kindL x.arcs x.final cl) K
    exact ih _ _ (by omega) h2 (clsK_cls _ K) (finer_next hok hf)
 exact key (K - 1 + 1) _ 1 (by omega) (by omega) (cls_zero hK) (finer_zero _ K)
def arcK (k : List Int) (j : Nat) (M : List Nat) (i : Nat) : Option ArcD:=if gI k (1 + i * 2) = -1 then none else some ⟨(j : Int),((i + 1 : Nat) : Int),((i + 1 : Nat) : Int),(M.idxOf (gI k (1 + i * 2)).toNat : Int),gI k (1 + i * 2 + 1)⟩
section
variable {k : List Int} {j : Nat} {M : List Nat} {S : List Nat × List ArcD}
theorem numStep_pre (i : Nat) : ∃ l,(numStep k j S i).1 = S.1 ++ l:=by
 unfold numStep
 split
 ·exact ⟨[],by simp⟩
 ·dsimp only
  split
  ·exact ⟨[],by simp⟩
  ·exact ⟨[_],rfl⟩
theorem numLets_pre : ∀ i,∃ l,(numLets k j S i).1 = S.1 ++ l
 | 0 => ⟨[],by simp [numLets]⟩
 | i + 1 => by
  obtain ⟨l,hl⟩:=numLets_pre i
  obtain ⟨l2,hl2⟩:=numStep_pre (k:=k) (j:=j) (S:=numLets k j S i) i
  exact ⟨l ++ l2,by show (numStep k j (numLets k j S i) i).1 = _; rw [hl2,hl,List.append_assoc]⟩
theorem numLets_mono (i : Nat) : ∀ d,∃ l,(numLets k j S (i + d)).1 = (numLets k j S i).1 ++ l
 | 0 => ⟨[],by simp⟩
 | d + 1 => by
  obtain ⟨l,hl⟩:=numLets_mono i d
  obtain ⟨l2,hl2⟩:=numStep_pre (k:=k) (j:=j) (S:=numLets k j S (i + d)) (i + d)
  exact ⟨l ++ l2,by show (numStep k j (numLets k j S (i + d)) (i + d)).1 = _; rw [hl2,hl,List.append_assoc]⟩
theorem numStep_has (i : Nat) (h : gI k (1 + i * 2) ≠ -1) : (gI k (1 + i * 2)).toNat ∈ (numStep k j S i).1:=by
 unfold numStep
 rw [if_neg h]
 dsimp only
 by_cases e : (gI k (1 + i * 2)).toNat ∈ S.1
 ·rw [if_pos e]; exact e
 ·rw [if_neg e]; simp
theorem numLets_has {i m : Nat} (hi : i < m) (h : gI k (1 + i * 2) ≠ -1) : (gI k (1 + i * 2)).toNat ∈ (numLets k j S m).1:=by
 obtain ⟨l,hl⟩:=numLets_mono (k:=k) (j:=j) (S:=S) (i + 1) (m - (i + 1))
 rw [show i + 1 + (m - (i + 1)) = m by omega] at hl
 rw [hl]
 exact List.mem_append.2 (Or.inl (numStep_has i h))
theorem idx_pre {l l' : List Nat} {t : Nat} (h : t ∈ l) : (l ++ l').idxOf t = l.idxOf t:=by rw [List.idxOf_append,if_pos h]
theorem numLets_arcs : ∀ i,(∃ l,M = (numLets k j S i).1 ++ l) -> (numLets k j S i).2 = S.2 ++ (List.range i).filterMap (arcK k j M)
 | 0,_ => by simp [numLets]
 | i + 1,⟨l,hl⟩ => by
  obtain ⟨l2,hl2⟩:=numStep_pre (k:=k) (j:=j) (S:=numLets k j S i) i
  have ih:=numLets_arcs i ⟨l2 ++ l,by rw [hl]; show (numStep k j (numLets k j S i) i).1 ++ l = _; rw [hl2,List.append_assoc]⟩
  rw [List.range_succ,List.filterMap_append,<- List.append_assoc,<- ih]
  show (numStep k j (numLets k j S i) i).2 = _
  by_cases e : gI k (1 + i * 2) = -1
  ·have : [i].filterMap (arcK k j M) = []:=by simp [arcK,e]
   rw [this,List.append_nil]
   unfold numStep
   rw [if_pos e]
  ·have hm:=numStep_has (k:=k) (j:=j) (S:=numLets k j S i) i e
   have hM : M.idxOf (gI k (1 + i * 2)).toNat = (numStep k j (numLets k j S i) i).1.idxOf (gI k (1 + i * 2)).toNat:=by
    rw [hl]
    exact idx_pre hm
   have : [i].filterMap (arcK k j M) = [⟨(j : Int),((i + 1 : Nat) : Int),((i + 1 : Nat) : Int),(M.idxOf (gI k (1 + i * 2)).toNat : Int),gI k (1 + i * 2 + 1)⟩]:=by
    simp [arcK,e]
   rw [this,hM]
   unfold numStep
   rw [if_neg e]
end
section
variable {κ : Nat -> List Int} {c0 : Nat}
theorem numN_mono (j : Nat) : ∀ d,∃ l,(numN κ c0 (j + d)).1 = (numN κ c0 j).1 ++ l
 | 0 => ⟨[],by simp⟩
 | d + 1 => by
  obtain ⟨l,hl⟩:=numN_mono j d
  obtain ⟨l2,hl2⟩:=numLets_pre (k:=κ ((numN κ c0 (j + d)).1.getD (j + d) 0)) (j:=j + d) (S:=((numN κ c0 (j + d)).1,(numN κ c0 (j + d)).2.2)) 9
  refine ⟨l ++ l2,?_⟩
  show (numLets (κ ((numN κ c0 (j + d)).1.getD (j + d) 0)) (j + d) ((numN κ c0 (j + d)).1,(numN κ c0 (j + d)).2.2) 9).1 = _
  rw [hl2,hl,List.append_assoc]
theorem numN_to {j n : Nat} (h : j <= n) : ∃ l,(numN κ c0 n).1 = (numN κ c0 j).1 ++ l:=by
 obtain ⟨l,hl⟩:=numN_mono (κ:=κ) (c0:=c0) j (n - j)
 rw [show j + (n - j) = n by omega] at hl
 exact ⟨l,hl⟩
structure RunN (κ : Nat -> List Int) (c0 n : Nat) : Prop where
 all : ∀ j,j < n -> j < (numN κ c0 j).1.length
 done : (numN κ c0 n).1.length = n
def outK (κ : Nat -> List Int) (M : List Nat) : FstD:=⟨(M.length : Int),0,M.map fun v => gI (κ v) 0,(List.range M.length).flatMap fun j => (List.range 9).filterMap (arcK (κ (M.getD j 0)) j M)⟩
theorem numN_is {n : Nat} (h : RunN κ c0 n) : ∀ j,j <= n -> (numN κ c0 j).2.1 = ((numN κ c0 n).1.take j).map (fun v => gI (κ v) 0) /\ (numN κ c0 j).2.2 = (List.range j).flatMap fun i => (List.range 9).filterMap (arcK (κ ((numN κ c0 n).1.getD i 0)) i (numN κ c0 n).1)
 | 0,_ => by simp [numN]
 | j + 1,hj => by
  obtain ⟨h1,h2⟩:=numN_is h j (by omega)
  obtain ⟨l,hl⟩:=numN_to (κ:=κ) (c0:=c0) (show j <= n by omega)
  have hlt:=h.all j (by omega)
  have he : (numN κ c0 n).1.getD j 0 = (numN κ c0 j).1.getD j 0:=by
   rw [hl,List.getD_eq_getElem?_getD,List.getElem?_append_left hlt,List.getD_eq_getElem?_getD]
  have hn : j < (numN κ c0 n).1.length:=by rw [h.done]; omega
  have hg : (numN κ c0 n).1[j]? = some ((numN κ c0 j).1.getD j 0):=by
   rw [<- he,List.getD_eq_getElem?_getD,List.getElem?_eq_getElem hn]
   rfl
  constructor
  ·show (numN κ c0 j).2.1 ++ [gI (κ ((numN κ c0 j).1.getD j 0)) 0] = _
   rw [h1,List.take_add_one,hg]
   simp
  ·obtain ⟨l2,hl2⟩:=numN_to (κ:=κ) (c0:=c0) hj
   rw [List.range_succ (n:=j),List.flatMap_append,<- h2]
   show (numLets (κ ((numN κ c0 j).1.getD j 0)) j ((numN κ c0 j).1,(numN κ c0 j).2.2) 9).2 = _
   rw [numLets_arcs (M:=(numN κ c0 n).1) 9 ⟨l2,hl2⟩,<- he]
   simp
theorem RunN.out {n : Nat} (h : RunN κ c0 n) : (⟨(n : Int),0,(numN κ c0 n).2.1,(numN κ c0 n).2.2⟩ : FstD) = outK κ (numN κ c0 n).1:=by
 obtain ⟨h1,h2⟩:=numN_is h n (Nat.le_refl _)
 unfold outK
 rw [h1,h2,h.done,List.take_of_length_le (by rw [h.done]; exact Nat.le_refl _)]
theorem RunN.first {n : Nat} (_h : RunN κ c0 n) : (numN κ c0 n).1[0]? = some c0:=by
 obtain ⟨l,hl⟩:=numN_to (κ:=κ) (c0:=c0) (Nat.zero_le n)
 rw [hl]
 rfl
theorem RunN.next {n : Nat} (h : RunN κ c0 n) {v i : Nat} (hv : v ∈ (numN κ c0 n).1) (hi : i < 9) (hne : gI (κ v) (1 + i * 2) ≠ -1) : (gI (κ v) (1 + i * 2)).toNat ∈ (numN κ c0 n).1:=by
 obtain ⟨j,hj⟩:=List.mem_iff_getElem?.1 hv
 have hjn : j < n:=by have:=(List.getElem?_eq_some_iff.1 hj).1; rw [h.done] at this; exact this
 obtain ⟨l,hl⟩:=numN_to (κ:=κ) (c0:=c0) (show j <= n by omega)
 have hlt:=h.all j hjn
 have he : (numN κ c0 j).1.getD j 0 = v:=by
  rw [hl,List.getElem?_append_left hlt] at hj
  rw [List.getD_eq_getElem?_getD,hj]
  rfl
 obtain ⟨l2,hl2⟩:=numN_to (κ:=κ) (c0:=c0) (show j + 1 <= n by omega)
 rw [hl2]
 refine List.mem_append.2 (Or.inl ?_)
 show _ ∈ (numLets (κ ((numN κ c0 j).1.getD j 0)) j ((numN κ c0 j).1,(numN κ c0 j).2.2) 9).1
 rw [he]
 exact numLets_has hi hne
end
section
variable {x : FstD} {K n m : Nat} {cl : List Int} {C : List Int -> Nat} {κ : Nat -> List Int}
theorem XIn.leap (h : XIn x K) (hc : ClsIn x K cl n) {s i : Nat} (hi : i < 9) : (gI (kindL x.arcs x.final cl s) (1 + i * 2) = -1 /\ ∀ a ∈ x.arcs,¬ (a.src = (s : Int) /\ a.inp = ((i + 1 : Nat) : Int))) \/ ∃ a ∈ x.arcs,∃ t : Nat,t < K /\ a.src = (s : Int) /\ a.inp = ((i + 1 : Nat) : Int) /\ a.dst = (t : Int) /\ gI (kindL x.arcs x.final cl s) (1 + i * 2) = gI cl t /\ 0 <= gI cl t /\ gI (kindL x.arcs x.final cl s) (1 + i * 2 + 1) = a.wt:=by
 rw [kind_to _ _ _ _ _ hi,kind_co _ _ _ _ _ hi]
 unfold leapTo leapCo
 rcases e : lastArc x.arcs s (i + 1) with _ | a
 ·exact Or.inl ⟨rfl,(last_none h.ord).1 e⟩
 ·obtain ⟨a1,a2,a3⟩:=(last_iff h.ord).1 e
  have hb:=h.gin.arcs a a1
  refine Or.inr ⟨a,a1,a.dst.toNat,by omega,a2,a3,by omega,rfl,(hc.cls.lt _ (by omega)).1,rfl⟩
theorem RunN.all_met (hr : RunN κ (C []) m) (hT : TabOf x K cl C κ) (h : XIn x K) (hc : ClsIn x K cl n) : ∀ (u : List Int) (k : Nat) (z : Int),WdR x 0 u k z -> C u ∈ (numN κ (C []) m).1
 | [],k,z,_ => List.mem_of_getElem? hr.first
 | c :: u,k,z,hu => by
  obtain ⟨a,ha,k',z',hu',hi,hs,hd,rfl⟩:=id hu
  have ih:=hr.all_met hT h hc u k' z' hu'
  have hl:=h.lets a ha
  obtain ⟨i,hi9,hci⟩ : ∃ i : Nat,i < 9 /\ a.inp = ((i + 1 : Nat) : Int):=⟨(a.inp - 1).toNat,by omega,by omega⟩
  rcases h.leap hc hi9 with ⟨_,h1⟩ | ⟨b,hb,t,ht,hb1,hb2,hb3,hb4,hb5,hb6⟩
  ·exact absurd ⟨hs,hci⟩ (h1 a ha)
  ·obtain rfl:=arc_once h.ord ha hb (by omega) (by omega)
   have hkt : k = t:=by omega
   subst hkt
   rw [<- hT.at h hu'] at hb4
   have:=hr.next ih hi9 (by rw [hb4]; omega)
   rw [hb4,<- hT.c _ _ _ hu,Int.toNat_natCast] at this
   exact this
theorem numLets_from {P : Nat -> Prop} {k : List Int} {j : Nat} {S : List Nat × List ArcD} (hS : ∀ v ∈ S.1,P v) : ∀ i,i <= 9 -> (∀ i,i < 9 -> gI k (1 + i * 2) = -1 \/ P (gI k (1 + i * 2)).toNat) -> ∀ v ∈ (numLets k j S i).1,P v
 | 0,_,_ => hS
 | i + 1,hi9,hk => by
  have ih:=numLets_from (k:=k) (j:=j) hS i (by omega) hk
  intro v hv
  have hv : v ∈ (numStep k j (numLets k j S i) i).1:=hv
  unfold numStep at hv
  by_cases e : gI k (1 + i * 2) = -1
  ·rw [if_pos e] at hv; exact ih v hv
  ·rw [if_neg e] at hv
   dsimp only at hv
   by_cases e2 : (gI k (1 + i * 2)).toNat ∈ (numLets k j S i).1
   ·rw [if_pos e2] at hv; exact ih v hv
   ·rw [if_neg e2] at hv
    rcases List.mem_append.1 hv with hv | hv
    ·exact ih v hv
    ·rw [List.mem_singleton.1 hv]
     exact (hk i (by omega)).resolve_left e
theorem numN_from (hT : TabOf x K cl C κ) (h : XIn x K) (hc : ClsIn x K cl n) : ∀ j,(∀ i,i < j -> i < (numN κ (C []) i).1.length) -> ∀ v ∈ (numN κ (C []) j).1,∃ u k z,WdR x 0 u k z /\ C u = v
 | 0,_ => fun v hv => by
  have : v = C []:=by simpa [numN] using hv
  exact ⟨[],0,0,⟨rfl,rfl⟩,this.symm⟩
 | j + 1,hj => by
  have ih:=numN_from hT h hc j (fun i hi => hj i (by omega))
  have hlt:=hj j (by omega)
  obtain ⟨u,k,z,hu,e⟩:=ih ((numN κ (C []) j).1.getD j 0) (by
   rw [List.getD_eq_getElem?_getD,List.getElem?_eq_getElem hlt]
   exact List.getElem_mem hlt)
  refine numLets_from (P:=fun v => ∃ u k z,WdR x 0 u k z /\ C u = v) ih 9 (Nat.le_refl _) fun i hi => ?_
  rw [<- e,hT.at h hu]
  rcases h.leap hc hi with ⟨h1,_⟩ | ⟨b,hb,t,ht,hb1,hb2,hb3,hb4,hb5,hb6⟩
  ·exact Or.inl h1
  ·right
   have hw : WdR x 0 (((i + 1 : Nat) : Int) :: u) t (z + b.wt):=⟨b,hb,k,z,hu,hb2,hb1,hb3,rfl⟩
   refine ⟨_,t,_,hw,?_⟩
   have:=hT.c _ _ _ hw
   rw [hb4]
   omega
theorem RunN.heavy (hr : RunN κ (C []) m) (hT : TabOf x K cl C κ) (h : XIn x K) (hc : ClsIn x K cl n) {y : Int} (hy : 0 <= y) : (y ∈ (outK κ (numN κ (C []) m).1).final \/ ∃ a ∈ (outK κ (numN κ (C []) m).1).arcs,a.wt = y) ↔ (y ∈ x.final \/ ∃ a ∈ x.arcs,a.wt = y):=by
 obtain ⟨M,hM⟩ : ∃ M,M = (numN κ (C []) m).1:=⟨_,rfl⟩
 have hfrom:=numN_from hT h hc m hr.all
 have hmet:=hr.all_met hT h hc
 rw [<- hM] at hfrom hmet ⊢
 constructor
 ·rintro (h1 | ⟨a,ha,rfl⟩)
  ·obtain ⟨v,hv,rfl⟩:=List.mem_map.1 h1
   obtain ⟨u,k,z,hu,rfl⟩:=hfrom v hv
   rw [hT.at h hu,kind_end] at hy ⊢
   rcases gI_or (l:=x.final) (s:=k) with e | e
   ·omega
   ·exact Or.inl e
  ·obtain ⟨j,hj,ha⟩:=List.mem_flatMap.1 ha
   obtain ⟨i,hi,e⟩:=List.mem_filterMap.1 ha
   have hj:=List.mem_range.1 hj
   have hi:=List.mem_range.1 hi
   obtain ⟨u,k,z,hu,e2⟩:=hfrom (M.getD j 0) (by
    rw [List.getD_eq_getElem?_getD,List.getElem?_eq_getElem hj]
    exact List.getElem_mem hj)
   rw [<- e2,hT.at h hu] at e
   unfold arcK at e
   rcases h.leap hc hi with ⟨h1,_⟩ | ⟨b,hb,t,ht,hb1,hb2,hb3,hb4,hb5,hb6⟩
   ·rw [if_pos h1] at e; cases e
   ·rw [if_neg (by rw [hb4]; omega)] at e
    injection e with e
    rw [<- e]
    exact Or.inr ⟨b,hb,hb6.symm⟩
 ·rintro (h1 | ⟨a,ha,rfl⟩)
  ·obtain ⟨k,hk,e⟩:=List.mem_iff_getElem.1 h1
   have hkK : k < K:=by rw [<- h.gin.flen]; exact hk
   obtain ⟨u,z,hu⟩:=h.comes k hkK
   refine Or.inl (List.mem_map.2 ⟨C u,hmet u k z hu,?_⟩)
   rw [hT.at h hu,kind_end]
   unfold gI
   rw [List.getD_eq_getElem?_getD,List.getElem?_eq_getElem hk]
   exact e
  ·have hb:=h.gin.arcs a ha
   obtain ⟨u,z,hu⟩:=h.comes a.src.toNat (by omega)
   have hl:=h.lets a ha
   obtain ⟨i,hi9,hci⟩ : ∃ i : Nat,i < 9 /\ a.inp = ((i + 1 : Nat) : Int):=⟨(a.inp - 1).toNat,by omega,by omega⟩
   obtain ⟨j,hj⟩:=List.mem_iff_getElem?.1 (hmet u _ z hu)
   rcases h.leap hc (s:=a.src.toNat) hi9 with ⟨_,h1⟩ | ⟨b,hb1,t,ht,hb2,hb3,hb4,hb5,hb6,hb7⟩
   ·exact absurd ⟨by omega,hci⟩ (h1 a ha)
   ·obtain rfl:=arc_once h.ord ha hb1 (by omega) (by omega)
    have hjl:=(List.getElem?_eq_some_iff.1 hj).1
    have hg : M.getD j 0 = C u:=by rw [List.getD_eq_getElem?_getD,hj]; rfl
    refine Or.inr ⟨⟨(j : Int),((i + 1 : Nat) : Int),((i + 1 : Nat) : Int),(M.idxOf (gI (κ (C u)) (1 + i * 2)).toNat : Int),gI (κ (C u)) (1 + i * 2 + 1)⟩,List.mem_flatMap.2 ⟨j,List.mem_range.2 hjl,List.mem_filterMap.2 ⟨i,List.mem_range.2 hi9,?_⟩⟩,?_⟩
    ·unfold arcK
     rw [hg,hT.at h hu,if_neg (by rw [hb5]; omega)]
    ·dsimp only
     rw [hT.at h hu]
     exact hb7
end
end Go.Proofs.Yteehgcbjmdideab
