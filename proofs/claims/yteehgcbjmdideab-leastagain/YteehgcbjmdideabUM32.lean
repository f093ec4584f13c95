/- One way for each word,told as early as may be: its classes tell which beginnings go on alike. -/
import Derived.Test.YteehgcbjmdideabUM31
import Derived.Test.YteehgcbjmdideabUM29
import Derived.Test.YteehgcbjmdideabUM30
namespace Go.Proofs.Yteehgcbjmdideab
structure XIn (x : FstD) (K : Nat) : Prop where
 gin : GIn x K
 sta : x.start = 0
 k0 : 0 < K
 acc : AccD x
 lets : ∀ a ∈ x.arcs,1 <= a.inp /\ a.inp <= 9
 ord : x.arcs.Pairwise (fun a b => a.src < b.src \/ (a.src = b.src /\ a.inp < b.inp))
 rank : ∃ rk : Nat -> Nat,∀ e ∈ edgesE x.arcs,rk e.2 < rk e.1
 comes : ∀ k,k < K -> ∃ u z,WdR x 0 u k z
 early : ∀ k,0 < k -> k < K -> gI (toD x) k = 0
theorem arc_once {A : List ArcD} (ho : A.Pairwise (fun a b => a.src < b.src \/ (a.src = b.src /\ a.inp < b.inp))) {a b : ArcD} (ha : a ∈ A) (hb : b ∈ A) (h1 : a.src = b.src) (h2 : a.inp = b.inp) : a = b:=by
 obtain ⟨i,hi,rfl⟩:=List.mem_iff_getElem.1 ha
 obtain ⟨j,hj,rfl⟩:=List.mem_iff_getElem.1 hb
 have hp:=List.pairwise_iff_getElem.1 ho
 by_cases e : i = j
 ·subst e; rfl
 ·rcases Nat.lt_or_gt_of_ne e with h | h
  ·have:=hp i j hi hj h
   omega
  ·have:=hp j i hj hi h
   omega
theorem once_det {x : FstD} (ho : x.arcs.Pairwise (fun a b => a.src < b.src \/ (a.src = b.src /\ a.inp < b.inp))) (s : Nat) : ∀ (u : List Int) (k k' : Nat) (z z' : Int),WdR x s u k z -> WdR x s u k' z' -> k = k' /\ z = z'
 | [],k,k',z,z',h,h' => by
  obtain ⟨rfl,rfl⟩:=h
  obtain ⟨rfl,rfl⟩:=h'
  exact ⟨rfl,rfl⟩
 | c :: u,k,k',z,z',h,h' => by
  obtain ⟨a,ha,n,y,hr,hi,hs,hd,rfl⟩:=h
  obtain ⟨a',ha',n',y',hr',hi',hs',hd',rfl⟩:=h'
  obtain ⟨rfl,rfl⟩:=once_det ho s u n n' y y' hr hr'
  obtain rfl:=arc_once ho ha ha' (by omega) (by omega)
  exact ⟨by omega,rfl⟩
theorem endP_split {x : FstD} (ho : x.arcs.Pairwise (fun a b => a.src < b.src \/ (a.src = b.src /\ a.inp < b.inp))) {s k : Nat} {u : List Int} {z : Int} (hu : WdR x s u k z) (v : List Int) (y : Int) : EndP x s (v ++ u) y ↔ EndP x k v (y - z):=by
 constructor
 ·rintro ⟨n,c,hr,h0,rfl⟩
  obtain ⟨m,z1,h1,h2⟩:=(wdr_split v n c).1 hr
  obtain ⟨rfl,rfl⟩:=once_det ho s u _ _ _ _ hu h1
  exact ⟨n,_,h2,h0,by omega⟩
 ·rintro ⟨n,c,hr,h0,e⟩
  exact ⟨n,c + z,(wdr_split v n _).2 ⟨k,z,hu,by rw [show c + z - z = c by omega]; exact hr⟩,h0,by omega⟩
theorem endP_once {x : FstD} (ho : x.arcs.Pairwise (fun a b => a.src < b.src \/ (a.src = b.src /\ a.inp < b.inp))) {s : Nat} {u : List Int} {y y' : Int} (h : EndP x s u y) (h' : EndP x s u y') : y = y':=by
 obtain ⟨n,z,hr,_,rfl⟩:=h
 obtain ⟨n',z',hr',_,rfl⟩:=h'
 obtain ⟨rfl,rfl⟩:=once_det ho s u _ _ _ _ hr hr'
 rfl
section
variable {x : FstD} {K : Nat}
theorem XIn.wide (h : XIn x K) : WideA x K:=fun a ha => ⟨(h.gin.arcs a ha).1,(h.gin.arcs a ha).2.1,(h.gin.arcs a ha).2.2,by have:=(h.lets a ha).1; omega,(h.lets a ha).2⟩
theorem XIn.fin (h : XIn x K) (k : Nat) : gI x.final k = -1 \/ 0 <= gI x.final k:=gI_of _ (fun x => x = -1 \/ 0 <= x) h.gin.fin (Or.inl rfl) k
theorem XIn.no_back (h : XIn x K) {a : ArcD} (ha : a ∈ x.arcs) : a.dst ≠ 0:=by
 intro hd
 obtain ⟨rk,hr⟩:=h.rank
 have hb:=h.gin.arcs a ha
 obtain ⟨u,c,hu⟩:=h.comes a.src.toNat (by omega)
 have h1:=wdr_rank hr u 0 _ _ hu
 have h2:=hr _ (List.mem_map.2 ⟨a,ha,rfl⟩)
 dsimp only at h2
 rw [hd] at h2
 have : rk (Int.toNat 0) = rk 0:=rfl
 omega
theorem XIn.root (h : XIn x K) {u : List Int} {k : Nat} {z : Int} (hu : WdR x 0 u k z) : k = 0 ↔ u = []:=by
 cases u with
 | nil => obtain ⟨rfl,_⟩:=hu; simp
 | cons c u =>
  obtain ⟨a,ha,n,y,hr,hi,hs,hd,rfl⟩:=hu
  have:=h.no_back ha
  constructor
  ·intro e; omega
  ·intro e; cases e
theorem XIn.zero (h : XIn x K) {k : Nat} (h0 : 0 < k) (hk : k < K) : (∃ v,EndP x k v 0) /\ ∀ v y,EndP x k v y -> 0 <= y:=by
 have e:=h.early k h0 hk
 rcases h.gin.to k with ⟨e1,_⟩ | ⟨_,⟨v,m,z,h1,h2,h3⟩,h4⟩
 ·omega
 ·refine ⟨⟨v,m,z,h1,h2,by omega⟩,?_⟩
  rintro v' y ⟨m',z',h5,h6,rfl⟩
  have:=h4 v' m' z' h5 h6
  omega
theorem endP_nil {k : Nat} {y : Int} : EndP x k [] y ↔ 0 <= gI x.final k /\ y = gI x.final k:=by
 constructor
 ·rintro ⟨n,z,⟨rfl,rfl⟩,h0,rfl⟩; exact ⟨h0,by omega⟩
 ·rintro ⟨h0,rfl⟩; exact ⟨k,0,⟨rfl,rfl⟩,h0,by omega⟩
theorem endP_first {k : Nat} {v : List Int} {c y : Int} : EndP x k (v ++ [c]) y ↔ ∃ a ∈ x.arcs,∃ m : Nat,a.src = (k : Int) /\ a.inp = c /\ a.dst = (m : Int) /\ EndP x m v (y - a.wt):=by
 constructor
 ·rintro ⟨n,z,hr,h0,rfl⟩
  obtain ⟨a,ha,m,hs,hi,hd,hr⟩:=(wdr_first v k z).1 hr
  exact ⟨a,ha,m,hs,hi,hd,n,_,hr,h0,by omega⟩
 ·rintro ⟨a,ha,m,hs,hi,hd,n,z,hr,h0,e⟩
  exact ⟨n,z + a.wt,(wdr_first v k _).2 ⟨a,ha,m,hs,hi,hd,by rw [show z + a.wt - a.wt = z by omega]; exact hr⟩,h0,by omega⟩
theorem last_iff (ho : x.arcs.Pairwise (fun a b => a.src < b.src \/ (a.src = b.src /\ a.inp < b.inp))) {s c : Nat} {a : ArcD} : lastArc x.arcs s c = some a ↔ a ∈ x.arcs /\ a.src = (s : Int) /\ a.inp = (c : Int):=by
 unfold lastArc
 constructor
 ·intro h
  have:=List.mem_filter.1 (List.mem_of_getLast? h)
  refine ⟨this.1,?_⟩
  simpa using this.2
 ·rintro ⟨ha,hs,hc⟩
  have hm : a ∈ x.arcs.filter fun a => a.src == (s : Int) && a.inp == (c : Int):=List.mem_filter.2 ⟨ha,by simp [hs,hc]⟩
  rcases e : (x.arcs.filter fun a => a.src == (s : Int) && a.inp == (c : Int)).getLast? with _ | b
  ·rw [List.getLast?_eq_none_iff] at e
   rw [e] at hm
   cases hm
  ·have hb:=List.mem_filter.1 (List.mem_of_getLast? e)
   have hb2 : b.src = (s : Int) /\ b.inp = (c : Int):=by simpa using hb.2
   obtain rfl:=arc_once ho hb.1 ha (by omega) (by omega)
   exact e
theorem last_none (ho : x.arcs.Pairwise (fun a b => a.src < b.src \/ (a.src = b.src /\ a.inp < b.inp))) {s c : Nat} : lastArc x.arcs s c = none ↔ ∀ a ∈ x.arcs,¬ (a.src = (s : Int) /\ a.inp = (c : Int)):=by
 constructor
 ·rintro h a ha ⟨h1,h2⟩
  rw [(last_iff ho).2 ⟨ha,h1,h2⟩] at h
  cases h
 ·intro h
  rcases e : lastArc x.arcs s c with _ | a
  ·rfl
  ·have:=(last_iff ho).1 e
   exact absurd this.2 (h a this.1)
end
theorem kind_end (A : List ArcD) (fin cl : List Int) (s : Nat) : gI (kindL A fin cl s) 0 = gI fin s:=by
 rw [<- kcell_end A fin cl s]
 simp [gI,kindL,List.getD]
theorem kind_to (A : List ArcD) (fin cl : List Int) (s i : Nat) (hi : i < 9) : gI (kindL A fin cl s) (1 + i * 2) = leapTo A cl s (i + 1):=by
 rw [<- kcell_to A fin cl s i hi]
 unfold gI kindL
 rw [List.getD_eq_getElem?_getD,List.getElem?_map,List.getElem?_range (by omega)]
 show kcell A fin cl (s * 19 + (1 + i * 2)) = _
 rw [<- Nat.add_assoc]
theorem kind_co (A : List ArcD) (fin cl : List Int) (s i : Nat) (hi : i < 9) : gI (kindL A fin cl s) (1 + i * 2 + 1) = leapCo A s (i + 1):=by
 rw [<- kcell_co A fin cl s i hi]
 unfold gI kindL
 rw [List.getD_eq_getElem?_getD,List.getElem?_map,List.getElem?_range (by omega)]
 show kcell A fin cl (s * 19 + (1 + i * 2 + 1)) = _
 rw [show s * 19 + (1 + i * 2 + 1) = s * 19 + 1 + i * 2 + 1 by omega]
theorem kind_ext {A : List ArcD} {fin cl : List Int} {s s' : Nat} (h0 : gI fin s = gI fin s') (h1 : ∀ i,i < 9 -> leapTo A cl s (i + 1) = leapTo A cl s' (i + 1) /\ leapCo A s (i + 1) = leapCo A s' (i + 1)) : kindL A fin cl s = kindL A fin cl s':=by
 rw [kindL_eq]
 intro r hr
 by_cases r0 : r = 0
 ·subst r0
  rw [Nat.add_zero,Nat.add_zero,kcell_end,kcell_end]
  exact h0
 ·by_cases r1 : r % 2 = 1
  ·obtain ⟨i,hi,rfl⟩ : ∃ i,i < 9 /\ r = 1 + i * 2:=⟨r / 2,by omega,by omega⟩
   rw [<- Nat.add_assoc,<- Nat.add_assoc,kcell_to _ _ _ _ _ hi,kcell_to _ _ _ _ _ hi]
   exact (h1 i hi).1
  ·obtain ⟨i,hi,rfl⟩ : ∃ i,i < 9 /\ r = 1 + i * 2 + 1:=⟨r / 2 - 1,by omega,by omega⟩
   rw [show s * 19 + (1 + i * 2 + 1) = s * 19 + 1 + i * 2 + 1 by omega,show s' * 19 + (1 + i * 2 + 1) = s' * 19 + 1 + i * 2 + 1 by omega,kcell_co _ _ _ _ _ hi,kcell_co _ _ _ _ _ hi]
   exact (h1 i hi).2
structure ClsIn (x : FstD) (K : Nat) (cl : List Int) (n : Nat) : Prop where
 cls : Cls K cl n
 finer : Finer (kindL x.arcs x.final cl) K cl
 same : ∀ s s',s < K -> s' < K -> gI cl s = gI cl s' -> kindL x.arcs x.final cl s = kindL x.arcs x.final cl s'
section
variable {x : FstD} {K n : Nat} {cl : List Int}
theorem ClsIn.words (hc : ClsIn x K cl n) (h : XIn x K) : ∀ v : List Int,∀ k k' y,k < K -> k' < K -> gI cl k = gI cl k' -> EndP x k v y -> EndP x k' v y:=by
 refine snoc_ind ?_ ?_
 ·intro k k' y hk hk' e hv
  have hs:=hc.same k k' hk hk' e
  have h0:=kind_end x.arcs x.final cl k
  rw [hs,kind_end] at h0
  rw [endP_nil] at hv ⊢
  rw [h0]
  exact hv
 ·intro v c ih k k' y hk hk' e hv
  obtain ⟨a,ha,m,hs,hi,hd,hv2⟩:=endP_first.1 hv
  have hl:=h.lets a ha
  have hkk:=hc.same k k' hk hk' e
  obtain ⟨i,hi9,hci⟩ : ∃ i : Nat,i < 9 /\ c = ((i + 1 : Nat) : Int):=⟨(c - 1).toNat,by omega,by omega⟩
  subst hci
  have t1:=kind_to x.arcs x.final cl k i hi9
  have t2:=kind_co x.arcs x.final cl k i hi9
  rw [hkk,kind_to _ _ _ _ _ hi9] at t1
  rw [hkk,kind_co _ _ _ _ _ hi9] at t2
  have hb:=h.gin.arcs a ha
  have e1 : lastArc x.arcs k (i + 1) = some a:=(last_iff h.ord).2 ⟨ha,hs,hi⟩
  have hm : m < K:=by omega
  have hcm:=(hc.cls.lt m hm).1
  unfold leapTo at t1
  unfold leapCo at t2
  rcases e2 : lastArc x.arcs k' (i + 1) with _ | b
  ·simp only [e1,e2,hd,Int.toNat_natCast] at t1
   omega
  ·simp only [e1,e2,hd,Int.toNat_natCast] at t1 t2
   obtain ⟨hb1,hb2,hb3⟩:=(last_iff h.ord).1 e2
   have hbb:=h.gin.arcs b hb1
   have:=ih m b.dst.toNat (y - a.wt) hm (by omega) t1.symm hv2
   exact endP_first.2 ⟨b,hb1,b.dst.toNat,hb2,hb3,by omega,by rw [t2]; exact this⟩
theorem ClsIn.of_words (hc : ClsIn x K cl n) (h : XIn x K) {rk : Nat -> Nat} (hr : ∀ e ∈ edgesE x.arcs,rk e.2 < rk e.1) : ∀ d k k' : Nat,rk k < d -> k < K -> k' < K -> (∀ v y,EndP x k v y ↔ EndP x k' v y) -> gI cl k = gI cl k':=by
 intro d
 induction d with
 | zero => intro k k' h1; omega
 | succ d ih =>
  intro k k' hd hk hk' hw
  refine hc.finer k k' hk hk' (kind_ext ?_ fun i hi => ?_)
  ·have h1:=h.fin k
   have h2:=h.fin k'
   by_cases e : 0 <= gI x.final k
   ·exact (endP_nil.1 ((hw [] _).1 (endP_nil.2 ⟨e,rfl⟩))).2
   ·by_cases e2 : 0 <= gI x.final k'
    ·exact (endP_nil.1 ((hw [] _).2 (endP_nil.2 ⟨e2,rfl⟩))).2.symm
    ·omega
  ·have key : ∀ k k' : Nat,(∀ v y,EndP x k v y ↔ EndP x k' v y) -> ∀ a ∈ x.arcs,a.src = (k : Int) -> a.inp = ((i + 1 : Nat) : Int) -> ∃ b ∈ x.arcs,b.src = (k' : Int) /\ b.inp = ((i + 1 : Nat) : Int) /\ a.wt ≥ b.wt /\ ∀ v y,EndP x a.dst.toNat v (y - a.wt) -> EndP x b.dst.toNat v (y - b.wt):=by
    intro k k' hw a ha hs hi
    have hb:=h.gin.arcs a ha
    have hn:=h.no_back ha
    obtain ⟨⟨v,hv⟩,_⟩:=h.zero (k:=a.dst.toNat) (by omega) (by omega)
    have h1 : EndP x k (v ++ [a.inp]) a.wt:=endP_first.2 ⟨a,ha,a.dst.toNat,hs,rfl,by omega,by rw [Int.sub_self]; exact hv⟩
    obtain ⟨b,hb1,m,hb2,hb3,hb4,hb5⟩:=endP_first.1 ((hw _ _).1 h1)
    have hbb:=h.gin.arcs b hb1
    have hnb:=h.no_back hb1
    have h2:=(h.zero (k:=m) (by omega) (by omega)).2 _ _ hb5
    refine ⟨b,hb1,hb2,by omega,by omega,fun v y hv => ?_⟩
    have h3 : EndP x k (v ++ [a.inp]) y:=endP_first.2 ⟨a,ha,a.dst.toNat,hs,rfl,by omega,hv⟩
    obtain ⟨b',hb1',m',hb2',hb3',hb4',hb5'⟩:=endP_first.1 ((hw _ _).1 h3)
    obtain rfl:=arc_once h.ord hb1 hb1' (by omega) (by omega)
    rw [hb4',Int.toNat_natCast]
    exact hb5'
   have hws : ∀ v y,EndP x k' v y ↔ EndP x k v y:=fun v y => (hw v y).symm
   unfold leapTo leapCo
   rcases e1 : lastArc x.arcs k (i + 1) with _ | a
   ·rcases e2 : lastArc x.arcs k' (i + 1) with _ | b
    ·exact ⟨rfl,rfl⟩
    ·exfalso
     obtain ⟨b1,b2,b3⟩:=(last_iff h.ord).1 e2
     obtain ⟨a,a1,a2,a3,_⟩:=key k' k hws b b1 b2 b3
     exact (last_none h.ord).1 e1 a a1 ⟨a2,a3⟩
   ·obtain ⟨a1,a2,a3⟩:=(last_iff h.ord).1 e1
    obtain ⟨b,b1,b2,b3,b4,b5⟩:=key k k' hw a a1 a2 a3
    have e2 : lastArc x.arcs k' (i + 1) = some b:=(last_iff h.ord).2 ⟨b1,b2,b3⟩
    obtain ⟨a',a1',a2',a3',a4',a5'⟩:=key k' k hws b b1 b2 b3
    obtain rfl:=arc_once h.ord a1 a1' (by omega) (by omega)
    have hab:=h.gin.arcs a a1
    have hbb:=h.gin.arcs b b1
    have hrk:=hr _ (List.mem_map.2 ⟨a,a1,rfl⟩)
    dsimp only at hrk
    have ewt : a.wt = b.wt:=by omega
    have hsk : rk a.src.toNat = rk k:=by rw [a2,Int.toNat_natCast]
    simp only [e2]
    refine ⟨ih a.dst.toNat b.dst.toNat (by omega) (by omega) (by omega) fun v y => ⟨fun hv => ?_,fun hv => ?_⟩,ewt⟩
    ·have:=b5 v (y + a.wt) (by rw [show y + a.wt - a.wt = y by omega]; exact hv)
     rw [ewt,show y + b.wt - b.wt = y by omega] at this
     exact this
    ·have:=a5' v (y + b.wt) (by rw [show y + b.wt - b.wt = y by omega]; exact hv)
     rw [ewt,show y + b.wt - b.wt = y by omega] at this
     exact this
theorem XIn.alone (h : XIn x K) {k : Nat} (h0 : 0 < k) (hk : k < K) : ¬ ∀ v,(∃ y,EndP x 0 v y) -> ∃ y,EndP x k v y:=by
 intro hw
 obtain ⟨rk,hr⟩:=h.rank
 obtain ⟨u,z,hu⟩:=h.comes k hk
 have hu1 : u ≠ []:=fun e => by have:=(h.root hu).2 e; omega
 have hul : 1 <= u.length:=by
  cases u with
  | nil => exact absurd rfl hu1
  | cons c u => simp
 have long : ∀ m : Nat,∃ v y,m <= v.length /\ EndP x k v y:=by
  intro m
  induction m with
  | zero =>
   obtain ⟨⟨v,hv⟩,_⟩:=h.zero h0 hk
   exact ⟨v,0,Nat.zero_le _,hv⟩
  | succ m ih =>
   obtain ⟨v,y,h1,h2⟩:=ih
   have : EndP x 0 (v ++ u) (y + z):=(endP_split h.ord hu v _).2 (by rw [show y + z - z = y by omega]; exact h2)
   obtain ⟨y',hy'⟩:=hw _ ⟨_,this⟩
   exact ⟨v ++ u,y',by rw [List.length_append]; omega,hy'⟩
 obtain ⟨v,y,h1,n,z',hv,_⟩:=long (rk k + 1)
 have:=wdr_rank hr v k n z' hv
 omega
end
end Go.Proofs.Yteehgcbjmdideab
/- What a table of classes tells of the words: beginnings that go on alike,ends,letters. -/
namespace Go.Proofs.Yteehgcbjmdideab
def EndSame (t : FstD) (s0 : Nat) (x : FstD) (r0 : Nat) : Prop:=∀ u a b,MinP (EndP t s0 u) a -> MinP (EndP x r0 u) b -> a = b
theorem minP_of {p : Int -> Prop} (h0 : ∀ y,p y -> 0 <= y) : ∃ a,MinP p a:=by
 by_cases h : ∃ y,p y
 ·obtain ⟨x,h1,h2⟩:=least_of p h0 h
  exact ⟨x,Or.inr ⟨h0 x h1,h1,h2⟩⟩
 ·exact ⟨-1,Or.inl ⟨rfl,fun y hy => h ⟨y,hy⟩⟩⟩
theorem endP_pos {t : FstD} {N s0 : Nat} (hw : WideA t N) {u : List Int} {y : Int} (h : EndP t s0 u y) : 0 <= y:=by
 obtain ⟨n,z,hr,h0,rfl⟩:=h
 have:=hr.nonneg hw
 omega
theorem end_exists {t : FstD} {N : Nat} (hw : WideA t N) (s0 : Nat) (u : List Int) : ∃ a,MinP (EndP t s0 u) a:=minP_of fun _ h => endP_pos hw h
theorem tow_exists {t : FstD} {N : Nat} (hw : WideA t N) (s0 : Nat) (u : List Int) : ∃ a,MinP (ToW t s0 u) a:=minP_of fun _ h => by
 obtain ⟨v,h⟩:=h
 exact endP_pos hw h
theorem MinP.yes {p : Int -> Prop} {a y : Int} (h : MinP p a) (hy : p y) : 0 <= a /\ p a /\ a <= y:=by
 rcases h with ⟨_,h2⟩ | ⟨h1,h2,h3⟩
 ·exact absurd hy (h2 y)
 ·exact ⟨h1,h2,h3 y hy⟩
theorem MinP.has {p : Int -> Prop} {a : Int} (h : MinP p a) (h0 : 0 <= a) : p a /\ ∀ y,p y -> a <= y:=by
 rcases h with ⟨h2,_⟩ | ⟨h1,h2,h3⟩
 ·omega
 ·exact ⟨h2,h3⟩
section
variable {t x : FstD} {N K s0 r0 : Nat}
theorem EndSame.symm (h : EndSame t s0 x r0) : EndSame x r0 t s0:=fun u a b ha hb => (h u b a hb ha).symm
theorem EndSame.word (h : EndSame t s0 x r0) (ht : WideA t N) (hx : WideA x K) {u : List Int} {y : Int} (hy : EndP t s0 u y) : ∃ y',EndP x r0 u y' /\ y' <= y:=by
 obtain ⟨a,ha⟩:=end_exists ht s0 u
 obtain ⟨b,hb⟩:=end_exists hx r0 u
 have e:=h u a b ha hb
 have h1:=ha.yes hy
 have h2:=hb.has (by omega)
 exact ⟨b,h2.1,by omega⟩
theorem EndSame.to (h : EndSame t s0 x r0) (ht : WideA t N) (hx : WideA x K) {u : List Int} {a : Int} (ha : MinP (ToW t s0 u) a) : MinP (ToW x r0 u) a:=by
 rcases ha with ⟨e,h1⟩ | ⟨h0,⟨v,hv⟩,h2⟩
 ·refine Or.inl ⟨e,fun y hy => ?_⟩
  obtain ⟨v,hv⟩:=hy
  obtain ⟨y',h3,_⟩:=h.symm.word hx ht hv
  exact h1 y' ⟨v,h3⟩
 ·have low : ∀ y,ToW x r0 u y -> a <= y:=fun y hy => by
   obtain ⟨v,hv⟩:=hy
   obtain ⟨y',h3,h4⟩:=h.symm.word hx ht hv
   have:=h2 y' ⟨v,h3⟩
   omega
  obtain ⟨y',h3,h4⟩:=h.word ht hx hv
  have h5:=low y' ⟨v,h3⟩
  have : y' = a:=by omega
  rw [this] at h3
  exact Or.inr ⟨h0,⟨v,h3⟩,low⟩
theorem EndSame.alive (h : EndSame t s0 x r0) (ht : WideA t N) (hx : WideA x K) (hl : LiveW t s0) {c : Int} {u : List Int} (ha : Alive t s0 (c :: u)) : Alive x r0 (c :: u):=by
 obtain ⟨y,v,hv⟩:=hl c u ha
 obtain ⟨y',h1,_⟩:=h.word ht hx hv
 exact tow_alive ⟨v,h1⟩
end
section
variable {x : FstD} {K n : Nat} {cl : List Int}
theorem XIn.live (h : XIn x K) : LiveW x 0:=by
 rintro c u ⟨k,z,hk⟩
 have h0 : k ≠ 0:=fun e => by have:=(h.root hk).1 e; cases this
 have hkK:=hk.lt h.wide h.k0
 obtain ⟨⟨v,hv⟩,_⟩:=h.zero (k:=k) (by omega) hkK
 exact ⟨z,v,(endP_split h.ord hk v z).2 (by rw [Int.sub_self]; exact hv)⟩
theorem XIn.tow (h : XIn x K) {u : List Int} {k : Nat} {z : Int} (hu : WdR x 0 u k z) (h0 : u ≠ []) : MinP (ToW x 0 u) z:=by
 have hk0 : k ≠ 0:=fun e => h0 ((h.root hu).1 e)
 have hkK:=hu.lt h.wide h.k0
 obtain ⟨⟨v,hv⟩,hz⟩:=h.zero (k:=k) (by omega) hkK
 refine Or.inr ⟨hu.nonneg h.wide,⟨v,(endP_split h.ord hu v z).2 (by rw [Int.sub_self]; exact hv)⟩,?_⟩
 rintro y ⟨v',hy⟩
 have:=hz _ _ ((endP_split h.ord hu v' y).1 hy)
 omega
theorem XIn.end (h : XIn x K) {u : List Int} {k : Nat} {z : Int} (hu : WdR x 0 u k z) : MinP (EndP x 0 u) (if gI x.final k < 0 then -1 else z + gI x.final k):=by
 have hz:=hu.nonneg h.wide
 have key : ∀ y,EndP x 0 u y ↔ 0 <= gI x.final k /\ y = z + gI x.final k:=fun y => by
  have:=endP_split h.ord hu [] y
  rw [List.nil_append] at this
  rw [this,endP_nil]
  constructor
  ·rintro ⟨h1,h2⟩; exact ⟨h1,by omega⟩
  ·rintro ⟨h1,h2⟩; exact ⟨h1,by omega⟩
 by_cases e : gI x.final k < 0
 ·rw [if_pos e]
  exact Or.inl ⟨rfl,fun y hy => by have:=((key y).1 hy).1; omega⟩
 ·rw [if_neg e]
  exact Or.inr ⟨by omega,(key _).2 ⟨by omega,rfl⟩,fun y hy => by have:=((key y).1 hy).2; omega⟩
theorem ClsIn.alike (hc : ClsIn x K cl n) (h : XIn x K) {u u' : List Int} {k k' : Nat} {z z' b b' : Int} (hu : WdR x 0 u k z) (hu' : WdR x 0 u' k' z') (hb : MinP (ToW x 0 u) b) (hb' : MinP (ToW x 0 u') b') : AlikeP x 0 u x 0 u' b b' ↔ gI cl k = gI cl k':=by
 have hkK:=hu.lt h.wide h.k0
 have hkK':=hu'.lt h.wide h.k0
 obtain ⟨rk,hr⟩:=h.rank
 -- the same words
 have dom : ∀ {u u' : List Int} {k k' : Nat} {z z' b b' : Int},WdR x 0 u k z -> WdR x 0 u' k' z' -> AlikeP x 0 u x 0 u' b b' -> ∀ v,(∃ y,EndP x k v y) -> ∃ y,EndP x k' v y:=by
  intro u u' k k' z z' b b' hu hu' ha v ⟨y,hy⟩
  obtain ⟨p,hp⟩:=end_exists h.wide 0 (v ++ u)
  obtain ⟨q,hq⟩:=end_exists h.wide 0 (v ++ u')
  have h1:=hp.yes ((endP_split h.ord hu v (y + z)).2 (by rw [show y + z - z = y by omega]; exact hy))
  have h2:=(ha v p q hp hq).1
  have h3:=hq.has (by omega)
  exact ⟨_,(endP_split h.ord hu' v q).1 h3.1⟩
 by_cases e0 : k = 0
 ·by_cases e0' : k' = 0
  ·have e1:=(h.root hu).1 e0
   have e2:=(h.root hu').1 e0'
   subst e0 e0' e1 e2
   have e3:=hb.unique hb'
   subst e3
   refine ⟨fun _ => rfl,fun _ s p q hp hq => ?_⟩
   have:=hp.unique hq
   subst this
   exact ⟨Iff.rfl,fun _ => rfl⟩
  ·subst e0
   refine ⟨fun ha => ?_,fun e => ?_⟩
   ·exact absurd (dom hu hu' ha) (h.alone (by omega) hkK')
   ·exfalso
    refine h.alone (k:=k') (by omega) hkK' ?_
    rintro v ⟨y,hy⟩
    exact ⟨y,hc.words h v _ _ y hkK hkK' e hy⟩
 ·by_cases e0' : k' = 0
  ·subst e0'
   refine ⟨fun ha => ?_,fun e => ?_⟩
   ·refine absurd (dom hu' hu (b:=b') (b':=b) ?_) (h.alone (k:=k) (by omega) hkK)
    intro s p q hp hq
    have h1:=ha s q p hq hp
    exact ⟨h1.1.symm,fun h0 => by have:=h1.2 (by omega); omega⟩
   ·exfalso
    refine h.alone (k:=k) (by omega) hkK ?_
    rintro v ⟨y,hy⟩
    exact ⟨y,hc.words h v _ _ y hkK' hkK e.symm hy⟩
  ·have n1 : u ≠ []:=fun e => e0 ((h.root hu).2 e)
   have n2 : u' ≠ []:=fun e => e0' ((h.root hu').2 e)
   have b1:=hb.unique (h.tow hu n1)
   have b2:=hb'.unique (h.tow hu' n2)
   subst b1 b2
   refine ⟨fun ha => ?_,fun e => ?_⟩
   ·have one : ∀ {u u' : List Int} {k k' : Nat} {b b' : Int},WdR x 0 u k b -> WdR x 0 u' k' b' -> AlikeP x 0 u x 0 u' b b' -> ∀ v y,EndP x k v y -> EndP x k' v y:=by
     intro u u' k k' b b' hu hu' ha v y hy
     obtain ⟨p,hp⟩:=end_exists h.wide 0 (v ++ u)
     obtain ⟨q,hq⟩:=end_exists h.wide 0 (v ++ u')
     have hy1:=(endP_split h.ord hu v (y + b)).2 (by rw [show y + b - b = y by omega]; exact hy)
     have h1:=hp.yes hy1
     have h2:=ha v p q hp hq
     have h3:=hq.has (by omega)
     have h4:=endP_once h.ord hy1 h1.2.1
     have h5:=h2.2 h1.1
     have h6:=(endP_split h.ord hu' v q).1 h3.1
     rw [show q - b' = y by omega] at h6
     exact h6
    refine hc.of_words h hr (rk k + 1) k k' (by omega) hkK hkK' fun v y => ⟨one hu hu' ha v y,one hu' hu ?_ v y⟩
    intro s p q hp hq
    have h1:=ha s q p hq hp
    exact ⟨h1.1.symm,fun h0 => by have:=h1.2 (by omega); omega⟩
   ·intro s p q hp hq
    have key : ∀ y,EndP x 0 (s ++ u) y ↔ EndP x 0 (s ++ u') (y - b + b'):=fun y => by
     rw [endP_split h.ord hu s y,endP_split h.ord hu' s _,show y - b + b' - b' = y - b by omega]
     exact ⟨hc.words h s _ _ _ hkK hkK' e,hc.words h s _ _ _ hkK' hkK e.symm⟩
    refine ⟨⟨fun h1 => ?_,fun h1 => ?_⟩,fun h1 => ?_⟩
    ·by_cases h2 : q < 0
     ·exact h2
     ·have h3:=(hq.has (by omega)).1
      have h4:=(key (q - b' + b)).2 (by rw [show q - b' + b - b + b' = q by omega]; exact h3)
      have:=hp.yes h4
      omega
    ·by_cases h2 : p < 0
     ·exact h2
     ·have:=hq.yes ((key p).1 (hp.has (by omega)).1)
      omega
    ·have h3:=(hp.has h1).1
     have h4:=(key p).1 h3
     have h5:=hq.yes h4
     have h6:=endP_once h.ord h4 h5.2.1
     omega
end
structure DocTab (t : FstD) (s0 : Nat) (C : List Int -> Nat) (κ : Nat -> List Int) : Prop where
 alike : ∀ u u' b b',Alive t s0 u -> Alive t s0 u' -> MinP (ToW t s0 u) b -> MinP (ToW t s0 u') b' -> (AlikeP t s0 u t s0 u' b b' ↔ C u = C u')
 fin : ∀ u e b,Alive t s0 u -> MinP (EndP t s0 u) e -> MinP (ToW t s0 u) b -> gI (κ (C u)) 0 = if e < 0 then -1 else e - (if u = [] then 0 else b)
 no : ∀ u i,i < 9 -> Alive t s0 u -> ¬ Alive t s0 (((i + 1 : Nat) : Int) :: u) -> gI (κ (C u)) (1 + i * 2) = -1
 yes : ∀ u i b b',i < 9 -> Alive t s0 (((i + 1 : Nat) : Int) :: u) -> MinP (ToW t s0 u) b -> MinP (ToW t s0 (((i + 1 : Nat) : Int) :: u)) b' -> gI (κ (C u)) (1 + i * 2) = (C (((i + 1 : Nat) : Int) :: u) : Int) /\ gI (κ (C u)) (1 + i * 2 + 1) = b' - (if u = [] then 0 else b)
structure TabOf (x : FstD) (K : Nat) (cl : List Int) (C : List Int -> Nat) (κ : Nat -> List Int) : Prop where
 c : ∀ u k z,WdR x 0 u k z -> (C u : Int) = gI cl k
 κ : ∀ s,s < K -> κ (gI cl s).toNat = kindL x.arcs x.final cl s
section
variable {x : FstD} {K n : Nat} {cl : List Int} {C : List Int -> Nat} {κ : Nat -> List Int}
theorem tab_exists (h : XIn x K) (hc : ClsIn x K cl n) : ∃ C κ,TabOf x K cl C κ:=by
 have h1 : ∀ u : List Int,∃ c : Nat,∀ k z,WdR x 0 u k z -> (c : Int) = gI cl k:=fun u => by
  by_cases e : ∃ k z,WdR x 0 u k z
  ·obtain ⟨k,z,hk⟩:=e
   refine ⟨(gI cl k).toNat,fun k' z' hk' => ?_⟩
   obtain ⟨rfl,_⟩:=once_det h.ord 0 u _ _ _ _ hk hk'
   have:=(hc.cls.lt k (hk.lt h.wide h.k0)).1
   omega
  ·exact ⟨0,fun k z hk => absurd ⟨k,z,hk⟩ e⟩
 have h2 : ∀ v : Nat,∃ l : List Int,∀ s,s < K -> (gI cl s).toNat = v -> l = kindL x.arcs x.final cl s:=fun v => by
  by_cases e : ∃ s,s < K /\ (gI cl s).toNat = v
  ·obtain ⟨s,hs,hv⟩:=e
   refine ⟨kindL x.arcs x.final cl s,fun s' hs' hv' => hc.same s s' hs hs' ?_⟩
   have:=(hc.cls.lt s hs).1
   have:=(hc.cls.lt s' hs').1
   omega
  ·exact ⟨[],fun s hs hv => absurd ⟨s,hs,hv⟩ e⟩
 exact ⟨fun u => Classical.choose (h1 u),fun v => Classical.choose (h2 v),⟨fun u => Classical.choose_spec (h1 u),fun s hs => Classical.choose_spec (h2 (gI cl s).toNat) s hs rfl⟩⟩
theorem TabOf.at (hT : TabOf x K cl C κ) (h : XIn x K) {u : List Int} {k : Nat} {z : Int} (hu : WdR x 0 u k z) : κ (C u) = kindL x.arcs x.final cl k:=by
 have h1:=hT.c u k z hu
 have h2:=hT.κ k (hu.lt h.wide h.k0)
 rw [<- h1,Int.toNat_natCast] at h2
 exact h2
theorem TabOf.doc (hT : TabOf x K cl C κ) (h : XIn x K) (hc : ClsIn x K cl n) {t : FstD} {N s0 : Nat} (ht : WideA t N) (hl : LiveW t s0) (hs : EndSame t s0 x 0) : DocTab t s0 C κ:=by
 have al : ∀ {u : List Int},Alive t s0 u -> ∃ k z,WdR x 0 u k z:=fun {u} ha => by
  cases u with
  | nil => exact ⟨0,0,rfl,rfl⟩
  | cons c u => exact hs.alive ht h.wide hl ha
 have la : ∀ {u : List Int},(∃ k z,WdR x 0 u k z) -> Alive t s0 u:=fun {u} ha => by
  cases u with
  | nil => exact ⟨s0,0,rfl,rfl⟩
  | cons c u => exact hs.symm.alive h.wide ht h.live ha
 have tw : ∀ {u : List Int} {b : Int},MinP (ToW t s0 u) b -> MinP (ToW x 0 u) b:=fun hb => hs.to ht h.wide hb
 refine ⟨fun u u' b b' ha ha' hb hb' => ?_,fun u e b ha he hb => ?_,fun u i hi ha hn => ?_,fun u i b b' hi ha hb hb' => ?_⟩
 ·obtain ⟨k,z,hk⟩:=al ha
  obtain ⟨k',z',hk'⟩:=al ha'
  have h1:=hc.alike h hk hk' (tw hb) (tw hb')
  have h2 : AlikeP t s0 u t s0 u' b b' ↔ AlikeP x 0 u x 0 u' b b':=by
   constructor
   ·intro hA s p q hp hq
    obtain ⟨p',hp'⟩:=end_exists ht s0 (s ++ u)
    obtain ⟨q',hq'⟩:=end_exists ht s0 (s ++ u')
    have e1:=hs _ _ _ hp' hp
    have e2:=hs _ _ _ hq' hq
    have:=hA s p' q' hp' hq'
    rw [e1,e2] at this
    exact this
   ·intro hA s p q hp hq
    obtain ⟨p',hp'⟩:=end_exists h.wide 0 (s ++ u)
    obtain ⟨q',hq'⟩:=end_exists h.wide 0 (s ++ u')
    have e1:=hs _ _ _ hp hp'
    have e2:=hs _ _ _ hq hq'
    have:=hA s p' q' hp' hq'
    rw [<- e1,<- e2] at this
    exact this
  rw [h2,h1]
  have c1:=hT.c u k z hk
  have c2:=hT.c u' k' z' hk'
  omega
 ·obtain ⟨k,z,hk⟩:=al ha
  rw [hT.at h hk,kind_end]
  have e1:=hs u _ _ he (h.end hk)
  have hz:=hk.nonneg h.wide
  have hf:=h.fin k
  by_cases hu : u = []
  ·subst hu
   obtain ⟨rfl,rfl⟩:=hk
   rw [if_pos rfl,e1]
   by_cases e : gI x.final 0 < 0
   ·rw [if_pos e,if_pos (by omega)]; omega
   ·rw [if_neg e,if_neg (by omega)]; omega
  ·rw [if_neg hu,e1,(tw hb).unique (h.tow hk hu)]
   by_cases e : gI x.final k < 0
   ·rw [if_pos e,if_pos (by omega)]; omega
   ·rw [if_neg e,if_neg (by omega)]; omega
 ·obtain ⟨k,z,hk⟩:=al ha
  rw [hT.at h hk,kind_to _ _ _ _ _ hi]
  unfold leapTo
  rw [(last_none h.ord).2 ?_]
  rintro a ha1 ⟨ha2,ha3⟩
  refine hn (la ⟨a.dst.toNat,z + a.wt,a,ha1,k,z,hk,ha3,ha2,?_,rfl⟩)
  have:=h.gin.arcs a ha1
  omega
 ·obtain ⟨m,y,hm⟩:=al ha
  obtain ⟨a,ha1,k,z,hk,ha2,ha3,ha4,e1⟩:=id hm
  have hl1 : lastArc x.arcs k (i + 1) = some a:=(last_iff h.ord).2 ⟨ha1,ha3,ha2⟩
  rw [hT.at h hk,kind_to _ _ _ _ _ hi,kind_co _ _ _ _ _ hi]
  unfold leapTo leapCo
  simp only [hl1,ha4,Int.toNat_natCast]
  refine ⟨(hT.c _ _ _ hm).symm,?_⟩
  have e2:=(tw hb').unique (h.tow hm (by simp))
  by_cases hu : u = []
  ·subst hu
   obtain ⟨rfl,rfl⟩:=hk
   rw [if_pos rfl]
   omega
  ·rw [if_neg hu,(tw hb).unique (h.tow hk hu)]
   omega
end
end Go.Proofs.Yteehgcbjmdideab
/- The numbers of classes as they are first come to: all are met; as great weights as there were. -/
namespace Go.Proofs.Yteehgcbjmdideab
theorem cls_exists {x : FstD} {K : Nat} (hK : 0 < K) (hok : ∀ a ∈ x.arcs,∃ t : Nat,a.dst = (t : Int) /\ t < K) : ∃ cl n,n <= K /\ ClsIn x K cl n:=by
 have key : ∀ (d : Nat) (cl : List Int) (n : Nat),K - n < d -> n <= K -> Cls K cl n -> Finer (kindL x.arcs x.final cl) K cl -> ∃ cl n,n <= K /\ ClsIn x K cl n:=by
  intro d
  induction d with
  | zero => intro cl n h; omega
  | succ d ih =>
   intro cl n hd hn hc hf
   by_cases e : (distK (kindL x.arcs x.final cl) K).length = n
   ·exact ⟨cl,n,hn,hc,hf,fun s s' hs hs' h => finer_same hc hf e hs hs' h⟩
   ·have h1:=finer_more hc hf
    have h2:=distK_len (κ:=kindL x.arcs x.final cl) K
    exact ih _ _ (by omega) h2 (clsK_cls _ K) (finer_next hok hf)
 exact key (K - 1 + 1) _ 1 (by omega) (by omega) (cls_zero hK) (finer_zero _ K)
def arcK (k : List Int) (j : Nat) (M : List Nat) (i : Nat) : Option ArcD:=if gI k (1 + i * 2) = -1 then none else some ⟨(j : Int),((i + 1 : Nat) : Int),((i + 1 : Nat) : Int),(M.idxOf (gI k (1 + i * 2)).toNat : Int),gI k (1 + i * 2 + 1)⟩
section
variable {k : List Int} {j : Nat} {M : List Nat} {S : List Nat × List ArcD}
theorem numStep_pre (i : Nat) : ∃ l,(numStep k j S i).1 = S.1 ++ l:=by
 unfold numStep
 split
 ·exact ⟨[],by simp⟩
 ·dsimp only
  split
  ·exact ⟨[],by simp⟩
  ·exact ⟨[_],rfl⟩
theorem numLets_pre : ∀ i,∃ l,(numLets k j S i).1 = S.1 ++ l
 | 0 => ⟨[],by simp [numLets]⟩
 | i + 1 => by
  obtain ⟨l,hl⟩:=numLets_pre i
  obtain ⟨l2,hl2⟩:=numStep_pre (k:=k) (j:=j) (S:=numLets k j S i) i
  exact ⟨l ++ l2,by show (numStep k j (numLets k j S i) i).1 = _; rw [hl2,hl,List.append_assoc]⟩
theorem numLets_mono (i : Nat) : ∀ d,∃ l,(numLets k j S (i + d)).1 = (numLets k j S i).1 ++ l
 | 0 => ⟨[],by simp⟩
 | d + 1 => by
  obtain ⟨l,hl⟩:=numLets_mono i d
  obtain ⟨l2,hl2⟩:=numStep_pre (k:=k) (j:=j) (S:=numLets k j S (i + d)) (i + d)
  exact ⟨l ++ l2,by show (numStep k j (numLets k j S (i + d)) (i + d)).1 = _; rw [hl2,hl,List.append_assoc]⟩
theorem numStep_has (i : Nat) (h : gI k (1 + i * 2) ≠ -1) : (gI k (1 + i * 2)).toNat ∈ (numStep k j S i).1:=by
 unfold numStep
 rw [if_neg h]
 dsimp only
 by_cases e : (gI k (1 + i * 2)).toNat ∈ S.1
 ·rw [if_pos e]; exact e
 ·rw [if_neg e]; simp
theorem numLets_has {i m : Nat} (hi : i < m) (h : gI k (1 + i * 2) ≠ -1) : (gI k (1 + i * 2)).toNat ∈ (numLets k j S m).1:=by
 obtain ⟨l,hl⟩:=numLets_mono (k:=k) (j:=j) (S:=S) (i + 1) (m - (i + 1))
 rw [show i + 1 + (m - (i + 1)) = m by omega] at hl
 rw [hl]
 exact List.mem_append.2 (Or.inl (numStep_has i h))
theorem idx_pre {l l' : List Nat} {t : Nat} (h : t ∈ l) : (l ++ l').idxOf t = l.idxOf t:=by rw [List.idxOf_append,if_pos h]
theorem numLets_arcs : ∀ i,(∃ l,M = (numLets k j S i).1 ++ l) -> (numLets k j S i).2 = S.2 ++ (List.range i).filterMap (arcK k j M)
 | 0,_ => by simp [numLets]
 | i + 1,⟨l,hl⟩ => by
  obtain ⟨l2,hl2⟩:=numStep_pre (k:=k) (j:=j) (S:=numLets k j S i) i
  have ih:=numLets_arcs i ⟨l2 ++ l,by rw [hl]; show (numStep k j (numLets k j S i) i).1 ++ l = _; rw [hl2,List.append_assoc]⟩
  rw [List.range_succ,List.filterMap_append,<- List.append_assoc,<- ih]
  show (numStep k j (numLets k j S i) i).2 = _
  by_cases e : gI k (1 + i * 2) = -1
  ·have : [i].filterMap (arcK k j M) = []:=by simp [arcK,e]
   rw [this,List.append_nil]
   unfold numStep
   rw [if_pos e]
  ·have hm:=numStep_has (k:=k) (j:=j) (S:=numLets k j S i) i e
   have hM : M.idxOf (gI k (1 + i * 2)).toNat = (numStep k j (numLets k j S i) i).1.idxOf (gI k (1 + i * 2)).toNat:=by
    rw [hl]
    exact idx_pre hm
   have : [i].filterMap (arcK k j M) = [⟨(j : Int),((i + 1 : Nat) : Int),((i + 1 : Nat) : Int),(M.idxOf (gI k (1 + i * 2)).toNat : Int),gI k (1 + i * 2 + 1)⟩]:=by
    simp [arcK,e]
   rw [this,hM]
   unfold numStep
   rw [if_neg e]
end
section
variable {κ : Nat -> List Int} {c0 : Nat}
theorem numN_mono (j : Nat) : ∀ d,∃ l,(numN κ c0 (j + d)).1 = (numN κ c0 j).1 ++ l
 | 0 => ⟨[],by simp⟩
 | d + 1 => by
  obtain ⟨l,hl⟩:=numN_mono j d
  obtain ⟨l2,hl2⟩:=numLets_pre (k:=κ ((numN κ c0 (j + d)).1.getD (j + d) 0)) (j:=j + d) (S:=((numN κ c0 (j + d)).1,(numN κ c0 (j + d)).2.2)) 9
  refine ⟨l ++ l2,?_⟩
  show (numLets (κ ((numN κ c0 (j + d)).1.getD (j + d) 0)) (j + d) ((numN κ c0 (j + d)).1,(numN κ c0 (j + d)).2.2) 9).1 = _
  rw [hl2,hl,List.append_assoc]
theorem numN_to {j n : Nat} (h : j <= n) : ∃ l,(numN κ c0 n).1 = (numN κ c0 j).1 ++ l:=by
 obtain ⟨l,hl⟩:=numN_mono (κ:=κ) (c0:=c0) j (n - j)
 rw [show j + (n - j) = n by omega] at hl
 exact ⟨l,hl⟩
structure RunN (κ : Nat -> List Int) (c0 n : Nat) : Prop where
 all : ∀ j,j < n -> j < (numN κ c0 j).1.length
 done : (numN κ c0 n).1.length = n
def outK (κ : Nat -> List Int) (M : List Nat) : FstD:=⟨(M.length : Int),0,M.map fun v => gI (κ v) 0,(List.range M.length).flatMap fun j => (List.range 9).filterMap (arcK (κ (M.getD j 0)) j M)⟩
theorem numN_is {n : Nat} (h : RunN κ c0 n) : ∀ j,j <= n -> (numN κ c0 j).2.1 = ((numN κ c0 n).1.take j).map (fun v => gI (κ v) 0) /\ (numN κ c0 j).2.2 = (List.range j).flatMap fun i => (List.range 9).filterMap (arcK (κ ((numN κ c0 n).1.getD i 0)) i (numN κ c0 n).1)
 | 0,_ => by simp [numN]
 | j + 1,hj => by
  obtain ⟨h1,h2⟩:=numN_is h j (by omega)
  obtain ⟨l,hl⟩:=numN_to (κ:=κ) (c0:=c0) (show j <= n by omega)
  have hlt:=h.all j (by omega)
  have he : (numN κ c0 n).1.getD j 0 = (numN κ c0 j).1.getD j 0:=by
   rw [hl,List.getD_eq_getElem?_getD,List.getElem?_append_left hlt,List.getD_eq_getElem?_getD]
  have hn : j < (numN κ c0 n).1.length:=by rw [h.done]; omega
  have hg : (numN κ c0 n).1[j]? = some ((numN κ c0 j).1.getD j 0):=by
   rw [<- he,List.getD_eq_getElem?_getD,List.getElem?_eq_getElem hn]
   rfl
  constructor
  ·show (numN κ c0 j).2.1 ++ [gI (κ ((numN κ c0 j).1.getD j 0)) 0] = _
   rw [h1,List.take_add_one,hg]
   simp
  ·obtain ⟨l2,hl2⟩:=numN_to (κ:=κ) (c0:=c0) hj
   rw [List.range_succ (n:=j),List.flatMap_append,<- h2]
   show (numLets (κ ((numN κ c0 j).1.getD j 0)) j ((numN κ c0 j).1,(numN κ c0 j).2.2) 9).2 = _
   rw [numLets_arcs (M:=(numN κ c0 n).1) 9 ⟨l2,hl2⟩,<- he]
   simp
theorem RunN.out {n : Nat} (h : RunN κ c0 n) : (⟨(n : Int),0,(numN κ c0 n).2.1,(numN κ c0 n).2.2⟩ : FstD) = outK κ (numN κ c0 n).1:=by
 obtain ⟨h1,h2⟩:=numN_is h n (Nat.le_refl _)
 unfold outK
 rw [h1,h2,h.done,List.take_of_length_le (by rw [h.done]; exact Nat.le_refl _)]
theorem RunN.first {n : Nat} (_h : RunN κ c0 n) : (numN κ c0 n).1[0]? = some c0:=by
 obtain ⟨l,hl⟩:=numN_to (κ:=κ) (c0:=c0) (Nat.zero_le n)
 rw [hl]
 rfl
theorem RunN.next {n : Nat} (h : RunN κ c0 n) {v i : Nat} (hv : v ∈ (numN κ c0 n).1) (hi : i < 9) (hne : gI (κ v) (1 + i * 2) ≠ -1) : (gI (κ v) (1 + i * 2)).toNat ∈ (numN κ c0 n).1:=by
 obtain ⟨j,hj⟩:=List.mem_iff_getElem?.1 hv
 have hjn : j < n:=by have:=(List.getElem?_eq_some_iff.1 hj).1; rw [h.done] at this; exact this
 obtain ⟨l,hl⟩:=numN_to (κ:=κ) (c0:=c0) (show j <= n by omega)
 have hlt:=h.all j hjn
 have he : (numN κ c0 j).1.getD j 0 = v:=by
  rw [hl,List.getElem?_append_left hlt] at hj
  rw [List.getD_eq_getElem?_getD,hj]
  rfl
 obtain ⟨l2,hl2⟩:=numN_to (κ:=κ) (c0:=c0) (show j + 1 <= n by omega)
 rw [hl2]
 refine List.mem_append.2 (Or.inl ?_)
 show _ ∈ (numLets (κ ((numN κ c0 j).1.getD j 0)) j ((numN κ c0 j).1,(numN κ c0 j).2.2) 9).1
 rw [he]
 exact numLets_has hi hne
end
section
variable {x : FstD} {K n m : Nat} {cl : List Int} {C : List Int -> Nat} {κ : Nat -> List Int}
theorem XIn.leap (h : XIn x K) (hc : ClsIn x K cl n) {s i : Nat} (hi : i < 9) : (gI (kindL x.arcs x.final cl s) (1 + i * 2) = -1 /\ ∀ a ∈ x.arcs,¬ (a.src = (s : Int) /\ a.inp = ((i + 1 : Nat) : Int))) \/ ∃ a ∈ x.arcs,∃ t : Nat,t < K /\ a.src = (s : Int) /\ a.inp = ((i + 1 : Nat) : Int) /\ a.dst = (t : Int) /\ gI (kindL x.arcs x.final cl s) (1 + i * 2) = gI cl t /\ 0 <= gI cl t /\ gI (kindL x.arcs x.final cl s) (1 + i * 2 + 1) = a.wt:=by
 rw [kind_to _ _ _ _ _ hi,kind_co _ _ _ _ _ hi]
 unfold leapTo leapCo
 rcases e : lastArc x.arcs s (i + 1) with _ | a
 ·exact Or.inl ⟨rfl,(last_none h.ord).1 e⟩
 ·obtain ⟨a1,a2,a3⟩:=(last_iff h.ord).1 e
  have hb:=h.gin.arcs a a1
  refine Or.inr ⟨a,a1,a.dst.toNat,by omega,a2,a3,by omega,rfl,(hc.cls.lt _ (by omega)).1,rfl⟩
theorem RunN.all_met (hr : RunN κ (C []) m) (hT : TabOf x K cl C κ) (h : XIn x K) (hc : ClsIn x K cl n) : ∀ (u : List Int) (k : Nat) (z : Int),WdR x 0 u k z -> C u ∈ (numN κ (C []) m).1
 | [],k,z,_ => List.mem_of_getElem? hr.first
 | c :: u,k,z,hu => by
  obtain ⟨a,ha,k',z',hu',hi,hs,hd,rfl⟩:=id hu
  have ih:=hr.all_met hT h hc u k' z' hu'
  have hl:=h.lets a ha
  obtain ⟨i,hi9,hci⟩ : ∃ i : Nat,i < 9 /\ a.inp = ((i + 1 : Nat) : Int):=⟨(a.inp - 1).toNat,by omega,by omega⟩
  rcases h.leap hc hi9 with ⟨_,h1⟩ | ⟨b,hb,t,ht,hb1,hb2,hb3,hb4,hb5,hb6⟩
  ·exact absurd ⟨hs,hci⟩ (h1 a ha)
  ·obtain rfl:=arc_once h.ord ha hb (by omega) (by omega)
   have hkt : k = t:=by omega
   subst hkt
   rw [<- hT.at h hu'] at hb4
   have:=hr.next ih hi9 (by rw [hb4]; omega)
   rw [hb4,<- hT.c _ _ _ hu,Int.toNat_natCast] at this
   exact this
theorem numLets_from {P : Nat -> Prop} {k : List Int} {j : Nat} {S : List Nat × List ArcD} (hS : ∀ v ∈ S.1,P v) : ∀ i,i <= 9 -> (∀ i,i < 9 -> gI k (1 + i * 2) = -1 \/ P (gI k (1 + i * 2)).toNat) -> ∀ v ∈ (numLets k j S i).1,P v
 | 0,_,_ => hS
 | i + 1,hi9,hk => by
  have ih:=numLets_from (k:=k) (j:=j) hS i (by omega) hk
  intro v hv
  have hv : v ∈ (numStep k j (numLets k j S i) i).1:=hv
  unfold numStep at hv
  by_cases e : gI k (1 + i * 2) = -1
  ·rw [if_pos e] at hv; exact ih v hv
  ·rw [if_neg e] at hv
   dsimp only at hv
   by_cases e2 : (gI k (1 + i * 2)).toNat ∈ (numLets k j S i).1
   ·rw [if_pos e2] at hv; exact ih v hv
   ·rw [if_neg e2] at hv
    rcases List.mem_append.1 hv with hv | hv
    ·exact ih v hv
    ·rw [List.mem_singleton.1 hv]
     exact (hk i (by omega)).resolve_left e
theorem numN_from (hT : TabOf x K cl C κ) (h : XIn x K) (hc : ClsIn x K cl n) : ∀ j,(∀ i,i < j -> i < (numN κ (C []) i).1.length) -> ∀ v ∈ (numN κ (C []) j).1,∃ u k z,WdR x 0 u k z /\ C u = v
 | 0,_ => fun v hv => by
  have : v = C []:=by simpa [numN] using hv
  exact ⟨[],0,0,⟨rfl,rfl⟩,this.symm⟩
 | j + 1,hj => by
  have ih:=numN_from hT h hc j (fun i hi => hj i (by omega))
  have hlt:=hj j (by omega)
  obtain ⟨u,k,z,hu,e⟩:=ih ((numN κ (C []) j).1.getD j 0) (by
   rw [List.getD_eq_getElem?_getD,List.getElem?_eq_getElem hlt]
   exact List.getElem_mem hlt)
  refine numLets_from (P:=fun v => ∃ u k z,WdR x 0 u k z /\ C u = v) ih 9 (Nat.le_refl _) fun i hi => ?_
  rw [<- e,hT.at h hu]
  rcases h.leap hc hi with ⟨h1,_⟩ | ⟨b,hb,t,ht,hb1,hb2,hb3,hb4,hb5,hb6⟩
  ·exact Or.inl h1
  ·right
   have hw : WdR x 0 (((i + 1 : Nat) : Int) :: u) t (z + b.wt):=⟨b,hb,k,z,hu,hb2,hb1,hb3,rfl⟩
   refine ⟨_,t,_,hw,?_⟩
   have:=hT.c _ _ _ hw
   rw [hb4]
   omega
theorem RunN.heavy (hr : RunN κ (C []) m) (hT : TabOf x K cl C κ) (h : XIn x K) (hc : ClsIn x K cl n) {y : Int} (hy : 0 <= y) : (y ∈ (outK κ (numN κ (C []) m).1).final \/ ∃ a ∈ (outK κ (numN κ (C []) m).1).arcs,a.wt = y) ↔ (y ∈ x.final \/ ∃ a ∈ x.arcs,a.wt = y):=by
 obtain ⟨M,hM⟩ : ∃ M,M = (numN κ (C []) m).1:=⟨_,rfl⟩
 have hfrom:=numN_from hT h hc m hr.all
 have hmet:=hr.all_met hT h hc
 rw [<- hM] at hfrom hmet ⊢
 constructor
 ·rintro (h1 | ⟨a,ha,rfl⟩)
  ·obtain ⟨v,hv,rfl⟩:=List.mem_map.1 h1
   obtain ⟨u,k,z,hu,rfl⟩:=hfrom v hv
   rw [hT.at h hu,kind_end] at hy ⊢
   rcases gI_or (l:=x.final) (s:=k) with e | e
   ·omega
   ·exact Or.inl e
  ·obtain ⟨j,hj,ha⟩:=List.mem_flatMap.1 ha
   obtain ⟨i,hi,e⟩:=List.mem_filterMap.1 ha
   have hj:=List.mem_range.1 hj
   have hi:=List.mem_range.1 hi
   obtain ⟨u,k,z,hu,e2⟩:=hfrom (M.getD j 0) (by
    rw [List.getD_eq_getElem?_getD,List.getElem?_eq_getElem hj]
    exact List.getElem_mem hj)
   rw [<- e2,hT.at h hu] at e
   unfold arcK at e
   rcases h.leap hc hi with ⟨h1,_⟩ | ⟨b,hb,t,ht,hb1,hb2,hb3,hb4,hb5,hb6⟩
   ·rw [if_pos h1] at e; cases e
   ·rw [if_neg (by rw [hb4]; omega)] at e
    injection e with e
    rw [<- e]
    exact Or.inr ⟨b,hb,hb6.symm⟩
 ·rintro (h1 | ⟨a,ha,rfl⟩)
  ·obtain ⟨k,hk,e⟩:=List.mem_iff_getElem.1 h1
   have hkK : k < K:=by rw [<- h.gin.flen]; exact hk
   obtain ⟨u,z,hu⟩:=h.comes k hkK
   refine Or.inl (List.mem_map.2 ⟨C u,hmet u k z hu,?_⟩)
   rw [hT.at h hu,kind_end]
   unfold gI
   rw [List.getD_eq_getElem?_getD,List.getElem?_eq_getElem hk]
   exact e
  ·have hb:=h.gin.arcs a ha
   obtain ⟨u,z,hu⟩:=h.comes a.src.toNat (by omega)
   have hl:=h.lets a ha
   obtain ⟨i,hi9,hci⟩ : ∃ i : Nat,i < 9 /\ a.inp = ((i + 1 : Nat) : Int):=⟨(a.inp - 1).toNat,by omega,by omega⟩
   obtain ⟨j,hj⟩:=List.mem_iff_getElem?.1 (hmet u _ z hu)
   rcases h.leap hc (s:=a.src.toNat) hi9 with ⟨_,h1⟩ | ⟨b,hb1,t,ht,hb2,hb3,hb4,hb5,hb6,hb7⟩
   ·exact absurd ⟨by omega,hci⟩ (h1 a ha)
   ·obtain rfl:=arc_once h.ord ha hb1 (by omega) (by omega)
    have hjl:=(List.getElem?_eq_some_iff.1 hj).1
    have hg : M.getD j 0 = C u:=by rw [List.getD_eq_getElem?_getD,hj]; rfl
    refine Or.inr ⟨⟨(j : Int),((i + 1 : Nat) : Int),((i + 1 : Nat) : Int),(M.idxOf (gI (κ (C u)) (1 + i * 2)).toNat : Int),gI (κ (C u)) (1 + i * 2 + 1)⟩,List.mem_flatMap.2 ⟨j,List.mem_range.2 hjl,List.mem_filterMap.2 ⟨i,List.mem_range.2 hi9,?_⟩⟩,?_⟩
    ·unfold arcK
     rw [hg,hT.at h hu,if_neg (by rw [hb5]; omega)]
    ·dsimp only
     rw [hT.at h hu]
     exact hb7
end
end Go.Proofs.Yteehgcbjmdideab
