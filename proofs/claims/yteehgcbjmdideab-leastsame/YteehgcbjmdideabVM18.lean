/- What is read through the subsets costs the same; as many words as rows. -/
import Derived.Test.YteehgcbjmdideabVM17
import Derived.Test.YteehgcbjmdideabVM01
import Derived.Test.YteehgcbjmdideabVM00
import Derived.Sort.Grow
import Derived.Lib.SliceRun
import Derived.Deep.Upon
set_option maxRecDepth 100000
namespace Go.Proofs.Yteehgcbjmdideab
theorem gI_out {c : List Int} {s : Nat} (h : c.length <= s) : gI c s = -1:=by
 unfold gI
 rw [List.getD_eq_getElem?_getD,List.getElem?_eq_none h]
 rfl
theorem gI_mem {c : List Int} {s : Nat} (h : s < c.length) : gI c s ∈ c:=by
 unfold gI
 rw [List.getD_eq_getElem?_getD,List.getElem?_eq_getElem h,Option.getD_some]
 exact List.getElem_mem _
theorem ownEnd_what {f : FstD} {at' : List Int} {N : Nat} (hl : f.final.length = N) (hf : ∀ x ∈ f.final,x = -1 \/ (0 <= x /\ x <= 1000000000)) (hb : ∀ s,gI at' s = -1 \/ (0 <= gI at' s /\ gI at' s <= 300000000000)) :
  (ownEnd f at' = -1 /\ ∀ s,s < N -> gI at' s = -1 \/ gI f.final s = -1) \/
  (0 <= ownEnd f at' /\ (∃ s,s < N /\ 0 <= gI at' s /\ 0 <= gI f.final s /\ ownEnd f at' = gI at' s + gI f.final s) /\ ∀ s,s < N -> 0 <= gI at' s -> 0 <= gI f.final s -> ownEnd f at' <= gI at' s + gI f.final s):=by
 have hfin : ∀ s,s < N -> gI f.final s = -1 \/ (0 <= gI f.final s /\ gI f.final s <= 1000000000):=fun s hs => hf _ (gI_mem (by omega))
 have hpl : ∀ s,s < N -> (plusC (gI at' s) (gI f.final s) = -1 /\ (gI at' s = -1 \/ gI f.final s = -1)) \/ (plusC (gI at' s) (gI f.final s) = gI at' s + gI f.final s /\ 0 <= gI at' s /\ 0 <= gI f.final s):=by
  intro s hs
  have h1:=hb s
  have h2:=hfin s hs
  unfold plusC
  split
  ·left; exact ⟨rfl,by omega⟩
  ·right; exact ⟨rfl,by omega,by omega⟩
 have hmem : ∀ x,x ∈ endsL f at' N ↔ ∃ s,s < N /\ x = plusC (gI at' s) (gI f.final s):=by
  intro x
  unfold endsL
  rw [List.mem_map]
  constructor
  ·rintro ⟨s,hs,rfl⟩; exact ⟨s,List.mem_range.1 hs,rfl⟩
  ·rintro ⟨s,hs,rfl⟩; exact ⟨s,List.mem_range.2 hs,rfl⟩
 have hp : PrOk (endsL f at' N):=by
  intro x hx
  obtain ⟨s,hs,rfl⟩:=(hmem x).1 hx
  have h1:=hb s
  have h2:=hfin s hs
  rcases hpl s hs with ⟨e,_⟩ | ⟨e,_,_⟩ <;> omega
 have he : ownEnd f at' = cheapD (endsL f at' N):=by unfold ownEnd; rw [hl]
 rw [he]
 rcases cheapD_what _ hp with ⟨e1,e2⟩ | ⟨e1,e2,e3⟩
 ·left
  refine ⟨e1,fun s hs => ?_⟩
  have:=e2 _ ((hmem _).2 ⟨s,hs,rfl⟩)
  rcases hpl s hs with ⟨_,h⟩ | ⟨h,h3,h4⟩
  ·exact h
  ·omega
 ·right
  refine ⟨e1,?_,fun s hs h1 h2 => ?_⟩
  ·obtain ⟨s,hs,h1⟩:=(hmem _).1 e2
   rcases hpl s hs with ⟨h2,_⟩ | ⟨h2,h3,h4⟩
   ·omega
   ·exact ⟨s,hs,h3,h4,by omega⟩
  ·have:=e3 _ ((hmem _).2 ⟨s,hs,rfl⟩)
   rcases hpl s hs with ⟨h3,h4⟩ | ⟨h3,_,_⟩
   ·omega
   ·omega
structure SubIn (f : FstD) (N s0 : Nat) : Prop where
 hN : N <= 200
 hs : s0 < N
 wide : WideA f N
 acc : AccD f
 wt : ∀ a ∈ f.arcs,0 <= a.wt /\ a.wt <= 1000000000
 flen : f.final.length = N
 fin : ∀ x ∈ f.final,x = -1 \/ (0 <= x /\ x <= 1000000000)
 sta : f.start = (s0 : Int)
 st : f.states = (N : Int)
section
variable {f : FstD} {N s0 K : Nat} {g : FstD} {ms : List (List Int)}
theorem Sub.acc (h : Sub f N s0 K g ms) : AccD g:=by
 intro a ha
 obtain ⟨k,l,i,t,_,_,_,_,_,rfl⟩:=h.part.is a ha
 exact ⟨rfl,by show (i : Int) + 1 ≠ 0; omega⟩
theorem Sub.row (h : Sub f N s0 K g ms) (hK : K <= 300) {k : Nat} {l : List Int} (hk : ms[k]? = some l) (s : Nat) : gI (l.take N) s = -1 \/ (0 <= gI (l.take N) s /\ gI (l.take N) s <= 300000000000):=by
 have h1:=row_prices h.part.bd hk N s
 have h2:=(List.getElem?_eq_some_iff.1 hk).1
 have h3:=h.len
 omega
theorem Sub.best (h : Sub f N s0 K g ms) (hf : SubIn f N s0) (hK : K <= 300) {l : List Int} {x : Int} (hb : BestP f l l s0 x) : BestP g l l 0 x:=by
 have hms : ms.length <= 300:=by rw [h.len]; exact hK
 have key : ∀ k c,WdR g 0 l.reverse k c -> ∃ r,ms[k]? = some r /\ Enc f s0 N (r.take N) c l.reverse /\ gI g.final k = ownEnd f (r.take N):=fun k c hr => by
  obtain ⟨r,hr1,hr2⟩:=h.part.run hf.wide hf.wt hf.hs hf.hN hms l.reverse k c hr
  exact ⟨r,hr1,hr2,h.fin k r hr1⟩
 rcases hb with ⟨rfl,hno⟩ | ⟨hx0,hx,hle⟩
 ·refine Or.inl ⟨rfl,fun y hy => ?_⟩
  obtain ⟨k,c,hr,h0,_⟩:=(tot_word h.acc l 0 y).1 hy
  obtain ⟨r,hr1,hE,hfi⟩:=key k c hr
  rcases ownEnd_what hf.flen hf.fin (h.row hK hr1) with ⟨e,_⟩ | ⟨_,⟨s,hs,h1,h2,h3⟩,_⟩
  ·omega
  ·exact hno _ ((tot_word hf.acc l s0 _).2 ⟨s,_,hE.live hs (by omega),h2,rfl⟩)
 ·obtain ⟨n,z,hr,h0,e⟩:=(tot_word hf.acc l s0 x).1 hx
  obtain ⟨k,c,hg⟩:=h.reads hf.wide hf.acc hf.wt hf.hs hf.hN hK _ n z hr
  obtain ⟨r,hr1,hE,hfi⟩:=key k c hg
  have hn:=hr.lt hf.wide hf.hs
  have hV : 0 <= gI (r.take N) n /\ gI (r.take N) n + c <= z:=by
   rcases hE.2.2 n hn with ⟨_,h2⟩ | ⟨h1,h2,h3⟩
   ·exact absurd hr (h2 z)
   ·by_cases e1 : gI (r.take N) n = -1
    ·rw [if_pos e1] at h1; omega
    ·rw [if_neg e1] at h3
     have:=h3 z hr
     rcases hE.2.1 n with e2 | e2
     ·exact absurd e2 e1
     ·exact ⟨e2,this⟩
  have hxe : x = c + gI g.final k /\ 0 <= gI g.final k:=by
   rw [hfi]
   rcases ownEnd_what hf.flen hf.fin (h.row hK hr1) with ⟨_,h2⟩ | ⟨h1,⟨s,hs,h2,h3,h4⟩,h5⟩
   ·rcases h2 n hn with h2 | h2 <;> omega
   ·have h6:=h5 n hn hV.1 h0
    have h7:=hle _ ((tot_word hf.acc l s0 _).2 ⟨s,_,hE.live hs (by omega),h3,rfl⟩)
    omega
  refine Or.inr ⟨hx0,(tot_word h.acc l 0 x).2 ⟨k,c,hg,hxe.2,hxe.1⟩,fun y hy => ?_⟩
  obtain ⟨k',c',hg',_,e'⟩:=(tot_word h.acc l 0 y).1 hy
  obtain ⟨rfl,rfl⟩:=h.part.det _ _ _ _ _ hg hg'
  omega
def Alive (f : FstD) (s0 : Nat) (u : List Int) : Prop:=∃ n z,WdR f s0 u n z
theorem Part.row_live {k0 i0 : Nat} (h : Part f N s0 ms g.arcs k0 i0) (hf : SubIn f N s0) (hK : ms.length <= 300) {u : List Int} {k : Nat} {c : Int} (hr : WdR g 0 u k c) : Alive f s0 u:=by
 cases u with
 | nil => exact ⟨s0,0,rfl,rfl⟩
 | cons x u =>
  obtain ⟨a,ha,k',c',hr',hi,hsr,hd,rfl⟩:=hr
  obtain ⟨l,hl,hE⟩:=h.run hf.wide hf.wt hf.hs hf.hN hK u k' c' hr'
  obtain ⟨k2,l2,i,t,_,h9,h1,h2,h3,rfl⟩:=h.is a ha
  dsimp only at hi hsr hd
  obtain rfl : k2 = k':=by omega
  have : l2 = l:=by rw [h1] at hl; injection hl
  subst this
  have hkK:=(List.getElem?_eq_some_iff.1 h1).1
  have hpr:=nxt_pr (N:=N) hf.wt h.bd h1 (by omega) i
  have hx:=hE.next hf.wide hf.hs i
  rw [hi] at hx
  have hno : ¬ ∀ n,n < N -> gI (behL (l2.take N) N f.arcs i) n = -1:=fun hall => h2 ((cheapD_none (behL_len _ _ _ _) hpr).2 hall)
  obtain ⟨n,hn⟩:=Classical.not_forall.1 hno
  obtain ⟨hn1,hn2⟩:=Classical.not_imp.1 hn
  exact ⟨n,_,hx.live hn1 hn2⟩
theorem Part.words {k0 i0 : Nat} (h : Part f N s0 ms g.arcs k0 i0) (hf : SubIn f N s0) (hK : ms.length <= 300) : ∀ m,m <= ms.length -> ∃ L : List (List Int),L.length = m /\ L.Nodup /\ (∀ u ∈ L,Alive f s0 u) /\ ∀ u ∈ L,∃ k c,k < m /\ WdR g 0 u k c
 | 0,_ => ⟨[],rfl,List.nodup_nil,fun u hu => (by cases hu),fun u hu => by cases hu⟩
 | m + 1,hm => by
  obtain ⟨L,h1,h2,h3,h4⟩:=h.words hf hK m (by omega)
  obtain ⟨u,c,hr⟩:=h.comes (m + 1) m (by omega) (by omega)
  refine ⟨u :: L,by rw [List.length_cons,h1],List.nodup_cons.2 ⟨fun hin => ?_,h2⟩,fun v hv => ?_,fun v hv => ?_⟩
  ·obtain ⟨k,c',hk,hr'⟩:=h4 u hin
   have:=(h.det u _ _ _ _ hr hr').1
   omega
  ·rcases List.mem_cons.1 hv with rfl | hv
   ·exact h.row_live hf hK hr
   ·exact h3 v hv
  ·rcases List.mem_cons.1 hv with rfl | hv
   ·exact ⟨m,c,by omega,hr⟩
   ·obtain ⟨k,c',hk,hr'⟩:=h4 v hv
    exact ⟨k,c',by omega,hr'⟩
end
theorem nodup_sub {α : Type} : ∀ (L M : List α),L.Nodup -> (∀ x ∈ L,x ∈ M) -> L.length <= M.length
 | [],_,_,_ => Nat.zero_le _
 | a :: t,M,hn,h => by
  rw [List.nodup_cons] at hn
  obtain ⟨p,q,rfl⟩:=List.append_of_mem (h a List.mem_cons_self)
  have:=nodup_sub t (p ++ q) hn.2 (fun x hx => by
   have h1:=h x (List.mem_cons_of_mem _ hx)
   rcases List.mem_append.1 h1 with h1 | h1
   ·exact List.mem_append_left _ h1
   ·rcases List.mem_cons.1 h1 with h1 | h1
    ·exact absurd (h1 ▸ hx) hn.1
    ·exact List.mem_append_right _ h1)
  simp only [List.length_append,List.length_cons] at this ⊢
  omega
end Go.Proofs.Yteehgcbjmdideab
/- Ranks,and the beginnings of words,each once. -/
namespace Go.Proofs.Yteehgcbjmdideab
theorem first_not (P : Nat -> Prop) : ∀ k,¬ P k -> ∃ m,m <= k /\ ¬ P m /\ ∀ j,j < m -> P j
 | 0,h => ⟨0,Nat.le_refl _,h,fun j hj => absurd hj (Nat.not_lt_zero _)⟩
 | k + 1,h => by
  by_cases e : ∃ m,m <= k /\ ¬ P m
  ·obtain ⟨m,hm,hn⟩:=e
   obtain ⟨m',h1,h2,h3⟩:=first_not P m hn
   exact ⟨m',by omega,h2,h3⟩
  ·refine ⟨k + 1,Nat.le_refl _,h,fun j hj => ?_⟩
   exact Classical.byContradiction fun hn => e ⟨j,by omega,hn⟩
theorem rank_of {E : List (Nat × Nat)} {N : Nat} (hE : ∀ e ∈ E,e.1 < N /\ e.2 < N) (h : ¬ RoundE E N) : ∃ r : Nat -> Nat,(∀ v,r v <= N + 1) /\ ∀ e ∈ E,r e.1 < r e.2:=by
 have key : ∀ v,∃ k,k <= N + 1 /\ ¬ endsAt E k v /\ ∀ j,j < k -> endsAt E j v:=by
  intro v
  by_cases hv : v < N
  ·obtain ⟨m,h1,h2,h3⟩:=first_not (fun k => endsAt E k v) N (fun he => h ⟨v,hv,he⟩)
   exact ⟨m,by omega,h2,h3⟩
  ·obtain ⟨m,h1,h2,h3⟩:=first_not (fun k => endsAt E k v) 1 (by
    rintro ⟨u,hu,_⟩
    have:=(hE _ hu).2
    dsimp only at this
    omega)
   exact ⟨m,by omega,h2,h3⟩
 obtain ⟨r,hr⟩:=Classical.axiomOfChoice key
 refine ⟨r,fun v => (hr v).1,fun e he => ?_⟩
 obtain ⟨_,h1,_⟩:=hr e.2
 obtain ⟨_,_,h2⟩:=hr e.1
 rcases hk : r e.2 with _ | k
 ·rw [hk] at h1
  exact absurd trivial h1
 ·rw [hk] at h1
  by_cases hlt : r e.1 < k + 1
  ·exact hlt
  ·exact absurd ⟨e.1,he,h2 k (by omega)⟩ h1
def rkRow (h : Nat -> Nat) (l : List Int) : Nat -> Nat
 | 0 => 0
 | n + 1 => if gI l n = -1 then rkRow h l n else max (rkRow h l n) (h n + 1)
theorem rkRow_ge {h : Nat -> Nat} {l : List Int} : ∀ {N n : Nat},n < N -> gI l n ≠ -1 -> h n + 1 <= rkRow h l N
 | 0,_,hn,_ => by omega
 | N + 1,n,hn,he => by
  unfold rkRow
  by_cases e : n = N
  ·subst e
   rw [if_neg he]
   exact Nat.le_max_right _ _
  ·have:=rkRow_ge (h:=h) (show n < N by omega) he
   split
   ·exact this
   ·exact Nat.le_trans this (Nat.le_max_left _ _)
theorem rkRow_le {h : Nat -> Nat} {l : List Int} {m : Nat} : ∀ {N : Nat},(∀ n,n < N -> gI l n ≠ -1 -> h n + 1 <= m) -> rkRow h l N <= m
 | 0,_ => Nat.zero_le _
 | N + 1,hh => by
  unfold rkRow
  have:=rkRow_le (h:=h) (l:=l) (m:=m) (N:=N) (fun n hn => hh n (by omega))
  split
  ·exact this
  ·rename_i e
   exact Nat.max_le.2 ⟨this,hh N (by omega) e⟩
def cntN (E : List (Nat × Nat)) : Nat -> Nat -> Nat
 | 0,_ => 0
 | d + 1,s => min (1 + sumC (cntN E d) s E) 201
theorem sumC_cong {c c' : Nat -> Nat} {s : Nat} : ∀ {E : List (Nat × Nat)},(∀ e ∈ E,e.1 = s -> c e.2 = c' e.2) -> sumC c s E = sumC c' s E
 | [],_ => rfl
 | e :: E,h => by
  unfold sumC
  rw [sumC_cong (E:=E) (fun d hd => h d (List.mem_cons_of_mem _ hd))]
  by_cases he : e.1 = s
  ·rw [if_pos he,if_pos he,h e List.mem_cons_self he]
  ·rw [if_neg he,if_neg he]
theorem cntN_same {E : List (Nat × Nat)} {rk : Nat -> Nat} (hr : ∀ e ∈ E,rk e.2 < rk e.1) : ∀ (d d' s : Nat),rk s < d -> rk s < d' -> cntN E d s = cntN E d' s
 | 0,_,_,h,_ => by omega
 | _ + 1,0,_,_,h => by omega
 | d + 1,d' + 1,s,h,h' => by
  unfold cntN
  rw [sumC_cong (c:=cntN E d) (c':=cntN E d') fun e he hs => cntN_same hr d d' e.2 (by have:=hr e he; rw [hs] at this; omega) (by have:=hr e he; rw [hs] at this; omega)]
def cntF (E : List (Nat × Nat)) (rk : Nat -> Nat) (s : Nat) : Nat:=cntN E (rk s + 1) s
theorem cntF_ok {E : List (Nat × Nat)} {rk : Nat -> Nat} (hr : ∀ e ∈ E,rk e.2 < rk e.1) : CntOk E (cntF E rk):=by
 intro s
 unfold cntF
 conv => lhs; unfold cntN
 rw [sumC_cong (c:=cntN E (rk s)) (c':=fun s => cntN E (rk s + 1) s) fun e he hs => cntN_same hr _ _ e.2 (by have:=hr e he; rw [hs] at this; omega) (by omega)]
def wdsN (ars : List ArcD) : Nat -> Nat -> List (List Int)
 | 0,_ => []
 | d + 1,s => [] :: (ars.filter (fun a => a.src.toNat == s)).flatMap (fun a => (wdsN ars d a.dst.toNat).map (fun v => a.inp :: v))
theorem cntN_wds (ars : List ArcD) : ∀ (d s : Nat),cntN (edgesE ars) d s = min (wdsN ars d s).length 201
 | 0,s => by simp [cntN,wdsN]
 | d + 1,s => by
  unfold cntN wdsN
  have key : ∀ (l : List ArcD) (c : Nat),min (c + sumC (cntN (edgesE ars) d) s (edgesE l)) 201 = min (c + ((l.filter (fun a => a.src.toNat == s)).flatMap (fun a => (wdsN ars d a.dst.toNat).map (fun v => a.inp :: v))).length) 201:=by
   intro l
   induction l with
   | nil => intro c; rfl
   | cons a l ih =>
    intro c
    have e1 : edgesE (a :: l) = (a.src.toNat,a.dst.toNat) :: edgesE l:=rfl
    rw [e1]
    unfold sumC
    dsimp only
    by_cases hs : a.src.toNat = s
    ·rw [if_pos hs,List.filter_cons_of_pos (by simpa using hs),List.flatMap_cons,List.length_append,List.length_map,cntN_wds ars d a.dst.toNat]
     have h1:=ih (c + min (wdsN ars d a.dst.toNat).length 201)
     rw [<- Nat.add_assoc,h1]
     omega
    ·rw [if_neg hs,List.filter_cons_of_neg (by simpa using hs),Nat.zero_add]
     exact ih c
  rw [key ars 1,List.length_cons,Nat.add_comm]
theorem wdr_first {g : FstD} {k : Nat} {c : Int} : ∀ (u : List Int) (s : Nat) (z : Int),WdR g s (u ++ [c]) k z ↔ ∃ a ∈ g.arcs,∃ m : Nat,a.src = (s : Int) /\ a.inp = c /\ a.dst = (m : Int) /\ WdR g m u k (z - a.wt)
 | [],s,z => by
  constructor
  ·rintro ⟨a,ha,n',z',⟨rfl,rfl⟩,hi,hs,hd,rfl⟩
   exact ⟨a,ha,k,hs,hi,hd,rfl,by omega⟩
  ·rintro ⟨a,ha,m,hs,hi,hd,rfl,e⟩
   exact ⟨a,ha,s,0,⟨rfl,rfl⟩,hi,hs,hd,by omega⟩
 | x :: u,s,z => by
  constructor
  ·rintro ⟨b,hb,n',z',hr,hi,hs,hd,rfl⟩
   obtain ⟨a,ha,m,h1,h2,h3,h4⟩:=(wdr_first (k:=n') u s z').1 hr
   exact ⟨a,ha,m,h1,h2,h3,b,hb,n',_,h4,hi,hs,hd,by omega⟩
  ·rintro ⟨a,ha,m,h1,h2,h3,b,hb,n',z',hr,hi,hs,hd,e⟩
   refine ⟨b,hb,n',z' + a.wt,(wdr_first (k:=n') u s _).2 ⟨a,ha,m,h1,h2,h3,?_⟩,hi,hs,hd,by omega⟩
   rw [show z' + a.wt - a.wt = z' by omega]
   exact hr
theorem wdsN_mem {g : FstD} {rk : Nat -> Nat} (hw : ∀ a ∈ g.arcs,0 <= a.src /\ 0 <= a.dst) (hr : ∀ e ∈ edgesE g.arcs,rk e.2 < rk e.1) : ∀ (d s : Nat) (v : List Int),rk s < d -> (v ∈ wdsN g.arcs d s ↔ ∃ k z,WdR g s v.reverse k z)
 | 0,_,_,h => by omega
 | d + 1,s,[],_ => by
  unfold wdsN
  exact ⟨fun _ => ⟨s,0,rfl,rfl⟩,fun _ => List.mem_cons_self⟩
 | d + 1,s,c :: v,h => by
  unfold wdsN
  rw [List.mem_cons,List.reverse_cons]
  have hedge : ∀ a ∈ g.arcs,(a.src.toNat,a.dst.toNat) ∈ edgesE g.arcs:=fun a ha => List.mem_map.2 ⟨a,ha,rfl⟩
  constructor
  ·rintro (e | hm)
   ·cases e
   ·obtain ⟨a,ha,hm⟩:=List.mem_flatMap.1 hm
    obtain ⟨v',hv',e⟩:=List.mem_map.1 hm
    injection e with e1 e2
    subst e2
    obtain ⟨ha1,ha2⟩:=List.mem_filter.1 ha
    have hs : a.src.toNat = s:=by simpa using ha2
    have hlt:=hr _ (hedge a ha1)
    dsimp only at hlt
    obtain ⟨k,z,hk⟩:=(wdsN_mem hw hr d a.dst.toNat v' (by rw [hs] at hlt; omega)).1 hv'
    refine ⟨k,z + a.wt,(wdr_first v'.reverse s _).2 ⟨a,ha1,a.dst.toNat,?_,e1,?_,?_⟩⟩
    ·have:=(hw a ha1).1; omega
    ·have:=(hw a ha1).2; omega
    ·rw [show z + a.wt - a.wt = z by omega]
     exact hk
  ·rintro ⟨k,z,hk⟩
   obtain ⟨a,ha,m,hs,hi,hd,hk⟩:=(wdr_first v.reverse s z).1 hk
   have hlt:=hr _ (hedge a ha)
   dsimp only at hlt
   have e1 : a.src.toNat = s:=by omega
   have e2 : a.dst.toNat = m:=by omega
   rw [e1,e2] at hlt
   refine Or.inr (List.mem_flatMap.2 ⟨a,List.mem_filter.2 ⟨ha,by simpa using e1⟩,List.mem_map.2 ⟨v,?_,by rw [hi]⟩⟩)
   rw [e2]
   exact (wdsN_mem hw hr d m v (by omega)).2 ⟨k,_,hk⟩
theorem wdsN_nd {ars : List ArcD} (hp : ars.Pairwise (fun a b => a.src < b.src \/ (a.src = b.src /\ a.inp < b.inp))) (hw : ∀ a ∈ ars,0 <= a.src) : ∀ (d s : Nat),(wdsN ars d s).Nodup
 | 0,_ => List.nodup_nil
 | d + 1,s => by
  unfold wdsN
  rw [List.nodup_cons]
  refine ⟨fun hin => ?_,?_⟩
  ·obtain ⟨a,_,hm⟩:=List.mem_flatMap.1 hin
   obtain ⟨v,_,e⟩:=List.mem_map.1 hm
   cases e
  ·have key : ∀ l : List ArcD,(∀ a ∈ l,0 <= a.src) -> l.Pairwise (fun a b => a.src < b.src \/ (a.src = b.src /\ a.inp < b.inp)) -> ((l.filter (fun a => a.src.toNat == s)).flatMap (fun a => (wdsN ars d a.dst.toNat).map (fun v => a.inp :: v))).Nodup:=by
    intro l
    induction l with
    | nil => intro _ _; exact List.nodup_nil
    | cons a l ih =>
     intro hl hq
     rw [List.pairwise_cons] at hq
     have ih':=ih (fun b hb => hl b (List.mem_cons_of_mem _ hb)) hq.2
     by_cases hs : a.src.toNat = s
     ·rw [List.filter_cons_of_pos (by simpa using hs),List.flatMap_cons,List.nodup_append]
      refine ⟨?_,ih',?_⟩
      ·rw [List.nodup_iff_pairwise_ne,List.pairwise_map]
       refine List.Pairwise.imp ?_ (List.nodup_iff_pairwise_ne.1 (wdsN_nd hp hw d a.dst.toNat))
       intro x y hne e
       injection e with _ e
       exact hne e
      ·intro x hx y hy e
       obtain ⟨v,_,rfl⟩:=List.mem_map.1 hx
       obtain ⟨b,hb,hm⟩:=List.mem_flatMap.1 hy
       obtain ⟨v',_,rfl⟩:=List.mem_map.1 hm
       injection e with e1 _
       obtain ⟨hb1,hb2⟩:=List.mem_filter.1 hb
       have hbs : b.src.toNat = s:=by simpa using hb2
       have h1:=hq.1 b hb1
       have h2:=hl a List.mem_cons_self
       have h3:=hl b (List.mem_cons_of_mem _ hb1)
       omega
     ·rw [List.filter_cons_of_neg (by simpa using hs)]
      exact ih'
   exact key ars hw hp
section
variable {f : FstD} {N s0 K : Nat} {g : FstD} {ms : List (List Int)}
def rkG (h : Nat -> Nat) (ms : List (List Int)) (N k : Nat) : Nat:=rkRow h ((ms.getD k []).take N) N
theorem Sub.rank (h : Sub f N s0 K g ms) (hf : SubIn f N s0) (hK : K <= 300) {r : Nat -> Nat} (hr : ∀ e ∈ edgesE f.arcs,r e.2 < r e.1) : ∀ e ∈ edgesE g.arcs,rkG r ms N e.2 < rkG r ms N e.1:=by
 intro e he
 obtain ⟨a,ha,rfl⟩:=List.mem_map.1 he
 obtain ⟨k,l,i,t,_,h9,h1,h2,h3,rfl⟩:=h.part.is a ha
 dsimp only
 rw [Int.toNat_natCast,Int.toNat_natCast]
 have hlen:=h.len
 have hkK:=(List.getElem?_eq_some_iff.1 h1).1
 have e1 : (ms.getD k []) = l:=by rw [List.getD_eq_getElem?_getD,h1]; rfl
 have e2 : (ms.getD t []) = padL (nxtL f N l i):=by rw [List.getD_eq_getElem?_getD,h3]; rfl
 unfold rkG
 rw [e1,e2]
 have hpr:=nxt_pr (N:=N) hf.wt h.part.bd h1 (by omega) i
 have hbeh:=behL_what (at':=l.take N) (N:=N) i (fun s => by have:=h.row hK h1 s; omega) f.arcs (fun a ha => ⟨(hf.wide a ha).2.1.1,(hf.wide a ha).2.1.2,(hf.wide a ha).2.2.1⟩)
 have step : ∀ n,n < N -> gI (nxtL f N l i) n ≠ -1 -> r n + 1 < rkRow r (l.take N) N:=by
  intro n hn hne
  rcases hbeh n hn with ⟨e,_⟩ | ⟨_,⟨b,hb,_,hd,h0,_⟩,_⟩
  ·exact absurd e hne
  ·have hlt:=hr _ (List.mem_map.2 ⟨b,hb,rfl⟩)
   dsimp only at hlt
   have hbw:=hf.wide b hb
   have hdn : b.dst.toNat = n:=by omega
   rw [hdn] at hlt
   have:=rkRow_ge (h:=r) (l:=l.take N) (N:=N) (n:=b.src.toNat) (by omega) (by omega)
   omega
 have hno : ¬ ∀ n,n < N -> gI (nxtL f N l i) n = -1:=fun hall => h2 ((cheapD_none (behL_len _ _ _ _) hpr).2 hall)
 obtain ⟨n,hn⟩:=Classical.not_forall.1 hno
 obtain ⟨hn1,hn2⟩:=Classical.not_imp.1 hn
 have hpos:=step n hn1 hn2
 have hle : rkRow r ((padL (nxtL f N l i)).take N) N <= rkRow r (l.take N) N - 1:=by
  refine rkRow_le fun n hn hne => ?_
  have : gI (nxtL f N l i) n ≠ -1:=by
   intro e
   apply hne
   have h4 : gI ((padL (nxtL f N l i)).take N) n = gI (padL (nxtL f N l i)) n:=by
    unfold gI
    rw [List.getD_eq_getElem?_getD,List.getD_eq_getElem?_getD,List.getElem?_take_of_lt hn]
   rw [h4,padL_at _ (by have:=hf.hN; omega),if_pos e]
  have:=step n hn this
  omega
 omega
theorem Sub.alive (h : Sub f N s0 K g ms) (hf : SubIn f N s0) (hK : K <= 300) (u : List Int) : Alive f s0 u ↔ ∃ k c,WdR g 0 u k c :=
 ⟨fun ⟨n,z,hr⟩ => h.reads hf.wide hf.acc hf.wt hf.hs hf.hN hK u n z hr,fun ⟨_,_,hr⟩ => h.part.row_live hf (by rw [h.len]; exact hK) hr⟩
theorem Sub.begs (h : Sub f N s0 K g ms) (hf : SubIn f N s0) (hK : K <= 300) {rk : Nat -> Nat} (hr : ∀ e ∈ edgesE g.arcs,rk e.2 < rk e.1) : ∃ L : List (List Int),L.Nodup /\ (∀ u,u ∈ L ↔ Alive f s0 u) /\ cntF (edgesE g.arcs) rk 0 = min L.length 201:=by
 have hw : ∀ a ∈ g.arcs,0 <= a.src /\ 0 <= a.dst:=fun a ha => by
  obtain ⟨k,l,i,t,_,_,_,_,_,rfl⟩:=h.part.is a ha
  dsimp only
  omega
 refine ⟨(wdsN g.arcs (rk 0 + 1) 0).map List.reverse,?_,fun u => ?_,?_⟩
 ·rw [List.nodup_iff_pairwise_ne,List.pairwise_map]
  refine List.Pairwise.imp ?_ (List.nodup_iff_pairwise_ne.1 (wdsN_nd h.part.ord (fun a ha => (hw a ha).1) (rk 0 + 1) 0))
  intro x y hne e
  exact hne (List.reverse_inj.1 e)
 ·rw [h.alive hf hK u,List.mem_map]
  constructor
  ·rintro ⟨v,hv,rfl⟩
   exact (wdsN_mem hw hr _ 0 v (by omega)).1 hv
  ·intro hx
   exact ⟨u.reverse,(wdsN_mem hw hr _ 0 u.reverse (by omega)).2 (by rw [List.reverse_reverse]; exact hx),List.reverse_reverse u⟩
 ·unfold cntF
  rw [cntN_wds,List.length_map]
end
end Go.Proofs.Yteehgcbjmdideab
/- The order by which 'order.Least' sorts: order.Compare and its two closures,in whatever world; they only lay blocks of their own. -/
namespace Go.Proofs.Yteehgcbjmdideab
open Go.RowKit Go.Sort
attribute [local go_sem ↓] Go.wp_at_zero Go.wp_at_succ
end Go.Proofs.Yteehgcbjmdideab
/- slices.Clone and slices.CompactFunc at arcs,as 'order.Least' calls them. -/
namespace Go.Proofs.Yteehgcbjmdideab
open Go.RowKit
attribute [local go_sem ↓] Go.wp_at_zero Go.wp_at_succ
theorem arcsV_len (ars : List ArcD) : (arcsV ars).length = ars.length * 5:=by
 induction ars with
 | nil => rfl
 | cons a l ih =>
  have : arcsV (a :: l) = arcCells a ++ arcsV l:=rfl
  rw [this,List.length_append,ih]
  show 5 + l.length * 5 = (l.length + 1) * 5
  omega
theorem arcsV_one (ars : List ArcD) : ∀ u ∈ arcsV ars,u.oneCell' = true:=by
 intro u hu
 obtain ⟨a,_,ha⟩:=List.mem_flatMap.1 hu
 exact oneCell_arc a u ha
theorem ArcsAt.flat {w : World} {b off n : Nat} {ars : List ArcD} (h : ArcsAt w b off n ars) : ∀ j u,(arcsV ars)[j]? = some u -> w.cell? ⟨b,off + j,none⟩ = some u:=by
 intro j u hj
 have hl : j < (arcsV ars).length:=(List.getElem?_eq_some_iff.1 hj).1
 rw [arcsV_len] at hl
 have hi : j / 5 < ars.length:=by omega
 have hn : j / 5 < n:=by rw [<- h.len]; exact hi
 have he : j / 5 * 5 + j % 5 = j:=by omega
 have hg:=arcsV_get ars (j / 5) (j % 5) hi (by omega)
 rw [he,hj] at hg
 rw [<- he]
 have hm : j % 5 < 5:=by omega
 generalize j % 5 = r at hg hm ⊢
 generalize j / 5 = q at hg hn ⊢
 match r,hm with
 | 0,_ => rw [show off + (q * 5 + 0) = off + q * 5 by omega,h.c0 q hn]; exact hg.symm
 | 1,_ => rw [show off + (q * 5 + 1) = off + q * 5 + 1 by omega,h.c1 q hn]; exact hg.symm
 | 2,_ => rw [show off + (q * 5 + 2) = off + q * 5 + 2 by omega,h.c2 q hn]; exact hg.symm
 | 3,_ => rw [show off + (q * 5 + 3) = off + q * 5 + 3 by omega,h.c3 q hn]; exact hg.symm
 | 4,_ => rw [show off + (q * 5 + 4) = off + q * 5 + 4 by omega,h.c4 q hn]; exact hg.symm
set_option maxHeartbeats 2000000 in
theorem cloneA_some (ars : List ArcD) (b off n c : Nat) (w : World) (hx : ArcsAt w b off n ars) (hn : n <= 100000) :
  Calls Try.prog 94 #[.slice (some ⟨b,off,none⟩) n c] w fun e w' => ∃ v',e = .returned v' /\ w'.ownsRow w.heap.size 54 5 v' n (arcsV ars) /\ v' ≠ .slice none 0 0 /\ Below w.heap.size w w':=by
 obtain ⟨i0,hi,hz0,hz1,hz2⟩:=info_parts Try.info54
 have q : ∀ (w : World) (a : Option Addr) (n c n' c' : Nat),(binOp .eql 23 (.slice a n c) (.slice none n' c')).run Try.prog w = .ok (.bool a.isNone) w:=fun w a n c n' c' => Lib.run_eql_slice_nil w _ _ a n c n' c' Try.underlying23
 have HX : Hid (∀ j u,(arcsV ars)[j]? = some u -> w.cell? ⟨b,off + j,none⟩ = some u):=hx.flat
 have HL : Hid (ars.length = n):=hx.len
 clear hx
 go_enter Try.func94,Try.ntmps94
 go_wp2_with (at_builtin; refine wpList_append_own _ rfl _ _ 23 rfl w.heap.size 54 i0 _ 5 40 Try.underlying23 hi hz0 hz1 hz2 rfl (by decide) _ _ _ rfl (World.ownsRow_made w #[] 0 (Nat.le_refl _) (Nat.zero_le _) rfl) ⟨b,off,none⟩ n c (arcsV ars) rfl ?qc1 ?qc2 ?qc3 ?qc4 ?qc5 ?qc6 ?_)
 case qc1 => rw [arcsV_len,HL.out]
 case qc2 =>
  intro j u hj
  rw [Addr.add_lit]
  exact Lib.cell?_alloc_some _ (HX.out j u hj)
 case qc3 => exact arcsV_one ars
 case qc4 => unfold maxLen; omega
 case qc5 => omega
 case qc6 => simp
 intro v' w1 hown hgrow hnil
 go_wp2
 go_ret
 refine ⟨v',rfl,by simpa using hown,?_,?_⟩
 ·exact hnil
 ·exact ((Below.refl _ w).alloc (Nat.le_refl _) _).grown hgrow (by simp) (by intro k hk; simp [Value.ownBlock] at hk; omega)
set_option maxHeartbeats 1000000 in
theorem cloneA_nil (n c : Nat) (w : World) :
  Calls Try.prog 94 #[.slice none n c] w fun e w' => e = .returned (.slice none 0 0) /\ w' = w:=by
 have q : ∀ (w : World) (a : Option Addr) (n c n' c' : Nat),(binOp .eql 23 (.slice a n c) (.slice none n' c')).run Try.prog w = .ok (.bool a.isNone) w:=fun w a n c n' c' => Lib.run_eql_slice_nil w _ _ a n c n' c' Try.underlying23
 go_enter Try.func94,Try.ntmps94
 go_wp2
 go_ret
 exact ⟨rfl,rfl⟩
set_option maxHeartbeats 2000000 in
theorem cloneA_zero (ad : Addr) (c : Nat) (w : World) :
  Calls Try.prog 94 #[.slice (some ad) 0 c] w fun e w' => (∃ a cap,e = .returned (.slice a 0 cap)) /\ Below w.heap.size w w':=by
 obtain ⟨i0,hi,hz0,hz1,hz2⟩:=info_parts Try.info54
 have q : ∀ (w : World) (a : Option Addr) (n c n' c' : Nat),(binOp .eql 23 (.slice a n c) (.slice none n' c')).run Try.prog w = .ok (.bool a.isNone) w:=fun w a n c n' c' => Lib.run_eql_slice_nil w _ _ a n c n' c' Try.underlying23
 go_enter Try.func94,Try.ntmps94
 go_wp2_with (at_builtin; refine wpList_append_own _ rfl _ _ 23 rfl w.heap.size 54 i0 _ 5 40 Try.underlying23 hi hz0 hz1 hz2 rfl (by decide) _ _ _ rfl (World.ownsRow_made w #[] 0 (Nat.le_refl _) (Nat.zero_le _) rfl) ad 0 c [] rfl ?qc1 ?qc2 ?qc3 ?qc4 ?qc5 ?qc6 ?_)
 case qc1 => rfl
 case qc2 => intro j u hj; simp at hj
 case qc3 => intro u hu; cases hu
 case qc4 => unfold maxLen; omega
 case qc5 => omega
 case qc6 => simp
 intro v' w1 hown hgrow hnil
 go_wp2
 go_ret
 refine ⟨?_,((Below.refl _ w).alloc (Nat.le_refl _) _).grown hgrow (by simp) (by intro k hk; simp [Value.ownBlock] at hk; omega)⟩
 have : ASlice w1 v' []:=ownsRow_arcs (ars:=[]) (by simpa [arcsV] using hown)
 obtain ⟨a,n,c,rfl,h1,_⟩:=this.lenOf
 simp at h1
 subst h1
 exact ⟨a,c,rfl⟩
end Go.Proofs.Yteehgcbjmdideab
/- slices.CompactFunc at arcs,with the closure of 'order.Least': of neighbours that differ in nothing but the weight the first stays. -/
namespace Go.Proofs.Yteehgcbjmdideab
open Go.RowKit
attribute [local go_sem ↓] Go.wp_at_zero Go.wp_at_succ
section
variable {l : List ArcD} {k : Nat}
end
structure ARow (w : World) (g n : Nat) (xs : List ArcD) : Prop where
 len : xs.length = n
 cell : ∀ i j,i < n -> j < 5 -> w.cell? ⟨g,i * 5 + j,none⟩ = (arcCells (xs.getD i a0))[j]?
 frz : ∀ i,i < n * 5 -> w.frozen? ⟨g,i,none⟩ = false
theorem ARow.of {w : World} {B e g n cap : Nat} {xs : List ArcD} (h : w.ownsRow B e 5 (.slice (some ⟨g,0,none⟩) n cap) n (arcsV xs)) : ARow w g n xs /\ n <= cap:=by
 have hl0:=h.1
 rw [arcsV_len] at hl0
 have hl : xs.length = n:=by omega
 obtain ⟨_,h⟩:=h
 rcases h with ⟨h,_⟩ | ⟨g',cap',cur,he,_,hh,h1,h2,h3,h4⟩
 ·cases h
 ·cases he
  refine ⟨⟨hl,fun i j hi hj => ?_,fun i _ => Go.Joins.unfrozen_of_block hh i⟩,h1⟩
  have h5:=arcsV_get xs i j (by omega) hj
  rw [<- h4,List.getElem?_take,if_pos (by omega),Array.getElem?_toList] at h5
  rw [Go.Joins.cell_of_block hh]; exact h5
end Go.Proofs.Yteehgcbjmdideab
/- 'moved' of package oneway. (Made by wip/gen/owj.py.) -/
namespace Go.Proofs.Yteehgcbjmdideab
open Go.RowKit
attribute [local go_sem ↓] Go.wp_at_zero Go.wp_at_succ
def movF (fin ah : List Int) (k : Nat) : List Int:=(List.range fin.length).map fun s => if s < k then (if gI fin s = -1 then -1 else gI fin s - gI ah s) else gI fin s
def movA (ah : List Int) (a : ArcD) : ArcD:=⟨a.src,a.inp,a.out,a.dst,a.wt + (gI ah a.dst.toNat - gI ah a.src.toNat)⟩
def movD (f : FstD) (ah : List Int) : FstD:=⟨f.states,f.start,movF f.final ah f.final.length,f.arcs.map (movA ah)⟩
theorem movF_len (fin ah : List Int) (k : Nat) : (movF fin ah k).length = fin.length:=by simp [movF]
theorem movF_at (fin ah : List Int) (k : Nat) {s : Nat} (hs : s < fin.length) : gI (movF fin ah k) s = if s < k then (if gI fin s = -1 then -1 else gI fin s - gI ah s) else gI fin s:=by
 conv => lhs; unfold gI
 simp [movF,List.getD,hs]
theorem movF_zero (fin ah : List Int) : movF fin ah 0 = fin:=by
 apply List.ext_getElem (by simp [movF])
 intro i h1 h2
 have h3 : gI fin i = fin[i]:=by unfold gI; simp [List.getD,h2]
 simp [movF,h3]
theorem movF_none (fin ah : List Int) {k : Nat} (h : gI fin k = -1) : movF fin ah (k + 1) = movF fin ah k:=by
 unfold movF
 apply List.map_congr_left
 intro s _
 by_cases e : s = k
 ·subst e
  rw [if_pos (Nat.lt_succ_self s),if_pos h,if_neg (Nat.lt_irrefl s),h]
 ·by_cases h2 : s < k
  ·rw [if_pos (by omega),if_pos h2]
  ·rw [if_neg (by omega),if_neg h2]
theorem movF_some (fin ah : List Int) {k : Nat} (h : ¬ gI fin k = -1) : movF fin ah (k + 1) = (movF fin ah k).set k (gI fin k - gI ah k):=by
 unfold movF
 apply List.ext_getElem?
 intro i
 rw [List.getElem?_set]
 by_cases e : k = i
 ·subst e
  rw [if_pos rfl]
  by_cases hl : k < fin.length
  ·rw [if_pos (by simpa using hl)]
   simp [hl,h]
  ·rw [if_neg (by simpa using hl)]
   simp [hl]
 ·rw [if_neg e]
  by_cases hl : i < fin.length
  ·simp only [List.getElem?_map,List.getElem?_range hl,Option.map_some]
   by_cases h2 : i < k
   ·rw [if_pos (by omega),if_pos h2]
   ·rw [if_neg (by omega),if_neg h2]
  ·simp [hl]
def cellA (a : ArcD) (r : Nat) : Value:=if r = 0 then .int .i64 a.src else if r = 1 then .int .i64 a.inp else if r = 2 then .int .i64 a.out else if r = 3 then .int .i64 a.dst else .int .i64 a.wt
def rowA (A : Nat -> ArcD) : Nat -> Value:=fun q => cellA (A (q / 5)) (q % 5)
theorem rowA_of {w : World} {ga n : Nat} {A : Nat -> ArcD} {ars : List ArcD} (h : ValsAt w ga (n * 5) (rowA A)) (hl : ars.length = n) (hA : ∀ i,i < n -> A i = ars.getD i a0) : ArcsAt w ga 0 n ars:=by
 have key : ∀ i r,i < n -> r < 5 -> w.cell? ⟨ga,0 + i * 5 + r,none⟩ = some (cellA (ars.getD i a0) r):=fun i r hi hr => by
  rw [Nat.zero_add,h.cell (i * 5 + r) (by omega)]
  unfold rowA
  rw [show (i * 5 + r) / 5 = i by omega,show (i * 5 + r) % 5 = r by omega,hA i hi]
 exact ⟨hl,fun i hi => key i 0 hi (by omega),fun i hi => key i 1 hi (by omega),fun i hi => key i 2 hi (by omega),fun i hi => key i 3 hi (by omega),fun i hi => key i 4 hi (by omega)⟩
theorem rowA_own {w : World} {B e ga n cap : Nat} {ars : List ArcD} (h : w.ownsRow B e 5 (.slice (some ⟨ga,0,none⟩) n cap) n (arcsV ars)) : ValsAt w ga (n * 5) (rowA fun i => ars.getD i a0):=by
 have hr:=(ARow.of h).1
 obtain ⟨_,h⟩:=h
 rcases h with ⟨h1,_⟩ | ⟨g,cap',cur,h1,_,h3,_⟩
 ·cases h1
 ·injection h1 with h1 _ _
  obtain rfl : ga = g:=by injection h1 with h1; injection h1
  refine ⟨fun q hq => ?_,fun i => Go.Joins.unfrozen_of_block h3 i,heap_lt h3⟩
  have hc:=hr.cell (q / 5) (q % 5) (by omega) (by omega)
  rw [show q / 5 * 5 + q % 5 = q by omega] at hc
  rw [hc]
  unfold rowA cellA arcCells
  have : q % 5 = 0 \/ q % 5 = 1 \/ q % 5 = 2 \/ q % 5 = 3 \/ q % 5 = 4:=by omega
  rcases this with e | e | e | e | e <;> rw [e] <;> rfl
theorem cloneA_any (ars : List ArcD) (aa : Option Addr) (m ac : Nat) (w : World) (ha : ASlice w (.slice aa m ac) ars) (hal : ars.length = m) (hm : m <= 3000) :
  Calls Try.prog 94 #[.slice aa m ac] w fun e w' => ∃ ba bc,e = .returned (.slice ba m bc) /\ (0 < m -> w'.ownsRow w.heap.size 54 5 (.slice ba m bc) m (arcsV ars)) /\ Below w.heap.size w w':=by
 by_cases h0 : m = 0
 ·subst h0
  cases aa with
  | none =>
   refine (cloneA_nil 0 ac w).mono ?_
   rintro e w' ⟨rfl,hw⟩
   subst hw
   exact ⟨none,0,rfl,fun h => absurd h (Nat.lt_irrefl _),bel_self _⟩
  | some ad =>
   refine (cloneA_zero ad ac w).mono ?_
   rintro e w' ⟨⟨a,cap,rfl⟩,hb⟩
   exact ⟨a,cap,rfl,fun h => absurd h (Nat.lt_irrefl _),hb⟩
 ·obtain ⟨b,off,rfl,hx⟩:=ha.some (by omega)
  refine (cloneA_some ars b off m ac w hx (by omega)).mono ?_
  rintro e w' ⟨v,rfl,hown,_,hb⟩
  obtain ⟨a,c,rfl⟩:=own_slice hown
  exact ⟨a,c,rfl,fun _ => hown,hb⟩
structure MV (w wr : World) (N : Nat) (sta : Int) (fin arcs : Value) (Q g1 c1 : Nat) (ba : Option Addr) (m bc : Nat) (xs : List Int) (A : Nat -> ArcD) : Prop where
 rw : RW w wr N sta fin arcs
 res : ZBlock wr (w.heap.size + 1)
 cq : CellsF wr Q (N : Int) sta (.slice (some ⟨g1,0,none⟩) N c1) (.slice ba m bc)
 nums : NumsAt wr g1 N xs
 arr : 0 < m -> ∃ ga,ba = some ⟨ga,0,none⟩ /\ ValsAt wr ga (m * 5) (rowA A) /\ w.heap.size + 1 < ga /\ ga ≠ Q /\ ga ≠ g1
 hQ : w.heap.size + 1 < Q
 h1 : w.heap.size + 1 < g1
 n1 : g1 ≠ Q
section
variable {w wr wx : World} {N : Nat} {sta : Int} {fin arcs : Value} {Q g1 c1 : Nat} {ba : Option Addr} {m bc ga : Nat} {xs : List Int} {A : Nat -> ArcD}
theorem MV.below (h : MV w wr N sta fin arcs Q g1 c1 ba m bc xs A) (hb : Below wr.heap.size wr wx) : MV w wx N sta fin arcs Q g1 c1 ba m bc xs A :=
 ⟨h.rw.below hb,heap_bel hb h.res,h.cq.below hb,h.nums.below hb,fun hm => by
  obtain ⟨ga,e,h1,h2⟩:=h.arr hm
  exact ⟨ga,e,h1.below hb,h2⟩,h.hQ,h.h1,h.n1⟩
theorem MV.setF (h : MV w wr N sta fin arcs Q g1 c1 ba m bc xs A) {s : Nat} {x : Int} (hs : s < N) : MV w (wr.setCell ⟨g1,s,none⟩ (.int .i64 x)) N sta fin arcs Q g1 c1 ba m bc (xs.set s x) A:=by
 have h1:=h.h1
 have hne : Q ≠ g1:=fun e => h.n1 e.symm
 refine ⟨h.rw.set (by omega),heap_far h.res (by omega),⟨(set_far hne).trans h.cq.1,(set_far hne).trans h.cq.2.1,(set_far hne).trans h.cq.2.2.1,(set_far hne).trans h.cq.2.2.2⟩,h.nums.set s x hs,fun hm => ?_,h.hQ,h.h1,h.n1⟩
 obtain ⟨ga,e,h3,h4,h5,h6⟩:=h.arr hm
 exact ⟨ga,e,h3.other h6,h4,h5,h6⟩
theorem MV.setA (h : MV w wr N sta fin arcs Q g1 c1 (some ⟨ga,0,none⟩) m bc xs A) {i : Nat} {x : Int} (hi : i < m) : MV w (wr.setCell ⟨ga,i * 5 + 4,none⟩ (.int .i64 x)) N sta fin arcs Q g1 c1 (some ⟨ga,0,none⟩) m bc xs (fun j => if j = i then ⟨(A i).src,(A i).inp,(A i).out,(A i).dst,x⟩ else A j):=by
 obtain ⟨ga',e,h3,h4,h5,h6⟩:=h.arr (by omega)
 obtain rfl : ga = ga':=by injection e with e; injection e
 have hne : Q ≠ ga:=fun e => h5 e.symm
 refine ⟨h.rw.set (by omega),heap_far h.res (by omega),⟨(set_far hne).trans h.cq.1,(set_far hne).trans h.cq.2.1,(set_far hne).trans h.cq.2.2.1,(set_far hne).trans h.cq.2.2.2⟩,h.nums.other (fun e => h6 e.symm),fun hm => ?_,h.hQ,h.h1,h.n1⟩
 refine ⟨ga,rfl,(h3.set (i * 5 + 4) _ (by omega)).cong fun q hq => ?_,h4,h5,h6⟩
 unfold updV rowA
 dsimp only
 by_cases e : q = i * 5 + 4
 ·rw [if_pos e,e,show (i * 5 + 4) / 5 = i by omega,show (i * 5 + 4) % 5 = 4 by omega,if_pos rfl]
  rfl
 ·rw [if_neg e]
  by_cases e2 : q / 5 = i
  ·rw [e2,if_pos rfl]
   have : q % 5 = 0 \/ q % 5 = 1 \/ q % 5 = 2 \/ q % 5 = 3:=by omega
   unfold cellA
   rcases this with e3 | e3 | e3 | e3 <;> rw [e3] <;> rfl
  ·rw [if_neg e2]
end
section
variable {w wA : World} {N : Nat} {sta : Int} {fin arcs : Value} {g1 c1 : Nat} {ba : Option Addr} {m bc B : Nat} {xs : List Int} {ars : List ArcD}
theorem arr_of (hB : w.heap.size + 1 < B) {Q : Nat} (hr : wA.ownsRow B 54 5 (.slice ba m bc) m (arcsV ars)) (h0 : 0 < m) (hg1 : g1 < B) (hQ : ∀ b,(Value.slice ba m bc).ownBlock = some b -> b ≠ Q) : ∃ ga,ba = some ⟨ga,0,none⟩ /\ ValsAt wA ga (m * 5) (rowA fun i => ars.getD i a0) /\ w.heap.size + 1 < ga /\ ga ≠ Q /\ ga ≠ g1:=by
 have hr0:=hr
 obtain ⟨_,h⟩:=hr0
 rcases h with ⟨h1,h2⟩ | ⟨g,cap',cur,h1,hg,_⟩
 ·omega
 ·injection h1 with h1 _ h3
  subst h1
  exact ⟨g,rfl,rowA_own hr,by omega,hQ g rfl,by omega⟩
theorem mv_alloc (hR : RW w wA N sta fin arcs) (hz : ZBlock wA (w.heap.size + 1)) (hn : NumsAt wA g1 N xs) (hr : 0 < m -> wA.ownsRow B 54 5 (.slice ba m bc) m (arcsV ars)) (hB : w.heap.size + 1 < B) (hg : w.heap.size + 1 < g1) (hgB : g1 < B) :
  MV w (wA.alloc (.cells #[.int .i64 (N : Int),.int .i64 sta,.slice (some ⟨g1,0,none⟩) N c1,.slice ba m bc] 25)) N sta fin arcs wA.heap.size g1 c1 ba m bc xs (fun i => ars.getD i a0):=by
 have hb:=bel_up (bel_self wA) (.cells #[.int .i64 (N : Int),.int .i64 sta,.slice (some ⟨g1,0,none⟩) N c1,.slice ba m bc] 25)
 have hzl:=heap_lt hz
 have hgl:=hn.lt
 refine ⟨hR.below hb,heap_bel hb hz,cellsF_new wA _ _ _ _ _,hn.below hb,fun h0 => ?_,hzl,hg,by omega⟩
 exact arr_of hB (ownsRow_bel (hr h0) hb) h0 hgB (fun b e => by have:=ownsRow_lt0 (hr h0) b e; omega)
theorem mv_set {Q : Nat} (hR : RW w wA N sta fin arcs) (hz : ZBlock wA (w.heap.size + 1)) (hP : ZBlock wA Q) (hQ : w.heap.size + 1 < Q) (hn : NumsAt wA g1 N xs) (hr : 0 < m -> wA.ownsRow B 54 5 (.slice ba m bc) m (arcsV ars)) (hB : w.heap.size + 1 < B) (hg : w.heap.size + 1 < g1) (hgB : g1 < B) (hgQ : g1 ≠ Q) (hbQ : ∀ b,0 < m -> (Value.slice ba m bc).ownBlock = some b -> b ≠ Q) :
  MV w ((((wA.setCell ⟨Q,0,none⟩ (.int .i64 (N : Int))).setCell ⟨Q,1,none⟩ (.int .i64 sta)).setCell ⟨Q,2,none⟩ (.slice (some ⟨g1,0,none⟩) N c1)).setCell ⟨Q,3,none⟩ (.slice ba m bc)) N sta fin arcs Q g1 c1 ba m bc xs (fun i => ars.getD i a0):=by
 obtain ⟨z0,z1,z2,z3,_,_,_,_⟩:=zfacts hP
 refine ⟨(((hR.set (by omega)).set (by omega)).set (by omega)).set (by omega),zb_set4 hz (by omega) _ _ _ _,set4_cells z0 z1 z2 z3 _ _ _ _,(((hn.other hgQ).other hgQ).other hgQ).other hgQ,fun h0 => ?_,hQ,hg,hgQ⟩
 obtain ⟨ga,e,h1,h2,h3,h4⟩:=arr_of hB (hr h0) h0 hgB (fun b e => hbQ b h0 e) (Q:=Q)
 exact ⟨ga,e,(((h1.other h3).other h3).other h3).other h3,h2,h3,h4⟩
end
end Go.Proofs.Yteehgcbjmdideab
