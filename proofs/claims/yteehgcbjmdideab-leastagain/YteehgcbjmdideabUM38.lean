/- What Least of the program and LeastOf of the document answer,told together. -/
import Derived.Test.YteehgcbjmdideabUM35
import Derived.Test.YteehgcbjmdideabULoD
import Derived.Test.YteehgcbjmdideabUM20
import Derived.Test.YteehgcbjmdideabUM12
import Derived.Test.YteehgcbjmdideabUM36
namespace Go.Proofs.Yteehgcbjmdideab
open Go.RowKit
section
variable {f t x : FstD} {N s0 K n m n2 m2 : Nat} {cl cl2 : List Int} {C C2 : List Int -> Nat} {κ κ2 : Nat -> List Int}
theorem DoneK.fine (h : DoneK t N K) (hT : Sc.TrimIn f t N s0) (hl : ∀ y,(y ∈ (detX t N K).final \/ ∃ a ∈ (detX t N K).arcs,a.wt = y) -> y <= 1000000000) : Fine (detX t N K):=by
 obtain ⟨ho,h1,h2⟩:=h.out hT
 obtain ⟨_,hK1,hK⟩:=h.sub hT.sin
 refine ⟨by rw [ho.st]; omega,by rw [ho.st]; omega,by rw [ho.sta]; exact Int.le_refl _,by rw [ho.sta,ho.st]; omega,by rw [ho.flen,ho.st],fun y hy => ?_,by omega,fun a ha => ?_,ho.ahead⟩
 ·have:=hl y (Or.inl hy)
  rcases ho.fin y hy with e | e
  ·exact Or.inl e
  ·right; omega
 ·have hb:=ho.arcs a ha
  have hw:=hl a.wt (Or.inr ⟨a,ha,rfl⟩)
  constructor <;> (rw [show inB = fun n a b => decide (a <= n) && decide (n <= b) from rfl]; simp only [Bool.and_eq_true,decide_eq_true_eq]; first | (rw [ho.st]; omega) | omega)
theorem great_iff (h : DoneK t N K) (hT : Sc.TrimIn f t N s0) (hx : XIn (detX t N K) K) (hc : ClsIn (detX t N K) K cl n) (hTab : TabOf (detX t N K) K cl C κ) (hr : RunN κ (C []) m) : Great (numN κ (C []) m).2.1 (numN κ (C []) m).2.2 ↔ checkD (detX t N K) ≠ 0:=by
 have ho:=hr.out
 have key : Great (numN κ (C []) m).2.1 (numN κ (C []) m).2.2 ↔ ∃ y,1000000000 < y /\ (y ∈ (detX t N K).final \/ ∃ a ∈ (detX t N K).arcs,a.wt = y):=by
  have e1 : (numN κ (C []) m).2.1 = (outK κ (numN κ (C []) m).1).final:=by rw [<- ho]
  have e2 : (numN κ (C []) m).2.2 = (outK κ (numN κ (C []) m).1).arcs:=by rw [<- ho]
  unfold Great
  rw [e1,e2]
  constructor
  ·rintro ⟨y,hy,h1⟩
   exact ⟨y,hy,(hr.heavy hTab hx hc (by omega)).1 h1⟩
  ·rintro ⟨y,hy,h1⟩
   exact ⟨y,hy,(hr.heavy hTab hx hc (by omega)).2 h1⟩
 rw [key]
 constructor
 ·rintro ⟨y,hy,h1⟩ hc0
  have hf:=fine_of hc0
  rcases h1 with h1 | ⟨a,ha,rfl⟩
  ·have:=hf.fin y h1; omega
  ·have:=(hf.arcs a ha).wt
   simp [inB] at this
   omega
 ·intro hne
  refine Classical.byContradiction fun hno => hne ?_
  exact (h.fine hT fun y hy => by
   by_cases e : 1000000000 < y
   ·exact absurd ⟨y,e,hy⟩ hno
   ·omega).check
theorem out_once (hx : XIn x K) {o o' : FstD} (h : OutP x K o) (h' : OutP x K o') : o = o':=by
 obtain ⟨cl,n,m,C,κ,h1,h2,h3,rfl⟩:=h
 obtain ⟨cl2,n2,m2,C2,κ2,k1,k2,k3,rfl⟩:=h'
 have hs : EndSame x 0 x 0:=fun u a b ha hb => ha.unique hb
 have d1:=h2.doc hx h1 hx.wide hx.live hs
 have d2:=k2.doc hx k1 hx.wide hx.live hs
 obtain ⟨rfl,e⟩:=least_one d1 d2 hs hx.wide hx.wide hx.live hx.live h3 k3
 rw [e]
theorem out_exists (hx : XIn x K) : ∃ cl n C κ,ClsIn x K cl n /\ TabOf x K cl C κ:=by
 obtain ⟨cl,n,_,hc⟩:=cls_exists (x:=x) hx.k0 fun a ha => by
  have:=hx.gin.arcs a ha
  exact ⟨a.dst.toNat,by omega,by omega⟩
 obtain ⟨C,κ,hT⟩:=tab_exists hx hc
 exact ⟨cl,n,C,κ,hc,hT⟩
end
def LeN (f : FstD) (c : Int) : Prop:=∀ (fin arcs : Value) (W : World),ISlice W fin f.final -> ASlice W arcs f.arcs -> Calls Try.prog 18 #[.agg #[.int .i64 f.states,.int .i64 f.start,fin,arcs]] W fun e w' => NoFst W c e w'
def LeY (f x : FstD) (K : Nat) : Prop:=∀ (fin arcs : Value) (W : World),ISlice W fin f.final -> ASlice W arcs f.arcs -> Calls Try.prog 18 #[.agg #[.int .i64 f.states,.int .i64 f.start,fin,arcs]] W fun e w' => LstRes x K W e w'
end Go.Proofs.Yteehgcbjmdideab
/- What is joined costs the same for each word. -/
namespace Go.Proofs.Yteehgcbjmdideab
open Go.RowKit
section
variable {x : FstD} {K n m : Nat} {cl : List Int} {C : List Int -> Nat} {κ : Nat -> List Int}
theorem idx_at {M : List Nat} {a : Nat} (h : a ∈ M) : M.getD (M.idxOf a) 0 = a /\ M.idxOf a < M.length:=by
 have h1:=List.idxOf_lt_length_of_mem h
 rw [List.getD_eq_getElem?_getD,List.getElem?_eq_getElem h1]
 exact ⟨List.getElem_idxOf h1,h1⟩
theorem RunN.ways (hr : RunN κ (C []) m) (hT : TabOf x K cl C κ) (h : XIn x K) (hc : ClsIn x K cl n) : ∀ (u : List Int) (j : Nat) (z : Int),WdR (outK κ (numN κ (C []) m).1) 0 u j z ↔ ∃ k,WdR x 0 u k z /\ j = (numN κ (C []) m).1.idxOf (C u):=by
 have hmet:=hr.all_met hT h hc
 have hf:=hr.first
 obtain ⟨M,hM⟩ : ∃ M,M = (numN κ (C []) m).1:=⟨_,rfl⟩
 rw [<- hM] at hmet hf ⊢
 have h0 : M.idxOf (C []) = 0:=by
  cases M with
  | nil => cases hf
  | cons a l =>
   have : a = C []:=by simpa using hf
   subst this
   simp
 intro u
 induction u with
 | nil =>
  intro j z
  constructor
  ·rintro ⟨rfl,rfl⟩; exact ⟨0,⟨rfl,rfl⟩,h0.symm⟩
  ·rintro ⟨k,⟨rfl,rfl⟩,rfl⟩; exact ⟨h0,rfl⟩
 | cons c u ih =>
  intro j z
  constructor
  ·rintro ⟨a,ha,n',z',hw,hi,hs,hd,rfl⟩
   obtain ⟨k',hk',rfl⟩:=(ih n' z').1 hw
   obtain ⟨j0,_,ha⟩:=List.mem_flatMap.1 ha
   obtain ⟨i,hi9,e⟩:=List.mem_filterMap.1 ha
   have hi9:=List.mem_range.1 hi9
   have hu:=idx_at (hmet u k' z' hk')
   unfold arcK at e
   by_cases hlp : gI (κ (M.getD j0 0)) (1 + i * 2) = -1
   ·rw [if_pos hlp] at e; cases e
   ·rw [if_neg hlp] at e
    injection e with e
    subst e
    dsimp only at hs hi hd ⊢
    have hj0 : j0 = M.idxOf (C u):=by omega
    rw [hj0,hu.1,hT.at h hk'] at hlp hd ⊢
    rcases h.leap hc (s:=k') hi9 with ⟨h1,_⟩ | ⟨b,hb,t,ht,hb1,hb2,hb3,hb4,hb5,hb6⟩
    ·exact absurd h1 hlp
    ·have hw2 : WdR x 0 (c :: u) t (z' + b.wt):=⟨b,hb,k',z',hk',by omega,hb1,hb3,rfl⟩
     have hC:=hT.c _ _ _ hw2
     refine ⟨t,by rw [hb6]; exact hw2,?_⟩
     rw [hb4,<- hC,Int.toNat_natCast] at hd
     omega
  ·rintro ⟨k,hk,rfl⟩
   obtain ⟨b,hb,k',z',hk',hi,hs,hd,rfl⟩:=id hk
   have hu:=idx_at (hmet u k' z' hk')
   have hl:=h.lets b hb
   obtain ⟨i,hi9,hci⟩ : ∃ i : Nat,i < 9 /\ b.inp = ((i + 1 : Nat) : Int):=⟨(b.inp - 1).toNat,by omega,by omega⟩
   rcases h.leap hc (s:=k') hi9 with ⟨_,h1⟩ | ⟨b',hb',t,ht,hb1,hb2,hb3,hb4,hb5,hb6⟩
   ·exact absurd ⟨hs,hci⟩ (h1 b hb)
   ·obtain rfl:=arc_once h.ord hb hb' (by omega) (by omega)
    have hkt : k = t:=by omega
    subst hkt
    have hC:=hT.c _ _ _ hk
    refine ⟨⟨(M.idxOf (C u) : Int),((i + 1 : Nat) : Int),((i + 1 : Nat) : Int),(M.idxOf (C (c :: u)) : Int),b.wt⟩,List.mem_flatMap.2 ⟨M.idxOf (C u),List.mem_range.2 hu.2,List.mem_filterMap.2 ⟨i,List.mem_range.2 hi9,?_⟩⟩,M.idxOf (C u),z',(ih _ _).2 ⟨k',hk',rfl⟩,(by show ((i + 1 : Nat) : Int) = c; omega),rfl,rfl,rfl⟩
    unfold arcK
    rw [hu.1,hT.at h hk',if_neg (by rw [hb4]; omega),hb4,hb6,<- hC,Int.toNat_natCast]
theorem RunN.ends (hr : RunN κ (C []) m) (hT : TabOf x K cl C κ) (h : XIn x K) (hc : ClsIn x K cl n) (u : List Int) (y : Int) : EndP (outK κ (numN κ (C []) m).1) 0 u y ↔ EndP x 0 u y:=by
 have hw:=hr.ways hT h hc
 have hmet:=hr.all_met hT h hc
 obtain ⟨M,hM⟩ : ∃ M,M = (numN κ (C []) m).1:=⟨_,rfl⟩
 rw [<- hM] at hmet hw ⊢
 have hfin : ∀ (k : Nat) (z : Int),WdR x 0 u k z -> gI (outK κ M).final (M.idxOf (C u)) = gI x.final k:=fun k z hk => by
  have hu:=idx_at (hmet u k z hk)
  show gI (M.map fun v => gI (κ v) 0) _ = _
  conv => lhs; unfold gI
  rw [List.getD_eq_getElem?_getD,List.getElem?_map,List.getElem?_eq_getElem hu.2]
  have e : M[M.idxOf (C u)]'hu.2 = C u:=List.getElem_idxOf hu.2
  simp only [Option.map_some,Option.getD_some,e]
  have e2:=hT.at h hk
  have e3:=kind_end x.arcs x.final cl k
  rw [<- e2] at e3
  exact e3
 constructor
 ·rintro ⟨j,z,h1,h2,rfl⟩
  obtain ⟨k,hk,rfl⟩:=(hw u j z).1 h1
  rw [hfin k z hk] at h2 ⊢
  exact ⟨k,z,hk,h2,rfl⟩
 ·rintro ⟨k,z,hk,h2,rfl⟩
  refine ⟨_,z,(hw u _ z).2 ⟨k,hk,rfl⟩,?_,?_⟩ <;> rw [hfin k z hk]
  exact h2
end
theorem OutP.same {x : FstD} {K : Nat} {o : FstD} (h : OutP x K o) (hx : XIn x K) : EndSame x 0 o 0:=by
 obtain ⟨cl,n,m,C,κ,h1,h2,h3,rfl⟩:=h
 rw [h3.out]
 intro u a b ha hb
 exact ha.unique (hb.cong fun y => h3.ends h2 hx h1 u y)
theorem EndSame.trans {t : FstD} {s0 : Nat} {x : FstD} {r0 : Nat} {y : FstD} {q0 K : Nat} (h : EndSame t s0 x r0) (h2 : EndSame x r0 y q0) (hw : WideA x K) : EndSame t s0 y q0:=fun u a b ha hb => by
 obtain ⟨c,hc⟩:=end_exists hw r0 u
 exact (h u a c ha hc).trans (h2 u c b hc hb)
theorem OutP.wide {x : FstD} {K : Nat} {o : FstD} (h : OutP x K o) (hx : XIn x K) : WideA o o.states.toNat:=by
 obtain ⟨cl,n,m,C,κ,h1,h2,h3,rfl⟩:=h
 have hfrom:=numN_from h2 hx h1 m h3.all
 have hnext:=fun v i hv hi hne => h3.next (v:=v) (i:=i) hv hi hne
 have hd:=h3.done
 rw [h3.out]
 obtain ⟨M,hM⟩ : ∃ M,M = (numN κ (C []) m).1:=⟨_,rfl⟩
 rw [<- hM] at hfrom hnext hd ⊢
 have hst : (outK κ M).states.toNat = M.length:=by show ((M.length : Int)).toNat = _; omega
 rw [hst]
 intro a ha
 obtain ⟨j,hj,ha⟩:=List.mem_flatMap.1 ha
 obtain ⟨i,hi,e⟩:=List.mem_filterMap.1 ha
 have hj:=List.mem_range.1 hj
 have hi:=List.mem_range.1 hi
 have hjm : M.getD j 0 ∈ M:=by
  rw [List.getD_eq_getElem?_getD,List.getElem?_eq_getElem hj]
  exact List.getElem_mem hj
 obtain ⟨u,k,z,hu,e2⟩:=hfrom _ hjm
 unfold arcK at e
 by_cases hlp : gI (κ (M.getD j 0)) (1 + i * 2) = -1
 ·rw [if_pos hlp] at e; cases e
 ·have hin:=hnext _ i hjm hi hlp
  rw [if_neg hlp] at e
  injection e with e
  subst e
  have h5:=(idx_at hin).2
  have hwt : 0 <= gI (κ (M.getD j 0)) (1 + i * 2 + 1):=by
   rw [<- e2,h2.at hx hu]
   rcases hx.leap h1 (s:=k) hi with ⟨h6,_⟩ | ⟨b,hb,t,ht,hb1,hb2,hb3,hb4,hb5,hb6⟩
   ·rw [<- e2,h2.at hx hu] at hlp; exact absurd h6 hlp
   ·rw [hb6]; exact (hx.gin.arcs b hb).2.2
  dsimp only
  exact ⟨⟨by omega,by omega⟩,⟨by omega,by omega⟩,hwt,by omega,by omega⟩
section
variable {f g t t2 : FstD} {N s0 K N2 s02 K2 : Nat} {o q : FstD}
end
end Go.Proofs.Yteehgcbjmdideab
/- The least one of the least one is itself: what is known of it. -/
namespace Go.Proofs.Yteehgcbjmdideab
open Go.RowKit
section
variable {x : FstD} {K n m : Nat} {cl : List Int} {C : List Int -> Nat} {κ : Nat -> List Int} {M : List Nat}
theorem outK_arc {a : ArcD} (ha : a ∈ (outK κ M).arcs) : ∃ j i : Nat,j < M.length /\ i < 9 /\ gI (κ (M.getD j 0)) (1 + i * 2) ≠ -1 /\ a = ⟨(j : Int),((i + 1 : Nat) : Int),((i + 1 : Nat) : Int),(M.idxOf (gI (κ (M.getD j 0)) (1 + i * 2)).toNat : Int),gI (κ (M.getD j 0)) (1 + i * 2 + 1)⟩:=by
 obtain ⟨j,hj,ha⟩:=List.mem_flatMap.1 ha
 obtain ⟨i,hi,e⟩:=List.mem_filterMap.1 ha
 unfold arcK at e
 by_cases hlp : gI (κ (M.getD j 0)) (1 + i * 2) = -1
 ·rw [if_pos hlp] at e; cases e
 ·rw [if_neg hlp] at e
  injection e with e
  exact ⟨j,i,List.mem_range.1 hj,List.mem_range.1 hi,hlp,e.symm⟩
theorem arcK_some {k : List Int} {j i : Nat} {a : ArcD} (h : arcK k j M i = some a) : a.src = (j : Int) /\ a.inp = ((i + 1 : Nat) : Int):=by
 unfold arcK at h
 split at h
 ·cases h
 ·injection h with h
  subst h
  exact ⟨rfl,rfl⟩
theorem outK_ord : (outK κ M).arcs.Pairwise (fun a b => a.src < b.src \/ (a.src = b.src /\ a.inp < b.inp)):=by
 show List.Pairwise _ ((List.range M.length).flatMap fun j => (List.range 9).filterMap (arcK (κ (M.getD j 0)) j M))
 rw [List.pairwise_flatMap]
 constructor
 ·intro j _
  rw [List.pairwise_filterMap]
  refine List.pairwise_lt_range.imp fun {i i'} hii b hb b' hb' => ?_
  have h1:=arcK_some hb
  have h2:=arcK_some hb'
  omega
 ·refine List.pairwise_lt_range.imp fun {j j'} hjj a ha b hb => ?_
  obtain ⟨i,_,e1⟩:=List.mem_filterMap.1 ha
  obtain ⟨i',_,e2⟩:=List.mem_filterMap.1 hb
  have h1:=arcK_some e1
  have h2:=arcK_some e2
  omega
theorem flat_len {α β : Type} {g : α -> List β} {d : Nat} : ∀ l : List α,(∀ a ∈ l,(g a).length <= d) -> (l.flatMap g).length <= d * l.length
 | [],_ => by simp
 | a :: l,h => by
  have h1:=flat_len l fun b hb => h b (List.mem_cons_of_mem _ hb)
  have h2:=h a List.mem_cons_self
  rw [List.flatMap_cons,List.length_append,List.length_cons,Nat.mul_succ]
  omega
theorem outK_many : (outK κ M).arcs.length <= 9 * M.length:=by
 have:=flat_len (g:=fun j => (List.range 9).filterMap (arcK (κ (M.getD j 0)) j M)) (d:=9) (List.range M.length) fun j _ => by
  have:=List.length_filterMap_le (arcK (κ (M.getD j 0)) j M) (List.range 9)
  rw [List.length_range] at this
  exact this
 rw [List.length_range] at this
 exact this
theorem cls_few (h : Cls K cl n) : n <= K:=by
 have hn : ((List.range n).map fun v : Nat => (v : Int)).Nodup:=by
  unfold List.Nodup
  rw [List.pairwise_map]
  exact List.pairwise_lt_range.imp fun {a b} h e => by omega
 have:=List.Nodup.length_le_of_subset hn (l₂:=cl) fun y hy => by
  obtain ⟨v,hv,rfl⟩:=List.mem_map.1 hy
  obtain ⟨s,hs,e⟩:=h.on v (List.mem_range.1 hv)
  rw [<- e]
  exact gI_mem (by rw [h.len]; exact hs)
 rw [List.length_map,List.length_range,h.len] at this
 exact this
theorem run_in (hx : XIn x K) (hc : ClsIn x K cl n) (hT : TabOf x K cl C κ) : C [] < n /\ ∀ v,v < n -> LeapsIn (κ v) n:=by
 refine ⟨?_,fun v hv i hi => ?_⟩
 ·have h1:=hT.c [] 0 0 ⟨rfl,rfl⟩
  have h2:=hc.cls.lt 0 hx.k0
  omega
 ·obtain ⟨s,hs,e⟩:=hc.cls.on v hv
  have hk:=hT.κ s hs
  rw [e,Int.toNat_natCast] at hk
  rw [hk]
  rcases hx.leap hc (s:=s) hi with ⟨h1,_⟩ | ⟨a,_,t,ht,_,_,_,h4,h5,_⟩
  ·exact Or.inl h1
  ·right
   have:=(hc.cls.lt t ht).2
   rw [h4]
   exact ⟨(gI cl t).toNat,by omega,by omega⟩
theorem run_len (hx : XIn x K) (hc : ClsIn x K cl n) (hT : TabOf x K cl C κ) (hr : RunN κ (C []) m) : m <= K:=by
 obtain ⟨h1,h2⟩:=run_in hx hc hT
 have h3:=metOk_len (numN_ok h1 h2 m hr.all).1
 have h4:=hr.done
 have h5:=cls_few hc.cls
 omega
theorem run_some (hx : XIn x K) (hc : ClsIn x K cl n) (hT : TabOf x K cl C κ) : ∃ m,RunN κ (C []) m:=by
 obtain ⟨hc0,hlp⟩:=run_in hx hc hT
 have hnot : ∃ m,m <= n /\ ¬ m < (numN κ (C []) m).1.length /\ ∀ j,j < m -> j < (numN κ (C []) j).1.length:=by
  by_cases hall : ∀ j,j < n -> j < (numN κ (C []) j).1.length
  ·have h1:=metOk_len (numN_ok hc0 hlp n hall).1
   exact ⟨n,Nat.le_refl _,by omega,hall⟩
  ·obtain ⟨k,hk⟩:=Classical.not_forall.1 hall
   obtain ⟨hk1,hk2⟩:=Classical.not_imp.1 hk
   obtain ⟨m,h1,h2,h3⟩:=first_not (fun m => m < (numN κ (C []) m).1.length) k hk2
   exact ⟨m,by omega,h2,h3⟩
 obtain ⟨m,_,h2,h3⟩:=hnot
 refine ⟨m,h3,?_⟩
 by_cases e : m = 0
 ·subst e
  exact absurd Nat.zero_lt_one h2
 ·have h4:=h3 (m - 1) (by omega)
  obtain ⟨l,hl⟩:=numN_to (κ:=κ) (c0:=C []) (show m - 1 <= m by omega)
  have h5 : (numN κ (C []) m).1.length = (numN κ (C []) (m - 1)).1.length + l.length:=by rw [hl,List.length_append]
  omega
theorem least_rk {p : Nat -> Prop} (rk : Nat -> Nat) : ∀ d k,rk k < d -> p k -> ∃ k0,p k0 /\ ∀ k',p k' -> rk k0 <= rk k'
 | 0,_,h,_ => by omega
 | d + 1,k,h,hk => by
  by_cases e : ∃ k',p k' /\ rk k' < rk k
  ·obtain ⟨k',h1,h2⟩:=e
   exact least_rk rk d k' (by omega) h1
  ·exact ⟨k,hk,fun k' h' => by
    by_cases e2 : rk k' < rk k
    ·exact absurd ⟨k',h',e2⟩ e
    ·omega⟩
theorem RunN.noRound (hr : RunN κ (C []) m) (hT : TabOf x K cl C κ) (h : XIn x K) (hc : ClsIn x K cl n) (hw : WideA (outK κ (numN κ (C []) m).1) (numN κ (C []) m).1.length) : ¬ RoundE (edgesE (outK κ (numN κ (C []) m).1).arcs) (numN κ (C []) m).1.length:=by
 have hfrom:=numN_from hT h hc m hr.all
 have hnext:=fun v i hv hi hne => hr.next (v:=v) (i:=i) hv hi hne
 obtain ⟨M,hM⟩ : ∃ M,M = (numN κ (C []) m).1:=⟨_,rfl⟩
 rw [<- hM] at hfrom hnext hw ⊢
 obtain ⟨rk,hrk⟩:=h.rank
 have hmin : ∀ v,∃ k0,v < n -> (k0 < K /\ gI cl k0 = (v : Int)) /\ ∀ k',k' < K /\ gI cl k' = (v : Int) -> rk k0 <= rk k':=fun v => by
  by_cases hv : v < n
  ·obtain ⟨s,hs⟩:=hc.cls.on v hv
   obtain ⟨k0,h1⟩:=least_rk (p:=fun k => k < K /\ gI cl k = (v : Int)) rk (rk s + 1) s (by omega) hs
   exact ⟨k0,fun _ => h1⟩
  ·exact ⟨0,fun h => absurd h hv⟩
 obtain ⟨k0,hk0⟩:=Classical.axiomOfChoice hmin
 have hlt : ∀ v ∈ M,v < n:=fun v hv => by
  obtain ⟨u,k,z,hu,e⟩:=hfrom v hv
  have h1:=hT.c u k z hu
  have h2:=(hc.cls.lt k (hu.lt h.wide h.k0)).2
  omega
 refine no_round (rk:=fun j => rk (k0 (M.getD j 0))) (fun e he => ?_) fun e he => ?_
 ·obtain ⟨a,ha,rfl⟩:=List.mem_map.1 he
  have:=hw a ha
  dsimp only
  omega
 ·obtain ⟨a,ha,rfl⟩:=List.mem_map.1 he
  obtain ⟨j,i,hj,hi,hlp,rfl⟩:=outK_arc ha
  dsimp only
  rw [Int.toNat_natCast,Int.toNat_natCast]
  have hjm : M.getD j 0 ∈ M:=by
   rw [List.getD_eq_getElem?_getD,List.getElem?_eq_getElem hj]
   exact List.getElem_mem hj
  have hin:=hnext _ i hjm hi hlp
  rw [(idx_at hin).1]
  obtain ⟨⟨hs1,hs2⟩,hs3⟩:=hk0 _ (hlt _ hjm)
  obtain ⟨s,hs⟩ : ∃ s,s = k0 (M.getD j 0):=⟨_,rfl⟩
  rw [<- hs] at hs1 hs2 ⊢
  have hk:=hT.κ s hs1
  rw [hs2,Int.toNat_natCast] at hk
  rw [hk] at hin ⊢ hlp
  rcases h.leap hc (s:=s) hi with ⟨h6,_⟩ | ⟨b,hb,t,ht,hb1,hb2,hb3,hb4,hb5,hb6⟩
  ·exact absurd h6 hlp
  ·have h7:=(hk0 _ (hlt _ hin)).2 t ⟨ht,by rw [hb4]; omega⟩
   have h8:=hrk _ (List.mem_map_of_mem hb : (b.src.toNat,b.dst.toNat) ∈ edgesE x.arcs)
   dsimp only at h8
   rw [hb1,hb3,Int.toNat_natCast,Int.toNat_natCast] at h8
   omega
end
theorem OutP.fine {x : FstD} {K : Nat} {o : FstD} (h : OutP x K o) (hx : XIn x K) (hK : K <= 200) (hf : Fine x) : Fine o /\ bothB o = true /\ silB o = false /\ ¬ RoundD o /\ o.start = 0 /\ o.states <= (K : Int):=by
 have hw:=h.wide hx
 obtain ⟨cl,n,m,C,κ,h1,h2,h3,rfl⟩:=h
 have hmK:=run_len hx h1 h2 h3
 have hfrom:=numN_from h2 hx h1 m h3.all
 have hd:=h3.done
 have hheavy : ∀ y : Int,0 <= y -> _:=fun y hy => (h3.heavy h2 hx h1 hy).1
 have h0 : 0 < m:=by
  have h4:=h3.first
  cases m with
  | zero => simp [numN] at hd
  | succ m => omega
 have hst : (⟨(m : Int),0,(numN κ (C []) m).2.1,(numN κ (C []) m).2.2⟩ : FstD).states.toNat = (numN κ (C []) m).1.length:=by
  show (m : Int).toNat = _
  omega
 rw [hst] at hw
 unfold RoundD
 rw [hst]
 rw [h3.out] at hw ⊢
 have hnr:=h3.noRound h2 hx h1 hw
 obtain ⟨M,hM⟩ : ∃ M,M = (numN κ (C []) m).1:=⟨_,rfl⟩
 rw [<- hM] at hfrom hw hd hheavy hnr ⊢
 have hstM : (outK κ M).states = (M.length : Int):=rfl
 have harc : ∀ a ∈ (outK κ M).arcs,ArcOk (outK κ M).states a /\ a.out = a.inp /\ 1 <= a.inp:=fun a ha => by
  have h5:=hw a ha
  have h6:=hheavy a.wt h5.2.2.1 (Or.inr ⟨a,ha,rfl⟩)
  have h7 : a.wt <= 1000000000:=by
   rcases h6 with h6 | ⟨b,hb,e⟩
   ·have:=hf.fin _ h6; omega
   ·have:=(hf.arcs b hb).wt
    simp [inB] at this
    omega
  obtain ⟨j,i,hj,hi,hlp,e⟩:=outK_arc ha
  have e1 : a.inp = ((i + 1 : Nat) : Int):=by rw [e]
  have e2 : a.out = ((i + 1 : Nat) : Int):=by rw [e]
  refine ⟨?_,by omega,by omega⟩
  rw [hstM]
  constructor <;> (rw [show inB = fun n a b => decide (a <= n) && decide (n <= b) from rfl]; simp only [Bool.and_eq_true,decide_eq_true_eq]; omega)
 refine ⟨⟨by rw [hstM]; omega,by rw [hstM]; omega,Int.le_refl _,by rw [hstM]; show (0 : Int) < _; omega,?_,fun y hy => ?_,?_,fun a ha => (harc a ha).1,outK_ord.imp fun hab => (ahead_iff _ _).2 (by omega)⟩,?_,?_,hnr,rfl,by rw [hstM]; omega⟩
 ·show ((M.map fun v => gI (κ v) 0).length : Int) = _
  rw [List.length_map,hstM]
 ·by_cases e : 0 <= y
  ·right
   refine ⟨e,?_⟩
   rcases hheavy y e (Or.inl hy) with h6 | ⟨b,hb,e⟩
   ·have:=hf.fin _ h6; omega
   ·have:=(hf.arcs b hb).wt
    simp [inB] at this
    omega
  ·left
   obtain ⟨v,hv,rfl⟩:=List.mem_map.1 hy
   obtain ⟨u,k,z,hu,e2⟩:=hfrom v hv
   have e4:=kind_end x.arcs x.final cl k
   rw [<- h2.at hx hu,e2] at e4
   rcases hx.fin k with h7 | h7
   ·rw [e4,h7]
   ·rw [e4] at e; exact absurd h7 e
 ·have:=outK_many (κ:=κ) (M:=M)
  omega
 ·unfold bothB
  rw [Bool.not_eq_true',List.any_eq_false]
  intro a ha
  have:=(harc a ha).2.1
  simp [this]
 ·unfold silB
  rw [List.any_eq_false]
  intro a ha
  have:=(harc a ha).2.2
  simp
  omega
end Go.Proofs.Yteehgcbjmdideab
/- 'LeastAgain': what Least and Score of the program answer of one,of its least one and of another. -/
namespace Go.Proofs.Yteehgcbjmdideab
open Go.RowKit
def CostSame (f g : FstD) : Prop:=∀ l y,BestP f l l f.start.toNat y -> BestP g l l g.start.toNat y
theorem scores_eq {f g : FstD} {l : List Int} {n1 e1 n2 e2 : Int} (hf : checkD f = 0) (hg : checkD g = 0) (ho : CostSame f g) (h1 : ScoreIs f l l n1 e1) (h2 : ScoreIs g l l n2 e2) : n1 = n2 /\ e1 = e2:=by
 have he : e1 = e2:=by
  rw [h1.1,h2.1]
  unfold chkS
  rw [if_pos hf,if_pos hg]
 subst he
 by_cases h0 : e1 = 0
 ·obtain ⟨N1,s1,a1,a2,a3,a4⟩:=h1.2.2 h0
  obtain ⟨N2,s2,b1,b2,b3,b4⟩:=h2.2.2 h0
  have g1:=(best_path a3).1 a4
  have g2:=(best_path b3).1 b4
  have hs1 : f.start.toNat = s1:=by rw [a2,Int.toNat_natCast]
  have hs2 : g.start.toNat = s2:=by rw [b2,Int.toNat_natCast]
  rw [<- hs1] at g1
  rw [<- hs2] at g2
  exact ⟨(ho l n1 g1).unique g2,rfl⟩
 ·rw [h1.2.1 h0,h2.2.1 h0]
  exact ⟨rfl,rfl⟩
section
variable {f g t t2 : FstD} {N s0 K N2 s02 K2 : Nat} {o q : FstD}
theorem DIn.acc (h : DIn f t N s0) : AccD f:=Sc.acc_of h.both h.sil
theorem DIn.wide (h : DIn f t N s0) : WideA f f.states.toNat:=(Sc.fine_in (fine_of h.hc) h.acc).wide
theorem DIn.back (h : DIn f t N s0) {l : List Int} {y : Int} (hb : BestP t l l s0 y) : BestP f l l f.start.toNat y:=by
 obtain ⟨c,hc⟩:=end_exists h.wide f.start.toNat l.reverse
 have h1:=(word_min h.acc).1 hc
 rw [List.reverse_reverse] at h1
 obtain rfl:=(h.hT.best l c h1).unique hb
 exact h1
theorem DIn.cost (h : DIn f t N s0) (h2 : DIn g t2 N2 s02) (hs : EndSame t s0 t2 s02) : CostSame f g:=fun l y hb => by
 refine h2.back ?_
 have h3:=h.hT.best l y hb
 obtain ⟨b,hb2⟩:=end_exists h2.hT.sin.wide s02 l.reverse
 have h4:=(word_min (u:=l.reverse) h.hT.sin.acc (s0:=s0) (a:=y)).2 (by rw [List.reverse_reverse]; exact h3)
 obtain rfl:=hs _ _ _ h4 hb2
 have h5:=(word_min h2.hT.sin.acc).1 hb2
 rw [List.reverse_reverse] at h5
 exact h5
structure LaOk (f t : FstD) (N s0 K : Nat) (o : FstD) : Prop where
 din : DIn f t N s0
 few : f.states <= 12
 nm : ¬ ManyD t s0
 done : DoneK t N K
 chk : checkD (detX t N K) = 0
 det : ∃ m,∀ (fin arcs : Value) (W : World),ISlice W fin f.final -> ASlice W arcs f.arcs -> Calls Try.prog 7 #[.agg #[.int .i64 f.states,.int .i64 f.start,fin,arcs]] W fun e w' => HasFst W K m (detX t N K) e w'
 le : LeY f (detX t N K) K
 out : OutP (detX t N K) K o
theorem run_out {x : FstD} {K n : Nat} {cl : List Int} {C : List Int -> Nat} {κ : Nat -> List Int} (hx : XIn x K) (hc : ClsIn x K cl n) (hT : TabOf x K cl C κ) : ∃ o,OutP x K o:=by
 obtain ⟨m,hm⟩:=run_some hx hc hT
 exact ⟨_,cl,n,m,C,κ,hc,hT,hm,rfl⟩
theorem least_prog (f : FstD) : (∃ c : Int,c ≠ 0 /\ LeN f c) \/ ∃ t N s0 K o,LaOk f t N s0 K o:=by
 by_cases hc : checkD f = 0
 ·by_cases hs : 12 < f.states
  ·exact Or.inl ⟨2,by decide,fun fin arcs W hf ha => least_big f fin arcs W hf ha hc hs⟩
  ·by_cases hb : (bothB f && !silB f) = false
   ·exact Or.inl ⟨4,by decide,fun fin arcs W hf ha => least_err f 4 fin arcs W hf ha hc hs (by decide) fun W h1 h2 => det_not f fin arcs W h1 h2 hc hb⟩
   ·have hb' : (bothB f && !silB f) = true:=by simpa using hb
    by_cases hr : RoundD f
    ·exact Or.inl ⟨4,by decide,fun fin arcs W hf ha => least_err f 4 fin arcs W hf ha hc hs (by decide) fun W h1 h2 => det_round f fin arcs W h1 h2 hc hb' hr⟩
    ·rw [Bool.and_eq_true,Bool.not_eq_true'] at hb'
     obtain ⟨t,N,s0,hd⟩:=din_of hc hb'.1 hb'.2 hr
     rcases det_three hd with ⟨hm,hdet⟩ | ⟨hm,K,hk,⟨hne,hdet⟩ | ⟨h0,m,hdet⟩⟩
     ·exact Or.inl ⟨2,by decide,fun fin arcs W hf ha => least_err f 2 fin arcs W hf ha hc hs (by decide) fun W h1 h2 => hdet fin arcs W h1 h2⟩
     ·exact Or.inl ⟨2,by decide,fun fin arcs W hf ha => least_err f 2 fin arcs W hf ha hc hs (by decide) fun W h1 h2 => hdet fin arcs W h1 h2⟩
     ·obtain ⟨hx,hsame⟩:=hk.xin hd.hT
      obtain ⟨cl,n,C,κ,hci,hT⟩:=out_exists hx
      obtain ⟨o,ho⟩:=run_out hx hci hT
      exact Or.inr ⟨t,N,s0,K,o,hd,by omega,hm,hk,h0,⟨m,hdet⟩,fun fin arcs W hf ha => least_ok f _ K m fin arcs W hf ha hc hs hx (fine_of h0) fun W h1 h2 => hdet fin arcs W h1 h2,ho⟩
 ·exact Or.inl ⟨checkD f,hc,fun fin arcs W hf ha => least_bad f fin arcs W hf ha hc⟩
theorem LaOk.fine (h : LaOk f t N s0 K o) : Fine o /\ bothB o = true /\ silB o = false /\ ¬ RoundD o /\ o.start = 0 /\ o.states <= (K : Int):=by
 obtain ⟨hx,_⟩:=h.done.xin h.din.hT
 obtain ⟨_,_,hK⟩:=h.done.sub h.din.hT.sin
 exact h.out.fine hx hK (fine_of h.chk)
theorem LaOk.next (h : LaOk f t N s0 K o) : ∃ t' N' s0',DIn o t' N' s0' /\ EndSame t s0 t' s0':=by
 obtain ⟨h1,h2,h3,h4,h5,_⟩:=h.fine
 obtain ⟨t',N',s0',hd⟩:=din_of h1.check h2 h3 h4
 refine ⟨t',N',s0',hd,?_⟩
 obtain ⟨hx,hs⟩:=h.done.xin h.din.hT
 have h6:=hs.trans (h.out.same hx) hx.wide
 have h7 : EndSame o 0 t' s0':=fun u a b ha hb => by
  have h8:=(word_min hd.acc).1 ha
  have e : o.start.toNat = 0:=by rw [h5]; rfl
  have h9:=hd.hT.best _ _ (by rw [e]; exact h8)
  exact h9.unique ((word_min hd.hT.sin.acc).1 hb)
 exact h6.trans h7 (h.out.wide hx)
theorem LaOk.cost (h : LaOk f t N s0 K o) : CostSame f o:=by
 obtain ⟨t',N',s0',hd,hs⟩:=h.next
 exact h.din.cost hd hs
theorem LaOk.again (h : LaOk f t N s0 K o) (hle : o.states <= 12) : ∃ t' N' s0' K',LaOk o t' N' s0' K' o:=by
 obtain ⟨t',N',s0',hd,hs⟩:=h.next
 obtain ⟨hx,hsx⟩:=h.done.xin h.din.hT
 have hw:=h.din.hT.sin.wide
 have hw':=hd.hT.sin.wide
 have hl:=trim_live h.din.hT
 have hl':=trim_live hd.hT
 have hnm : ¬ ManyD t' s0':=by
  rintro ⟨L,k1,k2,k3⟩
  exact h.nm ⟨L,k1,fun u hu => hs.symm.alive_all hw' hw hl' (k2 u hu),k3⟩
 rcases det_three hd with ⟨hm,_⟩ | ⟨_,K',hk,hcase⟩
 ·exact absurd hm hnm
 ·obtain ⟨hy,hsy⟩:=hk.xin hd.hT
  obtain ⟨cl',n',C',κ',hc',hT'⟩:=out_exists hy
  obtain ⟨m',hr'⟩:=run_some hy hc' hT'
  obtain ⟨cl,n,m,C,κ,hc,hT,hr,ho⟩:=id h.out
  have D:=hT.doc hx hc hw hl hsx
  have D':=hT'.doc hy hc' hw' hl' hsy
  obtain ⟨rfl,e⟩:=least_one D D' hs hw hw' hl hl' hr hr'
  have ho' : OutP (detX t' N' K') K' o:=⟨cl',n',m,C',κ',hc',hT',hr',by rw [ho,e]⟩
  rcases hcase with ⟨hne,_⟩ | ⟨h0,md,hdet⟩
  ·have h1:=(great_iff hk hd.hT hy hc' hT' hr').2 hne
   rw [<- e] at h1
   exact absurd h.chk ((great_iff h.done h.din.hT hx hc hT hr).1 h1)
  ·exact ⟨t',N',s0',K',hd,hle,hnm,hk,h0,⟨md,hdet⟩,fun fin arcs W hf ha => least_ok o _ K' md fin arcs W hf ha hd.hc (by omega) hy (fine_of h0) fun W h1 h2 => hdet fin arcs W h1 h2,ho'⟩
def OneR (o : FstD) (w : World) (e : Ending) (w' : World) : Prop:=∃ (ga : Option Addr) (gn gc : Nat) (ba : Option Addr) (bn bc : Nat),e = .returned (.tuple #[.agg #[.int .i64 o.states,.int .i64 o.start,.slice ga gn gc,.slice ba bn bc],.int .i64 0]) /\ ISlice w' (.slice ga gn gc) o.final /\ ASlice w' (.slice ba bn bc) o.arcs /\ Below w.heap.size w w'
theorem LaOk.one (h : LaOk f t N s0 K o) (fin arcs : Value) (W : World) (hf : ISlice W fin f.final) (ha : ASlice W arcs f.arcs) : Calls Try.prog 18 #[.agg #[.int .i64 f.states,.int .i64 f.start,fin,arcs]] W fun e w' => OneR o W e w':=by
 refine (h.le fin arcs W hf ha).mono ?_
 rintro e w' ⟨k,ga,gn,gc,ba,bn,bc,rfl,hj,hb⟩
 obtain ⟨o',ho',e1,e2,h3,h4⟩:=hj.out
 obtain rfl:=out_once (h.done.xin h.din.hT).1 h.out ho'
 exact ⟨ga,gn,gc,ba,bn,bc,by rw [e1,e2],h3,h4,hb⟩
theorem LaOk.same (h : LaOk f t N s0 K o) (h2 : LaOk g t2 N2 s02 K2 q) (he : sameL o q = true) : CostSame f g:=by
 obtain ⟨hx,hs⟩:=h.done.xin h.din.hT
 obtain ⟨hy,hs2⟩:=h2.done.xin h2.din.hT
 have hoq : o = q:=by
  obtain ⟨cl,n,m,C,κ,_,_,_,rfl⟩:=h.out
  obtain ⟨cl2,n2,m2,C2,κ2,_,_,_,rfl⟩:=h2.out
  unfold sameL at he
  simp only [Bool.and_eq_true,decide_eq_true_eq] at he
  obtain ⟨⟨e1,e2⟩,e3⟩:=he
  rw [e1,e2,e3]
 have h3:=hs.trans (h.out.same hx) hx.wide
 rw [hoq] at h3
 have h4:=hs2.trans (h2.out.same hy) hy.wide
 exact h.din.cost h2.din (h3.trans h4.symm (h2.out.wide hy))
end
end Go.Proofs.Yteehgcbjmdideab
/- 'fstIs' of the statements,for a seat without package fst's reader. -/
namespace Go.Proofs.Yteehgcbjmdideab
open Go.RowKit
attribute [local go_sem ↓] Go.wp_at_zero Go.wp_at_succ
end Go.Proofs.Yteehgcbjmdideab
/- 'LeastTells': the walks. (Made by wip/gen/lkd.py.) -/
namespace Go.Proofs.Yteehgcbjmdideab
open Go.RowKit
attribute [local go_sem ↓] Go.wp_at_zero Go.wp_at_succ
end Go.Proofs.Yteehgcbjmdideab
