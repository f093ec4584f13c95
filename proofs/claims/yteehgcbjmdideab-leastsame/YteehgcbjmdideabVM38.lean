/- What Least of the program and LeastOf of the document answer,told together. -/
import Derived.Test.YteehgcbjmdideabVM35
import Derived.Test.YteehgcbjmdideabVLoD
import Derived.Test.YteehgcbjmdideabVM12
import Derived.Test.YteehgcbjmdideabVM36
set_option maxRecDepth 100000
namespace Go.Proofs.Yteehgcbjmdideab
open Go.RowKit
section
variable {f t x : FstD} {N s0 K n m n2 m2 : Nat} {cl cl2 : List Int} {C C2 : List Int -> Nat} {κ κ2 : Nat -> List Int}
theorem DoneK.fine (h : DoneK t N K) (hT : Sc.TrimIn f t N s0) (hl : ∀ y,(y ∈ (detX t N K).final \/ ∃ a ∈ (detX t N K).arcs,a.wt = y) -> y <= 1000000000) : Fine (detX t N K):=by
 obtain ⟨ho,h1,h2⟩:=h.out hT
 obtain ⟨_,hK1,hK⟩:=h.sub hT.sin
 refine ⟨by rw [ho.st]; omega,by rw [ho.st]; omega,by rw [ho.sta]; exact Int.le_refl _,by rw [ho.sta,ho.st]; omega,by rw [ho.flen,ho.st],fun y hy => ?_,by omega,fun a ha => ?_,ho.ahead⟩
 ·have:=hl y (Or.inl hy)
  rcases ho.fin y hy with e | e
  ·exact Or.inl e
  ·right; omega
 ·have hb:=ho.arcs a ha
  have hw:=hl a.wt (Or.inr ⟨a,ha,rfl⟩)
  constructor <;> (rw [show inB = fun n a b => decide (a <= n) && decide (n <= b) from rfl]; simp only [Bool.and_eq_true,decide_eq_true_eq]; first | (rw [ho.st]; omega) | omega)
theorem great_iff (h : DoneK t N K) (hT : Sc.TrimIn f t N s0) (hx : XIn (detX t N K) K) (hc : ClsIn (detX t N K) K cl n) (hTab : TabOf (detX t N K) K cl C κ) (hr : RunN κ (C []) m) : Great (numN κ (C []) m).2.1 (numN κ (C []) m).2.2 ↔ checkD (detX t N K) ≠ 0:=by
 have ho:=hr.out
 have key : Great (numN κ (C []) m).2.1 (numN κ (C []) m).2.2 ↔ ∃ y,1000000000 < y /\ (y ∈ (detX t N K).final \/ ∃ a ∈ (detX t N K).arcs,a.wt = y):=by
  have e1 : (numN κ (C []) m).2.1 = (outK κ (numN κ (C []) m).1).final:=by rw [<- ho]
  have e2 : (numN κ (C []) m).2.2 = (outK κ (numN κ (C []) m).1).arcs:=by rw [<- ho]
  unfold Great
  rw [e1,e2]
  constructor
  ·rintro ⟨y,hy,h1⟩
   exact ⟨y,hy,(hr.heavy hTab hx hc (by omega)).1 h1⟩
  ·rintro ⟨y,hy,h1⟩
   exact ⟨y,hy,(hr.heavy hTab hx hc (by omega)).2 h1⟩
 rw [key]
 constructor
 ·rintro ⟨y,hy,h1⟩ hc0
  have hf:=fine_of hc0
  rcases h1 with h1 | ⟨a,ha,rfl⟩
  ·have:=hf.fin y h1; omega
  ·have:=(hf.arcs a ha).wt
   simp [inB] at this
   omega
 ·intro hne
  refine Classical.byContradiction fun hno => hne ?_
  exact (h.fine hT fun y hy => by
   by_cases e : 1000000000 < y
   ·exact absurd ⟨y,e,hy⟩ hno
   ·omega).check
theorem out_once (hx : XIn x K) {o o' : FstD} (h : OutP x K o) (h' : OutP x K o') : o = o':=by
 obtain ⟨cl,n,m,C,κ,h1,h2,h3,rfl⟩:=h
 obtain ⟨cl2,n2,m2,C2,κ2,k1,k2,k3,rfl⟩:=h'
 have hs : EndSame x 0 x 0:=fun u a b ha hb => ha.unique hb
 have d1:=h2.doc hx h1 hx.wide hx.live hs
 have d2:=k2.doc hx k1 hx.wide hx.live hs
 obtain ⟨rfl,e⟩:=least_one d1 d2 hs hx.wide hx.wide hx.live hx.live h3 k3
 rw [e]
theorem out_exists (hx : XIn x K) : ∃ cl n C κ,ClsIn x K cl n /\ TabOf x K cl C κ:=by
 obtain ⟨cl,n,_,hc⟩:=cls_exists (x:=x) hx.k0 fun a ha => by
  have:=hx.gin.arcs a ha
  exact ⟨a.dst.toNat,by omega,by omega⟩
 obtain ⟨C,κ,hT⟩:=tab_exists hx hc
 exact ⟨cl,n,C,κ,hc,hT⟩
theorem run_exists (hx : XIn x K) (hc : ClsIn x K cl n) (hT : TabOf x K cl C κ) : ∃ o,OutP x K o:=by
 have hc0 : C [] < n:=by
  have h1:=hT.c [] 0 0 ⟨rfl,rfl⟩
  have h2:=hc.cls.lt 0 hx.k0
  omega
 have hlp : ∀ v,v < n -> LeapsIn (κ v) n:=fun v hv i hi => by
  obtain ⟨s,hs,e⟩:=hc.cls.on v hv
  have hk:=hT.κ s hs
  rw [e,Int.toNat_natCast] at hk
  rw [hk]
  rcases hx.leap hc (s:=s) hi with ⟨h1,_⟩ | ⟨a,_,t,ht,_,_,_,h4,h5,_⟩
  ·exact Or.inl h1
  ·right
   have:=(hc.cls.lt t ht).2
   rw [h4]
   exact ⟨(gI cl t).toNat,by omega,by omega⟩
 have hnot : ∃ m,m <= n /\ ¬ m < (numN κ (C []) m).1.length /\ ∀ j,j < m -> j < (numN κ (C []) j).1.length:=by
  by_cases hall : ∀ j,j < n -> j < (numN κ (C []) j).1.length
  ·have h1:=metOk_len (numN_ok hc0 hlp n hall).1
   exact ⟨n,Nat.le_refl _,by omega,hall⟩
  ·obtain ⟨k,hk⟩:=Classical.not_forall.1 hall
   obtain ⟨hk1,hk2⟩:=Classical.not_imp.1 hk
   obtain ⟨m,h1,h2,h3⟩:=first_not (fun m => m < (numN κ (C []) m).1.length) k hk2
   exact ⟨m,by omega,h2,h3⟩
 obtain ⟨m,_,h2,h3⟩:=hnot
 refine ⟨_,cl,n,m,C,κ,hc,hT,⟨h3,?_⟩,rfl⟩
 by_cases e : m = 0
 ·subst e
  exact absurd Nat.zero_lt_one h2
 ·have h4:=h3 (m - 1) (by omega)
  obtain ⟨l,hl⟩:=numN_to (κ:=κ) (c0:=C []) (show m - 1 <= m by omega)
  have h5 : (numN κ (C []) m).1.length = (numN κ (C []) (m - 1)).1.length + l.length:=by rw [hl,List.length_append]
  omega
end
def Chk (f : FstD) (c : Int) : Prop:=∀ (fin arcs : Value) (W : World),ISlice W fin f.final -> ASlice W arcs f.arcs -> Calls Try.prog 19 #[.agg #[.int .i64 f.states,.int .i64 f.start,fin,arcs]] W fun e w' => e = .returned (.int .i64 c) /\ Below W.heap.size W w'
def LeN (f : FstD) (c : Int) : Prop:=∀ (fin arcs : Value) (W : World),ISlice W fin f.final -> ASlice W arcs f.arcs -> Calls Try.prog 18 #[.agg #[.int .i64 f.states,.int .i64 f.start,fin,arcs]] W fun e w' => NoFst W c e w'
def LoN (f : FstD) (c : Int) : Prop:=∀ (fin arcs : Value) (W : World),ISlice W fin f.final -> ASlice W arcs f.arcs -> Calls Try.prog 20 #[.agg #[.int .i64 f.states,.int .i64 f.start,fin,arcs]] W fun e w' => NoFst W c e w'
def LeY (f x : FstD) (K : Nat) : Prop:=∀ (fin arcs : Value) (W : World),ISlice W fin f.final -> ASlice W arcs f.arcs -> Calls Try.prog 18 #[.agg #[.int .i64 f.states,.int .i64 f.start,fin,arcs]] W fun e w' => LstRes x K W e w'
def OneRes (o : FstD) (w : World) (e : Ending) (w' : World) : Prop:=∃ (ga : Option Addr) (gn gc : Nat) (ba : Option Addr) (bn bc : Nat),e = .returned (.tuple #[.agg #[.int .i64 o.states,.int .i64 o.start,.slice ga gn gc,.slice ba bn bc],.int .i64 0]) /\ ISlice w' (.slice ga gn gc) o.final /\ ASlice w' (.slice ba bn bc) o.arcs /\ (∀ b,(Value.slice ga gn gc).ownBlock = some b -> w.heap.size <= b) /\ (∀ b,(Value.slice ba bn bc).ownBlock = some b -> w.heap.size <= b) /\ Below w.heap.size w w'
def LoY (f o : FstD) : Prop:=∀ (fin arcs : Value) (W : World),ISlice W fin f.final -> ASlice W arcs f.arcs -> Calls Try.prog 20 #[.agg #[.int .i64 f.states,.int .i64 f.start,fin,arcs]] W fun e w' => OneRes o W e w'
structure LeOk (f t : FstD) (N s0 K : Nat) (o : FstD) : Prop where
 din : DIn f t N s0
 few : f.states <= 12
 nm : ¬ ManyD t s0
 done : DoneK t N K
 chk : checkD (detX t N K) = 0
 cl : Chk f 0
 le : LeY f (detX t N K) K
 lo : LoY f o
 out : OutP (detX t N K) K o
theorem least_what (f : FstD) : (∃ c : Int,c ≠ 0 /\ LeN f c /\ (Chk f c \/ (Chk f 0 /\ LoN f c))) \/ ∃ t N s0 K o,LeOk f t N s0 K o:=by
 by_cases hc : checkD f = 0
 ·by_cases hs : 12 < f.states
  ·refine Or.inl ⟨2,by decide,fun fin arcs W hf ha => least_big f fin arcs W hf ha hc hs,Or.inl fun fin arcs W hf ha => (checkLeast_any f fin arcs W hf ha).mono ?_⟩
   rintro e w' ⟨c,rfl,hb,_,h2,_⟩
   rw [h2 hc hs]
   exact ⟨rfl,hb⟩
  ·by_cases hn : bothB f = false \/ silB f = true \/ RoundD f
   ·refine Or.inl ⟨4,by decide,fun fin arcs W hf ha => least_err f 4 fin arcs W hf ha hc hs (by decide) fun W h1 h2 => ?_,Or.inl fun fin arcs W hf ha => (checkLeast_any f fin arcs W hf ha).mono ?_⟩
    ·by_cases hb : (bothB f && !silB f) = false
     ·exact det_not f fin arcs W h1 h2 hc hb
     ·have hb' : (bothB f && !silB f) = true:=by simpa using hb
      refine det_round f fin arcs W h1 h2 hc hb' ?_
      rw [Bool.and_eq_true] at hb'
      rcases hn with e | e | e
      ·rw [e] at hb'; exact absurd hb'.1 (by decide)
      ·rw [e] at hb'; exact absurd hb'.2 (by decide)
      ·exact e
    ·rintro e w' ⟨c,rfl,hb,_,_,h3,_⟩
     rw [h3 hc (by omega) hn]
     exact ⟨rfl,hb⟩
   ·have hb : bothB f = true:=by
     cases e : bothB f
     ·exact absurd (Or.inl e) hn
     ·rfl
    have hsl : silB f = false:=by
     cases e : silB f
     ·rfl
     ·exact absurd (Or.inr (Or.inl e)) hn
    have hr : ¬ RoundD f:=fun e => hn (Or.inr (Or.inr e))
    obtain ⟨t,N,s0,hd⟩:=din_of hc hb hsl hr
    have hchk : Chk f 0:=fun fin arcs W hf ha => (checkLeast_any f fin arcs W hf ha).mono (by
     rintro e w' ⟨c,rfl,hbw,_,_,_,h4⟩
     rw [h4 hc (by omega) hb hsl hr]
     exact ⟨rfl,hbw⟩)
    have hlive:=trim_live hd.hT
    rcases det_three hd with ⟨hm,hdet⟩ | ⟨hm,K,hk,hcase⟩
    ·exact Or.inl ⟨2,by decide,fun fin arcs W hf ha => least_err f 2 fin arcs W hf ha hc hs (by decide) fun W h1 h2 => hdet fin arcs W h1 h2,Or.inr ⟨hchk,fun fin arcs W hf ha => leastOf_many f t N s0 fin arcs W hd hm hf ha⟩⟩
    ·obtain ⟨hx,hsame⟩:=hk.xin hd.hT
     obtain ⟨cl,n,C,κ,hci,hT⟩:=out_exists hx
     have hD:=hT.doc hx hci hd.hT.sin.wide hlive hsame
     rcases hcase with ⟨hne,hdet⟩ | ⟨h0,m,hdet⟩
     ·refine Or.inl ⟨2,by decide,fun fin arcs W hf ha => least_err f 2 fin arcs W hf ha hc hs (by decide) fun W h1 h2 => hdet fin arcs W h1 h2,Or.inr ⟨hchk,fun fin arcs W hf ha => (leastOf_any f t N s0 C κ fin arcs W hd hm hlive hD hf ha).mono ?_⟩⟩
      rintro e w' ⟨m,hrun,hbw,⟨_,rfl⟩ | ⟨hng,_⟩⟩
      ·exact ⟨rfl,hbw⟩
      ·exact absurd ((great_iff hk hd.hT hx hci hT hrun).2 hne) hng
     ·have hlo : ∀ (fin arcs : Value) (W : World),ISlice W fin f.final -> ASlice W arcs f.arcs -> Calls Try.prog 20 #[.agg #[.int .i64 f.states,.int .i64 f.start,fin,arcs]] W fun e w' => ∃ o,OutP (detX t N K) K o /\ OneRes o W e w':=fun fin arcs W hf ha => (leastOf_any f t N s0 C κ fin arcs W hd hm hlive hD hf ha).mono (by
       rintro e w' ⟨m,hrun,hbw,⟨hg,_⟩ | ⟨_,ga,gn,gc,ba,bn,bc,rfl,hI,hA,h7,h8⟩⟩
       ·exact absurd ((great_iff hk hd.hT hx hci hT hrun).1 hg) (by simp [h0])
       ·exact ⟨_,⟨cl,n,m,C,κ,hci,hT,hrun,rfl⟩,ga,gn,gc,ba,bn,bc,rfl,hI,hA,h7,h8,hbw⟩)
      obtain ⟨o,ho⟩:=run_exists hx hci hT
      refine Or.inr ⟨t,N,s0,K,o,hd,by omega,hm,hk,h0,hchk,fun fin arcs W hf ha => least_ok f _ K m fin arcs W hf ha hc hs hx (fine_of h0) fun W h1 h2 => hdet fin arcs W h1 h2,fun fin arcs W hf ha => (hlo fin arcs W hf ha).mono ?_,ho⟩
      rintro e w' ⟨o',ho',hres⟩
      rw [out_once hx ho ho']
      exact hres
 ·refine Or.inl ⟨checkD f,hc,fun fin arcs W hf ha => least_bad f fin arcs W hf ha hc,Or.inl fun fin arcs W hf ha => (checkLeast_any f fin arcs W hf ha).mono ?_⟩
  rintro e w' ⟨c,rfl,hb,h1,_⟩
  rw [h1 hc]
  exact ⟨rfl,hb⟩
end Go.Proofs.Yteehgcbjmdideab
/- What is joined costs the same for each word. -/
namespace Go.Proofs.Yteehgcbjmdideab
open Go.RowKit
section
variable {x : FstD} {K n m : Nat} {cl : List Int} {C : List Int -> Nat} {κ : Nat -> List Int}
theorem idx_at {M : List Nat} {a : Nat} (h : a ∈ M) : M.getD (M.idxOf a) 0 = a /\ M.idxOf a < M.length:=by
 have h1:=List.idxOf_lt_length_of_mem h
 rw [List.getD_eq_getElem?_getD,List.getElem?_eq_getElem h1]
 exact ⟨List.getElem_idxOf h1,h1⟩
theorem RunN.ways (hr : RunN κ (C []) m) (hT : TabOf x K cl C κ) (h : XIn x K) (hc : ClsIn x K cl n) : ∀ (u : List Int) (j : Nat) (z : Int),WdR (outK κ (numN κ (C []) m).1) 0 u j z ↔ ∃ k,WdR x 0 u k z /\ j = (numN κ (C []) m).1.idxOf (C u):=by
 have hmet:=hr.all_met hT h hc
 have hf:=hr.first
 obtain ⟨M,hM⟩ : ∃ M,M = (numN κ (C []) m).1:=⟨_,rfl⟩
 rw [<- hM] at hmet hf ⊢
 have h0 : M.idxOf (C []) = 0:=by
  cases M with
  | nil => cases hf
  | cons a l =>
   have : a = C []:=by simpa using hf
   subst this
   simp
 intro u
 induction u with
 | nil =>
  intro j z
  constructor
  ·rintro ⟨rfl,rfl⟩; exact ⟨0,⟨rfl,rfl⟩,h0.symm⟩
  ·rintro ⟨k,⟨rfl,rfl⟩,rfl⟩; exact ⟨h0,rfl⟩
 | cons c u ih =>
  intro j z
  constructor
  ·rintro ⟨a,ha,n',z',hw,hi,hs,hd,rfl⟩
   obtain ⟨k',hk',rfl⟩:=(ih n' z').1 hw
   obtain ⟨j0,_,ha⟩:=List.mem_flatMap.1 ha
   obtain ⟨i,hi9,e⟩:=List.mem_filterMap.1 ha
   have hi9:=List.mem_range.1 hi9
   have hu:=idx_at (hmet u k' z' hk')
   unfold arcK at e
   by_cases hlp : gI (κ (M.getD j0 0)) (1 + i * 2) = -1
   ·rw [if_pos hlp] at e; cases e
   ·rw [if_neg hlp] at e
    injection e with e
    subst e
    dsimp only at hs hi hd ⊢
    have hj0 : j0 = M.idxOf (C u):=by omega
    rw [hj0,hu.1,hT.at h hk'] at hlp hd ⊢
    rcases h.leap hc (s:=k') hi9 with ⟨h1,_⟩ | ⟨b,hb,t,ht,hb1,hb2,hb3,hb4,hb5,hb6⟩
    ·exact absurd h1 hlp
    ·have hw2 : WdR x 0 (c :: u) t (z' + b.wt):=⟨b,hb,k',z',hk',by omega,hb1,hb3,rfl⟩
     have hC:=hT.c _ _ _ hw2
     refine ⟨t,by rw [hb6]; exact hw2,?_⟩
     rw [hb4,<- hC,Int.toNat_natCast] at hd
     omega
  ·rintro ⟨k,hk,rfl⟩
   obtain ⟨b,hb,k',z',hk',hi,hs,hd,rfl⟩:=id hk
   have hu:=idx_at (hmet u k' z' hk')
   have hl:=h.lets b hb
   obtain ⟨i,hi9,hci⟩ : ∃ i : Nat,i < 9 /\ b.inp = ((i + 1 : Nat) : Int):=⟨(b.inp - 1).toNat,by omega,by omega⟩
   rcases h.leap hc (s:=k') hi9 with ⟨_,h1⟩ | ⟨b',hb',t,ht,hb1,hb2,hb3,hb4,hb5,hb6⟩
   ·exact absurd ⟨hs,hci⟩ (h1 b hb)
   ·obtain rfl:=arc_once h.ord hb hb' (by omega) (by omega)
    have hkt : k = t:=by omega
    subst hkt
    have hC:=hT.c _ _ _ hk
    refine ⟨⟨(M.idxOf (C u) : Int),((i + 1 : Nat) : Int),((i + 1 : Nat) : Int),(M.idxOf (C (c :: u)) : Int),b.wt⟩,List.mem_flatMap.2 ⟨M.idxOf (C u),List.mem_range.2 hu.2,List.mem_filterMap.2 ⟨i,List.mem_range.2 hi9,?_⟩⟩,M.idxOf (C u),z',(ih _ _).2 ⟨k',hk',rfl⟩,(by show ((i + 1 : Nat) : Int) = c; omega),rfl,rfl,rfl⟩
    unfold arcK
    rw [hu.1,hT.at h hk',if_neg (by rw [hb4]; omega),hb4,hb6,<- hC,Int.toNat_natCast]
theorem RunN.ends (hr : RunN κ (C []) m) (hT : TabOf x K cl C κ) (h : XIn x K) (hc : ClsIn x K cl n) (u : List Int) (y : Int) : EndP (outK κ (numN κ (C []) m).1) 0 u y ↔ EndP x 0 u y:=by
 have hw:=hr.ways hT h hc
 have hmet:=hr.all_met hT h hc
 obtain ⟨M,hM⟩ : ∃ M,M = (numN κ (C []) m).1:=⟨_,rfl⟩
 rw [<- hM] at hmet hw ⊢
 have hfin : ∀ (k : Nat) (z : Int),WdR x 0 u k z -> gI (outK κ M).final (M.idxOf (C u)) = gI x.final k:=fun k z hk => by
  have hu:=idx_at (hmet u k z hk)
  show gI (M.map fun v => gI (κ v) 0) _ = _
  conv => lhs; unfold gI
  rw [List.getD_eq_getElem?_getD,List.getElem?_map,List.getElem?_eq_getElem hu.2]
  have e : M[M.idxOf (C u)]'hu.2 = C u:=List.getElem_idxOf hu.2
  simp only [Option.map_some,Option.getD_some,e]
  have e2:=hT.at h hk
  have e3:=kind_end x.arcs x.final cl k
  rw [<- e2] at e3
  exact e3
 constructor
 ·rintro ⟨j,z,h1,h2,rfl⟩
  obtain ⟨k,hk,rfl⟩:=(hw u j z).1 h1
  rw [hfin k z hk] at h2 ⊢
  exact ⟨k,z,hk,h2,rfl⟩
 ·rintro ⟨k,z,hk,h2,rfl⟩
  refine ⟨_,z,(hw u _ z).2 ⟨k,hk,rfl⟩,?_,?_⟩ <;> rw [hfin k z hk]
  exact h2
end
theorem OutP.same {x : FstD} {K : Nat} {o : FstD} (h : OutP x K o) (hx : XIn x K) : EndSame x 0 o 0:=by
 obtain ⟨cl,n,m,C,κ,h1,h2,h3,rfl⟩:=h
 rw [h3.out]
 intro u a b ha hb
 exact ha.unique (hb.cong fun y => h3.ends h2 hx h1 u y)
theorem EndSame.trans {t : FstD} {s0 : Nat} {x : FstD} {r0 : Nat} {y : FstD} {q0 K : Nat} (h : EndSame t s0 x r0) (h2 : EndSame x r0 y q0) (hw : WideA x K) : EndSame t s0 y q0:=fun u a b ha hb => by
 obtain ⟨c,hc⟩:=end_exists hw r0 u
 exact (h u a c ha hc).trans (h2 u c b hc hb)
theorem alike_same {t t2 : FstD} {s0 s02 : Nat} : AlikeP t s0 [] t2 s02 [] 0 0 ↔ EndSame t s0 t2 s02:=by
 constructor
 ·intro h u a b ha hb
  have h1:=h u a b (by rw [List.append_nil]; exact ha) (by rw [List.append_nil]; exact hb)
  by_cases e : 0 <= a
  ·have:=h1.2 e; omega
  ·rw [(ha.not (by omega)).1,(hb.not (by omega)).1]
 ·intro h s a b ha hb
  rw [List.append_nil] at ha hb
  have:=h s a b ha hb
  subst this
  exact ⟨Iff.rfl,fun _ => rfl⟩
theorem OutP.wide {x : FstD} {K : Nat} {o : FstD} (h : OutP x K o) (hx : XIn x K) : WideA o o.states.toNat:=by
 obtain ⟨cl,n,m,C,κ,h1,h2,h3,rfl⟩:=h
 have hfrom:=numN_from h2 hx h1 m h3.all
 have hnext:=fun v i hv hi hne => h3.next (v:=v) (i:=i) hv hi hne
 have hd:=h3.done
 rw [h3.out]
 obtain ⟨M,hM⟩ : ∃ M,M = (numN κ (C []) m).1:=⟨_,rfl⟩
 rw [<- hM] at hfrom hnext hd ⊢
 have hst : (outK κ M).states.toNat = M.length:=by show ((M.length : Int)).toNat = _; omega
 rw [hst]
 intro a ha
 obtain ⟨j,hj,ha⟩:=List.mem_flatMap.1 ha
 obtain ⟨i,hi,e⟩:=List.mem_filterMap.1 ha
 have hj:=List.mem_range.1 hj
 have hi:=List.mem_range.1 hi
 have hjm : M.getD j 0 ∈ M:=by
  rw [List.getD_eq_getElem?_getD,List.getElem?_eq_getElem hj]
  exact List.getElem_mem hj
 obtain ⟨u,k,z,hu,e2⟩:=hfrom _ hjm
 unfold arcK at e
 by_cases hlp : gI (κ (M.getD j 0)) (1 + i * 2) = -1
 ·rw [if_pos hlp] at e; cases e
 ·have hin:=hnext _ i hjm hi hlp
  rw [if_neg hlp] at e
  injection e with e
  subst e
  have h5:=(idx_at hin).2
  have hwt : 0 <= gI (κ (M.getD j 0)) (1 + i * 2 + 1):=by
   rw [<- e2,h2.at hx hu]
   rcases hx.leap h1 (s:=k) hi with ⟨h6,_⟩ | ⟨b,hb,t,ht,hb1,hb2,hb3,hb4,hb5,hb6⟩
   ·rw [<- e2,h2.at hx hu] at hlp; exact absurd h6 hlp
   ·rw [hb6]; exact (hx.gin.arcs b hb).2.2
  dsimp only
  exact ⟨⟨by omega,by omega⟩,⟨by omega,by omega⟩,hwt,by omega,by omega⟩
section
variable {f g t t2 : FstD} {N s0 K N2 s02 K2 : Nat} {o q : FstD}
theorem LeOk.same_iff (h : LeOk f t N s0 K o) (h2 : LeOk g t2 N2 s02 K2 q) : sameL o q = true ↔ EndSame t s0 t2 s02:=by
 obtain ⟨hx,hs⟩:=h.done.xin h.din.hT
 obtain ⟨hy,hs2⟩:=h2.done.xin h2.din.hT
 constructor
 ·intro he
  have hoq : o = q:=by
   obtain ⟨cl,n,m,C,κ,_,_,_,rfl⟩:=h.out
   obtain ⟨cl2,n2,m2,C2,κ2,_,_,_,rfl⟩:=h2.out
   unfold sameL at he
   simp only [Bool.and_eq_true,decide_eq_true_eq] at he
   obtain ⟨⟨e1,e2⟩,e3⟩:=he
   rw [e1,e2,e3]
  have h3:=hs.trans (h.out.same hx) hx.wide
  rw [hoq] at h3
  have h4:=hs2.trans (h2.out.same hy) hy.wide
  exact h3.trans h4.symm (h2.out.wide hy)
 ·intro hsame
  obtain ⟨cl,n,m,C,κ,c1,c2,c3,rfl⟩:=h.out
  obtain ⟨cl2,n2,m2,C2,κ2,d1,d2,d3,rfl⟩:=h2.out
  have hl:=trim_live h.din.hT
  have hl2:=trim_live h2.din.hT
  have D:=c2.doc hx c1 h.din.hT.sin.wide hl hs
  have D2:=d2.doc hy d1 h2.din.hT.sin.wide hl2 hs2
  obtain ⟨rfl,e⟩:=least_one D D2 hsame h.din.hT.sin.wide h2.din.hT.sin.wide hl hl2 c3 d3
  unfold sameL
  rw [e]
  simp
end
end Go.Proofs.Yteehgcbjmdideab
/- 'fstIs' of the statements,for a seat without package fst's reader. -/
namespace Go.Proofs.Yteehgcbjmdideab
open Go.RowKit
attribute [local go_sem ↓] Go.wp_at_zero Go.wp_at_succ
end Go.Proofs.Yteehgcbjmdideab
/- 'LeastTells': the walks. (Made by wip/gen/lkd.py.) -/
namespace Go.Proofs.Yteehgcbjmdideab
open Go.RowKit
attribute [local go_sem ↓] Go.wp_at_zero Go.wp_at_succ
end Go.Proofs.Yteehgcbjmdideab
/- 'LeastSame': the walks. (Made by wip/gen/lsa.py.) -/
namespace Go.Proofs.Yteehgcbjmdideab
open Go.RowKit
attribute [local go_sem ↓] Go.wp_at_zero Go.wp_at_succ
def SaN (f g : FstD) (fin arcs fin' arcs' : Value) (c : Int) : Prop:=∀ W : World,ISlice W fin f.final -> ASlice W arcs f.arcs -> ISlice W fin' g.final -> ASlice W arcs' g.arcs -> Calls Try.prog 23 #[.agg #[.int .i64 f.states,.int .i64 f.start,fin,arcs],.agg #[.int .i64 g.states,.int .i64 g.start,fin',arcs']] W fun e w' => NoSame W c e w'
set_option maxHeartbeats 3200000 in
theorem ls_one (f g : FstD) (c : Int) (fin arcs fin' arcs' : Value) (w : World) (hf : ISlice w fin f.final) (ha : ASlice w arcs f.arcs) (hf' : ISlice w fin' g.final) (ha' : ASlice w arcs' g.arcs) (h0 : c ≠ 0) (hsame : SaN f g fin arcs fin' arcs' c) (hck : Chk f c) :
  Calls Try.prog 5 #[.agg #[.int .i64 f.states,.int .i64 f.start,fin,arcs],.agg #[.int .i64 g.states,.int .i64 g.start,fin',arcs']] w fun e w' => e = .returned (.bool true) /\ Below w.heap.size w w':=by
 obtain ⟨fa,fn,fc,rfl,_,_⟩:=hf.lenOf
 obtain ⟨aa,am,ac,rfl,_,_⟩:=ha.lenOf
 obtain ⟨ga,gn,gc,rfl,_,_⟩:=hf'.lenOf
 obtain ⟨ba,bm,bc,rfl,_,_⟩:=ha'.lenOf
 obtain ⟨A1,hA1⟩ : ∃ W,W = w.alloc (.cells #[.int .i64 f.states,.int .i64 f.start,.slice fa fn fc,.slice aa am ac] 25):=⟨_,rfl⟩
 obtain ⟨A2,hA2⟩ : ∃ W,W = A1.alloc (.cells #[.int .i64 g.states,.int .i64 g.start,.slice ga gn gc,.slice ba bm bc] 25):=⟨_,rfl⟩
 have z1 : A1.heap.size = w.heap.size + 1:=by rw [hA1]; exact one_size _ _
 have k1 : Below w.heap.size w A1:=by rw [hA1]; exact bel_up (bel_self _) _
 have k2 : Below A1.heap.size A1 A2:=by rw [hA2]; exact bel_up (bel_self _) _
 have hk:=bel_on k1 k2
 have hcF : CellsF A2 w.heap.size f.states f.start (.slice fa fn fc) (.slice aa am ac):=(by rw [hA1]; exact cellsF_new _ _ _ _ _ _ : CellsF A1 w.heap.size f.states f.start (.slice fa fn fc) (.slice aa am ac)).below k2
 have hcG : CellsF A2 (w.heap.size + 1) g.states g.start (.slice ga gn gc) (.slice ba bm bc):=by rw [hA2,<- z1]; exact cellsF_new _ _ _ _ _ _
 have HF : Hid (∀ W,Below A2.heap.size A2 W -> ISlice W (.slice fa fn fc) f.final /\ ASlice W (.slice aa am ac) f.arcs /\ CellsF W w.heap.size f.states f.start (.slice fa fn fc) (.slice aa am ac)):=fun W h => ⟨(hf.below hk).below h,(ha.below hk).below h,hcF.below h⟩
 have HG : Hid (∀ W,Below A2.heap.size A2 W -> ISlice W (.slice ga gn gc) g.final /\ ASlice W (.slice ba bm bc) g.arcs /\ CellsF W (w.heap.size + 1) g.states g.start (.slice ga gn gc) (.slice ba bm bc)):=fun W h => ⟨(hf'.below hk).below h,(ha'.below hk).below h,hcG.below h⟩
 have h23:=hsame A2 (hf.below hk) (ha.below hk) (hf'.below hk) (ha'.below hk)
 have HK:=hid_of hk
 have HA:=hid_of (And.intro hA1 hA2)
 rw [hA2,hA1] at h23
 obtain ⟨q0,q1,q2,q3⟩:=hcF
 obtain ⟨p0,p1,p2,p3⟩:=hcG
 rw [hA2,hA1] at q0 q1 q2 q3 p0 p1 p2 p3
 clear hf ha hf' ha' hA1 hA2 k1 k2 z1 hk hsame
 have h0b : (c == 0) = false:=by simpa using h0
 clear h0
 go_enter Try.func5,Try.ntmps5
 go_upto_region 2 with (go_at_call 23; refine h23.mono ?_; rintro e w1 ⟨rfl,hb1⟩; rw [<- HA.out.1,<- HA.out.2] at hb1; clear h23)
 clear q0 q1 q2 q3 p0 p1 p2 p3
 have hc:=hck _ _ w1 (HF.out w1 hb1).1 (HF.out w1 hb1).2.1
 obtain ⟨q0,q1,q2,q3⟩:=(HF.out w1 hb1).2.2
 go_upto_region 3 with (go_at_call 19; refine hc.mono ?_; rintro e w2 ⟨rfl,hb⟩; clear hc)
 clear q0 q1 q2 q3
 have hb2:=bel_on hb1 hb
 clear hb
 go_wp2_with (go_at_call 21; refine (leastBegun_any _).mono ?_; rintro e w9 ⟨rfl,hb9⟩; have HB9:=hid_of (bel_on hb2 hb9); clear hb9)
 go_ret
 exact ⟨rfl,bel_on HK.out HB9.out⟩
set_option maxHeartbeats 3200000 in
theorem ls_two (f g : FstD) (c : Int) (fin arcs fin' arcs' : Value) (w : World) (hf : ISlice w fin f.final) (ha : ASlice w arcs f.arcs) (hf' : ISlice w fin' g.final) (ha' : ASlice w arcs' g.arcs) (h0 : c ≠ 0) (hsame : SaN f g fin arcs fin' arcs' c) (hck : Chk f 0) (hlo : LoN f c) :
  Calls Try.prog 5 #[.agg #[.int .i64 f.states,.int .i64 f.start,fin,arcs],.agg #[.int .i64 g.states,.int .i64 g.start,fin',arcs']] w fun e w' => e = .returned (.bool true) /\ Below w.heap.size w w':=by
 obtain ⟨fa,fn,fc,rfl,_,_⟩:=hf.lenOf
 obtain ⟨aa,am,ac,rfl,_,_⟩:=ha.lenOf
 obtain ⟨ga,gn,gc,rfl,_,_⟩:=hf'.lenOf
 obtain ⟨ba,bm,bc,rfl,_,_⟩:=ha'.lenOf
 obtain ⟨A1,hA1⟩ : ∃ W,W = w.alloc (.cells #[.int .i64 f.states,.int .i64 f.start,.slice fa fn fc,.slice aa am ac] 25):=⟨_,rfl⟩
 obtain ⟨A2,hA2⟩ : ∃ W,W = A1.alloc (.cells #[.int .i64 g.states,.int .i64 g.start,.slice ga gn gc,.slice ba bm bc] 25):=⟨_,rfl⟩
 have z1 : A1.heap.size = w.heap.size + 1:=by rw [hA1]; exact one_size _ _
 have k1 : Below w.heap.size w A1:=by rw [hA1]; exact bel_up (bel_self _) _
 have k2 : Below A1.heap.size A1 A2:=by rw [hA2]; exact bel_up (bel_self _) _
 have hk:=bel_on k1 k2
 have hcF : CellsF A2 w.heap.size f.states f.start (.slice fa fn fc) (.slice aa am ac):=(by rw [hA1]; exact cellsF_new _ _ _ _ _ _ : CellsF A1 w.heap.size f.states f.start (.slice fa fn fc) (.slice aa am ac)).below k2
 have hcG : CellsF A2 (w.heap.size + 1) g.states g.start (.slice ga gn gc) (.slice ba bm bc):=by rw [hA2,<- z1]; exact cellsF_new _ _ _ _ _ _
 have HF : Hid (∀ W,Below A2.heap.size A2 W -> ISlice W (.slice fa fn fc) f.final /\ ASlice W (.slice aa am ac) f.arcs /\ CellsF W w.heap.size f.states f.start (.slice fa fn fc) (.slice aa am ac)):=fun W h => ⟨(hf.below hk).below h,(ha.below hk).below h,hcF.below h⟩
 have HG : Hid (∀ W,Below A2.heap.size A2 W -> ISlice W (.slice ga gn gc) g.final /\ ASlice W (.slice ba bm bc) g.arcs /\ CellsF W (w.heap.size + 1) g.states g.start (.slice ga gn gc) (.slice ba bm bc)):=fun W h => ⟨(hf'.below hk).below h,(ha'.below hk).below h,hcG.below h⟩
 have h23:=hsame A2 (hf.below hk) (ha.below hk) (hf'.below hk) (ha'.below hk)
 have HK:=hid_of hk
 have HA:=hid_of (And.intro hA1 hA2)
 rw [hA2,hA1] at h23
 obtain ⟨q0,q1,q2,q3⟩:=hcF
 obtain ⟨p0,p1,p2,p3⟩:=hcG
 rw [hA2,hA1] at q0 q1 q2 q3 p0 p1 p2 p3
 clear hf ha hf' ha' hA1 hA2 k1 k2 z1 hk hsame
 have h0b : (c == 0) = false:=by simpa using h0
 clear h0
 go_enter Try.func5,Try.ntmps5
 go_upto_region 2 with (go_at_call 23; refine h23.mono ?_; rintro e w1 ⟨rfl,hb1⟩; rw [<- HA.out.1,<- HA.out.2] at hb1; clear h23)
 clear q0 q1 q2 q3 p0 p1 p2 p3
 have hc:=hck _ _ w1 (HF.out w1 hb1).1 (HF.out w1 hb1).2.1
 obtain ⟨q0,q1,q2,q3⟩:=(HF.out w1 hb1).2.2
 go_upto_region 3 with (go_at_call 19; refine hc.mono ?_; rintro e w2 ⟨rfl,hb⟩; clear hc)
 clear q0 q1 q2 q3
 have hb2:=bel_on hb1 hb
 clear hb
 have hc:=hlo _ _ w2 (HF.out w2 hb2).1 (HF.out w2 hb2).2.1
 obtain ⟨q0,q1,q2,q3⟩:=(HF.out w2 hb2).2.2
 go_upto_region 5 with (go_at_call 20; refine hc.mono ?_; rintro e w3 ⟨rfl,hb⟩; clear hc)
 clear q0 q1 q2 q3
 have hb3:=bel_on hb2 hb
 clear hb
 go_wp2_with (go_at_call 21; refine (leastBegun_any _).mono ?_; rintro e w9 ⟨rfl,hb9⟩; have HB9:=hid_of (bel_on hb3 hb9); clear hb9)
 go_ret
 exact ⟨rfl,bel_on HK.out HB9.out⟩
set_option maxHeartbeats 3200000 in
theorem ls_three (f g : FstD) (o : FstD) (c : Int) (fin arcs fin' arcs' : Value) (w : World) (hf : ISlice w fin f.final) (ha : ASlice w arcs f.arcs) (hf' : ISlice w fin' g.final) (ha' : ASlice w arcs' g.arcs) (h0 : c ≠ 0) (hsame : SaN f g fin arcs fin' arcs' c) (hck : Chk f 0) (hlo : LoY f o) (hck2 : Chk g c) :
  Calls Try.prog 5 #[.agg #[.int .i64 f.states,.int .i64 f.start,fin,arcs],.agg #[.int .i64 g.states,.int .i64 g.start,fin',arcs']] w fun e w' => e = .returned (.bool true) /\ Below w.heap.size w w':=by
 obtain ⟨fa,fn,fc,rfl,_,_⟩:=hf.lenOf
 obtain ⟨aa,am,ac,rfl,_,_⟩:=ha.lenOf
 obtain ⟨ga,gn,gc,rfl,_,_⟩:=hf'.lenOf
 obtain ⟨ba,bm,bc,rfl,_,_⟩:=ha'.lenOf
 obtain ⟨A1,hA1⟩ : ∃ W,W = w.alloc (.cells #[.int .i64 f.states,.int .i64 f.start,.slice fa fn fc,.slice aa am ac] 25):=⟨_,rfl⟩
 obtain ⟨A2,hA2⟩ : ∃ W,W = A1.alloc (.cells #[.int .i64 g.states,.int .i64 g.start,.slice ga gn gc,.slice ba bm bc] 25):=⟨_,rfl⟩
 have z1 : A1.heap.size = w.heap.size + 1:=by rw [hA1]; exact one_size _ _
 have k1 : Below w.heap.size w A1:=by rw [hA1]; exact bel_up (bel_self _) _
 have k2 : Below A1.heap.size A1 A2:=by rw [hA2]; exact bel_up (bel_self _) _
 have hk:=bel_on k1 k2
 have hcF : CellsF A2 w.heap.size f.states f.start (.slice fa fn fc) (.slice aa am ac):=(by rw [hA1]; exact cellsF_new _ _ _ _ _ _ : CellsF A1 w.heap.size f.states f.start (.slice fa fn fc) (.slice aa am ac)).below k2
 have hcG : CellsF A2 (w.heap.size + 1) g.states g.start (.slice ga gn gc) (.slice ba bm bc):=by rw [hA2,<- z1]; exact cellsF_new _ _ _ _ _ _
 have HF : Hid (∀ W,Below A2.heap.size A2 W -> ISlice W (.slice fa fn fc) f.final /\ ASlice W (.slice aa am ac) f.arcs /\ CellsF W w.heap.size f.states f.start (.slice fa fn fc) (.slice aa am ac)):=fun W h => ⟨(hf.below hk).below h,(ha.below hk).below h,hcF.below h⟩
 have HG : Hid (∀ W,Below A2.heap.size A2 W -> ISlice W (.slice ga gn gc) g.final /\ ASlice W (.slice ba bm bc) g.arcs /\ CellsF W (w.heap.size + 1) g.states g.start (.slice ga gn gc) (.slice ba bm bc)):=fun W h => ⟨(hf'.below hk).below h,(ha'.below hk).below h,hcG.below h⟩
 have h23:=hsame A2 (hf.below hk) (ha.below hk) (hf'.below hk) (ha'.below hk)
 have HK:=hid_of hk
 have HA:=hid_of (And.intro hA1 hA2)
 rw [hA2,hA1] at h23
 obtain ⟨q0,q1,q2,q3⟩:=hcF
 obtain ⟨p0,p1,p2,p3⟩:=hcG
 rw [hA2,hA1] at q0 q1 q2 q3 p0 p1 p2 p3
 clear hf ha hf' ha' hA1 hA2 k1 k2 z1 hk hsame
 have h0b : (c == 0) = false:=by simpa using h0
 clear h0
 go_enter Try.func5,Try.ntmps5
 go_upto_region 2 with (go_at_call 23; refine h23.mono ?_; rintro e w1 ⟨rfl,hb1⟩; rw [<- HA.out.1,<- HA.out.2] at hb1; clear h23)
 clear q0 q1 q2 q3 p0 p1 p2 p3
 have hc:=hck _ _ w1 (HF.out w1 hb1).1 (HF.out w1 hb1).2.1
 obtain ⟨q0,q1,q2,q3⟩:=(HF.out w1 hb1).2.2
 go_upto_region 3 with (go_at_call 19; refine hc.mono ?_; rintro e w2 ⟨rfl,hb⟩; clear hc)
 clear q0 q1 q2 q3
 have hb2:=bel_on hb1 hb
 clear hb
 have hc:=hlo _ _ w2 (HF.out w2 hb2).1 (HF.out w2 hb2).2.1
 obtain ⟨q0,q1,q2,q3⟩:=(HF.out w2 hb2).2.2
 go_upto_region 5 with (go_at_call 20; refine hc.mono ?_; rintro e w3 ⟨da,dn,dc,ea,en,ec,rfl,_,_,_,_,hb⟩; clear hc)
 clear q0 q1 q2 q3
 have hb3:=bel_on hb2 hb
 clear hb
 have hc:=hck2 _ _ w3 (HG.out w3 hb3).1 (HG.out w3 hb3).2.1
 obtain ⟨p0,p1,p2,p3⟩:=(HG.out w3 hb3).2.2
 go_upto_region 7 with (go_at_call 19; refine hc.mono ?_; rintro e w4 ⟨rfl,hb⟩; clear hc)
 clear p0 p1 p2 p3
 have hb4:=bel_on hb3 hb
 clear hb
 go_wp2_with (go_at_call 21; refine (leastBegun_any _).mono ?_; rintro e w9 ⟨rfl,hb9⟩; have HB9:=hid_of (bel_on hb4 hb9); clear hb9)
 go_ret
 exact ⟨rfl,bel_on HK.out HB9.out⟩
set_option maxHeartbeats 3200000 in
theorem ls_four (f g : FstD) (o : FstD) (c : Int) (fin arcs fin' arcs' : Value) (w : World) (hf : ISlice w fin f.final) (ha : ASlice w arcs f.arcs) (hf' : ISlice w fin' g.final) (ha' : ASlice w arcs' g.arcs) (h0 : c ≠ 0) (hsame : SaN f g fin arcs fin' arcs' c) (hck : Chk f 0) (hlo : LoY f o) (hck2 : Chk g 0) (hlo2 : LoN g c) :
  Calls Try.prog 5 #[.agg #[.int .i64 f.states,.int .i64 f.start,fin,arcs],.agg #[.int .i64 g.states,.int .i64 g.start,fin',arcs']] w fun e w' => e = .returned (.bool true) /\ Below w.heap.size w w':=by
 obtain ⟨fa,fn,fc,rfl,_,_⟩:=hf.lenOf
 obtain ⟨aa,am,ac,rfl,_,_⟩:=ha.lenOf
 obtain ⟨ga,gn,gc,rfl,_,_⟩:=hf'.lenOf
 obtain ⟨ba,bm,bc,rfl,_,_⟩:=ha'.lenOf
 obtain ⟨A1,hA1⟩ : ∃ W,W = w.alloc (.cells #[.int .i64 f.states,.int .i64 f.start,.slice fa fn fc,.slice aa am ac] 25):=⟨_,rfl⟩
 obtain ⟨A2,hA2⟩ : ∃ W,W = A1.alloc (.cells #[.int .i64 g.states,.int .i64 g.start,.slice ga gn gc,.slice ba bm bc] 25):=⟨_,rfl⟩
 have z1 : A1.heap.size = w.heap.size + 1:=by rw [hA1]; exact one_size _ _
 have k1 : Below w.heap.size w A1:=by rw [hA1]; exact bel_up (bel_self _) _
 have k2 : Below A1.heap.size A1 A2:=by rw [hA2]; exact bel_up (bel_self _) _
 have hk:=bel_on k1 k2
 have hcF : CellsF A2 w.heap.size f.states f.start (.slice fa fn fc) (.slice aa am ac):=(by rw [hA1]; exact cellsF_new _ _ _ _ _ _ : CellsF A1 w.heap.size f.states f.start (.slice fa fn fc) (.slice aa am ac)).below k2
 have hcG : CellsF A2 (w.heap.size + 1) g.states g.start (.slice ga gn gc) (.slice ba bm bc):=by rw [hA2,<- z1]; exact cellsF_new _ _ _ _ _ _
 have HF : Hid (∀ W,Below A2.heap.size A2 W -> ISlice W (.slice fa fn fc) f.final /\ ASlice W (.slice aa am ac) f.arcs /\ CellsF W w.heap.size f.states f.start (.slice fa fn fc) (.slice aa am ac)):=fun W h => ⟨(hf.below hk).below h,(ha.below hk).below h,hcF.below h⟩
 have HG : Hid (∀ W,Below A2.heap.size A2 W -> ISlice W (.slice ga gn gc) g.final /\ ASlice W (.slice ba bm bc) g.arcs /\ CellsF W (w.heap.size + 1) g.states g.start (.slice ga gn gc) (.slice ba bm bc)):=fun W h => ⟨(hf'.below hk).below h,(ha'.below hk).below h,hcG.below h⟩
 have h23:=hsame A2 (hf.below hk) (ha.below hk) (hf'.below hk) (ha'.below hk)
 have HK:=hid_of hk
 have HA:=hid_of (And.intro hA1 hA2)
 rw [hA2,hA1] at h23
 obtain ⟨q0,q1,q2,q3⟩:=hcF
 obtain ⟨p0,p1,p2,p3⟩:=hcG
 rw [hA2,hA1] at q0 q1 q2 q3 p0 p1 p2 p3
 clear hf ha hf' ha' hA1 hA2 k1 k2 z1 hk hsame
 have h0b : (c == 0) = false:=by simpa using h0
 clear h0
 go_enter Try.func5,Try.ntmps5
 go_upto_region 2 with (go_at_call 23; refine h23.mono ?_; rintro e w1 ⟨rfl,hb1⟩; rw [<- HA.out.1,<- HA.out.2] at hb1; clear h23)
 clear q0 q1 q2 q3 p0 p1 p2 p3
 have hc:=hck _ _ w1 (HF.out w1 hb1).1 (HF.out w1 hb1).2.1
 obtain ⟨q0,q1,q2,q3⟩:=(HF.out w1 hb1).2.2
 go_upto_region 3 with (go_at_call 19; refine hc.mono ?_; rintro e w2 ⟨rfl,hb⟩; clear hc)
 clear q0 q1 q2 q3
 have hb2:=bel_on hb1 hb
 clear hb
 have hc:=hlo _ _ w2 (HF.out w2 hb2).1 (HF.out w2 hb2).2.1
 obtain ⟨q0,q1,q2,q3⟩:=(HF.out w2 hb2).2.2
 go_upto_region 5 with (go_at_call 20; refine hc.mono ?_; rintro e w3 ⟨da,dn,dc,ea,en,ec,rfl,_,_,_,_,hb⟩; clear hc)
 clear q0 q1 q2 q3
 have hb3:=bel_on hb2 hb
 clear hb
 have hc:=hck2 _ _ w3 (HG.out w3 hb3).1 (HG.out w3 hb3).2.1
 obtain ⟨p0,p1,p2,p3⟩:=(HG.out w3 hb3).2.2
 go_upto_region 7 with (go_at_call 19; refine hc.mono ?_; rintro e w4 ⟨rfl,hb⟩; clear hc)
 clear p0 p1 p2 p3
 have hb4:=bel_on hb3 hb
 clear hb
 have hc:=hlo2 _ _ w4 (HG.out w4 hb4).1 (HG.out w4 hb4).2.1
 obtain ⟨p0,p1,p2,p3⟩:=(HG.out w4 hb4).2.2
 go_upto_region 9 with (go_at_call 20; refine hc.mono ?_; rintro e w5 ⟨rfl,hb⟩; clear hc)
 clear p0 p1 p2 p3
 have hb5:=bel_on hb4 hb
 clear hb
 go_wp2_with (go_at_call 21; refine (leastBegun_any _).mono ?_; rintro e w9 ⟨rfl,hb9⟩; have HB9:=hid_of (bel_on hb5 hb9); clear hb9)
 go_ret
 exact ⟨rfl,bel_on HK.out HB9.out⟩
end Go.Proofs.Yteehgcbjmdideab
