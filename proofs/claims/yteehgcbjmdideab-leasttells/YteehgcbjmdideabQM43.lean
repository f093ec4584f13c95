/- What Least of the program and LeastOf of the document answer,told together. -/
import Derived.Test.YteehgcbjmdideabQM40
import Derived.Test.YteehgcbjmdideabQLoD
import Derived.Test.YteehgcbjmdideabQM15
import Derived.Test.YteehgcbjmdideabQM01
import Derived.ProofKit
import Derived.OpenShut
import Derived.Deep.Slices
import Derived.Lib.SmallJoins
import Derived.ChangeArms
set_option maxRecDepth 100000
namespace Go.Proofs.Yteehgcbjmdideab
open Go.RowKit
section
variable {f t x : FstD} {N s0 K n m n2 m2 : Nat} {cl cl2 : List Int} {C C2 : List Int -> Nat} {κ κ2 : Nat -> List Int}
theorem DoneK.fine (h : DoneK t N K) (hT : Sc.TrimIn f t N s0) (hl : ∀ y,(y ∈ (detX t N K).final \/ ∃ a ∈ (detX t N K).arcs,a.wt = y) -> y <= 1000000000) : Fine (detX t N K):=by
 obtain ⟨ho,h1,h2⟩:=h.out hT
 obtain ⟨_,hK1,hK⟩:=h.sub hT.sin
 refine ⟨by rw [ho.st]; omega,by rw [ho.st]; omega,by rw [ho.sta]; exact Int.le_refl _,by rw [ho.sta,ho.st]; omega,by rw [ho.flen,ho.st],fun y hy => ?_,by omega,fun a ha => ?_,ho.ahead⟩
 ·have:=hl y (Or.inl hy)
  rcases ho.fin y hy with e | e
  ·exact Or.inl e
  ·right; omega
 ·have hb:=ho.arcs a ha
  have hw:=hl a.wt (Or.inr ⟨a,ha,rfl⟩)
  constructor <;> (rw [show inB = fun n a b => decide (a <= n) && decide (n <= b) from rfl]; simp only [Bool.and_eq_true,decide_eq_true_eq]; first | (rw [ho.st]; omega) | omega)
theorem great_iff (h : DoneK t N K) (hT : Sc.TrimIn f t N s0) (hx : XIn (detX t N K) K) (hc : ClsIn (detX t N K) K cl n) (hTab : TabOf (detX t N K) K cl C κ) (hr : RunN κ (C []) m) : Great (numN κ (C []) m).2.1 (numN κ (C []) m).2.2 ↔ checkD (detX t N K) ≠ 0:=by
 have ho:=hr.out
 have key : Great (numN κ (C []) m).2.1 (numN κ (C []) m).2.2 ↔ ∃ y,1000000000 < y /\ (y ∈ (detX t N K).final \/ ∃ a ∈ (detX t N K).arcs,a.wt = y):=by
  have e1 : (numN κ (C []) m).2.1 = (outK κ (numN κ (C []) m).1).final:=by rw [<- ho]
  have e2 : (numN κ (C []) m).2.2 = (outK κ (numN κ (C []) m).1).arcs:=by rw [<- ho]
  unfold Great
  rw [e1,e2]
  constructor
  ·rintro ⟨y,hy,h1⟩
   exact ⟨y,hy,(hr.heavy hTab hx hc (by omega)).1 h1⟩
  ·rintro ⟨y,hy,h1⟩
   exact ⟨y,hy,(hr.heavy hTab hx hc (by omega)).2 h1⟩
 rw [key]
 constructor
 ·rintro ⟨y,hy,h1⟩ hc0
  have hf:=fine_of hc0
  rcases h1 with h1 | ⟨a,ha,rfl⟩
  ·have:=hf.fin y h1; omega
  ·have:=(hf.arcs a ha).wt
   simp [inB] at this
   omega
 ·intro hne
  refine Classical.byContradiction fun hno => hne ?_
  exact (h.fine hT fun y hy => by
   by_cases e : 1000000000 < y
   ·exact absurd ⟨y,e,hy⟩ hno
   ·omega).check
theorem out_once (hx : XIn x K) {o o' : FstD} (h : OutP x K o) (h' : OutP x K o') : o = o':=by
 obtain ⟨cl,n,m,C,κ,h1,h2,h3,rfl⟩:=h
 obtain ⟨cl2,n2,m2,C2,κ2,k1,k2,k3,rfl⟩:=h'
 have hs : EndSame x 0 x 0:=fun u a b ha hb => ha.unique hb
 have d1:=h2.doc hx h1 hx.wide hx.live hs
 have d2:=k2.doc hx k1 hx.wide hx.live hs
 obtain ⟨rfl,e⟩:=least_one d1 d2 hs hx.wide hx.wide hx.live hx.live h3 k3
 rw [e]
theorem out_exists (hx : XIn x K) : ∃ cl n C κ,ClsIn x K cl n /\ TabOf x K cl C κ:=by
 obtain ⟨cl,n,_,hc⟩:=cls_exists (x:=x) hx.k0 fun a ha => by
  have:=hx.gin.arcs a ha
  exact ⟨a.dst.toNat,by omega,by omega⟩
 obtain ⟨C,κ,hT⟩:=tab_exists hx hc
 exact ⟨cl,n,C,κ,hc,hT⟩
theorem run_exists (hx : XIn x K) (hc : ClsIn x K cl n) (hT : TabOf x K cl C κ) : ∃ o,OutP x K o:=by
 have hc0 : C [] < n:=by
  have h1:=hT.c [] 0 0 ⟨rfl,rfl⟩
  have h2:=hc.cls.lt 0 hx.k0
  omega
 have hlp : ∀ v,v < n -> LeapsIn (κ v) n:=fun v hv i hi => by
  obtain ⟨s,hs,e⟩:=hc.cls.on v hv
  have hk:=hT.κ s hs
  rw [e,Int.toNat_natCast] at hk
  rw [hk]
  rcases hx.leap hc (s:=s) hi with ⟨h1,_⟩ | ⟨a,_,t,ht,_,_,_,h4,h5,_⟩
  ·exact Or.inl h1
  ·right
   have:=(hc.cls.lt t ht).2
   rw [h4]
   exact ⟨(gI cl t).toNat,by omega,by omega⟩
 have hnot : ∃ m,m <= n /\ ¬ m < (numN κ (C []) m).1.length /\ ∀ j,j < m -> j < (numN κ (C []) j).1.length:=by
  by_cases hall : ∀ j,j < n -> j < (numN κ (C []) j).1.length
  ·have h1:=metOk_len (numN_ok hc0 hlp n hall).1
   exact ⟨n,Nat.le_refl _,by omega,hall⟩
  ·obtain ⟨k,hk⟩:=Classical.not_forall.1 hall
   obtain ⟨hk1,hk2⟩:=Classical.not_imp.1 hk
   obtain ⟨m,h1,h2,h3⟩:=first_not (fun m => m < (numN κ (C []) m).1.length) k hk2
   exact ⟨m,by omega,h2,h3⟩
 obtain ⟨m,_,h2,h3⟩:=hnot
 refine ⟨_,cl,n,m,C,κ,hc,hT,⟨h3,?_⟩,rfl⟩
 by_cases e : m = 0
 ·subst e
  exact absurd Nat.zero_lt_one h2
 ·have h4:=h3 (m - 1) (by omega)
  obtain ⟨l,hl⟩:=numN_to (κ:=κ) (c0:=C []) (show m - 1 <= m by omega)
  have h5 : (numN κ (C []) m).1.length = (numN κ (C []) (m - 1)).1.length + l.length:=by rw [hl,List.length_append]
  omega
end
def Chk (f : FstD) (c : Int) : Prop:=∀ (fin arcs : Value) (W : World),ISlice W fin f.final -> ASlice W arcs f.arcs -> Calls Try.prog 19 #[.agg #[.int .i64 f.states,.int .i64 f.start,fin,arcs]] W fun e w' => e = .returned (.int .i64 c) /\ Below W.heap.size W w'
def LeN (f : FstD) (c : Int) : Prop:=∀ (fin arcs : Value) (W : World),ISlice W fin f.final -> ASlice W arcs f.arcs -> Calls Try.prog 18 #[.agg #[.int .i64 f.states,.int .i64 f.start,fin,arcs]] W fun e w' => NoFst W c e w'
def LoN (f : FstD) (c : Int) : Prop:=∀ (fin arcs : Value) (W : World),ISlice W fin f.final -> ASlice W arcs f.arcs -> Calls Try.prog 20 #[.agg #[.int .i64 f.states,.int .i64 f.start,fin,arcs]] W fun e w' => NoFst W c e w'
def LeY (f x : FstD) (K : Nat) : Prop:=∀ (fin arcs : Value) (W : World),ISlice W fin f.final -> ASlice W arcs f.arcs -> Calls Try.prog 18 #[.agg #[.int .i64 f.states,.int .i64 f.start,fin,arcs]] W fun e w' => LstRes x K W e w'
def OneRes (o : FstD) (w : World) (e : Ending) (w' : World) : Prop:=∃ (ga : Option Addr) (gn gc : Nat) (ba : Option Addr) (bn bc : Nat),e = .returned (.tuple #[.agg #[.int .i64 o.states,.int .i64 o.start,.slice ga gn gc,.slice ba bn bc],.int .i64 0]) /\ ISlice w' (.slice ga gn gc) o.final /\ ASlice w' (.slice ba bn bc) o.arcs /\ (∀ b,(Value.slice ga gn gc).ownBlock = some b -> w.heap.size <= b) /\ (∀ b,(Value.slice ba bn bc).ownBlock = some b -> w.heap.size <= b) /\ Below w.heap.size w w'
def LoY (f o : FstD) : Prop:=∀ (fin arcs : Value) (W : World),ISlice W fin f.final -> ASlice W arcs f.arcs -> Calls Try.prog 20 #[.agg #[.int .i64 f.states,.int .i64 f.start,fin,arcs]] W fun e w' => OneRes o W e w'
structure LeOk (f t : FstD) (N s0 K : Nat) (o : FstD) : Prop where
 din : DIn f t N s0
 few : f.states <= 12
 nm : ¬ ManyD t s0
 done : DoneK t N K
 chk : checkD (detX t N K) = 0
 cl : Chk f 0
 le : LeY f (detX t N K) K
 lo : LoY f o
 out : OutP (detX t N K) K o
theorem least_what (f : FstD) : (∃ c : Int,c ≠ 0 /\ LeN f c /\ (Chk f c \/ (Chk f 0 /\ LoN f c))) \/ ∃ t N s0 K o,LeOk f t N s0 K o:=by
 by_cases hc : checkD f = 0
 ·by_cases hs : 12 < f.states
  ·refine Or.inl ⟨2,by decide,fun fin arcs W hf ha => least_big f fin arcs W hf ha hc hs,Or.inl fun fin arcs W hf ha => (checkLeast_any f fin arcs W hf ha).mono ?_⟩
   rintro e w' ⟨c,rfl,hb,_,h2,_⟩
   rw [h2 hc hs]
   exact ⟨rfl,hb⟩
  ·by_cases hn : bothB f = false \/ silB f = true \/ RoundD f
   ·refine Or.inl ⟨4,by decide,fun fin arcs W hf ha => least_err f 4 fin arcs W hf ha hc hs (by decide) fun W h1 h2 => ?_,Or.inl fun fin arcs W hf ha => (checkLeast_any f fin arcs W hf ha).mono ?_⟩
    ·by_cases hb : (bothB f && !silB f) = false
     ·exact det_not f fin arcs W h1 h2 hc hb
     ·have hb' : (bothB f && !silB f) = true:=by simpa using hb
      refine det_round f fin arcs W h1 h2 hc hb' ?_
      rw [Bool.and_eq_true] at hb'
      rcases hn with e | e | e
      ·rw [e] at hb'; exact absurd hb'.1 (by decide)
      ·rw [e] at hb'; exact absurd hb'.2 (by decide)
      ·exact e
    ·rintro e w' ⟨c,rfl,hb,_,_,h3,_⟩
     rw [h3 hc (by omega) hn]
     exact ⟨rfl,hb⟩
   ·have hb : bothB f = true:=by
     cases e : bothB f
     ·exact absurd (Or.inl e) hn
     ·rfl
    have hsl : silB f = false:=by
     cases e : silB f
     ·rfl
     ·exact absurd (Or.inr (Or.inl e)) hn
    have hr : ¬ RoundD f:=fun e => hn (Or.inr (Or.inr e))
    obtain ⟨t,N,s0,hd⟩:=din_of hc hb hsl hr
    have hchk : Chk f 0:=fun fin arcs W hf ha => (checkLeast_any f fin arcs W hf ha).mono (by
     rintro e w' ⟨c,rfl,hbw,_,_,_,h4⟩
     rw [h4 hc (by omega) hb hsl hr]
     exact ⟨rfl,hbw⟩)
    have hlive:=trim_live hd.hT
    rcases det_three hd with ⟨hm,hdet⟩ | ⟨hm,K,hk,hcase⟩
    ·exact Or.inl ⟨2,by decide,fun fin arcs W hf ha => least_err f 2 fin arcs W hf ha hc hs (by decide) fun W h1 h2 => hdet fin arcs W h1 h2,Or.inr ⟨hchk,fun fin arcs W hf ha => leastOf_many f t N s0 fin arcs W hd hm hf ha⟩⟩
    ·obtain ⟨hx,hsame⟩:=hk.xin hd.hT
     obtain ⟨cl,n,C,κ,hci,hT⟩:=out_exists hx
     have hD:=hT.doc hx hci hd.hT.sin.wide hlive hsame
     rcases hcase with ⟨hne,hdet⟩ | ⟨h0,m,hdet⟩
     ·refine Or.inl ⟨2,by decide,fun fin arcs W hf ha => least_err f 2 fin arcs W hf ha hc hs (by decide) fun W h1 h2 => hdet fin arcs W h1 h2,Or.inr ⟨hchk,fun fin arcs W hf ha => (leastOf_any f t N s0 C κ fin arcs W hd hm hlive hD hf ha).mono ?_⟩⟩
      rintro e w' ⟨m,hrun,hbw,⟨_,rfl⟩ | ⟨hng,_⟩⟩
      ·exact ⟨rfl,hbw⟩
      ·exact absurd ((great_iff hk hd.hT hx hci hT hrun).2 hne) hng
     ·have hlo : ∀ (fin arcs : Value) (W : World),ISlice W fin f.final -> ASlice W arcs f.arcs -> Calls Try.prog 20 #[.agg #[.int .i64 f.states,.int .i64 f.start,fin,arcs]] W fun e w' => ∃ o,OutP (detX t N K) K o /\ OneRes o W e w':=fun fin arcs W hf ha => (leastOf_any f t N s0 C κ fin arcs W hd hm hlive hD hf ha).mono (by
       rintro e w' ⟨m,hrun,hbw,⟨hg,_⟩ | ⟨_,ga,gn,gc,ba,bn,bc,rfl,hI,hA,h7,h8⟩⟩
       ·exact absurd ((great_iff hk hd.hT hx hci hT hrun).1 hg) (by simp [h0])
       ·exact ⟨_,⟨cl,n,m,C,κ,hci,hT,hrun,rfl⟩,ga,gn,gc,ba,bn,bc,rfl,hI,hA,h7,h8,hbw⟩)
      obtain ⟨o,ho⟩:=run_exists hx hci hT
      refine Or.inr ⟨t,N,s0,K,o,hd,by omega,hm,hk,h0,hchk,fun fin arcs W hf ha => least_ok f _ K m fin arcs W hf ha hc hs hx (fine_of h0) fun W h1 h2 => hdet fin arcs W h1 h2,fun fin arcs W hf ha => (hlo fin arcs W hf ha).mono ?_,ho⟩
      rintro e w' ⟨o',ho',hres⟩
      rw [out_once hx ho ho']
      exact hres
 ·refine Or.inl ⟨checkD f,hc,fun fin arcs W hf ha => least_bad f fin arcs W hf ha hc,Or.inl fun fin arcs W hf ha => (checkLeast_any f fin arcs W hf ha).mono ?_⟩
  rintro e w' ⟨c,rfl,hb,h1,_⟩
  rw [h1 hc]
  exact ⟨rfl,hb⟩
end Go.Proofs.Yteehgcbjmdideab
/- 'fstIs' of the statements,for a seat without package fst's reader. -/
namespace Go.Proofs.Yteehgcbjmdideab
open Go.RowKit
attribute [local go_sem ↓] Go.wp_at_zero Go.wp_at_succ
theorem same_self (f : FstD) (fin arcs fin' arcs' : Value) (w : World) (hf : ISlice w fin f.final) (ha : ASlice w arcs f.arcs) (hf' : ISlice w fin' f.final) (ha' : ASlice w arcs' f.arcs) :
  Calls Try.prog 25 #[.agg #[.int .i64 f.states,.int .i64 f.start,fin,arcs],.agg #[.int .i64 f.states,.int .i64 f.start,fin',arcs']] w fun e w' => e = .returned (.bool true) /\ Below w.heap.size w w':=by
 refine (sameFst_any f f fin arcs fin' arcs' w hf ha hf' ha').mono ?_
 rintro e w' ⟨rfl,hb⟩
 exact ⟨ret_bool (by simp [sameD]),hb⟩
theorem zero_same (w : World) : Calls Try.prog 25 #[.agg #[.int .i64 0,.int .i64 0,.slice none 0 0,.slice none 0 0],.agg #[.int .i64 0,.int .i64 0,.slice none 0 0,.slice none 0 0]] w fun e w' => e = .returned (.bool true) /\ Below w.heap.size w w' :=
 same_self ⟨0,0,[],[]⟩ _ _ _ _ w (Or.inl ⟨none,0,rfl,rfl⟩) (Or.inl ⟨none,0,rfl,rfl⟩) (Or.inl ⟨none,0,rfl,rfl⟩) (Or.inl ⟨none,0,rfl,rfl⟩)
set_option maxHeartbeats 1000000 in
theorem fstIs_ok (t : FstD) (fa : Option Addr) (fn fc : Nat) (ba : Option Addr) (bn bc : Nat) (fa' : Option Addr) (fn' fc' : Nat) (ba' : Option Addr) (bn' bc' : Nat) (w : World) (hf : ISlice w (.slice fa fn fc) t.final) (ha : ASlice w (.slice ba bn bc) t.arcs) (hf' : ISlice w (.slice fa' fn' fc') t.final) (ha' : ASlice w (.slice ba' bn' bc') t.arcs) :
  Calls Try.prog 22 #[.agg #[.int .i64 t.states,.int .i64 t.start,.slice fa fn fc,.slice ba bn bc],.int .i64 0,.int .i64 0,.agg #[.int .i64 t.states,.int .i64 t.start,.slice fa' fn' fc',.slice ba' bn' bc']] w fun e w' => e = .returned (.bool true) /\ Below w.heap.size w w':=by
 have hb:=two_up w (.cells #[.int .i64 t.states,.int .i64 t.start,.slice fa fn fc,.slice ba bn bc] 25) (.cells #[.int .i64 t.states,.int .i64 t.start,.slice fa' fn' fc',.slice ba' bn' bc'] 25)
 have h1:=hf.below hb
 have h2:=ha.below hb
 have h3:=hf'.below hb
 have h4:=ha'.below hb
 go_enter Try.func22,Try.ntmps22
 go_wp2_with (go_at_call 25; refine (same_self t _ _ _ _ _ h1 h2 h3 h4).mono ?_; rintro e w1 ⟨rfl,hb1⟩)
 go_ret
 exact ⟨rfl,bel_on hb hb1⟩
set_option maxHeartbeats 1000000 in
theorem fstIs_no (c : Int) (hc : (c == 0) = false) (w : World) :
  Calls Try.prog 22 #[.agg #[.int .i64 0,.int .i64 0,.slice none 0 0,.slice none 0 0],.int .i64 c,.int .i64 c,.agg #[.int .i64 0,.int .i64 0,.slice none 0 0,.slice none 0 0]] w fun e w' => e = .returned (.bool true) /\ Below w.heap.size w w':=by
 have hb:=two_up w (.cells #[.int .i64 0,.int .i64 0,.slice none 0 0,.slice none 0 0] 25) (.cells #[.int .i64 0,.int .i64 0,.slice none 0 0,.slice none 0 0] 25)
 go_enter Try.func22,Try.ntmps22
 go_wp2_with (go_at_call 25; refine (zero_same _).mono ?_; rintro e w1 ⟨rfl,hb1⟩)
 go_ret
 exact ⟨rfl,bel_on hb hb1⟩
end Go.Proofs.Yteehgcbjmdideab
/- 'LeastTells': the walks. (Made by wip/gen/lkd.py.) -/
namespace Go.Proofs.Yteehgcbjmdideab
open Go.RowKit
attribute [local go_sem ↓] Go.wp_at_zero Go.wp_at_succ
theorem cellsF_blk {W : World} {b : Nat} {u v : Value} {x y : Int} (h : W.heap[b]? = some (.cells #[.int .i64 x,.int .i64 y,u,v] 25 (0,0))) : CellsF W b x y u v:=⟨by rw [Go.Joins.cell_of_block h]; rfl,by rw [Go.Joins.cell_of_block h]; rfl,by rw [Go.Joins.cell_of_block h]; rfl,by rw [Go.Joins.cell_of_block h]; rfl⟩
theorem cellsF_far4 {W : World} {b X : Nat} {u v : Value} {x y : Int} (h : CellsF W b x y u v) (hne : b ≠ X) (u0 u1 u2 u3 : Value) : CellsF ((((W.setCell ⟨X,0,none⟩ u0).setCell ⟨X,1,none⟩ u1).setCell ⟨X,2,none⟩ u2).setCell ⟨X,3,none⟩ u3) b x y u v :=
 ⟨cells_same (far4H hne u0 u1 u2 u3) h.1,cells_same (far4H hne u0 u1 u2 u3) h.2.1,cells_same (far4H hne u0 u1 u2 u3) h.2.2.1,cells_same (far4H hne u0 u1 u2 u3) h.2.2.2⟩
set_option maxHeartbeats 3200000 in
theorem lt_one (f : FstD) (c : Int) (fin arcs : Value) (w : World) (hf : ISlice w fin f.final) (ha : ASlice w arcs f.arcs) (h0 : c ≠ 0) (hle : LeN f c) (hck : Chk f c) :
  Calls Try.prog 4 #[.agg #[.int .i64 f.states,.int .i64 f.start,fin,arcs]] w fun e w' => e = .returned (.bool true) /\ Below w.heap.size w w':=by
 obtain ⟨fa,fn,fc,rfl,_,_⟩:=hf.lenOf
 obtain ⟨aa,am,ac,rfl,_,_⟩:=ha.lenOf
 obtain ⟨A1,hA1⟩ : ∃ W,W = w.alloc (.cells #[.int .i64 f.states,.int .i64 f.start,.slice fa fn fc,.slice aa am ac] 25):=⟨_,rfl⟩
 have k1 : Below w.heap.size w A1:=by rw [hA1]; exact bel_up (bel_self _) _
 have hcF : CellsF A1 w.heap.size f.states f.start (.slice fa fn fc) (.slice aa am ac):=by rw [hA1]; exact cellsF_new _ _ _ _ _ _
 have HIN : Hid (∀ W,Below A1.heap.size A1 W -> ISlice W (.slice fa fn fc) f.final /\ ASlice W (.slice aa am ac) f.arcs /\ CellsF W w.heap.size f.states f.start (.slice fa fn fc) (.slice aa am ac)):=fun W h => ⟨(hf.below k1).below h,(ha.below k1).below h,hcF.below h⟩
 have h18:=hle _ _ A1 (hf.below k1) (ha.below k1)
 have HK:=hid_of k1
 have HCK:=hid_of hck
 have HA:=hid_of hA1
 rw [hA1] at h18
 obtain ⟨q0,q1,q2,q3⟩:=hcF
 rw [hA1] at q0 q1 q2 q3
 clear hf ha hA1 k1 hle hck
 have h0b : (c == 0) = false:=by simpa using h0
 clear h0
 go_enter Try.func4,Try.ntmps4
 go_upto_region 2 with (go_at_call 18; refine h18.mono ?_; rintro e w1 ⟨rfl,hb1⟩; rw [<- HA.out] at hb1; clear h18)
 obtain ⟨B1,hB1⟩ : ∃ W,W = w1.alloc (.cells #[.int .i64 0,.int .i64 0,.slice none 0 0,.slice none 0 0] 25):=⟨_,rfl⟩
 have hbb1 : Below w1.heap.size w1 B1:=by rw [hB1]; exact bel_up (bel_self _) _
 have hcX : CellsF B1 w1.heap.size 0 0 (.slice none 0 0) (.slice none 0 0):=by rw [hB1]; exact cellsF_new _ _ _ _ _ _
 rw [<- hB1]
 have hb2:=bel_on hb1 hbb1
 clear hB1 hbb1 q0 q1 q2 q3
 have h19:=HCK.out _ _ B1 (HIN.out B1 hb2).1 (HIN.out B1 hb2).2.1
 obtain ⟨q0,q1,q2,q3⟩:=(HIN.out B1 hb2).2.2
 go_upto_region 3 with (go_at_call 19; refine h19.mono ?_; rintro e w3 ⟨rfl,hb3⟩; clear h19)
 clear q0 q1 q2 q3
 obtain ⟨B2,hB2⟩ : ∃ W,W = w3.alloc (.cells #[.int .i64 0,.int .i64 0,.slice none 0 0,.slice none 0 0] 25):=⟨_,rfl⟩
 have hbb2 : Below w3.heap.size w3 B2:=by rw [hB2]; exact bel_up (bel_self _) _
 have hZ : B2.heap[w3.heap.size]? = some (.cells #[.int .i64 0,.int .i64 0,.slice none 0 0,.slice none 0 0] 25 (0,0)):=by rw [hB2]; exact heap_alloc_new w3 _
 have HB2:=hid_of hB2
 clear hB2
 have hb4:=bel_on hb2 (bel_on hb3 hbb2)
 have hcX2:=hcX.below (bel_on hb3 hbb2)
 have HX:=hid_of (And.intro hcX2 (And.intro (cellsF_blk hZ) hb4))
 go_upto_region 4 with fail
 rw [<- HB2.out]
 clear HB2 hZ hbb2 hb4 hcX2 hcX hb2 hb1 hb3
 obtain ⟨x0,x1,x2,x3⟩:=HX.out.1
 obtain ⟨z0,z1,z2,z3⟩:=HX.out.2.1
 go_wp2_with (first | (go_at_call 21; refine (leastBegun_any _).mono ?_; rintro e w8 ⟨rfl,hb8⟩; clear x0 x1 x2 x3 z0 z1 z2 z3; obtain ⟨x0,x1,x2,x3⟩:=HX.out.1.below hb8; obtain ⟨z0,z1,z2,z3⟩:=HX.out.2.1.below hb8; have HB8:=hid_of (bel_on HX.out.2.2 hb8); clear hb8) | (go_at_call 22; refine (fstIs_no c h0b _).mono ?_; rintro e w9 ⟨rfl,hb9⟩; have HB9:=hid_of hb9; clear hb9))
 go_ret
 exact ⟨rfl,bel_on HK.out (bel_on HB8.out HB9.out)⟩
set_option maxHeartbeats 3200000 in
theorem lt_two (f : FstD) (c : Int) (fin arcs : Value) (w : World) (hf : ISlice w fin f.final) (ha : ASlice w arcs f.arcs) (h0 : c ≠ 0) (hle : LeN f c) (hck : Chk f 0) (hlo : LoN f c) :
  Calls Try.prog 4 #[.agg #[.int .i64 f.states,.int .i64 f.start,fin,arcs]] w fun e w' => e = .returned (.bool true) /\ Below w.heap.size w w':=by
 obtain ⟨fa,fn,fc,rfl,_,_⟩:=hf.lenOf
 obtain ⟨aa,am,ac,rfl,_,_⟩:=ha.lenOf
 obtain ⟨A1,hA1⟩ : ∃ W,W = w.alloc (.cells #[.int .i64 f.states,.int .i64 f.start,.slice fa fn fc,.slice aa am ac] 25):=⟨_,rfl⟩
 have k1 : Below w.heap.size w A1:=by rw [hA1]; exact bel_up (bel_self _) _
 have hcF : CellsF A1 w.heap.size f.states f.start (.slice fa fn fc) (.slice aa am ac):=by rw [hA1]; exact cellsF_new _ _ _ _ _ _
 have HIN : Hid (∀ W,Below A1.heap.size A1 W -> ISlice W (.slice fa fn fc) f.final /\ ASlice W (.slice aa am ac) f.arcs /\ CellsF W w.heap.size f.states f.start (.slice fa fn fc) (.slice aa am ac)):=fun W h => ⟨(hf.below k1).below h,(ha.below k1).below h,hcF.below h⟩
 have h18:=hle _ _ A1 (hf.below k1) (ha.below k1)
 have HK:=hid_of k1
 have HCK:=hid_of hck
 have HA:=hid_of hA1
 rw [hA1] at h18
 obtain ⟨q0,q1,q2,q3⟩:=hcF
 rw [hA1] at q0 q1 q2 q3
 clear hf ha hA1 k1 hle hck
 have h0b : (c == 0) = false:=by simpa using h0
 have HLO:=hid_of hlo
 clear h0 hlo
 go_enter Try.func4,Try.ntmps4
 go_upto_region 2 with (go_at_call 18; refine h18.mono ?_; rintro e w1 ⟨rfl,hb1⟩; rw [<- HA.out] at hb1; clear h18)
 obtain ⟨B1,hB1⟩ : ∃ W,W = w1.alloc (.cells #[.int .i64 0,.int .i64 0,.slice none 0 0,.slice none 0 0] 25):=⟨_,rfl⟩
 have hbb1 : Below w1.heap.size w1 B1:=by rw [hB1]; exact bel_up (bel_self _) _
 have hcX : CellsF B1 w1.heap.size 0 0 (.slice none 0 0) (.slice none 0 0):=by rw [hB1]; exact cellsF_new _ _ _ _ _ _
 rw [<- hB1]
 have hb2:=bel_on hb1 hbb1
 clear hB1 hbb1 q0 q1 q2 q3
 have h19:=HCK.out _ _ B1 (HIN.out B1 hb2).1 (HIN.out B1 hb2).2.1
 obtain ⟨q0,q1,q2,q3⟩:=(HIN.out B1 hb2).2.2
 go_upto_region 3 with (go_at_call 19; refine h19.mono ?_; rintro e w3 ⟨rfl,hb3⟩; clear h19)
 clear q0 q1 q2 q3
 obtain ⟨B2,hB2⟩ : ∃ W,W = w3.alloc (.cells #[.int .i64 0,.int .i64 0,.slice none 0 0,.slice none 0 0] 25):=⟨_,rfl⟩
 have hbb2 : Below w3.heap.size w3 B2:=by rw [hB2]; exact bel_up (bel_self _) _
 have hZ : B2.heap[w3.heap.size]? = some (.cells #[.int .i64 0,.int .i64 0,.slice none 0 0,.slice none 0 0] 25 (0,0)):=by rw [hB2]; exact heap_alloc_new w3 _
 have HB2:=hid_of hB2
 clear hB2
 have hb4:=bel_on hb2 (bel_on hb3 hbb2)
 have hcX2:=hcX.below (bel_on hb3 hbb2)
 go_upto_region 4 with fail
 rw [<- HB2.out]
 clear HB2
 have h20:=HLO.out _ _ B2 (HIN.out B2 hb4).1 (HIN.out B2 hb4).2.1
 obtain ⟨q0,q1,q2,q3⟩:=(HIN.out B2 hb4).2.2
 have HZ:=hid_of (And.intro hZ hcX2)
 clear hZ hcX2 hbb2
 go_upto_region 6 with (go_at_call 20; refine h20.mono ?_; rintro e w5 ⟨rfl,hb5⟩; clear h20; have hZ5:=heap_bel hb5 HZ.out.1; have f0:=Go.Joins.unfrozen_of_block hZ5 0; have f1:=Go.Joins.unfrozen_of_block hZ5 1; have f2:=Go.Joins.unfrozen_of_block hZ5 2; have f3:=Go.Joins.unfrozen_of_block hZ5 3; obtain ⟨y0,y1,y2,y3⟩:=cellsF_blk hZ5)
 obtain ⟨B3,hB3⟩ : ∃ W,W = (((w5.setCell ⟨w3.heap.size,0,none⟩ (.int .i64 0)).setCell ⟨w3.heap.size,1,none⟩ (.int .i64 0)).setCell ⟨w3.heap.size,2,none⟩ (.slice none 0 0)).setCell ⟨w3.heap.size,3,none⟩ (.slice none 0 0):=⟨_,rfl⟩
 have hlt3 : w1.heap.size < w3.heap.size:=by have:=cell_lt hcX.1; have:=hb3.size; omega
 have hX3 : CellsF B3 w1.heap.size 0 0 (.slice none 0 0) (.slice none 0 0):=by rw [hB3]; exact cellsF_far4 (HZ.out.2.below hb5) (by omega) _ _ _ _
 have hZ3 : CellsF B3 w3.heap.size 0 0 (.slice none 0 0) (.slice none 0 0):=by rw [hB3]; exact set4_cells y0 y1 y2 y3 _ _ _ _
 have hB13 : Below A1.heap.size A1 B3:=by rw [hB3]; exact bel_set4 (bel_on hb4 hb5) (by have:=hb1.size; have:=hb2.size; have:=hb3.size; omega) _ _ _ _
 have HX:=hid_of (And.intro hX3 (And.intro hZ3 hB13))
 rw [<- hB3]
 clear hB3 hX3 hZ3 hB13 y0 y1 y2 y3 f0 f1 f2 f3 q0 q1 q2 q3 hZ5 hcX hb1 hb2 hb3 hb4 hb5 hlt3
 obtain ⟨x0,x1,x2,x3⟩:=HX.out.1
 obtain ⟨z0,z1,z2,z3⟩:=HX.out.2.1
 go_wp2_with (first | (go_at_call 21; refine (leastBegun_any _).mono ?_; rintro e w8 ⟨rfl,hb8⟩; clear x0 x1 x2 x3 z0 z1 z2 z3; obtain ⟨x0,x1,x2,x3⟩:=HX.out.1.below hb8; obtain ⟨z0,z1,z2,z3⟩:=HX.out.2.1.below hb8; have HB8:=hid_of (bel_on HX.out.2.2 hb8); clear hb8) | (go_at_call 22; refine (fstIs_no c h0b _).mono ?_; rintro e w9 ⟨rfl,hb9⟩; have HB9:=hid_of hb9; clear hb9))
 go_ret
 exact ⟨rfl,bel_on HK.out (bel_on HB8.out HB9.out)⟩
set_option maxHeartbeats 3200000 in
theorem lt_yes (f : FstD) (t : FstD) (N s0 K : Nat) (o : FstD) (fin arcs : Value) (w : World) (hf : ISlice w fin f.final) (ha : ASlice w arcs f.arcs) (hok : LeOk f t N s0 K o) (hle : LeY f (detX t N K) K) (hck : Chk f 0) :
  Calls Try.prog 4 #[.agg #[.int .i64 f.states,.int .i64 f.start,fin,arcs]] w fun e w' => e = .returned (.bool true) /\ Below w.heap.size w w':=by
 obtain ⟨fa,fn,fc,rfl,_,_⟩:=hf.lenOf
 obtain ⟨aa,am,ac,rfl,_,_⟩:=ha.lenOf
 obtain ⟨A1,hA1⟩ : ∃ W,W = w.alloc (.cells #[.int .i64 f.states,.int .i64 f.start,.slice fa fn fc,.slice aa am ac] 25):=⟨_,rfl⟩
 have k1 : Below w.heap.size w A1:=by rw [hA1]; exact bel_up (bel_self _) _
 have hcF : CellsF A1 w.heap.size f.states f.start (.slice fa fn fc) (.slice aa am ac):=by rw [hA1]; exact cellsF_new _ _ _ _ _ _
 have HIN : Hid (∀ W,Below A1.heap.size A1 W -> ISlice W (.slice fa fn fc) f.final /\ ASlice W (.slice aa am ac) f.arcs /\ CellsF W w.heap.size f.states f.start (.slice fa fn fc) (.slice aa am ac)):=fun W h => ⟨(hf.below k1).below h,(ha.below k1).below h,hcF.below h⟩
 have h18:=hle _ _ A1 (hf.below k1) (ha.below k1)
 have HK:=hid_of k1
 have HCK:=hid_of hck
 have HA:=hid_of hA1
 rw [hA1] at h18
 obtain ⟨q0,q1,q2,q3⟩:=hcF
 rw [hA1] at q0 q1 q2 q3
 clear hf ha hA1 k1 hle hck
 have HOK:=hid_of hok
 clear hok
 go_enter Try.func4,Try.ntmps4
 go_upto_region 2 with (go_at_call 18; refine h18.mono ?_; rintro e w1 ⟨k,ga,gn,gc,ba,bn,bc,rfl,hP,hb1⟩; rw [<- HA.out] at hb1; clear h18)
 obtain ⟨o',ho',rfl,hos,hoI,hoA⟩:=hP.out
 obtain rfl:=out_once (HOK.out.done.xin HOK.out.din.hT).1 HOK.out.out ho'
 obtain ⟨B1,hB1⟩ : ∃ W,W = w1.alloc (.cells #[.int .i64 o.states,.int .i64 0,.slice ga gn gc,.slice ba bn bc] 25):=⟨_,rfl⟩
 have hbb1 : Below w1.heap.size w1 B1:=by rw [hB1]; exact bel_up (bel_self _) _
 have hcX : CellsF B1 w1.heap.size o.states 0 (.slice ga gn gc) (.slice ba bn bc):=by rw [hB1]; exact cellsF_new _ _ _ _ _ _
 have HO:=hid_of (And.intro hos (And.intro (hoI.below hbb1) (hoA.below hbb1)))
 rw [<- hB1]
 have hb2:=bel_on hb1 hbb1
 clear hB1 hbb1 q0 q1 q2 q3 hP ho' hos hoI hoA
 have h19:=HCK.out _ _ B1 (HIN.out B1 hb2).1 (HIN.out B1 hb2).2.1
 obtain ⟨q0,q1,q2,q3⟩:=(HIN.out B1 hb2).2.2
 go_upto_region 3 with (go_at_call 19; refine h19.mono ?_; rintro e w3 ⟨rfl,hb3⟩; clear h19)
 clear q0 q1 q2 q3
 obtain ⟨B2,hB2⟩ : ∃ W,W = w3.alloc (.cells #[.int .i64 0,.int .i64 0,.slice none 0 0,.slice none 0 0] 25):=⟨_,rfl⟩
 have hbb2 : Below w3.heap.size w3 B2:=by rw [hB2]; exact bel_up (bel_self _) _
 have hZ : B2.heap[w3.heap.size]? = some (.cells #[.int .i64 0,.int .i64 0,.slice none 0 0,.slice none 0 0] 25 (0,0)):=by rw [hB2]; exact heap_alloc_new w3 _
 have HB2:=hid_of hB2
 clear hB2
 have hb13:=bel_on hb3 hbb2
 have hb4:=bel_on hb2 hb13
 have hcX2:=hcX.below hb13
 go_upto_region 4 with fail
 rw [<- HB2.out]
 clear HB2
 have h20:=HOK.out.lo _ _ B2 (HIN.out B2 hb4).1 (HIN.out B2 hb4).2.1
 obtain ⟨q0,q1,q2,q3⟩:=(HIN.out B2 hb4).2.2
 have HZ:=hid_of (And.intro hZ (And.intro hcX2 hb13))
 clear hZ hcX2 hbb2 hb13
 go_upto_region 6 with (go_at_call 20; refine h20.mono ?_; rintro e w5 ⟨da,dn,dc,ea,en,ec,rfl,hdI,hdA,hd7,hd8,hb5⟩; clear h20; have hZ5:=heap_bel hb5 HZ.out.1; have f0:=Go.Joins.unfrozen_of_block hZ5 0; have f1:=Go.Joins.unfrozen_of_block hZ5 1; have f2:=Go.Joins.unfrozen_of_block hZ5 2; have f3:=Go.Joins.unfrozen_of_block hZ5 3; obtain ⟨y0,y1,y2,y3⟩:=cellsF_blk hZ5)
 obtain ⟨B3,hB3⟩ : ∃ W,W = (((w5.setCell ⟨w3.heap.size,0,none⟩ (.int .i64 o.states)).setCell ⟨w3.heap.size,1,none⟩ (.int .i64 o.start)).setCell ⟨w3.heap.size,2,none⟩ (.slice da dn dc)).setCell ⟨w3.heap.size,3,none⟩ (.slice ea en ec):=⟨_,rfl⟩
 have hlt3 : w1.heap.size < w3.heap.size:=by have:=cell_lt hcX.1; have:=hb3.size; omega
 have hlt4:=heap_lt HZ.out.1
 have hX3 : CellsF B3 w1.heap.size o.states 0 (.slice ga gn gc) (.slice ba bn bc):=by rw [hB3]; exact cellsF_far4 (HZ.out.2.1.below hb5) (by omega) _ _ _ _
 have hZ3 : CellsF B3 w3.heap.size o.states o.start (.slice da dn dc) (.slice ea en ec):=by rw [hB3]; exact set4_cells y0 y1 y2 y3 _ _ _ _
 have hB13 : Below A1.heap.size A1 B3:=by rw [hB3]; exact bel_set4 (bel_on hb4 hb5) (by have:=hb1.size; have:=hb2.size; have:=hb3.size; omega) _ _ _ _
 have hBB : Below B1.heap.size B1 B3:=by rw [hB3]; exact bel_set4 (bel_on HZ.out.2.2 hb5) (by have:=hb3.size; omega) _ _ _ _
 have hdI3 : ISlice B3 (.slice da dn dc) o.final:=by rw [hB3]; exact fresh_ints hdI hd7 fun b hb _ => far4H (by omega) _ _ _ _
 have hdA3 : ASlice B3 (.slice ea en ec) o.arcs:=by rw [hB3]; exact fresh_arcs hdA hd8 fun b hb _ => far4H (by omega) _ _ _ _
 have hst : o.start = 0:=HO.out.1
 have HX:=hid_of (And.intro hX3 (And.intro hZ3 (And.intro hB13 (And.intro (HO.out.2.1.below hBB) (And.intro (HO.out.2.2.below hBB) (And.intro hdI3 hdA3))))))
 rw [<- hB3]
 have HST:=hid_of hst
 clear hB3 hX3 hZ3 hB13 hBB hdI3 hdA3 hdI hdA hd7 hd8 y0 y1 y2 y3 f0 f1 f2 f3 q0 q1 q2 q3 hZ5 hcX hb1 hb2 hb3 hb4 hb5 hlt3 hlt4 hst
 obtain ⟨x0,x1,x2,x3⟩:=HX.out.1
 obtain ⟨z0,z1,z2,z3⟩:=HX.out.2.1
 go_wp2_with (first | (go_at_call 21; refine (leastBegun_any _).mono ?_; rintro e w8 ⟨rfl,hb8⟩; clear x0 x1 x2 x3 z0 z1 z2 z3; obtain ⟨x0,x1,x2,x3⟩:=HX.out.1.below hb8; obtain ⟨z0,z1,z2,z3⟩:=HX.out.2.1.below hb8; have HB8:=hid_of (bel_on HX.out.2.2.1 hb8); have h22:=fstIs_ok o _ _ _ _ _ _ _ _ _ _ _ _ w8 (HX.out.2.2.2.1.below hb8) (HX.out.2.2.2.2.1.below hb8) (HX.out.2.2.2.2.2.1.below hb8) (HX.out.2.2.2.2.2.2.below hb8); rw [HST.out] at h22; rw [HST.out] at z1; clear hb8) | (go_at_call 22; refine h22.mono ?_; rintro e w9 ⟨rfl,hb9⟩; clear h22; have HB9:=hid_of hb9; clear hb9))
 go_ret
 exact ⟨rfl,bel_on HK.out (bel_on HB8.out HB9.out)⟩
theorem leastTells_any (f : FstD) (fin arcs : Value) (w : World) (hf : ISlice w fin f.final) (ha : ASlice w arcs f.arcs) :
  Calls Try.prog 4 #[.agg #[.int .i64 f.states,.int .i64 f.start,fin,arcs]] w fun e w' => e = .returned (.bool true) /\ Below w.heap.size w w':=by
 rcases least_what f with ⟨c,h0,h1,h2 | ⟨h2,h3⟩⟩ | ⟨t,N,s0,K,o,h⟩
 ·exact lt_one f c fin arcs w hf ha h0 h1 h2
 ·exact lt_two f c fin arcs w hf ha h0 h1 h2 h3
 ·exact lt_yes f t N s0 K o fin arcs w hf ha h h.le h.cl
end Go.Proofs.Yteehgcbjmdideab
/- A transducer that came in,taken apart: what its value and its lists are. -/
namespace Go.Proofs.Yteehgcbjmdideab
open Go.ChangeShapes Go.WideShapes Go.ChangeAt Go.RowKit
set_option maxRecDepth 100000
theorem cellsI : Try.prog.cellsOf 3 = 1:=by kernel_rfl
theorem cellsArc : Try.prog.cellsOf 54 = 5:=by kernel_rfl
theorem cellsFst : Try.prog.cellsOf 25 = 4:=by kernel_rfl
theorem addr_add_plain (b off i : Nat) : (⟨b,off,none⟩ : Addr).add i = ⟨b,off + i,none⟩:=by
 by_cases h : i = 0
 ·subst h; rfl
 ·simp [Addr.add,h]
theorem open_ilist {H : Type} {enc : TypeId × Value -> H} {W : World} {n : Nat} {v : Value} {y : DataW H × List MemPlace} (h : DataW.trod enc Try.prog W 0 (fun _ => true) true n 22 [v] = some y) : ∃ xs,ISlice W v xs:=by
 rcases open_ints Try.underlying22 Try.underlying3 cellsI h with ⟨h1,_⟩ | ⟨a,len,cap,zs,h1,_,hl,hm,hz,_,hcell,_⟩
 ·exact ⟨[],Or.inl ⟨none,0,by simpa using h1,rfl⟩⟩
 ·have hv : v = .slice (some a) len cap:=by simpa using h1
  simp only [if_true] at hz
  by_cases h0 : len = 0
  ·exact ⟨[],Or.inl ⟨some a,cap,by rw [hv,h0],rfl⟩⟩
  ·obtain ⟨b,off,spot⟩:=a
   have hspot : spot = none:=by simpa [Addr.add] using World.cell?_spot (hcell 0 (by omega))
   subst hspot
   refine ⟨zs.take len,Or.inr ⟨b,off,len,cap,hv,⟨by simp; omega,fun i hi => ?_⟩,by omega⟩⟩
   have:=hcell i (by omega)
   rw [addr_add_plain] at this
   rw [this]
   simp [List.getD,hi]
theorem five_cells {H : Type} {enc : TypeId × Value -> H} {W : World} {n : Nat} {cs : List Value} {y : DataW H × List MemPlace} (h : DataW.trod enc Try.prog W 0 (fun _ => true) true n 54 cs = some y) :
  ∃ a : ArcD,cs = [.int .i64 a.src,.int .i64 a.inp,.int .i64 a.out,.int .i64 a.dst,.int .i64 a.wt]:=by
 obtain ⟨xs,k,_,_,hlen,hxl,hf⟩:=DataW.trod_struct Try.underlying54 h
 rw [cellsArc] at hlen
 match cs,hlen with
 | [c0,c1,c2,c3,c4],_ =>
  have g0 : DataW.trod enc Try.prog W 0 (fun _ => true) true k 3 ((([c0,c1,c2,c3,c4] : List Value).drop 0).take (Try.prog.cellsOf 3)) = xs[0]?:=hf 0 _ rfl
  have g1 : DataW.trod enc Try.prog W 0 (fun _ => true) true k 3 ((([c0,c1,c2,c3,c4] : List Value).drop 1).take (Try.prog.cellsOf 3)) = xs[1]?:=hf 1 _ rfl
  have g2 : DataW.trod enc Try.prog W 0 (fun _ => true) true k 3 ((([c0,c1,c2,c3,c4] : List Value).drop 2).take (Try.prog.cellsOf 3)) = xs[2]?:=hf 2 _ rfl
  have g3 : DataW.trod enc Try.prog W 0 (fun _ => true) true k 3 ((([c0,c1,c2,c3,c4] : List Value).drop 3).take (Try.prog.cellsOf 3)) = xs[3]?:=hf 3 _ rfl
  have g4 : DataW.trod enc Try.prog W 0 (fun _ => true) true k 3 ((([c0,c1,c2,c3,c4] : List Value).drop 4).take (Try.prog.cellsOf 3)) = xs[4]?:=hf 4 _ rfl
  have hx : xs.length = 5:=hxl
  rw [cellsI,List.getElem?_eq_getElem (by omega)] at g0 g1 g2 g3 g4
  obtain ⟨z0,e0,_⟩:=DataW.trod_int Try.underlying3 g0
  obtain ⟨z1,e1,_⟩:=DataW.trod_int Try.underlying3 g1
  obtain ⟨z2,e2,_⟩:=DataW.trod_int Try.underlying3 g2
  obtain ⟨z3,e3,_⟩:=DataW.trod_int Try.underlying3 g3
  obtain ⟨z4,e4,_⟩:=DataW.trod_int Try.underlying3 g4
  have d0 : c0 = .int .i64 z0:=by simpa using e0
  have d1 : c1 = .int .i64 z1:=by simpa using e1
  have d2 : c2 = .int .i64 z2:=by simpa using e2
  have d3 : c3 = .int .i64 z3:=by simpa using e3
  have d4 : c4 = .int .i64 z4:=by simpa using e4
  exact ⟨⟨z0,z1,z2,z3,z4⟩,by rw [d0,d1,d2,d3,d4]⟩
theorem open_alist {H : Type} {enc : TypeId × Value -> H} {W : World} {n : Nat} {v : Value} {y : DataW H × List MemPlace} (h : DataW.trod enc Try.prog W 0 (fun _ => true) true n 23 [v] = some y) : ∃ ars,ASlice W v ars:=by
 rcases Go.Deep.open_slice Try.underlying23 h with ⟨h1,_⟩ | ⟨a,len,cap,m,k,D,Pl,h1,_,hl,hm,hmm,_,hx⟩
 ·exact ⟨[],Or.inl ⟨none,0,by simpa using h1,rfl⟩⟩
 ·have hv : v = .slice (some a) len cap:=by simpa using h1
  simp only [if_true] at hmm
  by_cases h0 : len = 0
  ·exact ⟨[],Or.inl ⟨some a,cap,by rw [hv,h0],rfl⟩⟩
  ·rw [cellsArc] at hx
   have each : ∀ i,i < len -> ∃ q : ArcD,∀ j u,[Value.int .i64 q.src,.int .i64 q.inp,.int .i64 q.out,.int .i64 q.dst,.int .i64 q.wt][j]? = some u -> j < 5 -> W.cell? ((a.add (i * 5)).add j) = some u:=fun i hi => by
    obtain ⟨cs,h2,h3⟩:=hx i (by omega)
    obtain ⟨q,hq⟩:=five_cells h3
    obtain ⟨_,_,hc⟩:=World.cells?_some h2
    exact ⟨q,fun j u hu hj => by rw [hc j hj,hq]; exact hu⟩
   have inh : Inhabited ArcD:=⟨a0⟩
   obtain ⟨q,hq⟩:=Go.Deep.choose_lt each
   obtain ⟨b,off,spot⟩:=a
   have hspot : spot = none:=by
    have:=World.cell?_spot (hq 0 (by omega) 0 _ rfl (by omega))
    simpa [Addr.add] using this
   subst hspot
   have hg : ∀ i,i < len -> ((List.range len).map q).getD i a0 = q i:=fun i hi => by simp [List.getD,hi]
   have key : ∀ i,i < len -> ∀ j u,[Value.int .i64 (q i).src,.int .i64 (q i).inp,.int .i64 (q i).out,.int .i64 (q i).dst,.int .i64 (q i).wt][j]? = some u -> j < 5 -> W.cell? ⟨b,off + i * 5 + j,none⟩ = some u:=fun i hi j u hu hj => by
    have:=hq i hi j u hu hj
    rw [addr_add_plain,addr_add_plain] at this
    exact this
   refine ⟨(List.range len).map q,Or.inr ⟨b,off,len,cap,hv,⟨by simp,fun i hi => ?_,fun i hi => ?_,fun i hi => ?_,fun i hi => ?_,fun i hi => ?_⟩,by omega⟩⟩
   ·rw [hg i hi]; exact key i hi 0 _ rfl (by omega)
   ·rw [hg i hi]; exact key i hi 1 _ rfl (by omega)
   ·rw [hg i hi]; exact key i hi 2 _ rfl (by omega)
   ·rw [hg i hi]; exact key i hi 3 _ rfl (by omega)
   ·rw [hg i hi]; exact key i hi 4 _ rfl (by omega)
theorem open_fst {H : Type} {enc : TypeId × Value -> H} {W : World} {base : Nat} {v : Value} {d : DataW H} {p : List MemPlace} (hok : Value.okWide Try.prog W .any base 25 v) (h : DataW.Trod enc Try.prog W 0 (fun _ => true) true 25 v d p) :
  ∃ (f : FstD) (fin arcs : Value),v = .agg #[.int .i64 f.states,.int .i64 f.start,fin,arcs] /\ ISlice W fin f.final /\ ASlice W arcs f.arcs:=by
 obtain ⟨v0,v1,v2,v3,y0,y1,y2,y3,n,rfl,_,_,h0,h1,h2,h3⟩:=Go.Joins.open_agg4 Try.underlying25 (by kernel_rfl) cellsFst hok h
 obtain ⟨z0,e0,_⟩:=DataW.trod_int Try.underlying3 h0
 obtain ⟨z1,e1,_⟩:=DataW.trod_int Try.underlying3 h1
 obtain ⟨xs,hi⟩:=open_ilist h2
 obtain ⟨ars,ha⟩:=open_alist h3
 have d0 : v0 = .int .i64 z0:=by simpa using e0
 have d1 : v1 = .int .i64 z1:=by simpa using e1
 exact ⟨⟨z0,z1,xs,ars⟩,v2,v3,by rw [d0,d1],hi,ha⟩
end Go.Proofs.Yteehgcbjmdideab
