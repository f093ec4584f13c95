/- 'Acceptor','readsAlone' and 'Is' of the program. -/
import Derived.Test.YteehgcbjmdideabVM06
import Derived.Test.YteehgcbjmdideabVM05
import Derived.Test.YteehgcbjmdideabVM01
import Derived.Test.YteehgcbjmdideabVM00
set_option maxRecDepth 100000
namespace Go.Proofs.Yteehgcbjmdideab
open Go.RowKit
attribute [local go_sem ↓] Go.wp_at_zero Go.wp_at_succ
theorem gAcc1 : ∀ args w,(callFunc 106 args).run Try.prog w = .ok (.enter 106 args) w:=enters_of Try.func106 (by kernel_rfl) rfl
theorem gRead1 : ∀ args w,(callFunc 57 args).run Try.prog w = .ok (.enter 57 args) w:=enters_of Try.func57 (by kernel_rfl) rfl
theorem acc1_any (a : ArcD) (w : World) :
  Calls Try.prog 106 #[.agg #[.int .i64 a.src,.int .i64 a.inp,.int .i64 a.out,.int .i64 a.dst,.int .i64 a.wt]] w fun e w' => e = .returned (.bool (a.inp != a.out)) /\ Below w.heap.size w w':=by
 go_enter Try.func106,Try.ntmps106
 go_wp2
 go_ret
 exact ⟨rfl,bel_up (bel_self _) _⟩
theorem read1_any (a : ArcD) (w : World) :
  Calls Try.prog 57 #[.agg #[.int .i64 a.src,.int .i64 a.inp,.int .i64 a.out,.int .i64 a.dst,.int .i64 a.wt]] w fun e w' => e = .returned (.bool (a.inp == 0)) /\ Below w.heap.size w w':=by
 go_enter Try.func57,Try.ntmps57
 go_wp2
 go_ret
 exact ⟨rfl,bel_up (bel_self _) _⟩
def bothB (f : FstD) : Bool:=!(f.arcs.any fun a => a.inp != a.out)
def silB (f : FstD) : Bool:=f.arcs.any fun a => a.inp == 0
theorem accepts_any (f : FstD) (fa : Option Addr) (fn fc : Nat) (aa : Option Addr) (m ac : Nat) (w : World) (ha : ASlice w (.slice aa m ac) f.arcs) (hal : f.arcs.length = m) (hm : m <= 3000) :
  Calls Try.prog 84 #[.agg #[.int .i64 f.states,.int .i64 f.start,.slice fa fn fc,.slice aa m ac]] w fun e w' => e = .returned (.bool (bothB f)) /\ Below w.heap.size w w':=by
 have hc:=arcContains_any (fun a => a.inp != a.out) 106 gAcc1 acc1_any f.arcs aa m ac (w.alloc (.cells #[.int .i64 f.states,.int .i64 f.start,.slice fa fn fc,.slice aa m ac] 25)) (ha.below (bel_up (bel_self w) _)) hal hm
 have hb0:=bel_up (bel_self w) (.cells #[.int .i64 f.states,.int .i64 f.start,.slice fa fn fc,.slice aa m ac] 25)
 unfold bothB
 obtain ⟨z,hz⟩ : ∃ z,z = f.arcs.any fun a => a.inp != a.out:=⟨_,rfl⟩
 rw [<- hz] at hc ⊢
 clear hz
 go_enter Try.func84,Try.ntmps84
 go_wp2_with (go_at_call 56; refine hc.mono ?_; rintro e w1 ⟨rfl,hb1⟩)
 go_ret
 exact ⟨rfl,bel_on hb0 hb1⟩
set_option maxHeartbeats 1000000 in
theorem acceptor_any (f : FstD) (fin arcs : Value) (w : World) (hf : ISlice w fin f.final) (ha : ASlice w arcs f.arcs) :
  Calls Try.prog 55 #[.agg #[.int .i64 f.states,.int .i64 f.start,fin,arcs]] w fun e w' => e = .returned (.tuple #[.bool (decide (checkD f = 0) && bothB f),.int .i64 (checkD f)]) /\ Below w.heap.size w w':=by
 obtain ⟨fa,fn,fc,rfl,_,_⟩:=hf.lenOf
 obtain ⟨aa,m,ac,rfl,hal,_⟩:=ha.lenOf
 have hall:=all_at f _ _ _ w hf ha rfl
 by_cases h0 : checkD f = 0
 ·have hm:=(fine_of h0).many
  rw [h0] at hall ⊢
  have hd : (decide ((0 : Int) = 0) && bothB f) = bothB f:=by simp
  rw [hd]
  clear hd
  have HB : Hid (∀ W,ASlice W (.slice aa m ac) f.arcs -> Calls Try.prog 84 #[.agg #[.int .i64 f.states,.int .i64 f.start,.slice fa fn fc,.slice aa m ac]] W fun e w' => e = .returned (.bool (bothB f)) /\ Below W.heap.size W w'):=fun W h => accepts_any f fa fn fc aa m ac W h hal (by omega)
  obtain ⟨z,hz⟩ : ∃ z,z = bothB f:=⟨_,rfl⟩
  rw [<- hz] at HB ⊢
  clear hz h0 hm
  go_enter Try.func55,Try.ntmps55
  go_wp2_with (first | (go_at_call 45; refine hall.mono ?_; rintro e w1 ⟨rfl,hb1,hC1,hf1,ha1⟩; obtain ⟨q0,q1,q2,q3⟩:=hC1) | (go_at_call 84; refine (HB.out w1 ha1).mono ?_; rintro e w2 ⟨rfl,hb2⟩))
  exact bodyPost_ret (by simp [results,Try.results55,go_sem, *]) rfl ⟨rfl,bel_on hb1 hb2⟩
 ·have hd : (decide (checkD f = 0) && bothB f) = false:=by simp [h0]
  rw [hd]
  obtain ⟨c,hc⟩ : ∃ c,c = checkD f:=⟨_,rfl⟩
  rw [<- hc] at hall h0 ⊢
  have h0n : (c != 0) = true:=by simpa using h0
  clear hc hd
  go_enter Try.func55,Try.ntmps55
  go_wp2_with (go_at_call 45; refine hall.mono ?_; rintro e w1 ⟨rfl,hb1,_,_,_⟩)
  exact bodyPost_ret (by simp [results,Try.results55,go_sem, *]) rfl ⟨rfl,hb1⟩
set_option maxHeartbeats 1000000 in
theorem reads_any (f : FstD) (fin arcs : Value) (w : World) (hf : ISlice w fin f.final) (ha : ASlice w arcs f.arcs) :
  Calls Try.prog 26 #[.agg #[.int .i64 f.states,.int .i64 f.start,fin,arcs]] w fun e w' => e = .returned (.tuple #[.bool (decide (checkD f = 0) && (bothB f && !silB f)),.int .i64 (checkD f)]) /\ Below w.heap.size w w':=by
 obtain ⟨fa,fn,fc,rfl,_,_⟩:=hf.lenOf
 obtain ⟨aa,m,ac,rfl,hal,_⟩:=ha.lenOf
 obtain ⟨A,hA⟩ : ∃ A,A = w.alloc (.cells #[.int .i64 f.states,.int .i64 f.start,.slice fa fn fc,.slice aa m ac] 25):=⟨_,rfl⟩
 have hb0 : Below w.heap.size w A:=by rw [hA]; exact bel_up (bel_self w) _
 have hcf : CellsF A w.heap.size f.states f.start (.slice fa fn fc) (.slice aa m ac):=by rw [hA]; exact cellsF_new _ _ _ _ _ _
 have hacc:=acceptor_any f _ _ A (hf.below hb0) (ha.below hb0)
 have HA : Hid (A = w.alloc (.cells #[.int .i64 f.states,.int .i64 f.start,.slice fa fn fc,.slice aa m ac] 25)):=hA
 have HR : Hid (ASlice A (.slice aa m ac) f.arcs):=ha.below hb0
 rw [hA] at hacc
 clear hA
 by_cases h0 : checkD f = 0
 ·have hm:=(fine_of h0).many
  rw [h0] at hacc ⊢
  have hd1 : (decide ((0 : Int) = 0) && bothB f) = bothB f:=by simp
  have hd2 : (decide ((0 : Int) = 0) && (bothB f && !silB f)) = (bothB f && !silB f):=by simp
  rw [hd1] at hacc
  rw [hd2]
  clear hd1 hd2
  have HS : Hid (∀ W,ASlice W (.slice aa m ac) f.arcs -> Calls Try.prog 56 #[.slice aa m ac,.func (.func 57) #[] #[]] W fun e w' => e = .returned (.bool (silB f)) /\ Below W.heap.size W w'):=fun W h => arcContains_any (fun a => a.inp == 0) 57 gRead1 read1_any f.arcs aa m ac W h hal (by omega)
  obtain ⟨z,hz⟩ : ∃ z,z = bothB f:=⟨_,rfl⟩
  obtain ⟨y,hy⟩ : ∃ z,z = silB f:=⟨_,rfl⟩
  rw [<- hy] at HS ⊢
  rw [<- hz] at hacc ⊢
  clear hz hy h0 hm hf ha
  cases z
  ·go_enter Try.func26,Try.ntmps26
   go_wp2_with (first | (go_at_call 55; refine hacc.mono ?_; rintro e w1 ⟨rfl,hb1⟩; rw [<- HA.out] at hb1; obtain ⟨q0,q1,q2,q3⟩:=hcf.below hb1) | (go_at_call 56; refine (HS.out w1 (HR.out.below hb1)).mono ?_; rintro e w2 ⟨rfl,hb2⟩))
   exact bodyPost_ret (by simp [results,Try.results26,go_sem, *]) rfl ⟨rfl,bel_on hb0 (bel_on hb1 hb2)⟩
  ·go_enter Try.func26,Try.ntmps26
   go_wp2_with (first | (go_at_call 55; refine hacc.mono ?_; rintro e w1 ⟨rfl,hb1⟩; rw [<- HA.out] at hb1; obtain ⟨q0,q1,q2,q3⟩:=hcf.below hb1) | (go_at_call 56; refine (HS.out w1 (HR.out.below hb1)).mono ?_; rintro e w2 ⟨rfl,hb2⟩))
   exact bodyPost_ret (by simp [results,Try.results26,go_sem, *]) rfl ⟨rfl,bel_on hb0 (bel_on hb1 hb2)⟩
 ·have hd : (decide (checkD f = 0) && (bothB f && !silB f)) = false:=by simp [h0]
  have hd1 : (decide (checkD f = 0) && bothB f) = false:=by simp [h0]
  rw [hd]
  rw [hd1] at hacc
  obtain ⟨c,hc⟩ : ∃ c,c = checkD f:=⟨_,rfl⟩
  rw [<- hc] at hacc h0 ⊢
  have h0n : (c != 0) = true:=by simpa using h0
  clear hc hd hd1 hf ha
  go_enter Try.func26,Try.ntmps26
  go_wp2_with (go_at_call 55; refine hacc.mono ?_; rintro e w1 ⟨rfl,hb1⟩; rw [<- HA.out] at hb1)
  exact bodyPost_ret (by simp [results,Try.results26,go_sem, *]) rfl ⟨rfl,bel_on hb0 hb1⟩
end Go.Proofs.Yteehgcbjmdideab
/- 'IsBoth','HasSilent' and 'IsSingle' of the document. (Made by wip/gen/dtb.py.) -/
namespace Go.Proofs.Yteehgcbjmdideab
open Go.RowKit
attribute [local go_sem ↓] Go.wp_at_zero Go.wp_at_succ
theorem any_hit {l : List ArcD} {p : ArcD -> Bool} {k : Nat} (hk : k < l.length) (h : p (l.getD k a0) = true) : l.any p = true:=by
 rw [List.any_eq_true]
 refine ⟨l[k],List.getElem_mem hk,?_⟩
 rw [List.getD_eq_getElem?_getD,List.getElem?_eq_getElem hk] at h
 exact h
theorem any_miss {l : List ArcD} {p : ArcD -> Bool} (h : ∀ k,k < l.length -> p (l.getD k a0) = false) : l.any p = false:=by
 rw [List.any_eq_false]
 intro a ha
 obtain ⟨k,hk,rfl⟩:=List.getElem_of_mem ha
 have:=h k hk
 rw [List.getD_eq_getElem?_getD,List.getElem?_eq_getElem hk] at this
 rw [show l[k] = (some l[k]).getD a0 from rfl,this]
 decide
set_option maxHeartbeats 1000000 in
theorem isBoth_any (f : FstD) (fin arcs : Value) (w : World) (hm : f.arcs.length <= 3000) (hf : ISlice w fin f.final) (ha : ASlice w arcs f.arcs) :
  Calls Try.prog 9 #[.agg #[.int .i64 f.states,.int .i64 f.start,fin,arcs]] w fun e w' => e = .returned (.bool (bothB f)) /\ Below w.heap.size w w':=by
 obtain ⟨fa,fn,fc,rfl,_,_⟩:=hf.lenOf
 obtain ⟨aa,m,ac,rfl,hal,_⟩:=ha.lenOf
 obtain ⟨A,hA⟩ : ∃ A,A = w.alloc (.cells #[.int .i64 f.states,.int .i64 f.start,.slice fa fn fc,.slice aa m ac] 25):=⟨_,rfl⟩
 have hb0 : Below w.heap.size w A:=by rw [hA]; exact bel_up (bel_self w) _
 have hcf : CellsF A w.heap.size f.states f.start (.slice fa fn fc) (.slice aa m ac):=by rw [hA]; exact cellsF_new _ _ _ _ _ _
 have HR : Hid (ASlice A (.slice aa m ac) f.arcs):=ha.below hb0
 have HF : Hid (ISlice A (.slice fa fn fc) f.final):=hf.below hb0
 have HL : Hid (f.arcs.length = m):=hal
 have hm3 : m <= 3000:=by omega
 have HA : Hid (A = w.alloc (.cells #[.int .i64 f.states,.int .i64 f.start,.slice fa fn fc,.slice aa m ac] 25)):=hA
 clear hA hf ha hal hm
 go_enter Try.func9,Try.ntmps9
 go_wp2
 rw [<- HA.out]
 clear HA
 go_loopw [3] (fun t3 wx => ∃ k : Nat,k <= m /\ t3 = .int .i64 (k : Int) /\ (∀ j,j < k -> (f.arcs.getD j a0).inp = (f.arcs.getD j a0).out) /\ Below A.heap.size A wx) (fun t3 _ => m - (intOf t3).toNat)
 case atStart => exact ⟨0,Nat.zero_le _,rfl,fun j h => absurd h (Nat.not_lt_zero _),bel_self _⟩
 case round =>
  obtain ⟨k,hk,rfl,hx,hbr⟩:=hrel
  have HX : Hid (∀ j,j < k -> (f.arcs.getD j a0).inp = (f.arcs.getD j a0).out):=hx
  obtain ⟨q0,q1,q2,q3⟩:=hcf.below hbr
  clear hx
  have hkw : IntKind.i64.wrap ((k : Int) + 1) = (k : Int) + 1:=wrap_in _ (by omega) (by omega)
  by_cases hlt : k < m
  ·have hki : (k : Int) < m:=by omega
   obtain ⟨ab,ao,rfl,hxa⟩:=(HR.out.below hbr).some (by omega)
   have c1:=hxa.c1 k hlt
   have c2:=hxa.c2 k hlt
   obtain ⟨u,hu⟩ : ∃ u,(f.arcs.getD k a0).inp = u:=⟨_,rfl⟩
   obtain ⟨v,hv⟩ : ∃ u,(f.arcs.getD k a0).out = u:=⟨_,rfl⟩
   have HU : Hid ((f.arcs.getD k a0).inp = u /\ (f.arcs.getD k a0).out = v):=⟨hu,hv⟩
   rw [hu] at c1
   rw [hv] at c2
   clear hu hv hxa
   by_cases h1 : u = v
   ·subst h1
    have HS : Hid (∀ j,j < k + 1 -> (f.arcs.getD j a0).inp = (f.arcs.getD j a0).out):=fun j hj => by
     by_cases e : j = k
     ·subst e; rw [HU.out.1,HU.out.2]
     ·exact HX.out j (by omega)
    go_wp2
    go_quiet (fail)
    go_wp2
    go_roundw
    case rel => exact ⟨k + 1,by omega,by go_num,HS.out,bel_drewN hbr _⟩
    case measure => simp [intOf]; omega
   ·have h1b : (u != v) = true:=by simpa using h1
    have HB : Hid (bothB f = false):=by
     show _ = _
     unfold bothB
     rw [any_hit (k:=k) (by have:=HL.out; omega) (by rw [HU.out.1,HU.out.2]; exact h1b)]
     rfl
    go_wp2
    go_quiet (fail)
    go_wp2
    go_ret
    exact ⟨ret_bool HB.out.symm,bel_drewN (bel_on hb0 hbr) _⟩
  ·have hkn : ¬ (k : Int) < m:=by omega
   have HB : Hid (bothB f = true):=by
    show _ = _
    unfold bothB
    rw [any_miss (fun j hj => by rw [HX.out j (by have:=HL.out; omega)]; simp)]
    rfl
   go_wp2
   go_ret
   exact ⟨ret_bool HB.out.symm,bel_on hb0 hbr⟩
set_option maxHeartbeats 1000000 in
theorem hasSilent_any (f : FstD) (fin arcs : Value) (w : World) (hm : f.arcs.length <= 3000) (hf : ISlice w fin f.final) (ha : ASlice w arcs f.arcs) :
  Calls Try.prog 10 #[.agg #[.int .i64 f.states,.int .i64 f.start,fin,arcs]] w fun e w' => e = .returned (.bool (silB f)) /\ Below w.heap.size w w':=by
 obtain ⟨fa,fn,fc,rfl,_,_⟩:=hf.lenOf
 obtain ⟨aa,m,ac,rfl,hal,_⟩:=ha.lenOf
 obtain ⟨A,hA⟩ : ∃ A,A = w.alloc (.cells #[.int .i64 f.states,.int .i64 f.start,.slice fa fn fc,.slice aa m ac] 25):=⟨_,rfl⟩
 have hb0 : Below w.heap.size w A:=by rw [hA]; exact bel_up (bel_self w) _
 have hcf : CellsF A w.heap.size f.states f.start (.slice fa fn fc) (.slice aa m ac):=by rw [hA]; exact cellsF_new _ _ _ _ _ _
 have HR : Hid (ASlice A (.slice aa m ac) f.arcs):=ha.below hb0
 have HF : Hid (ISlice A (.slice fa fn fc) f.final):=hf.below hb0
 have HL : Hid (f.arcs.length = m):=hal
 have hm3 : m <= 3000:=by omega
 have HA : Hid (A = w.alloc (.cells #[.int .i64 f.states,.int .i64 f.start,.slice fa fn fc,.slice aa m ac] 25)):=hA
 clear hA hf ha hal hm
 go_enter Try.func10,Try.ntmps10
 go_wp2
 rw [<- HA.out]
 clear HA
 go_loopw [3] (fun t3 wx => ∃ k : Nat,k <= m /\ t3 = .int .i64 (k : Int) /\ (∀ j,j < k -> ¬ (f.arcs.getD j a0).inp = 0) /\ wx = A) (fun t3 _ => m - (intOf t3).toNat)
 case atStart => exact ⟨0,Nat.zero_le _,rfl,fun j h => absurd h (Nat.not_lt_zero _),rfl⟩
 case round =>
  obtain ⟨k,hk,rfl,hx,rfl⟩:=hrel
  have HX : Hid (∀ j,j < k -> ¬ (f.arcs.getD j a0).inp = 0):=hx
  obtain ⟨q0,q1,q2,q3⟩:=hcf
  clear hx
  have hkw : IntKind.i64.wrap ((k : Int) + 1) = (k : Int) + 1:=wrap_in _ (by omega) (by omega)
  by_cases hlt : k < m
  ·have hki : (k : Int) < m:=by omega
   obtain ⟨ab,ao,rfl,hxa⟩:=HR.out.some (by omega)
   have c1:=hxa.c1 k hlt
   obtain ⟨u,hu⟩ : ∃ u,(f.arcs.getD k a0).inp = u:=⟨_,rfl⟩
   have HU : Hid ((f.arcs.getD k a0).inp = u):=hu
   rw [hu] at c1
   clear hu hxa
   by_cases h1 : u = 0
   ·subst h1
    have HB : Hid (silB f = true):=by
     show _ = _
     unfold silB
     rw [any_hit (k:=k) (by have:=HL.out; omega) (by rw [HU.out]; rfl)]
    go_wp2
    go_ret
    exact ⟨ret_bool HB.out.symm,hb0⟩
   ·have h1b : (u == 0) = false:=by simpa using h1
    have HS : Hid (∀ j,j < k + 1 -> ¬ (f.arcs.getD j a0).inp = 0):=fun j hj => by
     by_cases e : j = k
     ·subst e; rw [HU.out]; exact h1
     ·exact HX.out j (by omega)
    go_wp2
    go_roundw
    case rel => exact ⟨k + 1,by omega,by go_num,HS.out,trivial⟩
    case measure => simp [intOf]; omega
  ·have hkn : ¬ (k : Int) < m:=by omega
   have HB : Hid (silB f = false):=by
    show _ = _
    unfold silB
    rw [any_miss (fun j hj => by simpa using HX.out j (by have:=HL.out; omega))]
   go_wp2
   go_ret
   exact ⟨ret_bool HB.out.symm,hb0⟩
end Go.Proofs.Yteehgcbjmdideab
/- Ways round: a way as long as there are states; and states taken one after another. -/
namespace Go.Proofs.Yteehgcbjmdideab
def endsAt (E : List (Nat × Nat)) : Nat -> Nat -> Prop
 | 0,_ => True
 | k + 1,v => ∃ u,(u,v) ∈ E /\ endsAt E k u
def RoundE (E : List (Nat × Nat)) (N : Nat) : Prop:=∃ v,v < N /\ endsAt E N v
def nextE : List (Nat × Nat) -> Nat -> List Nat
 | [],_ => []
 | e :: E,s => if e.1 = s then e.2 :: nextE E s else nextE E s
theorem nextE_mem {E : List (Nat × Nat)} {s v : Nat} : v ∈ nextE E s ↔ (s,v) ∈ E:=by
 induction E with
 | nil => simp [nextE]
 | cons e E ih =>
  unfold nextE
  by_cases h : e.1 = s
  ·rw [if_pos h,List.mem_cons,List.mem_cons,ih]
   constructor
   ·rintro (h1 | h1)
    ·exact Or.inl (by rw [h1,<- h])
    ·exact Or.inr h1
   ·rintro (h1 | h1)
    ·exact Or.inl (by rw [<- h1])
    ·exact Or.inr h1
  ·rw [if_neg h,List.mem_cons,ih]
   constructor
   ·exact Or.inr
   ·rintro (h1 | h1)
    ·exact absurd (by rw [<- h1]) h
    ·exact h1
theorem nextE_snoc (E : List (Nat × Nat)) (e : Nat × Nat) (s : Nat) : nextE (E ++ [e]) s = if e.1 = s then nextE E s ++ [e.2] else nextE E s:=by
 induction E with
 | nil => by_cases h : e.1 = s <;> simp [nextE,h]
 | cons d E ih =>
  rw [List.cons_append]
  unfold nextE
  rw [ih]
  by_cases h : e.1 = s <;> by_cases h2 : d.1 = s <;> simp [h,h2]
theorem nextE_len (E : List (Nat × Nat)) (s : Nat) : (nextE E s).length <= E.length:=by
 induction E with
 | nil => simp [nextE]
 | cons d E ih =>
  unfold nextE
  split
  ·simp; omega
  ·simp; omega
def updR (R : Nat -> List Nat) (s : Nat) (l : List Nat) : Nat -> List Nat:=fun t => if t = s then l else R t
def totR (R : Nat -> List Nat) (v : Nat) : Nat -> Nat
 | 0 => 0
 | s + 1 => totR R v s + (R s).count v
theorem totR_zero {R : Nat -> List Nat} {v : Nat} : ∀ {n : Nat},totR R v n = 0 ↔ ∀ s,s < n -> v ∉ R s
 | 0 => ⟨fun _ s h => absurd h (Nat.not_lt_zero _),fun _ => rfl⟩
 | n + 1 => by
  unfold totR
  rw [Nat.add_eq_zero_iff,totR_zero,List.count_eq_zero]
  constructor
  ·rintro ⟨h1,h2⟩ s hs
   by_cases e : s = n
   ·rw [e]; exact h2
   ·exact h1 s (by omega)
  ·intro h
   exact ⟨fun s hs => h s (by omega),h n (by omega)⟩
theorem totR_far {R : Nat -> List Nat} {v s : Nat} {l : List Nat} : ∀ {n : Nat},n <= s -> totR (updR R s l) v n = totR R v n
 | 0,_ => rfl
 | n + 1,h => by
  unfold totR
  rw [totR_far (by omega)]
  unfold updR
  rw [if_neg (by omega)]
theorem totR_upd {R : Nat -> List Nat} {v s : Nat} {l : List Nat} : ∀ {n : Nat},s < n -> totR (updR R s l) v n + (R s).count v = totR R v n + l.count v
 | 0,h => absurd h (Nat.not_lt_zero _)
 | n + 1,h => by
  unfold totR
  by_cases e : s = n
  ·subst e
   rw [totR_far (Nat.le_refl _)]
   unfold updR
   rw [if_pos rfl]
   omega
  ·have:=totR_upd (R:=R) (v:=v) (l:=l) (show s < n by omega)
   have e2 : updR R s l n = R n:=by unfold updR; rw [if_neg (by omega)]
   rw [e2]
   omega
theorem totR_cong {R R' : Nat -> List Nat} {v : Nat} : ∀ {n : Nat},(∀ s,s < n -> R s = R' s) -> totR R v n = totR R' v n
 | 0,_ => rfl
 | n + 1,h => by
  unfold totR
  rw [totR_cong (fun s hs => h s (by omega)),h n (by omega)]
theorem totR_nil {v : Nat} : ∀ n : Nat,totR (fun _ => []) v n = 0
 | 0 => rfl
 | n + 1 => by unfold totR; rw [totR_nil n]; rfl
def intoE (E : List (Nat × Nat)) (v : Nat) : Nat:=(E.map Prod.snd).count v
theorem intoE_snoc (E : List (Nat × Nat)) (e : Nat × Nat) (v : Nat) : intoE (E ++ [e]) v = intoE E v + if e.2 = v then 1 else 0:=by
 unfold intoE
 rw [List.map_append,List.count_append]
 by_cases h : e.2 = v <;> simp [h]
theorem totR_next {E : List (Nat × Nat)} {N : Nat} (hE : ∀ e ∈ E,e.1 < N) (v : Nat) : totR (nextE E) v N = intoE E v:=by
 induction E with
 | nil => exact totR_nil N
 | cons e E ih =>
  have h1 : totR (nextE (e :: E)) v N = totR (updR (nextE E) e.1 (e.2 :: nextE E e.1)) v N:=by
   apply totR_cong
   intro s _
   show (if e.1 = s then e.2 :: nextE E s else nextE E s) = if s = e.1 then e.2 :: nextE E e.1 else nextE E s
   by_cases h : e.1 = s
   ·subst h; simp
   ·rw [if_neg h,if_neg (fun h' => h h'.symm)]
  have h2:=totR_upd (R:=nextE E) (v:=v) (l:=e.2 :: nextE E e.1) (hE e List.mem_cons_self)
  rw [ih (fun d hd => hE d (List.mem_cons_of_mem _ hd))] at h2
  rw [h1]
  unfold intoE at h2 ⊢
  rw [List.map_cons,List.count_cons]
  rw [List.count_cons] at h2
  omega
structure Kah (E : List (Nat × Nat)) (N : Nat) (T : List Nat) (i j : Nat) (R : Nat -> List Nat) : Prop where
 nd : T.Nodup
 lt : ∀ v ∈ T,v < N
 zero : ∀ v,v < N -> (v ∈ T ↔ totR R v N = 0)
 done : ∀ p s,p < i -> T[p]? = some s -> R s = []
 now : ∀ s,T[i]? = some s -> R s = (nextE E s).drop j
 rest : ∀ s,s ∉ T.take (i + 1) -> R s = nextE E s
 ord : ∀ (p v : Nat),T[p]? = some v -> ∀ u,(u,v) ∈ E -> ∃ q,q < p /\ T[q]? = some u
section
variable {E : List (Nat × Nat)} {N : Nat} {T : List Nat} {i j : Nat} {R : Nat -> List Nat}
theorem Kah.len (h : Kah E N T i j R) : T.length <= N:=nodup_le N T h.nd h.lt
theorem Kah.start (hE : ∀ e ∈ E,e.1 < N /\ e.2 < N) (hn : T.Nodup) (hT : ∀ v,v ∈ T ↔ v < N /\ intoE E v = 0) : Kah E N T 0 0 (nextE E) where
 nd:=hn
 lt:=fun v hv => ((hT v).1 hv).1
 zero:=fun v hv => by
  rw [hT,totR_next (fun e he => (hE e he).1)]
  exact ⟨fun h => h.2,fun h => ⟨hv,h⟩⟩
 done:=fun p s hp => absurd hp (Nat.not_lt_zero _)
 now:=fun s _ => by simp
 rest:=fun s _ => rfl
 ord:=fun p v hv u hu => by
  have h1:=((hT v).1 (List.mem_of_getElem? hv)).2
  unfold intoE at h1
  rw [List.count_eq_zero] at h1
  exact absurd (List.mem_map.2 ⟨(u,v),hu,rfl⟩) h1
theorem nodup_get {T : List Nat} (hn : T.Nodup) {p q s : Nat} (hp : T[p]? = some s) (hq : T[q]? = some s) : p = q:=by
 obtain ⟨h1,e1⟩:=List.getElem?_eq_some_iff.1 hp
 obtain ⟨h2,e2⟩:=List.getElem?_eq_some_iff.1 hq
 have hpw:=List.pairwise_iff_getElem.1 hn
 rcases Nat.lt_trichotomy p q with h | h | h
 ·exact absurd (e1.trans e2.symm) (hpw p q h1 h2 h)
 ·exact h
 ·exact absurd (e2.trans e1.symm) (hpw q p h2 h1 h)
theorem take_get {T : List Nat} {k s : Nat} : s ∈ T.take k ↔ ∃ p,p < k /\ T[p]? = some s:=by
 rw [List.mem_iff_getElem?]
 constructor
 ·rintro ⟨p,hp⟩
  rw [List.getElem?_take] at hp
  split at hp
  ·exact ⟨p,by assumption,hp⟩
  ·cases hp
 ·rintro ⟨p,h1,h2⟩
  exact ⟨p,by rw [List.getElem?_take,if_pos h1]; exact h2⟩
theorem Kah.step (hE : ∀ e ∈ E,e.1 < N /\ e.2 < N) (h : Kah E N T i j R) {s to : Nat} (hs : T[i]? = some s) (ht : (nextE E s)[j]? = some to) :
  to < N /\ to ∉ T /\ totR R to N = totR (updR R s ((nextE E s).drop (j + 1))) to N + 1 /\ (∀ v,v ≠ to -> totR (updR R s ((nextE E s).drop (j + 1))) v N = totR R v N) /\
   (¬ totR (updR R s ((nextE E s).drop (j + 1))) to N = 0 -> Kah E N T i (j + 1) (updR R s ((nextE E s).drop (j + 1)))) /\
   (totR (updR R s ((nextE E s).drop (j + 1))) to N = 0 -> Kah E N (T ++ [to]) i (j + 1) (updR R s ((nextE E s).drop (j + 1)))):=by
 have hsN : s < N:=h.lt s (List.mem_of_getElem? hs)
 have hiT : i < T.length:=(List.getElem?_eq_some_iff.1 hs).1
 have hmem : (s,to) ∈ E:=nextE_mem.1 (List.mem_of_getElem? ht)
 have htN : to < N:=(hE _ hmem).2
 obtain ⟨hj,ej⟩:=List.getElem?_eq_some_iff.1 ht
 have hdr : (nextE E s).drop j = to :: (nextE E s).drop (j + 1):=by rw [List.drop_eq_getElem_cons hj,ej]
 have hR : R s = to :: (nextE E s).drop (j + 1):=(h.now s hs).trans hdr
 have hup : ∀ v,totR (updR R s ((nextE E s).drop (j + 1))) v N + (R s).count v = totR R v N + ((nextE E s).drop (j + 1)).count v:=fun v => totR_upd hsN
 have h1 : totR R to N = totR (updR R s ((nextE E s).drop (j + 1))) to N + 1:=by
  have:=hup to
  rw [hR,List.count_cons_self] at this
  omega
 have h2 : ∀ v,v ≠ to -> totR (updR R s ((nextE E s).drop (j + 1))) v N = totR R v N:=fun v hv => by
  have:=hup v
  rw [hR,List.count_cons_of_ne (fun e => hv e.symm)] at this
  omega
 have hnT : to ∉ T:=fun hm => by
  have:=(h.zero to htN).1 hm
  omega
 have hdone : ∀ p t,p < i -> T[p]? = some t -> updR R s ((nextE E s).drop (j + 1)) t = []:=fun p t hp htp => by
  have : t ≠ s:=fun e => by
   rw [e] at htp
   have:=nodup_get h.nd htp hs
   omega
  unfold updR
  rw [if_neg this]
  exact h.done p t hp htp
 have hrest : ∀ t,t ∉ T.take (i + 1) -> updR R s ((nextE E s).drop (j + 1)) t = nextE E t:=fun t ht => by
  have : t ≠ s:=fun e => ht (take_get.2 ⟨i,by omega,by rw [e]; exact hs⟩)
  unfold updR
  rw [if_neg this]
  exact h.rest t ht
 refine ⟨htN,hnT,h1,h2,fun hnz => ⟨h.nd,h.lt,fun v hv => ?_,hdone,fun t ht => ?_,hrest,h.ord⟩,fun hz => ⟨?_,fun v hv => ?_,fun v hv => ?_,fun p t hp ht => ?_,fun t ht => ?_,fun t ht => ?_,fun p v hv u hu => ?_⟩⟩
 ·by_cases e : v = to
  ·subst e
   exact ⟨fun hm => absurd hm hnT,fun e => absurd e hnz⟩
  ·rw [h2 v e]
   exact h.zero v hv
 ·rw [hs] at ht
  injection ht with ht
  subst ht
  unfold updR
  rw [if_pos rfl]
 ·rw [List.nodup_append]
  refine ⟨h.nd,by simp,fun a ha b hb e => ?_⟩
  rw [List.mem_singleton] at hb
  exact hnT (by rw [<- hb,<- e]; exact ha)
 ·rcases List.mem_append.1 hv with hv | hv
  ·exact h.lt v hv
  ·rw [List.mem_singleton.1 hv]; exact htN
 ·rw [List.mem_append,List.mem_singleton]
  by_cases e : v = to
  ·subst e
   exact ⟨fun _ => hz,fun _ => Or.inr rfl⟩
  ·rw [h2 v e,<- h.zero v hv]
   exact ⟨fun h => h.resolve_right e,Or.inl⟩
 ·rw [List.getElem?_append_left (by omega)] at ht
  exact hdone p t hp ht
 ·rw [List.getElem?_append_left hiT,hs] at ht
  injection ht with ht
  subst ht
  unfold updR
  rw [if_pos rfl]
 ·rw [List.take_append_of_le_length (by omega)] at ht
  exact hrest t ht
 ·by_cases hp : p < T.length
  ·rw [List.getElem?_append_left hp] at hv
   obtain ⟨q,hq,hu2⟩:=h.ord p v hv u hu
   exact ⟨q,hq,by rw [List.getElem?_append_left (by omega)]; exact hu2⟩
  ·have hlt:=(List.getElem?_eq_some_iff.1 hv).1
   rw [List.length_append,List.length_singleton] at hlt
   have hpe : p = T.length:=by omega
   subst hpe
   rw [List.getElem?_append_right (Nat.le_refl _),Nat.sub_self] at hv
   have hv' : to = v:=by simpa using hv
   subst hv'
   have hz':=totR_zero.1 hz u (hE _ hu).1
   have hin : u ∈ T.take (i + 1):=Classical.byContradiction fun hn => by
    rw [hrest u hn] at hz'
    exact hz' (nextE_mem.2 hu)
   obtain ⟨q,hq,hu2⟩:=take_get.1 hin
   exact ⟨q,by omega,by rw [List.getElem?_append_left (by omega)]; exact hu2⟩
theorem Kah.next (h : Kah E N T i j R) {s : Nat} (hs : T[i]? = some s) (hj : (nextE E s).length <= j) : Kah E N T (i + 1) 0 R where
 nd:=h.nd
 lt:=h.lt
 zero:=h.zero
 done:=fun p t hp ht => by
  by_cases e : p = i
  ·subst e
   rw [h.now t ht]
   rw [hs] at ht
   injection ht with ht
   subst ht
   exact List.drop_eq_nil_of_le hj
  ·exact h.done p t (by omega) ht
 now:=fun t ht => by
  rw [List.drop_zero]
  apply h.rest
  intro hm
  obtain ⟨q,hq,hu⟩:=take_get.1 hm
  have:=nodup_get h.nd hu ht
  omega
 rest:=fun t ht => h.rest t fun hm => by
  obtain ⟨q,hq,hu⟩:=take_get.1 hm
  exact ht (take_get.2 ⟨q,by omega,hu⟩)
 ord:=h.ord
theorem Kah.ends (h : Kah E N T i j R) : ∀ (k p v : Nat),T[p]? = some v -> endsAt E k v -> k <= p
 | 0,_,_,_,_ => Nat.zero_le _
 | k + 1,p,v,hv,hk => by
  obtain ⟨u,hu,hk'⟩:=hk
  obtain ⟨q,hq,hu'⟩:=h.ord p v hv u hu
  have:=Kah.ends h k q u hu' hk'
  omega
theorem Kah.all (h : Kah E N T T.length j R) : T.length < N ↔ RoundE E N:=by
 constructor
 ·intro hl
  have hon : ∀ v,v < N -> v ∉ T -> ∃ u,(u,v) ∈ E /\ u < N /\ u ∉ T:=fun v hv hn => by
   have hnz : ¬ totR R v N = 0:=fun e => hn ((h.zero v hv).2 e)
   rw [totR_zero] at hnz
   have : ∃ s,s < N /\ v ∈ R s:=Classical.byContradiction fun hc => hnz fun s hs hm => hc ⟨s,hs,hm⟩
   obtain ⟨s,hs,hm⟩:=this
   have hsT : s ∉ T:=fun hT => by
    obtain ⟨p,hp⟩:=List.mem_iff_getElem?.1 hT
    rw [h.done p s (List.getElem?_eq_some_iff.1 hp).1 hp] at hm
    cases hm
   have hsE : R s = nextE E s:=h.rest s fun hm => hsT (List.mem_of_mem_take hm)
   rw [hsE] at hm
   exact ⟨s,nextE_mem.1 hm,hs,hsT⟩
  have hall : ∀ k v,v < N -> v ∉ T -> endsAt E k v:=by
   intro k
   induction k with
   | zero => intro v _ _; trivial
   | succ k ih =>
    intro v hv hn
    obtain ⟨u,h1,h2,h3⟩:=hon v hv hn
    exact ⟨u,h1,ih u h2 h3⟩
  have hex : ∃ v,v < N /\ v ∉ T:=Classical.byContradiction fun hc => by
   have hsub : ∀ v,v < N -> v ∈ T:=fun v hv => Classical.byContradiction fun hn => hc ⟨v,hv,hn⟩
   have h1 : (List.range N).length <= T.length:=by
    have hp:=(List.nodup_range (n:=N)).length_le_of_subset (l₂:=T) (fun v hv => hsub v (List.mem_range.1 hv))
    exact hp
   rw [List.length_range] at h1
   omega
  obtain ⟨v,hv,hn⟩:=hex
  exact ⟨v,hv,hall N v hv hn⟩
 ·rintro ⟨v,hv,he⟩
  have hlen:=h.len
  by_cases hl : T.length < N
  ·exact hl
  ·exfalso
   have hT : v ∈ T:=Classical.byContradiction fun hn => by
    have:=nodup_le N (v :: T) (List.nodup_cons.2 ⟨hn,h.nd⟩) (fun x hx => by
     rcases List.mem_cons.1 hx with e | hx
     ·rw [e]; exact hv
     ·exact h.lt x hx)
    rw [List.length_cons] at this
    omega
   obtain ⟨p,hp⟩:=List.mem_iff_getElem?.1 hT
   have:=h.ends N p v hp he
   have:=(List.getElem?_eq_some_iff.1 hp).1
   omega
end
def edgesE (l : List ArcD) : List (Nat × Nat):=l.map fun a => (a.src.toNat,a.dst.toNat)
end Go.Proofs.Yteehgcbjmdideab
