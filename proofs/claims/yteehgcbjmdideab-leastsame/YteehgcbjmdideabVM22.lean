/- 'Costs' of package spread,where weights may be great. (Made by wip/gen/bg.py out of CostsP and ShortM.) -/
import Derived.Test.YteehgcbjmdideabVM21
import Derived.Test.YteehgcbjmdideabVM06
import Derived.Deep.RegionHeld3
import Derived.Deep.Cut
import Derived.Test.YteehgcbjmdideabVM20
import Derived.Test.YteehgcbjmdideabVCheckF
import Derived.Test.YteehgcbjmdideabVM00
import Derived.Maps.OwnRows
import Derived.Maps.OwnSet
import Derived.Maps.OwnOps
import Derived.Maps.GroupsBeside
import Derived.Maps.AppendAt
import Derived.WalkSmall
import Derived.Outline
import Derived.Lib.SmallJoins
import Derived.Deep.RegionHeld
set_option maxRecDepth 100000
namespace Go.Proofs.Yteehgcbjmdideab.Bg
open Go.RowKit
attribute [local go_sem ↓] Go.wp_at_zero Go.wp_at_succ
theorem sum_any (a b : Int) (w : World) (ha : -1 <= a) (hb : -1 <= b) (ha2 : a <= 100000000000000000) (hb2 : b <= 100000000000000000) :
  Calls Try.prog 92 #[.int .i64 a,.int .i64 b] w fun e w' => e = .returned (.int .i64 (plusC a b)) /\ w' = w:=by
 by_cases h1 : a = -1
 ·subst h1
  go_enter Try.func92,Try.ntmps92
  go_wp2
  go_ret
  exact ⟨ret_int (by simp [plusC]),rfl⟩
 ·have h1b : (a == -1) = false:=by simpa using h1
  by_cases h2 : b = -1
  ·subst h2
   go_enter Try.func92,Try.ntmps92
   go_wp2
   go_ret
   exact ⟨ret_int (by simp [plusC]),rfl⟩
  ·have h2b : (b == -1) = false:=by simpa using h2
   go_enter Try.func92,Try.ntmps92
   go_wp2
   go_ret
   exact ⟨ret_int (by unfold plusC; rw [if_neg (by omega)]),rfl⟩
def muW (w : World) (g n : Nat) : Nat:=((List.range n).map fun i => muI (intOf ((w.cell? ⟨g,i,none⟩).getD (.int .i64 0)))).sum
theorem muW_eq {w : World} {g n : Nat} {c : List Int} (h : NumsAt w g n c) : muW w g n = muL c:=by
 unfold muW muL
 congr 1
 apply List.ext_getElem
 ·simp [h.len]
 ·intro i h1 h2
  have hi : i < n:=by simpa using h1
  have hl:=h.len
  simp [h.cell i hi,intOf,gI,List.getD,show i < c.length by omega]
structure CW (w wr : World) (gc gy n : Nat) (E : List Edg) (b c y : List Int) : Prop where
 rc : NumsAt wr gc n c
 ry : NumsAt wr gy n y
 ne : gc ≠ gy
 lc : w.heap.size <= gc
 ly : w.heap.size <= gy
 bel : Below w.heap.size w wr
 inv : Inv E b c y
theorem CW.below {w wr wx : World} {gc gy n : Nat} {E : List Edg} {b c y : List Int} (h : CW w wr gc gy n E b c y) (hb : Below wr.heap.size wr wx) : CW w wx gc gy n E b c y :=
 ⟨h.rc.below hb,h.ry.below hb,h.ne,h.lc,h.ly,bel_on h.bel hb,h.inv⟩
def CostsRes (w : World) (n : Nat) (E : List Edg) (b : List Int) (e : Ending) (w' : World) : Prop :=
 ∃ gc gy c y cc cy,e = .returned (.tuple #[.slice (some ⟨gc,0,none⟩) n cc,.slice (some ⟨gy,0,none⟩) n cy]) /\ CW w w' gc gy n E b c y /\ Fix E c
set_option maxHeartbeats 1000000 in
theorem costs_some (pu pv : ArcD -> Int) (F : Nat) (hG : ∀ args w,(callFunc F args).run Try.prog w = .ok (.enter F args) w) (hF : ∀ (a : ArcD) (w : World),Calls Try.prog F #[.agg #[.int .i64 a.src,.int .i64 a.inp,.int .i64 a.out,.int .i64 a.dst,.int .i64 a.wt]] w fun e w' => e = .returned (.tuple #[.int .i64 (pu a),.int .i64 (pv a)]) /\ Below w.heap.size w w')
  (b : List Int) (gb ob cb n : Nat) (aa : Option Addr) (m ac : Nat) (ars : List ArcD) (w : World) (hb : IntsAt w gb ob n b) (ha : ASlice w (.slice aa m ac) ars) (hal : ars.length = m) (hm : m <= 3000) (hn1 : 1 <= n) (hn : n <= 200)
  (hb0 : ∀ v,gI b v = -1 \/ 0 <= gI b v) (hb1 : ∀ v,gI b v <= 10000000000000)
  (hok : ∀ a ∈ ars,(0 <= pu a /\ pu a < n) /\ (0 <= pv a /\ pv a < n) /\ (0 <= a.wt /\ a.wt <= 10000000000000)) :
  Calls Try.prog 65 #[.slice (some ⟨gb,ob,none⟩) n cb,.slice aa m ac,.func (.func F) #[] #[]] w fun e w' =>
   CostsRes w n (ars.map (edgOf pu pv)) b e w':=by
 have HOK : Hid (∀ a ∈ ars,(0 <= pu a /\ pu a < n) /\ (0 <= pv a /\ pv a < n) /\ (0 <= a.wt /\ a.wt <= 10000000000000)):=hok
 have HAL : Hid (ars.length = m):=hal
 have hbl:=hb.len
 have hcl:=Try.slices_Clone_int gb ob n cb b w (by omega) (by omega) (fun j hj => hb.cell j (by omega))
 clear hok hal
 go_enter Try.func65,Try.ntmps65
 go_wp2_with (first | (go_at_call 93; refine hcl.mono ?_; rintro e w1 ⟨v1,rfl,hrow,_,hb1'⟩; obtain ⟨gc,cc,rfl⟩:=Go.Joins.ownsRow_form hrow (by omega)) | (go_at_call 91; refine (repeat_any (-1) w1.heap.size 0 1 n _ (new_cell _ _ _ _ _ _ rfl rfl) hn1 hn).mono ?_; rintro e w2 ⟨rfl,hG0,hb2⟩))
 have hW : CW w w2 gc (w1.heap.size + 1) n (ars.map (edgOf pu pv)) b b (List.replicate n (-1)):=by
  obtain ⟨r1,r2⟩:=NumsAt.of_row hrow
  rw [List.take_of_length_le (by omega)] at r1
  have r1l:=r1.lt
  have h12:=bel_on (bel_up (bel_self w1) (.cells #[.int .i64 (-1)] 3)) hb2
  exact ⟨r1.below h12,rep_row hG0,by omega,r2,by have:=hb1'.size; omega,bel_on hb1' h12,by have:=Inv.start (E:=ars.map (edgOf pu pv)) hb0 hb1; rw [hbl] at this; exact this⟩
 have HB0 : Hid (∀ v,gI b v = -1 \/ 0 <= gI b v):=hb0
 have HB1 : Hid (∀ v,gI b v <= 10000000000000):=hb1
 obtain ⟨gy,hgy⟩ : ∃ gy,gy = w1.heap.size + 1:=⟨_,rfl⟩
 rw [<- hgy] at hW
 have h12 : w1.heap.size + 1 <= w2.heap.size:=by have:=hb2.size; simp at this; omega
 clear hcl hG0 hrow hb0 hb1
 rw [<- hgy]
 clear hgy h12 hb1' hb2
 go_loopw [8] (fun t8 wr => ∃ f : Bool,t8 = .bool f /\ ∃ c y,CW w wr gc gy n (ars.map (edgOf pu pv)) b c y /\ (f = false -> Fix (ars.map (edgOf pu pv)) c)) (fun t8 wr => 2 * muW wr gc n + boolN t8)
 case atStart => exact ⟨true,rfl,b,_,hW,fun h => by cases h⟩
 case round =>
  clear hW
  obtain ⟨f,rfl,c,y,hW,hfix⟩:=hrel
  cases f with
  | false =>
   have HF : Hid (Fix (ars.map (edgOf pu pv)) c):=hfix rfl
   go_wp2
   go_ret2
   exact ⟨gc,gy,c,y,cc,n,rfl,hW,HF.out⟩
  | true =>
   clear hfix
   have HMU : Hid (muW wr gc n = muL c):=muW_eq hW.rc
   go_wp2
   go_loopw [8,23] (fun t8 t23 wr => ∃ (f : Bool) (k : Nat),t8 = .bool f /\ k <= m /\ t23 = .int .i64 k /\ ∃ c' y',CW w wr gc gy n (ars.map (edgOf pu pv)) b c' y' /\ ((f = false /\ c' = c /\ ∀ j,j < k -> ∀ e,(ars.map (edgOf pu pv))[j]? = some e -> betterB (plusC (gI c e.u) e.w) (gI c e.v) = false) \/ (f = true /\ muL c' < muL c))) (fun _ t23 _ => m - (intOf t23).toNat)
   case atStart => exact ⟨false,0,rfl,Nat.zero_le _,rfl,c,y,hW,Or.inl ⟨rfl,rfl,fun j hj => absurd hj (Nat.not_lt_zero _)⟩⟩
   case round =>
    obtain ⟨f,k,rfl,hk,rfl,c',y',hW',hrel⟩:=hrel
    have HR : Hid ((f = false /\ c' = c /\ ∀ j,j < k -> ∀ e,(ars.map (edgOf pu pv))[j]? = some e -> betterB (plusC (gI c e.u) e.w) (gI c e.v) = false) \/ (f = true /\ muL c' < muL c)):=hrel
    clear hrel hW
    by_cases hlt : k < m
    ·obtain ⟨ab,aoff,rfl,hx⟩:=(ha.below hW'.bel).some (by omega)
     obtain ⟨a,hak⟩ : ∃ a,a = ars.getD k a0:=⟨_,rfl⟩
     have hkl : k < ars.length:=by have:=HAL.out; omega
     have hmem : a ∈ ars:=by rw [hak]; simp [List.getD,hkl]
     obtain ⟨⟨q1,q2⟩,⟨q3,q4⟩,q5,q6⟩:=HOK.out a hmem
     obtain ⟨s,hs⟩ : ∃ s : Nat,pu a = s:=⟨(pu a).toNat,by omega⟩
     obtain ⟨t,ht⟩ : ∃ t : Nat,pv a = t:=⟨(pv a).toNat,by omega⟩
     have hsN : s < n:=by omega
     have htN : t < n:=by omega
     have c0:=hx.c0 k hlt
     have c1:=hx.c1 k hlt
     have c2:=hx.c2 k hlt
     have c3:=hx.c3 k hlt
     have c4:=hx.c4 k hlt
     rw [<- hak] at c0 c1 c2 c3 c4
     have HAK : Hid ((ars.map (edgOf pu pv))[k]? = some ⟨s,t,a.wt⟩):=by
      show (ars.map (edgOf pu pv))[k]? = some ⟨s,t,a.wt⟩
      have e1 : ars[k]? = some a:=by rw [hak]; simp [List.getD,hkl]
      rw [List.getElem?_map,e1]
      simp [edgOf,hs,ht]
     clear hak hmem hkl hx
     have hlti : (k : Int) < m:=by omega
     have hcall:=hF a
     rw [hs,ht] at hcall
     clear hs ht q1 q2 q3 q4
     have hlo:=hW'.inv.lo s
     have hhi:=hW'.inv.top (by omega) s
     obtain ⟨p,hp⟩ : ∃ p,p = plusC (gI c' s) a.wt:=⟨_,rfl⟩
     have hsum:=sum_any (gI c' s) a.wt
     rw [<- hp] at hsum
     have hsi : (s : Int) < n:=by omega
     have hti : (t : Int) < n:=by omega
     have HP : Hid (p = plusC (gI c' s) a.wt):=hp
     clear hp
     cases hbt : betterB p (gI c' t) with
     | false =>
      have hless:=lessP_any p (gI c' t)
      rw [hbt] at hless
      have HBT : Hid (betterB p (gI c' t) = false):=hbt
      clear hbt
      go_wp2_with (first | (refine (hcall _).mono ?_; rintro e w3 ⟨rfl,hb3⟩; have hW3:=hW'.below (bel_on (bel_up (bel_self wr) _) hb3); have x0:=hW3.rc.cell s hsN; have x1:=hW3.rc.cell t htN; have x2:=hW3.ry.cell t htN; have f1:=hW3.rc.frz t; have f2:=hW3.ry.frz t; have x4:=bel_c hb3 (new_cell wr #[.int .i64 a.src,.int .i64 a.inp,.int .i64 a.out,.int .i64 a.dst,.int .i64 a.wt] 54 wr.heap.size 4 (.int .i64 a.wt) rfl rfl); clear c0 c1 c2 c3 c4 hb3))
      go_quiet (first | (go_at_call 92; refine Calls.quiet_of_same (hsum _ hlo (by omega) (by omega) (by omega))))
      go_wp2_with (first | (go_at_call 69; refine (hless _).mono ?_; rintro e w4 ⟨rfl,rfl⟩))
      have hW4:=hW3.below (bel_drewN (bel_self w3) nq)
      go_roundw
      case rel =>
       refine ⟨f,k + 1,rfl,by omega,by go_num,c',y',hW4,?_⟩
       rcases HR.out with ⟨h1,h2,h3⟩ | h
       ·refine Or.inl ⟨h1,h2,fun j hj e he => ?_⟩
        by_cases hjk : j = k
        ·subst hjk
         rw [HAK.out] at he
         injection he with he
         subst he
         have:=HBT.out
         rw [HP.out,h2] at this
         exact this
        ·exact h3 j (by omega) e he
       ·exact Or.inr h
      case measure => simp [intOf]; omega
     | true =>
      have hless:=lessP_any p (gI c' t)
      rw [hbt] at hless
      have HBT : Hid (betterB p (gI c' t) = true):=hbt
      clear hbt
      go_wp2_with (first | (refine (hcall _).mono ?_; rintro e w3 ⟨rfl,hb3⟩; have hW3:=hW'.below (bel_on (bel_up (bel_self wr) _) hb3); have x0:=hW3.rc.cell s hsN; have x1:=hW3.rc.cell t htN; have x2:=hW3.ry.cell t htN; have f1:=hW3.rc.frz t; have f2:=hW3.ry.frz t; have x4:=bel_c hb3 (new_cell wr #[.int .i64 a.src,.int .i64 a.inp,.int .i64 a.out,.int .i64 a.dst,.int .i64 a.wt] 54 wr.heap.size 4 (.int .i64 a.wt) rfl rfl); clear c0 c1 c2 c3 c4 hb3))
      go_quiet (first | (go_at_call 92; refine Calls.quiet_of_same (hsum _ hlo (by omega) (by omega) (by omega))))
      have hW4:=hW3.below (bel_drewN (bel_self w3) nq)
      have hne:=hW4.ne
      have z1:=hW4.rc.cell t htN
      have z2:=(hW4.ry.other (k:=gc) (i:=t) (v:=.int .i64 p) (Ne.symm hne)).cell t htN
      have z3:=(hW4.ry.other (k:=gc) (i:=t) (v:=.int .i64 p) (Ne.symm hne)).frz t
      have z4:=hW4.rc.frz t
      go_wp2_with (first | (go_at_call 69; refine (hless _).mono ?_; rintro e w4 ⟨rfl,rfl⟩))
      go_roundw
      case rel =>
       have hst:=hW4.inv.step (j:=k) (by omega) HAK.out (by rw [hbl]; exact htN) q5 q6 (by show betterB (plusC (gI c' s) a.wt) (gI c' t) = true; rw [<- HP.out]; exact HBT.out)
       change Inv _ _ (c'.set t (plusC (gI c' s) a.wt)) (y'.set t (k : Int)) /\ muL (c'.set t (plusC (gI c' s) a.wt)) < muL c' at hst
       rw [<- HP.out] at hst
       refine ⟨true,k + 1,rfl,by omega,by go_num,c'.set t p,y'.set t (k : Int),⟨(hW4.rc.set t p htN).other hne,(hW4.ry.other (Ne.symm hne)).set t k htN,hne,hW4.lc,hW4.ly,(hW4.bel.setCell (p:=⟨gc,t,none⟩) hW4.lc _).setCell (p:=⟨gy,t,none⟩) hW4.ly _,hst.1⟩,Or.inr ⟨rfl,?_⟩⟩
       have hlt2:=hst.2
       rcases HR.out with ⟨_,h2,_⟩ | ⟨_,h⟩
       ·rw [<- h2]; exact hlt2
       ·omega
      case measure => simp [intOf]; omega
    ·have hkm : k = m:=by omega
     subst hkm
     go_wp2
     go_roundw
     case rel =>
      refine ⟨f,rfl,c',y',hW',fun hf => ?_⟩
      rcases HR.out with ⟨_,h2,h3⟩ | ⟨h,_⟩
      ·subst h2
       refine fix_of _ _ (fun e he => ?_) hW'.inv.lo (fun e he => ?_)
       ·obtain ⟨a,ha1,rfl⟩:=List.mem_map.1 he
        exact (HOK.out a ha1).2.2.1
       ·obtain ⟨j,hj,hje⟩:=List.getElem_of_mem he
        exact h3 j (by have:=HAL.out; simp at hj; omega) e (by rw [List.getElem?_eq_getElem hj,hje])
      ·rw [hf] at h; cases h
     case measure =>
      rw [muW_eq hW'.rc,HMU.out]
      rcases HR.out with ⟨h1,h2,_⟩ | ⟨h,h2⟩
      ·rw [h1,h2]; simp [boolN]
      ·rw [h]; simp [boolN]; omega
theorem fix_rounds {E L : List Edg} {b c y : List Int} (hL : ∀ e,e ∈ L ↔ e ∈ E) (hE : ∀ e ∈ E,e.v < b.length /\ 0 <= e.w) (hb : ∀ v,gI b v = -1 \/ 0 <= gI b v) (hi : Inv E b c y) (hf : Fix E c) : c = rounds L b b.length :=
 least_same (by rw [hi.len,rounds_len]) (fix_least (fun e he => (hE e he).2) hi.ach hi.le hf) (rounds_are L hL hE hb)
structure OkF (f : FstD) (N s0 : Nat) : Prop where
 st : f.states = N
 sta : f.start = s0
 n1 : 1 <= N
 n2 : N <= 200
 s : s0 < N
 len : f.final.length = N
 fin : ∀ x ∈ f.final,x = -1 \/ (0 <= x /\ x <= 10000000000000)
 many : f.arcs.length <= 3000
 arcs : ∀ a ∈ f.arcs,(0 <= a.src /\ a.src < N) /\ (0 <= a.dst /\ a.dst < N) /\ (0 <= a.wt /\ a.wt <= 10000000000000)
theorem OkF.bF {f : FstD} {N s0 : Nat} (_h : OkF f N s0) : (∀ v,gI (begL (s0 : Int) N) v = -1 \/ 0 <= gI (begL (s0 : Int) N) v) /\ ∀ v,gI (begL (s0 : Int) N) v <= 10000000000000 :=
 ⟨gI_of _ (fun x => x = -1 \/ 0 <= x) (fun x hx => by rcases begL_mem _ _ x hx with h | h <;> omega) (Or.inl rfl),gI_of _ (fun x => x <= 10000000000000) (fun x hx => by rcases begL_mem _ _ x hx with h | h <;> omega) (by decide)⟩
theorem OkF.bT {f : FstD} {N s0 : Nat} (h : OkF f N s0) : (∀ v,gI f.final v = -1 \/ 0 <= gI f.final v) /\ ∀ v,gI f.final v <= 10000000000000 :=
 ⟨gI_of _ (fun x => x = -1 \/ 0 <= x) (fun x hx => by rcases h.fin x hx with h | h <;> omega) (Or.inl rfl),gI_of _ (fun x => x <= 10000000000000) (fun x hx => by rcases h.fin x hx with h | h <;> omega) (by decide)⟩
theorem OkF.eT {f : FstD} {N s0 : Nat} (h : OkF f N s0) : ∀ e ∈ edT f,e.v < N /\ 0 <= e.w:=by
 intro e he
 obtain ⟨a,ha,rfl⟩:=List.mem_map.1 he
 have:=h.arcs a ha
 exact ⟨by show a.src.toNat < N; omega,this.2.2.1⟩
theorem OkF.toD {f : FstD} {N s0 : Nat} (h : OkF f N s0) {c y : List Int} (hi : Inv (edT f) f.final c y) (hf : Fix (edT f) c) : c = toD f:=by
 have:=fix_rounds (L:=(edT f).reverse) (fun e => List.mem_reverse) (by rw [h.len]; exact h.eT) h.bT.1 hi hf
 rw [this,h.len]
 unfold Proofs.Yteehgcbjmdideab.toD
 rw [h.st,Int.toNat_natCast]
end Go.Proofs.Yteehgcbjmdideab.Bg
/- 'Early' of package oneway,where weights may be great. (Made by wip/gen/eaa.py out of OwM.) -/
namespace Go.Proofs.Yteehgcbjmdideab.Bg
open Go.RowKit
attribute [local go_sem ↓] Go.wp_at_zero Go.wp_at_succ
theorem ok_dst {f : FstD} {N s0 : Nat} (h : OkF f N s0) : ∀ a ∈ f.arcs,(0 <= a.dst /\ a.dst < N) /\ (0 <= a.src /\ a.src < N) /\ (0 <= a.wt /\ a.wt <= 10000000000000):=fun a ha => ⟨(h.arcs a ha).2.1,(h.arcs a ha).1,(h.arcs a ha).2.2⟩
theorem final_at {f : FstD} {N s0 : Nat} {w : World} {a : Option Addr} {n c : Nat} (h : OkF f N s0) (hf : ISlice w (.slice a n c) f.final) : ∃ b off,a = some ⟨b,off,none⟩ /\ n = N /\ IntsAt w b off N f.final:=by
 obtain ⟨a',n',c',e,h1,_⟩:=hf.lenOf
 have hn : n = N:=by
  injection e with e1 e2 e3
  have:=h.len
  omega
 subst hn
 obtain ⟨b,off,rfl,hx⟩:=hf.some (by have:=h.n1; omega)
 exact ⟨b,off,rfl,rfl,hx⟩
theorem backF_ok {f : FstD} {N s0 : Nat} (h : OkF f N s0) (hg : ∀ a ∈ f.arcs,0 <= (movA (toD f) a).wt /\ (movA (toD f) a).wt <= 10000000000000) : OkF (backF f) N s0:=by
 refine ⟨h.st,h.sta,h.n1,h.n2,h.s,?_,?_,?_,?_⟩
 ·show (begL f.start f.states.toNat).length = N
  rw [begL_len,h.st,Int.toNat_natCast]
 ·intro x hx
  rcases begL_mem _ _ x hx with e | e
  ·exact Or.inl e
  ·exact Or.inr (by omega)
 ·show (f.arcs.map _).length <= 3000
  rw [List.length_map]
  exact h.many
 ·intro a ha
  obtain ⟨b,hb,rfl⟩:=List.mem_map.1 ha
  exact ⟨(h.arcs b hb).1,(h.arcs b hb).2.1,hg b hb⟩
theorem edT_inv {f : FstD} {N s0 : Nat} (h : OkF f N s0) {c y : List Int} (hi : Inv (edT f) f.final c y) : c.length = N /\ ∀ v,-1 <= gI c v /\ gI c v <= 2010000000000000 :=
 ⟨by rw [hi.len,h.len],fun v => ⟨hi.lo v,hi.top (by rw [h.len]; exact h.n2) v⟩⟩
theorem movF_bounds {fin ah : List Int} (hf : ∀ x ∈ fin,x = -1 \/ (0 <= x /\ x <= 4000000000000)) (ha : ∀ v,-1 <= gI ah v /\ gI ah v <= 4000000000000) (k v : Nat) : -10000000000000 <= gI (movF fin ah k) v /\ gI (movF fin ah k) v <= 10000000000000:=by
 by_cases hv : v < fin.length
 ·rw [movF_at fin ah k hv]
  have h1:=gI_of fin (fun x => x = -1 \/ (0 <= x /\ x <= 4000000000000)) hf (Or.inl rfl) v
  have h2:=ha v
  split
  ·split <;> omega
  ·omega
 ·have : gI (movF fin ah k) v = -1:=by unfold gI; simp [List.getD,movF,hv]
  omega
set_option maxHeartbeats 3200000 in
theorem early_some (f : FstD) (N s0 : Nat) (fin : Value) (aa : Option Addr) (m ac : Nat) (w : World) (hok : OkF f N s0) (hf : ISlice w fin f.final) (ha : ASlice w (.slice aa m ac) f.arcs) (hal : f.arcs.length = m) (hall : gI (toD f) s0 ≠ -1) (hg : ∀ a ∈ f.arcs,0 <= (movA (toD f) a).wt /\ (movA (toD f) a).wt <= 10000000000000) (hah : ∀ s,gI (toD f) s <= 4000000000000) (hbk : ∀ s,gI (toD (backF f)) s <= 4000000000000) (hfi : ∀ x ∈ f.final,x = -1 \/ (0 <= x /\ x <= 4000000000000)) :
  Calls Try.prog 32 #[.agg #[.int .i64 (N : Int),.int .i64 (s0 : Int),fin,.slice aa m ac]] w fun e w' => MovOk w N s0 m (earlyD f) e w':=by
 obtain ⟨fa,fn,fc,rfl,_,_⟩:=hf.lenOf
 obtain ⟨fb,fo,rfl,rfl,hx⟩:=final_at hok hf
 have HOK : Hid (OkF f fn s0):=hok
 have HOK2 : Hid (OkF (backF f) fn s0):=backF_ok hok hg
 have HG : Hid (∀ a ∈ f.arcs,0 <= (movA (toD f) a).wt /\ (movA (toD f) a).wt <= 10000000000000):=hg
 have HALL : Hid (gI (toD f) s0 ≠ -1):=hall
 have HAH : Hid (∀ s,gI (toD f) s <= 4000000000000):=hah
 have HBK : Hid (∀ s,gI (toD (backF f)) s <= 4000000000000):=hbk
 have HFI : Hid (∀ x ∈ f.final,x = -1 \/ (0 <= x /\ x <= 4000000000000)):=hfi
 clear hah hbk hfi
 have hn1:=hok.n1
 have hn2:=hok.n2
 have hm:=hok.many
 have hs:=hok.s
 have hsi : (s0 : Int) < fn:=by omega
 obtain ⟨A1,hA1⟩ : ∃ W,W = w.alloc (.cells #[.int .i64 (fn : Int),.int .i64 (s0 : Int),.slice (some ⟨fb,fo,none⟩) fn fc,.slice aa m ac] 25):=⟨_,rfl⟩
 have hRA : RW w A1 fn (s0 : Int) (.slice (some ⟨fb,fo,none⟩) fn fc) (.slice aa m ac):=by rw [hA1]; exact ⟨cellsF_new _ _ _ _ _ _,bel_up (bel_self w) _⟩
 have s1 : A1.heap.size = w.heap.size + 1:=by rw [hA1]; exact one_size _ _
 obtain ⟨A2,hA2⟩ : ∃ W,W = A1.alloc (.cells #[.int .i64 0,.int .i64 0,.slice none 0 0,.slice none 0 0] 25):=⟨_,rfl⟩
 have hz2 : ZBlock A2 (w.heap.size + 1):=by unfold ZBlock; rw [hA2,<- s1]; exact heap_alloc_new A1 _
 have hR2 : RW w A2 fn (s0 : Int) (.slice (some ⟨fb,fo,none⟩) fn fc) (.slice aa m ac):=hRA.below (by rw [hA2]; exact bel_up (bel_self _) _)
 have s2 : A2.heap.size = w.heap.size + 2:=by rw [hA2,one_size,s1]
 have HW : Hid (A2 = (w.alloc (.cells #[.int .i64 (fn : Int),.int .i64 (s0 : Int),.slice (some ⟨fb,fo,none⟩) fn fc,.slice aa m ac] 25)).alloc (.cells #[.int .i64 0,.int .i64 0,.slice none 0 0,.slice none 0 0] 25)):=by rw [<- hA1]; exact hA2
 have hcos:=costs_some ArcD.dst ArcD.src 66 goE1 early1_ends f.final fb fo fc fn aa m ac f.arcs A2 (hx.below hR2.bel) (ha.below hR2.bel) hal (by omega) hn1 hn2 hok.bT.1 hok.bT.2 (ok_dst hok)
 rw [HW.out] at hcos
 have HIN : Hid (∀ W : World,Below w.heap.size w W -> ISlice W (.slice (some ⟨fb,fo,none⟩) fn fc) f.final /\ ASlice W (.slice aa m ac) f.arcs):=fun W h => ⟨hf.below h,ha.below h⟩
 have HL : Hid (f.arcs.length = m):=hal
 clear hA1 hA2 hRA s1 hf ha hx hok hg hall hal
 go_enter Try.func32,Try.ntmps32
 go_wp2_with (go_at_call 65; refine hcos.mono ?_; rintro e w3 ⟨gc,gy,c,y,cc,cy,rfl,hcw,hfix⟩; rw [<- HW.out] at hcw; clear hcos; obtain ⟨hclen,hcb⟩:=edT_inv HOK.out hcw.inv; obtain rfl : c = toD f:=HOK.out.toD hcw.inv hfix; replace hcb : ∀ v,-1 <= gI (toD f) v /\ gI (toD f) v <= 4000000000000:=fun v => ⟨(hcb v).1,HAH.out v⟩; clear hfix; have hR3:=hR2.below hcw.bel; have hz3:=heap_bel hcw.bel hz2; have hlc:=hcw.lc; have hrc:=hcw.rc; have hb3:=hcw.bel; clear hcw hR2 hz2; have q0:=hR3.cf.1; have q1:=hR3.cf.2.1; have q2:=hR3.cf.2.2.1; have q3:=hR3.cf.2.2.2; obtain ⟨al,hal⟩ : ∃ x,x = gI (toD f) s0:=⟨_,rfl⟩; have qs:=hrc.cell s0 hs; rw [<- hal] at qs; have hab : (al == -1) = false:=(by have:=HALL.out; rw [<- hal] at this; simpa using this); have HAL : Hid (al = gI (toD f) s0):=hal; clear hal)
 refine (moved_ok f fn s0 m (toD f) _ _ _ w3 HOK.out.st HOK.out.sta hn1 (by omega) HOK.out.len hclen HL.out (by have:=HL.out; omega) (fun a h => ⟨(HOK.out.arcs a h).1,(HOK.out.arcs a h).2.1⟩) (fun s => by have:=gI_of f.final (fun x => x = -1 \/ (0 <= x /\ x <= 10000000000000)) HOK.out.fin (Or.inl rfl) s; omega) (fun a h => by have:=(HOK.out.arcs a h).2.2; omega) (fun s => by have:=hcb s; omega) (HIN.out w3 hR3.bel).1 (HIN.out w3 hR3.bel).2 (hrc.slice cc (by unfold maxLen; omega))).mono ?_
 rintro e w4 ⟨g1,c1,ba,bc,rfl,hn4,hg4,ha4,hb4⟩
 have HC : Hid (∀ W : World,Below w4.heap.size w4 W -> RW w W fn (s0 : Int) (.slice (some ⟨fb,fo,none⟩) fn fc) (.slice aa m ac) /\ ZBlock W (w.heap.size + 1) /\ NumsAt W g1 fn (movD f (toD f)).final /\ ArcsB w3.heap.size W ba m (movD f (toD f)).arcs /\ NumsAt W gc fn (toD f)):=fun W h => ⟨(hR3.below hb4).below h,heap_bel h (heap_bel hb4 hz3),hn4.below h,ha4.below h,(hrc.below hb4).below h⟩
 have hgl:=hrc.lt
 have HS : Hid (w.heap.size + 1 < gc /\ gc < w3.heap.size /\ w3.heap.size <= g1 /\ w3.heap.size <= w4.heap.size):=⟨by omega,hgl,hg4,hb4.size⟩
 clear hR3 hz3 hn4 ha4 hb4 hrc q0 q1 q2 q3 qs hlc hb3 hgl hg4
 obtain ⟨w5,hw5⟩ : ∃ W,W = w4.alloc (.cells #[.int .i64 (fn : Int),.int .i64 (s0 : Int),.slice (some ⟨g1,0,none⟩) fn c1,.slice ba m bc] 25):=⟨_,rfl⟩
 have hb5 : Below w4.heap.size w4 w5:=by rw [hw5]; exact bel_up (bel_self w4) _
 have hG5 : CellsF w5 w4.heap.size (fn : Int) (s0 : Int) (.slice (some ⟨g1,0,none⟩) fn c1) (.slice ba m bc):=by rw [hw5]; exact cellsF_new _ _ _ _ _ _
 have HW5 : Hid (w5 = w4.alloc (.cells #[.int .i64 (fn : Int),.int .i64 (s0 : Int),.slice (some ⟨g1,0,none⟩) fn c1,.slice ba m bc] 25)):=hw5
 clear hw5
 go_wp2
 rw [<- HW5.out]
 clear HW5
 have HBF : Hid ((backF f).final = begL (s0 : Int) fn):=by
  show begL f.start f.states.toNat = begL (s0 : Int) fn
  rw [HOK.out.sta,HOK.out.st,Int.toNat_natCast]
 have hR5:=(HC.out w5 hb5).1
 have q0:=hR5.cf.1
 have q1:=hR5.cf.2.1
 have q3:=hG5.2.2.2
 have hco2 : ∀ (W : World) (G : Nat),Below w5.heap.size w5 W -> IntsAt W G 0 fn (begL (s0 : Int) fn) -> Calls Try.prog 65 #[.slice (some ⟨G,0,none⟩) fn fn,.slice ba m bc,.func (.func 68) #[] #[]] W fun e w' => CostsRes W fn (edT (backF f)) (begL (s0 : Int) fn) e w':=fun W G hW hG => costs_some ArcD.dst ArcD.src 68 goE2 early2_ends (begL (s0 : Int) fn) G 0 fn fn ba m bc (movD f (toD f)).arcs W hG ((HC.out W (bel_on hb5 hW)).2.2.2.1.slice bc) (HC.out w5 hb5).2.2.2.1.len (by have:=HL.out; omega) hn1 hn2 HOK.out.bF.1 HOK.out.bF.2 (ok_dst (f:=backF f) HOK2.out)
 go_region_held3 (fun wx => wx.cell? ⟨w.heap.size,0,none⟩ = some (.int .i64 (fn : Int)) /\ wx.cell? ⟨w.heap.size,1,none⟩ = some (.int .i64 (s0 : Int)) /\ wx.cell? ⟨w4.heap.size,3,none⟩ = some (.slice ba m bc))
  (first | exact ⟨drew_cell q0,drew_cell q1,drew_cell q3⟩ | exact ⟨bel_c hb6 (drew_cell q0),bel_c hb6 (drew_cell q1),bel_c hb6 (drew_cell q3)⟩ | exact ⟨bel_c hb7 (bel_c hb6 (drew_cell q0)),bel_c hb7 (bel_c hb6 (drew_cell q1)),bel_c hb7 (bel_c hb6 (drew_cell q3))⟩)
  (first | (go_at_call 60; refine (only_beg fn s0 _ hn1 hn2 hs).mono ?_; rintro e w6 ⟨G,rfl,hG,hb6⟩) | (go_at_call 65; refine (hco2 w6 G (bel_on (bel_self w5).drew hb6) hG).mono ?_; rintro e w7 ⟨gk,gy2,c2,y2,cc2,cy2,rfl,hcw,hfix⟩; have hb7:=hcw.bel))
 have hb57 : Below w5.heap.size w5 w7:=bel_on (bel_on (bel_self w5).drew hb6) hb7
 have hsz56:=(bel_on (bel_self w5).drew hb6).size
 have hsz45:=hb5.size
 have hi2 : Inv (edT (backF f)) (backF f).final c2 y2:=by rw [HBF.out]; exact hcw.inv
 obtain ⟨hklen,hkb⟩:=edT_inv HOK2.out hi2
 obtain rfl : c2 = toD (backF f):=HOK2.out.toD hi2 hfix
 replace hkb : ∀ v,-1 <= gI (toD (backF f)) v /\ gI (toD (backF f)) v <= 4000000000000:=fun v => ⟨(hkb v).1,HBK.out v⟩
 have hlk:=hcw.lc
 have hbb:=bel_on hb5 hb57
 have hh:=HC.out w7 hbb
 have hS:=HS.out
 have hEL : EL w w7 fn s0 (.slice (some ⟨fb,fo,none⟩) fn fc) (.slice aa m ac) gc w4.heap.size g1 c1 ba m bc gk (movD f (toD f)) (ahD (toD f) (toD (backF f)) al 0) (toD (backF f)):=by
  rw [ahD_zero]
  exact ⟨hh.1,hh.2.1,hG5.below hb57,hh.2.2.1,hh.2.2.2.1.mono (by omega),hh.2.2.2.2,hcw.rc,by omega,by omega,by omega,by omega⟩
 clear hco2 hcw hfix hi2 hb6 hb7 hb57 hb5 hG5 hR5 q0 q1 q3 hlk hbb hh hG hsz56 hsz45
 go_wp2
 go_loopw [9,10,47] (fun _ _ t47 wx => ∃ s : Nat,s <= fn /\ t47 = .int .i64 (s : Int) /\ EL w wx fn s0 (.slice (some ⟨fb,fo,none⟩) fn fc) (.slice aa m ac) gc w4.heap.size g1 c1 ba m bc gk (movD f (toD f)) (ahD (toD f) (toD (backF f)) al s) (toD (backF f))) (fun _ _ t47 _ => fn - (intOf t47).toNat)
 case atStart => exact ⟨0,Nat.zero_le _,rfl,hEL⟩
 case round =>
  clear hEL
  obtain ⟨s,hsn,rfl,hM⟩:=hrel
  have hsw : IntKind.i64.wrap ((s : Int) + 1) = (s : Int) + 1:=wrap_in _ (by omega) (by omega)
  by_cases hlt : s < fn
  ·have hsl : (s : Int) < fn:=by omega
   have b0:=hM.bk.cell s hlt
   have a0':=hM.ah.cell s hlt
   have hfz:=hM.ah.frz s
   have hb1:=hkb s
   have hb2:=hcb s0
   obtain ⟨x,hx⟩ : ∃ x,x = gI (toD (backF f)) s:=⟨_,rfl⟩
   rw [<- hx] at b0 hb1
   rw [<- HAL.out] at hb2
   have hle : ∀ W,Calls Try.prog 69 #[.int .i64 x,.int .i64 al] W fun e w' => e = .returned (.bool (betterB x al)) /\ w' = W:=fun W => lessP_any x al W
   have hw1 : IntKind.i64.wrap (x - al) = x - al:=wrap_in _ (by omega) (by omega)
   have hM1:=hM.set (x:=0) hlt
   have a1:=World.cell?_setCell_same wr ⟨gc,s,none⟩ (.int .i64 0) a0'
   have hfz1:=hM1.ah.frz s
   cases hbt : betterB x al with
   | false =>
    have HREL : Hid (EL w (wr.setCell ⟨gc,s,none⟩ (.int .i64 0)) fn s0 (.slice (some ⟨fb,fo,none⟩) fn fc) (.slice aa m ac) gc w4.heap.size g1 c1 ba m bc gk (movD f (toD f)) (ahD (toD f) (toD (backF f)) al (s + 1)) (toD (backF f))):=by rw [ahD_succ,<- hx,hbt,if_neg Bool.false_ne_true]; exact hM1
    rw [hbt] at hle
    clear hM hM1 hx hbt
    go_wp2_with (go_at_call 69; refine (hle _).mono ?_; rintro e w2 ⟨rfl,hw2⟩; obtain rfl:=hw2.symm)
    go_roundw
    case rel => exact ⟨s + 1,by omega,by go_num,HREL.out⟩
    case measure => simp [intOf]; omega
   | true =>
    have HREL : Hid (EL w ((wr.setCell ⟨gc,s,none⟩ (.int .i64 0)).setCell ⟨gc,s,none⟩ (.int .i64 (x - al))) fn s0 (.slice (some ⟨fb,fo,none⟩) fn fc) (.slice aa m ac) gc w4.heap.size g1 c1 ba m bc gk (movD f (toD f)) (ahD (toD f) (toD (backF f)) al (s + 1)) (toD (backF f))):=by
     have h:=hM1.set (x:=x - al) hlt
     rw [List.set_set] at h
     rw [ahD_succ,<- hx,hbt,if_pos rfl]
     exact h
    rw [hbt] at hle
    clear hM hM1 hx hbt
    go_wp2_with (go_at_call 69; refine (hle _).mono ?_; rintro e w2 ⟨rfl,hw2⟩; obtain rfl:=hw2.symm)
    go_roundw
    case rel => exact ⟨s + 1,by omega,by go_num,HREL.out⟩
    case measure => simp [intOf]; omega
  ·obtain rfl : fn = s:=by omega
   have hsl : ¬ (fn : Int) < fn:=by omega
   obtain ⟨q0,q1,q2,q3⟩:=hM.cg
   have hlen2 : (ahD (toD f) (toD (backF f)) al fn).length = fn:=by rw [ahD_len,hclen]
   have hmo:=moved_ok (movD f (toD f)) fn s0 m (ahD (toD f) (toD (backF f)) al fn) (.slice (some ⟨g1,0,none⟩) fn c1) (.slice ba m bc) (.slice (some ⟨gc,0,none⟩) fn cc) wr HOK.out.st HOK.out.sta hn1 (by omega) ((movF_len _ _ _).trans HOK.out.len) hlen2 hM.arr.len (by have:=HL.out; omega) (fun a h => by obtain ⟨b,hb,rfl⟩:=List.mem_map.1 h; exact ⟨(HOK.out.arcs b hb).1,(HOK.out.arcs b hb).2.1⟩) (movF_bounds HFI.out hcb _) (fun a h => by obtain ⟨b,hb,rfl⟩:=List.mem_map.1 h; have:=HG.out b hb; omega) (fun v => by
    by_cases hv : v < fn
    ·rw [ahD_at _ _ _ _ (by omega),if_pos hv]
     have h1:=hkb v
     have h2:=hcb s0
     rw [<- HAL.out] at h2
     split <;> omega
    ·have : gI (ahD (toD f) (toD (backF f)) al fn) v = -1:=by unfold gI; simp [List.getD,show (ahD (toD f) (toD (backF f)) al fn).length <= v by omega]
     omega) (hM.nums.slice c1 (by unfold maxLen; omega)) (hM.arr.slice bc) (hM.ah.slice cc (by unfold maxLen; omega))
   have HE : Hid (movD (movD f (toD f)) (ahD (toD f) (toD (backF f)) al fn) = earlyD f):=by
    show movD (movD f (toD f)) (ahD (toD f) (toD (backF f)) al fn) = movD (movD f (toD f)) (ahD (toD f) (toD (backF f)) (gI (toD f) f.start.toNat) f.states.toNat)
    rw [HOK.out.sta,HOK.out.st,Int.toNat_natCast,Int.toNat_natCast,<- HAL.out]
   have hbw:=hM.rw.bel
   have hres:=hM.res
   clear hM
   go_wp2_with (go_at_call 67; refine hmo.mono ?_; rintro e w9 ⟨g9,c9,ba9,bc9,rfl,hn9,hg9,ha9,hb9⟩; clear hmo; have hz9:=heap_bel hb9 hres; obtain ⟨z0,z1,z2,z3,y0,y1,y2,y3⟩:=zfacts hz9; obtain ⟨r0,r1,r2,r3⟩:=set4_cells z0 z1 z2 z3 (fn : Int) (s0 : Int) (.slice (some ⟨g9,0,none⟩) fn c9) (.slice ba9 m bc9))
   have hzl:=heap_lt hres
   have hne : g9 ≠ w.heap.size + 1:=by omega
   rw [HE.out] at hn9 ha9
   have hszw:=hbw.size
   exact bodyPost_ret (v:=.agg #[.int .i64 (fn : Int),.int .i64 (s0 : Int),.slice (some ⟨g9,0,none⟩) fn c9,.slice ba9 m bc9]) (by simp [results,Try.results32,go_sem, *]) rfl ⟨g9,c9,ba9,bc9,rfl,(((hn9.other hne).other hne).other hne).other hne,by omega,((((ha9.set hzl).set hzl).set hzl).set hzl).mono hszw,bel_set4 (bel_on hbw hb9) (by omega) _ _ _ _⟩
end Go.Proofs.Yteehgcbjmdideab.Bg
/- 'Early' of package oneway,where no word costs anything: nothing is moved. -/
namespace Go.Proofs.Yteehgcbjmdideab.Bg
open Go.RowKit
attribute [local go_sem ↓] Go.wp_at_zero Go.wp_at_succ
set_option maxHeartbeats 3200000 in
theorem early_none (f : FstD) (N s0 : Nat) (fin : Value) (aa : Option Addr) (m ac : Nat) (w : World) (hok : OkF f N s0) (hf : ISlice w fin f.final) (ha : ASlice w (.slice aa m ac) f.arcs) (hal : f.arcs.length = m) (hall : gI (toD f) s0 = -1) (hfi : ∀ x ∈ f.final,x = -1 \/ (0 <= x /\ x <= 4000000000000)) :
  Calls Try.prog 32 #[.agg #[.int .i64 (N : Int),.int .i64 (s0 : Int),fin,.slice aa m ac]] w fun e w' => MovOk w N s0 m (movD f (List.replicate N 0)) e w':=by
 obtain ⟨fa,fn,fc,rfl,_,_⟩:=hf.lenOf
 obtain ⟨fb,fo,rfl,rfl,hx⟩:=final_at hok hf
 have HOK : Hid (OkF f fn s0):=hok
 have HALL : Hid (gI (toD f) s0 = -1):=hall
 have HFI : Hid (∀ x ∈ f.final,x = -1 \/ (0 <= x /\ x <= 4000000000000)):=hfi
 have hn1:=hok.n1
 have hn2:=hok.n2
 have hm:=hok.many
 have hs:=hok.s
 have hsi : (s0 : Int) < fn:=by omega
 obtain ⟨A1,hA1⟩ : ∃ W,W = w.alloc (.cells #[.int .i64 (fn : Int),.int .i64 (s0 : Int),.slice (some ⟨fb,fo,none⟩) fn fc,.slice aa m ac] 25):=⟨_,rfl⟩
 have hRA : RW w A1 fn (s0 : Int) (.slice (some ⟨fb,fo,none⟩) fn fc) (.slice aa m ac):=by rw [hA1]; exact ⟨cellsF_new _ _ _ _ _ _,bel_up (bel_self w) _⟩
 have s1 : A1.heap.size = w.heap.size + 1:=by rw [hA1]; exact one_size _ _
 obtain ⟨A2,hA2⟩ : ∃ W,W = A1.alloc (.cells #[.int .i64 0,.int .i64 0,.slice none 0 0,.slice none 0 0] 25):=⟨_,rfl⟩
 have hz2 : ZBlock A2 (w.heap.size + 1):=by unfold ZBlock; rw [hA2,<- s1]; exact heap_alloc_new A1 _
 have hR2 : RW w A2 fn (s0 : Int) (.slice (some ⟨fb,fo,none⟩) fn fc) (.slice aa m ac):=hRA.below (by rw [hA2]; exact bel_up (bel_self _) _)
 have s2 : A2.heap.size = w.heap.size + 2:=by rw [hA2,one_size,s1]
 have HW : Hid (A2 = (w.alloc (.cells #[.int .i64 (fn : Int),.int .i64 (s0 : Int),.slice (some ⟨fb,fo,none⟩) fn fc,.slice aa m ac] 25)).alloc (.cells #[.int .i64 0,.int .i64 0,.slice none 0 0,.slice none 0 0] 25)):=by rw [<- hA1]; exact hA2
 have hcos:=costs_some ArcD.dst ArcD.src 66 goE1 early1_ends f.final fb fo fc fn aa m ac f.arcs A2 (hx.below hR2.bel) (ha.below hR2.bel) hal (by omega) hn1 hn2 hok.bT.1 hok.bT.2 (ok_dst hok)
 rw [HW.out] at hcos
 have HIN : Hid (∀ W : World,Below w.heap.size w W -> ISlice W (.slice (some ⟨fb,fo,none⟩) fn fc) f.final /\ ASlice W (.slice aa m ac) f.arcs):=fun W h => ⟨hf.below h,ha.below h⟩
 have HL : Hid (f.arcs.length = m):=hal
 have hmk:=run_make_row' (P:=Try.prog) 22 3 (.int .i64 0) 8 Try.underlying22 Try.info3 rfl .i64 .i64 fn (by omega) (by omega)
 clear hA1 hA2 hRA s1 hf ha hx hok hall hal hfi
 go_enter Try.func32,Try.ntmps32
 go_wp2_with (go_at_call 65; refine hcos.mono ?_; rintro e w3 ⟨gc,gy,c,y,cc,cy,rfl,hcw,hfix⟩; rw [<- HW.out] at hcw; clear hcos; obtain ⟨hclen,hcb⟩:=edT_inv HOK.out hcw.inv; obtain rfl : c = toD f:=HOK.out.toD hcw.inv hfix; clear hfix; have hR3:=hR2.below hcw.bel; have hz3:=heap_bel hcw.bel hz2; have hrc:=hcw.rc; have hb3:=hcw.bel; clear hcw hR2 hz2; have q0:=hR3.cf.1; have q1:=hR3.cf.2.1; have q2:=hR3.cf.2.2.1; have q3:=hR3.cf.2.2.2; have qs:=hrc.cell s0 hs; rw [HALL.out] at qs)
 have HSZ : Hid (w.heap.size + 1 < w3.heap.size):=heap_lt hz3
 have HIW : Hid (∀ W : World,Below w3.heap.size w3 W -> ISlice W (.slice (some ⟨fb,fo,none⟩) fn fc) f.final /\ ASlice W (.slice aa m ac) f.arcs):=fun W h => HIN.out W (bel_on hR3.bel h)
 have hbw:=hR3.bel
 have hbd:=(bel_self w3).drew
 obtain ⟨Wd,hWd⟩ : ∃ Wd,Wd = w3.drew:=⟨_,rfl⟩
 rw [<- hWd] at hbd
 have hzd:=heap_bel hbd hz3
 have hRd:=hR3.below hbd
 obtain ⟨p0,p1,p2,p3⟩:=hRd.cf
 have hS0 : (fun wx : World => wx.cell? ⟨w.heap.size,0,none⟩ = some (.int .i64 (fn : Int)) /\ wx.cell? ⟨w.heap.size,1,none⟩ = some (.int .i64 (s0 : Int)) /\ wx.cell? ⟨w.heap.size,2,none⟩ = some (.slice (some ⟨fb,fo,none⟩) fn fc) /\ wx.cell? ⟨w.heap.size,3,none⟩ = some (.slice aa m ac)) Wd:=⟨p0,p1,p2,p3⟩
 clear q0 q1 q2 q3 qs hrc p0 p1 p2 p3 hR3 hz3 hb3 hcb
 refine wp_region_noPanic ?_
 refine wp_region_U (fun wx => wx.cell? ⟨w.heap.size,0,none⟩ = some (.int .i64 (fn : Int)) /\ wx.cell? ⟨w.heap.size,1,none⟩ = some (.int .i64 (s0 : Int)) /\ wx.cell? ⟨w.heap.size,2,none⟩ = some (.slice (some ⟨fb,fo,none⟩) fn fc) /\ wx.cell? ⟨w.heap.size,3,none⟩ = some (.slice aa m ac)) 5 (by kernel_rfl) (by rw [<- hWd]; exact hS0) (fun _ => ?_)
 rw [<- hWd]
 clear hWd
 refine tkU (i:=0) (v:=.agg #[.int .i64 (fn : Int),.int .i64 (s0 : Int),.slice (some ⟨fb,fo,none⟩) fn fc,.slice aa m ac]) rfl (by kernel_rfl) (fun _ _ _ h => h) (by rfl) hS0 (fun wl hSw => ?_) ?_
 ·(try dsimp only at hSw); obtain ⟨u0,u1,u2,u3⟩:=hSw; go_simp
 refine tkU (i:=1) (v:=.pointer (some ⟨w.heap.size,0,none⟩)) rfl (by kernel_rfl) (fun _ _ _ h => h) (by rfl) hS0 (fun wl hSw => ?_) ?_
 ·(try dsimp only at hSw); go_simp
 refine tkU (i:=2) (v:=.int .i64 (fn : Int)) rfl (by kernel_rfl) (fun _ _ _ h => h) (by rfl) hS0 (fun wl hSw => ?_) ?_
 ·(try dsimp only at hSw); go_simp
 refine wpAnyU_one (i:=3) rfl (by kernel_rfl) (fun K hK => ?_)
 go_simp
 obtain ⟨W4,hW4⟩ : ∃ W,W = Wd.alloc (.cells (madeCells #[.int .i64 0] fn) 3):=⟨_,rfl⟩
 have hb4 : Below Wd.heap.size Wd W4:=by rw [hW4]; exact bel_up (bel_self Wd) _
 have hN4 : NumsAt W4 Wd.heap.size fn (List.replicate fn 0):=by rw [hW4]; exact made_zero Wd fn
 have hS4 : (fun wx : World => wx.cell? ⟨w.heap.size,0,none⟩ = some (.int .i64 (fn : Int)) /\ wx.cell? ⟨w.heap.size,1,none⟩ = some (.int .i64 (s0 : Int)) /\ wx.cell? ⟨w.heap.size,2,none⟩ = some (.slice (some ⟨fb,fo,none⟩) fn fc) /\ wx.cell? ⟨w.heap.size,3,none⟩ = some (.slice aa m ac)) W4:=⟨bel_c hb4 hS0.1,bel_c hb4 hS0.2.1,bel_c hb4 hS0.2.2.1,bel_c hb4 hS0.2.2.2⟩
 rw [<- hW4]
 refine hK.out _ _ ⟨fun _ => hS4,?_⟩
 clear hK K hmk hW4
 have HZ : Hid (∀ s,gI (List.replicate fn (0 : Int)) s = 0 \/ gI (List.replicate fn (0 : Int)) s = -1):=fun s => by
  by_cases e : s < fn
  ·left; unfold gI; simp [List.getD,e]
  ·right; exact gI_out (by simpa using e)
 have hmo:=moved_ok f fn s0 m (List.replicate fn 0) (.slice (some ⟨fb,fo,none⟩) fn fc) (.slice aa m ac) (.slice (some ⟨Wd.heap.size,0,none⟩) fn fn) W4 HOK.out.st HOK.out.sta hn1 (by omega) HOK.out.len (by simp) HL.out (by have:=HL.out; omega) (fun a h => ⟨(HOK.out.arcs a h).1,(HOK.out.arcs a h).2.1⟩) (fun s => by have:=gI_of f.final (fun x => x = -1 \/ (0 <= x /\ x <= 4000000000000)) HFI.out (Or.inl rfl) s; omega) (fun a h => by have:=(HOK.out.arcs a h).2.2; omega) (fun s => by have:=HZ.out s; omega) (HIW.out W4 (bel_on hbd hb4)).1 (HIW.out W4 (bel_on hbd hb4)).2 (hN4.slice fn (by unfold maxLen; omega))
 refine wpAnyU_one (i:=4) rfl (by kernel_rfl) (fun K hK => ?_)
 go_simp
 refine hmo.mono ?_
 rintro e w9 ⟨g9,c9,ba9,bc9,rfl,hn9,hg9,ha9,hb9⟩
 have hS9 : (fun wx : World => wx.cell? ⟨w.heap.size,0,none⟩ = some (.int .i64 (fn : Int)) /\ wx.cell? ⟨w.heap.size,1,none⟩ = some (.int .i64 (s0 : Int)) /\ wx.cell? ⟨w.heap.size,2,none⟩ = some (.slice (some ⟨fb,fo,none⟩) fn fc) /\ wx.cell? ⟨w.heap.size,3,none⟩ = some (.slice aa m ac)) w9:=⟨bel_c hb9 hS4.1,bel_c hb9 hS4.2.1,bel_c hb9 hS4.2.2.1,bel_c hb9 hS4.2.2.2⟩
 refine hK.out _ _ ⟨fun _ => hS9,?_⟩
 clear hK K hmo
 have hz9:=heap_bel hb9 (heap_bel hb4 hzd)
 obtain ⟨z0,z1,z2,z3,y0,y1,y2,y3⟩:=zfacts hz9
 obtain ⟨r0,r1,r2,r3⟩:=set4_cells z0 z1 z2 z3 (fn : Int) (s0 : Int) (.slice (some ⟨g9,0,none⟩) fn c9) (.slice ba9 m bc9)
 refine wpAnyU_one (i:=5) rfl (by kernel_rfl) (fun K hK => ?_)
 go_simp
 refine hK.out _ _ ⟨fun h => absurd rfl h,?_⟩
 clear hK K
 refine wpAnyU_done (by kernel_rfl) ?_ _
 refine NoPanic.normal ?_
 go_wp2
 have hsd:=hbd.size
 have hs4:=hb4.size
 have hS:=HSZ.out
 have hne : g9 ≠ w.heap.size + 1:=by omega
 have hszw:=hbw.size
 have hR : w.heap.size + 1 < W4.heap.size:=by omega
 exact bodyPost_ret (v:=.agg #[.int .i64 (fn : Int),.int .i64 (s0 : Int),.slice (some ⟨g9,0,none⟩) fn c9,.slice ba9 m bc9]) (by simp [results,Try.results32,go_sem, *]) rfl ⟨g9,c9,ba9,bc9,rfl,(((hn9.other hne).other hne).other hne).other hne,by omega,((((ha9.set hR).set hR).set hR).set hR).mono (by omega),bel_set4 (bel_on (bel_on (bel_on hbw hbd) hb4) hb9) (by omega) _ _ _ _⟩
end Go.Proofs.Yteehgcbjmdideab.Bg
/- 'meet' of package fst's 'reach': a state is met once,and lies open then. -/
namespace Go.Proofs.Yteehgcbjmdideab.Sc
open Go.RowKit Go.Maps
attribute [local go_sem ↓] Go.wp_at_zero Go.wp_at_succ
theorem keyI : Keyed Try.prog 3:=int_keyed Try.underlying3
theorem zeroU (w : World) : (zeroValue 106).run Try.prog w = .ok (.agg #[]) w:=by kernel_rfl
theorem zeroI (w : World) : (zeroValue 3).run Try.prog w = .ok (.int .i64 0) w:=by kernel_rfl
theorem zeroS (w : World) : (zeroValue 22).run Try.prog w = .ok (.slice none 0 0) w:=by kernel_rfl
theorem infoInt : (Try.prog.info? 3).map (fun i => (i.zero,i.size,i.bytes)) = some (some (.int .i64 0),1,8):=by kernel_rfl
theorem wfN (x : Nat) (h : x <= 1000000) : (Lit.int .i64 (x : Int)).wf = true:=WalkArith.wf_i64 (by omega)
theorem keyN (x : Nat) (h : x <= 1000000) : keyOf Try.prog 3 (.int .i64 (x : Int)) = some (.int .i64 (x : Int)):=keyOf_int_mk Try.underlying3 (wfN x h)
def natI (l : List Nat) : List Int:=l.map (fun n : Nat => (n : Int))
def SetAt (w : World) (B n : Nat) (M : Nat -> Bool) : Prop:=∃ D : DataW Unit,w.ownsMap Try.prog 3 unitElem B n D /\ ∀ x : Nat,Maps.has D (.int .i64 (x : Int)) = M x
theorem bel_grown {w w' : World} (h : Below w.heap.size w w') : w.grownBy w' none:=⟨h.os,h.tape,h.output,h.size,fun k hk _ => h.block k hk⟩
theorem SetAt.below {w w' : World} {B n : Nat} {M : Nat -> Bool} (h : SetAt w B n M) (hb : Below w.heap.size w w') : SetAt w' B n M:=by
 obtain ⟨D,h1,h2⟩:=h
 exact ⟨D,h1.kept (bel_grown hb) (by simp),h2⟩
structure MS (w : World) (B n : Nat) (M : Nat -> Bool) (v : Value) (zs : List Nat) : Prop where
 met : w.cell? ⟨B + 1,0,none⟩ = some (.map (some B))
 opn : w.cell? ⟨B + 2,0,none⟩ = some v
 row : w.ownsInts (B + 3) 3 .i64 v (natI zs)
 frz : w.frozen? ⟨B + 2,0,none⟩ = false
 set : SetAt w B n M
 size : B + 3 <= w.heap.size
theorem MS.below {w w' : World} {B n : Nat} {M : Nat -> Bool} {v : Value} {zs : List Nat} (h : MS w B n M v zs) (hb : Below w.heap.size w w') : MS w' B n M v zs :=
 ⟨bel_c hb h.met,bel_c hb h.opn,h.row.kept (bel_grown hb) (by cases h1 : v.ownBlock <;> simp),(hb.frozen (p:=⟨B + 2,0,none⟩) (by have:=h.size; show B + 2 < _; omega)).trans h.frz,h.set.below hb,Nat.le_trans h.size hb.size⟩
def meetM (M : Nat -> Bool) (x : Nat) : Nat -> Bool:=if M x then M else fun y => M y || decide (y = x)
def meetN (M : Nat -> Bool) (x n : Nat) : Nat:=if M x then n else n + 1
def meetZ (M : Nat -> Bool) (x : Nat) (zs : List Nat) : List Nat:=if M x then zs else zs ++ [x]
theorem natI_snoc (zs : List Nat) (x : Nat) : natI (zs ++ [x]) = natI zs ++ [(x : Int)]:=by simp [natI]
theorem natI_len (zs : List Nat) : (natI zs).length = zs.length:=by simp [natI]
theorem isKeyI (x : Int) : WideAt.IsKeyLit (.int .i64 x):=by trivial
theorem grown_cell {w w' : World} {r : Nat} (h : w.grownBy w' (some r)) {b o : Nat} {u : Value} (hc : w.cell? ⟨b,o,none⟩ = some u) (hb : b ≠ r) : w'.cell? ⟨b,o,none⟩ = some u:=h.cell hc (by simpa using hb)
set_option maxHeartbeats 1000000 in
theorem meet_old (B n : Nat) (M : Nat -> Bool) (v : Value) (zs : List Nat) (x : Nat) (w : World) (h : MS w B n M v zs) (hx : x <= 1000) (hM : M x = true) :
  Calls Try.prog 107 #[.int .i64 (x : Int),.pointer (some ⟨B + 1,0,none⟩),.pointer (some ⟨B + 2,0,none⟩)] w fun e w' => e = .returned (.tuple #[]) /\ Below w.heap.size w w':=by
 obtain ⟨D,hD,hh⟩:=h.set
 have hm:=h.met
 have hxm:=hh x
 rw [hM] at hxm
 have hkey:=keyN x (by omega)
 go_enter Try.func107,Try.ntmps107
 go_wp2_with (first | (at_lookup; refine wpList_lookup_own_unit _ rfl _ _ 104 rfl 3 106 keyI Try.underlying104 (zeroU _) B n D rfl hD _ _ rfl hkey ?_; rw [hxm]))
 go_end0
 exact ⟨rfl,bel_up (bel_self _) _⟩
theorem has_put (D : DataW Unit) (hD : IsMap D) (x : Nat) (d : DataW Unit) (y : Nat) : Maps.has (D.put (.int .i64 (x : Int)) d) (.int .i64 (y : Int)) = (Maps.has D (.int .i64 (y : Int)) || decide (y = x)):=by
 by_cases e : y = x
 ·subst e; rw [has_put_same hD (isKeyI _)]; simp
 ·rw [has_put_other (by intro h; apply e; have:=(Lit.int.inj h).2; omega)]; simp [e]
theorem grown_frozen {w w' : World} {r : Option Nat} (h : w.grownBy w' r) {b o : Nat} (hb : b < w.heap.size) (hne : some b ≠ r) : w'.frozen? ⟨b,o,none⟩ = w.frozen? ⟨b,o,none⟩ :=
 World.frozen?_of_block (w:=w) (h.block b hb hne)
theorem grown_cell' {w w' : World} {r : Option Nat} (h : w.grownBy w' r) {b o : Nat} {u : Value} (hc : w.cell? ⟨b,o,none⟩ = some u) (hb : some b ≠ r) : w'.cell? ⟨b,o,none⟩ = some u:=h.cell hc hb
theorem old_frozen {w : World} {o : Obj} {b k : Nat} (hb : b < w.heap.size) : (w.alloc o).frozen? ⟨b,k,none⟩ = w.frozen? ⟨b,k,none⟩:=(bel_up (bel_self w) o).frozen (p:=⟨b,k,none⟩) hb
theorem row_ne {w : World} {base e : Nat} {v : Value} {zs : List Int} {k : Nat} (h : w.ownsInts base e .i64 v zs) (hk : k < base) : some k ≠ v.ownBlock:=fun e1 => by
 have:=(h.1.lt k e1.symm).1
 omega
theorem row_ne' {w : World} {base e : Nat} {v : Value} {zs : List Int} {k : Nat} (h : w.ownsInts base e .i64 v zs) (hk : k < base) : v.ownBlock = none \/ v.ownBlock ≠ some k:=Or.inr fun e1 => row_ne h hk e1.symm
structure M1 (w w1 : World) (B n : Nat) (D : DataW Unit) (v : Value) (zs : List Nat) : Prop where
 met : w1.cell? ⟨B + 1,0,none⟩ = some (.map (some B))
 opn : w1.cell? ⟨B + 2,0,none⟩ = some v
 row : w1.ownsInts (B + 3) 3 .i64 v (natI zs)
 frz : w1.frozen? ⟨B + 2,0,none⟩ = false
 own : w1.ownsMap Try.prog 3 unitElem B n D
 size : B + 3 <= w1.heap.size
 bel : Below B w w1
theorem M1.stored {w w1 : World} {B n n' : Nat} {D : DataW Unit} {M : Nat -> Bool} {v : Value} {zs : List Nat} (h : MS w B n M v zs) (o : Obj) (hD1 : w1.ownsMap Try.prog 3 unitElem B n' D) (hg : (w.alloc o).grownBy w1 (some B)) : M1 w w1 B n' D v zs:=by
 have hs:=h.size
 have hs1 : B + 3 <= (w.alloc o).heap.size:=by simp; omega
 exact ⟨grown_cell hg (old_cell h.met) (by omega),grown_cell hg (old_cell h.opn) (by omega),(h.row.alloc o).kept hg (row_ne' h.row (by omega)),by
  rw [grown_frozen hg (by omega) (by simp),old_frozen (by omega)]; exact h.frz,hD1,Nat.le_trans hs1 hg.size,((bel_up (bel_self w) o).mono (by omega)).grown hg (by omega) (fun k hk => by cases hk; omega)⟩
theorem cell_set {w : World} {a : Addr} {u : Value} (h : w.cell? a = some u) (v : Value) : (w.setCell a v).cell? a = some v:=by
 exact World.cell?_setCell_same _ _ _ h
theorem M1.appended {w w1 w2 : World} {B n : Nat} {D : DataW Unit} {v v' : Value} {zs : List Nat} {x : Nat} (h : M1 w w1 B n D v zs) (o : Obj) (hx : x <= 1000) (hg : (w1.alloc o).grownBy w2 v.ownBlock) (hown : w2.ownsRow (B + 3) 3 1 v' ((natI zs).length + 1) ((natI zs).map (Value.int .i64) ++ [.int .i64 (x : Int)])) :
  w2.cell? ⟨B + 2,0,none⟩ = some v /\ w2.frozen? ⟨B + 2,0,none⟩ = false /\ ∀ M,(∀ y : Nat,Maps.has D (.int .i64 (y : Int)) = M y) -> Below B w (w2.setCell ⟨B + 2,0,none⟩ v') /\ MS (w2.setCell ⟨B + 2,0,none⟩ v') B n M v' (zs ++ [x]):=by
 have hs:=h.size
 have hs1 : B + 3 <= (w1.alloc o).heap.size:=by simp; omega
 have c1 : w2.cell? ⟨B + 2,0,none⟩ = some v:=grown_cell' hg (old_cell h.opn) (row_ne h.row (by omega))
 have f1 : w2.frozen? ⟨B + 2,0,none⟩ = false:=by rw [grown_frozen hg (by omega) (row_ne h.row (by omega)),old_frozen (by omega)]; exact h.frz
 refine ⟨c1,f1,fun M hM => ⟨?_,?_⟩⟩
 ·exact ((h.bel.alloc (by omega) o).grown hg (by omega) (fun k hk => by have:=(h.row.1.lt k hk).1; omega)).setCell (by show B <= B + 2; omega) _
 ·have hoi : w2.ownsInts (B + 3) 3 .i64 v' (natI zs ++ [(x : Int)]):=h.row.appended hown (wfN x (by omega))
  rw [<- natI_snoc] at hoi
  refine ⟨?_,?_,⟨ownsRow_setCell_below hoi.1 (by show B + 2 < B + 3; omega) _,hoi.2⟩,?_,⟨D,?_,hM⟩,?_⟩
  ·rw [World.cell?_setCell_far _ _ _ _ (by show B + 2 ≠ B + 1; omega)]
   exact grown_cell' hg (old_cell (o:=o) h.met) (row_ne h.row (by omega))
  ·exact cell_set c1 v'
  ·rw [World.frozen?_setCell]; exact f1
  ·exact (((h.own.alloc o).kept hg (row_ne h.row (by omega)))).setCell (by show B ≠ B + 2; omega) _
  ·have:=hg.size
   simp [World.setCell] at this ⊢
   omega
set_option maxHeartbeats 1000000 in
theorem meet_new (B n : Nat) (M : Nat -> Bool) (v : Value) (zs : List Nat) (x : Nat) (w : World) (h : MS w B n M v zs) (hx : x <= 1000) (hM : M x = false) (hn : n <= 100000) (hzl : zs.length <= 100000) :
  Calls Try.prog 107 #[.int .i64 (x : Int),.pointer (some ⟨B + 1,0,none⟩),.pointer (some ⟨B + 2,0,none⟩)] w fun e w' => e = .returned (.tuple #[]) /\ Below B w w' /\ ∃ v',MS w' B (n + 1) (fun y => M y || decide (y = x)) v' (zs ++ [x]):=by
 obtain ⟨D,hD,hh⟩:=h.set
 have hm:=h.met
 have hxm:=hh x
 rw [hM] at hxm
 have hkey:=keyN x (by omega)
 have HS : Hid (B + 3 <= w.heap.size):=h.size
 have HL : Hid ((natI zs).length <= 100000):=(by rw [natI_len]; exact hzl : (natI zs).length <= 100000)
 have HH : Hid (∀ y : Nat,Maps.has (D.put (.int .i64 (x : Int)) (.agg [])) (.int .i64 (y : Int)) = (M y || decide (y = x))):=fun y => by rw [has_put D hD.isMap,hh y]
 have hmx : (w.alloc (.cells #[] 106)).cell? ⟨B + 1,0,none⟩ = some (.map (some B)):=old_cell hm
 obtain ⟨i0,hi,hz0,hz1,hz2⟩:=info_parts infoInt
 clear hh
 go_enter Try.func107,Try.ntmps107
 go_wp2_with (first | (at_lookup; refine wpList_lookup_own_unit _ rfl _ _ 104 rfl 3 106 keyI Try.underlying104 (zeroU _) B n D rfl hD _ _ rfl hkey ?_; rw [hxm]) | (at_mapUpdate; refine wpList_mapUpdate_own _ rfl _ _ _ 104 rfl 3 106 keyI Try.underlying104 unitElem B n D rfl (hD.alloc _) (by unfold maxLen; omega) _ _ _ rfl rfl hkey (.agg []) [] unitElem_mk ?_; intro w1 hD1 hg1; have h1:=M1.stored h _ hD1 hg1; clear hg1 hD1; have ho1:=h1.opn) | (at_builtin; refine wpList_append_own_at _ rfl _ _ 22 rfl (B + 3) 3 i0 (.int .i64 0) 1 8 Try.underlying22 hi hz0 hz1 hz2 rfl (by decide) _ _ _ rfl (h1.row.1.alloc _) ⟨w1.heap.size,0,none⟩ 1 1 [.int .i64 (x : Int)] rfl rfl (cell_one_new _ _ _) (ints_oneCell .i64 [(x : Int)]) (by have:=HL.out; unfold maxLen; omega) (by have:=HL.out; omega) (by have:=h1.size; simp; omega) ?_; intro v' w2 hown2 hg2 _ _; obtain ⟨g,cap,hv⟩:=Go.Joins.ownsRow_form hown2 (Nat.succ_pos _); rw [hv] at hown2 ⊢; obtain ⟨c2,f2,hfin⟩:=h1.appended _ hx hg2 hown2; clear hg2 hown2))
 go_end0
 exact ⟨rfl,(hfin _ HH.out).1,_,(hfin _ HH.out).2⟩
theorem meet_any (B n : Nat) (M : Nat -> Bool) (v : Value) (zs : List Nat) (x : Nat) (w : World) (h : MS w B n M v zs) (hx : x <= 1000) (hn : n <= 100000) (hzl : zs.length <= 100000) :
  Calls Try.prog 107 #[.int .i64 (x : Int),.pointer (some ⟨B + 1,0,none⟩),.pointer (some ⟨B + 2,0,none⟩)] w fun e w' => e = .returned (.tuple #[]) /\ Below B w w' /\ ∃ v',MS w' B (meetN M x n) (meetM M x) v' (meetZ M x zs):=by
 cases hM : M x
 ·refine (meet_new B n M v zs x w h hx hM hn hzl).mono fun e w' ⟨h1,h2,h3⟩ => ⟨h1,h2,?_⟩
  simpa [meetM,meetZ,meetN,hM] using h3
 ·refine (meet_old B n M v zs x w h hx hM).mono fun e w' ⟨h1,h2⟩ => ⟨h1,h2.mono (by have:=h.size; omega),v,?_⟩
  have h3:=h.below h2
  simpa [meetM,meetZ,meetN,hM] using h3
end Go.Proofs.Yteehgcbjmdideab.Sc
