/- 'Costs' of package spread: the least prices along edges,and by which arc each came. -/
import Derived.Test.YteehgcbjmdideabVM01
import Derived.Test.YteehgcbjmdideabVM04
import Derived.Test.YteehgcbjmdideabVM02
import Derived.Deep.RegionHeld3
import Derived.Deep.Cut
import Derived.Test.YteehgcbjmdideabVM00
import Derived.Test.YteehgcbjmdideabVCheckF
set_option maxRecDepth 100000
namespace Go.Proofs.Yteehgcbjmdideab
open Go.RowKit
attribute [local go_sem ↓] Go.wp_at_zero Go.wp_at_succ
def edgOf (pu pv : ArcD -> Int) (a : ArcD) : Edg:=⟨(pu a).toNat,(pv a).toNat,a.wt⟩
theorem NumsAt.of_row {w : World} {B e g n cap : Nat} {xs : List Int} (h : w.ownsRow B e 1 (.slice (some ⟨g,0,none⟩) n cap) n (xs.map (Value.int .i64))) : NumsAt w g n xs /\ B <= g:=by
 obtain ⟨hl,h⟩:=h
 rcases h with ⟨h,_⟩ | ⟨g',cap',cur,h0,hB,hh,h1,h2,h3,h4⟩
 ·cases h
 ·injection h0 with h5 h6 h7
  injection h5 with h5
  injection h5 with h5
  subst h5
  have hxl : xs.length = n:=by simpa using hl
  refine ⟨⟨hxl,fun i hi => ?_,fun i => Go.Joins.unfrozen_of_block hh i,heap_lt hh⟩,hB⟩
  have : (cur.toList.take (n * 1))[i]? = some (.int .i64 (gI xs i)):=by
   rw [h4]; simp [gI,List.getD,show i < xs.length by omega]
  rw [List.getElem?_take] at this
  simp only [Nat.mul_one,hi,if_true,Array.getElem?_toList] at this
  simp [World.cell?,hh,this]
theorem rep_row {w w1 : World} {n t : Nat} {o : Obj} (h : w1.heap[(w.alloc o).heap.size]? = some (.cells (rowR (-1) n n).toArray t (0,0))) : NumsAt w1 (w.heap.size + 1) n (List.replicate n (-1)):=by
 have h1:=NumsAt.of_block (only_row h)
 simpa using h1
def boolN : Value -> Nat
 | .bool true => 1
 | _ => 0
end Go.Proofs.Yteehgcbjmdideab
/- What is pushed: ends and arcs,from what it costs to come to an end. -/
namespace Go.Proofs.Yteehgcbjmdideab
end Go.Proofs.Yteehgcbjmdideab
/- What it costs from the start to each state,and from each state to an end: the document's rounds. -/
namespace Go.Proofs.Yteehgcbjmdideab
def edT (f : FstD) : List Edg:=f.arcs.map (edgOf ArcD.dst ArcD.src)
def toD (f : FstD) : List Int:=rounds (edT f).reverse f.final f.states.toNat
theorem beg_set (N s0 : Nat) : (List.replicate N (-1 : Int)).set s0 0 = begL (s0 : Int) N:=by
 apply List.ext_getElem
 ·simp [begL]
 ·intro i h1 h2
  simp only [List.getElem_set,List.getElem_replicate,begL,List.getElem_map,List.getElem_range]
  by_cases e : s0 = i
  ·subst e; simp
  ·have : ¬ (i : Int) = s0:=by omega
   simp [e,this]
theorem gI_of (xs : List Int) (p : Int -> Prop) (h : ∀ x ∈ xs,p x) (h0 : p (-1)) (v : Nat) : p (gI xs v):=by
 unfold gI
 by_cases hv : v < xs.length
 ·simp only [List.getD,List.getElem?_eq_getElem hv,Option.getD_some]
  exact h _ (List.getElem_mem hv)
 ·simp only [List.getD,List.getElem?_eq_none (Nat.not_lt.1 hv),Option.getD_none]
  exact h0
theorem begL_mem (s : Int) (N : Nat) : ∀ x ∈ begL s N,x = -1 \/ x = 0:=by
 intro x hx
 unfold begL at hx
 obtain ⟨i,_,rfl⟩:=List.mem_map.1 hx
 split
 ·exact Or.inr rfl
 ·exact Or.inl rfl
section
variable {f : FstD} {N s0 : Nat}
end
end Go.Proofs.Yteehgcbjmdideab
/- 'SameInts','SameFst' of the document's answer; 'one','fstIs' of the statements. -/
namespace Go.Proofs.Yteehgcbjmdideab
open Go.RowKit
attribute [local go_sem ↓] Go.wp_at_zero Go.wp_at_succ
theorem getD_ext {α : Type} (d : α) (xs ys : List α) (h : xs.length = ys.length) (he : ∀ j,j < xs.length -> xs.getD j d = ys.getD j d) : xs = ys:=by
 apply List.ext_getElem h
 intro i h1 h2
 have:=he i h1
 simpa [List.getD,h1,h2] using this
set_option maxHeartbeats 1000000 in
theorem sameInts_any (u v : Value) (xs ys : List Int) (w : World) (hu : ISlice w u xs) (hv : ISlice w v ys) :
  Calls Try.prog 53 #[u,v] w fun e w' => e = .returned (.bool (decide (xs = ys))) /\ Below w.heap.size w w':=by
 obtain ⟨ua,n,uc,rfl,hul,hum⟩:=hu.lenOf
 obtain ⟨va,m,vc,rfl,hvl,hvm⟩:=hv.lenOf
 have HU : Hid (xs.length = n):=hul
 have HV : Hid (ys.length = m):=hvl
 unfold maxLen at hum hvm
 clear hul hvl
 by_cases hnm : n = m
 ·subst hnm
  go_enter Try.func53,Try.ntmps53
  go_wp2
  go_loopw [5] (fun i wr => ∃ k : Nat,k <= n /\ i = .int .i64 k /\ (∀ j,j < k -> xs.getD j 0 = ys.getD j 0) /\ Below w.heap.size w wr) (fun i _ => n - (intOf i).toNat)
  case atStart => exact ⟨0,Nat.zero_le _,rfl,fun j hj => absurd hj (Nat.not_lt_zero _),bel_self _⟩
  case round =>
   obtain ⟨k,hk,rfl,hall,hb⟩:=hrel
   have HA : Hid (∀ j,j < k -> xs.getD j 0 = ys.getD j 0):=hall
   clear hall
   by_cases hlt : k < n
   ·obtain ⟨b,off,rfl,hx⟩:=hu.some (by omega)
    obtain ⟨b',off',rfl,hy⟩:=hv.some (by omega)
    have c0:=(hx.below hb).cell k hlt
    have c1:=(hy.below hb).cell k hlt
    obtain ⟨x,hxk⟩ : ∃ x,x = xs.getD k 0:=⟨_,rfl⟩
    obtain ⟨y,hyk⟩ : ∃ y,y = ys.getD k 0:=⟨_,rfl⟩
    rw [<- hxk] at c0
    rw [<- hyk] at c1
    have HX : Hid (x = xs.getD k 0):=hxk
    have HY : Hid (y = ys.getD k 0):=hyk
    clear hxk hyk
    have hi : (k : Int) < n:=by omega
    by_cases hxy : x = y
    ·have hd : (x != y) = false:=by simp [hxy]
     go_wp2
     go_quiet (fail)
     go_wp2
     go_roundw
     case rel =>
      refine ⟨k + 1,by omega,by go_num,fun j hj => ?_,bel_drewN hb _⟩
      by_cases e : j = k
      ·subst e; rw [<- HX.out,<- HY.out]; exact hxy
      ·exact HA.out j (by omega)
     case measure => simp [intOf]; omega
    ·have hd : (x == y) = false:=by simpa using hxy
     have hne : decide (xs = ys) = false:=by
      simp only [decide_eq_false_iff_not]
      intro h; apply hxy; rw [HX.out,HY.out,h]
     have HD : Hid (decide (xs = ys) = false):=hne
     clear hne
     go_wp2
     go_quiet (fail)
     go_wp2
     go_ret
     exact ⟨ret_bool HD.out.symm,bel_drewN hb _⟩
   ·have HD : Hid (xs = ys):=getD_ext 0 xs ys (by rw [HU.out,HV.out]) (fun j hj => HA.out j (by have:=HU.out; omega))
    go_wp2
    go_ret
    exact ⟨ret_bool (by simp [HD.out]),hb⟩
 ·have hd : ((n : Int) == (m : Int)) = false:=by rw [beq_eq_false_iff_ne]; omega
  have hd' : (n == m) = false:=by simpa using hnm
  have HD : Hid (decide (xs = ys) = false):=by
   have h1:=HU.out
   have h2:=HV.out
   show decide (xs = ys) = false
   simp only [decide_eq_false_iff_not]
   intro h; subst h; omega
  go_enter Try.func53,Try.ntmps53
  go_wp2
  go_ret
  exact ⟨ret_bool HD.out.symm,bel_self _⟩
theorem arcs_neq (x y : ArcD) (w : World) : (binOp .neq 54 (.agg #[.int .i64 x.src,.int .i64 x.inp,.int .i64 x.out,.int .i64 x.dst,.int .i64 x.wt]) (.agg #[.int .i64 y.src,.int .i64 y.inp,.int .i64 y.out,.int .i64 y.dst,.int .i64 y.wt])).run Try.prog w = .ok (.bool (!@decide (x = y) (decA x y))) w:=by
 rw [run_neq_struct]
 rw [run_equalIn_agg w 9999 54 _ _ (by kernel_rfl) (by kernel_rfl)]
 go_simp
 obtain ⟨x0,x1,x2,x3,x4⟩:=x
 obtain ⟨y0,y1,y2,y3,y4⟩:=y
 simp only [ArcD.mk.injEq]
 by_cases h0 : x0 = y0 <;> by_cases h1 : x1 = y1 <;> by_cases h2 : x2 = y2 <;> by_cases h3 : x3 = y3 <;> by_cases h4 : x4 = y4 <;> simp [h0,h1,h2,h3,h4]
end Go.Proofs.Yteehgcbjmdideab
/- 'All' of package sound. -/
namespace Go.Proofs.Yteehgcbjmdideab
open Go.RowKit
attribute [local go_sem ↓] Go.wp_at_zero Go.wp_at_succ
set_option maxHeartbeats 1000000 in
theorem all_one (f : FstD) (fin arcs : Value) (B : Nat) (c : Int) (w : World) (hC : CellsF w B f.states f.start fin arcs) (hf : ISlice w fin f.final) (ha : ASlice w arcs f.arcs) (hc : checkD f = c) :
  Calls Try.prog 45 #[.slice (some ⟨B,0,none⟩) 1 1] w fun e w' => e = .returned (.int .i64 c) /\ Below w.heap.size w w':=by
 obtain ⟨fa,fn,fc,rfl,_,_⟩:=hf.lenOf
 obtain ⟨ba,bn,bc,rfl,_,_⟩:=ha.lenOf
 have hchk : ∀ W,ISlice W (.slice fa fn fc) f.final -> ASlice W (.slice ba bn bc) f.arcs -> Calls Try.prog 33 #[.agg #[.int .i64 f.states,.int .i64 f.start,.slice fa fn fc,.slice ba bn bc]] W fun e w' => e = .returned (.int .i64 c) /\ Below W.heap.size W w':=by
  intro W k1 k2; subst hc; exact check_any f _ _ W k1 k2
 clear hc
 go_enter Try.func45,Try.ntmps45
 go_wp2
 go_loopw [8] (fun i wr => ∃ k : Nat,k <= 1 /\ i = .int .i64 k /\ (k = 1 -> c = 0) /\ Below w.heap.size w wr) (fun i _ => 1 - (intOf i).toNat)
 case atStart => exact ⟨0,by omega,rfl,fun h => by omega,bel_self _⟩
 case round =>
  obtain ⟨k,hk,rfl,hck,hb⟩:=hrel
  by_cases hlt : k < 1
  ·have hk0 : k = 0:=by omega
   subst hk0
   clear hck
   obtain ⟨q0,q1,q2,q3⟩:=hC.below hb
   have hb1:=bel_up (bel_self wr) (.cells #[.int .i64 f.states,.int .i64 f.start,.slice fa fn fc,.slice ba bn bc] 25)
   have h1:=(hf.below hb).below hb1
   have h2:=(ha.below hb).below hb1
   by_cases h0 : c = 0
   ·subst h0
    go_wp2_with (go_at_call 33; refine (hchk _ h1 h2).mono ?_; rintro e w1 ⟨rfl,hb2⟩)
    go_roundw
    case rel => exact ⟨1,Nat.le_refl _,by go_num,fun _ => by trivial,bel_on (bel_on hb hb1) hb2⟩
    case measure => simp [intOf]
   ·have h0b : (c == 0) = false:=by simpa using h0
    have h0n : (c != 0) = true:=by simpa using h0
    go_wp2_with (go_at_call 33; refine (hchk _ h1 h2).mono ?_; rintro e w1 ⟨rfl,hb2⟩)
    go_ret
    exact ⟨rfl,bel_on (bel_on hb hb1) hb2⟩
  ·have hk1 : k = 1:=by omega
   have h0:=hck hk1
   subst hk1 h0
   clear hck
   go_wp2
   go_ret
   exact ⟨rfl,hb⟩
theorem cellsF_new (w : World) (st sta : Int) (fin arcs : Value) (t : Nat) : CellsF (w.alloc (.cells #[.int .i64 st,.int .i64 sta,fin,arcs] t)) w.heap.size st sta fin arcs:=by simp [CellsF]
theorem cellsF_at (w : World) (st sta : Int) (fin arcs : Value) (t B : Nat) (h : w.heap.size = B) : CellsF (w.alloc (.cells #[.int .i64 st,.int .i64 sta,fin,arcs] t)) B st sta fin arcs:=by subst h; exact cellsF_new w st sta fin arcs t
theorem two_up (w : World) (o p : Obj) : Below w.heap.size w ((w.alloc o).alloc p):=bel_up (bel_up (bel_self w) o) p
theorem one_size (w : World) (o : Obj) : (w.alloc o).heap.size = w.heap.size + 1:=by simp
end Go.Proofs.Yteehgcbjmdideab
/- 'All' of package sound; 'From','toEnd','To' of package short. -/
namespace Go.Proofs.Yteehgcbjmdideab
open Go.RowKit
attribute [local go_sem ↓] Go.wp_at_zero Go.wp_at_succ
theorem all_at (f : FstD) (fin arcs : Value) (c : Int) (w : World) (hf : ISlice w fin f.final) (ha : ASlice w arcs f.arcs) (hc : checkD f = c) :
  Calls Try.prog 45 #[.slice (some ⟨w.heap.size + 1,0,none⟩) 1 1] ((w.alloc (.cells #[.int .i64 f.states,.int .i64 f.start,fin,arcs] 25)).alloc (.cells #[.int .i64 f.states,.int .i64 f.start,fin,arcs] 25)) fun e w' =>
   e = .returned (.int .i64 c) /\ Below w.heap.size w w' /\ CellsF w' w.heap.size f.states f.start fin arcs /\ ISlice w' fin f.final /\ ASlice w' arcs f.arcs:=by
 have hb:=two_up w (.cells #[.int .i64 f.states,.int .i64 f.start,fin,arcs] 25) (.cells #[.int .i64 f.states,.int .i64 f.start,fin,arcs] 25)
 refine (all_one f fin arcs (w.heap.size + 1) c _ (cellsF_at _ _ _ _ _ _ _ (one_size _ _)) (hf.below hb) (ha.below hb) hc).mono ?_
 rintro e w' ⟨rfl,hb2⟩
 exact ⟨rfl,bel_on hb hb2,((cellsF_new w _ _ _ _ _).below (bel_up (bel_self _) _)).below hb2,(hf.below hb).below hb2,(ha.below hb).below hb2⟩
theorem NumsAt.ints {w : World} {g n : Nat} {c : List Int} (h : NumsAt w g n c) : IntsAt w g 0 n c :=
 ⟨h.len,fun i hi => by rw [Nat.zero_add,h.cell i hi,gI_getD (by rw [h.len]; exact hi)]⟩
theorem only_beg (n s : Nat) (w : World) (h1 : 1 <= n) (h2 : n <= 200) (hs : s < n) :
  Calls Try.prog 60 #[.int .i64 n,.int .i64 s] w fun e w' => ∃ G,e = .returned (.slice (some ⟨G,0,none⟩) n n) /\ IntsAt w' G 0 n (begL (s : Int) n) /\ Below w.heap.size w w':=by
 refine (only_any n s w h1 h2 hs).mono ?_
 rintro e w' ⟨G,rfl,hG,_,hb⟩
 rw [beg_set] at hG
 have h:=(NumsAt.of_block hG).ints
 rw [begL_len] at h
 exact ⟨G,rfl,h,hb⟩
end Go.Proofs.Yteehgcbjmdideab
/- 'FromOf' of the document's answer. -/
namespace Go.Proofs.Yteehgcbjmdideab
open Go.RowKit
attribute [local go_sem ↓] Go.wp_at_zero Go.wp_at_succ
end Go.Proofs.Yteehgcbjmdideab
/- 'ToOf' of the document's answer. -/
namespace Go.Proofs.Yteehgcbjmdideab
open Go.RowKit
attribute [local go_sem ↓] Go.wp_at_zero Go.wp_at_succ
end Go.Proofs.Yteehgcbjmdideab
/- 'pushedEnds','pushedArcs' of package short. -/
namespace Go.Proofs.Yteehgcbjmdideab
open Go.RowKit
attribute [local go_sem ↓] Go.wp_at_zero Go.wp_at_succ
end Go.Proofs.Yteehgcbjmdideab
/- 'Push' of package short. -/
namespace Go.Proofs.Yteehgcbjmdideab
open Go.RowKit
attribute [local go_sem ↓] Go.wp_at_zero Go.wp_at_succ
set_option maxHeartbeats 1000000 in
theorem arcIndex_any (p : ArcD -> Bool) (F : Nat) (hG : ∀ args w,(callFunc F args).run Try.prog w = .ok (.enter F args) w) (hF : ∀ (a : ArcD) (w : World),Calls Try.prog F #[.agg #[.int .i64 a.src,.int .i64 a.inp,.int .i64 a.out,.int .i64 a.dst,.int .i64 a.wt]] w fun e w' => e = .returned (.bool (p a)) /\ Below w.heap.size w w')
  (ars : List ArcD) (aa : Option Addr) (m ac : Nat) (w : World) (ha : ASlice w (.slice aa m ac) ars) (hal : ars.length = m) (hm : m <= 3000) :
  Calls Try.prog 85 #[.slice aa m ac,.func (.func F) #[] #[]] w fun e w' => ∃ i : Int,e = .returned (.int .i64 i) /\ decide (0 <= i) = ars.any p /\ Below w.heap.size w w':=by
 have HAL : Hid (ars.length = m):=hal
 clear hal
 go_enter Try.func85,Try.ntmps85
 go_wp2
 go_loopw [8] (fun i wr => ∃ k : Nat,k <= m /\ i = .int .i64 k /\ (∀ j,j < k -> p (ars.getD j a0) = false) /\ Below w.heap.size w wr) (fun i _ => m - (intOf i).toNat)
 case atStart => exact ⟨0,Nat.zero_le _,rfl,fun j hj => absurd hj (Nat.not_lt_zero _),bel_self _⟩
 case round =>
  obtain ⟨k,hk,rfl,hall,hb⟩:=hrel
  have HA : Hid (∀ j,j < k -> p (ars.getD j a0) = false):=hall
  clear hall
  by_cases hlt : k < m
  ·obtain ⟨ab,aoff,rfl,hx⟩:=(ha.below hb).some (by omega)
   obtain ⟨a,hak⟩ : ∃ a,a = ars.getD k a0:=⟨_,rfl⟩
   have c0:=hx.c0 k hlt
   have c1:=hx.c1 k hlt
   have c2:=hx.c2 k hlt
   have c3:=hx.c3 k hlt
   have c4:=hx.c4 k hlt
   rw [<- hak] at c0 c1 c2 c3 c4
   have HAK : Hid (a = ars.getD k a0):=hak
   have hki : (k : Int) < m:=by omega
   have hcall:=hF a
   clear hak hx
   cases hp : p a with
   | false =>
    have HP : Hid (p a = false):=hp
    rw [hp] at hcall
    clear hp
    go_wp2_with (refine (hcall _).mono ?_; rintro e w1 ⟨rfl,hb1⟩)
    go_roundw
    case rel =>
     refine ⟨k + 1,by omega,by go_num,fun j hj => ?_,bel_on hb hb1⟩
     by_cases e : j = k
     ·subst e; rw [<- HAK.out]; exact HP.out
     ·exact HA.out j (by omega)
    case measure => simp [intOf]; omega
   | true =>
    have HP : Hid (p a = true):=hp
    rw [hp] at hcall
    clear hp
    go_wp2_with (refine (hcall _).mono ?_; rintro e w1 ⟨rfl,hb1⟩)
    go_ret
    refine ⟨k,rfl,?_,bel_on hb hb1⟩
    have : ars.any p = true:=by
     rw [List.any_eq_true]
     refine ⟨a,?_,HP.out⟩
     rw [HAK.out]
     have:=HAL.out
     simp [List.getD,show k < ars.length by omega]
    rw [this]
    simp
  ·go_wp2
   go_ret
   refine ⟨-1,rfl,?_,hb⟩
   have : ars.any p = false:=by
    rw [List.any_eq_false]
    intro a ha2
    obtain ⟨j,hj,rfl⟩:=List.getElem_of_mem ha2
    have:=HA.out j (by have:=HAL.out; omega)
    simpa [List.getD,hj] using this
   rw [this]
   decide
set_option maxHeartbeats 1000000 in
theorem arcContains_any (p : ArcD -> Bool) (F : Nat) (hG : ∀ args w,(callFunc F args).run Try.prog w = .ok (.enter F args) w) (hF : ∀ (a : ArcD) (w : World),Calls Try.prog F #[.agg #[.int .i64 a.src,.int .i64 a.inp,.int .i64 a.out,.int .i64 a.dst,.int .i64 a.wt]] w fun e w' => e = .returned (.bool (p a)) /\ Below w.heap.size w w')
  (ars : List ArcD) (aa : Option Addr) (m ac : Nat) (w : World) (ha : ASlice w (.slice aa m ac) ars) (hal : ars.length = m) (hm : m <= 3000) :
  Calls Try.prog 56 #[.slice aa m ac,.func (.func F) #[] #[]] w fun e w' => e = .returned (.bool (ars.any p)) /\ Below w.heap.size w w':=by
 go_enter Try.func56,Try.ntmps56
 go_wp2_with (go_at_call 85; refine (arcIndex_any p F hG hF ars aa m ac _ ha hal hm).mono ?_; rintro e w1 ⟨i,rfl,hi,hb1⟩)
 go_ret
 exact ⟨rfl,hb1⟩
def ZBlock (w : World) (R : Nat) : Prop:=w.heap[R]? = some (.cells #[.int .i64 0,.int .i64 0,.slice none 0 0,.slice none 0 0] 25 (0,0))
theorem zfacts {w : World} {R : Nat} (h : ZBlock w R) : w.cell? ⟨R,0,none⟩ = some (.int .i64 0) /\ w.cell? ⟨R,1,none⟩ = some (.int .i64 0) /\ w.cell? ⟨R,2,none⟩ = some (.slice none 0 0) /\ w.cell? ⟨R,3,none⟩ = some (.slice none 0 0) /\ w.frozen? ⟨R,0,none⟩ = false /\ w.frozen? ⟨R,1,none⟩ = false /\ w.frozen? ⟨R,2,none⟩ = false /\ w.frozen? ⟨R,3,none⟩ = false:=by
 refine ⟨?_,?_,?_,?_,Go.Joins.unfrozen_of_block h 0,Go.Joins.unfrozen_of_block h 1,Go.Joins.unfrozen_of_block h 2,Go.Joins.unfrozen_of_block h 3⟩
 ·have:=Go.Joins.cell_of_block h 0; simpa using this
 ·have:=Go.Joins.cell_of_block h 1; simpa using this
 ·have:=Go.Joins.cell_of_block h 2; simpa using this
 ·have:=Go.Joins.cell_of_block h 3; simpa using this
theorem bel_set4 {B R : Nat} {a w : World} (h : Below B a w) (hR : B <= R) (u0 u1 u2 u3 : Value) : Below B a ((((w.setCell ⟨R,0,none⟩ u0).setCell ⟨R,1,none⟩ u1).setCell ⟨R,2,none⟩ u2).setCell ⟨R,3,none⟩ u3) :=
 (((h.setCell (p:=⟨R,0,none⟩) hR _).setCell (p:=⟨R,1,none⟩) hR _).setCell (p:=⟨R,2,none⟩) hR _).setCell (p:=⟨R,3,none⟩) hR _
theorem far4 {w : World} {R b k : Nat} (h : b ≠ R) (u0 u1 u2 u3 : Value) : ((((w.setCell ⟨R,0,none⟩ u0).setCell ⟨R,1,none⟩ u1).setCell ⟨R,2,none⟩ u2).setCell ⟨R,3,none⟩ u3).cell? ⟨b,k,none⟩ = w.cell? ⟨b,k,none⟩:=by
 rw [set_far h,set_far h,set_far h,set_far h]
theorem all_at2 (f : FstD) (fin arcs : Value) (c : Int) (w : World) (hf : ISlice w fin f.final) (ha : ASlice w arcs f.arcs) (hc : checkD f = c) :
  Calls Try.prog 45 #[.slice (some ⟨w.heap.size + 1 + 1,0,none⟩) 1 1] (((w.alloc (.cells #[.int .i64 f.states,.int .i64 f.start,fin,arcs] 25)).alloc (.cells #[.int .i64 0,.int .i64 0,.slice none 0 0,.slice none 0 0] 25)).alloc (.cells #[.int .i64 f.states,.int .i64 f.start,fin,arcs] 25)) fun e w' =>
   e = .returned (.int .i64 c) /\ Below w.heap.size w w' /\ CellsF w' w.heap.size f.states f.start fin arcs /\ ZBlock w' (w.heap.size + 1) /\ ISlice w' fin f.final /\ ASlice w' arcs f.arcs:=by
 have hb:=bel_up (two_up w (.cells #[.int .i64 f.states,.int .i64 f.start,fin,arcs] 25) (.cells #[.int .i64 0,.int .i64 0,.slice none 0 0,.slice none 0 0] 25)) (.cells #[.int .i64 f.states,.int .i64 f.start,fin,arcs] 25)
 have hz : ZBlock ((w.alloc (.cells #[.int .i64 f.states,.int .i64 f.start,fin,arcs] 25)).alloc (.cells #[.int .i64 0,.int .i64 0,.slice none 0 0,.slice none 0 0] 25)) (w.heap.size + 1):=by
  have:=heap_alloc_new (w.alloc (.cells #[.int .i64 f.states,.int .i64 f.start,fin,arcs] 25)) (.cells #[.int .i64 0,.int .i64 0,.slice none 0 0,.slice none 0 0] 25)
  unfold ZBlock
  simpa using this
 refine (all_one f fin arcs (w.heap.size + 1 + 1) c _ (cellsF_at _ _ _ _ _ _ _ (by simp)) (hf.below hb) (ha.below hb) hc).mono ?_
 rintro e w' ⟨rfl,hb2⟩
 exact ⟨rfl,bel_on hb hb2,((cellsF_new w _ _ _ _ _).below (two_up _ _ _)).below hb2,heap_bel hb2 (heap_bel (bel_up (bel_self _) _) hz),(hf.below hb).below hb2,(ha.below hb).below hb2⟩
theorem set4_cells {w : World} {R : Nat} {u0 u1 u2 u3 : Value} (z0 : w.cell? ⟨R,0,none⟩ = some u0) (z1 : w.cell? ⟨R,1,none⟩ = some u1) (z2 : w.cell? ⟨R,2,none⟩ = some u2) (z3 : w.cell? ⟨R,3,none⟩ = some u3) (a b : Int) (u v : Value) :
  CellsF ((((w.setCell ⟨R,0,none⟩ (.int .i64 a)).setCell ⟨R,1,none⟩ (.int .i64 b)).setCell ⟨R,2,none⟩ u).setCell ⟨R,3,none⟩ v) R a b u v:=by
 refine ⟨?_,?_,?_,?_⟩
 ·exact set_off (set_off (set_off (World.cell?_setCell_same _ _ _ z0) (by decide)) (by decide)) (by decide)
 ·exact set_off (set_off (World.cell?_setCell_same _ _ _ (set_off z1 (by decide))) (by decide)) (by decide)
 ·exact set_off (World.cell?_setCell_same _ _ _ (set_off (set_off z2 (by decide)) (by decide))) (by decide)
 ·exact World.cell?_setCell_same _ _ _ (set_off (set_off (set_off z3 (by decide)) (by decide)) (by decide))
theorem zb_set4 {w : World} {R P : Nat} (h : ZBlock w R) (hne : R ≠ P) (u0 u1 u2 u3 : Value) : ZBlock ((((w.setCell ⟨P,0,none⟩ u0).setCell ⟨P,1,none⟩ u1).setCell ⟨P,2,none⟩ u2).setCell ⟨P,3,none⟩ u3) R :=
 heap_far (heap_far (heap_far (heap_far h hne) hne) hne) hne
theorem wpAnyU_two {P : Program} {ops : Array Oper} {Q : Exit -> Act -> World -> Prop} {md : Region.Mode} {S : World -> Prop} {k : Nat} {i j : Nat} {oi oj : Oper} {fuel : Nat} {listed : Array Bool} {a : Act} {w : World} (hi : ops[i]? = some oi) (hj : ops[j]? = some oj) (hr : Region.ready md ops listed = [i,j])
  (h1 : ∀ K' : Act -> World -> Prop,Shut (∀ a w,((i ≠ k -> S w) /\ wpAnyU P md ops Q S k fuel (listed.setIfInBounds i true) a w) -> K' a w) -> if Region.wanted oi (yielded ops a.tmps) = true then Oper.wp P oi a w K' Q else K' (a.put oi.dst undef) w)
  (h2 : ∀ K' : Act -> World -> Prop,Shut (∀ a w,((j ≠ k -> S w) /\ wpAnyU P md ops Q S k fuel (listed.setIfInBounds j true) a w) -> K' a w) -> if Region.wanted oj (yielded ops a.tmps) = true then Oper.wp P oj a w K' Q else K' (a.put oj.dst undef) w) : wpAnyU P md ops Q S k (fuel + 1) listed a w:=by
 refine ⟨fun h0 => (by rw [hr] at h0; cases h0),fun n hn => ?_⟩
 rw [hr] at hn
 rcases List.mem_cons.1 hn with rfl | hn
 ·exact wpOp_step hi (fun K' hK => h1 K' (fun a w hS => hK a w hS))
 ·have : n = j:=by simpa using hn
  subst this
  exact wpOp_step hj (fun K' hK => h2 K' (fun a w hS => hK a w hS))
end Go.Proofs.Yteehgcbjmdideab
/- Operations of a region that only reads. -/
namespace Go.Proofs.Yteehgcbjmdideab
open Go
theorem quietY {P : Program} {ops : Array Oper} {C : World -> Prop} {Q : Act -> Prop} {a : Act} {o : Oper} {rest : List Oper} (hy : Region.wanted o (yielded ops a.tmps) = true) (h : ∀ K : Act -> Prop,(∀ a,wpQuiet P ops C Q rest a -> K a) -> o.quiet P a C K) : wpQuiet P ops C Q (o :: rest) a :=
 wpQuiet_step (fun K hK => by rw [if_pos hy]; exact h K hK)
theorem quietN {P : Program} {ops : Array Oper} {C : World -> Prop} {Q : Act -> Prop} {a : Act} {o : Oper} {rest : List Oper} (hy : Region.wanted o (yielded ops a.tmps) = false) (h : ∀ K : Act -> Prop,(∀ a,wpQuiet P ops C Q rest a -> K a) -> K (a.put o.dst undef)) : wpQuiet P ops C Q (o :: rest) a :=
 wpQuiet_step (fun K hK => by rw [if_neg (by rw [hy]; decide)]; exact h K hK)
end Go.Proofs.Yteehgcbjmdideab
