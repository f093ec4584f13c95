/- 'goOn' of the search. -/
import Derived.Test.YteehgcbjmdideabUM05
import Derived.Deep.LoopGhost
import Derived.Deep.RegionHeld3
import Derived.Deep.Cut
set_option maxRecDepth 100000
namespace Go.Proofs.Yteehgcbjmdideab
open Go.RowKit
attribute [local go_sem ↓] Go.wp_at_zero Go.wp_at_succ
def fstL (l : List ArcD) (N : Nat) : List Int:=(List.range (N + 1)).map fun s => (cntB l s : Int)
theorem fstL_at (l : List ArcD) (N s : Nat) (hs : s <= N) : gI (fstL l N) s = cntB l s:=by
 unfold gI fstL
 simp [List.getD,show s < N + 1 by omega]
theorem cntB_mono (l : List ArcD) (s t : Nat) (h : s <= t) : cntB l s <= cntB l t:=by
 unfold cntB
 induction l with
 | nil => exact Nat.le_refl _
 | cons a l ih =>
  rw [List.filter_cons,List.filter_cons]
  by_cases h1 : a.src < (s : Int)
  ·have h2 : a.src < (t : Int):=by omega
   simp only [h1,h2,decide_true,if_true,List.length_cons]
   omega
  ·by_cases h2 : a.src < (t : Int)
   ·simp only [h1,h2,decide_true,decide_false,if_true,Bool.false_eq_true,if_false,List.length_cons]
    omega
   ·simp only [h1,h2,decide_false,Bool.false_eq_true,if_false]
    exact ih
def PartR (f : FstD) (ins outs : List Int) (N n i o k : Nat) (c : List Int) : Prop :=
 ∀ k' a,k' < k -> f.arcs[k']? = some a -> a.src = (n : Int) -> (fitB ins i a.inp && fitB outs o a.out) = true -> Rlx c (edgeS N ins outs i o a)
theorem PartR.mono {f : FstD} {ins outs : List Int} {N n i o k : Nat} {c c2 : List Int} (h : PartR f ins outs N n i o k c) (hl : LeC c2 c) (hu : gI c2 (spotN N outs.length n i o) = gI c (spotN N outs.length n i o)) : PartR f ins outs N n i o k c2:=by
 intro k' a hk ha hs hf
 refine (h k' a hk ha hs hf).mono hl ?_
 unfold edgeS
 rw [if_pos hf,hs,Int.toNat_natCast]
 exact hu
theorem PartR.snoc {f : FstD} {ins outs : List Int} {N n i o k : Nat} {c : List Int} (h : PartR f ins outs N n i o k c) (hk : ∀ a,f.arcs[k]? = some a -> a.src = (n : Int) -> (fitB ins i a.inp && fitB outs o a.out) = true -> Rlx c (edgeS N ins outs i o a)) : PartR f ins outs N n i o (k + 1) c:=by
 intro k' a hk' ha hs hf
 by_cases e : k' = k
 ·subst e; exact hk a ha hs hf
 ·exact h k' a (by omega) ha hs hf
theorem PartR.all {f : FstD} {ins outs : List Int} {N s0 n i o k : Nat} {c : List Int} (hok : OkW f ins outs N s0) (h : PartR f ins outs N n i o k c) (hk : cntB f.arcs (n + 1) <= k) (hn : n < N) (ho : o <= outs.length) (hx : 0 <= gI c (spotN N outs.length n i o)) : ∀ e ∈ EdS f ins outs N,e.u = spotN N outs.length n i o -> Rlx c e:=by
 intro e he hu
 rcases edS_from hn ho hok.arcs he hu with rfl | ⟨k',a,ha,hs,hf,rfl⟩
 ·have h0 : 0 = spotN N outs.length n i o:=hu
  exact rlx_zero (by rw [h0]; exact hx)
 ·exact h k' a (by have:=(hok.sort.of n k' a ha).2 hs; omega) ha hs hf
def GoRes (w0 : World) (f : FstD) (ins outs : List Int) (N s0 B Mb Fb : Nat) (fin : Value) (aa : Option Addr) (m ac : Nat) (ia : Option Addr) (il ic : Nat) (oa : Option Addr) (ol oc : Nat) (best : Int) (n i o : Nat) (D : List Nat) (lo : Int) (k0 k : Nat) (len : Nat) (cs : List Int) (w : World) (vs : Value) (w' : World) : Prop :=
 ∃ c y ms L v,MStep B Mb w vs w' v /\ LeC c cs /\ SW w0 w' N s0 B Mb Fb fin (.slice aa m ac) (.slice ia il ic) (.slice oa ol oc) v (fstL f.arcs N) ms L /\ SGh f ins outs N s0 c y ms L best (spotN N outs.length n i o) D lo /\ gI c (spotN N outs.length n i o) = lo /\ PartR f ins outs N n i o k c /\ L.length + k0 <= len + k
set_option maxHeartbeats 2000000 in
theorem goOn_any (w0 : World) (f : FstD) (ins outs : List Int) (N s0 B Mb Fb : Nat) (fin : Value) (aa : Option Addr) (m ac : Nat) (ia : Option Addr) (il ic : Nat) (oa : Option Addr) (ol oc : Nat) (best : Int) (n i o : Nat) (D : List Nat) (lo : Int) (v : Value) (c y : List Int) (ms : List MetD) (L : List PlD) (w : World)
  (hok : OkW f ins outs N s0) (ha : ASlice w0 (.slice aa m ac) f.arcs) (hal : f.arcs.length = m) (hI : ISlice w0 (.slice ia il ic) ins) (hil : ins.length = il) (hO : ISlice w0 (.slice oa ol oc) outs) (hol : outs.length = ol)
  (hn : n < N) (hi : i <= il) (ho : o <= ol) (hlo0 : 0 <= lo) (hlo1 : lo <= 1000000000000000) (hLN : L.length <= 2000000000)
  (h : SW w0 w N s0 B Mb Fb fin (.slice aa m ac) (.slice ia il ic) (.slice oa ol oc) v (fstL f.arcs N) ms L) (hg : SGh f ins outs N s0 c y ms L best (spotN N outs.length n i o) D lo) (hx : gI c (spotN N outs.length n i o) = lo) :
  Calls Try.prog 101 #[.pointer (some ⟨B,0,none⟩),plV ⟨n,i,o,lo⟩] w fun e w' => e = .returned (.tuple #[]) /\ ∃ k,GoRes w0 f ins outs N s0 B Mb Fb fin aa m ac ia il ic oa ol oc best n i o D lo (cntB f.arcs n) k L.length c w v w' /\ cntB f.arcs (n + 1) <= k /\ k <= 3000:=by
 have HOK : Hid (OkW f ins outs N s0):=hok
 have HAL : Hid (f.arcs.length = m):=hal
 have HIL : Hid (ins.length = il):=hil
 have HOL : Hid (outs.length = ol):=hol
 have hm3 : m <= 3000:=by have:=hok.many; omega
 have hi40:=hok.i40
 have ho40:=hok.o40
 have hn200:=hok.n2
 have hil40 : il <= 40:=by omega
 have hol40 : ol <= 40:=by omega
 have hc1:=cntB_le f.arcs n
 have hc2:=cntB_le f.arcs (n + 1)
 rw [hal] at hc1 hc2
 have hc3 : cntB f.arcs n <= cntB f.arcs (n + 1):=cntB_mono f.arcs n (n + 1) (by omega)
 obtain ⟨k0,hk0⟩ : ∃ k0,k0 = cntB f.arcs n:=⟨_,rfl⟩
 obtain ⟨k1,hk1⟩ : ∃ k1,k1 = cntB f.arcs (n + 1):=⟨_,rfl⟩
 rw [<- hk0] at hc1 hc3 ⊢
 rw [<- hk1] at hc2 hc3 ⊢
 have HK0 : Hid (k0 = cntB f.arcs n):=hk0
 have HK1 : Hid (k1 = cntB f.arcs (n + 1)):=hk1
 have HFA : Hid (gI (fstL f.arcs N) n = k0 /\ gI (fstL f.arcs N) (n + 1) = k1):=⟨by rw [fstL_at _ _ _ (by omega),<- hk0],by rw [fstL_at _ _ _ (by omega),<- hk1]⟩
 have hP0 : PartR f ins outs N n i o k0 c:=fun k' a hk ha hs _ => by
  have:=(hok.sort.of n k' a ha).2 hs
  omega
 have HG0 : Hid (SGh f ins outs N s0 c y ms L best (spotN N outs.length n i o) D lo /\ gI c (spotN N outs.length n i o) = lo /\ PartR f ins outs N n i o k0 c):=⟨hg,hx,hP0⟩
 clear hok hal hil hol hk0 hk1 hg hx hP0
 unfold plV
 have hbB:=bel_up (bel_self w) (.cells #[.int .i64 (n : Int),.int .i64 (i : Int),.int .i64 (o : Int),.int .i64 lo] 123)
 have p0':=new_cell w #[.int .i64 (n : Int),.int .i64 (i : Int),.int .i64 (o : Int),.int .i64 lo] 123 w.heap.size 0 _ rfl rfl
 have p1':=new_cell w #[.int .i64 (n : Int),.int .i64 (i : Int),.int .i64 (o : Int),.int .i64 lo] 123 w.heap.size 1 _ rfl rfl
 have p2':=new_cell w #[.int .i64 (n : Int),.int .i64 (i : Int),.int .i64 (o : Int),.int .i64 lo] 123 w.heap.size 2 _ rfl rfl
 have p3':=new_cell w #[.int .i64 (n : Int),.int .i64 (i : Int),.int .i64 (o : Int),.int .i64 lo] 123 w.heap.size 3 _ rfl rfl
 have h1:=h.below hbB
 go_enter Try.func101,Try.ntmps101
 go_wp2
 have c6:=h1.c6
 have f0:=h1.first.cell n (by omega)
 rw [HFA.out.1] at f0
 have hni : (n : Int) < (N : Int) + 1:=by omega
 have hBl:=cell_lt h1.c6
 generalize w.alloc (.cells #[.int .i64 (n : Int),.int .i64 (i : Int),.int .i64 (o : Int),.int .i64 lo] 123) = W at *
 go_region_held3 (fun wx => wx.cell? ⟨B,6,none⟩ = some (.slice (some ⟨Fb,0,none⟩) (N + 1) (N + 1)) /\ wx.cell? ⟨w.heap.size,0,none⟩ = some (.int .i64 n) /\ wx.cell? ⟨Fb,n,none⟩ = some (.int .i64 k0)) (exact ⟨drew_cell c6,drew_cell p0',drew_cell f0⟩) (fail)
 go_wp2
 obtain ⟨V,hV⟩ : ∃ V,V = w.heap.size:=⟨_,rfl⟩
 have hVB : V ≠ B:=by have:=cell_lt h.c0; omega
 have hVM : V ≠ Mb:=by have:=h.met.lt; omega
 have hVv : v.ownBlock ≠ some V:=fun e => by have:=ownsRow_lt0 h.q.row _ e; omega
 rw [<- hV] at p0' p1' p2' p3' ⊢
 clear hV
 have hbd:=(bel_self W).drew
 have hS:=h1.below hbd
 have hbw:=hbB.drew
 go_loopw [4] (fun t4 wr => ∃ k : Nat,k0 <= k /\ k <= k1 /\ t4 = .int .i64 k /\ ∃ c1 y ms L' v',MStep B Mb w v wr v' /\ LeC c1 c /\ SW w0 wr N s0 B Mb Fb fin (.slice aa m ac) (.slice ia il ic) (.slice oa ol oc) v' (fstL f.arcs N) ms L' /\ SGh f ins outs N s0 c1 y ms L' best (spotN N outs.length n i o) D lo /\ gI c1 (spotN N outs.length n i o) = lo /\ PartR f ins outs N n i o k c1 /\ L'.length + k0 <= L.length + k /\ wr.cell? ⟨V,0,none⟩ = some (.int .i64 n) /\ wr.cell? ⟨V,1,none⟩ = some (.int .i64 i) /\ wr.cell? ⟨V,2,none⟩ = some (.int .i64 o) /\ wr.cell? ⟨V,3,none⟩ = some (.int .i64 lo) /\ v'.ownBlock ≠ some V) (fun t4 _ => 3000 - (intOf t4).toNat)
 case atStart => exact ⟨k0,Nat.le_refl _,hc3,rfl,c,y,ms,L,v,MStep.bel hbw,LeC.refl _,hS,HG0.out.1,HG0.out.2.1,HG0.out.2.2,Nat.le_refl _,drew_cell p0',drew_cell p1',drew_cell p2',drew_cell p3',hVv⟩
 case round =>
  clear HG0 hS h1 h p0' p1' p2' p3' hVv f0 c6 hbB hbd hBl hbw
  obtain ⟨k,hkl,hkr,rfl,c,y,ms,L',v',hMS,hLC,hS,hG,hx,hPR,hLl,v0,v1,v2,v3,hVv⟩:=hrel
  have HG : Hid (SGh f ins outs N s0 c y ms L' best (spotN N outs.length n i o) D lo /\ gI c (spotN N outs.length n i o) = lo /\ PartR f ins outs N n i o k c):=⟨hG,hx,hPR⟩
  clear hG hx hPR
  have HLC:=hLC
  replace HLC : Hid _:=HLC
  clear hLC
  have hL'N : L'.length <= 2500000000:=by omega
  have c6:=hS.c6
  have f1:=hS.first.cell (n + 1) (by omega)
  rw [HFA.out.2] at f1
  have hnNi : (n : Int) < (N : Int):=by omega
  have hw1 : IntKind.i64.wrap ((n : Int) + 1) = (n : Int) + 1:=wrap_in _ (by omega) (by omega)
  have hn0 : (0 : Int) <= (n : Int) + 1:=by omega
  by_cases hlt : k < k1
  ·have hkm : k < m:=by omega
   obtain ⟨ab,aoff,haa,_⟩:=ha.some (by omega)
   subst haa
   obtain ⟨a,hak⟩ : ∃ a,a = f.arcs.getD k a0:=⟨_,rfl⟩
   have hka : f.arcs[k]? = some a:=by rw [hak]; have:=HAL.out; simp [List.getD,show k < f.arcs.length by omega]
   have hsrc : a.src = (n : Int):=(HOK.out.sort.of n k a hka).1 (by rw [<- HK0.out,<- HK1.out]; omega)
   obtain ⟨_,⟨d1,d2⟩,w1,w2⟩:=HOK.out.arcs a (List.mem_of_getElem? hka)
   obtain ⟨t,ht⟩ : ∃ t : Nat,a.dst = t:=⟨a.dst.toNat,by omega⟩
   have htN : t < N:=by omega
   have HKA : Hid (f.arcs[k]? = some a /\ a.src = (n : Int) /\ a.dst = (t : Int)):=⟨hka,hsrc,ht⟩
   have HAr : Hid (∀ wx,Below w0.heap.size w0 wx -> wx.cell? ⟨ab,aoff + k * 5,none⟩ = some (.int .i64 n) /\ wx.cell? ⟨ab,aoff + k * 5 + 1,none⟩ = some (.int .i64 a.inp) /\ wx.cell? ⟨ab,aoff + k * 5 + 2,none⟩ = some (.int .i64 a.out) /\ wx.cell? ⟨ab,aoff + k * 5 + 3,none⟩ = some (.int .i64 t) /\ wx.cell? ⟨ab,aoff + k * 5 + 4,none⟩ = some (.int .i64 a.wt)):=fun wx hb => by
    obtain ⟨b',o',e,hx⟩:=(ha.below hb).some (by omega)
    cases e
    have e0:=hx.c0 k hkm
    have e1:=hx.c1 k hkm
    have e2:=hx.c2 k hkm
    have e3:=hx.c3 k hkm
    have e4:=hx.c4 k hkm
    rw [<- hak] at e0 e1 e2 e3 e4
    rw [hsrc] at e0
    rw [ht] at e3
    exact ⟨e0,e1,e2,e3,e4⟩
   have hkmi : (k : Int) < m:=by omega
   have hkl1 : (k : Int) < k1:=by omega
   clear hak hka hsrc ht d1 d2
   go_wp2
   go_region_held3 (fun wx => wx.cell? ⟨B,6,none⟩ = some (.slice (some ⟨Fb,0,none⟩) (N + 1) (N + 1)) /\ wx.cell? ⟨V,0,none⟩ = some (.int .i64 n) /\ wx.cell? ⟨Fb,n + 1,none⟩ = some (.int .i64 k1)) (exact ⟨drew_cell c6,drew_cell v0,drew_cell f1⟩) (fail)
   have hS1:=hS.below (bel_self wr).drew
   have c3:=hS1.c3
   obtain ⟨e0,e1,e2,e3,e4⟩:=HAr.out _ hS1.bel
   go_wp2
   have hu2:=(bel_up (bel_self wr) (.cells #[.int .i64 (n : Int),.int .i64 a.inp,.int .i64 a.out,.int .i64 (t : Int),.int .i64 a.wt] 54)).drew
   have q0 : (wr.alloc (.cells #[.int .i64 (n : Int),.int .i64 a.inp,.int .i64 a.out,.int .i64 (t : Int),.int .i64 a.wt] 54)).drew.cell? ⟨wr.heap.size,0,none⟩ = some (.int .i64 (n : Int)):=drew_cell (new_cell _ _ _ _ 0 _ rfl rfl)
   have q1 : (wr.alloc (.cells #[.int .i64 (n : Int),.int .i64 a.inp,.int .i64 a.out,.int .i64 (t : Int),.int .i64 a.wt] 54)).drew.cell? ⟨wr.heap.size,1,none⟩ = some (.int .i64 a.inp):=drew_cell (new_cell _ _ _ _ 1 _ rfl rfl)
   have q2 : (wr.alloc (.cells #[.int .i64 (n : Int),.int .i64 a.inp,.int .i64 a.out,.int .i64 (t : Int),.int .i64 a.wt] 54)).drew.cell? ⟨wr.heap.size,2,none⟩ = some (.int .i64 a.out):=drew_cell (new_cell _ _ _ _ 2 _ rfl rfl)
   have q3 : (wr.alloc (.cells #[.int .i64 (n : Int),.int .i64 a.inp,.int .i64 a.out,.int .i64 (t : Int),.int .i64 a.wt] 54)).drew.cell? ⟨wr.heap.size,3,none⟩ = some (.int .i64 (t : Int)):=drew_cell (new_cell _ _ _ _ 3 _ rfl rfl)
   have q4 : (wr.alloc (.cells #[.int .i64 (n : Int),.int .i64 a.inp,.int .i64 a.out,.int .i64 (t : Int),.int .i64 a.wt] 54)).drew.cell? ⟨wr.heap.size,4,none⟩ = some (.int .i64 a.wt):=drew_cell (new_cell _ _ _ _ 4 _ rfl rfl)
   have hS2:=hS.below hu2
   have hms2 : MStep B Mb wr v' ((wr.alloc (.cells #[.int .i64 (n : Int),.int .i64 a.inp,.int .i64 a.out,.int .i64 (t : Int),.int .i64 a.wt] 54)).drew) v':=MStep.bel hu2
   have x0:=bel_c hu2 v0
   have x1:=bel_c hu2 v1
   have x2:=bel_c hu2 v2
   have x3:=bel_c hu2 v3
   clear hS1 c3 e0 e1 e2 e3 e4 c6 f1 v0 v1 v2 v3 HAr
   generalize (wr.alloc (.cells #[.int .i64 (n : Int),.int .i64 a.inp,.int .i64 a.out,.int .i64 (t : Int),.int .i64 a.wt] 54)).drew = W2 at *
   generalize hA2 : wr.heap.size = A2 at *
   clear hA2
   have hIU:=(hI.below hS2.bel).below (bel_self W2).drew
   have c4:=hS2.c4
   go_region_held3 (fun wx => wx.cell? ⟨B,4,none⟩ = some (.slice ia il ic) /\ wx.cell? ⟨V,1,none⟩ = some (.int .i64 i) /\ wx.cell? ⟨A2,1,none⟩ = some (.int .i64 a.inp)) (first | exact ⟨drew_cell c4,drew_cell x1,drew_cell q1⟩ | exact ⟨bel_c hbU (drew_cell c4),bel_c hbU (drew_cell x1),bel_c hbU (drew_cell q1)⟩) ((go_at_call 113; refine (use_any ins ia il ic i a.inp _ hIU HIL.out (by omega) hi).mono ?_; rintro e wU ⟨rfl,hbU⟩))
   go_wp2
   have hbU2:=bel_on (bel_self W2).drew hbU
   have hS3:=hS2.below hbU2
   have hOU:=(hO.below hS3.bel).below (bel_self wU).drew
   have c5:=hS3.c5
   have y2':=bel_c hbU2 x2
   have r2:=bel_c hbU2 q2
   go_region_held3 (fun wx => wx.cell? ⟨B,5,none⟩ = some (.slice oa ol oc) /\ wx.cell? ⟨V,2,none⟩ = some (.int .i64 o) /\ wx.cell? ⟨A2,2,none⟩ = some (.int .i64 a.out)) (first | exact ⟨drew_cell c5,drew_cell y2',drew_cell r2⟩ | exact ⟨bel_c hbO (drew_cell c5),bel_c hbO (drew_cell y2'),bel_c hbO (drew_cell r2)⟩) ((go_at_call 113; refine (use_any outs oa ol oc o a.out _ hOU HOL.out (by omega) ho).mono ?_; rintro e wO ⟨rfl,hbO⟩))
   have hb2O:=bel_on hbU2 (bel_on (bel_self wU).drew hbO)
   have hS4:=hS2.below hb2O
   have hms4 : MStep B Mb wr v' wO v':=hms2.trans (MStep.bel hb2O)
   have z0:=bel_c hb2O x0
   have z1:=bel_c hb2O x1
   have z2:=bel_c hb2O x2
   have z3:=bel_c hb2O x3
   have g3:=bel_c hb2O q3
   have g4:=bel_c hb2O q4
   clear hu2 q0 q1 q2 q3 q4 x0 x1 x2 x3 hIU hOU c4 c5 y2' r2 hbU hbO hbU2 hb2O hS2 hS3 hms2 hS
   obtain ⟨i',hi'⟩ : ∃ i',i' = usedBy i a.inp:=⟨_,rfl⟩
   obtain ⟨o',ho'⟩ : ∃ o',o' = usedBy o a.out:=⟨_,rfl⟩
   rw [<- hi',<- ho']
   have HIO : Hid (i' = usedBy i a.inp /\ o' = usedBy o a.out):=⟨hi',ho'⟩
   clear hi' ho'
   cases hri : fitB ins i a.inp with
   | false =>
    have HNF : Hid ((fitB ins i a.inp && fitB outs o a.out) = false):=(by rw [hri]; rfl : (fitB ins i a.inp && fitB outs o a.out) = false)
    go_wp2
    go_roundw
    case rel =>
     refine ⟨k + 1,by omega,by omega,by go_num,c,y,ms,L',v',hMS.trans hms4,HLC.out,hS4,HG.out.1,HG.out.2.1,HG.out.2.2.snoc (fun a' ha' _ hf' => ?_),by omega,z0,z1,z2,z3,hVv⟩
     obtain rfl : a' = a:=Option.some.inj (ha'.symm.trans HKA.out.1)
     rw [HNF.out] at hf'
     cases hf'
    case measure => simp [intOf]; omega
   | true =>
    cases hro : fitB outs o a.out with
    | false =>
     have HNF : Hid ((fitB ins i a.inp && fitB outs o a.out) = false):=(by rw [hri,hro]; rfl : (fitB ins i a.inp && fitB outs o a.out) = false)
     go_wp2
     go_roundw
     case rel =>
      refine ⟨k + 1,by omega,by omega,by go_num,c,y,ms,L',v',hMS.trans hms4,HLC.out,hS4,HG.out.1,HG.out.2.1,HG.out.2.2.snoc (fun a' ha' _ hf' => ?_),by omega,z0,z1,z2,z3,hVv⟩
      obtain rfl : a' = a:=Option.some.inj (ha'.symm.trans HKA.out.1)
      rw [HNF.out] at hf'
      cases hf'
     case measure => simp [intOf]; omega
    | true =>
     have hfit : (fitB ins i a.inp && fitB outs o a.out) = true:=by rw [hri,hro]; rfl
     have hi' : i' <= ins.length:=by rw [HIO.out.1]; exact usedBy_le hri (by have:=HIL.out; omega)
     have ho' : o' <= outs.length:=by rw [HIO.out.2]; exact usedBy_le hro (by have:=HOL.out; omega)
     obtain ⟨hgo1,hgo2⟩:=HG.out.1.go HOK.out (by have:=HIL.out; omega) (by have:=HOL.out; omega) HKA.out.1 HKA.out.2.1 hfit HG.out.2.1 hlo0 HKA.out.2.2 rfl
     rw [<- HIO.out.1,<- HIO.out.2] at hgo1 hgo2
     rcases HG.out.1.look htN hi' ho' with ⟨hc',hlk⟩ | ⟨hc',hlk⟩
     ·have HFV : Hid (foundV (lookM t i' o' ms) = stepV 0 0):=(by rw [hlk]; rfl : foundV (lookM t i' o' ms) = stepV 0 0)
      have HFS : Hid ((lookM t i' o' ms).isSome = false):=(by rw [hlk]; rfl : (lookM t i' o' ms).isSome = false)
      have HYB:=hgo2 (Or.inl hc')
      replace HYB : Hid _:=HYB
      clear hgo1 hgo2 hc' hlk hfit hri hro hi' ho'
      go_wp2_with (go_at_call 98; refine (meet_new w0 N s0 B Mb Fb fin _ _ _ v' _ ms L' t i' o' (lo + a.wt) (k : Int) 0 0 wO hS4 (by omega) HFV.out HFS.out).mono ?_; rintro e w5 ⟨rfl,v5,L5,hS5,hp5,hM5⟩)
      have hl5:=hp5.length_eq
      rw [List.length_cons] at hl5
      obtain ⟨c2,y2,hG2,hx2,hle2,hrl2⟩:=HYB.out
      have HG5:=hG2.perm hp5.symm
      go_roundw
      case rel =>
       refine ⟨k + 1,by omega,by omega,by go_num,c2,y2,_,L5,v5,(hMS.trans hms4).trans hM5,hle2.trans HLC.out,hS5,HG5,hx2,(HG.out.2.2.mono hle2 (by rw [hx2,HG.out.2.1])).snoc (fun a' ha' _ hf' => ?_),by omega,hM5.cell z0 hVB hVM hVv,hM5.cell z1 hVB hVM hVv,hM5.cell z2 hVB hVM hVv,hM5.cell z3 hVB hVM hVv,fun e => ?_⟩
       ·obtain rfl : a' = a:=Option.some.inj (ha'.symm.trans HKA.out.1)
        exact hrl2
       ·rcases hM5.own _ e with e | e
        ·exact hVv e
        ·have:=cell_lt z0; omega
      case measure => simp [intOf]; omega
     ·obtain ⟨c',hcd⟩ : ∃ c',c' = gI c (spotN N outs.length t i' o'):=⟨_,rfl⟩
      obtain ⟨a',had⟩ : ∃ a',a' = arcOf f.arcs.length (gI y (spotN N outs.length t i' o')):=⟨_,rfl⟩
      rw [<- hcd] at hgo1 hgo2 hlk hc'
      rw [<- had] at hlk
      have HFV : Hid (foundV (lookM t i' o' ms) = stepV c' a'):=(by rw [hlk]; rfl : foundV (lookM t i' o' ms) = stepV c' a')
      have HFS : Hid ((lookM t i' o' ms).isSome = true):=(by rw [hlk]; rfl : (lookM t i' o' ms).isSome = true)
      clear hcd had hlk
      by_cases hle : c' <= lo + a.wt
      ·have HNB : Hid (Rlx c (edgeS N ins outs i o a)):=hgo1 (by omega)
       clear hgo1 hgo2 hfit hri hro hi' ho'
       go_wp2_with (go_at_call 98; refine (meet_no w0 N s0 B Mb Fb fin _ _ _ v' _ ms L' t i' o' (lo + a.wt) (k : Int) c' a' wO hS4 hle HFV.out HFS.out).mono ?_; rintro e w5 ⟨rfl,hS5,hM5⟩)
       go_roundw
       case rel =>
        refine ⟨k + 1,by omega,by omega,by go_num,c,y,ms,L',v',(hMS.trans hms4).trans hM5,HLC.out,hS5,HG.out.1,HG.out.2.1,HG.out.2.2.snoc (fun a' ha' _ hf' => ?_),by omega,hM5.cell z0 hVB hVM hVv,hM5.cell z1 hVB hVM hVv,hM5.cell z2 hVB hVM hVv,hM5.cell z3 hVB hVM hVv,hVv⟩
        obtain rfl : a' = a:=Option.some.inj (ha'.symm.trans HKA.out.1)
        exact HNB.out
       case measure => simp [intOf]; omega
      ·have hle : lo + a.wt < c':=by omega
       have HYB:=hgo2 (Or.inr hle)
       replace HYB : Hid _:=HYB
       clear hgo1 hgo2 hfit hri hro hi' ho'
       go_wp2_with (go_at_call 98; refine (meet_less w0 N s0 B Mb Fb fin _ _ _ v' _ ms L' t i' o' (lo + a.wt) (k : Int) c' a' wO hS4 (by omega) hle HFV.out HFS.out).mono ?_; rintro e w5 ⟨rfl,v5,L5,hS5,hp5,hM5⟩)
       have hl5:=hp5.length_eq
       rw [List.length_cons] at hl5
       obtain ⟨c2,y2,hG2,hx2,hle2,hrl2⟩:=HYB.out
       have HG5:=hG2.perm hp5.symm
       go_roundw
       case rel =>
        refine ⟨k + 1,by omega,by omega,by go_num,c2,y2,_,L5,v5,(hMS.trans hms4).trans hM5,hle2.trans HLC.out,hS5,HG5,hx2,(HG.out.2.2.mono hle2 (by rw [hx2,HG.out.2.1])).snoc (fun a' ha' _ hf' => ?_),by omega,hM5.cell z0 hVB hVM hVv,hM5.cell z1 hVB hVM hVv,hM5.cell z2 hVB hVM hVv,hM5.cell z3 hVB hVM hVv,fun e => ?_⟩
        ·obtain rfl : a' = a:=Option.some.inj (ha'.symm.trans HKA.out.1)
         exact hrl2
        ·rcases hM5.own _ e with e | e
         ·exact hVv e
         ·have:=cell_lt z0; omega
       case measure => simp [intOf]; omega
  ·have hkl1 : (k1 : Int) <= k:=by omega
   go_wp2
   go_region_held3 (fun wx => wx.cell? ⟨B,6,none⟩ = some (.slice (some ⟨Fb,0,none⟩) (N + 1) (N + 1)) /\ wx.cell? ⟨V,0,none⟩ = some (.int .i64 n) /\ wx.cell? ⟨Fb,n + 1,none⟩ = some (.int .i64 k1)) (exact ⟨drew_cell c6,drew_cell v0,drew_cell f1⟩) (fail)
   go_wp2
   go_end0
   refine ⟨rfl,k,⟨c,y,ms,L',v',hMS.trans (MStep.bel (bel_self wr).drew),HLC.out,hS.below (bel_self wr).drew,HG.out.1,HG.out.2.1,HG.out.2.2,hLl⟩,by omega,by omega⟩
end Go.Proofs.Yteehgcbjmdideab
/- 'firstArcs' of package score: the number of the first arc of each state. -/
namespace Go.Proofs.Yteehgcbjmdideab
open Go.RowKit
attribute [local go_sem ↓] Go.wp_at_zero Go.wp_at_succ
def oneC (l : List ArcD) (s : Nat) : Nat:=(l.filter fun a => decide (a.src + 1 = (s : Int))).length
def cntL (l : List ArcD) (N : Nat) : List Int:=(List.range (N + 1)).map fun s => (oneC l s : Int)
def mixC (l : List ArcD) (N j : Nat) : List Int:=(List.range (N + 1)).map fun s => if s <= j then (cntB l s : Int) else (oneC l s : Int)
theorem cntL_len (l : List ArcD) (N : Nat) : (cntL l N).length = N + 1:=by simp [cntL]
theorem mixC_len (l : List ArcD) (N j : Nat) : (mixC l N j).length = N + 1:=by simp [mixC]
theorem cntL_at (l : List ArcD) (N s : Nat) (hs : s <= N) : gI (cntL l N) s = oneC l s:=by
 unfold gI cntL
 simp [List.getD,show s < N + 1 by omega]
theorem mixC_at (l : List ArcD) (N j s : Nat) (hs : s <= N) : gI (mixC l N j) s = if s <= j then (cntB l s : Int) else (oneC l s : Int):=by
 unfold gI mixC
 simp [List.getD,show s < N + 1 by omega]
theorem cntL_nil (N : Nat) : cntL [] N = List.replicate (N + 1) 0:=by
 unfold cntL oneC
 apply List.ext_getElem
 ·simp
 ·intro i h1 h2
  simp
theorem oneC_le (l : List ArcD) (s : Nat) : oneC l s <= l.length:=List.length_filter_le _ _
theorem gI_ext {c d : List Int} (hl : c.length = d.length) (h : ∀ v,v < c.length -> gI c v = gI d v) : c = d:=by
 apply List.ext_getElem hl
 intro i h1 h2
 have:=h i h1
 unfold gI at this
 simpa [List.getD,h1,h2] using this
theorem cntL_snoc (l : List ArcD) (N t : Nat) (a : ArcD) (ht : a.src = (t : Int)) (htN : t < N) : (cntL l N).set (t + 1) (gI (cntL l N) (t + 1) + 1) = cntL (l ++ [a]) N:=by
 apply gI_ext
 ·rw [List.length_set,cntL_len,cntL_len]
 ·intro v hv
  rw [List.length_set,cntL_len] at hv
  rw [gI_set _ _ _ _ (by rw [cntL_len]; omega),cntL_at _ _ _ (by omega),cntL_at _ _ _ (by omega),cntL_at _ _ _ (by omega)]
  unfold oneC
  rw [List.filter_append,List.length_append]
  by_cases e : v = t + 1
  ·subst e
   rw [if_pos rfl,List.filter_cons_of_pos (by simp [ht])]
   simp
  ·rw [if_neg e,List.filter_cons_of_neg (by simp [ht]; omega)]
   simp
theorem cntB_succ (l : List ArcD) (j : Nat) : cntB l (j + 1) = oneC l (j + 1) + cntB l j:=by
 unfold cntB oneC
 induction l with
 | nil => rfl
 | cons a l ih =>
  rw [List.filter_cons,List.filter_cons,List.filter_cons]
  by_cases h1 : a.src < (j : Int)
  ·simp only [show a.src < ((j + 1 : Nat) : Int) by omega,h1,show ¬ a.src + 1 = ((j + 1 : Nat) : Int) by omega,decide_true,decide_false,if_true,Bool.false_eq_true,if_false,List.length_cons]
   omega
  ·by_cases h2 : a.src + 1 = ((j + 1 : Nat) : Int)
   ·simp only [show a.src < ((j + 1 : Nat) : Int) by omega,h1,h2,decide_true,decide_false,if_true,Bool.false_eq_true,if_false,List.length_cons]
    omega
   ·simp only [show ¬ a.src < ((j + 1 : Nat) : Int) by omega,h1,h2,decide_false,Bool.false_eq_true,if_false]
    exact ih
theorem mixC_zero (l : List ArcD) (N : Nat) (h : ∀ a ∈ l,0 <= a.src) : mixC l N 0 = cntL l N:=by
 apply gI_ext
 ·rw [mixC_len,cntL_len]
 ·intro v hv
  rw [mixC_len] at hv
  rw [mixC_at _ _ _ _ (by omega),cntL_at _ _ _ (by omega)]
  by_cases e : v <= 0
  ·have e0 : v = 0:=by omega
   subst e0
   rw [if_pos e,cntB_zero l h]
   have : oneC l 0 = 0:=by
    unfold oneC
    rw [List.length_eq_zero_iff,List.filter_eq_nil_iff]
    intro a ha
    have:=h a ha
    simp
    omega
   rw [this]
  ·rw [if_neg e]
theorem mixC_succ (l : List ArcD) (N j : Nat) (hj : j < N) : (mixC l N j).set (j + 1) (gI (mixC l N j) (j + 1) + gI (mixC l N j) j) = mixC l N (j + 1):=by
 apply gI_ext
 ·rw [List.length_set,mixC_len,mixC_len]
 ·intro v hv
  rw [List.length_set,mixC_len] at hv
  rw [gI_set _ _ _ _ (by rw [mixC_len]; omega),mixC_at _ _ _ _ (by omega),mixC_at _ _ _ _ (by omega),mixC_at _ _ _ _ (by omega),mixC_at _ _ _ _ (by omega)]
  by_cases e : v = j + 1
  ·subst e
   have:=cntB_succ l j
   rw [if_pos rfl,if_neg (by omega),if_pos (Nat.le_refl _),if_pos (Nat.le_refl _)]
   omega
  ·rw [if_neg e]
   by_cases h : v <= j
   ·rw [if_pos h,if_pos (by omega)]
   ·rw [if_neg h,if_neg (by omega)]
theorem mixC_all (l : List ArcD) (N : Nat) : mixC l N N = fstL l N:=by
 apply gI_ext
 ·rw [mixC_len]; simp [fstL]
 ·intro v hv
  rw [mixC_len] at hv
  rw [mixC_at _ _ _ _ (by omega),fstL_at _ _ _ (by omega),if_pos (by omega)]
theorem made_zero (w : World) (n : Nat) : NumsAt (w.alloc (.cells (madeCells #[.int .i64 0] n) 3)) w.heap.size n (List.replicate n 0):=by
 have h : (w.alloc (.cells (madeCells #[.int .i64 0] n) 3)).heap[w.heap.size]? = some (.cells (intsW (List.replicate n 0)).toArray 3 (0,0)):=by
  have e : madeCells #[.int .i64 0] n = (intsW (List.replicate n 0)).toArray:=by
   rw [<- rowR_made 0 n]
   simp [rowR,intsW]
  rw [<- e]
  exact heap_alloc_new w _
 have:=NumsAt.of_block h
 simpa using this
structure FAW (w wr : World) (N s0 G n1 : Nat) (fin arcs : Value) (c : List Int) : Prop where
 cf : CellsF wr w.heap.size (N : Int) (s0 : Int) fin arcs
 row : NumsAt wr G n1 c
 ge : w.heap.size + 1 <= G
 bel : Below w.heap.size w wr
theorem FAW.below {w wr wx : World} {N s0 G n1 : Nat} {fin arcs : Value} {c : List Int} (h : FAW w wr N s0 G n1 fin arcs c) (hb : Below wr.heap.size wr wx) : FAW w wx N s0 G n1 fin arcs c :=
 ⟨h.cf.below hb,h.row.below hb,h.ge,bel_on h.bel hb⟩
theorem FAW.set {w wr : World} {N s0 G n1 : Nat} {fin arcs : Value} {c : List Int} (h : FAW w wr N s0 G n1 fin arcs c) (i : Nat) (x : Int) (hi : i < n1) : FAW w (wr.setCell ⟨G,i,none⟩ (.int .i64 x)) N s0 G n1 fin arcs (c.set i x):=by
 have hk : w.heap.size ≠ G:=by have:=h.ge; omega
 exact ⟨⟨(set_far hk).trans h.cf.1,(set_far hk).trans h.cf.2.1,(set_far hk).trans h.cf.2.2.1,(set_far hk).trans h.cf.2.2.2⟩,h.row.set i x hi,h.ge,h.bel.setCell (p:=⟨G,i,none⟩) (by have:=h.ge; show w.heap.size <= G; omega) _⟩
set_option maxHeartbeats 1000000 in
theorem firstArcs_any (f : FstD) (ins outs : List Int) (N s0 : Nat) (fin : Value) (aa : Option Addr) (m ac : Nat) (w : World) (hok : OkW f ins outs N s0) (ha : ASlice w (.slice aa m ac) f.arcs) (hal : f.arcs.length = m) :
  Calls Try.prog 97 #[.agg #[.int .i64 (N : Int),.int .i64 (s0 : Int),fin,.slice aa m ac]] w fun e w' =>
   ∃ G,e = .returned (.slice (some ⟨G,0,none⟩) (N + 1) (N + 1)) /\ NumsAt w' G (N + 1) (fstL f.arcs N) /\ w.heap.size <= G /\ Below w.heap.size w w':=by
 obtain ⟨n1,hn1⟩ : ∃ n1,n1 = N + 1:=⟨_,rfl⟩
 rw [<- hn1]
 have HN1 : Hid (n1 = N + 1):=hn1
 have hn1i : (N : Int) + 1 = (n1 : Int):=by omega
 have HOK : Hid (OkW f ins outs N s0):=hok
 have HAL : Hid (f.arcs.length = m):=hal
 have hN2:=hok.n2
 have hN0:=hok.n1
 have hm3 : m <= 3000:=by have:=hok.many; omega
 have hn9 : n1 <= 201:=by omega
 have hNn : N < n1:=by omega
 clear hok hn1 hal
 have hmk:=run_make_row' (P:=Try.prog) 22 3 (.int .i64 0) 8 Try.underlying22 Try.info3 rfl .i64 .i64 n1 (by omega) (by omega)
 have hb0:=bel_up (bel_self w) (.cells #[.int .i64 (N : Int),.int .i64 (s0 : Int),fin,.slice aa m ac] 25)
 have hcf : CellsF (w.alloc (.cells #[.int .i64 (N : Int),.int .i64 (s0 : Int),fin,.slice aa m ac] 25)) w.heap.size (N : Int) (s0 : Int) fin (.slice aa m ac):=by simp [CellsF]
 go_enter Try.func97,Try.ntmps97
 go_wp2
 have hu1:=bel_up hb0 (.cells (madeCells #[.int .i64 0] n1) 3)
 have hF0 : FAW w ((w.alloc (.cells #[.int .i64 (N : Int),.int .i64 (s0 : Int),fin,.slice aa m ac] 25)).alloc (.cells (madeCells #[.int .i64 0] n1) 3)) N s0 (w.heap.size + 1) n1 fin (.slice aa m ac) (cntL [] N):=by
  have h1:=made_zero (w.alloc (.cells #[.int .i64 (N : Int),.int .i64 (s0 : Int),fin,.slice aa m ac] 25)) n1
  rw [show (w.alloc (.cells #[.int .i64 (N : Int),.int .i64 (s0 : Int),fin,.slice aa m ac] 25)).heap.size = w.heap.size + 1 by simp] at h1
  exact ⟨hcf.below (bel_up (bel_self _) _),by rw [cntL_nil,<- HN1.out]; exact h1,by omega,hu1⟩
 obtain ⟨G,hG⟩ : ∃ G,G = w.heap.size + 1:=⟨_,rfl⟩
 rw [<- hG] at hF0 ⊢
 clear hG hcf hb0 hu1 hmk
 go_loopw [14] (fun i wr => ∃ k : Nat,k <= m /\ i = .int .i64 k /\ FAW w wr N s0 G n1 fin (.slice aa m ac) (cntL (f.arcs.take k) N)) (fun i _ => m - (intOf i).toNat)
 case atStart => exact ⟨0,Nat.zero_le _,rfl,hF0⟩
 case round =>
  clear hF0
  obtain ⟨k,hk,rfl,hF⟩:=hrel
  by_cases hlt : k < m
  ·obtain ⟨ab,aoff,rfl,hx⟩:=(ha.below hF.bel).some (by omega)
   obtain ⟨a,hak⟩ : ∃ a,a = f.arcs.getD k a0:=⟨_,rfl⟩
   have hkl : k < f.arcs.length:=by have:=HAL.out; omega
   have hka : f.arcs[k]? = some a:=by rw [hak]; simp [List.getD,hkl]
   obtain ⟨⟨p1,p2⟩,_⟩:=HOK.out.arcs a (List.mem_of_getElem? hka)
   obtain ⟨t,ht⟩ : ∃ t : Nat,a.src = t:=⟨a.src.toNat,by omega⟩
   have htN : t < N:=by omega
   have c0:=hx.c0 k hlt
   have c1:=hx.c1 k hlt
   have c2:=hx.c2 k hlt
   have c3:=hx.c3 k hlt
   have c4:=hx.c4 k hlt
   rw [<- hak] at c0 c1 c2 c3 c4
   rw [ht] at c0
   have HSN : Hid ((cntL (f.arcs.take k) N).set (t + 1) (gI (cntL (f.arcs.take k) N) (t + 1) + 1) = cntL (f.arcs.take (k + 1)) N):=by
    have h1:=cntL_snoc (f.arcs.take k) N t a ht htN
    rw [<- show f.arcs.take (k + 1) = f.arcs.take k ++ [a] by rw [List.take_add_one,hka]; rfl] at h1
    exact h1
   have hF2:=hF.below (bel_up (bel_self wr) (.cells #[.int .i64 (t : Int),.int .i64 a.inp,.int .i64 a.out,.int .i64 a.dst,.int .i64 a.wt] 54))
   have r1:=hF2.row.cell (t + 1) (by omega)
   have rz:=hF2.row.frz (t + 1)
   have hbd : 0 <= gI (cntL (f.arcs.take k) N) (t + 1) /\ gI (cntL (f.arcs.take k) N) (t + 1) <= 3000:=by
    rw [cntL_at _ _ _ (by omega)]
    have h1:=oneC_le (f.arcs.take k) (t + 1)
    have h2 : (f.arcs.take k).length <= 3000:=by rw [List.length_take]; omega
    omega
   obtain ⟨x,hxd⟩ : ∃ x,x = gI (cntL (f.arcs.take k) N) (t + 1):=⟨_,rfl⟩
   rw [<- hxd] at r1 hbd HSN
   obtain ⟨hb1,hb2⟩:=hbd
   have hki : (k : Int) < m:=by omega
   have hti : (t : Int) + 1 < n1:=by omega
   clear hak hkl hka p1 p2 ht hx hxd
   go_wp2
   go_roundw
   case rel => exact ⟨k + 1,by omega,by go_num,by rw [<- HSN.out]; exact hF2.set (t + 1) _ (by omega)⟩
   case measure => simp [intOf]; omega
  ·have hkm : f.arcs.take k = f.arcs:=List.take_of_length_le (by have:=HAL.out; omega)
   rw [hkm,<- mixC_zero f.arcs N (fun a ha => (HOK.out.arcs a ha).1.1)] at hF
   obtain ⟨q0,q1,q2,q3⟩:=hF.cf
   clear hkm
   go_wp2
   clear q0 q1 q2 q3
   go_loopw [29] (fun i wr => ∃ j : Nat,j <= N /\ i = .int .i64 j /\ FAW w wr N s0 G n1 fin (.slice aa m ac) (mixC f.arcs N j)) (fun i _ => N - (intOf i).toNat)
   case atStart => exact ⟨0,Nat.zero_le _,rfl,hF⟩
   case round =>
    clear hF
    obtain ⟨j,hj,rfl,hF⟩:=hrel
    by_cases hlt2 : j < N
    ·have HSN : Hid ((mixC f.arcs N j).set (j + 1) (gI (mixC f.arcs N j) (j + 1) + gI (mixC f.arcs N j) j) = mixC f.arcs N (j + 1)):=mixC_succ f.arcs N j hlt2
     have hbd : (0 <= gI (mixC f.arcs N j) (j + 1) /\ gI (mixC f.arcs N j) (j + 1) <= 3000) /\ (0 <= gI (mixC f.arcs N j) j /\ gI (mixC f.arcs N j) j <= 3000):=by
      rw [mixC_at _ _ _ _ (by omega),mixC_at _ _ _ _ (by omega),if_neg (by omega),if_pos (Nat.le_refl _)]
      have h1:=oneC_le f.arcs (j + 1)
      have h2:=cntB_le f.arcs j
      have h3:=HAL.out
      omega
     obtain ⟨x1,hx1⟩ : ∃ x,x = gI (mixC f.arcs N j) (j + 1):=⟨_,rfl⟩
     obtain ⟨x0,hx0⟩ : ∃ x,x = gI (mixC f.arcs N j) j:=⟨_,rfl⟩
     have hFd:=hF.below (bel_self wr).drew
     have r1:=hFd.row.cell (j + 1) (by omega)
     have r0:=hFd.row.cell j (by omega)
     have rz:=hFd.row.frz (j + 1)
     rw [<- hx1] at r1 hbd HSN
     rw [<- hx0] at r0 hbd HSN
     obtain ⟨⟨hb1,hb2⟩,hb3,hb4⟩:=hbd
     have hji : (j : Int) < N:=by omega
     have hj1 : (j : Int) + 1 < n1:=by omega
     have hjn : (j : Int) < n1:=by omega
     have hw1 : IntKind.i64.wrap ((j : Int) + 1) = (j : Int) + 1:=wrap_in _ (by omega) (by omega)
     clear hx1 hx0
     go_wp2
     obtain ⟨Wd,hWd⟩ : ∃ Wd,Wd = wr.drew:=⟨_,rfl⟩
     rw [<- hWd] at r1 r0 rz hFd
     have hS0 : (fun wx : World => wx.cell? ⟨G,j + 1,none⟩ = some (.int .i64 x1) /\ wx.cell? ⟨G,j,none⟩ = some (.int .i64 x0)) Wd:=⟨r1,r0⟩
     refine wp_region_noPanic ?_
     refine wp_region_F (fun wx => wx.cell? ⟨G,j + 1,none⟩ = some (.int .i64 x1) /\ wx.cell? ⟨G,j,none⟩ = some (.int .i64 x0)) [11] (by kernel_rfl) (by rw [<- hWd]; exact hS0) (fun _ => ?_)
     rw [<- hWd]
     clear hWd
     refine wpAnyF_free (i:=0) (v:=.slice (some ⟨G,0,none⟩) n1 n1) rfl (by kernel_rfl) (by kernel_rfl) (by kernel_rfl) (by kernel_rfl) (fun _ _ _ h => h) (Or.inl ⟨by rfl,fun wl hSw => ?_⟩) hS0 ?_
     ·(try dsimp only at hSw); go_simp
     refine wpAnyF_free (i:=1) (v:=.int .i64 j) rfl (by kernel_rfl) (by kernel_rfl) (by kernel_rfl) (by kernel_rfl) (fun _ _ _ h => h) (Or.inl ⟨by rfl,fun wl hSw => ?_⟩) hS0 ?_
     ·(try dsimp only at hSw); go_simp
     refine wpAnyF_free (i:=2) (v:=.int .i64 ((j : Int) + 1)) rfl (by kernel_rfl) (by kernel_rfl) (by kernel_rfl) (by kernel_rfl) (fun _ _ _ h => h) (Or.inl ⟨by rfl,fun wl hSw => ?_⟩) hS0 ?_
     ·(try dsimp only at hSw); go_simp
     refine wpAnyF_free (i:=3) (v:=.pointer (some ⟨G,j + 1,none⟩)) rfl (by kernel_rfl) (by kernel_rfl) (by kernel_rfl) (by kernel_rfl) (fun _ _ _ h => h) (Or.inl ⟨by rfl,fun wl hSw => ?_⟩) hS0 ?_
     ·(try dsimp only at hSw); go_simp; (intro hneg; omega)
     refine tkF (i:=4) (v:=.int .i64 x1) rfl (by kernel_rfl) (fun _ _ _ h => h) (by rfl) hS0 (fun wl hSw => ?_) ?_
     ·(try dsimp only at hSw); go_simp
     refine wpAnyF_free (i:=5) (v:=.slice (some ⟨G,0,none⟩) n1 n1) rfl (by kernel_rfl) (by kernel_rfl) (by kernel_rfl) (by kernel_rfl) (fun _ _ _ h => h) (Or.inl ⟨by rfl,fun wl hSw => ?_⟩) hS0 ?_
     ·(try dsimp only at hSw); go_simp
     refine wpAnyF_free (i:=6) (v:=.int .i64 j) rfl (by kernel_rfl) (by kernel_rfl) (by kernel_rfl) (by kernel_rfl) (fun _ _ _ h => h) (Or.inl ⟨by rfl,fun wl hSw => ?_⟩) hS0 ?_
     ·(try dsimp only at hSw); go_simp
     refine wpAnyF_free (i:=7) (v:=.pointer (some ⟨G,j,none⟩)) rfl (by kernel_rfl) (by kernel_rfl) (by kernel_rfl) (by kernel_rfl) (fun _ _ _ h => h) (Or.inl ⟨by rfl,fun wl hSw => ?_⟩) hS0 ?_
     ·(try dsimp only at hSw); go_simp
     refine tkF (i:=8) (v:=.int .i64 x0) rfl (by kernel_rfl) (fun _ _ _ h => h) (by rfl) hS0 (fun wl hSw => ?_) ?_
     ·(try dsimp only at hSw); go_simp
     refine wpAnyF_free (i:=9) (v:=.int .i64 (x1 + x0)) rfl (by kernel_rfl) (by kernel_rfl) (by kernel_rfl) (by kernel_rfl) (fun _ _ _ h => h) (Or.inl ⟨by rfl,fun wl hSw => ?_⟩) hS0 ?_
     ·(try dsimp only at hSw); go_simp; exact wrap_in _ (by omega) (by omega)
     refine wpAnyF_free (i:=10) (v:=.pointer (some ⟨G,j + 1,none⟩)) rfl (by kernel_rfl) (by kernel_rfl) (by kernel_rfl) (by kernel_rfl) (fun _ _ _ h => h) (Or.inl ⟨by rfl,fun wl hSw => ?_⟩) hS0 ?_
     ·(try dsimp only at hSw); go_simp; (intro hneg; omega)
     refine wpAnyF_one (i:=11) rfl (by kernel_rfl) (fun K hK => ?_)
     go_simp
     refine hK.out _ _ ⟨fun h => absurd h (unl_no (by kernel_rfl)),?_⟩
     clear hK K
     refine wpAnyF_done (by kernel_rfl) ?_ _
     refine NoPanic.normal ?_
     go_wp2
     go_roundw
     case rel => exact ⟨j + 1,by omega,by go_num,by rw [<- HSN.out]; exact hFd.set (j + 1) _ (by omega)⟩
     case measure => simp [intOf]; omega
    ·have hjN : j = N:=by omega
     rw [hjN,mixC_all] at hF
     clear hjN
     go_wp2
     go_ret
     exact ⟨G,rfl,hF.row,by have:=hF.ge; omega,hF.bel⟩
end Go.Proofs.Yteehgcbjmdideab
