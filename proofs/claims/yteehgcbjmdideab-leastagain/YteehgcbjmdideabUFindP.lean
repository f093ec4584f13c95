/- 'find' of the search. -/
import Derived.Test.YteehgcbjmdideabUM08
set_option maxRecDepth 100000
namespace Go.Proofs.Yteehgcbjmdideab
open Go.RowKit
attribute [local go_sem ↓] Go.wp_at_zero Go.wp_at_succ
theorem goW : ∀ args w,(callFunc 77 args).run Try.prog w = .ok (.enter 77 args) w:=by
 intro args w
 have h1 : (Try.f77.name == "runtime.NumGoroutine") = false := by kernel_rfl
 have h2 : Try.f77.body.isNone = false:=by kernel_rfl
 have h3 : ¬ Try.f77.name = "runtime.NumGoroutine" := by simpa using h1
 have h4 : ¬ Try.f77.body = none:=fun e => by rw [e] at h2; cases h2
 simp [callFunc,Try.func77,h3,h4]
theorem look_bag {w : World} {b : Nat} {ms : List MetD} {n i o : Nat} {c' a' : Int} (h : MetAt w b ms) (hf : foundV (lookM n i o ms) = stepV c' a') : (Instr.lookup 113 (.map (some b)) (.agg #[.int .i64 n,.int .i64 i,.int .i64 o]) false).run Try.prog w = .ok (.agg #[.int .i64 c',.int .i64 a']) w:=by
 have:=look_bare h n i o
 rw [hf] at this
 exact this
theorem field_step0 (a b : Int) (w : World) : (Instr.field 120 (.agg #[.int .i64 a,.int .i64 b]) 0).run Try.prog w = .ok (.int .i64 a) w:=by kernel_rfl
theorem fin_last {f : FstD} {ins outs : List Int} {N s0 n i o : Nat} {fc : Int} (hok : OkW f ins outs N s0) (hn : n < N) (hi : i <= ins.length) (ho : o <= outs.length) (h : finS (totS ins outs N) N f.final (spotN N outs.length n i o) = fc) : (fc < 0 -> fc = -1) /\ (0 <= fc -> i = ins.length /\ o = outs.length /\ fc = gI f.final n /\ fc <= 1000000000):=by
 unfold totS at h
 by_cases he : i < ins.length \/ o < outs.length
 ·rw [finS_no N ins.length outs.length n i o f.final hn hi ho he] at h
  omega
 ·have e1 : i = ins.length:=by omega
  have e2 : o = outs.length:=by omega
  subst e1 e2
  rw [finS_end] at h
  have h1 : gI f.final n = -1 \/ (0 <= gI f.final n /\ gI f.final n <= 1000000000):=by
   unfold gI
   simp only [List.getD,List.getElem?_eq_getElem (show n < f.final.length by rw [hok.len]; exact hn),Option.getD_some]
   exact hok.fin _ (List.getElem_mem _)
  omega
def LastOk (f : FstD) (ins outs : List Int) (N : Nat) (c : List Int) (best : Int) (n i o : Nat) : Prop :=
 n < N /\ i = ins.length /\ o = outs.length /\ 0 <= gI f.final n /\ 0 <= gI c (spotN N outs.length n i o) /\ gI c (spotN N outs.length n i o) + gI f.final n <= best
theorem LastOk.mono {f : FstD} {ins outs : List Int} {N n i o : Nat} {c c2 : List Int} {best : Int} (h : LastOk f ins outs N c best n i o) (hl : LeC c2 c) : LastOk f ins outs N c2 best n i o:=by
 obtain ⟨h1,h2,h3,h4,h5,h6⟩:=h
 obtain ⟨h7,h8⟩:=hl _ h5
 exact ⟨h1,h2,h3,h4,h7,by omega⟩
theorem own_slice {w : World} {B e size n : Nat} {v : Value} {xs : List Value} (h : w.ownsRow B e size v n xs) : ∃ a cap,v = .slice a n cap:=by
 obtain ⟨_,h⟩:=h
 rcases h with ⟨rfl,rfl⟩ | ⟨g,cap,cur,rfl,_⟩
 ·exact ⟨none,0,rfl⟩
 ·exact ⟨_,cap,rfl⟩
def FindRes (w0 : World) (f : FstD) (ins outs : List Int) (N s0 B Mb Fb : Nat) (fin : Value) (aa : Option Addr) (m ac : Nat) (ia : Option Addr) (il ic : Nat) (oa : Option Addr) (ol oc : Nat) (e : Ending) (w' : World) : Prop :=
 ∃ best n i o c y ms L v,e = .returned (.tuple #[spotV n i o,.int .i64 best]) /\ SW w0 w' N s0 B Mb Fb fin (.slice aa m ac) (.slice ia il ic) (.slice oa ol oc) v (fstL f.arcs N) ms L /\ IsBest (EdS f ins outs N) (bgS s0 (totS ins outs N)) (finS (totS ins outs N) N f.final) best /\ Inv (EdS f ins outs N) (bgS s0 (totS ins outs N)) c y /\ MsOk N ins.length outs.length f.arcs.length c y ms /\ (best ≠ -1 -> LastOk f ins outs N c best n i o) /\ -1 <= best /\ best <= 500000000000000
structure FB (R Lb ln li lo' : Nat) (v : Value) (w : World) : Prop where
 l0 : w.cell? ⟨Lb,0,none⟩ = some (.int .i64 ln)
 l1 : w.cell? ⟨Lb,1,none⟩ = some (.int .i64 li)
 l2 : w.cell? ⟨Lb,2,none⟩ = some (.int .i64 lo')
 zR : w.heap[R]? = some (.cells #[.int .i64 0,.int .i64 0,.int .i64 0] 96 (0,0))
 fz : ∀ k,w.frozen? ⟨Lb,k,none⟩ = false
 vR : v.ownBlock ≠ some R
 vL : v.ownBlock ≠ some Lb
theorem FB.step {B Mb R Lb ln li lo' : Nat} {v v' : Value} {w w' : World} (h : FB R Lb ln li lo' v w) (hm : MStep B Mb w v w' v') (hRB : R ≠ B) (hRM : R ≠ Mb) (hLB : Lb ≠ B) (hLM : Lb ≠ Mb) : FB R Lb ln li lo' v' w' :=
 ⟨hm.cell h.l0 hLB hLM h.vL,hm.cell h.l1 hLB hLM h.vL,hm.cell h.l2 hLB hLM h.vL,(hm.block R (heap_lt h.zR) hRB hRM h.vR).trans h.zR,fun k => (World.frozen?_of_block (w:=w) (a:=⟨Lb,k,none⟩) (hm.block Lb (cell_lt h.l0) hLB hLM h.vL)).trans (h.fz k),fun e => by
  rcases hm.own _ e with e | e
  ·exact h.vR e
  ·have:=heap_lt h.zR; omega,fun e => by
  rcases hm.own _ e with e | e
  ·exact h.vL e
  ·have:=cell_lt h.l0; omega⟩
theorem FB.below {R Lb ln li lo' : Nat} {v : Value} {w w' : World} (h : FB R Lb ln li lo' v w) (hb : Below w.heap.size w w') : FB R Lb ln li lo' v w' :=
 ⟨bel_c hb h.l0,bel_c hb h.l1,bel_c hb h.l2,heap_bel hb h.zR,fun k => (hb.frozen (p:=⟨Lb,k,none⟩) (cell_lt h.l0)).trans (h.fz k),h.vR,h.vL⟩
theorem FB.put {R Lb ln li lo' : Nat} {v : Value} {w : World} (h : FB R Lb ln li lo' v w) (hLR : Lb ≠ R) (a b d : Nat) : FB R Lb a b d v (((w.setCell ⟨Lb,0,none⟩ (.int .i64 a)).setCell ⟨Lb,1,none⟩ (.int .i64 b)).setCell ⟨Lb,2,none⟩ (.int .i64 d)) :=
 ⟨set_off (set_off (World.cell?_setCell_same _ _ _ h.l0) (by decide)) (by decide),set_off (World.cell?_setCell_same _ _ _ (set_off h.l1 (by decide))) (by decide),World.cell?_setCell_same _ _ _ (set_off (set_off h.l2 (by decide)) (by decide)),heap_far (heap_far (heap_far h.zR (Ne.symm hLR)) (Ne.symm hLR)) (Ne.symm hLR),fun k => by simp only [World.frozen?_setCell]; exact h.fz k,h.vR,h.vL⟩
theorem SW.far {w0 w : World} {N s0 B Mb Fb : Nat} {fin arcs iv ov v : Value} {fl : List Int} {ms : List MetD} {L : List PlD} (h : SW w0 w N s0 B Mb Fb fin arcs iv ov v fl ms L) {V k : Nat} {u : Value} (h1 : V ≠ B) (h2 : V ≠ Mb) (h3 : V ≠ Fb) (h4 : v.ownBlock ≠ some V) (h5 : w0.heap.size <= V) : SW w0 (w.setCell ⟨V,k,none⟩ u) N s0 B Mb Fb fin arcs iv ov v fl ms L :=
 ⟨(set_far (Ne.symm h1)).trans h.c0,(set_far (Ne.symm h1)).trans h.c1,(set_far (Ne.symm h1)).trans h.c2,(set_far (Ne.symm h1)).trans h.c3,(set_far (Ne.symm h1)).trans h.c4,(set_far (Ne.symm h1)).trans h.c5,(set_far (Ne.symm h1)).trans h.c6,(set_far (Ne.symm h1)).trans h.c7,⟨(set_far (Ne.symm h1)).trans h.q.cell,(World.frozen?_setCell _ _ _ _).trans h.q.frz,ownsRow_setCell_far h.q.row h4,h.q.ne,by simpa [World.setCell] using h.q.base_le⟩,h.first.other (Ne.symm h3),h.met.block (Below.heap_setCell w ⟨V,k,none⟩ u Mb (Ne.symm h2)),h.BM,h.BF,h.MF,h.vM,h.vF,h.gB,h.gM,h.gF,h.bel.setCell (p:=⟨V,k,none⟩) h5 _,h.hp⟩
section
variable {f : FstD} {ins outs : List Int} {N s0 : Nat} {c y : List Int} {ms : List MetD} {L : List PlD} {p : PlD} {best : Int} {x0 : Nat} {D : List Nat} {lo : Int}
theorem SGh.stale (h : SGh f ins outs N s0 c y ms (p :: L) best x0 D lo) (hs : gI c (eP N outs.length p) < p.cost) (hmin : ∀ q ∈ L,p.cost <= q.cost) : SGh f ins outs N s0 c y ms L best x0 D p.cost :=
 ⟨h.si.stale hs,h.sd.stale hmin,h.mo,fun q hq => h.vd q (List.mem_cons_of_mem _ hq),h.cl⟩
theorem SGh.take (h : SGh f ins outs N s0 c y ms (p :: L) best (totS ins outs N) D lo) (hs : p.cost = gI c (eP N outs.length p)) (hmin : ∀ q ∈ L,p.cost <= q.cost) : SGh f ins outs N s0 c y ms L best (eP N outs.length p) (eP N outs.length p :: D) p.cost:=by
 obtain ⟨h1,h2,h3⟩:=h.vd p List.mem_cons_self
 have h4:=(h.si.heap p List.mem_cons_self).1
 exact ⟨h.si.take (by rw [h.cl]; exact Nat.le_refl _),h.sd.take hmin hs (by omega) (by rw [h.cl]; exact spotN_lt h1 h2 h3) (fun q hq => (h.si.heap q (List.mem_cons_of_mem _ hq)).2),h.mo,fun q hq => h.vd q (List.mem_cons_of_mem _ hq),h.cl⟩
theorem SGh.ends {u0 : Nat} (h : SGh f ins outs N s0 c y ms L best u0 D lo) (hx : gI c u0 = lo) (hx0 : 0 <= lo) {fc : Int} (hfc : finS (totS ins outs N) N f.final u0 = fc) (hf : 0 <= fc) (hb : best = -1 \/ lo + fc < best) : SGh f ins outs N s0 c y ms L (lo + fc) u0 D lo:=by
 subst hfc
 exact ⟨h.si.ends hx hx0 hf hb,h.sd,h.mo,h.vd,h.cl⟩
theorem SGh.done {u0 : Nat} (h : SGh f ins outs N s0 c y ms L best u0 D lo) (hr : ∀ e ∈ EdS f ins outs N,e.u = u0 -> Rlx c e) (hf : 0 <= finS (totS ins outs N) N f.final u0 -> 0 <= best /\ best <= gI c u0 + finS (totS ins outs N) N f.final u0) : SGh f ins outs N s0 c y ms L best (totS ins outs N) D lo :=
 ⟨h.si.done hr hf,h.sd,h.mo,h.vd,h.cl⟩
theorem SGh.isBest (hok : OkW f ins outs N s0) (h : SGh f ins outs N s0 c y ms L best (totS ins outs N) D lo) (hL : ∀ q ∈ L,0 <= best /\ best <= q.cost) : IsBest (EdS f ins outs N) (bgS s0 (totS ins outs N)) (finS (totS ins outs N) N f.final) best :=
 h.si.best (by rw [h.cl]; exact Nat.le_refl _) (fun e he => (hok.edges e he).2.1) hL
end
def FRel (w0 : World) (f : FstD) (ins outs : List Int) (N s0 B Mb Fb : Nat) (fin : Value) (aa : Option Addr) (m ac : Nat) (ia : Option Addr) (il ic : Nat) (oa : Option Addr) (ol oc : Nat) (R Lb : Nat) (gk : Nat) (t7 : Value) (wr : World) : Prop :=
 ∃ best c y ms L v D lo ln li lo',gk = (totS ins outs N - D.length) * 3001 + L.length /\ t7 = .int .i64 best /\ SW w0 wr N s0 B Mb Fb fin (.slice aa m ac) (.slice ia il ic) (.slice oa ol oc) v (fstL f.arcs N) ms L /\ SGh f ins outs N s0 c y ms L best (totS ins outs N) D lo /\ L.length <= 1 + 3000 * D.length /\
  FB R Lb ln li lo' v wr /\ (best ≠ -1 -> LastOk f ins outs N c best ln li lo') /\ -1 <= best /\ best <= 500000000000000
theorem SGh.dlen {f : FstD} {ins outs : List Int} {N s0 : Nat} {c y : List Int} {ms : List MetD} {L : List PlD} {best : Int} {x0 : Nat} {D : List Nat} {lo : Int} (h : SGh f ins outs N s0 c y ms L best x0 D lo) : D.length <= totS ins outs N:=by
 have:=nodup_le c.length D h.sd.nd h.sd.lt
 rw [h.cl] at this
 exact this
set_option maxHeartbeats 8000000 in
theorem find_any (w0 : World) (f : FstD) (ins outs : List Int) (N s0 B Mb Fb : Nat) (fin : Value) (aa : Option Addr) (m ac : Nat) (ia : Option Addr) (il ic : Nat) (oa : Option Addr) (ol oc : Nat) (k1 k2 k3 : Value) (v : Value) (c y : List Int) (ms : List MetD) (p : PlD) (w : World)
  (hok : OkW f ins outs N s0) (ha : ASlice w0 (.slice aa m ac) f.arcs) (hal : f.arcs.length = m) (hI : ISlice w0 (.slice ia il ic) ins) (hil : ins.length = il) (hO : ISlice w0 (.slice oa ol oc) outs) (hol : outs.length = ol)
  (hend : ∀ (n i o : Nat) (W : World),n < N -> i <= il -> o <= ol -> Below w0.heap.size w0 W -> Calls Try.prog 77 #[.agg #[.int .i64 n,.int .i64 i,.int .i64 o],k1,k2,k3] W fun e w' => e = .returned (.int .i64 (finS (totS ins outs N) N f.final (spotN N outs.length n i o))) /\ Below W.heap.size W w')
  (h : SW w0 w N s0 B Mb Fb fin (.slice aa m ac) (.slice ia il ic) (.slice oa ol oc) v (fstL f.arcs N) ms [p]) (hg : SGh f ins outs N s0 c y ms [p] (-1) (totS ins outs N) [] 0) :
  Calls Try.prog 76 #[.pointer (some ⟨B,0,none⟩),.func (.func 77) #[] #[k1,k2,k3]] w fun e w' => FindRes w0 f ins outs N s0 B Mb Fb fin aa m ac ia il ic oa ol oc e w':=by
 have HOK : Hid (OkW f ins outs N s0):=hok
 have HAL : Hid (f.arcs.length = m):=hal
 have HIL : Hid (ins.length = il):=hil
 have HOL : Hid (outs.length = ol):=hol
 have HEND:=hend
 replace HEND : Hid _:=HEND
 have hG:=goW
 have has:=assert_pl
 clear hok hal hil hol hend
 have hb1:=bel_up (bel_self w) (.cells #[.int .i64 0,.int .i64 0,.int .i64 0] 96)
 have hb2:=bel_up hb1 (.cells #[.int .i64 0,.int .i64 0,.int .i64 0] 96)
 have hz1 : (w.alloc (.cells #[.int .i64 0,.int .i64 0,.int .i64 0] 96)).heap[w.heap.size]? = some (.cells #[.int .i64 0,.int .i64 0,.int .i64 0] 96 (0,0)):=heap_alloc_new w _
 have hz2 : ((w.alloc (.cells #[.int .i64 0,.int .i64 0,.int .i64 0] 96)).alloc (.cells #[.int .i64 0,.int .i64 0,.int .i64 0] 96)).heap[w.heap.size + 1]? = some (.cells #[.int .i64 0,.int .i64 0,.int .i64 0] 96 (0,0)):=by
  have:=heap_alloc_new (w.alloc (.cells #[.int .i64 0,.int .i64 0,.int .i64 0] 96)) (.cells #[.int .i64 0,.int .i64 0,.int .i64 0] 96)
  simpa using this
 have hz1':=heap_bel (bel_up (bel_self (w.alloc (.cells #[.int .i64 0,.int .i64 0,.int .i64 0] 96))) (.cells #[.int .i64 0,.int .i64 0,.int .i64 0] 96)) hz1
 have hSW:=h.below hb2
 have hvl : ∀ g,v.ownBlock = some g -> g < w.heap.size:=ownsRow_lt0 h.q.row
 have hlB:=cell_lt h.c0
 have hlM:=h.met.lt
 have hlF:=h.first.lt
 have hgB0:=h.gB
 go_enter Try.func76,Try.ntmps76
 go_wp2
 obtain ⟨R,hR⟩ : ∃ R,R = w.heap.size:=⟨_,rfl⟩
 rw [<- hR] at hz1' hz2 ⊢
 obtain ⟨W,hW⟩ : ∃ W,W = (w.alloc (.cells #[.int .i64 0,.int .i64 0,.int .i64 0] 96)).alloc (.cells #[.int .i64 0,.int .i64 0,.int .i64 0] 96):=⟨_,rfl⟩
 rw [<- hW] at hz1' hz2 hSW ⊢
 have l0 : W.cell? ⟨R + 1,0,none⟩ = some (.int .i64 ((0 : Nat) : Int)):=by have:=Go.Joins.cell_of_block hz2 0; simpa using this
 have l1 : W.cell? ⟨R + 1,1,none⟩ = some (.int .i64 ((0 : Nat) : Int)):=by have:=Go.Joins.cell_of_block hz2 1; simpa using this
 have l2 : W.cell? ⟨R + 1,2,none⟩ = some (.int .i64 ((0 : Nat) : Int)):=by have:=Go.Joins.cell_of_block hz2 2; simpa using this
 have hRB : R ≠ B:=by omega
 have hRM : R ≠ Mb:=by omega
 have hLB : R + 1 ≠ B:=by omega
 have hLM : R + 1 ≠ Mb:=by omega
 have hRF : R ≠ Fb:=by omega
 have hLF : R + 1 ≠ Fb:=by omega
 have hR0w : w0.heap.size <= R:=by have:=hgB0; omega
 have hR0 : FRel w0 f ins outs N s0 B Mb Fb fin aa m ac ia il ic oa ol oc R (R + 1) (totS ins outs N * 3001 + 1) (.int .i64 (-1)) W :=
  ⟨-1,c,y,ms,[p],v,[],0,0,0,0,rfl,rfl,hSW,hg,by simp,⟨l0,l1,l2,hz1',fun k => Go.Joins.unfrozen_of_block hz2 k,fun e => by have:=hvl _ e; omega,fun e => by have:=hvl _ e; omega⟩,fun h => absurd rfl h,by decide,by decide⟩
 clear hW hz1 hz1' hz2 hSW l0 l1 l2 hvl hlB hlM hlF hgB0 hg h hb1 hb2
 obtain ⟨Lb,hLb⟩ : ∃ Lb,Lb = R + 1:=⟨_,rfl⟩
 rw [<- hLb] at hR0 hLB hLM hLF ⊢
 have hLR : Lb ≠ R:=by omega
 have hL0w : w0.heap.size <= Lb:=by omega
 clear hLb hR
 go_loopg [7] (totS ins outs N * 3001 + 1) (fun gk t7 wr => FRel w0 f ins outs N s0 B Mb Fb fin aa m ac ia il ic oa ol oc R Lb gk t7 wr)
 case atStart => exact hR0
 case round =>
  clear hR0
  obtain ⟨best,c,y,ms,L,v,D,lo,ln,li,lo',hgk,rfl,hS,hGh,hLl,hFB,hlast,hb0,hb9⟩:=hrel
  have HGH : Hid (SGh f ins outs N s0 c y ms L best (totS ins outs N) D lo):=hGh
  have HLA : Hid (best ≠ -1 -> LastOk f ins outs N c best ln li lo'):=hlast
  have HGK : Hid (gk = (totS ins outs N - D.length) * 3001 + L.length):=hgk
  have HLL : Hid (L.length <= 1 + 3000 * D.length):=hLl
  have hDT:=hGh.dlen
  have hT4:=HOK.out.tot
  have hLN : L.length <= 1500000000:=by omega
  have HDT : Hid (D.length <= totS ins outs N /\ totS ins outs N <= 400000):=⟨hDT,hT4⟩
  clear hGh hlast hgk hLl hDT hT4
  by_cases hL0 : L.length = 0
  ·have HBS : Hid (IsBest (EdS f ins outs N) (bgS s0 (totS ins outs N)) (finS (totS ins outs N) N f.final) best):=HGH.out.isBest HOK.out (fun q hq => by rw [List.length_eq_zero_iff.1 hL0] at hq; cases hq)
   obtain ⟨va,vc,rfl⟩:=own_slice hS.q.row
   have c8:=hS.q.cell
   rw [hL0] at c8
   obtain ⟨l0,l1,l2,zR,fz,vR,vL⟩:=hFB
   have z0 : wr.cell? ⟨R,0,none⟩ = some (.int .i64 0):=by have:=Go.Joins.cell_of_block zR 0; simpa using this
   have z1 : wr.cell? ⟨R,1,none⟩ = some (.int .i64 0):=by have:=Go.Joins.cell_of_block zR 1; simpa using this
   have z2 : wr.cell? ⟨R,2,none⟩ = some (.int .i64 0):=by have:=Go.Joins.cell_of_block zR 2; simpa using this
   have y0:=Go.Joins.unfrozen_of_block zR 0
   have y1:=Go.Joins.unfrozen_of_block zR 1
   have y2:=Go.Joins.unfrozen_of_block zR 2
   clear zR fz
   go_wp2_with (go_at_call 99; refine (qLen_any _ _ _ wr).mono ?_; rintro e w2 ⟨rfl,hw2⟩; obtain rfl:=hw2.symm)
   exact bodyPost_ret (v:=.tuple #[.agg #[.int .i64 ln,.int .i64 li,.int .i64 lo'],.int .i64 best]) (by simp [results,Try.results76,go_sem, *]) rfl ⟨best,ln,li,lo',c,y,ms,_,_,rfl,((hS.far (k:=0) hRB hRM hRF vR hR0w).far (k:=1) hRB hRM hRF vR hR0w).far (k:=2) hRB hRM hRF vR hR0w,HBS.out,HGH.out.si.inv,HGH.out.mo,HLA.out,hb0,hb9⟩
  ·obtain ⟨mm,hmm⟩ : ∃ mm,L.length = mm + 1:=⟨L.length - 1,by omega⟩
   obtain ⟨g,cap,hv⟩:=Go.Joins.ownsRow_form hS.q.row (by omega)
   rw [hv] at hS hFB
   obtain ⟨nl,hnl⟩ : ∃ nl,nl = L.length:=⟨_,rfl⟩
   rw [<- hnl] at hS hFB
   have c8:=hS.q.cell
   have hhp:=hS.hp
   rw [<- hnl] at hhp
   have hpop:=hpop_any B w0.heap.size g cap nl mm L wr hnl.symm (by omega) hS.q (by omega) hhp
   have HNL : Hid (nl = L.length /\ L.length = mm + 1):=⟨hnl,hmm⟩
   have hnli : (0 : Int) < nl:=by omega
   clear hhp hmm hv hL0 hnl
   unfold plV at hpop
   go_wp2_with (go_at_call 99; refine (qLen_any _ _ _ wr).mono ?_; rintro e w2 ⟨rfl,hw2⟩; obtain rfl:=hw2.symm)
   refine hpop.mono ?_
   rintro e w1 ⟨p,rfl,v1,L1,hp1,hh1,hmin,hq1,hst1⟩
   have hM1 : MStep B Mb wr (.slice (some ⟨g,0,none⟩) nl cap) w1 v1:=MStep.que hst1
   have hS1:=hS.step hst1 hq1 hh1
   have hFB1:=hFB.step hM1 hRB hRM hLB hLM
   have HG1 : Hid (SGh f ins outs N s0 c y ms (p :: L1) best (totS ins outs N) D lo):=HGH.out.perm hp1.symm
   have hl1 : L.length = L1.length + 1:=by rw [<- hp1.length_eq,List.length_cons]
   have hmin' : ∀ q ∈ L1,p.cost <= q.cost:=hmin
   have hpv0:=HG1.out.vd p List.mem_cons_self
   have hpv : p.st < N /\ p.rd <= il /\ p.wt <= ol:=by have:=HIL.out; have:=HOL.out; omega
   obtain ⟨hgc0,hgc1⟩:=HG1.out.si.heap p List.mem_cons_self
   have hgtop:=HG1.out.si.inv.topK (by rw [bgS_len]; exact HOK.out.tot) (eP N outs.length p)
   obtain ⟨gc,hgc⟩ : ∃ gc,gc = gI c (eP N outs.length p):=⟨_,rfl⟩
   rw [<- hgc] at hgc0 hgc1 hgtop
   obtain ⟨ga,hga⟩ : ∃ ga,ga = arcOf f.arcs.length (gI y (spotN N outs.length p.st p.rd p.wt)):=⟨_,rfl⟩
   have HFV : Hid (foundV (lookM p.st p.rd p.wt ms) = stepV gc ga):=by
    rcases HG1.out.look hpv0.1 hpv0.2.1 hpv0.2.2 with ⟨h1,_⟩ | ⟨_,h2⟩
    ·have h3 : gc = -1:=hgc.trans h1
     omega
    ·rw [h2,hgc,hga]; rfl
   have HGC : Hid (gc = gI c (eP N outs.length p)):=hgc
   have hub:=bel_up (bel_self w1) (.cells #[.int .i64 (p.st : Int),.int .i64 (p.rd : Int),.int .i64 (p.wt : Int),.int .i64 p.cost] 123)
   have hS2:=hS1.below hub
   have hFB2:=hFB1.below hub
   have b0 : (w1.alloc (.cells #[.int .i64 (p.st : Int),.int .i64 (p.rd : Int),.int .i64 (p.wt : Int),.int .i64 p.cost] 123)).cell? ⟨w1.heap.size,0,none⟩ = some (.int .i64 p.st):=new_cell _ _ _ _ 0 _ rfl rfl
   have b1 : (w1.alloc (.cells #[.int .i64 (p.st : Int),.int .i64 (p.rd : Int),.int .i64 (p.wt : Int),.int .i64 p.cost] 123)).cell? ⟨w1.heap.size,1,none⟩ = some (.int .i64 p.rd):=new_cell _ _ _ _ 1 _ rfl rfl
   have b2 : (w1.alloc (.cells #[.int .i64 (p.st : Int),.int .i64 (p.rd : Int),.int .i64 (p.wt : Int),.int .i64 p.cost] 123)).cell? ⟨w1.heap.size,2,none⟩ = some (.int .i64 p.wt):=new_cell _ _ _ _ 2 _ rfl rfl
   have b3 : (w1.alloc (.cells #[.int .i64 (p.st : Int),.int .i64 (p.rd : Int),.int .i64 (p.wt : Int),.int .i64 p.cost] 123)).cell? ⟨w1.heap.size,3,none⟩ = some (.int .i64 p.cost):=new_cell _ _ _ _ 3 _ rfl rfl
   have hVL : w1.heap.size ≠ Lb:=by have:=cell_lt hFB1.l0; omega
   clear hpop hS hFB c8 hp1 hh1 hq1 hst1 hM1 hS1 hFB1 hub hgc hga hpv0 hmin
   by_cases hbrk : best ≠ -1 /\ best <= p.cost
   ·obtain ⟨hbn,hbc⟩:=hbrk
    have hbb : (best != -1) = true:=by simpa using hbn
    have HBS : Hid (IsBest (EdS f ins outs N) (bgS s0 (totS ins outs N)) (finS (totS ins outs N) N f.final) best):=HG1.out.isBest HOK.out (fun q hq => by
     rcases List.mem_cons.1 hq with rfl | hq
     ·omega
     ·have:=hmin' q hq; omega)
    clear HFV HGC
    obtain ⟨l0,l1,l2,zR,fz,vR,vL⟩:=hFB2
    have z0 : (w1.alloc (.cells #[.int .i64 (p.st : Int),.int .i64 (p.rd : Int),.int .i64 (p.wt : Int),.int .i64 p.cost] 123)).cell? ⟨R,0,none⟩ = some (.int .i64 0):=by have:=Go.Joins.cell_of_block zR 0; simpa using this
    have z1 : (w1.alloc (.cells #[.int .i64 (p.st : Int),.int .i64 (p.rd : Int),.int .i64 (p.wt : Int),.int .i64 p.cost] 123)).cell? ⟨R,1,none⟩ = some (.int .i64 0):=by have:=Go.Joins.cell_of_block zR 1; simpa using this
    have z2 : (w1.alloc (.cells #[.int .i64 (p.st : Int),.int .i64 (p.rd : Int),.int .i64 (p.wt : Int),.int .i64 p.cost] 123)).cell? ⟨R,2,none⟩ = some (.int .i64 0):=by have:=Go.Joins.cell_of_block zR 2; simpa using this
    have y0:=Go.Joins.unfrozen_of_block zR 0
    have y1:=Go.Joins.unfrozen_of_block zR 1
    have y2:=Go.Joins.unfrozen_of_block zR 2
    clear zR fz
    clear b0 b1 b2
    go_wp2
    exact bodyPost_ret (v:=.tuple #[.agg #[.int .i64 ln,.int .i64 li,.int .i64 lo'],.int .i64 best]) (by simp [results,Try.results76,go_sem, *]) rfl ⟨best,ln,li,lo',c,y,ms,_,_,rfl,((hS2.far (k:=0) hRB hRM hRF vR hR0w).far (k:=1) hRB hRM hRF vR hR0w).far (k:=2) hRB hRM hRF vR hR0w,HBS.out,HGH.out.si.inv,HGH.out.mo,HLA.out,hb0,hb9⟩
   ·have hnb : best = -1 \/ (0 <= best /\ p.cost < best):=by omega
    clear hbrk
    by_cases hst : gc < p.cost
    ·have hgs : gI c (eP N outs.length p) < p.cost:=by rw [<- HGC.out]; exact hst
     rcases hnb with hb1 | ⟨hb1,hb2⟩
     ·subst hb1
      go_wp2
      generalize w1.alloc (.cells #[.int .i64 (p.st : Int),.int .i64 (p.rd : Int),.int .i64 (p.wt : Int),.int .i64 p.cost] 123) = W2 at *
      generalize w1.heap.size = V at *
      obtain ⟨W3,hW3⟩ : ∃ W3,W3 = W2.drew:=⟨_,rfl⟩
      have hb23 : Below W2.heap.size W2 W3:=by rw [hW3]; exact (bel_self W2).drew
      have hS0 : (fun wx : World => wx.cell? ⟨V,0,none⟩ = some (.int .i64 p.st) /\ wx.cell? ⟨V,1,none⟩ = some (.int .i64 p.rd) /\ wx.cell? ⟨V,2,none⟩ = some (.int .i64 p.wt) /\ wx.cell? ⟨V,3,none⟩ = some (.int .i64 p.cost) /\ wx.cell? ⟨B,7,none⟩ = some (.map (some Mb)) /\ MetAt wx Mb ms) W3:=⟨bel_c hb23 b0,bel_c hb23 b1,bel_c hb23 b2,bel_c hb23 b3,bel_c hb23 hS2.c7,hS2.met.block (hb23.block Mb hS2.met.lt)⟩
      refine wp_region_noPanic ?_
      refine wp_region_F (fun wx => wx.cell? ⟨V,0,none⟩ = some (.int .i64 p.st) /\ wx.cell? ⟨V,1,none⟩ = some (.int .i64 p.rd) /\ wx.cell? ⟨V,2,none⟩ = some (.int .i64 p.wt) /\ wx.cell? ⟨V,3,none⟩ = some (.int .i64 p.cost) /\ wx.cell? ⟨B,7,none⟩ = some (.map (some Mb)) /\ MetAt wx Mb ms) [] (by kernel_rfl) (by rw [<- hW3]; exact hS0) (fun _ => ?_)
      rw [<- hW3]
      clear hW3
      refine wpAnyF_free (i:=0) (v:=.pointer (some ⟨V,3,none⟩)) rfl (by kernel_rfl) (by kernel_rfl) (by kernel_rfl) (by kernel_rfl) (fun _ _ _ h => h) (Or.inl ⟨by rfl,fun wl hSw => ?_⟩) hS0 ?_
      ·(try dsimp only at hSw); go_simp
      refine tkF (i:=1) (v:=.int .i64 p.cost) rfl (by kernel_rfl) (fun _ _ _ h => h) (by rfl) hS0 (fun wl hSw => ?_) ?_
      ·(try dsimp only at hSw); go_simp
      refine wpAnyF_free (i:=2) (v:=.pointer (some ⟨B,0,none⟩)) rfl (by kernel_rfl) (by kernel_rfl) (by kernel_rfl) (by kernel_rfl) (fun _ _ _ h => h) (Or.inl ⟨by rfl,fun wl hSw => ?_⟩) hS0 ?_
      ·(try dsimp only at hSw); go_simp
      refine wpAnyF_free (i:=3) (v:=.pointer (some ⟨B,0,none⟩)) rfl (by kernel_rfl) (by kernel_rfl) (by kernel_rfl) (by kernel_rfl) (fun _ _ _ h => h) (Or.inl ⟨by rfl,fun wl hSw => ?_⟩) hS0 ?_
      ·(try dsimp only at hSw); go_simp
      refine wpAnyF_free (i:=4) (v:=.pointer (some ⟨B,7,none⟩)) rfl (by kernel_rfl) (by kernel_rfl) (by kernel_rfl) (by kernel_rfl) (fun _ _ _ h => h) (Or.inl ⟨by rfl,fun wl hSw => ?_⟩) hS0 ?_
      ·(try dsimp only at hSw); go_simp
      refine tkF (i:=5) (v:=.map (some Mb)) rfl (by kernel_rfl) (fun _ _ _ h => h) (by rfl) hS0 (fun wl hSw => ?_) ?_
      ·(try dsimp only at hSw); go_simp
      refine wpAnyF_free (i:=6) (v:=.pointer (some ⟨V,0,none⟩)) rfl (by kernel_rfl) (by kernel_rfl) (by kernel_rfl) (by kernel_rfl) (fun _ _ _ h => h) (Or.inl ⟨by rfl,fun wl hSw => ?_⟩) hS0 ?_
      ·(try dsimp only at hSw); go_simp
      refine tkF (i:=7) (v:=.agg #[.int .i64 p.st,.int .i64 p.rd,.int .i64 p.wt]) rfl (by kernel_rfl) (fun _ _ _ h => h) (by rfl) hS0 (fun wl hSw => ?_) ?_
      ·(try dsimp only at hSw); go_simp
      refine tkF (i:=8) (v:=.agg #[.int .i64 gc,.int .i64 ga]) rfl (by kernel_rfl) (fun _ _ _ h => h) (by rfl) hS0 (fun wl hSw => ?_) ?_
      ·(try dsimp only at hSw); go_simp; rw [look_bag hSw.2.2.2.2.2 HFV.out]; rfl
      refine wpAnyF_free (i:=9) (v:=.int .i64 gc) rfl (by kernel_rfl) (by kernel_rfl) (by kernel_rfl) (by kernel_rfl) (fun _ _ _ h => h) (Or.inl ⟨by rfl,fun wl hSw => ?_⟩) hS0 ?_
      ·(try dsimp only at hSw); go_simp; rw [field_step0]; rfl
      refine wpAnyF_one (i:=10) rfl (by kernel_rfl) (fun K hK => ?_)
      go_simp
      refine hK.out _ _ ⟨fun _ => hS0,?_⟩
      clear hK K
      refine wpAnyF_done (by kernel_rfl) ?_ _
      refine NoPanic.normal ?_
      have hS3:=hS2.below hb23
      have hFB3:=hFB2.below hb23
      have d0:=bel_c hb23 b0
      have d1:=bel_c hb23 b1
      have d2:=bel_c hb23 b2
      have d3:=bel_c hb23 b3
      go_wp2
      go_roundg ((totS ins outs N - D.length) * 3001 + L1.length)
      case measure =>
       have:=HGK.out
       have:=hl1
       omega
      case rel =>
       exact ⟨-1,c,y,ms,L1,v1,D,p.cost,ln,li,lo',rfl,rfl,hS3,HG1.out.stale hgs hmin',by have:=HLL.out; omega,hFB3,HLA.out,hb0,hb9⟩
     ·have hbb : (best != -1) = true:=by
       rw [bne_iff_ne]
       omega
      go_wp2
      generalize w1.alloc (.cells #[.int .i64 (p.st : Int),.int .i64 (p.rd : Int),.int .i64 (p.wt : Int),.int .i64 p.cost] 123) = W2 at *
      generalize w1.heap.size = V at *
      obtain ⟨W3,hW3⟩ : ∃ W3,W3 = W2.drew:=⟨_,rfl⟩
      have hb23 : Below W2.heap.size W2 W3:=by rw [hW3]; exact (bel_self W2).drew
      have hS0 : (fun wx : World => wx.cell? ⟨V,0,none⟩ = some (.int .i64 p.st) /\ wx.cell? ⟨V,1,none⟩ = some (.int .i64 p.rd) /\ wx.cell? ⟨V,2,none⟩ = some (.int .i64 p.wt) /\ wx.cell? ⟨V,3,none⟩ = some (.int .i64 p.cost) /\ wx.cell? ⟨B,7,none⟩ = some (.map (some Mb)) /\ MetAt wx Mb ms) W3:=⟨bel_c hb23 b0,bel_c hb23 b1,bel_c hb23 b2,bel_c hb23 b3,bel_c hb23 hS2.c7,hS2.met.block (hb23.block Mb hS2.met.lt)⟩
      refine wp_region_noPanic ?_
      refine wp_region_F (fun wx => wx.cell? ⟨V,0,none⟩ = some (.int .i64 p.st) /\ wx.cell? ⟨V,1,none⟩ = some (.int .i64 p.rd) /\ wx.cell? ⟨V,2,none⟩ = some (.int .i64 p.wt) /\ wx.cell? ⟨V,3,none⟩ = some (.int .i64 p.cost) /\ wx.cell? ⟨B,7,none⟩ = some (.map (some Mb)) /\ MetAt wx Mb ms) [] (by kernel_rfl) (by rw [<- hW3]; exact hS0) (fun _ => ?_)
      rw [<- hW3]
      clear hW3
      refine wpAnyF_free (i:=0) (v:=.pointer (some ⟨V,3,none⟩)) rfl (by kernel_rfl) (by kernel_rfl) (by kernel_rfl) (by kernel_rfl) (fun _ _ _ h => h) (Or.inl ⟨by rfl,fun wl hSw => ?_⟩) hS0 ?_
      ·(try dsimp only at hSw); go_simp
      refine tkF (i:=1) (v:=.int .i64 p.cost) rfl (by kernel_rfl) (fun _ _ _ h => h) (by rfl) hS0 (fun wl hSw => ?_) ?_
      ·(try dsimp only at hSw); go_simp
      refine wpAnyF_free (i:=2) (v:=.pointer (some ⟨B,0,none⟩)) rfl (by kernel_rfl) (by kernel_rfl) (by kernel_rfl) (by kernel_rfl) (fun _ _ _ h => h) (Or.inl ⟨by rfl,fun wl hSw => ?_⟩) hS0 ?_
      ·(try dsimp only at hSw); go_simp
      refine wpAnyF_free (i:=3) (v:=.pointer (some ⟨B,0,none⟩)) rfl (by kernel_rfl) (by kernel_rfl) (by kernel_rfl) (by kernel_rfl) (fun _ _ _ h => h) (Or.inl ⟨by rfl,fun wl hSw => ?_⟩) hS0 ?_
      ·(try dsimp only at hSw); go_simp
      refine wpAnyF_free (i:=4) (v:=.pointer (some ⟨B,7,none⟩)) rfl (by kernel_rfl) (by kernel_rfl) (by kernel_rfl) (by kernel_rfl) (fun _ _ _ h => h) (Or.inl ⟨by rfl,fun wl hSw => ?_⟩) hS0 ?_
      ·(try dsimp only at hSw); go_simp
      refine tkF (i:=5) (v:=.map (some Mb)) rfl (by kernel_rfl) (fun _ _ _ h => h) (by rfl) hS0 (fun wl hSw => ?_) ?_
      ·(try dsimp only at hSw); go_simp
      refine wpAnyF_free (i:=6) (v:=.pointer (some ⟨V,0,none⟩)) rfl (by kernel_rfl) (by kernel_rfl) (by kernel_rfl) (by kernel_rfl) (fun _ _ _ h => h) (Or.inl ⟨by rfl,fun wl hSw => ?_⟩) hS0 ?_
      ·(try dsimp only at hSw); go_simp
      refine tkF (i:=7) (v:=.agg #[.int .i64 p.st,.int .i64 p.rd,.int .i64 p.wt]) rfl (by kernel_rfl) (fun _ _ _ h => h) (by rfl) hS0 (fun wl hSw => ?_) ?_
      ·(try dsimp only at hSw); go_simp
      refine tkF (i:=8) (v:=.agg #[.int .i64 gc,.int .i64 ga]) rfl (by kernel_rfl) (fun _ _ _ h => h) (by rfl) hS0 (fun wl hSw => ?_) ?_
      ·(try dsimp only at hSw); go_simp; rw [look_bag hSw.2.2.2.2.2 HFV.out]; rfl
      refine wpAnyF_free (i:=9) (v:=.int .i64 gc) rfl (by kernel_rfl) (by kernel_rfl) (by kernel_rfl) (by kernel_rfl) (fun _ _ _ h => h) (Or.inl ⟨by rfl,fun wl hSw => ?_⟩) hS0 ?_
      ·(try dsimp only at hSw); go_simp; rw [field_step0]; rfl
      refine wpAnyF_one (i:=10) rfl (by kernel_rfl) (fun K hK => ?_)
      go_simp
      refine hK.out _ _ ⟨fun _ => hS0,?_⟩
      clear hK K
      refine wpAnyF_done (by kernel_rfl) ?_ _
      refine NoPanic.normal ?_
      have hS3:=hS2.below hb23
      have hFB3:=hFB2.below hb23
      have d0:=bel_c hb23 b0
      have d1:=bel_c hb23 b1
      have d2:=bel_c hb23 b2
      have d3:=bel_c hb23 b3
      go_wp2
      go_roundg ((totS ins outs N - D.length) * 3001 + L1.length)
      case measure =>
       have:=HGK.out
       have:=hl1
       omega
      case rel =>
       exact ⟨best,c,y,ms,L1,v1,D,p.cost,ln,li,lo',rfl,rfl,hS3,HG1.out.stale hgs hmin',by have:=HLL.out; omega,hFB3,HLA.out,hb0,hb9⟩
    ·have hpe : p.cost = gc:=by omega
     have hpc0 : 0 <= p.cost:=by omega
     have hpc9 : p.cost <= 1000000000000000:=by omega
     have hgx : gI c (spotN N outs.length p.st p.rd p.wt) = p.cost:=by rw [hpe,HGC.out]; rfl
     have HGX : Hid (gI c (spotN N outs.length p.st p.rd p.wt) = p.cost):=hgx
     have HG2 : Hid (SGh f ins outs N s0 c y ms L1 best (eP N outs.length p) (eP N outs.length p :: D) p.cost):=HG1.out.take (by rw [hpe,HGC.out]) hmin'
     obtain ⟨fc,hfc⟩ : ∃ fc,fc = finS (totS ins outs N) N f.final (spotN N outs.length p.st p.rd p.wt):=⟨_,rfl⟩
     have HFC : Hid (finS (totS ins outs N) N f.final (spotN N outs.length p.st p.rd p.wt) = fc):=hfc.symm
     have hfl:=fin_last HOK.out hpv.1 (by have:=HIL.out; omega) (by have:=HOL.out; omega) hfc.symm
     clear hfc hgx hgc1
     obtain rfl : gc = p.cost:=hpe.symm
     clear hpe
     rcases hnb with hb1 | ⟨hb1,hb2⟩
     ·subst hb1
      by_cases hf0 : 0 <= fc
      ·have hfb : (fc != -1) = true:=by
        rw [bne_iff_ne]
        omega
       have HLB : Hid (LastOk f ins outs N c (p.cost + fc) p.st p.rd p.wt):=by
        obtain ⟨q1,q2,q3,q4⟩:=hfl.2 hf0
        exact ⟨hpv.1,q1,q2,by omega,by rw [HGX.out]; exact hpc0,by rw [HGX.out]; omega⟩
       have hfc9:=(hfl.2 hf0).2.2.2
       have HG3 : Hid (SGh f ins outs N s0 c y ms L1 (p.cost + fc) (eP N outs.length p) (eP N outs.length p :: D) p.cost):=HG2.out.ends HGX.out hpc0 HFC.out hf0 (by omega)
       clear hfl
       go_wp2
       generalize w1.alloc (.cells #[.int .i64 (p.st : Int),.int .i64 (p.rd : Int),.int .i64 (p.wt : Int),.int .i64 p.cost] 123) = W2 at *
       generalize w1.heap.size = V at *
       obtain ⟨W3,hW3⟩ : ∃ W3,W3 = W2.drew:=⟨_,rfl⟩
       have hb23 : Below W2.heap.size W2 W3:=by rw [hW3]; exact (bel_self W2).drew
       have hS0 : (fun wx : World => wx.cell? ⟨V,0,none⟩ = some (.int .i64 p.st) /\ wx.cell? ⟨V,1,none⟩ = some (.int .i64 p.rd) /\ wx.cell? ⟨V,2,none⟩ = some (.int .i64 p.wt) /\ wx.cell? ⟨V,3,none⟩ = some (.int .i64 p.cost) /\ wx.cell? ⟨B,7,none⟩ = some (.map (some Mb)) /\ MetAt wx Mb ms) W3:=⟨bel_c hb23 b0,bel_c hb23 b1,bel_c hb23 b2,bel_c hb23 b3,bel_c hb23 hS2.c7,hS2.met.block (hb23.block Mb hS2.met.lt)⟩
       refine wp_region_noPanic ?_
       refine wp_region_F (fun wx => wx.cell? ⟨V,0,none⟩ = some (.int .i64 p.st) /\ wx.cell? ⟨V,1,none⟩ = some (.int .i64 p.rd) /\ wx.cell? ⟨V,2,none⟩ = some (.int .i64 p.wt) /\ wx.cell? ⟨V,3,none⟩ = some (.int .i64 p.cost) /\ wx.cell? ⟨B,7,none⟩ = some (.map (some Mb)) /\ MetAt wx Mb ms) [] (by kernel_rfl) (by rw [<- hW3]; exact hS0) (fun _ => ?_)
       rw [<- hW3]
       clear hW3
       refine wpAnyF_free (i:=0) (v:=.pointer (some ⟨V,3,none⟩)) rfl (by kernel_rfl) (by kernel_rfl) (by kernel_rfl) (by kernel_rfl) (fun _ _ _ h => h) (Or.inl ⟨by rfl,fun wl hSw => ?_⟩) hS0 ?_
       ·(try dsimp only at hSw); go_simp
       refine tkF (i:=1) (v:=.int .i64 p.cost) rfl (by kernel_rfl) (fun _ _ _ h => h) (by rfl) hS0 (fun wl hSw => ?_) ?_
       ·(try dsimp only at hSw); go_simp
       refine wpAnyF_free (i:=2) (v:=.pointer (some ⟨B,0,none⟩)) rfl (by kernel_rfl) (by kernel_rfl) (by kernel_rfl) (by kernel_rfl) (fun _ _ _ h => h) (Or.inl ⟨by rfl,fun wl hSw => ?_⟩) hS0 ?_
       ·(try dsimp only at hSw); go_simp
       refine wpAnyF_free (i:=3) (v:=.pointer (some ⟨B,0,none⟩)) rfl (by kernel_rfl) (by kernel_rfl) (by kernel_rfl) (by kernel_rfl) (fun _ _ _ h => h) (Or.inl ⟨by rfl,fun wl hSw => ?_⟩) hS0 ?_
       ·(try dsimp only at hSw); go_simp
       refine wpAnyF_free (i:=4) (v:=.pointer (some ⟨B,7,none⟩)) rfl (by kernel_rfl) (by kernel_rfl) (by kernel_rfl) (by kernel_rfl) (fun _ _ _ h => h) (Or.inl ⟨by rfl,fun wl hSw => ?_⟩) hS0 ?_
       ·(try dsimp only at hSw); go_simp
       refine tkF (i:=5) (v:=.map (some Mb)) rfl (by kernel_rfl) (fun _ _ _ h => h) (by rfl) hS0 (fun wl hSw => ?_) ?_
       ·(try dsimp only at hSw); go_simp
       refine wpAnyF_free (i:=6) (v:=.pointer (some ⟨V,0,none⟩)) rfl (by kernel_rfl) (by kernel_rfl) (by kernel_rfl) (by kernel_rfl) (fun _ _ _ h => h) (Or.inl ⟨by rfl,fun wl hSw => ?_⟩) hS0 ?_
       ·(try dsimp only at hSw); go_simp
       refine tkF (i:=7) (v:=.agg #[.int .i64 p.st,.int .i64 p.rd,.int .i64 p.wt]) rfl (by kernel_rfl) (fun _ _ _ h => h) (by rfl) hS0 (fun wl hSw => ?_) ?_
       ·(try dsimp only at hSw); go_simp
       refine tkF (i:=8) (v:=.agg #[.int .i64 p.cost,.int .i64 ga]) rfl (by kernel_rfl) (fun _ _ _ h => h) (by rfl) hS0 (fun wl hSw => ?_) ?_
       ·(try dsimp only at hSw); go_simp; rw [look_bag hSw.2.2.2.2.2 HFV.out]; rfl
       refine wpAnyF_free (i:=9) (v:=.int .i64 p.cost) rfl (by kernel_rfl) (by kernel_rfl) (by kernel_rfl) (by kernel_rfl) (fun _ _ _ h => h) (Or.inl ⟨by rfl,fun wl hSw => ?_⟩) hS0 ?_
       ·(try dsimp only at hSw); go_simp; rw [field_step0]; rfl
       refine wpAnyF_one (i:=10) rfl (by kernel_rfl) (fun K hK => ?_)
       go_simp
       refine hK.out _ _ ⟨fun _ => hS0,?_⟩
       clear hK K
       refine wpAnyF_done (by kernel_rfl) ?_ _
       refine NoPanic.normal ?_
       have hS3:=hS2.below hb23
       have hFB3:=hFB2.below hb23
       have d0:=bel_c hb23 b0
       have d1:=bel_c hb23 b1
       have d2:=bel_c hb23 b2
       have d3:=bel_c hb23 b3
       go_wp2_with (go_at_call 77; have he:=HEND.out p.st p.rd p.wt W3 hpv.1 hpv.2.1 hpv.2.2 hS3.bel; rw [HFC.out] at he; refine he.mono ?_; rintro e w4 ⟨rfl,hb4⟩; have f0:=bel_c hb4 d0; have f1:=bel_c hb4 d1; have f2:=bel_c hb4 d2; have f3:=bel_c hb4 d3)
       obtain ⟨W5,hW5⟩ : ∃ W5,W5 = w4.drew:=⟨_,rfl⟩
       have hb45 : Below w4.heap.size w4 W5:=by rw [hW5]; exact (bel_self w4).drew
       have hS5:=(hS3.below hb4).below hb45
       have hFB5:=(hFB3.below hb4).below hb45
       have m0:=bel_c hb45 f0
       have m1:=bel_c hb45 f1
       have m2:=bel_c hb45 f2
       have m3:=bel_c hb45 f3
       have hS9 : (fun wx : World => wx.cell? ⟨V,0,none⟩ = some (.int .i64 p.st) /\ wx.cell? ⟨V,1,none⟩ = some (.int .i64 p.rd) /\ wx.cell? ⟨V,2,none⟩ = some (.int .i64 p.wt) /\ wx.cell? ⟨V,3,none⟩ = some (.int .i64 p.cost)) W5:=⟨m0,m1,m2,m3⟩
       obtain ⟨l0,l1,l2,zR,fz,vR,vL⟩:=hFB5
       have fz0:=fz 0
       have fz1:=fz 1
       have fz2:=fz 2
       refine wp_region_noPanic ?_
       refine wp_region_F (fun wx => wx.cell? ⟨V,0,none⟩ = some (.int .i64 p.st) /\ wx.cell? ⟨V,1,none⟩ = some (.int .i64 p.rd) /\ wx.cell? ⟨V,2,none⟩ = some (.int .i64 p.wt) /\ wx.cell? ⟨V,3,none⟩ = some (.int .i64 p.cost)) [] (by kernel_rfl) (by rw [<- hW5]; exact hS9) (fun _ => ?_)
       rw [<- hW5]
       clear hW5
       refine wpAnyF_free (i:=0) (v:=.pointer (some ⟨V,0,none⟩)) rfl (by kernel_rfl) (by kernel_rfl) (by kernel_rfl) (by kernel_rfl) (fun _ _ _ h => h) (Or.inl ⟨by rfl,fun wl hSw => ?_⟩) hS9 ?_
       ·(try dsimp only at hSw); go_simp
       refine tkF (i:=1) (v:=.agg #[.int .i64 p.st,.int .i64 p.rd,.int .i64 p.wt]) rfl (by kernel_rfl) (fun _ _ _ h => h) (by rfl) hS9 (fun wl hSw => ?_) ?_
       ·(try dsimp only at hSw); go_simp
       refine wpAnyF_free (i:=2) (v:=.pointer (some ⟨V,3,none⟩)) rfl (by kernel_rfl) (by kernel_rfl) (by kernel_rfl) (by kernel_rfl) (fun _ _ _ h => h) (Or.inl ⟨by rfl,fun wl hSw => ?_⟩) hS9 ?_
       ·(try dsimp only at hSw); go_simp
       refine tkF (i:=3) (v:=.int .i64 p.cost) rfl (by kernel_rfl) (fun _ _ _ h => h) (by rfl) hS9 (fun wl hSw => ?_) ?_
       ·(try dsimp only at hSw); go_simp
       refine wpAnyF_free (i:=4) (v:=.int .i64 fc) rfl (by kernel_rfl) (by kernel_rfl) (by kernel_rfl) (by kernel_rfl) (fun _ _ _ h => h) (Or.inl ⟨by rfl,fun wl hSw => ?_⟩) hS9 ?_
       ·(try dsimp only at hSw); go_simp
       refine wpAnyF_free (i:=5) (v:=.int .i64 (p.cost + fc)) rfl (by kernel_rfl) (by kernel_rfl) (by kernel_rfl) (by kernel_rfl) (fun _ _ _ h => h) (Or.inl ⟨by rfl,fun wl hSw => ?_⟩) hS9 ?_
       ·(try dsimp only at hSw); go_simp; exact wrap_in _ (by omega) (by omega)
       refine wpAnyF_one (i:=6) rfl (by kernel_rfl) (fun K hK => ?_)
       go_simp
       refine hK.out _ _ ⟨fun _ => ⟨(set_far hVL).trans ((set_far hVL).trans ((set_far hVL).trans m0)),(set_far hVL).trans ((set_far hVL).trans ((set_far hVL).trans m1)),(set_far hVL).trans ((set_far hVL).trans ((set_far hVL).trans m2)),(set_far hVL).trans ((set_far hVL).trans ((set_far hVL).trans m3))⟩,?_⟩
       clear hK K
       refine wpAnyF_one (i:=7) rfl (by kernel_rfl) (fun K hK => ?_)
       go_simp
       refine hK.out _ _ ⟨fun _ => ⟨(set_far hVL).trans ((set_far hVL).trans ((set_far hVL).trans m0)),(set_far hVL).trans ((set_far hVL).trans ((set_far hVL).trans m1)),(set_far hVL).trans ((set_far hVL).trans ((set_far hVL).trans m2)),(set_far hVL).trans ((set_far hVL).trans ((set_far hVL).trans m3))⟩,?_⟩
       clear hK K
       refine wpAnyF_done (by kernel_rfl) ?_ _
       refine NoPanic.normal ?_
       have hFB6:=(FB.mk l0 l1 l2 zR fz vR vL).put hLR p.st p.rd p.wt
       have hS6':=((hS5.far (k:=0) (u:=.int .i64 p.st) hLB hLM hLF vL hL0w).far (k:=1) (u:=.int .i64 p.rd) hLB hLM hLF vL hL0w).far (k:=2) (u:=.int .i64 p.wt) hLB hLM hLF vL hL0w
       have n0 : (((W5.setCell ⟨Lb,0,none⟩ (.int .i64 p.st)).setCell ⟨Lb,1,none⟩ (.int .i64 p.rd)).setCell ⟨Lb,2,none⟩ (.int .i64 p.wt)).cell? ⟨V,0,none⟩ = some (.int .i64 p.st):=(set_far hVL).trans ((set_far hVL).trans ((set_far hVL).trans m0))
       have n1 : (((W5.setCell ⟨Lb,0,none⟩ (.int .i64 p.st)).setCell ⟨Lb,1,none⟩ (.int .i64 p.rd)).setCell ⟨Lb,2,none⟩ (.int .i64 p.wt)).cell? ⟨V,1,none⟩ = some (.int .i64 p.rd):=(set_far hVL).trans ((set_far hVL).trans ((set_far hVL).trans m1))
       have n2 : (((W5.setCell ⟨Lb,0,none⟩ (.int .i64 p.st)).setCell ⟨Lb,1,none⟩ (.int .i64 p.rd)).setCell ⟨Lb,2,none⟩ (.int .i64 p.wt)).cell? ⟨V,2,none⟩ = some (.int .i64 p.wt):=(set_far hVL).trans ((set_far hVL).trans ((set_far hVL).trans m2))
       have n3 : (((W5.setCell ⟨Lb,0,none⟩ (.int .i64 p.st)).setCell ⟨Lb,1,none⟩ (.int .i64 p.rd)).setCell ⟨Lb,2,none⟩ (.int .i64 p.wt)).cell? ⟨V,3,none⟩ = some (.int .i64 p.cost):=(set_far hVL).trans ((set_far hVL).trans ((set_far hVL).trans m3))
       clear l0 l1 l2 zR fz fz0 fz1 fz2 hS9 m0 m1 m2 m3
       generalize ((W5.setCell ⟨Lb,0,none⟩ (.int .i64 p.st)).setCell ⟨Lb,1,none⟩ (.int .i64 p.rd)).setCell ⟨Lb,2,none⟩ (.int .i64 p.wt) = W6 at *
       go_wp2_with (go_at_call 101; refine (goOn_any w0 f ins outs N s0 B Mb Fb fin aa m ac ia il ic oa ol oc (p.cost + fc) p.st p.rd p.wt (eP N outs.length p :: D) p.cost v1 c y ms L1 W6 HOK.out ha HAL.out hI HIL.out hO HOL.out hpv.1 hpv.2.1 hpv.2.2 hpc0 hpc9 (by omega) hS6' HG3.out HGX.out).mono ?_; rintro e w6 ⟨rfl,kk,⟨c6,y6,ms6,L6,v6,hM6,hLC6,hS6,hG6,hx6,hPR6,hl6⟩,hk61,hk62⟩)
       have HR6 : Hid (FRel w0 f ins outs N s0 B Mb Fb fin aa m ac ia il ic oa ol oc R Lb ((totS ins outs N - (D.length + 1)) * 3001 + L6.length) (.int .i64 (p.cost + fc)) w6):=by
        have hdone:=hG6.done (hPR6.all HOK.out hk61 hpv.1 (by have:=HOL.out; omega) (by rw [hx6]; exact hpc0)) (fun hf => by rw [hx6]; rw [HFC.out]; omega)
        exact ⟨(p.cost + fc),c6,y6,ms6,L6,v6,eP N outs.length p :: D,p.cost,p.st,p.rd,p.wt,rfl,rfl,hS6,hdone,by have:=HLL.out; rw [List.length_cons]; omega,hFB6.step hM6 hRB hRM hLB hLM,fun _ => HLB.out.mono hLC6,by omega,by omega⟩
       have HD6 : Hid (D.length + 1 <= totS ins outs N):=by
        have:=hG6.dlen
        rw [List.length_cons] at this
        exact this
       go_roundg ((totS ins outs N - (D.length + 1)) * 3001 + L6.length)
       case measure =>
        have h1:=HGK.out
        have h2:=HD6.out
        omega
       case rel => exact HR6.out
      ·have hfe : fc = -1:=hfl.1 (by omega)
       have HFE : Hid (fc = -1):=hfe
       subst hfe
       have HNB : Hid (0 <= finS (totS ins outs N) N f.final (spotN N outs.length p.st p.rd p.wt) -> 0 <= (-1 : Int) /\ (-1 : Int) <= p.cost + finS (totS ins outs N) N f.final (spotN N outs.length p.st p.rd p.wt)):=fun hf => by
        rw [HFC.out] at hf ⊢
        omega
       clear hfl
       go_wp2
       generalize w1.alloc (.cells #[.int .i64 (p.st : Int),.int .i64 (p.rd : Int),.int .i64 (p.wt : Int),.int .i64 p.cost] 123) = W2 at *
       generalize w1.heap.size = V at *
       obtain ⟨W3,hW3⟩ : ∃ W3,W3 = W2.drew:=⟨_,rfl⟩
       have hb23 : Below W2.heap.size W2 W3:=by rw [hW3]; exact (bel_self W2).drew
       have hS0 : (fun wx : World => wx.cell? ⟨V,0,none⟩ = some (.int .i64 p.st) /\ wx.cell? ⟨V,1,none⟩ = some (.int .i64 p.rd) /\ wx.cell? ⟨V,2,none⟩ = some (.int .i64 p.wt) /\ wx.cell? ⟨V,3,none⟩ = some (.int .i64 p.cost) /\ wx.cell? ⟨B,7,none⟩ = some (.map (some Mb)) /\ MetAt wx Mb ms) W3:=⟨bel_c hb23 b0,bel_c hb23 b1,bel_c hb23 b2,bel_c hb23 b3,bel_c hb23 hS2.c7,hS2.met.block (hb23.block Mb hS2.met.lt)⟩
       refine wp_region_noPanic ?_
       refine wp_region_F (fun wx => wx.cell? ⟨V,0,none⟩ = some (.int .i64 p.st) /\ wx.cell? ⟨V,1,none⟩ = some (.int .i64 p.rd) /\ wx.cell? ⟨V,2,none⟩ = some (.int .i64 p.wt) /\ wx.cell? ⟨V,3,none⟩ = some (.int .i64 p.cost) /\ wx.cell? ⟨B,7,none⟩ = some (.map (some Mb)) /\ MetAt wx Mb ms) [] (by kernel_rfl) (by rw [<- hW3]; exact hS0) (fun _ => ?_)
       rw [<- hW3]
       clear hW3
       refine wpAnyF_free (i:=0) (v:=.pointer (some ⟨V,3,none⟩)) rfl (by kernel_rfl) (by kernel_rfl) (by kernel_rfl) (by kernel_rfl) (fun _ _ _ h => h) (Or.inl ⟨by rfl,fun wl hSw => ?_⟩) hS0 ?_
       ·(try dsimp only at hSw); go_simp
       refine tkF (i:=1) (v:=.int .i64 p.cost) rfl (by kernel_rfl) (fun _ _ _ h => h) (by rfl) hS0 (fun wl hSw => ?_) ?_
       ·(try dsimp only at hSw); go_simp
       refine wpAnyF_free (i:=2) (v:=.pointer (some ⟨B,0,none⟩)) rfl (by kernel_rfl) (by kernel_rfl) (by kernel_rfl) (by kernel_rfl) (fun _ _ _ h => h) (Or.inl ⟨by rfl,fun wl hSw => ?_⟩) hS0 ?_
       ·(try dsimp only at hSw); go_simp
       refine wpAnyF_free (i:=3) (v:=.pointer (some ⟨B,0,none⟩)) rfl (by kernel_rfl) (by kernel_rfl) (by kernel_rfl) (by kernel_rfl) (fun _ _ _ h => h) (Or.inl ⟨by rfl,fun wl hSw => ?_⟩) hS0 ?_
       ·(try dsimp only at hSw); go_simp
       refine wpAnyF_free (i:=4) (v:=.pointer (some ⟨B,7,none⟩)) rfl (by kernel_rfl) (by kernel_rfl) (by kernel_rfl) (by kernel_rfl) (fun _ _ _ h => h) (Or.inl ⟨by rfl,fun wl hSw => ?_⟩) hS0 ?_
       ·(try dsimp only at hSw); go_simp
       refine tkF (i:=5) (v:=.map (some Mb)) rfl (by kernel_rfl) (fun _ _ _ h => h) (by rfl) hS0 (fun wl hSw => ?_) ?_
       ·(try dsimp only at hSw); go_simp
       refine wpAnyF_free (i:=6) (v:=.pointer (some ⟨V,0,none⟩)) rfl (by kernel_rfl) (by kernel_rfl) (by kernel_rfl) (by kernel_rfl) (fun _ _ _ h => h) (Or.inl ⟨by rfl,fun wl hSw => ?_⟩) hS0 ?_
       ·(try dsimp only at hSw); go_simp
       refine tkF (i:=7) (v:=.agg #[.int .i64 p.st,.int .i64 p.rd,.int .i64 p.wt]) rfl (by kernel_rfl) (fun _ _ _ h => h) (by rfl) hS0 (fun wl hSw => ?_) ?_
       ·(try dsimp only at hSw); go_simp
       refine tkF (i:=8) (v:=.agg #[.int .i64 p.cost,.int .i64 ga]) rfl (by kernel_rfl) (fun _ _ _ h => h) (by rfl) hS0 (fun wl hSw => ?_) ?_
       ·(try dsimp only at hSw); go_simp; rw [look_bag hSw.2.2.2.2.2 HFV.out]; rfl
       refine wpAnyF_free (i:=9) (v:=.int .i64 p.cost) rfl (by kernel_rfl) (by kernel_rfl) (by kernel_rfl) (by kernel_rfl) (fun _ _ _ h => h) (Or.inl ⟨by rfl,fun wl hSw => ?_⟩) hS0 ?_
       ·(try dsimp only at hSw); go_simp; rw [field_step0]; rfl
       refine wpAnyF_one (i:=10) rfl (by kernel_rfl) (fun K hK => ?_)
       go_simp
       refine hK.out _ _ ⟨fun _ => hS0,?_⟩
       clear hK K
       refine wpAnyF_done (by kernel_rfl) ?_ _
       refine NoPanic.normal ?_
       have hS3:=hS2.below hb23
       have hFB3:=hFB2.below hb23
       have d0:=bel_c hb23 b0
       have d1:=bel_c hb23 b1
       have d2:=bel_c hb23 b2
       have d3:=bel_c hb23 b3
       go_wp2_with (first | (go_at_call 77; have he:=HEND.out p.st p.rd p.wt W3 hpv.1 hpv.2.1 hpv.2.2 hS3.bel; rw [HFC.out] at he; refine he.mono ?_; rintro e w4 ⟨rfl,hb4⟩; have f0:=bel_c hb4 d0; have f1:=bel_c hb4 d1; have f2:=bel_c hb4 d2; have f3:=bel_c hb4 d3) | (go_at_call 101; refine (goOn_any w0 f ins outs N s0 B Mb Fb fin aa m ac ia il ic oa ol oc (-1) p.st p.rd p.wt (eP N outs.length p :: D) p.cost v1 c y ms L1 w4 HOK.out ha HAL.out hI HIL.out hO HOL.out hpv.1 hpv.2.1 hpv.2.2 hpc0 hpc9 (by omega) (hS3.below hb4) HG2.out HGX.out).mono ?_; rintro e w6 ⟨rfl,kk,⟨c6,y6,ms6,L6,v6,hM6,hLC6,hS6,hG6,hx6,hPR6,hl6⟩,hk61,hk62⟩))
       have HR6 : Hid (FRel w0 f ins outs N s0 B Mb Fb fin aa m ac ia il ic oa ol oc R Lb ((totS ins outs N - (D.length + 1)) * 3001 + L6.length) (.int .i64 (-1)) w6):=by
        have hdone:=hG6.done (hPR6.all HOK.out hk61 hpv.1 (by have:=HOL.out; omega) (by rw [hx6]; exact hpc0)) (fun hf => by rw [hx6]; exact HNB.out hf)
        exact ⟨-1,c6,y6,ms6,L6,v6,eP N outs.length p :: D,p.cost,ln,li,lo',rfl,rfl,hS6,hdone,by have:=HLL.out; rw [List.length_cons]; omega,(hFB3.below hb4).step hM6 hRB hRM hLB hLM,fun hb => (HLA.out hb).mono hLC6,by omega,by omega⟩
       have HD6 : Hid (D.length + 1 <= totS ins outs N):=by
        have:=hG6.dlen
        rw [List.length_cons] at this
        exact this
       go_roundg ((totS ins outs N - (D.length + 1)) * 3001 + L6.length)
       case measure =>
        have h1:=HGK.out
        have h2:=HD6.out
        omega
       case rel => exact HR6.out
     ·have hbb : (best != -1) = true:=by
       rw [bne_iff_ne]
       omega
      have hbe : (best == -1) = false:=by
       rw [beq_eq_false_iff_ne]
       omega
      by_cases hf0 : 0 <= fc
      ·have hfb : (fc != -1) = true:=by
        rw [bne_iff_ne]
        omega
       have hfc9':=(hfl.2 hf0).2.2.2
       by_cases hlt : p.cost + fc < best
       ·skip
        have HLB : Hid (LastOk f ins outs N c (p.cost + fc) p.st p.rd p.wt):=by
         obtain ⟨q1,q2,q3,q4⟩:=hfl.2 hf0
         exact ⟨hpv.1,q1,q2,by omega,by rw [HGX.out]; exact hpc0,by rw [HGX.out]; omega⟩
        have hfc9:=(hfl.2 hf0).2.2.2
        have HG3 : Hid (SGh f ins outs N s0 c y ms L1 (p.cost + fc) (eP N outs.length p) (eP N outs.length p :: D) p.cost):=HG2.out.ends HGX.out hpc0 HFC.out hf0 (by omega)
        clear hfl
        go_wp2
        generalize w1.alloc (.cells #[.int .i64 (p.st : Int),.int .i64 (p.rd : Int),.int .i64 (p.wt : Int),.int .i64 p.cost] 123) = W2 at *
        generalize w1.heap.size = V at *
        obtain ⟨W3,hW3⟩ : ∃ W3,W3 = W2.drew:=⟨_,rfl⟩
        have hb23 : Below W2.heap.size W2 W3:=by rw [hW3]; exact (bel_self W2).drew
        have hS0 : (fun wx : World => wx.cell? ⟨V,0,none⟩ = some (.int .i64 p.st) /\ wx.cell? ⟨V,1,none⟩ = some (.int .i64 p.rd) /\ wx.cell? ⟨V,2,none⟩ = some (.int .i64 p.wt) /\ wx.cell? ⟨V,3,none⟩ = some (.int .i64 p.cost) /\ wx.cell? ⟨B,7,none⟩ = some (.map (some Mb)) /\ MetAt wx Mb ms) W3:=⟨bel_c hb23 b0,bel_c hb23 b1,bel_c hb23 b2,bel_c hb23 b3,bel_c hb23 hS2.c7,hS2.met.block (hb23.block Mb hS2.met.lt)⟩
        refine wp_region_noPanic ?_
        refine wp_region_F (fun wx => wx.cell? ⟨V,0,none⟩ = some (.int .i64 p.st) /\ wx.cell? ⟨V,1,none⟩ = some (.int .i64 p.rd) /\ wx.cell? ⟨V,2,none⟩ = some (.int .i64 p.wt) /\ wx.cell? ⟨V,3,none⟩ = some (.int .i64 p.cost) /\ wx.cell? ⟨B,7,none⟩ = some (.map (some Mb)) /\ MetAt wx Mb ms) [] (by kernel_rfl) (by rw [<- hW3]; exact hS0) (fun _ => ?_)
        rw [<- hW3]
        clear hW3
        refine wpAnyF_free (i:=0) (v:=.pointer (some ⟨V,3,none⟩)) rfl (by kernel_rfl) (by kernel_rfl) (by kernel_rfl) (by kernel_rfl) (fun _ _ _ h => h) (Or.inl ⟨by rfl,fun wl hSw => ?_⟩) hS0 ?_
        ·(try dsimp only at hSw); go_simp
        refine tkF (i:=1) (v:=.int .i64 p.cost) rfl (by kernel_rfl) (fun _ _ _ h => h) (by rfl) hS0 (fun wl hSw => ?_) ?_
        ·(try dsimp only at hSw); go_simp
        refine wpAnyF_free (i:=2) (v:=.pointer (some ⟨B,0,none⟩)) rfl (by kernel_rfl) (by kernel_rfl) (by kernel_rfl) (by kernel_rfl) (fun _ _ _ h => h) (Or.inl ⟨by rfl,fun wl hSw => ?_⟩) hS0 ?_
        ·(try dsimp only at hSw); go_simp
        refine wpAnyF_free (i:=3) (v:=.pointer (some ⟨B,0,none⟩)) rfl (by kernel_rfl) (by kernel_rfl) (by kernel_rfl) (by kernel_rfl) (fun _ _ _ h => h) (Or.inl ⟨by rfl,fun wl hSw => ?_⟩) hS0 ?_
        ·(try dsimp only at hSw); go_simp
        refine wpAnyF_free (i:=4) (v:=.pointer (some ⟨B,7,none⟩)) rfl (by kernel_rfl) (by kernel_rfl) (by kernel_rfl) (by kernel_rfl) (fun _ _ _ h => h) (Or.inl ⟨by rfl,fun wl hSw => ?_⟩) hS0 ?_
        ·(try dsimp only at hSw); go_simp
        refine tkF (i:=5) (v:=.map (some Mb)) rfl (by kernel_rfl) (fun _ _ _ h => h) (by rfl) hS0 (fun wl hSw => ?_) ?_
        ·(try dsimp only at hSw); go_simp
        refine wpAnyF_free (i:=6) (v:=.pointer (some ⟨V,0,none⟩)) rfl (by kernel_rfl) (by kernel_rfl) (by kernel_rfl) (by kernel_rfl) (fun _ _ _ h => h) (Or.inl ⟨by rfl,fun wl hSw => ?_⟩) hS0 ?_
        ·(try dsimp only at hSw); go_simp
        refine tkF (i:=7) (v:=.agg #[.int .i64 p.st,.int .i64 p.rd,.int .i64 p.wt]) rfl (by kernel_rfl) (fun _ _ _ h => h) (by rfl) hS0 (fun wl hSw => ?_) ?_
        ·(try dsimp only at hSw); go_simp
        refine tkF (i:=8) (v:=.agg #[.int .i64 p.cost,.int .i64 ga]) rfl (by kernel_rfl) (fun _ _ _ h => h) (by rfl) hS0 (fun wl hSw => ?_) ?_
        ·(try dsimp only at hSw); go_simp; rw [look_bag hSw.2.2.2.2.2 HFV.out]; rfl
        refine wpAnyF_free (i:=9) (v:=.int .i64 p.cost) rfl (by kernel_rfl) (by kernel_rfl) (by kernel_rfl) (by kernel_rfl) (fun _ _ _ h => h) (Or.inl ⟨by rfl,fun wl hSw => ?_⟩) hS0 ?_
        ·(try dsimp only at hSw); go_simp; rw [field_step0]; rfl
        refine wpAnyF_one (i:=10) rfl (by kernel_rfl) (fun K hK => ?_)
        go_simp
        refine hK.out _ _ ⟨fun _ => hS0,?_⟩
        clear hK K
        refine wpAnyF_done (by kernel_rfl) ?_ _
        refine NoPanic.normal ?_
        have hS3:=hS2.below hb23
        have hFB3:=hFB2.below hb23
        have d0:=bel_c hb23 b0
        have d1:=bel_c hb23 b1
        have d2:=bel_c hb23 b2
        have d3:=bel_c hb23 b3
        go_wp2_with (go_at_call 77; have he:=HEND.out p.st p.rd p.wt W3 hpv.1 hpv.2.1 hpv.2.2 hS3.bel; rw [HFC.out] at he; refine he.mono ?_; rintro e w4 ⟨rfl,hb4⟩; have f0:=bel_c hb4 d0; have f1:=bel_c hb4 d1; have f2:=bel_c hb4 d2; have f3:=bel_c hb4 d3)
        obtain ⟨W5,hW5⟩ : ∃ W5,W5 = w4.drew:=⟨_,rfl⟩
        have hb45 : Below w4.heap.size w4 W5:=by rw [hW5]; exact (bel_self w4).drew
        have hS5:=(hS3.below hb4).below hb45
        have hFB5:=(hFB3.below hb4).below hb45
        have m0:=bel_c hb45 f0
        have m1:=bel_c hb45 f1
        have m2:=bel_c hb45 f2
        have m3:=bel_c hb45 f3
        have hS9 : (fun wx : World => wx.cell? ⟨V,0,none⟩ = some (.int .i64 p.st) /\ wx.cell? ⟨V,1,none⟩ = some (.int .i64 p.rd) /\ wx.cell? ⟨V,2,none⟩ = some (.int .i64 p.wt) /\ wx.cell? ⟨V,3,none⟩ = some (.int .i64 p.cost)) W5:=⟨m0,m1,m2,m3⟩
        obtain ⟨l0,l1,l2,zR,fz,vR,vL⟩:=hFB5
        have fz0:=fz 0
        have fz1:=fz 1
        have fz2:=fz 2
        refine wp_region_noPanic ?_
        refine wp_region_F (fun wx => wx.cell? ⟨V,0,none⟩ = some (.int .i64 p.st) /\ wx.cell? ⟨V,1,none⟩ = some (.int .i64 p.rd) /\ wx.cell? ⟨V,2,none⟩ = some (.int .i64 p.wt) /\ wx.cell? ⟨V,3,none⟩ = some (.int .i64 p.cost)) [] (by kernel_rfl) (by rw [<- hW5]; exact hS9) (fun _ => ?_)
        rw [<- hW5]
        clear hW5
        refine wpAnyF_free (i:=0) (v:=.pointer (some ⟨V,0,none⟩)) rfl (by kernel_rfl) (by kernel_rfl) (by kernel_rfl) (by kernel_rfl) (fun _ _ _ h => h) (Or.inl ⟨by rfl,fun wl hSw => ?_⟩) hS9 ?_
        ·(try dsimp only at hSw); go_simp
        refine tkF (i:=1) (v:=.agg #[.int .i64 p.st,.int .i64 p.rd,.int .i64 p.wt]) rfl (by kernel_rfl) (fun _ _ _ h => h) (by rfl) hS9 (fun wl hSw => ?_) ?_
        ·(try dsimp only at hSw); go_simp
        refine wpAnyF_free (i:=2) (v:=.pointer (some ⟨V,3,none⟩)) rfl (by kernel_rfl) (by kernel_rfl) (by kernel_rfl) (by kernel_rfl) (fun _ _ _ h => h) (Or.inl ⟨by rfl,fun wl hSw => ?_⟩) hS9 ?_
        ·(try dsimp only at hSw); go_simp
        refine tkF (i:=3) (v:=.int .i64 p.cost) rfl (by kernel_rfl) (fun _ _ _ h => h) (by rfl) hS9 (fun wl hSw => ?_) ?_
        ·(try dsimp only at hSw); go_simp
        refine wpAnyF_free (i:=4) (v:=.int .i64 fc) rfl (by kernel_rfl) (by kernel_rfl) (by kernel_rfl) (by kernel_rfl) (fun _ _ _ h => h) (Or.inl ⟨by rfl,fun wl hSw => ?_⟩) hS9 ?_
        ·(try dsimp only at hSw); go_simp
        refine wpAnyF_free (i:=5) (v:=.int .i64 (p.cost + fc)) rfl (by kernel_rfl) (by kernel_rfl) (by kernel_rfl) (by kernel_rfl) (fun _ _ _ h => h) (Or.inl ⟨by rfl,fun wl hSw => ?_⟩) hS9 ?_
        ·(try dsimp only at hSw); go_simp; exact wrap_in _ (by omega) (by omega)
        refine wpAnyF_one (i:=6) rfl (by kernel_rfl) (fun K hK => ?_)
        go_simp
        refine hK.out _ _ ⟨fun _ => ⟨(set_far hVL).trans ((set_far hVL).trans ((set_far hVL).trans m0)),(set_far hVL).trans ((set_far hVL).trans ((set_far hVL).trans m1)),(set_far hVL).trans ((set_far hVL).trans ((set_far hVL).trans m2)),(set_far hVL).trans ((set_far hVL).trans ((set_far hVL).trans m3))⟩,?_⟩
        clear hK K
        refine wpAnyF_one (i:=7) rfl (by kernel_rfl) (fun K hK => ?_)
        go_simp
        refine hK.out _ _ ⟨fun _ => ⟨(set_far hVL).trans ((set_far hVL).trans ((set_far hVL).trans m0)),(set_far hVL).trans ((set_far hVL).trans ((set_far hVL).trans m1)),(set_far hVL).trans ((set_far hVL).trans ((set_far hVL).trans m2)),(set_far hVL).trans ((set_far hVL).trans ((set_far hVL).trans m3))⟩,?_⟩
        clear hK K
        refine wpAnyF_done (by kernel_rfl) ?_ _
        refine NoPanic.normal ?_
        have hFB6:=(FB.mk l0 l1 l2 zR fz vR vL).put hLR p.st p.rd p.wt
        have hS6':=((hS5.far (k:=0) (u:=.int .i64 p.st) hLB hLM hLF vL hL0w).far (k:=1) (u:=.int .i64 p.rd) hLB hLM hLF vL hL0w).far (k:=2) (u:=.int .i64 p.wt) hLB hLM hLF vL hL0w
        have n0 : (((W5.setCell ⟨Lb,0,none⟩ (.int .i64 p.st)).setCell ⟨Lb,1,none⟩ (.int .i64 p.rd)).setCell ⟨Lb,2,none⟩ (.int .i64 p.wt)).cell? ⟨V,0,none⟩ = some (.int .i64 p.st):=(set_far hVL).trans ((set_far hVL).trans ((set_far hVL).trans m0))
        have n1 : (((W5.setCell ⟨Lb,0,none⟩ (.int .i64 p.st)).setCell ⟨Lb,1,none⟩ (.int .i64 p.rd)).setCell ⟨Lb,2,none⟩ (.int .i64 p.wt)).cell? ⟨V,1,none⟩ = some (.int .i64 p.rd):=(set_far hVL).trans ((set_far hVL).trans ((set_far hVL).trans m1))
        have n2 : (((W5.setCell ⟨Lb,0,none⟩ (.int .i64 p.st)).setCell ⟨Lb,1,none⟩ (.int .i64 p.rd)).setCell ⟨Lb,2,none⟩ (.int .i64 p.wt)).cell? ⟨V,2,none⟩ = some (.int .i64 p.wt):=(set_far hVL).trans ((set_far hVL).trans ((set_far hVL).trans m2))
        have n3 : (((W5.setCell ⟨Lb,0,none⟩ (.int .i64 p.st)).setCell ⟨Lb,1,none⟩ (.int .i64 p.rd)).setCell ⟨Lb,2,none⟩ (.int .i64 p.wt)).cell? ⟨V,3,none⟩ = some (.int .i64 p.cost):=(set_far hVL).trans ((set_far hVL).trans ((set_far hVL).trans m3))
        clear l0 l1 l2 zR fz fz0 fz1 fz2 hS9 m0 m1 m2 m3
        generalize ((W5.setCell ⟨Lb,0,none⟩ (.int .i64 p.st)).setCell ⟨Lb,1,none⟩ (.int .i64 p.rd)).setCell ⟨Lb,2,none⟩ (.int .i64 p.wt) = W6 at *
        go_wp2_with (go_at_call 101; refine (goOn_any w0 f ins outs N s0 B Mb Fb fin aa m ac ia il ic oa ol oc (p.cost + fc) p.st p.rd p.wt (eP N outs.length p :: D) p.cost v1 c y ms L1 W6 HOK.out ha HAL.out hI HIL.out hO HOL.out hpv.1 hpv.2.1 hpv.2.2 hpc0 hpc9 (by omega) hS6' HG3.out HGX.out).mono ?_; rintro e w6 ⟨rfl,kk,⟨c6,y6,ms6,L6,v6,hM6,hLC6,hS6,hG6,hx6,hPR6,hl6⟩,hk61,hk62⟩)
        have HR6 : Hid (FRel w0 f ins outs N s0 B Mb Fb fin aa m ac ia il ic oa ol oc R Lb ((totS ins outs N - (D.length + 1)) * 3001 + L6.length) (.int .i64 (p.cost + fc)) w6):=by
         have hdone:=hG6.done (hPR6.all HOK.out hk61 hpv.1 (by have:=HOL.out; omega) (by rw [hx6]; exact hpc0)) (fun hf => by rw [hx6]; rw [HFC.out]; omega)
         exact ⟨(p.cost + fc),c6,y6,ms6,L6,v6,eP N outs.length p :: D,p.cost,p.st,p.rd,p.wt,rfl,rfl,hS6,hdone,by have:=HLL.out; rw [List.length_cons]; omega,hFB6.step hM6 hRB hRM hLB hLM,fun _ => HLB.out.mono hLC6,by omega,by omega⟩
        have HD6 : Hid (D.length + 1 <= totS ins outs N):=by
         have:=hG6.dlen
         rw [List.length_cons] at this
         exact this
        go_roundg ((totS ins outs N - (D.length + 1)) * 3001 + L6.length)
        case measure =>
         have h1:=HGK.out
         have h2:=HD6.out
         omega
        case rel => exact HR6.out
       ·skip
        have HNB : Hid (0 <= finS (totS ins outs N) N f.final (spotN N outs.length p.st p.rd p.wt) -> 0 <= best /\ best <= p.cost + finS (totS ins outs N) N f.final (spotN N outs.length p.st p.rd p.wt)):=fun hf => by
         rw [HFC.out] at hf ⊢
         omega
        clear hfl
        go_wp2
        generalize w1.alloc (.cells #[.int .i64 (p.st : Int),.int .i64 (p.rd : Int),.int .i64 (p.wt : Int),.int .i64 p.cost] 123) = W2 at *
        generalize w1.heap.size = V at *
        obtain ⟨W3,hW3⟩ : ∃ W3,W3 = W2.drew:=⟨_,rfl⟩
        have hb23 : Below W2.heap.size W2 W3:=by rw [hW3]; exact (bel_self W2).drew
        have hS0 : (fun wx : World => wx.cell? ⟨V,0,none⟩ = some (.int .i64 p.st) /\ wx.cell? ⟨V,1,none⟩ = some (.int .i64 p.rd) /\ wx.cell? ⟨V,2,none⟩ = some (.int .i64 p.wt) /\ wx.cell? ⟨V,3,none⟩ = some (.int .i64 p.cost) /\ wx.cell? ⟨B,7,none⟩ = some (.map (some Mb)) /\ MetAt wx Mb ms) W3:=⟨bel_c hb23 b0,bel_c hb23 b1,bel_c hb23 b2,bel_c hb23 b3,bel_c hb23 hS2.c7,hS2.met.block (hb23.block Mb hS2.met.lt)⟩
        refine wp_region_noPanic ?_
        refine wp_region_F (fun wx => wx.cell? ⟨V,0,none⟩ = some (.int .i64 p.st) /\ wx.cell? ⟨V,1,none⟩ = some (.int .i64 p.rd) /\ wx.cell? ⟨V,2,none⟩ = some (.int .i64 p.wt) /\ wx.cell? ⟨V,3,none⟩ = some (.int .i64 p.cost) /\ wx.cell? ⟨B,7,none⟩ = some (.map (some Mb)) /\ MetAt wx Mb ms) [] (by kernel_rfl) (by rw [<- hW3]; exact hS0) (fun _ => ?_)
        rw [<- hW3]
        clear hW3
        refine wpAnyF_free (i:=0) (v:=.pointer (some ⟨V,3,none⟩)) rfl (by kernel_rfl) (by kernel_rfl) (by kernel_rfl) (by kernel_rfl) (fun _ _ _ h => h) (Or.inl ⟨by rfl,fun wl hSw => ?_⟩) hS0 ?_
        ·(try dsimp only at hSw); go_simp
        refine tkF (i:=1) (v:=.int .i64 p.cost) rfl (by kernel_rfl) (fun _ _ _ h => h) (by rfl) hS0 (fun wl hSw => ?_) ?_
        ·(try dsimp only at hSw); go_simp
        refine wpAnyF_free (i:=2) (v:=.pointer (some ⟨B,0,none⟩)) rfl (by kernel_rfl) (by kernel_rfl) (by kernel_rfl) (by kernel_rfl) (fun _ _ _ h => h) (Or.inl ⟨by rfl,fun wl hSw => ?_⟩) hS0 ?_
        ·(try dsimp only at hSw); go_simp
        refine wpAnyF_free (i:=3) (v:=.pointer (some ⟨B,0,none⟩)) rfl (by kernel_rfl) (by kernel_rfl) (by kernel_rfl) (by kernel_rfl) (fun _ _ _ h => h) (Or.inl ⟨by rfl,fun wl hSw => ?_⟩) hS0 ?_
        ·(try dsimp only at hSw); go_simp
        refine wpAnyF_free (i:=4) (v:=.pointer (some ⟨B,7,none⟩)) rfl (by kernel_rfl) (by kernel_rfl) (by kernel_rfl) (by kernel_rfl) (fun _ _ _ h => h) (Or.inl ⟨by rfl,fun wl hSw => ?_⟩) hS0 ?_
        ·(try dsimp only at hSw); go_simp
        refine tkF (i:=5) (v:=.map (some Mb)) rfl (by kernel_rfl) (fun _ _ _ h => h) (by rfl) hS0 (fun wl hSw => ?_) ?_
        ·(try dsimp only at hSw); go_simp
        refine wpAnyF_free (i:=6) (v:=.pointer (some ⟨V,0,none⟩)) rfl (by kernel_rfl) (by kernel_rfl) (by kernel_rfl) (by kernel_rfl) (fun _ _ _ h => h) (Or.inl ⟨by rfl,fun wl hSw => ?_⟩) hS0 ?_
        ·(try dsimp only at hSw); go_simp
        refine tkF (i:=7) (v:=.agg #[.int .i64 p.st,.int .i64 p.rd,.int .i64 p.wt]) rfl (by kernel_rfl) (fun _ _ _ h => h) (by rfl) hS0 (fun wl hSw => ?_) ?_
        ·(try dsimp only at hSw); go_simp
        refine tkF (i:=8) (v:=.agg #[.int .i64 p.cost,.int .i64 ga]) rfl (by kernel_rfl) (fun _ _ _ h => h) (by rfl) hS0 (fun wl hSw => ?_) ?_
        ·(try dsimp only at hSw); go_simp; rw [look_bag hSw.2.2.2.2.2 HFV.out]; rfl
        refine wpAnyF_free (i:=9) (v:=.int .i64 p.cost) rfl (by kernel_rfl) (by kernel_rfl) (by kernel_rfl) (by kernel_rfl) (fun _ _ _ h => h) (Or.inl ⟨by rfl,fun wl hSw => ?_⟩) hS0 ?_
        ·(try dsimp only at hSw); go_simp; rw [field_step0]; rfl
        refine wpAnyF_one (i:=10) rfl (by kernel_rfl) (fun K hK => ?_)
        go_simp
        refine hK.out _ _ ⟨fun _ => hS0,?_⟩
        clear hK K
        refine wpAnyF_done (by kernel_rfl) ?_ _
        refine NoPanic.normal ?_
        have hS3:=hS2.below hb23
        have hFB3:=hFB2.below hb23
        have d0:=bel_c hb23 b0
        have d1:=bel_c hb23 b1
        have d2:=bel_c hb23 b2
        have d3:=bel_c hb23 b3
        go_wp2_with (first | (go_at_call 77; have he:=HEND.out p.st p.rd p.wt W3 hpv.1 hpv.2.1 hpv.2.2 hS3.bel; rw [HFC.out] at he; refine he.mono ?_; rintro e w4 ⟨rfl,hb4⟩; have f0:=bel_c hb4 d0; have f1:=bel_c hb4 d1; have f2:=bel_c hb4 d2; have f3:=bel_c hb4 d3) | (go_at_call 101; refine (goOn_any w0 f ins outs N s0 B Mb Fb fin aa m ac ia il ic oa ol oc best p.st p.rd p.wt (eP N outs.length p :: D) p.cost v1 c y ms L1 w4 HOK.out ha HAL.out hI HIL.out hO HOL.out hpv.1 hpv.2.1 hpv.2.2 hpc0 hpc9 (by omega) (hS3.below hb4) HG2.out HGX.out).mono ?_; rintro e w6 ⟨rfl,kk,⟨c6,y6,ms6,L6,v6,hM6,hLC6,hS6,hG6,hx6,hPR6,hl6⟩,hk61,hk62⟩))
        have HR6 : Hid (FRel w0 f ins outs N s0 B Mb Fb fin aa m ac ia il ic oa ol oc R Lb ((totS ins outs N - (D.length + 1)) * 3001 + L6.length) (.int .i64 best) w6):=by
         have hdone:=hG6.done (hPR6.all HOK.out hk61 hpv.1 (by have:=HOL.out; omega) (by rw [hx6]; exact hpc0)) (fun hf => by rw [hx6]; exact HNB.out hf)
         exact ⟨best,c6,y6,ms6,L6,v6,eP N outs.length p :: D,p.cost,ln,li,lo',rfl,rfl,hS6,hdone,by have:=HLL.out; rw [List.length_cons]; omega,(hFB3.below hb4).step hM6 hRB hRM hLB hLM,fun hb => (HLA.out hb).mono hLC6,by omega,by omega⟩
        have HD6 : Hid (D.length + 1 <= totS ins outs N):=by
         have:=hG6.dlen
         rw [List.length_cons] at this
         exact this
        go_roundg ((totS ins outs N - (D.length + 1)) * 3001 + L6.length)
        case measure =>
         have h1:=HGK.out
         have h2:=HD6.out
         omega
        case rel => exact HR6.out
      ·have hfe : fc = -1:=hfl.1 (by omega)
       subst hfe
       have HNB : Hid (0 <= finS (totS ins outs N) N f.final (spotN N outs.length p.st p.rd p.wt) -> 0 <= best /\ best <= p.cost + finS (totS ins outs N) N f.final (spotN N outs.length p.st p.rd p.wt)):=fun hf => by
        rw [HFC.out] at hf ⊢
        omega
       clear hfl
       go_wp2
       generalize w1.alloc (.cells #[.int .i64 (p.st : Int),.int .i64 (p.rd : Int),.int .i64 (p.wt : Int),.int .i64 p.cost] 123) = W2 at *
       generalize w1.heap.size = V at *
       obtain ⟨W3,hW3⟩ : ∃ W3,W3 = W2.drew:=⟨_,rfl⟩
       have hb23 : Below W2.heap.size W2 W3:=by rw [hW3]; exact (bel_self W2).drew
       have hS0 : (fun wx : World => wx.cell? ⟨V,0,none⟩ = some (.int .i64 p.st) /\ wx.cell? ⟨V,1,none⟩ = some (.int .i64 p.rd) /\ wx.cell? ⟨V,2,none⟩ = some (.int .i64 p.wt) /\ wx.cell? ⟨V,3,none⟩ = some (.int .i64 p.cost) /\ wx.cell? ⟨B,7,none⟩ = some (.map (some Mb)) /\ MetAt wx Mb ms) W3:=⟨bel_c hb23 b0,bel_c hb23 b1,bel_c hb23 b2,bel_c hb23 b3,bel_c hb23 hS2.c7,hS2.met.block (hb23.block Mb hS2.met.lt)⟩
       refine wp_region_noPanic ?_
       refine wp_region_F (fun wx => wx.cell? ⟨V,0,none⟩ = some (.int .i64 p.st) /\ wx.cell? ⟨V,1,none⟩ = some (.int .i64 p.rd) /\ wx.cell? ⟨V,2,none⟩ = some (.int .i64 p.wt) /\ wx.cell? ⟨V,3,none⟩ = some (.int .i64 p.cost) /\ wx.cell? ⟨B,7,none⟩ = some (.map (some Mb)) /\ MetAt wx Mb ms) [] (by kernel_rfl) (by rw [<- hW3]; exact hS0) (fun _ => ?_)
       rw [<- hW3]
       clear hW3
       refine wpAnyF_free (i:=0) (v:=.pointer (some ⟨V,3,none⟩)) rfl (by kernel_rfl) (by kernel_rfl) (by kernel_rfl) (by kernel_rfl) (fun _ _ _ h => h) (Or.inl ⟨by rfl,fun wl hSw => ?_⟩) hS0 ?_
       ·(try dsimp only at hSw); go_simp
       refine tkF (i:=1) (v:=.int .i64 p.cost) rfl (by kernel_rfl) (fun _ _ _ h => h) (by rfl) hS0 (fun wl hSw => ?_) ?_
       ·(try dsimp only at hSw); go_simp
       refine wpAnyF_free (i:=2) (v:=.pointer (some ⟨B,0,none⟩)) rfl (by kernel_rfl) (by kernel_rfl) (by kernel_rfl) (by kernel_rfl) (fun _ _ _ h => h) (Or.inl ⟨by rfl,fun wl hSw => ?_⟩) hS0 ?_
       ·(try dsimp only at hSw); go_simp
       refine wpAnyF_free (i:=3) (v:=.pointer (some ⟨B,0,none⟩)) rfl (by kernel_rfl) (by kernel_rfl) (by kernel_rfl) (by kernel_rfl) (fun _ _ _ h => h) (Or.inl ⟨by rfl,fun wl hSw => ?_⟩) hS0 ?_
       ·(try dsimp only at hSw); go_simp
       refine wpAnyF_free (i:=4) (v:=.pointer (some ⟨B,7,none⟩)) rfl (by kernel_rfl) (by kernel_rfl) (by kernel_rfl) (by kernel_rfl) (fun _ _ _ h => h) (Or.inl ⟨by rfl,fun wl hSw => ?_⟩) hS0 ?_
       ·(try dsimp only at hSw); go_simp
       refine tkF (i:=5) (v:=.map (some Mb)) rfl (by kernel_rfl) (fun _ _ _ h => h) (by rfl) hS0 (fun wl hSw => ?_) ?_
       ·(try dsimp only at hSw); go_simp
       refine wpAnyF_free (i:=6) (v:=.pointer (some ⟨V,0,none⟩)) rfl (by kernel_rfl) (by kernel_rfl) (by kernel_rfl) (by kernel_rfl) (fun _ _ _ h => h) (Or.inl ⟨by rfl,fun wl hSw => ?_⟩) hS0 ?_
       ·(try dsimp only at hSw); go_simp
       refine tkF (i:=7) (v:=.agg #[.int .i64 p.st,.int .i64 p.rd,.int .i64 p.wt]) rfl (by kernel_rfl) (fun _ _ _ h => h) (by rfl) hS0 (fun wl hSw => ?_) ?_
       ·(try dsimp only at hSw); go_simp
       refine tkF (i:=8) (v:=.agg #[.int .i64 p.cost,.int .i64 ga]) rfl (by kernel_rfl) (fun _ _ _ h => h) (by rfl) hS0 (fun wl hSw => ?_) ?_
       ·(try dsimp only at hSw); go_simp; rw [look_bag hSw.2.2.2.2.2 HFV.out]; rfl
       refine wpAnyF_free (i:=9) (v:=.int .i64 p.cost) rfl (by kernel_rfl) (by kernel_rfl) (by kernel_rfl) (by kernel_rfl) (fun _ _ _ h => h) (Or.inl ⟨by rfl,fun wl hSw => ?_⟩) hS0 ?_
       ·(try dsimp only at hSw); go_simp; rw [field_step0]; rfl
       refine wpAnyF_one (i:=10) rfl (by kernel_rfl) (fun K hK => ?_)
       go_simp
       refine hK.out _ _ ⟨fun _ => hS0,?_⟩
       clear hK K
       refine wpAnyF_done (by kernel_rfl) ?_ _
       refine NoPanic.normal ?_
       have hS3:=hS2.below hb23
       have hFB3:=hFB2.below hb23
       have d0:=bel_c hb23 b0
       have d1:=bel_c hb23 b1
       have d2:=bel_c hb23 b2
       have d3:=bel_c hb23 b3
       go_wp2_with (first | (go_at_call 77; have he:=HEND.out p.st p.rd p.wt W3 hpv.1 hpv.2.1 hpv.2.2 hS3.bel; rw [HFC.out] at he; refine he.mono ?_; rintro e w4 ⟨rfl,hb4⟩; have f0:=bel_c hb4 d0; have f1:=bel_c hb4 d1; have f2:=bel_c hb4 d2; have f3:=bel_c hb4 d3) | (go_at_call 101; refine (goOn_any w0 f ins outs N s0 B Mb Fb fin aa m ac ia il ic oa ol oc best p.st p.rd p.wt (eP N outs.length p :: D) p.cost v1 c y ms L1 w4 HOK.out ha HAL.out hI HIL.out hO HOL.out hpv.1 hpv.2.1 hpv.2.2 hpc0 hpc9 (by omega) (hS3.below hb4) HG2.out HGX.out).mono ?_; rintro e w6 ⟨rfl,kk,⟨c6,y6,ms6,L6,v6,hM6,hLC6,hS6,hG6,hx6,hPR6,hl6⟩,hk61,hk62⟩))
       have HR6 : Hid (FRel w0 f ins outs N s0 B Mb Fb fin aa m ac ia il ic oa ol oc R Lb ((totS ins outs N - (D.length + 1)) * 3001 + L6.length) (.int .i64 best) w6):=by
        have hdone:=hG6.done (hPR6.all HOK.out hk61 hpv.1 (by have:=HOL.out; omega) (by rw [hx6]; exact hpc0)) (fun hf => by rw [hx6]; exact HNB.out hf)
        exact ⟨best,c6,y6,ms6,L6,v6,eP N outs.length p :: D,p.cost,ln,li,lo',rfl,rfl,hS6,hdone,by have:=HLL.out; rw [List.length_cons]; omega,(hFB3.below hb4).step hM6 hRB hRM hLB hLM,fun hb => (HLA.out hb).mono hLC6,by omega,by omega⟩
       have HD6 : Hid (D.length + 1 <= totS ins outs N):=by
        have:=hG6.dlen
        rw [List.length_cons] at this
        exact this
       go_roundg ((totS ins outs N - (D.length + 1)) * 3001 + L6.length)
       case measure =>
        have h1:=HGK.out
        have h2:=HD6.out
        omega
       case rel => exact HR6.out
end Go.Proofs.Yteehgcbjmdideab
