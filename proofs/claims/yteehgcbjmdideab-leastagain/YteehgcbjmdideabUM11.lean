/- slices.Reverse over numbers of one's own. -/
import Derived.Test.YteehgcbjmdideabUShelfR
import Derived.Test.YteehgcbjmdideabUM01
import Derived.Sort.OwnSortedInts
import Derived.Test.YteehgcbjmdideabUM10
import Derived.Test.YteehgcbjmdideabUM06
import Derived.Test.YteehgcbjmdideabUM05
set_option maxRecDepth 100000
namespace Go.Proofs.Yteehgcbjmdideab
open Go.RowKit Go.Lib Go.Sort
theorem rev_any (B : Nat) (v : Value) (xs : List Int) (w : World) (h : w.ownsRow B 3 1 v xs.length (xs.map (Value.int .i64))) :
  Calls Try.prog 102 #[v] w fun e w' => e = .returned (.tuple #[]) /\ w'.ownsRow B 3 1 v xs.length (xs.reverse.map (Value.int .i64)) /\ Below B w w':=by
 have h':=h
 obtain ⟨hl,h⟩:=h
 rcases h with ⟨rfl,h0⟩ | ⟨g,cap,cur,rfl,hg,hb,h1,h2,h3,h4⟩
 ·have e0 : xs = []:=List.eq_nil_of_length_eq_zero h0
  subst e0
  refine (Try.slices_Reverse_int_empty none 0 w).mono ?_
  rintro e w' ⟨rfl,rfl⟩
  exact ⟨rfl,h',Below.refl _ _⟩
 ·have hH : Holds (Value.int .i64) w g 0 xs.toArray:=by
   intro j hj
   have hj' : j < xs.length:=by simpa using hj
   refine ⟨?_,Go.Joins.unfrozen_of_block hb _⟩
   rw [Nat.zero_add,h'.cellAt j (by simpa using hj')]
   simp [hj']
  refine (Try.slices_Reverse_int g 0 cap xs w hH (by unfold maxLen at h2; omega)).mono ?_
  rintro e w' ⟨rfl,n,rfl⟩
  have hs:=ownsRow_sortedI (n:=n) (os:=#[]) (ss:=xs) (ts:=xs.reverse) (by simp) hg hb h1 h2 h3
  have hgr:=grownBy_sortedI (w:=w) (g:=g) (n:=n) (os:=#[]) xs.reverse.toArray
  have e0 : ∀ wx : World,grow wx #[] = wx:=fun wx => by simp [grow]
  rw [e0] at hs hgr
  exact ⟨rfl,hs,⟨rfl,rfl,rfl,by simp,fun k hk => hgr.block k (by have:=heap_lt hb; omega) (fun e => by injection e with e; omega)⟩⟩
end Go.Proofs.Yteehgcbjmdideab
/- 'wayTo' of the search. -/
namespace Go.Proofs.Yteehgcbjmdideab
open Go.RowKit
attribute [local go_sem ↓] Go.wp_at_zero Go.wp_at_succ
theorem field_step1 (a b : Int) (w : World) : (Instr.field 120 (.agg #[.int .i64 a,.int .i64 b]) 1).run Try.prog w = .ok (.int .i64 b) w:=by kernel_rfl
theorem one_int (x : Int) : ∀ u ∈ [Value.int .i64 x],u.oneCell' = true:=by
 intro u hu
 rw [List.mem_singleton] at hu
 subst hu
 rfl
theorem bel_via {B C : Nat} {a b d : World} (h1 : Below B a b) (h2 : Below C b d) (h : B <= C) : Below B a d :=
 ⟨h2.os.trans h1.os,h2.tape.trans h1.tape,h2.output.trans h1.output,Nat.le_trans h1.size h2.size,fun k hk => (h2.block k (by omega)).trans (h1.block k hk)⟩
structure WRel (f : FstD) (ins outs : List Int) (N s0 : Nat) (c y : List Int) (r : Nat -> Nat) (R A n i o : Nat) (w : World) (gk : Nat) (t5 t6 : Value) (wr : World) (pre : List Int) (n' i' o' : Nat) (D : List Nat) : Prop where
 hn : n' < N
 hi : i' <= ins.length
 ho : o' <= outs.length
 hc : 0 <= gI c (spotN N outs.length n' i' o')
 gk : gk = muB c r R (spotN N outs.length n' i' o')
 t6 : t6 = .int .i64 (arcOf f.arcs.length (gI y (spotN N outs.length n' i' o')))
 own : wr.ownsRow (A + 1) 3 1 t5 pre.length (pre.map (Value.int .i64))
 bel : Below A w wr
 l0 : wr.cell? ⟨A,0,none⟩ = some (.int .i64 n')
 l1 : wr.cell? ⟨A,1,none⟩ = some (.int .i64 i')
 l2 : wr.cell? ⟨A,2,none⟩ = some (.int .i64 o')
 fz : ∀ k,wr.frozen? ⟨A,k,none⟩ = false
 way : ∀ l,BWay f ins outs N s0 c y l n' i' o' -> BWay f ins outs N s0 c y (pre ++ l) n i o
 dl : D.length = pre.length
 nd : (spotN N outs.length n' i' o' :: D).Nodup
 dd : ∀ d ∈ D,d < totS ins outs N /\ muB c r R (spotN N outs.length n' i' o') < muB c r R d
theorem used_back (u : Nat) (x : Int) (hx : 0 <= x) (hu : u <= 40) : wrap64 ((usedBy u x : Int) - min x 1) = u:=by
 have e : (usedBy u x : Int) - min x 1 = u:=by
  unfold usedBy
  split <;> omega
 rw [e]
 unfold wrap64
 omega
theorem MsOk.found {N I O m : Nat} {c y : List Int} {ms : List MetD} (h : MsOk N I O m c y ms) {n i o : Nat} (hn : n < N) (hi : i <= I) (ho : o <= O) (hc : 0 <= gI c (spotN N O n i o)) : foundV (lookM n i o ms) = stepV (gI c (spotN N O n i o)) (arcOf m (gI y (spotN N O n i o))):=by
 rw [h n i o hn hi ho,if_neg (by omega)]
 rfl
set_option maxHeartbeats 4000000 in
theorem wayTo_any (w0 : World) (f : FstD) (ins outs : List Int) (N s0 B Mb Fb : Nat) (fin : Value) (aa : Option Addr) (m ac : Nat) (iv ov v : Value) (fl : List Int) (c y : List Int) (ms : List MetD) (L : List PlD) (n i o : Nat) (w : World)
  (hok : OkW f ins outs N s0) (hlet : ∀ a ∈ f.arcs,0 <= a.inp /\ 0 <= a.out) (ha : ASlice w0 (.slice aa m ac) f.arcs) (hal : f.arcs.length = m)
  (h : SW w0 w N s0 B Mb Fb fin (.slice aa m ac) iv ov v fl ms L) (hinv : Inv (EdS f ins outs N) (bgS s0 (totS ins outs N)) c y) (hmo : MsOk N ins.length outs.length f.arcs.length c y ms) (hn : n < N) (hi : i <= ins.length) (ho : o <= outs.length) (hc : 0 <= gI c (spotN N outs.length n i o)) :
  Calls Try.prog 78 #[.pointer (some ⟨B,0,none⟩),.agg #[.int .i64 n,.int .i64 i,.int .i64 o]] w fun e w' =>
   ∃ u pre,e = .returned u /\ ISlice w' u pre.reverse /\ BWay f ins outs N s0 c y pre n i o /\ Below w.heap.size w w':=by
 obtain ⟨r,R,hr,hby⟩:=hinv.by_
 have hcl : c.length = totS ins outs N:=hinv.len.trans (bgS_len _ _)
 have HB : Hid (∀ {n i o : Nat},n < N -> i <= ins.length -> o <= outs.length -> 0 <= gI c (spotN N outs.length n i o) -> (arcOf f.arcs.length (gI y (spotN N outs.length n i o)) = -1 /\ BWay f ins outs N s0 c y [] n i o) \/ ∃ (k : Nat) (n' i' o' : Nat),BStep f ins outs N c y k n i o n' i' o' /\ muB c r R (spotN N outs.length n' i' o') < muB c r R (spotN N outs.length n i o)):=fun a b d e => back_spot hok hcl hr hby a b d e
 have HMO : Hid (MsOk N ins.length outs.length f.arcs.length c y ms):=hmo
 have HOK : Hid (OkW f ins outs N s0):=hok
 have HLET : Hid (∀ a ∈ f.arcs,0 <= a.inp /\ 0 <= a.out):=hlet
 have HAL : Hid (f.arcs.length = m):=hal
 have hm3 : m <= 3000:=by have:=hok.many; omega
 have hi40:=hok.i40
 have ho40:=hok.o40
 have hT:=hok.tot
 have HFV : Hid (foundV (lookM n i o ms) = stepV (gI c (spotN N outs.length n i o)) (arcOf f.arcs.length (gI y (spotN N outs.length n i o)))):=hmo.found hn hi ho hc
 have hb0:=bel_up (bel_self w) (.cells #[.int .i64 n,.int .i64 i,.int .i64 o] 96)
 have hz : (w.alloc (.cells #[.int .i64 n,.int .i64 i,.int .i64 o] 96)).heap[w.heap.size]? = some (.cells #[.int .i64 n,.int .i64 i,.int .i64 o] 96 (0,0)):=heap_alloc_new w _
 have m0 : (w.alloc (.cells #[.int .i64 n,.int .i64 i,.int .i64 o] 96)).cell? ⟨w.heap.size,0,none⟩ = some (.int .i64 n):=by simp
 have m1 : (w.alloc (.cells #[.int .i64 n,.int .i64 i,.int .i64 o] 96)).cell? ⟨w.heap.size,1,none⟩ = some (.int .i64 i):=by simp
 have m2 : (w.alloc (.cells #[.int .i64 n,.int .i64 i,.int .i64 o] 96)).cell? ⟨w.heap.size,2,none⟩ = some (.int .i64 o):=by simp
 have mf : ∀ k,(w.alloc (.cells #[.int .i64 n,.int .i64 i,.int .i64 o] 96)).frozen? ⟨w.heap.size,k,none⟩ = false:=fun k => Go.Joins.unfrozen_of_block hz k
 have m7:=(h.below hb0).c7
 have mM:=(h.below hb0).met
 have hAB : w.heap.size ≠ B:=by have:=cell_lt h.c0; omega
 have hAM : w.heap.size ≠ Mb:=by have:=h.met.lt; omega
 obtain ⟨i0,hinf,hz0,hz1,hz2⟩:=info_parts Try.info3
 have HA0 : Hid (∀ wx,Below w.heap.size w wx -> ASlice wx (.slice aa m ac) f.arcs):=fun wx hx => ha.below (bel_on h.bel hx)
 have HS : Hid (∀ wx,Below w.heap.size w wx -> SW w0 wx N s0 B Mb Fb fin (.slice aa m ac) iv ov v fl ms L):=fun wx hx => h.below hx
 clear hok hlet hal hby hinv hmo hcl hz ha h
 go_enter Try.func78,Try.ntmps78
 go_wp2
 obtain ⟨A,hA⟩ : ∃ A,A = w.heap.size:=⟨_,rfl⟩
 rw [<- hA] at m0 m1 m2 mf hb0 HA0 HS hAB hAM ⊢
 have HAW : Hid (A = w.heap.size):=hA
 clear hA
 generalize w.alloc (.cells #[.int .i64 (n : Int),.int .i64 (i : Int),.int .i64 (o : Int)] 96) = W1 at *
 obtain ⟨W2,hW2⟩ : ∃ W2,W2 = W1.drew:=⟨_,rfl⟩
 have hbW2 : Below W1.heap.size W1 W2:=by rw [hW2]; exact (bel_self W1).drew
 have hS0 : (fun wx : World => wx.cell? ⟨A,0,none⟩ = some (.int .i64 n) /\ wx.cell? ⟨A,1,none⟩ = some (.int .i64 i) /\ wx.cell? ⟨A,2,none⟩ = some (.int .i64 o) /\ wx.cell? ⟨B,7,none⟩ = some (.map (some Mb)) /\ MetAt wx Mb ms) W2:=⟨bel_c hbW2 m0,bel_c hbW2 m1,bel_c hbW2 m2,bel_c hbW2 m7,mM.block (hbW2.block Mb mM.lt)⟩
 refine wp_region_noPanic ?_
 refine wp_region_F (fun wx : World => wx.cell? ⟨A,0,none⟩ = some (.int .i64 n) /\ wx.cell? ⟨A,1,none⟩ = some (.int .i64 i) /\ wx.cell? ⟨A,2,none⟩ = some (.int .i64 o) /\ wx.cell? ⟨B,7,none⟩ = some (.map (some Mb)) /\ MetAt wx Mb ms) [] (by kernel_rfl) (by rw [<- hW2]; exact hS0) (fun _ => ?_)
 rw [<- hW2]
 clear hW2
 refine wpAnyF_free (i:=0) (v:=.pointer (some ⟨B,0,none⟩)) rfl (by kernel_rfl) (by kernel_rfl) (by kernel_rfl) (by kernel_rfl) (fun _ _ _ h => h) (Or.inl ⟨by rfl,fun wl hSw => ?_⟩) hS0 ?_
 ·(try dsimp only at hSw); go_simp
 refine wpAnyF_free (i:=1) (v:=.pointer (some ⟨B,0,none⟩)) rfl (by kernel_rfl) (by kernel_rfl) (by kernel_rfl) (by kernel_rfl) (fun _ _ _ h => h) (Or.inl ⟨by rfl,fun wl hSw => ?_⟩) hS0 ?_
 ·(try dsimp only at hSw); go_simp
 refine wpAnyF_free (i:=2) (v:=.pointer (some ⟨B,7,none⟩)) rfl (by kernel_rfl) (by kernel_rfl) (by kernel_rfl) (by kernel_rfl) (fun _ _ _ h => h) (Or.inl ⟨by rfl,fun wl hSw => ?_⟩) hS0 ?_
 ·(try dsimp only at hSw); go_simp
 refine tkF (i:=3) (v:=.map (some Mb)) rfl (by kernel_rfl) (fun _ _ _ h => h) (by rfl) hS0 (fun wl hSw => ?_) ?_
 ·(try dsimp only at hSw); go_simp
 refine tkF (i:=4) (v:=.agg #[.int .i64 n,.int .i64 i,.int .i64 o]) rfl (by kernel_rfl) (fun _ _ _ h => h) (by rfl) hS0 (fun wl hSw => ?_) ?_
 ·(try dsimp only at hSw); go_simp
 refine tkF (i:=5) (v:=.agg #[.int .i64 (gI c (spotN N outs.length n i o)),.int .i64 (arcOf f.arcs.length (gI y (spotN N outs.length n i o)))]) rfl (by kernel_rfl) (fun _ _ _ h => h) (by rfl) hS0 (fun wl hSw => ?_) ?_
 ·(try dsimp only at hSw); go_simp; rw [look_bag hSw.2.2.2.2 HFV.out]; rfl
 refine wpAnyF_free (i:=6) (v:=.int .i64 (arcOf f.arcs.length (gI y (spotN N outs.length n i o)))) rfl (by kernel_rfl) (by kernel_rfl) (by kernel_rfl) (by kernel_rfl) (fun _ _ _ h => h) (Or.inl ⟨by rfl,fun wl hSw => ?_⟩) hS0 ?_
 ·(try dsimp only at hSw); go_simp; rw [field_step1]; rfl
 refine wpAnyF_one (i:=7) rfl (by kernel_rfl) (fun K hK => ?_)
 go_simp
 refine hK.out _ _ ⟨fun _ => hS0,?_⟩
 clear hK K
 refine wpAnyF_done (by kernel_rfl) ?_ _
 refine NoPanic.normal ?_
 go_wp2
 have hsz1 : A + 1 <= W1.heap.size:=by have:=cell_lt m0; show A + 1 <= _; omega
 have hR0 : ∃ pre n' i' o' D,WRel f ins outs N s0 c y r R A n i o w (muB c r R (spotN N outs.length n i o)) (.slice none 0 0) (.int .i64 (arcOf f.arcs.length (gI y (spotN N outs.length n i o)))) W2 pre n' i' o' D :=
  ⟨[],n,i,o,[],hn,hi,ho,hc,rfl,rfl,World.ownsRow_nil _ _ _ _,bel_via hb0 hbW2 (by omega),hS0.1,hS0.2.1,hS0.2.2.1,fun k => (hbW2.frozen (p:=⟨A,k,none⟩) (cell_lt m0)).trans (mf k),fun l hl => hl,rfl,by simp,fun d hd => by cases hd⟩
 clear m0 m1 m2 m7 mM mf hS0 hbW2 hb0 HFV hsz1
 go_loopg [5,6] (muB c r R (spotN N outs.length n i o)) (fun gk t5 t6 wr => ∃ pre n' i' o' D,WRel f ins outs N s0 c y r R A n i o w gk t5 t6 wr pre n' i' o' D)
 case atStart => exact hR0
 case round =>
  clear hR0
  obtain ⟨pre,n1,i1,o1,D,hW⟩:=hrel
  have HW : Hid _:=hW
  have hown:=hW.own
  have hb:=hW.bel
  have ht6:=hW.t6
  subst ht6
  have hpl : pre.length + 1 <= totS ins outs N:=by
   have:=nodup_le (totS ins outs N) _ hW.nd (fun u hu => by
    rcases List.mem_cons.1 hu with rfl | hu
    ·exact spotN_lt hW.hn hW.hi hW.ho
    ·exact (hW.dd u hu).1)
   rw [List.length_cons,hW.dl] at this
   exact this
  rcases HB.out hW.hn hW.hi hW.ho hW.hc with ⟨e1,e2⟩ | ⟨k,n2,i2,o2,hst,hmu⟩
  ·have HWY : Hid (BWay f ins outs N s0 c y pre n i o):=by
    have:=hW.way [] e2
    rw [List.append_nil] at this
    exact this
   rw [e1]
   clear e1 e2 hW
   go_wp2_with (go_at_call 102; refine (rev_any (A + 1) _ pre _ hown).mono ?_; rintro e w4 ⟨rfl,hrow,hb4⟩)
   go_ret
   exact ⟨_,pre,rfl,ownsRow_ints (xs:=pre.reverse) (by simpa using hrow),HWY.out,by rw [<- HAW.out]; exact bel_via hb hb4 (by omega)⟩
  ·have HST : Hid (BStep f ins outs N c y k n1 i1 o1 n2 i2 o2 /\ muB c r R (spotN N outs.length n2 i2 o2) < muB c r R (spotN N outs.length n1 i1 o1)):=⟨hst,hmu⟩
   obtain ⟨j,a,e1,e2,e3,e4,e5,e6,e7,e8,e9,g1,g2,g3,g4,g5⟩:=hst
   have e1' : j = k:=by omega
   subst e1'
   rw [e2]
   have hjm : j < m:=by
    have:=HAL.out
    obtain ⟨h3,_⟩:=List.getElem?_eq_some_iff.1 e3
    omega
   obtain ⟨p1,p2⟩:=HLET.out a (List.mem_of_getElem? e3)
   have HAJ : Hid (f.arcs.getD j a0 = a):=(by simp [List.getD,e3] : f.arcs.getD j a0 = a)
   obtain ⟨ab,aoff,haa,_⟩:=(HA0.out wr hb).some (by omega)
   subst haa
   have HE4 : Hid (a.src = n2):=e4
   have hji : (j : Int) < m:=by omega
   have hjb : ((j : Int) != -1) = true:=by
    rw [bne_iff_ne]
    omega
   have hsz:=hb.size
   have l0:=hW.l0
   have l1:=hW.l1
   have l2:=hW.l2
   have hlA:=cell_lt l0
   have hWf:=hW.fz
   have HFV : Hid (foundV (lookM n2 i2 o2 ms) = stepV (gI c (spotN N outs.length n2 i2 o2)) (arcOf f.arcs.length (gI y (spotN N outs.length n2 i2 o2)))):=HMO.out.found g1 g2 g3 g4
   clear e1 e2 e3 e4 e5 e6 e7 g4 g5 hW hmu
   go_wp2_with (at_builtin; refine wpList_append_own _ rfl _ _ 22 rfl (A + 1) 3 i0 (.int .i64 0) 1 8 Try.underlying22 hinf hz0 hz1 hz2 rfl (by decide) _ _ _ rfl (hown.alloc _) ⟨wr.heap.size,0,none⟩ 1 1 [.int .i64 (j : Int)] rfl rfl (cells_new _ #[.int .i64 (j : Int)] 3 wr.heap.size rfl) (one_int (j : Int)) (by unfold maxLen; omega) (by omega) (by simp; omega) ?_; intro v' w4 hown' hgrow _; have hb4 : Below A w w4:=(bel_via hb (bel_up (bel_self wr) _) (by omega)).grown hgrow (by simp; omega) (fun g hg => by have:=own_base hown g hg; omega); have q3:=(HS.out w4 hb4).c3; obtain ⟨ab',aoff',haa,hx⟩:=(HA0.out w4 hb4).some (by omega); cases haa; have c0:=hx.c0 j hjm; have c1:=hx.c1 j hjm; have c2:=hx.c2 j hjm; have c3:=hx.c3 j hjm; have c4:=hx.c4 j hjm; rw [HAJ.out] at c0 c1 c2 c3 c4; rw [HE4.out] at c0; clear hx; have hneA : some A ≠ u5.ownBlock:=(fun e => by have:=own_base hown A e.symm; omega); have hltA : A < (wr.alloc (.cells #[.int .i64 (j : Int)] 3)).heap.size:=(by simp; omega); have fA : ∀ k u,wr.cell? ⟨A,k,none⟩ = some u -> w4.cell? ⟨A,k,none⟩ = some u:=(fun k u hk => (hgrow.cell_far ⟨A,k,none⟩ hltA hneA).trans (bel_c (bel_up (bel_self wr) _) hk)); have fzA : ∀ k,w4.frozen? ⟨A,k,none⟩ = false:=(fun k => (hgrow.frozen_far ⟨A,k,none⟩ hltA hneA).trans (((bel_up (bel_self wr) (.cells #[.int .i64 (j : Int)] 3)).frozen (p:=⟨A,k,none⟩) hlA).trans (hWf k))); have hbC:=bel_up (bel_self w4) (.cells #[.int .i64 (n2 : Int),.int .i64 a.inp,.int .i64 a.out,.int .i64 a.dst,.int .i64 a.wt] 54); have k0:=bel_c hbC (fA 0 _ l0); have k1:=bel_c hbC (fA 1 _ l1); have k2:=bel_c hbC (fA 2 _ l2); have z0:=(hbC.frozen (p:=⟨A,0,none⟩) (cell_lt (fA 0 _ l0))).trans (fzA 0); have z1:=(hbC.frozen (p:=⟨A,1,none⟩) (cell_lt (fA 0 _ l0))).trans (fzA 1); have z2:=(hbC.frozen (p:=⟨A,2,none⟩) (cell_lt (fA 0 _ l0))).trans (fzA 2); have HZ : Hid (∀ k,(w4.alloc (.cells #[.int .i64 (n2 : Int),.int .i64 a.inp,.int .i64 a.out,.int .i64 a.dst,.int .i64 a.wt] 54)).frozen? ⟨A,k,none⟩ = false):=(fun k => (hbC.frozen (p:=⟨A,k,none⟩) (cell_lt (fA 0 _ l0))).trans (fzA k)); have HL4 : Hid (A < w4.heap.size):=cell_lt (fA 0 _ l0); clear fA fzA hgrow)
   have hw1 : wrap64 ((usedBy i2 a.inp : Int) - min a.inp 1) = i2:=used_back i2 a.inp p1 (by omega)
   have hw2 : wrap64 ((usedBy o2 a.out : Int) - min a.out 1) = o2:=used_back o2 a.out p2 (by omega)
   rw [hw1,hw2]
   have hbWc:=bel_via hb4 hbC (by have:=HL4.out; omega)
   have hvA : v'.ownBlock ≠ some A:=fun e => by have:=own_base hown' A e; omega
   have hoc:=ownsRow_bel hown' hbC
   clear hw1 hw2 q3 c0 c1 c2 c3 c4 z0 z1 z2 hbC l0 l1 l2 hown hb hneA hltA
   generalize w4.alloc (.cells #[.int .i64 (n2 : Int),.int .i64 a.inp,.int .i64 a.out,.int .i64 a.dst,.int .i64 a.wt] 54) = Wc at *
   have m0 : (((Wc.setCell ⟨A,0,none⟩ (.int .i64 n2)).setCell ⟨A,1,none⟩ (.int .i64 i2)).setCell ⟨A,2,none⟩ (.int .i64 o2)).cell? ⟨A,0,none⟩ = some (.int .i64 n2):=set_off (set_off (World.cell?_setCell_same _ _ _ k0) (by decide)) (by decide)
   have m1 : (((Wc.setCell ⟨A,0,none⟩ (.int .i64 n2)).setCell ⟨A,1,none⟩ (.int .i64 i2)).setCell ⟨A,2,none⟩ (.int .i64 o2)).cell? ⟨A,1,none⟩ = some (.int .i64 i2):=set_off (World.cell?_setCell_same _ _ _ (set_off k1 (by decide))) (by decide)
   have m2 : (((Wc.setCell ⟨A,0,none⟩ (.int .i64 n2)).setCell ⟨A,1,none⟩ (.int .i64 i2)).setCell ⟨A,2,none⟩ (.int .i64 o2)).cell? ⟨A,2,none⟩ = some (.int .i64 o2):=World.cell?_setCell_same _ _ _ (set_off (set_off k2 (by decide)) (by decide))
   have HZ5 : Hid (∀ k,(((Wc.setCell ⟨A,0,none⟩ (.int .i64 n2)).setCell ⟨A,1,none⟩ (.int .i64 i2)).setCell ⟨A,2,none⟩ (.int .i64 o2)).frozen? ⟨A,k,none⟩ = false):=fun k => by simp only [World.frozen?_setCell]; exact HZ.out k
   have hb5:=((hbWc.setCell (p:=⟨A,0,none⟩) (Nat.le_refl _) (.int .i64 n2)).setCell (p:=⟨A,1,none⟩) (Nat.le_refl _) (.int .i64 i2)).setCell (p:=⟨A,2,none⟩) (Nat.le_refl _) (.int .i64 o2)
   have ho5:=ownsRow_setCell_far (i:=2) (u:=.int .i64 o2) (ownsRow_setCell_far (i:=1) (u:=.int .i64 i2) (ownsRow_setCell_far (i:=0) (u:=.int .i64 n2) hoc hvA) hvA) hvA
   clear k0 k1 k2 HZ hbWc hoc hvA
   generalize ((Wc.setCell ⟨A,0,none⟩ (.int .i64 (n2 : Int))).setCell ⟨A,1,none⟩ (.int .i64 (i2 : Int))).setCell ⟨A,2,none⟩ (.int .i64 (o2 : Int)) = W5 at *
   have m7:=(HS.out W5 hb5).c7
   have mM:=(HS.out W5 hb5).met
   obtain ⟨W6,hW6⟩ : ∃ W6,W6 = W5.drew:=⟨_,rfl⟩
   have hbW6 : Below W5.heap.size W5 W6:=by rw [hW6]; exact (bel_self W5).drew
   have hS0 : (fun wx : World => wx.cell? ⟨A,0,none⟩ = some (.int .i64 n2) /\ wx.cell? ⟨A,1,none⟩ = some (.int .i64 i2) /\ wx.cell? ⟨A,2,none⟩ = some (.int .i64 o2) /\ wx.cell? ⟨B,7,none⟩ = some (.map (some Mb)) /\ MetAt wx Mb ms) W6:=⟨bel_c hbW6 m0,bel_c hbW6 m1,bel_c hbW6 m2,bel_c hbW6 m7,mM.block (hbW6.block Mb mM.lt)⟩
   refine wp_region_noPanic ?_
   refine wp_region_F (fun wx : World => wx.cell? ⟨A,0,none⟩ = some (.int .i64 n2) /\ wx.cell? ⟨A,1,none⟩ = some (.int .i64 i2) /\ wx.cell? ⟨A,2,none⟩ = some (.int .i64 o2) /\ wx.cell? ⟨B,7,none⟩ = some (.map (some Mb)) /\ MetAt wx Mb ms) [] (by kernel_rfl) (by rw [<- hW6]; exact hS0) (fun _ => ?_)
   rw [<- hW6]
   clear hW6
   refine wpAnyF_free (i:=0) (v:=.pointer (some ⟨B,0,none⟩)) rfl (by kernel_rfl) (by kernel_rfl) (by kernel_rfl) (by kernel_rfl) (fun _ _ _ h => h) (Or.inl ⟨by rfl,fun wl hSw => ?_⟩) hS0 ?_
   ·(try dsimp only at hSw); go_simp
   refine wpAnyF_free (i:=1) (v:=.pointer (some ⟨B,0,none⟩)) rfl (by kernel_rfl) (by kernel_rfl) (by kernel_rfl) (by kernel_rfl) (fun _ _ _ h => h) (Or.inl ⟨by rfl,fun wl hSw => ?_⟩) hS0 ?_
   ·(try dsimp only at hSw); go_simp
   refine wpAnyF_free (i:=2) (v:=.pointer (some ⟨B,7,none⟩)) rfl (by kernel_rfl) (by kernel_rfl) (by kernel_rfl) (by kernel_rfl) (fun _ _ _ h => h) (Or.inl ⟨by rfl,fun wl hSw => ?_⟩) hS0 ?_
   ·(try dsimp only at hSw); go_simp
   refine tkF (i:=3) (v:=.map (some Mb)) rfl (by kernel_rfl) (fun _ _ _ h => h) (by rfl) hS0 (fun wl hSw => ?_) ?_
   ·(try dsimp only at hSw); go_simp
   refine tkF (i:=4) (v:=.agg #[.int .i64 n2,.int .i64 i2,.int .i64 o2]) rfl (by kernel_rfl) (fun _ _ _ h => h) (by rfl) hS0 (fun wl hSw => ?_) ?_
   ·(try dsimp only at hSw); go_simp
   refine tkF (i:=5) (v:=.agg #[.int .i64 (gI c (spotN N outs.length n2 i2 o2)),.int .i64 (arcOf f.arcs.length (gI y (spotN N outs.length n2 i2 o2)))]) rfl (by kernel_rfl) (fun _ _ _ h => h) (by rfl) hS0 (fun wl hSw => ?_) ?_
   ·(try dsimp only at hSw); go_simp; rw [look_bag hSw.2.2.2.2 HFV.out]; rfl
   refine wpAnyF_free (i:=6) (v:=.int .i64 (arcOf f.arcs.length (gI y (spotN N outs.length n2 i2 o2)))) rfl (by kernel_rfl) (by kernel_rfl) (by kernel_rfl) (by kernel_rfl) (fun _ _ _ h => h) (Or.inl ⟨by rfl,fun wl hSw => ?_⟩) hS0 ?_
   ·(try dsimp only at hSw); go_simp; rw [field_step1]; rfl
   refine wpAnyF_one (i:=7) rfl (by kernel_rfl) (fun K hK => ?_)
   go_simp
   refine hK.out _ _ ⟨fun _ => hS0,?_⟩
   clear hK K
   refine wpAnyF_done (by kernel_rfl) ?_ _
   refine NoPanic.normal ?_
   have hW6 : WRel f ins outs N s0 c y r R A n i o w (muB c r R (spotN N outs.length n2 i2 o2)) v' (.int .i64 (arcOf f.arcs.length (gI y (spotN N outs.length n2 i2 o2)))) W6 (pre ++ [(j : Int)]) n2 i2 o2 (spotN N outs.length n1 i1 o1 :: D):=by
    have hW:=HW.out
    obtain ⟨hst,hmu⟩:=HST.out
    have hst':=hst
    obtain ⟨_,_,_,_,_,_,_,_,_,_,_,g1,g2,g3,g4,_⟩:=hst'
    refine ⟨g1,g2,g3,g4,rfl,rfl,?_,bel_via hb5 hbW6 (by have:=cell_lt m0; omega),hS0.1,hS0.2.1,hS0.2.2.1,fun k => (hbW6.frozen (p:=⟨A,k,none⟩) (cell_lt m0)).trans (HZ5.out k),fun l hl => ?_,by simp [hW.dl],?_,?_⟩
    ·have:=ownsRow_bel ho5 hbW6
     simpa using this
    ·have:=hW.way ((j : Int) :: l) ⟨n2,i2,o2,hst,hl⟩
     simpa using this
    ·rw [List.nodup_cons]
     refine ⟨fun hm => ?_,hW.nd⟩
     rcases List.mem_cons.1 hm with e | hm
     ·rw [e] at hmu; omega
     ·have:=(hW.dd _ hm).2; omega
    ·intro u hu
     rcases List.mem_cons.1 hu with rfl | hu
     ·exact ⟨spotN_lt hW.hn hW.hi hW.ho,hmu⟩
     ·have:=hW.dd u hu
      exact ⟨this.1,by omega⟩
   clear m0 m1 m2 m7 mM hS0 hbW6 hb5 ho5 HZ5
   go_wp2
   go_roundg (muB c r R (spotN N outs.length n2 i2 o2))
   case measure =>
    rw [HW.out.gk]
    exact HST.out.2
   case rel => exact ⟨_,_,_,_,_,hW6⟩
end Go.Proofs.Yteehgcbjmdideab
/- 'Walk' and 'Score' of package score. -/
namespace Go.Proofs.Yteehgcbjmdideab
open Go.RowKit
attribute [local go_sem ↓] Go.wp_at_zero Go.wp_at_succ
theorem wordD_ok {l : List Int} (h : wordD l = 0) : l.length <= 40:=by
 unfold wordD at h
 split at h
 ·cases h
 ·omega
theorem okW {f : FstD} {ins outs : List Int} (h : checkD f = 0) (h1 : wordD ins = 0) (h2 : wordD outs = 0) : ∃ N s0 : Nat,f.states = N /\ f.start = s0 /\ OkW f ins outs N s0 /\ ∀ a ∈ f.arcs,0 <= a.inp /\ 0 <= a.out:=by
 have k:=check_ok f h
 have k0:=k.states
 have k1:=k.start
 have k2:=k.len
 simp [inB] at k0 k1
 refine ⟨f.states.toNat,f.start.toNat,by omega,by omega,⟨by omega,by omega,by omega,wordD_ok h1,wordD_ok h2,k.many,fun a ha => ?_,(arcsErr_sorted _ _ _ k.err).1,by omega,fun x hx => (finB_out (k.fin x hx)).1⟩,fun a ha => ?_⟩
 ·have q:=k.arcs a ha
  have e0:=q.src
  have e1:=q.dst
  have e4:=q.wt
  simp [inB] at e0 e1 e4
  refine ⟨⟨?_,?_⟩,⟨?_,?_⟩,?_,?_⟩ <;> omega
 ·have q:=k.arcs a ha
  have e0:=q.inp
  have e1:=q.out
  simp [inB] at e0 e1
  exact ⟨e0.1,e1.1⟩
structure WB (w wr : World) (X : Nat) (st sta : Int) (fin arcs iv ov : Value) : Prop where
 bel : Below w.heap.size w wr
 cf : CellsF wr X st sta fin arcs
 ci : wr.cell? ⟨X + 1,0,none⟩ = some iv
 co : wr.cell? ⟨X + 1 + 1,0,none⟩ = some ov
theorem WB.below {w wr wx : World} {X : Nat} {st sta : Int} {fin arcs iv ov : Value} (h : WB w wr X st sta fin arcs iv ov) (hb : Below wr.heap.size wr wx) : WB w wx X st sta fin arcs iv ov :=
 ⟨bel_on h.bel hb,h.cf.below hb,bel_c hb h.ci,bel_c hb h.co⟩
theorem walk_boxes (w : World) (st sta : Int) (fin arcs iv ov : Value) : WB w (((w.alloc (.cells #[.int .i64 st,.int .i64 sta,fin,arcs] 25)).alloc (.cells #[iv] 22)).alloc (.cells #[ov] 22)) w.heap.size st sta fin arcs iv ov:=by
 refine ⟨bel_up (two_up w _ _) _,((cellsF_new w st sta fin arcs 25).below (bel_up (bel_self _) _)).below (bel_up (bel_self _) _),?_,?_⟩
 ·exact bel_c (bel_up (bel_self _) _) (new_cell _ _ _ _ 0 _ (one_size _ _) rfl)
 ·exact new_cell _ _ _ _ 0 _ (by rw [one_size,one_size]) rfl
theorem walk_all (f : FstD) (fin arcs iv ov : Value) (c : Int) (w : World) (hf : ISlice w fin f.final) (ha : ASlice w arcs f.arcs) (hc : checkD f = c) :
  Calls Try.prog 45 #[.slice (some ⟨w.heap.size + 1 + 1 + 1,0,none⟩) 1 1] ((((w.alloc (.cells #[.int .i64 f.states,.int .i64 f.start,fin,arcs] 25)).alloc (.cells #[iv] 22)).alloc (.cells #[ov] 22)).alloc (.cells #[.int .i64 f.states,.int .i64 f.start,fin,arcs] 25)) fun e w' =>
   e = .returned (.int .i64 c) /\ WB w w' w.heap.size f.states f.start fin arcs iv ov:=by
 have hwb:=walk_boxes w f.states f.start fin arcs iv ov
 have hb:=bel_up (bel_self (((w.alloc (.cells #[.int .i64 f.states,.int .i64 f.start,fin,arcs] 25)).alloc (.cells #[iv] 22)).alloc (.cells #[ov] 22))) (.cells #[.int .i64 f.states,.int .i64 f.start,fin,arcs] 25)
 refine (all_one f fin arcs (w.heap.size + 1 + 1 + 1) c _ (cellsF_at _ _ _ _ _ _ _ (by rw [one_size,one_size,one_size])) ((hf.below hwb.bel).below hb) ((ha.below hwb.bel).below hb) hc).mono ?_
 rintro e w' ⟨rfl,hb2⟩
 exact ⟨rfl,(hwb.below hb).below hb2⟩
def NoWalk (w : World) (c : Int) (e : Ending) (w' : World) : Prop:=e = .returned (.tuple #[.slice none 0 0,.int .i64 0,.int .i64 c]) /\ Below w.heap.size w w'
set_option maxHeartbeats 1000000 in
theorem walk_bad (f : FstD) (fin arcs : Value) (ia : Option Addr) (il ic : Nat) (oa : Option Addr) (ol oc : Nat) (c : Int) (w : World) (hf : ISlice w fin f.final) (ha : ASlice w arcs f.arcs) (hc : checkD f = c) (h0 : c ≠ 0) :
  Calls Try.prog 43 #[.agg #[.int .i64 f.states,.int .i64 f.start,fin,arcs],.slice ia il ic,.slice oa ol oc] w fun e w' => NoWalk w c e w':=by
 obtain ⟨fa,fn,fc,rfl,_,_⟩:=hf.lenOf
 obtain ⟨ba,bn,bc,rfl,_,_⟩:=ha.lenOf
 have hall:=walk_all f _ _ (.slice ia il ic) (.slice oa ol oc) c w hf ha hc
 have h0n : (c != 0) = true:=by simpa using h0
 clear hc
 go_enter Try.func43,Try.ntmps43
 go_wp2_with (go_at_call 45; refine hall.mono ?_; rintro e w1 ⟨rfl,hB1⟩)
 exact bodyPost_ret (v:=.tuple #[.slice none 0 0,.int .i64 0,.int .i64 c]) (by simp [results,Try.results43,go_sem]) rfl ⟨rfl,hB1.bel⟩
set_option maxHeartbeats 1000000 in
theorem walk_in (f : FstD) (ins : List Int) (fin arcs : Value) (ia : Option Addr) (il ic : Nat) (oa : Option Addr) (ol oc : Nat) (c : Int) (w : World) (hf : ISlice w fin f.final) (ha : ASlice w arcs f.arcs) (hc : checkD f = 0) (hI : ISlice w (.slice ia il ic) ins) (hil : ins.length = il) (hw : wordD ins = c) (h0 : c ≠ 0) :
  Calls Try.prog 43 #[.agg #[.int .i64 f.states,.int .i64 f.start,fin,arcs],.slice ia il ic,.slice oa ol oc] w fun e w' => NoWalk w c e w':=by
 obtain ⟨fa,fn,fc,rfl,_,_⟩:=hf.lenOf
 obtain ⟨ba,bn,bc,rfl,_,_⟩:=ha.lenOf
 have hall:=walk_all f _ _ (.slice ia il ic) (.slice oa ol oc) 0 w hf ha hc
 have hwd:=fun W (k : ISlice W (.slice ia il ic) ins) => word_any ins ia il ic W k hil
 rw [hw] at hwd
 have h0n : (c != 0) = true:=by simpa using h0
 clear hc hw hil
 go_enter Try.func43,Try.ntmps43
 go_wp2_with (first | (go_at_call 45; refine hall.mono ?_; rintro e w1 ⟨rfl,hB1⟩; have q1:=hB1.ci) | (go_at_call 44; refine (hwd w1 (hI.below hB1.bel)).mono ?_; rintro e w2 ⟨rfl,hb2⟩))
 exact bodyPost_ret (v:=.tuple #[.slice none 0 0,.int .i64 0,.int .i64 c]) (by simp [results,Try.results43,go_sem]) rfl ⟨rfl,bel_on hB1.bel hb2⟩
set_option maxHeartbeats 1000000 in
theorem walk_out (f : FstD) (ins outs : List Int) (fin arcs : Value) (ia : Option Addr) (il ic : Nat) (oa : Option Addr) (ol oc : Nat) (c : Int) (w : World) (hf : ISlice w fin f.final) (ha : ASlice w arcs f.arcs) (hc : checkD f = 0) (hI : ISlice w (.slice ia il ic) ins) (hil : ins.length = il) (hw : wordD ins = 0) (hO : ISlice w (.slice oa ol oc) outs) (hol : outs.length = ol) (hwo : wordD outs = c) (h0 : c ≠ 0) :
  Calls Try.prog 43 #[.agg #[.int .i64 f.states,.int .i64 f.start,fin,arcs],.slice ia il ic,.slice oa ol oc] w fun e w' => NoWalk w c e w':=by
 obtain ⟨fa,fn,fc,rfl,_,_⟩:=hf.lenOf
 obtain ⟨ba,bn,bc,rfl,_,_⟩:=ha.lenOf
 have hall:=walk_all f _ _ (.slice ia il ic) (.slice oa ol oc) 0 w hf ha hc
 have hwd:=fun W (k : ISlice W (.slice ia il ic) ins) => word_any ins ia il ic W k hil
 have hwe:=fun W (k : ISlice W (.slice oa ol oc) outs) => word_any outs oa ol oc W k hol
 rw [hw] at hwd
 rw [hwo] at hwe
 have h0n : (c != 0) = true:=by simpa using h0
 clear hc hw hwo hil hol
 go_enter Try.func43,Try.ntmps43
 go_wp2_with (first | (go_at_call 45; refine hall.mono ?_; rintro e w1 ⟨rfl,hB1⟩; have q1:=hB1.ci) | (go_at_call 44; have hB2':=hB2; refine (hwe w2 (hO.below hB2.bel)).mono ?_; rintro e w3 ⟨rfl,hb3⟩) | (go_at_call 44; refine (hwd w1 (hI.below hB1.bel)).mono ?_; rintro e w2 ⟨rfl,hb2⟩; have hB2:=hB1.below hb2; have q2:=hB2.co))
 exact bodyPost_ret (v:=.tuple #[.slice none 0 0,.int .i64 0,.int .i64 c]) (by simp [results,Try.results43,go_sem]) rfl ⟨rfl,bel_on hB2.bel hb3⟩
end Go.Proofs.Yteehgcbjmdideab
/- 'Walk' at right arguments; 'Score'. -/
namespace Go.Proofs.Yteehgcbjmdideab
open Go.RowKit
attribute [local go_sem ↓] Go.wp_at_zero Go.wp_at_succ
def WalkRes (w : World) (f : FstD) (ins outs : List Int) (N s0 : Nat) (e : Ending) (w' : World) : Prop :=
 ∃ ua un uc l best,e = .returned (.tuple #[.slice ua un uc,.int .i64 best,.int .i64 0]) /\ ISlice w' (.slice ua un uc) l /\ l.length = un /\ IsBest (EdS f ins outs N) (bgS s0 (totS ins outs N)) (finS (totS ins outs N) N f.final) best /\ (best = -1 -> l = []) /\
  (best ≠ -1 -> ∃ c y n,Inv (EdS f ins outs N) (bgS s0 (totS ins outs N)) c y /\ LastOk f ins outs N c best n ins.length outs.length /\ BWay f ins outs N s0 c y l.reverse n ins.length outs.length) /\ Below w.heap.size w w'
set_option maxHeartbeats 2000000 in
theorem walk_ok (f : FstD) (ins outs : List Int) (N s0 : Nat) (fin : Value) (aa : Option Addr) (m ac : Nat) (ia : Option Addr) (il ic : Nat) (oa : Option Addr) (ol oc : Nat) (w : World) (hf : ISlice w fin f.final) (ha : ASlice w (.slice aa m ac) f.arcs) (hal : f.arcs.length = m) (hc : checkD f = 0) (hI : ISlice w (.slice ia il ic) ins) (hil : ins.length = il) (hw : wordD ins = 0) (hO : ISlice w (.slice oa ol oc) outs) (hol : outs.length = ol) (hwo : wordD outs = 0)
  (hst : f.states = N) (hsta : f.start = s0) (hok : OkW f ins outs N s0) (hlet : ∀ a ∈ f.arcs,0 <= a.inp /\ 0 <= a.out) :
  Calls Try.prog 43 #[.agg #[.int .i64 f.states,.int .i64 f.start,fin,.slice aa m ac],.slice ia il ic,.slice oa ol oc] w fun e w' => WalkRes w f ins outs N s0 e w':=by
 obtain ⟨fa,fn,fc,rfl,_,_⟩:=hf.lenOf
 have hall:=walk_all f _ _ (.slice ia il ic) (.slice oa ol oc) 0 w hf ha hc
 have hwd:=fun W (k : ISlice W (.slice ia il ic) ins) => word_any ins ia il ic W k hil
 have hwe:=fun W (k : ISlice W (.slice oa ol oc) outs) => word_any outs oa ol oc W k hol
 rw [hw] at hwd
 rw [hwo] at hwe
 rw [hst,hsta] at hall ⊢
 have HOK : Hid (OkW f ins outs N s0):=hok
 have HLET : Hid (∀ a ∈ f.arcs,0 <= a.inp /\ 0 <= a.out):=hlet
 have HAL : Hid (f.arcs.length = m):=hal
 have HIL : Hid (ins.length = il):=hil
 have HOL : Hid (outs.length = ol):=hol
 clear hc hw hwo hil hol hst hsta hok hlet hal
 go_enter Try.func43,Try.ntmps43
 go_wp2_with (first | (go_at_call 45; refine hall.mono ?_; rintro e w1 ⟨rfl,hB1⟩; have q1:=hB1.ci) | (go_at_call 75; refine (begin_any f ins outs N s0 _ aa m ac ia il ic oa ol oc w3 HOK.out (ha.below hB3.bel) HAL.out).mono ?_; rintro e w4 ⟨B,Mb,Fb,v,c,y,ms,p,rfl,hS4,hG4⟩) | (go_at_call 44; have hB2':=hB2; refine (hwe w2 (hO.below hB2.bel)).mono ?_; rintro e w3 ⟨rfl,hb3⟩; have hB3:=hB2.below hb3; have q3:=hB3.co; have q4:=hB3.ci; obtain ⟨q5,q6,q7,q8⟩:=hB3.cf) | (go_at_call 44; refine (hwd w1 (hI.below hB1.bel)).mono ?_; rintro e w2 ⟨rfl,hb2⟩; have hB2:=hB1.below hb2; have q2:=hB2.co))
 have hend : ∀ (n i o : Nat) (W : World),n < N -> i <= il -> o <= ol -> Below w3.heap.size w3 W -> Calls Try.prog 77 #[.agg #[.int .i64 n,.int .i64 i,.int .i64 o],.pointer (some ⟨w.heap.size + 1,0,none⟩),.pointer (some ⟨w.heap.size + 1 + 1,0,none⟩),.pointer (some ⟨w.heap.size,0,none⟩)] W fun e w' => e = .returned (.int .i64 (finS (totS ins outs N) N f.final (spotN N outs.length n i o))) /\ Below W.heap.size W w' :=
  fun n i o W h1 h2 h3 hb => walkEnd_any f ins outs N s0 fa fn fc ia il ic oa ol oc _ _ _ n i o W HOK.out HIL.out HOL.out (bel_c hb q4) (bel_c hb q3) (bel_c hb q7) ((hf.below hB3.bel).below hb) h1 h2 h3
 have hfind:=find_any w3 f ins outs N s0 B Mb Fb _ aa m ac ia il ic oa ol oc _ _ _ v c y ms p w4 HOK.out (ha.below hB3.bel) HAL.out (hI.below hB3.bel) HIL.out (hO.below hB3.bel) HOL.out hend hS4 hG4
 refine hfind.mono ?_
 clear hfind hend hall hwd hwe q1 q2 q3 q4 q5 q6 q7 q8 hG4 hS4
 rintro e w5 ⟨best,n,i,o,c5,y5,ms5,L5,v5,rfl,hS5,hbest,hinv5,hmo5,hlast5,hbl,hbh⟩
 have HBE : Hid (IsBest (EdS f ins outs N) (bgS s0 (totS ins outs N)) (finS (totS ins outs N) N f.final) best):=hbest
 have hb5 : Below w.heap.size w w5:=bel_on hB3.bel hS5.bel
 dsimp only [spotV]
 have hu5:=bel_up (bel_self w5) (.cells #[.int .i64 n,.int .i64 i,.int .i64 o] 96)
 by_cases hb1 : best = -1
 ·subst hb1
  clear hbest hinv5 hmo5 hlast5 hbl hbh
  go_wp2
  exact bodyPost_ret (v:=.tuple #[.slice none 0 0,.int .i64 (-1),.int .i64 0]) (by simp [results,Try.results43,go_sem]) rfl ⟨none,0,0,[],-1,rfl,Or.inl ⟨none,0,rfl,rfl⟩,rfl,HBE.out,fun _ => rfl,fun h => absurd rfl h,bel_on hb5 hu5⟩
 ·have hbb : (best == -1) = false:=by simpa using hb1
  have HLA : Hid (LastOk f ins outs N c5 best n i o):=hlast5 hb1
  have HNB : Hid (best ≠ -1):=hb1
  have hway:=wayTo_any w3 f ins outs N s0 B Mb Fb _ aa m ac _ _ v5 _ c5 y5 ms5 L5 n i o _ HOK.out HLET.out (ha.below hB3.bel) HAL.out (hS5.below hu5) hinv5 hmo5 HLA.out.1 (by rw [HLA.out.2.1]; exact Nat.le_refl _) (by rw [HLA.out.2.2.1]; exact Nat.le_refl _) HLA.out.2.2.2.2.1
  have HINV : Hid (Inv (EdS f ins outs N) (bgS s0 (totS ins outs N)) c5 y5):=hinv5
  clear hbest hinv5 hmo5 hlast5 hb1
  go_wp2_with (go_at_call 78; refine hway.mono ?_; rintro e w6 ⟨u,pre,rfl,hu,hbw,hb6⟩; obtain ⟨ua,un,uc,rfl,hul,_⟩:=hu.lenOf; have HUL : Hid (pre.reverse.length = un):=hul; have HBW : Hid (BWay f ins outs N s0 c5 y5 pre n i o):=hbw; clear hul hbw)
  refine bodyPost_ret (v:=.tuple #[.slice ua un uc,.int .i64 best,.int .i64 0]) (by simp [results,Try.results43,go_sem]) rfl ⟨ua,un,uc,pre.reverse,best,rfl,hu,HUL.out,HBE.out,fun h => absurd h HNB.out,fun _ => ⟨c5,y5,n,HINV.out,?_,?_⟩,bel_on (bel_on hb5 hu5) hb6⟩
  ·have h1:=HLA.out
   have e1:=h1.2.1
   have e2:=h1.2.2.1
   rw [e1,e2] at h1
   exact h1
  ·have h1:=HLA.out
   have e1:=h1.2.1
   have e2:=h1.2.2.1
   rw [List.reverse_reverse,<- e1,<- e2]
   exact HBW.out
end Go.Proofs.Yteehgcbjmdideab
/- 'Score',and the document's 'CheckScore'. -/
namespace Go.Proofs.Yteehgcbjmdideab
open Go.RowKit
attribute [local go_sem ↓] Go.wp_at_zero Go.wp_at_succ
def chkS (f : FstD) (ins outs : List Int) : Int:=if checkD f = 0 then (if wordD ins = 0 then wordD outs else wordD ins) else checkD f
def ScoreIs (f : FstD) (ins outs : List Int) (x c : Int) : Prop :=
 c = chkS f ins outs /\ (c ≠ 0 -> x = 0) /\ (c = 0 -> ∃ N s0 : Nat,f.states = N /\ f.start = s0 /\ OkW f ins outs N s0 /\ IsBest (EdS f ins outs N) (bgS s0 (totS ins outs N)) (finS (totS ins outs N) N f.final) x)
theorem walk_any (f : FstD) (ins outs : List Int) (fin arcs iv ov : Value) (w : World) (hf : ISlice w fin f.final) (ha : ASlice w arcs f.arcs) (hI : ISlice w iv ins) (hO : ISlice w ov outs) :
  Calls Try.prog 43 #[.agg #[.int .i64 f.states,.int .i64 f.start,fin,arcs],iv,ov] w fun e w' => ∃ ua un uc x c,e = .returned (.tuple #[.slice ua un uc,.int .i64 x,.int .i64 c]) /\ ScoreIs f ins outs x c /\ Below w.heap.size w w':=by
 obtain ⟨aa,m,ac,rfl,hal,_⟩:=ha.lenOf
 obtain ⟨ia,il,ic,rfl,hil,_⟩:=hI.lenOf
 obtain ⟨oa,ol,oc,rfl,hol,_⟩:=hO.lenOf
 by_cases h0 : checkD f = 0
 ·by_cases h1 : wordD ins = 0
  ·by_cases h2 : wordD outs = 0
   ·obtain ⟨N,s0,e1,e2,hok,hlet⟩:=okW h0 h1 h2
    refine (walk_ok f ins outs N s0 fin aa m ac ia il ic oa ol oc w hf ha hal h0 hI hil h1 hO hol h2 e1 e2 hok hlet).mono ?_
    rintro e w' ⟨ua,un,uc,l,best,rfl,_,_,hb,_,_,hbl⟩
    exact ⟨ua,un,uc,best,0,rfl,⟨by unfold chkS; rw [if_pos h0,if_pos h1,h2],fun h => absurd rfl h,fun _ => ⟨N,s0,e1,e2,hok,hb⟩⟩,hbl⟩
   ·refine (walk_out f ins outs fin _ ia il ic oa ol oc _ w hf ha h0 hI hil h1 hO hol rfl h2).mono ?_
    rintro e w' ⟨rfl,hb⟩
    exact ⟨none,0,0,0,_,rfl,⟨by unfold chkS; rw [if_pos h0,if_pos h1],fun _ => rfl,fun h => absurd h h2⟩,hb⟩
  ·refine (walk_in f ins fin _ ia il ic oa ol oc _ w hf ha h0 hI hil rfl h1).mono ?_
   rintro e w' ⟨rfl,hb⟩
   exact ⟨none,0,0,0,_,rfl,⟨by unfold chkS; rw [if_pos h0,if_neg h1],fun _ => rfl,fun h => absurd h h1⟩,hb⟩
 ·refine (walk_bad f fin _ ia il ic oa ol oc _ w hf ha rfl h0).mono ?_
  rintro e w' ⟨rfl,hb⟩
  exact ⟨none,0,0,0,_,rfl,⟨by unfold chkS; rw [if_neg h0],fun _ => rfl,fun h => absurd h h0⟩,hb⟩
set_option maxHeartbeats 1000000 in
theorem score_any (f : FstD) (ins outs : List Int) (fin arcs iv ov : Value) (w : World) (hf : ISlice w fin f.final) (ha : ASlice w arcs f.arcs) (hI : ISlice w iv ins) (hO : ISlice w ov outs) :
  Calls Try.prog 17 #[.agg #[.int .i64 f.states,.int .i64 f.start,fin,arcs],iv,ov] w fun e w' => ∃ x c,e = .returned (.tuple #[.int .i64 x,.int .i64 c]) /\ ScoreIs f ins outs x c /\ Below w.heap.size w w':=by
 obtain ⟨fa,fn,fc,rfl,_,_⟩:=hf.lenOf
 obtain ⟨aa,m,ac,rfl,_,_⟩:=ha.lenOf
 obtain ⟨ia,il,ic,rfl,_,_⟩:=hI.lenOf
 obtain ⟨oa,ol,oc,rfl,_,_⟩:=hO.lenOf
 have hb0:=bel_up (bel_self w) (.cells #[.int .i64 f.states,.int .i64 f.start,.slice fa fn fc,.slice aa m ac] 25)
 have hwk:=walk_any f ins outs _ _ _ _ _ (hf.below hb0) (ha.below hb0) (hI.below hb0) (hO.below hb0)
 go_enter Try.func17,Try.ntmps17
 go_wp2_with (go_at_call 43; refine hwk.mono ?_; rintro e w1 ⟨ua,un,uc,x,c,rfl,hs,hb1⟩; have HS : Hid (ScoreIs f ins outs x c):=hs; clear hs)
 exact bodyPost_ret (v:=.tuple #[.int .i64 x,.int .i64 c]) (by simp [results,Try.results17,go_sem]) rfl ⟨x,c,rfl,HS.out,bel_on hb0 hb1⟩
end Go.Proofs.Yteehgcbjmdideab
/- The document's 'Ended'. -/
namespace Go.Proofs.Yteehgcbjmdideab
open Go.RowKit
attribute [local go_sem ↓] Go.wp_at_zero Go.wp_at_succ
def endD (c fin : List Int) : Nat -> Int
 | 0 => -1
 | k + 1 => lessC (endD c fin k) (plusC (gI c k) (gI fin k))
theorem endD_is (c fin : List Int) (k : Nat) : (endD c fin k = -1 /\ ∀ n,n < k -> ¬ (0 <= gI c n /\ 0 <= gI fin n)) \/ (0 <= endD c fin k /\ (∃ n,n < k /\ 0 <= gI c n /\ 0 <= gI fin n /\ endD c fin k = gI c n + gI fin n) /\ ∀ n,n < k -> 0 <= gI c n -> 0 <= gI fin n -> endD c fin k <= gI c n + gI fin n):=by
 induction k with
 | zero => exact Or.inl ⟨rfl,fun n hn => by omega⟩
 | succ k ih =>
  have e : endD c fin (k + 1) = lessC (endD c fin k) (plusC (gI c k) (gI fin k)):=rfl
  rw [e]
  by_cases hk : 0 <= gI c k /\ 0 <= gI fin k
  ·have hp : plusC (gI c k) (gI fin k) = gI c k + gI fin k:=by unfold plusC; rw [if_neg (by omega)]
   rw [hp]
   right
   rcases ih with ⟨h1,h2⟩ | ⟨h1,⟨n,g1,g2,g3,g4⟩,h3⟩
   ·have hl : lessC (endD c fin k) (gI c k + gI fin k) = gI c k + gI fin k:=by unfold lessC; rw [if_pos (by omega)]
    rw [hl]
    refine ⟨by omega,⟨k,by omega,hk.1,hk.2,rfl⟩,fun n hn a b => ?_⟩
    by_cases e : n = k
    ·subst e; omega
    ·exact absurd ⟨a,b⟩ (h2 n (by omega))
   ·by_cases hlt : endD c fin k < gI c k + gI fin k
    ·have hl : lessC (endD c fin k) (gI c k + gI fin k) = endD c fin k:=by unfold lessC; rw [if_neg (by omega),if_pos (Or.inr hlt)]
     rw [hl]
     refine ⟨h1,⟨n,by omega,g2,g3,g4⟩,fun n hn a b => ?_⟩
     by_cases e : n = k
     ·subst e; omega
     ·exact h3 n (by omega) a b
    ·have hl : lessC (endD c fin k) (gI c k + gI fin k) = gI c k + gI fin k:=by unfold lessC; rw [if_neg (by omega),if_neg (by omega)]
     rw [hl]
     refine ⟨by omega,⟨k,by omega,hk.1,hk.2,rfl⟩,fun n hn a b => ?_⟩
     by_cases e : n = k
     ·subst e; omega
     ·have:=h3 n (by omega) a b; omega
  ·have hp : plusC (gI c k) (gI fin k) = -1:=by unfold plusC; rw [if_pos (by omega)]
   rw [hp]
   have hl : lessC (endD c fin k) (-1) = endD c fin k:=by
    unfold lessC
    rcases ih with ⟨h1,_⟩ | ⟨h1,_⟩
    ·rw [if_pos (by omega),h1]
    ·rw [if_neg (by omega),if_pos (Or.inl (by omega))]
   rw [hl]
   rcases ih with ⟨h1,h2⟩ | ⟨h1,⟨n,g1,g2⟩,h3⟩
   ·refine Or.inl ⟨h1,fun n hn => ?_⟩
    by_cases e : n = k
    ·subst e; exact hk
    ·exact h2 n (by omega)
   ·refine Or.inr ⟨h1,⟨n,by omega,g2⟩,fun n hn a b => ?_⟩
    by_cases e : n = k
    ·subst e; exact absurd ⟨a,b⟩ hk
    ·exact h3 n (by omega) a b
end Go.Proofs.Yteehgcbjmdideab
/- 'one' of the statements,a transducer of two states and one arc. -/
namespace Go.Proofs.Yteehgcbjmdideab
open Go.RowKit
attribute [local go_sem ↓] Go.wp_at_zero Go.wp_at_succ
def oneD : FstD:=⟨2,0,[-1,1],[⟨0,1,2,1,5⟩]⟩
theorem check_one : checkD oneD = 0:=by decide
theorem one_any (w : World) :
  Calls Try.prog 42 #[] w fun e w' => e = .returned (.agg #[.int .i64 2,.int .i64 0,.slice (some ⟨w.heap.size + 1,0,none⟩) 2 2,.slice (some ⟨w.heap.size + 2,0,none⟩) 1 1]) /\
   ISlice w' (.slice (some ⟨w.heap.size + 1,0,none⟩) 2 2) oneD.final /\ ASlice w' (.slice (some ⟨w.heap.size + 2,0,none⟩) 1 1) oneD.arcs /\ Below w.heap.size w w':=by
 have hsz : ∀ (x : World) (o : Obj),(x.alloc o).heap.size = x.heap.size + 1:=fun x o => by simp
 have r1:=(World.ownsRow_lit (base:=0) (e:=3) (size:=1) (w.alloc (.cells #[.int .i64 2,.int .i64 0,.slice (some ⟨w.heap.size + 1,0,none⟩) 2 2,.slice (some ⟨w.heap.size + 1 + 1,0,none⟩) 1 1] 25)) #[.int .i64 (-1),.int .i64 1] 2 (Nat.zero_le _) (by decide) rfl).alloc (.cells #[.int .i64 0,.int .i64 1,.int .i64 2,.int .i64 1,.int .i64 5] 54)
 have r2:=World.ownsRow_lit (base:=0) (e:=54) (size:=5) ((w.alloc (.cells #[.int .i64 2,.int .i64 0,.slice (some ⟨w.heap.size + 1,0,none⟩) 2 2,.slice (some ⟨w.heap.size + 1 + 1,0,none⟩) 1 1] 25)).alloc (.cells #[.int .i64 (-1),.int .i64 1] 3)) #[.int .i64 0,.int .i64 1,.int .i64 2,.int .i64 1,.int .i64 5] 1 (Nat.zero_le _) (by decide) rfl
 rw [hsz] at r1
 rw [hsz,hsz] at r2
 clear hsz
 go_enter Try.func42,Try.ntmps42
 go_wp2
 exact bodyPost_ret (v:=.agg #[.int .i64 2,.int .i64 0,.slice (some ⟨w.heap.size + 1,0,none⟩) 2 2,.slice (some ⟨w.heap.size + 1 + 1,0,none⟩) 1 1]) (by simp [results,Try.results42,go_sem]) rfl ⟨rfl,ownsRow_ints (xs:=oneD.final) r1,ownsRow_arcs (ars:=oneD.arcs) r2,bel_up (bel_up (bel_up (bel_self w) _) _) _⟩
theorem one_ex (w : World) :
  Calls Try.prog 42 #[] w fun e w' => ∃ N M : Nat,e = .returned (.agg #[.int .i64 2,.int .i64 0,.slice (some ⟨N,0,none⟩) 2 2,.slice (some ⟨M,0,none⟩) 1 1]) /\
   ISlice w' (.slice (some ⟨N,0,none⟩) 2 2) oneD.final /\ ASlice w' (.slice (some ⟨M,0,none⟩) 1 1) oneD.arcs /\ Below w.heap.size w w' :=
 (one_any w).mono fun _ _ ⟨h1,h2,h3,h4⟩ => ⟨_,_,h1,h2,h3,h4⟩
end Go.Proofs.Yteehgcbjmdideab
/- What the document's tables say is the least cost; 'one' and its words. -/
namespace Go.Proofs.Yteehgcbjmdideab
open Go.RowKit
theorem best_fix {E : List Edg} {b c : List Int} {fin : Nat -> Int} {x : Int} (ha : Ach E b c) (hb : LeC c b) (hf : Fix E c) (hx : (x = -1 /\ ∀ v,0 <= gI c v -> ¬ 0 <= fin v) \/ (0 <= x /\ (∃ v,0 <= gI c v /\ 0 <= fin v /\ x = gI c v + fin v) /\ ∀ v,0 <= gI c v -> 0 <= fin v -> x <= gI c v + fin v)) : IsBest E b fin x:=by
 rcases hx with ⟨h1,h2⟩ | ⟨h1,⟨v,g1,g2,g3⟩,h3⟩
 ·exact Or.inl ⟨h1,fun v h z hw => h2 v (fix_le hb hf hw).1⟩
 ·refine Or.inr ⟨h1,?_,fun v h z hw h0 => ?_⟩
  ·rcases ha v with e | ⟨k,hk⟩
   ·omega
   ·exact ⟨v,k,_,hk,g2,g3⟩
  ·obtain ⟨q1,q2⟩:=fix_le hb hf hw
   have:=h3 v q1 h0
   omega
theorem last_place (N I O : Nat) : (I * (O + 1) + O) * N = (I + 1) * (O + 1) * N - N:=by
 have:=spotN_end N I O 0
 unfold spotN at this
 omega
theorem doc_best {f : FstD} {ins outs : List Int} {N s0 : Nat} {c : List Int} (hl : c.length = totS ins outs N) (ha : Ach (EdS f ins outs N) (bgS s0 (totS ins outs N)) c) (hb : LeC c (bgS s0 (totS ins outs N))) (hf : Fix (EdS f ins outs N) c) :
  IsBest (EdS f ins outs N) (bgS s0 (totS ins outs N)) (finS (totS ins outs N) N f.final) (endD (segL c N (ins.length * (outs.length + 1) + outs.length)) f.final N):=by
 refine best_fix ha hb hf ?_
 have hp:=last_place N ins.length outs.length
 have hNT : N <= totS ins outs N:=by
  unfold totS
  have : 1 * N <= (ins.length + 1) * (outs.length + 1) * N:=Nat.mul_le_mul_right N (Nat.mul_pos (by omega) (by omega))
  omega
 have hseg : ∀ n,n < N -> gI (segL c N (ins.length * (outs.length + 1) + outs.length)) n = gI c (totS ins outs N - N + n):=fun n hn => by
  rw [segL_at _ _ _ _ hn,hp]
  rfl
 have hfin : ∀ n,finS (totS ins outs N) N f.final (totS ins outs N - N + n) = gI f.final n:=fun n => by
  unfold finS
  rw [if_pos (by omega)]
  congr 1
  omega
 have hcov : ∀ v,0 <= gI c v -> 0 <= finS (totS ins outs N) N f.final v -> ∃ n,n < N /\ v = totS ins outs N - N + n:=fun v h0 h1 => by
  have hv : v < totS ins outs N:=by
   rcases Nat.lt_or_ge v c.length with h | h
   ·omega
   ·rw [out_gI c v h] at h0; omega
  unfold finS at h1
  split at h1
  ·exact ⟨v - (totS ins outs N - N),by omega,by omega⟩
  ·omega
 rcases endD_is (segL c N (ins.length * (outs.length + 1) + outs.length)) f.final N with ⟨h1,h2⟩ | ⟨h1,⟨n,g1,g2,g3,g4⟩,h3⟩
 ·refine Or.inl ⟨h1,fun v h0 hf0 => ?_⟩
  obtain ⟨n,hn,rfl⟩:=hcov v h0 hf0
  rw [hfin] at hf0
  exact h2 n hn ⟨by rw [hseg n hn]; exact h0,hf0⟩
 ·refine Or.inr ⟨h1,⟨totS ins outs N - N + n,by rw [<- hseg n g1]; exact g2,by rw [hfin]; exact g3,by rw [hfin,<- hseg n g1]; exact g4⟩,fun v h0 hf0 => ?_⟩
  obtain ⟨n,hn,rfl⟩:=hcov v h0 hf0
  rw [hfin] at hf0 ⊢
  have:=h3 n hn (by rw [hseg n hn]; exact h0) hf0
  rw [hseg n hn] at this
  exact this
theorem okW_one {ins outs : List Int} (h1 : ins.length <= 40) (h2 : outs.length <= 40) : OkW oneD ins outs 2 0 where
 n1:=by decide
 n2:=by decide
 s:=by decide
 i40:=h1
 o40:=h2
 many:=by decide
 arcs:=by
  intro a ha
  simp [oneD] at ha
  subst ha
  decide
 sort:=(arcsErr_sorted _ _ _ (check_ok oneD check_one).err).1
 len:=rfl
 fin:=by
  intro x hx
  simp [oneD] at hx
  omega
theorem ach_start (E : List Edg) (b : List Int) (hb : ∀ v,gI b v = -1 \/ 0 <= gI b v) : Ach E b b:=fun v => (hb v).imp id fun h => ⟨0,rfl,h⟩
theorem bgS_lo (s T v : Nat) : gI (bgS s T) v = -1 \/ 0 <= gI (bgS s T) v:=by
 rw [bgS_at]
 split
 ·right; decide
 ·left; rfl
theorem fix_list {E : List Edg} {c : List Int} (h : E.all (fun e => decide (0 <= gI c e.u -> 0 <= gI c e.v /\ gI c e.v <= gI c e.u + e.w)) = true) : Fix E c:=by
 intro e he
 rw [List.all_eq_true] at h
 exact of_decide_eq_true (h e he)
theorem best_one : IsBest (EdS oneD [1] [2] 2) (bgS 0 (totS [1] [2] 2)) (finS (totS [1] [2] 2) 2 oneD.final) 6:=by
 obtain ⟨h1,h2,_⟩:=relAll_round (E:=EdS oneD [1] [2] 2) (b:=bgS 0 (totS [1] [2] 2)) (EdS oneD [1] [2] 2) (bgS 0 (totS [1] [2] 2)) (fun _ h => h) (fun e he => by have:=(okW_one (ins:=[1]) (outs:=[2]) (by decide) (by decide)).edges e he; rw [bgS_len]; exact ⟨this.1,this.2.1⟩) (ach_start _ _ (bgS_lo _ _))
 have h3:=doc_best (f:=oneD) (ins:=[1]) (outs:=[2]) (N:=2) (s0:=0) (by rw [relAll_len,bgS_len]) h1 h2 (fix_list (by decide))
 exact h3
theorem best_none : IsBest (EdS oneD [] [] 2) (bgS 0 (totS [] [] 2)) (finS (totS [] [] 2) 2 oneD.final) (-1):=by
 obtain ⟨h1,h2,_⟩:=relAll_round (E:=EdS oneD [] [] 2) (b:=bgS 0 (totS [] [] 2)) (EdS oneD [] [] 2) (bgS 0 (totS [] [] 2)) (fun _ h => h) (fun e he => by have:=(okW_one (ins:=[]) (outs:=[]) (by decide) (by decide)).edges e he; rw [bgS_len]; exact ⟨this.1,this.2.1⟩) (ach_start _ _ (bgS_lo _ _))
 have h3:=doc_best (f:=oneD) (ins:=[]) (outs:=[]) (N:=2) (s0:=0) (by rw [relAll_len,bgS_len]) h1 h2 (fix_list (by decide))
 exact h3
theorem way_one {c y : List Int} {l : List Int} {n : Nat} (hn : n < 2) (hf : 0 <= gI oneD.final n) (h : BWay oneD [1] [2] 2 0 c y l.reverse n 1 1) : l = [0]:=by
 have hn1 : n = 1:=by
  rcases (show n = 0 \/ n = 1 by omega) with rfl | rfl
  ·exact absurd hf (by decide)
  ·rfl
 subst hn1
 have hr : l.reverse = [0]:=by
  match hl : l.reverse,h with
  | [],h => exact absurd h.1 (by decide)
  | k :: r,h =>
   obtain ⟨n',i',o',⟨j,a,e1,_,e2,e3,_,_,_,e4,e5,_⟩,hr⟩:=h
   have hj : j = 0:=by
    obtain ⟨hj,_⟩:=List.getElem?_eq_some_iff.1 e2
    simp [oneD] at hj
    exact hj
   subst hj
   simp [oneD] at e2
   subst e2
   have hn' : n' = 0:=by simpa using e3.symm
   have hi' : i' = 0:=by simp [usedBy] at e4; omega
   have ho' : o' = 0:=by simp [usedBy] at e5; omega
   subst hn' hi' ho'
   match r,hr with
   | [],_ => rw [e1]; rfl
   | k2 :: r2,hr =>
    obtain ⟨_,_,_,⟨j2,a2,_,_,g2,_,g3,_⟩,_⟩:=hr
    exfalso
    have hj : j2 = 0:=by
     obtain ⟨hj,_⟩:=List.getElem?_eq_some_iff.1 g2
     simp [oneD] at hj
     exact hj
    subst hj
    simp [oneD] at g2
    subst g2
    simp at g3
 have:=congrArg List.reverse hr
 simpa using this
end Go.Proofs.Yteehgcbjmdideab
