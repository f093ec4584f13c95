/- 'goesRound' and 'Round' of the program. (Made by wip/gen/dtf.py.) -/
import Derived.Test.YteehgcbjmdideabVM12
set_option maxRecDepth 100000
namespace Go.Proofs.Yteehgcbjmdideab
open Go.RowKit
attribute [local go_sem ↓] Go.wp_at_zero Go.wp_at_succ
theorem rowN {w : World} {B e : Nat} {v : Value} {T : List Nat} (h : w.ownsRow B e 1 v T.length (natV T)) : ISlice w v (natL T):=by
 rw [natV_eq,<- natL_len T] at h
 exact ownsRow_ints h
theorem intoE_le (E : List (Nat × Nat)) (v : Nat) : intoE E v <= E.length:=by
 unfold intoE
 have:=List.count_le_length (a:=v) (l:=E.map Prod.snd)
 simpa using this
theorem edges_len (l : List ArcD) : (edgesE l).length = l.length:=by simp [edgesE]
theorem edges_lt {l : List ArcD} {N : Nat} (h : ∀ a ∈ l,∃ s t : Nat,a.src = (s : Int) /\ a.dst = (t : Int) /\ s < N /\ t < N) : ∀ e ∈ edgesE l,e.1 < N /\ e.2 < N:=by
 intro e he
 unfold edgesE at he
 obtain ⟨a,ha,rfl⟩:=List.mem_map.1 he
 obtain ⟨s,t,h1,h2,h3,h4⟩:=h a ha
 dsimp only
 omega
theorem totR_le {R R' : Nat -> List Nat} {v : Nat} : ∀ {n : Nat},(∀ s,s < n -> (R s).count v <= (R' s).count v) -> totR R v n <= totR R' v n
 | 0,_ => Nat.le_refl _
 | n + 1,h => by
  unfold totR
  have h1:=totR_le (n:=n) (fun s hs => h s (by omega))
  have h2:=h n (by omega)
  omega
theorem Kah.le {E : List (Nat × Nat)} {N i j : Nat} {T : List Nat} {R : Nat -> List Nat} (h : Kah E N T i j R) (hE : ∀ e ∈ E,e.1 < N /\ e.2 < N) (v : Nat) : totR R v N <= E.length:=by
 refine Nat.le_trans (totR_le (R':=nextE E) fun s _ => ?_) (by rw [totR_next (fun e he => (hE e he).1)]; exact intoE_le E v)
 by_cases hs : s ∈ T.take (i + 1)
 ·obtain ⟨p,hp,hq⟩:=take_get.1 hs
  by_cases e : p = i
  ·subst e
   rw [h.now s hq]
   exact (List.drop_sublist j _).count_le v
  ·rw [h.done p s (by omega) hq]
   exact Nat.zero_le _
 ·rw [h.rest s hs]
  exact Nat.le_refl _
def firstT (E : List (Nat × Nat)) (k : Nat) : List Nat:=(List.range k).filter fun v => intoE E v == 0
theorem firstT_succ (E : List (Nat × Nat)) (k : Nat) : firstT E (k + 1) = if intoE E k = 0 then firstT E k ++ [k] else firstT E k:=by
 unfold firstT
 rw [List.range_succ,List.filter_append]
 by_cases h : intoE E k = 0
 ·simp [h]
 ·simp [h]
theorem firstT_kah {E : List (Nat × Nat)} {N : Nat} (hE : ∀ e ∈ E,e.1 < N /\ e.2 < N) : Kah E N (firstT E N) 0 0 (nextE E) :=
 Kah.start hE (List.nodup_range.filter _) (fun v => by unfold firstT; simp)
theorem firstT_len (E : List (Nat × Nat)) (k : Nat) : (firstT E k).length <= k:=by
 unfold firstT
 have:=List.length_filter_le (fun v => intoE E v == 0) (List.range k)
 simpa using this
set_option maxHeartbeats 4000000 in
theorem goesRound_any (f : FstD) (N : Nat) (fin arcs : Value) (w : World) (kf : Fine f) (hN : f.states = (N : Int)) (hf : ISlice w fin f.final) (ha : ASlice w arcs f.arcs) :
  Calls Try.prog 27 #[.agg #[.int .i64 (N : Int),.int .i64 f.start,fin,arcs]] w fun e w' => RndRes (RoundE (edgesE f.arcs) N) w e w':=by
 obtain ⟨fa,fn,fc,rfl,_,_⟩:=hf.lenOf
 obtain ⟨aa,m,ac,rfl,hal,_⟩:=ha.lenOf
 have hm3 : m <= 3000:=by have:=kf.many; omega
 have hN2 : N <= 200:=by have:=kf.s2; omega
 have HAR : Hid (∀ a ∈ f.arcs,∃ s t : Nat,a.src = (s : Int) /\ a.dst = (t : Int) /\ s < N /\ t < N):=fun a hm => by
  have h1:=(kf.arcs a hm).src
  have h2:=(kf.arcs a hm).dst
  simp [inB] at h1 h2
  exact ⟨a.src.toNat,a.dst.toNat,by omega,by omega,by omega,by omega⟩
 have HR : Hid (∀ W,Below w.heap.size w W -> ASlice W (.slice aa m ac) f.arcs):=fun W h => ha.below h
 have HL : Hid (f.arcs.length = m):=hal
 obtain ⟨i0,hi,hz0,hz1,hz2⟩:=info_parts Try.info3
 have hmkI:=run_make_row' (P:=Try.prog) 22 3 (.int .i64 0) 8 Try.underlying22 Try.info3 rfl .i64 .i64 N (by omega) (by omega)
 have hmkS:=run_make_row' (P:=Try.prog) 31 22 (.slice none 0 0) 24 Try.underlying31 infoS rfl .i64 .i64 N (by omega) (by omega)
 obtain ⟨A,hA⟩ : ∃ A,A = w.alloc (.cells #[.int .i64 (N : Int),.int .i64 f.start,.slice fa fn fc,.slice aa m ac] 25):=⟨_,rfl⟩
 have hRA : RW w A N f.start (.slice fa fn fc) (.slice aa m ac):=by rw [hA]; exact ⟨cellsF_new _ _ _ _ _ _,bel_up (bel_self w) _⟩
 have hAs : A.heap.size = w.heap.size + 1:=by rw [hA]; exact one_size w _
 obtain ⟨B,hB⟩ : ∃ W,W = A.alloc (.cells (madeCells #[.int .i64 0] N) 3):=⟨_,rfl⟩
 have hBs : B.heap.size = w.heap.size + 1 + 1:=by rw [hB,one_size,hAs]
 obtain ⟨W1,hW1⟩ : ∃ W,W = B.alloc (.cells (madeCells #[.slice none 0 0] N) 22):=⟨_,rfl⟩
 obtain ⟨gi,hgi⟩ : ∃ g,g = w.heap.size + 1:=⟨_,rfl⟩
 obtain ⟨gn,hgn⟩ : ∃ g,g = w.heap.size + 1 + 1:=⟨_,rfl⟩
 have hNX : ∃ V : Nat -> Value,NXW w W1 N f.start (.slice fa fn fc) (.slice aa m ac) gi gn (fun _ => 0) V (fun _ => []):=by
  refine ⟨fun _ => .slice none 0 0,?_,?_,?_,by omega,by omega,fun s hs => World.ownsRow_nil _ _ _ _,fun s t _ _ _ b hb => by simp [Value.ownBlock] at hb⟩
  ·rw [hW1]; exact (hRA.below (by rw [hB]; exact bel_up (bel_self _) _)).below (bel_up (bel_self _) _)
  ·have h1 : ValsAt B gi N (fun _ => .int .i64 0):=by
    rw [hB,hgi,<- hAs]
    exact made_vals A (.int .i64 0) N 3
   rw [hW1]
   exact h1.below (bel_up (bel_self _) _)
  ·rw [hW1,hgn,<- hBs]
   exact made_vals B (.slice none 0 0) N 22
 have HW1 : Hid (W1 = ((w.alloc (.cells #[.int .i64 (N : Int),.int .i64 f.start,.slice fa fn fc,.slice aa m ac] 25)).alloc (.cells (madeCells #[.int .i64 0] N) 3)).alloc (.cells (madeCells #[.slice none 0 0] N) 22)):=by rw [<- hA,<- hB]; exact hW1
 have HG : Hid (gi = w.heap.size + 1 /\ gn = w.heap.size + 1 + 1):=⟨hgi,hgn⟩
 obtain ⟨q0,q1,q2,q3⟩:=hRA.cf
 obtain ⟨q0',q1',q2',q3'⟩:=(hRA.below (wx:=B) (by rw [hB]; exact bel_up (bel_self _) _)).cf
 obtain ⟨V0,hNX⟩:=hNX
 obtain ⟨q0'',q1'',q2'',q3''⟩:=hNX.rw.cf
 rw [hA] at q0 q1 q2 q3
 rw [hB,hA] at q0' q1' q2' q3'
 rw [hW1,hB,hA] at q0'' q1'' q2'' q3''
 clear hA hB hW1 hRA hAs hBs hf ha hal kf hN hgi hgn
 go_enter Try.func27,Try.ntmps27
 go_wp2
 rw [<- HW1.out,<- HG.out.2,<- HG.out.1]
 clear HW1 HG q0 q1 q2 q3 q0' q1' q2' q3' q0'' q1'' q2'' q3''
 go_loopw [6,22] (fun _ t22 wx => ∃ (k : Nat) (V : Nat -> Value),k <= m /\ t22 = .int .i64 (k : Int) /\ NXW w wx N f.start (.slice fa fn fc) (.slice aa m ac) gi gn (intoE (edgesE (f.arcs.take k))) V (nextE (edgesE (f.arcs.take k)))) (fun _ t22 _ => m - (intOf t22).toNat)
 case atStart => exact ⟨0,V0,Nat.zero_le _,rfl,hNX.cong (fun v _ => by simp [edgesE,intoE]) (fun s _ => by simp [edgesE,nextE])⟩
 case round =>
  clear hNX
  obtain ⟨k,V,hk,rfl,hNX⟩:=hrel
  have hkw : IntKind.i64.wrap ((k : Int) + 1) = (k : Int) + 1:=wrap_in _ (by omega) (by omega)
  by_cases hlt : k < m
  ·have hki : (k : Int) < m:=by omega
   obtain ⟨ab,ao,rfl,hxa⟩:=(HR.out wr hNX.rw.bel).some (by omega)
   obtain ⟨a,hak⟩ : ∃ d,f.arcs[k]? = some d:=⟨_,List.getElem?_eq_getElem (by have:=HL.out; omega)⟩
   have hgd : f.arcs.getD k a0 = a:=by simp [List.getD,hak]
   obtain ⟨s,t,hs,ht,hsn,htn⟩:=HAR.out a (List.mem_of_getElem? hak)
   have c0:=hxa.c0 k hlt
   have c1:=hxa.c1 k hlt
   have c2:=hxa.c2 k hlt
   have c3:=hxa.c3 k hlt
   have c4:=hxa.c4 k hlt
   rw [hgd] at c0 c1 c2 c3 c4
   rw [hs] at c0
   rw [ht] at c3
   obtain ⟨ob,hob⟩ : ∃ o : Obj,o = .cells #[.int .i64 (s : Int),.int .i64 a.inp,.int .i64 a.out,.int .i64 (t : Int),.int .i64 a.wt] 54:=⟨_,rfl⟩
   have hbA:=bel_up (bel_self wr) ob
   obtain ⟨D,hD⟩ : ∃ D,D = wr.heap.size:=⟨_,rfl⟩
   have b0 : (wr.alloc ob).cell? ⟨wr.heap.size,0,none⟩ = some (.int .i64 (s : Int)):=by rw [hob]; exact new_cell _ _ _ _ 0 _ rfl rfl
   have b3 : (wr.alloc ob).cell? ⟨wr.heap.size,3,none⟩ = some (.int .i64 (t : Int)):=by rw [hob]; exact new_cell _ _ _ _ 3 _ rfl rfl
   obtain ⟨ct,hct⟩ : ∃ c,c = intoE (edgesE (f.arcs.take k)) t:=⟨_,rfl⟩
   have hct3 : ct <= 3000:=by
    have h1:=intoE_le (edgesE (f.arcs.take k)) t
    rw [edges_len,List.length_take] at h1
    omega
   have hctw : IntKind.i64.wrap ((ct : Int) + 1) = (ct : Int) + 1:=wrap_in _ (by omega) (by omega)
   have hNA:=hNX.below hbA
   have i1:=hNA.into.cell t htn
   rw [<- hct] at i1
   have i2:=hNA.into.frz t
   obtain ⟨Wd,hWd⟩ : ∃ W,W = ((wr.alloc ob).setCell ⟨gi,t,none⟩ (.int .i64 ((ct : Int) + 1))).drew:=⟨_,rfl⟩
   obtain ⟨vs,hvs⟩ : ∃ v,v = V s:=⟨_,rfl⟩
   obtain ⟨ln,hln⟩ : ∃ n,n = (nextE (edgesE (f.arcs.take k)) s).length:=⟨_,rfl⟩
   have hln3 : ln <= 3000:=by
    have h1:=nextE_len (edgesE (f.arcs.take k)) s
    rw [edges_len,List.length_take] at h1
    omega
   have hND : NXW w Wd N f.start (.slice fa fn fc) (.slice (some ⟨ab,ao,none⟩) m ac) gi gn (fun v => if v = t then ct + 1 else intoE (edgesE (f.arcs.take k)) v) V (nextE (edgesE (f.arcs.take k))):=by
    rw [hWd]
    have h1:=hNA.setInto (t:=t) (x:=ct + 1) htn
    rw [show ((ct + 1 : Nat) : Int) = (ct : Int) + 1 by omega] at h1
    exact h1.below (bel_self _).drew
   have hgD : gn < D:=by rw [hD]; exact hNX.next.lt
   have hDl : D < Wd.heap.size:=by rw [hD,hWd]; simp [World.setCell]
   have hS0 : (fun wx : World => wx.cell? ⟨D,0,none⟩ = some (.int .i64 (s : Int)) /\ wx.cell? ⟨D,3,none⟩ = some (.int .i64 (t : Int)) /\ wx.cell? ⟨gn,s,none⟩ = some vs) Wd:=by
    have hne : D ≠ gi:=by have:=hNX.gn1; omega
    refine ⟨?_,?_,?_⟩
    ·rw [hWd]
     refine drew_cell ?_
     rw [set_far hne,hD]
     exact b0
    ·rw [hWd]
     refine drew_cell ?_
     rw [set_far hne,hD]
     exact b3
    ·rw [hvs]; exact hND.next.cell s hsn
   have hgW : gn < Wd.heap.size:=by omega
   have hbE : Below Wd.heap.size Wd (Wd.alloc (.cells #[.int .i64 (t : Int)] 3)):=bel_up (bel_self _) _
   have hNE:=hND.below hbE
   have hown:=hNE.rows s hsn
   rw [<- hln,<- hvs] at hown
   have HFIN : Hid (∀ v' w3,w3.ownsRow (gn + 1) 3 1 v' (ln + 1) (natV (nextE (edgesE (f.arcs.take k)) s) ++ [.int .i64 (t : Int)]) -> (Wd.alloc (.cells #[.int .i64 (t : Int)] 3)).grownBy w3 vs.ownBlock -> (v'.ownBlock = vs.ownBlock \/ v'.ownBlock = some (Wd.alloc (.cells #[.int .i64 (t : Int)] 3)).heap.size) -> NXW w (w3.setCell ⟨gn,s,none⟩ v') N f.start (.slice fa fn fc) (.slice (some ⟨ab,ao,none⟩) m ac) gi gn (intoE (edgesE (f.arcs.take (k + 1)))) (updV V s v') (nextE (edgesE (f.arcs.take (k + 1))))):=by
    intro v' w3 h1 h2 h3
    rw [hvs] at h2 h3
    rw [hln] at h1
    refine (hNE.app hsn h2 h1 h3).cong (fun v _ => ?_) (fun u _ => ?_)
    ·rw [edges_at hak hs ht,intoE_snoc]
     by_cases e : v = t
     ·rw [if_pos e,if_pos e.symm,hct,e]
     ·rw [if_neg e,if_neg (fun e' => e e'.symm)]; rfl
    ·rw [edges_at hak hs ht,nextE_snoc]
     unfold updR
     by_cases e : u = s
     ·rw [if_pos e,if_pos e.symm,e]
     ·rw [if_neg e,if_neg (fun e' => e e'.symm)]
   have hvlo : ∀ b,vs.ownBlock = some b -> gn < b:=fun b hb => own_base hown b hb
   have hvD : vs.ownBlock ≠ some D:=fun e => by
    have h1:=ownsRow_lt0 (hNX.rows s hsn) D (by rw [<- hvs]; exact e)
    omega
   have HKEEP : Hid (∀ w3,(Wd.alloc (.cells #[.int .i64 (t : Int)] 3)).grownBy w3 vs.ownBlock -> (fun wx : World => wx.cell? ⟨D,0,none⟩ = some (.int .i64 (s : Int)) /\ wx.cell? ⟨D,3,none⟩ = some (.int .i64 (t : Int)) /\ wx.cell? ⟨gn,s,none⟩ = some vs) (Wd.alloc (.cells #[.int .i64 (t : Int)] 3)) -> (fun wx : World => wx.cell? ⟨D,0,none⟩ = some (.int .i64 (s : Int)) /\ wx.cell? ⟨D,3,none⟩ = some (.int .i64 (t : Int)) /\ wx.cell? ⟨gn,s,none⟩ = some vs) w3):=by
    intro w3 hg h
    have hl : D < (Wd.alloc (.cells #[.int .i64 (t : Int)] 3)).heap.size:=by rw [one_size]; omega
    have hl2 : gn < (Wd.alloc (.cells #[.int .i64 (t : Int)] 3)).heap.size:=by rw [one_size]; omega
    exact ⟨(hg.cell_far ⟨D,0,none⟩ hl (fun e => hvD e.symm)).trans h.1,(hg.cell_far ⟨D,3,none⟩ hl (fun e => hvD e.symm)).trans h.2.1,(hg.cell_far ⟨gn,s,none⟩ hl2 (fun e => by have:=hvlo gn e.symm; omega)).trans h.2.2⟩
   have HFZ : Hid (∀ w3,(Wd.alloc (.cells #[.int .i64 (t : Int)] 3)).grownBy w3 vs.ownBlock -> w3.frozen? ⟨gn,s,none⟩ = false):=by
    intro w3 hg
    exact (hNE.next.grown hg (fun e => by have:=hvlo gn e.symm; omega)).frz s
   have HOB : Hid (ob = .cells #[.int .i64 (s : Int),.int .i64 a.inp,.int .i64 a.out,.int .i64 (t : Int),.int .i64 a.wt] 54 /\ D = wr.heap.size):=⟨hob,hD⟩
   have HWD : Hid (Wd = ((wr.alloc ob).setCell ⟨gi,t,none⟩ (.int .i64 ((ct : Int) + 1))).drew):=hWd
   have hsi : (s : Int) < N:=by omega
   have hti : (t : Int) < N:=by omega
   rw [hob] at b0 b3 i1 i2
   clear hob hD hWd hgd hs ht hak hxa hNX hNA hND hNE hct hvs hln hvlo hvD hgD hbA
   go_wp2
   rw [<- HOB.out.1,<- HOB.out.2]
   clear HOB b0 b3 i1 i2 c0 c1 c2 c3 c4
   refine wp_region_noPanic ?_
   refine wp_region_U (fun wx : World => wx.cell? ⟨D,0,none⟩ = some (.int .i64 (s : Int)) /\ wx.cell? ⟨D,3,none⟩ = some (.int .i64 (t : Int)) /\ wx.cell? ⟨gn,s,none⟩ = some vs) 13 (by kernel_rfl) (by rw [<- HWD.out]; exact hS0) (fun _ => ?_)
   rw [<- HWD.out]
   clear HWD
   refine tkU (i:=0) (v:=.slice (some ⟨gn,0,none⟩) N N) rfl (by kernel_rfl) (fun _ _ _ h => h) (by rfl) hS0 (fun wl hSw => ?_) ?_
   ·(try dsimp only at hSw); go_simp
   refine tkU (i:=1) (v:=.pointer (some ⟨D,0,none⟩)) rfl (by kernel_rfl) (fun _ _ _ h => h) (by rfl) hS0 (fun wl hSw => ?_) ?_
   ·(try dsimp only at hSw); go_simp
   refine tkU (i:=2) (v:=.int .i64 (s : Int)) rfl (by kernel_rfl) (fun _ _ _ h => h) (by rfl) hS0 (fun wl hSw => ?_) ?_
   ·(try dsimp only at hSw); go_simp
   refine tkU (i:=3) (v:=.slice (some ⟨gn,0,none⟩) N N) rfl (by kernel_rfl) (fun _ _ _ h => h) (by rfl) hS0 (fun wl hSw => ?_) ?_
   ·(try dsimp only at hSw); go_simp
   refine tkU (i:=4) (v:=.pointer (some ⟨D,0,none⟩)) rfl (by kernel_rfl) (fun _ _ _ h => h) (by rfl) hS0 (fun wl hSw => ?_) ?_
   ·(try dsimp only at hSw); go_simp
   refine tkU (i:=5) (v:=.int .i64 (s : Int)) rfl (by kernel_rfl) (fun _ _ _ h => h) (by rfl) hS0 (fun wl hSw => ?_) ?_
   ·(try dsimp only at hSw); go_simp
   refine tkU (i:=6) (v:=.pointer (some ⟨gn,s,none⟩)) rfl (by kernel_rfl) (fun _ _ _ h => h) (by rfl) hS0 (fun wl hSw => ?_) ?_
   ·(try dsimp only at hSw); go_simp
   refine tkU (i:=7) (v:=vs) rfl (by kernel_rfl) (fun _ _ _ h => h) (by rfl) hS0 (fun wl hSw => ?_) ?_
   ·(try dsimp only at hSw); go_simp
   refine tkU (i:=8) (v:=.pointer (some ⟨D,3,none⟩)) rfl (by kernel_rfl) (fun _ _ _ h => h) (by rfl) hS0 (fun wl hSw => ?_) ?_
   ·(try dsimp only at hSw); go_simp
   refine tkU (i:=9) (v:=.int .i64 (t : Int)) rfl (by kernel_rfl) (fun _ _ _ h => h) (by rfl) hS0 (fun wl hSw => ?_) ?_
   ·(try dsimp only at hSw); go_simp
   refine wpAnyU_one (i:=10) rfl (by kernel_rfl) (fun Kc hKc => ?_)
   go_simp
   have hS1 : (fun wx : World => wx.cell? ⟨D,0,none⟩ = some (.int .i64 (s : Int)) /\ wx.cell? ⟨D,3,none⟩ = some (.int .i64 (t : Int)) /\ wx.cell? ⟨gn,s,none⟩ = some vs) (Wd.alloc (.cells #[.int .i64 (t : Int)] 3)):=⟨bel_c hbE hS0.1,bel_c hbE hS0.2.1,bel_c hbE hS0.2.2⟩
   refine hKc.out _ _ ⟨fun _ => hS1,?_⟩
   clear hKc Kc
   refine wpAnyU_one (i:=11) rfl (by kernel_rfl) (fun Kc hKc => ?_)
   refine if_wanted rfl (wp_app_at _ _ 22 rfl (gn + 1) 3 i0 (.int .i64 0) 1 8 Try.underlying22 hi hz0 hz1 hz2 rfl (by decide) vs ln _ rfl hown ⟨Wd.heap.size,0,none⟩ 1 1 [.int .i64 (t : Int)] rfl rfl (cells_new Wd #[.int .i64 (t : Int)] 3 _ rfl) (one_int _) (by unfold maxLen; omega) (by omega) (by rw [one_size]; omega) ?_)
   intro v' w3 hown' hgrow hvv
   obtain ⟨va,vc,rfl⟩:=own_slice hown'
   have HF : Hid _:=HFIN.out _ w3 hown' hgrow hvv
   have hS2 : (fun wx : World => wx.cell? ⟨D,0,none⟩ = some (.int .i64 (s : Int)) /\ wx.cell? ⟨D,3,none⟩ = some (.int .i64 (t : Int)) /\ wx.cell? ⟨gn,s,none⟩ = some vs) w3:=HKEEP.out w3 hgrow hS1
   have hfz:=HFZ.out w3 hgrow
   clear hown' hgrow hvv hown HFIN HKEEP HFZ hS0 hS1
   refine hKc.out _ _ ⟨fun _ => hS2,?_⟩
   clear hKc Kc
   refine tkU (i:=12) (v:=.pointer (some ⟨gn,s,none⟩)) rfl (by kernel_rfl) (fun _ _ _ h => h) (by rfl) hS2 (fun wl hSw => ?_) ?_
   ·(try dsimp only at hSw); go_simp
   obtain ⟨_,_,z3⟩:=hS2
   refine wpAnyU_one (i:=13) rfl (by kernel_rfl) (fun Kc hKc => ?_)
   go_simp
   refine hKc.out _ _ ⟨fun h => absurd rfl h,?_⟩
   clear hKc Kc
   refine wpAnyU_done (by kernel_rfl) ?_ _
   refine NoPanic.normal ?_
   clear z3 hfz
   go_wp2
   go_roundw
   case rel => exact ⟨k + 1,_,by omega,by go_num,HF.out⟩
   case measure => simp [intOf]; omega
  ·obtain rfl : k = m:=by omega
   have hkl : ¬ ((k : Int) < k):=by omega
   have hNE : NXW w wr N f.start (.slice fa fn fc) (.slice aa k ac) gi gn (intoE (edgesE f.arcs)) V (nextE (edgesE f.arcs)):=by
    have h1:=hNX
    rw [List.take_of_length_le (by have:=HL.out; omega)] at h1
    exact h1
   have HLT : Hid (∀ e ∈ edgesE f.arcs,e.1 < N /\ e.2 < N):=edges_lt HAR.out
   have HIL : Hid (∀ v,intoE (edgesE f.arcs) v <= 3000):=fun v => by
    have h1:=intoE_le (edgesE f.arcs) v
    rw [edges_len] at h1
    have:=HL.out
    omega
   have hgW : gn < wr.heap.size:=hNE.next.lt
   obtain ⟨E,hEE⟩ : ∃ E,E = edgesE f.arcs:=⟨_,rfl⟩
   rw [<- hEE] at hNE HLT HIL
   have HEL : Hid (E.length <= 3000):=by
    show _ <= _
    rw [hEE,edges_len]
    have:=HL.out
    omega
   have HEE : Hid (E = edgesE f.arcs):=hEE
   clear hNX HAR HR HL hEE
   go_wp2
   go_loopw [7,8,9,49] (fun t7 _ _ t49 wx => ∃ (j : Nat),j <= N /\ t49 = .int .i64 (j : Int) /\ NXW w wx N f.start (.slice fa fn fc) (.slice aa k ac) gi gn (intoE E) V (nextE E) /\ wx.ownsRow (gn + 1) 3 1 t7 (firstT E j).length (natV (firstT E j)) /\ (∀ u,u < N -> ∀ b,(V u).ownBlock = some b -> t7.ownBlock ≠ some b)) (fun _ _ _ t49 _ => N - (intOf t49).toNat)
   case atStart => exact ⟨0,Nat.zero_le _,rfl,hNE,World.ownsRow_nil _ _ _ _,fun u _ b _ e => by simp [Value.ownBlock] at e⟩
   case round =>
    clear hNE hgW
    obtain ⟨j,hj,rfl,hNX,hown,hsep⟩:=hrel
    have hjw : IntKind.i64.wrap ((j : Int) + 1) = (j : Int) + 1:=wrap_in _ (by omega) (by omega)
    by_cases hlj : j < N
    ·have hji : (j : Int) < N:=by omega
     have c0:=hNX.into.cell j hlj
     obtain ⟨x,hx⟩ : ∃ x,x = intoE E j:=⟨_,rfl⟩
     have HX : Hid (x = intoE E j):=hx
     rw [<- hx] at c0
     obtain ⟨va,vc,rfl⟩:=own_slice hown
     have hgW : gn < wr.heap.size:=hNX.next.lt
     have hln:=firstT_len E j
     by_cases h0 : x = 0
     ·subst h0
      have hfs : firstT E (j + 1) = firstT E j ++ [j]:=by rw [firstT_succ,if_pos hx.symm]
      have hown1:=hown.alloc (.cells #[.int .i64 (j : Int)] 3)
      have HN1 : Hid (NXW w (wr.alloc (.cells #[.int .i64 (j : Int)] 3)) N f.start (.slice fa fn fc) (.slice aa k ac) gi gn (intoE E) V (nextE E)):=hNX.below (bel_up (bel_self _) _)
      have HSE : Hid (∀ u,u < N -> ∀ b,(V u).ownBlock = some b -> (Value.slice va (firstT E j).length vc).ownBlock ≠ some b):=hsep
      have HFS : Hid (firstT E (j + 1) = firstT E j ++ [j]):=hfs
      have hlo:=own_base hown
      obtain ⟨ln,hl⟩ : ∃ n,n = (firstT E j).length:=⟨_,rfl⟩
      have HLN : Hid (ln = (firstT E j).length):=hl
      rw [<- hl] at hown1 HSE hln hlo ⊢
      have HLO : Hid (∀ g,(Value.slice va ln vc).ownBlock = some g -> gn + 1 <= g):=hlo
      have HSP : Hid (∀ v' : Value,(v'.ownBlock = (Value.slice va ln vc).ownBlock \/ v'.ownBlock = some (wr.alloc (.cells #[.int .i64 (j : Int)] 3)).heap.size) -> (∀ u,u < N -> ∀ b,(V u).ownBlock = some b -> v'.ownBlock ≠ some b)):=fun v' hvv u hu b hb e => by
       rcases hvv with hvv | hvv
       ·rw [hvv] at e; exact HSE.out u hu b hb e
       ·rw [hvv] at e
        injection e with e
        have:=ownsRow_lt0 (HN1.out.rows u hu) b hb
        omega
      clear hx hfs hsep hown hNX hl hlo
      go_wp2_with (at_builtin; refine wpList_append_own_at _ rfl _ _ 22 rfl (gn + 1) 3 i0 (.int .i64 0) 1 8 Try.underlying22 hi hz0 hz1 hz2 rfl (by decide) (.slice va ln vc) ln _ rfl hown1 ⟨wr.heap.size,0,none⟩ 1 1 [.int .i64 (j : Int)] rfl rfl (cells_new _ #[.int .i64 (j : Int)] 3 wr.heap.size rfl) (one_int _) (by unfold maxLen; omega) (by omega) (by rw [one_size]; omega) ?_; intro v' w4 hown' hgrow _ hvv; have HF : Hid (∃ q : Nat,q = ln + 1 /\ NXW w w4 N f.start (.slice fa fn fc) (.slice aa k ac) gi gn (intoE E) V (nextE E) /\ w4.ownsRow (gn + 1) 3 1 v' (firstT E (j + 1)).length (natV (firstT E (j + 1))) /\ (∀ u,u < N -> ∀ b,(V u).ownBlock = some b -> v'.ownBlock ≠ some b)):=⟨_,rfl,HN1.out.grown hgrow (fun b hb => HLO.out b hb) (fun u hu b hb => HSE.out u hu b hb),by rw [HFS.out,List.length_append,List.length_singleton,<- HLN.out]; have e : natV (firstT E j ++ [j]) = natV (firstT E j) ++ [.int .i64 (j : Int)]:=(by simp [natV]); rw [e]; exact hown',HSP.out _ hvv⟩; clear hown' hgrow hvv hown1)
      go_roundw
      case rel =>
       obtain ⟨_,_,r1,r2,r3⟩:=HF.out
       exact ⟨j + 1,by omega,by go_num,r1,r2,r3⟩
      case measure => simp [intOf]; omega
     ·have h0b : (((x : Int)) == 0) = false:=by
       have : ¬ (x : Int) = 0:=by omega
       simpa using this
      have HFS : Hid (firstT E (j + 1) = firstT E j):=by show _ = _; rw [firstT_succ,if_neg (by rw [<- hx]; exact h0)]
      have HAL : Hid (NXW w wr N f.start (.slice fa fn fc) (.slice aa k ac) gi gn (intoE E) V (nextE E) /\ wr.ownsRow (gn + 1) 3 1 (Value.slice va (firstT E j).length vc) (firstT E (j + 1)).length (natV (firstT E (j + 1))) /\ (∀ u,u < N -> ∀ b,(V u).ownBlock = some b -> (Value.slice va (firstT E j).length vc).ownBlock ≠ some b)):=⟨hNX,by rw [HFS.out]; exact hown,hsep⟩
      obtain ⟨ln,hl⟩ : ∃ n,n = (firstT E j).length:=⟨_,rfl⟩
      rw [<- hl] at HAL ⊢
      clear hx hNX hown hsep hl hln HFS
      go_wp2
      go_roundw
      case rel => exact ⟨j + 1,by omega,by go_num,HAL.out.1,HAL.out.2.1,HAL.out.2.2⟩
      case measure => simp [intOf]; omega
    ·obtain rfl : N = j:=by omega
     have hjl : ¬ ((N : Int) < N):=by omega
     have hK0:=firstT_kah HLT.out
     have hNK : NXW w wr N f.start (.slice fa fn fc) (.slice aa k ac) gi gn (fun v => totR (nextE E) v N) V (nextE E):=hNX.cong (fun v _ => (totR_next (fun e he => (HLT.out e he).1) v).symm) (fun _ _ => rfl)
     clear hNX HIL
     go_wp2
     go_loopw [7,10,12] (fun t7 t10 _ wx => ∃ (i : Nat) (T : List Nat) (R : Nat -> List Nat),i <= T.length /\ t10 = .int .i64 (i : Int) /\ Kah E N T i 0 R /\ NXW w wx N f.start (.slice fa fn fc) (.slice aa k ac) gi gn (fun v => totR R v N) V (nextE E) /\ wx.ownsRow (gn + 1) 3 1 t7 (T).length (natV (T)) /\ (∀ u,u < N -> ∀ b,(V u).ownBlock = some b -> t7.ownBlock ≠ some b)) (fun _ t10 _ _ => N - (intOf t10).toNat)
     case atStart => exact ⟨0,firstT E N,nextE E,Nat.zero_le _,rfl,hK0,hNK,hown,hsep⟩
     case round =>
      clear hK0 hNK hown hsep
      obtain ⟨i,T,R,hiT,rfl,hK,hNX,hown,hsep⟩:=hrel
      have hTN:=hK.len
      have hiw : IntKind.i64.wrap ((i : Int) + 1) = (i : Int) + 1:=wrap_in _ (by omega) (by omega)
      obtain ⟨ta,tc,rfl⟩:=own_slice hown
      by_cases hli : i < T.length
      ·obtain ⟨s,hs⟩ : ∃ s,T[i]? = some s:=⟨_,List.getElem?_eq_getElem hli⟩
       have hsN : s < N:=hK.lt s (List.mem_of_getElem? hs)
       obtain ⟨tb,tt,rfl,hxt⟩:=(rowN hown).some (by omega)
       have c0:=hxt.cell i hli
       rw [natL_get hs] at c0
       have n0:=hNX.next.cell s hsN
       obtain ⟨sa,sc,hVs⟩:=own_slice (hNX.rows s hsN)
       obtain ⟨tl,htl⟩ : ∃ n,n = T.length:=⟨_,rfl⟩
       obtain ⟨sl,hsl⟩ : ∃ n,n = (nextE E s).length:=⟨_,rfl⟩
       rw [<- hsl] at hVs
       rw [hVs] at n0
       have HST : Hid (T[i]? = some s /\ Kah E N T i 0 R /\ NXW w wr N f.start (.slice fa fn fc) (.slice aa k ac) gi gn (fun v => totR R v N) V (nextE E) /\ wr.ownsRow (gn + 1) 3 1 (.slice (some ⟨tb,tt,none⟩) tl tc) T.length (natV T) /\ (∀ u,u < N -> ∀ b,(V u).ownBlock = some b -> (Value.slice (some ⟨tb,tt,none⟩) tl tc).ownBlock ≠ some b)):=⟨hs,hK,hNX,by rw [htl]; exact hown,hsep⟩
       have HSL : Hid (sl = (nextE E s).length /\ V s = .slice sa sl sc):=⟨hsl,hVs⟩
       have hit : (i : Int) < tl:=by omega
       have hsi : (s : Int) < N:=by omega
       rw [<- htl]
       clear hs hK hNX hown hsep hxt hVs htl hsl hli hiT hTN
       go_wp2
       clear c0 n0 hit
       go_loopw [7,12,75] (fun t7 _ t75 wx => ∃ (j : Nat) (T' : List Nat) (R' : Nat -> List Nat),j <= sl /\ t75 = .int .i64 (j : Int) /\ T'[i]? = some s /\ Kah E N T' i j R' /\ NXW w wx N f.start (.slice fa fn fc) (.slice aa k ac) gi gn (fun v => totR R' v N) V (nextE E) /\ wx.ownsRow (gn + 1) 3 1 t7 (T').length (natV (T')) /\ (∀ u,u < N -> ∀ b,(V u).ownBlock = some b -> t7.ownBlock ≠ some b)) (fun _ _ t75 _ => sl - (intOf t75).toNat)
       case atStart => exact ⟨0,T,R,Nat.zero_le _,rfl,HST.out.1,HST.out.2.1,HST.out.2.2.1,HST.out.2.2.2.1,HST.out.2.2.2.2⟩
       case round =>
        clear HST
        obtain ⟨j,T',R',hj,rfl,hs,hK,hNX,hown,hsep⟩:=hrel
        have hTN:=hK.len
        have hiT : i < T'.length:=(List.getElem?_eq_some_iff.1 hs).1
        have hsl3 : sl <= 3000:=by
         have h1:=nextE_len E s
         have h2:=HEL.out
         have h3:=HSL.out.1
         omega
        have hiN : i < N:=by omega
        have hjw : IntKind.i64.wrap ((j : Int) + 1) = (j : Int) + 1:=wrap_in _ (by omega) (by omega)
        obtain ⟨ta',tc',rfl⟩:=own_slice hown
        by_cases hlj : j < sl
        ·have hji : (j : Int) < sl:=by omega
         obtain ⟨to,hto⟩ : ∃ t,(nextE E s)[j]? = some t:=⟨_,List.getElem?_eq_getElem (by have:=HSL.out.1; omega)⟩
         obtain ⟨htN,hnT,hx1,hx2,hkn,hkz⟩:=hK.step HLT.out hs hto
         have hIR:=rowN (hNX.rows s hsN)
         rw [HSL.out.2] at hIR
         obtain ⟨rb,ro,rfl,hxr⟩:=hIR.some (by omega)
         have c0:=hxr.cell j hlj
         rw [natL_get hto] at c0
         have i1:=hNX.into.cell to htN
         have i2:=hNX.into.frz to
         obtain ⟨R2,hR2⟩ : ∃ R,R = updR R' s ((nextE E s).drop (j + 1)):=⟨_,rfl⟩
         rw [<- hR2] at hx1 hx2 hkn hkz
         obtain ⟨x,hx⟩ : ∃ x,x = totR R2 to N:=⟨_,rfl⟩
         rw [<- hx] at hx1 hkn hkz
         rw [hx1] at i1
         have i1 : wr.cell? ⟨gi,to,none⟩ = some (.int .i64 ((x : Int) + 1)):=by rw [i1]; congr 2
         have hx9 : x <= 3000:=by
          have h1:=hK.le HLT.out to
          have h2:=HEL.out
          omega
         have hw1 : IntKind.i64.wrap ((x : Int) + 1 - 1) = (x : Int):=by rw [wrap_in _ (by omega) (by omega)]; omega
         have hw2 : IntKind.i64.wrap (x : Int) = (x : Int):=wrap_in _ (by omega) (by omega)
         have htoi : (to : Int) < N:=by omega
         have hgi:=hNX.gi1
         have hgn:=hNX.gn1
         have hlo:=own_base hown
         have hgW : gn < wr.heap.size:=hNX.next.lt
         have HNX : Hid (NXW w (wr.setCell ⟨gi,to,none⟩ (.int .i64 (x : Int))) N f.start (.slice fa fn fc) (.slice aa k ac) gi gn (fun v => totR R2 v N) V (nextE E)):=(hNX.setInto (t:=to) (x:=x) htN).cong (fun v _ => by
          by_cases e : v = to
          ·rw [if_pos e,e,hx]
          ·rw [if_neg e,hx2 v e]) (fun _ _ => rfl)
         have hown1 : (wr.setCell ⟨gi,to,none⟩ (.int .i64 (x : Int))).ownsRow (gn + 1) 3 1 (.slice ta' T'.length tc') T'.length (natV T'):=ownsRow_setCell_far hown (fun e => by have:=hlo gi e; omega)
         have j1 : (wr.setCell ⟨gi,to,none⟩ (.int .i64 (x : Int))).cell? ⟨gi,to,none⟩ = some (.int .i64 (x : Int)):=World.cell?_setCell_same _ _ _ i1
         obtain ⟨tl',htl⟩ : ∃ n,n = T'.length:=⟨_,rfl⟩
         have HTL : Hid (tl' = T'.length):=htl
         have HS : Hid (T'[i]? = some s /\ i < T'.length):=⟨hs,hiT⟩
         by_cases h0 : x = 0
         ·subst h0
          have HKZ : Hid (Kah E N (T' ++ [to]) i (j + 1) R2):=hkz rfl
          obtain ⟨W1,hW1⟩ : ∃ W,W = wr.setCell ⟨gi,to,none⟩ (.int .i64 0):=⟨_,rfl⟩
          have hWs : W1.heap.size = wr.heap.size:=by rw [hW1]; simp [World.setCell]
          have HNX : Hid (NXW w W1 N f.start (.slice fa fn fc) (.slice aa k ac) gi gn (fun v => totR R2 v N) V (nextE E)):=by rw [hW1]; exact HNX.out
          have hown1 : W1.ownsRow (gn + 1) 3 1 (.slice ta' T'.length tc') T'.length (natV T'):=by rw [hW1]; exact hown1
          have HN1 : Hid (NXW w (W1.alloc (.cells #[.int .i64 (to : Int)] 3)) N f.start (.slice fa fn fc) (.slice aa k ac) gi gn (fun v => totR R2 v N) V (nextE E)):=HNX.out.below (bel_up (bel_self _) _)
          have hown2:=hown1.alloc (.cells #[.int .i64 (to : Int)] 3)
          have HSE : Hid (∀ u,u < N -> ∀ b,(V u).ownBlock = some b -> (Value.slice ta' tl' tc').ownBlock ≠ some b):=by rw [htl]; exact hsep
          have HLO : Hid (∀ g,(Value.slice ta' tl' tc').ownBlock = some g -> gn + 1 <= g):=by rw [htl]; exact hlo
          have HSP : Hid (∀ v' : Value,(v'.ownBlock = (Value.slice ta' tl' tc').ownBlock \/ v'.ownBlock = some (W1.alloc (.cells #[.int .i64 (to : Int)] 3)).heap.size) -> (∀ u,u < N -> ∀ b,(V u).ownBlock = some b -> v'.ownBlock ≠ some b)):=fun v' hvv u hu b hb e => by
           rcases hvv with hvv | hvv
           ·rw [hvv] at e; exact HSE.out u hu b hb e
           ·rw [hvv] at e
            injection e with e
            have:=ownsRow_lt0 (HN1.out.rows u hu) b hb
            omega
          have HW1 : Hid (W1 = wr.setCell ⟨gi,to,none⟩ (.int .i64 0)):=hW1
          rw [<- htl] at hown2 hTN ⊢
          clear hs hK hNX hown hsep hx hx1 hx2 hkn hkz hR2 hIR hxr htl hlo hown1 hW1 hto hnT hiT
          go_wp2_with (at_builtin; rw [<- HW1.out]; refine wpList_append_own_at _ rfl _ _ 22 rfl (gn + 1) 3 i0 (.int .i64 0) 1 8 Try.underlying22 hi hz0 hz1 hz2 rfl (by decide) (.slice ta' tl' tc') tl' _ rfl hown2 ⟨_,0,none⟩ 1 1 [.int .i64 (to : Int)] rfl rfl (cells_new _ #[.int .i64 (to : Int)] 3 _ (by first | rfl | exact hWs)) (one_int _) (by unfold maxLen; omega) (by omega) (by rw [one_size]; omega) ?_; intro v' w4 hown' hgrow _ hvv; have HF : Hid (∃ q : Nat,q = tl' + 1 /\ NXW w w4 N f.start (.slice fa fn fc) (.slice aa k ac) gi gn (fun v => totR R2 v N) V (nextE E) /\ w4.ownsRow (gn + 1) 3 1 v' (T' ++ [to]).length (natV (T' ++ [to])) /\ (∀ u,u < N -> ∀ b,(V u).ownBlock = some b -> v'.ownBlock ≠ some b)):=⟨_,rfl,HN1.out.grown hgrow (fun b hb => HLO.out b hb) (fun u hu b hb => HSE.out u hu b hb),by rw [List.length_append,List.length_singleton,<- HTL.out]; have e : natV (T' ++ [to]) = natV T' ++ [.int .i64 (to : Int)]:=(by simp [natV]); rw [e]; exact hown',HSP.out _ hvv⟩; clear hown' hgrow hvv hown2)
          go_roundw
          case rel =>
           obtain ⟨_,_,r1,r2,r3⟩:=HF.out
           exact ⟨j + 1,T' ++ [to],R2,by omega,by go_num,by rw [List.getElem?_append_left HS.out.2]; exact HS.out.1,HKZ.out,r1,r2,r3⟩
          case measure => simp [intOf]; omega
         ·have h0b : (((x : Int)) == 0) = false:=by
           have : ¬ (x : Int) = 0:=by omega
           simpa using this
          have HKN : Hid (Kah E N T' i (j + 1) R2):=hkn h0
          have HAL : Hid ((wr.setCell ⟨gi,to,none⟩ (.int .i64 (x : Int))).ownsRow (gn + 1) 3 1 (.slice ta' tl' tc') T'.length (natV T') /\ (∀ u,u < N -> ∀ b,(V u).ownBlock = some b -> (Value.slice ta' tl' tc').ownBlock ≠ some b)):=by rw [htl]; exact ⟨hown1,hsep⟩
          rw [<- htl]
          clear hs hK hNX hown hsep hx hx1 hx2 hkn hkz hR2 hIR hxr htl hlo hown1 hto hnT hiT
          go_wp2
          go_roundw
          case rel => exact ⟨j + 1,T',R2,by omega,by go_num,HS.out.1,HKN.out,HNX.out,HAL.out.1,HAL.out.2⟩
          case measure => simp [intOf]; omega
        ·obtain rfl : sl = j:=by omega
         have hjl : ¬ ((sl : Int) < sl):=by omega
         have HK2 : Hid (Kah E N T' (i + 1) 0 R'):=hK.next hs (by have:=HSL.out.1; omega)
         have HAL : Hid (i + 1 <= T'.length /\ NXW w wr N f.start (.slice fa fn fc) (.slice aa k ac) gi gn (fun v => totR R' v N) V (nextE E) /\ wr.ownsRow (gn + 1) 3 1 (Value.slice ta' T'.length tc') (T').length (natV (T')) /\ (∀ u,u < N -> ∀ b,(V u).ownBlock = some b -> (Value.slice ta' T'.length tc').ownBlock ≠ some b)):=⟨by omega,hNX,hown,hsep⟩
         obtain ⟨tl',htl⟩ : ∃ n,n = T'.length:=⟨_,rfl⟩
         have HTL : Hid (tl' = T'.length):=htl
         rw [<- htl]
         clear hs hK hNX hown hsep htl hiT hTN
         go_wp2
         go_roundw
         case rel => exact ⟨i + 1,T',R',HAL.out.1,by go_num,HK2.out,HAL.out.2.1,by rw [HTL.out]; exact HAL.out.2.2.1,by rw [HTL.out]; exact HAL.out.2.2.2⟩
         case measure => simp [intOf]; omega
      ·obtain rfl : T.length = i:=by omega
       have hjl : ¬ ((T.length : Int) < T.length):=by omega
       have HA : Hid (T.length < N ↔ RoundE (edgesE f.arcs) N):=by
        have h1:=hK.all
        rw [HEE.out] at h1
        exact h1
       obtain ⟨q0,q1,q2,q3⟩:=hNX.rw.cf
       have hbw:=hNX.rw.bel
       obtain ⟨tl,htl⟩ : ∃ n,n = T.length:=⟨_,rfl⟩
       rw [<- htl] at HA hjl ⊢
       clear hK hNX hown hsep htl
       by_cases hl : tl < N
       ·have hli : (tl : Int) < N:=by omega
        go_wp2
        go_ret
        exact rndRes_mk true ⟨fun _ => HA.out.1 hl,fun _ => rfl⟩ hbw
       ·have hli : ¬ (tl : Int) < N:=by omega
        go_wp2
        go_ret
        exact rndRes_mk false ⟨fun h => (by cases h),fun h => absurd (HA.out.2 h) hl⟩ hbw
end Go.Proofs.Yteehgcbjmdideab
/- 'Round' of the program. -/
namespace Go.Proofs.Yteehgcbjmdideab
open Go.RowKit
attribute [local go_sem ↓] Go.wp_at_zero Go.wp_at_succ
def RoundD (f : FstD) : Prop:=RoundE (edgesE f.arcs) f.states.toNat
theorem goesRound_at (f : FstD) (fin arcs : Value) (w : World) (kf : Fine f) (hf : ISlice w fin f.final) (ha : ASlice w arcs f.arcs) :
  Calls Try.prog 27 #[.agg #[.int .i64 f.states,.int .i64 f.start,fin,arcs]] w fun e w' => RndRes (RoundD f) w e w':=by
 have hN : f.states = (f.states.toNat : Int):=by have:=kf.s1; omega
 have h:=goesRound_any f f.states.toNat fin arcs w kf hN hf ha
 rw [<- hN] at h
 exact h
theorem isRound_at (f : FstD) (fin arcs : Value) (w : World) (kf : Fine f) (hf : ISlice w fin f.final) (ha : ASlice w arcs f.arcs) :
  Calls Try.prog 11 #[.agg #[.int .i64 f.states,.int .i64 f.start,fin,arcs]] w fun e w' => RndRes (RoundD f) w e w':=by
 have hN : f.states = (f.states.toNat : Int):=by have:=kf.s1; omega
 have h:=isRound_any f f.states.toNat fin arcs w kf hN hf ha
 rw [<- hN] at h
 exact h
end Go.Proofs.Yteehgcbjmdideab
/- 'Cheapest' of package spread; 'end' of package oneway. -/
namespace Go.Proofs.Yteehgcbjmdideab
open Go.RowKit
attribute [local go_sem ↓] Go.wp_at_zero Go.wp_at_succ
def cheapD (c : List Int) : Int:=c.foldl (fun l x => if betterB x l then x else l) (-1)
theorem cheapD_snoc (c : List Int) (x : Int) : cheapD (c ++ [x]) = if betterB x (cheapD c) then x else cheapD c:=by
 unfold cheapD
 rw [List.foldl_append]
 rfl
theorem take_snocI {l : List Int} {k : Nat} {x : Int} (h : l[k]? = some x) : l.take (k + 1) = l.take k ++ [x]:=by
 rw [List.take_add_one,h]
 rfl
set_option maxHeartbeats 1000000 in
theorem cheapest_any (xs : List Int) (v : Value) (w : World) (h : ISlice w v xs) (hn : xs.length <= 3000) :
  Calls Try.prog 63 #[v] w fun e w' => e = .returned (.int .i64 (cheapD xs)) /\ w' = w:=by
 obtain ⟨a,n,c,rfl,hl,_⟩:=h.lenOf
 have HI : Hid (ISlice w (.slice a n c) xs):=h
 have HL : Hid (xs.length = n):=hl
 have hn3 : n <= 3000:=by omega
 clear h hl hn
 go_enter Try.func63,Try.ntmps63
 go_wp2
 go_loopw [3,5,8] (fun t3 _ t8 wx => ∃ k : Nat,k <= n /\ t8 = .int .i64 (k : Int) /\ t3 = .int .i64 (cheapD (xs.take k)) /\ wx = w) (fun _ _ t8 _ => n - (intOf t8).toNat)
 case atStart => exact ⟨0,Nat.zero_le _,rfl,by simp [cheapD],rfl⟩
 case round =>
  obtain ⟨k,hk,rfl,rfl,rfl⟩:=hrel
  have hkw : IntKind.i64.wrap ((k : Int) + 1) = (k : Int) + 1:=wrap_in _ (by omega) (by omega)
  obtain ⟨y,hy⟩ : ∃ y,y = cheapD (xs.take k):=⟨_,rfl⟩
  have HY : Hid (y = cheapD (xs.take k)):=hy
  rw [<- hy]
  clear hy
  by_cases hlt : k < n
  ·have hki : (k : Int) < n:=by omega
   obtain ⟨b,off,rfl,hx⟩:=HI.out.some (by omega)
   have c0:=hx.cell k hlt
   obtain ⟨x,hxk⟩ : ∃ x,xs[k]? = some x:=⟨_,List.getElem?_eq_getElem (by have:=HL.out; omega)⟩
   have hgd : xs.getD k 0 = x:=by simp [List.getD,hxk]
   rw [hgd] at c0
   have hle:=lessP_any x y wr
   have HS : Hid (cheapD (xs.take (k + 1)) = if betterB x y then x else y):=by
    show _ = _
    rw [take_snocI hxk,cheapD_snoc,<- HY.out]
   obtain ⟨q,hq⟩ : ∃ q,q = betterB x y:=⟨_,rfl⟩
   rw [<- hq] at hle HS
   clear hx hxk hgd hq
   cases q
   ·go_wp2_with (go_at_call 69; refine hle.mono ?_; rintro e w1 ⟨rfl,rfl⟩)
    go_roundw
    case rel => exact ⟨k + 1,by omega,by go_num,by rw [HS.out]; rfl,trivial⟩
    case measure => simp [intOf]; omega
   ·go_wp2_with (go_at_call 69; refine hle.mono ?_; rintro e w1 ⟨rfl,rfl⟩)
    go_roundw
    case rel => exact ⟨k + 1,by omega,by go_num,by rw [HS.out]; rfl,trivial⟩
    case measure => simp [intOf]; omega
  ·have hkn : ¬ (k : Int) < n:=by omega
   have HS : Hid (y = cheapD xs):=by
    show _ = _
    rw [HY.out,List.take_of_length_le (by have:=HL.out; omega)]
   go_wp2
   go_ret
   exact ⟨ret_int HS.out,rfl⟩
def endsL (f : FstD) (at' : List Int) (k : Nat) : List Int:=(List.range k).map fun s => plusC (gI at' s) (gI f.final s)
def ownEnd (f : FstD) (at' : List Int) : Int:=cheapD (endsL f at' f.final.length)
theorem endsL_len (f : FstD) (at' : List Int) (k : Nat) : (endsL f at' k).length = k:=by simp [endsL]
theorem endsL_succ (f : FstD) (at' : List Int) (k : Nat) : endsL f at' (k + 1) = endsL f at' k ++ [plusC (gI at' k) (gI f.final k)]:=by simp [endsL,List.range_succ]
set_option maxHeartbeats 1000000 in
theorem end_any (f : FstD) (at' : List Int) (fin arcs av : Value) (w : World) (kf : Fine f) (hf : ISlice w fin f.final) (ha : ISlice w av at') (hl : at'.length = f.final.length) (hb : ∀ s,-1 <= gI at' s /\ gI at' s <= 300000000000) :
  Calls Try.prog 61 #[.agg #[.int .i64 f.states,.int .i64 f.start,fin,arcs],av] w fun e w' => e = .returned (.int .i64 (ownEnd f at')) /\ Below w.heap.size w w':=by
 obtain ⟨fa,n,fc,rfl,hfl,_⟩:=hf.lenOf
 obtain ⟨aa,n',ac,rfl,hal,_⟩:=ha.lenOf
 obtain rfl : n = n':=by omega
 have hn2 : n <= 200:=by have:=kf.len; have:=kf.s2; omega
 obtain ⟨i0,hi,hz0,hz1,hz2⟩:=info_parts Try.info3
 obtain ⟨A,hA⟩ : ∃ A,A = w.alloc (.cells #[.int .i64 f.states,.int .i64 f.start,.slice fa n fc,arcs] 25):=⟨_,rfl⟩
 have hb0 : Below w.heap.size w A:=by rw [hA]; exact bel_up (bel_self w) _
 have hAs : A.heap.size = w.heap.size + 1:=by rw [hA]; exact one_size w _
 have hcf : CellsF A w.heap.size f.states f.start (.slice fa n fc) arcs:=by rw [hA]; exact cellsF_new _ _ _ _ _ _
 have HF : Hid (∀ W,Below A.heap.size A W -> ISlice W (.slice fa n fc) f.final /\ ISlice W (.slice aa n ac) at'):=fun W h => ⟨hf.below (bel_on hb0 h),ha.below (bel_on hb0 h)⟩
 have HL : Hid (f.final.length = n /\ at'.length = n):=⟨hfl,hal⟩
 have HFI : Hid (∀ v,gI f.final v = -1 \/ (0 <= gI f.final v /\ gI f.final v <= 1000000000)):=fun v => by
  unfold gI
  rw [List.getD_eq_getElem?_getD]
  rcases e : f.final[v]? with _ | x
  ·exact Or.inl rfl
  ·exact kf.fin x (List.mem_of_getElem? e)
 have HB : Hid (∀ s,-1 <= gI at' s /\ gI at' s <= 300000000000):=hb
 have HA : Hid (A = w.alloc (.cells #[.int .i64 f.states,.int .i64 f.start,.slice fa n fc,arcs] 25)):=hA
 obtain ⟨q0,q1,q2,q3⟩:=hcf
 rw [hA] at q0 q1 q2 q3
 clear hA hf ha hfl hal kf hl hb
 go_enter Try.func61,Try.ntmps61
 go_wp2
 rw [<- HA.out]
 clear HA q0 q1 q2 q3
 go_loopw [5,6,7,11] (fun t5 _ _ t11 wx => ∃ k : Nat,k <= n /\ t11 = .int .i64 (k : Int) /\ wx.ownsRow A.heap.size 3 1 t5 k (intsW (endsL f at' k)) /\ Below A.heap.size A wx) (fun _ _ _ t11 _ => n - (intOf t11).toNat)
 case atStart => exact ⟨0,Nat.zero_le _,rfl,World.ownsRow_nil _ _ _ _,bel_self _⟩
 case round =>
  obtain ⟨k,hk,rfl,hown,hbr⟩:=hrel
  have hkw : IntKind.i64.wrap ((k : Int) + 1) = (k : Int) + 1:=wrap_in _ (by omega) (by omega)
  obtain ⟨va,vc,rfl⟩:=own_slice hown
  by_cases hlt : k < n
  ·have hki : (k : Int) < n:=by omega
   obtain ⟨fb,fo,rfl,hx⟩:=(HF.out wr hbr).1.some (by omega)
   obtain ⟨ab,ao,rfl,hy⟩:=(HF.out wr hbr).2.some (by omega)
   have c0:=hx.cell k hlt
   have d0:=hy.cell k hlt
   rw [gI_getD (by have:=HL.out.1; omega)] at c0
   rw [gI_getD (by have:=HL.out.2; omega)] at d0
   have b1:=HFI.out k
   have b2:=HB.out k
   have HSN:=endsL_succ f at' k
   have HSH : Hid (endsL f at' (k + 1) = endsL f at' k ++ [plusC (gI at' k) (gI f.final k)]):=HSN
   obtain ⟨x,hx'⟩ : ∃ x,x = gI f.final k:=⟨_,rfl⟩
   obtain ⟨y,hy'⟩ : ∃ x,x = gI at' k:=⟨_,rfl⟩
   rw [<- hx'] at c0 b1 HSH
   rw [<- hy'] at d0 b2 HSH
   have hsm : ∀ W,Calls Try.prog 92 #[.int .i64 y,.int .i64 x] W fun e w' => e = .returned (.int .i64 (plusC y x)) /\ w' = W:=fun W => sum_any y x W (by omega) (by omega) (by omega) (by omega)
   obtain ⟨z,hz⟩ : ∃ z,z = plusC y x:=⟨_,rfl⟩
   rw [<- hz] at hsm HSH
   have hown1:=hown.alloc (.cells #[.int .i64 z] 3)
   have hsz:=hbr.size
   have hlo:=own_base hown
   have HLO : Hid (∀ g,(Value.slice va k vc).ownBlock = some g -> A.heap.size <= g):=hlo
   clear HSN hx hy hx' hy' hz hown hlo
   go_wp2_with (first | (go_at_call 92; refine (hsm _).mono ?_; rintro e w2 ⟨rfl,hw2⟩; obtain rfl:=hw2.symm) | (at_builtin; refine wpList_append_own_at _ rfl _ _ 22 rfl A.heap.size 3 i0 (.int .i64 0) 1 8 Try.underlying22 hi hz0 hz1 hz2 rfl (by decide) (.slice va k vc) k _ rfl hown1 ⟨wr.heap.size,0,none⟩ 1 1 [.int .i64 z] rfl rfl (cells_new _ #[.int .i64 z] 3 wr.heap.size rfl) (one_int _) (by unfold maxLen; omega) (by omega) (by rw [one_size]; omega) ?_; intro v' w4 hown' hgrow _ _; have HF4 : Hid (w4.ownsRow A.heap.size 3 1 v' (k + 1) (intsW (endsL f at' (k + 1))) /\ Below A.heap.size A w4):=⟨(by rw [HSH.out]; have e : intsW (endsL f at' k ++ [z]) = intsW (endsL f at' k) ++ [.int .i64 z]:=(by simp [intsW]); rw [e]; exact hown'),(bel_up hbr _).grown hgrow (by rw [one_size]; omega) (fun g hg => HLO.out g hg)⟩; clear hown' hgrow hown1))
   go_roundw
   case rel => exact ⟨k + 1,by omega,by go_num,HF4.out.1,HF4.out.2⟩
   case measure => simp [intOf]; omega
  ·obtain rfl : n = k:=by omega
   have hkn : ¬ (n : Int) < n:=by omega
   have hown':=hown
   rw [<- endsL_len f at' n] at hown'
   have hch:=cheapest_any (endsL f at' n) _ wr (by
    have h1 : ISlice wr (.slice va (endsL f at' n).length vc) (endsL f at' n):=ownsRow_ints (by rw [endsL_len] at hown' ⊢; exact hown)
    rw [endsL_len] at h1
    exact h1) (by rw [endsL_len]; omega)
   have HE : Hid (cheapD (endsL f at' n) = ownEnd f at'):=by
    show _ = _
    unfold ownEnd
    rw [HL.out.1]
   obtain ⟨z,hz⟩ : ∃ z,z = cheapD (endsL f at' n):=⟨_,rfl⟩
   rw [<- hz] at hch HE
   clear hown hown' hz
   go_wp2_with (go_at_call 63; refine hch.mono ?_; rintro e w2 ⟨rfl,rfl⟩)
   go_ret
   exact ⟨ret_int HE.out,bel_on hb0 hbr⟩
end Go.Proofs.Yteehgcbjmdideab
