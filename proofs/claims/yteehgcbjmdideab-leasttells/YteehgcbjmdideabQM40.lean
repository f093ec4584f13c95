/- What Determine answers,told by the subsets; the least one of the literal. -/
import Derived.Test.YteehgcbjmdideabQM39
import Derived.Test.YteehgcbjmdideabQM25
import Derived.Test.YteehgcbjmdideabQM16
import Derived.Test.YteehgcbjmdideabQM03
import Derived.Test.YteehgcbjmdideabQM15
import Derived.Test.YteehgcbjmdideabQM33
import Derived.Test.YteehgcbjmdideabQOwF
set_option maxRecDepth 100000
namespace Go.Proofs.Yteehgcbjmdideab
open Go.RowKit
theorem det_three {f t : FstD} {N s0 : Nat} (hd : DIn f t N s0) :
  (ManyD t s0 /\ ∀ (fin arcs : Value) (W : World),ISlice W fin f.final -> ASlice W arcs f.arcs -> Calls Try.prog 7 #[.agg #[.int .i64 f.states,.int .i64 f.start,fin,arcs]] W fun e w' => NoFst W 2 e w') \/
  (¬ ManyD t s0 /\ ∃ K,DoneK t N K /\ ((checkD (detX t N K) ≠ 0 /\ ∀ (fin arcs : Value) (W : World),ISlice W fin f.final -> ASlice W arcs f.arcs -> Calls Try.prog 7 #[.agg #[.int .i64 f.states,.int .i64 f.start,fin,arcs]] W fun e w' => NoFst W 2 e w') \/ (checkD (detX t N K) = 0 /\ ∃ m,∀ (fin arcs : Value) (W : World),ISlice W fin f.final -> ASlice W arcs f.arcs -> Calls Try.prog 7 #[.agg #[.int .i64 f.states,.int .i64 f.start,fin,arcs]] W fun e w' => HasFst W K m (detX t N K) e w'))):=by
 rcases done_or t N with ⟨K,hk⟩ | ⟨K,hk⟩
 ·obtain ⟨cnt,rk,h1,h2,h3,h4⟩:=hk.count hd.hT
  by_cases hgt : 200 < cnt 0
  ·exact Or.inl ⟨h3.1 hgt,fun fin arcs W hf ha => det_count f t N s0 K _ cnt rk fin arcs W hf ha hd hk rfl h1 h2 hgt⟩
  ·refine Or.inr ⟨fun h => hgt (h3.2 h),K,hk,?_⟩
   by_cases hx : checkD (detX t N K) = 0
   ·exact Or.inr ⟨hx,_,fun fin arcs W hf ha => det_good f t N s0 K _ cnt rk fin arcs W hf ha hd hk rfl h1 h2 (by omega) hx⟩
   ·exact Or.inl ⟨hx,fun fin arcs W hf ha => det_heavy f t N s0 K _ cnt rk fin arcs W hf ha hd hk rfl h1 h2 (by omega) hx⟩
 ·exact Or.inl ⟨hk.many hd.hT.sin,fun fin arcs W hf ha => det_fail f t N s0 K fin arcs W hf ha hd hk⟩
theorem one_words {w0 w1 : Int} {fin : List Int} : ∀ (u : List Int) (n : Nat) (z : Int),WdR ⟨2,0,fin,[⟨0,1,1,1,w0⟩]⟩ 0 u n z -> (u = [] /\ n = 0) \/ (u = [1] /\ n = 1)
 | [],n,z,h => Or.inl ⟨rfl,h.1⟩
 | c :: u,n,z,h => by
  obtain ⟨a,ha,n',z',hr,hi,hs,hd,_⟩:=h
  obtain rfl : a = ⟨0,1,1,1,w0⟩:=by simpa using ha
  rcases one_words (w1:=w1) u n' z' hr with ⟨rfl,rfl⟩ | ⟨rfl,rfl⟩
  ·right
   refine ⟨by rw [<- hi],?_⟩
   have : (1 : Int) = (n : Int):=hd
   omega
  ·exfalso
   simp at hs
theorem one_few {w0 : Int} {fin : List Int} : ¬ ManyD ⟨2,0,fin,[⟨0,1,1,1,w0⟩]⟩ 0:=by
 rintro ⟨L,h1,h2,h3⟩
 have:=nodup_sub L [[],[1]] h1 (fun u hu => by
  obtain ⟨n,z,h⟩:=h2 u hu
  rcases one_words (w1:=0) u n z h with ⟨rfl,_⟩ | ⟨rfl,_⟩
  ·simp
  ·simp)
 simp at this
 omega
theorem same_done : DoneK sameF 2 2:=⟨fun j hj => by
 have : j = 0 \/ j = 1:=by omega
 rcases this with rfl | rfl
 ·rw [sub0]; omega
 ·rw [sub1]; omega,sub2.1.symm⟩
theorem subG_F : subG sameF 2 2 = sameF:=by
 unfold subG
 rw [sub2.2.1,sub2.2.2]
 rfl
theorem detX_F : detX sameF 2 2 = sameG:=by
 unfold detX
 rw [subG_F,same_all,if_neg (by decide)]
 exact same_early
theorem sug0 : (subR sameG 2 0).ms.length = 1:=by decide
theorem sug1 : (subR sameG 2 1).ms.length = 2:=by decide
set_option maxRecDepth 20000 in
theorem sug2 : (subR sameG 2 2).ms.length = 2 /\ (subR sameG 2 2).fin = [-1,0] /\ (subR sameG 2 2).ars = [⟨0,1,1,1,6⟩]:=⟨by decide,by decide,rfl⟩
theorem sameG_done : DoneK sameG 2 2:=⟨fun j hj => by
 have : j = 0 \/ j = 1:=by omega
 rcases this with rfl | rfl
 ·rw [sug0]; omega
 ·rw [sug1]; omega,sug2.1.symm⟩
theorem subG_G : subG sameG 2 2 = sameG:=by
 unfold subG
 rw [sug2.2.1,sug2.2.2]
 rfl
theorem sameG_all : gI (toD sameG) 0 = 6:=by decide
theorem sameG_early : earlyD sameG = sameG:=rfl
theorem detX_G : detX sameG 2 2 = sameG:=by
 unfold detX
 rw [subG_G,sameG_all,if_neg (by decide)]
 exact sameG_early
theorem din_lit {f : FstD} (hc : checkD f = 0) (hb : bothB f = true) (hs : silB f = false) (hr : ¬ RoundD f) (ht : ∀ t,Sc.IsTrim f t -> t = f) : DIn f f f.states.toNat f.start.toNat:=by
 obtain ⟨t,N,s0,hd⟩:=din_of hc hb hs hr
 obtain rfl:=ht t hd.ht
 have h1:=hd.hT.sin.st
 have h2:=hd.hT.sin.sta
 have e1 : t.states.toNat = N:=by omega
 have e2 : t.start.toNat = s0:=by omega
 rw [e1,e2]
 exact hd
theorem same_din : DIn sameF sameF 2 0:=din_lit sameF_chk (by decide) (by decide) same_round (fun _ h => same_trim h)
theorem sameG_xin : XIn sameG 2:=by
 have:=(same_done.xin same_din.hT).1
 rw [detX_F] at this
 exact this
theorem sameG_fine : Fine sameG:=fine_of sameG_chk
theorem sameG_round : ¬ RoundD sameG:=by
 have e : edgesE sameG.arcs = edgesE sameF.arcs:=rfl
 unfold RoundD
 rw [e]
 exact same_round
theorem sameG_din : DIn sameG sameG 2 0:=din_lit sameG_chk (by decide) (by decide) sameG_round (fun _ h => h.unique sameG_xin.trim)
theorem det_lit {f : FstD} (hd : DIn f f 2 0) (hk : DoneK f 2 2) (hx : detX f 2 2 = sameG) (hm : ¬ ManyD f 0) : ∃ m,∀ (fin arcs : Value) (W : World),ISlice W fin f.final -> ASlice W arcs f.arcs -> Calls Try.prog 7 #[.agg #[.int .i64 f.states,.int .i64 f.start,fin,arcs]] W fun e w' => HasFst W 2 m sameG e w':=by
 rcases det_three hd with ⟨h,_⟩ | ⟨_,K,hK,h | ⟨_,m,h⟩⟩
 ·exact absurd h hm
 ·obtain rfl:=done_unique hk hK
  rw [hx] at h
  exact absurd sameG_chk h.1
 ·obtain rfl:=done_unique hk hK
  rw [hx] at h
  exact ⟨m,h⟩
theorem least_lit {f : FstD} (hd : DIn f f 2 0) (hk : DoneK f 2 2) (hx : detX f 2 2 = sameG) (hm : ¬ ManyD f 0) (hs : ¬ 12 < f.states) (fin arcs : Value) (W : World) (hf : ISlice W fin f.final) (ha : ASlice W arcs f.arcs) : Calls Try.prog 18 #[.agg #[.int .i64 f.states,.int .i64 f.start,fin,arcs]] W fun e w' => LstRes sameG 2 W e w':=by
 obtain ⟨m,h⟩:=det_lit hd hk hx hm
 exact least_ok f sameG 2 m fin arcs W hf ha hd.hc hs sameG_xin sameG_fine (fun W h1 h2 => h fin arcs W h1 h2)
theorem numLets_skip {k : List Int} {n : Nat} {S : List Nat × List ArcD} (a : Nat) : ∀ d,(∀ j,a <= j -> j < a + d -> gI k (1 + j * 2) = -1) -> numLets k n S (a + d) = numLets k n S a
 | 0,_ => rfl
 | d + 1,h => by
  show numStep k n (numLets k n S (a + d)) (a + d) = _
  rw [numLets_skip a d (fun j h1 h2 => h j h1 (by omega))]
  unfold numStep
  rw [if_pos (h (a + d) (by omega) (by omega))]
theorem out_lit {o : FstD} (h : OutP sameG 2 o) : o = sameG:=by
 obtain ⟨cl,n,m,C,κ,hc,hT,hr,rfl⟩:=h
 have w0 : WdR sameG 0 [] 0 0:=⟨rfl,rfl⟩
 have w1 : WdR sameG 0 [1] 1 6:=⟨⟨0,1,1,1,6⟩,by simp [sameG],0,0,⟨rfl,rfl⟩,rfl,rfl,rfl,rfl⟩
 have k0:=hT.at sameG_xin w0
 have k1:=hT.at sameG_xin w1
 have c0:=hT.c _ _ _ w0
 have c1:=hT.c _ _ _ w1
 have hne : C [1] ≠ C []:=by
  intro e
  have h2 : gI cl 0 = gI cl 1:=by rw [<- c0,<- c1,e]
  have h3:=hc.same 0 1 (by decide) (by decide) h2
  have h4 : gI (kindL sameG.arcs sameG.final cl 0) 0 = gI (kindL sameG.arcs sameG.final cl 1) 0:=by rw [h3]
  rw [kind_end,kind_end] at h4
  exact absurd h4 (by decide)
 have a0 : gI (κ (C [])) (1 + 0 * 2) = (C [1] : Int) /\ gI (κ (C [])) (1 + 0 * 2 + 1) = 6:=by
  rw [k0,kind_to _ _ _ 0 0 (by decide),kind_co _ _ _ 0 0 (by decide),c1]
  exact ⟨rfl,rfl⟩
 have f0 : gI (κ (C [])) 0 = -1:=by rw [k0,kind_end]; rfl
 have f1 : gI (κ (C [1])) 0 = 0:=by rw [k1,kind_end]; rfl
 have s0 : ∀ j,1 <= j -> j < 1 + 8 -> gI (κ (C [])) (1 + j * 2) = -1:=fun j h1 h2 => by
  rw [k0,kind_to _ _ _ _ _ (by omega)]
  unfold leapTo
  rw [(last_none sameG_xin.ord).2 ?_]
  intro a ha
  obtain rfl : a = ⟨0,1,1,1,6⟩:=by simpa [sameG] using ha
  dsimp only
  omega
 have s1 : ∀ j,0 <= j -> j < 0 + 9 -> gI (κ (C [1])) (1 + j * 2) = -1:=fun j h1 h2 => by
  rw [k1,kind_to _ _ _ _ _ (by omega)]
  unfold leapTo
  rw [(last_none sameG_xin.ord).2 ?_]
  intro a ha
  obtain rfl : a = ⟨0,1,1,1,6⟩:=by simpa [sameG] using ha
  dsimp only
  omega
 have l1 : numLets (κ (C [])) 0 ([C []],[]) 9 = ([C [],C [1]],[⟨0,1,1,1,6⟩]):=by
  rw [show 9 = 1 + 8 from rfl,numLets_skip 1 8 s0]
  show numStep (κ (C [])) 0 ([C []],[]) 0 = _
  unfold numStep
  rw [if_neg (by rw [a0.1]; omega),a0.1,a0.2]
  dsimp only
  rw [Int.toNat_natCast,if_neg (by simpa using hne)]
  have : ([C []] ++ [C [1]]).idxOf (C [1]) = 1:=by
   rw [List.idxOf_append,if_neg (by simpa using hne)]
   simp
  rw [this]
  rfl
 have n1 : numN κ (C []) 1 = ([C [],C [1]],[-1],[⟨0,1,1,1,6⟩]):=by
  show ((numLets (κ (C [])) 0 ([C []],[]) 9).1,[] ++ [gI (κ (C [])) 0],(numLets (κ (C [])) 0 ([C []],[]) 9).2) = _
  rw [l1,f0]
  rfl
 have n2 : numN κ (C []) 2 = ([C [],C [1]],[-1,0],[⟨0,1,1,1,6⟩]):=by
  show ((numLets (κ ((numN κ (C []) 1).1.getD 1 0)) 1 ((numN κ (C []) 1).1,(numN κ (C []) 1).2.2) 9).1,(numN κ (C []) 1).2.1 ++ [gI (κ ((numN κ (C []) 1).1.getD 1 0)) 0],(numLets (κ ((numN κ (C []) 1).1.getD 1 0)) 1 ((numN κ (C []) 1).1,(numN κ (C []) 1).2.2) 9).2) = _
  rw [n1]
  dsimp only
  rw [show ([C [],C [1]] : List Nat).getD 1 0 = C [1] from rfl,show 9 = 0 + 9 from rfl,numLets_skip 0 9 s1,f1]
  rfl
 have hm : m = 2:=by
  have d:=hr.done
  by_cases e0 : m = 0
  ·subst e0; cases d
  ·by_cases e1 : m = 1
   ·subst e1; rw [n1] at d; cases d
   ·by_cases e2 : m = 2
    ·exact e2
    ·have:=hr.all 2 (by omega)
     rw [n2] at this
     simp at this
 subst hm
 rw [n2]
 rfl
end Go.Proofs.Yteehgcbjmdideab
/- 'Determine' of package determine,at one transducer: what it calls. -/
namespace Go.Proofs.Yteehgcbjmdideab
open Go.RowKit
attribute [local go_sem ↓] Go.wp_at_zero Go.wp_at_succ
section
variable (fin arcs : Value) (W : World) (hf : ISlice W fin sameF.final) (ha : ASlice W arcs sameF.arcs)
include hf ha
end
end Go.Proofs.Yteehgcbjmdideab
/- 'Determine' of package determine,at one transducer: the walk. -/
namespace Go.Proofs.Yteehgcbjmdideab
open Go.RowKit
attribute [local go_sem ↓] Go.wp_at_zero Go.wp_at_succ
theorem far4I {w : World} {X fb fo n : Nat} {xs : List Int} (h : IntsAt w fb fo n xs) (hne : fb ≠ X) (u0 u1 u2 u3 : Value) : IntsAt ((((w.setCell ⟨X,0,none⟩ u0).setCell ⟨X,1,none⟩ u1).setCell ⟨X,2,none⟩ u2).setCell ⟨X,3,none⟩ u3) fb fo n xs :=
 ⟨h.len,fun i hi => (far4 hne _ _ _ _).trans (h.cell i hi)⟩
theorem far4A {w : World} {X fb fo n : Nat} {xs : List ArcD} (h : ArcsAt w fb fo n xs) (hne : fb ≠ X) (u0 u1 u2 u3 : Value) : ArcsAt ((((w.setCell ⟨X,0,none⟩ u0).setCell ⟨X,1,none⟩ u1).setCell ⟨X,2,none⟩ u2).setCell ⟨X,3,none⟩ u3) fb fo n xs :=
 ⟨h.len,fun i hi => (far4 hne _ _ _ _).trans (h.c0 i hi),fun i hi => (far4 hne _ _ _ _).trans (h.c1 i hi),fun i hi => (far4 hne _ _ _ _).trans (h.c2 i hi),fun i hi => (far4 hne _ _ _ _).trans (h.c3 i hi),fun i hi => (far4 hne _ _ _ _).trans (h.c4 i hi)⟩
end Go.Proofs.Yteehgcbjmdideab
/- The law 'DetermineTells',from what determineBegun answers. (Made by wip/gen/dth.py.) -/
namespace Go.Proofs.Yteehgcbjmdideab
open Go.RowKit
attribute [local go_sem ↓] Go.wp_at_zero Go.wp_at_succ
end Go.Proofs.Yteehgcbjmdideab
/- determineBegun: its numbers. -/
namespace Go.Proofs.Yteehgcbjmdideab
open Go.RowKit
attribute [local go_sem ↓] Go.wp_at_zero Go.wp_at_succ
set_option maxHeartbeats 1000000 in
theorem same_any (w : World) : Calls Try.prog 39 #[] w fun e w' => ∃ N M,e = .returned (.agg #[.int .i64 2,.int .i64 0,.slice (some ⟨N,0,none⟩) 2 2,.slice (some ⟨M,0,none⟩) 1 1]) /\ ISlice w' (.slice (some ⟨N,0,none⟩) 2 2) sameF.final /\ ASlice w' (.slice (some ⟨M,0,none⟩) 1 1) sameF.arcs /\ Below w.heap.size w w':=by
 go_enter Try.func39,Try.ntmps39
 go_wp2_with (go_at_call 42; refine (one_any _).mono ?_; rintro e w1 ⟨rfl,hf1,ha1,hb1⟩; have hz1 : ZBlock w1 w.heap.size:=(heap_bel hb1 (heap_alloc_new w _)); have hbu:=bel_up (bel_up (bel_self w1) (.cells #[.int .i64 2,.int .i64 0,.slice (some ⟨w.heap.size + 1 + 1,0,none⟩) 2 2,.slice (some ⟨w1.heap.size + 1,0,none⟩) 1 1] 25)) (.cells #[.int .i64 0,.int .i64 1,.int .i64 1,.int .i64 1,.int .i64 5] 54); have hz2:=heap_bel hbu hz1; obtain ⟨z0,z1,z2,z3,y0,y1,y2,y3⟩:=zfacts hz2; obtain ⟨r0,r1,r2,r3⟩:=set4_cells z0 z1 z2 z3 2 0 (.slice (some ⟨w.heap.size + 1 + 1,0,none⟩) 2 2) (.slice (some ⟨w1.heap.size + 1,0,none⟩) 1 1); rw [one_size] at hf1)
 obtain ⟨S,hS⟩ : ∃ S,S = ((((((w1.alloc (.cells #[.int .i64 2,.int .i64 0,.slice (some ⟨w.heap.size + 1 + 1,0,none⟩) 2 2,.slice (some ⟨w1.heap.size + 1,0,none⟩) 1 1] 25)).alloc (.cells #[.int .i64 0,.int .i64 1,.int .i64 1,.int .i64 1,.int .i64 5] 54)).setCell ⟨w.heap.size,0,none⟩ (.int .i64 2)).setCell ⟨w.heap.size,1,none⟩ (.int .i64 0)).setCell ⟨w.heap.size,2,none⟩ (.slice (some ⟨w.heap.size + 1 + 1,0,none⟩) 2 2)).setCell ⟨w.heap.size,3,none⟩ (.slice (some ⟨w1.heap.size + 1,0,none⟩) 1 1)):=⟨_,rfl⟩
 have r:=World.ownsRow_lit (base:=0) (e:=54) (size:=5) (w1.alloc (.cells #[.int .i64 2,.int .i64 0,.slice (some ⟨w.heap.size + 1 + 1,0,none⟩) 2 2,.slice (some ⟨w1.heap.size + 1,0,none⟩) 1 1] 25)) #[.int .i64 0,.int .i64 1,.int .i64 1,.int .i64 1,.int .i64 5] 1 (Nat.zero_le _) (by decide) rfl
 rw [one_size] at r
 have hA:=ownsRow_arcs (ars:=sameF.arcs) r
 obtain ⟨b1,o1,e1,hx⟩:=hf1.some (by omega)
 obtain ⟨b2,o2,e2,hy⟩:=hA.some (by omega)
 injection e1 with e1
 injection e2 with e2
 injection e1 with e1 e3
 injection e2 with e2 e4
 subst e1 e2 e3 e4
 have hzl:=heap_lt hz1
 have hx2:=far4I (hx.below hbu) (X:=w.heap.size) (by omega) (.int .i64 2) (.int .i64 0) (.slice (some ⟨w.heap.size + 1 + 1,0,none⟩) 2 2) (.slice (some ⟨w1.heap.size + 1,0,none⟩) 1 1)
 have hy2:=far4A hy (X:=w.heap.size) (by omega) (.int .i64 2) (.int .i64 0) (.slice (some ⟨w.heap.size + 1 + 1,0,none⟩) 2 2) (.slice (some ⟨w1.heap.size + 1,0,none⟩) 1 1)
 have hbW:=bel_set4 (bel_on (bel_on (bel_up (bel_self w) _) hb1) hbu) (Nat.le_refl _) (.int .i64 2) (.int .i64 0) (.slice (some ⟨w.heap.size + 1 + 1,0,none⟩) 2 2) (.slice (some ⟨w1.heap.size + 1,0,none⟩) 1 1)
 rw [<- hS] at hx2 hy2 hbW r0 r1 r2 r3
 rw [<- hS]
 clear hS
 exact bodyPost_ret (v:=.agg #[.int .i64 2,.int .i64 0,.slice (some ⟨w.heap.size + 1 + 1,0,none⟩) 2 2,.slice (some ⟨w1.heap.size + 1,0,none⟩) 1 1]) (by simp [results,Try.results39,go_sem,r0,r1,r2,r3]) rfl ⟨_,_,rfl,Or.inr ⟨_,_,_,_,rfl,hx2,by decide⟩,Or.inr ⟨_,_,_,_,rfl,hy2,by decide⟩,hbW⟩
end Go.Proofs.Yteehgcbjmdideab
/- 'leastBegun' of the statements. (Made by wip/gen/lkb.py.) -/
namespace Go.Proofs.Yteehgcbjmdideab
open Go.RowKit
attribute [local go_sem ↓] Go.wp_at_zero Go.wp_at_succ
theorem least_F (fin arcs : Value) (W : World) (hf : ISlice W fin sameF.final) (ha : ASlice W arcs sameF.arcs) : Calls Try.prog 18 #[.agg #[.int .i64 2,.int .i64 0,fin,arcs]] W fun e w' => LstRes sameG 2 W e w':=least_lit same_din same_done detX_F one_few (by decide) fin arcs W hf ha
theorem least_G (fin arcs : Value) (W : World) (hf : ISlice W fin sameG.final) (ha : ASlice W arcs sameG.arcs) : Calls Try.prog 18 #[.agg #[.int .i64 2,.int .i64 0,fin,arcs]] W fun e w' => LstRes sameG 2 W e w':=least_lit sameG_din sameG_done detX_G one_few (by decide) fin arcs W hf ha
theorem Same_lit (fin arcs fin' arcs' : Value) (w : World) (hf : ISlice w fin sameF.final) (ha : ASlice w arcs sameF.arcs) (hf' : ISlice w fin' sameG.final) (ha' : ASlice w arcs' sameG.arcs) : Calls Try.prog 23 #[.agg #[.int .i64 2,.int .i64 0,fin,arcs],.agg #[.int .i64 2,.int .i64 0,fin',arcs']] w fun e w' => e = .returned (.tuple #[.bool true,.int .i64 0]) /\ Below w.heap.size w w':=by
 refine (Same_both sameF sameG sameG sameG 2 2 fin arcs fin' arcs' w hf ha hf' ha' (fun W h1 h2 => least_F _ _ W h1 h2) (fun W h1 h2 => least_G _ _ W h1 h2)).mono ?_
 rintro e w' ⟨o,q,ho,hq,rfl,hb⟩
 obtain rfl:=out_lit ho
 obtain rfl:=out_lit hq
 exact ⟨rfl,hb⟩
set_option maxHeartbeats 1600000 in
theorem leastBegun_any (w : World) : Calls Try.prog 21 #[] w fun e w' => e = .returned (.bool true) /\ Below w.heap.size w w':=by
 go_enter Try.func21,Try.ntmps21
 go_upto_region 2 with (first | (go_at_call 39; refine (same_any _).mono ?_; rintro e w1 ⟨N1,M1,rfl,hf1,ha1,hb1⟩; have hle:=least_F _ _ w1 hf1 ha1; clear hf1 ha1) | (go_at_call 18; refine hle.mono ?_; rintro e w2 ⟨k,ga,gn,gc,ba,bn,bc,rfl,hP,hb2⟩; clear hle))
 obtain ⟨o,ho,rfl,hos,hoI,hoA⟩:=hP.out
 obtain rfl:=out_lit ho
 obtain ⟨Wb,hWb⟩ : ∃ W,W = w2.alloc (.cells #[.int .i64 2,.int .i64 0,.slice ga gn gc,.slice ba bn bc] 25):=⟨_,rfl⟩
 have hbb : Below w2.heap.size w2 Wb:=by rw [hWb]; exact bel_up (bel_self _) _
 have hcB : CellsF Wb w2.heap.size 2 0 (.slice ga gn gc) (.slice ba bn bc):=by rw [hWb]; exact cellsF_new _ _ _ _ _ _
 have hI:=hoI.below hbb
 have hA:=hoA.below hbb
 show Code.wp _ _ _ _ (w2.alloc (.cells #[.int .i64 2,.int .i64 0,.slice ga gn gc,.slice ba bn bc] 25))
 rw [<- hWb]
 have HB:=hid_of (bel_on hb1 (bel_on hb2 hbb))
 clear hWb hbb hb1 hb2 hP ho hos hoI hoA
 obtain ⟨Wd,hWd⟩ : ∃ W,W = Wb.drew:=⟨_,rfl⟩
 have hbd : Below Wb.heap.size Wb Wd:=by rw [hWd]; exact (bel_self Wb).drew
 have hS0 : (fun wx : World => CellsF wx w2.heap.size 2 0 (.slice ga gn gc) (.slice ba bn bc)) Wd:=hcB.below hbd
 have HWD:=hid_of hWd
 clear hWd
 refine wp_region_noPanic ?_
 refine wp_region_U (fun wx : World => CellsF wx w2.heap.size 2 0 (.slice ga gn gc) (.slice ba bn bc)) 7 (by kernel_rfl) (by rw [<- HWD.out]; exact hS0) (fun _ => ?_)
 rw [<- HWD.out]
 clear HWD
 refine tkU (i:=1) (v:=.agg #[.int .i64 2,.int .i64 0,.slice ga gn gc,.slice ba bn bc]) rfl (by kernel_rfl) (fun _ _ _ h => h) (by rfl) hS0 (fun wl hSw => ?_) ?_
 ·(try dsimp only at hSw); obtain ⟨o0,o1,o2,o3⟩:=hSw; go_simp
 go_simp
 refine wpAnyU_one (i:=0) rfl (by kernel_rfl) (fun Kc hKc => ?_)
 go_simp
 refine (same_any Wd).mono ?_
 rintro e w3 ⟨N3,M3,rfl,hf3,ha3,hb3⟩
 have hbd3:=bel_on hbd hb3
 have hsm:=Same_lit _ _ _ _ w3 hf3 ha3 (hI.below hbd3) (hA.below hbd3)
 refine hKc.out _ _ ⟨fun _ => CellsF.below hcB hbd3,?_⟩
 clear hKc Kc hf3 ha3
 go_simp
 refine wpAnyU_one (i:=2) rfl (by kernel_rfl) (fun Kc hKc => ?_)
 go_simp
 refine hsm.mono ?_
 rintro e w4 ⟨rfl,hb4⟩
 have hb34:=bel_on hbd3 hb4
 have hS4 : (fun wx : World => CellsF wx w2.heap.size 2 0 (.slice ga gn gc) (.slice ba bn bc)) w4:=hcB.below hb34
 refine hKc.out _ _ ⟨fun _ => hS4,?_⟩
 clear hKc Kc hsm
 go_simp
 refine tkU (i:=3) (v:=.tuple #[.bool true,.int .i64 0]) rfl (by kernel_rfl) (fun _ _ _ h => h) (by rfl) hS4 (fun wl hSw => ?_) ?_
 ·(try dsimp only at hSw); obtain ⟨o0,o1,o2,o3⟩:=hSw; go_simp
 go_simp
 refine tkU (i:=4) (v:=.bool true) rfl (by kernel_rfl) (fun _ _ _ h => h) (by rfl) hS4 (fun wl hSw => ?_) ?_
 ·(try dsimp only at hSw); obtain ⟨o0,o1,o2,o3⟩:=hSw; go_simp
 go_simp
 refine tkU (i:=5) (v:=.int .i64 0) rfl (by kernel_rfl) (fun _ _ _ h => h) (by rfl) hS4 (fun wl hSw => ?_) ?_
 ·(try dsimp only at hSw); obtain ⟨o0,o1,o2,o3⟩:=hSw; go_simp
 go_simp
 refine wpAnyU_one (i:=6) rfl (by kernel_rfl) (fun Kc hKc => ?_)
 go_simp
 refine hKc.out _ _ ⟨fun _ => hS4,?_⟩
 clear hKc Kc
 go_simp
 refine wpAnyU_one (i:=7) rfl (by kernel_rfl) (fun Kc hKc => ?_)
 go_simp
 refine hKc.out _ _ ⟨fun h => absurd rfl h,?_⟩
 clear hKc Kc
 refine wpAnyU_done (by kernel_rfl) ?_ _
 refine NoPanic.normal ?_
 have hI4:=hI.below hb34
 have hA4:=hA.below hb34
 have HB4:=hid_of (bel_on HB.out hb34)
 obtain ⟨q0,q1,q2,q3⟩:=id hS4
 obtain ⟨ab,ao,rfl,hx⟩ : ∃ ab ao,ba = some ⟨ab,ao,none⟩ /\ ArcsAt w4 ab ao 1 sameG.arcs /\ bn = 1:=by
  obtain ⟨_,bn',_,e,h1,_⟩:=hA4.lenOf
  injection e with _ e _
  have hbn : bn = 1:=by have : sameG.arcs.length = 1:=rfl; omega
  subst hbn
  obtain ⟨ab,ao,e2,h2⟩:=hA4.some (by omega)
  exact ⟨ab,ao,e2,h2,rfl⟩
 obtain ⟨hx,rfl⟩:=hx
 have hbL : Below w4.heap.size w4 (w4.alloc (.cells #[.int .i64 (-1),.int .i64 0] 3)):=bel_up (bel_self _) _
 have hlit:=World.ownsRow_lit (base:=0) (e:=3) (size:=1) w4 #[.int .i64 (-1),.int .i64 0] 2 (Nat.zero_le _) (by decide) rfl
 have h53:=sameInts_any _ _ sameG.final [-1,0] (w4.alloc (.cells #[.int .i64 (-1),.int .i64 0] 3)) (hI4.below hbL) (ownsRow_ints (xs:=[-1,0]) hlit)
 rw [show decide (sameG.final = [-1,0]) = true from rfl] at h53
 have HC4:=hid_of (And.intro hcB (And.intro hb34 hbL))
 have HX:=hid_of hx
 obtain ⟨q0,q1,q2,q3⟩:=hS4
 clear hI4 hA4 hlit hbL hI hA hcB hbd hbd3 hb3 hb4 hb34 hx
 go_wp2_with (go_at_call 53; refine h53.mono ?_; rintro e w5 ⟨rfl,hb5⟩; clear h53 q0 q1 q2 q3; have hbb5:=bel_on HC4.out.2.2 hb5; obtain ⟨q0,q1,q2,q3⟩:=(HC4.out.1.below HC4.out.2.1).below hbb5; have c4:=(HX.out.below hbb5).c4 0 (by decide); have HB5:=hid_of (bel_on HB4.out hbb5); clear hb5 hbb5)
 go_ret
 exact ⟨rfl,HB5.out⟩
end Go.Proofs.Yteehgcbjmdideab
/- What 'LeastOf' of the document has in memory: the words,the beginnings that speak for a state each,and the best of each. -/
namespace Go.Proofs.Yteehgcbjmdideab
open Go.RowKit
def natsW (l : List Nat) : List Value:=intsW (l.map fun x : Nat => (x : Int))
theorem natsW_snoc (l : List Nat) (x : Nat) : natsW (l ++ [x]) = natsW l ++ [.int .i64 (x : Int)]:=by simp [natsW,intsW]
theorem intsW_snoc (l : List Int) (x : Int) : intsW (l ++ [x]) = intsW l ++ [.int .i64 x]:=by simp [intsW]
structure LS (W0 W : World) (B4 B6 N s0 : Nat) (fin arcs cv pv lv fv bv : Value) (is : List Nat) (bs : List Int) : Prop where
 bel : Below W0.heap.size W0 W
 c4 : ∀ (k : Nat) (v : Value),(#[.int .i64 (N : Int),.int .i64 (s0 : Int),fin,arcs,cv,pv,lv] : Array Value)[k]? = some v -> W.cell? ⟨B4,k,none⟩ = some v
 c6 : W.cell? ⟨B6,0,none⟩ = some fv
 c7 : W.cell? ⟨B6 + 1,0,none⟩ = some bv
 z6 : W.frozen? ⟨B6,0,none⟩ = false
 z7 : W.frozen? ⟨B6 + 1,0,none⟩ = false
 fo : W.ownsRow (B6 + 2) 3 1 fv is.length (natsW is)
 bo : W.ownsRow (B6 + 2) 3 1 bv bs.length (intsW bs)
 fb : ∀ b,fv.ownBlock = some b -> bv.ownBlock ≠ some b
 h4 : W0.heap.size <= B4
 h6 : B4 < B6
structure LStep (B : Nat) (W : World) (fv bv : Value) (W' : World) (fv' bv' : Value) : Prop where
 size : W.heap.size <= W'.heap.size
 block : ∀ b,b < W.heap.size -> b ≠ B -> b ≠ B + 1 -> fv.ownBlock ≠ some b -> bv.ownBlock ≠ some b -> W'.heap[b]? = W.heap[b]?
 ownf : ∀ g,fv'.ownBlock = some g -> fv.ownBlock = some g \/ W.heap.size <= g
 ownb : ∀ g,bv'.ownBlock = some g -> bv.ownBlock = some g \/ W.heap.size <= g
section
variable {W0 W W1 W2 W3 W4 : World} {B4 B6 N s0 : Nat} {fin arcs cv pv lv fv bv fv' bv' : Value} {is : List Nat} {bs : List Int}
theorem LS.below (h : LS W0 W B4 B6 N s0 fin arcs cv pv lv fv bv is bs) (hb : Below W.heap.size W W1) : LS W0 W1 B4 B6 N s0 fin arcs cv pv lv fv bv is bs :=
 ⟨bel_on h.bel hb,fun k v hk => bel_c hb (h.c4 k v hk),bel_c hb h.c6,bel_c hb h.c7,(hb.frozen (p:=⟨B6,0,none⟩) (cell_lt h.c6)).trans h.z6,(hb.frozen (p:=⟨B6 + 1,0,none⟩) (cell_lt h.c7)).trans h.z7,ownsRow_bel h.fo hb,ownsRow_bel h.bo hb,h.fb,h.h4,h.h6⟩
theorem LStep.below (_h : LS W0 W B4 B6 N s0 fin arcs cv pv lv fv bv is bs) (hb : Below W.heap.size W W1) : LStep B6 W fv bv W1 fv bv :=
 ⟨hb.size,fun b hl _ _ _ _ => hb.block b hl,fun _ e => Or.inl e,fun _ e => Or.inl e⟩
theorem LS.mid (h : LS W0 W B4 B6 N s0 fin arcs cv pv lv fv bv is bs) (hb : Below W.heap.size W W1) (hg : W1.grownBy W2 fv.ownBlock) (hb2 : Below W2.heap.size W2 W3) : W3.ownsRow (B6 + 2) 3 1 bv bs.length (intsW bs):=by
 have h1:=h.below hb
 exact ownsRow_bel (own_same h1.bo fun b e => hg.block b (ownsRow_lt0 h1.bo b e) (fun e2 => h1.fb b e2.symm e)) hb2
theorem LS.put (h : LS W0 W B4 B6 N s0 fin arcs cv pv lv fv bv is bs) (hb : Below W.heap.size W W1) {i : Nat} {x : Int} (hg : W1.grownBy W2 fv.ownBlock) (hf : W2.ownsRow (B6 + 2) 3 1 fv' (is.length + 1) (natsW is ++ [.int .i64 (i : Int)])) (hfv : fv'.ownBlock = fv.ownBlock \/ fv'.ownBlock = some W1.heap.size) (hb2 : Below W2.heap.size W2 W3) (hg2 : W3.grownBy W4 bv.ownBlock) (hbo : W4.ownsRow (B6 + 2) 3 1 bv' (bs.length + 1) (intsW bs ++ [.int .i64 x])) (hbv : bv'.ownBlock = bv.ownBlock \/ bv'.ownBlock = some W3.heap.size) :
  LS W0 ((W4.setCell ⟨B6,0,none⟩ fv').setCell ⟨B6 + 1,0,none⟩ bv') B4 B6 N s0 fin arcs cv pv lv fv' bv' (is ++ [i]) (bs ++ [x]) /\ LStep B6 W fv bv ((W4.setCell ⟨B6,0,none⟩ fv').setCell ⟨B6 + 1,0,none⟩ bv') fv' bv' /\ W4.cell? ⟨B6,0,none⟩ = some fv /\ W4.frozen? ⟨B6,0,none⟩ = false /\ W4.cell? ⟨B6 + 1,0,none⟩ = some bv /\ W4.frozen? ⟨B6 + 1,0,none⟩ = false:=by
 have h1:=h.below hb
 have a4:=h.h4
 have a6:=h.h6
 have hs:=h.bel.size
 have s1:=hb.size
 have s2:=hg.size
 have s3:=hb2.size
 have s4:=hg2.size
 have hlf : ∀ b,fv.ownBlock = some b -> B6 + 2 <= b:=fun b e => own_base h.fo b e
 have hlb : ∀ b,bv.ownBlock = some b -> B6 + 2 <= b:=fun b e => own_base h.bo b e
 have l6:=cell_lt h.c6
 have l7:=cell_lt h.c7
 -- a block that is none of both rows
 have bk : ∀ b,b < W.heap.size -> fv.ownBlock ≠ some b -> bv.ownBlock ≠ some b -> W4.heap[b]? = W.heap[b]?:=fun b hl e1 e2 =>
  ((hg2.block b (by omega) (fun e => e2 e.symm)).trans (hb2.block b (by omega))).trans ((hg.block b (by omega) (fun e => e1 e.symm)).trans (hb.block b hl))
 have lowf : ∀ b,b < B6 + 2 -> fv.ownBlock ≠ some b:=fun b hl e => by have:=hlf b e; omega
 have lowb : ∀ b,b < B6 + 2 -> bv.ownBlock ≠ some b:=fun b hl e => by have:=hlb b e; omega
 have b6:=bk B6 (by omega) (lowf _ (by omega)) (lowb _ (by omega))
 have b7:=bk (B6 + 1) (by omega) (lowf _ (by omega)) (lowb _ (by omega))
 have k6:=cells_same b6 h.c6
 have k7:=cells_same b7 h.c7
 have y6:=frz_block b6 h.z6
 have y7:=frz_block b7 h.z7
 have nf : ∀ b,b < B6 + 2 -> fv'.ownBlock ≠ some b:=fun b hl e => by have:=own_base hf b e; omega
 have nb : ∀ b,b < B6 + 2 -> bv'.ownBlock ≠ some b:=fun b hl e => by have:=own_base hbo b e; omega
 have hf4 : W4.ownsRow (B6 + 2) 3 1 fv' (is.length + 1) (natsW is ++ [.int .i64 (i : Int)]):=by
  have hf3:=ownsRow_bel hf hb2
  refine own_same hf3 fun b e => hg2.block b (ownsRow_lt0 hf3 b e) fun e2 => ?_
  rcases hfv with e3 | e3
  ·rw [e3] at e; exact h.fb b e e2.symm
  ·rw [e3] at e
   injection e with e
   have:=ownsRow_lt0 h1.bo b e2.symm
   omega
 have hfb' : ∀ b,fv'.ownBlock = some b -> bv'.ownBlock ≠ some b:=fun b e e2 => by
  have hl3:=ownsRow_lt0 (ownsRow_bel hf hb2) b e
  rcases hbv with e3 | e3
  ·rw [e3] at e2
   rcases hfv with e4 | e4
   ·rw [e4] at e; exact h.fb b e e2
   ·rw [e4] at e
    injection e with e
    have:=ownsRow_lt0 h1.bo b e2
    omega
  ·rw [e3] at e2
   injection e2 with e2
   omega
 have e1 : (is ++ [i]).length = is.length + 1:=by simp
 have e2 : (bs ++ [x]).length = bs.length + 1:=by simp
 refine ⟨⟨?_,fun k v hk => ?_,?_,?_,?_,?_,?_,?_,hfb',a4,a6⟩,⟨?_,fun b hl n6 n7 n1 n2 => ?_,fun g e => ?_,fun g e => ?_⟩,k6,y6,k7,y7⟩
 ·have:=((h.bel.trans (hb.mono hs)).grown hg (by omega) (fun b e => by have:=hlf b e; omega)).trans (hb2.mono (by omega))
  exact ((this.grown hg2 (by omega) (fun b e => by have:=hlb b e; omega)).setCell (p:=⟨B6,0,none⟩) (by show W0.heap.size <= B6; omega) _).setCell (p:=⟨B6 + 1,0,none⟩) (by show W0.heap.size <= B6 + 1; omega) _
 ·rw [set_far (by omega),set_far (by omega)]
  have b4:=bk B4 (by omega) (lowf _ (by omega)) (lowb _ (by omega))
  exact cells_same b4 (h.c4 k v hk)
 ·rw [set_far (by omega)]
  exact World.cell?_setCell_same _ _ _ k6
 ·exact World.cell?_setCell_same _ _ _ ((set_far (by omega)).trans k7)
 ·rw [World.frozen?_setCell,World.frozen?_setCell]; exact y6
 ·rw [World.frozen?_setCell,World.frozen?_setCell]; exact y7
 ·rw [e1,natsW_snoc]
  exact ownsRow_setCell_far (ownsRow_setCell_far hf4 (nf _ (by omega))) (nf _ (by omega))
 ·rw [e2,intsW_snoc]
  exact ownsRow_setCell_far (ownsRow_setCell_far hbo (nb _ (by omega))) (nb _ (by omega))
 ·have : ∀ (V : World) (p : Addr) (u : Value),(V.setCell p u).heap.size = V.heap.size:=fun V p u => by simp [World.setCell]
  rw [this,this]
  omega
 ·rw [Below.heap_setCell _ ⟨B6 + 1,0,none⟩ _ b n7,Below.heap_setCell _ ⟨B6,0,none⟩ _ b n6]
  exact bk b hl n1 n2
 ·rcases hfv with e3 | e3
  ·rw [e3] at e; exact Or.inl e
  ·rw [e3] at e
   injection e with e
   right; omega
 ·rcases hbv with e3 | e3
  ·rw [e3] at e; exact Or.inl e
  ·rw [e3] at e
   injection e with e
   right; omega
theorem LS.wv (h : LS W0 W B4 B6 N s0 fin arcs cv pv lv fv bv is bs) {t : FstD} {cs : List (List Int)} {ps ls : List Int} (hw : WV W0 t N fin arcs cv pv lv cs ps ls) : WV W t N fin arcs cv pv lv cs ps ls:=hw.below h.bel
end
structure FBs (t : FstD) (s0 : Nat) (ws : List (List Int)) (C : List Int -> Nat) (is : List Nat) (bs : List Int) (fw : List (List Int)) : Prop where
 l1 : bs.length = is.length
 l2 : fw.length = is.length
 at' : ∀ (j i : Nat),is[j]? = some i -> ∃ u b,ws[i]? = some u /\ fw[j]? = some u /\ bs[j]? = some b /\ MinP (ToW t s0 u) b
 nd : (fw.map C).Nodup
section
variable {t : FstD} {s0 : Nat} {ws fw : List (List Int)} {C : List Int -> Nat} {is : List Nat} {bs : List Int}
theorem FBs.put (h : FBs t s0 ws C is bs fw) {i : Nat} {u : List Int} {b : Int} (hu : ws[i]? = some u) (hb : MinP (ToW t s0 u) b) (hn : C u ∉ fw.map C) : FBs t s0 ws C (is ++ [i]) (bs ++ [b]) (fw ++ [u]):=by
 have l1:=h.l1
 have l2:=h.l2
 refine ⟨by simp [l1],by simp [l2],fun j k hk => ?_,?_⟩
 ·by_cases e : j < is.length
  ·rw [List.getElem?_append_left e] at hk
   obtain ⟨v,d,h1,h2,h3,h4⟩:=h.at' j k hk
   exact ⟨v,d,h1,by rw [List.getElem?_append_left (by omega)]; exact h2,by rw [List.getElem?_append_left (by omega)]; exact h3,h4⟩
  ·have hl:=(List.getElem?_eq_some_iff.1 hk).1
   rw [List.length_append,List.length_singleton] at hl
   obtain rfl : j = is.length:=by omega
   rw [List.getElem?_concat_length] at hk
   injection hk with hk
   subst hk
   refine ⟨u,b,hu,?_,?_,hb⟩
   ·rw [<- l2]; exact List.getElem?_concat_length
   ·rw [<- l1]; exact List.getElem?_concat_length
 ·rw [List.map_append]
  exact List.nodup_append.2 ⟨h.nd,by simp,fun a ha b hb e => hn (by
   have : b = C u:=by simpa using hb
   rw [<- this,<- e]
   exact ha)⟩
end
end Go.Proofs.Yteehgcbjmdideab
