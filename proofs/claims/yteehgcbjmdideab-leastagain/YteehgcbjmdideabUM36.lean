/- determineBegun: its numbers. -/
import Derived.Test.YteehgcbjmdideabUM35
import Derived.Test.YteehgcbjmdideabUM12
import Derived.Test.YteehgcbjmdideabUM29
import Derived.Test.YteehgcbjmdideabUM15
import Derived.Test.YteehgcbjmdideabUM32
import Derived.Test.YteehgcbjmdideabUM02
set_option maxRecDepth 100000
namespace Go.Proofs.Yteehgcbjmdideab
open Go.RowKit
attribute [local go_sem ↓] Go.wp_at_zero Go.wp_at_succ
def roundF : FstD:=⟨2,0,[-1,1],[⟨0,1,1,0,2⟩,⟨0,1,1,1,5⟩]⟩
theorem roundF_chk : checkD roundF = 0:=by decide
theorem roundF_round : RoundD roundF:=⟨0,by decide,0,by decide,0,by decide,trivial⟩
theorem okW_same {ins outs : List Int} (h1 : ins.length <= 40) (h2 : outs.length <= 40) : OkW sameG ins outs 2 0 where
 n1:=by decide
 n2:=by decide
 s:=by decide
 i40:=h1
 o40:=h2
 many:=by decide
 arcs:=by
  intro a ha
  simp [sameG] at ha
  subst ha
  decide
 sort:=(arcsErr_sorted _ _ _ (check_ok sameG sameG_chk).err).1
 len:=rfl
 fin:=by
  intro x hx
  simp [sameG] at hx
  omega
theorem best_same : IsBest (EdS sameG [1] [1] 2) (bgS 0 (totS [1] [1] 2)) (finS (totS [1] [1] 2) 2 sameG.final) 6:=by
 obtain ⟨h1,h2,_⟩:=relAll_round (E:=EdS sameG [1] [1] 2) (b:=bgS 0 (totS [1] [1] 2)) (EdS sameG [1] [1] 2) (bgS 0 (totS [1] [1] 2)) (fun _ h => h) (fun e he => by have:=(okW_same (ins:=[1]) (outs:=[1]) (by decide) (by decide)).edges e he; rw [bgS_len]; exact ⟨this.1,this.2.1⟩) (ach_start _ _ (bgS_lo _ _))
 have h3:=doc_best (f:=sameG) (ins:=[1]) (outs:=[1]) (N:=2) (s0:=0) (by rw [relAll_len,bgS_len]) h1 h2 (fix_list (by decide))
 exact h3
theorem score_same (fin arcs iv ov : Value) (w : World) (hf : ISlice w fin sameG.final) (ha : ASlice w arcs sameG.arcs) (hI : ISlice w iv [1]) (hO : ISlice w ov [1]) :
  Calls Try.prog 17 #[.agg #[.int .i64 2,.int .i64 0,fin,arcs],iv,ov] w fun e w' => e = .returned (.tuple #[.int .i64 6,.int .i64 0]) /\ Below w.heap.size w w':=by
 refine (score_any sameG [1] [1] _ _ _ _ w hf ha hI hO).mono ?_
 rintro e w' ⟨z,c,rfl,⟨h3,_,h4⟩,hb⟩
 have hc : c = 0:=by
  rw [h3]
  unfold chkS
  rw [if_pos sameG_chk]
  decide
 subst hc
 obtain ⟨N',s',e1,e2,_,hz⟩:=h4 rfl
 have e1' : N' = 2:=by have : (2 : Int) = N':=e1; omega
 have e2' : s' = 0:=by have : (0 : Int) = s':=e2; omega
 subst e1' e2'
 rw [hz.unique best_same]
 exact ⟨rfl,hb⟩
theorem round_lit (fin arcs : Value) (w : World) (hf : ISlice w fin roundF.final) (ha : ASlice w arcs roundF.arcs) :
  Calls Try.prog 40 #[.agg #[.int .i64 2,.int .i64 0,fin,arcs]] w fun e w' => e = .returned (.tuple #[.bool true,.int .i64 0]) /\ Below w.heap.size w w':=by
 refine (round_any roundF _ _ w hf ha).mono ?_
 rintro e w' ⟨b,rfl,hr,hb⟩
 rw [hr.2 ⟨roundF_chk,roundF_round⟩,roundF_chk]
 exact ⟨rfl,hb⟩
theorem is_lit (fin arcs : Value) (w : World) (hf : ISlice w fin roundF.final) (ha : ASlice w arcs roundF.arcs) :
  Calls Try.prog 41 #[.agg #[.int .i64 2,.int .i64 0,fin,arcs]] w fun e w' => e = .returned (.tuple #[.bool false,.int .i64 0]) /\ Below w.heap.size w w':=by
 refine (is_any roundF _ _ w hf ha).mono ?_
 rintro e w' ⟨b,rfl,hr,hb⟩
 rw [roundF_chk]
 cases b with
 | false => exact ⟨rfl,hb⟩
 | true =>
  obtain ⟨_,h⟩:=hr.1 rfl
  exact absurd (h.2.2 0 (by decide)) (by decide)
theorem is_same (fin arcs : Value) (w : World) (hf : ISlice w fin sameG.final) (ha : ASlice w arcs sameG.arcs) :
  Calls Try.prog 41 #[.agg #[.int .i64 2,.int .i64 0,fin,arcs]] w fun e w' => e = .returned (.tuple #[.bool true,.int .i64 0]) /\ Below w.heap.size w w':=by
 refine (is_any sameG _ _ w hf ha).mono ?_
 rintro e w' ⟨b,rfl,hr,hb⟩
 rw [hr.2 ⟨sameG_chk,⟨by decide,by decide,fun k hk => absurd hk (by simp [sameG])⟩⟩,sameG_chk]
 exact ⟨rfl,hb⟩
set_option maxHeartbeats 1000000 in
theorem same_any (w : World) : Calls Try.prog 39 #[] w fun e w' => ∃ N M,e = .returned (.agg #[.int .i64 2,.int .i64 0,.slice (some ⟨N,0,none⟩) 2 2,.slice (some ⟨M,0,none⟩) 1 1]) /\ ISlice w' (.slice (some ⟨N,0,none⟩) 2 2) sameF.final /\ ASlice w' (.slice (some ⟨M,0,none⟩) 1 1) sameF.arcs /\ Below w.heap.size w w':=by
 go_enter Try.func39,Try.ntmps39
 go_wp2_with (go_at_call 42; refine (one_any _).mono ?_; rintro e w1 ⟨rfl,hf1,ha1,hb1⟩; have hz1 : ZBlock w1 w.heap.size:=(heap_bel hb1 (heap_alloc_new w _)); have hbu:=bel_up (bel_up (bel_self w1) (.cells #[.int .i64 2,.int .i64 0,.slice (some ⟨w.heap.size + 1 + 1,0,none⟩) 2 2,.slice (some ⟨w1.heap.size + 1,0,none⟩) 1 1] 25)) (.cells #[.int .i64 0,.int .i64 1,.int .i64 1,.int .i64 1,.int .i64 5] 54); have hz2:=heap_bel hbu hz1; obtain ⟨z0,z1,z2,z3,y0,y1,y2,y3⟩:=zfacts hz2; obtain ⟨r0,r1,r2,r3⟩:=set4_cells z0 z1 z2 z3 2 0 (.slice (some ⟨w.heap.size + 1 + 1,0,none⟩) 2 2) (.slice (some ⟨w1.heap.size + 1,0,none⟩) 1 1); rw [one_size] at hf1)
 obtain ⟨S,hS⟩ : ∃ S,S = ((((((w1.alloc (.cells #[.int .i64 2,.int .i64 0,.slice (some ⟨w.heap.size + 1 + 1,0,none⟩) 2 2,.slice (some ⟨w1.heap.size + 1,0,none⟩) 1 1] 25)).alloc (.cells #[.int .i64 0,.int .i64 1,.int .i64 1,.int .i64 1,.int .i64 5] 54)).setCell ⟨w.heap.size,0,none⟩ (.int .i64 2)).setCell ⟨w.heap.size,1,none⟩ (.int .i64 0)).setCell ⟨w.heap.size,2,none⟩ (.slice (some ⟨w.heap.size + 1 + 1,0,none⟩) 2 2)).setCell ⟨w.heap.size,3,none⟩ (.slice (some ⟨w1.heap.size + 1,0,none⟩) 1 1)):=⟨_,rfl⟩
 have r:=World.ownsRow_lit (base:=0) (e:=54) (size:=5) (w1.alloc (.cells #[.int .i64 2,.int .i64 0,.slice (some ⟨w.heap.size + 1 + 1,0,none⟩) 2 2,.slice (some ⟨w1.heap.size + 1,0,none⟩) 1 1] 25)) #[.int .i64 0,.int .i64 1,.int .i64 1,.int .i64 1,.int .i64 5] 1 (Nat.zero_le _) (by decide) rfl
 rw [one_size] at r
 have hA:=ownsRow_arcs (ars:=sameF.arcs) r
 obtain ⟨b1,o1,e1,hx⟩:=hf1.some (by omega)
 obtain ⟨b2,o2,e2,hy⟩:=hA.some (by omega)
 injection e1 with e1
 injection e2 with e2
 injection e1 with e1 e3
 injection e2 with e2 e4
 subst e1 e2 e3 e4
 have hzl:=heap_lt hz1
 have hx2:=far4I (hx.below hbu) (X:=w.heap.size) (by omega) (.int .i64 2) (.int .i64 0) (.slice (some ⟨w.heap.size + 1 + 1,0,none⟩) 2 2) (.slice (some ⟨w1.heap.size + 1,0,none⟩) 1 1)
 have hy2:=far4A hy (X:=w.heap.size) (by omega) (.int .i64 2) (.int .i64 0) (.slice (some ⟨w.heap.size + 1 + 1,0,none⟩) 2 2) (.slice (some ⟨w1.heap.size + 1,0,none⟩) 1 1)
 have hbW:=bel_set4 (bel_on (bel_on (bel_up (bel_self w) _) hb1) hbu) (Nat.le_refl _) (.int .i64 2) (.int .i64 0) (.slice (some ⟨w.heap.size + 1 + 1,0,none⟩) 2 2) (.slice (some ⟨w1.heap.size + 1,0,none⟩) 1 1)
 rw [<- hS] at hx2 hy2 hbW r0 r1 r2 r3
 rw [<- hS]
 clear hS
 exact bodyPost_ret (v:=.agg #[.int .i64 2,.int .i64 0,.slice (some ⟨w.heap.size + 1 + 1,0,none⟩) 2 2,.slice (some ⟨w1.heap.size + 1,0,none⟩) 1 1]) (by simp [results,Try.results39,go_sem,r0,r1,r2,r3]) rfl ⟨_,_,rfl,Or.inr ⟨_,_,_,_,rfl,hx2,by decide⟩,Or.inr ⟨_,_,_,_,rfl,hy2,by decide⟩,hbW⟩
end Go.Proofs.Yteehgcbjmdideab
/- 'leastBegun' of the statements. (Made by wip/gen/lkb.py.) -/
namespace Go.Proofs.Yteehgcbjmdideab
open Go.RowKit
attribute [local go_sem ↓] Go.wp_at_zero Go.wp_at_succ
theorem least_F (fin arcs : Value) (W : World) (hf : ISlice W fin sameF.final) (ha : ASlice W arcs sameF.arcs) : Calls Try.prog 18 #[.agg #[.int .i64 2,.int .i64 0,fin,arcs]] W fun e w' => LstRes sameG 2 W e w':=least_lit same_din same_done detX_F one_few (by decide) fin arcs W hf ha
theorem least_G (fin arcs : Value) (W : World) (hf : ISlice W fin sameG.final) (ha : ASlice W arcs sameG.arcs) : Calls Try.prog 18 #[.agg #[.int .i64 2,.int .i64 0,fin,arcs]] W fun e w' => LstRes sameG 2 W e w':=least_lit sameG_din sameG_done detX_G one_few (by decide) fin arcs W hf ha
theorem Same_lit (fin arcs fin' arcs' : Value) (w : World) (hf : ISlice w fin sameF.final) (ha : ASlice w arcs sameF.arcs) (hf' : ISlice w fin' sameG.final) (ha' : ASlice w arcs' sameG.arcs) : Calls Try.prog 23 #[.agg #[.int .i64 2,.int .i64 0,fin,arcs],.agg #[.int .i64 2,.int .i64 0,fin',arcs']] w fun e w' => e = .returned (.tuple #[.bool true,.int .i64 0]) /\ Below w.heap.size w w':=by
 refine (Same_both sameF sameG sameG sameG 2 2 fin arcs fin' arcs' w hf ha hf' ha' (fun W h1 h2 => least_F _ _ W h1 h2) (fun W h1 h2 => least_G _ _ W h1 h2)).mono ?_
 rintro e w' ⟨o,q,ho,hq,rfl,hb⟩
 obtain rfl:=out_lit ho
 obtain rfl:=out_lit hq
 exact ⟨rfl,hb⟩
set_option maxHeartbeats 1600000 in
theorem leastBegun_any (w : World) : Calls Try.prog 21 #[] w fun e w' => e = .returned (.bool true) /\ Below w.heap.size w w':=by
 go_enter Try.func21,Try.ntmps21
 go_upto_region 2 with (first | (go_at_call 39; refine (same_any _).mono ?_; rintro e w1 ⟨N1,M1,rfl,hf1,ha1,hb1⟩; have hle:=least_F _ _ w1 hf1 ha1; clear hf1 ha1) | (go_at_call 18; refine hle.mono ?_; rintro e w2 ⟨k,ga,gn,gc,ba,bn,bc,rfl,hP,hb2⟩; clear hle))
 obtain ⟨o,ho,rfl,hos,hoI,hoA⟩:=hP.out
 obtain rfl:=out_lit ho
 obtain ⟨Wb,hWb⟩ : ∃ W,W = w2.alloc (.cells #[.int .i64 2,.int .i64 0,.slice ga gn gc,.slice ba bn bc] 25):=⟨_,rfl⟩
 have hbb : Below w2.heap.size w2 Wb:=by rw [hWb]; exact bel_up (bel_self _) _
 have hcB : CellsF Wb w2.heap.size 2 0 (.slice ga gn gc) (.slice ba bn bc):=by rw [hWb]; exact cellsF_new _ _ _ _ _ _
 have hI:=hoI.below hbb
 have hA:=hoA.below hbb
 show Code.wp _ _ _ _ (w2.alloc (.cells #[.int .i64 2,.int .i64 0,.slice ga gn gc,.slice ba bn bc] 25))
 rw [<- hWb]
 have HB:=hid_of (bel_on hb1 (bel_on hb2 hbb))
 clear hWb hbb hb1 hb2 hP ho hos hoI hoA
 obtain ⟨Wd,hWd⟩ : ∃ W,W = Wb.drew:=⟨_,rfl⟩
 have hbd : Below Wb.heap.size Wb Wd:=by rw [hWd]; exact (bel_self Wb).drew
 have hS0 : (fun wx : World => CellsF wx w2.heap.size 2 0 (.slice ga gn gc) (.slice ba bn bc)) Wd:=hcB.below hbd
 have HWD:=hid_of hWd
 clear hWd
 refine wp_region_noPanic ?_
 refine wp_region_U (fun wx : World => CellsF wx w2.heap.size 2 0 (.slice ga gn gc) (.slice ba bn bc)) 7 (by kernel_rfl) (by rw [<- HWD.out]; exact hS0) (fun _ => ?_)
 rw [<- HWD.out]
 clear HWD
 refine tkU (i:=1) (v:=.agg #[.int .i64 2,.int .i64 0,.slice ga gn gc,.slice ba bn bc]) rfl (by kernel_rfl) (fun _ _ _ h => h) (by rfl) hS0 (fun wl hSw => ?_) ?_
 ·(try dsimp only at hSw); obtain ⟨o0,o1,o2,o3⟩:=hSw; go_simp
 go_simp
 refine wpAnyU_one (i:=0) rfl (by kernel_rfl) (fun Kc hKc => ?_)
 go_simp
 refine (same_any Wd).mono ?_
 rintro e w3 ⟨N3,M3,rfl,hf3,ha3,hb3⟩
 have hbd3:=bel_on hbd hb3
 have hsm:=Same_lit _ _ _ _ w3 hf3 ha3 (hI.below hbd3) (hA.below hbd3)
 refine hKc.out _ _ ⟨fun _ => CellsF.below hcB hbd3,?_⟩
 clear hKc Kc hf3 ha3
 go_simp
 refine wpAnyU_one (i:=2) rfl (by kernel_rfl) (fun Kc hKc => ?_)
 go_simp
 refine hsm.mono ?_
 rintro e w4 ⟨rfl,hb4⟩
 have hb34:=bel_on hbd3 hb4
 have hS4 : (fun wx : World => CellsF wx w2.heap.size 2 0 (.slice ga gn gc) (.slice ba bn bc)) w4:=hcB.below hb34
 refine hKc.out _ _ ⟨fun _ => hS4,?_⟩
 clear hKc Kc hsm
 go_simp
 refine tkU (i:=3) (v:=.tuple #[.bool true,.int .i64 0]) rfl (by kernel_rfl) (fun _ _ _ h => h) (by rfl) hS4 (fun wl hSw => ?_) ?_
 ·(try dsimp only at hSw); obtain ⟨o0,o1,o2,o3⟩:=hSw; go_simp
 go_simp
 refine tkU (i:=4) (v:=.bool true) rfl (by kernel_rfl) (fun _ _ _ h => h) (by rfl) hS4 (fun wl hSw => ?_) ?_
 ·(try dsimp only at hSw); obtain ⟨o0,o1,o2,o3⟩:=hSw; go_simp
 go_simp
 refine tkU (i:=5) (v:=.int .i64 0) rfl (by kernel_rfl) (fun _ _ _ h => h) (by rfl) hS4 (fun wl hSw => ?_) ?_
 ·(try dsimp only at hSw); obtain ⟨o0,o1,o2,o3⟩:=hSw; go_simp
 go_simp
 refine wpAnyU_one (i:=6) rfl (by kernel_rfl) (fun Kc hKc => ?_)
 go_simp
 refine hKc.out _ _ ⟨fun _ => hS4,?_⟩
 clear hKc Kc
 go_simp
 refine wpAnyU_one (i:=7) rfl (by kernel_rfl) (fun Kc hKc => ?_)
 go_simp
 refine hKc.out _ _ ⟨fun h => absurd rfl h,?_⟩
 clear hKc Kc
 refine wpAnyU_done (by kernel_rfl) ?_ _
 refine NoPanic.normal ?_
 have hI4:=hI.below hb34
 have hA4:=hA.below hb34
 have HB4:=hid_of (bel_on HB.out hb34)
 obtain ⟨q0,q1,q2,q3⟩:=id hS4
 obtain ⟨ab,ao,rfl,hx⟩ : ∃ ab ao,ba = some ⟨ab,ao,none⟩ /\ ArcsAt w4 ab ao 1 sameG.arcs /\ bn = 1:=by
  obtain ⟨_,bn',_,e,h1,_⟩:=hA4.lenOf
  injection e with _ e _
  have hbn : bn = 1:=by have : sameG.arcs.length = 1:=rfl; omega
  subst hbn
  obtain ⟨ab,ao,e2,h2⟩:=hA4.some (by omega)
  exact ⟨ab,ao,e2,h2,rfl⟩
 obtain ⟨hx,rfl⟩:=hx
 have hbL : Below w4.heap.size w4 (w4.alloc (.cells #[.int .i64 (-1),.int .i64 0] 3)):=bel_up (bel_self _) _
 have hlit:=World.ownsRow_lit (base:=0) (e:=3) (size:=1) w4 #[.int .i64 (-1),.int .i64 0] 2 (Nat.zero_le _) (by decide) rfl
 have h53:=sameInts_any _ _ sameG.final [-1,0] (w4.alloc (.cells #[.int .i64 (-1),.int .i64 0] 3)) (hI4.below hbL) (ownsRow_ints (xs:=[-1,0]) hlit)
 rw [show decide (sameG.final = [-1,0]) = true from rfl] at h53
 have HC4:=hid_of (And.intro hcB (And.intro hb34 hbL))
 have HX:=hid_of hx
 obtain ⟨q0,q1,q2,q3⟩:=hS4
 clear hI4 hA4 hlit hbL hI hA hcB hbd hbd3 hb3 hb4 hb34 hx
 go_wp2_with (go_at_call 53; refine h53.mono ?_; rintro e w5 ⟨rfl,hb5⟩; clear h53 q0 q1 q2 q3; have hbb5:=bel_on HC4.out.2.2 hb5; obtain ⟨q0,q1,q2,q3⟩:=(HC4.out.1.below HC4.out.2.1).below hbb5; have c4:=(HX.out.below hbb5).c4 0 (by decide); have HB5:=hid_of (bel_on HB4.out hbb5); clear hb5 hbb5)
 go_ret
 exact ⟨rfl,HB5.out⟩
end Go.Proofs.Yteehgcbjmdideab
/- What 'LeastOf' of the document has in memory: the words,the beginnings that speak for a state each,and the best of each. -/
namespace Go.Proofs.Yteehgcbjmdideab
open Go.RowKit
section
variable {W0 W W1 W2 W3 W4 : World} {B4 B6 N s0 : Nat} {fin arcs cv pv lv fv bv fv' bv' : Value} {is : List Nat} {bs : List Int}
end
section
variable {t : FstD} {s0 : Nat} {ws fw : List (List Int)} {C : List Int -> Nat} {is : List Nat} {bs : List Int}
end
end Go.Proofs.Yteehgcbjmdideab
/- Where all words cost the same,the least one is the same. -/
namespace Go.Proofs.Yteehgcbjmdideab
theorem idx_map {α : Type} {C C2 : α -> Nat} {a a2 : Nat} : ∀ fw : List α,(∀ w ∈ fw,C w = a ↔ C2 w = a2) -> (fw.map C).idxOf a = (fw.map C2).idxOf a2 /\ (a ∈ fw.map C ↔ a2 ∈ fw.map C2)
 | [],_ => ⟨rfl,by simp⟩
 | x :: fw,h => by
  obtain ⟨h1,h2⟩:=idx_map fw fun w hw => h w (List.mem_cons_of_mem _ hw)
  have hx:=h x List.mem_cons_self
  rw [List.map_cons,List.map_cons,List.idxOf_cons,List.idxOf_cons,List.mem_cons,List.mem_cons,h2]
  by_cases e : C x = a
  ·have e2:=hx.1 e
   rw [e,e2]
   simp
  ·have e2 : ¬ C2 x = a2:=fun e2 => e (hx.2 e2)
   have b1 : (C x == a) = false:=by simpa using e
   have b2 : (C2 x == a2) = false:=by simpa using e2
   rw [b1,b2,h1]
   refine ⟨rfl,?_⟩
   constructor
   ·rintro (h | h)
    ·exact absurd h.symm e
    ·exact Or.inr h
   ·rintro (h | h)
    ·exact absurd h.symm e2
    ·exact Or.inr h
section
variable {t : FstD} {s0 : Nat} {C : List Int -> Nat} {κ : Nat -> List Int}
theorem DocTab.step (h : DocTab t s0 C κ) {fw : List (List Int)} {rs : List ArcD} {u : List Int} {i j : Nat} {b b' : Int} (hi : i < 9) (ha : Alive t s0 (((i + 1 : Nat) : Int) :: u)) (hb : MinP (ToW t s0 u) b) (hb' : MinP (ToW t s0 (((i + 1 : Nat) : Int) :: u)) b') :
  numStep (κ (C u)) j (fw.map C,rs) i = (if C (((i + 1 : Nat) : Int) :: u) ∈ fw.map C then (fw.map C,rs ++ [⟨(j : Int),((i + 1 : Nat) : Int),((i + 1 : Nat) : Int),((fw.map C).idxOf (C (((i + 1 : Nat) : Int) :: u)) : Int),b' - (if u = [] then 0 else b)⟩]) else ((fw ++ [((i + 1 : Nat) : Int) :: u]).map C,rs ++ [⟨(j : Int),((i + 1 : Nat) : Int),((i + 1 : Nat) : Int),(fw.length : Int),b' - (if u = [] then 0 else b)⟩])):=by
 obtain ⟨h1,h2⟩:=h.yes u i b b' hi ha hb hb'
 unfold numStep
 rw [if_neg (by rw [h1]; omega),h2]
 dsimp only
 rw [h1,Int.toNat_natCast]
 by_cases e : C (((i + 1 : Nat) : Int) :: u) ∈ fw.map C
 ·rw [if_pos e,if_pos e]
 ·rw [if_neg e,if_neg e,List.map_append,List.map_cons,List.map_nil]
  have : (fw.map C ++ [C (((i + 1 : Nat) : Int) :: u)]).idxOf (C (((i + 1 : Nat) : Int) :: u)) = fw.length:=by
   rw [List.idxOf_append,if_neg e,List.length_map]
   simp
  rw [this]
theorem DocTab.skip (h : DocTab t s0 C κ) {S : List Nat × List ArcD} {u : List Int} {i j : Nat} (hi : i < 9) (hu : Alive t s0 u) (ha : ¬ Alive t s0 (((i + 1 : Nat) : Int) :: u)) : numStep (κ (C u)) j S i = S:=by
 unfold numStep
 rw [if_pos (h.no u i hi hu ha)]
end
section
variable {t t2 : FstD} {N N2 s0 s02 : Nat} {C C2 : List Int -> Nat} {κ κ2 : Nat -> List Int}
theorem EndSame.alike (hs : EndSame t s0 t2 s02) (ht : WideA t N) (ht2 : WideA t2 N2) {u u' : List Int} {b b' : Int} : AlikeP t s0 u t s0 u' b b' ↔ AlikeP t2 s02 u t2 s02 u' b b':=by
 constructor
 ·intro hA s p q hp hq
  obtain ⟨p',hp'⟩:=end_exists ht s0 (s ++ u)
  obtain ⟨q',hq'⟩:=end_exists ht s0 (s ++ u')
  have e1:=hs _ _ _ hp' hp
  have e2:=hs _ _ _ hq' hq
  have:=hA s p' q' hp' hq'
  rw [e1,e2] at this
  exact this
 ·intro hA s p q hp hq
  obtain ⟨p',hp'⟩:=end_exists ht2 s02 (s ++ u)
  obtain ⟨q',hq'⟩:=end_exists ht2 s02 (s ++ u')
  have e1:=hs _ _ _ hp hp'
  have e2:=hs _ _ _ hq hq'
  have:=hA s p' q' hp' hq'
  rw [<- e1,<- e2] at this
  exact this
theorem EndSame.alive_all (hs : EndSame t s0 t2 s02) (ht : WideA t N) (ht2 : WideA t2 N2) (hl : LiveW t s0) {u : List Int} (ha : Alive t s0 u) : Alive t2 s02 u:=by
 cases u with
 | nil => exact ⟨s02,0,rfl,rfl⟩
 | cons c u => exact hs.alive ht ht2 hl ha
structure Both (t : FstD) (s0 : Nat) (C C2 : List Int -> Nat) (S S2 : List Nat × List ArcD) (fw : List (List Int)) : Prop where
 alive : ∀ u ∈ fw,Alive t s0 u
 m : S.1 = fw.map C
 m2 : S2.1 = fw.map C2
 r : S.2 = S2.2
theorem both_step (h : DocTab t s0 C κ) (h2 : DocTab t2 s02 C2 κ2) (hs : EndSame t s0 t2 s02) (ht : WideA t N) (ht2 : WideA t2 N2) (hl : LiveW t s0) (hl2 : LiveW t2 s02) {S S2 : List Nat × List ArcD} {fw : List (List Int)} (hB : Both t s0 C C2 S S2 fw) {u : List Int} (hu : Alive t s0 u) {i : Nat} (hi : i < 9) (j : Nat) :
  ∃ l,Both t s0 C C2 (numStep (κ (C u)) j S i) (numStep (κ2 (C2 u)) j S2 i) (fw ++ l):=by
 obtain ⟨M,R⟩:=S
 obtain ⟨M2,R2⟩:=S2
 have e1 : M = fw.map C:=hB.m
 have e2 : M2 = fw.map C2:=hB.m2
 have e3 : R = R2:=hB.r
 subst e1 e2 e3
 have hu2:=hs.alive_all ht ht2 hl hu
 by_cases ha : Alive t s0 (((i + 1 : Nat) : Int) :: u)
 ·have ha2:=hs.alive ht ht2 hl ha
  obtain ⟨b,hb⟩:=tow_exists ht s0 u
  obtain ⟨b',hb'⟩:=tow_exists ht s0 (((i + 1 : Nat) : Int) :: u)
  have hb2:=hs.to ht ht2 hb
  have hb2':=hs.to ht ht2 hb'
  rw [h.step hi ha hb hb',h2.step hi ha2 hb2 hb2']
  obtain ⟨k1,k2⟩:=idx_map (C:=C) (C2:=C2) (a:=C (((i + 1 : Nat) : Int) :: u)) (a2:=C2 (((i + 1 : Nat) : Int) :: u)) fw fun w hw => by
   obtain ⟨d,hd⟩:=tow_exists ht s0 w
   have haw:=hB.alive w hw
   rw [<- h.alike w _ d b' haw ha hd hb',<- h2.alike w _ d b' (hs.alive_all ht ht2 hl haw) ha2 (hs.to ht ht2 hd) hb2']
   exact hs.alike ht ht2
  by_cases e : C (((i + 1 : Nat) : Int) :: u) ∈ fw.map C
  ·rw [if_pos e,if_pos (k2.1 e),k1]
   exact ⟨[],by rw [List.append_nil]; exact ⟨hB.alive,rfl,rfl,rfl⟩⟩
  ·rw [if_neg e,if_neg (fun h => e (k2.2 h))]
   refine ⟨[((i + 1 : Nat) : Int) :: u],fun w hw => ?_,rfl,rfl,rfl⟩
   rcases List.mem_append.1 hw with hw | hw
   ·exact hB.alive w hw
   ·rw [List.mem_singleton.1 hw]; exact ha
 ·have ha2 : ¬ Alive t2 s02 (((i + 1 : Nat) : Int) :: u):=fun h => ha (hs.symm.alive ht2 ht hl2 h)
  rw [h.skip hi hu ha,h2.skip hi hu2 ha2]
  exact ⟨[],by rw [List.append_nil]; exact hB⟩
theorem both_lets (h : DocTab t s0 C κ) (h2 : DocTab t2 s02 C2 κ2) (hs : EndSame t s0 t2 s02) (ht : WideA t N) (ht2 : WideA t2 N2) (hl : LiveW t s0) (hl2 : LiveW t2 s02) {S S2 : List Nat × List ArcD} {fw : List (List Int)} (hB : Both t s0 C C2 S S2 fw) {u : List Int} (hu : Alive t s0 u) (j : Nat) :
  ∀ i,i <= 9 -> ∃ l,Both t s0 C C2 (numLets (κ (C u)) j S i) (numLets (κ2 (C2 u)) j S2 i) (fw ++ l)
 | 0,_ => ⟨[],by rw [List.append_nil]; exact hB⟩
 | i + 1,hi => by
  obtain ⟨l,hl1⟩:=both_lets h h2 hs ht ht2 hl hl2 hB hu j i (by omega)
  obtain ⟨l2,hl3⟩:=both_step h h2 hs ht ht2 hl hl2 hl1 hu (by omega : i < 9) j
  exact ⟨l ++ l2,by rw [<- List.append_assoc]; exact hl3⟩
theorem both_num (h : DocTab t s0 C κ) (h2 : DocTab t2 s02 C2 κ2) (hs : EndSame t s0 t2 s02) (ht : WideA t N) (ht2 : WideA t2 N2) (hl : LiveW t s0) (hl2 : LiveW t2 s02) :
  ∀ j,(∀ i,i < j -> i < (numN κ (C []) i).1.length) -> ∃ fw,Both t s0 C C2 ((numN κ (C []) j).1,(numN κ (C []) j).2.2) ((numN κ2 (C2 []) j).1,(numN κ2 (C2 []) j).2.2) fw /\ (numN κ (C []) j).2.1 = (numN κ2 (C2 []) j).2.1
 | 0,_ => ⟨[[]],⟨fun u hu => by
   rw [List.mem_singleton.1 hu]
   exact ⟨s0,0,rfl,rfl⟩,rfl,rfl,rfl⟩,rfl⟩
 | j + 1,hj => by
  obtain ⟨fw,hB,hf⟩:=both_num h h2 hs ht ht2 hl hl2 j fun i hi => hj i (by omega)
  have hlt:=hj j (by omega)
  have e1 : (numN κ (C []) j).1 = fw.map C:=hB.m
  have e2 : (numN κ2 (C2 []) j).1 = fw.map C2:=hB.m2
  have hfl : j < fw.length:=by rw [e1,List.length_map] at hlt; exact hlt
  have g1 : (numN κ (C []) j).1.getD j 0 = C fw[j]:=by
   rw [e1,List.getD_eq_getElem?_getD,List.getElem?_map,List.getElem?_eq_getElem hfl]; rfl
  have g2 : (numN κ2 (C2 []) j).1.getD j 0 = C2 fw[j]:=by
   rw [e2,List.getD_eq_getElem?_getD,List.getElem?_map,List.getElem?_eq_getElem hfl]; rfl
  have hu:=hB.alive _ (List.getElem_mem hfl)
  obtain ⟨l,hB2⟩:=both_lets h h2 hs ht ht2 hl hl2 hB hu j 9 (Nat.le_refl _)
  refine ⟨fw ++ l,?_,?_⟩
  ·show Both t s0 C C2 (numLets (κ ((numN κ (C []) j).1.getD j 0)) j ((numN κ (C []) j).1,(numN κ (C []) j).2.2) 9) (numLets (κ2 ((numN κ2 (C2 []) j).1.getD j 0)) j ((numN κ2 (C2 []) j).1,(numN κ2 (C2 []) j).2.2) 9) _
   rw [g1,g2]
   exact hB2
  ·show (numN κ (C []) j).2.1 ++ [gI (κ ((numN κ (C []) j).1.getD j 0)) 0] = (numN κ2 (C2 []) j).2.1 ++ [gI (κ2 ((numN κ2 (C2 []) j).1.getD j 0)) 0]
   rw [hf,g1,g2]
   obtain ⟨e,he⟩:=end_exists ht s0 fw[j]
   obtain ⟨e',he'⟩:=end_exists ht2 s02 fw[j]
   obtain ⟨b,hb⟩:=tow_exists ht s0 fw[j]
   have:=hs _ _ _ he he'
   subst this
   rw [h.fin _ e b hu he hb,h2.fin _ e b (hs.alive_all ht ht2 hl hu) he' (hs.to ht ht2 hb)]
theorem least_one (h : DocTab t s0 C κ) (h2 : DocTab t2 s02 C2 κ2) (hs : EndSame t s0 t2 s02) (ht : WideA t N) (ht2 : WideA t2 N2) (hl : LiveW t s0) (hl2 : LiveW t2 s02) {n n2 : Nat} (hr : RunN κ (C []) n) (hr2 : RunN κ2 (C2 []) n2) : n = n2 /\ (numN κ (C []) n).2 = (numN κ2 (C2 []) n2).2:=by
 have key : ∀ {t t2 : FstD} {N N2 s0 s02 : Nat} {C C2 : List Int -> Nat} {κ κ2 : Nat -> List Int},DocTab t s0 C κ -> DocTab t2 s02 C2 κ2 -> EndSame t s0 t2 s02 -> WideA t N -> WideA t2 N2 -> LiveW t s0 -> LiveW t2 s02 -> ∀ {n n2 : Nat},RunN κ (C []) n -> RunN κ2 (C2 []) n2 -> n <= n2 -> n2 <= n /\ (numN κ (C []) n).2 = (numN κ2 (C2 []) n).2:=by
  intro t t2 N N2 s0 s02 C C2 κ κ2 h h2 hs ht ht2 hl hl2 n n2 hr hr2 hle
  obtain ⟨fw,hB,hf⟩:=both_num h h2 hs ht ht2 hl hl2 n hr.all
  have e1 : (numN κ (C []) n).1 = fw.map C:=hB.m
  have e2 : (numN κ2 (C2 []) n).1 = fw.map C2:=hB.m2
  have e3:=hr.done
  rw [e1,List.length_map] at e3
  refine ⟨?_,Prod.ext hf hB.r⟩
  by_cases e : n < n2
  ·have:=hr2.all n e
   rw [e2,List.length_map] at this
   omega
  ·omega
 rcases Nat.le_total n n2 with hle | hle
 ·obtain ⟨h3,h4⟩:=key h h2 hs ht ht2 hl hl2 hr hr2 hle
  obtain rfl : n = n2:=by omega
  exact ⟨rfl,h4⟩
 ·obtain ⟨h3,h4⟩:=key h2 h hs.symm ht2 ht hl2 hl hr2 hr hle
  obtain rfl : n = n2:=by omega
  exact ⟨rfl,h4.symm⟩
end
end Go.Proofs.Yteehgcbjmdideab
/- A region that draws its order: a load for which the fatal ones wait by way of another one; two that may come up. -/
namespace Go.Proofs.Yteehgcbjmdideab
open Go
section
variable {P : Program} {ops : Array Oper} {Q : Exit -> Act -> World -> Prop} {md : Region.Mode} {S : World -> Prop} {fatal : List Nat}
section
variable {i m : Nat} {oi : Oper} {v : Value}
end
theorem wpAnyF_pair {i j : Nat} {oi oj : Oper} {fuel : Nat} {listed : Array Bool} {a : Act} {w : World} (hoi : ops[i]? = some oi) (hoj : ops[j]? = some oj) (hr : Region.ready md ops listed = [i,j])
  (h1 : ∀ K' : Act -> World -> Prop,Shut (∀ a w,((unl fatal (listed.setIfInBounds i true) -> S w) /\ wpAnyF P md ops Q S fatal fuel (listed.setIfInBounds i true) a w) -> K' a w) -> if Region.wanted oi (yielded ops a.tmps) = true then Oper.wp P oi a w K' Q else K' (a.put oi.dst undef) w)
  (h2 : ∀ K' : Act -> World -> Prop,Shut (∀ a w,((unl fatal (listed.setIfInBounds j true) -> S w) /\ wpAnyF P md ops Q S fatal fuel (listed.setIfInBounds j true) a w) -> K' a w) -> if Region.wanted oj (yielded ops a.tmps) = true then Oper.wp P oj a w K' Q else K' (a.put oj.dst undef) w) : wpAnyF P md ops Q S fatal (fuel + 1) listed a w:=by
 refine ⟨fun h0 => (by rw [hr] at h0; cases h0),fun k hk => ?_⟩
 rw [hr] at hk
 rcases List.mem_cons.1 hk with rfl | hk
 ·exact wpOp_step hoi (fun K' hK => h1 K' (fun a w hS => hK a w hS))
 ·have : k = j:=by simpa using hk
  subst this
  exact wpOp_step hoj (fun K' hK => h2 K' (fun a w hS => hK a w hS))
end
end Go.Proofs.Yteehgcbjmdideab
