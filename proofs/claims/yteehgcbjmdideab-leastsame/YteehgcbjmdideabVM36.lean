/- determineBegun: its numbers. -/
import Derived.Test.YteehgcbjmdideabVM35
import Derived.Test.YteehgcbjmdideabVM12
import Derived.Test.YteehgcbjmdideabVM29
import Derived.Test.YteehgcbjmdideabVM15
import Derived.Test.YteehgcbjmdideabVM32
import Derived.Test.YteehgcbjmdideabVM02
set_option maxRecDepth 100000
namespace Go.Proofs.Yteehgcbjmdideab
open Go.RowKit
attribute [local go_sem ↓] Go.wp_at_zero Go.wp_at_succ
set_option maxHeartbeats 1000000 in
theorem same_any (w : World) : Calls Try.prog 39 #[] w fun e w' => ∃ N M,e = .returned (.agg #[.int .i64 2,.int .i64 0,.slice (some ⟨N,0,none⟩) 2 2,.slice (some ⟨M,0,none⟩) 1 1]) /\ ISlice w' (.slice (some ⟨N,0,none⟩) 2 2) sameF.final /\ ASlice w' (.slice (some ⟨M,0,none⟩) 1 1) sameF.arcs /\ Below w.heap.size w w':=by
 go_enter Try.func39,Try.ntmps39
 go_wp2_with (go_at_call 42; refine (one_any _).mono ?_; rintro e w1 ⟨rfl,hf1,ha1,hb1⟩; have hz1 : ZBlock w1 w.heap.size:=(heap_bel hb1 (heap_alloc_new w _)); have hbu:=bel_up (bel_up (bel_self w1) (.cells #[.int .i64 2,.int .i64 0,.slice (some ⟨w.heap.size + 1 + 1,0,none⟩) 2 2,.slice (some ⟨w1.heap.size + 1,0,none⟩) 1 1] 25)) (.cells #[.int .i64 0,.int .i64 1,.int .i64 1,.int .i64 1,.int .i64 5] 54); have hz2:=heap_bel hbu hz1; obtain ⟨z0,z1,z2,z3,y0,y1,y2,y3⟩:=zfacts hz2; obtain ⟨r0,r1,r2,r3⟩:=set4_cells z0 z1 z2 z3 2 0 (.slice (some ⟨w.heap.size + 1 + 1,0,none⟩) 2 2) (.slice (some ⟨w1.heap.size + 1,0,none⟩) 1 1); rw [one_size] at hf1)
 obtain ⟨S,hS⟩ : ∃ S,S = ((((((w1.alloc (.cells #[.int .i64 2,.int .i64 0,.slice (some ⟨w.heap.size + 1 + 1,0,none⟩) 2 2,.slice (some ⟨w1.heap.size + 1,0,none⟩) 1 1] 25)).alloc (.cells #[.int .i64 0,.int .i64 1,.int .i64 1,.int .i64 1,.int .i64 5] 54)).setCell ⟨w.heap.size,0,none⟩ (.int .i64 2)).setCell ⟨w.heap.size,1,none⟩ (.int .i64 0)).setCell ⟨w.heap.size,2,none⟩ (.slice (some ⟨w.heap.size + 1 + 1,0,none⟩) 2 2)).setCell ⟨w.heap.size,3,none⟩ (.slice (some ⟨w1.heap.size + 1,0,none⟩) 1 1)):=⟨_,rfl⟩
 have r:=World.ownsRow_lit (base:=0) (e:=54) (size:=5) (w1.alloc (.cells #[.int .i64 2,.int .i64 0,.slice (some ⟨w.heap.size + 1 + 1,0,none⟩) 2 2,.slice (some ⟨w1.heap.size + 1,0,none⟩) 1 1] 25)) #[.int .i64 0,.int .i64 1,.int .i64 1,.int .i64 1,.int .i64 5] 1 (Nat.zero_le _) (by decide) rfl
 rw [one_size] at r
 have hA:=ownsRow_arcs (ars:=sameF.arcs) r
 obtain ⟨b1,o1,e1,hx⟩:=hf1.some (by omega)
 obtain ⟨b2,o2,e2,hy⟩:=hA.some (by omega)
 injection e1 with e1
 injection e2 with e2
 injection e1 with e1 e3
 injection e2 with e2 e4
 subst e1 e2 e3 e4
 have hzl:=heap_lt hz1
 have hx2:=far4I (hx.below hbu) (X:=w.heap.size) (by omega) (.int .i64 2) (.int .i64 0) (.slice (some ⟨w.heap.size + 1 + 1,0,none⟩) 2 2) (.slice (some ⟨w1.heap.size + 1,0,none⟩) 1 1)
 have hy2:=far4A hy (X:=w.heap.size) (by omega) (.int .i64 2) (.int .i64 0) (.slice (some ⟨w.heap.size + 1 + 1,0,none⟩) 2 2) (.slice (some ⟨w1.heap.size + 1,0,none⟩) 1 1)
 have hbW:=bel_set4 (bel_on (bel_on (bel_up (bel_self w) _) hb1) hbu) (Nat.le_refl _) (.int .i64 2) (.int .i64 0) (.slice (some ⟨w.heap.size + 1 + 1,0,none⟩) 2 2) (.slice (some ⟨w1.heap.size + 1,0,none⟩) 1 1)
 rw [<- hS] at hx2 hy2 hbW r0 r1 r2 r3
 rw [<- hS]
 clear hS
 exact bodyPost_ret (v:=.agg #[.int .i64 2,.int .i64 0,.slice (some ⟨w.heap.size + 1 + 1,0,none⟩) 2 2,.slice (some ⟨w1.heap.size + 1,0,none⟩) 1 1]) (by simp [results,Try.results39,go_sem,r0,r1,r2,r3]) rfl ⟨_,_,rfl,Or.inr ⟨_,_,_,_,rfl,hx2,by decide⟩,Or.inr ⟨_,_,_,_,rfl,hy2,by decide⟩,hbW⟩
end Go.Proofs.Yteehgcbjmdideab
/- 'leastBegun' of the statements. (Made by wip/gen/lkb.py.) -/
namespace Go.Proofs.Yteehgcbjmdideab
open Go.RowKit
attribute [local go_sem ↓] Go.wp_at_zero Go.wp_at_succ
theorem least_F (fin arcs : Value) (W : World) (hf : ISlice W fin sameF.final) (ha : ASlice W arcs sameF.arcs) : Calls Try.prog 18 #[.agg #[.int .i64 2,.int .i64 0,fin,arcs]] W fun e w' => LstRes sameG 2 W e w':=least_lit same_din same_done detX_F one_few (by decide) fin arcs W hf ha
theorem least_G (fin arcs : Value) (W : World) (hf : ISlice W fin sameG.final) (ha : ASlice W arcs sameG.arcs) : Calls Try.prog 18 #[.agg #[.int .i64 2,.int .i64 0,fin,arcs]] W fun e w' => LstRes sameG 2 W e w':=least_lit sameG_din sameG_done detX_G one_few (by decide) fin arcs W hf ha
theorem Same_lit (fin arcs fin' arcs' : Value) (w : World) (hf : ISlice w fin sameF.final) (ha : ASlice w arcs sameF.arcs) (hf' : ISlice w fin' sameG.final) (ha' : ASlice w arcs' sameG.arcs) : Calls Try.prog 23 #[.agg #[.int .i64 2,.int .i64 0,fin,arcs],.agg #[.int .i64 2,.int .i64 0,fin',arcs']] w fun e w' => e = .returned (.tuple #[.bool true,.int .i64 0]) /\ Below w.heap.size w w':=by
 refine (Same_both sameF sameG sameG sameG 2 2 fin arcs fin' arcs' w hf ha hf' ha' (fun W h1 h2 => least_F _ _ W h1 h2) (fun W h1 h2 => least_G _ _ W h1 h2)).mono ?_
 rintro e w' ⟨o,q,ho,hq,rfl,hb⟩
 obtain rfl:=out_lit ho
 obtain rfl:=out_lit hq
 exact ⟨rfl,hb⟩
set_option maxHeartbeats 1600000 in
theorem leastBegun_any (w : World) : Calls Try.prog 21 #[] w fun e w' => e = .returned (.bool true) /\ Below w.heap.size w w':=by
 go_enter Try.func21,Try.ntmps21
 go_upto_region 2 with (first | (go_at_call 39; refine (same_any _).mono ?_; rintro e w1 ⟨N1,M1,rfl,hf1,ha1,hb1⟩; have hle:=least_F _ _ w1 hf1 ha1; clear hf1 ha1) | (go_at_call 18; refine hle.mono ?_; rintro e w2 ⟨k,ga,gn,gc,ba,bn,bc,rfl,hP,hb2⟩; clear hle))
 obtain ⟨o,ho,rfl,hos,hoI,hoA⟩:=hP.out
 obtain rfl:=out_lit ho
 obtain ⟨Wb,hWb⟩ : ∃ W,W = w2.alloc (.cells #[.int .i64 2,.int .i64 0,.slice ga gn gc,.slice ba bn bc] 25):=⟨_,rfl⟩
 have hbb : Below w2.heap.size w2 Wb:=by rw [hWb]; exact bel_up (bel_self _) _
 have hcB : CellsF Wb w2.heap.size 2 0 (.slice ga gn gc) (.slice ba bn bc):=by rw [hWb]; exact cellsF_new _ _ _ _ _ _
 have hI:=hoI.below hbb
 have hA:=hoA.below hbb
 show Code.wp _ _ _ _ (w2.alloc (.cells #[.int .i64 2,.int .i64 0,.slice ga gn gc,.slice ba bn bc] 25))
 rw [<- hWb]
 have HB:=hid_of (bel_on hb1 (bel_on hb2 hbb))
 clear hWb hbb hb1 hb2 hP ho hos hoI hoA
 obtain ⟨Wd,hWd⟩ : ∃ W,W = Wb.drew:=⟨_,rfl⟩
 have hbd : Below Wb.heap.size Wb Wd:=by rw [hWd]; exact (bel_self Wb).drew
 have hS0 : (fun wx : World => CellsF wx w2.heap.size 2 0 (.slice ga gn gc) (.slice ba bn bc)) Wd:=hcB.below hbd
 have HWD:=hid_of hWd
 clear hWd
 refine wp_region_noPanic ?_
 refine wp_region_U (fun wx : World => CellsF wx w2.heap.size 2 0 (.slice ga gn gc) (.slice ba bn bc)) 7 (by kernel_rfl) (by rw [<- HWD.out]; exact hS0) (fun _ => ?_)
 rw [<- HWD.out]
 clear HWD
 refine tkU (i:=1) (v:=.agg #[.int .i64 2,.int .i64 0,.slice ga gn gc,.slice ba bn bc]) rfl (by kernel_rfl) (fun _ _ _ h => h) (by rfl) hS0 (fun wl hSw => ?_) ?_
 ·(try dsimp only at hSw); obtain ⟨o0,o1,o2,o3⟩:=hSw; go_simp
 go_simp
 refine wpAnyU_one (i:=0) rfl (by kernel_rfl) (fun Kc hKc => ?_)
 go_simp
 refine (same_any Wd).mono ?_
 rintro e w3 ⟨N3,M3,rfl,hf3,ha3,hb3⟩
 have hbd3:=bel_on hbd hb3
 have hsm:=Same_lit _ _ _ _ w3 hf3 ha3 (hI.below hbd3) (hA.below hbd3)
 refine hKc.out _ _ ⟨fun _ => CellsF.below hcB hbd3,?_⟩
 clear hKc Kc hf3 ha3
 go_simp
 refine wpAnyU_one (i:=2) rfl (by kernel_rfl) (fun Kc hKc => ?_)
 go_simp
 refine hsm.mono ?_
 rintro e w4 ⟨rfl,hb4⟩
 have hb34:=bel_on hbd3 hb4
 have hS4 : (fun wx : World => CellsF wx w2.heap.size 2 0 (.slice ga gn gc) (.slice ba bn bc)) w4:=hcB.below hb34
 refine hKc.out _ _ ⟨fun _ => hS4,?_⟩
 clear hKc Kc hsm
 go_simp
 refine tkU (i:=3) (v:=.tuple #[.bool true,.int .i64 0]) rfl (by kernel_rfl) (fun _ _ _ h => h) (by rfl) hS4 (fun wl hSw => ?_) ?_
 ·(try dsimp only at hSw); obtain ⟨o0,o1,o2,o3⟩:=hSw; go_simp
 go_simp
 refine tkU (i:=4) (v:=.bool true) rfl (by kernel_rfl) (fun _ _ _ h => h) (by rfl) hS4 (fun wl hSw => ?_) ?_
 ·(try dsimp only at hSw); obtain ⟨o0,o1,o2,o3⟩:=hSw; go_simp
 go_simp
 refine tkU (i:=5) (v:=.int .i64 0) rfl (by kernel_rfl) (fun _ _ _ h => h) (by rfl) hS4 (fun wl hSw => ?_) ?_
 ·(try dsimp only at hSw); obtain ⟨o0,o1,o2,o3⟩:=hSw; go_simp
 go_simp
 refine wpAnyU_one (i:=6) rfl (by kernel_rfl) (fun Kc hKc => ?_)
 go_simp
 refine hKc.out _ _ ⟨fun _ => hS4,?_⟩
 clear hKc Kc
 go_simp
 refine wpAnyU_one (i:=7) rfl (by kernel_rfl) (fun Kc hKc => ?_)
 go_simp
 refine hKc.out _ _ ⟨fun h => absurd rfl h,?_⟩
 clear hKc Kc
 refine wpAnyU_done (by kernel_rfl) ?_ _
 refine NoPanic.normal ?_
 have hI4:=hI.below hb34
 have hA4:=hA.below hb34
 have HB4:=hid_of (bel_on HB.out hb34)
 obtain ⟨q0,q1,q2,q3⟩:=id hS4
 obtain ⟨ab,ao,rfl,hx⟩ : ∃ ab ao,ba = some ⟨ab,ao,none⟩ /\ ArcsAt w4 ab ao 1 sameG.arcs /\ bn = 1:=by
  obtain ⟨_,bn',_,e,h1,_⟩:=hA4.lenOf
  injection e with _ e _
  have hbn : bn = 1:=by have : sameG.arcs.length = 1:=rfl; omega
  subst hbn
  obtain ⟨ab,ao,e2,h2⟩:=hA4.some (by omega)
  exact ⟨ab,ao,e2,h2,rfl⟩
 obtain ⟨hx,rfl⟩:=hx
 have hbL : Below w4.heap.size w4 (w4.alloc (.cells #[.int .i64 (-1),.int .i64 0] 3)):=bel_up (bel_self _) _
 have hlit:=World.ownsRow_lit (base:=0) (e:=3) (size:=1) w4 #[.int .i64 (-1),.int .i64 0] 2 (Nat.zero_le _) (by decide) rfl
 have h53:=sameInts_any _ _ sameG.final [-1,0] (w4.alloc (.cells #[.int .i64 (-1),.int .i64 0] 3)) (hI4.below hbL) (ownsRow_ints (xs:=[-1,0]) hlit)
 rw [show decide (sameG.final = [-1,0]) = true from rfl] at h53
 have HC4:=hid_of (And.intro hcB (And.intro hb34 hbL))
 have HX:=hid_of hx
 obtain ⟨q0,q1,q2,q3⟩:=hS4
 clear hI4 hA4 hlit hbL hI hA hcB hbd hbd3 hb3 hb4 hb34 hx
 go_wp2_with (go_at_call 53; refine h53.mono ?_; rintro e w5 ⟨rfl,hb5⟩; clear h53 q0 q1 q2 q3; have hbb5:=bel_on HC4.out.2.2 hb5; obtain ⟨q0,q1,q2,q3⟩:=(HC4.out.1.below HC4.out.2.1).below hbb5; have c4:=(HX.out.below hbb5).c4 0 (by decide); have HB5:=hid_of (bel_on HB4.out hbb5); clear hb5 hbb5)
 go_ret
 exact ⟨rfl,HB5.out⟩
end Go.Proofs.Yteehgcbjmdideab
/- What 'LeastOf' of the document has in memory: the words,the beginnings that speak for a state each,and the best of each. -/
namespace Go.Proofs.Yteehgcbjmdideab
open Go.RowKit
def natsW (l : List Nat) : List Value:=intsW (l.map fun x : Nat => (x : Int))
theorem natsW_snoc (l : List Nat) (x : Nat) : natsW (l ++ [x]) = natsW l ++ [.int .i64 (x : Int)]:=by simp [natsW,intsW]
theorem intsW_snoc (l : List Int) (x : Int) : intsW (l ++ [x]) = intsW l ++ [.int .i64 x]:=by simp [intsW]
structure LS (W0 W : World) (B4 B6 N s0 : Nat) (fin arcs cv pv lv fv bv : Value) (is : List Nat) (bs : List Int) : Prop where
 bel : Below W0.heap.size W0 W
 c4 : ∀ (k : Nat) (v : Value),(#[.int .i64 (N : Int),.int .i64 (s0 : Int),fin,arcs,cv,pv,lv] : Array Value)[k]? = some v -> W.cell? ⟨B4,k,none⟩ = some v
 c6 : W.cell? ⟨B6,0,none⟩ = some fv
 c7 : W.cell? ⟨B6 + 1,0,none⟩ = some bv
 z6 : W.frozen? ⟨B6,0,none⟩ = false
 z7 : W.frozen? ⟨B6 + 1,0,none⟩ = false
 fo : W.ownsRow (B6 + 2) 3 1 fv is.length (natsW is)
 bo : W.ownsRow (B6 + 2) 3 1 bv bs.length (intsW bs)
 fb : ∀ b,fv.ownBlock = some b -> bv.ownBlock ≠ some b
 h4 : W0.heap.size <= B4
 h6 : B4 < B6
structure LStep (B : Nat) (W : World) (fv bv : Value) (W' : World) (fv' bv' : Value) : Prop where
 size : W.heap.size <= W'.heap.size
 block : ∀ b,b < W.heap.size -> b ≠ B -> b ≠ B + 1 -> fv.ownBlock ≠ some b -> bv.ownBlock ≠ some b -> W'.heap[b]? = W.heap[b]?
 ownf : ∀ g,fv'.ownBlock = some g -> fv.ownBlock = some g \/ W.heap.size <= g
 ownb : ∀ g,bv'.ownBlock = some g -> bv.ownBlock = some g \/ W.heap.size <= g
section
variable {W0 W W1 W2 W3 W4 : World} {B4 B6 N s0 : Nat} {fin arcs cv pv lv fv bv fv' bv' : Value} {is : List Nat} {bs : List Int}
theorem LS.below (h : LS W0 W B4 B6 N s0 fin arcs cv pv lv fv bv is bs) (hb : Below W.heap.size W W1) : LS W0 W1 B4 B6 N s0 fin arcs cv pv lv fv bv is bs :=
 ⟨bel_on h.bel hb,fun k v hk => bel_c hb (h.c4 k v hk),bel_c hb h.c6,bel_c hb h.c7,(hb.frozen (p:=⟨B6,0,none⟩) (cell_lt h.c6)).trans h.z6,(hb.frozen (p:=⟨B6 + 1,0,none⟩) (cell_lt h.c7)).trans h.z7,ownsRow_bel h.fo hb,ownsRow_bel h.bo hb,h.fb,h.h4,h.h6⟩
theorem LStep.below (_h : LS W0 W B4 B6 N s0 fin arcs cv pv lv fv bv is bs) (hb : Below W.heap.size W W1) : LStep B6 W fv bv W1 fv bv :=
 ⟨hb.size,fun b hl _ _ _ _ => hb.block b hl,fun _ e => Or.inl e,fun _ e => Or.inl e⟩
theorem LS.mid (h : LS W0 W B4 B6 N s0 fin arcs cv pv lv fv bv is bs) (hb : Below W.heap.size W W1) (hg : W1.grownBy W2 fv.ownBlock) (hb2 : Below W2.heap.size W2 W3) : W3.ownsRow (B6 + 2) 3 1 bv bs.length (intsW bs):=by
 have h1:=h.below hb
 exact ownsRow_bel (own_same h1.bo fun b e => hg.block b (ownsRow_lt0 h1.bo b e) (fun e2 => h1.fb b e2.symm e)) hb2
theorem LS.put (h : LS W0 W B4 B6 N s0 fin arcs cv pv lv fv bv is bs) (hb : Below W.heap.size W W1) {i : Nat} {x : Int} (hg : W1.grownBy W2 fv.ownBlock) (hf : W2.ownsRow (B6 + 2) 3 1 fv' (is.length + 1) (natsW is ++ [.int .i64 (i : Int)])) (hfv : fv'.ownBlock = fv.ownBlock \/ fv'.ownBlock = some W1.heap.size) (hb2 : Below W2.heap.size W2 W3) (hg2 : W3.grownBy W4 bv.ownBlock) (hbo : W4.ownsRow (B6 + 2) 3 1 bv' (bs.length + 1) (intsW bs ++ [.int .i64 x])) (hbv : bv'.ownBlock = bv.ownBlock \/ bv'.ownBlock = some W3.heap.size) :
  LS W0 ((W4.setCell ⟨B6,0,none⟩ fv').setCell ⟨B6 + 1,0,none⟩ bv') B4 B6 N s0 fin arcs cv pv lv fv' bv' (is ++ [i]) (bs ++ [x]) /\ LStep B6 W fv bv ((W4.setCell ⟨B6,0,none⟩ fv').setCell ⟨B6 + 1,0,none⟩ bv') fv' bv' /\ W4.cell? ⟨B6,0,none⟩ = some fv /\ W4.frozen? ⟨B6,0,none⟩ = false /\ W4.cell? ⟨B6 + 1,0,none⟩ = some bv /\ W4.frozen? ⟨B6 + 1,0,none⟩ = false:=by
 have h1:=h.below hb
 have a4:=h.h4
 have a6:=h.h6
 have hs:=h.bel.size
 have s1:=hb.size
 have s2:=hg.size
 have s3:=hb2.size
 have s4:=hg2.size
 have hlf : ∀ b,fv.ownBlock = some b -> B6 + 2 <= b:=fun b e => own_base h.fo b e
 have hlb : ∀ b,bv.ownBlock = some b -> B6 + 2 <= b:=fun b e => own_base h.bo b e
 have l6:=cell_lt h.c6
 have l7:=cell_lt h.c7
 -- a block that is none of both rows
 have bk : ∀ b,b < W.heap.size -> fv.ownBlock ≠ some b -> bv.ownBlock ≠ some b -> W4.heap[b]? = W.heap[b]?:=fun b hl e1 e2 =>
  ((hg2.block b (by omega) (fun e => e2 e.symm)).trans (hb2.block b (by omega))).trans ((hg.block b (by omega) (fun e => e1 e.symm)).trans (hb.block b hl))
 have lowf : ∀ b,b < B6 + 2 -> fv.ownBlock ≠ some b:=fun b hl e => by have:=hlf b e; omega
 have lowb : ∀ b,b < B6 + 2 -> bv.ownBlock ≠ some b:=fun b hl e => by have:=hlb b e; omega
 have b6:=bk B6 (by omega) (lowf _ (by omega)) (lowb _ (by omega))
 have b7:=bk (B6 + 1) (by omega) (lowf _ (by omega)) (lowb _ (by omega))
 have k6:=cells_same b6 h.c6
 have k7:=cells_same b7 h.c7
 have y6:=frz_block b6 h.z6
 have y7:=frz_block b7 h.z7
 have nf : ∀ b,b < B6 + 2 -> fv'.ownBlock ≠ some b:=fun b hl e => by have:=own_base hf b e; omega
 have nb : ∀ b,b < B6 + 2 -> bv'.ownBlock ≠ some b:=fun b hl e => by have:=own_base hbo b e; omega
 have hf4 : W4.ownsRow (B6 + 2) 3 1 fv' (is.length + 1) (natsW is ++ [.int .i64 (i : Int)]):=by
  have hf3:=ownsRow_bel hf hb2
  refine own_same hf3 fun b e => hg2.block b (ownsRow_lt0 hf3 b e) fun e2 => ?_
  rcases hfv with e3 | e3
  ·rw [e3] at e; exact h.fb b e e2.symm
  ·rw [e3] at e
   injection e with e
   have:=ownsRow_lt0 h1.bo b e2.symm
   omega
 have hfb' : ∀ b,fv'.ownBlock = some b -> bv'.ownBlock ≠ some b:=fun b e e2 => by
  have hl3:=ownsRow_lt0 (ownsRow_bel hf hb2) b e
  rcases hbv with e3 | e3
  ·rw [e3] at e2
   rcases hfv with e4 | e4
   ·rw [e4] at e; exact h.fb b e e2
   ·rw [e4] at e
    injection e with e
    have:=ownsRow_lt0 h1.bo b e2
    omega
  ·rw [e3] at e2
   injection e2 with e2
   omega
 have e1 : (is ++ [i]).length = is.length + 1:=by simp
 have e2 : (bs ++ [x]).length = bs.length + 1:=by simp
 refine ⟨⟨?_,fun k v hk => ?_,?_,?_,?_,?_,?_,?_,hfb',a4,a6⟩,⟨?_,fun b hl n6 n7 n1 n2 => ?_,fun g e => ?_,fun g e => ?_⟩,k6,y6,k7,y7⟩
 ·have:=((h.bel.trans (hb.mono hs)).grown hg (by omega) (fun b e => by have:=hlf b e; omega)).trans (hb2.mono (by omega))
  exact ((this.grown hg2 (by omega) (fun b e => by have:=hlb b e; omega)).setCell (p:=⟨B6,0,none⟩) (by show W0.heap.size <= B6; omega) _).setCell (p:=⟨B6 + 1,0,none⟩) (by show W0.heap.size <= B6 + 1; omega) _
 ·rw [set_far (by omega),set_far (by omega)]
  have b4:=bk B4 (by omega) (lowf _ (by omega)) (lowb _ (by omega))
  exact cells_same b4 (h.c4 k v hk)
 ·rw [set_far (by omega)]
  exact World.cell?_setCell_same _ _ _ k6
 ·exact World.cell?_setCell_same _ _ _ ((set_far (by omega)).trans k7)
 ·rw [World.frozen?_setCell,World.frozen?_setCell]; exact y6
 ·rw [World.frozen?_setCell,World.frozen?_setCell]; exact y7
 ·rw [e1,natsW_snoc]
  exact ownsRow_setCell_far (ownsRow_setCell_far hf4 (nf _ (by omega))) (nf _ (by omega))
 ·rw [e2,intsW_snoc]
  exact ownsRow_setCell_far (ownsRow_setCell_far hbo (nb _ (by omega))) (nb _ (by omega))
 ·have : ∀ (V : World) (p : Addr) (u : Value),(V.setCell p u).heap.size = V.heap.size:=fun V p u => by simp [World.setCell]
  rw [this,this]
  omega
 ·rw [Below.heap_setCell _ ⟨B6 + 1,0,none⟩ _ b n7,Below.heap_setCell _ ⟨B6,0,none⟩ _ b n6]
  exact bk b hl n1 n2
 ·rcases hfv with e3 | e3
  ·rw [e3] at e; exact Or.inl e
  ·rw [e3] at e
   injection e with e
   right; omega
 ·rcases hbv with e3 | e3
  ·rw [e3] at e; exact Or.inl e
  ·rw [e3] at e
   injection e with e
   right; omega
theorem LS.wv (h : LS W0 W B4 B6 N s0 fin arcs cv pv lv fv bv is bs) {t : FstD} {cs : List (List Int)} {ps ls : List Int} (hw : WV W0 t N fin arcs cv pv lv cs ps ls) : WV W t N fin arcs cv pv lv cs ps ls:=hw.below h.bel
end
structure FBs (t : FstD) (s0 : Nat) (ws : List (List Int)) (C : List Int -> Nat) (is : List Nat) (bs : List Int) (fw : List (List Int)) : Prop where
 l1 : bs.length = is.length
 l2 : fw.length = is.length
 at' : ∀ (j i : Nat),is[j]? = some i -> ∃ u b,ws[i]? = some u /\ fw[j]? = some u /\ bs[j]? = some b /\ MinP (ToW t s0 u) b
 nd : (fw.map C).Nodup
section
variable {t : FstD} {s0 : Nat} {ws fw : List (List Int)} {C : List Int -> Nat} {is : List Nat} {bs : List Int}
theorem FBs.put (h : FBs t s0 ws C is bs fw) {i : Nat} {u : List Int} {b : Int} (hu : ws[i]? = some u) (hb : MinP (ToW t s0 u) b) (hn : C u ∉ fw.map C) : FBs t s0 ws C (is ++ [i]) (bs ++ [b]) (fw ++ [u]):=by
 have l1:=h.l1
 have l2:=h.l2
 refine ⟨by simp [l1],by simp [l2],fun j k hk => ?_,?_⟩
 ·by_cases e : j < is.length
  ·rw [List.getElem?_append_left e] at hk
   obtain ⟨v,d,h1,h2,h3,h4⟩:=h.at' j k hk
   exact ⟨v,d,h1,by rw [List.getElem?_append_left (by omega)]; exact h2,by rw [List.getElem?_append_left (by omega)]; exact h3,h4⟩
  ·have hl:=(List.getElem?_eq_some_iff.1 hk).1
   rw [List.length_append,List.length_singleton] at hl
   obtain rfl : j = is.length:=by omega
   rw [List.getElem?_concat_length] at hk
   injection hk with hk
   subst hk
   refine ⟨u,b,hu,?_,?_,hb⟩
   ·rw [<- l2]; exact List.getElem?_concat_length
   ·rw [<- l1]; exact List.getElem?_concat_length
 ·rw [List.map_append]
  exact List.nodup_append.2 ⟨h.nd,by simp,fun a ha b hb e => hn (by
   have : b = C u:=by simpa using hb
   rw [<- this,<- e]
   exact ha)⟩
end
end Go.Proofs.Yteehgcbjmdideab
/- Where all words cost the same,the least one is the same. -/
namespace Go.Proofs.Yteehgcbjmdideab
theorem idx_map {α : Type} {C C2 : α -> Nat} {a a2 : Nat} : ∀ fw : List α,(∀ w ∈ fw,C w = a ↔ C2 w = a2) -> (fw.map C).idxOf a = (fw.map C2).idxOf a2 /\ (a ∈ fw.map C ↔ a2 ∈ fw.map C2)
 | [],_ => ⟨rfl,by simp⟩
 | x :: fw,h => by
  obtain ⟨h1,h2⟩:=idx_map fw fun w hw => h w (List.mem_cons_of_mem _ hw)
  have hx:=h x List.mem_cons_self
  rw [List.map_cons,List.map_cons,List.idxOf_cons,List.idxOf_cons,List.mem_cons,List.mem_cons,h2]
  by_cases e : C x = a
  ·have e2:=hx.1 e
   rw [e,e2]
   simp
  ·have e2 : ¬ C2 x = a2:=fun e2 => e (hx.2 e2)
   have b1 : (C x == a) = false:=by simpa using e
   have b2 : (C2 x == a2) = false:=by simpa using e2
   rw [b1,b2,h1]
   refine ⟨rfl,?_⟩
   constructor
   ·rintro (h | h)
    ·exact absurd h.symm e
    ·exact Or.inr h
   ·rintro (h | h)
    ·exact absurd h.symm e2
    ·exact Or.inr h
section
variable {t : FstD} {s0 : Nat} {C : List Int -> Nat} {κ : Nat -> List Int}
theorem DocTab.step (h : DocTab t s0 C κ) {fw : List (List Int)} {rs : List ArcD} {u : List Int} {i j : Nat} {b b' : Int} (hi : i < 9) (ha : Alive t s0 (((i + 1 : Nat) : Int) :: u)) (hb : MinP (ToW t s0 u) b) (hb' : MinP (ToW t s0 (((i + 1 : Nat) : Int) :: u)) b') :
  numStep (κ (C u)) j (fw.map C,rs) i = (if C (((i + 1 : Nat) : Int) :: u) ∈ fw.map C then (fw.map C,rs ++ [⟨(j : Int),((i + 1 : Nat) : Int),((i + 1 : Nat) : Int),((fw.map C).idxOf (C (((i + 1 : Nat) : Int) :: u)) : Int),b' - (if u = [] then 0 else b)⟩]) else ((fw ++ [((i + 1 : Nat) : Int) :: u]).map C,rs ++ [⟨(j : Int),((i + 1 : Nat) : Int),((i + 1 : Nat) : Int),(fw.length : Int),b' - (if u = [] then 0 else b)⟩])):=by
 obtain ⟨h1,h2⟩:=h.yes u i b b' hi ha hb hb'
 unfold numStep
 rw [if_neg (by rw [h1]; omega),h2]
 dsimp only
 rw [h1,Int.toNat_natCast]
 by_cases e : C (((i + 1 : Nat) : Int) :: u) ∈ fw.map C
 ·rw [if_pos e,if_pos e]
 ·rw [if_neg e,if_neg e,List.map_append,List.map_cons,List.map_nil]
  have : (fw.map C ++ [C (((i + 1 : Nat) : Int) :: u)]).idxOf (C (((i + 1 : Nat) : Int) :: u)) = fw.length:=by
   rw [List.idxOf_append,if_neg e,List.length_map]
   simp
  rw [this]
theorem DocTab.skip (h : DocTab t s0 C κ) {S : List Nat × List ArcD} {u : List Int} {i j : Nat} (hi : i < 9) (hu : Alive t s0 u) (ha : ¬ Alive t s0 (((i + 1 : Nat) : Int) :: u)) : numStep (κ (C u)) j S i = S:=by
 unfold numStep
 rw [if_pos (h.no u i hi hu ha)]
end
section
variable {t t2 : FstD} {N N2 s0 s02 : Nat} {C C2 : List Int -> Nat} {κ κ2 : Nat -> List Int}
theorem EndSame.alike (hs : EndSame t s0 t2 s02) (ht : WideA t N) (ht2 : WideA t2 N2) {u u' : List Int} {b b' : Int} : AlikeP t s0 u t s0 u' b b' ↔ AlikeP t2 s02 u t2 s02 u' b b':=by
 constructor
 ·intro hA s p q hp hq
  obtain ⟨p',hp'⟩:=end_exists ht s0 (s ++ u)
  obtain ⟨q',hq'⟩:=end_exists ht s0 (s ++ u')
  have e1:=hs _ _ _ hp' hp
  have e2:=hs _ _ _ hq' hq
  have:=hA s p' q' hp' hq'
  rw [e1,e2] at this
  exact this
 ·intro hA s p q hp hq
  obtain ⟨p',hp'⟩:=end_exists ht2 s02 (s ++ u)
  obtain ⟨q',hq'⟩:=end_exists ht2 s02 (s ++ u')
  have e1:=hs _ _ _ hp hp'
  have e2:=hs _ _ _ hq hq'
  have:=hA s p' q' hp' hq'
  rw [<- e1,<- e2] at this
  exact this
theorem EndSame.alive_all (hs : EndSame t s0 t2 s02) (ht : WideA t N) (ht2 : WideA t2 N2) (hl : LiveW t s0) {u : List Int} (ha : Alive t s0 u) : Alive t2 s02 u:=by
 cases u with
 | nil => exact ⟨s02,0,rfl,rfl⟩
 | cons c u => exact hs.alive ht ht2 hl ha
structure Both (t : FstD) (s0 : Nat) (C C2 : List Int -> Nat) (S S2 : List Nat × List ArcD) (fw : List (List Int)) : Prop where
 alive : ∀ u ∈ fw,Alive t s0 u
 m : S.1 = fw.map C
 m2 : S2.1 = fw.map C2
 r : S.2 = S2.2
theorem both_step (h : DocTab t s0 C κ) (h2 : DocTab t2 s02 C2 κ2) (hs : EndSame t s0 t2 s02) (ht : WideA t N) (ht2 : WideA t2 N2) (hl : LiveW t s0) (hl2 : LiveW t2 s02) {S S2 : List Nat × List ArcD} {fw : List (List Int)} (hB : Both t s0 C C2 S S2 fw) {u : List Int} (hu : Alive t s0 u) {i : Nat} (hi : i < 9) (j : Nat) :
  ∃ l,Both t s0 C C2 (numStep (κ (C u)) j S i) (numStep (κ2 (C2 u)) j S2 i) (fw ++ l):=by
 obtain ⟨M,R⟩:=S
 obtain ⟨M2,R2⟩:=S2
 have e1 : M = fw.map C:=hB.m
 have e2 : M2 = fw.map C2:=hB.m2
 have e3 : R = R2:=hB.r
 subst e1 e2 e3
 have hu2:=hs.alive_all ht ht2 hl hu
 by_cases ha : Alive t s0 (((i + 1 : Nat) : Int) :: u)
 ·have ha2:=hs.alive ht ht2 hl ha
  obtain ⟨b,hb⟩:=tow_exists ht s0 u
  obtain ⟨b',hb'⟩:=tow_exists ht s0 (((i + 1 : Nat) : Int) :: u)
  have hb2:=hs.to ht ht2 hb
  have hb2':=hs.to ht ht2 hb'
  rw [h.step hi ha hb hb',h2.step hi ha2 hb2 hb2']
  obtain ⟨k1,k2⟩:=idx_map (C:=C) (C2:=C2) (a:=C (((i + 1 : Nat) : Int) :: u)) (a2:=C2 (((i + 1 : Nat) : Int) :: u)) fw fun w hw => by
   obtain ⟨d,hd⟩:=tow_exists ht s0 w
   have haw:=hB.alive w hw
   rw [<- h.alike w _ d b' haw ha hd hb',<- h2.alike w _ d b' (hs.alive_all ht ht2 hl haw) ha2 (hs.to ht ht2 hd) hb2']
   exact hs.alike ht ht2
  by_cases e : C (((i + 1 : Nat) : Int) :: u) ∈ fw.map C
  ·rw [if_pos e,if_pos (k2.1 e),k1]
   exact ⟨[],by rw [List.append_nil]; exact ⟨hB.alive,rfl,rfl,rfl⟩⟩
  ·rw [if_neg e,if_neg (fun h => e (k2.2 h))]
   refine ⟨[((i + 1 : Nat) : Int) :: u],fun w hw => ?_,rfl,rfl,rfl⟩
   rcases List.mem_append.1 hw with hw | hw
   ·exact hB.alive w hw
   ·rw [List.mem_singleton.1 hw]; exact ha
 ·have ha2 : ¬ Alive t2 s02 (((i + 1 : Nat) : Int) :: u):=fun h => ha (hs.symm.alive ht2 ht hl2 h)
  rw [h.skip hi hu ha,h2.skip hi hu2 ha2]
  exact ⟨[],by rw [List.append_nil]; exact hB⟩
theorem both_lets (h : DocTab t s0 C κ) (h2 : DocTab t2 s02 C2 κ2) (hs : EndSame t s0 t2 s02) (ht : WideA t N) (ht2 : WideA t2 N2) (hl : LiveW t s0) (hl2 : LiveW t2 s02) {S S2 : List Nat × List ArcD} {fw : List (List Int)} (hB : Both t s0 C C2 S S2 fw) {u : List Int} (hu : Alive t s0 u) (j : Nat) :
  ∀ i,i <= 9 -> ∃ l,Both t s0 C C2 (numLets (κ (C u)) j S i) (numLets (κ2 (C2 u)) j S2 i) (fw ++ l)
 | 0,_ => ⟨[],by rw [List.append_nil]; exact hB⟩
 | i + 1,hi => by
  obtain ⟨l,hl1⟩:=both_lets h h2 hs ht ht2 hl hl2 hB hu j i (by omega)
  obtain ⟨l2,hl3⟩:=both_step h h2 hs ht ht2 hl hl2 hl1 hu (by omega : i < 9) j
  exact ⟨l ++ l2,by rw [<- List.append_assoc]; exact hl3⟩
theorem both_num (h : DocTab t s0 C κ) (h2 : DocTab t2 s02 C2 κ2) (hs : EndSame t s0 t2 s02) (ht : WideA t N) (ht2 : WideA t2 N2) (hl : LiveW t s0) (hl2 : LiveW t2 s02) :
  ∀ j,(∀ i,i < j -> i < (numN κ (C []) i).1.length) -> ∃ fw,Both t s0 C C2 ((numN κ (C []) j).1,(numN κ (C []) j).2.2) ((numN κ2 (C2 []) j).1,(numN κ2 (C2 []) j).2.2) fw /\ (numN κ (C []) j).2.1 = (numN κ2 (C2 []) j).2.1
 | 0,_ => ⟨[[]],⟨fun u hu => by
   rw [List.mem_singleton.1 hu]
   exact ⟨s0,0,rfl,rfl⟩,rfl,rfl,rfl⟩,rfl⟩
 | j + 1,hj => by
  obtain ⟨fw,hB,hf⟩:=both_num h h2 hs ht ht2 hl hl2 j fun i hi => hj i (by omega)
  have hlt:=hj j (by omega)
  have e1 : (numN κ (C []) j).1 = fw.map C:=hB.m
  have e2 : (numN κ2 (C2 []) j).1 = fw.map C2:=hB.m2
  have hfl : j < fw.length:=by rw [e1,List.length_map] at hlt; exact hlt
  have g1 : (numN κ (C []) j).1.getD j 0 = C fw[j]:=by
   rw [e1,List.getD_eq_getElem?_getD,List.getElem?_map,List.getElem?_eq_getElem hfl]; rfl
  have g2 : (numN κ2 (C2 []) j).1.getD j 0 = C2 fw[j]:=by
   rw [e2,List.getD_eq_getElem?_getD,List.getElem?_map,List.getElem?_eq_getElem hfl]; rfl
  have hu:=hB.alive _ (List.getElem_mem hfl)
  obtain ⟨l,hB2⟩:=both_lets h h2 hs ht ht2 hl hl2 hB hu j 9 (Nat.le_refl _)
  refine ⟨fw ++ l,?_,?_⟩
  ·show Both t s0 C C2 (numLets (κ ((numN κ (C []) j).1.getD j 0)) j ((numN κ (C []) j).1,(numN κ (C []) j).2.2) 9) (numLets (κ2 ((numN κ2 (C2 []) j).1.getD j 0)) j ((numN κ2 (C2 []) j).1,(numN κ2 (C2 []) j).2.2) 9) _
   rw [g1,g2]
   exact hB2
  ·show (numN κ (C []) j).2.1 ++ [gI (κ ((numN κ (C []) j).1.getD j 0)) 0] = (numN κ2 (C2 []) j).2.1 ++ [gI (κ2 ((numN κ2 (C2 []) j).1.getD j 0)) 0]
   rw [hf,g1,g2]
   obtain ⟨e,he⟩:=end_exists ht s0 fw[j]
   obtain ⟨e',he'⟩:=end_exists ht2 s02 fw[j]
   obtain ⟨b,hb⟩:=tow_exists ht s0 fw[j]
   have:=hs _ _ _ he he'
   subst this
   rw [h.fin _ e b hu he hb,h2.fin _ e b (hs.alive_all ht ht2 hl hu) he' (hs.to ht ht2 hb)]
theorem least_one (h : DocTab t s0 C κ) (h2 : DocTab t2 s02 C2 κ2) (hs : EndSame t s0 t2 s02) (ht : WideA t N) (ht2 : WideA t2 N2) (hl : LiveW t s0) (hl2 : LiveW t2 s02) {n n2 : Nat} (hr : RunN κ (C []) n) (hr2 : RunN κ2 (C2 []) n2) : n = n2 /\ (numN κ (C []) n).2 = (numN κ2 (C2 []) n2).2:=by
 have key : ∀ {t t2 : FstD} {N N2 s0 s02 : Nat} {C C2 : List Int -> Nat} {κ κ2 : Nat -> List Int},DocTab t s0 C κ -> DocTab t2 s02 C2 κ2 -> EndSame t s0 t2 s02 -> WideA t N -> WideA t2 N2 -> LiveW t s0 -> LiveW t2 s02 -> ∀ {n n2 : Nat},RunN κ (C []) n -> RunN κ2 (C2 []) n2 -> n <= n2 -> n2 <= n /\ (numN κ (C []) n).2 = (numN κ2 (C2 []) n).2:=by
  intro t t2 N N2 s0 s02 C C2 κ κ2 h h2 hs ht ht2 hl hl2 n n2 hr hr2 hle
  obtain ⟨fw,hB,hf⟩:=both_num h h2 hs ht ht2 hl hl2 n hr.all
  have e1 : (numN κ (C []) n).1 = fw.map C:=hB.m
  have e2 : (numN κ2 (C2 []) n).1 = fw.map C2:=hB.m2
  have e3:=hr.done
  rw [e1,List.length_map] at e3
  refine ⟨?_,Prod.ext hf hB.r⟩
  by_cases e : n < n2
  ·have:=hr2.all n e
   rw [e2,List.length_map] at this
   omega
  ·omega
 rcases Nat.le_total n n2 with hle | hle
 ·obtain ⟨h3,h4⟩:=key h h2 hs ht ht2 hl hl2 hr hr2 hle
  obtain rfl : n = n2:=by omega
  exact ⟨rfl,h4⟩
 ·obtain ⟨h3,h4⟩:=key h2 h hs.symm ht2 ht hl2 hl hr2 hr hle
  obtain rfl : n = n2:=by omega
  exact ⟨rfl,h4.symm⟩
end
end Go.Proofs.Yteehgcbjmdideab
/- A region that draws its order: a load for which the fatal ones wait by way of another one; two that may come up. -/
namespace Go.Proofs.Yteehgcbjmdideab
open Go
section
variable {P : Program} {ops : Array Oper} {Q : Exit -> Act -> World -> Prop} {md : Region.Mode} {S : World -> Prop} {fatal : List Nat}
theorem ready_listed {listed : Array Bool} {m j : Nat} {oj : Oper} (hm : listed.getD m true = false) (hj : j ∈ Region.ready md ops listed) (hoj : ops[j]? = some oj) :
  ∀ e ∈ oj.after,Region.binds md e = true -> e.on ≠ m:=by
 obtain ⟨_,o,ho,hall⟩:=mem_ready.1 hj
 rw [hoj] at ho
 injection ho with ho
 subst ho
 rintro e he hb rfl
 have hl:=hall e he hb
 by_cases hs : e.on < listed.size
 ·simp only [Array.getD_eq_getD_getElem?,Array.getElem?_eq_getElem hs,Option.getD_some] at hm hl
  exact Bool.noConfusion (hm.symm.trans hl)
 ·simp only [Array.getD_eq_getD_getElem?,Array.getElem?_eq_none (Nat.le_of_not_lt hs),Option.getD_none] at hl
  cases hl
section
variable {i m : Nat} {oi : Oper} {v : Value}
theorem CanF.held2 (hi : ops[i]? = some oi) (hsel : ∀ (j : Nat) (o : Oper) cs b,ops[j]? = some o -> o.op ≠ .select cs b) (hif : i ∉ fatal) (hmi : waits md ops m i = true)
  (hk : ∀ k ∈ fatal,waits md ops k i = true \/ waits md ops k m = true) (hQ : ∀ c a w,Q (.panic c) (a.put oi.dst v) w -> Q (.panic c) a w) (fuel : Nat) :
  ∀ {listed : Array Bool} {a : Act} {w : World},listed.getD m true = false -> unl fatal listed -> CanF P md ops Q S S fatal i oi v fuel listed a w -> wpAnyF P md ops Q S fatal (fuel + 1) listed a w:=by
 induction fuel with
 | zero =>
  intro listed a w hl hu h
  refine ⟨fun hnil => absurd h.up (by simp [hnil]),fun j hj => ?_⟩
  rcases Nat.decEq j i with hne | rfl
  ·exact absurd (ready_mono hj hne) (by simp [h.taken.1])
  ·exact h.val.wpOp hi h.known ⟨fun _ => h.known,h.taken⟩
 | succ fuel ih =>
  intro listed a w hl hu h
  refine ⟨fun hnil => absurd h.up (by simp [hnil]),fun j hj => ?_⟩
  rcases Nat.decEq j i with hne | rfl
  ·obtain ⟨_,oj,hoj,_⟩:=mem_ready.1 hj
   have hjm : j ≠ m:=by
    rintro rfl
    obtain ⟨e,he,hb,hon⟩:=(waits_spec hmi).2 oj hoj
    exact ready_not_on h.up hj hoj e he hb hon
   have hjf : j ∉ fatal:=by
    intro hm
    rcases hk j hm with hw | hw
    ·obtain ⟨e,he,hb,hon⟩:=(waits_spec hw).2 oj hoj
     exact ready_not_on h.up hj hoj e he hb hon
    ·obtain ⟨e,he,hb,hon⟩:=(waits_spec hw).2 oj hoj
     exact ready_listed hl hj hoj e he hb hon
   have hu' : unl fatal (listed.setIfInBounds j true):=(unl_set hjf).2 hu
   have hl' : (listed.setIfInBounds j true).getD m true = false:=by
    rw [getD_set_ne true hjm]
    exact hl
   exact wpOp_mono (fun _ _ hc => ⟨hc.1,ih hl' hu' hc.2⟩) (h.other hi hsel hif hQ (fun _ hS => hS hu') hj hne)
  ·exact h.val.wpOp hi h.known ⟨fun _ => h.known,h.taken⟩
end
theorem wpAnyF_take2 {i : Nat} (m : Nat) {oi : Oper} {v : Value} {fuel : Nat} {listed : Array Bool} {a : Act} {w : World} (hi : ops[i]? = some oi)
  (hs : Region.noSelect ops = true) (hf : Region.free md ops listed i = true) (hr : (Region.ready md ops listed).contains i = true) (hk : (!fatal.contains i && unlB fatal listed && waits md ops m i && (listed.getD m true == false) && fatal.all fun k => waits md ops k i || waits md ops k m) = true)
  (hQ : ∀ c a w,Q (.panic c) (a.put oi.dst v) w -> Q (.panic c) a w) (hy : YieldsIf P ops S oi v a) (hS : S w)
  (h : wpAnyF P md ops Q S fatal fuel (listed.setIfInBounds i true) (a.put oi.dst v) w) : wpAnyF P md ops Q S fatal (fuel + 1) listed a w:=by
 rw [Bool.and_eq_true,Bool.and_eq_true,Bool.and_eq_true,Bool.and_eq_true] at hk
 exact CanF.held2 hi (Region.noSelect_spec hs) (by simpa using hk.1.1.1.1) hk.1.1.2 (fun k hm => by
  have:=List.all_eq_true.1 hk.2 k hm
  rw [Bool.or_eq_true] at this
  exact this) hQ fuel (by simpa using hk.1.2) (unlB_spec hk.1.1.1.2) ⟨by simpa using hr,Region.free_spec hi hf,hy,hS,fun _ => hS,h⟩
theorem wpAnyF_pair {i j : Nat} {oi oj : Oper} {fuel : Nat} {listed : Array Bool} {a : Act} {w : World} (hoi : ops[i]? = some oi) (hoj : ops[j]? = some oj) (hr : Region.ready md ops listed = [i,j])
  (h1 : ∀ K' : Act -> World -> Prop,Shut (∀ a w,((unl fatal (listed.setIfInBounds i true) -> S w) /\ wpAnyF P md ops Q S fatal fuel (listed.setIfInBounds i true) a w) -> K' a w) -> if Region.wanted oi (yielded ops a.tmps) = true then Oper.wp P oi a w K' Q else K' (a.put oi.dst undef) w)
  (h2 : ∀ K' : Act -> World -> Prop,Shut (∀ a w,((unl fatal (listed.setIfInBounds j true) -> S w) /\ wpAnyF P md ops Q S fatal fuel (listed.setIfInBounds j true) a w) -> K' a w) -> if Region.wanted oj (yielded ops a.tmps) = true then Oper.wp P oj a w K' Q else K' (a.put oj.dst undef) w) : wpAnyF P md ops Q S fatal (fuel + 1) listed a w:=by
 refine ⟨fun h0 => (by rw [hr] at h0; cases h0),fun k hk => ?_⟩
 rw [hr] at hk
 rcases List.mem_cons.1 hk with rfl | hk
 ·exact wpOp_step hoi (fun K' hK => h1 K' (fun a w hS => hK a w hS))
 ·have : k = j:=by simpa using hk
  subst this
  exact wpOp_step hoj (fun K' hK => h2 K' (fun a w hS => hK a w hS))
end
end Go.Proofs.Yteehgcbjmdideab
