/- 'leastOf' of the program: it is trimmed and told early already,and is joined. (Made by wip/gen/kjb.py.) -/
import Derived.Test.YteehgcbjmdideabQM38
import Derived.Test.YteehgcbjmdideabQM29
import Derived.Test.YteehgcbjmdideabQWoE
import Derived.Test.YteehgcbjmdideabQM09
import Derived.Test.YteehgcbjmdideabQM08
import Derived.Test.YteehgcbjmdideabQM22
set_option maxRecDepth 100000
namespace Go.Proofs.Yteehgcbjmdideab
open Go.RowKit
attribute [local go_sem ↓] Go.wp_at_zero Go.wp_at_succ
theorem JoP.mono {x : FstD} {K B B' : Nat} {k : Int} {c d : Value} {W : World} (h : JoP x K B k c d W) (hB : B' <= B) : JoP x K B' k c d W:=by
 obtain ⟨cl,n,m,C,κ,h1,h2,h3,h4,h5,h6,h7,h8⟩:=h
 exact ⟨cl,n,m,C,κ,h1,h2,h3,h4,h5,h6,fun b e => by have:=h7 b e; omega,fun b e => by have:=h8 b e; omega⟩
section
variable {x : FstD} {K : Nat}
theorem trim_x (hx : XIn x K) (hf : Fine x) {fin arcs : Value} {W : World} (hI : ISlice W fin x.final) (hA : ASlice W arcs x.arcs) : Calls Try.prog 28 #[.agg #[.int .i64 (K : Int),.int .i64 0,fin,arcs]] W fun e w' => ∃ fa fn fc aa an ac,e = .returned (.tuple #[.agg #[.int .i64 (K : Int),.int .i64 0,.slice fa fn fc,.slice aa an ac],.int .i64 0]) /\ Sc.FreshT W.heap.size w' (.slice fa fn fc) (.slice aa an ac) x /\ Below W.heap.size W w':=by
 have h:=Sc.trim_fresh x fin arcs W hI hA
 rw [hx.gin.st,hx.sta] at h
 refine h.mono ?_
 rintro e w' ⟨h1 | h1,hb⟩
 ·exact absurd hf.check h1.1
 ·obtain ⟨_,t',fv,av,rfl,ht,hF⟩:=h1
  obtain rfl:=ht.unique hx.trim
  obtain ⟨fa,fn,fc,rfl,_,_⟩:=(hF w' fun _ _ _ => rfl).1.lenOf
  obtain ⟨aa,an,ac,rfl,_,_⟩:=(hF w' fun _ _ _ => rfl).2.lenOf
  rw [hx.gin.st,hx.sta]
  exact ⟨fa,fn,fc,aa,an,ac,rfl,hF,hb⟩
theorem early_x (hx : XIn x K) (hf : Fine x) (fin : Value) (aa : Option Addr) (m ac : Nat) (W : World) (hm : x.arcs.length = m) (hI : ISlice W fin x.final) (hA : ASlice W (.slice aa m ac) x.arcs) : Calls Try.prog 32 #[.agg #[.int .i64 (K : Int),.int .i64 0,fin,.slice aa m ac]] W fun e w' => MovOk W K 0 m x e w':=by
 have h1:=hx.gin.st
 have h2:=hf.s2
 have hk0:=hx.k0
 have hwt : ∀ a ∈ x.arcs,0 <= a.wt /\ a.wt <= 1000000000:=fun a ha => by
  have:=(hf.arcs a ha).wt
  simp [inB] at this
  exact this
 have hok : Bg.OkF x K 0:=⟨h1,hx.sta,by omega,by omega,by omega,hx.gin.flen,fun y hy => by rcases hf.fin y hy with e | e; exact Or.inl e; right; omega,hf.many,fun a ha => by have:=hx.gin.arcs a ha; have:=hwt a ha; omega⟩
 have hfi : ∀ y ∈ x.final,y = -1 \/ (0 <= y /\ y <= 4000000000000):=fun y hy => by rcases hf.fin y hy with e | e; exact Or.inl e; right; omega
 have hlen : ∀ g : FstD,g.final.length = K -> (toD g).length = K:=fun g hg => by unfold toD; rw [rounds_len,hg]
 by_cases h0 : gI (toD x) 0 = -1
 ·have:=Bg.early_none x K 0 fin aa m ac W hok hI hA hm h0 hfi
  rw [mov_zero hx.gin] at this
  exact this
 ·have hp : 0 <= gI (toD x) 0:=by
   rcases hx.gin.to 0 with ⟨e,_⟩ | ⟨e,_⟩
   ·exact absurd e h0
   ·exact e
  have hdst : ∀ a ∈ x.arcs,gI (toD x) a.dst.toNat = 0:=fun a ha => by
   have hb:=hx.gin.arcs a ha
   have hn:=hx.no_back ha
   exact hx.early a.dst.toNat (by omega) (by omega)
  have htop : gI (toD x) 0 <= 1000000000:=by
   rcases hx.gin.to 0 with ⟨e,_⟩ | ⟨_,⟨v,k,z,hr,h2,h3⟩,_⟩
   ·omega
   ·rcases List.eq_nil_or_concat v with rfl | ⟨v',c,rfl⟩
    ·obtain ⟨rfl,rfl⟩:=hr
     rcases gI_or (l:=x.final) (s:=0) with e | e
     ·omega
     ·have:=hf.fin _ e; omega
    ·rw [List.concat_eq_append] at hr
     obtain ⟨a,ha,m',hs,_,hd,_⟩:=(wdr_first v' 0 z).1 hr
     have h4:=hdst a ha
     have h5:=hx.gin.to_arc ha (by omega)
     have h6:=hwt a ha
     have e0 : a.src.toNat = 0:=by omega
     rw [e0] at h5
     omega
  have hah : ∀ s,gI (toD x) s <= 4000000000000:=fun s => by
   by_cases e : s = 0
   ·subst e; omega
   ·by_cases e2 : s < K
    ·rw [hx.early s (by omega) e2]; omega
    ·rw [gI_out (by rw [hlen x hx.gin.flen]; omega)]; omega
  have hbk : ∀ s,gI (toD (backF x)) s <= 4000000000000:=fun s => by
   obtain ⟨h2,h3⟩:=hx.back hp
   by_cases e2 : s < K
   ·rw [h3 s e2]; split <;> omega
   ·rw [gI_out (by rw [hlen (backF x) h2.flen]; omega)]; omega
  have:=Bg.early_some x K 0 fin aa m ac W hok hI hA hm h0 (fun a ha => by
   have hw:=hwt a ha
   have hd:=hdst a ha
   have hto:=hx.gin.to_arc ha (by omega)
   have hup:=hah a.src.toNat
   have hlo : 0 <= gI (toD x) a.src.toNat:=hto.1
   show 0 <= a.wt + (gI (toD x) a.dst.toNat - gI (toD x) a.src.toNat) /\ a.wt + (gI (toD x) a.dst.toNat - gI (toD x) a.src.toNat) <= 10000000000000
   omega) hah hbk hfi
  rw [hx.again hp] at this
  exact this
end
def LeRes (x : FstD) (K : Nat) (w : World) (e : Ending) (w' : World) : Prop :=
 ∃ (k : Int) (ga : Option Addr) (gn gc : Nat) (ba : Option Addr) (bn bc : Nat),e = .returned (.agg #[.int .i64 k,.int .i64 0,.slice ga gn gc,.slice ba bn bc]) /\ JoP x K (w.heap.size + 2) k (.slice ga gn gc) (.slice ba bn bc) w' /\ Below w.heap.size w w'
set_option maxHeartbeats 3200000 in
theorem leastOf_x (x : FstD) (K : Nat) (fin arcs : Value) (w : World) (hx : XIn x K) (hf : Fine x) (hI : ISlice w fin x.final) (hA : ASlice w arcs x.arcs) :
  Calls Try.prog 46 #[.agg #[.int .i64 (K : Int),.int .i64 0,fin,arcs]] w fun e w' => LeRes x K w e w':=by
 obtain ⟨fa,fn,fc,rfl,_,_⟩:=hI.lenOf
 obtain ⟨aa,am,ac,rfl,_,_⟩:=hA.lenOf
 obtain ⟨A1,hA1⟩ : ∃ W,W = w.alloc (.cells #[.int .i64 (K : Int),.int .i64 0,.slice fa fn fc,.slice aa am ac] 25):=⟨_,rfl⟩
 obtain ⟨A2,hA2⟩ : ∃ W,W = A1.alloc (.cells #[.int .i64 0,.int .i64 0,.slice none 0 0,.slice none 0 0] 25):=⟨_,rfl⟩
 have z1 : A1.heap.size = w.heap.size + 1:=by rw [hA1]; exact one_size _ _
 have z2 : A2.heap.size = w.heap.size + 2:=by rw [hA2,one_size,z1]
 have k1 : Below w.heap.size w A1:=by rw [hA1]; exact bel_up (bel_self _) _
 have k2 : Below A1.heap.size A1 A2:=by rw [hA2]; exact bel_up (bel_self _) _
 have hk:=bel_on k1 k2
 have hz : ZBlock A2 (w.heap.size + 1):=by unfold ZBlock; rw [hA2,<- z1]; exact heap_alloc_new A1 _
 have hX1 : A1.heap[w.heap.size]? = some (.cells #[.int .i64 (K : Int),.int .i64 0,.slice fa fn fc,.slice aa am ac] 25 (0,0)):=by rw [hA1]; exact heap_alloc_new w _
 have hX2:=heap_bel k2 hX1
 have htr:=trim_x hx hf (hI.below hk) (hA.below hk)
 have HX:=hid_of (And.intro hx (And.intro hf (hx.jin hf)))
 rw [hA2,hA1] at htr
 have HA:=hid_of (And.intro hA1 hA2)
 clear hI hA hA1 hA2 hX1 k1 k2 z1 hx hf
 go_enter Try.func46,Try.ntmps46
 go_wp2_with fail
 refine htr.mono ?_
 rintro e w3 ⟨fa3,fn3,fc3,aa3,m,ac3,rfl,hF3,hb3⟩
 rw [<- HA.out.1,<- HA.out.2] at hb3 hF3
 clear htr HA
 have hX3:=heap_bel hb3 hX2
 have f0:=Go.Joins.unfrozen_of_block hX3 0
 have f1:=Go.Joins.unfrozen_of_block hX3 1
 have f2:=Go.Joins.unfrozen_of_block hX3 2
 have f3:=Go.Joins.unfrozen_of_block hX3 3
 have p0 : w3.cell? ⟨w.heap.size,0,none⟩ = some (.int .i64 (K : Int)):=by rw [Go.Joins.cell_of_block hX3]; rfl
 have p1 : w3.cell? ⟨w.heap.size,1,none⟩ = some (.int .i64 0):=by rw [Go.Joins.cell_of_block hX3]; rfl
 have p2 : w3.cell? ⟨w.heap.size,2,none⟩ = some (.slice fa fn fc):=by rw [Go.Joins.cell_of_block hX3]; rfl
 have p3 : w3.cell? ⟨w.heap.size,3,none⟩ = some (.slice aa am ac):=by rw [Go.Joins.cell_of_block hX3]; rfl
 obtain ⟨W4,hW4⟩ : ∃ W,W = (((w3.setCell ⟨w.heap.size,0,none⟩ (.int .i64 (K : Int))).setCell ⟨w.heap.size,1,none⟩ (.int .i64 0)).setCell ⟨w.heap.size,2,none⟩ (.slice fa3 fn3 fc3)).setCell ⟨w.heap.size,3,none⟩ (.slice aa3 m ac3):=⟨_,rfl⟩
 have hz4 : ZBlock W4 (w.heap.size + 1):=by rw [hW4]; exact zb_set4 (heap_bel hb3 hz) (Nat.succ_ne_self _) _ _ _ _
 have hb4 : Below w.heap.size w W4:=by rw [hW4]; exact bel_set4 (bel_on hk hb3) (Nat.le_refl _) _ _ _ _
 have hc4 : CellsF W4 w.heap.size (K : Int) 0 (.slice fa3 fn3 fc3) (.slice aa3 m ac3):=by rw [hW4]; exact set4_cells p0 p1 p2 p3 _ _ _ _
 have hF4:=hF3 W4 (fun b hb _ => by rw [hW4]; exact far4H (by omega) _ _ _ _)
 have hml : x.arcs.length = m:=by obtain ⟨_,_,_,e,h,_⟩:=hF4.2.lenOf; injection e with _ e _; omega
 have hea:=early_x HX.out.1 HX.out.2.1 (.slice fa3 fn3 fc3) aa3 m ac3 W4 hml hF4.1 hF4.2
 obtain ⟨r0,r1,r2,r3⟩:=hc4
 have HW4:=hid_of hW4
 rw [hW4] at hea r0 r1 r2 r3
 have hsz4:=heap_lt hz4
 clear hX2 hX3 hF3 hF4 hb3 hk hz hW4
 go_wp2_with fail
 refine hea.mono ?_
 rintro e w5 ⟨g1,c1,ba,bc,rfl,hN5,hg5,hA5,hb5⟩
 rw [<- HW4.out] at hb5 hg5 hA5
 have hjo:=joined_x x K _ _ w5 HX.out.1 HX.out.2.2 (hN5.slice c1 (by have:=HX.out.2.2.n2; unfold maxLen; omega)) (hA5.slice bc)
 clear hea r0 r1 r2 r3 f0 f1 f2 f3 p0 p1 p2 p3 hN5 hg5 hA5
 go_wp2_with fail
 refine hjo.mono ?_
 rintro e w6 ⟨k,ga,gn,gc,ba6,bn,bc6,rfl,hP,hb6⟩
 obtain ⟨z0,z1,z2,z3,y0,y1,y2,y3⟩:=zfacts (heap_bel (bel_on hb5 hb6) hz4)
 have HP:=hid_of hP
 have HB:=hid_of (bel_on hb4 (bel_on hb5 hb6))
 have h56:=hb5.size
 clear hjo hP hb6 hb4 hz4 HW4
 go_wp2
 exact bodyPost_ret (v:=.agg #[.int .i64 k,.int .i64 0,.slice ga gn gc,.slice ba6 bn bc6]) (by simp [results,Try.results46,go_sem, *]) rfl ⟨k,ga,gn,gc,ba6,bn,bc6,rfl,(HP.out.far fun b hb _ => far4H (by omega) _ _ _ _).mono (by omega),bel_set4 HB.out (by omega) _ _ _ _⟩
end Go.Proofs.Yteehgcbjmdideab
/- 'Determine',and the document's words,told together. -/
namespace Go.Proofs.Yteehgcbjmdideab
open Go.RowKit
theorem din_of {f : FstD} (hc : checkD f = 0) (hb : bothB f = true) (hs : silB f = false) (hr : ¬ RoundD f) : ∃ t N s0,DIn f t N s0:=by
 have hst : ∀ i,(fun i => @decide (Sc.Stays f i) (Classical.propDecidable _)) i = true ↔ Sc.Stays f i:=fun i => by simp
 have ht : Sc.IsTrim f (Sc.trimBy f fun i => @decide (Sc.Stays f i) (Classical.propDecidable _)):=⟨_,hst,rfl⟩
 exact ⟨_,_,_,hc,hb,hs,hr,ht,Sc.trim_in hc ht hb hs hr⟩
end Go.Proofs.Yteehgcbjmdideab
/- 'Least' of the program. (Made by wip/gen/kjc.py.) -/
namespace Go.Proofs.Yteehgcbjmdideab
open Go.RowKit
attribute [local go_sem ↓] Go.wp_at_zero Go.wp_at_succ
set_option maxHeartbeats 1600000 in
theorem least_bad (f : FstD) (fin arcs : Value) (w : World) (hf : ISlice w fin f.final) (ha : ASlice w arcs f.arcs) (hc : checkD f ≠ 0) :
  Calls Try.prog 18 #[.agg #[.int .i64 f.states,.int .i64 f.start,fin,arcs]] w fun e w' => NoFst w (checkD f) e w':=by
 obtain ⟨fa,fn,fc,rfl,_,_⟩:=hf.lenOf
 obtain ⟨ba,bn,bc,rfl,_,_⟩:=ha.lenOf
 obtain ⟨c,hcc⟩ : ∃ c,c = checkD f:=⟨_,rfl⟩
 rw [<- hcc] at hc
 rw [<- hcc]
 have h0n : (c != 0) = true:=by simpa using hc
 have hall:=all_at2 f _ _ c w hf ha hcc.symm
 clear hc hcc
 go_enter Try.func18,Try.ntmps18
 go_wp2_with (go_at_call 45; refine hall.mono ?_; rintro e w1 ⟨rfl,hb1,_,hz1,_,_⟩; obtain ⟨z0,z1,z2,z3,y0,y1,y2,y3⟩:=zfacts hz1)
 exact bodyPost_ret (v:=.tuple #[.agg #[.int .i64 0,.int .i64 0,.slice none 0 0,.slice none 0 0],.int .i64 c]) (by simp [results,Try.results18,go_sem, *]) rfl ⟨rfl,bel_set4 hb1 (by omega) _ _ _ _⟩
set_option maxHeartbeats 1600000 in
theorem least_big (f : FstD) (fin arcs : Value) (w : World) (hf : ISlice w fin f.final) (ha : ASlice w arcs f.arcs) (hc : checkD f = 0) (hs : 12 < f.states) :
  Calls Try.prog 18 #[.agg #[.int .i64 f.states,.int .i64 f.start,fin,arcs]] w fun e w' => NoFst w 2 e w':=by
 obtain ⟨fa,fn,fc,rfl,_,_⟩:=hf.lenOf
 obtain ⟨ba,bn,bc,rfl,_,_⟩:=ha.lenOf
 have hall:=all_at2 f _ _ 0 w hf ha hc
 clear hc
 go_enter Try.func18,Try.ntmps18
 go_wp2_with (go_at_call 45; refine hall.mono ?_; rintro e w1 ⟨rfl,hb1,hC1,hz1,_,_⟩; obtain ⟨z0,z1,z2,z3,y0,y1,y2,y3⟩:=zfacts hz1; obtain ⟨q0,q1,q2,q3⟩:=hC1)
 exact bodyPost_ret (v:=.tuple #[.agg #[.int .i64 0,.int .i64 0,.slice none 0 0,.slice none 0 0],.int .i64 2]) (by simp [results,Try.results18,go_sem, *]) rfl ⟨rfl,bel_set4 hb1 (by omega) _ _ _ _⟩
set_option maxHeartbeats 1600000 in
theorem least_err (f : FstD) (c : Int) (fin arcs : Value) (w : World) (hf : ISlice w fin f.final) (ha : ASlice w arcs f.arcs) (hc : checkD f = 0) (hs : ¬ 12 < f.states) (h0 : c ≠ 0)
  (hdet : ∀ W : World,ISlice W fin f.final -> ASlice W arcs f.arcs -> Calls Try.prog 7 #[.agg #[.int .i64 f.states,.int .i64 f.start,fin,arcs]] W fun e w' => NoFst W c e w') :
  Calls Try.prog 18 #[.agg #[.int .i64 f.states,.int .i64 f.start,fin,arcs]] w fun e w' => NoFst w c e w':=by
 obtain ⟨fa,fn,fc,rfl,_,_⟩:=hf.lenOf
 obtain ⟨ba,bn,bc,rfl,_,_⟩:=ha.lenOf
 have hall:=all_at2 f _ _ 0 w hf ha hc
 have HDT:=hid_of hdet
 have h0n : (c != 0) = true:=by simpa using h0
 clear hc hdet h0
 go_enter Try.func18,Try.ntmps18
 go_upto_region 7 with (first | (go_at_call 45; refine hall.mono ?_; rintro e w1 ⟨rfl,hb1,hC1,hz1,hI1,hA1⟩; have hde:=HDT.out w1 hI1 hA1; obtain ⟨q0,q1,q2,q3⟩:=hC1; clear hI1 hA1) | (go_at_call 7; refine hde.mono ?_; rintro e w2 ⟨rfl,hb2⟩; clear hde q0 q1 q2 q3))
 obtain ⟨Wb,hWb⟩ : ∃ W,W = w2.alloc (.cells #[.int .i64 0,.int .i64 0,.slice none 0 0,.slice none 0 0] 25):=⟨_,rfl⟩
 have hbL : Below w2.heap.size w2 Wb:=by rw [hWb]; exact bel_up (bel_self _) _
 rw [<- hWb]
 have HB:=hid_of (bel_on hb1 (bel_on hb2 hbL))
 obtain ⟨z0,z1,z2,z3,y0,y1,y2,y3⟩:=zfacts (heap_bel (bel_on hb2 hbL) hz1)
 have hzl:=heap_lt (heap_bel hb2 hz1)
 clear hWb hbL hz1
 go_wp2
 exact bodyPost_ret (v:=.tuple #[.agg #[.int .i64 0,.int .i64 0,.slice none 0 0,.slice none 0 0],.int .i64 c]) (by simp [results,Try.results18,go_sem, *]) rfl ⟨rfl,bel_set4 HB.out (by omega) _ _ _ _⟩
def LstRes (x : FstD) (K : Nat) (w : World) (e : Ending) (w' : World) : Prop :=
 ∃ (k : Int) (ga : Option Addr) (gn gc : Nat) (ba : Option Addr) (bn bc : Nat),e = .returned (.tuple #[.agg #[.int .i64 k,.int .i64 0,.slice ga gn gc,.slice ba bn bc],.int .i64 0]) /\ JoP x K (w.heap.size + 2) k (.slice ga gn gc) (.slice ba bn bc) w' /\ Below w.heap.size w w'
set_option maxHeartbeats 1600000 in
theorem least_ok (f x : FstD) (K m : Nat) (fin arcs : Value) (w : World) (hf : ISlice w fin f.final) (ha : ASlice w arcs f.arcs) (hc : checkD f = 0) (hs : ¬ 12 < f.states) (hx : XIn x K) (hfx : Fine x)
  (hdet : ∀ W : World,ISlice W fin f.final -> ASlice W arcs f.arcs -> Calls Try.prog 7 #[.agg #[.int .i64 f.states,.int .i64 f.start,fin,arcs]] W fun e w' => HasFst W K m x e w') :
  Calls Try.prog 18 #[.agg #[.int .i64 f.states,.int .i64 f.start,fin,arcs]] w fun e w' => LstRes x K w e w':=by
 obtain ⟨fa,fn,fc,rfl,_,_⟩:=hf.lenOf
 obtain ⟨ba,bn,bc,rfl,_,_⟩:=ha.lenOf
 have hall:=all_at2 f _ _ 0 w hf ha hc
 have HDT:=hid_of hdet
 have HX:=hid_of (And.intro hx hfx)
 have hK2 : K <= 200:=(hx.jin hfx).n2
 clear hc hdet hx hfx
 go_enter Try.func18,Try.ntmps18
 go_wp2_with (first | (go_at_call 45; refine hall.mono ?_; rintro e w1 ⟨rfl,hb1,hC1,hz1,hI1,hA1⟩; have hde:=HDT.out w1 hI1 hA1; obtain ⟨q0,q1,q2,q3⟩:=hC1; clear hI1 hA1) | (go_at_call 7; refine hde.mono ?_; rintro e w2 ⟨g1,c1,ra,rc,rfl,hN2,hg2,hA2,hb2⟩; clear hde q0 q1 q2 q3; have hbL : Below w2.heap.size w2 (w2.alloc (.cells #[.int .i64 (K : Int),.int .i64 0,.slice (some ⟨g1,0,none⟩) K c1,.slice ra m rc] 25)):=bel_up (bel_self _) _; have hle:=leastOf_x x K _ _ _ HX.out.1 HX.out.2 ((hN2.below hbL).slice c1 (by unfold maxLen; omega)) ((hA2.slice rc).below hbL); have HB:=hid_of (bel_on hb1 (bel_on hb2 hbL)); have HZ:=hid_of (heap_bel (bel_on hb2 hbL) hz1); clear hbL hN2 hg2 hA2) | (go_at_call 46; refine hle.mono ?_; rintro e w3 ⟨k,ga,gn,gc,ra3,rn3,rc3,rfl,hP,hb3⟩; clear hle; have HP:=hid_of hP; have HB3:=hid_of (bel_on HB.out hb3); obtain ⟨z0,z1,z2,z3,y0,y1,y2,y3⟩:=zfacts (heap_bel hb3 HZ.out); have hzl:=heap_lt HZ.out; clear hP hb3))
 exact bodyPost_ret (v:=.tuple #[.agg #[.int .i64 k,.int .i64 0,.slice ga gn gc,.slice ra3 rn3 rc3],.int .i64 0]) (by simp [results,Try.results18,go_sem, *]) rfl ⟨k,ga,gn,gc,ra3,rn3,rc3,rfl,(HP.out.far fun b hb _ => far4H (by omega) _ _ _ _).mono (by omega),bel_set4 HB3.out (by omega) _ _ _ _⟩
end Go.Proofs.Yteehgcbjmdideab
/- 'slices.Equal' of numbers and of arcs,'same' and 'Same' of the program. (Made by wip/gen/kjd.py.) -/
namespace Go.Proofs.Yteehgcbjmdideab
open Go.RowKit
attribute [local go_sem ↓] Go.wp_at_zero Go.wp_at_succ
set_option maxHeartbeats 1000000 in
theorem eqInts_any (u v : Value) (xs ys : List Int) (w : World) (hu : ISlice w u xs) (hv : ISlice w v ys) :
  Calls Try.prog 82 #[u,v] w fun e w' => e = .returned (.bool (decide (xs = ys))) /\ Below w.heap.size w w':=by
 obtain ⟨ua,n,uc,rfl,hul,hum⟩:=hu.lenOf
 obtain ⟨va,m,vc,rfl,hvl,hvm⟩:=hv.lenOf
 have HU : Hid (xs.length = n):=hul
 have HV : Hid (ys.length = m):=hvl
 unfold maxLen at hum hvm
 clear hul hvl
 by_cases hnm : n = m
 ·subst hnm
  go_enter Try.func82,Try.ntmps82
  go_wp2
  go_loopw [5,13] (fun _ i wr => ∃ k : Nat,k <= n /\ i = .int .i64 k /\ (∀ j,j < k -> xs.getD j 0 = ys.getD j 0) /\ Below w.heap.size w wr) (fun _ i _ => n - (intOf i).toNat)
  case atStart => exact ⟨0,Nat.zero_le _,rfl,fun j hj => absurd hj (Nat.not_lt_zero _),bel_self _⟩
  case round =>
   obtain ⟨k,hk,rfl,hall,hb⟩:=hrel
   have HA : Hid (∀ j,j < k -> xs.getD j 0 = ys.getD j 0):=hall
   clear hall
   by_cases hlt : k < n
   ·have hkw : IntKind.i64.wrap ((k : Int) + 1) = (k : Int) + 1:=wrap_in _ (by omega) (by omega)
    obtain ⟨b,off,rfl,hx⟩:=hu.some (by omega)
    obtain ⟨b',off',rfl,hy⟩:=hv.some (by omega)
    have c0:=(hx.below hb).cell k hlt
    have c1:=(hy.below hb).cell k hlt
    obtain ⟨x,hxk⟩ : ∃ x,x = xs.getD k 0:=⟨_,rfl⟩
    obtain ⟨y,hyk⟩ : ∃ y,y = ys.getD k 0:=⟨_,rfl⟩
    rw [<- hxk] at c0
    rw [<- hyk] at c1
    have HX : Hid (x = xs.getD k 0):=hxk
    have HY : Hid (y = ys.getD k 0):=hyk
    clear hxk hyk
    have hi : (k : Int) < n:=by omega
    by_cases hxy : x = y
    ·have hd : (x != y) = false:=by simp [hxy]
     go_wp2
     go_quiet (fail)
     go_wp2
     go_roundw
     case rel =>
      refine ⟨k + 1,by omega,by go_num,fun j hj => ?_,bel_drewN hb _⟩
      by_cases e : j = k
      ·subst e; rw [<- HX.out,<- HY.out]; exact hxy
      ·exact HA.out j (by omega)
     case measure => simp [intOf]; omega
    ·have hd : (x != y) = true:=by simpa using hxy
     have hd2 : (x == y) = false:=by simpa using hxy
     have hne : decide (xs = ys) = false:=by
      simp only [decide_eq_false_iff_not]
      intro h; apply hxy; rw [HX.out,HY.out,h]
     have HD : Hid (decide (xs = ys) = false):=hne
     clear hne
     go_wp2
     go_quiet (fail)
     go_wp2
     go_ret
     exact ⟨ret_bool HD.out.symm,bel_drewN hb _⟩
   ·have HD : Hid (xs = ys):=getD_ext 0 xs ys (by rw [HU.out,HV.out]) (fun j hj => HA.out j (by have:=HU.out; omega))
    have hi : ¬ (k : Int) < n:=by omega
    go_wp2
    go_ret
    exact ⟨ret_bool (by simp [HD.out]),hb⟩
 ·have hd : ((n : Int) == (m : Int)) = false:=by rw [beq_eq_false_iff_ne]; omega
  have hd' : (n == m) = false:=by simpa using hnm
  have HD : Hid (decide (xs = ys) = false):=by
   have h1:=HU.out
   have h2:=HV.out
   show decide (xs = ys) = false
   simp only [decide_eq_false_iff_not]
   intro h; subst h; omega
  go_enter Try.func82,Try.ntmps82
  go_wp2
  go_ret
  exact ⟨ret_bool HD.out.symm,bel_self _⟩
set_option maxHeartbeats 1000000 in
theorem eqArcs_any (u v : Value) (xs ys : List ArcD) (w : World) (hu : ASlice w u xs) (hv : ASlice w v ys) :
  Calls Try.prog 83 #[u,v] w fun e w' => e = .returned (.bool (@decide (xs = ys) (decAs xs ys))) /\ Below w.heap.size w w':=by
 obtain ⟨ua,n,uc,rfl,hul,hum⟩:=hu.lenOf
 obtain ⟨va,m,vc,rfl,hvl,hvm⟩:=hv.lenOf
 have HU : Hid (xs.length = n):=hul
 have HV : Hid (ys.length = m):=hvl
 unfold maxLen at hum hvm
 clear hul hvl
 by_cases hnm : n = m
 ·subst hnm
  go_enter Try.func83,Try.ntmps83
  go_wp2
  go_loopw [5,13] (fun _ i wr => ∃ k : Nat,k <= n /\ i = .int .i64 k /\ (∀ j,j < k -> xs.getD j a0 = ys.getD j a0) /\ Below w.heap.size w wr) (fun _ i _ => n - (intOf i).toNat)
  case atStart => exact ⟨0,Nat.zero_le _,rfl,fun j hj => absurd hj (Nat.not_lt_zero _),bel_self _⟩
  case round =>
   obtain ⟨k,hk,rfl,hall,hb⟩:=hrel
   have HA : Hid (∀ j,j < k -> xs.getD j a0 = ys.getD j a0):=hall
   clear hall
   by_cases hlt : k < n
   ·have hkw : IntKind.i64.wrap ((k : Int) + 1) = (k : Int) + 1:=wrap_in _ (by omega) (by omega)
    have k3:=hu.below hb
    have k4:=hv.below hb
    obtain ⟨b,off,rfl,hx⟩:=k3.some (by omega)
    obtain ⟨b',off',rfl,hy⟩:=k4.some (by omega)
    obtain ⟨x,hxk⟩ : ∃ x,x = xs.getD k a0:=⟨_,rfl⟩
    obtain ⟨y,hyk⟩ : ∃ y,y = ys.getD k a0:=⟨_,rfl⟩
    have c0:=hx.c0 k hlt
    have c1:=hx.c1 k hlt
    have c2:=hx.c2 k hlt
    have c3:=hx.c3 k hlt
    have c4:=hx.c4 k hlt
    rw [<- hxk] at c0 c1 c2 c3 c4
    have e0:=hy.c0 k hlt
    have e1:=hy.c1 k hlt
    have e2:=hy.c2 k hlt
    have e3:=hy.c3 k hlt
    have e4:=hy.c4 k hlt
    rw [<- hyk] at e0 e1 e2 e3 e4
    have HX : Hid (x = xs.getD k a0):=hxk
    have HY : Hid (y = ys.getD k a0):=hyk
    clear hxk hyk k3 k4
    have hi : (k : Int) < n:=by omega
    have hneq:=arcs_neq x y
    have hgd : Try.prog.eqGuardType Try.prog.depth 54 = false:=by kernel_rfl
    cases hxy : @decide (x = y) (decA x y)
    ·have HD : Hid (@decide (xs = ys) (decAs xs ys) = false):=by
      show @decide (xs = ys) (decAs xs ys) = false
      simp only [decide_eq_false_iff_not] at hxy ⊢
      intro h; apply hxy; rw [HX.out,HY.out,h]
     go_wp2
     go_quiet (fail)
     go_wp2
     go_ret
     exact ⟨ret_bool HD.out.symm,bel_drewN hb _⟩
    ·have HD : Hid (x = y):=(by have h:=hxy; simpa using h : x = y)
     go_wp2
     go_quiet (fail)
     go_wp2
     go_roundw
     case rel =>
      refine ⟨k + 1,by omega,by go_num,fun j hj => ?_,bel_drewN hb _⟩
      by_cases e : j = k
      ·subst e; rw [<- HX.out,<- HY.out]; exact HD.out
      ·exact HA.out j (by omega)
     case measure => simp [intOf]; omega
   ·have HD : Hid (xs = ys):=getD_ext a0 xs ys (by rw [HU.out,HV.out]) (fun j hj => HA.out j (by have:=HU.out; omega))
    have hi : ¬ (k : Int) < n:=by omega
    go_wp2
    go_ret
    exact ⟨ret_bool (by simp [HD.out]),hb⟩
 ·have hd : ((n : Int) == (m : Int)) = false:=by rw [beq_eq_false_iff_ne]; omega
  have hd' : (n == m) = false:=by simpa using hnm
  have HD : Hid (@decide (xs = ys) (decAs xs ys) = false):=by
   have h1:=HU.out
   have h2:=HV.out
   show @decide (xs = ys) (decAs xs ys) = false
   simp only [decide_eq_false_iff_not]
   intro h; subst h; omega
  go_enter Try.func83,Try.ntmps83
  go_wp2
  go_ret
  exact ⟨ret_bool HD.out.symm,bel_self _⟩
def sameL (f g : FstD) : Bool:=decide (f.states = g.states) && decide (f.final = g.final) && @decide (f.arcs = g.arcs) (decAs f.arcs g.arcs)
set_option maxHeartbeats 1600000 in
theorem lsame_any (f g : FstD) (fin arcs fin' arcs' : Value) (w : World) (hf : ISlice w fin f.final) (ha : ASlice w arcs f.arcs) (hf' : ISlice w fin' g.final) (ha' : ASlice w arcs' g.arcs) :
  Calls Try.prog 54 #[.agg #[.int .i64 f.states,.int .i64 f.start,fin,arcs],.agg #[.int .i64 g.states,.int .i64 g.start,fin',arcs']] w fun e w' =>
   e = .returned (.bool (sameL f g)) /\ Below w.heap.size w w':=by
 obtain ⟨fa,fn,fc,rfl,_,_⟩:=hf.lenOf
 obtain ⟨aa,am,ac,rfl,_,_⟩:=ha.lenOf
 obtain ⟨ga,gn,gc,rfl,_,_⟩:=hf'.lenOf
 obtain ⟨ba,bm,bc,rfl,_,_⟩:=ha'.lenOf
 obtain ⟨A1,hA1⟩ : ∃ W,W = w.alloc (.cells #[.int .i64 f.states,.int .i64 f.start,.slice fa fn fc,.slice aa am ac] 25):=⟨_,rfl⟩
 obtain ⟨A2,hA2⟩ : ∃ W,W = A1.alloc (.cells #[.int .i64 g.states,.int .i64 g.start,.slice ga gn gc,.slice ba bm bc] 25):=⟨_,rfl⟩
 have z1 : A1.heap.size = w.heap.size + 1:=by rw [hA1]; exact one_size _ _
 have k1 : Below w.heap.size w A1:=by rw [hA1]; exact bel_up (bel_self _) _
 have k2 : Below A1.heap.size A1 A2:=by rw [hA2]; exact bel_up (bel_self _) _
 have hk:=bel_on k1 k2
 have hcF : CellsF A2 w.heap.size f.states f.start (.slice fa fn fc) (.slice aa am ac):=(by rw [hA1]; exact cellsF_new _ _ _ _ _ _ : CellsF A1 w.heap.size f.states f.start (.slice fa fn fc) (.slice aa am ac)).below k2
 have hcG : CellsF A2 (w.heap.size + 1) g.states g.start (.slice ga gn gc) (.slice ba bm bc):=by rw [hA2,<- z1]; exact cellsF_new _ _ _ _ _ _
 have h82:=eqInts_any _ _ f.final g.final A2 (hf.below hk) (hf'.below hk)
 have HAR : Hid (∀ W,Below A2.heap.size A2 W -> Calls Try.prog 83 #[.slice aa am ac,.slice ba bm bc] W fun e w' => e = .returned (.bool (@decide (f.arcs = g.arcs) (decAs f.arcs g.arcs))) /\ Below W.heap.size W w'):=fun W h => eqArcs_any _ _ f.arcs g.arcs W ((ha.below hk).below h) ((ha'.below hk).below h)
 obtain ⟨f0,f1,f2,f3⟩:=id hcF
 obtain ⟨g0,g1,g2,g3⟩:=id hcG
 have HC:=hid_of (And.intro hcF hcG)
 have HK:=hid_of hk
 have HA:=hid_of (And.intro hA1 hA2)
 cases d1 : (f.states == g.states)
 ·rw [hA2,hA1] at h82 f0 f1 f2 f3 g0 g1 g2 g3
  clear hcF hcG hA1 hA2 k1 k2 z1 hf ha hf' ha'
  go_enter Try.func54,Try.ntmps54
  go_wp2
  rw [<- HA.out.1,<- HA.out.2]
  go_ret
  exact ⟨ret_bool (by simp at d1; simp [sameL,d1]),HK.out⟩
 ·obtain ⟨d2,hd2⟩ : ∃ d,d = decide (f.final = g.final):=⟨_,rfl⟩
  have HD2:=hid_of hd2
  rw [<- hd2] at h82
  rw [hA2,hA1] at h82 f0 f1 f2 f3 g0 g1 g2 g3
  clear hcF hcG hA1 hA2 k1 k2 z1 hf ha hf' ha' hd2
  cases d2
  ·go_enter Try.func54,Try.ntmps54
   go_wp2_with (go_at_call 82; refine h82.mono ?_; rintro e w2 ⟨rfl,hb2⟩; rw [<- HA.out.1,<- HA.out.2] at hb2; have HB2:=hid_of hb2; clear h82 hb2)
   go_ret
   exact ⟨ret_bool (by simp [sameL,<- HD2.out]),bel_on HK.out HB2.out⟩
  ·obtain ⟨d3,hd3⟩ : ∃ d,d = @decide (f.arcs = g.arcs) (decAs f.arcs g.arcs):=⟨_,rfl⟩
   have HD3:=hid_of hd3
   clear hd3
   go_enter Try.func54,Try.ntmps54
   go_wp2_with (first | (go_at_call 82; refine h82.mono ?_; rintro e w2 ⟨rfl,hb2⟩; rw [<- HA.out.1,<- HA.out.2] at hb2; have HB2:=hid_of hb2; clear h82; have h83:=HAR.out w2 hb2; rw [<- HD3.out] at h83; clear f0 f1 f2 f3 g0 g1 g2 g3; obtain ⟨f0,f1,f2,f3⟩:=HC.out.1.below hb2; obtain ⟨g0,g1,g2,g3⟩:=HC.out.2.below hb2; clear hb2) | (go_at_call 83; refine h83.mono ?_; rintro e w3 ⟨rfl,hb3⟩; have HB3:=hid_of hb3; clear h83 hb3))
   go_ret
   exact ⟨ret_bool (by rw [HD3.out]; simp at d1; simp [sameL,<- HD2.out,d1]),bel_on HK.out (bel_on HB2.out HB3.out)⟩
def OutP (x : FstD) (K : Nat) (o : FstD) : Prop:=∃ (cl : List Int) (n m : Nat) (C : List Int -> Nat) (κ : Nat -> List Int),ClsIn x K cl n /\ TabOf x K cl C κ /\ RunN κ (C []) m /\ o = ⟨(m : Int),0,(numN κ (C []) m).2.1,(numN κ (C []) m).2.2⟩
theorem JoP.out {x : FstD} {K B : Nat} {k : Int} {c d : Value} {W : World} (h : JoP x K B k c d W) : ∃ o,OutP x K o /\ o.states = k /\ o.start = 0 /\ ISlice W c o.final /\ ASlice W d o.arcs:=by
 obtain ⟨cl,n,m,C,κ,h1,h2,h3,h4,h5,h6,_⟩:=h
 exact ⟨_,⟨cl,n,m,C,κ,h1,h2,h3,rfl⟩,h4.symm,rfl,h5,h6⟩
def IsSame (x : FstD) (K : Nat) (y : FstD) (L : Nat) (w : World) (e : Ending) (w' : World) : Prop:=∃ o q,OutP x K o /\ OutP y L q /\ e = .returned (.tuple #[.bool (sameL o q),.int .i64 0]) /\ Below w.heap.size w w'
set_option maxHeartbeats 1600000 in
theorem Same_both (f g x y : FstD) (K L : Nat) (fin arcs fin' arcs' : Value) (w : World) (hf : ISlice w fin f.final) (ha : ASlice w arcs f.arcs) (hf' : ISlice w fin' g.final) (ha' : ASlice w arcs' g.arcs)
  (hle : ∀ W : World,ISlice W fin f.final -> ASlice W arcs f.arcs -> Calls Try.prog 18 #[.agg #[.int .i64 f.states,.int .i64 f.start,fin,arcs]] W fun e w' => LstRes x K W e w')
  (hle2 : ∀ W : World,ISlice W fin' g.final -> ASlice W arcs' g.arcs -> Calls Try.prog 18 #[.agg #[.int .i64 g.states,.int .i64 g.start,fin',arcs']] W fun e w' => LstRes y L W e w') :
  Calls Try.prog 23 #[.agg #[.int .i64 f.states,.int .i64 f.start,fin,arcs],.agg #[.int .i64 g.states,.int .i64 g.start,fin',arcs']] w fun e w' => IsSame x K y L w e w':=by
 obtain ⟨fa,fn,fc,rfl,_,_⟩:=hf.lenOf
 obtain ⟨aa,am,ac,rfl,_,_⟩:=ha.lenOf
 obtain ⟨ga,gn,gc,rfl,_,_⟩:=hf'.lenOf
 obtain ⟨ba,bm,bc,rfl,_,_⟩:=ha'.lenOf
 obtain ⟨A1,hA1⟩ : ∃ W,W = w.alloc (.cells #[.int .i64 f.states,.int .i64 f.start,.slice fa fn fc,.slice aa am ac] 25):=⟨_,rfl⟩
 obtain ⟨A2,hA2⟩ : ∃ W,W = A1.alloc (.cells #[.int .i64 g.states,.int .i64 g.start,.slice ga gn gc,.slice ba bm bc] 25):=⟨_,rfl⟩
 have z1 : A1.heap.size = w.heap.size + 1:=by rw [hA1]; exact one_size _ _
 have k1 : Below w.heap.size w A1:=by rw [hA1]; exact bel_up (bel_self _) _
 have k2 : Below A1.heap.size A1 A2:=by rw [hA2]; exact bel_up (bel_self _) _
 have hk:=bel_on k1 k2
 have hcG : CellsF A2 (w.heap.size + 1) g.states g.start (.slice ga gn gc) (.slice ba bm bc):=by rw [hA2,<- z1]; exact cellsF_new _ _ _ _ _ _
 have h18:=hle A2 (hf.below hk) (ha.below hk)
 have HL2 : Hid (∀ W : World,Below A2.heap.size A2 W -> Calls Try.prog 18 #[.agg #[.int .i64 g.states,.int .i64 g.start,.slice ga gn gc,.slice ba bm bc]] W fun e w' => LstRes y L W e w'):=fun W h => hle2 W ((hf'.below hk).below h) ((ha'.below hk).below h)
 have HK:=hid_of hk
 have HC:=hid_of hcG
 have HA:=hid_of (And.intro hA1 hA2)
 rw [hA2,hA1] at h18
 clear hA1 hA2 k1 k2 hf ha hf' ha' hk hle hle2 hcG z1
 go_enter Try.func23,Try.ntmps23
 go_upto_region 4 with (go_at_call 18; refine h18.mono ?_; rintro e w2 ⟨k,fa2,fn2,fc2,aa2,am2,ac2,rfl,hP2,hb2⟩; rw [<- HA.out.1,<- HA.out.2] at hb2; clear h18)
 obtain ⟨o,ho,rfl,hos,hoI,hoA⟩:=hP2.out
 obtain ⟨Wb,hWb⟩ : ∃ W,W = w2.alloc (.cells #[.int .i64 o.states,.int .i64 0,.slice fa2 fn2 fc2,.slice aa2 am2 ac2] 25):=⟨_,rfl⟩
 have hbb : Below w2.heap.size w2 Wb:=by rw [hWb]; exact bel_up (bel_self _) _
 have hb3:=bel_on hb2 hbb
 have h19:=HL2.out Wb hb3
 obtain ⟨g0,g1,g2,g3⟩:=HC.out.below hb3
 have HB3:=hid_of (bel_on HK.out hb3)
 have hcO : CellsF Wb w2.heap.size o.states 0 (.slice fa2 fn2 fc2) (.slice aa2 am2 ac2):=by rw [hWb]; exact cellsF_new _ _ _ _ _ _
 have HO:=hid_of (And.intro ho (And.intro hos (And.intro (hoI.below hbb) (And.intro (hoA.below hbb) hcO))))
 rw [<- hWb]
 clear hWb hbb hb2 hb3 hP2 ho hos hoI hoA hcO
 go_upto_region 7 with (go_at_call 18; refine h19.mono ?_; rintro e w4 ⟨k4,fa4,fn4,fc4,aa4,am4,ac4,rfl,hP4,hb4⟩; clear h19)
 obtain ⟨q,hq,rfl,hqs,hqI,hqA⟩:=hP4.out
 obtain ⟨Wd,hWd⟩ : ∃ W,W = w4.alloc (.cells #[.int .i64 q.states,.int .i64 0,.slice fa4 fn4 fc4,.slice aa4 am4 ac4] 25):=⟨_,rfl⟩
 have hbd : Below w4.heap.size w4 Wd:=by rw [hWd]; exact bel_up (bel_self _) _
 have hb5:=bel_on hb4 hbd
 have hcQ : CellsF Wd w4.heap.size q.states 0 (.slice fa4 fn4 fc4) (.slice aa4 am4 ac4):=by rw [hWd]; exact cellsF_new _ _ _ _ _ _
 have hls:=lsame_any o q _ _ _ _ Wd (HO.out.2.2.1.below hb5) (HO.out.2.2.2.1.below hb5) (hqI.below hbd) (hqA.below hbd)
 rw [HO.out.2.1,hqs] at hls
 clear g0 g1 g2 g3
 obtain ⟨g0,g1,g2,g3⟩:=HO.out.2.2.2.2.below hb5
 obtain ⟨r0,r1,r2,r3⟩:=hcQ
 have HQ:=hid_of (And.intro hq (bel_on HB3.out hb5))
 rw [<- hWd]
 clear hWd hbd hb4 hb5 hP4 hq hqs hqI hqA
 go_wp2_with (go_at_call 54; refine hls.mono ?_; rintro e w6 ⟨rfl,hb6⟩; have HB6:=hid_of hb6; clear hls hb6)
 exact bodyPost_ret (v:=.tuple #[.bool (sameL o q),.int .i64 0]) (by simp [results,Try.results23,go_sem, *]) rfl ⟨o,q,HO.out.1,HQ.out.1,rfl,bel_on HQ.out.2 HB6.out⟩
end Go.Proofs.Yteehgcbjmdideab
/- What is so of the one transducer that determineBegun looks at. -/
namespace Go.Proofs.Yteehgcbjmdideab
open Go.RowKit
def sameF : FstD:=⟨2,0,[-1,1],[⟨0,1,1,1,5⟩]⟩
def sameG : FstD:=⟨2,0,[-1,0],[⟨0,1,1,1,6⟩]⟩
theorem sameF_chk : checkD sameF = 0:=by decide
theorem sameG_chk : checkD sameG = 0:=by decide
theorem same_trim {t : FstD} (h : Sc.IsTrim sameF t) : t = sameF:=by
 refine h.unique ⟨fun i => decide (i < 2),fun i => ?_,rfl⟩
 rw [decide_eq_true_iff]
 have r0 : Sc.ReachP 2 (Sc.pairsA sameF) (Sc.firstA sameF) 0:=Sc.Reach.first ⟨by decide,by decide⟩
 have r1 : Sc.ReachP 2 (Sc.pairsA sameF) (Sc.firstA sameF) 1:=Sc.Reach.on r0 (by decide)
 have b1 : Sc.ReachP 2 (Sc.pairsB sameF) (Sc.firstB sameF) 1:=Sc.Reach.first ⟨by decide,by decide⟩
 have b0 : Sc.ReachP 2 (Sc.pairsB sameF) (Sc.firstB sameF) 0:=Sc.Reach.on b1 (by decide)
 constructor
 ·intro hi
  have : i = 0 \/ i = 1:=by omega
  rcases this with rfl | rfl
  ·exact ⟨r0,b0⟩
  ·exact ⟨r1,b1⟩
 ·intro hs
  exact hs.1.lt (by decide)
theorem sub0 : (subR sameF 2 0).ms.length = 1:=by decide
theorem sub1 : (subR sameF 2 1).ms.length = 2:=by decide
theorem sub2 : (subR sameF 2 2).ms.length = 2 /\ (subR sameF 2 2).fin = [-1,1] /\ (subR sameF 2 2).ars = [⟨0,1,1,1,5⟩]:=⟨by decide,by decide,rfl⟩
theorem same_early : earlyD sameF = sameG:=rfl
theorem same_all : gI (toD sameF) 0 = 6:=by decide
theorem same_round : ¬ RoundD sameF:=by
 rintro ⟨v,_,u,h1,u',h2,_⟩
 have e : edgesE sameF.arcs = [(0,1)]:=by decide
 rw [e] at h1 h2
 have e1:=List.mem_singleton.1 h1
 have e2:=List.mem_singleton.1 h2
 injection e1 with e1 _
 injection e2 with _ e2
 omega
end Go.Proofs.Yteehgcbjmdideab
