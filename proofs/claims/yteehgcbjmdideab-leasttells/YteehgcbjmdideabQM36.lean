/- What 'numbered' has in memory in its second loop. -/
import Derived.Test.YteehgcbjmdideabQM35
import Derived.Test.YteehgcbjmdideabQOwF
import Derived.Test.YteehgcbjmdideabQM33
namespace Go.Proofs.Yteehgcbjmdideab
open Go.RowKit Go.ChangeMaps
structure NG (w wr : World) (Mb Q Ab : Nat) (κ : Nat -> List Int) (ks : List Nat) (mv fv av : Value) (met : List Nat) (fs : List Int) (rs : List ArcD) : Prop where
 bel : Below w.heap.size w wr
 res : ZBlock wr w.heap.size
 km : KM wr Mb κ ks
 q0 : wr.cell? ⟨Q,0,none⟩ = some (.int .i64 0)
 q1 : wr.cell? ⟨Q,1,none⟩ = some (.int .i64 0)
 q2 : wr.cell? ⟨Q,2,none⟩ = some fv
 q3 : wr.cell? ⟨Q,3,none⟩ = some av
 qf : ∀ i,wr.frozen? ⟨Q,i,none⟩ = false
 mo : wr.ownsRow (Q + 1) 3 1 mv met.length (intsW (met.map fun x : Nat => (x : Int)))
 fo : wr.ownsRow (Q + 1) 3 1 fv fs.length (intsW fs)
 ao : wr.ownsRow (Q + 1) 54 5 av rs.length (arcsV rs)
 an : NumM wr Ab met.zipIdx
 hM : w.heap.size < Mb
 hQ : Mb < Q
 hA : Q < Ab
 ma : mv.ownBlock ≠ some Ab
 fa : fv.ownBlock ≠ some Ab
 aa : av.ownBlock ≠ some Ab
 mf : ∀ b,mv.ownBlock = some b -> fv.ownBlock ≠ some b
 mr : ∀ b,mv.ownBlock = some b -> av.ownBlock ≠ some b
 fr : ∀ b,fv.ownBlock = some b -> av.ownBlock ≠ some b
section
variable {w wr wx : World} {Mb Q Ab : Nat} {κ : Nat -> List Int} {ks : List Nat} {mv fv av mv' fv' av' : Value} {met : List Nat} {fs : List Int} {rs : List ArcD}
theorem NG.below (h : NG w wr Mb Q Ab κ ks mv fv av met fs rs) (hb : Below wr.heap.size wr wx) : NG w wx Mb Q Ab κ ks mv fv av met fs rs :=
 ⟨bel_on h.bel hb,heap_bel hb h.res,h.km.below hb,bel_c hb h.q0,bel_c hb h.q1,bel_c hb h.q2,bel_c hb h.q3,fun i => (hb.frozen (p:=⟨Q,i,none⟩) (cell_lt h.q0)).trans (h.qf i),ownsRow_bel h.mo hb,ownsRow_bel h.fo hb,ownsRow_bel h.ao hb,h.an.block (hb.block Ab h.an.lt),h.hM,h.hQ,h.hA,h.ma,h.fa,h.aa,h.mf,h.mr,h.fr⟩
theorem NG.final (h : NG w wr Mb Q Ab κ ks mv fv av met fs rs) {x : Int} (hg : wr.grownBy wx fv.ownBlock) (ho : wx.ownsRow (Q + 1) 3 1 fv' (fs.length + 1) (intsW fs ++ [.int .i64 x])) (hv : fv'.ownBlock = fv.ownBlock \/ fv'.ownBlock = some wr.heap.size) :
  NG w (wx.setCell ⟨Q,2,none⟩ fv') Mb Q Ab κ ks mv fv' av met (fs ++ [x]) rs:=by
 have a1:=h.hM
 have a2:=h.hQ
 have a3:=h.hA
 have hQl:=cell_lt h.q0
 have hlo : ∀ b,fv.ownBlock = some b -> Q < b:=fun b hb => own_base h.fo b hb
 have hne : ∀ b,b <= Q -> some b ≠ fv.ownBlock:=fun b hb e => by have:=hlo b e.symm; omega
 have bQ : wx.heap[Q]? = wr.heap[Q]?:=hg.block Q hQl (hne Q (Nat.le_refl _))
 have hfQ : fv'.ownBlock ≠ some Q:=fun e => by have:=own_base ho Q e; omega
 have hfb : ∀ b,fv'.ownBlock = some b -> b < wr.heap.size -> fv.ownBlock = some b:=fun b hb hl => by
  rcases hv with hv | hv
  ·rw [<- hv]; exact hb
  ·rw [hv] at hb; injection hb with hb; omega
 refine ⟨(h.bel.grown hg (by have:=h.bel.size; omega) (fun b hb => by have:=hlo b hb; omega)).setCell (p:=⟨Q,2,none⟩) (by show w.heap.size <= Q; omega) _,heap_far ((hg.block _ (heap_lt h.res) (hne _ (by omega))).trans h.res) (by omega),(h.km.block (hg.block _ h.km.lt (hne _ (by omega)))).block (Below.heap_setCell wx ⟨Q,2,none⟩ fv' Mb (by show Mb ≠ Q; omega)),?_,?_,?_,?_,fun i => by rw [World.frozen?_setCell]; exact frz_block bQ (h.qf i),?_,?_,?_,(h.an.block (hg.block _ h.an.lt (fun e => h.fa e.symm))).block (Below.heap_setCell wx ⟨Q,2,none⟩ fv' Ab (by show Ab ≠ Q; omega)),a1,a2,a3,h.ma,fun e => h.fa (hfb Ab e h.an.lt),h.aa,fun b hb e => h.mf b hb (hfb b e (ownsRow_lt0 h.mo b hb)),h.mr,fun b hb e => h.fr b (hfb b hb (ownsRow_lt0 h.ao b e)) e⟩
 ·rw [World.cell?_setCell_other _ _ _ _ (by intro e1; injection e1 with _ e2; omega)]
  exact cells_same bQ h.q0
 ·rw [World.cell?_setCell_other _ _ _ _ (by intro e1; injection e1 with _ e2; omega)]
  exact cells_same bQ h.q1
 ·exact World.cell?_setCell_same _ _ _ (cells_same bQ h.q2)
 ·rw [World.cell?_setCell_other _ _ _ _ (by intro e1; injection e1 with _ e2; omega)]
  exact cells_same bQ h.q3
 ·refine ownsRow_setCell_far (own_same h.mo fun b hb => hg.block b (ownsRow_lt0 h.mo b hb) (fun e => h.mf b hb e.symm)) (fun e => ?_)
  have:=own_base h.mo Q e
  omega
 ·have e1 : (fs ++ [x]).length = fs.length + 1:=by simp
  have e2 : intsW (fs ++ [x]) = intsW fs ++ [.int .i64 x]:=by simp [intsW]
  rw [e1,e2]
  exact ownsRow_setCell_far ho hfQ
 ·refine ownsRow_setCell_far (own_same h.ao fun b hb => hg.block b (ownsRow_lt0 h.ao b hb) (fun e => h.fr b e.symm hb)) (fun e => ?_)
  have:=own_base h.ao Q e
  omega
theorem NG.arc (h : NG w wr Mb Q Ab κ ks mv fv av met fs rs) {a : ArcD} (hg : wr.grownBy wx av.ownBlock) (ho : wx.ownsRow (Q + 1) 54 5 av' (rs.length + 1) (arcsV rs ++ arcCells a)) (hv : av'.ownBlock = av.ownBlock \/ av'.ownBlock = some wr.heap.size) :
  NG w (wx.setCell ⟨Q,3,none⟩ av') Mb Q Ab κ ks mv fv av' met fs (rs ++ [a]):=by
 have a1:=h.hM
 have a2:=h.hQ
 have a3:=h.hA
 have hQl:=cell_lt h.q0
 have hlo : ∀ b,av.ownBlock = some b -> Q < b:=fun b hb => own_base h.ao b hb
 have hne : ∀ b,b <= Q -> some b ≠ av.ownBlock:=fun b hb e => by have:=hlo b e.symm; omega
 have bQ : wx.heap[Q]? = wr.heap[Q]?:=hg.block Q hQl (hne Q (Nat.le_refl _))
 have hfQ : av'.ownBlock ≠ some Q:=fun e => by have:=own_base ho Q e; omega
 have hfb : ∀ b,av'.ownBlock = some b -> b < wr.heap.size -> av.ownBlock = some b:=fun b hb hl => by
  rcases hv with hv | hv
  ·rw [<- hv]; exact hb
  ·rw [hv] at hb; injection hb with hb; omega
 refine ⟨(h.bel.grown hg (by have:=h.bel.size; omega) (fun b hb => by have:=hlo b hb; omega)).setCell (p:=⟨Q,3,none⟩) (by show w.heap.size <= Q; omega) _,heap_far ((hg.block _ (heap_lt h.res) (hne _ (by omega))).trans h.res) (by omega),(h.km.block (hg.block _ h.km.lt (hne _ (by omega)))).block (Below.heap_setCell wx ⟨Q,3,none⟩ av' Mb (by show Mb ≠ Q; omega)),?_,?_,?_,?_,fun i => by rw [World.frozen?_setCell]; exact frz_block bQ (h.qf i),?_,?_,?_,(h.an.block (hg.block _ h.an.lt (fun e => h.aa e.symm))).block (Below.heap_setCell wx ⟨Q,3,none⟩ av' Ab (by show Ab ≠ Q; omega)),a1,a2,a3,h.ma,h.fa,fun e => h.aa (hfb Ab e h.an.lt),h.mf,fun b hb e => h.mr b hb (hfb b e (ownsRow_lt0 h.mo b hb)),fun b hb e => h.fr b hb (hfb b e (ownsRow_lt0 h.fo b hb))⟩
 ·rw [World.cell?_setCell_other _ _ _ _ (by intro e1; injection e1 with _ e2; omega)]
  exact cells_same bQ h.q0
 ·rw [World.cell?_setCell_other _ _ _ _ (by intro e1; injection e1 with _ e2; omega)]
  exact cells_same bQ h.q1
 ·rw [World.cell?_setCell_other _ _ _ _ (by intro e1; injection e1 with _ e2; omega)]
  exact cells_same bQ h.q2
 ·exact World.cell?_setCell_same _ _ _ (cells_same bQ h.q3)
 ·refine ownsRow_setCell_far (own_same h.mo fun b hb => hg.block b (ownsRow_lt0 h.mo b hb) (fun e => h.mr b hb e.symm)) (fun e => ?_)
  have:=own_base h.mo Q e
  omega
 ·refine ownsRow_setCell_far (own_same h.fo fun b hb => hg.block b (ownsRow_lt0 h.fo b hb) (fun e => h.fr b hb e.symm)) (fun e => ?_)
  have:=own_base h.fo Q e
  omega
 ·have e1 : (rs ++ [a]).length = rs.length + 1:=by simp
  have e2 : arcsV (rs ++ [a]) = arcsV rs ++ arcCells a:=by simp [arcsV]
  rw [e1,e2]
  exact ownsRow_setCell_far ho hfQ
theorem NG.meet (h : NG w wr Mb Q Ab κ ks mv fv av met fs rs) {wy : World} {t : Nat} (hg : wr.grownBy wx (some Ab)) (hn : NumM wx Ab (met.zipIdx ++ [(t,met.length)])) (hg2 : wx.grownBy wy mv.ownBlock) (ho : wy.ownsRow (Q + 1) 3 1 mv' (met.length + 1) (intsW (met.map fun x : Nat => (x : Int)) ++ [.int .i64 (t : Int)])) (hv : mv'.ownBlock = mv.ownBlock \/ mv'.ownBlock = some wx.heap.size) :
  NG w wy Mb Q Ab κ ks mv' fv av (met ++ [t]) fs rs:=by
 have a1:=h.hM
 have a2:=h.hQ
 have a3:=h.hA
 have hQl:=cell_lt h.q0
 have hlo : ∀ b,mv.ownBlock = some b -> Q < b:=fun b hb => own_base h.mo b hb
 have hsz:=hg.size
 have bk : ∀ b,b < wr.heap.size -> b ≠ Ab -> mv.ownBlock ≠ some b -> wy.heap[b]? = wr.heap[b]?:=fun b hb h1 h2 => (hg2.block b (by omega) (fun e => h2 e.symm)).trans (hg.block b hb (fun e => by injection e with e; exact h1 e))
 have hne : ∀ b,b <= Q -> mv.ownBlock ≠ some b:=fun b hb e => by have:=hlo b e; omega
 have bQ : wy.heap[Q]? = wr.heap[Q]?:=bk Q hQl (by omega) (hne Q (Nat.le_refl _))
 have hfb : ∀ b,mv'.ownBlock = some b -> b < wr.heap.size -> mv.ownBlock = some b:=fun b hb hl => by
  rcases hv with hv | hv
  ·rw [<- hv]; exact hb
  ·rw [hv] at hb; injection hb with hb; omega
 refine ⟨(h.bel.grown hg (by have:=h.bel.size; omega) (fun b hb => by injection hb with hb; omega)).grown hg2 (by have:=h.bel.size; omega) (fun b hb => by have:=hlo b hb; omega),(bk _ (heap_lt h.res) (by omega) (hne _ (by omega))).trans h.res,h.km.block (bk _ h.km.lt (by omega) (hne _ (by omega))),cells_same bQ h.q0,cells_same bQ h.q1,cells_same bQ h.q2,cells_same bQ h.q3,fun i => frz_block bQ (h.qf i),?_,own_same h.fo fun b hb => bk b (ownsRow_lt0 h.fo b hb) (fun e => h.fa (by rw [hb,e])) (fun e => h.mf b e hb),own_same h.ao fun b hb => bk b (ownsRow_lt0 h.ao b hb) (fun e => h.aa (by rw [hb,e])) (fun e => h.mr b e hb),?_,a1,a2,a3,fun e => h.ma (hfb Ab e h.an.lt),h.fa,h.aa,fun b hb e => h.mf b (hfb b hb (ownsRow_lt0 h.fo b e)) e,fun b hb e => h.mr b (hfb b hb (ownsRow_lt0 h.ao b e)) e,h.fr⟩
 ·have e1 : (met ++ [t]).length = met.length + 1:=by simp
  have e2 : intsW ((met ++ [t]).map fun x : Nat => (x : Int)) = intsW (met.map fun x : Nat => (x : Int)) ++ [.int .i64 (t : Int)]:=by simp [intsW]
  rw [e1,e2]
  exact ho
 ·rw [List.zipIdx_append]
  have:=hn.block (hg2.block Ab hn.lt (fun e => h.ma e.symm))
  simpa using this
theorem NG.start {Mb : Nat} {κ : Nat -> List Int} {ks : List Nat} {w wr : World} (hbel : Below w.heap.size w wr) (hres : ZBlock wr w.heap.size) (hkm : KM wr Mb κ ks) (hM : w.heap.size < Mb) (x : Nat) (hx : x <= 1000000) :
  ∃ Wq,(Instr.mapUpdate 69 (.map (some (wr.heap.size + 1 + 1))) (.int .i64 (x : Int)) (.int .i64 0)).run Try.prog (((wr.alloc (.cells #[.int .i64 0,.int .i64 0,.slice none 0 0,.slice none 0 0] 25)).alloc (.cells #[.int .i64 (x : Int)] 3)).alloc (.map #[] 0)) = .ok () Wq /\
   NG w Wq Mb wr.heap.size (wr.heap.size + 1 + 1) κ ks (.slice (some ⟨wr.heap.size + 1,0,none⟩) 1 1) (.slice none 0 0) (.slice none 0 0) [x] [] []:=by
 obtain ⟨W1,hW1⟩ : ∃ W,W = wr.alloc (.cells #[.int .i64 0,.int .i64 0,.slice none 0 0,.slice none 0 0] 25):=⟨_,rfl⟩
 obtain ⟨W2,hW2⟩ : ∃ W,W = W1.alloc (.cells #[.int .i64 (x : Int)] 3):=⟨_,rfl⟩
 obtain ⟨W3,hW3⟩ : ∃ W,W = W2.alloc (.map #[] 0):=⟨_,rfl⟩
 rw [<- hW1,<- hW2,<- hW3]
 have z1 : W1.heap.size = wr.heap.size + 1:=by rw [hW1]; exact one_size _ _
 have z2 : W2.heap.size = wr.heap.size + 1 + 1:=by rw [hW2,one_size,z1]
 have k1 : Below wr.heap.size wr W1:=by rw [hW1]; exact bel_up (bel_self _) _
 have k2 : Below W1.heap.size W1 W2:=by rw [hW2]; exact bel_up (bel_self _) _
 have k3 : Below W2.heap.size W2 W3:=by rw [hW3]; exact bel_up (bel_self _) _
 have hn0 : NumM W3 (wr.heap.size + 1 + 1) []:=⟨#[],0,by rw [hW3,<- z2]; exact heap_alloc_new W2 _,rfl⟩
 obtain ⟨Wq,hput,hnq,hgq⟩:=num_put (c:=0) hn0 (fun p hp => (by cases hp)) hx (fun p hp => (by cases hp))
 refine ⟨Wq,hput,?_⟩
 have hZ : W1.heap[wr.heap.size]? = some (.cells #[.int .i64 0,.int .i64 0,.slice none 0 0,.slice none 0 0] 25 (0,0)):=by rw [hW1]; exact heap_alloc_new wr _
 have hZ3:=heap_bel (bel_on k2 k3) hZ
 have bk : ∀ b,b < W3.heap.size -> b ≠ wr.heap.size + 1 + 1 -> Wq.heap[b]? = W3.heap[b]?:=fun b hb hne => hgq.block b hb (fun e => by injection e with e; exact hne e)
 have z3 : W3.heap.size = wr.heap.size + 1 + 1 + 1:=by rw [hW3,one_size,z2]
 have k13:=bel_on k1 (bel_on k2 k3)
 have hws:=hbel.size
 have hkl:=hkm.lt
 have hrl:=heap_lt hres
 have hZq : Wq.heap[wr.heap.size]? = some (.cells #[.int .i64 0,.int .i64 0,.slice none 0 0,.slice none 0 0] 25 (0,0)):=(bk _ (by omega) (by omega)).trans hZ3
 have hmo : W2.ownsRow (wr.heap.size + 1) 3 1 (.slice (some ⟨wr.heap.size + 1,0,none⟩) 1 1) 1 [.int .i64 (x : Int)]:=by
  have:=World.ownsRow_lit (base:=wr.heap.size + 1) (e:=3) (size:=1) W1 #[.int .i64 (x : Int)] 1 (by omega) (by decide) rfl
  rw [z1] at this
  rw [hW2]
  exact this
 have hmq : Wq.ownsRow (wr.heap.size + 1) 3 1 (.slice (some ⟨wr.heap.size + 1,0,none⟩) 1 1) 1 [.int .i64 (x : Int)]:=own_same (ownsRow_bel hmo k3) (fun b hb => by
  have : wr.heap.size + 1 = b:=by simpa [Value.ownBlock] using hb
  exact bk b (by omega) (by omega))
 refine ⟨(bel_on hbel k13).grown hgq (by omega) (fun b hb => by injection hb with hb; omega),(bk _ (by omega) (by omega)).trans (heap_bel k13 hres),(hkm.below k13).block (bk _ (by omega) (by omega)),?_,?_,?_,?_,fun i => Go.Joins.unfrozen_of_block hZq i,hmq,World.ownsRow_nil _ _ _ _,World.ownsRow_nil _ _ _ _,hnq,hM,hkl,by omega,?_,?_,?_,?_,?_,?_⟩
 ·rw [Go.Joins.cell_of_block hZq]; rfl
 ·rw [Go.Joins.cell_of_block hZq]; rfl
 ·rw [Go.Joins.cell_of_block hZq]; rfl
 ·rw [Go.Joins.cell_of_block hZq]; rfl
 ·simp [Value.ownBlock]
 ·simp [Value.ownBlock]
 ·simp [Value.ownBlock]
 ·intro b _ h; simp [Value.ownBlock] at h
 ·intro b _ h; simp [Value.ownBlock] at h
 ·intro b _ h; simp [Value.ownBlock] at h
end
end Go.Proofs.Yteehgcbjmdideab
/- Leaps of a kind in memory; how many arcs there are; numbers of what is met. -/
namespace Go.Proofs.Yteehgcbjmdideab
open Go.RowKit Go.ChangeMaps
theorem size_leaps : (Try.prog.info? 133).map (·.size) = some 18:=by kernel_rfl
theorem size_leap : (Try.prog.info? 132).map (·.size) = some 2:=by kernel_rfl
theorem two_of {α : Type} {l : List α} {a b : α} {k : Nat} (h1 : l[k]? = some a) (h2 : l[k + 1]? = some b) : (l.drop k).take 2 = [a,b]:=by
 apply List.ext_getElem?
 intro i
 match i with
 | 0 => simp [List.getElem?_drop,h1]
 | 1 => simp [List.getElem?_drop,h2]
 | i + 2 =>
  rw [List.getElem?_take,if_neg (by omega)]
  rfl
theorem ints_at {l : List Int} {k : Nat} (hk : k < l.length) : (intsW l)[k]? = some (.int .i64 (gI l k)):=by
 unfold intsW gI
 rw [List.getElem?_map,List.getElem?_eq_getElem hk,List.getD_eq_getElem?_getD,List.getElem?_eq_getElem hk]
 rfl
theorem index_leap {l : List Int} (hl : l.length = 19) {i : Nat} (hi : i < 9) (W : World) : (Instr.index 133 (.agg (intsW (l.drop 1)).toArray) (.int .i64 (i : Int))).run Try.prog W = .ok (.agg #[.int .i64 (gI l (1 + i * 2)),.int .i64 (gI l (1 + i * 2 + 1))]) W:=by
 obtain ⟨fs,hu,_⟩:=fields_mk fields_leap
 have hz : ∃ inf,Try.prog.info? 132 = some inf /\ inf.size = 2:=by
  have:=size_leap
  rcases e : Try.prog.info? 132 with _ | inf
  ·rw [e] at this; cases this
  ·rw [e] at this
   injection this with this
   exact ⟨inf,rfl,this⟩
 obtain ⟨inf,hinf,hsz⟩:=hz
 have hs : ∀ w : World,(sizeOf 132).run Try.prog w = .ok 2 w:=fun w => by
  simp [sizeOf,typeInfo,hinf,hsz]
 have hx : List.take 2 (List.drop (i * 2) (intsW l.tail)) = [.int .i64 (gI l (1 + i * 2)),.int .i64 (gI l (1 + i * 2 + 1))]:=by
  have e : intsW l.tail = (intsW l).drop 1:=by unfold intsW; rw [<- List.drop_one,List.map_drop]
  have h1:=ints_at (l:=l) (k:=1 + i * 2) (by omega)
  have h2:=ints_at (l:=l) (k:=1 + i * 2 + 1) (by omega)
  have h3:=two_of h1 h2
  rw [e,List.drop_drop]
  exact h3
 simp [Instr.index,asIntOf,run_underlying und_leaps,Result.andThen]
 rw [if_pos hi]
 simp [part,isAgg,run_underlying hu,hs,Result.andThen]
 exact hx
theorem range_part {w : World} {b o k : Nat} {cs : List Value} (h : w.rangeAt b o cs) : w.rangeAt b (o + k) (cs.drop k):=fun j v hv => by
 rw [List.getElem?_drop] at hv
 have:=h (k + j) v hv
 rw [<- Nat.add_assoc] at this
 exact this
section
variable {k : List Int} {n : Nat} {S : List Nat × List ArcD}
theorem numStep_ars (i : Nat) : (numStep k n S i).2.length <= S.2.length + 1:=by
 unfold numStep
 split
 ·omega
 ·simp
theorem numLets_ars : ∀ i,(numLets k n S i).2.length <= S.2.length + i
 | 0 => Nat.le_refl _
 | i + 1 => by
  have h1:=numStep_ars (k:=k) (n:=n) (S:=numLets k n S i) i
  have h2:=numLets_ars i
  show (numStep k n (numLets k n S i) i).2.length <= _
  omega
end
theorem numN_ars (κ : Nat -> List Int) (c0 : Nat) : ∀ n,(numN κ c0 n).2.2.length <= 9 * n
 | 0 => Nat.le_refl _
 | n + 1 => by
  have h1:=numN_ars κ c0 n
  have h2:=numLets_ars (k:=κ ((numN κ c0 n).1.getD n 0)) (n:=n) (S:=((numN κ c0 n).1,(numN κ c0 n).2.2)) 9
  show (numLets (κ ((numN κ c0 n).1.getD n 0)) n ((numN κ c0 n).1,(numN κ c0 n).2.2) 9).2.length <= _
  dsimp only at h2
  omega
theorem own_len {w : World} {B e size n m c : Nat} {a : Option Addr} {xs : List Value} (h : w.ownsRow B e size (.slice a n c) m xs) : n = m:=by
 obtain ⟨a',c',e⟩:=own_slice h
 injection e
theorem grown_alloc {w w' : World} {row : Option Nat} (h : w.grownBy w' row) (o : Obj) : w.grownBy (w'.alloc o) row :=
 have hb : Below w'.heap.size w' (w'.alloc o):=bel_up (bel_self _) _
 ⟨hb.os.trans h.os,hb.tape.trans h.tape,hb.output.trans h.output,Nat.le_trans h.size hb.size,fun k hk hne => (hb.block k (Nat.lt_of_lt_of_le hk h.size)).trans (h.block k hk hne)⟩
theorem zip_mem {met : List Nat} {x c : Nat} (hn : met.Nodup) (h : (x,c) ∈ met.zipIdx) : c = met.idxOf x /\ x ∈ met:=by
 have h1:=List.mem_zipIdx_iff_getElem?.1 h
 dsimp only at h1
 obtain ⟨h2,h3⟩:=List.getElem?_eq_some_iff.1 h1
 refine ⟨?_,List.mem_of_getElem? h1⟩
 rw [<- h3]
 exact (List.Nodup.idxOf_getElem hn c h2).symm
theorem zip_not {met : List Nat} {x : Nat} (h : ∀ p ∈ met.zipIdx,p.1 ≠ x) : x ∉ met:=fun hx => by
 obtain ⟨j,hj⟩:=List.mem_iff_getElem?.1 hx
 exact h (x,j) (List.mem_zipIdx_iff_getElem?.2 hj) rfl
theorem zip_le {met : List Nat} {m : Nat} (h : ∀ x ∈ met,x < m) (hm : m <= 1000000) : ∀ p ∈ met.zipIdx,p.1 <= 1000000:=fun p hp => by
 have h1:=List.mem_zipIdx_iff_getElem?.1 hp
 have:=h p.1 (List.mem_of_getElem? h1)
 omega
end Go.Proofs.Yteehgcbjmdideab
/- One way for each word,told as early as may be: its classes tell which beginnings go on alike. -/
namespace Go.Proofs.Yteehgcbjmdideab
structure XIn (x : FstD) (K : Nat) : Prop where
 gin : GIn x K
 sta : x.start = 0
 k0 : 0 < K
 acc : AccD x
 lets : ∀ a ∈ x.arcs,1 <= a.inp /\ a.inp <= 9
 ord : x.arcs.Pairwise (fun a b => a.src < b.src \/ (a.src = b.src /\ a.inp < b.inp))
 rank : ∃ rk : Nat -> Nat,∀ e ∈ edgesE x.arcs,rk e.2 < rk e.1
 comes : ∀ k,k < K -> ∃ u z,WdR x 0 u k z
 early : ∀ k,0 < k -> k < K -> gI (toD x) k = 0
theorem arc_once {A : List ArcD} (ho : A.Pairwise (fun a b => a.src < b.src \/ (a.src = b.src /\ a.inp < b.inp))) {a b : ArcD} (ha : a ∈ A) (hb : b ∈ A) (h1 : a.src = b.src) (h2 : a.inp = b.inp) : a = b:=by
 obtain ⟨i,hi,rfl⟩:=List.mem_iff_getElem.1 ha
 obtain ⟨j,hj,rfl⟩:=List.mem_iff_getElem.1 hb
 have hp:=List.pairwise_iff_getElem.1 ho
 by_cases e : i = j
 ·subst e; rfl
 ·rcases Nat.lt_or_gt_of_ne e with h | h
  ·have:=hp i j hi hj h
   omega
  ·have:=hp j i hj hi h
   omega
theorem once_det {x : FstD} (ho : x.arcs.Pairwise (fun a b => a.src < b.src \/ (a.src = b.src /\ a.inp < b.inp))) (s : Nat) : ∀ (u : List Int) (k k' : Nat) (z z' : Int),WdR x s u k z -> WdR x s u k' z' -> k = k' /\ z = z'
 | [],k,k',z,z',h,h' => by
  obtain ⟨rfl,rfl⟩:=h
  obtain ⟨rfl,rfl⟩:=h'
  exact ⟨rfl,rfl⟩
 | c :: u,k,k',z,z',h,h' => by
  obtain ⟨a,ha,n,y,hr,hi,hs,hd,rfl⟩:=h
  obtain ⟨a',ha',n',y',hr',hi',hs',hd',rfl⟩:=h'
  obtain ⟨rfl,rfl⟩:=once_det ho s u n n' y y' hr hr'
  obtain rfl:=arc_once ho ha ha' (by omega) (by omega)
  exact ⟨by omega,rfl⟩
theorem endP_split {x : FstD} (ho : x.arcs.Pairwise (fun a b => a.src < b.src \/ (a.src = b.src /\ a.inp < b.inp))) {s k : Nat} {u : List Int} {z : Int} (hu : WdR x s u k z) (v : List Int) (y : Int) : EndP x s (v ++ u) y ↔ EndP x k v (y - z):=by
 constructor
 ·rintro ⟨n,c,hr,h0,rfl⟩
  obtain ⟨m,z1,h1,h2⟩:=(wdr_split v n c).1 hr
  obtain ⟨rfl,rfl⟩:=once_det ho s u _ _ _ _ hu h1
  exact ⟨n,_,h2,h0,by omega⟩
 ·rintro ⟨n,c,hr,h0,e⟩
  exact ⟨n,c + z,(wdr_split v n _).2 ⟨k,z,hu,by rw [show c + z - z = c by omega]; exact hr⟩,h0,by omega⟩
theorem endP_once {x : FstD} (ho : x.arcs.Pairwise (fun a b => a.src < b.src \/ (a.src = b.src /\ a.inp < b.inp))) {s : Nat} {u : List Int} {y y' : Int} (h : EndP x s u y) (h' : EndP x s u y') : y = y':=by
 obtain ⟨n,z,hr,_,rfl⟩:=h
 obtain ⟨n',z',hr',_,rfl⟩:=h'
 obtain ⟨rfl,rfl⟩:=once_det ho s u _ _ _ _ hr hr'
 rfl
section
variable {x : FstD} {K : Nat}
theorem XIn.wide (h : XIn x K) : WideA x K:=fun a ha => ⟨(h.gin.arcs a ha).1,(h.gin.arcs a ha).2.1,(h.gin.arcs a ha).2.2,by have:=(h.lets a ha).1; omega,(h.lets a ha).2⟩
theorem XIn.fin (h : XIn x K) (k : Nat) : gI x.final k = -1 \/ 0 <= gI x.final k:=gI_of _ (fun x => x = -1 \/ 0 <= x) h.gin.fin (Or.inl rfl) k
theorem XIn.no_back (h : XIn x K) {a : ArcD} (ha : a ∈ x.arcs) : a.dst ≠ 0:=by
 intro hd
 obtain ⟨rk,hr⟩:=h.rank
 have hb:=h.gin.arcs a ha
 obtain ⟨u,c,hu⟩:=h.comes a.src.toNat (by omega)
 have h1:=wdr_rank hr u 0 _ _ hu
 have h2:=hr _ (List.mem_map.2 ⟨a,ha,rfl⟩)
 dsimp only at h2
 rw [hd] at h2
 have : rk (Int.toNat 0) = rk 0:=rfl
 omega
theorem XIn.root (h : XIn x K) {u : List Int} {k : Nat} {z : Int} (hu : WdR x 0 u k z) : k = 0 ↔ u = []:=by
 cases u with
 | nil => obtain ⟨rfl,_⟩:=hu; simp
 | cons c u =>
  obtain ⟨a,ha,n,y,hr,hi,hs,hd,rfl⟩:=hu
  have:=h.no_back ha
  constructor
  ·intro e; omega
  ·intro e; cases e
theorem XIn.zero (h : XIn x K) {k : Nat} (h0 : 0 < k) (hk : k < K) : (∃ v,EndP x k v 0) /\ ∀ v y,EndP x k v y -> 0 <= y:=by
 have e:=h.early k h0 hk
 rcases h.gin.to k with ⟨e1,_⟩ | ⟨_,⟨v,m,z,h1,h2,h3⟩,h4⟩
 ·omega
 ·refine ⟨⟨v,m,z,h1,h2,by omega⟩,?_⟩
  rintro v' y ⟨m',z',h5,h6,rfl⟩
  have:=h4 v' m' z' h5 h6
  omega
theorem endP_nil {k : Nat} {y : Int} : EndP x k [] y ↔ 0 <= gI x.final k /\ y = gI x.final k:=by
 constructor
 ·rintro ⟨n,z,⟨rfl,rfl⟩,h0,rfl⟩; exact ⟨h0,by omega⟩
 ·rintro ⟨h0,rfl⟩; exact ⟨k,0,⟨rfl,rfl⟩,h0,by omega⟩
theorem endP_first {k : Nat} {v : List Int} {c y : Int} : EndP x k (v ++ [c]) y ↔ ∃ a ∈ x.arcs,∃ m : Nat,a.src = (k : Int) /\ a.inp = c /\ a.dst = (m : Int) /\ EndP x m v (y - a.wt):=by
 constructor
 ·rintro ⟨n,z,hr,h0,rfl⟩
  obtain ⟨a,ha,m,hs,hi,hd,hr⟩:=(wdr_first v k z).1 hr
  exact ⟨a,ha,m,hs,hi,hd,n,_,hr,h0,by omega⟩
 ·rintro ⟨a,ha,m,hs,hi,hd,n,z,hr,h0,e⟩
  exact ⟨n,z + a.wt,(wdr_first v k _).2 ⟨a,ha,m,hs,hi,hd,by rw [show z + a.wt - a.wt = z by omega]; exact hr⟩,h0,by omega⟩
theorem last_iff (ho : x.arcs.Pairwise (fun a b => a.src < b.src \/ (a.src = b.src /\ a.inp < b.inp))) {s c : Nat} {a : ArcD} : lastArc x.arcs s c = some a ↔ a ∈ x.arcs /\ a.src = (s : Int) /\ a.inp = (c : Int):=by
 unfold lastArc
 constructor
 ·intro h
  have:=List.mem_filter.1 (List.mem_of_getLast? h)
  refine ⟨this.1,?_⟩
  simpa using this.2
 ·rintro ⟨ha,hs,hc⟩
  have hm : a ∈ x.arcs.filter fun a => a.src == (s : Int) && a.inp == (c : Int):=List.mem_filter.2 ⟨ha,by simp [hs,hc]⟩
  rcases e : (x.arcs.filter fun a => a.src == (s : Int) && a.inp == (c : Int)).getLast? with _ | b
  ·rw [List.getLast?_eq_none_iff] at e
   rw [e] at hm
   cases hm
  ·have hb:=List.mem_filter.1 (List.mem_of_getLast? e)
   have hb2 : b.src = (s : Int) /\ b.inp = (c : Int):=by simpa using hb.2
   obtain rfl:=arc_once ho hb.1 ha (by omega) (by omega)
   exact e
theorem last_none (ho : x.arcs.Pairwise (fun a b => a.src < b.src \/ (a.src = b.src /\ a.inp < b.inp))) {s c : Nat} : lastArc x.arcs s c = none ↔ ∀ a ∈ x.arcs,¬ (a.src = (s : Int) /\ a.inp = (c : Int)):=by
 constructor
 ·rintro h a ha ⟨h1,h2⟩
  rw [(last_iff ho).2 ⟨ha,h1,h2⟩] at h
  cases h
 ·intro h
  rcases e : lastArc x.arcs s c with _ | a
  ·rfl
  ·have:=(last_iff ho).1 e
   exact absurd this.2 (h a this.1)
end
theorem kind_end (A : List ArcD) (fin cl : List Int) (s : Nat) : gI (kindL A fin cl s) 0 = gI fin s:=by
 rw [<- kcell_end A fin cl s]
 simp [gI,kindL,List.getD]
theorem kind_to (A : List ArcD) (fin cl : List Int) (s i : Nat) (hi : i < 9) : gI (kindL A fin cl s) (1 + i * 2) = leapTo A cl s (i + 1):=by
 rw [<- kcell_to A fin cl s i hi]
 unfold gI kindL
 rw [List.getD_eq_getElem?_getD,List.getElem?_map,List.getElem?_range (by omega)]
 show kcell A fin cl (s * 19 + (1 + i * 2)) = _
 rw [<- Nat.add_assoc]
theorem kind_co (A : List ArcD) (fin cl : List Int) (s i : Nat) (hi : i < 9) : gI (kindL A fin cl s) (1 + i * 2 + 1) = leapCo A s (i + 1):=by
 rw [<- kcell_co A fin cl s i hi]
 unfold gI kindL
 rw [List.getD_eq_getElem?_getD,List.getElem?_map,List.getElem?_range (by omega)]
 show kcell A fin cl (s * 19 + (1 + i * 2 + 1)) = _
 rw [show s * 19 + (1 + i * 2 + 1) = s * 19 + 1 + i * 2 + 1 by omega]
theorem kind_ext {A : List ArcD} {fin cl : List Int} {s s' : Nat} (h0 : gI fin s = gI fin s') (h1 : ∀ i,i < 9 -> leapTo A cl s (i + 1) = leapTo A cl s' (i + 1) /\ leapCo A s (i + 1) = leapCo A s' (i + 1)) : kindL A fin cl s = kindL A fin cl s':=by
 rw [kindL_eq]
 intro r hr
 by_cases r0 : r = 0
 ·subst r0
  rw [Nat.add_zero,Nat.add_zero,kcell_end,kcell_end]
  exact h0
 ·by_cases r1 : r % 2 = 1
  ·obtain ⟨i,hi,rfl⟩ : ∃ i,i < 9 /\ r = 1 + i * 2:=⟨r / 2,by omega,by omega⟩
   rw [<- Nat.add_assoc,<- Nat.add_assoc,kcell_to _ _ _ _ _ hi,kcell_to _ _ _ _ _ hi]
   exact (h1 i hi).1
  ·obtain ⟨i,hi,rfl⟩ : ∃ i,i < 9 /\ r = 1 + i * 2 + 1:=⟨r / 2 - 1,by omega,by omega⟩
   rw [show s * 19 + (1 + i * 2 + 1) = s * 19 + 1 + i * 2 + 1 by omega,show s' * 19 + (1 + i * 2 + 1) = s' * 19 + 1 + i * 2 + 1 by omega,kcell_co _ _ _ _ _ hi,kcell_co _ _ _ _ _ hi]
   exact (h1 i hi).2
structure ClsIn (x : FstD) (K : Nat) (cl : List Int) (n : Nat) : Prop where
 cls : Cls K cl n
 finer : Finer (kindL x.arcs x.final cl) K cl
 same : ∀ s s',s < K -> s' < K -> gI cl s = gI cl s' -> kindL x.arcs x.final cl s = kindL x.arcs x.final cl s'
section
variable {x : FstD} {K n : Nat} {cl : List Int}
theorem ClsIn.words (hc : ClsIn x K cl n) (h : XIn x K) : ∀ v : List Int,∀ k k' y,k < K -> k' < K -> gI cl k = gI cl k' -> EndP x k v y -> EndP x k' v y:=by
 refine snoc_ind ?_ ?_
 ·intro k k' y hk hk' e hv
  have hs:=hc.same k k' hk hk' e
  have h0:=kind_end x.arcs x.final cl k
  rw [hs,kind_end] at h0
  rw [endP_nil] at hv ⊢
  rw [h0]
  exact hv
 ·intro v c ih k k' y hk hk' e hv
  obtain ⟨a,ha,m,hs,hi,hd,hv2⟩:=endP_first.1 hv
  have hl:=h.lets a ha
  have hkk:=hc.same k k' hk hk' e
  obtain ⟨i,hi9,hci⟩ : ∃ i : Nat,i < 9 /\ c = ((i + 1 : Nat) : Int):=⟨(c - 1).toNat,by omega,by omega⟩
  subst hci
  have t1:=kind_to x.arcs x.final cl k i hi9
  have t2:=kind_co x.arcs x.final cl k i hi9
  rw [hkk,kind_to _ _ _ _ _ hi9] at t1
  rw [hkk,kind_co _ _ _ _ _ hi9] at t2
  have hb:=h.gin.arcs a ha
  have e1 : lastArc x.arcs k (i + 1) = some a:=(last_iff h.ord).2 ⟨ha,hs,hi⟩
  have hm : m < K:=by omega
  have hcm:=(hc.cls.lt m hm).1
  unfold leapTo at t1
  unfold leapCo at t2
  rcases e2 : lastArc x.arcs k' (i + 1) with _ | b
  ·simp only [e1,e2,hd,Int.toNat_natCast] at t1
   omega
  ·simp only [e1,e2,hd,Int.toNat_natCast] at t1 t2
   obtain ⟨hb1,hb2,hb3⟩:=(last_iff h.ord).1 e2
   have hbb:=h.gin.arcs b hb1
   have:=ih m b.dst.toNat (y - a.wt) hm (by omega) t1.symm hv2
   exact endP_first.2 ⟨b,hb1,b.dst.toNat,hb2,hb3,by omega,by rw [t2]; exact this⟩
theorem ClsIn.of_words (hc : ClsIn x K cl n) (h : XIn x K) {rk : Nat -> Nat} (hr : ∀ e ∈ edgesE x.arcs,rk e.2 < rk e.1) : ∀ d k k' : Nat,rk k < d -> k < K -> k' < K -> (∀ v y,EndP x k v y ↔ EndP x k' v y) -> gI cl k = gI cl k':=by
 intro d
 induction d with
 | zero => intro k k' h1; omega
 | succ d ih =>
  intro k k' hd hk hk' hw
  refine hc.finer k k' hk hk' (kind_ext ?_ fun i hi => ?_)
  ·have h1:=h.fin k
   have h2:=h.fin k'
   by_cases e : 0 <= gI x.final k
   ·exact (endP_nil.1 ((hw [] _).1 (endP_nil.2 ⟨e,rfl⟩))).2
   ·by_cases e2 : 0 <= gI x.final k'
    ·exact (endP_nil.1 ((hw [] _).2 (endP_nil.2 ⟨e2,rfl⟩))).2.symm
    ·omega
  ·have key : ∀ k k' : Nat,(∀ v y,EndP x k v y ↔ EndP x k' v y) -> ∀ a ∈ x.arcs,a.src = (k : Int) -> a.inp = ((i + 1 : Nat) : Int) -> ∃ b ∈ x.arcs,b.src = (k' : Int) /\ b.inp = ((i + 1 : Nat) : Int) /\ a.wt ≥ b.wt /\ ∀ v y,EndP x a.dst.toNat v (y - a.wt) -> EndP x b.dst.toNat v (y - b.wt):=by
    intro k k' hw a ha hs hi
    have hb:=h.gin.arcs a ha
    have hn:=h.no_back ha
    obtain ⟨⟨v,hv⟩,_⟩:=h.zero (k:=a.dst.toNat) (by omega) (by omega)
    have h1 : EndP x k (v ++ [a.inp]) a.wt:=endP_first.2 ⟨a,ha,a.dst.toNat,hs,rfl,by omega,by rw [Int.sub_self]; exact hv⟩
    obtain ⟨b,hb1,m,hb2,hb3,hb4,hb5⟩:=endP_first.1 ((hw _ _).1 h1)
    have hbb:=h.gin.arcs b hb1
    have hnb:=h.no_back hb1
    have h2:=(h.zero (k:=m) (by omega) (by omega)).2 _ _ hb5
    refine ⟨b,hb1,hb2,by omega,by omega,fun v y hv => ?_⟩
    have h3 : EndP x k (v ++ [a.inp]) y:=endP_first.2 ⟨a,ha,a.dst.toNat,hs,rfl,by omega,hv⟩
    obtain ⟨b',hb1',m',hb2',hb3',hb4',hb5'⟩:=endP_first.1 ((hw _ _).1 h3)
    obtain rfl:=arc_once h.ord hb1 hb1' (by omega) (by omega)
    rw [hb4',Int.toNat_natCast]
    exact hb5'
   have hws : ∀ v y,EndP x k' v y ↔ EndP x k v y:=fun v y => (hw v y).symm
   unfold leapTo leapCo
   rcases e1 : lastArc x.arcs k (i + 1) with _ | a
   ·rcases e2 : lastArc x.arcs k' (i + 1) with _ | b
    ·exact ⟨rfl,rfl⟩
    ·exfalso
     obtain ⟨b1,b2,b3⟩:=(last_iff h.ord).1 e2
     obtain ⟨a,a1,a2,a3,_⟩:=key k' k hws b b1 b2 b3
     exact (last_none h.ord).1 e1 a a1 ⟨a2,a3⟩
   ·obtain ⟨a1,a2,a3⟩:=(last_iff h.ord).1 e1
    obtain ⟨b,b1,b2,b3,b4,b5⟩:=key k k' hw a a1 a2 a3
    have e2 : lastArc x.arcs k' (i + 1) = some b:=(last_iff h.ord).2 ⟨b1,b2,b3⟩
    obtain ⟨a',a1',a2',a3',a4',a5'⟩:=key k' k hws b b1 b2 b3
    obtain rfl:=arc_once h.ord a1 a1' (by omega) (by omega)
    have hab:=h.gin.arcs a a1
    have hbb:=h.gin.arcs b b1
    have hrk:=hr _ (List.mem_map.2 ⟨a,a1,rfl⟩)
    dsimp only at hrk
    have ewt : a.wt = b.wt:=by omega
    have hsk : rk a.src.toNat = rk k:=by rw [a2,Int.toNat_natCast]
    simp only [e2]
    refine ⟨ih a.dst.toNat b.dst.toNat (by omega) (by omega) (by omega) fun v y => ⟨fun hv => ?_,fun hv => ?_⟩,ewt⟩
    ·have:=b5 v (y + a.wt) (by rw [show y + a.wt - a.wt = y by omega]; exact hv)
     rw [ewt,show y + b.wt - b.wt = y by omega] at this
     exact this
    ·have:=a5' v (y + b.wt) (by rw [show y + b.wt - b.wt = y by omega]; exact hv)
     rw [ewt,show y + b.wt - b.wt = y by omega] at this
     exact this
theorem XIn.alone (h : XIn x K) {k : Nat} (h0 : 0 < k) (hk : k < K) : ¬ ∀ v,(∃ y,EndP x 0 v y) -> ∃ y,EndP x k v y:=by
 intro hw
 obtain ⟨rk,hr⟩:=h.rank
 obtain ⟨u,z,hu⟩:=h.comes k hk
 have hu1 : u ≠ []:=fun e => by have:=(h.root hu).2 e; omega
 have hul : 1 <= u.length:=by
  cases u with
  | nil => exact absurd rfl hu1
  | cons c u => simp
 have long : ∀ m : Nat,∃ v y,m <= v.length /\ EndP x k v y:=by
  intro m
  induction m with
  | zero =>
   obtain ⟨⟨v,hv⟩,_⟩:=h.zero h0 hk
   exact ⟨v,0,Nat.zero_le _,hv⟩
  | succ m ih =>
   obtain ⟨v,y,h1,h2⟩:=ih
   have : EndP x 0 (v ++ u) (y + z):=(endP_split h.ord hu v _).2 (by rw [show y + z - z = y by omega]; exact h2)
   obtain ⟨y',hy'⟩:=hw _ ⟨_,this⟩
   exact ⟨v ++ u,y',by rw [List.length_append]; omega,hy'⟩
 obtain ⟨v,y,h1,n,z',hv,_⟩:=long (rk k + 1)
 have:=wdr_rank hr v k n z' hv
 omega
end
end Go.Proofs.Yteehgcbjmdideab
/- What a table of classes tells of the words: beginnings that go on alike,ends,letters. -/
namespace Go.Proofs.Yteehgcbjmdideab
def EndSame (t : FstD) (s0 : Nat) (x : FstD) (r0 : Nat) : Prop:=∀ u a b,MinP (EndP t s0 u) a -> MinP (EndP x r0 u) b -> a = b
theorem minP_of {p : Int -> Prop} (h0 : ∀ y,p y -> 0 <= y) : ∃ a,MinP p a:=by
 by_cases h : ∃ y,p y
 ·obtain ⟨x,h1,h2⟩:=least_of p h0 h
  exact ⟨x,Or.inr ⟨h0 x h1,h1,h2⟩⟩
 ·exact ⟨-1,Or.inl ⟨rfl,fun y hy => h ⟨y,hy⟩⟩⟩
theorem endP_pos {t : FstD} {N s0 : Nat} (hw : WideA t N) {u : List Int} {y : Int} (h : EndP t s0 u y) : 0 <= y:=by
 obtain ⟨n,z,hr,h0,rfl⟩:=h
 have:=hr.nonneg hw
 omega
theorem end_exists {t : FstD} {N : Nat} (hw : WideA t N) (s0 : Nat) (u : List Int) : ∃ a,MinP (EndP t s0 u) a:=minP_of fun _ h => endP_pos hw h
theorem tow_exists {t : FstD} {N : Nat} (hw : WideA t N) (s0 : Nat) (u : List Int) : ∃ a,MinP (ToW t s0 u) a:=minP_of fun _ h => by
 obtain ⟨v,h⟩:=h
 exact endP_pos hw h
theorem MinP.yes {p : Int -> Prop} {a y : Int} (h : MinP p a) (hy : p y) : 0 <= a /\ p a /\ a <= y:=by
 rcases h with ⟨_,h2⟩ | ⟨h1,h2,h3⟩
 ·exact absurd hy (h2 y)
 ·exact ⟨h1,h2,h3 y hy⟩
theorem MinP.has {p : Int -> Prop} {a : Int} (h : MinP p a) (h0 : 0 <= a) : p a /\ ∀ y,p y -> a <= y:=by
 rcases h with ⟨h2,_⟩ | ⟨h1,h2,h3⟩
 ·omega
 ·exact ⟨h2,h3⟩
theorem MinP.not {p : Int -> Prop} {a : Int} (h : MinP p a) (h0 : a < 0) : a = -1 /\ ∀ y,¬ p y:=by
 rcases h with ⟨h2,h3⟩ | ⟨h1,h2,h3⟩
 ·exact ⟨h2,h3⟩
 ·omega
section
variable {t x : FstD} {N K s0 r0 : Nat}
theorem EndSame.symm (h : EndSame t s0 x r0) : EndSame x r0 t s0:=fun u a b ha hb => (h u b a hb ha).symm
theorem EndSame.word (h : EndSame t s0 x r0) (ht : WideA t N) (hx : WideA x K) {u : List Int} {y : Int} (hy : EndP t s0 u y) : ∃ y',EndP x r0 u y' /\ y' <= y:=by
 obtain ⟨a,ha⟩:=end_exists ht s0 u
 obtain ⟨b,hb⟩:=end_exists hx r0 u
 have e:=h u a b ha hb
 have h1:=ha.yes hy
 have h2:=hb.has (by omega)
 exact ⟨b,h2.1,by omega⟩
theorem EndSame.to (h : EndSame t s0 x r0) (ht : WideA t N) (hx : WideA x K) {u : List Int} {a : Int} (ha : MinP (ToW t s0 u) a) : MinP (ToW x r0 u) a:=by
 rcases ha with ⟨e,h1⟩ | ⟨h0,⟨v,hv⟩,h2⟩
 ·refine Or.inl ⟨e,fun y hy => ?_⟩
  obtain ⟨v,hv⟩:=hy
  obtain ⟨y',h3,_⟩:=h.symm.word hx ht hv
  exact h1 y' ⟨v,h3⟩
 ·have low : ∀ y,ToW x r0 u y -> a <= y:=fun y hy => by
   obtain ⟨v,hv⟩:=hy
   obtain ⟨y',h3,h4⟩:=h.symm.word hx ht hv
   have:=h2 y' ⟨v,h3⟩
   omega
  obtain ⟨y',h3,h4⟩:=h.word ht hx hv
  have h5:=low y' ⟨v,h3⟩
  have : y' = a:=by omega
  rw [this] at h3
  exact Or.inr ⟨h0,⟨v,h3⟩,low⟩
theorem EndSame.alive (h : EndSame t s0 x r0) (ht : WideA t N) (hx : WideA x K) (hl : LiveW t s0) {c : Int} {u : List Int} (ha : Alive t s0 (c :: u)) : Alive x r0 (c :: u):=by
 obtain ⟨y,v,hv⟩:=hl c u ha
 obtain ⟨y',h1,_⟩:=h.word ht hx hv
 exact tow_alive ⟨v,h1⟩
end
section
variable {x : FstD} {K n : Nat} {cl : List Int}
theorem XIn.live (h : XIn x K) : LiveW x 0:=by
 rintro c u ⟨k,z,hk⟩
 have h0 : k ≠ 0:=fun e => by have:=(h.root hk).1 e; cases this
 have hkK:=hk.lt h.wide h.k0
 obtain ⟨⟨v,hv⟩,_⟩:=h.zero (k:=k) (by omega) hkK
 exact ⟨z,v,(endP_split h.ord hk v z).2 (by rw [Int.sub_self]; exact hv)⟩
theorem XIn.tow (h : XIn x K) {u : List Int} {k : Nat} {z : Int} (hu : WdR x 0 u k z) (h0 : u ≠ []) : MinP (ToW x 0 u) z:=by
 have hk0 : k ≠ 0:=fun e => h0 ((h.root hu).1 e)
 have hkK:=hu.lt h.wide h.k0
 obtain ⟨⟨v,hv⟩,hz⟩:=h.zero (k:=k) (by omega) hkK
 refine Or.inr ⟨hu.nonneg h.wide,⟨v,(endP_split h.ord hu v z).2 (by rw [Int.sub_self]; exact hv)⟩,?_⟩
 rintro y ⟨v',hy⟩
 have:=hz _ _ ((endP_split h.ord hu v' y).1 hy)
 omega
theorem XIn.end (h : XIn x K) {u : List Int} {k : Nat} {z : Int} (hu : WdR x 0 u k z) : MinP (EndP x 0 u) (if gI x.final k < 0 then -1 else z + gI x.final k):=by
 have hz:=hu.nonneg h.wide
 have key : ∀ y,EndP x 0 u y ↔ 0 <= gI x.final k /\ y = z + gI x.final k:=fun y => by
  have:=endP_split h.ord hu [] y
  rw [List.nil_append] at this
  rw [this,endP_nil]
  constructor
  ·rintro ⟨h1,h2⟩; exact ⟨h1,by omega⟩
  ·rintro ⟨h1,h2⟩; exact ⟨h1,by omega⟩
 by_cases e : gI x.final k < 0
 ·rw [if_pos e]
  exact Or.inl ⟨rfl,fun y hy => by have:=((key y).1 hy).1; omega⟩
 ·rw [if_neg e]
  exact Or.inr ⟨by omega,(key _).2 ⟨by omega,rfl⟩,fun y hy => by have:=((key y).1 hy).2; omega⟩
theorem ClsIn.alike (hc : ClsIn x K cl n) (h : XIn x K) {u u' : List Int} {k k' : Nat} {z z' b b' : Int} (hu : WdR x 0 u k z) (hu' : WdR x 0 u' k' z') (hb : MinP (ToW x 0 u) b) (hb' : MinP (ToW x 0 u') b') : AlikeP x 0 u x 0 u' b b' ↔ gI cl k = gI cl k':=by
 have hkK:=hu.lt h.wide h.k0
 have hkK':=hu'.lt h.wide h.k0
 obtain ⟨rk,hr⟩:=h.rank
 -- the same words
 have dom : ∀ {u u' : List Int} {k k' : Nat} {z z' b b' : Int},WdR x 0 u k z -> WdR x 0 u' k' z' -> AlikeP x 0 u x 0 u' b b' -> ∀ v,(∃ y,EndP x k v y) -> ∃ y,EndP x k' v y:=by
  intro u u' k k' z z' b b' hu hu' ha v ⟨y,hy⟩
  obtain ⟨p,hp⟩:=end_exists h.wide 0 (v ++ u)
  obtain ⟨q,hq⟩:=end_exists h.wide 0 (v ++ u')
  have h1:=hp.yes ((endP_split h.ord hu v (y + z)).2 (by rw [show y + z - z = y by omega]; exact hy))
  have h2:=(ha v p q hp hq).1
  have h3:=hq.has (by omega)
  exact ⟨_,(endP_split h.ord hu' v q).1 h3.1⟩
 by_cases e0 : k = 0
 ·by_cases e0' : k' = 0
  ·have e1:=(h.root hu).1 e0
   have e2:=(h.root hu').1 e0'
   subst e0 e0' e1 e2
   have e3:=hb.unique hb'
   subst e3
   refine ⟨fun _ => rfl,fun _ s p q hp hq => ?_⟩
   have:=hp.unique hq
   subst this
   exact ⟨Iff.rfl,fun _ => rfl⟩
  ·subst e0
   refine ⟨fun ha => ?_,fun e => ?_⟩
   ·exact absurd (dom hu hu' ha) (h.alone (by omega) hkK')
   ·exfalso
    refine h.alone (k:=k') (by omega) hkK' ?_
    rintro v ⟨y,hy⟩
    exact ⟨y,hc.words h v _ _ y hkK hkK' e hy⟩
 ·by_cases e0' : k' = 0
  ·subst e0'
   refine ⟨fun ha => ?_,fun e => ?_⟩
   ·refine absurd (dom hu' hu (b:=b') (b':=b) ?_) (h.alone (k:=k) (by omega) hkK)
    intro s p q hp hq
    have h1:=ha s q p hq hp
    exact ⟨h1.1.symm,fun h0 => by have:=h1.2 (by omega); omega⟩
   ·exfalso
    refine h.alone (k:=k) (by omega) hkK ?_
    rintro v ⟨y,hy⟩
    exact ⟨y,hc.words h v _ _ y hkK' hkK e.symm hy⟩
  ·have n1 : u ≠ []:=fun e => e0 ((h.root hu).2 e)
   have n2 : u' ≠ []:=fun e => e0' ((h.root hu').2 e)
   have b1:=hb.unique (h.tow hu n1)
   have b2:=hb'.unique (h.tow hu' n2)
   subst b1 b2
   refine ⟨fun ha => ?_,fun e => ?_⟩
   ·have one : ∀ {u u' : List Int} {k k' : Nat} {b b' : Int},WdR x 0 u k b -> WdR x 0 u' k' b' -> AlikeP x 0 u x 0 u' b b' -> ∀ v y,EndP x k v y -> EndP x k' v y:=by
     intro u u' k k' b b' hu hu' ha v y hy
     obtain ⟨p,hp⟩:=end_exists h.wide 0 (v ++ u)
     obtain ⟨q,hq⟩:=end_exists h.wide 0 (v ++ u')
     have hy1:=(endP_split h.ord hu v (y + b)).2 (by rw [show y + b - b = y by omega]; exact hy)
     have h1:=hp.yes hy1
     have h2:=ha v p q hp hq
     have h3:=hq.has (by omega)
     have h4:=endP_once h.ord hy1 h1.2.1
     have h5:=h2.2 h1.1
     have h6:=(endP_split h.ord hu' v q).1 h3.1
     rw [show q - b' = y by omega] at h6
     exact h6
    refine hc.of_words h hr (rk k + 1) k k' (by omega) hkK hkK' fun v y => ⟨one hu hu' ha v y,one hu' hu ?_ v y⟩
    intro s p q hp hq
    have h1:=ha s q p hq hp
    exact ⟨h1.1.symm,fun h0 => by have:=h1.2 (by omega); omega⟩
   ·intro s p q hp hq
    have key : ∀ y,EndP x 0 (s ++ u) y ↔ EndP x 0 (s ++ u') (y - b + b'):=fun y => by
     rw [endP_split h.ord hu s y,endP_split h.ord hu' s _,show y - b + b' - b' = y - b by omega]
     exact ⟨hc.words h s _ _ _ hkK hkK' e,hc.words h s _ _ _ hkK' hkK e.symm⟩
    refine ⟨⟨fun h1 => ?_,fun h1 => ?_⟩,fun h1 => ?_⟩
    ·by_cases h2 : q < 0
     ·exact h2
     ·have h3:=(hq.has (by omega)).1
      have h4:=(key (q - b' + b)).2 (by rw [show q - b' + b - b + b' = q by omega]; exact h3)
      have:=hp.yes h4
      omega
    ·by_cases h2 : p < 0
     ·exact h2
     ·have:=hq.yes ((key p).1 (hp.has (by omega)).1)
      omega
    ·have h3:=(hp.has h1).1
     have h4:=(key p).1 h3
     have h5:=hq.yes h4
     have h6:=endP_once h.ord h4 h5.2.1
     omega
end
structure DocTab (t : FstD) (s0 : Nat) (C : List Int -> Nat) (κ : Nat -> List Int) : Prop where
 alike : ∀ u u' b b',Alive t s0 u -> Alive t s0 u' -> MinP (ToW t s0 u) b -> MinP (ToW t s0 u') b' -> (AlikeP t s0 u t s0 u' b b' ↔ C u = C u')
 fin : ∀ u e b,Alive t s0 u -> MinP (EndP t s0 u) e -> MinP (ToW t s0 u) b -> gI (κ (C u)) 0 = if e < 0 then -1 else e - (if u = [] then 0 else b)
 no : ∀ u i,i < 9 -> Alive t s0 u -> ¬ Alive t s0 (((i + 1 : Nat) : Int) :: u) -> gI (κ (C u)) (1 + i * 2) = -1
 yes : ∀ u i b b',i < 9 -> Alive t s0 (((i + 1 : Nat) : Int) :: u) -> MinP (ToW t s0 u) b -> MinP (ToW t s0 (((i + 1 : Nat) : Int) :: u)) b' -> gI (κ (C u)) (1 + i * 2) = (C (((i + 1 : Nat) : Int) :: u) : Int) /\ gI (κ (C u)) (1 + i * 2 + 1) = b' - (if u = [] then 0 else b)
structure TabOf (x : FstD) (K : Nat) (cl : List Int) (C : List Int -> Nat) (κ : Nat -> List Int) : Prop where
 c : ∀ u k z,WdR x 0 u k z -> (C u : Int) = gI cl k
 κ : ∀ s,s < K -> κ (gI cl s).toNat = kindL x.arcs x.final cl s
section
variable {x : FstD} {K n : Nat} {cl : List Int} {C : List Int -> Nat} {κ : Nat -> List Int}
theorem tab_exists (h : XIn x K) (hc : ClsIn x K cl n) : ∃ C κ,TabOf x K cl C κ:=by
 have h1 : ∀ u : List Int,∃ c : Nat,∀ k z,WdR x 0 u k z -> (c : Int) = gI cl k:=fun u => by
  by_cases e : ∃ k z,WdR x 0 u k z
  ·obtain ⟨k,z,hk⟩:=e
   refine ⟨(gI cl k).toNat,fun k' z' hk' => ?_⟩
   obtain ⟨rfl,_⟩:=once_det h.ord 0 u _ _ _ _ hk hk'
   have:=(hc.cls.lt k (hk.lt h.wide h.k0)).1
   omega
  ·exact ⟨0,fun k z hk => absurd ⟨k,z,hk⟩ e⟩
 have h2 : ∀ v : Nat,∃ l : List Int,∀ s,s < K -> (gI cl s).toNat = v -> l = kindL x.arcs x.final cl s:=fun v => by
  by_cases e : ∃ s,s < K /\ (gI cl s).toNat = v
  ·obtain ⟨s,hs,hv⟩:=e
   refine ⟨kindL x.arcs x.final cl s,fun s' hs' hv' => hc.same s s' hs hs' ?_⟩
   have:=(hc.cls.lt s hs).1
   have:=(hc.cls.lt s' hs').1
   omega
  ·exact ⟨[],fun s hs hv => absurd ⟨s,hs,hv⟩ e⟩
 exact ⟨fun u => Classical.choose (h1 u),fun v => Classical.choose (h2 v),⟨fun u => Classical.choose_spec (h1 u),fun s hs => Classical.choose_spec (h2 (gI cl s).toNat) s hs rfl⟩⟩
theorem TabOf.at (hT : TabOf x K cl C κ) (h : XIn x K) {u : List Int} {k : Nat} {z : Int} (hu : WdR x 0 u k z) : κ (C u) = kindL x.arcs x.final cl k:=by
 have h1:=hT.c u k z hu
 have h2:=hT.κ k (hu.lt h.wide h.k0)
 rw [<- h1,Int.toNat_natCast] at h2
 exact h2
theorem TabOf.doc (hT : TabOf x K cl C κ) (h : XIn x K) (hc : ClsIn x K cl n) {t : FstD} {N s0 : Nat} (ht : WideA t N) (hl : LiveW t s0) (hs : EndSame t s0 x 0) : DocTab t s0 C κ:=by
 have al : ∀ {u : List Int},Alive t s0 u -> ∃ k z,WdR x 0 u k z:=fun {u} ha => by
  cases u with
  | nil => exact ⟨0,0,rfl,rfl⟩
  | cons c u => exact hs.alive ht h.wide hl ha
 have la : ∀ {u : List Int},(∃ k z,WdR x 0 u k z) -> Alive t s0 u:=fun {u} ha => by
  cases u with
  | nil => exact ⟨s0,0,rfl,rfl⟩
  | cons c u => exact hs.symm.alive h.wide ht h.live ha
 have tw : ∀ {u : List Int} {b : Int},MinP (ToW t s0 u) b -> MinP (ToW x 0 u) b:=fun hb => hs.to ht h.wide hb
 refine ⟨fun u u' b b' ha ha' hb hb' => ?_,fun u e b ha he hb => ?_,fun u i hi ha hn => ?_,fun u i b b' hi ha hb hb' => ?_⟩
 ·obtain ⟨k,z,hk⟩:=al ha
  obtain ⟨k',z',hk'⟩:=al ha'
  have h1:=hc.alike h hk hk' (tw hb) (tw hb')
  have h2 : AlikeP t s0 u t s0 u' b b' ↔ AlikeP x 0 u x 0 u' b b':=by
   constructor
   ·intro hA s p q hp hq
    obtain ⟨p',hp'⟩:=end_exists ht s0 (s ++ u)
    obtain ⟨q',hq'⟩:=end_exists ht s0 (s ++ u')
    have e1:=hs _ _ _ hp' hp
    have e2:=hs _ _ _ hq' hq
    have:=hA s p' q' hp' hq'
    rw [e1,e2] at this
    exact this
   ·intro hA s p q hp hq
    obtain ⟨p',hp'⟩:=end_exists h.wide 0 (s ++ u)
    obtain ⟨q',hq'⟩:=end_exists h.wide 0 (s ++ u')
    have e1:=hs _ _ _ hp hp'
    have e2:=hs _ _ _ hq hq'
    have:=hA s p' q' hp' hq'
    rw [<- e1,<- e2] at this
    exact this
  rw [h2,h1]
  have c1:=hT.c u k z hk
  have c2:=hT.c u' k' z' hk'
  omega
 ·obtain ⟨k,z,hk⟩:=al ha
  rw [hT.at h hk,kind_end]
  have e1:=hs u _ _ he (h.end hk)
  have hz:=hk.nonneg h.wide
  have hf:=h.fin k
  by_cases hu : u = []
  ·subst hu
   obtain ⟨rfl,rfl⟩:=hk
   rw [if_pos rfl,e1]
   by_cases e : gI x.final 0 < 0
   ·rw [if_pos e,if_pos (by omega)]; omega
   ·rw [if_neg e,if_neg (by omega)]; omega
  ·rw [if_neg hu,e1,(tw hb).unique (h.tow hk hu)]
   by_cases e : gI x.final k < 0
   ·rw [if_pos e,if_pos (by omega)]; omega
   ·rw [if_neg e,if_neg (by omega)]; omega
 ·obtain ⟨k,z,hk⟩:=al ha
  rw [hT.at h hk,kind_to _ _ _ _ _ hi]
  unfold leapTo
  rw [(last_none h.ord).2 ?_]
  rintro a ha1 ⟨ha2,ha3⟩
  refine hn (la ⟨a.dst.toNat,z + a.wt,a,ha1,k,z,hk,ha3,ha2,?_,rfl⟩)
  have:=h.gin.arcs a ha1
  omega
 ·obtain ⟨m,y,hm⟩:=al ha
  obtain ⟨a,ha1,k,z,hk,ha2,ha3,ha4,e1⟩:=id hm
  have hl1 : lastArc x.arcs k (i + 1) = some a:=(last_iff h.ord).2 ⟨ha1,ha3,ha2⟩
  rw [hT.at h hk,kind_to _ _ _ _ _ hi,kind_co _ _ _ _ _ hi]
  unfold leapTo leapCo
  simp only [hl1,ha4,Int.toNat_natCast]
  refine ⟨(hT.c _ _ _ hm).symm,?_⟩
  have e2:=(tw hb').unique (h.tow hm (by simp))
  by_cases hu : u = []
  ·subst hu
   obtain ⟨rfl,rfl⟩:=hk
   rw [if_pos rfl]
   omega
  ·rw [if_neg hu,(tw hb).unique (h.tow hk hu)]
   omega
end
end Go.Proofs.Yteehgcbjmdideab
