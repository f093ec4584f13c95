/- A transducer that came in,taken apart: what its value and its lists are. -/
import Derived.Test.YteehgcbjmdideabUCheckF
import Derived.ProofKit
import Derived.OpenShut
import Derived.Deep.Slices
import Derived.Lib.SmallJoins
import Derived.ChangeArms
namespace Go.Proofs.Yteehgcbjmdideab
open Go.ChangeShapes Go.WideShapes Go.ChangeAt Go.RowKit
set_option maxRecDepth 100000
theorem cellsI : Try.prog.cellsOf 3 = 1:=by kernel_rfl
theorem cellsArc : Try.prog.cellsOf 54 = 5:=by kernel_rfl
theorem cellsFst : Try.prog.cellsOf 25 = 4:=by kernel_rfl
theorem addr_add_plain (b off i : Nat) : (⟨b,off,none⟩ : Addr).add i = ⟨b,off + i,none⟩:=by
 by_cases h : i = 0
 ·subst h; rfl
 ·simp [Addr.add,h]
theorem open_ilist {H : Type} {enc : TypeId × Value -> H} {W : World} {n : Nat} {v : Value} {y : DataW H × List MemPlace} (h : DataW.trod enc Try.prog W 0 (fun _ => true) true n 22 [v] = some y) : ∃ xs,ISlice W v xs:=by
 rcases open_ints Try.underlying22 Try.underlying3 cellsI h with ⟨h1,_⟩ | ⟨a,len,cap,zs,h1,_,hl,hm,hz,_,hcell,_⟩
 ·exact ⟨[],Or.inl ⟨none,0,by simpa using h1,rfl⟩⟩
 ·have hv : v = .slice (some a) len cap:=by simpa using h1
  simp only [if_true] at hz
  by_cases h0 : len = 0
  ·exact ⟨[],Or.inl ⟨some a,cap,by rw [hv,h0],rfl⟩⟩
  ·obtain ⟨b,off,spot⟩:=a
   have hspot : spot = none:=by simpa [Addr.add] using World.cell?_spot (hcell 0 (by omega))
   subst hspot
   refine ⟨zs.take len,Or.inr ⟨b,off,len,cap,hv,⟨by simp; omega,fun i hi => ?_⟩,by omega⟩⟩
   have:=hcell i (by omega)
   rw [addr_add_plain] at this
   rw [this]
   simp [List.getD,hi]
theorem five_cells {H : Type} {enc : TypeId × Value -> H} {W : World} {n : Nat} {cs : List Value} {y : DataW H × List MemPlace} (h : DataW.trod enc Try.prog W 0 (fun _ => true) true n 54 cs = some y) :
  ∃ a : ArcD,cs = [.int .i64 a.src,.int .i64 a.inp,.int .i64 a.out,.int .i64 a.dst,.int .i64 a.wt]:=by
 obtain ⟨xs,k,_,_,hlen,hxl,hf⟩:=DataW.trod_struct Try.underlying54 h
 rw [cellsArc] at hlen
 match cs,hlen with
 | [c0,c1,c2,c3,c4],_ =>
  have g0 : DataW.trod enc Try.prog W 0 (fun _ => true) true k 3 ((([c0,c1,c2,c3,c4] : List Value).drop 0).take (Try.prog.cellsOf 3)) = xs[0]?:=hf 0 _ rfl
  have g1 : DataW.trod enc Try.prog W 0 (fun _ => true) true k 3 ((([c0,c1,c2,c3,c4] : List Value).drop 1).take (Try.prog.cellsOf 3)) = xs[1]?:=hf 1 _ rfl
  have g2 : DataW.trod enc Try.prog W 0 (fun _ => true) true k 3 ((([c0,c1,c2,c3,c4] : List Value).drop 2).take (Try.prog.cellsOf 3)) = xs[2]?:=hf 2 _ rfl
  have g3 : DataW.trod enc Try.prog W 0 (fun _ => true) true k 3 ((([c0,c1,c2,c3,c4] : List Value).drop 3).take (Try.prog.cellsOf 3)) = xs[3]?:=hf 3 _ rfl
  have g4 : DataW.trod enc Try.prog W 0 (fun _ => true) true k 3 ((([c0,c1,c2,c3,c4] : List Value).drop 4).take (Try.prog.cellsOf 3)) = xs[4]?:=hf 4 _ rfl
  have hx : xs.length = 5:=hxl
  rw [cellsI,List.getElem?_eq_getElem (by omega)] at g0 g1 g2 g3 g4
  obtain ⟨z0,e0,_⟩:=DataW.trod_int Try.underlying3 g0
  obtain ⟨z1,e1,_⟩:=DataW.trod_int Try.underlying3 g1
  obtain ⟨z2,e2,_⟩:=DataW.trod_int Try.underlying3 g2
  obtain ⟨z3,e3,_⟩:=DataW.trod_int Try.underlying3 g3
  obtain ⟨z4,e4,_⟩:=DataW.trod_int Try.underlying3 g4
  have d0 : c0 = .int .i64 z0:=by simpa using e0
  have d1 : c1 = .int .i64 z1:=by simpa using e1
  have d2 : c2 = .int .i64 z2:=by simpa using e2
  have d3 : c3 = .int .i64 z3:=by simpa using e3
  have d4 : c4 = .int .i64 z4:=by simpa using e4
  exact ⟨⟨z0,z1,z2,z3,z4⟩,by rw [d0,d1,d2,d3,d4]⟩
theorem open_alist {H : Type} {enc : TypeId × Value -> H} {W : World} {n : Nat} {v : Value} {y : DataW H × List MemPlace} (h : DataW.trod enc Try.prog W 0 (fun _ => true) true n 23 [v] = some y) : ∃ ars,ASlice W v ars:=by
 rcases Go.Deep.open_slice Try.underlying23 h with ⟨h1,_⟩ | ⟨a,len,cap,m,k,D,Pl,h1,_,hl,hm,hmm,_,hx⟩
 ·exact ⟨[],Or.inl ⟨none,0,by simpa using h1,rfl⟩⟩
 ·have hv : v = .slice (some a) len cap:=by simpa using h1
  simp only [if_true] at hmm
  by_cases h0 : len = 0
  ·exact ⟨[],Or.inl ⟨some a,cap,by rw [hv,h0],rfl⟩⟩
  ·rw [cellsArc] at hx
   have each : ∀ i,i < len -> ∃ q : ArcD,∀ j u,[Value.int .i64 q.src,.int .i64 q.inp,.int .i64 q.out,.int .i64 q.dst,.int .i64 q.wt][j]? = some u -> j < 5 -> W.cell? ((a.add (i * 5)).add j) = some u:=fun i hi => by
    obtain ⟨cs,h2,h3⟩:=hx i (by omega)
    obtain ⟨q,hq⟩:=five_cells h3
    obtain ⟨_,_,hc⟩:=World.cells?_some h2
    exact ⟨q,fun j u hu hj => by rw [hc j hj,hq]; exact hu⟩
   have inh : Inhabited ArcD:=⟨a0⟩
   obtain ⟨q,hq⟩:=Go.Deep.choose_lt each
   obtain ⟨b,off,spot⟩:=a
   have hspot : spot = none:=by
    have:=World.cell?_spot (hq 0 (by omega) 0 _ rfl (by omega))
    simpa [Addr.add] using this
   subst hspot
   have hg : ∀ i,i < len -> ((List.range len).map q).getD i a0 = q i:=fun i hi => by simp [List.getD,hi]
   have key : ∀ i,i < len -> ∀ j u,[Value.int .i64 (q i).src,.int .i64 (q i).inp,.int .i64 (q i).out,.int .i64 (q i).dst,.int .i64 (q i).wt][j]? = some u -> j < 5 -> W.cell? ⟨b,off + i * 5 + j,none⟩ = some u:=fun i hi j u hu hj => by
    have:=hq i hi j u hu hj
    rw [addr_add_plain,addr_add_plain] at this
    exact this
   refine ⟨(List.range len).map q,Or.inr ⟨b,off,len,cap,hv,⟨by simp,fun i hi => ?_,fun i hi => ?_,fun i hi => ?_,fun i hi => ?_,fun i hi => ?_⟩,by omega⟩⟩
   ·rw [hg i hi]; exact key i hi 0 _ rfl (by omega)
   ·rw [hg i hi]; exact key i hi 1 _ rfl (by omega)
   ·rw [hg i hi]; exact key i hi 2 _ rfl (by omega)
   ·rw [hg i hi]; exact key i hi 3 _ rfl (by omega)
   ·rw [hg i hi]; exact key i hi 4 _ rfl (by omega)
theorem open_fst {H : Type} {enc : TypeId × Value -> H} {W : World} {base : Nat} {v : Value} {d : DataW H} {p : List MemPlace} (hok : Value.okWide Try.prog W .any base 25 v) (h : DataW.Trod enc Try.prog W 0 (fun _ => true) true 25 v d p) :
  ∃ (f : FstD) (fin arcs : Value),v = .agg #[.int .i64 f.states,.int .i64 f.start,fin,arcs] /\ ISlice W fin f.final /\ ASlice W arcs f.arcs:=by
 obtain ⟨v0,v1,v2,v3,y0,y1,y2,y3,n,rfl,_,_,h0,h1,h2,h3⟩:=Go.Joins.open_agg4 Try.underlying25 (by kernel_rfl) cellsFst hok h
 obtain ⟨z0,e0,_⟩:=DataW.trod_int Try.underlying3 h0
 obtain ⟨z1,e1,_⟩:=DataW.trod_int Try.underlying3 h1
 obtain ⟨xs,hi⟩:=open_ilist h2
 obtain ⟨ars,ha⟩:=open_alist h3
 have d0 : v0 = .int .i64 z0:=by simpa using e0
 have d1 : v1 = .int .i64 z1:=by simpa using e1
 exact ⟨⟨z0,z1,xs,ars⟩,v2,v3,by rw [d0,d1],hi,ha⟩
end Go.Proofs.Yteehgcbjmdideab
