/- What 'Subsets' builds,and how it stands in memory. -/
import Derived.Test.YteehgcbjmdideabQOwE
namespace Go.Proofs.Yteehgcbjmdideab
open Go.RowKit
def idxL : List (List Int) -> List Int -> Nat
 | [],_ => 0
 | a :: t,l => if a = l then 0 else idxL t l + 1
theorem idxL_at {ms : List (List Int)} {l : List Int} (h : l ∈ ms) : ms[idxL ms l]? = some l:=by
 induction ms with
 | nil => cases h
 | cons a t ih =>
  unfold idxL
  by_cases e : a = l
  ·rw [if_pos e,e]; rfl
  ·rw [if_neg e,List.getElem?_cons_succ]
   rcases List.mem_cons.1 h with h | h
   ·exact absurd h.symm e
   ·exact ih h
theorem meetL_mem (ms : List (List Int)) (l : List Int) : l ∈ meetL ms l:=by
 unfold meetL
 split
 ·assumption
 ·simp
def letS (at' : List Int) (N : Nat) (ars : List ArcD) (k i : Nat) (S : List (List Int) × List ArcD) : List (List Int) × List ArcD :=
 if cheapD (behL at' N ars i) = -1 then S else
 (meetL S.1 (padL (behL at' N ars i)),S.2 ++ [⟨(k : Int),(i : Int) + 1,(i : Int) + 1,((idxL (meetL S.1 (padL (behL at' N ars i))) (padL (behL at' N ars i)) : Nat) : Int),cheapD (behL at' N ars i)⟩])
def letsN (at' : List Int) (N : Nat) (ars : List ArcD) (k : Nat) : Nat -> List (List Int) × List ArcD -> List (List Int) × List ArcD
 | 0,S => S
 | i + 1,S => letS at' N ars k i (letsN at' N ars k i S)
structure SubD where
 ms : List (List Int)
 fin : List Int
 ars : List ArcD
def atS (N : Nat) (S : SubD) (k : Nat) : List Int:=(S.ms.getD k []).take N
def subR (f : FstD) (N : Nat) : Nat -> SubD
 | 0 => ⟨[padL ((List.replicate N (-1)).set f.start.toNat 0)],[],[]⟩
 | k + 1 => ⟨(letsN (atS N (subR f N k) k) N f.arcs k 9 ((subR f N k).ms,(subR f N k).ars)).1,(subR f N k).fin ++ [ownEnd f (atS N (subR f N k) k)],(letsN (atS N (subR f N k) k) N f.arcs k 9 ((subR f N k).ms,(subR f N k).ars)).2⟩
def SubB (ms : List (List Int)) : Prop:=∀ (j : Nat) (l : List Int),ms[j]? = some l -> l.length = 200 /\ ∀ x ∈ l,x = -1 \/ (0 <= x /\ x <= (j : Int) * 1000000000)
theorem behL_bound {at' : List Int} {N : Nat} {ars : List ArcD} {M : Int} (ha : ∀ s,gI at' s = -1 \/ (0 <= gI at' s /\ gI at' s <= M)) (hw : ∀ a ∈ ars,0 <= a.wt /\ a.wt <= 1000000000) (j : Nat) : ∀ x ∈ behL at' N ars j,x = -1 \/ (0 <= x /\ x <= M + 1000000000):=by
 have key : ∀ (l : List Int),(∀ x ∈ l,x = -1 \/ (0 <= x /\ x <= M + 1000000000)) -> ∀ x ∈ ars.foldl (stepB at' j) l,x = -1 \/ (0 <= x /\ x <= M + 1000000000):=by
  induction ars with
  | nil => intro l h x hx; exact h x hx
  | cons a ars ih =>
   intro l h
   rw [List.foldl_cons]
   refine ih (fun b hb => hw b (List.mem_cons_of_mem _ hb)) _ fun x hx => ?_
   unfold stepB at hx
   split at hx
   ·split at hx
    ·rcases List.mem_or_eq_of_mem_set hx with hx | hx
     ·exact h x hx
     ·have h1:=ha a.src.toNat
      have h2:=hw a List.mem_cons_self
      rw [hx]
      unfold plusC
      split
      ·exact Or.inl rfl
      ·right; omega
    ·exact h x hx
   ·exact h x hx
 exact key _ (fun x hx => Or.inl (List.eq_of_mem_replicate hx))
theorem padL_bound {c : List Int} {M : Int} (h : ∀ x ∈ c,x = -1 \/ (0 <= x /\ x <= M)) (hM : M <= 302000000000) (hc : cheapD c ≠ -1) : ∀ x ∈ padL c,x = -1 \/ (0 <= x /\ x <= M):=by
 intro x hx
 have hp : PrOk c:=fun x hx => by have:=h x hx; omega
 rcases cheapD_what c hp with ⟨e,_⟩ | ⟨e1,_,e3⟩
 ·exact absurd e hc
 ·unfold padL at hx
  obtain ⟨s,_,rfl⟩:=List.mem_map.1 hx
  split
  ·exact Or.inl rfl
  ·rename_i hn
   have hm : gI c s ∈ c:=by
    unfold gI at hn ⊢
    rw [List.getD_eq_getElem?_getD] at hn ⊢
    rcases e : c[s]? with _ | y
    ·rw [e] at hn; exact absurd rfl hn
    ·exact List.mem_of_getElem? e
   have h1:=h _ hm
   have h2:=e3 _ hm
   right
   omega
theorem meetL_B {ms : List (List Int)} {l : List Int} (h : SubB ms) {k : Nat} (hk : k < ms.length) (hl : l.length = 200) (hb : ∀ x ∈ l,x = -1 \/ (0 <= x /\ x <= (k : Int) * 1000000000 + 1000000000)) : SubB (meetL ms l):=by
 unfold meetL
 split
 ·exact h
 ·intro j m hj
  by_cases e : j < ms.length
  ·rw [List.getElem?_append_left e] at hj
   exact h j m hj
  ·have hlt:=(List.getElem?_eq_some_iff.1 hj).1
   rw [List.length_append,List.length_singleton] at hlt
   have hje : j = ms.length:=by omega
   subst hje
   rw [List.getElem?_append_right (Nat.le_refl _),Nat.sub_self] at hj
   have : l = m:=by simpa using hj
   subst this
   refine ⟨hl,fun x hx => ?_⟩
   rcases hb x hx with h1 | h1
   ·exact Or.inl h1
   ·right; omega
theorem meetL_len (ms : List (List Int)) (l : List Int) : ms.length <= (meetL ms l).length /\ (meetL ms l).length <= ms.length + 1:=by
 unfold meetL
 split
 ·omega
 ·simp
theorem own_same {w w' : World} {B e size n : Nat} {v : Value} {xs : List Value} (h : w.ownsRow B e size v n xs) (hb : ∀ b,v.ownBlock = some b -> w'.heap[b]? = w.heap[b]?) : w'.ownsRow B e size v n xs:=by
 obtain ⟨h0,h⟩:=h
 refine ⟨h0,?_⟩
 rcases h with h | ⟨g,cap,cur,rfl,hg,h1,h2⟩
 ·exact Or.inl h
 ·exact Or.inr ⟨g,cap,cur,rfl,hg,(hb g rfl).trans h1,h2⟩
structure GW (w wr : World) (N : Nat) (sta : Int) (fin arcs : Value) (B Mb Q : Nat) (v fv av : Value) (ms : List (List Int)) (fs : List Int) (rs : List ArcD) : Prop where
 cf : CellsF wr w.heap.size (N : Int) sta fin arcs
 res : ZBlock wr (w.heap.size + 1)
 sub : SubW w wr B Mb v ms
 q0 : wr.cell? ⟨Q,0,none⟩ = some (.int .i64 0)
 q1 : wr.cell? ⟨Q,1,none⟩ = some (.int .i64 0)
 q2 : wr.cell? ⟨Q,2,none⟩ = some fv
 q3 : wr.cell? ⟨Q,3,none⟩ = some av
 qf : ∀ i,wr.frozen? ⟨Q,i,none⟩ = false
 fo : wr.ownsRow (Q + 1) 3 1 fv fs.length (intsW fs)
 ao : wr.ownsRow (Q + 1) 54 5 av rs.length (arcsV rs)
 hM : w.heap.size + 1 < Mb
 hB : Mb < B
 hQ : B < Q
 vs : ∀ b,v.ownBlock = some b -> w.heap.size + 1 < b /\ b ≠ Q /\ fv.ownBlock ≠ some b /\ av.ownBlock ≠ some b
 fa : ∀ b,fv.ownBlock = some b -> av.ownBlock ≠ some b
section
variable {w wr wx : World} {N : Nat} {sta : Int} {fin arcs : Value} {B Mb Q : Nat} {v v' fv av : Value} {ms ms' : List (List Int)} {fs : List Int} {rs : List ArcD}
theorem GW.below (h : GW w wr N sta fin arcs B Mb Q v fv av ms fs rs) (hb : Below wr.heap.size wr wx) : GW w wx N sta fin arcs B Mb Q v fv av ms fs rs :=
 ⟨h.cf.below hb,heap_bel hb h.res,h.sub.below hb,bel_c hb h.q0,bel_c hb h.q1,bel_c hb h.q2,bel_c hb h.q3,fun i => (hb.frozen (p:=⟨Q,i,none⟩) (cell_lt h.q0)).trans (h.qf i),ownsRow_bel h.fo hb,ownsRow_bel h.ao hb,h.hM,h.hB,h.hQ,h.vs,h.fa⟩
theorem cells_same {w w' : World} {b k : Nat} {u : Value} (hb : w'.heap[b]? = w.heap[b]?) (h : w.cell? ⟨b,k,none⟩ = some u) : w'.cell? ⟨b,k,none⟩ = some u:=(World.cell?_of_block (w:=w) (a:=⟨b,k,none⟩) hb).trans h
theorem GW.meet (h : GW w wr N sta fin arcs B Mb Q v fv av ms fs rs) (hm : MStep B Mb wr v wx v') (hs : SubW w wx B Mb v' ms') : GW w wx N sta fin arcs B Mb Q v' fv av ms' fs rs:=by
 have a1:=h.hM
 have a2:=h.hB
 have a3:=h.hQ
 have hQl:=cell_lt h.q0
 have bk : ∀ b,b < wr.heap.size -> b ≠ B -> b ≠ Mb -> v.ownBlock ≠ some b -> wx.heap[b]? = wr.heap[b]?:=hm.block
 have bX : wx.heap[w.heap.size]? = wr.heap[w.heap.size]?:=bk _ (cell_lt h.cf.1) (by omega) (by omega) (fun e => by have:=(h.vs _ e).1; omega)
 have bR : wx.heap[w.heap.size + 1]? = wr.heap[w.heap.size + 1]?:=bk _ (heap_lt h.res) (by omega) (by omega) (fun e => by have:=(h.vs _ e).1; omega)
 have bQ : wx.heap[Q]? = wr.heap[Q]?:=bk _ hQl (by omega) (by omega) (fun e => (h.vs _ e).2.1 rfl)
 have bF : ∀ b,fv.ownBlock = some b -> wx.heap[b]? = wr.heap[b]?:=fun b hb => by
  have h1:=own_base h.fo b hb
  exact bk b (ownsRow_lt0 h.fo b hb) (by omega) (by omega) (fun e => (h.vs b e).2.2.1 hb)
 have bA : ∀ b,av.ownBlock = some b -> wx.heap[b]? = wr.heap[b]?:=fun b hb => by
  have h1:=own_base h.ao b hb
  exact bk b (ownsRow_lt0 h.ao b hb) (by omega) (by omega) (fun e => (h.vs b e).2.2.2 hb)
 refine ⟨⟨cells_same bX h.cf.1,cells_same bX h.cf.2.1,cells_same bX h.cf.2.2.1,cells_same bX h.cf.2.2.2⟩,bR.trans h.res,hs,cells_same bQ h.q0,cells_same bQ h.q1,cells_same bQ h.q2,cells_same bQ h.q3,fun i => frz_block bQ (h.qf i),own_same h.fo bF,own_same h.ao bA,a1,a2,a3,fun b hb => ?_,h.fa⟩
 rcases hm.own b hb with e | e
 ·exact h.vs b e
 ·refine ⟨by omega,by omega,fun e2 => ?_,fun e2 => ?_⟩
  ·have:=ownsRow_lt0 h.fo b e2; omega
  ·have:=ownsRow_lt0 h.ao b e2; omega
theorem SubW.grown {row : Option Nat} (h : SubW w wr B Mb v ms) (hg : wr.grownBy wx row) (hlo : ∀ b,row = some b -> w.heap.size <= b) (hB : row ≠ some B) (hM : row ≠ some Mb) (hv : ∀ b,v.ownBlock = some b -> row ≠ some b) : SubW w wx B Mb v ms :=
 ⟨h.bel.grown hg (by have:=h.bel.size; omega) hlo,(hg.cell_far ⟨B,0,none⟩ (cell_lt h.c0) (fun e => hB e.symm)).trans h.c0,(hg.cell_far ⟨B,1,none⟩ (cell_lt h.c0) (fun e => hB e.symm)).trans h.c1,frz_block (hg.block B (cell_lt h.c0) (fun e => hB e.symm)) h.frz,h.map.block (hg.block Mb h.map.lt (fun e => hM e.symm)),own_same h.own (fun b hb => hg.block b (ownsRow_lt0 h.own b hb) (fun e => hv b hb e.symm)),h.b0,h.m0,h.bm,h.vb,h.vm,h.ok,h.nd⟩
theorem SubW.setFar (h : SubW w wr B Mb v ms) {q i : Nat} {u : Value} (hq : w.heap.size <= q) (hB : B ≠ q) (hM : Mb ≠ q) (hv : v.ownBlock ≠ some q) : SubW w (wr.setCell ⟨q,i,none⟩ u) B Mb v ms :=
 ⟨h.bel.setCell (p:=⟨q,i,none⟩) hq _,(set_far hB).trans h.c0,(set_far hB).trans h.c1,by rw [World.frozen?_setCell]; exact h.frz,h.map.block (Below.heap_setCell wr ⟨q,i,none⟩ u Mb hM),ownsRow_setCell_far h.own hv,h.b0,h.m0,h.bm,h.vb,h.vm,h.ok,h.nd⟩
theorem GW.final (h : GW w wr N sta fin arcs B Mb Q v fv av ms fs rs) {fv' : Value} {x : Int} (hg : wr.grownBy wx fv.ownBlock) (ho : wx.ownsRow (Q + 1) 3 1 fv' (fs.length + 1) (intsW fs ++ [.int .i64 x])) (hv : fv'.ownBlock = fv.ownBlock \/ fv'.ownBlock = some wr.heap.size) :
  GW w (wx.setCell ⟨Q,2,none⟩ fv') N sta fin arcs B Mb Q v fv' av ms (fs ++ [x]) rs:=by
 have a1:=h.hM
 have a2:=h.hB
 have a3:=h.hQ
 have hQl:=cell_lt h.q0
 have hlo : ∀ b,fv.ownBlock = some b -> Q < b:=fun b hb => own_base h.fo b hb
 have hne : ∀ b,b <= Q -> some b ≠ fv.ownBlock:=fun b hb e => by have:=hlo b e.symm; omega
 have bQ : wx.heap[Q]? = wr.heap[Q]?:=hg.block Q hQl (hne Q (Nat.le_refl _))
 have bX : wx.heap[w.heap.size]? = wr.heap[w.heap.size]?:=hg.block _ (cell_lt h.cf.1) (hne _ (by omega))
 have hfQ : fv'.ownBlock ≠ some Q:=fun e => by have:=own_base ho Q e; omega
 have hXQ : w.heap.size ≠ Q:=by omega
 have hs1:=h.sub.grown hg (fun b hb => by have:=hlo b hb; omega) (fun e => hne B (by omega) e.symm) (fun e => hne Mb (by omega) e.symm) (fun b hb e => (h.vs b hb).2.2.1 e)
 have hfb : ∀ b,fv'.ownBlock = some b -> b < wr.heap.size -> fv.ownBlock = some b:=fun b hb hl => by
  rcases hv with hv | hv
  ·rw [<- hv]; exact hb
  ·rw [hv] at hb; injection hb with hb; omega
 refine ⟨⟨(set_far hXQ).trans (cells_same bX h.cf.1),(set_far hXQ).trans (cells_same bX h.cf.2.1),(set_far hXQ).trans (cells_same bX h.cf.2.2.1),(set_far hXQ).trans (cells_same bX h.cf.2.2.2)⟩,?_,hs1.setFar (by omega) (by omega) (by omega) (fun e => (h.vs Q e).2.1 rfl),?_,?_,?_,?_,fun i => by rw [World.frozen?_setCell]; exact frz_block bQ (h.qf i),?_,?_,a1,a2,a3,fun b hb => ?_,fun b hb => ?_⟩
 ·exact heap_far ((hg.block _ (heap_lt h.res) (hne _ (by omega))).trans h.res) (by omega)
 ·rw [World.cell?_setCell_other _ _ _ _ (by intro e1; injection e1 with _ e2; omega)]
  exact cells_same bQ h.q0
 ·rw [World.cell?_setCell_other _ _ _ _ (by intro e1; injection e1 with _ e2; omega)]
  exact cells_same bQ h.q1
 ·exact World.cell?_setCell_same _ _ _ (cells_same bQ h.q2)
 ·rw [World.cell?_setCell_other _ _ _ _ (by intro e1; injection e1 with _ e2; omega)]
  exact cells_same bQ h.q3
 ·have e1 : (fs ++ [x]).length = fs.length + 1:=by simp
  have e2 : intsW (fs ++ [x]) = intsW fs ++ [.int .i64 x]:=by simp [intsW]
  rw [e1,e2]
  exact ownsRow_setCell_far ho hfQ
 ·refine ownsRow_setCell_far (own_same h.ao fun b hb => hg.block b (ownsRow_lt0 h.ao b hb) (fun e => h.fa b e.symm hb)) (fun e => ?_)
  have:=own_base h.ao Q e
  omega
 ·obtain ⟨r1,r2,r3,r4⟩:=h.vs b hb
  exact ⟨r1,r2,fun e => r3 (hfb b e (ownsRow_lt0 h.sub.own b hb)),r4⟩
 ·intro e
  exact h.fa b (hfb b hb (ownsRow_lt0 h.ao b e)) e
theorem GW.arc (h : GW w wr N sta fin arcs B Mb Q v fv av ms fs rs) {av' : Value} {a : ArcD} (hg : wr.grownBy wx av.ownBlock) (ho : wx.ownsRow (Q + 1) 54 5 av' (rs.length + 1) (arcsV rs ++ arcCells a)) (hv : av'.ownBlock = av.ownBlock \/ av'.ownBlock = some wr.heap.size) :
  GW w (wx.setCell ⟨Q,3,none⟩ av') N sta fin arcs B Mb Q v fv av' ms fs (rs ++ [a]):=by
 have a1:=h.hM
 have a2:=h.hB
 have a3:=h.hQ
 have hQl:=cell_lt h.q0
 have hlo : ∀ b,av.ownBlock = some b -> Q < b:=fun b hb => own_base h.ao b hb
 have hne : ∀ b,b <= Q -> some b ≠ av.ownBlock:=fun b hb e => by have:=hlo b e.symm; omega
 have bQ : wx.heap[Q]? = wr.heap[Q]?:=hg.block Q hQl (hne Q (Nat.le_refl _))
 have bX : wx.heap[w.heap.size]? = wr.heap[w.heap.size]?:=hg.block _ (cell_lt h.cf.1) (hne _ (by omega))
 have hfQ : av'.ownBlock ≠ some Q:=fun e => by have:=own_base ho Q e; omega
 have hXQ : w.heap.size ≠ Q:=by omega
 have hs1:=h.sub.grown hg (fun b hb => by have:=hlo b hb; omega) (fun e => hne B (by omega) e.symm) (fun e => hne Mb (by omega) e.symm) (fun b hb e => (h.vs b hb).2.2.2 e)
 have hfb : ∀ b,av'.ownBlock = some b -> b < wr.heap.size -> av.ownBlock = some b:=fun b hb hl => by
  rcases hv with hv | hv
  ·rw [<- hv]; exact hb
  ·rw [hv] at hb; injection hb with hb; omega
 refine ⟨⟨(set_far hXQ).trans (cells_same bX h.cf.1),(set_far hXQ).trans (cells_same bX h.cf.2.1),(set_far hXQ).trans (cells_same bX h.cf.2.2.1),(set_far hXQ).trans (cells_same bX h.cf.2.2.2)⟩,?_,hs1.setFar (by omega) (by omega) (by omega) (fun e => (h.vs Q e).2.1 rfl),?_,?_,?_,?_,fun i => by rw [World.frozen?_setCell]; exact frz_block bQ (h.qf i),?_,?_,a1,a2,a3,fun b hb => ?_,fun b hb => ?_⟩
 ·exact heap_far ((hg.block _ (heap_lt h.res) (hne _ (by omega))).trans h.res) (by omega)
 ·rw [World.cell?_setCell_other _ _ _ _ (by intro e1; injection e1 with _ e2; omega)]
  exact cells_same bQ h.q0
 ·rw [World.cell?_setCell_other _ _ _ _ (by intro e1; injection e1 with _ e2; omega)]
  exact cells_same bQ h.q1
 ·rw [World.cell?_setCell_other _ _ _ _ (by intro e1; injection e1 with _ e2; omega)]
  exact cells_same bQ h.q2
 ·exact World.cell?_setCell_same _ _ _ (cells_same bQ h.q3)
 ·refine ownsRow_setCell_far (own_same h.fo fun b hb => hg.block b (ownsRow_lt0 h.fo b hb) (fun e => h.fa b hb e.symm)) (fun e => ?_)
  have:=own_base h.fo Q e
  omega
 ·have e1 : (rs ++ [a]).length = rs.length + 1:=by simp
  have e2 : arcsV (rs ++ [a]) = arcsV rs ++ arcCells a:=by simp [arcsV]
  rw [e1,e2]
  exact ownsRow_setCell_far ho hfQ
 ·obtain ⟨r1,r2,r3,r4⟩:=h.vs b hb
  exact ⟨r1,r2,r3,fun e => r4 (hfb b e (ownsRow_lt0 h.sub.own b hb))⟩
 ·intro e
  exact h.fa b hb (hfb b e (ownsRow_lt0 h.fo b hb))
end
end Go.Proofs.Yteehgcbjmdideab
