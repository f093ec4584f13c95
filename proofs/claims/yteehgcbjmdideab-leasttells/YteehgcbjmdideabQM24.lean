/- What 'WordsOf' has in memory: the transducer,the rows of costs,parents and letters; what grows,and what stays. -/
import Derived.Test.YteehgcbjmdideabQM23
import Derived.Test.YteehgcbjmdideabQM15
import Derived.Test.YteehgcbjmdideabQOwF
import Derived.Test.YteehgcbjmdideabQM13
import Derived.Test.YteehgcbjmdideabQM06
import Derived.Test.YteehgcbjmdideabQM08
import Derived.Deep.RegionHeld3
import Derived.Deep.Cut
set_option maxRecDepth 100000
namespace Go.Proofs.Yteehgcbjmdideab
open Go.RowKit
theorem NumsAt.grown {w w' : World} {g n : Nat} {c : List Int} {row : Option Nat} (h : NumsAt w g n c) (hg : w.grownBy w' row) (hne : some g ≠ row) : NumsAt w' g n c :=
 ⟨h.len,fun i hi => (hg.cell_far ⟨g,i,none⟩ h.lt hne).trans (h.cell i hi),fun i => frz_block (hg.block g h.lt hne) (h.frz i),Nat.lt_of_lt_of_le h.lt hg.size⟩
structure WM (w0 wr : World) (Q N : Nat) (sta : Int) (fin arcs cv pv lv vC vP vL : Value) (LC : List Value) (cs : List (List Int)) (LP LL : List Int) : Prop where
 bel : Below Q w0 wr
 cf : CellsF wr Q (N : Int) sta fin arcs
 c4 : wr.cell? ⟨Q,4,none⟩ = some cv
 c5 : wr.cell? ⟨Q,5,none⟩ = some pv
 c6 : wr.cell? ⟨Q,6,none⟩ = some lv
 frz : ∀ i,wr.frozen? ⟨Q,i,none⟩ = false
 oC : wr.ownsRow (Q + 1) 22 1 vC LC.length LC
 oP : wr.ownsRow (Q + 1) 3 1 vP LP.length (intsW LP)
 oL : wr.ownsRow (Q + 1) 3 1 vL LL.length (intsW LL)
 nCP : ∀ b,vC.ownBlock = some b -> vP.ownBlock ≠ some b
 nCL : ∀ b,vC.ownBlock = some b -> vL.ownBlock ≠ some b
 nPL : ∀ b,vP.ownBlock = some b -> vL.ownBlock ≠ some b
 lc : LC.length = cs.length
 rows : ∀ (j : Nat) (V : List Int),cs[j]? = some V -> ∃ G cap,LC[j]? = some (.slice (some ⟨G,0,none⟩) N cap) /\ NumsAt wr G N V /\ Q < G /\ vC.ownBlock ≠ some G /\ vP.ownBlock ≠ some G /\ vL.ownBlock ≠ some G
section
variable {w0 wr wx : World} {Q N : Nat} {sta : Int} {fin arcs cv pv lv vC vP vL v' : Value} {LC : List Value} {cs : List (List Int)} {LP LL : List Int}
theorem WM.lt (h : WM w0 wr Q N sta fin arcs cv pv lv vC vP vL LC cs LP LL) : Q < wr.heap.size:=cell_lt h.c4
theorem WM.below (h : WM w0 wr Q N sta fin arcs cv pv lv vC vP vL LC cs LP LL) (hb : Below wr.heap.size wr wx) : WM w0 wx Q N sta fin arcs cv pv lv vC vP vL LC cs LP LL :=
 ⟨h.bel.trans (hb.mono (Nat.le_of_lt h.lt)),h.cf.below hb,bel_c hb h.c4,bel_c hb h.c5,bel_c hb h.c6,fun i => (hb.frozen (p:=⟨Q,i,none⟩) h.lt).trans (h.frz i),ownsRow_bel h.oC hb,ownsRow_bel h.oP hb,ownsRow_bel h.oL hb,h.nCP,h.nCL,h.nPL,h.lc,fun j V hV => by
  obtain ⟨G,cap,r1,r2,r3⟩:=h.rows j V hV
  exact ⟨G,cap,r1,r2.below hb,r3⟩⟩
theorem WM.ownC (h : WM w0 wr Q N sta fin arcs cv pv lv vC vP vL LC cs LP LL) : ∀ b,vC.ownBlock = some b -> Q < b /\ b < wr.heap.size:=fun b hb => ⟨own_base h.oC b hb,ownsRow_lt0 h.oC b hb⟩
theorem WM.ownP (h : WM w0 wr Q N sta fin arcs cv pv lv vC vP vL LC cs LP LL) : ∀ b,vP.ownBlock = some b -> Q < b /\ b < wr.heap.size:=fun b hb => ⟨own_base h.oP b hb,ownsRow_lt0 h.oP b hb⟩
theorem WM.ownL (h : WM w0 wr Q N sta fin arcs cv pv lv vC vP vL LC cs LP LL) : ∀ b,vL.ownBlock = some b -> Q < b /\ b < wr.heap.size:=fun b hb => ⟨own_base h.oL b hb,ownsRow_lt0 h.oL b hb⟩
theorem WM.appC (h : WM w0 wr Q N sta fin arcs cv pv lv vC vP vL LC cs LP LL) {G cap : Nat} {V : List Int} (hV : NumsAt wr G N V) (hG : Q < G) (n1 : vC.ownBlock ≠ some G) (n2 : vP.ownBlock ≠ some G) (n3 : vL.ownBlock ≠ some G) (hg : wr.grownBy wx vC.ownBlock) (ho : wx.ownsRow (Q + 1) 22 1 v' (LC.length + 1) (LC ++ [.slice (some ⟨G,0,none⟩) N cap])) (hv : v'.ownBlock = vC.ownBlock \/ v'.ownBlock = some wr.heap.size) :
  WM w0 wx Q N sta fin arcs cv pv lv v' vP vL (LC ++ [.slice (some ⟨G,0,none⟩) N cap]) (cs ++ [V]) LP LL:=by
 have hQl:=h.lt
 have hne : some Q ≠ vC.ownBlock:=fun e => by have:=(h.ownC Q e.symm).1; omega
 have far : ∀ b,b < wr.heap.size -> vC.ownBlock ≠ some b -> v'.ownBlock ≠ some b:=fun b hb hn e => by
  rcases hv with hv | hv
  ·rw [hv] at e; exact hn e
  ·rw [hv] at e; injection e with e; omega
 have hc : ∀ {i : Nat} {u : Value},wr.cell? ⟨Q,i,none⟩ = some u -> wx.cell? ⟨Q,i,none⟩ = some u:=fun hh => (hg.cell_far ⟨Q,_,none⟩ hQl hne).trans hh
 refine ⟨h.bel.grown hg (by omega) (fun b hb => by have:=(h.ownC b hb).1; omega),⟨hc h.cf.1,hc h.cf.2.1,hc h.cf.2.2.1,hc h.cf.2.2.2⟩,hc h.c4,hc h.c5,hc h.c6,fun i => frz_block (hg.block Q hQl hne) (h.frz i),?_,own_same h.oP (fun b hb => hg.block b (h.ownP b hb).2 (fun e => h.nCP b e.symm hb)),own_same h.oL (fun b hb => hg.block b (h.ownL b hb).2 (fun e => h.nCL b e.symm hb)),fun b hb e => ?_,fun b hb e => ?_,h.nPL,by simp [h.lc],fun j U hU => ?_⟩
 ·rw [List.length_append,List.length_singleton]; exact ho
 ·exact far b (h.ownP b e).2 (fun e2 => h.nCP b e2 e) hb
 ·exact far b (h.ownL b e).2 (fun e2 => h.nCL b e2 e) hb
 ·by_cases e : j < cs.length
  ·rw [List.getElem?_append_left e] at hU
   obtain ⟨G',cap',r1,r2,r3,r4,r5,r6⟩:=h.rows j U hU
   exact ⟨G',cap',by rw [List.getElem?_append_left (by have:=h.lc; omega)]; exact r1,r2.grown hg (fun e => r4 e.symm),r3,far G' r2.lt r4,r5,r6⟩
  ·have hj:=(List.getElem?_eq_some_iff.1 hU).1
   rw [List.length_append,List.length_singleton] at hj
   obtain rfl : j = cs.length:=by omega
   rw [List.getElem?_append_right (Nat.le_refl _),Nat.sub_self] at hU
   have : V = U:=by simpa using hU
   subst this
   exact ⟨G,cap,by rw [<- h.lc,List.getElem?_append_right (Nat.le_refl _),Nat.sub_self]; rfl,hV.grown hg (fun e => n1 e.symm),hG,far G hV.lt n1,n2,n3⟩
theorem WM.appP (h : WM w0 wr Q N sta fin arcs cv pv lv vC vP vL LC cs LP LL) {x : Int} (hg : wr.grownBy wx vP.ownBlock) (ho : wx.ownsRow (Q + 1) 3 1 v' (LP.length + 1) (intsW LP ++ [.int .i64 x])) (hv : v'.ownBlock = vP.ownBlock \/ v'.ownBlock = some wr.heap.size) :
  WM w0 wx Q N sta fin arcs cv pv lv vC v' vL LC cs (LP ++ [x]) LL:=by
 have hQl:=h.lt
 have hne : some Q ≠ vP.ownBlock:=fun e => by have:=(h.ownP Q e.symm).1; omega
 have far : ∀ b,b < wr.heap.size -> vP.ownBlock ≠ some b -> v'.ownBlock ≠ some b:=fun b hb hn e => by
  rcases hv with hv | hv
  ·rw [hv] at e; exact hn e
  ·rw [hv] at e; injection e with e; omega
 have hc : ∀ {i : Nat} {u : Value},wr.cell? ⟨Q,i,none⟩ = some u -> wx.cell? ⟨Q,i,none⟩ = some u:=fun hh => (hg.cell_far ⟨Q,_,none⟩ hQl hne).trans hh
 refine ⟨h.bel.grown hg (by omega) (fun b hb => by have:=(h.ownP b hb).1; omega),⟨hc h.cf.1,hc h.cf.2.1,hc h.cf.2.2.1,hc h.cf.2.2.2⟩,hc h.c4,hc h.c5,hc h.c6,fun i => frz_block (hg.block Q hQl hne) (h.frz i),own_same h.oC (fun b hb => hg.block b (h.ownC b hb).2 (fun e => h.nCP b hb e.symm)),?_,own_same h.oL (fun b hb => hg.block b (h.ownL b hb).2 (fun e => h.nPL b e.symm hb)),fun b hb e => ?_,h.nCL,fun b hb e => ?_,h.lc,fun j U hU => ?_⟩
 ·have e1 : (LP ++ [x]).length = LP.length + 1:=by simp
  have e2 : intsW (LP ++ [x]) = intsW LP ++ [.int .i64 x]:=by simp [intsW]
  rw [e1,e2]; exact ho
 ·exact far b (h.ownC b hb).2 (h.nCP b hb) e
 ·exact far b (h.ownL b e).2 (fun e2 => h.nPL b e2 e) hb
 ·obtain ⟨G',cap',r1,r2,r3,r4,r5,r6⟩:=h.rows j U hU
  exact ⟨G',cap',r1,r2.grown hg (fun e => r5 e.symm),r3,r4,far G' r2.lt r5,r6⟩
theorem WM.appL (h : WM w0 wr Q N sta fin arcs cv pv lv vC vP vL LC cs LP LL) {x : Int} (hg : wr.grownBy wx vL.ownBlock) (ho : wx.ownsRow (Q + 1) 3 1 v' (LL.length + 1) (intsW LL ++ [.int .i64 x])) (hv : v'.ownBlock = vL.ownBlock \/ v'.ownBlock = some wr.heap.size) :
  WM w0 wx Q N sta fin arcs cv pv lv vC vP v' LC cs LP (LL ++ [x]):=by
 have hQl:=h.lt
 have hne : some Q ≠ vL.ownBlock:=fun e => by have:=(h.ownL Q e.symm).1; omega
 have far : ∀ b,b < wr.heap.size -> vL.ownBlock ≠ some b -> v'.ownBlock ≠ some b:=fun b hb hn e => by
  rcases hv with hv | hv
  ·rw [hv] at e; exact hn e
  ·rw [hv] at e; injection e with e; omega
 have hc : ∀ {i : Nat} {u : Value},wr.cell? ⟨Q,i,none⟩ = some u -> wx.cell? ⟨Q,i,none⟩ = some u:=fun hh => (hg.cell_far ⟨Q,_,none⟩ hQl hne).trans hh
 refine ⟨h.bel.grown hg (by omega) (fun b hb => by have:=(h.ownL b hb).1; omega),⟨hc h.cf.1,hc h.cf.2.1,hc h.cf.2.2.1,hc h.cf.2.2.2⟩,hc h.c4,hc h.c5,hc h.c6,fun i => frz_block (hg.block Q hQl hne) (h.frz i),own_same h.oC (fun b hb => hg.block b (h.ownC b hb).2 (fun e => h.nCL b hb e.symm)),own_same h.oP (fun b hb => hg.block b (h.ownP b hb).2 (fun e => h.nPL b hb e.symm)),?_,h.nCP,fun b hb e => ?_,fun b hb e => ?_,h.lc,fun j U hU => ?_⟩
 ·have e1 : (LL ++ [x]).length = LL.length + 1:=by simp
  have e2 : intsW (LL ++ [x]) = intsW LL ++ [.int .i64 x]:=by simp [intsW]
  rw [e1,e2]; exact ho
 ·exact far b (h.ownC b hb).2 (h.nCL b hb) e
 ·exact far b (h.ownP b hb).2 (h.nPL b hb) e
 ·obtain ⟨G',cap',r1,r2,r3,r4,r5,r6⟩:=h.rows j U hU
  exact ⟨G',cap',r1,r2.grown hg (fun e => r6 e.symm),r3,r4,r5,far G' r2.lt r6⟩
theorem set_off7 {w : World} {B i j : Nat} {u v : Value} (h : w.cell? ⟨B,j,none⟩ = some u) (hij : j ≠ i) : (w.setCell ⟨B,i,none⟩ v).cell? ⟨B,j,none⟩ = some u:=by
 rw [World.cell?_setCell_other _ _ _ _ (by intro e; injection e with _ e2; omega)]
 exact h
theorem WM.setBox (h : WM w0 wr Q N sta fin arcs cv pv lv vC vP vL LC cs LP LL) (i : Nat) (u : Value) (cv' pv' lv' : Value) (hi : 4 <= i) (h4 : (wr.setCell ⟨Q,i,none⟩ u).cell? ⟨Q,4,none⟩ = some cv') (h5 : (wr.setCell ⟨Q,i,none⟩ u).cell? ⟨Q,5,none⟩ = some pv') (h6 : (wr.setCell ⟨Q,i,none⟩ u).cell? ⟨Q,6,none⟩ = some lv') :
  WM w0 (wr.setCell ⟨Q,i,none⟩ u) Q N sta fin arcs cv' pv' lv' vC vP vL LC cs LP LL:=by
 have nC : vC.ownBlock ≠ some Q:=fun e => by have:=(h.ownC Q e).1; omega
 have nP : vP.ownBlock ≠ some Q:=fun e => by have:=(h.ownP Q e).1; omega
 have nL : vL.ownBlock ≠ some Q:=fun e => by have:=(h.ownL Q e).1; omega
 refine ⟨h.bel.setCell (p:=⟨Q,i,none⟩) (Nat.le_refl _) _,⟨set_off7 h.cf.1 (by omega),set_off7 h.cf.2.1 (by omega),set_off7 h.cf.2.2.1 (by omega),set_off7 h.cf.2.2.2 (by omega)⟩,h4,h5,h6,fun k => by rw [World.frozen?_setCell]; exact h.frz k,ownsRow_setCell_far h.oC nC,ownsRow_setCell_far h.oP nP,ownsRow_setCell_far h.oL nL,h.nCP,h.nCL,h.nPL,h.lc,fun j U hU => ?_⟩
 obtain ⟨G',cap',r1,r2,r3,r4⟩:=h.rows j U hU
 exact ⟨G',cap',r1,r2.other (by omega),r3,r4⟩
theorem WM.set4 (h : WM w0 wr Q N sta fin arcs cv pv lv vC vP vL LC cs LP LL) : WM w0 (wr.setCell ⟨Q,4,none⟩ vC) Q N sta fin arcs vC pv lv vC vP vL LC cs LP LL :=
 h.setBox 4 vC vC pv lv (by omega) (World.cell?_setCell_same _ _ _ h.c4) (set_off7 h.c5 (by decide)) (set_off7 h.c6 (by decide))
theorem WM.set5 (h : WM w0 wr Q N sta fin arcs cv pv lv vC vP vL LC cs LP LL) : WM w0 (wr.setCell ⟨Q,5,none⟩ vP) Q N sta fin arcs cv vP lv vC vP vL LC cs LP LL :=
 h.setBox 5 vP cv vP lv (by omega) (set_off7 h.c4 (by decide)) (World.cell?_setCell_same _ _ _ h.c5) (set_off7 h.c6 (by decide))
theorem WM.set6 (h : WM w0 wr Q N sta fin arcs cv pv lv vC vP vL LC cs LP LL) : WM w0 (wr.setCell ⟨Q,6,none⟩ vL) Q N sta fin arcs cv pv vL vC vP vL LC cs LP LL :=
 h.setBox 6 vL cv pv vL (by omega) (set_off7 h.c4 (by decide)) (set_off7 h.c5 (by decide)) (World.cell?_setCell_same _ _ _ h.c6)
end
end Go.Proofs.Yteehgcbjmdideab
/- What 'WordsOf' has in hand while rows grow: literals,the row that is next; three operations that may come up. -/
namespace Go.Proofs.Yteehgcbjmdideab
open Go.RowKit
open Go
structure LitAt (W : World) (b : Nat) (u vC vP vL : Value) : Prop where
 c : W.cell? ⟨b,0,none⟩ = some u
 nC : vC.ownBlock ≠ some b
 nP : vP.ownBlock ≠ some b
 nL : vL.ownBlock ≠ some b
structure RowAt (W : World) (Q N G : Nat) (V : List Int) (vC vP vL : Value) : Prop where
 num : NumsAt W G N V
 q : Q < G
 nC : vC.ownBlock ≠ some G
 nP : vP.ownBlock ≠ some G
 nL : vL.ownBlock ≠ some G
theorem own_far {W : World} {v v' : Value} {b : Nat} (hb : b < W.heap.size) (hn : v.ownBlock ≠ some b) (hv : v'.ownBlock = v.ownBlock \/ v'.ownBlock = some W.heap.size) : v'.ownBlock ≠ some b:=fun e => by
 rcases hv with hv | hv
 ·rw [hv] at e; exact hn e
 ·rw [hv] at e; injection e with e; omega
section
variable {W Wx : World} {Q N b G : Nat} {u vC vP vL v' : Value} {V : List Int}
theorem LitAt.below (h : LitAt W b u vC vP vL) (hb : Below W.heap.size W Wx) : LitAt Wx b u vC vP vL:=⟨bel_c hb h.c,h.nC,h.nP,h.nL⟩
theorem LitAt.gC (h : LitAt W b u vC vP vL) (hg : W.grownBy Wx vC.ownBlock) (hv : v'.ownBlock = vC.ownBlock \/ v'.ownBlock = some W.heap.size) : LitAt Wx b u v' vP vL :=
 ⟨(hg.cell_far ⟨b,0,none⟩ (cell_lt h.c) (fun e => h.nC e.symm)).trans h.c,own_far (cell_lt h.c) h.nC hv,h.nP,h.nL⟩
theorem LitAt.gP (h : LitAt W b u vC vP vL) (hg : W.grownBy Wx vP.ownBlock) (hv : v'.ownBlock = vP.ownBlock \/ v'.ownBlock = some W.heap.size) : LitAt Wx b u vC v' vL :=
 ⟨(hg.cell_far ⟨b,0,none⟩ (cell_lt h.c) (fun e => h.nP e.symm)).trans h.c,h.nC,own_far (cell_lt h.c) h.nP hv,h.nL⟩
theorem LitAt.news (h : LitAt W b u vC vP vL) : ∀ j x,([u] : List Value)[j]? = some x -> W.cell? ((⟨b,0,none⟩ : Addr).add j) = some x:=by
 intro j x hj
 match j,hj with
 | 0,hj => simp at hj; subst hj; simpa [Addr.add] using h.c
theorem RowAt.below (h : RowAt W Q N G V vC vP vL) (hb : Below W.heap.size W Wx) : RowAt Wx Q N G V vC vP vL:=⟨h.num.below hb,h.q,h.nC,h.nP,h.nL⟩
theorem lit_new {w0 : World} {sta : Int} {fin arcs cv pv lv : Value} {LC : List Value} {cs : List (List Int)} {LP LL : List Int} (h : WM w0 W Q N sta fin arcs cv pv lv vC vP vL LC cs LP LL) (u : Value) (t : Nat) : LitAt (W.alloc (.cells #[u] t)) W.heap.size u vC vP vL :=
 ⟨new_cell _ _ _ _ 0 _ rfl rfl,fun e => by have:=(h.ownC _ e).2; omega,fun e => by have:=(h.ownP _ e).2; omega,fun e => by have:=(h.ownL _ e).2; omega⟩
end
theorem one_val {u : Value} (h : u.oneCell' = true) : ∀ x ∈ ([u] : List Value),x.oneCell' = true:=fun x hx => by
 have : x = u:=by simpa using hx
 rw [this]; exact h
end Go.Proofs.Yteehgcbjmdideab
/- The program's search,where weights may be great. (Made by wip/gen/bg.py out of CostM.) -/
namespace Go.Proofs.Yteehgcbjmdideab.Bg
def muI (x : Int) : Nat:=if x < 0 then 10000000000000000000 else x.toNat
def muL (c : List Int) : Nat:=(c.map muI).sum
structure Inv (E : List Edg) (b c y : List Int) : Prop where
 len : c.length = b.length
 ylen : y.length = b.length
 ach : Ach E b c
 le : LeC c b
 lo : ∀ v,-1 <= gI c v
 hi : ∀ v,gI c v <= 10000000000000 * (1 + (metL c : Int))
 by_ : ∃ r R,(∀ x,r x <= R) /\ ByOk E b c y r
section
variable {E : List Edg} {b c y : List Int}
theorem Inv.top (h : Inv E b c y) (hn : b.length <= 200) (v : Nat) : gI c v <= 2010000000000000:=by
 have h1:=h.hi v
 have h2:=metL_le c
 have h3:=h.len
 omega
theorem Inv.topK (h : Inv E b c y) (hn : b.length <= 400000) (v : Nat) : gI c v <= 4000010000000000000:=by
 have h1:=h.hi v
 have h2:=metL_le c
 have h3:=h.len
 omega
theorem Inv.start (hb : ∀ v,gI b v = -1 \/ 0 <= gI b v) (hm : ∀ v,gI b v <= 10000000000000) : Inv E b b (List.replicate b.length (-1)) where
 len:=rfl
 ylen:=by simp
 ach:=fun v => (hb v).imp id fun h => ⟨0,rfl,h⟩
 le:=LeC.refl _
 lo:=fun v => by rcases hb v with h | h <;> omega
 hi:=fun v => by have:=hm v; omega
 by_:=⟨fun _ => 0,0,fun _ => Nat.le_refl _,fun v hv => Or.inl ⟨by simp [gI,List.getD,hv],rfl⟩⟩
theorem Inv.step {j : Nat} {e : Edg} (h : Inv E b c y) (hbn : b.length <= 400000) (hj : E[j]? = some e) (hv : e.v < b.length) (hw0 : 0 <= e.w) (hw1 : e.w <= 10000000000000)
  (hbt : betterB (plusC (gI c e.u) e.w) (gI c e.v) = true) :
  Inv E b (c.set e.v (plusC (gI c e.u) e.w)) (y.set e.v (j : Int)) /\ muL (c.set e.v (plusC (gI c e.u) e.w)) < muL c:=by
 have hvc : e.v < c.length:=by have:=h.len; omega
 have hvy : e.v < y.length:=by have:=h.ylen; omega
 have he : e ∈ E:=List.mem_of_getElem? hj
 obtain ⟨hp0,hbet⟩:=(better_iff (plusC_lo _ _) (h.lo _)).1 hbt
 have hcu : 0 <= gI c e.u:=by
  unfold plusC at hp0
  split at hp0
  ·omega
  ·rename_i hh; omega
 have hp : plusC (gI c e.u) e.w = gI c e.u + e.w:=by unfold plusC; rw [if_neg (by omega)]
 have hrel : c.set e.v (plusC (gI c e.u) e.w) = relE c e:=by
  rw [<- progE_eq c e h.lo]
  unfold progE
  rw [if_pos hbt]
 have hne : e.u ≠ e.v:=by
  intro hh
  rw [hh] at hp hcu
  rw [hh,hp] at hbet
  omega
 have hset : ∀ x,gI (c.set e.v (plusC (gI c e.u) e.w)) x = if x = e.v then gI c e.u + e.w else gI c x:=fun x => by rw [gI_set _ _ _ _ hvc,hp]
 have hyset : ∀ x,gI (y.set e.v (j : Int)) x = if x = e.v then (j : Int) else gI y x:=fun x => gI_set _ _ _ _ hvy
 have hmet:=sum_set (fun x => if x < 0 then 0 else 1) c e.v (plusC (gI c e.u) e.w) hvc
 have hmu:=sum_set muI c e.v (plusC (gI c e.u) e.w) hvc
 change metL (c.set e.v (plusC (gI c e.u) e.w)) + _ = metL c + _ at hmet
 change muL (c.set e.v (plusC (gI c e.u) e.w)) + _ = muL c + _ at hmu
 rw [if_neg (by omega : ¬ plusC (gI c e.u) e.w < 0)] at hmet
 have htop:=h.hi e.u
 refine ⟨⟨by simpa using h.len,by simpa using h.ylen,?_,?_,?_,?_,?_⟩,?_⟩
 ·rw [hrel]; exact relE_ach he hvc h.ach
 ·rw [hrel]; exact (relE_le c e hvc).trans h.le
 ·intro x
  rw [hset]
  split
  ·omega
  ·exact h.lo x
 ·intro x
  rw [hset]
  have hx:=h.hi x
  by_cases hn : gI c e.v < 0
  ·rw [if_pos hn] at hmet
   split <;> omega
  ·rw [if_neg hn] at hmet
   have:=h.hi e.v
   split <;> omega
 ·obtain ⟨r,R,hR,hby⟩:=h.by_
  refine ⟨fun x => if x = e.v then R + 1 else r x,R + 1,fun x => ?_,fun v hv' => ?_⟩
  ·show (if x = e.v then R + 1 else r x) <= R + 1
   split
   ·exact Nat.le_refl _
   ·have:=hR x; omega
  ·rw [hset,hyset]
   by_cases hve : v = e.v
   ·subst hve
    right
    rw [if_pos rfl,if_pos rfl]
    refine ⟨j,e,rfl,hj,rfl,?_⟩
    rw [hset,if_neg hne]
    simp only [hne,if_true,if_false]
    have:=hR e.u
    refine ⟨hcu,by omega,by omega,fun _ => by omega⟩
   ·rw [if_neg hve,if_neg hve]
    rcases hby v (by simpa using hv') with hl | ⟨j',e',h1,h2,h3,h4,h5,h6,h7⟩
    ·exact Or.inl hl
    ·right
     refine ⟨j',e',h1,h2,h3,?_⟩
     rw [hset]
     by_cases hue : e'.u = e.v
     ·rw [if_pos hue]
      rw [hue] at h4 h6
      refine ⟨by omega,h5,by omega,fun hh => by omega⟩
     ·rw [if_neg hue]
      refine ⟨h4,h5,h6,fun hh => ?_⟩
      have:=h7 hh
      simp only [hue,if_false,hve]
      exact this
 ·have hmu1 : muI (plusC (gI c e.u) e.w) < muI (gI c e.v):=by
   unfold muI
   rw [if_neg (by omega)]
   by_cases hn : gI c e.v < 0
   ·rw [if_pos hn]
    have:=h.topK hbn e.u
    omega
   ·rw [if_neg hn]; omega
  omega
end
end Go.Proofs.Yteehgcbjmdideab.Bg
/- 'Costs' of package spread,where weights may be great. (Made by wip/gen/bg.py out of CostsP and ShortM.) -/
namespace Go.Proofs.Yteehgcbjmdideab.Bg
open Go.RowKit
attribute [local go_sem ↓] Go.wp_at_zero Go.wp_at_succ
theorem sum_any (a b : Int) (w : World) (ha : -1 <= a) (hb : -1 <= b) (ha2 : a <= 100000000000000000) (hb2 : b <= 100000000000000000) :
  Calls Try.prog 92 #[.int .i64 a,.int .i64 b] w fun e w' => e = .returned (.int .i64 (plusC a b)) /\ w' = w:=by
 by_cases h1 : a = -1
 ·subst h1
  go_enter Try.func92,Try.ntmps92
  go_wp2
  go_ret
  exact ⟨ret_int (by simp [plusC]),rfl⟩
 ·have h1b : (a == -1) = false:=by simpa using h1
  by_cases h2 : b = -1
  ·subst h2
   go_enter Try.func92,Try.ntmps92
   go_wp2
   go_ret
   exact ⟨ret_int (by simp [plusC]),rfl⟩
  ·have h2b : (b == -1) = false:=by simpa using h2
   go_enter Try.func92,Try.ntmps92
   go_wp2
   go_ret
   exact ⟨ret_int (by unfold plusC; rw [if_neg (by omega)]),rfl⟩
def muW (w : World) (g n : Nat) : Nat:=((List.range n).map fun i => muI (intOf ((w.cell? ⟨g,i,none⟩).getD (.int .i64 0)))).sum
theorem muW_eq {w : World} {g n : Nat} {c : List Int} (h : NumsAt w g n c) : muW w g n = muL c:=by
 unfold muW muL
 congr 1
 apply List.ext_getElem
 ·simp [h.len]
 ·intro i h1 h2
  have hi : i < n:=by simpa using h1
  have hl:=h.len
  simp [h.cell i hi,intOf,gI,List.getD,show i < c.length by omega]
structure CW (w wr : World) (gc gy n : Nat) (E : List Edg) (b c y : List Int) : Prop where
 rc : NumsAt wr gc n c
 ry : NumsAt wr gy n y
 ne : gc ≠ gy
 lc : w.heap.size <= gc
 ly : w.heap.size <= gy
 bel : Below w.heap.size w wr
 inv : Inv E b c y
theorem CW.below {w wr wx : World} {gc gy n : Nat} {E : List Edg} {b c y : List Int} (h : CW w wr gc gy n E b c y) (hb : Below wr.heap.size wr wx) : CW w wx gc gy n E b c y :=
 ⟨h.rc.below hb,h.ry.below hb,h.ne,h.lc,h.ly,bel_on h.bel hb,h.inv⟩
def CostsRes (w : World) (n : Nat) (E : List Edg) (b : List Int) (e : Ending) (w' : World) : Prop :=
 ∃ gc gy c y cc cy,e = .returned (.tuple #[.slice (some ⟨gc,0,none⟩) n cc,.slice (some ⟨gy,0,none⟩) n cy]) /\ CW w w' gc gy n E b c y /\ Fix E c
set_option maxHeartbeats 1000000 in
theorem costs_some (pu pv : ArcD -> Int) (F : Nat) (hG : ∀ args w,(callFunc F args).run Try.prog w = .ok (.enter F args) w) (hF : ∀ (a : ArcD) (w : World),Calls Try.prog F #[.agg #[.int .i64 a.src,.int .i64 a.inp,.int .i64 a.out,.int .i64 a.dst,.int .i64 a.wt]] w fun e w' => e = .returned (.tuple #[.int .i64 (pu a),.int .i64 (pv a)]) /\ Below w.heap.size w w')
  (b : List Int) (gb ob cb n : Nat) (aa : Option Addr) (m ac : Nat) (ars : List ArcD) (w : World) (hb : IntsAt w gb ob n b) (ha : ASlice w (.slice aa m ac) ars) (hal : ars.length = m) (hm : m <= 3000) (hn1 : 1 <= n) (hn : n <= 200)
  (hb0 : ∀ v,gI b v = -1 \/ 0 <= gI b v) (hb1 : ∀ v,gI b v <= 10000000000000)
  (hok : ∀ a ∈ ars,(0 <= pu a /\ pu a < n) /\ (0 <= pv a /\ pv a < n) /\ (0 <= a.wt /\ a.wt <= 10000000000000)) :
  Calls Try.prog 65 #[.slice (some ⟨gb,ob,none⟩) n cb,.slice aa m ac,.func (.func F) #[] #[]] w fun e w' =>
   CostsRes w n (ars.map (edgOf pu pv)) b e w':=by
 have HOK : Hid (∀ a ∈ ars,(0 <= pu a /\ pu a < n) /\ (0 <= pv a /\ pv a < n) /\ (0 <= a.wt /\ a.wt <= 10000000000000)):=hok
 have HAL : Hid (ars.length = m):=hal
 have hbl:=hb.len
 have hcl:=Try.slices_Clone_int gb ob n cb b w (by omega) (by omega) (fun j hj => hb.cell j (by omega))
 clear hok hal
 go_enter Try.func65,Try.ntmps65
 go_wp2_with (first | (go_at_call 93; refine hcl.mono ?_; rintro e w1 ⟨v1,rfl,hrow,_,hb1'⟩; obtain ⟨gc,cc,rfl⟩:=Go.Joins.ownsRow_form hrow (by omega)) | (go_at_call 91; refine (repeat_any (-1) w1.heap.size 0 1 n _ (new_cell _ _ _ _ _ _ rfl rfl) hn1 hn).mono ?_; rintro e w2 ⟨rfl,hG0,hb2⟩))
 have hW : CW w w2 gc (w1.heap.size + 1) n (ars.map (edgOf pu pv)) b b (List.replicate n (-1)):=by
  obtain ⟨r1,r2⟩:=NumsAt.of_row hrow
  rw [List.take_of_length_le (by omega)] at r1
  have r1l:=r1.lt
  have h12:=bel_on (bel_up (bel_self w1) (.cells #[.int .i64 (-1)] 3)) hb2
  exact ⟨r1.below h12,rep_row hG0,by omega,r2,by have:=hb1'.size; omega,bel_on hb1' h12,by have:=Inv.start (E:=ars.map (edgOf pu pv)) hb0 hb1; rw [hbl] at this; exact this⟩
 have HB0 : Hid (∀ v,gI b v = -1 \/ 0 <= gI b v):=hb0
 have HB1 : Hid (∀ v,gI b v <= 10000000000000):=hb1
 obtain ⟨gy,hgy⟩ : ∃ gy,gy = w1.heap.size + 1:=⟨_,rfl⟩
 rw [<- hgy] at hW
 have h12 : w1.heap.size + 1 <= w2.heap.size:=by have:=hb2.size; simp at this; omega
 clear hcl hG0 hrow hb0 hb1
 rw [<- hgy]
 clear hgy h12 hb1' hb2
 go_loopw [8] (fun t8 wr => ∃ f : Bool,t8 = .bool f /\ ∃ c y,CW w wr gc gy n (ars.map (edgOf pu pv)) b c y /\ (f = false -> Fix (ars.map (edgOf pu pv)) c)) (fun t8 wr => 2 * muW wr gc n + boolN t8)
 case atStart => exact ⟨true,rfl,b,_,hW,fun h => by cases h⟩
 case round =>
  clear hW
  obtain ⟨f,rfl,c,y,hW,hfix⟩:=hrel
  cases f with
  | false =>
   have HF : Hid (Fix (ars.map (edgOf pu pv)) c):=hfix rfl
   go_wp2
   go_ret2
   exact ⟨gc,gy,c,y,cc,n,rfl,hW,HF.out⟩
  | true =>
   clear hfix
   have HMU : Hid (muW wr gc n = muL c):=muW_eq hW.rc
   go_wp2
   go_loopw [8,23] (fun t8 t23 wr => ∃ (f : Bool) (k : Nat),t8 = .bool f /\ k <= m /\ t23 = .int .i64 k /\ ∃ c' y',CW w wr gc gy n (ars.map (edgOf pu pv)) b c' y' /\ ((f = false /\ c' = c /\ ∀ j,j < k -> ∀ e,(ars.map (edgOf pu pv))[j]? = some e -> betterB (plusC (gI c e.u) e.w) (gI c e.v) = false) \/ (f = true /\ muL c' < muL c))) (fun _ t23 _ => m - (intOf t23).toNat)
   case atStart => exact ⟨false,0,rfl,Nat.zero_le _,rfl,c,y,hW,Or.inl ⟨rfl,rfl,fun j hj => absurd hj (Nat.not_lt_zero _)⟩⟩
   case round =>
    obtain ⟨f,k,rfl,hk,rfl,c',y',hW',hrel⟩:=hrel
    have HR : Hid ((f = false /\ c' = c /\ ∀ j,j < k -> ∀ e,(ars.map (edgOf pu pv))[j]? = some e -> betterB (plusC (gI c e.u) e.w) (gI c e.v) = false) \/ (f = true /\ muL c' < muL c)):=hrel
    clear hrel hW
    by_cases hlt : k < m
    ·obtain ⟨ab,aoff,rfl,hx⟩:=(ha.below hW'.bel).some (by omega)
     obtain ⟨a,hak⟩ : ∃ a,a = ars.getD k a0:=⟨_,rfl⟩
     have hkl : k < ars.length:=by have:=HAL.out; omega
     have hmem : a ∈ ars:=by rw [hak]; simp [List.getD,hkl]
     obtain ⟨⟨q1,q2⟩,⟨q3,q4⟩,q5,q6⟩:=HOK.out a hmem
     obtain ⟨s,hs⟩ : ∃ s : Nat,pu a = s:=⟨(pu a).toNat,by omega⟩
     obtain ⟨t,ht⟩ : ∃ t : Nat,pv a = t:=⟨(pv a).toNat,by omega⟩
     have hsN : s < n:=by omega
     have htN : t < n:=by omega
     have c0:=hx.c0 k hlt
     have c1:=hx.c1 k hlt
     have c2:=hx.c2 k hlt
     have c3:=hx.c3 k hlt
     have c4:=hx.c4 k hlt
     rw [<- hak] at c0 c1 c2 c3 c4
     have HAK : Hid ((ars.map (edgOf pu pv))[k]? = some ⟨s,t,a.wt⟩):=by
      show (ars.map (edgOf pu pv))[k]? = some ⟨s,t,a.wt⟩
      have e1 : ars[k]? = some a:=by rw [hak]; simp [List.getD,hkl]
      rw [List.getElem?_map,e1]
      simp [edgOf,hs,ht]
     clear hak hmem hkl hx
     have hlti : (k : Int) < m:=by omega
     have hcall:=hF a
     rw [hs,ht] at hcall
     clear hs ht q1 q2 q3 q4
     have hlo:=hW'.inv.lo s
     have hhi:=hW'.inv.top (by omega) s
     obtain ⟨p,hp⟩ : ∃ p,p = plusC (gI c' s) a.wt:=⟨_,rfl⟩
     have hsum:=sum_any (gI c' s) a.wt
     rw [<- hp] at hsum
     have hsi : (s : Int) < n:=by omega
     have hti : (t : Int) < n:=by omega
     have HP : Hid (p = plusC (gI c' s) a.wt):=hp
     clear hp
     cases hbt : betterB p (gI c' t) with
     | false =>
      have hless:=lessP_any p (gI c' t)
      rw [hbt] at hless
      have HBT : Hid (betterB p (gI c' t) = false):=hbt
      clear hbt
      go_wp2_with (first | (refine (hcall _).mono ?_; rintro e w3 ⟨rfl,hb3⟩; have hW3:=hW'.below (bel_on (bel_up (bel_self wr) _) hb3); have x0:=hW3.rc.cell s hsN; have x1:=hW3.rc.cell t htN; have x2:=hW3.ry.cell t htN; have f1:=hW3.rc.frz t; have f2:=hW3.ry.frz t; have x4:=bel_c hb3 (new_cell wr #[.int .i64 a.src,.int .i64 a.inp,.int .i64 a.out,.int .i64 a.dst,.int .i64 a.wt] 54 wr.heap.size 4 (.int .i64 a.wt) rfl rfl); clear c0 c1 c2 c3 c4 hb3))
      go_quiet (first | (go_at_call 92; refine Calls.quiet_of_same (hsum _ hlo (by omega) (by omega) (by omega))))
      go_wp2_with (first | (go_at_call 69; refine (hless _).mono ?_; rintro e w4 ⟨rfl,rfl⟩))
      have hW4:=hW3.below (bel_drewN (bel_self w3) nq)
      go_roundw
      case rel =>
       refine ⟨f,k + 1,rfl,by omega,by go_num,c',y',hW4,?_⟩
       rcases HR.out with ⟨h1,h2,h3⟩ | h
       ·refine Or.inl ⟨h1,h2,fun j hj e he => ?_⟩
        by_cases hjk : j = k
        ·subst hjk
         rw [HAK.out] at he
         injection he with he
         subst he
         have:=HBT.out
         rw [HP.out,h2] at this
         exact this
        ·exact h3 j (by omega) e he
       ·exact Or.inr h
      case measure => simp [intOf]; omega
     | true =>
      have hless:=lessP_any p (gI c' t)
      rw [hbt] at hless
      have HBT : Hid (betterB p (gI c' t) = true):=hbt
      clear hbt
      go_wp2_with (first | (refine (hcall _).mono ?_; rintro e w3 ⟨rfl,hb3⟩; have hW3:=hW'.below (bel_on (bel_up (bel_self wr) _) hb3); have x0:=hW3.rc.cell s hsN; have x1:=hW3.rc.cell t htN; have x2:=hW3.ry.cell t htN; have f1:=hW3.rc.frz t; have f2:=hW3.ry.frz t; have x4:=bel_c hb3 (new_cell wr #[.int .i64 a.src,.int .i64 a.inp,.int .i64 a.out,.int .i64 a.dst,.int .i64 a.wt] 54 wr.heap.size 4 (.int .i64 a.wt) rfl rfl); clear c0 c1 c2 c3 c4 hb3))
      go_quiet (first | (go_at_call 92; refine Calls.quiet_of_same (hsum _ hlo (by omega) (by omega) (by omega))))
      have hW4:=hW3.below (bel_drewN (bel_self w3) nq)
      have hne:=hW4.ne
      have z1:=hW4.rc.cell t htN
      have z2:=(hW4.ry.other (k:=gc) (i:=t) (v:=.int .i64 p) (Ne.symm hne)).cell t htN
      have z3:=(hW4.ry.other (k:=gc) (i:=t) (v:=.int .i64 p) (Ne.symm hne)).frz t
      have z4:=hW4.rc.frz t
      go_wp2_with (first | (go_at_call 69; refine (hless _).mono ?_; rintro e w4 ⟨rfl,rfl⟩))
      go_roundw
      case rel =>
       have hst:=hW4.inv.step (j:=k) (by omega) HAK.out (by rw [hbl]; exact htN) q5 q6 (by show betterB (plusC (gI c' s) a.wt) (gI c' t) = true; rw [<- HP.out]; exact HBT.out)
       change Inv _ _ (c'.set t (plusC (gI c' s) a.wt)) (y'.set t (k : Int)) /\ muL (c'.set t (plusC (gI c' s) a.wt)) < muL c' at hst
       rw [<- HP.out] at hst
       refine ⟨true,k + 1,rfl,by omega,by go_num,c'.set t p,y'.set t (k : Int),⟨(hW4.rc.set t p htN).other hne,(hW4.ry.other (Ne.symm hne)).set t k htN,hne,hW4.lc,hW4.ly,(hW4.bel.setCell (p:=⟨gc,t,none⟩) hW4.lc _).setCell (p:=⟨gy,t,none⟩) hW4.ly _,hst.1⟩,Or.inr ⟨rfl,?_⟩⟩
       have hlt2:=hst.2
       rcases HR.out with ⟨_,h2,_⟩ | ⟨_,h⟩
       ·rw [<- h2]; exact hlt2
       ·omega
      case measure => simp [intOf]; omega
    ·have hkm : k = m:=by omega
     subst hkm
     go_wp2
     go_roundw
     case rel =>
      refine ⟨f,rfl,c',y',hW',fun hf => ?_⟩
      rcases HR.out with ⟨_,h2,h3⟩ | ⟨h,_⟩
      ·subst h2
       refine fix_of _ _ (fun e he => ?_) hW'.inv.lo (fun e he => ?_)
       ·obtain ⟨a,ha1,rfl⟩:=List.mem_map.1 he
        exact (HOK.out a ha1).2.2.1
       ·obtain ⟨j,hj,hje⟩:=List.getElem_of_mem he
        exact h3 j (by have:=HAL.out; simp at hj; omega) e (by rw [List.getElem?_eq_getElem hj,hje])
      ·rw [hf] at h; cases h
     case measure =>
      rw [muW_eq hW'.rc,HMU.out]
      rcases HR.out with ⟨h1,h2,_⟩ | ⟨h,h2⟩
      ·rw [h1,h2]; simp [boolN]
      ·rw [h]; simp [boolN]; omega
theorem fix_rounds {E L : List Edg} {b c y : List Int} (hL : ∀ e,e ∈ L ↔ e ∈ E) (hE : ∀ e ∈ E,e.v < b.length /\ 0 <= e.w) (hb : ∀ v,gI b v = -1 \/ 0 <= gI b v) (hi : Inv E b c y) (hf : Fix E c) : c = rounds L b b.length :=
 least_same (by rw [hi.len,rounds_len]) (fix_least (fun e he => (hE e he).2) hi.ach hi.le hf) (rounds_are L hL hE hb)
structure OkF (f : FstD) (N s0 : Nat) : Prop where
 st : f.states = N
 sta : f.start = s0
 n1 : 1 <= N
 n2 : N <= 200
 s : s0 < N
 len : f.final.length = N
 fin : ∀ x ∈ f.final,x = -1 \/ (0 <= x /\ x <= 10000000000000)
 many : f.arcs.length <= 3000
 arcs : ∀ a ∈ f.arcs,(0 <= a.src /\ a.src < N) /\ (0 <= a.dst /\ a.dst < N) /\ (0 <= a.wt /\ a.wt <= 10000000000000)
theorem OkF.bF {f : FstD} {N s0 : Nat} (_h : OkF f N s0) : (∀ v,gI (begL (s0 : Int) N) v = -1 \/ 0 <= gI (begL (s0 : Int) N) v) /\ ∀ v,gI (begL (s0 : Int) N) v <= 10000000000000 :=
 ⟨gI_of _ (fun x => x = -1 \/ 0 <= x) (fun x hx => by rcases begL_mem _ _ x hx with h | h <;> omega) (Or.inl rfl),gI_of _ (fun x => x <= 10000000000000) (fun x hx => by rcases begL_mem _ _ x hx with h | h <;> omega) (by decide)⟩
theorem OkF.bT {f : FstD} {N s0 : Nat} (h : OkF f N s0) : (∀ v,gI f.final v = -1 \/ 0 <= gI f.final v) /\ ∀ v,gI f.final v <= 10000000000000 :=
 ⟨gI_of _ (fun x => x = -1 \/ 0 <= x) (fun x hx => by rcases h.fin x hx with h | h <;> omega) (Or.inl rfl),gI_of _ (fun x => x <= 10000000000000) (fun x hx => by rcases h.fin x hx with h | h <;> omega) (by decide)⟩
theorem OkF.eT {f : FstD} {N s0 : Nat} (h : OkF f N s0) : ∀ e ∈ edT f,e.v < N /\ 0 <= e.w:=by
 intro e he
 obtain ⟨a,ha,rfl⟩:=List.mem_map.1 he
 have:=h.arcs a ha
 exact ⟨by show a.src.toNat < N; omega,this.2.2.1⟩
theorem OkF.toD {f : FstD} {N s0 : Nat} (h : OkF f N s0) {c y : List Int} (hi : Inv (edT f) f.final c y) (hf : Fix (edT f) c) : c = toD f:=by
 have:=fix_rounds (L:=(edT f).reverse) (fun e => List.mem_reverse) (by rw [h.len]; exact h.eT) h.bT.1 hi hf
 rw [this,h.len]
 unfold Proofs.Yteehgcbjmdideab.toD
 rw [h.st,Int.toNat_natCast]
end Go.Proofs.Yteehgcbjmdideab.Bg
