/- 'scoreBegun' of the statements. -/
import Derived.Test.YteehgcbjmdideabVM11
import Derived.Test.YteehgcbjmdideabVM09
import Derived.Test.YteehgcbjmdideabVM06
namespace Go.Proofs.Yteehgcbjmdideab
open Go.RowKit
attribute [local go_sem ↓] Go.wp_at_zero Go.wp_at_succ
end Go.Proofs.Yteehgcbjmdideab
/- The document's 'ScoreOf',where 'Costs' is known. -/
namespace Go.Proofs.Yteehgcbjmdideab
open Go.RowKit
attribute [local go_sem ↓] Go.wp_at_zero Go.wp_at_succ
end Go.Proofs.Yteehgcbjmdideab
/- The document's tables in memory. -/
namespace Go.Proofs.Yteehgcbjmdideab
open Go.RowKit
section
variable {w wr wx : World} {N ol : Nat} {sta : Int} {fin arcs : Value} {g h hc : Nat -> Nat} {c : List Int} {i o : Nat} {t9 t11 : Value}
end
end Go.Proofs.Yteehgcbjmdideab
/- Rows that grow,of which a row of rows tells. -/
namespace Go.Proofs.Yteehgcbjmdideab
open Go.RowKit
def natL (l : List Nat) : List Int:=l.map fun (x : Nat) => (x : Int)
def natV (l : List Nat) : List Value:=l.map fun (x : Nat) => .int .i64 (x : Int)
theorem natV_eq (l : List Nat) : natV l = (natL l).map (Value.int .i64):=by simp [natV,natL]
theorem natL_len (l : List Nat) : (natL l).length = l.length:=by simp [natL]
theorem natL_get {l : List Nat} {i x : Nat} (h : l[i]? = some x) : (natL l).getD i 0 = (x : Int):=by simp [natL,List.getD,h]
theorem wp_app_at {P : Program} {w : World} {o : Oper} {a : Act} {K : Act -> World -> Prop} {Q : Exit -> Act -> World -> Prop} (s x : Operand) (t : TypeId)
  (ho : o.op = .call { callee:=.builtin .append,args:=#[s,x],argTypes:=#[t,t] })
  (base : Nat) (e : TypeId) (i : TypeInfo) (z : Value) (size bytes : Nat) (ht : P.underlying t = some (.slice e)) (hi : P.info? e = some i) (hz : i.zero = some z)
  (hsize : i.size = size) (hby : i.bytes = bytes) (hzs : z.cells.size = size) (hsz : 0 < size)
  (v : Value) (n : Nat) (xs : List Value) (hs : a.eval s = v) (hown : w.ownsRow base e size v n xs)
  (ad : Addr) (m c : Nat) (news : List Value) (hx : a.eval x = .slice (some ad) m c) (hl : news.length = m * size) (hnews : ∀ j u,news[j]? = some u -> w.cell? (ad.add j) = some u) (h1 : ∀ u ∈ news,u.oneCell' = true)
  (h63 : n + m <= maxLen) (hbytes : (n + m) * bytes <= 140737488355328) (hbase : base <= w.heap.size)
  (h : ∀ v' w',w'.ownsRow base e size v' (n + m) (xs ++ news) -> w.grownBy w' v.ownBlock -> (v'.ownBlock = v.ownBlock \/ v'.ownBlock = some w.heap.size) -> K (a.put o.dst v') w') : o.wp P a w K Q:=by
 obtain ⟨v',w',hr,h2,h3,_,h5⟩:=run_append_own_at (P:=P) w base t o.type e i z size bytes ht hi hz hsize hby hzs hsz v n xs hown ad m c news hl hnews h1 h63 hbytes hbase
 unfold Oper.wp execOp
 simp only [ho,resolve,invoke,builtin,Sem.run_bind,Sem.run_pure,Result.andThen_ok,List.map_toArray,List.map_cons,List.map_nil,hs,hx,hr]
 exact h v' w' h2 h3 h5
structure NXW (w wr : World) (N : Nat) (sta : Int) (fin arcs : Value) (gi gn : Nat) (c : Nat -> Nat) (V : Nat -> Value) (L : Nat -> List Nat) : Prop where
 rw : RW w wr N sta fin arcs
 into : ValsAt wr gi N (fun v => .int .i64 (c v : Int))
 next : ValsAt wr gn N V
 gi1 : w.heap.size < gi
 gn1 : gi < gn
 rows : ∀ s,s < N -> wr.ownsRow (gn + 1) 3 1 (V s) (L s).length (natV (L s))
 sep : ∀ s t,s < N -> t < N -> s ≠ t -> ∀ b,(V s).ownBlock = some b -> (V t).ownBlock ≠ some b
section
variable {w wr wx : World} {N : Nat} {sta : Int} {fin arcs : Value} {gi gn : Nat} {c : Nat -> Nat} {V : Nat -> Value} {L : Nat -> List Nat}
theorem NXW.below (h : NXW w wr N sta fin arcs gi gn c V L) (hb : Below wr.heap.size wr wx) : NXW w wx N sta fin arcs gi gn c V L :=
 ⟨h.rw.below hb,h.into.below hb,h.next.below hb,h.gi1,h.gn1,fun s hs => ownsRow_bel (h.rows s hs) hb,h.sep⟩
theorem NXW.notRow (h : NXW w wr N sta fin arcs gi gn c V L) {s k : Nat} (hs : s < N) (hk : k <= gn) : (V s).ownBlock ≠ some k:=fun e => by
 have:=own_base (h.rows s hs) k e
 omega
theorem NXW.setInto (h : NXW w wr N sta fin arcs gi gn c V L) {t x : Nat} (ht : t < N) : NXW w (wr.setCell ⟨gi,t,none⟩ (.int .i64 (x : Int))) N sta fin arcs gi gn (fun v => if v = t then x else c v) V L:=by
 refine ⟨h.rw.set h.gi1,(h.into.set t _ ht).cong fun i _ => ?_,h.next.other (by have:=h.gn1; omega),h.gi1,h.gn1,fun s hs => ownsRow_setCell_far (h.rows s hs) (h.notRow hs (by have:=h.gn1; omega)),h.sep⟩
 unfold updV
 by_cases e : i = t
 ·rw [if_pos e,if_pos e]
 ·rw [if_neg e,if_neg e]
theorem NXW.cong {c' : Nat -> Nat} {L' : Nat -> List Nat} (h : NXW w wr N sta fin arcs gi gn c V L) (hc : ∀ v,v < N -> c v = c' v) (hL : ∀ s,s < N -> L s = L' s) : NXW w wr N sta fin arcs gi gn c' V L' :=
 ⟨h.rw,h.into.cong fun i hi => by rw [hc i hi],h.next,h.gi1,h.gn1,fun s hs => by rw [<- hL s hs]; exact h.rows s hs,h.sep⟩
theorem NXW.app (h : NXW w wr N sta fin arcs gi gn c V L) {s t : Nat} (hs : s < N) {v' : Value} (hg : wr.grownBy wx (V s).ownBlock) (ho : wx.ownsRow (gn + 1) 3 1 v' ((L s).length + 1) (natV (L s) ++ [.int .i64 (t : Int)]))
  (hv : v'.ownBlock = (V s).ownBlock \/ v'.ownBlock = some wr.heap.size) : NXW w (wx.setCell ⟨gn,s,none⟩ v') N sta fin arcs gi gn c (updV V s v') (updR L s (L s ++ [t])):=by
 have hgn:=h.gn1
 have hgi:=h.gi1
 have hrow : ∀ k,k <= gn -> some k ≠ (V s).ownBlock:=fun k hk e => h.notRow hs hk e.symm
 have hlt : ∀ u,u < N -> ∀ b,(V u).ownBlock = some b -> b < wr.heap.size:=fun u hu => ownsRow_lt0 (h.rows u hu)
 have hvn : ∀ k,k <= gn -> v'.ownBlock ≠ some k:=fun k hk e => by
  have:=own_base ho k e
  omega
 have hcf:=h.rw.cf
 have hl0:=cell_lt hcf.1
 have hcf' : CellsF wx w.heap.size (N : Int) sta fin arcs:=⟨(hg.cell_far ⟨w.heap.size,0,none⟩ hl0 (hrow w.heap.size (by omega))).trans hcf.1,(hg.cell_far ⟨w.heap.size,1,none⟩ hl0 (hrow w.heap.size (by omega))).trans hcf.2.1,(hg.cell_far ⟨w.heap.size,2,none⟩ hl0 (hrow w.heap.size (by omega))).trans hcf.2.2.1,(hg.cell_far ⟨w.heap.size,3,none⟩ hl0 (hrow w.heap.size (by omega))).trans hcf.2.2.2⟩
 have hb' : Below w.heap.size w wx:=h.rw.bel.grown hg (by have:=h.rw.bel.size; omega) (fun k hk => by have:=own_base (h.rows s hs) k hk; omega)
 have hrw : RW w wx N sta fin arcs:=⟨hcf',hb'⟩
 have hin:=h.into.grown hg (hrow gi (by omega))
 have hnx:=h.next.grown hg (hrow gn (Nat.le_refl _))
 refine ⟨hrw.set (by omega),hin.other (by omega),hnx.set s v' hs,hgi,hgn,fun u hu => ?_,fun u t' hu ht hne b hb => ?_⟩
 ·unfold updV updR
  by_cases e : u = s
  ·rw [if_pos e,if_pos e]
   refine ownsRow_setCell_far ?_ (hvn gn (Nat.le_refl _))
   have e1 : (L s ++ [t]).length = (L s).length + 1:=by simp
   have e2 : natV (L s ++ [t]) = natV (L s) ++ [.int .i64 (t : Int)]:=by simp [natV]
   rw [e1,e2]
   exact ho
  ·rw [if_neg e,if_neg e]
   refine ownsRow_setCell_far ((h.rows u hu).kept hg ?_) (h.notRow hu (Nat.le_refl _))
   cases hu' : (V u).ownBlock with
   | none => exact Or.inl rfl
   | some b => exact Or.inr fun e' => h.sep u s hu hs e b hu' e'.symm
 ·unfold updV at hb ⊢
  by_cases e : u = s
  ·rw [if_pos e] at hb
   rw [if_neg (by omega)]
   rcases hv with hv | hv
   ·rw [hv] at hb
    exact h.sep s t' hs ht (by omega) b hb
   ·rw [hv] at hb
    injection hb with hb
    intro e'
    have:=hlt t' ht b e'
    omega
  ·rw [if_neg e] at hb
   by_cases e2 : t' = s
   ·rw [if_pos e2]
    rcases hv with hv | hv
    ·rw [hv]
     exact h.sep u s hu hs e b hb
    ·rw [hv]
     intro e'
     injection e' with e'
     have:=hlt u hu b hb
     omega
   ·rw [if_neg e2]
    exact h.sep u t' hu ht hne b hb
theorem NXW.grown {row : Option Nat} (h : NXW w wr N sta fin arcs gi gn c V L) (hg : wr.grownBy wx row) (hlo : ∀ k,row = some k -> gn < k) (hr : ∀ s,s < N -> ∀ b,(V s).ownBlock = some b -> row ≠ some b) : NXW w wx N sta fin arcs gi gn c V L:=by
 have hgn:=h.gn1
 have hgi:=h.gi1
 have hrow : ∀ k,k <= gn -> some k ≠ row:=fun k hk e => by have:=hlo k e.symm; omega
 have hcf:=h.rw.cf
 have hl0:=cell_lt hcf.1
 refine ⟨⟨⟨(hg.cell_far ⟨w.heap.size,0,none⟩ hl0 (hrow w.heap.size (by omega))).trans hcf.1,(hg.cell_far ⟨w.heap.size,1,none⟩ hl0 (hrow w.heap.size (by omega))).trans hcf.2.1,(hg.cell_far ⟨w.heap.size,2,none⟩ hl0 (hrow w.heap.size (by omega))).trans hcf.2.2.1,(hg.cell_far ⟨w.heap.size,3,none⟩ hl0 (hrow w.heap.size (by omega))).trans hcf.2.2.2⟩,h.rw.bel.grown hg (by have:=h.rw.bel.size; omega) (fun k hk => by have:=hlo k hk; omega)⟩,h.into.grown hg (hrow gi (by omega)),h.next.grown hg (hrow gn (Nat.le_refl _)),hgi,hgn,fun s hs => (h.rows s hs).kept hg ?_,h.sep⟩
 cases hu' : (V s).ownBlock with
 | none => exact Or.inl rfl
 | some b => exact Or.inr fun e' => hr s hs b hu' e'.symm
end
end Go.Proofs.Yteehgcbjmdideab
/- 'PushOf' of the document's answer: what lies in memory. -/
namespace Go.Proofs.Yteehgcbjmdideab
open Go.RowKit
attribute [local go_sem ↓] Go.wp_at_zero Go.wp_at_succ
theorem if_wanted {P : Program} {o : Oper} {y : Nat -> Option Bool} {a : Act} {w : World} {K : Act -> World -> Prop} {Q : Exit -> Act -> World -> Prop} (hgd : o.guard = none) (h : o.wp P a w K Q) : if Region.wanted o y = true then o.wp P a w K Q else K (a.put o.dst undef) w:=by
 rw [if_pos (by simp [Region.wanted,hgd])]
 exact h
end Go.Proofs.Yteehgcbjmdideab
/- The document's 'Costs': what is true when the first places are done; a row that is being written. -/
namespace Go.Proofs.Yteehgcbjmdideab
open Go.RowKit
attribute [local go_sem ↓] Go.wp_at_zero Go.wp_at_succ
theorem infoS : (Try.prog.info? 22).map (fun i => (i.zero,i.size,i.bytes)) = some (some (.slice none 0 0),1,24):=by kernel_rfl
end Go.Proofs.Yteehgcbjmdideab
