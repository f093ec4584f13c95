/- 'scoreBegun' of the statements. -/
import Derived.Test.YteehgcbjmdideabUM11
import Derived.Test.YteehgcbjmdideabUM09
import Derived.Test.YteehgcbjmdideabUM06
set_option maxRecDepth 100000
namespace Go.Proofs.Yteehgcbjmdideab
open Go.RowKit
attribute [local go_sem ↓] Go.wp_at_zero Go.wp_at_succ
theorem lit_one (w : World) (x : Int) (g : Nat) (hg : w.heap.size = g) : ISlice (w.alloc (.cells #[.int .i64 x] 3)) (.slice (some ⟨g,0,none⟩) 1 1) [x]:=by
 subst hg
 have h:=World.ownsRow_lit (base:=0) (e:=3) (size:=1) w #[.int .i64 x] 1 (Nat.zero_le _) (by decide) rfl
 exact ownsRow_ints (xs:=[x]) h
theorem nil_int (w : World) : ISlice w (.slice none 0 0) []:=Or.inl ⟨none,0,rfl,rfl⟩
theorem score_lit (ins outs : List Int) (x : Int) (h1 : wordD ins = 0) (h2 : wordD outs = 0) (hx : IsBest (EdS oneD ins outs 2) (bgS 0 (totS ins outs 2)) (finS (totS ins outs 2) 2 oneD.final) x) (N M : Nat) (iv ov : Value) (w : World) (hf : ISlice w (.slice (some ⟨N,0,none⟩) 2 2) oneD.final) (ha : ASlice w (.slice (some ⟨M,0,none⟩) 1 1) oneD.arcs) (hI : ISlice w iv ins) (hO : ISlice w ov outs) :
  Calls Try.prog 17 #[.agg #[.int .i64 2,.int .i64 0,.slice (some ⟨N,0,none⟩) 2 2,.slice (some ⟨M,0,none⟩) 1 1],iv,ov] w fun e w' => e = .returned (.tuple #[.int .i64 x,.int .i64 0]) /\ Below w.heap.size w w':=by
 refine (score_any oneD ins outs _ _ _ _ w hf ha hI hO).mono ?_
 rintro e w' ⟨z,c,rfl,⟨h3,_,h4⟩,hb⟩
 have hc : c = 0:=by
  rw [h3]
  unfold chkS
  rw [if_pos check_one,if_pos h1,h2]
 subst hc
 obtain ⟨N',s',e1,e2,_,hz⟩:=h4 rfl
 have e1' : N' = 2:=by have : (2 : Int) = N':=e1; omega
 have e2' : s' = 0:=by have : (0 : Int) = s':=e2; omega
 subst e1' e2'
 rw [hz.unique hx]
 exact ⟨rfl,hb⟩
theorem walk_lit (N M : Nat) (ib ob : Nat) (w : World) (hf : ISlice w (.slice (some ⟨N,0,none⟩) 2 2) oneD.final) (ha : ASlice w (.slice (some ⟨M,0,none⟩) 1 1) oneD.arcs) (hI : ISlice w (.slice (some ⟨ib,0,none⟩) 1 1) [1]) (hO : ISlice w (.slice (some ⟨ob,0,none⟩) 1 1) [2]) :
  Calls Try.prog 43 #[.agg #[.int .i64 2,.int .i64 0,.slice (some ⟨N,0,none⟩) 2 2,.slice (some ⟨M,0,none⟩) 1 1],.slice (some ⟨ib,0,none⟩) 1 1,.slice (some ⟨ob,0,none⟩) 1 1] w fun e w' => ∃ g off uc,e = .returned (.tuple #[.slice (some ⟨g,off,none⟩) 1 uc,.int .i64 6,.int .i64 0]) /\ w'.cell? ⟨g,off,none⟩ = some (.int .i64 0) /\ Below w.heap.size w w':=by
 refine (walk_ok oneD [1] [2] 2 0 _ (some ⟨M,0,none⟩) 1 1 (some ⟨ib,0,none⟩) 1 1 (some ⟨ob,0,none⟩) 1 1 w hf ha rfl check_one hI rfl (by decide) hO rfl (by decide) rfl rfl (okW_one (by decide) (by decide)) (by intro a h; simp [oneD] at h; subst h; decide)).mono ?_
 rintro e w' ⟨ua,un,uc,l,best,rfl,hu,hul,hb,_,hw,hbl⟩
 have hb6 : best = 6:=hb.unique best_one
 subst hb6
 obtain ⟨c,y,n,_,hla,hbw⟩:=hw (by decide)
 have hl:=way_one hla.1 hla.2.2.2.1 hbw
 subst hl
 have hun : un = 1:=hul.symm
 subst hun
 obtain ⟨g,off,rfl,hx⟩:=hu.some (by omega)
 have:=hx.cell 0 (by omega)
 exact ⟨g,off,uc,rfl,by simpa using this,hbl⟩
set_option maxHeartbeats 1000000 in
theorem scoreBegun_any (w : World) : Calls Try.prog 14 #[] w fun e w' => e = .returned (.bool true) /\ Below w.heap.size w w':=by
 go_enter Try.func14,Try.ntmps14
 go_wp2_with (go_at_call 42; refine (one_ex _).mono ?_; rintro e w1 ⟨N1,M1,rfl,hf1,ha1,hb1⟩)
 have hu1:=two_up w1 (.cells #[.int .i64 1] 3) (.cells #[.int .i64 2] 3)
 have hi1:=(lit_one w1 1 _ rfl).below (bel_up (bel_self _) (.cells #[.int .i64 2] 3))
 have ho1:=lit_one (w1.alloc (.cells #[.int .i64 1] 3)) 2 _ (one_size _ _)
 refine (score_lit [1] [2] 6 (by decide) (by decide) best_one N1 M1 _ _ _ (hf1.below hu1) (ha1.below hu1) hi1 ho1).mono ?_
 rintro e w2 ⟨rfl,hb2⟩
 have hc2:=bel_on (bel_on hb1 hu1) hb2
 clear hf1 ha1 hb1 hu1 hi1 ho1 hb2
 go_wp2_with (go_at_call 42; refine (one_ex _).mono ?_; rintro e w3 ⟨N3,M3,rfl,hf3,ha3,hb3⟩)
 refine (score_lit [] [] (-1) (by decide) (by decide) best_none N3 M3 _ _ _ hf3 ha3 (nil_int _) (nil_int _)).mono ?_
 rintro e w4 ⟨rfl,hb4⟩
 have hc4:=bel_on (bel_on hc2 hb3) hb4
 clear hf3 ha3 hb3 hb4 hc2
 go_wp2_with (go_at_call 42; refine (one_ex _).mono ?_; rintro e w5 ⟨N5,M5,rfl,hf5,ha5,hb5⟩)
 have hu5:=two_up w5 (.cells #[.int .i64 1] 3) (.cells #[.int .i64 2] 3)
 have hi5:=(lit_one w5 1 _ rfl).below (bel_up (bel_self _) (.cells #[.int .i64 2] 3))
 have ho5:=lit_one (w5.alloc (.cells #[.int .i64 1] 3)) 2 _ (one_size _ _)
 refine (walk_lit N5 M5 _ _ _ (hf5.below hu5) (ha5.below hu5) hi5 ho5).mono ?_
 rintro e w6 ⟨g,off,uc,rfl,hcell,hb6⟩
 have hc6:=bel_on (bel_on (bel_on hc4 hb5) hu5) hb6
 clear hf5 ha5 hb5 hu5 hi5 ho5 hb6 hc4
 have hu6:=bel_up (bel_self w6) (.cells #[.int .i64 1] 3)
 have hw6:=word_any [1] _ 1 1 _ (lit_one w6 1 _ rfl) rfl
 rw [show wordD [1] = 0 by decide] at hw6
 go_wp2_with (go_at_call 44; refine hw6.mono ?_; rintro e w7 ⟨rfl,hb7⟩)
 go_ret
 exact ⟨rfl,bel_on (bel_on hc6 hu6) hb7⟩
end Go.Proofs.Yteehgcbjmdideab
/- The document's 'ScoreOf',where 'Costs' is known. -/
namespace Go.Proofs.Yteehgcbjmdideab
open Go.RowKit
attribute [local go_sem ↓] Go.wp_at_zero Go.wp_at_succ
end Go.Proofs.Yteehgcbjmdideab
/- The document's tables in memory. -/
namespace Go.Proofs.Yteehgcbjmdideab
open Go.RowKit
section
variable {w wr wx : World} {N ol : Nat} {sta : Int} {fin arcs : Value} {g h hc : Nat -> Nat} {c : List Int} {i o : Nat} {t9 t11 : Value}
end
end Go.Proofs.Yteehgcbjmdideab
/- Rows that grow,of which a row of rows tells. -/
namespace Go.Proofs.Yteehgcbjmdideab
open Go.RowKit
def natL (l : List Nat) : List Int:=l.map fun (x : Nat) => (x : Int)
def natV (l : List Nat) : List Value:=l.map fun (x : Nat) => .int .i64 (x : Int)
theorem natV_eq (l : List Nat) : natV l = (natL l).map (Value.int .i64):=by simp [natV,natL]
theorem natL_len (l : List Nat) : (natL l).length = l.length:=by simp [natL]
theorem natL_get {l : List Nat} {i x : Nat} (h : l[i]? = some x) : (natL l).getD i 0 = (x : Int):=by simp [natL,List.getD,h]
theorem wp_app_at {P : Program} {w : World} {o : Oper} {a : Act} {K : Act -> World -> Prop} {Q : Exit -> Act -> World -> Prop} (s x : Operand) (t : TypeId)
  (ho : o.op = .call { callee:=.builtin .append,args:=#[s,x],argTypes:=#[t,t] })
  (base : Nat) (e : TypeId) (i : TypeInfo) (z : Value) (size bytes : Nat) (ht : P.underlying t = some (.slice e)) (hi : P.info? e = some i) (hz : i.zero = some z)
  (hsize : i.size = size) (hby : i.bytes = bytes) (hzs : z.cells.size = size) (hsz : 0 < size)
  (v : Value) (n : Nat) (xs : List Value) (hs : a.eval s = v) (hown : w.ownsRow base e size v n xs)
  (ad : Addr) (m c : Nat) (news : List Value) (hx : a.eval x = .slice (some ad) m c) (hl : news.length = m * size) (hnews : ∀ j u,news[j]? = some u -> w.cell? (ad.add j) = some u) (h1 : ∀ u ∈ news,u.oneCell' = true)
  (h63 : n + m <= maxLen) (hbytes : (n + m) * bytes <= 140737488355328) (hbase : base <= w.heap.size)
  (h : ∀ v' w',w'.ownsRow base e size v' (n + m) (xs ++ news) -> w.grownBy w' v.ownBlock -> (v'.ownBlock = v.ownBlock \/ v'.ownBlock = some w.heap.size) -> K (a.put o.dst v') w') : o.wp P a w K Q:=by
 obtain ⟨v',w',hr,h2,h3,_,h5⟩:=run_append_own_at (P:=P) w base t o.type e i z size bytes ht hi hz hsize hby hzs hsz v n xs hown ad m c news hl hnews h1 h63 hbytes hbase
 unfold Oper.wp execOp
 simp only [ho,resolve,invoke,builtin,Sem.run_bind,Sem.run_pure,Result.andThen_ok,List.map_toArray,List.map_cons,List.map_nil,hs,hx,hr]
 exact h v' w' h2 h3 h5
structure NXW (w wr : World) (N : Nat) (sta : Int) (fin arcs : Value) (gi gn : Nat) (c : Nat -> Nat) (V : Nat -> Value) (L : Nat -> List Nat) : Prop where
 rw : RW w wr N sta fin arcs
 into : ValsAt wr gi N (fun v => .int .i64 (c v : Int))
 next : ValsAt wr gn N V
 gi1 : w.heap.size < gi
 gn1 : gi < gn
 rows : ∀ s,s < N -> wr.ownsRow (gn + 1) 3 1 (V s) (L s).length (natV (L s))
 sep : ∀ s t,s < N -> t < N -> s ≠ t -> ∀ b,(V s).ownBlock = some b -> (V t).ownBlock ≠ some b
section
variable {w wr wx : World} {N : Nat} {sta : Int} {fin arcs : Value} {gi gn : Nat} {c : Nat -> Nat} {V : Nat -> Value} {L : Nat -> List Nat}
theorem NXW.below (h : NXW w wr N sta fin arcs gi gn c V L) (hb : Below wr.heap.size wr wx) : NXW w wx N sta fin arcs gi gn c V L :=
 ⟨h.rw.below hb,h.into.below hb,h.next.below hb,h.gi1,h.gn1,fun s hs => ownsRow_bel (h.rows s hs) hb,h.sep⟩
theorem NXW.notRow (h : NXW w wr N sta fin arcs gi gn c V L) {s k : Nat} (hs : s < N) (hk : k <= gn) : (V s).ownBlock ≠ some k:=fun e => by
 have:=own_base (h.rows s hs) k e
 omega
theorem NXW.setInto (h : NXW w wr N sta fin arcs gi gn c V L) {t x : Nat} (ht : t < N) : NXW w (wr.setCell ⟨gi,t,none⟩ (.int .i64 (x : Int))) N sta fin arcs gi gn (fun v => if v = t then x else c v) V L:=by
 refine ⟨h.rw.set h.gi1,(h.into.set t _ ht).cong fun i _ => ?_,h.next.other (by have:=h.gn1; omega),h.gi1,h.gn1,fun s hs => ownsRow_setCell_far (h.rows s hs) (h.notRow hs (by have:=h.gn1; omega)),h.sep⟩
 unfold updV
 by_cases e : i = t
 ·rw [if_pos e,if_pos e]
 ·rw [if_neg e,if_neg e]
theorem NXW.cong {c' : Nat -> Nat} {L' : Nat -> List Nat} (h : NXW w wr N sta fin arcs gi gn c V L) (hc : ∀ v,v < N -> c v = c' v) (hL : ∀ s,s < N -> L s = L' s) : NXW w wr N sta fin arcs gi gn c' V L' :=
 ⟨h.rw,h.into.cong fun i hi => by rw [hc i hi],h.next,h.gi1,h.gn1,fun s hs => by rw [<- hL s hs]; exact h.rows s hs,h.sep⟩
theorem NXW.app (h : NXW w wr N sta fin arcs gi gn c V L) {s t : Nat} (hs : s < N) {v' : Value} (hg : wr.grownBy wx (V s).ownBlock) (ho : wx.ownsRow (gn + 1) 3 1 v' ((L s).length + 1) (natV (L s) ++ [.int .i64 (t : Int)]))
  (hv : v'.ownBlock = (V s).ownBlock \/ v'.ownBlock = some wr.heap.size) : NXW w (wx.setCell ⟨gn,s,none⟩ v') N sta fin arcs gi gn c (updV V s v') (updR L s (L s ++ [t])):=by
 have hgn:=h.gn1
 have hgi:=h.gi1
 have hrow : ∀ k,k <= gn -> some k ≠ (V s).ownBlock:=fun k hk e => h.notRow hs hk e.symm
 have hlt : ∀ u,u < N -> ∀ b,(V u).ownBlock = some b -> b < wr.heap.size:=fun u hu => ownsRow_lt0 (h.rows u hu)
 have hvn : ∀ k,k <= gn -> v'.ownBlock ≠ some k:=fun k hk e => by
  have:=own_base ho k e
  omega
 have hcf:=h.rw.cf
 have hl0:=cell_lt hcf.1
 have hcf' : CellsF wx w.heap.size (N : Int) sta fin arcs:=⟨(hg.cell_far ⟨w.heap.size,0,none⟩ hl0 (hrow w.heap.size (by omega))).trans hcf.1,(hg.cell_far ⟨w.heap.size,1,none⟩ hl0 (hrow w.heap.size (by omega))).trans hcf.2.1,(hg.cell_far ⟨w.heap.size,2,none⟩ hl0 (hrow w.heap.size (by omega))).trans hcf.2.2.1,(hg.cell_far ⟨w.heap.size,3,none⟩ hl0 (hrow w.heap.size (by omega))).trans hcf.2.2.2⟩
 have hb' : Below w.heap.size w wx:=h.rw.bel.grown hg (by have:=h.rw.bel.size; omega) (fun k hk => by have:=own_base (h.rows s hs) k hk; omega)
 have hrw : RW w wx N sta fin arcs:=⟨hcf',hb'⟩
 have hin:=h.into.grown hg (hrow gi (by omega))
 have hnx:=h.next.grown hg (hrow gn (Nat.le_refl _))
 refine ⟨hrw.set (by omega),hin.other (by omega),hnx.set s v' hs,hgi,hgn,fun u hu => ?_,fun u t' hu ht hne b hb => ?_⟩
 ·unfold updV updR
  by_cases e : u = s
  ·rw [if_pos e,if_pos e]
   refine ownsRow_setCell_far ?_ (hvn gn (Nat.le_refl _))
   have e1 : (L s ++ [t]).length = (L s).length + 1:=by simp
   have e2 : natV (L s ++ [t]) = natV (L s) ++ [.int .i64 (t : Int)]:=by simp [natV]
   rw [e1,e2]
   exact ho
  ·rw [if_neg e,if_neg e]
   refine ownsRow_setCell_far ((h.rows u hu).kept hg ?_) (h.notRow hu (Nat.le_refl _))
   cases hu' : (V u).ownBlock with
   | none => exact Or.inl rfl
   | some b => exact Or.inr fun e' => h.sep u s hu hs e b hu' e'.symm
 ·unfold updV at hb ⊢
  by_cases e : u = s
  ·rw [if_pos e] at hb
   rw [if_neg (by omega)]
   rcases hv with hv | hv
   ·rw [hv] at hb
    exact h.sep s t' hs ht (by omega) b hb
   ·rw [hv] at hb
    injection hb with hb
    intro e'
    have:=hlt t' ht b e'
    omega
  ·rw [if_neg e] at hb
   by_cases e2 : t' = s
   ·rw [if_pos e2]
    rcases hv with hv | hv
    ·rw [hv]
     exact h.sep u s hu hs e b hb
    ·rw [hv]
     intro e'
     injection e' with e'
     have:=hlt u hu b hb
     omega
   ·rw [if_neg e2]
    exact h.sep u t' hu ht hne b hb
theorem NXW.grown {row : Option Nat} (h : NXW w wr N sta fin arcs gi gn c V L) (hg : wr.grownBy wx row) (hlo : ∀ k,row = some k -> gn < k) (hr : ∀ s,s < N -> ∀ b,(V s).ownBlock = some b -> row ≠ some b) : NXW w wx N sta fin arcs gi gn c V L:=by
 have hgn:=h.gn1
 have hgi:=h.gi1
 have hrow : ∀ k,k <= gn -> some k ≠ row:=fun k hk e => by have:=hlo k e.symm; omega
 have hcf:=h.rw.cf
 have hl0:=cell_lt hcf.1
 refine ⟨⟨⟨(hg.cell_far ⟨w.heap.size,0,none⟩ hl0 (hrow w.heap.size (by omega))).trans hcf.1,(hg.cell_far ⟨w.heap.size,1,none⟩ hl0 (hrow w.heap.size (by omega))).trans hcf.2.1,(hg.cell_far ⟨w.heap.size,2,none⟩ hl0 (hrow w.heap.size (by omega))).trans hcf.2.2.1,(hg.cell_far ⟨w.heap.size,3,none⟩ hl0 (hrow w.heap.size (by omega))).trans hcf.2.2.2⟩,h.rw.bel.grown hg (by have:=h.rw.bel.size; omega) (fun k hk => by have:=hlo k hk; omega)⟩,h.into.grown hg (hrow gi (by omega)),h.next.grown hg (hrow gn (Nat.le_refl _)),hgi,hgn,fun s hs => (h.rows s hs).kept hg ?_,h.sep⟩
 cases hu' : (V s).ownBlock with
 | none => exact Or.inl rfl
 | some b => exact Or.inr fun e' => hr s hs b hu' e'.symm
end
end Go.Proofs.Yteehgcbjmdideab
/- 'PushOf' of the document's answer: what lies in memory. -/
namespace Go.Proofs.Yteehgcbjmdideab
open Go.RowKit
attribute [local go_sem ↓] Go.wp_at_zero Go.wp_at_succ
theorem if_wanted {P : Program} {o : Oper} {y : Nat -> Option Bool} {a : Act} {w : World} {K : Act -> World -> Prop} {Q : Exit -> Act -> World -> Prop} (hgd : o.guard = none) (h : o.wp P a w K Q) : if Region.wanted o y = true then o.wp P a w K Q else K (a.put o.dst undef) w:=by
 rw [if_pos (by simp [Region.wanted,hgd])]
 exact h
end Go.Proofs.Yteehgcbjmdideab
/- The document's 'Costs': what is true when the first places are done; a row that is being written. -/
namespace Go.Proofs.Yteehgcbjmdideab
open Go.RowKit
attribute [local go_sem ↓] Go.wp_at_zero Go.wp_at_succ
theorem infoS : (Try.prog.info? 22).map (fun i => (i.zero,i.size,i.bytes)) = some (some (.slice none 0 0),1,24):=by kernel_rfl
end Go.Proofs.Yteehgcbjmdideab
