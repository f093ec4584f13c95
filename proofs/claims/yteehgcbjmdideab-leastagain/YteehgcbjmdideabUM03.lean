/- 'down' of container/heap,over the queue. -/
import Derived.Test.YteehgcbjmdideabUM02
import Derived.Laws.StructEq
import Derived.Maps.OwnSet
set_option maxRecDepth 100000
namespace Go.Proofs.Yteehgcbjmdideab
open Go.RowKit
attribute [local go_sem ↓] Go.wp_at_zero Go.wp_at_succ
def QDown (base B : Nat) (w : World) (v : Value) (L : List PlD) (m : Nat) (w' : World) : Prop :=
 ∃ L',L'.Perm L /\ HeapL PlD.cost p0 L' m /\ L'.getD m p0 = L.getD m p0 /\ QAt base B w' v L' /\ QStep B w v w' v
set_option maxHeartbeats 2000000 in
theorem down_any (B g n cap base m : Nat) (L : List PlD) (w : World) (hn : L.length = n) (hN : n <= 4000000000) (hm : m < n) (h : QAt base B w (.slice (some ⟨g,0,none⟩) n cap) L) (hd : DownOk PlD.cost p0 L m 0) :
  Calls Try.prog 112 #[.iface 125 (.pointer (some ⟨B,8,none⟩)),.int .i64 0,.int .i64 m] w fun e w' => (∃ b,e = .returned (.bool b)) /\ QDown base B w (.slice (some ⟨g,0,none⟩) n cap) L m w':=by
 go_enter Try.func112,Try.ntmps112
 go_wp2
 go_loopw [7] (fun i wr => ∃ (k : Nat) (L' : List PlD),k < n /\ i = .int .i64 k /\ L'.Perm L /\ DownOk PlD.cost p0 L' m k /\ L'.getD m p0 = L.getD m p0 /\ QAt base B wr (.slice (some ⟨g,0,none⟩) n cap) L' /\ QStep B w (.slice (some ⟨g,0,none⟩) n cap) wr (.slice (some ⟨g,0,none⟩) n cap)) (fun i _ => n - (intOf i).toNat)
 case atStart => exact ⟨0,L,by omega,rfl,List.Perm.refl _,hd,rfl,h,QStep.refl⟩
 case round =>
  obtain ⟨k,L',hk,rfl,hp,hD,hlast,hq,hs⟩:=hrel
  have HP : Hid (L'.Perm L):=hp
  have HD : Hid (DownOk PlD.cost p0 L' m k):=hD
  have HLS : Hid (L'.getD m p0 = L.getD m p0):=hlast
  have HL : Hid (L'.length = n):=hp.length_eq.trans hn
  have hrow:=hq.row
  rw [HL.out] at hrow
  clear hp hD hd hn hlast
  by_cases h1 : m <= 2 * k + 1
  ·have h1i : (m : Int) <= 2 * (k : Int) + 1:=by omega
   go_wp2
   go_ret
   exact ⟨⟨_,rfl⟩,L',HP.out,HD.out.done (fun x hx0 hxm hxk => by omega),HLS.out,hq,hs⟩
  ·have h1i : 2 * (k : Int) + 1 < m:=by omega
   have hj1 : 2 * k + 1 < n:=by omega
   have hml:=mth_less ⟨B,8,none⟩ _ wr hq.cell
   by_cases h2 : 2 * k + 2 < m
   ·have h2i : 2 * (k : Int) + 1 + 1 < m:=by omega
    have hj2 : 2 * k + 2 < n:=by omega
    by_cases hl2 : (L'.getD (2 * k + 2) p0).cost < (L'.getD (2 * k + 1) p0).cost
    ·have HLE : Hid (∀ x,0 < x -> x < m -> (x - 1) / 2 = k -> (L'.getD (2 * k + 2) p0).cost <= (L'.getD x p0).cost):=fun x hx0 hxm hxk => by
      have hx : x = 2 * k + 1 \/ x = 2 * k + 2:=by omega
      rcases hx with rfl | rfl <;> omega
     have hless1:=qLess_any (2 * k + 2) (2 * k + 1) g n cap L' wr (PlsAt.of hrow) hj2 hj1 true (by simpa using hl2)
     clear hl2
     by_cases hlt : (L'.getD (2 * k + 2) p0).cost < (L'.getD k p0).cost
     ·have HLT : Hid ((L'.getD (2 * k + 2) p0).cost < (L'.getD k p0).cost):=hlt
      have hless:=fun W hW => qLess_any (2 * k + 2) k g n cap L' W hW (by omega) hk true (by simpa using hlt)
      clear hlt
      go_wp2_with (first
       | (go_at_call 134; have _:=hml; clear hml; refine hless1.mono ?_; rintro e w1 ⟨rfl,hb1⟩; have hml1:=mth_less ⟨B,8,none⟩ _ w1 (bel_c hb1 hq.cell))
       | (go_at_call 134; refine (hless w1 (PlsAt.of (ownsRow_bel hrow hb1))).mono ?_; rintro e w2 ⟨rfl,hb2⟩; have hms:=mth_swap ⟨B,8,none⟩ _ w2 ((hq.bel hb1).bel hb2).cell)
       | (go_at_call 135; refine (qSwap k (2 * k + 2) g n cap base L' w2 (ownsRow_bel (ownsRow_bel hrow hb1) hb2) hk (by omega)).mono ?_; rintro e w3 ⟨rfl,hw3⟩; obtain ⟨r1,r2⟩:=((hq.bel hb1).bel hb2).swap HL.out k (2 * k + 2) hk (by omega); rw [<- hw3] at r1 r2; clear hw3))
      have HSP : Hid ((swapL p0 L' k (2 * k + 2)).Perm L /\ DownOk PlD.cost p0 (swapL p0 L' k (2 * k + 2)) m (2 * k + 2) /\ (swapL p0 L' k (2 * k + 2)).getD m p0 = L.getD m p0):=by
       have hl:=HL.out
       have q1 : (swapL p0 L' k (2 * k + 2)).Perm L':=swapL_perm (d:=p0) L' k (2 * k + 2) (by omega) (by omega)
       refine ⟨q1.trans HP.out,HD.out.step (by omega) (by omega) (by omega) (by omega) HLT.out HLE.out,?_⟩
       rw [swapL_at L' k (2 * k + 2) m (by omega) (by omega),if_neg (by omega),if_neg (by omega)]
       exact HLS.out
      go_roundw
      case rel => exact ⟨2 * k + 2,swapL p0 L' k (2 * k + 2),by omega,by go_num,HSP.out.1,HSP.out.2.1,HSP.out.2.2,r1,((hs.trans (QStep.bel (cell_lt hq.cell) hb1)).trans (QStep.bel (cell_lt (hq.bel hb1).cell) hb2)).trans r2⟩
      case measure => simp [intOf]; omega
     ·have HLT : Hid ((L'.getD k p0).cost <= (L'.getD (2 * k + 2) p0).cost):=Int.not_lt.1 hlt
      have hless:=fun W hW => qLess_any (2 * k + 2) k g n cap L' W hW (by omega) hk false (by simpa using hlt)
      clear hlt
      go_wp2_with (first
       | (go_at_call 134; have _:=hml; clear hml; refine hless1.mono ?_; rintro e w1 ⟨rfl,hb1⟩; have hml1:=mth_less ⟨B,8,none⟩ _ w1 (bel_c hb1 hq.cell))
       | (go_at_call 134; refine (hless w1 (PlsAt.of (ownsRow_bel hrow hb1))).mono ?_; rintro e w2 ⟨rfl,hb2⟩))
      go_ret
      exact ⟨⟨_,rfl⟩,L',HP.out,HD.out.done (fun x hx0 hxm hxk => by have a1:=HLE.out x hx0 hxm hxk; have a2:=HLT.out; omega),HLS.out,(hq.bel hb1).bel hb2,(hs.trans (QStep.bel (cell_lt hq.cell) hb1)).trans (QStep.bel (cell_lt (hq.bel hb1).cell) hb2)⟩
    ·have HLE : Hid (∀ x,0 < x -> x < m -> (x - 1) / 2 = k -> (L'.getD (2 * k + 1) p0).cost <= (L'.getD x p0).cost):=fun x hx0 hxm hxk => by
      have hx : x = 2 * k + 1 \/ x = 2 * k + 2:=by omega
      rcases hx with rfl | rfl <;> omega
     have hless1:=qLess_any (2 * k + 2) (2 * k + 1) g n cap L' wr (PlsAt.of hrow) hj2 hj1 false (by simpa using hl2)
     clear hl2
     by_cases hlt : (L'.getD (2 * k + 1) p0).cost < (L'.getD k p0).cost
     ·have HLT : Hid ((L'.getD (2 * k + 1) p0).cost < (L'.getD k p0).cost):=hlt
      have hless:=fun W hW => qLess_any (2 * k + 1) k g n cap L' W hW (by omega) hk true (by simpa using hlt)
      clear hlt
      go_wp2_with (first
       | (go_at_call 134; have _:=hml; clear hml; refine hless1.mono ?_; rintro e w1 ⟨rfl,hb1⟩; have hml1:=mth_less ⟨B,8,none⟩ _ w1 (bel_c hb1 hq.cell))
       | (go_at_call 134; refine (hless w1 (PlsAt.of (ownsRow_bel hrow hb1))).mono ?_; rintro e w2 ⟨rfl,hb2⟩; have hms:=mth_swap ⟨B,8,none⟩ _ w2 ((hq.bel hb1).bel hb2).cell)
       | (go_at_call 135; refine (qSwap k (2 * k + 1) g n cap base L' w2 (ownsRow_bel (ownsRow_bel hrow hb1) hb2) hk (by omega)).mono ?_; rintro e w3 ⟨rfl,hw3⟩; obtain ⟨r1,r2⟩:=((hq.bel hb1).bel hb2).swap HL.out k (2 * k + 1) hk (by omega); rw [<- hw3] at r1 r2; clear hw3))
      have HSP : Hid ((swapL p0 L' k (2 * k + 1)).Perm L /\ DownOk PlD.cost p0 (swapL p0 L' k (2 * k + 1)) m (2 * k + 1) /\ (swapL p0 L' k (2 * k + 1)).getD m p0 = L.getD m p0):=by
       have hl:=HL.out
       have q1 : (swapL p0 L' k (2 * k + 1)).Perm L':=swapL_perm (d:=p0) L' k (2 * k + 1) (by omega) (by omega)
       refine ⟨q1.trans HP.out,HD.out.step (by omega) (by omega) (by omega) (by omega) HLT.out HLE.out,?_⟩
       rw [swapL_at L' k (2 * k + 1) m (by omega) (by omega),if_neg (by omega),if_neg (by omega)]
       exact HLS.out
      go_roundw
      case rel => exact ⟨2 * k + 1,swapL p0 L' k (2 * k + 1),by omega,by go_num,HSP.out.1,HSP.out.2.1,HSP.out.2.2,r1,((hs.trans (QStep.bel (cell_lt hq.cell) hb1)).trans (QStep.bel (cell_lt (hq.bel hb1).cell) hb2)).trans r2⟩
      case measure => simp [intOf]; omega
     ·have HLT : Hid ((L'.getD k p0).cost <= (L'.getD (2 * k + 1) p0).cost):=Int.not_lt.1 hlt
      have hless:=fun W hW => qLess_any (2 * k + 1) k g n cap L' W hW (by omega) hk false (by simpa using hlt)
      clear hlt
      go_wp2_with (first
       | (go_at_call 134; have _:=hml; clear hml; refine hless1.mono ?_; rintro e w1 ⟨rfl,hb1⟩; have hml1:=mth_less ⟨B,8,none⟩ _ w1 (bel_c hb1 hq.cell))
       | (go_at_call 134; refine (hless w1 (PlsAt.of (ownsRow_bel hrow hb1))).mono ?_; rintro e w2 ⟨rfl,hb2⟩))
      go_ret
      exact ⟨⟨_,rfl⟩,L',HP.out,HD.out.done (fun x hx0 hxm hxk => by have a1:=HLE.out x hx0 hxm hxk; have a2:=HLT.out; omega),HLS.out,(hq.bel hb1).bel hb2,(hs.trans (QStep.bel (cell_lt hq.cell) hb1)).trans (QStep.bel (cell_lt (hq.bel hb1).cell) hb2)⟩
   ·have h2i : (m : Int) <= 2 * (k : Int) + 1 + 1:=by omega
    have HLE : Hid (∀ x,0 < x -> x < m -> (x - 1) / 2 = k -> (L'.getD (2 * k + 1) p0).cost <= (L'.getD x p0).cost):=fun x hx0 hxm hxk => by
     have hx : x = 2 * k + 1:=by omega
     rw [hx]; exact Int.le_refl _
    by_cases hlt : (L'.getD (2 * k + 1) p0).cost < (L'.getD k p0).cost
    ·have HLT : Hid ((L'.getD (2 * k + 1) p0).cost < (L'.getD k p0).cost):=hlt
     have hless:=fun W hW => qLess_any (2 * k + 1) k g n cap L' W hW (by omega) hk true (by simpa using hlt)
     clear hlt
     go_wp2_with (first
      | (go_at_call 134; refine (hless wr (PlsAt.of hrow)).mono ?_; rintro e w2 ⟨rfl,hb2⟩; have hms:=mth_swap ⟨B,8,none⟩ _ w2 (hq.bel hb2).cell)
      | (go_at_call 135; refine (qSwap k (2 * k + 1) g n cap base L' w2 (ownsRow_bel hrow hb2) hk (by omega)).mono ?_; rintro e w3 ⟨rfl,hw3⟩; obtain ⟨r1,r2⟩:=(hq.bel hb2).swap HL.out k (2 * k + 1) hk (by omega); rw [<- hw3] at r1 r2; clear hw3))
     have HSP : Hid ((swapL p0 L' k (2 * k + 1)).Perm L /\ DownOk PlD.cost p0 (swapL p0 L' k (2 * k + 1)) m (2 * k + 1) /\ (swapL p0 L' k (2 * k + 1)).getD m p0 = L.getD m p0):=by
      have hl:=HL.out
      have q1 : (swapL p0 L' k (2 * k + 1)).Perm L':=swapL_perm (d:=p0) L' k (2 * k + 1) (by omega) (by omega)
      refine ⟨q1.trans HP.out,HD.out.step (by omega) (by omega) (by omega) (by omega) HLT.out HLE.out,?_⟩
      rw [swapL_at L' k (2 * k + 1) m (by omega) (by omega),if_neg (by omega),if_neg (by omega)]
      exact HLS.out
     go_roundw
     case rel => exact ⟨2 * k + 1,swapL p0 L' k (2 * k + 1),by omega,by go_num,HSP.out.1,HSP.out.2.1,HSP.out.2.2,r1,(hs.trans (QStep.bel (cell_lt hq.cell) hb2)).trans r2⟩
     case measure => simp [intOf]; omega
    ·have HLT : Hid ((L'.getD k p0).cost <= (L'.getD (2 * k + 1) p0).cost):=Int.not_lt.1 hlt
     have hless:=fun W hW => qLess_any (2 * k + 1) k g n cap L' W hW (by omega) hk false (by simpa using hlt)
     clear hlt
     go_wp2_with (first
      | (go_at_call 134; refine (hless wr (PlsAt.of hrow)).mono ?_; rintro e w2 ⟨rfl,hb2⟩))
     go_ret
     exact ⟨⟨_,rfl⟩,L',HP.out,HD.out.done (fun x hx0 hxm hxk => by have a1:=HLE.out x hx0 hxm hxk; have a2:=HLT.out; omega),HLS.out,hq.bel hb2,hs.trans (QStep.bel (cell_lt hq.cell) hb2)⟩
end Go.Proofs.Yteehgcbjmdideab
/- 'Push' and 'Pop' of the queue,and of container/heap over it. -/
namespace Go.Proofs.Yteehgcbjmdideab
open Go.RowKit
attribute [local go_sem ↓] Go.wp_at_zero Go.wp_at_succ
theorem QStep.putTo {B : Nat} {w w2 : World} {v v' : Value} (h : QStep B w v w2 v) (hown : ∀ g,v'.ownBlock = some g -> v.ownBlock = some g \/ w.heap.size <= g) : QStep B w v (w2.setCell ⟨B,8,none⟩ v') v' :=
 ⟨h.os,h.tape,h.output,by simpa [World.setCell] using h.size,fun b hb hB hv => (Below.heap_setCell w2 ⟨B,8,none⟩ v' b hB).trans (h.block b hb hB hv),fun k hk => (World.cell?_setCell_other _ _ _ _ (by intro e; apply hk; injection e with _ e2; exact e2.symm)).trans (h.cell k hk),fun k => (World.frozen?_setCell _ _ _ _).trans (h.frz k),hown⟩
def plV (p : PlD) : Value:=.agg #[.int .i64 p.st,.int .i64 p.rd,.int .i64 p.wt,.int .i64 p.cost]
theorem if_wantedP {P : Program} {o : Oper} {y : Nat -> Option Bool} {a : Act} {w : World} {K : Act -> World -> Prop} {Q : Exit -> Act -> World -> Prop} (hgd : o.guard = none) (h : o.wp P a w K Q) : if Region.wanted o y = true then o.wp P a w K Q else K (a.put o.dst undef) w:=by
 rw [if_pos (by simp [Region.wanted,hgd])]
 exact h
theorem assert_pl (x : Value) (w : World) : (Instr.typeAssert (.iface 123 x) 20 123 false).run Try.prog w = .ok x w:=by kernel_rfl
set_option maxHeartbeats 1000000 in
theorem qPush_any (B base : Nat) (v : Value) (L : List PlD) (p : PlD) (w : World) (h : QAt base B w v L) (hN : L.length <= 3000000000) :
  Calls Try.prog 137 #[.pointer (some ⟨B,8,none⟩),.iface 123 (plV p)] w fun e w' => e = .returned (.tuple #[]) /\ ∃ g cap,QAt base B w' (.slice (some ⟨g,0,none⟩) (L.length + 1) cap) (L ++ [p]) /\ QStep B w v w' (.slice (some ⟨g,0,none⟩) (L.length + 1) cap):=by
 obtain ⟨i0,hi,hz0,hz1,hz2⟩:=info_parts infoPl
 unfold plV
 have has:=assert_pl (.agg #[.int .i64 p.st,.int .i64 p.rd,.int .i64 p.wt,.int .i64 p.cost])
 go_enter Try.func137,Try.ntmps137
 go_wp2
 obtain ⟨Wd,hWd⟩ : ∃ Wd,Wd = w.drew:=⟨_,rfl⟩
 have hbd : Below w.heap.size w Wd:=by rw [hWd]; exact (bel_self w).drew
 have hqd:=h.bel hbd
 have c8:=hqd.cell
 have hS0 : (fun wx : World => wx.cell? ⟨B,8,none⟩ = some v) Wd:=c8
 have hsz:=hqd.base_le
 have hBl:=cell_lt c8
 refine wp_region_noPanic ?_
 refine wp_region_F (fun wx => wx.cell? ⟨B,8,none⟩ = some v) [9] (by kernel_rfl) (by rw [<- hWd]; exact hS0) (fun _ => ?_)
 rw [<- hWd]
 clear hWd
 refine wpAnyF_free (i:=0) (v:=.pointer (some ⟨B,8,none⟩)) rfl (by kernel_rfl) (by kernel_rfl) (by kernel_rfl) (by kernel_rfl) (fun _ _ _ h => h) (Or.inl ⟨by rfl,fun wl hSw => ?_⟩) hS0 ?_
 ·(try dsimp only at hSw); go_simp
 refine wpAnyF_free (i:=1) (v:=.pointer (some ⟨B,8,none⟩)) rfl (by kernel_rfl) (by kernel_rfl) (by kernel_rfl) (by kernel_rfl) (fun _ _ _ h => h) (Or.inl ⟨by rfl,fun wl hSw => ?_⟩) hS0 ?_
 ·(try dsimp only at hSw); go_simp
 refine wpAnyF_free (i:=2) (v:=.pointer (some ⟨B,8,none⟩)) rfl (by kernel_rfl) (by kernel_rfl) (by kernel_rfl) (by kernel_rfl) (fun _ _ _ h => h) (Or.inl ⟨by rfl,fun wl hSw => ?_⟩) hS0 ?_
 ·(try dsimp only at hSw); go_simp
 refine tkF (i:=3) (v:=v) rfl (by kernel_rfl) (fun _ _ _ h => h) (by rfl) hS0 (fun wl hSw => ?_) ?_
 ·(try dsimp only at hSw); go_simp
 refine wpAnyF_free (i:=4) (v:=.iface 123 (.agg #[.int .i64 p.st,.int .i64 p.rd,.int .i64 p.wt,.int .i64 p.cost])) rfl (by kernel_rfl) (by kernel_rfl) (by kernel_rfl) (by kernel_rfl) (fun _ _ _ h => h) (Or.inl ⟨by rfl,fun wl hSw => ?_⟩) hS0 ?_
 ·(try dsimp only at hSw); go_simp
 refine wpAnyF_free (i:=5) (v:=.agg #[.int .i64 p.st,.int .i64 p.rd,.int .i64 p.wt,.int .i64 p.cost]) rfl (by kernel_rfl) (by kernel_rfl) (by kernel_rfl) (by kernel_rfl) (fun _ _ _ h => h) (Or.inl ⟨by rfl,fun wl hSw => ?_⟩) hS0 ?_
 ·(try dsimp only at hSw); go_simp
 refine wpAnyF_one (i:=6) rfl (by kernel_rfl) (fun K hK => ?_)
 go_simp
 have hbA:=bel_up (bel_self Wd) (.cells #[.int .i64 (p.st : Int),.int .i64 (p.rd : Int),.int .i64 (p.wt : Int),.int .i64 p.cost] 123)
 refine hK.out _ _ ⟨fun _ => bel_c hbA c8,?_⟩
 clear hK K
 refine wpAnyF_one (i:=7) rfl (by kernel_rfl) (fun K hK => ?_)
 refine if_wantedP rfl (wp_append_lies _ _ _ 115 rfl base 123 i0 (.agg #[.int .i64 0,.int .i64 0,.int .i64 0,.int .i64 0]) 4 32 Try.underlying115 hi hz0 hz1 hz2 rfl (by decide) v L.length (plsV L) rfl (hqd.row.alloc _) ⟨Wd.heap.size,0,none⟩ 1 1 (plCells p) rfl rfl (cells_new _ #[.int .i64 p.st,.int .i64 p.rd,.int .i64 p.wt,.int .i64 p.cost] 123 Wd.heap.size rfl) (oneCell_pl p) (by omega) (by unfold maxLen; omega) (by omega) (by simp; omega) _ rfl ?_)
 intro g cap w2 hown hgrow hloc hlt
 have hBv : some B ≠ v.ownBlock:=fun e => hqd.ne e.symm
 have hBA : B < (Wd.alloc (.cells #[.int .i64 (p.st : Int),.int .i64 (p.rd : Int),.int .i64 (p.wt : Int),.int .i64 p.cost] 123)).heap.size:=Nat.lt_of_lt_of_le hBl hbA.size
 have c82 : w2.cell? ⟨B,8,none⟩ = some v:=(hgrow.cell_far ⟨B,8,none⟩ hBA hBv).trans (bel_c hbA c8)
 have f82 : w2.frozen? ⟨B,8,none⟩ = false:=(hgrow.frozen_far ⟨B,8,none⟩ hBA hBv).trans ((hbA.frozen (p:=⟨B,8,none⟩) hBl).trans hqd.frz)
 have hgB : g ≠ B:=by
  rcases hloc with e | e
  ·exact fun e2 => hqd.ne (by rw [e,e2])
  ·rw [e]; simp; omega
 have hst : QStep B w v w2 v:=((QStep.bel (cell_lt h.cell) hbd).trans (QStep.bel hBl hbA)).trans (QStep.grown hBA hgrow hBv)
 have hwd:=hbd.size
 have hM : Hid (QAt base B (w2.setCell ⟨B,8,none⟩ (.slice (some ⟨g,0,none⟩) (L.length + 1) cap)) (.slice (some ⟨g,0,none⟩) (L.length + 1) cap) (L ++ [p]) /\ QStep B w v (w2.setCell ⟨B,8,none⟩ (.slice (some ⟨g,0,none⟩) (L.length + 1) cap)) (.slice (some ⟨g,0,none⟩) (L.length + 1) cap)):=by
  have hfar : (Value.slice (some ⟨g,0,none⟩) (L.length + 1) cap).ownBlock ≠ some B:=by simpa [Value.ownBlock] using hgB
  have hput : QStep B w v (w2.setCell ⟨B,8,none⟩ (.slice (some ⟨g,0,none⟩) (L.length + 1) cap)) (.slice (some ⟨g,0,none⟩) (L.length + 1) cap):=by
   refine hst.putTo (fun g' hg' => ?_)
   have e' : some g = some g':=hg'
   injection e' with e'
   subst e'
   rcases hloc with e | e
   ·exact Or.inl e
   ·right; rw [e]; simp; omega
  refine ⟨⟨World.cell?_setCell_same _ _ _ c82,by rw [World.frozen?_setCell]; exact f82,?_,hfar,(by have h1:=hbA.size; have h2:=hgrow.size; simp only [World.setCell,Array.size_modify]; omega)⟩,hput⟩
  rw [plsV_snoc,List.length_append,List.length_singleton]
  exact ownsRow_setCell_far hown hfar
 refine hK.out _ _ ⟨fun _ => c82,?_⟩
 clear hK K
 refine wpAnyF_free (i:=8) (v:=.pointer (some ⟨B,8,none⟩)) rfl (by kernel_rfl) (by kernel_rfl) (by kernel_rfl) (by kernel_rfl) (fun _ _ _ h => h) (Or.inl ⟨by rfl,fun wl hSw => ?_⟩) c82 ?_
 ·(try dsimp only at hSw); go_simp
 refine wpAnyF_one (i:=9) rfl (by kernel_rfl) (fun K hK => ?_)
 go_simp
 refine hK.out _ _ ⟨fun h => absurd h (unl_no (by kernel_rfl)),?_⟩
 clear hK K
 refine wpAnyF_done (by kernel_rfl) ?_ _
 refine NoPanic.normal ?_
 go_wp2
 go_end0
 exact ⟨rfl,g,cap,hM.out⟩
theorem row_take {w : World} {B e g n cap m : Nat} {L : List PlD} (h : w.ownsRow B e 4 (.slice (some ⟨g,0,none⟩) n cap) n (plsV L)) (hm : m <= n) : w.ownsRow B e 4 (.slice (some ⟨g,0,none⟩) m cap) m (plsV (L.take m)):=by
 have hl0:=h.1
 rw [plsV_len] at hl0
 obtain ⟨_,h⟩:=h
 refine ⟨by rw [plsV_len,List.length_take,Nat.min_eq_left (by omega)],?_⟩
 rcases h with ⟨h,_⟩ | ⟨g',cap',cur,he,hB,hh,h1,h2,h3,h4⟩
 ·cases h
 ·cases he
  refine Or.inr ⟨g,cap,cur,rfl,hB,hh,by omega,h2,h3,?_⟩
  rw [plsV_take,<- h4,List.take_take,Nat.min_eq_left (by omega)]
set_option maxHeartbeats 1000000 in
theorem qPop_any (B base g cap n m : Nat) (L : List PlD) (p : PlD) (w : World) (hn : L.length = n) (hm : n = m + 1) (h : QAt base B w (.slice (some ⟨g,0,none⟩) n cap) L) (hN : n <= 4000000000) (hp : p = L.getD m p0) :
  Calls Try.prog 136 #[.pointer (some ⟨B,8,none⟩)] w fun e w' => e = .returned (.iface 123 (plV p)) /\ QAt base B w' (.slice (some ⟨g,0,none⟩) m cap) (L.take m) /\ QStep B w (.slice (some ⟨g,0,none⟩) n cap) w' (.slice (some ⟨g,0,none⟩) m cap):=by
 unfold plV
 obtain ⟨Wd,hWd⟩ : ∃ Wd,Wd = w.drew:=⟨_,rfl⟩
 have hbd : Below w.heap.size w Wd:=by rw [hWd]; exact (bel_self w).drew
 have hqd:=h.bel hbd
 have c8:=hqd.cell
 have hrow:=hqd.row
 rw [hn] at hrow
 have hBl:=cell_lt c8
 have hgl:=row_lt hrow
 obtain ⟨x0,x1,x2,x3⟩:=(PlsAt.of hrow).four m (by omega) p hp
 have hcap : n <= cap:=by
  obtain ⟨_,hx⟩:=hrow
  rcases hx with ⟨hx,_⟩ | ⟨g',cap',cur,he,_,_,h1,_⟩
  ·cases hx
  ·cases he; exact h1
 have hS0 : (fun wx : World => wx.cell? ⟨B,8,none⟩ = some (.slice (some ⟨g,0,none⟩) n cap) /\ wx.cell? ⟨g,m * 4,none⟩ = some (.int .i64 p.st) /\ wx.cell? ⟨g,m * 4 + 1,none⟩ = some (.int .i64 p.rd) /\ wx.cell? ⟨g,m * 4 + 2,none⟩ = some (.int .i64 p.wt) /\ wx.cell? ⟨g,m * 4 + 3,none⟩ = some (.int .i64 p.cost)) Wd:=⟨c8,x0,x1,x2,x3⟩
 have hmi : (m : Int) < n:=by omega
 have hmn : m <= n:=by omega
 have HM : Hid (n = m + 1):=hm
 have HN : Hid (L.length = n):=hn
 have hci : (m : Int) <= cap:=by omega
 clear hn hp hm
 go_enter Try.func136,Try.ntmps136
 go_wp2
 refine wp_region_noPanic ?_
 refine wp_region_F (fun wx => wx.cell? ⟨B,8,none⟩ = some (.slice (some ⟨g,0,none⟩) n cap) /\ wx.cell? ⟨g,m * 4,none⟩ = some (.int .i64 p.st) /\ wx.cell? ⟨g,m * 4 + 1,none⟩ = some (.int .i64 p.rd) /\ wx.cell? ⟨g,m * 4 + 2,none⟩ = some (.int .i64 p.wt) /\ wx.cell? ⟨g,m * 4 + 3,none⟩ = some (.int .i64 p.cost)) [11] (by kernel_rfl) (by rw [<- hWd]; exact hS0) (fun _ => ?_)
 rw [<- hWd]
 clear hWd
 refine wpAnyF_free (i:=0) (v:=.pointer (some ⟨B,8,none⟩)) rfl (by kernel_rfl) (by kernel_rfl) (by kernel_rfl) (by kernel_rfl) (fun _ _ _ h => h) (Or.inl ⟨by rfl,fun wl hSw => ?_⟩) hS0 ?_
 ·(try dsimp only at hSw); go_simp
 refine wpAnyF_free (i:=1) (v:=.pointer (some ⟨B,8,none⟩)) rfl (by kernel_rfl) (by kernel_rfl) (by kernel_rfl) (by kernel_rfl) (fun _ _ _ h => h) (Or.inl ⟨by rfl,fun wl hSw => ?_⟩) hS0 ?_
 ·(try dsimp only at hSw); go_simp
 refine tkF (i:=2) (v:=.slice (some ⟨g,0,none⟩) n cap) rfl (by kernel_rfl) (fun _ _ _ h => h) (by rfl) hS0 (fun wl hSw => ?_) ?_
 ·(try dsimp only at hSw); go_simp
 refine wpAnyF_free (i:=3) (v:=.pointer (some ⟨B,8,none⟩)) rfl (by kernel_rfl) (by kernel_rfl) (by kernel_rfl) (by kernel_rfl) (fun _ _ _ h => h) (Or.inl ⟨by rfl,fun wl hSw => ?_⟩) hS0 ?_
 ·(try dsimp only at hSw); go_simp
 refine wpAnyF_free (i:=4) (v:=.pointer (some ⟨B,8,none⟩)) rfl (by kernel_rfl) (by kernel_rfl) (by kernel_rfl) (by kernel_rfl) (fun _ _ _ h => h) (Or.inl ⟨by rfl,fun wl hSw => ?_⟩) hS0 ?_
 ·(try dsimp only at hSw); go_simp
 refine tkF (i:=5) (v:=.slice (some ⟨g,0,none⟩) n cap) rfl (by kernel_rfl) (fun _ _ _ h => h) (by rfl) hS0 (fun wl hSw => ?_) ?_
 ·(try dsimp only at hSw); go_simp
 refine wpAnyF_free (i:=6) (v:=.int .i64 n) rfl (by kernel_rfl) (by kernel_rfl) (by kernel_rfl) (by kernel_rfl) (fun _ _ _ h => h) (Or.inl ⟨by rfl,fun wl hSw => ?_⟩) hS0 ?_
 ·(try dsimp only at hSw); go_simp
 refine wpAnyF_free (i:=7) (v:=.int .i64 m) rfl (by kernel_rfl) (by kernel_rfl) (by kernel_rfl) (by kernel_rfl) (fun _ _ _ h => h) (Or.inl ⟨by rfl,fun wl hSw => ?_⟩) hS0 ?_
 ·(try dsimp only at hSw); go_simp; rw [wrap_in _ (by omega) (by omega)]; have:=HM.out; omega
 refine wpAnyF_free (i:=8) (v:=.pointer (some ⟨g,m * 4,none⟩)) rfl (by kernel_rfl) (by kernel_rfl) (by kernel_rfl) (by kernel_rfl) (fun _ _ _ h => h) (Or.inl ⟨by rfl,fun wl hSw => ?_⟩) hS0 ?_
 ·(try dsimp only at hSw); go_simp
 refine tkF (i:=9) (v:=.agg #[.int .i64 p.st,.int .i64 p.rd,.int .i64 p.wt,.int .i64 p.cost]) rfl (by kernel_rfl) (fun _ _ _ h => h) (by rfl) hS0 (fun wl hSw => ?_) ?_
 ·(try dsimp only at hSw); go_simp
 refine wpAnyF_one (i:=10) rfl (by kernel_rfl) (fun K hK => ?_)
 go_simp
 have hbZ:=bel_up (bel_self Wd) (.cells #[.int .i64 0,.int .i64 0,.int .i64 0,.int .i64 0] 123)
 refine hK.out _ _ ⟨fun _ => ⟨bel_c hbZ c8,bel_c hbZ x0,bel_c hbZ x1,bel_c hbZ x2,bel_c hbZ x3⟩,?_⟩
 clear hK K
 refine wpAnyF_one (i:=11) rfl (by kernel_rfl) (fun K hK => ?_)
 go_simp
 refine hK.out _ _ ⟨fun h => absurd h (unl_no (by kernel_rfl)),?_⟩
 clear hK K
 refine wpAnyF_done (by kernel_rfl) ?_ _
 refine NoPanic.normal ?_
 go_wp2
 have hbA:=bel_up (bel_self Wd) (.cells #[.int .i64 (p.st : Int),.int .i64 (p.rd : Int),.int .i64 (p.wt : Int),.int .i64 p.cost] 123)
 obtain ⟨We,hWe⟩ : ∃ We,We = (Wd.alloc (.cells #[.int .i64 (p.st : Int),.int .i64 (p.rd : Int),.int .i64 (p.wt : Int),.int .i64 p.cost] 123)).drew:=⟨_,rfl⟩
 have hbE : Below Wd.heap.size Wd We:=by rw [hWe]; exact hbA.drew
 have y0 : We.cell? ⟨Wd.heap.size,0,none⟩ = some (.int .i64 p.st):=by rw [hWe]; exact drew_cell (new_cell _ _ _ _ 0 _ rfl rfl)
 have y1 : We.cell? ⟨Wd.heap.size,1,none⟩ = some (.int .i64 p.rd):=by rw [hWe]; exact drew_cell (new_cell _ _ _ _ 1 _ rfl rfl)
 have y2 : We.cell? ⟨Wd.heap.size,2,none⟩ = some (.int .i64 p.wt):=by rw [hWe]; exact drew_cell (new_cell _ _ _ _ 2 _ rfl rfl)
 have y3 : We.cell? ⟨Wd.heap.size,3,none⟩ = some (.int .i64 p.cost):=by rw [hWe]; exact drew_cell (new_cell _ _ _ _ 3 _ rfl rfl)
 have hqE:=hqd.bel hbE
 have c8E:=hqE.cell
 have f8E:=hqE.frz
 have hS1 : (fun wx : World => wx.cell? ⟨B,8,none⟩ = some (.slice (some ⟨g,0,none⟩) n cap)) We:=c8E
 refine wp_region_noPanic ?_
 refine wp_region_F (fun wx => wx.cell? ⟨B,8,none⟩ = some (.slice (some ⟨g,0,none⟩) n cap)) [11] (by kernel_rfl) (by rw [<- hWe]; exact hS1) (fun _ => ?_)
 rw [<- hWe]
 clear hWe x0 x1 x2 x3 c8 hS0
 refine wpAnyF_free (i:=0) (v:=.pointer (some ⟨B,8,none⟩)) rfl (by kernel_rfl) (by kernel_rfl) (by kernel_rfl) (by kernel_rfl) (fun _ _ _ h => h) (Or.inl ⟨by rfl,fun wl hSw => ?_⟩) hS1 ?_
 ·(try dsimp only at hSw); go_simp
 refine wpAnyF_free (i:=1) (v:=.pointer (some ⟨B,8,none⟩)) rfl (by kernel_rfl) (by kernel_rfl) (by kernel_rfl) (by kernel_rfl) (fun _ _ _ h => h) (Or.inl ⟨by rfl,fun wl hSw => ?_⟩) hS1 ?_
 ·(try dsimp only at hSw); go_simp
 refine wpAnyF_free (i:=2) (v:=.pointer (some ⟨B,8,none⟩)) rfl (by kernel_rfl) (by kernel_rfl) (by kernel_rfl) (by kernel_rfl) (fun _ _ _ h => h) (Or.inl ⟨by rfl,fun wl hSw => ?_⟩) hS1 ?_
 ·(try dsimp only at hSw); go_simp
 refine tkF (i:=3) (v:=.slice (some ⟨g,0,none⟩) n cap) rfl (by kernel_rfl) (fun _ _ _ h => h) (by rfl) hS1 (fun wl hSw => ?_) ?_
 ·(try dsimp only at hSw); go_simp
 refine wpAnyF_free (i:=4) (v:=.pointer (some ⟨B,8,none⟩)) rfl (by kernel_rfl) (by kernel_rfl) (by kernel_rfl) (by kernel_rfl) (fun _ _ _ h => h) (Or.inl ⟨by rfl,fun wl hSw => ?_⟩) hS1 ?_
 ·(try dsimp only at hSw); go_simp
 refine wpAnyF_free (i:=5) (v:=.pointer (some ⟨B,8,none⟩)) rfl (by kernel_rfl) (by kernel_rfl) (by kernel_rfl) (by kernel_rfl) (fun _ _ _ h => h) (Or.inl ⟨by rfl,fun wl hSw => ?_⟩) hS1 ?_
 ·(try dsimp only at hSw); go_simp
 refine tkF (i:=6) (v:=.slice (some ⟨g,0,none⟩) n cap) rfl (by kernel_rfl) (fun _ _ _ h => h) (by rfl) hS1 (fun wl hSw => ?_) ?_
 ·(try dsimp only at hSw); go_simp
 refine wpAnyF_free (i:=7) (v:=.int .i64 n) rfl (by kernel_rfl) (by kernel_rfl) (by kernel_rfl) (by kernel_rfl) (fun _ _ _ h => h) (Or.inl ⟨by rfl,fun wl hSw => ?_⟩) hS1 ?_
 ·(try dsimp only at hSw); go_simp
 refine wpAnyF_free (i:=8) (v:=.int .i64 m) rfl (by kernel_rfl) (by kernel_rfl) (by kernel_rfl) (by kernel_rfl) (fun _ _ _ h => h) (Or.inl ⟨by rfl,fun wl hSw => ?_⟩) hS1 ?_
 ·(try dsimp only at hSw); go_simp; rw [wrap_in _ (by omega) (by omega)]; have:=HM.out; omega
 refine wpAnyF_free (i:=9) (v:=.slice (some ⟨g,0,none⟩) m cap) rfl (by kernel_rfl) (by kernel_rfl) (by kernel_rfl) (by kernel_rfl) (fun _ _ _ h => h) (Or.inl ⟨by rfl,fun wl hSw => ?_⟩) hS1 ?_
 ·(try dsimp only at hSw); go_simp
 refine wpAnyF_free (i:=10) (v:=.pointer (some ⟨B,8,none⟩)) rfl (by kernel_rfl) (by kernel_rfl) (by kernel_rfl) (by kernel_rfl) (fun _ _ _ h => h) (Or.inl ⟨by rfl,fun wl hSw => ?_⟩) hS1 ?_
 ·(try dsimp only at hSw); go_simp
 refine wpAnyF_one (i:=11) rfl (by kernel_rfl) (fun K hK => ?_)
 go_simp
 refine hK.out _ _ ⟨fun h => absurd h (unl_no (by kernel_rfl)),?_⟩
 clear hK K
 refine wpAnyF_done (by kernel_rfl) ?_ _
 refine NoPanic.normal ?_
 have hBW : Wd.heap.size ≠ B:=by omega
 have z0:=(set_far (i:=8) (v:=.slice (some ⟨g,0,none⟩) m cap) hBW).trans y0
 have z1:=(set_far (i:=8) (v:=.slice (some ⟨g,0,none⟩) m cap) hBW).trans y1
 have z2:=(set_far (i:=8) (v:=.slice (some ⟨g,0,none⟩) m cap) hBW).trans y2
 have z3:=(set_far (i:=8) (v:=.slice (some ⟨g,0,none⟩) m cap) hBW).trans y3
 have hgB : g ≠ B:=fun e => hqd.ne (by rw [<- e]; rfl)
 have hfar : (Value.slice (some ⟨g,0,none⟩) m cap).ownBlock ≠ some B:=by simpa [Value.ownBlock] using hgB
 have hst : QStep B w (.slice (some ⟨g,0,none⟩) n cap) (We.setCell ⟨B,8,none⟩ (.slice (some ⟨g,0,none⟩) m cap)) (.slice (some ⟨g,0,none⟩) m cap):=((QStep.bel (cell_lt h.cell) hbd).trans (QStep.bel hBl hbE)).putTo (fun g' hg' => Or.inl hg')
 have HQ : Hid (QAt base B (We.setCell ⟨B,8,none⟩ (.slice (some ⟨g,0,none⟩) m cap)) (.slice (some ⟨g,0,none⟩) m cap) (L.take m)):=by
  refine ⟨World.cell?_setCell_same _ _ _ c8E,by rw [World.frozen?_setCell]; exact f8E,?_,hfar,Nat.le_trans h.base_le hst.size⟩
  have hlt : (L.take m).length = m:=by rw [List.length_take,HN.out]; exact Nat.min_eq_left hmn
  rw [hlt]
  exact ownsRow_setCell_far (row_take (ownsRow_bel hrow hbE) hmn) hfar
 generalize We.setCell ⟨B,8,none⟩ (.slice (some ⟨g,0,none⟩) m cap) = Wf at *
 clear y0 y1 y2 y3 c8E f8E hS1
 go_wp2
 go_ret
 exact ⟨rfl,HQ.out,hst⟩
set_option maxHeartbeats 1000000 in
theorem hpush_any (B base : Nat) (v : Value) (L : List PlD) (p : PlD) (w : World) (h : QAt base B w v L) (hN : L.length <= 3000000000) (hh : HeapL PlD.cost p0 L L.length) :
  Calls Try.prog 111 #[.iface 125 (.pointer (some ⟨B,8,none⟩)),.iface 123 (plV p)] w fun e w' => e = .returned (.tuple #[]) /\ ∃ v' L',L'.Perm (p :: L) /\ HeapL PlD.cost p0 L' L'.length /\ QAt base B w' v' L' /\ QStep B w v w' v':=by
 have hmp:=mth_push ⟨B,8,none⟩
 have HH : Hid (UpOk PlD.cost p0 (L ++ [p]) (L.length + 1) L.length):=hh.push p
 have hpl : (L ++ [p]).length = L.length + 1:=by simp
 have HPL : Hid ((L ++ [p]).length = L.length + 1):=hpl
 clear hh hpl
 obtain ⟨k,hk⟩ : ∃ k,k = L.length:=⟨_,rfl⟩
 have HK : Hid (k = L.length):=hk
 have hkN : k <= 3000000000:=by omega
 clear hk
 go_enter Try.func111,Try.ntmps111
 go_wp2_with (first
  | (go_at_call 137; refine (qPush_any B base v L p w h hN).mono ?_; rintro e w1 ⟨rfl,g,cap,hq1,hs1⟩; rw [<- HK.out] at hq1 hs1; have hml:=mth_len ⟨B,8,none⟩ _ w1 hq1.cell)
  | (go_at_call 99; refine (qLen_any _ _ _ w1).mono ?_; rintro e w2 ⟨rfl,hw2⟩; obtain rfl:=hw2.symm)
  | (go_at_call 117; refine (up_any B g (k + 1) cap base k (L ++ [p]) w1 (by rw [HPL.out,HK.out]) (by omega) hq1 (by omega) (by rw [HK.out]; exact HH.out)).mono ?_; rintro e w3 ⟨rfl,L',r1,r2,r3,r4⟩))
 go_end0
 have hL : L'.length = k + 1:=by rw [r1.length_eq,HPL.out,HK.out]
 exact ⟨rfl,_,L',r1.trans (List.perm_append_singleton p L),by rw [hL]; exact r2,r3,hs1.trans r4⟩
def PopRes (base B : Nat) (w : World) (v : Value) (L : List PlD) (p : PlD) (w' : World) : Prop :=
 ∃ v' L',(p :: L').Perm L /\ HeapL PlD.cost p0 L' L'.length /\ (∀ q ∈ L',p.cost <= q.cost) /\ QAt base B w' v' L' /\ QStep B w v w' v'
set_option maxHeartbeats 1000000 in
theorem hpop_any (B base g cap n m : Nat) (L : List PlD) (w : World) (hn : L.length = n) (hm : n = m + 1) (h : QAt base B w (.slice (some ⟨g,0,none⟩) n cap) L) (hN : n <= 4000000000) (hh : HeapL PlD.cost p0 L n) :
  Calls Try.prog 100 #[.iface 125 (.pointer (some ⟨B,8,none⟩))] w fun e w' => ∃ p,e = .returned (.iface 123 (plV p)) /\ PopRes base B w (.slice (some ⟨g,0,none⟩) n cap) L p w':=by
 have hml:=mth_len ⟨B,8,none⟩ _ w h.cell
 have hms:=mth_swap ⟨B,8,none⟩ _ w h.cell
 have hmp:=mth_pop ⟨B,8,none⟩
 have hrow:=h.row
 rw [hn] at hrow
 have HN : Hid (L.length = n):=hn
 have HM : Hid (n = m + 1):=hm
 have HH : Hid (HeapL PlD.cost p0 L n):=hh
 have HD : Hid (DownOk PlD.cost p0 (swapL p0 L 0 m) m 0):=by
  have h1:=hh
  rw [hm] at h1
  exact h1.pop (by omega)
 have hmn : m < n:=by omega
 have hmi : (n : Int) - 1 = m:=by omega
 clear hn hm hh
 go_enter Try.func100,Try.ntmps100
 go_wp2_with (first
  | (go_at_call 99; refine (qLen_any _ _ _ w).mono ?_; rintro e w2 ⟨rfl,hw2⟩; obtain rfl:=hw2.symm)
  | (go_at_call 135; refine (qSwap 0 m g n cap base L w hrow (by omega) hmn).mono ?_; rintro e w3 ⟨rfl,hw3⟩; obtain ⟨q1,q2⟩:=h.swap HN.out 0 m (by omega) hmn; rw [<- hw3] at q1 q2; clear hw3)
  | (go_at_call 112; refine (down_any B g n cap base m (swapL p0 L 0 m) w3 (by rw [swapL_len]; exact HN.out) hN hmn q1 HD.out).mono ?_; rintro e w4 ⟨⟨b,rfl⟩,L2,r1,r2,r3,r4,r5⟩)
  | (go_at_call 136; refine (qPop_any B base g cap n m L2 (L2.getD m p0) w4 (by rw [r1.length_eq,swapL_len]; exact HN.out) HM.out r4 hN rfl).mono ?_; rintro e w5 ⟨rfl,t1,t2⟩))
 go_ret
 have e0 : L2.getD m p0 = L.getD 0 p0:=by
  have hl:=HN.out
  rw [r3,swapL_at L 0 m m (by omega) (by omega),if_pos rfl]
 have hl2 : L2.length = m + 1:=by rw [r1.length_eq,swapL_len,HN.out,HM.out]
 have hlt : (L2.take m).length = m:=by rw [List.length_take,hl2]; omega
 have hp2 : (L2.getD m p0 :: L2.take m).Perm L:=by
  have a1 : (L2.getD m p0 :: L2.take m).Perm (L2.take m ++ [L2.getD m p0]):=(List.perm_append_singleton _ _).symm
  rw [<- take_last (d:=p0) L2 m hl2] at a1
  have a2 : (swapL p0 L 0 m).Perm L:=swapL_perm (d:=p0) L 0 m (by have:=HN.out; omega) (by have:=HN.out; omega)
  exact (a1.trans r1).trans a2
 refine ⟨L2.getD m p0,rfl,_,L2.take m,hp2,by rw [hlt]; exact r2.take,fun q hq => ?_,t1,(q2.trans r5).trans t2⟩
 have hqL : q ∈ L:=hp2.mem_iff.1 (List.mem_cons_of_mem _ hq)
 obtain ⟨i,hi,rfl⟩:=List.getElem_of_mem hqL
 have:=HH.out.top i (by have:=HN.out; omega)
 rw [e0]
 simpa [List.getD,hi] using this
end Go.Proofs.Yteehgcbjmdideab
/- The map of spots: how it is looked up,and written. -/
namespace Go.Proofs.Yteehgcbjmdideab
open Go.RowKit Go.ChangeMaps
def spotV (n i o : Nat) : Value:=.agg #[.int .i64 n,.int .i64 i,.int .i64 o]
def stepV (c a : Int) : Value:=.agg #[.int .i64 c,.int .i64 a]
structure MetD where
 st : Nat
 rd : Nat
 wt : Nat
 cost : Int
 arc : Int
def isAt (n i o : Nat) (m : MetD) : Bool:=decide (m.st = n) && decide (m.rd = i) && decide (m.wt = o)
def lookM (n i o : Nat) : List MetD -> Option MetD
 | [] => none
 | m :: l => if isAt n i o m = true then some m else lookM n i o l
def putM (x : MetD) : List MetD -> List MetD
 | [] => [x]
 | m :: l => if isAt x.st x.rd x.wt m = true then x :: l else m :: putM x l
theorem isAt_iff (n i o : Nat) (m : MetD) : isAt n i o m = true ↔ m.st = n /\ m.rd = i /\ m.wt = o:=by
 simp [isAt,and_assoc]
theorem lookM_put (x : MetD) (n i o : Nat) (l : List MetD) : lookM n i o (putM x l) = if x.st = n /\ x.rd = i /\ x.wt = o then some x else lookM n i o l:=by
 induction l with
 | nil =>
  unfold putM lookM
  by_cases h : x.st = n /\ x.rd = i /\ x.wt = o
  ·rw [if_pos ((isAt_iff _ _ _ _).2 h),if_pos h]
  ·rw [if_neg (fun e => h ((isAt_iff _ _ _ _).1 e)),if_neg h]
   rfl
 | cons m l ih =>
  unfold putM
  by_cases hx : isAt x.st x.rd x.wt m = true
  ·rw [if_pos hx]
   obtain ⟨e1,e2,e3⟩:=(isAt_iff _ _ _ _).1 hx
   by_cases h : x.st = n /\ x.rd = i /\ x.wt = o
   ·rw [if_pos h]
    unfold lookM
    rw [if_pos ((isAt_iff _ _ _ _).2 h)]
   ·rw [if_neg h]
    unfold lookM
    rw [if_neg (fun e => h ((isAt_iff _ _ _ _).1 e)),if_neg (fun e => h (by have:=(isAt_iff _ _ _ _).1 e; omega))]
  ·rw [if_neg hx]
   unfold lookM
   by_cases hm : isAt n i o m = true
   ·rw [if_pos hm,if_pos hm,if_neg]
    intro h
    obtain ⟨e1,e2,e3⟩:=(isAt_iff _ _ _ _).1 hm
    exact hx ((isAt_iff _ _ _ _).2 (by omega))
   ·rw [if_neg hm,if_neg hm]
    exact ih
def EsOk (es : List MapEntry) (ms : List MetD) : Prop:=es.map (fun e => (e.key,e.val)) = ms.map fun m => (spotV m.st m.rd m.wt,stepV m.cost m.arc)
def MetAt (w : World) (b : Nat) (ms : List MetD) : Prop:=∃ es clock,w.heap[b]? = some (.map es clock) /\ EsOk es.toList ms
theorem MetAt.lt {w : World} {b : Nat} {ms : List MetD} (h : MetAt w b ms) : b < w.heap.size:=by
 obtain ⟨es,clock,hb,_⟩:=h
 exact heap_lt hb
theorem MetAt.block {w w' : World} {b : Nat} {ms : List MetD} (h : MetAt w b ms) (hb : w'.heap[b]? = w.heap[b]?) : MetAt w' b ms:=by
 obtain ⟨es,clock,h1,h2⟩:=h
 exact ⟨es,clock,hb.trans h1,h2⟩
theorem spot_eq (n i o n' i' o' : Nat) (w : World) : (Op.equal 96 (spotV n i o) (spotV n' i' o')).run Try.prog w = .ok (decide (n = n' /\ i = i' /\ o = o')) w:=by
 have h : (Op.equalIn 10000 96 (spotV n i o) (spotV n' i' o')).run Try.prog w = .ok (decide (n = n' /\ i = i' /\ o = o')) w:=by
  unfold spotV
  rw [run_equalIn_agg w 9999 96 _ _ (by kernel_rfl) (by kernel_rfl)]
  go_simp
  by_cases h0 : n = n' <;> by_cases h1 : i = i' <;> by_cases h2 : o = o' <;> simp [h0,h1,h2] <;> omega
 exact h
theorem spot_check (n i o : Nat) (em : Bool) (w : World) : (Instr.checkKey em 10000 96 (spotV n i o)).run Try.prog w = .ok () w:=by kernel_rfl
theorem spot_find (n i o : Nat) (w : World) (es : List MapEntry) : ∀ (ms : List MetD) (k : Nat),EsOk es ms ->
  ((Instr.findAsking 96 (spotV n i o) es k).run Try.prog w = .ok none w /\ lookM n i o ms = none /\ ∀ c a,putM ⟨n,i,o,c,a⟩ ms = ms ++ [⟨n,i,o,c,a⟩]) \/
  ∃ j m,(Instr.findAsking 96 (spotV n i o) es k).run Try.prog w = .ok (some (k + j,stepV m.cost m.arc)) w /\ lookM n i o ms = some m /\ ms[j]? = some m /\ (m.st = n /\ m.rd = i /\ m.wt = o) /\ ∀ c a,putM ⟨n,i,o,c,a⟩ ms = ms.set j ⟨n,i,o,c,a⟩:=by
 induction es with
 | nil =>
  intro ms k h
  cases ms with
  | nil => exact Or.inl ⟨rfl,rfl,fun _ _ => rfl⟩
  | cons m ms => simp [EsOk] at h
 | cons e es ih =>
  intro ms k h
  cases ms with
  | nil => simp [EsOk] at h
  | cons m ms =>
   have h1 : (e.key = spotV m.st m.rd m.wt /\ e.val = stepV m.cost m.arc) /\ EsOk es ms:=by
    simpa [EsOk] using h
   obtain ⟨⟨hk,hv⟩,h2⟩:=h1
   have hq:=spot_eq n i o m.st m.rd m.wt w
   by_cases he : n = m.st /\ i = m.rd /\ o = m.wt
   ·right
    have hat : isAt n i o m = true:=(isAt_iff _ _ _ _).2 (by omega)
    refine ⟨0,m,?_,?_,rfl,by omega,fun c a => ?_⟩
    ·rw [decide_eq_true he] at hq
     simp [Instr.findAsking,hk,hv,hq,Result.andThen]
    ·unfold lookM; rw [if_pos hat]
    ·unfold putM; rw [if_pos hat]; rfl
   ·have hat : ¬ isAt n i o m = true:=fun h' => he (by have:=(isAt_iff _ _ _ _).1 h'; omega)
    rw [decide_eq_false he] at hq
    have hstep : (Instr.findAsking 96 (spotV n i o) (e :: es) k).run Try.prog w = (Instr.findAsking 96 (spotV n i o) es (k + 1)).run Try.prog w:=by
     simp [Instr.findAsking,hk,hq,Result.andThen]
    have hl : lookM n i o (m :: ms) = lookM n i o ms:=by
     show (if isAt n i o m = true then some m else lookM n i o ms) = _
     rw [if_neg hat]
    have hp : ∀ c a,putM ⟨n,i,o,c,a⟩ (m :: ms) = m :: putM ⟨n,i,o,c,a⟩ ms:=fun c a => by
     show (if isAt n i o m = true then _ else _) = _
     rw [if_neg hat]
    rw [hstep,hl]
    rcases ih ms (k + 1) h2 with ⟨r1,r2,r3⟩ | ⟨j,m',r1,r2,r3,r4,r5⟩
    ·exact Or.inl ⟨r1,r2,fun c a => by rw [hp,r3]; rfl⟩
    ·exact Or.inr ⟨j + 1,m',by rw [r1,Nat.add_assoc,Nat.add_comm 1 j],r2,r3,r4,fun c a => by rw [hp,r5]; rfl⟩
theorem spot_key (n i o : Nat) (w : World) (es : List MapEntry) : (Instr.findKey 96 (spotV n i o) es).run Try.prog w = (Instr.findAsking 96 (spotV n i o) es).run Try.prog w:=by
 cases es with
 | nil =>
  unfold Instr.findKey
  simp [run_underlying Try.underlying96,Instr.findNow,Instr.findAsking,Result.andThen]
 | cons e es =>
  unfold Instr.findKey
  simp [run_underlying Try.underlying96,Instr.findNow,Instr.sameNow,Result.andThen]
def foundV : Option MetD -> Value
 | some m => stepV m.cost m.arc
 | none => stepV 0 0
theorem look_ok {w : World} {b : Nat} {ms : List MetD} (h : MetAt w b ms) (n i o : Nat) : (Instr.lookup 113 (.map (some b)) (spotV n i o) true).run Try.prog w = .ok (.tuple #[foundV (lookM n i o ms),.bool (lookM n i o ms).isSome]) w:=by
 obtain ⟨es,clock,hb,hes⟩:=h
 rcases spot_find n i o w es.toList ms 0 hes with ⟨r1,r2,_⟩ | ⟨j,m,r1,r2,_⟩
 ·rw [r2]
  simp [Instr.lookup,run_underlying Try.underlying113,MapKept.run_getObj_map hb,spot_check,spot_key,r1,foundV,Result.andThen]
  rfl
 ·rw [r2]
  simp [Instr.lookup,run_underlying Try.underlying113,MapKept.run_getObj_map hb,spot_check,spot_key,r1,foundV,Result.andThen]
theorem look_bare {w : World} {b : Nat} {ms : List MetD} (h : MetAt w b ms) (n i o : Nat) : (Instr.lookup 113 (.map (some b)) (spotV n i o) false).run Try.prog w = .ok (foundV (lookM n i o ms)) w:=by
 obtain ⟨es,clock,hb,hes⟩:=h
 rcases spot_find n i o w es.toList ms 0 hes with ⟨r1,r2,_⟩ | ⟨j,m,r1,r2,_⟩
 ·rw [r2]
  simp [Instr.lookup,run_underlying Try.underlying113,MapKept.run_getObj_map hb,spot_check,spot_key,r1,foundV,Result.andThen]
  rfl
 ·rw [r2]
  simp [Instr.lookup,run_underlying Try.underlying113,MapKept.run_getObj_map hb,spot_check,spot_key,r1,foundV,Result.andThen]
theorem stays_spot (n i o : Nat) (w : World) : (Instr.keyThatStays (spotV n i o) (spotV n i o)).run Try.prog w = .ok (spotV n i o) w:=by
 have h : Instr.sameBits 10000 (spotV n i o) (spotV n i o) = true:=by simp [Instr.sameBits,spotV]
 simp [Instr.keyThatStays,h]
theorem put_ok {w : World} {b : Nat} {ms : List MetD} (h : MetAt w b ms) (n i o : Nat) (c a : Int) : ∃ w',(Instr.mapUpdate 113 (.map (some b)) (spotV n i o) (stepV c a)).run Try.prog w = .ok () w' /\ MetAt w' b (putM ⟨n,i,o,c,a⟩ ms) /\ w.grownBy w' (some b):=by
 obtain ⟨es,clock,hb,hes⟩:=h
 rcases spot_find n i o w es.toList ms 0 hes with ⟨r1,r2,r3⟩ | ⟨j,m,r1,r2,r3,r4,r5⟩
 ·refine ⟨setBlock w b (.map (es.push ⟨spotV n i o,stepV c a,clock⟩) (clock + 1)),?_,?_,?_⟩
  ·simp [Instr.mapUpdate,run_underlying Try.underlying113,MapKept.run_getObj_map hb,spot_check,spot_key,r1,MapKept.run_setObj_map _ hb,Result.andThen,setBlock]
  ·refine ⟨_,_,heap_setBlock_same hb _,?_⟩
   rw [r3]
   unfold EsOk at hes ⊢
   simp [hes]
  ·exact ⟨rfl,rfl,rfl,by simp [setBlock],fun k _ hne => heap_setBlock_other hb _ (fun e => hne (by rw [e]))⟩
 ·obtain ⟨e,he,hek⟩ : ∃ e,es[j]? = some e /\ e.key = spotV n i o:=by
   have h1 : (es.toList.map (fun e => (e.key,e.val)))[j]? = some (spotV m.st m.rd m.wt,stepV m.cost m.arc):=by
    rw [hes,List.getElem?_map,r3]; rfl
   rw [List.getElem?_map] at h1
   cases h2 : es.toList[j]? with
   | none => rw [h2] at h1; cases h1
   | some e =>
    rw [h2] at h1
    have h3 : (e.key,e.val) = (spotV m.st m.rd m.wt,stepV m.cost m.arc):=by simpa using h1
    injection h3 with h4 _
    obtain ⟨q1,q2,q3⟩:=r4
    exact ⟨e,by simpa using h2,by rw [h4,q1,q2,q3]⟩
  rw [Nat.zero_add] at r1
  refine ⟨setBlock w b (.map (es.modify j fun e => { e with key:=spotV n i o,val:=stepV c a }) clock),?_,?_,?_⟩
  ·simp [Instr.mapUpdate,run_underlying Try.underlying113,MapKept.run_getObj_map hb,spot_check,spot_key,r1,he,hek,stays_spot,MapKept.run_setObj_map _ hb,Result.andThen,setBlock]
  ·refine ⟨_,_,heap_setBlock_same hb _,?_⟩
   rw [r5]
   unfold EsOk at hes ⊢
   rw [List.map_set,<- hes]
   apply List.ext_getElem?
   intro k
   simp only [Array.toList_modify,List.getElem?_map,List.getElem?_set,List.getElem?_modify,List.length_map]
   by_cases hjk : j = k
   ·subst hjk
    have hlt : j < es.toList.length:=by
     have:=Array.getElem?_eq_some_iff.1 he
     obtain ⟨h,_⟩:=this
     simpa using h
    have hlt' : j < es.size:=by simpa using hlt
    simp [hlt']
   ·simp [hjk]
  ·exact ⟨rfl,rfl,rfl,by simp [setBlock],fun k _ hne => heap_setBlock_other hb _ (fun e => hne (by rw [e]))⟩
end Go.Proofs.Yteehgcbjmdideab
/- The search in memory. -/
namespace Go.Proofs.Yteehgcbjmdideab
open Go.RowKit
attribute [local go_sem ↓] Go.wp_at_zero Go.wp_at_succ
theorem NumsAt.block {w w' : World} {g n : Nat} {c : List Int} (h : NumsAt w g n c) (hb : w'.heap[g]? = w.heap[g]?) (hl : g < w'.heap.size) : NumsAt w' g n c :=
 ⟨h.len,fun i hi => (World.cell?_of_block (w:=w) (a:=⟨g,i,none⟩) hb).trans (h.cell i hi),fun i => (World.frozen?_of_block (w:=w) (a:=⟨g,i,none⟩) hb).trans (h.frz i),hl⟩
structure SW (w0 w : World) (N s0 B Mb Fb : Nat) (fin arcs iv ov v : Value) (fl : List Int) (ms : List MetD) (L : List PlD) : Prop where
 c0 : w.cell? ⟨B,0,none⟩ = some (.int .i64 N)
 c1 : w.cell? ⟨B,1,none⟩ = some (.int .i64 s0)
 c2 : w.cell? ⟨B,2,none⟩ = some fin
 c3 : w.cell? ⟨B,3,none⟩ = some arcs
 c4 : w.cell? ⟨B,4,none⟩ = some iv
 c5 : w.cell? ⟨B,5,none⟩ = some ov
 c6 : w.cell? ⟨B,6,none⟩ = some (.slice (some ⟨Fb,0,none⟩) (N + 1) (N + 1))
 c7 : w.cell? ⟨B,7,none⟩ = some (.map (some Mb))
 q : QAt w0.heap.size B w v L
 first : NumsAt w Fb (N + 1) fl
 met : MetAt w Mb ms
 BM : B ≠ Mb
 BF : B ≠ Fb
 MF : Mb ≠ Fb
 vM : v.ownBlock ≠ some Mb
 vF : v.ownBlock ≠ some Fb
 gB : w0.heap.size <= B
 gM : w0.heap.size <= Mb
 gF : w0.heap.size <= Fb
 bel : Below w0.heap.size w0 w
 hp : HeapL PlD.cost p0 L L.length
section
variable {w0 w w' : World} {N s0 B Mb Fb : Nat} {fin arcs iv ov v v' : Value} {fl : List Int} {ms ms' : List MetD} {L L' : List PlD}
theorem SW.below (h : SW w0 w N s0 B Mb Fb fin arcs iv ov v fl ms L) (hb : Below w.heap.size w w') : SW w0 w' N s0 B Mb Fb fin arcs iv ov v fl ms L :=
 ⟨bel_c hb h.c0,bel_c hb h.c1,bel_c hb h.c2,bel_c hb h.c3,bel_c hb h.c4,bel_c hb h.c5,bel_c hb h.c6,bel_c hb h.c7,h.q.bel hb,h.first.below hb,h.met.block (hb.block Mb h.met.lt),h.BM,h.BF,h.MF,h.vM,h.vF,h.gB,h.gM,h.gF,bel_on h.bel hb,h.hp⟩
theorem SW.step (h : SW w0 w N s0 B Mb Fb fin arcs iv ov v fl ms L) (hs : QStep B w v w' v') (hq : QAt w0.heap.size B w' v' L') (hh : HeapL PlD.cost p0 L' L'.length) : SW w0 w' N s0 B Mb Fb fin arcs iv ov v' fl ms L':=by
 have hM:=h.met.lt
 have hF:=h.first.lt
 refine ⟨(hs.cell 0 (by decide)).trans h.c0,(hs.cell 1 (by decide)).trans h.c1,(hs.cell 2 (by decide)).trans h.c2,(hs.cell 3 (by decide)).trans h.c3,(hs.cell 4 (by decide)).trans h.c4,(hs.cell 5 (by decide)).trans h.c5,(hs.cell 6 (by decide)).trans h.c6,(hs.cell 7 (by decide)).trans h.c7,hq,h.first.block (hs.block Fb hF (Ne.symm h.BF) h.vF) (Nat.lt_of_lt_of_le hF hs.size),h.met.block (hs.block Mb hM (Ne.symm h.BM) h.vM),h.BM,h.BF,h.MF,fun e => ?_,fun e => ?_,h.gB,h.gM,h.gF,hs.below h.bel h.bel.size h.gB (fun g hg => own_base h.q.row g hg),hh⟩
 ·rcases hs.own _ e with e | e
  ·exact h.vM e
  ·omega
 ·rcases hs.own _ e with e | e
  ·exact h.vF e
  ·omega
theorem SW.put (h : SW w0 w N s0 B Mb Fb fin arcs iv ov v fl ms L) (hg : w.grownBy w' (some Mb)) (hm : MetAt w' Mb ms') : SW w0 w' N s0 B Mb Fb fin arcs iv ov v fl ms' L:=by
 have hB:=cell_lt h.c0
 have hne : some B ≠ some Mb:=fun e => h.BM (by injection e)
 have hF:=h.first.lt
 have hc : ∀ k u,w.cell? ⟨B,k,none⟩ = some u -> w'.cell? ⟨B,k,none⟩ = some u:=fun k u hk => (hg.cell_far ⟨B,k,none⟩ hB hne).trans hk
 refine ⟨hc 0 _ h.c0,hc 1 _ h.c1,hc 2 _ h.c2,hc 3 _ h.c3,hc 4 _ h.c4,hc 5 _ h.c5,hc 6 _ h.c6,hc 7 _ h.c7,⟨hc 8 _ h.q.cell,(hg.frozen_far ⟨B,8,none⟩ hB hne).trans h.q.frz,h.q.row.kept hg (Or.inr h.vM),h.q.ne,Nat.le_trans h.q.base_le hg.size⟩,h.first.block (hg.block Fb hF (fun e => h.MF (by injection e with e; exact e.symm))) (Nat.lt_of_lt_of_le hF hg.size),hm,h.BM,h.BF,h.MF,h.vM,h.vF,h.gB,h.gM,h.gF,h.bel.grown hg h.bel.size (fun k hk => by injection hk with hk; have:=h.gM; omega),h.hp⟩
end
structure MStep (B Mb : Nat) (w : World) (v : Value) (w' : World) (v' : Value) : Prop where
 size : w.heap.size <= w'.heap.size
 block : ∀ b,b < w.heap.size -> b ≠ B -> b ≠ Mb -> v.ownBlock ≠ some b -> w'.heap[b]? = w.heap[b]?
 own : ∀ g,v'.ownBlock = some g -> v.ownBlock = some g \/ w.heap.size <= g
section
variable {B Mb : Nat} {w w' w'' : World} {v v' v'' : Value}
theorem MStep.trans (h : MStep B Mb w v w' v') (k : MStep B Mb w' v' w'' v'') : MStep B Mb w v w'' v'' :=
 ⟨Nat.le_trans h.size k.size,fun b hb hB hM hv => (k.block b (Nat.lt_of_lt_of_le hb h.size) hB hM (fun e => by
   rcases h.own b e with e | e
   ·exact hv e
   ·omega)).trans (h.block b hb hB hM hv),fun g hg => by
   rcases k.own g hg with e | e
   ·exact h.own g e
   ·exact Or.inr (Nat.le_trans h.size e)⟩
theorem MStep.bel (h : Below w.heap.size w w') : MStep B Mb w v w' v:=⟨h.size,fun b hb _ _ _ => h.block b hb,fun _ hg => Or.inl hg⟩
theorem MStep.que (h : QStep B w v w' v') : MStep B Mb w v w' v':=⟨h.size,fun b hb hB _ hv => h.block b hb hB hv,h.own⟩
theorem MStep.map (h : w.grownBy w' (some Mb)) : MStep B Mb w v w' v:=⟨h.size,fun b hb _ hM _ => h.block b hb (fun e => hM (by injection e)),fun _ hg => Or.inl hg⟩
theorem MStep.cell (h : MStep B Mb w v w' v') {b k : Nat} {u : Value} (hc : w.cell? ⟨b,k,none⟩ = some u) (hB : b ≠ B) (hM : b ≠ Mb) (hv : v.ownBlock ≠ some b) : w'.cell? ⟨b,k,none⟩ = some u :=
 (World.cell?_of_block (w:=w) (a:=⟨b,k,none⟩) (h.block b (cell_lt hc) hB hM hv)).trans hc
end
end Go.Proofs.Yteehgcbjmdideab
