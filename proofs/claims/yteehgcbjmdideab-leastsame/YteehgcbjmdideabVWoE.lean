/- 'WordsOf' of the document: the walk. (Made by wip/gen/woe.py.) -/
import Derived.Test.YteehgcbjmdideabVM27
set_option maxRecDepth 100000
namespace Go.Proofs.Yteehgcbjmdideab
open Go.RowKit
open Go
attribute [local go_sem ↓] Go.wp_at_zero Go.wp_at_succ
def WordsRes (t : FstD) (N s0 : Nat) (w : World) (e : Ending) (w' : World) : Prop :=
 ∃ (b : Bool) (w3 Wm : World) (fa3 : Option Addr) (fn3 fc3 : Nat) (aa3 : Option Addr) (m ac3 : Nat) (cv pv lv : Value) (LC : List Value) (ws cs : List (List Int)) (ps ls : List Int) (i c : Nat),
  e = .returned (.tuple #[.agg #[.int .i64 (N : Int),.int .i64 (s0 : Int),.slice fa3 fn3 fc3,.slice aa3 m ac3,cv,pv,lv],.bool b]) /\ Below w.heap.size w w' /\
  Sc.FreshT (w.heap.size + 2) w3 (.slice fa3 fn3 fc3) (.slice aa3 m ac3) t /\ ASlice w3 (.slice aa3 m ac3) t.arcs /\ w.heap.size + 1 < w3.heap.size /\
  Tree t N s0 ws cs ps ls i c /\ WM w3 Wm w3.heap.size N (s0 : Int) (.slice fa3 fn3 fc3) (.slice aa3 m ac3) cv pv lv cv pv lv LC cs ps ls /\
  (∀ q,q ≠ w.heap.size + 1 -> w'.heap[q]? = Wm.heap[q]?) /\ (b = true -> i = ws.length /\ c = 0 /\ ws.length <= 200) /\ (b = false -> 200 < ws.length)
def fillN (N n : Nat) : List Int:=List.replicate n (-1) ++ List.replicate (N - n) 0
theorem fillN_zero (N : Nat) : fillN N 0 = List.replicate N 0:=by simp [fillN]
theorem fillN_all (N : Nat) : fillN N N = List.replicate N (-1):=by simp [fillN]
theorem fillN_set {N n : Nat} (h : n < N) : (fillN N n).set n (-1) = fillN N (n + 1):=by
 unfold fillN
 rw [List.set_append_right _ _ (by simp),List.length_replicate,Nat.sub_self,show N - n = (N - (n + 1)) + 1 by omega,List.replicate_succ,List.set_cons_zero,List.replicate_succ',List.append_assoc]
 rfl
theorem own_cell {w : World} {B e g n cap : Nat} {xs : List Value} (h : w.ownsRow B e 1 (.slice (some ⟨g,0,none⟩) n cap) n xs) {i : Nat} {u : Value} (hi : xs[i]? = some u) : w.cell? ⟨g,i,none⟩ = some u:=by
 obtain ⟨hl,h⟩:=h
 rcases h with ⟨h,_⟩ | ⟨g',cap',cur,h0,hB,hh,h1,h2,h3,h4⟩
 ·cases h
 ·injection h0 with h5 h6 h7
  injection h5 with h5
  injection h5 with h5
  subst h5
  have hil:=(List.getElem?_eq_some_iff.1 hi).1
  have : (cur.toList.take (n * 1))[i]? = some u:=by rw [h4]; exact hi
  rw [List.getElem?_take] at this
  have hin : i < n:=by omega
  simp only [Nat.mul_one,hin,if_true,Array.getElem?_toList] at this
  simp [World.cell?,hh,this]
section
variable {w W : World} {R B : Nat} (u0 u1 u2 u3 u4 u5 u6 : Value)
theorem bel_set7 (h : Below B w W) (hR : B <= R) : Below B w (((((((W.setCell ⟨R,0,none⟩ u0).setCell ⟨R,1,none⟩ u1).setCell ⟨R,2,none⟩ u2).setCell ⟨R,3,none⟩ u3).setCell ⟨R,4,none⟩ u4).setCell ⟨R,5,none⟩ u5).setCell ⟨R,6,none⟩ u6) :=
 ((((((h.setCell (p:=⟨R,0,none⟩) hR _).setCell (p:=⟨R,1,none⟩) hR _).setCell (p:=⟨R,2,none⟩) hR _).setCell (p:=⟨R,3,none⟩) hR _).setCell (p:=⟨R,4,none⟩) hR _).setCell (p:=⟨R,5,none⟩) hR _).setCell (p:=⟨R,6,none⟩) hR _
theorem far7 {q : Nat} (h : q ≠ R) : (((((((W.setCell ⟨R,0,none⟩ u0).setCell ⟨R,1,none⟩ u1).setCell ⟨R,2,none⟩ u2).setCell ⟨R,3,none⟩ u3).setCell ⟨R,4,none⟩ u4).setCell ⟨R,5,none⟩ u5).setCell ⟨R,6,none⟩ u6).heap[q]? = W.heap[q]? :=
 (Below.heap_setCell _ ⟨R,6,none⟩ u6 q h).trans ((Below.heap_setCell _ ⟨R,5,none⟩ u5 q h).trans ((Below.heap_setCell _ ⟨R,4,none⟩ u4 q h).trans ((Below.heap_setCell _ ⟨R,3,none⟩ u3 q h).trans ((Below.heap_setCell _ ⟨R,2,none⟩ u2 q h).trans ((Below.heap_setCell _ ⟨R,1,none⟩ u1 q h).trans (Below.heap_setCell _ ⟨R,0,none⟩ u0 q h))))))
theorem set7_cells (h : W.heap[R]? = some (.cells #[.int .i64 0,.int .i64 0,.slice none 0 0,.slice none 0 0,.slice none 0 0,.slice none 0 0,.slice none 0 0] 33 (0,0))) :
  (((((((W.setCell ⟨R,0,none⟩ u0).setCell ⟨R,1,none⟩ u1).setCell ⟨R,2,none⟩ u2).setCell ⟨R,3,none⟩ u3).setCell ⟨R,4,none⟩ u4).setCell ⟨R,5,none⟩ u5).setCell ⟨R,6,none⟩ u6).cell? ⟨R,0,none⟩ = some u0 /\ (((((((W.setCell ⟨R,0,none⟩ u0).setCell ⟨R,1,none⟩ u1).setCell ⟨R,2,none⟩ u2).setCell ⟨R,3,none⟩ u3).setCell ⟨R,4,none⟩ u4).setCell ⟨R,5,none⟩ u5).setCell ⟨R,6,none⟩ u6).cell? ⟨R,1,none⟩ = some u1 /\ (((((((W.setCell ⟨R,0,none⟩ u0).setCell ⟨R,1,none⟩ u1).setCell ⟨R,2,none⟩ u2).setCell ⟨R,3,none⟩ u3).setCell ⟨R,4,none⟩ u4).setCell ⟨R,5,none⟩ u5).setCell ⟨R,6,none⟩ u6).cell? ⟨R,2,none⟩ = some u2 /\ (((((((W.setCell ⟨R,0,none⟩ u0).setCell ⟨R,1,none⟩ u1).setCell ⟨R,2,none⟩ u2).setCell ⟨R,3,none⟩ u3).setCell ⟨R,4,none⟩ u4).setCell ⟨R,5,none⟩ u5).setCell ⟨R,6,none⟩ u6).cell? ⟨R,3,none⟩ = some u3 /\ (((((((W.setCell ⟨R,0,none⟩ u0).setCell ⟨R,1,none⟩ u1).setCell ⟨R,2,none⟩ u2).setCell ⟨R,3,none⟩ u3).setCell ⟨R,4,none⟩ u4).setCell ⟨R,5,none⟩ u5).setCell ⟨R,6,none⟩ u6).cell? ⟨R,4,none⟩ = some u4 /\ (((((((W.setCell ⟨R,0,none⟩ u0).setCell ⟨R,1,none⟩ u1).setCell ⟨R,2,none⟩ u2).setCell ⟨R,3,none⟩ u3).setCell ⟨R,4,none⟩ u4).setCell ⟨R,5,none⟩ u5).setCell ⟨R,6,none⟩ u6).cell? ⟨R,5,none⟩ = some u5 /\ (((((((W.setCell ⟨R,0,none⟩ u0).setCell ⟨R,1,none⟩ u1).setCell ⟨R,2,none⟩ u2).setCell ⟨R,3,none⟩ u3).setCell ⟨R,4,none⟩ u4).setCell ⟨R,5,none⟩ u5).setCell ⟨R,6,none⟩ u6).cell? ⟨R,6,none⟩ = some u6:=by
 have z0 : W.cell? ⟨R,0,none⟩ = some (.int .i64 0):=Go.Joins.cell_of_block h 0
 have z1 : W.cell? ⟨R,1,none⟩ = some (.int .i64 0):=Go.Joins.cell_of_block h 1
 have z2 : W.cell? ⟨R,2,none⟩ = some (.slice none 0 0):=Go.Joins.cell_of_block h 2
 have z3 : W.cell? ⟨R,3,none⟩ = some (.slice none 0 0):=Go.Joins.cell_of_block h 3
 have z4 : W.cell? ⟨R,4,none⟩ = some (.slice none 0 0):=Go.Joins.cell_of_block h 4
 have z5 : W.cell? ⟨R,5,none⟩ = some (.slice none 0 0):=Go.Joins.cell_of_block h 5
 have z6 : W.cell? ⟨R,6,none⟩ = some (.slice none 0 0):=Go.Joins.cell_of_block h 6
 have s : ∀ {w : World} {i j : Nat} {u v : Value},w.cell? ⟨R,j,none⟩ = some u -> j ≠ i -> (w.setCell ⟨R,i,none⟩ v).cell? ⟨R,j,none⟩ = some u:=fun h1 h2 => set_off7 h1 h2
 have e : ∀ {w : World} {i : Nat} {u v : Value},w.cell? ⟨R,i,none⟩ = some u -> (w.setCell ⟨R,i,none⟩ v).cell? ⟨R,i,none⟩ = some v:=fun h1 => World.cell?_setCell_same _ _ _ h1
 refine ⟨s (s (s (s (s (s (e z0) (by decide)) (by decide)) (by decide)) (by decide)) (by decide)) (by decide),s (s (s (s (s (e (s z1 (by decide))) (by decide)) (by decide)) (by decide)) (by decide)) (by decide),s (s (s (s (e (s (s z2 (by decide)) (by decide))) (by decide)) (by decide)) (by decide)) (by decide),s (s (s (e (s (s (s z3 (by decide)) (by decide)) (by decide))) (by decide)) (by decide)) (by decide),s (s (e (s (s (s (s z4 (by decide)) (by decide)) (by decide)) (by decide))) (by decide)) (by decide),s (e (s (s (s (s (s z5 (by decide)) (by decide)) (by decide)) (by decide)) (by decide))) (by decide),e (s (s (s (s (s (s z6 (by decide)) (by decide)) (by decide)) (by decide)) (by decide)) (by decide))⟩
end
theorem hid_of {p : Prop} (h : p) : Hid p:=h
theorem row_beg {W W' : World} {Q N gb cb : Nat} {xs : List Int} {t : Nat} (h : W'.ownsRow W.heap.size t 1 (.slice (some ⟨gb,0,none⟩) N cb) N (intsW xs)) (hQ : Q < W.heap.size) : RowAt W' Q N gb xs (.slice none 0 0) (.slice none 0 0) (.slice none 0 0):=by
 obtain ⟨r1,r2⟩:=NumsAt.of_row h
 exact ⟨r1,by omega,by simp [Value.ownBlock],by simp [Value.ownBlock],by simp [Value.ownBlock]⟩
theorem wm_new (w : World) (N : Nat) (sta : Int) (fin arcs : Value) : WM w (w.alloc (.cells #[.int .i64 (N : Int),.int .i64 sta,fin,arcs,.slice none 0 0,.slice none 0 0,.slice none 0 0] 33)) w.heap.size N sta fin arcs (.slice none 0 0) (.slice none 0 0) (.slice none 0 0) (.slice none 0 0) (.slice none 0 0) (.slice none 0 0) [] [] [] [] :=
 ⟨bel_up (bel_self w) _,⟨new_cell _ _ _ _ 0 _ rfl rfl,new_cell _ _ _ _ 1 _ rfl rfl,new_cell _ _ _ _ 2 _ rfl rfl,new_cell _ _ _ _ 3 _ rfl rfl⟩,new_cell _ _ _ _ 4 _ rfl rfl,new_cell _ _ _ _ 5 _ rfl rfl,new_cell _ _ _ _ 6 _ rfl rfl,fun i => Go.Joins.unfrozen_of_block (heap_alloc_new w _) i,World.ownsRow_nil _ _ _ _,World.ownsRow_nil _ _ _ _,World.ownsRow_nil _ _ _ _,fun b hb => by simp [Value.ownBlock] at hb,fun b hb => by simp [Value.ownBlock] at hb,fun b hb => by simp [Value.ownBlock] at hb,rfl,fun j V h => by simp at h⟩
set_option maxHeartbeats 6400000 in
theorem wordsOf_any (f t : FstD) (N s0 : Nat) (fin arcs : Value) (w : World) (hd : DIn f t N s0) (hf : ISlice w fin f.final) (ha : ASlice w arcs f.arcs) :
  Calls Try.prog 12 #[.agg #[.int .i64 f.states,.int .i64 f.start,fin,arcs]] w fun e w' => WordsRes t N s0 w e w':=by
 obtain ⟨fa,fn,fc,rfl,_,_⟩:=hf.lenOf
 obtain ⟨aa,an,ac,rfl,_,_⟩:=ha.lenOf
 have HD : Hid (DIn f t N s0):=hd
 have hN2 : N <= 200:=hd.hT.sin.hN
 have hN1 : 0 < N:=by have:=hd.hT.sin.hs; omega
 obtain ⟨i0,hi0,hz0,hz1,hz2⟩:=info_parts Try.info3
 obtain ⟨iS,hiS,hzS0,hzS1,hzS2⟩:=info_parts infoS
 obtain ⟨A1,hA1⟩ : ∃ W,W = w.alloc (.cells #[.int .i64 f.states,.int .i64 f.start,.slice fa fn fc,.slice aa an ac] 25):=⟨_,rfl⟩
 have hB1 : Below w.heap.size w A1:=by rw [hA1]; exact bel_up (bel_self w) _
 have hq1 : CellsF A1 w.heap.size f.states f.start (.slice fa fn fc) (.slice aa an ac):=by rw [hA1]; exact cellsF_new _ _ _ _ _ _
 have s1 : A1.heap.size = w.heap.size + 1:=by rw [hA1]; exact one_size _ _
 obtain ⟨A2,hA2⟩ : ∃ W,W = A1.alloc (.cells #[.int .i64 0,.int .i64 0,.slice none 0 0,.slice none 0 0,.slice none 0 0,.slice none 0 0,.slice none 0 0] 33):=⟨_,rfl⟩
 have hB12 : Below A1.heap.size A1 A2:=by rw [hA2]; exact bel_up (bel_self _) _
 have hz2' : A2.heap[w.heap.size + 1]? = some (.cells #[.int .i64 0,.int .i64 0,.slice none 0 0,.slice none 0 0,.slice none 0 0,.slice none 0 0,.slice none 0 0] 33 (0,0)):=by rw [hA2,<- s1]; exact heap_alloc_new A1 _
 have hB2:=bel_on hB1 hB12
 have q2:=hq1.below hB12
 have HW : Hid (A2 = (w.alloc (.cells #[.int .i64 f.states,.int .i64 f.start,.slice fa fn fc,.slice aa an ac] 25)).alloc (.cells #[.int .i64 0,.int .i64 0,.slice none 0 0,.slice none 0 0,.slice none 0 0,.slice none 0 0,.slice none 0 0] 33)):=by rw [<- hA1]; exact hA2
 have h36:=hd.trimOf (hf.below hB2) (ha.below hB2)
 rw [HW.out] at h36
 have hsA2 : A2.heap.size = w.heap.size + 2:=by rw [hA2,one_size,s1]
 clear hA1 hA2 hB1 hB12 hq1 s1 hf ha hd
 go_enter Try.func12,Try.ntmps12
 go_wp2_with (go_at_call 36; refine h36.mono ?_; rintro e w3 ⟨fa3,fn3,fc3,aa3,m,ac3,rfl,hF3,hb3⟩; rw [<- HW.out] at hb3 hF3; rw [hsA2] at hF3; have hI3:=(hF3 w3 (fun _ _ _ => rfl)).1; have hA3:=(hF3 w3 (fun _ _ _ => rfl)).2; have HFT:=hid_of hF3; clear h36 hF3)
 obtain ⟨W4,hW4⟩ : ∃ W,W = w3.alloc (.cells #[.int .i64 (N : Int),.int .i64 (s0 : Int),.slice fa3 fn3 fc3,.slice aa3 m ac3,.slice none 0 0,.slice none 0 0,.slice none 0 0] 33):=⟨_,rfl⟩
 have hb4 : Below w3.heap.size w3 W4:=by rw [hW4]; exact bel_up (bel_self w3) _
 have hM4 : WM w3 W4 w3.heap.size N (s0 : Int) (.slice fa3 fn3 fc3) (.slice aa3 m ac3) (.slice none 0 0) (.slice none 0 0) (.slice none 0 0) (.slice none 0 0) (.slice none 0 0) (.slice none 0 0) [] [] [] []:=by rw [hW4]; exact wm_new w3 N (s0 : Int) _ _
 have hMd:=hM4.below (bel_self W4).drew
 obtain ⟨Wd,hWd⟩ : ∃ W,W = W4.drew:=⟨_,rfl⟩
 rw [<- hWd] at hMd
 rw [<- hW4]
 have hS0 : (fun wx : World => wx.cell? ⟨w3.heap.size,0,none⟩ = some (.int .i64 (N : Int)) /\ wx.cell? ⟨w3.heap.size,1,none⟩ = some (.int .i64 (s0 : Int)) /\ wx.cell? ⟨w3.heap.size,2,none⟩ = some (.slice fa3 fn3 fc3) /\ wx.cell? ⟨w3.heap.size,3,none⟩ = some (.slice aa3 m ac3) /\ wx.cell? ⟨w3.heap.size,4,none⟩ = some (.slice none 0 0) /\ wx.cell? ⟨w3.heap.size,5,none⟩ = some (.slice none 0 0) /\ wx.cell? ⟨w3.heap.size,6,none⟩ = some (.slice none 0 0)) Wd:=⟨hMd.cf.1,hMd.cf.2.1,hMd.cf.2.2.1,hMd.cf.2.2.2,hMd.c4,hMd.c5,hMd.c6⟩
 go_cut [4] from 5 (fun t4 wx => t4 = .pointer (some ⟨w3.heap.size,0,none⟩) /\ ∃ cv pv lv LC,WM w3 wx w3.heap.size N (s0 : Int) (.slice fa3 fn3 fc3) (.slice aa3 m ac3) cv pv lv cv pv lv LC [begL (s0 : Int) N] [-1] [0])
 case first =>
  refine wp_region_noPanic ?_
  refine wp_region_F (fun wx => wx.cell? ⟨w3.heap.size,0,none⟩ = some (.int .i64 (N : Int)) /\ wx.cell? ⟨w3.heap.size,1,none⟩ = some (.int .i64 (s0 : Int)) /\ wx.cell? ⟨w3.heap.size,2,none⟩ = some (.slice fa3 fn3 fc3) /\ wx.cell? ⟨w3.heap.size,3,none⟩ = some (.slice aa3 m ac3) /\ wx.cell? ⟨w3.heap.size,4,none⟩ = some (.slice none 0 0) /\ wx.cell? ⟨w3.heap.size,5,none⟩ = some (.slice none 0 0) /\ wx.cell? ⟨w3.heap.size,6,none⟩ = some (.slice none 0 0)) [16,18,20] (by kernel_rfl) (by rw [<- hWd]; exact hS0) (fun _ => ?_)
  rw [<- hWd]
  refine tkF (i:=0) (v:=.pointer (some ⟨w3.heap.size,4,none⟩)) rfl (by kernel_rfl) (fun _ _ _ h => h) (by rfl) hS0 (fun wl hSw => ?_) ?_
  ·(try dsimp only at hSw); obtain ⟨u0,u1,u2,u3,u4,u5,u6⟩:=hSw; go_simp
  refine tkF (i:=1) (v:=.slice none 0 0) rfl (by kernel_rfl) (fun _ _ _ h => h) (by rfl) hS0 (fun wl hSw => ?_) ?_
  ·(try dsimp only at hSw); obtain ⟨u0,u1,u2,u3,u4,u5,u6⟩:=hSw; go_simp
  refine tkF (i:=2) (v:=.pointer (some ⟨w3.heap.size,0,none⟩)) rfl (by kernel_rfl) (fun _ _ _ h => h) (by rfl) hS0 (fun wl hSw => ?_) ?_
  ·(try dsimp only at hSw); obtain ⟨u0,u1,u2,u3,u4,u5,u6⟩:=hSw; go_simp
  refine tkF (i:=3) (v:=.agg #[.int .i64 (N : Int),.int .i64 (s0 : Int),.slice fa3 fn3 fc3,.slice aa3 m ac3]) rfl (by kernel_rfl) (fun _ _ _ h => h) (by rfl) hS0 (fun wl hSw => ?_) ?_
  ·(try dsimp only at hSw); obtain ⟨u0,u1,u2,u3,u4,u5,u6⟩:=hSw; go_simp
  refine tkF (i:=7) (v:=.pointer (some ⟨w3.heap.size,5,none⟩)) rfl (by kernel_rfl) (fun _ _ _ h => h) (by rfl) hS0 (fun wl hSw => ?_) ?_
  ·(try dsimp only at hSw); obtain ⟨u0,u1,u2,u3,u4,u5,u6⟩:=hSw; go_simp
  refine tkF (i:=8) (v:=.slice none 0 0) rfl (by kernel_rfl) (fun _ _ _ h => h) (by rfl) hS0 (fun wl hSw => ?_) ?_
  ·(try dsimp only at hSw); obtain ⟨u0,u1,u2,u3,u4,u5,u6⟩:=hSw; go_simp
  refine tkF (i:=11) (v:=.pointer (some ⟨w3.heap.size,6,none⟩)) rfl (by kernel_rfl) (fun _ _ _ h => h) (by rfl) hS0 (fun wl hSw => ?_) ?_
  ·(try dsimp only at hSw); obtain ⟨u0,u1,u2,u3,u4,u5,u6⟩:=hSw; go_simp
  refine tkF (i:=12) (v:=.slice none 0 0) rfl (by kernel_rfl) (fun _ _ _ h => h) (by rfl) hS0 (fun wl hSw => ?_) ?_
  ·(try dsimp only at hSw); obtain ⟨u0,u1,u2,u3,u4,u5,u6⟩:=hSw; go_simp
  refine act_gen (fun a0 ha0 => ?_)
  have e4 : a0.eval (.tmp 4) = .pointer (some ⟨w3.heap.size,0,none⟩):=by rw [ha0]; simp [Act.eval,Act.put]
  have e16 : a0.eval (.tmp 16) = .slice none 0 0:=by rw [ha0]; simp [Act.eval,Act.put]
  have e18 : a0.eval (.tmp 18) = .agg #[.int .i64 (N : Int),.int .i64 (s0 : Int),.slice fa3 fn3 fc3,.slice aa3 m ac3]:=by rw [ha0]; simp [Act.eval,Act.put]
  have e23 : a0.eval (.tmp 23) = .slice none 0 0:=by rw [ha0]; simp [Act.eval,Act.put]
  have e27 : a0.eval (.tmp 27) = .slice none 0 0:=by rw [ha0]; simp [Act.eval,Act.put]
  have esz : a0.tmps.size = 136:=by rw [ha0]; simp [Act.put]
  refine wpAnyF_at (listed':=flowL ((((((((Array.replicate 21 false).setIfInBounds 0 true).setIfInBounds 1 true).setIfInBounds 2 true).setIfInBounds 3 true).setIfInBounds 7 true).setIfInBounds 8 true).setIfInBounds 11 true |>.setIfInBounds 12 true) [4,5,6,10,14] 9 13 15 0 false false false) (fuel':=8 - 0 + 5) ?_ (by kernel_rfl) (by kernel_rfl)
  have hfr : ∀ (x : Nat -> Value) (n : Nat),n ∉ [19,20,21,24,25,28,29,30] -> (frameF a0 [19,20,21,24,25,28,29,30] x).eval (.tmp n) = a0.eval (.tmp n):=fun x n hn => frame_no _ a0 hn
  have hini : FI w3 Wd w3.heap.size N (s0 : Int) (.slice fa3 fn3 fc3) (.slice aa3 m ac3) (.slice none 0 0) (.slice none 0 0) (.slice none 0 0) (begL (s0 : Int) N) (-1) 0 [] [] [] [] ((frameF a0 [19,20,21,24,25,28,29,30] (fun d => a0.tmps.getD d undef)).eval (.tmp 19)) (a0.tmps.getD 20 undef) (a0.tmps.getD 21 undef) (a0.tmps.getD 24 undef) (a0.tmps.getD 25 undef) (a0.tmps.getD 28 undef) (a0.tmps.getD 29 undef) 0 false false:=⟨hMd,fun h => (by omega),fun h => (by omega),fun h => (by cases h),fun h => (by cases h)⟩
  rw [<- frame_self [19,20,21,24,25,28,29,30] a0]
  refine grow3 (k0:=0) (f0:=5) (x:=fun d => a0.tmps.getD d undef) (w0:=w3) (Q:=w3.heap.size) (N:=N) (sta:=(s0 : Int)) (fin:=.slice fa3 fn3 fc3) (arcs:=.slice aa3 m ac3) (cv:=.slice none 0 0) (pv:=.slice none 0 0) (lv:=.slice none 0 0) (V:=begL (s0 : Int) N) (vp:=-1) (vl:=0) (LC:=[]) (cs:=[]) (LP:=[]) (LL:=[]) (sr:=19) (uC:=16) (uP:=23) (uL:=27) (sC:=20) (tC:=21) (sP:=24) (tP:=25) (sL:=28) (tL:=29) (sq:=30) (xp:=.const (.int .i64 (-1))) (xl:=.const (.int .i64 0)) ?opz (by decide) ?sz ?chk e16 e23 e27 e4 (fun _ => rfl) (fun _ => rfl) (fun o a W K => wp_field1 o a W K) (by decide) ?hS ?call ?fin hini
  case sz => intro d hd; rw [esz]; simp at hd; omega
  case hS =>
   rintro a W k bp bl bq ⟨x,_,hI,_⟩
   exact ⟨hI.wm.cf.1,hI.wm.cf.2.1,hI.wm.cf.2.2.1,hI.wm.cf.2.2.2,hI.wm.c4,hI.wm.c5,hI.wm.c6⟩
  case opz => exact ⟨⟨5,_,rfl,rfl,rfl,rfl,rfl⟩,⟨6,_,rfl,rfl,rfl,rfl,rfl⟩,⟨10,_,rfl,rfl,rfl,rfl,rfl⟩,⟨14,_,rfl,rfl,rfl,rfl,rfl⟩,⟨_,rfl,rfl,rfl,rfl⟩,⟨_,rfl,rfl,rfl,rfl⟩,⟨_,rfl,rfl,rfl,rfl⟩,by decide,by decide,by decide,by decide⟩
  case chk => kernel_rfl
  case call =>
   intro _ i bp bl bq a W hci hF
   have hi4 : i = 4:=by simpa using hci.symm
   subst hi4
   have hF':=hF
   obtain ⟨x,hx,hI,hq⟩:=hF
   refine wpOp_of (i:=4) rfl rfl fun K' hK => wp_begun _ a W K' (.agg #[.int .i64 (N : Int),.int .i64 (s0 : Int),.slice fa3 fn3 fc3,.slice aa3 m ac3]) _ 18 rfl (by rw [hx,hfr x 18 (by decide)]; exact e18) (begunRef_any N (s0 : Int) _ _ W hN2) (fun e W' hT => ⟨hT.choose,hT.choose_spec.1⟩) (fun u W' hT => hK _ _ ?_)
   obtain ⟨v,hv,hob,hb⟩:=hT
   injection hv with hv
   subst hv
   obtain ⟨gb,cb,rfl⟩:=Go.Joins.ownsRow_form hob hN1
   exact FS.begun rfl (by decide) (by decide) (by rw [esz]; decide) (by decide) hF' hb (row_beg hob hI.wm.lt)
  case fin =>
   intro x W hM hq
   clear hini hfr e4 e16 e18 e23 e27 esz
   obtain ⟨g1,k1,h21⟩:=Go.Joins.ownsRow_form hM.oC (by simp)
   obtain ⟨g2,k2,h25⟩:=Go.Joins.ownsRow_form hM.oP (by simp)
   obtain ⟨g3,k3,h29⟩:=Go.Joins.ownsRow_form hM.oL (by simp)
   rw [h21,h25,h29] at hM
   have c4:=hM.c4
   have z4:=hM.frz 4
   have hM1:=hM.set4
   have c5:=hM.c5
   have z5:=hM.frz 5
   have hM2:=hM1.set5
   have c6:=hM.c6
   have z6:=hM.frz 6
   have HM3:=hid_of hM2.set6
   rw [ha0]
   clear ha0 hM hM1 hM2 hMd
   simp only [frameF]
   refine wpAnyF_one (i:=16) rfl (by kernel_rfl) (fun K hK => ?_)
   go_simp
   refine hK.out _ _ ⟨fun h => absurd h (unl_no (by kernel_rfl)),?_⟩
   clear hK K
   refine wpAnyF_one (i:=17) rfl (by kernel_rfl) (fun K hK => ?_)
   go_simp
   refine hK.out _ _ ⟨fun h => absurd h (unl_no (by kernel_rfl)),?_⟩
   clear hK K
   refine wpAnyF_one (i:=18) rfl (by kernel_rfl) (fun K hK => ?_)
   go_simp
   refine hK.out _ _ ⟨fun h => absurd h (unl_no (by kernel_rfl)),?_⟩
   clear hK K
   refine wpAnyF_one (i:=19) rfl (by kernel_rfl) (fun K hK => ?_)
   go_simp
   refine hK.out _ _ ⟨fun h => absurd h (unl_no (by kernel_rfl)),?_⟩
   clear hK K
   refine wpAnyF_one (i:=20) rfl (by kernel_rfl) (fun K hK => ?_)
   go_simp
   refine hK.out _ _ ⟨fun h => absurd h (unl_no (by kernel_rfl)),?_⟩
   clear hK K
   refine wpAnyF_done (by kernel_rfl) ?_ _
   refine NoPanic.normal ?_
   go_wp2
   go_meet
   case rel => exact ⟨rfl,_,_,_,_,HM3.out⟩
 case rest =>
  obtain ⟨rfl,cv,pv,lv,LC,hM⟩:=hcut
  rename World => w5
  clear hS0 hMd hM4 hWd hW4 hb4 HW q2
  have HS : Hid (SubIn t N s0):=HD.out.hT.sin
  have HIA : Hid (ISlice w3 (.slice fa3 fn3 fc3) t.final /\ ASlice w3 (.slice aa3 m ac3) t.arcs):=⟨hI3,hA3⟩
  have HB3 : Hid (Below w.heap.size w w3):=bel_on hB2 hb3
  have HZ3:=hid_of (heap_bel hb3 hz2')
  have HT0 : Hid (Tree t N s0 [[]] [begL (s0 : Int) N] [-1] [0] 0 0):=by
   have h:=tree_start HS.out
   rw [show onlyL N s0 = begL (s0 : Int) N from beg_set N s0] at h
   exact h
  have hQR : w.heap.size + 1 < w3.heap.size:=heap_lt HZ3.out
  have HAL : Hid (t.arcs.length = m):=by
   obtain ⟨_,m',_,e,h1,_⟩:=hA3.lenOf
   injection e with _ e _
   show t.arcs.length = m
   omega
  have hm3 : m <= 3000:=by
   have:=(fine_of HD.out.hT.chk).many
   have:=HAL.out
   omega
  clear hI3 hA3 hb3 hB2 hz2' HD
  go_wp2
  go_loopw [5] (fun t5 wx => ∃ (i : Nat) (ws cs : List (List Int)) (ps ls : List Int) (LC : List Value) (cv pv lv : Value),t5 = .int .i64 (i : Int) /\ i <= ws.length /\ ws.length <= 200 /\ Tree t N s0 ws cs ps ls i 0 /\ WM w3 wx w3.heap.size N (s0 : Int) (.slice fa3 fn3 fc3) (.slice aa3 m ac3) cv pv lv cv pv lv LC cs ps ls) (fun t5 _ => 201 - (intOf t5).toNat)
  case atStart => exact ⟨0,_,_,_,_,_,_,_,_,rfl,by decide,by decide,HT0.out,hM⟩
  case round =>
   clear hM HT0
   obtain ⟨i,ws,cs,ps,ls,LC,cv,pv,lv,rfl,hil,hwl,hT,hM⟩:=hrel
   have hlc : LC.length = ws.length:=by rw [hM.lc,hT.l1]
   have hw0:=(List.getElem?_eq_some_iff.1 hT.w0).1
   obtain ⟨gC,kC,rfl⟩:=Go.Joins.ownsRow_form hM.oC (by omega)
   have c4:=hM.c4
   rw [hlc] at c4
   by_cases hlt : i < ws.length
   ·have hlti : (i : Int) < ws.length:=by omega
    have HM:=hid_of hM
    have HT:=hid_of hT
    clear hM hT
    go_wp2
    go_loopw [6] (fun t6 wx => ∃ (c : Nat) (ws cs : List (List Int)) (ps ls : List Int) (LC : List Value) (cv pv lv : Value),t6 = .int .i64 ((c : Int) + 1) /\ c <= 9 /\ i < ws.length /\ ws.length <= 200 /\ Tree t N s0 ws cs ps ls i c /\ WM w3 wx w3.heap.size N (s0 : Int) (.slice fa3 fn3 fc3) (.slice aa3 m ac3) cv pv lv cv pv lv LC cs ps ls) (fun t6 _ => 10 - (intOf t6).toNat)
    case atStart => exact ⟨0,_,_,_,_,_,_,_,_,rfl,by decide,hlt,hwl,HT.out,HM.out⟩
    case round =>
     clear HM HT hlc hw0 c4 hlt hlti hwl hil
     obtain ⟨c,ws,cs,ps,ls,LC,cv,pv,lv,rfl,hc9,hlt,hwl,hT,hM⟩:=hrel
     by_cases hc : c < 9
     ·have hci : (c : Int) + 1 <= 9:=by omega
      obtain ⟨v,hv⟩ : ∃ v,ws[i]? = some v:=⟨_,List.getElem?_eq_getElem hlt⟩
      obtain ⟨V,hV,hVl,hE,hVb⟩:=hT.enc i v hv
      obtain ⟨G,cap,hLG,hGN,hGQ,_⟩:=hM.rows i V hV
      have hlc : LC.length = ws.length:=by rw [hM.lc,hT.l1]
      obtain ⟨gC,kC,rfl⟩:=Go.Joins.ownsRow_form hM.oC (by omega)
      obtain ⟨gP,kP,rfl⟩:=Go.Joins.ownsRow_form hM.oP (by rw [hT.l2]; omega)
      obtain ⟨gL,kL,rfl⟩:=Go.Joins.ownsRow_form hM.oL (by rw [hT.l3]; omega)
      have hmk:=run_make_row' (P:=Try.prog) 22 3 (.int .i64 0) 8 Try.underlying22 Try.info3 rfl .i64 .i64 N (by omega) (by omega)
      have q0:=hM.cf.1
      rename World => wA
      have HZ:=hid_of (made_zero wA N)
      have HM:=hid_of hM
      have HT:=hid_of hT
      have HV : Hid (ws[i]? = some v /\ cs[i]? = some V /\ V.length = N /\ Enc t s0 N V 0 v /\ ∀ s,gI V s <= (i : Int) * 1000000000):=⟨hv,hV,hVl,hE,hVb⟩
      have HG : Hid (LC[i]? = some (.slice (some ⟨G,0,none⟩) N cap) /\ NumsAt wA G N V):=⟨hLG,hGN⟩
      have hnA:=hM.lt
      clear hM hT hv hV hVl hE hVb hLG hGN
      go_wp2
      clear hmk q0
      go_loopw [9] (fun t9 wx => ∃ n : Nat,t9 = .int .i64 (n : Int) /\ n <= N /\ NumsAt wx wA.heap.size N (fillN N n) /\ Below wA.heap.size wA wx) (fun t9 _ => N - (intOf t9).toNat)
      case atStart => exact ⟨0,rfl,Nat.zero_le _,by rw [fillN_zero]; exact HZ.out,bel_up (bel_self wA) _⟩
      case round =>
       obtain ⟨n,rfl,hn,hN9,hb9⟩:=hrel
       have q0:=(HM.out.below hb9).cf.1
       by_cases hnN : n < N
       ·have hni : (n : Int) < N:=by omega
        have cn:=hN9.cell n hnN
        have zn:=hN9.frz n
        have HR : Hid (NumsAt (wr.setCell ⟨wA.heap.size,n,none⟩ (.int .i64 (-1))) wA.heap.size N (fillN N (n + 1)) /\ Below wA.heap.size wA (wr.setCell ⟨wA.heap.size,n,none⟩ (.int .i64 (-1)))):=⟨by rw [<- fillN_set hnN]; exact hN9.set n (-1) hnN,hb9.setCell (p:=⟨wA.heap.size,n,none⟩) (Nat.le_refl _) _⟩
        clear hN9 hb9
        go_wp2
        go_roundw
        case rel => exact ⟨n + 1,by go_num,by omega,HR.out.1,HR.out.2⟩
        case measure => simp [intOf]; omega
       ·obtain rfl : N = n:=by omega
        have hni : ¬ (N : Int) < N:=by omega
        have HK : Hid (NumsAt wr wA.heap.size N (behL V N (t.arcs.take 0) c)):=by
         rw [fillN_all] at hN9
         exact hN9
        have HB:=hid_of hb9
        clear hN9 hb9
        go_wp2
        go_loopw [8,10] (fun t8 t10 wx => ∃ k : Nat,t8 = .bool (goesB V c (t.arcs.take k)) /\ t10 = .int .i64 (k : Int) /\ k <= m /\ NumsAt wx wA.heap.size N (behL V N (t.arcs.take k) c) /\ Below wA.heap.size wA wx) (fun _ t10 _ => m - (intOf t10).toNat)
        case atStart => exact ⟨0,rfl,rfl,Nat.zero_le _,HK.out,HB.out⟩
        case round =>
         clear HK HB hni q0
         obtain ⟨k,rfl,rfl,hkm,hNk,hbk⟩:=hrel
         have hMk:=HM.out.below hbk
         by_cases hlt2 : k < m
         ·have hki : (k : Int) < m:=by omega
          obtain ⟨ab,ao,rfl,hxa⟩:=(HIA.out.2.below hMk.bel).some (by omega)
          obtain ⟨a,hak⟩ : ∃ d,t.arcs[k]? = some d:=⟨_,List.getElem?_eq_getElem (by have:=HAL.out; omega)⟩
          have hgd : t.arcs.getD k a0 = a:=by simp [List.getD,hak]
          have hwi:=HS.out.wide a (List.mem_of_getElem? hak)
          have hwt:=HS.out.wt a (List.mem_of_getElem? hak)
          obtain ⟨s,hs⟩ : ∃ s : Nat,a.src = (s : Int):=⟨a.src.toNat,by omega⟩
          obtain ⟨d,hd⟩ : ∃ d : Nat,a.dst = (d : Int):=⟨a.dst.toNat,by omega⟩
          obtain ⟨y,hy⟩ : ∃ y,a.inp = y:=⟨_,rfl⟩
          have hsN : s < N:=by omega
          have hdN : d < N:=by omega
          have hsi : (s : Int) < N:=by omega
          have hdi : (d : Int) < N:=by omega
          have c0:=hxa.c0 k hlt2
          have c1:=hxa.c1 k hlt2
          have c2:=hxa.c2 k hlt2
          have c3:=hxa.c3 k hlt2
          have c4:=hxa.c4 k hlt2
          rw [hgd] at c0 c1 c2 c3 c4
          rw [hs] at c0
          rw [hd] at c3
          rw [hy] at c1
          have hlti : (i : Int) < ws.length:=by omega
          have q0:=hMk.cf.2.2.2
          obtain ⟨r,hr⟩ : ∃ r,r = behL V N (t.arcs.take k) c:=⟨_,rfl⟩
          have HBE : Hid (behL V N (t.arcs.take (k + 1)) c = if y = (c : Int) + 1 /\ 0 <= gI V s then r.set d (lessC (gI r d) (gI V s + a.wt)) else r):=by
           have h:=behL_take (N:=N) (j:=c) HV.out.2.2.2.1.2.1 (fun b hb => ⟨(HS.out.wide b hb).2.1.1,(HS.out.wide b hb).2.1.2,(HS.out.wide b hb).2.2.1⟩) hak
           rw [<- hr,hs,hd,hy,Int.toNat_natCast,Int.toNat_natCast] at h
           exact h
          have HGB : Hid (goesB V c (t.arcs.take (k + 1)) = (goesB V c (t.arcs.take k) || (decide (y = (c : Int) + 1) && decide (0 <= gI V s)))):=by
           have h:=goesB_take (at':=V) (j:=c) hak
           rw [hs,hy,Int.toNat_natCast] at h
           exact h
          rw [<- hr] at hNk
          have hbB:=bel_up (bel_self wr) (.cells #[.int .i64 (s : Int),.int .i64 y,.int .i64 a.out,.int .i64 (d : Int),.int .i64 a.wt] 54)
          have hMB:=hMk.below hbB
          have x4:=hMB.c4
          rw [hlc] at x4
          have xr:=own_cell hMB.oC HG.out.1
          have xv:=((HG.out.2.below hbk).below hbB).cell s hsN
          have b0:=new_cell wr #[.int .i64 (s : Int),.int .i64 y,.int .i64 a.out,.int .i64 (d : Int),.int .i64 a.wt] 54 wr.heap.size 0 (.int .i64 (s : Int)) rfl rfl
          have b1:=new_cell wr #[.int .i64 (s : Int),.int .i64 y,.int .i64 a.out,.int .i64 (d : Int),.int .i64 a.wt] 54 wr.heap.size 1 (.int .i64 y) rfl rfl
          have b3:=new_cell wr #[.int .i64 (s : Int),.int .i64 y,.int .i64 a.out,.int .i64 (d : Int),.int .i64 a.wt] 54 wr.heap.size 3 (.int .i64 (d : Int)) rfl rfl
          have b4:=new_cell wr #[.int .i64 (s : Int),.int .i64 y,.int .i64 a.out,.int .i64 (d : Int),.int .i64 a.wt] 54 wr.heap.size 4 (.int .i64 a.wt) rfl rfl
          have HNB:=hid_of (hNk.below hbB)
          have HBB:=hid_of (bel_on hbk hbB)
          clear hMk hMB hxa hgd hak hNk hbk hbB hwi hr hy hs hd
          by_cases h1 : y = (c : Int) + 1
          ·subst h1
           by_cases h2 : 0 <= gI V s
           ·have HR : Hid (goesB V c (t.arcs.take (k + 1)) = true /\ behL V N (t.arcs.take (k + 1)) c = r.set d (lessC (gI r d) (gI V s + a.wt))):=⟨by rw [HGB.out]; simp [h2],by rw [HBE.out,if_pos ⟨rfl,h2⟩]⟩
            have hvb:=HV.out.2.2.2.2 s
            have hwr : IntKind.i64.wrap (gI V s + a.wt) = gI V s + a.wt:=wrap_in _ (by omega) (by have : (i : Int) * 1000000000 <= 200000000000:=(by omega); omega)
            clear hvb
            go_wp2
            refine wp_region_quiet_lit (by kernel_rfl) (by kernel_rfl) ?_
            repeat (first | ((with_unfolding_none refine quietY ?hy (fun K hK => ?_)); (case hy => exact rfl); go_simp; (with_unfolding_none refine hK _ ?_); clear hK K) | ((with_unfolding_none refine quietN ?hy (fun K hK => ?_)); (case hy => exact rfl); go_simp; (with_unfolding_none refine hK _ ?_); clear hK K))
            refine wpQuiet_nil ?_
            intro _ hw'
            obtain ⟨nq,hw''⟩:=hw'
            subst hw''
            go_wp2
            obtain ⟨Wq,hWq⟩ : ∃ W,W = ((wr.alloc (.cells #[.int .i64 (s : Int),.int .i64 ((c : Int) + 1),.int .i64 a.out,.int .i64 (d : Int),.int .i64 a.wt] 54)).drewN nq).drew:=⟨_,rfl⟩
            have hbq : Below (wr.alloc (.cells #[.int .i64 (s : Int),.int .i64 ((c : Int) + 1),.int .i64 a.out,.int .i64 (d : Int),.int .i64 a.wt] 54)).heap.size (wr.alloc (.cells #[.int .i64 (s : Int),.int .i64 ((c : Int) + 1),.int .i64 a.out,.int .i64 (d : Int),.int .i64 a.wt] 54)) Wq:=by rw [hWq]; exact (bel_drewN (bel_self _) nq).drew
            have hNq:=HNB.out.below hbq
            have hBq:=bel_on HBB.out hbq
            have hS0 : (fun wx : World => wx.cell? ⟨wr.heap.size,3,none⟩ = some (.int .i64 (d : Int)) /\ wx.cell? ⟨wr.heap.size,0,none⟩ = some (.int .i64 (s : Int)) /\ wx.cell? ⟨wr.heap.size,4,none⟩ = some (.int .i64 a.wt) /\ wx.cell? ⟨w3.heap.size,4,none⟩ = some (.slice (some ⟨gC,0,none⟩) ws.length kC) /\ wx.cell? ⟨gC,i,none⟩ = some (.slice (some ⟨G,0,none⟩) N cap) /\ wx.cell? ⟨G,s,none⟩ = some (.int .i64 (gI V s)) /\ wx.cell? ⟨wA.heap.size,d,none⟩ = some (.int .i64 (gI r d))) Wq:=⟨bel_c hbq b3,bel_c hbq b0,bel_c hbq b4,bel_c hbq x4,bel_c hbq xr,bel_c hbq xv,hNq.cell d hdN⟩
            have xz:=hNq.frz d
            clear b0 b1 b3 b4 x4 xr xv c0 c1 c2 c3 c4
            refine wp_region_noPanic ?_
            refine wp_region_U (fun wx => wx.cell? ⟨wr.heap.size,3,none⟩ = some (.int .i64 (d : Int)) /\ wx.cell? ⟨wr.heap.size,0,none⟩ = some (.int .i64 (s : Int)) /\ wx.cell? ⟨wr.heap.size,4,none⟩ = some (.int .i64 a.wt) /\ wx.cell? ⟨w3.heap.size,4,none⟩ = some (.slice (some ⟨gC,0,none⟩) ws.length kC) /\ wx.cell? ⟨gC,i,none⟩ = some (.slice (some ⟨G,0,none⟩) N cap) /\ wx.cell? ⟨G,s,none⟩ = some (.int .i64 (gI V s)) /\ wx.cell? ⟨wA.heap.size,d,none⟩ = some (.int .i64 (gI r d))) 22 (by kernel_rfl) (by rw [<- hWq]; exact hS0) (fun _ => ?_)
            rw [<- hWq]
            clear hWq
            refine tkU (i:=0) (v:=.slice (some ⟨wA.heap.size,0,none⟩) N N) rfl (by kernel_rfl) (fun _ _ _ h => h) (by rfl) hS0 (fun wl hSw => ?_) ?_
            ·(try dsimp only at hSw); obtain ⟨o0,o1,o2,o3,o4,o5,o6⟩:=hSw; go_simp
            refine tkU (i:=1) (v:=.pointer (some ⟨wr.heap.size,3,none⟩)) rfl (by kernel_rfl) (fun _ _ _ h => h) (by rfl) hS0 (fun wl hSw => ?_) ?_
            ·(try dsimp only at hSw); obtain ⟨o0,o1,o2,o3,o4,o5,o6⟩:=hSw; go_simp
            refine tkU (i:=2) (v:=.int .i64 (d : Int)) rfl (by kernel_rfl) (fun _ _ _ h => h) (by rfl) hS0 (fun wl hSw => ?_) ?_
            ·(try dsimp only at hSw); obtain ⟨o0,o1,o2,o3,o4,o5,o6⟩:=hSw; go_simp
            refine tkU (i:=3) (v:=.slice (some ⟨wA.heap.size,0,none⟩) N N) rfl (by kernel_rfl) (fun _ _ _ h => h) (by rfl) hS0 (fun wl hSw => ?_) ?_
            ·(try dsimp only at hSw); obtain ⟨o0,o1,o2,o3,o4,o5,o6⟩:=hSw; go_simp
            refine tkU (i:=4) (v:=.pointer (some ⟨wr.heap.size,3,none⟩)) rfl (by kernel_rfl) (fun _ _ _ h => h) (by rfl) hS0 (fun wl hSw => ?_) ?_
            ·(try dsimp only at hSw); obtain ⟨o0,o1,o2,o3,o4,o5,o6⟩:=hSw; go_simp
            refine tkU (i:=5) (v:=.int .i64 (d : Int)) rfl (by kernel_rfl) (fun _ _ _ h => h) (by rfl) hS0 (fun wl hSw => ?_) ?_
            ·(try dsimp only at hSw); obtain ⟨o0,o1,o2,o3,o4,o5,o6⟩:=hSw; go_simp
            refine tkU (i:=6) (v:=.pointer (some ⟨wA.heap.size,d,none⟩)) rfl (by kernel_rfl) (fun _ _ _ h => h) (by rfl) hS0 (fun wl hSw => ?_) ?_
            ·(try dsimp only at hSw); obtain ⟨o0,o1,o2,o3,o4,o5,o6⟩:=hSw; go_simp
            refine tkU (i:=7) (v:=.int .i64 (gI r d)) rfl (by kernel_rfl) (fun _ _ _ h => h) (by rfl) hS0 (fun wl hSw => ?_) ?_
            ·(try dsimp only at hSw); obtain ⟨o0,o1,o2,o3,o4,o5,o6⟩:=hSw; go_simp
            refine tkU (i:=8) (v:=.pointer (some ⟨w3.heap.size,4,none⟩)) rfl (by kernel_rfl) (fun _ _ _ h => h) (by rfl) hS0 (fun wl hSw => ?_) ?_
            ·(try dsimp only at hSw); obtain ⟨o0,o1,o2,o3,o4,o5,o6⟩:=hSw; go_simp
            refine tkU (i:=9) (v:=.slice (some ⟨gC,0,none⟩) ws.length kC) rfl (by kernel_rfl) (fun _ _ _ h => h) (by rfl) hS0 (fun wl hSw => ?_) ?_
            ·(try dsimp only at hSw); obtain ⟨o0,o1,o2,o3,o4,o5,o6⟩:=hSw; go_simp
            refine tkU (i:=10) (v:=.int .i64 (i : Int)) rfl (by kernel_rfl) (fun _ _ _ h => h) (by rfl) hS0 (fun wl hSw => ?_) ?_
            ·(try dsimp only at hSw); obtain ⟨o0,o1,o2,o3,o4,o5,o6⟩:=hSw; go_simp
            refine tkU (i:=11) (v:=.pointer (some ⟨gC,i,none⟩)) rfl (by kernel_rfl) (fun _ _ _ h => h) (by rfl) hS0 (fun wl hSw => ?_) ?_
            ·(try dsimp only at hSw); obtain ⟨o0,o1,o2,o3,o4,o5,o6⟩:=hSw; go_simp
            refine tkU (i:=12) (v:=.slice (some ⟨G,0,none⟩) N cap) rfl (by kernel_rfl) (fun _ _ _ h => h) (by rfl) hS0 (fun wl hSw => ?_) ?_
            ·(try dsimp only at hSw); obtain ⟨o0,o1,o2,o3,o4,o5,o6⟩:=hSw; go_simp
            refine tkU (i:=13) (v:=.pointer (some ⟨wr.heap.size,0,none⟩)) rfl (by kernel_rfl) (fun _ _ _ h => h) (by rfl) hS0 (fun wl hSw => ?_) ?_
            ·(try dsimp only at hSw); obtain ⟨o0,o1,o2,o3,o4,o5,o6⟩:=hSw; go_simp
            refine tkU (i:=14) (v:=.int .i64 (s : Int)) rfl (by kernel_rfl) (fun _ _ _ h => h) (by rfl) hS0 (fun wl hSw => ?_) ?_
            ·(try dsimp only at hSw); obtain ⟨o0,o1,o2,o3,o4,o5,o6⟩:=hSw; go_simp
            refine tkU (i:=15) (v:=.pointer (some ⟨G,s,none⟩)) rfl (by kernel_rfl) (fun _ _ _ h => h) (by rfl) hS0 (fun wl hSw => ?_) ?_
            ·(try dsimp only at hSw); obtain ⟨o0,o1,o2,o3,o4,o5,o6⟩:=hSw; go_simp
            refine tkU (i:=16) (v:=.int .i64 (gI V s)) rfl (by kernel_rfl) (fun _ _ _ h => h) (by rfl) hS0 (fun wl hSw => ?_) ?_
            ·(try dsimp only at hSw); obtain ⟨o0,o1,o2,o3,o4,o5,o6⟩:=hSw; go_simp
            refine tkU (i:=17) (v:=.pointer (some ⟨wr.heap.size,4,none⟩)) rfl (by kernel_rfl) (fun _ _ _ h => h) (by rfl) hS0 (fun wl hSw => ?_) ?_
            ·(try dsimp only at hSw); obtain ⟨o0,o1,o2,o3,o4,o5,o6⟩:=hSw; go_simp
            refine tkU (i:=18) (v:=.int .i64 a.wt) rfl (by kernel_rfl) (fun _ _ _ h => h) (by rfl) hS0 (fun wl hSw => ?_) ?_
            ·(try dsimp only at hSw); obtain ⟨o0,o1,o2,o3,o4,o5,o6⟩:=hSw; go_simp
            refine tkU (i:=19) (v:=.int .i64 (gI V s + a.wt)) rfl (by kernel_rfl) (fun _ _ _ h => h) (by rfl) hS0 (fun wl hSw => ?_) ?_
            ·(try dsimp only at hSw); obtain ⟨o0,o1,o2,o3,o4,o5,o6⟩:=hSw; go_simp
            refine wpAnyU_one (i:=20) rfl (by kernel_rfl) (fun K hK => ?_)
            go_simp
            refine (lessRef_any (gI r d) (gI V s + a.wt) _).mono ?_
            rintro e wq ⟨rfl,rfl⟩
            refine hK.out _ _ ⟨fun _ => hS0,?_⟩
            clear hK K
            refine tkU (i:=21) (v:=.pointer (some ⟨wA.heap.size,d,none⟩)) rfl (by kernel_rfl) (fun _ _ _ h => h) (by rfl) hS0 (fun wl hSw => ?_) ?_
            ·(try dsimp only at hSw); go_simp
            have o6:=hS0.2.2.2.2.2.2
            refine wpAnyU_one (i:=22) rfl (by kernel_rfl) (fun K hK => ?_)
            go_simp
            refine hK.out _ _ ⟨fun h => absurd rfl h,?_⟩
            clear hK K
            refine wpAnyU_done (by kernel_rfl) ?_ _
            refine NoPanic.normal ?_
            go_wp2
            go_roundw
            case rel => exact ⟨k + 1,by rw [HR.out.1],by go_num,by omega,by rw [HR.out.2]; exact hNq.set d _ hdN,hBq.setCell (p:=⟨wA.heap.size,d,none⟩) (Nat.le_refl _) _⟩
            case measure => simp [intOf]; omega
           ·have HR : Hid (goesB V c (t.arcs.take (k + 1)) = goesB V c (t.arcs.take k) /\ behL V N (t.arcs.take (k + 1)) c = r):=⟨by rw [HGB.out]; simp [h2],by rw [HBE.out,if_neg (fun h => h2 h.2)]⟩
            go_wp2
            refine wp_region_quiet_lit (by kernel_rfl) (by kernel_rfl) ?_
            repeat (first | ((with_unfolding_none refine quietY ?hy (fun K hK => ?_)); (case hy => exact rfl); go_simp; (with_unfolding_none refine hK _ ?_); clear hK K) | ((with_unfolding_none refine quietN ?hy (fun K hK => ?_)); (case hy => exact rfl); go_simp; (with_unfolding_none refine hK _ ?_); clear hK K))
            refine wpQuiet_nil ?_
            intro _ hw'
            obtain ⟨nq,hw''⟩:=hw'
            subst hw''
            go_wp2
            go_roundw
            case rel => exact ⟨k + 1,by rw [HR.out.1],by go_num,by omega,by rw [HR.out.2]; exact HNB.out.below (bel_drewN (bel_self _) nq),bel_drewN HBB.out nq⟩
            case measure => simp [intOf]; omega
          ·have h1b : (y == (c : Int) + 1) = false:=by simpa using h1
           have HR : Hid (goesB V c (t.arcs.take (k + 1)) = goesB V c (t.arcs.take k) /\ behL V N (t.arcs.take (k + 1)) c = r):=⟨by rw [HGB.out]; simp [h1],by rw [HBE.out,if_neg (fun h => h1 h.1)]⟩
           go_wp2
           refine wp_region_quiet_lit (by kernel_rfl) (by kernel_rfl) ?_
           repeat (first | ((with_unfolding_none refine quietY ?hy (fun K hK => ?_)); (case hy => exact rfl); go_simp; (with_unfolding_none refine hK _ ?_); clear hK K) | ((with_unfolding_none refine quietN ?hy (fun K hK => ?_)); (case hy => exact rfl); go_simp; (with_unfolding_none refine hK _ ?_); clear hK K))
           refine wpQuiet_nil ?_
           intro _ hw'
           obtain ⟨nq,hw''⟩:=hw'
           subst hw''
           go_wp2
           go_roundw
           case rel => exact ⟨k + 1,by rw [HR.out.1],by go_num,by omega,by rw [HR.out.2]; exact HNB.out.below (bel_drewN (bel_self _) nq),bel_drewN HBB.out nq⟩
           case measure => simp [intOf]; omega
         ·have hkm2 : k = m:=by omega
          subst hkm2
          have hki : ¬ (k : Int) < k:=by omega
          have HTK : Hid (t.arcs.take k = t.arcs):=List.take_of_length_le (by have:=HAL.out; omega)
          have q0:=hMk.cf.2.2.2
          rw [HTK.out] at hNk
          rw [HTK.out]
          cases hg : goesB V c t.arcs with
          | false =>
           have HTn:=hid_of (HT.out.none HV.out.1 HV.out.2.1 HS.out hg)
           have HMk:=hid_of hMk
           clear hMk hNk hbk
           go_wp2
           go_roundw
           case rel => exact ⟨c + 1,_,_,_,_,_,_,_,_,by go_num,by omega,hlt,hwl,HTn.out,HMk.out⟩
           case measure => simp [intOf]; omega
          | true =>
           have HTm:=hid_of (HT.out.more HV.out.1 HV.out.2.1 HS.out hc hg)
           have el2 : ps.length = ws.length:=HT.out.l2
           have el3 : ls.length = ws.length:=HT.out.l3
           obtain ⟨Wd,hWd⟩ : ∃ W,W = wr.drew:=⟨_,rfl⟩
           have hbd : Below wr.heap.size wr Wd:=by rw [hWd]; exact (bel_self wr).drew
           have hMd:=hMk.below hbd
           have hNd:=hNk.below hbd
           have hRd : RowAt Wd w3.heap.size N wA.heap.size (behL V N t.arcs c) (.slice (some ⟨gC,0,none⟩) ws.length kC) (.slice (some ⟨gP,0,none⟩) ws.length kP) (.slice (some ⟨gL,0,none⟩) ws.length kL):=⟨hNd,hnA,fun e => by have:=(HM.out.ownC _ (by rw [hlc]; exact e)).2; omega,fun e => by have:=(HM.out.ownP _ (by rw [el2]; exact e)).2; omega,fun e => by have:=(HM.out.ownL _ (by rw [el3]; exact e)).2; omega⟩
           rw [hlc,el2,el3] at hMd
           have hS0 : (fun wx : World => wx.cell? ⟨w3.heap.size,4,none⟩ = some (.slice (some ⟨gC,0,none⟩) ws.length kC) /\ wx.cell? ⟨w3.heap.size,5,none⟩ = some (.slice (some ⟨gP,0,none⟩) ws.length kP) /\ wx.cell? ⟨w3.heap.size,6,none⟩ = some (.slice (some ⟨gL,0,none⟩) ws.length kL)) Wd:=⟨hMd.c4,hMd.c5,hMd.c6⟩
           clear hMk hNk hbk hNd hbd
           go_wp2
           refine wp_region_noPanic ?_
           refine wp_region_F (fun wx => wx.cell? ⟨w3.heap.size,4,none⟩ = some (.slice (some ⟨gC,0,none⟩) ws.length kC) /\ wx.cell? ⟨w3.heap.size,5,none⟩ = some (.slice (some ⟨gP,0,none⟩) ws.length kP) /\ wx.cell? ⟨w3.heap.size,6,none⟩ = some (.slice (some ⟨gL,0,none⟩) ws.length kL)) [16,18,20] (by kernel_rfl) (by rw [<- hWd]; exact hS0) (fun _ => ?_)
           rw [<- hWd]
           clear hWd
           refine tkF (i:=0) (v:=.pointer (some ⟨w3.heap.size,4,none⟩)) rfl (by kernel_rfl) (fun _ _ _ h => h) (by rfl) hS0 (fun wl hSw => ?_) ?_
           ·(try dsimp only at hSw); obtain ⟨u4,u5,u6⟩:=hSw; go_simp
           refine tkF (i:=1) (v:=.slice (some ⟨gC,0,none⟩) ws.length kC) rfl (by kernel_rfl) (fun _ _ _ h => h) (by rfl) hS0 (fun wl hSw => ?_) ?_
           ·(try dsimp only at hSw); obtain ⟨u4,u5,u6⟩:=hSw; go_simp
           refine tkF (i:=2) (v:=.slice (some ⟨wA.heap.size,0,none⟩) N N) rfl (by kernel_rfl) (fun _ _ _ h => h) (by rfl) hS0 (fun wl hSw => ?_) ?_
           ·(try dsimp only at hSw); obtain ⟨u4,u5,u6⟩:=hSw; go_simp
           refine tkF (i:=5) (v:=.pointer (some ⟨w3.heap.size,5,none⟩)) rfl (by kernel_rfl) (fun _ _ _ h => h) (by rfl) hS0 (fun wl hSw => ?_) ?_
           ·(try dsimp only at hSw); obtain ⟨u4,u5,u6⟩:=hSw; go_simp
           refine tkF (i:=6) (v:=.slice (some ⟨gP,0,none⟩) ws.length kP) rfl (by kernel_rfl) (fun _ _ _ h => h) (by rfl) hS0 (fun wl hSw => ?_) ?_
           ·(try dsimp only at hSw); obtain ⟨u4,u5,u6⟩:=hSw; go_simp
           refine wpAnyF_free (i:=7) (v:=.int .i64 (i : Int)) rfl (by kernel_rfl) (by kernel_rfl) (by kernel_rfl) (by kernel_rfl) (fun _ _ _ h => h) (Or.inl ⟨by rfl,fun wl hSw => ?_⟩) hS0 ?_
           ·(try dsimp only at hSw); go_simp
           refine tkF (i:=10) (v:=.pointer (some ⟨w3.heap.size,6,none⟩)) rfl (by kernel_rfl) (fun _ _ _ h => h) (by rfl) hS0 (fun wl hSw => ?_) ?_
           ·(try dsimp only at hSw); obtain ⟨u4,u5,u6⟩:=hSw; go_simp
           refine tkF (i:=11) (v:=.slice (some ⟨gL,0,none⟩) ws.length kL) rfl (by kernel_rfl) (fun _ _ _ h => h) (by rfl) hS0 (fun wl hSw => ?_) ?_
           ·(try dsimp only at hSw); obtain ⟨u4,u5,u6⟩:=hSw; go_simp
           refine wpAnyF_free (i:=12) (v:=.int .i64 ((c : Int) + 1)) rfl (by kernel_rfl) (by kernel_rfl) (by kernel_rfl) (by kernel_rfl) (fun _ _ _ h => h) (Or.inl ⟨by rfl,fun wl hSw => ?_⟩) hS0 ?_
           ·(try dsimp only at hSw); go_simp
           refine act_gen (fun a0 ha0 => ?_)
           have e4 : a0.eval (.tmp 4) = .pointer (some ⟨w3.heap.size,0,none⟩):=by rw [ha0]; simp [Act.eval,Act.put]
           have e113 : a0.eval (.tmp 113) = .slice (some ⟨gC,0,none⟩) ws.length kC:=by rw [ha0]; simp [Act.eval,Act.put]
           have e114 : a0.eval (.tmp 114) = .slice (some ⟨wA.heap.size,0,none⟩) N N:=by rw [ha0]; simp [Act.eval,Act.put]
           have e118 : a0.eval (.tmp 118) = .slice (some ⟨gP,0,none⟩) ws.length kP:=by rw [ha0]; simp [Act.eval,Act.put]
           have e119 : a0.eval (.tmp 119) = .int .i64 (i : Int):=by rw [ha0]; simp [Act.eval,Act.put]
           have e123 : a0.eval (.tmp 123) = .slice (some ⟨gL,0,none⟩) ws.length kL:=by rw [ha0]; simp [Act.eval,Act.put]
           have e124 : a0.eval (.tmp 124) = .int .i64 ((c : Int) + 1):=by rw [ha0]; simp [Act.eval,Act.put]
           have esz : a0.tmps.size = 136:=by rw [ha0]; simp [Act.put]
           refine wpAnyF_at (listed':=flowL ((((((((((Array.replicate 21 false).setIfInBounds 0 true).setIfInBounds 1 true).setIfInBounds 2 true).setIfInBounds 5 true).setIfInBounds 6 true).setIfInBounds 7 true).setIfInBounds 10 true).setIfInBounds 11 true).setIfInBounds 12 true) [0,3,4,9,14] 8 13 15 1 false false false) (fuel':=8 - 1 + 5) ?_ (by kernel_rfl) (by kernel_rfl)
           have hfr : ∀ (x : Nat -> Value) (n : Nat),n ∉ [115,116,120,121,125,126,127] -> (frameF a0 [115,116,120,121,125,126,127] x).eval (.tmp n) = a0.eval (.tmp n):=fun x n hn => frame_no _ a0 hn
           have hini : FI w3 Wd w3.heap.size N (s0 : Int) (.slice fa3 fn3 fc3) (.slice aa3 k ac3) (.slice (some ⟨gC,0,none⟩) ws.length kC) (.slice (some ⟨gP,0,none⟩) ws.length kP) (.slice (some ⟨gL,0,none⟩) ws.length kL) (behL V N t.arcs c) (i : Int) ((c : Int) + 1) LC cs ps ls ((frameF a0 [115,116,120,121,125,126,127] (fun d => a0.tmps.getD d undef)).eval (.tmp 114)) (a0.tmps.getD 115 undef) (a0.tmps.getD 116 undef) (a0.tmps.getD 120 undef) (a0.tmps.getD 121 undef) (a0.tmps.getD 125 undef) (a0.tmps.getD 126 undef) 1 false false:=⟨hMd,fun _ => ⟨wA.heap.size,N,(hfr _ 114 (by decide)).trans e114,fun _ => hRd⟩,fun h => (by omega),fun h => (by cases h),fun h => (by cases h)⟩
           rw [<- frame_self [115,116,120,121,125,126,127] a0]
           refine grow3 (k0:=1) (f0:=5) (x:=fun d => a0.tmps.getD d undef) (w0:=w3) (Q:=w3.heap.size) (N:=N) (sta:=(s0 : Int)) (fin:=.slice fa3 fn3 fc3) (arcs:=.slice aa3 k ac3) (cv:=.slice (some ⟨gC,0,none⟩) ws.length kC) (pv:=.slice (some ⟨gP,0,none⟩) ws.length kP) (lv:=.slice (some ⟨gL,0,none⟩) ws.length kL) (V:=behL V N t.arcs c) (vp:=(i : Int)) (vl:=(c : Int) + 1) (LC:=LC) (cs:=cs) (LP:=ps) (LL:=ls) (sr:=114) (uC:=113) (uP:=118) (uL:=123) (sC:=115) (tC:=116) (sP:=120) (tP:=121) (sL:=125) (tL:=126) (sq:=127) (xp:=.tmp 119) (xl:=.tmp 124) ?opz (by decide) ?sz ?chk e113 e118 e123 e4 (fun x => (hfr x 119 (by decide)).trans e119) (fun x => (hfr x 124 (by decide)).trans e124) (fun o a W K => wp_field1 o a W K) ⟨by omega,by omega,by omega⟩ ?hS (fun h => absurd h (by decide)) ?fin hini
           case sz => intro d hd; rw [esz]; simp at hd; omega
           case hS =>
            rintro a W k' bp bl bq ⟨x,_,hI,_⟩
            exact ⟨hI.wm.c4,hI.wm.c5,hI.wm.c6⟩
           case opz => exact ⟨⟨3,_,rfl,rfl,rfl,rfl,rfl⟩,⟨4,_,rfl,rfl,rfl,rfl,rfl⟩,⟨9,_,rfl,rfl,rfl,rfl,rfl⟩,⟨14,_,rfl,rfl,rfl,rfl,rfl⟩,⟨_,rfl,rfl,rfl,rfl⟩,⟨_,rfl,rfl,rfl,rfl⟩,⟨_,rfl,rfl,rfl,rfl⟩,by decide,by decide,by decide,by decide⟩
           case chk => kernel_rfl
           case fin =>
            intro x W hM hq
            rw [hfr x 114 (by decide),e114] at hM
            clear hini hfr e4 e113 e114 e118 e119 e123 e124 esz hMd hRd hS0
            obtain ⟨g1,k1,h116⟩:=Go.Joins.ownsRow_form hM.oC (by simp)
            obtain ⟨g2,k2,h121⟩:=Go.Joins.ownsRow_form hM.oP (by simp)
            obtain ⟨g3,k3,h126⟩:=Go.Joins.ownsRow_form hM.oL (by simp)
            have el1 : (LC ++ [Value.slice (some ⟨wA.heap.size,0,none⟩) N N]).length = ws.length + 1:=by simp [hlc]
            have el4 : (ps ++ [(i : Int)]).length = ws.length + 1:=by simp [el2]
            have el5 : (ls ++ [(c : Int) + 1]).length = ws.length + 1:=by simp [el3]
            rw [el1] at h116
            rw [el4] at h121
            rw [el5] at h126
            rw [h116,h121,h126] at hM
            have c4:=hM.c4
            have z4:=hM.frz 4
            have hM1:=hM.set4
            have c5:=hM.c5
            have z5:=hM.frz 5
            have hM2:=hM1.set5
            have c6:=hM.c6
            have z6:=hM.frz 6
            have HM3:=hid_of hM2.set6
            have HMW:=hid_of hM
            rw [ha0]
            clear ha0 hM1 hM2
            simp only [frameF]
            refine wpAnyF_one (i:=16) rfl (by kernel_rfl) (fun K hK => ?_)
            go_simp
            refine hK.out _ _ ⟨fun h => absurd h (unl_no (by kernel_rfl)),?_⟩
            clear hK K
            refine wpAnyF_one (i:=17) rfl (by kernel_rfl) (fun K hK => ?_)
            go_simp
            refine hK.out _ _ ⟨fun h => absurd h (unl_no (by kernel_rfl)),?_⟩
            clear hK K
            refine wpAnyF_one (i:=18) rfl (by kernel_rfl) (fun K hK => ?_)
            go_simp
            refine hK.out _ _ ⟨fun h => absurd h (unl_no (by kernel_rfl)),?_⟩
            clear hK K
            refine wpAnyF_one (i:=19) rfl (by kernel_rfl) (fun K hK => ?_)
            go_simp
            refine hK.out _ _ ⟨fun h => absurd h (unl_no (by kernel_rfl)),?_⟩
            clear hK K
            refine wpAnyF_one (i:=20) rfl (by kernel_rfl) (fun K hK => ?_)
            go_simp
            refine hK.out _ _ ⟨fun h => absurd h (unl_no (by kernel_rfl)),?_⟩
            clear hK K
            refine wpAnyF_done (by kernel_rfl) ?_ _
            refine NoPanic.normal ?_
            by_cases hgt : 200 < ws.length + 1
            ·have hgi : (200 : Int) < (ws.length : Int) + 1:=by omega
             obtain ⟨Wz,hWz⟩ : ∃ Wz,Wz = ((W.setCell ⟨w3.heap.size,4,none⟩ (.slice (some ⟨g1,0,none⟩) (ws.length + 1) k1)).setCell ⟨w3.heap.size,5,none⟩ (.slice (some ⟨g2,0,none⟩) (ws.length + 1) k2)).setCell ⟨w3.heap.size,6,none⟩ (.slice (some ⟨g3,0,none⟩) (ws.length + 1) k3):=⟨_,rfl⟩
             have hMz:=HM3.out
             rw [<- hWz] at hMz ⊢
             clear hWz hM c4 c5 c6 z4 z5 z6
             have hzW : Wz.heap[w.heap.size + 1]? = _:=(hMz.bel.block _ hQR).trans HZ3.out
             have zz0:=Go.Joins.cell_of_block hzW 0
             have zz1:=Go.Joins.cell_of_block hzW 1
             have zz2:=Go.Joins.cell_of_block hzW 2
             have zz3:=Go.Joins.cell_of_block hzW 3
             have zz4:=Go.Joins.cell_of_block hzW 4
             have zz5:=Go.Joins.cell_of_block hzW 5
             have zz6:=Go.Joins.cell_of_block hzW 6
             have yy0:=Go.Joins.unfrozen_of_block hzW 0
             have yy1:=Go.Joins.unfrozen_of_block hzW 1
             have yy2:=Go.Joins.unfrozen_of_block hzW 2
             have yy3:=Go.Joins.unfrozen_of_block hzW 3
             have yy4:=Go.Joins.unfrozen_of_block hzW 4
             have yy5:=Go.Joins.unfrozen_of_block hzW 5
             have yy6:=Go.Joins.unfrozen_of_block hzW 6
             have d0:=hMz.cf.1; have d1:=hMz.cf.2.1; have d2:=hMz.cf.2.2.1; have d3:=hMz.cf.2.2.2; have d4:=hMz.c4; have d5:=hMz.c5; have d6:=hMz.c6
             obtain ⟨t0,t1,t2,t3,t4,t5,t6⟩:=set7_cells (.int .i64 (N : Int)) (.int .i64 (s0 : Int)) (.slice fa3 fn3 fc3) (.slice aa3 k ac3) (.slice (some ⟨g1,0,none⟩) (ws.length + 1) k1) (.slice (some ⟨g2,0,none⟩) (ws.length + 1) k2) (.slice (some ⟨g3,0,none⟩) (ws.length + 1) k3) hzW
             go_wp2
             exact bodyPost_ret (v:=.tuple #[.agg #[.int .i64 (N : Int),.int .i64 (s0 : Int),.slice fa3 fn3 fc3,.slice aa3 k ac3,.slice (some ⟨g1,0,none⟩) (ws.length + 1) k1,.slice (some ⟨g2,0,none⟩) (ws.length + 1) k2,.slice (some ⟨g3,0,none⟩) (ws.length + 1) k3],.bool false]) (by simp [results,Try.results12,go_sem, *]) rfl ⟨false,w3,Wz,fa3,fn3,fc3,_,_,ac3,_,_,_,_,_,_,_,_,_,_,rfl,bel_set7 _ _ _ _ _ _ _ (bel_on HB3.out hMz.bel) (by omega),HFT.out,HIA.out.2,hQR,HTm.out,hMz,fun q hq => far7 _ _ _ _ _ _ _ hq,fun h => (by cases h),fun _ => (by rw [List.length_append,List.length_singleton]; exact hgt)⟩
            ·have hgi : ¬ (200 : Int) < (ws.length : Int) + 1:=by omega
             clear hM
             go_wp2
             go_roundw
             case rel => exact ⟨c + 1,_,_,_,_,_,_,_,_,by go_num,by omega,by rw [List.length_append]; omega,by rw [List.length_append,List.length_singleton]; omega,HTm.out,HM3.out⟩
             case measure => simp [intOf]; omega
     ·have hc2 : c = 9:=by omega
      subst hc2
      have HTn:=hid_of hT.next
      have HM:=hid_of hM
      clear hM hT
      go_wp2
      go_roundw
      case rel => exact ⟨i + 1,_,_,_,_,_,_,_,_,by go_num,by omega,hwl,HTn.out,HM.out⟩
      case measure => simp [intOf]; omega
   ·have hil2 : i = ws.length:=by omega
    subst hil2
    have hlti : ¬ (ws.length : Int) < ws.length:=by omega
    have el2 : ps.length = ws.length:=hT.l2
    have el3 : ls.length = ws.length:=hT.l3
    obtain ⟨gP,kP,rfl⟩:=Go.Joins.ownsRow_form hM.oP (by omega)
    obtain ⟨gL,kL,rfl⟩:=Go.Joins.ownsRow_form hM.oL (by omega)
    rw [hlc,el2,el3] at hM
    clear c4
    have hzW : wr.heap[w.heap.size + 1]? = _:=(hM.bel.block _ hQR).trans HZ3.out
    have zz0:=Go.Joins.cell_of_block hzW 0
    have zz1:=Go.Joins.cell_of_block hzW 1
    have zz2:=Go.Joins.cell_of_block hzW 2
    have zz3:=Go.Joins.cell_of_block hzW 3
    have zz4:=Go.Joins.cell_of_block hzW 4
    have zz5:=Go.Joins.cell_of_block hzW 5
    have zz6:=Go.Joins.cell_of_block hzW 6
    have yy0:=Go.Joins.unfrozen_of_block hzW 0
    have yy1:=Go.Joins.unfrozen_of_block hzW 1
    have yy2:=Go.Joins.unfrozen_of_block hzW 2
    have yy3:=Go.Joins.unfrozen_of_block hzW 3
    have yy4:=Go.Joins.unfrozen_of_block hzW 4
    have yy5:=Go.Joins.unfrozen_of_block hzW 5
    have yy6:=Go.Joins.unfrozen_of_block hzW 6
    have d0:=hM.cf.1; have d1:=hM.cf.2.1; have d2:=hM.cf.2.2.1; have d3:=hM.cf.2.2.2; have d4:=hM.c4; have d5:=hM.c5; have d6:=hM.c6
    obtain ⟨t0,t1,t2,t3,t4,t5,t6⟩:=set7_cells (.int .i64 (N : Int)) (.int .i64 (s0 : Int)) (.slice fa3 fn3 fc3) (.slice aa3 m ac3) (.slice (some ⟨gC,0,none⟩) ws.length kC) (.slice (some ⟨gP,0,none⟩) ws.length kP) (.slice (some ⟨gL,0,none⟩) ws.length kL) hzW
    go_wp2
    exact bodyPost_ret (v:=.tuple #[.agg #[.int .i64 (N : Int),.int .i64 (s0 : Int),.slice fa3 fn3 fc3,.slice aa3 m ac3,.slice (some ⟨gC,0,none⟩) ws.length kC,.slice (some ⟨gP,0,none⟩) ws.length kP,.slice (some ⟨gL,0,none⟩) ws.length kL],.bool true]) (by simp [results,Try.results12,go_sem, *]) rfl ⟨true,w3,wr,fa3,fn3,fc3,_,_,ac3,_,_,_,_,_,_,_,_,_,_,rfl,bel_set7 _ _ _ _ _ _ _ (bel_on HB3.out hM.bel) (by omega),HFT.out,HIA.out.2,hQR,hT,hM,fun q hq => far7 _ _ _ _ _ _ _ hq,fun _ => ⟨rfl,rfl,hwl⟩,fun h => (by cases h)⟩
end Go.Proofs.Yteehgcbjmdideab
