/- Rows of whatever values; 'IsRound' of the document. (Made by wip/gen/dtd.py.) -/
import Derived.Test.YteehgcbjmdideabVM07
import Derived.Test.YteehgcbjmdideabVM08
import Derived.Test.YteehgcbjmdideabVM05
set_option maxRecDepth 100000
namespace Go.Proofs.Yteehgcbjmdideab
open Go.RowKit
attribute [local go_sem ↓] Go.wp_at_zero Go.wp_at_succ
structure ValsAt (w : World) (g n : Nat) (F : Nat -> Value) : Prop where
 cell : ∀ i,i < n -> w.cell? ⟨g,i,none⟩ = some (F i)
 frz : ∀ i,w.frozen? ⟨g,i,none⟩ = false
 lt : g < w.heap.size
def updV (F : Nat -> Value) (i : Nat) (v : Value) : Nat -> Value:=fun k => if k = i then v else F k
section
variable {w w' : World} {g n : Nat} {F : Nat -> Value}
theorem ValsAt.below (h : ValsAt w g n F) (hb : Below w.heap.size w w') : ValsAt w' g n F :=
 ⟨fun i hi => bel_c hb (h.cell i hi),fun i => (hb.frozen (p:=⟨g,i,none⟩) h.lt).trans (h.frz i),Nat.lt_of_lt_of_le h.lt hb.size⟩
theorem ValsAt.set (h : ValsAt w g n F) (i : Nat) (v : Value) (hi : i < n) : ValsAt (w.setCell ⟨g,i,none⟩ v) g n (updV F i v):=by
 refine ⟨fun k hk => ?_,fun k => by rw [World.frozen?_setCell]; exact h.frz k,by simpa [World.setCell] using h.lt⟩
 unfold updV
 by_cases e : k = i
 ·subst e
  rw [if_pos rfl]
  exact World.cell?_setCell_same _ _ _ (h.cell k hk)
 ·rw [if_neg e,World.cell?_setCell_other _ _ _ _ (by intro e1; apply e; injection e1 with _ e2; exact e2.symm)]
  exact h.cell k hk
theorem ValsAt.other {k i : Nat} {v : Value} (h : ValsAt w g n F) (hk : g ≠ k) : ValsAt (w.setCell ⟨k,i,none⟩ v) g n F :=
 ⟨fun j hj => by rw [set_far hk]; exact h.cell j hj,fun j => by rw [World.frozen?_setCell]; exact h.frz j,by simpa [World.setCell] using h.lt⟩
theorem ValsAt.block (h : ValsAt w g n F) (hb : w'.heap[g]? = w.heap[g]?) (hl : g < w'.heap.size) : ValsAt w' g n F :=
 ⟨fun i hi => (World.cell?_of_block (w:=w) (a:=⟨g,i,none⟩) hb).trans (h.cell i hi),fun i => by
  have:=h.frz i
  simp only [World.frozen?] at this ⊢
  rw [hb]
  exact this,hl⟩
theorem ValsAt.grown {row : Option Nat} (h : ValsAt w g n F) (hg : w.grownBy w' row) (hne : some g ≠ row) : ValsAt w' g n F :=
 h.block (hg.block g h.lt hne) (Nat.lt_of_lt_of_le h.lt hg.size)
theorem ValsAt.cong {G : Nat -> Value} (h : ValsAt w g n F) (he : ∀ i,i < n -> F i = G i) : ValsAt w g n G :=
 ⟨fun i hi => by rw [<- he i hi]; exact h.cell i hi,h.frz,h.lt⟩
end
theorem made_vals (w : World) (z : Value) (n t : Nat) : ValsAt (w.alloc (.cells (madeCells #[z] n) t)) w.heap.size n (fun _ => z):=by
 have h : (w.alloc (.cells (madeCells #[z] n) t)).heap[w.heap.size]? = some (.cells (madeCells #[z] n) t (0,0)):=heap_alloc_new w _
 refine ⟨fun i hi => ?_,fun i => Go.Joins.unfrozen_of_block h i,heap_lt h⟩
 have hm : (madeCells #[z] n)[i]? = some z:=by
  unfold madeCells
  simp [hi,Nat.mod_one]
 rw [World.cell?]
 simp only [h]
 exact hm
theorem infoB : (Try.prog.info? 4).map (fun i => (i.zero,i.size,i.bytes)) = some (some (.bool false),1,1):=by kernel_rfl
def boolsV (B : Nat -> Bool) : Nat -> Value:=fun i => .bool (B i)
structure RW (w wr : World) (N : Nat) (sta : Int) (fin arcs : Value) : Prop where
 cf : CellsF wr w.heap.size (N : Int) sta fin arcs
 bel : Below w.heap.size w wr
theorem RW.below {w wr wx : World} {N : Nat} {sta : Int} {fin arcs : Value} (h : RW w wr N sta fin arcs) (hb : Below wr.heap.size wr wx) : RW w wx N sta fin arcs:=⟨h.cf.below hb,bel_on h.bel hb⟩
theorem RW.set {w wr : World} {N : Nat} {sta : Int} {fin arcs : Value} (h : RW w wr N sta fin arcs) {g i : Nat} {v : Value} (hg : w.heap.size < g) : RW w (wr.setCell ⟨g,i,none⟩ v) N sta fin arcs:=by
 have hX : w.heap.size ≠ g:=by omega
 exact ⟨⟨(set_far hX).trans h.cf.1,(set_far hX).trans h.cf.2.1,(set_far hX).trans h.cf.2.2.1,(set_far hX).trans h.cf.2.2.2⟩,h.bel.setCell (p:=⟨g,i,none⟩) (by show w.heap.size <= g; omega) _⟩
def RndRes (P : Prop) (w : World) (e : Ending) (w' : World) : Prop:=∃ b,e = .returned (.bool b) /\ (b = true ↔ P) /\ Below w.heap.size w w'
theorem rndRes_mk {P : Prop} {w w' : World} (b : Bool) (h : b = true ↔ P) (hb : Below w.heap.size w w') : RndRes P w (.returned (.bool b)) w':=⟨b,rfl,h,hb⟩
theorem edges_at {l : List ArcD} {i s t : Nat} {a : ArcD} (ha : l[i]? = some a) (hs : a.src = (s : Int)) (ht : a.dst = (t : Int)) : edgesE (l.take (i + 1)) = edgesE (l.take i) ++ [(s,t)]:=by
 unfold edgesE
 rw [List.take_add_one,ha,List.map_append]
 simp [hs,ht]
set_option maxHeartbeats 4000000 in
theorem isRound_any (f : FstD) (N : Nat) (fin arcs : Value) (w : World) (kf : Fine f) (hN : f.states = (N : Int)) (hf : ISlice w fin f.final) (ha : ASlice w arcs f.arcs) :
  Calls Try.prog 11 #[.agg #[.int .i64 (N : Int),.int .i64 f.start,fin,arcs]] w fun e w' => RndRes (RoundE (edgesE f.arcs) N) w e w':=by
 obtain ⟨fa,fn,fc,rfl,_,_⟩:=hf.lenOf
 obtain ⟨aa,m,ac,rfl,hal,_⟩:=ha.lenOf
 have hm3 : m <= 3000:=by have:=kf.many; omega
 have hN2 : N <= 200:=by have:=kf.s2; omega
 have HAR : Hid (∀ a ∈ f.arcs,∃ s t : Nat,a.src = (s : Int) /\ a.dst = (t : Int) /\ s < N /\ t < N):=fun a hm => by
  have h1:=(kf.arcs a hm).src
  have h2:=(kf.arcs a hm).dst
  simp [inB] at h1 h2
  exact ⟨a.src.toNat,a.dst.toNat,by omega,by omega,by omega,by omega⟩
 have HR : Hid (∀ W,Below w.heap.size w W -> ASlice W (.slice aa m ac) f.arcs):=fun W h => ha.below h
 have HL : Hid (f.arcs.length = m):=hal
 have hmk:=run_make_row' (P:=Try.prog) 56 4 (.bool false) 1 Try.underlying56 infoB rfl .i64 .i64 N (by omega) (by omega)
 obtain ⟨A,hA⟩ : ∃ A,A = w.alloc (.cells #[.int .i64 (N : Int),.int .i64 f.start,.slice fa fn fc,.slice aa m ac] 25):=⟨_,rfl⟩
 have hRA : RW w A N f.start (.slice fa fn fc) (.slice aa m ac):=by rw [hA]; exact ⟨cellsF_new _ _ _ _ _ _,bel_up (bel_self w) _⟩
 have hAs : A.heap.size = w.heap.size + 1:=by rw [hA]; exact one_size w _
 obtain ⟨W1,hW1⟩ : ∃ W,W = A.alloc (.cells (madeCells #[.bool false] N) 4):=⟨_,rfl⟩
 have hR1 : RW w W1 N f.start (.slice fa fn fc) (.slice aa m ac):=by rw [hW1]; exact hRA.below (bel_up (bel_self _) _)
 have hV1 : ValsAt W1 (w.heap.size + 1) N (boolsV fun v => decide (v < 0)):=by
  rw [hW1,<- hAs]
  exact (made_vals A (.bool false) N 4).cong fun i _ => by simp [boolsV]
 have HW1 : Hid (W1 = (w.alloc (.cells #[.int .i64 (N : Int),.int .i64 f.start,.slice fa fn fc,.slice aa m ac] 25)).alloc (.cells (madeCells #[.bool false] N) 4)):=by rw [<- hA]; exact hW1
 obtain ⟨g0,hg0⟩ : ∃ g,g = w.heap.size + 1:=⟨_,rfl⟩
 have HG0 : Hid (g0 = w.heap.size + 1):=hg0
 rw [<- hg0] at hV1
 have hgw : w.heap.size < g0:=by omega
 clear hA hW1 hRA hAs hf ha hal kf hN hg0
 go_enter Try.func11,Try.ntmps11
 go_wp2
 rw [<- HW1.out,<- HG0.out]
 clear HW1 HG0
 go_loopw [4] (fun t4 wx => ∃ n : Nat,n <= N /\ t4 = .int .i64 (n : Int) /\ RW w wx N f.start (.slice fa fn fc) (.slice aa m ac) /\ ValsAt wx g0 N (boolsV fun v => decide (v < n))) (fun t4 _ => N - (intOf t4).toNat)
 case atStart => exact ⟨0,Nat.zero_le _,rfl,hR1,hV1⟩
 case round =>
  clear hR1 hV1
  obtain ⟨n,hn,rfl,hR,hV⟩:=hrel
  obtain ⟨q0,q1,q2,q3⟩:=hR.cf
  have hnw : IntKind.i64.wrap ((n : Int) + 1) = (n : Int) + 1:=wrap_in _ (by omega) (by omega)
  by_cases hlt : n < N
  ·have hni : (n : Int) < N:=by omega
   have c0:=hV.cell n hlt
   have z0:=hV.frz n
   go_wp2
   go_roundw
   case rel =>
    refine ⟨n + 1,by omega,by go_num,hR.set hgw,(hV.set n _ hlt).cong fun i hi => ?_⟩
    unfold updV boolsV
    by_cases e : i = n
    ·rw [if_pos e,e]; simp
    ·rw [if_neg e]
     simp only [Value.bool.injEq,decide_eq_decide]
     omega
   case measure => simp [intOf]; omega
  ·obtain rfl : n = N:=by omega
   have hnl : ¬ ((n : Int) < n):=by omega
   have hV0 : ∃ B : Nat -> Bool,ValsAt wr g0 n (boolsV B) /\ ∀ v,v < n -> (B v = true ↔ endsAt (edgesE f.arcs) 0 v):=⟨_,hV,fun v hv => ⟨fun _ => trivial,fun _ => by simpa using hv⟩⟩
   clear hV
   obtain ⟨B0,hV0,hB0⟩:=hV0
   have HB0 : Hid (∀ v,v < n -> (B0 v = true ↔ endsAt (edgesE f.arcs) 0 v)):=hB0
   clear hB0
   go_wp2
   clear q0 q1 q2 q3
   go_loopw [3,5,6,7] (fun t3 t5 _ _ wx => ∃ (k g : Nat) (B : Nat -> Bool),k <= n /\ t3 = .slice (some ⟨g,0,none⟩) n n /\ t5 = .int .i64 (k : Int) /\ w.heap.size < g /\ RW w wx n f.start (.slice fa fn fc) (.slice aa m ac) /\ ValsAt wx g n (boolsV B) /\ ∀ v,v < n -> (B v = true ↔ endsAt (edgesE f.arcs) k v)) (fun _ t5 _ _ _ => n - (intOf t5).toNat)
   case atStart => exact ⟨0,g0,B0,Nat.zero_le _,rfl,rfl,hgw,hR,hV0,HB0.out⟩
   case round =>
    clear hR hV0 HB0
    obtain ⟨k,g,B,hk,rfl,rfl,hg,hR,hV,hB⟩:=hrel
    have HB : Hid (∀ v,v < n -> (B v = true ↔ endsAt (edgesE f.arcs) k v)):=hB
    clear hB
    obtain ⟨q0,q1,q2,q3⟩:=hR.cf
    have hkw : IntKind.i64.wrap ((k : Int) + 1) = (k : Int) + 1:=wrap_in _ (by omega) (by omega)
    by_cases hlk : k < n
    ·have hki : (k : Int) < n:=by omega
     obtain ⟨W2,hW2⟩ : ∃ W,W = wr.alloc (.cells (madeCells #[.bool false] n) 4):=⟨_,rfl⟩
     obtain ⟨h,hh⟩ : ∃ h,h = wr.heap.size:=⟨_,rfl⟩
     have hR2 : RW w W2 n f.start (.slice fa fn fc) (.slice aa m ac):=by rw [hW2]; exact hR.below (bel_up (bel_self _) _)
     have hVg : ValsAt W2 g n (boolsV B):=by rw [hW2]; exact hV.below (bel_up (bel_self _) _)
     have hVh : ValsAt W2 h n (boolsV fun _ => false):=by rw [hW2,hh]; exact made_vals wr (.bool false) n 4
     have hgh : g < h:=by rw [hh]; exact hV.lt
     have hhw : w.heap.size < h:=by omega
     have HW2 : Hid (W2 = wr.alloc (.cells (madeCells #[.bool false] n) 4) /\ h = wr.heap.size):=⟨hW2,hh⟩
     clear hW2 hh
     go_wp2
     rw [<- HW2.out.1,<- HW2.out.2]
     clear HW2 q0 q1 q2 q3 hR hV
     go_loopw [7] (fun t7 wx => ∃ i : Nat,i <= m /\ t7 = .int .i64 (i : Int) /\ RW w wx n f.start (.slice fa fn fc) (.slice aa m ac) /\ ValsAt wx g n (boolsV B) /\ ∃ C : Nat -> Bool,ValsAt wx h n (boolsV C) /\ ∀ v,v < n -> (C v = true ↔ ∃ u,(u,v) ∈ edgesE (f.arcs.take i) /\ B u = true)) (fun t7 _ => m - (intOf t7).toNat)
     case atStart => exact ⟨0,Nat.zero_le _,rfl,hR2,hVg,fun _ => false,hVh,fun v _ => by simp [edgesE]⟩
     case round =>
      clear hR2 hVg hVh
      obtain ⟨i,hi,rfl,hR,hVg,C,hVh,hC⟩:=hrel
      have HC : Hid (∀ v,v < n -> (C v = true ↔ ∃ u,(u,v) ∈ edgesE (f.arcs.take i) /\ B u = true)):=hC
      clear hC
      obtain ⟨q0,q1,q2,q3⟩:=hR.cf
      have hiw : IntKind.i64.wrap ((i : Int) + 1) = (i : Int) + 1:=wrap_in _ (by omega) (by omega)
      by_cases hli : i < m
      ·have hii : (i : Int) < m:=by omega
       obtain ⟨ab,ao,rfl,hxa⟩:=(HR.out wr hR.bel).some (by omega)
       obtain ⟨a,hai⟩ : ∃ d,f.arcs[i]? = some d:=⟨_,List.getElem?_eq_getElem (by have:=HL.out; omega)⟩
       have hgd : f.arcs.getD i a0 = a:=by simp [List.getD,hai]
       obtain ⟨s,t,hs,ht,hsn,htn⟩:=HAR.out a (List.mem_of_getElem? hai)
       obtain ⟨Wd,hWd⟩ : ∃ W,W = wr.drew:=⟨_,rfl⟩
       have hbd : Below wr.heap.size wr Wd:=by rw [hWd]; exact (bel_self wr).drew
       have c0:=bel_c hbd (hxa.c0 i hli)
       have c3:=bel_c hbd (hxa.c3 i hli)
       rw [hgd,hs] at c0
       rw [hgd,ht] at c3
       have xg:=(hVg.below hbd).cell s hsn
       have xh:=(hVh.below hbd).cell t htn
       have hfz:=(hVh.below hbd).frz t
       have x3:=(hR.cf.below hbd).2.2.2
       obtain ⟨y,hy⟩ : ∃ y,B s = y:=⟨_,rfl⟩
       obtain ⟨x,hx⟩ : ∃ y,C t = y:=⟨_,rfl⟩
       have xg : Wd.cell? ⟨g,s,none⟩ = some (.bool y):=by rw [xg,<- hy]; rfl
       have xh : Wd.cell? ⟨h,t,none⟩ = some (.bool x):=by rw [xh,<- hx]; rfl
       have HREL : Hid (∀ z,z = (x || y) -> RW w (Wd.setCell ⟨h,t,none⟩ (.bool z)) n f.start (.slice fa fn fc) (.slice (some ⟨ab,ao,none⟩) m ac) /\ ValsAt (Wd.setCell ⟨h,t,none⟩ (.bool z)) g n (boolsV B) /\ ∃ C : Nat -> Bool,ValsAt (Wd.setCell ⟨h,t,none⟩ (.bool z)) h n (boolsV C) /\ ∀ v,v < n -> (C v = true ↔ ∃ u,(u,v) ∈ edgesE (f.arcs.take (i + 1)) /\ B u = true)):=by
        intro z hz
        refine ⟨(hR.below hbd).set hhw,(hVg.below hbd).other (by omega),fun v => if v = t then z else C v,((hVh.below hbd).set t (.bool z) htn).cong fun j _ => ?_,fun v hv => ?_⟩
        ·unfold updV boolsV
         dsimp only
         by_cases e : j = t
         ·rw [if_pos e,if_pos e]
         ·rw [if_neg e,if_neg e]
        ·rw [edges_at hai hs ht]
         dsimp only
         by_cases e : v = t
         ·rw [if_pos e,hz,e,Bool.or_eq_true,<- hx,<- hy,HC.out t htn]
          constructor
          ·rintro (⟨u,h1,h2⟩ | h1)
           ·exact ⟨u,List.mem_append_left _ h1,h2⟩
           ·exact ⟨s,List.mem_append_right _ (by simp),h1⟩
          ·rintro ⟨u,h1,h2⟩
           rcases List.mem_append.1 h1 with h1 | h1
           ·exact Or.inl ⟨u,h1,h2⟩
           ·right
            have : u = s:=by simpa using h1
            rw [<- this]
            exact h2
         ·rw [if_neg e,HC.out v hv]
          constructor
          ·rintro ⟨u,h1,h2⟩
           exact ⟨u,List.mem_append_left _ h1,h2⟩
          ·rintro ⟨u,h1,h2⟩
           rcases List.mem_append.1 h1 with h1 | h1
           ·exact ⟨u,h1,h2⟩
           ·have : v = t:=by
             have : u = s /\ v = t:=by simpa using h1
             exact this.2
            exact absurd this e
       have HWD : Hid (Wd = wr.drew):=hWd
       have hsi : (s : Int) < n:=by omega
       have hti : (t : Int) < n:=by omega
       have xs : Wd.cell? ⟨ab,ao + i * 5,none⟩ = some (.int .i64 (s : Int)):=c0
       have xt : Wd.cell? ⟨ab,ao + i * 5 + 3,none⟩ = some (.int .i64 (t : Int)):=c3
       clear hWd hgd hs ht hai hxa c0 c3 hy hx hVg hVh hR HC hbd
       cases x
       ·have hS0 : (fun wx : World => (wx.cell? ⟨w.heap.size,3,none⟩ = some (.slice (some ⟨ab,ao,none⟩) m ac)) /\ wx.cell? ⟨ab,ao + i * 5,none⟩ = some (.int .i64 (s : Int)) /\ wx.cell? ⟨ab,ao + i * 5 + 3,none⟩ = some (.int .i64 (t : Int)) /\ wx.cell? ⟨h,t,none⟩ = some (.bool false) /\ wx.cell? ⟨g,s,none⟩ = some (.bool y)) Wd:=⟨x3,xs,xt,xh,xg⟩
        clear x3 xs xt xh xg
        go_wp2
        refine wp_region_noPanic ?_
        refine wp_region_U (fun wx : World => (wx.cell? ⟨w.heap.size,3,none⟩ = some (.slice (some ⟨ab,ao,none⟩) m ac)) /\ wx.cell? ⟨ab,ao + i * 5,none⟩ = some (.int .i64 (s : Int)) /\ wx.cell? ⟨ab,ao + i * 5 + 3,none⟩ = some (.int .i64 (t : Int)) /\ wx.cell? ⟨h,t,none⟩ = some (.bool false) /\ wx.cell? ⟨g,s,none⟩ = some (.bool y)) 28 (by kernel_rfl) (by rw [<- HWD.out]; exact hS0) (fun _ => ?_)
        rw [<- HWD.out]
        clear HWD q0 q1 q2 q3
        refine tkU (i:=0) (v:=.slice (some ⟨h,0,none⟩) n n) rfl (by kernel_rfl) (fun _ _ _ h => h) (by rfl) hS0 (fun wl hSw => ?_) ?_
        ·(try dsimp only at hSw); go_simp
        refine tkU (i:=1) (v:=.pointer (some ⟨w.heap.size,3,none⟩)) rfl (by kernel_rfl) (fun _ _ _ h => h) (by rfl) hS0 (fun wl hSw => ?_) ?_
        ·(try dsimp only at hSw); go_simp
        refine tkU (i:=2) (v:=.slice (some ⟨ab,ao,none⟩) m ac) rfl (by kernel_rfl) (fun _ _ _ h => h) (by rfl) hS0 (fun wl hSw => ?_) ?_
        ·(try dsimp only at hSw); go_simp
        refine tkU (i:=3) (v:=.int .i64 (i : Int)) rfl (by kernel_rfl) (fun _ _ _ h => h) (by rfl) hS0 (fun wl hSw => ?_) ?_
        ·(try dsimp only at hSw); go_simp
        refine tkU (i:=4) (v:=.pointer (some ⟨ab,ao + i * 5,none⟩)) rfl (by kernel_rfl) (fun _ _ _ h => h) (by rfl) hS0 (fun wl hSw => ?_) ?_
        ·(try dsimp only at hSw); go_simp
        refine tkU (i:=5) (v:=.pointer (some ⟨ab,ao + i * 5 + 3,none⟩)) rfl (by kernel_rfl) (fun _ _ _ h => h) (by rfl) hS0 (fun wl hSw => ?_) ?_
        ·(try dsimp only at hSw); go_simp
        refine tkU (i:=6) (v:=.int .i64 (t : Int)) rfl (by kernel_rfl) (fun _ _ _ h => h) (by rfl) hS0 (fun wl hSw => ?_) ?_
        ·(try dsimp only at hSw); go_simp
        refine tkU (i:=7) (v:=.slice (some ⟨h,0,none⟩) n n) rfl (by kernel_rfl) (fun _ _ _ h => h) (by rfl) hS0 (fun wl hSw => ?_) ?_
        ·(try dsimp only at hSw); go_simp
        refine tkU (i:=8) (v:=.pointer (some ⟨w.heap.size,3,none⟩)) rfl (by kernel_rfl) (fun _ _ _ h => h) (by rfl) hS0 (fun wl hSw => ?_) ?_
        ·(try dsimp only at hSw); go_simp
        refine tkU (i:=9) (v:=.slice (some ⟨ab,ao,none⟩) m ac) rfl (by kernel_rfl) (fun _ _ _ h => h) (by rfl) hS0 (fun wl hSw => ?_) ?_
        ·(try dsimp only at hSw); go_simp
        refine tkU (i:=10) (v:=.int .i64 (i : Int)) rfl (by kernel_rfl) (fun _ _ _ h => h) (by rfl) hS0 (fun wl hSw => ?_) ?_
        ·(try dsimp only at hSw); go_simp
        refine tkU (i:=11) (v:=.pointer (some ⟨ab,ao + i * 5,none⟩)) rfl (by kernel_rfl) (fun _ _ _ h => h) (by rfl) hS0 (fun wl hSw => ?_) ?_
        ·(try dsimp only at hSw); go_simp
        refine tkU (i:=12) (v:=.pointer (some ⟨ab,ao + i * 5 + 3,none⟩)) rfl (by kernel_rfl) (fun _ _ _ h => h) (by rfl) hS0 (fun wl hSw => ?_) ?_
        ·(try dsimp only at hSw); go_simp
        refine tkU (i:=13) (v:=.int .i64 (t : Int)) rfl (by kernel_rfl) (fun _ _ _ h => h) (by rfl) hS0 (fun wl hSw => ?_) ?_
        ·(try dsimp only at hSw); go_simp
        refine tkU (i:=14) (v:=.pointer (some ⟨h,t,none⟩)) rfl (by kernel_rfl) (fun _ _ _ h => h) (by rfl) hS0 (fun wl hSw => ?_) ?_
        ·(try dsimp only at hSw); go_simp
        refine tkU (i:=15) (v:=.bool false) rfl (by kernel_rfl) (fun _ _ _ h => h) (by rfl) hS0 (fun wl hSw => ?_) ?_
        ·(try dsimp only at hSw); go_simp
        refine tkU (i:=16) (v:=.bool false) rfl (by kernel_rfl) (fun _ _ _ h => h) (by rfl) hS0 (fun wl hSw => ?_) ?_
        ·(try dsimp only at hSw); go_simp
        go_simp
        refine tkU (i:=17) (v:=.slice (some ⟨g,0,none⟩) n n) rfl (by kernel_rfl) (fun _ _ _ h => h) (by rfl) hS0 (fun wl hSw => ?_) ?_
        ·(try dsimp only at hSw); go_simp
        go_simp
        refine tkU (i:=18) (v:=.pointer (some ⟨w.heap.size,3,none⟩)) rfl (by kernel_rfl) (fun _ _ _ h => h) (by rfl) hS0 (fun wl hSw => ?_) ?_
        ·(try dsimp only at hSw); go_simp
        go_simp
        refine tkU (i:=19) (v:=.slice (some ⟨ab,ao,none⟩) m ac) rfl (by kernel_rfl) (fun _ _ _ h => h) (by rfl) hS0 (fun wl hSw => ?_) ?_
        ·(try dsimp only at hSw); go_simp
        go_simp
        refine tkU (i:=20) (v:=.int .i64 (i : Int)) rfl (by kernel_rfl) (fun _ _ _ h => h) (by rfl) hS0 (fun wl hSw => ?_) ?_
        ·(try dsimp only at hSw); go_simp
        go_simp
        refine tkU (i:=21) (v:=.pointer (some ⟨ab,ao + i * 5,none⟩)) rfl (by kernel_rfl) (fun _ _ _ h => h) (by rfl) hS0 (fun wl hSw => ?_) ?_
        ·(try dsimp only at hSw); go_simp
        go_simp
        refine tkU (i:=22) (v:=.pointer (some ⟨ab,ao + i * 5,none⟩)) rfl (by kernel_rfl) (fun _ _ _ h => h) (by rfl) hS0 (fun wl hSw => ?_) ?_
        ·(try dsimp only at hSw); go_simp
        go_simp
        refine tkU (i:=23) (v:=.int .i64 (s : Int)) rfl (by kernel_rfl) (fun _ _ _ h => h) (by rfl) hS0 (fun wl hSw => ?_) ?_
        ·(try dsimp only at hSw); go_simp
        go_simp
        refine tkU (i:=24) (v:=.pointer (some ⟨g,s,none⟩)) rfl (by kernel_rfl) (fun _ _ _ h => h) (by rfl) hS0 (fun wl hSw => ?_) ?_
        ·(try dsimp only at hSw); go_simp
        go_simp
        refine tkU (i:=25) (v:=.bool y) rfl (by kernel_rfl) (fun _ _ _ h => h) (by rfl) hS0 (fun wl hSw => ?_) ?_
        ·(try dsimp only at hSw); go_simp
        go_simp
        refine tkU (i:=26) (v:=.bool y) rfl (by kernel_rfl) (fun _ _ _ h => h) (by rfl) hS0 (fun wl hSw => ?_) ?_
        ·(try dsimp only at hSw); go_simp
        refine tkU (i:=27) (v:=.pointer (some ⟨h,t,none⟩)) rfl (by kernel_rfl) (fun _ _ _ h => h) (by rfl) hS0 (fun wl hSw => ?_) ?_
        ·(try dsimp only at hSw); go_simp
        obtain ⟨x3,xs,xt,xh,xg⟩:=hS0
        refine wpAnyU_one (i:=28) rfl (by kernel_rfl) (fun Kc hKc => ?_)
        go_simp
        refine hKc.out _ _ ⟨fun h => absurd rfl h,?_⟩
        clear hKc Kc
        refine wpAnyU_done (by kernel_rfl) ?_ _
        refine NoPanic.normal ?_
        clear x3 xs xt xh xg hfz
        obtain ⟨r1,r2,r3⟩:=HREL.out y (by simp)
        clear HREL
        go_wp2
        go_roundw
        case rel => exact ⟨i + 1,by omega,by go_num,r1,r2,r3⟩
        case measure => simp [intOf]; omega
       ·have hS0 : (fun wx : World => (wx.cell? ⟨w.heap.size,3,none⟩ = some (.slice (some ⟨ab,ao,none⟩) m ac)) /\ wx.cell? ⟨ab,ao + i * 5,none⟩ = some (.int .i64 (s : Int)) /\ wx.cell? ⟨ab,ao + i * 5 + 3,none⟩ = some (.int .i64 (t : Int)) /\ wx.cell? ⟨h,t,none⟩ = some (.bool true) /\ wx.cell? ⟨g,s,none⟩ = some (.bool y)) Wd:=⟨x3,xs,xt,xh,xg⟩
        clear x3 xs xt xh xg
        go_wp2
        refine wp_region_noPanic ?_
        refine wp_region_U (fun wx : World => (wx.cell? ⟨w.heap.size,3,none⟩ = some (.slice (some ⟨ab,ao,none⟩) m ac)) /\ wx.cell? ⟨ab,ao + i * 5,none⟩ = some (.int .i64 (s : Int)) /\ wx.cell? ⟨ab,ao + i * 5 + 3,none⟩ = some (.int .i64 (t : Int)) /\ wx.cell? ⟨h,t,none⟩ = some (.bool true) /\ wx.cell? ⟨g,s,none⟩ = some (.bool y)) 28 (by kernel_rfl) (by rw [<- HWD.out]; exact hS0) (fun _ => ?_)
        rw [<- HWD.out]
        clear HWD q0 q1 q2 q3
        refine tkU (i:=0) (v:=.slice (some ⟨h,0,none⟩) n n) rfl (by kernel_rfl) (fun _ _ _ h => h) (by rfl) hS0 (fun wl hSw => ?_) ?_
        ·(try dsimp only at hSw); go_simp
        refine tkU (i:=1) (v:=.pointer (some ⟨w.heap.size,3,none⟩)) rfl (by kernel_rfl) (fun _ _ _ h => h) (by rfl) hS0 (fun wl hSw => ?_) ?_
        ·(try dsimp only at hSw); go_simp
        refine tkU (i:=2) (v:=.slice (some ⟨ab,ao,none⟩) m ac) rfl (by kernel_rfl) (fun _ _ _ h => h) (by rfl) hS0 (fun wl hSw => ?_) ?_
        ·(try dsimp only at hSw); go_simp
        refine tkU (i:=3) (v:=.int .i64 (i : Int)) rfl (by kernel_rfl) (fun _ _ _ h => h) (by rfl) hS0 (fun wl hSw => ?_) ?_
        ·(try dsimp only at hSw); go_simp
        refine tkU (i:=4) (v:=.pointer (some ⟨ab,ao + i * 5,none⟩)) rfl (by kernel_rfl) (fun _ _ _ h => h) (by rfl) hS0 (fun wl hSw => ?_) ?_
        ·(try dsimp only at hSw); go_simp
        refine tkU (i:=5) (v:=.pointer (some ⟨ab,ao + i * 5 + 3,none⟩)) rfl (by kernel_rfl) (fun _ _ _ h => h) (by rfl) hS0 (fun wl hSw => ?_) ?_
        ·(try dsimp only at hSw); go_simp
        refine tkU (i:=6) (v:=.int .i64 (t : Int)) rfl (by kernel_rfl) (fun _ _ _ h => h) (by rfl) hS0 (fun wl hSw => ?_) ?_
        ·(try dsimp only at hSw); go_simp
        refine tkU (i:=7) (v:=.slice (some ⟨h,0,none⟩) n n) rfl (by kernel_rfl) (fun _ _ _ h => h) (by rfl) hS0 (fun wl hSw => ?_) ?_
        ·(try dsimp only at hSw); go_simp
        refine tkU (i:=8) (v:=.pointer (some ⟨w.heap.size,3,none⟩)) rfl (by kernel_rfl) (fun _ _ _ h => h) (by rfl) hS0 (fun wl hSw => ?_) ?_
        ·(try dsimp only at hSw); go_simp
        refine tkU (i:=9) (v:=.slice (some ⟨ab,ao,none⟩) m ac) rfl (by kernel_rfl) (fun _ _ _ h => h) (by rfl) hS0 (fun wl hSw => ?_) ?_
        ·(try dsimp only at hSw); go_simp
        refine tkU (i:=10) (v:=.int .i64 (i : Int)) rfl (by kernel_rfl) (fun _ _ _ h => h) (by rfl) hS0 (fun wl hSw => ?_) ?_
        ·(try dsimp only at hSw); go_simp
        refine tkU (i:=11) (v:=.pointer (some ⟨ab,ao + i * 5,none⟩)) rfl (by kernel_rfl) (fun _ _ _ h => h) (by rfl) hS0 (fun wl hSw => ?_) ?_
        ·(try dsimp only at hSw); go_simp
        refine tkU (i:=12) (v:=.pointer (some ⟨ab,ao + i * 5 + 3,none⟩)) rfl (by kernel_rfl) (fun _ _ _ h => h) (by rfl) hS0 (fun wl hSw => ?_) ?_
        ·(try dsimp only at hSw); go_simp
        refine tkU (i:=13) (v:=.int .i64 (t : Int)) rfl (by kernel_rfl) (fun _ _ _ h => h) (by rfl) hS0 (fun wl hSw => ?_) ?_
        ·(try dsimp only at hSw); go_simp
        refine tkU (i:=14) (v:=.pointer (some ⟨h,t,none⟩)) rfl (by kernel_rfl) (fun _ _ _ h => h) (by rfl) hS0 (fun wl hSw => ?_) ?_
        ·(try dsimp only at hSw); go_simp
        refine tkU (i:=15) (v:=.bool true) rfl (by kernel_rfl) (fun _ _ _ h => h) (by rfl) hS0 (fun wl hSw => ?_) ?_
        ·(try dsimp only at hSw); go_simp
        refine tkU (i:=16) (v:=.bool true) rfl (by kernel_rfl) (fun _ _ _ h => h) (by rfl) hS0 (fun wl hSw => ?_) ?_
        ·(try dsimp only at hSw); go_simp
        go_simp
        refine wpAnyU_take (i:=17) (v:=undef) rfl (by kernel_rfl) (by kernel_rfl) (by kernel_rfl) (by kernel_rfl) (fun _ _ _ h => h) (Or.inr ⟨by rfl,rfl⟩) hS0 ?_
        go_simp
        refine wpAnyU_take (i:=18) (v:=undef) rfl (by kernel_rfl) (by kernel_rfl) (by kernel_rfl) (by kernel_rfl) (fun _ _ _ h => h) (Or.inr ⟨by rfl,rfl⟩) hS0 ?_
        go_simp
        refine wpAnyU_take (i:=19) (v:=undef) rfl (by kernel_rfl) (by kernel_rfl) (by kernel_rfl) (by kernel_rfl) (fun _ _ _ h => h) (Or.inr ⟨by rfl,rfl⟩) hS0 ?_
        go_simp
        refine wpAnyU_take (i:=20) (v:=undef) rfl (by kernel_rfl) (by kernel_rfl) (by kernel_rfl) (by kernel_rfl) (fun _ _ _ h => h) (Or.inr ⟨by rfl,rfl⟩) hS0 ?_
        go_simp
        refine wpAnyU_take (i:=21) (v:=undef) rfl (by kernel_rfl) (by kernel_rfl) (by kernel_rfl) (by kernel_rfl) (fun _ _ _ h => h) (Or.inr ⟨by rfl,rfl⟩) hS0 ?_
        go_simp
        refine wpAnyU_take (i:=22) (v:=undef) rfl (by kernel_rfl) (by kernel_rfl) (by kernel_rfl) (by kernel_rfl) (fun _ _ _ h => h) (Or.inr ⟨by rfl,rfl⟩) hS0 ?_
        go_simp
        refine wpAnyU_take (i:=23) (v:=undef) rfl (by kernel_rfl) (by kernel_rfl) (by kernel_rfl) (by kernel_rfl) (fun _ _ _ h => h) (Or.inr ⟨by rfl,rfl⟩) hS0 ?_
        go_simp
        refine wpAnyU_take (i:=24) (v:=undef) rfl (by kernel_rfl) (by kernel_rfl) (by kernel_rfl) (by kernel_rfl) (fun _ _ _ h => h) (Or.inr ⟨by rfl,rfl⟩) hS0 ?_
        go_simp
        refine wpAnyU_take (i:=25) (v:=undef) rfl (by kernel_rfl) (by kernel_rfl) (by kernel_rfl) (by kernel_rfl) (fun _ _ _ h => h) (Or.inr ⟨by rfl,rfl⟩) hS0 ?_
        go_simp
        refine tkU (i:=26) (v:=.bool true) rfl (by kernel_rfl) (fun _ _ _ h => h) (by rfl) hS0 (fun wl hSw => ?_) ?_
        ·(try dsimp only at hSw); go_simp
        refine tkU (i:=27) (v:=.pointer (some ⟨h,t,none⟩)) rfl (by kernel_rfl) (fun _ _ _ h => h) (by rfl) hS0 (fun wl hSw => ?_) ?_
        ·(try dsimp only at hSw); go_simp
        obtain ⟨x3,xs,xt,xh,xg⟩:=hS0
        refine wpAnyU_one (i:=28) rfl (by kernel_rfl) (fun Kc hKc => ?_)
        go_simp
        refine hKc.out _ _ ⟨fun h => absurd rfl h,?_⟩
        clear hKc Kc
        refine wpAnyU_done (by kernel_rfl) ?_ _
        refine NoPanic.normal ?_
        clear x3 xs xt xh xg hfz
        obtain ⟨r1,r2,r3⟩:=HREL.out true (by simp)
        clear HREL
        go_wp2
        go_roundw
        case rel => exact ⟨i + 1,by omega,by go_num,r1,r2,r3⟩
        case measure => simp [intOf]; omega
      ·obtain rfl : i = m:=by omega
       have hil : ¬ ((i : Int) < i):=by omega
       have HS : Hid (∀ v,v < n -> (C v = true ↔ endsAt (edgesE f.arcs) (k + 1) v)):=by
        intro v hv
        rw [HC.out v hv,List.take_of_length_le (by have:=HL.out; omega)]
        constructor
        ·rintro ⟨u,h1,h2⟩
         have hu : u < n:=by
          unfold edgesE at h1
          obtain ⟨a,hm,e⟩:=List.mem_map.1 h1
          obtain ⟨s,t,h3,_,h5,_⟩:=HAR.out a hm
          have : u = a.src.toNat:=by simpa using (congrArg Prod.fst e).symm
          rw [h3] at this
          omega
         exact ⟨u,h1,(HB.out u hu).1 h2⟩
        ·rintro ⟨u,h1,h2⟩
         have hu : u < n:=by
          unfold edgesE at h1
          obtain ⟨a,hm,e⟩:=List.mem_map.1 h1
          obtain ⟨s,t,h3,_,h5,_⟩:=HAR.out a hm
          have : u = a.src.toNat:=by simpa using (congrArg Prod.fst e).symm
          rw [h3] at this
          omega
         exact ⟨u,h1,(HB.out u hu).2 h2⟩
       clear HC
       go_wp2
       go_roundw
       case rel => exact ⟨k + 1,h,C,by omega,rfl,by go_num,hhw,hR,hVh,HS.out⟩
       case measure => simp [intOf]; omega
    ·obtain rfl : k = n:=by omega
     have hkl : ¬ ((k : Int) < k):=by omega
     go_wp2
     go_loopw [8] (fun t8 wx => ∃ j : Nat,j <= k /\ t8 = .int .i64 (j : Int) /\ wx = wr /\ ∀ v,v < j -> B v = false) (fun t8 _ => k - (intOf t8).toNat)
     case atStart => exact ⟨0,Nat.zero_le _,rfl,rfl,fun v h => absurd h (Nat.not_lt_zero _)⟩
     case round =>
      obtain ⟨j,hj,rfl,rfl,hx⟩:=hrel
      have HX : Hid (∀ v,v < j -> B v = false):=hx
      clear hx
      have hjw : IntKind.i64.wrap ((j : Int) + 1) = (j : Int) + 1:=wrap_in _ (by omega) (by omega)
      by_cases hlj : j < k
      ·have hji : (j : Int) < k:=by omega
       have c0:=hV.cell j hlj
       unfold boolsV at c0
       cases hBj : B j with
       | true =>
        have HY : Hid (RoundE (edgesE f.arcs) k):=⟨j,hlj,(HB.out j hlj).1 hBj⟩
        rw [hBj] at c0
        clear hBj
        go_wp2
        go_ret
        exact rndRes_mk true ⟨fun _ => HY.out,fun _ => rfl⟩ hR.bel
       | false =>
        have HY : Hid (∀ v,v < j + 1 -> B v = false):=fun v hv => by
         by_cases e : v = j
         ·rw [e]; exact hBj
         ·exact HX.out v (by omega)
        rw [hBj] at c0
        clear hBj
        go_wp2
        go_roundw
        case rel => exact ⟨j + 1,by omega,by go_num,trivial,HY.out⟩
        case measure => simp [intOf]; omega
      ·obtain rfl : j = k:=by omega
       go_wp2
       go_ret
       refine rndRes_mk false ⟨fun h => (by cases h),fun h => ?_⟩ hR.bel
       obtain ⟨v,hv,he⟩:=h
       have:=(HB.out v hv).2 he
       rw [HX.out v hv] at this
       exact this
end Go.Proofs.Yteehgcbjmdideab
/- The document's tables,place by place: what is true of the prices between one arc and the next. -/
namespace Go.Proofs.Yteehgcbjmdideab
section
variable (f : FstD) (ins outs : List Int) (N i o : Nat)
end
section
variable {f : FstD} {ins outs : List Int} {N i o s0 : Nat} {c : List Int}
end
end Go.Proofs.Yteehgcbjmdideab
