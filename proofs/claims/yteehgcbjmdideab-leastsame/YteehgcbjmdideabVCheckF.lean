/- 'CheckFst' of the document's answer. -/
import Derived.Test.YteehgcbjmdideabVM00
namespace Go.Proofs.Yteehgcbjmdideab
open Go.RowKit
attribute [local go_sem ↓] Go.wp_at_zero Go.wp_at_succ
theorem finB_in (x : Int) : finB x = !inB x (-1) 1000000000:=by
 unfold finB inB
 by_cases h : x = -1
 ·subst h; decide
 ·have : (x != -1) = true:=by simpa using h
  rw [this,Bool.eq_iff_iff]; simp; omega
theorem any_at (xs : List Int) (k : Nat) (hk : k < xs.length) (h : finB (xs.getD k 0) = true) : xs.any finB = true:=by
 rw [List.any_eq_true]
 exact ⟨xs[k],List.getElem_mem _,by simpa [List.getD,hk] using h⟩
theorem any_none (xs : List Int) (h : ∀ j,j < xs.length -> finB (xs.getD j 0) = false) : xs.any finB = false:=by
 rw [List.any_eq_false]
 intro x hx
 obtain ⟨j,hj,rfl⟩:=List.getElem_of_mem hx
 have:=h j hj
 simpa [List.getD,hj] using this
theorem ASlice.some {w : World} {a : Option Addr} {n c : Nat} {ars : List ArcD} (h : ASlice w (.slice a n c) ars) (hn : 0 < n) : ∃ b off,a = some ⟨b,off,none⟩ /\ ArcsAt w b off n ars:=by
 rcases h with ⟨_,_,h,_⟩ | ⟨b,off,m,cap,h,hx,_⟩
 ·injection h with h1 h2 h3; omega
 ·injection h with h1 h2 h3; subst h1 h2 h3; exact ⟨b,off,rfl,hx⟩
theorem ISlice.some {w : World} {a : Option Addr} {n c : Nat} {xs : List Int} (h : ISlice w (.slice a n c) xs) (hn : 0 < n) : ∃ b off,a = some ⟨b,off,none⟩ /\ IntsAt w b off n xs:=by
 rcases h with ⟨_,_,h,_⟩ | ⟨b,off,m,cap,h,hx,_⟩
 ·injection h with h1 h2 h3; omega
 ·injection h with h1 h2 h3; subst h1 h2 h3; exact ⟨b,off,rfl,hx⟩
set_option maxHeartbeats 2000000 in
theorem checkFst_some (f : FstD) (fb foff fn fc : Nat) (b off n cap : Nat) (w : World) (hf : IntsAt w fb foff fn f.final) (ha : ArcsAt w b off n f.arcs) (hfm : fn <= maxLen) (ham : n <= maxLen) (hs : inB f.states 1 200 = true) (hst : inB f.start 0 (f.states - 1) = true) (hl : (fn : Int) = f.states) :
  Calls Try.prog 8 #[.agg #[.int .i64 f.states,.int .i64 f.start,.slice (some ⟨fb,foff,none⟩) fn fc,.slice (some ⟨b,off,none⟩) n cap]] w fun e w' =>
   e = .returned (.int .i64 (checkD f)) /\ Below w.heap.size w w':=by
 have HFL : Hid (f.final.length = fn):=hf.len
 have hal:=ha.len
 unfold maxLen at hfm ham
 obtain ⟨l1,l2⟩:=inB_le hs
 have hln : ((fn : Int) != f.states) = false:=by simp [hl]
 have HL : Hid ((fn : Int) = f.states):=hl
 clear hl
 have hbF : CellsF (w.alloc (.cells #[.int .i64 f.states,.int .i64 f.start,.slice (some ⟨fb,foff,none⟩) fn fc,.slice (some ⟨b,off,none⟩) n cap] 25)) w.heap.size f.states f.start (.slice (some ⟨fb,foff,none⟩) fn fc) (.slice (some ⟨b,off,none⟩) n cap):=by simp [CellsF]
 have hfx:=hf.below (bel_up (bel_self w) (.cells #[.int .i64 f.states,.int .i64 f.start,.slice (some ⟨fb,foff,none⟩) fn fc,.slice (some ⟨b,off,none⟩) n cap] 25))
 have hax:=ha.below (bel_up (bel_self w) (.cells #[.int .i64 f.states,.int .i64 f.start,.slice (some ⟨fb,foff,none⟩) fn fc,.slice (some ⟨b,off,none⟩) n cap] 25))
 have hBel:=bel_up (bel_self w) (.cells #[.int .i64 f.states,.int .i64 f.start,.slice (some ⟨fb,foff,none⟩) fn fc,.slice (some ⟨b,off,none⟩) n cap] 25)
 clear hf ha
 go_enter Try.func8,Try.ntmps8
 go_wp2_with (go_at_call 34; refine (between_any _ _ _ _).mono ?_; rintro e w' ⟨rfl,rfl⟩)
 generalize w.alloc (.cells #[.int .i64 f.states,.int .i64 f.start,.slice (some ⟨fb,foff,none⟩) fn fc,.slice (some ⟨b,off,none⟩) n cap] 25) = w0 at *
 have hbF':=hbF
 obtain ⟨f0,f1,f2,f3⟩:=hbF'
 go_loop [3] (fun i => ∃ k : Nat,k <= fn /\ i = .int .i64 k /\ (∀ j,j < k -> finB (f.final.getD j 0) = false)) (fun i => fn - (intOf i).toNat)
 case atStart => exact ⟨0,Nat.zero_le _,rfl,fun j hj => absurd hj (Nat.not_lt_zero _)⟩
 case round =>
  obtain ⟨k,hk,rfl,hall⟩:=hrel
  have HA : Hid (∀ j,j < k -> finB (f.final.getD j 0) = false):=hall
  clear hall
  by_cases hlt : k < fn
  ·have c0:=hfx.cell k hlt
   obtain ⟨x,hxk⟩ : ∃ x,x = f.final.getD k 0:=⟨_,rfl⟩
   rw [<- hxk] at c0
   have HX : Hid (x = f.final.getD k 0):=hxk
   clear hxk
   cases hx : inB x (-1) 1000000000
   ·go_wp2_with (go_at_call 34; refine (between_any _ _ _ _).mono ?_; rintro e w' ⟨rfl,rfl⟩)
    go_ret
    refine ⟨ret_int ?_,hBel⟩
    have hany:=any_at f.final k (by have:=HFL.out; omega) (by rw [<- HX.out,finB_in,hx]; rfl)
    have e1:=HFL.out
    have e3:=HL.out
    unfold checkD
    rw [hs,hst,e1,hany]
    simp [e3]
   ·go_wp2_with (go_at_call 34; refine (between_any _ _ _ _).mono ?_; rintro e w' ⟨rfl,rfl⟩)
    go_round
    case rel =>
     refine ⟨k + 1,by omega,by go_num,fun j hj => ?_⟩
     by_cases e : j = k
     ·subst e; rw [<- HX.out,finB_in,hx]; rfl
     ·exact HA.out j (by omega)
    case measure => simp [intOf]; omega
  ·have hany : f.final.any finB = false:=any_none f.final (fun j hj => HA.out j (by have:=HFL.out; omega))
   have HC : Hid (checkD f = if 3000 < n then 2 else arcsErr f.states none f.arcs):=by
    have e1:=HFL.out
    have e3:=HL.out
    show checkD f = _
    unfold checkD
    rw [hs,hst,e1,hany,hal]
    simp [e3]
   clear hany HA hfx
   by_cases hm : 3000 < n
   ·go_wp2
    go_ret
    exact ⟨ret_int (by rw [HC.out,if_pos hm]),hBel⟩
   ·rw [if_neg hm] at HC
    go_wp2
    go_loopw [4] (fun i wr => ∃ k : Nat,k <= n /\ i = .int .i64 k /\ (∀ j,j < k -> arcErr f.states (prevA f.arcs j) (f.arcs.getD j a0) = 0) /\ Below w.heap.size w wr /\ CellsF wr w.heap.size f.states f.start (.slice (some ⟨fb,foff,none⟩) fn fc) (.slice (some ⟨b,off,none⟩) n cap) /\ ArcsAt wr b off n f.arcs) (fun i _ => n - (intOf i).toNat)
    case atStart => exact ⟨0,Nat.zero_le _,rfl,fun j hj => absurd hj (Nat.not_lt_zero _),hBel,hbF,hax⟩
    case round =>
     clear f0 f1 f2 f3 hbF hax hBel
     obtain ⟨k,hk,rfl,hall,hbr,hF,hx⟩:=hrel
     have HA : Hid (∀ j,j < k -> arcErr f.states (prevA f.arcs j) (f.arcs.getD j a0) = 0):=hall
     clear hall
     have hF':=hF
     obtain ⟨f0,f1,f2,f3⟩:=hF'
     have hsl:=cell_lt f0
     by_cases hlt : k < n
     ·obtain ⟨a,ha⟩ : ∃ a,a = f.arcs.getD k a0:=⟨_,rfl⟩
      have c0:=hx.c0 k hlt
      have c1:=hx.c1 k hlt
      have c2:=hx.c2 k hlt
      have c3:=hx.c3 k hlt
      have c4:=hx.c4 k hlt
      rw [<- ha] at c0 c1 c2 c3 c4
      have HX : Hid (a = f.arcs.getD k a0):=ha
      have hbl:=cell_lt c0
      have hkl : k < f.arcs.length:=by omega
      clear ha
      by_cases hk0 : (k : Int) <= 0
      ·have HP : Hid (prevA f.arcs k = none):=prevA_zero _ _ hk0
       have hd : decide (0 < k) = false:=by simp; omega
       go_wp2_with (go_at_call 34; refine (between_any _ _ _ _).mono ?_; rintro e w' ⟨rfl,rfl⟩)
       all_goals try (go_ret; exact ⟨ret_int (by rw [HC.out]; exact (arcsErr_bad _ _ _ a _ hkl HA.out HX.out (by simp [arcErr, *]) (by decide)).symm),bel_up hbr _⟩)
       go_quiet (fail)
       go_wp2
       go_roundw
       case rel => exact ⟨k + 1,by omega,by go_num,arcsErr_on _ _ _ a HA.out HX.out (by rw [HP.out]; simp [arcErr, *]),bel_drewN (bel_up hbr _) _,hF.below (bel_drewN (bel_up (bel_self _) _) _),hx.below (bel_drewN (bel_up (bel_self _) _) _)⟩
       case measure => simp [intOf]; omega
      ·have hk1 : 0 < k:=by omega
       obtain ⟨p,hp⟩ : ∃ p,p = f.arcs.getD (k - 1) a0:=⟨_,rfl⟩
       have HP : Hid (prevA f.arcs k = some p):=prevA_pos _ _ p hk1 hkl hp
       have e0:=hx.c0 (k - 1) (by omega)
       have e1:=hx.c1 (k - 1) (by omega)
       have e2:=hx.c2 (k - 1) (by omega)
       have e3:=hx.c3 (k - 1) (by omega)
       have e4:=hx.c4 (k - 1) (by omega)
       rw [<- hp] at e0 e1 e2 e3 e4
       clear hp
       have hd : decide (0 < k) = true:=by simpa using hk1
       have hi0 : (0 : Int) <= (k : Int) - 1:=by omega
       have hi1 : (k : Int) - 1 < (n : Int):=by omega
       have hwk : IntKind.i64.wrap ((k : Int) - 1) = (k : Int) - 1:=IntWalk.i64_in _ ⟨by omega,by omega⟩
       have htk : ((k : Int) - 1).toNat = k - 1:=by omega
       have hi2 : (1 : Int) <= (k : Int):=by omega
       have hi3 : (k : Int) < (n : Int) + 1:=by omega
       have hi4 : k < n + 1:=by omega
       have hi5 : 1 <= k:=by omega
       go_wp2_with (go_at_call 34; refine (between_any _ _ _ _).mono ?_; rintro e w' ⟨rfl,rfl⟩)
       all_goals try (go_ret; exact ⟨ret_int (by rw [HC.out]; exact (arcsErr_bad _ _ _ a _ hkl HA.out HX.out (by simp [arcErr, *]) (by decide)).symm),bel_up hbr _⟩)
       cases hah : aheadB p a
       ·have HAH : Hid (aheadB p a = false):=hah
        go_region_held3 (fun wx => wx.cell? ⟨w.heap.size,3,none⟩ = some (.slice (some ⟨b,off,none⟩) n cap) /\ wx.cell? ⟨b,off + (k - 1) * 5,none⟩ = some (.int .i64 p.src) /\ wx.cell? ⟨b,off + (k - 1) * 5 + 1,none⟩ = some (.int .i64 p.inp) /\ wx.cell? ⟨b,off + (k - 1) * 5 + 2,none⟩ = some (.int .i64 p.out) /\ wx.cell? ⟨b,off + (k - 1) * 5 + 3,none⟩ = some (.int .i64 p.dst) /\ wx.cell? ⟨b,off + (k - 1) * 5 + 4,none⟩ = some (.int .i64 p.wt) /\ wx.cell? ⟨wr.heap.size,0,none⟩ = some (.int .i64 a.src) /\ wx.cell? ⟨wr.heap.size,1,none⟩ = some (.int .i64 a.inp) /\ wx.cell? ⟨wr.heap.size,2,none⟩ = some (.int .i64 a.out) /\ wx.cell? ⟨wr.heap.size,3,none⟩ = some (.int .i64 a.dst) /\ wx.cell? ⟨wr.heap.size,4,none⟩ = some (.int .i64 a.wt)) (first | go_keep | (go_split_ands; refine ⟨bel_c hbw (by assumption),bel_c hbw (by assumption),bel_c hbw (by assumption),bel_c hbw (by assumption),bel_c hbw (by assumption),bel_c hbw (by assumption),bel_c hbw (by assumption),bel_c hbw (by assumption),bel_c hbw (by assumption),bel_c hbw (by assumption),bel_c hbw (by assumption)⟩)) ((go_at_call 35; refine (ahead_any p a _).mono ?_; rintro e w' ⟨rfl,hbw⟩))
        go_wp2
        go_ret
        exact ⟨ret_int (by rw [HC.out]; exact (arcsErr_bad _ _ _ a _ hkl HA.out HX.out (by rw [HP.out]; simp [arcErr,HAH.out, *]) (by decide)).symm),bel_on (bel_up hbr _).drew hbw⟩
       ·have HAH : Hid (aheadB p a = true):=hah
        go_region_held3 (fun wx => wx.cell? ⟨w.heap.size,3,none⟩ = some (.slice (some ⟨b,off,none⟩) n cap) /\ wx.cell? ⟨b,off + (k - 1) * 5,none⟩ = some (.int .i64 p.src) /\ wx.cell? ⟨b,off + (k - 1) * 5 + 1,none⟩ = some (.int .i64 p.inp) /\ wx.cell? ⟨b,off + (k - 1) * 5 + 2,none⟩ = some (.int .i64 p.out) /\ wx.cell? ⟨b,off + (k - 1) * 5 + 3,none⟩ = some (.int .i64 p.dst) /\ wx.cell? ⟨b,off + (k - 1) * 5 + 4,none⟩ = some (.int .i64 p.wt) /\ wx.cell? ⟨wr.heap.size,0,none⟩ = some (.int .i64 a.src) /\ wx.cell? ⟨wr.heap.size,1,none⟩ = some (.int .i64 a.inp) /\ wx.cell? ⟨wr.heap.size,2,none⟩ = some (.int .i64 a.out) /\ wx.cell? ⟨wr.heap.size,3,none⟩ = some (.int .i64 a.dst) /\ wx.cell? ⟨wr.heap.size,4,none⟩ = some (.int .i64 a.wt)) (first | go_keep | (go_split_ands; refine ⟨bel_c hbw (by assumption),bel_c hbw (by assumption),bel_c hbw (by assumption),bel_c hbw (by assumption),bel_c hbw (by assumption),bel_c hbw (by assumption),bel_c hbw (by assumption),bel_c hbw (by assumption),bel_c hbw (by assumption),bel_c hbw (by assumption),bel_c hbw (by assumption)⟩)) ((go_at_call 35; refine (ahead_any p a _).mono ?_; rintro e w' ⟨rfl,hbw⟩))
        go_wp2
        go_roundw
        case rel => exact ⟨k + 1,by omega,by go_num,arcsErr_on _ _ _ a HA.out HX.out (by rw [HP.out]; simp [arcErr,HAH.out, *]),bel_on (bel_up hbr _).drew hbw,(hF.below (bel_up (bel_self _) _).drew).below hbw,(hx.below (bel_up (bel_self _) _).drew).below hbw⟩
        case measure => simp [intOf]; omega
     ·go_wp2
      go_ret
      exact ⟨ret_int (by rw [HC.out]; exact (arcsErr_miss _ _ (fun j hj => HA.out j (by omega))).symm),hbr⟩
set_option maxHeartbeats 2000000 in
theorem checkFst_nil (f : FstD) (fb foff fn fc : Nat) (aa : Option Addr) (ac : Nat) (w : World) (hf : IntsAt w fb foff fn f.final) (ha : f.arcs = []) (hfm : fn <= maxLen) (hs : inB f.states 1 200 = true) (hst : inB f.start 0 (f.states - 1) = true) (hl : (fn : Int) = f.states) :
  Calls Try.prog 8 #[.agg #[.int .i64 f.states,.int .i64 f.start,.slice (some ⟨fb,foff,none⟩) fn fc,.slice aa 0 ac]] w fun e w' =>
   e = .returned (.int .i64 (checkD f)) /\ Below w.heap.size w w':=by
 have HFL : Hid (f.final.length = fn):=hf.len
 have hal : f.arcs.length = 0:=by rw [ha]; rfl
 unfold maxLen at hfm
 obtain ⟨l1,l2⟩:=inB_le hs
 have hln : ((fn : Int) != f.states) = false:=by simp [hl]
 have HL : Hid ((fn : Int) = f.states):=hl
 clear hl
 have hbF : CellsF (w.alloc (.cells #[.int .i64 f.states,.int .i64 f.start,.slice (some ⟨fb,foff,none⟩) fn fc,.slice aa 0 ac] 25)) w.heap.size f.states f.start (.slice (some ⟨fb,foff,none⟩) fn fc) (.slice aa 0 ac):=by simp [CellsF]
 have hfx:=hf.below (bel_up (bel_self w) (.cells #[.int .i64 f.states,.int .i64 f.start,.slice (some ⟨fb,foff,none⟩) fn fc,.slice aa 0 ac] 25))
 have hBel:=bel_up (bel_self w) (.cells #[.int .i64 f.states,.int .i64 f.start,.slice (some ⟨fb,foff,none⟩) fn fc,.slice aa 0 ac] 25)
 have HNIL : Hid (f.arcs = []):=ha
 clear hf ha
 go_enter Try.func8,Try.ntmps8
 go_wp2_with (go_at_call 34; refine (between_any _ _ _ _).mono ?_; rintro e w' ⟨rfl,rfl⟩)
 generalize w.alloc (.cells #[.int .i64 f.states,.int .i64 f.start,.slice (some ⟨fb,foff,none⟩) fn fc,.slice aa 0 ac] 25) = w0 at *
 have hbF':=hbF
 obtain ⟨f0,f1,f2,f3⟩:=hbF'
 go_loop [3] (fun i => ∃ k : Nat,k <= fn /\ i = .int .i64 k /\ (∀ j,j < k -> finB (f.final.getD j 0) = false)) (fun i => fn - (intOf i).toNat)
 case atStart => exact ⟨0,Nat.zero_le _,rfl,fun j hj => absurd hj (Nat.not_lt_zero _)⟩
 case round =>
  obtain ⟨k,hk,rfl,hall⟩:=hrel
  have HA : Hid (∀ j,j < k -> finB (f.final.getD j 0) = false):=hall
  clear hall
  by_cases hlt : k < fn
  ·have c0:=hfx.cell k hlt
   obtain ⟨x,hxk⟩ : ∃ x,x = f.final.getD k 0:=⟨_,rfl⟩
   rw [<- hxk] at c0
   have HX : Hid (x = f.final.getD k 0):=hxk
   clear hxk
   cases hx : inB x (-1) 1000000000
   ·go_wp2_with (go_at_call 34; refine (between_any _ _ _ _).mono ?_; rintro e w' ⟨rfl,rfl⟩)
    go_ret
    refine ⟨ret_int ?_,hBel⟩
    have hany:=any_at f.final k (by have:=HFL.out; omega) (by rw [<- HX.out,finB_in,hx]; rfl)
    have e1:=HFL.out
    have e3:=HL.out
    unfold checkD
    rw [hs,hst,e1,hany]
    simp [e3]
   ·go_wp2_with (go_at_call 34; refine (between_any _ _ _ _).mono ?_; rintro e w' ⟨rfl,rfl⟩)
    go_round
    case rel =>
     refine ⟨k + 1,by omega,by go_num,fun j hj => ?_⟩
     by_cases e : j = k
     ·subst e; rw [<- HX.out,finB_in,hx]; rfl
     ·exact HA.out j (by omega)
    case measure => simp [intOf]; omega
  ·have hany : f.final.any finB = false:=any_none f.final (fun j hj => HA.out j (by have:=HFL.out; omega))
   have HC : Hid (checkD f = 0):=by
    have e1:=HFL.out
    have e3:=HL.out
    show checkD f = _
    unfold checkD
    rw [hs,hst,e1,hany,hal]
    simp [e3,HNIL.out,arcsErr]
   clear hany HA hfx
   go_wp2
   go_loop [4] (fun i => i = .int .i64 0) (fun _ => 0)
   case atStart => rfl
   case round =>
    subst hrel
    go_wp2
    go_ret
    exact ⟨ret_int HC.out.symm,hBel⟩
set_option maxHeartbeats 1000000 in
theorem checkFst_any (f : FstD) (fin arcs : Value) (w : World) (hf : ISlice w fin f.final) (ha : ASlice w arcs f.arcs) :
  Calls Try.prog 8 #[.agg #[.int .i64 f.states,.int .i64 f.start,fin,arcs]] w fun e w' =>
   e = .returned (.int .i64 (checkD f)) /\ Below w.heap.size w w':=by
 obtain ⟨fa,fn,fc,rfl,hfl,hfm⟩:=hf.lenOf
 have HFL : Hid (f.final.length = fn):=hfl
 have HFM : Hid (fn <= maxLen):=hfm
 unfold maxLen at hfm
 clear hfl
 cases hs : inB f.states 1 200
 ·go_enter Try.func8,Try.ntmps8
  go_wp2_with (go_at_call 34; refine (between_any _ _ _ _).mono ?_; rintro e w' ⟨rfl,rfl⟩)
  go_ret
  exact ⟨ret_int (by simp [checkD,hs]),bel_up (bel_self _) _⟩
 ·obtain ⟨l1,l2⟩:=inB_le hs
  cases hst : inB f.start 0 (f.states - 1)
  ·go_enter Try.func8,Try.ntmps8
   go_wp2_with (go_at_call 34; refine (between_any _ _ _ _).mono ?_; rintro e w' ⟨rfl,rfl⟩)
   go_ret
   exact ⟨ret_int (by simp [checkD,hs,hst]),bel_up (bel_self _) _⟩
  ·by_cases hl : (fn : Int) = f.states
   ·obtain ⟨fb,foff,rfl,hfx⟩:=hf.some (by omega)
    rcases ha with ⟨aa,ac,rfl,hnil⟩ | ⟨b,off,n,cap,rfl,hx,hn⟩
    ·exact checkFst_nil f fb foff fn fc aa ac w hfx hnil HFM.out hs hst hl
    ·exact checkFst_some f fb foff fn fc b off n cap w hfx hx HFM.out hn hs hst hl
   ·have hln : ((fn : Int) != f.states) = true:=by simpa using hl
    go_enter Try.func8,Try.ntmps8
    go_wp2_with (go_at_call 34; refine (between_any _ _ _ _).mono ?_; rintro e w' ⟨rfl,rfl⟩)
    go_ret
    refine ⟨ret_int ?_,bel_up (bel_self _) _⟩
    have e1:=HFL.out
    unfold checkD
    rw [hs,hst,e1]
    simp [hl]
end Go.Proofs.Yteehgcbjmdideab
