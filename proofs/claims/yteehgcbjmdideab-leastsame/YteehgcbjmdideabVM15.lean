/- 'meet' of the subsets: the walk. (Made by wip/gen/owd.py.) -/
import Derived.Test.YteehgcbjmdideabVM14
import Derived.Test.YteehgcbjmdideabVM02
set_option maxRecDepth 100000
namespace Go.Proofs.Yteehgcbjmdideab
open Go.RowKit
attribute [local go_sem ↓] Go.wp_at_zero Go.wp_at_succ
theorem ones_int (l : List Int) : ∀ u ∈ intsW l,u.oneCell' = true:=by
 intro u hu
 unfold intsW at hu
 obtain ⟨x,_,rfl⟩:=List.mem_map.1 hu
 rfl
def MeetRes (w0 w : World) (B Mb : Nat) (v : Value) (ms : List (List Int)) (c : List Int) (e : Ending) (w' : World) : Prop :=
 ∃ (v' : Value) (j : Nat),e = .returned (.tuple #[.int .i64 (j : Int),.int .i64 (cheapD c)]) /\ SubW w0 w' B Mb v' (meetL ms (padL c)) /\ MStep B Mb w v w' v' /\ (meetL ms (padL c))[j]? = some (padL c)
theorem meetRes_mk {w0 w w' : World} {B Mb : Nat} {v : Value} {ms : List (List Int)} {c : List Int} {q : Int} (v' : Value) (j : Nat) (hq : q = cheapD c) (h1 : SubW w0 w' B Mb v' (meetL ms (padL c))) (h2 : MStep B Mb w v w' v') (h3 : (meetL ms (padL c))[j]? = some (padL c)) : MeetRes w0 w B Mb v ms c (.returned (.tuple #[.int .i64 (j : Int),.int .i64 q])) w':=⟨v',j,by rw [hq],h1,h2,h3⟩
set_option maxHeartbeats 2000000 in
theorem meet_walk (w0 : World) (B Mb : Nat) (v cv : Value) (ms : List (List Int)) (c : List Int) (w : World) (h : SubW w0 w B Mb v ms) (hI : ISlice w cv c) (hl : c.length <= 200) (hp : PrOk c) (hc : cheapD c ≠ -1) (hms : ms.length <= 1000) :
  Calls Try.prog 59 #[.pointer (some ⟨B,0,none⟩),cv] w fun e w' => MeetRes w0 w B Mb v ms c e w':=by
 obtain ⟨ca,n,cc,rfl,hcl,_⟩:=hI.lenOf
 have hch:=cheapest_any c _ w hI (by omega)
 have HI : Hid (ISlice w (.slice ca n cc) c):=hI
 have HL : Hid (c.length = n):=hcl
 have hn2 : n <= 200:=by omega
 have HPR : Hid (∀ k,gI c k = -1 \/ (0 <= gI c k /\ gI c k <= 302000000000 /\ cheapD c <= gI c k)):=fun k => by
  rcases cheapD_what c hp with ⟨e,_⟩ | ⟨e1,_,e3⟩
  ·exact absurd e hc
  ·unfold gI
   rw [List.getD_eq_getElem?_getD]
   rcases e : c[k]? with _ | y
   ·exact Or.inl rfl
   ·have h1:=hp y (List.mem_of_getElem? e)
    have h2:=e3 y (List.mem_of_getElem? e)
    show y = -1 \/ _
    rcases h1 with h1 | h1
    ·exact Or.inl h1
    ·rcases h2 with h2 | h2
     ·exact Or.inl h2
     ·exact Or.inr ⟨h1.1,h1.2,h2⟩
 have HPO : Hid (SubOk (padL c)):=padL_ok hp hc
 have hcb : 0 <= cheapD c /\ cheapD c <= 302000000000:=by
  rcases cheapD_what c hp with ⟨e,_⟩ | ⟨e1,e2,e3⟩
  ·exact absurd e hc
  ·refine ⟨e1,?_⟩
   have:=hp _ e2
   omega
 obtain ⟨q,hq⟩ : ∃ q,q = cheapD c:=⟨_,rfl⟩
 have HQ : Hid (q = cheapD c):=hq
 rw [<- hq] at hch hcb
 obtain ⟨hcb0,hcb1⟩:=hcb
 have hzv:=(zero_of_info zeroS).1
 obtain ⟨ob,hob⟩ : ∃ o : Obj,o = .cells (intsW (fillS 0)).toArray 80:=⟨_,rfl⟩
 obtain ⟨W1,hW1⟩ : ∃ W,W = w.alloc ob:=⟨_,rfl⟩
 obtain ⟨g,hg⟩ : ∃ g,g = w.heap.size:=⟨_,rfl⟩
 have hbA : Below w.heap.size w W1:=by rw [hW1]; exact bel_up (bel_self w) _
 have hbl : W1.heap[g]? = some (.cells (intsW (fillS 0)).toArray 80 (0,0)):=by rw [hW1,hg,hob]; exact heap_alloc_new w _
 have HGW : Hid (g = w.heap.size):=hg
 have HW1 : Hid (W1 = w.alloc (.cells (intsW (fillS 0)).toArray 80) /\ g = w.heap.size):=⟨by rw [hW1,hob],hg⟩
 clear hW1 hob hg hq hI hcl hl hp hc
 go_enter Try.func59,Try.ntmps59
 go_wp2_with (go_at_call 63; refine hch.mono ?_; rintro e w2 ⟨rfl,hw2⟩; obtain rfl:=hw2.symm)
 rw [<- HW1.out.1,<- HW1.out.2]
 clear HW1
 go_loopw [7,14] (fun _ t14 wx => ∃ k : Nat,k <= 200 /\ t14 = .int .i64 (k : Int) /\ wx.heap[g]? = some (.cells (intsW (fillS k)).toArray 80 (0,0)) /\ Below w.heap.size w wx /\ w.heap.size <= g) (fun _ t14 _ => 200 - (intOf t14).toNat)
 case atStart => exact ⟨0,Nat.zero_le _,rfl,hbl,hbA,by rw [HGW.out]; exact Nat.le_refl _⟩
 case round =>
  clear hbl hbA
  obtain ⟨k,hk,rfl,hbl,hbA,hge⟩:=hrel
  have hkw : IntKind.i64.wrap ((k : Int) + 1) = (k : Int) + 1:=wrap_in _ (by omega) (by omega)
  by_cases hlt : k < 200
  ·have hki : (k : Int) < 200:=by omega
   have c0:=intsW_cell (i:=k) hbl (by rw [fillS_len hk]; exact hlt)
   have f0:=Go.Joins.unfrozen_of_block hbl k
   have HN : Hid ((wr.setCell ⟨g,k,none⟩ (.int .i64 (-1))).heap[g]? = some (.cells (intsW (fillS (k + 1))).toArray 80 (0,0)) /\ Below w.heap.size w (wr.setCell ⟨g,k,none⟩ (.int .i64 (-1)))):=⟨by rw [<- fillS_set hlt]; exact intsW_set (-1) hbl,hbA.setCell (p:=⟨g,k,none⟩) hge _⟩
   clear hbl hbA
   go_wp2
   go_roundw
   case rel => exact ⟨k + 1,by omega,by go_num,HN.out.1,HN.out.2,hge⟩
   case measure => simp [intOf]; omega
  ·obtain rfl : k = 200:=by omega
   rw [<- padK_zero c] at hbl
   go_wp2
   go_loopw [8,9,22] (fun _ _ t22 wx => ∃ k : Nat,k <= n /\ t22 = .int .i64 (k : Int) /\ wx.heap[g]? = some (.cells (intsW (padK c k)).toArray 80 (0,0)) /\ Below w.heap.size w wx) (fun _ _ t22 _ => n - (intOf t22).toNat)
   case atStart => exact ⟨0,Nat.zero_le _,rfl,hbl,hbA⟩
   case round =>
    clear hbl hbA
    obtain ⟨k,hk,rfl,hbl,hbA⟩:=hrel
    have hkw : IntKind.i64.wrap ((k : Int) + 1) = (k : Int) + 1:=wrap_in _ (by omega) (by omega)
    by_cases hlk : k < n
    ·have hki : (k : Int) < n:=by omega
     have hk200 : (k : Int) < 200:=by omega
     obtain ⟨b,off,rfl,hx⟩:=(HI.out.below hbA).some (by omega)
     have d0:=hx.cell k hlk
     rw [gI_getD (by have:=HL.out; omega)] at d0
     have hpr:=HPR.out k
     obtain ⟨x,hxk⟩ : ∃ x,x = gI c k:=⟨_,rfl⟩
     have HXK : Hid (x = gI c k):=hxk
     rw [<- hxk] at d0 hpr
     rw [<- HQ.out] at hpr
     have c0:=intsW_cell (i:=k) hbl (by rw [padK_len]; omega)
     have f0:=Go.Joins.unfrozen_of_block hbl k
     by_cases h1 : x = -1
     ·subst h1
      have HN : Hid (wr.heap[g]? = some (.cells (intsW (padK c (k + 1))).toArray 80 (0,0)) /\ Below w.heap.size w wr):=⟨by rw [padK_none c hxk.symm]; exact hbl,hbA⟩
      clear hbl hbA hx hxk c0 f0
      go_wp2
      go_roundw
      case rel => exact ⟨k + 1,by omega,by go_num,HN.out.1,HN.out.2⟩
      case measure => simp [intOf]; omega
     ·have h1b : (x != -1) = true:=by simpa using h1
      have hwx : IntKind.i64.wrap (x - q) = x - q:=wrap_in _ (by omega) (by omega)
      have HN : Hid ((wr.setCell ⟨g,k,none⟩ (.int .i64 (x - q))).heap[g]? = some (.cells (intsW (padK c (k + 1))).toArray 80 (0,0)) /\ Below w.heap.size w (wr.setCell ⟨g,k,none⟩ (.int .i64 (x - q)))):=⟨by rw [padK_some c (by omega) (by rw [<- hxk]; exact h1),<- hxk,<- HQ.out]; exact intsW_set _ hbl,hbA.setCell (p:=⟨g,k,none⟩) hge _⟩
      clear hbl hbA hx hxk
      go_wp2
      go_roundw
      case rel => exact ⟨k + 1,by omega,by go_num,HN.out.1,HN.out.2⟩
      case measure => simp [intOf]; omega
    ·obtain rfl : n = k:=by omega
     have hkl : ¬ (n : Int) < n:=by omega
     have hbl' : wr.heap[g]? = some (.cells (intsW (padL c)).toArray 80 (0,0)):=by
      rw [<- padK_all c,HL.out]
      exact hbl
     have hS:=h.below hbA
     obtain ⟨l,hl⟩ : ∃ l,l = padL c:=⟨_,rfl⟩
     have HLP : Hid (l = padL c):=hl
     have HLL : Hid (l.length = 200):=by rw [hl]; exact padL_len c
     rw [<- hl] at hbl' HPO
     clear hbl hl
     go_wp2
     by_cases hn : l ∉ ms
     ·have HLK : Hid (∀ W,SubW w0 W B Mb v ms -> (Instr.lookup 72 (.map (some Mb)) (subV l) true).run Try.prog W = .ok (.tuple #[.int .i64 0,.bool false]) W):=fun W hW => by
       rcases sub_look hW.map hW.ok HPO.out with ⟨_,h2⟩ | ⟨j',h2,_,_⟩
       ·exact h2
       ·exact absurd (List.mem_of_getElem? h2) hn
      have HN : Hid (l ∉ ms):=hn
      clear hn
      obtain ⟨Wa,hWa⟩ : ∃ W,W = wr.drew:=⟨_,rfl⟩
      have hbWa : Below wr.heap.size wr Wa:=by rw [hWa]; exact (bel_self wr).drew
      have hSa:=hS.below hbWa
      have hga : Wa.heap[g]? = some (.cells (intsW l).toArray 80 (0,0)):=heap_bel hbWa hbl'
      have hS0 : (fun wx : World => SubW w0 wx B Mb v ms /\ wx.heap[g]? = some (.cells (intsW l).toArray 80 (0,0))) Wa:=⟨hSa,hga⟩
      have HWa : Hid (Wa = wr.drew):=hWa
      clear hWa
      refine wp_region_noPanic ?_
      refine wp_region_F (fun wx : World => SubW w0 wx B Mb v ms /\ wx.heap[g]? = some (.cells (intsW l).toArray 80 (0,0))) [] (by kernel_rfl) (by rw [<- HWa.out]; exact hS0) (fun _ => ?_)
      rw [<- HWa.out]
      clear HWa
      refine tkF (i:=0) (v:=.pointer (some ⟨B,0,none⟩)) rfl (by kernel_rfl) (fun _ _ _ h => h) (by rfl) hS0 (fun wl hSw => ?_) ?_
      ·obtain ⟨hs,hgg⟩:=hSw; have z0:=hs.c0; have z1:=hs.c1; clear hs hgg; go_simp
      refine tkF (i:=1) (v:=.pointer (some ⟨B,0,none⟩)) rfl (by kernel_rfl) (fun _ _ _ h => h) (by rfl) hS0 (fun wl hSw => ?_) ?_
      ·obtain ⟨hs,hgg⟩:=hSw; have z0:=hs.c0; have z1:=hs.c1; clear hs hgg; go_simp
      refine tkF (i:=2) (v:=.pointer (some ⟨B,1,none⟩)) rfl (by kernel_rfl) (fun _ _ _ h => h) (by rfl) hS0 (fun wl hSw => ?_) ?_
      ·obtain ⟨hs,hgg⟩:=hSw; have z0:=hs.c0; have z1:=hs.c1; clear hs hgg; go_simp
      refine tkF (i:=3) (v:=.map (some Mb)) rfl (by kernel_rfl) (fun _ _ _ h => h) (by rfl) hS0 (fun wl hSw => ?_) ?_
      ·obtain ⟨hs,hgg⟩:=hSw; have z0:=hs.c0; have z1:=hs.c1; clear hs hgg; go_simp
      go_simp
      refine tkF (i:=4) (v:=subV l) rfl (by kernel_rfl) (fun _ _ _ h => h) (by rfl) hS0 (fun wl hSw => ?_) ?_
      ·exact exec_load (g:=⟨g,0,none⟩) rfl rfl (load_spots hSw.2 HLL.out)
      go_simp
      refine tkF (i:=5) (v:=.tuple #[.int .i64 0,.bool false]) rfl (by kernel_rfl) (fun _ _ _ h => h) (by rfl) hS0 (fun wl hSw => ?_) ?_
      ·exact exec_look (m:=.map (some Mb)) (k:=subV l) rfl rfl rfl (HLK.out wl hSw.1)
      refine tkF (i:=6) (v:=.tuple #[.int .i64 0,.bool false]) rfl (by kernel_rfl) (fun _ _ _ h => h) (by rfl) hS0 (fun wl hSw => ?_) ?_
      ·obtain ⟨hs,hgg⟩:=hSw; have z0:=hs.c0; have z1:=hs.c1; clear hs hgg; go_simp
      refine tkF (i:=7) (v:=.int .i64 0) rfl (by kernel_rfl) (fun _ _ _ h => h) (by rfl) hS0 (fun wl hSw => ?_) ?_
      ·obtain ⟨hs,hgg⟩:=hSw; have z0:=hs.c0; have z1:=hs.c1; clear hs hgg; go_simp
      refine tkF (i:=8) (v:=.bool false) rfl (by kernel_rfl) (fun _ _ _ h => h) (by rfl) hS0 (fun wl hSw => ?_) ?_
      ·obtain ⟨hs,hgg⟩:=hSw; have z0:=hs.c0; have z1:=hs.c1; clear hs hgg; go_simp
      refine wpAnyF_one (i:=9) rfl (by kernel_rfl) (fun Kc hKc => ?_)
      go_simp
      refine hKc.out _ _ ⟨fun _ => hS0,?_⟩
      clear hKc Kc
      refine wpAnyF_one (i:=10) rfl (by kernel_rfl) (fun Kc hKc => ?_)
      go_simp
      refine hKc.out _ _ ⟨fun _ => hS0,?_⟩
      clear hKc Kc
      refine wpAnyF_done (by kernel_rfl) ?_ _
      refine NoPanic.normal ?_
      clear hS0
      go_wp2
      obtain ⟨va,vc,rfl⟩:=own_slice hSa.own
      obtain ⟨n0,hn0⟩ : ∃ n,n = ms.length:=⟨_,rfl⟩
      have HN0 : Hid (n0 = ms.length):=hn0
      obtain ⟨Wb,hWb⟩ : ∃ W,W = Wa.drew:=⟨_,rfl⟩
      have hbWb : Below Wa.heap.size Wa Wb:=by rw [hWb]; exact (bel_self Wa).drew
      have hSb:=hSa.below hbWb
      have hgb : Wb.heap[g]? = some (.cells (intsW l).toArray 80 (0,0)):=heap_bel hbWb hga
      obtain ⟨Wc,hput,hmc,hgc⟩:=sub_put hSb.map hSb.ok HPO.out HN.out
      rw [<- hn0] at hput hSb hSa hS HLK h
      have hS0 : (fun wx : World => SubW w0 wx B Mb (.slice va n0 vc) ms /\ wx.heap[g]? = some (.cells (intsW l).toArray 80 (0,0))) Wb:=⟨hSb,hgb⟩
      have HWb : Hid (Wb = Wa.drew):=hWb
      have hP:=hSb.put hgc hmc
      have hgne : some g ≠ some Mb:=fun e => by injection e with e; have:=h.map.lt; omega
      have hgC : Wc.heap[g]? = some (.cells (intsW l).toArray 80 (0,0)):=(hgc.block g (heap_lt hgb) hgne).trans hgb
      clear hWb hn0
      refine wp_region_noPanic ?_
      refine wp_region_F (fun wx : World => SubW w0 wx B Mb (.slice va n0 vc) ms /\ wx.heap[g]? = some (.cells (intsW l).toArray 80 (0,0))) [10] (by kernel_rfl) (by rw [<- HWb.out]; exact hS0) (fun _ => ?_)
      rw [<- HWb.out]
      clear HWb
      refine tkF (i:=0) (v:=.pointer (some ⟨B,0,none⟩)) rfl (by kernel_rfl) (fun _ _ _ h => h) (by rfl) hS0 (fun wl hSw => ?_) ?_
      ·obtain ⟨hs,hgg⟩:=hSw; have z0:=hs.c0; have z1:=hs.c1; clear hs hgg; go_simp
      refine tkF (i:=1) (v:=.pointer (some ⟨B,0,none⟩)) rfl (by kernel_rfl) (fun _ _ _ h => h) (by rfl) hS0 (fun wl hSw => ?_) ?_
      ·obtain ⟨hs,hgg⟩:=hSw; have z0:=hs.c0; have z1:=hs.c1; clear hs hgg; go_simp
      refine tkF (i:=2) (v:=.pointer (some ⟨B,1,none⟩)) rfl (by kernel_rfl) (fun _ _ _ h => h) (by rfl) hS0 (fun wl hSw => ?_) ?_
      ·obtain ⟨hs,hgg⟩:=hSw; have z0:=hs.c0; have z1:=hs.c1; clear hs hgg; go_simp
      refine tkF (i:=3) (v:=.map (some Mb)) rfl (by kernel_rfl) (fun _ _ _ h => h) (by rfl) hS0 (fun wl hSw => ?_) ?_
      ·obtain ⟨hs,hgg⟩:=hSw; have z0:=hs.c0; have z1:=hs.c1; clear hs hgg; go_simp
      go_simp
      refine tkF (i:=4) (v:=subV l) rfl (by kernel_rfl) (fun _ _ _ h => h) (by rfl) hS0 (fun wl hSw => ?_) ?_
      ·exact exec_load (g:=⟨g,0,none⟩) rfl rfl (load_spots hSw.2 HLL.out)
      refine tkF (i:=5) (v:=.pointer (some ⟨B,0,none⟩)) rfl (by kernel_rfl) (fun _ _ _ h => h) (by rfl) hS0 (fun wl hSw => ?_) ?_
      ·obtain ⟨hs,hgg⟩:=hSw; have z0:=hs.c0; have z1:=hs.c1; clear hs hgg; go_simp
      refine tkF (i:=6) (v:=.pointer (some ⟨B,0,none⟩)) rfl (by kernel_rfl) (fun _ _ _ h => h) (by rfl) hS0 (fun wl hSw => ?_) ?_
      ·obtain ⟨hs,hgg⟩:=hSw; have z0:=hs.c0; have z1:=hs.c1; clear hs hgg; go_simp
      refine tkF (i:=7) (v:=.pointer (some ⟨B,0,none⟩)) rfl (by kernel_rfl) (fun _ _ _ h => h) (by rfl) hS0 (fun wl hSw => ?_) ?_
      ·obtain ⟨hs,hgg⟩:=hSw; have z0:=hs.c0; have z1:=hs.c1; clear hs hgg; go_simp
      refine tkF (i:=8) (v:=.slice va n0 vc) rfl (by kernel_rfl) (fun _ _ _ h => h) (by rfl) hS0 (fun wl hSw => ?_) ?_
      ·obtain ⟨hs,hgg⟩:=hSw; have z0:=hs.c0; have z1:=hs.c1; clear hs hgg; go_simp
      refine tkF (i:=9) (v:=.int .i64 (n0 : Int)) rfl (by kernel_rfl) (fun _ _ _ h => h) (by rfl) hS0 (fun wl hSw => ?_) ?_
      ·obtain ⟨hs,hgg⟩:=hSw; have z0:=hs.c0; have z1:=hs.c1; clear hs hgg; go_simp
      go_simp
      refine wpAnyF_one (i:=10) rfl (by kernel_rfl) (fun Kc hKc => ?_)
      refine if_wanted rfl (wp_put (m:=.map (some Mb)) (k:=subV l) (v:=.int .i64 (n0 : Int)) rfl rfl rfl rfl hput ?_)
      refine hKc.out _ _ ⟨fun h => absurd h (unl_no (by kernel_rfl)),?_⟩
      clear hKc Kc
      refine wpAnyF_done (by kernel_rfl) ?_ _
      refine NoPanic.normal ?_
      go_simp
      clear hS0
      go_wp2
      obtain ⟨Wd,hWd⟩ : ∃ W,W = Wc.drew:=⟨_,rfl⟩
      have hbWd : Below Wc.heap.size Wc Wd:=by rw [hWd]; exact (bel_self Wc).drew
      have hPd:=hP.below hbWd
      have hgd : Wd.heap[g]? = some (.cells (intsW l).toArray 80 (0,0)):=heap_bel hbWd hgC
      have hS0 : (fun wx : World => wx.cell? ⟨B,0,none⟩ = some (.slice va n0 vc) /\ wx.heap[g]? = some (.cells (intsW l).toArray 80 (0,0))) Wd:=⟨hPd.c0,hgd⟩
      have HWd : Hid (Wd = Wc.drew):=hWd
      have hbE : Below Wd.heap.size Wd (Wd.alloc (.cells (intsW l).toArray 80)):=bel_up (bel_self _) _
      have hPe:=hPd.below hbE
      have hS1 : (fun wx : World => wx.cell? ⟨B,0,none⟩ = some (.slice va n0 vc) /\ wx.heap[g]? = some (.cells (intsW l).toArray 80 (0,0))) (Wd.alloc (.cells (intsW l).toArray 80)):=⟨hPe.c0,heap_bel hbE hgd⟩
      have hown:=hPe.own
      rw [<- HN0.out] at hown
      have hn3 : n0 <= 1000:=by rw [HN0.out]; exact hms
      have hvg : (Value.slice va n0 vc).ownBlock ≠ some g:=fun e => by have:=ownsRow_lt0 h.own g e; omega
      have hsz0 : w0.heap.size <= Wd.heap.size:=hPd.bel.size
      have HKEEP : Hid (∀ w6,(Wd.alloc (.cells (intsW l).toArray 80)).grownBy w6 (Value.slice va n0 vc).ownBlock -> (fun wx : World => wx.cell? ⟨B,0,none⟩ = some (.slice va n0 vc) /\ wx.heap[g]? = some (.cells (intsW l).toArray 80 (0,0))) w6 /\ w6.frozen? ⟨B,0,none⟩ = false):=fun w6 hg6 => ⟨⟨(hg6.cell_far ⟨B,0,none⟩ (cell_lt hPe.c0) (fun e => hPe.vb e.symm)).trans hPe.c0,(hg6.block g (heap_lt hS1.2) (fun e => hvg e.symm)).trans hS1.2⟩,frz_block (hg6.block B (cell_lt hPe.c0) (fun e => hPe.vb e.symm)) hPe.frz⟩
      have HFIN : Hid (∀ v' w6,w6.ownsRow w0.heap.size 80 200 v' (n0 + 1) (ms.flatMap intsW ++ intsW l) -> (Wd.alloc (.cells (intsW l).toArray 80)).grownBy w6 (Value.slice va n0 vc).ownBlock -> (v'.ownBlock = (Value.slice va n0 vc).ownBlock \/ v'.ownBlock = some (Wd.alloc (.cells (intsW l).toArray 80)).heap.size) -> SubW w0 (w6.setCell ⟨B,0,none⟩ v') B Mb v' (ms ++ [l]) /\ MStep B Mb w (.slice va n0 vc) (w6.setCell ⟨B,0,none⟩ v') v' /\ (w6.setCell ⟨B,0,none⟩ v').heap[g]? = some (.cells (intsW l).toArray 80 (0,0))):=fun v' w6 h1 h2 h3 => by
       refine ⟨hPe.app h.ok h.nd HPO.out HN.out h2 (by rw [<- HN0.out]; exact h1) h3,?_,?_⟩
       ·exact ((((MStep.bel (bel_on (bel_on hbA hbWa) hbWb)).trans (MStep.map hgc)).trans (MStep.bel hbWd)).trans (MStep.bel hbE)).trans (MStep.app h2 h3)
       ·exact heap_far ((HKEEP.out w6 h2).1.2) (by have:=cell_lt h.c0; omega)
      obtain ⟨isp,hisp,hisz,hiss,hisb⟩:=infoSp
      clear hWd hSb hS hgc hmc hput hP hPd hPe hgC hgd hbWd hbE hgb hga hSa
      refine wp_region_noPanic ?_
      refine wp_region_U (fun wx : World => wx.cell? ⟨B,0,none⟩ = some (.slice va n0 vc) /\ wx.heap[g]? = some (.cells (intsW l).toArray 80 (0,0))) 10 (by kernel_rfl) (by rw [<- HWd.out]; exact hS0) (fun _ => ?_)
      rw [<- HWd.out]
      clear HWd
      refine tkU (i:=0) (v:=.pointer (some ⟨B,0,none⟩)) rfl (by kernel_rfl) (fun _ _ _ h => h) (by rfl) hS0 (fun wl hSw => ?_) ?_
      ·(try dsimp only at hSw); obtain ⟨z0,zg⟩:=hSw; clear zg; go_simp
      refine tkU (i:=1) (v:=.pointer (some ⟨B,0,none⟩)) rfl (by kernel_rfl) (fun _ _ _ h => h) (by rfl) hS0 (fun wl hSw => ?_) ?_
      ·(try dsimp only at hSw); obtain ⟨z0,zg⟩:=hSw; clear zg; go_simp
      refine tkU (i:=2) (v:=.pointer (some ⟨B,0,none⟩)) rfl (by kernel_rfl) (fun _ _ _ h => h) (by rfl) hS0 (fun wl hSw => ?_) ?_
      ·(try dsimp only at hSw); obtain ⟨z0,zg⟩:=hSw; clear zg; go_simp
      refine tkU (i:=3) (v:=.pointer (some ⟨B,0,none⟩)) rfl (by kernel_rfl) (fun _ _ _ h => h) (by rfl) hS0 (fun wl hSw => ?_) ?_
      ·(try dsimp only at hSw); obtain ⟨z0,zg⟩:=hSw; clear zg; go_simp
      refine tkU (i:=4) (v:=.slice va n0 vc) rfl (by kernel_rfl) (fun _ _ _ h => h) (by rfl) hS0 (fun wl hSw => ?_) ?_
      ·(try dsimp only at hSw); obtain ⟨z0,zg⟩:=hSw; clear zg; go_simp
      refine tkU (i:=5) (v:=subV l) rfl (by kernel_rfl) (fun _ _ _ h => h) (by rfl) hS0 (fun wl hSw => ?_) ?_
      ·exact exec_load (g:=⟨g,0,none⟩) rfl rfl (load_spots hSw.2 HLL.out)
      go_simp
      refine wpAnyU_one (i:=6) rfl (by kernel_rfl) (fun Kc hKc => ?_)
      refine if_wanted rfl (wp_build_spots (l:=l) rfl rfl HLL.out ?_)
      refine hKc.out _ _ ⟨fun _ => hS1,?_⟩
      clear hKc Kc
      go_simp
      refine wpAnyU_one (i:=7) rfl (by kernel_rfl) (fun Kc hKc => ?_)
      refine if_wanted rfl (wp_app_at _ _ 73 rfl w0.heap.size 80 isp (.agg (intsW (fillS 0)).toArray) 200 1600 und_sl hisp hisz hiss hisb (by simp [Value.cells,intsW,fillS]) (by decide) (.slice va n0 vc) n0 _ rfl hown ⟨Wd.heap.size,0,none⟩ 1 1 (intsW l) rfl (by simp [intsW,HLL.out]) (cells_new Wd (intsW l).toArray 80 _ rfl) (ones_int l) (by unfold maxLen; omega) (by omega) (by rw [one_size]; omega) ?_)
      intro v' w6 hown' hgrow hvv
      obtain ⟨va',vc',rfl⟩:=own_slice hown'
      have HF : Hid _:=HFIN.out _ w6 hown' hgrow hvv
      obtain ⟨hS2,hfz⟩:=HKEEP.out w6 hgrow
      clear hown' hgrow hvv hown HFIN HKEEP hS0 hS1
      refine hKc.out _ _ ⟨fun _ => hS2,?_⟩
      clear hKc Kc
      refine wpAnyU_one (i:=8) rfl (by kernel_rfl) (fun Kc hKc => ?_)
      go_simp
      refine hKc.out _ _ ⟨fun _ => hS2,?_⟩
      clear hKc Kc
      refine wpAnyU_one (i:=9) rfl (by kernel_rfl) (fun Kc hKc => ?_)
      go_simp
      refine hKc.out _ _ ⟨fun _ => hS2,?_⟩
      clear hKc Kc
      have z3:=hS2.1
      refine wpAnyU_one (i:=10) rfl (by kernel_rfl) (fun Kc hKc => ?_)
      go_simp
      refine hKc.out _ _ ⟨fun h => absurd rfl h,?_⟩
      clear hKc Kc
      refine wpAnyU_done (by kernel_rfl) ?_ _
      refine NoPanic.normal ?_
      clear z3 hfz hS2
      obtain ⟨We,hWe⟩ : ∃ W,W = w6.setCell ⟨B,0,none⟩ (.slice va' (n0 + 1) vc'):=⟨_,rfl⟩
      obtain ⟨hSe,hMe,hge'⟩:=HF.out
      rw [<- hWe] at hSe hMe hge'
      have HWe : Hid (We = w6.setCell ⟨B,0,none⟩ (.slice va' (n0 + 1) vc')):=hWe
      have HME : Hid _:=hMe
      have HL2 : Hid (∀ W,SubW w0 W B Mb (.slice va' (n0 + 1) vc') (ms ++ [l]) -> (Instr.lookup 72 (.map (some Mb)) (subV l) false).run Try.prog W = .ok (.int .i64 (n0 : Int)) W):=fun W hW => by
       have hin : (ms ++ [l])[n0]? = some l:=by rw [HN0.out]; simp
       rcases sub_look hW.map hW.ok HPO.out with ⟨h2,_⟩ | ⟨j',h2,_,h3⟩
       ·exact absurd (List.mem_of_getElem? hin) h2
       ·obtain rfl:=nodupL_get hW.nd hin h2
        exact h3
      clear hWe hMe HF
      go_wp2
      rw [<- HWe.out]
      clear HWe
      obtain ⟨Wz,hWz⟩ : ∃ W,W = We.drew:=⟨_,rfl⟩
      have hbWz : Below We.heap.size We Wz:=by rw [hWz]; exact (bel_self We).drew
      have hSz : (fun wx : World => SubW w0 wx B Mb (.slice va' (n0 + 1) vc') (ms ++ [l]) /\ wx.heap[g]? = some (.cells (intsW l).toArray 80 (0,0))) Wz:=⟨hSe.below hbWz,heap_bel hbWz hge'⟩
      have HWz : Hid (Wz = We.drew):=hWz
      clear hWz
      refine wp_region_noPanic ?_
      refine wp_region_F (fun wx : World => SubW w0 wx B Mb (.slice va' (n0 + 1) vc') (ms ++ [l]) /\ wx.heap[g]? = some (.cells (intsW l).toArray 80 (0,0))) [] (by kernel_rfl) (by rw [<- HWz.out]; exact hSz) (fun _ => ?_)
      rw [<- HWz.out]
      clear HWz
      refine tkF (i:=0) (v:=.pointer (some ⟨B,0,none⟩)) rfl (by kernel_rfl) (fun _ _ _ h => h) (by rfl) hSz (fun wl hSw => ?_) ?_
      ·obtain ⟨hs,hgg⟩:=hSw; have z0:=hs.c0; have z1:=hs.c1; clear hs hgg; go_simp
      refine tkF (i:=1) (v:=.pointer (some ⟨B,0,none⟩)) rfl (by kernel_rfl) (fun _ _ _ h => h) (by rfl) hSz (fun wl hSw => ?_) ?_
      ·obtain ⟨hs,hgg⟩:=hSw; have z0:=hs.c0; have z1:=hs.c1; clear hs hgg; go_simp
      refine tkF (i:=2) (v:=.pointer (some ⟨B,1,none⟩)) rfl (by kernel_rfl) (fun _ _ _ h => h) (by rfl) hSz (fun wl hSw => ?_) ?_
      ·obtain ⟨hs,hgg⟩:=hSw; have z0:=hs.c0; have z1:=hs.c1; clear hs hgg; go_simp
      refine tkF (i:=3) (v:=.map (some Mb)) rfl (by kernel_rfl) (fun _ _ _ h => h) (by rfl) hSz (fun wl hSw => ?_) ?_
      ·obtain ⟨hs,hgg⟩:=hSw; have z0:=hs.c0; have z1:=hs.c1; clear hs hgg; go_simp
      go_simp
      refine tkF (i:=4) (v:=subV l) rfl (by kernel_rfl) (fun _ _ _ h => h) (by rfl) hSz (fun wl hSw => ?_) ?_
      ·exact exec_load (g:=⟨g,0,none⟩) rfl rfl (load_spots hSw.2 HLL.out)
      go_simp
      refine tkF (i:=5) (v:=.int .i64 (n0 : Int)) rfl (by kernel_rfl) (fun _ _ _ h => h) (by rfl) hSz (fun wl hSw => ?_) ?_
      ·exact exec_look (m:=.map (some Mb)) (k:=subV l) rfl rfl rfl (HL2.out wl hSw.1)
      refine tkF (i:=6) (v:=.int .i64 q) rfl (by kernel_rfl) (fun _ _ _ h => h) (by rfl) hSz (fun wl hSw => ?_) ?_
      ·obtain ⟨hs,hgg⟩:=hSw; have z0:=hs.c0; have z1:=hs.c1; clear hs hgg; go_simp
      refine wpAnyF_one (i:=7) rfl (by kernel_rfl) (fun Kc hKc => ?_)
      go_simp
      refine hKc.out _ _ ⟨fun _ => hSz,?_⟩
      clear hKc Kc
      refine wpAnyF_one (i:=8) rfl (by kernel_rfl) (fun Kc hKc => ?_)
      go_simp
      refine hKc.out _ _ ⟨fun _ => hSz,?_⟩
      clear hKc Kc
      refine wpAnyF_done (by kernel_rfl) ?_ _
      refine NoPanic.normal ?_
      go_wp2
      exact bodyPost_ret (v:=.tuple #[.int .i64 (n0 : Int),.int .i64 q]) (by simp [results,Try.results59,go_sem, *]) rfl (meetRes_mk (.slice va' (n0 + 1) vc') n0 HQ.out (by rw [<- HLP.out]; unfold meetL; rw [if_neg HN.out]; exact hSz.1) (by rw [<- HN0.out]; exact HME.out.trans (MStep.bel hbWz)) (by rw [<- HLP.out]; unfold meetL; rw [if_neg HN.out,HN0.out]; simp))
     ·obtain ⟨j,hj,HLK,HL2⟩ : ∃ j : Nat,ms[j]? = some l /\ Hid (∀ W,SubW w0 W B Mb v ms -> (Instr.lookup 72 (.map (some Mb)) (subV l) true).run Try.prog W = .ok (.tuple #[.int .i64 (j : Int),.bool true]) W) /\ Hid (∀ W,SubW w0 W B Mb v ms -> (Instr.lookup 72 (.map (some Mb)) (subV l) false).run Try.prog W = .ok (.int .i64 (j : Int)) W):=by
       rcases sub_look hS.map hS.ok HPO.out with ⟨h1,_⟩ | ⟨j,h1,_,_⟩
       ·exact absurd h1 hn
       ·refine ⟨j,h1,fun W hW => ?_,fun W hW => ?_⟩
        ·rcases sub_look hW.map hW.ok HPO.out with ⟨h2,_⟩ | ⟨j',h2,h3,_⟩
         ·exact absurd h2 hn
         ·obtain rfl:=nodupL_get hW.nd h1 h2
          exact h3
        ·rcases sub_look hW.map hW.ok HPO.out with ⟨h2,_⟩ | ⟨j',h2,_,h3⟩
         ·exact absurd h2 hn
         ·obtain rfl:=nodupL_get hW.nd h1 h2
          exact h3
      have HJ : Hid (ms[j]? = some l /\ l ∈ ms):=⟨hj,Classical.byContradiction hn⟩
      clear hj hn
      obtain ⟨Wa,hWa⟩ : ∃ W,W = wr.drew:=⟨_,rfl⟩
      have hbWa : Below wr.heap.size wr Wa:=by rw [hWa]; exact (bel_self wr).drew
      have hSa:=hS.below hbWa
      have hga : Wa.heap[g]? = some (.cells (intsW l).toArray 80 (0,0)):=heap_bel hbWa hbl'
      have hS0 : (fun wx : World => SubW w0 wx B Mb v ms /\ wx.heap[g]? = some (.cells (intsW l).toArray 80 (0,0))) Wa:=⟨hSa,hga⟩
      have HWa : Hid (Wa = wr.drew):=hWa
      clear hWa
      refine wp_region_noPanic ?_
      refine wp_region_F (fun wx : World => SubW w0 wx B Mb v ms /\ wx.heap[g]? = some (.cells (intsW l).toArray 80 (0,0))) [] (by kernel_rfl) (by rw [<- HWa.out]; exact hS0) (fun _ => ?_)
      rw [<- HWa.out]
      clear HWa
      refine tkF (i:=0) (v:=.pointer (some ⟨B,0,none⟩)) rfl (by kernel_rfl) (fun _ _ _ h => h) (by rfl) hS0 (fun wl hSw => ?_) ?_
      ·obtain ⟨hs,hgg⟩:=hSw; have z0:=hs.c0; have z1:=hs.c1; clear hs hgg; go_simp
      refine tkF (i:=1) (v:=.pointer (some ⟨B,0,none⟩)) rfl (by kernel_rfl) (fun _ _ _ h => h) (by rfl) hS0 (fun wl hSw => ?_) ?_
      ·obtain ⟨hs,hgg⟩:=hSw; have z0:=hs.c0; have z1:=hs.c1; clear hs hgg; go_simp
      refine tkF (i:=2) (v:=.pointer (some ⟨B,1,none⟩)) rfl (by kernel_rfl) (fun _ _ _ h => h) (by rfl) hS0 (fun wl hSw => ?_) ?_
      ·obtain ⟨hs,hgg⟩:=hSw; have z0:=hs.c0; have z1:=hs.c1; clear hs hgg; go_simp
      refine tkF (i:=3) (v:=.map (some Mb)) rfl (by kernel_rfl) (fun _ _ _ h => h) (by rfl) hS0 (fun wl hSw => ?_) ?_
      ·obtain ⟨hs,hgg⟩:=hSw; have z0:=hs.c0; have z1:=hs.c1; clear hs hgg; go_simp
      go_simp
      refine tkF (i:=4) (v:=subV l) rfl (by kernel_rfl) (fun _ _ _ h => h) (by rfl) hS0 (fun wl hSw => ?_) ?_
      ·exact exec_load (g:=⟨g,0,none⟩) rfl rfl (load_spots hSw.2 HLL.out)
      go_simp
      refine tkF (i:=5) (v:=.tuple #[.int .i64 (j : Int),.bool true]) rfl (by kernel_rfl) (fun _ _ _ h => h) (by rfl) hS0 (fun wl hSw => ?_) ?_
      ·exact exec_look (m:=.map (some Mb)) (k:=subV l) rfl rfl rfl (HLK.out wl hSw.1)
      refine tkF (i:=6) (v:=.tuple #[.int .i64 (j : Int),.bool true]) rfl (by kernel_rfl) (fun _ _ _ h => h) (by rfl) hS0 (fun wl hSw => ?_) ?_
      ·obtain ⟨hs,hgg⟩:=hSw; have z0:=hs.c0; have z1:=hs.c1; clear hs hgg; go_simp
      refine tkF (i:=7) (v:=.int .i64 (j : Int)) rfl (by kernel_rfl) (fun _ _ _ h => h) (by rfl) hS0 (fun wl hSw => ?_) ?_
      ·obtain ⟨hs,hgg⟩:=hSw; have z0:=hs.c0; have z1:=hs.c1; clear hs hgg; go_simp
      refine tkF (i:=8) (v:=.bool true) rfl (by kernel_rfl) (fun _ _ _ h => h) (by rfl) hS0 (fun wl hSw => ?_) ?_
      ·obtain ⟨hs,hgg⟩:=hSw; have z0:=hs.c0; have z1:=hs.c1; clear hs hgg; go_simp
      refine wpAnyF_one (i:=9) rfl (by kernel_rfl) (fun Kc hKc => ?_)
      go_simp
      refine hKc.out _ _ ⟨fun _ => hS0,?_⟩
      clear hKc Kc
      refine wpAnyF_one (i:=10) rfl (by kernel_rfl) (fun Kc hKc => ?_)
      go_simp
      refine hKc.out _ _ ⟨fun _ => hS0,?_⟩
      clear hKc Kc
      refine wpAnyF_done (by kernel_rfl) ?_ _
      refine NoPanic.normal ?_
      clear hS0
      go_wp2
      obtain ⟨Wz,hWz⟩ : ∃ W,W = Wa.drew:=⟨_,rfl⟩
      have hbWz : Below Wa.heap.size Wa Wz:=by rw [hWz]; exact (bel_self Wa).drew
      have hSz : (fun wx : World => SubW w0 wx B Mb v ms /\ wx.heap[g]? = some (.cells (intsW l).toArray 80 (0,0))) Wz:=⟨hSa.below hbWz,heap_bel hbWz hga⟩
      have HWz : Hid (Wz = Wa.drew):=hWz
      clear hWz
      refine wp_region_noPanic ?_
      refine wp_region_F (fun wx : World => SubW w0 wx B Mb v ms /\ wx.heap[g]? = some (.cells (intsW l).toArray 80 (0,0))) [] (by kernel_rfl) (by rw [<- HWz.out]; exact hSz) (fun _ => ?_)
      rw [<- HWz.out]
      clear HWz
      refine tkF (i:=0) (v:=.pointer (some ⟨B,0,none⟩)) rfl (by kernel_rfl) (fun _ _ _ h => h) (by rfl) hSz (fun wl hSw => ?_) ?_
      ·obtain ⟨hs,hgg⟩:=hSw; have z0:=hs.c0; have z1:=hs.c1; clear hs hgg; go_simp
      refine tkF (i:=1) (v:=.pointer (some ⟨B,0,none⟩)) rfl (by kernel_rfl) (fun _ _ _ h => h) (by rfl) hSz (fun wl hSw => ?_) ?_
      ·obtain ⟨hs,hgg⟩:=hSw; have z0:=hs.c0; have z1:=hs.c1; clear hs hgg; go_simp
      refine tkF (i:=2) (v:=.pointer (some ⟨B,1,none⟩)) rfl (by kernel_rfl) (fun _ _ _ h => h) (by rfl) hSz (fun wl hSw => ?_) ?_
      ·obtain ⟨hs,hgg⟩:=hSw; have z0:=hs.c0; have z1:=hs.c1; clear hs hgg; go_simp
      refine tkF (i:=3) (v:=.map (some Mb)) rfl (by kernel_rfl) (fun _ _ _ h => h) (by rfl) hSz (fun wl hSw => ?_) ?_
      ·obtain ⟨hs,hgg⟩:=hSw; have z0:=hs.c0; have z1:=hs.c1; clear hs hgg; go_simp
      go_simp
      refine tkF (i:=4) (v:=subV l) rfl (by kernel_rfl) (fun _ _ _ h => h) (by rfl) hSz (fun wl hSw => ?_) ?_
      ·exact exec_load (g:=⟨g,0,none⟩) rfl rfl (load_spots hSw.2 HLL.out)
      go_simp
      refine tkF (i:=5) (v:=.int .i64 (j : Int)) rfl (by kernel_rfl) (fun _ _ _ h => h) (by rfl) hSz (fun wl hSw => ?_) ?_
      ·exact exec_look (m:=.map (some Mb)) (k:=subV l) rfl rfl rfl (HL2.out wl hSw.1)
      refine tkF (i:=6) (v:=.int .i64 q) rfl (by kernel_rfl) (fun _ _ _ h => h) (by rfl) hSz (fun wl hSw => ?_) ?_
      ·obtain ⟨hs,hgg⟩:=hSw; have z0:=hs.c0; have z1:=hs.c1; clear hs hgg; go_simp
      refine wpAnyF_one (i:=7) rfl (by kernel_rfl) (fun Kc hKc => ?_)
      go_simp
      refine hKc.out _ _ ⟨fun _ => hSz,?_⟩
      clear hKc Kc
      refine wpAnyF_one (i:=8) rfl (by kernel_rfl) (fun Kc hKc => ?_)
      go_simp
      refine hKc.out _ _ ⟨fun _ => hSz,?_⟩
      clear hKc Kc
      refine wpAnyF_done (by kernel_rfl) ?_ _
      refine NoPanic.normal ?_
      go_wp2
      exact bodyPost_ret (v:=.tuple #[.int .i64 (j : Int),.int .i64 q]) (by simp [results,Try.results59,go_sem, *]) rfl (meetRes_mk v j HQ.out (by rw [<- HLP.out]; unfold meetL; rw [if_pos HJ.out.2]; exact hSz.1) (MStep.bel (bel_on (bel_on hbA hbWa) hbWz)) (by rw [<- HLP.out]; unfold meetL; rw [if_pos HJ.out.2]; exact HJ.out.1))
end Go.Proofs.Yteehgcbjmdideab
/- What 'Subsets' builds,and how it stands in memory. -/
namespace Go.Proofs.Yteehgcbjmdideab
open Go.RowKit
def idxL : List (List Int) -> List Int -> Nat
 | [],_ => 0
 | a :: t,l => if a = l then 0 else idxL t l + 1
theorem idxL_at {ms : List (List Int)} {l : List Int} (h : l ∈ ms) : ms[idxL ms l]? = some l:=by
 induction ms with
 | nil => cases h
 | cons a t ih =>
  unfold idxL
  by_cases e : a = l
  ·rw [if_pos e,e]; rfl
  ·rw [if_neg e,List.getElem?_cons_succ]
   rcases List.mem_cons.1 h with h | h
   ·exact absurd h.symm e
   ·exact ih h
theorem meetL_mem (ms : List (List Int)) (l : List Int) : l ∈ meetL ms l:=by
 unfold meetL
 split
 ·assumption
 ·simp
def letS (at' : List Int) (N : Nat) (ars : List ArcD) (k i : Nat) (S : List (List Int) × List ArcD) : List (List Int) × List ArcD :=
 if cheapD (behL at' N ars i) = -1 then S else
 (meetL S.1 (padL (behL at' N ars i)),S.2 ++ [⟨(k : Int),(i : Int) + 1,(i : Int) + 1,((idxL (meetL S.1 (padL (behL at' N ars i))) (padL (behL at' N ars i)) : Nat) : Int),cheapD (behL at' N ars i)⟩])
def letsN (at' : List Int) (N : Nat) (ars : List ArcD) (k : Nat) : Nat -> List (List Int) × List ArcD -> List (List Int) × List ArcD
 | 0,S => S
 | i + 1,S => letS at' N ars k i (letsN at' N ars k i S)
structure SubD where
 ms : List (List Int)
 fin : List Int
 ars : List ArcD
def atS (N : Nat) (S : SubD) (k : Nat) : List Int:=(S.ms.getD k []).take N
def subR (f : FstD) (N : Nat) : Nat -> SubD
 | 0 => ⟨[padL ((List.replicate N (-1)).set f.start.toNat 0)],[],[]⟩
 | k + 1 => ⟨(letsN (atS N (subR f N k) k) N f.arcs k 9 ((subR f N k).ms,(subR f N k).ars)).1,(subR f N k).fin ++ [ownEnd f (atS N (subR f N k) k)],(letsN (atS N (subR f N k) k) N f.arcs k 9 ((subR f N k).ms,(subR f N k).ars)).2⟩
def SubB (ms : List (List Int)) : Prop:=∀ (j : Nat) (l : List Int),ms[j]? = some l -> l.length = 200 /\ ∀ x ∈ l,x = -1 \/ (0 <= x /\ x <= (j : Int) * 1000000000)
theorem behL_bound {at' : List Int} {N : Nat} {ars : List ArcD} {M : Int} (ha : ∀ s,gI at' s = -1 \/ (0 <= gI at' s /\ gI at' s <= M)) (hw : ∀ a ∈ ars,0 <= a.wt /\ a.wt <= 1000000000) (j : Nat) : ∀ x ∈ behL at' N ars j,x = -1 \/ (0 <= x /\ x <= M + 1000000000):=by
 have key : ∀ (l : List Int),(∀ x ∈ l,x = -1 \/ (0 <= x /\ x <= M + 1000000000)) -> ∀ x ∈ ars.foldl (stepB at' j) l,x = -1 \/ (0 <= x /\ x <= M + 1000000000):=by
  induction ars with
  | nil => intro l h x hx; exact h x hx
  | cons a ars ih =>
   intro l h
   rw [List.foldl_cons]
   refine ih (fun b hb => hw b (List.mem_cons_of_mem _ hb)) _ fun x hx => ?_
   unfold stepB at hx
   split at hx
   ·split at hx
    ·rcases List.mem_or_eq_of_mem_set hx with hx | hx
     ·exact h x hx
     ·have h1:=ha a.src.toNat
      have h2:=hw a List.mem_cons_self
      rw [hx]
      unfold plusC
      split
      ·exact Or.inl rfl
      ·right; omega
    ·exact h x hx
   ·exact h x hx
 exact key _ (fun x hx => Or.inl (List.eq_of_mem_replicate hx))
theorem padL_bound {c : List Int} {M : Int} (h : ∀ x ∈ c,x = -1 \/ (0 <= x /\ x <= M)) (hM : M <= 302000000000) (hc : cheapD c ≠ -1) : ∀ x ∈ padL c,x = -1 \/ (0 <= x /\ x <= M):=by
 intro x hx
 have hp : PrOk c:=fun x hx => by have:=h x hx; omega
 rcases cheapD_what c hp with ⟨e,_⟩ | ⟨e1,_,e3⟩
 ·exact absurd e hc
 ·unfold padL at hx
  obtain ⟨s,_,rfl⟩:=List.mem_map.1 hx
  split
  ·exact Or.inl rfl
  ·rename_i hn
   have hm : gI c s ∈ c:=by
    unfold gI at hn ⊢
    rw [List.getD_eq_getElem?_getD] at hn ⊢
    rcases e : c[s]? with _ | y
    ·rw [e] at hn; exact absurd rfl hn
    ·exact List.mem_of_getElem? e
   have h1:=h _ hm
   have h2:=e3 _ hm
   right
   omega
theorem meetL_B {ms : List (List Int)} {l : List Int} (h : SubB ms) {k : Nat} (hk : k < ms.length) (hl : l.length = 200) (hb : ∀ x ∈ l,x = -1 \/ (0 <= x /\ x <= (k : Int) * 1000000000 + 1000000000)) : SubB (meetL ms l):=by
 unfold meetL
 split
 ·exact h
 ·intro j m hj
  by_cases e : j < ms.length
  ·rw [List.getElem?_append_left e] at hj
   exact h j m hj
  ·have hlt:=(List.getElem?_eq_some_iff.1 hj).1
   rw [List.length_append,List.length_singleton] at hlt
   have hje : j = ms.length:=by omega
   subst hje
   rw [List.getElem?_append_right (Nat.le_refl _),Nat.sub_self] at hj
   have : l = m:=by simpa using hj
   subst this
   refine ⟨hl,fun x hx => ?_⟩
   rcases hb x hx with h1 | h1
   ·exact Or.inl h1
   ·right; omega
theorem meetL_len (ms : List (List Int)) (l : List Int) : ms.length <= (meetL ms l).length /\ (meetL ms l).length <= ms.length + 1:=by
 unfold meetL
 split
 ·omega
 ·simp
theorem own_same {w w' : World} {B e size n : Nat} {v : Value} {xs : List Value} (h : w.ownsRow B e size v n xs) (hb : ∀ b,v.ownBlock = some b -> w'.heap[b]? = w.heap[b]?) : w'.ownsRow B e size v n xs:=by
 obtain ⟨h0,h⟩:=h
 refine ⟨h0,?_⟩
 rcases h with h | ⟨g,cap,cur,rfl,hg,h1,h2⟩
 ·exact Or.inl h
 ·exact Or.inr ⟨g,cap,cur,rfl,hg,(hb g rfl).trans h1,h2⟩
structure GW (w wr : World) (N : Nat) (sta : Int) (fin arcs : Value) (B Mb Q : Nat) (v fv av : Value) (ms : List (List Int)) (fs : List Int) (rs : List ArcD) : Prop where
 cf : CellsF wr w.heap.size (N : Int) sta fin arcs
 res : ZBlock wr (w.heap.size + 1)
 sub : SubW w wr B Mb v ms
 q0 : wr.cell? ⟨Q,0,none⟩ = some (.int .i64 0)
 q1 : wr.cell? ⟨Q,1,none⟩ = some (.int .i64 0)
 q2 : wr.cell? ⟨Q,2,none⟩ = some fv
 q3 : wr.cell? ⟨Q,3,none⟩ = some av
 qf : ∀ i,wr.frozen? ⟨Q,i,none⟩ = false
 fo : wr.ownsRow (Q + 1) 3 1 fv fs.length (intsW fs)
 ao : wr.ownsRow (Q + 1) 54 5 av rs.length (arcsV rs)
 hM : w.heap.size + 1 < Mb
 hB : Mb < B
 hQ : B < Q
 vs : ∀ b,v.ownBlock = some b -> w.heap.size + 1 < b /\ b ≠ Q /\ fv.ownBlock ≠ some b /\ av.ownBlock ≠ some b
 fa : ∀ b,fv.ownBlock = some b -> av.ownBlock ≠ some b
section
variable {w wr wx : World} {N : Nat} {sta : Int} {fin arcs : Value} {B Mb Q : Nat} {v v' fv av : Value} {ms ms' : List (List Int)} {fs : List Int} {rs : List ArcD}
theorem GW.below (h : GW w wr N sta fin arcs B Mb Q v fv av ms fs rs) (hb : Below wr.heap.size wr wx) : GW w wx N sta fin arcs B Mb Q v fv av ms fs rs :=
 ⟨h.cf.below hb,heap_bel hb h.res,h.sub.below hb,bel_c hb h.q0,bel_c hb h.q1,bel_c hb h.q2,bel_c hb h.q3,fun i => (hb.frozen (p:=⟨Q,i,none⟩) (cell_lt h.q0)).trans (h.qf i),ownsRow_bel h.fo hb,ownsRow_bel h.ao hb,h.hM,h.hB,h.hQ,h.vs,h.fa⟩
theorem cells_same {w w' : World} {b k : Nat} {u : Value} (hb : w'.heap[b]? = w.heap[b]?) (h : w.cell? ⟨b,k,none⟩ = some u) : w'.cell? ⟨b,k,none⟩ = some u:=(World.cell?_of_block (w:=w) (a:=⟨b,k,none⟩) hb).trans h
theorem GW.meet (h : GW w wr N sta fin arcs B Mb Q v fv av ms fs rs) (hm : MStep B Mb wr v wx v') (hs : SubW w wx B Mb v' ms') : GW w wx N sta fin arcs B Mb Q v' fv av ms' fs rs:=by
 have a1:=h.hM
 have a2:=h.hB
 have a3:=h.hQ
 have hQl:=cell_lt h.q0
 have bk : ∀ b,b < wr.heap.size -> b ≠ B -> b ≠ Mb -> v.ownBlock ≠ some b -> wx.heap[b]? = wr.heap[b]?:=hm.block
 have bX : wx.heap[w.heap.size]? = wr.heap[w.heap.size]?:=bk _ (cell_lt h.cf.1) (by omega) (by omega) (fun e => by have:=(h.vs _ e).1; omega)
 have bR : wx.heap[w.heap.size + 1]? = wr.heap[w.heap.size + 1]?:=bk _ (heap_lt h.res) (by omega) (by omega) (fun e => by have:=(h.vs _ e).1; omega)
 have bQ : wx.heap[Q]? = wr.heap[Q]?:=bk _ hQl (by omega) (by omega) (fun e => (h.vs _ e).2.1 rfl)
 have bF : ∀ b,fv.ownBlock = some b -> wx.heap[b]? = wr.heap[b]?:=fun b hb => by
  have h1:=own_base h.fo b hb
  exact bk b (ownsRow_lt0 h.fo b hb) (by omega) (by omega) (fun e => (h.vs b e).2.2.1 hb)
 have bA : ∀ b,av.ownBlock = some b -> wx.heap[b]? = wr.heap[b]?:=fun b hb => by
  have h1:=own_base h.ao b hb
  exact bk b (ownsRow_lt0 h.ao b hb) (by omega) (by omega) (fun e => (h.vs b e).2.2.2 hb)
 refine ⟨⟨cells_same bX h.cf.1,cells_same bX h.cf.2.1,cells_same bX h.cf.2.2.1,cells_same bX h.cf.2.2.2⟩,bR.trans h.res,hs,cells_same bQ h.q0,cells_same bQ h.q1,cells_same bQ h.q2,cells_same bQ h.q3,fun i => frz_block bQ (h.qf i),own_same h.fo bF,own_same h.ao bA,a1,a2,a3,fun b hb => ?_,h.fa⟩
 rcases hm.own b hb with e | e
 ·exact h.vs b e
 ·refine ⟨by omega,by omega,fun e2 => ?_,fun e2 => ?_⟩
  ·have:=ownsRow_lt0 h.fo b e2; omega
  ·have:=ownsRow_lt0 h.ao b e2; omega
theorem SubW.grown {row : Option Nat} (h : SubW w wr B Mb v ms) (hg : wr.grownBy wx row) (hlo : ∀ b,row = some b -> w.heap.size <= b) (hB : row ≠ some B) (hM : row ≠ some Mb) (hv : ∀ b,v.ownBlock = some b -> row ≠ some b) : SubW w wx B Mb v ms :=
 ⟨h.bel.grown hg (by have:=h.bel.size; omega) hlo,(hg.cell_far ⟨B,0,none⟩ (cell_lt h.c0) (fun e => hB e.symm)).trans h.c0,(hg.cell_far ⟨B,1,none⟩ (cell_lt h.c0) (fun e => hB e.symm)).trans h.c1,frz_block (hg.block B (cell_lt h.c0) (fun e => hB e.symm)) h.frz,h.map.block (hg.block Mb h.map.lt (fun e => hM e.symm)),own_same h.own (fun b hb => hg.block b (ownsRow_lt0 h.own b hb) (fun e => hv b hb e.symm)),h.b0,h.m0,h.bm,h.vb,h.vm,h.ok,h.nd⟩
theorem SubW.setFar (h : SubW w wr B Mb v ms) {q i : Nat} {u : Value} (hq : w.heap.size <= q) (hB : B ≠ q) (hM : Mb ≠ q) (hv : v.ownBlock ≠ some q) : SubW w (wr.setCell ⟨q,i,none⟩ u) B Mb v ms :=
 ⟨h.bel.setCell (p:=⟨q,i,none⟩) hq _,(set_far hB).trans h.c0,(set_far hB).trans h.c1,by rw [World.frozen?_setCell]; exact h.frz,h.map.block (Below.heap_setCell wr ⟨q,i,none⟩ u Mb hM),ownsRow_setCell_far h.own hv,h.b0,h.m0,h.bm,h.vb,h.vm,h.ok,h.nd⟩
theorem GW.final (h : GW w wr N sta fin arcs B Mb Q v fv av ms fs rs) {fv' : Value} {x : Int} (hg : wr.grownBy wx fv.ownBlock) (ho : wx.ownsRow (Q + 1) 3 1 fv' (fs.length + 1) (intsW fs ++ [.int .i64 x])) (hv : fv'.ownBlock = fv.ownBlock \/ fv'.ownBlock = some wr.heap.size) :
  GW w (wx.setCell ⟨Q,2,none⟩ fv') N sta fin arcs B Mb Q v fv' av ms (fs ++ [x]) rs:=by
 have a1:=h.hM
 have a2:=h.hB
 have a3:=h.hQ
 have hQl:=cell_lt h.q0
 have hlo : ∀ b,fv.ownBlock = some b -> Q < b:=fun b hb => own_base h.fo b hb
 have hne : ∀ b,b <= Q -> some b ≠ fv.ownBlock:=fun b hb e => by have:=hlo b e.symm; omega
 have bQ : wx.heap[Q]? = wr.heap[Q]?:=hg.block Q hQl (hne Q (Nat.le_refl _))
 have bX : wx.heap[w.heap.size]? = wr.heap[w.heap.size]?:=hg.block _ (cell_lt h.cf.1) (hne _ (by omega))
 have hfQ : fv'.ownBlock ≠ some Q:=fun e => by have:=own_base ho Q e; omega
 have hXQ : w.heap.size ≠ Q:=by omega
 have hs1:=h.sub.grown hg (fun b hb => by have:=hlo b hb; omega) (fun e => hne B (by omega) e.symm) (fun e => hne Mb (by omega) e.symm) (fun b hb e => (h.vs b hb).2.2.1 e)
 have hfb : ∀ b,fv'.ownBlock = some b -> b < wr.heap.size -> fv.ownBlock = some b:=fun b hb hl => by
  rcases hv with hv | hv
  ·rw [<- hv]; exact hb
  ·rw [hv] at hb; injection hb with hb; omega
 refine ⟨⟨(set_far hXQ).trans (cells_same bX h.cf.1),(set_far hXQ).trans (cells_same bX h.cf.2.1),(set_far hXQ).trans (cells_same bX h.cf.2.2.1),(set_far hXQ).trans (cells_same bX h.cf.2.2.2)⟩,?_,hs1.setFar (by omega) (by omega) (by omega) (fun e => (h.vs Q e).2.1 rfl),?_,?_,?_,?_,fun i => by rw [World.frozen?_setCell]; exact frz_block bQ (h.qf i),?_,?_,a1,a2,a3,fun b hb => ?_,fun b hb => ?_⟩
 ·exact heap_far ((hg.block _ (heap_lt h.res) (hne _ (by omega))).trans h.res) (by omega)
 ·rw [World.cell?_setCell_other _ _ _ _ (by intro e1; injection e1 with _ e2; omega)]
  exact cells_same bQ h.q0
 ·rw [World.cell?_setCell_other _ _ _ _ (by intro e1; injection e1 with _ e2; omega)]
  exact cells_same bQ h.q1
 ·exact World.cell?_setCell_same _ _ _ (cells_same bQ h.q2)
 ·rw [World.cell?_setCell_other _ _ _ _ (by intro e1; injection e1 with _ e2; omega)]
  exact cells_same bQ h.q3
 ·have e1 : (fs ++ [x]).length = fs.length + 1:=by simp
  have e2 : intsW (fs ++ [x]) = intsW fs ++ [.int .i64 x]:=by simp [intsW]
  rw [e1,e2]
  exact ownsRow_setCell_far ho hfQ
 ·refine ownsRow_setCell_far (own_same h.ao fun b hb => hg.block b (ownsRow_lt0 h.ao b hb) (fun e => h.fa b e.symm hb)) (fun e => ?_)
  have:=own_base h.ao Q e
  omega
 ·obtain ⟨r1,r2,r3,r4⟩:=h.vs b hb
  exact ⟨r1,r2,fun e => r3 (hfb b e (ownsRow_lt0 h.sub.own b hb)),r4⟩
 ·intro e
  exact h.fa b (hfb b hb (ownsRow_lt0 h.ao b e)) e
theorem GW.arc (h : GW w wr N sta fin arcs B Mb Q v fv av ms fs rs) {av' : Value} {a : ArcD} (hg : wr.grownBy wx av.ownBlock) (ho : wx.ownsRow (Q + 1) 54 5 av' (rs.length + 1) (arcsV rs ++ arcCells a)) (hv : av'.ownBlock = av.ownBlock \/ av'.ownBlock = some wr.heap.size) :
  GW w (wx.setCell ⟨Q,3,none⟩ av') N sta fin arcs B Mb Q v fv av' ms fs (rs ++ [a]):=by
 have a1:=h.hM
 have a2:=h.hB
 have a3:=h.hQ
 have hQl:=cell_lt h.q0
 have hlo : ∀ b,av.ownBlock = some b -> Q < b:=fun b hb => own_base h.ao b hb
 have hne : ∀ b,b <= Q -> some b ≠ av.ownBlock:=fun b hb e => by have:=hlo b e.symm; omega
 have bQ : wx.heap[Q]? = wr.heap[Q]?:=hg.block Q hQl (hne Q (Nat.le_refl _))
 have bX : wx.heap[w.heap.size]? = wr.heap[w.heap.size]?:=hg.block _ (cell_lt h.cf.1) (hne _ (by omega))
 have hfQ : av'.ownBlock ≠ some Q:=fun e => by have:=own_base ho Q e; omega
 have hXQ : w.heap.size ≠ Q:=by omega
 have hs1:=h.sub.grown hg (fun b hb => by have:=hlo b hb; omega) (fun e => hne B (by omega) e.symm) (fun e => hne Mb (by omega) e.symm) (fun b hb e => (h.vs b hb).2.2.2 e)
 have hfb : ∀ b,av'.ownBlock = some b -> b < wr.heap.size -> av.ownBlock = some b:=fun b hb hl => by
  rcases hv with hv | hv
  ·rw [<- hv]; exact hb
  ·rw [hv] at hb; injection hb with hb; omega
 refine ⟨⟨(set_far hXQ).trans (cells_same bX h.cf.1),(set_far hXQ).trans (cells_same bX h.cf.2.1),(set_far hXQ).trans (cells_same bX h.cf.2.2.1),(set_far hXQ).trans (cells_same bX h.cf.2.2.2)⟩,?_,hs1.setFar (by omega) (by omega) (by omega) (fun e => (h.vs Q e).2.1 rfl),?_,?_,?_,?_,fun i => by rw [World.frozen?_setCell]; exact frz_block bQ (h.qf i),?_,?_,a1,a2,a3,fun b hb => ?_,fun b hb => ?_⟩
 ·exact heap_far ((hg.block _ (heap_lt h.res) (hne _ (by omega))).trans h.res) (by omega)
 ·rw [World.cell?_setCell_other _ _ _ _ (by intro e1; injection e1 with _ e2; omega)]
  exact cells_same bQ h.q0
 ·rw [World.cell?_setCell_other _ _ _ _ (by intro e1; injection e1 with _ e2; omega)]
  exact cells_same bQ h.q1
 ·rw [World.cell?_setCell_other _ _ _ _ (by intro e1; injection e1 with _ e2; omega)]
  exact cells_same bQ h.q2
 ·exact World.cell?_setCell_same _ _ _ (cells_same bQ h.q3)
 ·refine ownsRow_setCell_far (own_same h.fo fun b hb => hg.block b (ownsRow_lt0 h.fo b hb) (fun e => h.fa b hb e.symm)) (fun e => ?_)
  have:=own_base h.fo Q e
  omega
 ·have e1 : (rs ++ [a]).length = rs.length + 1:=by simp
  have e2 : arcsV (rs ++ [a]) = arcsV rs ++ arcCells a:=by simp [arcsV]
  rw [e1,e2]
  exact ownsRow_setCell_far ho hfQ
 ·obtain ⟨r1,r2,r3,r4⟩:=h.vs b hb
  exact ⟨r1,r2,r3,fun e => r4 (hfb b e (ownsRow_lt0 h.sub.own b hb))⟩
 ·intro e
  exact h.fa b hb (hfb b e (ownsRow_lt0 h.fo b hb))
end
end Go.Proofs.Yteehgcbjmdideab
