/- 'meet' of the subsets: the walk. (Made by wip/gen/owd.py.) -/
import Derived.Test.YteehgcbjmdideabQOwD
import Derived.Test.YteehgcbjmdideabQM03
set_option maxRecDepth 100000
namespace Go.Proofs.Yteehgcbjmdideab
open Go.RowKit
attribute [local go_sem ↓] Go.wp_at_zero Go.wp_at_succ
theorem ones_int (l : List Int) : ∀ u ∈ intsW l,u.oneCell' = true:=by
 intro u hu
 unfold intsW at hu
 obtain ⟨x,_,rfl⟩:=List.mem_map.1 hu
 rfl
def MeetRes (w0 w : World) (B Mb : Nat) (v : Value) (ms : List (List Int)) (c : List Int) (e : Ending) (w' : World) : Prop :=
 ∃ (v' : Value) (j : Nat),e = .returned (.tuple #[.int .i64 (j : Int),.int .i64 (cheapD c)]) /\ SubW w0 w' B Mb v' (meetL ms (padL c)) /\ MStep B Mb w v w' v' /\ (meetL ms (padL c))[j]? = some (padL c)
theorem meetRes_mk {w0 w w' : World} {B Mb : Nat} {v : Value} {ms : List (List Int)} {c : List Int} {q : Int} (v' : Value) (j : Nat) (hq : q = cheapD c) (h1 : SubW w0 w' B Mb v' (meetL ms (padL c))) (h2 : MStep B Mb w v w' v') (h3 : (meetL ms (padL c))[j]? = some (padL c)) : MeetRes w0 w B Mb v ms c (.returned (.tuple #[.int .i64 (j : Int),.int .i64 q])) w':=⟨v',j,by rw [hq],h1,h2,h3⟩
set_option maxHeartbeats 2000000 in
theorem meet_walk (w0 : World) (B Mb : Nat) (v cv : Value) (ms : List (List Int)) (c : List Int) (w : World) (h : SubW w0 w B Mb v ms) (hI : ISlice w cv c) (hl : c.length <= 200) (hp : PrOk c) (hc : cheapD c ≠ -1) (hms : ms.length <= 1000) :
  Calls Try.prog 59 #[.pointer (some ⟨B,0,none⟩),cv] w fun e w' => MeetRes w0 w B Mb v ms c e w':=by
 obtain ⟨ca,n,cc,rfl,hcl,_⟩:=hI.lenOf
 have hch:=cheapest_any c _ w hI (by omega)
 have HI : Hid (ISlice w (.slice ca n cc) c):=hI
 have HL : Hid (c.length = n):=hcl
 have hn2 : n <= 200:=by omega
 have HPR : Hid (∀ k,gI c k = -1 \/ (0 <= gI c k /\ gI c k <= 302000000000 /\ cheapD c <= gI c k)):=fun k => by
  rcases cheapD_what c hp with ⟨e,_⟩ | ⟨e1,_,e3⟩
  ·exact absurd e hc
  ·unfold gI
   rw [List.getD_eq_getElem?_getD]
   rcases e : c[k]? with _ | y
   ·exact Or.inl rfl
   ·have h1:=hp y (List.mem_of_getElem? e)
    have h2:=e3 y (List.mem_of_getElem? e)
    show y = -1 \/ _
    rcases h1 with h1 | h1
    ·exact Or.inl h1
    ·rcases h2 with h2 | h2
     ·exact Or.inl h2
     ·exact Or.inr ⟨h1.1,h1.2,h2⟩
 have HPO : Hid (SubOk (padL c)):=padL_ok hp hc
 have hcb : 0 <= cheapD c /\ cheapD c <= 302000000000:=by
  rcases cheapD_what c hp with ⟨e,_⟩ | ⟨e1,e2,e3⟩
  ·exact absurd e hc
  ·refine ⟨e1,?_⟩
   have:=hp _ e2
   omega
 obtain ⟨q,hq⟩ : ∃ q,q = cheapD c:=⟨_,rfl⟩
 have HQ : Hid (q = cheapD c):=hq
 rw [<- hq] at hch hcb
 obtain ⟨hcb0,hcb1⟩:=hcb
 have hzv:=(zero_of_info zeroS).1
 obtain ⟨ob,hob⟩ : ∃ o : Obj,o = .cells (intsW (fillS 0)).toArray 80:=⟨_,rfl⟩
 obtain ⟨W1,hW1⟩ : ∃ W,W = w.alloc ob:=⟨_,rfl⟩
 obtain ⟨g,hg⟩ : ∃ g,g = w.heap.size:=⟨_,rfl⟩
 have hbA : Below w.heap.size w W1:=by rw [hW1]; exact bel_up (bel_self w) _
 have hbl : W1.heap[g]? = some (.cells (intsW (fillS 0)).toArray 80 (0,0)):=by rw [hW1,hg,hob]; exact heap_alloc_new w _
 have HGW : Hid (g = w.heap.size):=hg
 have HW1 : Hid (W1 = w.alloc (.cells (intsW (fillS 0)).toArray 80) /\ g = w.heap.size):=⟨by rw [hW1,hob],hg⟩
 clear hW1 hob hg hq hI hcl hl hp hc
 go_enter Try.func59,Try.ntmps59
 go_wp2_with (go_at_call 63; refine hch.mono ?_; rintro e w2 ⟨rfl,hw2⟩; obtain rfl:=hw2.symm)
 rw [<- HW1.out.1,<- HW1.out.2]
 clear HW1
 go_loopw [7,14] (fun _ t14 wx => ∃ k : Nat,k <= 200 /\ t14 = .int .i64 (k : Int) /\ wx.heap[g]? = some (.cells (intsW (fillS k)).toArray 80 (0,0)) /\ Below w.heap.size w wx /\ w.heap.size <= g) (fun _ t14 _ => 200 - (intOf t14).toNat)
 case atStart => exact ⟨0,Nat.zero_le _,rfl,hbl,hbA,by rw [HGW.out]; exact Nat.le_refl _⟩
 case round =>
  clear hbl hbA
  obtain ⟨k,hk,rfl,hbl,hbA,hge⟩:=hrel
  have hkw : IntKind.i64.wrap ((k : Int) + 1) = (k : Int) + 1:=wrap_in _ (by omega) (by omega)
  by_cases hlt : k < 200
  ·have hki : (k : Int) < 200:=by omega
   have c0:=intsW_cell (i:=k) hbl (by rw [fillS_len hk]; exact hlt)
   have f0:=Go.Joins.unfrozen_of_block hbl k
   have HN : Hid ((wr.setCell ⟨g,k,none⟩ (.int .i64 (-1))).heap[g]? = some (.cells (intsW (fillS (k + 1))).toArray 80 (0,0)) /\ Below w.heap.size w (wr.setCell ⟨g,k,none⟩ (.int .i64 (-1)))):=⟨by rw [<- fillS_set hlt]; exact intsW_set (-1) hbl,hbA.setCell (p:=⟨g,k,none⟩) hge _⟩
   clear hbl hbA
   go_wp2
   go_roundw
   case rel => exact ⟨k + 1,by omega,by go_num,HN.out.1,HN.out.2,hge⟩
   case measure => simp [intOf]; omega
  ·obtain rfl : k = 200:=by omega
   rw [<- padK_zero c] at hbl
   go_wp2
   go_loopw [8,9,22] (fun _ _ t22 wx => ∃ k : Nat,k <= n /\ t22 = .int .i64 (k : Int) /\ wx.heap[g]? = some (.cells (intsW (padK c k)).toArray 80 (0,0)) /\ Below w.heap.size w wx) (fun _ _ t22 _ => n - (intOf t22).toNat)
   case atStart => exact ⟨0,Nat.zero_le _,rfl,hbl,hbA⟩
   case round =>
    clear hbl hbA
    obtain ⟨k,hk,rfl,hbl,hbA⟩:=hrel
    have hkw : IntKind.i64.wrap ((k : Int) + 1) = (k : Int) + 1:=wrap_in _ (by omega) (by omega)
    by_cases hlk : k < n
    ·have hki : (k : Int) < n:=by omega
     have hk200 : (k : Int) < 200:=by omega
     obtain ⟨b,off,rfl,hx⟩:=(HI.out.below hbA).some (by omega)
     have d0:=hx.cell k hlk
     rw [gI_getD (by have:=HL.out; omega)] at d0
     have hpr:=HPR.out k
     obtain ⟨x,hxk⟩ : ∃ x,x = gI c k:=⟨_,rfl⟩
     have HXK : Hid (x = gI c k):=hxk
     rw [<- hxk] at d0 hpr
     rw [<- HQ.out] at hpr
     have c0:=intsW_cell (i:=k) hbl (by rw [padK_len]; omega)
     have f0:=Go.Joins.unfrozen_of_block hbl k
     by_cases h1 : x = -1
     ·subst h1
      have HN : Hid (wr.heap[g]? = some (.cells (intsW (padK c (k + 1))).toArray 80 (0,0)) /\ Below w.heap.size w wr):=⟨by rw [padK_none c hxk.symm]; exact hbl,hbA⟩
      clear hbl hbA hx hxk c0 f0
      go_wp2
      go_roundw
      case rel => exact ⟨k + 1,by omega,by go_num,HN.out.1,HN.out.2⟩
      case measure => simp [intOf]; omega
     ·have h1b : (x != -1) = true:=by simpa using h1
      have hwx : IntKind.i64.wrap (x - q) = x - q:=wrap_in _ (by omega) (by omega)
      have HN : Hid ((wr.setCell ⟨g,k,none⟩ (.int .i64 (x - q))).heap[g]? = some (.cells (intsW (padK c (k + 1))).toArray 80 (0,0)) /\ Below w.heap.size w (wr.setCell ⟨g,k,none⟩ (.int .i64 (x - q)))):=⟨by rw [padK_some c (by omega) (by rw [<- hxk]; exact h1),<- hxk,<- HQ.out]; exact intsW_set _ hbl,hbA.setCell (p:=⟨g,k,none⟩) hge _⟩
      clear hbl hbA hx hxk
      go_wp2
      go_roundw
      case rel => exact ⟨k + 1,by omega,by go_num,HN.out.1,HN.out.2⟩
      case measure => simp [intOf]; omega
    ·obtain rfl : n = k:=by omega
     have hkl : ¬ (n : Int) < n:=by omega
     have hbl' : wr.heap[g]? = some (.cells (intsW (padL c)).toArray 80 (0,0)):=by
      rw [<- padK_all c,HL.out]
      exact hbl
     have hS:=h.below hbA
     obtain ⟨l,hl⟩ : ∃ l,l = padL c:=⟨_,rfl⟩
     have HLP : Hid (l = padL c):=hl
     have HLL : Hid (l.length = 200):=by rw [hl]; exact padL_len c
     rw [<- hl] at hbl' HPO
     clear hbl hl
     go_wp2
     by_cases hn : l ∉ ms
     ·have HLK : Hid (∀ W,SubW w0 W B Mb v ms -> (Instr.lookup 72 (.map (some Mb)) (subV l) true).run Try.prog W = .ok (.tuple #[.int .i64 0,.bool false]) W):=fun W hW => by
       rcases sub_look hW.map hW.ok HPO.out with ⟨_,h2⟩ | ⟨j',h2,_,_⟩
       ·exact h2
       ·exact absurd (List.mem_of_getElem? h2) hn
      have HN : Hid (l ∉ ms):=hn
      clear hn
      obtain ⟨Wa,hWa⟩ : ∃ W,W = wr.drew:=⟨_,rfl⟩
      have hbWa : Below wr.heap.size wr Wa:=by rw [hWa]; exact (bel_self wr).drew
      have hSa:=hS.below hbWa
      have hga : Wa.heap[g]? = some (.cells (intsW l).toArray 80 (0,0)):=heap_bel hbWa hbl'
      have hS0 : (fun wx : World => SubW w0 wx B Mb v ms /\ wx.heap[g]? = some (.cells (intsW l).toArray 80 (0,0))) Wa:=⟨hSa,hga⟩
      have HWa : Hid (Wa = wr.drew):=hWa
      clear hWa
      refine wp_region_noPanic ?_
      refine wp_region_F (fun wx : World => SubW w0 wx B Mb v ms /\ wx.heap[g]? = some (.cells (intsW l).toArray 80 (0,0))) [] (by kernel_rfl) (by rw [<- HWa.out]; exact hS0) (fun _ => ?_)
      rw [<- HWa.out]
      clear HWa
      refine tkF (i:=0) (v:=.pointer (some ⟨B,0,none⟩)) rfl (by kernel_rfl) (fun _ _ _ h => h) (by rfl) hS0 (fun wl hSw => ?_) ?_
      ·obtain ⟨hs,hgg⟩:=hSw; have z0:=hs.c0; have z1:=hs.c1; clear hs hgg; go_simp
      refine tkF (i:=1) (v:=.pointer (some ⟨B,0,none⟩)) rfl (by kernel_rfl) (fun _ _ _ h => h) (by rfl) hS0 (fun wl hSw => ?_) ?_
      ·obtain ⟨hs,hgg⟩:=hSw; have z0:=hs.c0; have z1:=hs.c1; clear hs hgg; go_simp
      refine tkF (i:=2) (v:=.pointer (some ⟨B,1,none⟩)) rfl (by kernel_rfl) (fun _ _ _ h => h) (by rfl) hS0 (fun wl hSw => ?_) ?_
      ·obtain ⟨hs,hgg⟩:=hSw; have z0:=hs.c0; have z1:=hs.c1; clear hs hgg; go_simp
      refine tkF (i:=3) (v:=.map (some Mb)) rfl (by kernel_rfl) (fun _ _ _ h => h) (by rfl) hS0 (fun wl hSw => ?_) ?_
      ·obtain ⟨hs,hgg⟩:=hSw; have z0:=hs.c0; have z1:=hs.c1; clear hs hgg; go_simp
      go_simp
      refine tkF (i:=4) (v:=subV l) rfl (by kernel_rfl) (fun _ _ _ h => h) (by rfl) hS0 (fun wl hSw => ?_) ?_
      ·exact exec_load (g:=⟨g,0,none⟩) rfl rfl (load_spots hSw.2 HLL.out)
      go_simp
      refine tkF (i:=5) (v:=.tuple #[.int .i64 0,.bool false]) rfl (by kernel_rfl) (fun _ _ _ h => h) (by rfl) hS0 (fun wl hSw => ?_) ?_
      ·exact exec_look (m:=.map (some Mb)) (k:=subV l) rfl rfl rfl (HLK.out wl hSw.1)
      refine tkF (i:=6) (v:=.tuple #[.int .i64 0,.bool false]) rfl (by kernel_rfl) (fun _ _ _ h => h) (by rfl) hS0 (fun wl hSw => ?_) ?_
      ·obtain ⟨hs,hgg⟩:=hSw; have z0:=hs.c0; have z1:=hs.c1; clear hs hgg; go_simp
      refine tkF (i:=7) (v:=.int .i64 0) rfl (by kernel_rfl) (fun _ _ _ h => h) (by rfl) hS0 (fun wl hSw => ?_) ?_
      ·obtain ⟨hs,hgg⟩:=hSw; have z0:=hs.c0; have z1:=hs.c1; clear hs hgg; go_simp
      refine tkF (i:=8) (v:=.bool false) rfl (by kernel_rfl) (fun _ _ _ h => h) (by rfl) hS0 (fun wl hSw => ?_) ?_
      ·obtain ⟨hs,hgg⟩:=hSw; have z0:=hs.c0; have z1:=hs.c1; clear hs hgg; go_simp
      refine wpAnyF_one (i:=9) rfl (by kernel_rfl) (fun Kc hKc => ?_)
      go_simp
      refine hKc.out _ _ ⟨fun _ => hS0,?_⟩
      clear hKc Kc
      refine wpAnyF_one (i:=10) rfl (by kernel_rfl) (fun Kc hKc => ?_)
      go_simp
      refine hKc.out _ _ ⟨fun _ => hS0,?_⟩
      clear hKc Kc
      refine wpAnyF_done (by kernel_rfl) ?_ _
      refine NoPanic.normal ?_
      clear hS0
      go_wp2
      obtain ⟨va,vc,rfl⟩:=own_slice hSa.own
      obtain ⟨n0,hn0⟩ : ∃ n,n = ms.length:=⟨_,rfl⟩
      have HN0 : Hid (n0 = ms.length):=hn0
      obtain ⟨Wb,hWb⟩ : ∃ W,W = Wa.drew:=⟨_,rfl⟩
      have hbWb : Below Wa.heap.size Wa Wb:=by rw [hWb]; exact (bel_self Wa).drew
      have hSb:=hSa.below hbWb
      have hgb : Wb.heap[g]? = some (.cells (intsW l).toArray 80 (0,0)):=heap_bel hbWb hga
      obtain ⟨Wc,hput,hmc,hgc⟩:=sub_put hSb.map hSb.ok HPO.out HN.out
      rw [<- hn0] at hput hSb hSa hS HLK h
      have hS0 : (fun wx : World => SubW w0 wx B Mb (.slice va n0 vc) ms /\ wx.heap[g]? = some (.cells (intsW l).toArray 80 (0,0))) Wb:=⟨hSb,hgb⟩
      have HWb : Hid (Wb = Wa.drew):=hWb
      have hP:=hSb.put hgc hmc
      have hgne : some g ≠ some Mb:=fun e => by injection e with e; have:=h.map.lt; omega
      have hgC : Wc.heap[g]? = some (.cells (intsW l).toArray 80 (0,0)):=(hgc.block g (heap_lt hgb) hgne).trans hgb
      clear hWb hn0
      refine wp_region_noPanic ?_
      refine wp_region_F (fun wx : World => SubW w0 wx B Mb (.slice va n0 vc) ms /\ wx.heap[g]? = some (.cells (intsW l).toArray 80 (0,0))) [10] (by kernel_rfl) (by rw [<- HWb.out]; exact hS0) (fun _ => ?_)
      rw [<- HWb.out]
      clear HWb
      refine tkF (i:=0) (v:=.pointer (some ⟨B,0,none⟩)) rfl (by kernel_rfl) (fun _ _ _ h => h) (by rfl) hS0 (fun wl hSw => ?_) ?_
      ·obtain ⟨hs,hgg⟩:=hSw; have z0:=hs.c0; have z1:=hs.c1; clear hs hgg; go_simp
      refine tkF (i:=1) (v:=.pointer (some ⟨B,0,none⟩)) rfl (by kernel_rfl) (fun _ _ _ h => h) (by rfl) hS0 (fun wl hSw => ?_) ?_
      ·obtain ⟨hs,hgg⟩:=hSw; have z0:=hs.c0; have z1:=hs.c1; clear hs hgg; go_simp
      refine tkF (i:=2) (v:=.pointer (some ⟨B,1,none⟩)) rfl (by kernel_rfl) (fun _ _ _ h => h) (by rfl) hS0 (fun wl hSw => ?_) ?_
      ·obtain ⟨hs,hgg⟩:=hSw; have z0:=hs.c0; have z1:=hs.c1; clear hs hgg; go_simp
      refine tkF (i:=3) (v:=.map (some Mb)) rfl (by kernel_rfl) (fun _ _ _ h => h) (by rfl) hS0 (fun wl hSw => ?_) ?_
      ·obtain ⟨hs,hgg⟩:=hSw; have z0:=hs.c0; have z1:=hs.c1; clear hs hgg; go_simp
      go_simp
      refine tkF (i:=4) (v:=subV l) rfl (by kernel_rfl) (fun _ _ _ h => h) (by rfl) hS0 (fun wl hSw => ?_) ?_
      ·exact exec_load (g:=⟨g,0,none⟩) rfl rfl (load_spots hSw.2 HLL.out)
      refine tkF (i:=5) (v:=.pointer (some ⟨B,0,none⟩)) rfl (by kernel_rfl) (fun _ _ _ h => h) (by rfl) hS0 (fun wl hSw => ?_) ?_
      ·obtain ⟨hs,hgg⟩:=hSw; have z0:=hs.c0; have z1:=hs.c1; clear hs hgg; go_simp
      refine tkF (i:=6) (v:=.pointer (some ⟨B,0,none⟩)) rfl (by kernel_rfl) (fun _ _ _ h => h) (by rfl) hS0 (fun wl hSw => ?_) ?_
      ·obtain ⟨hs,hgg⟩:=hSw; have z0:=hs.c0; have z1:=hs.c1; clear hs hgg; go_simp
      refine tkF (i:=7) (v:=.pointer (some ⟨B,0,none⟩)) rfl (by kernel_rfl) (fun _ _ _ h => h) (by rfl) hS0 (fun wl hSw => ?_) ?_
      ·obtain ⟨hs,hgg⟩:=hSw; have z0:=hs.c0; have z1:=hs.c1; clear hs hgg; go_simp
      refine tkF (i:=8) (v:=.slice va n0 vc) rfl (by kernel_rfl) (fun _ _ _ h => h) (by rfl) hS0 (fun wl hSw => ?_) ?_
      ·obtain ⟨hs,hgg⟩:=hSw; have z0:=hs.c0; have z1:=hs.c1; clear hs hgg; go_simp
      refine tkF (i:=9) (v:=.int .i64 (n0 : Int)) rfl (by kernel_rfl) (fun _ _ _ h => h) (by rfl) hS0 (fun wl hSw => ?_) ?_
      ·obtain ⟨hs,hgg⟩:=hSw; have z0:=hs.c0; have z1:=hs.c1; clear hs hgg; go_simp
      go_simp
      refine wpAnyF_one (i:=10) rfl (by kernel_rfl) (fun Kc hKc => ?_)
      refine if_wanted rfl (wp_put (m:=.map (some Mb)) (k:=subV l) (v:=.int .i64 (n0 : Int)) rfl rfl rfl rfl hput ?_)
      refine hKc.out _ _ ⟨fun h => absurd h (unl_no (by kernel_rfl)),?_⟩
      clear hKc Kc
      refine wpAnyF_done (by kernel_rfl) ?_ _
      refine NoPanic.normal ?_
      go_simp
      clear hS0
      go_wp2
      obtain ⟨Wd,hWd⟩ : ∃ W,W = Wc.drew:=⟨_,rfl⟩
      have hbWd : Below Wc.heap.size Wc Wd:=by rw [hWd]; exact (bel_self Wc).drew
      have hPd:=hP.below hbWd
      have hgd : Wd.heap[g]? = some (.cells (intsW l).toArray 80 (0,0)):=heap_bel hbWd hgC
      have hS0 : (fun wx : World => wx.cell? ⟨B,0,none⟩ = some (.slice va n0 vc) /\ wx.heap[g]? = some (.cells (intsW l).toArray 80 (0,0))) Wd:=⟨hPd.c0,hgd⟩
      have HWd : Hid (Wd = Wc.drew):=hWd
      have hbE : Below Wd.heap.size Wd (Wd.alloc (.cells (intsW l).toArray 80)):=bel_up (bel_self _) _
      have hPe:=hPd.below hbE
      have hS1 : (fun wx : World => wx.cell? ⟨B,0,none⟩ = some (.slice va n0 vc) /\ wx.heap[g]? = some (.cells (intsW l).toArray 80 (0,0))) (Wd.alloc (.cells (intsW l).toArray 80)):=⟨hPe.c0,heap_bel hbE hgd⟩
      have hown:=hPe.own
      rw [<- HN0.out] at hown
      have hn3 : n0 <= 1000:=by rw [HN0.out]; exact hms
      have hvg : (Value.slice va n0 vc).ownBlock ≠ some g:=fun e => by have:=ownsRow_lt0 h.own g e; omega
      have hsz0 : w0.heap.size <= Wd.heap.size:=hPd.bel.size
      have HKEEP : Hid (∀ w6,(Wd.alloc (.cells (intsW l).toArray 80)).grownBy w6 (Value.slice va n0 vc).ownBlock -> (fun wx : World => wx.cell? ⟨B,0,none⟩ = some (.slice va n0 vc) /\ wx.heap[g]? = some (.cells (intsW l).toArray 80 (0,0))) w6 /\ w6.frozen? ⟨B,0,none⟩ = false):=fun w6 hg6 => ⟨⟨(hg6.cell_far ⟨B,0,none⟩ (cell_lt hPe.c0) (fun e => hPe.vb e.symm)).trans hPe.c0,(hg6.block g (heap_lt hS1.2) (fun e => hvg e.symm)).trans hS1.2⟩,frz_block (hg6.block B (cell_lt hPe.c0) (fun e => hPe.vb e.symm)) hPe.frz⟩
      have HFIN : Hid (∀ v' w6,w6.ownsRow w0.heap.size 80 200 v' (n0 + 1) (ms.flatMap intsW ++ intsW l) -> (Wd.alloc (.cells (intsW l).toArray 80)).grownBy w6 (Value.slice va n0 vc).ownBlock -> (v'.ownBlock = (Value.slice va n0 vc).ownBlock \/ v'.ownBlock = some (Wd.alloc (.cells (intsW l).toArray 80)).heap.size) -> SubW w0 (w6.setCell ⟨B,0,none⟩ v') B Mb v' (ms ++ [l]) /\ MStep B Mb w (.slice va n0 vc) (w6.setCell ⟨B,0,none⟩ v') v' /\ (w6.setCell ⟨B,0,none⟩ v').heap[g]? = some (.cells (intsW l).toArray 80 (0,0))):=fun v' w6 h1 h2 h3 => by
       refine ⟨hPe.app h.ok h.nd HPO.out HN.out h2 (by rw [<- HN0.out]; exact h1) h3,?_,?_⟩
       ·exact ((((MStep.bel (bel_on (bel_on hbA hbWa) hbWb)).trans (MStep.map hgc)).trans (MStep.bel hbWd)).trans (MStep.bel hbE)).trans (MStep.app h2 h3)
       ·exact heap_far ((HKEEP.out w6 h2).1.2) (by have:=cell_lt h.c0; omega)
      obtain ⟨isp,hisp,hisz,hiss,hisb⟩:=infoSp
      clear hWd hSb hS hgc hmc hput hP hPd hPe hgC hgd hbWd hbE hgb hga hSa
      refine wp_region_noPanic ?_
      refine wp_region_U (fun wx : World => wx.cell? ⟨B,0,none⟩ = some (.slice va n0 vc) /\ wx.heap[g]? = some (.cells (intsW l).toArray 80 (0,0))) 10 (by kernel_rfl) (by rw [<- HWd.out]; exact hS0) (fun _ => ?_)
      rw [<- HWd.out]
      clear HWd
      refine tkU (i:=0) (v:=.pointer (some ⟨B,0,none⟩)) rfl (by kernel_rfl) (fun _ _ _ h => h) (by rfl) hS0 (fun wl hSw => ?_) ?_
      ·(try dsimp only at hSw); obtain ⟨z0,zg⟩:=hSw; clear zg; go_simp
      refine tkU (i:=1) (v:=.pointer (some ⟨B,0,none⟩)) rfl (by kernel_rfl) (fun _ _ _ h => h) (by rfl) hS0 (fun wl hSw => ?_) ?_
      ·(try dsimp only at hSw); obtain ⟨z0,zg⟩:=hSw; clear zg; go_simp
      refine tkU (i:=2) (v:=.pointer (some ⟨B,0,none⟩)) rfl (by kernel_rfl) (fun _ _ _ h => h) (by rfl) hS0 (fun wl hSw => ?_) ?_
      ·(try dsimp only at hSw); obtain ⟨z0,zg⟩:=hSw; clear zg; go_simp
      refine tkU (i:=3) (v:=.pointer (some ⟨B,0,none⟩)) rfl (by kernel_rfl) (fun _ _ _ h => h) (by rfl) hS0 (fun wl hSw => ?_) ?_
      ·(try dsimp only at hSw); obtain ⟨z0,zg⟩:=hSw; clear zg; go_simp
      refine tkU (i:=4) (v:=.slice va n0 vc) rfl (by kernel_rfl) (fun _ _ _ h => h) (by rfl) hS0 (fun wl hSw => ?_) ?_
      ·(try dsimp only at hSw); obtain ⟨z0,zg⟩:=hSw; clear zg; go_simp
      refine tkU (i:=5) (v:=subV l) rfl (by kernel_rfl) (fun _ _ _ h => h) (by rfl) hS0 (fun wl hSw => ?_) ?_
      ·exact exec_load (g:=⟨g,0,none⟩) rfl rfl (load_spots hSw.2 HLL.out)
      go_simp
      refine wpAnyU_one (i:=6) rfl (by kernel_rfl) (fun Kc hKc => ?_)
      refine if_wanted rfl (wp_build_spots (l:=l) rfl rfl HLL.out ?_)
      refine hKc.out _ _ ⟨fun _ => hS1,?_⟩
      clear hKc Kc
      go_simp
      refine wpAnyU_one (i:=7) rfl (by kernel_rfl) (fun Kc hKc => ?_)
      refine if_wanted rfl (wp_app_at _ _ 73 rfl w0.heap.size 80 isp (.agg (intsW (fillS 0)).toArray) 200 1600 und_sl hisp hisz hiss hisb (by simp [Value.cells,intsW,fillS]) (by decide) (.slice va n0 vc) n0 _ rfl hown ⟨Wd.heap.size,0,none⟩ 1 1 (intsW l) rfl (by simp [intsW,HLL.out]) (cells_new Wd (intsW l).toArray 80 _ rfl) (ones_int l) (by unfold maxLen; omega) (by omega) (by rw [one_size]; omega) ?_)
      intro v' w6 hown' hgrow hvv
      obtain ⟨va',vc',rfl⟩:=own_slice hown'
      have HF : Hid _:=HFIN.out _ w6 hown' hgrow hvv
      obtain ⟨hS2,hfz⟩:=HKEEP.out w6 hgrow
      clear hown' hgrow hvv hown HFIN HKEEP hS0 hS1
      refine hKc.out _ _ ⟨fun _ => hS2,?_⟩
      clear hKc Kc
      refine wpAnyU_one (i:=8) rfl (by kernel_rfl) (fun Kc hKc => ?_)
      go_simp
      refine hKc.out _ _ ⟨fun _ => hS2,?_⟩
      clear hKc Kc
      refine wpAnyU_one (i:=9) rfl (by kernel_rfl) (fun Kc hKc => ?_)
      go_simp
      refine hKc.out _ _ ⟨fun _ => hS2,?_⟩
      clear hKc Kc
      have z3:=hS2.1
      refine wpAnyU_one (i:=10) rfl (by kernel_rfl) (fun Kc hKc => ?_)
      go_simp
      refine hKc.out _ _ ⟨fun h => absurd rfl h,?_⟩
      clear hKc Kc
      refine wpAnyU_done (by kernel_rfl) ?_ _
      refine NoPanic.normal ?_
      clear z3 hfz hS2
      obtain ⟨We,hWe⟩ : ∃ W,W = w6.setCell ⟨B,0,none⟩ (.slice va' (n0 + 1) vc'):=⟨_,rfl⟩
      obtain ⟨hSe,hMe,hge'⟩:=HF.out
      rw [<- hWe] at hSe hMe hge'
      have HWe : Hid (We = w6.setCell ⟨B,0,none⟩ (.slice va' (n0 + 1) vc')):=hWe
      have HME : Hid _:=hMe
      have HL2 : Hid (∀ W,SubW w0 W B Mb (.slice va' (n0 + 1) vc') (ms ++ [l]) -> (Instr.lookup 72 (.map (some Mb)) (subV l) false).run Try.prog W = .ok (.int .i64 (n0 : Int)) W):=fun W hW => by
       have hin : (ms ++ [l])[n0]? = some l:=by rw [HN0.out]; simp
       rcases sub_look hW.map hW.ok HPO.out with ⟨h2,_⟩ | ⟨j',h2,_,h3⟩
       ·exact absurd (List.mem_of_getElem? hin) h2
       ·obtain rfl:=nodupL_get hW.nd hin h2
        exact h3
      clear hWe hMe HF
      go_wp2
      rw [<- HWe.out]
      clear HWe
      obtain ⟨Wz,hWz⟩ : ∃ W,W = We.drew:=⟨_,rfl⟩
      have hbWz : Below We.heap.size We Wz:=by rw [hWz]; exact (bel_self We).drew
      have hSz : (fun wx : World => SubW w0 wx B Mb (.slice va' (n0 + 1) vc') (ms ++ [l]) /\ wx.heap[g]? = some (.cells (intsW l).toArray 80 (0,0))) Wz:=⟨hSe.below hbWz,heap_bel hbWz hge'⟩
      have HWz : Hid (Wz = We.drew):=hWz
      clear hWz
      refine wp_region_noPanic ?_
      refine wp_region_F (fun wx : World => SubW w0 wx B Mb (.slice va' (n0 + 1) vc') (ms ++ [l]) /\ wx.heap[g]? = some (.cells (intsW l).toArray 80 (0,0))) [] (by kernel_rfl) (by rw [<- HWz.out]; exact hSz) (fun _ => ?_)
      rw [<- HWz.out]
      clear HWz
      refine tkF (i:=0) (v:=.pointer (some ⟨B,0,none⟩)) rfl (by kernel_rfl) (fun _ _ _ h => h) (by rfl) hSz (fun wl hSw => ?_) ?_
      ·obtain ⟨hs,hgg⟩:=hSw; have z0:=hs.c0; have z1:=hs.c1; clear hs hgg; go_simp
      refine tkF (i:=1) (v:=.pointer (some ⟨B,0,none⟩)) rfl (by kernel_rfl) (fun _ _ _ h => h) (by rfl) hSz (fun wl hSw => ?_) ?_
      ·obtain ⟨hs,hgg⟩:=hSw; have z0:=hs.c0; have z1:=hs.c1; clear hs hgg; go_simp
      refine tkF (i:=2) (v:=.pointer (some ⟨B,1,none⟩)) rfl (by kernel_rfl) (fun _ _ _ h => h) (by rfl) hSz (fun wl hSw => ?_) ?_
      ·obtain ⟨hs,hgg⟩:=hSw; have z0:=hs.c0; have z1:=hs.c1; clear hs hgg; go_simp
      refine tkF (i:=3) (v:=.map (some Mb)) rfl (by kernel_rfl) (fun _ _ _ h => h) (by rfl) hSz (fun wl hSw => ?_) ?_
      ·obtain ⟨hs,hgg⟩:=hSw; have z0:=hs.c0; have z1:=hs.c1; clear hs hgg; go_simp
      go_simp
      refine tkF (i:=4) (v:=subV l) rfl (by kernel_rfl) (fun _ _ _ h => h) (by rfl) hSz (fun wl hSw => ?_) ?_
      ·exact exec_load (g:=⟨g,0,none⟩) rfl rfl (load_spots hSw.2 HLL.out)
      go_simp
      refine tkF (i:=5) (v:=.int .i64 (n0 : Int)) rfl (by kernel_rfl) (fun _ _ _ h => h) (by rfl) hSz (fun wl hSw => ?_) ?_
      ·exact exec_look (m:=.map (some Mb)) (k:=subV l) rfl rfl rfl (HL2.out wl hSw.1)
      refine tkF (i:=6) (v:=.int .i64 q) rfl (by kernel_rfl) (fun _ _ _ h => h) (by rfl) hSz (fun wl hSw => ?_) ?_
      ·obtain ⟨hs,hgg⟩:=hSw; have z0:=hs.c0; have z1:=hs.c1; clear hs hgg; go_simp
      refine wpAnyF_one (i:=7) rfl (by kernel_rfl) (fun Kc hKc => ?_)
      go_simp
      refine hKc.out _ _ ⟨fun _ => hSz,?_⟩
      clear hKc Kc
      refine wpAnyF_one (i:=8) rfl (by kernel_rfl) (fun Kc hKc => ?_)
      go_simp
      refine hKc.out _ _ ⟨fun _ => hSz,?_⟩
      clear hKc Kc
      refine wpAnyF_done (by kernel_rfl) ?_ _
      refine NoPanic.normal ?_
      go_wp2
      exact bodyPost_ret (v:=.tuple #[.int .i64 (n0 : Int),.int .i64 q]) (by simp [results,Try.results59,go_sem, *]) rfl (meetRes_mk (.slice va' (n0 + 1) vc') n0 HQ.out (by rw [<- HLP.out]; unfold meetL; rw [if_neg HN.out]; exact hSz.1) (by rw [<- HN0.out]; exact HME.out.trans (MStep.bel hbWz)) (by rw [<- HLP.out]; unfold meetL; rw [if_neg HN.out,HN0.out]; simp))
     ·obtain ⟨j,hj,HLK,HL2⟩ : ∃ j : Nat,ms[j]? = some l /\ Hid (∀ W,SubW w0 W B Mb v ms -> (Instr.lookup 72 (.map (some Mb)) (subV l) true).run Try.prog W = .ok (.tuple #[.int .i64 (j : Int),.bool true]) W) /\ Hid (∀ W,SubW w0 W B Mb v ms -> (Instr.lookup 72 (.map (some Mb)) (subV l) false).run Try.prog W = .ok (.int .i64 (j : Int)) W):=by
       rcases sub_look hS.map hS.ok HPO.out with ⟨h1,_⟩ | ⟨j,h1,_,_⟩
       ·exact absurd h1 hn
       ·refine ⟨j,h1,fun W hW => ?_,fun W hW => ?_⟩
        ·rcases sub_look hW.map hW.ok HPO.out with ⟨h2,_⟩ | ⟨j',h2,h3,_⟩
         ·exact absurd h2 hn
         ·obtain rfl:=nodupL_get hW.nd h1 h2
          exact h3
        ·rcases sub_look hW.map hW.ok HPO.out with ⟨h2,_⟩ | ⟨j',h2,_,h3⟩
         ·exact absurd h2 hn
         ·obtain rfl:=nodupL_get hW.nd h1 h2
          exact h3
      have HJ : Hid (ms[j]? = some l /\ l ∈ ms):=⟨hj,Classical.byContradiction hn⟩
      clear hj hn
      obtain ⟨Wa,hWa⟩ : ∃ W,W = wr.drew:=⟨_,rfl⟩
      have hbWa : Below wr.heap.size wr Wa:=by rw [hWa]; exact (bel_self wr).drew
      have hSa:=hS.below hbWa
      have hga : Wa.heap[g]? = some (.cells (intsW l).toArray 80 (0,0)):=heap_bel hbWa hbl'
      have hS0 : (fun wx : World => SubW w0 wx B Mb v ms /\ wx.heap[g]? = some (.cells (intsW l).toArray 80 (0,0))) Wa:=⟨hSa,hga⟩
      have HWa : Hid (Wa = wr.drew):=hWa
      clear hWa
      refine wp_region_noPanic ?_
      refine wp_region_F (fun wx : World => SubW w0 wx B Mb v ms /\ wx.heap[g]? = some (.cells (intsW l).toArray 80 (0,0))) [] (by kernel_rfl) (by rw [<- HWa.out]; exact hS0) (fun _ => ?_)
      rw [<- HWa.out]
      clear HWa
      refine tkF (i:=0) (v:=.pointer (some ⟨B,0,none⟩)) rfl (by kernel_rfl) (fun _ _ _ h => h) (by rfl) hS0 (fun wl hSw => ?_) ?_
      ·obtain ⟨hs,hgg⟩:=hSw; have z0:=hs.c0; have z1:=hs.c1; clear hs hgg; go_simp
      refine tkF (i:=1) (v:=.pointer (some ⟨B,0,none⟩)) rfl (by kernel_rfl) (fun _ _ _ h => h) (by rfl) hS0 (fun wl hSw => ?_) ?_
      ·obtain ⟨hs,hgg⟩:=hSw; have z0:=hs.c0; have z1:=hs.c1; clear hs hgg; go_simp
      refine tkF (i:=2) (v:=.pointer (some ⟨B,1,none⟩)) rfl (by kernel_rfl) (fun _ _ _ h => h) (by rfl) hS0 (fun wl hSw => ?_) ?_
      ·obtain ⟨hs,hgg⟩:=hSw; have z0:=hs.c0; have z1:=hs.c1; clear hs hgg; go_simp
      refine tkF (i:=3) (v:=.map (some Mb)) rfl (by kernel_rfl) (fun _ _ _ h => h) (by rfl) hS0 (fun wl hSw => ?_) ?_
      ·obtain ⟨hs,hgg⟩:=hSw; have z0:=hs.c0; have z1:=hs.c1; clear hs hgg; go_simp
      go_simp
      refine tkF (i:=4) (v:=subV l) rfl (by kernel_rfl) (fun _ _ _ h => h) (by rfl) hS0 (fun wl hSw => ?_) ?_
      ·exact exec_load (g:=⟨g,0,none⟩) rfl rfl (load_spots hSw.2 HLL.out)
      go_simp
      refine tkF (i:=5) (v:=.tuple #[.int .i64 (j : Int),.bool true]) rfl (by kernel_rfl) (fun _ _ _ h => h) (by rfl) hS0 (fun wl hSw => ?_) ?_
      ·exact exec_look (m:=.map (some Mb)) (k:=subV l) rfl rfl rfl (HLK.out wl hSw.1)
      refine tkF (i:=6) (v:=.tuple #[.int .i64 (j : Int),.bool true]) rfl (by kernel_rfl) (fun _ _ _ h => h) (by rfl) hS0 (fun wl hSw => ?_) ?_
      ·obtain ⟨hs,hgg⟩:=hSw; have z0:=hs.c0; have z1:=hs.c1; clear hs hgg; go_simp
      refine tkF (i:=7) (v:=.int .i64 (j : Int)) rfl (by kernel_rfl) (fun _ _ _ h => h) (by rfl) hS0 (fun wl hSw => ?_) ?_
      ·obtain ⟨hs,hgg⟩:=hSw; have z0:=hs.c0; have z1:=hs.c1; clear hs hgg; go_simp
      refine tkF (i:=8) (v:=.bool true) rfl (by kernel_rfl) (fun _ _ _ h => h) (by rfl) hS0 (fun wl hSw => ?_) ?_
      ·obtain ⟨hs,hgg⟩:=hSw; have z0:=hs.c0; have z1:=hs.c1; clear hs hgg; go_simp
      refine wpAnyF_one (i:=9) rfl (by kernel_rfl) (fun Kc hKc => ?_)
      go_simp
      refine hKc.out _ _ ⟨fun _ => hS0,?_⟩
      clear hKc Kc
      refine wpAnyF_one (i:=10) rfl (by kernel_rfl) (fun Kc hKc => ?_)
      go_simp
      refine hKc.out _ _ ⟨fun _ => hS0,?_⟩
      clear hKc Kc
      refine wpAnyF_done (by kernel_rfl) ?_ _
      refine NoPanic.normal ?_
      clear hS0
      go_wp2
      obtain ⟨Wz,hWz⟩ : ∃ W,W = Wa.drew:=⟨_,rfl⟩
      have hbWz : Below Wa.heap.size Wa Wz:=by rw [hWz]; exact (bel_self Wa).drew
      have hSz : (fun wx : World => SubW w0 wx B Mb v ms /\ wx.heap[g]? = some (.cells (intsW l).toArray 80 (0,0))) Wz:=⟨hSa.below hbWz,heap_bel hbWz hga⟩
      have HWz : Hid (Wz = Wa.drew):=hWz
      clear hWz
      refine wp_region_noPanic ?_
      refine wp_region_F (fun wx : World => SubW w0 wx B Mb v ms /\ wx.heap[g]? = some (.cells (intsW l).toArray 80 (0,0))) [] (by kernel_rfl) (by rw [<- HWz.out]; exact hSz) (fun _ => ?_)
      rw [<- HWz.out]
      clear HWz
      refine tkF (i:=0) (v:=.pointer (some ⟨B,0,none⟩)) rfl (by kernel_rfl) (fun _ _ _ h => h) (by rfl) hSz (fun wl hSw => ?_) ?_
      ·obtain ⟨hs,hgg⟩:=hSw; have z0:=hs.c0; have z1:=hs.c1; clear hs hgg; go_simp
      refine tkF (i:=1) (v:=.pointer (some ⟨B,0,none⟩)) rfl (by kernel_rfl) (fun _ _ _ h => h) (by rfl) hSz (fun wl hSw => ?_) ?_
      ·obtain ⟨hs,hgg⟩:=hSw; have z0:=hs.c0; have z1:=hs.c1; clear hs hgg; go_simp
      refine tkF (i:=2) (v:=.pointer (some ⟨B,1,none⟩)) rfl (by kernel_rfl) (fun _ _ _ h => h) (by rfl) hSz (fun wl hSw => ?_) ?_
      ·obtain ⟨hs,hgg⟩:=hSw; have z0:=hs.c0; have z1:=hs.c1; clear hs hgg; go_simp
      refine tkF (i:=3) (v:=.map (some Mb)) rfl (by kernel_rfl) (fun _ _ _ h => h) (by rfl) hSz (fun wl hSw => ?_) ?_
      ·obtain ⟨hs,hgg⟩:=hSw; have z0:=hs.c0; have z1:=hs.c1; clear hs hgg; go_simp
      go_simp
      refine tkF (i:=4) (v:=subV l) rfl (by kernel_rfl) (fun _ _ _ h => h) (by rfl) hSz (fun wl hSw => ?_) ?_
      ·exact exec_load (g:=⟨g,0,none⟩) rfl rfl (load_spots hSw.2 HLL.out)
      go_simp
      refine tkF (i:=5) (v:=.int .i64 (j : Int)) rfl (by kernel_rfl) (fun _ _ _ h => h) (by rfl) hSz (fun wl hSw => ?_) ?_
      ·exact exec_look (m:=.map (some Mb)) (k:=subV l) rfl rfl rfl (HL2.out wl hSw.1)
      refine tkF (i:=6) (v:=.int .i64 q) rfl (by kernel_rfl) (fun _ _ _ h => h) (by rfl) hSz (fun wl hSw => ?_) ?_
      ·obtain ⟨hs,hgg⟩:=hSw; have z0:=hs.c0; have z1:=hs.c1; clear hs hgg; go_simp
      refine wpAnyF_one (i:=7) rfl (by kernel_rfl) (fun Kc hKc => ?_)
      go_simp
      refine hKc.out _ _ ⟨fun _ => hSz,?_⟩
      clear hKc Kc
      refine wpAnyF_one (i:=8) rfl (by kernel_rfl) (fun Kc hKc => ?_)
      go_simp
      refine hKc.out _ _ ⟨fun _ => hSz,?_⟩
      clear hKc Kc
      refine wpAnyF_done (by kernel_rfl) ?_ _
      refine NoPanic.normal ?_
      go_wp2
      exact bodyPost_ret (v:=.tuple #[.int .i64 (j : Int),.int .i64 q]) (by simp [results,Try.results59,go_sem, *]) rfl (meetRes_mk v j HQ.out (by rw [<- HLP.out]; unfold meetL; rw [if_pos HJ.out.2]; exact hSz.1) (MStep.bel (bel_on (bel_on hbA hbWa) hbWz)) (by rw [<- HLP.out]; unfold meetL; rw [if_pos HJ.out.2]; exact HJ.out.1))
end Go.Proofs.Yteehgcbjmdideab
