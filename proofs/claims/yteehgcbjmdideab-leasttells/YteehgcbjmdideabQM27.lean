/- 'reach' of package fst,back. -/
import Derived.Test.YteehgcbjmdideabQM26
import Derived.Test.YteehgcbjmdideabQM08
import Derived.Test.YteehgcbjmdideabQM00
import Derived.Test.YteehgcbjmdideabQShelf
import Derived.Lib.AppendIntMem
import Derived.Lib.SmallJoins
import Derived.Deep.OwnRows
import Derived.Laws.CopyOwn
import Derived.Deep.RegionLaw
set_option maxRecDepth 100000
namespace Go.Proofs.Yteehgcbjmdideab.Sc
open Go.RowKit Go.Maps Go.ChangeShapes
attribute [local go_sem ↓] Go.wp_at_zero Go.wp_at_succ
theorem groups_madeB (w : World) (cs : Array Value) (H : Nat) (hH : w.heap.size = H) : ((w.alloc (.cells cs 25)).alloc (.map #[] 0)).ownsGroups Try.prog 3 (H + 2) 3 .i64 (H + 1) 0 (.map [] : DataW Unit):=by
 subst hH
 have:=World.ownsGroups_made (H:=Unit) (w.alloc (.cells cs 25)) Try.prog 3 3 .i64
 simpa using this
theorem grown_allB {w w1 w2 w3 w4 : World} {B b base e : Nat} {o : Obj} {v : Value} {zs : List Int} (hB : Below B w w1) (hoi : w1.ownsInts base e .i64 v zs) (hg : (w1.alloc o).grownBy w2 v.ownBlock) (hg2 : w2.grownBy w3 (some b)) (hs : B <= w1.heap.size) (hb : B <= base) (hbb : B <= b) (h4 : w4 = w3) : Below B w w4 /\ w1.heap.size <= w4.heap.size:=by
 subst h4
 have hall:=(World.grownBy_alloc w1 o v.ownBlock).trans hg
 exact ⟨hB.groups hoi hall hg2 hs hb hbb,Nat.le_trans hall.size hg2.size⟩
set_option maxHeartbeats 4000000 in
theorem reach_B (f : FstD) (N fb : Nat) (fin : Value) (aa : Option Addr) (n ac : Nat) (w : World) (hc : CellsF w fb (N : Int) f.start fin (.slice aa n ac)) (hf : ISlice w fin f.final) (hfl : f.final.length = N) (ha : ASlice w (.slice aa n ac) f.arcs) (hal : f.arcs.length = n) (hn : n <= 3000) (hN1 : 1 <= N) (hN : N <= 200)
  (hok : ∀ a ∈ f.arcs,(0 <= a.src /\ a.src < N) /\ (0 <= a.dst /\ a.dst < N)) :
  Calls Try.prog 86 #[.agg #[.int .i64 (N : Int),.int .i64 f.start,fin,.slice aa n ac],.func (.func 89) #[] #[.pointer (some ⟨fb,0,none⟩)],.func (.func 90) #[] #[]] w fun e w' =>
   ∃ B k M,e = .returned (.map (some B)) /\ SetAt w' B k M /\ (∀ x,M x = true ↔ ReachP N (pairsB f) (firstB f) x) /\ k <= 200 /\ w.heap.size <= B /\ Below w.heap.size w w':=by
 have HN1 : Hid (1 <= N):=hN1
 have HAL : Hid (f.arcs.length = n):=hal
 have HOK : Hid (∀ a ∈ f.arcs,(0 <= a.src /\ a.src < N) /\ (0 <= a.dst /\ a.dst < N)):=hok
 clear hal hok hN1
 have hmm:=@run_makeMap Try.prog
 obtain ⟨i0,hi,hz0,hz1,hz2⟩:=info_parts infoInt
 go_enter Try.func86,Try.ntmps86
 go_wp2
 go_loopw [23] (fun i wr => ∃ k : Nat,k <= n /\ i = .int .i64 k /\ ∃ D : DataW Unit,wr.ownsGroups Try.prog 3 (w.heap.size + 2) 3 .i64 (w.heap.size + 1) k D /\ NextsAt D ((pairsB f).take k) /\ Below (w.heap.size + 1) (w.alloc (.cells #[.int .i64 (N : Int),.int .i64 f.start,fin,.slice aa n ac] 25)) wr /\ w.heap.size + 2 <= wr.heap.size) (fun i _ => n - (intOf i).toNat)
 case atStart => exact ⟨0,Nat.zero_le _,rfl,.map [],groups_madeB w _ _ rfl,nextsAt_made,(Below.refl _ _).alloc (by simp) _,by simp⟩
 case round =>
  obtain ⟨k,hk,rfl,D,hown,hnx,hB,hsz⟩:=hrel
  have hbw : Below w.heap.size w wr:=(bel_up (bel_self w) _).trans (hB.mono (by omega))
  by_cases hlt : k < n
  ·obtain ⟨b,off,rfl,hx⟩:=ha.some (by omega)
   have hx:=hx.below hbw
   obtain ⟨a,hak⟩ : ∃ a,a = f.arcs.getD k a0:=⟨_,rfl⟩
   have hkl : k < f.arcs.length:=by have:=HAL.out; omega
   have hmem : a ∈ f.arcs:=by rw [hak]; simp [List.getD,hkl]
   obtain ⟨⟨q1,q2⟩,⟨q3,q4⟩⟩:=HOK.out a hmem
   obtain ⟨s,hs⟩ : ∃ s : Nat,a.dst = s:=⟨(a.dst).toNat,by omega⟩
   obtain ⟨t,ht⟩ : ∃ t : Nat,a.src = t:=⟨(a.src).toNat,by omega⟩
   have hsN : s < N:=by omega
   have htN : t < N:=by omega
   have HT : Hid ((pairsB f).take (k + 1) = (pairsB f).take k ++ [(s,t)]):=by
    show (pairsB f).take (k + 1) = (pairsB f).take k ++ [(s,t)]
    rw [List.take_add_one]
    congr 1
    have : (pairsB f)[k]? = some (s,t):=by
     unfold pairsB
     rw [List.getElem?_map]
     have e1 : f.arcs[k]? = some a:=by rw [hak]; simp [List.getD,hkl]
     rw [e1]
     simp [hs,ht]
    rw [this]; rfl
   have c0:=hx.c0 k hlt
   have c1:=hx.c1 k hlt
   have c2:=hx.c2 k hlt
   have c3:=hx.c3 k hlt
   have c4:=hx.c4 k hlt
   rw [<- hak] at c0 c1 c2 c3 c4
   have hkey:=keyN s (by omega)
   have hlti : (k : Int) < n:=by omega
   have HS : Hid (a.dst = s):=hs
   have HD : Hid (a.src = t):=ht
   clear hs ht hak hmem hkl q1 q2 q3 q4 hx
   go_wp2_with (first | (go_at_call 90; refine (along_backN a s t _ HS.out HD.out).mono ?_; rintro e w1 ⟨rfl,hb1⟩; have hbx:=bel_on (bel_up (bel_self wr) _) hb1; have hown1:=groups_below hown hbx; have hB1:=hB.trans (hbx.mono (by omega)); have hs1:=Nat.le_trans hsz hbx.size; clear hb1 hbx hown hB c0 c1 c2 c3 c4) | (at_lookup; refine wpList_lookup_groups _ rfl _ _ 137 rfl 3 22 3 .i64 keyI Try.underlying137 (zeroS _) (w.heap.size + 2) (w.heap.size + 1) k D rfl hown1 (by unfold maxLen; omega) _ _ rfl hkey ?_; intro v zs hat hoi hzl hback; have hzs:=hnx.at hat hoi) | (at_builtin; refine wpList_append_own_at _ rfl _ _ 22 rfl (w.heap.size + 2) 3 i0 (.int .i64 0) 1 8 Try.underlying22 hi hz0 hz1 hz2 rfl (by decide) _ _ _ rfl (hoi.1.alloc _) ⟨w1.heap.size,0,none⟩ 1 1 [.int .i64 (t : Int)] rfl rfl (cell_one_new _ _ _) (ints_oneCell .i64 [(t : Int)]) (by unfold maxLen; omega) (by omega) (by simp; omega) ?_; intro v' w2 hown' hgrow hnil hloc; have hoi':=hoi.appended hown' (wfN t (by omega))) | (at_mapUpdate; refine wpList_mapUpdate_back _ rfl _ _ _ 137 rfl hback rfl rfl rfl ((World.grownBy_alloc _ _ _).trans hgrow) hoi' (by simp; omega) (hloc.imp id (fun h => ⟨_,h,by simp⟩)) ?_; intro w3 hown3 hgrow3))
   obtain ⟨hB3,hs3⟩:=grown_allB hB1 hoi hgrow hgrow3 (by omega) (by omega) (by omega) rfl
   go_roundw
   case rel =>
    refine ⟨k + 1,by omega,by go_num,_,hown3,?_,hB3,Nat.le_trans hs1 hs3⟩
    rw [HT.out]
    rw [hzs] at hoi' ⊢
    exact hnx.put (groups_isMap hown1) hoi'
   case measure => simp [intOf]; omega
  ·have HNX : Hid (NextsAt D (pairsB f)):=by
    have h:=hnx
    rw [List.take_of_length_le (by simp [pairsB,HAL.out]; omega)] at h
    exact h
   clear hnx
   have hF : CellsF wr w.heap.size (N : Int) f.start fin (.slice aa n ac):=CellsF.keepB (by simp [CellsF]) hB (by omega)
   have f0 : (((wr.alloc (.map #[] 0)).alloc (.cells #[.map (some wr.heap.size)] 104)).alloc (.cells #[.slice none 0 0] 22)).cell? ⟨w.heap.size,0,none⟩ = some (.int .i64 (N : Int)):=old_cell (old_cell (old_cell hF.1))
   have HPS : Hid (∀ p ∈ pairsB f,p.2 < N):=fun p hp => by
    obtain ⟨a,ha1,rfl⟩:=List.mem_map.1 hp
    have:=HOK.out a ha1
    show (a.src).toNat < N
    omega
   go_wp2
   rename World => w0
   go_loopw [46] (fun i wx => ∃ k2 : Nat,k2 <= N /\ i = .int .i64 k2 /\ ∃ m M v zs,MS wx w0.heap.size m M v zs /\ Below w0.heap.size w0 wx /\ Srch N (pairsB f) (firstB f) k2 (fun _ => False) m M zs) (fun i _ => N - (intOf i).toNat)
   case atStart => exact ⟨0,Nat.zero_le _,rfl,0,_,_,[],MS.start w0,bel_up (bel_up (bel_up (bel_self w0) _) _) _,Srch.start _ _ _⟩
   case round =>
    obtain ⟨k2,hk2,rfl,m,M,v,zs,hms,hB2,hsr⟩:=hrel
    have hbw2 : Below w.heap.size w wr:=hbw.trans (hB2.mono hbw.size)
    have hc2:=hc.below hbw2
    have hml:=hsr.le
    have hzl:=hsr.zlen
    have HSR : Hid (Srch N (pairsB f) (firstB f) k2 (fun _ => False) m M zs):=hsr
    clear hsr f0 hF
    by_cases hlt2 : k2 < N
    ·have hi2 : (k2 : Int) < N:=by omega
     cases hS : firstB f k2
     ·go_wp2_with (go_at_call 89; refine (first_B f N fb _ _ k2 false _ hc2 (hf.below hbw2) hfl hlt2 hS).mono ?_; rintro e w1 ⟨rfl,rfl⟩)
      go_roundw
      case rel => exact ⟨k2 + 1,by omega,by go_num,m,M,v,zs,hms,hB2,HSR.out.miss hS⟩
      case measure => simp [intOf]; omega
     ·go_wp2_with (first | (go_at_call 89; refine (first_B f N fb _ _ k2 true _ hc2 (hf.below hbw2) hfl hlt2 hS).mono ?_; rintro e w1 ⟨rfl,rfl⟩) | (go_at_call 107; refine (meet_any w0.heap.size m M v zs k2 _ hms (by omega) (by omega) (by omega)).mono ?_; rintro e w1 ⟨rfl,hbm,v1,hms1⟩))
      go_roundw
      case rel => exact ⟨k2 + 1,by omega,by go_num,_,_,v1,_,hms1,hB2.trans hbm,HSR.out.hit hlt2 hS⟩
      case measure => simp [intOf]; omega
    ·have HSN : Hid (Srch N (pairsB f) (firstB f) N (fun _ => False) m M zs):=⟨HSR.out.num,HSR.out.zlen,HSR.out.lt,HSR.out.sound,HSR.out.opn,HSR.out.all,fun x _ hx hS => HSR.out.first x (by omega) hx hS⟩
     clear HSR
     have HO : Hid (Open3 N (pairsB f) (firstB f) w0 wr (2 * (N - m) + zs.length)):=⟨m,M,v,zs,hms,hB2,HSN.out,rfl⟩
     clear HSN hms hB2 hc2 hbw2 hml hzl
     go_wp2
     go_loopw [16] (fun _ wx => ∃ u,Open3 N (pairsB f) (firstB f) w0 wx u) (fun _ wx => Classical.epsilon (fun u => Open3 N (pairsB f) (firstB f) w0 wx u /\ ∀ q,Open3 N (pairsB f) (firstB f) w0 wx q -> u <= q))
     case atStart => exact ⟨_,HO.out⟩
     case round =>
      clear HO m M v zs
      have hE:=eps_min hrel
      obtain ⟨u,hu⟩ : ∃ u,u = Classical.epsilon (fun u => Open3 N (pairsB f) (firstB f) w0 wr u /\ ∀ q,Open3 N (pairsB f) (firstB f) w0 wr q -> u <= q):=⟨_,rfl⟩
      rw [<- hu] at hE
      have HU : Hid (u = Classical.epsilon (fun u => Open3 N (pairsB f) (firstB f) w0 wr u /\ ∀ q,Open3 N (pairsB f) (firstB f) w0 wr q -> u <= q)):=hu
      obtain ⟨⟨m,M,v,zs,hms,hB2,hsr,hul⟩,_⟩:=hE
      clear hu hrel
      have hml:=hsr.le
      have hzl:=hsr.zlen
      have HSR : Hid (Srch N (pairsB f) (firstB f) N (fun _ => False) m M zs):=hsr
      clear hsr
      rcases List.eq_nil_or_concat zs with rfl | ⟨zs1,x,hzx⟩
      ·obtain ⟨a,c,rfl⟩ : ∃ a c,v = .slice a 0 c:=by
        rcases Go.Joins.ownsRow_forms hms.row.1 with ⟨h1,_⟩ | ⟨g,c,h1⟩
        ·exact ⟨_,_,h1⟩
        ·exact ⟨_,_,h1⟩
       have ho : wr.cell? ⟨w0.heap.size + 1 + 1,0,none⟩ = some (.slice a 0 c):=hms.opn
       have hm:=hms.met
       go_wp2
       go_ret
       exact ⟨w0.heap.size,m,M,rfl,hms.set,HSR.out.done,by omega,hbw.size,hbw.trans (hB2.mono hbw.size)⟩
      ·rw [List.concat_eq_append] at hzx
       subst hzx
       obtain ⟨g,cap,rfl⟩ : ∃ g cap,v = .slice (some ⟨g,0,none⟩) (zs1.length + 1) cap:=by
        have h:=Go.Joins.ownsRow_form hms.row.1 (by simp [natI])
        simpa [natI] using h
       obtain ⟨hcx,hms1⟩:=hms.pop
       obtain ⟨hcap,hcap2⟩:=row_cap hms.row.1
       unfold maxLen at hcap2
       have ho : wr.cell? ⟨w0.heap.size + 1 + 1,0,none⟩ = some (.slice (some ⟨g,0,none⟩) (zs1.length + 1) cap):=hms.opn
       have hfz : wr.frozen? ⟨w0.heap.size + 1 + 1,0,none⟩ = false:=hms.frz
       obtain ⟨hsr1,hMx⟩:=HSR.out.pop
       have hxN:=hsr1.lt x hMx
       have hz1 : zs1.length + 1 <= 200:=by simp at hzl; omega
       have hkey:=keyN x (by omega)
       have hBl : Below w0.heap.size w0 (wr.setCell ⟨w0.heap.size + 1 + 1,0,none⟩ (.slice (some ⟨g,0,none⟩) zs1.length cap)):=hB2.setCell (by show w0.heap.size <= w0.heap.size + 1 + 1; omega) _
       have hownl:=groups_below hown hBl
       have hshl:=shuns_all hown (by omega) hBl
       have hLb : (nexts (pairsB f) x).length <= 3000:=by
        have h1 : (nexts (pairsB f) x).length <= (pairsB f).length:=by unfold nexts; rw [List.length_map]; exact List.length_filter_le _ _
        have h2 : (pairsB f).length = n:=by simp [pairsB,HAL.out]
        omega
       have HO4 : Hid (Open4 N (pairsB f) (firstB f) w0 (wr.setCell ⟨w0.heap.size + 1 + 1,0,none⟩ (.slice (some ⟨g,0,none⟩) zs1.length cap)) x 0 u):=⟨m,M,_,zs1,hms1,hBl,hsr1,fun t ht => by simp at ht,hMx,by rw [hul]; simp; omega⟩
       clear hms hms1 hsr1 hMx HSR hul hB2 hzl hml
       go_wp2_with (at_lookup; refine wpList_lookup_groups_shuns _ rfl _ _ 137 rfl 3 22 3 .i64 keyI Try.underlying137 (zeroS _) (w.heap.size + 2) (w.heap.size + 1) k D rfl hownl (by unfold maxLen; omega) _ _ rfl hkey ?_; intro v2 zs2 hat hoi _ _ hsh; have hzs:=HNX.out.at hat hoi; rw [hzs] at hoi; obtain ⟨a2,c2,hv2,hrow⟩:=next_row hoi hBl (hsh _ hshl); rw [hv2]; clear hsh hoi hat hzs hv2)
       go_loopw [74] (fun i wy => ∃ j : Nat,j <= (nexts (pairsB f) x).length /\ i = .int .i64 j /\ Open4 N (pairsB f) (firstB f) w0 wy x j u) (fun i _ => (nexts (pairsB f) x).length - (intOf i).toNat)
       case atStart => exact ⟨0,Nat.zero_le _,rfl,HO4.out⟩
       case round =>
        clear HO4 hownl hshl hBl ho hfz hcx
        obtain ⟨j,hj,rfl,m,M,v,zs,hms,hB2,hsr,hd,hMx,hle⟩:=hrel
        have hml:=hsr.le
        have hzl:=hsr.zlen
        have HSR : Hid (Srch N (pairsB f) (firstB f) N (fun y => y = x) m M zs):=hsr
        have HD : Hid (∀ t ∈ (nexts (pairsB f) x).take j,M t = true):=hd
        have HMX : Hid (M x = true):=hMx
        have HLE : Hid (2 * (N - m) + zs.length + 1 <= u):=hle
        clear hsr hd hMx hle
        by_cases hjl : j < (nexts (pairsB f) x).length
        ·obtain ⟨t,ht⟩ : ∃ t,(nexts (pairsB f) x)[j]? = some t:=⟨_,List.getElem?_eq_getElem hjl⟩
         obtain ⟨g2,rfl,hcl⟩:=hrow (by omega)
         have hct:=hcl wr hB2 j t ht
         have hmem : (x,t) ∈ pairsB f:=(mem_nexts _ x t).1 (List.mem_of_getElem? ht)
         have htN : t < N:=HPS.out (x,t) hmem
         have HR : Hid (ReachP N (pairsB f) (firstB f) t):=Reach.on (HSR.out.sound x HMX.out) hmem
         have HTK : Hid ((nexts (pairsB f) x).take (j + 1) = (nexts (pairsB f) x).take j ++ [t]):=by
          show (nexts (pairsB f) x).take (j + 1) = (nexts (pairsB f) x).take j ++ [t]
          rw [List.take_add_one,ht]; rfl
         have hji : (j : Int) < (nexts (pairsB f) x).length:=by omega
         clear ht hmem hcl
         go_wp2_with (go_at_call 107; refine (meet_any w0.heap.size m M v zs t _ hms (by omega) (by omega) (by omega)).mono ?_; rintro e w1 ⟨rfl,hbm,v1,hms1⟩)
         obtain ⟨hsr1,hle1⟩:=HSR.out.meet t htN HR.out
         go_roundw
         case rel =>
          refine ⟨j + 1,by omega,by go_num,_,_,v1,_,hms1,hB2.trans hbm,hsr1,fun y hy => ?_,meetM_mono HMX.out,by have:=HLE.out; omega⟩
          rw [HTK.out] at hy
          rcases List.mem_append.1 hy with h | h
          ·exact meetM_mono (HD.out y h)
          ·rw [List.mem_singleton.1 h]; exact meetM_self _ _
         case measure => simp [intOf]; omega
        ·have HO : Hid (Open3 N (pairsB f) (firstB f) w0 wr (2 * (N - m) + zs.length)):=⟨m,M,v,zs,hms,hB2,HSR.out.did (fun t ht => HD.out t (by rw [List.take_of_length_le (by omega)]; exact ht)),rfl⟩
         go_wp2
         go_roundw
         case rel => exact ⟨_,HO.out⟩
         case measure =>
          rw [<- HU.out]
          exact Nat.lt_of_le_of_lt ((eps_min ⟨_,HO.out⟩).2 _ HO.out) (by have:=HLE.out; omega)
end Go.Proofs.Yteehgcbjmdideab.Sc
/- 'stay' of package fst: the new number of each state that stays. -/
namespace Go.Proofs.Yteehgcbjmdideab.Sc
open Go.RowKit Go.Maps Go.ChangeShapes
attribute [local go_sem ↓] Go.wp_at_zero Go.wp_at_succ
def NumAt (w : World) (B n : Nat) (st : Nat -> Bool) (k : Nat) : Prop:=∃ D : DataW Unit,w.ownsMap Try.prog 3 (plainElem Try.prog 3) B n D /\ Maps.size D = newNo st k /\
 (∀ x : Nat,Maps.has D (.int .i64 (x : Int)) = (decide (x < k) && st x)) /\ ∀ x : Nat,x < k -> st x = true -> D.atKey (.int .i64 (x : Int)) (.lit (.int .i64 0)) = .lit (.int .i64 (newNo st x))
theorem NumAt.below {w w' : World} {B n k : Nat} {st : Nat -> Bool} (h : NumAt w B n st k) (hb : Below w.heap.size w w') : NumAt w' B n st k:=by
 obtain ⟨D,h1,h2⟩:=h
 exact ⟨D,h1.kept (bel_grown hb) (by simp),h2⟩
theorem NumAt.start (w : World) (st : Nat -> Bool) : NumAt (w.alloc (.map #[] 0)) w.heap.size 0 st 0 :=
 ⟨.map [],World.ownsMap_made _ _ _ _,rfl,fun x => by simp [Maps.has],fun x hx => by omega⟩
theorem NumAt.miss {w : World} {B n k : Nat} {st : Nat -> Bool} (h : NumAt w B n st k) (hk : st k = false) : NumAt w B n st (k + 1):=by
 obtain ⟨D,h1,h2,h3,h4⟩:=h
 refine ⟨D,h1,by rw [h2,newNo_succ,hk]; rfl,fun x => ?_,fun x hx hs => ?_⟩
 ·rw [h3 x]
  by_cases e : x = k
  ·subst e; simp [hk]
  ·have : decide (x < k + 1) = decide (x < k):=by rw [Bool.eq_iff_iff]; simp; omega
   rw [this]
 ·by_cases e : x = k
  ·subst e; rw [hk] at hs; cases hs
  ·exact h4 x (by omega) hs
theorem num_put {D : DataW Unit} {k : Nat} {st : Nat -> Bool} (hT : Tidy D) (h2 : Maps.size D = newNo st k) (h3 : ∀ x : Nat,Maps.has D (.int .i64 (x : Int)) = (decide (x < k) && st x))
  (h4 : ∀ x : Nat,x < k -> st x = true -> D.atKey (.int .i64 (x : Int)) (.lit (.int .i64 0)) = .lit (.int .i64 (newNo st x))) (hk : st k = true) :
  Maps.size (D.put (.int .i64 (k : Int)) (.lit (.int .i64 (newNo st k)))) = newNo st (k + 1) /\ (∀ x : Nat,Maps.has (D.put (.int .i64 (k : Int)) (.lit (.int .i64 (newNo st k)))) (.int .i64 (x : Int)) = (decide (x < k + 1) && st x)) /\
   ∀ x : Nat,x < k + 1 -> st x = true -> (D.put (.int .i64 (k : Int)) (.lit (.int .i64 (newNo st k)))).atKey (.int .i64 (x : Int)) (.lit (.int .i64 0)) = .lit (.int .i64 (newNo st x)):=by
 refine ⟨?_,fun x => ?_,fun x hx hs => ?_⟩
 ·rw [size_put hT,h3 k,h2,newNo_succ,hk]; simp
 ·rw [has_put D hT.isMap,h3 x]
  by_cases e : x = k
  ·subst e; simp [hk]
  ·have : decide (x < k + 1) = decide (x < k):=by rw [Bool.eq_iff_iff]; simp; omega
   rw [this]; simp [e]
 ·by_cases e : x = k
  ·subst e; exact atKey_put_same hT.isMap (isKeyI _) _ _
  ·rw [atKey_put_other (by intro h; apply e; have:=(Lit.int.inj h).2; omega)]
   exact h4 x (by omega) hs
set_option maxHeartbeats 4000000 in
theorem stay_any (f : FstD) (N : Nat) (fin : Value) (aa : Option Addr) (n ac : Nat) (w : World) (hf : ISlice w fin f.final) (hfl : f.final.length = N) (ha : ASlice w (.slice aa n ac) f.arcs) (hal : f.arcs.length = n) (hn : n <= 3000) (hN1 : 1 <= N) (hN : N <= 200) (hst : f.states = N)
  (hok : ∀ a ∈ f.arcs,(0 <= a.src /\ a.src < N) /\ (0 <= a.dst /\ a.dst < N)) :
  Calls Try.prog 58 #[.agg #[.int .i64 (N : Int),.int .i64 f.start,fin,.slice aa n ac]] w fun e w' =>
   ∃ B m st,e = .returned (.map (some B)) /\ NumAt w' B m st N /\ (∀ i,st i = true ↔ Stays f i) /\ m <= 200 /\ w.heap.size <= B /\ Below w.heap.size w w':=by
 have hcF : CellsF (w.alloc (.cells #[.int .i64 (N : Int),.int .i64 f.start,fin,.slice aa n ac] 25)) w.heap.size (N : Int) f.start fin (.slice aa n ac):=by simp [CellsF]
 have hb0:=bel_up (bel_self w) (.cells #[.int .i64 (N : Int),.int .i64 f.start,fin,.slice aa n ac] 25)
 have HST : Hid (f.states = (N : Int)):=hst
 have HAL : Hid (f.arcs.length = n):=hal
 have HFL : Hid (f.final.length = N):=hfl
 have HOK : Hid (∀ a ∈ f.arcs,(0 <= a.src /\ a.src < N) /\ (0 <= a.dst /\ a.dst < N)):=hok
 have HN1 : Hid (1 <= N):=hN1
 clear hst hal hfl hok hN1
 have hmm:=@run_makeMap Try.prog
 go_enter Try.func58,Try.ntmps58
 go_wp2_with (first | (go_at_call 86; refine (reach_B f N w.heap.size fin aa n ac w1 hc1 (hf.below hbx) HFL.out (ha.below hbx) HAL.out hn HN1.out hN HOK.out).mono ?_; rintro e w2 ⟨B2,k2,M2,rfl,hS2,hM2,_,hB2,hb2⟩; have hs1:=hS1.below hb2; have hc2:=hc1.below hb2; have hby:=bel_on hbx hb2; have p0:=old_cell (o:=.map #[] 0) hc2.1; clear q0 q1 q2 q3) | (go_at_call 86; refine (reach_A f N w.heap.size fin aa n ac _ hcF (ha.below hb0) HAL.out hn HN1.out hN HOK.out).mono ?_; rintro e w1 ⟨B1,k1,M1,rfl,hS1,hM1,_,hB1,hb1⟩; have hc1:=hcF.below hb1; have hbx:=bel_on hb0 hb1; have hq:=hc1; obtain ⟨q0,q1,q2,q3⟩:=hq))
 obtain ⟨D1,hD1,hh1⟩:=hs1
 obtain ⟨D2,hD2,hh2⟩:=hS2
 obtain ⟨st,hst⟩ : ∃ st : Nat -> Bool,st = fun x => M1 x && M2 x:=⟨_,rfl⟩
 have HSt : Hid (∀ x,st x = (M1 x && M2 x)):=fun x => by rw [hst]
 have HSS : Hid (∀ i,st i = true ↔ Stays f i):=fun i => by
  rw [hst]
  show (M1 i && M2 i) = true ↔ _
  rw [Bool.and_eq_true,hM1 i,hM2 i]
  unfold Stays
  rw [HST.out]
  simp
 clear hst hM1 hM2
 go_loopw [20] (fun i wr => ∃ k : Nat,k <= N /\ i = .int .i64 k /\ ∃ m,m <= k /\ NumAt wr w2.heap.size m st k /\ Below w2.heap.size w2 wr /\ w2.heap.size + 1 <= wr.heap.size) (fun i _ => N - (intOf i).toNat)
 case atStart => exact ⟨0,Nat.zero_le _,rfl,0,Nat.le_refl _,NumAt.start _ _,bel_up (bel_self _) _,by simp⟩
 case round =>
  clear p0
  obtain ⟨k,hk,rfl,m,hmk,hnum,hB,hsz⟩:=hrel
  have e1:=(hD1.kept (bel_grown hB) (by simp))
  have e2:=(hD2.kept (bel_grown hB) (by simp))
  by_cases hlt : k < N
  ·have hi : (k : Int) < N:=by omega
   have hkey:=keyN k (by omega)
   have hx1:=hh1 k
   have hx2:=hh2 k
   have hsk:=HSt.out k
   have HNM : Hid (NumAt wr w2.heap.size m st k):=hnum
   cases m1 : M1 k
   ·rw [m1] at hx1 hsk
    have HK : Hid (st k = false):=hsk
    clear hsk
    go_wp2_with (first | (at_lookup; refine wpList_lookup_own_unit _ rfl _ _ 104 rfl 3 106 keyI Try.underlying104 (zeroU _) B1 _ D1 rfl e1 _ _ rfl hkey ?_; rw [hx1]) | (at_lookup; refine wpList_lookup_own_unit _ rfl _ _ 104 rfl 3 106 keyI Try.underlying104 (zeroU _) B2 _ D2 rfl (e2.alloc _) _ _ rfl hkey ?_; rw [hx2]))
    go_roundw
    case rel => exact ⟨k + 1,by omega,by go_num,m,by omega,(HNM.out.below (bel_up (bel_up (bel_self _) _) _)).miss HK.out,bel_up (bel_up hB _) _,by simp; omega⟩
    case measure => simp [intOf]; omega
   ·cases m2 : M2 k
    ·rw [m1,m2] at hsk
     rw [m1] at hx1
     rw [m2] at hx2
     have HK : Hid (st k = false):=hsk
     clear hsk
     go_wp2_with (first | (at_lookup; refine wpList_lookup_own_unit _ rfl _ _ 104 rfl 3 106 keyI Try.underlying104 (zeroU _) B1 _ D1 rfl e1 _ _ rfl hkey ?_; rw [hx1]) | (at_lookup; refine wpList_lookup_own_unit _ rfl _ _ 104 rfl 3 106 keyI Try.underlying104 (zeroU _) B2 _ D2 rfl (e2.alloc _) _ _ rfl hkey ?_; rw [hx2]))
     go_roundw
     case rel => exact ⟨k + 1,by omega,by go_num,m,by omega,(HNM.out.below (bel_up (bel_up (bel_self _) _) _)).miss HK.out,bel_up (bel_up hB _) _,by simp; omega⟩
     case measure => simp [intOf]; omega
    ·rw [m1,m2] at hsk
     rw [m1] at hx1
     rw [m2] at hx2
     have HK : Hid (st k = true):=hsk
     clear hsk
     obtain ⟨D,hD,d2,d3,d4⟩:=hnum
     have HP:=num_put (hD.tidy keyI) d2 d3 d4 HK.out
     have hnw : Maps.size D <= 1000:=by rw [d2]; have:=newNo_le st k; omega
     have HD2 : Hid (Maps.size D = newNo st k):=d2
     have HHP : Hid (Maps.size (D.put (.int .i64 (k : Int)) (.lit (.int .i64 (newNo st k)))) = newNo st (k + 1) /\ (∀ x : Nat,Maps.has (D.put (.int .i64 (k : Int)) (.lit (.int .i64 (newNo st k)))) (.int .i64 (x : Int)) = (decide (x < k + 1) && st x)) /\
      ∀ x : Nat,x < k + 1 -> st x = true -> (D.put (.int .i64 (k : Int)) (.lit (.int .i64 (newNo st k)))).atKey (.int .i64 (x : Int)) (.lit (.int .i64 0)) = .lit (.int .i64 (newNo st x))):=HP
     clear d2 d3 d4 HP
     go_wp2_with (first | (at_lookup; refine wpList_lookup_own_unit _ rfl _ _ 104 rfl 3 106 keyI Try.underlying104 (zeroU _) B1 _ D1 rfl e1 _ _ rfl hkey ?_; rw [hx1]) | (at_lookup; refine wpList_lookup_own_unit _ rfl _ _ 104 rfl 3 106 keyI Try.underlying104 (zeroU _) B2 _ D2 rfl (e2.alloc _) _ _ rfl hkey ?_; rw [hx2]) | (at_len; refine wpList_len_own _ rfl _ 69 rfl 3 3 Try.underlying69 _ w2.heap.size m D rfl ((hD.alloc _).alloc _) ?_; rw [HD2.out]) | (at_mapUpdate; refine wpList_mapUpdate_own _ rfl _ _ _ 69 rfl 3 3 keyI Try.underlying69 _ w2.heap.size m D rfl ((hD.alloc _).alloc _) (by unfold maxLen; omega) _ _ _ rfl rfl hkey _ [] (plainElem_int Try.underlying3 (wfN _ (by have:=HD2.out; omega))) ?_; intro w3 hD3 hg3))
     go_roundw
     case rel => exact ⟨k + 1,by omega,by go_num,m + 1,by omega,⟨_,hD3,HHP.out⟩,(bel_up (bel_up hB _) _).grown hg3 (by simp; omega) (fun j hj => by cases hj; omega),by have:=hg3.size; simp at this; omega⟩
     case measure => simp [intOf]; omega
  ·have HNM : Hid (NumAt wr w2.heap.size m st N):=by
    have : k = N:=by omega
    subst this; exact hnum
   go_wp2
   go_ret
   exact ⟨w2.heap.size,m,st,rfl,HNM.out,HSS.out,by omega,hby.size,hby.trans (hB.mono hby.size)⟩
end Go.Proofs.Yteehgcbjmdideab.Sc
/- 'Print' of package fst: the text,and what Check says. -/
namespace Go.Proofs.Yteehgcbjmdideab.Sc
open Go.RowKit
attribute [local go_sem ↓] Go.wp_at_zero Go.wp_at_succ
theorem heap_bel {w w' : World} (h : Below w.heap.size w w') {g : Nat} {o : Obj} (hg : w.heap[g]? = some o) : w'.heap[g]? = some o:=by
 have : g < w.heap.size:=by
  by_cases h : g < w.heap.size
  ·exact h
  ·rw [Array.getElem?_eq_none (by omega)] at hg; cases hg
 rw [h.block g this]; exact hg
theorem ownsRow_bel {w w' : World} {B e size n : Nat} {v : Value} {xs : List Value} (h : w.ownsRow B e size v n xs) (hb : Below w.heap.size w w') : w'.ownsRow B e size v n xs:=by
 obtain ⟨hl,h⟩:=h
 refine ⟨hl,?_⟩
 rcases h with h | ⟨g,cap,cur,hv,hg,hh,h1,h2,h3,h4⟩
 ·exact Or.inl h
 ·exact Or.inr ⟨g,cap,cur,hv,hg,heap_bel hb hh,h1,h2,h3,h4⟩
end Go.Proofs.Yteehgcbjmdideab.Sc
/- What a text says,line by line: numbers,lines,the transducer that is read. -/
namespace Go.Proofs.Yteehgcbjmdideab.Sc
end Go.Proofs.Yteehgcbjmdideab.Sc
/- 'number' and 'numbers' of package fst. -/
namespace Go.Proofs.Yteehgcbjmdideab.Sc
open Go.RowKit
attribute [local go_sem ↓] Go.wp_at_zero Go.wp_at_succ
end Go.Proofs.Yteehgcbjmdideab.Sc
/- 'numbers' of package fst. -/
namespace Go.Proofs.Yteehgcbjmdideab.Sc
open Go.RowKit
attribute [local go_sem ↓] Go.wp_at_zero Go.wp_at_succ
theorem ownsRow_ints {w : World} {B g : Nat} {v : Value} {xs : List Int} (h : w.ownsRow B g 1 v xs.length (xs.map (Value.int .i64))) : ISlice w v xs:=by
 obtain ⟨_,h⟩:=h
 rcases h with ⟨rfl,h⟩ | ⟨g,cap,cur,rfl,_,hh,h1,h2,h3,h4⟩
 ·exact Or.inl ⟨none,0,rfl,List.length_eq_zero_iff.1 h⟩
 ·refine Or.inr ⟨g,0,xs.length,cap,rfl,⟨rfl,fun i hi => ?_⟩,by omega⟩
  have : (cur.toList.take (xs.length * 1))[i]? = some (.int .i64 (xs.getD i 0)):=by
   rw [h4]; simp [List.getD,hi]
  rw [List.getElem?_take] at this
  simp only [Nat.mul_one,hi,if_true,Array.getElem?_toList] at this
  simp [World.cell?,hh,this]
end Go.Proofs.Yteehgcbjmdideab.Sc
/- The library's slices.Repeat of one number. -/
namespace Go.Proofs.Yteehgcbjmdideab.Sc
open Go.RowKit
attribute [local go_sem ↓] Go.wp_at_zero Go.wp_at_succ
end Go.Proofs.Yteehgcbjmdideab.Sc
