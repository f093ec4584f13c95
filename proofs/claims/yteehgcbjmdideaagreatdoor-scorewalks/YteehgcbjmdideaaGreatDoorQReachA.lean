/- 'reach' of package fst, ahead. -/
import Derived.Test.YteehgcbjmdideaaGreatDoorQMK
namespace Go.Proofs.YteehgcbjmdideaaGreatDoor
open Go.RowKit Go.Maps Go.ChangeShapes
attribute [local go_sem ↓] Go.wp_at_zero Go.wp_at_succ

theorem groups_madeA (w : World) (cs : Array Value) (H : Nat) (hH : w.heap.size = H) : ((w.alloc (.cells cs 25)).alloc (.map #[] 0)).ownsGroups Tryz.prog 3 (H + 2) 3 .i64 (H + 1) 0 (.map [] : DataW Unit) := by
  subst hH
  have := World.ownsGroups_made (H := Unit) (w.alloc (.cells cs 25)) Tryz.prog 3 3 .i64
  simpa using this

theorem grown_allA {w w1 w2 w3 w4 : World} {B b base e : Nat} {o : Obj} {v : Value} {zs : List Int} (hB : Below B w w1) (hoi : w1.ownsInts base e .i64 v zs) (hg : (w1.alloc o).grownBy w2 v.ownBlock) (hg2 : w2.grownBy w3 (some b)) (hs : B ≤ w1.heap.size) (hb : B ≤ base) (hbb : B ≤ b) (h4 : w4 = w3) : Below B w w4 ∧ w1.heap.size ≤ w4.heap.size := by
  subst h4
  have hall := (World.grownBy_alloc w1 o v.ownBlock).trans hg
  exact ⟨hB.groups hoi hall hg2 hs hb hbb, Nat.le_trans hall.size hg2.size⟩

set_option maxHeartbeats 4000000 in
set_option maxRecDepth 100000 in
theorem reach_A (f : FstD) (N fb : Nat) (fin : Value) (aa : Option Addr) (n ac : Nat) (w : World) (hc : CellsF w fb (N : Int) f.start fin (.slice aa n ac)) (ha : ASlice w (.slice aa n ac) f.arcs) (hal : f.arcs.length = n) (hn : n ≤ 3000) (hN1 : 1 ≤ N) (hN : N ≤ 200)
    (hok : ∀ a ∈ f.arcs, (0 ≤ a.src ∧ a.src < N) ∧ (0 ≤ a.dst ∧ a.dst < N)) :
    Calls Tryz.prog 41 #[.agg #[.int .i64 (N : Int), .int .i64 f.start, fin, .slice aa n ac], .func (.func 42) #[] #[.pointer (some ⟨fb, 0, none⟩)], .func (.func 43) #[] #[]] w fun e w' =>
      ∃ B k M, e = .returned (.map (some B)) ∧ SetAt w' B k M ∧ (∀ x, M x = true ↔ ReachP N (pairsA f) (firstA f) x) ∧ k ≤ 200 ∧ w.heap.size ≤ B ∧ Below w.heap.size w w' := by
  have HN1 : Hid (1 ≤ N) := hN1
  have HAL : Hid (f.arcs.length = n) := hal
  have HOK : Hid (∀ a ∈ f.arcs, (0 ≤ a.src ∧ a.src < N) ∧ (0 ≤ a.dst ∧ a.dst < N)) := hok
  clear hal hok hN1
  have hmm := @run_makeMap Tryz.prog
  obtain ⟨i0, hi, hz0, hz1, hz2⟩ := info_parts infoInt
  go_enter Tryz.func41, Tryz.ntmps41
  go_wp2
  go_loopw [23] (fun i wr => ∃ k : Nat, k ≤ n ∧ i = .int .i64 k ∧ ∃ D : DataW Unit, wr.ownsGroups Tryz.prog 3 (w.heap.size + 2) 3 .i64 (w.heap.size + 1) k D ∧ NextsAt D ((pairsA f).take k) ∧ Below (w.heap.size + 1) (w.alloc (.cells #[.int .i64 (N : Int), .int .i64 f.start, fin, .slice aa n ac] 25)) wr ∧ w.heap.size + 2 ≤ wr.heap.size) (fun i _ => n - (intOf i).toNat)
  case atStart => exact ⟨0, Nat.zero_le _, rfl, .map [], groups_madeA w _ _ rfl, nextsAt_made, (Below.refl _ _).alloc (by simp) _, by simp⟩
  case round =>
    obtain ⟨k, hk, rfl, D, hown, hnx, hB, hsz⟩ := hrel
    have hbw : Below w.heap.size w wr := (bel_up (bel_self w) _).trans (hB.mono (by omega))
    by_cases hlt : k < n
    · obtain ⟨b, off, rfl, hx⟩ := ha.some (by omega)
      have hx := hx.below hbw
      obtain ⟨a, hak⟩ : ∃ a, a = f.arcs.getD k a0 := ⟨_, rfl⟩
      have hkl : k < f.arcs.length := by have := HAL.out; omega
      have hmem : a ∈ f.arcs := by rw [hak]; simp [List.getD, hkl]
      obtain ⟨⟨q1, q2⟩, ⟨q3, q4⟩⟩ := HOK.out a hmem
      obtain ⟨s, hs⟩ : ∃ s : Nat, a.src = s := ⟨(a.src).toNat, by omega⟩
      obtain ⟨t, ht⟩ : ∃ t : Nat, a.dst = t := ⟨(a.dst).toNat, by omega⟩
      have hsN : s < N := by omega
      have htN : t < N := by omega
      have HT : Hid ((pairsA f).take (k + 1) = (pairsA f).take k ++ [(s, t)]) := by
        show (pairsA f).take (k + 1) = (pairsA f).take k ++ [(s, t)]
        rw [List.take_add_one]
        congr 1
        have : (pairsA f)[k]? = some (s, t) := by
          unfold pairsA
          rw [List.getElem?_map]
          have e1 : f.arcs[k]? = some a := by rw [hak]; simp [List.getD, hkl]
          rw [e1]
          simp [hs, ht]
        rw [this]; rfl
      have c0 := hx.c0 k hlt
      have c1 := hx.c1 k hlt
      have c2 := hx.c2 k hlt
      have c3 := hx.c3 k hlt
      have c4 := hx.c4 k hlt
      rw [← hak] at c0 c1 c2 c3 c4
      have hkey := keyN s (by omega)
      have hlti : (k : Int) < n := by omega
      have HS : Hid (a.src = s) := hs
      have HD : Hid (a.dst = t) := ht
      clear hs ht hak hmem hkl q1 q2 q3 q4 hx
      go_wp2_with (first | (go_at_call 43; refine (along_aheadN a s t _ HS.out HD.out).mono ?_; rintro e w1 ⟨rfl, hb1⟩; have hbx := bel_on (bel_up (bel_self wr) _) hb1; have hown1 := groups_below hown hbx; have hB1 := hB.trans (hbx.mono (by omega)); have hs1 := Nat.le_trans hsz hbx.size; clear hb1 hbx hown hB c0 c1 c2 c3 c4) | (at_lookup; refine wpList_lookup_groups _ rfl _ _ 117 rfl 3 22 3 .i64 keyI Tryz.underlying117 (zeroS _) (w.heap.size + 2) (w.heap.size + 1) k D rfl hown1 (by unfold maxLen; omega) _ _ rfl hkey ?_; intro v zs hat hoi hzl hback; have hzs := hnx.at hat hoi) | (at_builtin; refine wpList_append_own_at _ rfl _ _ 22 rfl (w.heap.size + 2) 3 i0 (.int .i64 0) 1 8 Tryz.underlying22 hi hz0 hz1 hz2 rfl (by decide) _ _ _ rfl (hoi.1.alloc _) ⟨w1.heap.size, 0, none⟩ 1 1 [.int .i64 (t : Int)] rfl rfl (cell_one_new _ _ _) (ints_oneCell .i64 [(t : Int)]) (by unfold maxLen; omega) (by omega) (by simp; omega) ?_; intro v' w2 hown' hgrow hnil hloc; have hoi' := hoi.appended hown' (wfN t (by omega))) | (at_mapUpdate; refine wpList_mapUpdate_back _ rfl _ _ _ 117 rfl hback rfl rfl rfl ((World.grownBy_alloc _ _ _).trans hgrow) hoi' (by simp; omega) (hloc.imp id (fun h => ⟨_, h, by simp⟩)) ?_; intro w3 hown3 hgrow3))
      obtain ⟨hB3, hs3⟩ := grown_allA hB1 hoi hgrow hgrow3 (by omega) (by omega) (by omega) rfl
      go_roundw
      case rel =>
        refine ⟨k + 1, by omega, by go_num, _, hown3, ?_, hB3, Nat.le_trans hs1 hs3⟩
        rw [HT.out]
        rw [hzs] at hoi' ⊢
        exact hnx.put (groups_isMap hown1) hoi'
      case measure => simp [intOf]; omega
    · have HNX : Hid (NextsAt D (pairsA f)) := by
        have h := hnx
        rw [List.take_of_length_le (by simp [pairsA, HAL.out]; omega)] at h
        exact h
      clear hnx
      have hF : CellsF wr w.heap.size (N : Int) f.start fin (.slice aa n ac) := CellsF.keepB (by simp [CellsF]) hB (by omega)
      have f0 : (((wr.alloc (.map #[] 0)).alloc (.cells #[.map (some wr.heap.size)] 99)).alloc (.cells #[.slice none 0 0] 22)).cell? ⟨w.heap.size, 0, none⟩ = some (.int .i64 (N : Int)) := old_cell (old_cell (old_cell hF.1))
      have HPS : Hid (∀ p ∈ pairsA f, p.2 < N) := fun p hp => by
        obtain ⟨a, ha1, rfl⟩ := List.mem_map.1 hp
        have := HOK.out a ha1
        show (a.dst).toNat < N
        omega
      go_wp2
      rename World => w0
      go_loopw [46] (fun i wx => ∃ k2 : Nat, k2 ≤ N ∧ i = .int .i64 k2 ∧ ∃ m M v zs, MS wx w0.heap.size m M v zs ∧ Below w0.heap.size w0 wx ∧ Srch N (pairsA f) (firstA f) k2 (fun _ => False) m M zs) (fun i _ => N - (intOf i).toNat)
      case atStart => exact ⟨0, Nat.zero_le _, rfl, 0, _, _, [], MS.start w0, bel_up (bel_up (bel_up (bel_self w0) _) _) _, Srch.start _ _ _⟩
      case round =>
        obtain ⟨k2, hk2, rfl, m, M, v, zs, hms, hB2, hsr⟩ := hrel
        have hbw2 : Below w.heap.size w wr := hbw.trans (hB2.mono hbw.size)
        have hc2 := hc.below hbw2
        have hml := hsr.le
        have hzl := hsr.zlen
        have HSR : Hid (Srch N (pairsA f) (firstA f) k2 (fun _ => False) m M zs) := hsr
        clear hsr f0 hF
        by_cases hlt2 : k2 < N
        · have hi2 : (k2 : Int) < N := by omega
          cases hS : firstA f k2
          · go_wp2_with (go_at_call 42; refine (first_A f N fb _ _ k2 false _ hc2 hS).mono ?_; rintro e w1 ⟨rfl, rfl⟩)
            go_roundw
            case rel => exact ⟨k2 + 1, by omega, by go_num, m, M, v, zs, hms, hB2, HSR.out.miss hS⟩
            case measure => simp [intOf]; omega
          · go_wp2_with (first | (go_at_call 42; refine (first_A f N fb _ _ k2 true _ hc2 hS).mono ?_; rintro e w1 ⟨rfl, rfl⟩) | (go_at_call 59; refine (meet_any w0.heap.size m M v zs k2 _ hms (by omega) (by omega) (by omega)).mono ?_; rintro e w1 ⟨rfl, hbm, v1, hms1⟩))
            go_roundw
            case rel => exact ⟨k2 + 1, by omega, by go_num, _, _, v1, _, hms1, hB2.trans hbm, HSR.out.hit hlt2 hS⟩
            case measure => simp [intOf]; omega
        · have HSN : Hid (Srch N (pairsA f) (firstA f) N (fun _ => False) m M zs) := ⟨HSR.out.num, HSR.out.zlen, HSR.out.lt, HSR.out.sound, HSR.out.opn, HSR.out.all, fun x _ hx hS => HSR.out.first x (by omega) hx hS⟩
          clear HSR
          have HO : Hid (Open3 N (pairsA f) (firstA f) w0 wr (2 * (N - m) + zs.length)) := ⟨m, M, v, zs, hms, hB2, HSN.out, rfl⟩
          clear HSN hms hB2 hc2 hbw2 hml hzl
          go_wp2
          go_loopw [16] (fun _ wx => ∃ u, Open3 N (pairsA f) (firstA f) w0 wx u) (fun _ wx => Classical.epsilon (fun u => Open3 N (pairsA f) (firstA f) w0 wx u ∧ ∀ q, Open3 N (pairsA f) (firstA f) w0 wx q → u ≤ q))
          case atStart => exact ⟨_, HO.out⟩
          case round =>
            clear HO m M v zs
            have hE := eps_min hrel
            obtain ⟨u, hu⟩ : ∃ u, u = Classical.epsilon (fun u => Open3 N (pairsA f) (firstA f) w0 wr u ∧ ∀ q, Open3 N (pairsA f) (firstA f) w0 wr q → u ≤ q) := ⟨_, rfl⟩
            rw [← hu] at hE
            have HU : Hid (u = Classical.epsilon (fun u => Open3 N (pairsA f) (firstA f) w0 wr u ∧ ∀ q, Open3 N (pairsA f) (firstA f) w0 wr q → u ≤ q)) := hu
            obtain ⟨⟨m, M, v, zs, hms, hB2, hsr, hul⟩, _⟩ := hE
            clear hu hrel
            have hml := hsr.le
            have hzl := hsr.zlen
            have HSR : Hid (Srch N (pairsA f) (firstA f) N (fun _ => False) m M zs) := hsr
            clear hsr
            rcases List.eq_nil_or_concat zs with rfl | ⟨zs1, x, hzx⟩
            · obtain ⟨a, c, rfl⟩ : ∃ a c, v = .slice a 0 c := by
                rcases Go.Joins.ownsRow_forms hms.row.1 with ⟨h1, _⟩ | ⟨g, c, h1⟩
                · exact ⟨_, _, h1⟩
                · exact ⟨_, _, h1⟩
              have ho : wr.cell? ⟨w0.heap.size + 1 + 1, 0, none⟩ = some (.slice a 0 c) := hms.opn
              have hm := hms.met
              go_wp2
              go_ret
              exact ⟨w0.heap.size, m, M, rfl, hms.set, HSR.out.done, by omega, hbw.size, hbw.trans (hB2.mono hbw.size)⟩
            · rw [List.concat_eq_append] at hzx
              subst hzx
              obtain ⟨g, cap, rfl⟩ : ∃ g cap, v = .slice (some ⟨g, 0, none⟩) (zs1.length + 1) cap := by
                have h := Go.Joins.ownsRow_form hms.row.1 (by simp [natI])
                simpa [natI] using h
              obtain ⟨hcx, hms1⟩ := hms.pop
              obtain ⟨hcap, hcap2⟩ := row_cap hms.row.1
              unfold maxLen at hcap2
              have ho : wr.cell? ⟨w0.heap.size + 1 + 1, 0, none⟩ = some (.slice (some ⟨g, 0, none⟩) (zs1.length + 1) cap) := hms.opn
              have hfz : wr.frozen? ⟨w0.heap.size + 1 + 1, 0, none⟩ = false := hms.frz
              obtain ⟨hsr1, hMx⟩ := HSR.out.pop
              have hxN := hsr1.lt x hMx
              have hz1 : zs1.length + 1 ≤ 200 := by simp at hzl; omega
              have hkey := keyN x (by omega)
              have hBl : Below w0.heap.size w0 (wr.setCell ⟨w0.heap.size + 1 + 1, 0, none⟩ (.slice (some ⟨g, 0, none⟩) zs1.length cap)) := hB2.setCell (by show w0.heap.size ≤ w0.heap.size + 1 + 1; omega) _
              have hownl := groups_below hown hBl
              have hshl := shuns_all hown (by omega) hBl
              have hLb : (nexts (pairsA f) x).length ≤ 3000 := by
                have h1 : (nexts (pairsA f) x).length ≤ (pairsA f).length := by unfold nexts; rw [List.length_map]; exact List.length_filter_le _ _
                have h2 : (pairsA f).length = n := by simp [pairsA, HAL.out]
                omega
              have HO4 : Hid (Open4 N (pairsA f) (firstA f) w0 (wr.setCell ⟨w0.heap.size + 1 + 1, 0, none⟩ (.slice (some ⟨g, 0, none⟩) zs1.length cap)) x 0 u) := ⟨m, M, _, zs1, hms1, hBl, hsr1, fun t ht => by simp at ht, hMx, by rw [hul]; simp; omega⟩
              clear hms hms1 hsr1 hMx HSR hul hB2 hzl hml
              go_wp2_with (at_lookup; refine wpList_lookup_groups_shuns _ rfl _ _ 117 rfl 3 22 3 .i64 keyI Tryz.underlying117 (zeroS _) (w.heap.size + 2) (w.heap.size + 1) k D rfl hownl (by unfold maxLen; omega) _ _ rfl hkey ?_; intro v2 zs2 hat hoi _ _ hsh; have hzs := HNX.out.at hat hoi; rw [hzs] at hoi; obtain ⟨a2, c2, hv2, hrow⟩ := next_row hoi hBl (hsh _ hshl); rw [hv2]; clear hsh hoi hat hzs hv2)
              go_loopw [74] (fun i wy => ∃ j : Nat, j ≤ (nexts (pairsA f) x).length ∧ i = .int .i64 j ∧ Open4 N (pairsA f) (firstA f) w0 wy x j u) (fun i _ => (nexts (pairsA f) x).length - (intOf i).toNat)
              case atStart => exact ⟨0, Nat.zero_le _, rfl, HO4.out⟩
              case round =>
                clear HO4 hownl hshl hBl ho hfz hcx
                obtain ⟨j, hj, rfl, m, M, v, zs, hms, hB2, hsr, hd, hMx, hle⟩ := hrel
                have hml := hsr.le
                have hzl := hsr.zlen
                have HSR : Hid (Srch N (pairsA f) (firstA f) N (fun y => y = x) m M zs) := hsr
                have HD : Hid (∀ t ∈ (nexts (pairsA f) x).take j, M t = true) := hd
                have HMX : Hid (M x = true) := hMx
                have HLE : Hid (2 * (N - m) + zs.length + 1 ≤ u) := hle
                clear hsr hd hMx hle
                by_cases hjl : j < (nexts (pairsA f) x).length
                · obtain ⟨t, ht⟩ : ∃ t, (nexts (pairsA f) x)[j]? = some t := ⟨_, List.getElem?_eq_getElem hjl⟩
                  obtain ⟨g2, rfl, hcl⟩ := hrow (by omega)
                  have hct := hcl wr hB2 j t ht
                  have hmem : (x, t) ∈ pairsA f := (mem_nexts _ x t).1 (List.mem_of_getElem? ht)
                  have htN : t < N := HPS.out (x, t) hmem
                  have HR : Hid (ReachP N (pairsA f) (firstA f) t) := Reach.on (HSR.out.sound x HMX.out) hmem
                  have HTK : Hid ((nexts (pairsA f) x).take (j + 1) = (nexts (pairsA f) x).take j ++ [t]) := by
                    show (nexts (pairsA f) x).take (j + 1) = (nexts (pairsA f) x).take j ++ [t]
                    rw [List.take_add_one, ht]; rfl
                  have hji : (j : Int) < (nexts (pairsA f) x).length := by omega
                  clear ht hmem hcl
                  go_wp2_with (go_at_call 59; refine (meet_any w0.heap.size m M v zs t _ hms (by omega) (by omega) (by omega)).mono ?_; rintro e w1 ⟨rfl, hbm, v1, hms1⟩)
                  obtain ⟨hsr1, hle1⟩ := HSR.out.meet t htN HR.out
                  go_roundw
                  case rel =>
                    refine ⟨j + 1, by omega, by go_num, _, _, v1, _, hms1, hB2.trans hbm, hsr1, fun y hy => ?_, meetM_mono HMX.out, by have := HLE.out; omega⟩
                    rw [HTK.out] at hy
                    rcases List.mem_append.1 hy with h | h
                    · exact meetM_mono (HD.out y h)
                    · rw [List.mem_singleton.1 h]; exact meetM_self _ _
                  case measure => simp [intOf]; omega
                · have HO : Hid (Open3 N (pairsA f) (firstA f) w0 wr (2 * (N - m) + zs.length)) := ⟨m, M, v, zs, hms, hB2, HSR.out.did (fun t ht => HD.out t (by rw [List.take_of_length_le (by omega)]; exact ht)), rfl⟩
                  go_wp2
                  go_roundw
                  case rel => exact ⟨_, HO.out⟩
                  case measure =>
                    rw [← HU.out]
                    exact Nat.lt_of_le_of_lt ((eps_min ⟨_, HO.out⟩).2 _ HO.out) (by have := HLE.out; omega)

end Go.Proofs.YteehgcbjmdideaaGreatDoor
