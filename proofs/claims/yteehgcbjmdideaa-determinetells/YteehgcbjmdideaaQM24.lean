/- 'reach' of package fst, back. -/
import Derived.Test.YteehgcbjmdideaaQM23
import Derived.Test.YteehgcbjmdideaaQM03
import Derived.Test.YteehgcbjmdideaaQM02
import Derived.Test.YteehgcbjmdideaaQShelf
import Derived.Lib.AppendIntMem
import Derived.Lib.SmallJoins
import Derived.Deep.OwnRows
import Derived.Laws.CopyOwn
import Derived.Deep.RegionLaw
namespace Go.Proofs.Yteehgcbjmdideaa.Sc
open Go.RowKit Go.Maps Go.ChangeShapes
attribute [local go_sem ↓] Go.wp_at_zero Go.wp_at_succ

theorem groups_madeB (w : World) (cs : Array Value) (H : Nat) (hH : w.heap.size = H) : ((w.alloc (.cells cs 25)).alloc (.map #[] 0)).ownsGroups Try.prog 3 (H + 2) 3 .i64 (H + 1) 0 (.map [] : DataW Unit) := by
  subst hH
  have := World.ownsGroups_made (H := Unit) (w.alloc (.cells cs 25)) Try.prog 3 3 .i64
  simpa using this

theorem grown_allB {w w1 w2 w3 w4 : World} {B b base e : Nat} {o : Obj} {v : Value} {zs : List Int} (hB : Below B w w1) (hoi : w1.ownsInts base e .i64 v zs) (hg : (w1.alloc o).grownBy w2 v.ownBlock) (hg2 : w2.grownBy w3 (some b)) (hs : B ≤ w1.heap.size) (hb : B ≤ base) (hbb : B ≤ b) (h4 : w4 = w3) : Below B w w4 ∧ w1.heap.size ≤ w4.heap.size := by
  subst h4
  have hall := (World.grownBy_alloc w1 o v.ownBlock).trans hg
  exact ⟨hB.groups hoi hall hg2 hs hb hbb, Nat.le_trans hall.size hg2.size⟩

set_option maxHeartbeats 4000000 in
set_option maxRecDepth 100000 in
theorem reach_B (f : FstD) (N fb : Nat) (fin : Value) (aa : Option Addr) (n ac : Nat) (w : World) (hc : CellsF w fb (N : Int) f.start fin (.slice aa n ac)) (hf : ISlice w fin f.final) (hfl : f.final.length = N) (ha : ASlice w (.slice aa n ac) f.arcs) (hal : f.arcs.length = n) (hn : n ≤ 3000) (hN1 : 1 ≤ N) (hN : N ≤ 200)
    (hok : ∀ a ∈ f.arcs, (0 ≤ a.src ∧ a.src < N) ∧ (0 ≤ a.dst ∧ a.dst < N)) :
    Calls Try.prog 179 #[.agg #[.int .i64 (N : Int), .int .i64 f.start, fin, .slice aa n ac], .func (.func 182) #[] #[.pointer (some ⟨fb, 0, none⟩)], .func (.func 183) #[] #[]] w fun e w' =>
      ∃ B k M, e = .returned (.map (some B)) ∧ SetAt w' B k M ∧ (∀ x, M x = true ↔ ReachP N (pairsB f) (firstB f) x) ∧ k ≤ 200 ∧ w.heap.size ≤ B ∧ Below w.heap.size w w' := by
  have HN1 : Hid (1 ≤ N) := hN1
  have HAL : Hid (f.arcs.length = n) := hal
  have HOK : Hid (∀ a ∈ f.arcs, (0 ≤ a.src ∧ a.src < N) ∧ (0 ≤ a.dst ∧ a.dst < N)) := hok
  clear hal hok hN1
  have hmm := @run_makeMap Try.prog
  obtain ⟨i0, hi, hz0, hz1, hz2⟩ := info_parts infoInt
  go_enter Try.func179, Try.ntmps179
  go_wp2
  go_loopw [23] (fun i wr => ∃ k : Nat, k ≤ n ∧ i = .int .i64 k ∧ ∃ D : DataW Unit, wr.ownsGroups Try.prog 3 (w.heap.size + 2) 3 .i64 (w.heap.size + 1) k D ∧ NextsAt D ((pairsB f).take k) ∧ Below (w.heap.size + 1) (w.alloc (.cells #[.int .i64 (N : Int), .int .i64 f.start, fin, .slice aa n ac] 25)) wr ∧ w.heap.size + 2 ≤ wr.heap.size) (fun i _ => n - (intOf i).toNat)
  case atStart => exact ⟨0, Nat.zero_le _, rfl, .map [], groups_madeB w _ _ rfl, nextsAt_made, (Below.refl _ _).alloc (by simp) _, by simp⟩
  case round =>
    obtain ⟨k, hk, rfl, D, hown, hnx, hB, hsz⟩ := hrel
    have hbw : Below w.heap.size w wr := (bel_up (bel_self w) _).trans (hB.mono (by omega))
    by_cases hlt : k < n
    · obtain ⟨b, off, rfl, hx⟩ := ha.some (by omega)
      have hx := hx.below hbw
      obtain ⟨a, hak⟩ : ∃ a, a = f.arcs.getD k a0 := ⟨_, rfl⟩
      have hkl : k < f.arcs.length := by have := HAL.out; omega
      have hmem : a ∈ f.arcs := by rw [hak]; simp [List.getD, hkl]
      obtain ⟨⟨q1, q2⟩, ⟨q3, q4⟩⟩ := HOK.out a hmem
      obtain ⟨s, hs⟩ : ∃ s : Nat, a.dst = s := ⟨(a.dst).toNat, by omega⟩
      obtain ⟨t, ht⟩ : ∃ t : Nat, a.src = t := ⟨(a.src).toNat, by omega⟩
      have hsN : s < N := by omega
      have htN : t < N := by omega
      have HT : Hid ((pairsB f).take (k + 1) = (pairsB f).take k ++ [(s, t)]) := by
        show (pairsB f).take (k + 1) = (pairsB f).take k ++ [(s, t)]
        rw [List.take_add_one]
        congr 1
        have : (pairsB f)[k]? = some (s, t) := by
          unfold pairsB
          rw [List.getElem?_map]
          have e1 : f.arcs[k]? = some a := by rw [hak]; simp [List.getD, hkl]
          rw [e1]
          simp [hs, ht]
        rw [this]; rfl
      have c0 := hx.c0 k hlt
      have c1 := hx.c1 k hlt
      have c2 := hx.c2 k hlt
      have c3 := hx.c3 k hlt
      have c4 := hx.c4 k hlt
      rw [← hak] at c0 c1 c2 c3 c4
      have hkey := keyN s (by omega)
      have hlti : (k : Int) < n := by omega
      have HS : Hid (a.dst = s) := hs
      have HD : Hid (a.src = t) := ht
      clear hs ht hak hmem hkl q1 q2 q3 q4 hx
      go_wp2_with (first | (go_at_call 183; refine (along_backN a s t _ HS.out HD.out).mono ?_; rintro e w1 ⟨rfl, hb1⟩; have hbx := bel_on (bel_up (bel_self wr) _) hb1; have hown1 := groups_below hown hbx; have hB1 := hB.trans (hbx.mono (by omega)); have hs1 := Nat.le_trans hsz hbx.size; clear hb1 hbx hown hB c0 c1 c2 c3 c4) | (at_lookup; refine wpList_lookup_groups _ rfl _ _ 207 rfl 3 22 3 .i64 keyI Try.underlying207 (zeroS _) (w.heap.size + 2) (w.heap.size + 1) k D rfl hown1 (by unfold maxLen; omega) _ _ rfl hkey ?_; intro v zs hat hoi hzl hback; have hzs := hnx.at hat hoi) | (at_builtin; refine wpList_append_own_at _ rfl _ _ 22 rfl (w.heap.size + 2) 3 i0 (.int .i64 0) 1 8 Try.underlying22 hi hz0 hz1 hz2 rfl (by decide) _ _ _ rfl (hoi.1.alloc _) ⟨w1.heap.size, 0, none⟩ 1 1 [.int .i64 (t : Int)] rfl rfl (cell_one_new _ _ _) (ints_oneCell .i64 [(t : Int)]) (by unfold maxLen; omega) (by omega) (by simp; omega) ?_; intro v' w2 hown' hgrow hnil hloc; have hoi' := hoi.appended hown' (wfN t (by omega))) | (at_mapUpdate; refine wpList_mapUpdate_back _ rfl _ _ _ 207 rfl hback rfl rfl rfl ((World.grownBy_alloc _ _ _).trans hgrow) hoi' (by simp; omega) (hloc.imp id (fun h => ⟨_, h, by simp⟩)) ?_; intro w3 hown3 hgrow3))
      obtain ⟨hB3, hs3⟩ := grown_allB hB1 hoi hgrow hgrow3 (by omega) (by omega) (by omega) rfl
      go_roundw
      case rel =>
        refine ⟨k + 1, by omega, by go_num, _, hown3, ?_, hB3, Nat.le_trans hs1 hs3⟩
        rw [HT.out]
        rw [hzs] at hoi' ⊢
        exact hnx.put (groups_isMap hown1) hoi'
      case measure => simp [intOf]; omega
    · have HNX : Hid (NextsAt D (pairsB f)) := by
        have h := hnx
        rw [List.take_of_length_le (by simp [pairsB, HAL.out]; omega)] at h
        exact h
      clear hnx
      have hF : CellsF wr w.heap.size (N : Int) f.start fin (.slice aa n ac) := CellsF.keepB (by simp [CellsF]) hB (by omega)
      have f0 : (((wr.alloc (.map #[] 0)).alloc (.cells #[.map (some wr.heap.size)] 194)).alloc (.cells #[.slice none 0 0] 22)).cell? ⟨w.heap.size, 0, none⟩ = some (.int .i64 (N : Int)) := old_cell (old_cell (old_cell hF.1))
      have HPS : Hid (∀ p ∈ pairsB f, p.2 < N) := fun p hp => by
        obtain ⟨a, ha1, rfl⟩ := List.mem_map.1 hp
        have := HOK.out a ha1
        show (a.src).toNat < N
        omega
      go_wp2
      rename World => w0
      go_loopw [46] (fun i wx => ∃ k2 : Nat, k2 ≤ N ∧ i = .int .i64 k2 ∧ ∃ m M v zs, MS wx w0.heap.size m M v zs ∧ Below w0.heap.size w0 wx ∧ Srch N (pairsB f) (firstB f) k2 (fun _ => False) m M zs) (fun i _ => N - (intOf i).toNat)
      case atStart => exact ⟨0, Nat.zero_le _, rfl, 0, _, _, [], MS.start w0, bel_up (bel_up (bel_up (bel_self w0) _) _) _, Srch.start _ _ _⟩
      case round =>
        obtain ⟨k2, hk2, rfl, m, M, v, zs, hms, hB2, hsr⟩ := hrel
        have hbw2 : Below w.heap.size w wr := hbw.trans (hB2.mono hbw.size)
        have hc2 := hc.below hbw2
        have hml := hsr.le
        have hzl := hsr.zlen
        have HSR : Hid (Srch N (pairsB f) (firstB f) k2 (fun _ => False) m M zs) := hsr
        clear hsr f0 hF
        by_cases hlt2 : k2 < N
        · have hi2 : (k2 : Int) < N := by omega
          cases hS : firstB f k2
          · go_wp2_with (go_at_call 182; refine (first_B f N fb _ _ k2 false _ hc2 (hf.below hbw2) hfl hlt2 hS).mono ?_; rintro e w1 ⟨rfl, rfl⟩)
            go_roundw
            case rel => exact ⟨k2 + 1, by omega, by go_num, m, M, v, zs, hms, hB2, HSR.out.miss hS⟩
            case measure => simp [intOf]; omega
          · go_wp2_with (first | (go_at_call 182; refine (first_B f N fb _ _ k2 true _ hc2 (hf.below hbw2) hfl hlt2 hS).mono ?_; rintro e w1 ⟨rfl, rfl⟩) | (go_at_call 190; refine (meet_any w0.heap.size m M v zs k2 _ hms (by omega) (by omega) (by omega)).mono ?_; rintro e w1 ⟨rfl, hbm, v1, hms1⟩))
            go_roundw
            case rel => exact ⟨k2 + 1, by omega, by go_num, _, _, v1, _, hms1, hB2.trans hbm, HSR.out.hit hlt2 hS⟩
            case measure => simp [intOf]; omega
        · have HSN : Hid (Srch N (pairsB f) (firstB f) N (fun _ => False) m M zs) := ⟨HSR.out.num, HSR.out.zlen, HSR.out.lt, HSR.out.sound, HSR.out.opn, HSR.out.all, fun x _ hx hS => HSR.out.first x (by omega) hx hS⟩
          clear HSR
          have HO : Hid (Open3 N (pairsB f) (firstB f) w0 wr (2 * (N - m) + zs.length)) := ⟨m, M, v, zs, hms, hB2, HSN.out, rfl⟩
          clear HSN hms hB2 hc2 hbw2 hml hzl
          go_wp2
          go_loopw [16] (fun _ wx => ∃ u, Open3 N (pairsB f) (firstB f) w0 wx u) (fun _ wx => Classical.epsilon (fun u => Open3 N (pairsB f) (firstB f) w0 wx u ∧ ∀ q, Open3 N (pairsB f) (firstB f) w0 wx q → u ≤ q))
          case atStart => exact ⟨_, HO.out⟩
          case round =>
            clear HO m M v zs
            have hE := eps_min hrel
            obtain ⟨u, hu⟩ : ∃ u, u = Classical.epsilon (fun u => Open3 N (pairsB f) (firstB f) w0 wr u ∧ ∀ q, Open3 N (pairsB f) (firstB f) w0 wr q → u ≤ q) := ⟨_, rfl⟩
            rw [← hu] at hE
            have HU : Hid (u = Classical.epsilon (fun u => Open3 N (pairsB f) (firstB f) w0 wr u ∧ ∀ q, Open3 N (pairsB f) (firstB f) w0 wr q → u ≤ q)) := hu
            obtain ⟨⟨m, M, v, zs, hms, hB2, hsr, hul⟩, _⟩ := hE
            clear hu hrel
            have hml := hsr.le
            have hzl := hsr.zlen
            have HSR : Hid (Srch N (pairsB f) (firstB f) N (fun _ => False) m M zs) := hsr
            clear hsr
            rcases List.eq_nil_or_concat zs with rfl | ⟨zs1, x, hzx⟩
            · obtain ⟨a, c, rfl⟩ : ∃ a c, v = .slice a 0 c := by
                rcases Go.Joins.ownsRow_forms hms.row.1 with ⟨h1, _⟩ | ⟨g, c, h1⟩
                · exact ⟨_, _, h1⟩
                · exact ⟨_, _, h1⟩
              have ho : wr.cell? ⟨w0.heap.size + 1 + 1, 0, none⟩ = some (.slice a 0 c) := hms.opn
              have hm := hms.met
              go_wp2
              go_ret
              exact ⟨w0.heap.size, m, M, rfl, hms.set, HSR.out.done, by omega, hbw.size, hbw.trans (hB2.mono hbw.size)⟩
            · rw [List.concat_eq_append] at hzx
              subst hzx
              obtain ⟨g, cap, rfl⟩ : ∃ g cap, v = .slice (some ⟨g, 0, none⟩) (zs1.length + 1) cap := by
                have h := Go.Joins.ownsRow_form hms.row.1 (by simp [natI])
                simpa [natI] using h
              obtain ⟨hcx, hms1⟩ := hms.pop
              obtain ⟨hcap, hcap2⟩ := row_cap hms.row.1
              unfold maxLen at hcap2
              have ho : wr.cell? ⟨w0.heap.size + 1 + 1, 0, none⟩ = some (.slice (some ⟨g, 0, none⟩) (zs1.length + 1) cap) := hms.opn
              have hfz : wr.frozen? ⟨w0.heap.size + 1 + 1, 0, none⟩ = false := hms.frz
              obtain ⟨hsr1, hMx⟩ := HSR.out.pop
              have hxN := hsr1.lt x hMx
              have hz1 : zs1.length + 1 ≤ 200 := by simp at hzl; omega
              have hkey := keyN x (by omega)
              have hBl : Below w0.heap.size w0 (wr.setCell ⟨w0.heap.size + 1 + 1, 0, none⟩ (.slice (some ⟨g, 0, none⟩) zs1.length cap)) := hB2.setCell (by show w0.heap.size ≤ w0.heap.size + 1 + 1; omega) _
              have hownl := groups_below hown hBl
              have hshl := shuns_all hown (by omega) hBl
              have hLb : (nexts (pairsB f) x).length ≤ 3000 := by
                have h1 : (nexts (pairsB f) x).length ≤ (pairsB f).length := by unfold nexts; rw [List.length_map]; exact List.length_filter_le _ _
                have h2 : (pairsB f).length = n := by simp [pairsB, HAL.out]
                omega
              have HO4 : Hid (Open4 N (pairsB f) (firstB f) w0 (wr.setCell ⟨w0.heap.size + 1 + 1, 0, none⟩ (.slice (some ⟨g, 0, none⟩) zs1.length cap)) x 0 u) := ⟨m, M, _, zs1, hms1, hBl, hsr1, fun t ht => by simp at ht, hMx, by rw [hul]; simp; omega⟩
              clear hms hms1 hsr1 hMx HSR hul hB2 hzl hml
              go_wp2_with (at_lookup; refine wpList_lookup_groups_shuns _ rfl _ _ 207 rfl 3 22 3 .i64 keyI Try.underlying207 (zeroS _) (w.heap.size + 2) (w.heap.size + 1) k D rfl hownl (by unfold maxLen; omega) _ _ rfl hkey ?_; intro v2 zs2 hat hoi _ _ hsh; have hzs := HNX.out.at hat hoi; rw [hzs] at hoi; obtain ⟨a2, c2, hv2, hrow⟩ := next_row hoi hBl (hsh _ hshl); rw [hv2]; clear hsh hoi hat hzs hv2)
              go_loopw [74] (fun i wy => ∃ j : Nat, j ≤ (nexts (pairsB f) x).length ∧ i = .int .i64 j ∧ Open4 N (pairsB f) (firstB f) w0 wy x j u) (fun i _ => (nexts (pairsB f) x).length - (intOf i).toNat)
              case atStart => exact ⟨0, Nat.zero_le _, rfl, HO4.out⟩
              case round =>
                clear HO4 hownl hshl hBl ho hfz hcx
                obtain ⟨j, hj, rfl, m, M, v, zs, hms, hB2, hsr, hd, hMx, hle⟩ := hrel
                have hml := hsr.le
                have hzl := hsr.zlen
                have HSR : Hid (Srch N (pairsB f) (firstB f) N (fun y => y = x) m M zs) := hsr
                have HD : Hid (∀ t ∈ (nexts (pairsB f) x).take j, M t = true) := hd
                have HMX : Hid (M x = true) := hMx
                have HLE : Hid (2 * (N - m) + zs.length + 1 ≤ u) := hle
                clear hsr hd hMx hle
                by_cases hjl : j < (nexts (pairsB f) x).length
                · obtain ⟨t, ht⟩ : ∃ t, (nexts (pairsB f) x)[j]? = some t := ⟨_, List.getElem?_eq_getElem hjl⟩
                  obtain ⟨g2, rfl, hcl⟩ := hrow (by omega)
                  have hct := hcl wr hB2 j t ht
                  have hmem : (x, t) ∈ pairsB f := (mem_nexts _ x t).1 (List.mem_of_getElem? ht)
                  have htN : t < N := HPS.out (x, t) hmem
                  have HR : Hid (ReachP N (pairsB f) (firstB f) t) := Reach.on (HSR.out.sound x HMX.out) hmem
                  have HTK : Hid ((nexts (pairsB f) x).take (j + 1) = (nexts (pairsB f) x).take j ++ [t]) := by
                    show (nexts (pairsB f) x).take (j + 1) = (nexts (pairsB f) x).take j ++ [t]
                    rw [List.take_add_one, ht]; rfl
                  have hji : (j : Int) < (nexts (pairsB f) x).length := by omega
                  clear ht hmem hcl
                  go_wp2_with (go_at_call 190; refine (meet_any w0.heap.size m M v zs t _ hms (by omega) (by omega) (by omega)).mono ?_; rintro e w1 ⟨rfl, hbm, v1, hms1⟩)
                  obtain ⟨hsr1, hle1⟩ := HSR.out.meet t htN HR.out
                  go_roundw
                  case rel =>
                    refine ⟨j + 1, by omega, by go_num, _, _, v1, _, hms1, hB2.trans hbm, hsr1, fun y hy => ?_, meetM_mono HMX.out, by have := HLE.out; omega⟩
                    rw [HTK.out] at hy
                    rcases List.mem_append.1 hy with h | h
                    · exact meetM_mono (HD.out y h)
                    · rw [List.mem_singleton.1 h]; exact meetM_self _ _
                  case measure => simp [intOf]; omega
                · have HO : Hid (Open3 N (pairsB f) (firstB f) w0 wr (2 * (N - m) + zs.length)) := ⟨m, M, v, zs, hms, hB2, HSR.out.did (fun t ht => HD.out t (by rw [List.take_of_length_le (by omega)]; exact ht)), rfl⟩
                  go_wp2
                  go_roundw
                  case rel => exact ⟨_, HO.out⟩
                  case measure =>
                    rw [← HU.out]
                    exact Nat.lt_of_le_of_lt ((eps_min ⟨_, HO.out⟩).2 _ HO.out) (by have := HLE.out; omega)

end Go.Proofs.Yteehgcbjmdideaa.Sc

/- 'stay' of package fst: the new number of each state that stays. -/
namespace Go.Proofs.Yteehgcbjmdideaa.Sc
open Go.RowKit Go.Maps Go.ChangeShapes
attribute [local go_sem ↓] Go.wp_at_zero Go.wp_at_succ

/-- the numbers of those that stay among the first k, in block B -/
def NumAt (w : World) (B n : Nat) (st : Nat → Bool) (k : Nat) : Prop := ∃ D : DataW Unit, w.ownsMap Try.prog 3 (plainElem Try.prog 3) B n D ∧ Maps.size D = newNo st k ∧
  (∀ x : Nat, Maps.has D (.int .i64 (x : Int)) = (decide (x < k) && st x)) ∧ ∀ x : Nat, x < k → st x = true → D.atKey (.int .i64 (x : Int)) (.lit (.int .i64 0)) = .lit (.int .i64 (newNo st x))

theorem NumAt.below {w w' : World} {B n k : Nat} {st : Nat → Bool} (h : NumAt w B n st k) (hb : Below w.heap.size w w') : NumAt w' B n st k := by
  obtain ⟨D, h1, h2⟩ := h
  exact ⟨D, h1.kept (bel_grown hb) (by simp), h2⟩

theorem NumAt.start (w : World) (st : Nat → Bool) : NumAt (w.alloc (.map #[] 0)) w.heap.size 0 st 0 :=
  ⟨.map [], World.ownsMap_made _ _ _ _, rfl, fun x => by simp [Maps.has], fun x hx => by omega⟩

theorem NumAt.miss {w : World} {B n k : Nat} {st : Nat → Bool} (h : NumAt w B n st k) (hk : st k = false) : NumAt w B n st (k + 1) := by
  obtain ⟨D, h1, h2, h3, h4⟩ := h
  refine ⟨D, h1, by rw [h2, newNo_succ, hk]; rfl, fun x => ?_, fun x hx hs => ?_⟩
  · rw [h3 x]
    by_cases e : x = k
    · subst e; simp [hk]
    · have : decide (x < k + 1) = decide (x < k) := by rw [Bool.eq_iff_iff]; simp; omega
      rw [this]
  · by_cases e : x = k
    · subst e; rw [hk] at hs; cases hs
    · exact h4 x (by omega) hs

theorem num_put {D : DataW Unit} {k : Nat} {st : Nat → Bool} (hT : Tidy D) (h2 : Maps.size D = newNo st k) (h3 : ∀ x : Nat, Maps.has D (.int .i64 (x : Int)) = (decide (x < k) && st x))
    (h4 : ∀ x : Nat, x < k → st x = true → D.atKey (.int .i64 (x : Int)) (.lit (.int .i64 0)) = .lit (.int .i64 (newNo st x))) (hk : st k = true) :
    Maps.size (D.put (.int .i64 (k : Int)) (.lit (.int .i64 (newNo st k)))) = newNo st (k + 1) ∧ (∀ x : Nat, Maps.has (D.put (.int .i64 (k : Int)) (.lit (.int .i64 (newNo st k)))) (.int .i64 (x : Int)) = (decide (x < k + 1) && st x)) ∧
      ∀ x : Nat, x < k + 1 → st x = true → (D.put (.int .i64 (k : Int)) (.lit (.int .i64 (newNo st k)))).atKey (.int .i64 (x : Int)) (.lit (.int .i64 0)) = .lit (.int .i64 (newNo st x)) := by
  refine ⟨?_, fun x => ?_, fun x hx hs => ?_⟩
  · rw [size_put hT, h3 k, h2, newNo_succ, hk]; simp
  · rw [has_put D hT.isMap, h3 x]
    by_cases e : x = k
    · subst e; simp [hk]
    · have : decide (x < k + 1) = decide (x < k) := by rw [Bool.eq_iff_iff]; simp; omega
      rw [this]; simp [e]
  · by_cases e : x = k
    · subst e; exact atKey_put_same hT.isMap (isKeyI _) _ _
    · rw [atKey_put_other (by intro h; apply e; have := (Lit.int.inj h).2; omega)]
      exact h4 x (by omega) hs

set_option maxHeartbeats 4000000 in
set_option maxRecDepth 100000 in
theorem stay_any (f : FstD) (N : Nat) (fin : Value) (aa : Option Addr) (n ac : Nat) (w : World) (hf : ISlice w fin f.final) (hfl : f.final.length = N) (ha : ASlice w (.slice aa n ac) f.arcs) (hal : f.arcs.length = n) (hn : n ≤ 3000) (hN1 : 1 ≤ N) (hN : N ≤ 200) (hst : f.states = N)
    (hok : ∀ a ∈ f.arcs, (0 ≤ a.src ∧ a.src < N) ∧ (0 ≤ a.dst ∧ a.dst < N)) :
    Calls Try.prog 153 #[.agg #[.int .i64 (N : Int), .int .i64 f.start, fin, .slice aa n ac]] w fun e w' =>
      ∃ B m st, e = .returned (.map (some B)) ∧ NumAt w' B m st N ∧ (∀ i, st i = true ↔ Stays f i) ∧ m ≤ 200 ∧ w.heap.size ≤ B ∧ Below w.heap.size w w' := by
  have hcF : CellsF (w.alloc (.cells #[.int .i64 (N : Int), .int .i64 f.start, fin, .slice aa n ac] 25)) w.heap.size (N : Int) f.start fin (.slice aa n ac) := by simp [CellsF]
  have hb0 := bel_up (bel_self w) (.cells #[.int .i64 (N : Int), .int .i64 f.start, fin, .slice aa n ac] 25)
  have HST : Hid (f.states = (N : Int)) := hst
  have HAL : Hid (f.arcs.length = n) := hal
  have HFL : Hid (f.final.length = N) := hfl
  have HOK : Hid (∀ a ∈ f.arcs, (0 ≤ a.src ∧ a.src < N) ∧ (0 ≤ a.dst ∧ a.dst < N)) := hok
  have HN1 : Hid (1 ≤ N) := hN1
  clear hst hal hfl hok hN1
  have hmm := @run_makeMap Try.prog
  go_enter Try.func153, Try.ntmps153
  go_wp2_with (first | (go_at_call 179; refine (reach_B f N w.heap.size fin aa n ac w1 hc1 (hf.below hbx) HFL.out (ha.below hbx) HAL.out hn HN1.out hN HOK.out).mono ?_; rintro e w2 ⟨B2, k2, M2, rfl, hS2, hM2, _, hB2, hb2⟩; have hs1 := hS1.below hb2; have hc2 := hc1.below hb2; have hby := bel_on hbx hb2; have p0 := old_cell (o := .map #[] 0) hc2.1; clear q0 q1 q2 q3) | (go_at_call 179; refine (reach_A f N w.heap.size fin aa n ac _ hcF (ha.below hb0) HAL.out hn HN1.out hN HOK.out).mono ?_; rintro e w1 ⟨B1, k1, M1, rfl, hS1, hM1, _, hB1, hb1⟩; have hc1 := hcF.below hb1; have hbx := bel_on hb0 hb1; have hq := hc1; obtain ⟨q0, q1, q2, q3⟩ := hq))
  obtain ⟨D1, hD1, hh1⟩ := hs1
  obtain ⟨D2, hD2, hh2⟩ := hS2
  obtain ⟨st, hst⟩ : ∃ st : Nat → Bool, st = fun x => M1 x && M2 x := ⟨_, rfl⟩
  have HSt : Hid (∀ x, st x = (M1 x && M2 x)) := fun x => by rw [hst]
  have HSS : Hid (∀ i, st i = true ↔ Stays f i) := fun i => by
    rw [hst]
    show (M1 i && M2 i) = true ↔ _
    rw [Bool.and_eq_true, hM1 i, hM2 i]
    unfold Stays
    rw [HST.out]
    simp
  clear hst hM1 hM2
  go_loopw [20] (fun i wr => ∃ k : Nat, k ≤ N ∧ i = .int .i64 k ∧ ∃ m, m ≤ k ∧ NumAt wr w2.heap.size m st k ∧ Below w2.heap.size w2 wr ∧ w2.heap.size + 1 ≤ wr.heap.size) (fun i _ => N - (intOf i).toNat)
  case atStart => exact ⟨0, Nat.zero_le _, rfl, 0, Nat.le_refl _, NumAt.start _ _, bel_up (bel_self _) _, by simp⟩
  case round =>
    clear p0
    obtain ⟨k, hk, rfl, m, hmk, hnum, hB, hsz⟩ := hrel
    have e1 := (hD1.kept (bel_grown hB) (by simp))
    have e2 := (hD2.kept (bel_grown hB) (by simp))
    by_cases hlt : k < N
    · have hi : (k : Int) < N := by omega
      have hkey := keyN k (by omega)
      have hx1 := hh1 k
      have hx2 := hh2 k
      have hsk := HSt.out k
      have HNM : Hid (NumAt wr w2.heap.size m st k) := hnum
      cases m1 : M1 k
      · rw [m1] at hx1 hsk
        have HK : Hid (st k = false) := hsk
        clear hsk
        go_wp2_with (first | (at_lookup; refine wpList_lookup_own_unit _ rfl _ _ 194 rfl 3 196 keyI Try.underlying194 (zeroU _) B1 _ D1 rfl e1 _ _ rfl hkey ?_; rw [hx1]) | (at_lookup; refine wpList_lookup_own_unit _ rfl _ _ 194 rfl 3 196 keyI Try.underlying194 (zeroU _) B2 _ D2 rfl (e2.alloc _) _ _ rfl hkey ?_; rw [hx2]))
        go_roundw
        case rel => exact ⟨k + 1, by omega, by go_num, m, by omega, (HNM.out.below (bel_up (bel_up (bel_self _) _) _)).miss HK.out, bel_up (bel_up hB _) _, by simp; omega⟩
        case measure => simp [intOf]; omega
      · cases m2 : M2 k
        · rw [m1, m2] at hsk
          rw [m1] at hx1
          rw [m2] at hx2
          have HK : Hid (st k = false) := hsk
          clear hsk
          go_wp2_with (first | (at_lookup; refine wpList_lookup_own_unit _ rfl _ _ 194 rfl 3 196 keyI Try.underlying194 (zeroU _) B1 _ D1 rfl e1 _ _ rfl hkey ?_; rw [hx1]) | (at_lookup; refine wpList_lookup_own_unit _ rfl _ _ 194 rfl 3 196 keyI Try.underlying194 (zeroU _) B2 _ D2 rfl (e2.alloc _) _ _ rfl hkey ?_; rw [hx2]))
          go_roundw
          case rel => exact ⟨k + 1, by omega, by go_num, m, by omega, (HNM.out.below (bel_up (bel_up (bel_self _) _) _)).miss HK.out, bel_up (bel_up hB _) _, by simp; omega⟩
          case measure => simp [intOf]; omega
        · rw [m1, m2] at hsk
          rw [m1] at hx1
          rw [m2] at hx2
          have HK : Hid (st k = true) := hsk
          clear hsk
          obtain ⟨D, hD, d2, d3, d4⟩ := hnum
          have HP := num_put (hD.tidy keyI) d2 d3 d4 HK.out
          have hnw : Maps.size D ≤ 1000 := by rw [d2]; have := newNo_le st k; omega
          have HD2 : Hid (Maps.size D = newNo st k) := d2
          have HHP : Hid (Maps.size (D.put (.int .i64 (k : Int)) (.lit (.int .i64 (newNo st k)))) = newNo st (k + 1) ∧ (∀ x : Nat, Maps.has (D.put (.int .i64 (k : Int)) (.lit (.int .i64 (newNo st k)))) (.int .i64 (x : Int)) = (decide (x < k + 1) && st x)) ∧
            ∀ x : Nat, x < k + 1 → st x = true → (D.put (.int .i64 (k : Int)) (.lit (.int .i64 (newNo st k)))).atKey (.int .i64 (x : Int)) (.lit (.int .i64 0)) = .lit (.int .i64 (newNo st x))) := HP
          clear d2 d3 d4 HP
          go_wp2_with (first | (at_lookup; refine wpList_lookup_own_unit _ rfl _ _ 194 rfl 3 196 keyI Try.underlying194 (zeroU _) B1 _ D1 rfl e1 _ _ rfl hkey ?_; rw [hx1]) | (at_lookup; refine wpList_lookup_own_unit _ rfl _ _ 194 rfl 3 196 keyI Try.underlying194 (zeroU _) B2 _ D2 rfl (e2.alloc _) _ _ rfl hkey ?_; rw [hx2]) | (at_len; refine wpList_len_own _ rfl _ 158 rfl 3 3 Try.underlying158 _ w2.heap.size m D rfl ((hD.alloc _).alloc _) ?_; rw [HD2.out]) | (at_mapUpdate; refine wpList_mapUpdate_own _ rfl _ _ _ 158 rfl 3 3 keyI Try.underlying158 _ w2.heap.size m D rfl ((hD.alloc _).alloc _) (by unfold maxLen; omega) _ _ _ rfl rfl hkey _ [] (plainElem_int Try.underlying3 (wfN _ (by have := HD2.out; omega))) ?_; intro w3 hD3 hg3))
          go_roundw
          case rel => exact ⟨k + 1, by omega, by go_num, m + 1, by omega, ⟨_, hD3, HHP.out⟩, (bel_up (bel_up hB _) _).grown hg3 (by simp; omega) (fun j hj => by cases hj; omega), by have := hg3.size; simp at this; omega⟩
          case measure => simp [intOf]; omega
    · have HNM : Hid (NumAt wr w2.heap.size m st N) := by
        have : k = N := by omega
        subst this; exact hnum
      go_wp2
      go_ret
      exact ⟨w2.heap.size, m, st, rfl, HNM.out, HSS.out, by omega, hby.size, hby.trans (hB.mono hby.size)⟩

end Go.Proofs.Yteehgcbjmdideaa.Sc

/- 'Print' of package fst: the text, and what Check says. -/
namespace Go.Proofs.Yteehgcbjmdideaa.Sc
open Go.RowKit
attribute [local go_sem ↓] Go.wp_at_zero Go.wp_at_succ

theorem heap_bel {w w' : World} (h : Below w.heap.size w w') {g : Nat} {o : Obj} (hg : w.heap[g]? = some o) : w'.heap[g]? = some o := by
  have : g < w.heap.size := by
    by_cases h : g < w.heap.size
    · exact h
    · rw [Array.getElem?_eq_none (by omega)] at hg; cases hg
  rw [h.block g this]; exact hg

theorem ownsRowF_bel {w w' : World} {B e size n : Nat} {v : Value} {xs : List Value} (h : w.ownsRowF B e size v n xs) (hb : Below w.heap.size w w') : w'.ownsRowF B e size v n xs := by
  obtain ⟨hl, h⟩ := h
  refine ⟨hl, ?_⟩
  rcases h with h | ⟨g, cap, cur, fz, hv, hg, hh, h1⟩
  · exact Or.inl h
  · exact Or.inr ⟨g, cap, cur, fz, hv, hg, heap_bel hb hh, h1⟩

theorem ownsRow_bel {w w' : World} {B e size n : Nat} {v : Value} {xs : List Value} (h : w.ownsRow B e size v n xs) (hb : Below w.heap.size w w') : w'.ownsRow B e size v n xs := by
  obtain ⟨hl, h⟩ := h
  refine ⟨hl, ?_⟩
  rcases h with h | ⟨g, cap, cur, hv, hg, hh, h1, h2, h3, h4⟩
  · exact Or.inl h
  · exact Or.inr ⟨g, cap, cur, hv, hg, heap_bel hb hh, h1, h2, h3, h4⟩

theorem builderAt_bel {w w' : World} {T e B b : Nat} {p : Value} {bs : List Value} (h : Lib.BuilderAtF T e B b p bs w) (hb : Below w.heap.size w w') : Lib.BuilderAtF T e B b p bs w' := by
  obtain ⟨hB, v, hh, ho, hn⟩ := h
  exact ⟨hB, v, heap_bel hb hh, ownsRowF_bel ho hb, hn⟩

theorem isBuilder_bel {w w' : World} {T e B b : Nat} {bs : List Value} (h : Lib.IsBuilderF T e B b bs w) (hb : Below w.heap.size w w') : Lib.IsBuilderF T e B b bs w' := by
  rcases h with h | h
  · exact Or.inl (builderAt_bel h hb)
  · exact Or.inr (builderAt_bel h hb)

/-- the library's table of powers of ten lies in the world -/
def TabW (w : World) : Prop := Lib.TabIs Try.prog w "internal/strconv.uint64pow10" .u64 Lib.pow10Tab

theorem TabW.below {w w' : World} {B : Nat} (h : TabW w) (hb : Below B w w') (hB : w.heap.size ≤ B) : TabW w' :=
  by
  unfold TabW at h ⊢
  cases hg : Try.prog.globalNamed "internal/strconv.uint64pow10" with
  | none => unfold Lib.TabIs World.var? at h; rw [hg] at h; simp at h
  | some g => exact Go.Joins.tab_stays hg h hb hB

def strOf (l : List UInt8) : ByteArray := ⟨l.toArray⟩

theorem map_strOf (xs : List (List UInt8)) : (xs.map strOf).map (fun x => x.data.toList) = xs := by
  induction xs with
  | nil => rfl
  | cons x l ih => simp only [List.map_cons, ih]; simp [strOf]

theorem size_strOf (l : List UInt8) : (strOf l).size = l.length := by simp [strOf, ByteArray.size]

theorem bel_size {B : Nat} {w w' : World} (h : Below B w w') {b : Nat} (hb : b < w.heap.size) : b < w'.heap.size := Nat.lt_of_lt_of_le hb h.size

theorem others_bel {w w' : World} {e : Nat} {b : Option Nat} (h : Below w.heap.size w w') : Lib.OthersKept e b w w' := fun _ _ hk _ _ => heap_bel h hk

theorem CellsF.belowB {w w' : World} {B H : Nat} {st sta : Int} {fin arcs : Value} (h : CellsF w H st sta fin arcs) (hb : Below B w w') (hH : H < B) : CellsF w' H st sta fin arcs :=
  ⟨(hb.cell (p := ⟨H, 0, none⟩) hH).trans h.1, (hb.cell (p := ⟨H, 1, none⟩) hH).trans h.2.1, (hb.cell (p := ⟨H, 2, none⟩) hH).trans h.2.2.1, (hb.cell (p := ⟨H, 3, none⟩) hH).trans h.2.2.2⟩

def fieldsV (xs : List (List UInt8)) : Array Value := (xs.map fun l => Value.string (strOf l)).toArray

/-- an arc's block, whole -/
def HeapA (w : World) (V : Nat) (a : ArcD) : Prop := w.heap[V]? = some (.cells #[.int .i64 a.src, .int .i64 a.inp, .int .i64 a.out, .int .i64 a.dst, .int .i64 a.wt] 63 (0, 0))
theorem HeapA.cells {w : World} {V : Nat} {a : ArcD} (h : HeapA w V a) : CellsA w V a := by
  unfold HeapA at h
  simp [CellsA, World.cell?, h]
theorem HeapA.below {w w' : World} {V : Nat} {a : ArcD} (h : HeapA w V a) (hb : Below w.heap.size w w') : HeapA w' V a := heap_bel hb h
theorem HeapA.others {w w' : World} {V b : Nat} {a : ArcD} (h : HeapA w V a) (ho : Lib.OthersKept 5 (some b) w w') (hV : V ≠ b) : HeapA w' V a :=
  ho V _ h (by simpa using hV) (by intro c fz hc; injection hc with _ h2; exact absurd h2 (by decide))

theorem inB_in64 {x a b : Int} (h : inB x a b = true) (ha : in64 a) (hb : in64 b) : in64 x := by
  have := inB_le h
  exact ⟨by have := ha.1; omega, by have := hb.2; omega⟩

end Go.Proofs.Yteehgcbjmdideaa.Sc

/- What a text says, line by line: numbers, lines, the transducer that is read. -/
namespace Go.Proofs.Yteehgcbjmdideaa.Sc

def digB (c : UInt8) : Bool := decide (48 ≤ c.toNat) && decide (c.toNat ≤ 57)
def valB (l : List UInt8) : Int := l.foldl (fun n c => n * 10 + ((c.toNat : Int) - 48)) 0

theorem valB_snoc (l : List UInt8) (c : UInt8) : valB (l ++ [c]) = valB l * 10 + ((c.toNat : Int) - 48) := by simp [valB]

theorem foldV_bd (l : List UInt8) (a : Int) (ha : 0 ≤ a) (h : ∀ c ∈ l, digB c = true) : 0 ≤ l.foldl (fun n c => n * 10 + ((c.toNat : Int) - 48)) a ∧ l.foldl (fun n c => n * 10 + ((c.toNat : Int) - 48)) a + 1 ≤ (a + 1) * 10 ^ l.length := by
  induction l generalizing a with
  | nil => simp; omega
  | cons c l ih =>
    have hc := h c (by simp)
    simp [digB] at hc
    have ih := ih (a * 10 + ((c.toNat : Int) - 48)) (by omega) (fun x hx => h x (by simp [hx]))
    simp only [List.foldl_cons, List.length_cons]
    refine ⟨ih.1, Int.le_trans ih.2 ?_⟩
    have hp : (0 : Int) ≤ 10 ^ l.length := Int.pow_nonneg (by decide)
    rw [Int.pow_succ, show (a + 1) * (10 ^ l.length * 10) = ((a + 1) * 10) * 10 ^ l.length by rw [Int.mul_assoc, Int.mul_comm (10 ^ l.length) 10]]
    exact Int.mul_le_mul_of_nonneg_right (by omega) hp

theorem valB_bd (l : List UInt8) (h : ∀ c ∈ l, digB c = true) : 0 ≤ valB l ∧ valB l + 1 ≤ 10 ^ l.length := by
  have := foldV_bd l 0 (by omega) h
  simpa [valB] using this

theorem valB_lt (l : List UInt8) (h : ∀ c ∈ l, digB c = true) (hl : l.length ≤ 10) : 0 ≤ valB l ∧ valB l < 10000000000 := by
  have h1 := valB_bd l h
  have h2 : (10 : Int) ^ l.length ≤ 10 ^ 10 := by
    have := Nat.pow_le_pow_right (show 0 < 10 by decide) hl
    exact_mod_cast this
  omega

/-- is it the form of a number? -/
def formB (l : List UInt8) : Bool := !(decide (l.length < 1) || decide (10 < l.length) || (decide (1 < l.length) && decide (l.getD 0 0 = 48))) && l.all digB

def numB (l : List UInt8) : Option Int := if formB l then some (valB l) else none

end Go.Proofs.Yteehgcbjmdideaa.Sc

/- 'number' and 'numbers' of package fst. -/
namespace Go.Proofs.Yteehgcbjmdideaa.Sc
open Go.RowKit
attribute [local go_sem ↓] Go.wp_at_zero Go.wp_at_succ

def listOf (s : ByteArray) : List UInt8 := s.data.toList

theorem listOf_len (s : ByteArray) : (listOf s).length = s.size := Array.length_toList
theorem listOf_take (s : ByteArray) (k : Nat) (h : k < s.size) : (listOf s).take (k + 1) = (listOf s).take k ++ [s[k]] := by
  unfold listOf; rw [List.take_succ_eq_append_getElem (by simpa using h)]; rfl
theorem listOf_get (s : ByteArray) (k : Nat) (h : k < s.size) : (listOf s)[k]? = some s[k] := by
  unfold listOf; rw [Array.getElem?_toList]; exact Array.getElem?_eq_getElem h

def numV (l : List UInt8) : Value := match numB l with | some n => .tuple #[.int .i64 n, .bool true] | none => .tuple #[.int .i64 0, .bool false]

theorem numB_none {l : List UInt8} (h : formB l = false) : numV l = .tuple #[.int .i64 0, .bool false] := by simp [numV, numB, h]
theorem numB_some {l : List UInt8} (h : formB l = true) : numV l = .tuple #[.int .i64 (valB l), .bool true] := by simp [numV, numB, h]

theorem form_head (s : ByteArray) (h1 : 1 ≤ s.size) (h2 : s.size ≤ 10) (h3 : s.size ≤ 1 ∨ ∃ h : 0 < s.size, s[0].toNat ≠ 48) : formB (listOf s) = (listOf s).all digB := by
  unfold formB
  have hl := listOf_len s
  have e1 : decide ((listOf s).length < 1) = false := decide_eq_false (by omega)
  have e2 : decide (10 < (listOf s).length) = false := decide_eq_false (by omega)
  rw [e1, e2]
  rcases h3 with h | ⟨h, hne⟩
  · have e3 : decide (1 < (listOf s).length) = false := decide_eq_false (by omega)
    rw [e3]; simp
  · have : (listOf s).getD 0 0 = s[0] := by rw [List.getD, listOf_get s 0 h]; rfl
    have e4 : decide ((listOf s).getD 0 0 = 48) = false := by
      rw [this]; simp; intro hh; apply hne; rw [hh]; rfl
    rw [e4]; simp

theorem form_zero (s : ByteArray) (h1 : 1 < s.size) (h : s[0].toNat = 48) : formB (listOf s) = false := by
  unfold formB
  have hl := listOf_len s
  have e3 : decide (1 < (listOf s).length) = true := decide_eq_true (by omega)
  have : (listOf s).getD 0 0 = s[0] := by rw [List.getD, listOf_get s 0 (by omega)]; rfl
  have e4 : decide ((listOf s).getD 0 0 = 48) = true := by
    rw [this]; simp; exact UInt8.toNat_inj.1 h
  rw [e3, e4]; simp

theorem form_size (s : ByteArray) (h : s.size < 1 ∨ 10 < s.size) : formB (listOf s) = false := by
  unfold formB
  have hl := listOf_len s
  rcases h with h | h
  · have e1 : decide ((listOf s).length < 1) = true := decide_eq_true (by omega)
    rw [e1]; simp
  · have e2 : decide (10 < (listOf s).length) = true := decide_eq_true (by omega)
    rw [e2]; simp

theorem ret_val {a b : Value} (h : a = b) : Ending.returned a = .returned b := by rw [h]

end Go.Proofs.Yteehgcbjmdideaa.Sc

/- 'numbers' of package fst. -/
namespace Go.Proofs.Yteehgcbjmdideaa.Sc
open Go.RowKit
attribute [local go_sem ↓] Go.wp_at_zero Go.wp_at_succ

theorem Try.info3 : (Try.prog.info? 3).map (fun i => (i.zero, i.size, i.bytes)) = some (some (.int .i64 0), 1, 8) := by kernel_rfl

/-- a slice of strings: what it holds -/
structure StrsAt (w : World) (b off n : Nat) (ss : List ByteArray) : Prop where
  len : ss.length = n
  cell : ∀ i, i < n → w.cell? ⟨b, off + i, none⟩ = some (.string (ss.getD i ByteArray.empty))
  size : ∀ s ∈ ss, s.size ≤ maxLen

theorem StrsAt.below {w w' : World} {b off n : Nat} {ss : List ByteArray} (h : StrsAt w b off n ss) (hb : Below w.heap.size w w') : StrsAt w' b off n ss :=
  ⟨h.len, fun i hi => bel_c hb (h.cell i hi), h.size⟩

def numsB (l : List (List UInt8)) : Option (List Int) := l.mapM numB

theorem numsB_snoc_some (l : List (List UInt8)) (x : List UInt8) (ns : List Int) (n : Int) (h : numsB l = some ns) (hx : numB x = some n) : numsB (l ++ [x]) = some (ns ++ [n]) := by
  unfold numsB at *
  simp [List.mapM_append, h, hx]

theorem numsB_none (l : List (List UInt8)) (x : List UInt8) (hx : x ∈ l) (h : numB x = none) : numsB l = none := by
  unfold numsB
  induction l with
  | nil => cases hx
  | cons y l ih =>
    rw [List.mapM_cons]
    rcases List.mem_cons.1 hx with rfl | hx
    · simp [h]
    · cases numB y with
      | none => simp
      | some n => simp [ih hx]

theorem numsB_length (l : List (List UInt8)) (ns : List Int) (h : numsB l = some ns) : ns.length = l.length := by
  unfold numsB at h
  induction l generalizing ns with
  | nil => simp at h; simp [h]
  | cons y l ih =>
    rw [List.mapM_cons] at h
    cases hy : numB y with
    | none => simp [hy] at h
    | some n =>
      cases hl : l.mapM numB with
      | none => simp [hy, hl] at h
      | some ms => simp [hy, hl] at h; subst h; simp [ih ms hl]

theorem ownsRow_base {w : World} {B e size n : Nat} {v : Value} {xs : List Value} (h : w.ownsRow B e size v n xs) : ∀ g, v.ownBlock = some g → B ≤ g := by
  intro g hg
  obtain ⟨_, h⟩ := h
  rcases h with ⟨rfl, _⟩ | ⟨g', cap, cur, rfl, hB, _⟩
  · simp [Value.ownBlock] at hg
  · simp [Value.ownBlock] at hg; omega

theorem ownsRow_ints {w : World} {B g : Nat} {v : Value} {xs : List Int} (h : w.ownsRow B g 1 v xs.length (xs.map (Value.int .i64))) : ISlice w v xs := by
  obtain ⟨_, h⟩ := h
  rcases h with ⟨rfl, h⟩ | ⟨g, cap, cur, rfl, _, hh, h1, h2, h3, h4⟩
  · exact Or.inl ⟨none, 0, rfl, List.length_eq_zero_iff.1 h⟩
  · refine Or.inr ⟨g, 0, xs.length, cap, rfl, ⟨rfl, fun i hi => ?_⟩, by omega⟩
    have : (cur.toList.take (xs.length * 1))[i]? = some (.int .i64 (xs.getD i 0)) := by
      rw [h4]; simp [List.getD, hi]
    rw [List.getElem?_take] at this
    simp only [Nat.mul_one, hi, if_true, Array.getElem?_toList] at this
    simp [World.cell?, hh, this]

def fieldsOf (ss : List ByteArray) : List (List UInt8) := ss.map listOf

/-- what 'numbers' answers -/
def NumsRes (B : Nat) (ls : List (List UInt8)) (v : Value) (b : Bool) (w : World) : Prop := match numsB ls with | some ns => b = true ∧ ISlice w v ns ∧ (∀ g, v.ownBlock = some g → B ≤ g) | none => b = false ∧ v = .slice none 0 0

theorem NumsRes.some {B : Nat} {ls : List (List UInt8)} {v : Value} {w : World} {ns : List Int} (h : numsB ls = .some ns) (hv : ISlice w v ns) (hg : ∀ g, v.ownBlock = .some g → B ≤ g) : NumsRes B ls v true w := by unfold NumsRes; rw [h]; exact ⟨rfl, hv, hg⟩
theorem NumsRes.none {B : Nat} {ls : List (List UInt8)} {w : World} (h : numsB ls = .none) : NumsRes B ls (.slice .none 0 0) false w := by unfold NumsRes; rw [h]; exact ⟨rfl, rfl⟩

end Go.Proofs.Yteehgcbjmdideaa.Sc

/- The library's slices.Repeat of one number. -/
namespace Go.Proofs.Yteehgcbjmdideaa.Sc
open Go.RowKit
attribute [local go_sem ↓] Go.wp_at_zero Go.wp_at_succ

def rowR (x : Int) (m c : Nat) : List Value := List.replicate m (Value.int .i64 x) ++ List.replicate (c - m) (Value.int .i64 0)

theorem rowR_len (x : Int) (m c : Nat) (h : m ≤ c) : (rowR x m c).length = c := by simp [rowR]; omega
theorem rowR_made (x : Int) (c : Nat) : (rowR x 0 c).toArray = madeCells #[.int .i64 0] c := by
  unfold rowR madeCells
  apply Array.ext
  · simp
  · intro i h1 h2
    simp [Nat.mod_one]

theorem rowR_splice (x : Int) (m j c : Nat) (_h : m + j ≤ c) : splice (rowR x m c) m (List.replicate j (Value.int .i64 x)) = rowR x (m + j) c := by
  unfold splice rowR
  rw [List.take_left' (by simp), List.length_replicate, List.drop_append]
  rw [List.drop_of_length_le (by simp), List.nil_append, List.length_replicate, List.drop_replicate, ← List.append_assoc, List.replicate_append_replicate]
  congr 2
  omega

theorem rowR_get (x : Int) (m c i : Nat) (h : i < m) : (rowR x m c)[i]? = some (.int .i64 x) := by
  unfold rowR
  rw [List.getElem?_append_left (by simpa using h)]
  simp [h]

theorem min_fit (m c : Nat) (h : m ≤ c) : m + Nat.min m (c - m) ≤ c := by have := Nat.min_le_right m (c - m); show m + min m (c - m) ≤ c; omega
theorem one_rep (n : Nat) (x : Int) : ∀ v ∈ List.replicate n (Value.int .i64 x), v.oneCell' = true := by intro v hv; rw [List.eq_of_mem_replicate hv]; rfl
theorem hsrc (x : Int) (m c g : Nat) (w : World) (hg : Hid (w.heap[g]? = some (.cells (rowR x m c).toArray 3 (0, 0)))) (_hlt : m < c) (_hm : 1 ≤ m) : 0 < (List.replicate (Nat.min m (c - m)) (Value.int .i64 x)).length → (some (⟨g, m, none⟩ : Addr) = some ⟨g, m, none⟩ ∧ ∃ ad, some (⟨g, 0, none⟩ : Addr) = some ad ∧ ∀ j v, (List.replicate (Nat.min m (c - m)) (Value.int .i64 x))[j]? = some v → w.cell? (ad.add j) = some v) := by
  intro _
  refine ⟨rfl, _, rfl, fun j v hj => ?_⟩
  rw [List.getElem?_replicate] at hj
  split at hj
  · rename_i hjm
    have hjm' : j < m := Nat.lt_of_lt_of_le hjm (Nat.min_le_left _ _)
    injection hj with hj
    subst hj
    have hgg := hg.out
    have hr := rowR_get x m c j hjm'
    by_cases h0 : j = 0
    · subst h0; simp [Addr.add, World.cell?, hgg, hr]
    · simp [Addr.add, h0, World.cell?, hgg, hr]
  · cases hj

set_option maxHeartbeats 1000000 in
set_option maxRecDepth 1000000 in
theorem repeat_any (x : Int) (b off cap c : Nat) (w : World) (hx : w.cell? ⟨b, off, none⟩ = some (.int .i64 x)) (h1 : 1 ≤ c) (h2 : c ≤ 200) :
    Calls Try.prog 118 #[.slice (some ⟨b, off, none⟩) 1 cap, .int .i64 c] w fun e w' =>
      e = .returned (.slice (some ⟨w.heap.size, 0, none⟩) c c) ∧ w'.heap[w.heap.size]? = some (.cells (rowR x c c).toArray 3 (0, 0)) ∧ Below w.heap.size w w' := by
  have hmk := run_make_row' (P := Try.prog) 22 3 (.int .i64 0) 8 Try.underlying22 Try.info3 rfl .i64 .i64 c (by omega) (by omega)
  have hmul := Try.bits_Mul 1 c (by omega) (by omega) w
  have e1 : (1 * c / 18446744073709551616 : Nat) = 0 := by omega
  have e2 : (1 * c % 18446744073709551616 : Nat) = c := by omega
  rw [e1, e2] at hmul
  clear e1 e2
  have hbl := cell_lt hx
  go_enter Try.func118, Try.ntmps118
  have hz3 : (Try.prog.info? 3).map (·.size) = some 1 := by kernel_rfl
  have hg0 : (w.alloc (.cells (madeCells #[.int .i64 0] c) 3)).heap[w.heap.size]? = some (.cells (rowR x 0 c).toArray 3 (0, 0)) := by rw [rowR_made]; exact heap_alloc_new w _
  have hx0 : (w.alloc (.cells (madeCells #[.int .i64 0] c) 3)).cell? ⟨b, off, none⟩ = some (.int .i64 x) := old_cell hx
  have hcp : (Builtin.copy_ #[22, 22] 3 #[.slice (some ⟨w.heap.size, 0, none⟩) c c, .slice (some ⟨b, off, none⟩) 1 cap]).run Try.prog (w.alloc (.cells (madeCells #[.int .i64 0] c) 3)) = .ok (.int .i64 1) ((w.alloc (.cells (madeCells #[.int .i64 0] c) 3)).setRow w.heap.size (rowR x 1 c).toArray) := by
    have h := run_copy_row (P := Try.prog) (w.alloc (.cells (madeCells #[.int .i64 0] c) 3)) 22 22 3 3 w.heap.size 0 c c ⟨b, off, none⟩ 1 cap (rowR x 0 c).toArray 3 [.int .i64 x] Try.underlying22 hz3 hg0 (Nat.min_eq_left h1).symm
      (by intro j v hj
          match j, hj with
          | 0, hj => simp at hj; subst hj; simpa [Addr.add] using hx0)
      (by simp [rowR_len]; omega) (by intro v hv; simp at hv; subst hv; rfl)
    have e := rowR_splice x 0 1 c (by omega)
    unfold splice at e
    rw [← List.append_assoc] at e
    simp only [Nat.zero_add] at e h ⊢
    rw [h]
    simp only [List.length_singleton] at e ⊢
    rw [show ([Value.int .i64 x] : List Value) = List.replicate 1 (Value.int .i64 x) from rfl]
    simp only [List.length_replicate] at e
    rw [e]; rfl
  obtain ⟨w1, hw1⟩ : ∃ w1, w1 = (w.alloc (.cells (madeCells #[.int .i64 0] c) 3)).setRow w.heap.size (rowR x 1 c).toArray := ⟨_, rfl⟩
  have hg1 : Hid (w1.heap[w.heap.size]? = some (.cells (rowR x 1 c).toArray 3 (0, 0))) := by
    show w1.heap[w.heap.size]? = _
    rw [hw1]; exact setRow_heap _ _ _ _ _ _ hg0
  have hb1 : Below w.heap.size w w1 := by rw [hw1]; exact below_setRow (bel_up (bel_self w) _) (Nat.le_refl _) _
  rw [← hw1] at hcp
  clear hw1
  clear hg0 hx0 hx
  go_wp2_with (go_at_call 151; refine hmul.mono ?_; rintro e w' ⟨rfl, hw⟩; obtain rfl := hw.symm)
  go_loopw [8] (fun i wr => ∃ m : Nat, 1 ≤ m ∧ m ≤ c ∧ i = .int .i64 m ∧ Hid (wr.heap[w.heap.size]? = some (.cells (rowR x m c).toArray 3 (0, 0))) ∧ Below w.heap.size w wr) (fun i _ => c - (intOf i).toNat)
  case atStart => exact ⟨1, by omega, h1, rfl, hg1, hb1⟩
  case round =>
    clear hcp hg1 hb1
    obtain ⟨m, hm1, hm2, rfl, hg, hb⟩ := hrel
    by_cases hlt : m < c
    · have hne : ¬ c = m := by omega
      obtain ⟨j, hj⟩ : ∃ j, j = Nat.min m (c - m) := ⟨_, rfl⟩
      have hj1 : 1 ≤ j := by rw [hj]; show 1 ≤ min m (c - m); omega
      have hj2 : m + j ≤ c := by rw [hj]; exact min_fit m c hm2
      obtain ⟨w2, hw2⟩ : ∃ w2, w2 = wr.drew.setRow w.heap.size (rowR x (m + j) c).toArray := ⟨_, rfl⟩
      have hcp : (Builtin.copy_ #[22, 22] 3 #[.slice (some ⟨w.heap.size, m, none⟩) (c - m) (c - m), .slice (some ⟨w.heap.size, 0, none⟩) m c]).run Try.prog wr.drew = .ok (.int .i64 j) w2 := by
        have h := run_copy_row (P := Try.prog) wr.drew 22 22 3 3 w.heap.size m (c - m) (c - m) ⟨w.heap.size, 0, none⟩ m c (rowR x m c).toArray 3 (List.replicate j (.int .i64 x)) Try.underlying22 hz3 hg.out (by rw [List.length_replicate]; exact hj)
          (((hsrc x m c w.heap.size wr.drew hg hlt hm1) (by rw [← hj, List.length_replicate]; omega)).2.elim fun ad h => by have e := h.1; injection e with e; subst e; rw [hj]; exact h.2)
          (by simp [rowR_len _ _ _ hm2]; omega) (one_rep _ _)
        have e := rowR_splice x m j c hj2
        unfold splice at e
        rw [← List.append_assoc] at e
        rw [h, hw2]
        simp only [List.length_replicate] at e ⊢
        rw [e]; rfl
      have hg2 : Hid (w2.heap[w.heap.size]? = some (.cells (rowR x (m + j) c).toArray 3 (0, 0))) := by
        show w2.heap[w.heap.size]? = _
        rw [hw2]; exact setRow_heap _ _ _ _ _ _ hg.out
      have hb2 : Below w.heap.size w w2 := by rw [hw2]; exact below_setRow hb.drew (Nat.le_refl _) _
      clear hw2 hj
      go_wp2
      go_region
      go_wp2
      go_roundw
      case rel => exact ⟨m + j, by omega, hj2, by go_num, hg2, hb2⟩
      case measure => simp [intOf]; omega
    · have hmc : m = c := by omega
      subst hmc
      go_wp2
      go_ret
      exact ⟨rfl, hg.out, hb⟩

end Go.Proofs.Yteehgcbjmdideaa.Sc
