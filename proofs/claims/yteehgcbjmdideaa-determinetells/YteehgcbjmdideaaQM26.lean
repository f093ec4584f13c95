/- 'Trim' of package fst where the start stays. -/
import Derived.Test.YteehgcbjmdideaaQM25
import Derived.Test.YteehgcbjmdideaaQM22
import Derived.Test.YteehgcbjmdideaaQM18
import Derived.Test.YteehgcbjmdideaaQM07
namespace Go.Proofs.Yteehgcbjmdideaa.Sc
open Go.RowKit Go.Maps Go.ChangeShapes
attribute [local go_sem ↓] Go.wp_at_zero Go.wp_at_succ

theorem wf64 {x : Int} (h : in64 x) : (Lit.int .i64 x).wf = true := WalkArith.wf_i64 ⟨h.1, h.2⟩

theorem cells_new (w : World) (cs : Array Value) (t N : Nat) (hN : w.heap.size = N) : ∀ j u, cs.toList[j]? = some u → (w.alloc (.cells cs t)).cell? ((⟨N, 0, none⟩ : Addr).add j) = some u := by
  intro j u h
  rw [addr_add]
  exact new_cell _ _ _ _ j _ hN (by simpa using h)

set_option maxHeartbeats 6000000 in
set_option maxRecDepth 100000 in
theorem trim_some (N s0 : Nat) (xs : List Int) (ars : List ArcD) (fb off fc : Nat) (aa : Option Addr) (n ac : Nat) (w : World) (hx : IntsAt w fb off N xs) (ha : ASlice w (.slice aa n ac) ars) (hal : ars.length = n) (hn : n ≤ 3000) (hN1 : 1 ≤ N) (hN : N ≤ 200) (hs0 : s0 < N) (hfm : N ≤ maxLen)
    (hok : ∀ a ∈ ars, (0 ≤ a.src ∧ a.src < N) ∧ (0 ≤ a.dst ∧ a.dst < N)) (hfi : ∀ x ∈ xs, in64 x) (hai : ∀ a ∈ ars, arcIn64 a) (hc : checkD ⟨N, s0, xs, ars⟩ = 0) (hS : Stays ⟨N, s0, xs, ars⟩ s0) :
    Calls Try.prog 125 #[.agg #[.int .i64 (N : Int), .int .i64 (s0 : Int), .slice (some ⟨fb, off, none⟩) N fc, .slice aa n ac]] w fun e w' => TrimRes ⟨N, s0, xs, ars⟩ e w' ∧ Below w.heap.size w w' := by
  have hf : ISlice w (.slice (some ⟨fb, off, none⟩) N fc) xs := Or.inr ⟨fb, off, N, fc, rfl, hx, hfm⟩
  have hb0 := bel_up (bel_up (bel_self w) (.cells #[.int .i64 (N : Int), .int .i64 (s0 : Int), .slice (some ⟨fb, off, none⟩) N fc, .slice aa n ac] 25)) (.cells #[.int .i64 0, .int .i64 0, .slice none 0 0, .slice none 0 0] 25)
  have h1 := hf.below hb0
  have h2 := ha.below hb0
  have hz := zblock2 w (.cells #[.int .i64 (N : Int), .int .i64 (s0 : Int), .slice (some ⟨fb, off, none⟩) N fc, .slice aa n ac] 25)
  have hcF : CellsF ((w.alloc (.cells #[.int .i64 (N : Int), .int .i64 (s0 : Int), .slice (some ⟨fb, off, none⟩) N fc, .slice aa n ac] 25)).alloc (.cells #[.int .i64 0, .int .i64 0, .slice none 0 0, .slice none 0 0] 25)) w.heap.size (N : Int) (s0 : Int) (.slice (some ⟨fb, off, none⟩) N fc) (.slice aa n ac) := by simp [CellsF]
  have HFL : Hid (xs.length = N) := hx.len
  have HAL : Hid (ars.length = n) := hal
  have HOK : Hid (∀ a ∈ ars, (0 ≤ a.src ∧ a.src < N) ∧ (0 ≤ a.dst ∧ a.dst < N)) := hok
  have HFI : Hid (∀ x ∈ xs, in64 x) := hfi
  have HAI : Hid (∀ a ∈ ars, arcIn64 a) := hai
  have HS : Hid (Stays ⟨N, s0, xs, ars⟩ s0) := hS
  have HC : Hid (checkD ⟨N, s0, xs, ars⟩ = 0) := hc
  have hkey := keyN s0 (by omega)
  clear hal hok hS hc hfi hai hf
  go_enter Try.func125, Try.ntmps125
  go_wp2_with (first
    | (go_at_call 153; refine (stay_any ⟨N, s0, xs, ars⟩ N _ aa n ac w1 (h1.below hb1) HFL.out (h2.below hb1) HAL.out hn hN1 hN rfl HOK.out).mono ?_; rintro e w2 ⟨B, m, st, rfl, hnum, hss, hm, hBw, hb2⟩; have hc2 := hc1.below hb2; have hq2 := hc2; obtain ⟨p0, p1, p2, p3⟩ := hq2; have hz2 := heap_bel hb2 hz1; obtain ⟨D, hD, d2, d3, d4⟩ := hnum; have hst : st s0 = true := (hss s0).2 HS.out; have hhas := d3 s0; rw [hst, Bool.and_true, decide_eq_true hs0] at hhas; clear q0 q1 q2 q3)
    | (go_at_call 101; refine (check_any ⟨N, s0, xs, ars⟩ _ _ _ h1 h2).mono ?_; rintro e w1 ⟨rfl, hb1⟩; rw [HC.out]; have hz1 := heap_bel hb1 hz; have hc1 := hcF.below hb1; have hq := hc1; obtain ⟨q0, q1, q2, q3⟩ := hq)
    | (at_lookup; refine wpList_lookup_own_ok_int _ rfl _ _ 158 rfl 3 3 .i64 keyI Try.underlying158 Try.underlying3 (zeroI _) B m D rfl hD _ _ rfl hkey ?_; intro c hat hwc; rw [hhas])
    | (at_len; refine wpList_len_own _ rfl _ 158 rfl 3 3 Try.underlying158 _ B m D rfl hD ?_; rw [d2]; have p2' := old_cell (o := .cells #[.int .i64 (newNo st N), .int .i64 c, .slice none 0 0, .slice none 0 0] 25) p2))
  have hcs : c = newNo st s0 := by
    have h := d4 s0 hs0 hst
    rw [hat] at h
    injection h with h
    injection h with _ h
  have HCS : Hid (c = newNo st s0) := hcs
  have HSS : Hid (∀ i, st i = true ↔ Stays ⟨N, s0, xs, ars⟩ i) := hss
  have HD3 : Hid (∀ x : Nat, Maps.has D (.int .i64 (x : Int)) = (decide (x < N) && st x)) := d3
  have HD4 : Hid (∀ x : Nat, x < N → st x = true → D.atKey (.int .i64 (x : Int)) (.lit (.int .i64 0)) = .lit (.int .i64 (newNo st x))) := d4
  have HST : Hid (st s0 = true) := hst
  have hbw2 : Below w.heap.size w w2 := bel_on (bel_on hb0 hb1) hb2
  have HR : Hid (w.heap.size + 1 < w2.heap.size) := heap_lt hz2
  have HBl : Hid (B < w2.heap.size) := hD.lt
  clear hcs hss d2 d3 d4 hhas hst hat hb0 hb1 hb2 h1 h2 hz hz1 hcF hc1 p0 p1 p2 p3 p2' hkey
  obtain ⟨i0, hi, hz0, hz1, hz2'⟩ := info_parts infoInt
  obtain ⟨j0, hj, hj0, hj1, hj2⟩ := info_parts Try.info63
  go_loopw [45] (fun i wr => ∃ k : Nat, k ≤ N ∧ i = .int .i64 k ∧ ∃ fv, TS wr w2.heap.size (newNo st N) c fv (.slice none 0 0) (finT ⟨N, s0, xs, ars⟩ st k) [] ∧ Below w2.heap.size w2 wr) (fun i _ => N - (intOf i).toNat)
  case atStart => exact ⟨0, Nat.zero_le _, rfl, _, TS.start w2 _ _ _ _ rfl, bel_up (bel_self _) _⟩
  case round =>
    obtain ⟨k, hk, rfl, fv, hts, hB⟩ := hrel
    have hDr := hD.kept (bel_grown hB) (by simp)
    have hbr := hbw2.trans (hB.mono hbw2.size)
    by_cases hlt : k < N
    · have hci := (hx.below hbr).cell k hlt
      obtain ⟨x, hxk⟩ : ∃ x, x = xs.getD k 0 := ⟨_, rfl⟩
      rw [← hxk] at hci
      have hki : (k : Int) < N := by omega
      have hkey := keyN k (by omega)
      have hhk := HD3.out k
      rw [decide_eq_true hlt, Bool.true_and] at hhk
      have HX : Hid (x = xs.getD k 0) := hxk
      clear hxk
      cases hst : st k
      · rw [hst] at hhk
        have HK : Hid (st k = false) := hst
        clear hst
        go_wp2_with (first | (at_lookup; refine wpList_lookup_own_ok_int _ rfl _ _ 158 rfl 3 3 .i64 keyI Try.underlying158 Try.underlying3 (zeroI _) B m D rfl hDr _ _ rfl hkey ?_; intro cc hat _; rw [hhk]))
        go_roundw
        case rel => exact ⟨k + 1, by omega, by go_num, fv, by rw [finT_miss _ _ _ HK.out]; exact hts, hB⟩
        case measure => simp [intOf]; omega
      · rw [hst] at hhk
        have HK : Hid (st k = true) := hst
        have hxw : (Lit.int .i64 x).wf = true := wf64 (HFI.out x (by rw [HX.out]; have := HFL.out; simp [List.getD, show k < xs.length by omega]))
        have hlen : (finT ⟨N, s0, xs, ars⟩ st k).length ≤ 200 := by rw [finT_len]; have := newNo_le st k; omega
        have hfc := hts.c2
        clear hst
        go_wp2_with (first | (at_lookup; refine wpList_lookup_own_ok_int _ rfl _ _ 158 rfl 3 3 .i64 keyI Try.underlying158 Try.underlying3 (zeroI _) B m D rfl hDr _ _ rfl hkey ?_; intro cc hat _; rw [hhk]) | (at_builtin; refine wpList_append_own_at _ rfl _ _ 22 rfl (w2.heap.size + 1) 3 i0 (.int .i64 0) 1 8 Try.underlying22 hi hz0 hz1 hz2' rfl (by decide) _ _ _ rfl (hts.fr.1.alloc _) ⟨wr.heap.size, 0, none⟩ 1 1 [.int .i64 x] rfl rfl (cell_one_new _ _ _) (ints_oneCell .i64 [x]) (by unfold maxLen; omega) (by omega) (by have := hts.size; simp; omega) ?_; intro v' w3 hown' hgrow _ _; obtain ⟨g, cap, hv⟩ := Go.Joins.ownsRow_form hown' (Nat.succ_pos _); rw [hv] at hown' ⊢; obtain ⟨k2, f2, hts2, hb3⟩ := hts.fin _ hxw hgrow hown'))
        go_roundw
        case rel =>
          refine ⟨k + 1, by omega, by go_num, .slice (some ⟨g, 0, none⟩) ((finT ⟨N, s0, xs, ars⟩ st k).length + 1) cap, ?_, hB.trans hb3⟩
          rw [finT_hit _ _ _ HK.out]
          have e : (FstD.mk N s0 xs ars).final.getD k 0 = x := HX.out.symm
          rw [e]
          exact hts2
        case measure => simp [intOf]; omega
    · have HTS : Hid (TS wr w2.heap.size (newNo st N) c fv (.slice none 0 0) (finT ⟨N, s0, xs, ars⟩ st N) []) := by
        have e : k = N := by omega
        subst e; exact hts
      have hcr := hc2.below hB
      obtain ⟨p0, p1, p2, p3⟩ := hcr
      clear hts
      go_wp2
      rename World => w4
      clear p0 p1 p2 p3
      go_loopw [67] (fun i wr => ∃ k : Nat, k ≤ n ∧ i = .int .i64 k ∧ ∃ av, TS wr w2.heap.size (newNo st N) c fv av (finT ⟨N, s0, xs, ars⟩ st N) (arcsT st (ars.take k)) ∧ Below w2.heap.size w2 wr) (fun i _ => n - (intOf i).toNat)
      case atStart => exact ⟨0, Nat.zero_le _, rfl, _, HTS.out, hB⟩
      case round =>
        clear hDr hbr
        obtain ⟨q, hq, rfl, av, hts, hB5⟩ := hrel
        have hDr := hD.kept (bel_grown hB5) (by simp)
        have hbr := hbw2.trans (hB5.mono hbw2.size)
        by_cases hlq : q < n
        · obtain ⟨b, boff, rfl, hxa⟩ := (ha.below hbr).some (by omega)
          obtain ⟨a, hak⟩ : ∃ a, a = ars.getD q a0 := ⟨_, rfl⟩
          have hql : q < ars.length := by have := HAL.out; omega
          have hmem : a ∈ ars := by rw [hak]; simp [List.getD, hql]
          obtain ⟨⟨r1, r2⟩, ⟨r3, r4⟩⟩ := HOK.out a hmem
          obtain ⟨t1, ht1⟩ : ∃ t : Nat, a.src = t := ⟨a.src.toNat, by omega⟩
          obtain ⟨t2, ht2⟩ : ∃ t : Nat, a.dst = t := ⟨a.dst.toNat, by omega⟩
          have c0 := hxa.c0 q hlq
          have c1 := hxa.c1 q hlq
          have c2 := hxa.c2 q hlq
          have c3 := hxa.c3 q hlq
          have c4 := hxa.c4 q hlq
          rw [← hak] at c0 c1 c2 c3 c4
          have hks := keyN t1 (by omega)
          have hkd := keyN t2 (by omega)
          have hhs := HD3.out t1
          have hhd := HD3.out t2
          rw [decide_eq_true (show t1 < N by omega), Bool.true_and] at hhs
          rw [decide_eq_true (show t2 < N by omega), Bool.true_and] at hhd
          rw [ht1] at c0
          rw [ht2] at c3
          have HT := arcsT_take st ars q a hql hak
          rw [ht1, ht2, Int.toNat_natCast, Int.toNat_natCast] at HT
          have HH : Hid (arcsT st (ars.take (q + 1)) = arcsT st (ars.take q) ++ if (st t1 && st t2) = true then [arcT st a] else []) := HT
          have HA : Hid (a.src = t1 ∧ a.dst = t2) := ⟨ht1, ht2⟩
          have hqi : (q : Int) < n := by omega
          have HT1 : Hid (t1 < N) := (by omega : t1 < N)
          have HT2 : Hid (t2 < N) := (by omega : t2 < N)
          have hal3 : (arcsT st (ars.take q)).length ≤ 3000 := by
            have h1 := arcsT_len st (ars.take q)
            rw [List.length_take] at h1
            omega
          clear HT hak hmem r1 r2 r3 r4 ht1 ht2 hql hxa
          cases hst1 : st t1
          · rw [hst1] at hhs
            have HK : Hid ((st t1 && st t2) = false) := (by rw [hst1]; rfl : (st t1 && st t2) = false)
            clear hst1
            go_wp2_with (first | (at_lookup; refine wpList_lookup_own_ok_int _ rfl _ _ 158 rfl 3 3 .i64 keyI Try.underlying158 Try.underlying3 (zeroI _) B m D rfl (hDr.alloc _) _ _ rfl hks ?_; intro cc hat _; rw [hhs]) | (at_lookup; refine wpList_lookup_own_ok_int _ rfl _ _ 158 rfl 3 3 .i64 keyI Try.underlying158 Try.underlying3 (zeroI _) B m D rfl (hDr.alloc _) _ _ rfl hkd ?_; intro cd hatd _; rw [hhd]))
            go_roundw
            case rel =>
              refine ⟨q + 1, by omega, by go_num, av, ?_, hB5.alloc hB5.size _⟩
              rw [HH.out, HK.out]
              simp only [Bool.false_eq_true, if_false, List.append_nil]
              exact hts.below (bel_up (bel_self _) _)
            case measure => simp [intOf]; omega
          · rw [hst1] at hhs
            cases hst2 : st t2
            · rw [hst2] at hhd
              have HK : Hid ((st t1 && st t2) = false) := (by rw [hst2, Bool.and_false] : (st t1 && st t2) = false)
              clear hst1 hst2
              go_wp2_with (first | (at_lookup; refine wpList_lookup_own_ok_int _ rfl _ _ 158 rfl 3 3 .i64 keyI Try.underlying158 Try.underlying3 (zeroI _) B m D rfl (hDr.alloc _) _ _ rfl hks ?_; intro cc hat _; rw [hhs]) | (at_lookup; refine wpList_lookup_own_ok_int _ rfl _ _ 158 rfl 3 3 .i64 keyI Try.underlying158 Try.underlying3 (zeroI _) B m D rfl (hDr.alloc _) _ _ rfl hkd ?_; intro cd hatd _; rw [hhd]))
              go_roundw
              case rel =>
                refine ⟨q + 1, by omega, by go_num, av, ?_, hB5.alloc hB5.size _⟩
                rw [HH.out, HK.out]
                simp only [Bool.false_eq_true, if_false, List.append_nil]
                exact hts.below (bel_up (bel_self _) _)
              case measure => simp [intOf]; omega
            · rw [hst2] at hhd
              have HK : Hid (st t1 = true ∧ st t2 = true) := ⟨hst1, hst2⟩
              have htA := hts.below (bel_up (bel_self wr) (.cells #[.int .i64 t1, .int .i64 a.inp, .int .i64 a.out, .int .i64 t2, .int .i64 a.wt] 63))
              have hac := htA.c3
              clear hst1 hst2
              go_wp2_with (first | (at_lookup; refine wpList_lookup_own_ok_int _ rfl _ _ 158 rfl 3 3 .i64 keyI Try.underlying158 Try.underlying3 (zeroI _) B m D rfl (hDr.alloc _) _ _ rfl hks ?_; intro cc hat _; rw [hhs]) | (at_lookup; refine wpList_lookup_own_ok_int _ rfl _ _ 158 rfl 3 3 .i64 keyI Try.underlying158 Try.underlying3 (zeroI _) B m D rfl (hDr.alloc _) _ _ rfl hkd ?_; intro cd hatd _; rw [hhd]) | (at_builtin; refine wpList_append_own_at _ rfl _ _ 23 rfl (w2.heap.size + 1) 63 j0 (.agg #[.int .i64 0, .int .i64 0, .int .i64 0, .int .i64 0, .int .i64 0]) 5 40 Try.underlying23 hj hj0 hj1 hj2 rfl (by decide) _ _ _ rfl (htA.ar.alloc _) ⟨wr.heap.size + 1, 0, none⟩ 1 1 (arcCells ⟨cc, a.inp, a.out, cd, a.wt⟩) rfl rfl (cells_new _ #[.int .i64 cc, .int .i64 a.inp, .int .i64 a.out, .int .i64 cd, .int .i64 a.wt] 63 (wr.heap.size + 1) (by simp)) (oneCell_arc _) (by unfold maxLen; omega) (by omega) (by have h := hts.size; simp; omega) ?_; intro v' w3 hown' hgrow _ hloc; obtain ⟨g, cap, hv⟩ := Go.Joins.ownsRow_form hown' (Nat.succ_pos _); rw [hv] at hown' hloc ⊢; obtain ⟨k2, f2, hts2, hb3⟩ := htA.arc _ hgrow hown' hloc))
              go_roundw
              case rel =>
                refine ⟨q + 1, by omega, by go_num, .slice (some ⟨g, 0, none⟩) ((arcsT st (ars.take q)).length + 1) cap, ?_, (hB5.alloc hB5.size _).trans hb3⟩
                rw [HH.out, HK.out.1, HK.out.2]
                have e1 : cc = newNo st t1 := by
                  have h := HD4.out t1 HT1.out HK.out.1
                  rw [hat] at h
                  injection h with h
                  injection h with _ h
                have e2 : cd = newNo st t2 := by
                  have h := HD4.out t2 HT2.out HK.out.2
                  rw [hatd] at h
                  injection h with h
                  injection h with _ h
                have e3 : arcT st a = ⟨cc, a.inp, a.out, cd, a.wt⟩ := by
                  unfold arcT
                  rw [HA.out.1, HA.out.2, Int.toNat_natCast, Int.toNat_natCast, e1, e2]
                simp only [Bool.and_self, if_true]
                rw [e3]
                exact hts2
              case measure => simp [intOf]; omega
        · have HTT : Hid (TS wr w2.heap.size (newNo st N) c fv av (finT ⟨N, s0, xs, ars⟩ st N) (arcsT st ars)) := by
            have h := hts
            rw [List.take_of_length_le (by have := HAL.out; omega)] at h
            exact h
          obtain ⟨fa, fl, fcap, rfl, _, _⟩ := (ownsRow_ints HTT.out.fr.1).lenOf
          obtain ⟨ba, bl, bcap, rfl, _, _⟩ := (ownsRow_arcs HTT.out.ar).lenOf
          have g0 := HTT.out.c0
          have g1 := HTT.out.c1
          have g2 := HTT.out.c2
          have g3 := HTT.out.c3
          have hzr := heap_bel hB5 hz2
          obtain ⟨z0, z1, z2, z3, y0, y1, y2, y3⟩ := zfacts hzr
          clear hts
          go_wp2
          exact bodyPost_ret (v := .tuple #[.agg #[.int .i64 (newNo st N), .int .i64 c, .slice fa fl fcap, .slice ba bl bcap], .int .i64 0]) (by simp [results, Try.results125, go_sem, *]) rfl
            ⟨⟨⟨newNo st N, c, finT ⟨N, s0, xs, ars⟩ st N, arcsT st ars⟩, _, _, rfl, ⟨st, HSS.out, by
              unfold trimBy
              rw [if_pos (by show st ((s0 : Int).toNat) = true; rw [Int.toNat_natCast]; exact HST.out)]
              show (FstD.mk (newNo st N) c (finT ⟨N, s0, xs, ars⟩ st N) (arcsT st ars)) = ⟨newNo st ((N : Int).toNat), newNo st ((s0 : Int).toNat), finT ⟨N, s0, xs, ars⟩ st ((N : Int).toNat), arcsT st ars⟩
              rw [Int.toNat_natCast, Int.toNat_natCast, HCS.out]⟩, ownsRow_ints (row_set4 HTT.out.fr.1 (fun e => by have := (HTT.out.fr.1.lt _ e).1; have := HR.out; omega) _ _ _ _), ownsRow_arcs (row_set4 HTT.out.ar (fun e => by have := (HTT.out.ar.lt _ e).1; have := HR.out; omega) _ _ _ _)⟩, bel_set4 hbr (by omega) _ _ _ _⟩

end Go.Proofs.Yteehgcbjmdideaa.Sc

/- 'Trim' whole. -/
namespace Go.Proofs.Yteehgcbjmdideaa.Sc
open Go.RowKit Go.Maps Go.ChangeShapes

theorem trim_any (f : FstD) (fin arcs : Value) (w : World) (hf : ISlice w fin f.final) (ha : ASlice w arcs f.arcs) :
    Calls Try.prog 125 #[.agg #[.int .i64 f.states, .int .i64 f.start, fin, arcs]] w fun e w' =>
      ((checkD f ≠ 0 ∧ e = .returned (.tuple #[.agg #[.int .i64 0, .int .i64 0, .slice none 0 0, .slice none 0 0], .int .i64 (checkD f)])) ∨ (checkD f = 0 ∧ TrimRes f e w')) ∧ Below w.heap.size w w' := by
  by_cases hc : checkD f = 0
  · have ok := check_ok f hc
    obtain ⟨st, sta, xs, ars⟩ := f
    have hb := inB_le ok.states
    have hs := inB_le ok.start
    have hlen := ok.len
    simp only at hb hs hlen hf ha
    obtain ⟨N, rfl⟩ : ∃ N : Nat, st = N := ⟨st.toNat, by omega⟩
    obtain ⟨s0, rfl⟩ : ∃ s0 : Nat, sta = s0 := ⟨sta.toNat, by omega⟩
    obtain ⟨fa, fn, fc, rfl, hfl, hfm⟩ := hf.lenOf
    obtain ⟨aa, n, ac, rfl, hal, ham⟩ := ha.lenOf
    obtain ⟨fb, off, rfl, hx⟩ := hf.some (by omega)
    have hfn : fn = N := by omega
    subst hfn
    have hmany : n ≤ 3000 := by have := ok.many; simp only at this; omega
    have hok : ∀ a ∈ ars, (0 ≤ a.src ∧ a.src < (fn : Int)) ∧ (0 ≤ a.dst ∧ a.dst < (fn : Int)) := fun a h => by
      have o := ok.arcs a h
      have q1 := inB_le o.src
      have q2 := inB_le o.dst
      simp only at q1 q2
      omega
    by_cases hS : Stays ⟨fn, s0, xs, ars⟩ s0
    · exact (trim_some fn s0 xs ars fb off fc aa n ac w hx ha hal hmany (by omega) (by omega) (by omega) hfm hok (fun x hx => (finB_out (ok.fin x hx)).2) (fun a h => arcOk_in64 (ok.arcs a h) hb.1 hb.2) hc hS).mono fun e w' ⟨h1, h2⟩ => ⟨Or.inr ⟨hc, h1⟩, h2⟩
    · exact (trim_none fn s0 xs ars _ aa n ac w hf (by omega) ha hal hmany (by omega) (by omega) (by omega) hok hc hS).mono fun e w' ⟨h1, h2⟩ => ⟨Or.inr ⟨hc, h1⟩, h2⟩
  · exact (trim_bad f fin arcs w hf ha (by simpa using hc)).mono fun e w' ⟨h1, h2⟩ => ⟨Or.inl ⟨hc, h1⟩, h2⟩

end Go.Proofs.Yteehgcbjmdideaa.Sc

/- What is so of the one transducer that determineBegun looks at. -/
namespace Go.Proofs.Yteehgcbjmdideaa
open Go.RowKit

def sameF : FstD := ⟨2, 0, [-1, 1], [⟨0, 1, 1, 1, 5⟩]⟩
def sameG : FstD := ⟨2, 0, [-1, 0], [⟨0, 1, 1, 1, 6⟩]⟩
theorem sameF_chk : checkD sameF = 0 := by decide
theorem sameG_chk : checkD sameG = 0 := by decide
theorem sameF_reads : (decide (checkD sameF = 0) && (bothB sameF && !silB sameF)) = true := by decide
theorem sameF_sil : silB sameF = false := by decide

theorem same_trim {t : FstD} (h : Sc.IsTrim sameF t) : t = sameF := by
  refine h.unique ⟨fun i => decide (i < 2), fun i => ?_, rfl⟩
  rw [decide_eq_true_iff]
  have r0 : Sc.ReachP 2 (Sc.pairsA sameF) (Sc.firstA sameF) 0 := Sc.Reach.first ⟨by decide, by decide⟩
  have r1 : Sc.ReachP 2 (Sc.pairsA sameF) (Sc.firstA sameF) 1 := Sc.Reach.on r0 (by decide)
  have b1 : Sc.ReachP 2 (Sc.pairsB sameF) (Sc.firstB sameF) 1 := Sc.Reach.first ⟨by decide, by decide⟩
  have b0 : Sc.ReachP 2 (Sc.pairsB sameF) (Sc.firstB sameF) 0 := Sc.Reach.on b1 (by decide)
  constructor
  · intro hi
    have : i = 0 ∨ i = 1 := by omega
    rcases this with rfl | rfl
    · exact ⟨r0, b0⟩
    · exact ⟨r1, b1⟩
  · intro hs
    exact hs.1.lt (by decide)

theorem sub0 : (subR sameF 2 0).ms.length = 1 := by decide
theorem sub1 : (subR sameF 2 1).ms.length = 2 := by decide
set_option maxRecDepth 100000 in
theorem sub2 : (subR sameF 2 2).ms.length = 2 ∧ (subR sameF 2 2).fin = [-1, 1] ∧ (subR sameF 2 2).ars = [⟨0, 1, 1, 1, 5⟩] := ⟨by decide, by decide, rfl⟩
theorem same_early : earlyD sameF = sameG := rfl
theorem same_all : gI (toD sameF) 0 = 6 := by decide
theorem same_move : ∀ a ∈ sameF.arcs, 0 ≤ (movA (toD sameF) a).wt ∧ (movA (toD sameF) a).wt ≤ 1000000000 := by decide
def cntS (s : Nat) : Nat := if s = 0 then 2 else 1
theorem same_cnt : CntOk (edgesE sameF.arcs) cntS := by
  intro s
  have e : edgesE sameF.arcs = [(0, 1)] := by decide
  rw [e]
  by_cases h : s = 0
  · subst h; decide
  · simp [sumC, cntS, h, Ne.symm h]
theorem same_round : ¬ RoundD sameF := by
  rintro ⟨v, _, u, h1, u', h2, _⟩
  have e : edgesE sameF.arcs = [(0, 1)] := by decide
  rw [e] at h1 h2
  have e1 := List.mem_singleton.1 h1
  have e2 := List.mem_singleton.1 h2
  injection e1 with e1 _
  injection e2 with _ e2
  omega
theorem same_rk : ∀ e ∈ edgesE sameF.arcs, (fun s : Nat => 1 - s) e.2 < (fun s : Nat => 1 - s) e.1 := by decide
theorem same_okF : OkF sameF 2 0 := ⟨rfl, rfl, by decide, by decide, by decide, rfl, by decide, by decide, by decide⟩
theorem same_subs {w w' : World} {e : Ending} (h : SubsRes sameF 2 200 w e w') : ∃ fa fn fc aa an ac, e = .returned (.tuple #[.agg #[.int .i64 2, .int .i64 0, .slice fa fn fc, .slice aa an ac], .bool true]) ∧ ISlice w' (.slice fa fn fc) sameF.final ∧ ASlice w' (.slice aa an ac) sameF.arcs ∧ Below w.heap.size w w' := by
  obtain ⟨k, hk, h, hb⟩ := h
  have h3 : k < 3 := by
    refine Nat.lt_of_not_le fun h => ?_
    have := (hk 2 (by omega)).1
    rw [sub2.1] at this
    omega
  have : k = 0 ∨ k = 1 ∨ k = 2 := by omega
  rcases this with rfl | rfl | rfl
  · rw [sub0] at h
    rcases h with h | h
    · omega
    · have := h.1; omega
  · rw [sub1] at h
    rcases h with h | h
    · omega
    · have := h.1; omega
  · obtain ⟨s1, s2, s3⟩ := sub2
    rw [s1, s2, s3] at h
    rcases h with h | ⟨_, fa, fn, fc, aa, an, ac, he, hI, hA⟩
    · omega
    · exact ⟨fa, fn, fc, aa, an, ac, he, hI, hA, hb⟩
end Go.Proofs.Yteehgcbjmdideaa

/- 'Determine' of package determine, at one transducer: what it calls. -/
namespace Go.Proofs.Yteehgcbjmdideaa
open Go.RowKit
attribute [local go_sem ↓] Go.wp_at_zero Go.wp_at_succ

theorem same_fine : Fine sameF := fine_iff.1 sameF_chk

section
variable (fin arcs : Value) (W : World) (hf : ISlice W fin sameF.final) (ha : ASlice W arcs sameF.arcs)
include hf ha
theorem reads_same : Calls Try.prog 91 #[.agg #[.int .i64 2, .int .i64 0, fin, arcs]] W fun e w' => e = .returned (.tuple #[.bool true, .int .i64 0]) ∧ Below W.heap.size W w' := by
  refine (reads_any sameF fin arcs W hf ha).mono ?_
  rintro e w' ⟨rfl, hb⟩
  rw [sameF_reads, sameF_chk]
  exact ⟨rfl, hb⟩
theorem round_same : Calls Try.prog 92 #[.agg #[.int .i64 2, .int .i64 0, fin, arcs]] W fun e w' => e = .returned (.bool false) ∧ Below W.heap.size W w' := by
  refine (goesRound_at sameF fin arcs W same_fine hf ha).mono ?_
  rintro e w' ⟨b, rfl, hr, hb⟩
  cases b with
  | false => exact ⟨rfl, hb⟩
  | true => exact absurd (hr.1 rfl) same_round
theorem trim_same : Calls Try.prog 125 #[.agg #[.int .i64 2, .int .i64 0, fin, arcs]] W fun e w' => ∃ fb fo fc ab ao ac, e = .returned (.tuple #[.agg #[.int .i64 2, .int .i64 0, .slice (some ⟨fb, fo, none⟩) 2 fc, .slice (some ⟨ab, ao, none⟩) 1 ac], .int .i64 0]) ∧ IntsAt w' fb fo 2 sameF.final ∧ ArcsAt w' ab ao 1 sameF.arcs ∧ Below W.heap.size W w' := by
  refine (Sc.trim_any sameF fin arcs W hf ha).mono ?_
  rintro e w' ⟨h | h, hb⟩
  · exact absurd sameF_chk h.1
  · obtain ⟨_, t, fv, av, rfl, ht, hI, hA⟩ := h
    obtain rfl := same_trim ht
    obtain ⟨fa, fn, fc, rfl, h1, _⟩ := hI.lenOf
    obtain ⟨aa, an, ac, rfl, h2, _⟩ := hA.lenOf
    obtain rfl : 2 = fn := h1
    obtain rfl : 1 = an := h2
    obtain ⟨fb, fo, rfl, hx⟩ := hI.some (by omega)
    obtain ⟨ab, ao, rfl, hy⟩ := hA.some (by omega)
    exact ⟨fb, fo, fc, ab, ao, ac, rfl, hx, hy, hb⟩
theorem subs_same : Calls Try.prog 126 #[.agg #[.int .i64 2, .int .i64 0, fin, arcs], .int .i64 200, .func (.func 127) #[] #[]] W fun e w' => ∃ fa fc aa ac, e = .returned (.tuple #[.agg #[.int .i64 2, .int .i64 0, .slice fa 2 fc, .slice aa 1 ac], .bool true]) ∧ ISlice w' (.slice fa 2 fc) sameF.final ∧ ASlice w' (.slice aa 1 ac) sameF.arcs ∧ Below W.heap.size W w' := by
  refine (subsets_any sameF 2 0 200 fin arcs W same_fine rfl rfl sameF_sil hf ha (by decide)).mono ?_
  intro e w' h
  obtain ⟨fa, fn, fc, aa, an, ac, rfl, hI, hA, hb⟩ := same_subs h
  obtain ⟨fa', fn', fc', e1, h1, _⟩ := hI.lenOf
  obtain ⟨aa', an', ac', e2, h2, _⟩ := hA.lenOf
  injection e1 with _ e1 _
  injection e2 with _ e2 _
  obtain rfl : 2 = fn := by rw [e1]; exact h1
  obtain rfl : 1 = an := by rw [e2]; exact h2
  exact ⟨fa, fc, aa, ac, rfl, hI, hA, hb⟩
end
theorem check_sameG {fin arcs : Value} {W : World} (hf : ISlice W fin sameG.final) (ha : ASlice W arcs sameG.arcs) : Calls Try.prog 101 #[.agg #[.int .i64 2, .int .i64 0, fin, arcs]] W fun e w' => e = .returned (.int .i64 0) ∧ Below W.heap.size W w' := by
  refine (check_any sameG fin arcs W hf ha).mono ?_
  rintro e w' ⟨rfl, hb⟩
  rw [sameG_chk]
  exact ⟨rfl, hb⟩
theorem begs_same (fa : Option Addr) (fn fc : Nat) (aa : Option Addr) (ac : Nat) (W : World) (ha : ASlice W (.slice aa 1 ac) sameF.arcs) : Calls Try.prog 128 #[.agg #[.int .i64 2, .int .i64 0, .slice fa fn fc, .slice aa 1 ac]] W fun e w' => e = .returned (.int .i64 2) ∧ Below W.heap.size W w' :=
  beginnings_any sameF 2 0 2 fa fn fc aa 1 ac cntS (fun s => 1 - s) W (by decide) (by decide) (fun a h => by
    obtain rfl := List.mem_singleton.1 h
    exact ⟨0, 1, rfl, rfl, by decide, by decide⟩) rfl (by decide) same_cnt same_rk ha
theorem early_same (fin : Value) (aa : Option Addr) (ac : Nat) (W : World) (hf : ISlice W fin sameF.final) (ha : ASlice W (.slice aa 1 ac) sameF.arcs) : Calls Try.prog 129 #[.agg #[.int .i64 2, .int .i64 0, fin, .slice aa 1 ac]] W fun e w' => ∃ g1 c1 ba bc, e = .returned (.agg #[.int .i64 2, .int .i64 0, .slice (some ⟨g1, 0, none⟩) 2 c1, .slice ba 1 bc]) ∧ NumsAt w' g1 2 sameG.final ∧ W.heap.size ≤ g1 ∧ ArcsB W.heap.size w' ba 1 sameG.arcs ∧ Below W.heap.size W w' := by
  have h := early_some sameF 2 0 fin aa 1 ac W same_okF hf ha rfl (by rw [same_all]; decide) same_move
  rw [same_early] at h
  exact h

theorem box_not {w : World} {X b k t : Nat} {x : Int} {a1 a2 : Option Addr} {n1 n2 c1 c2 : Nat} (h : w.heap[X]? = some (.cells #[.int .i64 2, .int .i64 0, .slice a1 n1 c1, .slice a2 n2 c2] t (0, 0))) (hc : w.cell? ⟨b, k, none⟩ = some (.int .i64 x)) (h2 : x ≠ 2) (h0 : x ≠ 0) : b ≠ X := by
  rintro rfl
  have := (Go.Joins.cell_of_block h k).symm.trans hc
  match k, this with
  | 0, e => simp at e; omega
  | 1, e => simp at e; omega
  | 2, e => simp at e
  | 3, e => simp at e
  | k + 4, e => simp at e
end Go.Proofs.Yteehgcbjmdideaa

/- 'Determine' of package determine, at one transducer: the walk. -/
namespace Go.Proofs.Yteehgcbjmdideaa
open Go.RowKit
attribute [local go_sem ↓] Go.wp_at_zero Go.wp_at_succ

def DetOk (w : World) (e : Ending) (w' : World) : Prop := ∃ fa fn fc ba bn bc, e = .returned (.tuple #[.agg #[.int .i64 2, .int .i64 0, .slice fa fn fc, .slice ba bn bc], .int .i64 0]) ∧ ISlice w' (.slice fa fn fc) sameG.final ∧ ASlice w' (.slice ba bn bc) sameG.arcs ∧ Below w.heap.size w w'

theorem far4I {w : World} {X fb fo n : Nat} {xs : List Int} (h : IntsAt w fb fo n xs) (hne : fb ≠ X) (u0 u1 u2 u3 : Value) : IntsAt ((((w.setCell ⟨X, 0, none⟩ u0).setCell ⟨X, 1, none⟩ u1).setCell ⟨X, 2, none⟩ u2).setCell ⟨X, 3, none⟩ u3) fb fo n xs :=
  ⟨h.len, fun i hi => (far4 hne _ _ _ _).trans (h.cell i hi)⟩
theorem far4A {w : World} {X fb fo n : Nat} {xs : List ArcD} (h : ArcsAt w fb fo n xs) (hne : fb ≠ X) (u0 u1 u2 u3 : Value) : ArcsAt ((((w.setCell ⟨X, 0, none⟩ u0).setCell ⟨X, 1, none⟩ u1).setCell ⟨X, 2, none⟩ u2).setCell ⟨X, 3, none⟩ u3) fb fo n xs :=
  ⟨h.len, fun i hi => (far4 hne _ _ _ _).trans (h.c0 i hi), fun i hi => (far4 hne _ _ _ _).trans (h.c1 i hi), fun i hi => (far4 hne _ _ _ _).trans (h.c2 i hi), fun i hi => (far4 hne _ _ _ _).trans (h.c3 i hi), fun i hi => (far4 hne _ _ _ _).trans (h.c4 i hi)⟩

set_option maxHeartbeats 3200000 in
set_option maxRecDepth 100000 in
theorem determine_same (fin arcs : Value) (w : World) (hf : ISlice w fin sameF.final) (ha : ASlice w arcs sameF.arcs) :
    Calls Try.prog 95 #[.agg #[.int .i64 2, .int .i64 0, fin, arcs]] w fun e w' => DetOk w e w' := by
  obtain ⟨fa, fn, fc, rfl, _, _⟩ := hf.lenOf
  obtain ⟨aa, an, ac, rfl, _, _⟩ := ha.lenOf
  obtain ⟨A1, hA1⟩ : ∃ W, W = w.alloc (.cells #[.int .i64 2, .int .i64 0, .slice fa fn fc, .slice aa an ac] 25) := ⟨_, rfl⟩
  have hX1 : A1.heap[w.heap.size]? = some (.cells #[.int .i64 2, .int .i64 0, .slice fa fn fc, .slice aa an ac] 25 (0, 0)) := by rw [hA1]; exact heap_alloc_new w _
  have hB1 : Below w.heap.size w A1 := by rw [hA1]; exact bel_up (bel_self w) _
  have s1 : A1.heap.size = w.heap.size + 1 := by rw [hA1]; exact one_size _ _
  obtain ⟨A2, hA2⟩ : ∃ W, W = A1.alloc (.cells #[.int .i64 0, .int .i64 0, .slice none 0 0, .slice none 0 0] 25) := ⟨_, rfl⟩
  have hz2 : ZBlock A2 (w.heap.size + 1) := by unfold ZBlock; rw [hA2, ← s1]; exact heap_alloc_new A1 _
  have hB12 : Below A1.heap.size A1 A2 := by rw [hA2]; exact bel_up (bel_self _) _
  have hX2 := heap_bel hB12 hX1
  have hB2 := bel_on hB1 hB12
  have q2 : CellsF A2 w.heap.size 2 0 (.slice fa fn fc) (.slice aa an ac) := (by rw [hA1]; exact cellsF_new _ _ _ _ _ _ : CellsF A1 w.heap.size 2 0 (.slice fa fn fc) (.slice aa an ac)).below hB12
  have HW : Hid (A2 = (w.alloc (.cells #[.int .i64 2, .int .i64 0, .slice fa fn fc, .slice aa an ac] 25)).alloc (.cells #[.int .i64 0, .int .i64 0, .slice none 0 0, .slice none 0 0] 25)) := by rw [← hA1]; exact hA2
  have h91 := reads_same _ _ A2 (hf.below hB2) (ha.below hB2)
  rw [HW.out] at h91
  have HIN : Hid (∀ W : World, Below w.heap.size w W → ISlice W (.slice fa fn fc) sameF.final ∧ ASlice W (.slice aa an ac) sameF.arcs) := fun W h => ⟨hf.below h, ha.below h⟩
  have hsz2 : A2.heap.size = w.heap.size + 2 := by rw [hA2, one_size, s1]
  clear hA1 hA2 hX1 hB1 s1 hB12 hf ha
  go_enter Try.func95, Try.ntmps95
  go_wp2_with (first | (go_at_call 91; refine h91.mono ?_; rintro e w1 ⟨rfl, hb1⟩; rw [← HW.out] at hb1; clear h91; obtain ⟨p0, p1, p2, p3⟩ := q2.below hb1; have h92 := round_same _ _ w1 (HIN.out w1 (bel_on hB2 hb1)).1 (HIN.out w1 (bel_on hB2 hb1)).2) | (go_at_call 92; refine h92.mono ?_; rintro e w2 ⟨rfl, hb2⟩; clear h92 p0 p1 p2 p3; have hb02 := bel_on (bel_on hB2 hb1) hb2; have hb22 := bel_on hb1 hb2; obtain ⟨p0, p1, p2, p3⟩ := q2.below hb22; have h125 := trim_same _ _ w2 (HIN.out w2 hb02).1 (HIN.out w2 hb02).2) | (go_at_call 125; refine h125.mono ?_; rintro e w3 ⟨fb3, fo3, fc3, ab3, ao3, ac3, rfl, hI3, hA3, hb3⟩; clear h125 p0 p1 p2 p3; have hb03 := bel_on hb02 hb3; have hb23 := bel_on hb22 hb3; obtain ⟨p0, p1, p2, p3⟩ := q2.below hb23; have hX3 := heap_bel hb23 hX2; have f0 := Go.Joins.unfrozen_of_block hX3 0; have f1 := Go.Joins.unfrozen_of_block hX3 1; have f2 := Go.Joins.unfrozen_of_block hX3 2; have f3 := Go.Joins.unfrozen_of_block hX3 3; have hn1 : fb3 ≠ w.heap.size := box_not hX3 (hI3.cell 0 (by decide)) (by decide) (by decide); have hn2 : ab3 ≠ w.heap.size := box_not hX3 (hA3.c1 0 (by decide)) (by decide) (by decide); have hz3 := zb_set4 (heap_bel hb23 hz2) (Nat.succ_ne_self _) (.int .i64 2) (.int .i64 0) (.slice (some ⟨fb3, fo3, none⟩) 2 fc3) (.slice (some ⟨ab3, ao3, none⟩) 1 ac3); have hb33 := bel_set4 hb03 (Nat.le_refl _) (.int .i64 2) (.int .i64 0) (.slice (some ⟨fb3, fo3, none⟩) 2 fc3) (.slice (some ⟨ab3, ao3, none⟩) 1 ac3); obtain ⟨r0, r1, r2, r3⟩ := set4_cells p0 p1 p2 p3 2 0 (.slice (some ⟨fb3, fo3, none⟩) 2 fc3) (.slice (some ⟨ab3, ao3, none⟩) 1 ac3); have h126 := subs_same _ _ ((((w3.setCell ⟨w.heap.size, 0, none⟩ (.int .i64 2)).setCell ⟨w.heap.size, 1, none⟩ (.int .i64 0)).setCell ⟨w.heap.size, 2, none⟩ (.slice (some ⟨fb3, fo3, none⟩) 2 fc3)).setCell ⟨w.heap.size, 3, none⟩ (.slice (some ⟨ab3, ao3, none⟩) 1 ac3)) (Or.inr ⟨fb3, fo3, 2, fc3, rfl, far4I hI3 hn1 (.int .i64 2) (.int .i64 0) (.slice (some ⟨fb3, fo3, none⟩) 2 fc3) (.slice (some ⟨ab3, ao3, none⟩) 1 ac3), by decide⟩) (Or.inr ⟨ab3, ao3, 1, ac3, rfl, far4A hA3 hn2 (.int .i64 2) (.int .i64 0) (.slice (some ⟨fb3, fo3, none⟩) 2 fc3) (.slice (some ⟨ab3, ao3, none⟩) 1 ac3), by decide⟩); clear hX3 hI3 hA3 hn1 hn2) | (go_at_call 126; refine h126.mono ?_; rintro e w4 ⟨fa4, fc4, aa4, ac4, rfl, hI4, hA4, hb4⟩; clear h126 p0 p1 p2 p3 f0 f1 f2 f3 r0 r1 r2 r3; have hz4 := heap_bel hb4 hz3; have hb04 := bel_on hb33 hb4; have hbA := bel_up (bel_self w4) (.cells #[.int .i64 2, .int .i64 0, .slice fa4 2 fc4, .slice aa4 1 ac4] 25); have hc4 := cellsF_new w4 2 0 (.slice fa4 2 fc4) (.slice aa4 1 ac4) 25; have hG4 := heap_alloc_new w4 (.cells #[.int .i64 2, .int .i64 0, .slice fa4 2 fc4, .slice aa4 1 ac4] 25); have r0 := hc4.1; have r1 := hc4.2.1; have r2 := hc4.2.2.1; have r3 := hc4.2.2.2; have h128 := begs_same fa4 2 fc4 aa4 ac4 (w4.alloc (.cells #[.int .i64 2, .int .i64 0, .slice fa4 2 fc4, .slice aa4 1 ac4] 25)) (hA4.below hbA)) | (go_at_call 128; refine h128.mono ?_; rintro e w5 ⟨rfl, hb5⟩; clear h128 r0 r1 r2 r3; have hb45 := bel_on hbA hb5; have hc5 := hc4.below hb5; obtain ⟨r0, r1, r2, r3⟩ := hc5; have hG5 := heap_bel hb5 hG4; have h129 := early_same _ aa4 ac4 w5 (hI4.below hb45) (hA4.below hb45)) | (go_at_call 129; refine h129.mono ?_; rintro e w6 ⟨g6, c6, ba6, bc6, rfl, hN6, hg6, hA6, hb6⟩; clear h129 r0 r1 r2 r3; have hG6 := heap_bel hb6 hG5; have f0 := Go.Joins.unfrozen_of_block hG6 0; have f1 := Go.Joins.unfrozen_of_block hG6 1; have f2 := Go.Joins.unfrozen_of_block hG6 2; have f3 := Go.Joins.unfrozen_of_block hG6 3; obtain ⟨p0, p1, p2, p3⟩ := (hc4.below hb5).below hb6; obtain ⟨r0, r1, r2, r3⟩ := set4_cells p0 p1 p2 p3 2 0 (.slice (some ⟨g6, 0, none⟩) 2 c6) (.slice ba6 1 bc6); have hlt5 := heap_lt hG5; have hgn : g6 ≠ w4.heap.size := (by omega); have hN6t := (((hN6.other (v := .int .i64 2) (i := 0) hgn).other (v := .int .i64 0) (i := 1) hgn).other (v := .slice (some ⟨g6, 0, none⟩) 2 c6) (i := 2) hgn).other (v := .slice ba6 1 bc6) (i := 3) hgn; have hA6t := (((hA6.set (v := .int .i64 2) (i := 0) hlt5).set (v := .int .i64 0) (i := 1) hlt5).set (v := .slice (some ⟨g6, 0, none⟩) 2 c6) (i := 2) hlt5).set (v := .slice ba6 1 bc6) (i := 3) hlt5; have h101 := check_sameG (hN6t.slice c6 (by decide)) (hA6t.slice bc6); have hb46 := bel_on hb45 hb6; have hb66 := bel_set4 hb46 (Nat.le_refl _) (.int .i64 2) (.int .i64 0) (.slice (some ⟨g6, 0, none⟩) 2 c6) (.slice ba6 1 bc6)) | (go_at_call 101; refine h101.mono ?_; rintro e w7 ⟨rfl, hb7⟩; clear h101 p0 p1 p2 p3 f0 f1 f2 f3; have hc7 := (set4_cells ((hc4.below hb5).below hb6).1 ((hc4.below hb5).below hb6).2.1 ((hc4.below hb5).below hb6).2.2.1 ((hc4.below hb5).below hb6).2.2.2 2 0 (.slice (some ⟨g6, 0, none⟩) 2 c6) (.slice ba6 1 bc6)).below hb7; clear r0 r1 r2 r3; obtain ⟨r0, r1, r2, r3⟩ := hc7; have hb47 := bel_on hb66 hb7; have hz7 := heap_bel hb47 hz4; obtain ⟨z0, z1, z2, z3, y0, y1, y2, y3⟩ := zfacts hz7; obtain ⟨t0, t1, t2, t3⟩ := set4_cells z0 z1 z2 z3 2 0 (.slice (some ⟨g6, 0, none⟩) 2 c6) (.slice ba6 1 bc6)))
  have hzl := heap_lt hz4
  have hszA := hbA.size
  have hsz5 := hb5.size
  rw [one_size] at hsz5
  have hne : g6 ≠ w.heap.size + 1 := by omega
  have hR : w.heap.size + 1 < w5.heap.size := by omega
  have hN7 := hN6t.below hb7
  have hA7 := hA6t.below hb7
  have hN8 := (((hN7.other (v := .int .i64 2) (i := 0) hne).other (v := .int .i64 0) (i := 1) hne).other (v := .slice (some ⟨g6, 0, none⟩) 2 c6) (i := 2) hne).other (v := .slice ba6 1 bc6) (i := 3) hne
  have hA8 := (((hA7.set (v := .int .i64 2) (i := 0) hR).set (v := .int .i64 0) (i := 1) hR).set (v := .slice (some ⟨g6, 0, none⟩) 2 c6) (i := 2) hR).set (v := .slice ba6 1 bc6) (i := 3) hR
  exact bodyPost_ret (v := .tuple #[.agg #[.int .i64 2, .int .i64 0, .slice (some ⟨g6, 0, none⟩) 2 c6, .slice ba6 1 bc6], .int .i64 0]) (by simp [results, Try.results95, go_sem, *]) rfl ⟨_, _, _, _, _, _, rfl, hN8.slice c6 (by decide), hA8.slice bc6, bel_set4 (bel_on hb04 hb47) (by omega) _ _ _ _⟩
end Go.Proofs.Yteehgcbjmdideaa

/- The law 'DetermineTells', from what determineBegun answers. (Made by wip/gen/dth.py.) -/
namespace Go.Proofs.Yteehgcbjmdideaa
open Go.RowKit
attribute [local go_sem ↓] Go.wp_at_zero Go.wp_at_succ

set_option maxHeartbeats 3200000 in
set_option maxRecDepth 100000 in
theorem determineTells_of (hB : ∀ W, Calls Try.prog 50 #[] W fun e w' => e = .returned (.bool true) ∧ Below W.heap.size W w')
    (f : FstD) (fin arcs : Value) (w : World) (hf : ISlice w fin f.final) (ha : ASlice w arcs f.arcs) :
    Calls Try.prog 9 #[.agg #[.int .i64 f.states, .int .i64 f.start, fin, arcs]] w fun e w' => e = .returned (.bool true) ∧ Below w.heap.size w w' := by
  obtain ⟨fa, fn, fc, rfl, _, _⟩ := hf.lenOf
  obtain ⟨aa, m, ac, rfl, hal, _⟩ := ha.lenOf
  have HBE : Hid (∀ W, Calls Try.prog 50 #[] W fun e w' => e = .returned (.bool true) ∧ Below W.heap.size W w') := hB
  obtain ⟨A, hA⟩ : ∃ A, A = w.alloc (.cells #[.int .i64 f.states, .int .i64 f.start, .slice fa fn fc, .slice aa m ac] 25) := ⟨_, rfl⟩
  have hb0 : Below w.heap.size w A := by rw [hA]; exact bel_up (bel_self w) _
  have hcf : CellsF A w.heap.size f.states f.start (.slice fa fn fc) (.slice aa m ac) := by rw [hA]; exact cellsF_new _ _ _ _ _ _
  have HCF : Hid (∀ W, Below A.heap.size A W → CellsF W w.heap.size f.states f.start (.slice fa fn fc) (.slice aa m ac)) := fun W h => hcf.below h
  have HM : Hid (∀ W, Below A.heap.size A W → ISlice W (.slice fa fn fc) f.final ∧ ASlice W (.slice aa m ac) f.arcs) := fun W h => ⟨hf.below (bel_on hb0 h), ha.below (bel_on hb0 h)⟩
  have his := is_any f _ _ A (hf.below hb0) (ha.below hb0)
  have HA : Hid (A = w.alloc (.cells #[.int .i64 f.states, .int .i64 f.start, .slice fa fn fc, .slice aa m ac] 25)) := hA
  rw [hA] at his
  clear hA hf ha hB hcf
  go_enter Try.func9, Try.ntmps9
  go_wp2_with fail
  refine his.mono ?_
  rintro e w1 ⟨b1, rfl, hb1, hbl1⟩
  have HB1 : Hid (b1 = true ↔ checkD f = 0 ∧ IsD f) := hb1
  rw [← HA.out] at hbl1
  have hro := round_any f _ _ w1 (HM.out w1 hbl1).1 (HM.out w1 hbl1).2
  obtain ⟨q0, q1, q2, q3⟩ := HCF.out w1 hbl1
  obtain ⟨c, hc⟩ : ∃ c, c = checkD f := ⟨_, rfl⟩
  have HC : Hid (c = checkD f) := hc
  rw [← hc]
  clear hb1 his HA hc
  go_wp2_with fail
  refine hro.mono ?_
  rintro e w2 ⟨b2, rfl, hb2, hbl2⟩
  have HB2 : Hid (b2 = true ↔ checkD f = 0 ∧ RoundD f) := hb2
  have hbl2' := bel_on hbl1 hbl2
  have hck := checkFst_any f _ _ w2 (HM.out w2 hbl2').1 (HM.out w2 hbl2').2
  clear hb2 hro q0 q1 q2 q3
  obtain ⟨q0, q1, q2, q3⟩ := HCF.out w2 hbl2'
  rw [← HC.out] at hck ⊢
  go_wp2_with fail
  refine hck.mono ?_
  rintro e w3 ⟨rfl, hbl3⟩
  have hbl3' := bel_on hbl2' hbl3
  clear hck q0 q1 q2 q3
  obtain ⟨q0, q1, q2, q3⟩ := HCF.out w3 hbl3'
  by_cases h0 : c = 0
  · subst h0
    have HC0 : Hid (checkD f = 0) := HC.out.symm
    have kf := fine_of HC0.out
    have HORD : Hid (f.arcs.Pairwise (fun a b => aheadB a b = true)) := kf.ord
    obtain ⟨Wd, hWd⟩ : ∃ W, W = w3.drew := ⟨_, rfl⟩
    have hbd : Below A.heap.size A Wd := by rw [hWd]; exact hbl3'.drew
    have HWD : Hid (Wd = w3.drew) := hWd
    have hS0 : (fun wx : World => CellsF wx w.heap.size f.states f.start (.slice fa fn fc) (.slice aa m ac)) Wd := HCF.out Wd hbd
    have hbo := isBoth_any f _ _ Wd kf.many (HM.out Wd hbd).1 (HM.out Wd hbd).2
    have HSI : Hid (∀ W, Below A.heap.size A W → Calls Try.prog 48 #[.agg #[.int .i64 f.states, .int .i64 f.start, .slice fa fn fc, .slice aa m ac]] W fun e w' => ∃ b, e = .returned (.bool b) ∧ (b = true ↔ singleP f.arcs f.arcs.length ∧ silB f = false) ∧ Below W.heap.size W w') := fun W h => isSingle_any f _ _ W kf.many (HM.out W h).1 (HM.out W h).2
    have HRO : Hid (∀ W, Below A.heap.size A W → Calls Try.prog 49 #[.agg #[.int .i64 f.states, .int .i64 f.start, .slice fa fn fc, .slice aa m ac]] W fun e w' => ∃ b, e = .returned (.bool b) ∧ (b = true ↔ RoundD f) ∧ Below W.heap.size W w') := fun W h => isRound_at f _ _ W kf (HM.out W h).1 (HM.out W h).2
    obtain ⟨z, hz⟩ : ∃ z, z = bothB f := ⟨_, rfl⟩
    have HZ : Hid (bothB f = z) := hz.symm
    rw [← hz] at hbo
    clear hz hWd kf HC
    cases z
    · go_wp2_with fail
      clear q0 q1 q2 q3
      refine wp_region_noPanic ?_
      refine wp_region_F (fun wx : World => CellsF wx w.heap.size f.states f.start (.slice fa fn fc) (.slice aa m ac)) [] (by kernel_rfl) (by rw [← HWD.out]; exact hS0) (fun _ => ?_)
      rw [← HWD.out]
      clear HWD
      refine wpAnyF_take (i := 0) (v := .agg #[.int .i64 f.states, .int .i64 f.start, .slice fa fn fc, .slice aa m ac]) rfl (by kernel_rfl) (by kernel_rfl) (by kernel_rfl) (by kernel_rfl) (fun _ _ _ h => h) (Or.inl ⟨by rfl, fun wl hSw => ?_⟩) hS0 ?_
      · obtain ⟨z0, z1, z2, z3⟩ := hSw; go_simp
      go_simp
      refine wpAnyF_take (i := 6) (v := .agg #[.int .i64 f.states, .int .i64 f.start, .slice fa fn fc, .slice aa m ac]) rfl (by kernel_rfl) (by kernel_rfl) (by kernel_rfl) (by kernel_rfl) (fun _ _ _ h => h) (Or.inl ⟨by rfl, fun wl hSw => ?_⟩) hS0 ?_
      · obtain ⟨z0, z1, z2, z3⟩ := hSw; go_simp
      go_simp
      refine wpAnyF_one (i := 1) rfl (by kernel_rfl) (fun Kc hKc => ?_)
      go_simp
      refine hbo.mono ?_
      rintro e w4 ⟨rfl, hb4⟩
      have hb4' := bel_on hbd hb4
      have hS4 : (fun wx : World => CellsF wx w.heap.size f.states f.start (.slice fa fn fc) (.slice aa m ac)) w4 := HCF.out w4 hb4'
      clear hbo
      refine hKc.out _ _ ⟨fun _ => hS4, ?_⟩
      clear hKc Kc
      refine wpAnyF_take (i := 2) (v := .bool false) rfl (by kernel_rfl) (by kernel_rfl) (by kernel_rfl) (by kernel_rfl) (fun _ _ _ h => h) (Or.inl ⟨by rfl, fun wl hSw => ?_⟩) hS4 ?_
      · obtain ⟨z0, z1, z2, z3⟩ := hSw; go_simp
      go_simp
      refine wpAnyF_take (i := 3) (v := undef) rfl (by kernel_rfl) (by kernel_rfl) (by kernel_rfl) (by kernel_rfl) (fun _ _ _ h => h) (Or.inr ⟨by rfl, rfl⟩) hS4 ?_
      go_simp
      refine wpAnyF_take (i := 4) (v := undef) rfl (by kernel_rfl) (by kernel_rfl) (by kernel_rfl) (by kernel_rfl) (fun _ _ _ h => h) (Or.inr ⟨by rfl, rfl⟩) hS4 ?_
      go_simp
      have hb5' := hb4'
      have hS5 := hS4
      refine wpAnyF_take (i := 5) (v := .bool false) rfl (by kernel_rfl) (by kernel_rfl) (by kernel_rfl) (by kernel_rfl) (fun _ _ _ h => h) (Or.inl ⟨by rfl, fun wl hSw => ?_⟩) hS5 ?_
      · obtain ⟨z0, z1, z2, z3⟩ := hSw; go_simp
      go_simp
      have hro := HRO.out w4 hb5'
      refine wpAnyF_one (i := 7) rfl (by kernel_rfl) (fun Kc hKc => ?_)
      go_simp
      refine hro.mono ?_
      rintro e w6 ⟨q, rfl, hq, hb6⟩
      have hb6' := bel_on hb5' hb6
      have hS6 : (fun wx : World => CellsF wx w.heap.size f.states f.start (.slice fa fn fc) (.slice aa m ac)) w6 := HCF.out w6 hb6'
      have HQ : Hid (q = true ↔ RoundD f) := hq
      clear hq hro
      refine hKc.out _ _ ⟨fun _ => hS6, ?_⟩
      clear hKc Kc
      refine wpAnyF_one (i := 8) rfl (by kernel_rfl) (fun Kc hKc => ?_)
      go_simp
      refine hKc.out _ _ ⟨fun _ => hS6, ?_⟩
      clear hKc Kc
      refine wpAnyF_one (i := 9) rfl (by kernel_rfl) (fun Kc hKc => ?_)
      go_simp
      refine hKc.out _ _ ⟨fun _ => hS6, ?_⟩
      clear hKc Kc
      refine wpAnyF_done (by kernel_rfl) ?_ _
      refine NoPanic.normal ?_
      obtain rfl : b2 = q := by
        have h1 := HB2.out
        have h2 := HQ.out
        rw [HC0.out] at h1
        rw [Bool.eq_iff_iff, h1, h2]
        exact ⟨fun h => h.2, fun h => ⟨rfl, h⟩⟩
      obtain rfl : b1 = false := by
        have h1 := HB1.out
        rw [Bool.eq_false_iff]
        intro h
        have h2 := (h1.1 h).2.1
        rw [HZ.out] at h2
        cases h2
      have hbe := HBE.out w6
      clear HB1 HB2 HQ
      go_wp2_with (go_at_call 50; refine hbe.mono ?_; rintro e w7 ⟨rfl, hb7⟩)
      go_ret
      exact ⟨rfl, bel_on hb0 (bel_on hb6' hb7)⟩
    · go_wp2_with fail
      clear q0 q1 q2 q3
      refine wp_region_noPanic ?_
      refine wp_region_F (fun wx : World => CellsF wx w.heap.size f.states f.start (.slice fa fn fc) (.slice aa m ac)) [] (by kernel_rfl) (by rw [← HWD.out]; exact hS0) (fun _ => ?_)
      rw [← HWD.out]
      clear HWD
      refine wpAnyF_take (i := 0) (v := .agg #[.int .i64 f.states, .int .i64 f.start, .slice fa fn fc, .slice aa m ac]) rfl (by kernel_rfl) (by kernel_rfl) (by kernel_rfl) (by kernel_rfl) (fun _ _ _ h => h) (Or.inl ⟨by rfl, fun wl hSw => ?_⟩) hS0 ?_
      · obtain ⟨z0, z1, z2, z3⟩ := hSw; go_simp
      go_simp
      refine wpAnyF_take (i := 6) (v := .agg #[.int .i64 f.states, .int .i64 f.start, .slice fa fn fc, .slice aa m ac]) rfl (by kernel_rfl) (by kernel_rfl) (by kernel_rfl) (by kernel_rfl) (fun _ _ _ h => h) (Or.inl ⟨by rfl, fun wl hSw => ?_⟩) hS0 ?_
      · obtain ⟨z0, z1, z2, z3⟩ := hSw; go_simp
      go_simp
      refine wpAnyF_one (i := 1) rfl (by kernel_rfl) (fun Kc hKc => ?_)
      go_simp
      refine hbo.mono ?_
      rintro e w4 ⟨rfl, hb4⟩
      have hb4' := bel_on hbd hb4
      have hS4 : (fun wx : World => CellsF wx w.heap.size f.states f.start (.slice fa fn fc) (.slice aa m ac)) w4 := HCF.out w4 hb4'
      clear hbo
      refine hKc.out _ _ ⟨fun _ => hS4, ?_⟩
      clear hKc Kc
      refine wpAnyF_take (i := 2) (v := .bool true) rfl (by kernel_rfl) (by kernel_rfl) (by kernel_rfl) (by kernel_rfl) (fun _ _ _ h => h) (Or.inl ⟨by rfl, fun wl hSw => ?_⟩) hS4 ?_
      · obtain ⟨z0, z1, z2, z3⟩ := hSw; go_simp
      go_simp
      refine wpAnyF_take (i := 3) (v := .agg #[.int .i64 f.states, .int .i64 f.start, .slice fa fn fc, .slice aa m ac]) rfl (by kernel_rfl) (by kernel_rfl) (by kernel_rfl) (by kernel_rfl) (fun _ _ _ h => h) (Or.inl ⟨by rfl, fun wl hSw => ?_⟩) hS4 ?_
      · obtain ⟨z0, z1, z2, z3⟩ := hSw; go_simp
      go_simp
      have hsi := HSI.out w4 hb4'
      refine wpAnyF_one (i := 4) rfl (by kernel_rfl) (fun Kc hKc => ?_)
      go_simp
      refine hsi.mono ?_
      rintro e w5 ⟨y, rfl, hy, hb5⟩
      have hb5' := bel_on hb4' hb5
      have hS5 : (fun wx : World => CellsF wx w.heap.size f.states f.start (.slice fa fn fc) (.slice aa m ac)) w5 := HCF.out w5 hb5'
      have HY : Hid (y = true ↔ singleP f.arcs f.arcs.length ∧ silB f = false) := hy
      clear hy hsi
      refine hKc.out _ _ ⟨fun _ => hS5, ?_⟩
      clear hKc Kc
      refine wpAnyF_take (i := 5) (v := .bool y) rfl (by kernel_rfl) (by kernel_rfl) (by kernel_rfl) (by kernel_rfl) (fun _ _ _ h => h) (Or.inl ⟨by rfl, fun wl hSw => ?_⟩) hS5 ?_
      · obtain ⟨z0, z1, z2, z3⟩ := hSw; go_simp
      go_simp
      have hro := HRO.out w5 hb5'
      refine wpAnyF_one (i := 7) rfl (by kernel_rfl) (fun Kc hKc => ?_)
      go_simp
      refine hro.mono ?_
      rintro e w6 ⟨q, rfl, hq, hb6⟩
      have hb6' := bel_on hb5' hb6
      have hS6 : (fun wx : World => CellsF wx w.heap.size f.states f.start (.slice fa fn fc) (.slice aa m ac)) w6 := HCF.out w6 hb6'
      have HQ : Hid (q = true ↔ RoundD f) := hq
      clear hq hro
      refine hKc.out _ _ ⟨fun _ => hS6, ?_⟩
      clear hKc Kc
      refine wpAnyF_one (i := 8) rfl (by kernel_rfl) (fun Kc hKc => ?_)
      go_simp
      refine hKc.out _ _ ⟨fun _ => hS6, ?_⟩
      clear hKc Kc
      refine wpAnyF_one (i := 9) rfl (by kernel_rfl) (fun Kc hKc => ?_)
      go_simp
      refine hKc.out _ _ ⟨fun _ => hS6, ?_⟩
      clear hKc Kc
      refine wpAnyF_done (by kernel_rfl) ?_ _
      refine NoPanic.normal ?_
      obtain rfl : b2 = q := by
        have h1 := HB2.out
        have h2 := HQ.out
        rw [HC0.out] at h1
        rw [Bool.eq_iff_iff, h1, h2]
        exact ⟨fun h => h.2, fun h => ⟨rfl, h⟩⟩
      obtain rfl : b1 = y := by
        have h1 := HB1.out
        have h2 := HY.out
        rw [HC0.out] at h1
        rw [Bool.eq_iff_iff, h1, h2]
        unfold IsD
        rw [HZ.out, single_apart HORD.out]
        exact ⟨fun h => ⟨h.2.2.2, h.2.2.1⟩, fun h => ⟨rfl, rfl, h.2, h.1⟩⟩
      have hbe := HBE.out w6
      clear HB1 HB2 HQ
      go_wp2_with (go_at_call 50; refine hbe.mono ?_; rintro e w7 ⟨rfl, hb7⟩)
      go_ret
      exact ⟨rfl, bel_on hb0 (bel_on hb6' hb7)⟩
  · have h0b : (c == 0) = false := by simpa using h0
    obtain rfl : b1 = false := by
      have h1 := HB1.out
      rw [Bool.eq_false_iff]
      intro h
      exact h0 (HC.out.trans (h1.1 h).1)
    obtain rfl : b2 = false := by
      have h1 := HB2.out
      rw [Bool.eq_false_iff]
      intro h
      exact h0 (HC.out.trans (h1.1 h).1)
    have hbe := HBE.out w3
    clear HB1 HB2 HC
    go_wp2_with (go_at_call 50; refine hbe.mono ?_; rintro e w7 ⟨rfl, hb7⟩)
    go_ret
    exact ⟨rfl, bel_on hb0 (bel_on hbl3' hb7)⟩
end Go.Proofs.Yteehgcbjmdideaa
