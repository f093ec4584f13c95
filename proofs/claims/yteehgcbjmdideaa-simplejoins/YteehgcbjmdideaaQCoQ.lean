/- The document's 'Costs', with all its tables. -/
import Derived.Test.YteehgcbjmdideaaQM24
namespace Go.Proofs.Yteehgcbjmdideaa
open Go.RowKit
attribute [local go_sem ↓] Go.wp_at_zero Go.wp_at_succ

/-- what 'Costs' answers: all its tables -/
def CostsAll (w : World) (f : FstD) (ins outs : List Int) (N s0 il ol : Nat) (e : Ending) (w' : World) : Prop :=
  ∃ (c : List Int) (T tc : Nat) (g h hc : Nat → Nat), e = .returned (.slice (some ⟨T, 0, none⟩) (il + 1) tc) ∧ (∀ i, i ≤ il → w'.cell? ⟨T, i, none⟩ = some (.slice (some ⟨h i, 0, none⟩) (ol + 1) (hc i))) ∧ (∀ i, i ≤ il → ∀ o, o ≤ ol → w'.cell? ⟨h i, o, none⟩ = some (.slice (some ⟨g (i * (ol + 1) + o), 0, none⟩) N N)) ∧ (∀ q, q < (il + 1) * (ol + 1) → NumsAt w' (g q) N (segL c N q)) ∧
    c.length = totS ins outs N ∧ Ach (EdS f ins outs N) (bgS s0 (totS ins outs N)) c ∧ LeC c (bgS s0 (totS ins outs N)) ∧ Fix (EdS f ins outs N) c ∧ (∀ v, gI c v ≤ 400001000000000) ∧ Below w.heap.size w w'

def CostsTells : Prop :=
  ∀ (f : FstD) (ins outs : List Int) (N s0 G0 cap0 : Nat) (fin : Value) (aa : Option Addr) (m ac : Nat) (ia : Option Addr) (il ic : Nat) (oa : Option Addr) (ol oc : Nat) (w : World), OkW f ins outs N s0 → (∀ a ∈ f.arcs, (0 ≤ a.inp ∧ a.inp ≤ 9) ∧ (0 ≤ a.out ∧ a.out ≤ 9)) → ASlice w (.slice aa m ac) f.arcs → f.arcs.length = m → ISlice w (.slice ia il ic) ins → ins.length = il → ISlice w (.slice oa ol oc) outs → outs.length = ol → NumsAt w G0 N (begL (s0 : Int) N) →
    Calls Try.prog 52 #[.agg #[.int .i64 (N : Int), .int .i64 (s0 : Int), fin, .slice aa m ac], .slice (some ⟨G0, 0, none⟩) N cap0, .slice ia il ic, .slice oa ol oc] w fun e w' => CostsAll w f ins outs N s0 il ol e w'

set_option maxHeartbeats 4000000 in
set_option maxRecDepth 100000 in
theorem costs_tells : CostsTells := by
  intro f ins outs N s0 G0 cap0 fin aa m ac ia il ic oa ol oc w hok hlet ha hal hI hil hO hol hG0
  have HOK : Hid (OkW f ins outs N s0) := hok
  have HLET : Hid (∀ a ∈ f.arcs, (0 ≤ a.inp ∧ a.inp ≤ 9) ∧ (0 ≤ a.out ∧ a.out ≤ 9)) := hlet
  have HAL : Hid (f.arcs.length = m) := hal
  have HIL : Hid (ins.length = il) := hil
  have HOL : Hid (outs.length = ol) := hol
  have hN1 := hok.n1
  have hN2 := hok.n2
  have hi40 : il ≤ 40 := by have := hok.i40; omega
  have ho40 : ol ≤ 40 := by have := hok.o40; omega
  have hm3 : m ≤ 3000 := by have := hok.many; omega
  have HME : Hid (∀ W, Below w.heap.size w W → ASlice W (.slice aa m ac) f.arcs ∧ ISlice W (.slice ia il ic) ins ∧ ISlice W (.slice oa ol oc) outs ∧ NumsAt W G0 N (begL (s0 : Int) N)) := fun W h => ⟨ha.below h, hI.below h, hO.below h, hG0.below h⟩
  obtain ⟨i1, hi1, hy0, hy1, hy2⟩ := info_parts infoS
  obtain ⟨i2, hi2, hz0, hz1, hz2⟩ := info_parts infoSS
  have hmk := run_make_row' (P := Try.prog) 22 3 (.int .i64 0) 8 Try.underlying22 Try.info3 rfl .i64 .i64 N (by omega) (by omega)
  have hb0 := bel_up (bel_self w) (.cells #[.int .i64 (N : Int), .int .i64 (s0 : Int), fin, .slice aa m ac] 25)
  have hT0 : TB w (w.alloc (.cells #[.int .i64 (N : Int), .int .i64 (s0 : Int), fin, .slice aa m ac] 25)) N ol (s0 : Int) fin (.slice aa m ac) (fun _ => 0) (fun _ => 0) (fun _ => 0) (bgS s0 (totS ins outs N)) 0 0 (.slice none 0 0) (.slice none 0 0) :=
    ⟨cellsF_new w _ _ _ _ _, hb0, World.ownsRow_nil _ _ _ _, World.ownsRow_nil _ _ _ _, fun k hk => absurd hk (Nat.not_lt_zero _), fun q hq => by omega, fun q hq => by omega, fun k hk => absurd hk (Nat.not_lt_zero _), fun b hb => by cases hb⟩
  clear hok hlet hal hil hol ha hI hO hG0
  go_enter Try.func52, Try.ntmps52
  go_wp2
  go_loopw [9, 10] (fun t9 t10 wr => ∃ (i : Nat) (g h hc : Nat → Nat) (c : List Int), i ≤ il + 1 ∧ t10 = .int .i64 i ∧ TB w wr N ol (s0 : Int) fin (.slice aa m ac) g h hc c i 0 t9 (.slice none 0 0) ∧ GS f ins outs N s0 c (i * (ol + 1))) (fun _ t10 _ => il + 1 - (intOf t10).toNat)
  case atStart => exact ⟨0, _, _, _, _, Nat.zero_le _, rfl, hT0, by rw [Nat.zero_mul]; exact GS.start⟩
  case round =>
    clear hT0 hb0
    obtain ⟨i, g, h, hc, c, hi, rfl, hTB, hGS⟩ := hrel
    by_cases hlt : i ≤ il
    · have hii : (i : Int) ≤ il := by omega
      go_wp2
      go_loopw [11, 12] (fun t11 t12 wr => ∃ (o : Nat) (g : Nat → Nat) (c : List Int), o ≤ ol + 1 ∧ t12 = .int .i64 o ∧ TB w wr N ol (s0 : Int) fin (.slice aa m ac) g h hc c i o u9 t11 ∧ GS f ins outs N s0 c (i * (ol + 1) + o)) (fun _ t12 _ => ol + 1 - (intOf t12).toNat)
      case atStart => exact ⟨0, g, c, Nat.zero_le _, rfl, hTB, hGS⟩
      case round =>
        clear hTB hGS
        obtain ⟨o, g, c, ho, rfl, hTB, hGS⟩ := hrel
        by_cases hlo : o ≤ ol
        · have hoi : (o : Int) ≤ ol := by omega
          obtain ⟨q0, q1, q2, q3⟩ := hTB.cf
          have hu := bel_up (bel_self wr) (.cells (madeCells #[.int .i64 0] N) 3)
          have hT3 := hTB.below hu
          have hR0 := made_zero wr N
          rw [← fillL_zero (segL c N (i * (ol + 1) + o))] at hR0
          have hR9 : u9.ownBlock ≠ some wr.heap.size := fun e => by have := ownsRow_lt0 hTB.tab _ e; omega
          have hR11 : u11.ownBlock ≠ some wr.heap.size := fun e => by have := ownsRow_lt0 hTB.pl _ e; omega
          have hRg : ∀ q, q < i * (ol + 1) + o → g q ≠ wr.heap.size := fun q hq e => by have := (hTB.rows q hq).lt; omega
          have hRh : ∀ k, k < i → h k ≠ wr.heap.size := fun k hk e => by have := cell_lt (hTB.hpl k hk 0 (Nat.zero_le _)); omega
          have hRb : w.heap.size + 1 ≤ wr.heap.size := by have := cell_lt hTB.cf.1; show w.heap.size + 1 ≤ _; omega
          have HGS : Hid (GS f ins outs N s0 c (i * (ol + 1) + o)) := hGS
          have HRR : Hid (u9.ownBlock ≠ some wr.heap.size ∧ u11.ownBlock ≠ some wr.heap.size ∧ (∀ q, q < i * (ol + 1) + o → g q ≠ wr.heap.size) ∧ (∀ k, k < i → h k ≠ wr.heap.size) ∧ w.heap.size + 1 ≤ wr.heap.size) := ⟨hR9, hR11, hRg, hRh, hRb⟩
          clear hTB hGS hu hR9 hR11 hRg hRh hRb
          go_wp2
          generalize wr.alloc (.cells (madeCells #[.int .i64 0] N) 3) = W0 at *
          obtain ⟨R, hR⟩ : ∃ R, R = wr.heap.size := ⟨_, rfl⟩
          rw [← hR] at hR0 HRR ⊢
          clear hR q0 q1 q2 q3 hmk
          go_loopw [14] (fun t14 wx => ∃ k : Nat, k ≤ N ∧ t14 = .int .i64 k ∧ TB w wx N ol (s0 : Int) fin (.slice aa m ac) g h hc c i o u9 u11 ∧ NumsAt wx R N (fillL (segL c N (i * (ol + 1) + o)) N k)) (fun t14 _ => N - (intOf t14).toNat)
          case atStart => exact ⟨0, Nat.zero_le _, rfl, hT3, hR0⟩
          case round =>
            clear hT3 hR0
            obtain ⟨k, hk, rfl, hTB, hRow⟩ := hrel
            obtain ⟨q0, q1, q2, q3⟩ := hTB.cf
            by_cases hkN : k < N
            · have hki : (k : Int) < N := by omega
              have r1 := hRow.cell k hkN
              have rz := hRow.frz k
              have hval := HGS.out.fresh HOK.out hkN
              have hT1 := hTB.far (k := k) (u := .int .i64 (-1)) HRR.out.2.2.2.2 HRR.out.1 HRR.out.2.1 HRR.out.2.2.1 HRR.out.2.2.2.1
              have hRow1 := hRow.set k (-1) hkN
              have HSC : Hid ((fillL (segL c N (i * (ol + 1) + o)) N k).set k (gI (segL c N (i * (ol + 1) + o)) k) = fillL (segL c N (i * (ol + 1) + o)) N (k + 1)) := fillL_succ _ _ _ hkN
              by_cases hz : i = 0 ∧ o = 0
              · have hp : i * (ol + 1) + o = 0 := by rw [hz.1, hz.2, Nat.zero_mul]
                rw [if_pos hp] at hval
                obtain ⟨x, hx⟩ : ∃ x, x = gI (begL (s0 : Int) N) k := ⟨_, rfl⟩
                rw [← hx] at hval
                rw [hval] at HSC
                have hob : ((o : Int) == 0) = true := by rw [beq_iff_eq]; omega
                have hib : ((i : Int) == 0) = true := by rw [beq_iff_eq]; omega
                have b1 := (HME.out _ hT1.bel).2.2.2.cell k hkN
                rw [← hx] at b1
                have rz1 := hRow1.frz k
                have r2 := hRow1.cell k hkN
                have hT2 := hT1.far (k := k) (u := .int .i64 x) HRR.out.2.2.2.2 HRR.out.1 HRR.out.2.1 HRR.out.2.2.1 HRR.out.2.2.2.1
                have hRow2 := hRow1.set k x hkN
                rw [List.set_set] at hRow2
                clear hx hp hz
                go_wp2
                go_roundw
                case rel => exact ⟨k + 1, by omega, by go_num, hT2, by rw [← HSC.out]; exact hRow2⟩
                case measure => simp [intOf]; omega
              · have hp : ¬ i * (ol + 1) + o = 0 := fun e => hz (by
                  have := Nat.mul_eq_zero.1 (show i * (ol + 1) = 0 by omega)
                  omega)
                rw [if_neg hp] at hval
                rw [hval] at HSC
                by_cases hi0 : i = 0
                · have hob : ((o : Int) == 0) = false := by rw [beq_eq_false_iff_ne]; omega
                  have hib : ((i : Int) == 0) = true := by rw [beq_iff_eq]; omega
                  go_wp2
                  go_roundw
                  case rel => exact ⟨k + 1, by omega, by go_num, hT1, by rw [← HSC.out]; exact hRow1⟩
                  case measure => simp [intOf]; omega
                · have hib : ((i : Int) == 0) = false := by rw [beq_eq_false_iff_ne]; omega
                  go_wp2
                  go_roundw
                  case rel => exact ⟨k + 1, by omega, by go_num, hT1, by rw [← HSC.out]; exact hRow1⟩
                  case measure => simp [intOf]; omega
            · have hke : k = N := by omega
              subst hke
              have HPS : Hid (PSt f ins outs k s0 i o c) := by
                have h1 := HGS.out
                rw [← HOL.out] at h1
                exact h1.toP
              have hsl : (segL c k (i * (ol + 1) + o)).length = k := by
                have h1 := HPS.out.len
                unfold totS at h1
                rw [HIL.out, HOL.out] at h1
                exact segL_len h1 (place_lt hlt hlo)
              rw [fillL_all _ _ hsl] at hRow
              have hLO : loudOk f ins outs k i o c 0 := fun k' a i' o' hk' => absurd hk' (Nat.not_lt_zero _)
              go_wp2
              clear q0 q1 q2 q3
              go_loopw [15] (fun t15 wx => ∃ (j : Nat) (c : List Int), j ≤ m ∧ t15 = .int .i64 j ∧ TB w wx k ol (s0 : Int) fin (.slice aa m ac) g h hc c i o u9 u11 ∧ NumsAt wx R k (segL c k (i * (ol + 1) + o)) ∧ PSt f ins outs k s0 i o c ∧ loudOk f ins outs k i o c j) (fun t15 _ => m - (intOf t15).toNat)
              case atStart => exact ⟨0, c, Nat.zero_le _, rfl, hTB, hRow, HPS.out, hLO⟩
              case round =>
                clear hTB hRow HPS hLO hsl
                obtain ⟨j, c, hj, rfl, hTB, hRow, hPS, hLO⟩ := hrel
                have HPS : Hid (PSt f ins outs k s0 i o c) := hPS
                have HLO : Hid (loudOk f ins outs k i o c j) := hLO
                clear hPS hLO
                obtain ⟨q0, q1, q2, q3⟩ := hTB.cf
                by_cases hlj : j < m
                · have hL : L4 f ins outs k s0 fin aa m ac ia il ic oa ol oc w wr g h hc c i o R j u9 u11 := ⟨HOK.out, HLET.out, HAL.out, HIL.out, HOL.out, hN1, hN2, hi40, ho40, hm3, hlt, hlo, hlj, fun W h => ⟨(HME.out W h).1, (HME.out W h).2.1, (HME.out W h).2.2.1⟩, HRR.out, hTB, hRow, HPS.out, HLO.out⟩
                  refine loud_round (by kernel_rfl) hL ?_
                  intros
                  rename_i wx c' h15 hT hR hP hLo
                  subst h15
                  go_roundw
                  case rel => exact ⟨_, _, _, _, _, _, _, _, _, _, _, _, _, _, _, _, _, _, _, _, _, _, _, _, _, _, _, _, _, _, _, _, _, _, _, _, _, _, _, _, _, _, _, _, _, _, _, _, _, _, _, _, _, _, _, _, _, _, _, _, _, _, _, _, _, _, _, _, _, _, _, _, _, _, _, _, _, _, _, _, _, _, _, _, _, _, _, _, _, _, _, _, _, _, _, _, _, _, _, _, _, _, _, _, _, _, _, ⟨j + 1, c', by omega, rfl, hT, hR, hP, hLo⟩, rfl⟩
                  case measure => simp [intOf]; omega
                · have hjm : ¬ ((j : Int) < m) := by omega
                  have HLM : Hid (loudOk f ins outs k i o c m) := by
                    have e : j = m := by omega
                    rw [← e]
                    exact HLO.out
                  clear HLO
                  go_wp2
                  clear q0 q1 q2 q3
                  go_loopg [20] (2 * muL c + 1) (fun gk t20 wx => ∃ (b : Bool) (c : List Int), t20 = .bool b ∧ gk = 2 * muL c + (if b then 1 else 0) ∧ TB w wx k ol (s0 : Int) fin (.slice aa m ac) g h hc c i o u9 u11 ∧ NumsAt wx R k (segL c k (i * (ol + 1) + o)) ∧ PSt f ins outs k s0 i o c ∧ loudOk f ins outs k i o c m ∧ (b = false → silentOk f ins outs k i o c m))
                  case atStart => exact ⟨true, c, rfl, by simp, hTB, hRow, HPS.out, HLM.out, fun h => by cases h⟩
                  case round =>
                    clear hTB hRow HPS HLM
                    obtain ⟨b, c, rfl, hgk, hTB, hRow, hPS, hLO, hSO⟩ := hrel
                    cases b with
                    | false =>
                      have HGD : Hid (GS f ins outs k s0 c (i * (ol + 1) + o + 1)) := by
                        have h1 := hSO rfl
                        have h2 := hLO
                        rw [← HAL.out] at h1 h2
                        have h3 := hPS.done HOK.out (by have := HOL.out; omega) h2 h1
                        rw [HOL.out] at h3
                        exact h3
                      clear hgk hPS hLO hSO
                      have hTA := hTB.below (bel_up (bel_self wr) (.cells #[.slice (some ⟨R, 0, none⟩) k k] 22))
                      have hRA := hRow.below (bel_up (bel_self wr) (.cells #[.slice (some ⟨R, 0, none⟩) k k] 22))
                      have hsz := cell_lt hTB.cf.1
                      have HTB : Hid _ := hTA
                      have HRA : Hid _ := hRA
                      have hown := hTA.pl
                      clear hTB hRow hTA hRA
                      go_wp2_with (at_builtin; refine wpList_append_own_at _ rfl _ _ 70 rfl (w.heap.size + 1) 22 i1 (.slice none 0 0) 1 24 Try.underlying70 hi1 hy0 hy1 hy2 rfl (by decide) _ _ _ rfl hown ⟨wr.heap.size, 0, none⟩ 1 1 [.slice (some ⟨R, 0, none⟩) k k] rfl rfl (cells_new _ #[.slice (some ⟨R, 0, none⟩) k k] 22 wr.heap.size rfl) (one_sl _ _ _) (by unfold maxLen; omega) (by omega) (by simp; omega) ?_; intro v' w4 hown' hgrow _ hvv; have HT4 : Hid _ := HTB.out.row HRA.out HRR.out.2.2.2.2 HRR.out.1 HRR.out.2.1 hgrow hown' hvv; clear hown' hgrow hvv)
                      go_roundw
                      case rel => exact ⟨o + 1, _, c, by omega, by go_num, HT4.out, HGD.out⟩
                      case measure => simp [intOf]; omega
                    | true =>
                      have HGK : Hid (gk = 2 * muL c + 1) := hgk
                      clear hgk hSO
                      obtain ⟨q0, q1, q2, q3⟩ := hTB.cf
                      go_wp2
                      clear q0 q1 q2 q3
                      go_loopw [20, 21] (fun t20 t21 wx => ∃ (b : Bool) (l : Nat) (c' : List Int), t20 = .bool b ∧ l ≤ m ∧ t21 = .int .i64 l ∧ TB w wx k ol (s0 : Int) fin (.slice aa m ac) g h hc c' i o u9 u11 ∧ NumsAt wx R k (segL c' k (i * (ol + 1) + o)) ∧ PSt f ins outs k s0 i o c' ∧ loudOk f ins outs k i o c' m ∧ ((b = false ∧ c' = c ∧ silentOk f ins outs k i o c l) ∨ (b = true ∧ muL c' < muL c))) (fun _ t21 _ => m - (intOf t21).toNat)
                      case atStart => exact ⟨false, 0, c, rfl, Nat.zero_le _, rfl, hTB, hRow, hPS, hLO, Or.inl ⟨rfl, rfl, fun k' a hk => absurd hk (Nat.not_lt_zero _)⟩⟩
                      case round =>
                        clear hTB hRow hPS hLO
                        obtain ⟨b, l, c', rfl, hl, rfl, hTB, hRow, hPS, hLO, hor⟩ := hrel
                        have HPS : Hid (PSt f ins outs k s0 i o c') := hPS
                        have HLO : Hid (loudOk f ins outs k i o c' m) := hLO
                        have HOR : Hid ((b = false ∧ c' = c ∧ silentOk f ins outs k i o c l) ∨ (b = true ∧ muL c' < muL c)) := hor
                        clear hPS hLO hor
                        obtain ⟨q0, q1, q2, q3⟩ := hTB.cf
                        by_cases hlj : l < m
                        · have hji : (l : Int) < m := by omega
                          have hw0 : IntKind.i64.wrap 0 = 0 := wrap_in _ (by omega) (by omega)
                          obtain ⟨ab, aoff, rfl, hx⟩ := (HME.out _ hTB.bel).1.some (by omega)
                          obtain ⟨a, hak⟩ : ∃ a, a = f.arcs.getD l a0 := ⟨_, rfl⟩
                          have hjl : l < f.arcs.length := by have := HAL.out; omega
                          have hget : f.arcs[l]? = some a := by rw [hak]; simp [List.getD, hjl]
                          have hmem := List.mem_of_getElem? hget
                          obtain ⟨⟨p1, p2⟩, ⟨p3, p4⟩, p5, p6⟩ := HOK.out.arcs a hmem
                          obtain ⟨⟨l1, l2⟩, l3, l4⟩ := HLET.out a hmem
                          obtain ⟨s, hs⟩ : ∃ s : Nat, a.src = s := ⟨a.src.toNat, by omega⟩
                          obtain ⟨t, ht⟩ : ∃ t : Nat, a.dst = t := ⟨a.dst.toNat, by omega⟩
                          obtain ⟨p, hp⟩ : ∃ p, a.inp = p := ⟨_, rfl⟩
                          obtain ⟨q, hq⟩ : ∃ q, a.out = q := ⟨_, rfl⟩
                          obtain ⟨wt, hwt⟩ : ∃ wt, a.wt = wt := ⟨_, rfl⟩
                          have hsN : s < k := by omega
                          have htN : t < k := by omega
                          have hsi : (s : Int) < k := by omega
                          have hti : (t : Int) < k := by omega
                          have c0 := hx.c0 l hlj
                          have c1 := hx.c1 l hlj
                          have c2 := hx.c2 l hlj
                          have c3 := hx.c3 l hlj
                          have c4 := hx.c4 l hlj
                          rw [← hak] at c0 c1 c2 c3 c4
                          rw [hs] at c0
                          rw [hp] at c1 l1 l2
                          rw [hq] at c2 l3 l4
                          rw [ht] at c3
                          rw [hwt] at c4 p5 p6
                          have HA : Hid (f.arcs[l]? = some a ∧ a.src = s ∧ a.dst = t ∧ a.inp = p ∧ a.out = q ∧ a.wt = wt) := ⟨hget, hs, ht, hp, hq, hwt⟩
                          clear hak hmem hjl hx hs ht hp hq hwt hget p1 p2 p3 p4
                          have hT1 := hTB.below (bel_up (bel_self wr) (.cells #[.int .i64 s, .int .i64 p, .int .i64 q, .int .i64 t, .int .i64 wt] 63))
                          have hRow1 := hRow.below (bel_up (bel_self wr) (.cells #[.int .i64 s, .int .i64 p, .int .i64 q, .int .i64 t, .int .i64 wt] 63))
                          have x0 := new_cell wr #[.int .i64 s, .int .i64 p, .int .i64 q, .int .i64 t, .int .i64 wt] 63 wr.heap.size 0 (.int .i64 s) rfl rfl
                          have x1 := new_cell wr #[.int .i64 s, .int .i64 p, .int .i64 q, .int .i64 t, .int .i64 wt] 63 wr.heap.size 1 (.int .i64 p) rfl rfl
                          have x2 := new_cell wr #[.int .i64 s, .int .i64 p, .int .i64 q, .int .i64 t, .int .i64 wt] 63 wr.heap.size 2 (.int .i64 q) rfl rfl
                          have x3 := new_cell wr #[.int .i64 s, .int .i64 p, .int .i64 q, .int .i64 t, .int .i64 wt] 63 wr.heap.size 3 (.int .i64 t) rfl rfl
                          have x4 := new_cell wr #[.int .i64 s, .int .i64 p, .int .i64 q, .int .i64 t, .int .i64 wt] 63 wr.heap.size 4 (.int .i64 wt) rfl rfl
                          obtain ⟨vt, hvt⟩ : ∃ vt, vt = gI (segL c' k (i * (ol + 1) + o)) t := ⟨_, rfl⟩
                          obtain ⟨vs, hvs⟩ : ∃ vs, vs = gI (segL c' k (i * (ol + 1) + o)) s := ⟨_, rfl⟩
                          have hvsh : vs ≤ 400001000000000 := by rw [hvs, segL_at _ _ _ _ hsN]; exact HPS.out.hi HOK.out _
                          have y1 := hRow1.cell t htN
                          have y2 := hRow1.cell s hsN
                          rw [← hvt] at y1
                          rw [← hvs] at y2
                          obtain ⟨nx, hnx⟩ : ∃ nx, lessC vt (plusC vs wt) = nx := ⟨_, rfl⟩
                          have HV : Hid (vt = gI (segL c' k (i * (ol + 1) + o)) t ∧ vs = gI (segL c' k (i * (ol + 1) + o)) s ∧ lessC vt (plusC vs wt) = nx) := ⟨hvt, hvs, hnx⟩
                          have hpl := fun W => plusBig_any vs wt W (by omega) (by omega)
                          have hls := fun W => lessRef_any vt (plusC vs wt) W
                          rw [hnx] at hls
                          clear hvt hvs hnx
                          by_cases hsil : p = 0 ∧ q = 0
                          · obtain ⟨rfl, rfl⟩ := hsil
                            by_cases hn : nx = vt
                            · have hnb : (nx != vt) = false := by rw [hn]; simp
                              have HN : Hid (nx = vt) := hn
                              clear hn
                              go_wp2
                              generalize wr.alloc (.cells #[.int .i64 s, .int .i64 0, .int .i64 0, .int .i64 t, .int .i64 wt] 63) = W1 at *
                              obtain ⟨B, hB⟩ : ∃ B, B = wr.heap.size := ⟨_, rfl⟩
                              rw [← hB] at x0 x1 x2 x3 x4 ⊢
                              clear hB q0 q1 q2 q3 c0 c1 c2 c3 c4 hTB hRow
                              go_quiet (first | (go_at_call 74; refine Calls.quiet_of_same (hpl _)) | (go_at_call 27; refine Calls.quiet_of_same (hls _)))
                              go_wp2
                              go_roundw
                              case rel =>
                                obtain ⟨a1, a2, a3, a4, a5, a6⟩ := HA.out
                                refine ⟨b, l + 1, c', rfl, by omega, by go_num, hT1.below (bel_drewN (bel_self W1) _), hRow1.below (bel_drewN (bel_self W1) _), HPS.out, HLO.out, ?_⟩
                                rcases HOR.out with ⟨h1, h2, h3⟩ | h1
                                · refine Or.inl ⟨h1, h2, ?_⟩
                                  have hP := HPS.out
                                  obtain ⟨v1, v2, v3⟩ := HV.out
                                  subst h2
                                  exact silent_keep HOK.out hP h3 a1 HOL.out ⟨a4, a5⟩ a2 a3 (by rw [a6, ← v1, ← v2, v3]; exact HN.out)
                                · exact Or.inr h1
                              case measure => simp [intOf]; omega
                            · have hnb : (nx != vt) = true := by rw [bne_iff_ne]; exact hn
                              have HN : Hid (¬ nx = vt) := hn
                              clear hn
                              go_wp2
                              generalize wr.alloc (.cells #[.int .i64 s, .int .i64 0, .int .i64 0, .int .i64 t, .int .i64 wt] 63) = W1 at *
                              obtain ⟨B, hB⟩ : ∃ B, B = wr.heap.size := ⟨_, rfl⟩
                              rw [← hB] at x0 x1 x2 x3 x4 ⊢
                              clear hB q0 q1 q2 q3 c0 c1 c2 c3 c4 hTB hRow
                              go_quiet (first | (go_at_call 74; refine Calls.quiet_of_same (hpl _)) | (go_at_call 27; refine Calls.quiet_of_same (hls _)))
                              obtain ⟨W2, hW2⟩ : ∃ W2, W2 = W1.drewN nq := ⟨_, rfl⟩
                              have hB2 : Below W1.heap.size W1 W2 := by rw [hW2]; exact bel_drewN (bel_self W1) nq
                              rw [← hW2]
                              clear hW2 nq
                              have hT2 := hT1.below hB2
                              have hRow2 := hRow1.below hB2
                              have yz := hRow2.frz t
                              have z1 := bel_c hB2 x1
                              have z2 := bel_c hB2 x2
                              have z3 := bel_c hB2 x3
                              have z4 := bel_c hB2 y1
                              clear hT1 hRow1 x0 x1 x2 x3 x4 y1 y2
                              go_wp2
                              go_roundw
                              case rel =>
                                obtain ⟨a1, a2, a3, a4, a5, a6⟩ := HA.out
                                obtain ⟨v1, v2, v3⟩ := HV.out
                                obtain ⟨c2, n1, n2, n3, n4, n5⟩ := silent_go HOK.out (by have := HIL.out; omega) (by have := HOL.out; omega) HPS.out HLO.out a1 HOL.out ⟨a4, a5⟩ a2 a3 (by rw [a6, ← v1, ← v2, v3]; exact HN.out)
                                rw [a6, ← v1, ← v2, v3] at n4
                                refine ⟨true, l + 1, c2, rfl, by omega, by go_num, (hT2.other n5).far HRR.out.2.2.2.2 HRR.out.1 HRR.out.2.1 HRR.out.2.2.1 HRR.out.2.2.2.1, ?_, n1, n2, Or.inr ⟨rfl, ?_⟩⟩
                                · rw [n4]
                                  exact hRow2.set t _ htN
                                · rcases HOR.out with ⟨_, h2, _⟩ | ⟨_, h2⟩
                                  · rw [h2] at n3; exact n3
                                  · omega
                              case measure => simp [intOf]; omega
                          · have hpqw : IntKind.i64.wrap (p + q) = p + q := wrap_in _ (by omega) (by omega)
                            have hpqb : (p + q == 0) = false := by rw [beq_eq_false_iff_ne]; omega
                            have HNS : Hid (¬ (p = 0 ∧ q = 0)) := hsil
                            clear hsil
                            go_wp2
                            generalize wr.alloc (.cells #[.int .i64 s, .int .i64 p, .int .i64 q, .int .i64 t, .int .i64 wt] 63) = W1 at *
                            obtain ⟨B, hB⟩ : ∃ B, B = wr.heap.size := ⟨_, rfl⟩
                            rw [← hB] at x0 x1 x2 x3 x4 ⊢
                            clear hB q0 q1 q2 q3 c0 c1 c2 c3 c4 hTB hRow
                            go_quiet (first | (go_at_call 74; refine Calls.quiet_of_same (hpl _)) | (go_at_call 27; refine Calls.quiet_of_same (hls _)))
                            go_wp2
                            go_roundw
                            case rel =>
                              obtain ⟨a1, a2, a3, a4, a5, a6⟩ := HA.out
                              refine ⟨b, l + 1, c', rfl, by omega, by go_num, hT1.below (bel_drewN (bel_self W1) _), hRow1.below (bel_drewN (bel_self W1) _), HPS.out, HLO.out, ?_⟩
                              rcases HOR.out with ⟨h1, h2, h3⟩ | h1
                              · exact Or.inl ⟨h1, h2, h3.skip a1 (by rw [a4, a5]; exact HNS.out)⟩
                              · exact Or.inr h1
                            case measure => simp [intOf]; omega
                        · have hlm : ¬ ((l : Int) < m) := by omega
                          have HLL : Hid (l = m) := by
                            have : l = m := by omega
                            exact this
                          go_wp2
                          go_roundg (2 * muL c' + (if b then 1 else 0))
                          case measure =>
                            rw [HGK.out]
                            rcases HOR.out with ⟨h1, h2, _⟩ | ⟨h1, h2⟩
                            · rw [h1, h2]; simp
                            · rw [h1]; simp; omega
                          case rel =>
                            refine ⟨b, c', rfl, rfl, hTB, hRow, HPS.out, HLO.out, fun hb => ?_⟩
                            rcases HOR.out with ⟨_, h2, h3⟩ | ⟨h1, _⟩
                            · rw [h2, ← HLL.out]; exact h3
                            · rw [hb] at h1; cases h1
        · have hoe : o = ol + 1 := by omega
          subst hoe
          obtain ⟨H, cap, rfl⟩ := Go.Joins.ownsRow_form hTB.pl (by omega)
          have hTA := hTB.below (bel_up (bel_self wr) (.cells #[.slice (some ⟨H, 0, none⟩) (ol + 1) cap] 70))
          have hsz := cell_lt hTB.cf.1
          have HTB : Hid _ := hTA
          have HGS : Hid (GS f ins outs N s0 c (i * (ol + 1) + (ol + 1))) := hGS
          have hown := hTA.tab
          have hnl : ¬ ((ol : Int) + 1 ≤ ol) := by omega
          clear hTB hGS hTA
          go_wp2_with (at_builtin; refine wpList_append_own_at _ rfl _ _ 67 rfl (w.heap.size + 1) 70 i2 (.slice none 0 0) 1 24 Try.underlying67 hi2 hz0 hz1 hz2 rfl (by decide) _ _ _ rfl hown ⟨wr.heap.size, 0, none⟩ 1 1 [.slice (some ⟨H, 0, none⟩) (ol + 1) cap] rfl rfl (cells_new _ #[.slice (some ⟨H, 0, none⟩) (ol + 1) cap] 70 wr.heap.size rfl) (one_sl _ _ _) (by unfold maxLen; omega) (by omega) (by simp; omega) ?_; intro v' w4 hown' hgrow _ hvv; have HT4 : Hid _ := HTB.out.plane hgrow hown' hvv; clear hown' hgrow hvv)
          go_roundw
          case rel => exact ⟨i + 1, _, _, _, _, by omega, by go_num, HT4.out, by have := HGS.out; rw [Nat.add_mul, Nat.one_mul]; exact this⟩
          case measure => simp [intOf]; omega
    · have hie : i = il + 1 := by omega
      subst hie
      go_wp2
      obtain ⟨T, tc, rfl⟩ := Go.Joins.ownsRow_form hTB.tab (by omega)
      go_ret
      have HO := HOL.out
      have HI := HIL.out
      obtain ⟨y, hinv⟩ := hGS.inv
      refine ⟨c, T, tc, g, h, hc, rfl, fun i hi => ?_, fun i hi o ho => hTB.hpl i (by omega) o ho, fun q hq => hTB.rows q (by omega), hinv.len.trans (bgS_len _ _), hinv.ach, hinv.le, ?_, fun v => hinv.topK (by rw [bgS_len]; exact HOK.out.tot) v, hTB.bel⟩
      · rw [hTB.tab.cellAt i (by omega)]
        simp [show i < il + 1 by omega]
      · refine FixTo.all hGS.fix (fun e he => ?_)
        have := (HOK.out.edges e he).1
        unfold totS at this
        rw [HI, HO] at this
        exact this

/-- the last row alone -/
theorem costs_tell : CostsTell := by
  intro f ins outs N s0 G0 cap0 fin aa m ac ia il ic oa ol oc w hok hlet ha hal hI hil hO hol hG0
  refine (costs_tells f ins outs N s0 G0 cap0 fin aa m ac ia il ic oa ol oc w hok hlet ha hal hI hil hO hol hG0).mono ?_
  rintro e w' ⟨c, T, tc, g, h, hc, he, h1, h2, h3, h4, h5, h6, h7, h8, hb⟩
  refine ⟨c, T, tc, h il, hc il, g (il * (ol + 1) + ol), N, he, h1 il (Nat.le_refl _), h2 il (Nat.le_refl _) ol (Nat.le_refl _), ?_, h4, h5, h6, h7, h8, hb⟩
  rw [hil, hol]
  exact h3 _ (by rw [Nat.add_mul, Nat.one_mul]; omega)
end Go.Proofs.Yteehgcbjmdideaa
