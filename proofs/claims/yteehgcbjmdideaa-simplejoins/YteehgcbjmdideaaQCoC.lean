/- One round of the loop of 'Costs' over arcs that say something: cases. -/
import Derived.Test.YteehgcbjmdideaaQM22
namespace Go.Proofs.Yteehgcbjmdideaa
open Go.RowKit
attribute [local go_sem ↓] Go.wp_at_zero Go.wp_at_succ

set_option maxHeartbeats 4000000 in
set_option maxRecDepth 100000 in
theorem loud_11 {f : FstD} {ins outs : List Int} {k s0 : Nat} {fin : Value} {aa : Option Addr} {m ac : Nat} {ia : Option Addr} {il ic : Nat} {oa : Option Addr} {ol oc : Nat} {w wr : World} {g h hc : Nat → Nat} {c : List Int} {i o R j : Nat} {u0 u1 u5 u6 u7 u8 u9 u11 u14 u16 u17 u18 u19 u20 u21 u22 u23 u24 u25 u26 u27 u28 u29 u30 u31 u32 u33 u34 u35 u36 u37 u38 u39 u40 u41 u42 u43 u44 u45 u46 u47 u48 u49 u50 u51 u52 u53 u54 u55 u56 u57 u58 u59 u60 u61 u62 u63 u64 u65 u66 u67 u68 u69 u70 u71 u72 u73 u74 u75 u76 u77 u78 u79 u80 u81 u82 u83 u84 u85 u86 u87 u88 u89 u90 u91 u92 u93 u94 u95 u96 u97 u98 u99 u100 u101 u102 u103 u104 u105 u106 u107 u108 u109 u110 u111 u112 u113 u114 u115 u116 u117 u118 u119 u120 u121 u122 u123 u124 u125 u126 u127 u128 u129 u130 u131 u132 u133 u134 u135 u136 u137 u138 u139 u140 u141 u142 u143 u144 u145 u146 u147 u148 u149 u150 u151 u152 u153 u154 u155 u156 u157 u158 u159 u160 u161 u162 u163 u164 u165 u166 u167 u168 u169 u170 u171 u172 u173 u174 u175 u176 u177 u178 u179 u180 u181 u182 u183 u184 u185 u186 u187 u188 u189 u190 u191 u192 u193 u194 u195 u196 u197 u198 u199 u200 u201 u202 u203 u204 u205 u206 u207 u208 u209 u210 u211 u212 u213 u214 u215 u216 u217 u218 : Value}
    {cd : Code} {K0 : Act → World → Prop} {Q2 : Exit → Act → World → Prop} (hcd : cd = (loopsOf (Try.f52.body.getD .skip)).getD 3 .skip) (hL4 : L4 f ins outs k s0 fin aa m ac ia il ic oa ol oc w wr g h hc c i o R j u9 u11)
    (HK : Hid (∀ {t15 x16 x17 x18 x19 x61 x62 x63 x64 x65 x66 x67 x68 x69 x70 x71 x72 x73 x74 x75 x76 x77 x78 x79 x80 x81 x82 x83 x84 x85 x86 x87 x88 x89 x90 x91 x92 x93 x94 x95 x96 x97 x98 x99 x100 x101 x102 x103 x104 x105 x106 x107 x108 x109 x110 x111 x112 x113 x114 x115 x116 x117 x118 x119 x120 x121 x122 x123 x124 x125 x126 x127 x128 x129 x130 x131 x132 x133 x134 x135 x136 x137 x138 x139 x140 x141 x142 x143 x144 x145 x146 x147 x148 x149 x150 x151 x152 x153 x154 x155 x156 x157 x158 x159 x160 x161 x162 : Value} {wx : World} {c' : List Int}, t15 = .int .i64 ((j + 1 : Nat) : Int) → TB w wx k ol (s0 : Int) fin (.slice aa m ac) g h hc c' i o u9 u11 → NumsAt wx R k (segL c' k (i * (ol + 1) + o)) → PSt f ins outs k s0 i o c' → loudOk f ins outs k i o c' (j + 1) → K0 { tmps := #[u0, u1, .slice ia il ic, .slice oa ol oc, .pointer (some ⟨w.heap.size, 0, none⟩), u5, u6, u7, u8, u9, .int .i64 i, u11, .int .i64 o, .slice (some ⟨R, 0, none⟩) k k, u14, t15, x16, x17, x18, x19, u20, u21, u22, u23, u24, u25, u26, u27, u28, u29, u30, u31, u32, u33, u34, u35, u36, u37, u38, u39, u40, u41, u42, u43, u44, u45, u46, u47, u48, u49, u50, u51, u52, u53, u54, u55, u56, u57, u58, u59, u60, x61, x62, x63, x64, x65, x66, x67, x68, x69, x70, x71, x72, x73, x74, x75, x76, x77, x78, x79, x80, x81, x82, x83, x84, x85, x86, x87, x88, x89, x90, x91, x92, x93, x94, x95, x96, x97, x98, x99, x100, x101, x102, x103, x104, x105, x106, x107, x108, x109, x110, x111, x112, x113, x114, x115, x116, x117, x118, x119, x120, x121, x122, x123, x124, x125, x126, x127, x128, x129, x130, x131, x132, x133, x134, x135, x136, x137, x138, x139, x140, x141, x142, x143, x144, x145, x146, x147, x148, x149, x150, x151, x152, x153, x154, x155, x156, x157, x158, x159, x160, x161, x162, u163, u164, u165, u166, u167, u168, u169, u170, u171, u172, u173, u174, u175, u176, u177, u178, u179, u180, u181, u182, u183, u184, u185, u186, u187, u188, u189, u190, u191, u192, u193, u194, u195, u196, u197, u198, u199, u200, u201, u202, u203, u204, u205, u206, u207, u208, u209, u210, u211, u212, u213, u214, u215, u216, u217, u218], defers := [] } wx)) (hcase : (f.arcs.getD j a0).inp ≠ 0 ∧ i ≠ 0 ∧ ins.getD (i - 1) 0 ≠ (f.arcs.getD j a0).inp ∧ (f.arcs.getD j a0).out = 0) : cd.wp Try.prog (Exit.then K0 Q2) { tmps := #[u0, u1, .slice ia il ic, .slice oa ol oc, .pointer (some ⟨w.heap.size, 0, none⟩), u5, u6, u7, u8, u9, .int .i64 i, u11, .int .i64 o, .slice (some ⟨R, 0, none⟩) k k, u14, .int .i64 j, u16, u17, u18, u19, u20, u21, u22, u23, u24, u25, u26, u27, u28, u29, u30, u31, u32, u33, u34, u35, u36, u37, u38, u39, u40, u41, u42, u43, u44, u45, u46, u47, u48, u49, u50, u51, u52, u53, u54, u55, u56, u57, u58, u59, u60, u61, u62, u63, u64, u65, u66, u67, u68, u69, u70, u71, u72, u73, u74, u75, u76, u77, u78, u79, u80, u81, u82, u83, u84, u85, u86, u87, u88, u89, u90, u91, u92, u93, u94, u95, u96, u97, u98, u99, u100, u101, u102, u103, u104, u105, u106, u107, u108, u109, u110, u111, u112, u113, u114, u115, u116, u117, u118, u119, u120, u121, u122, u123, u124, u125, u126, u127, u128, u129, u130, u131, u132, u133, u134, u135, u136, u137, u138, u139, u140, u141, u142, u143, u144, u145, u146, u147, u148, u149, u150, u151, u152, u153, u154, u155, u156, u157, u158, u159, u160, u161, u162, u163, u164, u165, u166, u167, u168, u169, u170, u171, u172, u173, u174, u175, u176, u177, u178, u179, u180, u181, u182, u183, u184, u185, u186, u187, u188, u189, u190, u191, u192, u193, u194, u195, u196, u197, u198, u199, u200, u201, u202, u203, u204, u205, u206, u207, u208, u209, u210, u211, u212, u213, u214, u215, u216, u217, u218], defers := [] } wr := by
  obtain ⟨hok, hlet, hal, hil, hol, hN1, hN2, hi40, ho40, hm3, hlt, hlo, hlj, hme, hrr, hTB, hRow, hps, hlok⟩ := hL4
  have HOK : Hid (OkW f ins outs k s0) := hok
  have HAL : Hid (f.arcs.length = m) := hal
  have HIL : Hid (ins.length = il) := hil
  have HOL : Hid (outs.length = ol) := hol
  have HRR : Hid (u9.ownBlock ≠ some R ∧ u11.ownBlock ≠ some R ∧ (∀ q, q < i * (ol + 1) + o → g q ≠ R) ∧ (∀ k, k < i → h k ≠ R) ∧ w.heap.size + 1 ≤ R) := hrr
  have HPS : Hid (PSt f ins outs k s0 i o c) := hps
  have HLO : Hid (loudOk f ins outs k i o c j) := hlok
  have HME : Hid (∀ W, Below w.heap.size w W → ASlice W (.slice aa m ac) f.arcs ∧ ISlice W (.slice ia il ic) ins ∧ ISlice W (.slice oa ol oc) outs) := hme
  have HLET : Hid (∀ a ∈ f.arcs, (0 ≤ a.inp ∧ a.inp ≤ 9) ∧ (0 ≤ a.out ∧ a.out ≤ 9)) := hlet
  clear hok hal hil hol hrr hps hlok hme hlet
  simp only [Try.f52, loopsOf, List.append_eq, List.nil_append, List.cons_append, List.append_nil, List.getD_cons_succ, List.getD_cons_zero, Option.getD_some] at hcd
  subst hcd
  obtain ⟨q0, q1, q2, q3⟩ := hTB.cf
  have hii : (i : Int) ≤ il := by omega
  have hoi : (o : Int) ≤ ol := by omega
  have hji : (j : Int) < m := by omega
  have hw0 : IntKind.i64.wrap 0 = 0 := wrap_in _ (by omega) (by omega)
  have hinn : ¬ ((i : Int) < 0) := by omega
  have honn : ¬ ((o : Int) < 0) := by omega
  obtain ⟨ab, aoff, rfl, hx⟩ := (HME.out _ hTB.bel).1.some (by omega)
  have hjl : j < f.arcs.length := by have := HAL.out; omega
  obtain ⟨a, hak⟩ : ∃ a, a = f.arcs.getD j a0 := ⟨_, rfl⟩
  have hget : f.arcs[j]? = some a := by rw [hak]; simp [List.getD, hjl]
  rw [← hak] at hcase
  have hmem := List.mem_of_getElem? hget
  obtain ⟨⟨p1, p2⟩, ⟨p3, p4⟩, p5, p6⟩ := HOK.out.arcs a hmem
  obtain ⟨⟨l1, l2⟩, l3, l4⟩ := HLET.out a hmem
  obtain ⟨s, hs⟩ : ∃ s : Nat, a.src = s := ⟨a.src.toNat, by omega⟩
  obtain ⟨t, ht⟩ : ∃ t : Nat, a.dst = t := ⟨a.dst.toNat, by omega⟩
  obtain ⟨p, hp⟩ : ∃ p, a.inp = p := ⟨_, rfl⟩
  obtain ⟨q, hq⟩ : ∃ q, a.out = q := ⟨_, rfl⟩
  obtain ⟨wt, hwt⟩ : ∃ wt, a.wt = wt := ⟨_, rfl⟩
  rw [hp, hq] at hcase
  have hsN : s < k := by omega
  have htN : t < k := by omega
  have hsi : (s : Int) < k := by omega
  have hti : (t : Int) < k := by omega
  have c0 := hx.c0 j hlj
  have c1 := hx.c1 j hlj
  have c2 := hx.c2 j hlj
  have c3 := hx.c3 j hlj
  have c4 := hx.c4 j hlj
  rw [← hak] at c0 c1 c2 c3 c4
  rw [hs] at c0
  rw [hp] at c1 l1 l2
  rw [hq] at c2 l3 l4
  rw [ht] at c3
  rw [hwt] at c4 p5 p6
  have HA : Hid (f.arcs[j]? = some a ∧ a.src = s ∧ a.dst = t ∧ a.inp = p ∧ a.out = q ∧ a.wt = wt) := ⟨hget, hs, ht, hp, hq, hwt⟩
  clear hak hmem hjl hx hs ht hp hq hwt hget p1 p2 p3 p4
  have hT1 := hTB.below (bel_up (bel_self wr) (.cells #[.int .i64 s, .int .i64 p, .int .i64 q, .int .i64 t, .int .i64 wt] 63))
  have hRow1 := hRow.below (bel_up (bel_self wr) (.cells #[.int .i64 s, .int .i64 p, .int .i64 q, .int .i64 t, .int .i64 wt] 63))
  have x0 := new_cell wr #[.int .i64 s, .int .i64 p, .int .i64 q, .int .i64 t, .int .i64 wt] 63 wr.heap.size 0 (.int .i64 s) rfl rfl
  have x1 := new_cell wr #[.int .i64 s, .int .i64 p, .int .i64 q, .int .i64 t, .int .i64 wt] 63 wr.heap.size 1 (.int .i64 p) rfl rfl
  have x2 := new_cell wr #[.int .i64 s, .int .i64 p, .int .i64 q, .int .i64 t, .int .i64 wt] 63 wr.heap.size 2 (.int .i64 q) rfl rfl
  have x3 := new_cell wr #[.int .i64 s, .int .i64 p, .int .i64 q, .int .i64 t, .int .i64 wt] 63 wr.heap.size 3 (.int .i64 t) rfl rfl
  have x4 := new_cell wr #[.int .i64 s, .int .i64 p, .int .i64 q, .int .i64 t, .int .i64 wt] 63 wr.heap.size 4 (.int .i64 wt) rfl rfl
  obtain ⟨hp0, hi0, hvic, hq0⟩ := hcase
  subst hq0
  have hpp : 0 < p := by omega
  have hpb : (p == 0) = false := by simpa using hp0
  have hpw : IntKind.i64.wrap p = p := wrap_in _ (by omega) (by omega)
  have HP : Hid (p ≠ 0) := hp0
  clear hp0
  obtain ⟨x, hx⟩ : ∃ x : Nat, i = x + 1 := ⟨i - 1, by omega⟩
  have hii1 : (i : Int) - 1 = x := by omega
  have hxl : (x : Int) < il := by omega
  have hxi : (x : Int) < i := by omega
  have hxw : IntKind.i64.wrap (x : Int) = x := wrap_in _ (by omega) (by omega)
  have hxnn : ¬ ((x : Int) < 0) := by omega
  have HX : Hid (i = x + 1) := hx
  obtain ⟨ib, io, rfl, hI⟩ := (HME.out _ hT1.bel).2.1.some (by omega)
  have d1 := hI.cell x (by omega)
  clear hI
  obtain ⟨vi, hvi⟩ : ∃ vi, vi = ins.getD x 0 := ⟨_, rfl⟩
  rw [← hvi] at d1
  have HVI : Hid (vi = ins.getD x 0) := hvi
  rw [show i - 1 = x by omega, ← hvi] at hvic
  clear hvi
  have hvb2 : (vi == p) = false := by simpa using hvic
  have hvn2 : (vi != p) = true := by rw [bne_iff_ne]; exact hvic
  have HVP : Hid (¬ vi = p) := hvic
  clear hvic
  clear hx hi0
  go_wp2
  generalize wr.alloc (.cells #[.int .i64 s, .int .i64 p, .int .i64 0, .int .i64 t, .int .i64 wt] 63) = W1 at *
  obtain ⟨B, hB⟩ : ∃ B, B = wr.heap.size := ⟨_, rfl⟩
  rw [← hB] at x0 x1 x2 x3 x4 ⊢
  clear hB q0 q1 q2 q3 c0 c1 c2 c3 c4 hTB hRow
  refine wp_region_quiet_lit (by kernel_rfl) (by kernel_rfl) ?_
  repeat (first | ((with_unfolding_none refine quiet_yes ?hy (fun K hK => ?_)); (case hy => exact rfl); go_simp; (with_unfolding_none refine hK _ ?_); clear hK K) | ((with_unfolding_none refine quiet_no ?hy (fun K hK => ?_)); (case hy => exact rfl); go_simp; (with_unfolding_none refine hK _ ?_); clear hK K))
  refine wpQuiet_nil ?_
  intro _ hw'
  obtain ⟨nq, hw''⟩ := hw'
  subst hw''
  go_wp2
  obtain ⟨a1, a2, a3, a4, a5, a6⟩ := HA.out
  exact HK.out (by go_num) (hT1.below (bel_drewN (bel_self W1) _)) (hRow1.below (bel_drewN (bel_self W1) _)) HPS.out (HLO.out.skip a1 (no_ix (by rw [a4]; exact HP.out) HX.out (by rw [a4, ← HVI.out]; exact HVP.out)))

set_option maxHeartbeats 4000000 in
set_option maxRecDepth 100000 in
theorem loud_12 {f : FstD} {ins outs : List Int} {k s0 : Nat} {fin : Value} {aa : Option Addr} {m ac : Nat} {ia : Option Addr} {il ic : Nat} {oa : Option Addr} {ol oc : Nat} {w wr : World} {g h hc : Nat → Nat} {c : List Int} {i o R j : Nat} {u0 u1 u5 u6 u7 u8 u9 u11 u14 u16 u17 u18 u19 u20 u21 u22 u23 u24 u25 u26 u27 u28 u29 u30 u31 u32 u33 u34 u35 u36 u37 u38 u39 u40 u41 u42 u43 u44 u45 u46 u47 u48 u49 u50 u51 u52 u53 u54 u55 u56 u57 u58 u59 u60 u61 u62 u63 u64 u65 u66 u67 u68 u69 u70 u71 u72 u73 u74 u75 u76 u77 u78 u79 u80 u81 u82 u83 u84 u85 u86 u87 u88 u89 u90 u91 u92 u93 u94 u95 u96 u97 u98 u99 u100 u101 u102 u103 u104 u105 u106 u107 u108 u109 u110 u111 u112 u113 u114 u115 u116 u117 u118 u119 u120 u121 u122 u123 u124 u125 u126 u127 u128 u129 u130 u131 u132 u133 u134 u135 u136 u137 u138 u139 u140 u141 u142 u143 u144 u145 u146 u147 u148 u149 u150 u151 u152 u153 u154 u155 u156 u157 u158 u159 u160 u161 u162 u163 u164 u165 u166 u167 u168 u169 u170 u171 u172 u173 u174 u175 u176 u177 u178 u179 u180 u181 u182 u183 u184 u185 u186 u187 u188 u189 u190 u191 u192 u193 u194 u195 u196 u197 u198 u199 u200 u201 u202 u203 u204 u205 u206 u207 u208 u209 u210 u211 u212 u213 u214 u215 u216 u217 u218 : Value}
    {cd : Code} {K0 : Act → World → Prop} {Q2 : Exit → Act → World → Prop} (hcd : cd = (loopsOf (Try.f52.body.getD .skip)).getD 3 .skip) (hL4 : L4 f ins outs k s0 fin aa m ac ia il ic oa ol oc w wr g h hc c i o R j u9 u11)
    (HK : Hid (∀ {t15 x16 x17 x18 x19 x61 x62 x63 x64 x65 x66 x67 x68 x69 x70 x71 x72 x73 x74 x75 x76 x77 x78 x79 x80 x81 x82 x83 x84 x85 x86 x87 x88 x89 x90 x91 x92 x93 x94 x95 x96 x97 x98 x99 x100 x101 x102 x103 x104 x105 x106 x107 x108 x109 x110 x111 x112 x113 x114 x115 x116 x117 x118 x119 x120 x121 x122 x123 x124 x125 x126 x127 x128 x129 x130 x131 x132 x133 x134 x135 x136 x137 x138 x139 x140 x141 x142 x143 x144 x145 x146 x147 x148 x149 x150 x151 x152 x153 x154 x155 x156 x157 x158 x159 x160 x161 x162 : Value} {wx : World} {c' : List Int}, t15 = .int .i64 ((j + 1 : Nat) : Int) → TB w wx k ol (s0 : Int) fin (.slice aa m ac) g h hc c' i o u9 u11 → NumsAt wx R k (segL c' k (i * (ol + 1) + o)) → PSt f ins outs k s0 i o c' → loudOk f ins outs k i o c' (j + 1) → K0 { tmps := #[u0, u1, .slice ia il ic, .slice oa ol oc, .pointer (some ⟨w.heap.size, 0, none⟩), u5, u6, u7, u8, u9, .int .i64 i, u11, .int .i64 o, .slice (some ⟨R, 0, none⟩) k k, u14, t15, x16, x17, x18, x19, u20, u21, u22, u23, u24, u25, u26, u27, u28, u29, u30, u31, u32, u33, u34, u35, u36, u37, u38, u39, u40, u41, u42, u43, u44, u45, u46, u47, u48, u49, u50, u51, u52, u53, u54, u55, u56, u57, u58, u59, u60, x61, x62, x63, x64, x65, x66, x67, x68, x69, x70, x71, x72, x73, x74, x75, x76, x77, x78, x79, x80, x81, x82, x83, x84, x85, x86, x87, x88, x89, x90, x91, x92, x93, x94, x95, x96, x97, x98, x99, x100, x101, x102, x103, x104, x105, x106, x107, x108, x109, x110, x111, x112, x113, x114, x115, x116, x117, x118, x119, x120, x121, x122, x123, x124, x125, x126, x127, x128, x129, x130, x131, x132, x133, x134, x135, x136, x137, x138, x139, x140, x141, x142, x143, x144, x145, x146, x147, x148, x149, x150, x151, x152, x153, x154, x155, x156, x157, x158, x159, x160, x161, x162, u163, u164, u165, u166, u167, u168, u169, u170, u171, u172, u173, u174, u175, u176, u177, u178, u179, u180, u181, u182, u183, u184, u185, u186, u187, u188, u189, u190, u191, u192, u193, u194, u195, u196, u197, u198, u199, u200, u201, u202, u203, u204, u205, u206, u207, u208, u209, u210, u211, u212, u213, u214, u215, u216, u217, u218], defers := [] } wx)) (hcase : (f.arcs.getD j a0).inp ≠ 0 ∧ i ≠ 0 ∧ ins.getD (i - 1) 0 ≠ (f.arcs.getD j a0).inp ∧ (f.arcs.getD j a0).out ≠ 0 ∧ o = 0) : cd.wp Try.prog (Exit.then K0 Q2) { tmps := #[u0, u1, .slice ia il ic, .slice oa ol oc, .pointer (some ⟨w.heap.size, 0, none⟩), u5, u6, u7, u8, u9, .int .i64 i, u11, .int .i64 o, .slice (some ⟨R, 0, none⟩) k k, u14, .int .i64 j, u16, u17, u18, u19, u20, u21, u22, u23, u24, u25, u26, u27, u28, u29, u30, u31, u32, u33, u34, u35, u36, u37, u38, u39, u40, u41, u42, u43, u44, u45, u46, u47, u48, u49, u50, u51, u52, u53, u54, u55, u56, u57, u58, u59, u60, u61, u62, u63, u64, u65, u66, u67, u68, u69, u70, u71, u72, u73, u74, u75, u76, u77, u78, u79, u80, u81, u82, u83, u84, u85, u86, u87, u88, u89, u90, u91, u92, u93, u94, u95, u96, u97, u98, u99, u100, u101, u102, u103, u104, u105, u106, u107, u108, u109, u110, u111, u112, u113, u114, u115, u116, u117, u118, u119, u120, u121, u122, u123, u124, u125, u126, u127, u128, u129, u130, u131, u132, u133, u134, u135, u136, u137, u138, u139, u140, u141, u142, u143, u144, u145, u146, u147, u148, u149, u150, u151, u152, u153, u154, u155, u156, u157, u158, u159, u160, u161, u162, u163, u164, u165, u166, u167, u168, u169, u170, u171, u172, u173, u174, u175, u176, u177, u178, u179, u180, u181, u182, u183, u184, u185, u186, u187, u188, u189, u190, u191, u192, u193, u194, u195, u196, u197, u198, u199, u200, u201, u202, u203, u204, u205, u206, u207, u208, u209, u210, u211, u212, u213, u214, u215, u216, u217, u218], defers := [] } wr := by
  obtain ⟨hok, hlet, hal, hil, hol, hN1, hN2, hi40, ho40, hm3, hlt, hlo, hlj, hme, hrr, hTB, hRow, hps, hlok⟩ := hL4
  have HOK : Hid (OkW f ins outs k s0) := hok
  have HAL : Hid (f.arcs.length = m) := hal
  have HIL : Hid (ins.length = il) := hil
  have HOL : Hid (outs.length = ol) := hol
  have HRR : Hid (u9.ownBlock ≠ some R ∧ u11.ownBlock ≠ some R ∧ (∀ q, q < i * (ol + 1) + o → g q ≠ R) ∧ (∀ k, k < i → h k ≠ R) ∧ w.heap.size + 1 ≤ R) := hrr
  have HPS : Hid (PSt f ins outs k s0 i o c) := hps
  have HLO : Hid (loudOk f ins outs k i o c j) := hlok
  have HME : Hid (∀ W, Below w.heap.size w W → ASlice W (.slice aa m ac) f.arcs ∧ ISlice W (.slice ia il ic) ins ∧ ISlice W (.slice oa ol oc) outs) := hme
  have HLET : Hid (∀ a ∈ f.arcs, (0 ≤ a.inp ∧ a.inp ≤ 9) ∧ (0 ≤ a.out ∧ a.out ≤ 9)) := hlet
  clear hok hal hil hol hrr hps hlok hme hlet
  simp only [Try.f52, loopsOf, List.append_eq, List.nil_append, List.cons_append, List.append_nil, List.getD_cons_succ, List.getD_cons_zero, Option.getD_some] at hcd
  subst hcd
  obtain ⟨q0, q1, q2, q3⟩ := hTB.cf
  have hii : (i : Int) ≤ il := by omega
  have hoi : (o : Int) ≤ ol := by omega
  have hji : (j : Int) < m := by omega
  have hw0 : IntKind.i64.wrap 0 = 0 := wrap_in _ (by omega) (by omega)
  have hinn : ¬ ((i : Int) < 0) := by omega
  have honn : ¬ ((o : Int) < 0) := by omega
  obtain ⟨ab, aoff, rfl, hx⟩ := (HME.out _ hTB.bel).1.some (by omega)
  have hjl : j < f.arcs.length := by have := HAL.out; omega
  obtain ⟨a, hak⟩ : ∃ a, a = f.arcs.getD j a0 := ⟨_, rfl⟩
  have hget : f.arcs[j]? = some a := by rw [hak]; simp [List.getD, hjl]
  rw [← hak] at hcase
  have hmem := List.mem_of_getElem? hget
  obtain ⟨⟨p1, p2⟩, ⟨p3, p4⟩, p5, p6⟩ := HOK.out.arcs a hmem
  obtain ⟨⟨l1, l2⟩, l3, l4⟩ := HLET.out a hmem
  obtain ⟨s, hs⟩ : ∃ s : Nat, a.src = s := ⟨a.src.toNat, by omega⟩
  obtain ⟨t, ht⟩ : ∃ t : Nat, a.dst = t := ⟨a.dst.toNat, by omega⟩
  obtain ⟨p, hp⟩ : ∃ p, a.inp = p := ⟨_, rfl⟩
  obtain ⟨q, hq⟩ : ∃ q, a.out = q := ⟨_, rfl⟩
  obtain ⟨wt, hwt⟩ : ∃ wt, a.wt = wt := ⟨_, rfl⟩
  rw [hp, hq] at hcase
  have hsN : s < k := by omega
  have htN : t < k := by omega
  have hsi : (s : Int) < k := by omega
  have hti : (t : Int) < k := by omega
  have c0 := hx.c0 j hlj
  have c1 := hx.c1 j hlj
  have c2 := hx.c2 j hlj
  have c3 := hx.c3 j hlj
  have c4 := hx.c4 j hlj
  rw [← hak] at c0 c1 c2 c3 c4
  rw [hs] at c0
  rw [hp] at c1 l1 l2
  rw [hq] at c2 l3 l4
  rw [ht] at c3
  rw [hwt] at c4 p5 p6
  have HA : Hid (f.arcs[j]? = some a ∧ a.src = s ∧ a.dst = t ∧ a.inp = p ∧ a.out = q ∧ a.wt = wt) := ⟨hget, hs, ht, hp, hq, hwt⟩
  clear hak hmem hjl hx hs ht hp hq hwt hget p1 p2 p3 p4
  have hT1 := hTB.below (bel_up (bel_self wr) (.cells #[.int .i64 s, .int .i64 p, .int .i64 q, .int .i64 t, .int .i64 wt] 63))
  have hRow1 := hRow.below (bel_up (bel_self wr) (.cells #[.int .i64 s, .int .i64 p, .int .i64 q, .int .i64 t, .int .i64 wt] 63))
  have x0 := new_cell wr #[.int .i64 s, .int .i64 p, .int .i64 q, .int .i64 t, .int .i64 wt] 63 wr.heap.size 0 (.int .i64 s) rfl rfl
  have x1 := new_cell wr #[.int .i64 s, .int .i64 p, .int .i64 q, .int .i64 t, .int .i64 wt] 63 wr.heap.size 1 (.int .i64 p) rfl rfl
  have x2 := new_cell wr #[.int .i64 s, .int .i64 p, .int .i64 q, .int .i64 t, .int .i64 wt] 63 wr.heap.size 2 (.int .i64 q) rfl rfl
  have x3 := new_cell wr #[.int .i64 s, .int .i64 p, .int .i64 q, .int .i64 t, .int .i64 wt] 63 wr.heap.size 3 (.int .i64 t) rfl rfl
  have x4 := new_cell wr #[.int .i64 s, .int .i64 p, .int .i64 q, .int .i64 t, .int .i64 wt] 63 wr.heap.size 4 (.int .i64 wt) rfl rfl
  obtain ⟨hp0, hi0, hvic, hq0, ho0⟩ := hcase
  have hpp : 0 < p := by omega
  have hpb : (p == 0) = false := by simpa using hp0
  have hpw : IntKind.i64.wrap p = p := wrap_in _ (by omega) (by omega)
  have HP : Hid (p ≠ 0) := hp0
  clear hp0
  obtain ⟨x, hx⟩ : ∃ x : Nat, i = x + 1 := ⟨i - 1, by omega⟩
  have hii1 : (i : Int) - 1 = x := by omega
  have hxl : (x : Int) < il := by omega
  have hxi : (x : Int) < i := by omega
  have hxw : IntKind.i64.wrap (x : Int) = x := wrap_in _ (by omega) (by omega)
  have hxnn : ¬ ((x : Int) < 0) := by omega
  have HX : Hid (i = x + 1) := hx
  obtain ⟨ib, io, rfl, hI⟩ := (HME.out _ hT1.bel).2.1.some (by omega)
  have d1 := hI.cell x (by omega)
  clear hI
  obtain ⟨vi, hvi⟩ : ∃ vi, vi = ins.getD x 0 := ⟨_, rfl⟩
  rw [← hvi] at d1
  have HVI : Hid (vi = ins.getD x 0) := hvi
  rw [show i - 1 = x by omega, ← hvi] at hvic
  clear hvi
  have hvb2 : (vi == p) = false := by simpa using hvic
  have hvn2 : (vi != p) = true := by rw [bne_iff_ne]; exact hvic
  have HVP : Hid (¬ vi = p) := hvic
  clear hvic
  have hqp : 0 < q := by omega
  have hqb : (q == 0) = false := by simpa using hq0
  have hqw : IntKind.i64.wrap q = q := wrap_in _ (by omega) (by omega)
  have HQ : Hid (q ≠ 0) := hq0
  clear hq0
  have hpqw : IntKind.i64.wrap (p + q) = p + q := wrap_in _ (by omega) (by omega)
  have hpqb : (p + q == 0) = false := by rw [beq_eq_false_iff_ne]; omega
  have hoi1 : (o : Int) - 1 = -1 := by omega
  have hm1 : IntKind.i64.wrap (-1) = -1 := wrap_in _ (by omega) (by omega)
  have HO0 : Hid (o = 0) := ho0
  clear ho0
  clear hx hi0
  go_wp2
  generalize wr.alloc (.cells #[.int .i64 s, .int .i64 p, .int .i64 q, .int .i64 t, .int .i64 wt] 63) = W1 at *
  obtain ⟨B, hB⟩ : ∃ B, B = wr.heap.size := ⟨_, rfl⟩
  rw [← hB] at x0 x1 x2 x3 x4 ⊢
  clear hB q0 q1 q2 q3 c0 c1 c2 c3 c4 hTB hRow
  refine wp_region_quiet_lit (by kernel_rfl) (by kernel_rfl) ?_
  repeat (first | ((with_unfolding_none refine quiet_yes ?hy (fun K hK => ?_)); (case hy => exact rfl); go_simp; (with_unfolding_none refine hK _ ?_); clear hK K) | ((with_unfolding_none refine quiet_no ?hy (fun K hK => ?_)); (case hy => exact rfl); go_simp; (with_unfolding_none refine hK _ ?_); clear hK K))
  refine wpQuiet_nil ?_
  intro _ hw'
  obtain ⟨nq, hw''⟩ := hw'
  subst hw''
  go_wp2
  obtain ⟨a1, a2, a3, a4, a5, a6⟩ := HA.out
  exact HK.out (by go_num) (hT1.below (bel_drewN (bel_self W1) _)) (hRow1.below (bel_drewN (bel_self W1) _)) HPS.out (HLO.out.skip a1 (no_ix (by rw [a4]; exact HP.out) HX.out (by rw [a4, ← HVI.out]; exact HVP.out)))

set_option maxHeartbeats 4000000 in
set_option maxRecDepth 100000 in
theorem loud_13 {f : FstD} {ins outs : List Int} {k s0 : Nat} {fin : Value} {aa : Option Addr} {m ac : Nat} {ia : Option Addr} {il ic : Nat} {oa : Option Addr} {ol oc : Nat} {w wr : World} {g h hc : Nat → Nat} {c : List Int} {i o R j : Nat} {u0 u1 u5 u6 u7 u8 u9 u11 u14 u16 u17 u18 u19 u20 u21 u22 u23 u24 u25 u26 u27 u28 u29 u30 u31 u32 u33 u34 u35 u36 u37 u38 u39 u40 u41 u42 u43 u44 u45 u46 u47 u48 u49 u50 u51 u52 u53 u54 u55 u56 u57 u58 u59 u60 u61 u62 u63 u64 u65 u66 u67 u68 u69 u70 u71 u72 u73 u74 u75 u76 u77 u78 u79 u80 u81 u82 u83 u84 u85 u86 u87 u88 u89 u90 u91 u92 u93 u94 u95 u96 u97 u98 u99 u100 u101 u102 u103 u104 u105 u106 u107 u108 u109 u110 u111 u112 u113 u114 u115 u116 u117 u118 u119 u120 u121 u122 u123 u124 u125 u126 u127 u128 u129 u130 u131 u132 u133 u134 u135 u136 u137 u138 u139 u140 u141 u142 u143 u144 u145 u146 u147 u148 u149 u150 u151 u152 u153 u154 u155 u156 u157 u158 u159 u160 u161 u162 u163 u164 u165 u166 u167 u168 u169 u170 u171 u172 u173 u174 u175 u176 u177 u178 u179 u180 u181 u182 u183 u184 u185 u186 u187 u188 u189 u190 u191 u192 u193 u194 u195 u196 u197 u198 u199 u200 u201 u202 u203 u204 u205 u206 u207 u208 u209 u210 u211 u212 u213 u214 u215 u216 u217 u218 : Value}
    {cd : Code} {K0 : Act → World → Prop} {Q2 : Exit → Act → World → Prop} (hcd : cd = (loopsOf (Try.f52.body.getD .skip)).getD 3 .skip) (hL4 : L4 f ins outs k s0 fin aa m ac ia il ic oa ol oc w wr g h hc c i o R j u9 u11)
    (HK : Hid (∀ {t15 x16 x17 x18 x19 x61 x62 x63 x64 x65 x66 x67 x68 x69 x70 x71 x72 x73 x74 x75 x76 x77 x78 x79 x80 x81 x82 x83 x84 x85 x86 x87 x88 x89 x90 x91 x92 x93 x94 x95 x96 x97 x98 x99 x100 x101 x102 x103 x104 x105 x106 x107 x108 x109 x110 x111 x112 x113 x114 x115 x116 x117 x118 x119 x120 x121 x122 x123 x124 x125 x126 x127 x128 x129 x130 x131 x132 x133 x134 x135 x136 x137 x138 x139 x140 x141 x142 x143 x144 x145 x146 x147 x148 x149 x150 x151 x152 x153 x154 x155 x156 x157 x158 x159 x160 x161 x162 : Value} {wx : World} {c' : List Int}, t15 = .int .i64 ((j + 1 : Nat) : Int) → TB w wx k ol (s0 : Int) fin (.slice aa m ac) g h hc c' i o u9 u11 → NumsAt wx R k (segL c' k (i * (ol + 1) + o)) → PSt f ins outs k s0 i o c' → loudOk f ins outs k i o c' (j + 1) → K0 { tmps := #[u0, u1, .slice ia il ic, .slice oa ol oc, .pointer (some ⟨w.heap.size, 0, none⟩), u5, u6, u7, u8, u9, .int .i64 i, u11, .int .i64 o, .slice (some ⟨R, 0, none⟩) k k, u14, t15, x16, x17, x18, x19, u20, u21, u22, u23, u24, u25, u26, u27, u28, u29, u30, u31, u32, u33, u34, u35, u36, u37, u38, u39, u40, u41, u42, u43, u44, u45, u46, u47, u48, u49, u50, u51, u52, u53, u54, u55, u56, u57, u58, u59, u60, x61, x62, x63, x64, x65, x66, x67, x68, x69, x70, x71, x72, x73, x74, x75, x76, x77, x78, x79, x80, x81, x82, x83, x84, x85, x86, x87, x88, x89, x90, x91, x92, x93, x94, x95, x96, x97, x98, x99, x100, x101, x102, x103, x104, x105, x106, x107, x108, x109, x110, x111, x112, x113, x114, x115, x116, x117, x118, x119, x120, x121, x122, x123, x124, x125, x126, x127, x128, x129, x130, x131, x132, x133, x134, x135, x136, x137, x138, x139, x140, x141, x142, x143, x144, x145, x146, x147, x148, x149, x150, x151, x152, x153, x154, x155, x156, x157, x158, x159, x160, x161, x162, u163, u164, u165, u166, u167, u168, u169, u170, u171, u172, u173, u174, u175, u176, u177, u178, u179, u180, u181, u182, u183, u184, u185, u186, u187, u188, u189, u190, u191, u192, u193, u194, u195, u196, u197, u198, u199, u200, u201, u202, u203, u204, u205, u206, u207, u208, u209, u210, u211, u212, u213, u214, u215, u216, u217, u218], defers := [] } wx)) (hcase : (f.arcs.getD j a0).inp ≠ 0 ∧ i ≠ 0 ∧ ins.getD (i - 1) 0 ≠ (f.arcs.getD j a0).inp ∧ (f.arcs.getD j a0).out ≠ 0 ∧ o ≠ 0) : cd.wp Try.prog (Exit.then K0 Q2) { tmps := #[u0, u1, .slice ia il ic, .slice oa ol oc, .pointer (some ⟨w.heap.size, 0, none⟩), u5, u6, u7, u8, u9, .int .i64 i, u11, .int .i64 o, .slice (some ⟨R, 0, none⟩) k k, u14, .int .i64 j, u16, u17, u18, u19, u20, u21, u22, u23, u24, u25, u26, u27, u28, u29, u30, u31, u32, u33, u34, u35, u36, u37, u38, u39, u40, u41, u42, u43, u44, u45, u46, u47, u48, u49, u50, u51, u52, u53, u54, u55, u56, u57, u58, u59, u60, u61, u62, u63, u64, u65, u66, u67, u68, u69, u70, u71, u72, u73, u74, u75, u76, u77, u78, u79, u80, u81, u82, u83, u84, u85, u86, u87, u88, u89, u90, u91, u92, u93, u94, u95, u96, u97, u98, u99, u100, u101, u102, u103, u104, u105, u106, u107, u108, u109, u110, u111, u112, u113, u114, u115, u116, u117, u118, u119, u120, u121, u122, u123, u124, u125, u126, u127, u128, u129, u130, u131, u132, u133, u134, u135, u136, u137, u138, u139, u140, u141, u142, u143, u144, u145, u146, u147, u148, u149, u150, u151, u152, u153, u154, u155, u156, u157, u158, u159, u160, u161, u162, u163, u164, u165, u166, u167, u168, u169, u170, u171, u172, u173, u174, u175, u176, u177, u178, u179, u180, u181, u182, u183, u184, u185, u186, u187, u188, u189, u190, u191, u192, u193, u194, u195, u196, u197, u198, u199, u200, u201, u202, u203, u204, u205, u206, u207, u208, u209, u210, u211, u212, u213, u214, u215, u216, u217, u218], defers := [] } wr := by
  obtain ⟨hok, hlet, hal, hil, hol, hN1, hN2, hi40, ho40, hm3, hlt, hlo, hlj, hme, hrr, hTB, hRow, hps, hlok⟩ := hL4
  have HOK : Hid (OkW f ins outs k s0) := hok
  have HAL : Hid (f.arcs.length = m) := hal
  have HIL : Hid (ins.length = il) := hil
  have HOL : Hid (outs.length = ol) := hol
  have HRR : Hid (u9.ownBlock ≠ some R ∧ u11.ownBlock ≠ some R ∧ (∀ q, q < i * (ol + 1) + o → g q ≠ R) ∧ (∀ k, k < i → h k ≠ R) ∧ w.heap.size + 1 ≤ R) := hrr
  have HPS : Hid (PSt f ins outs k s0 i o c) := hps
  have HLO : Hid (loudOk f ins outs k i o c j) := hlok
  have HME : Hid (∀ W, Below w.heap.size w W → ASlice W (.slice aa m ac) f.arcs ∧ ISlice W (.slice ia il ic) ins ∧ ISlice W (.slice oa ol oc) outs) := hme
  have HLET : Hid (∀ a ∈ f.arcs, (0 ≤ a.inp ∧ a.inp ≤ 9) ∧ (0 ≤ a.out ∧ a.out ≤ 9)) := hlet
  clear hok hal hil hol hrr hps hlok hme hlet
  simp only [Try.f52, loopsOf, List.append_eq, List.nil_append, List.cons_append, List.append_nil, List.getD_cons_succ, List.getD_cons_zero, Option.getD_some] at hcd
  subst hcd
  obtain ⟨q0, q1, q2, q3⟩ := hTB.cf
  have hii : (i : Int) ≤ il := by omega
  have hoi : (o : Int) ≤ ol := by omega
  have hji : (j : Int) < m := by omega
  have hw0 : IntKind.i64.wrap 0 = 0 := wrap_in _ (by omega) (by omega)
  have hinn : ¬ ((i : Int) < 0) := by omega
  have honn : ¬ ((o : Int) < 0) := by omega
  obtain ⟨ab, aoff, rfl, hx⟩ := (HME.out _ hTB.bel).1.some (by omega)
  have hjl : j < f.arcs.length := by have := HAL.out; omega
  obtain ⟨a, hak⟩ : ∃ a, a = f.arcs.getD j a0 := ⟨_, rfl⟩
  have hget : f.arcs[j]? = some a := by rw [hak]; simp [List.getD, hjl]
  rw [← hak] at hcase
  have hmem := List.mem_of_getElem? hget
  obtain ⟨⟨p1, p2⟩, ⟨p3, p4⟩, p5, p6⟩ := HOK.out.arcs a hmem
  obtain ⟨⟨l1, l2⟩, l3, l4⟩ := HLET.out a hmem
  obtain ⟨s, hs⟩ : ∃ s : Nat, a.src = s := ⟨a.src.toNat, by omega⟩
  obtain ⟨t, ht⟩ : ∃ t : Nat, a.dst = t := ⟨a.dst.toNat, by omega⟩
  obtain ⟨p, hp⟩ : ∃ p, a.inp = p := ⟨_, rfl⟩
  obtain ⟨q, hq⟩ : ∃ q, a.out = q := ⟨_, rfl⟩
  obtain ⟨wt, hwt⟩ : ∃ wt, a.wt = wt := ⟨_, rfl⟩
  rw [hp, hq] at hcase
  have hsN : s < k := by omega
  have htN : t < k := by omega
  have hsi : (s : Int) < k := by omega
  have hti : (t : Int) < k := by omega
  have c0 := hx.c0 j hlj
  have c1 := hx.c1 j hlj
  have c2 := hx.c2 j hlj
  have c3 := hx.c3 j hlj
  have c4 := hx.c4 j hlj
  rw [← hak] at c0 c1 c2 c3 c4
  rw [hs] at c0
  rw [hp] at c1 l1 l2
  rw [hq] at c2 l3 l4
  rw [ht] at c3
  rw [hwt] at c4 p5 p6
  have HA : Hid (f.arcs[j]? = some a ∧ a.src = s ∧ a.dst = t ∧ a.inp = p ∧ a.out = q ∧ a.wt = wt) := ⟨hget, hs, ht, hp, hq, hwt⟩
  clear hak hmem hjl hx hs ht hp hq hwt hget p1 p2 p3 p4
  have hT1 := hTB.below (bel_up (bel_self wr) (.cells #[.int .i64 s, .int .i64 p, .int .i64 q, .int .i64 t, .int .i64 wt] 63))
  have hRow1 := hRow.below (bel_up (bel_self wr) (.cells #[.int .i64 s, .int .i64 p, .int .i64 q, .int .i64 t, .int .i64 wt] 63))
  have x0 := new_cell wr #[.int .i64 s, .int .i64 p, .int .i64 q, .int .i64 t, .int .i64 wt] 63 wr.heap.size 0 (.int .i64 s) rfl rfl
  have x1 := new_cell wr #[.int .i64 s, .int .i64 p, .int .i64 q, .int .i64 t, .int .i64 wt] 63 wr.heap.size 1 (.int .i64 p) rfl rfl
  have x2 := new_cell wr #[.int .i64 s, .int .i64 p, .int .i64 q, .int .i64 t, .int .i64 wt] 63 wr.heap.size 2 (.int .i64 q) rfl rfl
  have x3 := new_cell wr #[.int .i64 s, .int .i64 p, .int .i64 q, .int .i64 t, .int .i64 wt] 63 wr.heap.size 3 (.int .i64 t) rfl rfl
  have x4 := new_cell wr #[.int .i64 s, .int .i64 p, .int .i64 q, .int .i64 t, .int .i64 wt] 63 wr.heap.size 4 (.int .i64 wt) rfl rfl
  obtain ⟨hp0, hi0, hvic, hq0, ho0⟩ := hcase
  have hpp : 0 < p := by omega
  have hpb : (p == 0) = false := by simpa using hp0
  have hpw : IntKind.i64.wrap p = p := wrap_in _ (by omega) (by omega)
  have HP : Hid (p ≠ 0) := hp0
  clear hp0
  obtain ⟨x, hx⟩ : ∃ x : Nat, i = x + 1 := ⟨i - 1, by omega⟩
  have hii1 : (i : Int) - 1 = x := by omega
  have hxl : (x : Int) < il := by omega
  have hxi : (x : Int) < i := by omega
  have hxw : IntKind.i64.wrap (x : Int) = x := wrap_in _ (by omega) (by omega)
  have hxnn : ¬ ((x : Int) < 0) := by omega
  have HX : Hid (i = x + 1) := hx
  obtain ⟨ib, io, rfl, hI⟩ := (HME.out _ hT1.bel).2.1.some (by omega)
  have d1 := hI.cell x (by omega)
  clear hI
  obtain ⟨vi, hvi⟩ : ∃ vi, vi = ins.getD x 0 := ⟨_, rfl⟩
  rw [← hvi] at d1
  have HVI : Hid (vi = ins.getD x 0) := hvi
  rw [show i - 1 = x by omega, ← hvi] at hvic
  clear hvi
  have hvb2 : (vi == p) = false := by simpa using hvic
  have hvn2 : (vi != p) = true := by rw [bne_iff_ne]; exact hvic
  have HVP : Hid (¬ vi = p) := hvic
  clear hvic
  have hqp : 0 < q := by omega
  have hqb : (q == 0) = false := by simpa using hq0
  have hqw : IntKind.i64.wrap q = q := wrap_in _ (by omega) (by omega)
  have HQ : Hid (q ≠ 0) := hq0
  clear hq0
  have hpqw : IntKind.i64.wrap (p + q) = p + q := wrap_in _ (by omega) (by omega)
  have hpqb : (p + q == 0) = false := by rw [beq_eq_false_iff_ne]; omega
  obtain ⟨y, hy⟩ : ∃ y : Nat, o = y + 1 := ⟨o - 1, by omega⟩
  have hoi1 : (o : Int) - 1 = y := by omega
  have hyl : (y : Int) < ol := by omega
  have hyw : IntKind.i64.wrap (y : Int) = y := wrap_in _ (by omega) (by omega)
  have hynn : ¬ ((y : Int) < 0) := by omega
  have HY : Hid (o = y + 1) := hy
  clear hx hi0 hy ho0
  go_wp2
  generalize wr.alloc (.cells #[.int .i64 s, .int .i64 p, .int .i64 q, .int .i64 t, .int .i64 wt] 63) = W1 at *
  obtain ⟨B, hB⟩ : ∃ B, B = wr.heap.size := ⟨_, rfl⟩
  rw [← hB] at x0 x1 x2 x3 x4 ⊢
  clear hB q0 q1 q2 q3 c0 c1 c2 c3 c4 hTB hRow
  refine wp_region_quiet_lit (by kernel_rfl) (by kernel_rfl) ?_
  repeat (first | ((with_unfolding_none refine quiet_yes ?hy (fun K hK => ?_)); (case hy => exact rfl); go_simp; (with_unfolding_none refine hK _ ?_); clear hK K) | ((with_unfolding_none refine quiet_no ?hy (fun K hK => ?_)); (case hy => exact rfl); go_simp; (with_unfolding_none refine hK _ ?_); clear hK K))
  refine wpQuiet_nil ?_
  intro _ hw'
  obtain ⟨nq, hw''⟩ := hw'
  subst hw''
  go_wp2
  obtain ⟨a1, a2, a3, a4, a5, a6⟩ := HA.out
  exact HK.out (by go_num) (hT1.below (bel_drewN (bel_self W1) _)) (hRow1.below (bel_drewN (bel_self W1) _)) HPS.out (HLO.out.skip a1 (no_ix (by rw [a4]; exact HP.out) HX.out (by rw [a4, ← HVI.out]; exact HVP.out)))
end Go.Proofs.Yteehgcbjmdideaa
