/- Loops of 'ComposedOf': both go together. (Made by wip/gen/cpl.py.) -/
import Derived.Test.YteehgcbjmdideaaQCpN
namespace Go.Proofs.Yteehgcbjmdideaa
open Go.RowKit
attribute [local go_sem ↓] Go.wp_at_zero Go.wp_at_succ

theorem fit_no1 {l : List Int} {o : Nat} {x : Int} (h0 : x ≠ 0) (h : l.length ≤ o) : fitB l o x = false := by
  unfold fitB
  simp [h0]
  omega
theorem fit_no2 {l : List Int} {o : Nat} {x : Int} (h0 : x ≠ 0) (h : l.getD o 0 ≠ x) : fitB l o x = false := by
  unfold fitB
  simp only [Bool.or_eq_false_iff, beq_eq_false_iff_ne, ne_eq, h0, not_false_eq_true, true_and, Bool.and_eq_false_iff]
  exact Or.inr h

set_option maxHeartbeats 4000000 in
set_option maxRecDepth 100000 in
theorem loop7 {f g : FstD} {ins outs : List Int} {N M s0 t0 : Nat} {fi fj : Value} {aa : Option Addr} {m ac : Nat} {ca : Option Addr} {mc cc : Nat} {ia : Option Addr} {il ic : Nat} {oa : Option Addr} {ol oc Bf Bg Bo Bs Bc C T : Nat} {w0 : World} {i o x q H k : Nat} {c0 c : List Int} {ch : Bool} {R : Prop} {W : World} {u0 u1 u3 u6 u8 u10 u12 u18 u21 u23 u24 u25 u26 u27 u28 u29 u30 u31 u32 u33 u34 u35 u36 u37 u38 u39 u40 u41 u42 u43 u44 u45 u46 u47 u48 u49 u50 u51 u52 u53 u54 u55 u56 u57 u58 u59 u60 u61 u62 u63 u64 u65 u66 u67 u68 u69 u70 u71 u72 u73 u74 u75 u76 u77 u78 u79 u80 u81 u82 u83 u84 u85 u86 u87 u88 u89 u90 u91 u92 u93 u94 u95 u96 u97 u98 u99 u100 u101 u102 u103 u104 u105 u106 u107 u108 u109 u110 u111 u112 u113 u114 u115 u116 u117 u118 u119 u120 u121 u122 u123 u124 u125 u126 u127 u128 u129 u130 u131 u132 u133 u134 u135 u136 u137 u138 u139 u140 u141 u142 u143 u144 u145 u146 u147 u148 u149 u150 u151 u152 u153 u154 u155 u156 u157 u158 u159 u160 u161 u162 u163 u164 u165 u166 u167 u168 u169 u170 u171 u172 u173 u174 u175 u176 u177 u178 u179 u180 u181 u182 u183 u184 u185 u186 u187 u188 u189 u190 u191 u192 u193 u194 u195 u196 u197 u198 u199 u200 u201 u202 u203 u204 u205 u206 u207 u208 u209 u210 u211 u212 u213 u214 u215 u216 u217 u218 u219 u220 u221 u222 u223 u224 u225 u226 u227 u228 u229 u230 u231 u232 u233 u234 u235 u236 u237 u238 u239 u240 u241 u242 u243 u244 u245 u246 u247 u248 u249 u250 u251 u252 u253 u254 u255 u256 u257 u258 u259 u260 u261 u262 u263 u264 u265 u266 u267 u268 u269 u270 u271 u272 u273 u274 u275 u276 u277 u278 u279 u280 u281 u282 u283 u284 u285 u286 u287 u288 u289 u290 u291 u292 u293 u294 u295 u296 u297 u298 u299 u300 u301 u302 u303 u304 u305 u306 u307 u308 u309 u310 u311 u312 u313 u314 : Value} {cd : Code} {Q : Exit → Act → World → Prop} {a : ArcD}
    (hcd : cd = (loopsOf (Try.f35.body.getD .skip)).getD 6 .skip) (hX : CX f g ins outs N M s0 t0 fi fj aa m ac ca mc cc ia il ic oa ol oc Bf Bg Bo Bs Bc C T w0) (hi : i ≤ il) (ho : o ≤ ol) (hak : f.arcs[k]? = some a) (hfit : fitB ins i a.inp = true) (hx : x = usedBy i a.inp)
    (hS : SX w0 C H W c ch) (hq : W.heap[q]? = some (.cells #[.int .i64 a.src, .int .i64 a.inp, .int .i64 a.out, .int .i64 a.dst, .int .i64 a.wt] 63 (0, 0))) (hqw : w0.heap.size ≤ q) (hqH : q ≠ H) (hR : RI (EC f g N M ins outs) (bgC N M s0 t0 ins outs) c0 c ch R)
    (HK : Hid (∀ {x22 x23 x24 x140 x141 x142 x143 x144 x145 x146 x147 x148 x149 x150 x151 x152 x153 x154 x155 x156 x157 x158 x159 x160 x161 x162 x163 x164 x165 x166 x167 x168 x169 x170 x171 x172 x173 x174 x175 x176 x177 x178 x179 x180 x181 x182 x183 x184 x185 x186 x187 x188 x189 x190 x191 x192 x193 x194 x195 x196 x197 x198 x199 x200 x201 x202 x203 x204 x205 x206 x207 x208 x209 x210 : Value} {W' : World} {c' : List Int} {ch' : Bool}, SX w0 C H W' c' ch' → BK W W' C H → RI (EC f g N M ins outs) (bgC N M s0 t0 ins outs) c0 c' ch' (R ∧ (0 < a.out → ∀ d ∈ g.arcs, d.inp = a.out → fitB outs o d.out = true → Rx c0 (edgeC N M outs.length i o (a.src, d.src) (togS a d)))) → Q (.exit 12) { tmps := #[u0, u1, .slice ia il ic, u3, .pointer (some ⟨Bf, 0, none⟩), .pointer (some ⟨Bg, 0, none⟩), u6, .pointer (some ⟨Bo, 0, none⟩), u8, .pointer (some ⟨Bs, 0, none⟩), u10, .pointer (some ⟨Bc, 0, none⟩), u12, .func (.func 80) #[] #[.pointer (some ⟨Bo, 0, none⟩), .pointer (some ⟨Bs, 0, none⟩), .pointer (some ⟨Bg, 0, none⟩)], .pointer (some ⟨H, 0, none⟩), .func (.func 81) #[] #[.pointer (some ⟨Bc, 0, none⟩), .pointer (some ⟨H, 0, none⟩)], .int .i64 (i : Int), .int .i64 (o : Int), u18, .pointer (some ⟨q, 0, none⟩), .int .i64 (x : Int), u21, x22, x23, x24, u25, u26, u27, u28, u29, u30, u31, u32, u33, u34, u35, u36, u37, u38, u39, u40, u41, u42, u43, u44, u45, u46, u47, u48, u49, u50, u51, u52, u53, u54, u55, u56, u57, u58, u59, u60, u61, u62, u63, u64, u65, u66, u67, u68, u69, u70, u71, u72, u73, u74, u75, u76, u77, u78, u79, u80, u81, u82, u83, u84, u85, u86, u87, u88, u89, u90, u91, u92, u93, u94, u95, u96, u97, u98, u99, u100, u101, u102, u103, u104, u105, u106, u107, u108, u109, u110, u111, u112, u113, u114, u115, u116, u117, u118, u119, u120, u121, u122, u123, u124, u125, u126, u127, u128, u129, u130, u131, u132, u133, u134, u135, u136, u137, u138, u139, x140, x141, x142, x143, x144, x145, x146, x147, x148, x149, x150, x151, x152, x153, x154, x155, x156, x157, x158, x159, x160, x161, x162, x163, x164, x165, x166, x167, x168, x169, x170, x171, x172, x173, x174, x175, x176, x177, x178, x179, x180, x181, x182, x183, x184, x185, x186, x187, x188, x189, x190, x191, x192, x193, x194, x195, x196, x197, x198, x199, x200, x201, x202, x203, x204, x205, x206, x207, x208, x209, x210, u211, u212, u213, u214, u215, u216, u217, u218, u219, u220, u221, u222, u223, u224, u225, u226, u227, u228, u229, u230, u231, u232, u233, u234, u235, u236, u237, u238, u239, u240, u241, u242, u243, u244, u245, u246, u247, u248, u249, u250, u251, u252, u253, u254, u255, u256, u257, u258, u259, u260, u261, u262, u263, u264, u265, u266, u267, u268, u269, u270, u271, u272, u273, u274, u275, u276, u277, u278, u279, u280, u281, u282, u283, u284, u285, u286, u287, u288, u289, u290, u291, u292, u293, u294, u295, u296, u297, u298, u299, u300, u301, u302, u303, u304, u305, u306, u307, u308, u309, u310, u311, u312, u313, u314], defers := [] } W')) :
    (Code.loop cd).wp Try.prog Q { tmps := #[u0, u1, .slice ia il ic, u3, .pointer (some ⟨Bf, 0, none⟩), .pointer (some ⟨Bg, 0, none⟩), u6, .pointer (some ⟨Bo, 0, none⟩), u8, .pointer (some ⟨Bs, 0, none⟩), u10, .pointer (some ⟨Bc, 0, none⟩), u12, .func (.func 80) #[] #[.pointer (some ⟨Bo, 0, none⟩), .pointer (some ⟨Bs, 0, none⟩), .pointer (some ⟨Bg, 0, none⟩)], .pointer (some ⟨H, 0, none⟩), .func (.func 81) #[] #[.pointer (some ⟨Bc, 0, none⟩), .pointer (some ⟨H, 0, none⟩)], .int .i64 (i : Int), .int .i64 (o : Int), u18, .pointer (some ⟨q, 0, none⟩), .int .i64 (x : Int), u21, .int .i64 0, u23, u24, u25, u26, u27, u28, u29, u30, u31, u32, u33, u34, u35, u36, u37, u38, u39, u40, u41, u42, u43, u44, u45, u46, u47, u48, u49, u50, u51, u52, u53, u54, u55, u56, u57, u58, u59, u60, u61, u62, u63, u64, u65, u66, u67, u68, u69, u70, u71, u72, u73, u74, u75, u76, u77, u78, u79, u80, u81, u82, u83, u84, u85, u86, u87, u88, u89, u90, u91, u92, u93, u94, u95, u96, u97, u98, u99, u100, u101, u102, u103, u104, u105, u106, u107, u108, u109, u110, u111, u112, u113, u114, u115, u116, u117, u118, u119, u120, u121, u122, u123, u124, u125, u126, u127, u128, u129, u130, u131, u132, u133, u134, u135, u136, u137, u138, u139, u140, u141, u142, u143, u144, u145, u146, u147, u148, u149, u150, u151, u152, u153, u154, u155, u156, u157, u158, u159, u160, u161, u162, u163, u164, u165, u166, u167, u168, u169, u170, u171, u172, u173, u174, u175, u176, u177, u178, u179, u180, u181, u182, u183, u184, u185, u186, u187, u188, u189, u190, u191, u192, u193, u194, u195, u196, u197, u198, u199, u200, u201, u202, u203, u204, u205, u206, u207, u208, u209, u210, u211, u212, u213, u214, u215, u216, u217, u218, u219, u220, u221, u222, u223, u224, u225, u226, u227, u228, u229, u230, u231, u232, u233, u234, u235, u236, u237, u238, u239, u240, u241, u242, u243, u244, u245, u246, u247, u248, u249, u250, u251, u252, u253, u254, u255, u256, u257, u258, u259, u260, u261, u262, u263, u264, u265, u266, u267, u268, u269, u270, u271, u272, u273, u274, u275, u276, u277, u278, u279, u280, u281, u282, u283, u284, u285, u286, u287, u288, u289, u290, u291, u292, u293, u294, u295, u296, u297, u298, u299, u300, u301, u302, u303, u304, u305, u306, u307, u308, u309, u310, u311, u312, u313, u314], defers := [] } W := by
  simp only [Try.f35, loopsOf, List.append_eq, List.nil_append, List.cons_append, List.append_nil, List.getD_cons_zero, List.getD_cons_succ, Option.getD_some] at hcd
  subst hcd
  dsimp only
  obtain ⟨n1, _, hn1, _, _, _, _, hnm⟩ := hX.kf.nums
  have hnN : n1 = N := by have := hX.hN; omega
  rw [hnN] at hnm
  obtain ⟨⟨p1, p2⟩, ⟨p3, p4⟩, ⟨p5, p6⟩, ⟨p7, p8⟩, p9, p10⟩ := hnm a (List.mem_of_getElem? hak)
  obtain ⟨n2, _, hn2, _, _, _, _, hnm2⟩ := hX.kg.nums
  have hnM : n2 = M := by have := hX.hM; omega
  rw [hnM] at hnm2
  have HNM2 : Hid (∀ a ∈ g.arcs, (0 ≤ a.src ∧ a.src < M) ∧ (0 ≤ a.dst ∧ a.dst < M) ∧ (0 ≤ a.inp ∧ a.inp ≤ 9) ∧ (0 ≤ a.out ∧ a.out ≤ 9) ∧ (0 ≤ a.wt ∧ a.wt ≤ 1000000000)) := hnm2
  have HX : Hid (CX f g ins outs N M s0 t0 fi fj aa m ac ca mc cc ia il ic oa ol oc Bf Bg Bo Bs Bc C T w0) := hX
  have HXU : Hid (x = usedBy i a.inp) := hx
  have hwx : x ≤ il := by rw [hx, ← hX.hil]; exact usedBy_le hfit (by rw [hX.hil]; exact hi)
  clear hx hnm hnm2 hn1 hn2 hnN hnM
  by_cases hout : 0 < a.out
  · go_loopw [22] (fun t22 wx => ∃ (j : Nat) (c' : List Int) (ch' : Bool), j ≤ mc ∧ t22 = .int .i64 (j : Int) ∧ SX w0 C H wx c' ch' ∧ BK W wx C H ∧ RI (EC f g N M ins outs) (bgC N M s0 t0 ins outs) c0 c' ch' (R ∧ ∀ (j' : Nat) d, j' < j → g.arcs[j']? = some d → d.inp = a.out → fitB outs o d.out = true → Rx c0 (edgeC N M outs.length i o (a.src, d.src) (togS a d)))) (fun t22 _ => mc - (intOf t22).toNat)
    case atStart => exact ⟨0, c, ch, Nat.zero_le _, rfl, hS, BK.refl, hR.mono fun r => ⟨r, fun y d hy => absurd hy (Nat.not_lt_zero _)⟩⟩
    case round =>
      obtain ⟨j, c', ch', hj, rfl, hS', hK', hR'⟩ := hrel
      obtain ⟨g1, g2, g3, g4, g5⟩ := HX.out.box wr hS'.kx
      have hCw := hS'.hC
      have hq' := (hK'.block q (heap_lt hq) (by omega) hqH).trans hq
      have hmc := hX.hmc
      have hal' := hX.hal'
      have y3 := box_cell (k := 3) g2 rfl
      have q2 := box_cell (k := 2) hq' rfl
      have hjw : IntKind.i64.wrap ((j : Int) + 1) = (j : Int) + 1 := wrap_in _ (by omega) (by omega)
      by_cases hlt : j < mc
      · have hlti : (j : Int) < mc := by omega
        obtain ⟨cb, co, rfl, hxg⟩ := (HX.out.mem wr hS'.kx).2.1.some (by omega)
        obtain ⟨dd, hdj⟩ : ∃ d, g.arcs[j]? = some d := ⟨_, List.getElem?_eq_getElem (by omega)⟩
        have hgd : g.arcs.getD j a0 = dd := by simp [List.getD, hdj]
        obtain ⟨⟨s1, s2⟩, ⟨s3, s4⟩, ⟨s5, s6⟩, ⟨s7, s8⟩, s9, s10⟩ := HNM2.out dd (List.mem_of_getElem? hdj)
        have c0' := hxg.c0 j hlt
        have c1' := hxg.c1 j hlt
        have c2' := hxg.c2 j hlt
        have c3' := hxg.c3 j hlt
        have c4' := hxg.c4 j hlt
        rw [hgd] at c0' c1' c2' c3' c4'
        obtain ⟨sd, hsd⟩ : ∃ p : Nat, dd.src = (p : Int) := ⟨dd.src.toNat, (Int.toNat_of_nonneg s1).symm⟩
        obtain ⟨td, htd⟩ : ∃ p : Nat, dd.dst = (p : Int) := ⟨dd.dst.toNat, (Int.toNat_of_nonneg s3).symm⟩
        obtain ⟨dp, hdp⟩ : ∃ p, dd.inp = p := ⟨_, rfl⟩
        obtain ⟨dq, hdq⟩ : ∃ p, dd.out = p := ⟨_, rfl⟩
        obtain ⟨wd, hwd⟩ : ∃ p, dd.wt = p := ⟨_, rfl⟩
        obtain ⟨p, hp⟩ : ∃ p : Nat, a.src = (p : Int) := ⟨a.src.toNat, (Int.toNat_of_nonneg p1).symm⟩
        obtain ⟨t, ht⟩ : ∃ p : Nat, a.dst = (p : Int) := ⟨a.dst.toNat, (Int.toNat_of_nonneg p3).symm⟩
        obtain ⟨ao, hao⟩ : ∃ p, a.out = p := ⟨_, rfl⟩
        obtain ⟨wa, hwa⟩ : ∃ p, a.wt = p := ⟨_, rfl⟩
        rw [hsd] at c0' s1 s2
        rw [hdp] at c1' s5 s6
        rw [hdq] at c2' s7 s8
        rw [htd] at c3' s3 s4
        rw [hwd] at c4' s9 s10
        rw [hao] at q2
        have hpN : p < N := by omega
        have htN : t < N := by omega
        have hsM : sd < M := by omega
        have htM : td < M := by omega
        have hao0 : 0 < ao := by rw [← hao]; exact hout
        have hwaw : wa ≤ 1000000000 ∧ 0 ≤ wa := by omega
        have hqa : wr.heap[q]? = some (.cells #[.int .i64 (p : Int), .int .i64 a.inp, .int .i64 ao, .int .i64 (t : Int), .int .i64 wa] 63 (0, 0)) := by rw [← hp, ← hao, ← ht, ← hwa]; exact hq'
        have HD : Hid (g.arcs[j]? = some dd ∧ dd.inp = dp ∧ dd.out = dq ∧ a.out = ao ∧ dd ∈ g.arcs) := ⟨hdj, hdp, hdq, hao, List.mem_of_getElem? hdj⟩
        have HSKIP : Hid ((dp ≠ ao ∨ fitB outs o dq = false) → RI (EC f g N M ins outs) (bgC N M s0 t0 ins outs) c0 c' ch' (R ∧ ∀ (j' : Nat) d, j' < j + 1 → g.arcs[j']? = some d → d.inp = a.out → fitB outs o d.out = true → Rx c0 (edgeC N M outs.length i o (a.src, d.src) (togS a d)))) := fun hno => hR'.mono fun r => ⟨r.1, fun j' d hj' hd h1 h2 => by
          by_cases e : j' = j
          · subst e
            rw [hdj] at hd
            injection hd with hd
            subst hd
            exfalso
            rcases hno with hno | hno
            · exact hno (by rw [← hdp, ← hao]; exact h1)
            · rw [← hdq] at hno; rw [hno] at h2; cases h2
          · exact r.2 j' d (by omega) hd h1 h2⟩
        have HGO : Hid (∀ y : Nat, dp = ao → fitB outs o dq = true → y = usedBy o dq → RI (EC f g N M ins outs) (bgC N M s0 t0 ins outs) c0 (relE c' ⟨spC M (N * M) ol p sd i o, spC M (N * M) ol t td x y, wa + wd⟩) (chB ch' c' ⟨spC M (N * M) ol p sd i o, spC M (N * M) ol t td x y, wa + wd⟩) (R ∧ ∀ (j' : Nat) d, j' < j + 1 → g.arcs[j']? = some d → d.inp = a.out → fitB outs o d.out = true → Rx c0 (edgeC N M outs.length i o (a.src, d.src) (togS a d)))) := fun y e1 e2 e3 => by
          have hedge : edgeC N M outs.length i o (a.src, dd.src) (togS a dd) = ⟨spC M (N * M) ol p sd i o, spC M (N * M) ol t td x y, wa + wd⟩ := by
            unfold edgeC togS
            show (⟨spC M (N * M) outs.length a.src.toNat dd.src.toNat i o, spC M (N * M) outs.length a.dst.toNat dd.dst.toNat (usedBy i a.inp) (usedBy o dd.out), a.wt + dd.wt⟩ : Edg) = _
            rw [hp, ht, hwa, hwd, hsd, htd, hdq, e3, HXU.out, hX.hol, Int.toNat_natCast, Int.toNat_natCast, Int.toNat_natCast, Int.toNat_natCast]
          rw [← hedge]
          have h2 := hX.rel (x := (a.src, dd.src)) (s := togS a dd) hi ho ⟨⟨p1, by rw [hX.hN]; omega⟩, by rw [hsd]; show (0 : Int) ≤ (sd : Int); omega, by rw [hsd, hX.hM]; show (sd : Int) < (M : Int); omega⟩ (mem_stp.2 (Or.inl ⟨a, List.mem_of_getElem? hak, dd, List.mem_of_getElem? hdj, rfl, rfl, hout, by rw [hdp, hao]; exact e1, rfl⟩)) hfit (by show fitB outs o dd.out = true; rw [hdq]; exact e2) hR'
          refine h2.mono fun r => ⟨r.1.1, fun j' d hj' hd h1 h3 => ?_⟩
          by_cases e : j' = j
          · subst e
            rw [hdj] at hd
            injection hd with hd
            subst hd
            exact r.2
          · exact r.1.2 j' d (by omega) hd h1 h3
        have HTOP : Hid (c'.length = T ∧ ∀ x, gI c' x ≤ 800002000000000) := hX.top hR'
        have hNM := hX.NM
        have hN2 := hX.hN2
        have hM2 := hX.hM2
        have hi40 := hX.hi40
        have ho40 := hX.ho40
        have hol := hX.hol
        have HOUTS : Hid (∀ W, KX w0 C W → ISlice W (.slice oa ol oc) outs) := fun W h => (HX.out.mem W h).2.2.2
        have bo := box_cell (k := 0) g3 rfl
        obtain ⟨W1, hW1⟩ : ∃ W1, W1 = wr.alloc (.cells #[.int .i64 (sd : Int), .int .i64 dp, .int .i64 dq, .int .i64 (td : Int), .int .i64 wd] 63) := ⟨_, rfl⟩
        obtain ⟨D, hD⟩ : ∃ D, D = wr.heap.size := ⟨_, rfl⟩
        have hb1 : Below wr.heap.size wr W1 := by rw [hW1]; exact bel_up (bel_self wr) _
        have hdA : W1.heap[D]? = some (.cells #[.int .i64 (sd : Int), .int .i64 dp, .int .i64 dq, .int .i64 (td : Int), .int .i64 wd] 63 (0, 0)) := by rw [hW1, hD]; exact heap_alloc_new wr _
        have hSa := hS'.bel hb1
        have hKa : BK W W1 C H := hK'.trans (BK.of_bel hb1)
        have hqA := heap_bel hb1 hqa
        have hDH : D ≠ H ∧ D ≠ C := by have h1 := heap_lt hS'.hb; have h2 := heap_lt hS'.ct; rw [hD]; omega
        have b1' := bel_c hb1 bo
        have HW1 : Hid (W1 = wr.alloc (.cells #[.int .i64 (sd : Int), .int .i64 dp, .int .i64 dq, .int .i64 (td : Int), .int .i64 wd] 63) ∧ D = wr.heap.size) := ⟨hW1, hD⟩
        clear hsd htd hdp hdq hwd hp ht hao hwa hdj hgd hxg hW1 hD hq' g1 g2 g3 g4 g5 bo hR'
        have u1 := box_cell (k := 1) hdA rfl
        have u2 := box_cell (k := 2) hdA rfl
        have v2 := box_cell (k := 2) hqA rfl
        go_wp2
        rw [← HW1.out.1, ← HW1.out.2]
        clear HW1 c0' c1' c2' c3' c4' y3 q2
        by_cases hda : dp = ao
        · subst hda
          by_cases hq0 : dq = 0
          · subst hq0
            refine wp_region_quiet_lit (by kernel_rfl) (by kernel_rfl) ?_
            repeat (first | ((with_unfolding_none refine quiet_yes ?hy (fun K hK => ?_)); (case hy => exact rfl); go_simp; (with_unfolding_none refine hK _ ?_); clear hK K) | ((with_unfolding_none refine quiet_no ?hy (fun K hK => ?_)); (case hy => exact rfl); go_simp; (with_unfolding_none refine hK _ ?_); clear hK K))
            refine wpQuiet_nil ?_
            intro _ hw'
            obtain ⟨nq, hw''⟩ := hw'
            subst hw''
            have hyl : o ≤ ol := by omega
            have HSP : Hid (spC M (N * M) ol p sd i o < T ∧ spC M (N * M) ol t td x (o) < T) := ⟨hX.spot hi ho hpN hsM, hX.spot hwx hyl htN htM⟩
            have hb2 : Below W1.heap.size W1 (W1.drewN nq) := bel_drewN (bel_self W1) _
            obtain ⟨W2, hW2⟩ : ∃ W2, W2 = W1.drewN nq := ⟨_, rfl⟩
            rw [← hW2] at hb2 ⊢
            have hS2 := hSa.bel hb2
            have hKb := hKa.trans (BK.of_bel (C := C) (H := H) hb2)
            have hq2 := heap_bel hb2 hqA
            have hd2 := heap_bel hb2 hdA
            have hww : IntKind.i64.wrap (wa + wd) = wa + wd := wrap_in _ (by omega) (by omega)
            have u2' := box_cell (k := 2) hd2 rfl
            clear hW2 u1 u2 v2
            go_wp2
            clear u2'
            obtain ⟨Wd, hWd⟩ : ∃ Wd, Wd = W2.drew := ⟨_, rfl⟩
            have hbd : Below W2.heap.size W2 Wd := by rw [hWd]; exact (bel_self W2).drew
            have hSd := hS2.bel hbd
            have HWD : Hid (Wd = W2.drew) := hWd
            obtain ⟨b1, b2, b3, b4, b5⟩ := HX.out.box Wd hSd.kx
            have hS0 : (fun wx : World => wx.cell? ⟨q, 0, none⟩ = some (.int .i64 (p : Int)) ∧ wx.cell? ⟨q, 3, none⟩ = some (.int .i64 (t : Int)) ∧ wx.cell? ⟨q, 4, none⟩ = some (.int .i64 wa) ∧ wx.cell? ⟨D, 0, none⟩ = some (.int .i64 (sd : Int)) ∧ wx.cell? ⟨D, 3, none⟩ = some (.int .i64 (td : Int)) ∧ wx.cell? ⟨D, 4, none⟩ = some (.int .i64 wd)) Wd := ⟨box_cell (k := 0) (heap_bel hbd hq2) rfl, box_cell (k := 3) (heap_bel hbd hq2) rfl, box_cell (k := 4) (heap_bel hbd hq2) rfl, box_cell (k := 0) (heap_bel hbd hd2) rfl, box_cell (k := 3) (heap_bel hbd hd2) rfl, box_cell (k := 4) (heap_bel hbd hd2) rfl⟩
            have hat1 := at_any p sd i o (N * M) M ol _ oc Bo Bs Bg Wd (box_cell (k := 0) b3 rfl) (box_cell (k := 0) b4 rfl) (box_cell (k := 0) b2 rfl) (by omega) (by omega) (by omega) (by omega) (by omega) (by omega) (by omega)
            have hat2 := at_any t td x (o) (N * M) M ol _ oc Bo Bs Bg Wd (box_cell (k := 0) b3 rfl) (box_cell (k := 0) b4 rfl) (box_cell (k := 0) b2 rfl) (by omega) (by omega) (by omega) (by omega) (by omega) (by omega) (by omega)
            have hbet := better_any w0 C H c' ch' _ _ T Bc (wa + wd) Wd hSd (box_cell (k := 0) b5 rfl) HTOP.out.1 HSP.out.1 HSP.out.2 HTOP.out.2 (by omega)
            obtain ⟨U, hU⟩ : ∃ U, U = spC M (N * M) ol p sd i o := ⟨_, rfl⟩
            obtain ⟨V, hV⟩ : ∃ V, V = spC M (N * M) ol t td x (o) := ⟨_, rfl⟩
            have HUV : Hid (U = spC M (N * M) ol p sd i o ∧ V = spC M (N * M) ol t td x (o)) := ⟨hU, hV⟩
            rw [← hU] at hat1 hbet
            rw [← hV] at hat2 hbet
            clear hWd hU hV b1 b2 b3 b4 b5
            have hqf : ∀ W1, BK Wd W1 C H → W1.heap[q]? = some (.cells #[.int .i64 (p : Int), .int .i64 a.inp, .int .i64 dp, .int .i64 (t : Int), .int .i64 wa] 63 (0, 0)) := fun W1 hk => (hk.block q (heap_lt (heap_bel hbd hq2)) (by omega) hqH).trans (heap_bel hbd hq2)
            have hdf : ∀ W1, BK Wd W1 C H → W1.heap[D]? = some (.cells #[.int .i64 (sd : Int), .int .i64 dp, .int .i64 0, .int .i64 (td : Int), .int .i64 wd] 63 (0, 0)) := fun W1 hk => (hk.block D (heap_lt (heap_bel hbd hd2)) hDH.2 hDH.1).trans (heap_bel hbd hd2)
            refine wp_region_noPanic ?_
            refine wp_region_F (fun wx : World => wx.cell? ⟨q, 0, none⟩ = some (.int .i64 (p : Int)) ∧ wx.cell? ⟨q, 3, none⟩ = some (.int .i64 (t : Int)) ∧ wx.cell? ⟨q, 4, none⟩ = some (.int .i64 wa) ∧ wx.cell? ⟨D, 0, none⟩ = some (.int .i64 (sd : Int)) ∧ wx.cell? ⟨D, 3, none⟩ = some (.int .i64 (td : Int)) ∧ wx.cell? ⟨D, 4, none⟩ = some (.int .i64 wd)) [] (by kernel_rfl) (by rw [← HWD.out]; exact hS0) (fun _ => ?_)
            rw [← HWD.out]
            clear HWD
            refine wpAnyF_take (i := 0) (v := .func (.func 81) #[] #[.pointer (some ⟨Bc, 0, none⟩), .pointer (some ⟨H, 0, none⟩)]) rfl (by kernel_rfl) (by kernel_rfl) (by kernel_rfl) (by kernel_rfl) (fun _ _ _ h => h) (Or.inl ⟨by rfl, fun wl hSw => ?_⟩) hS0 ?_
            · (try dsimp only at hSw); go_simp
            refine wpAnyF_take (i := 1) (v := .func (.func 80) #[] #[.pointer (some ⟨Bo, 0, none⟩), .pointer (some ⟨Bs, 0, none⟩), .pointer (some ⟨Bg, 0, none⟩)]) rfl (by kernel_rfl) (by kernel_rfl) (by kernel_rfl) (by kernel_rfl) (fun _ _ _ h => h) (Or.inl ⟨by rfl, fun wl hSw => ?_⟩) hS0 ?_
            · (try dsimp only at hSw); go_simp
            refine wpAnyF_take (i := 2) (v := .pointer (some ⟨q, 0, none⟩)) rfl (by kernel_rfl) (by kernel_rfl) (by kernel_rfl) (by kernel_rfl) (fun _ _ _ h => h) (Or.inl ⟨by rfl, fun wl hSw => ?_⟩) hS0 ?_
            · (try dsimp only at hSw); go_simp
            refine wpAnyF_take (i := 3) (v := .int .i64 (p : Int)) rfl (by kernel_rfl) (by kernel_rfl) (by kernel_rfl) (by kernel_rfl) (fun _ _ _ h => h) (Or.inl ⟨by rfl, fun wl hSw => ?_⟩) hS0 ?_
            · (try dsimp only at hSw); go_simp
            refine wpAnyF_take (i := 4) (v := .pointer (some ⟨D, 0, none⟩)) rfl (by kernel_rfl) (by kernel_rfl) (by kernel_rfl) (by kernel_rfl) (fun _ _ _ h => h) (Or.inl ⟨by rfl, fun wl hSw => ?_⟩) hS0 ?_
            · (try dsimp only at hSw); go_simp
            refine wpAnyF_take (i := 5) (v := .int .i64 (sd : Int)) rfl (by kernel_rfl) (by kernel_rfl) (by kernel_rfl) (by kernel_rfl) (fun _ _ _ h => h) (Or.inl ⟨by rfl, fun wl hSw => ?_⟩) hS0 ?_
            · (try dsimp only at hSw); go_simp
            refine wpAnyF_take (i := 6) (v := .int .i64 (i : Int)) rfl (by kernel_rfl) (by kernel_rfl) (by kernel_rfl) (by kernel_rfl) (fun _ _ _ h => h) (Or.inl ⟨by rfl, fun wl hSw => ?_⟩) hS0 ?_
            · (try dsimp only at hSw); go_simp
            refine wpAnyF_take (i := 7) (v := .int .i64 (o : Int)) rfl (by kernel_rfl) (by kernel_rfl) (by kernel_rfl) (by kernel_rfl) (fun _ _ _ h => h) (Or.inl ⟨by rfl, fun wl hSw => ?_⟩) hS0 ?_
            · (try dsimp only at hSw); go_simp
            refine wpAnyF_take (i := 9) (v := .func (.func 80) #[] #[.pointer (some ⟨Bo, 0, none⟩), .pointer (some ⟨Bs, 0, none⟩), .pointer (some ⟨Bg, 0, none⟩)]) rfl (by kernel_rfl) (by kernel_rfl) (by kernel_rfl) (by kernel_rfl) (fun _ _ _ h => h) (Or.inl ⟨by rfl, fun wl hSw => ?_⟩) hS0 ?_
            · (try dsimp only at hSw); go_simp
            refine wpAnyF_take (i := 10) (v := .pointer (some ⟨q, 3, none⟩)) rfl (by kernel_rfl) (by kernel_rfl) (by kernel_rfl) (by kernel_rfl) (fun _ _ _ h => h) (Or.inl ⟨by rfl, fun wl hSw => ?_⟩) hS0 ?_
            · (try dsimp only at hSw); go_simp
            refine wpAnyF_take (i := 11) (v := .int .i64 (t : Int)) rfl (by kernel_rfl) (by kernel_rfl) (by kernel_rfl) (by kernel_rfl) (fun _ _ _ h => h) (Or.inl ⟨by rfl, fun wl hSw => ?_⟩) hS0 ?_
            · (try dsimp only at hSw); go_simp
            refine wpAnyF_take (i := 12) (v := .pointer (some ⟨D, 3, none⟩)) rfl (by kernel_rfl) (by kernel_rfl) (by kernel_rfl) (by kernel_rfl) (fun _ _ _ h => h) (Or.inl ⟨by rfl, fun wl hSw => ?_⟩) hS0 ?_
            · (try dsimp only at hSw); go_simp
            refine wpAnyF_take (i := 13) (v := .int .i64 (td : Int)) rfl (by kernel_rfl) (by kernel_rfl) (by kernel_rfl) (by kernel_rfl) (fun _ _ _ h => h) (Or.inl ⟨by rfl, fun wl hSw => ?_⟩) hS0 ?_
            · (try dsimp only at hSw); go_simp
            refine wpAnyF_take (i := 14) (v := .int .i64 (x : Int)) rfl (by kernel_rfl) (by kernel_rfl) (by kernel_rfl) (by kernel_rfl) (fun _ _ _ h => h) (Or.inl ⟨by rfl, fun wl hSw => ?_⟩) hS0 ?_
            · (try dsimp only at hSw); go_simp
            refine wpAnyF_take (i := 15) (v := .int .i64 ((o : Nat) : Int)) rfl (by kernel_rfl) (by kernel_rfl) (by kernel_rfl) (by kernel_rfl) (fun _ _ _ h => h) (Or.inl ⟨by rfl, fun wl hSw => ?_⟩) hS0 ?_
            · (try dsimp only at hSw); go_simp
            refine wpAnyF_take (i := 17) (v := .pointer (some ⟨q, 4, none⟩)) rfl (by kernel_rfl) (by kernel_rfl) (by kernel_rfl) (by kernel_rfl) (fun _ _ _ h => h) (Or.inl ⟨by rfl, fun wl hSw => ?_⟩) hS0 ?_
            · (try dsimp only at hSw); go_simp
            refine wpAnyF_take (i := 18) (v := .int .i64 wa) rfl (by kernel_rfl) (by kernel_rfl) (by kernel_rfl) (by kernel_rfl) (fun _ _ _ h => h) (Or.inl ⟨by rfl, fun wl hSw => ?_⟩) hS0 ?_
            · (try dsimp only at hSw); go_simp
            refine wpAnyF_take (i := 19) (v := .pointer (some ⟨D, 4, none⟩)) rfl (by kernel_rfl) (by kernel_rfl) (by kernel_rfl) (by kernel_rfl) (fun _ _ _ h => h) (Or.inl ⟨by rfl, fun wl hSw => ?_⟩) hS0 ?_
            · (try dsimp only at hSw); go_simp
            refine wpAnyF_take (i := 20) (v := .int .i64 wd) rfl (by kernel_rfl) (by kernel_rfl) (by kernel_rfl) (by kernel_rfl) (fun _ _ _ h => h) (Or.inl ⟨by rfl, fun wl hSw => ?_⟩) hS0 ?_
            · (try dsimp only at hSw); go_simp
            refine wpAnyF_take (i := 21) (v := .int .i64 (wa + wd)) rfl (by kernel_rfl) (by kernel_rfl) (by kernel_rfl) (by kernel_rfl) (fun _ _ _ h => h) (Or.inl ⟨by rfl, fun wl hSw => ?_⟩) hS0 ?_
            · (try dsimp only at hSw); go_simp
            refine wpAnyF_one (i := 8) rfl (by kernel_rfl) (fun Kc hKc => ?_)
            go_simp
            refine hat1.mono ?_
            rintro e w1 ⟨rfl, rfl⟩
            refine hKc.out _ _ ⟨fun _ => hS0, ?_⟩
            clear hKc Kc
            refine wpAnyF_one (i := 16) rfl (by kernel_rfl) (fun Kc hKc => ?_)
            go_simp
            refine hat2.mono ?_
            rintro e w1 ⟨rfl, rfl⟩
            refine hKc.out _ _ ⟨fun _ => hS0, ?_⟩
            clear hKc Kc
            refine wpAnyF_one (i := 22) rfl (by kernel_rfl) (fun Kc hKc => ?_)
            go_simp
            refine hbet.mono ?_
            rintro e w1 ⟨rfl, hS1, hK1⟩
            refine hKc.out _ _ ⟨fun _ => ⟨box_cell (k := 0) (hqf _ hK1) rfl, box_cell (k := 3) (hqf _ hK1) rfl, box_cell (k := 4) (hqf _ hK1) rfl, box_cell (k := 0) (hdf _ hK1) rfl, box_cell (k := 3) (hdf _ hK1) rfl, box_cell (k := 4) (hdf _ hK1) rfl⟩, ?_⟩
            clear hKc Kc
            refine wpAnyF_done (by kernel_rfl) ?_ _
            refine NoPanic.normal ?_
            clear hat1 hat2 hbet hS0
            have hS3 := hS1
            rw [HUV.out.1, HUV.out.2] at hS3
            go_wp2
            go_roundw
            case rel => exact ⟨j + 1, _, _, by omega, by go_num, hS3, hKb.trans ((BK.of_bel hbd).trans hK1), HGO.out (o) (by first | exact rfl | exact trivial) (fit_0 _ _) (by unfold usedBy; rw [if_pos rfl])⟩
            case measure => simp [intOf]; omega
          · have hqp : 0 < dq := by omega
            have HQ0 : Hid (dq ≠ 0) := hq0
            by_cases hoe : o = ol
            · have HF : Hid (fitB outs o dq = false) := fit_no1 hq0 (by omega)
              subst hoe
              refine wp_region_quiet_lit (by kernel_rfl) (by kernel_rfl) ?_
              repeat (first | ((with_unfolding_none refine quiet_yes ?hy (fun K hK => ?_)); (case hy => exact rfl); go_simp; (with_unfolding_none refine hK _ ?_); clear hK K) | ((with_unfolding_none refine quiet_no ?hy (fun K hK => ?_)); (case hy => exact rfl); go_simp; (with_unfolding_none refine hK _ ?_); clear hK K))
              refine wpQuiet_nil ?_
              intro _ hw'
              obtain ⟨nq, hw''⟩ := hw'
              subst hw''
              go_wp2
              go_roundw
              case rel => exact ⟨j + 1, c', ch', by omega, by go_num, hSa.bel (bel_drewN (bel_self W1) _), hKa.trans (BK.of_bel (bel_drewN (bel_self W1) _)), HSKIP.out (Or.inr HF.out)⟩
              case measure => simp [intOf]; omega
            · have hob : ((o : Int) == ol) = false := by simpa using (by omega : ¬ (o : Int) = ol)
              have hlo : o < ol := by omega
              have hloi : (o : Int) < ol := by omega
              obtain ⟨ob, oo, rfl, hxo⟩ := (HOUTS.out W1 hSa.kx).some (by omega)
              have z0 := hxo.cell o hlo
              obtain ⟨ov, hov⟩ : ∃ v, outs.getD o 0 = v := ⟨_, rfl⟩
              rw [hov] at z0
              by_cases hoq : ov = dq
              · have HF : Hid (fitB outs o dq = true) := fit_1 (by omega) (by rw [hov]; exact hoq)
                subst hoq
                clear hov hxo hq0
                refine wp_region_quiet_lit (by kernel_rfl) (by kernel_rfl) ?_
                repeat (first | ((with_unfolding_none refine quiet_yes ?hy (fun K hK => ?_)); (case hy => exact rfl); go_simp; (with_unfolding_none refine hK _ ?_); clear hK K) | ((with_unfolding_none refine quiet_no ?hy (fun K hK => ?_)); (case hy => exact rfl); go_simp; (with_unfolding_none refine hK _ ?_); clear hK K))
                refine wpQuiet_nil ?_
                intro _ hw'
                obtain ⟨nq, hw''⟩ := hw'
                subst hw''
                have hyl : o + 1 ≤ ol := by omega
                have HSP : Hid (spC M (N * M) ol p sd i o < T ∧ spC M (N * M) ol t td x (o + 1) < T) := ⟨hX.spot hi ho hpN hsM, hX.spot hwx hyl htN htM⟩
                have hb2 : Below W1.heap.size W1 (W1.drewN nq) := bel_drewN (bel_self W1) _
                obtain ⟨W2, hW2⟩ : ∃ W2, W2 = W1.drewN nq := ⟨_, rfl⟩
                rw [← hW2] at hb2 ⊢
                have hS2 := hSa.bel hb2
                have hKb := hKa.trans (BK.of_bel (C := C) (H := H) hb2)
                have hq2 := heap_bel hb2 hqA
                have hd2 := heap_bel hb2 hdA
                have hww : IntKind.i64.wrap (wa + wd) = wa + wd := wrap_in _ (by omega) (by omega)
                have u2' := box_cell (k := 2) hd2 rfl
                clear hW2 u1 u2 v2
                go_wp2
                clear u2'
                obtain ⟨Wd, hWd⟩ : ∃ Wd, Wd = W2.drew := ⟨_, rfl⟩
                have hbd : Below W2.heap.size W2 Wd := by rw [hWd]; exact (bel_self W2).drew
                have hSd := hS2.bel hbd
                have HWD : Hid (Wd = W2.drew) := hWd
                obtain ⟨b1, b2, b3, b4, b5⟩ := HX.out.box Wd hSd.kx
                have hS0 : (fun wx : World => wx.cell? ⟨q, 0, none⟩ = some (.int .i64 (p : Int)) ∧ wx.cell? ⟨q, 3, none⟩ = some (.int .i64 (t : Int)) ∧ wx.cell? ⟨q, 4, none⟩ = some (.int .i64 wa) ∧ wx.cell? ⟨D, 0, none⟩ = some (.int .i64 (sd : Int)) ∧ wx.cell? ⟨D, 3, none⟩ = some (.int .i64 (td : Int)) ∧ wx.cell? ⟨D, 4, none⟩ = some (.int .i64 wd)) Wd := ⟨box_cell (k := 0) (heap_bel hbd hq2) rfl, box_cell (k := 3) (heap_bel hbd hq2) rfl, box_cell (k := 4) (heap_bel hbd hq2) rfl, box_cell (k := 0) (heap_bel hbd hd2) rfl, box_cell (k := 3) (heap_bel hbd hd2) rfl, box_cell (k := 4) (heap_bel hbd hd2) rfl⟩
                have hat1 := at_any p sd i o (N * M) M ol _ oc Bo Bs Bg Wd (box_cell (k := 0) b3 rfl) (box_cell (k := 0) b4 rfl) (box_cell (k := 0) b2 rfl) (by omega) (by omega) (by omega) (by omega) (by omega) (by omega) (by omega)
                have hat2 := at_any t td x (o + 1) (N * M) M ol _ oc Bo Bs Bg Wd (box_cell (k := 0) b3 rfl) (box_cell (k := 0) b4 rfl) (box_cell (k := 0) b2 rfl) (by omega) (by omega) (by omega) (by omega) (by omega) (by omega) (by omega)
                have hbet := better_any w0 C H c' ch' _ _ T Bc (wa + wd) Wd hSd (box_cell (k := 0) b5 rfl) HTOP.out.1 HSP.out.1 HSP.out.2 HTOP.out.2 (by omega)
                obtain ⟨U, hU⟩ : ∃ U, U = spC M (N * M) ol p sd i o := ⟨_, rfl⟩
                obtain ⟨V, hV⟩ : ∃ V, V = spC M (N * M) ol t td x (o + 1) := ⟨_, rfl⟩
                have HUV : Hid (U = spC M (N * M) ol p sd i o ∧ V = spC M (N * M) ol t td x (o + 1)) := ⟨hU, hV⟩
                rw [← hU] at hat1 hbet
                rw [← hV] at hat2 hbet
                clear hWd hU hV b1 b2 b3 b4 b5
                have hqf : ∀ W1, BK Wd W1 C H → W1.heap[q]? = some (.cells #[.int .i64 (p : Int), .int .i64 a.inp, .int .i64 dp, .int .i64 (t : Int), .int .i64 wa] 63 (0, 0)) := fun W1 hk => (hk.block q (heap_lt (heap_bel hbd hq2)) (by omega) hqH).trans (heap_bel hbd hq2)
                have hdf : ∀ W1, BK Wd W1 C H → W1.heap[D]? = some (.cells #[.int .i64 (sd : Int), .int .i64 dp, .int .i64 ov, .int .i64 (td : Int), .int .i64 wd] 63 (0, 0)) := fun W1 hk => (hk.block D (heap_lt (heap_bel hbd hd2)) hDH.2 hDH.1).trans (heap_bel hbd hd2)
                refine wp_region_noPanic ?_
                refine wp_region_F (fun wx : World => wx.cell? ⟨q, 0, none⟩ = some (.int .i64 (p : Int)) ∧ wx.cell? ⟨q, 3, none⟩ = some (.int .i64 (t : Int)) ∧ wx.cell? ⟨q, 4, none⟩ = some (.int .i64 wa) ∧ wx.cell? ⟨D, 0, none⟩ = some (.int .i64 (sd : Int)) ∧ wx.cell? ⟨D, 3, none⟩ = some (.int .i64 (td : Int)) ∧ wx.cell? ⟨D, 4, none⟩ = some (.int .i64 wd)) [] (by kernel_rfl) (by rw [← HWD.out]; exact hS0) (fun _ => ?_)
                rw [← HWD.out]
                clear HWD
                refine wpAnyF_take (i := 0) (v := .func (.func 81) #[] #[.pointer (some ⟨Bc, 0, none⟩), .pointer (some ⟨H, 0, none⟩)]) rfl (by kernel_rfl) (by kernel_rfl) (by kernel_rfl) (by kernel_rfl) (fun _ _ _ h => h) (Or.inl ⟨by rfl, fun wl hSw => ?_⟩) hS0 ?_
                · (try dsimp only at hSw); go_simp
                refine wpAnyF_take (i := 1) (v := .func (.func 80) #[] #[.pointer (some ⟨Bo, 0, none⟩), .pointer (some ⟨Bs, 0, none⟩), .pointer (some ⟨Bg, 0, none⟩)]) rfl (by kernel_rfl) (by kernel_rfl) (by kernel_rfl) (by kernel_rfl) (fun _ _ _ h => h) (Or.inl ⟨by rfl, fun wl hSw => ?_⟩) hS0 ?_
                · (try dsimp only at hSw); go_simp
                refine wpAnyF_take (i := 2) (v := .pointer (some ⟨q, 0, none⟩)) rfl (by kernel_rfl) (by kernel_rfl) (by kernel_rfl) (by kernel_rfl) (fun _ _ _ h => h) (Or.inl ⟨by rfl, fun wl hSw => ?_⟩) hS0 ?_
                · (try dsimp only at hSw); go_simp
                refine wpAnyF_take (i := 3) (v := .int .i64 (p : Int)) rfl (by kernel_rfl) (by kernel_rfl) (by kernel_rfl) (by kernel_rfl) (fun _ _ _ h => h) (Or.inl ⟨by rfl, fun wl hSw => ?_⟩) hS0 ?_
                · (try dsimp only at hSw); go_simp
                refine wpAnyF_take (i := 4) (v := .pointer (some ⟨D, 0, none⟩)) rfl (by kernel_rfl) (by kernel_rfl) (by kernel_rfl) (by kernel_rfl) (fun _ _ _ h => h) (Or.inl ⟨by rfl, fun wl hSw => ?_⟩) hS0 ?_
                · (try dsimp only at hSw); go_simp
                refine wpAnyF_take (i := 5) (v := .int .i64 (sd : Int)) rfl (by kernel_rfl) (by kernel_rfl) (by kernel_rfl) (by kernel_rfl) (fun _ _ _ h => h) (Or.inl ⟨by rfl, fun wl hSw => ?_⟩) hS0 ?_
                · (try dsimp only at hSw); go_simp
                refine wpAnyF_take (i := 6) (v := .int .i64 (i : Int)) rfl (by kernel_rfl) (by kernel_rfl) (by kernel_rfl) (by kernel_rfl) (fun _ _ _ h => h) (Or.inl ⟨by rfl, fun wl hSw => ?_⟩) hS0 ?_
                · (try dsimp only at hSw); go_simp
                refine wpAnyF_take (i := 7) (v := .int .i64 (o : Int)) rfl (by kernel_rfl) (by kernel_rfl) (by kernel_rfl) (by kernel_rfl) (fun _ _ _ h => h) (Or.inl ⟨by rfl, fun wl hSw => ?_⟩) hS0 ?_
                · (try dsimp only at hSw); go_simp
                refine wpAnyF_take (i := 9) (v := .func (.func 80) #[] #[.pointer (some ⟨Bo, 0, none⟩), .pointer (some ⟨Bs, 0, none⟩), .pointer (some ⟨Bg, 0, none⟩)]) rfl (by kernel_rfl) (by kernel_rfl) (by kernel_rfl) (by kernel_rfl) (fun _ _ _ h => h) (Or.inl ⟨by rfl, fun wl hSw => ?_⟩) hS0 ?_
                · (try dsimp only at hSw); go_simp
                refine wpAnyF_take (i := 10) (v := .pointer (some ⟨q, 3, none⟩)) rfl (by kernel_rfl) (by kernel_rfl) (by kernel_rfl) (by kernel_rfl) (fun _ _ _ h => h) (Or.inl ⟨by rfl, fun wl hSw => ?_⟩) hS0 ?_
                · (try dsimp only at hSw); go_simp
                refine wpAnyF_take (i := 11) (v := .int .i64 (t : Int)) rfl (by kernel_rfl) (by kernel_rfl) (by kernel_rfl) (by kernel_rfl) (fun _ _ _ h => h) (Or.inl ⟨by rfl, fun wl hSw => ?_⟩) hS0 ?_
                · (try dsimp only at hSw); go_simp
                refine wpAnyF_take (i := 12) (v := .pointer (some ⟨D, 3, none⟩)) rfl (by kernel_rfl) (by kernel_rfl) (by kernel_rfl) (by kernel_rfl) (fun _ _ _ h => h) (Or.inl ⟨by rfl, fun wl hSw => ?_⟩) hS0 ?_
                · (try dsimp only at hSw); go_simp
                refine wpAnyF_take (i := 13) (v := .int .i64 (td : Int)) rfl (by kernel_rfl) (by kernel_rfl) (by kernel_rfl) (by kernel_rfl) (fun _ _ _ h => h) (Or.inl ⟨by rfl, fun wl hSw => ?_⟩) hS0 ?_
                · (try dsimp only at hSw); go_simp
                refine wpAnyF_take (i := 14) (v := .int .i64 (x : Int)) rfl (by kernel_rfl) (by kernel_rfl) (by kernel_rfl) (by kernel_rfl) (fun _ _ _ h => h) (Or.inl ⟨by rfl, fun wl hSw => ?_⟩) hS0 ?_
                · (try dsimp only at hSw); go_simp
                refine wpAnyF_take (i := 15) (v := .int .i64 ((o + 1 : Nat) : Int)) rfl (by kernel_rfl) (by kernel_rfl) (by kernel_rfl) (by kernel_rfl) (fun _ _ _ h => h) (Or.inl ⟨by rfl, fun wl hSw => ?_⟩) hS0 ?_
                · (try dsimp only at hSw); go_simp
                refine wpAnyF_take (i := 17) (v := .pointer (some ⟨q, 4, none⟩)) rfl (by kernel_rfl) (by kernel_rfl) (by kernel_rfl) (by kernel_rfl) (fun _ _ _ h => h) (Or.inl ⟨by rfl, fun wl hSw => ?_⟩) hS0 ?_
                · (try dsimp only at hSw); go_simp
                refine wpAnyF_take (i := 18) (v := .int .i64 wa) rfl (by kernel_rfl) (by kernel_rfl) (by kernel_rfl) (by kernel_rfl) (fun _ _ _ h => h) (Or.inl ⟨by rfl, fun wl hSw => ?_⟩) hS0 ?_
                · (try dsimp only at hSw); go_simp
                refine wpAnyF_take (i := 19) (v := .pointer (some ⟨D, 4, none⟩)) rfl (by kernel_rfl) (by kernel_rfl) (by kernel_rfl) (by kernel_rfl) (fun _ _ _ h => h) (Or.inl ⟨by rfl, fun wl hSw => ?_⟩) hS0 ?_
                · (try dsimp only at hSw); go_simp
                refine wpAnyF_take (i := 20) (v := .int .i64 wd) rfl (by kernel_rfl) (by kernel_rfl) (by kernel_rfl) (by kernel_rfl) (fun _ _ _ h => h) (Or.inl ⟨by rfl, fun wl hSw => ?_⟩) hS0 ?_
                · (try dsimp only at hSw); go_simp
                refine wpAnyF_take (i := 21) (v := .int .i64 (wa + wd)) rfl (by kernel_rfl) (by kernel_rfl) (by kernel_rfl) (by kernel_rfl) (fun _ _ _ h => h) (Or.inl ⟨by rfl, fun wl hSw => ?_⟩) hS0 ?_
                · (try dsimp only at hSw); go_simp
                refine wpAnyF_one (i := 8) rfl (by kernel_rfl) (fun Kc hKc => ?_)
                go_simp
                refine hat1.mono ?_
                rintro e w1 ⟨rfl, rfl⟩
                refine hKc.out _ _ ⟨fun _ => hS0, ?_⟩
                clear hKc Kc
                refine wpAnyF_one (i := 16) rfl (by kernel_rfl) (fun Kc hKc => ?_)
                go_simp
                refine hat2.mono ?_
                rintro e w1 ⟨rfl, rfl⟩
                refine hKc.out _ _ ⟨fun _ => hS0, ?_⟩
                clear hKc Kc
                refine wpAnyF_one (i := 22) rfl (by kernel_rfl) (fun Kc hKc => ?_)
                go_simp
                refine hbet.mono ?_
                rintro e w1 ⟨rfl, hS1, hK1⟩
                refine hKc.out _ _ ⟨fun _ => ⟨box_cell (k := 0) (hqf _ hK1) rfl, box_cell (k := 3) (hqf _ hK1) rfl, box_cell (k := 4) (hqf _ hK1) rfl, box_cell (k := 0) (hdf _ hK1) rfl, box_cell (k := 3) (hdf _ hK1) rfl, box_cell (k := 4) (hdf _ hK1) rfl⟩, ?_⟩
                clear hKc Kc
                refine wpAnyF_done (by kernel_rfl) ?_ _
                refine NoPanic.normal ?_
                clear hat1 hat2 hbet hS0
                have hS3 := hS1
                rw [HUV.out.1, HUV.out.2] at hS3
                go_wp2
                go_roundw
                case rel => exact ⟨j + 1, _, _, by omega, by go_num, hS3, hKb.trans ((BK.of_bel hbd).trans hK1), HGO.out (o + 1) (by first | exact rfl | exact trivial) HF.out (by unfold usedBy; rw [if_neg HQ0.out])⟩
                case measure => simp [intOf]; omega
              · have HF : Hid (fitB outs o dq = false) := fit_no2 hq0 (by rw [hov]; exact hoq)
                have hoqb : (ov != dq) = true := by simpa using hoq
                clear hov hxo hq0 hoq
                refine wp_region_quiet_lit (by kernel_rfl) (by kernel_rfl) ?_
                repeat (first | ((with_unfolding_none refine quiet_yes ?hy (fun K hK => ?_)); (case hy => exact rfl); go_simp; (with_unfolding_none refine hK _ ?_); clear hK K) | ((with_unfolding_none refine quiet_no ?hy (fun K hK => ?_)); (case hy => exact rfl); go_simp; (with_unfolding_none refine hK _ ?_); clear hK K))
                refine wpQuiet_nil ?_
                intro _ hw'
                obtain ⟨nq, hw''⟩ := hw'
                subst hw''
                go_wp2
                go_roundw
                case rel => exact ⟨j + 1, c', ch', by omega, by go_num, hSa.bel (bel_drewN (bel_self W1) _), hKa.trans (BK.of_bel (bel_drewN (bel_self W1) _)), HSKIP.out (Or.inr HF.out)⟩
                case measure => simp [intOf]; omega
        · have hdb : (dp != ao) = true := by simpa using hda
          refine wp_region_quiet_lit (by kernel_rfl) (by kernel_rfl) ?_
          repeat (first | ((with_unfolding_none refine quiet_yes ?hy (fun K hK => ?_)); (case hy => exact rfl); go_simp; (with_unfolding_none refine hK _ ?_); clear hK K) | ((with_unfolding_none refine quiet_no ?hy (fun K hK => ?_)); (case hy => exact rfl); go_simp; (with_unfolding_none refine hK _ ?_); clear hK K))
          refine wpQuiet_nil ?_
          intro _ hw'
          obtain ⟨nq, hw''⟩ := hw'
          subst hw''
          go_wp2
          go_roundw
          case rel => exact ⟨j + 1, c', ch', by omega, by go_num, hSa.bel (bel_drewN (bel_self W1) _), hKa.trans (BK.of_bel (bel_drewN (bel_self W1) _)), HSKIP.out (Or.inl hda)⟩
          case measure => simp [intOf]; omega
      · obtain rfl : j = mc := by omega
        have hnl : ¬ ((j : Int) < j) := by omega
        go_wp2
        exact HK.out hS' hK' (hR'.mono fun r => ⟨r.1, fun _ d hd h1 h2 => by
          obtain ⟨j', hj'⟩ := List.getElem?_of_mem hd
          have := (List.getElem?_eq_some_iff.1 hj').1
          exact r.2 j' d (by omega) hj' h1 h2⟩)
  · have HOUT : Hid (¬ 0 < a.out) := hout
    go_loopw [22] (fun t22 wx => t22 = .int .i64 0 ∧ wx = W) (fun _ _ => 0)
    case atStart => exact ⟨rfl, rfl⟩
    case round =>
      obtain ⟨rfl, rfl⟩ := hrel
      obtain ⟨g1, g2, g3, g4, g5⟩ := HX.out.box wr hS.kx
      have y3 := box_cell (k := 3) g2 rfl
      have q2 := box_cell (k := 2) hq rfl
      by_cases hm0 : mc = 0
      · subst hm0
        go_wp2
        exact HK.out hS BK.refl (hR.mono fun r => ⟨r, fun e => by have := HOUT.out; omega⟩)
      · have hmi : (0 : Int) < mc := by omega
        go_wp2
        exact HK.out hS BK.refl (hR.mono fun r => ⟨r, fun e => by have := HOUT.out; omega⟩)
end Go.Proofs.Yteehgcbjmdideaa
