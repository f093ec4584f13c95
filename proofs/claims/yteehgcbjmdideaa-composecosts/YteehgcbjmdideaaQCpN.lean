/- Loops of 'ComposedOf': the second one goes alone. (Made by wip/gen/cpl.py.) -/
import Derived.Test.YteehgcbjmdideaaQM23
namespace Go.Proofs.Yteehgcbjmdideaa
open Go.RowKit
attribute [local go_sem ↓] Go.wp_at_zero Go.wp_at_succ

set_option maxHeartbeats 1000000 in
set_option maxRecDepth 100000 in
theorem loop9 {f g : FstD} {ins outs : List Int} {N M s0 t0 : Nat} {fi fj : Value} {aa : Option Addr} {m ac : Nat} {ca : Option Addr} {mc cc : Nat} {ia : Option Addr} {il ic : Nat} {oa : Option Addr} {ol oc Bf Bg Bo Bs Bc C T : Nat} {w0 : World} {i o y q H k : Nat} {c0 c : List Int} {ch : Bool} {R : Prop} {W : World} {u0 u1 u3 u6 u8 u10 u12 u18 u19 u20 u21 u22 u23 u24 u25 u29 u30 u31 u32 u33 u34 u35 u36 u37 u38 u39 u40 u41 u42 u43 u44 u45 u46 u47 u48 u49 u50 u51 u52 u53 u54 u55 u56 u57 u58 u59 u60 u61 u62 u63 u64 u65 u66 u67 u68 u69 u70 u71 u72 u73 u74 u75 u76 u77 u78 u79 u80 u81 u82 u83 u84 u85 u86 u87 u88 u89 u90 u91 u92 u93 u94 u95 u96 u97 u98 u99 u100 u101 u102 u103 u104 u105 u106 u107 u108 u109 u110 u111 u112 u113 u114 u115 u116 u117 u118 u119 u120 u121 u122 u123 u124 u125 u126 u127 u128 u129 u130 u131 u132 u133 u134 u135 u136 u137 u138 u139 u140 u141 u142 u143 u144 u145 u146 u147 u148 u149 u150 u151 u152 u153 u154 u155 u156 u157 u158 u159 u160 u161 u162 u163 u164 u165 u166 u167 u168 u169 u170 u171 u172 u173 u174 u175 u176 u177 u178 u179 u180 u181 u182 u183 u184 u185 u186 u187 u188 u189 u190 u191 u192 u193 u194 u195 u196 u197 u198 u199 u200 u201 u202 u203 u204 u205 u206 u207 u208 u209 u210 u211 u212 u213 u214 u215 u216 u217 u218 u219 u220 u221 u222 u223 u224 u225 u226 u227 u228 u229 u230 u231 u232 u233 u234 u235 u236 u237 u238 u239 u240 u241 u242 u243 u244 u245 u246 u247 u248 u249 u250 u251 u252 u253 u254 u255 u256 u257 u258 u259 u260 u261 u262 u263 u264 u265 u266 u267 u268 u269 u270 u271 u272 u273 u274 u275 u276 u277 u278 u279 u280 u281 u282 u283 u284 u285 u286 u287 u288 u289 u290 u291 u292 u293 u294 u295 u296 u297 u298 u299 u300 u301 u302 u303 u304 u305 u306 u307 u308 u309 u310 u311 u312 u313 u314 : Value} {cd : Code} {Q : Exit → Act → World → Prop} {a : ArcD}
    (hcd : cd = (loopsOf (Try.f35.body.getD .skip)).getD 8 .skip) (hX : CX f g ins outs N M s0 t0 fi fj aa m ac ca mc cc ia il ic oa ol oc Bf Bg Bo Bs Bc C T w0) (hi : i ≤ il) (ho : o ≤ ol) (hak : g.arcs[k]? = some a) (hin : a.inp = 0) (hfit : fitB outs o a.out = true) (hx : y = usedBy o a.out)
    (hS : SX w0 C H W c ch) (hq : W.heap[q]? = some (.cells #[.int .i64 a.src, .int .i64 a.inp, .int .i64 a.out, .int .i64 a.dst, .int .i64 a.wt] 63 (0, 0))) (hqw : w0.heap.size ≤ q) (hqH : q ≠ H) (hR : RI (EC f g N M ins outs) (bgC N M s0 t0 ins outs) c0 c ch R)
    (HK : Hid (∀ {x28 x252 x253 x254 x255 x256 x257 x258 x259 x260 x261 x262 x263 x264 x265 x266 x267 x268 x269 x270 x271 x272 x273 x274 x275 : Value} {W' : World} {c' : List Int} {ch' : Bool}, SX w0 C H W' c' ch' → BK W W' C H → RI (EC f g N M ins outs) (bgC N M s0 t0 ins outs) c0 c' ch' (R ∧ ∀ z : Nat, z < N → Rx c0 (edgeC N M outs.length i o ((z : Int), a.src) (sndS z a))) → Q (.exit 16) { tmps := #[u0, u1, .slice ia il ic, u3, .pointer (some ⟨Bf, 0, none⟩), .pointer (some ⟨Bg, 0, none⟩), u6, .pointer (some ⟨Bo, 0, none⟩), u8, .pointer (some ⟨Bs, 0, none⟩), u10, .pointer (some ⟨Bc, 0, none⟩), u12, .func (.func 80) #[] #[.pointer (some ⟨Bo, 0, none⟩), .pointer (some ⟨Bs, 0, none⟩), .pointer (some ⟨Bg, 0, none⟩)], .pointer (some ⟨H, 0, none⟩), .func (.func 81) #[] #[.pointer (some ⟨Bc, 0, none⟩), .pointer (some ⟨H, 0, none⟩)], .int .i64 (i : Int), .int .i64 (o : Int), u18, u19, u20, u21, u22, u23, u24, u25, .pointer (some ⟨q, 0, none⟩), .int .i64 (y : Int), x28, u29, u30, u31, u32, u33, u34, u35, u36, u37, u38, u39, u40, u41, u42, u43, u44, u45, u46, u47, u48, u49, u50, u51, u52, u53, u54, u55, u56, u57, u58, u59, u60, u61, u62, u63, u64, u65, u66, u67, u68, u69, u70, u71, u72, u73, u74, u75, u76, u77, u78, u79, u80, u81, u82, u83, u84, u85, u86, u87, u88, u89, u90, u91, u92, u93, u94, u95, u96, u97, u98, u99, u100, u101, u102, u103, u104, u105, u106, u107, u108, u109, u110, u111, u112, u113, u114, u115, u116, u117, u118, u119, u120, u121, u122, u123, u124, u125, u126, u127, u128, u129, u130, u131, u132, u133, u134, u135, u136, u137, u138, u139, u140, u141, u142, u143, u144, u145, u146, u147, u148, u149, u150, u151, u152, u153, u154, u155, u156, u157, u158, u159, u160, u161, u162, u163, u164, u165, u166, u167, u168, u169, u170, u171, u172, u173, u174, u175, u176, u177, u178, u179, u180, u181, u182, u183, u184, u185, u186, u187, u188, u189, u190, u191, u192, u193, u194, u195, u196, u197, u198, u199, u200, u201, u202, u203, u204, u205, u206, u207, u208, u209, u210, u211, u212, u213, u214, u215, u216, u217, u218, u219, u220, u221, u222, u223, u224, u225, u226, u227, u228, u229, u230, u231, u232, u233, u234, u235, u236, u237, u238, u239, u240, u241, u242, u243, u244, u245, u246, u247, u248, u249, u250, u251, x252, x253, x254, x255, x256, x257, x258, x259, x260, x261, x262, x263, x264, x265, x266, x267, x268, x269, x270, x271, x272, x273, x274, x275, u276, u277, u278, u279, u280, u281, u282, u283, u284, u285, u286, u287, u288, u289, u290, u291, u292, u293, u294, u295, u296, u297, u298, u299, u300, u301, u302, u303, u304, u305, u306, u307, u308, u309, u310, u311, u312, u313, u314], defers := [] } W')) :
    (Code.loop cd).wp Try.prog Q { tmps := #[u0, u1, .slice ia il ic, u3, .pointer (some ⟨Bf, 0, none⟩), .pointer (some ⟨Bg, 0, none⟩), u6, .pointer (some ⟨Bo, 0, none⟩), u8, .pointer (some ⟨Bs, 0, none⟩), u10, .pointer (some ⟨Bc, 0, none⟩), u12, .func (.func 80) #[] #[.pointer (some ⟨Bo, 0, none⟩), .pointer (some ⟨Bs, 0, none⟩), .pointer (some ⟨Bg, 0, none⟩)], .pointer (some ⟨H, 0, none⟩), .func (.func 81) #[] #[.pointer (some ⟨Bc, 0, none⟩), .pointer (some ⟨H, 0, none⟩)], .int .i64 (i : Int), .int .i64 (o : Int), u18, u19, u20, u21, u22, u23, u24, u25, .pointer (some ⟨q, 0, none⟩), .int .i64 (y : Int), .int .i64 0, u29, u30, u31, u32, u33, u34, u35, u36, u37, u38, u39, u40, u41, u42, u43, u44, u45, u46, u47, u48, u49, u50, u51, u52, u53, u54, u55, u56, u57, u58, u59, u60, u61, u62, u63, u64, u65, u66, u67, u68, u69, u70, u71, u72, u73, u74, u75, u76, u77, u78, u79, u80, u81, u82, u83, u84, u85, u86, u87, u88, u89, u90, u91, u92, u93, u94, u95, u96, u97, u98, u99, u100, u101, u102, u103, u104, u105, u106, u107, u108, u109, u110, u111, u112, u113, u114, u115, u116, u117, u118, u119, u120, u121, u122, u123, u124, u125, u126, u127, u128, u129, u130, u131, u132, u133, u134, u135, u136, u137, u138, u139, u140, u141, u142, u143, u144, u145, u146, u147, u148, u149, u150, u151, u152, u153, u154, u155, u156, u157, u158, u159, u160, u161, u162, u163, u164, u165, u166, u167, u168, u169, u170, u171, u172, u173, u174, u175, u176, u177, u178, u179, u180, u181, u182, u183, u184, u185, u186, u187, u188, u189, u190, u191, u192, u193, u194, u195, u196, u197, u198, u199, u200, u201, u202, u203, u204, u205, u206, u207, u208, u209, u210, u211, u212, u213, u214, u215, u216, u217, u218, u219, u220, u221, u222, u223, u224, u225, u226, u227, u228, u229, u230, u231, u232, u233, u234, u235, u236, u237, u238, u239, u240, u241, u242, u243, u244, u245, u246, u247, u248, u249, u250, u251, u252, u253, u254, u255, u256, u257, u258, u259, u260, u261, u262, u263, u264, u265, u266, u267, u268, u269, u270, u271, u272, u273, u274, u275, u276, u277, u278, u279, u280, u281, u282, u283, u284, u285, u286, u287, u288, u289, u290, u291, u292, u293, u294, u295, u296, u297, u298, u299, u300, u301, u302, u303, u304, u305, u306, u307, u308, u309, u310, u311, u312, u313, u314], defers := [] } W := by
  simp only [Try.f35, loopsOf, List.append_eq, List.nil_append, List.cons_append, List.append_nil, List.getD_cons_zero, List.getD_cons_succ, Option.getD_some] at hcd
  subst hcd
  dsimp only
  obtain ⟨n1, _, hn1, _, _, _, _, hnm⟩ := hX.kg.nums
  have hnN : n1 = M := by have := hX.hM; omega
  rw [hnN] at hnm
  obtain ⟨⟨p1, p2⟩, ⟨p3, p4⟩, ⟨p5, p6⟩, ⟨p7, p8⟩, p9, p10⟩ := hnm a (List.mem_of_getElem? hak)
  have HX : Hid (CX f g ins outs N M s0 t0 fi fj aa m ac ca mc cc ia il ic oa ol oc Bf Bg Bo Bs Bc C T w0) := hX
  have HXU : Hid (y = usedBy o a.out) := hx
  have HIN : Hid (a.inp = 0) := hin
  clear hx hin
  go_loopw [28] (fun t28 wx => ∃ (z : Nat) (c' : List Int) (ch' : Bool), z ≤ N ∧ t28 = .int .i64 (z : Int) ∧ SX w0 C H wx c' ch' ∧ BK W wx C H ∧ RI (EC f g N M ins outs) (bgC N M s0 t0 ins outs) c0 c' ch' (R ∧ ∀ v : Nat, v < z → Rx c0 (edgeC N M outs.length i o ((v : Int), a.src) (sndS v a)))) (fun t28 _ => N - (intOf t28).toNat)
  case atStart => exact ⟨0, c, ch, Nat.zero_le _, rfl, hS, BK.refl, hR.mono fun r => ⟨r, fun y hy => absurd hy (Nat.not_lt_zero _)⟩⟩
  case round =>
    obtain ⟨z, c', ch', hz, rfl, hS', hK', hR'⟩ := hrel
    obtain ⟨g1, g2, g3, g4, g5⟩ := HX.out.box wr hS'.kx
    have hCw := hS'.hC
    have hq' := (hK'.block q (heap_lt hq) (by omega) hqH).trans hq
    have y0 := box_cell (k := 0) g1 rfl
    by_cases hlt : z < N
    · have hlti : (z : Int) < N := by omega
      have hwy : y ≤ ol := by rw [HXU.out, ← hX.hol]; exact usedBy_le hfit (by rw [hX.hol]; exact ho)
      obtain ⟨p, hp⟩ : ∃ p : Nat, a.src = (p : Int) := ⟨a.src.toNat, (Int.toNat_of_nonneg p1).symm⟩
      obtain ⟨d, hd⟩ : ∃ d : Nat, a.dst = (d : Int) := ⟨a.dst.toNat, (Int.toNat_of_nonneg p3).symm⟩
      obtain ⟨wt, hwt⟩ : ∃ wt, wt = a.wt := ⟨_, rfl⟩
      have hpN : p < M := by omega
      have hdN : d < M := by omega
      have HE : Hid (edgeC N M outs.length i o ((z : Int), a.src) (sndS z a) = ⟨spC M (N * M) ol z p i o, spC M (N * M) ol z d i y, wt⟩) := by
        unfold edgeC sndS
        show (⟨spC M (N * M) outs.length (z : Int).toNat a.src.toNat i o, spC M (N * M) outs.length (z : Int).toNat a.dst.toNat (usedBy i 0) (usedBy o a.out), a.wt⟩ : Edg) = _
        rw [hp, hd, hwt, HXU.out, hX.hol, Int.toNat_natCast, Int.toNat_natCast, Int.toNat_natCast]
        exact (rfl : _ = _)
      have HTOP : Hid (c'.length = T ∧ ∀ x, gI c' x ≤ 800002000000000) := hX.top hR'
      have HSP : Hid (spC M (N * M) ol z p i o < T ∧ spC M (N * M) ol z d i y < T) := ⟨hX.spot hi ho hlt hpN, hX.spot hi hwy hlt hdN⟩
      have HR2 := hX.rel (x := ((z : Int), a.src)) (s := sndS z a) hi ho ⟨⟨by show (0 : Int) ≤ (z : Int); omega, by show (z : Int) < f.states; rw [hX.hN]; omega⟩, p1, by rw [hX.hM]; omega⟩ (mem_stp.2 (Or.inr (Or.inr ⟨a, List.mem_of_getElem? hak, rfl, HIN.out, rfl⟩))) (by show fitB ins i 0 = true; rfl) hfit hR'
      have HR3 : Hid (RI (EC f g N M ins outs) (bgC N M s0 t0 ins outs) c0 (relE c' ⟨spC M (N * M) ol z p i o, spC M (N * M) ol z d i y, wt⟩) (chB ch' c' ⟨spC M (N * M) ol z p i o, spC M (N * M) ol z d i y, wt⟩) (R ∧ ∀ v : Nat, v < z + 1 → Rx c0 (edgeC N M outs.length i o ((v : Int), a.src) (sndS v a)))) := by
        rw [← HE.out]
        refine HR2.mono fun r => ⟨r.1.1, fun v hv => ?_⟩
        by_cases e : v = z
        · subst e; exact r.2
        · exact r.1.2 v (by omega)
      have hNM := hX.NM
      have hN2 := hX.hN2
      have hM2 := hX.hM2
      have hi40 := hX.hi40
      have ho40 := hX.ho40
      have hzw : IntKind.i64.wrap ((z : Int) + 1) = (z : Int) + 1 := wrap_in _ (by omega) (by omega)
      rw [hp, hd, ← hwt] at hq'
      have hwt2 : wt ≤ 1000000000 := by omega
      clear HR2 hp hd hwt HE g1 g2 g3 g4 g5
      go_wp2
      clear y0
      obtain ⟨Wd, hWd⟩ : ∃ Wd, Wd = wr.drew := ⟨_, rfl⟩
      have hbd : Below wr.heap.size wr Wd := by rw [hWd]; exact (bel_self wr).drew
      have hSd := hS'.bel hbd
      have HWD : Hid (Wd = wr.drew) := hWd
      obtain ⟨b1, b2, b3, b4, b5⟩ := HX.out.box Wd hSd.kx
      have hS0 : (fun wx : World => wx.cell? ⟨q, 0, none⟩ = some (.int .i64 (p : Int)) ∧ wx.cell? ⟨q, 3, none⟩ = some (.int .i64 (d : Int)) ∧ wx.cell? ⟨q, 4, none⟩ = some (.int .i64 wt)) Wd := ⟨box_cell (k := 0) (heap_bel hbd hq') rfl, box_cell (k := 3) (heap_bel hbd hq') rfl, box_cell (k := 4) (heap_bel hbd hq') rfl⟩
      have hat1 := at_any z p i o (N * M) M ol _ oc Bo Bs Bg Wd (box_cell (k := 0) b3 rfl) (box_cell (k := 0) b4 rfl) (box_cell (k := 0) b2 rfl) (by omega) (by omega) (by omega) (by omega) (by omega) (by omega) (by omega)
      have hat2 := at_any z d i y (N * M) M ol _ oc Bo Bs Bg Wd (box_cell (k := 0) b3 rfl) (box_cell (k := 0) b4 rfl) (box_cell (k := 0) b2 rfl) (by omega) (by omega) (by omega) (by omega) (by omega) (by omega) (by omega)
      have hbet := better_any w0 C H c' ch' _ _ T Bc wt Wd hSd (box_cell (k := 0) b5 rfl) HTOP.out.1 HSP.out.1 HSP.out.2 HTOP.out.2 (by omega)
      obtain ⟨U, hU⟩ : ∃ U, U = spC M (N * M) ol z p i o := ⟨_, rfl⟩
      obtain ⟨V, hV⟩ : ∃ V, V = spC M (N * M) ol z d i y := ⟨_, rfl⟩
      have HUV : Hid (U = spC M (N * M) ol z p i o ∧ V = spC M (N * M) ol z d i y) := ⟨hU, hV⟩
      rw [← hU] at hat1 hbet
      rw [← hV] at hat2 hbet
      clear hWd hU hV b1 b2 b3 b4 b5
      have hq1 : ∀ W1, BK Wd W1 C H → W1.heap[q]? = some (.cells #[.int .i64 (p : Int), .int .i64 a.inp, .int .i64 a.out, .int .i64 (d : Int), .int .i64 wt] 63 (0, 0)) := fun W1 hk => (hk.block q (heap_lt (heap_bel hbd hq')) (by omega) hqH).trans (heap_bel hbd hq')
      refine wp_region_noPanic ?_
      refine wp_region_F (fun wx : World => wx.cell? ⟨q, 0, none⟩ = some (.int .i64 (p : Int)) ∧ wx.cell? ⟨q, 3, none⟩ = some (.int .i64 (d : Int)) ∧ wx.cell? ⟨q, 4, none⟩ = some (.int .i64 wt)) [] (by kernel_rfl) (by rw [← HWD.out]; exact hS0) (fun _ => ?_)
      rw [← HWD.out]
      clear HWD
      refine wpAnyF_take (i := 0) (v := .func (.func 81) #[] #[.pointer (some ⟨Bc, 0, none⟩), .pointer (some ⟨H, 0, none⟩)]) rfl (by kernel_rfl) (by kernel_rfl) (by kernel_rfl) (by kernel_rfl) (fun _ _ _ h => h) (Or.inl ⟨by rfl, fun wl hSw => ?_⟩) hS0 ?_
      · (try dsimp only at hSw); go_simp
      refine wpAnyF_take (i := 1) (v := .func (.func 80) #[] #[.pointer (some ⟨Bo, 0, none⟩), .pointer (some ⟨Bs, 0, none⟩), .pointer (some ⟨Bg, 0, none⟩)]) rfl (by kernel_rfl) (by kernel_rfl) (by kernel_rfl) (by kernel_rfl) (fun _ _ _ h => h) (Or.inl ⟨by rfl, fun wl hSw => ?_⟩) hS0 ?_
      · (try dsimp only at hSw); go_simp
      refine wpAnyF_take (i := 2) (v := .int .i64 (z : Int)) rfl (by kernel_rfl) (by kernel_rfl) (by kernel_rfl) (by kernel_rfl) (fun _ _ _ h => h) (Or.inl ⟨by rfl, fun wl hSw => ?_⟩) hS0 ?_
      · (try dsimp only at hSw); go_simp
      refine wpAnyF_take (i := 3) (v := .pointer (some ⟨q, 0, none⟩)) rfl (by kernel_rfl) (by kernel_rfl) (by kernel_rfl) (by kernel_rfl) (fun _ _ _ h => h) (Or.inl ⟨by rfl, fun wl hSw => ?_⟩) hS0 ?_
      · (try dsimp only at hSw); go_simp
      refine wpAnyF_take (i := 4) (v := .int .i64 (p : Int)) rfl (by kernel_rfl) (by kernel_rfl) (by kernel_rfl) (by kernel_rfl) (fun _ _ _ h => h) (Or.inl ⟨by rfl, fun wl hSw => ?_⟩) hS0 ?_
      · (try dsimp only at hSw); go_simp
      refine wpAnyF_take (i := 5) (v := .int .i64 (i : Int)) rfl (by kernel_rfl) (by kernel_rfl) (by kernel_rfl) (by kernel_rfl) (fun _ _ _ h => h) (Or.inl ⟨by rfl, fun wl hSw => ?_⟩) hS0 ?_
      · (try dsimp only at hSw); go_simp
      refine wpAnyF_take (i := 6) (v := .int .i64 (o : Int)) rfl (by kernel_rfl) (by kernel_rfl) (by kernel_rfl) (by kernel_rfl) (fun _ _ _ h => h) (Or.inl ⟨by rfl, fun wl hSw => ?_⟩) hS0 ?_
      · (try dsimp only at hSw); go_simp
      refine wpAnyF_take (i := 8) (v := .func (.func 80) #[] #[.pointer (some ⟨Bo, 0, none⟩), .pointer (some ⟨Bs, 0, none⟩), .pointer (some ⟨Bg, 0, none⟩)]) rfl (by kernel_rfl) (by kernel_rfl) (by kernel_rfl) (by kernel_rfl) (fun _ _ _ h => h) (Or.inl ⟨by rfl, fun wl hSw => ?_⟩) hS0 ?_
      · (try dsimp only at hSw); go_simp
      refine wpAnyF_take (i := 9) (v := .int .i64 (z : Int)) rfl (by kernel_rfl) (by kernel_rfl) (by kernel_rfl) (by kernel_rfl) (fun _ _ _ h => h) (Or.inl ⟨by rfl, fun wl hSw => ?_⟩) hS0 ?_
      · (try dsimp only at hSw); go_simp
      refine wpAnyF_take (i := 10) (v := .pointer (some ⟨q, 3, none⟩)) rfl (by kernel_rfl) (by kernel_rfl) (by kernel_rfl) (by kernel_rfl) (fun _ _ _ h => h) (Or.inl ⟨by rfl, fun wl hSw => ?_⟩) hS0 ?_
      · (try dsimp only at hSw); go_simp
      refine wpAnyF_take (i := 11) (v := .int .i64 (d : Int)) rfl (by kernel_rfl) (by kernel_rfl) (by kernel_rfl) (by kernel_rfl) (fun _ _ _ h => h) (Or.inl ⟨by rfl, fun wl hSw => ?_⟩) hS0 ?_
      · (try dsimp only at hSw); go_simp
      refine wpAnyF_take (i := 12) (v := .int .i64 (i : Int)) rfl (by kernel_rfl) (by kernel_rfl) (by kernel_rfl) (by kernel_rfl) (fun _ _ _ h => h) (Or.inl ⟨by rfl, fun wl hSw => ?_⟩) hS0 ?_
      · (try dsimp only at hSw); go_simp
      refine wpAnyF_take (i := 13) (v := .int .i64 (y : Int)) rfl (by kernel_rfl) (by kernel_rfl) (by kernel_rfl) (by kernel_rfl) (fun _ _ _ h => h) (Or.inl ⟨by rfl, fun wl hSw => ?_⟩) hS0 ?_
      · (try dsimp only at hSw); go_simp
      refine wpAnyF_take (i := 15) (v := .pointer (some ⟨q, 4, none⟩)) rfl (by kernel_rfl) (by kernel_rfl) (by kernel_rfl) (by kernel_rfl) (fun _ _ _ h => h) (Or.inl ⟨by rfl, fun wl hSw => ?_⟩) hS0 ?_
      · (try dsimp only at hSw); go_simp
      refine wpAnyF_take (i := 16) (v := .int .i64 wt) rfl (by kernel_rfl) (by kernel_rfl) (by kernel_rfl) (by kernel_rfl) (fun _ _ _ h => h) (Or.inl ⟨by rfl, fun wl hSw => ?_⟩) hS0 ?_
      · (try dsimp only at hSw); go_simp
      refine wpAnyF_one (i := 7) rfl (by kernel_rfl) (fun Kc hKc => ?_)
      go_simp
      refine hat1.mono ?_
      rintro e w1 ⟨rfl, rfl⟩
      refine hKc.out _ _ ⟨fun _ => hS0, ?_⟩
      clear hKc Kc
      refine wpAnyF_one (i := 14) rfl (by kernel_rfl) (fun Kc hKc => ?_)
      go_simp
      refine hat2.mono ?_
      rintro e w1 ⟨rfl, rfl⟩
      refine hKc.out _ _ ⟨fun _ => hS0, ?_⟩
      clear hKc Kc
      refine wpAnyF_one (i := 17) rfl (by kernel_rfl) (fun Kc hKc => ?_)
      go_simp
      refine hbet.mono ?_
      rintro e w1 ⟨rfl, hS1, hK1⟩
      refine hKc.out _ _ ⟨fun _ => ⟨box_cell (k := 0) (hq1 _ hK1) rfl, box_cell (k := 3) (hq1 _ hK1) rfl, box_cell (k := 4) (hq1 _ hK1) rfl⟩, ?_⟩
      clear hKc Kc
      refine wpAnyF_done (by kernel_rfl) ?_ _
      refine NoPanic.normal ?_
      clear hat1 hat2 hbet hS0
      have hS2 := hS1
      rw [HUV.out.1, HUV.out.2] at hS2
      go_wp2
      go_roundw
      case rel => exact ⟨z + 1, _, _, by omega, by go_num, hS2, hK'.trans ((BK.of_bel hbd).trans hK1), HR3.out⟩
      case measure => simp [intOf]; omega
    · obtain rfl : z = N := by omega
      have hnl : ¬ ((z : Int) < z) := by omega
      go_wp2
      exact HK.out hS' hK' hR'
end Go.Proofs.Yteehgcbjmdideaa
