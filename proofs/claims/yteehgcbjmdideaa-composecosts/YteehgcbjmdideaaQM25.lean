/- Loops of 'ComposedOf': the places of both words. (Made by wip/gen/cpl.py.) -/
import Derived.Test.YteehgcbjmdideaaQM24
namespace Go.Proofs.Yteehgcbjmdideaa
open Go.RowKit
attribute [local go_sem ↓] Go.wp_at_zero Go.wp_at_succ

theorem allOk_step {f g : FstD} {N M : Nat} {ins outs c : List Int} {i o : Nat} (ho : o ≤ outs.length) (h : allOk f g N M ins outs c (i * (outs.length + 1) + o)) (h1 : fOk f g N M ins outs c i o f.arcs.length) (h2 : gOk g N M outs c i o g.arcs.length) : allOk f g N M ins outs c (i * (outs.length + 1) + (o + 1)) := by
  intro i' o' hk hi' ho'
  by_cases e : i' * (outs.length + 1) + o' = i * (outs.length + 1) + o
  · obtain ⟨e1, e2⟩ := mul_add_inj (by omega) (by omega) e
    subst e1
    subst e2
    exact ⟨h1, h2⟩
  · exact h i' o' (by omega) hi' ho'

set_option maxHeartbeats 1600000 in
set_option maxRecDepth 100000 in
theorem loopO {f g : FstD} {ins outs : List Int} {N M s0 t0 : Nat} {fi fj : Value} {aa : Option Addr} {m ac : Nat} {ca : Option Addr} {mc cc : Nat} {ia : Option Addr} {il ic : Nat} {oa : Option Addr} {ol oc Bf Bg Bo Bs Bc C T : Nat} {w0 : World} {i H : Nat} {c0 c : List Int} {ch : Bool} {W : World} {u0 u1 u3 u6 u8 u10 u12 u18 u19 u20 u21 u22 u23 u24 u25 u26 u27 u28 u29 u30 u31 u32 u33 u34 u35 u36 u37 u38 u39 u40 u41 u42 u43 u44 u45 u46 u47 u48 u49 u50 u51 u52 u53 u54 u55 u56 u57 u58 u59 u60 u61 u62 u63 u64 u65 u66 u67 u68 u69 u70 u71 u72 u73 u74 u75 u76 u77 u78 u79 u80 u81 u82 u83 u84 u85 u86 u87 u88 u89 u90 u91 u92 u93 u94 u95 u96 u97 u98 u99 u100 u101 u102 u103 u104 u105 u106 u107 u108 u109 u110 u111 u112 u113 u114 u115 u116 u117 u118 u119 u120 u121 u122 u123 u124 u125 u126 u127 u128 u129 u130 u131 u132 u133 u134 u135 u136 u137 u138 u139 u140 u141 u142 u143 u144 u145 u146 u147 u148 u149 u150 u151 u152 u153 u154 u155 u156 u157 u158 u159 u160 u161 u162 u163 u164 u165 u166 u167 u168 u169 u170 u171 u172 u173 u174 u175 u176 u177 u178 u179 u180 u181 u182 u183 u184 u185 u186 u187 u188 u189 u190 u191 u192 u193 u194 u195 u196 u197 u198 u199 u200 u201 u202 u203 u204 u205 u206 u207 u208 u209 u210 u211 u212 u213 u214 u215 u216 u217 u218 u219 u220 u221 u222 u223 u224 u225 u226 u227 u228 u229 u230 u231 u232 u233 u234 u235 u236 u237 u238 u239 u240 u241 u242 u243 u244 u245 u246 u247 u248 u249 u250 u251 u252 u253 u254 u255 u256 u257 u258 u259 u260 u261 u262 u263 u264 u265 u266 u267 u268 u269 u270 u271 u272 u273 u274 u275 u276 u277 u278 u279 u280 u281 u282 u283 u284 u285 u286 u287 u288 u289 u290 u291 u292 u293 u294 u295 u296 u297 u298 u299 u300 u301 u302 u303 u304 u305 u306 u307 u308 u309 u310 u311 u312 u313 u314 : Value} {cd : Code} {Q : Exit → Act → World → Prop}
    (hcd : cd = (loopsOf (Try.f35.body.getD .skip)).getD 3 .skip) (hX : CX f g ins outs N M s0 t0 fi fj aa m ac ca mc cc ia il ic oa ol oc Bf Bg Bo Bs Bc C T w0) (hi : i ≤ il)
    (hS : SX w0 C H W c ch) (hR : RI (EC f g N M ins outs) (bgC N M s0 t0 ins outs) c0 c ch (allOk f g N M ins outs c0 (i * (outs.length + 1))))
    (HK : Hid (∀ {x17 x18 x19 x20 x21 x22 x23 x24 x25 x26 x27 x28 x74 x75 x76 x77 x78 x79 x80 x81 x82 x83 x84 x85 x86 x87 x88 x89 x90 x91 x92 x93 x94 x95 x96 x97 x98 x99 x100 x101 x102 x103 x104 x105 x106 x107 x108 x109 x110 x111 x112 x113 x114 x115 x116 x117 x118 x119 x120 x121 x122 x123 x124 x125 x126 x127 x128 x129 x130 x131 x132 x133 x134 x135 x136 x137 x138 x139 x140 x141 x142 x143 x144 x145 x146 x147 x148 x149 x150 x151 x152 x153 x154 x155 x156 x157 x158 x159 x160 x161 x162 x163 x164 x165 x166 x167 x168 x169 x170 x171 x172 x173 x174 x175 x176 x177 x178 x179 x180 x181 x182 x183 x184 x185 x186 x187 x188 x189 x190 x191 x192 x193 x194 x195 x196 x197 x198 x199 x200 x201 x202 x203 x204 x205 x206 x207 x208 x209 x210 x211 x212 x213 x214 x215 x216 x217 x218 x219 x220 x221 x222 x223 x224 x225 x226 x227 x228 x229 x230 x231 x232 x233 x234 x235 x236 x237 x238 x239 x240 x241 x242 x243 x244 x245 x246 x247 x248 x249 x250 x251 x252 x253 x254 x255 x256 x257 x258 x259 x260 x261 x262 x263 x264 x265 x266 x267 x268 x269 x270 x271 x272 x273 x274 x275 : Value} {W' : World} {c' : List Int} {ch' : Bool}, SX w0 C H W' c' ch' → BK W W' C H → RI (EC f g N M ins outs) (bgC N M s0 t0 ins outs) c0 c' ch' (allOk f g N M ins outs c0 ((i + 1) * (outs.length + 1))) → Q (.exit 6) { tmps := #[u0, u1, .slice ia il ic, u3, .pointer (some ⟨Bf, 0, none⟩), .pointer (some ⟨Bg, 0, none⟩), u6, .pointer (some ⟨Bo, 0, none⟩), u8, .pointer (some ⟨Bs, 0, none⟩), u10, .pointer (some ⟨Bc, 0, none⟩), u12, .func (.func 80) #[] #[.pointer (some ⟨Bo, 0, none⟩), .pointer (some ⟨Bs, 0, none⟩), .pointer (some ⟨Bg, 0, none⟩)], .pointer (some ⟨H, 0, none⟩), .func (.func 81) #[] #[.pointer (some ⟨Bc, 0, none⟩), .pointer (some ⟨H, 0, none⟩)], .int .i64 (i : Int), x17, x18, x19, x20, x21, x22, x23, x24, x25, x26, x27, x28, u29, u30, u31, u32, u33, u34, u35, u36, u37, u38, u39, u40, u41, u42, u43, u44, u45, u46, u47, u48, u49, u50, u51, u52, u53, u54, u55, u56, u57, u58, u59, u60, u61, u62, u63, u64, u65, u66, u67, u68, u69, u70, u71, u72, u73, x74, x75, x76, x77, x78, x79, x80, x81, x82, x83, x84, x85, x86, x87, x88, x89, x90, x91, x92, x93, x94, x95, x96, x97, x98, x99, x100, x101, x102, x103, x104, x105, x106, x107, x108, x109, x110, x111, x112, x113, x114, x115, x116, x117, x118, x119, x120, x121, x122, x123, x124, x125, x126, x127, x128, x129, x130, x131, x132, x133, x134, x135, x136, x137, x138, x139, x140, x141, x142, x143, x144, x145, x146, x147, x148, x149, x150, x151, x152, x153, x154, x155, x156, x157, x158, x159, x160, x161, x162, x163, x164, x165, x166, x167, x168, x169, x170, x171, x172, x173, x174, x175, x176, x177, x178, x179, x180, x181, x182, x183, x184, x185, x186, x187, x188, x189, x190, x191, x192, x193, x194, x195, x196, x197, x198, x199, x200, x201, x202, x203, x204, x205, x206, x207, x208, x209, x210, x211, x212, x213, x214, x215, x216, x217, x218, x219, x220, x221, x222, x223, x224, x225, x226, x227, x228, x229, x230, x231, x232, x233, x234, x235, x236, x237, x238, x239, x240, x241, x242, x243, x244, x245, x246, x247, x248, x249, x250, x251, x252, x253, x254, x255, x256, x257, x258, x259, x260, x261, x262, x263, x264, x265, x266, x267, x268, x269, x270, x271, x272, x273, x274, x275, u276, u277, u278, u279, u280, u281, u282, u283, u284, u285, u286, u287, u288, u289, u290, u291, u292, u293, u294, u295, u296, u297, u298, u299, u300, u301, u302, u303, u304, u305, u306, u307, u308, u309, u310, u311, u312, u313, u314], defers := [] } W')) :
    (Code.loop cd).wp Try.prog Q { tmps := #[u0, u1, .slice ia il ic, u3, .pointer (some ⟨Bf, 0, none⟩), .pointer (some ⟨Bg, 0, none⟩), u6, .pointer (some ⟨Bo, 0, none⟩), u8, .pointer (some ⟨Bs, 0, none⟩), u10, .pointer (some ⟨Bc, 0, none⟩), u12, .func (.func 80) #[] #[.pointer (some ⟨Bo, 0, none⟩), .pointer (some ⟨Bs, 0, none⟩), .pointer (some ⟨Bg, 0, none⟩)], .pointer (some ⟨H, 0, none⟩), .func (.func 81) #[] #[.pointer (some ⟨Bc, 0, none⟩), .pointer (some ⟨H, 0, none⟩)], .int .i64 (i : Int), .int .i64 0, u18, u19, u20, u21, u22, u23, u24, u25, u26, u27, u28, u29, u30, u31, u32, u33, u34, u35, u36, u37, u38, u39, u40, u41, u42, u43, u44, u45, u46, u47, u48, u49, u50, u51, u52, u53, u54, u55, u56, u57, u58, u59, u60, u61, u62, u63, u64, u65, u66, u67, u68, u69, u70, u71, u72, u73, u74, u75, u76, u77, u78, u79, u80, u81, u82, u83, u84, u85, u86, u87, u88, u89, u90, u91, u92, u93, u94, u95, u96, u97, u98, u99, u100, u101, u102, u103, u104, u105, u106, u107, u108, u109, u110, u111, u112, u113, u114, u115, u116, u117, u118, u119, u120, u121, u122, u123, u124, u125, u126, u127, u128, u129, u130, u131, u132, u133, u134, u135, u136, u137, u138, u139, u140, u141, u142, u143, u144, u145, u146, u147, u148, u149, u150, u151, u152, u153, u154, u155, u156, u157, u158, u159, u160, u161, u162, u163, u164, u165, u166, u167, u168, u169, u170, u171, u172, u173, u174, u175, u176, u177, u178, u179, u180, u181, u182, u183, u184, u185, u186, u187, u188, u189, u190, u191, u192, u193, u194, u195, u196, u197, u198, u199, u200, u201, u202, u203, u204, u205, u206, u207, u208, u209, u210, u211, u212, u213, u214, u215, u216, u217, u218, u219, u220, u221, u222, u223, u224, u225, u226, u227, u228, u229, u230, u231, u232, u233, u234, u235, u236, u237, u238, u239, u240, u241, u242, u243, u244, u245, u246, u247, u248, u249, u250, u251, u252, u253, u254, u255, u256, u257, u258, u259, u260, u261, u262, u263, u264, u265, u266, u267, u268, u269, u270, u271, u272, u273, u274, u275, u276, u277, u278, u279, u280, u281, u282, u283, u284, u285, u286, u287, u288, u289, u290, u291, u292, u293, u294, u295, u296, u297, u298, u299, u300, u301, u302, u303, u304, u305, u306, u307, u308, u309, u310, u311, u312, u313, u314], defers := [] } W := by
  simp only [Try.f35, loopsOf, List.append_eq, List.nil_append, List.cons_append, List.append_nil, List.getD_cons_zero, List.getD_cons_succ, Option.getD_some] at hcd
  subst hcd
  dsimp only
  have HX : Hid (CX f g ins outs N M s0 t0 fi fj aa m ac ca mc cc ia il ic oa ol oc Bf Bg Bo Bs Bc C T w0) := hX
  go_loopw [17] (fun t17 wx => ∃ (z : Nat) (c' : List Int) (ch' : Bool), z ≤ ol + 1 ∧ t17 = .int .i64 (z : Int) ∧ SX w0 C H wx c' ch' ∧ BK W wx C H ∧ RI (EC f g N M ins outs) (bgC N M s0 t0 ins outs) c0 c' ch' (allOk f g N M ins outs c0 (i * (outs.length + 1) + z))) (fun t17 _ => ol + 1 - (intOf t17).toNat)
  case atStart => exact ⟨0, c, ch, Nat.zero_le _, rfl, hS, BK.refl, hR⟩
  case round =>
    obtain ⟨z, c', ch', hz, rfl, hS', hK', hR'⟩ := hrel
    obtain ⟨g1, g2, g3, g4, g5⟩ := HX.out.box wr hS'.kx
    have bo := box_cell (k := 0) g3 rfl
    have HOL : Hid (outs.length = ol) := hX.hol
    have ho40 := hX.ho40
    have hzw : IntKind.i64.wrap ((z : Int) + 1) = (z : Int) + 1 := wrap_in _ (by omega) (by omega)
    clear g1 g2 g3 g4 g5
    by_cases hle : z ≤ ol
    · have hlei : (z : Int) ≤ ol := by omega
      have HST : Hid (∀ c'' ch'', RI (EC f g N M ins outs) (bgC N M s0 t0 ins outs) c0 c'' ch'' ((allOk f g N M ins outs c0 (i * (outs.length + 1) + z) ∧ fOk f g N M ins outs c0 i z f.arcs.length) ∧ gOk g N M outs c0 i z g.arcs.length) → RI (EC f g N M ins outs) (bgC N M s0 t0 ins outs) c0 c'' ch'' (allOk f g N M ins outs c0 (i * (outs.length + 1) + (z + 1)))) := fun c'' ch'' h => h.mono fun r => allOk_step (by rw [HOL.out]; exact hle) r.1.1 r.1.2 r.2
      go_wp2
      refine loop5 (o := z) (by kernel_rfl) hX hi hle hS' hR' ?_
      unfold Hid
      intros
      rename_i W3 c3 ch3 hS3 hK3 hR3
      go_wp2
      refine loop8 (o := z) (by kernel_rfl) hX hi hle hS3 hR3 ?_
      unfold Hid
      intros
      rename_i W4 c4 ch4 hS4 hK4 hR4
      go_wp2
      go_roundw
      case rel => exact ⟨z + 1, c4, ch4, by omega, by go_num, hS4, hK'.trans (hK3.trans hK4), HST.out c4 ch4 hR4⟩
      case measure => simp [intOf]; omega
    · have hnl : ¬ ((z : Int) ≤ ol) := by omega
      have HLAST : Hid (RI (EC f g N M ins outs) (bgC N M s0 t0 ins outs) c0 c' ch' (allOk f g N M ins outs c0 ((i + 1) * (outs.length + 1)))) := by
        have e : i * (outs.length + 1) + z = (i + 1) * (outs.length + 1) := by rw [Nat.succ_mul]; have := HOL.out; omega
        show RI (EC f g N M ins outs) (bgC N M s0 t0 ins outs) c0 c' ch' _
        rw [← e]
        exact hR'
      go_wp2
      exact HK.out hS' hK' HLAST.out
end Go.Proofs.Yteehgcbjmdideaa

/- Loops of 'ComposedOf': a round of the table. (Made by wip/gen/cpl.py.) -/
namespace Go.Proofs.Yteehgcbjmdideaa
open Go.RowKit
attribute [local go_sem ↓] Go.wp_at_zero Go.wp_at_succ

set_option maxHeartbeats 1600000 in
set_option maxRecDepth 100000 in
theorem loopI {f g : FstD} {ins outs : List Int} {N M s0 t0 : Nat} {fi fj : Value} {aa : Option Addr} {m ac : Nat} {ca : Option Addr} {mc cc : Nat} {ia : Option Addr} {il ic : Nat} {oa : Option Addr} {ol oc Bf Bg Bo Bs Bc C T : Nat} {w0 : World} {H : Nat} {c0 c : List Int} {ch : Bool} {W : World} {u0 u1 u3 u6 u8 u10 u12 u17 u18 u19 u20 u21 u22 u23 u24 u25 u26 u27 u28 u29 u30 u31 u32 u33 u34 u35 u36 u37 u38 u39 u40 u41 u42 u43 u44 u45 u46 u47 u48 u49 u50 u51 u52 u53 u54 u55 u56 u57 u58 u59 u60 u61 u62 u63 u64 u65 u66 u67 u68 u69 u70 u71 u72 u73 u74 u75 u76 u77 u78 u79 u80 u81 u82 u83 u84 u85 u86 u87 u88 u89 u90 u91 u92 u93 u94 u95 u96 u97 u98 u99 u100 u101 u102 u103 u104 u105 u106 u107 u108 u109 u110 u111 u112 u113 u114 u115 u116 u117 u118 u119 u120 u121 u122 u123 u124 u125 u126 u127 u128 u129 u130 u131 u132 u133 u134 u135 u136 u137 u138 u139 u140 u141 u142 u143 u144 u145 u146 u147 u148 u149 u150 u151 u152 u153 u154 u155 u156 u157 u158 u159 u160 u161 u162 u163 u164 u165 u166 u167 u168 u169 u170 u171 u172 u173 u174 u175 u176 u177 u178 u179 u180 u181 u182 u183 u184 u185 u186 u187 u188 u189 u190 u191 u192 u193 u194 u195 u196 u197 u198 u199 u200 u201 u202 u203 u204 u205 u206 u207 u208 u209 u210 u211 u212 u213 u214 u215 u216 u217 u218 u219 u220 u221 u222 u223 u224 u225 u226 u227 u228 u229 u230 u231 u232 u233 u234 u235 u236 u237 u238 u239 u240 u241 u242 u243 u244 u245 u246 u247 u248 u249 u250 u251 u252 u253 u254 u255 u256 u257 u258 u259 u260 u261 u262 u263 u264 u265 u266 u267 u268 u269 u270 u271 u272 u273 u274 u275 u276 u277 u278 u279 u280 u281 u282 u283 u284 u285 u286 u287 u288 u289 u290 u291 u292 u293 u294 u295 u296 u297 u298 u299 u300 u301 u302 u303 u304 u305 u306 u307 u308 u309 u310 u311 u312 u313 u314 : Value} {cd : Code} {Q : Exit → Act → World → Prop}
    (hcd : cd = (loopsOf (Try.f35.body.getD .skip)).getD 2 .skip) (hX : CX f g ins outs N M s0 t0 fi fj aa m ac ca mc cc ia il ic oa ol oc Bf Bg Bo Bs Bc C T w0)
    (hS : SX w0 C H W c ch) (hR : RI (EC f g N M ins outs) (bgC N M s0 t0 ins outs) c0 c ch True)
    (HK : Hid (∀ {x16 x17 x18 x19 x20 x21 x22 x23 x24 x25 x26 x27 x28 x68 x69 x70 x71 x72 x73 x74 x75 x76 x77 x78 x79 x80 x81 x82 x83 x84 x85 x86 x87 x88 x89 x90 x91 x92 x93 x94 x95 x96 x97 x98 x99 x100 x101 x102 x103 x104 x105 x106 x107 x108 x109 x110 x111 x112 x113 x114 x115 x116 x117 x118 x119 x120 x121 x122 x123 x124 x125 x126 x127 x128 x129 x130 x131 x132 x133 x134 x135 x136 x137 x138 x139 x140 x141 x142 x143 x144 x145 x146 x147 x148 x149 x150 x151 x152 x153 x154 x155 x156 x157 x158 x159 x160 x161 x162 x163 x164 x165 x166 x167 x168 x169 x170 x171 x172 x173 x174 x175 x176 x177 x178 x179 x180 x181 x182 x183 x184 x185 x186 x187 x188 x189 x190 x191 x192 x193 x194 x195 x196 x197 x198 x199 x200 x201 x202 x203 x204 x205 x206 x207 x208 x209 x210 x211 x212 x213 x214 x215 x216 x217 x218 x219 x220 x221 x222 x223 x224 x225 x226 x227 x228 x229 x230 x231 x232 x233 x234 x235 x236 x237 x238 x239 x240 x241 x242 x243 x244 x245 x246 x247 x248 x249 x250 x251 x252 x253 x254 x255 x256 x257 x258 x259 x260 x261 x262 x263 x264 x265 x266 x267 x268 x269 x270 x271 x272 x273 x274 x275 : Value} {W' : World} {c' : List Int} {ch' : Bool}, SX w0 C H W' c' ch' → BK W W' C H → RI (EC f g N M ins outs) (bgC N M s0 t0 ins outs) c0 c' ch' (Fix (EC f g N M ins outs) c0) → Q (.exit 4) { tmps := #[u0, u1, .slice ia il ic, u3, .pointer (some ⟨Bf, 0, none⟩), .pointer (some ⟨Bg, 0, none⟩), u6, .pointer (some ⟨Bo, 0, none⟩), u8, .pointer (some ⟨Bs, 0, none⟩), u10, .pointer (some ⟨Bc, 0, none⟩), u12, .func (.func 80) #[] #[.pointer (some ⟨Bo, 0, none⟩), .pointer (some ⟨Bs, 0, none⟩), .pointer (some ⟨Bg, 0, none⟩)], .pointer (some ⟨H, 0, none⟩), .func (.func 81) #[] #[.pointer (some ⟨Bc, 0, none⟩), .pointer (some ⟨H, 0, none⟩)], x16, x17, x18, x19, x20, x21, x22, x23, x24, x25, x26, x27, x28, u29, u30, u31, u32, u33, u34, u35, u36, u37, u38, u39, u40, u41, u42, u43, u44, u45, u46, u47, u48, u49, u50, u51, u52, u53, u54, u55, u56, u57, u58, u59, u60, u61, u62, u63, u64, u65, u66, u67, x68, x69, x70, x71, x72, x73, x74, x75, x76, x77, x78, x79, x80, x81, x82, x83, x84, x85, x86, x87, x88, x89, x90, x91, x92, x93, x94, x95, x96, x97, x98, x99, x100, x101, x102, x103, x104, x105, x106, x107, x108, x109, x110, x111, x112, x113, x114, x115, x116, x117, x118, x119, x120, x121, x122, x123, x124, x125, x126, x127, x128, x129, x130, x131, x132, x133, x134, x135, x136, x137, x138, x139, x140, x141, x142, x143, x144, x145, x146, x147, x148, x149, x150, x151, x152, x153, x154, x155, x156, x157, x158, x159, x160, x161, x162, x163, x164, x165, x166, x167, x168, x169, x170, x171, x172, x173, x174, x175, x176, x177, x178, x179, x180, x181, x182, x183, x184, x185, x186, x187, x188, x189, x190, x191, x192, x193, x194, x195, x196, x197, x198, x199, x200, x201, x202, x203, x204, x205, x206, x207, x208, x209, x210, x211, x212, x213, x214, x215, x216, x217, x218, x219, x220, x221, x222, x223, x224, x225, x226, x227, x228, x229, x230, x231, x232, x233, x234, x235, x236, x237, x238, x239, x240, x241, x242, x243, x244, x245, x246, x247, x248, x249, x250, x251, x252, x253, x254, x255, x256, x257, x258, x259, x260, x261, x262, x263, x264, x265, x266, x267, x268, x269, x270, x271, x272, x273, x274, x275, u276, u277, u278, u279, u280, u281, u282, u283, u284, u285, u286, u287, u288, u289, u290, u291, u292, u293, u294, u295, u296, u297, u298, u299, u300, u301, u302, u303, u304, u305, u306, u307, u308, u309, u310, u311, u312, u313, u314], defers := [] } W')) :
    (Code.loop cd).wp Try.prog Q { tmps := #[u0, u1, .slice ia il ic, u3, .pointer (some ⟨Bf, 0, none⟩), .pointer (some ⟨Bg, 0, none⟩), u6, .pointer (some ⟨Bo, 0, none⟩), u8, .pointer (some ⟨Bs, 0, none⟩), u10, .pointer (some ⟨Bc, 0, none⟩), u12, .func (.func 80) #[] #[.pointer (some ⟨Bo, 0, none⟩), .pointer (some ⟨Bs, 0, none⟩), .pointer (some ⟨Bg, 0, none⟩)], .pointer (some ⟨H, 0, none⟩), .func (.func 81) #[] #[.pointer (some ⟨Bc, 0, none⟩), .pointer (some ⟨H, 0, none⟩)], .int .i64 0, u17, u18, u19, u20, u21, u22, u23, u24, u25, u26, u27, u28, u29, u30, u31, u32, u33, u34, u35, u36, u37, u38, u39, u40, u41, u42, u43, u44, u45, u46, u47, u48, u49, u50, u51, u52, u53, u54, u55, u56, u57, u58, u59, u60, u61, u62, u63, u64, u65, u66, u67, u68, u69, u70, u71, u72, u73, u74, u75, u76, u77, u78, u79, u80, u81, u82, u83, u84, u85, u86, u87, u88, u89, u90, u91, u92, u93, u94, u95, u96, u97, u98, u99, u100, u101, u102, u103, u104, u105, u106, u107, u108, u109, u110, u111, u112, u113, u114, u115, u116, u117, u118, u119, u120, u121, u122, u123, u124, u125, u126, u127, u128, u129, u130, u131, u132, u133, u134, u135, u136, u137, u138, u139, u140, u141, u142, u143, u144, u145, u146, u147, u148, u149, u150, u151, u152, u153, u154, u155, u156, u157, u158, u159, u160, u161, u162, u163, u164, u165, u166, u167, u168, u169, u170, u171, u172, u173, u174, u175, u176, u177, u178, u179, u180, u181, u182, u183, u184, u185, u186, u187, u188, u189, u190, u191, u192, u193, u194, u195, u196, u197, u198, u199, u200, u201, u202, u203, u204, u205, u206, u207, u208, u209, u210, u211, u212, u213, u214, u215, u216, u217, u218, u219, u220, u221, u222, u223, u224, u225, u226, u227, u228, u229, u230, u231, u232, u233, u234, u235, u236, u237, u238, u239, u240, u241, u242, u243, u244, u245, u246, u247, u248, u249, u250, u251, u252, u253, u254, u255, u256, u257, u258, u259, u260, u261, u262, u263, u264, u265, u266, u267, u268, u269, u270, u271, u272, u273, u274, u275, u276, u277, u278, u279, u280, u281, u282, u283, u284, u285, u286, u287, u288, u289, u290, u291, u292, u293, u294, u295, u296, u297, u298, u299, u300, u301, u302, u303, u304, u305, u306, u307, u308, u309, u310, u311, u312, u313, u314], defers := [] } W := by
  simp only [Try.f35, loopsOf, List.append_eq, List.nil_append, List.cons_append, List.append_nil, List.getD_cons_zero, List.getD_cons_succ, Option.getD_some] at hcd
  subst hcd
  dsimp only
  have HX : Hid (CX f g ins outs N M s0 t0 fi fj aa m ac ca mc cc ia il ic oa ol oc Bf Bg Bo Bs Bc C T w0) := hX
  go_loopw [16] (fun t16 wx => ∃ (z : Nat) (c' : List Int) (ch' : Bool), z ≤ il + 1 ∧ t16 = .int .i64 (z : Int) ∧ SX w0 C H wx c' ch' ∧ BK W wx C H ∧ RI (EC f g N M ins outs) (bgC N M s0 t0 ins outs) c0 c' ch' (allOk f g N M ins outs c0 (z * (outs.length + 1)))) (fun t16 _ => il + 1 - (intOf t16).toNat)
  case atStart => exact ⟨0, c, ch, Nat.zero_le _, rfl, hS, BK.refl, hR.mono fun _ i o h => by rw [Nat.zero_mul] at h; exact absurd h (Nat.not_lt_zero _)⟩
  case round =>
    obtain ⟨z, c', ch', hz, rfl, hS', hK', hR'⟩ := hrel
    have HIL : Hid (ins.length = il) := hX.hil
    have hi40 := hX.hi40
    have hzw : IntKind.i64.wrap ((z : Int) + 1) = (z : Int) + 1 := wrap_in _ (by omega) (by omega)
    by_cases hle : z ≤ il
    · have hlei : (z : Int) ≤ il := by omega
      go_wp2
      refine loopO (i := z) (by kernel_rfl) hX hle hS' hR' ?_
      unfold Hid
      intros
      rename_i W3 c3 ch3 hS3 hK3 hR3
      go_wp2
      go_roundw
      case rel => exact ⟨z + 1, c3, ch3, by omega, by go_num, hS3, hK'.trans hK3, hR3⟩
      case measure => simp [intOf]; omega
    · have hnl : ¬ ((z : Int) ≤ il) := by omega
      have HLAST : Hid (RI (EC f g N M ins outs) (bgC N M s0 t0 ins outs) c0 c' ch' (Fix (EC f g N M ins outs) c0)) := by
        refine hR'.mono fun h => round_fix ?_
        have e : z = ins.length + 1 := by have := HIL.out; omega
        rw [← e]
        exact h
      go_wp2
      exact HK.out hS' hK' HLAST.out
end Go.Proofs.Yteehgcbjmdideaa

/- Loops of 'ComposedOf': until nothing is better. (Made by wip/gen/cpl.py.) -/
namespace Go.Proofs.Yteehgcbjmdideaa
open Go.RowKit
attribute [local go_sem ↓] Go.wp_at_zero Go.wp_at_succ

/-- the table, read off the world -/
def rowIn (w : World) (C : Nat) : List Int := match w.heap[C]? with
  | some (.cells a _ _) => a.toList.map intOf
  | _ => []
theorem CT.rowIn {w : World} {C : Nat} {c : List Int} (h : CT w C c) : rowIn w C = c := by
  have h' : w.heap[C]? = some (.cells (c.map (Value.int .i64)).toArray 3 (0, 0)) := h
  unfold Go.Proofs.Yteehgcbjmdideaa.rowIn
  rw [h']
  show List.map intOf (c.map (Value.int .i64)).toArray.toList = c
  rw [List.map_map]
  exact List.map_id'' (fun _ => rfl) c
def flagIn (w : World) (t : Value) : Bool := match t with
  | .pointer (some a) => (match w.cell? a with
    | some (.bool b) => b
    | _ => false)
  | _ => false
theorem flag_at {w : World} {H : Nat} {ch : Bool} (h : w.heap[H]? = some (.cells #[.bool ch] 4 (0, 0))) : flagIn w (.pointer (some ⟨H, 0, none⟩)) = ch := by
  have h0 : w.cell? ⟨H, 0, none⟩ = some (.bool ch) := box_cell (k := 0) h rfl
  unfold flagIn
  dsimp only
  rw [h0]
def meaC (C : Nat) (t : Value) (w : World) : Nat := if flagIn w t = true then muL (rowIn w C) + 1 else 0
theorem SX.mea {w0 W : World} {C H : Nat} {c : List Int} {ch : Bool} (h : SX w0 C H W c ch) : meaC C (.pointer (some ⟨H, 0, none⟩)) W = if ch = true then muL c + 1 else 0 := by
  unfold meaC
  rw [flag_at h.hb, h.ct.rowIn]
/-- a new box for what was better -/
theorem SX.next {w0 W : World} {C H : Nat} {c : List Int} {ch : Bool} (h : SX w0 C H W c ch) : SX w0 C W.heap.size (W.alloc (.cells #[.bool ch] 4)) c ch := by
  have hn := heap_alloc_new W (.cells #[.bool ch] 4)
  have h2 := h.bel (bel_up (bel_self W) (.cells #[.bool ch] 4))
  exact ⟨h2.kx, h2.ct, hn, h.kx.size, h.hC⟩
theorem SX.set {w0 W : World} {C H : Nat} {c : List Int} {ch : Bool} (h : SX w0 C H W c ch) (b : Bool) : SX w0 C H (W.setCell ⟨H, 0, none⟩ (.bool b)) c b := by
  have hCH : C ≠ H := by have := h.hH; have := h.hC; omega
  have hk : BK W (W.setCell ⟨H, 0, none⟩ (.bool b)) C H := ⟨rfl, rfl, rfl, by simp [World.setCell], fun x _ _ h2 => Below.heap_setCell _ ⟨H, 0, none⟩ _ x h2⟩
  exact ⟨h.kx.step hk h.hH, heap_far h.ct hCH, box_set (k := 0) h.hb rfl, h.hH, h.hC⟩

set_option maxHeartbeats 1600000 in
set_option maxRecDepth 100000 in
theorem loopC {f g : FstD} {ins outs : List Int} {N M s0 t0 : Nat} {fi fj : Value} {aa : Option Addr} {m ac : Nat} {ca : Option Addr} {mc cc : Nat} {ia : Option Addr} {il ic : Nat} {oa : Option Addr} {ol oc Bf Bg Bo Bs Bc C T : Nat} {w0 : World} {H : Nat} {c : List Int} {W : World} {u0 u1 u3 u6 u8 u10 u12 u15 u16 u17 u18 u19 u20 u21 u22 u23 u24 u25 u26 u27 u28 u29 u30 u31 u32 u33 u34 u35 u36 u37 u38 u39 u40 u41 u42 u43 u44 u45 u46 u47 u48 u49 u50 u51 u52 u53 u54 u55 u56 u57 u58 u59 u60 u61 u62 u63 u64 u65 u66 u67 u68 u69 u70 u71 u72 u73 u74 u75 u76 u77 u78 u79 u80 u81 u82 u83 u84 u85 u86 u87 u88 u89 u90 u91 u92 u93 u94 u95 u96 u97 u98 u99 u100 u101 u102 u103 u104 u105 u106 u107 u108 u109 u110 u111 u112 u113 u114 u115 u116 u117 u118 u119 u120 u121 u122 u123 u124 u125 u126 u127 u128 u129 u130 u131 u132 u133 u134 u135 u136 u137 u138 u139 u140 u141 u142 u143 u144 u145 u146 u147 u148 u149 u150 u151 u152 u153 u154 u155 u156 u157 u158 u159 u160 u161 u162 u163 u164 u165 u166 u167 u168 u169 u170 u171 u172 u173 u174 u175 u176 u177 u178 u179 u180 u181 u182 u183 u184 u185 u186 u187 u188 u189 u190 u191 u192 u193 u194 u195 u196 u197 u198 u199 u200 u201 u202 u203 u204 u205 u206 u207 u208 u209 u210 u211 u212 u213 u214 u215 u216 u217 u218 u219 u220 u221 u222 u223 u224 u225 u226 u227 u228 u229 u230 u231 u232 u233 u234 u235 u236 u237 u238 u239 u240 u241 u242 u243 u244 u245 u246 u247 u248 u249 u250 u251 u252 u253 u254 u255 u256 u257 u258 u259 u260 u261 u262 u263 u264 u265 u266 u267 u268 u269 u270 u271 u272 u273 u274 u275 u276 u277 u278 u279 u280 u281 u282 u283 u284 u285 u286 u287 u288 u289 u290 u291 u292 u293 u294 u295 u296 u297 u298 u299 u300 u301 u302 u303 u304 u305 u306 u307 u308 u309 u310 u311 u312 u313 u314 : Value} {cd : Code} {Q : Exit → Act → World → Prop}
    (hcd : cd = (loopsOf (Try.f35.body.getD .skip)).getD 1 .skip) (hX : CX f g ins outs N M s0 t0 fi fj aa m ac ca mc cc ia il ic oa ol oc Bf Bg Bo Bs Bc C T w0)
    (hS : SX w0 C H W c true) (hR : InvC (EC f g N M ins outs) (bgC N M s0 t0 ins outs) c)
    (HK : Hid (∀ {x14 x15 x16 x17 x18 x19 x20 x21 x22 x23 x24 x25 x26 x27 x28 x66 x67 x68 x69 x70 x71 x72 x73 x74 x75 x76 x77 x78 x79 x80 x81 x82 x83 x84 x85 x86 x87 x88 x89 x90 x91 x92 x93 x94 x95 x96 x97 x98 x99 x100 x101 x102 x103 x104 x105 x106 x107 x108 x109 x110 x111 x112 x113 x114 x115 x116 x117 x118 x119 x120 x121 x122 x123 x124 x125 x126 x127 x128 x129 x130 x131 x132 x133 x134 x135 x136 x137 x138 x139 x140 x141 x142 x143 x144 x145 x146 x147 x148 x149 x150 x151 x152 x153 x154 x155 x156 x157 x158 x159 x160 x161 x162 x163 x164 x165 x166 x167 x168 x169 x170 x171 x172 x173 x174 x175 x176 x177 x178 x179 x180 x181 x182 x183 x184 x185 x186 x187 x188 x189 x190 x191 x192 x193 x194 x195 x196 x197 x198 x199 x200 x201 x202 x203 x204 x205 x206 x207 x208 x209 x210 x211 x212 x213 x214 x215 x216 x217 x218 x219 x220 x221 x222 x223 x224 x225 x226 x227 x228 x229 x230 x231 x232 x233 x234 x235 x236 x237 x238 x239 x240 x241 x242 x243 x244 x245 x246 x247 x248 x249 x250 x251 x252 x253 x254 x255 x256 x257 x258 x259 x260 x261 x262 x263 x264 x265 x266 x267 x268 x269 x270 x271 x272 x273 x274 x275 x276 : Value} {W' : World} {c' : List Int}, KX w0 C W' → CT W' C c' → InvC (EC f g N M ins outs) (bgC N M s0 t0 ins outs) c' → Fix (EC f g N M ins outs) c' → Q (.exit 2) { tmps := #[u0, u1, .slice ia il ic, u3, .pointer (some ⟨Bf, 0, none⟩), .pointer (some ⟨Bg, 0, none⟩), u6, .pointer (some ⟨Bo, 0, none⟩), u8, .pointer (some ⟨Bs, 0, none⟩), u10, .pointer (some ⟨Bc, 0, none⟩), u12, .func (.func 80) #[] #[.pointer (some ⟨Bo, 0, none⟩), .pointer (some ⟨Bs, 0, none⟩), .pointer (some ⟨Bg, 0, none⟩)], x14, x15, x16, x17, x18, x19, x20, x21, x22, x23, x24, x25, x26, x27, x28, u29, u30, u31, u32, u33, u34, u35, u36, u37, u38, u39, u40, u41, u42, u43, u44, u45, u46, u47, u48, u49, u50, u51, u52, u53, u54, u55, u56, u57, u58, u59, u60, u61, u62, u63, u64, u65, x66, x67, x68, x69, x70, x71, x72, x73, x74, x75, x76, x77, x78, x79, x80, x81, x82, x83, x84, x85, x86, x87, x88, x89, x90, x91, x92, x93, x94, x95, x96, x97, x98, x99, x100, x101, x102, x103, x104, x105, x106, x107, x108, x109, x110, x111, x112, x113, x114, x115, x116, x117, x118, x119, x120, x121, x122, x123, x124, x125, x126, x127, x128, x129, x130, x131, x132, x133, x134, x135, x136, x137, x138, x139, x140, x141, x142, x143, x144, x145, x146, x147, x148, x149, x150, x151, x152, x153, x154, x155, x156, x157, x158, x159, x160, x161, x162, x163, x164, x165, x166, x167, x168, x169, x170, x171, x172, x173, x174, x175, x176, x177, x178, x179, x180, x181, x182, x183, x184, x185, x186, x187, x188, x189, x190, x191, x192, x193, x194, x195, x196, x197, x198, x199, x200, x201, x202, x203, x204, x205, x206, x207, x208, x209, x210, x211, x212, x213, x214, x215, x216, x217, x218, x219, x220, x221, x222, x223, x224, x225, x226, x227, x228, x229, x230, x231, x232, x233, x234, x235, x236, x237, x238, x239, x240, x241, x242, x243, x244, x245, x246, x247, x248, x249, x250, x251, x252, x253, x254, x255, x256, x257, x258, x259, x260, x261, x262, x263, x264, x265, x266, x267, x268, x269, x270, x271, x272, x273, x274, x275, x276, u277, u278, u279, u280, u281, u282, u283, u284, u285, u286, u287, u288, u289, u290, u291, u292, u293, u294, u295, u296, u297, u298, u299, u300, u301, u302, u303, u304, u305, u306, u307, u308, u309, u310, u311, u312, u313, u314], defers := [] } W')) :
    (Code.loop cd).wp Try.prog Q { tmps := #[u0, u1, .slice ia il ic, u3, .pointer (some ⟨Bf, 0, none⟩), .pointer (some ⟨Bg, 0, none⟩), u6, .pointer (some ⟨Bo, 0, none⟩), u8, .pointer (some ⟨Bs, 0, none⟩), u10, .pointer (some ⟨Bc, 0, none⟩), u12, .func (.func 80) #[] #[.pointer (some ⟨Bo, 0, none⟩), .pointer (some ⟨Bs, 0, none⟩), .pointer (some ⟨Bg, 0, none⟩)], .pointer (some ⟨H, 0, none⟩), u15, u16, u17, u18, u19, u20, u21, u22, u23, u24, u25, u26, u27, u28, u29, u30, u31, u32, u33, u34, u35, u36, u37, u38, u39, u40, u41, u42, u43, u44, u45, u46, u47, u48, u49, u50, u51, u52, u53, u54, u55, u56, u57, u58, u59, u60, u61, u62, u63, u64, u65, u66, u67, u68, u69, u70, u71, u72, u73, u74, u75, u76, u77, u78, u79, u80, u81, u82, u83, u84, u85, u86, u87, u88, u89, u90, u91, u92, u93, u94, u95, u96, u97, u98, u99, u100, u101, u102, u103, u104, u105, u106, u107, u108, u109, u110, u111, u112, u113, u114, u115, u116, u117, u118, u119, u120, u121, u122, u123, u124, u125, u126, u127, u128, u129, u130, u131, u132, u133, u134, u135, u136, u137, u138, u139, u140, u141, u142, u143, u144, u145, u146, u147, u148, u149, u150, u151, u152, u153, u154, u155, u156, u157, u158, u159, u160, u161, u162, u163, u164, u165, u166, u167, u168, u169, u170, u171, u172, u173, u174, u175, u176, u177, u178, u179, u180, u181, u182, u183, u184, u185, u186, u187, u188, u189, u190, u191, u192, u193, u194, u195, u196, u197, u198, u199, u200, u201, u202, u203, u204, u205, u206, u207, u208, u209, u210, u211, u212, u213, u214, u215, u216, u217, u218, u219, u220, u221, u222, u223, u224, u225, u226, u227, u228, u229, u230, u231, u232, u233, u234, u235, u236, u237, u238, u239, u240, u241, u242, u243, u244, u245, u246, u247, u248, u249, u250, u251, u252, u253, u254, u255, u256, u257, u258, u259, u260, u261, u262, u263, u264, u265, u266, u267, u268, u269, u270, u271, u272, u273, u274, u275, u276, u277, u278, u279, u280, u281, u282, u283, u284, u285, u286, u287, u288, u289, u290, u291, u292, u293, u294, u295, u296, u297, u298, u299, u300, u301, u302, u303, u304, u305, u306, u307, u308, u309, u310, u311, u312, u313, u314], defers := [] } W := by
  simp only [Try.f35, loopsOf, List.append_eq, List.nil_append, List.cons_append, List.append_nil, List.getD_cons_zero, List.getD_cons_succ, Option.getD_some] at hcd
  subst hcd
  dsimp only
  have HX : Hid (CX f g ins outs N M s0 t0 fi fj aa m ac ca mc cc ia il ic oa ol oc Bf Bg Bo Bs Bc C T w0) := hX
  go_loopw [14] (fun t14 wx => ∃ (G : Nat) (c' : List Int) (ch' : Bool), t14 = .pointer (some ⟨G, 0, none⟩) ∧ SX w0 C G wx c' ch' ∧ InvC (EC f g N M ins outs) (bgC N M s0 t0 ins outs) c' ∧ (ch' = false → Fix (EC f g N M ins outs) c')) (fun t14 wx => meaC C t14 wx)
  case atStart => exact ⟨H, c, true, rfl, hS, hR, fun h => by cases h⟩
  case round =>
    obtain ⟨G, c', ch', rfl, hS', hI', hF'⟩ := hrel
    have b0 := box_cell (k := 0) hS'.hb rfl
    have z0 := box_frz hS'.hb 0
    cases ch' with
    | false =>
      have HI : Hid (InvC (EC f g N M ins outs) (bgC N M s0 t0 ins outs) c' ∧ Fix (EC f g N M ins outs) c') := ⟨hI', hF' rfl⟩
      clear hF' hI'
      go_wp2
      exact HK.out hS'.kx hS'.ct HI.out.1 HI.out.2
    | true =>
      have HI : Hid (RI (EC f g N M ins outs) (bgC N M s0 t0 ins outs) c' c' false True) := ⟨hI', fun _ => ⟨rfl, trivial⟩, fun h => by cases h⟩
      clear hF' hI'
      go_wp2
      refine loopI (by kernel_rfl) hX (hS'.set false) HI.out ?_
      unfold Hid
      intros
      rename_i W3 c3 ch3 hS3 hK3 hR3
      have b3 := box_cell (k := 0) hS3.hb rfl
      have hS4 := hS3.next
      have HMEA : Hid ((if ch3 = true then muL c3 + 1 else 0) < muL c' + 1) := by
        show _ < _
        cases ch3 with
        | false => simp
        | true => have := hR3.2.2 rfl; simpa using this
      have HFX : Hid (ch3 = false → Fix (EC f g N M ins outs) c3) := fun h => by obtain ⟨e1, e2⟩ := hR3.2.1 h; rw [e1]; exact e2
      have HI3 : Hid (InvC (EC f g N M ins outs) (bgC N M s0 t0 ins outs) c3) := hR3.1
      clear hR3
      go_wp2
      go_roundw
      case rel => exact ⟨W3.heap.size, c3, ch3, rfl, hS4, HI3.out, HFX.out⟩
      case measure =>
        have e1 := hS4.mea
        have e2 := hS'.mea
        have e3 := HMEA.out
        rw [if_pos rfl] at e2
        rw [e1, e2]
        exact e3
end Go.Proofs.Yteehgcbjmdideaa
