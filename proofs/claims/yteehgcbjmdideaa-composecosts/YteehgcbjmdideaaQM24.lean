/- Loops of 'ComposedOf': the arcs of the first one. (Made by wip/gen/cpl.py.) -/
import Derived.Test.YteehgcbjmdideaaQCpO
namespace Go.Proofs.Yteehgcbjmdideaa
open Go.RowKit
attribute [local go_sem ↓] Go.wp_at_zero Go.wp_at_succ

set_option maxHeartbeats 4000000 in
set_option maxRecDepth 100000 in
theorem loop5 {f g : FstD} {ins outs : List Int} {N M s0 t0 : Nat} {fi fj : Value} {aa : Option Addr} {m ac : Nat} {ca : Option Addr} {mc cc : Nat} {ia : Option Addr} {il ic : Nat} {oa : Option Addr} {ol oc Bf Bg Bo Bs Bc C T : Nat} {w0 : World} {i o H : Nat} {c0 c : List Int} {ch : Bool} {R : Prop} {W : World} {u0 u1 u3 u6 u8 u10 u12 u19 u20 u21 u22 u23 u24 u25 u26 u27 u28 u29 u30 u31 u32 u33 u34 u35 u36 u37 u38 u39 u40 u41 u42 u43 u44 u45 u46 u47 u48 u49 u50 u51 u52 u53 u54 u55 u56 u57 u58 u59 u60 u61 u62 u63 u64 u65 u66 u67 u68 u69 u70 u71 u72 u73 u74 u75 u76 u77 u78 u79 u80 u81 u82 u83 u84 u85 u86 u87 u88 u89 u90 u91 u92 u93 u94 u95 u96 u97 u98 u99 u100 u101 u102 u103 u104 u105 u106 u107 u108 u109 u110 u111 u112 u113 u114 u115 u116 u117 u118 u119 u120 u121 u122 u123 u124 u125 u126 u127 u128 u129 u130 u131 u132 u133 u134 u135 u136 u137 u138 u139 u140 u141 u142 u143 u144 u145 u146 u147 u148 u149 u150 u151 u152 u153 u154 u155 u156 u157 u158 u159 u160 u161 u162 u163 u164 u165 u166 u167 u168 u169 u170 u171 u172 u173 u174 u175 u176 u177 u178 u179 u180 u181 u182 u183 u184 u185 u186 u187 u188 u189 u190 u191 u192 u193 u194 u195 u196 u197 u198 u199 u200 u201 u202 u203 u204 u205 u206 u207 u208 u209 u210 u211 u212 u213 u214 u215 u216 u217 u218 u219 u220 u221 u222 u223 u224 u225 u226 u227 u228 u229 u230 u231 u232 u233 u234 u235 u236 u237 u238 u239 u240 u241 u242 u243 u244 u245 u246 u247 u248 u249 u250 u251 u252 u253 u254 u255 u256 u257 u258 u259 u260 u261 u262 u263 u264 u265 u266 u267 u268 u269 u270 u271 u272 u273 u274 u275 u276 u277 u278 u279 u280 u281 u282 u283 u284 u285 u286 u287 u288 u289 u290 u291 u292 u293 u294 u295 u296 u297 u298 u299 u300 u301 u302 u303 u304 u305 u306 u307 u308 u309 u310 u311 u312 u313 u314 : Value} {cd : Code} {Q : Exit → Act → World → Prop}
    (hcd : cd = (loopsOf (Try.f35.body.getD .skip)).getD 4 .skip) (hX : CX f g ins outs N M s0 t0 fi fj aa m ac ca mc cc ia il ic oa ol oc Bf Bg Bo Bs Bc C T w0) (hi : i ≤ il) (ho : o ≤ ol)
    (hS : SX w0 C H W c ch) (hR : RI (EC f g N M ins outs) (bgC N M s0 t0 ins outs) c0 c ch R)
    (HK : Hid (∀ {x18 x19 x20 x21 x22 x23 x24 x80 x81 x82 x83 x84 x85 x86 x87 x88 x89 x90 x91 x92 x93 x94 x95 x96 x97 x98 x99 x100 x101 x102 x103 x104 x105 x106 x107 x108 x109 x110 x111 x112 x113 x114 x115 x116 x117 x118 x119 x120 x121 x122 x123 x124 x125 x126 x127 x128 x129 x130 x131 x132 x133 x134 x135 x136 x137 x138 x139 x140 x141 x142 x143 x144 x145 x146 x147 x148 x149 x150 x151 x152 x153 x154 x155 x156 x157 x158 x159 x160 x161 x162 x163 x164 x165 x166 x167 x168 x169 x170 x171 x172 x173 x174 x175 x176 x177 x178 x179 x180 x181 x182 x183 x184 x185 x186 x187 x188 x189 x190 x191 x192 x193 x194 x195 x196 x197 x198 x199 x200 x201 x202 x203 x204 x205 x206 x207 x208 x209 x210 : Value} {W' : World} {c' : List Int} {ch' : Bool}, SX w0 C H W' c' ch' → BK W W' C H → RI (EC f g N M ins outs) (bgC N M s0 t0 ins outs) c0 c' ch' (R ∧ fOk f g N M ins outs c0 i o f.arcs.length) → Q (.exit 8) { tmps := #[u0, u1, .slice ia il ic, u3, .pointer (some ⟨Bf, 0, none⟩), .pointer (some ⟨Bg, 0, none⟩), u6, .pointer (some ⟨Bo, 0, none⟩), u8, .pointer (some ⟨Bs, 0, none⟩), u10, .pointer (some ⟨Bc, 0, none⟩), u12, .func (.func 80) #[] #[.pointer (some ⟨Bo, 0, none⟩), .pointer (some ⟨Bs, 0, none⟩), .pointer (some ⟨Bg, 0, none⟩)], .pointer (some ⟨H, 0, none⟩), .func (.func 81) #[] #[.pointer (some ⟨Bc, 0, none⟩), .pointer (some ⟨H, 0, none⟩)], .int .i64 (i : Int), .int .i64 (o : Int), x18, x19, x20, x21, x22, x23, x24, u25, u26, u27, u28, u29, u30, u31, u32, u33, u34, u35, u36, u37, u38, u39, u40, u41, u42, u43, u44, u45, u46, u47, u48, u49, u50, u51, u52, u53, u54, u55, u56, u57, u58, u59, u60, u61, u62, u63, u64, u65, u66, u67, u68, u69, u70, u71, u72, u73, u74, u75, u76, u77, u78, u79, x80, x81, x82, x83, x84, x85, x86, x87, x88, x89, x90, x91, x92, x93, x94, x95, x96, x97, x98, x99, x100, x101, x102, x103, x104, x105, x106, x107, x108, x109, x110, x111, x112, x113, x114, x115, x116, x117, x118, x119, x120, x121, x122, x123, x124, x125, x126, x127, x128, x129, x130, x131, x132, x133, x134, x135, x136, x137, x138, x139, x140, x141, x142, x143, x144, x145, x146, x147, x148, x149, x150, x151, x152, x153, x154, x155, x156, x157, x158, x159, x160, x161, x162, x163, x164, x165, x166, x167, x168, x169, x170, x171, x172, x173, x174, x175, x176, x177, x178, x179, x180, x181, x182, x183, x184, x185, x186, x187, x188, x189, x190, x191, x192, x193, x194, x195, x196, x197, x198, x199, x200, x201, x202, x203, x204, x205, x206, x207, x208, x209, x210, u211, u212, u213, u214, u215, u216, u217, u218, u219, u220, u221, u222, u223, u224, u225, u226, u227, u228, u229, u230, u231, u232, u233, u234, u235, u236, u237, u238, u239, u240, u241, u242, u243, u244, u245, u246, u247, u248, u249, u250, u251, u252, u253, u254, u255, u256, u257, u258, u259, u260, u261, u262, u263, u264, u265, u266, u267, u268, u269, u270, u271, u272, u273, u274, u275, u276, u277, u278, u279, u280, u281, u282, u283, u284, u285, u286, u287, u288, u289, u290, u291, u292, u293, u294, u295, u296, u297, u298, u299, u300, u301, u302, u303, u304, u305, u306, u307, u308, u309, u310, u311, u312, u313, u314], defers := [] } W')) :
    (Code.loop cd).wp Try.prog Q { tmps := #[u0, u1, .slice ia il ic, u3, .pointer (some ⟨Bf, 0, none⟩), .pointer (some ⟨Bg, 0, none⟩), u6, .pointer (some ⟨Bo, 0, none⟩), u8, .pointer (some ⟨Bs, 0, none⟩), u10, .pointer (some ⟨Bc, 0, none⟩), u12, .func (.func 80) #[] #[.pointer (some ⟨Bo, 0, none⟩), .pointer (some ⟨Bs, 0, none⟩), .pointer (some ⟨Bg, 0, none⟩)], .pointer (some ⟨H, 0, none⟩), .func (.func 81) #[] #[.pointer (some ⟨Bc, 0, none⟩), .pointer (some ⟨H, 0, none⟩)], .int .i64 (i : Int), .int .i64 (o : Int), .int .i64 0, u19, u20, u21, u22, u23, u24, u25, u26, u27, u28, u29, u30, u31, u32, u33, u34, u35, u36, u37, u38, u39, u40, u41, u42, u43, u44, u45, u46, u47, u48, u49, u50, u51, u52, u53, u54, u55, u56, u57, u58, u59, u60, u61, u62, u63, u64, u65, u66, u67, u68, u69, u70, u71, u72, u73, u74, u75, u76, u77, u78, u79, u80, u81, u82, u83, u84, u85, u86, u87, u88, u89, u90, u91, u92, u93, u94, u95, u96, u97, u98, u99, u100, u101, u102, u103, u104, u105, u106, u107, u108, u109, u110, u111, u112, u113, u114, u115, u116, u117, u118, u119, u120, u121, u122, u123, u124, u125, u126, u127, u128, u129, u130, u131, u132, u133, u134, u135, u136, u137, u138, u139, u140, u141, u142, u143, u144, u145, u146, u147, u148, u149, u150, u151, u152, u153, u154, u155, u156, u157, u158, u159, u160, u161, u162, u163, u164, u165, u166, u167, u168, u169, u170, u171, u172, u173, u174, u175, u176, u177, u178, u179, u180, u181, u182, u183, u184, u185, u186, u187, u188, u189, u190, u191, u192, u193, u194, u195, u196, u197, u198, u199, u200, u201, u202, u203, u204, u205, u206, u207, u208, u209, u210, u211, u212, u213, u214, u215, u216, u217, u218, u219, u220, u221, u222, u223, u224, u225, u226, u227, u228, u229, u230, u231, u232, u233, u234, u235, u236, u237, u238, u239, u240, u241, u242, u243, u244, u245, u246, u247, u248, u249, u250, u251, u252, u253, u254, u255, u256, u257, u258, u259, u260, u261, u262, u263, u264, u265, u266, u267, u268, u269, u270, u271, u272, u273, u274, u275, u276, u277, u278, u279, u280, u281, u282, u283, u284, u285, u286, u287, u288, u289, u290, u291, u292, u293, u294, u295, u296, u297, u298, u299, u300, u301, u302, u303, u304, u305, u306, u307, u308, u309, u310, u311, u312, u313, u314], defers := [] } W := by
  simp only [Try.f35, loopsOf, List.append_eq, List.nil_append, List.cons_append, List.append_nil, List.getD_cons_zero, List.getD_cons_succ, Option.getD_some] at hcd
  subst hcd
  dsimp only
  have HX : Hid (CX f g ins outs N M s0 t0 fi fj aa m ac ca mc cc ia il ic oa ol oc Bf Bg Bo Bs Bc C T w0) := hX
  go_loopw [18] (fun t18 wx => ∃ (k : Nat) (c' : List Int) (ch' : Bool), k ≤ m ∧ t18 = .int .i64 (k : Int) ∧ SX w0 C H wx c' ch' ∧ BK W wx C H ∧ RI (EC f g N M ins outs) (bgC N M s0 t0 ins outs) c0 c' ch' (R ∧ fOk f g N M ins outs c0 i o k)) (fun t18 _ => m - (intOf t18).toNat)
  case atStart => exact ⟨0, c, ch, Nat.zero_le _, rfl, hS, BK.refl, hR.mono fun r => ⟨r, fun k' a hk => absurd hk (Nat.not_lt_zero _)⟩⟩
  case round =>
    obtain ⟨k, c', ch', hk, rfl, hS', hK', hR'⟩ := hrel
    obtain ⟨g1, g2, g3, g4, g5⟩ := HX.out.box wr hS'.kx
    have hCw := hS'.hC
    have hm := hX.hm
    have hal := hX.hal
    have hil := hX.hil
    have hi40 := hX.hi40
    have y3 := box_cell (k := 3) g1 rfl
    have hkw : IntKind.i64.wrap ((k : Int) + 1) = (k : Int) + 1 := wrap_in _ (by omega) (by omega)
    by_cases hlt : k < m
    · have hlti : (k : Int) < m := by omega
      obtain ⟨ab, aof, rfl, hxf⟩ := (HX.out.mem wr hS'.kx).1.some (by omega)
      obtain ⟨a, hak⟩ : ∃ d, f.arcs[k]? = some d := ⟨_, List.getElem?_eq_getElem (by omega)⟩
      have hgd : f.arcs.getD k a0 = a := by simp [List.getD, hak]
      obtain ⟨n1, _, hn1, _, _, _, _, hnm⟩ := hX.kf.nums
      obtain ⟨⟨s1, s2⟩, ⟨s3, s4⟩, ⟨s5, s6⟩, ⟨s7, s8⟩, s9, s10⟩ := hnm a (List.mem_of_getElem? hak)
      have c0' := hxf.c0 k hlt
      have c1' := hxf.c1 k hlt
      have c2' := hxf.c2 k hlt
      have c3' := hxf.c3 k hlt
      have c4' := hxf.c4 k hlt
      rw [hgd] at c0' c1' c2' c3' c4'
      obtain ⟨sa, hsa⟩ : ∃ p, a.src = p := ⟨_, rfl⟩
      obtain ⟨ta, hta⟩ : ∃ p, a.dst = p := ⟨_, rfl⟩
      obtain ⟨ap, hap⟩ : ∃ p, a.inp = p := ⟨_, rfl⟩
      obtain ⟨aq, haq⟩ : ∃ p, a.out = p := ⟨_, rfl⟩
      obtain ⟨wa, hwa⟩ : ∃ p, a.wt = p := ⟨_, rfl⟩
      rw [hsa] at c0'
      rw [hta] at c3'
      rw [hap] at c1' s5 s6
      rw [haq] at c2'
      rw [hwa] at c4'
      have HSKIP : Hid (fitB ins i ap = false → RI (EC f g N M ins outs) (bgC N M s0 t0 ins outs) c0 c' ch' (R ∧ fOk f g N M ins outs c0 i o (k + 1))) := fun hno => hR'.mono fun r => ⟨r.1, fun k' b hk' hb h1 => by
        by_cases e : k' = k
        · subst e
          rw [hak] at hb
          injection hb with hb
          subst hb
          rw [hap, hno] at h1
          cases h1
        · exact r.2 k' b (by omega) hb h1⟩
      have HADD : Hid (∀ c'' ch'', fitB ins i a.inp = true → RI (EC f g N M ins outs) (bgC N M s0 t0 ins outs) c0 c'' ch'' (((R ∧ fOk f g N M ins outs c0 i o k) ∧ (a.out = 0 → ∀ z : Nat, z < M → Rx c0 (edgeC N M outs.length i o (a.src, (z : Int)) (fstS z a)))) ∧ (0 < a.out → ∀ d ∈ g.arcs, d.inp = a.out → fitB outs o d.out = true → Rx c0 (edgeC N M outs.length i o (a.src, d.src) (togS a d)))) → RI (EC f g N M ins outs) (bgC N M s0 t0 ins outs) c0 c'' ch'' (R ∧ fOk f g N M ins outs c0 i o (k + 1))) := fun c'' ch'' hf h2 => h2.mono fun r => ⟨r.1.1.1, fun k' b hk' hb h1 => by
        by_cases e : k' = k
        · subst e
          rw [hak] at hb
          injection hb with hb
          subst hb
          exact ⟨r.1.2, r.2⟩
        · exact r.1.1.2 k' b (by omega) hb h1⟩
      have hqb : wr.heap.size = wr.heap.size := rfl
      obtain ⟨W1, hW1⟩ : ∃ W1, W1 = wr.alloc (.cells #[.int .i64 sa, .int .i64 ap, .int .i64 aq, .int .i64 ta, .int .i64 wa] 63) := ⟨_, rfl⟩
      obtain ⟨D, hD⟩ : ∃ D, D = wr.heap.size := ⟨_, rfl⟩
      have hb1 : Below wr.heap.size wr W1 := by rw [hW1]; exact bel_up (bel_self wr) _
      have hdA : W1.heap[D]? = some (.cells #[.int .i64 sa, .int .i64 ap, .int .i64 aq, .int .i64 ta, .int .i64 wa] 63 (0, 0)) := by rw [hW1, hD]; exact heap_alloc_new wr _
      have HDA : Hid (∀ W2 : World, W2.heap[D]? = W1.heap[D]? → W2.heap[D]? = some (.cells #[.int .i64 a.src, .int .i64 a.inp, .int .i64 a.out, .int .i64 a.dst, .int .i64 a.wt] 63 (0, 0))) := fun W2 h => by rw [h, hdA, hsa, hta, hap, haq, hwa]
      have hSa := hS'.bel hb1
      have hKa : BK W W1 C H := hK'.trans (BK.of_bel hb1)
      have hDH : D ≠ H ∧ D ≠ C ∧ w0.heap.size ≤ D := by have h1 := heap_lt hS'.hb; have h2 := heap_lt hS'.ct; have h3 := hS'.kx.size; rw [hD]; omega
      have HA : Hid (f.arcs[k]? = some a ∧ a.inp = ap) := ⟨hak, hap⟩
      have HR1 : Hid (RI (EC f g N M ins outs) (bgC N M s0 t0 ins outs) c0 c' ch' (R ∧ fOk f g N M ins outs c0 i o k)) := hR'
      have HINS : Hid (∀ W, KX w0 C W → ISlice W (.slice ia il ic) ins) := fun W h => (HX.out.mem W h).2.2.1
      have HW1 : Hid (W1 = wr.alloc (.cells #[.int .i64 sa, .int .i64 ap, .int .i64 aq, .int .i64 ta, .int .i64 wa] 63) ∧ D = wr.heap.size) := ⟨hW1, hD⟩
      clear hsa hta hap haq hwa hak hgd hxf hW1 hD g1 g2 g3 g4 g5 hR' hnm hn1 s1 s2 s3 s4 s7 s8 s9 s10 hqb
      have u1 := box_cell (k := 1) hdA rfl
      have HDL0 : Hid (D < W1.heap.size) := heap_lt hdA
      by_cases hp0 : ap = 0
      · subst hp0
        have HFT : Hid (fitB ins i a.inp = true ∧ i = usedBy i a.inp) := by rw [HA.out.2]; exact ⟨fit_0 _ _, rfl⟩
        have HDW : Hid (W1.heap[D]? = W1.heap[D]?) := (rfl : _ = _)
        have HDL : Hid (D < W1.heap.size) := HDL0.out
        rw [HW1.out.1, HW1.out.2] at u1
        go_wp2
        rw [← HW1.out.1, ← HW1.out.2]
        clear u1 HW1 c0' c1' c2' c3' c4' y3
        refine loop6 (k := k) (a := a) (by kernel_rfl) hX hi ho HA.out.1 HFT.out.1 HFT.out.2 hSa (HDA.out W1 rfl) hDH.2.2 hDH.1 HR1.out ?_
        unfold Hid
        intros
        rename_i W3 c3 ch3 hS3 hK3 hR3
        have hD3 : W3.heap[D]? = W1.heap[D]? := (hK3.block D HDL.out hDH.2.1 hDH.1).trans (by first | exact HDW.out | exact rfl)
        go_wp2
        refine loop7 (k := k) (a := a) (by kernel_rfl) hX hi ho HA.out.1 HFT.out.1 HFT.out.2 hS3 (HDA.out W3 hD3) hDH.2.2 hDH.1 hR3 ?_
        unfold Hid
        intros
        rename_i W4 c4 ch4 hS4 hK4 hR4
        go_wp2
        go_roundw
        case rel => exact ⟨k + 1, c4, ch4, by omega, by go_num, hS4, hKa.trans (hK3.trans hK4), HADD.out c4 ch4 HFT.out.1 hR4⟩
        case measure => simp [intOf]; omega
      · have hpp : 0 < ap := by omega
        have HP0 : Hid (ap ≠ 0) := hp0
        have v1 := u1
        rw [HW1.out.1, HW1.out.2] at u1
        go_wp2
        rw [← HW1.out.1, ← HW1.out.2]
        clear u1 HW1 c0' c1' c2' c3' c4' y3
        by_cases hie : i = il
        · have HF : Hid (fitB ins i ap = false) := fit_no1 hp0 (by omega)
          subst hie
          refine wp_region_quiet_lit (by kernel_rfl) (by kernel_rfl) ?_
          repeat (first | ((with_unfolding_none refine quiet_yes ?hy (fun K hK => ?_)); (case hy => exact rfl); go_simp; (with_unfolding_none refine hK _ ?_); clear hK K) | ((with_unfolding_none refine quiet_no ?hy (fun K hK => ?_)); (case hy => exact rfl); go_simp; (with_unfolding_none refine hK _ ?_); clear hK K))
          refine wpQuiet_nil ?_
          intro _ hw'
          obtain ⟨nq, hw''⟩ := hw'
          subst hw''
          go_wp2
          go_roundw
          case rel => exact ⟨k + 1, c', ch', by omega, by go_num, hSa.bel (bel_drewN (bel_self W1) _), hKa.trans (BK.of_bel (bel_drewN (bel_self W1) _)), HSKIP.out HF.out⟩
          case measure => simp [intOf]; omega
        · have hib : ((i : Int) == il) = false := by simpa using (by omega : ¬ (i : Int) = il)
          have hli : i < il := by omega
          have hlii : (i : Int) < il := by omega
          obtain ⟨ib, io, rfl, hxi⟩ := (HINS.out W1 hSa.kx).some (by omega)
          have z0 := hxi.cell i hli
          obtain ⟨iv, hiv⟩ : ∃ v, ins.getD i 0 = v := ⟨_, rfl⟩
          rw [hiv] at z0
          by_cases hiq : iv = ap
          · have HFT : Hid (fitB ins i a.inp = true ∧ i + 1 = usedBy i a.inp) := by
              rw [HA.out.2]
              exact ⟨fit_1 (by omega) (by rw [hiv]; exact hiq), by unfold usedBy; rw [if_neg hp0]⟩
            subst hiq
            clear hiv hxi hp0
            have hiw : IntKind.i64.wrap ((i : Int) + 1) = (i : Int) + 1 := wrap_in _ (by omega) (by omega)
            refine wp_region_quiet_lit (by kernel_rfl) (by kernel_rfl) ?_
            repeat (first | ((with_unfolding_none refine quiet_yes ?hy (fun K hK => ?_)); (case hy => exact rfl); go_simp; (with_unfolding_none refine hK _ ?_); clear hK K) | ((with_unfolding_none refine quiet_no ?hy (fun K hK => ?_)); (case hy => exact rfl); go_simp; (with_unfolding_none refine hK _ ?_); clear hK K))
            refine wpQuiet_nil ?_
            intro _ hw'
            obtain ⟨nq, hw''⟩ := hw'
            subst hw''
            have hb2 : Below W1.heap.size W1 (W1.drewN nq) := bel_drewN (bel_self W1) _
            obtain ⟨W2, hW2⟩ : ∃ W2, W2 = W1.drewN nq := ⟨_, rfl⟩
            rw [← hW2] at hb2 ⊢
            have hS2 := hSa.bel hb2
            have hK2 := hKa.trans (BK.of_bel (C := C) (H := H) hb2)
            have HDW : Hid (W2.heap[D]? = W1.heap[D]?) := hb2.block D HDL0.out
            have HDL : Hid (D < W2.heap.size) := Nat.lt_of_lt_of_le HDL0.out hb2.size
            clear hW2 hdA v1 z0
            go_wp2
            refine loop6 (k := k) (a := a) (by kernel_rfl) hX hi ho HA.out.1 HFT.out.1 HFT.out.2 hS2 (HDA.out W2 HDW.out) hDH.2.2 hDH.1 HR1.out ?_
            unfold Hid
            intros
            rename_i W3 c3 ch3 hS3 hK3 hR3
            have hD3 : W3.heap[D]? = W1.heap[D]? := (hK3.block D HDL.out hDH.2.1 hDH.1).trans (by first | exact HDW.out | exact rfl)
            go_wp2
            refine loop7 (k := k) (a := a) (by kernel_rfl) hX hi ho HA.out.1 HFT.out.1 HFT.out.2 hS3 (HDA.out W3 hD3) hDH.2.2 hDH.1 hR3 ?_
            unfold Hid
            intros
            rename_i W4 c4 ch4 hS4 hK4 hR4
            go_wp2
            go_roundw
            case rel => exact ⟨k + 1, c4, ch4, by omega, by go_num, hS4, hK2.trans (hK3.trans hK4), HADD.out c4 ch4 HFT.out.1 hR4⟩
            case measure => simp [intOf]; omega
          · have HF : Hid (fitB ins i ap = false) := fit_no2 hp0 (by rw [hiv]; exact hiq)
            have hiqb : (iv != ap) = true := by simpa using hiq
            clear hiv hxi hp0 hiq
            refine wp_region_quiet_lit (by kernel_rfl) (by kernel_rfl) ?_
            repeat (first | ((with_unfolding_none refine quiet_yes ?hy (fun K hK => ?_)); (case hy => exact rfl); go_simp; (with_unfolding_none refine hK _ ?_); clear hK K) | ((with_unfolding_none refine quiet_no ?hy (fun K hK => ?_)); (case hy => exact rfl); go_simp; (with_unfolding_none refine hK _ ?_); clear hK K))
            refine wpQuiet_nil ?_
            intro _ hw'
            obtain ⟨nq, hw''⟩ := hw'
            subst hw''
            go_wp2
            go_roundw
            case rel => exact ⟨k + 1, c', ch', by omega, by go_num, hSa.bel (bel_drewN (bel_self W1) _), hKa.trans (BK.of_bel (bel_drewN (bel_self W1) _)), HSKIP.out HF.out⟩
            case measure => simp [intOf]; omega
    · obtain rfl : k = m := by omega
      have hnl : ¬ ((k : Int) < k) := by omega
      go_wp2
      exact HK.out hS' hK' (by rw [hal]; exact hR')
end Go.Proofs.Yteehgcbjmdideaa

/- Loops of 'ComposedOf': the arcs of the second one. (Made by wip/gen/cpl.py.) -/
namespace Go.Proofs.Yteehgcbjmdideaa
open Go.RowKit
attribute [local go_sem ↓] Go.wp_at_zero Go.wp_at_succ

set_option maxHeartbeats 4000000 in
set_option maxRecDepth 100000 in
theorem loop8 {f g : FstD} {ins outs : List Int} {N M s0 t0 : Nat} {fi fj : Value} {aa : Option Addr} {m ac : Nat} {ca : Option Addr} {mc cc : Nat} {ia : Option Addr} {il ic : Nat} {oa : Option Addr} {ol oc Bf Bg Bo Bs Bc C T : Nat} {w0 : World} {i o H : Nat} {c0 c : List Int} {ch : Bool} {R : Prop} {W : World} {u0 u1 u3 u6 u8 u10 u12 u18 u19 u20 u21 u22 u23 u24 u26 u27 u28 u29 u30 u31 u32 u33 u34 u35 u36 u37 u38 u39 u40 u41 u42 u43 u44 u45 u46 u47 u48 u49 u50 u51 u52 u53 u54 u55 u56 u57 u58 u59 u60 u61 u62 u63 u64 u65 u66 u67 u68 u69 u70 u71 u72 u73 u74 u75 u76 u77 u78 u79 u80 u81 u82 u83 u84 u85 u86 u87 u88 u89 u90 u91 u92 u93 u94 u95 u96 u97 u98 u99 u100 u101 u102 u103 u104 u105 u106 u107 u108 u109 u110 u111 u112 u113 u114 u115 u116 u117 u118 u119 u120 u121 u122 u123 u124 u125 u126 u127 u128 u129 u130 u131 u132 u133 u134 u135 u136 u137 u138 u139 u140 u141 u142 u143 u144 u145 u146 u147 u148 u149 u150 u151 u152 u153 u154 u155 u156 u157 u158 u159 u160 u161 u162 u163 u164 u165 u166 u167 u168 u169 u170 u171 u172 u173 u174 u175 u176 u177 u178 u179 u180 u181 u182 u183 u184 u185 u186 u187 u188 u189 u190 u191 u192 u193 u194 u195 u196 u197 u198 u199 u200 u201 u202 u203 u204 u205 u206 u207 u208 u209 u210 u211 u212 u213 u214 u215 u216 u217 u218 u219 u220 u221 u222 u223 u224 u225 u226 u227 u228 u229 u230 u231 u232 u233 u234 u235 u236 u237 u238 u239 u240 u241 u242 u243 u244 u245 u246 u247 u248 u249 u250 u251 u252 u253 u254 u255 u256 u257 u258 u259 u260 u261 u262 u263 u264 u265 u266 u267 u268 u269 u270 u271 u272 u273 u274 u275 u276 u277 u278 u279 u280 u281 u282 u283 u284 u285 u286 u287 u288 u289 u290 u291 u292 u293 u294 u295 u296 u297 u298 u299 u300 u301 u302 u303 u304 u305 u306 u307 u308 u309 u310 u311 u312 u313 u314 : Value} {cd : Code} {Q : Exit → Act → World → Prop}
    (hcd : cd = (loopsOf (Try.f35.body.getD .skip)).getD 7 .skip) (hX : CX f g ins outs N M s0 t0 fi fj aa m ac ca mc cc ia il ic oa ol oc Bf Bg Bo Bs Bc C T w0) (hi : i ≤ il) (ho : o ≤ ol)
    (hS : SX w0 C H W c ch) (hR : RI (EC f g N M ins outs) (bgC N M s0 t0 ins outs) c0 c ch R)
    (HK : Hid (∀ {x25 x26 x27 x28 x211 x212 x213 x214 x215 x216 x217 x218 x219 x220 x221 x222 x223 x224 x225 x226 x227 x228 x229 x230 x231 x232 x233 x234 x235 x236 x237 x238 x239 x240 x241 x242 x243 x244 x245 x246 x247 x248 x249 x250 x251 x252 x253 x254 x255 x256 x257 x258 x259 x260 x261 x262 x263 x264 x265 x266 x267 x268 x269 x270 x271 x272 x273 x274 x275 : Value} {W' : World} {c' : List Int} {ch' : Bool}, SX w0 C H W' c' ch' → BK W W' C H → RI (EC f g N M ins outs) (bgC N M s0 t0 ins outs) c0 c' ch' (R ∧ gOk g N M outs c0 i o g.arcs.length) → Q (.exit 14) { tmps := #[u0, u1, .slice ia il ic, u3, .pointer (some ⟨Bf, 0, none⟩), .pointer (some ⟨Bg, 0, none⟩), u6, .pointer (some ⟨Bo, 0, none⟩), u8, .pointer (some ⟨Bs, 0, none⟩), u10, .pointer (some ⟨Bc, 0, none⟩), u12, .func (.func 80) #[] #[.pointer (some ⟨Bo, 0, none⟩), .pointer (some ⟨Bs, 0, none⟩), .pointer (some ⟨Bg, 0, none⟩)], .pointer (some ⟨H, 0, none⟩), .func (.func 81) #[] #[.pointer (some ⟨Bc, 0, none⟩), .pointer (some ⟨H, 0, none⟩)], .int .i64 (i : Int), .int .i64 (o : Int), u18, u19, u20, u21, u22, u23, u24, x25, x26, x27, x28, u29, u30, u31, u32, u33, u34, u35, u36, u37, u38, u39, u40, u41, u42, u43, u44, u45, u46, u47, u48, u49, u50, u51, u52, u53, u54, u55, u56, u57, u58, u59, u60, u61, u62, u63, u64, u65, u66, u67, u68, u69, u70, u71, u72, u73, u74, u75, u76, u77, u78, u79, u80, u81, u82, u83, u84, u85, u86, u87, u88, u89, u90, u91, u92, u93, u94, u95, u96, u97, u98, u99, u100, u101, u102, u103, u104, u105, u106, u107, u108, u109, u110, u111, u112, u113, u114, u115, u116, u117, u118, u119, u120, u121, u122, u123, u124, u125, u126, u127, u128, u129, u130, u131, u132, u133, u134, u135, u136, u137, u138, u139, u140, u141, u142, u143, u144, u145, u146, u147, u148, u149, u150, u151, u152, u153, u154, u155, u156, u157, u158, u159, u160, u161, u162, u163, u164, u165, u166, u167, u168, u169, u170, u171, u172, u173, u174, u175, u176, u177, u178, u179, u180, u181, u182, u183, u184, u185, u186, u187, u188, u189, u190, u191, u192, u193, u194, u195, u196, u197, u198, u199, u200, u201, u202, u203, u204, u205, u206, u207, u208, u209, u210, x211, x212, x213, x214, x215, x216, x217, x218, x219, x220, x221, x222, x223, x224, x225, x226, x227, x228, x229, x230, x231, x232, x233, x234, x235, x236, x237, x238, x239, x240, x241, x242, x243, x244, x245, x246, x247, x248, x249, x250, x251, x252, x253, x254, x255, x256, x257, x258, x259, x260, x261, x262, x263, x264, x265, x266, x267, x268, x269, x270, x271, x272, x273, x274, x275, u276, u277, u278, u279, u280, u281, u282, u283, u284, u285, u286, u287, u288, u289, u290, u291, u292, u293, u294, u295, u296, u297, u298, u299, u300, u301, u302, u303, u304, u305, u306, u307, u308, u309, u310, u311, u312, u313, u314], defers := [] } W')) :
    (Code.loop cd).wp Try.prog Q { tmps := #[u0, u1, .slice ia il ic, u3, .pointer (some ⟨Bf, 0, none⟩), .pointer (some ⟨Bg, 0, none⟩), u6, .pointer (some ⟨Bo, 0, none⟩), u8, .pointer (some ⟨Bs, 0, none⟩), u10, .pointer (some ⟨Bc, 0, none⟩), u12, .func (.func 80) #[] #[.pointer (some ⟨Bo, 0, none⟩), .pointer (some ⟨Bs, 0, none⟩), .pointer (some ⟨Bg, 0, none⟩)], .pointer (some ⟨H, 0, none⟩), .func (.func 81) #[] #[.pointer (some ⟨Bc, 0, none⟩), .pointer (some ⟨H, 0, none⟩)], .int .i64 (i : Int), .int .i64 (o : Int), u18, u19, u20, u21, u22, u23, u24, .int .i64 0, u26, u27, u28, u29, u30, u31, u32, u33, u34, u35, u36, u37, u38, u39, u40, u41, u42, u43, u44, u45, u46, u47, u48, u49, u50, u51, u52, u53, u54, u55, u56, u57, u58, u59, u60, u61, u62, u63, u64, u65, u66, u67, u68, u69, u70, u71, u72, u73, u74, u75, u76, u77, u78, u79, u80, u81, u82, u83, u84, u85, u86, u87, u88, u89, u90, u91, u92, u93, u94, u95, u96, u97, u98, u99, u100, u101, u102, u103, u104, u105, u106, u107, u108, u109, u110, u111, u112, u113, u114, u115, u116, u117, u118, u119, u120, u121, u122, u123, u124, u125, u126, u127, u128, u129, u130, u131, u132, u133, u134, u135, u136, u137, u138, u139, u140, u141, u142, u143, u144, u145, u146, u147, u148, u149, u150, u151, u152, u153, u154, u155, u156, u157, u158, u159, u160, u161, u162, u163, u164, u165, u166, u167, u168, u169, u170, u171, u172, u173, u174, u175, u176, u177, u178, u179, u180, u181, u182, u183, u184, u185, u186, u187, u188, u189, u190, u191, u192, u193, u194, u195, u196, u197, u198, u199, u200, u201, u202, u203, u204, u205, u206, u207, u208, u209, u210, u211, u212, u213, u214, u215, u216, u217, u218, u219, u220, u221, u222, u223, u224, u225, u226, u227, u228, u229, u230, u231, u232, u233, u234, u235, u236, u237, u238, u239, u240, u241, u242, u243, u244, u245, u246, u247, u248, u249, u250, u251, u252, u253, u254, u255, u256, u257, u258, u259, u260, u261, u262, u263, u264, u265, u266, u267, u268, u269, u270, u271, u272, u273, u274, u275, u276, u277, u278, u279, u280, u281, u282, u283, u284, u285, u286, u287, u288, u289, u290, u291, u292, u293, u294, u295, u296, u297, u298, u299, u300, u301, u302, u303, u304, u305, u306, u307, u308, u309, u310, u311, u312, u313, u314], defers := [] } W := by
  simp only [Try.f35, loopsOf, List.append_eq, List.nil_append, List.cons_append, List.append_nil, List.getD_cons_zero, List.getD_cons_succ, Option.getD_some] at hcd
  subst hcd
  dsimp only
  have HX : Hid (CX f g ins outs N M s0 t0 fi fj aa m ac ca mc cc ia il ic oa ol oc Bf Bg Bo Bs Bc C T w0) := hX
  go_loopw [25] (fun t25 wx => ∃ (j : Nat) (c' : List Int) (ch' : Bool), j ≤ mc ∧ t25 = .int .i64 (j : Int) ∧ SX w0 C H wx c' ch' ∧ BK W wx C H ∧ RI (EC f g N M ins outs) (bgC N M s0 t0 ins outs) c0 c' ch' (R ∧ gOk g N M outs c0 i o j)) (fun t25 _ => mc - (intOf t25).toNat)
  case atStart => exact ⟨0, c, ch, Nat.zero_le _, rfl, hS, BK.refl, hR.mono fun r => ⟨r, fun k' a hk => absurd hk (Nat.not_lt_zero _)⟩⟩
  case round =>
    obtain ⟨j, c', ch', hj, rfl, hS', hK', hR'⟩ := hrel
    obtain ⟨g1, g2, g3, g4, g5⟩ := HX.out.box wr hS'.kx
    have hCw := hS'.hC
    have hmc := hX.hmc
    have hal' := hX.hal'
    have hol := hX.hol
    have ho40 := hX.ho40
    have y3 := box_cell (k := 3) g2 rfl
    have hjw : IntKind.i64.wrap ((j : Int) + 1) = (j : Int) + 1 := wrap_in _ (by omega) (by omega)
    by_cases hlt : j < mc
    · have hlti : (j : Int) < mc := by omega
      obtain ⟨cb, co, rfl, hxg⟩ := (HX.out.mem wr hS'.kx).2.1.some (by omega)
      obtain ⟨a, hak⟩ : ∃ d, g.arcs[j]? = some d := ⟨_, List.getElem?_eq_getElem (by omega)⟩
      have hgd : g.arcs.getD j a0 = a := by simp [List.getD, hak]
      obtain ⟨n1, _, hn1, _, _, _, _, hnm⟩ := hX.kg.nums
      obtain ⟨⟨s1, s2⟩, ⟨s3, s4⟩, ⟨s5, s6⟩, ⟨s7, s8⟩, s9, s10⟩ := hnm a (List.mem_of_getElem? hak)
      have c0' := hxg.c0 j hlt
      have c1' := hxg.c1 j hlt
      have c2' := hxg.c2 j hlt
      have c3' := hxg.c3 j hlt
      have c4' := hxg.c4 j hlt
      rw [hgd] at c0' c1' c2' c3' c4'
      obtain ⟨sa, hsa⟩ : ∃ p, a.src = p := ⟨_, rfl⟩
      obtain ⟨ta, hta⟩ : ∃ p, a.dst = p := ⟨_, rfl⟩
      obtain ⟨ap, hap⟩ : ∃ p, a.inp = p := ⟨_, rfl⟩
      obtain ⟨aq, haq⟩ : ∃ p, a.out = p := ⟨_, rfl⟩
      obtain ⟨wa, hwa⟩ : ∃ p, a.wt = p := ⟨_, rfl⟩
      rw [hsa] at c0'
      rw [hta] at c3'
      rw [hap] at c1' s5 s6
      rw [haq] at c2' s7 s8
      rw [hwa] at c4'
      have HSKIP : Hid ((ap ≠ 0 ∨ fitB outs o aq = false) → RI (EC f g N M ins outs) (bgC N M s0 t0 ins outs) c0 c' ch' (R ∧ gOk g N M outs c0 i o (j + 1))) := fun hno => hR'.mono fun r => ⟨r.1, fun k' b hk' hb h1 h2 => by
        by_cases e : k' = j
        · subst e
          rw [hak] at hb
          injection hb with hb
          subst hb
          exfalso
          rcases hno with hno | hno
          · exact hno (by rw [← hap]; exact h1)
          · rw [haq, hno] at h2; cases h2
        · exact r.2 k' b (by omega) hb h1 h2⟩
      have HADD : Hid (∀ c'' ch'', RI (EC f g N M ins outs) (bgC N M s0 t0 ins outs) c0 c'' ch'' ((R ∧ gOk g N M outs c0 i o j) ∧ ∀ z : Nat, z < N → Rx c0 (edgeC N M outs.length i o ((z : Int), a.src) (sndS z a))) → RI (EC f g N M ins outs) (bgC N M s0 t0 ins outs) c0 c'' ch'' (R ∧ gOk g N M outs c0 i o (j + 1))) := fun c'' ch'' h2 => h2.mono fun r => ⟨r.1.1, fun k' b hk' hb h1 h3 => by
        by_cases e : k' = j
        · subst e
          rw [hak] at hb
          injection hb with hb
          subst hb
          exact r.2
        · exact r.1.2 k' b (by omega) hb h1 h3⟩
      obtain ⟨W1, hW1⟩ : ∃ W1, W1 = wr.alloc (.cells #[.int .i64 sa, .int .i64 ap, .int .i64 aq, .int .i64 ta, .int .i64 wa] 63) := ⟨_, rfl⟩
      obtain ⟨D, hD⟩ : ∃ D, D = wr.heap.size := ⟨_, rfl⟩
      have hb1 : Below wr.heap.size wr W1 := by rw [hW1]; exact bel_up (bel_self wr) _
      have hdA : W1.heap[D]? = some (.cells #[.int .i64 sa, .int .i64 ap, .int .i64 aq, .int .i64 ta, .int .i64 wa] 63 (0, 0)) := by rw [hW1, hD]; exact heap_alloc_new wr _
      have HDA : Hid (∀ W2 : World, W2.heap[D]? = W1.heap[D]? → W2.heap[D]? = some (.cells #[.int .i64 a.src, .int .i64 a.inp, .int .i64 a.out, .int .i64 a.dst, .int .i64 a.wt] 63 (0, 0))) := fun W2 h => by rw [h, hdA, hsa, hta, hap, haq, hwa]
      have hSa := hS'.bel hb1
      have hKa : BK W W1 C H := hK'.trans (BK.of_bel hb1)
      have hDH : D ≠ H ∧ D ≠ C ∧ w0.heap.size ≤ D := by have h1 := heap_lt hS'.hb; have h2 := heap_lt hS'.ct; have h3 := hS'.kx.size; rw [hD]; omega
      have HA : Hid (g.arcs[j]? = some a ∧ a.inp = ap ∧ a.out = aq) := ⟨hak, hap, haq⟩
      have HR1 : Hid (RI (EC f g N M ins outs) (bgC N M s0 t0 ins outs) c0 c' ch' (R ∧ gOk g N M outs c0 i o j)) := hR'
      have HOUTS : Hid (∀ W, KX w0 C W → ISlice W (.slice oa ol oc) outs) := fun W h => (HX.out.mem W h).2.2.2
      have HDL0 : Hid (D < W1.heap.size) := heap_lt hdA
      have bo := bel_c hb1 (box_cell (k := 0) g3 rfl)
      have HW1 : Hid (W1 = wr.alloc (.cells #[.int .i64 sa, .int .i64 ap, .int .i64 aq, .int .i64 ta, .int .i64 wa] 63) ∧ D = wr.heap.size) := ⟨hW1, hD⟩
      clear hsa hta hap haq hwa hak hgd hxg hW1 hD g1 g2 g3 g4 g5 hR' hnm hn1 s1 s2 s3 s4 s9 s10
      have v1 := box_cell (k := 1) hdA rfl
      have v2 := box_cell (k := 2) hdA rfl
      go_wp2
      rw [← HW1.out.1, ← HW1.out.2]
      clear HW1 c0' c1' c2' c3' c4' y3
      by_cases hp0 : ap = 0
      · have HIN0 : Hid (a.inp = 0) := by rw [HA.out.2.1]; exact hp0
        subst hp0
        by_cases hq0 : aq = 0
        · subst hq0
          have HFT : Hid (fitB outs o a.out = true ∧ o = usedBy o a.out) := by rw [HA.out.2.2]; exact ⟨fit_0 _ _, rfl⟩
          refine wp_region_quiet_lit (by kernel_rfl) (by kernel_rfl) ?_
          repeat (first | ((with_unfolding_none refine quiet_yes ?hy (fun K hK => ?_)); (case hy => exact rfl); go_simp; (with_unfolding_none refine hK _ ?_); clear hK K) | ((with_unfolding_none refine quiet_no ?hy (fun K hK => ?_)); (case hy => exact rfl); go_simp; (with_unfolding_none refine hK _ ?_); clear hK K))
          refine wpQuiet_nil ?_
          intro _ hw'
          obtain ⟨nq, hw''⟩ := hw'
          subst hw''
          have hb2 : Below W1.heap.size W1 (W1.drewN nq) := bel_drewN (bel_self W1) _
          obtain ⟨W2, hW2⟩ : ∃ W2, W2 = W1.drewN nq := ⟨_, rfl⟩
          rw [← hW2] at hb2 ⊢
          have hS2 := hSa.bel hb2
          have hK2 := hKa.trans (BK.of_bel (C := C) (H := H) hb2)
          have HDW : Hid (W2.heap[D]? = W1.heap[D]?) := hb2.block D HDL0.out
          have v2' := box_cell (k := 2) (heap_bel hb2 hdA) rfl
          clear hW2 hdA v1 v2
          go_wp2
          refine loop9 (k := j) (a := a) (by kernel_rfl) hX hi ho HA.out.1 HIN0.out HFT.out.1 HFT.out.2 hS2 (HDA.out W2 HDW.out) hDH.2.2 hDH.1 HR1.out ?_
          unfold Hid
          intros
          rename_i W3 c3 ch3 hS3 hK3 hR3
          go_wp2
          go_roundw
          case rel => exact ⟨j + 1, c3, ch3, by omega, by go_num, hS3, hK2.trans hK3, HADD.out c3 ch3 hR3⟩
          case measure => simp [intOf]; omega
        · have hqp : 0 < aq := by omega
          by_cases hoe : o = ol
          · have HF : Hid (fitB outs o aq = false) := fit_no1 hq0 (by omega)
            subst hoe
            refine wp_region_quiet_lit (by kernel_rfl) (by kernel_rfl) ?_
            repeat (first | ((with_unfolding_none refine quiet_yes ?hy (fun K hK => ?_)); (case hy => exact rfl); go_simp; (with_unfolding_none refine hK _ ?_); clear hK K) | ((with_unfolding_none refine quiet_no ?hy (fun K hK => ?_)); (case hy => exact rfl); go_simp; (with_unfolding_none refine hK _ ?_); clear hK K))
            refine wpQuiet_nil ?_
            intro _ hw'
            obtain ⟨nq, hw''⟩ := hw'
            subst hw''
            go_wp2
            go_roundw
            case rel => exact ⟨j + 1, c', ch', by omega, by go_num, hSa.bel (bel_drewN (bel_self W1) _), hKa.trans (BK.of_bel (bel_drewN (bel_self W1) _)), HSKIP.out (Or.inr HF.out)⟩
            case measure => simp [intOf]; omega
          · have hob : ((o : Int) == ol) = false := by simpa using (by omega : ¬ (o : Int) = ol)
            have hlo : o < ol := by omega
            have hloi : (o : Int) < ol := by omega
            obtain ⟨ob, oo, rfl, hxo⟩ := (HOUTS.out W1 hSa.kx).some (by omega)
            have z0 := hxo.cell o hlo
            obtain ⟨ov, hov⟩ : ∃ v, outs.getD o 0 = v := ⟨_, rfl⟩
            rw [hov] at z0
            by_cases hoq : ov = aq
            · have HFT : Hid (fitB outs o a.out = true ∧ o + 1 = usedBy o a.out) := by
                rw [HA.out.2.2]
                exact ⟨fit_1 (by omega) (by rw [hov]; exact hoq), by unfold usedBy; rw [if_neg hq0]⟩
              subst hoq
              clear hov hxo hq0
              have how : IntKind.i64.wrap ((o : Int) + 1) = (o : Int) + 1 := wrap_in _ (by omega) (by omega)
              refine wp_region_quiet_lit (by kernel_rfl) (by kernel_rfl) ?_
              repeat (first | ((with_unfolding_none refine quiet_yes ?hy (fun K hK => ?_)); (case hy => exact rfl); go_simp; (with_unfolding_none refine hK _ ?_); clear hK K) | ((with_unfolding_none refine quiet_no ?hy (fun K hK => ?_)); (case hy => exact rfl); go_simp; (with_unfolding_none refine hK _ ?_); clear hK K))
              refine wpQuiet_nil ?_
              intro _ hw'
              obtain ⟨nq, hw''⟩ := hw'
              subst hw''
              have hb2 : Below W1.heap.size W1 (W1.drewN nq) := bel_drewN (bel_self W1) _
              obtain ⟨W2, hW2⟩ : ∃ W2, W2 = W1.drewN nq := ⟨_, rfl⟩
              rw [← hW2] at hb2 ⊢
              have hS2 := hSa.bel hb2
              have hK2 := hKa.trans (BK.of_bel (C := C) (H := H) hb2)
              have HDW : Hid (W2.heap[D]? = W1.heap[D]?) := hb2.block D HDL0.out
              have v2' := box_cell (k := 2) (heap_bel hb2 hdA) rfl
              clear hW2 hdA v1 v2
              go_wp2
              refine loop9 (k := j) (a := a) (by kernel_rfl) hX hi ho HA.out.1 HIN0.out HFT.out.1 HFT.out.2 hS2 (HDA.out W2 HDW.out) hDH.2.2 hDH.1 HR1.out ?_
              unfold Hid
              intros
              rename_i W3 c3 ch3 hS3 hK3 hR3
              go_wp2
              go_roundw
              case rel => exact ⟨j + 1, c3, ch3, by omega, by go_num, hS3, hK2.trans hK3, HADD.out c3 ch3 hR3⟩
              case measure => simp [intOf]; omega
            · have HF : Hid (fitB outs o aq = false) := fit_no2 hq0 (by rw [hov]; exact hoq)
              have hoqb : (ov != aq) = true := by simpa using hoq
              clear hov hxo hq0 hoq
              refine wp_region_quiet_lit (by kernel_rfl) (by kernel_rfl) ?_
              repeat (first | ((with_unfolding_none refine quiet_yes ?hy (fun K hK => ?_)); (case hy => exact rfl); go_simp; (with_unfolding_none refine hK _ ?_); clear hK K) | ((with_unfolding_none refine quiet_no ?hy (fun K hK => ?_)); (case hy => exact rfl); go_simp; (with_unfolding_none refine hK _ ?_); clear hK K))
              refine wpQuiet_nil ?_
              intro _ hw'
              obtain ⟨nq, hw''⟩ := hw'
              subst hw''
              go_wp2
              go_roundw
              case rel => exact ⟨j + 1, c', ch', by omega, by go_num, hSa.bel (bel_drewN (bel_self W1) _), hKa.trans (BK.of_bel (bel_drewN (bel_self W1) _)), HSKIP.out (Or.inr HF.out)⟩
              case measure => simp [intOf]; omega
      · have hpp : 0 < ap := by omega
        have HP0 : Hid (ap ≠ 0) := hp0
        clear hp0
        refine wp_region_quiet_lit (by kernel_rfl) (by kernel_rfl) ?_
        repeat (first | ((with_unfolding_none refine quiet_yes ?hy (fun K hK => ?_)); (case hy => exact rfl); go_simp; (with_unfolding_none refine hK _ ?_); clear hK K) | ((with_unfolding_none refine quiet_no ?hy (fun K hK => ?_)); (case hy => exact rfl); go_simp; (with_unfolding_none refine hK _ ?_); clear hK K))
        refine wpQuiet_nil ?_
        intro _ hw'
        obtain ⟨nq, hw''⟩ := hw'
        subst hw''
        go_wp2
        go_roundw
        case rel => exact ⟨j + 1, c', ch', by omega, by go_num, hSa.bel (bel_drewN (bel_self W1) _), hKa.trans (BK.of_bel (bel_drewN (bel_self W1) _)), HSKIP.out (Or.inl HP0.out)⟩
        case measure => simp [intOf]; omega
    · obtain rfl : j = mc := by omega
      have hnl : ¬ ((j : Int) < j) := by omega
      go_wp2
      exact HK.out hS' hK' (by rw [hal']; exact hR')
end Go.Proofs.Yteehgcbjmdideaa
