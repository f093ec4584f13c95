/- Loops of 'ComposedOf': the ends. (Made by wip/gen/cpl.py.) -/
import Derived.Test.YteehgcbjmdideaaQM23
import Derived.Test.YteehgcbjmdideaaQM25
import Derived.Test.YteehgcbjmdideaaQM16
namespace Go.Proofs.Yteehgcbjmdideaa
open Go.RowKit
attribute [local go_sem ↓] Go.wp_at_zero Go.wp_at_succ

theorem fin_le {f : FstD} (kf : Fine f) (v : Nat) : gI f.final v ≤ 1000000000 := by
  unfold gI
  rw [List.getD_eq_getElem?_getD]
  rcases h : f.final[v]? with _ | x
  · simp
  · have := kf.fin x (List.mem_of_getElem? h)
    simp
    omega

set_option maxHeartbeats 1600000 in
set_option maxRecDepth 100000 in
theorem loopB {f g : FstD} {ins outs : List Int} {N M s0 t0 : Nat} {fa : Option Addr} {fc : Nat} {ga : Option Addr} {gc : Nat} {aa : Option Addr} {m ac : Nat} {ca : Option Addr} {mc cc : Nat} {ia : Option Addr} {il ic : Nat} {oa : Option Addr} {ol oc Bf Bg Bo Bs Bc C T : Nat} {w0 : World} {p : Nat} {best : Int} {c : List Int} {W : World} {u0 u1 u3 u6 u8 u10 u12 u14 u15 u16 u17 u18 u19 u20 u21 u22 u23 u24 u25 u26 u27 u28 u32 u33 u34 u35 u36 u37 u38 u39 u40 u41 u42 u43 u44 u45 u46 u47 u48 u49 u50 u51 u52 u53 u54 u55 u56 u57 u58 u59 u60 u61 u62 u63 u64 u65 u66 u67 u68 u69 u70 u71 u72 u73 u74 u75 u76 u77 u78 u79 u80 u81 u82 u83 u84 u85 u86 u87 u88 u89 u90 u91 u92 u93 u94 u95 u96 u97 u98 u99 u100 u101 u102 u103 u104 u105 u106 u107 u108 u109 u110 u111 u112 u113 u114 u115 u116 u117 u118 u119 u120 u121 u122 u123 u124 u125 u126 u127 u128 u129 u130 u131 u132 u133 u134 u135 u136 u137 u138 u139 u140 u141 u142 u143 u144 u145 u146 u147 u148 u149 u150 u151 u152 u153 u154 u155 u156 u157 u158 u159 u160 u161 u162 u163 u164 u165 u166 u167 u168 u169 u170 u171 u172 u173 u174 u175 u176 u177 u178 u179 u180 u181 u182 u183 u184 u185 u186 u187 u188 u189 u190 u191 u192 u193 u194 u195 u196 u197 u198 u199 u200 u201 u202 u203 u204 u205 u206 u207 u208 u209 u210 u211 u212 u213 u214 u215 u216 u217 u218 u219 u220 u221 u222 u223 u224 u225 u226 u227 u228 u229 u230 u231 u232 u233 u234 u235 u236 u237 u238 u239 u240 u241 u242 u243 u244 u245 u246 u247 u248 u249 u250 u251 u252 u253 u254 u255 u256 u257 u258 u259 u260 u261 u262 u263 u264 u265 u266 u267 u268 u269 u270 u271 u272 u273 u274 u275 u276 u277 u278 u279 u280 u281 u282 u283 u284 u285 u286 u287 u288 u289 u290 u291 u292 u293 u294 u295 u296 u297 u298 u299 u300 u301 u302 u303 u304 u305 u306 u307 u308 u309 u310 u311 u312 u313 u314 : Value} {cd : Code} {Q : Exit → Act → World → Prop}
    (hcd : cd = (loopsOf (Try.f35.body.getD .skip)).getD 10 .skip) (hX : CX f g ins outs N M s0 t0 (.slice fa N fc) (.slice ga M gc) aa m ac ca mc cc ia il ic oa ol oc Bf Bg Bo Bs Bc C T w0) (hfm : ∀ W, KX w0 C W → ISlice W (.slice fa N fc) f.final ∧ ISlice W (.slice ga M gc) g.final) (hp : p < N)
    (hK : KX w0 C W) (hC : CT W C c) (hI : InvC (EC f g N M ins outs) (bgC N M s0 t0 ins outs) c) (hF : Fix (EC f g N M ins outs) c) (hM : Mn (EndS f g ins outs fun p' q' => p' < p ∧ q' < M) best)
    (HK : Hid (∀ {x31 x283 x284 x285 x286 x287 x288 x289 x290 x291 x292 x293 x294 x295 x296 x297 x298 x299 x300 x301 x302 x303 x304 x305 x306 x307 x308 x309 x310 x311 x312 x313 : Value} {W' : World} {b' : Int}, KX w0 C W' → CT W' C c → Mn (EndS f g ins outs fun p' q' => p' < p + 1 ∧ q' < M) b' → Q (.exit 20) { tmps := #[u0, u1, .slice ia il ic, u3, .pointer (some ⟨Bf, 0, none⟩), .pointer (some ⟨Bg, 0, none⟩), u6, .pointer (some ⟨Bo, 0, none⟩), u8, .pointer (some ⟨Bs, 0, none⟩), u10, .pointer (some ⟨Bc, 0, none⟩), u12, .func (.func 80) #[] #[.pointer (some ⟨Bo, 0, none⟩), .pointer (some ⟨Bs, 0, none⟩), .pointer (some ⟨Bg, 0, none⟩)], u14, u15, u16, u17, u18, u19, u20, u21, u22, u23, u24, u25, u26, u27, u28, .int .i64 b', .int .i64 (p : Int), x31, u32, u33, u34, u35, u36, u37, u38, u39, u40, u41, u42, u43, u44, u45, u46, u47, u48, u49, u50, u51, u52, u53, u54, u55, u56, u57, u58, u59, u60, u61, u62, u63, u64, u65, u66, u67, u68, u69, u70, u71, u72, u73, u74, u75, u76, u77, u78, u79, u80, u81, u82, u83, u84, u85, u86, u87, u88, u89, u90, u91, u92, u93, u94, u95, u96, u97, u98, u99, u100, u101, u102, u103, u104, u105, u106, u107, u108, u109, u110, u111, u112, u113, u114, u115, u116, u117, u118, u119, u120, u121, u122, u123, u124, u125, u126, u127, u128, u129, u130, u131, u132, u133, u134, u135, u136, u137, u138, u139, u140, u141, u142, u143, u144, u145, u146, u147, u148, u149, u150, u151, u152, u153, u154, u155, u156, u157, u158, u159, u160, u161, u162, u163, u164, u165, u166, u167, u168, u169, u170, u171, u172, u173, u174, u175, u176, u177, u178, u179, u180, u181, u182, u183, u184, u185, u186, u187, u188, u189, u190, u191, u192, u193, u194, u195, u196, u197, u198, u199, u200, u201, u202, u203, u204, u205, u206, u207, u208, u209, u210, u211, u212, u213, u214, u215, u216, u217, u218, u219, u220, u221, u222, u223, u224, u225, u226, u227, u228, u229, u230, u231, u232, u233, u234, u235, u236, u237, u238, u239, u240, u241, u242, u243, u244, u245, u246, u247, u248, u249, u250, u251, u252, u253, u254, u255, u256, u257, u258, u259, u260, u261, u262, u263, u264, u265, u266, u267, u268, u269, u270, u271, u272, u273, u274, u275, u276, u277, u278, u279, u280, u281, u282, x283, x284, x285, x286, x287, x288, x289, x290, x291, x292, x293, x294, x295, x296, x297, x298, x299, x300, x301, x302, x303, x304, x305, x306, x307, x308, x309, x310, x311, x312, x313, u314], defers := [] } W')) :
    (Code.loop cd).wp Try.prog Q { tmps := #[u0, u1, .slice ia il ic, u3, .pointer (some ⟨Bf, 0, none⟩), .pointer (some ⟨Bg, 0, none⟩), u6, .pointer (some ⟨Bo, 0, none⟩), u8, .pointer (some ⟨Bs, 0, none⟩), u10, .pointer (some ⟨Bc, 0, none⟩), u12, .func (.func 80) #[] #[.pointer (some ⟨Bo, 0, none⟩), .pointer (some ⟨Bs, 0, none⟩), .pointer (some ⟨Bg, 0, none⟩)], u14, u15, u16, u17, u18, u19, u20, u21, u22, u23, u24, u25, u26, u27, u28, .int .i64 best, .int .i64 (p : Int), .int .i64 0, u32, u33, u34, u35, u36, u37, u38, u39, u40, u41, u42, u43, u44, u45, u46, u47, u48, u49, u50, u51, u52, u53, u54, u55, u56, u57, u58, u59, u60, u61, u62, u63, u64, u65, u66, u67, u68, u69, u70, u71, u72, u73, u74, u75, u76, u77, u78, u79, u80, u81, u82, u83, u84, u85, u86, u87, u88, u89, u90, u91, u92, u93, u94, u95, u96, u97, u98, u99, u100, u101, u102, u103, u104, u105, u106, u107, u108, u109, u110, u111, u112, u113, u114, u115, u116, u117, u118, u119, u120, u121, u122, u123, u124, u125, u126, u127, u128, u129, u130, u131, u132, u133, u134, u135, u136, u137, u138, u139, u140, u141, u142, u143, u144, u145, u146, u147, u148, u149, u150, u151, u152, u153, u154, u155, u156, u157, u158, u159, u160, u161, u162, u163, u164, u165, u166, u167, u168, u169, u170, u171, u172, u173, u174, u175, u176, u177, u178, u179, u180, u181, u182, u183, u184, u185, u186, u187, u188, u189, u190, u191, u192, u193, u194, u195, u196, u197, u198, u199, u200, u201, u202, u203, u204, u205, u206, u207, u208, u209, u210, u211, u212, u213, u214, u215, u216, u217, u218, u219, u220, u221, u222, u223, u224, u225, u226, u227, u228, u229, u230, u231, u232, u233, u234, u235, u236, u237, u238, u239, u240, u241, u242, u243, u244, u245, u246, u247, u248, u249, u250, u251, u252, u253, u254, u255, u256, u257, u258, u259, u260, u261, u262, u263, u264, u265, u266, u267, u268, u269, u270, u271, u272, u273, u274, u275, u276, u277, u278, u279, u280, u281, u282, u283, u284, u285, u286, u287, u288, u289, u290, u291, u292, u293, u294, u295, u296, u297, u298, u299, u300, u301, u302, u303, u304, u305, u306, u307, u308, u309, u310, u311, u312, u313, u314], defers := [] } W := by
  simp only [Try.f35, loopsOf, List.append_eq, List.nil_append, List.cons_append, List.append_nil, List.getD_cons_zero, List.getD_cons_succ, Option.getD_some] at hcd
  subst hcd
  dsimp only
  have HX : Hid (CX f g ins outs N M s0 t0 (.slice fa N fc) (.slice ga M gc) aa m ac ca mc cc ia il ic oa ol oc Bf Bg Bo Bs Bc C T w0) := hX
  have HI : Hid (InvC (EC f g N M ins outs) (bgC N M s0 t0 ins outs) c ∧ Fix (EC f g N M ins outs) c) := ⟨hI, hF⟩
  have HFM : Hid (∀ W, KX w0 C W → ISlice W (.slice fa N fc) f.final ∧ ISlice W (.slice ga M gc) g.final) := hfm
  clear hI hF hfm
  go_loopw [29, 31] (fun t29 t31 wx => ∃ (z : Nat) (b' : Int), z ≤ M ∧ t29 = .int .i64 b' ∧ t31 = .int .i64 (z : Int) ∧ KX w0 C wx ∧ CT wx C c ∧ Mn (EndS f g ins outs fun p' q' => p' < p ∧ q' < M ∨ p' = p ∧ q' < z) b') (fun _ t31 _ => M - (intOf t31).toNat)
  case atStart =>
    refine ⟨0, best, Nat.zero_le _, rfl, rfl, hK, hC, ?_⟩
    have e : (fun p' q' : Nat => p' < p ∧ q' < M ∨ p' = p ∧ q' < 0) = fun p' q' : Nat => p' < p ∧ q' < M := by
      funext p' q'
      exact propext ⟨fun h => h.elim id fun h => absurd h.2 (Nat.not_lt_zero _), Or.inl⟩
    rw [e]
    exact hM
  case round =>
    obtain ⟨z, b', hz, rfl, rfl, hK', hC', hM'⟩ := hrel
    obtain ⟨g1, g2, g3, g4, g5⟩ := HX.out.box wr hK'
    have hM2 := hX.hM2
    have hN2 := hX.hN2
    have y0 := box_cell (k := 0) g2 rfl
    have hzw : IntKind.i64.wrap ((z : Int) + 1) = (z : Int) + 1 := wrap_in _ (by omega) (by omega)
    by_cases hlt : z < M
    · have hlti : (z : Int) < M := by omega
      have hpi : (p : Int) < N := by omega
      obtain ⟨k1, k2⟩ := HFM.out wr hK'
      obtain ⟨fb, fo, rfl, hxf⟩ := k1.some (by omega)
      obtain ⟨gb, go, rfl, hxg⟩ := k2.some (by omega)
      have y1 := box_cell (k := 2) g1 rfl
      have y2 := box_cell (k := 2) g2 rfl
      have y4 := box_cell (k := 0) g3 rfl
      have y5 := box_cell (k := 0) g4 rfl
      have y6 := box_cell (k := 0) g5 rfl
      have d0 := hxf.cell p hp
      have d1 := hxg.cell z hlt
      have e1 : f.final.getD p 0 = gI f.final p := by
        have := hxf.len
        unfold gI
        simp [List.getD, show p < f.final.length by omega]
      have e2 : g.final.getD z 0 = gI g.final z := by
        have := hxg.len
        unfold gI
        simp [List.getD, show z < g.final.length by omega]
      rw [e1] at d0
      rw [e2] at d1
      have hsp : spC M (N * M) ol p z il ol < T := hX.spot (Nat.le_refl _) (Nat.le_refl _) hp hlt
      have hcl : c.length = T := by rw [HI.out.1.len]; exact hX.bg_len
      have d2 := hC'.cell (v := spC M (N * M) ol p z il ol) (by omega)
      have HCM : Hid (Mn (fun z' => ∃ h, PairN f g ins outs h ((p : Int), (z : Int)) ins.length outs.length z') (gI c (spC M (N * M) ol p z il ol))) := by
        have := cell_mn hX.kf hX.kg hX.hN hX.hM hX.hs hX.ht HI.out.1 HI.out.2 hp hlt
        rw [hX.hil, hX.hol] at this
        rw [hX.hil, hX.hol]
        exact this
      have hat : ∀ n, Calls Try.prog 80 #[.int .i64 (p : Int), .int .i64 (z : Int), .int .i64 (il : Int), .int .i64 (ol : Int), .pointer (some ⟨Bo, 0, none⟩), .pointer (some ⟨Bs, 0, none⟩), .pointer (some ⟨Bg, 0, none⟩)] (wr.drewN n) fun e w' => e = .returned (.int .i64 (spC M (N * M) ol p z il ol : Nat)) ∧ w' = wr.drewN n := fun n =>
        at_any p z il ol (N * M) M ol oa oc Bo Bs Bg _ (bel_c (bel_drewN (bel_self wr) n) y4) (bel_c (bel_drewN (bel_self wr) n) y5) (bel_c (bel_drewN (bel_self wr) n) y0) (by have := hX.ho40; omega) (by have := hX.hi40; omega) (by have := hX.ho40; omega) (by have := hX.NM; omega) (by omega) (by omega) (by omega)
      obtain ⟨S, hS⟩ : ∃ S, S = spC M (N * M) ol p z il ol := ⟨_, rfl⟩
      rw [← hS] at hsp d2 HCM hat
      obtain ⟨x, hx⟩ : ∃ x, x = gI c S := ⟨_, rfl⟩
      obtain ⟨u, hu⟩ : ∃ u, u = gI f.final p := ⟨_, rfl⟩
      obtain ⟨v, hv⟩ : ∃ v, v = gI g.final z := ⟨_, rfl⟩
      have hx1 : x ≤ 1000000000000000 := by have := HI.out.1.top (by rw [hX.bg_len]; exact hX.T_le) S; omega
      have hu1 : u ≤ 1000000000 := by rw [hu]; exact fin_le hX.kf p
      have hv1 : v ≤ 1000000000 := by rw [hv]; exact fin_le hX.kg z
      have huv : plusC u v ≤ 1000000000000 := by unfold plusC; split <;> omega
      have HEND : Hid (Mn (EndS f g ins outs fun p' q' => p' < p ∧ q' < M ∨ p' = p ∧ q' < z + 1) (lessC b' (plusC x (plusC u v)))) := by
        rw [hu, hv]
        refine end_step hM' (by rw [hx]; exact HCM.out) fun p' q' => ?_
        constructor
        · rintro (h | ⟨h1, h2⟩)
          · exact Or.inl (Or.inl h)
          · by_cases e : q' = z
            · exact Or.inr ⟨h1, e⟩
            · exact Or.inl (Or.inr ⟨h1, by omega⟩)
        · rintro ((h | ⟨h1, h2⟩) | ⟨h1, h2⟩)
          · exact Or.inl h
          · exact Or.inr ⟨h1, by omega⟩
          · exact Or.inr ⟨h1, by omega⟩
      rw [← hx] at d2
      rw [← hu] at d0
      rw [← hv] at d1
      have hsi : (S : Int) < T := by omega
      clear hS hx hu hv k1 k2 hxf hxg e1 e2 g1 g2 g3 g4 g5 hM' hcl HCM
      go_wp2
      go_quiet (first | (go_at_call 80; refine Calls.quiet_of_same (hat _)) | (go_at_call 74; refine Calls.quiet_of_same (plusBig_any _ _ _ (by omega) (by omega))) | (go_at_call 27; refine Calls.quiet_of_same (lessRef_any _ _ _)))
      go_wp2
      go_roundw
      case rel => exact ⟨z + 1, _, by omega, rfl, by go_num, hK'.bel (bel_drewN (bel_self wr) _), heap_bel (bel_drewN (bel_self wr) _) hC', HEND.out⟩
      case measure => simp [intOf]; omega
    · obtain rfl : z = M := by omega
      have hnl : ¬ ((z : Int) < z) := by omega
      have HLAST : Hid (Mn (EndS f g ins outs fun p' q' => p' < p + 1 ∧ q' < z) b') := by
        have e : (fun p' q' : Nat => p' < p ∧ q' < z ∨ p' = p ∧ q' < z) = fun p' q' : Nat => p' < p + 1 ∧ q' < z := by
          funext p' q'
          exact propext ⟨fun h => by omega, fun h => by omega⟩
        show Mn _ _
        rw [← e]
        exact hM'
      clear g1 g2 g3 g4 g5 hM'
      go_wp2
      exact HK.out hK' hC' HLAST.out

set_option maxHeartbeats 1600000 in
set_option maxRecDepth 100000 in
theorem loopA {f g : FstD} {ins outs : List Int} {N M s0 t0 : Nat} {fa : Option Addr} {fc : Nat} {ga : Option Addr} {gc : Nat} {aa : Option Addr} {m ac : Nat} {ca : Option Addr} {mc cc : Nat} {ia : Option Addr} {il ic : Nat} {oa : Option Addr} {ol oc Bf Bg Bo Bs Bc C T : Nat} {w0 : World} {c : List Int} {W : World} {u0 u1 u3 u6 u8 u10 u12 u14 u15 u16 u17 u18 u19 u20 u21 u22 u23 u24 u25 u26 u27 u28 u31 u32 u33 u34 u35 u36 u37 u38 u39 u40 u41 u42 u43 u44 u45 u46 u47 u48 u49 u50 u51 u52 u53 u54 u55 u56 u57 u58 u59 u60 u61 u62 u63 u64 u65 u66 u67 u68 u69 u70 u71 u72 u73 u74 u75 u76 u77 u78 u79 u80 u81 u82 u83 u84 u85 u86 u87 u88 u89 u90 u91 u92 u93 u94 u95 u96 u97 u98 u99 u100 u101 u102 u103 u104 u105 u106 u107 u108 u109 u110 u111 u112 u113 u114 u115 u116 u117 u118 u119 u120 u121 u122 u123 u124 u125 u126 u127 u128 u129 u130 u131 u132 u133 u134 u135 u136 u137 u138 u139 u140 u141 u142 u143 u144 u145 u146 u147 u148 u149 u150 u151 u152 u153 u154 u155 u156 u157 u158 u159 u160 u161 u162 u163 u164 u165 u166 u167 u168 u169 u170 u171 u172 u173 u174 u175 u176 u177 u178 u179 u180 u181 u182 u183 u184 u185 u186 u187 u188 u189 u190 u191 u192 u193 u194 u195 u196 u197 u198 u199 u200 u201 u202 u203 u204 u205 u206 u207 u208 u209 u210 u211 u212 u213 u214 u215 u216 u217 u218 u219 u220 u221 u222 u223 u224 u225 u226 u227 u228 u229 u230 u231 u232 u233 u234 u235 u236 u237 u238 u239 u240 u241 u242 u243 u244 u245 u246 u247 u248 u249 u250 u251 u252 u253 u254 u255 u256 u257 u258 u259 u260 u261 u262 u263 u264 u265 u266 u267 u268 u269 u270 u271 u272 u273 u274 u275 u276 u277 u278 u279 u280 u281 u282 u283 u284 u285 u286 u287 u288 u289 u290 u291 u292 u293 u294 u295 u296 u297 u298 u299 u300 u301 u302 u303 u304 u305 u306 u307 u308 u309 u310 u311 u312 u313 u314 : Value} {cd : Code} {Q : Exit → Act → World → Prop}
    (hcd : cd = (loopsOf (Try.f35.body.getD .skip)).getD 9 .skip) (hX : CX f g ins outs N M s0 t0 (.slice fa N fc) (.slice ga M gc) aa m ac ca mc cc ia il ic oa ol oc Bf Bg Bo Bs Bc C T w0) (hfm : ∀ W, KX w0 C W → ISlice W (.slice fa N fc) f.final ∧ ISlice W (.slice ga M gc) g.final)
    (hK : KX w0 C W) (hC : CT W C c) (hI : InvC (EC f g N M ins outs) (bgC N M s0 t0 ins outs) c) (hF : Fix (EC f g N M ins outs) c)
    (HK : Hid (∀ {x30 x31 x277 x278 x279 x280 x281 x282 x283 x284 x285 x286 x287 x288 x289 x290 x291 x292 x293 x294 x295 x296 x297 x298 x299 x300 x301 x302 x303 x304 x305 x306 x307 x308 x309 x310 x311 x312 x313 : Value} {W' : World} {b' : Int}, KX w0 C W' → CT W' C c → Mn (PairT f g ins outs) b' → Q (.exit 18) { tmps := #[u0, u1, .slice ia il ic, u3, .pointer (some ⟨Bf, 0, none⟩), .pointer (some ⟨Bg, 0, none⟩), u6, .pointer (some ⟨Bo, 0, none⟩), u8, .pointer (some ⟨Bs, 0, none⟩), u10, .pointer (some ⟨Bc, 0, none⟩), u12, .func (.func 80) #[] #[.pointer (some ⟨Bo, 0, none⟩), .pointer (some ⟨Bs, 0, none⟩), .pointer (some ⟨Bg, 0, none⟩)], u14, u15, u16, u17, u18, u19, u20, u21, u22, u23, u24, u25, u26, u27, u28, .int .i64 b', x30, x31, u32, u33, u34, u35, u36, u37, u38, u39, u40, u41, u42, u43, u44, u45, u46, u47, u48, u49, u50, u51, u52, u53, u54, u55, u56, u57, u58, u59, u60, u61, u62, u63, u64, u65, u66, u67, u68, u69, u70, u71, u72, u73, u74, u75, u76, u77, u78, u79, u80, u81, u82, u83, u84, u85, u86, u87, u88, u89, u90, u91, u92, u93, u94, u95, u96, u97, u98, u99, u100, u101, u102, u103, u104, u105, u106, u107, u108, u109, u110, u111, u112, u113, u114, u115, u116, u117, u118, u119, u120, u121, u122, u123, u124, u125, u126, u127, u128, u129, u130, u131, u132, u133, u134, u135, u136, u137, u138, u139, u140, u141, u142, u143, u144, u145, u146, u147, u148, u149, u150, u151, u152, u153, u154, u155, u156, u157, u158, u159, u160, u161, u162, u163, u164, u165, u166, u167, u168, u169, u170, u171, u172, u173, u174, u175, u176, u177, u178, u179, u180, u181, u182, u183, u184, u185, u186, u187, u188, u189, u190, u191, u192, u193, u194, u195, u196, u197, u198, u199, u200, u201, u202, u203, u204, u205, u206, u207, u208, u209, u210, u211, u212, u213, u214, u215, u216, u217, u218, u219, u220, u221, u222, u223, u224, u225, u226, u227, u228, u229, u230, u231, u232, u233, u234, u235, u236, u237, u238, u239, u240, u241, u242, u243, u244, u245, u246, u247, u248, u249, u250, u251, u252, u253, u254, u255, u256, u257, u258, u259, u260, u261, u262, u263, u264, u265, u266, u267, u268, u269, u270, u271, u272, u273, u274, u275, u276, x277, x278, x279, x280, x281, x282, x283, x284, x285, x286, x287, x288, x289, x290, x291, x292, x293, x294, x295, x296, x297, x298, x299, x300, x301, x302, x303, x304, x305, x306, x307, x308, x309, x310, x311, x312, x313, u314], defers := [] } W')) :
    (Code.loop cd).wp Try.prog Q { tmps := #[u0, u1, .slice ia il ic, u3, .pointer (some ⟨Bf, 0, none⟩), .pointer (some ⟨Bg, 0, none⟩), u6, .pointer (some ⟨Bo, 0, none⟩), u8, .pointer (some ⟨Bs, 0, none⟩), u10, .pointer (some ⟨Bc, 0, none⟩), u12, .func (.func 80) #[] #[.pointer (some ⟨Bo, 0, none⟩), .pointer (some ⟨Bs, 0, none⟩), .pointer (some ⟨Bg, 0, none⟩)], u14, u15, u16, u17, u18, u19, u20, u21, u22, u23, u24, u25, u26, u27, u28, .int .i64 (-1), .int .i64 0, u31, u32, u33, u34, u35, u36, u37, u38, u39, u40, u41, u42, u43, u44, u45, u46, u47, u48, u49, u50, u51, u52, u53, u54, u55, u56, u57, u58, u59, u60, u61, u62, u63, u64, u65, u66, u67, u68, u69, u70, u71, u72, u73, u74, u75, u76, u77, u78, u79, u80, u81, u82, u83, u84, u85, u86, u87, u88, u89, u90, u91, u92, u93, u94, u95, u96, u97, u98, u99, u100, u101, u102, u103, u104, u105, u106, u107, u108, u109, u110, u111, u112, u113, u114, u115, u116, u117, u118, u119, u120, u121, u122, u123, u124, u125, u126, u127, u128, u129, u130, u131, u132, u133, u134, u135, u136, u137, u138, u139, u140, u141, u142, u143, u144, u145, u146, u147, u148, u149, u150, u151, u152, u153, u154, u155, u156, u157, u158, u159, u160, u161, u162, u163, u164, u165, u166, u167, u168, u169, u170, u171, u172, u173, u174, u175, u176, u177, u178, u179, u180, u181, u182, u183, u184, u185, u186, u187, u188, u189, u190, u191, u192, u193, u194, u195, u196, u197, u198, u199, u200, u201, u202, u203, u204, u205, u206, u207, u208, u209, u210, u211, u212, u213, u214, u215, u216, u217, u218, u219, u220, u221, u222, u223, u224, u225, u226, u227, u228, u229, u230, u231, u232, u233, u234, u235, u236, u237, u238, u239, u240, u241, u242, u243, u244, u245, u246, u247, u248, u249, u250, u251, u252, u253, u254, u255, u256, u257, u258, u259, u260, u261, u262, u263, u264, u265, u266, u267, u268, u269, u270, u271, u272, u273, u274, u275, u276, u277, u278, u279, u280, u281, u282, u283, u284, u285, u286, u287, u288, u289, u290, u291, u292, u293, u294, u295, u296, u297, u298, u299, u300, u301, u302, u303, u304, u305, u306, u307, u308, u309, u310, u311, u312, u313, u314], defers := [] } W := by
  simp only [Try.f35, loopsOf, List.append_eq, List.nil_append, List.cons_append, List.append_nil, List.getD_cons_zero, List.getD_cons_succ, Option.getD_some] at hcd
  subst hcd
  dsimp only
  have HX : Hid (CX f g ins outs N M s0 t0 (.slice fa N fc) (.slice ga M gc) aa m ac ca mc cc ia il ic oa ol oc Bf Bg Bo Bs Bc C T w0) := hX
  have HI : Hid (InvC (EC f g N M ins outs) (bgC N M s0 t0 ins outs) c ∧ Fix (EC f g N M ins outs) c) := ⟨hI, hF⟩
  have HFM : Hid (∀ W, KX w0 C W → ISlice W (.slice fa N fc) f.final ∧ ISlice W (.slice ga M gc) g.final) := hfm
  clear hI hF hfm
  go_loopw [29, 30] (fun t29 t30 wx => ∃ (z : Nat) (b' : Int), z ≤ N ∧ t29 = .int .i64 b' ∧ t30 = .int .i64 (z : Int) ∧ KX w0 C wx ∧ CT wx C c ∧ Mn (EndS f g ins outs fun p' q' => p' < z ∧ q' < M) b') (fun _ t30 _ => N - (intOf t30).toNat)
  case atStart =>
    refine ⟨0, -1, Nat.zero_le _, rfl, rfl, hK, hC, Or.inl ⟨rfl, ?_⟩⟩
    rintro y ⟨p, q, ⟨h, _⟩, _⟩
    exact absurd h (Nat.not_lt_zero _)
  case round =>
    obtain ⟨z, b', hz, rfl, rfl, hK', hC', hM'⟩ := hrel
    obtain ⟨g1, g2, g3, g4, g5⟩ := HX.out.box wr hK'
    have hN2 := hX.hN2
    have y0 := box_cell (k := 0) g1 rfl
    have hzw : IntKind.i64.wrap ((z : Int) + 1) = (z : Int) + 1 := wrap_in _ (by omega) (by omega)
    clear g1 g2 g3 g4 g5
    by_cases hlt : z < N
    · have hlti : (z : Int) < N := by omega
      go_wp2
      refine loopB (p := z) (by kernel_rfl) hX HFM.out hlt hK' hC' HI.out.1 HI.out.2 hM' ?_
      unfold Hid
      intros
      rename_i W3 b3 hK3 hC3 hM3
      go_wp2
      go_roundw
      case rel => exact ⟨z + 1, b3, by omega, rfl, by go_num, hK3, hC3, hM3⟩
      case measure => simp [intOf]; omega
    · obtain rfl : z = N := by omega
      have hnl : ¬ ((z : Int) < z) := by omega
      have HLAST : Hid (Mn (PairT f g ins outs) b') := end_all hX.kf hX.kg hX.hN hX.hM hM'
      clear hM'
      go_wp2
      exact HK.out hK' hC' HLAST.out
end Go.Proofs.Yteehgcbjmdideaa

/- Loops of 'ComposedOf': the whole. (Made by wip/gen/cpl.py.) -/
namespace Go.Proofs.Yteehgcbjmdideaa
open Go.RowKit
attribute [local go_sem ↓] Go.wp_at_zero Go.wp_at_succ

def fillN (T k : Nat) : List Int := List.replicate k (-1) ++ List.replicate (T - k) 0
theorem fill_set {T k : Nat} (h : k < T) : (fillN T k).set k (-1) = fillN T (k + 1) := by
  unfold fillN
  obtain ⟨d, rfl⟩ : ∃ d, T = k + 1 + d := ⟨T - (k + 1), by omega⟩
  rw [show k + 1 + d - k = d + 1 by omega, show k + 1 + d - (k + 1) = d by omega, List.set_append_right _ _ (by simp), List.length_replicate, Nat.sub_self, List.replicate_succ (n := d), List.set_cons_zero, List.replicate_succ' (n := k), List.append_assoc]
  rfl
theorem fill_len {T k : Nat} (h : k ≤ T) : (fillN T k).length = T := by unfold fillN; simp; omega
theorem fill_zero (T : Nat) : fillN T 0 = List.replicate T 0 := by unfold fillN; simp
theorem fill_all (T : Nat) : fillN T T = List.replicate T (-1) := by unfold fillN; simp
theorem bg_set (T s : Nat) : (List.replicate T (-1 : Int)).set s 0 = bgS s T := by
  unfold bgS
  apply List.ext_getElem?
  intro i
  rw [List.getElem?_set, List.getElem?_map, List.length_replicate, List.getElem?_replicate]
  by_cases hi : i < T
  · rw [List.getElem?_range hi]
    by_cases e : s = i
    · subst e; simp [hi]
    · simp [e, hi]
      omega
  · rw [List.getElem?_eq_none (l := List.range T) (by simp; omega)]
    by_cases e : s = i
    · subst e; simp [hi]
    · simp [e, hi]
theorem KX.put {A W : World} {C : Nat} (h : KX A C W) (k : Nat) (v : Value) : KX A C (W.setCell ⟨C, k, none⟩ v) :=
  ⟨h.os, h.tape, h.output, by have := h.size; simpa [World.setCell] using this, fun b hb h1 => (Below.heap_setCell _ ⟨C, k, none⟩ _ b h1).trans (h.block b hb h1)⟩
theorem KX.refl {A : World} {C : Nat} : KX A C A := ⟨rfl, rfl, rfl, Nat.le_refl _, fun _ _ _ => rfl⟩
theorem KX.trans {A B W : World} {C : Nat} (h : KX A C B) (k : KX B C W) : KX A C W :=
  ⟨k.os.trans h.os, k.tape.trans h.tape, k.output.trans h.output, Nat.le_trans h.size k.size, fun b hb h1 => (k.block b (Nat.lt_of_lt_of_le hb h.size) h1).trans (h.block b hb h1)⟩

set_option maxHeartbeats 1600000 in
set_option maxRecDepth 100000 in
theorem loopZ {A : World} {Bc C T : Nat} {W : World} {u0 u1 u2 u3 u4 u5 u6 u7 u8 u9 u10 u13 u14 u15 u16 u17 u18 u19 u20 u21 u22 u23 u24 u25 u26 u27 u28 u29 u30 u31 u32 u33 u34 u35 u36 u37 u38 u39 u40 u41 u42 u43 u44 u45 u46 u47 u48 u49 u50 u51 u52 u53 u54 u55 u56 u57 u58 u59 u60 u61 u62 u63 u64 u65 u66 u67 u68 u69 u70 u71 u72 u73 u74 u75 u76 u77 u78 u79 u80 u81 u82 u83 u84 u85 u86 u87 u88 u89 u90 u91 u92 u93 u94 u95 u96 u97 u98 u99 u100 u101 u102 u103 u104 u105 u106 u107 u108 u109 u110 u111 u112 u113 u114 u115 u116 u117 u118 u119 u120 u121 u122 u123 u124 u125 u126 u127 u128 u129 u130 u131 u132 u133 u134 u135 u136 u137 u138 u139 u140 u141 u142 u143 u144 u145 u146 u147 u148 u149 u150 u151 u152 u153 u154 u155 u156 u157 u158 u159 u160 u161 u162 u163 u164 u165 u166 u167 u168 u169 u170 u171 u172 u173 u174 u175 u176 u177 u178 u179 u180 u181 u182 u183 u184 u185 u186 u187 u188 u189 u190 u191 u192 u193 u194 u195 u196 u197 u198 u199 u200 u201 u202 u203 u204 u205 u206 u207 u208 u209 u210 u211 u212 u213 u214 u215 u216 u217 u218 u219 u220 u221 u222 u223 u224 u225 u226 u227 u228 u229 u230 u231 u232 u233 u234 u235 u236 u237 u238 u239 u240 u241 u242 u243 u244 u245 u246 u247 u248 u249 u250 u251 u252 u253 u254 u255 u256 u257 u258 u259 u260 u261 u262 u263 u264 u265 u266 u267 u268 u269 u270 u271 u272 u273 u274 u275 u276 u277 u278 u279 u280 u281 u282 u283 u284 u285 u286 u287 u288 u289 u290 u291 u292 u293 u294 u295 u296 u297 u298 u299 u300 u301 u302 u303 u304 u305 u306 u307 u308 u309 u310 u311 u312 u313 u314 : Value} {cd : Code} {Q : Exit → Act → World → Prop}
    (hcd : cd = (loopsOf (Try.f35.body.getD .skip)).getD 0 .skip) (hT : T ≤ 400000)
    (hBc : ∀ W, KX A C W → W.cell? ⟨Bc, 0, none⟩ = some (.slice (some ⟨C, 0, none⟩) T T)) (hK : KX A C W) (hC : CT W C (List.replicate T 0))
    (HK : Hid (∀ {x12 x48 x49 x50 x51 x52 x53 x54 x55 x56 : Value} {W' : World}, KX A C W' → CT W' C (List.replicate T (-1)) → Q (.exit 0) { tmps := #[u0, u1, u2, u3, u4, u5, u6, u7, u8, u9, u10, .pointer (some ⟨Bc, 0, none⟩), x12, u13, u14, u15, u16, u17, u18, u19, u20, u21, u22, u23, u24, u25, u26, u27, u28, u29, u30, u31, u32, u33, u34, u35, u36, u37, u38, u39, u40, u41, u42, u43, u44, u45, u46, u47, x48, x49, x50, x51, x52, x53, x54, x55, x56, u57, u58, u59, u60, u61, u62, u63, u64, u65, u66, u67, u68, u69, u70, u71, u72, u73, u74, u75, u76, u77, u78, u79, u80, u81, u82, u83, u84, u85, u86, u87, u88, u89, u90, u91, u92, u93, u94, u95, u96, u97, u98, u99, u100, u101, u102, u103, u104, u105, u106, u107, u108, u109, u110, u111, u112, u113, u114, u115, u116, u117, u118, u119, u120, u121, u122, u123, u124, u125, u126, u127, u128, u129, u130, u131, u132, u133, u134, u135, u136, u137, u138, u139, u140, u141, u142, u143, u144, u145, u146, u147, u148, u149, u150, u151, u152, u153, u154, u155, u156, u157, u158, u159, u160, u161, u162, u163, u164, u165, u166, u167, u168, u169, u170, u171, u172, u173, u174, u175, u176, u177, u178, u179, u180, u181, u182, u183, u184, u185, u186, u187, u188, u189, u190, u191, u192, u193, u194, u195, u196, u197, u198, u199, u200, u201, u202, u203, u204, u205, u206, u207, u208, u209, u210, u211, u212, u213, u214, u215, u216, u217, u218, u219, u220, u221, u222, u223, u224, u225, u226, u227, u228, u229, u230, u231, u232, u233, u234, u235, u236, u237, u238, u239, u240, u241, u242, u243, u244, u245, u246, u247, u248, u249, u250, u251, u252, u253, u254, u255, u256, u257, u258, u259, u260, u261, u262, u263, u264, u265, u266, u267, u268, u269, u270, u271, u272, u273, u274, u275, u276, u277, u278, u279, u280, u281, u282, u283, u284, u285, u286, u287, u288, u289, u290, u291, u292, u293, u294, u295, u296, u297, u298, u299, u300, u301, u302, u303, u304, u305, u306, u307, u308, u309, u310, u311, u312, u313, u314], defers := [] } W')) :
    (Code.loop cd).wp Try.prog Q { tmps := #[u0, u1, u2, u3, u4, u5, u6, u7, u8, u9, u10, .pointer (some ⟨Bc, 0, none⟩), .int .i64 0, u13, u14, u15, u16, u17, u18, u19, u20, u21, u22, u23, u24, u25, u26, u27, u28, u29, u30, u31, u32, u33, u34, u35, u36, u37, u38, u39, u40, u41, u42, u43, u44, u45, u46, u47, u48, u49, u50, u51, u52, u53, u54, u55, u56, u57, u58, u59, u60, u61, u62, u63, u64, u65, u66, u67, u68, u69, u70, u71, u72, u73, u74, u75, u76, u77, u78, u79, u80, u81, u82, u83, u84, u85, u86, u87, u88, u89, u90, u91, u92, u93, u94, u95, u96, u97, u98, u99, u100, u101, u102, u103, u104, u105, u106, u107, u108, u109, u110, u111, u112, u113, u114, u115, u116, u117, u118, u119, u120, u121, u122, u123, u124, u125, u126, u127, u128, u129, u130, u131, u132, u133, u134, u135, u136, u137, u138, u139, u140, u141, u142, u143, u144, u145, u146, u147, u148, u149, u150, u151, u152, u153, u154, u155, u156, u157, u158, u159, u160, u161, u162, u163, u164, u165, u166, u167, u168, u169, u170, u171, u172, u173, u174, u175, u176, u177, u178, u179, u180, u181, u182, u183, u184, u185, u186, u187, u188, u189, u190, u191, u192, u193, u194, u195, u196, u197, u198, u199, u200, u201, u202, u203, u204, u205, u206, u207, u208, u209, u210, u211, u212, u213, u214, u215, u216, u217, u218, u219, u220, u221, u222, u223, u224, u225, u226, u227, u228, u229, u230, u231, u232, u233, u234, u235, u236, u237, u238, u239, u240, u241, u242, u243, u244, u245, u246, u247, u248, u249, u250, u251, u252, u253, u254, u255, u256, u257, u258, u259, u260, u261, u262, u263, u264, u265, u266, u267, u268, u269, u270, u271, u272, u273, u274, u275, u276, u277, u278, u279, u280, u281, u282, u283, u284, u285, u286, u287, u288, u289, u290, u291, u292, u293, u294, u295, u296, u297, u298, u299, u300, u301, u302, u303, u304, u305, u306, u307, u308, u309, u310, u311, u312, u313, u314], defers := [] } W := by
  simp only [Try.f35, loopsOf, List.append_eq, List.nil_append, List.cons_append, List.append_nil, List.getD_cons_zero, Option.getD_some] at hcd
  subst hcd
  dsimp only
  have HB : Hid (∀ W, KX A C W → W.cell? ⟨Bc, 0, none⟩ = some (.slice (some ⟨C, 0, none⟩) T T)) := hBc
  clear hBc
  go_loopw [12] (fun t12 wx => ∃ (z : Nat), z ≤ T ∧ t12 = .int .i64 (z : Int) ∧ KX A C wx ∧ CT wx C (fillN T z)) (fun t12 _ => T - (intOf t12).toNat)
  case atStart => exact ⟨0, Nat.zero_le _, rfl, hK, by rw [fill_zero]; exact hC⟩
  case round =>
    obtain ⟨z, hz, rfl, hK', hC'⟩ := hrel
    have y0 := HB.out wr hK'
    have hzw : IntKind.i64.wrap ((z : Int) + 1) = (z : Int) + 1 := wrap_in _ (by omega) (by omega)
    by_cases hlt : z < T
    · have hlti : (z : Int) < T := by omega
      have r0 := hC'.frz z
      have r1 := hC'.cell (v := z) (by rw [fill_len hz]; exact hlt)
      have HC1 : Hid (CT (wr.setCell ⟨C, z, none⟩ (.int .i64 (-1))) C (fillN T (z + 1))) := by
        have := hC'.set z (-1)
        rw [fill_set hlt] at this
        exact this
      go_wp2
      go_roundw
      case rel => exact ⟨z + 1, by omega, by go_num, hK'.put z _, HC1.out⟩
      case measure => simp [intOf]; omega
    · obtain rfl : z = T := by omega
      have hnl : ¬ ((z : Int) < z) := by omega
      rw [fill_all] at hC'
      go_wp2
      exact HK.out hK' hC'
end Go.Proofs.Yteehgcbjmdideaa

/- Loops of 'ComposedOf': all of it. (Made by wip/gen/cpl.py.) -/
namespace Go.Proofs.Yteehgcbjmdideaa
open Go.RowKit
attribute [local go_sem ↓] Go.wp_at_zero Go.wp_at_succ

theorem six_boxes (w A : World) (o1 o2 o3 o4 o5 o6 : Obj) (h : A = (((((w.alloc o1).alloc o2).alloc o3).alloc o4).alloc o5).alloc o6) :
    Below w.heap.size w A ∧ A.heap.size = w.heap.size + 6 ∧ A.heap[w.heap.size]? = some o1 ∧ A.heap[w.heap.size + 1]? = some o2 ∧ A.heap[w.heap.size + 2]? = some o3 ∧ A.heap[w.heap.size + 3]? = some o4 ∧ A.heap[w.heap.size + 4]? = some o5 ∧ A.heap[w.heap.size + 5]? = some o6 := by
  subst h
  have sz : ∀ (w : World) (o : Obj), (w.alloc o).heap.size = w.heap.size + 1 := fun w o => by simp
  have up : ∀ (w : World) (o : Obj) (k : Nat) (x : Obj), w.heap[k]? = some x → (w.alloc o).heap[k]? = some x := fun w o k x h => heap_bel (bel_up (bel_self w) o) h
  have n1 := heap_alloc_new w o1
  have n2 := heap_alloc_new (w.alloc o1) o2
  have n3 := heap_alloc_new ((w.alloc o1).alloc o2) o3
  have n4 := heap_alloc_new (((w.alloc o1).alloc o2).alloc o3) o4
  have n5 := heap_alloc_new ((((w.alloc o1).alloc o2).alloc o3).alloc o4) o5
  have n6 := heap_alloc_new (((((w.alloc o1).alloc o2).alloc o3).alloc o4).alloc o5) o6
  rw [sz] at n2
  rw [sz, sz] at n3
  rw [sz, sz, sz] at n4
  rw [sz, sz, sz, sz] at n5
  rw [sz, sz, sz, sz, sz] at n6
  refine ⟨bel_up (bel_up (bel_up (bel_up (bel_up (bel_up (bel_self w) _) _) _) _) _) _, by rw [sz, sz, sz, sz, sz, sz], up _ _ _ _ (up _ _ _ _ (up _ _ _ _ (up _ _ _ _ (up _ _ _ _ n1)))), up _ _ _ _ (up _ _ _ _ (up _ _ _ _ (up _ _ _ _ n2))), up _ _ _ _ (up _ _ _ _ (up _ _ _ _ n3)), up _ _ _ _ (up _ _ _ _ n4), up _ _ _ _ n5, n6⟩
theorem replW (T : Nat) : madeCells #[.int .i64 0] T = ((List.replicate T (0 : Int)).map (Value.int .i64)).toArray := by
  rw [← rowR_made 0 T]
  simp [rowR]

set_option maxHeartbeats 1600000 in
set_option maxRecDepth 100000 in
theorem composedOf_any (f g : FstD) (ins outs : List Int) (N M s0 t0 : Nat) (fa : Option Addr) (fc : Nat) (ga : Option Addr) (gc : Nat) (aa : Option Addr) (m ac : Nat) (ca : Option Addr) (mc cc : Nat) (ia : Option Addr) (il ic : Nat) (oa : Option Addr) (ol oc : Nat) (w : World)
    (kf : Fine f) (kg : Fine g) (hN : f.states = N) (hM : g.states = M) (hs : f.start = s0) (ht : g.start = t0) (hN2 : N ≤ 12) (hM2 : M ≤ 12) (hal : f.arcs.length = m) (hal' : g.arcs.length = mc) (hm : m ≤ 100) (hmc : mc ≤ 100) (hil : ins.length = il) (hol : outs.length = ol) (hi40 : il ≤ 12) (ho40 : ol ≤ 12)
    (h1 : ISlice w (.slice fa N fc) f.final) (h2 : ISlice w (.slice ga M gc) g.final) (h3 : ASlice w (.slice aa m ac) f.arcs) (h4 : ASlice w (.slice ca mc cc) g.arcs) (h5 : ISlice w (.slice ia il ic) ins) (h6 : ISlice w (.slice oa ol oc) outs) :
    Calls Try.prog 35 #[.agg #[.int .i64 (N : Int), .int .i64 (s0 : Int), .slice fa N fc, .slice aa m ac], .agg #[.int .i64 (M : Int), .int .i64 (t0 : Int), .slice ga M gc, .slice ca mc cc], .slice ia il ic, .slice oa ol oc] w fun e w' => ∃ x, e = .returned (.int .i64 x) ∧ Mn (PairT f g ins outs) x ∧ Below w.heap.size w w' := by
  have a1 : N * M ≤ 12 * 12 := Nat.mul_le_mul hN2 hM2
  have a2 : (il + 1) * (ol + 1) ≤ 13 * 13 := Nat.mul_le_mul (by omega) (by omega)
  obtain ⟨S, hS⟩ : ∃ S, S = N * M := ⟨_, rfl⟩
  obtain ⟨L, hL⟩ : ∃ L, L = (il + 1) * (ol + 1) := ⟨_, rfl⟩
  obtain ⟨T, hT⟩ : ∃ T, T = S * L := ⟨_, rfl⟩
  have a3 : S * L ≤ 144 * 169 := Nat.mul_le_mul (by omega) (by omega)
  have e1 : (N : Int) * (M : Int) = (S : Int) := by rw [hS]; simp
  have e2 : ((il : Int) + 1) * ((ol : Int) + 1) = (L : Int) := by rw [hL]; simp
  have e3 : (S : Int) * (L : Int) = (T : Int) := by rw [hT]; simp
  have w1 : IntKind.i64.wrap (S : Int) = (S : Int) := wrap_in _ (by omega) (by omega)
  have w2 : IntKind.i64.wrap (L : Int) = (L : Int) := wrap_in _ (by omega) (by omega)
  have w3 : IntKind.i64.wrap (T : Int) = (T : Int) := wrap_in _ (by omega) (by omega)
  have w4 : IntKind.i64.wrap ((il : Int) + 1) = (il : Int) + 1 := wrap_in _ (by omega) (by omega)
  have w5 : IntKind.i64.wrap ((ol : Int) + 1) = (ol : Int) + 1 := wrap_in _ (by omega) (by omega)
  have hmk := run_make_row' (P := Try.prog) 22 3 (.int .i64 0) 8 Try.underlying22 Try.info3 rfl .i64 .i64 T (by omega) (by omega)
  have HS : Hid (S = N * M ∧ L = (il + 1) * (ol + 1) ∧ T = S * L) := ⟨hS, hL, hT⟩
  have HTL : Hid (T ≤ 400000) := by show T ≤ 400000; omega
  clear hS hL hT a1 a2 a3
  obtain ⟨A, hA⟩ : ∃ A, A = (((((w.alloc (.cells #[.int .i64 (N : Int), .int .i64 (s0 : Int), .slice fa N fc, .slice aa m ac] 25)).alloc (.cells #[.int .i64 (M : Int), .int .i64 (t0 : Int), .slice ga M gc, .slice ca mc cc] 25)).alloc (.cells #[.slice oa ol oc] 22)).alloc (.cells #[.int .i64 (S : Int)] 3)).alloc (.cells (madeCells #[.int .i64 0] T) 3)).alloc (.cells #[.slice (some ⟨w.heap.size + 1 + 1 + 1 + 1, 0, none⟩) T T] 22) := ⟨_, rfl⟩
  obtain ⟨b0, b1, q1, q2, q3, q4, q5, q6⟩ := six_boxes w A _ _ _ _ _ _ hA
  obtain ⟨Bf, hBf⟩ : ∃ B, B = w.heap.size := ⟨_, rfl⟩
  obtain ⟨Bg, hBg⟩ : ∃ B, B = Bf + 1 := ⟨_, rfl⟩
  obtain ⟨Bo, hBo⟩ : ∃ B, B = Bg + 1 := ⟨_, rfl⟩
  obtain ⟨Bs, hBs⟩ : ∃ B, B = Bo + 1 := ⟨_, rfl⟩
  obtain ⟨C, hBC⟩ : ∃ B, B = Bs + 1 := ⟨_, rfl⟩
  obtain ⟨Bc, hBc⟩ : ∃ B, B = C + 1 := ⟨_, rfl⟩
  rw [show w.heap.size + 1 + 1 + 1 + 1 = C by omega] at q6
  rw [show w.heap.size + 5 = Bc by omega] at q6
  rw [show w.heap.size + 4 = C by omega, replW] at q5
  rw [show w.heap.size + 3 = Bs by omega] at q4
  rw [show w.heap.size + 2 = Bo by omega] at q3
  rw [show w.heap.size + 1 = Bg by omega] at q2
  rw [← hBf] at q1
  have HBOX : Hid (∀ W, KX A C W → W.heap[Bf]? = some (.cells #[.int .i64 (N : Int), .int .i64 (s0 : Int), .slice fa N fc, .slice aa m ac] 25 (0, 0)) ∧ W.heap[Bg]? = some (.cells #[.int .i64 (M : Int), .int .i64 (t0 : Int), .slice ga M gc, .slice ca mc cc] 25 (0, 0)) ∧ W.heap[Bo]? = some (.cells #[.slice oa ol oc] 22 (0, 0)) ∧ W.heap[Bs]? = some (.cells #[.int .i64 ((N * M : Nat) : Int)] 3 (0, 0)) ∧ W.heap[Bc]? = some (.cells #[.slice (some ⟨C, 0, none⟩) T T] 22 (0, 0))) := fun W h =>
    ⟨(h.block Bf (by omega) (by omega)).trans q1, (h.block Bg (by omega) (by omega)).trans q2, (h.block Bo (by omega) (by omega)).trans q3, by rw [← HS.out.1]; exact (h.block Bs (by omega) (by omega)).trans q4, (h.block Bc (by omega) (by omega)).trans q6⟩
  have HBEL : Hid (∀ W, KX A C W → Below w.heap.size w W) := fun W h =>
    ⟨h.os.trans b0.os, h.tape.trans b0.tape, h.output.trans b0.output, Nat.le_trans b0.size h.size, fun k hk => (h.block k (by omega) (by omega)).trans (b0.block k hk)⟩
  have HMEM : Hid (∀ W, KX A C W → (ISlice W (.slice fa N fc) f.final ∧ ISlice W (.slice ga M gc) g.final) ∧ ASlice W (.slice aa m ac) f.arcs ∧ ASlice W (.slice ca mc cc) g.arcs ∧ ISlice W (.slice ia il ic) ins ∧ ISlice W (.slice oa ol oc) outs) := fun W h =>
    ⟨⟨h1.below (HBEL.out W h), h2.below (HBEL.out W h)⟩, h3.below (HBEL.out W h), h4.below (HBEL.out W h), h5.below (HBEL.out W h), h6.below (HBEL.out W h)⟩
  have hCA : C < A.heap.size := by omega
  have hs0 : s0 < N := by have := kf.b2; omega
  have ht0 : t0 < M := by have := kg.b2; omega
  have HCX : Hid (∀ W, KX A C W → CX f g ins outs N M s0 t0 (.slice fa N fc) (.slice ga M gc) aa m ac ca mc cc ia il ic oa ol oc Bf Bg Bo Bs Bc C T W) := fun W h =>
    { kf := kf, kg := kg, hN := hN, hM := hM, hs := hs, ht := ht, hN2 := hN2, hM2 := hM2, hal := hal, hal' := hal', hm := hm, hmc := hmc, hil := hil, hol := hol, hi40 := hi40, ho40 := ho40
      hT := by rw [HS.out.2.2, HS.out.2.1, ← HS.out.1, Nat.mul_comm]
      box := fun W' h' => HBOX.out W' (h.trans h')
      mem := fun W' h' => (HMEM.out W' (h.trans h')).2 }
  have HA : Hid (A = (((((w.alloc (.cells #[.int .i64 (N : Int), .int .i64 (s0 : Int), .slice fa N fc, .slice aa m ac] 25)).alloc (.cells #[.int .i64 (M : Int), .int .i64 (t0 : Int), .slice ga M gc, .slice ca mc cc] 25)).alloc (.cells #[.slice oa ol oc] 22)).alloc (.cells #[.int .i64 (S : Int)] 3)).alloc (.cells (madeCells #[.int .i64 0] T) 3)).alloc (.cells #[.slice (some ⟨w.heap.size + 1 + 1 + 1 + 1, 0, none⟩) T T] 22)) := hA
  have HB : Hid (Bf = w.heap.size ∧ Bg = Bf + 1 ∧ Bo = Bg + 1 ∧ Bs = Bo + 1 ∧ C = Bs + 1 ∧ Bc = C + 1) := ⟨hBf, hBg, hBo, hBs, hBC, hBc⟩
  have HC0 : Hid (CT A C (List.replicate T 0)) := q5
  have HOTH : Hid (Fine f ∧ Fine g ∧ ins.length = il ∧ outs.length = ol) := ⟨kf, kg, hil, hol⟩
  clear hA hBf hBg hBo hBs hBC hBc b0 b1 q1 q2 q3 q4 q5 q6 h1 h2 h3 h4 h5 h6 kf kg hN hM hs ht hal hal' hil hol
  go_enter Try.func35, Try.ntmps35
  go_wp2
  rw [← HA.out, ← HB.out.1, ← HB.out.2.1, ← HB.out.2.2.1, ← HB.out.2.2.2.1, ← HB.out.2.2.2.2.1, ← HB.out.2.2.2.2.2]
  clear HA hmk
  refine loopZ (A := A) (C := C) (T := T) (by kernel_rfl) HTL.out (fun W h => box_cell (k := 0) (HBOX.out W h).2.2.2.2 rfl) KX.refl HC0.out ?_
  unfold Hid
  intros
  rename_i W1 hK1 hC1
  go_wp2
  obtain ⟨Wd, hWd⟩ : ∃ Wd, Wd = W1.drew := ⟨_, rfl⟩
  have hbd : Below W1.heap.size W1 Wd := by rw [hWd]; exact (bel_self W1).drew
  have hKd := hK1.bel hbd
  have hCd : CT Wd C (List.replicate T (-1)) := heap_bel hbd hC1
  have HWD : Hid (Wd = W1.drew) := hWd
  obtain ⟨d1, d2, d3, d4, d5⟩ := HBOX.out Wd hKd
  have hat := at_any s0 t0 0 0 (N * M) M ol _ oc Bo Bs Bg Wd (box_cell (k := 0) d3 rfl) (box_cell (k := 0) d4 rfl) (box_cell (k := 0) d2 rfl) (by omega) (by omega) (by omega) (by have := (HCX.out Wd hKd).NM; omega) (by omega) (by omega) (by omega)
  have hsp : spC M (N * M) ol s0 t0 0 0 < T := (HCX.out Wd hKd).spot (Nat.zero_le _) (Nat.zero_le _) hs0 ht0
  obtain ⟨U, hU⟩ : ∃ U, U = spC M (N * M) ol s0 t0 0 0 := ⟨_, rfl⟩
  have HU : Hid (U = spC M (N * M) ol s0 t0 0 0) := hU
  rw [← hU] at hat hsp
  have hui : (U : Int) < T := by omega
  have r0 := hCd.frz U
  have r1 := hCd.cell (v := U) (by rw [List.length_replicate]; exact hsp)
  have hS0 : (fun wx : World => wx.cell? ⟨Bc, 0, none⟩ = some (.slice (some ⟨C, 0, none⟩) T T) ∧ wx.cell? ⟨Bf, 1, none⟩ = some (.int .i64 (s0 : Int)) ∧ wx.cell? ⟨Bg, 1, none⟩ = some (.int .i64 (t0 : Int))) Wd := ⟨box_cell (k := 0) d5 rfl, box_cell (k := 1) d1 rfl, box_cell (k := 1) d2 rfl⟩
  have HS1 : Hid ((fun wx : World => wx.cell? ⟨Bc, 0, none⟩ = some (.slice (some ⟨C, 0, none⟩) T T) ∧ wx.cell? ⟨Bf, 1, none⟩ = some (.int .i64 (s0 : Int)) ∧ wx.cell? ⟨Bg, 1, none⟩ = some (.int .i64 (t0 : Int))) (Wd.setCell ⟨C, U, none⟩ (.int .i64 0))) := by
    obtain ⟨d1, d2, d3, d4, d5⟩ := HBOX.out _ (hKd.put U (.int .i64 0))
    exact ⟨box_cell (k := 0) d5 rfl, box_cell (k := 1) d1 rfl, box_cell (k := 1) d2 rfl⟩
  clear hWd hU d1 d2 d3 d4 d5
  refine wp_region_noPanic ?_
  refine wp_region_F (fun wx : World => wx.cell? ⟨Bc, 0, none⟩ = some (.slice (some ⟨C, 0, none⟩) T T) ∧ wx.cell? ⟨Bf, 1, none⟩ = some (.int .i64 (s0 : Int)) ∧ wx.cell? ⟨Bg, 1, none⟩ = some (.int .i64 (t0 : Int))) [] (by kernel_rfl) (by rw [← HWD.out]; exact hS0) (fun _ => ?_)
  rw [← HWD.out]
  clear HWD
  refine wpAnyF_take (i := 0) (v := .slice (some ⟨C, 0, none⟩) T T) rfl (by kernel_rfl) (by kernel_rfl) (by kernel_rfl) (by kernel_rfl) (fun _ _ _ h => h) (Or.inl ⟨by rfl, fun wl hSw => ?_⟩) hS0 ?_
  · (try dsimp only at hSw); go_simp
  refine wpAnyF_take (i := 1) (v := .func (.func 80) #[] #[.pointer (some ⟨Bo, 0, none⟩), .pointer (some ⟨Bs, 0, none⟩), .pointer (some ⟨Bg, 0, none⟩)]) rfl (by kernel_rfl) (by kernel_rfl) (by kernel_rfl) (by kernel_rfl) (fun _ _ _ h => h) (Or.inl ⟨by rfl, fun wl hSw => ?_⟩) hS0 ?_
  · (try dsimp only at hSw); go_simp
  refine wpAnyF_take (i := 2) (v := .pointer (some ⟨Bf, 1, none⟩)) rfl (by kernel_rfl) (by kernel_rfl) (by kernel_rfl) (by kernel_rfl) (fun _ _ _ h => h) (Or.inl ⟨by rfl, fun wl hSw => ?_⟩) hS0 ?_
  · (try dsimp only at hSw); go_simp
  refine wpAnyF_take (i := 3) (v := .int .i64 (s0 : Int)) rfl (by kernel_rfl) (by kernel_rfl) (by kernel_rfl) (by kernel_rfl) (fun _ _ _ h => h) (Or.inl ⟨by rfl, fun wl hSw => ?_⟩) hS0 ?_
  · (try dsimp only at hSw); go_simp
  refine wpAnyF_take (i := 4) (v := .pointer (some ⟨Bg, 1, none⟩)) rfl (by kernel_rfl) (by kernel_rfl) (by kernel_rfl) (by kernel_rfl) (fun _ _ _ h => h) (Or.inl ⟨by rfl, fun wl hSw => ?_⟩) hS0 ?_
  · (try dsimp only at hSw); go_simp
  refine wpAnyF_take (i := 5) (v := .int .i64 (t0 : Int)) rfl (by kernel_rfl) (by kernel_rfl) (by kernel_rfl) (by kernel_rfl) (fun _ _ _ h => h) (Or.inl ⟨by rfl, fun wl hSw => ?_⟩) hS0 ?_
  · (try dsimp only at hSw); go_simp
  refine wpAnyF_one (i := 6) rfl (by kernel_rfl) (fun Kc hKc => ?_)
  go_simp
  refine hat.mono ?_
  rintro e w1 ⟨rfl, rfl⟩
  refine hKc.out _ _ ⟨fun _ => hS0, ?_⟩
  clear hKc Kc
  refine wpAnyF_one (i := 7) rfl (by kernel_rfl) (fun Kc hKc => ?_)
  go_simp
  refine hKc.out _ _ ⟨fun _ => hS0, ?_⟩
  clear hKc Kc
  refine wpAnyF_one (i := 8) rfl (by kernel_rfl) (fun Kc hKc => ?_)
  go_simp
  refine hKc.out _ _ ⟨fun _ => HS1.out, ?_⟩
  clear hKc Kc
  refine wpAnyF_done (by kernel_rfl) ?_ _
  refine NoPanic.normal ?_
  clear hat hS0 HS1
  have hKe := hKd.put U (.int .i64 0)
  have hCe : CT (w1.setCell ⟨C, U, none⟩ (.int .i64 0)) C (bgC N M s0 t0 ins outs) := by
    have := hCd.set U 0
    rw [bg_set, HU.out] at this
    have e : bgC N M s0 t0 ins outs = bgS (spC M (N * M) ol s0 t0 0 0) T := by
      unfold bgC
      rw [HOTH.out.2.2.1, HOTH.out.2.2.2, HS.out.2.2, HS.out.2.1, HS.out.1, Nat.mul_comm (N * M)]
    rw [e]
    rw [HU.out]
    exact this
  generalize w1.setCell ⟨C, U, none⟩ (.int .i64 0) = We at *
  clear hCd hKd r0 r1
  have hSX : SX We C We.heap.size (We.alloc (.cells #[.bool true] 4)) (bgC N M s0 t0 ins outs) true := ⟨KX.refl.bel (bel_up (bel_self We) _), heap_bel (bel_up (bel_self We) _) hCe, heap_alloc_new We _, Nat.le_refl _, by have := hKe.size; omega⟩
  have HINV : Hid (InvC (EC f g N M ins outs) (bgC N M s0 t0 ins outs) (bgC N M s0 t0 ins outs)) := InvC.start fun v => by rw [bgS_at]; split <;> simp
  go_wp2
  refine loopC (w0 := We) (C := C) (by kernel_rfl) (HCX.out We hKe) hSX HINV.out ?_
  unfold Hid
  intros
  rename_i W5 c5 hK5 hC5 hI5 hF5
  go_wp2
  refine loopA (by kernel_rfl) (HCX.out We hKe) (fun W h => (HMEM.out W (hKe.trans h)).1) hK5 hC5 hI5 hF5 ?_
  unfold Hid
  intros
  rename_i W6 b6 hK6 hC6 hM6
  go_wp2
  go_ret
  exact ⟨b6, rfl, hM6, HBEL.out _ (hKe.trans hK6)⟩
end Go.Proofs.Yteehgcbjmdideaa
