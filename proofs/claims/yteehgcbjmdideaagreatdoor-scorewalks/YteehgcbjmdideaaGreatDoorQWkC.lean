/- One round of the loop of 'ScoreWalks' along a walk: cases. -/
import Derived.Test.YteehgcbjmdideaaGreatDoorQMG
namespace Go.Proofs.YteehgcbjmdideaaGreatDoor.Sc
open Go.RowKit
attribute [local go_sem ↓] Go.wp_at_zero Go.wp_at_succ

set_option maxHeartbeats 4000000 in
set_option maxRecDepth 100000 in
theorem walk_10 {f : FstD} {ins outs l c y : List Int} {N : Nat} {st sta : Int} {fin : Value} {aa : Option Addr} {m ac : Nat} {ia : Option Addr} {il ic : Nat} {oa : Option Addr} {ol oc : Nat} {la : Option Addr} {ln lc : Nat} {X n i o k nf : Nat} {cost : Int} {w wr : World} {u0 u4 u5 u6 u8 u9 u10 u11 u12 u13 u19 u20 u21 u22 u23 u24 u25 u26 u27 u28 u29 u30 u31 u32 u33 u34 u35 u36 u37 u38 u39 u40 u41 u42 u43 u44 u45 u46 u47 u48 u49 u50 u51 u52 u53 u54 u55 u56 u57 u58 u59 u60 u61 u62 u63 u64 u65 u66 u67 u68 u69 u70 u71 u72 u73 u74 u75 u76 u77 u78 u79 u80 u81 u82 u83 u84 u85 u86 u87 u88 u89 u90 u91 u92 u93 u94 u95 u96 u97 u98 u99 u100 u101 u102 u103 u104 u105 u106 u107 u108 u109 u110 u111 u112 u113 u114 u115 u116 u117 u118 u119 u120 u121 u122 u123 u124 u125 u126 u127 u128 u129 u130 u131 u132 u133 u134 u135 u136 u137 u138 u139 u140 u141 u142 u143 u144 u145 u146 u147 u148 u149 u150 u151 u152 u153 u154 u155 u156 u157 u158 u159 u160 u161 u162 u163 u164 u165 u166 u167 u168 u169 u170 u171 u172 u173 u174 u175 u176 u177 u178 u179 u180 u181 u182 u183 u184 u185 u186 u187 u188 u189 u190 u191 u192 u193 u194 u195 u196 u197 u198 u199 u200 u201 u202 u203 u204 u205 u206 u207 u208 u209 u210 u211 u212 u213 u214 u215 u216 u217 u218 u219 u220 u221 : Value}
    {cd : Code} {K0 : Act → World → Prop} {Q2 : Exit → Act → World → Prop} (hcd : cd = (loopsOf (Tryz.f3.body.getD .skip)).getD 0 .skip) (hR : WkR f ins outs l c y N st sta fin aa m ac ia il ic oa ol oc la ln lc X n i o k nf cost w wr)
    (HK : Hid (∀ {t14 t15 t16 t17 t18 x19 x90 x91 x92 x93 x94 x95 x96 x97 x98 x99 x100 x101 x102 x103 x104 x105 x106 x107 x108 x109 x110 x111 x112 x113 x114 x115 x116 x117 x118 x119 x120 x121 x122 x123 x124 x125 x126 x127 x128 x129 x130 x131 x132 x133 x134 x135 x136 x137 x138 x139 x140 x141 x142 x143 x144 x145 x146 x147 x148 x149 x150 x151 x152 x153 x154 x155 x156 x157 x158 x159 x160 x161 x162 x163 x164 x165 x166 x167 x168 x169 x170 x171 x172 x173 x174 x175 x176 x177 x178 : Value} {wx : World} {n' i' o' : Nat} {cost' : Int}, t14 = .int .i64 (n' : Int) → t15 = .int .i64 (i' : Int) → t16 = .int .i64 (o' : Int) → t17 = .int .i64 cost' → t18 = .int .i64 ((k + 1 : Nat) : Int) → WkI f ins outs l c y N n' i' o' (k + 1) nf cost' w wx → K0 { tmps := #[u0, .slice ia il ic, .slice oa ol oc, .pointer (some ⟨X, 0, none⟩), u4, u5, u6, .slice la ln lc, u8, u9, u10, u11, u12, u13, t14, t15, t16, t17, t18, x19, u20, u21, u22, u23, u24, u25, u26, u27, u28, u29, u30, u31, u32, u33, u34, u35, u36, u37, u38, u39, u40, u41, u42, u43, u44, u45, u46, u47, u48, u49, u50, u51, u52, u53, u54, u55, u56, u57, u58, u59, u60, u61, u62, u63, u64, u65, u66, u67, u68, u69, u70, u71, u72, u73, u74, u75, u76, u77, u78, u79, u80, u81, u82, u83, u84, u85, u86, u87, u88, u89, x90, x91, x92, x93, x94, x95, x96, x97, x98, x99, x100, x101, x102, x103, x104, x105, x106, x107, x108, x109, x110, x111, x112, x113, x114, x115, x116, x117, x118, x119, x120, x121, x122, x123, x124, x125, x126, x127, x128, x129, x130, x131, x132, x133, x134, x135, x136, x137, x138, x139, x140, x141, x142, x143, x144, x145, x146, x147, x148, x149, x150, x151, x152, x153, x154, x155, x156, x157, x158, x159, x160, x161, x162, x163, x164, x165, x166, x167, x168, x169, x170, x171, x172, x173, x174, x175, x176, x177, x178, u179, u180, u181, u182, u183, u184, u185, u186, u187, u188, u189, u190, u191, u192, u193, u194, u195, u196, u197, u198, u199, u200, u201, u202, u203, u204, u205, u206, u207, u208, u209, u210, u211, u212, u213, u214, u215, u216, u217, u218, u219, u220, u221], defers := [] } wx)) (hcase : (f.arcs.getD (l.getD k 0).toNat a0).inp ≠ 0 ∧ (f.arcs.getD (l.getD k 0).toNat a0).out = 0) : cd.wp Tryz.prog (Exit.then K0 Q2) { tmps := #[u0, .slice ia il ic, .slice oa ol oc, .pointer (some ⟨X, 0, none⟩), u4, u5, u6, .slice la ln lc, u8, u9, u10, u11, u12, u13, .int .i64 n, .int .i64 i, .int .i64 o, .int .i64 cost, .int .i64 k, u19, u20, u21, u22, u23, u24, u25, u26, u27, u28, u29, u30, u31, u32, u33, u34, u35, u36, u37, u38, u39, u40, u41, u42, u43, u44, u45, u46, u47, u48, u49, u50, u51, u52, u53, u54, u55, u56, u57, u58, u59, u60, u61, u62, u63, u64, u65, u66, u67, u68, u69, u70, u71, u72, u73, u74, u75, u76, u77, u78, u79, u80, u81, u82, u83, u84, u85, u86, u87, u88, u89, u90, u91, u92, u93, u94, u95, u96, u97, u98, u99, u100, u101, u102, u103, u104, u105, u106, u107, u108, u109, u110, u111, u112, u113, u114, u115, u116, u117, u118, u119, u120, u121, u122, u123, u124, u125, u126, u127, u128, u129, u130, u131, u132, u133, u134, u135, u136, u137, u138, u139, u140, u141, u142, u143, u144, u145, u146, u147, u148, u149, u150, u151, u152, u153, u154, u155, u156, u157, u158, u159, u160, u161, u162, u163, u164, u165, u166, u167, u168, u169, u170, u171, u172, u173, u174, u175, u176, u177, u178, u179, u180, u181, u182, u183, u184, u185, u186, u187, u188, u189, u190, u191, u192, u193, u194, u195, u196, u197, u198, u199, u200, u201, u202, u203, u204, u205, u206, u207, u208, u209, u210, u211, u212, u213, u214, u215, u216, u217, u218, u219, u220, u221], defers := [] } wr := by
  obtain ⟨harc, hal, hil, hol, hll, hN, hi40, ho40, hm3, hln, hk, hme, hgo, hcost, hn, hi, ho, hbel⟩ := hR
  have HAL : Hid (f.arcs.length = m) := hal
  have HIL : Hid (ins.length = il) := hil
  have HOL : Hid (outs.length = ol) := hol
  have HME : Hid (∀ W, Below w.heap.size w W → CellsF W X st sta fin (.slice aa m ac) ∧ ASlice W (.slice aa m ac) f.arcs ∧ ISlice W (.slice ia il ic) ins ∧ ISlice W (.slice oa ol oc) outs ∧ ISlice W (.slice la ln lc) l) := hme
  simp only [Tryz.f3, loopsOf, List.append_eq, List.nil_append, List.cons_append, List.append_nil, List.getD_cons_zero, Option.getD_some] at hcd
  subst hcd
  have hdr : l.drop k = l.getD k 0 :: l.drop (k + 1) := by
    rw [List.drop_eq_getElem_cons (by omega)]
    simp [List.getD, show k < l.length by omega]
  rw [hdr] at hgo
  obtain ⟨n1, i1, o1, ⟨j, a, e1, _, e3, e4, e5, f1, f2, e6, e7, _, _, _, _, _⟩, hgo'⟩ := hgo
  have hmem := List.mem_of_getElem? e3
  obtain ⟨⟨p1, p2⟩, ⟨p3, p4⟩, ⟨p5, p6⟩, ⟨l1, l2⟩, l3, l4⟩ := harc a hmem
  have hjm : j < m := by have := (List.getElem?_eq_some_iff.1 e3).1; omega
  have hn1 : n1 < N := by omega
  have hi1 : i1 ≤ ins.length := by rw [e6]; exact usedBy_le f1 hi
  have ho1 : o1 ≤ outs.length := by rw [e7]; exact usedBy_le f2 ho
  have hsb := sumA_bound (fun a ha => (harc a ha).2.2.1) (l.take k)
  rw [← hcost, List.length_take, Nat.min_eq_left (by omega)] at hsb
  have hag : f.arcs.getD j a0 = a := by simp [List.getD, e3]
  rw [e1, Int.toNat_natCast, hag] at hcase
  have hcost' : cost + a.wt = sumA f (l.take (k + 1)) := by
    rw [List.take_add_one, sumA_append, ← hcost]
    have : l[k]? = some (l.getD k 0) := by simp [List.getD, show k < l.length by omega]
    rw [this]
    simp only [Option.toList, sumA]
    rw [e1, Int.toNat_natCast, hag]
    omega
  have HEND : Hid (∀ wx, Below w.heap.size w wx → WkI f ins outs l c y N n1 i1 o1 (k + 1) nf (cost + a.wt) w wx) := fun wx hb => ⟨hgo', hcost', hn1, hi1, ho1, hb⟩
  obtain ⟨q0, q1, q2, q3⟩ := (hme _ hbel).1
  obtain ⟨lb, lo, rfl, hL⟩ := (hme _ hbel).2.2.2.2.some (by omega)
  have d0 := hL.cell k hk
  rw [e1] at d0
  obtain ⟨ab, aoff, rfl, hx⟩ := (hme _ hbel).2.1.some (by omega)
  have c0 := hx.c0 j hjm
  have c1 := hx.c1 j hjm
  have c2 := hx.c2 j hjm
  have c3 := hx.c3 j hjm
  have c4 := hx.c4 j hjm
  rw [hag] at c0 c1 c2 c3 c4
  rw [e4] at c0
  rw [e5] at c3
  obtain ⟨p, hp⟩ : ∃ p, a.inp = p := ⟨_, rfl⟩
  obtain ⟨q, hq⟩ : ∃ q, a.out = q := ⟨_, rfl⟩
  obtain ⟨wt, hwt⟩ : ∃ wt, a.wt = wt := ⟨_, rfl⟩
  rw [hp, hq] at hcase
  rw [hp] at c1 l1 l2 e6 f1
  rw [hq] at c2 l3 l4 e7 f2
  rw [hwt] at c4 p5 p6 HEND
  have hcw : IntKind.i64.wrap (cost + wt) = cost + wt := wrap_in _ (by omega) (by omega)
  have hji : (j : Int) < m := by omega
  have hjm1 : ¬ ((m : Int) ≤ j) := by omega
  have hj0 : ¬ ((j : Int) < 0) := by omega
  have hki : (k : Int) < ln := by omega
  have hw0 : IntKind.i64.wrap 0 = 0 := wrap_in _ (by omega) (by omega)
  have hiw : IntKind.i64.wrap ((i : Int) + 1) = (i : Int) + 1 := wrap_in _ (by omega) (by omega)
  have how : IntKind.i64.wrap ((o : Int) + 1) = (o : Int) + 1 := wrap_in _ (by omega) (by omega)
  have HB : Hid (Below w.heap.size w wr) := hbel
  clear hcost hcost' hgo' hn1 hi1 ho1 hag e1 e3 hmem p1 p2 p3 p4 hp hq hwt harc hme hx hL hdr hsb hbel hal hil hol hll
  obtain ⟨hp0, hq0⟩ := hcase
  have hpp : 0 < p := by omega
  have hpb : (p == 0) = false := by simpa using hp0
  have hfit1 : i < ins.length ∧ ins.getD i 0 = p := by
    unfold fitB at f1
    rw [hpb, Bool.false_or, Bool.and_eq_true, decide_eq_true_iff, beq_iff_eq] at f1
    exact f1
  have hi1e : i1 = i + 1 := by rw [e6]; unfold usedBy; rw [if_neg hp0]
  have hil2 : i < il := by have := HIL.out; omega
  have hii : (i : Int) < il := by omega
  have hii2 : ¬ ((il : Int) ≤ i) := by omega
  have hii3 : ¬ (il ≤ i) := by omega
  have hii4 : decide (il ≤ i) = false := decide_eq_false hii3
  have hii5 : decide ((il : Int) ≤ (i : Int)) = false := decide_eq_false hii2
  obtain ⟨ib, io, rfl, hI⟩ := (HME.out _ HB.out).2.2.1.some (by omega)
  have d1 := hI.cell i hil2
  rw [hfit1.2] at d1
  clear hI hfit1
  subst hq0
  have ho1e : o1 = o := by rw [e7]; unfold usedBy; rw [if_pos rfl]
  have HI1 : Hid (i1 = i + 1) := hi1e
  have HO1 : Hid (o1 = o) := ho1e
  clear hi1e ho1e e6 e7 f1 f2
  go_wp2
  refine wp_region_quiet_lit (by kernel_rfl) (by kernel_rfl) ?_
  repeat (first | ((with_unfolding_none refine quiet_yes ?hy (fun K hK => ?_)); (case hy => exact rfl); go_simp; (with_unfolding_none refine hK _ ?_); clear hK K) | ((with_unfolding_none refine quiet_no ?hy (fun K hK => ?_)); (case hy => exact rfl); go_simp; (with_unfolding_none refine hK _ ?_); clear hK K))
  refine wpQuiet_nil ?_
  intro _ hw'
  obtain ⟨nq, hw''⟩ := hw'
  subst hw''
  go_wp2
  obtain ⟨W1, hW1⟩ : ∃ W1, W1 = (wr.drewN nq).drew := ⟨_, rfl⟩
  have hB1 : Below wr.heap.size wr W1 := by rw [hW1]; exact (bel_drewN (bel_self wr) nq).drew
  have hS0 : (fun wx : World => wx.cell? ⟨X, 3, none⟩ = some (.slice (some ⟨ab, aoff, none⟩) m ac) ∧ wx.cell? ⟨lb, lo + k, none⟩ = some (.int .i64 j) ∧ wx.cell? ⟨ab, aoff + j * 5, none⟩ = some (.int .i64 n) ∧ wx.cell? ⟨ab, aoff + j * 5 + 1, none⟩ = some (.int .i64 p) ∧ wx.cell? ⟨ab, aoff + j * 5 + 2, none⟩ = some (.int .i64 0) ∧ wx.cell? ⟨ab, aoff + j * 5 + 3, none⟩ = some (.int .i64 n1) ∧ wx.cell? ⟨ab, aoff + j * 5 + 4, none⟩ = some (.int .i64 wt)) W1 := ⟨bel_c hB1 q3, bel_c hB1 d0, bel_c hB1 c0, bel_c hB1 c1, bel_c hB1 c2, bel_c hB1 c3, bel_c hB1 c4⟩
  have z1 := bel_c hB1 d1
  clear q0 q1 q2 q3 d0 c0 c1 c2 c3 c4 d1
  refine wp_region_noPanic ?_
  refine wp_region_U (fun wx : World => wx.cell? ⟨X, 3, none⟩ = some (.slice (some ⟨ab, aoff, none⟩) m ac) ∧ wx.cell? ⟨lb, lo + k, none⟩ = some (.int .i64 j) ∧ wx.cell? ⟨ab, aoff + j * 5, none⟩ = some (.int .i64 n) ∧ wx.cell? ⟨ab, aoff + j * 5 + 1, none⟩ = some (.int .i64 p) ∧ wx.cell? ⟨ab, aoff + j * 5 + 2, none⟩ = some (.int .i64 0) ∧ wx.cell? ⟨ab, aoff + j * 5 + 3, none⟩ = some (.int .i64 n1) ∧ wx.cell? ⟨ab, aoff + j * 5 + 4, none⟩ = some (.int .i64 wt)) 9 (by kernel_rfl) (by rw [← hW1]; exact hS0) (fun _ => ?_)
  rw [← hW1]
  clear hW1
  refine wpAnyU_take (i := 0) (v := .pointer (some ⟨X, 3, none⟩)) rfl (by kernel_rfl) (by kernel_rfl) (by kernel_rfl) (by kernel_rfl) (fun _ _ _ h => h) (Or.inl ⟨by rfl, fun wl hSw => ?_⟩) hS0 ?_
  · (try dsimp only at hSw); go_simp
  refine wpAnyU_take (i := 1) (v := .slice (some ⟨ab, aoff, none⟩) m ac) rfl (by kernel_rfl) (by kernel_rfl) (by kernel_rfl) (by kernel_rfl) (fun _ _ _ h => h) (Or.inl ⟨by rfl, fun wl hSw => ?_⟩) hS0 ?_
  · (try dsimp only at hSw); go_simp
  refine wpAnyU_take (i := 2) (v := .slice (some ⟨lb, lo, none⟩) ln lc) rfl (by kernel_rfl) (by kernel_rfl) (by kernel_rfl) (by kernel_rfl) (fun _ _ _ h => h) (Or.inl ⟨by rfl, fun wl hSw => ?_⟩) hS0 ?_
  · (try dsimp only at hSw); go_simp
  refine wpAnyU_take (i := 3) (v := .int .i64 k) rfl (by kernel_rfl) (by kernel_rfl) (by kernel_rfl) (by kernel_rfl) (fun _ _ _ h => h) (Or.inl ⟨by rfl, fun wl hSw => ?_⟩) hS0 ?_
  · (try dsimp only at hSw); go_simp
  refine wpAnyU_take (i := 4) (v := .pointer (some ⟨lb, lo + k, none⟩)) rfl (by kernel_rfl) (by kernel_rfl) (by kernel_rfl) (by kernel_rfl) (fun _ _ _ h => h) (Or.inl ⟨by rfl, fun wl hSw => ?_⟩) hS0 ?_
  · (try dsimp only at hSw); go_simp
  refine wpAnyU_take (i := 5) (v := .int .i64 j) rfl (by kernel_rfl) (by kernel_rfl) (by kernel_rfl) (by kernel_rfl) (fun _ _ _ h => h) (Or.inl ⟨by rfl, fun wl hSw => ?_⟩) hS0 ?_
  · (try dsimp only at hSw); go_simp
  refine wpAnyU_take (i := 6) (v := .pointer (some ⟨ab, aoff + j * 5, none⟩)) rfl (by kernel_rfl) (by kernel_rfl) (by kernel_rfl) (by kernel_rfl) (fun _ _ _ h => h) (Or.inl ⟨by rfl, fun wl hSw => ?_⟩) hS0 ?_
  · (try dsimp only at hSw); go_simp
  refine wpAnyU_take (i := 7) (v := .agg #[.int .i64 n, .int .i64 p, .int .i64 0, .int .i64 n1, .int .i64 wt]) rfl (by kernel_rfl) (by kernel_rfl) (by kernel_rfl) (by kernel_rfl) (fun _ _ _ h => h) (Or.inl ⟨by rfl, fun wl hSw => ?_⟩) hS0 ?_
  · (try dsimp only at hSw); go_simp
  refine wpAnyU_one (i := 8) rfl (by kernel_rfl) (fun K hK => ?_)
  go_simp
  refine hK.out _ _ ⟨fun _ => ⟨old_cell hS0.1, old_cell hS0.2.1, old_cell hS0.2.2.1, old_cell hS0.2.2.2.1, old_cell hS0.2.2.2.2.1, old_cell hS0.2.2.2.2.2.1, old_cell hS0.2.2.2.2.2.2⟩, ?_⟩
  clear hK K
  refine wpAnyU_one (i := 9) rfl (by kernel_rfl) (fun K hK => ?_)
  go_simp
  refine hK.out _ _ ⟨fun h => absurd rfl h, ?_⟩
  clear hK K
  refine wpAnyU_done (by kernel_rfl) ?_ _
  refine NoPanic.normal ?_
  have hB2 := bel_up (bel_self W1) (.cells #[.int .i64 n, .int .i64 p, .int .i64 0, .int .i64 n1, .int .i64 wt] 35)
  have y0 := new_cell W1 #[.int .i64 n, .int .i64 p, .int .i64 0, .int .i64 n1, .int .i64 wt] 35 W1.heap.size 0 (.int .i64 n) rfl rfl
  have y1 := new_cell W1 #[.int .i64 n, .int .i64 p, .int .i64 0, .int .i64 n1, .int .i64 wt] 35 W1.heap.size 1 (.int .i64 p) rfl rfl
  have y2 := new_cell W1 #[.int .i64 n, .int .i64 p, .int .i64 0, .int .i64 n1, .int .i64 wt] 35 W1.heap.size 2 (.int .i64 0) rfl rfl
  have y3 := new_cell W1 #[.int .i64 n, .int .i64 p, .int .i64 0, .int .i64 n1, .int .i64 wt] 35 W1.heap.size 3 (.int .i64 n1) rfl rfl
  have y4 := new_cell W1 #[.int .i64 n, .int .i64 p, .int .i64 0, .int .i64 n1, .int .i64 wt] 35 W1.heap.size 4 (.int .i64 wt) rfl rfl
  have z1b := bel_c hB2 z1
  have HB2 : Hid (∀ n2 n3, Below w.heap.size w (((W1.alloc (.cells #[.int .i64 n, .int .i64 p, .int .i64 0, .int .i64 n1, .int .i64 wt] 35)).drewN n2).drewN n3)) := fun n2 n3 => bel_drewN (bel_drewN (bel_on (bel_on HB.out hB1) hB2) n2) n3
  clear hB1 hB2 hS0 z1
  generalize W1.alloc (.cells #[.int .i64 n, .int .i64 p, .int .i64 0, .int .i64 n1, .int .i64 wt] 35) = W2 at *
  obtain ⟨B, hB⟩ : ∃ B, B = W1.heap.size := ⟨_, rfl⟩
  rw [← hB] at y0 y1 y2 y3 y4 ⊢
  clear hB
  go_wp2
  refine wp_region_quiet_lit (by kernel_rfl) (by kernel_rfl) ?_
  repeat (first | ((with_unfolding_none refine quiet_yes ?hy (fun K hK => ?_)); (case hy => exact rfl); go_simp; (with_unfolding_none refine hK _ ?_); clear hK K) | ((with_unfolding_none refine quiet_no ?hy (fun K hK => ?_)); (case hy => exact rfl); go_simp; (with_unfolding_none refine hK _ ?_); clear hK K))
  refine wpQuiet_nil ?_
  intro _ hw'
  obtain ⟨nq, hw''⟩ := hw'
  subst hw''
  go_wp2
  refine wp_region_quiet_lit (by kernel_rfl) (by kernel_rfl) ?_
  repeat (first | ((with_unfolding_none refine quiet_yes ?hy (fun K hK => ?_)); (case hy => exact rfl); go_simp; (with_unfolding_none refine hK _ ?_); clear hK K) | ((with_unfolding_none refine quiet_no ?hy (fun K hK => ?_)); (case hy => exact rfl); go_simp; (with_unfolding_none refine hK _ ?_); clear hK K))
  refine wpQuiet_nil ?_
  intro _ hw'
  obtain ⟨nq, hw''⟩ := hw'
  subst hw''
  go_wp2
  exact HK.out rfl (by rw [HI1.out]; go_num) (by rw [HO1.out]) rfl (by go_num) (HEND.out _ (by first | exact HB2.out _ _ | exact (by have h := HB2.out; simp only [World.drewN_drewN] at h ⊢; exact h _ _)))

set_option maxHeartbeats 4000000 in
set_option maxRecDepth 100000 in
theorem walk_11 {f : FstD} {ins outs l c y : List Int} {N : Nat} {st sta : Int} {fin : Value} {aa : Option Addr} {m ac : Nat} {ia : Option Addr} {il ic : Nat} {oa : Option Addr} {ol oc : Nat} {la : Option Addr} {ln lc : Nat} {X n i o k nf : Nat} {cost : Int} {w wr : World} {u0 u4 u5 u6 u8 u9 u10 u11 u12 u13 u19 u20 u21 u22 u23 u24 u25 u26 u27 u28 u29 u30 u31 u32 u33 u34 u35 u36 u37 u38 u39 u40 u41 u42 u43 u44 u45 u46 u47 u48 u49 u50 u51 u52 u53 u54 u55 u56 u57 u58 u59 u60 u61 u62 u63 u64 u65 u66 u67 u68 u69 u70 u71 u72 u73 u74 u75 u76 u77 u78 u79 u80 u81 u82 u83 u84 u85 u86 u87 u88 u89 u90 u91 u92 u93 u94 u95 u96 u97 u98 u99 u100 u101 u102 u103 u104 u105 u106 u107 u108 u109 u110 u111 u112 u113 u114 u115 u116 u117 u118 u119 u120 u121 u122 u123 u124 u125 u126 u127 u128 u129 u130 u131 u132 u133 u134 u135 u136 u137 u138 u139 u140 u141 u142 u143 u144 u145 u146 u147 u148 u149 u150 u151 u152 u153 u154 u155 u156 u157 u158 u159 u160 u161 u162 u163 u164 u165 u166 u167 u168 u169 u170 u171 u172 u173 u174 u175 u176 u177 u178 u179 u180 u181 u182 u183 u184 u185 u186 u187 u188 u189 u190 u191 u192 u193 u194 u195 u196 u197 u198 u199 u200 u201 u202 u203 u204 u205 u206 u207 u208 u209 u210 u211 u212 u213 u214 u215 u216 u217 u218 u219 u220 u221 : Value}
    {cd : Code} {K0 : Act → World → Prop} {Q2 : Exit → Act → World → Prop} (hcd : cd = (loopsOf (Tryz.f3.body.getD .skip)).getD 0 .skip) (hR : WkR f ins outs l c y N st sta fin aa m ac ia il ic oa ol oc la ln lc X n i o k nf cost w wr)
    (HK : Hid (∀ {t14 t15 t16 t17 t18 x19 x90 x91 x92 x93 x94 x95 x96 x97 x98 x99 x100 x101 x102 x103 x104 x105 x106 x107 x108 x109 x110 x111 x112 x113 x114 x115 x116 x117 x118 x119 x120 x121 x122 x123 x124 x125 x126 x127 x128 x129 x130 x131 x132 x133 x134 x135 x136 x137 x138 x139 x140 x141 x142 x143 x144 x145 x146 x147 x148 x149 x150 x151 x152 x153 x154 x155 x156 x157 x158 x159 x160 x161 x162 x163 x164 x165 x166 x167 x168 x169 x170 x171 x172 x173 x174 x175 x176 x177 x178 : Value} {wx : World} {n' i' o' : Nat} {cost' : Int}, t14 = .int .i64 (n' : Int) → t15 = .int .i64 (i' : Int) → t16 = .int .i64 (o' : Int) → t17 = .int .i64 cost' → t18 = .int .i64 ((k + 1 : Nat) : Int) → WkI f ins outs l c y N n' i' o' (k + 1) nf cost' w wx → K0 { tmps := #[u0, .slice ia il ic, .slice oa ol oc, .pointer (some ⟨X, 0, none⟩), u4, u5, u6, .slice la ln lc, u8, u9, u10, u11, u12, u13, t14, t15, t16, t17, t18, x19, u20, u21, u22, u23, u24, u25, u26, u27, u28, u29, u30, u31, u32, u33, u34, u35, u36, u37, u38, u39, u40, u41, u42, u43, u44, u45, u46, u47, u48, u49, u50, u51, u52, u53, u54, u55, u56, u57, u58, u59, u60, u61, u62, u63, u64, u65, u66, u67, u68, u69, u70, u71, u72, u73, u74, u75, u76, u77, u78, u79, u80, u81, u82, u83, u84, u85, u86, u87, u88, u89, x90, x91, x92, x93, x94, x95, x96, x97, x98, x99, x100, x101, x102, x103, x104, x105, x106, x107, x108, x109, x110, x111, x112, x113, x114, x115, x116, x117, x118, x119, x120, x121, x122, x123, x124, x125, x126, x127, x128, x129, x130, x131, x132, x133, x134, x135, x136, x137, x138, x139, x140, x141, x142, x143, x144, x145, x146, x147, x148, x149, x150, x151, x152, x153, x154, x155, x156, x157, x158, x159, x160, x161, x162, x163, x164, x165, x166, x167, x168, x169, x170, x171, x172, x173, x174, x175, x176, x177, x178, u179, u180, u181, u182, u183, u184, u185, u186, u187, u188, u189, u190, u191, u192, u193, u194, u195, u196, u197, u198, u199, u200, u201, u202, u203, u204, u205, u206, u207, u208, u209, u210, u211, u212, u213, u214, u215, u216, u217, u218, u219, u220, u221], defers := [] } wx)) (hcase : (f.arcs.getD (l.getD k 0).toNat a0).inp ≠ 0 ∧ (f.arcs.getD (l.getD k 0).toNat a0).out ≠ 0) : cd.wp Tryz.prog (Exit.then K0 Q2) { tmps := #[u0, .slice ia il ic, .slice oa ol oc, .pointer (some ⟨X, 0, none⟩), u4, u5, u6, .slice la ln lc, u8, u9, u10, u11, u12, u13, .int .i64 n, .int .i64 i, .int .i64 o, .int .i64 cost, .int .i64 k, u19, u20, u21, u22, u23, u24, u25, u26, u27, u28, u29, u30, u31, u32, u33, u34, u35, u36, u37, u38, u39, u40, u41, u42, u43, u44, u45, u46, u47, u48, u49, u50, u51, u52, u53, u54, u55, u56, u57, u58, u59, u60, u61, u62, u63, u64, u65, u66, u67, u68, u69, u70, u71, u72, u73, u74, u75, u76, u77, u78, u79, u80, u81, u82, u83, u84, u85, u86, u87, u88, u89, u90, u91, u92, u93, u94, u95, u96, u97, u98, u99, u100, u101, u102, u103, u104, u105, u106, u107, u108, u109, u110, u111, u112, u113, u114, u115, u116, u117, u118, u119, u120, u121, u122, u123, u124, u125, u126, u127, u128, u129, u130, u131, u132, u133, u134, u135, u136, u137, u138, u139, u140, u141, u142, u143, u144, u145, u146, u147, u148, u149, u150, u151, u152, u153, u154, u155, u156, u157, u158, u159, u160, u161, u162, u163, u164, u165, u166, u167, u168, u169, u170, u171, u172, u173, u174, u175, u176, u177, u178, u179, u180, u181, u182, u183, u184, u185, u186, u187, u188, u189, u190, u191, u192, u193, u194, u195, u196, u197, u198, u199, u200, u201, u202, u203, u204, u205, u206, u207, u208, u209, u210, u211, u212, u213, u214, u215, u216, u217, u218, u219, u220, u221], defers := [] } wr := by
  obtain ⟨harc, hal, hil, hol, hll, hN, hi40, ho40, hm3, hln, hk, hme, hgo, hcost, hn, hi, ho, hbel⟩ := hR
  have HAL : Hid (f.arcs.length = m) := hal
  have HIL : Hid (ins.length = il) := hil
  have HOL : Hid (outs.length = ol) := hol
  have HME : Hid (∀ W, Below w.heap.size w W → CellsF W X st sta fin (.slice aa m ac) ∧ ASlice W (.slice aa m ac) f.arcs ∧ ISlice W (.slice ia il ic) ins ∧ ISlice W (.slice oa ol oc) outs ∧ ISlice W (.slice la ln lc) l) := hme
  simp only [Tryz.f3, loopsOf, List.append_eq, List.nil_append, List.cons_append, List.append_nil, List.getD_cons_zero, Option.getD_some] at hcd
  subst hcd
  have hdr : l.drop k = l.getD k 0 :: l.drop (k + 1) := by
    rw [List.drop_eq_getElem_cons (by omega)]
    simp [List.getD, show k < l.length by omega]
  rw [hdr] at hgo
  obtain ⟨n1, i1, o1, ⟨j, a, e1, _, e3, e4, e5, f1, f2, e6, e7, _, _, _, _, _⟩, hgo'⟩ := hgo
  have hmem := List.mem_of_getElem? e3
  obtain ⟨⟨p1, p2⟩, ⟨p3, p4⟩, ⟨p5, p6⟩, ⟨l1, l2⟩, l3, l4⟩ := harc a hmem
  have hjm : j < m := by have := (List.getElem?_eq_some_iff.1 e3).1; omega
  have hn1 : n1 < N := by omega
  have hi1 : i1 ≤ ins.length := by rw [e6]; exact usedBy_le f1 hi
  have ho1 : o1 ≤ outs.length := by rw [e7]; exact usedBy_le f2 ho
  have hsb := sumA_bound (fun a ha => (harc a ha).2.2.1) (l.take k)
  rw [← hcost, List.length_take, Nat.min_eq_left (by omega)] at hsb
  have hag : f.arcs.getD j a0 = a := by simp [List.getD, e3]
  rw [e1, Int.toNat_natCast, hag] at hcase
  have hcost' : cost + a.wt = sumA f (l.take (k + 1)) := by
    rw [List.take_add_one, sumA_append, ← hcost]
    have : l[k]? = some (l.getD k 0) := by simp [List.getD, show k < l.length by omega]
    rw [this]
    simp only [Option.toList, sumA]
    rw [e1, Int.toNat_natCast, hag]
    omega
  have HEND : Hid (∀ wx, Below w.heap.size w wx → WkI f ins outs l c y N n1 i1 o1 (k + 1) nf (cost + a.wt) w wx) := fun wx hb => ⟨hgo', hcost', hn1, hi1, ho1, hb⟩
  obtain ⟨q0, q1, q2, q3⟩ := (hme _ hbel).1
  obtain ⟨lb, lo, rfl, hL⟩ := (hme _ hbel).2.2.2.2.some (by omega)
  have d0 := hL.cell k hk
  rw [e1] at d0
  obtain ⟨ab, aoff, rfl, hx⟩ := (hme _ hbel).2.1.some (by omega)
  have c0 := hx.c0 j hjm
  have c1 := hx.c1 j hjm
  have c2 := hx.c2 j hjm
  have c3 := hx.c3 j hjm
  have c4 := hx.c4 j hjm
  rw [hag] at c0 c1 c2 c3 c4
  rw [e4] at c0
  rw [e5] at c3
  obtain ⟨p, hp⟩ : ∃ p, a.inp = p := ⟨_, rfl⟩
  obtain ⟨q, hq⟩ : ∃ q, a.out = q := ⟨_, rfl⟩
  obtain ⟨wt, hwt⟩ : ∃ wt, a.wt = wt := ⟨_, rfl⟩
  rw [hp, hq] at hcase
  rw [hp] at c1 l1 l2 e6 f1
  rw [hq] at c2 l3 l4 e7 f2
  rw [hwt] at c4 p5 p6 HEND
  have hcw : IntKind.i64.wrap (cost + wt) = cost + wt := wrap_in _ (by omega) (by omega)
  have hji : (j : Int) < m := by omega
  have hjm1 : ¬ ((m : Int) ≤ j) := by omega
  have hj0 : ¬ ((j : Int) < 0) := by omega
  have hki : (k : Int) < ln := by omega
  have hw0 : IntKind.i64.wrap 0 = 0 := wrap_in _ (by omega) (by omega)
  have hiw : IntKind.i64.wrap ((i : Int) + 1) = (i : Int) + 1 := wrap_in _ (by omega) (by omega)
  have how : IntKind.i64.wrap ((o : Int) + 1) = (o : Int) + 1 := wrap_in _ (by omega) (by omega)
  have HB : Hid (Below w.heap.size w wr) := hbel
  clear hcost hcost' hgo' hn1 hi1 ho1 hag e1 e3 hmem p1 p2 p3 p4 hp hq hwt harc hme hx hL hdr hsb hbel hal hil hol hll
  obtain ⟨hp0, hq0⟩ := hcase
  have hpp : 0 < p := by omega
  have hpb : (p == 0) = false := by simpa using hp0
  have hfit1 : i < ins.length ∧ ins.getD i 0 = p := by
    unfold fitB at f1
    rw [hpb, Bool.false_or, Bool.and_eq_true, decide_eq_true_iff, beq_iff_eq] at f1
    exact f1
  have hi1e : i1 = i + 1 := by rw [e6]; unfold usedBy; rw [if_neg hp0]
  have hil2 : i < il := by have := HIL.out; omega
  have hii : (i : Int) < il := by omega
  have hii2 : ¬ ((il : Int) ≤ i) := by omega
  have hii3 : ¬ (il ≤ i) := by omega
  have hii4 : decide (il ≤ i) = false := decide_eq_false hii3
  have hii5 : decide ((il : Int) ≤ (i : Int)) = false := decide_eq_false hii2
  obtain ⟨ib, io, rfl, hI⟩ := (HME.out _ HB.out).2.2.1.some (by omega)
  have d1 := hI.cell i hil2
  rw [hfit1.2] at d1
  clear hI hfit1
  have hqp : 0 < q := by omega
  have hqb : (q == 0) = false := by simpa using hq0
  have hfit2 : o < outs.length ∧ outs.getD o 0 = q := by
    unfold fitB at f2
    rw [hqb, Bool.false_or, Bool.and_eq_true, decide_eq_true_iff, beq_iff_eq] at f2
    exact f2
  have ho1e : o1 = o + 1 := by rw [e7]; unfold usedBy; rw [if_neg hq0]
  have hol2 : o < ol := by have := HOL.out; omega
  have hoi : (o : Int) < ol := by omega
  have hoi2 : ¬ ((ol : Int) ≤ o) := by omega
  have hoi3 : ¬ (ol ≤ o) := by omega
  have hoi4 : decide (ol ≤ o) = false := decide_eq_false hoi3
  have hoi5 : decide ((ol : Int) ≤ (o : Int)) = false := decide_eq_false hoi2
  obtain ⟨ob, oo, rfl, hO⟩ := (HME.out _ HB.out).2.2.2.1.some (by omega)
  have d2 := hO.cell o hol2
  rw [hfit2.2] at d2
  clear hO hfit2
  have HI1 : Hid (i1 = i + 1) := hi1e
  have HO1 : Hid (o1 = o + 1) := ho1e
  clear hi1e ho1e e6 e7 f1 f2
  go_wp2
  refine wp_region_quiet_lit (by kernel_rfl) (by kernel_rfl) ?_
  repeat (first | ((with_unfolding_none refine quiet_yes ?hy (fun K hK => ?_)); (case hy => exact rfl); go_simp; (with_unfolding_none refine hK _ ?_); clear hK K) | ((with_unfolding_none refine quiet_no ?hy (fun K hK => ?_)); (case hy => exact rfl); go_simp; (with_unfolding_none refine hK _ ?_); clear hK K))
  refine wpQuiet_nil ?_
  intro _ hw'
  obtain ⟨nq, hw''⟩ := hw'
  subst hw''
  go_wp2
  obtain ⟨W1, hW1⟩ : ∃ W1, W1 = (wr.drewN nq).drew := ⟨_, rfl⟩
  have hB1 : Below wr.heap.size wr W1 := by rw [hW1]; exact (bel_drewN (bel_self wr) nq).drew
  have hS0 : (fun wx : World => wx.cell? ⟨X, 3, none⟩ = some (.slice (some ⟨ab, aoff, none⟩) m ac) ∧ wx.cell? ⟨lb, lo + k, none⟩ = some (.int .i64 j) ∧ wx.cell? ⟨ab, aoff + j * 5, none⟩ = some (.int .i64 n) ∧ wx.cell? ⟨ab, aoff + j * 5 + 1, none⟩ = some (.int .i64 p) ∧ wx.cell? ⟨ab, aoff + j * 5 + 2, none⟩ = some (.int .i64 q) ∧ wx.cell? ⟨ab, aoff + j * 5 + 3, none⟩ = some (.int .i64 n1) ∧ wx.cell? ⟨ab, aoff + j * 5 + 4, none⟩ = some (.int .i64 wt)) W1 := ⟨bel_c hB1 q3, bel_c hB1 d0, bel_c hB1 c0, bel_c hB1 c1, bel_c hB1 c2, bel_c hB1 c3, bel_c hB1 c4⟩
  have z1 := bel_c hB1 d1
  have z2 := bel_c hB1 d2
  clear q0 q1 q2 q3 d0 c0 c1 c2 c3 c4 d1 d2
  refine wp_region_noPanic ?_
  refine wp_region_U (fun wx : World => wx.cell? ⟨X, 3, none⟩ = some (.slice (some ⟨ab, aoff, none⟩) m ac) ∧ wx.cell? ⟨lb, lo + k, none⟩ = some (.int .i64 j) ∧ wx.cell? ⟨ab, aoff + j * 5, none⟩ = some (.int .i64 n) ∧ wx.cell? ⟨ab, aoff + j * 5 + 1, none⟩ = some (.int .i64 p) ∧ wx.cell? ⟨ab, aoff + j * 5 + 2, none⟩ = some (.int .i64 q) ∧ wx.cell? ⟨ab, aoff + j * 5 + 3, none⟩ = some (.int .i64 n1) ∧ wx.cell? ⟨ab, aoff + j * 5 + 4, none⟩ = some (.int .i64 wt)) 9 (by kernel_rfl) (by rw [← hW1]; exact hS0) (fun _ => ?_)
  rw [← hW1]
  clear hW1
  refine wpAnyU_take (i := 0) (v := .pointer (some ⟨X, 3, none⟩)) rfl (by kernel_rfl) (by kernel_rfl) (by kernel_rfl) (by kernel_rfl) (fun _ _ _ h => h) (Or.inl ⟨by rfl, fun wl hSw => ?_⟩) hS0 ?_
  · (try dsimp only at hSw); go_simp
  refine wpAnyU_take (i := 1) (v := .slice (some ⟨ab, aoff, none⟩) m ac) rfl (by kernel_rfl) (by kernel_rfl) (by kernel_rfl) (by kernel_rfl) (fun _ _ _ h => h) (Or.inl ⟨by rfl, fun wl hSw => ?_⟩) hS0 ?_
  · (try dsimp only at hSw); go_simp
  refine wpAnyU_take (i := 2) (v := .slice (some ⟨lb, lo, none⟩) ln lc) rfl (by kernel_rfl) (by kernel_rfl) (by kernel_rfl) (by kernel_rfl) (fun _ _ _ h => h) (Or.inl ⟨by rfl, fun wl hSw => ?_⟩) hS0 ?_
  · (try dsimp only at hSw); go_simp
  refine wpAnyU_take (i := 3) (v := .int .i64 k) rfl (by kernel_rfl) (by kernel_rfl) (by kernel_rfl) (by kernel_rfl) (fun _ _ _ h => h) (Or.inl ⟨by rfl, fun wl hSw => ?_⟩) hS0 ?_
  · (try dsimp only at hSw); go_simp
  refine wpAnyU_take (i := 4) (v := .pointer (some ⟨lb, lo + k, none⟩)) rfl (by kernel_rfl) (by kernel_rfl) (by kernel_rfl) (by kernel_rfl) (fun _ _ _ h => h) (Or.inl ⟨by rfl, fun wl hSw => ?_⟩) hS0 ?_
  · (try dsimp only at hSw); go_simp
  refine wpAnyU_take (i := 5) (v := .int .i64 j) rfl (by kernel_rfl) (by kernel_rfl) (by kernel_rfl) (by kernel_rfl) (fun _ _ _ h => h) (Or.inl ⟨by rfl, fun wl hSw => ?_⟩) hS0 ?_
  · (try dsimp only at hSw); go_simp
  refine wpAnyU_take (i := 6) (v := .pointer (some ⟨ab, aoff + j * 5, none⟩)) rfl (by kernel_rfl) (by kernel_rfl) (by kernel_rfl) (by kernel_rfl) (fun _ _ _ h => h) (Or.inl ⟨by rfl, fun wl hSw => ?_⟩) hS0 ?_
  · (try dsimp only at hSw); go_simp
  refine wpAnyU_take (i := 7) (v := .agg #[.int .i64 n, .int .i64 p, .int .i64 q, .int .i64 n1, .int .i64 wt]) rfl (by kernel_rfl) (by kernel_rfl) (by kernel_rfl) (by kernel_rfl) (fun _ _ _ h => h) (Or.inl ⟨by rfl, fun wl hSw => ?_⟩) hS0 ?_
  · (try dsimp only at hSw); go_simp
  refine wpAnyU_one (i := 8) rfl (by kernel_rfl) (fun K hK => ?_)
  go_simp
  refine hK.out _ _ ⟨fun _ => ⟨old_cell hS0.1, old_cell hS0.2.1, old_cell hS0.2.2.1, old_cell hS0.2.2.2.1, old_cell hS0.2.2.2.2.1, old_cell hS0.2.2.2.2.2.1, old_cell hS0.2.2.2.2.2.2⟩, ?_⟩
  clear hK K
  refine wpAnyU_one (i := 9) rfl (by kernel_rfl) (fun K hK => ?_)
  go_simp
  refine hK.out _ _ ⟨fun h => absurd rfl h, ?_⟩
  clear hK K
  refine wpAnyU_done (by kernel_rfl) ?_ _
  refine NoPanic.normal ?_
  have hB2 := bel_up (bel_self W1) (.cells #[.int .i64 n, .int .i64 p, .int .i64 q, .int .i64 n1, .int .i64 wt] 35)
  have y0 := new_cell W1 #[.int .i64 n, .int .i64 p, .int .i64 q, .int .i64 n1, .int .i64 wt] 35 W1.heap.size 0 (.int .i64 n) rfl rfl
  have y1 := new_cell W1 #[.int .i64 n, .int .i64 p, .int .i64 q, .int .i64 n1, .int .i64 wt] 35 W1.heap.size 1 (.int .i64 p) rfl rfl
  have y2 := new_cell W1 #[.int .i64 n, .int .i64 p, .int .i64 q, .int .i64 n1, .int .i64 wt] 35 W1.heap.size 2 (.int .i64 q) rfl rfl
  have y3 := new_cell W1 #[.int .i64 n, .int .i64 p, .int .i64 q, .int .i64 n1, .int .i64 wt] 35 W1.heap.size 3 (.int .i64 n1) rfl rfl
  have y4 := new_cell W1 #[.int .i64 n, .int .i64 p, .int .i64 q, .int .i64 n1, .int .i64 wt] 35 W1.heap.size 4 (.int .i64 wt) rfl rfl
  have z1b := bel_c hB2 z1
  have z2b := bel_c hB2 z2
  have HB2 : Hid (∀ n2 n3, Below w.heap.size w (((W1.alloc (.cells #[.int .i64 n, .int .i64 p, .int .i64 q, .int .i64 n1, .int .i64 wt] 35)).drewN n2).drewN n3)) := fun n2 n3 => bel_drewN (bel_drewN (bel_on (bel_on HB.out hB1) hB2) n2) n3
  clear hB1 hB2 hS0 z1 z2
  generalize W1.alloc (.cells #[.int .i64 n, .int .i64 p, .int .i64 q, .int .i64 n1, .int .i64 wt] 35) = W2 at *
  obtain ⟨B, hB⟩ : ∃ B, B = W1.heap.size := ⟨_, rfl⟩
  rw [← hB] at y0 y1 y2 y3 y4 ⊢
  clear hB
  go_wp2
  refine wp_region_quiet_lit (by kernel_rfl) (by kernel_rfl) ?_
  repeat (first | ((with_unfolding_none refine quiet_yes ?hy (fun K hK => ?_)); (case hy => exact rfl); go_simp; (with_unfolding_none refine hK _ ?_); clear hK K) | ((with_unfolding_none refine quiet_no ?hy (fun K hK => ?_)); (case hy => exact rfl); go_simp; (with_unfolding_none refine hK _ ?_); clear hK K))
  refine wpQuiet_nil ?_
  intro _ hw'
  obtain ⟨nq, hw''⟩ := hw'
  subst hw''
  go_wp2
  refine wp_region_quiet_lit (by kernel_rfl) (by kernel_rfl) ?_
  repeat (first | ((with_unfolding_none refine quiet_yes ?hy (fun K hK => ?_)); (case hy => exact rfl); go_simp; (with_unfolding_none refine hK _ ?_); clear hK K) | ((with_unfolding_none refine quiet_no ?hy (fun K hK => ?_)); (case hy => exact rfl); go_simp; (with_unfolding_none refine hK _ ?_); clear hK K))
  refine wpQuiet_nil ?_
  intro _ hw'
  obtain ⟨nq, hw''⟩ := hw'
  subst hw''
  go_wp2
  exact HK.out rfl (by rw [HI1.out]; go_num) (by rw [HO1.out]; go_num) rfl (by go_num) (HEND.out _ (by first | exact HB2.out _ _ | exact (by have h := HB2.out; simp only [World.drewN_drewN] at h ⊢; exact h _ _)))
end Go.Proofs.YteehgcbjmdideaaGreatDoor.Sc
