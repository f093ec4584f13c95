/- One round of the loop of 'ShortBest' along the best way. -/
import Derived.Test.YteehgcbjmdideaaQMM
import Derived.Test.YteehgcbjmdideaaQMP
import Derived.Test.YteehgcbjmdideaaQMH
namespace Go.Proofs.Yteehgcbjmdideaa
open Go.RowKit
attribute [local go_sem ↓] Go.wp_at_zero Go.wp_at_succ

/-- a row of truths, which may be changed -/
structure MetB (w : World) (g n : Nat) (mb : Nat → Bool) : Prop where
  cell : ∀ i, i < n → w.cell? ⟨g, i, none⟩ = some (.bool (mb i))
  frz : ∀ i, w.frozen? ⟨g, i, none⟩ = false
  lt : g < w.heap.size

theorem MetB.below {w w' : World} {g n : Nat} {mb : Nat → Bool} (h : MetB w g n mb) (hb : Below w.heap.size w w') : MetB w' g n mb :=
  ⟨fun i hi => bel_c hb (h.cell i hi), fun i => (hb.frozen (p := ⟨g, i, none⟩) h.lt).trans (h.frz i), Nat.lt_of_lt_of_le h.lt hb.size⟩
theorem MetB.set {w : World} {g n : Nat} {mb : Nat → Bool} (h : MetB w g n mb) (i : Nat) : MetB (w.setCell ⟨g, i, none⟩ (.bool true)) g n (fun u => if u = i then true else mb u) := by
  refine ⟨fun k hk => ?_, fun k => by rw [World.frozen?_setCell]; exact h.frz k, by simpa [World.setCell] using h.lt⟩
  by_cases e : k = i
  · subst e
    rw [if_pos rfl]
    exact World.cell?_setCell_same _ _ _ (h.cell k hk)
  · rw [if_neg e, World.cell?_setCell_other _ _ _ _ (by intro e1; apply e; injection e1 with _ e2; exact e2.symm)]
    exact h.cell k hk

/-- where the way is behind k arcs -/
structure SbI (f : FstD) (l y to : List Int) (r : Nat → Nat) (N : Nat) (best : Int) (G s k : Nat) (cost : Int) (mb : Nat → Bool) (w wr : World) : Prop where
  way : WayL f y s (l.drop k)
  sum : cost + gI to s = best
  c0 : 0 ≤ cost
  t0 : 0 ≤ gI to s
  hs : s < N
  met : MetB wr G N mb
  rk : ∀ u, u < N → mb u = true → r s ≤ r u
  bel : Below w.heap.size w wr

structure SbR (f : FstD) (l y to : List Int) (r : Nat → Nat) (N : Nat) (st sta best : Int) (fin : Value) (aa : Option Addr) (m ac : Nat) (la : Option Addr) (ln lc X G s k : Nat) (cost : Int) (mb : Nat → Bool) (w wr : World) : Prop where
  arcs : ∀ a ∈ f.arcs, (0 ≤ a.src ∧ a.src < N) ∧ (0 ≤ a.dst ∧ a.dst < N) ∧ (0 ≤ a.wt ∧ a.wt ≤ 1000000000)
  bk : BackOk f N to y r
  hal : f.arcs.length = m
  hll : l.length = ln
  hN : N ≤ 200
  hm3 : m ≤ 3000
  hln : ln ≤ 20000
  hb : best ≤ 1000000000000
  hk : k < ln
  hG : w.heap.size ≤ G
  hme : ∀ W, Below w.heap.size w W → CellsF W X st sta fin (.slice aa m ac) ∧ ASlice W (.slice aa m ac) f.arcs ∧ ISlice W (.slice la ln lc) l
  inv : SbI f l y to r N best G s k cost mb w wr

set_option maxHeartbeats 4000000 in
set_option maxRecDepth 100000 in
theorem best_roundH {f : FstD} {l y to : List Int} {r : Nat → Nat} {N : Nat} {st sta best : Int} {fin : Value} {aa : Option Addr} {m ac : Nat} {la : Option Addr} {ln lc : Nat} {X G s k : Nat} {cost : Int} {mb : Nat → Bool} {w wr : World} {u0 u1 u2 u4 u5 u6 u8 u9 u10 u11 u12 u13 u14 u15 u16 u21 u22 u23 u24 u25 u26 u27 u28 u29 u30 u31 u32 u33 u34 u35 u36 u37 u38 u39 u40 u41 u42 u43 u44 u45 u46 u47 u48 u49 u50 u51 u52 u53 u54 u55 u56 u57 u58 u59 u60 u61 u62 u63 u64 u65 u66 u67 u68 u69 u70 u71 u72 u73 u74 u75 u76 u77 u78 u79 u80 u81 u82 u83 u84 u85 u86 u87 u88 u89 u90 u91 u92 u93 u94 u95 u96 u97 u98 u99 u100 u101 u102 u103 u104 u105 u106 u107 u108 u109 u110 u111 u112 u113 u114 u115 u116 u117 u118 u119 u120 u121 u122 u123 u124 u125 u126 u127 u128 u129 u130 u131 u132 u133 u134 u135 u136 u137 u138 u139 u140 u141 u142 u143 u144 u145 u146 u147 u148 u149 u150 u151 u152 u153 u154 u155 u156 u157 u158 u159 u160 u161 u162 u163 u164 u165 u166 u167 u168 u169 u170 u171 u172 u173 u174 u175 u176 u177 u178 u179 u180 u181 u182 u183 u184 u185 u186 u187 u188 u189 u190 u191 u192 u193 u194 u195 u196 u197 u198 u199 u200 u201 u202 u203 u204 u205 u206 u207 u208 u209 u210 u211 : Value}
    {cd : Code} {K0 : Act → World → Prop} {Q2 : Exit → Act → World → Prop} (hcd : cd = (loopsOf (Try.f8.body.getD .skip)).getD 0 .skip) (hR : SbR f l y to r N st sta best fin aa m ac la ln lc X G s k cost mb w wr)
    (HK : Hid ((∀ {t17 t18 t20 x134 x135 x136 x137 x138 x139 x140 x141 x142 x143 x144 x145 x146 x147 x148 x149 x150 x151 x152 x153 x154 x155 x156 x157 x158 x159 x160 x161 x162 x163 x164 x165 x166 x167 x168 x169 x170 x171 x172 x173 x174 x175 x176 x177 x178 x179 x180 x181 x182 x183 x184 x185 x186 x187 x188 x189 x190 x191 x192 x193 x194 : Value} {wx : World} {s' : Nat} {cost' : Int} {mb' : Nat → Bool}, t17 = .int .i64 (s' : Int) → t18 = .int .i64 cost' → t20 = .int .i64 ((k + 1 : Nat) : Int) → SbI f l y to r N best G s' (k + 1) cost' mb' w wx → K0 { tmps := #[u0, u1, u2, .pointer (some ⟨X, 0, none⟩), u4, u5, u6, .slice la ln lc, u8, u9, u10, u11, u12, u13, u14, u15, u16, t17, t18, .slice (some ⟨G, 0, none⟩) N N, t20, u21, u22, u23, u24, u25, u26, u27, u28, u29, u30, u31, u32, u33, u34, u35, u36, u37, u38, u39, u40, u41, u42, u43, u44, u45, u46, u47, u48, u49, u50, u51, u52, u53, u54, u55, u56, u57, u58, u59, u60, u61, u62, u63, u64, u65, u66, u67, u68, u69, u70, u71, u72, u73, u74, u75, u76, u77, u78, u79, u80, u81, u82, u83, u84, u85, u86, u87, u88, u89, u90, u91, u92, u93, u94, u95, u96, u97, u98, u99, u100, u101, u102, u103, u104, u105, u106, u107, u108, u109, u110, u111, u112, u113, u114, u115, u116, u117, u118, u119, u120, u121, u122, u123, u124, u125, u126, u127, u128, u129, u130, u131, u132, u133, x134, x135, x136, x137, x138, x139, x140, x141, x142, x143, x144, x145, x146, x147, x148, x149, x150, x151, x152, x153, x154, x155, x156, x157, x158, x159, x160, x161, x162, x163, x164, x165, x166, x167, x168, x169, x170, x171, x172, x173, x174, x175, x176, x177, x178, x179, x180, x181, x182, x183, x184, x185, x186, x187, x188, x189, x190, x191, x192, x193, x194, u195, u196, u197, u198, u199, u200, u201, u202, u203, u204, u205, u206, u207, u208, u209, u210, u211], defers := [] } wx))) : cd.wp Try.prog (Exit.then K0 Q2) { tmps := #[u0, u1, u2, .pointer (some ⟨X, 0, none⟩), u4, u5, u6, .slice la ln lc, u8, u9, u10, u11, u12, u13, u14, u15, u16, .int .i64 s, .int .i64 cost, .slice (some ⟨G, 0, none⟩) N N, .int .i64 k, u21, u22, u23, u24, u25, u26, u27, u28, u29, u30, u31, u32, u33, u34, u35, u36, u37, u38, u39, u40, u41, u42, u43, u44, u45, u46, u47, u48, u49, u50, u51, u52, u53, u54, u55, u56, u57, u58, u59, u60, u61, u62, u63, u64, u65, u66, u67, u68, u69, u70, u71, u72, u73, u74, u75, u76, u77, u78, u79, u80, u81, u82, u83, u84, u85, u86, u87, u88, u89, u90, u91, u92, u93, u94, u95, u96, u97, u98, u99, u100, u101, u102, u103, u104, u105, u106, u107, u108, u109, u110, u111, u112, u113, u114, u115, u116, u117, u118, u119, u120, u121, u122, u123, u124, u125, u126, u127, u128, u129, u130, u131, u132, u133, u134, u135, u136, u137, u138, u139, u140, u141, u142, u143, u144, u145, u146, u147, u148, u149, u150, u151, u152, u153, u154, u155, u156, u157, u158, u159, u160, u161, u162, u163, u164, u165, u166, u167, u168, u169, u170, u171, u172, u173, u174, u175, u176, u177, u178, u179, u180, u181, u182, u183, u184, u185, u186, u187, u188, u189, u190, u191, u192, u193, u194, u195, u196, u197, u198, u199, u200, u201, u202, u203, u204, u205, u206, u207, u208, u209, u210, u211], defers := [] } wr := by
  obtain ⟨harc, hbk, hal, hll, hN, hm3, hln, hb, hk, hG, hme, hway, hsum, hc0, ht0, hs, hmet, hrk, hbel⟩ := hR
  simp only [Try.f8, loopsOf, List.append_eq, List.nil_append, List.cons_append, List.append_nil, List.getD_cons_zero, Option.getD_some] at hcd
  subst hcd
  have hdr : l.drop k = l.getD k 0 :: l.drop (k + 1) := by
    rw [List.drop_eq_getElem_cons (by omega)]
    simp [List.getD, show k < l.length by omega]
  rw [hdr] at hway
  obtain ⟨j, a, e1, e2, e3, e4, hway'⟩ := hway
  have hmem := List.mem_of_getElem? e3
  obtain ⟨⟨p1, p2⟩, ⟨p3, p4⟩, p5, p6⟩ := harc a hmem
  have hjm : j < m := by have := (List.getElem?_eq_some_iff.1 e3).1; omega
  obtain ⟨t, ht⟩ : ∃ t : Nat, a.dst = t := ⟨a.dst.toNat, by omega⟩
  have htN : t < N := by omega
  rw [ht, Int.toNat_natCast] at hway'
  obtain ⟨g1, g2, g3⟩ : 0 ≤ gI to t ∧ gI to t + a.wt = gI to s ∧ r t < r s := by
    rcases hbk s hs with ⟨h1, _⟩ | ⟨j', a', h1, h2, _, h4, _, h6, h7⟩
    · rw [e2] at h1; omega
    · have ej : j' = j := by rw [e2] at h1; omega
      subst ej
      rw [e3] at h2
      injection h2 with h2
      subst h2
      rw [ht, Int.toNat_natCast] at h4 h6 h7
      exact ⟨h4, h6, h7⟩
  have hmt : mb t = false := by
    cases h : mb t with
    | false => rfl
    | true => have := hrk t htN h; omega
  have hag : f.arcs.getD j a0 = a := by simp [List.getD, e3]
  have HEND : Hid (∀ wx, MetB wx G N mb → Below w.heap.size w wx → SbI f l y to r N best G t (k + 1) (cost + a.wt) (fun u => if u = t then true else mb u) w (wx.setCell ⟨G, t, none⟩ (.bool true))) := fun wx hm hbx => ⟨hway', by omega, by omega, g1, htN, hm.set t, fun u hu h => by
      by_cases e : u = t
      · subst e; exact Nat.le_refl _
      · rw [if_neg e] at h
        have := hrk u hu h
        omega, hbx.setCell (p := ⟨G, t, none⟩) hG _⟩
  obtain ⟨q0, q1, q2, q3⟩ := (hme _ hbel).1
  obtain ⟨lb, lo, rfl, hL⟩ := (hme _ hbel).2.2.some (by omega)
  have d0 := hL.cell k hk
  rw [e1] at d0
  obtain ⟨ab, aoff, rfl, hx⟩ := (hme _ hbel).2.1.some (by omega)
  have c0 := hx.c0 j hjm
  have c3 := hx.c3 j hjm
  have c4 := hx.c4 j hjm
  rw [hag] at c0 c3 c4
  rw [e4] at c0
  rw [ht] at c3
  obtain ⟨wt, hwt⟩ : ∃ wt, a.wt = wt := ⟨_, rfl⟩
  rw [hwt] at c4 p5 p6 HEND g2
  have hcw : IntKind.i64.wrap (cost + wt) = cost + wt := wrap_in _ (by omega) (by omega)
  have hji : (j : Int) < m := by omega
  have hjm1 : ¬ ((m : Int) ≤ j) := by omega
  have hjm2 : decide ((m : Int) ≤ (j : Int)) = false := decide_eq_false hjm1
  have hjm3 : decide (m ≤ j) = false := decide_eq_false (by omega)
  have hki : (k : Int) < ln := by omega
  have hti : (t : Int) < N := by omega
  clear hdr e1 e2 e3 e4 hmem p1 p2 p3 p4 hway' ht g1 g2 g3 hag hsum hc0 ht0 hrk hbk harc hal hll hme hL hx hwt q0 q1 q2 hb
  go_wp2
  refine wp_region_quiet_lit (by kernel_rfl) (by kernel_rfl) ?_
  repeat (first | ((with_unfolding_none refine quiet_yes ?hy (fun K hK => ?_)); (case hy => exact rfl); go_simp; (with_unfolding_none refine hK _ ?_); clear hK K) | ((with_unfolding_none refine quiet_no ?hy (fun K hK => ?_)); (case hy => exact rfl); go_simp; (with_unfolding_none refine hK _ ?_); clear hK K))
  refine wpQuiet_nil ?_
  intro _ hw'
  obtain ⟨nq, hw''⟩ := hw'
  subst hw''
  obtain ⟨W2, hW2⟩ : ∃ W2, W2 = wr.drewN nq := ⟨_, rfl⟩
  have hBW2 : Below wr.heap.size wr W2 := by rw [hW2]; exact bel_drewN (bel_self wr) nq
  rw [← hW2]
  clear hW2 nq
  replace q3 := bel_c hBW2 q3
  replace d0 := bel_c hBW2 d0
  replace c0 := bel_c hBW2 c0
  replace c3 := bel_c hBW2 c3
  replace c4 := bel_c hBW2 c4
  replace hmet := hmet.below hBW2
  replace hbel := bel_on hbel hBW2
  clear hBW2
  go_wp2
  refine wp_region_quiet_lit (by kernel_rfl) (by kernel_rfl) ?_
  repeat (first | ((with_unfolding_none refine quiet_yes ?hy (fun K hK => ?_)); (case hy => exact rfl); go_simp; (with_unfolding_none refine hK _ ?_); clear hK K) | ((with_unfolding_none refine quiet_no ?hy (fun K hK => ?_)); (case hy => exact rfl); go_simp; (with_unfolding_none refine hK _ ?_); clear hK K))
  refine wpQuiet_nil ?_
  intro _ hw'
  obtain ⟨nq, hw''⟩ := hw'
  subst hw''
  obtain ⟨W3, hW3⟩ : ∃ W3, W3 = W2.drewN nq := ⟨_, rfl⟩
  have hBW3 : Below W2.heap.size W2 W3 := by rw [hW3]; exact bel_drewN (bel_self W2) nq
  rw [← hW3]
  clear hW3 nq
  replace q3 := bel_c hBW3 q3
  replace d0 := bel_c hBW3 d0
  replace c0 := bel_c hBW3 c0
  replace c3 := bel_c hBW3 c3
  replace c4 := bel_c hBW3 c4
  replace hmet := hmet.below hBW3
  replace hbel := bel_on hbel hBW3
  clear hBW3
  go_wp2
  refine wp_region_quiet_lit (by kernel_rfl) (by kernel_rfl) ?_
  repeat (first | ((with_unfolding_none refine quiet_yes ?hy (fun K hK => ?_)); (case hy => exact rfl); go_simp; (with_unfolding_none refine hK _ ?_); clear hK K) | ((with_unfolding_none refine quiet_no ?hy (fun K hK => ?_)); (case hy => exact rfl); go_simp; (with_unfolding_none refine hK _ ?_); clear hK K))
  refine wpQuiet_nil ?_
  intro _ hw'
  obtain ⟨nq, hw''⟩ := hw'
  subst hw''
  obtain ⟨W4, hW4⟩ : ∃ W4, W4 = W3.drewN nq := ⟨_, rfl⟩
  have hBW4 : Below W3.heap.size W3 W4 := by rw [hW4]; exact bel_drewN (bel_self W3) nq
  rw [← hW4]
  clear hW4 nq
  replace q3 := bel_c hBW4 q3
  replace d0 := bel_c hBW4 d0
  replace c0 := bel_c hBW4 c0
  replace c3 := bel_c hBW4 c3
  replace c4 := bel_c hBW4 c4
  replace hmet := hmet.below hBW4
  replace hbel := bel_on hbel hBW4
  clear hBW4
  have z1 := hmet.cell t htN
  rw [hmt] at z1
  have z2 := hmet.frz t
  go_wp2
  exact HK.out rfl rfl (by go_num) (HEND.out W4 hmet hbel)

theorem best_round {f : FstD} {l y to : List Int} {r : Nat → Nat} {N : Nat} {st sta best : Int} {fin : Value} {aa : Option Addr} {m ac : Nat} {la : Option Addr} {ln lc : Nat} {X G s k : Nat} {cost : Int} {mb : Nat → Bool} {w wr : World} {u0 u1 u2 u4 u5 u6 u8 u9 u10 u11 u12 u13 u14 u15 u16 u21 u22 u23 u24 u25 u26 u27 u28 u29 u30 u31 u32 u33 u34 u35 u36 u37 u38 u39 u40 u41 u42 u43 u44 u45 u46 u47 u48 u49 u50 u51 u52 u53 u54 u55 u56 u57 u58 u59 u60 u61 u62 u63 u64 u65 u66 u67 u68 u69 u70 u71 u72 u73 u74 u75 u76 u77 u78 u79 u80 u81 u82 u83 u84 u85 u86 u87 u88 u89 u90 u91 u92 u93 u94 u95 u96 u97 u98 u99 u100 u101 u102 u103 u104 u105 u106 u107 u108 u109 u110 u111 u112 u113 u114 u115 u116 u117 u118 u119 u120 u121 u122 u123 u124 u125 u126 u127 u128 u129 u130 u131 u132 u133 u134 u135 u136 u137 u138 u139 u140 u141 u142 u143 u144 u145 u146 u147 u148 u149 u150 u151 u152 u153 u154 u155 u156 u157 u158 u159 u160 u161 u162 u163 u164 u165 u166 u167 u168 u169 u170 u171 u172 u173 u174 u175 u176 u177 u178 u179 u180 u181 u182 u183 u184 u185 u186 u187 u188 u189 u190 u191 u192 u193 u194 u195 u196 u197 u198 u199 u200 u201 u202 u203 u204 u205 u206 u207 u208 u209 u210 u211 : Value}
    {cd : Code} {K0 : Act → World → Prop} {Q2 : Exit → Act → World → Prop} (hcd : cd = (loopsOf (Try.f8.body.getD .skip)).getD 0 .skip) (hR : SbR f l y to r N st sta best fin aa m ac la ln lc X G s k cost mb w wr)
    (HK : ((∀ {t17 t18 t20 x134 x135 x136 x137 x138 x139 x140 x141 x142 x143 x144 x145 x146 x147 x148 x149 x150 x151 x152 x153 x154 x155 x156 x157 x158 x159 x160 x161 x162 x163 x164 x165 x166 x167 x168 x169 x170 x171 x172 x173 x174 x175 x176 x177 x178 x179 x180 x181 x182 x183 x184 x185 x186 x187 x188 x189 x190 x191 x192 x193 x194 : Value} {wx : World} {s' : Nat} {cost' : Int} {mb' : Nat → Bool}, t17 = .int .i64 (s' : Int) → t18 = .int .i64 cost' → t20 = .int .i64 ((k + 1 : Nat) : Int) → SbI f l y to r N best G s' (k + 1) cost' mb' w wx → K0 { tmps := #[u0, u1, u2, .pointer (some ⟨X, 0, none⟩), u4, u5, u6, .slice la ln lc, u8, u9, u10, u11, u12, u13, u14, u15, u16, t17, t18, .slice (some ⟨G, 0, none⟩) N N, t20, u21, u22, u23, u24, u25, u26, u27, u28, u29, u30, u31, u32, u33, u34, u35, u36, u37, u38, u39, u40, u41, u42, u43, u44, u45, u46, u47, u48, u49, u50, u51, u52, u53, u54, u55, u56, u57, u58, u59, u60, u61, u62, u63, u64, u65, u66, u67, u68, u69, u70, u71, u72, u73, u74, u75, u76, u77, u78, u79, u80, u81, u82, u83, u84, u85, u86, u87, u88, u89, u90, u91, u92, u93, u94, u95, u96, u97, u98, u99, u100, u101, u102, u103, u104, u105, u106, u107, u108, u109, u110, u111, u112, u113, u114, u115, u116, u117, u118, u119, u120, u121, u122, u123, u124, u125, u126, u127, u128, u129, u130, u131, u132, u133, x134, x135, x136, x137, x138, x139, x140, x141, x142, x143, x144, x145, x146, x147, x148, x149, x150, x151, x152, x153, x154, x155, x156, x157, x158, x159, x160, x161, x162, x163, x164, x165, x166, x167, x168, x169, x170, x171, x172, x173, x174, x175, x176, x177, x178, x179, x180, x181, x182, x183, x184, x185, x186, x187, x188, x189, x190, x191, x192, x193, x194, u195, u196, u197, u198, u199, u200, u201, u202, u203, u204, u205, u206, u207, u208, u209, u210, u211], defers := [] } wx))) : cd.wp Try.prog (Exit.then K0 Q2) { tmps := #[u0, u1, u2, .pointer (some ⟨X, 0, none⟩), u4, u5, u6, .slice la ln lc, u8, u9, u10, u11, u12, u13, u14, u15, u16, .int .i64 s, .int .i64 cost, .slice (some ⟨G, 0, none⟩) N N, .int .i64 k, u21, u22, u23, u24, u25, u26, u27, u28, u29, u30, u31, u32, u33, u34, u35, u36, u37, u38, u39, u40, u41, u42, u43, u44, u45, u46, u47, u48, u49, u50, u51, u52, u53, u54, u55, u56, u57, u58, u59, u60, u61, u62, u63, u64, u65, u66, u67, u68, u69, u70, u71, u72, u73, u74, u75, u76, u77, u78, u79, u80, u81, u82, u83, u84, u85, u86, u87, u88, u89, u90, u91, u92, u93, u94, u95, u96, u97, u98, u99, u100, u101, u102, u103, u104, u105, u106, u107, u108, u109, u110, u111, u112, u113, u114, u115, u116, u117, u118, u119, u120, u121, u122, u123, u124, u125, u126, u127, u128, u129, u130, u131, u132, u133, u134, u135, u136, u137, u138, u139, u140, u141, u142, u143, u144, u145, u146, u147, u148, u149, u150, u151, u152, u153, u154, u155, u156, u157, u158, u159, u160, u161, u162, u163, u164, u165, u166, u167, u168, u169, u170, u171, u172, u173, u174, u175, u176, u177, u178, u179, u180, u181, u182, u183, u184, u185, u186, u187, u188, u189, u190, u191, u192, u193, u194, u195, u196, u197, u198, u199, u200, u201, u202, u203, u204, u205, u206, u207, u208, u209, u210, u211], defers := [] } wr := best_roundH hcd hR HK
end Go.Proofs.Yteehgcbjmdideaa
