/- 'ScoreWalks'. -/
import Derived.Test.YteehgcbjmdideaaGreatDoorQWkB
import Derived.Test.YteehgcbjmdideaaGreatDoorQWkC
import Derived.Test.YteehgcbjmdideaaGreatDoorQMD
import Derived.Test.YteehgcbjmdideaaGreatDoorQMG
import Derived.Test.YteehgcbjmdideaaGreatDoorQFBeg
namespace Go.Proofs.YteehgcbjmdideaaGreatDoor.Sc
open Go.RowKit
attribute [local go_sem ↓] Go.wp_at_zero Go.wp_at_succ

/-- what 'Walk' answers where an argument has a fault -/
theorem walk_err (f : FstD) (ins outs : List Int) (fin arcs : Value) (ia : Option Addr) (il ic : Nat) (oa : Option Addr) (ol oc : Nat) (w : World) (hf : ISlice w fin f.final) (ha : ASlice w arcs f.arcs) (hI : ISlice w (.slice ia il ic) ins) (hil : ins.length = il) (hO : ISlice w (.slice oa ol oc) outs) (hol : outs.length = ol) (h : chkS f ins outs ≠ 0) :
    Calls Tryz.prog 4 #[.agg #[.int .i64 f.states, .int .i64 f.start, fin, arcs], .slice ia il ic, .slice oa ol oc] w fun e w' => NoWalk w (chkS f ins outs) e w' := by
  by_cases h0 : checkD f = 0
  · by_cases h1 : wordD ins = 0
    · have e : chkS f ins outs = wordD outs := by unfold chkS; rw [if_pos h0, if_pos h1]
      rw [e] at h ⊢
      exact walk_out f ins outs fin _ ia il ic oa ol oc _ w hf ha h0 hI hil h1 hO hol rfl h
    · have e : chkS f ins outs = wordD ins := by unfold chkS; rw [if_pos h0, if_neg h1]
      rw [e] at h ⊢
      exact walk_in f ins fin _ ia il ic oa ol oc _ w hf ha h0 hI hil rfl h
  · have e : chkS f ins outs = checkD f := by unfold chkS; rw [if_neg h0]
    rw [e] at h ⊢
    exact walk_bad f fin _ ia il ic oa ol oc _ w hf ha rfl h

/-- what 'Score' answers, where it is known -/
theorem score_at (f : FstD) (ins outs : List Int) (fin arcs iv ov : Value) (w : World) (hf : ISlice w fin f.final) (ha : ASlice w arcs f.arcs) (hI : ISlice w iv ins) (hO : ISlice w ov outs) (x : Int) (hc : chkS f ins outs = 0) (hx : BestP f ins outs f.start.toNat x) :
    Calls Tryz.prog 5 #[.agg #[.int .i64 f.states, .int .i64 f.start, fin, arcs], iv, ov] w fun e w' => e = .returned (.tuple #[.int .i64 x, .int .i64 0]) ∧ Below w.heap.size w w' := by
  refine (score_any f ins outs fin arcs iv ov w hf ha hI hO).mono ?_
  rintro e w' ⟨z, c, rfl, ⟨h1, _, h3⟩, hb⟩
  rw [hc] at h1
  subst h1
  obtain ⟨N, s0, e1, e2, hok, hbest⟩ := h3 rfl
  have hz := (best_path hok).1 hbest
  rw [e2, Int.toNat_natCast] at hx
  rw [hz.unique hx]
  exact ⟨rfl, hb⟩

theorem score_no (f : FstD) (ins outs : List Int) (fin arcs iv ov : Value) (w : World) (hf : ISlice w fin f.final) (ha : ASlice w arcs f.arcs) (hI : ISlice w iv ins) (hO : ISlice w ov outs) (c : Int) (hc : chkS f ins outs = c) (h0 : c ≠ 0) :
    Calls Tryz.prog 5 #[.agg #[.int .i64 f.states, .int .i64 f.start, fin, arcs], iv, ov] w fun e w' => e = .returned (.tuple #[.int .i64 0, .int .i64 c]) ∧ Below w.heap.size w w' := by
  refine (score_any f ins outs fin arcs iv ov w hf ha hI hO).mono ?_
  rintro e w' ⟨z, c', rfl, ⟨h1, h2, _⟩, hb⟩
  rw [hc] at h1
  subst h1
  rw [h2 h0]
  exact ⟨rfl, hb⟩

set_option maxHeartbeats 2000000 in
set_option maxRecDepth 100000 in
theorem walks_err (f : FstD) (ins outs : List Int) (fa : Option Addr) (fn fc : Nat) (aa : Option Addr) (m ac : Nat) (ia : Option Addr) (il ic : Nat) (oa : Option Addr) (ol oc : Nat) (w : World) (hf : ISlice w (.slice fa fn fc) f.final) (ha : ASlice w (.slice aa m ac) f.arcs) (hI : ISlice w (.slice ia il ic) ins) (hil : ins.length = il) (hO : ISlice w (.slice oa ol oc) outs) (hol : outs.length = ol) (ht : TabW w) (hsh : w.ShapedOpen Tryz.prog) (c : Int) (hc : chkS f ins outs = c) (h0 : c ≠ 0) :
    Calls Tryz.prog 3 #[.agg #[.int .i64 f.states, .int .i64 f.start, .slice fa fn fc, .slice aa m ac], .slice ia il ic, .slice oa ol oc] w fun e w' => e = .returned (.bool true) ∧ Below w.heap.size w w' := by
  have hb0 := bel_up (bel_self w) (.cells #[.int .i64 f.states, .int .i64 f.start, .slice fa fn fc, .slice aa m ac] 25)
  have hcf := cellsF_new w f.states f.start (.slice fa fn fc) (.slice aa m ac) 25
  have hwk := walk_err f ins outs _ _ ia il ic oa ol oc _ (hf.below hb0) (ha.below hb0) (hI.below hb0) hil (hO.below hb0) hol (by rw [hc]; exact h0)
  rw [hc] at hwk
  have HSC : Hid (∀ W, Below w.heap.size w W → Calls Tryz.prog 5 #[.agg #[.int .i64 f.states, .int .i64 f.start, .slice fa fn fc, .slice aa m ac], .slice ia il ic, .slice oa ol oc] W fun e w' => e = .returned (.tuple #[.int .i64 0, .int .i64 c]) ∧ Below W.heap.size W w') := fun W hb => score_no f ins outs _ _ _ _ W (hf.below hb) (ha.below hb) (hI.below hb) (hO.below hb) c hc h0
  have HFB : Hid (∀ W, Below w.heap.size w W → Calls Tryz.prog 7 #[] W fun e w' => e = .returned (.bool true) ∧ Below W.heap.size W w') := fun W hb => fstBegun_any W (ht.below hb (Nat.le_refl _)) (shaped_below hsh hb)
  have h0n : (c != 0) = true := by simpa using h0
  have HH : Hid (c ≠ 0) := h0
  clear hc hf ha hI hO hil hol ht hsh h0
  go_enter Tryz.func3, Tryz.ntmps3
  go_wp2_with (go_at_call 4; refine hwk.mono ?_; rintro e w1 ⟨rfl, hb1⟩; have hc1 := bel_on hb0 hb1; obtain ⟨q0, q1, q2, q3⟩ := hcf.below hb1)
  refine (HSC.out w1 hc1).mono ?_
  rintro e w2 ⟨rfl, hb2⟩
  have hc2 := bel_on hc1 hb2
  clear hwk hb1 q0 q1 q2 q3
  go_wp2_with (first | (go_at_call 7; refine (HFB.out w3 hc3).mono ?_; rintro e w4 ⟨rfl, hb4⟩; have hc4 := bel_on hc3 hb4) | (go_at_call 6; refine (scoreBegun_any w2).mono ?_; rintro e w3 ⟨rfl, hb3⟩; have hc3 := bel_on hc2 hb3))
  go_ret
  exact ⟨rfl, hc4⟩

theorem walk_round {f : FstD} {ins outs l c y : List Int} {N : Nat} {st sta : Int} {fin : Value} {aa : Option Addr} {m ac : Nat} {ia : Option Addr} {il ic : Nat} {oa : Option Addr} {ol oc : Nat} {la : Option Addr} {ln lc : Nat} {X n i o k nf : Nat} {cost : Int} {w wr : World} {u0 u4 u5 u6 u8 u9 u10 u11 u12 u13 u19 u20 u21 u22 u23 u24 u25 u26 u27 u28 u29 u30 u31 u32 u33 u34 u35 u36 u37 u38 u39 u40 u41 u42 u43 u44 u45 u46 u47 u48 u49 u50 u51 u52 u53 u54 u55 u56 u57 u58 u59 u60 u61 u62 u63 u64 u65 u66 u67 u68 u69 u70 u71 u72 u73 u74 u75 u76 u77 u78 u79 u80 u81 u82 u83 u84 u85 u86 u87 u88 u89 u90 u91 u92 u93 u94 u95 u96 u97 u98 u99 u100 u101 u102 u103 u104 u105 u106 u107 u108 u109 u110 u111 u112 u113 u114 u115 u116 u117 u118 u119 u120 u121 u122 u123 u124 u125 u126 u127 u128 u129 u130 u131 u132 u133 u134 u135 u136 u137 u138 u139 u140 u141 u142 u143 u144 u145 u146 u147 u148 u149 u150 u151 u152 u153 u154 u155 u156 u157 u158 u159 u160 u161 u162 u163 u164 u165 u166 u167 u168 u169 u170 u171 u172 u173 u174 u175 u176 u177 u178 u179 u180 u181 u182 u183 u184 u185 u186 u187 u188 u189 u190 u191 u192 u193 u194 u195 u196 u197 u198 u199 u200 u201 u202 u203 u204 u205 u206 u207 u208 u209 u210 u211 u212 u213 u214 u215 u216 u217 u218 u219 u220 u221 : Value}
    {cd : Code} {K0 : Act → World → Prop} {Q2 : Exit → Act → World → Prop} (hcd : cd = (loopsOf (Tryz.f3.body.getD .skip)).getD 0 .skip) (hR : WkR f ins outs l c y N st sta fin aa m ac ia il ic oa ol oc la ln lc X n i o k nf cost w wr)
    (HK : (∀ {t14 t15 t16 t17 t18 x19 x90 x91 x92 x93 x94 x95 x96 x97 x98 x99 x100 x101 x102 x103 x104 x105 x106 x107 x108 x109 x110 x111 x112 x113 x114 x115 x116 x117 x118 x119 x120 x121 x122 x123 x124 x125 x126 x127 x128 x129 x130 x131 x132 x133 x134 x135 x136 x137 x138 x139 x140 x141 x142 x143 x144 x145 x146 x147 x148 x149 x150 x151 x152 x153 x154 x155 x156 x157 x158 x159 x160 x161 x162 x163 x164 x165 x166 x167 x168 x169 x170 x171 x172 x173 x174 x175 x176 x177 x178 : Value} {wx : World} {n' i' o' : Nat} {cost' : Int}, t14 = .int .i64 (n' : Int) → t15 = .int .i64 (i' : Int) → t16 = .int .i64 (o' : Int) → t17 = .int .i64 cost' → t18 = .int .i64 ((k + 1 : Nat) : Int) → WkI f ins outs l c y N n' i' o' (k + 1) nf cost' w wx → K0 { tmps := #[u0, .slice ia il ic, .slice oa ol oc, .pointer (some ⟨X, 0, none⟩), u4, u5, u6, .slice la ln lc, u8, u9, u10, u11, u12, u13, t14, t15, t16, t17, t18, x19, u20, u21, u22, u23, u24, u25, u26, u27, u28, u29, u30, u31, u32, u33, u34, u35, u36, u37, u38, u39, u40, u41, u42, u43, u44, u45, u46, u47, u48, u49, u50, u51, u52, u53, u54, u55, u56, u57, u58, u59, u60, u61, u62, u63, u64, u65, u66, u67, u68, u69, u70, u71, u72, u73, u74, u75, u76, u77, u78, u79, u80, u81, u82, u83, u84, u85, u86, u87, u88, u89, x90, x91, x92, x93, x94, x95, x96, x97, x98, x99, x100, x101, x102, x103, x104, x105, x106, x107, x108, x109, x110, x111, x112, x113, x114, x115, x116, x117, x118, x119, x120, x121, x122, x123, x124, x125, x126, x127, x128, x129, x130, x131, x132, x133, x134, x135, x136, x137, x138, x139, x140, x141, x142, x143, x144, x145, x146, x147, x148, x149, x150, x151, x152, x153, x154, x155, x156, x157, x158, x159, x160, x161, x162, x163, x164, x165, x166, x167, x168, x169, x170, x171, x172, x173, x174, x175, x176, x177, x178, u179, u180, u181, u182, u183, u184, u185, u186, u187, u188, u189, u190, u191, u192, u193, u194, u195, u196, u197, u198, u199, u200, u201, u202, u203, u204, u205, u206, u207, u208, u209, u210, u211, u212, u213, u214, u215, u216, u217, u218, u219, u220, u221], defers := [] } wx)) : cd.wp Tryz.prog (Exit.then K0 Q2) { tmps := #[u0, .slice ia il ic, .slice oa ol oc, .pointer (some ⟨X, 0, none⟩), u4, u5, u6, .slice la ln lc, u8, u9, u10, u11, u12, u13, .int .i64 n, .int .i64 i, .int .i64 o, .int .i64 cost, .int .i64 k, u19, u20, u21, u22, u23, u24, u25, u26, u27, u28, u29, u30, u31, u32, u33, u34, u35, u36, u37, u38, u39, u40, u41, u42, u43, u44, u45, u46, u47, u48, u49, u50, u51, u52, u53, u54, u55, u56, u57, u58, u59, u60, u61, u62, u63, u64, u65, u66, u67, u68, u69, u70, u71, u72, u73, u74, u75, u76, u77, u78, u79, u80, u81, u82, u83, u84, u85, u86, u87, u88, u89, u90, u91, u92, u93, u94, u95, u96, u97, u98, u99, u100, u101, u102, u103, u104, u105, u106, u107, u108, u109, u110, u111, u112, u113, u114, u115, u116, u117, u118, u119, u120, u121, u122, u123, u124, u125, u126, u127, u128, u129, u130, u131, u132, u133, u134, u135, u136, u137, u138, u139, u140, u141, u142, u143, u144, u145, u146, u147, u148, u149, u150, u151, u152, u153, u154, u155, u156, u157, u158, u159, u160, u161, u162, u163, u164, u165, u166, u167, u168, u169, u170, u171, u172, u173, u174, u175, u176, u177, u178, u179, u180, u181, u182, u183, u184, u185, u186, u187, u188, u189, u190, u191, u192, u193, u194, u195, u196, u197, u198, u199, u200, u201, u202, u203, u204, u205, u206, u207, u208, u209, u210, u211, u212, u213, u214, u215, u216, u217, u218, u219, u220, u221], defers := [] } wr := by
  by_cases hp : (f.arcs.getD (l.getD k 0).toNat a0).inp = 0
  · by_cases hq : (f.arcs.getD (l.getD k 0).toNat a0).out = 0
    · exact walk_00 hcd hR HK ⟨hp, hq⟩
    · exact walk_01 hcd hR HK ⟨hp, hq⟩
  · by_cases hq : (f.arcs.getD (l.getD k 0).toNat a0).out = 0
    · exact walk_10 hcd hR HK ⟨hp, hq⟩
    · exact walk_11 hcd hR HK ⟨hp, hq⟩

set_option maxHeartbeats 4000000 in
set_option maxRecDepth 100000 in
theorem walks_ok (f : FstD) (ins outs : List Int) (N s0 : Nat) (fa : Option Addr) (fn fc : Nat) (aa : Option Addr) (m ac : Nat) (ia : Option Addr) (il ic : Nat) (oa : Option Addr) (ol oc : Nat) (w : World) (hf : ISlice w (.slice fa fn fc) f.final) (ha : ASlice w (.slice aa m ac) f.arcs) (hal : f.arcs.length = m) (hI : ISlice w (.slice ia il ic) ins) (hil : ins.length = il) (hO : ISlice w (.slice oa ol oc) outs) (hol : outs.length = ol) (ht : TabW w) (hsh : w.ShapedOpen Tryz.prog) (h0 : checkD f = 0) (h1 : wordD ins = 0) (h2 : wordD outs = 0) (hst : f.states = N) (hsta : f.start = s0) (hok : OkW f ins outs N s0) (hlet : ∀ a ∈ f.arcs, (0 ≤ a.inp ∧ a.inp ≤ 9) ∧ (0 ≤ a.out ∧ a.out ≤ 9)) :
    Calls Tryz.prog 3 #[.agg #[.int .i64 (N : Int), .int .i64 (s0 : Int), .slice fa fn fc, .slice aa m ac], .slice ia il ic, .slice oa ol oc] w fun e w' => e = .returned (.bool true) ∧ Below w.heap.size w w' := by
  have hb0 := bel_up (bel_self w) (.cells #[.int .i64 (N : Int), .int .i64 (s0 : Int), .slice fa fn fc, .slice aa m ac] 25)
  have hcf := cellsF_new w (N : Int) (s0 : Int) (.slice fa fn fc) (.slice aa m ac) 25
  have hwk := walk_ok f ins outs N s0 _ aa m ac ia il ic oa ol oc _ (hf.below hb0) (ha.below hb0) hal h0 (hI.below hb0) hil h1 (hO.below hb0) hol h2 hst hsta hok (fun a h => ⟨(hlet a h).1.1, (hlet a h).2.1⟩)
  rw [hst, hsta] at hwk
  have hcs : chkS f ins outs = 0 := by unfold chkS; rw [if_pos h0, if_pos h1, h2]
  have HSC : Hid (∀ (x : Int), BestP f ins outs s0 x → ∀ W, Below w.heap.size w W → Calls Tryz.prog 5 #[.agg #[.int .i64 (N : Int), .int .i64 (s0 : Int), .slice fa fn fc, .slice aa m ac], .slice ia il ic, .slice oa ol oc] W fun e w' => e = .returned (.tuple #[.int .i64 x, .int .i64 0]) ∧ Below W.heap.size W w') := fun x hx W hb => by
    have := score_at f ins outs _ _ _ _ W (hf.below hb) (ha.below hb) (hI.below hb) (hO.below hb) x hcs (by rw [hsta, Int.toNat_natCast]; exact hx)
    rw [hst, hsta] at this
    exact this
  have HFB : Hid (∀ W, Below w.heap.size w W → Calls Tryz.prog 7 #[] W fun e w' => e = .returned (.bool true) ∧ Below W.heap.size W w') := fun W hb => fstBegun_any W (ht.below hb (Nat.le_refl _)) (shaped_below hsh hb)
  have HTR : Hid (∀ W, Below w.heap.size w W → Calls Tryz.prog 8 #[.agg #[.int .i64 (N : Int), .int .i64 (s0 : Int), .slice fa fn fc, .slice aa m ac]] W fun e w' => TrimRes f e w' ∧ Below W.heap.size W w') := fun W hb => by
    have := trim_any f _ _ W (hf.below hb) (ha.below hb)
    rw [hst, hsta] at this
    refine this.mono ?_
    rintro e w' ⟨h | h, hb'⟩
    · exact absurd h0 h.1
    · exact ⟨h.2, hb'⟩
  have HST : Hid (∀ t, IsTrim f t → ∀ x, BestP f ins outs s0 x → ∀ fv av W, ISlice W fv t.final → ASlice W av t.arcs → Below w.heap.size w W → Calls Tryz.prog 5 #[.agg #[.int .i64 t.states, .int .i64 t.start, fv, av], .slice ia il ic, .slice oa ol oc] W fun e w' => e = .returned (.tuple #[.int .i64 x, .int .i64 0]) ∧ Below W.heap.size W w') := fun t hT x hx fv av W hfv hav hb => by
    refine score_at t ins outs fv av _ _ W hfv hav (hI.below hb) (hO.below hb) x (by unfold chkS; rw [if_pos (trim_fine h0 hT), if_pos h1, h2]) ?_
    refine hx.of_tot (fun y => ?_)
    have := trim_tot (ins := ins) (outs := outs) h0 hT y
    rw [hsta, Int.toNat_natCast] at this
    exact this
  have HOK : Hid (OkW f ins outs N s0) := hok
  have HARC : Hid (∀ a ∈ f.arcs, (0 ≤ a.src ∧ a.src < N) ∧ (0 ≤ a.dst ∧ a.dst < N) ∧ (0 ≤ a.wt ∧ a.wt ≤ 1000000000) ∧ (0 ≤ a.inp ∧ a.inp ≤ 9) ∧ (0 ≤ a.out ∧ a.out ≤ 9)) := fun a h => ⟨(hok.arcs a h).1, (hok.arcs a h).2.1, (hok.arcs a h).2.2, hlet a h⟩
  have HME : Hid (∀ W, Below w.heap.size w W → ISlice W (.slice fa fn fc) f.final ∧ ASlice W (.slice aa m ac) f.arcs ∧ ISlice W (.slice ia il ic) ins ∧ ISlice W (.slice oa ol oc) outs) := fun W h => ⟨hf.below h, ha.below h, hI.below h, hO.below h⟩
  have HAL : Hid (f.arcs.length = m) := hal
  have HIL : Hid (ins.length = il) := hil
  have HOL : Hid (outs.length = ol) := hol
  have hN1 := hok.n1
  have hN2 := hok.n2
  have hi40 : il ≤ 40 := by have := hok.i40; omega
  have ho40 : ol ≤ 40 := by have := hok.o40; omega
  have hm3 : m ≤ 3000 := by have := hok.many; omega
  clear hf ha hI hO hil hol hal ht hsh h0 h1 h2 hst hsta hok hlet hcs
  go_enter Tryz.func3, Tryz.ntmps3
  go_wp2_with (go_at_call 4; refine hwk.mono ?_; rintro e w1 ⟨la, ln, lc, l, best, rfl, hl, hll, hbest, hnone, hway, hb1⟩; have HLL : Hid (ISlice w1 (.slice la ln lc) l ∧ l.length = ln ∧ (best = -1 → l = []) ∧ (best ≠ -1 → ∃ c y n, Inv (EdS f ins outs N) (bgS s0 (totS ins outs N)) c y ∧ LastOk f ins outs N c best n ins.length outs.length ∧ BWay f ins outs N s0 c y l.reverse n ins.length outs.length)) := ⟨hl, hll, hnone, hway⟩; have HBI : Hid (IsBest (EdS f ins outs N) (bgS s0 (totS ins outs N)) (finS (totS ins outs N) N f.final) best) := hbest; clear hl hll hbest hnone hway; have hc1 := bel_on hb0 hb1; obtain ⟨q0, q1, q2, q3⟩ := hcf.below hb1)
  have HBP : Hid (BestP f ins outs s0 best) := (best_path HOK.out).1 HBI.out
  refine (HSC.out best HBP.out w1 hc1).mono ?_
  rintro e w2 ⟨rfl, hb2⟩
  have hc2 := bel_on hc1 hb2
  have hcf2 := (hcf.below hb1).below hb2
  clear hwk q0 q1 q2 q3
  go_wp2_with (first | (go_at_call 7; refine (HFB.out w3 hc3).mono ?_; rintro e w4 ⟨rfl, hb4⟩; have hc4 := bel_on hc3 hb4; have hcf4 := hcf3.below hb4; obtain ⟨q0, q1, q2, q3⟩ := hcf4) | (go_at_call 6; refine (scoreBegun_any w2).mono ?_; rintro e w3 ⟨rfl, hb3⟩; have hc3 := bel_on hc2 hb3; have hcf3 := hcf2.below hb3))
  refine (HTR.out w4 hc4).mono ?_
  rintro e w5 ⟨⟨t, fv, av, rfl, hT, hfv, hav⟩, hb5⟩
  have HT : Hid (IsTrim f t) := hT
  obtain ⟨ta, tn, tc, rfl, _, _⟩ := hfv.lenOf
  obtain ⟨ba, bn, bc, rfl, _, _⟩ := hav.lenOf
  have hc5 := bel_on hc4 hb5
  have hcf5 := (hcf3.below hb4).below hb5
  have hu5 := bel_up (bel_self w5) (.cells #[.int .i64 t.states, .int .i64 t.start, .slice ta tn tc, .slice ba bn bc] 25)
  have hsc6 := HST.out t HT.out best HBP.out _ _ _ (hfv.below hu5) (hav.below hu5) (bel_on hc5 hu5)
  have HL6 : Hid (∀ W, Below (w5.alloc (.cells #[.int .i64 t.states, .int .i64 t.start, .slice ta tn tc, .slice ba bn bc] 25)).heap.size (w5.alloc (.cells #[.int .i64 t.states, .int .i64 t.start, .slice ta tn tc, .slice ba bn bc] 25)) W → ISlice W (.slice la ln lc) l ∧ CellsF W w.heap.size (N : Int) (s0 : Int) (.slice fa fn fc) (.slice aa m ac) ∧ Below w.heap.size w W) := fun W h => ⟨(((((HLL.out.1.below hb2).below hb3).below hb4).below hb5).below hu5).below h, (hcf5.below hu5).below h, bel_on (bel_on hc5 hu5) h⟩
  clear hT hfv hav hb1 hb2 hb3 hb4 hb5 hcf2 hcf3 hc1 hc2 hc3 hc4 hcf5 hc5 q0 q1 q2 q3 hu5 hcf hb0
  go_wp2_with (go_at_call 4; fail)
  refine hsc6.mono ?_
  rintro e w6 ⟨rfl, hb6⟩
  obtain ⟨hl6, hcf6, hc6⟩ := HL6.out w6 hb6
  clear hsc6 HL6 hb6
  by_cases hbm : best = -1
  · have hl0 := HLL.out.2.2.1 hbm
    have hln0 : ln = 0 := by rw [← HLL.out.2.1, hl0]; rfl
    subst hbm hln0
    clear hl0
    go_wp2
    go_ret
    exact ⟨rfl, hc6⟩
  · have hbb : (best == -1) = false := by simpa using hbm
    obtain ⟨c, y, nf, _, hla, hbw⟩ := HLL.out.2.2.2 hbm
    have hfg := walk_fgo hbw
    obtain ⟨k1, k2, k3, k4⟩ := walk_costs HOK.out HBI.out hla hbw
    have hln : ln ≤ 20000 := by
      have h1 := Nat.mul_le_mul hN2 (show 1 + ins.length + outs.length ≤ 81 by have := HIL.out; have := HOL.out; omega)
      have := HLL.out.2.1
      omega
    have HEND : Hid (sumA f l + gI f.final nf = best ∧ 0 ≤ gI f.final nf ∧ nf < N ∧ ln ≤ N * (1 + il + ol)) := ⟨k1, k2, k3, by rw [← HIL.out, ← HOL.out, ← HLL.out.2.1]; exact k4⟩
    have HLN : Hid (l.length = ln) := HLL.out.2.1
    have HM6 : Hid (∀ W, Below w6.heap.size w6 W → CellsF W w.heap.size (N : Int) (s0 : Int) (.slice fa fn fc) (.slice aa m ac) ∧ ASlice W (.slice aa m ac) f.arcs ∧ ISlice W (.slice ia il ic) ins ∧ ISlice W (.slice oa ol oc) outs ∧ ISlice W (.slice la ln lc) l) := fun W h => ⟨hcf6.below h, (HME.out W (bel_on hc6 h)).2.1, (HME.out W (bel_on hc6 h)).2.2.1, (HME.out W (bel_on hc6 h)).2.2.2, hl6.below h⟩
    obtain ⟨q0, q1, q2, q3⟩ := hcf6
    clear hla hbw k1 k2 k3 k4 hbm hl6 HLL HBI
    go_wp2
    clear q0 q1 q2 q3
    go_loopw [14, 15, 16, 17, 18] (fun t14 t15 t16 t17 t18 wx => ∃ (k n i o : Nat) (cost : Int), k ≤ ln ∧ t14 = .int .i64 n ∧ t15 = .int .i64 i ∧ t16 = .int .i64 o ∧ t17 = .int .i64 cost ∧ t18 = .int .i64 k ∧ WkI f ins outs l c y N n i o k nf cost w6 wx) (fun _ _ _ _ t18 _ => ln - (intOf t18).toNat)
    case atStart => exact ⟨0, s0, 0, 0, 0, Nat.zero_le _, rfl, rfl, rfl, rfl, rfl, ⟨hfg, rfl, HOK.out.s, Nat.zero_le _, Nat.zero_le _, bel_self _⟩⟩
    case round =>
      clear hfg
      obtain ⟨k, n, i, o, cost, hk, rfl, rfl, rfl, rfl, rfl, hI⟩ := hrel
      by_cases hlt : k < ln
      · have hR : WkR f ins outs l c y N (N : Int) (s0 : Int) (.slice fa fn fc) aa m ac ia il ic oa ol oc la ln lc w.heap.size n i o k nf cost w6 wr := ⟨HARC.out, HAL.out, HIL.out, HOL.out, HLN.out, hN2, hi40, ho40, hm3, hln, hlt, HM6.out, hI⟩
        refine walk_round (by kernel_rfl) hR ?_
        intros
        rename_i wx n' i' o' cost' h14 h15 h16 h17 h18 hI'
        subst h14 h15 h16 h17 h18
        go_roundw
        case rel => first | exact ⟨_, _, _, _, _, _, _, _, _, _, _, _, _, _, _, _, _, _, _, _, _, _, _, _, _, _, _, _, _, _, _, _, _, _, _, _, _, _, _, _, _, _, _, _, _, _, _, _, _, _, _, _, _, _, _, _, _, _, _, _, _, _, _, _, _, _, _, _, _, _, _, _, _, _, _, _, _, _, _, _, _, _, _, _, _, _, _, _, _, _, _, _, _, _, _, ⟨k + 1, n', i', o', cost', by omega, rfl, rfl, rfl, rfl, rfl, hI'⟩, rfl⟩ | exact ⟨_, _, _, _, _, _, _, _, _, _, _, _, _, _, _, _, _, _, _, _, _, _, _, _, _, _, _, _, _, _, _, _, _, _, _, _, _, _, _, _, _, _, _, _, _, _, _, _, _, _, _, _, _, _, _, _, _, _, _, _, _, _, _, _, _, _, _, _, _, _, _, _, _, _, _, _, _, _, _, _, _, _, _, _, _, _, _, _, _, _, _, _, _, _, _, _, ⟨k + 1, n', i', o', cost', by omega, rfl, rfl, rfl, rfl, rfl, hI'⟩, rfl⟩ | exact ⟨_, _, _, _, _, _, _, _, _, _, _, _, _, _, _, _, _, _, _, _, _, _, _, _, _, _, _, _, _, _, _, _, _, _, _, _, _, _, _, _, _, _, _, _, _, _, _, _, _, _, _, _, _, _, _, _, _, _, _, _, _, _, _, _, _, _, _, _, _, _, _, _, _, _, _, _, _, _, _, _, _, _, _, _, _, _, _, _, _, _, ⟨k + 1, n', i', o', cost', by omega, rfl, rfl, rfl, rfl, rfl, hI'⟩, rfl⟩
        case measure => simp [intOf]; omega
      · have hke : k = ln := by omega
        have hgo := hI.go
        rw [List.drop_of_length_le (by have := HLN.out; omega)] at hgo
        obtain ⟨g1, g2, g3⟩ := hgo
        have hcs : cost = sumA f l := by
          have := hI.cost
          rw [List.take_of_length_le (by have := HLN.out; omega)] at this
          exact this
        have hbel := hI.bel
        obtain ⟨e1, e2, e3, e4⟩ := HEND.out
        rw [HIL.out] at g2
        rw [HOL.out] at g3
        obtain ⟨v, hv⟩ : ∃ v, v = gI f.final nf := ⟨_, rfl⟩
        rw [← hv, ← hcs] at e1
        rw [← hv] at e2
        have hfl : fn = N := by
          obtain ⟨_, _, _, he, hl, _⟩ := (HME.out w6 hc6).1.lenOf
          injection he with h1 h2 h3
          rw [h2, ← hl, HOK.out.len]
        obtain ⟨fb, fo, rfl, hfx⟩ := (HME.out _ (bel_on hc6 hbel)).1.some (by omega)
        have d0 := hfx.cell nf (by omega)
        have e5 : f.final.getD nf 0 = v := by
          have := HOK.out.len
          rw [hv]
          unfold gI
          simp [List.getD, show nf < f.final.length by omega]
        rw [e5] at d0
        obtain ⟨q0, q1, q2, q3⟩ := (HM6.out _ hbel).1
        subst g1 g2 g3 hfl
        have hsb := sumA_bound (fun a ha => (HARC.out a ha).2.2.1) l
        rw [← hcs] at hsb
        have hvh : v ≤ 1000000000 := by
          have hl := HOK.out.len
          have hnl : n < f.final.length := by omega
          have hvm : v ∈ f.final := by rw [← e5]; simp [List.getD, hnl]
          rcases HOK.out.fin _ hvm with h | h <;> omega
        have hlen2 := HLN.out
        have hnl : ¬ ((k : Int) < ln) := by omega
        have hcw : IntKind.i64.wrap (cost + v) = best := by rw [e1]; exact wrap_in _ (by omega) (by omega)
        have hvb : (v != -1) = true := by rw [bne_iff_ne]; omega
        have hm1 : IntKind.i64.wrap (1 + (i : Int)) = 1 + i := wrap_in _ (by omega) (by omega)
        have hm2 : IntKind.i64.wrap (1 + (i : Int) + o) = 1 + i + o := wrap_in _ (by omega) (by omega)
        have hmu : (fn : Int) * (1 + i + o) = ((fn * (1 + i + o) : Nat) : Int) := by push_cast; rfl
        have hmb := Nat.mul_le_mul hN2 (show 1 + i + o ≤ 81 by omega)
        have hm4 : IntKind.i64.wrap ((fn : Int) * (1 + i + o)) = ((fn * (1 + i + o) : Nat) : Int) := by rw [hmu]; exact wrap_in _ (by omega) (by omega)
        have hle : (ln : Int) ≤ ((fn * (1 + i + o) : Nat) : Int) := by omega
        have hle2 : (ln : Int) ≤ (fn : Int) * (1 + (i : Int) + (o : Int)) := by rw [hmu]; exact hle
        have hni : (n : Int) < fn := by omega
        have hbF := bel_on hc6 hbel
        have HFIN : Hid (Below w.heap.size w wr) := hbF
        clear hI hke hcs hbel e1 e2 e3 e4 e5 hv hfx hsb hvh hlen2 hmu hmb hbF hln
        go_wp2
        go_ret
        exact ⟨rfl, HFIN.out⟩

theorem scoreWalks_any (f : FstD) (ins outs : List Int) (fin arcs iv ov : Value) (w : World) (hf : ISlice w fin f.final) (ha : ASlice w arcs f.arcs) (hI : ISlice w iv ins) (hO : ISlice w ov outs) (ht : TabW w) (hsh : w.ShapedOpen Tryz.prog) :
    Calls Tryz.prog 3 #[.agg #[.int .i64 f.states, .int .i64 f.start, fin, arcs], iv, ov] w fun e w' => e = .returned (.bool true) ∧ Below w.heap.size w w' := by
  obtain ⟨fa, fn, fc, rfl, _, _⟩ := hf.lenOf
  obtain ⟨aa, m, ac, rfl, hal, _⟩ := ha.lenOf
  obtain ⟨ia, il, ic, rfl, hil, _⟩ := hI.lenOf
  obtain ⟨oa, ol, oc, rfl, hol, _⟩ := hO.lenOf
  by_cases h : chkS f ins outs = 0
  · obtain ⟨h0, h1, h2⟩ := chkS_ok h
    obtain ⟨N, s0, e1, e2, hok, _⟩ := okW h0 h1 h2
    rw [e1, e2]
    refine walks_ok f ins outs N s0 fa fn fc aa m ac ia il ic oa ol oc w hf ha hal hI hil hO hol ht hsh h0 h1 h2 e1 e2 hok (fun a hm => ?_)
    have q := (check_ok f h0).arcs a hm
    have e0 := q.inp
    have e1 := q.out
    simp [inB] at e0 e1
    exact ⟨⟨e0.1, by omega⟩, ⟨e1.1, by omega⟩⟩
  · exact walks_err f ins outs fa fn fc aa m ac ia il ic oa ol oc w hf ha hI hil hO hol ht hsh _ rfl h
end Go.Proofs.YteehgcbjmdideaaGreatDoor.Sc
