/- One round of the loop of 'Costs' over arcs that say something. -/
import Derived.Test.YteehgcbjmdideaaQCoA
import Derived.Test.YteehgcbjmdideaaQCoB
import Derived.Test.YteehgcbjmdideaaQCoC
import Derived.Test.YteehgcbjmdideaaQCoD
import Derived.Test.YteehgcbjmdideaaQCoE
import Derived.Test.YteehgcbjmdideaaQCoI
namespace Go.Proofs.Yteehgcbjmdideaa
open Go.RowKit

theorem loud_round {f : FstD} {ins outs : List Int} {k s0 : Nat} {fin : Value} {aa : Option Addr} {m ac : Nat} {ia : Option Addr} {il ic : Nat} {oa : Option Addr} {ol oc : Nat} {w wr : World} {g h hc : Nat → Nat} {c : List Int} {i o R j : Nat} {u0 u1 u5 u6 u7 u8 u9 u11 u14 u16 u17 u18 u19 u20 u21 u22 u23 u24 u25 u26 u27 u28 u29 u30 u31 u32 u33 u34 u35 u36 u37 u38 u39 u40 u41 u42 u43 u44 u45 u46 u47 u48 u49 u50 u51 u52 u53 u54 u55 u56 u57 u58 u59 u60 u61 u62 u63 u64 u65 u66 u67 u68 u69 u70 u71 u72 u73 u74 u75 u76 u77 u78 u79 u80 u81 u82 u83 u84 u85 u86 u87 u88 u89 u90 u91 u92 u93 u94 u95 u96 u97 u98 u99 u100 u101 u102 u103 u104 u105 u106 u107 u108 u109 u110 u111 u112 u113 u114 u115 u116 u117 u118 u119 u120 u121 u122 u123 u124 u125 u126 u127 u128 u129 u130 u131 u132 u133 u134 u135 u136 u137 u138 u139 u140 u141 u142 u143 u144 u145 u146 u147 u148 u149 u150 u151 u152 u153 u154 u155 u156 u157 u158 u159 u160 u161 u162 u163 u164 u165 u166 u167 u168 u169 u170 u171 u172 u173 u174 u175 u176 u177 u178 u179 u180 u181 u182 u183 u184 u185 u186 u187 u188 u189 u190 u191 u192 u193 u194 u195 u196 u197 u198 u199 u200 u201 u202 u203 u204 u205 u206 u207 u208 u209 u210 u211 u212 u213 u214 u215 u216 u217 u218 : Value}
    {cd : Code} {K0 : Act → World → Prop} {Q2 : Exit → Act → World → Prop} (hcd : cd = (loopsOf (Try.f52.body.getD .skip)).getD 3 .skip) (hL4 : L4 f ins outs k s0 fin aa m ac ia il ic oa ol oc w wr g h hc c i o R j u9 u11)
    (HK : (∀ {t15 x16 x17 x18 x19 x61 x62 x63 x64 x65 x66 x67 x68 x69 x70 x71 x72 x73 x74 x75 x76 x77 x78 x79 x80 x81 x82 x83 x84 x85 x86 x87 x88 x89 x90 x91 x92 x93 x94 x95 x96 x97 x98 x99 x100 x101 x102 x103 x104 x105 x106 x107 x108 x109 x110 x111 x112 x113 x114 x115 x116 x117 x118 x119 x120 x121 x122 x123 x124 x125 x126 x127 x128 x129 x130 x131 x132 x133 x134 x135 x136 x137 x138 x139 x140 x141 x142 x143 x144 x145 x146 x147 x148 x149 x150 x151 x152 x153 x154 x155 x156 x157 x158 x159 x160 x161 x162 : Value} {wx : World} {c' : List Int}, t15 = .int .i64 ((j + 1 : Nat) : Int) → TB w wx k ol (s0 : Int) fin (.slice aa m ac) g h hc c' i o u9 u11 → NumsAt wx R k (segL c' k (i * (ol + 1) + o)) → PSt f ins outs k s0 i o c' → loudOk f ins outs k i o c' (j + 1) → K0 { tmps := #[u0, u1, .slice ia il ic, .slice oa ol oc, .pointer (some ⟨w.heap.size, 0, none⟩), u5, u6, u7, u8, u9, .int .i64 i, u11, .int .i64 o, .slice (some ⟨R, 0, none⟩) k k, u14, t15, x16, x17, x18, x19, u20, u21, u22, u23, u24, u25, u26, u27, u28, u29, u30, u31, u32, u33, u34, u35, u36, u37, u38, u39, u40, u41, u42, u43, u44, u45, u46, u47, u48, u49, u50, u51, u52, u53, u54, u55, u56, u57, u58, u59, u60, x61, x62, x63, x64, x65, x66, x67, x68, x69, x70, x71, x72, x73, x74, x75, x76, x77, x78, x79, x80, x81, x82, x83, x84, x85, x86, x87, x88, x89, x90, x91, x92, x93, x94, x95, x96, x97, x98, x99, x100, x101, x102, x103, x104, x105, x106, x107, x108, x109, x110, x111, x112, x113, x114, x115, x116, x117, x118, x119, x120, x121, x122, x123, x124, x125, x126, x127, x128, x129, x130, x131, x132, x133, x134, x135, x136, x137, x138, x139, x140, x141, x142, x143, x144, x145, x146, x147, x148, x149, x150, x151, x152, x153, x154, x155, x156, x157, x158, x159, x160, x161, x162, u163, u164, u165, u166, u167, u168, u169, u170, u171, u172, u173, u174, u175, u176, u177, u178, u179, u180, u181, u182, u183, u184, u185, u186, u187, u188, u189, u190, u191, u192, u193, u194, u195, u196, u197, u198, u199, u200, u201, u202, u203, u204, u205, u206, u207, u208, u209, u210, u211, u212, u213, u214, u215, u216, u217, u218], defers := [] } wx)) : cd.wp Try.prog (Exit.then K0 Q2) { tmps := #[u0, u1, .slice ia il ic, .slice oa ol oc, .pointer (some ⟨w.heap.size, 0, none⟩), u5, u6, u7, u8, u9, .int .i64 i, u11, .int .i64 o, .slice (some ⟨R, 0, none⟩) k k, u14, .int .i64 j, u16, u17, u18, u19, u20, u21, u22, u23, u24, u25, u26, u27, u28, u29, u30, u31, u32, u33, u34, u35, u36, u37, u38, u39, u40, u41, u42, u43, u44, u45, u46, u47, u48, u49, u50, u51, u52, u53, u54, u55, u56, u57, u58, u59, u60, u61, u62, u63, u64, u65, u66, u67, u68, u69, u70, u71, u72, u73, u74, u75, u76, u77, u78, u79, u80, u81, u82, u83, u84, u85, u86, u87, u88, u89, u90, u91, u92, u93, u94, u95, u96, u97, u98, u99, u100, u101, u102, u103, u104, u105, u106, u107, u108, u109, u110, u111, u112, u113, u114, u115, u116, u117, u118, u119, u120, u121, u122, u123, u124, u125, u126, u127, u128, u129, u130, u131, u132, u133, u134, u135, u136, u137, u138, u139, u140, u141, u142, u143, u144, u145, u146, u147, u148, u149, u150, u151, u152, u153, u154, u155, u156, u157, u158, u159, u160, u161, u162, u163, u164, u165, u166, u167, u168, u169, u170, u171, u172, u173, u174, u175, u176, u177, u178, u179, u180, u181, u182, u183, u184, u185, u186, u187, u188, u189, u190, u191, u192, u193, u194, u195, u196, u197, u198, u199, u200, u201, u202, u203, u204, u205, u206, u207, u208, u209, u210, u211, u212, u213, u214, u215, u216, u217, u218], defers := [] } wr := by
  by_cases hp : (f.arcs.getD j a0).inp = 0
  · by_cases hq : (f.arcs.getD j a0).out = 0
    · exact loud_1 hcd hL4 HK ⟨hp, hq⟩
    · by_cases ho : o = 0
      · exact loud_2 hcd hL4 HK ⟨hp, hq, ho⟩
      · by_cases hv : outs.getD (o - 1) 0 = (f.arcs.getD j a0).out
        · exact loud_3 hcd hL4 HK ⟨hp, hq, ho, hv⟩
        · exact loud_4 hcd hL4 HK ⟨hp, hq, ho, hv⟩
  · by_cases hi : i = 0
    · by_cases hq : (f.arcs.getD j a0).out = 0
      · exact loud_5 hcd hL4 HK ⟨hp, hi, hq⟩
      · exact loud_6 hcd hL4 HK ⟨hp, hi, hq⟩
    · by_cases hv : ins.getD (i - 1) 0 = (f.arcs.getD j a0).inp
      · by_cases hq : (f.arcs.getD j a0).out = 0
        · exact loud_7 hcd hL4 HK ⟨hp, hi, hv, hq⟩
        · by_cases ho : o = 0
          · exact loud_8 hcd hL4 HK ⟨hp, hi, hv, hq, ho⟩
          · by_cases hvo : outs.getD (o - 1) 0 = (f.arcs.getD j a0).out
            · exact loud_9 hcd hL4 HK ⟨hp, hi, hv, hq, ho, hvo⟩
            · exact loud_10 hcd hL4 HK ⟨hp, hi, hv, hq, ho, hvo⟩
      · by_cases hq : (f.arcs.getD j a0).out = 0
        · exact loud_11 hcd hL4 HK ⟨hp, hi, hv, hq⟩
        · by_cases ho : o = 0
          · exact loud_12 hcd hL4 HK ⟨hp, hi, hv, hq, ho⟩
          · exact loud_13 hcd hL4 HK ⟨hp, hi, hv, hq, ho⟩
end Go.Proofs.Yteehgcbjmdideaa
