/- 'Alike' of the document: do two beginnings go on alike,but for what one costs more? (Made by wip/gen/wvc.py.) -/
import Derived.Test.YteehgcbjmdideabVM28
import Derived.Test.YteehgcbjmdideabVM13
import Derived.Test.YteehgcbjmdideabVM09
set_option maxRecDepth 100000
namespace Go.Proofs.Yteehgcbjmdideab
open Go.RowKit
attribute [local go_sem ↓] Go.wp_at_zero Go.wp_at_succ
def AlikeP (t : FstD) (s0 : Nat) (u : List Int) (t2 : FstD) (s02 : Nat) (u2 : List Int) (x y : Int) : Prop :=
 ∀ s a b,MinP (EndP t s0 (s ++ u)) a -> MinP (EndP t2 s02 (s ++ u2)) b -> (a < 0 ↔ b < 0) /\ (0 <= a -> a - x = b - y)
theorem minP_exists {t : FstD} {N s0 : Nat} (hi : SubIn t N s0) (u : List Int) : ∃ a,MinP (EndP t s0 u) a:=by
 by_cases h : ∃ y,EndP t s0 u y
 ·obtain ⟨x,h1,h2⟩:=least_of (fun y => EndP t s0 u y) (fun y hy => by
   obtain ⟨n,z,hr,h0,rfl⟩:=hy
   have:=hr.nonneg hi.wide
   omega) h
  refine ⟨x,Or.inr ⟨?_,h1,h2⟩⟩
  obtain ⟨n,z,hr,h0,rfl⟩:=h1
  have:=hr.nonneg hi.wide
  omega
 ·exact ⟨-1,Or.inl ⟨rfl,fun y hy => h ⟨y,hy⟩⟩⟩
def LiveW (t : FstD) (s0 : Nat) : Prop:=∀ c u,Alive t s0 (c :: u) -> ∃ y,ToW t s0 (c :: u) y
section
variable {t t2 : FstD} {N N2 s0 s02 : Nat} {u u2 : List Int} {x y : Int}
theorem AlikeP.end {p q : Int} (h : AlikeP t s0 u t2 s02 u2 x y) (hp : MinP (EndP t s0 u) p) (hq : MinP (EndP t2 s02 u2) q) : (p < 0 ↔ q < 0) /\ (0 <= p -> p - x = q - y):=h [] p q hp hq
theorem AlikeP.on (h : AlikeP t s0 u t2 s02 u2 x y) (c : Int) : AlikeP t s0 (c :: u) t2 s02 (c :: u2) x y:=fun s a b ha hb => h (s ++ [c]) a b (by rw [List.append_assoc]; exact ha) (by rw [List.append_assoc]; exact hb)
theorem AlikeP.alive (h : AlikeP t s0 u t2 s02 u2 x y) (h1 : SubIn t N s0) (h2 : SubIn t2 N2 s02) (hl : LiveW t s0) {c : Int} (ha : Alive t s0 (c :: u)) : Alive t2 s02 (c :: u2):=by
 obtain ⟨z,v,hv⟩:=hl c u ha
 obtain ⟨a,ham⟩:=minP_exists h1 (v ++ c :: u)
 obtain ⟨b,hbm⟩:=minP_exists h2 (v ++ c :: u2)
 have ha0 : 0 <= a:=by
  rcases ham with ⟨_,h3⟩ | ⟨h3,_⟩
  ·exact absurd hv (h3 z)
  ·exact h3
 have hb0 : 0 <= b:=by
  have:=((h.on c) v a b ham hbm).1
  omega
 rcases hbm with ⟨e,_⟩ | ⟨_,h3,_⟩
 ·omega
 ·exact tow_alive ⟨v,h3⟩
theorem AlikeP.symm (h : AlikeP t s0 u t2 s02 u2 x y) : AlikeP t2 s02 u2 t s0 u y x:=fun s a b ha hb => by
 have h1:=h s b a hb ha
 exact ⟨h1.1.symm,fun h0 => by have:=h1.2 (by omega); omega⟩
theorem alike_mk (h1 : SubIn t N s0) (h2 : SubIn t2 N2 s02) {p q : Int} (hp : MinP (EndP t s0 u) p) (hq : MinP (EndP t2 s02 u2) q) (he : (p < 0 ↔ q < 0) /\ (0 <= p -> p - x = q - y))
  (hc : ∀ c : Nat,1 <= c -> c <= 9 -> (¬ Alive t s0 ((c : Int) :: u) /\ ¬ Alive t2 s02 ((c : Int) :: u2)) \/ AlikeP t s0 ((c : Int) :: u) t2 s02 ((c : Int) :: u2) x y) : AlikeP t s0 u t2 s02 u2 x y:=by
 intro s a b ha hb
 by_cases hs : s = []
 ·subst hs
  rw [MinP.unique ha hp,MinP.unique hb hq]
  exact he
 ·have e1 : ∀ l : List Int,s ++ l = s.dropLast ++ (s.getLast hs :: l):=fun l => by
   rw [show s.dropLast ++ s.getLast hs :: l = (s.dropLast ++ [s.getLast hs]) ++ l by simp,List.dropLast_concat_getLast hs]
  rw [e1] at ha hb
  have dead : ∀ {t : FstD} {s0 : Nat} {u : List Int} {a : Int},¬ Alive t s0 (s.getLast hs :: u) -> MinP (EndP t s0 (s.dropLast ++ s.getLast hs :: u)) a -> a = -1:=fun hn hm => by
   rcases hm with ⟨e,_⟩ | ⟨_,h3,_⟩
   ·exact e
   ·exact absurd (tow_alive ⟨_,h3⟩) hn
  by_cases hd : Alive t s0 (s.getLast hs :: u) \/ Alive t2 s02 (s.getLast hs :: u2)
  ·obtain ⟨c,ec,c1,c9⟩ : ∃ c : Nat,s.getLast hs = (c : Int) /\ 1 <= c /\ c <= 9:=hd.elim (alive_letter h1) (alive_letter h2)
   rw [ec] at ha hb hd
   rcases hc c c1 c9 with ⟨n1,n2⟩ | h
   ·exact absurd hd (fun h => h.elim n1 n2)
   ·exact h _ a b ha hb
  ·have ea:=dead (fun h => hd (Or.inl h)) ha
   have eb:=dead (fun h => hd (Or.inr h)) hb
   omega
end
theorem minEnd_bound {t : FstD} {N s0 i : Nat} {V u : List Int} {p : Int} (hi : SubIn t N s0) (hE : Enc t s0 N V 0 u) (hb : ∀ s,gI V s <= (i : Int) * 1000000000) (hi2 : i <= 201) (h : MinP (EndP t s0 u) p) : -1 <= p /\ p <= 300000000000:=by
 rcases h with ⟨e,_⟩ | ⟨h0,⟨n,z,hr,h1,e⟩,h2⟩
 ·omega
 ·have hn:=hr.lt hi.wide hi.hs
  have hV : 0 <= gI V n:=by
   rcases hE.2.2 n hn with ⟨_,h3⟩ | ⟨h3,_⟩
   ·exact absurd hr (h3 z)
   ·by_cases e1 : gI V n = -1
    ·rw [if_pos e1] at h3; omega
    ·rcases hE.2.1 n with h4 | h4
     ·exact absurd h4 e1
     ·exact h4
  have hl:=hE.live hn (by omega)
  have h3:=h2 _ ⟨n,_,hl,h1,rfl⟩
  have h4:=hb n
  have h5:=hi.fin _ (gI_mem (c:=t.final) (s:=n) (by rw [hi.flen]; exact hn))
  omega
set_option maxHeartbeats 6400000 in
theorem alike_any (t t2 : FstD) (N s0 N2 s02 : Nat) (fin arcs cv pv lv fin2 arcs2 cv2 pv2 lv2 : Value) (ws cs ws2 cs2 : List (List Int)) (ps ls ps2 ls2 : List Int) (hT : Whole t N s0 ws cs ps ls) (hT2 : Whole t2 N2 s02 ws2 cs2 ps2 ls2) (hlv : LiveW t s0) (hlv2 : LiveW t2 s02) (x y : Int) (hx : -10000000000000 <= x /\ x <= 10000000000000) (hy : -10000000000000 <= y /\ y <= 10000000000000) :
  ∀ (d i k : Nat) (u u2 : List Int) (w : World),ps.length - i < d -> ws[i]? = some u -> ws2[k]? = some u2 -> WV w t N fin arcs cv pv lv cs ps ls -> WV w t2 N2 fin2 arcs2 cv2 pv2 lv2 cs2 ps2 ls2 ->
  Calls Try.prog 49 #[.agg #[.int .i64 (N : Int),.int .i64 (s0 : Int),fin,arcs,cv,pv,lv],.int .i64 (i : Int),.agg #[.int .i64 (N2 : Int),.int .i64 (s02 : Int),fin2,arcs2,cv2,pv2,lv2],.int .i64 (k : Int),.int .i64 x,.int .i64 y] w fun e w' => ∃ b,e = .returned (.bool b) /\ (b = true ↔ AlikeP t s0 u t2 s02 u2 x y) /\ Below w.heap.size w w':=by
 intro d
 induction d with
 | zero => intro i k u u2 w h; omega
 | succ d ih =>
  intro i k u u2 w hd hu hu2 h h2
  obtain ⟨V,hV,hVl,hE,hVb⟩:=hT.tree.enc i u hu
  obtain ⟨V2,hV2,hVl2,hE2,hVb2⟩:=hT2.tree.enc k u2 hu2
  have hil:=(List.getElem?_eq_some_iff.1 hu).1
  have hkl:=(List.getElem?_eq_some_iff.1 hu2).1
  have f1:=hT.few
  have f2:=hT2.few
  have hmin:=end_min hE hT.sin.wide hT.sin.hs
  have hmin2:=end_min hE2 hT2.sin.wide hT2.sin.hs
  have HE1 : Hid (∀ W,Below w.heap.size w W -> Calls Try.prog 50 #[.agg #[.int .i64 (N : Int),.int .i64 (s0 : Int),fin,arcs,cv,pv,lv],.int .i64 (i : Int)] W fun e w' => e = .returned (.int .i64 (endD V t.final N)) /\ Below W.heap.size W w'):=fun W hW => wend_any t N s0 fin arcs cv pv lv cs ps ls i V W (h.below hW) hT.sin hV (fun s => by have:=hVb s; omega)
  have HE2 : Hid (∀ W,Below w.heap.size w W -> Calls Try.prog 50 #[.agg #[.int .i64 (N2 : Int),.int .i64 (s02 : Int),fin2,arcs2,cv2,pv2,lv2],.int .i64 (k : Int)] W fun e w' => e = .returned (.int .i64 (endD V2 t2.final N2)) /\ Below W.heap.size W w'):=fun W hW => wend_any t2 N2 s02 fin2 arcs2 cv2 pv2 lv2 cs2 ps2 ls2 k V2 W (h2.below hW) hT2.sin hV2 (fun s => by have:=hVb2 s; omega)
  have HO1 : Hid (∀ (c : Nat) (W : World),Below w.heap.size w W -> Calls Try.prog 51 #[.agg #[.int .i64 (N : Int),.int .i64 (s0 : Int),fin,arcs,cv,pv,lv],.int .i64 (i : Int),.int .i64 (c : Int)] W fun e w' => ∃ r,e = .returned (.int .i64 r) /\ OnP ps ls i c r /\ Below W.heap.size W w'):=fun c W hW => on_any t N s0 fin arcs cv pv lv cs ps ls i c W (h.below hW) (by rw [hT.tree.l3,hT.tree.l2]) (by rw [hT.tree.l2]; omega) (by rw [hT.tree.l2]; exact hil)
  have HO2 : Hid (∀ (c : Nat) (W : World),Below w.heap.size w W -> Calls Try.prog 51 #[.agg #[.int .i64 (N2 : Int),.int .i64 (s02 : Int),fin2,arcs2,cv2,pv2,lv2],.int .i64 (k : Int),.int .i64 (c : Int)] W fun e w' => ∃ r,e = .returned (.int .i64 r) /\ OnP ps2 ls2 k c r /\ Below W.heap.size W w'):=fun c W hW => on_any t2 N2 s02 fin2 arcs2 cv2 pv2 lv2 cs2 ps2 ls2 k c W (h2.below hW) (by rw [hT2.tree.l3,hT2.tree.l2]) (by rw [hT2.tree.l2]; omega) (by rw [hT2.tree.l2]; exact hkl)
  have HRE : Hid (∀ (a b : Nat) (v v2 : List Int) (W : World),i < a -> a < ps.length -> ws[a]? = some v -> ws2[b]? = some v2 -> Below w.heap.size w W -> Calls Try.prog 49 #[.agg #[.int .i64 (N : Int),.int .i64 (s0 : Int),fin,arcs,cv,pv,lv],.int .i64 (a : Int),.agg #[.int .i64 (N2 : Int),.int .i64 (s02 : Int),fin2,arcs2,cv2,pv2,lv2],.int .i64 (b : Int),.int .i64 x,.int .i64 y] W fun e w' => ∃ b,e = .returned (.bool b) /\ (b = true ↔ AlikeP t s0 v t2 s02 v2 x y) /\ Below W.heap.size W w'):=fun a b v v2 W h3 h4 h5 h6 hW => ih a b v v2 W (by omega) h5 h6 (h.below hW) (h2.below hW)
  have HT:=hid_of (And.intro hT hT2)
  have HU:=hid_of (And.intro hu hu2)
  have HLV:=hid_of (And.intro hlv hlv2)
  obtain ⟨gP,kP,rfl,_⟩:=h.P
  obtain ⟨gL,kL,rfl,_⟩:=h.L
  obtain ⟨gC,kC,rfl,_⟩:=h.C
  obtain ⟨fa,fn,fc,rfl,_,_⟩:=h.fin.lenOf
  obtain ⟨aa,m,ac,rfl,_,_⟩:=h.arcs.lenOf
  obtain ⟨gP2,kP2,rfl,_⟩:=h2.P
  obtain ⟨gL2,kL2,rfl,_⟩:=h2.L
  obtain ⟨gC2,kC2,rfl,_⟩:=h2.C
  obtain ⟨fa2,fn2,fc2,rfl,_,_⟩:=h2.fin.lenOf
  obtain ⟨aa2,m2,ac2,rfl,_,_⟩:=h2.arcs.lenOf
  obtain ⟨p,hp⟩ : ∃ b,b = endD V t.final N:=⟨_,rfl⟩
  obtain ⟨q,hq⟩ : ∃ b,b = endD V2 t2.final N2:=⟨_,rfl⟩
  rw [<- hp] at HE1 hmin
  rw [<- hq] at HE2 hmin2
  have HMN:=hid_of (And.intro hmin hmin2)
  have hpb : -1 <= p /\ p <= 300000000000:=minEnd_bound hT.sin hE hVb (by omega) hmin
  have hqb : -1 <= q /\ q <= 300000000000:=minEnd_bound hT2.sin hE2 hVb2 (by omega) hmin2
  obtain ⟨A,hA⟩ : ∃ W,W = ((w.alloc (.cells #[.int .i64 (N : Int),.int .i64 (s0 : Int),.slice fa fn fc,.slice aa m ac,.slice (some ⟨gC,0,none⟩) cs.length kC,.slice (some ⟨gP,0,none⟩) ps.length kP,.slice (some ⟨gL,0,none⟩) ls.length kL] 33)).alloc (.cells #[.int .i64 (N2 : Int),.int .i64 (s02 : Int),.slice fa2 fn2 fc2,.slice aa2 m2 ac2,.slice (some ⟨gC2,0,none⟩) cs2.length kC2,.slice (some ⟨gP2,0,none⟩) ps2.length kP2,.slice (some ⟨gL2,0,none⟩) ls2.length kL2] 33)).drew:=⟨_,rfl⟩
  have hbA : Below w.heap.size w A:=by rw [hA]; exact (bel_up (bel_up (bel_self w) _) _).drew
  have hS0 : (fun wx : World => wx.cell? ⟨w.heap.size,0,none⟩ = some (.int .i64 (N : Int)) /\ wx.cell? ⟨w.heap.size,1,none⟩ = some (.int .i64 (s0 : Int)) /\ wx.cell? ⟨w.heap.size,2,none⟩ = some (.slice fa fn fc) /\ wx.cell? ⟨w.heap.size,3,none⟩ = some (.slice aa m ac) /\ wx.cell? ⟨w.heap.size,4,none⟩ = some (.slice (some ⟨gC,0,none⟩) cs.length kC) /\ wx.cell? ⟨w.heap.size,5,none⟩ = some (.slice (some ⟨gP,0,none⟩) ps.length kP) /\ wx.cell? ⟨w.heap.size,6,none⟩ = some (.slice (some ⟨gL,0,none⟩) ls.length kL) /\ wx.cell? ⟨w.heap.size + 1,0,none⟩ = some (.int .i64 (N2 : Int)) /\ wx.cell? ⟨w.heap.size + 1,1,none⟩ = some (.int .i64 (s02 : Int)) /\ wx.cell? ⟨w.heap.size + 1,2,none⟩ = some (.slice fa2 fn2 fc2) /\ wx.cell? ⟨w.heap.size + 1,3,none⟩ = some (.slice aa2 m2 ac2) /\ wx.cell? ⟨w.heap.size + 1,4,none⟩ = some (.slice (some ⟨gC2,0,none⟩) cs2.length kC2) /\ wx.cell? ⟨w.heap.size + 1,5,none⟩ = some (.slice (some ⟨gP2,0,none⟩) ps2.length kP2) /\ wx.cell? ⟨w.heap.size + 1,6,none⟩ = some (.slice (some ⟨gL2,0,none⟩) ls2.length kL2)) A:=by
   have n1 : ∀ (j : Nat) (v : Value),(#[.int .i64 (N : Int),.int .i64 (s0 : Int),.slice fa fn fc,.slice aa m ac,.slice (some ⟨gC,0,none⟩) cs.length kC,.slice (some ⟨gP,0,none⟩) ps.length kP,.slice (some ⟨gL,0,none⟩) ls.length kL] : Array Value)[j]? = some v -> A.cell? ⟨w.heap.size,j,none⟩ = some v:=fun j v hj => by rw [hA]; exact drew_cell (bel_c (bel_up (bel_self _) _) (new_cell _ _ _ _ j _ rfl hj))
   have n2 : ∀ (j : Nat) (v : Value),(#[.int .i64 (N2 : Int),.int .i64 (s02 : Int),.slice fa2 fn2 fc2,.slice aa2 m2 ac2,.slice (some ⟨gC2,0,none⟩) cs2.length kC2,.slice (some ⟨gP2,0,none⟩) ps2.length kP2,.slice (some ⟨gL2,0,none⟩) ls2.length kL2] : Array Value)[j]? = some v -> A.cell? ⟨w.heap.size + 1,j,none⟩ = some v:=fun j v hj => by rw [hA]; exact drew_cell (new_cell _ _ _ _ j _ (by rw [one_size]) hj)
   exact ⟨n1 0 _ rfl,n1 1 _ rfl,n1 2 _ rfl,n1 3 _ rfl,n1 4 _ rfl,n1 5 _ rfl,n1 6 _ rfl,n2 0 _ rfl,n2 1 _ rfl,n2 2 _ rfl,n2 3 _ rfl,n2 4 _ rfl,n2 5 _ rfl,n2 6 _ rfl⟩
  have HSB : Hid (∀ W,Below A.heap.size A W -> (fun wx : World => wx.cell? ⟨w.heap.size,0,none⟩ = some (.int .i64 (N : Int)) /\ wx.cell? ⟨w.heap.size,1,none⟩ = some (.int .i64 (s0 : Int)) /\ wx.cell? ⟨w.heap.size,2,none⟩ = some (.slice fa fn fc) /\ wx.cell? ⟨w.heap.size,3,none⟩ = some (.slice aa m ac) /\ wx.cell? ⟨w.heap.size,4,none⟩ = some (.slice (some ⟨gC,0,none⟩) cs.length kC) /\ wx.cell? ⟨w.heap.size,5,none⟩ = some (.slice (some ⟨gP,0,none⟩) ps.length kP) /\ wx.cell? ⟨w.heap.size,6,none⟩ = some (.slice (some ⟨gL,0,none⟩) ls.length kL) /\ wx.cell? ⟨w.heap.size + 1,0,none⟩ = some (.int .i64 (N2 : Int)) /\ wx.cell? ⟨w.heap.size + 1,1,none⟩ = some (.int .i64 (s02 : Int)) /\ wx.cell? ⟨w.heap.size + 1,2,none⟩ = some (.slice fa2 fn2 fc2) /\ wx.cell? ⟨w.heap.size + 1,3,none⟩ = some (.slice aa2 m2 ac2) /\ wx.cell? ⟨w.heap.size + 1,4,none⟩ = some (.slice (some ⟨gC2,0,none⟩) cs2.length kC2) /\ wx.cell? ⟨w.heap.size + 1,5,none⟩ = some (.slice (some ⟨gP2,0,none⟩) ps2.length kP2) /\ wx.cell? ⟨w.heap.size + 1,6,none⟩ = some (.slice (some ⟨gL2,0,none⟩) ls2.length kL2)) W):=fun W hW => by
   obtain ⟨o0,o1,o2,o3,o4,o5,o6,o7,o8,o9,o10,o11,o12,o13⟩:=hS0
   exact ⟨bel_c hW o0,bel_c hW o1,bel_c hW o2,bel_c hW o3,bel_c hW o4,bel_c hW o5,bel_c hW o6,bel_c hW o7,bel_c hW o8,bel_c hW o9,bel_c hW o10,bel_c hW o11,bel_c hW o12,bel_c hW o13⟩
  have HW:=hid_of hA
  clear hA h h2 ih hd hu hu2 hT hT2 hV hV2 hVl hVl2 hE hE2 hVb hVb2 hmin hmin2 hp hq hil hkl f1 f2 hlv hlv2
  go_enter Try.func49,Try.ntmps49
  go_wp2
  go_cut [13,14] from 18 (fun t13 t14 wx => t13 = .int .i64 p /\ t14 = .int .i64 q /\ Below A.heap.size A wx)
  case first =>
   refine wp_region_noPanic ?_
   refine wp_region_U (fun wx => wx.cell? ⟨w.heap.size,0,none⟩ = some (.int .i64 (N : Int)) /\ wx.cell? ⟨w.heap.size,1,none⟩ = some (.int .i64 (s0 : Int)) /\ wx.cell? ⟨w.heap.size,2,none⟩ = some (.slice fa fn fc) /\ wx.cell? ⟨w.heap.size,3,none⟩ = some (.slice aa m ac) /\ wx.cell? ⟨w.heap.size,4,none⟩ = some (.slice (some ⟨gC,0,none⟩) cs.length kC) /\ wx.cell? ⟨w.heap.size,5,none⟩ = some (.slice (some ⟨gP,0,none⟩) ps.length kP) /\ wx.cell? ⟨w.heap.size,6,none⟩ = some (.slice (some ⟨gL,0,none⟩) ls.length kL) /\ wx.cell? ⟨w.heap.size + 1,0,none⟩ = some (.int .i64 (N2 : Int)) /\ wx.cell? ⟨w.heap.size + 1,1,none⟩ = some (.int .i64 (s02 : Int)) /\ wx.cell? ⟨w.heap.size + 1,2,none⟩ = some (.slice fa2 fn2 fc2) /\ wx.cell? ⟨w.heap.size + 1,3,none⟩ = some (.slice aa2 m2 ac2) /\ wx.cell? ⟨w.heap.size + 1,4,none⟩ = some (.slice (some ⟨gC2,0,none⟩) cs2.length kC2) /\ wx.cell? ⟨w.heap.size + 1,5,none⟩ = some (.slice (some ⟨gP2,0,none⟩) ps2.length kP2) /\ wx.cell? ⟨w.heap.size + 1,6,none⟩ = some (.slice (some ⟨gL2,0,none⟩) ls2.length kL2)) 7 (by kernel_rfl) (by rw [<- HW.out]; exact hS0) (fun _ => ?_)
   rw [<- HW.out]
   clear HW
   refine tkU (i:=0) (v:=.agg #[.int .i64 (N : Int),.int .i64 (s0 : Int),.slice fa fn fc,.slice aa m ac,.slice (some ⟨gC,0,none⟩) cs.length kC,.slice (some ⟨gP,0,none⟩) ps.length kP,.slice (some ⟨gL,0,none⟩) ls.length kL]) rfl (by kernel_rfl) (fun _ _ _ h => h) (by rfl) hS0 (fun wl hSw => ?_) ?_
   ·(try dsimp only at hSw); obtain ⟨o0,o1,o2,o3,o4,o5,o6,o7,o8,o9,o10,o11,o12,o13⟩:=hSw; go_simp
   refine tkU (i:=1) (v:=.int .i64 (i : Int)) rfl (by kernel_rfl) (fun _ _ _ h => h) (by rfl) hS0 (fun wl hSw => ?_) ?_
   ·(try dsimp only at hSw); obtain ⟨o0,o1,o2,o3,o4,o5,o6,o7,o8,o9,o10,o11,o12,o13⟩:=hSw; go_simp
   refine tkU (i:=3) (v:=.agg #[.int .i64 (N2 : Int),.int .i64 (s02 : Int),.slice fa2 fn2 fc2,.slice aa2 m2 ac2,.slice (some ⟨gC2,0,none⟩) cs2.length kC2,.slice (some ⟨gP2,0,none⟩) ps2.length kP2,.slice (some ⟨gL2,0,none⟩) ls2.length kL2]) rfl (by kernel_rfl) (fun _ _ _ h => h) (by rfl) hS0 (fun wl hSw => ?_) ?_
   ·(try dsimp only at hSw); obtain ⟨o0,o1,o2,o3,o4,o5,o6,o7,o8,o9,o10,o11,o12,o13⟩:=hSw; go_simp
   refine tkU (i:=4) (v:=.int .i64 (k : Int)) rfl (by kernel_rfl) (fun _ _ _ h => h) (by rfl) hS0 (fun wl hSw => ?_) ?_
   ·(try dsimp only at hSw); obtain ⟨o0,o1,o2,o3,o4,o5,o6,o7,o8,o9,o10,o11,o12,o13⟩:=hSw; go_simp
   refine wpAnyU_one (i:=2) rfl (by kernel_rfl) (fun K hK => ?_)
   go_simp
   refine (HE1.out A hbA).mono ?_
   rintro e w2 ⟨rfl,hb2⟩
   have hS_w2:=HSB.out w2 hb2
   refine hK.out _ _ ⟨fun _ => hS_w2,?_⟩
   clear hK K
   refine wpAnyU_one (i:=5) rfl (by kernel_rfl) (fun K hK => ?_)
   go_simp
   refine (HE2.out w2 (bel_on hbA hb2)).mono ?_
   rintro e w3 ⟨rfl,hb3⟩
   have hS_w3:=HSB.out w3 (bel_on hb2 hb3)
   refine hK.out _ _ ⟨fun _ => hS_w3,?_⟩
   clear hK K
   refine wpAnyU_one (i:=6) rfl (by kernel_rfl) (fun K hK => ?_)
   go_simp
   refine hK.out _ _ ⟨fun _ => hS_w3,?_⟩
   clear hK K
   refine wpAnyU_one (i:=7) rfl (by kernel_rfl) (fun K hK => ?_)
   go_simp
   refine hK.out _ _ ⟨fun h => absurd rfl h,?_⟩
   clear hK K
   refine wpAnyU_done (by kernel_rfl) ?_ _
   refine NoPanic.normal ?_
   go_wp2
   go_meet
   case rel => exact ⟨rfl,rfl,bel_on hb2 hb3⟩
  case rest =>
   obtain ⟨rfl,rfl,hbc⟩:=hcut
   rename World => w3
   clear HW hS0 HE1 HE2
   go_upto_region 2 with fail
   go_cut [13,14,41] from 24 (fun t13 t14 t41 wx => t13 = .int .i64 p /\ t14 = .int .i64 q /\ Below A.heap.size A wx /\ ∃ g : Bool,t41 = .bool g /\ (g = false ↔ ((p < 0 ↔ q < 0) /\ (0 <= p -> p - x = q - y))))
   case first =>
    have hw1 : IntKind.i64.wrap (p - x) = p - x:=wrap_in _ (by omega) (by omega)
    have hw2 : IntKind.i64.wrap (q - y) = q - y:=wrap_in _ (by omega) (by omega)
    by_cases hpn : p < 0
    ·by_cases hqn : q < 0
     ·go_wp2
      go_meet
      case rel => exact ⟨rfl,rfl,hbc,false,rfl,by simp; omega⟩
     ·have hq0 : 0 <= q:=by omega
      go_wp2
      go_meet
      case rel => exact ⟨rfl,rfl,hbc,true,rfl,by simp; omega⟩
    ·have hp0 : 0 <= p:=by omega
     by_cases hqn : q < 0
     ·go_wp2
      go_meet
      case rel => exact ⟨rfl,rfl,hbc,true,rfl,by simp; omega⟩
     ·by_cases hpq : p - x = q - y
      ·have hpb2 : (p - x != q - y) = false:=by simpa using hpq
       go_wp2
       go_meet
       case rel => exact ⟨rfl,rfl,hbc,false,rfl,by simp; omega⟩
      ·have hpb2 : (p - x != q - y) = true:=by simpa using hpq
       go_wp2
       go_meet
       case rel => exact ⟨rfl,rfl,hbc,true,rfl,by simp; omega⟩
   case rest =>
    clear hbc
    obtain ⟨rfl,rfl,hbc,g,rfl,hpq⟩:=hcut
    have HPQ0:=hid_of hpq
    clear hpq
    cases g with
    | true =>
     have HNO : Hid (¬ AlikeP t s0 u t2 s02 u2 x y):=fun ha => by
      have:=HPQ0.out.2 (ha.end HMN.out.1 HMN.out.2)
      cases this
     clear HPQ0
     go_wp2
     go_ret
     exact ⟨false,rfl,⟨fun h => (by cases h),fun h => absurd h HNO.out⟩,bel_on hbA hbc⟩
    | false =>
    have HPQ:=hid_of (HPQ0.out.1 rfl)
    clear HPQ0
    rename World => w4
    go_wp2
    go_loopw [15] (fun t15 wx => ∃ c : Nat,c <= 9 /\ t15 = .int .i64 ((c : Int) + 1) /\ (∀ z : Nat,1 <= z -> z <= c -> (¬ Alive t s0 ((z : Int) :: u) /\ ¬ Alive t2 s02 ((z : Int) :: u2)) \/ AlikeP t s0 ((z : Int) :: u) t2 s02 ((z : Int) :: u2) x y) /\ Below A.heap.size A wx) (fun t15 _ => 10 - (intOf t15).toNat)
    case atStart => exact ⟨0,by omega,rfl,fun z h1 h2 => by omega,hbc⟩
    case round =>
     clear hbc
     obtain ⟨c,hc9,rfl,hall,hbr⟩:=hrel
     have HALL:=hid_of hall
     clear hall
     by_cases hc : c < 9
     ·have hci : (c : Int) + 1 <= 9:=by omega
      have hwc : IntKind.i64.wrap ((c : Int) + 1 + 1) = (c : Int) + 1 + 1:=wrap_in _ (by omega) (by omega)
      have HNX : Hid ((¬ Alive t s0 (((c + 1 : Nat) : Int) :: u) /\ ¬ Alive t2 s02 (((c + 1 : Nat) : Int) :: u2)) \/ AlikeP t s0 (((c + 1 : Nat) : Int) :: u) t2 s02 (((c + 1 : Nat) : Int) :: u2) x y -> ∀ z : Nat,1 <= z -> z <= c + 1 -> (¬ Alive t s0 ((z : Int) :: u) /\ ¬ Alive t2 s02 ((z : Int) :: u2)) \/ AlikeP t s0 ((z : Int) :: u) t2 s02 ((z : Int) :: u2) x y):=fun h z h1 h2 => by
       by_cases e : z = c + 1
       ·subst e; exact h
       ·exact HALL.out z h1 (by omega)
      obtain ⟨Wd,hWd⟩ : ∃ W,W = wr.drew:=⟨_,rfl⟩
      have hbd : Below A.heap.size A Wd:=by rw [hWd]; exact hbr.drew
      have hS0:=HSB.out Wd hbd
      have ho1:=HO1.out (c + 1) Wd (bel_on hbA hbd)
      have HO2' : Hid (∀ W,Below A.heap.size A W -> Calls Try.prog 51 #[.agg #[.int .i64 (N2 : Int),.int .i64 (s02 : Int),.slice fa2 fn2 fc2,.slice aa2 m2 ac2,.slice (some ⟨gC2,0,none⟩) cs2.length kC2,.slice (some ⟨gP2,0,none⟩) ps2.length kP2,.slice (some ⟨gL2,0,none⟩) ls2.length kL2],.int .i64 (k : Int),.int .i64 ((c : Int) + 1)] W fun e w' => ∃ r,e = .returned (.int .i64 r) /\ OnP ps2 ls2 k ((c + 1 : Nat) : Int) r /\ Below W.heap.size W w'):=fun W hW => by
       have h:=HO2.out (c + 1) W (bel_on hbA hW)
       rw [show (Value.int .i64 ((c + 1 : Nat) : Int)) = .int .i64 ((c : Int) + 1) by simp] at h
       exact h
      rw [show (Value.int .i64 ((c + 1 : Nat) : Int)) = .int .i64 ((c : Int) + 1) by simp] at ho1
      go_wp2
      refine wp_region_noPanic ?_
      refine wp_region_U (fun wx => wx.cell? ⟨w.heap.size,0,none⟩ = some (.int .i64 (N : Int)) /\ wx.cell? ⟨w.heap.size,1,none⟩ = some (.int .i64 (s0 : Int)) /\ wx.cell? ⟨w.heap.size,2,none⟩ = some (.slice fa fn fc) /\ wx.cell? ⟨w.heap.size,3,none⟩ = some (.slice aa m ac) /\ wx.cell? ⟨w.heap.size,4,none⟩ = some (.slice (some ⟨gC,0,none⟩) cs.length kC) /\ wx.cell? ⟨w.heap.size,5,none⟩ = some (.slice (some ⟨gP,0,none⟩) ps.length kP) /\ wx.cell? ⟨w.heap.size,6,none⟩ = some (.slice (some ⟨gL,0,none⟩) ls.length kL) /\ wx.cell? ⟨w.heap.size + 1,0,none⟩ = some (.int .i64 (N2 : Int)) /\ wx.cell? ⟨w.heap.size + 1,1,none⟩ = some (.int .i64 (s02 : Int)) /\ wx.cell? ⟨w.heap.size + 1,2,none⟩ = some (.slice fa2 fn2 fc2) /\ wx.cell? ⟨w.heap.size + 1,3,none⟩ = some (.slice aa2 m2 ac2) /\ wx.cell? ⟨w.heap.size + 1,4,none⟩ = some (.slice (some ⟨gC2,0,none⟩) cs2.length kC2) /\ wx.cell? ⟨w.heap.size + 1,5,none⟩ = some (.slice (some ⟨gP2,0,none⟩) ps2.length kP2) /\ wx.cell? ⟨w.heap.size + 1,6,none⟩ = some (.slice (some ⟨gL2,0,none⟩) ls2.length kL2)) 9 (by kernel_rfl) (by rw [<- hWd]; exact hS0) (fun _ => ?_)
      rw [<- hWd]
      clear hWd
      refine tkU (i:=0) (v:=.agg #[.int .i64 (N : Int),.int .i64 (s0 : Int),.slice fa fn fc,.slice aa m ac,.slice (some ⟨gC,0,none⟩) cs.length kC,.slice (some ⟨gP,0,none⟩) ps.length kP,.slice (some ⟨gL,0,none⟩) ls.length kL]) rfl (by kernel_rfl) (fun _ _ _ h => h) (by rfl) hS0 (fun wl hSw => ?_) ?_
      ·(try dsimp only at hSw); obtain ⟨o0,o1,o2,o3,o4,o5,o6,o7,o8,o9,o10,o11,o12,o13⟩:=hSw; go_simp
      refine tkU (i:=1) (v:=.int .i64 (i : Int)) rfl (by kernel_rfl) (fun _ _ _ h => h) (by rfl) hS0 (fun wl hSw => ?_) ?_
      ·(try dsimp only at hSw); obtain ⟨o0,o1,o2,o3,o4,o5,o6,o7,o8,o9,o10,o11,o12,o13⟩:=hSw; go_simp
      refine tkU (i:=2) (v:=.int .i64 ((c : Int) + 1)) rfl (by kernel_rfl) (fun _ _ _ h => h) (by rfl) hS0 (fun wl hSw => ?_) ?_
      ·(try dsimp only at hSw); obtain ⟨o0,o1,o2,o3,o4,o5,o6,o7,o8,o9,o10,o11,o12,o13⟩:=hSw; go_simp
      refine tkU (i:=4) (v:=.agg #[.int .i64 (N2 : Int),.int .i64 (s02 : Int),.slice fa2 fn2 fc2,.slice aa2 m2 ac2,.slice (some ⟨gC2,0,none⟩) cs2.length kC2,.slice (some ⟨gP2,0,none⟩) ps2.length kP2,.slice (some ⟨gL2,0,none⟩) ls2.length kL2]) rfl (by kernel_rfl) (fun _ _ _ h => h) (by rfl) hS0 (fun wl hSw => ?_) ?_
      ·(try dsimp only at hSw); obtain ⟨o0,o1,o2,o3,o4,o5,o6,o7,o8,o9,o10,o11,o12,o13⟩:=hSw; go_simp
      refine tkU (i:=5) (v:=.int .i64 (k : Int)) rfl (by kernel_rfl) (fun _ _ _ h => h) (by rfl) hS0 (fun wl hSw => ?_) ?_
      ·(try dsimp only at hSw); obtain ⟨o0,o1,o2,o3,o4,o5,o6,o7,o8,o9,o10,o11,o12,o13⟩:=hSw; go_simp
      refine tkU (i:=6) (v:=.int .i64 ((c : Int) + 1)) rfl (by kernel_rfl) (fun _ _ _ h => h) (by rfl) hS0 (fun wl hSw => ?_) ?_
      ·(try dsimp only at hSw); obtain ⟨o0,o1,o2,o3,o4,o5,o6,o7,o8,o9,o10,o11,o12,o13⟩:=hSw; go_simp
      refine wpAnyU_one (i:=3) rfl (by kernel_rfl) (fun K hK => ?_)
      go_simp
      refine ho1.mono ?_
      rintro e w2q ⟨r1,rfl,hr1,hb2⟩
      have hS_w2q:=HSB.out w2q (bel_on hbd hb2)
      refine hK.out _ _ ⟨fun _ => hS_w2q,?_⟩
      clear hK K
      refine wpAnyU_one (i:=7) rfl (by kernel_rfl) (fun K hK => ?_)
      go_simp
      refine (HO2'.out w2q (bel_on hbd hb2)).mono ?_
      rintro e w3q ⟨r2,rfl,hr2,hb3⟩
      have hS_w3q:=HSB.out w3q (bel_on (bel_on hbd hb2) hb3)
      refine hK.out _ _ ⟨fun _ => hS_w3q,?_⟩
      clear hK K
      refine wpAnyU_one (i:=8) rfl (by kernel_rfl) (fun K hK => ?_)
      go_simp
      refine hK.out _ _ ⟨fun _ => hS_w3q,?_⟩
      clear hK K
      refine wpAnyU_one (i:=9) rfl (by kernel_rfl) (fun K hK => ?_)
      go_simp
      refine hK.out _ _ ⟨fun h => absurd rfl h,?_⟩
      clear hK K
      refine wpAnyU_done (by kernel_rfl) ?_ _
      refine NoPanic.normal ?_
      clear hS0
      have HR1:=hid_of hr1
      have HR2:=hid_of hr2
      have hb9:=bel_on (bel_on hbd hb2) hb3
      obtain ⟨o0,o1,o2,o3,o4,o5,o6,o7,o8,o9,o10,o11,o12,o13⟩:=hS_w3q
      clear hr1 hr2 hS_w2q
      have DEAD1 : Hid (r1 < 0 -> ¬ Alive t s0 (((c + 1 : Nat) : Int) :: u)):=fun h0 => by
       rcases HR1.out with ⟨_,e⟩ | ⟨z,e1,_⟩
       ·exact HT.out.1.tree.on_no HT.out.1.sin HU.out.1 e
       ·omega
      have DEAD2 : Hid (r2 < 0 -> ¬ Alive t2 s02 (((c + 1 : Nat) : Int) :: u2)):=fun h0 => by
       rcases HR2.out with ⟨_,e⟩ | ⟨z,e1,_⟩
       ·exact HT.out.2.tree.on_no HT.out.2.sin HU.out.2 e
       ·omega
      have ON1 : Hid (0 <= r1 -> ∃ z : Nat,r1 = (z : Int) /\ i < z /\ z < ps.length /\ ws[z]? = some (((c + 1 : Nat) : Int) :: u)):=fun h0 => by
       rcases HR1.out with ⟨e,_⟩ | ⟨z,e1,e2,e3,e4,_⟩
       ·omega
       ·exact ⟨z,e1,e2,e3,HT.out.1.tree.on_yes HU.out.1 e2 e3 e4⟩
      have ON2 : Hid (0 <= r2 -> ∃ z : Nat,r2 = (z : Int) /\ ws2[z]? = some (((c + 1 : Nat) : Int) :: u2)):=fun h0 => by
       rcases HR2.out with ⟨e,_⟩ | ⟨z,e1,e2,e3,e4,_⟩
       ·omega
       ·exact ⟨z,e1,HT.out.2.tree.on_yes HU.out.2 e2 e3 e4⟩
      clear HR1 HR2
      by_cases h1n : r1 < 0
      ·by_cases h2n : r2 < 0
       ·have HN:=hid_of (HNX.out (Or.inl ⟨DEAD1.out h1n,DEAD2.out h2n⟩))
        go_wp2
        go_roundw
        case rel => exact ⟨c + 1,by omega,by go_num,HN.out,hb9⟩
        case measure => simp [intOf]; omega
       ·have h20 : 0 <= r2:=by omega
        have HN : Hid (¬ AlikeP t s0 u t2 s02 u2 x y):=fun ha => by
         obtain ⟨z,_,hz⟩:=ON2.out h20
         exact DEAD1.out h1n (ha.symm.alive HT.out.2.sin HT.out.1.sin HLV.out.2 (HT.out.2.tree.live _ (List.mem_of_getElem? hz)))
        go_wp2
        go_ret
        first | exact ⟨false,rfl,⟨fun h => (by cases h),fun h => absurd h HN.out⟩,bel_on hbA hb9⟩ | exact Or.inl ⟨rfl,HN.out,bel_on hbA hb9⟩
      ·have h10 : 0 <= r1:=by omega
       by_cases h2n : r2 < 0
       ·have HN : Hid (¬ AlikeP t s0 u t2 s02 u2 x y):=fun ha => by
         obtain ⟨z,_,_,_,hz⟩:=ON1.out h10
         exact DEAD2.out h2n (ha.alive HT.out.1.sin HT.out.2.sin HLV.out.1 (HT.out.1.tree.live _ (List.mem_of_getElem? hz)))
        go_wp2
        go_ret
        first | exact ⟨false,rfl,⟨fun h => (by cases h),fun h => absurd h HN.out⟩,bel_on hbA hb9⟩ | exact Or.inl ⟨rfl,HN.out,bel_on hbA hb9⟩
       ·have h20 : 0 <= r2:=by omega
        obtain ⟨z1,rfl,hz1,hz2,hz3⟩:=ON1.out h10
        obtain ⟨z2,rfl,hz4⟩:=ON2.out h20
        have hre:=HRE.out z1 z2 _ _ w3q hz1 hz2 hz3 hz4 (bel_on hbA hb9)
        clear DEAD1 DEAD2 ON1 ON2 hz3 hz4
        go_wp2_with fail
        refine hre.mono ?_
        rintro e w5 ⟨bb,rfl,hbb,hb5⟩
        have HBB:=hid_of hbb
        clear hbb hre
        cases bb with
        | false =>
         have HN : Hid (¬ AlikeP t s0 u t2 s02 u2 x y):=fun ha => by
          have:=HBB.out.2 (ha.on _)
          cases this
         clear HBB
         go_wp2
         go_ret
         exact ⟨false,rfl,⟨fun h => (by cases h),fun h => absurd h HN.out⟩,bel_on hbA (bel_on hb9 hb5)⟩
        | true =>
         have HN:=hid_of (HNX.out (Or.inr (HBB.out.1 rfl)))
         clear HBB
         go_wp2
         go_roundw
         case rel => exact ⟨c + 1,by omega,by go_num,HN.out,bel_on hb9 hb5⟩
         case measure => simp [intOf]; omega
     ·have hc2 : c = 9:=by omega
      subst hc2
      have HFIN:=hid_of (alike_mk HT.out.1.sin HT.out.2.sin HMN.out.1 HMN.out.2 HPQ.out HALL.out)
      go_wp2
      go_ret
      exact ⟨true,rfl,⟨fun _ => HFIN.out,fun _ => rfl⟩,bel_on hbA hbr⟩
end Go.Proofs.Yteehgcbjmdideab
/- 'MostWeight','CheckLeast' and 'SameWords' of the document. -/
namespace Go.Proofs.Yteehgcbjmdideab
open Go.RowKit
attribute [local go_sem ↓] Go.wp_at_zero Go.wp_at_succ
def MostIn (f : FstD) (x : Int) : Prop:=x = 0 \/ (∃ a ∈ f.arcs,a.wt = x) \/ x ∈ f.final
set_option maxHeartbeats 1600000 in
theorem mostW_any (f : FstD) (fin arcs : Value) (w : World) (kf : f.final.length <= 3000 /\ f.arcs.length <= 3000) (hf : ISlice w fin f.final) (ha : ASlice w arcs f.arcs) :
  Calls Try.prog 52 #[.agg #[.int .i64 f.states,.int .i64 f.start,fin,arcs]] w fun e w' => ∃ x,e = .returned (.int .i64 x) /\ 0 <= x /\ MostIn f x /\ (∀ a ∈ f.arcs,a.wt <= x) /\ (∀ y ∈ f.final,y <= x) /\ Below w.heap.size w w':=by
 obtain ⟨fa,fn,fc,rfl,hfl,_⟩:=hf.lenOf
 obtain ⟨aa,m,ac,rfl,hal,_⟩:=ha.lenOf
 obtain ⟨A,hA⟩ : ∃ A,A = w.alloc (.cells #[.int .i64 f.states,.int .i64 f.start,.slice fa fn fc,.slice aa m ac] 25):=⟨_,rfl⟩
 have hb0 : Below w.heap.size w A:=by rw [hA]; exact bel_up (bel_self w) _
 have hcf : CellsF A w.heap.size f.states f.start (.slice fa fn fc) (.slice aa m ac):=by rw [hA]; exact cellsF_new _ _ _ _ _ _
 have HF : Hid (ISlice A (.slice fa fn fc) f.final):=hf.below hb0
 have HR : Hid (ASlice A (.slice aa m ac) f.arcs):=ha.below hb0
 have HL : Hid (f.final.length = fn /\ f.arcs.length = m):=⟨hfl,hal⟩
 have hm3 : m <= 3000:=by have:=kf.2; omega
 have hf2 : fn <= 3000:=by have:=kf.1; omega
 have HA : Hid (A = w.alloc (.cells #[.int .i64 f.states,.int .i64 f.start,.slice fa fn fc,.slice aa m ac] 25)):=hA
 obtain ⟨q0,q1,q2,q3⟩:=hcf
 clear hA hf ha hfl hal kf
 go_enter Try.func52,Try.ntmps52
 go_wp2
 rw [<- HA.out]
 clear HA
 go_loopw [3,4] (fun t3 t4 wx => ∃ (k : Nat) (x : Int),k <= m /\ t3 = .int .i64 x /\ t4 = .int .i64 (k : Int) /\ wx = A /\ (0 <= x /\ Hid (MostIn f x)) /\ ∀ j a,j < k -> f.arcs[j]? = some a -> a.wt <= x) (fun _ t4 _ => m - (intOf t4).toNat)
 case atStart => exact ⟨0,0,Nat.zero_le _,rfl,rfl,rfl,⟨Int.le_refl _,hid_of (Or.inl rfl)⟩,fun j a h => absurd h (Nat.not_lt_zero _)⟩
 case round =>
  obtain ⟨k,x,hk,rfl,rfl,rfl,⟨x0,x1⟩,hx⟩:=hrel
  have HX : Hid (∀ j a,j < k -> f.arcs[j]? = some a -> a.wt <= x):=hx
  clear hx
  have hkw : IntKind.i64.wrap ((k : Int) + 1) = (k : Int) + 1:=wrap_in _ (by omega) (by omega)
  by_cases hlt : k < m
  ·have hki : (k : Int) < m:=by omega
   obtain ⟨ab,ao,rfl,hxa⟩:=HR.out.some (by omega)
   obtain ⟨a,hak⟩ : ∃ d,f.arcs[k]? = some d:=⟨_,List.getElem?_eq_getElem (by have:=HL.out.2; omega)⟩
   have hgd : f.arcs.getD k a0 = a:=by simp [List.getD,hak]
   have c4':=hxa.c4 k hlt
   rw [hgd] at c4'
   obtain ⟨wt,hwt⟩ : ∃ t,a.wt = t:=⟨_,rfl⟩
   rw [hwt] at c4'
   have HM : Hid (MostIn f wt):=Or.inr (Or.inl ⟨a,List.mem_of_getElem? hak,hwt⟩)
   have HS : Hid (∀ y,x <= y -> wt <= y -> ∀ j b,j < k + 1 -> f.arcs[j]? = some b -> b.wt <= y):=fun y h1 h2 j b hj hb => by
    by_cases e : j = k
    ·subst e
     rw [hak] at hb
     injection hb with hb
     subst hb
     rw [hwt]
     exact h2
    ·exact Int.le_trans (HX.out j b (by omega) hb) h1
   clear hxa hgd hwt hak
   by_cases hgt : x < wt
   ·go_wp2
    go_roundw
    case rel => exact ⟨k + 1,wt,by omega,rfl,by go_num,trivial,⟨by omega,HM⟩,HS.out wt (by omega) (by omega)⟩
    case measure => simp [intOf]; omega
   ·go_wp2
    go_roundw
    case rel => exact ⟨k + 1,x,by omega,rfl,by go_num,trivial,⟨by omega,x1⟩,HS.out x (by omega) (by omega)⟩
    case measure => simp [intOf]; omega
  ·obtain rfl : k = m:=by omega
   have hnl : ¬ ((k : Int) < k):=by omega
   have HARC : Hid (∀ a ∈ f.arcs,a.wt <= x):=fun a ha => by
    obtain ⟨j,hj⟩:=List.getElem?_of_mem ha
    exact HX.out j a (by have:=(List.getElem?_eq_some_iff.1 hj).1; have:=HL.out.2; omega) hj
   clear HX
   go_wp2
   go_loopw [3,5] (fun t3 t5 wx => ∃ (i : Nat) (y : Int),i <= fn /\ t3 = .int .i64 y /\ t5 = .int .i64 (i : Int) /\ wx = wr /\ (0 <= y /\ Hid (MostIn f y)) /\ x <= y /\ ∀ j v,j < i -> f.final[j]? = some v -> v <= y) (fun _ t5 _ => fn - (intOf t5).toNat)
   case atStart => exact ⟨0,x,Nat.zero_le _,rfl,rfl,rfl,⟨x0,x1⟩,Int.le_refl _,fun j a h => absurd h (Nat.not_lt_zero _)⟩
   case round =>
    obtain ⟨i,y,hi,rfl,rfl,rfl,⟨y0,y1⟩,hxy,hy⟩:=hrel
    have HY : Hid (∀ j v,j < i -> f.final[j]? = some v -> v <= y):=hy
    clear hy
    have hiw : IntKind.i64.wrap ((i : Int) + 1) = (i : Int) + 1:=wrap_in _ (by omega) (by omega)
    by_cases hlt2 : i < fn
    ·have hii : (i : Int) < fn:=by omega
     obtain ⟨fb,fo,rfl,hxf⟩:=HF.out.some (by omega)
     have d0:=hxf.cell i hlt2
     obtain ⟨v,hv⟩ : ∃ d,f.final[i]? = some d:=⟨_,List.getElem?_eq_getElem (by have:=HL.out.1; omega)⟩
     have hgd : f.final.getD i 0 = v:=by simp [List.getD,hv]
     rw [hgd] at d0
     have HM : Hid (MostIn f v):=Or.inr (Or.inr (List.mem_of_getElem? hv))
     have HS : Hid (∀ z,y <= z -> v <= z -> ∀ j u,j < i + 1 -> f.final[j]? = some u -> u <= z):=fun z h1 h2 j u hj hu => by
      by_cases e : j = i
      ·subst e
       rw [hv] at hu
       injection hu with hu
       omega
      ·exact Int.le_trans (HY.out j u (by omega) hu) h1
     clear hxf hgd hv
     by_cases hgt : y < v
     ·go_wp2
      go_roundw
      case rel => exact ⟨i + 1,v,by omega,rfl,by go_num,trivial,⟨by omega,HM⟩,by omega,HS.out v (by omega) (by omega)⟩
      case measure => simp [intOf]; omega
     ·go_wp2
      go_roundw
      case rel => exact ⟨i + 1,y,by omega,rfl,by go_num,trivial,⟨by omega,y1⟩,by omega,HS.out y (by omega) (by omega)⟩
      case measure => simp [intOf]; omega
    ·obtain rfl : i = fn:=by omega
     have hnl2 : ¬ ((i : Int) < i):=by omega
     have HFIN : Hid (∀ v ∈ f.final,v <= y):=fun v hv => by
      obtain ⟨j,hj⟩:=List.getElem?_of_mem hv
      exact HY.out j v (by have:=(List.getElem?_eq_some_iff.1 hj).1; have:=HL.out.1; omega) hj
     clear HY
     go_wp2
     go_ret
     exact ⟨y,rfl,y0,y1.out,fun a ha => Int.le_trans (HARC.out a ha) hxy,HFIN.out,hb0⟩
def ClRes (f : FstD) (w : World) (e : Ending) (w' : World) : Prop:=∃ c : Int,e = .returned (.int .i64 c) /\ Below w.heap.size w w' /\ (checkD f ≠ 0 -> c = checkD f) /\ (checkD f = 0 -> 12 < f.states -> c = 2) /\ (checkD f = 0 -> f.states <= 12 -> (bothB f = false \/ silB f = true \/ RoundD f) -> c = 4) /\ (checkD f = 0 -> f.states <= 12 -> bothB f = true -> silB f = false -> ¬ RoundD f -> c = 0)
set_option maxHeartbeats 6400000 in
theorem checkLeast_any (f : FstD) (fin arcs : Value) (w : World) (hf : ISlice w fin f.final) (ha : ASlice w arcs f.arcs) :
  Calls Try.prog 19 #[.agg #[.int .i64 f.states,.int .i64 f.start,fin,arcs]] w fun e w' => ClRes f w e w':=by
 obtain ⟨fa,fn,fc,rfl,hfl,_⟩:=hf.lenOf
 obtain ⟨aa,m,ac,rfl,hal,_⟩:=ha.lenOf
 obtain ⟨A,hA⟩ : ∃ A,A = w.alloc (.cells #[.int .i64 f.states,.int .i64 f.start,.slice fa fn fc,.slice aa m ac] 25):=⟨_,rfl⟩
 have hb0 : Below w.heap.size w A:=by rw [hA]; exact bel_up (bel_self w) _
 have HIN : Hid (∀ W,Below w.heap.size w W -> ISlice W (.slice fa fn fc) f.final /\ ASlice W (.slice aa m ac) f.arcs):=fun W h => ⟨hf.below h,ha.below h⟩
 have hcf : CellsF A w.heap.size f.states f.start (.slice fa fn fc) (.slice aa m ac):=by rw [hA]; exact cellsF_new _ _ _ _ _ _
 have HCF : Hid (∀ W,Below A.heap.size A W -> CellsF W w.heap.size f.states f.start (.slice fa fn fc) (.slice aa m ac)):=fun W h => hcf.below h
 have h8:=checkFst_any f _ _ A (HIN.out A hb0).1 (HIN.out A hb0).2
 have HA:=hid_of hA
 obtain ⟨p0,p1,p2,p3⟩:=hcf
 rw [hA] at h8 p0 p1 p2 p3
 clear hA hf ha hfl hal
 by_cases hc : checkD f = 0
 ·have kf:=fine_iff.1 hc
  have HK:=hid_of kf
  have HC:=hid_of hc
  rw [hc] at h8
  clear hc kf
  by_cases hs : 12 < f.states
  ·go_enter Try.func19,Try.ntmps19
   go_wp2_with (go_at_call 8; refine h8.mono ?_; rintro e w1 ⟨rfl,hb1⟩; rw [<- HA.out] at hb1; clear h8 p0 p1 p2 p3; obtain ⟨p0,p1,p2,p3⟩:=HCF.out w1 hb1)
   go_ret
   exact ⟨_,rfl,bel_on hb0 hb1,fun h => absurd HC.out h,fun _ _ => rfl,fun _ h => by omega,fun _ h => by omega⟩
  ·cases hB : bothB f with
   | false =>
    have HB1:=hid_of hB
    clear hB
    go_enter Try.func19,Try.ntmps19
    go_wp2_with (first | (go_at_call 8; refine h8.mono ?_; rintro e w1 ⟨rfl,hb1⟩; rw [<- HA.out] at hb1; clear h8 p0 p1 p2 p3; obtain ⟨p0,p1,p2,p3⟩:=HCF.out w1 hb1; have h9:=isBoth_any f _ _ w1 HK.out.many (HIN.out w1 (bel_on hb0 hb1)).1 (HIN.out w1 (bel_on hb0 hb1)).2; rw [HB1.out] at h9) | (go_at_call 9; refine h9.mono ?_; rintro e w2 ⟨rfl,hb2⟩; clear h9 p0 p1 p2 p3; have x2:=bel_on hb1 hb2; obtain ⟨p0,p1,p2,p3⟩:=HCF.out w2 x2))
    go_ret
    exact ⟨_,rfl,bel_on hb0 x2,fun h => absurd HC.out h,fun _ h => by omega,fun _ _ _ => rfl,fun _ _ h => by rw [HB1.out] at h; cases h⟩
   | true =>
    have HB1:=hid_of hB
    clear hB
    cases hS : silB f with
    | true =>
     have HB2:=hid_of hS
     clear hS
     go_enter Try.func19,Try.ntmps19
     go_wp2_with (first | (go_at_call 8; refine h8.mono ?_; rintro e w1 ⟨rfl,hb1⟩; rw [<- HA.out] at hb1; clear h8 p0 p1 p2 p3; obtain ⟨p0,p1,p2,p3⟩:=HCF.out w1 hb1; have h9:=isBoth_any f _ _ w1 HK.out.many (HIN.out w1 (bel_on hb0 hb1)).1 (HIN.out w1 (bel_on hb0 hb1)).2; rw [HB1.out] at h9) | (go_at_call 9; refine h9.mono ?_; rintro e w2 ⟨rfl,hb2⟩; clear h9 p0 p1 p2 p3; have x2:=bel_on hb1 hb2; obtain ⟨p0,p1,p2,p3⟩:=HCF.out w2 x2; have h10:=hasSilent_any f _ _ w2 HK.out.many (HIN.out w2 (bel_on hb0 x2)).1 (HIN.out w2 (bel_on hb0 x2)).2; rw [HB2.out] at h10) | (go_at_call 10; refine h10.mono ?_; rintro e w3 ⟨rfl,hb3⟩; clear h10 p0 p1 p2 p3; have x3:=bel_on x2 hb3; obtain ⟨p0,p1,p2,p3⟩:=HCF.out w3 x3))
     go_ret
     exact ⟨_,rfl,bel_on hb0 x3,fun h => absurd HC.out h,fun _ h => by omega,fun _ _ _ => rfl,fun _ _ _ h => by rw [HB2.out] at h; cases h⟩
    | false =>
     have HB2:=hid_of hS
     clear hS
     by_cases hR : RoundD f
     ·have HR1:=hid_of hR
      clear hR
      go_enter Try.func19,Try.ntmps19
      go_wp2_with (first | (go_at_call 8; refine h8.mono ?_; rintro e w1 ⟨rfl,hb1⟩; rw [<- HA.out] at hb1; clear h8 p0 p1 p2 p3; obtain ⟨p0,p1,p2,p3⟩:=HCF.out w1 hb1; have h9:=isBoth_any f _ _ w1 HK.out.many (HIN.out w1 (bel_on hb0 hb1)).1 (HIN.out w1 (bel_on hb0 hb1)).2; rw [HB1.out] at h9) | (go_at_call 9; refine h9.mono ?_; rintro e w2 ⟨rfl,hb2⟩; clear h9 p0 p1 p2 p3; have x2:=bel_on hb1 hb2; obtain ⟨p0,p1,p2,p3⟩:=HCF.out w2 x2; have h10:=hasSilent_any f _ _ w2 HK.out.many (HIN.out w2 (bel_on hb0 x2)).1 (HIN.out w2 (bel_on hb0 x2)).2; rw [HB2.out] at h10) | (go_at_call 10; refine h10.mono ?_; rintro e w3 ⟨rfl,hb3⟩; clear h10 p0 p1 p2 p3; have x3:=bel_on x2 hb3; obtain ⟨p0,p1,p2,p3⟩:=HCF.out w3 x3; have h11:=isRound_at f _ _ w3 HK.out (HIN.out w3 (bel_on hb0 x3)).1 (HIN.out w3 (bel_on hb0 x3)).2) | (go_at_call 11; refine h11.mono ?_; rintro e w4 ⟨rb,rfl,hrb,hb4⟩; clear h11 p0 p1 p2 p3; have x4:=bel_on x3 hb4; obtain ⟨p0,p1,p2,p3⟩:=HCF.out w4 x4; obtain rfl : rb = true:=hrb.2 HR1.out; clear hrb))
      go_ret
      exact ⟨_,rfl,bel_on hb0 x4,fun h => absurd HC.out h,fun _ h => by omega,fun _ _ _ => rfl,fun _ _ _ _ h => absurd HR1.out h⟩
     ·have HR1:=hid_of hR
      clear hR
      go_enter Try.func19,Try.ntmps19
      go_wp2_with (first | (go_at_call 8; refine h8.mono ?_; rintro e w1 ⟨rfl,hb1⟩; rw [<- HA.out] at hb1; clear h8 p0 p1 p2 p3; obtain ⟨p0,p1,p2,p3⟩:=HCF.out w1 hb1; have h9:=isBoth_any f _ _ w1 HK.out.many (HIN.out w1 (bel_on hb0 hb1)).1 (HIN.out w1 (bel_on hb0 hb1)).2; rw [HB1.out] at h9) | (go_at_call 9; refine h9.mono ?_; rintro e w2 ⟨rfl,hb2⟩; clear h9 p0 p1 p2 p3; have x2:=bel_on hb1 hb2; obtain ⟨p0,p1,p2,p3⟩:=HCF.out w2 x2; have h10:=hasSilent_any f _ _ w2 HK.out.many (HIN.out w2 (bel_on hb0 x2)).1 (HIN.out w2 (bel_on hb0 x2)).2; rw [HB2.out] at h10) | (go_at_call 10; refine h10.mono ?_; rintro e w3 ⟨rfl,hb3⟩; clear h10 p0 p1 p2 p3; have x3:=bel_on x2 hb3; obtain ⟨p0,p1,p2,p3⟩:=HCF.out w3 x3; have h11:=isRound_at f _ _ w3 HK.out (HIN.out w3 (bel_on hb0 x3)).1 (HIN.out w3 (bel_on hb0 x3)).2) | (go_at_call 11; refine h11.mono ?_; rintro e w4 ⟨rb,rfl,hrb,hb4⟩; clear h11 p0 p1 p2 p3; have x4:=bel_on x3 hb4; obtain ⟨p0,p1,p2,p3⟩:=HCF.out w4 x4; obtain rfl : rb = false:=Bool.eq_false_iff.2 (fun h => HR1.out (hrb.1 h)); clear hrb))
      go_ret
      exact ⟨_,rfl,bel_on hb0 x4,fun h => absurd HC.out h,fun _ h => by omega,fun _ _ h => by rw [HB1.out,HB2.out] at h; rcases h with h | h | h; cases h; cases h; exact absurd h HR1.out,fun _ _ _ _ _ => rfl⟩
 ·have HC:=hid_of hc
  have hc2 : (checkD f == 0) = false:=by simpa using hc
  obtain ⟨c,he⟩ : ∃ c,c = checkD f:=⟨_,rfl⟩
  rw [<- he] at h8 hc2
  clear hc
  go_enter Try.func19,Try.ntmps19
  go_wp2_with (go_at_call 8; refine h8.mono ?_; rintro e w1 ⟨rfl,hb1⟩; rw [<- HA.out] at hb1; clear h8 p0 p1 p2 p3; obtain ⟨p0,p1,p2,p3⟩:=HCF.out w1 hb1)
  go_ret
  exact ⟨_,rfl,bel_on hb0 hb1,fun _ => (by first | exact he | rfl),fun h => absurd h HC.out,fun h => absurd h HC.out,fun h => absurd h HC.out⟩
set_option maxHeartbeats 3200000 in
theorem sameWords_any (t t2 : FstD) (N s0 N2 s02 : Nat) (fin arcs cv pv lv fin2 arcs2 cv2 pv2 lv2 : Value) (ws cs ws2 cs2 : List (List Int)) (ps ls ps2 ls2 : List Int) (w : World) (hT : Whole t N s0 ws cs ps ls) (hT2 : Whole t2 N2 s02 ws2 cs2 ps2 ls2) (hlv : LiveW t s0) (hlv2 : LiveW t2 s02) (h : WV w t N fin arcs cv pv lv cs ps ls) (h2 : WV w t2 N2 fin2 arcs2 cv2 pv2 lv2 cs2 ps2 ls2) :
  Calls Try.prog 24 #[.agg #[.int .i64 (N : Int),.int .i64 (s0 : Int),fin,arcs,cv,pv,lv],.agg #[.int .i64 (N2 : Int),.int .i64 (s02 : Int),fin2,arcs2,cv2,pv2,lv2]] w fun e w' => ∃ b,e = .returned (.bool b) /\ (b = true ↔ AlikeP t s0 [] t2 s02 [] 0 0) /\ Below w.heap.size w w':=by
 have HAL : Hid (∀ W,Below w.heap.size w W -> Calls Try.prog 49 #[.agg #[.int .i64 (N : Int),.int .i64 (s0 : Int),fin,arcs,cv,pv,lv],.int .i64 0,.agg #[.int .i64 (N2 : Int),.int .i64 (s02 : Int),fin2,arcs2,cv2,pv2,lv2],.int .i64 0,.int .i64 0,.int .i64 0] W fun e w' => ∃ b,e = .returned (.bool b) /\ (b = true ↔ AlikeP t s0 [] t2 s02 [] 0 0) /\ Below W.heap.size W w'):=fun W hW => alike_any t t2 N s0 N2 s02 fin arcs cv pv lv fin2 arcs2 cv2 pv2 lv2 ws cs ws2 cs2 ps ls ps2 ls2 hT hT2 hlv hlv2 0 0 (by omega) (by omega) (ps.length + 1) 0 0 [] [] W (by omega) hT.tree.w0 hT2.tree.w0 (h.below hW) (h2.below hW)
 obtain ⟨gP,kP,rfl,_⟩:=h.P
 obtain ⟨gL,kL,rfl,_⟩:=h.L
 obtain ⟨gC,kC,rfl,_⟩:=h.C
 obtain ⟨fa,fn,fc,rfl,_,_⟩:=h.fin.lenOf
 obtain ⟨aa,m,ac,rfl,_,_⟩:=h.arcs.lenOf
 obtain ⟨gP2,kP2,rfl,_⟩:=h2.P
 obtain ⟨gL2,kL2,rfl,_⟩:=h2.L
 obtain ⟨gC2,kC2,rfl,_⟩:=h2.C
 obtain ⟨fa2,fn2,fc2,rfl,_,_⟩:=h2.fin.lenOf
 obtain ⟨aa2,m2,ac2,rfl,_,_⟩:=h2.arcs.lenOf
 clear h h2 hT hT2 hlv hlv2
 go_enter Try.func24,Try.ntmps24
 go_wp2_with (go_at_call 49; refine (HAL.out _ (bel_up (bel_up (bel_self w) _) _)).mono ?_; rintro e w1 ⟨b,rfl,hb,hb1⟩; have hbw:=bel_on (bel_up (bel_up (bel_self w) _) _) hb1)
 go_ret
 first | exact ⟨b,rfl,hb,hbw⟩ | exact ⟨b,by rfl,hb,hbw⟩
end Go.Proofs.Yteehgcbjmdideab
/- 'kindsOf' of the program. -/
namespace Go.Proofs.Yteehgcbjmdideab
open Go.RowKit
attribute [local go_sem ↓] Go.wp_at_zero Go.wp_at_succ
def lastArc (A : List ArcD) (s c : Nat) : Option ArcD:=(A.filter fun a => a.src == (s : Int) && a.inp == (c : Int)).getLast?
def leapTo (A : List ArcD) (cl : List Int) (s c : Nat) : Int:=match lastArc A s c with | some a => gI cl a.dst.toNat | none => -1
def leapCo (A : List ArcD) (s c : Nat) : Int:=match lastArc A s c with | some a => a.wt | none => 0
def kcell (A : List ArcD) (fin cl : List Int) (j : Nat) : Int :=
 if j % 19 = 0 then gI fin (j / 19) else if j % 19 % 2 = 1 then leapTo A cl (j / 19) ((j % 19 + 1) / 2) else leapCo A (j / 19) ((j % 19 + 1) / 2)
def intsV (K : Nat -> Int) : Nat -> Value:=fun i => .int .i64 (K i)
theorem kcell_end (A : List ArcD) (fin cl : List Int) (s : Nat) : kcell A fin cl (s * 19) = gI fin s:=by
 unfold kcell
 rw [if_pos (by omega),show s * 19 / 19 = s by omega]
theorem kcell_to (A : List ArcD) (fin cl : List Int) (s i : Nat) (hi : i < 9) : kcell A fin cl (s * 19 + 1 + i * 2) = leapTo A cl s (i + 1):=by
 unfold kcell
 rw [if_neg (by omega),if_pos (by omega),show (s * 19 + 1 + i * 2) / 19 = s by omega,show ((s * 19 + 1 + i * 2) % 19 + 1) / 2 = i + 1 by omega]
theorem kcell_co (A : List ArcD) (fin cl : List Int) (s i : Nat) (hi : i < 9) : kcell A fin cl (s * 19 + 1 + i * 2 + 1) = leapCo A s (i + 1):=by
 unfold kcell
 rw [if_neg (by omega),if_neg (by omega),show (s * 19 + 1 + i * 2 + 1) / 19 = s by omega,show ((s * 19 + 1 + i * 2 + 1) % 19 + 1) / 2 = i + 1 by omega]
theorem lastArc_snoc (A : List ArcD) (a : ArcD) (s c : Nat) : lastArc (A ++ [a]) s c = if a.src = (s : Int) /\ a.inp = (c : Int) then some a else lastArc A s c:=by
 unfold lastArc
 rw [List.filter_append]
 by_cases h : a.src = (s : Int) /\ a.inp = (c : Int)
 ·rw [if_pos h,List.filter_cons_of_pos (by simp [h.1,h.2])]
  simp
 ·rw [if_neg h,List.filter_cons_of_neg (by simp; exact fun h1 h2 => h ⟨h1,h2⟩)]
  simp
theorem kcell_snoc (A : List ArcD) (fin cl : List Int) (a : ArcD) (s i : Nat) (hs : a.src = (s : Int)) (hi : a.inp = ((i + 1 : Nat) : Int)) (hi9 : i < 9) (j : Nat) :
  kcell (A ++ [a]) fin cl j = if j = s * 19 + 1 + i * 2 then gI cl a.dst.toNat else if j = s * 19 + 1 + i * 2 + 1 then a.wt else kcell A fin cl j:=by
 by_cases h1 : j = s * 19 + 1 + i * 2
 ·rw [if_pos h1,h1,kcell_to _ _ _ _ _ hi9]
  unfold leapTo
  rw [lastArc_snoc,if_pos ⟨hs,hi⟩]
 ·rw [if_neg h1]
  by_cases h2 : j = s * 19 + 1 + i * 2 + 1
  ·rw [if_pos h2,h2,kcell_co _ _ _ _ _ hi9]
   unfold leapCo
   rw [lastArc_snoc,if_pos ⟨hs,hi⟩]
  ·rw [if_neg h2]
   unfold kcell
   by_cases h3 : j % 19 = 0
   ·rw [if_pos h3,if_pos h3]
   ·rw [if_neg h3,if_neg h3]
    have hne : ¬ (a.src = ((j / 19 : Nat) : Int) /\ a.inp = (((j % 19 + 1) / 2 : Nat) : Int)):=by
     rw [hs,hi]
     omega
    unfold leapTo leapCo
    rw [lastArc_snoc,if_neg hne]
theorem kcell_nil (fin cl : List Int) (s i : Nat) (hi : i < 9) : kcell [] fin cl (s * 19 + 1 + i * 2) = -1 /\ kcell [] fin cl (s * 19 + 1 + i * 2 + 1) = 0:=⟨by rw [kcell_to _ _ _ _ _ hi]; rfl,by rw [kcell_co _ _ _ _ _ hi]; rfl⟩
def zKind : Value:=.agg #[.int .i64 0,.int .i64 0,.int .i64 0,.int .i64 0,.int .i64 0,.int .i64 0,.int .i64 0,.int .i64 0,.int .i64 0,.int .i64 0,.int .i64 0,.int .i64 0,.int .i64 0,.int .i64 0,.int .i64 0,.int .i64 0,.int .i64 0,.int .i64 0,.int .i64 0]
theorem infoK : (Try.prog.info? 135).map (fun i => (i.zero,i.size,i.bytes)) = some (some zKind,19,152):=by kernel_rfl
theorem cellsK : zKind.cells = #[.int .i64 0,.int .i64 0,.int .i64 0,.int .i64 0,.int .i64 0,.int .i64 0,.int .i64 0,.int .i64 0,.int .i64 0,.int .i64 0,.int .i64 0,.int .i64 0,.int .i64 0,.int .i64 0,.int .i64 0,.int .i64 0,.int .i64 0,.int .i64 0,.int .i64 0]:=by rfl
theorem cellsK0 : ∀ i,i < zKind.cells.size -> zKind.cells[i]! = .int .i64 0:=fun i hi => by
 rw [cellsK] at hi ⊢
 have : ∀ i : Fin 19,(#[.int .i64 0,.int .i64 0,.int .i64 0,.int .i64 0,.int .i64 0,.int .i64 0,.int .i64 0,.int .i64 0,.int .i64 0,.int .i64 0,.int .i64 0,.int .i64 0,.int .i64 0,.int .i64 0,.int .i64 0,.int .i64 0,.int .i64 0,.int .i64 0,.int .i64 0] : Array Value)[i.1]! = .int .i64 0:=fun i => by
  obtain ⟨i,hi⟩:=i
  repeat (rcases i with _ | i; rfl)
  omega
 exact this ⟨i,hi⟩
theorem made_many (w : World) (z : Array Value) (v : Value) (n t : Nat) (h0 : 0 < z.size) (hz : ∀ i,i < z.size -> z[i]! = v) : ValsAt (w.alloc (.cells (madeCells z n) t)) w.heap.size n (fun _ => v):=by
 have h : (w.alloc (.cells (madeCells z n) t)).heap[w.heap.size]? = some (.cells (madeCells z n) t (0,0)):=heap_alloc_new w _
 refine ⟨fun i hi => ?_,fun i => Go.Joins.unfrozen_of_block h i,heap_lt h⟩
 have hm : (madeCells z n)[i]? = some v:=by
  unfold madeCells
  simp [hi]
  have:=hz (i % z.size) (Nat.mod_lt _ h0)
  simpa using this
 rw [World.cell?]
 simp only [h]
 exact hm
theorem make_kinds (n : Nat) (hn : n <= 1000) (w : World) : (Instr.makeSlice 128 (.int .i64 (n : Int)) (.int .i64 (n : Int))).run Try.prog w = .ok (.slice (some ⟨w.heap.size,0,none⟩) n n) (w.alloc (.cells (madeCells zKind.cells (n * 19)) 135)):=by
 obtain ⟨i,hi,hzz⟩:=Option.map_eq_some_iff.1 infoK
 simp only [Prod.mk.injEq] at hzz
 obtain ⟨hz,hs,hb⟩:=hzz
 have hr:=run_make (P:=Try.prog) w 128 135 i zKind Try.underlying128 hi hz .i64 .i64 n n (by omega) (Int.le_refl _) (by rw [hb]; omega) (by omega)
 simp only [Int.toNat_natCast,hs] at hr
 exact hr
end Go.Proofs.Yteehgcbjmdideab
