/- Words as they lie in memory; 'End' and 'On' of them. -/
import Derived.Test.YteehgcbjmdideabVWoE
import Derived.Test.YteehgcbjmdideabVM11
set_option maxRecDepth 100000
namespace Go.Proofs.Yteehgcbjmdideab
open Go.RowKit
attribute [local go_sem ↓] Go.wp_at_zero Go.wp_at_succ
theorem NumsAt.blk {w w' : World} {g n : Nat} {c : List Int} (h : NumsAt w g n c) (hb : w'.heap[g]? = w.heap[g]?) : NumsAt w' g n c:=by
 refine ⟨h.len,fun i hi => cells_same hb (h.cell i hi),fun i => frz_block hb (h.frz i),?_⟩
 have h1:=h.lt
 by_cases e : g < w'.heap.size
 ·exact e
 ·rw [Array.getElem?_eq_getElem h1,Array.getElem?_eq_none (by omega)] at hb
  cases hb
structure WV (W : World) (t : FstD) (N : Nat) (fin arcs cv pv lv : Value) (cs : List (List Int)) (ps ls : List Int) : Prop where
 fin : ISlice W fin t.final
 arcs : ASlice W arcs t.arcs
 C : ∃ gC kC,cv = .slice (some ⟨gC,0,none⟩) cs.length kC /\ ∀ (j : Nat) (V : List Int),cs[j]? = some V -> ∃ G cap,W.cell? ⟨gC,j,none⟩ = some (.slice (some ⟨G,0,none⟩) N cap) /\ NumsAt W G N V
 P : ∃ gP kP,pv = .slice (some ⟨gP,0,none⟩) ps.length kP /\ NumsAt W gP ps.length ps
 L : ∃ gL kL,lv = .slice (some ⟨gL,0,none⟩) ls.length kL /\ NumsAt W gL ls.length ls
theorem WV.below {W Wx : World} {t : FstD} {N : Nat} {fin arcs cv pv lv : Value} {cs : List (List Int)} {ps ls : List Int} (h : WV W t N fin arcs cv pv lv cs ps ls) (hb : Below W.heap.size W Wx) : WV Wx t N fin arcs cv pv lv cs ps ls:=by
 obtain ⟨gC,kC,e1,h1⟩:=h.C
 obtain ⟨gP,kP,e2,h2⟩:=h.P
 obtain ⟨gL,kL,e3,h3⟩:=h.L
 exact ⟨h.fin.below hb,h.arcs.below hb,⟨gC,kC,e1,fun j V hj => by
  obtain ⟨G,cap,h4,h5⟩:=h1 j V hj
  exact ⟨G,cap,bel_c hb h4,h5.below hb⟩⟩,⟨gP,kP,e2,h2.below hb⟩,⟨gL,kL,e3,h3.below hb⟩⟩
theorem wv_of {w w3 Wm w' : World} {t : FstD} {N : Nat} {sta : Int} {fin arcs cv pv lv : Value} {LC : List Value} {cs : List (List Int)} {ps ls : List Int} (hF : Sc.FreshT (w.heap.size + 2) w3 fin arcs t) (hR : w.heap.size + 1 < w3.heap.size) (hM : WM w3 Wm w3.heap.size N sta fin arcs cv pv lv cv pv lv LC cs ps ls) (hq : ∀ q,q ≠ w.heap.size + 1 -> w'.heap[q]? = Wm.heap[q]?)
  (h0 : 0 < cs.length) (hp : ps.length = cs.length) (hl : ls.length = cs.length) : WV w' t N fin arcs cv pv lv cs ps ls:=by
 have hlc:=hM.lc
 obtain ⟨gC,kC,e1⟩:=Go.Joins.ownsRow_form hM.oC (by omega)
 obtain ⟨gP,kP,e2⟩:=Go.Joins.ownsRow_form hM.oP (by omega)
 obtain ⟨gL,kL,e3⟩:=Go.Joins.ownsRow_form hM.oL (by omega)
 have oC:=hM.oC
 have oP:=hM.oP
 have oL:=hM.oL
 have bC:=hM.ownC gC (by rw [e1]; rfl)
 have bP:=hM.ownP gP (by rw [e2]; rfl)
 have bL:=hM.ownL gL (by rw [e3]; rfl)
 rw [e1] at oC
 rw [e2] at oP
 rw [e3] at oL
 have hIA:=hF w' fun b h1 h2 => (hq b (by omega)).trans (hM.bel.block b h2)
 refine ⟨hIA.1,hIA.2,⟨gC,kC,by rw [e1,hlc],fun j V hj => ?_⟩,⟨gP,kP,e2,(NumsAt.of_row oP).1.blk (hq gP (by omega))⟩,⟨gL,kL,e3,(NumsAt.of_row oL).1.blk (hq gL (by omega))⟩⟩
 obtain ⟨G,cap,r1,r2,r3,_⟩:=hM.rows j V hj
 exact ⟨G,cap,cells_same (hq gC (by omega)) (own_cell oC r1),r2.blk (hq G (by omega))⟩
def OnM (ps ls : List Int) (i x : Int) (k : Nat) : Prop:=gI ps k = i /\ gI ls k = x
def OnP (ps ls : List Int) (i : Nat) (x r : Int) : Prop :=
 (r = -1 /\ ∀ k,i < k -> k < ps.length -> ¬ OnM ps ls i x k) \/ ∃ k : Nat,r = (k : Int) /\ i < k /\ k < ps.length /\ OnM ps ls i x k /\ ∀ j,i < j -> j < k -> ¬ OnM ps ls i x j
set_option maxHeartbeats 1600000 in
theorem on_any (t : FstD) (N s0 : Nat) (fin arcs cv pv lv : Value) (cs : List (List Int)) (ps ls : List Int) (i x : Nat) (w : World) (h : WV w t N fin arcs cv pv lv cs ps ls) (hl : ls.length = ps.length) (hp : ps.length <= 1000) (hi : i < ps.length) :
  Calls Try.prog 51 #[.agg #[.int .i64 (N : Int),.int .i64 (s0 : Int),fin,arcs,cv,pv,lv],.int .i64 (i : Int),.int .i64 (x : Int)] w fun e w' => ∃ r,e = .returned (.int .i64 r) /\ OnP ps ls i x r /\ Below w.heap.size w w':=by
 obtain ⟨gP,kP,rfl,hP⟩:=h.P
 obtain ⟨gL,kL,rfl,hL⟩:=h.L
 obtain ⟨gC,kC,rfl,_⟩:=h.C
 obtain ⟨fa,fn,fc,rfl,_,_⟩:=h.fin.lenOf
 obtain ⟨aa,m,ac,rfl,_,_⟩:=h.arcs.lenOf
 obtain ⟨A,hA⟩ : ∃ W,W = w.alloc (.cells #[.int .i64 (N : Int),.int .i64 (s0 : Int),.slice fa fn fc,.slice aa m ac,.slice (some ⟨gC,0,none⟩) cs.length kC,.slice (some ⟨gP,0,none⟩) ps.length kP,.slice (some ⟨gL,0,none⟩) ls.length kL] 33):=⟨_,rfl⟩
 have hb : Below w.heap.size w A:=by rw [hA]; exact bel_up (bel_self w) _
 have q5 : A.cell? ⟨w.heap.size,5,none⟩ = some (.slice (some ⟨gP,0,none⟩) ps.length kP):=by rw [hA]; exact new_cell _ _ _ _ 5 _ rfl rfl
 have q6 : A.cell? ⟨w.heap.size,6,none⟩ = some (.slice (some ⟨gL,0,none⟩) ls.length kL):=by rw [hA]; exact new_cell _ _ _ _ 6 _ rfl rfl
 have hPA:=hP.below hb
 have hLA:=hL.below hb
 have HW : Hid (A = w.alloc (.cells #[.int .i64 (N : Int),.int .i64 (s0 : Int),.slice fa fn fc,.slice aa m ac,.slice (some ⟨gC,0,none⟩) cs.length kC,.slice (some ⟨gP,0,none⟩) ps.length kP,.slice (some ⟨gL,0,none⟩) ls.length kL] 33)):=hA
 have hw1 : IntKind.i64.wrap ((i : Int) + 1) = (i : Int) + 1:=wrap_in _ (by omega) (by omega)
 have HL : Hid (ls.length = ps.length):=hl
 clear hA h hP hL hl
 go_enter Try.func51,Try.ntmps51
 go_wp2
 rw [<- HW.out]
 clear HW hw1
 go_loopw [7] (fun t7 wx => ∃ k : Nat,i < k /\ k <= ps.length /\ t7 = .int .i64 (k : Int) /\ (∀ j,i < j -> j < k -> ¬ OnM ps ls i x j) /\ wx = A) (fun t7 _ => ps.length - (intOf t7).toNat)
 case atStart => exact ⟨i + 1,by omega,by omega,by go_num,fun j h1 h2 => by omega,rfl⟩
 case round =>
  obtain ⟨k,hik,hkp,rfl,hno,hwx⟩:=hrel
  subst hwx
  have HNO:=hid_of hno
  clear hno
  by_cases hlt : k < ps.length
  ·have hki : (k : Int) < ps.length:=by omega
   have hkl : (k : Int) < ls.length:=by have:=HL.out; omega
   have cp:=hPA.cell k hlt
   have cl:=hLA.cell k (by have:=HL.out; omega)
   obtain ⟨u,hu⟩ : ∃ u,gI ps k = u:=⟨_,rfl⟩
   obtain ⟨v,hv⟩ : ∃ v,gI ls k = v:=⟨_,rfl⟩
   rw [hu] at cp
   rw [hv] at cl
   have HU : Hid (gI ps k = u /\ gI ls k = v):=⟨hu,hv⟩
   have hwk : IntKind.i64.wrap ((k : Int) + 1) = (k : Int) + 1:=wrap_in _ (by omega) (by omega)
   clear hu hv
   by_cases h1 : u = (i : Int)
   ·subst h1
    by_cases h2 : v = (x : Int)
    ·subst h2
     go_wp2
     go_ret
     exact ⟨_,rfl,Or.inr ⟨k,rfl,hik,hlt,HU.out,HNO.out⟩,hb⟩
    ·have h2b : (v == (x : Int)) = false:=by simpa using h2
     have HN : Hid (∀ j,i < j -> j < k + 1 -> ¬ OnM ps ls i x j):=fun j h3 h4 => by
      by_cases e : j = k
      ·subst e
       intro hm
       exact h2 (HU.out.2.symm.trans hm.2)
      ·exact HNO.out j h3 (by omega)
     go_wp2
     go_roundw
     case rel => exact ⟨k + 1,by omega,by omega,by go_num,HN.out,trivial⟩
     case measure => simp [intOf]; omega
   ·have h1b : (u == (i : Int)) = false:=by simpa using h1
    have HN : Hid (∀ j,i < j -> j < k + 1 -> ¬ OnM ps ls i x j):=fun j h3 h4 => by
     by_cases e : j = k
     ·subst e
      intro hm
      exact h1 (HU.out.1.symm.trans hm.1)
     ·exact HNO.out j h3 (by omega)
    go_wp2
    go_roundw
    case rel => exact ⟨k + 1,by omega,by omega,by go_num,HN.out,trivial⟩
    case measure => simp [intOf]; omega
  ·have hkp2 : k = ps.length:=by omega
   subst hkp2
   have hki : ¬ (ps.length : Int) < ps.length:=by omega
   go_wp2
   go_ret
   exact ⟨_,rfl,Or.inl ⟨rfl,HNO.out⟩,hb⟩
end Go.Proofs.Yteehgcbjmdideab
/- The least that a beginning costs as a word,and that all that go on from it do. -/
namespace Go.Proofs.Yteehgcbjmdideab
def MinP (p : Int -> Prop) (x : Int) : Prop:=(x = -1 /\ ∀ y,¬ p y) \/ (0 <= x /\ p x /\ ∀ y,p y -> x <= y)
def EndP (t : FstD) (s0 : Nat) (u : List Int) (y : Int) : Prop:=∃ n z,WdR t s0 u n z /\ 0 <= gI t.final n /\ y = z + gI t.final n
def ToW (t : FstD) (s0 : Nat) (u : List Int) (y : Int) : Prop:=∃ v,EndP t s0 (v ++ u) y
theorem MinP.unique {p : Int -> Prop} {x y : Int} (h : MinP p x) (k : MinP p y) : x = y:=by
 rcases h with ⟨rfl,h1⟩ | ⟨_,h1,h2⟩
 ·rcases k with ⟨rfl,_⟩ | ⟨_,k1,_⟩
  ·rfl
  ·exact absurd k1 (h1 _)
 ·rcases k with ⟨rfl,k1⟩ | ⟨_,k1,k2⟩
  ·exact absurd h1 (k1 _)
  ·have:=h2 _ k1
   have:=k2 _ h1
   omega
theorem MinP.cong {p q : Int -> Prop} {x : Int} (h : MinP p x) (e : ∀ y,p y ↔ q y) : MinP q x:=by
 rcases h with ⟨h1,h2⟩ | ⟨h1,h2,h3⟩
 ·exact Or.inl ⟨h1,fun y hy => h2 y ((e y).2 hy)⟩
 ·exact Or.inr ⟨h1,(e x).1 h2,fun y hy => h3 y ((e y).2 hy)⟩
theorem MinP.less {p q : Int -> Prop} {x y : Int} (h : MinP p x) (k : MinP q y) : MinP (fun z => p z \/ q z) (lessC x y):=by
 unfold lessC
 rcases h with ⟨rfl,h1⟩ | ⟨h0,h1,h2⟩
 ·rw [if_pos (by decide)]
  exact k.cong fun z => ⟨Or.inr,fun h => h.resolve_left (h1 z)⟩
 ·rw [if_neg (by omega)]
  rcases k with ⟨rfl,k1⟩ | ⟨k0,k1,k2⟩
  ·rw [if_pos (Or.inl (by decide))]
   exact Or.inr ⟨h0,Or.inl h1,fun z hz => h2 z (hz.resolve_right (k1 z))⟩
  ·by_cases e : x < y
   ·rw [if_pos (Or.inr e)]
    refine Or.inr ⟨h0,Or.inl h1,fun z hz => ?_⟩
    rcases hz with hz | hz
    ·exact h2 z hz
    ·have:=k2 z hz; omega
   ·rw [if_neg (by omega)]
    refine Or.inr ⟨k0,Or.inr k1,fun z hz => ?_⟩
    rcases hz with hz | hz
    ·have:=h2 z hz; omega
    ·exact k2 z hz
theorem end_min {t : FstD} {s0 N : Nat} {V u : List Int} (hE : Enc t s0 N V 0 u) (hW : WideA t N) (hs : s0 < N) : MinP (EndP t s0 u) (endD V t.final N):=by
 have key : ∀ n,n < N -> 0 <= gI V n -> WdR t s0 u n (gI V n):=fun n hn h0 => by
  have:=hE.live hn (by omega)
  rw [Int.add_zero] at this
  exact this
 have best : ∀ n z,n < N -> WdR t s0 u n z -> 0 <= gI V n /\ gI V n <= z:=fun n z hn hr => by
  rcases hE.2.2 n hn with ⟨_,h2⟩ | ⟨h1,_,h3⟩
  ·exact absurd hr (h2 z)
  ·by_cases e : gI V n = -1
   ·rw [if_pos e] at h1; omega
   ·rw [if_neg e] at h3
    have:=h3 z hr
    rcases hE.2.1 n with h4 | h4
    ·exact absurd h4 e
    ·exact ⟨h4,by omega⟩
 rcases endD_is V t.final N with ⟨h1,h2⟩ | ⟨h1,⟨n,hn,h2,h3,h4⟩,h5⟩
 ·refine Or.inl ⟨h1,?_⟩
  rintro y ⟨n,z,hr,h0,rfl⟩
  have hn:=hr.lt hW hs
  exact h2 n hn ⟨(best n z hn hr).1,h0⟩
 ·refine Or.inr ⟨h1,⟨n,_,key n hn h2,h3,h4⟩,?_⟩
  rintro y ⟨n',z,hr,h0,rfl⟩
  have hn':=hr.lt hW hs
  have h6:=best n' z hn' hr
  have:=h5 n' hn' h6.1 h0
  omega
theorem tow_iff {t : FstD} {s0 : Nat} {u : List Int} {y : Int} : ToW t s0 u y ↔ EndP t s0 u y \/ ∃ c,ToW t s0 (c :: u) y:=by
 constructor
 ·rintro ⟨v,h⟩
  by_cases hv : v = []
  ·subst hv; exact Or.inl h
  ·right
   refine ⟨v.getLast hv,v.dropLast,?_⟩
   rw [show v.dropLast ++ v.getLast hv :: u = (v.dropLast ++ [v.getLast hv]) ++ u by simp,List.dropLast_concat_getLast hv]
   exact h
 ·rintro (h | ⟨c,v,h⟩)
  ·exact ⟨[],h⟩
  ·exact ⟨v ++ [c],by rw [List.append_assoc]; exact h⟩
theorem tow_alive {t : FstD} {s0 : Nat} {u : List Int} {y : Int} (h : ToW t s0 u y) : Alive t s0 u:=by
 obtain ⟨v,n,z,hr,_,_⟩:=h
 obtain ⟨m,z1,h1,_⟩:=(wdr_split v n z).1 hr
 exact ⟨m,z1,h1⟩
theorem alive_letter {t : FstD} {s0 N : Nat} {u : List Int} {c : Int} (hi : SubIn t N s0) (h : Alive t s0 (c :: u)) : ∃ x : Nat,c = (x : Int) /\ 1 <= x /\ x <= 9:=by
 obtain ⟨n,z,a,ha,n',z',hr,hin,_⟩:=h
 have h1:=(hi.wide a ha).2.2.2
 have h2:=(hi.acc a ha).2
 exact ⟨c.toNat,by omega,by omega,by omega⟩
section
variable {t : FstD} {N s0 : Nat} {ws cs : List (List Int)} {ps ls : List Int}
theorem gI_some {l : List Int} {k : Nat} {x : Int} (h : l[k]? = some x) : gI l k = x:=by
 unfold gI
 rw [List.getD_eq_getElem?_getD,h]
 rfl
theorem Tree.on_yes {i0 c0 : Nat} (h : Tree t N s0 ws cs ps ls i0 c0) {i k x : Nat} {u : List Int} (hu : ws[i]? = some u) (hik : i < k) (hk : k < ps.length) (hm : OnM ps ls i x k) : ws[k]? = some ((x : Int) :: u):=by
 have hkw : k < ws.length:=by have:=h.l2; omega
 obtain ⟨p,y,v,r1,r2,r3,r4,r5,r6,r7,_⟩:=h.up k _ (by omega) (List.getElem?_eq_getElem hkw)
 have e1 : p = i:=by
  have:=(gI_some r2).symm.trans hm.1
  omega
 have e2 : y = x:=by
  have:=(gI_some r3).symm.trans hm.2
  omega
 subst e1 e2
 have : v = u:=by rw [r6] at hu; injection hu
 subst this
 rw [List.getElem?_eq_getElem hkw,r7]
theorem Tree.on_no (h : Tree t N s0 ws cs ps ls ws.length 0) (hi : SubIn t N s0) {i x : Nat} {u : List Int} (hu : ws[i]? = some u) (hn : ∀ k,i < k -> k < ps.length -> ¬ OnM ps ls i x k) : ¬ Alive t s0 ((x : Int) :: u):=by
 intro ha
 obtain ⟨k,hk⟩:=List.mem_iff_getElem?.1 (h.whole hi _ ha)
 have hkw:=(List.getElem?_eq_some_iff.1 hk).1
 have hk0 : 0 < k:=by
  by_cases e : k = 0
  ·subst e
   rw [h.w0] at hk
   cases hk
  ·omega
 obtain ⟨p,y,v,r1,r2,r3,r4,r5,r6,r7,_⟩:=h.up k _ hk0 hk
 injection r7 with e1 e2
 subst e2
 have e3 : p = i:=nodup_at h.nd r6 hu
 subst e3
 refine hn k r1 (by have:=h.l2; omega) ⟨gI_some r2,?_⟩
 rw [gI_some r3,e1]
def UpTo (t : FstD) (s0 : Nat) (u : List Int) (c : Nat) (y : Int) : Prop:=EndP t s0 u y \/ ∃ x : Nat,1 <= x /\ x <= c /\ ToW t s0 ((x : Int) :: u) y
theorem upTo_zero {u : List Int} {b : Int} (h : MinP (EndP t s0 u) b) : MinP (UpTo t s0 u 0) b:=h.cong fun y => ⟨Or.inl,fun h => h.elim id fun ⟨x,h1,h2,_⟩ => by omega⟩
theorem upTo_no {u : List Int} {b : Int} {c : Nat} (h : MinP (UpTo t s0 u c) b) (hn : ¬ Alive t s0 (((c + 1 : Nat) : Int) :: u)) : MinP (UpTo t s0 u (c + 1)) b:=by
 refine h.cong fun y => ⟨fun h => h.imp id fun ⟨x,h1,h2,h3⟩ => ⟨x,h1,by omega,h3⟩,fun h => h.imp id fun ⟨x,h1,h2,h3⟩ => ?_⟩
 by_cases e : x = c + 1
 ·subst e
  exact absurd (tow_alive h3) hn
 ·exact ⟨x,h1,by omega,h3⟩
theorem upTo_yes {u : List Int} {b d : Int} {c : Nat} (h : MinP (UpTo t s0 u c) b) (hd : MinP (ToW t s0 (((c + 1 : Nat) : Int) :: u)) d) : MinP (UpTo t s0 u (c + 1)) (lessC b d):=by
 refine (h.less hd).cong fun y => ⟨fun h => ?_,fun h => ?_⟩
 ·rcases h with (h | ⟨x,h1,h2,h3⟩) | h
  ·exact Or.inl h
  ·exact Or.inr ⟨x,h1,by omega,h3⟩
  ·exact Or.inr ⟨c + 1,by omega,by omega,h⟩
 ·rcases h with h | ⟨x,h1,h2,h3⟩
  ·exact Or.inl (Or.inl h)
  ·by_cases e : x = c + 1
   ·subst e; exact Or.inr h3
   ·exact Or.inl (Or.inr ⟨x,h1,by omega,h3⟩)
theorem upTo_all {u : List Int} {b : Int} (hi : SubIn t N s0) (h : MinP (UpTo t s0 u 9) b) : MinP (ToW t s0 u) b:=by
 refine h.cong fun y => ⟨fun h => ?_,fun h => ?_⟩
 ·exact tow_iff.2 (h.imp id fun ⟨x,_,_,h3⟩ => ⟨_,h3⟩)
 ·rcases tow_iff.1 h with h | ⟨c,h⟩
  ·exact Or.inl h
  ·obtain ⟨x,rfl,h1,h9⟩:=alive_letter hi (tow_alive h)
   exact Or.inr ⟨x,h1,h9,h⟩
end
end Go.Proofs.Yteehgcbjmdideab
/- 'End' and 'Best' of words. -/
namespace Go.Proofs.Yteehgcbjmdideab
open Go.RowKit
attribute [local go_sem ↓] Go.wp_at_zero Go.wp_at_succ
set_option maxHeartbeats 1600000 in
theorem wend_any (t : FstD) (N s0 : Nat) (fin arcs cv pv lv : Value) (cs : List (List Int)) (ps ls : List Int) (i : Nat) (V : List Int) (w : World) (h : WV w t N fin arcs cv pv lv cs ps ls) (hi : SubIn t N s0) (hV : cs[i]? = some V) (hb : ∀ s,gI V s <= 400001000000000) :
  Calls Try.prog 50 #[.agg #[.int .i64 (N : Int),.int .i64 (s0 : Int),fin,arcs,cv,pv,lv],.int .i64 (i : Int)] w fun e w' => e = .returned (.int .i64 (endD V t.final N)) /\ Below w.heap.size w w':=by
 obtain ⟨gP,kP,rfl,_⟩:=h.P
 obtain ⟨gL,kL,rfl,_⟩:=h.L
 obtain ⟨gC,kC,rfl,hC⟩:=h.C
 obtain ⟨G,cap,hG,hGN⟩:=hC i V hV
 have hil:=(List.getElem?_eq_some_iff.1 hV).1
 have hili : (i : Int) < cs.length:=by omega
 obtain ⟨fa,fn,fc,rfl,hfl,_⟩:=h.fin.lenOf
 obtain ⟨aa,m,ac,rfl,_,_⟩:=h.arcs.lenOf
 have hN1 : 0 < N:=by have:=hi.hs; omega
 have hfn : fn = N:=by have:=hi.flen; omega
 subst hfn
 obtain ⟨fb,fo,rfl,hx⟩:=h.fin.some (by omega)
 have hfi : ∀ v,gI t.final v <= 1000000000:=fun v => gI_of t.final (fun x => x <= 1000000000) (fun x hx => by rcases hi.fin x hx with e | e <;> omega) (by decide) v
 have HEN : Hid (∀ W,Below w.heap.size w W -> Calls Try.prog 81 #[.agg #[.int .i64 (fn : Int),.int .i64 (s0 : Int),.slice (some ⟨fb,fo,none⟩) fn fc,.slice aa m ac],.slice (some ⟨G,0,none⟩) fn cap] W fun e w' => e = .returned (.int .i64 (endD V t.final fn)) /\ Below W.heap.size W w'):=fun W hW => ended_any t fn G cap fb fo fc (s0 : Int) (.slice aa m ac) V W hi.hN (hGN.below hW) (hx.below hW) hb hfi
 obtain ⟨A,hA⟩ : ∃ W,W = (w.alloc (.cells #[.int .i64 (fn : Int),.int .i64 (s0 : Int),.slice (some ⟨fb,fo,none⟩) fn fc,.slice aa m ac,.slice (some ⟨gC,0,none⟩) cs.length kC,.slice (some ⟨gP,0,none⟩) ps.length kP,.slice (some ⟨gL,0,none⟩) ls.length kL] 33)).drew:=⟨_,rfl⟩
 have hbA : Below w.heap.size w A:=by rw [hA]; exact (bel_up (bel_self w) _).drew
 have nc : ∀ (k : Nat) (v : Value),(#[.int .i64 (fn : Int),.int .i64 (s0 : Int),.slice (some ⟨fb,fo,none⟩) fn fc,.slice aa m ac,.slice (some ⟨gC,0,none⟩) cs.length kC,.slice (some ⟨gP,0,none⟩) ps.length kP,.slice (some ⟨gL,0,none⟩) ls.length kL] : Array Value)[k]? = some v -> A.cell? ⟨w.heap.size,k,none⟩ = some v:=fun k v hk => by rw [hA]; exact drew_cell (new_cell _ _ _ _ k _ rfl hk)
 have hS0 : (fun wx : World => wx.cell? ⟨w.heap.size,0,none⟩ = some (.int .i64 (fn : Int)) /\ wx.cell? ⟨w.heap.size,1,none⟩ = some (.int .i64 (s0 : Int)) /\ wx.cell? ⟨w.heap.size,2,none⟩ = some (.slice (some ⟨fb,fo,none⟩) fn fc) /\ wx.cell? ⟨w.heap.size,3,none⟩ = some (.slice aa m ac) /\ wx.cell? ⟨w.heap.size,4,none⟩ = some (.slice (some ⟨gC,0,none⟩) cs.length kC) /\ wx.cell? ⟨gC,i,none⟩ = some (.slice (some ⟨G,0,none⟩) fn cap)) A:=⟨nc 0 _ rfl,nc 1 _ rfl,nc 2 _ rfl,nc 3 _ rfl,nc 4 _ rfl,bel_c hbA hG⟩
 have HW:=hid_of hA
 clear h hC hG hGN hV hfl hx hfi hA nc hb
 go_enter Try.func50,Try.ntmps50
 go_wp2
 refine wp_region_noPanic ?_
 refine wp_region_U (fun wx => wx.cell? ⟨w.heap.size,0,none⟩ = some (.int .i64 (fn : Int)) /\ wx.cell? ⟨w.heap.size,1,none⟩ = some (.int .i64 (s0 : Int)) /\ wx.cell? ⟨w.heap.size,2,none⟩ = some (.slice (some ⟨fb,fo,none⟩) fn fc) /\ wx.cell? ⟨w.heap.size,3,none⟩ = some (.slice aa m ac) /\ wx.cell? ⟨w.heap.size,4,none⟩ = some (.slice (some ⟨gC,0,none⟩) cs.length kC) /\ wx.cell? ⟨gC,i,none⟩ = some (.slice (some ⟨G,0,none⟩) fn cap)) 8 (by kernel_rfl) (by rw [<- HW.out]; exact hS0) (fun _ => ?_)
 rw [<- HW.out]
 clear HW
 refine tkU (i:=0) (v:=.pointer (some ⟨w.heap.size,0,none⟩)) rfl (by kernel_rfl) (fun _ _ _ h => h) (by rfl) hS0 (fun wl hSw => ?_) ?_
 ·(try dsimp only at hSw); obtain ⟨o0,o1,o2,o3,o4,o5⟩:=hSw; go_simp
 refine tkU (i:=1) (v:=.agg #[.int .i64 (fn : Int),.int .i64 (s0 : Int),.slice (some ⟨fb,fo,none⟩) fn fc,.slice aa m ac]) rfl (by kernel_rfl) (fun _ _ _ h => h) (by rfl) hS0 (fun wl hSw => ?_) ?_
 ·(try dsimp only at hSw); obtain ⟨o0,o1,o2,o3,o4,o5⟩:=hSw; go_simp
 refine tkU (i:=2) (v:=.pointer (some ⟨w.heap.size,4,none⟩)) rfl (by kernel_rfl) (fun _ _ _ h => h) (by rfl) hS0 (fun wl hSw => ?_) ?_
 ·(try dsimp only at hSw); obtain ⟨o0,o1,o2,o3,o4,o5⟩:=hSw; go_simp
 refine tkU (i:=3) (v:=.slice (some ⟨gC,0,none⟩) cs.length kC) rfl (by kernel_rfl) (fun _ _ _ h => h) (by rfl) hS0 (fun wl hSw => ?_) ?_
 ·(try dsimp only at hSw); obtain ⟨o0,o1,o2,o3,o4,o5⟩:=hSw; go_simp
 refine tkU (i:=4) (v:=.int .i64 (i : Int)) rfl (by kernel_rfl) (fun _ _ _ h => h) (by rfl) hS0 (fun wl hSw => ?_) ?_
 ·(try dsimp only at hSw); obtain ⟨o0,o1,o2,o3,o4,o5⟩:=hSw; go_simp
 refine tkU (i:=5) (v:=.pointer (some ⟨gC,i,none⟩)) rfl (by kernel_rfl) (fun _ _ _ h => h) (by rfl) hS0 (fun wl hSw => ?_) ?_
 ·(try dsimp only at hSw); obtain ⟨o0,o1,o2,o3,o4,o5⟩:=hSw; go_simp
 refine tkU (i:=6) (v:=.slice (some ⟨G,0,none⟩) fn cap) rfl (by kernel_rfl) (fun _ _ _ h => h) (by rfl) hS0 (fun wl hSw => ?_) ?_
 ·(try dsimp only at hSw); obtain ⟨o0,o1,o2,o3,o4,o5⟩:=hSw; go_simp
 refine wpAnyU_one (i:=7) rfl (by kernel_rfl) (fun K hK => ?_)
 go_simp
 refine (HEN.out A hbA).mono ?_
 rintro e w2 ⟨rfl,hb2⟩
 refine hK.out _ _ ⟨fun _ => ⟨bel_c hb2 hS0.1,bel_c hb2 hS0.2.1,bel_c hb2 hS0.2.2.1,bel_c hb2 hS0.2.2.2.1,bel_c hb2 hS0.2.2.2.2.1,bel_c hb2 hS0.2.2.2.2.2⟩,?_⟩
 clear hK K
 refine wpAnyU_one (i:=8) rfl (by kernel_rfl) (fun K hK => ?_)
 go_simp
 refine hK.out _ _ ⟨fun h => absurd rfl h,?_⟩
 clear hK K
 refine wpAnyU_done (by kernel_rfl) ?_ _
 refine NoPanic.normal ?_
 go_wp2
 go_ret
 exact ⟨rfl,bel_on hbA hb2⟩
structure Whole (t : FstD) (N s0 : Nat) (ws cs : List (List Int)) (ps ls : List Int) : Prop where
 tree : Tree t N s0 ws cs ps ls ws.length 0
 few : ws.length <= 200
 sin : SubIn t N s0
set_option maxHeartbeats 3200000 in
theorem best_any (t : FstD) (N s0 : Nat) (fin arcs cv pv lv : Value) (ws cs : List (List Int)) (ps ls : List Int) (hT : Whole t N s0 ws cs ps ls) :
  ∀ (d i : Nat) (u : List Int) (w : World),ps.length - i < d -> ws[i]? = some u -> WV w t N fin arcs cv pv lv cs ps ls ->
  Calls Try.prog 47 #[.agg #[.int .i64 (N : Int),.int .i64 (s0 : Int),fin,arcs,cv,pv,lv],.int .i64 (i : Int)] w fun e w' => ∃ b,e = .returned (.int .i64 b) /\ MinP (ToW t s0 u) b /\ Below w.heap.size w w':=by
 intro d
 induction d with
 | zero => intro i u w h; omega
 | succ d ih =>
  intro i u w hd hu h
  have hil:=(List.getElem?_eq_some_iff.1 hu).1
  have l1:=hT.tree.l1
  have l2:=hT.tree.l2
  have l3:=hT.tree.l3
  have hfew:=hT.few
  obtain ⟨V,hV,hVl,hE,hVb⟩:=hT.tree.enc i u hu
  have hmin:=end_min hE hT.sin.wide hT.sin.hs
  have HEN : Hid (∀ W,Below w.heap.size w W -> Calls Try.prog 50 #[.agg #[.int .i64 (N : Int),.int .i64 (s0 : Int),fin,arcs,cv,pv,lv],.int .i64 (i : Int)] W fun e w' => e = .returned (.int .i64 (endD V t.final N)) /\ Below W.heap.size W w'):=fun W hW => wend_any t N s0 fin arcs cv pv lv cs ps ls i V W (h.below hW) hT.sin hV (fun s => by have:=hVb s; omega)
  have HON : Hid (∀ (x : Nat) (W : World),Below w.heap.size w W -> Calls Try.prog 51 #[.agg #[.int .i64 (N : Int),.int .i64 (s0 : Int),fin,arcs,cv,pv,lv],.int .i64 (i : Int),.int .i64 (x : Int)] W fun e w' => ∃ r,e = .returned (.int .i64 r) /\ OnP ps ls i x r /\ Below W.heap.size W w'):=fun x W hW => on_any t N s0 fin arcs cv pv lv cs ps ls i x W (h.below hW) (by omega) (by omega) (by omega)
  have HBE : Hid (∀ (k : Nat) (v : List Int) (W : World),i < k -> k < ps.length -> ws[k]? = some v -> Below w.heap.size w W -> Calls Try.prog 47 #[.agg #[.int .i64 (N : Int),.int .i64 (s0 : Int),fin,arcs,cv,pv,lv],.int .i64 (k : Int)] W fun e w' => ∃ b,e = .returned (.int .i64 b) /\ MinP (ToW t s0 v) b /\ Below W.heap.size W w'):=fun k v W h1 h2 h3 hW => ih k v W (by omega) h3 (h.below hW)
  have HT:=hid_of hT
  have HU:=hid_of hu
  obtain ⟨gP,kP,rfl,_⟩:=h.P
  obtain ⟨gL,kL,rfl,_⟩:=h.L
  obtain ⟨gC,kC,rfl,_⟩:=h.C
  obtain ⟨fa,fn,fc,rfl,_,_⟩:=h.fin.lenOf
  obtain ⟨aa,m,ac,rfl,_,_⟩:=h.arcs.lenOf
  obtain ⟨b0,hb0⟩ : ∃ b,b = endD V t.final N:=⟨_,rfl⟩
  have HB0 : Hid (b0 = endD V t.final N):=hb0
  rw [<- hb0] at hmin
  have HMN:=hid_of (upTo_zero hmin)
  obtain ⟨A,hA⟩ : ∃ W,W = w.alloc (.cells #[.int .i64 (N : Int),.int .i64 (s0 : Int),.slice fa fn fc,.slice aa m ac,.slice (some ⟨gC,0,none⟩) cs.length kC,.slice (some ⟨gP,0,none⟩) ps.length kP,.slice (some ⟨gL,0,none⟩) ls.length kL] 33):=⟨_,rfl⟩
  have hbA : Below w.heap.size w A:=by rw [hA]; exact bel_up (bel_self w) _
  have nc : ∀ (k : Nat) (v : Value),(#[.int .i64 (N : Int),.int .i64 (s0 : Int),.slice fa fn fc,.slice aa m ac,.slice (some ⟨gC,0,none⟩) cs.length kC,.slice (some ⟨gP,0,none⟩) ps.length kP,.slice (some ⟨gL,0,none⟩) ls.length kL] : Array Value)[k]? = some v -> A.cell? ⟨w.heap.size,k,none⟩ = some v:=fun k v hk => by rw [hA]; exact new_cell _ _ _ _ k _ rfl hk
  have HCL : Hid (∀ W,Below A.heap.size A W -> ∀ (k : Nat) (v : Value),(#[.int .i64 (N : Int),.int .i64 (s0 : Int),.slice fa fn fc,.slice aa m ac,.slice (some ⟨gC,0,none⟩) cs.length kC,.slice (some ⟨gP,0,none⟩) ps.length kP,.slice (some ⟨gL,0,none⟩) ls.length kL] : Array Value)[k]? = some v -> W.cell? ⟨w.heap.size,k,none⟩ = some v):=fun W hW k v hk => bel_c hW (nc k v hk)
  have hen:=HEN.out A hbA
  rw [<- HB0.out] at hen
  have HW:=hid_of hA
  rw [hA] at hen
  clear hA nc h ih hd hu hT hV hVl hE hVb hmin hb0 l1 l2 l3 hfew hil
  go_enter Try.func47,Try.ntmps47
  go_wp2_with (go_at_call 50; refine hen.mono ?_; rintro e w1 ⟨rfl,hb1⟩; rw [<- HW.out] at hb1; clear hen)
  clear HW
  go_loopw [5,6] (fun t5 t6 wx => ∃ (c : Nat) (b : Int),c <= 9 /\ t5 = .int .i64 b /\ t6 = .int .i64 ((c : Int) + 1) /\ MinP (UpTo t s0 u c) b /\ Below A.heap.size A wx) (fun _ t6 _ => 10 - (intOf t6).toNat)
  case atStart => exact ⟨0,b0,by omega,rfl,rfl,HMN.out,hb1⟩
  case round =>
   clear HMN HB0 hb1
   obtain ⟨c,b,hc9,rfl,rfl,hm,hbr⟩:=hrel
   have HM:=hid_of hm
   clear hm
   by_cases hc : c < 9
   ·have hci : (c : Int) + 1 <= 9:=by omega
    have hwc : IntKind.i64.wrap ((c : Int) + 1 + 1) = (c : Int) + 1 + 1:=wrap_in _ (by omega) (by omega)
    have q0:=HCL.out wr hbr 0 _ rfl
    have q1:=HCL.out wr hbr 1 _ rfl
    have q2:=HCL.out wr hbr 2 _ rfl
    have q3:=HCL.out wr hbr 3 _ rfl
    have q4:=HCL.out wr hbr 4 _ rfl
    have q5:=HCL.out wr hbr 5 _ rfl
    have q6:=HCL.out wr hbr 6 _ rfl
    have hon:=HON.out (c + 1) wr (bel_on hbA hbr)
    rw [show (((c + 1 : Nat) : Int)) = (c : Int) + 1 by omega] at hon
    go_wp2_with fail
    refine hon.mono ?_
    rintro e w2 ⟨r,rfl,hr,hb2⟩
    clear hon
    have HR:=hid_of hr
    have hb2':=bel_on hbr hb2
    clear hr q0 q1 q2 q3 q4 q5 q6
    by_cases h0 : 0 <= r
    ·obtain ⟨k,rfl,hik,hkp,hmk⟩ : ∃ k : Nat,r = (k : Int) /\ i < k /\ k < ps.length /\ OnM ps ls i ((c : Int) + 1) k:=by
      rcases HR.out with ⟨e,_⟩ | ⟨k,e1,e2,e3,e4,_⟩
      ·omega
      ·exact ⟨k,e1,e2,e3,e4⟩
     have hwk:=HT.out.tree.on_yes (x:=c + 1) HU.out hik hkp (by rw [show (((c + 1 : Nat) : Int)) = (c : Int) + 1 by omega]; exact hmk)
     have hbe:=HBE.out k _ w2 hik hkp hwk (bel_on hbA hb2')
     have q0:=HCL.out w2 hb2' 0 _ rfl
     have q1:=HCL.out w2 hb2' 1 _ rfl
     have q2:=HCL.out w2 hb2' 2 _ rfl
     have q3:=HCL.out w2 hb2' 3 _ rfl
     have q4:=HCL.out w2 hb2' 4 _ rfl
     have q5:=HCL.out w2 hb2' 5 _ rfl
     have q6:=HCL.out w2 hb2' 6 _ rfl
     clear hmk hwk HR
     go_wp2_with (first | (go_at_call 47; refine hbe.mono ?_; rintro e w3 ⟨b3,rfl,hm3,hb3⟩; clear hbe; have HY:=hid_of (upTo_yes HM.out hm3); clear hm3) | (go_at_call 38; refine (lessRef_any b b3 _).mono ?_; rintro e w4 ⟨rfl,hw4⟩; obtain rfl:=hw4.symm))
     go_roundw
     case rel => exact ⟨c + 1,lessC b b3,by omega,rfl,by go_num,HY.out,bel_on hb2' hb3⟩
     case measure => simp [intOf]; omega
    ·have HN : Hid (MinP (UpTo t s0 u (c + 1)) b):=by
      refine upTo_no HM.out (HT.out.tree.on_no HT.out.sin HU.out ?_)
      rcases HR.out with ⟨_,e⟩ | ⟨k,e1,_⟩
      ·rw [show (((c + 1 : Nat) : Int)) = (c : Int) + 1 by omega]; exact e
      ·omega
     clear HR
     go_wp2
     go_roundw
     case rel => exact ⟨c + 1,b,by omega,rfl,by go_num,HN.out,hb2'⟩
     case measure => simp [intOf]; omega
   ·have hc2 : c = 9:=by omega
    subst hc2
    go_wp2
    go_ret
    exact ⟨b,rfl,upTo_all HT.out.sin HM.out,bel_on hbA hbr⟩
end Go.Proofs.Yteehgcbjmdideab
