/- The words of one that is trimmed, as a tree of beginnings: what stays true while it grows. -/
import Derived.Test.YteehgcbjmdideabQM23
import Derived.Test.YteehgcbjmdideabQM15
import Derived.Test.YteehgcbjmdideabQOwF
import Derived.Test.YteehgcbjmdideabQM13
import Derived.Test.YteehgcbjmdideabQM00
namespace Go.Proofs.Yteehgcbjmdideab
def lessB (at' : List Int) (j : Nat) (l : List Int) (a : ArcD) : List Int :=
 if a.inp = (j : Int) + 1 ∧ 0 ≤ gI at' a.src.toNat then l.set a.dst.toNat (lessC (gI l a.dst.toNat) (gI at' a.src.toNat + a.wt)) else l
theorem lessB_eq {at' : List Int} {j : Nat} {l : List Int} {a : ArcD} (hlo : ∀ s, gI at' s = -1 ∨ 0 ≤ gI at' s) (hl : ∀ s, gI l s = -1 ∨ 0 ≤ gI l s) (hw : 0 ≤ a.wt) : lessB at' j l a = stepB at' j l a := by
 unfold lessB stepB
 by_cases hi : a.inp = (j : Int) + 1
 ·rw [if_pos hi]
  have h1 := hlo a.src.toNat
  have h2 := hl a.dst.toNat
  by_cases h0 : 0 ≤ gI at' a.src.toNat
  ·rw [if_pos ⟨hi, h0⟩]
   have hp : plusC (gI at' a.src.toNat) a.wt = gI at' a.src.toNat + a.wt := by unfold plusC; rw [if_neg (by omega)]
   rw [hp]
   by_cases hb : gI l a.dst.toNat = -1 ∨ gI at' a.src.toNat + a.wt < gI l a.dst.toNat
   ·rw [if_pos ((better_iff (by omega) (by omega)).2 ⟨by omega, hb⟩)]
    have : lessC (gI l a.dst.toNat) (gI at' a.src.toNat + a.wt) = gI at' a.src.toNat + a.wt := by
     unfold lessC
     by_cases e : gI l a.dst.toNat < 0
     ·rw [if_pos e]
     ·rw [if_neg e, if_neg (by omega)]
    rw [this]
   ·rw [if_neg (fun h => hb ((better_iff (by omega) (by omega)).1 h).2)]
    have : lessC (gI l a.dst.toNat) (gI at' a.src.toNat + a.wt) = gI l a.dst.toNat := by
     unfold lessC
     rw [if_neg (by omega)]
     by_cases e : gI l a.dst.toNat < gI at' a.src.toNat + a.wt
     ·rw [if_pos (Or.inr e)]
     ·rw [if_neg (by omega)]
      omega
    rw [this, set_same]
  ·rw [if_neg (by rintro ⟨_, h⟩; exact h0 h)]
   have hp : plusC (gI at' a.src.toNat) a.wt = -1 := by unfold plusC; rw [if_pos (by omega)]
   rw [hp]
   have : ¬ betterB (-1) (gI l a.dst.toNat) = true := by unfold betterB; simp
   rw [if_neg this]
 ·rw [if_neg hi, if_neg (by rintro ⟨h, _⟩; exact hi h)]
def goesB (at' : List Int) (j : Nat) (ars : List ArcD) : Bool := ars.any fun a => decide (a.inp = (j : Int) + 1) && decide (0 ≤ gI at' a.src.toNat)
theorem take_snocA {l : List ArcD} {k : Nat} {x : ArcD} (h : l[k]? = some x) : l.take (k + 1) = l.take k ++ [x] := by
 rw [List.take_add_one, h]
 rfl
theorem behL_take {at' : List Int} {N : Nat} {ars : List ArcD} {j k : Nat} {a : ArcD} (hlo : ∀ s, gI at' s = -1 ∨ 0 ≤ gI at' s) (hw : ∀ b ∈ ars, 0 ≤ b.dst ∧ b.dst < N ∧ 0 ≤ b.wt) (hk : ars[k]? = some a) :
  behL at' N (ars.take (k + 1)) j = (if a.inp = (j : Int) + 1 ∧ 0 ≤ gI at' a.src.toNat then (behL at' N (ars.take k) j).set a.dst.toNat (lessC (gI (behL at' N (ars.take k) j) a.dst.toNat) (gI at' a.src.toNat + a.wt)) else behL at' N (ars.take k) j) := by
 rw [take_snocA hk, behL_snoc, ← lessB_eq hlo (fun s => ?_) (hw a (List.mem_of_getElem? hk)).2.2]
 ·rfl
 ·by_cases hs : s < N
  ·rcases behL_what (N := N) j hlo (ars.take k) (fun b hb => hw b (List.mem_of_mem_take hb)) s hs with ⟨e, _⟩ | ⟨e, _⟩
   ·exact Or.inl e
   ·exact Or.inr e
  ·exact Or.inl (gI_out (by rw [behL_len]; omega))
theorem goesB_take {at' : List Int} {ars : List ArcD} {j k : Nat} {a : ArcD} (hk : ars[k]? = some a) : goesB at' j (ars.take (k + 1)) = (goesB at' j (ars.take k) || (decide (a.inp = (j : Int) + 1) && decide (0 ≤ gI at' a.src.toNat))) := by
 rw [take_snocA hk]
 unfold goesB
 rw [List.any_append]
 simp
structure Tree (t : FstD) (N s0 : Nat) (ws cs : List (List Int)) (ps ls : List Int) (i c : Nat) : Prop where
 l1 : cs.length = ws.length
 l2 : ps.length = ws.length
 l3 : ls.length = ws.length
 w0 : ws[0]? = some []
 p0 : ps[0]? = some (-1)
 q0 : ls[0]? = some 0
 up : ∀ (j : Nat) (w : List Int), 0 < j → ws[j]? = some w → ∃ (p x : Nat) (v : List Int), p < j ∧ ps[j]? = some (p : Int) ∧ ls[j]? = some (x : Int) ∧ 1 ≤ x ∧ x ≤ 9 ∧ ws[p]? = some v ∧ w = (x : Int) :: v ∧ (p < i ∨ (p = i ∧ x ≤ c))
 nd : ws.Nodup
 enc : ∀ (j : Nat) (w : List Int), ws[j]? = some w → ∃ V, cs[j]? = some V ∧ V.length = N ∧ Enc t s0 N V 0 w ∧ ∀ s, gI V s ≤ (j : Int) * 1000000000
 live : ∀ w ∈ ws, Alive t s0 w
 all : ∀ (j x : Nat) (v : List Int), (j < i ∨ (j = i ∧ x ≤ c)) → 1 ≤ x → x ≤ 9 → ws[j]? = some v → Alive t s0 ((x : Int) :: v) → (x : Int) :: v ∈ ws
section
variable {t : FstD} {N s0 : Nat} {ws cs : List (List Int)} {ps ls : List Int} {i c : Nat}
theorem tree_start (hi : SubIn t N s0) : Tree t N s0 [[]] [onlyL N s0] [-1] [0] 0 0 where
 l1 := rfl
 l2 := rfl
 l3 := rfl
 w0 := rfl
 p0 := rfl
 q0 := rfl
 up := fun j w hj hw => by
  have := (List.getElem?_eq_some_iff.1 hw).1
  simp at this
  omega
 nd := by simp
 enc := fun j w hw => by
  have hj := (List.getElem?_eq_some_iff.1 hw).1
  obtain rfl : j = 0 := by simp at hj; omega
  have : w = [] := by simpa using hw.symm
  subst this
  refine ⟨onlyL N s0, rfl, by unfold onlyL; simp, enc_start hi.hs, fun s => ?_⟩
  by_cases hs : s < (onlyL N s0).length
  ·have := onlyL_ok N s0 _ (gI_mem hs)
   omega
  ·rw [gI_out (by omega)]; omega
 live := fun w hw => by
  have : w = [] := by simpa using hw
  subst this
  exact ⟨s0, 0, rfl, rfl⟩
 all := fun j x v h1 h2 => by omega
theorem Tree.none (h : Tree t N s0 ws cs ps ls i c) {V v : List Int} (hv : ws[i]? = some v) (hV : cs[i]? = some V) (hi : SubIn t N s0) (hg : goesB V c t.arcs = false) : Tree t N s0 ws cs ps ls i (c + 1) := by
 obtain ⟨V', hV', hl, hE, hb⟩ := h.enc i v hv
 have : V' = V := by rw [hV] at hV'; injection hV' with h; exact h.symm
 subst this
 refine ⟨h.l1, h.l2, h.l3, h.w0, h.p0, h.q0, fun j w hj hw => ?_, h.nd, h.enc, h.live, fun j x u hlt h1 h9 hu ha => ?_⟩
 ·obtain ⟨p, x, v, r1, r2, r3, r4, r5, r6, r7, r8⟩ := h.up j w hj hw
  exact ⟨p, x, v, r1, r2, r3, r4, r5, r6, r7, by omega⟩
 ·by_cases e : j = i ∧ x = c + 1
  ·obtain ⟨rfl, rfl⟩ := e
   exfalso
   have : u = v := by rw [hu] at hv; injection hv
   subst this
   obtain ⟨n, z, a, ha, n', z', hr, hin, hs, hd, rfl⟩ := ha
   unfold goesB at hg
   rw [List.any_eq_false] at hg
   have h5 := hg a ha
   have hn' := hr.lt hi.wide hi.hs
   have h6 : 0 ≤ gI V' n' := by
    rcases hE.2.2 n' hn' with ⟨_, h7⟩ | ⟨h7, _⟩
    ·exact absurd hr (h7 _)
    ·by_cases e : gI V' n' = -1
     ·rw [if_pos e] at h7; omega
     ·rcases hE.2.1 n' with h8 | h8
      ·exact absurd h8 e
      ·exact h8
   apply h5
   rw [hs, Int.toNat_natCast]
   have : a.inp = (c : Int) + 1 := by rw [hin]; omega
   simp [this, h6]
  ·exact h.all j x u (by omega) h1 h9 hu ha
theorem Tree.more (h : Tree t N s0 ws cs ps ls i c) {V v : List Int} (hv : ws[i]? = some v) (hV : cs[i]? = some V) (hi : SubIn t N s0) (hc : c < 9) (hg : goesB V c t.arcs = true) :
  Tree t N s0 (ws ++ [((c : Int) + 1) :: v]) (cs ++ [behL V N t.arcs c]) (ps ++ [(i : Int)]) (ls ++ [(c : Int) + 1]) i (c + 1) := by
 obtain ⟨V', hV', hl, hE, hb⟩ := h.enc i v hv
 have : V' = V := by rw [hV] at hV'; injection hV' with h; exact h.symm
 subst this
 have hil := (List.getElem?_eq_some_iff.1 hv).1
 have hE2 := hE.next hi.wide hi.hs c
 have hlive : Alive t s0 (((c : Int) + 1) :: v) := by
  unfold goesB at hg
  obtain ⟨a, ha, h1⟩ := List.any_eq_true.1 hg
  rw [Bool.and_eq_true] at h1
  have h2 := of_decide_eq_true h1.1
  have h3 := of_decide_eq_true h1.2
  have hw := hi.wide a ha
  have hr := hE.live (n := a.src.toNat) (by omega) (by omega)
  exact ⟨a.dst.toNat, _, a, ha, a.src.toNat, _, hr, h2, by omega, by omega, rfl⟩
 have hnew : ((c : Int) + 1) :: v ∉ ws := by
  intro hin
  obtain ⟨j, hj⟩ := List.mem_iff_getElem?.1 hin
  by_cases e : 0 < j
  ·obtain ⟨p, x, u, r1, r2, r3, r4, r5, r6, r7, r8⟩ := h.up j _ e hj
   injection r7 with r9 r10
   have : p = i := nodup_at h.nd (by rw [r6, ← r10]) hv
   omega
  ·obtain rfl : j = 0 := by omega
   have := h.w0
   rw [this] at hj
   cases hj
 have ext : ∀ {j : Nat} {w : List Int}, ws[j]? = some w → (ws ++ [((c : Int) + 1) :: v])[j]? = some w := fun hw => by
  rw [List.getElem?_append_left (List.getElem?_eq_some_iff.1 hw).1]; exact hw
 have old : ∀ {j : Nat} {w : List Int}, (ws ++ [((c : Int) + 1) :: v])[j]? = some w → (j < ws.length ∧ ws[j]? = some w) ∨ (j = ws.length ∧ w = ((c : Int) + 1) :: v) := fun {j w} hw => by
  by_cases e : j < ws.length
  ·rw [List.getElem?_append_left e] at hw
   exact Or.inl ⟨e, hw⟩
  ·have := (List.getElem?_eq_some_iff.1 hw).1
   rw [List.length_append, List.length_singleton] at this
   obtain rfl : j = ws.length := by omega
   rw [List.getElem?_append_right (Nat.le_refl _), Nat.sub_self] at hw
   exact Or.inr ⟨rfl, by simpa using hw.symm⟩
 have l1 := h.l1
 have l2 := h.l2
 have l3 := h.l3
 have at0 : ∀ {l : List Int} {x y : Int}, l[0]? = some x → (l ++ [y])[0]? = some x := fun hl => by
  rw [List.getElem?_append_left (List.getElem?_eq_some_iff.1 hl).1]; exact hl
 refine ⟨by simp [l1], by simp [l2], by simp [l3], ext h.w0, at0 h.p0, at0 h.q0, fun j w hj hw => ?_, ?_, fun j w hw => ?_, fun w hw => ?_, fun j x u hlt h1 h9 hu ha => ?_⟩
 ·rcases old hw with ⟨e, hw'⟩ | ⟨rfl, rfl⟩
  ·obtain ⟨p, x, u, r1, r2, r3, r4, r5, r6, r7, r8⟩ := h.up j w hj hw'
   exact ⟨p, x, u, r1, by rw [List.getElem?_append_left (by omega)]; exact r2, by rw [List.getElem?_append_left (by omega)]; exact r3, r4, r5, ext r6, r7, by omega⟩
  ·refine ⟨i, c + 1, v, hil, ?_, ?_, by omega, by omega, ext hv, by simp, by omega⟩
   ·rw [List.getElem?_append_right (by omega), l2, Nat.sub_self]; rfl
   ·rw [List.getElem?_append_right (by omega), l3, Nat.sub_self]; simp
 ·rw [List.nodup_append]
  refine ⟨h.nd, by simp, fun a ha b hb e => ?_⟩
  have : b = ((c : Int) + 1) :: v := by simpa using hb
  subst this
  rw [e] at ha
  exact hnew ha
 ·rcases old hw with ⟨e, hw'⟩ | ⟨rfl, rfl⟩
  ·obtain ⟨U, r1, r2⟩ := h.enc j w hw'
   exact ⟨U, by rw [List.getElem?_append_left (by omega)]; exact r1, r2⟩
  ·refine ⟨behL V' N t.arcs c, ?_, behL_len _ _ _ _, hE2, fun s => ?_⟩
   ·rw [← l1, List.getElem?_append_right (Nat.le_refl _), Nat.sub_self]; rfl
   ·by_cases hs : s < (behL V' N t.arcs c).length
    ·have h1 := behL_bound (at' := V') (N := N) (M := (i : Int) * 1000000000) (fun s => by
      have h2 := hb s
      rcases hE.2.1 s with h3 | h3
      ·exact Or.inl h3
      ·exact Or.inr ⟨h3, h2⟩) hi.wt c _ (gI_mem hs)
     omega
    ·rw [gI_out (by omega)]; omega
 ·rcases List.mem_append.1 hw with hw | hw
  ·exact h.live w hw
  ·have : w = ((c : Int) + 1) :: v := by simpa using hw
   rw [this]
   exact hlive
 ·rcases old hu with ⟨e, hu'⟩ | ⟨rfl, rfl⟩
  ·by_cases e2 : j = i ∧ x = c + 1
   ·obtain ⟨rfl, rfl⟩ := e2
    have : u = v := by rw [hu'] at hv; injection hv
    subst this
    exact List.mem_append_right _ (by simp)
   ·exact List.mem_append_left _ (h.all j x u (by omega) h1 h9 hu' ha)
  ·omega
theorem Tree.next (h : Tree t N s0 ws cs ps ls i 9) : Tree t N s0 ws cs ps ls (i + 1) 0 :=
 ⟨h.l1, h.l2, h.l3, h.w0, h.p0, h.q0, fun j w hj hw => by
  obtain ⟨p, x, v, r1, r2, r3, r4, r5, r6, r7, r8⟩ := h.up j w hj hw
  exact ⟨p, x, v, r1, r2, r3, r4, r5, r6, r7, by omega⟩, h.nd, h.enc, h.live, fun j x v hlt h1 h9 => h.all j x v (by omega) h1 h9⟩
theorem Tree.whole (h : Tree t N s0 ws cs ps ls ws.length 0) (hi : SubIn t N s0) : ∀ u, Alive t s0 u → u ∈ ws := by
 refine words_all (List.mem_of_getElem? h.w0) fun c u hu ha => ?_
 obtain ⟨j, hj⟩ := List.mem_iff_getElem?.1 hu
 have hjl := (List.getElem?_eq_some_iff.1 hj).1
 have hc : ∃ x : Nat, c = (x : Int) ∧ 1 ≤ x ∧ x ≤ 9 := by
  obtain ⟨n, z, a, ha, n', z', hr, hin, _⟩ := ha
  have h1 := (hi.wide a ha).2.2.2
  have h2 := (hi.acc a ha).2
  exact ⟨c.toNat, by omega, by omega, by omega⟩
 obtain ⟨x, rfl, h1, h9⟩ := hc
 exact h.all j x u (Or.inl hjl) h1 h9 hj ha
theorem Tree.few (h : Tree t N s0 ws cs ps ls ws.length 0) (hi : SubIn t N s0) (hl : ws.length ≤ 200) : ¬ ManyD t s0 := by
 rintro ⟨L, h1, h2, h3⟩
 have := words_most (h.whole hi) h1 h2
 omega
theorem Tree.many (h : Tree t N s0 ws cs ps ls i c) (hl : 200 < ws.length) : ManyD t s0 := ⟨ws, h.nd, h.live, hl⟩
end
end Go.Proofs.Yteehgcbjmdideab
/- What 'WordsOf' has in memory: the transducer, the rows of costs, parents and letters; what grows, and what stays. -/
namespace Go.Proofs.Yteehgcbjmdideab
open Go.RowKit
theorem NumsAt.grown {w w' : World} {g n : Nat} {c : List Int} {row : Option Nat} (h : NumsAt w g n c) (hg : w.grownBy w' row) (hne : some g ≠ row) : NumsAt w' g n c :=
 ⟨h.len, fun i hi => (hg.cell_far ⟨g, i, none⟩ h.lt hne).trans (h.cell i hi), fun i => frz_block (hg.block g h.lt hne) (h.frz i), Nat.lt_of_lt_of_le h.lt hg.size⟩
structure WM (w0 wr : World) (Q N : Nat) (sta : Int) (fin arcs cv pv lv vC vP vL : Value) (LC : List Value) (cs : List (List Int)) (LP LL : List Int) : Prop where
 bel : Below Q w0 wr
 cf : CellsF wr Q (N : Int) sta fin arcs
 c4 : wr.cell? ⟨Q, 4, none⟩ = some cv
 c5 : wr.cell? ⟨Q, 5, none⟩ = some pv
 c6 : wr.cell? ⟨Q, 6, none⟩ = some lv
 frz : ∀ i, wr.frozen? ⟨Q, i, none⟩ = false
 oC : wr.ownsRow (Q + 1) 22 1 vC LC.length LC
 oP : wr.ownsRow (Q + 1) 3 1 vP LP.length (intsW LP)
 oL : wr.ownsRow (Q + 1) 3 1 vL LL.length (intsW LL)
 nCP : ∀ b, vC.ownBlock = some b → vP.ownBlock ≠ some b
 nCL : ∀ b, vC.ownBlock = some b → vL.ownBlock ≠ some b
 nPL : ∀ b, vP.ownBlock = some b → vL.ownBlock ≠ some b
 lc : LC.length = cs.length
 rows : ∀ (j : Nat) (V : List Int), cs[j]? = some V → ∃ G cap, LC[j]? = some (.slice (some ⟨G, 0, none⟩) N cap) ∧ NumsAt wr G N V ∧ Q < G ∧ vC.ownBlock ≠ some G ∧ vP.ownBlock ≠ some G ∧ vL.ownBlock ≠ some G
section
variable {w0 wr wx : World} {Q N : Nat} {sta : Int} {fin arcs cv pv lv vC vP vL v' : Value} {LC : List Value} {cs : List (List Int)} {LP LL : List Int}
theorem WM.lt (h : WM w0 wr Q N sta fin arcs cv pv lv vC vP vL LC cs LP LL) : Q < wr.heap.size := cell_lt h.c4
theorem WM.below (h : WM w0 wr Q N sta fin arcs cv pv lv vC vP vL LC cs LP LL) (hb : Below wr.heap.size wr wx) : WM w0 wx Q N sta fin arcs cv pv lv vC vP vL LC cs LP LL :=
 ⟨h.bel.trans (hb.mono (Nat.le_of_lt h.lt)), h.cf.below hb, bel_c hb h.c4, bel_c hb h.c5, bel_c hb h.c6, fun i => (hb.frozen (p := ⟨Q, i, none⟩) h.lt).trans (h.frz i), ownsRow_bel h.oC hb, ownsRow_bel h.oP hb, ownsRow_bel h.oL hb, h.nCP, h.nCL, h.nPL, h.lc, fun j V hV => by
  obtain ⟨G, cap, r1, r2, r3⟩ := h.rows j V hV
  exact ⟨G, cap, r1, r2.below hb, r3⟩⟩
theorem WM.ownC (h : WM w0 wr Q N sta fin arcs cv pv lv vC vP vL LC cs LP LL) : ∀ b, vC.ownBlock = some b → Q < b ∧ b < wr.heap.size := fun b hb => ⟨own_base h.oC b hb, ownsRow_lt0 h.oC b hb⟩
theorem WM.ownP (h : WM w0 wr Q N sta fin arcs cv pv lv vC vP vL LC cs LP LL) : ∀ b, vP.ownBlock = some b → Q < b ∧ b < wr.heap.size := fun b hb => ⟨own_base h.oP b hb, ownsRow_lt0 h.oP b hb⟩
theorem WM.ownL (h : WM w0 wr Q N sta fin arcs cv pv lv vC vP vL LC cs LP LL) : ∀ b, vL.ownBlock = some b → Q < b ∧ b < wr.heap.size := fun b hb => ⟨own_base h.oL b hb, ownsRow_lt0 h.oL b hb⟩
theorem WM.appC (h : WM w0 wr Q N sta fin arcs cv pv lv vC vP vL LC cs LP LL) {G cap : Nat} {V : List Int} (hV : NumsAt wr G N V) (hG : Q < G) (n1 : vC.ownBlock ≠ some G) (n2 : vP.ownBlock ≠ some G) (n3 : vL.ownBlock ≠ some G) (hg : wr.grownBy wx vC.ownBlock) (ho : wx.ownsRow (Q + 1) 22 1 v' (LC.length + 1) (LC ++ [.slice (some ⟨G, 0, none⟩) N cap])) (hv : v'.ownBlock = vC.ownBlock ∨ v'.ownBlock = some wr.heap.size) :
  WM w0 wx Q N sta fin arcs cv pv lv v' vP vL (LC ++ [.slice (some ⟨G, 0, none⟩) N cap]) (cs ++ [V]) LP LL := by
 have hQl := h.lt
 have hne : some Q ≠ vC.ownBlock := fun e => by have := (h.ownC Q e.symm).1; omega
 have far : ∀ b, b < wr.heap.size → vC.ownBlock ≠ some b → v'.ownBlock ≠ some b := fun b hb hn e => by
  rcases hv with hv | hv
  ·rw [hv] at e; exact hn e
  ·rw [hv] at e; injection e with e; omega
 have hc : ∀ {i : Nat} {u : Value}, wr.cell? ⟨Q, i, none⟩ = some u → wx.cell? ⟨Q, i, none⟩ = some u := fun hh => (hg.cell_far ⟨Q, _, none⟩ hQl hne).trans hh
 refine ⟨h.bel.grown hg (by omega) (fun b hb => by have := (h.ownC b hb).1; omega), ⟨hc h.cf.1, hc h.cf.2.1, hc h.cf.2.2.1, hc h.cf.2.2.2⟩, hc h.c4, hc h.c5, hc h.c6, fun i => frz_block (hg.block Q hQl hne) (h.frz i), ?_, own_same h.oP (fun b hb => hg.block b (h.ownP b hb).2 (fun e => h.nCP b e.symm hb)), own_same h.oL (fun b hb => hg.block b (h.ownL b hb).2 (fun e => h.nCL b e.symm hb)), fun b hb e => ?_, fun b hb e => ?_, h.nPL, by simp [h.lc], fun j U hU => ?_⟩
 ·rw [List.length_append, List.length_singleton]; exact ho
 ·exact far b (h.ownP b e).2 (fun e2 => h.nCP b e2 e) hb
 ·exact far b (h.ownL b e).2 (fun e2 => h.nCL b e2 e) hb
 ·by_cases e : j < cs.length
  ·rw [List.getElem?_append_left e] at hU
   obtain ⟨G', cap', r1, r2, r3, r4, r5, r6⟩ := h.rows j U hU
   exact ⟨G', cap', by rw [List.getElem?_append_left (by have := h.lc; omega)]; exact r1, r2.grown hg (fun e => r4 e.symm), r3, far G' r2.lt r4, r5, r6⟩
  ·have hj := (List.getElem?_eq_some_iff.1 hU).1
   rw [List.length_append, List.length_singleton] at hj
   obtain rfl : j = cs.length := by omega
   rw [List.getElem?_append_right (Nat.le_refl _), Nat.sub_self] at hU
   have : V = U := by simpa using hU
   subst this
   exact ⟨G, cap, by rw [← h.lc, List.getElem?_append_right (Nat.le_refl _), Nat.sub_self]; rfl, hV.grown hg (fun e => n1 e.symm), hG, far G hV.lt n1, n2, n3⟩
theorem WM.appP (h : WM w0 wr Q N sta fin arcs cv pv lv vC vP vL LC cs LP LL) {x : Int} (hg : wr.grownBy wx vP.ownBlock) (ho : wx.ownsRow (Q + 1) 3 1 v' (LP.length + 1) (intsW LP ++ [.int .i64 x])) (hv : v'.ownBlock = vP.ownBlock ∨ v'.ownBlock = some wr.heap.size) :
  WM w0 wx Q N sta fin arcs cv pv lv vC v' vL LC cs (LP ++ [x]) LL := by
 have hQl := h.lt
 have hne : some Q ≠ vP.ownBlock := fun e => by have := (h.ownP Q e.symm).1; omega
 have far : ∀ b, b < wr.heap.size → vP.ownBlock ≠ some b → v'.ownBlock ≠ some b := fun b hb hn e => by
  rcases hv with hv | hv
  ·rw [hv] at e; exact hn e
  ·rw [hv] at e; injection e with e; omega
 have hc : ∀ {i : Nat} {u : Value}, wr.cell? ⟨Q, i, none⟩ = some u → wx.cell? ⟨Q, i, none⟩ = some u := fun hh => (hg.cell_far ⟨Q, _, none⟩ hQl hne).trans hh
 refine ⟨h.bel.grown hg (by omega) (fun b hb => by have := (h.ownP b hb).1; omega), ⟨hc h.cf.1, hc h.cf.2.1, hc h.cf.2.2.1, hc h.cf.2.2.2⟩, hc h.c4, hc h.c5, hc h.c6, fun i => frz_block (hg.block Q hQl hne) (h.frz i), own_same h.oC (fun b hb => hg.block b (h.ownC b hb).2 (fun e => h.nCP b hb e.symm)), ?_, own_same h.oL (fun b hb => hg.block b (h.ownL b hb).2 (fun e => h.nPL b e.symm hb)), fun b hb e => ?_, h.nCL, fun b hb e => ?_, h.lc, fun j U hU => ?_⟩
 ·have e1 : (LP ++ [x]).length = LP.length + 1 := by simp
  have e2 : intsW (LP ++ [x]) = intsW LP ++ [.int .i64 x] := by simp [intsW]
  rw [e1, e2]; exact ho
 ·exact far b (h.ownC b hb).2 (h.nCP b hb) e
 ·exact far b (h.ownL b e).2 (fun e2 => h.nPL b e2 e) hb
 ·obtain ⟨G', cap', r1, r2, r3, r4, r5, r6⟩ := h.rows j U hU
  exact ⟨G', cap', r1, r2.grown hg (fun e => r5 e.symm), r3, r4, far G' r2.lt r5, r6⟩
theorem WM.appL (h : WM w0 wr Q N sta fin arcs cv pv lv vC vP vL LC cs LP LL) {x : Int} (hg : wr.grownBy wx vL.ownBlock) (ho : wx.ownsRow (Q + 1) 3 1 v' (LL.length + 1) (intsW LL ++ [.int .i64 x])) (hv : v'.ownBlock = vL.ownBlock ∨ v'.ownBlock = some wr.heap.size) :
  WM w0 wx Q N sta fin arcs cv pv lv vC vP v' LC cs LP (LL ++ [x]) := by
 have hQl := h.lt
 have hne : some Q ≠ vL.ownBlock := fun e => by have := (h.ownL Q e.symm).1; omega
 have far : ∀ b, b < wr.heap.size → vL.ownBlock ≠ some b → v'.ownBlock ≠ some b := fun b hb hn e => by
  rcases hv with hv | hv
  ·rw [hv] at e; exact hn e
  ·rw [hv] at e; injection e with e; omega
 have hc : ∀ {i : Nat} {u : Value}, wr.cell? ⟨Q, i, none⟩ = some u → wx.cell? ⟨Q, i, none⟩ = some u := fun hh => (hg.cell_far ⟨Q, _, none⟩ hQl hne).trans hh
 refine ⟨h.bel.grown hg (by omega) (fun b hb => by have := (h.ownL b hb).1; omega), ⟨hc h.cf.1, hc h.cf.2.1, hc h.cf.2.2.1, hc h.cf.2.2.2⟩, hc h.c4, hc h.c5, hc h.c6, fun i => frz_block (hg.block Q hQl hne) (h.frz i), own_same h.oC (fun b hb => hg.block b (h.ownC b hb).2 (fun e => h.nCL b hb e.symm)), own_same h.oP (fun b hb => hg.block b (h.ownP b hb).2 (fun e => h.nPL b hb e.symm)), ?_, h.nCP, fun b hb e => ?_, fun b hb e => ?_, h.lc, fun j U hU => ?_⟩
 ·have e1 : (LL ++ [x]).length = LL.length + 1 := by simp
  have e2 : intsW (LL ++ [x]) = intsW LL ++ [.int .i64 x] := by simp [intsW]
  rw [e1, e2]; exact ho
 ·exact far b (h.ownC b hb).2 (h.nCL b hb) e
 ·exact far b (h.ownP b hb).2 (h.nPL b hb) e
 ·obtain ⟨G', cap', r1, r2, r3, r4, r5, r6⟩ := h.rows j U hU
  exact ⟨G', cap', r1, r2.grown hg (fun e => r6 e.symm), r3, r4, r5, far G' r2.lt r6⟩
theorem set_off7 {w : World} {B i j : Nat} {u v : Value} (h : w.cell? ⟨B, j, none⟩ = some u) (hij : j ≠ i) : (w.setCell ⟨B, i, none⟩ v).cell? ⟨B, j, none⟩ = some u := by
 rw [World.cell?_setCell_other _ _ _ _ (by intro e; injection e with _ e2; omega)]
 exact h
theorem WM.setBox (h : WM w0 wr Q N sta fin arcs cv pv lv vC vP vL LC cs LP LL) (i : Nat) (u : Value) (cv' pv' lv' : Value) (hi : 4 ≤ i) (h4 : (wr.setCell ⟨Q, i, none⟩ u).cell? ⟨Q, 4, none⟩ = some cv') (h5 : (wr.setCell ⟨Q, i, none⟩ u).cell? ⟨Q, 5, none⟩ = some pv') (h6 : (wr.setCell ⟨Q, i, none⟩ u).cell? ⟨Q, 6, none⟩ = some lv') :
  WM w0 (wr.setCell ⟨Q, i, none⟩ u) Q N sta fin arcs cv' pv' lv' vC vP vL LC cs LP LL := by
 have nC : vC.ownBlock ≠ some Q := fun e => by have := (h.ownC Q e).1; omega
 have nP : vP.ownBlock ≠ some Q := fun e => by have := (h.ownP Q e).1; omega
 have nL : vL.ownBlock ≠ some Q := fun e => by have := (h.ownL Q e).1; omega
 refine ⟨h.bel.setCell (p := ⟨Q, i, none⟩) (Nat.le_refl _) _, ⟨set_off7 h.cf.1 (by omega), set_off7 h.cf.2.1 (by omega), set_off7 h.cf.2.2.1 (by omega), set_off7 h.cf.2.2.2 (by omega)⟩, h4, h5, h6, fun k => by rw [World.frozen?_setCell]; exact h.frz k, ownsRow_setCell_far h.oC nC, ownsRow_setCell_far h.oP nP, ownsRow_setCell_far h.oL nL, h.nCP, h.nCL, h.nPL, h.lc, fun j U hU => ?_⟩
 obtain ⟨G', cap', r1, r2, r3, r4⟩ := h.rows j U hU
 exact ⟨G', cap', r1, r2.other (by omega), r3, r4⟩
theorem WM.set4 (h : WM w0 wr Q N sta fin arcs cv pv lv vC vP vL LC cs LP LL) : WM w0 (wr.setCell ⟨Q, 4, none⟩ vC) Q N sta fin arcs vC pv lv vC vP vL LC cs LP LL :=
 h.setBox 4 vC vC pv lv (by omega) (World.cell?_setCell_same _ _ _ h.c4) (set_off7 h.c5 (by decide)) (set_off7 h.c6 (by decide))
theorem WM.set5 (h : WM w0 wr Q N sta fin arcs cv pv lv vC vP vL LC cs LP LL) : WM w0 (wr.setCell ⟨Q, 5, none⟩ vP) Q N sta fin arcs cv vP lv vC vP vL LC cs LP LL :=
 h.setBox 5 vP cv vP lv (by omega) (set_off7 h.c4 (by decide)) (World.cell?_setCell_same _ _ _ h.c5) (set_off7 h.c6 (by decide))
theorem WM.set6 (h : WM w0 wr Q N sta fin arcs cv pv lv vC vP vL LC cs LP LL) : WM w0 (wr.setCell ⟨Q, 6, none⟩ vL) Q N sta fin arcs cv pv vL vC vP vL LC cs LP LL :=
 h.setBox 6 vL cv pv vL (by omega) (set_off7 h.c4 (by decide)) (set_off7 h.c5 (by decide)) (World.cell?_setCell_same _ _ _ h.c6)
end
end Go.Proofs.Yteehgcbjmdideab
/- What 'WordsOf' has in hand while rows grow: literals, the row that is next; three operations that may come up. -/
namespace Go.Proofs.Yteehgcbjmdideab
open Go.RowKit
open Go
structure LitAt (W : World) (b : Nat) (u vC vP vL : Value) : Prop where
 c : W.cell? ⟨b, 0, none⟩ = some u
 nC : vC.ownBlock ≠ some b
 nP : vP.ownBlock ≠ some b
 nL : vL.ownBlock ≠ some b
structure RowAt (W : World) (Q N G : Nat) (V : List Int) (vC vP vL : Value) : Prop where
 num : NumsAt W G N V
 q : Q < G
 nC : vC.ownBlock ≠ some G
 nP : vP.ownBlock ≠ some G
 nL : vL.ownBlock ≠ some G
theorem own_far {W : World} {v v' : Value} {b : Nat} (hb : b < W.heap.size) (hn : v.ownBlock ≠ some b) (hv : v'.ownBlock = v.ownBlock ∨ v'.ownBlock = some W.heap.size) : v'.ownBlock ≠ some b := fun e => by
 rcases hv with hv | hv
 ·rw [hv] at e; exact hn e
 ·rw [hv] at e; injection e with e; omega
section
variable {W Wx : World} {Q N b G : Nat} {u vC vP vL v' : Value} {V : List Int}
theorem LitAt.below (h : LitAt W b u vC vP vL) (hb : Below W.heap.size W Wx) : LitAt Wx b u vC vP vL := ⟨bel_c hb h.c, h.nC, h.nP, h.nL⟩
theorem LitAt.gC (h : LitAt W b u vC vP vL) (hg : W.grownBy Wx vC.ownBlock) (hv : v'.ownBlock = vC.ownBlock ∨ v'.ownBlock = some W.heap.size) : LitAt Wx b u v' vP vL :=
 ⟨(hg.cell_far ⟨b, 0, none⟩ (cell_lt h.c) (fun e => h.nC e.symm)).trans h.c, own_far (cell_lt h.c) h.nC hv, h.nP, h.nL⟩
theorem LitAt.gP (h : LitAt W b u vC vP vL) (hg : W.grownBy Wx vP.ownBlock) (hv : v'.ownBlock = vP.ownBlock ∨ v'.ownBlock = some W.heap.size) : LitAt Wx b u vC v' vL :=
 ⟨(hg.cell_far ⟨b, 0, none⟩ (cell_lt h.c) (fun e => h.nP e.symm)).trans h.c, h.nC, own_far (cell_lt h.c) h.nP hv, h.nL⟩
theorem LitAt.news (h : LitAt W b u vC vP vL) : ∀ j x, ([u] : List Value)[j]? = some x → W.cell? ((⟨b, 0, none⟩ : Addr).add j) = some x := by
 intro j x hj
 match j, hj with
 | 0, hj => simp at hj; subst hj; simpa [Addr.add] using h.c
theorem RowAt.below (h : RowAt W Q N G V vC vP vL) (hb : Below W.heap.size W Wx) : RowAt Wx Q N G V vC vP vL := ⟨h.num.below hb, h.q, h.nC, h.nP, h.nL⟩
theorem lit_new {w0 : World} {sta : Int} {fin arcs cv pv lv : Value} {LC : List Value} {cs : List (List Int)} {LP LL : List Int} (h : WM w0 W Q N sta fin arcs cv pv lv vC vP vL LC cs LP LL) (u : Value) (t : Nat) : LitAt (W.alloc (.cells #[u] t)) W.heap.size u vC vP vL :=
 ⟨new_cell _ _ _ _ 0 _ rfl rfl, fun e => by have := (h.ownC _ e).2; omega, fun e => by have := (h.ownP _ e).2; omega, fun e => by have := (h.ownL _ e).2; omega⟩
end
theorem one_val {u : Value} (h : u.oneCell' = true) : ∀ x ∈ ([u] : List Value), x.oneCell' = true := fun x hx => by
 have : x = u := by simpa using hx
 rw [this]; exact h
end Go.Proofs.Yteehgcbjmdideab
/- The states on a way, reckoned round by round, as the document's answer does it. -/
namespace Go.Proofs.Yteehgcbjmdideab.Sc
def atB (m : List Bool) (x : Nat) : Bool := m.getD x false
def relax1 (m : List Bool) (p : Nat × Nat) : List Bool := m.set p.2 (atB m p.2 || atB m p.1)
def relax (ps : List (Nat × Nat)) (m : List Bool) : List Bool := ps.foldl relax1 m
def relaxN (ps : List (Nat × Nat)) : Nat → List Bool → List Bool
 | 0, m => m
 | k + 1, m => relax ps (relaxN ps k m)
theorem relax1_len (m : List Bool) (p : Nat × Nat) : (relax1 m p).length = m.length := by simp [relax1]
theorem relax_len (ps : List (Nat × Nat)) : ∀ m : List Bool, (relax ps m).length = m.length := by
 induction ps with
 | nil => intro m; rfl
 | cons p ps ih => intro m; show (relax ps (relax1 m p)).length = _; rw [ih, relax1_len]
theorem relaxN_len (ps : List (Nat × Nat)) (k : Nat) (m : List Bool) : (relaxN ps k m).length = m.length := by
 induction k with
 | zero => rfl
 | succ k ih => rw [relaxN, relax_len, ih]
theorem atB_lt {m : List Bool} {x : Nat} (h : atB m x = true) : x < m.length := by
 unfold atB at h
 by_cases hx : x < m.length
 ·exact hx
 ·simp [List.getD, hx] at h
theorem atB_relax1 (m : List Bool) (p : Nat × Nat) (x : Nat) : atB (relax1 m p) x = if x = p.2 ∧ p.2 < m.length then (atB m p.2 || atB m p.1) else atB m x := by
 unfold relax1 atB
 by_cases h : x = p.2
 ·subst h
  by_cases hl : p.2 < m.length
  ·rw [if_pos ⟨rfl, hl⟩]; simp [List.getD, hl]
  ·rw [if_neg (fun q => hl q.2)]; simp [List.getD, hl]
 ·rw [if_neg (fun q => h q.1)]
  simp [List.getD, Ne.symm h]
theorem relax1_le {m : List Bool} {p : Nat × Nat} {x : Nat} (h : atB m x = true) : atB (relax1 m p) x = true := by
 rw [atB_relax1]
 split
 ·rename_i q; rw [← q.1, h]; rfl
 ·exact h
theorem relax_le (ps : List (Nat × Nat)) : ∀ {m : List Bool} {x : Nat}, atB m x = true → atB (relax ps m) x = true := by
 induction ps with
 | nil => intro m x h; exact h
 | cons p ps ih => intro m x h; exact ih (relax1_le h)
theorem relaxN_le (ps : List (Nat × Nat)) (k : Nat) {m : List Bool} {x : Nat} (h : atB m x = true) : atB (relaxN ps k m) x = true := by
 induction k with
 | zero => exact h
 | succ k ih => exact relax_le ps ih
theorem relax_sound {R : Nat → Prop} (ps : List (Nat × Nat)) (hR : ∀ p ∈ ps, R p.1 → R p.2) : ∀ {m : List Bool}, (∀ x, atB m x = true → R x) → ∀ x, atB (relax ps m) x = true → R x := by
 induction ps with
 | nil => intro m h; exact h
 | cons p ps ih =>
  intro m h
  refine ih (fun q hq => hR q (by simp [hq])) ?_
  intro x hx
  rw [atB_relax1] at hx
  split at hx
  ·rename_i q
   rw [Bool.or_eq_true] at hx
   rw [q.1]
   rcases hx with hx | hx
   ·exact h _ hx
   ·exact hR p (by simp) (h _ hx)
  ·exact h x hx
theorem relaxN_sound {R : Nat → Prop} (ps : List (Nat × Nat)) (hR : ∀ p ∈ ps, R p.1 → R p.2) (k : Nat) {m : List Bool} (h : ∀ x, atB m x = true → R x) : ∀ x, atB (relaxN ps k m) x = true → R x := by
 induction k with
 | zero => exact h
 | succ k ih => exact relax_sound ps hR ih
theorem relax_fix (ps : List (Nat × Nat)) : ∀ {m : List Bool}, (∀ x, atB (relax ps m) x = true → atB m x = true) → ∀ p ∈ ps, p.2 < m.length → atB m p.1 = true → atB m p.2 = true := by
 induction ps with
 | nil => intro m _ p hp; cases hp
 | cons q ps ih =>
  intro m h p hp hl h1
  have back : ∀ x, atB (relax1 m q) x = true → atB m x = true := fun x hx => h x (relax_le ps hx)
  rcases List.mem_cons.1 hp with rfl | hp
  ·apply back
   rw [atB_relax1, if_pos ⟨rfl, hl⟩, h1, Bool.or_true]
  ·exact back _ (ih (m := relax1 m q) (fun x hx => relax1_le (h x hx)) p hp (by rw [relax1_len]; exact hl) (relax1_le h1))
theorem newNo_mono (f g : Nat → Bool) (h : ∀ x, f x = true → g x = true) (k : Nat) : newNo f k ≤ newNo g k := by
 induction k with
 | zero => simp [newNo]
 | succ k ih =>
  rw [newNo_succ, newNo_succ]
  cases hf : f k
  ·simp; omega
  ·rw [h k hf]; simp; omega
theorem newNo_lt (f g : Nat → Bool) (h : ∀ x, f x = true → g x = true) (x : Nat) (hf : f x = false) (hg : g x = true) (k : Nat) (hx : x < k) : newNo f k < newNo g k := by
 induction k with
 | zero => omega
 | succ k ih =>
  rw [newNo_succ, newNo_succ]
  by_cases e : x = k
  ·subst e
   rw [hf, hg]
   have := newNo_mono f g h x
   simp; omega
  ·have := ih (by omega)
   cases hfk : f k
   ·simp; omega
   ·rw [h k hfk]; simp; omega
theorem newNo_all (f : Nat → Bool) (k : Nat) (h : k ≤ newNo f k) : ∀ x, x < k → f x = true := by
 induction k with
 | zero => intro x hx; omega
 | succ k ih =>
  rw [newNo_succ] at h
  have := newNo_le f k
  cases hf : f k
  ·rw [hf] at h; simp at h; omega
  ·rw [hf] at h
   simp at h
   intro x hx
   by_cases e : x = k
   ·subst e; exact hf
   ·exact ih h x (by omega)
theorem relaxN_grows (ps : List (Nat × Nat)) (N : Nat) (m : List Bool) (hl : m.length = N) (k : Nat) :
  (∀ x, atB (relax ps (relaxN ps k m)) x = true → atB (relaxN ps k m) x = true) ∨ k ≤ newNo (atB (relaxN ps k m)) N := by
 induction k with
 | zero => right; omega
 | succ k ih =>
  by_cases hfix : ∀ x, atB (relax ps (relaxN ps k m)) x = true → atB (relaxN ps k m) x = true
  ·left
   have e : ∀ x, atB (relaxN ps (k + 1) m) x = atB (relaxN ps k m) x := fun x => by
    rw [Bool.eq_iff_iff]
    exact ⟨hfix x, fun h => relax_le ps h⟩
   have e2 : relaxN ps (k + 1) m = relaxN ps k m := by
    apply List.ext_getElem
    ·rw [relaxN_len, relaxN_len]
    ·intro i h1 h2
     have := e i
     simpa [atB, List.getD, h1, h2] using this
   rw [e2]; exact hfix
  ·right
   rcases ih with h | h
   ·exact absurd h hfix
   ·obtain ⟨x, hx⟩ := Classical.not_forall.1 hfix
    have hx1 : atB (relax ps (relaxN ps k m)) x = true := Classical.byContradiction fun q => hx fun q2 => absurd q2 q
    have hx2 : atB (relaxN ps k m) x = false := Bool.eq_false_iff.2 fun q => hx fun _ => q
    have hxl := atB_lt hx1
    rw [relax_len, relaxN_len] at hxl
    have := newNo_lt (atB (relaxN ps k m)) (atB (relaxN ps (k + 1) m)) (fun y hy => relax_le ps hy) x hx2 hx1 N (by omega)
    omega
theorem relaxN_closed (ps : List (Nat × Nat)) (N : Nat) (m : List Bool) (hl : m.length = N) (hp : ∀ p ∈ ps, p.2 < N) : ∀ p ∈ ps, atB (relaxN ps N m) p.1 = true → atB (relaxN ps N m) p.2 = true := by
 intro p hpm h1
 rcases relaxN_grows ps N m hl N with h | h
 ·exact relax_fix ps h p hpm (by rw [relaxN_len, hl]; exact hp p hpm) h1
 ·exact newNo_all _ N h p.2 (hp p hpm)
theorem relaxN_reach (ps : List (Nat × Nat)) (N : Nat) (m : List Bool) (S : Nat → Bool) (hl : m.length = N) (hp : ∀ p ∈ ps, p.2 < N) (hm : ∀ x, atB m x = (decide (x < N) && S x)) (x : Nat) :
  atB (relaxN ps N m) x = true ↔ ReachP N ps S x := by
 constructor
 ·refine relaxN_sound (R := ReachP N ps S) ps (fun p hp h => Reach.on h hp) N (fun y hy => ?_) x
  rw [hm y, Bool.and_eq_true, decide_eq_true_eq] at hy
  exact Reach.first hy
 ·intro h
  refine h (fun y => atB (relaxN ps N m) y = true) (fun s hs => relaxN_le ps N ?_) (fun s t hs he => relaxN_closed ps N m hl hp (s, t) he hs)
  rw [hm s, Bool.and_eq_true, decide_eq_true_eq]
  exact hs
def thereM (f : FstD) : List Bool := (List.replicate f.states.toNat false).set f.start.toNat true
def onM (f : FstD) : List Bool := f.final.map fun x => decide (0 ≤ x)
def thereN (f : FstD) : List Bool := relaxN (pairsA f) f.states.toNat (thereM f)
def onN (f : FstD) : List Bool := relaxN (pairsB f) f.states.toNat (onM f)
theorem okA (f : FstD) (ok : CheckOk f) : ∀ p ∈ pairsA f, p.2 < f.states.toNat := fun p hp => by
 obtain ⟨a, ha, rfl⟩ := List.mem_map.1 hp
 have := (ok.arcs a ha).dst
 simp only [inB, Bool.and_eq_true, decide_eq_true_eq] at this
 show a.dst.toNat < _
 omega
theorem okB (f : FstD) (ok : CheckOk f) : ∀ p ∈ pairsB f, p.2 < f.states.toNat := fun p hp => by
 obtain ⟨a, ha, rfl⟩ := List.mem_map.1 hp
 have := (ok.arcs a ha).src
 simp only [inB, Bool.and_eq_true, decide_eq_true_eq] at this
 show a.src.toNat < _
 omega
theorem stays_relax (f : FstD) (hc : checkD f = 0) (x : Nat) : (atB (thereN f) x && atB (onN f) x) = true ↔ Stays f x := by
 have ok := check_ok f hc
 have hs := ok.states
 have ht := ok.start
 have hl := ok.len
 simp only [inB, Bool.and_eq_true, decide_eq_true_eq] at hs ht
 have h1 := relaxN_reach (pairsA f) f.states.toNat (thereM f) (firstA f) (by simp [thereM]) (okA f ok) (fun y => by
  unfold thereM atB firstA
  by_cases e : y = f.start.toNat
  ·subst e
   have : f.start.toNat < f.states.toNat := by omega
   have e2 : ((f.start.toNat : Nat) : Int) = f.start := by omega
   simp [List.getD, this, e2]
  ·have e2 : ¬ (y : Int) = f.start := by omega
   simp only [List.getD, e2, decide_false, Bool.and_false]
   rw [List.getElem?_set_ne (Ne.symm e)]
   by_cases hy : y < f.states.toNat
   ·simp [hy]
   ·simp [hy]) x
 have h2 := relaxN_reach (pairsB f) f.states.toNat (onM f) (firstB f) (by simp [onM]; omega) (okB f ok) (fun y => by
  unfold onM atB firstB
  by_cases hy : y < f.final.length
  ·have hy2 : y < f.states.toNat := by omega
   have hm : f.final[y] ∈ f.final := List.getElem_mem hy
   have := (finB_out (ok.fin _ hm)).1
   simp only [List.getD, List.getElem?_map, List.getElem?_eq_getElem hy, Option.map_some, Option.getD_some, hy2, decide_true, Bool.true_and]
   rw [Bool.eq_iff_iff]
   simp
   omega
  ·have hy2 : ¬ y < f.states.toNat := by omega
   simp [List.getD, hy, hy2]) x
 rw [Bool.and_eq_true]
 show (atB (relaxN (pairsA f) f.states.toNat (thereM f)) x = true ∧ atB (relaxN (pairsB f) f.states.toNat (onM f)) x = true) ↔ _
 rw [h1, h2]
 rfl
theorem start_there (f : FstD) (hc : checkD f = 0) : atB (thereN f) f.start.toNat = true := by
 have ok := check_ok f hc
 have hs := ok.states
 have ht := ok.start
 simp only [inB, Bool.and_eq_true, decide_eq_true_eq] at hs ht
 apply relaxN_le
 unfold thereM atB
 have : f.start.toNat < f.states.toNat := by omega
 simp [List.getD, this]
def trimD (f : FstD) : FstD := trimBy f fun i => atB (thereN f) i && atB (onN f) i
theorem trimD_is (f : FstD) (hc : checkD f = 0) : IsTrim f (trimD f) := ⟨_, fun i => stays_relax f hc i, rfl⟩
end Go.Proofs.Yteehgcbjmdideab.Sc
