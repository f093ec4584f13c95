/- One behind the other: pairs of states, the steps that lead from one to the next, ways of pairs; the pairs that are met, and the arcs between them. -/
import Derived.Test.YteehgcbjmdideaaQM20
import Derived.Test.YteehgcbjmdideaaQM15
import Derived.Test.YteehgcbjmdideaaQM04
namespace Go.Proofs.Yteehgcbjmdideaa

/-- a step of both: to which pair, what is read and written, for what -/
structure Stp where
  to1 : Int
  to2 : Int
  inp : Int
  out : Int
  wt : Int

def togS (a c : ArcD) : Stp := ⟨a.dst, c.dst, a.inp, c.out, a.wt + c.wt⟩
def fstS (q : Int) (a : ArcD) : Stp := ⟨a.dst, q, a.inp, 0, a.wt⟩
def sndS (p : Int) (c : ArcD) : Stp := ⟨p, c.dst, 0, c.out, c.wt⟩
def togC (A : List ArcD) (q : Int) (a : ArcD) : List Stp := (A.filter fun c => c.src == q && c.inp == a.out).map (togS a)
def togL (A B : List ArcD) (p q : Int) : List Stp := (A.filter fun a => a.src == p && decide (0 < a.out)).flatMap (togC B q)
def fstL2 (A : List ArcD) (p q : Int) : List Stp := (A.filter fun a => a.src == p && a.out == 0).map (fstS q)
def sndL (B : List ArcD) (p q : Int) : List Stp := (B.filter fun c => c.src == q && c.inp == 0).map (sndS p)
def stpL (f g : FstD) (x : Int × Int) : List Stp := togL f.arcs g.arcs x.1 x.2 ++ (fstL2 f.arcs x.1 x.2 ++ sndL g.arcs x.1 x.2)

theorem mem_stp {f g : FstD} {x : Int × Int} {s : Stp} : s ∈ stpL f g x ↔ (∃ a ∈ f.arcs, ∃ c ∈ g.arcs, a.src = x.1 ∧ c.src = x.2 ∧ 0 < a.out ∧ c.inp = a.out ∧ s = togS a c) ∨ (∃ a ∈ f.arcs, a.src = x.1 ∧ a.out = 0 ∧ s = fstS x.2 a) ∨ ∃ c ∈ g.arcs, c.src = x.2 ∧ c.inp = 0 ∧ s = sndS x.1 c := by
  unfold stpL togL togC fstL2 sndL
  rw [List.mem_append, List.mem_append, List.mem_flatMap, List.mem_map, List.mem_map]
  constructor
  · rintro (⟨a, ha, hs⟩ | ⟨a, ha, rfl⟩ | ⟨c, hc, rfl⟩)
    · rw [List.mem_filter] at ha
      rw [List.mem_map] at hs
      obtain ⟨c, hc, rfl⟩ := hs
      rw [List.mem_filter] at hc
      simp only [Bool.and_eq_true, beq_iff_eq, decide_eq_true_eq] at ha hc
      exact Or.inl ⟨a, ha.1, c, hc.1, ha.2.1, hc.2.1, ha.2.2, hc.2.2, rfl⟩
    · rw [List.mem_filter] at ha
      simp only [Bool.and_eq_true, beq_iff_eq] at ha
      exact Or.inr (Or.inl ⟨a, ha.1, ha.2.1, ha.2.2, rfl⟩)
    · rw [List.mem_filter] at hc
      simp only [Bool.and_eq_true, beq_iff_eq] at hc
      exact Or.inr (Or.inr ⟨c, hc.1, hc.2.1, hc.2.2, rfl⟩)
  · rintro (⟨a, ha, c, hc, h1, h2, h3, h4, rfl⟩ | ⟨a, ha, h1, h2, rfl⟩ | ⟨c, hc, h1, h2, rfl⟩)
    · refine Or.inl ⟨a, List.mem_filter.2 ⟨ha, by simp [h1, h3]⟩, List.mem_map.2 ⟨c, List.mem_filter.2 ⟨hc, by simp [h2, h4]⟩, rfl⟩⟩
    · exact Or.inr (Or.inl ⟨a, List.mem_filter.2 ⟨ha, by simp [h1, h2]⟩, rfl⟩)
    · exact Or.inr (Or.inr ⟨c, List.mem_filter.2 ⟨hc, by simp [h1, h2]⟩, rfl⟩)

/-- a way of pairs -/
def PairN (f g : FstD) (ins outs : List Int) : Nat → Int × Int → Nat → Nat → Int → Prop
  | 0, x, i, o, z => x = (f.start, g.start) ∧ i = 0 ∧ o = 0 ∧ z = 0
  | h + 1, x, i, o, z => ∃ x' i' o' z' s, PairN f g ins outs h x' i' o' z' ∧ s ∈ stpL f g x' ∧ x = (s.to1, s.to2) ∧ fitB ins i' s.inp = true ∧ fitB outs o' s.out = true ∧ i = usedBy i' s.inp ∧ o = usedBy o' s.out ∧ z = z' + s.wt

def endC (f g : FstD) (x : Int × Int) : Int := plusC (gI f.final x.1.toNat) (gI g.final x.2.toNat)
/-- what a way of pairs by both words costs, its end too -/
def PairT (f g : FstD) (ins outs : List Int) (y : Int) : Prop := ∃ h x z, PairN f g ins outs h x ins.length outs.length z ∧ 0 ≤ endC f g x ∧ y = z + endC f g x

/-- steps from a pair of states lead to one -/
def InP (f g : FstD) (x : Int × Int) : Prop := (0 ≤ x.1 ∧ x.1 < f.states) ∧ 0 ≤ x.2 ∧ x.2 < g.states

section
variable {f g : FstD} (kf : Fine f) (kg : Fine g)
include kf kg
theorem stp_in {x : Int × Int} (hx : InP f g x) {s : Stp} (hs : s ∈ stpL f g x) : InP f g (s.to1, s.to2) ∧ (0 ≤ s.inp ∧ s.inp ≤ 9) ∧ (0 ≤ s.out ∧ s.out ≤ 9) ∧ 0 ≤ s.wt ∧ s.wt ≤ 2000000000 := by
  obtain ⟨N, s0, e1, _, _, _, _, hA⟩ := kf.nums
  obtain ⟨M, t0, e2, _, _, _, _, hB⟩ := kg.nums
  obtain ⟨x1, x2⟩ := hx
  unfold InP
  rw [e1] at x1
  rw [e2] at x2
  rw [e1, e2]
  rcases mem_stp.1 hs with ⟨a, ha, c, hc, _, _, _, _, rfl⟩ | ⟨a, ha, _, _, rfl⟩ | ⟨c, hc, _, _, rfl⟩
  · obtain ⟨_, p2, p3, p4, p5⟩ := hA a ha
    obtain ⟨_, q2, q3, q4, q5⟩ := hB c hc
    exact ⟨⟨p2, q2⟩, p3, q4, by show 0 ≤ a.wt + c.wt; omega, by show a.wt + c.wt ≤ _; omega⟩
  · obtain ⟨_, p2, p3, p4, p5⟩ := hA a ha
    exact ⟨⟨p2, x2⟩, p3, by show (0:Int) ≤ 0 ∧ (0:Int) ≤ 9; omega, p5.1, by show a.wt ≤ _; omega⟩
  · obtain ⟨_, q2, q3, q4, q5⟩ := hB c hc
    exact ⟨⟨x1, q2⟩, by show (0:Int) ≤ 0 ∧ (0:Int) ≤ 9; omega, q4, q5.1, by show c.wt ≤ _; omega⟩

theorem start_in : InP f g (f.start, g.start) := ⟨⟨kf.b1, kf.b2⟩, kg.b1, kg.b2⟩

theorem PairN.inp {ins outs : List Int} {h : Nat} {x : Int × Int} {i o : Nat} {z : Int} (hp : PairN f g ins outs h x i o z) : InP f g x ∧ i ≤ ins.length ∧ o ≤ outs.length ∧ 0 ≤ z := by
  induction h generalizing x i o z with
  | zero => obtain ⟨rfl, rfl, rfl, rfl⟩ := hp; exact ⟨start_in kf kg, Nat.zero_le _, Nat.zero_le _, Int.le_refl _⟩
  | succ h ih =>
    obtain ⟨x', i', o', z', s, hp', hs, rfl, h1, h2, rfl, rfl, rfl⟩ := hp
    obtain ⟨k1, k2, k3, k4⟩ := ih hp'
    obtain ⟨q1, _, _, q4, _⟩ := stp_in kf kg k1 hs
    exact ⟨q1, usedBy_le h1 k2, usedBy_le h2 k3, by omega⟩
end

/-- a word between: a way of the first and one of the second are a way of both -/
theorem between_pair {f g : FstD} (kf : Fine f) {ins btw outs : List Int} {s0 t0 : Nat} (hs : f.start = s0) (ht : g.start = t0) : ∀ (k h1 h2 : Nat), h1 + h2 ≤ k → ∀ {n1 n2 i j o : Nat} {z1 z2 : Int}, PathN f ins btw s0 h1 n1 i j z1 → PathN g btw outs t0 h2 n2 j o z2 → ∃ h, PairN f g ins outs h ((n1 : Int), (n2 : Int)) i o (z1 + z2) := by
  intro k
  induction k with
  | zero =>
    intro h1 h2 hk n1 n2 i j o z1 z2 p1 p2
    obtain ⟨rfl, rfl⟩ : h1 = 0 ∧ h2 = 0 := by omega
    obtain ⟨rfl, rfl, rfl, rfl⟩ := p1
    obtain ⟨rfl, _, rfl, rfl⟩ := p2
    exact ⟨0, by rw [hs, ht], rfl, rfl, rfl⟩
  | succ k ih =>
    intro h1 h2 hk n1 n2 i j o z1 z2 p1 p2
    -- the first goes alone
    by_cases hA : ∃ h1' a n' i' z', h1 = h1' + 1 ∧ a ∈ f.arcs ∧ PathN f ins btw s0 h1' n' i' j z' ∧ a.src = (n' : Int) ∧ a.dst = (n1 : Int) ∧ a.out = 0 ∧ fitB ins i' a.inp = true ∧ i = usedBy i' a.inp ∧ z1 = z' + a.wt
    · obtain ⟨h1', a, n', i', z', rfl, ha, hp, e1, e2, e3, e4, e5, e6⟩ := hA
      obtain ⟨h, hq⟩ := ih h1' h2 (by omega) hp p2
      exact ⟨h + 1, _, _, _, _, fstS n2 a, hq, mem_stp.2 (Or.inr (Or.inl ⟨a, ha, e1, e3, rfl⟩)), by show _ = (a.dst, (n2 : Int)); rw [e2], e4, by show fitB outs o 0 = true; rfl, e5, by show o = usedBy o 0; rfl, by show z1 + z2 = z' + z2 + a.wt; omega⟩
    · by_cases hB : ∃ h2' c n' o' z', h2 = h2' + 1 ∧ c ∈ g.arcs ∧ PathN g btw outs t0 h2' n' j o' z' ∧ c.src = (n' : Int) ∧ c.dst = (n2 : Int) ∧ c.inp = 0 ∧ fitB outs o' c.out = true ∧ o = usedBy o' c.out ∧ z2 = z' + c.wt
      · obtain ⟨h2', c, n', o', z', rfl, hc, hp, e1, e2, e3, e4, e5, e6⟩ := hB
        obtain ⟨h, hq⟩ := ih h1 h2' (by omega) p1 hp
        exact ⟨h + 1, _, _, _, _, sndS n1 c, hq, mem_stp.2 (Or.inr (Or.inr ⟨c, hc, e1, e3, rfl⟩)), by show _ = ((n1 : Int), c.dst); rw [e2], by show fitB ins i 0 = true; rfl, e4, by show i = usedBy i 0; rfl, e5, by show z1 + z2 = z1 + z' + c.wt; omega⟩
      · cases h1 with
        | zero =>
          have p1' := p1
          obtain ⟨_, _, rfl, _⟩ := p1
          cases h2 with
          | zero =>
            obtain ⟨h, hr⟩ := ih 0 0 (by omega) p1' p2
            exact ⟨h, hr⟩
          | succ h2 =>
            exfalso
            obtain ⟨c, hc, n', j', o', z', hp, e1, e2, e3, e4, e5, e6, e7⟩ := p2
            by_cases h0 : c.inp = 0
            · rw [h0] at e5
              exact hB ⟨h2, c, n', o', z', rfl, hc, by rw [e5]; exact hp, e1, e2, h0, e4, e6, e7⟩
            · unfold usedBy at e5
              rw [if_neg h0] at e5
              omega
        | succ h1 =>
          obtain ⟨a, ha, n', i', j', z', hp, e1, e2, e3, e4, e5, e6, e7⟩ := p1
          have h0 : a.out ≠ 0 := fun h0 => by
            rw [h0] at e6
            exact hA ⟨h1, a, n', i', z', rfl, ha, by rw [e6]; exact hp, e1, e2, h0, e3, e5, e7⟩
          have ej : j = j' + 1 := by unfold usedBy at e6; rw [if_neg h0] at e6; exact e6
          cases h2 with
          | zero => exfalso; obtain ⟨_, hj, _⟩ := p2; omega
          | succ h2 =>
            obtain ⟨c, hc, m', j'', o', y', hq, d1, d2, d3, d4, d5, d6, d7⟩ := p2
            have k0 : c.inp ≠ 0 := fun k0 => by
              rw [k0] at d5
              exact hB ⟨h2, c, m', o', y', rfl, hc, by rw [d5]; exact hq, d1, d2, k0, d4, d6, d7⟩
            have ej' : j = j'' + 1 := by unfold usedBy at d5; rw [if_neg k0] at d5; exact d5
            have ee : j'' = j' := by omega
            subst ee
            obtain ⟨h, hr⟩ := ih h1 h2 (by omega) hp hq
            have hl : c.inp = a.out := by
              unfold fitB at e4 d3
              simp only [Bool.or_eq_true, beq_iff_eq, h0, k0, false_or, Bool.and_eq_true, decide_eq_true_eq] at e4 d3
              rw [← e4.2, ← d3.2]
            have hpos : 0 < a.out := by
              obtain ⟨_, _, _, _, _, _, _, hn⟩ := kf.nums
              have := (hn a ha).2.2.2.1.1
              omega
            exact ⟨h + 1, _, _, _, _, togS a c, hr, mem_stp.2 (Or.inl ⟨a, ha, c, hc, e1, d1, hpos, hl, rfl⟩), by show _ = (a.dst, c.dst); rw [e2, d2], e3, d4, e5, d6, by show z1 + z2 = z' + y' + (a.wt + c.wt); omega⟩

theorem between_tot {f g : FstD} (kf : Fine f) {ins btw outs : List Int} {s0 t0 : Nat} (hs : f.start = s0) (ht : g.start = t0) {x y : Int} (h1 : TotP f ins btw s0 x) (h2 : TotP g btw outs t0 y) : PairT f g ins outs (x + y) := by
  obtain ⟨k1, n1, z1, p1, e1, rfl⟩ := h1
  obtain ⟨k2, n2, z2, p2, e2, rfl⟩ := h2
  obtain ⟨h, hp⟩ := between_pair kf hs ht _ k1 k2 (Nat.le_refl _) p1 p2
  have e : endC f g ((n1 : Int), (n2 : Int)) = gI f.final n1 + gI g.final n2 := by
    unfold endC plusC
    show (if gI f.final (n1 : Int).toNat < 0 ∨ _ then _ else _) = _
    rw [Int.toNat_natCast, if_neg (by show ¬ (gI f.final n1 < 0 ∨ gI g.final ((n2 : Int).toNat) < 0); rw [Int.toNat_natCast]; omega)]
    rfl
  exact ⟨h, _, _, hp, by rw [e]; omega, by rw [e]; omega⟩

/-! The pairs that are met, and the arcs between them. -/
structure BothD where
  ps : List (Int × Int)
  arcs : List ArcD

def meetP (ps : List (Int × Int)) (x : Int × Int) : List (Int × Int) := if x ∈ ps then ps else ps ++ [x]
def stpA (k n : Nat) (s : Stp) : ArcD := ⟨k, s.inp, s.out, n, s.wt⟩
def leadD (k : Nat) (b : BothD) (s : Stp) : BothD := ⟨meetP b.ps (s.to1, s.to2), b.arcs ++ [stpA k (b.ps.idxOf (s.to1, s.to2)) s]⟩
def expD (f g : FstD) (b : BothD) (k : Nat) : BothD := (stpL f g (b.ps.getD k (0, 0))).foldl (leadD k) b
def begD (f g : FstD) : BothD := ⟨[(f.start, g.start)], []⟩
def Grown (f g : FstD) : Nat → BothD → Prop
  | 0, b => b = begD f g
  | k + 1, b => ∃ b', Grown f g k b' ∧ k < b'.ps.length ∧ b = expD f g b' k

theorem meet_at (ps : List (Int × Int)) (x : Int × Int) : (meetP ps x)[ps.idxOf x]? = some x := by
  unfold meetP
  split
  · rename_i h
    have hl := List.idxOf_lt_length_of_mem h
    rw [List.getElem?_eq_getElem hl, List.getElem_idxOf]
  · rename_i h
    rw [List.idxOf_eq_length h]
    simp
theorem meet_pre (ps : List (Int × Int)) (x : Int × Int) : ps <+: meetP ps x := by
  unfold meetP
  split
  · exact List.prefix_refl _
  · exact List.prefix_append _ _
theorem meet_nd {ps : List (Int × Int)} {x : Int × Int} (h : ps.Nodup) : (meetP ps x).Nodup := by
  unfold meetP
  split
  · exact h
  · rename_i hn
    rw [List.nodup_append]
    exact ⟨h, by simp, fun a ha b hb => by rw [List.mem_singleton] at hb; subst hb; exact fun e => hn (e ▸ ha)⟩
theorem mem_meet {ps : List (Int × Int)} {x y : Int × Int} : y ∈ meetP ps x ↔ y ∈ ps ∨ y = x := by
  unfold meetP
  split
  · rename_i h
    exact ⟨Or.inl, fun q => q.elim id fun e => e ▸ h⟩
  · simp
theorem prefix_at {α : Type} {l m : List α} (h : l <+: m) {n : Nat} {x : α} (hx : l[n]? = some x) : m[n]? = some x := by
  obtain ⟨t, rfl⟩ := h
  have hl : n < l.length := by
    rw [List.getElem?_eq_some_iff] at hx
    exact hx.1
  rw [List.getElem?_append_left hl]
  exact hx

/-- what leading along some steps does -/
structure Led (k : Nat) (L : List Stp) (b b' : BothD) : Prop where
  pre : b.ps <+: b'.ps
  nd : b.ps.Nodup → b'.ps.Nodup
  mem : ∀ y ∈ b'.ps, y ∈ b.ps ∨ ∃ s ∈ L, y = (s.to1, s.to2)
  arcs : ∃ new, b'.arcs = b.arcs ++ new ∧ new.length = L.length ∧ (∀ a ∈ new, ∃ s ∈ L, ∃ n : Nat, b'.ps[n]? = some (s.to1, s.to2) ∧ a = stpA k n s) ∧ ∀ s ∈ L, ∃ n : Nat, b'.ps[n]? = some (s.to1, s.to2) ∧ stpA k n s ∈ new

theorem led (k : Nat) (L : List Stp) : ∀ b : BothD, Led k L b (L.foldl (leadD k) b) := by
  induction L with
  | nil => exact fun b => ⟨List.prefix_refl _, id, fun y hy => Or.inl hy, [], by simp, rfl, by simp, by simp⟩
  | cons s L ih =>
    intro b
    obtain ⟨h1, h2, h3, new, h4, h5, h6, h7⟩ := ih (leadD k b s)
    refine ⟨(meet_pre _ _).trans h1, fun hn => h2 (meet_nd hn), fun y hy => ?_, stpA k (b.ps.idxOf (s.to1, s.to2)) s :: new, ?_, by simp [h5], ?_, ?_⟩
    · rcases h3 y hy with q | ⟨t, ht, e⟩
      · rcases mem_meet.1 q with q | q
        · exact Or.inl q
        · exact Or.inr ⟨s, by simp, q⟩
      · exact Or.inr ⟨t, by simp [ht], e⟩
    · rw [List.foldl_cons, h4]
      show b.arcs ++ [_] ++ new = _
      simp
    · intro a ha
      rcases List.mem_cons.1 ha with rfl | ha
      · exact ⟨s, by simp, _, prefix_at h1 (meet_at _ _), rfl⟩
      · obtain ⟨t, ht, q⟩ := h6 a ha
        exact ⟨t, by simp [ht], q⟩
    · intro t ht
      rcases List.mem_cons.1 ht with rfl | ht
      · exact ⟨_, prefix_at h1 (meet_at _ _), by simp⟩
      · obtain ⟨n, q1, q2⟩ := h7 t ht
        exact ⟨n, q1, by simp [q2]⟩

/-- what is true when the first k pairs are gone on from -/
structure GrI (f g : FstD) (k : Nat) (b : BothD) : Prop where
  nd : b.ps.Nodup
  hd : b.ps[0]? = some (f.start, g.start)
  rng : ∀ x ∈ b.ps, InP f g x
  kle : k ≤ b.ps.length
  snd : ∀ a ∈ b.arcs, ∃ m x s n, m < k ∧ b.ps[m]? = some x ∧ s ∈ stpL f g x ∧ b.ps[n]? = some (s.to1, s.to2) ∧ a = stpA m n s
  cmp : ∀ m x s, m < k → b.ps[m]? = some x → s ∈ stpL f g x → ∃ n, b.ps[n]? = some (s.to1, s.to2) ∧ stpA m n s ∈ b.arcs
  cnt : b.arcs.length = ((b.ps.take k).map fun x => (stpL f g x).length).sum

theorem grown_inv {f g : FstD} (kf : Fine f) (kg : Fine g) {k : Nat} : ∀ {b : BothD}, Grown f g k b → GrI f g k b := by
  induction k with
  | zero =>
    intro b hb
    obtain rfl : b = begD f g := hb
    exact ⟨by simp [begD], rfl, fun x hx => by rw [show x = (f.start, g.start) by simpa [begD] using hx]; exact start_in kf kg, Nat.zero_le _, fun a ha => by simp [begD] at ha, fun m x s hm => by omega, by simp [begD]⟩
  | succ k ih =>
    rintro b ⟨b', hb', hk, rfl⟩
    have h := ih hb'
    obtain ⟨x, hx⟩ : ∃ x, b'.ps[k]? = some x := ⟨_, List.getElem?_eq_getElem hk⟩
    have hg : b'.ps.getD k (0, 0) = x := by rw [List.getD_eq_getElem?_getD, hx]; rfl
    have hxm : x ∈ b'.ps := List.mem_of_getElem? hx
    unfold expD
    rw [hg]
    obtain ⟨l1, l2, l3, new, l4, l5, l6, l7⟩ := led k (stpL f g x) b'
    generalize (stpL f g x).foldl (leadD k) b' = b at *
    have hsame : ∀ m y, m ≤ k → b.ps[m]? = some y → b'.ps[m]? = some y := fun m y hm hy => by
      obtain ⟨y', hy'⟩ : ∃ y', b'.ps[m]? = some y' := ⟨_, List.getElem?_eq_getElem (by omega)⟩
      rw [hy', ← prefix_at l1 hy', hy]
    refine ⟨l2 h.nd, prefix_at l1 h.hd, fun y hy => ?_, ?_, fun a ha => ?_, fun m y s hm hy hs => ?_, ?_⟩
    · rcases l3 y hy with q | ⟨s, hs, rfl⟩
      · exact h.rng y q
      · exact (stp_in kf kg (h.rng x hxm) hs).1
    · have := l1.length_le; omega
    · rw [l4, List.mem_append] at ha
      rcases ha with ha | ha
      · obtain ⟨m, y, s, n, q1, q2, q3, q4, q5⟩ := h.snd a ha
        exact ⟨m, y, s, n, by omega, prefix_at l1 q2, q3, prefix_at l1 q4, q5⟩
      · obtain ⟨s, hs, n, q1, q2⟩ := l6 a ha
        exact ⟨k, x, s, n, by omega, prefix_at l1 hx, hs, q1, q2⟩
    · have hy' := hsame m y (by omega) hy
      by_cases e : m = k
      · subst e
        rw [hx] at hy'
        injection hy' with hy'
        subst hy'
        obtain ⟨n, q1, q2⟩ := l7 s hs
        exact ⟨n, q1, by rw [l4, List.mem_append]; exact Or.inr q2⟩
      · obtain ⟨n, q1, q2⟩ := h.cmp m y s (by omega) hy' hs
        exact ⟨n, prefix_at l1 q1, by rw [l4, List.mem_append]; exact Or.inl q2⟩
    · have e1 : b.ps.take (k + 1) = b'.ps.take k ++ [x] := by
        obtain ⟨t, ht⟩ := l1
        rw [← ht, List.take_append_of_le_length (by omega), List.take_add_one, hx]
        rfl
      rw [l4, List.length_append, h.cnt, l5, e1]
      simp

/-! What is composed: the pairs as states, of arcs that differ in the weight alone the least. -/
def cmpD (f g : FstD) (b : BothD) (r : List ArcD) : FstD := ⟨b.ps.length, 0, b.ps.map (endC f g), r⟩

theorem Mn.low {S T : Int → Prop} {x : Int} (h : Mn S x) (h1 : ∀ y, S y → T y) (h2 : ∀ y, T y → ∃ z, S z ∧ z ≤ y) : Mn T x := by
  rcases h with ⟨e, h⟩ | ⟨e, h, k⟩
  · refine Or.inl ⟨e, fun y hy => ?_⟩
    obtain ⟨z, hz, _⟩ := h2 y hy
    exact h z hz
  · refine Or.inr ⟨e, h1 _ h, fun y hy => ?_⟩
    obtain ⟨z, hz, hle⟩ := h2 y hy
    have := k z hz
    omega

theorem gI_map {α : Type} (F : α → Int) (l : List α) {n : Nat} {x : α} (h : l[n]? = some x) : gI (l.map F) n = F x := by
  unfold gI
  rw [List.getD_eq_getElem?_getD, List.getElem?_map, h]
  rfl

section
variable {f g : FstD} {b : BothD} {r : List ArcD} (hI : GrI f g b.ps.length b) (hr : IsMin r b.arcs) {ins outs : List Int}
include hI hr

theorem cmp_path {h : Nat} : ∀ {n i o : Nat} {z : Int}, PathN (cmpD f g b r) ins outs 0 h n i o z → ∃ x, b.ps[n]? = some x ∧ PairN f g ins outs h x i o z := by
  induction h with
  | zero =>
    rintro n i o z ⟨rfl, rfl, rfl, rfl⟩
    exact ⟨_, hI.hd, rfl, rfl, rfl, rfl⟩
  | succ h ih =>
    rintro n i o z ⟨a, ha, n', i', o', z', hp, e1, e2, e3, e4, e5, e6, e7⟩
    obtain ⟨x, hx, hq⟩ := ih hp
    obtain ⟨m, y, s, k, q1, q2, q3, q4, rfl⟩ := hI.snd a ((hr.mem a).1 ha).1
    have em : m = n' := Int.ofNat.inj e1
    have ek : k = n := Int.ofNat.inj e2
    subst em ek
    rw [hx] at q2
    injection q2 with q2
    subst q2
    exact ⟨_, q4, x, i', o', z', s, hq, q3, rfl, e3, e4, e5, e6, e7⟩

theorem path_cmp {h : Nat} : ∀ {x : Int × Int} {i o : Nat} {z : Int}, PairN f g ins outs h x i o z → ∃ n z', b.ps[n]? = some x ∧ PathN (cmpD f g b r) ins outs 0 h n i o z' ∧ z' ≤ z := by
  induction h with
  | zero =>
    rintro x i o z ⟨rfl, rfl, rfl, rfl⟩
    exact ⟨0, 0, hI.hd, ⟨rfl, rfl, rfl, rfl⟩, Int.le_refl _⟩
  | succ h ih =>
    rintro x i o z ⟨x', i', o', z', s, hp, hs, rfl, e1, e2, e3, e4, e5⟩
    obtain ⟨m, y, hm, hq, hle⟩ := ih hp
    have hml : m < b.ps.length := by
      rw [List.getElem?_eq_some_iff] at hm
      exact hm.1
    obtain ⟨n, hn, ha⟩ := hI.cmp m x' s hml hm hs
    obtain ⟨a, har, hk, hw⟩ := hr.rep ha
    obtain ⟨k1, k2, k3, k4⟩ := hk
    refine ⟨n, y + a.wt, hn, ⟨a, har, m, i', o', y, hq, k1, k4, ?_, ?_, ?_, ?_, rfl⟩, ?_⟩
    · rw [k2]; exact e1
    · rw [k3]; exact e2
    · rw [k2]; exact e3
    · rw [k3]; exact e4
    · have : (stpA m n s).wt = s.wt := rfl
      omega

theorem cmp_best {x : Int} : BestP (cmpD f g b r) ins outs 0 x → Mn (PairT f g ins outs) x := by
  intro h
  refine Mn.low (best_mn.1 h) ?_ ?_
  · rintro y ⟨k, n, z, hp, h0, rfl⟩
    obtain ⟨p, hx, hq⟩ := cmp_path hI hr hp
    have e : gI (cmpD f g b r).final n = endC f g p := gI_map _ _ hx
    rw [e] at h0 ⊢
    exact ⟨k, p, z, hq, h0, rfl⟩
  · rintro y ⟨k, p, z, hp, h0, rfl⟩
    obtain ⟨n, z', hx, hq, hle⟩ := path_cmp hI hr hp
    have e : gI (cmpD f g b r).final n = endC f g p := gI_map _ _ hx
    exact ⟨z' + endC f g p, ⟨k, n, z', hq, by rw [e]; exact h0, by rw [e]⟩, by omega⟩
end

theorem end_cases (f g : FstD) (x : Int × Int) : endC f g x = -1 ∨ (0 ≤ endC f g x ∧ endC f g x = gI f.final x.1.toNat + gI g.final x.2.toNat ∧ 0 ≤ gI f.final x.1.toNat ∧ 0 ≤ gI g.final x.2.toNat) := by
  unfold endC plusC
  split
  · exact Or.inl rfl
  · rename_i h
    exact Or.inr ⟨by omega, rfl, by omega, by omega⟩

/-- it is right where nothing of it is too great -/
theorem cmp_fine {f g : FstD} (kf : Fine f) (kg : Fine g) {b : BothD} {r : List ArcD} (hI : GrI f g b.ps.length b) (hr : IsMin r b.arcs) (h1 : b.ps.length ≤ 200) (h2 : r.length ≤ 3000) (h3 : ∀ x ∈ b.ps, endC f g x ≤ 1000000000) (h4 : ∀ a ∈ r, a.wt ≤ 1000000000) : checkD (cmpD f g b r) = 0 := by
  have h0 : 0 < b.ps.length := by
    have := hI.hd
    rw [List.getElem?_eq_some_iff] at this
    exact this.1
  refine Fine.check ⟨?_, ?_, ?_, ?_, ?_, fun x hx => ?_, h2, fun a ha => ?_, hr.ord⟩
  · show (1 : Int) ≤ (b.ps.length : Int); omega
  · show (b.ps.length : Int) ≤ 200; omega
  · show (0 : Int) ≤ 0; omega
  · show (0 : Int) < (b.ps.length : Int); omega
  · show ((b.ps.map (endC f g)).length : Int) = (b.ps.length : Int); rw [List.length_map]
  · obtain ⟨y, hy, rfl⟩ := List.mem_map.1 hx
    have := h3 y hy
    rcases end_cases f g y with h | ⟨h, _⟩
    · exact Or.inl h
    · exact Or.inr ⟨h, this⟩
  · obtain ⟨m, x, s, n, q1, q2, q3, q4, rfl⟩ := hI.snd a ((hr.mem a).1 ha).1
    have hx := hI.rng x (List.mem_of_getElem? q2)
    obtain ⟨_, t1, t2, t3, _⟩ := stp_in kf kg hx q3
    have hw := h4 _ ha
    have hn : n < b.ps.length := by
      rw [List.getElem?_eq_some_iff] at q4
      exact q4.1
    exact arc_in (N := b.ps.length) ⟨by show (0 : Int) ≤ (m : Int); omega, by show (m : Int) < _; omega⟩ ⟨by show (0 : Int) ≤ (n : Int); omega, by show (n : Int) < _; omega⟩ t1 t2 ⟨t3, hw⟩ rfl

/-! How many there can be. -/
theorem flat_len {α β : Type} (F : α → List β) (l : List α) : (l.flatMap F).length = (l.map fun x => (F x).length).sum := by
  induction l with
  | nil => rfl
  | cons x l ih => simp [ih]

theorem sum_add {α : Type} (F G : α → Nat) (l : List α) : (l.map fun x => F x + G x).sum = (l.map F).sum + (l.map G).sum := by
  induction l with
  | nil => rfl
  | cons x l ih => simp [ih]; omega
theorem sum_le {α : Type} (F G : α → Nat) (l : List α) (h : ∀ x ∈ l, F x ≤ G x) : (l.map F).sum ≤ (l.map G).sum := by
  induction l with
  | nil => exact Nat.le_refl _
  | cons x l ih =>
    have := ih fun y hy => h y (by simp [hy])
    have := h x (by simp)
    simp; omega
theorem sum_const {α : Type} (l : List α) (c : Nat) : (l.map fun _ => c).sum = l.length * c := by
  induction l with
  | nil => simp
  | cons x l ih => simp [ih, Nat.add_mul]; omega
theorem sum_swap {α β : Type} (l : List α) (m : List β) (F : α → β → Nat) : (l.map fun x => (m.map fun y => F x y).sum).sum = (m.map fun y => (l.map fun x => F x y).sum).sum := by
  induction l with
  | nil =>
    simp only [List.map_nil, List.sum_nil]
    rw [sum_const]
    omega
  | cons x l ih =>
    simp only [List.map_cons, List.sum_cons, ih]
    rw [← sum_add]
theorem filter_sum {α : Type} (p : α → Bool) (l : List α) : (l.filter p).length = (l.map fun x => if p x then 1 else 0).sum := by
  induction l with
  | nil => rfl
  | cons x l ih =>
    rw [List.filter_cons]
    split <;> simp_all <;> omega
/-- of things that are not twice there, one at most is a given one -/
theorem once_le {α : Type} [DecidableEq α] (l : List α) (hn : l.Nodup) (p : α → Bool) (hp : ∀ x y, p x = true → p y = true → x = y) : (l.map fun x => if p x then 1 else 0).sum ≤ 1 := by
  induction l with
  | nil => simp
  | cons x l ih =>
    rw [List.nodup_cons] at hn
    simp only [List.map_cons, List.sum_cons]
    have := ih hn.2
    split
    · rename_i hx
      have h0 : (l.map fun x => if p x then 1 else 0).sum = 0 := by
        rw [List.sum_eq_zero_iff_forall_eq_nat]
        intro y hy
        obtain ⟨z, hz, rfl⟩ := List.mem_map.1 hy
        split
        · rename_i hpz
          exact absurd (hp x z hx hpz ▸ hz) hn.1
        · rfl
      omega
    · omega

theorem one_le_sum {α : Type} (l : List α) (p : α → Bool) {x : α} (hx : x ∈ l) (hp : p x = true) : 1 ≤ (l.map fun y => if p y then 1 else 0).sum := by
  induction l with
  | nil => cases hx
  | cons y l ih =>
    simp only [List.map_cons, List.sum_cons]
    rcases List.mem_cons.1 hx with rfl | hx
    · rw [if_pos hp]; omega
    · have := ih hx; omega

section
variable {f g : FstD} {ps : List (Int × Int)} (hn : ps.Nodup) (hg : ∀ x ∈ ps, InP f g x)
include hn

theorem pair_le (p q : Int) : (ps.map fun x => if x == (p, q) then 1 else 0).sum ≤ 1 :=
  once_le ps hn (fun x => x == (p, q)) fun x y h1 h2 => by rw [beq_iff_eq] at h1 h2; rw [h1, h2]
theorem tog_le : (ps.map fun x => (togL f.arcs g.arcs x.1 x.2).length).sum ≤ f.arcs.length * g.arcs.length := by
  refine Nat.le_trans (sum_le _ (fun x => (f.arcs.map fun a => (g.arcs.map fun c => if x == (a.src, c.src) then 1 else 0).sum).sum) ps fun x _ => ?_) ?_
  · unfold togL
    rw [flat_len]
    generalize f.arcs = A
    induction A with
    | nil => exact Nat.le_refl _
    | cons a A ih =>
      rw [List.filter_cons]
      simp only [List.map_cons, List.sum_cons]
      split
      · rename_i h
        simp only [Bool.and_eq_true, beq_iff_eq] at h
        simp only [List.map_cons, List.sum_cons]
        refine Nat.add_le_add ?_ ih
        unfold togC
        rw [List.length_map, filter_sum]
        refine sum_le _ _ _ fun c _ => ?_
        split
        · rename_i hc
          simp only [Bool.and_eq_true, beq_iff_eq] at hc
          rw [if_pos (by rw [beq_iff_eq, h.1, hc.1])]
          exact Nat.le_refl _
        · exact Nat.zero_le _
      · omega
  · rw [sum_swap]
    refine Nat.le_trans (sum_le _ (fun _ => g.arcs.length) _ fun a _ => ?_) ?_
    · rw [sum_swap]
      refine Nat.le_trans (sum_le _ (fun _ => 1) _ fun c _ => pair_le hn a.src c.src) ?_
      rw [sum_const, Nat.mul_one]
      exact Nat.le_refl _
    · rw [sum_const]
      exact Nat.le_refl _
include hg
theorem snd_le (p : Int) : (ps.map fun x => if x.1 == p then 1 else 0).sum ≤ g.states.toNat := by
  refine Nat.le_trans (sum_le _ (fun x => ((List.range g.states.toNat).map fun q : Nat => if x == (p, (q : Int)) then 1 else 0).sum) ps fun x hx => ?_) ?_
  · split
    · rename_i h
      rw [beq_iff_eq] at h
      obtain ⟨_, h1, h2⟩ := hg x hx
      refine one_le_sum _ (fun q : Nat => x == (p, (q : Int))) (x := x.2.toNat) (List.mem_range.2 (by omega)) ?_
      rw [beq_iff_eq, ← h, Int.toNat_of_nonneg h1]
    · exact Nat.zero_le _
  · rw [sum_swap]
    refine Nat.le_trans (sum_le _ (fun _ => 1) _ fun q _ => pair_le hn p q) ?_
    rw [sum_const, List.length_range, Nat.mul_one]
    exact Nat.le_refl _
theorem fst_le (q : Int) : (ps.map fun x => if x.2 == q then 1 else 0).sum ≤ f.states.toNat := by
  refine Nat.le_trans (sum_le _ (fun x => ((List.range f.states.toNat).map fun p : Nat => if x == ((p : Int), q) then 1 else 0).sum) ps fun x hx => ?_) ?_
  · split
    · rename_i h
      rw [beq_iff_eq] at h
      obtain ⟨⟨h1, h2⟩, _⟩ := hg x hx
      refine one_le_sum _ (fun p : Nat => x == ((p : Int), q)) (x := x.1.toNat) (List.mem_range.2 (by omega)) ?_
      rw [beq_iff_eq, ← h, Int.toNat_of_nonneg h1]
    · exact Nat.zero_le _
  · rw [sum_swap]
    refine Nat.le_trans (sum_le _ (fun _ => 1) _ fun p _ => pair_le hn p q) ?_
    rw [sum_const, List.length_range, Nat.mul_one]
    exact Nat.le_refl _
/-- no more pairs than there are -/
theorem pairs_le : ps.length ≤ f.states.toNat * g.states.toNat := by
  have h1 : ps.length = (ps.map fun _ => 1).sum := by rw [sum_const, Nat.mul_one]
  rw [h1]
  refine Nat.le_trans (sum_le _ (fun x => ((List.range f.states.toNat).map fun p : Nat => if x.1 == (p : Int) then 1 else 0).sum) ps fun x hx => ?_) ?_
  · obtain ⟨⟨h1, h2⟩, _⟩ := hg x hx
    refine one_le_sum _ (fun p : Nat => x.1 == (p : Int)) (x := x.1.toNat) (List.mem_range.2 (by omega)) ?_
    rw [beq_iff_eq, Int.toNat_of_nonneg h1]
  · rw [sum_swap]
    refine Nat.le_trans (sum_le _ (fun _ => g.states.toNat) _ fun p _ => snd_le hn hg p) ?_
    rw [sum_const, List.length_range]
    exact Nat.le_refl _
theorem fstL_le : (ps.map fun x => (fstL2 f.arcs x.1 x.2).length).sum ≤ f.arcs.length * g.states.toNat := by
  refine Nat.le_trans (sum_le _ (fun x => (f.arcs.map fun a => if x.1 == a.src then 1 else 0).sum) ps fun x _ => ?_) ?_
  · unfold fstL2
    rw [List.length_map, filter_sum]
    refine sum_le _ _ _ fun a _ => ?_
    split
    · rename_i h
      simp only [Bool.and_eq_true, beq_iff_eq] at h
      rw [if_pos (by rw [beq_iff_eq, h.1])]
      exact Nat.le_refl _
    · exact Nat.zero_le _
  · rw [sum_swap]
    refine Nat.le_trans (sum_le _ (fun _ => g.states.toNat) _ fun a _ => snd_le hn hg a.src) ?_
    rw [sum_const]
    exact Nat.le_refl _
theorem sndL_le : (ps.map fun x => (sndL g.arcs x.1 x.2).length).sum ≤ g.arcs.length * f.states.toNat := by
  refine Nat.le_trans (sum_le _ (fun x => (g.arcs.map fun a => if x.2 == a.src then 1 else 0).sum) ps fun x _ => ?_) ?_
  · unfold sndL
    rw [List.length_map, filter_sum]
    refine sum_le _ _ _ fun a _ => ?_
    split
    · rename_i h
      simp only [Bool.and_eq_true, beq_iff_eq] at h
      rw [if_pos (by rw [beq_iff_eq, h.1])]
      exact Nat.le_refl _
    · exact Nat.zero_le _
  · rw [sum_swap]
    refine Nat.le_trans (sum_le _ (fun _ => f.states.toNat) _ fun a _ => fst_le hn hg a.src) ?_
    rw [sum_const]
    exact Nat.le_refl _
end

/-- no more arcs than pairs of arcs, and arcs beside a state -/
theorem arcs_le {f g : FstD} {b : BothD} (hI : GrI f g b.ps.length b) : b.arcs.length ≤ f.arcs.length * g.arcs.length + (f.arcs.length * g.states.toNat + g.arcs.length * f.states.toNat) := by
  rw [hI.cnt, List.take_of_length_le (Nat.le_refl _)]
  have e : (b.ps.map fun x => (stpL f g x).length) = b.ps.map fun x => (togL f.arcs g.arcs x.1 x.2).length + ((fstL2 f.arcs x.1 x.2).length + (sndL g.arcs x.1 x.2).length) := by
    refine List.map_congr_left fun x _ => ?_
    unfold stpL
    rw [List.length_append, List.length_append]
  rw [e, sum_add, sum_add]
  have h1 := tog_le (f := f) (g := g) hI.nd
  have h2 := fstL_le hI.nd hI.rng
  have h3 := sndL_le hI.nd hI.rng
  omega
end Go.Proofs.Yteehgcbjmdideaa

/- The document's table of pairs at places of both words: prices fall until nothing is better; then they are the least. -/
namespace Go.Proofs.Yteehgcbjmdideaa

/-- what stays true of the prices -/
structure InvC (E : List Edg) (b c : List Int) : Prop where
  len : c.length = b.length
  ach : Ach E b c
  le : LeC c b
  lo : ∀ v, -1 ≤ gI c v
  hi : ∀ v, gI c v ≤ 2000000000 * (1 + (metL c : Int))

theorem InvC.top {E : List Edg} {b c : List Int} (h : InvC E b c) (hn : b.length ≤ 400000) (v : Nat) : gI c v ≤ 800002000000000 := by
  have h1 := h.hi v
  have h2 := metL_le c
  have h3 := h.len
  omega

theorem InvC.start {E : List Edg} {b : List Int} (hb : ∀ v, gI b v = -1 ∨ gI b v = 0) : InvC E b b where
  len := rfl
  ach := fun v => (hb v).imp id fun h => ⟨0, rfl, by omega⟩
  le := LeC.refl _
  lo := fun v => by rcases hb v with h | h <;> omega
  hi := fun v => by rcases hb v with h | h <;> omega

theorem InvC.rel {E : List Edg} {b c : List Int} (h : InvC E b c) (hbn : b.length ≤ 400000) {e : Edg} (he : e ∈ E) (hv : e.v < b.length) (hw0 : 0 ≤ e.w) (hw1 : e.w ≤ 2000000000) :
    InvC E b (relE c e) ∧ (lessC (gI c e.v) (plusC (gI c e.u) e.w) ≠ gI c e.v → muL (relE c e) < muL c) := by
  have hvc : e.v < c.length := by have := h.len; omega
  have lv := h.lo e.v
  have lu := h.lo e.u
  have tu := h.top hbn e.u
  have hu := h.hi e.u
  have hhv := h.hi e.v
  have hmet := sum_set (fun x => if x < 0 then 0 else 1) c e.v (lessC (gI c e.v) (plusC (gI c e.u) e.w)) hvc
  have hmu := sum_set muI c e.v (lessC (gI c e.v) (plusC (gI c e.u) e.w)) hvc
  change metL (relE c e) + _ = metL c + _ at hmet
  change muL (relE c e) + _ = muL c + _ at hmu
  have hset : ∀ x, gI (relE c e) x = if x = e.v then lessC (gI c e.v) (plusC (gI c e.u) e.w) else gI c x := fun x => by unfold relE; rw [gI_set _ _ _ _ hvc]
  have hval : (lessC (gI c e.v) (plusC (gI c e.u) e.w) = gI c e.v) ∨ (0 ≤ gI c e.u ∧ lessC (gI c e.v) (plusC (gI c e.u) e.w) = gI c e.u + e.w ∧ (gI c e.v = -1 ∨ gI c e.u + e.w < gI c e.v)) := by
    unfold lessC plusC
    by_cases h1 : gI c e.u < 0 ∨ e.w < 0
    · rw [if_pos h1]
      left
      split
      · omega
      · rw [if_pos (by omega)]
    · rw [if_neg h1]
      split
      · right; omega
      · split
        · left; rfl
        · by_cases h2 : gI c e.u + e.w = gI c e.v
          · left; exact h2
          · right; omega
  refine ⟨⟨by unfold relE; rw [List.length_set]; exact h.len, relE_ach he hvc h.ach, (relE_le c e hvc).trans h.le, fun x => ?_, fun x => ?_⟩, fun hne => ?_⟩
  · rw [hset]
    split
    · rcases hval with q | q <;> omega
    · exact h.lo x
  · rw [hset]
    have hx := h.hi x
    rcases hval with q | ⟨q1, q2, q3⟩
    · rw [q] at hmet
      split <;> omega
    · rw [q2] at hmet ⊢
      rw [if_neg (by omega : ¬ gI c e.u + e.w < 0)] at hmet
      rcases q3 with q3 | q3
      · rw [q3, if_pos (by decide)] at hmet
        split <;> omega
      · rw [if_neg (by omega : ¬ gI c e.v < 0)] at hmet
        split <;> omega
  · rcases hval with q | ⟨q1, q2, q3⟩
    · exact absurd q hne
    · rw [q2] at hmu
      have : muI (gI c e.u + e.w) < muI (gI c e.v) := by
        unfold muI
        rw [if_neg (by omega)]
        rcases q3 with q3 | q3
        · rw [if_pos (by omega)]; omega
        · rw [if_neg (by omega)]; omega
      omega

/-- one round: what is true while nothing was better; else prices fell -/
def RI (E : List Edg) (b c0 c : List Int) (ch : Bool) (Q : Prop) : Prop := InvC E b c ∧ (ch = false → c = c0 ∧ Q) ∧ (ch = true → muL c < muL c0)

theorem RI.mono {E : List Edg} {b c0 c : List Int} {ch : Bool} {Q Q' : Prop} (h : RI E b c0 c ch Q) (hq : Q → Q') : RI E b c0 c ch Q' := ⟨h.1, fun e => ⟨(h.2.1 e).1, hq (h.2.1 e).2⟩, h.2.2⟩

/-- an edge by which nothing is better -/
def Rx (c : List Int) (e : Edg) : Prop := 0 ≤ gI c e.u → 0 ≤ gI c e.v ∧ gI c e.v ≤ gI c e.u + e.w

def chB (ch : Bool) (c : List Int) (e : Edg) : Bool := if lessC (gI c e.v) (plusC (gI c e.u) e.w) = gI c e.v then ch else true

theorem RI.better {E : List Edg} {b c0 c : List Int} {ch : Bool} {Q : Prop} (h : RI E b c0 c ch Q) (hbn : b.length ≤ 400000) {e : Edg} (he : e ∈ E) (hv : e.v < b.length) (hw0 : 0 ≤ e.w) (hw1 : e.w ≤ 2000000000) : RI E b c0 (relE c e) (chB ch c e) (Q ∧ Rx c0 e) := by
  obtain ⟨k1, k2⟩ := h.1.rel hbn he hv hw0 hw1
  refine ⟨k1, fun hf => ?_, fun ht => ?_⟩
  · unfold chB at hf
    split at hf
    · rename_i hs
      obtain ⟨rfl, q⟩ := h.2.1 hf
      refine ⟨by unfold relE; rw [hs, set_same], q, rlx_same hw0 (h.1.lo _) hs⟩
    · exact absurd hf (by decide)
  · unfold chB at ht
    split at ht
    · rename_i hs
      have e1 : relE c e = c := by unfold relE; rw [hs, set_same]
      rw [e1]
      exact h.2.2 ht
    · rename_i hs
      have h1 := k2 hs
      cases hc : ch with
      | false => rw [← (h.2.1 hc).1]; exact h1
      | true => have := h.2.2 hc; omega

/-! Spots: a pair of states at a place of both words. -/
def spC (M S O p q i o : Nat) : Nat := (i * (O + 1) + o) * S + p * M + q
theorem spC_eq (M S O p q i o : Nat) : spC M S O p q i o = spotN S O (p * M + q) i o := by unfold spC spotN; omega

theorem pq_lt {N M p q : Nat} (hp : p < N) (hq : q < M) : p * M + q < N * M := mul_add_lt hp hq
theorem spC_lt {N M I O p q i o : Nat} (hp : p < N) (hq : q < M) (hi : i ≤ I) (ho : o ≤ O) : spC M (N * M) O p q i o < (I + 1) * (O + 1) * (N * M) := by
  rw [spC_eq]; exact spotN_lt (pq_lt hp hq) hi ho
theorem spC_inj {N M O p q i o p' q' i' o' : Nat} (hp : p < N) (hq : q < M) (ho : o ≤ O) (hp' : p' < N) (hq' : q' < M) (ho' : o' ≤ O) (h : spC M (N * M) O p q i o = spC M (N * M) O p' q' i' o') : p = p' ∧ q = q' ∧ i = i' ∧ o = o' := by
  rw [spC_eq, spC_eq] at h
  obtain ⟨h1, h2, h3⟩ := spotN_inj (pq_lt hp hq) (pq_lt hp' hq') ho ho' h
  obtain ⟨h4, h5⟩ := mul_add_inj hq hq' h1
  exact ⟨h4, h5, h2, h3⟩

def edgeC (N M O : Nat) (i o : Nat) (x : Int × Int) (s : Stp) : Edg := ⟨spC M (N * M) O x.1.toNat x.2.toNat i o, spC M (N * M) O s.to1.toNat s.to2.toNat (usedBy i s.inp) (usedBy o s.out), s.wt⟩

def fitS (ins outs : List Int) (i o : Nat) (s : Stp) : Bool := fitB ins i s.inp && fitB outs o s.out
def EC (f g : FstD) (N M : Nat) (ins outs : List Int) : List Edg :=
  (List.range (ins.length + 1)).flatMap fun i => (List.range (outs.length + 1)).flatMap fun o => (List.range N).flatMap fun (p : Nat) => (List.range M).flatMap fun (q : Nat) => ((stpL f g ((p : Int), (q : Int))).filter (fitS ins outs i o)).map (edgeC N M outs.length i o ((p : Int), (q : Int)))

theorem mem_EC {f g : FstD} {N M : Nat} {ins outs : List Int} {e : Edg} : e ∈ EC f g N M ins outs ↔ ∃ i o p q : Nat, ∃ s, i ≤ ins.length ∧ o ≤ outs.length ∧ p < N ∧ q < M ∧ s ∈ stpL f g ((p : Int), (q : Int)) ∧ fitB ins i s.inp = true ∧ fitB outs o s.out = true ∧ e = edgeC N M outs.length i o ((p : Int), (q : Int)) s := by
  unfold EC
  simp only [List.mem_flatMap, List.mem_range, List.mem_map, List.mem_filter, fitS, Bool.and_eq_true]
  constructor
  · rintro ⟨i, hi, o, ho, p, hp, q, hq, s, ⟨h1, h2, h3⟩, rfl⟩
    exact ⟨i, o, p, q, s, by omega, by omega, hp, hq, h1, h2, h3, rfl⟩
  · rintro ⟨i, o, p, q, s, hi, ho, hp, hq, h1, h2, h3, rfl⟩
    exact ⟨i, by omega, o, by omega, p, hp, q, hq, s, ⟨h1, h2, h3⟩, rfl⟩

section
variable {f g : FstD} (kf : Fine f) (kg : Fine g) {N M s0 t0 : Nat} (hN : f.states = N) (hM : g.states = M) (hs : f.start = s0) (ht : g.start = t0) {ins outs : List Int}
include kf kg hN hM

/-- an edge that the document looks at -/
theorem edge_in {i o : Nat} {x : Int × Int} {s : Stp} (hi : i ≤ ins.length) (ho : o ≤ outs.length) (hx : InP f g x) (h : s ∈ stpL f g x) (h1 : fitB ins i s.inp = true) (h2 : fitB outs o s.out = true) :
    edgeC N M outs.length i o x s ∈ EC f g N M ins outs ∧ (edgeC N M outs.length i o x s).v < (ins.length + 1) * (outs.length + 1) * (N * M) ∧ 0 ≤ (edgeC N M outs.length i o x s).w ∧ (edgeC N M outs.length i o x s).w ≤ 2000000000 := by
  obtain ⟨⟨⟨t1, t2⟩, t3, t4⟩, _, _, t5, t6⟩ := stp_in kf kg hx h
  obtain ⟨⟨x1, x2⟩, x3, x4⟩ := hx
  refine ⟨mem_EC.2 ⟨i, o, x.1.toNat, x.2.toNat, s, hi, ho, by omega, by omega, ?_, h1, h2, ?_⟩, ?_, t5, t6⟩
  · rw [Int.toNat_of_nonneg x1, Int.toNat_of_nonneg x3]; exact h
  · rw [Int.toNat_of_nonneg x1, Int.toNat_of_nonneg x3]
  · refine spC_lt (I := ins.length) ?_ ?_ (usedBy_le h1 hi) (usedBy_le h2 ho)
    · show s.to1.toNat < N
      have t2' : s.to1 < f.states := t2
      have t1' : 0 ≤ s.to1 := t1
      omega
    · show s.to2.toNat < M
      have t2' : s.to2 < g.states := t4
      have t1' : 0 ≤ s.to2 := t3
      omega

theorem EC_ok {e : Edg} (he : e ∈ EC f g N M ins outs) : e.v < (ins.length + 1) * (outs.length + 1) * (N * M) ∧ 0 ≤ e.w ∧ e.w ≤ 2000000000 := by
  obtain ⟨i, o, p, q, s, hi, ho, hp, hq, h1, h2, h3, rfl⟩ := mem_EC.1 he
  exact (edge_in kf kg hN hM hi ho (x := ((p : Int), (q : Int))) ⟨⟨Int.natCast_nonneg p, by rw [hN]; exact Int.ofNat_lt.2 hp⟩, Int.natCast_nonneg q, by rw [hM]; exact Int.ofNat_lt.2 hq⟩ h1 h2 h3).2

include hs ht
theorem way_pair {h : Nat} : ∀ {v : Nat} {z : Int}, WayN (EC f g N M ins outs) (bgS (spC M (N * M) outs.length s0 t0 0 0) ((ins.length + 1) * (outs.length + 1) * (N * M))) h v z →
    ∃ x i o, InP f g x ∧ i ≤ ins.length ∧ o ≤ outs.length ∧ v = spC M (N * M) outs.length x.1.toNat x.2.toNat i o ∧ PairN f g ins outs h x i o z := by
  have hst := start_in kf kg
  induction h with
  | zero =>
    rintro v z ⟨h1, h2⟩
    rw [bgS_at] at h1
    split at h1
    · rename_i hv
      refine ⟨(f.start, g.start), 0, 0, hst, Nat.zero_le _, Nat.zero_le _, ?_, rfl, rfl, rfl, h1.symm⟩
      rw [hv.1, hs, ht]
      simp
    · omega
  | succ h ih =>
    rintro v z ⟨e, he, rfl, c, hc, rfl⟩
    obtain ⟨x, i, o, hx, hi, ho, hu, hp⟩ := ih hc
    obtain ⟨i', o', p, q, s, hi', ho', hp', hq', h1, h2, h3, rfl⟩ := mem_EC.1 he
    have hx' : InP f g ((p : Int), (q : Int)) := ⟨⟨Int.natCast_nonneg p, by rw [hN]; exact Int.ofNat_lt.2 hp'⟩, Int.natCast_nonneg q, by rw [hM]; exact Int.ofNat_lt.2 hq'⟩
    have hu' : spC M (N * M) outs.length p q i' o' = spC M (N * M) outs.length x.1.toNat x.2.toNat i o := by
      have : (edgeC N M outs.length i' o' ((p : Int), (q : Int)) s).u = spC M (N * M) outs.length p q i' o' := by
        show spC M (N * M) outs.length (p : Int).toNat (q : Int).toNat i' o' = _
        rw [Int.toNat_natCast, Int.toNat_natCast]
      rw [← this]; exact hu
    obtain ⟨⟨x1, x2⟩, x3, x4⟩ := hx
    obtain ⟨e1, e2, e3, e4⟩ := spC_inj (N := N) hp' hq' ho' (by omega) (by omega) ho hu'
    have ex : x = ((p : Int), (q : Int)) := by
      have a1 : x.1 = (p : Int) := by omega
      have a2 : x.2 = (q : Int) := by omega
      cases x
      simp only at a1 a2
      rw [a1, a2]
    subst e3 e4
    rw [ex] at hp
    exact ⟨(s.to1, s.to2), usedBy i' s.inp, usedBy o' s.out, (stp_in kf kg hx' h1).1, usedBy_le h2 hi', usedBy_le h3 ho', rfl, _, _, _, _, s, hp, h1, rfl, h2, h3, rfl, rfl, rfl⟩

theorem pair_way {h : Nat} : ∀ {x : Int × Int} {i o : Nat} {z : Int}, PairN f g ins outs h x i o z →
    WayN (EC f g N M ins outs) (bgS (spC M (N * M) outs.length s0 t0 0 0) ((ins.length + 1) * (outs.length + 1) * (N * M))) h (spC M (N * M) outs.length x.1.toNat x.2.toNat i o) z := by
  have hst := start_in kf kg
  induction h with
  | zero =>
    rintro x i o z ⟨rfl, rfl, rfl, rfl⟩
    obtain ⟨⟨x1, x2⟩, x3, x4⟩ := hst
    refine ⟨?_, Int.le_refl _⟩
    show gI _ (spC M (N * M) outs.length f.start.toNat g.start.toNat 0 0) = 0
    rw [hs, ht, Int.toNat_natCast, Int.toNat_natCast, bgS_at, if_pos ⟨rfl, spC_lt (by
      have : f.start < f.states := x2
      omega) (by
      have : g.start < g.states := x4
      omega) (Nat.zero_le _) (Nat.zero_le _)⟩]
  | succ h ih =>
    rintro x i o z ⟨x', i', o', z', s, hp, hs', rfl, e1, e2, rfl, rfl, rfl⟩
    obtain ⟨k1, k2, k3, _⟩ := hp.inp kf kg
    exact ⟨_, (edge_in kf kg hN hM k2 k3 k1 hs' e1 e2).1, rfl, z', ih hp, rfl⟩

/-- a price of the table that can fall no more -/
theorem cell_mn {c : List Int} (hc : InvC (EC f g N M ins outs) (bgS (spC M (N * M) outs.length s0 t0 0 0) ((ins.length + 1) * (outs.length + 1) * (N * M))) c) (hf : Fix (EC f g N M ins outs) c) {p q : Nat} (hp : p < N) (hq : q < M) :
    Mn (fun z => ∃ h, PairN f g ins outs h ((p : Int), (q : Int)) ins.length outs.length z) (gI c (spC M (N * M) outs.length p q ins.length outs.length)) := by
  have hl := fix_least (fun e he => (EC_ok kf kg hN hM he).2.1) hc.ach hc.le hf (spC M (N * M) outs.length p q ins.length outs.length)
  have key : ∀ z, (∃ h, WayN (EC f g N M ins outs) (bgS (spC M (N * M) outs.length s0 t0 0 0) ((ins.length + 1) * (outs.length + 1) * (N * M))) h (spC M (N * M) outs.length p q ins.length outs.length) z) ↔ ∃ h, PairN f g ins outs h ((p : Int), (q : Int)) ins.length outs.length z := by
    intro z
    constructor
    · rintro ⟨h, hw⟩
      obtain ⟨x, i, o, ⟨⟨x1, x2⟩, x3, x4⟩, hi, ho, hu, hp'⟩ := way_pair kf kg hN hM hs ht hw
      obtain ⟨e1, e2, e3, e4⟩ := spC_inj (N := N) hp hq (Nat.le_refl _) (by omega) (by omega) ho hu
      have ex : x = ((p : Int), (q : Int)) := by
        have a1 : x.1 = (p : Int) := by omega
        have a2 : x.2 = (q : Int) := by omega
        cases x
        simp only at a1 a2
        rw [a1, a2]
      rw [ex, ← e3, ← e4] at hp'
      exact ⟨h, hp'⟩
    · rintro ⟨h, hw⟩
      have := pair_way kf kg hN hM hs ht hw
      rw [Int.toNat_natCast, Int.toNat_natCast] at this
      exact ⟨h, this⟩
  rcases hl with ⟨h1, h2⟩ | ⟨h1, h2, h3⟩
  · exact Or.inl ⟨h1, fun y hy => by obtain ⟨h, hw⟩ := (key y).2 hy; exact h2 h y hw⟩
  · exact Or.inr ⟨h1, (key _).1 h2, fun y hy => by obtain ⟨h, hw⟩ := (key y).2 hy; exact h3 h y hw⟩
end

/-- the best end of the pairs that were looked at -/
def EndS (f g : FstD) (ins outs : List Int) (D : Nat → Nat → Prop) (y : Int) : Prop := ∃ p q : Nat, D p q ∧ ∃ h z, PairN f g ins outs h ((p : Int), (q : Int)) ins.length outs.length z ∧ 0 ≤ endC f g ((p : Int), (q : Int)) ∧ y = z + endC f g ((p : Int), (q : Int))

theorem end_step {f g : FstD} {ins outs : List Int} {D D' : Nat → Nat → Prop} {p q : Nat} {best x : Int} (h : Mn (EndS f g ins outs D) best) (hx : Mn (fun z => ∃ h, PairN f g ins outs h ((p : Int), (q : Int)) ins.length outs.length z) x) (hD : ∀ p' q', D' p' q' ↔ D p' q' ∨ (p' = p ∧ q' = q)) :
    Mn (EndS f g ins outs D') (lessC best (plusC x (plusC (gI f.final p) (gI g.final q)))) := by
  have he : endC f g ((p : Int), (q : Int)) = plusC (gI f.final p) (gI g.final q) := by
    unfold endC
    show plusC (gI f.final (p : Int).toNat) (gI g.final (q : Int).toNat) = _
    rw [Int.toNat_natCast, Int.toNat_natCast]
  have h2 : Mn (fun v => v = endC f g ((p : Int), (q : Int)) ∧ 0 ≤ v) (plusC (gI f.final p) (gI g.final q)) := by
    rw [← he]
    rcases end_cases f g ((p : Int), (q : Int)) with e | ⟨e, _⟩
    · exact Or.inl ⟨e, fun y ⟨k1, k2⟩ => by omega⟩
    · exact Or.inr ⟨e, ⟨rfl, e⟩, fun y ⟨k1, _⟩ => by omega⟩
  refine (h.less (hx.plus h2)).cong fun y => ?_
  constructor
  · rintro (⟨p', q', hd, r⟩ | ⟨u, v, ⟨k, hu⟩, ⟨rfl, hv⟩, rfl⟩)
    · exact ⟨p', q', (hD _ _).2 (Or.inl hd), r⟩
    · exact ⟨p, q, (hD _ _).2 (Or.inr ⟨rfl, rfl⟩), k, u, hu, hv, rfl⟩
  · rintro ⟨p', q', hd, k, z, hz, h0, rfl⟩
    rcases (hD _ _).1 hd with hd | ⟨rfl, rfl⟩
    · exact Or.inl ⟨p', q', hd, k, z, hz, h0, rfl⟩
    · exact Or.inr ⟨z, _, ⟨k, hz⟩, ⟨rfl, h0⟩, rfl⟩

theorem end_all {f g : FstD} (kf : Fine f) (kg : Fine g) {N M : Nat} (hN : f.states = N) (hM : g.states = M) {ins outs : List Int} {best : Int} (h : Mn (EndS f g ins outs fun p q => p < N ∧ q < M) best) : Mn (PairT f g ins outs) best := by
  refine h.cong fun y => ?_
  constructor
  · rintro ⟨p, q, _, k, z, hz, h0, rfl⟩
    exact ⟨k, _, z, hz, h0, rfl⟩
  · rintro ⟨k, x, z, hz, h0, rfl⟩
    obtain ⟨⟨⟨x1, x2⟩, x3, x4⟩, _⟩ := hz.inp kf kg
    have ex : x = ((x.1.toNat : Int), (x.2.toNat : Int)) := by
      rw [Int.toNat_of_nonneg x1, Int.toNat_of_nonneg x3]
    rw [ex] at hz h0 ⊢
    exact ⟨_, _, ⟨by omega, by omega⟩, k, z, hz, h0, rfl⟩

/-! One round of the document, place by place. -/
section
variable (f g : FstD) (N M : Nat) (ins outs : List Int) (c : List Int)
/-- the k-th arc of the first one at a place -/
def fOk (i o k : Nat) : Prop := ∀ k' a, k' < k → f.arcs[k']? = some a → fitB ins i a.inp = true → (a.out = 0 → ∀ q : Nat, q < M → Rx c (edgeC N M outs.length i o (a.src, (q : Int)) (fstS q a))) ∧ (0 < a.out → ∀ d ∈ g.arcs, d.inp = a.out → fitB outs o d.out = true → Rx c (edgeC N M outs.length i o (a.src, d.src) (togS a d)))
/-- arcs of the second one that read nothing -/
def gOk (i o j : Nat) : Prop := ∀ j' d, j' < j → g.arcs[j']? = some d → d.inp = 0 → fitB outs o d.out = true → ∀ p : Nat, p < N → Rx c (edgeC N M outs.length i o ((p : Int), d.src) (sndS p d))
def plOk (i o : Nat) : Prop := fOk f g N M ins outs c i o f.arcs.length ∧ gOk g N M outs c i o g.arcs.length
def allOk (k : Nat) : Prop := ∀ i o, i * (outs.length + 1) + o < k → i ≤ ins.length → o ≤ outs.length → plOk f g N M ins outs c i o
end

theorem round_fix {f g : FstD} {N M : Nat} {ins outs : List Int} {c : List Int} (h : allOk f g N M ins outs c ((ins.length + 1) * (outs.length + 1))) : Fix (EC f g N M ins outs) c := by
  intro e he
  obtain ⟨i, o, p, q, s, hi, ho, hp, hq, h1, h2, h3, rfl⟩ := mem_EC.1 he
  obtain ⟨k1, k2⟩ := h i o (place_lt hi ho) hi ho
  rcases mem_stp.1 h1 with ⟨a, ha, d, hd, e1, e2, e3, e4, rfl⟩ | ⟨a, ha, e1, e2, rfl⟩ | ⟨d, hd, e1, e2, rfl⟩
  · obtain ⟨k, hk⟩ := List.getElem?_of_mem ha
    have hkl : k < f.arcs.length := (List.getElem?_eq_some_iff.1 hk).1
    have := (k1 k a hkl hk h2).2 e3 d hd e4 h3
    rw [e1, e2] at this
    exact this
  · obtain ⟨k, hk⟩ := List.getElem?_of_mem ha
    have hkl : k < f.arcs.length := (List.getElem?_eq_some_iff.1 hk).1
    have := (k1 k a hkl hk h2).1 e2 q hq
    rw [e1] at this
    exact this
  · obtain ⟨k, hk⟩ := List.getElem?_of_mem hd
    have hkl : k < g.arcs.length := (List.getElem?_eq_some_iff.1 hk).1
    have := k2 k d hkl hk e2 h3 p hp
    rw [e1] at this
    exact this
end Go.Proofs.Yteehgcbjmdideaa
