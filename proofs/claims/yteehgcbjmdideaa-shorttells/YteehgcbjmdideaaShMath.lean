/- The least that it costs to come to a state along edges: what both the program's search and the document's rounds reckon. -/
namespace Go.Proofs.Yteehgcbjmdideaa

structure Edg where
  u : Nat
  v : Nat
  w : Int

def gI (c : List Int) (v : Nat) : Int := c.getD v (-1)

/-- a way of so many edges to v that costs x -/
def WayN (E : List Edg) (b : List Int) : Nat → Nat → Int → Prop
  | 0, v, x => gI b v = x ∧ 0 ≤ x
  | h + 1, v, x => ∃ e ∈ E, e.v = v ∧ ∃ c, WayN E b h e.u c ∧ x = c + e.w

/-- x is what it costs at least to come to v, or -1 -/
def IsLeast (E : List Edg) (b : List Int) (v : Nat) (x : Int) : Prop :=
  (x = -1 ∧ ∀ h c, ¬ WayN E b h v c) ∨ (0 ≤ x ∧ (∃ h, WayN E b h v x) ∧ ∀ h c, WayN E b h v c → x ≤ c)

section
variable {E : List Edg} {b : List Int}

theorem WayN.nonneg (hw : ∀ e ∈ E, 0 ≤ e.w) {h v : Nat} {x : Int} (H : WayN E b h v x) : 0 ≤ x := by
  induction h generalizing v x with
  | zero => exact H.2
  | succ h ih =>
    obtain ⟨e, he, _, c, hc, rfl⟩ := H
    have := ih hc
    have := hw e he
    omega

theorem IsLeast.unique {v : Nat} {x y : Int} (hx : IsLeast E b v x) (hy : IsLeast E b v y) : x = y := by
  rcases hx with ⟨rfl, h1⟩ | ⟨h0, ⟨h, hx⟩, h1⟩
  · rcases hy with ⟨rfl, _⟩ | ⟨_, ⟨h, hy⟩, _⟩
    · rfl
    · exact absurd hy (h1 h _)
  · rcases hy with ⟨_, h2⟩ | ⟨_, ⟨k, hy⟩, h2⟩
    · exact absurd hx (h2 h _)
    · have := h1 k _ hy
      have := h2 h _ hx
      omega

/-- among numbers that are not below nought there is a least one -/
theorem least_of (p : Int → Prop) (hp : ∀ x, p x → 0 ≤ x) (h : ∃ x, p x) : ∃ x, p x ∧ ∀ y, p y → x ≤ y := by
  obtain ⟨x, hx⟩ := h
  have key : ∀ n : Nat, ∀ x : Int, p x → x.toNat ≤ n → ∃ x, p x ∧ ∀ y, p y → x ≤ y := by
    intro n
    induction n with
    | zero =>
      intro x hx hn
      refine ⟨x, hx, fun y hy => ?_⟩
      have := hp x hx
      have := hp y hy
      omega
    | succ n ih =>
      intro x hx hn
      by_cases hl : ∃ y, p y ∧ y < x
      · obtain ⟨y, hy, hyx⟩ := hl
        have := hp y hy
        exact ih y hy (by omega)
      · refine ⟨x, hx, fun y hy => ?_⟩
        by_cases hyx : y < x
        · exact absurd ⟨y, hy, hyx⟩ hl
        · omega
  exact key x.toNat x hx (Nat.le_refl _)

theorem least_exists (hw : ∀ e ∈ E, 0 ≤ e.w) (v : Nat) : ∃ x, IsLeast E b v x := by
  by_cases h : ∃ x h, WayN E b h v x
  · obtain ⟨x, ⟨h, hx⟩, hl⟩ := least_of (fun x => ∃ h, WayN E b h v x) (fun x ⟨h, hx⟩ => hx.nonneg hw) h
    exact ⟨x, Or.inr ⟨hx.nonneg hw, ⟨h, hx⟩, fun k c hc => hl c ⟨k, hc⟩⟩⟩
  · exact ⟨-1, Or.inl ⟨rfl, fun k c hc => h ⟨c, k, hc⟩⟩⟩

/-- each price is that of a way, or there is none -/
def Ach (E : List Edg) (b c : List Int) : Prop := ∀ v, gI c v = -1 ∨ ∃ h, WayN E b h v (gI c v)
/-- no price is worse than another one -/
def Le1 (x y : Int) : Prop := 0 ≤ y → 0 ≤ x ∧ x ≤ y
def LeC (c d : List Int) : Prop := ∀ v, Le1 (gI c v) (gI d v)
/-- no edge makes a price better -/
def Fix (E : List Edg) (c : List Int) : Prop := ∀ e ∈ E, 0 ≤ gI c e.u → 0 ≤ gI c e.v ∧ gI c e.v ≤ gI c e.u + e.w

theorem fix_le {c : List Int} (hb : LeC c b) (hf : Fix E c) {h v : Nat} {x : Int} (H : WayN E b h v x) : 0 ≤ gI c v ∧ gI c v ≤ x := by
  induction h generalizing v x with
  | zero => obtain ⟨rfl, h0⟩ := H; exact hb v h0
  | succ h ih =>
    obtain ⟨e, he, rfl, y, hy, rfl⟩ := H
    obtain ⟨h1, h2⟩ := ih hy
    obtain ⟨h3, h4⟩ := hf e he h1
    exact ⟨h3, by omega⟩

theorem fix_least {c : List Int} (hw : ∀ e ∈ E, 0 ≤ e.w) (ha : Ach E b c) (hb : LeC c b) (hf : Fix E c) (v : Nat) : IsLeast E b v (gI c v) := by
  rcases ha v with h | ⟨h, hx⟩
  · refine Or.inl ⟨h, fun k y hy => ?_⟩
    have := (fix_le hb hf hy).1
    omega
  · exact Or.inr ⟨hx.nonneg hw, ⟨h, hx⟩, fun k y hy => (fix_le hb hf hy).2⟩

/-- what the one round makes of prices: no worse, of ways, and along each edge at least as good as before it -/
structure Round (E : List Edg) (b c d : List Int) : Prop where
  ach : Ach E b d
  le : LeC d c
  edge : ∀ e ∈ E, 0 ≤ gI c e.u → 0 ≤ gI d e.v ∧ gI d e.v ≤ gI c e.u + e.w

/-- is v's price the least one already? -/
def Done (E : List Edg) (b c : List Int) (v : Nat) : Prop := IsLeast E b v (gI c v)

theorem done_of_le {c : List Int} (ha : Ach E b c) {v : Nat} {x : Int} (hx : IsLeast E b v x) (h : Le1 (gI c v) x) (hn : x = -1 → gI c v = -1) : Done E b c v := by
  unfold Done
  have e : gI c v = x := by
    rcases hx with ⟨rfl, h1⟩ | ⟨h0, _, h2⟩
    · exact hn rfl
    · obtain ⟨h3, h4⟩ := h h0
      rcases ha v with h5 | ⟨k, h5⟩
      · omega
      · have := h2 k _ h5; omega
  rw [e]; exact hx

theorem ach_none {c : List Int} (ha : Ach E b c) {v : Nat} (h : ∀ k y, ¬ WayN E b k v y) : gI c v = -1 := by
  rcases ha v with h1 | ⟨k, h1⟩
  · exact h1
  · exact absurd h1 (h k _)

theorem Done.next {c d : List Int} {v : Nat} (h : Done E b c v) (hr : Round E b c d) : Done E b d v := by
  refine done_of_le hr.ach h (hr.le v) (fun e => ?_)
  rcases h with ⟨_, h1⟩ | ⟨h0, _⟩
  · exact ach_none hr.ach h1
  · omega

/-- a round that makes no new price the least one: all were -/
theorem all_done {c d : List Int} (hw : ∀ e ∈ E, 0 ≤ e.w) (hac : Ach E b c) (hbc : LeC c b) (hr : Round E b c d) (hno : ∀ v, Done E b d v → Done E b c v) (v : Nat) : Done E b c v := by
  have key : ∀ h v x, WayN E b h v x → IsLeast E b v x → Done E b c v := by
    intro h
    induction h with
    | zero =>
      intro v x H hx
      obtain ⟨rfl, h0⟩ := H
      exact done_of_le hac hx (hbc v) (fun e => by omega)
    | succ h ih =>
      intro v x H hx
      obtain ⟨e, he, rfl, y, hy, rfl⟩ := H
      have hy0 := hy.nonneg hw
      have hwe := hw e he
      have hly : IsLeast E b e.u y := by
        refine Or.inr ⟨hy0, ⟨h, hy⟩, fun k z hz => ?_⟩
        rcases hx with ⟨hx, _⟩ | ⟨_, _, hx⟩
        · omega
        · have := hx (k + 1) (z + e.w) ⟨e, he, rfl, z, hz, rfl⟩
          omega
      have hdu := ih e.u y hy hly
      have hcu : gI c e.u = y := IsLeast.unique hdu hly
      apply hno
      obtain ⟨h1, h2⟩ := hr.edge e he (by omega)
      exact done_of_le hr.ach hx (fun _ => ⟨h1, by omega⟩) (fun hh => by omega)
  obtain ⟨x, hx⟩ := least_exists (b := b) hw v
  rcases hx with ⟨rfl, h1⟩ | ⟨h0, ⟨k, hk⟩, h2⟩
  · exact Or.inl ⟨ach_none hac h1, h1⟩
  · exact key k v x hk (Or.inr ⟨h0, ⟨k, hk⟩, h2⟩)

theorem filter_le (a : Nat) (l : List Nat) (hn : l.Nodup) : l.length ≤ (l.filter (· != a)).length + 1 := by
  induction l with
  | nil => simp
  | cons x l ih =>
    obtain ⟨hx, hl⟩ := List.nodup_cons.1 hn
    by_cases e : x = a
    · subst e
      have : l.filter (· != x) = l := List.filter_eq_self.2 fun y hy => by
        simp only [bne_iff_ne, ne_eq]
        intro h; subst h; exact hx hy
      simp [this]
    · have := ih hl
      simp [e]; omega

theorem nodup_le (n : Nat) (l : List Nat) (hn : l.Nodup) (hl : ∀ x ∈ l, x < n) : l.length ≤ n := by
  induction n generalizing l with
  | zero =>
    cases l with
    | nil => simp
    | cons x l => exact absurd (hl x (by simp)) (by omega)
  | succ n ih =>
    have h1 := filter_le n l hn
    have h2 := ih (l.filter (· != n)) (hn.filter _) (fun x hx => by
      obtain ⟨h3, h4⟩ := List.mem_filter.1 hx
      have := hl x h3
      simp at h4
      omega)
    omega

/-- as many rounds as there are states: all prices are the least ones -/
theorem rounds_least (n : Nat) (cs : Nat → List Int) (hw : ∀ e ∈ E, 0 ≤ e.w) (hout : ∀ v h x, WayN E b h v x → v < n) (ha : Ach E b (cs 0)) (hb : LeC (cs 0) b) (hr : ∀ r, r < n → Round E b (cs r) (cs (r + 1))) (v : Nat) : IsLeast E b v (gI (cs n) v) := by
  have hach : ∀ r, r ≤ n → Ach E b (cs r) := by
    intro r
    induction r with
    | zero => intro _; exact ha
    | succ r _ => intro h; exact (hr r (by omega)).ach
  have hle : ∀ r, r ≤ n → LeC (cs r) b := by
    intro r
    induction r with
    | zero => intro _; exact hb
    | succ r ih =>
      intro h v h0
      obtain ⟨h1, h2⟩ := ih (by omega) v h0
      obtain ⟨h3, h4⟩ := (hr r (by omega)).le v h1
      exact ⟨h3, by omega⟩
  have hfar : ∀ r, r ≤ n → ∀ v, ¬ v < n → Done E b (cs r) v := by
    intro r h v hv
    have hno : ∀ k y, ¬ WayN E b k v y := fun k y hy => hv (hout v k y hy)
    exact Or.inl ⟨ach_none (hach r h) hno, hno⟩
  have key : ∀ r, r ≤ n → (∀ v, Done E b (cs r) v) ∨ ∃ l : List Nat, l.Nodup ∧ l.length = r ∧ ∀ x ∈ l, x < n ∧ Done E b (cs r) x := by
    intro r
    induction r with
    | zero => intro _; exact Or.inr ⟨[], by simp⟩
    | succ r ih =>
      intro h
      have hR := hr r (by omega)
      rcases ih (by omega) with hd | ⟨l, hl1, hl2, hl3⟩
      · exact Or.inl fun v => (hd v).next hR
      · by_cases hno : ∀ v, Done E b (cs (r + 1)) v → Done E b (cs r) v
        · exact Or.inl fun v => (all_done hw (hach r (by omega)) (hle r (by omega)) hR hno v).next hR
        · right
          obtain ⟨v, hv⟩ := Classical.not_forall.1 hno
          obtain ⟨h1, h2⟩ := Classical.not_imp.1 hv
          have hvn : v < n := by
            by_cases hh : v < n
            · exact hh
            · exact absurd (hfar r (by omega) v hh) h2
          refine ⟨v :: l, List.nodup_cons.2 ⟨fun hm => h2 (hl3 v hm).2, hl1⟩, by simp [hl2], fun x hx => ?_⟩
          rcases List.mem_cons.1 hx with rfl | hx
          · exact ⟨hvn, h1⟩
          · exact ⟨(hl3 x hx).1, (hl3 x hx).2.next hR⟩
  rcases key n (Nat.le_refl _) with h | ⟨l, hl1, hl2, hl3⟩
  · exact h v
  · by_cases hv : v < n
    · by_cases hm : v ∈ l
      · exact (hl3 v hm).2
      · have := nodup_le n (v :: l) (List.nodup_cons.2 ⟨hm, hl1⟩) (fun x hx => by
          rcases List.mem_cons.1 hx with rfl | hx
          · exact hv
          · exact (hl3 x hx).1)
        simp at this; omega
    · exact hfar n (Nat.le_refl _) v hv

/-- two lists of the least prices are the same -/
theorem least_same {c d : List Int} (hl : c.length = d.length) (hc : ∀ v, IsLeast E b v (gI c v)) (hd : ∀ v, IsLeast E b v (gI d v)) : c = d := by
  apply List.ext_getElem hl
  intro i h1 h2
  have := IsLeast.unique (hc i) (hd i)
  simpa [gI, List.getD, h1, h2] using this

end
end Go.Proofs.Yteehgcbjmdideaa
