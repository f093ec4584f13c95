/- 'All' of package sound; 'From', 'toEnd', 'To' of package short. -/
import Derived.Test.YteehgcbjmdideaaQMM
import Derived.Test.YteehgcbjmdideaaQSame
import Derived.Test.YteehgcbjmdideaaQMB
namespace Go.Proofs.Yteehgcbjmdideaa
open Go.RowKit
attribute [local go_sem ↓] Go.wp_at_zero Go.wp_at_succ

theorem goF : ∀ args w, (callFunc 84 args).run Try.prog w = .ok (.enter 84 args) w := by
  intro args w
  have h1 : (Try.f84.name == "runtime.NumGoroutine") = false := by kernel_rfl
  have h2 : Try.f84.body.isNone = false := by kernel_rfl
  have h3 : ¬ Try.f84.name = "runtime.NumGoroutine" := by simpa using h1
  have h4 : ¬ Try.f84.body = none := fun e => by rw [e] at h2; cases h2
  simp [callFunc, Try.func84, h3, h4]
theorem goT : ∀ args w, (callFunc 121 args).run Try.prog w = .ok (.enter 121 args) w := by
  intro args w
  have h1 : (Try.f121.name == "runtime.NumGoroutine") = false := by kernel_rfl
  have h2 : Try.f121.body.isNone = false := by kernel_rfl
  have h3 : ¬ Try.f121.name = "runtime.NumGoroutine" := by simpa using h1
  have h4 : ¬ Try.f121.body = none := fun e => by rw [e] at h2; cases h2
  simp [callFunc, Try.func121, h3, h4]

/-- what 'From' and 'To' answer -/
def ListRes (w : World) (l : List Int) (c : Int) (e : Ending) (w' : World) : Prop :=
  ∃ a n cap, e = .returned (.tuple #[.slice a n cap, .int .i64 c]) ∧ ISlice w' (.slice a n cap) l ∧ Below w.heap.size w w'


/-- the world behind the first two blocks -/

theorem all_at (f : FstD) (fin arcs : Value) (c : Int) (w : World) (hf : ISlice w fin f.final) (ha : ASlice w arcs f.arcs) (hc : checkD f = c) :
    Calls Try.prog 59 #[.slice (some ⟨w.heap.size + 1, 0, none⟩) 1 1] ((w.alloc (.cells #[.int .i64 f.states, .int .i64 f.start, fin, arcs] 25)).alloc (.cells #[.int .i64 f.states, .int .i64 f.start, fin, arcs] 25)) fun e w' =>
      e = .returned (.int .i64 c) ∧ Below w.heap.size w w' ∧ CellsF w' w.heap.size f.states f.start fin arcs ∧ ISlice w' fin f.final ∧ ASlice w' arcs f.arcs := by
  have hb := two_up w (.cells #[.int .i64 f.states, .int .i64 f.start, fin, arcs] 25) (.cells #[.int .i64 f.states, .int .i64 f.start, fin, arcs] 25)
  refine (all_one f fin arcs (w.heap.size + 1) c _ (cellsF_at _ _ _ _ _ _ _ (one_size _ _)) (hf.below hb) (ha.below hb) hc).mono ?_
  rintro e w' ⟨rfl, hb2⟩
  exact ⟨rfl, bel_on hb hb2, ((cellsF_new w _ _ _ _ _).below (bel_up (bel_self _) _)).below hb2, (hf.below hb).below hb2, (ha.below hb).below hb2⟩

theorem nil_ints (w : World) : ISlice w (.slice none 0 0) [] := Or.inl ⟨none, 0, rfl, rfl⟩

set_option maxHeartbeats 1000000 in
set_option maxRecDepth 100000 in
theorem from_bad (f : FstD) (fin arcs : Value) (c : Int) (w : World) (hf : ISlice w fin f.final) (ha : ASlice w arcs f.arcs) (hc : checkD f = c) (h0 : (c == 0) = false) :
    Calls Try.prog 36 #[.agg #[.int .i64 f.states, .int .i64 f.start, fin, arcs]] w fun e w' => ListRes w [] c e w' := by
  obtain ⟨fa, fn, fc, rfl, _, _⟩ := hf.lenOf
  obtain ⟨ba, bn, bc, rfl, _, _⟩ := ha.lenOf
  have hall := all_at f _ _ c w hf ha hc
  have h0n : (c != 0) = true := by simpa using h0
  clear hc
  go_enter Try.func36, Try.ntmps36
  go_wp2_with (go_at_call 59; refine hall.mono ?_; rintro e w1 ⟨rfl, hb1, _, _, _⟩)
  go_ret2
  exact ⟨_, _, _, rfl, nil_ints _, hb1⟩

set_option maxHeartbeats 1000000 in
set_option maxRecDepth 100000 in
theorem to_bad (f : FstD) (fin arcs : Value) (c : Int) (w : World) (hf : ISlice w fin f.final) (ha : ASlice w arcs f.arcs) (hc : checkD f = c) (h0 : (c == 0) = false) :
    Calls Try.prog 37 #[.agg #[.int .i64 f.states, .int .i64 f.start, fin, arcs]] w fun e w' => ListRes w [] c e w' := by
  obtain ⟨fa, fn, fc, rfl, _, _⟩ := hf.lenOf
  obtain ⟨ba, bn, bc, rfl, _, _⟩ := ha.lenOf
  have hall := all_at f _ _ c w hf ha hc
  have h0n : (c != 0) = true := by simpa using h0
  clear hc
  go_enter Try.func37, Try.ntmps37
  go_wp2_with (go_at_call 59; refine hall.mono ?_; rintro e w1 ⟨rfl, hb1, _, _, _⟩)
  go_ret2
  exact ⟨_, _, _, rfl, nil_ints _, hb1⟩

theorem NumsAt.ints {w : World} {g n : Nat} {c : List Int} (h : NumsAt w g n c) : IntsAt w g 0 n c :=
  ⟨h.len, fun i hi => by rw [Nat.zero_add, h.cell i hi, gI_getD (by rw [h.len]; exact hi)]⟩

theorem only_beg (n s : Nat) (w : World) (h1 : 1 ≤ n) (h2 : n ≤ 200) (hs : s < n) :
    Calls Try.prog 83 #[.int .i64 n, .int .i64 s] w fun e w' => ∃ G, e = .returned (.slice (some ⟨G, 0, none⟩) n n) ∧ IntsAt w' G 0 n (begL (s : Int) n) ∧ Below w.heap.size w w' := by
  refine (only_any n s w h1 h2 hs).mono ?_
  rintro e w' ⟨G, rfl, hG, _, hb⟩
  rw [beg_set] at hG
  have h := (NumsAt.of_block hG).ints
  rw [begL_len] at h
  exact ⟨G, rfl, h, hb⟩

theorem ok_src {f : FstD} {N s0 : Nat} (h : OkF f N s0) : ∀ a ∈ f.arcs, (0 ≤ a.src ∧ a.src < N) ∧ (0 ≤ a.dst ∧ a.dst < N) ∧ (0 ≤ a.wt ∧ a.wt ≤ 1000000000) := h.arcs
theorem ok_dst {f : FstD} {N s0 : Nat} (h : OkF f N s0) : ∀ a ∈ f.arcs, (0 ≤ a.dst ∧ a.dst < N) ∧ (0 ≤ a.src ∧ a.src < N) ∧ (0 ≤ a.wt ∧ a.wt ≤ 1000000000) := fun a ha => ⟨(h.arcs a ha).2.1, (h.arcs a ha).1, (h.arcs a ha).2.2⟩

set_option maxHeartbeats 1000000 in
set_option maxRecDepth 100000 in
theorem from_ok (f : FstD) (N s0 : Nat) (fin : Value) (aa : Option Addr) (m ac : Nat) (w : World) (hok : OkF f N s0) (hf : ISlice w fin f.final) (ha : ASlice w (.slice aa m ac) f.arcs) (hal : f.arcs.length = m) (hc : checkD f = 0) :
    Calls Try.prog 36 #[.agg #[.int .i64 f.states, .int .i64 f.start, fin, .slice aa m ac]] w fun e w' => ListRes w (fromD f) 0 e w' := by
  obtain ⟨fa, fn, fc, rfl, _, _⟩ := hf.lenOf
  have hall := all_at f _ _ 0 w hf ha hc
  have HOK : Hid (OkF f N s0) := hok
  have HC : Hid (checkD f = 0) := hc
  have hn1 := hok.n1
  have hn2 := hok.n2
  have hs := hok.s
  have hm := hok.many
  rw [hok.st, hok.sta] at *
  clear hc hok
  go_enter Try.func36, Try.ntmps36
  go_wp2_with (go_at_call 59; refine hall.mono ?_; rintro e w1 ⟨rfl, hb1, hC1, hf1, ha1⟩; obtain ⟨q0, q1, q2, q3⟩ := hC1)
  go_region_held3 (fun wx => wx.cell? ⟨w.heap.size, 0, none⟩ = some (.int .i64 N) ∧ wx.cell? ⟨w.heap.size, 1, none⟩ = some (.int .i64 s0) ∧ wx.cell? ⟨w.heap.size, 3, none⟩ = some (.slice aa m ac))
    (first | exact ⟨drew_cell q0, drew_cell q1, drew_cell q3⟩ | exact ⟨bel_c hb2 (drew_cell q0), bel_c hb2 (drew_cell q1), bel_c hb2 (drew_cell q3)⟩ | exact ⟨bel_c hb3 (bel_c hb2 (drew_cell q0)), bel_c hb3 (bel_c hb2 (drew_cell q1)), bel_c hb3 (bel_c hb2 (drew_cell q3))⟩)
    (first | (go_at_call 83; refine (only_beg N s0 _ hn1 hn2 hs).mono ?_; rintro e w2 ⟨G, rfl, hG, hb2⟩) | (go_at_call 82; refine (costs_some ArcD.src ArcD.dst 84 goF ahead_ends (begL (s0 : Int) N) G 0 N N aa m ac f.arcs w2 hG ((ha1.below (bel_self w1).drew).below hb2) hal (by omega) hn1 hn2 HOK.out.bF.1 HOK.out.bF.2 (ok_src HOK.out)).mono ?_; rintro e w3 ⟨gc, gy, c, y, cc, cy, rfl, hcw, hfix⟩; have hb3 := hcw.bel))
  go_wp2
  go_ret2
  have hcd : c = fromD f := HOK.out.fromD hcw.inv hfix
  rw [← hcd]
  exact ⟨_, _, _, rfl, hcw.rc.slice cc (by unfold maxLen; omega), bel_on (bel_on (bel_self _) hb1) (bel_on (bel_on (bel_self w1).drew hb2) hb3)⟩

theorem final_at {f : FstD} {N s0 : Nat} {w : World} {a : Option Addr} {n c : Nat} (h : OkF f N s0) (hf : ISlice w (.slice a n c) f.final) : ∃ b off, a = some ⟨b, off, none⟩ ∧ n = N ∧ IntsAt w b off N f.final := by
  obtain ⟨a', n', c', e, h1, _⟩ := hf.lenOf
  have hn : n = N := by
    injection e with e1 e2 e3
    have := h.len
    omega
  subst hn
  obtain ⟨b, off, rfl, hx⟩ := hf.some (by have := h.n1; omega)
  exact ⟨b, off, rfl, rfl, hx⟩

set_option maxHeartbeats 1000000 in
set_option maxRecDepth 100000 in
theorem toEnd_ok (f : FstD) (N s0 : Nat) (fin : Value) (aa : Option Addr) (m ac : Nat) (w : World) (hok : OkF f N s0) (hf : ISlice w fin f.final) (ha : ASlice w (.slice aa m ac) f.arcs) (hal : f.arcs.length = m) :
    Calls Try.prog 85 #[.agg #[.int .i64 (N : Int), .int .i64 (s0 : Int), fin, .slice aa m ac]] w fun e w' => CostsRes w N (edT f) f.final e w' := by
  obtain ⟨fa, fn, fc, rfl, _, _⟩ := hf.lenOf
  obtain ⟨fb, fo, rfl, rfl, hx⟩ := final_at hok hf
  have HOK : Hid (OkF f fn s0) := hok
  have hn1 := hok.n1
  have hn2 := hok.n2
  have hm := hok.many
  clear hok
  have hb0 := bel_up (bel_self w) (.cells #[.int .i64 (fn : Int), .int .i64 (s0 : Int), .slice (some ⟨fb, fo, none⟩) fn fc, .slice aa m ac] 25)
  go_enter Try.func85, Try.ntmps85
  go_wp2_with (go_at_call 82; refine (costs_some ArcD.dst ArcD.src 121 goT back_ends f.final fb fo fc fn aa m ac f.arcs _ (hx.below hb0) (ha.below hb0) hal (by omega) hn1 hn2 HOK.out.bT.1 HOK.out.bT.2 (ok_dst HOK.out)).mono ?_; rintro e w3 ⟨gc, gy, c, y, cc, cy, rfl, hcw, hfix⟩)
  go_ret2
  exact ⟨gc, gy, c, y, cc, cy, rfl, ⟨hcw.rc, hcw.ry, hcw.ne, by have := hcw.lc; simp at this; omega, by have := hcw.ly; simp at this; omega, bel_on hb0 hcw.bel, hcw.inv⟩, hfix⟩

set_option maxHeartbeats 1000000 in
set_option maxRecDepth 100000 in
theorem to_ok (f : FstD) (N s0 : Nat) (fin : Value) (aa : Option Addr) (m ac : Nat) (w : World) (hok : OkF f N s0) (hf : ISlice w fin f.final) (ha : ASlice w (.slice aa m ac) f.arcs) (hal : f.arcs.length = m) (hc : checkD f = 0) :
    Calls Try.prog 37 #[.agg #[.int .i64 f.states, .int .i64 f.start, fin, .slice aa m ac]] w fun e w' => ListRes w (toD f) 0 e w' := by
  obtain ⟨fa, fn, fc, rfl, _, _⟩ := hf.lenOf
  have hall := all_at f _ _ 0 w hf ha hc
  have HOK : Hid (OkF f N s0) := hok
  have HC : Hid (checkD f = 0) := hc
  have hn1 := hok.n1
  have hn2 := hok.n2
  rw [hok.st, hok.sta] at *
  clear hc hok
  go_enter Try.func37, Try.ntmps37
  go_wp2_with (first | (go_at_call 59; refine hall.mono ?_; rintro e w1 ⟨rfl, hb1, hC1, hf1, ha1⟩; obtain ⟨q0, q1, q2, q3⟩ := hC1) | (go_at_call 85; refine (toEnd_ok f N s0 _ aa m ac w1 HOK.out hf1 ha1 hal).mono ?_; rintro e w3 ⟨gc, gy, c, y, cc, cy, rfl, hcw, hfix⟩))
  go_ret2
  have hcd : c = toD f := HOK.out.toD hcw.inv hfix
  rw [← hcd]
  exact ⟨_, _, _, rfl, hcw.rc.slice cc (by unfold maxLen; omega), bel_on hb1 hcw.bel⟩

end Go.Proofs.Yteehgcbjmdideaa

/- 'FromOf' of the document's answer. -/
namespace Go.Proofs.Yteehgcbjmdideaa
open Go.RowKit
attribute [local go_sem ↓] Go.wp_at_zero Go.wp_at_succ

theorem relAll_take (L : List Edg) (c : List Int) (j : Nat) (e : Edg) (hj : L[j]? = some e) : relAll (L.take (j + 1)) c = relE (relAll (L.take j) c) e := by
  rw [List.take_add_one, hj]
  simp [relAll]

theorem Inv.rel {E : List Edg} {b c y : List Int} (h : Inv E b c y) (hb200 : b.length ≤ 200) {e : Edg} (he : e ∈ E) (hv : e.v < b.length) (hw0 : 0 ≤ e.w) (hw1 : e.w ≤ 1000000000) : ∃ y', Inv E b (relE c e) y' := by
  obtain ⟨j, hj⟩ := List.getElem?_of_mem he
  rw [← progE_eq c e h.lo]
  unfold progE
  split
  · rename_i hbt
    exact ⟨_, (h.step (by omega) hj hv hw0 hw1 hbt).1⟩
  · exact ⟨y, h⟩

/-- the world of the rounds: block H the transducer, G the prices -/
structure FW (w wr : World) (N G : Nat) (s0 : Int) (fin arcs : Value) (E : List Edg) (b c : List Int) : Prop where
  cf : CellsF wr w.heap.size (N : Int) s0 fin arcs
  row : NumsAt wr G N c
  ge : w.heap.size + 1 ≤ G
  bel : Below w.heap.size w wr
  inv : ∃ y, Inv E b c y

theorem FW.below {w wr wx : World} {N G : Nat} {s0 : Int} {fin arcs : Value} {E : List Edg} {b c : List Int} (h : FW w wr N G s0 fin arcs E b c) (hb : Below wr.heap.size wr wx) : FW w wx N G s0 fin arcs E b c :=
  ⟨h.cf.below hb, h.row.below hb, h.ge, bel_on h.bel hb, h.inv⟩

theorem CellsF.set {w : World} {B k i : Nat} {st sta : Int} {fin arcs v : Value} (h : CellsF w B st sta fin arcs) (hk : B ≠ k) : CellsF (w.setCell ⟨k, i, none⟩ v) B st sta fin arcs :=
  ⟨(set_far hk).trans h.1, (set_far hk).trans h.2.1, (set_far hk).trans h.2.2.1, (set_far hk).trans h.2.2.2⟩

theorem FW.set {w wr : World} {N G : Nat} {s0 : Int} {fin arcs : Value} {E : List Edg} {b c : List Int} (h : FW w wr N G s0 fin arcs E b c) (i : Nat) (x : Int) (hi : i < N) (hy : ∃ y, Inv E b (c.set i x) y) : FW w (wr.setCell ⟨G, i, none⟩ (.int .i64 x)) N G s0 fin arcs E b (c.set i x) :=
  ⟨h.cf.set (by have := h.ge; omega), h.row.set i x hi, h.ge, h.bel.setCell (p := ⟨G, i, none⟩) (by have := h.ge; show w.heap.size ≤ G; omega) _, hy⟩

set_option maxHeartbeats 1000000 in
set_option maxRecDepth 100000 in
theorem fromOf_ok (f : FstD) (N s0 : Nat) (fin : Value) (aa : Option Addr) (m ac : Nat) (w : World) (hok : OkF f N s0) (ha : ASlice w (.slice aa m ac) f.arcs) (hal : f.arcs.length = m) :
    Calls Try.prog 39 #[.agg #[.int .i64 (N : Int), .int .i64 (s0 : Int), fin, .slice aa m ac]] w fun e w' =>
      ∃ G cap, e = .returned (.slice (some ⟨G, 0, none⟩) N cap) ∧ NumsAt w' G N (fromD f) ∧ w.heap.size ≤ G ∧ Below w.heap.size w w' := by
  have HOK : Hid (OkF f N s0) := hok
  have hn1 := hok.n1
  have hn2 := hok.n2
  have hm : m ≤ 3000 := by have := hok.many; omega
  have HAL : Hid (f.arcs.length = m) := hal
  clear hok
  have hbx := bel_up (bel_self w) (.cells #[.int .i64 (N : Int), .int .i64 (s0 : Int), fin, .slice aa m ac] 25)
  have hcf := cellsF_new w (N : Int) (s0 : Int) fin (.slice aa m ac) 25
  go_enter Try.func39, Try.ntmps39
  go_wp2_with (first | (go_at_call 53; refine (begunRef_any N (s0 : Int) fin (.slice aa m ac) _ hn2).mono ?_; rintro e w1 ⟨v, rfl, hown, hb1⟩; obtain ⟨G, cap, rfl⟩ := Go.Joins.ownsRow_form hown (by omega)))
  have hFW : FW w w1 N G s0 fin (.slice aa m ac) (edF f) (begL (s0 : Int) N) (begL (s0 : Int) N) := by
    obtain ⟨r1, r2⟩ := NumsAt.of_row hown
    exact ⟨hcf.below hb1, r1, by simp at r2; omega, bel_on hbx hb1, _, by have := Inv.start (E := edF f) HOK.out.bF.1 HOK.out.bF.2; exact this⟩
  clear hown hcf hb1 hbx hal
  have HBL : Hid ((begL (s0 : Int) N).length = N) := begL_len _ _
  go_loopw [4] (fun i wr => ∃ r : Nat, r ≤ N ∧ i = .int .i64 r ∧ FW w wr N G s0 fin (.slice aa m ac) (edF f) (begL (s0 : Int) N) (rounds (edF f) (begL (s0 : Int) N) r)) (fun i _ => N - (intOf i).toNat)
  case atStart => exact ⟨0, Nat.zero_le _, rfl, hFW⟩
  case round =>
    clear hFW
    obtain ⟨r, hr, rfl, hFW⟩ := hrel
    by_cases hlt : r < N
    · obtain ⟨q0, q1, q2, q3⟩ := hFW.cf
      have hri : (r : Int) < N := by omega
      go_wp2
      clear q0 q1 q2 q3
      go_loopw [5] (fun i wr => ∃ j : Nat, j ≤ m ∧ i = .int .i64 j ∧ FW w wr N G s0 fin (.slice aa m ac) (edF f) (begL (s0 : Int) N) (relAll ((edF f).take j) (rounds (edF f) (begL (s0 : Int) N) r))) (fun i _ => m - (intOf i).toNat)
      case atStart => exact ⟨0, Nat.zero_le _, rfl, hFW⟩
      case round =>
        clear hFW
        obtain ⟨j, hj, rfl, hFW⟩ := hrel
        obtain ⟨c, hcd⟩ : ∃ c, c = relAll ((edF f).take j) (rounds (edF f) (begL (s0 : Int) N) r) := ⟨_, rfl⟩
        rw [← hcd] at hFW
        have HCD : Hid (c = relAll ((edF f).take j) (rounds (edF f) (begL (s0 : Int) N) r)) := hcd
        clear hcd
        obtain ⟨q0, q1, q2, q3⟩ := hFW.cf
        by_cases hlj : j < m
        · obtain ⟨ab, aoff, rfl, hx⟩ := (ha.below hFW.bel).some (by omega)
          obtain ⟨a, hak⟩ : ∃ a, a = f.arcs.getD j a0 := ⟨_, rfl⟩
          have hjl : j < f.arcs.length := by have := HAL.out; omega
          have hmem : a ∈ f.arcs := by rw [hak]; simp [List.getD, hjl]
          obtain ⟨⟨p1, p2⟩, ⟨p3, p4⟩, p5, p6⟩ := HOK.out.arcs a hmem
          obtain ⟨s, hs⟩ : ∃ s : Nat, a.src = s := ⟨a.src.toNat, by omega⟩
          obtain ⟨t, ht⟩ : ∃ t : Nat, a.dst = t := ⟨a.dst.toNat, by omega⟩
          have hsN : s < N := by omega
          have htN : t < N := by omega
          have HEJ : Hid ((edF f)[j]? = some ⟨s, t, a.wt⟩) := by
            show (edF f)[j]? = some ⟨s, t, a.wt⟩
            have e1 : f.arcs[j]? = some a := by rw [hak]; simp [List.getD, hjl]
            unfold edF
            rw [List.getElem?_map, e1]
            simp [edgOf, hs, ht]
          have c0 := hx.c0 j hlj
          have c1 := hx.c1 j hlj
          have c2 := hx.c2 j hlj
          have c3 := hx.c3 j hlj
          have c4 := hx.c4 j hlj
          rw [← hak] at c0 c1 c2 c3 c4
          rw [hs] at c0
          rw [ht] at c3
          have hji : (j : Int) < m := by omega
          clear hak hmem hjl hx hs ht p1 p2 p3 p4
          go_wp2
          have sN0 := hsN
          have tN0 := htN
          have hsi : (s : Int) < N := by omega
          have hti : (t : Int) < N := by omega
          have hFd := hFW.below (bel_up (bel_self wr) (.cells #[.int .i64 s, .int .i64 a.inp, .int .i64 a.out, .int .i64 t, .int .i64 a.wt] 63)).drew
          obtain ⟨Wd, hWd⟩ : ∃ Wd, Wd = (wr.alloc (.cells #[.int .i64 s, .int .i64 a.inp, .int .i64 a.out, .int .i64 t, .int .i64 a.wt] 63)).drew := ⟨_, rfl⟩
          have x0 : Wd.cell? ⟨wr.heap.size, 0, none⟩ = some (.int .i64 s) := by rw [hWd]; exact drew_cell (new_cell _ _ _ _ 0 _ rfl rfl)
          have x3 : Wd.cell? ⟨wr.heap.size, 3, none⟩ = some (.int .i64 t) := by rw [hWd]; exact drew_cell (new_cell _ _ _ _ 3 _ rfl rfl)
          have x4 : Wd.cell? ⟨wr.heap.size, 4, none⟩ = some (.int .i64 a.wt) := by rw [hWd]; exact drew_cell (new_cell _ _ _ _ 4 _ rfl rfl)
          rw [← hWd] at hFd
          have y0 := hFd.row.cell s sN0
          have y1 := hFd.row.cell t tN0
          have yz := hFd.row.frz t
          obtain ⟨yy, hinv⟩ := hFd.inv
          have hlo := hinv.lo s
          have hhi := hinv.top (by rw [HBL.out]; exact hn2) s
          have HREL := hinv.rel (by rw [HBL.out]; exact hn2) (List.mem_of_getElem? HEJ.out) (by rw [HBL.out]; exact tN0) p5 p6
          have HSET : Hid (relE c ⟨s, t, a.wt⟩ = c.set t (lessC (gI c t) (plusC (gI c s) a.wt))) := (rfl : relE c ⟨s, t, a.wt⟩ = _)
          clear hinv q0 q1 q2 q3 c0 c1 c2 c3 c4
          have hS0 : (fun wx : World => wx.cell? ⟨wr.heap.size, 0, none⟩ = some (.int .i64 s) ∧ wx.cell? ⟨wr.heap.size, 3, none⟩ = some (.int .i64 t) ∧ wx.cell? ⟨wr.heap.size, 4, none⟩ = some (.int .i64 a.wt) ∧ wx.cell? ⟨G, s, none⟩ = some (.int .i64 (gI c s)) ∧ wx.cell? ⟨G, t, none⟩ = some (.int .i64 (gI c t))) Wd := ⟨x0, x3, x4, y0, y1⟩
          refine wp_region_noPanic ?_
          refine wp_region_U (fun wx => wx.cell? ⟨wr.heap.size, 0, none⟩ = some (.int .i64 s) ∧ wx.cell? ⟨wr.heap.size, 3, none⟩ = some (.int .i64 t) ∧ wx.cell? ⟨wr.heap.size, 4, none⟩ = some (.int .i64 a.wt) ∧ wx.cell? ⟨G, s, none⟩ = some (.int .i64 (gI c s)) ∧ wx.cell? ⟨G, t, none⟩ = some (.int .i64 (gI c t))) 18 (by kernel_rfl) (by rw [← hWd]; exact hS0) (fun _ => ?_)
          rw [← hWd]
          clear hWd
          refine wpAnyU_take (i := 0) (v := .slice (some ⟨G, 0, none⟩) N cap) rfl (by kernel_rfl) (by kernel_rfl) (by kernel_rfl) (by kernel_rfl) (fun _ _ _ h => h) (Or.inl ⟨by rfl, fun wl hSw => ?_⟩) hS0 ?_
          · (try dsimp only at hSw); go_simp
          refine wpAnyU_take (i := 1) (v := .pointer (some ⟨wr.heap.size, 3, none⟩)) rfl (by kernel_rfl) (by kernel_rfl) (by kernel_rfl) (by kernel_rfl) (fun _ _ _ h => h) (Or.inl ⟨by rfl, fun wl hSw => ?_⟩) hS0 ?_
          · (try dsimp only at hSw); go_simp
          refine wpAnyU_take (i := 2) (v := .int .i64 t) rfl (by kernel_rfl) (by kernel_rfl) (by kernel_rfl) (by kernel_rfl) (fun _ _ _ h => h) (Or.inl ⟨by rfl, fun wl hSw => ?_⟩) hS0 ?_
          · (try dsimp only at hSw); go_simp
          refine wpAnyU_take (i := 3) (v := .slice (some ⟨G, 0, none⟩) N cap) rfl (by kernel_rfl) (by kernel_rfl) (by kernel_rfl) (by kernel_rfl) (fun _ _ _ h => h) (Or.inl ⟨by rfl, fun wl hSw => ?_⟩) hS0 ?_
          · (try dsimp only at hSw); go_simp
          refine wpAnyU_take (i := 4) (v := .pointer (some ⟨wr.heap.size, 3, none⟩)) rfl (by kernel_rfl) (by kernel_rfl) (by kernel_rfl) (by kernel_rfl) (fun _ _ _ h => h) (Or.inl ⟨by rfl, fun wl hSw => ?_⟩) hS0 ?_
          · (try dsimp only at hSw); go_simp
          refine wpAnyU_take (i := 5) (v := .int .i64 t) rfl (by kernel_rfl) (by kernel_rfl) (by kernel_rfl) (by kernel_rfl) (fun _ _ _ h => h) (Or.inl ⟨by rfl, fun wl hSw => ?_⟩) hS0 ?_
          · (try dsimp only at hSw); go_simp
          refine wpAnyU_take (i := 6) (v := .pointer (some ⟨G, t, none⟩)) rfl (by kernel_rfl) (by kernel_rfl) (by kernel_rfl) (by kernel_rfl) (fun _ _ _ h => h) (Or.inl ⟨by rfl, fun wl hSw => ?_⟩) hS0 ?_
          · (try dsimp only at hSw); go_simp
          refine wpAnyU_take (i := 7) (v := .int .i64 (gI c t)) rfl (by kernel_rfl) (by kernel_rfl) (by kernel_rfl) (by kernel_rfl) (fun _ _ _ h => h) (Or.inl ⟨by rfl, fun wl hSw => ?_⟩) hS0 ?_
          · (try dsimp only at hSw); go_simp
          refine wpAnyU_take (i := 8) (v := .slice (some ⟨G, 0, none⟩) N cap) rfl (by kernel_rfl) (by kernel_rfl) (by kernel_rfl) (by kernel_rfl) (fun _ _ _ h => h) (Or.inl ⟨by rfl, fun wl hSw => ?_⟩) hS0 ?_
          · (try dsimp only at hSw); go_simp
          refine wpAnyU_take (i := 9) (v := .pointer (some ⟨wr.heap.size, 0, none⟩)) rfl (by kernel_rfl) (by kernel_rfl) (by kernel_rfl) (by kernel_rfl) (fun _ _ _ h => h) (Or.inl ⟨by rfl, fun wl hSw => ?_⟩) hS0 ?_
          · (try dsimp only at hSw); go_simp
          refine wpAnyU_take (i := 10) (v := .int .i64 s) rfl (by kernel_rfl) (by kernel_rfl) (by kernel_rfl) (by kernel_rfl) (fun _ _ _ h => h) (Or.inl ⟨by rfl, fun wl hSw => ?_⟩) hS0 ?_
          · (try dsimp only at hSw); go_simp
          refine wpAnyU_take (i := 11) (v := .pointer (some ⟨G, s, none⟩)) rfl (by kernel_rfl) (by kernel_rfl) (by kernel_rfl) (by kernel_rfl) (fun _ _ _ h => h) (Or.inl ⟨by rfl, fun wl hSw => ?_⟩) hS0 ?_
          · (try dsimp only at hSw); go_simp
          refine wpAnyU_take (i := 12) (v := .int .i64 (gI c s)) rfl (by kernel_rfl) (by kernel_rfl) (by kernel_rfl) (by kernel_rfl) (fun _ _ _ h => h) (Or.inl ⟨by rfl, fun wl hSw => ?_⟩) hS0 ?_
          · (try dsimp only at hSw); go_simp
          refine wpAnyU_take (i := 13) (v := .pointer (some ⟨wr.heap.size, 4, none⟩)) rfl (by kernel_rfl) (by kernel_rfl) (by kernel_rfl) (by kernel_rfl) (fun _ _ _ h => h) (Or.inl ⟨by rfl, fun wl hSw => ?_⟩) hS0 ?_
          · (try dsimp only at hSw); go_simp
          refine wpAnyU_take (i := 14) (v := .int .i64 a.wt) rfl (by kernel_rfl) (by kernel_rfl) (by kernel_rfl) (by kernel_rfl) (fun _ _ _ h => h) (Or.inl ⟨by rfl, fun wl hSw => ?_⟩) hS0 ?_
          · (try dsimp only at hSw); go_simp
          refine wpAnyU_one (i := 15) rfl (by kernel_rfl) (fun K hK => ?_)
          go_simp
          refine (plusRef_any (gI c s) a.wt _ (by omega) (by omega)).mono ?_
          rintro e wq ⟨rfl, rfl⟩
          refine hK.out _ _ ⟨fun _ => hS0, ?_⟩
          clear hK K
          refine wpAnyU_one (i := 16) rfl (by kernel_rfl) (fun K hK => ?_)
          go_simp
          refine (lessRef_any (gI c t) (plusC (gI c s) a.wt) _).mono ?_
          rintro e wq ⟨rfl, rfl⟩
          refine hK.out _ _ ⟨fun _ => hS0, ?_⟩
          clear hK K
          refine wpAnyU_take (i := 17) (v := .pointer (some ⟨G, t, none⟩)) rfl (by kernel_rfl) (by kernel_rfl) (by kernel_rfl) (by kernel_rfl) (fun _ _ _ h => h) (Or.inl ⟨by rfl, fun wl hSw => ?_⟩) hS0 ?_
          · (try dsimp only at hSw); go_simp
          refine wpAnyU_one (i := 18) rfl (by kernel_rfl) (fun K hK => ?_)
          go_simp
          refine hK.out _ _ ⟨fun h => absurd rfl h, ?_⟩
          clear hK K
          refine wpAnyU_done (by kernel_rfl) ?_ _
          refine NoPanic.normal ?_
          go_wp2
          go_roundw
          case rel =>
            refine ⟨j + 1, by omega, by go_num, ?_⟩
            rw [relAll_take _ _ j _ HEJ.out, ← HCD.out, HSET.out]
            exact hFd.set t _ htN (by rw [← HSET.out]; exact HREL)
          case measure => simp [intOf]; omega
        · have HFW : Hid (FW w wr N G s0 fin (.slice aa m ac) (edF f) (begL (s0 : Int) N) (rounds (edF f) (begL (s0 : Int) N) (r + 1))) := by
            show FW w wr N G s0 fin (.slice aa m ac) (edF f) (begL (s0 : Int) N) (rounds (edF f) (begL (s0 : Int) N) (r + 1))
            have e : rounds (edF f) (begL (s0 : Int) N) (r + 1) = c := by
              rw [HCD.out, List.take_of_length_le (by have := HAL.out; simp [edF]; omega)]
              rfl
            rw [e]; exact hFW
          go_wp2
          go_roundw
          case rel => exact ⟨r + 1, by omega, by go_num, HFW.out⟩
          case measure => simp [intOf]; omega
    · obtain ⟨q0, q1, q2, q3⟩ := hFW.cf
      have HFD : Hid (rounds (edF f) (begL (s0 : Int) N) r = fromD f) := by
        have e : r = N := by omega
        show rounds (edF f) (begL (s0 : Int) N) r = fromD f
        unfold fromD
        rw [HOK.out.st, HOK.out.sta, Int.toNat_natCast, e]
      go_wp2
      go_ret
      exact ⟨G, cap, rfl, by rw [← HFD.out]; exact hFW.row, by have := hFW.ge; omega, hFW.bel⟩

end Go.Proofs.Yteehgcbjmdideaa

/- 'ToOf' of the document's answer. -/
namespace Go.Proofs.Yteehgcbjmdideaa
open Go.RowKit
attribute [local go_sem ↓] Go.wp_at_zero Go.wp_at_succ

theorem addr_plain (b off i : Nat) : (⟨b, off, none⟩ : Addr).add i = ⟨b, off + i, none⟩ := by
  by_cases h : i = 0
  · subst h; rfl
  · simp [Addr.add, h]
theorem ints_news {w : World} {b off n : Nat} {xs : List Int} (h : IntsAt w b off n xs) : ∀ j u, (xs.map (Value.int .i64))[j]? = some u → w.cell? ((⟨b, off, none⟩ : Addr).add j) = some u := by
  intro j u hj
  rw [addr_plain]
  by_cases hl : j < xs.length
  · have := h.cell j (by rw [← h.len]; exact hl)
    rw [this]
    simpa [List.getD, hl] using hj
  · simp [hl] at hj
theorem ints_ones (xs : List Int) : ∀ u ∈ xs.map (Value.int .i64), u.oneCell' = true := by
  intro u hu
  obtain ⟨x, _, rfl⟩ := List.mem_map.1 hu
  rfl
theorem lit0 (w : World) (o : Obj) : ((w.alloc o).alloc (.cells #[] 3)).ownsRow (w.heap.size + 1) 3 1 (.slice (some ⟨w.heap.size + 1, 0, none⟩) 0 0) 0 [] := by
  have h := World.ownsRow_lit (base := w.heap.size + 1) (e := 3) (size := 1) (w.alloc o) #[] 0 (by simp) (by decide) rfl
  simpa using h

set_option maxHeartbeats 1000000 in
set_option maxRecDepth 100000 in
theorem toOf_ok (f : FstD) (N s0 : Nat) (fb fo fc : Nat) (aa : Option Addr) (m ac : Nat) (w : World) (hok : OkF f N s0) (hf : IntsAt w fb fo N f.final) (ha : ASlice w (.slice aa m ac) f.arcs) (hal : f.arcs.length = m) :
    Calls Try.prog 40 #[.agg #[.int .i64 (N : Int), .int .i64 (s0 : Int), .slice (some ⟨fb, fo, none⟩) N fc, .slice aa m ac]] w fun e w' =>
      ∃ G cap, e = .returned (.slice (some ⟨G, 0, none⟩) N cap) ∧ NumsAt w' G N (toD f) ∧ w.heap.size ≤ G ∧ Below w.heap.size w w' := by
  have HOK : Hid (OkF f N s0) := hok
  have hn1 := hok.n1
  have hn2 := hok.n2
  have hm : m ≤ 3000 := by have := hok.many; omega
  have HAL : Hid (f.arcs.length = m) := hal
  have HBL : Hid (f.final.length = N) := hok.len
  clear hok
  have hbx := bel_up (bel_self w) (.cells #[.int .i64 (N : Int), .int .i64 (s0 : Int), .slice (some ⟨fb, fo, none⟩) N fc, .slice aa m ac] 25)
  have hcf := cellsF_new w (N : Int) (s0 : Int) (.slice (some ⟨fb, fo, none⟩) N fc) (.slice aa m ac) 25
  obtain ⟨i0, hi, hz0, hz1, hz2⟩ := info_parts Try.info3
  go_enter Try.func40, Try.ntmps40
  have hbx2 := two_up w (.cells #[.int .i64 (N : Int), .int .i64 (s0 : Int), .slice (some ⟨fb, fo, none⟩) N fc, .slice aa m ac] 25) (.cells #[] 3)
  have hnw := ints_news (hf.below hbx2)
  go_wp2_with (at_builtin; refine wpList_append_own _ rfl _ _ 22 rfl (w.heap.size + 1) 3 i0 (.int .i64 0) 1 8 Try.underlying22 hi hz0 hz1 hz2 rfl (by decide) _ 0 [] rfl (lit0 w _) ⟨fb, fo, none⟩ N fc (f.final.map (Value.int .i64)) rfl (by rw [List.length_map, HBL.out, Nat.mul_one]) hnw (ints_ones _) (by unfold maxLen; omega) (by omega) (by simp) ?_; intro v' w1 hown hgrow _; rw [Nat.zero_add, List.nil_append] at hown; obtain ⟨G, cap, rfl⟩ := Go.Joins.ownsRow_form hown (by omega))
  have hb1 : Below w.heap.size w w1 := hbx2.grown hgrow (by simp; omega) (fun g hg => by
    have hg' : some (w.heap.size + 1) = some g := hg
    injection hg' with hg'
    omega)
  have hcf1 : CellsF w1 w.heap.size (N : Int) (s0 : Int) (.slice (some ⟨fb, fo, none⟩) N fc) (.slice aa m ac) := hcf.grown hgrow (fun h => by
    have h' : some w.heap.size = some (w.heap.size + 1) := h
    injection h' with h'
    omega)
  have hFW : FW w w1 N G s0 (.slice (some ⟨fb, fo, none⟩) N fc) (.slice aa m ac) (edT f) f.final f.final := by
    obtain ⟨r1, r2⟩ := NumsAt.of_row hown
    exact ⟨hcf1, r1, r2, hb1, _, Inv.start (E := edT f) HOK.out.bT.1 HOK.out.bT.2⟩
  obtain ⟨fin, hfin⟩ : ∃ fin, fin = Value.slice (some ⟨fb, fo, none⟩) N fc := ⟨_, rfl⟩
  rw [← hfin] at hFW ⊢
  clear hfin hown hcf hcf1 hb1 hgrow hbx hbx2 hnw hi hz0 hz1 hz2 hf hal
  go_loopw [4] (fun i wr => ∃ r : Nat, r ≤ N ∧ i = .int .i64 r ∧ FW w wr N G s0 fin (.slice aa m ac) (edT f) f.final (rounds (edT f).reverse f.final r)) (fun i _ => N - (intOf i).toNat)
  case atStart => exact ⟨0, Nat.zero_le _, rfl, hFW⟩
  case round =>
    clear hFW
    obtain ⟨r, hr, rfl, hFW⟩ := hrel
    by_cases hlt : r < N
    · obtain ⟨q0, q1, q2, q3⟩ := hFW.cf
      have hri : (r : Int) < N := by omega
      go_wp2
      clear q0 q1 q2 q3
      go_loopw [5] (fun i wr => ∃ k : Nat, k ≤ m ∧ i = .int .i64 ((k : Int) - 1) ∧ FW w wr N G s0 fin (.slice aa m ac) (edT f) f.final (relAll ((edT f).reverse.take (m - k)) (rounds (edT f).reverse f.final r))) (fun i _ => (intOf i + 1).toNat)
      case atStart => exact ⟨m, Nat.le_refl _, by go_num, by rw [Nat.sub_self]; exact hFW⟩
      case round =>
        clear hFW
        obtain ⟨k, hk, rfl, hFW⟩ := hrel
        obtain ⟨c, hcd⟩ : ∃ c, c = relAll ((edT f).reverse.take (m - k)) (rounds (edT f).reverse f.final r) := ⟨_, rfl⟩
        rw [← hcd] at hFW
        have HCD : Hid (c = relAll ((edT f).reverse.take (m - k)) (rounds (edT f).reverse f.final r)) := hcd
        clear hcd
        obtain ⟨q0, q1, q2, q3⟩ := hFW.cf
        cases k with
        | succ j =>
          have hlj : j < m := by omega
          rw [show (((j + 1 : Nat) : Int) - 1) = (j : Int) by omega]
          obtain ⟨ab, aoff, rfl, hx⟩ := (ha.below hFW.bel).some (by omega)
          obtain ⟨a, hak⟩ : ∃ a, a = f.arcs.getD j a0 := ⟨_, rfl⟩
          have hjl : j < f.arcs.length := by have := HAL.out; omega
          have hmem : a ∈ f.arcs := by rw [hak]; simp [List.getD, hjl]
          obtain ⟨⟨p1, p2⟩, ⟨p3, p4⟩, p5, p6⟩ := HOK.out.arcs a hmem
          obtain ⟨s, hs⟩ : ∃ s : Nat, a.src = s := ⟨a.src.toNat, by omega⟩
          obtain ⟨t, ht⟩ : ∃ t : Nat, a.dst = t := ⟨a.dst.toNat, by omega⟩
          have hsN : s < N := by omega
          have htN : t < N := by omega
          have HEJ : Hid ((edT f)[j]? = some ⟨t, s, a.wt⟩) := by
            show (edT f)[j]? = some ⟨t, s, a.wt⟩
            have e1 : f.arcs[j]? = some a := by rw [hak]; simp [List.getD, hjl]
            unfold edT
            rw [List.getElem?_map, e1]
            simp [edgOf, hs, ht]
          have HRJ : Hid ((edT f).reverse[m - (j + 1)]? = some ⟨t, s, a.wt⟩) := by
            show (edT f).reverse[m - (j + 1)]? = some ⟨t, s, a.wt⟩
            have hl : (edT f).length = m := by simp [edT, HAL.out]
            rw [List.getElem?_reverse (by rw [hl]; omega), hl, show m - 1 - (m - (j + 1)) = j by omega]
            exact HEJ.out
          have c0 := hx.c0 j hlj
          have c1 := hx.c1 j hlj
          have c2 := hx.c2 j hlj
          have c3 := hx.c3 j hlj
          have c4 := hx.c4 j hlj
          rw [← hak] at c0 c1 c2 c3 c4
          rw [hs] at c0
          rw [ht] at c3
          have hji : (j : Int) < m := by omega
          clear hak hmem hjl hx hs ht p1 p2 p3 p4
          go_wp2
          have sN0 := hsN
          have tN0 := htN
          have hsi : (s : Int) < N := by omega
          have hti : (t : Int) < N := by omega
          have hFd := hFW.below (bel_up (bel_self wr) (.cells #[.int .i64 s, .int .i64 a.inp, .int .i64 a.out, .int .i64 t, .int .i64 a.wt] 63)).drew
          obtain ⟨Wd, hWd⟩ : ∃ Wd, Wd = (wr.alloc (.cells #[.int .i64 s, .int .i64 a.inp, .int .i64 a.out, .int .i64 t, .int .i64 a.wt] 63)).drew := ⟨_, rfl⟩
          have x0 : Wd.cell? ⟨wr.heap.size, 0, none⟩ = some (.int .i64 s) := by rw [hWd]; exact drew_cell (new_cell _ _ _ _ 0 _ rfl rfl)
          have x3 : Wd.cell? ⟨wr.heap.size, 3, none⟩ = some (.int .i64 t) := by rw [hWd]; exact drew_cell (new_cell _ _ _ _ 3 _ rfl rfl)
          have x4 : Wd.cell? ⟨wr.heap.size, 4, none⟩ = some (.int .i64 a.wt) := by rw [hWd]; exact drew_cell (new_cell _ _ _ _ 4 _ rfl rfl)
          rw [← hWd] at hFd
          have y0 := hFd.row.cell t tN0
          have y1 := hFd.row.cell s sN0
          have yz := hFd.row.frz s
          obtain ⟨yy, hinv⟩ := hFd.inv
          have hlo := hinv.lo t
          have hhi := hinv.top (by rw [HBL.out]; exact hn2) t
          have HREL := hinv.rel (by rw [HBL.out]; exact hn2) (List.mem_of_getElem? HEJ.out) (by rw [HBL.out]; exact sN0) p5 p6
          have HSET : Hid (relE c ⟨t, s, a.wt⟩ = c.set s (lessC (gI c s) (plusC (gI c t) a.wt))) := (rfl : relE c ⟨t, s, a.wt⟩ = _)
          clear hinv q0 q1 q2 q3 c0 c1 c2 c3 c4
          have hS0 : (fun wx : World => wx.cell? ⟨wr.heap.size, 0, none⟩ = some (.int .i64 s) ∧ wx.cell? ⟨wr.heap.size, 3, none⟩ = some (.int .i64 t) ∧ wx.cell? ⟨wr.heap.size, 4, none⟩ = some (.int .i64 a.wt) ∧ wx.cell? ⟨G, t, none⟩ = some (.int .i64 (gI c t)) ∧ wx.cell? ⟨G, s, none⟩ = some (.int .i64 (gI c s))) Wd := ⟨x0, x3, x4, y0, y1⟩
          refine wp_region_noPanic ?_
          refine wp_region_U (fun wx => wx.cell? ⟨wr.heap.size, 0, none⟩ = some (.int .i64 s) ∧ wx.cell? ⟨wr.heap.size, 3, none⟩ = some (.int .i64 t) ∧ wx.cell? ⟨wr.heap.size, 4, none⟩ = some (.int .i64 a.wt) ∧ wx.cell? ⟨G, t, none⟩ = some (.int .i64 (gI c t)) ∧ wx.cell? ⟨G, s, none⟩ = some (.int .i64 (gI c s))) 18 (by kernel_rfl) (by rw [← hWd]; exact hS0) (fun _ => ?_)
          rw [← hWd]
          clear hWd
          refine wpAnyU_take (i := 0) (v := .slice (some ⟨G, 0, none⟩) N cap) rfl (by kernel_rfl) (by kernel_rfl) (by kernel_rfl) (by kernel_rfl) (fun _ _ _ h => h) (Or.inl ⟨by rfl, fun wl hSw => ?_⟩) hS0 ?_
          · (try dsimp only at hSw); go_simp
          refine wpAnyU_take (i := 1) (v := .pointer (some ⟨wr.heap.size, 0, none⟩)) rfl (by kernel_rfl) (by kernel_rfl) (by kernel_rfl) (by kernel_rfl) (fun _ _ _ h => h) (Or.inl ⟨by rfl, fun wl hSw => ?_⟩) hS0 ?_
          · (try dsimp only at hSw); go_simp
          refine wpAnyU_take (i := 2) (v := .int .i64 s) rfl (by kernel_rfl) (by kernel_rfl) (by kernel_rfl) (by kernel_rfl) (fun _ _ _ h => h) (Or.inl ⟨by rfl, fun wl hSw => ?_⟩) hS0 ?_
          · (try dsimp only at hSw); go_simp
          refine wpAnyU_take (i := 3) (v := .slice (some ⟨G, 0, none⟩) N cap) rfl (by kernel_rfl) (by kernel_rfl) (by kernel_rfl) (by kernel_rfl) (fun _ _ _ h => h) (Or.inl ⟨by rfl, fun wl hSw => ?_⟩) hS0 ?_
          · (try dsimp only at hSw); go_simp
          refine wpAnyU_take (i := 4) (v := .pointer (some ⟨wr.heap.size, 0, none⟩)) rfl (by kernel_rfl) (by kernel_rfl) (by kernel_rfl) (by kernel_rfl) (fun _ _ _ h => h) (Or.inl ⟨by rfl, fun wl hSw => ?_⟩) hS0 ?_
          · (try dsimp only at hSw); go_simp
          refine wpAnyU_take (i := 5) (v := .int .i64 s) rfl (by kernel_rfl) (by kernel_rfl) (by kernel_rfl) (by kernel_rfl) (fun _ _ _ h => h) (Or.inl ⟨by rfl, fun wl hSw => ?_⟩) hS0 ?_
          · (try dsimp only at hSw); go_simp
          refine wpAnyU_take (i := 6) (v := .pointer (some ⟨G, s, none⟩)) rfl (by kernel_rfl) (by kernel_rfl) (by kernel_rfl) (by kernel_rfl) (fun _ _ _ h => h) (Or.inl ⟨by rfl, fun wl hSw => ?_⟩) hS0 ?_
          · (try dsimp only at hSw); go_simp
          refine wpAnyU_take (i := 7) (v := .int .i64 (gI c s)) rfl (by kernel_rfl) (by kernel_rfl) (by kernel_rfl) (by kernel_rfl) (fun _ _ _ h => h) (Or.inl ⟨by rfl, fun wl hSw => ?_⟩) hS0 ?_
          · (try dsimp only at hSw); go_simp
          refine wpAnyU_take (i := 8) (v := .slice (some ⟨G, 0, none⟩) N cap) rfl (by kernel_rfl) (by kernel_rfl) (by kernel_rfl) (by kernel_rfl) (fun _ _ _ h => h) (Or.inl ⟨by rfl, fun wl hSw => ?_⟩) hS0 ?_
          · (try dsimp only at hSw); go_simp
          refine wpAnyU_take (i := 9) (v := .pointer (some ⟨wr.heap.size, 3, none⟩)) rfl (by kernel_rfl) (by kernel_rfl) (by kernel_rfl) (by kernel_rfl) (fun _ _ _ h => h) (Or.inl ⟨by rfl, fun wl hSw => ?_⟩) hS0 ?_
          · (try dsimp only at hSw); go_simp
          refine wpAnyU_take (i := 10) (v := .int .i64 t) rfl (by kernel_rfl) (by kernel_rfl) (by kernel_rfl) (by kernel_rfl) (fun _ _ _ h => h) (Or.inl ⟨by rfl, fun wl hSw => ?_⟩) hS0 ?_
          · (try dsimp only at hSw); go_simp
          refine wpAnyU_take (i := 11) (v := .pointer (some ⟨G, t, none⟩)) rfl (by kernel_rfl) (by kernel_rfl) (by kernel_rfl) (by kernel_rfl) (fun _ _ _ h => h) (Or.inl ⟨by rfl, fun wl hSw => ?_⟩) hS0 ?_
          · (try dsimp only at hSw); go_simp
          refine wpAnyU_take (i := 12) (v := .int .i64 (gI c t)) rfl (by kernel_rfl) (by kernel_rfl) (by kernel_rfl) (by kernel_rfl) (fun _ _ _ h => h) (Or.inl ⟨by rfl, fun wl hSw => ?_⟩) hS0 ?_
          · (try dsimp only at hSw); go_simp
          refine wpAnyU_take (i := 13) (v := .pointer (some ⟨wr.heap.size, 4, none⟩)) rfl (by kernel_rfl) (by kernel_rfl) (by kernel_rfl) (by kernel_rfl) (fun _ _ _ h => h) (Or.inl ⟨by rfl, fun wl hSw => ?_⟩) hS0 ?_
          · (try dsimp only at hSw); go_simp
          refine wpAnyU_take (i := 14) (v := .int .i64 a.wt) rfl (by kernel_rfl) (by kernel_rfl) (by kernel_rfl) (by kernel_rfl) (fun _ _ _ h => h) (Or.inl ⟨by rfl, fun wl hSw => ?_⟩) hS0 ?_
          · (try dsimp only at hSw); go_simp
          refine wpAnyU_one (i := 15) rfl (by kernel_rfl) (fun K hK => ?_)
          go_simp
          refine (plusRef_any (gI c t) a.wt _ (by omega) (by omega)).mono ?_
          rintro e wq ⟨rfl, rfl⟩
          refine hK.out _ _ ⟨fun _ => hS0, ?_⟩
          clear hK K
          refine wpAnyU_one (i := 16) rfl (by kernel_rfl) (fun K hK => ?_)
          go_simp
          refine (lessRef_any (gI c s) (plusC (gI c t) a.wt) _).mono ?_
          rintro e wq ⟨rfl, rfl⟩
          refine hK.out _ _ ⟨fun _ => hS0, ?_⟩
          clear hK K
          refine wpAnyU_take (i := 17) (v := .pointer (some ⟨G, s, none⟩)) rfl (by kernel_rfl) (by kernel_rfl) (by kernel_rfl) (by kernel_rfl) (fun _ _ _ h => h) (Or.inl ⟨by rfl, fun wl hSw => ?_⟩) hS0 ?_
          · (try dsimp only at hSw); go_simp
          refine wpAnyU_one (i := 18) rfl (by kernel_rfl) (fun K hK => ?_)
          go_simp
          refine hK.out _ _ ⟨fun h => absurd rfl h, ?_⟩
          clear hK K
          refine wpAnyU_done (by kernel_rfl) ?_ _
          refine NoPanic.normal ?_
          go_wp2
          go_roundw
          case rel =>
            refine ⟨j, by omega, by go_num, ?_⟩
            rw [show m - j = m - (j + 1) + 1 by omega, relAll_take _ _ _ _ HRJ.out, ← HCD.out, HSET.out]
            exact hFd.set s _ hsN (by rw [← HSET.out]; exact HREL)
          case measure => simp [intOf]
        | zero =>
          have HFW : Hid (FW w wr N G s0 fin (.slice aa m ac) (edT f) f.final (rounds (edT f).reverse f.final (r + 1))) := by
            show FW w wr N G s0 fin (.slice aa m ac) (edT f) f.final (rounds (edT f).reverse f.final (r + 1))
            have e : rounds (edT f).reverse f.final (r + 1) = c := by
              rw [HCD.out, List.take_of_length_le (by have := HAL.out; simp [edT]; omega)]
              rfl
            rw [e]; exact hFW
          go_wp2
          go_roundw
          case rel => exact ⟨r + 1, by omega, by go_num, HFW.out⟩
          case measure => simp [intOf]; omega
    · obtain ⟨q0, q1, q2, q3⟩ := hFW.cf
      have HFD : Hid (rounds (edT f).reverse f.final r = toD f) := by
        have e : r = N := by omega
        show rounds (edT f).reverse f.final r = toD f
        unfold toD
        rw [HOK.out.st, Int.toNat_natCast, e]
      go_wp2
      go_ret
      exact ⟨G, cap, rfl, by rw [← HFD.out]; exact hFW.row, by have := hFW.ge; omega, hFW.bel⟩

end Go.Proofs.Yteehgcbjmdideaa
