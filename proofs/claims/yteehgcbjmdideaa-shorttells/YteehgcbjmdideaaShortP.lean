/- 'All' of package sound; 'From', 'toEnd', 'To' of package short. -/
import Derived.Test.YteehgcbjmdideaaShortM
import Derived.Test.YteehgcbjmdideaaSame
namespace Go.Proofs.Yteehgcbjmdideaa
open Go.RowKit
attribute [local go_sem ↓] Go.wp_at_zero Go.wp_at_succ

set_option maxHeartbeats 1000000 in
set_option maxRecDepth 100000 in
theorem all_one (f : FstD) (fin arcs : Value) (B : Nat) (c : Int) (w : World) (hC : CellsF w B f.states f.start fin arcs) (hf : ISlice w fin f.final) (ha : ASlice w arcs f.arcs) (hc : checkD f = c) :
    Calls Try.prog 59 #[.slice (some ⟨B, 0, none⟩) 1 1] w fun e w' => e = .returned (.int .i64 c) ∧ Below w.heap.size w w' := by
  obtain ⟨fa, fn, fc, rfl, _, _⟩ := hf.lenOf
  obtain ⟨ba, bn, bc, rfl, _, _⟩ := ha.lenOf
  have hchk : ∀ W, ISlice W (.slice fa fn fc) f.final → ASlice W (.slice ba bn bc) f.arcs → Calls Try.prog 101 #[.agg #[.int .i64 f.states, .int .i64 f.start, .slice fa fn fc, .slice ba bn bc]] W fun e w' => e = .returned (.int .i64 c) ∧ Below W.heap.size W w' := by
    intro W k1 k2; subst hc; exact check_any f _ _ W k1 k2
  clear hc
  go_enter Try.func59, Try.ntmps59
  go_wp2
  go_loopw [8] (fun i wr => ∃ k : Nat, k ≤ 1 ∧ i = .int .i64 k ∧ (k = 1 → c = 0) ∧ Below w.heap.size w wr) (fun i _ => 1 - (intOf i).toNat)
  case atStart => exact ⟨0, by omega, rfl, fun h => by omega, bel_self _⟩
  case round =>
    obtain ⟨k, hk, rfl, hck, hb⟩ := hrel
    by_cases hlt : k < 1
    · have hk0 : k = 0 := by omega
      subst hk0
      clear hck
      obtain ⟨q0, q1, q2, q3⟩ := hC.below hb
      have hb1 := bel_up (bel_self wr) (.cells #[.int .i64 f.states, .int .i64 f.start, .slice fa fn fc, .slice ba bn bc] 25)
      have h1 := (hf.below hb).below hb1
      have h2 := (ha.below hb).below hb1
      by_cases h0 : c = 0
      · subst h0
        go_wp2_with (go_at_call 101; refine (hchk _ h1 h2).mono ?_; rintro e w1 ⟨rfl, hb2⟩)
        go_roundw
        case rel => exact ⟨1, Nat.le_refl _, by go_num, fun _ => by trivial, bel_on (bel_on hb hb1) hb2⟩
        case measure => simp [intOf]
      · have h0b : (c == 0) = false := by simpa using h0
        have h0n : (c != 0) = true := by simpa using h0
        go_wp2_with (go_at_call 101; refine (hchk _ h1 h2).mono ?_; rintro e w1 ⟨rfl, hb2⟩)
        go_ret
        exact ⟨rfl, bel_on (bel_on hb hb1) hb2⟩
    · have hk1 : k = 1 := by omega
      have h0 := hck hk1
      subst hk1 h0
      clear hck
      go_wp2
      go_ret
      exact ⟨rfl, hb⟩

theorem goF : ∀ args w, (callFunc 84 args).run Try.prog w = .ok (.enter 84 args) w := by
  intro args w
  have h1 : (Try.f84.name == "runtime.NumGoroutine") = false := by kernel_rfl
  have h2 : Try.f84.body.isNone = false := by kernel_rfl
  have h3 : ¬ Try.f84.name = "runtime.NumGoroutine" := by simpa using h1
  have h4 : ¬ Try.f84.body = none := fun e => by rw [e] at h2; cases h2
  simp [callFunc, Try.func84, h3, h4]
theorem goT : ∀ args w, (callFunc 121 args).run Try.prog w = .ok (.enter 121 args) w := by
  intro args w
  have h1 : (Try.f121.name == "runtime.NumGoroutine") = false := by kernel_rfl
  have h2 : Try.f121.body.isNone = false := by kernel_rfl
  have h3 : ¬ Try.f121.name = "runtime.NumGoroutine" := by simpa using h1
  have h4 : ¬ Try.f121.body = none := fun e => by rw [e] at h2; cases h2
  simp [callFunc, Try.func121, h3, h4]

/-- what 'From' and 'To' answer -/
def ListRes (w : World) (l : List Int) (c : Int) (e : Ending) (w' : World) : Prop :=
  ∃ a n cap, e = .returned (.tuple #[.slice a n cap, .int .i64 c]) ∧ ISlice w' (.slice a n cap) l ∧ Below w.heap.size w w'

theorem cellsF_new (w : World) (st sta : Int) (fin arcs : Value) (t : Nat) : CellsF (w.alloc (.cells #[.int .i64 st, .int .i64 sta, fin, arcs] t)) w.heap.size st sta fin arcs := by simp [CellsF]
theorem cellsF_at (w : World) (st sta : Int) (fin arcs : Value) (t B : Nat) (h : w.heap.size = B) : CellsF (w.alloc (.cells #[.int .i64 st, .int .i64 sta, fin, arcs] t)) B st sta fin arcs := by subst h; exact cellsF_new w st sta fin arcs t

/-- the world behind the first two blocks -/
theorem two_up (w : World) (o p : Obj) : Below w.heap.size w ((w.alloc o).alloc p) := bel_up (bel_up (bel_self w) o) p
theorem one_size (w : World) (o : Obj) : (w.alloc o).heap.size = w.heap.size + 1 := by simp

theorem all_at (f : FstD) (fin arcs : Value) (c : Int) (w : World) (hf : ISlice w fin f.final) (ha : ASlice w arcs f.arcs) (hc : checkD f = c) :
    Calls Try.prog 59 #[.slice (some ⟨w.heap.size + 1, 0, none⟩) 1 1] ((w.alloc (.cells #[.int .i64 f.states, .int .i64 f.start, fin, arcs] 25)).alloc (.cells #[.int .i64 f.states, .int .i64 f.start, fin, arcs] 25)) fun e w' =>
      e = .returned (.int .i64 c) ∧ Below w.heap.size w w' ∧ CellsF w' w.heap.size f.states f.start fin arcs ∧ ISlice w' fin f.final ∧ ASlice w' arcs f.arcs := by
  have hb := two_up w (.cells #[.int .i64 f.states, .int .i64 f.start, fin, arcs] 25) (.cells #[.int .i64 f.states, .int .i64 f.start, fin, arcs] 25)
  refine (all_one f fin arcs (w.heap.size + 1) c _ (cellsF_at _ _ _ _ _ _ _ (one_size _ _)) (hf.below hb) (ha.below hb) hc).mono ?_
  rintro e w' ⟨rfl, hb2⟩
  exact ⟨rfl, bel_on hb hb2, ((cellsF_new w _ _ _ _ _).below (bel_up (bel_self _) _)).below hb2, (hf.below hb).below hb2, (ha.below hb).below hb2⟩

theorem nil_ints (w : World) : ISlice w (.slice none 0 0) [] := Or.inl ⟨none, 0, rfl, rfl⟩

set_option maxHeartbeats 1000000 in
set_option maxRecDepth 100000 in
theorem from_bad (f : FstD) (fin arcs : Value) (c : Int) (w : World) (hf : ISlice w fin f.final) (ha : ASlice w arcs f.arcs) (hc : checkD f = c) (h0 : (c == 0) = false) :
    Calls Try.prog 36 #[.agg #[.int .i64 f.states, .int .i64 f.start, fin, arcs]] w fun e w' => ListRes w [] c e w' := by
  obtain ⟨fa, fn, fc, rfl, _, _⟩ := hf.lenOf
  obtain ⟨ba, bn, bc, rfl, _, _⟩ := ha.lenOf
  have hall := all_at f _ _ c w hf ha hc
  have h0n : (c != 0) = true := by simpa using h0
  clear hc
  go_enter Try.func36, Try.ntmps36
  go_wp2_with (go_at_call 59; refine hall.mono ?_; rintro e w1 ⟨rfl, hb1, _, _, _⟩)
  go_ret2
  exact ⟨_, _, _, rfl, nil_ints _, hb1⟩

set_option maxHeartbeats 1000000 in
set_option maxRecDepth 100000 in
theorem to_bad (f : FstD) (fin arcs : Value) (c : Int) (w : World) (hf : ISlice w fin f.final) (ha : ASlice w arcs f.arcs) (hc : checkD f = c) (h0 : (c == 0) = false) :
    Calls Try.prog 37 #[.agg #[.int .i64 f.states, .int .i64 f.start, fin, arcs]] w fun e w' => ListRes w [] c e w' := by
  obtain ⟨fa, fn, fc, rfl, _, _⟩ := hf.lenOf
  obtain ⟨ba, bn, bc, rfl, _, _⟩ := ha.lenOf
  have hall := all_at f _ _ c w hf ha hc
  have h0n : (c != 0) = true := by simpa using h0
  clear hc
  go_enter Try.func37, Try.ntmps37
  go_wp2_with (go_at_call 59; refine hall.mono ?_; rintro e w1 ⟨rfl, hb1, _, _, _⟩)
  go_ret2
  exact ⟨_, _, _, rfl, nil_ints _, hb1⟩

theorem NumsAt.ints {w : World} {g n : Nat} {c : List Int} (h : NumsAt w g n c) : IntsAt w g 0 n c :=
  ⟨h.len, fun i hi => by rw [Nat.zero_add, h.cell i hi, gI_getD (by rw [h.len]; exact hi)]⟩

theorem only_beg (n s : Nat) (w : World) (h1 : 1 ≤ n) (h2 : n ≤ 200) (hs : s < n) :
    Calls Try.prog 83 #[.int .i64 n, .int .i64 s] w fun e w' => ∃ G, e = .returned (.slice (some ⟨G, 0, none⟩) n n) ∧ IntsAt w' G 0 n (begL (s : Int) n) ∧ Below w.heap.size w w' := by
  refine (only_any n s w h1 h2 hs).mono ?_
  rintro e w' ⟨G, rfl, hG, _, hb⟩
  rw [beg_set] at hG
  have h := (NumsAt.of_block hG).ints
  rw [begL_len] at h
  exact ⟨G, rfl, h, hb⟩

theorem ok_src {f : FstD} {N s0 : Nat} (h : OkF f N s0) : ∀ a ∈ f.arcs, (0 ≤ a.src ∧ a.src < N) ∧ (0 ≤ a.dst ∧ a.dst < N) ∧ (0 ≤ a.wt ∧ a.wt ≤ 1000000000) := h.arcs
theorem ok_dst {f : FstD} {N s0 : Nat} (h : OkF f N s0) : ∀ a ∈ f.arcs, (0 ≤ a.dst ∧ a.dst < N) ∧ (0 ≤ a.src ∧ a.src < N) ∧ (0 ≤ a.wt ∧ a.wt ≤ 1000000000) := fun a ha => ⟨(h.arcs a ha).2.1, (h.arcs a ha).1, (h.arcs a ha).2.2⟩

set_option maxHeartbeats 1000000 in
set_option maxRecDepth 100000 in
theorem from_ok (f : FstD) (N s0 : Nat) (fin : Value) (aa : Option Addr) (m ac : Nat) (w : World) (hok : OkF f N s0) (hf : ISlice w fin f.final) (ha : ASlice w (.slice aa m ac) f.arcs) (hal : f.arcs.length = m) (hc : checkD f = 0) :
    Calls Try.prog 36 #[.agg #[.int .i64 f.states, .int .i64 f.start, fin, .slice aa m ac]] w fun e w' => ListRes w (fromD f) 0 e w' := by
  obtain ⟨fa, fn, fc, rfl, _, _⟩ := hf.lenOf
  have hall := all_at f _ _ 0 w hf ha hc
  have HOK : Hid (OkF f N s0) := hok
  have HC : Hid (checkD f = 0) := hc
  have hn1 := hok.n1
  have hn2 := hok.n2
  have hs := hok.s
  have hm := hok.many
  rw [hok.st, hok.sta] at *
  clear hc hok
  go_enter Try.func36, Try.ntmps36
  go_wp2_with (go_at_call 59; refine hall.mono ?_; rintro e w1 ⟨rfl, hb1, hC1, hf1, ha1⟩; obtain ⟨q0, q1, q2, q3⟩ := hC1)
  go_region_held3 (fun wx => wx.cell? ⟨w.heap.size, 0, none⟩ = some (.int .i64 N) ∧ wx.cell? ⟨w.heap.size, 1, none⟩ = some (.int .i64 s0) ∧ wx.cell? ⟨w.heap.size, 3, none⟩ = some (.slice aa m ac))
    (first | exact ⟨drew_cell q0, drew_cell q1, drew_cell q3⟩ | exact ⟨bel_c hb2 (drew_cell q0), bel_c hb2 (drew_cell q1), bel_c hb2 (drew_cell q3)⟩ | exact ⟨bel_c hb3 (bel_c hb2 (drew_cell q0)), bel_c hb3 (bel_c hb2 (drew_cell q1)), bel_c hb3 (bel_c hb2 (drew_cell q3))⟩)
    (first | (go_at_call 83; refine (only_beg N s0 _ hn1 hn2 hs).mono ?_; rintro e w2 ⟨G, rfl, hG, hb2⟩) | (go_at_call 82; refine (costs_some ArcD.src ArcD.dst 84 goF ahead_ends (begL (s0 : Int) N) G 0 N N aa m ac f.arcs w2 hG ((ha1.below (bel_self w1).drew).below hb2) hal (by omega) hn1 hn2 HOK.out.bF.1 HOK.out.bF.2 (ok_src HOK.out)).mono ?_; rintro e w3 ⟨gc, gy, c, y, cc, cy, rfl, hcw, hfix⟩; have hb3 := hcw.bel))
  go_wp2
  go_ret2
  have hcd : c = fromD f := HOK.out.fromD hcw.inv hfix
  rw [← hcd]
  exact ⟨_, _, _, rfl, hcw.rc.slice cc (by unfold maxLen; omega), bel_on (bel_on (bel_self _) hb1) (bel_on (bel_on (bel_self w1).drew hb2) hb3)⟩

theorem final_at {f : FstD} {N s0 : Nat} {w : World} {a : Option Addr} {n c : Nat} (h : OkF f N s0) (hf : ISlice w (.slice a n c) f.final) : ∃ b off, a = some ⟨b, off, none⟩ ∧ n = N ∧ IntsAt w b off N f.final := by
  obtain ⟨a', n', c', e, h1, _⟩ := hf.lenOf
  have hn : n = N := by
    injection e with e1 e2 e3
    have := h.len
    omega
  subst hn
  obtain ⟨b, off, rfl, hx⟩ := hf.some (by have := h.n1; omega)
  exact ⟨b, off, rfl, rfl, hx⟩

set_option maxHeartbeats 1000000 in
set_option maxRecDepth 100000 in
theorem toEnd_ok (f : FstD) (N s0 : Nat) (fin : Value) (aa : Option Addr) (m ac : Nat) (w : World) (hok : OkF f N s0) (hf : ISlice w fin f.final) (ha : ASlice w (.slice aa m ac) f.arcs) (hal : f.arcs.length = m) :
    Calls Try.prog 85 #[.agg #[.int .i64 (N : Int), .int .i64 (s0 : Int), fin, .slice aa m ac]] w fun e w' => CostsRes w N (edT f) f.final e w' := by
  obtain ⟨fa, fn, fc, rfl, _, _⟩ := hf.lenOf
  obtain ⟨fb, fo, rfl, rfl, hx⟩ := final_at hok hf
  have HOK : Hid (OkF f fn s0) := hok
  have hn1 := hok.n1
  have hn2 := hok.n2
  have hm := hok.many
  clear hok
  have hb0 := bel_up (bel_self w) (.cells #[.int .i64 (fn : Int), .int .i64 (s0 : Int), .slice (some ⟨fb, fo, none⟩) fn fc, .slice aa m ac] 25)
  go_enter Try.func85, Try.ntmps85
  go_wp2_with (go_at_call 82; refine (costs_some ArcD.dst ArcD.src 121 goT back_ends f.final fb fo fc fn aa m ac f.arcs _ (hx.below hb0) (ha.below hb0) hal (by omega) hn1 hn2 HOK.out.bT.1 HOK.out.bT.2 (ok_dst HOK.out)).mono ?_; rintro e w3 ⟨gc, gy, c, y, cc, cy, rfl, hcw, hfix⟩)
  go_ret2
  exact ⟨gc, gy, c, y, cc, cy, rfl, ⟨hcw.rc, hcw.ry, hcw.ne, by have := hcw.lc; simp at this; omega, by have := hcw.ly; simp at this; omega, bel_on hb0 hcw.bel, hcw.inv⟩, hfix⟩

set_option maxHeartbeats 1000000 in
set_option maxRecDepth 100000 in
theorem to_ok (f : FstD) (N s0 : Nat) (fin : Value) (aa : Option Addr) (m ac : Nat) (w : World) (hok : OkF f N s0) (hf : ISlice w fin f.final) (ha : ASlice w (.slice aa m ac) f.arcs) (hal : f.arcs.length = m) (hc : checkD f = 0) :
    Calls Try.prog 37 #[.agg #[.int .i64 f.states, .int .i64 f.start, fin, .slice aa m ac]] w fun e w' => ListRes w (toD f) 0 e w' := by
  obtain ⟨fa, fn, fc, rfl, _, _⟩ := hf.lenOf
  have hall := all_at f _ _ 0 w hf ha hc
  have HOK : Hid (OkF f N s0) := hok
  have HC : Hid (checkD f = 0) := hc
  have hn1 := hok.n1
  have hn2 := hok.n2
  rw [hok.st, hok.sta] at *
  clear hc hok
  go_enter Try.func37, Try.ntmps37
  go_wp2_with (first | (go_at_call 59; refine hall.mono ?_; rintro e w1 ⟨rfl, hb1, hC1, hf1, ha1⟩; obtain ⟨q0, q1, q2, q3⟩ := hC1) | (go_at_call 85; refine (toEnd_ok f N s0 _ aa m ac w1 HOK.out hf1 ha1 hal).mono ?_; rintro e w3 ⟨gc, gy, c, y, cc, cy, rfl, hcw, hfix⟩))
  go_ret2
  have hcd : c = toD f := HOK.out.toD hcw.inv hfix
  rw [← hcd]
  exact ⟨_, _, _, rfl, hcw.rc.slice cc (by unfold maxLen; omega), bel_on hb1 hcw.bel⟩

end Go.Proofs.Yteehgcbjmdideaa
