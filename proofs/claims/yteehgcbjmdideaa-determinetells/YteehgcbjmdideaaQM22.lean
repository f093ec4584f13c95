/- 'Early' of package oneway: the walk. -/
import Derived.Test.YteehgcbjmdideaaQM21
namespace Go.Proofs.Yteehgcbjmdideaa
open Go.RowKit
attribute [local go_sem ↓] Go.wp_at_zero Go.wp_at_succ

theorem ArcsB.mono {B B' m : Nat} {w : World} {ba : Option Addr} {ars : List ArcD} (h : ArcsB B w ba m ars) (hB : B' ≤ B) : ArcsB B' w ba m ars := by
  rcases h with h | ⟨ga, rfl, h0, h1, h2⟩
  · exact Or.inl h
  · exact Or.inr ⟨ga, rfl, by omega, h1, h2⟩

def MovOk (w : World) (N s0 m : Nat) (d : FstD) (e : Ending) (w' : World) : Prop := ∃ g1 c1 ba bc, e = .returned (.agg #[.int .i64 (N : Int), .int .i64 (s0 : Int), .slice (some ⟨g1, 0, none⟩) N c1, .slice ba m bc]) ∧ NumsAt w' g1 N d.final ∧ w.heap.size ≤ g1 ∧ ArcsB w.heap.size w' ba m d.arcs ∧ Below w.heap.size w w'

theorem moved_ok (f : FstD) (N s0 m : Nat) (ah : List Int) (fin arcs hv : Value) (w : World) (hN : f.states = (N : Int)) (hsta : f.start = (s0 : Int)) (hN1 : 1 ≤ N) (hN2 : N ≤ 300) (hfl : f.final.length = N) (hhl : ah.length = N) (hal : f.arcs.length = m) (hmany : m ≤ 3000) (har : ∀ a ∈ f.arcs, (0 ≤ a.src ∧ a.src < N) ∧ (0 ≤ a.dst ∧ a.dst < N))
    (hbF : ∀ s, -10000000000000 ≤ gI f.final s ∧ gI f.final s ≤ 10000000000000) (hbW : ∀ a ∈ f.arcs, -10000000000000 ≤ a.wt ∧ a.wt ≤ 10000000000000) (hbA : ∀ s, -10000000000000 ≤ gI ah s ∧ gI ah s ≤ 10000000000000) (hf : ISlice w fin f.final) (ha : ASlice w arcs f.arcs) (hh : ISlice w hv ah) :
    Calls Try.prog 160 #[.agg #[.int .i64 (N : Int), .int .i64 (s0 : Int), fin, arcs], hv] w fun e w' => MovOk w N s0 m (movD f ah) e w' := by
  rw [← hsta]
  refine (moved_any f N ah fin arcs hv w hN hN1 hN2 hfl hhl (by omega) (fun a h => ⟨a.src.toNat, a.dst.toNat, by have := har a h; omega, by have := har a h; omega, by have := har a h; omega, by have := har a h; omega⟩) hbF hbW hbA hf ha hh).mono ?_
  rintro e w' ⟨g1, n, c1, ba, m', bc, rfl, h1, h2, _, h4, h5⟩
  obtain rfl : N = n := by
    have e1 := h1.len
    have e2 : (movD f ah).final.length = f.final.length := movF_len _ _ _
    omega
  obtain rfl : m = m' := by
    have e1 := h4.len
    have e2 : (movD f ah).arcs.length = f.arcs.length := List.length_map ..
    omega
  refine ⟨g1, c1, ba, bc, ?_, h1, h2, h4, h5⟩
  rw [show (movD f ah).states = (N : Int) from hN, show (movD f ah).start = (s0 : Int) from hsta]

theorem movF_bounds {fin ah : List Int} (hf : ∀ x ∈ fin, x = -1 ∨ (0 ≤ x ∧ x ≤ 1000000000)) (ha : ∀ v, -1 ≤ gI ah v ∧ gI ah v ≤ 201000000000) (k v : Nat) : -10000000000000 ≤ gI (movF fin ah k) v ∧ gI (movF fin ah k) v ≤ 10000000000000 := by
  by_cases hv : v < fin.length
  · rw [movF_at fin ah k hv]
    have h1 := gI_of fin (fun x => x = -1 ∨ (0 ≤ x ∧ x ≤ 1000000000)) hf (Or.inl rfl) v
    have h2 := ha v
    split
    · split <;> omega
    · omega
  · have : gI (movF fin ah k) v = -1 := by unfold gI; simp [List.getD, movF, hv]
    omega

set_option maxHeartbeats 3200000 in
set_option maxRecDepth 100000 in
/-- what 'Early' answers, where a word costs something and what is moved stays small -/
theorem early_some (f : FstD) (N s0 : Nat) (fin : Value) (aa : Option Addr) (m ac : Nat) (w : World) (hok : OkF f N s0) (hf : ISlice w fin f.final) (ha : ASlice w (.slice aa m ac) f.arcs) (hal : f.arcs.length = m) (hall : gI (toD f) s0 ≠ -1) (hg : ∀ a ∈ f.arcs, 0 ≤ (movA (toD f) a).wt ∧ (movA (toD f) a).wt ≤ 1000000000) :
    Calls Try.prog 129 #[.agg #[.int .i64 (N : Int), .int .i64 (s0 : Int), fin, .slice aa m ac]] w fun e w' => MovOk w N s0 m (earlyD f) e w' := by
  obtain ⟨fa, fn, fc, rfl, _, _⟩ := hf.lenOf
  obtain ⟨fb, fo, rfl, rfl, hx⟩ := final_at hok hf
  have HOK : Hid (OkF f fn s0) := hok
  have HOK2 : Hid (OkF (backF f) fn s0) := backF_ok hok hg
  have HG : Hid (∀ a ∈ f.arcs, 0 ≤ (movA (toD f) a).wt ∧ (movA (toD f) a).wt ≤ 1000000000) := hg
  have HALL : Hid (gI (toD f) s0 ≠ -1) := hall
  have hn1 := hok.n1
  have hn2 := hok.n2
  have hm := hok.many
  have hs := hok.s
  have hsi : (s0 : Int) < fn := by omega
  obtain ⟨A1, hA1⟩ : ∃ W, W = w.alloc (.cells #[.int .i64 (fn : Int), .int .i64 (s0 : Int), .slice (some ⟨fb, fo, none⟩) fn fc, .slice aa m ac] 25) := ⟨_, rfl⟩
  have hRA : RW w A1 fn (s0 : Int) (.slice (some ⟨fb, fo, none⟩) fn fc) (.slice aa m ac) := by rw [hA1]; exact ⟨cellsF_new _ _ _ _ _ _, bel_up (bel_self w) _⟩
  have s1 : A1.heap.size = w.heap.size + 1 := by rw [hA1]; exact one_size _ _
  obtain ⟨A2, hA2⟩ : ∃ W, W = A1.alloc (.cells #[.int .i64 0, .int .i64 0, .slice none 0 0, .slice none 0 0] 25) := ⟨_, rfl⟩
  have hz2 : ZBlock A2 (w.heap.size + 1) := by unfold ZBlock; rw [hA2, ← s1]; exact heap_alloc_new A1 _
  have hR2 : RW w A2 fn (s0 : Int) (.slice (some ⟨fb, fo, none⟩) fn fc) (.slice aa m ac) := hRA.below (by rw [hA2]; exact bel_up (bel_self _) _)
  have s2 : A2.heap.size = w.heap.size + 2 := by rw [hA2, one_size, s1]
  have HW : Hid (A2 = (w.alloc (.cells #[.int .i64 (fn : Int), .int .i64 (s0 : Int), .slice (some ⟨fb, fo, none⟩) fn fc, .slice aa m ac] 25)).alloc (.cells #[.int .i64 0, .int .i64 0, .slice none 0 0, .slice none 0 0] 25)) := by rw [← hA1]; exact hA2
  have hcos := costs_some ArcD.dst ArcD.src 159 goE1 early1_ends f.final fb fo fc fn aa m ac f.arcs A2 (hx.below hR2.bel) (ha.below hR2.bel) hal (by omega) hn1 hn2 hok.bT.1 hok.bT.2 (ok_dst hok)
  rw [HW.out] at hcos
  have HIN : Hid (∀ W : World, Below w.heap.size w W → ISlice W (.slice (some ⟨fb, fo, none⟩) fn fc) f.final ∧ ASlice W (.slice aa m ac) f.arcs) := fun W h => ⟨hf.below h, ha.below h⟩
  have HL : Hid (f.arcs.length = m) := hal
  clear hA1 hA2 hRA s1 hf ha hx hok hg hall hal
  go_enter Try.func129, Try.ntmps129
  go_wp2_with (go_at_call 82; refine hcos.mono ?_; rintro e w3 ⟨gc, gy, c, y, cc, cy, rfl, hcw, hfix⟩; rw [← HW.out] at hcw; clear hcos; obtain ⟨hclen, hcb⟩ := edT_inv HOK.out hcw.inv; obtain rfl : c = toD f := HOK.out.toD hcw.inv hfix; clear hfix; have hR3 := hR2.below hcw.bel; have hz3 := heap_bel hcw.bel hz2; have hlc := hcw.lc; have hrc := hcw.rc; have hb3 := hcw.bel; clear hcw hR2 hz2; have q0 := hR3.cf.1; have q1 := hR3.cf.2.1; have q2 := hR3.cf.2.2.1; have q3 := hR3.cf.2.2.2; obtain ⟨al, hal⟩ : ∃ x, x = gI (toD f) s0 := ⟨_, rfl⟩; have qs := hrc.cell s0 hs; rw [← hal] at qs; have hab : (al == -1) = false := (by have := HALL.out; rw [← hal] at this; simpa using this); have HAL : Hid (al = gI (toD f) s0) := hal; clear hal)
  refine (moved_ok f fn s0 m (toD f) _ _ _ w3 HOK.out.st HOK.out.sta hn1 (by omega) HOK.out.len hclen HL.out (by have := HL.out; omega) (fun a h => ⟨(HOK.out.arcs a h).1, (HOK.out.arcs a h).2.1⟩) (fun s => by have := gI_of f.final (fun x => x = -1 ∨ (0 ≤ x ∧ x ≤ 1000000000)) HOK.out.fin (Or.inl rfl) s; omega) (fun a h => by have := (HOK.out.arcs a h).2.2; omega) (fun s => by have := hcb s; omega) (HIN.out w3 hR3.bel).1 (HIN.out w3 hR3.bel).2 (hrc.slice cc (by unfold maxLen; omega))).mono ?_
  rintro e w4 ⟨g1, c1, ba, bc, rfl, hn4, hg4, ha4, hb4⟩
  have HC : Hid (∀ W : World, Below w4.heap.size w4 W → RW w W fn (s0 : Int) (.slice (some ⟨fb, fo, none⟩) fn fc) (.slice aa m ac) ∧ ZBlock W (w.heap.size + 1) ∧ NumsAt W g1 fn (movD f (toD f)).final ∧ ArcsB w3.heap.size W ba m (movD f (toD f)).arcs ∧ NumsAt W gc fn (toD f)) := fun W h => ⟨(hR3.below hb4).below h, heap_bel h (heap_bel hb4 hz3), hn4.below h, ha4.below h, (hrc.below hb4).below h⟩
  have hgl := hrc.lt
  have HS : Hid (w.heap.size + 1 < gc ∧ gc < w3.heap.size ∧ w3.heap.size ≤ g1 ∧ w3.heap.size ≤ w4.heap.size) := ⟨by omega, hgl, hg4, hb4.size⟩
  clear hR3 hz3 hn4 ha4 hb4 hrc q0 q1 q2 q3 qs hlc hb3 hgl hg4
  obtain ⟨w5, hw5⟩ : ∃ W, W = w4.alloc (.cells #[.int .i64 (fn : Int), .int .i64 (s0 : Int), .slice (some ⟨g1, 0, none⟩) fn c1, .slice ba m bc] 25) := ⟨_, rfl⟩
  have hb5 : Below w4.heap.size w4 w5 := by rw [hw5]; exact bel_up (bel_self w4) _
  have hG5 : CellsF w5 w4.heap.size (fn : Int) (s0 : Int) (.slice (some ⟨g1, 0, none⟩) fn c1) (.slice ba m bc) := by rw [hw5]; exact cellsF_new _ _ _ _ _ _
  have HW5 : Hid (w5 = w4.alloc (.cells #[.int .i64 (fn : Int), .int .i64 (s0 : Int), .slice (some ⟨g1, 0, none⟩) fn c1, .slice ba m bc] 25)) := hw5
  clear hw5
  go_wp2
  rw [← HW5.out]
  clear HW5
  have HBF : Hid ((backF f).final = begL (s0 : Int) fn) := by
    show begL f.start f.states.toNat = begL (s0 : Int) fn
    rw [HOK.out.sta, HOK.out.st, Int.toNat_natCast]
  have hR5 := (HC.out w5 hb5).1
  have q0 := hR5.cf.1
  have q1 := hR5.cf.2.1
  have q3 := hG5.2.2.2
  have hco2 : ∀ (W : World) (G : Nat), Below w5.heap.size w5 W → IntsAt W G 0 fn (begL (s0 : Int) fn) → Calls Try.prog 82 #[.slice (some ⟨G, 0, none⟩) fn fn, .slice ba m bc, .func (.func 161) #[] #[]] W fun e w' => CostsRes W fn (edT (backF f)) (begL (s0 : Int) fn) e w' := fun W G hW hG => costs_some ArcD.dst ArcD.src 161 goE2 early2_ends (begL (s0 : Int) fn) G 0 fn fn ba m bc (movD f (toD f)).arcs W hG ((HC.out W (bel_on hb5 hW)).2.2.2.1.slice bc) (HC.out w5 hb5).2.2.2.1.len (by have := HL.out; omega) hn1 hn2 HOK.out.bF.1 HOK.out.bF.2 (ok_dst (f := backF f) HOK2.out)
  go_region_held3 (fun wx => wx.cell? ⟨w.heap.size, 0, none⟩ = some (.int .i64 (fn : Int)) ∧ wx.cell? ⟨w.heap.size, 1, none⟩ = some (.int .i64 (s0 : Int)) ∧ wx.cell? ⟨w4.heap.size, 3, none⟩ = some (.slice ba m bc))
    (first | exact ⟨drew_cell q0, drew_cell q1, drew_cell q3⟩ | exact ⟨bel_c hb6 (drew_cell q0), bel_c hb6 (drew_cell q1), bel_c hb6 (drew_cell q3)⟩ | exact ⟨bel_c hb7 (bel_c hb6 (drew_cell q0)), bel_c hb7 (bel_c hb6 (drew_cell q1)), bel_c hb7 (bel_c hb6 (drew_cell q3))⟩)
    (first | (go_at_call 83; refine (only_beg fn s0 _ hn1 hn2 hs).mono ?_; rintro e w6 ⟨G, rfl, hG, hb6⟩) | (go_at_call 82; refine (hco2 w6 G (bel_on (bel_self w5).drew hb6) hG).mono ?_; rintro e w7 ⟨gk, gy2, c2, y2, cc2, cy2, rfl, hcw, hfix⟩; have hb7 := hcw.bel))
  have hb57 : Below w5.heap.size w5 w7 := bel_on (bel_on (bel_self w5).drew hb6) hb7
  have hsz56 := (bel_on (bel_self w5).drew hb6).size
  have hsz45 := hb5.size
  have hi2 : Inv (edT (backF f)) (backF f).final c2 y2 := by rw [HBF.out]; exact hcw.inv
  obtain ⟨hklen, hkb⟩ := edT_inv HOK2.out hi2
  obtain rfl : c2 = toD (backF f) := HOK2.out.toD hi2 hfix
  have hlk := hcw.lc
  have hbb := bel_on hb5 hb57
  have hh := HC.out w7 hbb
  have hS := HS.out
  have hEL : EL w w7 fn s0 (.slice (some ⟨fb, fo, none⟩) fn fc) (.slice aa m ac) gc w4.heap.size g1 c1 ba m bc gk (movD f (toD f)) (ahD (toD f) (toD (backF f)) al 0) (toD (backF f)) := by
    rw [ahD_zero]
    exact ⟨hh.1, hh.2.1, hG5.below hb57, hh.2.2.1, hh.2.2.2.1.mono (by omega), hh.2.2.2.2, hcw.rc, by omega, by omega, by omega, by omega⟩
  clear hco2 hcw hfix hi2 hb6 hb7 hb57 hb5 hG5 hR5 q0 q1 q3 hlk hbb hh hG hsz56 hsz45
  go_wp2
  go_loopw [9, 10, 47] (fun _ _ t47 wx => ∃ s : Nat, s ≤ fn ∧ t47 = .int .i64 (s : Int) ∧ EL w wx fn s0 (.slice (some ⟨fb, fo, none⟩) fn fc) (.slice aa m ac) gc w4.heap.size g1 c1 ba m bc gk (movD f (toD f)) (ahD (toD f) (toD (backF f)) al s) (toD (backF f))) (fun _ _ t47 _ => fn - (intOf t47).toNat)
  case atStart => exact ⟨0, Nat.zero_le _, rfl, hEL⟩
  case round =>
    clear hEL
    obtain ⟨s, hsn, rfl, hM⟩ := hrel
    have hsw : IntKind.i64.wrap ((s : Int) + 1) = (s : Int) + 1 := wrap_in _ (by omega) (by omega)
    by_cases hlt : s < fn
    · have hsl : (s : Int) < fn := by omega
      have b0 := hM.bk.cell s hlt
      have a0' := hM.ah.cell s hlt
      have hfz := hM.ah.frz s
      have hb1 := hkb s
      have hb2 := hcb s0
      obtain ⟨x, hx⟩ : ∃ x, x = gI (toD (backF f)) s := ⟨_, rfl⟩
      rw [← hx] at b0 hb1
      rw [← HAL.out] at hb2
      have hle : ∀ W, Calls Try.prog 120 #[.int .i64 x, .int .i64 al] W fun e w' => e = .returned (.bool (betterB x al)) ∧ w' = W := fun W => lessP_any x al W
      have hw1 : IntKind.i64.wrap (x - al) = x - al := wrap_in _ (by omega) (by omega)
      have hM1 := hM.set (x := 0) hlt
      have a1 := World.cell?_setCell_same wr ⟨gc, s, none⟩ (.int .i64 0) a0'
      have hfz1 := hM1.ah.frz s
      cases hbt : betterB x al with
      | false =>
        have HREL : Hid (EL w (wr.setCell ⟨gc, s, none⟩ (.int .i64 0)) fn s0 (.slice (some ⟨fb, fo, none⟩) fn fc) (.slice aa m ac) gc w4.heap.size g1 c1 ba m bc gk (movD f (toD f)) (ahD (toD f) (toD (backF f)) al (s + 1)) (toD (backF f))) := by rw [ahD_succ, ← hx, hbt, if_neg Bool.false_ne_true]; exact hM1
        rw [hbt] at hle
        clear hM hM1 hx hbt
        go_wp2_with (go_at_call 120; refine (hle _).mono ?_; rintro e w2 ⟨rfl, hw2⟩; obtain rfl := hw2.symm)
        go_roundw
        case rel => exact ⟨s + 1, by omega, by go_num, HREL.out⟩
        case measure => simp [intOf]; omega
      | true =>
        have HREL : Hid (EL w ((wr.setCell ⟨gc, s, none⟩ (.int .i64 0)).setCell ⟨gc, s, none⟩ (.int .i64 (x - al))) fn s0 (.slice (some ⟨fb, fo, none⟩) fn fc) (.slice aa m ac) gc w4.heap.size g1 c1 ba m bc gk (movD f (toD f)) (ahD (toD f) (toD (backF f)) al (s + 1)) (toD (backF f))) := by
          have h := hM1.set (x := x - al) hlt
          rw [List.set_set] at h
          rw [ahD_succ, ← hx, hbt, if_pos rfl]
          exact h
        rw [hbt] at hle
        clear hM hM1 hx hbt
        go_wp2_with (go_at_call 120; refine (hle _).mono ?_; rintro e w2 ⟨rfl, hw2⟩; obtain rfl := hw2.symm)
        go_roundw
        case rel => exact ⟨s + 1, by omega, by go_num, HREL.out⟩
        case measure => simp [intOf]; omega
    · obtain rfl : fn = s := by omega
      have hsl : ¬ (fn : Int) < fn := by omega
      obtain ⟨q0, q1, q2, q3⟩ := hM.cg
      have hlen2 : (ahD (toD f) (toD (backF f)) al fn).length = fn := by rw [ahD_len, hclen]
      have hmo := moved_ok (movD f (toD f)) fn s0 m (ahD (toD f) (toD (backF f)) al fn) (.slice (some ⟨g1, 0, none⟩) fn c1) (.slice ba m bc) (.slice (some ⟨gc, 0, none⟩) fn cc) wr HOK.out.st HOK.out.sta hn1 (by omega) ((movF_len _ _ _).trans HOK.out.len) hlen2 hM.arr.len (by have := HL.out; omega) (fun a h => by obtain ⟨b, hb, rfl⟩ := List.mem_map.1 h; exact ⟨(HOK.out.arcs b hb).1, (HOK.out.arcs b hb).2.1⟩) (movF_bounds HOK.out.fin hcb _) (fun a h => by obtain ⟨b, hb, rfl⟩ := List.mem_map.1 h; have := HG.out b hb; omega) (fun v => by
        by_cases hv : v < fn
        · rw [ahD_at _ _ _ _ (by omega), if_pos hv]
          have h1 := hkb v
          have h2 := hcb s0
          rw [← HAL.out] at h2
          split <;> omega
        · have : gI (ahD (toD f) (toD (backF f)) al fn) v = -1 := by unfold gI; simp [List.getD, show (ahD (toD f) (toD (backF f)) al fn).length ≤ v by omega]
          omega) (hM.nums.slice c1 (by unfold maxLen; omega)) (hM.arr.slice bc) (hM.ah.slice cc (by unfold maxLen; omega))
      have HE : Hid (movD (movD f (toD f)) (ahD (toD f) (toD (backF f)) al fn) = earlyD f) := by
        show movD (movD f (toD f)) (ahD (toD f) (toD (backF f)) al fn) = movD (movD f (toD f)) (ahD (toD f) (toD (backF f)) (gI (toD f) f.start.toNat) f.states.toNat)
        rw [HOK.out.sta, HOK.out.st, Int.toNat_natCast, Int.toNat_natCast, ← HAL.out]
      have hbw := hM.rw.bel
      have hres := hM.res
      clear hM
      go_wp2_with (go_at_call 160; refine hmo.mono ?_; rintro e w9 ⟨g9, c9, ba9, bc9, rfl, hn9, hg9, ha9, hb9⟩; clear hmo; have hz9 := heap_bel hb9 hres; obtain ⟨z0, z1, z2, z3, y0, y1, y2, y3⟩ := zfacts hz9; obtain ⟨r0, r1, r2, r3⟩ := set4_cells z0 z1 z2 z3 (fn : Int) (s0 : Int) (.slice (some ⟨g9, 0, none⟩) fn c9) (.slice ba9 m bc9))
      have hzl := heap_lt hres
      have hne : g9 ≠ w.heap.size + 1 := by omega
      rw [HE.out] at hn9 ha9
      have hszw := hbw.size
      exact bodyPost_ret (v := .agg #[.int .i64 (fn : Int), .int .i64 (s0 : Int), .slice (some ⟨g9, 0, none⟩) fn c9, .slice ba9 m bc9]) (by simp [results, Try.results129, go_sem, *]) rfl ⟨g9, c9, ba9, bc9, rfl, (((hn9.other hne).other hne).other hne).other hne, by omega, ((((ha9.set hzl).set hzl).set hzl).set hzl).mono hszw, bel_set4 (bel_on hbw hb9) (by omega) _ _ _ _⟩
end Go.Proofs.Yteehgcbjmdideaa
