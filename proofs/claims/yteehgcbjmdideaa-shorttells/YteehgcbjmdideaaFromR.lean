/- 'FromOf' of the document's answer. -/
import Derived.Test.YteehgcbjmdideaaShortP
namespace Go.Proofs.Yteehgcbjmdideaa
open Go.RowKit
attribute [local go_sem ↓] Go.wp_at_zero Go.wp_at_succ

theorem relAll_take (L : List Edg) (c : List Int) (j : Nat) (e : Edg) (hj : L[j]? = some e) : relAll (L.take (j + 1)) c = relE (relAll (L.take j) c) e := by
  rw [List.take_add_one, hj]
  simp [relAll]

theorem Inv.rel {E : List Edg} {b c y : List Int} (h : Inv E b c y) (hb200 : b.length ≤ 200) {e : Edg} (he : e ∈ E) (hv : e.v < b.length) (hw0 : 0 ≤ e.w) (hw1 : e.w ≤ 1000000000) : ∃ y', Inv E b (relE c e) y' := by
  obtain ⟨j, hj⟩ := List.getElem?_of_mem he
  rw [← progE_eq c e h.lo]
  unfold progE
  split
  · rename_i hbt
    exact ⟨_, (h.step (by omega) hj hv hw0 hw1 hbt).1⟩
  · exact ⟨y, h⟩

/-- the world of the rounds: block H the transducer, G the prices -/
structure FW (w wr : World) (N G : Nat) (s0 : Int) (fin arcs : Value) (E : List Edg) (b c : List Int) : Prop where
  cf : CellsF wr w.heap.size (N : Int) s0 fin arcs
  row : NumsAt wr G N c
  ge : w.heap.size + 1 ≤ G
  bel : Below w.heap.size w wr
  inv : ∃ y, Inv E b c y

theorem FW.below {w wr wx : World} {N G : Nat} {s0 : Int} {fin arcs : Value} {E : List Edg} {b c : List Int} (h : FW w wr N G s0 fin arcs E b c) (hb : Below wr.heap.size wr wx) : FW w wx N G s0 fin arcs E b c :=
  ⟨h.cf.below hb, h.row.below hb, h.ge, bel_on h.bel hb, h.inv⟩

theorem CellsF.set {w : World} {B k i : Nat} {st sta : Int} {fin arcs v : Value} (h : CellsF w B st sta fin arcs) (hk : B ≠ k) : CellsF (w.setCell ⟨k, i, none⟩ v) B st sta fin arcs :=
  ⟨(set_far hk).trans h.1, (set_far hk).trans h.2.1, (set_far hk).trans h.2.2.1, (set_far hk).trans h.2.2.2⟩

theorem FW.set {w wr : World} {N G : Nat} {s0 : Int} {fin arcs : Value} {E : List Edg} {b c : List Int} (h : FW w wr N G s0 fin arcs E b c) (i : Nat) (x : Int) (hi : i < N) (hy : ∃ y, Inv E b (c.set i x) y) : FW w (wr.setCell ⟨G, i, none⟩ (.int .i64 x)) N G s0 fin arcs E b (c.set i x) :=
  ⟨h.cf.set (by have := h.ge; omega), h.row.set i x hi, h.ge, h.bel.setCell (p := ⟨G, i, none⟩) (by have := h.ge; show w.heap.size ≤ G; omega) _, hy⟩

set_option maxHeartbeats 1000000 in
set_option maxRecDepth 100000 in
theorem fromOf_ok (f : FstD) (N s0 : Nat) (fin : Value) (aa : Option Addr) (m ac : Nat) (w : World) (hok : OkF f N s0) (ha : ASlice w (.slice aa m ac) f.arcs) (hal : f.arcs.length = m) :
    Calls Try.prog 39 #[.agg #[.int .i64 (N : Int), .int .i64 (s0 : Int), fin, .slice aa m ac]] w fun e w' =>
      ∃ G cap, e = .returned (.slice (some ⟨G, 0, none⟩) N cap) ∧ NumsAt w' G N (fromD f) ∧ w.heap.size ≤ G ∧ Below w.heap.size w w' := by
  have HOK : Hid (OkF f N s0) := hok
  have hn1 := hok.n1
  have hn2 := hok.n2
  have hm : m ≤ 3000 := by have := hok.many; omega
  have HAL : Hid (f.arcs.length = m) := hal
  clear hok
  have hbx := bel_up (bel_self w) (.cells #[.int .i64 (N : Int), .int .i64 (s0 : Int), fin, .slice aa m ac] 25)
  have hcf := cellsF_new w (N : Int) (s0 : Int) fin (.slice aa m ac) 25
  go_enter Try.func39, Try.ntmps39
  go_wp2_with (first | (go_at_call 53; refine (begunRef_any N (s0 : Int) fin (.slice aa m ac) _ hn2).mono ?_; rintro e w1 ⟨v, rfl, hown, hb1⟩; obtain ⟨G, cap, rfl⟩ := Go.Joins.ownsRow_form hown (by omega)))
  have hFW : FW w w1 N G s0 fin (.slice aa m ac) (edF f) (begL (s0 : Int) N) (begL (s0 : Int) N) := by
    obtain ⟨r1, r2⟩ := NumsAt.of_row hown
    exact ⟨hcf.below hb1, r1, by simp at r2; omega, bel_on hbx hb1, _, by have := Inv.start (E := edF f) HOK.out.bF.1 HOK.out.bF.2; exact this⟩
  clear hown hcf hb1 hbx hal
  have HBL : Hid ((begL (s0 : Int) N).length = N) := begL_len _ _
  go_loopw [4] (fun i wr => ∃ r : Nat, r ≤ N ∧ i = .int .i64 r ∧ FW w wr N G s0 fin (.slice aa m ac) (edF f) (begL (s0 : Int) N) (rounds (edF f) (begL (s0 : Int) N) r)) (fun i _ => N - (intOf i).toNat)
  case atStart => exact ⟨0, Nat.zero_le _, rfl, hFW⟩
  case round =>
    clear hFW
    obtain ⟨r, hr, rfl, hFW⟩ := hrel
    by_cases hlt : r < N
    · obtain ⟨q0, q1, q2, q3⟩ := hFW.cf
      have hri : (r : Int) < N := by omega
      go_wp2
      clear q0 q1 q2 q3
      go_loopw [5] (fun i wr => ∃ j : Nat, j ≤ m ∧ i = .int .i64 j ∧ FW w wr N G s0 fin (.slice aa m ac) (edF f) (begL (s0 : Int) N) (relAll ((edF f).take j) (rounds (edF f) (begL (s0 : Int) N) r))) (fun i _ => m - (intOf i).toNat)
      case atStart => exact ⟨0, Nat.zero_le _, rfl, hFW⟩
      case round =>
        clear hFW
        obtain ⟨j, hj, rfl, hFW⟩ := hrel
        obtain ⟨c, hcd⟩ : ∃ c, c = relAll ((edF f).take j) (rounds (edF f) (begL (s0 : Int) N) r) := ⟨_, rfl⟩
        rw [← hcd] at hFW
        have HCD : Hid (c = relAll ((edF f).take j) (rounds (edF f) (begL (s0 : Int) N) r)) := hcd
        clear hcd
        obtain ⟨q0, q1, q2, q3⟩ := hFW.cf
        by_cases hlj : j < m
        · obtain ⟨ab, aoff, rfl, hx⟩ := (ha.below hFW.bel).some (by omega)
          obtain ⟨a, hak⟩ : ∃ a, a = f.arcs.getD j a0 := ⟨_, rfl⟩
          have hjl : j < f.arcs.length := by have := HAL.out; omega
          have hmem : a ∈ f.arcs := by rw [hak]; simp [List.getD, hjl]
          obtain ⟨⟨p1, p2⟩, ⟨p3, p4⟩, p5, p6⟩ := HOK.out.arcs a hmem
          obtain ⟨s, hs⟩ : ∃ s : Nat, a.src = s := ⟨a.src.toNat, by omega⟩
          obtain ⟨t, ht⟩ : ∃ t : Nat, a.dst = t := ⟨a.dst.toNat, by omega⟩
          have hsN : s < N := by omega
          have htN : t < N := by omega
          have HEJ : Hid ((edF f)[j]? = some ⟨s, t, a.wt⟩) := by
            show (edF f)[j]? = some ⟨s, t, a.wt⟩
            have e1 : f.arcs[j]? = some a := by rw [hak]; simp [List.getD, hjl]
            unfold edF
            rw [List.getElem?_map, e1]
            simp [edgOf, hs, ht]
          have c0 := hx.c0 j hlj
          have c1 := hx.c1 j hlj
          have c2 := hx.c2 j hlj
          have c3 := hx.c3 j hlj
          have c4 := hx.c4 j hlj
          rw [← hak] at c0 c1 c2 c3 c4
          rw [hs] at c0
          rw [ht] at c3
          have hji : (j : Int) < m := by omega
          clear hak hmem hjl hx hs ht p1 p2 p3 p4
          go_wp2
          have sN0 := hsN
          have tN0 := htN
          have hsi : (s : Int) < N := by omega
          have hti : (t : Int) < N := by omega
          have hFd := hFW.below (bel_up (bel_self wr) (.cells #[.int .i64 s, .int .i64 a.inp, .int .i64 a.out, .int .i64 t, .int .i64 a.wt] 63)).drew
          obtain ⟨Wd, hWd⟩ : ∃ Wd, Wd = (wr.alloc (.cells #[.int .i64 s, .int .i64 a.inp, .int .i64 a.out, .int .i64 t, .int .i64 a.wt] 63)).drew := ⟨_, rfl⟩
          have x0 : Wd.cell? ⟨wr.heap.size, 0, none⟩ = some (.int .i64 s) := by rw [hWd]; exact drew_cell (new_cell _ _ _ _ 0 _ rfl rfl)
          have x3 : Wd.cell? ⟨wr.heap.size, 3, none⟩ = some (.int .i64 t) := by rw [hWd]; exact drew_cell (new_cell _ _ _ _ 3 _ rfl rfl)
          have x4 : Wd.cell? ⟨wr.heap.size, 4, none⟩ = some (.int .i64 a.wt) := by rw [hWd]; exact drew_cell (new_cell _ _ _ _ 4 _ rfl rfl)
          rw [← hWd] at hFd
          have y0 := hFd.row.cell s sN0
          have y1 := hFd.row.cell t tN0
          have yz := hFd.row.frz t
          obtain ⟨yy, hinv⟩ := hFd.inv
          have hlo := hinv.lo s
          have hhi := hinv.top (by rw [HBL.out]; exact hn2) s
          have HREL := hinv.rel (by rw [HBL.out]; exact hn2) (List.mem_of_getElem? HEJ.out) (by rw [HBL.out]; exact tN0) p5 p6
          have HSET : Hid (relE c ⟨s, t, a.wt⟩ = c.set t (lessC (gI c t) (plusC (gI c s) a.wt))) := (rfl : relE c ⟨s, t, a.wt⟩ = _)
          clear hinv q0 q1 q2 q3 c0 c1 c2 c3 c4
          have hS0 : (fun wx : World => wx.cell? ⟨wr.heap.size, 0, none⟩ = some (.int .i64 s) ∧ wx.cell? ⟨wr.heap.size, 3, none⟩ = some (.int .i64 t) ∧ wx.cell? ⟨wr.heap.size, 4, none⟩ = some (.int .i64 a.wt) ∧ wx.cell? ⟨G, s, none⟩ = some (.int .i64 (gI c s)) ∧ wx.cell? ⟨G, t, none⟩ = some (.int .i64 (gI c t))) Wd := ⟨x0, x3, x4, y0, y1⟩
          refine wp_region_noPanic ?_
          refine wp_region_U (fun wx => wx.cell? ⟨wr.heap.size, 0, none⟩ = some (.int .i64 s) ∧ wx.cell? ⟨wr.heap.size, 3, none⟩ = some (.int .i64 t) ∧ wx.cell? ⟨wr.heap.size, 4, none⟩ = some (.int .i64 a.wt) ∧ wx.cell? ⟨G, s, none⟩ = some (.int .i64 (gI c s)) ∧ wx.cell? ⟨G, t, none⟩ = some (.int .i64 (gI c t))) 18 (by kernel_rfl) (by rw [← hWd]; exact hS0) (fun _ => ?_)
          rw [← hWd]
          clear hWd
          refine wpAnyU_take (i := 0) (v := .slice (some ⟨G, 0, none⟩) N cap) rfl (by kernel_rfl) (by kernel_rfl) (by kernel_rfl) (by kernel_rfl) (fun _ _ _ h => h) (Or.inl ⟨by rfl, fun wl hSw => ?_⟩) hS0 ?_
          · (try dsimp only at hSw); go_simp
          refine wpAnyU_take (i := 1) (v := .pointer (some ⟨wr.heap.size, 3, none⟩)) rfl (by kernel_rfl) (by kernel_rfl) (by kernel_rfl) (by kernel_rfl) (fun _ _ _ h => h) (Or.inl ⟨by rfl, fun wl hSw => ?_⟩) hS0 ?_
          · (try dsimp only at hSw); go_simp
          refine wpAnyU_take (i := 2) (v := .int .i64 t) rfl (by kernel_rfl) (by kernel_rfl) (by kernel_rfl) (by kernel_rfl) (fun _ _ _ h => h) (Or.inl ⟨by rfl, fun wl hSw => ?_⟩) hS0 ?_
          · (try dsimp only at hSw); go_simp
          refine wpAnyU_take (i := 3) (v := .slice (some ⟨G, 0, none⟩) N cap) rfl (by kernel_rfl) (by kernel_rfl) (by kernel_rfl) (by kernel_rfl) (fun _ _ _ h => h) (Or.inl ⟨by rfl, fun wl hSw => ?_⟩) hS0 ?_
          · (try dsimp only at hSw); go_simp
          refine wpAnyU_take (i := 4) (v := .pointer (some ⟨wr.heap.size, 3, none⟩)) rfl (by kernel_rfl) (by kernel_rfl) (by kernel_rfl) (by kernel_rfl) (fun _ _ _ h => h) (Or.inl ⟨by rfl, fun wl hSw => ?_⟩) hS0 ?_
          · (try dsimp only at hSw); go_simp
          refine wpAnyU_take (i := 5) (v := .int .i64 t) rfl (by kernel_rfl) (by kernel_rfl) (by kernel_rfl) (by kernel_rfl) (fun _ _ _ h => h) (Or.inl ⟨by rfl, fun wl hSw => ?_⟩) hS0 ?_
          · (try dsimp only at hSw); go_simp
          refine wpAnyU_take (i := 6) (v := .pointer (some ⟨G, t, none⟩)) rfl (by kernel_rfl) (by kernel_rfl) (by kernel_rfl) (by kernel_rfl) (fun _ _ _ h => h) (Or.inl ⟨by rfl, fun wl hSw => ?_⟩) hS0 ?_
          · (try dsimp only at hSw); go_simp
          refine wpAnyU_take (i := 7) (v := .int .i64 (gI c t)) rfl (by kernel_rfl) (by kernel_rfl) (by kernel_rfl) (by kernel_rfl) (fun _ _ _ h => h) (Or.inl ⟨by rfl, fun wl hSw => ?_⟩) hS0 ?_
          · (try dsimp only at hSw); go_simp
          refine wpAnyU_take (i := 8) (v := .slice (some ⟨G, 0, none⟩) N cap) rfl (by kernel_rfl) (by kernel_rfl) (by kernel_rfl) (by kernel_rfl) (fun _ _ _ h => h) (Or.inl ⟨by rfl, fun wl hSw => ?_⟩) hS0 ?_
          · (try dsimp only at hSw); go_simp
          refine wpAnyU_take (i := 9) (v := .pointer (some ⟨wr.heap.size, 0, none⟩)) rfl (by kernel_rfl) (by kernel_rfl) (by kernel_rfl) (by kernel_rfl) (fun _ _ _ h => h) (Or.inl ⟨by rfl, fun wl hSw => ?_⟩) hS0 ?_
          · (try dsimp only at hSw); go_simp
          refine wpAnyU_take (i := 10) (v := .int .i64 s) rfl (by kernel_rfl) (by kernel_rfl) (by kernel_rfl) (by kernel_rfl) (fun _ _ _ h => h) (Or.inl ⟨by rfl, fun wl hSw => ?_⟩) hS0 ?_
          · (try dsimp only at hSw); go_simp
          refine wpAnyU_take (i := 11) (v := .pointer (some ⟨G, s, none⟩)) rfl (by kernel_rfl) (by kernel_rfl) (by kernel_rfl) (by kernel_rfl) (fun _ _ _ h => h) (Or.inl ⟨by rfl, fun wl hSw => ?_⟩) hS0 ?_
          · (try dsimp only at hSw); go_simp
          refine wpAnyU_take (i := 12) (v := .int .i64 (gI c s)) rfl (by kernel_rfl) (by kernel_rfl) (by kernel_rfl) (by kernel_rfl) (fun _ _ _ h => h) (Or.inl ⟨by rfl, fun wl hSw => ?_⟩) hS0 ?_
          · (try dsimp only at hSw); go_simp
          refine wpAnyU_take (i := 13) (v := .pointer (some ⟨wr.heap.size, 4, none⟩)) rfl (by kernel_rfl) (by kernel_rfl) (by kernel_rfl) (by kernel_rfl) (fun _ _ _ h => h) (Or.inl ⟨by rfl, fun wl hSw => ?_⟩) hS0 ?_
          · (try dsimp only at hSw); go_simp
          refine wpAnyU_take (i := 14) (v := .int .i64 a.wt) rfl (by kernel_rfl) (by kernel_rfl) (by kernel_rfl) (by kernel_rfl) (fun _ _ _ h => h) (Or.inl ⟨by rfl, fun wl hSw => ?_⟩) hS0 ?_
          · (try dsimp only at hSw); go_simp
          refine wpAnyU_one (i := 15) rfl (by kernel_rfl) (fun K hK => ?_)
          go_simp
          refine (plusRef_any (gI c s) a.wt _ (by omega) (by omega)).mono ?_
          rintro e wq ⟨rfl, rfl⟩
          refine hK.out _ _ ⟨fun _ => hS0, ?_⟩
          clear hK K
          refine wpAnyU_one (i := 16) rfl (by kernel_rfl) (fun K hK => ?_)
          go_simp
          refine (lessRef_any (gI c t) (plusC (gI c s) a.wt) _).mono ?_
          rintro e wq ⟨rfl, rfl⟩
          refine hK.out _ _ ⟨fun _ => hS0, ?_⟩
          clear hK K
          refine wpAnyU_take (i := 17) (v := .pointer (some ⟨G, t, none⟩)) rfl (by kernel_rfl) (by kernel_rfl) (by kernel_rfl) (by kernel_rfl) (fun _ _ _ h => h) (Or.inl ⟨by rfl, fun wl hSw => ?_⟩) hS0 ?_
          · (try dsimp only at hSw); go_simp
          refine wpAnyU_one (i := 18) rfl (by kernel_rfl) (fun K hK => ?_)
          go_simp
          refine hK.out _ _ ⟨fun h => absurd rfl h, ?_⟩
          clear hK K
          refine wpAnyU_done (by kernel_rfl) ?_ _
          refine NoPanic.normal ?_
          go_wp2
          go_roundw
          case rel =>
            refine ⟨j + 1, by omega, by go_num, ?_⟩
            rw [relAll_take _ _ j _ HEJ.out, ← HCD.out, HSET.out]
            exact hFd.set t _ htN (by rw [← HSET.out]; exact HREL)
          case measure => simp [intOf]; omega
        · have HFW : Hid (FW w wr N G s0 fin (.slice aa m ac) (edF f) (begL (s0 : Int) N) (rounds (edF f) (begL (s0 : Int) N) (r + 1))) := by
            show FW w wr N G s0 fin (.slice aa m ac) (edF f) (begL (s0 : Int) N) (rounds (edF f) (begL (s0 : Int) N) (r + 1))
            have e : rounds (edF f) (begL (s0 : Int) N) (r + 1) = c := by
              rw [HCD.out, List.take_of_length_le (by have := HAL.out; simp [edF]; omega)]
              rfl
            rw [e]; exact hFW
          go_wp2
          go_roundw
          case rel => exact ⟨r + 1, by omega, by go_num, HFW.out⟩
          case measure => simp [intOf]; omega
    · obtain ⟨q0, q1, q2, q3⟩ := hFW.cf
      have HFD : Hid (rounds (edF f) (begL (s0 : Int) N) r = fromD f) := by
        have e : r = N := by omega
        show rounds (edF f) (begL (s0 : Int) N) r = fromD f
        unfold fromD
        rw [HOK.out.st, HOK.out.sta, Int.toNat_natCast, e]
      go_wp2
      go_ret
      exact ⟨G, cap, rfl, by rw [← HFD.out]; exact hFW.row, by have := hFW.ge; omega, hFW.bel⟩

end Go.Proofs.Yteehgcbjmdideaa
