/- 'Len', 'Less', 'Swap' of the queue. -/
import Derived.Test.YteehgcbjmdideabQM03
import Derived.Deep.RegionHeld3
set_option maxRecDepth 100000
namespace Go.Proofs.Yteehgcbjmdideab
open Go.RowKit
attribute [local go_sem ↓] Go.wp_at_zero Go.wp_at_succ
set_option maxHeartbeats 400000 in
theorem qLen_any (a : Option Addr) (n c : Nat) (w : World) :
  Calls Try.prog 99 #[.slice a n c] w fun e w' => e = .returned (.int .i64 n) ∧ w' = w := by
 go_enter Try.func99, Try.ntmps99
 go_wp2
 go_ret
 exact ⟨rfl, rfl⟩
set_option maxHeartbeats 1000000 in
theorem qLess_any (i j g n cap : Nat) (L : List PlD) (w : World) (h : PlsAt w g n L) (hi : i < n) (hj : j < n) (r : Bool) (hr : r = decide ((L.getD i p0).cost < (L.getD j p0).cost)) :
  Calls Try.prog 134 #[.slice (some ⟨g, 0, none⟩) n cap, .int .i64 i, .int .i64 j] w fun e w' => e = .returned (.bool r) ∧ Below w.heap.size w w' := by
 have c0 := h.cell i 3 hi (by decide)
 have c1 := h.cell j 3 hj (by decide)
 have e0 : (plCells (L.getD i p0))[3]? = some (.int .i64 (L.getD i p0).cost) := rfl
 have e1 : (plCells (L.getD j p0))[3]? = some (.int .i64 (L.getD j p0).cost) := rfl
 rw [e0] at c0
 rw [e1] at c1
 have hii : (i : Int) < n := by omega
 have hji : (j : Int) < n := by omega
 have HR : Hid (r = decide ((L.getD i p0).cost < (L.getD j p0).cost)) := hr
 clear e0 e1 h hr
 generalize (L.getD i p0).cost = x at *
 generalize (L.getD j p0).cost = y at *
 go_enter Try.func134, Try.ntmps134
 go_wp2
 go_region_held3 (fun wx => wx.cell? ⟨g, i * 4 + 3, none⟩ = some (.int .i64 x) ∧ wx.cell? ⟨g, j * 4 + 3, none⟩ = some (.int .i64 y)) (exact ⟨drew_cell c0, drew_cell c1⟩) (fail)
 go_wp2
 go_ret
 exact ⟨ret_bool HR.out.symm, (bel_self w).drew⟩
theorem PlsAt.four {w : World} {g n : Nat} {L : List PlD} (h : PlsAt w g n L) (i : Nat) (hi : i < n) (p : PlD) (hp : p = L.getD i p0) : w.cell? ⟨g, i * 4, none⟩ = some (.int .i64 p.st) ∧ w.cell? ⟨g, i * 4 + 1, none⟩ = some (.int .i64 p.rd) ∧ w.cell? ⟨g, i * 4 + 2, none⟩ = some (.int .i64 p.wt) ∧ w.cell? ⟨g, i * 4 + 3, none⟩ = some (.int .i64 p.cost) := by
 subst hp
 exact ⟨h.cell i 0 hi (by decide), h.cell i 1 hi (by decide), h.cell i 2 hi (by decide), h.cell i 3 hi (by decide)⟩
theorem PlsAt.below {w w' : World} {g n : Nat} {L : List PlD} (h : PlsAt w g n L) (hb : Below w.heap.size w w') (hg : g < w.heap.size) : PlsAt w' g n L :=
 ⟨h.len, fun i j hi hj => (hb.cell (p := ⟨g, i * 4 + j, none⟩) hg).trans (h.cell i j hi hj), fun i => (hb.frozen (p := ⟨g, i, none⟩) hg).trans (h.frz i)⟩
theorem row_lt {w : World} {B e g n cap : Nat} {xs : List Value} (h : w.ownsRow B e 4 (.slice (some ⟨g, 0, none⟩) n cap) n xs) : g < w.heap.size := ownsRow_lt0 h g rfl
set_option maxHeartbeats 1000000 in
theorem qSwap_any (i j g n cap base : Nat) (L : List PlD) (w : World) (h : w.ownsRow base 123 4 (.slice (some ⟨g, 0, none⟩) n cap) n (plsV L)) (hi : i < n) (hj : j < n) (hij : i ≠ j) :
  Calls Try.prog 135 #[.slice (some ⟨g, 0, none⟩) n cap, .int .i64 i, .int .i64 j] w fun e w' => e = .returned (.tuple #[]) ∧ w' = setPl (setPl w.drew g (i * 4) (L.getD j p0)) g (j * 4) (L.getD i p0) := by
 have hP := PlsAt.of h
 obtain ⟨pi, hpi⟩ : ∃ p, p = L.getD i p0 := ⟨_, rfl⟩
 obtain ⟨pj, hpj⟩ : ∃ p, p = L.getD j p0 := ⟨_, rfl⟩
 obtain ⟨a0', a1, a2, a3⟩ := (hP.below (bel_self w).drew (row_lt h)).four i hi pi hpi
 obtain ⟨b0, b1, b2, b3⟩ := (hP.below (bel_self w).drew (row_lt h)).four j hj pj hpj
 have hfr : ∀ k, w.drew.frozen? ⟨g, k, none⟩ = false := fun k => (hP.below (bel_self w).drew (row_lt h)).frz k
 rw [← hpi, ← hpj]
 have hii : (i : Int) < n := by omega
 have hji : (j : Int) < n := by omega
 clear hpi hpj hP h
 go_enter Try.func135, Try.ntmps135
 go_wp2
 have hS0 : (fun wx : World => wx.cell? ⟨g, i * 4, none⟩ = some (.int .i64 pi.st) ∧ wx.cell? ⟨g, i * 4 + 1, none⟩ = some (.int .i64 pi.rd) ∧ wx.cell? ⟨g, i * 4 + 2, none⟩ = some (.int .i64 pi.wt) ∧ wx.cell? ⟨g, i * 4 + 3, none⟩ = some (.int .i64 pi.cost) ∧ wx.cell? ⟨g, j * 4, none⟩ = some (.int .i64 pj.st) ∧ wx.cell? ⟨g, j * 4 + 1, none⟩ = some (.int .i64 pj.rd) ∧ wx.cell? ⟨g, j * 4 + 2, none⟩ = some (.int .i64 pj.wt) ∧ wx.cell? ⟨g, j * 4 + 3, none⟩ = some (.int .i64 pj.cost)) w.drew := ⟨a0', a1, a2, a3, b0, b1, b2, b3⟩
 obtain ⟨Wd, hWd⟩ : ∃ Wd, Wd = w.drew := ⟨_, rfl⟩
 rw [← hWd] at hS0 hfr a0' a1 a2 a3 b0 b1 b2 b3
 have HW : Hid (Wd = w.drew) := hWd
 refine wp_region_noPanic ?_
 refine wp_region_F (fun wx => wx.cell? ⟨g, i * 4, none⟩ = some (.int .i64 pi.st) ∧ wx.cell? ⟨g, i * 4 + 1, none⟩ = some (.int .i64 pi.rd) ∧ wx.cell? ⟨g, i * 4 + 2, none⟩ = some (.int .i64 pi.wt) ∧ wx.cell? ⟨g, i * 4 + 3, none⟩ = some (.int .i64 pi.cost) ∧ wx.cell? ⟨g, j * 4, none⟩ = some (.int .i64 pj.st) ∧ wx.cell? ⟨g, j * 4 + 1, none⟩ = some (.int .i64 pj.rd) ∧ wx.cell? ⟨g, j * 4 + 2, none⟩ = some (.int .i64 pj.wt) ∧ wx.cell? ⟨g, j * 4 + 3, none⟩ = some (.int .i64 pj.cost)) [13, 15] (by kernel_rfl) (by rw [← hWd]; exact hS0) (fun _ => ?_)
 rw [← hWd]
 clear hWd
 refine wpAnyF_free (i := 0) (v := .slice (some ⟨g, 0, none⟩) n cap) rfl (by kernel_rfl) (by kernel_rfl) (by kernel_rfl) (by kernel_rfl) (fun _ _ _ h => h) (Or.inl ⟨by rfl, fun wl hSw => ?_⟩) hS0 ?_
 ·(try dsimp only at hSw); go_simp
 refine wpAnyF_free (i := 1) (v := .int .i64 i) rfl (by kernel_rfl) (by kernel_rfl) (by kernel_rfl) (by kernel_rfl) (fun _ _ _ h => h) (Or.inl ⟨by rfl, fun wl hSw => ?_⟩) hS0 ?_
 ·(try dsimp only at hSw); go_simp
 refine wpAnyF_free (i := 2) (v := .slice (some ⟨g, 0, none⟩) n cap) rfl (by kernel_rfl) (by kernel_rfl) (by kernel_rfl) (by kernel_rfl) (fun _ _ _ h => h) (Or.inl ⟨by rfl, fun wl hSw => ?_⟩) hS0 ?_
 ·(try dsimp only at hSw); go_simp
 refine wpAnyF_free (i := 3) (v := .int .i64 j) rfl (by kernel_rfl) (by kernel_rfl) (by kernel_rfl) (by kernel_rfl) (fun _ _ _ h => h) (Or.inl ⟨by rfl, fun wl hSw => ?_⟩) hS0 ?_
 ·(try dsimp only at hSw); go_simp
 refine wpAnyF_free (i := 4) (v := .slice (some ⟨g, 0, none⟩) n cap) rfl (by kernel_rfl) (by kernel_rfl) (by kernel_rfl) (by kernel_rfl) (fun _ _ _ h => h) (Or.inl ⟨by rfl, fun wl hSw => ?_⟩) hS0 ?_
 ·(try dsimp only at hSw); go_simp
 refine wpAnyF_free (i := 5) (v := .int .i64 j) rfl (by kernel_rfl) (by kernel_rfl) (by kernel_rfl) (by kernel_rfl) (fun _ _ _ h => h) (Or.inl ⟨by rfl, fun wl hSw => ?_⟩) hS0 ?_
 ·(try dsimp only at hSw); go_simp
 refine wpAnyF_free (i := 6) (v := .pointer (some ⟨g, j * 4, none⟩)) rfl (by kernel_rfl) (by kernel_rfl) (by kernel_rfl) (by kernel_rfl) (fun _ _ _ h => h) (Or.inl ⟨by rfl, fun wl hSw => ?_⟩) hS0 ?_
 ·(try dsimp only at hSw); go_simp
 refine wpAnyF_take (i := 7) (v := .agg #[.int .i64 pj.st, .int .i64 pj.rd, .int .i64 pj.wt, .int .i64 pj.cost]) rfl (by kernel_rfl) (by kernel_rfl) (by kernel_rfl) (by kernel_rfl) (fun _ _ _ h => h) (Or.inl ⟨by rfl, fun wl hSw => ?_⟩) hS0 ?_
 ·(try dsimp only at hSw); go_simp
 refine wpAnyF_free (i := 8) (v := .slice (some ⟨g, 0, none⟩) n cap) rfl (by kernel_rfl) (by kernel_rfl) (by kernel_rfl) (by kernel_rfl) (fun _ _ _ h => h) (Or.inl ⟨by rfl, fun wl hSw => ?_⟩) hS0 ?_
 ·(try dsimp only at hSw); go_simp
 refine wpAnyF_free (i := 9) (v := .int .i64 i) rfl (by kernel_rfl) (by kernel_rfl) (by kernel_rfl) (by kernel_rfl) (fun _ _ _ h => h) (Or.inl ⟨by rfl, fun wl hSw => ?_⟩) hS0 ?_
 ·(try dsimp only at hSw); go_simp
 refine wpAnyF_free (i := 10) (v := .pointer (some ⟨g, i * 4, none⟩)) rfl (by kernel_rfl) (by kernel_rfl) (by kernel_rfl) (by kernel_rfl) (fun _ _ _ h => h) (Or.inl ⟨by rfl, fun wl hSw => ?_⟩) hS0 ?_
 ·(try dsimp only at hSw); go_simp
 refine wpAnyF_take (i := 11) (v := .agg #[.int .i64 pi.st, .int .i64 pi.rd, .int .i64 pi.wt, .int .i64 pi.cost]) rfl (by kernel_rfl) (by kernel_rfl) (by kernel_rfl) (by kernel_rfl) (fun _ _ _ h => h) (Or.inl ⟨by rfl, fun wl hSw => ?_⟩) hS0 ?_
 ·(try dsimp only at hSw); go_simp
 refine wpAnyF_free (i := 12) (v := .pointer (some ⟨g, i * 4, none⟩)) rfl (by kernel_rfl) (by kernel_rfl) (by kernel_rfl) (by kernel_rfl) (fun _ _ _ h => h) (Or.inl ⟨by rfl, fun wl hSw => ?_⟩) hS0 ?_
 ·(try dsimp only at hSw); go_simp
 refine wpAnyF_one (i := 13) rfl (by kernel_rfl) (fun K hK => ?_)
 go_simp
 refine hK.out _ _ ⟨fun h => absurd h (unl_no (by kernel_rfl)), ?_⟩
 clear hK K
 refine wpAnyF_one (i := 14) rfl (by kernel_rfl) (fun K hK => ?_)
 go_simp
 refine hK.out _ _ ⟨fun h => absurd h (unl_no (by kernel_rfl)), ?_⟩
 clear hK K
 refine wpAnyF_one (i := 15) rfl (by kernel_rfl) (fun K hK => ?_)
 go_simp
 refine hK.out _ _ ⟨fun h => absurd h (unl_no (by kernel_rfl)), ?_⟩
 clear hK K
 refine wpAnyF_done (by kernel_rfl) ?_ _
 refine NoPanic.normal ?_
 go_wp2
 go_end0
 exact ⟨rfl, by rw [← HW.out]; rfl⟩
set_option maxHeartbeats 1000000 in
theorem qSwap_one (i g n cap base : Nat) (L : List PlD) (w : World) (h : w.ownsRow base 123 4 (.slice (some ⟨g, 0, none⟩) n cap) n (plsV L)) (hi : i < n) :
  Calls Try.prog 135 #[.slice (some ⟨g, 0, none⟩) n cap, .int .i64 i, .int .i64 i] w fun e w' => e = .returned (.tuple #[]) ∧ w' = setPl (setPl w.drew g (i * 4) (L.getD i p0)) g (i * 4) (L.getD i p0) := by
 have hP := PlsAt.of h
 obtain ⟨pi, hpi⟩ : ∃ p, p = L.getD i p0 := ⟨_, rfl⟩
 obtain ⟨a0', a1, a2, a3⟩ := (hP.below (bel_self w).drew (row_lt h)).four i hi pi hpi
 have hfr : ∀ k, w.drew.frozen? ⟨g, k, none⟩ = false := fun k => (hP.below (bel_self w).drew (row_lt h)).frz k
 rw [← hpi]
 have hii : (i : Int) < n := by omega
 clear hpi hP h
 go_enter Try.func135, Try.ntmps135
 go_wp2
 have hS0 : (fun wx : World => wx.cell? ⟨g, i * 4, none⟩ = some (.int .i64 pi.st) ∧ wx.cell? ⟨g, i * 4 + 1, none⟩ = some (.int .i64 pi.rd) ∧ wx.cell? ⟨g, i * 4 + 2, none⟩ = some (.int .i64 pi.wt) ∧ wx.cell? ⟨g, i * 4 + 3, none⟩ = some (.int .i64 pi.cost)) w.drew := ⟨a0', a1, a2, a3⟩
 obtain ⟨Wd, hWd⟩ : ∃ Wd, Wd = w.drew := ⟨_, rfl⟩
 rw [← hWd] at hS0 hfr a0' a1 a2 a3
 have HW : Hid (Wd = w.drew) := hWd
 refine wp_region_noPanic ?_
 refine wp_region_F (fun wx => wx.cell? ⟨g, i * 4, none⟩ = some (.int .i64 pi.st) ∧ wx.cell? ⟨g, i * 4 + 1, none⟩ = some (.int .i64 pi.rd) ∧ wx.cell? ⟨g, i * 4 + 2, none⟩ = some (.int .i64 pi.wt) ∧ wx.cell? ⟨g, i * 4 + 3, none⟩ = some (.int .i64 pi.cost)) [13, 15] (by kernel_rfl) (by rw [← hWd]; exact hS0) (fun _ => ?_)
 rw [← hWd]
 clear hWd
 refine wpAnyF_free (i := 0) (v := .slice (some ⟨g, 0, none⟩) n cap) rfl (by kernel_rfl) (by kernel_rfl) (by kernel_rfl) (by kernel_rfl) (fun _ _ _ h => h) (Or.inl ⟨by rfl, fun wl hSw => ?_⟩) hS0 ?_
 ·(try dsimp only at hSw); go_simp
 refine wpAnyF_free (i := 1) (v := .int .i64 i) rfl (by kernel_rfl) (by kernel_rfl) (by kernel_rfl) (by kernel_rfl) (fun _ _ _ h => h) (Or.inl ⟨by rfl, fun wl hSw => ?_⟩) hS0 ?_
 ·(try dsimp only at hSw); go_simp
 refine wpAnyF_free (i := 2) (v := .slice (some ⟨g, 0, none⟩) n cap) rfl (by kernel_rfl) (by kernel_rfl) (by kernel_rfl) (by kernel_rfl) (fun _ _ _ h => h) (Or.inl ⟨by rfl, fun wl hSw => ?_⟩) hS0 ?_
 ·(try dsimp only at hSw); go_simp
 refine wpAnyF_free (i := 3) (v := .int .i64 i) rfl (by kernel_rfl) (by kernel_rfl) (by kernel_rfl) (by kernel_rfl) (fun _ _ _ h => h) (Or.inl ⟨by rfl, fun wl hSw => ?_⟩) hS0 ?_
 ·(try dsimp only at hSw); go_simp
 refine wpAnyF_free (i := 4) (v := .slice (some ⟨g, 0, none⟩) n cap) rfl (by kernel_rfl) (by kernel_rfl) (by kernel_rfl) (by kernel_rfl) (fun _ _ _ h => h) (Or.inl ⟨by rfl, fun wl hSw => ?_⟩) hS0 ?_
 ·(try dsimp only at hSw); go_simp
 refine wpAnyF_free (i := 5) (v := .int .i64 i) rfl (by kernel_rfl) (by kernel_rfl) (by kernel_rfl) (by kernel_rfl) (fun _ _ _ h => h) (Or.inl ⟨by rfl, fun wl hSw => ?_⟩) hS0 ?_
 ·(try dsimp only at hSw); go_simp
 refine wpAnyF_free (i := 6) (v := .pointer (some ⟨g, i * 4, none⟩)) rfl (by kernel_rfl) (by kernel_rfl) (by kernel_rfl) (by kernel_rfl) (fun _ _ _ h => h) (Or.inl ⟨by rfl, fun wl hSw => ?_⟩) hS0 ?_
 ·(try dsimp only at hSw); go_simp
 refine wpAnyF_take (i := 7) (v := .agg #[.int .i64 pi.st, .int .i64 pi.rd, .int .i64 pi.wt, .int .i64 pi.cost]) rfl (by kernel_rfl) (by kernel_rfl) (by kernel_rfl) (by kernel_rfl) (fun _ _ _ h => h) (Or.inl ⟨by rfl, fun wl hSw => ?_⟩) hS0 ?_
 ·(try dsimp only at hSw); go_simp
 refine wpAnyF_free (i := 8) (v := .slice (some ⟨g, 0, none⟩) n cap) rfl (by kernel_rfl) (by kernel_rfl) (by kernel_rfl) (by kernel_rfl) (fun _ _ _ h => h) (Or.inl ⟨by rfl, fun wl hSw => ?_⟩) hS0 ?_
 ·(try dsimp only at hSw); go_simp
 refine wpAnyF_free (i := 9) (v := .int .i64 i) rfl (by kernel_rfl) (by kernel_rfl) (by kernel_rfl) (by kernel_rfl) (fun _ _ _ h => h) (Or.inl ⟨by rfl, fun wl hSw => ?_⟩) hS0 ?_
 ·(try dsimp only at hSw); go_simp
 refine wpAnyF_free (i := 10) (v := .pointer (some ⟨g, i * 4, none⟩)) rfl (by kernel_rfl) (by kernel_rfl) (by kernel_rfl) (by kernel_rfl) (fun _ _ _ h => h) (Or.inl ⟨by rfl, fun wl hSw => ?_⟩) hS0 ?_
 ·(try dsimp only at hSw); go_simp
 refine wpAnyF_take (i := 11) (v := .agg #[.int .i64 pi.st, .int .i64 pi.rd, .int .i64 pi.wt, .int .i64 pi.cost]) rfl (by kernel_rfl) (by kernel_rfl) (by kernel_rfl) (by kernel_rfl) (fun _ _ _ h => h) (Or.inl ⟨by rfl, fun wl hSw => ?_⟩) hS0 ?_
 ·(try dsimp only at hSw); go_simp
 refine wpAnyF_free (i := 12) (v := .pointer (some ⟨g, i * 4, none⟩)) rfl (by kernel_rfl) (by kernel_rfl) (by kernel_rfl) (by kernel_rfl) (fun _ _ _ h => h) (Or.inl ⟨by rfl, fun wl hSw => ?_⟩) hS0 ?_
 ·(try dsimp only at hSw); go_simp
 refine wpAnyF_one (i := 13) rfl (by kernel_rfl) (fun K hK => ?_)
 go_simp
 refine hK.out _ _ ⟨fun h => absurd h (unl_no (by kernel_rfl)), ?_⟩
 clear hK K
 refine wpAnyF_one (i := 14) rfl (by kernel_rfl) (fun K hK => ?_)
 go_simp
 refine hK.out _ _ ⟨fun h => absurd h (unl_no (by kernel_rfl)), ?_⟩
 clear hK K
 refine wpAnyF_one (i := 15) rfl (by kernel_rfl) (fun K hK => ?_)
 go_simp
 refine hK.out _ _ ⟨fun h => absurd h (unl_no (by kernel_rfl)), ?_⟩
 clear hK K
 refine wpAnyF_done (by kernel_rfl) ?_ _
 refine NoPanic.normal ?_
 go_wp2
 go_end0
 exact ⟨rfl, by rw [← HW.out]; rfl⟩
theorem qSwap (i j g n cap base : Nat) (L : List PlD) (w : World) (h : w.ownsRow base 123 4 (.slice (some ⟨g, 0, none⟩) n cap) n (plsV L)) (hi : i < n) (hj : j < n) :
  Calls Try.prog 135 #[.slice (some ⟨g, 0, none⟩) n cap, .int .i64 i, .int .i64 j] w fun e w' => e = .returned (.tuple #[]) ∧ w' = setPl (setPl w.drew g (i * 4) (L.getD j p0)) g (j * 4) (L.getD i p0) := by
 by_cases hij : i = j
 ·subst hij; exact qSwap_one i g n cap base L w h hi
 ·exact qSwap_any i j g n cap base L w h hi hj hij
theorem row_swap {w : World} {B e g n cap : Nat} {L : List PlD} (h : w.ownsRow B e 4 (.slice (some ⟨g, 0, none⟩) n cap) n (plsV L)) (i j : Nat) (hi : i < n) (hj : j < n) : (setPl (setPl w.drew g (i * 4) (L.getD j p0)) g (j * 4) (L.getD i p0)).ownsRow B e 4 (.slice (some ⟨g, 0, none⟩) n cap) n (plsV (swapL p0 L i j)) :=
 row_setPl (row_setPl (ownsRow_bel h (bel_self w).drew) i hi _) j hj _
theorem QAt.swap {base B g cap : Nat} {w : World} {L : List PlD} {n : Nat} (hn : L.length = n) (h : QAt base B w (.slice (some ⟨g, 0, none⟩) n cap) L) (i j : Nat) (hi : i < n) (hj : j < n) :
  QAt base B (setPl (setPl w.drew g (i * 4) (L.getD j p0)) g (j * 4) (L.getD i p0)) (.slice (some ⟨g, 0, none⟩) n cap) (swapL p0 L i j) ∧ QStep B w (.slice (some ⟨g, 0, none⟩) n cap) (setPl (setPl w.drew g (i * 4) (L.getD j p0)) g (j * 4) (L.getD i p0)) (.slice (some ⟨g, 0, none⟩) n cap) := by
 subst hn
 have hgB : g ≠ B := fun e => h.ne (by rw [← e]; rfl)
 have hst : QStep B w (.slice (some ⟨g, 0, none⟩) L.length cap) (setPl (setPl w.drew g (i * 4) (L.getD j p0)) g (j * 4) (L.getD i p0)) (.slice (some ⟨g, 0, none⟩) L.length cap) :=
  ((QStep.bel (cell_lt h.cell) (bel_self w).drew).trans (QStep.rowPl rfl hgB)).trans (QStep.rowPl rfl hgB)
 have hc : ∀ (W : World) (k : Nat) (p : PlD), (setPl W g k p).cell? ⟨B, 8, none⟩ = W.cell? ⟨B, 8, none⟩ := fun W k p => by
  unfold setPl
  rw [set_far (Ne.symm hgB), set_far (Ne.symm hgB), set_far (Ne.symm hgB), set_far (Ne.symm hgB)]
 refine ⟨⟨?_, ?_, ?_, h.ne, Nat.le_trans h.base_le hst.size⟩, hst⟩
 ·rw [hc, hc]; exact drew_cell h.cell
 ·exact (hst.frz 8).trans h.frz
 ·rw [swapL_len]; exact row_swap h.row i j hi hj
end Go.Proofs.Yteehgcbjmdideab
/- The queue's methods, called through the interface. -/
namespace Go.Proofs.Yteehgcbjmdideab
open Go.RowKit
attribute [local go_sem ↓] Go.wp_at_zero Go.wp_at_succ
theorem mth_push (a : Addr) (w : World) : (method 275 125 (.pointer (some a)) "Push").run Try.prog w = .ok (137, .pointer (some a)) w := by kernel_rfl
theorem mth_pop (a : Addr) (w : World) : (method 275 125 (.pointer (some a)) "Pop").run Try.prog w = .ok (136, .pointer (some a)) w := by kernel_rfl
theorem wrap_ok (t : TypeId) (a : Addr) (s : String) (P : Program) (w : World) : (Builtin.ssaWrapNilChk_ #[t] t #[.pointer (some a), strVal "", strVal s]).run P w = .ok (.pointer (some a)) w := rfl
theorem mth_val (name : String) (K : Nat) (hm : (Try.prog.info? 125).bind (fun i => (i.methods.find? (·.name == name)).map fun m => (m.func, m.path.toList)) = some (some (K, false), [])) (a : Addr) (v : Value) (w : World) (h : w.cell? a = some v) :
  (method 275 125 (.pointer (some a)) name).run Try.prog w = .ok (K, v) w := by
 cases hi : Try.prog.info? 125 with
 | none => rw [hi] at hm; cases hm
 | some i =>
  rw [hi] at hm
  cases hf : i.methods.find? (·.name == name) with
  | none => simp [hf] at hm
  | some m =>
   have h2 : m.func = some (K, false) ∧ m.path.toList = [] := by simpa [hf] using hm
   have h3 : m.path = #[] := by
    apply Array.ext'
    simpa using h2.2
   unfold method
   simp [typeInfo, hi, hf, h2.1, h3, follow, receiverAt, Place.get, wrap_ok, h, go_sem]
theorem mth_len (a : Addr) (v : Value) (w : World) (h : w.cell? a = some v) : (method 275 125 (.pointer (some a)) "Len").run Try.prog w = .ok (99, v) w := mth_val "Len" _ (by kernel_rfl) a v w h
theorem mth_less (a : Addr) (v : Value) (w : World) (h : w.cell? a = some v) : (method 275 125 (.pointer (some a)) "Less").run Try.prog w = .ok (134, v) w := mth_val "Less" _ (by kernel_rfl) a v w h
theorem mth_swap (a : Addr) (v : Value) (w : World) (h : w.cell? a = some v) : (method 275 125 (.pointer (some a)) "Swap").run Try.prog w = .ok (135, v) w := mth_val "Swap" _ (by kernel_rfl) a v w h
end Go.Proofs.Yteehgcbjmdideab
/- 'up' of container/heap, over the queue. -/
namespace Go.Proofs.Yteehgcbjmdideab
open Go.RowKit
attribute [local go_sem ↓] Go.wp_at_zero Go.wp_at_succ
theorem half (k : Nat) (hk : 0 < k) : ((k : Int) - 1).tdiv 2 = (((k - 1) / 2 : Nat) : Int) := by
 have e : (k : Int) - 1 = ((k - 1 : Nat) : Int) := by omega
 rw [e, show (2 : Int) = ((2 : Nat) : Int) from rfl, ← Int.ofNat_tdiv]
def QPerm (base B : Nat) (w : World) (v : Value) (L : List PlD) (n : Nat) (w' : World) : Prop :=
 ∃ L', L'.Perm L ∧ HeapL PlD.cost p0 L' n ∧ QAt base B w' v L' ∧ QStep B w v w' v
set_option maxHeartbeats 1000000 in
theorem up_any (B g n cap base j : Nat) (L : List PlD) (w : World) (hn : L.length = n) (hN : n ≤ 4000000000) (h : QAt base B w (.slice (some ⟨g, 0, none⟩) n cap) L) (hj : j < n) (hu : UpOk PlD.cost p0 L n j) :
  Calls Try.prog 117 #[.iface 125 (.pointer (some ⟨B, 8, none⟩)), .int .i64 j] w fun e w' => e = .returned (.tuple #[]) ∧ QPerm base B w (.slice (some ⟨g, 0, none⟩) n cap) L n w' := by
 go_enter Try.func117, Try.ntmps117
 go_wp2
 go_loopw [1] (fun i wr => ∃ (k : Nat) (L' : List PlD), k < n ∧ i = .int .i64 k ∧ L'.Perm L ∧ UpOk PlD.cost p0 L' n k ∧ QAt base B wr (.slice (some ⟨g, 0, none⟩) n cap) L' ∧ QStep B w (.slice (some ⟨g, 0, none⟩) n cap) wr (.slice (some ⟨g, 0, none⟩) n cap)) (fun i _ => (intOf i).toNat)
 case atStart => exact ⟨j, L, hj, rfl, List.Perm.refl _, hu, h, QStep.refl⟩
 case round =>
  obtain ⟨k, L', hk, rfl, hp, hU, hq, hs⟩ := hrel
  have HP : Hid (L'.Perm L) := hp
  have HU : Hid (UpOk PlD.cost p0 L' n k) := hU
  have HL : Hid (L'.length = n) := hp.length_eq.trans hn
  have hml := mth_less ⟨B, 8, none⟩ _ wr hq.cell
  clear hp hU hu hn
  by_cases h0 : k = 0
  ·subst h0
   go_wp2
   go_end0
   exact ⟨rfl, L', HP.out, HU.out.done (Or.inl rfl), hq, hs⟩
  ·obtain ⟨p, hpk⟩ : ∃ p, p = (k - 1) / 2 := ⟨_, rfl⟩
   have hh := half k (by omega)
   rw [← hpk] at hh
   have hpk2 : p < k := by omega
   have hpn : p < n := by omega
   have hne : ((p : Int) == (k : Int)) = false := by simpa using (by omega : ¬ (p : Int) = k)
   have hk1 : (1 : Int) ≤ k := by omega
   have HPK : Hid (p = (k - 1) / 2) := hpk
   have hrow := hq.row
   rw [HL.out] at hrow
   clear hpk h0
   by_cases hlt : (L'.getD k p0).cost < (L'.getD p p0).cost
   ·have HLT : Hid ((L'.getD k p0).cost < (L'.getD p p0).cost) := hlt
    have hless := qLess_any k p g n cap L' wr (PlsAt.of hrow) hk hpn true (by simpa using hlt)
    clear hlt
    go_wp2_with (first
     | (go_at_call 134; refine hless.mono ?_; rintro e w1 ⟨rfl, hb1⟩; have hms := mth_swap ⟨B, 8, none⟩ _ w1 (bel_c hb1 hq.cell))
     | (go_at_call 135; refine (qSwap p k g n cap base L' w1 (ownsRow_bel hrow hb1) hpn hk).mono ?_; rintro e w2 ⟨rfl, hw2⟩; obtain ⟨r1, r2⟩ := (hq.bel hb1).swap HL.out p k hpn hk; rw [← hw2] at r1 r2; clear hw2))
    have HSP : Hid ((swapL p0 L' p k).Perm L ∧ UpOk PlD.cost p0 (swapL p0 L' p k) n p) := by
     have hl := HL.out
     have h1 : (swapL p0 L' p k).Perm L' := swapL_perm (d := p0) L' p k (by omega) (by omega)
     have h2 := HU.out.step (by omega) hk (by omega) (by rw [← HPK.out]; exact HLT.out)
     rw [← HPK.out] at h2
     exact ⟨h1.trans HP.out, h2⟩
    go_roundw
    case rel => exact ⟨p, swapL p0 L' p k, hpn, rfl, HSP.out.1, HSP.out.2, r1, (hs.trans (QStep.bel (cell_lt hq.cell) hb1)).trans r2⟩
    case measure => simp [intOf]; omega
   ·have HLT : Hid (¬ (L'.getD k p0).cost < (L'.getD p p0).cost) := hlt
    have hless := qLess_any k p g n cap L' wr (PlsAt.of hrow) hk hpn false (by simpa using hlt)
    clear hlt
    go_wp2_with (go_at_call 134; refine hless.mono ?_; rintro e w1 ⟨rfl, hb1⟩)
    go_end0
    exact ⟨rfl, L', HP.out, HU.out.done (Or.inr (by rw [← HPK.out]; have := HLT.out; omega)), hq.bel hb1, hs.trans (QStep.bel (cell_lt hq.cell) hb1)⟩
end Go.Proofs.Yteehgcbjmdideab
/- 'down' of container/heap, over the queue. -/
namespace Go.Proofs.Yteehgcbjmdideab
open Go.RowKit
attribute [local go_sem ↓] Go.wp_at_zero Go.wp_at_succ
def QDown (base B : Nat) (w : World) (v : Value) (L : List PlD) (m : Nat) (w' : World) : Prop :=
 ∃ L', L'.Perm L ∧ HeapL PlD.cost p0 L' m ∧ L'.getD m p0 = L.getD m p0 ∧ QAt base B w' v L' ∧ QStep B w v w' v
set_option maxHeartbeats 2000000 in
theorem down_any (B g n cap base m : Nat) (L : List PlD) (w : World) (hn : L.length = n) (hN : n ≤ 4000000000) (hm : m < n) (h : QAt base B w (.slice (some ⟨g, 0, none⟩) n cap) L) (hd : DownOk PlD.cost p0 L m 0) :
  Calls Try.prog 112 #[.iface 125 (.pointer (some ⟨B, 8, none⟩)), .int .i64 0, .int .i64 m] w fun e w' => (∃ b, e = .returned (.bool b)) ∧ QDown base B w (.slice (some ⟨g, 0, none⟩) n cap) L m w' := by
 go_enter Try.func112, Try.ntmps112
 go_wp2
 go_loopw [7] (fun i wr => ∃ (k : Nat) (L' : List PlD), k < n ∧ i = .int .i64 k ∧ L'.Perm L ∧ DownOk PlD.cost p0 L' m k ∧ L'.getD m p0 = L.getD m p0 ∧ QAt base B wr (.slice (some ⟨g, 0, none⟩) n cap) L' ∧ QStep B w (.slice (some ⟨g, 0, none⟩) n cap) wr (.slice (some ⟨g, 0, none⟩) n cap)) (fun i _ => n - (intOf i).toNat)
 case atStart => exact ⟨0, L, by omega, rfl, List.Perm.refl _, hd, rfl, h, QStep.refl⟩
 case round =>
  obtain ⟨k, L', hk, rfl, hp, hD, hlast, hq, hs⟩ := hrel
  have HP : Hid (L'.Perm L) := hp
  have HD : Hid (DownOk PlD.cost p0 L' m k) := hD
  have HLS : Hid (L'.getD m p0 = L.getD m p0) := hlast
  have HL : Hid (L'.length = n) := hp.length_eq.trans hn
  have hrow := hq.row
  rw [HL.out] at hrow
  clear hp hD hd hn hlast
  by_cases h1 : m ≤ 2 * k + 1
  ·have h1i : (m : Int) ≤ 2 * (k : Int) + 1 := by omega
   go_wp2
   go_ret
   exact ⟨⟨_, rfl⟩, L', HP.out, HD.out.done (fun x hx0 hxm hxk => by omega), HLS.out, hq, hs⟩
  ·have h1i : 2 * (k : Int) + 1 < m := by omega
   have hj1 : 2 * k + 1 < n := by omega
   have hml := mth_less ⟨B, 8, none⟩ _ wr hq.cell
   by_cases h2 : 2 * k + 2 < m
   ·have h2i : 2 * (k : Int) + 1 + 1 < m := by omega
    have hj2 : 2 * k + 2 < n := by omega
    by_cases hl2 : (L'.getD (2 * k + 2) p0).cost < (L'.getD (2 * k + 1) p0).cost
    ·have HLE : Hid (∀ x, 0 < x → x < m → (x - 1) / 2 = k → (L'.getD (2 * k + 2) p0).cost ≤ (L'.getD x p0).cost) := fun x hx0 hxm hxk => by
      have hx : x = 2 * k + 1 ∨ x = 2 * k + 2 := by omega
      rcases hx with rfl | rfl <;> omega
     have hless1 := qLess_any (2 * k + 2) (2 * k + 1) g n cap L' wr (PlsAt.of hrow) hj2 hj1 true (by simpa using hl2)
     clear hl2
     by_cases hlt : (L'.getD (2 * k + 2) p0).cost < (L'.getD k p0).cost
     ·have HLT : Hid ((L'.getD (2 * k + 2) p0).cost < (L'.getD k p0).cost) := hlt
      have hless := fun W hW => qLess_any (2 * k + 2) k g n cap L' W hW (by omega) hk true (by simpa using hlt)
      clear hlt
      go_wp2_with (first
       | (go_at_call 134; have _ := hml; clear hml; refine hless1.mono ?_; rintro e w1 ⟨rfl, hb1⟩; have hml1 := mth_less ⟨B, 8, none⟩ _ w1 (bel_c hb1 hq.cell))
       | (go_at_call 134; refine (hless w1 (PlsAt.of (ownsRow_bel hrow hb1))).mono ?_; rintro e w2 ⟨rfl, hb2⟩; have hms := mth_swap ⟨B, 8, none⟩ _ w2 ((hq.bel hb1).bel hb2).cell)
       | (go_at_call 135; refine (qSwap k (2 * k + 2) g n cap base L' w2 (ownsRow_bel (ownsRow_bel hrow hb1) hb2) hk (by omega)).mono ?_; rintro e w3 ⟨rfl, hw3⟩; obtain ⟨r1, r2⟩ := ((hq.bel hb1).bel hb2).swap HL.out k (2 * k + 2) hk (by omega); rw [← hw3] at r1 r2; clear hw3))
      have HSP : Hid ((swapL p0 L' k (2 * k + 2)).Perm L ∧ DownOk PlD.cost p0 (swapL p0 L' k (2 * k + 2)) m (2 * k + 2) ∧ (swapL p0 L' k (2 * k + 2)).getD m p0 = L.getD m p0) := by
       have hl := HL.out
       have q1 : (swapL p0 L' k (2 * k + 2)).Perm L' := swapL_perm (d := p0) L' k (2 * k + 2) (by omega) (by omega)
       refine ⟨q1.trans HP.out, HD.out.step (by omega) (by omega) (by omega) (by omega) HLT.out HLE.out, ?_⟩
       rw [swapL_at L' k (2 * k + 2) m (by omega) (by omega), if_neg (by omega), if_neg (by omega)]
       exact HLS.out
      go_roundw
      case rel => exact ⟨2 * k + 2, swapL p0 L' k (2 * k + 2), by omega, by go_num, HSP.out.1, HSP.out.2.1, HSP.out.2.2, r1, ((hs.trans (QStep.bel (cell_lt hq.cell) hb1)).trans (QStep.bel (cell_lt (hq.bel hb1).cell) hb2)).trans r2⟩
      case measure => simp [intOf]; omega
     ·have HLT : Hid ((L'.getD k p0).cost ≤ (L'.getD (2 * k + 2) p0).cost) := Int.not_lt.1 hlt
      have hless := fun W hW => qLess_any (2 * k + 2) k g n cap L' W hW (by omega) hk false (by simpa using hlt)
      clear hlt
      go_wp2_with (first
       | (go_at_call 134; have _ := hml; clear hml; refine hless1.mono ?_; rintro e w1 ⟨rfl, hb1⟩; have hml1 := mth_less ⟨B, 8, none⟩ _ w1 (bel_c hb1 hq.cell))
       | (go_at_call 134; refine (hless w1 (PlsAt.of (ownsRow_bel hrow hb1))).mono ?_; rintro e w2 ⟨rfl, hb2⟩))
      go_ret
      exact ⟨⟨_, rfl⟩, L', HP.out, HD.out.done (fun x hx0 hxm hxk => by have a1 := HLE.out x hx0 hxm hxk; have a2 := HLT.out; omega), HLS.out, (hq.bel hb1).bel hb2, (hs.trans (QStep.bel (cell_lt hq.cell) hb1)).trans (QStep.bel (cell_lt (hq.bel hb1).cell) hb2)⟩
    ·have HLE : Hid (∀ x, 0 < x → x < m → (x - 1) / 2 = k → (L'.getD (2 * k + 1) p0).cost ≤ (L'.getD x p0).cost) := fun x hx0 hxm hxk => by
      have hx : x = 2 * k + 1 ∨ x = 2 * k + 2 := by omega
      rcases hx with rfl | rfl <;> omega
     have hless1 := qLess_any (2 * k + 2) (2 * k + 1) g n cap L' wr (PlsAt.of hrow) hj2 hj1 false (by simpa using hl2)
     clear hl2
     by_cases hlt : (L'.getD (2 * k + 1) p0).cost < (L'.getD k p0).cost
     ·have HLT : Hid ((L'.getD (2 * k + 1) p0).cost < (L'.getD k p0).cost) := hlt
      have hless := fun W hW => qLess_any (2 * k + 1) k g n cap L' W hW (by omega) hk true (by simpa using hlt)
      clear hlt
      go_wp2_with (first
       | (go_at_call 134; have _ := hml; clear hml; refine hless1.mono ?_; rintro e w1 ⟨rfl, hb1⟩; have hml1 := mth_less ⟨B, 8, none⟩ _ w1 (bel_c hb1 hq.cell))
       | (go_at_call 134; refine (hless w1 (PlsAt.of (ownsRow_bel hrow hb1))).mono ?_; rintro e w2 ⟨rfl, hb2⟩; have hms := mth_swap ⟨B, 8, none⟩ _ w2 ((hq.bel hb1).bel hb2).cell)
       | (go_at_call 135; refine (qSwap k (2 * k + 1) g n cap base L' w2 (ownsRow_bel (ownsRow_bel hrow hb1) hb2) hk (by omega)).mono ?_; rintro e w3 ⟨rfl, hw3⟩; obtain ⟨r1, r2⟩ := ((hq.bel hb1).bel hb2).swap HL.out k (2 * k + 1) hk (by omega); rw [← hw3] at r1 r2; clear hw3))
      have HSP : Hid ((swapL p0 L' k (2 * k + 1)).Perm L ∧ DownOk PlD.cost p0 (swapL p0 L' k (2 * k + 1)) m (2 * k + 1) ∧ (swapL p0 L' k (2 * k + 1)).getD m p0 = L.getD m p0) := by
       have hl := HL.out
       have q1 : (swapL p0 L' k (2 * k + 1)).Perm L' := swapL_perm (d := p0) L' k (2 * k + 1) (by omega) (by omega)
       refine ⟨q1.trans HP.out, HD.out.step (by omega) (by omega) (by omega) (by omega) HLT.out HLE.out, ?_⟩
       rw [swapL_at L' k (2 * k + 1) m (by omega) (by omega), if_neg (by omega), if_neg (by omega)]
       exact HLS.out
      go_roundw
      case rel => exact ⟨2 * k + 1, swapL p0 L' k (2 * k + 1), by omega, by go_num, HSP.out.1, HSP.out.2.1, HSP.out.2.2, r1, ((hs.trans (QStep.bel (cell_lt hq.cell) hb1)).trans (QStep.bel (cell_lt (hq.bel hb1).cell) hb2)).trans r2⟩
      case measure => simp [intOf]; omega
     ·have HLT : Hid ((L'.getD k p0).cost ≤ (L'.getD (2 * k + 1) p0).cost) := Int.not_lt.1 hlt
      have hless := fun W hW => qLess_any (2 * k + 1) k g n cap L' W hW (by omega) hk false (by simpa using hlt)
      clear hlt
      go_wp2_with (first
       | (go_at_call 134; have _ := hml; clear hml; refine hless1.mono ?_; rintro e w1 ⟨rfl, hb1⟩; have hml1 := mth_less ⟨B, 8, none⟩ _ w1 (bel_c hb1 hq.cell))
       | (go_at_call 134; refine (hless w1 (PlsAt.of (ownsRow_bel hrow hb1))).mono ?_; rintro e w2 ⟨rfl, hb2⟩))
      go_ret
      exact ⟨⟨_, rfl⟩, L', HP.out, HD.out.done (fun x hx0 hxm hxk => by have a1 := HLE.out x hx0 hxm hxk; have a2 := HLT.out; omega), HLS.out, (hq.bel hb1).bel hb2, (hs.trans (QStep.bel (cell_lt hq.cell) hb1)).trans (QStep.bel (cell_lt (hq.bel hb1).cell) hb2)⟩
   ·have h2i : (m : Int) ≤ 2 * (k : Int) + 1 + 1 := by omega
    have HLE : Hid (∀ x, 0 < x → x < m → (x - 1) / 2 = k → (L'.getD (2 * k + 1) p0).cost ≤ (L'.getD x p0).cost) := fun x hx0 hxm hxk => by
     have hx : x = 2 * k + 1 := by omega
     rw [hx]; exact Int.le_refl _
    by_cases hlt : (L'.getD (2 * k + 1) p0).cost < (L'.getD k p0).cost
    ·have HLT : Hid ((L'.getD (2 * k + 1) p0).cost < (L'.getD k p0).cost) := hlt
     have hless := fun W hW => qLess_any (2 * k + 1) k g n cap L' W hW (by omega) hk true (by simpa using hlt)
     clear hlt
     go_wp2_with (first
      | (go_at_call 134; refine (hless wr (PlsAt.of hrow)).mono ?_; rintro e w2 ⟨rfl, hb2⟩; have hms := mth_swap ⟨B, 8, none⟩ _ w2 (hq.bel hb2).cell)
      | (go_at_call 135; refine (qSwap k (2 * k + 1) g n cap base L' w2 (ownsRow_bel hrow hb2) hk (by omega)).mono ?_; rintro e w3 ⟨rfl, hw3⟩; obtain ⟨r1, r2⟩ := (hq.bel hb2).swap HL.out k (2 * k + 1) hk (by omega); rw [← hw3] at r1 r2; clear hw3))
     have HSP : Hid ((swapL p0 L' k (2 * k + 1)).Perm L ∧ DownOk PlD.cost p0 (swapL p0 L' k (2 * k + 1)) m (2 * k + 1) ∧ (swapL p0 L' k (2 * k + 1)).getD m p0 = L.getD m p0) := by
      have hl := HL.out
      have q1 : (swapL p0 L' k (2 * k + 1)).Perm L' := swapL_perm (d := p0) L' k (2 * k + 1) (by omega) (by omega)
      refine ⟨q1.trans HP.out, HD.out.step (by omega) (by omega) (by omega) (by omega) HLT.out HLE.out, ?_⟩
      rw [swapL_at L' k (2 * k + 1) m (by omega) (by omega), if_neg (by omega), if_neg (by omega)]
      exact HLS.out
     go_roundw
     case rel => exact ⟨2 * k + 1, swapL p0 L' k (2 * k + 1), by omega, by go_num, HSP.out.1, HSP.out.2.1, HSP.out.2.2, r1, (hs.trans (QStep.bel (cell_lt hq.cell) hb2)).trans r2⟩
     case measure => simp [intOf]; omega
    ·have HLT : Hid ((L'.getD k p0).cost ≤ (L'.getD (2 * k + 1) p0).cost) := Int.not_lt.1 hlt
     have hless := fun W hW => qLess_any (2 * k + 1) k g n cap L' W hW (by omega) hk false (by simpa using hlt)
     clear hlt
     go_wp2_with (first
      | (go_at_call 134; refine (hless wr (PlsAt.of hrow)).mono ?_; rintro e w2 ⟨rfl, hb2⟩))
     go_ret
     exact ⟨⟨_, rfl⟩, L', HP.out, HD.out.done (fun x hx0 hxm hxk => by have a1 := HLE.out x hx0 hxm hxk; have a2 := HLT.out; omega), HLS.out, hq.bel hb2, hs.trans (QStep.bel (cell_lt hq.cell) hb2)⟩
end Go.Proofs.Yteehgcbjmdideab
