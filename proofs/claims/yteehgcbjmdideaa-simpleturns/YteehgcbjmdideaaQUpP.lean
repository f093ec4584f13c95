/- 'up' of container/heap, over the queue. -/
import Derived.Test.YteehgcbjmdideaaQMC
namespace Go.Proofs.Yteehgcbjmdideaa
open Go.RowKit
attribute [local go_sem ↓] Go.wp_at_zero Go.wp_at_succ

theorem half (k : Nat) (hk : 0 < k) : ((k : Int) - 1).tdiv 2 = (((k - 1) / 2 : Nat) : Int) := by
  have e : (k : Int) - 1 = ((k - 1 : Nat) : Int) := by omega
  rw [e, show (2 : Int) = ((2 : Nat) : Int) from rfl, ← Int.ofNat_tdiv]

/-- the queue, its places turned about -/
def QPerm (base B : Nat) (w : World) (v : Value) (L : List PlD) (n : Nat) (w' : World) : Prop :=
  ∃ L', L'.Perm L ∧ HeapL PlD.cost p0 L' n ∧ QAt base B w' v L' ∧ QStep B w v w' v

set_option maxHeartbeats 1000000 in
set_option maxRecDepth 100000 in
theorem up_any (B g n cap base j : Nat) (L : List PlD) (w : World) (hn : L.length = n) (hN : n ≤ 4000000000) (h : QAt base B w (.slice (some ⟨g, 0, none⟩) n cap) L) (hj : j < n) (hu : UpOk PlD.cost p0 L n j) :
    Calls Try.prog 184 #[.iface 145 (.pointer (some ⟨B, 8, none⟩)), .int .i64 j] w fun e w' => e = .returned (.tuple #[]) ∧ QPerm base B w (.slice (some ⟨g, 0, none⟩) n cap) L n w' := by
  go_enter Try.func184, Try.ntmps184
  go_wp2
  go_loopw [1] (fun i wr => ∃ (k : Nat) (L' : List PlD), k < n ∧ i = .int .i64 k ∧ L'.Perm L ∧ UpOk PlD.cost p0 L' n k ∧ QAt base B wr (.slice (some ⟨g, 0, none⟩) n cap) L' ∧ QStep B w (.slice (some ⟨g, 0, none⟩) n cap) wr (.slice (some ⟨g, 0, none⟩) n cap)) (fun i _ => (intOf i).toNat)
  case atStart => exact ⟨j, L, hj, rfl, List.Perm.refl _, hu, h, QStep.refl⟩
  case round =>
    obtain ⟨k, L', hk, rfl, hp, hU, hq, hs⟩ := hrel
    have HP : Hid (L'.Perm L) := hp
    have HU : Hid (UpOk PlD.cost p0 L' n k) := hU
    have HL : Hid (L'.length = n) := hp.length_eq.trans hn
    have hml := mth_less ⟨B, 8, none⟩ _ wr hq.cell
    clear hp hU hu hn
    by_cases h0 : k = 0
    · subst h0
      go_wp2
      go_end0
      exact ⟨rfl, L', HP.out, HU.out.done (Or.inl rfl), hq, hs⟩
    · obtain ⟨p, hpk⟩ : ∃ p, p = (k - 1) / 2 := ⟨_, rfl⟩
      have hh := half k (by omega)
      rw [← hpk] at hh
      have hpk2 : p < k := by omega
      have hpn : p < n := by omega
      have hne : ((p : Int) == (k : Int)) = false := by simpa using (by omega : ¬ (p : Int) = k)
      have hk1 : (1 : Int) ≤ k := by omega
      have HPK : Hid (p = (k - 1) / 2) := hpk
      have hrow := hq.row
      rw [HL.out] at hrow
      clear hpk h0
      by_cases hlt : (L'.getD k p0).cost < (L'.getD p p0).cost
      · have HLT : Hid ((L'.getD k p0).cost < (L'.getD p p0).cost) := hlt
        have hless := qLess_any k p g n cap L' wr (PlsAt.of hrow) hk hpn true (by simpa using hlt)
        clear hlt
        go_wp2_with (first
          | (go_at_call 208; refine hless.mono ?_; rintro e w1 ⟨rfl, hb1⟩; have hms := mth_swap ⟨B, 8, none⟩ _ w1 (bel_c hb1 hq.cell))
          | (go_at_call 209; refine (qSwap p k g n cap base L' w1 (ownsRow_bel hrow hb1) hpn hk).mono ?_; rintro e w2 ⟨rfl, hw2⟩; obtain ⟨r1, r2⟩ := (hq.bel hb1).swap HL.out p k hpn hk; rw [← hw2] at r1 r2; clear hw2))
        have HSP : Hid ((swapL p0 L' p k).Perm L ∧ UpOk PlD.cost p0 (swapL p0 L' p k) n p) := by
          have hl := HL.out
          have h1 : (swapL p0 L' p k).Perm L' := swapL_perm (d := p0) L' p k (by omega) (by omega)
          have h2 := HU.out.step (by omega) hk (by omega) (by rw [← HPK.out]; exact HLT.out)
          rw [← HPK.out] at h2
          exact ⟨h1.trans HP.out, h2⟩
        go_roundw
        case rel => exact ⟨p, swapL p0 L' p k, hpn, rfl, HSP.out.1, HSP.out.2, r1, (hs.trans (QStep.bel (cell_lt hq.cell) hb1)).trans r2⟩
        case measure => simp [intOf]; omega
      · have HLT : Hid (¬ (L'.getD k p0).cost < (L'.getD p p0).cost) := hlt
        have hless := qLess_any k p g n cap L' wr (PlsAt.of hrow) hk hpn false (by simpa using hlt)
        clear hlt
        go_wp2_with (go_at_call 208; refine hless.mono ?_; rintro e w1 ⟨rfl, hb1⟩)
        go_end0
        exact ⟨rfl, L', HP.out, HU.out.done (Or.inr (by rw [← HPK.out]; have := HLT.out; omega)), hq.bel hb1, hs.trans (QStep.bel (cell_lt hq.cell) hb1)⟩

end Go.Proofs.Yteehgcbjmdideaa
