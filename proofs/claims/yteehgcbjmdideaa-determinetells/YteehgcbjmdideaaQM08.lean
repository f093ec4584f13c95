/- 'up' of container/heap, over the queue. -/
import Derived.Test.YteehgcbjmdideaaQM07
namespace Go.Proofs.Yteehgcbjmdideaa
open Go.RowKit
attribute [local go_sem ↓] Go.wp_at_zero Go.wp_at_succ

theorem half (k : Nat) (hk : 0 < k) : ((k : Int) - 1).tdiv 2 = (((k - 1) / 2 : Nat) : Int) := by
  have e : (k : Int) - 1 = ((k - 1 : Nat) : Int) := by omega
  rw [e, show (2 : Int) = ((2 : Nat) : Int) from rfl, ← Int.ofNat_tdiv]

/-- the queue, its places turned about -/
def QPerm (base B : Nat) (w : World) (v : Value) (L : List PlD) (n : Nat) (w' : World) : Prop :=
  ∃ L', L'.Perm L ∧ HeapL PlD.cost p0 L' n ∧ QAt base B w' v L' ∧ QStep B w v w' v

set_option maxHeartbeats 1000000 in
set_option maxRecDepth 100000 in
theorem up_any (B g n cap base j : Nat) (L : List PlD) (w : World) (hn : L.length = n) (hN : n ≤ 4000000000) (h : QAt base B w (.slice (some ⟨g, 0, none⟩) n cap) L) (hj : j < n) (hu : UpOk PlD.cost p0 L n j) :
    Calls Try.prog 184 #[.iface 145 (.pointer (some ⟨B, 8, none⟩)), .int .i64 j] w fun e w' => e = .returned (.tuple #[]) ∧ QPerm base B w (.slice (some ⟨g, 0, none⟩) n cap) L n w' := by
  go_enter Try.func184, Try.ntmps184
  go_wp2
  go_loopw [1] (fun i wr => ∃ (k : Nat) (L' : List PlD), k < n ∧ i = .int .i64 k ∧ L'.Perm L ∧ UpOk PlD.cost p0 L' n k ∧ QAt base B wr (.slice (some ⟨g, 0, none⟩) n cap) L' ∧ QStep B w (.slice (some ⟨g, 0, none⟩) n cap) wr (.slice (some ⟨g, 0, none⟩) n cap)) (fun i _ => (intOf i).toNat)
  case atStart => exact ⟨j, L, hj, rfl, List.Perm.refl _, hu, h, QStep.refl⟩
  case round =>
    obtain ⟨k, L', hk, rfl, hp, hU, hq, hs⟩ := hrel
    have HP : Hid (L'.Perm L) := hp
    have HU : Hid (UpOk PlD.cost p0 L' n k) := hU
    have HL : Hid (L'.length = n) := hp.length_eq.trans hn
    have hml := mth_less ⟨B, 8, none⟩ _ wr hq.cell
    clear hp hU hu hn
    by_cases h0 : k = 0
    · subst h0
      go_wp2
      go_end0
      exact ⟨rfl, L', HP.out, HU.out.done (Or.inl rfl), hq, hs⟩
    · obtain ⟨p, hpk⟩ : ∃ p, p = (k - 1) / 2 := ⟨_, rfl⟩
      have hh := half k (by omega)
      rw [← hpk] at hh
      have hpk2 : p < k := by omega
      have hpn : p < n := by omega
      have hne : ((p : Int) == (k : Int)) = false := by simpa using (by omega : ¬ (p : Int) = k)
      have hk1 : (1 : Int) ≤ k := by omega
      have HPK : Hid (p = (k - 1) / 2) := hpk
      have hrow := hq.row
      rw [HL.out] at hrow
      clear hpk h0
      by_cases hlt : (L'.getD k p0).cost < (L'.getD p p0).cost
      · have HLT : Hid ((L'.getD k p0).cost < (L'.getD p p0).cost) := hlt
        have hless := qLess_any k p g n cap L' wr (PlsAt.of hrow) hk hpn true (by simpa using hlt)
        clear hlt
        go_wp2_with (first
          | (go_at_call 208; refine hless.mono ?_; rintro e w1 ⟨rfl, hb1⟩; have hms := mth_swap ⟨B, 8, none⟩ _ w1 (bel_c hb1 hq.cell))
          | (go_at_call 209; refine (qSwap p k g n cap base L' w1 (ownsRow_bel hrow hb1) hpn hk).mono ?_; rintro e w2 ⟨rfl, hw2⟩; obtain ⟨r1, r2⟩ := (hq.bel hb1).swap HL.out p k hpn hk; rw [← hw2] at r1 r2; clear hw2))
        have HSP : Hid ((swapL p0 L' p k).Perm L ∧ UpOk PlD.cost p0 (swapL p0 L' p k) n p) := by
          have hl := HL.out
          have h1 : (swapL p0 L' p k).Perm L' := swapL_perm (d := p0) L' p k (by omega) (by omega)
          have h2 := HU.out.step (by omega) hk (by omega) (by rw [← HPK.out]; exact HLT.out)
          rw [← HPK.out] at h2
          exact ⟨h1.trans HP.out, h2⟩
        go_roundw
        case rel => exact ⟨p, swapL p0 L' p k, hpn, rfl, HSP.out.1, HSP.out.2, r1, (hs.trans (QStep.bel (cell_lt hq.cell) hb1)).trans r2⟩
        case measure => simp [intOf]; omega
      · have HLT : Hid (¬ (L'.getD k p0).cost < (L'.getD p p0).cost) := hlt
        have hless := qLess_any k p g n cap L' wr (PlsAt.of hrow) hk hpn false (by simpa using hlt)
        clear hlt
        go_wp2_with (go_at_call 208; refine hless.mono ?_; rintro e w1 ⟨rfl, hb1⟩)
        go_end0
        exact ⟨rfl, L', HP.out, HU.out.done (Or.inr (by rw [← HPK.out]; have := HLT.out; omega)), hq.bel hb1, hs.trans (QStep.bel (cell_lt hq.cell) hb1)⟩

end Go.Proofs.Yteehgcbjmdideaa

/- 'down' of container/heap, over the queue. -/
namespace Go.Proofs.Yteehgcbjmdideaa
open Go.RowKit
attribute [local go_sem ↓] Go.wp_at_zero Go.wp_at_succ

/-- the queue, its places turned about but for the last one -/
def QDown (base B : Nat) (w : World) (v : Value) (L : List PlD) (m : Nat) (w' : World) : Prop :=
  ∃ L', L'.Perm L ∧ HeapL PlD.cost p0 L' m ∧ L'.getD m p0 = L.getD m p0 ∧ QAt base B w' v L' ∧ QStep B w v w' v

set_option maxHeartbeats 2000000 in
set_option maxRecDepth 100000 in
theorem down_any (B g n cap base m : Nat) (L : List PlD) (w : World) (hn : L.length = n) (hN : n ≤ 4000000000) (hm : m < n) (h : QAt base B w (.slice (some ⟨g, 0, none⟩) n cap) L) (hd : DownOk PlD.cost p0 L m 0) :
    Calls Try.prog 163 #[.iface 145 (.pointer (some ⟨B, 8, none⟩)), .int .i64 0, .int .i64 m] w fun e w' => (∃ b, e = .returned (.bool b)) ∧ QDown base B w (.slice (some ⟨g, 0, none⟩) n cap) L m w' := by
  go_enter Try.func163, Try.ntmps163
  go_wp2
  go_loopw [7] (fun i wr => ∃ (k : Nat) (L' : List PlD), k < n ∧ i = .int .i64 k ∧ L'.Perm L ∧ DownOk PlD.cost p0 L' m k ∧ L'.getD m p0 = L.getD m p0 ∧ QAt base B wr (.slice (some ⟨g, 0, none⟩) n cap) L' ∧ QStep B w (.slice (some ⟨g, 0, none⟩) n cap) wr (.slice (some ⟨g, 0, none⟩) n cap)) (fun i _ => n - (intOf i).toNat)
  case atStart => exact ⟨0, L, by omega, rfl, List.Perm.refl _, hd, rfl, h, QStep.refl⟩
  case round =>
    obtain ⟨k, L', hk, rfl, hp, hD, hlast, hq, hs⟩ := hrel
    have HP : Hid (L'.Perm L) := hp
    have HD : Hid (DownOk PlD.cost p0 L' m k) := hD
    have HLS : Hid (L'.getD m p0 = L.getD m p0) := hlast
    have HL : Hid (L'.length = n) := hp.length_eq.trans hn
    have hrow := hq.row
    rw [HL.out] at hrow
    clear hp hD hd hn hlast
    by_cases h1 : m ≤ 2 * k + 1
    · have h1i : (m : Int) ≤ 2 * (k : Int) + 1 := by omega
      go_wp2
      go_ret
      exact ⟨⟨_, rfl⟩, L', HP.out, HD.out.done (fun x hx0 hxm hxk => by omega), HLS.out, hq, hs⟩
    · have h1i : 2 * (k : Int) + 1 < m := by omega
      have hj1 : 2 * k + 1 < n := by omega
      have hml := mth_less ⟨B, 8, none⟩ _ wr hq.cell
      by_cases h2 : 2 * k + 2 < m
      · have h2i : 2 * (k : Int) + 1 + 1 < m := by omega
        have hj2 : 2 * k + 2 < n := by omega
        by_cases hl2 : (L'.getD (2 * k + 2) p0).cost < (L'.getD (2 * k + 1) p0).cost
        · have HLE : Hid (∀ x, 0 < x → x < m → (x - 1) / 2 = k → (L'.getD (2 * k + 2) p0).cost ≤ (L'.getD x p0).cost) := fun x hx0 hxm hxk => by
            have hx : x = 2 * k + 1 ∨ x = 2 * k + 2 := by omega
            rcases hx with rfl | rfl <;> omega
          have hless1 := qLess_any (2 * k + 2) (2 * k + 1) g n cap L' wr (PlsAt.of hrow) hj2 hj1 true (by simpa using hl2)
          clear hl2
          by_cases hlt : (L'.getD (2 * k + 2) p0).cost < (L'.getD k p0).cost
          · have HLT : Hid ((L'.getD (2 * k + 2) p0).cost < (L'.getD k p0).cost) := hlt
            have hless := fun W hW => qLess_any (2 * k + 2) k g n cap L' W hW (by omega) hk true (by simpa using hlt)
            clear hlt
            go_wp2_with (first
              | (go_at_call 208; have _ := hml; clear hml; refine hless1.mono ?_; rintro e w1 ⟨rfl, hb1⟩; have hml1 := mth_less ⟨B, 8, none⟩ _ w1 (bel_c hb1 hq.cell))
              | (go_at_call 208; refine (hless w1 (PlsAt.of (ownsRow_bel hrow hb1))).mono ?_; rintro e w2 ⟨rfl, hb2⟩; have hms := mth_swap ⟨B, 8, none⟩ _ w2 ((hq.bel hb1).bel hb2).cell)
              | (go_at_call 209; refine (qSwap k (2 * k + 2) g n cap base L' w2 (ownsRow_bel (ownsRow_bel hrow hb1) hb2) hk (by omega)).mono ?_; rintro e w3 ⟨rfl, hw3⟩; obtain ⟨r1, r2⟩ := ((hq.bel hb1).bel hb2).swap HL.out k (2 * k + 2) hk (by omega); rw [← hw3] at r1 r2; clear hw3))
            have HSP : Hid ((swapL p0 L' k (2 * k + 2)).Perm L ∧ DownOk PlD.cost p0 (swapL p0 L' k (2 * k + 2)) m (2 * k + 2) ∧ (swapL p0 L' k (2 * k + 2)).getD m p0 = L.getD m p0) := by
              have hl := HL.out
              have q1 : (swapL p0 L' k (2 * k + 2)).Perm L' := swapL_perm (d := p0) L' k (2 * k + 2) (by omega) (by omega)
              refine ⟨q1.trans HP.out, HD.out.step (by omega) (by omega) (by omega) (by omega) HLT.out HLE.out, ?_⟩
              rw [swapL_at L' k (2 * k + 2) m (by omega) (by omega), if_neg (by omega), if_neg (by omega)]
              exact HLS.out
            go_roundw
            case rel => exact ⟨2 * k + 2, swapL p0 L' k (2 * k + 2), by omega, by go_num, HSP.out.1, HSP.out.2.1, HSP.out.2.2, r1, ((hs.trans (QStep.bel (cell_lt hq.cell) hb1)).trans (QStep.bel (cell_lt (hq.bel hb1).cell) hb2)).trans r2⟩
            case measure => simp [intOf]; omega
          · have HLT : Hid ((L'.getD k p0).cost ≤ (L'.getD (2 * k + 2) p0).cost) := Int.not_lt.1 hlt
            have hless := fun W hW => qLess_any (2 * k + 2) k g n cap L' W hW (by omega) hk false (by simpa using hlt)
            clear hlt
            go_wp2_with (first
              | (go_at_call 208; have _ := hml; clear hml; refine hless1.mono ?_; rintro e w1 ⟨rfl, hb1⟩; have hml1 := mth_less ⟨B, 8, none⟩ _ w1 (bel_c hb1 hq.cell))
              | (go_at_call 208; refine (hless w1 (PlsAt.of (ownsRow_bel hrow hb1))).mono ?_; rintro e w2 ⟨rfl, hb2⟩))
            go_ret
            exact ⟨⟨_, rfl⟩, L', HP.out, HD.out.done (fun x hx0 hxm hxk => by have a1 := HLE.out x hx0 hxm hxk; have a2 := HLT.out; omega), HLS.out, (hq.bel hb1).bel hb2, (hs.trans (QStep.bel (cell_lt hq.cell) hb1)).trans (QStep.bel (cell_lt (hq.bel hb1).cell) hb2)⟩
        · have HLE : Hid (∀ x, 0 < x → x < m → (x - 1) / 2 = k → (L'.getD (2 * k + 1) p0).cost ≤ (L'.getD x p0).cost) := fun x hx0 hxm hxk => by
            have hx : x = 2 * k + 1 ∨ x = 2 * k + 2 := by omega
            rcases hx with rfl | rfl <;> omega
          have hless1 := qLess_any (2 * k + 2) (2 * k + 1) g n cap L' wr (PlsAt.of hrow) hj2 hj1 false (by simpa using hl2)
          clear hl2
          by_cases hlt : (L'.getD (2 * k + 1) p0).cost < (L'.getD k p0).cost
          · have HLT : Hid ((L'.getD (2 * k + 1) p0).cost < (L'.getD k p0).cost) := hlt
            have hless := fun W hW => qLess_any (2 * k + 1) k g n cap L' W hW (by omega) hk true (by simpa using hlt)
            clear hlt
            go_wp2_with (first
              | (go_at_call 208; have _ := hml; clear hml; refine hless1.mono ?_; rintro e w1 ⟨rfl, hb1⟩; have hml1 := mth_less ⟨B, 8, none⟩ _ w1 (bel_c hb1 hq.cell))
              | (go_at_call 208; refine (hless w1 (PlsAt.of (ownsRow_bel hrow hb1))).mono ?_; rintro e w2 ⟨rfl, hb2⟩; have hms := mth_swap ⟨B, 8, none⟩ _ w2 ((hq.bel hb1).bel hb2).cell)
              | (go_at_call 209; refine (qSwap k (2 * k + 1) g n cap base L' w2 (ownsRow_bel (ownsRow_bel hrow hb1) hb2) hk (by omega)).mono ?_; rintro e w3 ⟨rfl, hw3⟩; obtain ⟨r1, r2⟩ := ((hq.bel hb1).bel hb2).swap HL.out k (2 * k + 1) hk (by omega); rw [← hw3] at r1 r2; clear hw3))
            have HSP : Hid ((swapL p0 L' k (2 * k + 1)).Perm L ∧ DownOk PlD.cost p0 (swapL p0 L' k (2 * k + 1)) m (2 * k + 1) ∧ (swapL p0 L' k (2 * k + 1)).getD m p0 = L.getD m p0) := by
              have hl := HL.out
              have q1 : (swapL p0 L' k (2 * k + 1)).Perm L' := swapL_perm (d := p0) L' k (2 * k + 1) (by omega) (by omega)
              refine ⟨q1.trans HP.out, HD.out.step (by omega) (by omega) (by omega) (by omega) HLT.out HLE.out, ?_⟩
              rw [swapL_at L' k (2 * k + 1) m (by omega) (by omega), if_neg (by omega), if_neg (by omega)]
              exact HLS.out
            go_roundw
            case rel => exact ⟨2 * k + 1, swapL p0 L' k (2 * k + 1), by omega, by go_num, HSP.out.1, HSP.out.2.1, HSP.out.2.2, r1, ((hs.trans (QStep.bel (cell_lt hq.cell) hb1)).trans (QStep.bel (cell_lt (hq.bel hb1).cell) hb2)).trans r2⟩
            case measure => simp [intOf]; omega
          · have HLT : Hid ((L'.getD k p0).cost ≤ (L'.getD (2 * k + 1) p0).cost) := Int.not_lt.1 hlt
            have hless := fun W hW => qLess_any (2 * k + 1) k g n cap L' W hW (by omega) hk false (by simpa using hlt)
            clear hlt
            go_wp2_with (first
              | (go_at_call 208; have _ := hml; clear hml; refine hless1.mono ?_; rintro e w1 ⟨rfl, hb1⟩; have hml1 := mth_less ⟨B, 8, none⟩ _ w1 (bel_c hb1 hq.cell))
              | (go_at_call 208; refine (hless w1 (PlsAt.of (ownsRow_bel hrow hb1))).mono ?_; rintro e w2 ⟨rfl, hb2⟩))
            go_ret
            exact ⟨⟨_, rfl⟩, L', HP.out, HD.out.done (fun x hx0 hxm hxk => by have a1 := HLE.out x hx0 hxm hxk; have a2 := HLT.out; omega), HLS.out, (hq.bel hb1).bel hb2, (hs.trans (QStep.bel (cell_lt hq.cell) hb1)).trans (QStep.bel (cell_lt (hq.bel hb1).cell) hb2)⟩
      · have h2i : (m : Int) ≤ 2 * (k : Int) + 1 + 1 := by omega
        have HLE : Hid (∀ x, 0 < x → x < m → (x - 1) / 2 = k → (L'.getD (2 * k + 1) p0).cost ≤ (L'.getD x p0).cost) := fun x hx0 hxm hxk => by
          have hx : x = 2 * k + 1 := by omega
          rw [hx]; exact Int.le_refl _
        by_cases hlt : (L'.getD (2 * k + 1) p0).cost < (L'.getD k p0).cost
        · have HLT : Hid ((L'.getD (2 * k + 1) p0).cost < (L'.getD k p0).cost) := hlt
          have hless := fun W hW => qLess_any (2 * k + 1) k g n cap L' W hW (by omega) hk true (by simpa using hlt)
          clear hlt
          go_wp2_with (first
            | (go_at_call 208; refine (hless wr (PlsAt.of hrow)).mono ?_; rintro e w2 ⟨rfl, hb2⟩; have hms := mth_swap ⟨B, 8, none⟩ _ w2 (hq.bel hb2).cell)
            | (go_at_call 209; refine (qSwap k (2 * k + 1) g n cap base L' w2 (ownsRow_bel hrow hb2) hk (by omega)).mono ?_; rintro e w3 ⟨rfl, hw3⟩; obtain ⟨r1, r2⟩ := (hq.bel hb2).swap HL.out k (2 * k + 1) hk (by omega); rw [← hw3] at r1 r2; clear hw3))
          have HSP : Hid ((swapL p0 L' k (2 * k + 1)).Perm L ∧ DownOk PlD.cost p0 (swapL p0 L' k (2 * k + 1)) m (2 * k + 1) ∧ (swapL p0 L' k (2 * k + 1)).getD m p0 = L.getD m p0) := by
            have hl := HL.out
            have q1 : (swapL p0 L' k (2 * k + 1)).Perm L' := swapL_perm (d := p0) L' k (2 * k + 1) (by omega) (by omega)
            refine ⟨q1.trans HP.out, HD.out.step (by omega) (by omega) (by omega) (by omega) HLT.out HLE.out, ?_⟩
            rw [swapL_at L' k (2 * k + 1) m (by omega) (by omega), if_neg (by omega), if_neg (by omega)]
            exact HLS.out
          go_roundw
          case rel => exact ⟨2 * k + 1, swapL p0 L' k (2 * k + 1), by omega, by go_num, HSP.out.1, HSP.out.2.1, HSP.out.2.2, r1, (hs.trans (QStep.bel (cell_lt hq.cell) hb2)).trans r2⟩
          case measure => simp [intOf]; omega
        · have HLT : Hid ((L'.getD k p0).cost ≤ (L'.getD (2 * k + 1) p0).cost) := Int.not_lt.1 hlt
          have hless := fun W hW => qLess_any (2 * k + 1) k g n cap L' W hW (by omega) hk false (by simpa using hlt)
          clear hlt
          go_wp2_with (first
            | (go_at_call 208; refine (hless wr (PlsAt.of hrow)).mono ?_; rintro e w2 ⟨rfl, hb2⟩))
          go_ret
          exact ⟨⟨_, rfl⟩, L', HP.out, HD.out.done (fun x hx0 hxm hxk => by have a1 := HLE.out x hx0 hxm hxk; have a2 := HLT.out; omega), HLS.out, hq.bel hb2, hs.trans (QStep.bel (cell_lt hq.cell) hb2)⟩
end Go.Proofs.Yteehgcbjmdideaa

/- 'Push' and 'Pop' of the queue, and of container/heap over it. -/
namespace Go.Proofs.Yteehgcbjmdideaa
open Go.RowKit
attribute [local go_sem ↓] Go.wp_at_zero Go.wp_at_succ

theorem QStep.putTo {B : Nat} {w w2 : World} {v v' : Value} (h : QStep B w v w2 v) (hown : ∀ g, v'.ownBlock = some g → v.ownBlock = some g ∨ w.heap.size ≤ g) : QStep B w v (w2.setCell ⟨B, 8, none⟩ v') v' :=
  ⟨h.os, h.tape, h.output, by simpa [World.setCell] using h.size, fun b hb hB hv => (Below.heap_setCell w2 ⟨B, 8, none⟩ v' b hB).trans (h.block b hb hB hv), fun k hk => (World.cell?_setCell_other _ _ _ _ (by intro e; apply hk; injection e with _ e2; exact e2.symm)).trans (h.cell k hk), fun k => (World.frozen?_setCell _ _ _ _).trans (h.frz k), hown⟩

def plV (p : PlD) : Value := .agg #[.int .i64 p.st, .int .i64 p.rd, .int .i64 p.wt, .int .i64 p.cost]

theorem if_wantedP {P : Program} {o : Oper} {y : Nat → Option Bool} {a : Act} {w : World} {K : Act → World → Prop} {Q : Exit → Act → World → Prop} (hgd : o.guard = none) (h : o.wp P a w K Q) : if Region.wanted o y = true then o.wp P a w K Q else K (a.put o.dst undef) w := by
  rw [if_pos (by simp [Region.wanted, hgd])]
  exact h

theorem assert_pl (x : Value) (w : World) : (Instr.typeAssert (.iface 143 x) 20 143 false).run Try.prog w = .ok x w := by kernel_rfl

set_option maxHeartbeats 1000000 in
set_option maxRecDepth 100000 in
theorem qPush_any (B base : Nat) (v : Value) (L : List PlD) (p : PlD) (w : World) (h : QAt base B w v L) (hN : L.length ≤ 3000000000) :
    Calls Try.prog 211 #[.pointer (some ⟨B, 8, none⟩), .iface 143 (plV p)] w fun e w' => e = .returned (.tuple #[]) ∧ ∃ g cap, QAt base B w' (.slice (some ⟨g, 0, none⟩) (L.length + 1) cap) (L ++ [p]) ∧ QStep B w v w' (.slice (some ⟨g, 0, none⟩) (L.length + 1) cap) := by
  obtain ⟨i0, hi, hz0, hz1, hz2⟩ := info_parts infoPl
  unfold plV
  have has := assert_pl (.agg #[.int .i64 p.st, .int .i64 p.rd, .int .i64 p.wt, .int .i64 p.cost])
  go_enter Try.func211, Try.ntmps211
  go_wp2
  obtain ⟨Wd, hWd⟩ : ∃ Wd, Wd = w.drew := ⟨_, rfl⟩
  have hbd : Below w.heap.size w Wd := by rw [hWd]; exact (bel_self w).drew
  have hqd := h.bel hbd
  have c8 := hqd.cell
  have hS0 : (fun wx : World => wx.cell? ⟨B, 8, none⟩ = some v) Wd := c8
  have hsz := hqd.base_le
  have hBl := cell_lt c8
  refine wp_region_noPanic ?_
  refine wp_region_F (fun wx => wx.cell? ⟨B, 8, none⟩ = some v) [9] (by kernel_rfl) (by rw [← hWd]; exact hS0) (fun _ => ?_)
  rw [← hWd]
  clear hWd
  refine wpAnyF_free (i := 0) (v := .pointer (some ⟨B, 8, none⟩)) rfl (by kernel_rfl) (by kernel_rfl) (by kernel_rfl) (by kernel_rfl) (fun _ _ _ h => h) (Or.inl ⟨by rfl, fun wl hSw => ?_⟩) hS0 ?_
  · (try dsimp only at hSw); go_simp
  refine wpAnyF_free (i := 1) (v := .pointer (some ⟨B, 8, none⟩)) rfl (by kernel_rfl) (by kernel_rfl) (by kernel_rfl) (by kernel_rfl) (fun _ _ _ h => h) (Or.inl ⟨by rfl, fun wl hSw => ?_⟩) hS0 ?_
  · (try dsimp only at hSw); go_simp
  refine wpAnyF_free (i := 2) (v := .pointer (some ⟨B, 8, none⟩)) rfl (by kernel_rfl) (by kernel_rfl) (by kernel_rfl) (by kernel_rfl) (fun _ _ _ h => h) (Or.inl ⟨by rfl, fun wl hSw => ?_⟩) hS0 ?_
  · (try dsimp only at hSw); go_simp
  refine wpAnyF_take (i := 3) (v := v) rfl (by kernel_rfl) (by kernel_rfl) (by kernel_rfl) (by kernel_rfl) (fun _ _ _ h => h) (Or.inl ⟨by rfl, fun wl hSw => ?_⟩) hS0 ?_
  · (try dsimp only at hSw); go_simp
  refine wpAnyF_free (i := 4) (v := .iface 143 (.agg #[.int .i64 p.st, .int .i64 p.rd, .int .i64 p.wt, .int .i64 p.cost])) rfl (by kernel_rfl) (by kernel_rfl) (by kernel_rfl) (by kernel_rfl) (fun _ _ _ h => h) (Or.inl ⟨by rfl, fun wl hSw => ?_⟩) hS0 ?_
  · (try dsimp only at hSw); go_simp
  refine wpAnyF_free (i := 5) (v := .agg #[.int .i64 p.st, .int .i64 p.rd, .int .i64 p.wt, .int .i64 p.cost]) rfl (by kernel_rfl) (by kernel_rfl) (by kernel_rfl) (by kernel_rfl) (fun _ _ _ h => h) (Or.inl ⟨by rfl, fun wl hSw => ?_⟩) hS0 ?_
  · (try dsimp only at hSw); go_simp
  refine wpAnyF_one (i := 6) rfl (by kernel_rfl) (fun K hK => ?_)
  go_simp
  have hbA := bel_up (bel_self Wd) (.cells #[.int .i64 (p.st : Int), .int .i64 (p.rd : Int), .int .i64 (p.wt : Int), .int .i64 p.cost] 143)
  refine hK.out _ _ ⟨fun _ => bel_c hbA c8, ?_⟩
  clear hK K
  refine wpAnyF_one (i := 7) rfl (by kernel_rfl) (fun K hK => ?_)
  refine if_wantedP rfl (wp_append_lies _ _ _ 135 rfl base 143 i0 (.agg #[.int .i64 0, .int .i64 0, .int .i64 0, .int .i64 0]) 4 32 Try.underlying135 hi hz0 hz1 hz2 rfl (by decide) v L.length (plsV L) rfl (hqd.row.alloc _) ⟨Wd.heap.size, 0, none⟩ 1 1 (plCells p) rfl rfl (cells_new _ #[.int .i64 p.st, .int .i64 p.rd, .int .i64 p.wt, .int .i64 p.cost] 143 Wd.heap.size rfl) (oneCell_pl p) (by omega) (by unfold maxLen; omega) (by omega) (by simp; omega) _ rfl ?_)
  intro g cap w2 hown hgrow hloc hlt
  have hBv : some B ≠ v.ownBlock := fun e => hqd.ne e.symm
  have hBA : B < (Wd.alloc (.cells #[.int .i64 (p.st : Int), .int .i64 (p.rd : Int), .int .i64 (p.wt : Int), .int .i64 p.cost] 143)).heap.size := Nat.lt_of_lt_of_le hBl hbA.size
  have c82 : w2.cell? ⟨B, 8, none⟩ = some v := (hgrow.cell_far ⟨B, 8, none⟩ hBA hBv).trans (bel_c hbA c8)
  have f82 : w2.frozen? ⟨B, 8, none⟩ = false := (hgrow.frozen_far ⟨B, 8, none⟩ hBA hBv).trans ((hbA.frozen (p := ⟨B, 8, none⟩) hBl).trans hqd.frz)
  have hgB : g ≠ B := by
    rcases hloc with e | e
    · exact fun e2 => hqd.ne (by rw [e, e2])
    · rw [e]; simp; omega
  have hst : QStep B w v w2 v := ((QStep.bel (cell_lt h.cell) hbd).trans (QStep.bel hBl hbA)).trans (QStep.grown hBA hgrow hBv)
  have hwd := hbd.size
  have hM : Hid (QAt base B (w2.setCell ⟨B, 8, none⟩ (.slice (some ⟨g, 0, none⟩) (L.length + 1) cap)) (.slice (some ⟨g, 0, none⟩) (L.length + 1) cap) (L ++ [p]) ∧ QStep B w v (w2.setCell ⟨B, 8, none⟩ (.slice (some ⟨g, 0, none⟩) (L.length + 1) cap)) (.slice (some ⟨g, 0, none⟩) (L.length + 1) cap)) := by
    have hfar : (Value.slice (some ⟨g, 0, none⟩) (L.length + 1) cap).ownBlock ≠ some B := by simpa [Value.ownBlock] using hgB
    have hput : QStep B w v (w2.setCell ⟨B, 8, none⟩ (.slice (some ⟨g, 0, none⟩) (L.length + 1) cap)) (.slice (some ⟨g, 0, none⟩) (L.length + 1) cap) := by
      refine hst.putTo (fun g' hg' => ?_)
      have e' : some g = some g' := hg'
      injection e' with e'
      subst e'
      rcases hloc with e | e
      · exact Or.inl e
      · right; rw [e]; simp; omega
    refine ⟨⟨World.cell?_setCell_same _ _ _ c82, by rw [World.frozen?_setCell]; exact f82, ?_, hfar, (by have h1 := hbA.size; have h2 := hgrow.size; simp only [World.setCell, Array.size_modify]; omega)⟩, hput⟩
    rw [plsV_snoc, List.length_append, List.length_singleton]
    exact ownsRow_setCell_far hown hfar
  refine hK.out _ _ ⟨fun _ => c82, ?_⟩
  clear hK K
  refine wpAnyF_free (i := 8) (v := .pointer (some ⟨B, 8, none⟩)) rfl (by kernel_rfl) (by kernel_rfl) (by kernel_rfl) (by kernel_rfl) (fun _ _ _ h => h) (Or.inl ⟨by rfl, fun wl hSw => ?_⟩) c82 ?_
  · (try dsimp only at hSw); go_simp
  refine wpAnyF_one (i := 9) rfl (by kernel_rfl) (fun K hK => ?_)
  go_simp
  refine hK.out _ _ ⟨fun h => absurd h (unl_no (by kernel_rfl)), ?_⟩
  clear hK K
  refine wpAnyF_done (by kernel_rfl) ?_ _
  refine NoPanic.normal ?_
  go_wp2
  go_end0
  exact ⟨rfl, g, cap, hM.out⟩
theorem row_take {w : World} {B e g n cap m : Nat} {L : List PlD} (h : w.ownsRow B e 4 (.slice (some ⟨g, 0, none⟩) n cap) n (plsV L)) (hm : m ≤ n) : w.ownsRow B e 4 (.slice (some ⟨g, 0, none⟩) m cap) m (plsV (L.take m)) := by
  have hl0 := h.1
  rw [plsV_len] at hl0
  obtain ⟨_, h⟩ := h
  refine ⟨by rw [plsV_len, List.length_take, Nat.min_eq_left (by omega)], ?_⟩
  rcases h with ⟨h, _⟩ | ⟨g', cap', cur, he, hB, hh, h1, h2, h3, h4⟩
  · cases h
  · cases he
    refine Or.inr ⟨g, cap, cur, rfl, hB, hh, by omega, h2, h3, ?_⟩
    rw [plsV_take, ← h4, List.take_take, Nat.min_eq_left (by omega)]

set_option maxHeartbeats 1000000 in
set_option maxRecDepth 100000 in
theorem qPop_any (B base g cap n m : Nat) (L : List PlD) (p : PlD) (w : World) (hn : L.length = n) (hm : n = m + 1) (h : QAt base B w (.slice (some ⟨g, 0, none⟩) n cap) L) (hN : n ≤ 4000000000) (hp : p = L.getD m p0) :
    Calls Try.prog 210 #[.pointer (some ⟨B, 8, none⟩)] w fun e w' => e = .returned (.iface 143 (plV p)) ∧ QAt base B w' (.slice (some ⟨g, 0, none⟩) m cap) (L.take m) ∧ QStep B w (.slice (some ⟨g, 0, none⟩) n cap) w' (.slice (some ⟨g, 0, none⟩) m cap) := by
  unfold plV
  obtain ⟨Wd, hWd⟩ : ∃ Wd, Wd = w.drew := ⟨_, rfl⟩
  have hbd : Below w.heap.size w Wd := by rw [hWd]; exact (bel_self w).drew
  have hqd := h.bel hbd
  have c8 := hqd.cell
  have hrow := hqd.row
  rw [hn] at hrow
  have hBl := cell_lt c8
  have hgl := row_lt hrow
  obtain ⟨x0, x1, x2, x3⟩ := (PlsAt.of hrow).four m (by omega) p hp
  have hcap : n ≤ cap := by
    obtain ⟨_, hx⟩ := hrow
    rcases hx with ⟨hx, _⟩ | ⟨g', cap', cur, he, _, _, h1, _⟩
    · cases hx
    · cases he; exact h1
  have hS0 : (fun wx : World => wx.cell? ⟨B, 8, none⟩ = some (.slice (some ⟨g, 0, none⟩) n cap) ∧ wx.cell? ⟨g, m * 4, none⟩ = some (.int .i64 p.st) ∧ wx.cell? ⟨g, m * 4 + 1, none⟩ = some (.int .i64 p.rd) ∧ wx.cell? ⟨g, m * 4 + 2, none⟩ = some (.int .i64 p.wt) ∧ wx.cell? ⟨g, m * 4 + 3, none⟩ = some (.int .i64 p.cost)) Wd := ⟨c8, x0, x1, x2, x3⟩
  have hmi : (m : Int) < n := by omega
  have hmn : m ≤ n := by omega
  have HM : Hid (n = m + 1) := hm
  have HN : Hid (L.length = n) := hn
  have hci : (m : Int) ≤ cap := by omega
  clear hn hp hm
  go_enter Try.func210, Try.ntmps210
  go_wp2
  refine wp_region_noPanic ?_
  refine wp_region_F (fun wx => wx.cell? ⟨B, 8, none⟩ = some (.slice (some ⟨g, 0, none⟩) n cap) ∧ wx.cell? ⟨g, m * 4, none⟩ = some (.int .i64 p.st) ∧ wx.cell? ⟨g, m * 4 + 1, none⟩ = some (.int .i64 p.rd) ∧ wx.cell? ⟨g, m * 4 + 2, none⟩ = some (.int .i64 p.wt) ∧ wx.cell? ⟨g, m * 4 + 3, none⟩ = some (.int .i64 p.cost)) [11] (by kernel_rfl) (by rw [← hWd]; exact hS0) (fun _ => ?_)
  rw [← hWd]
  clear hWd
  refine wpAnyF_free (i := 0) (v := .pointer (some ⟨B, 8, none⟩)) rfl (by kernel_rfl) (by kernel_rfl) (by kernel_rfl) (by kernel_rfl) (fun _ _ _ h => h) (Or.inl ⟨by rfl, fun wl hSw => ?_⟩) hS0 ?_
  · (try dsimp only at hSw); go_simp
  refine wpAnyF_free (i := 1) (v := .pointer (some ⟨B, 8, none⟩)) rfl (by kernel_rfl) (by kernel_rfl) (by kernel_rfl) (by kernel_rfl) (fun _ _ _ h => h) (Or.inl ⟨by rfl, fun wl hSw => ?_⟩) hS0 ?_
  · (try dsimp only at hSw); go_simp
  refine wpAnyF_take (i := 2) (v := .slice (some ⟨g, 0, none⟩) n cap) rfl (by kernel_rfl) (by kernel_rfl) (by kernel_rfl) (by kernel_rfl) (fun _ _ _ h => h) (Or.inl ⟨by rfl, fun wl hSw => ?_⟩) hS0 ?_
  · (try dsimp only at hSw); go_simp
  refine wpAnyF_free (i := 3) (v := .pointer (some ⟨B, 8, none⟩)) rfl (by kernel_rfl) (by kernel_rfl) (by kernel_rfl) (by kernel_rfl) (fun _ _ _ h => h) (Or.inl ⟨by rfl, fun wl hSw => ?_⟩) hS0 ?_
  · (try dsimp only at hSw); go_simp
  refine wpAnyF_free (i := 4) (v := .pointer (some ⟨B, 8, none⟩)) rfl (by kernel_rfl) (by kernel_rfl) (by kernel_rfl) (by kernel_rfl) (fun _ _ _ h => h) (Or.inl ⟨by rfl, fun wl hSw => ?_⟩) hS0 ?_
  · (try dsimp only at hSw); go_simp
  refine wpAnyF_take (i := 5) (v := .slice (some ⟨g, 0, none⟩) n cap) rfl (by kernel_rfl) (by kernel_rfl) (by kernel_rfl) (by kernel_rfl) (fun _ _ _ h => h) (Or.inl ⟨by rfl, fun wl hSw => ?_⟩) hS0 ?_
  · (try dsimp only at hSw); go_simp
  refine wpAnyF_free (i := 6) (v := .int .i64 n) rfl (by kernel_rfl) (by kernel_rfl) (by kernel_rfl) (by kernel_rfl) (fun _ _ _ h => h) (Or.inl ⟨by rfl, fun wl hSw => ?_⟩) hS0 ?_
  · (try dsimp only at hSw); go_simp
  refine wpAnyF_free (i := 7) (v := .int .i64 m) rfl (by kernel_rfl) (by kernel_rfl) (by kernel_rfl) (by kernel_rfl) (fun _ _ _ h => h) (Or.inl ⟨by rfl, fun wl hSw => ?_⟩) hS0 ?_
  · (try dsimp only at hSw); go_simp; rw [wrap_in _ (by omega) (by omega)]; have := HM.out; omega
  refine wpAnyF_free (i := 8) (v := .pointer (some ⟨g, m * 4, none⟩)) rfl (by kernel_rfl) (by kernel_rfl) (by kernel_rfl) (by kernel_rfl) (fun _ _ _ h => h) (Or.inl ⟨by rfl, fun wl hSw => ?_⟩) hS0 ?_
  · (try dsimp only at hSw); go_simp
  refine wpAnyF_take (i := 9) (v := .agg #[.int .i64 p.st, .int .i64 p.rd, .int .i64 p.wt, .int .i64 p.cost]) rfl (by kernel_rfl) (by kernel_rfl) (by kernel_rfl) (by kernel_rfl) (fun _ _ _ h => h) (Or.inl ⟨by rfl, fun wl hSw => ?_⟩) hS0 ?_
  · (try dsimp only at hSw); go_simp
  refine wpAnyF_one (i := 10) rfl (by kernel_rfl) (fun K hK => ?_)
  go_simp
  have hbZ := bel_up (bel_self Wd) (.cells #[.int .i64 0, .int .i64 0, .int .i64 0, .int .i64 0] 143)
  refine hK.out _ _ ⟨fun _ => ⟨bel_c hbZ c8, bel_c hbZ x0, bel_c hbZ x1, bel_c hbZ x2, bel_c hbZ x3⟩, ?_⟩
  clear hK K
  refine wpAnyF_one (i := 11) rfl (by kernel_rfl) (fun K hK => ?_)
  go_simp
  refine hK.out _ _ ⟨fun h => absurd h (unl_no (by kernel_rfl)), ?_⟩
  clear hK K
  refine wpAnyF_done (by kernel_rfl) ?_ _
  refine NoPanic.normal ?_
  go_wp2
  have hbA := bel_up (bel_self Wd) (.cells #[.int .i64 (p.st : Int), .int .i64 (p.rd : Int), .int .i64 (p.wt : Int), .int .i64 p.cost] 143)
  obtain ⟨We, hWe⟩ : ∃ We, We = (Wd.alloc (.cells #[.int .i64 (p.st : Int), .int .i64 (p.rd : Int), .int .i64 (p.wt : Int), .int .i64 p.cost] 143)).drew := ⟨_, rfl⟩
  have hbE : Below Wd.heap.size Wd We := by rw [hWe]; exact hbA.drew
  have y0 : We.cell? ⟨Wd.heap.size, 0, none⟩ = some (.int .i64 p.st) := by rw [hWe]; exact drew_cell (new_cell _ _ _ _ 0 _ rfl rfl)
  have y1 : We.cell? ⟨Wd.heap.size, 1, none⟩ = some (.int .i64 p.rd) := by rw [hWe]; exact drew_cell (new_cell _ _ _ _ 1 _ rfl rfl)
  have y2 : We.cell? ⟨Wd.heap.size, 2, none⟩ = some (.int .i64 p.wt) := by rw [hWe]; exact drew_cell (new_cell _ _ _ _ 2 _ rfl rfl)
  have y3 : We.cell? ⟨Wd.heap.size, 3, none⟩ = some (.int .i64 p.cost) := by rw [hWe]; exact drew_cell (new_cell _ _ _ _ 3 _ rfl rfl)
  have hqE := hqd.bel hbE
  have c8E := hqE.cell
  have f8E := hqE.frz
  have hS1 : (fun wx : World => wx.cell? ⟨B, 8, none⟩ = some (.slice (some ⟨g, 0, none⟩) n cap)) We := c8E
  refine wp_region_noPanic ?_
  refine wp_region_F (fun wx => wx.cell? ⟨B, 8, none⟩ = some (.slice (some ⟨g, 0, none⟩) n cap)) [11] (by kernel_rfl) (by rw [← hWe]; exact hS1) (fun _ => ?_)
  rw [← hWe]
  clear hWe x0 x1 x2 x3 c8 hS0
  refine wpAnyF_free (i := 0) (v := .pointer (some ⟨B, 8, none⟩)) rfl (by kernel_rfl) (by kernel_rfl) (by kernel_rfl) (by kernel_rfl) (fun _ _ _ h => h) (Or.inl ⟨by rfl, fun wl hSw => ?_⟩) hS1 ?_
  · (try dsimp only at hSw); go_simp
  refine wpAnyF_free (i := 1) (v := .pointer (some ⟨B, 8, none⟩)) rfl (by kernel_rfl) (by kernel_rfl) (by kernel_rfl) (by kernel_rfl) (fun _ _ _ h => h) (Or.inl ⟨by rfl, fun wl hSw => ?_⟩) hS1 ?_
  · (try dsimp only at hSw); go_simp
  refine wpAnyF_free (i := 2) (v := .pointer (some ⟨B, 8, none⟩)) rfl (by kernel_rfl) (by kernel_rfl) (by kernel_rfl) (by kernel_rfl) (fun _ _ _ h => h) (Or.inl ⟨by rfl, fun wl hSw => ?_⟩) hS1 ?_
  · (try dsimp only at hSw); go_simp
  refine wpAnyF_take (i := 3) (v := .slice (some ⟨g, 0, none⟩) n cap) rfl (by kernel_rfl) (by kernel_rfl) (by kernel_rfl) (by kernel_rfl) (fun _ _ _ h => h) (Or.inl ⟨by rfl, fun wl hSw => ?_⟩) hS1 ?_
  · (try dsimp only at hSw); go_simp
  refine wpAnyF_free (i := 4) (v := .pointer (some ⟨B, 8, none⟩)) rfl (by kernel_rfl) (by kernel_rfl) (by kernel_rfl) (by kernel_rfl) (fun _ _ _ h => h) (Or.inl ⟨by rfl, fun wl hSw => ?_⟩) hS1 ?_
  · (try dsimp only at hSw); go_simp
  refine wpAnyF_free (i := 5) (v := .pointer (some ⟨B, 8, none⟩)) rfl (by kernel_rfl) (by kernel_rfl) (by kernel_rfl) (by kernel_rfl) (fun _ _ _ h => h) (Or.inl ⟨by rfl, fun wl hSw => ?_⟩) hS1 ?_
  · (try dsimp only at hSw); go_simp
  refine wpAnyF_take (i := 6) (v := .slice (some ⟨g, 0, none⟩) n cap) rfl (by kernel_rfl) (by kernel_rfl) (by kernel_rfl) (by kernel_rfl) (fun _ _ _ h => h) (Or.inl ⟨by rfl, fun wl hSw => ?_⟩) hS1 ?_
  · (try dsimp only at hSw); go_simp
  refine wpAnyF_free (i := 7) (v := .int .i64 n) rfl (by kernel_rfl) (by kernel_rfl) (by kernel_rfl) (by kernel_rfl) (fun _ _ _ h => h) (Or.inl ⟨by rfl, fun wl hSw => ?_⟩) hS1 ?_
  · (try dsimp only at hSw); go_simp
  refine wpAnyF_free (i := 8) (v := .int .i64 m) rfl (by kernel_rfl) (by kernel_rfl) (by kernel_rfl) (by kernel_rfl) (fun _ _ _ h => h) (Or.inl ⟨by rfl, fun wl hSw => ?_⟩) hS1 ?_
  · (try dsimp only at hSw); go_simp; rw [wrap_in _ (by omega) (by omega)]; have := HM.out; omega
  refine wpAnyF_free (i := 9) (v := .slice (some ⟨g, 0, none⟩) m cap) rfl (by kernel_rfl) (by kernel_rfl) (by kernel_rfl) (by kernel_rfl) (fun _ _ _ h => h) (Or.inl ⟨by rfl, fun wl hSw => ?_⟩) hS1 ?_
  · (try dsimp only at hSw); go_simp
  refine wpAnyF_free (i := 10) (v := .pointer (some ⟨B, 8, none⟩)) rfl (by kernel_rfl) (by kernel_rfl) (by kernel_rfl) (by kernel_rfl) (fun _ _ _ h => h) (Or.inl ⟨by rfl, fun wl hSw => ?_⟩) hS1 ?_
  · (try dsimp only at hSw); go_simp
  refine wpAnyF_one (i := 11) rfl (by kernel_rfl) (fun K hK => ?_)
  go_simp
  refine hK.out _ _ ⟨fun h => absurd h (unl_no (by kernel_rfl)), ?_⟩
  clear hK K
  refine wpAnyF_done (by kernel_rfl) ?_ _
  refine NoPanic.normal ?_
  have hBW : Wd.heap.size ≠ B := by omega
  have z0 := (set_far (i := 8) (v := .slice (some ⟨g, 0, none⟩) m cap) hBW).trans y0
  have z1 := (set_far (i := 8) (v := .slice (some ⟨g, 0, none⟩) m cap) hBW).trans y1
  have z2 := (set_far (i := 8) (v := .slice (some ⟨g, 0, none⟩) m cap) hBW).trans y2
  have z3 := (set_far (i := 8) (v := .slice (some ⟨g, 0, none⟩) m cap) hBW).trans y3
  have hgB : g ≠ B := fun e => hqd.ne (by rw [← e]; rfl)
  have hfar : (Value.slice (some ⟨g, 0, none⟩) m cap).ownBlock ≠ some B := by simpa [Value.ownBlock] using hgB
  have hst : QStep B w (.slice (some ⟨g, 0, none⟩) n cap) (We.setCell ⟨B, 8, none⟩ (.slice (some ⟨g, 0, none⟩) m cap)) (.slice (some ⟨g, 0, none⟩) m cap) := ((QStep.bel (cell_lt h.cell) hbd).trans (QStep.bel hBl hbE)).putTo (fun g' hg' => Or.inl hg')
  have HQ : Hid (QAt base B (We.setCell ⟨B, 8, none⟩ (.slice (some ⟨g, 0, none⟩) m cap)) (.slice (some ⟨g, 0, none⟩) m cap) (L.take m)) := by
    refine ⟨World.cell?_setCell_same _ _ _ c8E, by rw [World.frozen?_setCell]; exact f8E, ?_, hfar, Nat.le_trans h.base_le hst.size⟩
    have hlt : (L.take m).length = m := by rw [List.length_take, HN.out]; exact Nat.min_eq_left hmn
    rw [hlt]
    exact ownsRow_setCell_far (row_take (ownsRow_bel hrow hbE) hmn) hfar
  generalize We.setCell ⟨B, 8, none⟩ (.slice (some ⟨g, 0, none⟩) m cap) = Wf at *
  clear y0 y1 y2 y3 c8E f8E hS1
  go_wp2
  go_ret
  exact ⟨rfl, HQ.out, hst⟩
set_option maxHeartbeats 1000000 in
set_option maxRecDepth 100000 in
theorem hpush_any (B base : Nat) (v : Value) (L : List PlD) (p : PlD) (w : World) (h : QAt base B w v L) (hN : L.length ≤ 3000000000) (hh : HeapL PlD.cost p0 L L.length) :
    Calls Try.prog 162 #[.iface 145 (.pointer (some ⟨B, 8, none⟩)), .iface 143 (plV p)] w fun e w' => e = .returned (.tuple #[]) ∧ ∃ v' L', L'.Perm (p :: L) ∧ HeapL PlD.cost p0 L' L'.length ∧ QAt base B w' v' L' ∧ QStep B w v w' v' := by
  have hmp := mth_push ⟨B, 8, none⟩
  have HH : Hid (UpOk PlD.cost p0 (L ++ [p]) (L.length + 1) L.length) := hh.push p
  have hpl : (L ++ [p]).length = L.length + 1 := by simp
  have HPL : Hid ((L ++ [p]).length = L.length + 1) := hpl
  clear hh hpl
  obtain ⟨k, hk⟩ : ∃ k, k = L.length := ⟨_, rfl⟩
  have HK : Hid (k = L.length) := hk
  have hkN : k ≤ 3000000000 := by omega
  clear hk
  go_enter Try.func162, Try.ntmps162
  go_wp2_with (first
    | (go_at_call 211; refine (qPush_any B base v L p w h hN).mono ?_; rintro e w1 ⟨rfl, g, cap, hq1, hs1⟩; rw [← HK.out] at hq1 hs1; have hml := mth_len ⟨B, 8, none⟩ _ w1 hq1.cell)
    | (go_at_call 132; refine (qLen_any _ _ _ w1).mono ?_; rintro e w2 ⟨rfl, hw2⟩; obtain rfl := hw2.symm)
    | (go_at_call 184; refine (up_any B g (k + 1) cap base k (L ++ [p]) w1 (by rw [HPL.out, HK.out]) (by omega) hq1 (by omega) (by rw [HK.out]; exact HH.out)).mono ?_; rintro e w3 ⟨rfl, L', r1, r2, r3, r4⟩))
  go_end0
  have hL : L'.length = k + 1 := by rw [r1.length_eq, HPL.out, HK.out]
  exact ⟨rfl, _, L', r1.trans (List.perm_append_singleton p L), by rw [hL]; exact r2, r3, hs1.trans r4⟩

/-- the place that costs least comes out -/
def PopRes (base B : Nat) (w : World) (v : Value) (L : List PlD) (p : PlD) (w' : World) : Prop :=
  ∃ v' L', (p :: L').Perm L ∧ HeapL PlD.cost p0 L' L'.length ∧ (∀ q ∈ L', p.cost ≤ q.cost) ∧ QAt base B w' v' L' ∧ QStep B w v w' v'

set_option maxHeartbeats 1000000 in
set_option maxRecDepth 100000 in
theorem hpop_any (B base g cap n m : Nat) (L : List PlD) (w : World) (hn : L.length = n) (hm : n = m + 1) (h : QAt base B w (.slice (some ⟨g, 0, none⟩) n cap) L) (hN : n ≤ 4000000000) (hh : HeapL PlD.cost p0 L n) :
    Calls Try.prog 133 #[.iface 145 (.pointer (some ⟨B, 8, none⟩))] w fun e w' => ∃ p, e = .returned (.iface 143 (plV p)) ∧ PopRes base B w (.slice (some ⟨g, 0, none⟩) n cap) L p w' := by
  have hml := mth_len ⟨B, 8, none⟩ _ w h.cell
  have hms := mth_swap ⟨B, 8, none⟩ _ w h.cell
  have hmp := mth_pop ⟨B, 8, none⟩
  have hrow := h.row
  rw [hn] at hrow
  have HN : Hid (L.length = n) := hn
  have HM : Hid (n = m + 1) := hm
  have HH : Hid (HeapL PlD.cost p0 L n) := hh
  have HD : Hid (DownOk PlD.cost p0 (swapL p0 L 0 m) m 0) := by
    have h1 := hh
    rw [hm] at h1
    exact h1.pop (by omega)
  have hmn : m < n := by omega
  have hmi : (n : Int) - 1 = m := by omega
  clear hn hm hh
  go_enter Try.func133, Try.ntmps133
  go_wp2_with (first
    | (go_at_call 132; refine (qLen_any _ _ _ w).mono ?_; rintro e w2 ⟨rfl, hw2⟩; obtain rfl := hw2.symm)
    | (go_at_call 209; refine (qSwap 0 m g n cap base L w hrow (by omega) hmn).mono ?_; rintro e w3 ⟨rfl, hw3⟩; obtain ⟨q1, q2⟩ := h.swap HN.out 0 m (by omega) hmn; rw [← hw3] at q1 q2; clear hw3)
    | (go_at_call 163; refine (down_any B g n cap base m (swapL p0 L 0 m) w3 (by rw [swapL_len]; exact HN.out) hN hmn q1 HD.out).mono ?_; rintro e w4 ⟨⟨b, rfl⟩, L2, r1, r2, r3, r4, r5⟩)
    | (go_at_call 210; refine (qPop_any B base g cap n m L2 (L2.getD m p0) w4 (by rw [r1.length_eq, swapL_len]; exact HN.out) HM.out r4 hN rfl).mono ?_; rintro e w5 ⟨rfl, t1, t2⟩))
  go_ret
  have e0 : L2.getD m p0 = L.getD 0 p0 := by
    have hl := HN.out
    rw [r3, swapL_at L 0 m m (by omega) (by omega), if_pos rfl]
  have hl2 : L2.length = m + 1 := by rw [r1.length_eq, swapL_len, HN.out, HM.out]
  have hlt : (L2.take m).length = m := by rw [List.length_take, hl2]; omega
  have hp2 : (L2.getD m p0 :: L2.take m).Perm L := by
    have a1 : (L2.getD m p0 :: L2.take m).Perm (L2.take m ++ [L2.getD m p0]) := (List.perm_append_singleton _ _).symm
    rw [← take_last (d := p0) L2 m hl2] at a1
    have a2 : (swapL p0 L 0 m).Perm L := swapL_perm (d := p0) L 0 m (by have := HN.out; omega) (by have := HN.out; omega)
    exact (a1.trans r1).trans a2
  refine ⟨L2.getD m p0, rfl, _, L2.take m, hp2, by rw [hlt]; exact r2.take, fun q hq => ?_, t1, (q2.trans r5).trans t2⟩
  have hqL : q ∈ L := hp2.mem_iff.1 (List.mem_cons_of_mem _ hq)
  obtain ⟨i, hi, rfl⟩ := List.getElem_of_mem hqL
  have := HH.out.top i (by have := HN.out; omega)
  rw [e0]
  simpa [List.getD, hi] using this
end Go.Proofs.Yteehgcbjmdideaa
