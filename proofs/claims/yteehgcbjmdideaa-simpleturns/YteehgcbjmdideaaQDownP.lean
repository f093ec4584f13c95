/- 'down' of container/heap, over the queue. -/
import Derived.Test.YteehgcbjmdideaaQUpP
namespace Go.Proofs.Yteehgcbjmdideaa
open Go.RowKit
attribute [local go_sem ↓] Go.wp_at_zero Go.wp_at_succ

/-- the queue, its places turned about but for the last one -/
def QDown (base B : Nat) (w : World) (v : Value) (L : List PlD) (m : Nat) (w' : World) : Prop :=
  ∃ L', L'.Perm L ∧ HeapL PlD.cost p0 L' m ∧ L'.getD m p0 = L.getD m p0 ∧ QAt base B w' v L' ∧ QStep B w v w' v

set_option maxHeartbeats 2000000 in
set_option maxRecDepth 100000 in
theorem down_any (B g n cap base m : Nat) (L : List PlD) (w : World) (hn : L.length = n) (hN : n ≤ 4000000000) (hm : m < n) (h : QAt base B w (.slice (some ⟨g, 0, none⟩) n cap) L) (hd : DownOk PlD.cost p0 L m 0) :
    Calls Try.prog 163 #[.iface 145 (.pointer (some ⟨B, 8, none⟩)), .int .i64 0, .int .i64 m] w fun e w' => (∃ b, e = .returned (.bool b)) ∧ QDown base B w (.slice (some ⟨g, 0, none⟩) n cap) L m w' := by
  go_enter Try.func163, Try.ntmps163
  go_wp2
  go_loopw [7] (fun i wr => ∃ (k : Nat) (L' : List PlD), k < n ∧ i = .int .i64 k ∧ L'.Perm L ∧ DownOk PlD.cost p0 L' m k ∧ L'.getD m p0 = L.getD m p0 ∧ QAt base B wr (.slice (some ⟨g, 0, none⟩) n cap) L' ∧ QStep B w (.slice (some ⟨g, 0, none⟩) n cap) wr (.slice (some ⟨g, 0, none⟩) n cap)) (fun i _ => n - (intOf i).toNat)
  case atStart => exact ⟨0, L, by omega, rfl, List.Perm.refl _, hd, rfl, h, QStep.refl⟩
  case round =>
    obtain ⟨k, L', hk, rfl, hp, hD, hlast, hq, hs⟩ := hrel
    have HP : Hid (L'.Perm L) := hp
    have HD : Hid (DownOk PlD.cost p0 L' m k) := hD
    have HLS : Hid (L'.getD m p0 = L.getD m p0) := hlast
    have HL : Hid (L'.length = n) := hp.length_eq.trans hn
    have hrow := hq.row
    rw [HL.out] at hrow
    clear hp hD hd hn hlast
    by_cases h1 : m ≤ 2 * k + 1
    · have h1i : (m : Int) ≤ 2 * (k : Int) + 1 := by omega
      go_wp2
      go_ret
      exact ⟨⟨_, rfl⟩, L', HP.out, HD.out.done (fun x hx0 hxm hxk => by omega), HLS.out, hq, hs⟩
    · have h1i : 2 * (k : Int) + 1 < m := by omega
      have hj1 : 2 * k + 1 < n := by omega
      have hml := mth_less ⟨B, 8, none⟩ _ wr hq.cell
      by_cases h2 : 2 * k + 2 < m
      · have h2i : 2 * (k : Int) + 1 + 1 < m := by omega
        have hj2 : 2 * k + 2 < n := by omega
        by_cases hl2 : (L'.getD (2 * k + 2) p0).cost < (L'.getD (2 * k + 1) p0).cost
        · have HLE : Hid (∀ x, 0 < x → x < m → (x - 1) / 2 = k → (L'.getD (2 * k + 2) p0).cost ≤ (L'.getD x p0).cost) := fun x hx0 hxm hxk => by
            have hx : x = 2 * k + 1 ∨ x = 2 * k + 2 := by omega
            rcases hx with rfl | rfl <;> omega
          have hless1 := qLess_any (2 * k + 2) (2 * k + 1) g n cap L' wr (PlsAt.of hrow) hj2 hj1 true (by simpa using hl2)
          clear hl2
          by_cases hlt : (L'.getD (2 * k + 2) p0).cost < (L'.getD k p0).cost
          · have HLT : Hid ((L'.getD (2 * k + 2) p0).cost < (L'.getD k p0).cost) := hlt
            have hless := fun W hW => qLess_any (2 * k + 2) k g n cap L' W hW (by omega) hk true (by simpa using hlt)
            clear hlt
            go_wp2_with (first
              | (go_at_call 208; have _ := hml; clear hml; refine hless1.mono ?_; rintro e w1 ⟨rfl, hb1⟩; have hml1 := mth_less ⟨B, 8, none⟩ _ w1 (bel_c hb1 hq.cell))
              | (go_at_call 208; refine (hless w1 (PlsAt.of (ownsRow_bel hrow hb1))).mono ?_; rintro e w2 ⟨rfl, hb2⟩; have hms := mth_swap ⟨B, 8, none⟩ _ w2 ((hq.bel hb1).bel hb2).cell)
              | (go_at_call 209; refine (qSwap k (2 * k + 2) g n cap base L' w2 (ownsRow_bel (ownsRow_bel hrow hb1) hb2) hk (by omega)).mono ?_; rintro e w3 ⟨rfl, hw3⟩; obtain ⟨r1, r2⟩ := ((hq.bel hb1).bel hb2).swap HL.out k (2 * k + 2) hk (by omega); rw [← hw3] at r1 r2; clear hw3))
            have HSP : Hid ((swapL p0 L' k (2 * k + 2)).Perm L ∧ DownOk PlD.cost p0 (swapL p0 L' k (2 * k + 2)) m (2 * k + 2) ∧ (swapL p0 L' k (2 * k + 2)).getD m p0 = L.getD m p0) := by
              have hl := HL.out
              have q1 : (swapL p0 L' k (2 * k + 2)).Perm L' := swapL_perm (d := p0) L' k (2 * k + 2) (by omega) (by omega)
              refine ⟨q1.trans HP.out, HD.out.step (by omega) (by omega) (by omega) (by omega) HLT.out HLE.out, ?_⟩
              rw [swapL_at L' k (2 * k + 2) m (by omega) (by omega), if_neg (by omega), if_neg (by omega)]
              exact HLS.out
            go_roundw
            case rel => exact ⟨2 * k + 2, swapL p0 L' k (2 * k + 2), by omega, by go_num, HSP.out.1, HSP.out.2.1, HSP.out.2.2, r1, ((hs.trans (QStep.bel (cell_lt hq.cell) hb1)).trans (QStep.bel (cell_lt (hq.bel hb1).cell) hb2)).trans r2⟩
            case measure => simp [intOf]; omega
          · have HLT : Hid ((L'.getD k p0).cost ≤ (L'.getD (2 * k + 2) p0).cost) := Int.not_lt.1 hlt
            have hless := fun W hW => qLess_any (2 * k + 2) k g n cap L' W hW (by omega) hk false (by simpa using hlt)
            clear hlt
            go_wp2_with (first
              | (go_at_call 208; have _ := hml; clear hml; refine hless1.mono ?_; rintro e w1 ⟨rfl, hb1⟩; have hml1 := mth_less ⟨B, 8, none⟩ _ w1 (bel_c hb1 hq.cell))
              | (go_at_call 208; refine (hless w1 (PlsAt.of (ownsRow_bel hrow hb1))).mono ?_; rintro e w2 ⟨rfl, hb2⟩))
            go_ret
            exact ⟨⟨_, rfl⟩, L', HP.out, HD.out.done (fun x hx0 hxm hxk => by have a1 := HLE.out x hx0 hxm hxk; have a2 := HLT.out; omega), HLS.out, (hq.bel hb1).bel hb2, (hs.trans (QStep.bel (cell_lt hq.cell) hb1)).trans (QStep.bel (cell_lt (hq.bel hb1).cell) hb2)⟩
        · have HLE : Hid (∀ x, 0 < x → x < m → (x - 1) / 2 = k → (L'.getD (2 * k + 1) p0).cost ≤ (L'.getD x p0).cost) := fun x hx0 hxm hxk => by
            have hx : x = 2 * k + 1 ∨ x = 2 * k + 2 := by omega
            rcases hx with rfl | rfl <;> omega
          have hless1 := qLess_any (2 * k + 2) (2 * k + 1) g n cap L' wr (PlsAt.of hrow) hj2 hj1 false (by simpa using hl2)
          clear hl2
          by_cases hlt : (L'.getD (2 * k + 1) p0).cost < (L'.getD k p0).cost
          · have HLT : Hid ((L'.getD (2 * k + 1) p0).cost < (L'.getD k p0).cost) := hlt
            have hless := fun W hW => qLess_any (2 * k + 1) k g n cap L' W hW (by omega) hk true (by simpa using hlt)
            clear hlt
            go_wp2_with (first
              | (go_at_call 208; have _ := hml; clear hml; refine hless1.mono ?_; rintro e w1 ⟨rfl, hb1⟩; have hml1 := mth_less ⟨B, 8, none⟩ _ w1 (bel_c hb1 hq.cell))
              | (go_at_call 208; refine (hless w1 (PlsAt.of (ownsRow_bel hrow hb1))).mono ?_; rintro e w2 ⟨rfl, hb2⟩; have hms := mth_swap ⟨B, 8, none⟩ _ w2 ((hq.bel hb1).bel hb2).cell)
              | (go_at_call 209; refine (qSwap k (2 * k + 1) g n cap base L' w2 (ownsRow_bel (ownsRow_bel hrow hb1) hb2) hk (by omega)).mono ?_; rintro e w3 ⟨rfl, hw3⟩; obtain ⟨r1, r2⟩ := ((hq.bel hb1).bel hb2).swap HL.out k (2 * k + 1) hk (by omega); rw [← hw3] at r1 r2; clear hw3))
            have HSP : Hid ((swapL p0 L' k (2 * k + 1)).Perm L ∧ DownOk PlD.cost p0 (swapL p0 L' k (2 * k + 1)) m (2 * k + 1) ∧ (swapL p0 L' k (2 * k + 1)).getD m p0 = L.getD m p0) := by
              have hl := HL.out
              have q1 : (swapL p0 L' k (2 * k + 1)).Perm L' := swapL_perm (d := p0) L' k (2 * k + 1) (by omega) (by omega)
              refine ⟨q1.trans HP.out, HD.out.step (by omega) (by omega) (by omega) (by omega) HLT.out HLE.out, ?_⟩
              rw [swapL_at L' k (2 * k + 1) m (by omega) (by omega), if_neg (by omega), if_neg (by omega)]
              exact HLS.out
            go_roundw
            case rel => exact ⟨2 * k + 1, swapL p0 L' k (2 * k + 1), by omega, by go_num, HSP.out.1, HSP.out.2.1, HSP.out.2.2, r1, ((hs.trans (QStep.bel (cell_lt hq.cell) hb1)).trans (QStep.bel (cell_lt (hq.bel hb1).cell) hb2)).trans r2⟩
            case measure => simp [intOf]; omega
          · have HLT : Hid ((L'.getD k p0).cost ≤ (L'.getD (2 * k + 1) p0).cost) := Int.not_lt.1 hlt
            have hless := fun W hW => qLess_any (2 * k + 1) k g n cap L' W hW (by omega) hk false (by simpa using hlt)
            clear hlt
            go_wp2_with (first
              | (go_at_call 208; have _ := hml; clear hml; refine hless1.mono ?_; rintro e w1 ⟨rfl, hb1⟩; have hml1 := mth_less ⟨B, 8, none⟩ _ w1 (bel_c hb1 hq.cell))
              | (go_at_call 208; refine (hless w1 (PlsAt.of (ownsRow_bel hrow hb1))).mono ?_; rintro e w2 ⟨rfl, hb2⟩))
            go_ret
            exact ⟨⟨_, rfl⟩, L', HP.out, HD.out.done (fun x hx0 hxm hxk => by have a1 := HLE.out x hx0 hxm hxk; have a2 := HLT.out; omega), HLS.out, (hq.bel hb1).bel hb2, (hs.trans (QStep.bel (cell_lt hq.cell) hb1)).trans (QStep.bel (cell_lt (hq.bel hb1).cell) hb2)⟩
      · have h2i : (m : Int) ≤ 2 * (k : Int) + 1 + 1 := by omega
        have HLE : Hid (∀ x, 0 < x → x < m → (x - 1) / 2 = k → (L'.getD (2 * k + 1) p0).cost ≤ (L'.getD x p0).cost) := fun x hx0 hxm hxk => by
          have hx : x = 2 * k + 1 := by omega
          rw [hx]; exact Int.le_refl _
        by_cases hlt : (L'.getD (2 * k + 1) p0).cost < (L'.getD k p0).cost
        · have HLT : Hid ((L'.getD (2 * k + 1) p0).cost < (L'.getD k p0).cost) := hlt
          have hless := fun W hW => qLess_any (2 * k + 1) k g n cap L' W hW (by omega) hk true (by simpa using hlt)
          clear hlt
          go_wp2_with (first
            | (go_at_call 208; refine (hless wr (PlsAt.of hrow)).mono ?_; rintro e w2 ⟨rfl, hb2⟩; have hms := mth_swap ⟨B, 8, none⟩ _ w2 (hq.bel hb2).cell)
            | (go_at_call 209; refine (qSwap k (2 * k + 1) g n cap base L' w2 (ownsRow_bel hrow hb2) hk (by omega)).mono ?_; rintro e w3 ⟨rfl, hw3⟩; obtain ⟨r1, r2⟩ := (hq.bel hb2).swap HL.out k (2 * k + 1) hk (by omega); rw [← hw3] at r1 r2; clear hw3))
          have HSP : Hid ((swapL p0 L' k (2 * k + 1)).Perm L ∧ DownOk PlD.cost p0 (swapL p0 L' k (2 * k + 1)) m (2 * k + 1) ∧ (swapL p0 L' k (2 * k + 1)).getD m p0 = L.getD m p0) := by
            have hl := HL.out
            have q1 : (swapL p0 L' k (2 * k + 1)).Perm L' := swapL_perm (d := p0) L' k (2 * k + 1) (by omega) (by omega)
            refine ⟨q1.trans HP.out, HD.out.step (by omega) (by omega) (by omega) (by omega) HLT.out HLE.out, ?_⟩
            rw [swapL_at L' k (2 * k + 1) m (by omega) (by omega), if_neg (by omega), if_neg (by omega)]
            exact HLS.out
          go_roundw
          case rel => exact ⟨2 * k + 1, swapL p0 L' k (2 * k + 1), by omega, by go_num, HSP.out.1, HSP.out.2.1, HSP.out.2.2, r1, (hs.trans (QStep.bel (cell_lt hq.cell) hb2)).trans r2⟩
          case measure => simp [intOf]; omega
        · have HLT : Hid ((L'.getD k p0).cost ≤ (L'.getD (2 * k + 1) p0).cost) := Int.not_lt.1 hlt
          have hless := fun W hW => qLess_any (2 * k + 1) k g n cap L' W hW (by omega) hk false (by simpa using hlt)
          clear hlt
          go_wp2_with (first
            | (go_at_call 208; refine (hless wr (PlsAt.of hrow)).mono ?_; rintro e w2 ⟨rfl, hb2⟩))
          go_ret
          exact ⟨⟨_, rfl⟩, L', HP.out, HD.out.done (fun x hx0 hxm hxk => by have a1 := HLE.out x hx0 hxm hxk; have a2 := HLT.out; omega), HLS.out, hq.bel hb2, hs.trans (QStep.bel (cell_lt hq.cell) hb2)⟩
end Go.Proofs.Yteehgcbjmdideaa
