/- 'PrintFst' of the document's answer. -/
import Derived.Test.YteehgcbjmdideaaDoorDigs
import Derived.Test.YteehgcbjmdideaaDoorBack
namespace Go.Proofs.YteehgcbjmdideaaDoor
open Go.RowKit
attribute [local go_sem ↓] Go.wp_at_zero Go.wp_at_succ

def InR (x : Int) : Prop := 0 ≤ x ∧ x ≤ 1000000000
theorem dgC {x : Int} (h : InR x) (wx : World) : Calls Tryd.prog 25 #[.int .i64 x] wx fun e w' => e = .returned (.string (strOf (Lib.itoa x))) ∧ Below wx.heap.size wx w' := digits_any x h.1 (by have := h.2; omega) wx
theorem dgS {x : Int} (h : InR x) : (strOf (Lib.itoa x)).size ≤ 21 := by rw [size_strOf]; exact itoa_le x ⟨by have := h.1; omega, by have := h.2; omega⟩

theorem text_head (A B : List UInt8) : ((((⟨#[115, 116, 97, 116, 101, 115, 32]⟩ ++ strOf A) ++ ⟨#[32, 115, 116, 97, 114, 116, 32]⟩) ++ strOf B) ++ ⟨#[10]⟩ : ByteArray) = strOf (lineB [bStates, A, bStart, B]) := by
  show ((((strOf [115, 116, 97, 116, 101, 115, 32] ++ strOf A) ++ strOf [32, 115, 116, 97, 114, 116, 32]) ++ strOf B) ++ strOf [10] : ByteArray) = _
  rw [strOf_append, strOf_append, strOf_append, strOf_append]
  congr 1
  simp [lineB, Lib.join_cons, Lib.joinTail, bStates, bStart]
theorem text_final (T : List UInt8) (A B : List UInt8) : (strOf T ++ ((((⟨#[102, 105, 110, 97, 108, 32]⟩ ++ strOf A) ++ ⟨#[32]⟩) ++ strOf B) ++ ⟨#[10]⟩) : ByteArray) = strOf (T ++ lineB [bFinal, A, B]) := by
  show (strOf T ++ ((((strOf [102, 105, 110, 97, 108, 32] ++ strOf A) ++ strOf [32]) ++ strOf B) ++ strOf [10]) : ByteArray) = _
  rw [strOf_append, strOf_append, strOf_append, strOf_append, strOf_append]
  congr 1
  simp [lineB, Lib.join_cons, Lib.joinTail, bFinal]
theorem text_arc (T : List UInt8) (A B C D E : List UInt8) : (strOf T ++ (((((((((strOf A ++ ⟨#[32]⟩) ++ strOf B) ++ ⟨#[32]⟩) ++ strOf C) ++ ⟨#[32]⟩) ++ strOf D) ++ ⟨#[32]⟩) ++ strOf E) ++ ⟨#[10]⟩) : ByteArray) = strOf (T ++ lineB [A, B, C, D, E]) := by
  show (strOf T ++ (((((((((strOf A ++ strOf [32]) ++ strOf B) ++ strOf [32]) ++ strOf C) ++ strOf [32]) ++ strOf D) ++ strOf [32]) ++ strOf E) ++ strOf [10]) : ByteArray) = _
  simp only [strOf_append]
  congr 1
  simp [lineB, Lib.join_cons, Lib.joinTail]

/-- the text so far -/
def textA (N s0 : Int) (xs : List Int) (m : Nat) (ars : List ArcD) (q : Nat) : List UInt8 := (headB N s0 ++ finalsB xs m) ++ arcsB ars q

set_option maxHeartbeats 4000000 in
set_option maxRecDepth 100000 in
theorem printFst_some (N s0 : Nat) (xs : List Int) (ars : List ArcD) (fb off fc : Nat) (aa : Option Addr) (n ac : Nat) (w : World) (hx : IntsAt w fb off N xs) (ha : ASlice w (.slice aa n ac) ars) (hal : ars.length = n) (hn : n ≤ 3000) (hN1 : 1 ≤ N) (hN : N ≤ 200) (hs0 : s0 < N)
    (hfi : ∀ x ∈ xs, x = -1 ∨ InR x) (hai : ∀ a ∈ ars, InR a.src ∧ InR a.inp ∧ InR a.out ∧ InR a.dst ∧ InR a.wt) :
    Calls Tryd.prog 9 #[.agg #[.int .i64 (N : Int), .int .i64 (s0 : Int), .slice (some ⟨fb, off, none⟩) N fc, .slice aa n ac]] w fun e w' => e = .returned (.string (strOf (printD ⟨N, s0, xs, ars⟩))) ∧ Below w.heap.size w w' := by
  have h1 : InR (N : Int) := ⟨by omega, by omega⟩
  have h2 : InR (s0 : Int) := ⟨by omega, by omega⟩
  have la := dgS h1
  have lb := dgS h2
  have hb0 := bel_up (bel_self w) (.cells #[.int .i64 (N : Int), .int .i64 (s0 : Int), .slice (some ⟨fb, off, none⟩) N fc, .slice aa n ac] 25)
  have hcF : CellsF (w.alloc (.cells #[.int .i64 (N : Int), .int .i64 (s0 : Int), .slice (some ⟨fb, off, none⟩) N fc, .slice aa n ac] 25)) w.heap.size (N : Int) (s0 : Int) (.slice (some ⟨fb, off, none⟩) N fc) (.slice aa n ac) := by simp [CellsF]
  have hx0 := hx.below hb0
  have ha0 := ha.below hb0
  have HHE : Hid (((((⟨#[115, 116, 97, 116, 101, 115, 32]⟩ ++ strOf (Lib.itoa N)) ++ ⟨#[32, 115, 116, 97, 114, 116, 32]⟩) ++ strOf (Lib.itoa s0)) ++ ⟨#[10]⟩ : ByteArray) = strOf (headB N s0)) := text_head _ _
  have HFL : Hid (xs.length = N) := hx.len
  have HAL : Hid (ars.length = n) := hal
  have HFI : Hid (∀ x ∈ xs, x = -1 ∨ InR x) := hfi
  have HAI : Hid (∀ a ∈ ars, InR a.src ∧ InR a.inp ∧ InR a.out ∧ InR a.dst ∧ InR a.wt) := hai
  have HFB : Hid (∀ k, k ≤ N → (headB N s0 ++ finalsB xs k).length ≤ 100 + 100 * k) := fun k hk => by
    have e1 := headB_le N s0 ⟨by omega, by omega⟩ ⟨by omega, by omega⟩
    have e2 := finalsB_le xs k (by omega) (fun x hx => by
      rcases hfi x hx with h | h
      · rw [h]; exact ⟨by decide, by decide⟩
      · exact ⟨by have := h.1; omega, by have := h.2; omega⟩) in64_z
    rw [List.length_append]; omega
  have HAB : Hid (∀ k, (arcsB ars k).length ≤ 120 * k) := fun k => arcsB_le ars k (fun a h => by
    obtain ⟨q1, q2, q3, q4, q5⟩ := hai a h
    refine ⟨⟨?_, ?_⟩, ⟨?_, ?_⟩, ⟨?_, ?_⟩, ⟨?_, ?_⟩, ⟨?_, ?_⟩⟩
    · have := q1.1; omega
    · have := q1.2; omega
    · have := q2.1; omega
    · have := q2.2; omega
    · have := q3.1; omega
    · have := q3.2; omega
    · have := q4.1; omega
    · have := q4.2; omega
    · have := q5.1; omega
    · have := q5.2; omega)
  clear hx ha hal hfi hai
  generalize hw1 : w.alloc (.cells #[.int .i64 (N : Int), .int .i64 (s0 : Int), .slice (some ⟨fb, off, none⟩) N fc, .slice aa n ac] 25) = w1 at *
  have hc0 := hcF
  obtain ⟨c0, c1, c2, c3⟩ := hc0
  have c0' := fun d os => cell_regrown c0 d os
  have c1' := fun d os => cell_regrown c1 d os
  go_enter Tryd.func9, Tryd.ntmps9
  go_wp2
  clear c0 c1 c2 c3
  refine wp_region_quiet_below (by kernel_rfl) (by kernel_rfl) ?_
  repeat (first | go_big_quiet_step ((go_at_call 25; exact Calls.regrown_of (dgC ‹InR _› _))) | quiet_step ((go_at_call 25; exact Calls.regrown_of (dgC ‹InR _› _))))
  refine wpQuiet_nil ?_
  intro w2 hw'
  have hb1 : Below w1.heap.size w1 w2 := by
    obtain ⟨⟨dq, osq⟩, hw''⟩ := hw'
    rw [hw'']
    exact below_regrown w1 dq osq
  clear hw'
  go_wp2
  rw [HHE.out]
  clear c0' c1'
  go_loopw [3, 4] (fun t i wr => ∃ k : Nat, k ≤ N ∧ t = .string (strOf (headB N s0 ++ finalsB xs k)) ∧ i = .int .i64 k ∧ Below w1.heap.size w1 wr) (fun _ i _ => N - (intOf i).toNat)
  case atStart => exact ⟨0, Nat.zero_le _, by simp [finalsB], rfl, hb1⟩
  case round =>
    obtain ⟨k, hk, rfl, rfl, hB⟩ := hrel
    have hcr := hcF.below hB
    obtain ⟨c0, c1, c2, c3⟩ := hcr
    have hT : (strOf (headB N s0 ++ finalsB xs k)).size ≤ 30000 := by rw [size_strOf]; have := HFB.out k hk; omega
    by_cases hlt : k < N
    · have hxr := hx0.below hB
      have hci := hxr.cell k hlt
      obtain ⟨x, hxk⟩ : ∃ x, x = xs.getD k 0 := ⟨_, rfl⟩
      rw [← hxk] at hci
      have hmem : x ∈ xs := by rw [hxk]; have := HFL.out; simp [List.getD, show k < xs.length by omega]
      have hki : (k : Int) < N := by omega
      rcases HFI.out x hmem with hm1 | hin
      · have hneg : x < 0 := by omega
        have HE : Hid (finalsB xs (k + 1) = finalsB xs k) := finalsB_miss xs k (by rw [← hxk]; exact hm1)
        clear hxk hm1
        go_wp2
        go_roundw
        case rel => exact ⟨k + 1, by omega, by rw [HE.out], by go_num, hB⟩
        case measure => simp [intOf]; omega
      · have hpos : 0 ≤ x := hin.1
        have hkR : InR (k : Int) := ⟨by omega, by omega⟩
        have l1 := dgS hin
        have l2 := dgS hkR
        have HE : Hid (finalsB xs (k + 1) = finalsB xs k ++ finalB k x) := finalsB_hit xs k x hxk (by omega)
        have HT : Hid ((strOf (headB N s0 ++ finalsB xs k) ++ ((((⟨#[102, 105, 110, 97, 108, 32]⟩ ++ strOf (Lib.itoa k)) ++ ⟨#[32]⟩) ++ strOf (Lib.itoa x)) ++ ⟨#[10]⟩) : ByteArray) = strOf ((headB N s0 ++ finalsB xs k) ++ finalB k x)) := text_final _ _ _
        have c2' := fun d os => cell_regrown c2 d os
        have hci' := fun d os => cell_regrown hci d os
        clear hxk hmem
        go_wp2
        clear c0 c1 c2 c3 hci
        refine wp_region_quiet_below (by kernel_rfl) (by kernel_rfl) ?_
        repeat (first | go_big_quiet_step ((go_at_call 25; exact Calls.regrown_of (dgC ‹InR _› _))) | quiet_step ((go_at_call 25; exact Calls.regrown_of (dgC ‹InR _› _))))
        refine wpQuiet_nil ?_
        intro w3 hw'
        have hb3 : Below wr.heap.size wr w3 := by
          obtain ⟨⟨dq, osq⟩, hw''⟩ := hw'
          rw [hw'']
          exact below_regrown wr dq osq
        clear hw'
        go_wp2
        go_roundw
        case rel => exact ⟨k + 1, by omega, congrArg Value.string (by rw [HT.out, HE.out, List.append_assoc]), by go_num, bel_on hB hb3⟩
        case measure => simp [intOf]; omega
    · have HKN : Hid (finalsB xs k = finalsB xs N) := (by rw [show k = N by omega] : finalsB xs k = finalsB xs N)
      go_wp2
      rename World => w4
      rw [HKN.out]
      clear c0 c1 c2 c3 hT
      go_loopw [3, 5] (fun t i wr => ∃ q : Nat, q ≤ n ∧ t = .string (strOf (textA N s0 xs N ars q)) ∧ i = .int .i64 q ∧ Below w1.heap.size w1 wr) (fun _ i _ => n - (intOf i).toNat)
      case atStart => exact ⟨0, Nat.zero_le _, by simp [textA, arcsB], rfl, hB⟩
      case round =>
        clear hB
        obtain ⟨q, hq, rfl, rfl, hB⟩ := hrel
        have hcr := hcF.below hB
        obtain ⟨c0, c1, c2, c3⟩ := hcr
        have hT : (strOf (textA N s0 xs N ars q)).size ≤ 500000 := by
          rw [size_strOf]; unfold textA; rw [List.length_append]; have := HFB.out N (Nat.le_refl _); have := HAB.out q; omega
        by_cases hlq : q < n
        · obtain ⟨b, boff, rfl, hxa⟩ := (ha0.below hB).some (by omega)
          obtain ⟨a, hak⟩ : ∃ a, a = ars.getD q a0 := ⟨_, rfl⟩
          have hql : q < ars.length := by have := HAL.out; omega
          have hmem : a ∈ ars := by rw [hak]; simp [List.getD, hql]
          obtain ⟨r1, r2, r3, r4, r5⟩ := HAI.out a hmem
          have e0 := hxa.c0 q hlq
          have e1 := hxa.c1 q hlq
          have e2 := hxa.c2 q hlq
          have e3 := hxa.c3 q hlq
          have e4 := hxa.c4 q hlq
          rw [← hak] at e0 e1 e2 e3 e4
          have hqi : (q : Int) < n := by omega
          have l1 := dgS r1
          have l2 := dgS r2
          have l3 := dgS r3
          have l4 := dgS r4
          have l5 := dgS r5
          have HE : Hid (arcsB ars (q + 1) = arcsB ars q ++ arcB a) := arcsB_succ ars q a hak
          have HT : Hid ((strOf (textA N s0 xs N ars q) ++ (((((((((strOf (Lib.itoa a.src) ++ ⟨#[32]⟩) ++ strOf (Lib.itoa a.inp)) ++ ⟨#[32]⟩) ++ strOf (Lib.itoa a.out)) ++ ⟨#[32]⟩) ++ strOf (Lib.itoa a.dst)) ++ ⟨#[32]⟩) ++ strOf (Lib.itoa a.wt)) ++ ⟨#[10]⟩) : ByteArray) = strOf (textA N s0 xs N ars q ++ arcB a)) := text_arc _ _ _ _ _ _
          obtain ⟨wa, hwa⟩ : ∃ wa, wa = wr.alloc (.cells #[.int .i64 a.src, .int .i64 a.inp, .int .i64 a.out, .int .i64 a.dst, .int .i64 a.wt] 55) := ⟨_, rfl⟩
          have hba : Below wr.heap.size wr wa := by rw [hwa]; exact bel_up (bel_self _) _
          have d0 : wa.cell? ⟨wr.heap.size, 0, none⟩ = some (.int .i64 a.src) := by rw [hwa]; exact new_cell _ _ _ _ 0 _ rfl rfl
          have d1 : wa.cell? ⟨wr.heap.size, 1, none⟩ = some (.int .i64 a.inp) := by rw [hwa]; exact new_cell _ _ _ _ 1 _ rfl rfl
          have d2 : wa.cell? ⟨wr.heap.size, 2, none⟩ = some (.int .i64 a.out) := by rw [hwa]; exact new_cell _ _ _ _ 2 _ rfl rfl
          have d3 : wa.cell? ⟨wr.heap.size, 3, none⟩ = some (.int .i64 a.dst) := by rw [hwa]; exact new_cell _ _ _ _ 3 _ rfl rfl
          have d4 : wa.cell? ⟨wr.heap.size, 4, none⟩ = some (.int .i64 a.wt) := by rw [hwa]; exact new_cell _ _ _ _ 4 _ rfl rfl
          have d0' := fun d os => cell_regrown d0 d os
          have d1' := fun d os => cell_regrown d1 d os
          have d2' := fun d os => cell_regrown d2 d os
          have d3' := fun d os => cell_regrown d3 d os
          have d4' := fun d os => cell_regrown d4 d os
          clear hak hmem hql hxa d0 d1 d2 d3 d4
          go_wp2
          rw [← hwa]
          clear c0 c1 c2 c3 e0 e1 e2 e3 e4 hwa
          refine wp_region_quiet_below (by kernel_rfl) (by kernel_rfl) ?_
          repeat (first | go_big_quiet_step ((go_at_call 25; exact Calls.regrown_of (dgC ‹InR _› _))) | quiet_step ((go_at_call 25; exact Calls.regrown_of (dgC ‹InR _› _))))
          refine wpQuiet_nil ?_
          intro w5 hw'
          have hb5 : Below wa.heap.size wa w5 := by
            obtain ⟨⟨dq, osq⟩, hw''⟩ := hw'
            rw [hw'']
            exact below_regrown wa dq osq
          clear hw'
          go_wp2
          go_roundw
          case rel => exact ⟨q + 1, by omega, congrArg Value.string (by rw [HT.out]; unfold textA; rw [HE.out, List.append_assoc]), by go_num, bel_on (bel_on hB hba) hb5⟩
          case measure => simp [intOf]; omega
        · have HQ : Hid (textA N s0 xs N ars q = printD ⟨N, s0, xs, ars⟩) := by
            show (headB N s0 ++ finalsB xs N) ++ arcsB ars q = headB N s0 ++ finalsB xs xs.length ++ arcsB ars ars.length
            rw [HFL.out, HAL.out, show q = n by omega]
          go_wp2
          exact bodyPost_ret (v := .string (strOf (textA N s0 xs N ars q))) (by simp [results, Tryd.results9, go_sem]) rfl ⟨by rw [HQ.out], bel_on hb0 hB⟩

end Go.Proofs.YteehgcbjmdideaaDoor
