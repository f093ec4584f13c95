/- 'ReadFst' of the document's answer. -/
import Derived.Test.YteehgcbjmdideaaDoorReadH
import Derived.Deep.CutRange
import Derived.Deep.RegionHeld3
import Derived.Test.YteehgcbjmdideaaDoorRegU
namespace Go.Proofs.YteehgcbjmdideaaDoor
open Go.RowKit
attribute [local go_sem ↓] Go.wp_at_zero Go.wp_at_succ

set_option maxHeartbeats 1000000 in
set_option maxRecDepth 1000000 in
theorem readFst_long (s : ByteArray) (w : World) (hs : 100000 < s.size) (hm : s.size ≤ maxLen) :
    Calls Tryd.prog 15 #[.string s] w fun e w' => ParRes s e w' ∧ Below w.heap.size w w' := by
  unfold maxLen at hm
  have hp : parseD (listOf s) = ⟨fst0, 0, 2⟩ := by unfold parseD; rw [if_pos (by rw [listOf_len]; exact hs)]
  have HP : Hid (parseD (listOf s) = ⟨fst0, 0, 2⟩) := hp
  clear hp
  have hi : (100000 : Int) < (s.size : Int) := by omega
  go_enter Tryd.func15, Tryd.ntmps15
  go_wp2
  refine bodyPost_ret (v := .tuple #[.agg #[.int .i64 0, .int .i64 0, .slice none 0 0, .slice none 0 0], .int .i64 0, .int .i64 2]) (by simp [results, Tryd.results15, go_sem]) rfl ⟨parRes_bad HP.out, bel_up (bel_self _) _⟩

set_option maxHeartbeats 40000000 in
set_option maxRecDepth 1000000 in
theorem readFst_short (s : ByteArray) (w : World) (hs : s.size ≤ 100000) :
    Calls Tryd.prog 15 #[.string s] w fun e w' => ParRes s e w' ∧ Below w.heap.size w w' := by
  have hi : (s.size : Int) ≤ 100000 := by omega
  go_enter Tryd.func15, Tryd.ntmps15
  go_wp2_with (go_at_call 34; refine (cut10 s _ (by omega)).mono ?_; rintro e W0 ⟨⟨b, cap, ss, rfl, hst0, hb0, hf0, hc1, hc2⟩, hbW0⟩)
  have hz0 : ZBlock W0 w.heap.size := heap_bel hbW0 (heap_alloc_new w _)
  have hbw : Below w.heap.size w W0 := bel_on (bel_up (bel_self w) _) hbW0
  have hlen : ss.length ≤ 100001 := by
    have h := congrArg List.length hf0
    rw [splitOn_length] at h
    have h2 := List.count_le_length (a := (10 : UInt8)) (l := listOf s)
    rw [listOf_len] at h2
    simp only [fieldsOf, List.length_map] at h
    omega
  have HS : Hid (∀ x ∈ ss, x.size ≤ 100000) := by
    intro x hx
    have h := splitOn_le 10 (listOf s) (listOf x) (by rw [← hf0]; exact List.mem_map_of_mem hx)
    rw [listOf_len, listOf_len] at h
    omega
  have hpos : 0 < ss.length := by
    have h := congrArg List.length hf0
    rw [splitOn_length] at h
    simp only [fieldsOf, List.length_map] at h
    omega
  have HF0 : Hid (fieldsOf ss = splitOn 10 (listOf s)) := hf0
  have hwl : w.heap.size < W0.heap.size := heap_lt hz0
  clear hf0 hbW0
  go_loopw [7, 8] (fun t i wr => ∃ (k : Nat) (f : FstD) (last : Int) (fv av : Value), t = .int .i64 last ∧ i = .int .i64 k ∧ RI s ss W0 k f last fv av wr) (fun _ i _ => ss.length - (intOf i).toNat)
  case atStart =>
    refine ⟨0, fst0, -1, .slice none 0 0, .slice none 0 0, rfl, rfl, by rw [HF0.out]; rfl, hpos, by simp [fst0], fun _ => ⟨rfl, rfl, rfl⟩, fun h => absurd rfl h, ⟨?_, World.ownsRow_nil _ _ _ _, World.ownsRow_nil _ _ _ _, by simp [Value.ownBlock]⟩, bel_up (bel_self W0) _⟩
    exact heap_alloc_new W0 _
  case round =>
    obtain ⟨k, f, last, fv, av, rfl, rfl, hP⟩ := hrel
    have hlt := hP.lt
    obtain ⟨line, hline⟩ : ∃ line, line = ss.getD k ByteArray.empty := ⟨_, rfl⟩
    have hls : line.size ≤ 100000 := HS.out _ (by rw [hline]; simp [List.getD, hlt])
    have c0 : wr.cell? ⟨b, k, none⟩ = some (.string line) := by have := (hst0.below hP.bel).cell k hlt; rw [← hline] at this; simpa using this
    have HL : Hid (line = ss.getD k ByteArray.empty) := hline
    have hbel := bel_on hbw hP.bel
    have hzr := hz0.below hP.bel
    obtain ⟨aa, ac, hav⟩ := hP.rf.avform
    obtain ⟨fa, fn, fc, hfv, _, _⟩ := hP.rf.final.lenOf
    obtain ⟨r0, r1, r2, r3, -⟩ := ffacts hP.rf.blk
    have hone := hP.one
    clear hline
    subst hfv hav
    by_cases hend : k + 1 = ss.length
    · have hE : ((k : Int) == (ss.length : Int) - 1) = true := by rw [beq_iff_eq]; omega
      have hL1 : (1 : Int) ≤ (ss.length : Int) := by omega
      have hL2 : (ss.length : Int) ≤ 100001 := by omega
      have hltI : (k : Int) < (ss.length : Int) := by omega
      by_cases hem : k ≠ 0 ∧ listOf line = []
      · obtain ⟨hk0, hl0⟩ := hem
        have hrun := hP.done hend hk0 (by rw [← HL.out]; exact hl0)
        have hle : line = ⟨#[]⟩ := listOf_inj (by rw [hl0]; rfl)
        have hk0i : (0 : Int) < (k : Int) := by omega
        have hchk := checkFst_any f _ _ wr hP.rf.final hP.rf.arcsA
        subst hle
        clear hend hl0 hone hlen hpos hk0
        cases hc : (checkD f == 0)
        · have hc' : checkD f ≠ 0 := by simpa using hc
          have HPD : Hid (parseD (listOf s) = ⟨fst0, 0, checkD f⟩) := by
            show parseD (listOf s) = _
            unfold parseD
            rw [if_neg (by rw [listOf_len]; omega), hrun, if_neg (by simp), if_pos hc']
          clear hrun hc'
          go_wp2_with (go_at_call 8; refine hchk.mono ?_; rintro e w1 ⟨rfl, hb1⟩; obtain ⟨z0, z1, z2, z3, y0, y1, y2, y3⟩ := zfacts (hzr.below hb1))
          exact bodyPost_ret (v := .tuple #[.agg #[.int .i64 0, .int .i64 0, .slice none 0 0, .slice none 0 0], .int .i64 0, .int .i64 (checkD f)]) (by simp [results, Tryd.results15, go_sem, *]) rfl ⟨parRes_bad HPD.out, bel_four (bel_on hbel hb1) (Nat.le_refl _) _ _ _ _⟩
        · have hc' : checkD f = 0 := by simpa using hc
          have HPD : Hid (parseD (listOf s) = ⟨f, 0, 0⟩) := by
            show parseD (listOf s) = _
            unfold parseD
            rw [if_neg (by rw [listOf_len]; omega), hrun, if_neg (by simp), if_neg (by simpa using hc')]
          rw [hc'] at hchk
          clear hrun hc hc'
          go_wp2_with (go_at_call 8; refine hchk.mono ?_; rintro e w1 ⟨rfl, hb1⟩; obtain ⟨z0, z1, z2, z3, y0, y1, y2, y3⟩ := zfacts (hzr.below hb1); have hrf := hP.rf.below hb1; obtain ⟨t0, t1, t2, t3, -⟩ := ffacts hrf.blk)
          have hrd4 := (((hrf.set hwl 0 (.int .i64 f.states)).set hwl 1 (.int .i64 f.start)).set hwl 2 (.slice fa fn fc)).set hwl 3 (.slice aa f.arcs.length ac)
          refine bodyPost_ret (v := .tuple #[.agg #[.int .i64 f.states, .int .i64 f.start, .slice fa fn fc, .slice aa f.arcs.length ac], .int .i64 0, .int .i64 0]) (by simp [results, Tryd.results15, go_sem, *]) rfl ⟨?_, bel_four (bel_on hbel hb1) (Nat.le_refl _) _ _ _ _⟩
          unfold ParRes
          rw [HPD.out]
          exact ⟨_, _, rfl, hrd4.final, hrd4.arcsA⟩
      · as_aux_lemma =>
        have HPD : Hid (parseD (listOf s) = ⟨fst0, (k : Int) + 1, 1⟩) := hP.bad hs (Or.inl ⟨hend, by rw [← HL.out]; exact hem⟩)
        by_cases hk0 : k = 0
        · subst hk0
          have hL : ss.length = 1 := by omega
          clear hE hL1 hL2 hend hem hone hlen hpos hltI
          go_wp2_with (go_at_call 34; refine (cutWords line _ hls).mono ?_; rintro e w1 ⟨b1, cap1, rfl, hst1, hbb1, hcc1, hcd1, hb1⟩; obtain ⟨z0, z1, z2, z3, y0, y1, y2, y3⟩ := zfacts (hzr.below hb1))
          exact bodyPost_ret (v := .tuple #[.agg #[.int .i64 0, .int .i64 0, .slice none 0 0, .slice none 0 0], .int .i64 1, .int .i64 1]) (by simp [results, Tryd.results15, go_sem, *]) rfl ⟨parRes_bad (by simpa using HPD.out), bel_four (bel_on hbel hb1) (Nat.le_refl _) _ _ _ _⟩
        · have hk0i : (0 : Int) < (k : Int) := by omega
          have hk1i : ((k : Int) == 0) = false := by rw [beq_eq_false_iff_ne]; omega
          have hne : line.toList.isEmpty = false := by
            rw [ByteArray.toList_eq]
            cases hl : line.data.toList with
            | nil => exact absurd ⟨hk0, hl⟩ hem
            | cons a l => rfl
          obtain ⟨a, l, hw⟩ := wordsB_cons line
          have hcw := cutWords line wr hls
          have hwm := words_many line hls
          rw [hw, List.length_cons] at hcw hwm
          have hwm' : l.length ≤ 1000000 := by omega
          clear hend hem hone hlen hpos hk0
          by_cases ha : listOf a = bFinal
          · have ha' : a.toList = [102, 105, 110, 97, 108] := toList_data a _ ha
            clear ha hw
            rcases l with _ | ⟨c, l⟩
            · go_wp2_with (first | (go_at_call 34; refine hcw.mono ?_; rintro e w1 ⟨b1, cap1, rfl, hst1, hbb1, hcc1, hcd1, hb1⟩; have d0 := hst1.head; unfold maxLen at hcd1) | (go_at_call 35; refine (undig_zero _ _ _).mono ?_; rintro e w2 ⟨rfl, hw2⟩; obtain rfl := hw2))
              all_goals
                go_quiet (fail)
                obtain ⟨z0, z1, z2, z3, y0, y1, y2, y3⟩ := zfacts ((hzr.below hb1).below (bel_drewN (bel_self w1) nq))
                go_wp2
                exact bodyPost_ret (v := .tuple #[.agg #[.int .i64 0, .int .i64 0, .slice none 0 0, .slice none 0 0], .int .i64 ((k : Int) + 1), .int .i64 1]) (by simp [results, Tryd.results15, go_sem, *]) rfl ⟨parRes_bad HPD.out, bel_four (bel_drewN (bel_on hbel hb1) _) (Nat.le_refl _) _ _ _ _⟩
            · rw [List.length_cons] at hcw hwm'
              go_wp2_with (first | (go_at_call 34; refine hcw.mono ?_; rintro e w1 ⟨b1, cap1, rfl, hst1, hbb1, hcc1, hcd1, hb1⟩; have d0 := hst1.head; have ht1 : StrsAt w1 b1 1 (l.length + 1) (c :: l) := StrsAt.tail hst1; have hcap : ¬ cap1 = 1 := (by omega); unfold maxLen at hcd1) | (go_at_call 35; refine (undigits_any b1 1 (l.length + 1) (cap1 - 1) (c :: l) 2 w1 ht1 hwm').mono ?_; rintro e w2 ⟨⟨v2, q2, rfl, -⟩, hb2⟩))
              go_quiet (fail)
              obtain ⟨z0, z1, z2, z3, y0, y1, y2, y3⟩ := zfacts (((hzr.below hb1).below hb2).below (bel_drewN (bel_self w2) nq))
              go_wp2
              exact bodyPost_ret (v := .tuple #[.agg #[.int .i64 0, .int .i64 0, .slice none 0 0, .slice none 0 0], .int .i64 ((k : Int) + 1), .int .i64 1]) (by simp [results, Tryd.results15, go_sem, *]) rfl ⟨parRes_bad HPD.out, bel_four (bel_drewN (bel_on (bel_on hbel hb1) hb2) _) (Nat.le_refl _) _ _ _ _⟩
          · have ha2 : (a.toList == [102, 105, 110, 97, 108]) = false := by rw [beq_eq_false_iff_ne, ByteArray.toList_eq]; exact ha
            go_wp2_with (first | (go_at_call 34; refine hcw.mono ?_; rintro e w1 ⟨b1, cap1, rfl, hst1, hbb1, hcc1, hcd1, hb1⟩; have d0 := hst1.head; unfold maxLen at hcd1) | (go_at_call 35; refine (undigits_any b1 0 (l.length + 1) cap1 (a :: l) 5 w1 hst1 hwm).mono ?_; rintro e w2 ⟨⟨v2, q2, rfl, -⟩, hb2⟩; obtain ⟨z0, z1, z2, z3, y0, y1, y2, y3⟩ := zfacts ((hzr.below hb1).below hb2)))
            exact bodyPost_ret (v := .tuple #[.agg #[.int .i64 0, .int .i64 0, .slice none 0 0, .slice none 0 0], .int .i64 ((k : Int) + 1), .int .i64 1]) (by simp [results, Tryd.results15, go_sem, *]) rfl ⟨parRes_bad HPD.out, bel_four (bel_on (bel_on hbel hb1) hb2) (Nat.le_refl _) _ _ _ _⟩
    · have hE : ((k : Int) == (ss.length : Int) - 1) = false := by rw [beq_eq_false_iff_ne]; omega
      have hL1 : (1 : Int) ≤ (ss.length : Int) := by omega
      have hL2 : (ss.length : Int) ≤ 100001 := by omega
      have hltI : (k : Int) < (ss.length : Int) := by omega
      have hk1 : k + 1 < ss.length := by omega
      clear hend
      by_cases hk0 : k = 0
      · subst hk0
        obtain ⟨hf, hfvn, havn⟩ := hone rfl
        subst hf
        obtain ⟨rfl, rfl, rfl⟩ : fa = none ∧ fn = 0 ∧ fc = 0 := by cases hfvn; exact ⟨rfl, rfl, rfl⟩
        have hFB : FBlock wr W0.heap.size 0 0 (.slice none 0 0) (.slice none 0 0) := by have := hP.rf.blk; rw [havn] at this; exact this
        have HP : Hid (RI s ss W0 0 fst0 last (.slice none 0 0) (.slice none 0 0) wr) := by rw [havn] at hP; exact hP
        have hcw := cutWords line wr hls
        have hL3 : (2 : Int) ≤ (ss.length : Int) := by omega
        have hE' : ((0 : Int) == (ss.length : Int) - 1) = false := by rw [beq_eq_false_iff_ne]; omega
        have hsl := heap_lt hFB
        clear hone hpos r0 r1 r2 r3 havn hfvn hP
        cases hst : stepHead (listOf line) with
        | none =>
          as_aux_lemma =>
          have HPD : Hid (parseD (listOf s) = ⟨fst0, ((0 : Nat) : Int) + 1, 1⟩) := HP.out.bad hs (Or.inr ⟨hk1, by rw [← HL.out]; simp [stepL, fst0, hst]⟩)
          have HN : Hid (stepHead (listOf line) = none) := hst
          clear hst
          by_cases h4 : (wordsB line).length = 4
          · obtain ⟨p, q, r, t, hw⟩ := len4 _ h4
            have HE : Hid (fieldsOf [p, q, r, t] = splitOn 32 (listOf line)) := by rw [← hw]; exact wordsB_eq line
            have hsz := wordsB_size line
            rw [h4, hw] at hcw
            rw [hw] at hsz
            clear h4 hw
            by_cases hp : listOf p = bStates
            · have hp' : p.toList = [115, 116, 97, 116, 101, 115] := toList_data p _ hp
              by_cases hr : listOf r = bStart
              · have hr' : r.toList = [115, 116, 97, 114, 116] := toList_data r _ hr
                have hqs : q.size ≤ 100000 := Nat.le_trans (hsz q (by simp)) hls
                have hts : t.size ≤ 100000 := Nat.le_trans (hsz t (by simp)) hls
                cases hnb : numsB (fieldsOf [q, t]) with
                | none =>
                  have HNU : Hid (numsB (fieldsOf [q, t]) = none ∨ ((2 : Nat) : Int) ≠ 2) := Or.inl hnb
                  clear hnb hp hr hsz
                  go_wp2_with (go_at_call 34; refine hcw.mono ?_; rintro e w1 ⟨b1, cap1, rfl, hst1, hbb1, hcc1, hcd1, hb1⟩; have d0 := str4_0 hst1; have d1 := str4_1 hst1; have d2 := str4_2 hst1; have d3 := str4_3 hst1; unfold maxLen at hcd1)
                  go_region_held3 (fun wx => wx.cell? ⟨b1, 1, none⟩ = some (.string q) ∧ wx.cell? ⟨b1, 3, none⟩ = some (.string t))
                    (first | exact ⟨drew_cell d1, drew_cell d3⟩ | (go_split_ands; exact ⟨bel_c hbw2 (old_cell (by assumption)), bel_c hbw2 (old_cell (by assumption))⟩) | (go_split_ands; exact ⟨old_cell (by assumption), old_cell (by assumption)⟩) | go_keep)
                    ((go_at_call 35; refine (undig_none w1.heap.size 0 2 2 [q, t] 2 _ (two_new w1.drew q t w1.heap.size rfl hqs hts) two_le HNU.out).mono ?_; rintro e w2 ⟨rfl, hbw2⟩))
                  have hb2 : Below wr.heap.size wr w2 := bel_on (bel_up hb1.drew _) hbw2
                  obtain ⟨z0, z1, z2, z3, y0, y1, y2, y3⟩ := zfacts (hzr.below hb2)
                  go_wp2
                  exact bodyPost_ret (v := .tuple #[.agg #[.int .i64 0, .int .i64 0, .slice none 0 0, .slice none 0 0], .int .i64 1, .int .i64 1]) (by simp [results, Tryd.results15, go_sem, *]) rfl ⟨parRes_bad (by simpa using HPD.out), bel_four (bel_on hbel hb2) (Nat.le_refl _) _ _ _ _⟩
                | some ns =>
                  obtain ⟨x, y, rfl⟩ : ∃ x y, ns = [x, y] := by
                    have := numsB_length _ _ hnb
                    match ns, this with
                    | [x, y], _ => exact ⟨x, y, rfl⟩
                  have hx : inB x 1 200 = false := by
                    cases hq : inB x 1 200 with
                    | false => rfl
                    | true =>
                      exfalso
                      have h1 := HN.out
                      unfold stepHead at h1
                      rw [← HE.out] at h1
                      simp only [numsB, fieldsOf, List.map_cons, List.map_nil, List.mapM_cons, List.mapM_nil] at hnb
                      cases q1 : numB (listOf q) with
                      | none => simp [q1] at hnb
                      | some u =>
                        cases q2 : numB (listOf t) with
                        | none => simp [q1, q2] at hnb
                        | some v =>
                          simp [q1, q2] at hnb
                          obtain ⟨rfl, rfl⟩ := hnb
                          simp [fieldsOf, hp, hr, q1, q2, hq] at h1
                  have HNU : Hid (numsB (fieldsOf [q, t]) = some [x, y]) := hnb
                  clear hnb hp hr hsz
                  go_wp2_with (go_at_call 34; refine hcw.mono ?_; rintro e w1 ⟨b1, cap1, rfl, hst1, hbb1, hcc1, hcd1, hb1⟩; have d0 := str4_0 hst1; have d1 := str4_1 hst1; have d2 := str4_2 hst1; have d3 := str4_3 hst1; unfold maxLen at hcd1)
                  go_region_held3 (fun wx => wx.cell? ⟨b1, 1, none⟩ = some (.string q) ∧ wx.cell? ⟨b1, 3, none⟩ = some (.string t))
                    (first | exact ⟨drew_cell d1, drew_cell d3⟩ | (go_split_ands; exact ⟨bel_c hbw2 (old_cell (by assumption)), bel_c hbw2 (old_cell (by assumption))⟩) | (go_split_ands; exact ⟨old_cell (by assumption), old_cell (by assumption)⟩) | go_keep)
                    ((go_at_call 35; refine (undig_some w1.heap.size 0 2 2 [q, t] [x, y] 2 _ (two_new w1.drew q t w1.heap.size rfl hqs hts) two_le HNU.out two_pos rfl).mono ?_; rintro e w2 ⟨g, o, cc, rfl, hI, hbw2, hg⟩))
                  have hb2 : Below wr.heap.size wr w2 := bel_on (bel_up hb1.drew _) hbw2
                  have i0 : w2.cell? ⟨g, o, none⟩ = some (.int .i64 x) := by have := hI.cell 0 (by omega); simpa using this
                  obtain ⟨z0, z1, z2, z3, y0, y1, y2, y3⟩ := zfacts (hzr.below hb2)
                  go_wp2_with (go_at_call 23; refine (between_any _ _ _ _).mono ?_; rintro e w3 ⟨rfl, hw3⟩; obtain rfl := hw3.symm)
                  exact bodyPost_ret (v := .tuple #[.agg #[.int .i64 0, .int .i64 0, .slice none 0 0, .slice none 0 0], .int .i64 1, .int .i64 1]) (by simp [results, Tryd.results15, go_sem, *]) rfl ⟨parRes_bad (by simpa using HPD.out), bel_four (bel_on hbel hb2) (Nat.le_refl _) _ _ _ _⟩
              · have hr2 : (r.toList == [115, 116, 97, 114, 116]) = false := by rw [beq_eq_false_iff_ne, ByteArray.toList_eq]; exact hr
                clear hp hr
                go_wp2_with (go_at_call 34; refine hcw.mono ?_; rintro e w1 ⟨b1, cap1, rfl, hst1, hbb1, hcc1, hcd1, hb1⟩; have d0 := str4_0 hst1; have d2 := str4_2 hst1; unfold maxLen at hcd1; obtain ⟨z0, z1, z2, z3, y0, y1, y2, y3⟩ := zfacts (hzr.below hb1))
                exact bodyPost_ret (v := .tuple #[.agg #[.int .i64 0, .int .i64 0, .slice none 0 0, .slice none 0 0], .int .i64 1, .int .i64 1]) (by simp [results, Tryd.results15, go_sem, *]) rfl ⟨parRes_bad (by simpa using HPD.out), bel_four (bel_on hbel hb1) (Nat.le_refl _) _ _ _ _⟩
            · have hp2 : (p.toList == [115, 116, 97, 116, 101, 115]) = false := by rw [beq_eq_false_iff_ne, ByteArray.toList_eq]; exact hp
              clear hp
              go_wp2_with (go_at_call 34; refine hcw.mono ?_; rintro e w1 ⟨b1, cap1, rfl, hst1, hbb1, hcc1, hcd1, hb1⟩; have d0 := str4_0 hst1; unfold maxLen at hcd1; obtain ⟨z0, z1, z2, z3, y0, y1, y2, y3⟩ := zfacts (hzr.below hb1))
              exact bodyPost_ret (v := .tuple #[.agg #[.int .i64 0, .int .i64 0, .slice none 0 0, .slice none 0 0], .int .i64 1, .int .i64 1]) (by simp [results, Tryd.results15, go_sem, *]) rfl ⟨parRes_bad (by simpa using HPD.out), bel_four (bel_on hbel hb1) (Nat.le_refl _) _ _ _ _⟩
          · obtain ⟨K, hK⟩ : ∃ K, K = (wordsB line).length := ⟨_, rfl⟩
            rw [← hK] at hcw h4
            have hK1 : (K == 4) = false := by simpa using h4
            have hK2 : ((K : Int) == 4) = false := by rw [beq_eq_false_iff_ne]; omega
            have HKK : Hid (K = (wordsB line).length) := hK
            clear hK
            go_wp2_with (go_at_call 34; refine hcw.mono ?_; rintro e w1 ⟨b1, cap1, rfl, hst1, hbb1, hcc1, hcd1, hb1⟩; unfold maxLen at hcd1; obtain ⟨z0, z1, z2, z3, y0, y1, y2, y3⟩ := zfacts (hzr.below hb1))
            exact bodyPost_ret (v := .tuple #[.agg #[.int .i64 0, .int .i64 0, .slice none 0 0, .slice none 0 0], .int .i64 1, .int .i64 1]) (by simp [results, Tryd.results15, go_sem, *]) rfl ⟨parRes_bad (by simpa using HPD.out), bel_four (bel_on hbel hb1) (Nat.le_refl _) _ _ _ _⟩
        | some pp =>
          obtain ⟨x, y⟩ := pp
          obtain ⟨p, q, r, t, hw, hp, hr, hnq, hnt, hin⟩ := stepHead_out line x y hst
          have hsz := wordsB_size line
          have h4 : (wordsB line).length = 4 := by rw [hw]; rfl
          rw [h4, hw] at hcw
          rw [hw] at hsz
          have hqs : q.size ≤ 100000 := Nat.le_trans (hsz q (by simp)) hls
          have hts : t.size ≤ 100000 := Nat.le_trans (hsz t (by simp)) hls
          have hp' : p.toList = [115, 116, 97, 116, 101, 115] := toList_data p _ hp
          have hr' : r.toList = [115, 116, 97, 114, 116] := toList_data r _ hr
          have HNU : Hid (numsB (fieldsOf [q, t]) = some [x, y]) := by show numsB (fieldsOf [q, t]) = _; simp [numsB, fieldsOf, hnq, hnt]
          have HRUN : Hid (runL (splitOn 10 (listOf s)) 1 fst0 (-1) = runL ((fieldsOf ss).drop (0 + 1)) (0 + 1 + 1) ⟨x, y, List.replicate x.toNat (-1), []⟩ last) := (HP.out.next hk1 (⟨x, y, List.replicate x.toNat (-1), []⟩, last) (by rw [← HL.out]; simp [stepL, fst0, hst]) :)
          obtain ⟨hx1, hx2⟩ := inB_le hin
          obtain ⟨X, rfl⟩ : ∃ X : Nat, x = (X : Int) := ⟨x.toNat, by omega⟩
          have hX1 : 1 ≤ X := by omega
          have hX2 : X ≤ 200 := by omega
          clear hst hp hr hsz hw h4 hnq hnt hx1 hx2
          go_wp2_with (go_at_call 34; refine hcw.mono ?_; rintro e w1 ⟨b1, cap1, rfl, hst1, hbb1, hcc1, hcd1, hb1⟩; have d0 := str4_0 hst1; have d1 := str4_1 hst1; have d2 := str4_2 hst1; have d3 := str4_3 hst1; unfold maxLen at hcd1)
          go_region_held3 (fun wx => wx.cell? ⟨b1, 1, none⟩ = some (.string q) ∧ wx.cell? ⟨b1, 3, none⟩ = some (.string t))
            (first | exact ⟨drew_cell d1, drew_cell d3⟩ | (go_split_ands; exact ⟨bel_c hbw2 (old_cell (by assumption)), bel_c hbw2 (old_cell (by assumption))⟩) | (go_split_ands; exact ⟨old_cell (by assumption), old_cell (by assumption)⟩) | go_keep)
            ((go_at_call 35; refine (undig_some w1.heap.size 0 2 2 [q, t] [(X : Int), y] 2 _ (two_new w1.drew q t w1.heap.size rfl hqs hts) two_le HNU.out two_pos rfl).mono ?_; rintro e w2 ⟨g, o, cc, rfl, hI, hbw2, hg⟩))
          have hb2 : Below wr.heap.size wr w2 := bel_on (bel_up hb1.drew _) hbw2
          have i0 : w2.cell? ⟨g, o, none⟩ = some (.int .i64 (X : Int)) := by have := hI.cell 0 (by omega); simpa using this
          have i1 : w2.cell? ⟨g, o + 1, none⟩ = some (.int .i64 y) := by have := hI.cell 1 (by omega); simpa using this
          have hFB2 := hFB.below hb2
          have hgl : wr.heap.size ≤ g := by have := hb1.size; simp at hg; omega
          have hgs := cell_lt i0
          have hne : g ≠ W0.heap.size := by omega
          have hne' : W0.heap.size ≠ g := by omega
          obtain ⟨s0, s1, -, -, v0, v1, -, -⟩ := ffacts hFB2
          go_wp2_with (go_at_call 23; refine (between_any _ _ _ _).mono ?_; rintro e w3 ⟨rfl, hw3⟩; obtain rfl := hw3.symm)
          go_region
          have hFB3 : FBlock ((w2.setCell ⟨W0.heap.size, 0, none⟩ (.int .i64 (X : Int))).setCell ⟨W0.heap.size, 1, none⟩ (.int .i64 y)).drew W0.heap.size X y (.slice none 0 0) (.slice none 0 0) := Go.Joins.block_setCell (Go.Joins.block_setCell hFB2 _) _
          have hB3 : Below W0.heap.size W0 ((w2.setCell ⟨W0.heap.size, 0, none⟩ (.int .i64 (X : Int))).setCell ⟨W0.heap.size, 1, none⟩ (.int .i64 y)).drew := (((HP.out.bel.trans (hb2.mono HP.out.bel.size)).setCell (p := ⟨W0.heap.size, 0, none⟩) (Nat.le_refl _) _).setCell (p := ⟨W0.heap.size, 1, none⟩) (Nat.le_refl _) _).drew
          have j0 : ((w2.setCell ⟨W0.heap.size, 0, none⟩ (.int .i64 (X : Int))).setCell ⟨W0.heap.size, 1, none⟩ (.int .i64 y)).drew.cell? ⟨g, o, none⟩ = some (.int .i64 (X : Int)) := (set_far hne).trans ((set_far hne).trans i0)
          clear s0 s1 v0 v1 i0 i1 hFB2 hI hbw2 hb2 d0 d1 d2 d3 hst1
          generalize ((w2.setCell ⟨W0.heap.size, 0, none⟩ (.int .i64 (X : Int))).setCell ⟨W0.heap.size, 1, none⟩ (.int .i64 y)).drew = W3 at hFB3 hB3 j0 ⊢
          have hsl3 := heap_lt hFB3
          have hgs3 := cell_lt j0
          obtain ⟨i0, hi', hz0', hz1', hz2'⟩ := info_parts Tryd.info3
          go_wp2
          go_loopw [14] (fun i wx => ∃ (m : Nat) (fv' : Value), m ≤ X ∧ i = .int .i64 m ∧ FBlock wx W0.heap.size X y fv' (.slice none 0 0) ∧ wx.ownsRow W3.heap.size 3 1 fv' m (intsV (List.replicate m (-1))) ∧ wx.cell? ⟨g, o, none⟩ = some (.int .i64 (X : Int)) ∧ Below W0.heap.size W0 wx ∧ W3.heap.size ≤ wx.heap.size) (fun i _ => X - (intOf i).toNat)
          case atStart => exact ⟨0, .slice none 0 0, Nat.zero_le _, rfl, hFB3, World.ownsRow_nil _ _ _ _, j0, hB3, Nat.le_refl _⟩
          case round =>
            obtain ⟨m, fv', hm, rfl, hFm, hom, jm, hBm, hzm⟩ := hrel
            obtain ⟨-, -, f2, -, -, -, u2, -⟩ := ffacts hFm
            have hml := heap_lt hFm
            have hmg := cell_lt jm
            by_cases hlm : m < X
            · have hlmi : (m : Int) < (X : Int) := by omega
              go_wp2_with (at_builtin; refine wpList_append_own _ rfl _ _ 22 rfl W3.heap.size 3 i0 (.int .i64 0) 1 8 Tryd.underlying22 hi' hz0' hz1' hz2' rfl (by decide) _ _ _ rfl (hom.alloc _) ⟨wr.heap.size, 0, none⟩ 1 1 [.int .i64 (-1)] rfl rfl ?c1 ?c2 ?c3 ?c4 ?c5 ?_)
              case c1 =>
                intro j u hj
                match j, hj with
                | 0, hj => simp at hj; subst hj; simp [Addr.add]
              case c2 => intro u hu; simp at hu; subst hu; rfl
              case c3 => unfold maxLen; omega
              case c4 => omega
              case c5 => simp; omega
              intro v' w4 hown' hgrow _
              obtain ⟨gv, capv, hv', _, _⟩ := hown'.form (by omega)
              subst hv'
              have hfar : some W0.heap.size ≠ fv'.ownBlock := fun h => by have := ownsRow_base hom _ h.symm; omega
              have hfar2 : some g ≠ fv'.ownBlock := fun h => by have := ownsRow_base hom _ h.symm; omega
              have hF4 : FBlock w4 W0.heap.size X y fv' (.slice none 0 0) := by
                show w4.heap[W0.heap.size]? = _
                rw [hgrow.block W0.heap.size (by simp; omega) hfar]
                exact hFm.below (bel_up (bel_self _) _)
              have j4 : w4.cell? ⟨g, o, none⟩ = some (.int .i64 (X : Int)) := (hgrow.cell_far ⟨g, o, none⟩ (by simp; omega) hfar2).trans (old_cell jm)
              have hB4 : Below W0.heap.size W0 w4 := (hBm.alloc (by omega) _).grown hgrow (by simp; omega) (fun k' hk' => by have := ownsRow_base hom k' hk'; omega)
              have hz4 : W3.heap.size ≤ w4.heap.size := by have := hgrow.size; simp at this; omega
              have hvb : (Value.slice (some ⟨gv, 0, none⟩) (m + 1) capv).ownBlock ≠ some W0.heap.size := fun h => by have := ownsRow_base hown' _ h; omega
              obtain ⟨-, -, f4, -, -, -, u4', -⟩ := ffacts hF4
              clear hgrow hom f2 u2 hFm jm
              go_wp2
              go_roundw
              case rel =>
                refine ⟨m + 1, .slice (some ⟨gv, 0, none⟩) (m + 1) capv, by omega, by go_num, Go.Joins.block_setCell hF4 _, ?_, (set_far hne).trans j4, hB4.setCell (p := ⟨W0.heap.size, 2, none⟩) (Nat.le_refl _) _, by simpa using hz4⟩
                have h := ownsRow_other (i := 2) (u := .slice (some ⟨gv, 0, none⟩) (m + 1) capv) hown' hvb
                rw [List.replicate_succ']
                simpa [intsV] using h
              case measure => simp [intOf]; omega
            · have hmX : m = X := by omega
              subst hmX
              go_wp2
              go_roundw
              case rel =>
                refine ⟨1, ⟨(m : Int), y, List.replicate m (-1), []⟩, last, fv', .slice none 0 0, rfl, by go_num, by simpa using HRUN.out, hk1, by simp, fun h => by omega, fun _ => ⟨by simp; omega, by simp, by simp; omega⟩, ⟨hFm, ?_, World.ownsRow_nil _ _ _ _, by simp [Value.ownBlock]⟩, hBm⟩
                have := owns_mono hom (B' := W0.heap.size + 1) (by omega)
                simpa using this
              case measure => simp [intOf]; omega
      · obtain ⟨hon1, hon2, hon3⟩ := hP.on hk0
        have hk0i : (0 : Int) < (k : Int) := by omega
        have hk1i : ((k : Int) == 0) = false := by rw [beq_eq_false_iff_ne]; omega
        obtain ⟨a, l, hw⟩ := wordsB_cons line
        have hcw := cutWords line wr hls
        have hwm := words_many line hls
        have HK : Hid (k ≠ 0) := hk0
        have hFB := hP.rf.blk
        clear hone hpos hk0 r0 r1 r2 r3
        by_cases ha : listOf a = bFinal
        · have ha' : a.toList = [102, 105, 110, 97, 108] := toList_data a _ ha
          by_cases hxy : ∃ x y, numsB (fieldsOf l) = some [x, y]
          · obtain ⟨x, y, hnum⟩ := hxy
            have hl2 : l.length = 2 := by have := numsB_length _ _ hnum; simpa [fieldsOf] using this.symm
            have hx0 : 0 ≤ x := nums_nonneg _ _ hnum x (by simp)
            obtain ⟨p, q, rfl⟩ := len2 l hl2
            have e3 : (wordsB line).length = 3 := by rw [hw]; rfl
            rw [e3, hw] at hcw
            have HNU : Hid (numsB (fieldsOf [p, q]) = some [x, y]) := hnum
            clear hl2 hwm e3
            by_cases hok : f.arcs = [] ∧ last < x ∧ x < f.states
            · have HRUN : Hid (runL (splitOn 10 (listOf s)) 1 fst0 (-1) = runL ((fieldsOf ss).drop (k + 1)) (k + 1 + 1) ⟨f.states, f.start, f.final.set x.toNat y, f.arcs⟩ x) := (hP.next hk1 (⟨f.states, f.start, f.final.set x.toNat y, f.arcs⟩, x) (by rw [← HL.out]; exact step_fin_ok f last x y line a _ hon1 hw ha hnum hok) :)
              obtain ⟨harc, hlx, hxs⟩ := hok
              obtain ⟨X, rfl⟩ : ∃ X : Nat, x = (X : Int) := ⟨x.toNat, by omega⟩
              have hXn : X < f.final.length := by omega
              obtain ⟨G, fcap, cur, hfv, hG, hGh, hfc1, hfc2, hfc3, hfc4⟩ := hP.rf.fvform (by omega)
              obtain ⟨rfl, rfl, rfl⟩ : fa = some ⟨G, 0, none⟩ ∧ fn = f.final.length ∧ fc = fcap := by cases hfv; exact ⟨rfl, rfl, rfl⟩
              have har0 : f.arcs.length = 0 := by rw [harc]; rfl
              rw [har0] at hFB
              have HRF : Hid (RF wr W0.heap.size (.slice (some ⟨G, 0, none⟩) f.final.length fc) (.slice aa f.arcs.length ac) f) := hP.rf
              have hXi : (X : Int) < (f.final.length : Int) := by omega
              have hXj : (0 : Int) ≤ (X : Int) := by omega
              have hsz := hP.bel.size
              unfold maxLen at hfc2
              have hGl := heap_lt hGh
              clear hnum hw ha hfv
              go_wp2_with (first | (go_at_call 34; refine hcw.mono ?_; rintro e w1 ⟨b1, cap1, rfl, hst1, hbb1, hcc1, hcd1, hb1⟩; have d0 := StrsAt.head (n := 2) hst1; have ht1 : StrsAt w1 b1 1 2 [p, q] := StrsAt.tail hst1; have hcap : ¬ cap1 = 1 := (by omega); unfold maxLen at hcd1) | (go_at_call 35; refine (undig_some b1 1 2 (cap1 - 1) [p, q] [(X : Int), y] 2 w1 ht1 two_le HNU.out two_pos rfl).mono ?_; rintro e w2 ⟨g, o, cc, rfl, hI, hb2, hg⟩; have i0 : w2.cell? ⟨g, o, none⟩ = some (.int .i64 (X : Int)) := (by have := hI.cell 0 (by omega); simpa using this); have i1 : w2.cell? ⟨g, o + 1, none⟩ = some (.int .i64 y) := (by have := hI.cell 1 (by omega); simpa using this); obtain ⟨s0, s1, s2, s3, -⟩ := ffacts ((hFB.below hb1).below hb2)))
              go_quiet (fail)
              have hb3 : Below wr.heap.size wr (w2.drewN nq) := bel_drewN (bel_on hb1 hb2) nq
              have hrf3 := HRF.out.below hb3
              have hFB3 := hFB.below hb3
              have j0 : (w2.drewN nq).cell? ⟨g, o, none⟩ = some (.int .i64 (X : Int)) := bel_c (bel_drewN (bel_self w2) nq) i0
              have j1 : (w2.drewN nq).cell? ⟨g, o + 1, none⟩ = some (.int .i64 y) := bel_c (bel_drewN (bel_self w2) nq) i1
              clear i0 i1 s0 s1 s2 s3 hI d0 ht1 hst1
              generalize w2.drewN nq = W3 at hb3 hrf3 hFB3 j0 j1 ⊢
              obtain ⟨t0, t1, t2, t3, -⟩ := ffacts hFB3
              have hGh3 := heap_bel hb3 hGh
              have hcG : W3.cell? ⟨G, X, none⟩ = some (.int .i64 (f.final.getD X 0)) := by
                have h1 : (cur.toList.take f.final.length)[X]? = some (.int .i64 (f.final.getD X 0)) := by rw [hfc4]; simp [intsV, List.getD, hXn]
                rw [List.getElem?_take, if_pos hXn, Array.getElem?_toList] at h1
                rw [Go.Joins.cell_of_block hGh3]; exact h1
              have hfG := Go.Joins.unfrozen_of_block hGh3 X
              go_wp2
              go_region
              go_wp2
              go_roundw
              case rel =>
                refine ⟨k + 1, ⟨f.states, f.start, f.final.set X y, f.arcs⟩, (X : Int), .slice (some ⟨G, 0, none⟩) f.final.length fc, .slice aa f.arcs.length ac, rfl, by go_num, by simpa using HRUN.out, hk1, by rw [har0]; omega, fun h => by omega, fun _ => ⟨hon1, by simpa using hon2, hon3⟩, ⟨?_, ?_, ?_, hrf3.apart⟩, ?_⟩
                · have := (Below.heap_setCell W3 ⟨G, X, none⟩ (.int .i64 y) W0.heap.size (by simp; omega)).trans hrf3.blk
                  exact this
                · have h1 := owns_set (X := X) y hrf3.fin
                  have h2 : (W3.setCell ⟨G, X, none⟩ (.int .i64 y)).ownsRow (W0.heap.size + 1) 3 1 (.slice (some ⟨G, 0, none⟩) f.final.length fc) (f.final.set X y).length (intsV (f.final.set X y)) := by simpa using h1
                  exact h2
                · exact ownsRow_other hrf3.arcs (hrf3.apart G rfl)
                · exact ((hP.bel.trans (hb3.mono hsz)).setCell (p := ⟨G, X, none⟩) (Nat.le_of_lt hG) _).drew
              case measure => simp [intOf]; omega
            · have HPD : Hid (parseD (listOf s) = ⟨fst0, (k : Int) + 1, 1⟩) := hP.bad hs (Or.inr ⟨hk1, by rw [← HL.out]; exact step_fin_bad f last x y line a _ hon1 hw ha hnum hok⟩)
              clear hnum hw ha
              obtain ⟨m, hm⟩ : ∃ m, m = f.arcs.length := ⟨_, rfl⟩
              rw [← hm] at hFB
              by_cases harc : m = 0
              · subst harc
                have hok' : ¬ (last < x ∧ x < f.states) := fun h => hok ⟨List.length_eq_zero_iff.1 hm.symm, h.1, h.2⟩
                clear hok hm
                by_cases hlx : last < x
                · have hxs : ¬ x < f.states := fun h => hok' ⟨hlx, h⟩
                  have hxd : decide (x < f.states) = false := by simpa using hxs
                  have hld : decide (last < x) = true := by simpa using hlx
                  clear hok'
                  go_wp2_with (first | (go_at_call 34; refine hcw.mono ?_; rintro e w1 ⟨b1, cap1, rfl, hst1, hbb1, hcc1, hcd1, hb1⟩; have d0 := StrsAt.head (n := 2) hst1; have ht1 : StrsAt w1 b1 1 2 [p, q] := StrsAt.tail hst1; have hcap : ¬ cap1 = 1 := (by omega); unfold maxLen at hcd1) | (go_at_call 35; refine (undig_some b1 1 2 (cap1 - 1) [p, q] [x, y] 2 w1 ht1 two_le HNU.out two_pos rfl).mono ?_; rintro e w2 ⟨g, o, cc, rfl, hI, hb2, hg⟩; have i0 : w2.cell? ⟨g, o, none⟩ = some (.int .i64 x) := (by have := hI.cell 0 (by omega); simpa using this); obtain ⟨s0, s1, s2, s3, -⟩ := ffacts ((hFB.below hb1).below hb2)))
                  go_quiet (fail)
                  obtain ⟨z0, z1, z2, z3, y0, y1, y2, y3⟩ := zfacts (((hzr.below hb1).below hb2).below (bel_drewN (bel_self w2) nq))
                  go_wp2
                  exact bodyPost_ret (v := .tuple #[.agg #[.int .i64 0, .int .i64 0, .slice none 0 0, .slice none 0 0], .int .i64 ((k : Int) + 1), .int .i64 1]) (by simp [results, Tryd.results15, go_sem, *]) rfl ⟨parRes_bad HPD.out, bel_four (bel_drewN (bel_on (bel_on hbel hb1) hb2) _) (Nat.le_refl _) _ _ _ _⟩
                · have hld : decide (last < x) = false := by simpa using hlx
                  clear hok'
                  go_wp2_with (first | (go_at_call 34; refine hcw.mono ?_; rintro e w1 ⟨b1, cap1, rfl, hst1, hbb1, hcc1, hcd1, hb1⟩; have d0 := StrsAt.head (n := 2) hst1; have ht1 : StrsAt w1 b1 1 2 [p, q] := StrsAt.tail hst1; have hcap : ¬ cap1 = 1 := (by omega); unfold maxLen at hcd1) | (go_at_call 35; refine (undig_some b1 1 2 (cap1 - 1) [p, q] [x, y] 2 w1 ht1 two_le HNU.out two_pos rfl).mono ?_; rintro e w2 ⟨g, o, cc, rfl, hI, hb2, hg⟩; have i0 : w2.cell? ⟨g, o, none⟩ = some (.int .i64 x) := (by have := hI.cell 0 (by omega); simpa using this); obtain ⟨s0, s1, s2, s3, -⟩ := ffacts ((hFB.below hb1).below hb2)))
                  go_quiet (fail)
                  obtain ⟨z0, z1, z2, z3, y0, y1, y2, y3⟩ := zfacts (((hzr.below hb1).below hb2).below (bel_drewN (bel_self w2) nq))
                  go_wp2
                  exact bodyPost_ret (v := .tuple #[.agg #[.int .i64 0, .int .i64 0, .slice none 0 0, .slice none 0 0], .int .i64 ((k : Int) + 1), .int .i64 1]) (by simp [results, Tryd.results15, go_sem, *]) rfl ⟨parRes_bad HPD.out, bel_four (bel_drewN (bel_on (bel_on hbel hb1) hb2) _) (Nat.le_refl _) _ _ _ _⟩
              · have hm1 : (m == 0) = false := by simpa using harc
                have hm2 : ((m : Int) == 0) = false := by rw [beq_eq_false_iff_ne]; omega
                clear hok hm
                go_wp2_with (first | (go_at_call 34; refine hcw.mono ?_; rintro e w1 ⟨b1, cap1, rfl, hst1, hbb1, hcc1, hcd1, hb1⟩; have d0 := StrsAt.head (n := 2) hst1; have ht1 : StrsAt w1 b1 1 2 [p, q] := StrsAt.tail hst1; have hcap : ¬ cap1 = 1 := (by omega); unfold maxLen at hcd1) | (go_at_call 35; refine (undig_some b1 1 2 (cap1 - 1) [p, q] [x, y] 2 w1 ht1 two_le HNU.out two_pos rfl).mono ?_; rintro e w2 ⟨g, o, cc, rfl, hI, hb2, hg⟩; have i0 : w2.cell? ⟨g, o, none⟩ = some (.int .i64 x) := (by have := hI.cell 0 (by omega); simpa using this); obtain ⟨s0, s1, s2, s3, -⟩ := ffacts ((hFB.below hb1).below hb2)))
                go_quiet (fail)
                obtain ⟨z0, z1, z2, z3, y0, y1, y2, y3⟩ := zfacts (((hzr.below hb1).below hb2).below (bel_drewN (bel_self w2) nq))
                go_wp2
                exact bodyPost_ret (v := .tuple #[.agg #[.int .i64 0, .int .i64 0, .slice none 0 0, .slice none 0 0], .int .i64 ((k : Int) + 1), .int .i64 1]) (by simp [results, Tryd.results15, go_sem, *]) rfl ⟨parRes_bad HPD.out, bel_four (bel_drewN (bel_on (bel_on hbel hb1) hb2) _) (Nat.le_refl _) _ _ _ _⟩
          · have hxy' : ∀ x y, numsB (fieldsOf l) ≠ some [x, y] := fun x y h => hxy ⟨x, y, h⟩
            have HPD : Hid (parseD (listOf s) = ⟨fst0, (k : Int) + 1, 1⟩) := hP.bad hs (Or.inr ⟨hk1, by rw [← HL.out]; exact step_fin_none f last line a _ hon1 hw ha hxy'⟩)
            have hbad := nums_two l hxy'
            rw [hw, List.length_cons] at hcw hwm
            clear ha hw hxy hxy'
            rcases l with _ | ⟨c, l⟩
            · go_wp2_with (first | (go_at_call 34; refine hcw.mono ?_; rintro e w1 ⟨b1, cap1, rfl, hst1, hbb1, hcc1, hcd1, hb1⟩; have d0 := hst1.head; unfold maxLen at hcd1) | (go_at_call 35; refine (undig_zero _ _ _).mono ?_; rintro e w2 ⟨rfl, hw2⟩; obtain rfl := hw2))
              all_goals
                go_quiet (fail)
                obtain ⟨z0, z1, z2, z3, y0, y1, y2, y3⟩ := zfacts ((hzr.below hb1).below (bel_drewN (bel_self w1) nq))
                go_wp2
                exact bodyPost_ret (v := .tuple #[.agg #[.int .i64 0, .int .i64 0, .slice none 0 0, .slice none 0 0], .int .i64 ((k : Int) + 1), .int .i64 1]) (by simp [results, Tryd.results15, go_sem, *]) rfl ⟨parRes_bad HPD.out, bel_four (bel_drewN (bel_on hbel hb1) _) (Nat.le_refl _) _ _ _ _⟩
            · rw [List.length_cons] at hcw hwm hbad
              have hwm' : l.length + 1 ≤ 1000000 := by omega
              have HBAD : Hid (numsB (fieldsOf (c :: l)) = none ∨ ((l.length + 1 : Nat) : Int) ≠ 2) := hbad
              clear hbad
              go_wp2_with (first | (go_at_call 34; refine hcw.mono ?_; rintro e w1 ⟨b1, cap1, rfl, hst1, hbb1, hcc1, hcd1, hb1⟩; have d0 := hst1.head; have ht1 : StrsAt w1 b1 1 (l.length + 1) (c :: l) := StrsAt.tail hst1; have hcap : ¬ cap1 = 1 := (by omega); unfold maxLen at hcd1) | (go_at_call 35; refine (undig_none b1 1 (l.length + 1) (cap1 - 1) (c :: l) 2 w1 ht1 hwm' HBAD.out).mono ?_; rintro e w2 ⟨rfl, hb2⟩))
              go_quiet (fail)
              obtain ⟨z0, z1, z2, z3, y0, y1, y2, y3⟩ := zfacts (((hzr.below hb1).below hb2).below (bel_drewN (bel_self w2) nq))
              go_wp2
              exact bodyPost_ret (v := .tuple #[.agg #[.int .i64 0, .int .i64 0, .slice none 0 0, .slice none 0 0], .int .i64 ((k : Int) + 1), .int .i64 1]) (by simp [results, Tryd.results15, go_sem, *]) rfl ⟨parRes_bad HPD.out, bel_four (bel_drewN (bel_on (bel_on hbel hb1) hb2) _) (Nat.le_refl _) _ _ _ _⟩
        · have ha2 : (a.toList == [102, 105, 110, 97, 108]) = false := by rw [beq_eq_false_iff_ne, ByteArray.toList_eq]; exact ha
          by_cases hxy : ∃ p q r t u, numsB (fieldsOf (a :: l)) = some [p, q, r, t, u]
          · obtain ⟨av, hav⟩ : ∃ av, av = Value.slice aa f.arcs.length ac := ⟨_, rfl⟩
            rw [← hav] at hP hFB
            clear hav
            obtain ⟨x0, x1, x2, x3, x4, hnum⟩ := hxy
            obtain ⟨c, hc0, hc1', hc2', hc3, hc4⟩ : ∃ c : ArcD, c.src = x0 ∧ c.inp = x1 ∧ c.out = x2 ∧ c.dst = x3 ∧ c.wt = x4 := ⟨⟨x0, x1, x2, x3, x4⟩, rfl, rfl, rfl, rfl, rfl⟩
            subst hc0 hc1' hc2' hc3 hc4
            have hl5 : (wordsB line).length = 5 := by rw [hw]; have := numsB_length _ _ hnum; simpa [fieldsOf] using this.symm
            have HNU : Hid (numsB (fieldsOf (wordsB line)) = some [c.src, c.inp, c.out, c.dst, c.wt]) := by rw [hw]; exact hnum
            have HRUN : Hid (runL (splitOn 10 (listOf s)) 1 fst0 (-1) = runL ((fieldsOf ss).drop (k + 1)) (k + 1 + 1) ⟨f.states, f.start, f.final, f.arcs ++ [c]⟩ last) := (hP.next hk1 (⟨f.states, f.start, f.final, f.arcs ++ [c]⟩, last) (by rw [← HL.out]; exact step_arc_ok f last line a l c hon1 hw ha hnum) :)
            have HD0 : Hid (∀ (wx : World) (bx : Nat), StrsAt wx bx 0 5 (wordsB line) → wx.cell? ⟨bx, 0, none⟩ = some (.string a)) := by
              intro wx bx h
              have := h.cell 0 (by omega)
              rw [hw] at this
              simpa using this
            rw [hl5] at hcw
            obtain ⟨i0, hi', hz0', hz1', hz2'⟩ := info_parts Tryd.info55
            have HRF : Hid (RF wr W0.heap.size (.slice fa fn fc) av f) := hP.rf
            have hsz := hP.bel.size
            have hmany := hP.many
            have hrl := heap_lt hFB
            clear hnum hw ha hl5 hwm
            generalize (wordsB line) = ws at *
            go_upto_region 14 with (first | (go_at_call 34; refine hcw.mono ?_; rintro e w1 ⟨b1, cap1, rfl, hst1, hbb1, hcc1, hcd1, hb1⟩; have d0 := HD0.out w1 b1 hst1; unfold maxLen at hcd1) | (go_at_call 35; refine (undig_some b1 0 5 cap1 ws [c.src, c.inp, c.out, c.dst, c.wt] 5 w1 hst1 (by decide) HNU.out (by decide) rfl).mono ?_; rintro e w2 ⟨g, o, cc, rfl, hI, hb2', hg⟩))
            go_cut [11] from 26 to 199 (fun c wx => c = .bool true ∧ wx = w2)
            case first =>
              go_wp2_with fail
              go_meet
              exact ⟨rfl, rfl⟩
            obtain ⟨rfl, hwc⟩ := hcut
            obtain rfl := hwc.symm
            go_upto_region 16 with fail
            have hb2 : Below wr.heap.size wr w2 := bel_on hb1 hb2'
            have hR2 : FBlock w2 W0.heap.size f.states f.start (.slice fa fn fc) av := hFB.below hb2
            have hrf2 := HRF.out.below hb2
            have hown2 := hrf2.arcs
            have i0' : w2.cell? ⟨g, o, none⟩ = some (.int .i64 c.src) := by have := hI.cell 0 (by omega); simpa using this
            have i1' : w2.cell? ⟨g, o + 1, none⟩ = some (.int .i64 c.inp) := by have := hI.cell 1 (by omega); simpa using this
            have i2' : w2.cell? ⟨g, o + 2, none⟩ = some (.int .i64 c.out) := by have := hI.cell 2 (by omega); simpa using this
            have i3' : w2.cell? ⟨g, o + 3, none⟩ = some (.int .i64 c.dst) := by have := hI.cell 3 (by omega); simpa using this
            have i4' : w2.cell? ⟨g, o + 4, none⟩ = some (.int .i64 c.wt) := by have := hI.cell 4 (by omega); simpa using this
            have hgl : wr.heap.size ≤ g := Nat.le_trans hb1.size hg
            have hgs := cell_lt i0'
            obtain ⟨-, -, -, p3, -, -, -, q3⟩ := ffacts hR2
            have hrb2 : W0.heap.size < w2.heap.size := heap_lt hR2
            have hgr : g ≠ W0.heap.size := by omega
            have hgr' : W0.heap.size ≠ g := by omega
            have havl : ∀ k, av.ownBlock = some k → k < wr.heap.size := ownsRow_lt HRF.out.arcs
            have hgav : some g ≠ av.ownBlock := fun h => by have := havl g h.symm; omega
            have hrav : some W0.heap.size ≠ av.ownBlock := fun h => by have := ownsRow_base HRF.out.arcs _ h.symm; omega
            have hH : (w2.alloc (.cells #[.int .i64 c.src, .int .i64 c.inp, .int .i64 c.out, .int .i64 c.dst, .int .i64 c.wt] 55)).drew.heap.size = w2.heap.size + 1 := by simp
            have hgl2 : g < (w2.alloc (.cells #[.int .i64 c.src, .int .i64 c.inp, .int .i64 c.out, .int .i64 c.dst, .int .i64 c.wt] 55)).drew.heap.size := by rw [hH]; omega
            have hrl2 : W0.heap.size < (w2.alloc (.cells #[.int .i64 c.src, .int .i64 c.inp, .int .i64 c.out, .int .i64 c.dst, .int .i64 c.wt] 55)).drew.heap.size := by rw [hH]; omega
            have p3' : (w2.alloc (.cells #[.int .i64 c.src, .int .i64 c.inp, .int .i64 c.out, .int .i64 c.dst, .int .i64 c.wt] 55)).drew.cell? ⟨W0.heap.size, 3, none⟩ = some av := drew_cell (old_cell p3)
            have q3' : (w2.alloc (.cells #[.int .i64 c.src, .int .i64 c.inp, .int .i64 c.out, .int .i64 c.dst, .int .i64 c.wt] 55)).drew.frozen? ⟨W0.heap.size, 3, none⟩ = false := ((bcell (bel_up (bel_self w2) _).drew).2 W0.heap.size 3 hrb2).trans q3
            have h63 : f.arcs.length + 1 ≤ maxLen := by unfold maxLen; omega
            have hby : (f.arcs.length + 1) * 40 ≤ 140737488355328 := by omega
            have hBs : W0.heap.size + 1 ≤ (w2.alloc (.cells #[.int .i64 c.src, .int .i64 c.inp, .int .i64 c.out, .int .i64 c.dst, .int .i64 c.wt] 55)).drew.heap.size := by rw [hH]; omega
            have hnews := World.news_of_block (w := (w2.alloc (.cells #[.int .i64 c.src, .int .i64 c.inp, .int .i64 c.out, .int .i64 c.dst, .int .i64 c.wt] 55)).drew) (cs := #[.int .i64 c.src, .int .i64 c.inp, .int .i64 c.out, .int .i64 c.dst, .int .i64 c.wt]) (t := 55) (fr := (0, 0)) (heap_alloc_new w2 _)
            have hone' := oneCell_arc c
            have hown3 : (w2.alloc (.cells #[.int .i64 c.src, .int .i64 c.inp, .int .i64 c.out, .int .i64 c.dst, .int .i64 c.wt] 55)).drew.ownsRow (W0.heap.size + 1) 55 5 av f.arcs.length (arcsV f.arcs) := owns_bel hown2 (bel_up (bel_self w2) _).drew
            have HNW : Hid (∀ (j : Nat) (u : Value), (arcCells c)[j]? = some u → (w2.alloc (.cells #[.int .i64 c.src, .int .i64 c.inp, .int .i64 c.out, .int .i64 c.dst, .int .i64 c.wt] 55)).drew.cell? ((⟨w2.heap.size, 0, none⟩ : Addr).add j) = some u) := hnews
            have HON : Hid (∀ u ∈ arcCells c, u.oneCell' = true) := hone'
            clear hI hnews hone' hst1 HNU HD0 d0 hcw
            have HI : Hid (Tryd.prog.info? 55 = some i0 ∧ i0.zero = some _ ∧ i0.size = 5 ∧ i0.bytes = 40) := ⟨hi', hz0', hz1', hz2'⟩
            have HB2 : Hid (Below wr.heap.size wr w2) := hb2
            have HON3 : Hid (f.states ≠ 0 ∧ (f.final.length : Int) = f.states ∧ f.states ≤ 200) := ⟨hon1, hon2, hon3⟩
            have HRF2 : Hid (RF w2 W0.heap.size (.slice fa fn fc) av f) := hrf2
            have HP : Hid (RI s ss W0 k f last (.slice fa fn fc) av wr) := hP
            have HNUM : Hid (f.arcs.length ≤ k ∧ W0.heap.size ≤ wr.heap.size ∧ W0.heap.size < wr.heap.size ∧ wr.heap.size ≤ w2.heap.size ∧ ss.length ≤ 100001) := ⟨hmany, hsz, hrl, hb2.size, hlen⟩
            have HOWN3 : Hid ((w2.alloc (.cells #[.int .i64 c.src, .int .i64 c.inp, .int .i64 c.out, .int .i64 c.dst, .int .i64 c.wt] 55)).drew.ownsRow (W0.heap.size + 1) 55 5 av f.arcs.length (arcsV f.arcs)) := hown3
            have H63 : Hid (f.arcs.length + 1 ≤ maxLen ∧ (f.arcs.length + 1) * 40 ≤ 140737488355328) := ⟨h63, hby⟩
            have HBS : Hid (W0.heap.size + 1 ≤ (w2.alloc (.cells #[.int .i64 c.src, .int .i64 c.inp, .int .i64 c.out, .int .i64 c.dst, .int .i64 c.wt] 55)).drew.heap.size) := hBs
            have HHH : Hid ((w2.alloc (.cells #[.int .i64 c.src, .int .i64 c.inp, .int .i64 c.out, .int .i64 c.dst, .int .i64 c.wt] 55)).drew.heap.size = w2.heap.size + 1) := hH
            have HFAR : Hid (some g ≠ av.ownBlock ∧ some W0.heap.size ≠ av.ownBlock) := ⟨hgav, hrav⟩
            have HRL2 : Hid (W0.heap.size < (w2.alloc (.cells #[.int .i64 c.src, .int .i64 c.inp, .int .i64 c.out, .int .i64 c.dst, .int .i64 c.wt] 55)).drew.heap.size) := hrl2
            have HGL2 : Hid (g < (w2.alloc (.cells #[.int .i64 c.src, .int .i64 c.inp, .int .i64 c.out, .int .i64 c.dst, .int .i64 c.wt] 55)).drew.heap.size) := hgl2
            clear hrav hgav hb2 hon1 hon2 hon3 hrf2 hP hmany hsz hrl HRF HL HK hk0i hk1i hE hL1 hL2 ha2 c0 hbb1 hcc1 hcd1 hb1 hb2' hzr hz0 hbw hbel hst0 hb0 hc1 hc2 hls hwl hlen hltI havl h63 hby hBs HS HF0 hg hgl hFB hR2 hown3 hown2 hH hgl2 hrl2 p3' q3'
            have hSdef : ∀ wx : World, wx.cell? ⟨g, o, none⟩ = some (.int .i64 c.src) → wx.cell? ⟨g, o + 1, none⟩ = some (.int .i64 c.inp) → wx.cell? ⟨g, o + 2, none⟩ = some (.int .i64 c.out) → wx.cell? ⟨g, o + 3, none⟩ = some (.int .i64 c.dst) → wx.cell? ⟨g, o + 4, none⟩ = some (.int .i64 c.wt) → wx.cell? ⟨W0.heap.size, 3, none⟩ = some av → (fun wx : World => wx.cell? ⟨g, o, none⟩ = some (.int .i64 c.src) ∧ wx.cell? ⟨g, o + 1, none⟩ = some (.int .i64 c.inp) ∧ wx.cell? ⟨g, o + 2, none⟩ = some (.int .i64 c.out) ∧ wx.cell? ⟨g, o + 3, none⟩ = some (.int .i64 c.dst) ∧ wx.cell? ⟨g, o + 4, none⟩ = some (.int .i64 c.wt) ∧ wx.cell? ⟨W0.heap.size, 3, none⟩ = some av) wx := fun _ h0 h1 h2 h3 h4 h5 => ⟨h0, h1, h2, h3, h4, h5⟩
            have HSD : Hid (∀ wx : World, _) := hSdef
            clear hSdef
            refine wp_region_noPanic ?_
            refine wp_region_U (fun wx => wx.cell? ⟨g, o, none⟩ = some (.int .i64 c.src) ∧ wx.cell? ⟨g, o + 1, none⟩ = some (.int .i64 c.inp) ∧ wx.cell? ⟨g, o + 2, none⟩ = some (.int .i64 c.out) ∧ wx.cell? ⟨g, o + 3, none⟩ = some (.int .i64 c.dst) ∧ wx.cell? ⟨g, o + 4, none⟩ = some (.int .i64 c.wt) ∧ wx.cell? ⟨W0.heap.size, 3, none⟩ = some av) 21 (by kernel_rfl) (HSD.out _ (drew_cell i0') (drew_cell i1') (drew_cell i2') (drew_cell i3') (drew_cell i4') (drew_cell p3)) (fun hH0 => ?_)
            refine wpAnyU_take (i := 0) (v := .pointer (some ⟨W0.heap.size, 3, none⟩)) rfl (by kernel_rfl) (by kernel_rfl) (by kernel_rfl) (by kernel_rfl) (fun _ _ _ h => h) (Or.inl ⟨by rfl, fun wl hSw => ?_⟩) hH0 ?_
            · (try dsimp only at hSw); go_simp
            refine wpAnyU_take (i := 1) (v := av) rfl (by kernel_rfl) (by kernel_rfl) (by kernel_rfl) (by kernel_rfl) (fun _ _ _ h => h) (Or.inl ⟨by rfl, fun wl hSw => ?_⟩) hH0 ?_
            · (try dsimp only at hSw); go_simp
            refine wpAnyU_take (i := 2) (v := .slice (some ⟨g, o, none⟩) 5 cc) rfl (by kernel_rfl) (by kernel_rfl) (by kernel_rfl) (by kernel_rfl) (fun _ _ _ h => h) (Or.inl ⟨by rfl, fun wl hSw => ?_⟩) hH0 ?_
            · (try dsimp only at hSw); go_simp
            refine wpAnyU_take (i := 3) (v := .pointer (some ⟨g, o, none⟩)) rfl (by kernel_rfl) (by kernel_rfl) (by kernel_rfl) (by kernel_rfl) (fun _ _ _ h => h) (Or.inl ⟨by rfl, fun wl hSw => ?_⟩) hH0 ?_
            · (try dsimp only at hSw); go_simp
            refine wpAnyU_take (i := 4) (v := .int .i64 c.src) rfl (by kernel_rfl) (by kernel_rfl) (by kernel_rfl) (by kernel_rfl) (fun _ _ _ h => h) (Or.inl ⟨by rfl, fun wl hSw => ?_⟩) hH0 ?_
            · (try dsimp only at hSw); go_simp
            refine wpAnyU_take (i := 5) (v := .slice (some ⟨g, o, none⟩) 5 cc) rfl (by kernel_rfl) (by kernel_rfl) (by kernel_rfl) (by kernel_rfl) (fun _ _ _ h => h) (Or.inl ⟨by rfl, fun wl hSw => ?_⟩) hH0 ?_
            · (try dsimp only at hSw); go_simp
            refine wpAnyU_take (i := 6) (v := .pointer (some ⟨g, o + 1, none⟩)) rfl (by kernel_rfl) (by kernel_rfl) (by kernel_rfl) (by kernel_rfl) (fun _ _ _ h => h) (Or.inl ⟨by rfl, fun wl hSw => ?_⟩) hH0 ?_
            · (try dsimp only at hSw); go_simp
            refine wpAnyU_take (i := 7) (v := .int .i64 c.inp) rfl (by kernel_rfl) (by kernel_rfl) (by kernel_rfl) (by kernel_rfl) (fun _ _ _ h => h) (Or.inl ⟨by rfl, fun wl hSw => ?_⟩) hH0 ?_
            · (try dsimp only at hSw); go_simp
            refine wpAnyU_take (i := 8) (v := .slice (some ⟨g, o, none⟩) 5 cc) rfl (by kernel_rfl) (by kernel_rfl) (by kernel_rfl) (by kernel_rfl) (fun _ _ _ h => h) (Or.inl ⟨by rfl, fun wl hSw => ?_⟩) hH0 ?_
            · (try dsimp only at hSw); go_simp
            refine wpAnyU_take (i := 9) (v := .pointer (some ⟨g, o + 2, none⟩)) rfl (by kernel_rfl) (by kernel_rfl) (by kernel_rfl) (by kernel_rfl) (fun _ _ _ h => h) (Or.inl ⟨by rfl, fun wl hSw => ?_⟩) hH0 ?_
            · (try dsimp only at hSw); go_simp
            refine wpAnyU_take (i := 10) (v := .int .i64 c.out) rfl (by kernel_rfl) (by kernel_rfl) (by kernel_rfl) (by kernel_rfl) (fun _ _ _ h => h) (Or.inl ⟨by rfl, fun wl hSw => ?_⟩) hH0 ?_
            · (try dsimp only at hSw); go_simp
            refine wpAnyU_take (i := 11) (v := .slice (some ⟨g, o, none⟩) 5 cc) rfl (by kernel_rfl) (by kernel_rfl) (by kernel_rfl) (by kernel_rfl) (fun _ _ _ h => h) (Or.inl ⟨by rfl, fun wl hSw => ?_⟩) hH0 ?_
            · (try dsimp only at hSw); go_simp
            refine wpAnyU_take (i := 12) (v := .pointer (some ⟨g, o + 3, none⟩)) rfl (by kernel_rfl) (by kernel_rfl) (by kernel_rfl) (by kernel_rfl) (fun _ _ _ h => h) (Or.inl ⟨by rfl, fun wl hSw => ?_⟩) hH0 ?_
            · (try dsimp only at hSw); go_simp
            refine wpAnyU_take (i := 13) (v := .int .i64 c.dst) rfl (by kernel_rfl) (by kernel_rfl) (by kernel_rfl) (by kernel_rfl) (fun _ _ _ h => h) (Or.inl ⟨by rfl, fun wl hSw => ?_⟩) hH0 ?_
            · (try dsimp only at hSw); go_simp
            refine wpAnyU_take (i := 14) (v := .slice (some ⟨g, o, none⟩) 5 cc) rfl (by kernel_rfl) (by kernel_rfl) (by kernel_rfl) (by kernel_rfl) (fun _ _ _ h => h) (Or.inl ⟨by rfl, fun wl hSw => ?_⟩) hH0 ?_
            · (try dsimp only at hSw); go_simp
            refine wpAnyU_take (i := 15) (v := .pointer (some ⟨g, o + 4, none⟩)) rfl (by kernel_rfl) (by kernel_rfl) (by kernel_rfl) (by kernel_rfl) (fun _ _ _ h => h) (Or.inl ⟨by rfl, fun wl hSw => ?_⟩) hH0 ?_
            · (try dsimp only at hSw); go_simp
            refine wpAnyU_take (i := 16) (v := .int .i64 c.wt) rfl (by kernel_rfl) (by kernel_rfl) (by kernel_rfl) (by kernel_rfl) (fun _ _ _ h => h) (Or.inl ⟨by rfl, fun wl hSw => ?_⟩) hH0 ?_
            · (try dsimp only at hSw); go_simp
            refine wpAnyU_take (i := 17) (v := .agg #[.int .i64 c.src, .int .i64 c.inp, .int .i64 c.out, .int .i64 c.dst, .int .i64 c.wt]) rfl (by kernel_rfl) (by kernel_rfl) (by kernel_rfl) (by kernel_rfl) (fun _ _ _ h => h) (Or.inl ⟨by rfl, fun wl hSw => ?_⟩) hH0 ?_
            · (try dsimp only at hSw); go_simp
            refine wpAnyU_one (i := 18) rfl (by kernel_rfl) (fun K hK => ?_)
            go_simp
            have hH1 := HSD.out (w2.alloc (.cells #[.int .i64 c.src, .int .i64 c.inp, .int .i64 c.out, .int .i64 c.dst, .int .i64 c.wt] 55)).drew (drew_cell (old_cell i0')) (drew_cell (old_cell i1')) (drew_cell (old_cell i2')) (drew_cell (old_cell i3')) (drew_cell (old_cell i4')) (drew_cell (old_cell p3))
            refine hK.out _ _ ⟨fun _ => hH1, ?_⟩
            clear hK K
            refine wpAnyU_one (i := 19) rfl (by kernel_rfl) (fun K hK => ?_)
            refine step_append_lies _ (by rfl) _ _ 23 (by rfl) (W0.heap.size + 1) 55 i0 _ 5 40 Tryd.underlying23 hi' hz0' hz1' hz2' rfl five_pos av f.arcs.length (arcsV f.arcs) (by rfl) HOWN3.out ⟨w2.heap.size, 0, none⟩ 1 1 (arcCells c) (by rfl) rfl HNW.out HON.out one_pos H63.out.1 H63.out.2 HBS.out (w2.heap.size + 1) HHH.out ?_
            intro gg ncap w4 hown4 hgrow hat hlt4
            have q4 := (hgrow.frozen_far ⟨W0.heap.size, 3, none⟩ HRL2.out HFAR.out.2).trans (((bcell (bel_up (bel_self w2) _).drew).2 W0.heap.size 3 hrb2).trans q3)
            have p4 := (hgrow.cell_far ⟨W0.heap.size, 3, none⟩ HRL2.out HFAR.out.2).trans (drew_cell (old_cell p3))
            have hH2 := HSD.out w4 ((hgrow.cell_far ⟨g, o, none⟩ HGL2.out HFAR.out.1).trans (drew_cell (old_cell i0'))) ((hgrow.cell_far ⟨g, o + 1, none⟩ HGL2.out HFAR.out.1).trans (drew_cell (old_cell i1'))) ((hgrow.cell_far ⟨g, o + 2, none⟩ HGL2.out HFAR.out.1).trans (drew_cell (old_cell i2'))) ((hgrow.cell_far ⟨g, o + 3, none⟩ HGL2.out HFAR.out.1).trans (drew_cell (old_cell i3'))) ((hgrow.cell_far ⟨g, o + 4, none⟩ HGL2.out HFAR.out.1).trans (drew_cell (old_cell i4'))) p4
            refine hK.out _ _ ⟨fun _ => hH2, ?_⟩
            clear hK K
            refine wpAnyU_take (i := 20) (v := .pointer (some ⟨W0.heap.size, 3, none⟩)) rfl (by kernel_rfl) (by kernel_rfl) (by kernel_rfl) (by kernel_rfl) (fun _ _ _ h => h) (Or.inl ⟨by rfl, fun wl hSw => ?_⟩) hH2 ?_
            · (try dsimp only at hSw); go_simp
            refine wpAnyU_one (i := 21) rfl (by kernel_rfl) (fun K hK => ?_)
            go_simp
            refine hK.out _ _ ⟨fun h => absurd rfl h, ?_⟩
            clear hK K
            refine wpAnyU_done (by kernel_rfl) ?_ _
            refine NoPanic.normal ?_
            obtain ⟨hmany, hsz, hrl, hs2, hlen⟩ := HNUM.out
            obtain ⟨hon1, hon2, hon3⟩ := HON3.out
            have hrav := HFAR.out.2
            have HO4 : Hid (w4.ownsRow (W0.heap.size + 1) 55 5 (.slice (some ⟨gg, 0, none⟩) (f.arcs.length + 1) ncap) (f.arcs.length + 1) (arcsV f.arcs ++ arcCells c)) := hown4
            clear hH0 hH1 hH2 hown4
            have hb2 := HB2.out
            have hrf2 := HRF2.out
            have hP := HP.out
            go_wp2
            go_roundw
            case rel =>
              have hbD : Below w2.heap.size w2 (w2.alloc (.cells #[.int .i64 c.src, .int .i64 c.inp, .int .i64 c.out, .int .i64 c.dst, .int .i64 c.wt] 55)).drew := (bel_up (bel_self w2) _).drew
              have hrfD := hrf2.below hbD
              have hggl : W0.heap.size + 1 ≤ gg := ownsRow_base HO4.out gg rfl
              have hR4 : FBlock w4 W0.heap.size f.states f.start (.slice fa fn fc) av := by
                show w4.heap[W0.heap.size]? = _
                rw [hgrow.block W0.heap.size (by rw [HHH.out]; omega) hrav]; exact hrfD.blk
              have hF4 : w4.ownsRow (W0.heap.size + 1) 3 1 (.slice fa fn fc) f.final.length (intsV f.final) := owns_grown hrfD.fin hgrow (fun g' h1 h2 => hrf2.apart g' h1 h2.symm)
              have REL : RI s ss W0 (k + 1) ⟨f.states, f.start, f.final, f.arcs ++ [c]⟩ last (.slice fa fn fc) (.slice (some ⟨gg, 0, none⟩) (f.arcs.length + 1) ncap) (w4.setCell ⟨W0.heap.size, 3, none⟩ (.slice (some ⟨gg, 0, none⟩) (f.arcs.length + 1) ncap)) := by
                refine ⟨HRUN.out, hk1, by simp; omega, fun h => by omega, fun _ => ⟨hon1, hon2, hon3⟩, ⟨?_, ?_, ?_, ?_⟩, ?_⟩
                · exact Go.Joins.block_setCell hR4 _
                · exact ownsRow_other hF4 (fun h => by have := ownsRow_base hF4 _ h; omega)
                · have h := ownsRow_other HO4.out (rb := W0.heap.size) (i := 3) (u := .slice (some ⟨gg, 0, none⟩) (f.arcs.length + 1) ncap) (by simp [Value.ownBlock]; omega)
                  simpa [arcsV] using h
                · intro g' h1 h2
                  simp only [Value.ownBlock, Option.some.injEq] at h2
                  subst h2
                  have hfl := ownsRow_lt hrf2.fin gg h1
                  rcases hat with hat | hat
                  · exact hrf2.apart gg h1 hat
                  · omega
                · refine Below.setCell (p := ⟨W0.heap.size, 3, none⟩) ?_ (Nat.le_refl _) _
                  exact (((hP.bel.trans (hb2.mono hsz)).alloc (by omega) _).drew.grown hgrow (by rw [HHH.out]; omega) (fun k' hk' => by have := ownsRow_base hP.rf.arcs k' hk'; omega))
              exact ⟨k + 1, ⟨f.states, f.start, f.final, f.arcs ++ [c]⟩, last, .slice fa fn fc, .slice (some ⟨gg, 0, none⟩) (f.arcs.length + 1) ncap, rfl, by go_num, REL⟩
            case measure => simp [intOf]; omega
          · have hxy' : ∀ p q r t u, numsB (fieldsOf (a :: l)) ≠ some [p, q, r, t, u] := fun p q r t u h => hxy ⟨p, q, r, t, u, h⟩
            have HPD : Hid (parseD (listOf s) = ⟨fst0, (k : Int) + 1, 1⟩) := hP.bad hs (Or.inr ⟨hk1, by rw [← HL.out]; exact step_arc_none f last line a _ hon1 hw ha hxy'⟩)
            have HBAD : Hid (numsB (fieldsOf (a :: l)) = none ∨ ((l.length + 1 : Nat) : Int) ≠ 5) := nums_five (a :: l) hxy'
            rw [hw, List.length_cons] at hcw hwm
            clear ha hw hxy hxy'
            go_wp2_with (first | (go_at_call 34; refine hcw.mono ?_; rintro e w1 ⟨b1, cap1, rfl, hst1, hbb1, hcc1, hcd1, hb1⟩; have d0 := hst1.head; unfold maxLen at hcd1) | (go_at_call 35; refine (undig_none b1 0 (l.length + 1) cap1 (a :: l) 5 w1 hst1 hwm HBAD.out).mono ?_; rintro e w2 ⟨rfl, hb2⟩; obtain ⟨z0, z1, z2, z3, y0, y1, y2, y3⟩ := zfacts ((hzr.below hb1).below hb2)))
            exact bodyPost_ret (v := .tuple #[.agg #[.int .i64 0, .int .i64 0, .slice none 0 0, .slice none 0 0], .int .i64 ((k : Int) + 1), .int .i64 1]) (by simp [results, Tryd.results15, go_sem, *]) rfl ⟨parRes_bad HPD.out, bel_four (bel_on (bel_on hbel hb1) hb2) (Nat.le_refl _) _ _ _ _⟩

end Go.Proofs.YteehgcbjmdideaaDoor
