/- 'ShortBest', whatever transducer and words it is handed. -/
import Derived.Test.YteehgcbjmdideaaQSbN
namespace Go.Proofs.Yteehgcbjmdideaa
open Go.RowKit

section
variable {E : List Edg} {b : List Int}

/-- a search always comes to an end -/
theorem inv_fix (hbn : b.length ≤ 400000) (hE : ∀ e ∈ E, e.v < b.length ∧ 0 ≤ e.w ∧ e.w ≤ 1000000000) : ∀ (n : Nat) (c y : List Int), muL c ≤ n → Inv E b c y → ∃ c' y', Inv E b c' y' ∧ Fix E c' := by
  intro n
  induction n with
  | zero =>
    intro c y hn hi
    by_cases hx : Fix E c
    · exact ⟨c, y, hi, hx⟩
    · exfalso
      refine hx fun e he h0 => ?_
      obtain ⟨j, hj⟩ := List.mem_iff_getElem?.1 he
      obtain ⟨h1, h2, h3⟩ := hE e he
      cases hb : betterB (plusC (gI c e.u) e.w) (gI c e.v) with
      | true =>
        have := (hi.step hbn hj h1 h2 h3 hb).2
        omega
      | false =>
        have hp : plusC (gI c e.u) e.w = gI c e.u + e.w := by unfold plusC; rw [if_neg (by omega)]
        have hl := hi.lo e.v
        have : ¬ (0 ≤ plusC (gI c e.u) e.w ∧ (gI c e.v = -1 ∨ plusC (gI c e.u) e.w < gI c e.v)) := fun h => by
          rw [(better_iff (plusC_lo _ _) (hi.lo _)).2 h] at hb
          exact Bool.noConfusion hb
        rw [hp] at this
        omega
  | succ n ih =>
    intro c y hn hi
    by_cases hs : ∃ (j : Nat) (e : Edg), E[j]? = some e ∧ betterB (plusC (gI c e.u) e.w) (gI c e.v) = true
    · obtain ⟨j, e, hj, hb⟩ := hs
      obtain ⟨h1, h2, h3⟩ := hE e (List.mem_of_getElem? hj)
      obtain ⟨g1, g2⟩ := hi.step hbn hj h1 h2 h3 hb
      exact ih _ _ (by omega) g1
    · refine ⟨c, y, hi, fun e he h0 => ?_⟩
      obtain ⟨j, hj⟩ := List.mem_iff_getElem?.1 he
      obtain ⟨h1, h2, h3⟩ := hE e he
      have hp : plusC (gI c e.u) e.w = gI c e.u + e.w := by unfold plusC; rw [if_neg (by omega)]
      have hl := hi.lo e.v
      have : ¬ (0 ≤ plusC (gI c e.u) e.w ∧ (gI c e.v = -1 ∨ plusC (gI c e.u) e.w < gI c e.v)) := fun h => hs ⟨j, e, hj, (better_iff (plusC_lo _ _) (hi.lo _)).2 h⟩
      rw [hp] at this
      omega
end

/-- how much two words cost at most -/
theorem best_top {f : FstD} {ins outs : List Int} {N s0 : Nat} (hok : OkW f ins outs N s0) {x : Int} (h : BestP f ins outs s0 x) : x ≤ 1000000000000000 := by
  have hb := (best_path hok).2 h
  rcases hb with ⟨rfl, _⟩ | ⟨_, ⟨v, k, z, hw, h0, rfl⟩, hm⟩
  · omega
  · have hlen : (bgS s0 (totS ins outs N)).length = totS ins outs N := bgS_len _ _
    have hbg : ∀ v, gI (bgS s0 (totS ins outs N)) v = -1 ∨ gI (bgS s0 (totS ins outs N)) v = 0 := fun v => by
      rw [bgS_at]
      split
      · exact Or.inr rfl
      · exact Or.inl rfl
    obtain ⟨c, y, hi, hx⟩ := inv_fix (E := EdS f ins outs N) (b := bgS s0 (totS ins outs N)) (by rw [hlen]; exact hok.tot) (by rw [hlen]; exact edS_bounds hok.n1 hok.arcs) _ _ _ (Nat.le_refl _) (Inv.start (fun v => by rcases hbg v with h | h <;> omega) (fun v => by rcases hbg v with h | h <;> omega))
    obtain ⟨g1, g2⟩ := fix_le hi.le hx hw
    rcases hi.ach v with g3 | ⟨k', g3⟩
    · omega
    · have g4 := hm v k' _ g3 h0
      have g5 := hi.topK (by rw [hlen]; exact hok.tot) v
      have g6 : finS (totS ins outs N) N f.final v ≤ 1000000000 := by
        unfold finS
        split
        · exact gI_of f.final (fun x => x ≤ 1000000000) (fun x hx => by rcases hok.fin x hx with h | h <;> omega) (by omega) _
        · omega
      omega

theorem chkS_one {f : FstD} {ins outs : List Int} (h : checkD f = 0) (g : FstD) (hg : checkD g = 0) : chkS g ins outs = chkS f ins outs := by
  unfold chkS
  rw [h, hg]

theorem shortBest_any (f : FstD) (ins outs : List Int) (fin arcs iv ov : Value) (w : World) (hf : ISlice w fin f.final) (ha : ASlice w arcs f.arcs) (hI : ISlice w iv ins) (hO : ISlice w ov outs) :
    Calls Try.prog 8 #[.agg #[.int .i64 f.states, .int .i64 f.start, fin, arcs], iv, ov] w fun e w' => e = .returned (.bool true) ∧ Below w.heap.size w w' := by
  obtain ⟨fa, fn, fc, rfl, _, _⟩ := hf.lenOf
  obtain ⟨aa, m, ac, rfl, hal, _⟩ := ha.lenOf
  by_cases hc : checkD f = 0
  · obtain ⟨N, s0, hok⟩ := okF f hc
    rw [hok.st, hok.sta]
    obtain ⟨hT1, hT2⟩ := toD_facts hok
    have hTb := (toD_bounds hok).2
    obtain ⟨x, hx⟩ : ∃ x, gI (toD f) s0 = x := ⟨_, rfl⟩
    obtain ⟨m1, g, hm⟩ : ∃ m1 g, (g ≠ 0 ∧ chkS f ins outs = g ∧ m1 = 0) ∨ (g = 0 ∧ chkS f ins outs = 0 ∧ BestP f ins outs s0 m1) := by
      by_cases h : chkS f ins outs = 0
      · obtain ⟨m1, hm1⟩ := best_ex f ins outs s0 (fun a h => (hok.arcs a h).2.2.1)
        exact ⟨m1, 0, Or.inr ⟨rfl, h, hm1⟩⟩
      · exact ⟨0, _, Or.inl ⟨h, rfl, rfl⟩⟩
    by_cases hx1 : x = -1
    · exact sbest_none f ins outs N s0 fa fn fc aa m ac iv ov w hok hf ha hal hI hO hc x hx m1 g hm hx1
    · have hx0 : 0 ≤ x := by have := (hTb s0).1; omega
      obtain ⟨ia, il, ic, rfl, _, _⟩ := hI.lenOf
      obtain ⟨oa, ol, oc, rfl, _, _⟩ := hO.lenOf
      have HSC : Hid (∀ W, Below w.heap.size w W → Calls Try.prog 10 #[.agg #[.int .i64 (N : Int), .int .i64 (s0 : Int), .slice fa fn fc, .slice aa m ac], .slice ia il ic, .slice oa ol oc] W fun e w' => e = .returned (.tuple #[.int .i64 m1, .int .i64 g]) ∧ Below W.heap.size W w') := fun W hb => by
        rcases hm with ⟨h1, h2, rfl⟩ | ⟨rfl, h2, h3⟩
        · have := score_no f ins outs _ _ _ _ W (hf.below hb) (ha.below hb) (hI.below hb) (hO.below hb) g h2 h1
          rw [hok.st, hok.sta] at this
          exact this
        · have := score_at f ins outs _ _ _ _ W (hf.below hb) (ha.below hb) (hI.below hb) (hO.below hb) m1 h2 (by rw [hok.sta, Int.toNat_natCast]; exact h3)
          rw [hok.st, hok.sta] at this
          exact this
      obtain ⟨d, hd⟩ : ∃ d, d = pushD f (toD f) := ⟨_, rfl⟩
      have HPU : Hid (∀ W, Below w.heap.size w W → Calls Try.prog 38 #[.agg #[.int .i64 (N : Int), .int .i64 (s0 : Int), .slice fa fn fc, .slice aa m ac]] W fun e w' => PushRes W d e w') := fun W hb => by
        have := push_any f N s0 _ aa m ac W hok (hf.below hb) (ha.below hb) hal hc d hd
        rw [hok.st, hok.sta] at this
        exact this
      have hd' : d = if greatA (pushA (toD f) f.arcs) = true then (⟨0, 0, [], []⟩, 0, 2) else (pushB f (toD f), x, 0) := by
        rw [hd]
        unfold pushD pushB
        rw [hok.sta, hok.st, Int.toNat_natCast, hx, if_neg hx1]
      have hxm : ∀ y, TotP f ins outs s0 y → x ≤ y := fun y hy => by have := (tot_ge hT1 hT2 hy).2; omega
      cases hgr : greatA (pushA (toD f) f.arcs) with
      | true =>
        rw [if_pos hgr] at hd'
        have hd2 : d.2.2 ≠ 0 := by rw [hd']; decide
        rcases hm with ⟨h1, h2, h3⟩ | ⟨h1, h2, h3⟩
        · exact sbest_g1 f N s0 fa fn fc aa m ac ia il ic oa ol oc w hok hf ha hal hc x hx hx0 m1 g HSC d HPU h1 hd2
        · rcases h3 with ⟨h4, _⟩ | ⟨h4, h5, _⟩
          · exact sbest_g2 f N s0 fa fn fc aa m ac ia il ic oa ol oc w hok hf ha hal hc x hx hx0 m1 g HSC d HPU h1 h4 hd2
          · exact sbest_g3 f N s0 fa fn fc aa m ac ia il ic oa ol oc w hok hf ha hal hc x hx hx0 m1 g HSC d HPU h1 h4 (hxm _ h5) hd2
      | false =>
        rw [if_neg (by rw [hgr]; decide)] at hd'
        have hcp : checkD (pushB f (toD f)) = 0 := push_fine hc hT1 hT2 (fun v => (hTb v).1) hgr
        have hd1 : d.2.1 = x := by rw [hd']
        have hd2 : d.2.2 = 0 := by rw [hd']
        have hdp : d.1 = pushB f (toD f) := by rw [hd']
        have hst : (pushB f (toD f)).start.toNat = s0 := by show f.start.toNat = s0; rw [hok.sta, Int.toNat_natCast]
        have hck : chkS (pushB f (toD f)) ins outs = chkS f ins outs := chkS_one hc _ hcp
        have htot : ∀ y, TotP (pushB f (toD f)) ins outs s0 y ↔ TotP f ins outs s0 (y + x) := fun y => by
          have := tot_push (ins := ins) (outs := outs) hT1 hT2 (fun v => (hTb v).1) (fun v => by rcases hok.bT.1 v with h | h <;> omega) (by rw [hx]; exact hx0) y
          rw [hx] at this
          exact this
        rcases hm with ⟨h1, h2, h3⟩ | ⟨h1, h2, h3⟩
        · exact sbest_h1 f N s0 fa fn fc aa m ac ia il ic oa ol oc w hok hf ha hal hc x hx hx0 m1 g HSC d HPU 0 (fun fv av W k1 k2 hb => by
            rw [hdp] at k1 k2 ⊢
            exact score_no (pushB f (toD f)) ins outs _ _ _ _ W k1 k2 (hI.below hb) (hO.below hb) g (hck.trans h2) h1) h1 hd1 hd2
        · obtain ⟨_, hw1, hw2⟩ := chkS_ok h2
          obtain ⟨N', s0', e1, e2, hokw, _⟩ := okW hc hw1 hw2
          have e3 : s0' = s0 := by have := hok.sta; omega
          subst e3
          have htop := best_top hokw h3
          subst h1
          rcases h3 with ⟨h4, h5⟩ | ⟨h4, h5, h6⟩
          · have hbp : BestP (pushB f (toD f)) ins outs (pushB f (toD f)).start.toNat (-1) := by
              rw [hst]
              exact Or.inl ⟨rfl, fun y hy => h5 _ ((htot y).1 hy)⟩
            exact sbest_h2 f N s0' fa fn fc aa m ac ia il ic oa ol oc w hok hf ha hal hc x hx hx0 m1 0 HSC d HPU (-1) (fun fv av W k1 k2 hb => by
              rw [hdp] at k1 k2 ⊢
              exact score_at (pushB f (toD f)) ins outs _ _ _ _ W k1 k2 (hI.below hb) (hO.below hb) (-1) (hck.trans h2) hbp) rfl h4 rfl hd1 hd2
          · have hxm1 := hxm _ h5
            have hbp : BestP (pushB f (toD f)) ins outs (pushB f (toD f)).start.toNat (m1 - x) := by
              rw [hst]
              refine Or.inr ⟨by omega, (htot _).2 (by rw [show m1 - x + x = m1 by omega]; exact h5), fun y hy => ?_⟩
              have := h6 _ ((htot y).1 hy)
              omega
            exact sbest_h3 f N s0' fa fn fc aa m ac ia il ic oa ol oc w hok hf ha hal hc x hx hx0 m1 0 HSC d HPU (m1 - x) (fun fv av W k1 k2 hb => by
              rw [hdp] at k1 k2 ⊢
              exact score_at (pushB f (toD f)) ins outs _ _ _ _ W k1 k2 (hI.below hb) (hO.below hb) (m1 - x) (hck.trans h2) hbp) rfl h4 htop (by omega) (by omega) hd1 hd2
  · exact sbest_err f ins outs fa fn fc aa m ac iv ov w hf ha hI hO _ rfl hc
end Go.Proofs.Yteehgcbjmdideaa
