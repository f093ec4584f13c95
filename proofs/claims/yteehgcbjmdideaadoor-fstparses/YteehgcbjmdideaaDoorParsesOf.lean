/- 'FstParses': from what 'ReadFst' answers. -/
import Derived.Test.YteehgcbjmdideaaDoorUndig
import Derived.Test.YteehgcbjmdideaaDoorBack
namespace Go.Proofs.YteehgcbjmdideaaDoor
open Go.RowKit
attribute [local go_sem ↓] Go.wp_at_zero Go.wp_at_succ

set_option maxHeartbeats 2000000 in
set_option maxRecDepth 100000 in
theorem fstParses_of (hR : ∀ (s : ByteArray) (w : World), s.size ≤ maxLen → Calls Tryd.prog 15 #[.string s] w fun e w' => ParRes s e w' ∧ Below w.heap.size w w')
    (s : ByteArray) (w : World) (ht : TabW w) (hsh : w.ShapedOpen Tryd.prog) (hm : s.size ≤ maxLen) :
    Calls Tryd.prog 4 #[.string s] w fun e w' => e = .returned (.bool true) ∧ Below w.heap.size w w' := by
  have hr := fun w' => hR s w' hm
  have hp := parse_any s w hm hsh
  unfold ParRes at hr hp
  generalize parseD (listOf s) = P at hr hp
  obtain ⟨f, ln, er⟩ := P
  simp only at hr hp
  have HR : Hid (∀ w', _) := hr
  clear hr hR
  go_enter Tryd.func4, Tryd.ntmps4
  go_wp2_with (first
    | (go_at_call 16; refine (same_self f (.slice a1 n1 k1) (.slice b1 m1 d1) (.slice a2 n2 k2) (.slice b2 m2 d2) w3 h4.fin h4.arcs hf4 ha4).mono ?_; rintro e w4 ⟨rfl, hb4⟩; have h5 := h4.below hb4)
    | (go_at_call 11; refine (fstBegun_any _ h3.tab h3.sh).mono ?_; rintro e w3 ⟨rfl, hb3⟩; have h4 := h3.below hb3; obtain ⟨c0, c1, c2, c3⟩ := h4.cells; obtain ⟨g0, g1, g2, g3⟩ := cg.below hb3; have hf4 := hf'2.below hb3; have ha4 := ha'2.below hb3)
    | (go_at_call 15; refine (HR.out _).mono ?_; rintro e w2 ⟨⟨fv', av', rfl, hf', ha'⟩, hb2⟩; obtain ⟨a2, n2, k2, rfl, _, _⟩ := hf'.lenOf; obtain ⟨b2, m2, d2, rfl, _, _⟩ := ha'.lenOf; have h2 := h1.below hb2; have hf'2 := hf'.below (bel_up (bel_self w2) (.cells #[.int .i64 f.states, .int .i64 f.start, (.slice a2 n2 k2), (.slice b2 m2 d2)] 25)); have ha'2 := ha'.below (bel_up (bel_self w2) (.cells #[.int .i64 f.states, .int .i64 f.start, (.slice a2 n2 k2), (.slice b2 m2 d2)] 25)); have h3 := h2.below (bel_up (bel_self w2) (.cells #[.int .i64 f.states, .int .i64 f.start, (.slice a2 n2 k2), (.slice b2 m2 d2)] 25)); have cg := cellsF_new w2 f.states f.start (.slice a2 n2 k2) (.slice b2 m2 d2) 25)
    | (go_at_call 14; refine hp.mono ?_; rintro e w1 ⟨⟨fv, av, rfl, hf, ha⟩, hb1⟩; obtain ⟨a1, n1, k1, rfl, _, _⟩ := hf.lenOf; obtain ⟨b1, m1, d1, rfl, _, _⟩ := ha.lenOf; have h1 := BW.start f (.slice a1 n1 k1) (.slice b1 m1 d1) w1 hf ha (ht.below hb1 (Nat.le_refl _)) (shaped_below hsh hb1)))
  go_ret
  exact ⟨rfl, hb1.trans (h5.bel.mono hb1.size)⟩

end Go.Proofs.YteehgcbjmdideaaDoor
