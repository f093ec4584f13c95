/- 'take' of package simple: a piece is taken in behind those that are there. (Made by wip/gen/joi.py.) -/
import Derived.Test.YteehgcbjmdideaaQM08
namespace Go.Proofs.Yteehgcbjmdideaa
open Go.RowKit
attribute [local go_sem ↓] Go.wp_at_zero Go.wp_at_succ

theorem wp_app_at {P : Program} {w : World} {o : Oper} {a : Act} {K : Act → World → Prop} {Q : Exit → Act → World → Prop} (s x : Operand) (t : TypeId)
    (ho : o.op = .call { callee := .builtin .append, args := #[s, x], argTypes := #[t, t] })
    (base : Nat) (e : TypeId) (i : TypeInfo) (z : Value) (size bytes : Nat) (ht : P.underlying t = some (.slice e)) (hi : P.info? e = some i) (hz : i.zero = some z)
    (hsize : i.size = size) (hby : i.bytes = bytes) (hzs : z.cells.size = size) (hsz : 0 < size)
    (v : Value) (n : Nat) (xs : List Value) (hs : a.eval s = v) (hown : w.ownsRow base e size v n xs)
    (vx : Value) (m : Nat) (news : List Value) (hx : a.eval x = vx) (hsrc : SrcAt w size vx m news) (h1 : ∀ u ∈ news, u.oneCell' = true)
    (h63 : n + m ≤ maxLen) (hbytes : (n + m) * bytes ≤ 140737488355328) (hbase : base ≤ w.heap.size)
    (h : ∀ v' w', w'.ownsRow base e size v' (n + m) (xs ++ news) → w.grownBy w' v.ownBlock → (v'.ownBlock = v.ownBlock ∨ v'.ownBlock = some w.heap.size) → K (a.put o.dst v') w') : o.wp P a w K Q := by
  rcases hsrc with ⟨rfl, rfl, rfl⟩ | ⟨ad, c, rfl, hl, hnews⟩
  · have hrun := run_append_owned_none (P := P) (w := w) base t o.type e i size ht hi v n xs hown
    unfold Oper.wp execOp
    simp only [ho, resolve, invoke, builtin, Sem.run_bind, Sem.run_pure, Result.andThen_ok, List.map_toArray, List.map_cons, List.map_nil, hs, hx, hrun]
    exact h v w (by rw [List.append_nil]; exact hown) ⟨rfl, rfl, rfl, Nat.le_refl _, fun _ _ _ => rfl⟩ (Or.inl rfl)
  · obtain ⟨v', w', hr, h2, h3, h4, h5⟩ := run_append_own_at (P := P) w base t o.type e i z size bytes ht hi hz hsize hby hzs hsz v n xs hown ad m c news hl hnews h1 h63 hbytes hbase
    unfold Oper.wp execOp
    simp only [ho, resolve, invoke, builtin, Sem.run_bind, Sem.run_pure, Result.andThen_ok, List.map_toArray, List.map_cons, List.map_nil, hs, hx, hr]
    exact h v' w' h2 h3 h5

end Go.Proofs.Yteehgcbjmdideaa

/- 'begin' and 'done' of package simple. -/
namespace Go.Proofs.Yteehgcbjmdideaa
open Go.RowKit
attribute [local go_sem ↓] Go.wp_at_zero Go.wp_at_succ

theorem bel4 {B P : Nat} {w w' : World} (h : Below B w w') (hP : B ≤ P) (u0 u1 u2 u3 : Value) : Below B w ((((w'.setCell ⟨P, 0, none⟩ u0).setCell ⟨P, 1, none⟩ u1).setCell ⟨P, 2, none⟩ u2).setCell ⟨P, 3, none⟩ u3) :=
  (((h.setCell (p := ⟨P, 0, none⟩) hP u0).setCell (p := ⟨P, 1, none⟩) hP u1).setCell (p := ⟨P, 2, none⟩) hP u2).setCell (p := ⟨P, 3, none⟩) hP u3

theorem JW.new {w : World} {P B : Nat} (h : w.heap[P]? = some (.cells #[.int .i64 0, .int .i64 0, .slice none 0 0, .slice none 0 0] 84 (0, 0))) (hP : B ≤ P) : JW w P B 0 0 (.slice none 0 0) (.slice none 0 0) [] [] :=
  ⟨h, World.ownsRow_nil _ _ _ _, World.ownsRow_nil _ _ _ _, hP, by simp [Value.ownBlock], by simp [Value.ownBlock], fun g hg => by simp [Value.ownBlock] at hg⟩

end Go.Proofs.Yteehgcbjmdideaa

/- 'fit' and 'Either' of package simple, where all is right. -/
namespace Go.Proofs.Yteehgcbjmdideaa
open Go.RowKit
attribute [local go_sem ↓] Go.wp_at_zero Go.wp_at_succ

/-- the second of two transducers in a block -/
def CellsG (w : World) (B : Nat) (st sta : Int) (fin arcs : Value) : Prop :=
  w.cell? ⟨B, 4, none⟩ = some (.int .i64 st) ∧ w.cell? ⟨B, 5, none⟩ = some (.int .i64 sta) ∧ w.cell? ⟨B, 6, none⟩ = some fin ∧ w.cell? ⟨B, 7, none⟩ = some arcs
theorem CellsG.below {w w' : World} {B : Nat} {st sta : Int} {fin arcs : Value} (h : CellsG w B st sta fin arcs) (hb : Below w.heap.size w w') : CellsG w' B st sta fin arcs :=
  ⟨bel_c hb h.1, bel_c hb h.2.1, bel_c hb h.2.2.1, bel_c hb h.2.2.2⟩

set_option maxHeartbeats 1000000 in
theorem all_ok2 (f g : FstD) (fin arcs fin' arcs' : Value) (B : Nat) (w : World) (hC : CellsF w B f.states f.start fin arcs) (hD : CellsG w B g.states g.start fin' arcs') (hf : ISlice w fin f.final) (ha : ASlice w arcs f.arcs) (hf' : ISlice w fin' g.final) (ha' : ASlice w arcs' g.arcs) (hc : checkD f = 0) (hc' : checkD g = 0) :
    Calls Try.prog 59 #[.slice (some ⟨B, 0, none⟩) 2 2] w fun e w' => e = .returned (.int .i64 0) ∧ Below w.heap.size w w' := by
  obtain ⟨fa, fn, fc, rfl, _, _⟩ := hf.lenOf
  obtain ⟨ba, bn, bc, rfl, _, _⟩ := ha.lenOf
  obtain ⟨ga, gn, gc, rfl, _, _⟩ := hf'.lenOf
  obtain ⟨ea, en, ec, rfl, _, _⟩ := ha'.lenOf
  have hchk : ∀ W, ISlice W (.slice fa fn fc) f.final → ASlice W (.slice ba bn bc) f.arcs → Calls Try.prog 101 #[.agg #[.int .i64 f.states, .int .i64 f.start, .slice fa fn fc, .slice ba bn bc]] W fun e w' => e = .returned (.int .i64 0) ∧ Below W.heap.size W w' := by
    intro W k1 k2; rw [← hc]; exact check_any f _ _ W k1 k2
  have hchk' : ∀ W, ISlice W (.slice ga gn gc) g.final → ASlice W (.slice ea en ec) g.arcs → Calls Try.prog 101 #[.agg #[.int .i64 g.states, .int .i64 g.start, .slice ga gn gc, .slice ea en ec]] W fun e w' => e = .returned (.int .i64 0) ∧ Below W.heap.size W w' := by
    intro W k1 k2; rw [← hc']; exact check_any g _ _ W k1 k2
  clear hc hc'
  go_enter Try.func59, Try.ntmps59
  go_wp2
  go_loopw [8] (fun i wr => ∃ k : Nat, k ≤ 2 ∧ i = .int .i64 k ∧ Below w.heap.size w wr) (fun i _ => 2 - (intOf i).toNat)
  case atStart => exact ⟨0, by omega, rfl, bel_self _⟩
  case round =>
    obtain ⟨k, hk, rfl, hb⟩ := hrel
    by_cases h0 : k = 0
    · subst h0
      obtain ⟨q0, q1, q2, q3⟩ := hC.below hb
      have hb1 := bel_up (bel_self wr) (.cells #[.int .i64 f.states, .int .i64 f.start, .slice fa fn fc, .slice ba bn bc] 25)
      have h1 := (hf.below hb).below hb1
      have h2 := (ha.below hb).below hb1
      go_wp2_with (go_at_call 101; refine (hchk _ h1 h2).mono ?_; rintro e w1 ⟨rfl, hb2⟩)
      go_roundw
      case rel => exact ⟨1, by omega, by go_num, bel_on (bel_on hb hb1) hb2⟩
      case measure => simp [intOf]
    · by_cases h1' : k = 1
      · subst h1'
        obtain ⟨q0, q1, q2, q3⟩ := hD.below hb
        have hb1 := bel_up (bel_self wr) (.cells #[.int .i64 g.states, .int .i64 g.start, .slice ga gn gc, .slice ea en ec] 25)
        have h1 := (hf'.below hb).below hb1
        have h2 := (ha'.below hb).below hb1
        go_wp2_with (go_at_call 101; refine (hchk' _ h1 h2).mono ?_; rintro e w1 ⟨rfl, hb2⟩)
        go_roundw
        case rel => exact ⟨2, by omega, by go_num, bel_on (bel_on hb hb1) hb2⟩
        case measure => simp [intOf]
      · have hk2 : k = 2 := by omega
        subst hk2
        go_wp2
        go_ret
        exact ⟨rfl, hb⟩

end Go.Proofs.Yteehgcbjmdideaa
