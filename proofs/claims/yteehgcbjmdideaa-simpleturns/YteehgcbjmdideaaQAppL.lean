/- An append whose second argument is nil or a slice, in a region that draws its order; words about rows of arcs that grow. -/
import Derived.Test.YteehgcbjmdideaaQSimD
namespace Go.Proofs.Yteehgcbjmdideaa
open Go.RowKit

/-- what is appended: nothing (nil), or so many elements -/
def SrcAt (w : World) (size : Nat) (vx : Value) (m : Nat) (news : List Value) : Prop :=
  (vx = .slice none 0 0 ∧ m = 0 ∧ news = []) ∨ ∃ ad c, vx = .slice (some ad) m c ∧ news.length = m * size ∧ ∀ j u, news[j]? = some u → w.cell? (ad.add j) = some u

theorem wp_app {P : Program} {w : World} {o : Oper} {a : Act} {K : Act → World → Prop} {Q : Exit → Act → World → Prop} (s x : Operand) (t : TypeId)
    (ho : o.op = .call { callee := .builtin .append, args := #[s, x], argTypes := #[t, t] })
    (base : Nat) (e : TypeId) (i : TypeInfo) (z : Value) (size bytes : Nat) (ht : P.underlying t = some (.slice e)) (hi : P.info? e = some i) (hz : i.zero = some z)
    (hsize : i.size = size) (hby : i.bytes = bytes) (hzs : z.cells.size = size) (hsz : 0 < size)
    (v : Value) (n : Nat) (xs : List Value) (hs : a.eval s = v) (hown : w.ownsRow base e size v n xs)
    (vx : Value) (m : Nat) (news : List Value) (hx : a.eval x = vx) (hsrc : SrcAt w size vx m news) (h1 : ∀ u ∈ news, u.oneCell' = true)
    (h63 : n + m ≤ maxLen) (hbytes : (n + m) * bytes ≤ 140737488355328) (hbase : base ≤ w.heap.size)
    (h : ∀ v' w', w'.ownsRow base e size v' (n + m) (xs ++ news) → w.grownBy w' v.ownBlock → (v ≠ .slice none 0 0 → v' ≠ .slice none 0 0) → K (a.put o.dst v') w') : o.wp P a w K Q := by
  rcases hsrc with ⟨rfl, rfl, rfl⟩ | ⟨ad, c, rfl, hl, hnews⟩
  · have hrun := run_append_owned_none (P := P) (w := w) base t o.type e i size ht hi v n xs hown
    unfold Oper.wp execOp
    simp only [ho, resolve, invoke, builtin, Sem.run_bind, Sem.run_pure, Result.andThen_ok, List.map_toArray, List.map_cons, List.map_nil, hs, hx, hrun]
    exact h v w (by rw [List.append_nil]; exact hown) ⟨rfl, rfl, rfl, Nat.le_refl _, fun _ _ _ => rfl⟩ (fun h => h)
  · exact wp_append_own w s x t ho base e i z size bytes ht hi hz hsize hby hzs hsz v n xs hs hown ad m c news hx hl hnews h1 h63 hbytes hbase (fun v' w' a1 a2 a3 => h v' w' a1 a2 (fun hv e => hv (a3.1 e).1))

theorem lit1A (W : World) (base : Nat) (hb : base ≤ W.heap.size) : (W.alloc (.cells #[] 63)).ownsRow base 63 5 (.slice (some ⟨W.heap.size, 0, none⟩) 0 0) 0 [] := by
  have h := World.ownsRow_lit (base := base) (e := 63) (size := 5) W #[] 0 hb (by decide) rfl
  simpa using h

/-- the arcs of a row, from one place to another -/
theorem row_src {w : World} {B e g n cap : Nat} {out : List ArcD} (h : w.ownsRow B e 5 (.slice (some ⟨g, 0, none⟩) n cap) n (arcsV out)) (i m : Nat) (him : i + m ≤ n) :
    ∀ j u, (arcsV ((out.drop i).take m))[j]? = some u → w.cell? ((⟨g, i * 5, none⟩ : Addr).add j) = some u := by
  have hr := (ARow.of h).1
  intro j u hj
  have hlen : ((out.drop i).take m).length = m := by rw [List.length_take, List.length_drop, hr.len]; omega
  have hl : j < m * 5 := by
    have := (List.getElem?_eq_some_iff.1 hj).1
    rw [arcsV_len, hlen] at this
    exact this
  have hg := arcsV_get ((out.drop i).take m) (j / 5) (j % 5) (by omega) (by omega)
  rw [show j / 5 * 5 + j % 5 = j by omega, hj] at hg
  have he : ((out.drop i).take m).getD (j / 5) a0 = out.getD (i + j / 5) a0 := by
    simp only [List.getD_eq_getElem?_getD, List.getElem?_take, List.getElem?_drop, if_pos (show j / 5 < m by omega)]
  rw [he] at hg
  rw [Addr.add_lit, show i * 5 + j = (i + j / 5) * 5 + j % 5 by omega, hr.cell (i + j / 5) (j % 5) (by omega) (by omega)]
  exact hg.symm
end Go.Proofs.Yteehgcbjmdideaa
