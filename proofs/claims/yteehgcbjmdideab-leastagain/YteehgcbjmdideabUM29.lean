/- 'Alike' of the document: do two beginnings go on alike,but for what one costs more? (Made by wip/gen/wvc.py.) -/
import Derived.Test.YteehgcbjmdideabUM28
import Derived.Test.YteehgcbjmdideabUM13
import Derived.Test.YteehgcbjmdideabUM09
namespace Go.Proofs.Yteehgcbjmdideab
open Go.RowKit
attribute [local go_sem ↓] Go.wp_at_zero Go.wp_at_succ
def AlikeP (t : FstD) (s0 : Nat) (u : List Int) (t2 : FstD) (s02 : Nat) (u2 : List Int) (x y : Int) : Prop :=
 ∀ s a b,MinP (EndP t s0 (s ++ u)) a -> MinP (EndP t2 s02 (s ++ u2)) b -> (a < 0 ↔ b < 0) /\ (0 <= a -> a - x = b - y)
def LiveW (t : FstD) (s0 : Nat) : Prop:=∀ c u,Alive t s0 (c :: u) -> ∃ y,ToW t s0 (c :: u) y
section
variable {t t2 : FstD} {N N2 s0 s02 : Nat} {u u2 : List Int} {x y : Int}
end
end Go.Proofs.Yteehgcbjmdideab
/- 'MostWeight','CheckLeast' and 'SameWords' of the document. -/
namespace Go.Proofs.Yteehgcbjmdideab
open Go.RowKit
attribute [local go_sem ↓] Go.wp_at_zero Go.wp_at_succ
end Go.Proofs.Yteehgcbjmdideab
/- 'kindsOf' of the program. -/
namespace Go.Proofs.Yteehgcbjmdideab
open Go.RowKit
attribute [local go_sem ↓] Go.wp_at_zero Go.wp_at_succ
def lastArc (A : List ArcD) (s c : Nat) : Option ArcD:=(A.filter fun a => a.src == (s : Int) && a.inp == (c : Int)).getLast?
def leapTo (A : List ArcD) (cl : List Int) (s c : Nat) : Int:=match lastArc A s c with | some a => gI cl a.dst.toNat | none => -1
def leapCo (A : List ArcD) (s c : Nat) : Int:=match lastArc A s c with | some a => a.wt | none => 0
def kcell (A : List ArcD) (fin cl : List Int) (j : Nat) : Int :=
 if j % 19 = 0 then gI fin (j / 19) else if j % 19 % 2 = 1 then leapTo A cl (j / 19) ((j % 19 + 1) / 2) else leapCo A (j / 19) ((j % 19 + 1) / 2)
def intsV (K : Nat -> Int) : Nat -> Value:=fun i => .int .i64 (K i)
theorem kcell_end (A : List ArcD) (fin cl : List Int) (s : Nat) : kcell A fin cl (s * 19) = gI fin s:=by
 unfold kcell
 rw [if_pos (by omega),show s * 19 / 19 = s by omega]
theorem kcell_to (A : List ArcD) (fin cl : List Int) (s i : Nat) (hi : i < 9) : kcell A fin cl (s * 19 + 1 + i * 2) = leapTo A cl s (i + 1):=by
 unfold kcell
 rw [if_neg (by omega),if_pos (by omega),show (s * 19 + 1 + i * 2) / 19 = s by omega,show ((s * 19 + 1 + i * 2) % 19 + 1) / 2 = i + 1 by omega]
theorem kcell_co (A : List ArcD) (fin cl : List Int) (s i : Nat) (hi : i < 9) : kcell A fin cl (s * 19 + 1 + i * 2 + 1) = leapCo A s (i + 1):=by
 unfold kcell
 rw [if_neg (by omega),if_neg (by omega),show (s * 19 + 1 + i * 2 + 1) / 19 = s by omega,show ((s * 19 + 1 + i * 2 + 1) % 19 + 1) / 2 = i + 1 by omega]
theorem lastArc_snoc (A : List ArcD) (a : ArcD) (s c : Nat) : lastArc (A ++ [a]) s c = if a.src = (s : Int) /\ a.inp = (c : Int) then some a else lastArc A s c:=by
 unfold lastArc
 rw [List.filter_append]
 by_cases h : a.src = (s : Int) /\ a.inp = (c : Int)
 ·rw [if_pos h,List.filter_cons_of_pos (by simp [h.1,h.2])]
  simp
 ·rw [if_neg h,List.filter_cons_of_neg (by simp; exact fun h1 h2 => h ⟨h1,h2⟩)]
  simp
theorem kcell_snoc (A : List ArcD) (fin cl : List Int) (a : ArcD) (s i : Nat) (hs : a.src = (s : Int)) (hi : a.inp = ((i + 1 : Nat) : Int)) (hi9 : i < 9) (j : Nat) :
  kcell (A ++ [a]) fin cl j = if j = s * 19 + 1 + i * 2 then gI cl a.dst.toNat else if j = s * 19 + 1 + i * 2 + 1 then a.wt else kcell A fin cl j:=by
 by_cases h1 : j = s * 19 + 1 + i * 2
 ·rw [if_pos h1,h1,kcell_to _ _ _ _ _ hi9]
  unfold leapTo
  rw [lastArc_snoc,if_pos ⟨hs,hi⟩]
 ·rw [if_neg h1]
  by_cases h2 : j = s * 19 + 1 + i * 2 + 1
  ·rw [if_pos h2,h2,kcell_co _ _ _ _ _ hi9]
   unfold leapCo
   rw [lastArc_snoc,if_pos ⟨hs,hi⟩]
  ·rw [if_neg h2]
   unfold kcell
   by_cases h3 : j % 19 = 0
   ·rw [if_pos h3,if_pos h3]
   ·rw [if_neg h3,if_neg h3]
    have hne : ¬ (a.src = ((j / 19 : Nat) : Int) /\ a.inp = (((j % 19 + 1) / 2 : Nat) : Int)):=by
     rw [hs,hi]
     omega
    unfold leapTo leapCo
    rw [lastArc_snoc,if_neg hne]
theorem kcell_nil (fin cl : List Int) (s i : Nat) (hi : i < 9) : kcell [] fin cl (s * 19 + 1 + i * 2) = -1 /\ kcell [] fin cl (s * 19 + 1 + i * 2 + 1) = 0:=⟨by rw [kcell_to _ _ _ _ _ hi]; rfl,by rw [kcell_co _ _ _ _ _ hi]; rfl⟩
def zKind : Value:=.agg #[.int .i64 0,.int .i64 0,.int .i64 0,.int .i64 0,.int .i64 0,.int .i64 0,.int .i64 0,.int .i64 0,.int .i64 0,.int .i64 0,.int .i64 0,.int .i64 0,.int .i64 0,.int .i64 0,.int .i64 0,.int .i64 0,.int .i64 0,.int .i64 0,.int .i64 0]
theorem infoK : (Try.prog.info? 135).map (fun i => (i.zero,i.size,i.bytes)) = some (some zKind,19,152):=by kernel_rfl
theorem cellsK : zKind.cells = #[.int .i64 0,.int .i64 0,.int .i64 0,.int .i64 0,.int .i64 0,.int .i64 0,.int .i64 0,.int .i64 0,.int .i64 0,.int .i64 0,.int .i64 0,.int .i64 0,.int .i64 0,.int .i64 0,.int .i64 0,.int .i64 0,.int .i64 0,.int .i64 0,.int .i64 0]:=by rfl
theorem cellsK0 : ∀ i,i < zKind.cells.size -> zKind.cells[i]! = .int .i64 0:=fun i hi => by
 rw [cellsK] at hi ⊢
 have : ∀ i : Fin 19,(#[.int .i64 0,.int .i64 0,.int .i64 0,.int .i64 0,.int .i64 0,.int .i64 0,.int .i64 0,.int .i64 0,.int .i64 0,.int .i64 0,.int .i64 0,.int .i64 0,.int .i64 0,.int .i64 0,.int .i64 0,.int .i64 0,.int .i64 0,.int .i64 0,.int .i64 0] : Array Value)[i.1]! = .int .i64 0:=fun i => by
  obtain ⟨i,hi⟩:=i
  repeat (rcases i with _ | i; rfl)
  omega
 exact this ⟨i,hi⟩
theorem made_many (w : World) (z : Array Value) (v : Value) (n t : Nat) (h0 : 0 < z.size) (hz : ∀ i,i < z.size -> z[i]! = v) : ValsAt (w.alloc (.cells (madeCells z n) t)) w.heap.size n (fun _ => v):=by
 have h : (w.alloc (.cells (madeCells z n) t)).heap[w.heap.size]? = some (.cells (madeCells z n) t (0,0)):=heap_alloc_new w _
 refine ⟨fun i hi => ?_,fun i => Go.Joins.unfrozen_of_block h i,heap_lt h⟩
 have hm : (madeCells z n)[i]? = some v:=by
  unfold madeCells
  simp [hi]
  have:=hz (i % z.size) (Nat.mod_lt _ h0)
  simpa using this
 rw [World.cell?]
 simp only [h]
 exact hm
theorem make_kinds (n : Nat) (hn : n <= 1000) (w : World) : (Instr.makeSlice 128 (.int .i64 (n : Int)) (.int .i64 (n : Int))).run Try.prog w = .ok (.slice (some ⟨w.heap.size,0,none⟩) n n) (w.alloc (.cells (madeCells zKind.cells (n * 19)) 135)):=by
 obtain ⟨i,hi,hzz⟩:=Option.map_eq_some_iff.1 infoK
 simp only [Prod.mk.injEq] at hzz
 obtain ⟨hz,hs,hb⟩:=hzz
 have hr:=run_make (P:=Try.prog) w 128 135 i zKind Try.underlying128 hi hz .i64 .i64 n n (by omega) (Int.le_refl _) (by rw [hb]; omega) (by omega)
 simp only [Int.toNat_natCast,hs] at hr
 exact hr
end Go.Proofs.Yteehgcbjmdideab
