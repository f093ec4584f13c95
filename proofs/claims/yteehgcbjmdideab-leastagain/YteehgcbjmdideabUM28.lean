/- Words as they lie in memory; 'End' and 'On' of them. -/
import Derived.Test.YteehgcbjmdideabUWoE
import Derived.Test.YteehgcbjmdideabUM11
namespace Go.Proofs.Yteehgcbjmdideab
open Go.RowKit
attribute [local go_sem ↓] Go.wp_at_zero Go.wp_at_succ
end Go.Proofs.Yteehgcbjmdideab
/- The least that a beginning costs as a word,and that all that go on from it do. -/
namespace Go.Proofs.Yteehgcbjmdideab
def MinP (p : Int -> Prop) (x : Int) : Prop:=(x = -1 /\ ∀ y,¬ p y) \/ (0 <= x /\ p x /\ ∀ y,p y -> x <= y)
def EndP (t : FstD) (s0 : Nat) (u : List Int) (y : Int) : Prop:=∃ n z,WdR t s0 u n z /\ 0 <= gI t.final n /\ y = z + gI t.final n
def ToW (t : FstD) (s0 : Nat) (u : List Int) (y : Int) : Prop:=∃ v,EndP t s0 (v ++ u) y
theorem MinP.unique {p : Int -> Prop} {x y : Int} (h : MinP p x) (k : MinP p y) : x = y:=by
 rcases h with ⟨rfl,h1⟩ | ⟨_,h1,h2⟩
 ·rcases k with ⟨rfl,_⟩ | ⟨_,k1,_⟩
  ·rfl
  ·exact absurd k1 (h1 _)
 ·rcases k with ⟨rfl,k1⟩ | ⟨_,k1,k2⟩
  ·exact absurd h1 (k1 _)
  ·have:=h2 _ k1
   have:=k2 _ h1
   omega
theorem MinP.cong {p q : Int -> Prop} {x : Int} (h : MinP p x) (e : ∀ y,p y ↔ q y) : MinP q x:=by
 rcases h with ⟨h1,h2⟩ | ⟨h1,h2,h3⟩
 ·exact Or.inl ⟨h1,fun y hy => h2 y ((e y).2 hy)⟩
 ·exact Or.inr ⟨h1,(e x).1 h2,fun y hy => h3 y ((e y).2 hy)⟩
theorem tow_alive {t : FstD} {s0 : Nat} {u : List Int} {y : Int} (h : ToW t s0 u y) : Alive t s0 u:=by
 obtain ⟨v,n,z,hr,_,_⟩:=h
 obtain ⟨m,z1,h1,_⟩:=(wdr_split v n z).1 hr
 exact ⟨m,z1,h1⟩
section
variable {t : FstD} {N s0 : Nat} {ws cs : List (List Int)} {ps ls : List Int}
end
end Go.Proofs.Yteehgcbjmdideab
/- 'End' and 'Best' of words. -/
namespace Go.Proofs.Yteehgcbjmdideab
open Go.RowKit
attribute [local go_sem ↓] Go.wp_at_zero Go.wp_at_succ
end Go.Proofs.Yteehgcbjmdideab
