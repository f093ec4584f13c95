/- A search that takes the spot that costs least first: what stays true,and what it tells. -/
import Derived.Test.YteehgcbjmdideabQM06
import Derived.Test.YteehgcbjmdideabQM00
import Derived.Deep.QuietTactic
import Derived.BigQuiet
namespace Go.Proofs.Yteehgcbjmdideab
section
variable {E : List Edg} {b c y : List Int} {fin : Nat -> Int}
variable {α : Type} {enc : α -> Nat} {key : α -> Int}
end
end Go.Proofs.Yteehgcbjmdideab
/- Spots: a state,and how many letters of two words are used; edges from spot to spot; what a pair of words costs. -/
namespace Go.Proofs.Yteehgcbjmdideab
def fitB (word : List Int) (used : Nat) (letter : Int) : Bool:=(letter == 0) || (decide (used < word.length) && (word.getD used 0 == letter))
def usedBy (used : Nat) (letter : Int) : Nat:=if letter = 0 then used else used + 1
end Go.Proofs.Yteehgcbjmdideab
/- What the document's tables hold: place by place,along arcs that say something,then along silent ones till nothing is better. -/
namespace Go.Proofs.Yteehgcbjmdideab
end Go.Proofs.Yteehgcbjmdideab
/- Arcs that stand by where they begin: the number of the first arc of each state. Edges from spot to spot,their bounds. -/
namespace Go.Proofs.Yteehgcbjmdideab
section
variable {N : Nat} {ins outs : List Int} {arcs : List ArcD}
end
end Go.Proofs.Yteehgcbjmdideab
/- 'use' of package score: a letter behind those that are used already. -/
namespace Go.Proofs.Yteehgcbjmdideab
open Go.RowKit
attribute [local go_sem ↓] Go.wp_at_zero Go.wp_at_succ
end Go.Proofs.Yteehgcbjmdideab
/- What the search's map and queue hold,as prices of spots. -/
namespace Go.Proofs.Yteehgcbjmdideab
open Go.RowKit
section
variable (f : FstD) (ins outs : List Int) (N : Nat)
end
section
variable {f : FstD} {ins outs : List Int} {N s0 : Nat} {c y : List Int} {ms : List MetD} {L : List PlD} {best : Int} {x0 : Nat} {D : List Nat} {lo : Int}
end
end Go.Proofs.Yteehgcbjmdideab
/- Ways through a transducer by two words: a state,how many letters are used,what it cost. What a pair of words costs,told by them. -/
namespace Go.Proofs.Yteehgcbjmdideab
def PathN (f : FstD) (ins outs : List Int) (s0 : Nat) : Nat -> Nat -> Nat -> Nat -> Int -> Prop
 | 0,n,i,o,z => n = s0 /\ i = 0 /\ o = 0 /\ z = 0
 | h + 1,n,i,o,z => ∃ a ∈ f.arcs,∃ n' i' o' z',PathN f ins outs s0 h n' i' o' z' /\ a.src = (n' : Int) /\ a.dst = (n : Int) /\ fitB ins i' a.inp = true /\ fitB outs o' a.out = true /\ i = usedBy i' a.inp /\ o = usedBy o' a.out /\ z = z' + a.wt
def TotP (f : FstD) (ins outs : List Int) (s0 : Nat) (x : Int) : Prop :=
 ∃ h n z,PathN f ins outs s0 h n ins.length outs.length z /\ 0 <= gI f.final n /\ x = z + gI f.final n
def BestP (f : FstD) (ins outs : List Int) (s0 : Nat) (x : Int) : Prop :=
 (x = -1 /\ ∀ y,¬ TotP f ins outs s0 y) \/ (0 <= x /\ TotP f ins outs s0 x /\ ∀ y,TotP f ins outs s0 y -> x <= y)
theorem BestP.unique {f : FstD} {ins outs : List Int} {s0 : Nat} {x z : Int} (h : BestP f ins outs s0 x) (h' : BestP f ins outs s0 z) : x = z:=by
 rcases h with ⟨rfl,h1⟩ | ⟨_,h1,h2⟩
 ·rcases h' with ⟨rfl,_⟩ | ⟨_,h3,_⟩
  ·rfl
  ·exact absurd h3 (h1 _)
 ·rcases h' with ⟨rfl,h3⟩ | ⟨_,h3,h4⟩
  ·exact absurd h1 (h3 _)
  ·have:=h2 _ h3
   have:=h4 _ h1
   omega
theorem BestP.of_tot {f g : FstD} {ins outs ins' outs' : List Int} {s0 t0 : Nat} {x : Int} (h : BestP f ins outs s0 x) (he : ∀ y,TotP f ins outs s0 y ↔ TotP g ins' outs' t0 y) : BestP g ins' outs' t0 x:=by
 rcases h with ⟨h1,h2⟩ | ⟨h1,h2,h3⟩
 ·exact Or.inl ⟨h1,fun y hy => h2 y ((he y).2 hy)⟩
 ·exact Or.inr ⟨h1,(he x).1 h2,fun y hy => h3 y ((he y).2 hy)⟩
section
variable {f : FstD} {ins outs : List Int} {N s0 : Nat}
theorem PathN.lt (hs : s0 < N) (ha : ∀ a ∈ f.arcs,0 <= a.dst /\ a.dst < N) {h n i o : Nat} {z : Int} (hp : PathN f ins outs s0 h n i o z) : n < N:=by
 cases h with
 | zero => obtain ⟨rfl,_⟩:=hp; exact hs
 | succ h =>
  obtain ⟨a,hm,_,_,_,_,_,_,hd,_⟩:=hp
  have:=ha a hm
  omega
end
end Go.Proofs.Yteehgcbjmdideab
