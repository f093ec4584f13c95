/- 'WordsOf' of the document: the walk. (Made by wip/gen/woe.py.) -/
import Derived.Test.YteehgcbjmdideabUM27
namespace Go.Proofs.Yteehgcbjmdideab
open Go.RowKit
open Go
attribute [local go_sem ↓] Go.wp_at_zero Go.wp_at_succ
theorem own_cell {w : World} {B e g n cap : Nat} {xs : List Value} (h : w.ownsRow B e 1 (.slice (some ⟨g,0,none⟩) n cap) n xs) {i : Nat} {u : Value} (hi : xs[i]? = some u) : w.cell? ⟨g,i,none⟩ = some u:=by
 obtain ⟨hl,h⟩:=h
 rcases h with ⟨h,_⟩ | ⟨g',cap',cur,h0,hB,hh,h1,h2,h3,h4⟩
 ·cases h
 ·injection h0 with h5 h6 h7
  injection h5 with h5
  injection h5 with h5
  subst h5
  have hil:=(List.getElem?_eq_some_iff.1 hi).1
  have : (cur.toList.take (n * 1))[i]? = some u:=by rw [h4]; exact hi
  rw [List.getElem?_take] at this
  have hin : i < n:=by omega
  simp only [Nat.mul_one,hin,if_true,Array.getElem?_toList] at this
  simp [World.cell?,hh,this]
section
variable {w W : World} {R B : Nat} (u0 u1 u2 u3 u4 u5 u6 : Value)
end
theorem hid_of {p : Prop} (h : p) : Hid p:=h
end Go.Proofs.Yteehgcbjmdideab
