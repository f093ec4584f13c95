/- 'CheckFst' of the document's answer. -/
import Derived.Test.YteehgcbjmdideabUM00
namespace Go.Proofs.Yteehgcbjmdideab
open Go.RowKit
attribute [local go_sem ↓] Go.wp_at_zero Go.wp_at_succ
theorem ASlice.some {w : World} {a : Option Addr} {n c : Nat} {ars : List ArcD} (h : ASlice w (.slice a n c) ars) (hn : 0 < n) : ∃ b off,a = some ⟨b,off,none⟩ /\ ArcsAt w b off n ars:=by
 rcases h with ⟨_,_,h,_⟩ | ⟨b,off,m,cap,h,hx,_⟩
 ·injection h with h1 h2 h3; omega
 ·injection h with h1 h2 h3; subst h1 h2 h3; exact ⟨b,off,rfl,hx⟩
theorem ISlice.some {w : World} {a : Option Addr} {n c : Nat} {xs : List Int} (h : ISlice w (.slice a n c) xs) (hn : 0 < n) : ∃ b off,a = some ⟨b,off,none⟩ /\ IntsAt w b off n xs:=by
 rcases h with ⟨_,_,h,_⟩ | ⟨b,off,m,cap,h,hx,_⟩
 ·injection h with h1 h2 h3; omega
 ·injection h with h1 h2 h3; subst h1 h2 h3; exact ⟨b,off,rfl,hx⟩
end Go.Proofs.Yteehgcbjmdideab
