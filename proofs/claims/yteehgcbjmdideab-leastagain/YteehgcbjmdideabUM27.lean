/- 'TrimOf' of the document,whatever right transducer it is handed. -/
import Derived.Test.YteehgcbjmdideabUM26
import Derived.Test.YteehgcbjmdideabUM25
import Derived.Test.YteehgcbjmdideabUM21
import Derived.Test.YteehgcbjmdideabUM10
import Derived.Great.BuildSlice
import Derived.Test.YteehgcbjmdideabUM12
namespace Go.Proofs.Yteehgcbjmdideab.Sc
open Go.RowKit Go.Maps Go.ChangeShapes
end Go.Proofs.Yteehgcbjmdideab.Sc
/- 'TrimOf' at what Determine is handed. -/
namespace Go.Proofs.Yteehgcbjmdideab
open Go.RowKit
theorem fresh_ints {w : World} {B : Nat} {v : Value} {xs : List Int} (h : ISlice w v xs) (hv : ∀ g,v.ownBlock = some g -> B <= g) {W : World} (hW : ∀ b,B <= b -> b < w.heap.size -> W.heap[b]? = w.heap[b]?) : ISlice W v xs:=by
 rcases h with h | ⟨g,off,n,cap,rfl,hx,hn⟩
 ·exact Or.inl h
 ·have hg:=hv g rfl
  exact Or.inr ⟨g,off,n,cap,rfl,⟨hx.len,fun i hi => cells_same (hW g hg (cell_lt (hx.cell i hi))) (hx.cell i hi)⟩,hn⟩
theorem fresh_arcs {w : World} {B : Nat} {v : Value} {xs : List ArcD} (h : ASlice w v xs) (hv : ∀ g,v.ownBlock = some g -> B <= g) {W : World} (hW : ∀ b,B <= b -> b < w.heap.size -> W.heap[b]? = w.heap[b]?) : ASlice W v xs:=by
 rcases h with h | ⟨g,off,n,cap,rfl,hx,hn⟩
 ·exact Or.inl h
 ·have hg:=hv g rfl
  exact Or.inr ⟨g,off,n,cap,rfl,⟨hx.len,fun i hi => cells_same (hW g hg (cell_lt (hx.c0 i hi))) (hx.c0 i hi),fun i hi => cells_same (hW g hg (cell_lt (hx.c1 i hi))) (hx.c1 i hi),fun i hi => cells_same (hW g hg (cell_lt (hx.c2 i hi))) (hx.c2 i hi),fun i hi => cells_same (hW g hg (cell_lt (hx.c3 i hi))) (hx.c3 i hi),fun i hi => cells_same (hW g hg (cell_lt (hx.c4 i hi))) (hx.c4 i hi)⟩,hn⟩
end Go.Proofs.Yteehgcbjmdideab
/- A region that draws its order: a chain of operations,and three that may come up between: a law for all orders at once. -/
namespace Go.Proofs.Yteehgcbjmdideab
open Go
section
variable {P : Program} {ops : Array Oper} {Q : Exit -> Act -> World -> Prop} {md : Region.Mode} {S : World -> Prop} {fatal : List Nat}
end
end Go.Proofs.Yteehgcbjmdideab
/- Three rows that grow in one statement: what is known when so many of its operations have come up. -/
namespace Go.Proofs.Yteehgcbjmdideab
open Go.RowKit
open Go
section
variable {w0 W Wx : World} {Q N : Nat} {sta : Int} {fin arcs cv pv lv : Value} {V : List Int} {vp vl : Int} {LC : List Value} {cs : List (List Int)} {LP LL : List Int} {r xC yC xP yP xL yL v' : Value} {k : Nat} {bp bl : Bool}
end
end Go.Proofs.Yteehgcbjmdideab
/- Three rows that grow in one statement: the law. -/
namespace Go.Proofs.Yteehgcbjmdideab
open Go.RowKit
open Go
section
variable {ops : Array Oper} {Qx : Exit -> Act -> World -> Prop} {S : World -> Prop} {fatal : List Nat} {a0 : Act} {ds : List Nat} {c : List Nat} {p l q sr uC uP uL sC tC sP tP sL tL sq : Nat} {xp xl : Operand}
 {w0 : World} {Q N : Nat} {sta : Int} {fin arcs cv pv lv : Value} {V : List Int} {vp vl : Int} {LC : List Value} {cs : List (List Int)} {LP LL : List Int}
end
end Go.Proofs.Yteehgcbjmdideab
/- Three rows that grow in one statement: small laws for its use. -/
namespace Go.Proofs.Yteehgcbjmdideab
open Go.RowKit
open Go
section
variable {ops : Array Oper} {Qx : Exit -> Act -> World -> Prop} {S : World -> Prop} {fatal : List Nat} {a0 : Act} {ds : List Nat} {c : List Nat} {p l q sr uC uP uL sC tC sP tP sL tL sq : Nat} {xp xl : Operand}
 {w0 : World} {Q N : Nat} {sta : Int} {fin arcs cv pv lv : Value} {V : List Int} {vp vl : Int} {LC : List Value} {cs : List (List Int)} {LP LL : List Int}
end
end Go.Proofs.Yteehgcbjmdideab
