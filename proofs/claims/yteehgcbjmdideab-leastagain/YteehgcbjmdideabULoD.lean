/- 'LeastOf' of the document: the walk. (Made by wip/gen/lod.py.) -/
import Derived.Test.YteehgcbjmdideabUM37
import Derived.Test.YteehgcbjmdideabUM29
import Derived.Test.YteehgcbjmdideabUM31
import Derived.Deep.CutRange
namespace Go.Proofs.Yteehgcbjmdideab
open Go.RowKit
attribute [local go_sem ↓] Go.wp_at_zero Go.wp_at_succ
def Great (fs : List Int) (rs : List ArcD) : Prop:=∃ y,1000000000 < y /\ (y ∈ fs \/ ∃ a ∈ rs,a.wt = y)
end Go.Proofs.Yteehgcbjmdideab
