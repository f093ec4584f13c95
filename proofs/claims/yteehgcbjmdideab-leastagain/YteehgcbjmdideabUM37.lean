/- 'state' of the document (the closure of LeastOf): the number of a beginning,one more if it goes on like none of those there. (Made by wip/gen/lob.py.) -/
import Derived.Test.YteehgcbjmdideabUM36
import Derived.Test.YteehgcbjmdideabUM27
import Derived.Test.YteehgcbjmdideabUM12
namespace Go.Proofs.Yteehgcbjmdideab
open Go.RowKit
attribute [local go_sem ↓] Go.wp_at_zero Go.wp_at_succ
end Go.Proofs.Yteehgcbjmdideab
/- What 'LeastOf' of the document has in memory in its loop. -/
namespace Go.Proofs.Yteehgcbjmdideab
open Go.RowKit
section
variable {W0 W W' wx : World} {B4 B6 N s0 Q : Nat} {fin arcs cv pv lv fv bv fv' bv' qf qa qf' qa' : Value} {is is' : List Nat} {bs bs' fs : List Int} {rs : List ArcD}
end
end Go.Proofs.Yteehgcbjmdideab
