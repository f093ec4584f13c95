/- What 'TrimOf' makes: the transducer in block T,the new numbers in block T + 1. -/
import Derived.Test.YteehgcbjmdideabUM25
import Derived.Deep.AppendLies
import Derived.Deep.OwnRows
import Derived.Deep.RegionHeld3
import Derived.Deep.Cut
namespace Go.Proofs.Yteehgcbjmdideab.Sc
open Go.RowKit Go.Maps Go.ChangeShapes
end Go.Proofs.Yteehgcbjmdideab.Sc
/- 'TrimOf' of the document's answer. -/
namespace Go.Proofs.Yteehgcbjmdideab.Sc
open Go.RowKit Go.Maps Go.ChangeShapes
attribute [local go_sem ↓] Go.wp_at_zero Go.wp_at_succ
end Go.Proofs.Yteehgcbjmdideab.Sc
