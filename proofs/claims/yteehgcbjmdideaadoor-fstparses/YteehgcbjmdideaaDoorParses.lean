/- 'FstParses': the law, from what 'ReadFst' answers. -/
import Derived.Test.YteehgcbjmdideaaDoorReadF
import Derived.Test.YteehgcbjmdideaaDoorParsesOf
namespace Go.Proofs.YteehgcbjmdideaaDoor
open Go.RowKit

theorem readFst_any (s : ByteArray) (w : World) (hm : s.size ≤ maxLen) :
    Calls Tryd.prog 15 #[.string s] w fun e w' => ParRes s e w' ∧ Below w.heap.size w w' := by
  by_cases h : 100000 < s.size
  · exact readFst_long s w h hm
  · exact readFst_short s w (by omega)

theorem fstParses_any (s : ByteArray) (w : World) (ht : TabW w) (hsh : w.ShapedOpen Tryd.prog) (hm : s.size ≤ maxLen) :
    Calls Tryd.prog 4 #[.string s] w fun e w' => e = .returned (.bool true) ∧ Below w.heap.size w w' :=
  fstParses_of readFst_any s w ht hsh hm

end Go.Proofs.YteehgcbjmdideaaDoor
