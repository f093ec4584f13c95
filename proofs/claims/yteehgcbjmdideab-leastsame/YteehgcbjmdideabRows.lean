/-
  No cell of these rows narrows 'for every input' (looked for: loops, veiled, ifaces, maps, wideKeys, modest, calm, conditions, laid).
  DERIVED. THE GIVEN ROWS OF THIS SEAT. 4 by the template 'for every input the law returns true; each argument reads behind the call as it read before'; 0 by the template 'total and deterministic' (their statements: YteehgcbjmdideabTotals.lean).
  GIVEN WITH THE SEED: the statements are not yours to turn. If you find one false, say at which input.
  Laid BY PROGRAM, IN A SANDBOX (cutbox-rows.mjs): the forced cells as the released guide's own fill.sh prints them over the translation d7852b88e0b49fe9… (all of the seat's roots in one cut). By AI agents, Wed Nov 11 2026. No macro, syntax, notation, axiom, sorry.
-/
import Derived.Test.YteehgcbjmdideabChecked
import GoSem.Claim
import GoSem.ClaimJoined
import GoSem.ClaimMapViews
import Derived.JoinedTies
import Derived.KernelRfl
namespace Go.Proofs.Yteehgcbjmdideab
/- THE CELL 'sum', in the pinned program and in every row, IS THE sha256 OF THE DUMP (.gsa) THAT YteehgcbjmdideabProg.lean LOADS. Nothing in Lean hashes anything: it is a label: what it is worth is what the hold of that sum in a sandbox is worth. -/
noncomputable def Try.pinned : Pinned := { name := "yteehgcbjmdideab", sum := "d7852b88e0b49fe9b51dcefa1a1750bc64a40848a1d576251b8972516e0d883c", checked := Try.checked }
namespace Rows
def none {H : Type} : Left H := { results := [], args := [] }

/-- 'farewaylaw.DetermineCosts': WHATEVER THE INPUT: true; the input reads as it did. -/
def determineCostsSpec : ChangeSpec := { name := "determineCosts", fn := fun _ => fun
  | [d1, d2] => { results := [.lit (.bool true)], args := [d1, d2] }
  | _ => none }
def determineCostsRow : OpenClaim := { program := "yteehgcbjmdideab", sum := "d7852b88e0b49fe9b51dcefa1a1750bc64a40848a1d576251b8972516e0d883c", func := "fareway/farewaylaw.DetermineCosts", spec := "determineCosts", unfollowed := true, recurses := true, plainKeys := false, apart := false }
def DetermineCostsSaid : Prop := determineCostsRow.holds Try.pinned (OpenSpec.ofChange determineCostsSpec)

/-- ITS FALSE NEIGHBOUR: 'it returns false'. Refute it at one input. -/
def determineCostsWrong : ChangeSpec := { name := "determineCosts", fn := fun _ => fun
  | [d1, d2] => { results := [.lit (.bool false)], args := [d1, d2] }
  | _ => none }
def DetermineCostsWrongFalsely : Prop := determineCostsRow.holds Try.pinned (OpenSpec.ofChange determineCostsWrong)

/-- 'farewaylaw.LeastTells': WHATEVER THE INPUT: true; the input reads as it did. -/
def leastTellsSpec : ChangeSpec := { name := "leastTells", fn := fun _ => fun
  | [d] => { results := [.lit (.bool true)], args := [d] }
  | _ => none }
def leastTellsRow : OpenClaim := { program := "yteehgcbjmdideab", sum := "d7852b88e0b49fe9b51dcefa1a1750bc64a40848a1d576251b8972516e0d883c", func := "fareway/farewaylaw.LeastTells", spec := "leastTells", unfollowed := true, recurses := true, plainKeys := false, apart := false }
def LeastTellsSaid : Prop := leastTellsRow.holds Try.pinned (OpenSpec.ofChange leastTellsSpec)

/-- ITS FALSE NEIGHBOUR: 'it returns false'. Refute it at one input. -/
def leastTellsWrong : ChangeSpec := { name := "leastTells", fn := fun _ => fun
  | [d] => { results := [.lit (.bool false)], args := [d] }
  | _ => none }
def LeastTellsWrongFalsely : Prop := leastTellsRow.holds Try.pinned (OpenSpec.ofChange leastTellsWrong)

/-- 'farewaylaw.LeastSame': WHATEVER THE INPUT: true; the input reads as it did. -/
def leastSameSpec : ChangeSpec := { name := "leastSame", fn := fun _ => fun
  | [d1, d2] => { results := [.lit (.bool true)], args := [d1, d2] }
  | _ => none }
def leastSameRow : OpenClaim := { program := "yteehgcbjmdideab", sum := "d7852b88e0b49fe9b51dcefa1a1750bc64a40848a1d576251b8972516e0d883c", func := "fareway/farewaylaw.LeastSame", spec := "leastSame", unfollowed := true, recurses := true, plainKeys := false, apart := false }
def LeastSameSaid : Prop := leastSameRow.holds Try.pinned (OpenSpec.ofChange leastSameSpec)

/-- ITS FALSE NEIGHBOUR: 'it returns false'. Refute it at one input. -/
def leastSameWrong : ChangeSpec := { name := "leastSame", fn := fun _ => fun
  | [d1, d2] => { results := [.lit (.bool false)], args := [d1, d2] }
  | _ => none }
def LeastSameWrongFalsely : Prop := leastSameRow.holds Try.pinned (OpenSpec.ofChange leastSameWrong)

/-- 'farewaylaw.LeastAgain': WHATEVER THE INPUT: true; the input reads as it did. -/
def leastAgainSpec : ChangeSpec := { name := "leastAgain", fn := fun _ => fun
  | [d1, d2, d3] => { results := [.lit (.bool true)], args := [d1, d2, d3] }
  | _ => none }
def leastAgainRow : OpenClaim := { program := "yteehgcbjmdideab", sum := "d7852b88e0b49fe9b51dcefa1a1750bc64a40848a1d576251b8972516e0d883c", func := "fareway/farewaylaw.LeastAgain", spec := "leastAgain", unfollowed := true, recurses := true, plainKeys := false, apart := false }
def LeastAgainSaid : Prop := leastAgainRow.holds Try.pinned (OpenSpec.ofChange leastAgainSpec)

/-- ITS FALSE NEIGHBOUR: 'it returns false'. Refute it at one input. -/
def leastAgainWrong : ChangeSpec := { name := "leastAgain", fn := fun _ => fun
  | [d1, d2, d3] => { results := [.lit (.bool false)], args := [d1, d2, d3] }
  | _ => none }
def LeastAgainWrongFalsely : Prop := leastAgainRow.holds Try.pinned (OpenSpec.ofChange leastAgainWrong)

/- THE SECOND FORM. 'bulk': how many values and letters a reading holds, each counted each time it is reached (what is shared counts as often as it is met; a slice's spare places count too). A statement '..UptoSaid' is the law's where the arguments, and the package variables that the reading takes, are together of bulk at most 1048576: NARROWER than '..Said'. Prove '..Said' where nothing that the law and all that it calls make is longer than what came in: it says more and counts as full. Else prove '..UptoSaid'. A law counts once. -/
mutual
def uptoBulk {H : Type} : DataW H → Nat
  | .lit (.string bytes) => bytes.length + 1
  | .lit _ => 1
  | .nil => 1
  | .ptr d => uptoBulk d + 1
  | .slice elems spare => uptoBulkAll elems + uptoBulkAll spare + 1
  | .agg parts => uptoBulkAll parts + 1
  | .iface _ d => uptoBulk d + 1
  | .map entries => uptoBulkEntries entries + 1
  | .held _ => 1
def uptoBulkAll {H : Type} : List (DataW H) → Nat
  | [] => 0
  | d :: r => uptoBulk d + uptoBulkAll r
def uptoBulkEntries {H : Type} : List (Lit × DataW H) → Nat
  | [] => 0
  | x :: r => uptoBulkEntry x + uptoBulkEntries r
def uptoBulkEntry {H : Type} : Lit × DataW H → Nat
  | (.string bytes, d) => bytes.length + uptoBulk d + 1
  | (_, d) => uptoBulk d + 1
 end
def uptoSmall : (H : Type) → List (DataW H) → Bool := fun _ ds => decide (uptoBulkAll ds ≤ 1048576)
def OpenSpec.upto (s : _root_.Go.ChangeSpec) : _root_.Go.OpenSpec := { _root_.Go.OpenSpec.ofChange s with cond := some uptoSmall }

/-- 'farewaylaw.DetermineCosts', WHERE WHAT IT READS IS OF BULK AT MOST 1048576: true; the input reads as it did. -/
def determineCostsUptoRow : OpenClaim := { program := "yteehgcbjmdideab", sum := "d7852b88e0b49fe9b51dcefa1a1750bc64a40848a1d576251b8972516e0d883c", func := "fareway/farewaylaw.DetermineCosts", spec := "determineCosts", unfollowed := true, recurses := true, plainKeys := false, apart := false, narrowed := true }
def DetermineCostsUptoSaid : Prop := determineCostsUptoRow.holds Try.pinned (OpenSpec.upto determineCostsSpec)

/-- 'farewaylaw.LeastTells', WHERE WHAT IT READS IS OF BULK AT MOST 1048576: true; the input reads as it did. -/
def leastTellsUptoRow : OpenClaim := { program := "yteehgcbjmdideab", sum := "d7852b88e0b49fe9b51dcefa1a1750bc64a40848a1d576251b8972516e0d883c", func := "fareway/farewaylaw.LeastTells", spec := "leastTells", unfollowed := true, recurses := true, plainKeys := false, apart := false, narrowed := true }
def LeastTellsUptoSaid : Prop := leastTellsUptoRow.holds Try.pinned (OpenSpec.upto leastTellsSpec)

/-- 'farewaylaw.LeastSame', WHERE WHAT IT READS IS OF BULK AT MOST 1048576: true; the input reads as it did. -/
def leastSameUptoRow : OpenClaim := { program := "yteehgcbjmdideab", sum := "d7852b88e0b49fe9b51dcefa1a1750bc64a40848a1d576251b8972516e0d883c", func := "fareway/farewaylaw.LeastSame", spec := "leastSame", unfollowed := true, recurses := true, plainKeys := false, apart := false, narrowed := true }
def LeastSameUptoSaid : Prop := leastSameUptoRow.holds Try.pinned (OpenSpec.upto leastSameSpec)

/-- 'farewaylaw.LeastAgain', WHERE WHAT IT READS IS OF BULK AT MOST 1048576: true; the input reads as it did. -/
def leastAgainUptoRow : OpenClaim := { program := "yteehgcbjmdideab", sum := "d7852b88e0b49fe9b51dcefa1a1750bc64a40848a1d576251b8972516e0d883c", func := "fareway/farewaylaw.LeastAgain", spec := "leastAgain", unfollowed := true, recurses := true, plainKeys := false, apart := false, narrowed := true }
def LeastAgainUptoSaid : Prop := leastAgainUptoRow.holds Try.pinned (OpenSpec.upto leastAgainSpec)

end Rows
end Go.Proofs.Yteehgcbjmdideab
