/-
  DERIVED. GIVEN WITH THE SEED: THE CARDS: each row of YteehgcbjmdideaaGreatDoorRows.lean that lists a variable, with what it lists TIED to the program's text (the seventh form; the later family's looks); each row that meets fmt, with fmt's text TOLD by the authors' own Lean function (tested against real Go, not proved from fmt's source: count such statements apart). THE CARD IS WHAT COUNTS. Prove the row's statement (the work); the ties are given (YteehgcbjmdideaaGreatDoorTie.lean); close each card by the builder's one call (the guide's Derived/Test/ToyasCard.lean, 'card_holds'). Laid BY PROGRAM, IN A SANDBOX (cutbox-door.mjs). By AI agents, Wed Nov 11 2026. No macro, syntax, notation, axiom, sorry.
-/
import Derived.Test.YteehgcbjmdideaaGreatDoorRows
import GoSem.ClaimSeven
namespace Go.Proofs.YteehgcbjmdideaaGreatDoor
namespace Rows

/-- THE TIED CARD OF 'farewaylaw.ScoreWalks'. -/
def scoreWalksCard : Claim7 := { stood := { row := scoreWalksRow, standIns := [], harness := (true, "8b79bcba84b619cab99cc983b01393aedb22411b585876a4a4c7de44ab18dd63"), looks := true }, kinds := [], alts := [], laidByText := true, laidKinds := [.data, .data, .data, .data, .pinned], laidTests := true, laidLooks := .later }
def ScoreWalksCardSaid : Prop := Claim7.holds Tryz.pinned (.plain (OpenSpec.ofChange scoreWalksSpec)) scoreWalksCard

/-- THE SECOND FORM's CARD OF 'farewaylaw.ScoreWalks'. -/
def scoreWalksUptoCard : Claim7 := { stood := { row := scoreWalksUptoRow, standIns := [], harness := (true, "8b79bcba84b619cab99cc983b01393aedb22411b585876a4a4c7de44ab18dd63"), looks := true }, kinds := [], alts := [], laidByText := true, laidKinds := [.data, .data, .data, .data, .pinned], laidTests := true, laidLooks := .later }
def ScoreWalksUptoCardSaid : Prop := Claim7.holds Tryz.pinned (.plain (OpenSpec.upto scoreWalksSpec)) scoreWalksUptoCard
end Rows
end Go.Proofs.YteehgcbjmdideaaGreatDoor
