/-
  DERIVED. GIVEN WITH THE SEED: THE CARDS: each row of YtmaiggoinjldpaaGreatDoorRows.lean that lists a variable, with what it lists TIED to the program's text (the seventh form; the later family's looks); each row that meets fmt, with fmt's text TOLD by the authors' own Lean function (tested against real Go, not proved from fmt's source: count such statements apart). THE CARD IS WHAT COUNTS. Prove the row's statement (the work); the ties are given (YtmaiggoinjldpaaGreatDoorTie.lean); close each card by the builder's one call (the guide's Derived/Test/ToyasCard.lean, 'card_holds'). Laid BY PROGRAM, IN A SANDBOX (cutbox-door.mjs). By AI agents, Wed Nov 11 2026. No macro, syntax, notation, axiom, sorry.
-/
import Derived.Test.YtmaiggoinjldpaaGreatDoorRows
import GoSem.ClaimSeven
namespace Go.Proofs.YtmaiggoinjldpaaGreatDoor
namespace Rows

/-- THE TIED CARD OF 'forebaylaw12.GraphiteLines'. -/
def graphiteLinesCard : Claim7 := { stood := { row := graphiteLinesRow, standIns := [], harness := (true, "4efb403071a25fda83f99d3d30bde02b9c816e8990f7eb00ff4d9b9ea9e52ec1"), looks := false }, kinds := [], alts := [], laidByText := true, laidKinds := [.data, .data, .data], laidTests := true, laidLooks := .later }
def GraphiteLinesCardSaid : Prop := Claim7.holds Tryz.pinned (.plain (OpenSpec.ofChange graphiteLinesSpec)) graphiteLinesCard

/-- THE SECOND FORM's CARD OF 'forebaylaw12.GraphiteLines'. -/
def graphiteLinesUptoCard : Claim7 := { stood := { row := graphiteLinesUptoRow, standIns := [], harness := (true, "4efb403071a25fda83f99d3d30bde02b9c816e8990f7eb00ff4d9b9ea9e52ec1"), looks := false }, kinds := [], alts := [], laidByText := true, laidKinds := [.data, .data, .data], laidTests := true, laidLooks := .later }
def GraphiteLinesUptoCardSaid : Prop := Claim7.holds Tryz.pinned (.plain (OpenSpec.upto graphiteLinesSpec)) graphiteLinesUptoCard
end Rows
end Go.Proofs.YtmaiggoinjldpaaGreatDoor
