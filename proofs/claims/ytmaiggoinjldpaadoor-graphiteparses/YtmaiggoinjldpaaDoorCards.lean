/-
  DERIVED. GIVEN WITH THE SEED: THE CARDS: each row of YtmaiggoinjldpaaDoorRows.lean that lists a variable, with what it lists TIED to the program's text (the seventh form; the later family's looks); each row that meets fmt, with fmt's text TOLD by the authors' own Lean function (tested against real Go, not proved from fmt's source: count such statements apart). THE CARD IS WHAT COUNTS. Prove the row's statement (the work); the ties are given (YtmaiggoinjldpaaDoorTie.lean); close each card by the builder's one call (the guide's Derived/Test/ToyasCard.lean, 'card_holds'). Laid BY PROGRAM, IN A SANDBOX (cutbox-door.mjs). By AI agents, Wed Nov 11 2026. No macro, syntax, notation, axiom, sorry.
-/
import Derived.Test.YtmaiggoinjldpaaDoorRows
import GoSem.ClaimSeven
namespace Go.Proofs.YtmaiggoinjldpaaDoor
namespace Rows

/-- THE TIED CARD OF 'forebaylaw12.GraphiteParses'. -/
def graphiteParsesCard : Claim7 := { stood := { row := graphiteParsesRow, standIns := [], harness := (true, "ff12e2d9fa5e4b4d7b056ad835da155bd774a131f4100cb9cac47b2dfef089d4"), looks := false }, kinds := [], alts := [], laidByText := true, laidKinds := [.data, .data, .data], laidTests := true, laidLooks := .later }
def GraphiteParsesCardSaid : Prop := Claim7.holds Tryd.pinned (.plain (OpenSpec.ofChange graphiteParsesSpec)) graphiteParsesCard

/-- THE TIED CARD OF 'forebaylaw12.GraphiteBack'. -/
def graphiteBackCard : Claim7 := { stood := { row := graphiteBackRow, standIns := [], harness := (true, "ff12e2d9fa5e4b4d7b056ad835da155bd774a131f4100cb9cac47b2dfef089d4"), looks := false }, kinds := [], alts := [], laidByText := true, laidKinds := [.data, .data, .data], laidTests := true, laidLooks := .later }
def GraphiteBackCardSaid : Prop := Claim7.holds Tryd.pinned (.plain (OpenSpec.ofChange graphiteBackSpec)) graphiteBackCard

/-- THE TIED CARD OF 'forebaylaw12.GraphiteParts'. -/
def graphitePartsCard : Claim7 := { stood := { row := graphitePartsRow, standIns := [], harness := (true, "ff12e2d9fa5e4b4d7b056ad835da155bd774a131f4100cb9cac47b2dfef089d4"), looks := false }, kinds := [], alts := [], laidByText := true, laidKinds := [.data, .data, .data], laidTests := true, laidLooks := .later }
def GraphitePartsCardSaid : Prop := Claim7.holds Tryd.pinned (.plain (OpenSpec.ofChange graphitePartsSpec)) graphitePartsCard

/-- THE TIED CARD OF 'forebaylaw12.GraphiteCut'. -/
def graphiteCutCard : Claim7 := { stood := { row := graphiteCutRow, standIns := [], harness := (true, "ff12e2d9fa5e4b4d7b056ad835da155bd774a131f4100cb9cac47b2dfef089d4"), looks := false }, kinds := [], alts := [], laidByText := true, laidKinds := [.data, .data, .data], laidTests := true, laidLooks := .later }
def GraphiteCutCardSaid : Prop := Claim7.holds Tryd.pinned (.plain (OpenSpec.ofChange graphiteCutSpec)) graphiteCutCard

/-- THE SECOND FORM's CARD OF 'forebaylaw12.GraphiteParses'. -/
def graphiteParsesUptoCard : Claim7 := { stood := { row := graphiteParsesUptoRow, standIns := [], harness := (true, "ff12e2d9fa5e4b4d7b056ad835da155bd774a131f4100cb9cac47b2dfef089d4"), looks := false }, kinds := [], alts := [], laidByText := true, laidKinds := [.data, .data, .data], laidTests := true, laidLooks := .later }
def GraphiteParsesUptoCardSaid : Prop := Claim7.holds Tryd.pinned (.plain (OpenSpec.upto graphiteParsesSpec)) graphiteParsesUptoCard

/-- THE SECOND FORM's CARD OF 'forebaylaw12.GraphiteBack'. -/
def graphiteBackUptoCard : Claim7 := { stood := { row := graphiteBackUptoRow, standIns := [], harness := (true, "ff12e2d9fa5e4b4d7b056ad835da155bd774a131f4100cb9cac47b2dfef089d4"), looks := false }, kinds := [], alts := [], laidByText := true, laidKinds := [.data, .data, .data], laidTests := true, laidLooks := .later }
def GraphiteBackUptoCardSaid : Prop := Claim7.holds Tryd.pinned (.plain (OpenSpec.upto graphiteBackSpec)) graphiteBackUptoCard

/-- THE SECOND FORM's CARD OF 'forebaylaw12.GraphiteParts'. -/
def graphitePartsUptoCard : Claim7 := { stood := { row := graphitePartsUptoRow, standIns := [], harness := (true, "ff12e2d9fa5e4b4d7b056ad835da155bd774a131f4100cb9cac47b2dfef089d4"), looks := false }, kinds := [], alts := [], laidByText := true, laidKinds := [.data, .data, .data], laidTests := true, laidLooks := .later }
def GraphitePartsUptoCardSaid : Prop := Claim7.holds Tryd.pinned (.plain (OpenSpec.upto graphitePartsSpec)) graphitePartsUptoCard

/-- THE SECOND FORM's CARD OF 'forebaylaw12.GraphiteCut'. -/
def graphiteCutUptoCard : Claim7 := { stood := { row := graphiteCutUptoRow, standIns := [], harness := (true, "ff12e2d9fa5e4b4d7b056ad835da155bd774a131f4100cb9cac47b2dfef089d4"), looks := false }, kinds := [], alts := [], laidByText := true, laidKinds := [.data, .data, .data], laidTests := true, laidLooks := .later }
def GraphiteCutUptoCardSaid : Prop := Claim7.holds Tryd.pinned (.plain (OpenSpec.upto graphiteCutSpec)) graphiteCutUptoCard
end Rows
end Go.Proofs.YtmaiggoinjldpaaDoor
