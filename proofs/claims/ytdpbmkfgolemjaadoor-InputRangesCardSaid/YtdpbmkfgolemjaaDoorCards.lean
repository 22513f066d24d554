/-
  DERIVED. GIVEN WITH THE SEED: THE CARDS: each row of YtdpbmkfgolemjaaDoorRows.lean that lists a variable, with what it lists TIED to the program's text (the seventh form; the later family's looks); each row that meets fmt, with fmt's text TOLD by the authors' own Lean function (tested against real Go, not proved from fmt's source: count such statements apart). THE CARD IS WHAT COUNTS. Prove the row's statement (the work); the ties are given (YtdpbmkfgolemjaaDoorTie.lean); close each card by the builder's one call (the guide's Derived/Test/ToyasCard.lean, 'card_holds'). Laid BY PROGRAM, IN A SANDBOX (cutbox-door.mjs). By AI agents, Wed Nov 11 2026. No macro, syntax, notation, axiom, sorry.
-/
import Derived.Test.YtdpbmkfgolemjaaDoorRows
import GoSem.ClaimSeven
namespace Go.Proofs.YtdpbmkfgolemjaaDoor
namespace Rows

/-- THE TIED CARD OF 'parquetlaw05.InputPrints'. -/
def inputPrintsCard : Claim7 := { stood := { row := inputPrintsRow, standIns := [], harness := (true, "e86dc45ab692fe26e8c59c4a2e2a1909586c93f9f2b9432505f8f03472d3d46b"), looks := false }, kinds := [], alts := [], laidByText := true, laidKinds := [.data, .data, .data], laidTests := true, laidLooks := .later }
def InputPrintsCardSaid : Prop := Claim7.holds Tryd.pinned (.plain (OpenSpec.ofChange inputPrintsSpec)) inputPrintsCard

/-- THE TIED CARD OF 'parquetlaw05.InputParses'. -/
def inputParsesCard : Claim7 := { stood := { row := inputParsesRow, standIns := [], harness := (true, "e86dc45ab692fe26e8c59c4a2e2a1909586c93f9f2b9432505f8f03472d3d46b"), looks := false }, kinds := [], alts := [], laidByText := true, laidKinds := [.data, .data, .data], laidTests := true, laidLooks := .later }
def InputParsesCardSaid : Prop := Claim7.holds Tryd.pinned (.plain (OpenSpec.ofChange inputParsesSpec)) inputParsesCard

/-- THE TIED CARD OF 'parquetlaw05.InputBack'. -/
def inputBackCard : Claim7 := { stood := { row := inputBackRow, standIns := [], harness := (true, "e86dc45ab692fe26e8c59c4a2e2a1909586c93f9f2b9432505f8f03472d3d46b"), looks := false }, kinds := [], alts := [], laidByText := true, laidKinds := [.data, .data, .data], laidTests := true, laidLooks := .later }
def InputBackCardSaid : Prop := Claim7.holds Tryd.pinned (.plain (OpenSpec.ofChange inputBackSpec)) inputBackCard

/-- THE TIED CARD OF 'parquetlaw05.InputCut'. -/
def inputCutCard : Claim7 := { stood := { row := inputCutRow, standIns := [], harness := (true, "e86dc45ab692fe26e8c59c4a2e2a1909586c93f9f2b9432505f8f03472d3d46b"), looks := false }, kinds := [], alts := [], laidByText := true, laidKinds := [.data, .data, .data], laidTests := true, laidLooks := .later }
def InputCutCardSaid : Prop := Claim7.holds Tryd.pinned (.plain (OpenSpec.ofChange inputCutSpec)) inputCutCard

/-- THE TIED CARD OF 'parquetlaw05.InputRanges'. -/
def inputRangesCard : Claim7 := { stood := { row := inputRangesRow, standIns := [], harness := (true, "e86dc45ab692fe26e8c59c4a2e2a1909586c93f9f2b9432505f8f03472d3d46b"), looks := false }, kinds := [], alts := [], laidByText := true, laidKinds := [.data, .data, .data], laidTests := true, laidLooks := .later }
def InputRangesCardSaid : Prop := Claim7.holds Tryd.pinned (.plain (OpenSpec.ofChange inputRangesSpec)) inputRangesCard

/-- THE TIED CARD OF 'parquetlaw05.InputLoose'. -/
def inputLooseCard : Claim7 := { stood := { row := inputLooseRow, standIns := [], harness := (true, "e86dc45ab692fe26e8c59c4a2e2a1909586c93f9f2b9432505f8f03472d3d46b"), looks := false }, kinds := [], alts := [], laidByText := true, laidKinds := [.data, .data, .data], laidTests := true, laidLooks := .later }
def InputLooseCardSaid : Prop := Claim7.holds Tryd.pinned (.plain (OpenSpec.ofChange inputLooseSpec)) inputLooseCard

/-- THE TIED CARD OF 'parquetlaw05.InputApart'. -/
def inputApartCard : Claim7 := { stood := { row := inputApartRow, standIns := [], harness := (true, "e86dc45ab692fe26e8c59c4a2e2a1909586c93f9f2b9432505f8f03472d3d46b"), looks := false }, kinds := [], alts := [], laidByText := true, laidKinds := [.data, .data, .data], laidTests := true, laidLooks := .later }
def InputApartCardSaid : Prop := Claim7.holds Tryd.pinned (.plain (OpenSpec.ofChange inputApartSpec)) inputApartCard

/-- THE SECOND FORM's CARD OF 'parquetlaw05.InputPrints'. -/
def inputPrintsUptoCard : Claim7 := { stood := { row := inputPrintsUptoRow, standIns := [], harness := (true, "e86dc45ab692fe26e8c59c4a2e2a1909586c93f9f2b9432505f8f03472d3d46b"), looks := false }, kinds := [], alts := [], laidByText := true, laidKinds := [.data, .data, .data], laidTests := true, laidLooks := .later }
def InputPrintsUptoCardSaid : Prop := Claim7.holds Tryd.pinned (.plain (OpenSpec.upto inputPrintsSpec)) inputPrintsUptoCard

/-- THE SECOND FORM's CARD OF 'parquetlaw05.InputParses'. -/
def inputParsesUptoCard : Claim7 := { stood := { row := inputParsesUptoRow, standIns := [], harness := (true, "e86dc45ab692fe26e8c59c4a2e2a1909586c93f9f2b9432505f8f03472d3d46b"), looks := false }, kinds := [], alts := [], laidByText := true, laidKinds := [.data, .data, .data], laidTests := true, laidLooks := .later }
def InputParsesUptoCardSaid : Prop := Claim7.holds Tryd.pinned (.plain (OpenSpec.upto inputParsesSpec)) inputParsesUptoCard

/-- THE SECOND FORM's CARD OF 'parquetlaw05.InputBack'. -/
def inputBackUptoCard : Claim7 := { stood := { row := inputBackUptoRow, standIns := [], harness := (true, "e86dc45ab692fe26e8c59c4a2e2a1909586c93f9f2b9432505f8f03472d3d46b"), looks := false }, kinds := [], alts := [], laidByText := true, laidKinds := [.data, .data, .data], laidTests := true, laidLooks := .later }
def InputBackUptoCardSaid : Prop := Claim7.holds Tryd.pinned (.plain (OpenSpec.upto inputBackSpec)) inputBackUptoCard

/-- THE SECOND FORM's CARD OF 'parquetlaw05.InputCut'. -/
def inputCutUptoCard : Claim7 := { stood := { row := inputCutUptoRow, standIns := [], harness := (true, "e86dc45ab692fe26e8c59c4a2e2a1909586c93f9f2b9432505f8f03472d3d46b"), looks := false }, kinds := [], alts := [], laidByText := true, laidKinds := [.data, .data, .data], laidTests := true, laidLooks := .later }
def InputCutUptoCardSaid : Prop := Claim7.holds Tryd.pinned (.plain (OpenSpec.upto inputCutSpec)) inputCutUptoCard

/-- THE SECOND FORM's CARD OF 'parquetlaw05.InputRanges'. -/
def inputRangesUptoCard : Claim7 := { stood := { row := inputRangesUptoRow, standIns := [], harness := (true, "e86dc45ab692fe26e8c59c4a2e2a1909586c93f9f2b9432505f8f03472d3d46b"), looks := false }, kinds := [], alts := [], laidByText := true, laidKinds := [.data, .data, .data], laidTests := true, laidLooks := .later }
def InputRangesUptoCardSaid : Prop := Claim7.holds Tryd.pinned (.plain (OpenSpec.upto inputRangesSpec)) inputRangesUptoCard

/-- THE SECOND FORM's CARD OF 'parquetlaw05.InputLoose'. -/
def inputLooseUptoCard : Claim7 := { stood := { row := inputLooseUptoRow, standIns := [], harness := (true, "e86dc45ab692fe26e8c59c4a2e2a1909586c93f9f2b9432505f8f03472d3d46b"), looks := false }, kinds := [], alts := [], laidByText := true, laidKinds := [.data, .data, .data], laidTests := true, laidLooks := .later }
def InputLooseUptoCardSaid : Prop := Claim7.holds Tryd.pinned (.plain (OpenSpec.upto inputLooseSpec)) inputLooseUptoCard

/-- THE SECOND FORM's CARD OF 'parquetlaw05.InputApart'. -/
def inputApartUptoCard : Claim7 := { stood := { row := inputApartUptoRow, standIns := [], harness := (true, "e86dc45ab692fe26e8c59c4a2e2a1909586c93f9f2b9432505f8f03472d3d46b"), looks := false }, kinds := [], alts := [], laidByText := true, laidKinds := [.data, .data, .data], laidTests := true, laidLooks := .later }
def InputApartUptoCardSaid : Prop := Claim7.holds Tryd.pinned (.plain (OpenSpec.upto inputApartSpec)) inputApartUptoCard
end Rows
end Go.Proofs.YtdpbmkfgolemjaaDoor
