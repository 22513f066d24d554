/-
  DERIVED. GIVEN WITH THE SEED: THE CARDS: each row of YtoglibmdpgfpaaaDoorRows.lean that lists a variable, with what it lists TIED to the program's text (the seventh form; the later family's looks); each row that meets fmt, with fmt's text TOLD by the authors' own Lean function (tested against real Go, not proved from fmt's source: count such statements apart). THE CARD IS WHAT COUNTS. Prove the row's statement (the work); the ties are given (YtoglibmdpgfpaaaDoorTie.lean); close each card by the builder's one call (the guide's Derived/Test/ToyasCard.lean, 'card_holds'). Laid BY PROGRAM, IN A SANDBOX (cutbox-door.mjs). By AI agents, Wed Nov 11 2026. No macro, syntax, notation, axiom, sorry.
-/
import Derived.Test.YtoglibmdpgfpaaaDoorRows
import GoSem.ClaimSeven
namespace Go.Proofs.YtoglibmdpgfpaaaDoor
namespace Rows

/-- THE TIED CARD OF 'parquetlaw05.InputPrints'. -/
def inputPrintsCard : Claim7 := { stood := { row := inputPrintsRow, standIns := [], harness := (true, "4e5d90a383596e5fb92f5d49d6b9b30995d07c081e3f203af612be6b92f1ba43"), looks := false }, kinds := [], alts := [], laidByText := true, laidKinds := [.data, .data, .data], laidTests := true, laidLooks := .later }
def InputPrintsCardSaid : Prop := Claim7.holds Tryd.pinned (.plain (OpenSpec.ofChange inputPrintsSpec)) inputPrintsCard

/-- THE TIED CARD OF 'parquetlaw05.InputParses'. -/
def inputParsesCard : Claim7 := { stood := { row := inputParsesRow, standIns := [], harness := (true, "4e5d90a383596e5fb92f5d49d6b9b30995d07c081e3f203af612be6b92f1ba43"), looks := false }, kinds := [], alts := [], laidByText := true, laidKinds := [.data, .data, .data], laidTests := true, laidLooks := .later }
def InputParsesCardSaid : Prop := Claim7.holds Tryd.pinned (.plain (OpenSpec.ofChange inputParsesSpec)) inputParsesCard

/-- THE TIED CARD OF 'parquetlaw05.InputBack'. -/
def inputBackCard : Claim7 := { stood := { row := inputBackRow, standIns := [], harness := (true, "4e5d90a383596e5fb92f5d49d6b9b30995d07c081e3f203af612be6b92f1ba43"), looks := false }, kinds := [], alts := [], laidByText := true, laidKinds := [.data, .data, .data], laidTests := true, laidLooks := .later }
def InputBackCardSaid : Prop := Claim7.holds Tryd.pinned (.plain (OpenSpec.ofChange inputBackSpec)) inputBackCard

/-- THE TIED CARD OF 'parquetlaw05.InputCut'. -/
def inputCutCard : Claim7 := { stood := { row := inputCutRow, standIns := [], harness := (true, "4e5d90a383596e5fb92f5d49d6b9b30995d07c081e3f203af612be6b92f1ba43"), looks := false }, kinds := [], alts := [], laidByText := true, laidKinds := [.data, .data, .data], laidTests := true, laidLooks := .later }
def InputCutCardSaid : Prop := Claim7.holds Tryd.pinned (.plain (OpenSpec.ofChange inputCutSpec)) inputCutCard

/-- THE TIED CARD OF 'parquetlaw05.InputRanges'. -/
def inputRangesCard : Claim7 := { stood := { row := inputRangesRow, standIns := [], harness := (true, "4e5d90a383596e5fb92f5d49d6b9b30995d07c081e3f203af612be6b92f1ba43"), looks := false }, kinds := [], alts := [], laidByText := true, laidKinds := [.data, .data, .data], laidTests := true, laidLooks := .later }
def InputRangesCardSaid : Prop := Claim7.holds Tryd.pinned (.plain (OpenSpec.ofChange inputRangesSpec)) inputRangesCard

/-- THE TIED CARD OF 'parquetlaw05.InputLoose'. -/
def inputLooseCard : Claim7 := { stood := { row := inputLooseRow, standIns := [], harness := (true, "4e5d90a383596e5fb92f5d49d6b9b30995d07c081e3f203af612be6b92f1ba43"), looks := false }, kinds := [], alts := [], laidByText := true, laidKinds := [.data, .data, .data], laidTests := true, laidLooks := .later }
def InputLooseCardSaid : Prop := Claim7.holds Tryd.pinned (.plain (OpenSpec.ofChange inputLooseSpec)) inputLooseCard

/-- THE TIED CARD OF 'parquetlaw05.InputApart'. -/
def inputApartCard : Claim7 := { stood := { row := inputApartRow, standIns := [], harness := (true, "4e5d90a383596e5fb92f5d49d6b9b30995d07c081e3f203af612be6b92f1ba43"), looks := false }, kinds := [], alts := [], laidByText := true, laidKinds := [.data, .data, .data], laidTests := true, laidLooks := .later }
def InputApartCardSaid : Prop := Claim7.holds Tryd.pinned (.plain (OpenSpec.ofChange inputApartSpec)) inputApartCard

/-- THE TIED CARD OF 'parquetlaw06.OptionsParses'. -/
def optionsParsesCard : Claim7 := { stood := { row := optionsParsesRow, standIns := [], harness := (true, "4e5d90a383596e5fb92f5d49d6b9b30995d07c081e3f203af612be6b92f1ba43"), looks := false }, kinds := [], alts := [], laidByText := true, laidKinds := [.data], laidTests := true, laidLooks := .later }
def OptionsParsesCardSaid : Prop := Claim7.holds Tryd.pinned (.plain (OpenSpec.ofChange optionsParsesSpec)) optionsParsesCard

/-- THE TIED CARD OF 'parquetlaw06.OptionsPrints'. -/
def optionsPrintsCard : Claim7 := { stood := { row := optionsPrintsRow, standIns := [], harness := (true, "4e5d90a383596e5fb92f5d49d6b9b30995d07c081e3f203af612be6b92f1ba43"), looks := false }, kinds := [], alts := [], laidByText := true, laidKinds := [.data], laidTests := true, laidLooks := .later }
def OptionsPrintsCardSaid : Prop := Claim7.holds Tryd.pinned (.plain (OpenSpec.ofChange optionsPrintsSpec)) optionsPrintsCard

/-- THE TIED CARD OF 'parquetlaw06.OptionsMakes'. -/
def optionsMakesCard : Claim7 := { stood := { row := optionsMakesRow, standIns := [], harness := (true, "4e5d90a383596e5fb92f5d49d6b9b30995d07c081e3f203af612be6b92f1ba43"), looks := false }, kinds := [], alts := [], laidByText := true, laidKinds := [.data], laidTests := true, laidLooks := .later }
def OptionsMakesCardSaid : Prop := Claim7.holds Tryd.pinned (.plain (OpenSpec.ofChange optionsMakesSpec)) optionsMakesCard

/-- THE TIED CARD OF 'parquetlaw06.OptionsOrder'. -/
def optionsOrderCard : Claim7 := { stood := { row := optionsOrderRow, standIns := [], harness := (true, "4e5d90a383596e5fb92f5d49d6b9b30995d07c081e3f203af612be6b92f1ba43"), looks := false }, kinds := [], alts := [], laidByText := true, laidKinds := [.data], laidTests := true, laidLooks := .later }
def OptionsOrderCardSaid : Prop := Claim7.holds Tryd.pinned (.plain (OpenSpec.ofChange optionsOrderSpec)) optionsOrderCard

/-- THE TIED CARD OF 'parquetlaw06.OptionsApart'. -/
def optionsApartCard : Claim7 := { stood := { row := optionsApartRow, standIns := [], harness := (true, "4e5d90a383596e5fb92f5d49d6b9b30995d07c081e3f203af612be6b92f1ba43"), looks := false }, kinds := [], alts := [], laidByText := true, laidKinds := [.data], laidTests := true, laidLooks := .later }
def OptionsApartCardSaid : Prop := Claim7.holds Tryd.pinned (.plain (OpenSpec.ofChange optionsApartSpec)) optionsApartCard

/-- THE TIED CARD OF 'parquetlaw06.OptionsHurt'. -/
def optionsHurtCard : Claim7 := { stood := { row := optionsHurtRow, standIns := [], harness := (true, "4e5d90a383596e5fb92f5d49d6b9b30995d07c081e3f203af612be6b92f1ba43"), looks := false }, kinds := [], alts := [], laidByText := true, laidKinds := [.data], laidTests := true, laidLooks := .later }
def OptionsHurtCardSaid : Prop := Claim7.holds Tryd.pinned (.plain (OpenSpec.ofChange optionsHurtSpec)) optionsHurtCard

/-- THE SECOND FORM's CARD OF 'parquetlaw05.InputPrints'. -/
def inputPrintsUptoCard : Claim7 := { stood := { row := inputPrintsUptoRow, standIns := [], harness := (true, "4e5d90a383596e5fb92f5d49d6b9b30995d07c081e3f203af612be6b92f1ba43"), looks := false }, kinds := [], alts := [], laidByText := true, laidKinds := [.data, .data, .data], laidTests := true, laidLooks := .later }
def InputPrintsUptoCardSaid : Prop := Claim7.holds Tryd.pinned (.plain (OpenSpec.upto inputPrintsSpec)) inputPrintsUptoCard

/-- THE SECOND FORM's CARD OF 'parquetlaw05.InputParses'. -/
def inputParsesUptoCard : Claim7 := { stood := { row := inputParsesUptoRow, standIns := [], harness := (true, "4e5d90a383596e5fb92f5d49d6b9b30995d07c081e3f203af612be6b92f1ba43"), looks := false }, kinds := [], alts := [], laidByText := true, laidKinds := [.data, .data, .data], laidTests := true, laidLooks := .later }
def InputParsesUptoCardSaid : Prop := Claim7.holds Tryd.pinned (.plain (OpenSpec.upto inputParsesSpec)) inputParsesUptoCard

/-- THE SECOND FORM's CARD OF 'parquetlaw05.InputBack'. -/
def inputBackUptoCard : Claim7 := { stood := { row := inputBackUptoRow, standIns := [], harness := (true, "4e5d90a383596e5fb92f5d49d6b9b30995d07c081e3f203af612be6b92f1ba43"), looks := false }, kinds := [], alts := [], laidByText := true, laidKinds := [.data, .data, .data], laidTests := true, laidLooks := .later }
def InputBackUptoCardSaid : Prop := Claim7.holds Tryd.pinned (.plain (OpenSpec.upto inputBackSpec)) inputBackUptoCard

/-- THE SECOND FORM's CARD OF 'parquetlaw05.InputCut'. -/
def inputCutUptoCard : Claim7 := { stood := { row := inputCutUptoRow, standIns := [], harness := (true, "4e5d90a383596e5fb92f5d49d6b9b30995d07c081e3f203af612be6b92f1ba43"), looks := false }, kinds := [], alts := [], laidByText := true, laidKinds := [.data, .data, .data], laidTests := true, laidLooks := .later }
def InputCutUptoCardSaid : Prop := Claim7.holds Tryd.pinned (.plain (OpenSpec.upto inputCutSpec)) inputCutUptoCard

/-- THE SECOND FORM's CARD OF 'parquetlaw05.InputRanges'. -/
def inputRangesUptoCard : Claim7 := { stood := { row := inputRangesUptoRow, standIns := [], harness := (true, "4e5d90a383596e5fb92f5d49d6b9b30995d07c081e3f203af612be6b92f1ba43"), looks := false }, kinds := [], alts := [], laidByText := true, laidKinds := [.data, .data, .data], laidTests := true, laidLooks := .later }
def InputRangesUptoCardSaid : Prop := Claim7.holds Tryd.pinned (.plain (OpenSpec.upto inputRangesSpec)) inputRangesUptoCard

/-- THE SECOND FORM's CARD OF 'parquetlaw05.InputLoose'. -/
def inputLooseUptoCard : Claim7 := { stood := { row := inputLooseUptoRow, standIns := [], harness := (true, "4e5d90a383596e5fb92f5d49d6b9b30995d07c081e3f203af612be6b92f1ba43"), looks := false }, kinds := [], alts := [], laidByText := true, laidKinds := [.data, .data, .data], laidTests := true, laidLooks := .later }
def InputLooseUptoCardSaid : Prop := Claim7.holds Tryd.pinned (.plain (OpenSpec.upto inputLooseSpec)) inputLooseUptoCard

/-- THE SECOND FORM's CARD OF 'parquetlaw05.InputApart'. -/
def inputApartUptoCard : Claim7 := { stood := { row := inputApartUptoRow, standIns := [], harness := (true, "4e5d90a383596e5fb92f5d49d6b9b30995d07c081e3f203af612be6b92f1ba43"), looks := false }, kinds := [], alts := [], laidByText := true, laidKinds := [.data, .data, .data], laidTests := true, laidLooks := .later }
def InputApartUptoCardSaid : Prop := Claim7.holds Tryd.pinned (.plain (OpenSpec.upto inputApartSpec)) inputApartUptoCard

/-- THE SECOND FORM's CARD OF 'parquetlaw06.OptionsParses'. -/
def optionsParsesUptoCard : Claim7 := { stood := { row := optionsParsesUptoRow, standIns := [], harness := (true, "4e5d90a383596e5fb92f5d49d6b9b30995d07c081e3f203af612be6b92f1ba43"), looks := false }, kinds := [], alts := [], laidByText := true, laidKinds := [.data], laidTests := true, laidLooks := .later }
def OptionsParsesUptoCardSaid : Prop := Claim7.holds Tryd.pinned (.plain (OpenSpec.upto optionsParsesSpec)) optionsParsesUptoCard

/-- THE SECOND FORM's CARD OF 'parquetlaw06.OptionsPrints'. -/
def optionsPrintsUptoCard : Claim7 := { stood := { row := optionsPrintsUptoRow, standIns := [], harness := (true, "4e5d90a383596e5fb92f5d49d6b9b30995d07c081e3f203af612be6b92f1ba43"), looks := false }, kinds := [], alts := [], laidByText := true, laidKinds := [.data], laidTests := true, laidLooks := .later }
def OptionsPrintsUptoCardSaid : Prop := Claim7.holds Tryd.pinned (.plain (OpenSpec.upto optionsPrintsSpec)) optionsPrintsUptoCard

/-- THE SECOND FORM's CARD OF 'parquetlaw06.OptionsMakes'. -/
def optionsMakesUptoCard : Claim7 := { stood := { row := optionsMakesUptoRow, standIns := [], harness := (true, "4e5d90a383596e5fb92f5d49d6b9b30995d07c081e3f203af612be6b92f1ba43"), looks := false }, kinds := [], alts := [], laidByText := true, laidKinds := [.data], laidTests := true, laidLooks := .later }
def OptionsMakesUptoCardSaid : Prop := Claim7.holds Tryd.pinned (.plain (OpenSpec.upto optionsMakesSpec)) optionsMakesUptoCard

/-- THE SECOND FORM's CARD OF 'parquetlaw06.OptionsOrder'. -/
def optionsOrderUptoCard : Claim7 := { stood := { row := optionsOrderUptoRow, standIns := [], harness := (true, "4e5d90a383596e5fb92f5d49d6b9b30995d07c081e3f203af612be6b92f1ba43"), looks := false }, kinds := [], alts := [], laidByText := true, laidKinds := [.data], laidTests := true, laidLooks := .later }
def OptionsOrderUptoCardSaid : Prop := Claim7.holds Tryd.pinned (.plain (OpenSpec.upto optionsOrderSpec)) optionsOrderUptoCard

/-- THE SECOND FORM's CARD OF 'parquetlaw06.OptionsApart'. -/
def optionsApartUptoCard : Claim7 := { stood := { row := optionsApartUptoRow, standIns := [], harness := (true, "4e5d90a383596e5fb92f5d49d6b9b30995d07c081e3f203af612be6b92f1ba43"), looks := false }, kinds := [], alts := [], laidByText := true, laidKinds := [.data], laidTests := true, laidLooks := .later }
def OptionsApartUptoCardSaid : Prop := Claim7.holds Tryd.pinned (.plain (OpenSpec.upto optionsApartSpec)) optionsApartUptoCard

/-- THE SECOND FORM's CARD OF 'parquetlaw06.OptionsHurt'. -/
def optionsHurtUptoCard : Claim7 := { stood := { row := optionsHurtUptoRow, standIns := [], harness := (true, "4e5d90a383596e5fb92f5d49d6b9b30995d07c081e3f203af612be6b92f1ba43"), looks := false }, kinds := [], alts := [], laidByText := true, laidKinds := [.data], laidTests := true, laidLooks := .later }
def OptionsHurtUptoCardSaid : Prop := Claim7.holds Tryd.pinned (.plain (OpenSpec.upto optionsHurtSpec)) optionsHurtUptoCard
end Rows
end Go.Proofs.YtoglibmdpgfpaaaDoor
