/-
  DERIVED. GIVEN WITH THE SEED: THE CARDS: each row of YtdchbenfccofpabGreatDoorRows.lean that lists a variable, with what it lists TIED to the program's text (the seventh form; the later family's looks); each row that meets fmt, with fmt's text TOLD by the authors' own Lean function (tested against real Go, not proved from fmt's source: count such statements apart). THE CARD IS WHAT COUNTS. Prove the row's statement (the work); the ties are given (YtdchbenfccofpabGreatDoorTie.lean); close each card by the builder's one call (the guide's Derived/Test/ToyasCard.lean, 'card_holds'). Laid BY PROGRAM, IN A SANDBOX (cutbox-door.mjs). By AI agents, Wed Nov 11 2026. No macro, syntax, notation, axiom, sorry.
-/
import Derived.Test.YtdchbenfccofpabGreatDoorRows
import GoSem.ClaimSeven
namespace Go.Proofs.YtdchbenfccofpabGreatDoor
namespace Rows

/-- THE TIED CARD OF 'daybookkeep.Plain'. -/
def plainCard : Claim7 := { stood := { row := plainRow, standIns := [], harness := (true, "05ffb764f9f375a3f539d6a83800015a59d6e3ccf6720c02354933403cf56804"), looks := false }, kinds := [], alts := [], laidByText := true, laidKinds := [.data, .data, .data], laidTests := true, laidLooks := .later }
def PlainCardSaid : Prop := Claim7.holds Tryz.pinned (.plain (OpenSpec.ofChange plainSpec)) plainCard

/-- THE TIED CARD OF 'daybookkeep.Exact'. -/
def exactCard : Claim7 := { stood := { row := exactRow, standIns := [], harness := (true, "05ffb764f9f375a3f539d6a83800015a59d6e3ccf6720c02354933403cf56804"), looks := false }, kinds := [], alts := [], laidByText := true, laidKinds := [.data, .data, .data], laidTests := true, laidLooks := .later }
def ExactCardSaid : Prop := Claim7.holds Tryz.pinned (.plain (OpenSpec.ofChange exactSpec)) exactCard

/-- THE TIED CARD OF 'daybookkeep.Resumed'. -/
def resumedCard : Claim7 := { stood := { row := resumedRow, standIns := [], harness := (true, "05ffb764f9f375a3f539d6a83800015a59d6e3ccf6720c02354933403cf56804"), looks := false }, kinds := [], alts := [], laidByText := true, laidKinds := [.data, .data, .data], laidTests := true, laidLooks := .later }
def ResumedCardSaid : Prop := Claim7.holds Tryz.pinned (.plain (OpenSpec.ofChange resumedSpec)) resumedCard

/-- THE TIED CARD OF 'daybookkeep.Crashes'. -/
def crashesCard : Claim7 := { stood := { row := crashesRow, standIns := [], harness := (true, "05ffb764f9f375a3f539d6a83800015a59d6e3ccf6720c02354933403cf56804"), looks := false }, kinds := [], alts := [], laidByText := true, laidKinds := [.data, .data, .data], laidTests := true, laidLooks := .later }
def CrashesCardSaid : Prop := Claim7.holds Tryz.pinned (.plain (OpenSpec.ofChange crashesSpec)) crashesCard

/-- THE TIED CARD OF 'daybookkeep.Imaged'. -/
def imagedCard : Claim7 := { stood := { row := imagedRow, standIns := [], harness := (true, "05ffb764f9f375a3f539d6a83800015a59d6e3ccf6720c02354933403cf56804"), looks := false }, kinds := [], alts := [], laidByText := true, laidKinds := [.data, .data, .data], laidTests := true, laidLooks := .later }
def ImagedCardSaid : Prop := Claim7.holds Tryz.pinned (.plain (OpenSpec.ofChange imagedSpec)) imagedCard

/-- THE SECOND FORM's CARD OF 'daybookkeep.Plain'. -/
def plainUptoCard : Claim7 := { stood := { row := plainUptoRow, standIns := [], harness := (true, "05ffb764f9f375a3f539d6a83800015a59d6e3ccf6720c02354933403cf56804"), looks := false }, kinds := [], alts := [], laidByText := true, laidKinds := [.data, .data, .data], laidTests := true, laidLooks := .later }
def PlainUptoCardSaid : Prop := Claim7.holds Tryz.pinned (.plain (OpenSpec.upto plainSpec)) plainUptoCard

/-- THE SECOND FORM's CARD OF 'daybookkeep.Exact'. -/
def exactUptoCard : Claim7 := { stood := { row := exactUptoRow, standIns := [], harness := (true, "05ffb764f9f375a3f539d6a83800015a59d6e3ccf6720c02354933403cf56804"), looks := false }, kinds := [], alts := [], laidByText := true, laidKinds := [.data, .data, .data], laidTests := true, laidLooks := .later }
def ExactUptoCardSaid : Prop := Claim7.holds Tryz.pinned (.plain (OpenSpec.upto exactSpec)) exactUptoCard

/-- THE SECOND FORM's CARD OF 'daybookkeep.Resumed'. -/
def resumedUptoCard : Claim7 := { stood := { row := resumedUptoRow, standIns := [], harness := (true, "05ffb764f9f375a3f539d6a83800015a59d6e3ccf6720c02354933403cf56804"), looks := false }, kinds := [], alts := [], laidByText := true, laidKinds := [.data, .data, .data], laidTests := true, laidLooks := .later }
def ResumedUptoCardSaid : Prop := Claim7.holds Tryz.pinned (.plain (OpenSpec.upto resumedSpec)) resumedUptoCard

/-- THE SECOND FORM's CARD OF 'daybookkeep.Crashes'. -/
def crashesUptoCard : Claim7 := { stood := { row := crashesUptoRow, standIns := [], harness := (true, "05ffb764f9f375a3f539d6a83800015a59d6e3ccf6720c02354933403cf56804"), looks := false }, kinds := [], alts := [], laidByText := true, laidKinds := [.data, .data, .data], laidTests := true, laidLooks := .later }
def CrashesUptoCardSaid : Prop := Claim7.holds Tryz.pinned (.plain (OpenSpec.upto crashesSpec)) crashesUptoCard

/-- THE SECOND FORM's CARD OF 'daybookkeep.Imaged'. -/
def imagedUptoCard : Claim7 := { stood := { row := imagedUptoRow, standIns := [], harness := (true, "05ffb764f9f375a3f539d6a83800015a59d6e3ccf6720c02354933403cf56804"), looks := false }, kinds := [], alts := [], laidByText := true, laidKinds := [.data, .data, .data], laidTests := true, laidLooks := .later }
def ImagedUptoCardSaid : Prop := Claim7.holds Tryz.pinned (.plain (OpenSpec.upto imagedSpec)) imagedUptoCard
end Rows
end Go.Proofs.YtdchbenfccofpabGreatDoor
