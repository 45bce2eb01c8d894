/-
  DERIVED. GIVEN WITH THE SEED: THE CARDS: each row of YtpcdkhmahbecaaaGreatDoorRows.lean that lists a variable, with what it lists TIED to the program's text (the seventh form; the later family's looks); each row that meets fmt, with fmt's text TOLD by the authors' own Lean function (tested against real Go, not proved from fmt's source: count such statements apart). THE CARD IS WHAT COUNTS. Prove the row's statement (the work); the ties are given (YtpcdkhmahbecaaaGreatDoorTie.lean); close each card by the builder's one call (the guide's Derived/Test/ToyasCard.lean, 'card_holds'). Laid BY PROGRAM, IN A SANDBOX (cutbox-door.mjs). By AI agents, Wed Nov 11 2026. No macro, syntax, notation, axiom, sorry.
-/
import Derived.Test.YtpcdkhmahbecaaaGreatDoorRows
import GoSem.ClaimSeven
namespace Go.Proofs.YtpcdkhmahbecaaaGreatDoor
namespace Rows

/-- THE TIED CARD OF 'daybooklaw.Compiles'. -/
def compilesCard : Claim7 := { stood := { row := compilesRow, standIns := [], harness := (true, "474b3ea8426319245ed78a2a05e72851f11802c281ad9ee675ce136f5a7808d3"), looks := false }, kinds := [], alts := [], laidByText := true, laidKinds := [.data, .data, .data], laidTests := true, laidLooks := .later }
def CompilesCardSaid : Prop := Claim7.holds Tryz.pinned (.plain (OpenSpec.ofChange compilesSpec)) compilesCard

/-- THE TIED CARD OF 'daybooklaw.Accounted'. -/
def accountedCard : Claim7 := { stood := { row := accountedRow, standIns := [], harness := (true, "474b3ea8426319245ed78a2a05e72851f11802c281ad9ee675ce136f5a7808d3"), looks := false }, kinds := [], alts := [], laidByText := true, laidKinds := [.data, .data, .data], laidTests := true, laidLooks := .later }
def AccountedCardSaid : Prop := Claim7.holds Tryz.pinned (.plain (OpenSpec.ofChange accountedSpec)) accountedCard

/-- THE TIED CARD OF 'daybooklaw.Posted'. -/
def postedCard : Claim7 := { stood := { row := postedRow, standIns := [], harness := (true, "474b3ea8426319245ed78a2a05e72851f11802c281ad9ee675ce136f5a7808d3"), looks := false }, kinds := [], alts := [], laidByText := true, laidKinds := [.data, .data, .data], laidTests := true, laidLooks := .later }
def PostedCardSaid : Prop := Claim7.holds Tryz.pinned (.plain (OpenSpec.ofChange postedSpec)) postedCard

/-- THE SECOND FORM's CARD OF 'daybooklaw.Compiles'. -/
def compilesUptoCard : Claim7 := { stood := { row := compilesUptoRow, standIns := [], harness := (true, "474b3ea8426319245ed78a2a05e72851f11802c281ad9ee675ce136f5a7808d3"), looks := false }, kinds := [], alts := [], laidByText := true, laidKinds := [.data, .data, .data], laidTests := true, laidLooks := .later }
def CompilesUptoCardSaid : Prop := Claim7.holds Tryz.pinned (.plain (OpenSpec.upto compilesSpec)) compilesUptoCard

/-- THE SECOND FORM's CARD OF 'daybooklaw.Accounted'. -/
def accountedUptoCard : Claim7 := { stood := { row := accountedUptoRow, standIns := [], harness := (true, "474b3ea8426319245ed78a2a05e72851f11802c281ad9ee675ce136f5a7808d3"), looks := false }, kinds := [], alts := [], laidByText := true, laidKinds := [.data, .data, .data], laidTests := true, laidLooks := .later }
def AccountedUptoCardSaid : Prop := Claim7.holds Tryz.pinned (.plain (OpenSpec.upto accountedSpec)) accountedUptoCard

/-- THE SECOND FORM's CARD OF 'daybooklaw.Posted'. -/
def postedUptoCard : Claim7 := { stood := { row := postedUptoRow, standIns := [], harness := (true, "474b3ea8426319245ed78a2a05e72851f11802c281ad9ee675ce136f5a7808d3"), looks := false }, kinds := [], alts := [], laidByText := true, laidKinds := [.data, .data, .data], laidTests := true, laidLooks := .later }
def PostedUptoCardSaid : Prop := Claim7.holds Tryz.pinned (.plain (OpenSpec.upto postedSpec)) postedUptoCard
end Rows
end Go.Proofs.YtpcdkhmahbecaaaGreatDoor
