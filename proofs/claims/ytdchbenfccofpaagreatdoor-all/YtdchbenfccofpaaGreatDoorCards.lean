/-
  DERIVED. GIVEN WITH THE SEED: THE CARDS: each row of YtdchbenfccofpaaGreatDoorRows.lean that lists a variable, with what it lists TIED to the program's text (the seventh form; the later family's looks); each row that meets fmt, with fmt's text TOLD by the authors' own Lean function (tested against real Go, not proved from fmt's source: count such statements apart). THE CARD IS WHAT COUNTS. Prove the row's statement (the work); the ties are given (YtdchbenfccofpaaGreatDoorTie.lean); close each card by the builder's one call (the guide's Derived/Test/ToyasCard.lean, 'card_holds'). Laid BY PROGRAM, IN A SANDBOX (cutbox-door.mjs). By AI agents, Wed Nov 11 2026. No macro, syntax, notation, axiom, sorry.
-/
import Derived.Test.YtdchbenfccofpaaGreatDoorRows
import GoSem.ClaimSeven
namespace Go.Proofs.YtdchbenfccofpaaGreatDoor
namespace Rows

/-- THE TIED CARD OF 'daybooklaw.Compiles'. -/
def compilesCard : Claim7 := { stood := { row := compilesRow, standIns := [], harness := (true, "4e5d721223fe6f9623a3bfe66e7d0f0aa684f0fbaf66aa6290105b5f8de18cea"), looks := false }, kinds := [], alts := [], laidByText := true, laidKinds := [.data, .data, .data], laidTests := true, laidLooks := .later }
def CompilesCardSaid : Prop := Claim7.holds Tryz.pinned (.plain (OpenSpec.ofChange compilesSpec)) compilesCard

/-- THE TIED CARD OF 'daybooklaw.Accounted'. -/
def accountedCard : Claim7 := { stood := { row := accountedRow, standIns := [], harness := (true, "4e5d721223fe6f9623a3bfe66e7d0f0aa684f0fbaf66aa6290105b5f8de18cea"), looks := false }, kinds := [], alts := [], laidByText := true, laidKinds := [.data, .data, .data], laidTests := true, laidLooks := .later }
def AccountedCardSaid : Prop := Claim7.holds Tryz.pinned (.plain (OpenSpec.ofChange accountedSpec)) accountedCard

/-- THE TIED CARD OF 'daybooklaw.Posted'. -/
def postedCard : Claim7 := { stood := { row := postedRow, standIns := [], harness := (true, "4e5d721223fe6f9623a3bfe66e7d0f0aa684f0fbaf66aa6290105b5f8de18cea"), looks := false }, kinds := [], alts := [], laidByText := true, laidKinds := [.data, .data, .data], laidTests := true, laidLooks := .later }
def PostedCardSaid : Prop := Claim7.holds Tryz.pinned (.plain (OpenSpec.ofChange postedSpec)) postedCard

/-- THE TIED CARD OF 'daybooklaw.Reports'. -/
def reportsCard : Claim7 := { stood := { row := reportsRow, standIns := [], harness := (true, "4e5d721223fe6f9623a3bfe66e7d0f0aa684f0fbaf66aa6290105b5f8de18cea"), looks := false }, kinds := [], alts := [], laidByText := true, laidKinds := [.data, .data, .data], laidTests := true, laidLooks := .later }
def ReportsCardSaid : Prop := Claim7.holds Tryz.pinned (.plain (OpenSpec.ofChange reportsSpec)) reportsCard

/-- THE TIED CARD OF 'daybooklaw.All'. -/
def allCard : Claim7 := { stood := { row := allRow, standIns := [], harness := (true, "4e5d721223fe6f9623a3bfe66e7d0f0aa684f0fbaf66aa6290105b5f8de18cea"), looks := false }, kinds := [], alts := [], laidByText := true, laidKinds := [.data, .data, .data], laidTests := true, laidLooks := .later }
def AllCardSaid : Prop := Claim7.holds Tryz.pinned (.plain (OpenSpec.ofChange allSpec)) allCard

/-- THE TIED CARD OF 'daybookkeep.Zero'. -/
def zeroCard : Claim7 := { stood := { row := zeroRow, standIns := [], harness := (true, "4e5d721223fe6f9623a3bfe66e7d0f0aa684f0fbaf66aa6290105b5f8de18cea"), looks := false }, kinds := [], alts := [], laidByText := true, laidKinds := [.data, .data, .data], laidTests := true, laidLooks := .later }
def ZeroCardSaid : Prop := Claim7.holds Tryz.pinned (.plain (OpenSpec.ofChange zeroSpec)) zeroCard

/-- THE TIED CARD OF 'daybookkeep.Tree'. -/
def treeCard : Claim7 := { stood := { row := treeRow, standIns := [], harness := (true, "4e5d721223fe6f9623a3bfe66e7d0f0aa684f0fbaf66aa6290105b5f8de18cea"), looks := false }, kinds := [], alts := [], laidByText := true, laidKinds := [.data, .data, .data], laidTests := true, laidLooks := .later }
def TreeCardSaid : Prop := Claim7.holds Tryz.pinned (.plain (OpenSpec.ofChange treeSpec)) treeCard

/-- THE TIED CARD OF 'daybookkeep.Joined'. -/
def joinedCard : Claim7 := { stood := { row := joinedRow, standIns := [], harness := (true, "4e5d721223fe6f9623a3bfe66e7d0f0aa684f0fbaf66aa6290105b5f8de18cea"), looks := false }, kinds := [], alts := [], laidByText := true, laidKinds := [.data, .data, .data], laidTests := true, laidLooks := .later }
def JoinedCardSaid : Prop := Claim7.holds Tryz.pinned (.plain (OpenSpec.ofChange joinedSpec)) joinedCard

/-- THE TIED CARD OF 'daybookkeep.Refused'. -/
def refusedCard : Claim7 := { stood := { row := refusedRow, standIns := [], harness := (true, "4e5d721223fe6f9623a3bfe66e7d0f0aa684f0fbaf66aa6290105b5f8de18cea"), looks := false }, kinds := [], alts := [], laidByText := true, laidKinds := [.data, .data, .data], laidTests := true, laidLooks := .later }
def RefusedCardSaid : Prop := Claim7.holds Tryz.pinned (.plain (OpenSpec.ofChange refusedSpec)) refusedCard

/-- THE SECOND FORM's CARD OF 'daybooklaw.Compiles'. -/
def compilesUptoCard : Claim7 := { stood := { row := compilesUptoRow, standIns := [], harness := (true, "4e5d721223fe6f9623a3bfe66e7d0f0aa684f0fbaf66aa6290105b5f8de18cea"), looks := false }, kinds := [], alts := [], laidByText := true, laidKinds := [.data, .data, .data], laidTests := true, laidLooks := .later }
def CompilesUptoCardSaid : Prop := Claim7.holds Tryz.pinned (.plain (OpenSpec.upto compilesSpec)) compilesUptoCard

/-- THE SECOND FORM's CARD OF 'daybooklaw.Accounted'. -/
def accountedUptoCard : Claim7 := { stood := { row := accountedUptoRow, standIns := [], harness := (true, "4e5d721223fe6f9623a3bfe66e7d0f0aa684f0fbaf66aa6290105b5f8de18cea"), looks := false }, kinds := [], alts := [], laidByText := true, laidKinds := [.data, .data, .data], laidTests := true, laidLooks := .later }
def AccountedUptoCardSaid : Prop := Claim7.holds Tryz.pinned (.plain (OpenSpec.upto accountedSpec)) accountedUptoCard

/-- THE SECOND FORM's CARD OF 'daybooklaw.Posted'. -/
def postedUptoCard : Claim7 := { stood := { row := postedUptoRow, standIns := [], harness := (true, "4e5d721223fe6f9623a3bfe66e7d0f0aa684f0fbaf66aa6290105b5f8de18cea"), looks := false }, kinds := [], alts := [], laidByText := true, laidKinds := [.data, .data, .data], laidTests := true, laidLooks := .later }
def PostedUptoCardSaid : Prop := Claim7.holds Tryz.pinned (.plain (OpenSpec.upto postedSpec)) postedUptoCard

/-- THE SECOND FORM's CARD OF 'daybooklaw.Reports'. -/
def reportsUptoCard : Claim7 := { stood := { row := reportsUptoRow, standIns := [], harness := (true, "4e5d721223fe6f9623a3bfe66e7d0f0aa684f0fbaf66aa6290105b5f8de18cea"), looks := false }, kinds := [], alts := [], laidByText := true, laidKinds := [.data, .data, .data], laidTests := true, laidLooks := .later }
def ReportsUptoCardSaid : Prop := Claim7.holds Tryz.pinned (.plain (OpenSpec.upto reportsSpec)) reportsUptoCard

/-- THE SECOND FORM's CARD OF 'daybooklaw.All'. -/
def allUptoCard : Claim7 := { stood := { row := allUptoRow, standIns := [], harness := (true, "4e5d721223fe6f9623a3bfe66e7d0f0aa684f0fbaf66aa6290105b5f8de18cea"), looks := false }, kinds := [], alts := [], laidByText := true, laidKinds := [.data, .data, .data], laidTests := true, laidLooks := .later }
def AllUptoCardSaid : Prop := Claim7.holds Tryz.pinned (.plain (OpenSpec.upto allSpec)) allUptoCard

/-- THE SECOND FORM's CARD OF 'daybookkeep.Zero'. -/
def zeroUptoCard : Claim7 := { stood := { row := zeroUptoRow, standIns := [], harness := (true, "4e5d721223fe6f9623a3bfe66e7d0f0aa684f0fbaf66aa6290105b5f8de18cea"), looks := false }, kinds := [], alts := [], laidByText := true, laidKinds := [.data, .data, .data], laidTests := true, laidLooks := .later }
def ZeroUptoCardSaid : Prop := Claim7.holds Tryz.pinned (.plain (OpenSpec.upto zeroSpec)) zeroUptoCard

/-- THE SECOND FORM's CARD OF 'daybookkeep.Tree'. -/
def treeUptoCard : Claim7 := { stood := { row := treeUptoRow, standIns := [], harness := (true, "4e5d721223fe6f9623a3bfe66e7d0f0aa684f0fbaf66aa6290105b5f8de18cea"), looks := false }, kinds := [], alts := [], laidByText := true, laidKinds := [.data, .data, .data], laidTests := true, laidLooks := .later }
def TreeUptoCardSaid : Prop := Claim7.holds Tryz.pinned (.plain (OpenSpec.upto treeSpec)) treeUptoCard

/-- THE SECOND FORM's CARD OF 'daybookkeep.Joined'. -/
def joinedUptoCard : Claim7 := { stood := { row := joinedUptoRow, standIns := [], harness := (true, "4e5d721223fe6f9623a3bfe66e7d0f0aa684f0fbaf66aa6290105b5f8de18cea"), looks := false }, kinds := [], alts := [], laidByText := true, laidKinds := [.data, .data, .data], laidTests := true, laidLooks := .later }
def JoinedUptoCardSaid : Prop := Claim7.holds Tryz.pinned (.plain (OpenSpec.upto joinedSpec)) joinedUptoCard

/-- THE SECOND FORM's CARD OF 'daybookkeep.Refused'. -/
def refusedUptoCard : Claim7 := { stood := { row := refusedUptoRow, standIns := [], harness := (true, "4e5d721223fe6f9623a3bfe66e7d0f0aa684f0fbaf66aa6290105b5f8de18cea"), looks := false }, kinds := [], alts := [], laidByText := true, laidKinds := [.data, .data, .data], laidTests := true, laidLooks := .later }
def RefusedUptoCardSaid : Prop := Claim7.holds Tryz.pinned (.plain (OpenSpec.upto refusedSpec)) refusedUptoCard
end Rows
end Go.Proofs.YtdchbenfccofpaaGreatDoor
