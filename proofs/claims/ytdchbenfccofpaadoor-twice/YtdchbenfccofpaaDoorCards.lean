/-
  DERIVED. GIVEN WITH THE SEED: THE CARDS: each row of YtdchbenfccofpaaDoorRows.lean that lists a variable, with what it lists TIED to the program's text (the seventh form; the later family's looks); each row that meets fmt, with fmt's text TOLD by the authors' own Lean function (tested against real Go, not proved from fmt's source: count such statements apart). THE CARD IS WHAT COUNTS. Prove the row's statement (the work); the ties are given (YtdchbenfccofpaaDoorTie.lean); close each card by the builder's one call (the guide's Derived/Test/ToyasCard.lean, 'card_holds'). Laid BY PROGRAM, IN A SANDBOX (cutbox-door.mjs). By AI agents, Wed Nov 11 2026. No macro, syntax, notation, axiom, sorry.
-/
import Derived.Test.YtdchbenfccofpaaDoorRows
import GoSem.ClaimSeven
namespace Go.Proofs.YtdchbenfccofpaaDoor
namespace Rows

/-- THE TIED CARD OF 'daybooklaw.Shows'. -/
def showsCard : Claim7 := { stood := { row := showsRow, standIns := [], harness := (true, "aa5b1444bd56e324abe543958046d721be657c7b4cb790b85b2a79bca1aef147"), looks := false }, kinds := [], alts := [], laidByText := true, laidKinds := [.data, .data, .data], laidTests := true, laidLooks := .later }
def ShowsCardSaid : Prop := Claim7.holds Tryd.pinned (.plain (OpenSpec.ofChange showsSpec)) showsCard

/-- THE TIED CARD OF 'daybookkeep.Twice'. -/
def twiceCard : Claim7 := { stood := { row := twiceRow, standIns := [], harness := (true, "aa5b1444bd56e324abe543958046d721be657c7b4cb790b85b2a79bca1aef147"), looks := false }, kinds := [], alts := [], laidByText := true, laidKinds := [.data, .data, .data], laidTests := true, laidLooks := .later }
def TwiceCardSaid : Prop := Claim7.holds Tryd.pinned (.plain (OpenSpec.ofChange twiceSpec)) twiceCard

/-- THE SECOND FORM's CARD OF 'daybooklaw.Shows'. -/
def showsUptoCard : Claim7 := { stood := { row := showsUptoRow, standIns := [], harness := (true, "aa5b1444bd56e324abe543958046d721be657c7b4cb790b85b2a79bca1aef147"), looks := false }, kinds := [], alts := [], laidByText := true, laidKinds := [.data, .data, .data], laidTests := true, laidLooks := .later }
def ShowsUptoCardSaid : Prop := Claim7.holds Tryd.pinned (.plain (OpenSpec.upto showsSpec)) showsUptoCard

/-- THE SECOND FORM's CARD OF 'daybookkeep.Twice'. -/
def twiceUptoCard : Claim7 := { stood := { row := twiceUptoRow, standIns := [], harness := (true, "aa5b1444bd56e324abe543958046d721be657c7b4cb790b85b2a79bca1aef147"), looks := false }, kinds := [], alts := [], laidByText := true, laidKinds := [.data, .data, .data], laidTests := true, laidLooks := .later }
def TwiceUptoCardSaid : Prop := Claim7.holds Tryd.pinned (.plain (OpenSpec.upto twiceSpec)) twiceUptoCard
end Rows
end Go.Proofs.YtdchbenfccofpaaDoor
