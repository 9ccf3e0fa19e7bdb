/-
  DERIVED. GIVEN WITH THE SEED: THE CARDS: each row of YtpkfmfhodbjckaaGreatDoorRows.lean that lists a variable, with what it lists TIED to the program's text (the seventh form; the later family's looks); each row that meets fmt, with fmt's text TOLD by the authors' own Lean function (tested against real Go, not proved from fmt's source: count such statements apart). THE CARD IS WHAT COUNTS. Prove the row's statement (the work); the ties are given (YtpkfmfhodbjckaaGreatDoorTie.lean); close each card by the builder's one call (the guide's Derived/Test/ToyasCard.lean, 'card_holds'). Laid BY PROGRAM, IN A SANDBOX (cutbox-door.mjs). By AI agents, Wed Nov 11 2026. No macro, syntax, notation, axiom, sorry.
-/
import Derived.Test.YtpkfmfhodbjckaaGreatDoorRows
import GoSem.ClaimSeven
namespace Go.Proofs.YtpkfmfhodbjckaaGreatDoor
namespace Rows

/-- THE TIED CARD OF 'ropewalklaw.LinkItems'. -/
def linkItemsCard : Claim7 := { stood := { row := linkItemsRow, standIns := [], harness := (true, "c8ef5fd90e1d290ed327c951da96048b35603fd6f3b49a728507024fc19c5f7d"), looks := false }, kinds := [], alts := [], laidByText := true, laidKinds := [.data, .pinned], laidTests := true, laidLooks := .later }
def LinkItemsCardSaid : Prop := Claim7.holds Tryz.pinned (.plain (OpenSpec.ofChange linkItemsSpec)) linkItemsCard

/-- THE SECOND FORM's CARD OF 'ropewalklaw.LinkItems'. -/
def linkItemsUptoCard : Claim7 := { stood := { row := linkItemsUptoRow, standIns := [], harness := (true, "c8ef5fd90e1d290ed327c951da96048b35603fd6f3b49a728507024fc19c5f7d"), looks := false }, kinds := [], alts := [], laidByText := true, laidKinds := [.data, .pinned], laidTests := true, laidLooks := .later }
def LinkItemsUptoCardSaid : Prop := Claim7.holds Tryz.pinned (.plain (OpenSpec.upto linkItemsSpec)) linkItemsUptoCard
end Rows
end Go.Proofs.YtpkfmfhodbjckaaGreatDoor
