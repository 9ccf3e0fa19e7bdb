/-
  DERIVED. GIVEN WITH THE SEED: THE CARDS: each row of YtcpeeedmghbdhaaGreatDoorRows.lean that lists a variable, with what it lists TIED to the program's text (the seventh form; the later family's looks); each row that meets fmt, with fmt's text TOLD by the authors' own Lean function (tested against real Go, not proved from fmt's source: count such statements apart). THE CARD IS WHAT COUNTS. Prove the row's statement (the work); the ties are given (YtcpeeedmghbdhaaGreatDoorTie.lean); close each card by the builder's one call (the guide's Derived/Test/ToyasCard.lean, 'card_holds'). Laid BY PROGRAM, IN A SANDBOX (cutbox-door.mjs). By AI agents, Wed Nov 11 2026. No macro, syntax, notation, axiom, sorry.
-/
import Derived.Test.YtcpeeedmghbdhaaGreatDoorRows
import GoSem.ClaimSeven
namespace Go.Proofs.YtcpeeedmghbdhaaGreatDoor
namespace Rows

/-- THE TIED CARD OF 'ropewalklaw.ArchiveChooses'. -/
def archiveChoosesCard : Claim7 := { stood := { row := archiveChoosesRow, standIns := [], harness := (true, "c1f12afc4c8dfc96f6bf0613e5b450e2237adf200816580463f135d25881d598"), looks := false }, kinds := [], alts := [], laidByText := true, laidKinds := [.data, .pinned], laidTests := true, laidLooks := .later }
def ArchiveChoosesCardSaid : Prop := Claim7.holds Tryz.pinned (.plain (OpenSpec.ofChange archiveChoosesSpec)) archiveChoosesCard

/-- THE SECOND FORM's CARD OF 'ropewalklaw.ArchiveChooses'. -/
def archiveChoosesUptoCard : Claim7 := { stood := { row := archiveChoosesUptoRow, standIns := [], harness := (true, "c1f12afc4c8dfc96f6bf0613e5b450e2237adf200816580463f135d25881d598"), looks := false }, kinds := [], alts := [], laidByText := true, laidKinds := [.data, .pinned], laidTests := true, laidLooks := .later }
def ArchiveChoosesUptoCardSaid : Prop := Claim7.holds Tryz.pinned (.plain (OpenSpec.upto archiveChoosesSpec)) archiveChoosesUptoCard
end Rows
end Go.Proofs.YtcpeeedmghbdhaaGreatDoor
