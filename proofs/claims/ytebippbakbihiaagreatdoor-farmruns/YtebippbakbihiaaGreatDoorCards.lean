/-
  DERIVED. GIVEN WITH THE SEED: THE CARDS: each row of YtebippbakbihiaaGreatDoorRows.lean that lists a variable, with what it lists TIED to the program's text (the seventh form; the later family's looks); each row that meets fmt, with fmt's text TOLD by the authors' own Lean function (tested against real Go, not proved from fmt's source: count such statements apart). THE CARD IS WHAT COUNTS. Prove the row's statement (the work); the ties are given (YtebippbakbihiaaGreatDoorTie.lean); close each card by the builder's one call (the guide's Derived/Test/ToyasCard.lean, 'card_holds'). Laid BY PROGRAM, IN A SANDBOX (cutbox-door.mjs). By AI agents, Wed Nov 11 2026. No macro, syntax, notation, axiom, sorry.
-/
import Derived.Test.YtebippbakbihiaaGreatDoorRows
import GoSem.ClaimSeven
namespace Go.Proofs.YtebippbakbihiaaGreatDoor
namespace Rows

/-- THE TIED CARD OF 'ropewalklaw.FarmDoes'. -/
def farmDoesCard : Claim7 := { stood := { row := farmDoesRow, standIns := [], harness := (true, "216ec42fc9f10c3224001e3344c64a450a315ffeff1d2e46889d5d31604f0d39"), looks := false }, kinds := [], alts := [], laidByText := true, laidKinds := [.data, .pinned], laidTests := true, laidLooks := .later }
def FarmDoesCardSaid : Prop := Claim7.holds Tryz.pinned (.plain (OpenSpec.ofChange farmDoesSpec)) farmDoesCard

/-- THE TIED CARD OF 'ropewalklaw.FarmRuns'. -/
def farmRunsCard : Claim7 := { stood := { row := farmRunsRow, standIns := [], harness := (true, "216ec42fc9f10c3224001e3344c64a450a315ffeff1d2e46889d5d31604f0d39"), looks := false }, kinds := [], alts := [], laidByText := true, laidKinds := [.data, .pinned], laidTests := true, laidLooks := .later }
def FarmRunsCardSaid : Prop := Claim7.holds Tryz.pinned (.plain (OpenSpec.ofChange farmRunsSpec)) farmRunsCard

/-- THE SECOND FORM's CARD OF 'ropewalklaw.FarmDoes'. -/
def farmDoesUptoCard : Claim7 := { stood := { row := farmDoesUptoRow, standIns := [], harness := (true, "216ec42fc9f10c3224001e3344c64a450a315ffeff1d2e46889d5d31604f0d39"), looks := false }, kinds := [], alts := [], laidByText := true, laidKinds := [.data, .pinned], laidTests := true, laidLooks := .later }
def FarmDoesUptoCardSaid : Prop := Claim7.holds Tryz.pinned (.plain (OpenSpec.upto farmDoesSpec)) farmDoesUptoCard

/-- THE SECOND FORM's CARD OF 'ropewalklaw.FarmRuns'. -/
def farmRunsUptoCard : Claim7 := { stood := { row := farmRunsUptoRow, standIns := [], harness := (true, "216ec42fc9f10c3224001e3344c64a450a315ffeff1d2e46889d5d31604f0d39"), looks := false }, kinds := [], alts := [], laidByText := true, laidKinds := [.data, .pinned], laidTests := true, laidLooks := .later }
def FarmRunsUptoCardSaid : Prop := Claim7.holds Tryz.pinned (.plain (OpenSpec.upto farmRunsSpec)) farmRunsUptoCard
end Rows
end Go.Proofs.YtebippbakbihiaaGreatDoor
