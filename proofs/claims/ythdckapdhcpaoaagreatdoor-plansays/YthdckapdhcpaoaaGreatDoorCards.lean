/-
  DERIVED. GIVEN WITH THE SEED: THE CARDS: each row of YthdckapdhcpaoaaGreatDoorRows.lean that lists a variable, with what it lists TIED to the program's text (the seventh form; the later family's looks); each row that meets fmt, with fmt's text TOLD by the authors' own Lean function (tested against real Go, not proved from fmt's source: count such statements apart). THE CARD IS WHAT COUNTS. Prove the row's statement (the work); the ties are given (YthdckapdhcpaoaaGreatDoorTie.lean); close each card by the builder's one call (the guide's Derived/Test/ToyasCard.lean, 'card_holds'). Laid BY PROGRAM, IN A SANDBOX (cutbox-door.mjs). By AI agents, Wed Nov 11 2026. No macro, syntax, notation, axiom, sorry.
-/
import Derived.Test.YthdckapdhcpaoaaGreatDoorRows
import GoSem.ClaimSeven
namespace Go.Proofs.YthdckapdhcpaoaaGreatDoor
namespace Rows

/-- THE TIED CARD OF 'ropewalklaw.PlanSays'. -/
def planSaysCard : Claim7 := { stood := { row := planSaysRow, standIns := [], harness := (true, "d9b4ebbcb280e1d34fe759537009d0f5e862858f92d7dc791fb2bb3b71d6a48e"), looks := false }, kinds := [], alts := [], laidByText := true, laidKinds := [.data, .pinned], laidTests := true, laidLooks := .later }
def PlanSaysCardSaid : Prop := Claim7.holds Tryz.pinned (.plain (OpenSpec.ofChange planSaysSpec)) planSaysCard

/-- THE SECOND FORM's CARD OF 'ropewalklaw.PlanSays'. -/
def planSaysUptoCard : Claim7 := { stood := { row := planSaysUptoRow, standIns := [], harness := (true, "d9b4ebbcb280e1d34fe759537009d0f5e862858f92d7dc791fb2bb3b71d6a48e"), looks := false }, kinds := [], alts := [], laidByText := true, laidKinds := [.data, .pinned], laidTests := true, laidLooks := .later }
def PlanSaysUptoCardSaid : Prop := Claim7.holds Tryz.pinned (.plain (OpenSpec.upto planSaysSpec)) planSaysUptoCard
end Rows
end Go.Proofs.YthdckapdhcpaoaaGreatDoor
