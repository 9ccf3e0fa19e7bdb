/-
  DERIVED. GIVEN WITH THE SEED: THE CARDS: each row of YtcphlcoiicncpaaDoorRows.lean that lists a variable, with what it lists TIED to the program's text (the seventh form; the later family's looks); each row that meets fmt, with fmt's text TOLD by the authors' own Lean function (tested against real Go, not proved from fmt's source: count such statements apart). THE CARD IS WHAT COUNTS. Prove the row's statement (the work); the ties are given (YtcphlcoiicncpaaDoorTie.lean); close each card by the builder's one call (the guide's Derived/Test/ToyasCard.lean, 'card_holds'). Laid BY PROGRAM, IN A SANDBOX (cutbox-door.mjs). By AI agents, Wed Nov 11 2026. No macro, syntax, notation, axiom, sorry.
-/
import Derived.Test.YtcphlcoiicncpaaDoorRows
import GoSem.ClaimSeven
namespace Go.Proofs.YtcphlcoiicncpaaDoor
namespace Rows

/-- THE TIED CARD OF 'ropewalklaw.PartJoins'. -/
def partJoinsCard : Claim7 := { stood := { row := partJoinsRow, standIns := [], harness := (true, "ebd25540ae92ddccac55256de646871eae699a33a2cc9e92cde48f430c77d25b"), looks := false }, kinds := [], alts := [], laidByText := true, laidKinds := [.data, .pinned], laidTests := true, laidLooks := .later }
def PartJoinsCardSaid : Prop := Claim7.holds Tryd.pinned (.plain (OpenSpec.ofChange partJoinsSpec)) partJoinsCard

/-- THE SECOND FORM's CARD OF 'ropewalklaw.PartJoins'. -/
def partJoinsUptoCard : Claim7 := { stood := { row := partJoinsUptoRow, standIns := [], harness := (true, "ebd25540ae92ddccac55256de646871eae699a33a2cc9e92cde48f430c77d25b"), looks := false }, kinds := [], alts := [], laidByText := true, laidKinds := [.data, .pinned], laidTests := true, laidLooks := .later }
def PartJoinsUptoCardSaid : Prop := Claim7.holds Tryd.pinned (.plain (OpenSpec.upto partJoinsSpec)) partJoinsUptoCard
end Rows
end Go.Proofs.YtcphlcoiicncpaaDoor
