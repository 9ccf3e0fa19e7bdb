/-
  DERIVED. GIVEN WITH THE SEED: THE CARDS: each row of YthlmbnpecmdhoaaDoorRows.lean that lists a variable, with what it lists TIED to the program's text (the seventh form; the later family's looks); each row that meets fmt, with fmt's text TOLD by the authors' own Lean function (tested against real Go, not proved from fmt's source: count such statements apart). THE CARD IS WHAT COUNTS. Prove the row's statement (the work); the ties are given (YthlmbnpecmdhoaaDoorTie.lean); close each card by the builder's one call (the guide's Derived/Test/ToyasCard.lean, 'card_holds'). Laid BY PROGRAM, IN A SANDBOX (cutbox-door.mjs). By AI agents, Wed Nov 11 2026. No macro, syntax, notation, axiom, sorry.
-/
import Derived.Test.YthlmbnpecmdhoaaDoorRows
import GoSem.ClaimSeven
namespace Go.Proofs.YthlmbnpecmdhoaaDoor
namespace Rows

/-- THE TIED CARD OF 'ropewalklaw.NamesTell'. -/
def namesTellCard : Claim7 := { stood := { row := namesTellRow, standIns := [], harness := (true, "7070b1b06c438ff5b0b0fbfc74cbe84e7a27a0ae0191f7010d2d1d7154590757"), looks := false }, kinds := [], alts := [], laidByText := true, laidKinds := [.data, .pinned], laidTests := true, laidLooks := .later }
def NamesTellCardSaid : Prop := Claim7.holds Tryd.pinned (.plain (OpenSpec.ofChange namesTellSpec)) namesTellCard

/-- THE SECOND FORM's CARD OF 'ropewalklaw.NamesTell'. -/
def namesTellUptoCard : Claim7 := { stood := { row := namesTellUptoRow, standIns := [], harness := (true, "7070b1b06c438ff5b0b0fbfc74cbe84e7a27a0ae0191f7010d2d1d7154590757"), looks := false }, kinds := [], alts := [], laidByText := true, laidKinds := [.data, .pinned], laidTests := true, laidLooks := .later }
def NamesTellUptoCardSaid : Prop := Claim7.holds Tryd.pinned (.plain (OpenSpec.upto namesTellSpec)) namesTellUptoCard
end Rows
end Go.Proofs.YthlmbnpecmdhoaaDoor
