/-
  DERIVED. GIVEN WITH THE SEED: THE CARDS: each row of YthbdfnphnppagaaDoorRows.lean that lists a variable, with what it lists TIED to the program's text (the seventh form; the later family's looks); each row that meets fmt, with fmt's text TOLD by the authors' own Lean function (tested against real Go, not proved from fmt's source: count such statements apart). THE CARD IS WHAT COUNTS. Prove the row's statement (the work); the ties are given (YthbdfnphnppagaaDoorTie.lean); close each card by the builder's one call (the guide's Derived/Test/ToyasCard.lean, 'card_holds'). Laid BY PROGRAM, IN A SANDBOX (cutbox-door.mjs). By AI agents, Wed Nov 11 2026. No macro, syntax, notation, axiom, sorry.
-/
import Derived.Test.YthbdfnphnppagaaDoorRows
import GoSem.ClaimSeven
namespace Go.Proofs.YthbdfnphnppagaaDoor
namespace Rows

/-- THE TIED CARD OF 'ropewalklaw.ObjChecks'. -/
def objChecksCard : Claim7 := { stood := { row := objChecksRow, standIns := [], harness := (true, "40b303bc6a0c38c2c2c23a71982c5606441bd306642b292fd7338ad6248b9609"), looks := false }, kinds := [], alts := [], laidByText := true, laidKinds := [.data, .pinned], laidTests := true, laidLooks := .later }
def ObjChecksCardSaid : Prop := Claim7.holds Tryd.pinned (.plain (OpenSpec.ofChange objChecksSpec)) objChecksCard

/-- THE TIED CARD OF 'ropewalklaw.PartDrops'. -/
def partDropsCard : Claim7 := { stood := { row := partDropsRow, standIns := [], harness := (true, "40b303bc6a0c38c2c2c23a71982c5606441bd306642b292fd7338ad6248b9609"), looks := false }, kinds := [], alts := [], laidByText := true, laidKinds := [.data, .pinned], laidTests := true, laidLooks := .later }
def PartDropsCardSaid : Prop := Claim7.holds Tryd.pinned (.plain (OpenSpec.ofChange partDropsSpec)) partDropsCard

/-- THE TIED CARD OF 'ropewalklaw.PartJoins'. -/
def partJoinsCard : Claim7 := { stood := { row := partJoinsRow, standIns := [], harness := (true, "40b303bc6a0c38c2c2c23a71982c5606441bd306642b292fd7338ad6248b9609"), looks := false }, kinds := [], alts := [], laidByText := true, laidKinds := [.data, .pinned], laidTests := true, laidLooks := .later }
def PartJoinsCardSaid : Prop := Claim7.holds Tryd.pinned (.plain (OpenSpec.ofChange partJoinsSpec)) partJoinsCard

/-- THE TIED CARD OF 'ropewalklaw.NamesTell'. -/
def namesTellCard : Claim7 := { stood := { row := namesTellRow, standIns := [], harness := (true, "40b303bc6a0c38c2c2c23a71982c5606441bd306642b292fd7338ad6248b9609"), looks := false }, kinds := [], alts := [], laidByText := true, laidKinds := [.data, .pinned], laidTests := true, laidLooks := .later }
def NamesTellCardSaid : Prop := Claim7.holds Tryd.pinned (.plain (OpenSpec.ofChange namesTellSpec)) namesTellCard

/-- THE SECOND FORM's CARD OF 'ropewalklaw.ObjChecks'. -/
def objChecksUptoCard : Claim7 := { stood := { row := objChecksUptoRow, standIns := [], harness := (true, "40b303bc6a0c38c2c2c23a71982c5606441bd306642b292fd7338ad6248b9609"), looks := false }, kinds := [], alts := [], laidByText := true, laidKinds := [.data, .pinned], laidTests := true, laidLooks := .later }
def ObjChecksUptoCardSaid : Prop := Claim7.holds Tryd.pinned (.plain (OpenSpec.upto objChecksSpec)) objChecksUptoCard

/-- THE SECOND FORM's CARD OF 'ropewalklaw.PartDrops'. -/
def partDropsUptoCard : Claim7 := { stood := { row := partDropsUptoRow, standIns := [], harness := (true, "40b303bc6a0c38c2c2c23a71982c5606441bd306642b292fd7338ad6248b9609"), looks := false }, kinds := [], alts := [], laidByText := true, laidKinds := [.data, .pinned], laidTests := true, laidLooks := .later }
def PartDropsUptoCardSaid : Prop := Claim7.holds Tryd.pinned (.plain (OpenSpec.upto partDropsSpec)) partDropsUptoCard

/-- THE SECOND FORM's CARD OF 'ropewalklaw.PartJoins'. -/
def partJoinsUptoCard : Claim7 := { stood := { row := partJoinsUptoRow, standIns := [], harness := (true, "40b303bc6a0c38c2c2c23a71982c5606441bd306642b292fd7338ad6248b9609"), looks := false }, kinds := [], alts := [], laidByText := true, laidKinds := [.data, .pinned], laidTests := true, laidLooks := .later }
def PartJoinsUptoCardSaid : Prop := Claim7.holds Tryd.pinned (.plain (OpenSpec.upto partJoinsSpec)) partJoinsUptoCard

/-- THE SECOND FORM's CARD OF 'ropewalklaw.NamesTell'. -/
def namesTellUptoCard : Claim7 := { stood := { row := namesTellUptoRow, standIns := [], harness := (true, "40b303bc6a0c38c2c2c23a71982c5606441bd306642b292fd7338ad6248b9609"), looks := false }, kinds := [], alts := [], laidByText := true, laidKinds := [.data, .pinned], laidTests := true, laidLooks := .later }
def NamesTellUptoCardSaid : Prop := Claim7.holds Tryd.pinned (.plain (OpenSpec.upto namesTellSpec)) namesTellUptoCard
end Rows
end Go.Proofs.YthbdfnphnppagaaDoor
