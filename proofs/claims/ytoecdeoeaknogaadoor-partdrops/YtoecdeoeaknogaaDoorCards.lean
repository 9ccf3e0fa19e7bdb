/-
  DERIVED. GIVEN WITH THE SEED: THE CARDS: each row of YtoecdeoeaknogaaDoorRows.lean that lists a variable, with what it lists TIED to the program's text (the seventh form; the later family's looks); each row that meets fmt, with fmt's text TOLD by the authors' own Lean function (tested against real Go, not proved from fmt's source: count such statements apart). THE CARD IS WHAT COUNTS. Prove the row's statement (the work); the ties are given (YtoecdeoeaknogaaDoorTie.lean); close each card by the builder's one call (the guide's Derived/Test/ToyasCard.lean, 'card_holds'). Laid BY PROGRAM, IN A SANDBOX (cutbox-door.mjs). By AI agents, Wed Nov 11 2026. No macro, syntax, notation, axiom, sorry.
-/
import Derived.Test.YtoecdeoeaknogaaDoorRows
import GoSem.ClaimSeven
namespace Go.Proofs.YtoecdeoeaknogaaDoor
namespace Rows

/-- THE TIED CARD OF 'ropewalklaw.ObjChecks'. -/
def objChecksCard : Claim7 := { stood := { row := objChecksRow, standIns := [], harness := (true, "ef8a8fb46c89512e3edeea234b3968c31f476f06f05c5b0540915d38189317d2"), looks := true }, kinds := [], alts := [], laidByText := true, laidKinds := [.data, .pinned], laidTests := true, laidLooks := .later }
def ObjChecksCardSaid : Prop := Claim7.holds Tryd.pinned (.plain (OpenSpec.ofChange objChecksSpec)) objChecksCard

/-- THE TIED CARD OF 'ropewalklaw.ScriptBack'. -/
def scriptBackCard : Claim7 := { stood := { row := scriptBackRow, standIns := [], harness := (true, "ef8a8fb46c89512e3edeea234b3968c31f476f06f05c5b0540915d38189317d2"), looks := true }, kinds := [], alts := [], laidByText := true, laidKinds := [.data, .data, .data, .sentinel, .sentinel, .wider, .wider, .wider], laidTests := true, laidLooks := .later }
def ScriptBackCardSaid : Prop := Claim7.holds Tryd.pinned (.plain (OpenSpec.ofChange scriptBackSpec)) scriptBackCard

/-- THE TIED CARD OF 'ropewalklaw.ScriptApart'. -/
def scriptApartCard : Claim7 := { stood := { row := scriptApartRow, standIns := [], harness := (true, "ef8a8fb46c89512e3edeea234b3968c31f476f06f05c5b0540915d38189317d2"), looks := true }, kinds := [], alts := [], laidByText := true, laidKinds := [.data, .data, .data, .sentinel, .sentinel, .wider, .wider, .wider], laidTests := true, laidLooks := .later }
def ScriptApartCardSaid : Prop := Claim7.holds Tryd.pinned (.plain (OpenSpec.ofChange scriptApartSpec)) scriptApartCard

/-- THE TIED CARD OF 'ropewalklaw.PartDrops'. -/
def partDropsCard : Claim7 := { stood := { row := partDropsRow, standIns := [], harness := (true, "ef8a8fb46c89512e3edeea234b3968c31f476f06f05c5b0540915d38189317d2"), looks := true }, kinds := [], alts := [], laidByText := true, laidKinds := [.data, .pinned], laidTests := true, laidLooks := .later }
def PartDropsCardSaid : Prop := Claim7.holds Tryd.pinned (.plain (OpenSpec.ofChange partDropsSpec)) partDropsCard

/-- THE SECOND FORM's CARD OF 'ropewalklaw.ObjChecks'. -/
def objChecksUptoCard : Claim7 := { stood := { row := objChecksUptoRow, standIns := [], harness := (true, "ef8a8fb46c89512e3edeea234b3968c31f476f06f05c5b0540915d38189317d2"), looks := true }, kinds := [], alts := [], laidByText := true, laidKinds := [.data, .pinned], laidTests := true, laidLooks := .later }
def ObjChecksUptoCardSaid : Prop := Claim7.holds Tryd.pinned (.plain (OpenSpec.upto objChecksSpec)) objChecksUptoCard

/-- THE SECOND FORM's CARD OF 'ropewalklaw.ScriptBack'. -/
def scriptBackUptoCard : Claim7 := { stood := { row := scriptBackUptoRow, standIns := [], harness := (true, "ef8a8fb46c89512e3edeea234b3968c31f476f06f05c5b0540915d38189317d2"), looks := true }, kinds := [], alts := [], laidByText := true, laidKinds := [.data, .data, .data, .sentinel, .sentinel, .wider, .wider, .wider], laidTests := true, laidLooks := .later }
def ScriptBackUptoCardSaid : Prop := Claim7.holds Tryd.pinned (.plain (OpenSpec.upto scriptBackSpec)) scriptBackUptoCard

/-- THE SECOND FORM's CARD OF 'ropewalklaw.ScriptApart'. -/
def scriptApartUptoCard : Claim7 := { stood := { row := scriptApartUptoRow, standIns := [], harness := (true, "ef8a8fb46c89512e3edeea234b3968c31f476f06f05c5b0540915d38189317d2"), looks := true }, kinds := [], alts := [], laidByText := true, laidKinds := [.data, .data, .data, .sentinel, .sentinel, .wider, .wider, .wider], laidTests := true, laidLooks := .later }
def ScriptApartUptoCardSaid : Prop := Claim7.holds Tryd.pinned (.plain (OpenSpec.upto scriptApartSpec)) scriptApartUptoCard

/-- THE SECOND FORM's CARD OF 'ropewalklaw.PartDrops'. -/
def partDropsUptoCard : Claim7 := { stood := { row := partDropsUptoRow, standIns := [], harness := (true, "ef8a8fb46c89512e3edeea234b3968c31f476f06f05c5b0540915d38189317d2"), looks := true }, kinds := [], alts := [], laidByText := true, laidKinds := [.data, .pinned], laidTests := true, laidLooks := .later }
def PartDropsUptoCardSaid : Prop := Claim7.holds Tryd.pinned (.plain (OpenSpec.upto partDropsSpec)) partDropsUptoCard
end Rows
end Go.Proofs.YtoecdeoeaknogaaDoor
