/-
  No cell of these rows narrows 'for every input' (looked for: loops, veiled, ifaces, maps, wideKeys, modest, calm, conditions, laid).
  DERIVED. THE GIVEN ROWS OF THIS SEAT. 6 by the template 'for every input the law returns true; each argument reads behind the call as it read before'; 0 by the template 'total and deterministic' (their statements: YtabkbicaignicaaTotals.lean).
  GIVEN WITH THE SEED: the statements are not yours to turn. If you find one false, say at which input.
  Laid BY PROGRAM, IN A SANDBOX (cutbox-rows.mjs): the forced cells as the released guide's own fill.sh prints them over the translation bd4751a5bab3f44e… (all of the seat's roots in one cut). By AI agents, Wed Nov 11 2026. No macro, syntax, notation, axiom, sorry.
-/
import Derived.Test.YtabkbicaignicaaChecked
import GoSem.Claim
import GoSem.ClaimJoined
import GoSem.ClaimMapViews
import Derived.JoinedTies
import Derived.KernelRfl
namespace Go.Proofs.Ytabkbicaignicaa
/- THE CELL 'sum', in the pinned program and in every row, IS THE sha256 OF THE DUMP (.gsa) THAT YtabkbicaignicaaProg.lean LOADS. Nothing in Lean hashes anything: it is a label: what it is worth is what the hold of that sum in a sandbox is worth. -/
noncomputable def Try.pinned : Pinned := { name := "ytabkbicaignicaa", sum := "bd4751a5bab3f44ef48374d22c2d310b726980be27cb5ac9a243cf333056f39a", checked := Try.checked }
namespace Rows
def none {H : Type} : Left H := { results := [], args := [] }

/-- 'ropewalklaw.LinkPlaces': WHATEVER THE INPUT: true; the input reads as it did. -/
def linkPlacesSpec : ChangeSpec := { name := "linkPlaces", fn := fun _ => fun
  | [d1, d2, d3] => { results := [.lit (.bool true)], args := [d1, d2, d3] }
  | _ => none }
def linkPlacesRow : OpenClaim := { program := "ytabkbicaignicaa", sum := "bd4751a5bab3f44ef48374d22c2d310b726980be27cb5ac9a243cf333056f39a", func := "ropewalk/ropewalklaw.LinkPlaces", spec := "linkPlaces", unfollowed := true, recurses := true, plainKeys := false, apart := false }
def LinkPlacesSaid : Prop := linkPlacesRow.holds Try.pinned (OpenSpec.ofChange linkPlacesSpec)

/-- ITS FALSE NEIGHBOUR: 'it returns false'. Refute it at one input. -/
def linkPlacesWrong : ChangeSpec := { name := "linkPlaces", fn := fun _ => fun
  | [d1, d2, d3] => { results := [.lit (.bool false)], args := [d1, d2, d3] }
  | _ => none }
def LinkPlacesWrongFalsely : Prop := linkPlacesRow.holds Try.pinned (OpenSpec.ofChange linkPlacesWrong)

/-- 'ropewalklaw.LoadLinked': WHATEVER THE INPUT: true; the input reads as it did. -/
def loadLinkedSpec : ChangeSpec := { name := "loadLinked", fn := fun _ => fun
  | [d1, d2, d3] => { results := [.lit (.bool true)], args := [d1, d2, d3] }
  | _ => none }
def loadLinkedRow : OpenClaim := { program := "ytabkbicaignicaa", sum := "bd4751a5bab3f44ef48374d22c2d310b726980be27cb5ac9a243cf333056f39a", func := "ropewalk/ropewalklaw.LoadLinked", spec := "loadLinked", unfollowed := true, recurses := true, plainKeys := false, apart := false }
def LoadLinkedSaid : Prop := loadLinkedRow.holds Try.pinned (OpenSpec.ofChange loadLinkedSpec)

/-- ITS FALSE NEIGHBOUR: 'it returns false'. Refute it at one input. -/
def loadLinkedWrong : ChangeSpec := { name := "loadLinked", fn := fun _ => fun
  | [d1, d2, d3] => { results := [.lit (.bool false)], args := [d1, d2, d3] }
  | _ => none }
def LoadLinkedWrongFalsely : Prop := loadLinkedRow.holds Try.pinned (OpenSpec.ofChange loadLinkedWrong)

/-- 'ropewalklaw.LinkFaults': WHATEVER THE INPUT: true; the input reads as it did. -/
def linkFaultsSpec : ChangeSpec := { name := "linkFaults", fn := fun _ => fun
  | [d1, d2, d3] => { results := [.lit (.bool true)], args := [d1, d2, d3] }
  | _ => none }
def linkFaultsRow : OpenClaim := { program := "ytabkbicaignicaa", sum := "bd4751a5bab3f44ef48374d22c2d310b726980be27cb5ac9a243cf333056f39a", func := "ropewalk/ropewalklaw.LinkFaults", spec := "linkFaults", unfollowed := true, recurses := true, plainKeys := false, apart := false }
def LinkFaultsSaid : Prop := linkFaultsRow.holds Try.pinned (OpenSpec.ofChange linkFaultsSpec)

/-- ITS FALSE NEIGHBOUR: 'it returns false'. Refute it at one input. -/
def linkFaultsWrong : ChangeSpec := { name := "linkFaults", fn := fun _ => fun
  | [d1, d2, d3] => { results := [.lit (.bool false)], args := [d1, d2, d3] }
  | _ => none }
def LinkFaultsWrongFalsely : Prop := linkFaultsRow.holds Try.pinned (OpenSpec.ofChange linkFaultsWrong)

/-- 'ropewalklaw.LinkMoved': WHATEVER THE INPUT: true; the input reads as it did. -/
def linkMovedSpec : ChangeSpec := { name := "linkMoved", fn := fun _ => fun
  | [d1, d2, d3] => { results := [.lit (.bool true)], args := [d1, d2, d3] }
  | _ => none }
def linkMovedRow : OpenClaim := { program := "ytabkbicaignicaa", sum := "bd4751a5bab3f44ef48374d22c2d310b726980be27cb5ac9a243cf333056f39a", func := "ropewalk/ropewalklaw.LinkMoved", spec := "linkMoved", unfollowed := true, recurses := true, plainKeys := false, apart := false }
def LinkMovedSaid : Prop := linkMovedRow.holds Try.pinned (OpenSpec.ofChange linkMovedSpec)

/-- ITS FALSE NEIGHBOUR: 'it returns false'. Refute it at one input. -/
def linkMovedWrong : ChangeSpec := { name := "linkMoved", fn := fun _ => fun
  | [d1, d2, d3] => { results := [.lit (.bool false)], args := [d1, d2, d3] }
  | _ => none }
def LinkMovedWrongFalsely : Prop := linkMovedRow.holds Try.pinned (OpenSpec.ofChange linkMovedWrong)

/-- 'ropewalklaw.LinkOrder': WHATEVER THE INPUT: true; the input reads as it did. -/
def linkOrderSpec : ChangeSpec := { name := "linkOrder", fn := fun _ => fun
  | [d1, d2, d3, d4, d5] => { results := [.lit (.bool true)], args := [d1, d2, d3, d4, d5] }
  | _ => none }
def linkOrderRow : OpenClaim := { program := "ytabkbicaignicaa", sum := "bd4751a5bab3f44ef48374d22c2d310b726980be27cb5ac9a243cf333056f39a", func := "ropewalk/ropewalklaw.LinkOrder", spec := "linkOrder", unfollowed := true, recurses := true, plainKeys := false, apart := false }
def LinkOrderSaid : Prop := linkOrderRow.holds Try.pinned (OpenSpec.ofChange linkOrderSpec)

/-- ITS FALSE NEIGHBOUR: 'it returns false'. Refute it at one input. -/
def linkOrderWrong : ChangeSpec := { name := "linkOrder", fn := fun _ => fun
  | [d1, d2, d3, d4, d5] => { results := [.lit (.bool false)], args := [d1, d2, d3, d4, d5] }
  | _ => none }
def LinkOrderWrongFalsely : Prop := linkOrderRow.holds Try.pinned (OpenSpec.ofChange linkOrderWrong)

/-- 'ropewalklaw.NamesJoined': WHATEVER THE INPUT: true; the input reads as it did. -/
def namesJoinedSpec : ChangeSpec := { name := "namesJoined", fn := fun _ => fun
  | [d1, d2, d3] => { results := [.lit (.bool true)], args := [d1, d2, d3] }
  | _ => none }
def namesJoinedRow : OpenClaim := { program := "ytabkbicaignicaa", sum := "bd4751a5bab3f44ef48374d22c2d310b726980be27cb5ac9a243cf333056f39a", func := "ropewalk/ropewalklaw.NamesJoined", spec := "namesJoined", unfollowed := true, recurses := true, plainKeys := false, apart := false }
def NamesJoinedSaid : Prop := namesJoinedRow.holds Try.pinned (OpenSpec.ofChange namesJoinedSpec)

/-- ITS FALSE NEIGHBOUR: 'it returns false'. Refute it at one input. -/
def namesJoinedWrong : ChangeSpec := { name := "namesJoined", fn := fun _ => fun
  | [d1, d2, d3] => { results := [.lit (.bool false)], args := [d1, d2, d3] }
  | _ => none }
def NamesJoinedWrongFalsely : Prop := namesJoinedRow.holds Try.pinned (OpenSpec.ofChange namesJoinedWrong)

/- THE SECOND FORM. 'bulk': how many values and letters a reading holds, each counted each time it is reached (what is shared counts as often as it is met; a slice's spare places count too). A statement '..UptoSaid' is the law's where the arguments, and the package variables that the reading takes, are together of bulk at most 1048576: NARROWER than '..Said'. Prove '..Said' where nothing that the law and all that it calls make is longer than what came in: it says more and counts as full. Else prove '..UptoSaid'. A law counts once. -/
mutual
def uptoBulk {H : Type} : DataW H → Nat
  | .lit (.string bytes) => bytes.length + 1
  | .lit _ => 1
  | .nil => 1
  | .ptr d => uptoBulk d + 1
  | .slice elems spare => uptoBulkAll elems + uptoBulkAll spare + 1
  | .agg parts => uptoBulkAll parts + 1
  | .iface _ d => uptoBulk d + 1
  | .map entries => uptoBulkEntries entries + 1
  | .held _ => 1
def uptoBulkAll {H : Type} : List (DataW H) → Nat
  | [] => 0
  | d :: r => uptoBulk d + uptoBulkAll r
def uptoBulkEntries {H : Type} : List (Lit × DataW H) → Nat
  | [] => 0
  | x :: r => uptoBulkEntry x + uptoBulkEntries r
def uptoBulkEntry {H : Type} : Lit × DataW H → Nat
  | (.string bytes, d) => bytes.length + uptoBulk d + 1
  | (_, d) => uptoBulk d + 1
 end
def uptoSmall : (H : Type) → List (DataW H) → Bool := fun _ ds => decide (uptoBulkAll ds ≤ 1048576)
def OpenSpec.upto (s : _root_.Go.ChangeSpec) : _root_.Go.OpenSpec := { _root_.Go.OpenSpec.ofChange s with cond := some uptoSmall }

/-- 'ropewalklaw.LinkPlaces', WHERE WHAT IT READS IS OF BULK AT MOST 1048576: true; the input reads as it did. -/
def linkPlacesUptoRow : OpenClaim := { program := "ytabkbicaignicaa", sum := "bd4751a5bab3f44ef48374d22c2d310b726980be27cb5ac9a243cf333056f39a", func := "ropewalk/ropewalklaw.LinkPlaces", spec := "linkPlaces", unfollowed := true, recurses := true, plainKeys := false, apart := false, narrowed := true }
def LinkPlacesUptoSaid : Prop := linkPlacesUptoRow.holds Try.pinned (OpenSpec.upto linkPlacesSpec)

/-- 'ropewalklaw.LoadLinked', WHERE WHAT IT READS IS OF BULK AT MOST 1048576: true; the input reads as it did. -/
def loadLinkedUptoRow : OpenClaim := { program := "ytabkbicaignicaa", sum := "bd4751a5bab3f44ef48374d22c2d310b726980be27cb5ac9a243cf333056f39a", func := "ropewalk/ropewalklaw.LoadLinked", spec := "loadLinked", unfollowed := true, recurses := true, plainKeys := false, apart := false, narrowed := true }
def LoadLinkedUptoSaid : Prop := loadLinkedUptoRow.holds Try.pinned (OpenSpec.upto loadLinkedSpec)

/-- 'ropewalklaw.LinkFaults', WHERE WHAT IT READS IS OF BULK AT MOST 1048576: true; the input reads as it did. -/
def linkFaultsUptoRow : OpenClaim := { program := "ytabkbicaignicaa", sum := "bd4751a5bab3f44ef48374d22c2d310b726980be27cb5ac9a243cf333056f39a", func := "ropewalk/ropewalklaw.LinkFaults", spec := "linkFaults", unfollowed := true, recurses := true, plainKeys := false, apart := false, narrowed := true }
def LinkFaultsUptoSaid : Prop := linkFaultsUptoRow.holds Try.pinned (OpenSpec.upto linkFaultsSpec)

/-- 'ropewalklaw.LinkMoved', WHERE WHAT IT READS IS OF BULK AT MOST 1048576: true; the input reads as it did. -/
def linkMovedUptoRow : OpenClaim := { program := "ytabkbicaignicaa", sum := "bd4751a5bab3f44ef48374d22c2d310b726980be27cb5ac9a243cf333056f39a", func := "ropewalk/ropewalklaw.LinkMoved", spec := "linkMoved", unfollowed := true, recurses := true, plainKeys := false, apart := false, narrowed := true }
def LinkMovedUptoSaid : Prop := linkMovedUptoRow.holds Try.pinned (OpenSpec.upto linkMovedSpec)

/-- 'ropewalklaw.LinkOrder', WHERE WHAT IT READS IS OF BULK AT MOST 1048576: true; the input reads as it did. -/
def linkOrderUptoRow : OpenClaim := { program := "ytabkbicaignicaa", sum := "bd4751a5bab3f44ef48374d22c2d310b726980be27cb5ac9a243cf333056f39a", func := "ropewalk/ropewalklaw.LinkOrder", spec := "linkOrder", unfollowed := true, recurses := true, plainKeys := false, apart := false, narrowed := true }
def LinkOrderUptoSaid : Prop := linkOrderUptoRow.holds Try.pinned (OpenSpec.upto linkOrderSpec)

/-- 'ropewalklaw.NamesJoined', WHERE WHAT IT READS IS OF BULK AT MOST 1048576: true; the input reads as it did. -/
def namesJoinedUptoRow : OpenClaim := { program := "ytabkbicaignicaa", sum := "bd4751a5bab3f44ef48374d22c2d310b726980be27cb5ac9a243cf333056f39a", func := "ropewalk/ropewalklaw.NamesJoined", spec := "namesJoined", unfollowed := true, recurses := true, plainKeys := false, apart := false, narrowed := true }
def NamesJoinedUptoSaid : Prop := namesJoinedUptoRow.holds Try.pinned (OpenSpec.upto namesJoinedSpec)

end Rows
end Go.Proofs.Ytabkbicaignicaa
