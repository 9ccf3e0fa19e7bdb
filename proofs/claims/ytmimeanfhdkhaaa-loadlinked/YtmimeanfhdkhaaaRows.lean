/-
  No cell of these rows narrows 'for every input' (looked for: loops, veiled, ifaces, maps, wideKeys, modest, calm, conditions, laid).
  DERIVED. THE GIVEN ROWS OF THIS SEAT. 4 by the template 'for every input the law returns true; each argument reads behind the call as it read before'; 0 by the template 'total and deterministic' (their statements: YtmimeanfhdkhaaaTotals.lean).
  GIVEN WITH THE SEED: the statements are not yours to turn. If you find one false, say at which input.
  Laid BY PROGRAM, IN A SANDBOX (cutbox-rows.mjs): the forced cells as the released guide's own fill.sh prints them over the translation e531bebbf433644b… (all of the seat's roots in one cut). By AI agents, Wed Nov 11 2026. No macro, syntax, notation, axiom, sorry.
-/
import Derived.Test.YtmimeanfhdkhaaaChecked
import GoSem.Claim
import GoSem.ClaimJoined
import GoSem.ClaimMapViews
import Derived.JoinedTies
import Derived.KernelRfl
namespace Go.Proofs.Ytmimeanfhdkhaaa
/- THE CELL 'sum', in the pinned program and in every row, IS THE sha256 OF THE DUMP (.gsa) THAT YtmimeanfhdkhaaaProg.lean LOADS. Nothing in Lean hashes anything: it is a label: what it is worth is what the hold of that sum in a sandbox is worth. -/
noncomputable def Try.pinned : Pinned := { name := "ytmimeanfhdkhaaa", sum := "e531bebbf433644bedb615f6e1181b5d00f60bad62ca6dc186f477fb1a467487", checked := Try.checked }
namespace Rows
def none {H : Type} : Left H := { results := [], args := [] }

/-- 'ropewalklaw.LoadSays': WHATEVER THE INPUT: true; the input reads as it did. -/
def loadSaysSpec : ChangeSpec := { name := "loadSays", fn := fun _ => fun
  | [d1, d2, d3] => { results := [.lit (.bool true)], args := [d1, d2, d3] }
  | _ => none }
def loadSaysRow : OpenClaim := { program := "ytmimeanfhdkhaaa", sum := "e531bebbf433644bedb615f6e1181b5d00f60bad62ca6dc186f477fb1a467487", func := "ropewalk/ropewalklaw.LoadSays", spec := "loadSays", plainKeys := false, apart := false }
def LoadSaysSaid : Prop := loadSaysRow.holds Try.pinned (OpenSpec.ofChange loadSaysSpec)

/-- ITS FALSE NEIGHBOUR: 'it returns false'. Refute it at one input. -/
def loadSaysWrong : ChangeSpec := { name := "loadSays", fn := fun _ => fun
  | [d1, d2, d3] => { results := [.lit (.bool false)], args := [d1, d2, d3] }
  | _ => none }
def LoadSaysWrongFalsely : Prop := loadSaysRow.holds Try.pinned (OpenSpec.ofChange loadSaysWrong)

/-- 'ropewalklaw.LoadParts': WHATEVER THE INPUT: true; the input reads as it did. -/
def loadPartsSpec : ChangeSpec := { name := "loadParts", fn := fun _ => fun
  | [d1, d2, d3, d4] => { results := [.lit (.bool true)], args := [d1, d2, d3, d4] }
  | _ => none }
def loadPartsRow : OpenClaim := { program := "ytmimeanfhdkhaaa", sum := "e531bebbf433644bedb615f6e1181b5d00f60bad62ca6dc186f477fb1a467487", func := "ropewalk/ropewalklaw.LoadParts", spec := "loadParts", plainKeys := false, apart := false }
def LoadPartsSaid : Prop := loadPartsRow.holds Try.pinned (OpenSpec.ofChange loadPartsSpec)

/-- ITS FALSE NEIGHBOUR: 'it returns false'. Refute it at one input. -/
def loadPartsWrong : ChangeSpec := { name := "loadParts", fn := fun _ => fun
  | [d1, d2, d3, d4] => { results := [.lit (.bool false)], args := [d1, d2, d3, d4] }
  | _ => none }
def LoadPartsWrongFalsely : Prop := loadPartsRow.holds Try.pinned (OpenSpec.ofChange loadPartsWrong)

/-- 'ropewalklaw.LoadLinked': WHATEVER THE INPUT: true; the input reads as it did. -/
def loadLinkedSpec : ChangeSpec := { name := "loadLinked", fn := fun _ => fun
  | [d1, d2, d3] => { results := [.lit (.bool true)], args := [d1, d2, d3] }
  | _ => none }
def loadLinkedRow : OpenClaim := { program := "ytmimeanfhdkhaaa", sum := "e531bebbf433644bedb615f6e1181b5d00f60bad62ca6dc186f477fb1a467487", func := "ropewalk/ropewalklaw.LoadLinked", spec := "loadLinked", unfollowed := true, recurses := true, plainKeys := false, apart := false }
def LoadLinkedSaid : Prop := loadLinkedRow.holds Try.pinned (OpenSpec.ofChange loadLinkedSpec)

/-- ITS FALSE NEIGHBOUR: 'it returns false'. Refute it at one input. -/
def loadLinkedWrong : ChangeSpec := { name := "loadLinked", fn := fun _ => fun
  | [d1, d2, d3] => { results := [.lit (.bool false)], args := [d1, d2, d3] }
  | _ => none }
def LoadLinkedWrongFalsely : Prop := loadLinkedRow.holds Try.pinned (OpenSpec.ofChange loadLinkedWrong)

/-- 'ropewalklaw.LinkPlaces': WHATEVER THE INPUT: true; the input reads as it did. -/
def linkPlacesSpec : ChangeSpec := { name := "linkPlaces", fn := fun _ => fun
  | [d1, d2, d3] => { results := [.lit (.bool true)], args := [d1, d2, d3] }
  | _ => none }
def linkPlacesRow : OpenClaim := { program := "ytmimeanfhdkhaaa", sum := "e531bebbf433644bedb615f6e1181b5d00f60bad62ca6dc186f477fb1a467487", func := "ropewalk/ropewalklaw.LinkPlaces", spec := "linkPlaces", unfollowed := true, recurses := true, plainKeys := false, apart := false }
def LinkPlacesSaid : Prop := linkPlacesRow.holds Try.pinned (OpenSpec.ofChange linkPlacesSpec)

/-- ITS FALSE NEIGHBOUR: 'it returns false'. Refute it at one input. -/
def linkPlacesWrong : ChangeSpec := { name := "linkPlaces", fn := fun _ => fun
  | [d1, d2, d3] => { results := [.lit (.bool false)], args := [d1, d2, d3] }
  | _ => none }
def LinkPlacesWrongFalsely : Prop := linkPlacesRow.holds Try.pinned (OpenSpec.ofChange linkPlacesWrong)

/- THE SECOND FORM. 'bulk': how many values and letters a reading holds, each counted each time it is reached (what is shared counts as often as it is met; a slice's spare places count too). A statement '..UptoSaid' is the law's where the arguments, and the package variables that the reading takes, are together of bulk at most 1048576: NARROWER than '..Said'. Prove '..Said' where nothing that the law and all that it calls make is longer than what came in: it says more and counts as full. Else prove '..UptoSaid'. A law counts once. -/
mutual
def uptoBulk {H : Type} : DataW H → Nat
  | .lit (.string bytes) => bytes.length + 1
  | .lit _ => 1
  | .nil => 1
  | .ptr d => uptoBulk d + 1
  | .slice elems spare => uptoBulkAll elems + uptoBulkAll spare + 1
  | .agg parts => uptoBulkAll parts + 1
  | .iface _ d => uptoBulk d + 1
  | .map entries => uptoBulkEntries entries + 1
  | .held _ => 1
def uptoBulkAll {H : Type} : List (DataW H) → Nat
  | [] => 0
  | d :: r => uptoBulk d + uptoBulkAll r
def uptoBulkEntries {H : Type} : List (Lit × DataW H) → Nat
  | [] => 0
  | x :: r => uptoBulkEntry x + uptoBulkEntries r
def uptoBulkEntry {H : Type} : Lit × DataW H → Nat
  | (.string bytes, d) => bytes.length + uptoBulk d + 1
  | (_, d) => uptoBulk d + 1
 end
def uptoSmall : (H : Type) → List (DataW H) → Bool := fun _ ds => decide (uptoBulkAll ds ≤ 1048576)
def OpenSpec.upto (s : _root_.Go.ChangeSpec) : _root_.Go.OpenSpec := { _root_.Go.OpenSpec.ofChange s with cond := some uptoSmall }

/-- 'ropewalklaw.LoadSays', WHERE WHAT IT READS IS OF BULK AT MOST 1048576: true; the input reads as it did. -/
def loadSaysUptoRow : OpenClaim := { program := "ytmimeanfhdkhaaa", sum := "e531bebbf433644bedb615f6e1181b5d00f60bad62ca6dc186f477fb1a467487", func := "ropewalk/ropewalklaw.LoadSays", spec := "loadSays", plainKeys := false, apart := false, narrowed := true }
def LoadSaysUptoSaid : Prop := loadSaysUptoRow.holds Try.pinned (OpenSpec.upto loadSaysSpec)

/-- 'ropewalklaw.LoadParts', WHERE WHAT IT READS IS OF BULK AT MOST 1048576: true; the input reads as it did. -/
def loadPartsUptoRow : OpenClaim := { program := "ytmimeanfhdkhaaa", sum := "e531bebbf433644bedb615f6e1181b5d00f60bad62ca6dc186f477fb1a467487", func := "ropewalk/ropewalklaw.LoadParts", spec := "loadParts", plainKeys := false, apart := false, narrowed := true }
def LoadPartsUptoSaid : Prop := loadPartsUptoRow.holds Try.pinned (OpenSpec.upto loadPartsSpec)

/-- 'ropewalklaw.LoadLinked', WHERE WHAT IT READS IS OF BULK AT MOST 1048576: true; the input reads as it did. -/
def loadLinkedUptoRow : OpenClaim := { program := "ytmimeanfhdkhaaa", sum := "e531bebbf433644bedb615f6e1181b5d00f60bad62ca6dc186f477fb1a467487", func := "ropewalk/ropewalklaw.LoadLinked", spec := "loadLinked", unfollowed := true, recurses := true, plainKeys := false, apart := false, narrowed := true }
def LoadLinkedUptoSaid : Prop := loadLinkedUptoRow.holds Try.pinned (OpenSpec.upto loadLinkedSpec)

/-- 'ropewalklaw.LinkPlaces', WHERE WHAT IT READS IS OF BULK AT MOST 1048576: true; the input reads as it did. -/
def linkPlacesUptoRow : OpenClaim := { program := "ytmimeanfhdkhaaa", sum := "e531bebbf433644bedb615f6e1181b5d00f60bad62ca6dc186f477fb1a467487", func := "ropewalk/ropewalklaw.LinkPlaces", spec := "linkPlaces", unfollowed := true, recurses := true, plainKeys := false, apart := false, narrowed := true }
def LinkPlacesUptoSaid : Prop := linkPlacesUptoRow.holds Try.pinned (OpenSpec.upto linkPlacesSpec)

end Rows
end Go.Proofs.Ytmimeanfhdkhaaa
