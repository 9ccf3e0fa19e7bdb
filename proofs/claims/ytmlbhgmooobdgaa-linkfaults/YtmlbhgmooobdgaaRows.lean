/-
  No cell of these rows narrows 'for every input' (looked for: loops, veiled, ifaces, maps, wideKeys, modest, calm, conditions, laid).
  DERIVED. THE GIVEN ROWS OF THIS SEAT. 3 by the template 'for every input the law returns true; each argument reads behind the call as it read before'; 0 by the template 'total and deterministic' (their statements: YtmlbhgmooobdgaaTotals.lean).
  GIVEN WITH THE SEED: the statements are not yours to turn. If you find one false, say at which input.
  Laid BY PROGRAM, IN A SANDBOX (cutbox-rows.mjs): the forced cells as the released guide's own fill.sh prints them over the translation 9f0c754c6e17dca2… (all of the seat's roots in one cut). By AI agents, Wed Nov 11 2026. No macro, syntax, notation, axiom, sorry.
-/
import Derived.Test.YtmlbhgmooobdgaaChecked
import GoSem.Claim
import GoSem.ClaimJoined
import GoSem.ClaimMapViews
import Derived.JoinedTies
import Derived.KernelRfl
namespace Go.Proofs.Ytmlbhgmooobdgaa
/- THE CELL 'sum', in the pinned program and in every row, IS THE sha256 OF THE DUMP (.gsa) THAT YtmlbhgmooobdgaaProg.lean LOADS. Nothing in Lean hashes anything: it is a label: what it is worth is what the hold of that sum in a sandbox is worth. -/
noncomputable def Try.pinned : Pinned := { name := "ytmlbhgmooobdgaa", sum := "9f0c754c6e17dca2f41482f82033d5117ad91604b2e6512979792a2262b4b7b2", checked := Try.checked }
namespace Rows
def none {H : Type} : Left H := { results := [], args := [] }

/-- 'ropewalklaw.LinkOrder': WHATEVER THE INPUT: true; the input reads as it did. -/
def linkOrderSpec : ChangeSpec := { name := "linkOrder", fn := fun _ => fun
  | [d1, d2, d3, d4, d5] => { results := [.lit (.bool true)], args := [d1, d2, d3, d4, d5] }
  | _ => none }
def linkOrderRow : OpenClaim := { program := "ytmlbhgmooobdgaa", sum := "9f0c754c6e17dca2f41482f82033d5117ad91604b2e6512979792a2262b4b7b2", func := "ropewalk/ropewalklaw.LinkOrder", spec := "linkOrder", unfollowed := true, recurses := true, plainKeys := false, apart := false }
def LinkOrderSaid : Prop := linkOrderRow.holds Try.pinned (OpenSpec.ofChange linkOrderSpec)

/-- ITS FALSE NEIGHBOUR: 'it returns false'. Refute it at one input. -/
def linkOrderWrong : ChangeSpec := { name := "linkOrder", fn := fun _ => fun
  | [d1, d2, d3, d4, d5] => { results := [.lit (.bool false)], args := [d1, d2, d3, d4, d5] }
  | _ => none }
def LinkOrderWrongFalsely : Prop := linkOrderRow.holds Try.pinned (OpenSpec.ofChange linkOrderWrong)

/-- 'ropewalklaw.LinkFaults': WHATEVER THE INPUT: true; the input reads as it did. -/
def linkFaultsSpec : ChangeSpec := { name := "linkFaults", fn := fun _ => fun
  | [d1, d2, d3] => { results := [.lit (.bool true)], args := [d1, d2, d3] }
  | _ => none }
def linkFaultsRow : OpenClaim := { program := "ytmlbhgmooobdgaa", sum := "9f0c754c6e17dca2f41482f82033d5117ad91604b2e6512979792a2262b4b7b2", func := "ropewalk/ropewalklaw.LinkFaults", spec := "linkFaults", unfollowed := true, recurses := true, plainKeys := false, apart := false }
def LinkFaultsSaid : Prop := linkFaultsRow.holds Try.pinned (OpenSpec.ofChange linkFaultsSpec)

/-- ITS FALSE NEIGHBOUR: 'it returns false'. Refute it at one input. -/
def linkFaultsWrong : ChangeSpec := { name := "linkFaults", fn := fun _ => fun
  | [d1, d2, d3] => { results := [.lit (.bool false)], args := [d1, d2, d3] }
  | _ => none }
def LinkFaultsWrongFalsely : Prop := linkFaultsRow.holds Try.pinned (OpenSpec.ofChange linkFaultsWrong)

/-- 'ropewalklaw.LinkMoved': WHATEVER THE INPUT: true; the input reads as it did. -/
def linkMovedSpec : ChangeSpec := { name := "linkMoved", fn := fun _ => fun
  | [d1, d2, d3] => { results := [.lit (.bool true)], args := [d1, d2, d3] }
  | _ => none }
def linkMovedRow : OpenClaim := { program := "ytmlbhgmooobdgaa", sum := "9f0c754c6e17dca2f41482f82033d5117ad91604b2e6512979792a2262b4b7b2", func := "ropewalk/ropewalklaw.LinkMoved", spec := "linkMoved", unfollowed := true, recurses := true, plainKeys := false, apart := false }
def LinkMovedSaid : Prop := linkMovedRow.holds Try.pinned (OpenSpec.ofChange linkMovedSpec)

/-- ITS FALSE NEIGHBOUR: 'it returns false'. Refute it at one input. -/
def linkMovedWrong : ChangeSpec := { name := "linkMoved", fn := fun _ => fun
  | [d1, d2, d3] => { results := [.lit (.bool false)], args := [d1, d2, d3] }
  | _ => none }
def LinkMovedWrongFalsely : Prop := linkMovedRow.holds Try.pinned (OpenSpec.ofChange linkMovedWrong)

/- THE SECOND FORM. 'bulk': how many values and letters a reading holds, each counted each time it is reached (what is shared counts as often as it is met; a slice's spare places count too). A statement '..UptoSaid' is the law's where the arguments, and the package variables that the reading takes, are together of bulk at most 1048576: NARROWER than '..Said'. Prove '..Said' where nothing that the law and all that it calls make is longer than what came in: it says more and counts as full. Else prove '..UptoSaid'. A law counts once. -/
mutual
def uptoBulk {H : Type} : DataW H → Nat
  | .lit (.string bytes) => bytes.length + 1
  | .lit _ => 1
  | .nil => 1
  | .ptr d => uptoBulk d + 1
  | .slice elems spare => uptoBulkAll elems + uptoBulkAll spare + 1
  | .agg parts => uptoBulkAll parts + 1
  | .iface _ d => uptoBulk d + 1
  | .map entries => uptoBulkEntries entries + 1
  | .held _ => 1
def uptoBulkAll {H : Type} : List (DataW H) → Nat
  | [] => 0
  | d :: r => uptoBulk d + uptoBulkAll r
def uptoBulkEntries {H : Type} : List (Lit × DataW H) → Nat
  | [] => 0
  | x :: r => uptoBulkEntry x + uptoBulkEntries r
def uptoBulkEntry {H : Type} : Lit × DataW H → Nat
  | (.string bytes, d) => bytes.length + uptoBulk d + 1
  | (_, d) => uptoBulk d + 1
 end
def uptoSmall : (H : Type) → List (DataW H) → Bool := fun _ ds => decide (uptoBulkAll ds ≤ 1048576)
def OpenSpec.upto (s : _root_.Go.ChangeSpec) : _root_.Go.OpenSpec := { _root_.Go.OpenSpec.ofChange s with cond := some uptoSmall }

/-- 'ropewalklaw.LinkOrder', WHERE WHAT IT READS IS OF BULK AT MOST 1048576: true; the input reads as it did. -/
def linkOrderUptoRow : OpenClaim := { program := "ytmlbhgmooobdgaa", sum := "9f0c754c6e17dca2f41482f82033d5117ad91604b2e6512979792a2262b4b7b2", func := "ropewalk/ropewalklaw.LinkOrder", spec := "linkOrder", unfollowed := true, recurses := true, plainKeys := false, apart := false, narrowed := true }
def LinkOrderUptoSaid : Prop := linkOrderUptoRow.holds Try.pinned (OpenSpec.upto linkOrderSpec)

/-- 'ropewalklaw.LinkFaults', WHERE WHAT IT READS IS OF BULK AT MOST 1048576: true; the input reads as it did. -/
def linkFaultsUptoRow : OpenClaim := { program := "ytmlbhgmooobdgaa", sum := "9f0c754c6e17dca2f41482f82033d5117ad91604b2e6512979792a2262b4b7b2", func := "ropewalk/ropewalklaw.LinkFaults", spec := "linkFaults", unfollowed := true, recurses := true, plainKeys := false, apart := false, narrowed := true }
def LinkFaultsUptoSaid : Prop := linkFaultsUptoRow.holds Try.pinned (OpenSpec.upto linkFaultsSpec)

/-- 'ropewalklaw.LinkMoved', WHERE WHAT IT READS IS OF BULK AT MOST 1048576: true; the input reads as it did. -/
def linkMovedUptoRow : OpenClaim := { program := "ytmlbhgmooobdgaa", sum := "9f0c754c6e17dca2f41482f82033d5117ad91604b2e6512979792a2262b4b7b2", func := "ropewalk/ropewalklaw.LinkMoved", spec := "linkMoved", unfollowed := true, recurses := true, plainKeys := false, apart := false, narrowed := true }
def LinkMovedUptoSaid : Prop := linkMovedUptoRow.holds Try.pinned (OpenSpec.upto linkMovedSpec)

end Rows
end Go.Proofs.Ytmlbhgmooobdgaa
