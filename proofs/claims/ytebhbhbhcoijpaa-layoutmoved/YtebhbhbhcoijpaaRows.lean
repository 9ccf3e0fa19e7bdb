/-
  No cell of these rows narrows 'for every input' (looked for: loops, veiled, ifaces, maps, wideKeys, modest, calm, conditions, laid).
  DERIVED. THE GIVEN ROWS OF THIS SEAT. 6 by the template 'for every input the law returns true; each argument reads behind the call as it read before'; 0 by the template 'total and deterministic' (their statements: YtebhbhbhcoijpaaTotals.lean).
  GIVEN WITH THE SEED: the statements are not yours to turn. If you find one false, say at which input.
  Laid BY PROGRAM, IN A SANDBOX (cutbox-rows.mjs): the forced cells as the released guide's own fill.sh prints them over the translation ea6c7bbfec8058d5… (all of the seat's roots in one cut). By AI agents, Wed Nov 11 2026. No macro, syntax, notation, axiom, sorry.
-/
import Derived.Test.YtebhbhbhcoijpaaChecked
import GoSem.Claim
import GoSem.ClaimJoined
import GoSem.ClaimMapViews
import Derived.JoinedTies
import Derived.KernelRfl
namespace Go.Proofs.Ytebhbhbhcoijpaa
/- THE CELL 'sum', in the pinned program and in every row, IS THE sha256 OF THE DUMP (.gsa) THAT YtebhbhbhcoijpaaProg.lean LOADS. Nothing in Lean hashes anything: it is a label: what it is worth is what the hold of that sum in a sandbox is worth. -/
noncomputable def Try.pinned : Pinned := { name := "ytebhbhbhcoijpaa", sum := "ea6c7bbfec8058d5342a23673e65170c172658fdab723c7f3976762d522f4dc5", checked := Try.checked }
namespace Rows
def none {H : Type} : Left H := { results := [], args := [] }

/-- 'ropewalklaw.PartOrder': WHATEVER THE INPUT: true; the input reads as it did. -/
def partOrderSpec : ChangeSpec := { name := "partOrder", fn := fun _ => fun
  | [d1, d2, d3] => { results := [.lit (.bool true)], args := [d1, d2, d3] }
  | _ => none }
def partOrderRow : OpenClaim := { program := "ytebhbhbhcoijpaa", sum := "ea6c7bbfec8058d5342a23673e65170c172658fdab723c7f3976762d522f4dc5", func := "ropewalk/ropewalklaw.PartOrder", spec := "partOrder", unfollowed := true, recurses := true, plainKeys := false, apart := false }
def PartOrderSaid : Prop := partOrderRow.holds Try.pinned (OpenSpec.ofChange partOrderSpec)

/-- ITS FALSE NEIGHBOUR: 'it returns false'. Refute it at one input. -/
def partOrderWrong : ChangeSpec := { name := "partOrder", fn := fun _ => fun
  | [d1, d2, d3] => { results := [.lit (.bool false)], args := [d1, d2, d3] }
  | _ => none }
def PartOrderWrongFalsely : Prop := partOrderRow.holds Try.pinned (OpenSpec.ofChange partOrderWrong)

/-- 'ropewalklaw.PartGroups': WHATEVER THE INPUT: true; the input reads as it did. -/
def partGroupsSpec : ChangeSpec := { name := "partGroups", fn := fun _ => fun
  | [d1, d2] => { results := [.lit (.bool true)], args := [d1, d2] }
  | _ => none }
def partGroupsRow : OpenClaim := { program := "ytebhbhbhcoijpaa", sum := "ea6c7bbfec8058d5342a23673e65170c172658fdab723c7f3976762d522f4dc5", func := "ropewalk/ropewalklaw.PartGroups", spec := "partGroups", unfollowed := true, recurses := true, plainKeys := false, apart := false }
def PartGroupsSaid : Prop := partGroupsRow.holds Try.pinned (OpenSpec.ofChange partGroupsSpec)

/-- ITS FALSE NEIGHBOUR: 'it returns false'. Refute it at one input. -/
def partGroupsWrong : ChangeSpec := { name := "partGroups", fn := fun _ => fun
  | [d1, d2] => { results := [.lit (.bool false)], args := [d1, d2] }
  | _ => none }
def PartGroupsWrongFalsely : Prop := partGroupsRow.holds Try.pinned (OpenSpec.ofChange partGroupsWrong)

/-- 'ropewalklaw.NamesSets': WHATEVER THE INPUT: true; the input reads as it did. -/
def namesSetsSpec : ChangeSpec := { name := "namesSets", fn := fun _ => fun
  | [d1, d2] => { results := [.lit (.bool true)], args := [d1, d2] }
  | _ => none }
def namesSetsRow : OpenClaim := { program := "ytebhbhbhcoijpaa", sum := "ea6c7bbfec8058d5342a23673e65170c172658fdab723c7f3976762d522f4dc5", func := "ropewalk/ropewalklaw.NamesSets", spec := "namesSets", unfollowed := true, recurses := true, plainKeys := false, apart := false }
def NamesSetsSaid : Prop := namesSetsRow.holds Try.pinned (OpenSpec.ofChange namesSetsSpec)

/-- ITS FALSE NEIGHBOUR: 'it returns false'. Refute it at one input. -/
def namesSetsWrong : ChangeSpec := { name := "namesSets", fn := fun _ => fun
  | [d1, d2] => { results := [.lit (.bool false)], args := [d1, d2] }
  | _ => none }
def NamesSetsWrongFalsely : Prop := namesSetsRow.holds Try.pinned (OpenSpec.ofChange namesSetsWrong)

/-- 'ropewalklaw.LayoutMoved': WHATEVER THE INPUT: true; the input reads as it did. -/
def layoutMovedSpec : ChangeSpec := { name := "layoutMoved", fn := fun _ => fun
  | [d1, d2, d3] => { results := [.lit (.bool true)], args := [d1, d2, d3] }
  | _ => none }
def layoutMovedRow : OpenClaim := { program := "ytebhbhbhcoijpaa", sum := "ea6c7bbfec8058d5342a23673e65170c172658fdab723c7f3976762d522f4dc5", func := "ropewalk/ropewalklaw.LayoutMoved", spec := "layoutMoved", unfollowed := true, recurses := true, plainKeys := false, apart := false }
def LayoutMovedSaid : Prop := layoutMovedRow.holds Try.pinned (OpenSpec.ofChange layoutMovedSpec)

/-- ITS FALSE NEIGHBOUR: 'it returns false'. Refute it at one input. -/
def layoutMovedWrong : ChangeSpec := { name := "layoutMoved", fn := fun _ => fun
  | [d1, d2, d3] => { results := [.lit (.bool false)], args := [d1, d2, d3] }
  | _ => none }
def LayoutMovedWrongFalsely : Prop := layoutMovedRow.holds Try.pinned (OpenSpec.ofChange layoutMovedWrong)

/-- 'ropewalklaw.ArchiveEnds': WHATEVER THE INPUT: true; the input reads as it did. -/
def archiveEndsSpec : ChangeSpec := { name := "archiveEnds", fn := fun _ => fun
  | [d1, d2, d3] => { results := [.lit (.bool true)], args := [d1, d2, d3] }
  | _ => none }
def archiveEndsRow : OpenClaim := { program := "ytebhbhbhcoijpaa", sum := "ea6c7bbfec8058d5342a23673e65170c172658fdab723c7f3976762d522f4dc5", func := "ropewalk/ropewalklaw.ArchiveEnds", spec := "archiveEnds", unfollowed := true, recurses := true, plainKeys := false, apart := false }
def ArchiveEndsSaid : Prop := archiveEndsRow.holds Try.pinned (OpenSpec.ofChange archiveEndsSpec)

/-- ITS FALSE NEIGHBOUR: 'it returns false'. Refute it at one input. -/
def archiveEndsWrong : ChangeSpec := { name := "archiveEnds", fn := fun _ => fun
  | [d1, d2, d3] => { results := [.lit (.bool false)], args := [d1, d2, d3] }
  | _ => none }
def ArchiveEndsWrongFalsely : Prop := archiveEndsRow.holds Try.pinned (OpenSpec.ofChange archiveEndsWrong)

/-- 'ropewalklaw.ArchivePlain': WHATEVER THE INPUT: true; the input reads as it did. -/
def archivePlainSpec : ChangeSpec := { name := "archivePlain", fn := fun _ => fun
  | [d1, d2, d3] => { results := [.lit (.bool true)], args := [d1, d2, d3] }
  | _ => none }
def archivePlainRow : OpenClaim := { program := "ytebhbhbhcoijpaa", sum := "ea6c7bbfec8058d5342a23673e65170c172658fdab723c7f3976762d522f4dc5", func := "ropewalk/ropewalklaw.ArchivePlain", spec := "archivePlain", unfollowed := true, recurses := true, plainKeys := false, apart := false }
def ArchivePlainSaid : Prop := archivePlainRow.holds Try.pinned (OpenSpec.ofChange archivePlainSpec)

/-- ITS FALSE NEIGHBOUR: 'it returns false'. Refute it at one input. -/
def archivePlainWrong : ChangeSpec := { name := "archivePlain", fn := fun _ => fun
  | [d1, d2, d3] => { results := [.lit (.bool false)], args := [d1, d2, d3] }
  | _ => none }
def ArchivePlainWrongFalsely : Prop := archivePlainRow.holds Try.pinned (OpenSpec.ofChange archivePlainWrong)

/- THE SECOND FORM. 'bulk': how many values and letters a reading holds, each counted each time it is reached (what is shared counts as often as it is met; a slice's spare places count too). A statement '..UptoSaid' is the law's where the arguments, and the package variables that the reading takes, are together of bulk at most 1048576: NARROWER than '..Said'. Prove '..Said' where nothing that the law and all that it calls make is longer than what came in: it says more and counts as full. Else prove '..UptoSaid'. A law counts once. -/
mutual
def uptoBulk {H : Type} : DataW H → Nat
  | .lit (.string bytes) => bytes.length + 1
  | .lit _ => 1
  | .nil => 1
  | .ptr d => uptoBulk d + 1
  | .slice elems spare => uptoBulkAll elems + uptoBulkAll spare + 1
  | .agg parts => uptoBulkAll parts + 1
  | .iface _ d => uptoBulk d + 1
  | .map entries => uptoBulkEntries entries + 1
  | .held _ => 1
def uptoBulkAll {H : Type} : List (DataW H) → Nat
  | [] => 0
  | d :: r => uptoBulk d + uptoBulkAll r
def uptoBulkEntries {H : Type} : List (Lit × DataW H) → Nat
  | [] => 0
  | x :: r => uptoBulkEntry x + uptoBulkEntries r
def uptoBulkEntry {H : Type} : Lit × DataW H → Nat
  | (.string bytes, d) => bytes.length + uptoBulk d + 1
  | (_, d) => uptoBulk d + 1
 end
def uptoSmall : (H : Type) → List (DataW H) → Bool := fun _ ds => decide (uptoBulkAll ds ≤ 1048576)
def OpenSpec.upto (s : _root_.Go.ChangeSpec) : _root_.Go.OpenSpec := { _root_.Go.OpenSpec.ofChange s with cond := some uptoSmall }

/-- 'ropewalklaw.PartOrder', WHERE WHAT IT READS IS OF BULK AT MOST 1048576: true; the input reads as it did. -/
def partOrderUptoRow : OpenClaim := { program := "ytebhbhbhcoijpaa", sum := "ea6c7bbfec8058d5342a23673e65170c172658fdab723c7f3976762d522f4dc5", func := "ropewalk/ropewalklaw.PartOrder", spec := "partOrder", unfollowed := true, recurses := true, plainKeys := false, apart := false, narrowed := true }
def PartOrderUptoSaid : Prop := partOrderUptoRow.holds Try.pinned (OpenSpec.upto partOrderSpec)

/-- 'ropewalklaw.PartGroups', WHERE WHAT IT READS IS OF BULK AT MOST 1048576: true; the input reads as it did. -/
def partGroupsUptoRow : OpenClaim := { program := "ytebhbhbhcoijpaa", sum := "ea6c7bbfec8058d5342a23673e65170c172658fdab723c7f3976762d522f4dc5", func := "ropewalk/ropewalklaw.PartGroups", spec := "partGroups", unfollowed := true, recurses := true, plainKeys := false, apart := false, narrowed := true }
def PartGroupsUptoSaid : Prop := partGroupsUptoRow.holds Try.pinned (OpenSpec.upto partGroupsSpec)

/-- 'ropewalklaw.NamesSets', WHERE WHAT IT READS IS OF BULK AT MOST 1048576: true; the input reads as it did. -/
def namesSetsUptoRow : OpenClaim := { program := "ytebhbhbhcoijpaa", sum := "ea6c7bbfec8058d5342a23673e65170c172658fdab723c7f3976762d522f4dc5", func := "ropewalk/ropewalklaw.NamesSets", spec := "namesSets", unfollowed := true, recurses := true, plainKeys := false, apart := false, narrowed := true }
def NamesSetsUptoSaid : Prop := namesSetsUptoRow.holds Try.pinned (OpenSpec.upto namesSetsSpec)

/-- 'ropewalklaw.LayoutMoved', WHERE WHAT IT READS IS OF BULK AT MOST 1048576: true; the input reads as it did. -/
def layoutMovedUptoRow : OpenClaim := { program := "ytebhbhbhcoijpaa", sum := "ea6c7bbfec8058d5342a23673e65170c172658fdab723c7f3976762d522f4dc5", func := "ropewalk/ropewalklaw.LayoutMoved", spec := "layoutMoved", unfollowed := true, recurses := true, plainKeys := false, apart := false, narrowed := true }
def LayoutMovedUptoSaid : Prop := layoutMovedUptoRow.holds Try.pinned (OpenSpec.upto layoutMovedSpec)

/-- 'ropewalklaw.ArchiveEnds', WHERE WHAT IT READS IS OF BULK AT MOST 1048576: true; the input reads as it did. -/
def archiveEndsUptoRow : OpenClaim := { program := "ytebhbhbhcoijpaa", sum := "ea6c7bbfec8058d5342a23673e65170c172658fdab723c7f3976762d522f4dc5", func := "ropewalk/ropewalklaw.ArchiveEnds", spec := "archiveEnds", unfollowed := true, recurses := true, plainKeys := false, apart := false, narrowed := true }
def ArchiveEndsUptoSaid : Prop := archiveEndsUptoRow.holds Try.pinned (OpenSpec.upto archiveEndsSpec)

/-- 'ropewalklaw.ArchivePlain', WHERE WHAT IT READS IS OF BULK AT MOST 1048576: true; the input reads as it did. -/
def archivePlainUptoRow : OpenClaim := { program := "ytebhbhbhcoijpaa", sum := "ea6c7bbfec8058d5342a23673e65170c172658fdab723c7f3976762d522f4dc5", func := "ropewalk/ropewalklaw.ArchivePlain", spec := "archivePlain", unfollowed := true, recurses := true, plainKeys := false, apart := false, narrowed := true }
def ArchivePlainUptoSaid : Prop := archivePlainUptoRow.holds Try.pinned (OpenSpec.upto archivePlainSpec)

end Rows
end Go.Proofs.Ytebhbhbhcoijpaa
