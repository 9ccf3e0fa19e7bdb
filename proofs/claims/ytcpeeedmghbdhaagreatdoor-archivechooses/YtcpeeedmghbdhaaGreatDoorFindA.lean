/-
  The contracts of names.greatest, names.find, names.Find. The contracts of names.find and names.Find.
-/
import Derived.Test.YtcpeeedmghbdhaaGreatDoorRowsA
import Derived.Test.YtcpeeedmghbdhaaGreatDoorRowsB

namespace Go.Proofs.YtcpeeedmghbdhaaGreatDoor
open Go.RowKit
set_option linter.unusedVariables false

def dfnZA : Array Value := #[.string ⟨#[]⟩, .int .i64 0, .int .i64 0, .int .i64 0, .int .i64 0, .int .i64 0]

theorem fold_take (l : List M.Dfn) (o : M.Dfn) (k : Nat) (h : k < l.length) : (l.take (k + 1)).foldl M.grow o = M.grow ((l.take k).foldl M.grow o) (l.getD k dfn0) := by
  rw [List.take_succ_eq_append_getElem h, List.foldl_append, List.getD_eq_getElem?_getD, List.getElem?_eq_getElem h]
  rfl


end Go.Proofs.YtcpeeedmghbdhaaGreatDoor

namespace Go.Proofs.YtcpeeedmghbdhaaGreatDoor
open Go.RowKit
set_option linter.unusedVariables false

theorem getD_head (l : List M.Dfn) (h : 0 < l.length) : l.getD 0 dfn0 = l.headD M.dfnZ := by
  cases l with
  | nil => simp at h
  | cons x l => rfl

theorem kind_le (ds : List M.Dfn) (s : ByteArray) (k : Int) : (M.ofKind ds s k).length ≤ ds.length := List.length_filter_le _ _


end Go.Proofs.YtcpeeedmghbdhaaGreatDoor
