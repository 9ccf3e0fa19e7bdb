/-
  The contracts of the library functions that are called, at this program: each laying is a table of numbers and one theorem, a field a fact of the program.
-/
import Derived.Shelf.Spec.SearchS
import Derived.Test.YtmimeanfhdkhaaaProg
namespace Go.Proofs
open Go.Shelf
def Try.lays2n26_ren : Go.Shelf.Ren := ⟨fun | 26 => 68 | 33 => 84 | 34 => 85 | 38 => 94 | n => n, fun | 24 => 50 | 9 => 9 | 3 => 3 | 4 => 4 | 40 => 137 | 0 => 0 | n => n, fun | n => n⟩
theorem Try.lays2n26 : Go.Proofs.Lays2.n26 Try.prog Try.lays2n26_ren := {
  mixed := by kernel_rfl
  f26 := Try.func68.trans (congrArg some (by kernel_rfl))
  f33 := Try.func84.trans (congrArg some (by kernel_rfl))
  f34 := Try.func85.trans (congrArg some (by kernel_rfl))
  f38 := Try.func94.trans (congrArg some (by kernel_rfl))
  t0 := Try.underlying0
  a0 := Try.isAgg0
  z0 := Try.sizeOf0
  v0 := Try.zeroValue0
  t3 := Try.underlying3
  a3 := Try.isAgg3
  z3 := Try.sizeOf3
  v3 := Try.zeroValue3
  t4 := Try.underlying4
  a4 := Try.isAgg4
  z4 := Try.sizeOf4
  v4 := Try.zeroValue4
  t9 := Try.underlying9
  a9 := Try.isAgg9
  z9 := Try.sizeOf9
  v9 := Try.zeroValue9
  t24 := Try.underlying50
  a24 := Try.isAgg50
  z24 := Try.sizeOf50
  v24 := Try.zeroValue50
  t40 := Try.underlying137
  a40 := Try.isAgg137
  z40 := Try.sizeOf137
  v40 := Try.zeroValue137 }
end Go.Proofs
