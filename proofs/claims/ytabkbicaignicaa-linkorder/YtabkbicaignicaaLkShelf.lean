/-
  The contracts of the library functions that are called, at this program: each laying is a table of numbers and one theorem, a field a fact of the program.
-/
import Derived.Shelf.Spec.SearchS
import Derived.Test.YtabkbicaignicaaProg
namespace Go.Proofs
open Go.Shelf
def Try.lays2n26_ren : Go.Shelf.Ren := ⟨fun | 26 => 78 | 33 => 95 | 34 => 96 | 38 => 105 | n => n, fun | 24 => 35 | 9 => 9 | 3 => 3 | 4 => 4 | 40 => 143 | 0 => 0 | n => n, fun | n => n⟩
theorem Try.lays2n26 : Go.Proofs.Lays2.n26 Try.prog Try.lays2n26_ren := {
  mixed := by kernel_rfl
  f26 := Try.func78.trans (congrArg some (by kernel_rfl))
  f33 := Try.func95.trans (congrArg some (by kernel_rfl))
  f34 := Try.func96.trans (congrArg some (by kernel_rfl))
  f38 := Try.func105.trans (congrArg some (by kernel_rfl))
  t0 := Try.underlying0
  a0 := Try.isAgg0
  z0 := Try.sizeOf0
  v0 := Try.zeroValue0
  t3 := Try.underlying3
  a3 := Try.isAgg3
  z3 := Try.sizeOf3
  v3 := Try.zeroValue3
  t4 := Try.underlying4
  a4 := Try.isAgg4
  z4 := Try.sizeOf4
  v4 := Try.zeroValue4
  t9 := Try.underlying9
  a9 := Try.isAgg9
  z9 := Try.sizeOf9
  v9 := Try.zeroValue9
  t24 := Try.underlying35
  a24 := Try.isAgg35
  z24 := Try.sizeOf35
  v24 := Try.zeroValue35
  t40 := Try.underlying143
  a40 := Try.isAgg143
  z40 := Try.sizeOf143
  v40 := Try.zeroValue143 }
end Go.Proofs
