/-
  The contracts of the library functions that are called, at this program: each laying is a table of numbers and one theorem, a field a fact of the program.
-/
import Derived.Shelf.SlicesQ.Equal
import Derived.Test.YtmlojlbmfceogaaProg
namespace Go.Proofs
open Go.Shelf
def Try.eqGrant_ren : Go.Shelf.Ren := ⟨fun | 8 => 46 | n => n, fun | 22 => 25 | 24 => 78 | 4 => 4 | 3 => 3 | 0 => 0 | n => n, fun | n => n⟩
theorem Try.eqGrant : Go.Proofs.SlLaysQ.n8 Try.prog Try.eqGrant_ren := {
  mixed := by kernel_rfl
  f8 := ⟨Try.f46.name, by decide, Try.func46.trans (congrArg some (by kernel_rfl))⟩
  t0 := Try.underlying0
  a0 := Try.isAgg0
  z0 := Try.sizeOf0
  v0 := Try.zeroValue0
  t3 := Try.underlying3
  a3 := Try.isAgg3
  z3 := Try.sizeOf3
  v3 := Try.zeroValue3
  t4 := Try.underlying4
  a4 := Try.isAgg4
  z4 := Try.sizeOf4
  v4 := Try.zeroValue4
  t22 := Try.underlying25
  a22 := Try.isAgg25
  z22 := Try.sizeOf25
  v22 := Try.zeroValue25 }
end Go.Proofs
