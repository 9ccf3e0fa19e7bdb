/-
  The law's closed fact on a text of four lines.
-/
import Derived.Test.YtogipjjmnmahnaaDoorScrMath2
namespace Go.Proofs.YtogipjjmnmahnaaDoor
open Go Go.RowKit
set_option linter.unusedVariables false

def typedT : M.Txt := [102, 114, 97, 103, 32, 99, 111, 100, 101, 32, 49, 32, 45, 32, 48, 57, 48, 48, 48, 48, 10, 97, 116, 32, 49, 32, 97, 98, 115, 50, 32, 102, 32, 48, 10, 102, 114, 97, 103, 32, 122, 101, 114, 111, 32, 56, 32, 103, 32, 53, 10, 100, 101, 102, 32, 109, 97, 105, 110, 32, 115, 116, 114, 111, 110, 103, 32, 48, 32, 48, 10]
def typedF : List M.Frg := [⟨1, 1, M.str [], [9, 0, 0], 0, [⟨1, 2, M.str [102], 0, 0⟩]⟩, ⟨5, 8, M.str [103], [], 5, []⟩]
def typedD : List M.Dfn := [⟨M.str [109, 97, 105, 110], 1, 0, 0, 0, 0⟩]

theorem itoa0 : Lib.itoa 0 = [48] := by unfold Lib.itoa; rw [if_neg (by decide)]; rw [Lib.decDigits]; rfl
theorem itoa1 : Lib.itoa 1 = [49] := by unfold Lib.itoa; rw [if_neg (by decide)]; rw [Lib.decDigits]; rfl
theorem itoa5 : Lib.itoa 5 = [53] := by unfold Lib.itoa; rw [if_neg (by decide)]; rw [Lib.decDigits]; rfl
theorem itoa8 : Lib.itoa 8 = [56] := by unfold Lib.itoa; rw [if_neg (by decide)]; rw [Lib.decDigits]; rfl

theorem typed_print : M.print ⟨typedF, typedD⟩ = typedT := by
  simp only [M.print, M.fragsText, M.defsText, typedF, typedD, List.flatMap_cons, List.flatMap_nil, M.fragText, M.relsText, M.fragLine, M.relLine, M.defLine, M.content, M.toWord, M.defFirst, M.defSecond, itoa0, itoa1, itoa5, itoa8]
  decide +kernel

theorem typed_check : M.checkPart ⟨typedF, typedD⟩ = 0 := by decide +kernel

theorem typed_read : readAll typedT = (⟨typedF, typedD⟩, 0, 0) := by
  rw [readAll, if_neg (by decide), ← typed_print]
  exact read_print typed_check (by decide)

end Go.Proofs.YtogipjjmnmahnaaDoor
