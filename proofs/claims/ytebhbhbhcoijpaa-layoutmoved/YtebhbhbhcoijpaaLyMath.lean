/-
  The plain mathematics of layouts that are moved; a closed part.
-/
import Derived.Test.YtebhbhbhcoijpaaLyModel2
import Derived.Test.YtebhbhbhcoijpaaNmMath2
import Derived.WalkKit
namespace Go.Proofs.Ytebhbhbhcoijpaa.M
open Go
set_option linter.unusedVariables false

def tC : ByteArray := ⟨#[99]⟩
/-- the closed part -/
def prtL : Prt := ⟨[⟨4, 4, ⟨#[]⟩, [1], 0, []⟩, ⟨1, 1, ⟨#[]⟩, [1, 2, 3], 0, []⟩, ⟨1, 8, ⟨#[]⟩, [4], 0, []⟩], [⟨tC, 3, 0, 0, 2, 8⟩]⟩
theorem checkL : checkPart prtL = 0 := by decide +kernel
theorem findL : find prtL.defs tC = (⟨tC, 3, 0, 0, 2, 8⟩, 0) := by kernel_rfl
theorem definedL : defined prtL = [tC] := by
  unfold defined
  refine rising_eq ?_ (fun s => ?_)
  · simp [Strict]
  · simp [definedNames, prtL]
theorem comL (pos : Int) : commons prtL pos = ⟨[tC], [next pos 8], next pos 8 + 2⟩ := by
  unfold commons
  rw [definedL]
  show comStep prtL.defs ⟨[], [], pos⟩ tC = _
  unfold comStep
  rw [findL]
  rfl
theorem secL : secN prtL.frags 5 5 = ([32, 16, 24], 48) := by decide +kernel
theorem tillL : tillOf prtL 5 5 = 50 := by
  unfold tillOf
  rw [if_pos rfl, secL, comL]
  decide +kernel
theorem layL : (lay prtL 5).2 = 0 ∧ (lay prtL 5).1.frags = [32, 16, 24] ∧ (lay prtL 5).1.names = [tC] ∧ (lay prtL 5).1.coms = [48] ∧ (lay prtL 5).1.fr = frAt prtL 5 5 ∧ (lay prtL 5).1.ti = tiAt prtL 5 5 := by
  have h : lay prtL 5 = (layAll prtL 5, 0) := by
    unfold lay
    rw [if_pos checkL, if_neg (by decide), if_neg (by rw [tillL]; decide)]
  rw [h]
  refine ⟨rfl, ?_, ?_, ?_, rfl, rfl⟩
  · show (secN prtL.frags 5 5).1 = _
    rw [secL]
  · show (commons prtL (secN prtL.frags 5 5).2).names = _
    rw [comL]
  · show (commons prtL (secN prtL.frags 5 5).2).at_ = _
    rw [comL, secL]
    decide +kernel
theorem frL : frAt prtL 5 5 0 = 0 ∧ frAt prtL 5 5 1 = 16 ∧ frAt prtL 5 5 2 = 32 ∧ frAt prtL 5 5 3 = 32 ∧ frAt prtL 5 5 4 = 32 ∧ frAt prtL 5 5 5 = 48 := by decide +kernel
theorem tiL : tiAt prtL 5 5 0 = 0 ∧ tiAt prtL 5 5 1 = 25 ∧ tiAt prtL 5 5 2 = 32 ∧ tiAt prtL 5 5 3 = 32 ∧ tiAt prtL 5 5 4 = 33 ∧ tiAt prtL 5 5 5 = 50 := by
  have h5 : tiAt prtL 5 5 5 = 50 := tillL
  refine ⟨by decide +kernel, by decide +kernel, by decide +kernel, by decide +kernel, by decide +kernel, h5⟩

end Go.Proofs.Ytebhbhbhcoijpaa.M
