/-
  The contracts of slices.EqualFunc at fragments, of obj.Same.
-/
import Derived.Test.YtcphlcoiicncpaaDoorSameFrag
import Derived.Test.YtcphlcoiicncpaaDoorCheck
namespace Go.Proofs.YtcphlcoiicncpaaDoor
open Go.RowKit Go.Shelf
set_option linter.unusedVariables false

theorem allTwo_len {α : Type} (eq : α → α → Bool) (xs ys : List α) (h : ¬ xs.length = ys.length) : M.allTwo eq xs ys = false := by
  rw [← allTwo_eq, Lib.allEq_len _ _ _ h]

theorem frgs_step {xs ys : List M.Frg} {k : Nat} (hx : k < xs.length) (hy : k < ys.length) :
    M.allTwo M.sameFrg (xs.drop k) (ys.drop k) = (M.sameFrg (xs.getD k frg0) (ys.getD k frg0) && M.allTwo M.sameFrg (xs.drop (k + 1)) (ys.drop (k + 1))) := by
  rw [drop_getD xs frg0 k hx, drop_getD ys frg0 k hy]; rfl

end Go.Proofs.YtcphlcoiicncpaaDoor
