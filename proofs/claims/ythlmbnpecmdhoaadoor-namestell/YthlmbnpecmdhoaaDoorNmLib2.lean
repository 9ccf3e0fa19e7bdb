/-
  The contracts of slices.Concat of two rows of texts, of slices.IsSorted, slices.ContainsFunc and slices.DeleteFunc at texts.
-/
import Derived.Test.YthlmbnpecmdhoaaDoorNmLib
namespace Go.Proofs.YthlmbnpecmdhoaaDoor
open Go Go.RowKit Go.Sort
set_option linter.unusedVariables false

def upTo (xs ys : List ByteArray) (k : Nat) : List ByteArray := if k = 0 then [] else if k = 1 then xs else xs ++ ys

theorem strs_src {w : World} {v : Value} {l : List ByteArray} (h : StrsAt w v l) : Src w v l.length (l.map Value.string) :=
  h.1.src (by decide) _ (by simp) (fun j i hj hi => by
    obtain rfl : i = 0 := by omega
    rw [Nat.mul_one, Nat.add_zero, List.getElem?_map, getElem?_getD l str0 j hj]; rfl)

theorem strs_one (l : List ByteArray) : ∀ u ∈ l.map Value.string, u.oneCell' = true := fun u hu => by
  obtain ⟨b, _, rfl⟩ := List.mem_map.1 hu
  rfl

end Go.Proofs.YthlmbnpecmdhoaaDoor
