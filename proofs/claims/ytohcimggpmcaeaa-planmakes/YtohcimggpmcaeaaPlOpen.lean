/-
  What the reading of integers gives.
-/
import Derived.Test.YtohcimggpmcaeaaOpenS
import Derived.Test.YtohcimggpmcaeaaWeight
import Derived.Test.YtohcimggpmcaeaaInts
namespace Go.Proofs.Ytohcimggpmcaeaa
open Go.ChangeShapes Go.WideShapes Go.RowKit Go.Deep
set_option linter.unusedVariables false

theorem kIntP : Try.prog.cellsOf 3 = 1 := by kernel_rfl
theorem bIntP : Try.prog.bytesOf 3 = 8 := by kernel_rfl

section
variable {H : Type} {enc : TypeId × Value → H} {w : World} {base : Nat} {spare : Nat → Bool} {held : Bool}

theorem ints_open {n : Nat} {v : Value} {y : DataW H × List MemPlace} (h : DataW.trod enc Try.prog w base spare held n 22 [v] = some y) :
    ∃ (l : List Int) (a : Option Addr) (c : Nat), v = .slice a l.length c ∧ IntsAt w (.slice a l.length c) l := by
  obtain ⟨a, rs, c, CS, hv, hsl, hq⟩ := slice_open (0 : Int) (fun b cs => cs = [.int .i64 b]) (by decide) kIntP Try.underlying22 (fun n cs' y h => by
    obtain ⟨x, e, _, hw⟩ := DataW.trod_int Try.underlying3 h
    exact ⟨x, e⟩) h
  refine ⟨rs, a, c, hv, ?_⟩
  refine hsl.congr fun j i hj hi => ?_
  rw [(hq j hj).2]
  obtain rfl : i = 0 := by omega
  rfl

theorem ints_weight {fuel n c : Nat} {a : Option Addr} {x : DataW H × List MemPlace} (h : DataW.trod enc Try.prog w base spare held fuel 22 [.slice a n c] = some x) (hB : ∀ m ∈ x.1.weights Try.prog 22, m ≤ reachBytes) : n ≤ 17592186044000 := by
  have := (slice_weight Try.underlying22 h hB).1
  rw [bIntP] at this
  unfold reachBytes at this
  omega

end

end Go.Proofs.Ytohcimggpmcaeaa
