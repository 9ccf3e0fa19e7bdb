/-
  What the reading of bytes gives: the bytes, and where they lie.
-/
import Derived.Test.YtebhbhbhcoijpabChecked
import Derived.Test.YtebhbhbhcoijpabMem
import Derived.Test.YtebhbhbhcoijpabOpenS
import Derived.ProofKit
import Derived.OpenShut
import Derived.Deep.Slices
import Derived.Lib.SmallJoins
namespace Go.Proofs.Ytebhbhbhcoijpab
open Go.ChangeShapes Go.WideShapes Go.RowKit Go.Deep
set_option linter.unusedVariables false

theorem kByte : Try.prog.cellsOf 5 = 1 := by kernel_rfl

section
variable {H : Type} {enc : TypeId × Value → H} {w : World} {base : Nat} {spare : Nat → Bool} {held : Bool}

theorem bytes_open {n : Nat} {v : Value} {y : DataW H × List MemPlace} (h : DataW.trod enc Try.prog w base spare held n 22 [v] = some y) :
    ∃ (bs : List Int) (a : Option Addr) (c : Nat), v = .slice a bs.length c ∧ BytesAt w (.slice a bs.length c) bs := by
  obtain ⟨a, rs, c, CS, hv, hsl, hq⟩ := slice_open (0 : Int) (fun b cs => (0 ≤ b ∧ b < 256) ∧ cs = [.int .u8 b]) (by decide) kByte Try.underlying22 (fun n cs' y h => by
    obtain ⟨x, e, _, hw⟩ := DataW.trod_int Try.underlying5 h
    have hb := bounds_u8 hw
    exact ⟨x, ⟨hb.1, by omega⟩, e⟩) h
  refine ⟨rs, a, c, hv, ?_, fun r hr => ?_⟩
  · refine hsl.congr fun j i hj hi => ?_
    rw [(hq j hj).2.2]
    obtain rfl : i = 0 := by omega
    rfl
  · obtain ⟨j, hj, rfl⟩ := List.getElem_of_mem hr
    have := (hq j hj).2.1
    rwa [List.getD_eq_getElem?_getD, List.getElem?_eq_getElem hj] at this

end

end Go.Proofs.Ytebhbhbhcoijpab
