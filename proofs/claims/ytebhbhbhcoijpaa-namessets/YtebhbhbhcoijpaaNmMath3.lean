/-
  What two parts want and define, joined, by names each once; a closed part; what is lacking is in order and not defined.
-/
import Derived.Test.YtebhbhbhcoijpaaNmMath2
import Derived.WalkKit
namespace Go.Proofs.Ytebhbhbhcoijpaa.M
open Go

theorem wanted_both (a b : Prt) (l : List ByteArray) : rising (wanted a ++ wanted (drop b l)) = wanted (put a l b) := by
  unfold wanted
  rw [rising_rising, wanted_put]

theorem defined_both (a b : Prt) (l : List ByteArray) (hb : Ok b) : rising (defined a ++ defined (drop b l)) = defined (put a l b) := by
  unfold defined
  rw [rising_rising, defined_put a b l hb]

theorem lacking_strict (p : Prt) : Strict (lacking p) := filter_strict (rising_strict _) _

theorem lacking_not (p : Prt) (s : ByteArray) (h : s ∈ lacking p) : has (defined p) s = false := by
  have := (List.mem_filter.1 h).2
  simpa using this

theorem faults_eq (p : Prt) : faults p = (rising (wantedNames p.frags ++ definedNames p.defs)).filterMap (faultAt p.defs) := by
  unfold faults wanted defined
  rw [rising_rising]

def tX : ByteArray := ⟨#[120]⟩
def tY : ByteArray := ⟨#[121]⟩
/-- the closed part -/
def prtF : Prt := ⟨[⟨4, 1, ⟨#[]⟩, [1, 2], 0, []⟩], [⟨tX, 2, 0, 1, 0, 0⟩, ⟨tX, 3, 0, 0, 4, 2⟩, ⟨tY, 1, 0, 0, 0, 0⟩, ⟨tY, 1, 0, 2, 0, 0⟩, ⟨tX, 3, 0, 0, 3, 8⟩]⟩

theorem checkF : checkPart prtF = 0 := by decide +kernel
theorem findX : find prtF.defs tX = (⟨tX, 3, 0, 0, 4, 8⟩, 0) := by kernel_rfl
theorem findY : (find prtF.defs tY).2 = 6 := by decide +kernel
theorem risingF : rising (wantedNames prtF.frags ++ definedNames prtF.defs) = [tX, tY] := by
  refine rising_eq ?_ (fun s => ?_)
  · simp only [Strict, List.pairwise_cons, List.mem_singleton, forall_eq]
    exact ⟨by decide, by simp⟩
  · simp only [wantedNames, wantedOf, definedNames, prtF, List.flatMap_cons, List.flatMap_nil, List.filter_nil, List.map_nil, List.append_nil, List.nil_append, List.map_cons, List.mem_cons, List.not_mem_nil, or_false]
    constructor
    · rintro (h | h | h | h | h) <;> first | exact .inl h | exact .inr h
    · rintro (h | h)
      · exact .inl h
      · exact .inr (.inr (.inl h))
theorem faultsF : faults prtF = [(6, tY)] := by
  rw [faults_eq, risingF]
  have h1 : faultAt prtF.defs tX = none := by unfold faultAt; rw [findX]; rfl
  have h2 : faultAt prtF.defs tY = some (6, tY) := by unfold faultAt; rw [findY]; rfl
  rw [List.filterMap_cons, h1, List.filterMap_cons, h2]
  rfl

end Go.Proofs.Ytebhbhbhcoijpaa.M
