/-
  What the reach of a row says of a slice: how many bytes it holds, and what its elements hold. What the reading of integers gives.
-/
import Derived.Test.YtohcimggpmcaeaaChecked
import Derived.Test.YtohcimggpmcaeaaOpA
import Derived.SizedLaws
import Derived.Test.YtohcimggpmcaeaaInts

namespace Go.Proofs.Ytohcimggpmcaeaa
open Go.ChangeShapes Go.WideShapes Go.RowKit Go.Deep
set_option linter.unusedVariables false

section
variable {H : Type} {enc : TypeId × Value → H} {w : World} {base : Nat} {spare : Nat → Bool} {held : Bool}

theorem weights_all {e : TypeId} {d : DataW H} : ∀ {l : List (DataW H)}, d ∈ l → ∀ m ∈ d.weights Try.prog e, m ∈ DataW.weightsAll Try.prog e l
  | x :: l, hd, m, hm => by
    simp only [DataW.weightsAll, List.mem_append]
    rcases List.mem_cons.1 hd with rfl | hd
    · exact .inl hm
    · exact .inr (weights_all hd m hm)

/-- a slice that is read within a reach: its length, and its elements -/
theorem slice_weight {t e : TypeId} {fuel n c B : Nat} {a : Option Addr} {x : DataW H × List MemPlace} (ht : Try.prog.underlying t = some (.slice e)) (h : DataW.trod enc Try.prog w base spare held fuel t [.slice a n c] = some x) (hB : ∀ m ∈ x.1.weights Try.prog t, m ≤ B) :
    n * Try.prog.bytesOf e ≤ B ∧ ∀ i, i < n → ∃ a' cs' k y, a = some a' ∧ w.cells? base (a'.add (i * Try.prog.cellsOf e)) (Try.prog.cellsOf e) = some cs' ∧ DataW.trod enc Try.prog w base spare held k e cs' = some y ∧ ∀ m ∈ y.1.weights Try.prog e, m ≤ B := by
  rcases open_slice ht h with ⟨hc, _⟩ | ⟨a', len, cap, m, k, D, Pl, hc, hb, hl, hm, hmm, rfl, hx⟩
  · cases hc
    exact ⟨by simp, fun i hi => absurd hi (Nat.not_lt_zero _)⟩
  · cases hc
    have hlm : n ≤ m := by rw [hmm]; split <;> omega
    simp only [DataW.weights, ht] at hB
    refine ⟨?_, fun i hi => ?_⟩
    · have := hB _ (List.mem_cons_self ..)
      rw [List.length_map, List.length_range] at this
      exact Nat.le_trans (Nat.mul_le_mul_right _ (Nat.le_add_right _ _)) this
    · obtain ⟨cs', h1, h2⟩ := hx i (by omega)
      refine ⟨a', cs', k, _, rfl, h1, h2, fun u hu => hB u (List.mem_cons_of_mem _ (List.mem_append_left _ (weights_all (d := D i) ?_ u hu)))⟩
      exact List.mem_map.2 ⟨i, List.mem_range.2 hi, rfl⟩

end

end Go.Proofs.Ytohcimggpmcaeaa

namespace Go.Proofs.Ytohcimggpmcaeaa
open Go.ChangeShapes Go.WideShapes Go.RowKit Go.Deep
set_option linter.unusedVariables false

theorem kIntP : Try.prog.cellsOf 3 = 1 := by kernel_rfl
theorem bIntP : Try.prog.bytesOf 3 = 8 := by kernel_rfl

section
variable {H : Type} {enc : TypeId × Value → H} {w : World} {base : Nat} {spare : Nat → Bool} {held : Bool}

theorem ints_open {n : Nat} {v : Value} {y : DataW H × List MemPlace} (h : DataW.trod enc Try.prog w base spare held n 22 [v] = some y) :
    ∃ (l : List Int) (a : Option Addr) (c : Nat), v = .slice a l.length c ∧ IntsAt w (.slice a l.length c) l := by
  obtain ⟨a, rs, c, CS, hv, hsl, hq⟩ := slice_open (0 : Int) (fun b cs => cs = [.int .i64 b]) (by decide) kIntP Try.underlying22 (fun n cs' y h => by
    obtain ⟨x, e, _, hw⟩ := DataW.trod_int Try.underlying3 h
    exact ⟨x, e⟩) h
  refine ⟨rs, a, c, hv, ?_⟩
  refine hsl.congr fun j i hj hi => ?_
  rw [(hq j hj).2]
  obtain rfl : i = 0 := by omega
  rfl

theorem ints_weight {fuel n c : Nat} {a : Option Addr} {x : DataW H × List MemPlace} (h : DataW.trod enc Try.prog w base spare held fuel 22 [.slice a n c] = some x) (hB : ∀ m ∈ x.1.weights Try.prog 22, m ≤ reachBytes) : n ≤ 17592186044000 := by
  have := (slice_weight Try.underlying22 h hB).1
  rw [bIntP] at this
  unfold reachBytes at this
  omega

end

end Go.Proofs.Ytohcimggpmcaeaa
