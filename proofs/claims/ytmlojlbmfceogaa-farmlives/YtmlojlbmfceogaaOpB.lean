/-
  What the reach of a row says of a slice: how many bytes it holds, and what its elements hold. What the reading of integers gives. What the reading of nodes and of truth values gives.
-/
import Derived.Test.YtmlojlbmfceogaaChecked
import Derived.Test.YtmlojlbmfceogaaOpA
import Derived.SizedLaws
import Derived.Test.YtmlojlbmfceogaaPlMm

namespace Go.Proofs.Ytmlojlbmfceogaa
open Go.ChangeShapes Go.WideShapes Go.RowKit Go.Deep
set_option linter.unusedVariables false

section
variable {H : Type} {enc : TypeId × Value → H} {w : World} {base : Nat} {spare : Nat → Bool} {held : Bool}

theorem weights_all {e : TypeId} {d : DataW H} : ∀ {l : List (DataW H)}, d ∈ l → ∀ m ∈ d.weights Try.prog e, m ∈ DataW.weightsAll Try.prog e l
  | x :: l, hd, m, hm => by
    simp only [DataW.weightsAll, List.mem_append]
    rcases List.mem_cons.1 hd with rfl | hd
    · exact .inl hm
    · exact .inr (weights_all hd m hm)

/-- a slice that is read within a reach: its length, and its elements -/
theorem slice_weight {t e : TypeId} {fuel n c B : Nat} {a : Option Addr} {x : DataW H × List MemPlace} (ht : Try.prog.underlying t = some (.slice e)) (h : DataW.trod enc Try.prog w base spare held fuel t [.slice a n c] = some x) (hB : ∀ m ∈ x.1.weights Try.prog t, m ≤ B) :
    n * Try.prog.bytesOf e ≤ B ∧ ∀ i, i < n → ∃ a' cs' k y, a = some a' ∧ w.cells? base (a'.add (i * Try.prog.cellsOf e)) (Try.prog.cellsOf e) = some cs' ∧ DataW.trod enc Try.prog w base spare held k e cs' = some y ∧ ∀ m ∈ y.1.weights Try.prog e, m ≤ B := by
  rcases open_slice ht h with ⟨hc, _⟩ | ⟨a', len, cap, m, k, D, Pl, hc, hb, hl, hm, hmm, rfl, hx⟩
  · cases hc
    exact ⟨by simp, fun i hi => absurd hi (Nat.not_lt_zero _)⟩
  · cases hc
    have hlm : n ≤ m := by rw [hmm]; split <;> omega
    simp only [DataW.weights, ht] at hB
    refine ⟨?_, fun i hi => ?_⟩
    · have := hB _ (List.mem_cons_self ..)
      rw [List.length_map, List.length_range] at this
      exact Nat.le_trans (Nat.mul_le_mul_right _ (Nat.le_add_right _ _)) this
    · obtain ⟨cs', h1, h2⟩ := hx i (by omega)
      refine ⟨a', cs', k, _, rfl, h1, h2, fun u hu => hB u (List.mem_cons_of_mem _ (List.mem_append_left _ (weights_all (d := D i) ?_ u hu)))⟩
      exact List.mem_map.2 ⟨i, List.mem_range.2 hi, rfl⟩

end

end Go.Proofs.Ytmlojlbmfceogaa

namespace Go.Proofs.Ytmlojlbmfceogaa
open Go.ChangeShapes Go.WideShapes Go.RowKit Go.Deep
set_option linter.unusedVariables false

theorem kIntP : Try.prog.cellsOf 3 = 1 := by kernel_rfl
theorem bIntP : Try.prog.bytesOf 3 = 8 := by kernel_rfl

section
variable {H : Type} {enc : TypeId × Value → H} {w : World} {base : Nat} {spare : Nat → Bool} {held : Bool}

theorem ints_open {n : Nat} {v : Value} {y : DataW H × List MemPlace} (h : DataW.trod enc Try.prog w base spare held n 26 [v] = some y) :
    ∃ (l : List Int) (a : Option Addr) (c : Nat), v = .slice a l.length c ∧ IntsAt w (.slice a l.length c) l := by
  obtain ⟨a, rs, c, CS, hv, hsl, hq⟩ := slice_open (0 : Int) (fun b cs => cs = [.int .i64 b]) (by decide) kIntP Try.underlying26 (fun n cs' y h => by
    obtain ⟨x, e, _, hw⟩ := DataW.trod_int Try.underlying3 h
    exact ⟨x, e⟩) h
  refine ⟨rs, a, c, hv, ?_⟩
  refine hsl.congr fun j i hj hi => ?_
  rw [(hq j hj).2]
  obtain rfl : i = 0 := by omega
  rfl

theorem ints_weight {fuel n c : Nat} {a : Option Addr} {x : DataW H × List MemPlace} (h : DataW.trod enc Try.prog w base spare held fuel 26 [.slice a n c] = some x) (hB : ∀ m ∈ x.1.weights Try.prog 26, m ≤ reachBytes) : n ≤ 17592186044000 := by
  have := (slice_weight Try.underlying26 h hB).1
  rw [bIntP] at this
  unfold reachBytes at this
  omega

end

end Go.Proofs.Ytmlojlbmfceogaa

namespace Go.Proofs.Ytmlojlbmfceogaa
open Go.ChangeShapes Go.WideShapes Go.RowKit Go.Deep
set_option linter.unusedVariables false

theorem kNodeP : Try.prog.cellsOf 39 = 3 := by kernel_rfl
theorem kBoolP : Try.prog.cellsOf 4 = 1 := by kernel_rfl

section
variable {H : Type} {enc : TypeId × Value → H} {w : World} {base : Nat} {spare : Nat → Bool} {held : Bool}

set_option maxRecDepth 100000 in
theorem node_open {n : Nat} {cs : List Value} {y : DataW H × List MemPlace} (h : DataW.trod enc Try.prog w base spare held n 39 cs = some y) :
    ∃ r : M.Nd, cs = [.int .i64 r.leaf, .int .i64 r.left, .int .i64 r.right] := by
  obtain ⟨xs, m, _, _, hl, hlen, hf⟩ := DataW.trod_struct Try.underlying39 h
  rw [kNodeP] at hl
  match cs, hl with
  | [c0, c1, c2], _ =>
    match xs, hlen with
    | [y0, y1, y2], _ =>
      have h0 := hf 0 _ rfl
      have h1 := hf 1 _ rfl
      have h2 := hf 2 _ rfl
      simp [kIntP] at h0 h1 h2
      obtain ⟨x0, e0, _, w0⟩ := DataW.trod_int Try.underlying3 h0
      obtain ⟨x1, e1, _, w1⟩ := DataW.trod_int Try.underlying3 h1
      obtain ⟨x2, e2, _, w2⟩ := DataW.trod_int Try.underlying3 h2
      cases e0; cases e1; cases e2
      exact ⟨⟨x0, x1, x2⟩, rfl⟩

theorem nodes_open {n : Nat} {v : Value} {y : DataW H × List MemPlace} (h : DataW.trod enc Try.prog w base spare held n 23 [v] = some y) :
    ∃ (l : List M.Nd) (a : Option Addr) (c : Nat), v = .slice a l.length c ∧ NodesAt w (.slice a l.length c) l := by
  obtain ⟨a, rs, c, CS, hv, hsl, hq⟩ := slice_open M.nd0 (fun r cs => cs = [.int .i64 r.leaf, .int .i64 r.left, .int .i64 r.right]) (by decide) kNodeP Try.underlying23 (fun _ _ _ h => node_open h) h
  refine ⟨rs, a, c, hv, ?_⟩
  refine hsl.congr fun j i hj hi => ?_
  rw [(hq j hj).2]
  rcases (by omega : i = 0 ∨ i = 1 ∨ i = 2) with rfl | rfl | rfl <;> rfl

theorem bools_open {n : Nat} {v : Value} {y : DataW H × List MemPlace} (h : DataW.trod enc Try.prog w base spare held n 24 [v] = some y) :
    ∃ (l : List Bool) (a : Option Addr) (c : Nat), v = .slice a l.length c ∧ BoolsAt w (.slice a l.length c) l := by
  obtain ⟨a, rs, c, CS, hv, hsl, hq⟩ := slice_open false (fun b cs => cs = [.bool b]) (by decide) kBoolP Try.underlying24 (fun n cs' y h => by
    obtain ⟨x, e, _⟩ := DataW.trod_bool Try.underlying4 h
    exact ⟨x, e⟩) h
  refine ⟨rs, a, c, hv, ?_⟩
  refine hsl.congr fun j i hj hi => ?_
  rw [(hq j hj).2]
  obtain rfl : i = 0 := by omega
  rfl

end

end Go.Proofs.Ytmlojlbmfceogaa
