/-
  What the reading of parts and of texts gives.
-/
import Derived.Test.YtohcimggpmcaeaaOpA
import Derived.Test.YtohcimggpmcaeaaPrtAll
import Derived.Test.YtohcimggpmcaeaaMemA
namespace Go.Proofs.Ytohcimggpmcaeaa
open Go.ChangeShapes Go.WideShapes Go.ChangeAt Go.RowKit
set_option linter.unusedVariables false

theorem kFs : Try.prog.cellsOf 42 = 1 := by kernel_rfl
theorem kDs : Try.prog.cellsOf 43 = 1 := by kernel_rfl

set_option maxRecDepth 100000 in
theorem part_open {H : Type} {enc : TypeId × Value → H} {w : World} {base : Nat} {spare : Nat → Bool} {held : Bool} {n : Nat} {cs : List Value} {y : DataW H × List MemPlace} (h : DataW.trod enc Try.prog w base spare held n 45 cs = some y) :
    ∃ p : M.Prt, FragsAt w (cs.getD 0 undef) p.frags ∧ DefsAt w (cs.getD 1 undef) p.defs := by
  obtain ⟨xs, m, _, _, hl, hlen, hf⟩ := DataW.trod_struct Try.underlying45 h
  rw [kPart] at hl
  match cs, hl with
  | [c0, c1], _ =>
    match xs, hlen with
    | [y0, y1], _ =>
      have h0 := hf 0 _ rfl
      have h1 := hf 1 _ rfl
      simp [kFs, kDs] at h0 h1
      obtain ⟨fs, a1, c1, rfl, hF⟩ := frags_open h0
      obtain ⟨ds, a2, c2, rfl, hD⟩ := defs_open h1
      exact ⟨⟨fs, ds⟩, hF, hD⟩

theorem parts_open {H : Type} {enc : TypeId × Value → H} {w : World} {base : Nat} {spare : Nat → Bool} {held : Bool} {n : Nat} {v : Value} {y : DataW H × List MemPlace} (h : DataW.trod enc Try.prog w base spare held n 39 [v] = some y) :
    ∃ (ps : List M.Prt) (a : Option Addr) (c : Nat), v = .slice a ps.length c ∧ PartsAt w (.slice a ps.length c) ps := by
  obtain ⟨a, ps, c, CS, hv, hsl, hq⟩ := slice_open M.nil (fun p cs => FragsAt w (cs.getD 0 undef) p.frags ∧ DefsAt w (cs.getD 1 undef) p.defs) (by decide) kPart Try.underlying39 (fun _ _ _ h => part_open h) h
  exact ⟨ps, a, c, hv, _, hsl, fun j hj => (hq j hj).2⟩

theorem strs_open {H : Type} {enc : TypeId × Value → H} {w : World} {base : Nat} {spare : Nat → Bool} {held : Bool} {n : Nat} {v : Value} {y : DataW H × List MemPlace} (h : DataW.trod enc Try.prog w base spare held n 82 [v] = some y) :
    ∃ (l : List ByteArray) (a : Option Addr) (c : Nat), v = .slice a l.length c ∧ StrsAt w (.slice a l.length c) l := by
  obtain ⟨a, rs, c, CS, hv, hsl, hq⟩ := slice_open str0 (fun b cs => b.size ≤ maxLen ∧ cs = [.string b]) (by decide) kStr Try.underlying82 (fun n cs' y h => by
    obtain ⟨x, e, _, hw⟩ := DataW.trod_string Try.underlying9 h
    exact ⟨x, hw, e⟩) h
  refine ⟨rs, a, c, hv, ?_, fun r hr => ?_⟩
  · refine hsl.congr fun j i hj hi => ?_
    rw [(hq j hj).2.2]
    obtain rfl : i = 0 := by omega
    rfl
  · obtain ⟨j, hj, rfl⟩ := List.getElem_of_mem hr
    have := (hq j hj).2.1
    rwa [List.getD_eq_getElem?_getD, List.getElem?_eq_getElem hj] at this

/-- a slice's length lies within its capacity -/
theorem cap_open {H : Type} {enc : TypeId × Value → H} {w : World} {base : Nat} {spare : Nat → Bool} {held : Bool} {n : Nat} {a : Option Addr} {l c : Nat} {y : DataW H × List MemPlace} (h : DataW.trod enc Try.prog w base spare held n 39 [.slice a l c] = some y) : l ≤ c := by
  rcases Go.Deep.open_slice Try.underlying39 h with ⟨hc, _⟩ | ⟨a, len, cap, m, n, D, Pl, hc, _, hl, _⟩
  · simp only [List.cons.injEq, Value.slice.injEq, and_true] at hc
    omega
  · simp only [List.cons.injEq, Value.slice.injEq, and_true] at hc
    omega

end Go.Proofs.Ytohcimggpmcaeaa
