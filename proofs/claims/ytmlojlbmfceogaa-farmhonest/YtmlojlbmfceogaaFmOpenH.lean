/-
  What the reading of happenings gives.
-/
import Derived.Test.YtmlojlbmfceogaaFmOpen
import Derived.Test.YtmlojlbmfceogaaFmRun
namespace Go.Proofs.Ytmlojlbmfceogaa
open Go.ChangeShapes Go.WideShapes Go.ChangeAt Go.RowKit
set_option linter.unusedVariables false

section
variable {H : Type} {enc : TypeId × Value → H} {w : World} {base : Nat} {spare : Nat → Bool} {held : Bool}

set_option maxRecDepth 100000 in
theorem hapc_open {n : Nat} {cs : List Value} {y : DataW H × List MemPlace} (h : DataW.trod enc Try.prog w base spare held n 31 cs = some y) :
    ∃ r : M.Hap, cs = [.int .i64 r.kind, .int .i64 r.worker, .int .i64 r.k] := by
  obtain ⟨xs, m, _, _, hl, hlen, hf⟩ := DataW.trod_struct Try.underlying31 h
  rw [kHap] at hl
  match cs, hl with
  | [c0, c1, c2], _ =>
    match xs, hlen with
    | [y0, y1, y2], _ =>
      have h0 := hf 0 _ rfl
      have h1 := hf 1 _ rfl
      have h2 := hf 2 _ rfl
      simp [kIntP] at h0 h1 h2
      obtain ⟨x0, e0, _, _⟩ := DataW.trod_int Try.underlying3 h0
      obtain ⟨x1, e1, _, _⟩ := DataW.trod_int Try.underlying3 h1
      obtain ⟨x2, e2, _, _⟩ := DataW.trod_int Try.underlying3 h2
      cases e0; cases e1; cases e2
      exact ⟨⟨x0, x1, x2⟩, rfl⟩

theorem haps_open {n : Nat} {v : Value} {y : DataW H × List MemPlace} (h : DataW.trod enc Try.prog w base spare held n 47 [v] = some y) :
    ∃ (l : List M.Hap) (a : Option Addr) (c : Nat), v = .slice a l.length c ∧ HapsAt w (.slice a l.length c) l := by
  obtain ⟨a, rs, c, CS, hv, hsl, hq⟩ := slice_open hap0 (fun r cs => cs = [.int .i64 r.kind, .int .i64 r.worker, .int .i64 r.k]) (by decide) kHap Try.underlying47 (fun _ _ _ h => hapc_open h) h
  refine ⟨rs, a, c, hv, ?_⟩
  refine SlAt.congr hsl fun j i hj hi => ?_
  rw [(hq j hj).2]
  rcases (by omega : i = 0 ∨ i = 1 ∨ i = 2) with rfl | rfl | rfl <;> rfl

end

end Go.Proofs.Ytmlojlbmfceogaa
