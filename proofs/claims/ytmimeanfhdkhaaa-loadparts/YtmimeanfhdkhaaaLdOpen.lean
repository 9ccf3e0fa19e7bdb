/-
  What the reading of an image gives.
-/
import Derived.Test.YtmimeanfhdkhaaaOpen
import Derived.Test.YtmimeanfhdkhaaaLdMem
namespace Go.Proofs.Ytmimeanfhdkhaaa
open Go.ChangeShapes Go.WideShapes Go.ChangeAt Go.RowKit
set_option linter.unusedVariables false

theorem kSeg : Try.prog.cellsOf 36 = 5 := by kernel_rfl
theorem kBoolS : Try.prog.cellsOf 4 = 1 := by kernel_rfl
theorem kImg : Try.prog.cellsOf 24 = 2 := by kernel_rfl

set_option maxRecDepth 100000 in
theorem seg_open {H : Type} {enc : TypeId × Value → H} {w : World} {base : Nat} {spare : Nat → Bool} {held : Bool} {n : Nat} {cs : List Value} {y : DataW H × List MemPlace} (h : DataW.trod enc Try.prog w base spare held n 36 cs = some y) :
    ∃ s : M.Seg, SegAt w (fun i => cs.getD i undef) s := by
  obtain ⟨xs, m, _, _, hl, hlen, hf⟩ := DataW.trod_struct Try.underlying36 h
  rw [kSeg] at hl
  match cs, hl with
  | [c0, c1, c2, c3, c4], _ =>
    match xs, hlen with
    | [y0, y1, y2, y3, y4], _ =>
      have h0 := hf 0 _ rfl
      have h1 := hf 1 _ rfl
      have h2 := hf 2 _ rfl
      have h3 := hf 3 _ rfl
      have h4 := hf 4 _ rfl
      simp [kBoolS, kInt, kBytes] at h0 h1 h2 h3 h4
      obtain ⟨x0, e0, _, _⟩ := DataW.trod_int Try.underlying3 h0
      obtain ⟨bs, a, c, rfl, hB⟩ := bytes_open h1
      obtain ⟨x2, e2, _, _⟩ := DataW.trod_int Try.underlying3 h2
      obtain ⟨b3, e3, _⟩ := DataW.trod_bool Try.underlying4 h3
      obtain ⟨b4, e4, _⟩ := DataW.trod_bool Try.underlying4 h4
      cases e0; cases e2; cases e3; cases e4
      exact ⟨⟨x0, bs, x2, b3, b4⟩, rfl, hB, rfl, rfl, rfl⟩

theorem segs_open {H : Type} {enc : TypeId × Value → H} {w : World} {base : Nat} {spare : Nat → Bool} {held : Bool} {n : Nat} {v : Value} {y : DataW H × List MemPlace} (h : DataW.trod enc Try.prog w base spare held n 22 [v] = some y) :
    ∃ (l : List M.Seg) (a : Option Addr) (c : Nat), v = .slice a l.length c ∧ SegsAt w (.slice a l.length c) l := by
  obtain ⟨a, l, c, CS, hv, hsl, hq⟩ := slice_open M.seg0 (fun s cs => SegAt w (fun i => cs.getD i undef) s) (by decide) kSeg Try.underlying22 (fun _ _ _ h => seg_open h) h
  exact ⟨l, a, c, hv, _, hsl, fun j hj => (hq j hj).2⟩

end Go.Proofs.Ytmimeanfhdkhaaa
