/-
  What the reading of a part gives: the part, and where it lies.
-/
import Derived.Test.YtebhbhbhcoijpaaChecked
import Derived.Test.YtebhbhbhcoijpaaMem
import Derived.Test.YtebhbhbhcoijpaaOpenS
import Derived.Test.YtebhbhbhcoijpaaSame
import Derived.ProofKit
import Derived.OpenShut
import Derived.Deep.Slices
import Derived.Lib.SmallJoins
namespace Go.Proofs.Ytebhbhbhcoijpaa
open Go.ChangeShapes Go.WideShapes Go.RowKit Go.Deep
set_option linter.unusedVariables false

theorem kInt : Try.prog.cellsOf 3 = 1 := by kernel_rfl
theorem kStr : Try.prog.cellsOf 9 = 1 := by kernel_rfl
theorem kByte : Try.prog.cellsOf 5 = 1 := by kernel_rfl
theorem kBytes : Try.prog.cellsOf 40 = 1 := by kernel_rfl
theorem kRels : Try.prog.cellsOf 41 = 1 := by kernel_rfl
theorem kRel : Try.prog.cellsOf 121 = 5 := by kernel_rfl
theorem kDef : Try.prog.cellsOf 69 = 6 := by kernel_rfl
theorem kFrag : Try.prog.cellsOf 43 = 6 := by kernel_rfl
theorem kPart : Try.prog.cellsOf 25 = 2 := by kernel_rfl

section
variable {H : Type} {enc : TypeId × Value → H} {w : World} {base : Nat} {spare : Nat → Bool} {held : Bool}

set_option maxRecDepth 100000 in
theorem rel_open {n : Nat} {cs : List Value} {y : DataW H × List MemPlace} (h : DataW.trod enc Try.prog w base spare held n 121 cs = some y) :
    ∃ r : M.Rel, (r.name.size ≤ maxLen ∧ (Lit.int .i64 r.kind).wf = true) ∧ cs = encRel r := by
  obtain ⟨xs, m, _, _, hl, hlen, hf⟩ := DataW.trod_struct Try.underlying121 h
  rw [kRel] at hl
  match cs, hl with
  | [c0, c1, c2, c3, c4], _ =>
    match xs, hlen with
    | [y0, y1, y2, y3, y4], _ =>
      have h0 := hf 0 _ rfl
      have h1 := hf 1 _ rfl
      have h2 := hf 2 _ rfl
      have h3 := hf 3 _ rfl
      have h4 := hf 4 _ rfl
      simp [kInt, kStr] at h0 h1 h2 h3 h4
      obtain ⟨x0, e0, _, w0⟩ := DataW.trod_int Try.underlying3 h0
      obtain ⟨x1, e1, _, w1⟩ := DataW.trod_int Try.underlying3 h1
      obtain ⟨x2, e2, _, w2⟩ := DataW.trod_string Try.underlying9 h2
      obtain ⟨x3, e3, _, w3⟩ := DataW.trod_int Try.underlying3 h3
      obtain ⟨x4, e4, _, w4⟩ := DataW.trod_int Try.underlying3 h4
      cases e0; cases e1; cases e2; cases e3; cases e4
      exact ⟨⟨x0, x1, x2, x3, x4⟩, ⟨w2, w1⟩, rfl⟩

set_option maxRecDepth 100000 in
theorem def_open {n : Nat} {cs : List Value} {y : DataW H × List MemPlace} (h : DataW.trod enc Try.prog w base spare held n 69 cs = some y) :
    ∃ r : M.Dfn, r.name.size ≤ maxLen ∧ cs = encDfn r := by
  obtain ⟨xs, m, _, _, hl, hlen, hf⟩ := DataW.trod_struct Try.underlying69 h
  rw [kDef] at hl
  match cs, hl with
  | [c0, c1, c2, c3, c4, c5], _ =>
    match xs, hlen with
    | [y0, y1, y2, y3, y4, y5], _ =>
      have h0 := hf 0 _ rfl
      have h1 := hf 1 _ rfl
      have h2 := hf 2 _ rfl
      have h3 := hf 3 _ rfl
      have h4 := hf 4 _ rfl
      have h5 := hf 5 _ rfl
      simp [kInt, kStr] at h0 h1 h2 h3 h4 h5
      obtain ⟨x0, e0, _, w0⟩ := DataW.trod_string Try.underlying9 h0
      obtain ⟨x1, e1, _, w1⟩ := DataW.trod_int Try.underlying3 h1
      obtain ⟨x2, e2, _, w2⟩ := DataW.trod_int Try.underlying3 h2
      obtain ⟨x3, e3, _, w3⟩ := DataW.trod_int Try.underlying3 h3
      obtain ⟨x4, e4, _, w4⟩ := DataW.trod_int Try.underlying3 h4
      obtain ⟨x5, e5, _, w5⟩ := DataW.trod_int Try.underlying3 h5
      cases e0; cases e1; cases e2; cases e3; cases e4; cases e5
      exact ⟨⟨x0, x1, x2, x3, x4, x5⟩, w0, rfl⟩

theorem rels_open {n : Nat} {v : Value} {y : DataW H × List MemPlace} (h : DataW.trod enc Try.prog w base spare held n 41 [v] = some y) :
    ∃ (rs : List M.Rel) (a : Option Addr) (c : Nat), v = .slice a rs.length c ∧ RelsAt w (.slice a rs.length c) rs := by
  obtain ⟨a, rs, c, CS, hv, hsl, hq⟩ := slice_open rel0 (fun r cs => (r.name.size ≤ maxLen ∧ (Lit.int .i64 r.kind).wf = true) ∧ cs = encRel r) (by decide) kRel Try.underlying41 (fun _ _ _ h => rel_open h) h
  refine ⟨rs, a, c, hv, ?_, fun r hr => ?_⟩
  · refine hsl.congr fun j i hj hi => ?_
    rw [(hq j hj).2.2]
    rcases (by omega : i = 0 ∨ i = 1 ∨ i = 2 ∨ i = 3 ∨ i = 4) with rfl | rfl | rfl | rfl | rfl <;> rfl
  · obtain ⟨j, hj, rfl⟩ := List.getElem_of_mem hr
    have := (hq j hj).2.1
    rwa [List.getD_eq_getElem?_getD, List.getElem?_eq_getElem hj] at this

theorem defs_open {n : Nat} {v : Value} {y : DataW H × List MemPlace} (h : DataW.trod enc Try.prog w base spare held n 23 [v] = some y) :
    ∃ (rs : List M.Dfn) (a : Option Addr) (c : Nat), v = .slice a rs.length c ∧ DefsAt w (.slice a rs.length c) rs := by
  obtain ⟨a, rs, c, CS, hv, hsl, hq⟩ := slice_open dfn0 (fun r cs => r.name.size ≤ maxLen ∧ cs = encDfn r) (by decide) kDef Try.underlying23 (fun _ _ _ h => def_open h) h
  refine ⟨rs, a, c, hv, ?_, fun r hr => ?_⟩
  · refine hsl.congr fun j i hj hi => ?_
    rw [(hq j hj).2.2]
    rcases (by omega : i = 0 ∨ i = 1 ∨ i = 2 ∨ i = 3 ∨ i = 4 ∨ i = 5) with rfl | rfl | rfl | rfl | rfl | rfl <;> rfl
  · obtain ⟨j, hj, rfl⟩ := List.getElem_of_mem hr
    have := (hq j hj).2.1
    rwa [List.getD_eq_getElem?_getD, List.getElem?_eq_getElem hj] at this

theorem bytes_open {n : Nat} {v : Value} {y : DataW H × List MemPlace} (h : DataW.trod enc Try.prog w base spare held n 40 [v] = some y) :
    ∃ (bs : List Int) (a : Option Addr) (c : Nat), v = .slice a bs.length c ∧ BytesAt w (.slice a bs.length c) bs := by
  obtain ⟨a, rs, c, CS, hv, hsl, hq⟩ := slice_open (0 : Int) (fun b cs => (0 ≤ b ∧ b < 256) ∧ cs = [.int .u8 b]) (by decide) kByte Try.underlying40 (fun n cs' y h => by
    obtain ⟨x, e, _, hw⟩ := DataW.trod_int Try.underlying5 h
    have hb := bounds_u8 hw
    exact ⟨x, ⟨hb.1, by omega⟩, e⟩) h
  refine ⟨rs, a, c, hv, ?_, fun r hr => ?_⟩
  · refine hsl.congr fun j i hj hi => ?_
    rw [(hq j hj).2.2]
    obtain rfl : i = 0 := by omega
    rfl
  · obtain ⟨j, hj, rfl⟩ := List.getElem_of_mem hr
    have := (hq j hj).2.1
    rwa [List.getD_eq_getElem?_getD, List.getElem?_eq_getElem hj] at this

set_option maxRecDepth 100000 in
theorem frag_open {n : Nat} {cs : List Value} {y : DataW H × List MemPlace} (h : DataW.trod enc Try.prog w base spare held n 43 cs = some y) :
    ∃ f : M.Frg, FrgAt w (fun j => cs.getD j undef) f := by
  obtain ⟨xs, m, _, _, hl, hlen, hf⟩ := DataW.trod_struct Try.underlying43 h
  rw [kFrag] at hl
  match cs, hl with
  | [c0, c1, c2, c3, c4, c5], _ =>
    match xs, hlen with
    | [y0, y1, y2, y3, y4, y5], _ =>
      have h0 := hf 0 _ rfl
      have h1 := hf 1 _ rfl
      have h2 := hf 2 _ rfl
      have h3 := hf 3 _ rfl
      have h4 := hf 4 _ rfl
      have h5 := hf 5 _ rfl
      simp [kInt, kStr, kBytes, kRels] at h0 h1 h2 h3 h4 h5
      obtain ⟨x0, e0, _, w0⟩ := DataW.trod_int Try.underlying3 h0
      obtain ⟨x1, e1, _, w1⟩ := DataW.trod_int Try.underlying3 h1
      obtain ⟨x2, e2, _, w2⟩ := DataW.trod_string Try.underlying9 h2
      obtain ⟨bs, ab, cb, rfl, hB⟩ := bytes_open h3
      obtain ⟨x4, e4, _, w4⟩ := DataW.trod_int Try.underlying3 h4
      obtain ⟨rs, ar, cr, rfl, hR⟩ := rels_open h5
      cases e0; cases e1; cases e2; cases e4
      exact ⟨⟨x0, x1, x2, bs, x4, rs⟩, rfl, rfl, rfl, hB, rfl, hR, w2⟩

theorem frags_open {n : Nat} {v : Value} {y : DataW H × List MemPlace} (h : DataW.trod enc Try.prog w base spare held n 22 [v] = some y) :
    ∃ (fs : List M.Frg) (a : Option Addr) (c : Nat), v = .slice a fs.length c ∧ FragsAt w (.slice a fs.length c) fs := by
  obtain ⟨a, fs, c, CS, hv, hsl, hq⟩ := slice_open frg0 (fun f cs => FrgAt w (fun j => cs.getD j undef) f) (by decide) kFrag Try.underlying22 (fun _ _ _ h => frag_open h) h
  exact ⟨fs, a, c, hv, _, hsl, fun j hj => (hq j hj).2⟩

end

end Go.Proofs.Ytebhbhbhcoijpaa
