/-
  What the reading of a farm and of a happening gives.
-/
import Derived.Test.YtmlojlbmfceogaaOpA
import Derived.Test.YtmlojlbmfceogaaOpB
import Derived.Test.YtmlojlbmfceogaaFmMM
namespace Go.Proofs.Ytmlojlbmfceogaa
open Go.ChangeShapes Go.WideShapes Go.ChangeAt Go.RowKit
set_option linter.unusedVariables false

theorem kGrant : Try.prog.cellsOf 78 = 2 := by kernel_rfl
theorem kMsg : Try.prog.cellsOf 65 = 5 := by kernel_rfl
theorem kFarm : Try.prog.cellsOf 29 = 8 := by kernel_rfl
theorem kHap : Try.prog.cellsOf 31 = 3 := by kernel_rfl
theorem kParts : Try.prog.cellsOf 22 = 1 := by kernel_rfl
theorem kNodes : Try.prog.cellsOf 23 = 1 := by kernel_rfl
theorem kBools : Try.prog.cellsOf 24 = 1 := by kernel_rfl
theorem kGrants : Try.prog.cellsOf 25 = 1 := by kernel_rfl
theorem kInts : Try.prog.cellsOf 26 = 1 := by kernel_rfl
theorem kNet : Try.prog.cellsOf 27 = 1 := by kernel_rfl

section
variable {H : Type} {enc : TypeId × Value → H} {w : World} {base : Nat} {spare : Nat → Bool} {held : Bool}

set_option maxRecDepth 100000 in
theorem grant_open {n : Nat} {cs : List Value} {y : DataW H × List MemPlace} (h : DataW.trod enc Try.prog w base spare held n 78 cs = some y) :
    ∃ r : M.Grt, cs = [.int .i64 r.worker, .int .i64 r.till] := by
  obtain ⟨xs, m, _, _, hl, hlen, hf⟩ := DataW.trod_struct Try.underlying78 h
  rw [kGrant] at hl
  match cs, hl with
  | [c0, c1], _ =>
    match xs, hlen with
    | [y0, y1], _ =>
      have h0 := hf 0 _ rfl
      have h1 := hf 1 _ rfl
      simp [kIntP] at h0 h1
      obtain ⟨x0, e0, _, w0⟩ := DataW.trod_int Try.underlying3 h0
      obtain ⟨x1, e1, _, w1⟩ := DataW.trod_int Try.underlying3 h1
      cases e0; cases e1
      exact ⟨⟨x0, x1⟩, rfl⟩

theorem grants_open {n : Nat} {v : Value} {y : DataW H × List MemPlace} (h : DataW.trod enc Try.prog w base spare held n 25 [v] = some y) :
    ∃ (l : List M.Grt) (a : Option Addr) (c : Nat), v = .slice a l.length c ∧ GrantsAt w (.slice a l.length c) l := by
  obtain ⟨a, rs, c, CS, hv, hsl, hq⟩ := slice_open M.grt0 (fun r cs => cs = [.int .i64 r.worker, .int .i64 r.till]) (by decide) kGrant Try.underlying25 (fun _ _ _ h => grant_open h) h
  refine ⟨rs, a, c, hv, ?_⟩
  refine SlAt.congr hsl fun j i hj hi => ?_
  rw [(hq j hj).2]
  rcases (by omega : i = 0 ∨ i = 1) with rfl | rfl <;> rfl

set_option maxRecDepth 100000 in
theorem msg_open {n : Nat} {cs : List Value} {y : DataW H × List MemPlace} (h : DataW.trod enc Try.prog w base spare held n 65 cs = some y) :
    ∃ s : M.Msg, MsgAt w (fun i => cs.getD i undef) s := by
  obtain ⟨xs, m, _, _, hl, hlen, hf⟩ := DataW.trod_struct Try.underlying65 h
  rw [kMsg] at hl
  match cs, hl with
  | [c0, c1, c2, c3, c4], _ =>
    match xs, hlen with
    | [y0, y1, y2, y3], _ =>
      have h0 := hf 0 _ rfl
      have h1 := hf 1 _ rfl
      have h2 := hf 2 _ rfl
      have h3 := hf 3 _ rfl
      simp [kIntP, kPart] at h0 h1 h2 h3
      obtain ⟨x0, e0, _, _⟩ := DataW.trod_int Try.underlying3 h0
      obtain ⟨x1, e1, _, _⟩ := DataW.trod_int Try.underlying3 h1
      obtain ⟨x2, e2, _, _⟩ := DataW.trod_int Try.underlying3 h2
      obtain ⟨p, hF, hD⟩ := part_open h3
      cases e0; cases e1; cases e2
      exact ⟨⟨x0, x1, x2, p⟩, rfl, rfl, rfl, hF, hD⟩

theorem net_open {n : Nat} {v : Value} {y : DataW H × List MemPlace} (h : DataW.trod enc Try.prog w base spare held n 27 [v] = some y) :
    ∃ (l : List M.Msg) (a : Option Addr) (c : Nat), v = .slice a l.length c ∧ NetAt w (.slice a l.length c) l := by
  obtain ⟨a, l, c, CS, hv, hsl, hq⟩ := slice_open M.msg0 (fun s cs => MsgAt w (fun i => cs.getD i undef) s) (by decide) kMsg Try.underlying27 (fun _ _ _ h => msg_open h) h
  exact ⟨l, a, c, hv, _, hsl, fun j hj => (hq j hj).2⟩

set_option maxRecDepth 100000 in
theorem farm_open {r : Reach} {b0 : Nat} {v : Value} {d : DataW H} {p : List MemPlace} (hv : Value.okWide Try.prog w r b0 29 v) (h : DataW.Trod enc Try.prog w base spare held 29 v d p) :
    ∃ (f : M.Farm) (x : Fd), v = .agg #[.slice x.p f.parts.length x.pc, .slice x.l f.plan.length x.lc, .int .i64 f.now, .slice x.d f.done.length x.dc, .slice x.h f.got.length x.hc, .slice x.g f.grants.length x.gc, .slice x.k f.work.length x.kc, .slice x.n f.net.length x.nc] ∧ FarmAt w f x := by
  obtain ⟨cs, rfl, _⟩ := okWide_struct Try.underlying29 hv
  obtain ⟨fuel, h⟩ := h
  simp only [Value.cells] at h
  obtain ⟨xs, m, _, _, hl, hlen, hf⟩ := DataW.trod_struct Try.underlying29 h
  rw [kFarm] at hl
  obtain ⟨cs⟩ := cs
  simp only at hl hf
  match cs, hl with
  | [c0, c1, c2, c3, c4, c5, c6, c7], _ =>
    match xs, hlen with
    | [y0, y1, y2, y3, y4, y5, y6, y7], _ =>
      have h0 := hf 0 _ rfl
      have h1 := hf 1 _ rfl
      have h2 := hf 2 _ rfl
      have h3 := hf 3 _ rfl
      have h4 := hf 4 _ rfl
      have h5 := hf 5 _ rfl
      have h6 := hf 6 _ rfl
      have h7 := hf 7 _ rfl
      simp [kIntP, kParts, kNodes, kBools, kGrants, kInts, kNet] at h0 h1 h2 h3 h4 h5 h6 h7
      obtain ⟨l0, a0, d0, rfl, q0⟩ := parts_open h0
      obtain ⟨l1, a1, d1, rfl, q1⟩ := nodes_open h1
      obtain ⟨x2, e2, _, _⟩ := DataW.trod_int Try.underlying3 h2
      obtain ⟨l3, a3, d3, rfl, q3⟩ := bools_open h3
      obtain ⟨l4, a4, d4, rfl, q4⟩ := parts_open h4
      obtain ⟨l5, a5, d5, rfl, q5⟩ := grants_open h5
      obtain ⟨l6, a6, d6, rfl, q6⟩ := ints_open h6
      obtain ⟨l7, a7, d7, rfl, q7⟩ := net_open h7
      cases e2
      exact ⟨⟨l0, l1, x2, l3, l4, l5, l6, l7⟩, ⟨a0, d0, a1, d1, a3, d3, a4, d4, a5, d5, a6, d6, a7, d7⟩, rfl, q0, q1, q3, q4, q5, q6, q7⟩

set_option maxRecDepth 100000 in
theorem hap_open {r : Reach} {b0 : Nat} {v : Value} {d : DataW H} {p : List MemPlace} (hv : Value.okWide Try.prog w r b0 31 v) (h : DataW.Trod enc Try.prog w base spare held 31 v d p) :
    ∃ (x : M.Hap), v = .agg #[.int .i64 x.kind, .int .i64 x.worker, .int .i64 x.k] := by
  obtain ⟨cs, rfl, _⟩ := okWide_struct Try.underlying31 hv
  obtain ⟨fuel, h⟩ := h
  simp only [Value.cells] at h
  obtain ⟨xs, m, _, _, hl, hlen, hf⟩ := DataW.trod_struct Try.underlying31 h
  rw [kHap] at hl
  obtain ⟨cs⟩ := cs
  simp only at hl hf
  match cs, hl with
  | [c0, c1, c2], _ =>
    match xs, hlen with
    | [y0, y1, y2], _ =>
      have h0 := hf 0 _ rfl
      have h1 := hf 1 _ rfl
      have h2 := hf 2 _ rfl
      simp [kIntP] at h0 h1 h2
      obtain ⟨x0, e0, _, _⟩ := DataW.trod_int Try.underlying3 h0
      obtain ⟨x1, e1, _, _⟩ := DataW.trod_int Try.underlying3 h1
      obtain ⟨x2, e2, _, _⟩ := DataW.trod_int Try.underlying3 h2
      cases e0; cases e1; cases e2
      exact ⟨⟨x0, x1, x2⟩, rfl⟩

end

end Go.Proofs.Ytmlojlbmfceogaa
