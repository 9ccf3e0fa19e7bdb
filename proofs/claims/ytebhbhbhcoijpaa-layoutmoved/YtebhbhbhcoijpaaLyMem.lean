/-
  What layout.Lay has in memory.
-/
import Derived.Test.YtebhbhbhcoijpaaLyCommons
import Derived.Test.YtebhbhbhcoijpaaLyModel2
import Derived.Test.YtebhbhbhcoijpaaInts
namespace Go.Proofs.Ytebhbhbhcoijpaa
open Go Go.RowKit
set_option linter.unusedVariables false

theorem strs_nil (w : World) : StrsAt w (.slice none 0 0) [] := ⟨⟨none, 0, rfl, Nat.zero_le _, .inl rfl⟩, fun s hs => by cases hs⟩

/-- a layout's cells -/
def layArr (vF vN vC : Value) (f t : Nat → Int) : Array Value := #[vF, vN, vC, .int .i64 (f 0), .int .i64 (f 1), .int .i64 (f 2), .int .i64 (f 3), .int .i64 (f 4), .int .i64 (f 5), .int .i64 (t 0), .int .i64 (t 1), .int .i64 (t 2), .int .i64 (t 3), .int .i64 (t 4), .int .i64 (t 5)]
def layZ : Array Value := #[.slice none 0 0, .slice none 0 0, .slice none 0 0, .int .i64 0, .int .i64 0, .int .i64 0, .int .i64 0, .int .i64 0, .int .i64 0, .int .i64 0, .int .i64 0, .int .i64 0, .int .i64 0, .int .i64 0, .int .i64 0]

/-- what Lay has in memory -/
structure YI (w W : World) (a1 a2 : Option Addr) (c1 c2 : Nat) (p : M.Prt) (g b : Nat) (adr : List Int) (vN vC : Value) (f t : Nat → Int) : Prop where
  part : W.heap[w.heap.size]? = some (.cells #[.slice a1 p.frags.length c1, .slice a2 p.defs.length c2] 25 (0, 0))
  res : W.heap[w.heap.size + 1]? = some (.cells layZ 55 (0, 0))
  blk : W.heap[b]? = some (.cells (layArr (.slice (some ⟨g, 0, none⟩) p.frags.length p.frags.length) vN vC f t) 55 (0, 0))
  row : W.ownsRow (w.heap.size + 1 + 1) 3 1 (.slice (some ⟨g, 0, none⟩) p.frags.length p.frags.length) p.frags.length (adr.map (Value.int .i64))
  below : Below w.heap.size w W
  high : w.heap.size + 1 < b

theorem row_high {w : World} {B e k n g c : Nat} {xs : List Value} (h : w.ownsRow B e k (.slice (some ⟨g, 0, none⟩) n c) n xs) : B ≤ g ∧ g < w.heap.size := h.lt g rfl

theorem row_type {w : World} {B e k n g c : Nat} {xs : List Value} (h : w.ownsRow B e k (.slice (some ⟨g, 0, none⟩) n c) n xs) {b : Nat} {cs : Array Value} {t : TypeId} {fr : Nat × Nat} (hb : w.heap[b]? = some (.cells cs t fr)) (hne : e ≠ t) : b ≠ g := by
  intro e2
  subst e2
  rcases own_ne h hb hne with h1 | h1
  · cases h1
  · exact h1 rfl

theorem YI.later {w W X : World} {a1 a2 : Option Addr} {c1 c2 : Nat} {p : M.Prt} {g b : Nat} {adr : List Int} {vN vC : Value} {f t : Nat → Int} (h : YI w W a1 a2 c1 c2 p g b adr vN vC f t) (hb : Below W.heap.size W X) : YI w X a1 a2 c1 c2 p g b adr vN vC f t :=
  ⟨(hb.block _ (Array.getElem?_eq_some_iff.1 h.part).1).trans h.part, (hb.block _ (Array.getElem?_eq_some_iff.1 h.res).1).trans h.res, (hb.block _ (Array.getElem?_eq_some_iff.1 h.blk).1).trans h.blk, h.row.kept (grown_of_below hb none) own_self, h.below.trans (hb.mono h.below.size), h.high⟩

/-- the addresses are written -/
theorem YI.call {w W X : World} {a1 a2 : Option Addr} {c1 c2 : Nat} {p : M.Prt} {g b : Nat} {adr adr' : List Int} {vN vC : Value} {f t : Nat → Int} (h : YI w W a1 a2 c1 c2 p g b adr vN vC f t) (hg : W.grownBy X (some g))
    (hr : X.ownsRow (w.heap.size + 1 + 1) 3 1 (.slice (some ⟨g, 0, none⟩) p.frags.length p.frags.length) p.frags.length (adr'.map (Value.int .i64))) : YI w X a1 a2 c1 c2 p g b adr' vN vC f t := by
  have hgg := row_high h.row
  refine ⟨(hg.block _ (Array.getElem?_eq_some_iff.1 h.part).1 (by intro e; have := Option.some.inj e; omega)).trans h.part, (hg.block _ (Array.getElem?_eq_some_iff.1 h.res).1 (by intro e; have := Option.some.inj e; omega)).trans h.res,
    (hg.block _ (Array.getElem?_eq_some_iff.1 h.blk).1 (by intro e; exact row_type h.row h.blk (by decide) (Option.some.inj e))).trans h.blk, hr, h.below.grown hg h.below.size (fun k hk => by have := Option.some.inj hk; omega), h.high⟩

/-- a cell of the layout is written -/
theorem YI.put {w W : World} {a1 a2 : Option Addr} {c1 c2 : Nat} {p : M.Prt} {g b : Nat} {adr : List Int} {vN vC : Value} {f t : Nat → Int} (h : YI w W a1 a2 c1 c2 p g b adr vN vC f t) (i : Nat) (u : Value) (vN' vC' : Value) (f' t' : Nat → Int)
    (hs : (layArr (.slice (some ⟨g, 0, none⟩) p.frags.length p.frags.length) vN vC f t).setIfInBounds i u = layArr (.slice (some ⟨g, 0, none⟩) p.frags.length p.frags.length) vN' vC' f' t') : YI w (W.setCell ⟨b, i, none⟩ u) a1 a2 c1 c2 p g b adr vN' vC' f' t' := by
  have hh := h.high
  refine ⟨(Below.heap_setCell _ _ _ _ (by show w.heap.size ≠ b; omega)).trans h.part, (Below.heap_setCell _ _ _ _ (by show w.heap.size + 1 ≠ b; omega)).trans h.res, ?_, ?_, h.below.setCell (by show w.heap.size ≤ b; omega) _, h.high⟩
  · rw [← hs]
    exact heap_setCell_same W b i _ _ u h.blk
  · exact ownsRow_setCell_other h.row (fun e => row_type h.row h.blk (by decide) (Option.some.inj e).symm) u

end Go.Proofs.Ytebhbhbhcoijpaa
