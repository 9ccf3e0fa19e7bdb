/-
  The contract of part.moved. The contract of part.Join.
-/
import Derived.Test.YtcpeeedmghbdhaaGreatDoorTopA
import Derived.Deep.RegionHeld3

namespace Go.Proofs.YtcpeeedmghbdhaaGreatDoor
open Go.RowKit
set_option linter.unusedVariables false

end Go.Proofs.YtcpeeedmghbdhaaGreatDoor

namespace Go.Proofs.YtcpeeedmghbdhaaGreatDoor
open Go.RowKit
set_option linter.unusedVariables false

/-- Join's variables -/
structure JV (w wr : World) (va vb : Array Value) : Prop where
  q0 : wr.heap[w.heap.size]? = some (.cells va 39 (0, 0))
  q1 : wr.heap[w.heap.size + 1]? = some (.cells vb 39 (0, 0))
  q2 : wr.heap[w.heap.size + 2]? = some (.cells #[.slice none 0 0, .slice none 0 0] 39 (0, 0))
  below : Below w.heap.size w wr

theorem JV.later {w wr X : World} {va vb : Array Value} (h : JV w wr va vb) (hb : Below wr.heap.size wr X) : JV w X va vb :=
  ⟨(hb.block _ (Array.getElem?_eq_some_iff.1 h.q0).1).trans h.q0, (hb.block _ (Array.getElem?_eq_some_iff.1 h.q1).1).trans h.q1, (hb.block _ (Array.getElem?_eq_some_iff.1 h.q2).1).trans h.q2, h.below.trans (hb.mono h.below.size)⟩

theorem JV.set {w wr : World} {va vb : Array Value} {b i : Nat} {u : Value} (h : JV w wr va vb) (hb : w.heap.size + 2 < b) : JV w (wr.setCell ⟨b, i, none⟩ u) va vb :=
  ⟨(Below.heap_setCell _ _ _ _ (by show w.heap.size ≠ b; omega)).trans h.q0, (Below.heap_setCell _ _ _ _ (by show w.heap.size + 1 ≠ b; omega)).trans h.q1, (Below.heap_setCell _ _ _ _ (by show w.heap.size + 2 ≠ b; omega)).trans h.q2, h.below.setCell (by show w.heap.size ≤ b; omega) _⟩

/-- a variable holds a part of its own -/
structure Holds (w wx : World) (va vb : Array Value) (b9 : Nat) (es : List Ent) (ds : List M.Dfn) (vF vD : Value) : Prop where
  blk : wx.heap[b9]? = some (.cells #[vF, vD] 39 (0, 0))
  pr : PR wx w.heap.size es ds vF vD
  jv : JV w wx va vb
  lt : w.heap.size + 2 < b9

theorem Holds.later {w wx X : World} {va vb : Array Value} {b9 : Nat} {es : List Ent} {ds : List M.Dfn} {vF vD : Value} (h : Holds w wx va vb b9 es ds vF vD) (hb : Below wx.heap.size wx X) : Holds w X va vb b9 es ds vF vD :=
  ⟨(hb.block _ (Array.getElem?_eq_some_iff.1 h.blk).1).trans h.blk, h.pr.later hb, h.jv.later hb, h.lt⟩

theorem Holds.set {w wx : World} {va vb : Array Value} {b9 b i : Nat} {es : List Ent} {ds : List M.Dfn} {vF vD u : Value} {cs : Array Value} (h : Holds w wx va vb b9 es ds vF vD) (hq : wx.heap[b]? = some (.cells cs 39 (0, 0))) (hb : b9 < b) : Holds w (wx.setCell ⟨b, i, none⟩ u) va vb b9 es ds vF vD :=
  ⟨(Below.heap_setCell _ _ _ _ (by show b9 ≠ b; omega)).trans h.blk, h.pr.set hq, h.jv.set (by have := h.lt; omega), h.lt⟩

theorem holds_set {w w2 : World} {va vb : Array Value} {b9 B : Nat} {es : List Ent} {ds : List M.Dfn} {vF vD x y : Value} (hJ : JV w w2 va vb) (hq : w2.heap[b9]? = some (.cells #[x, y] 39 (0, 0))) (hP : PR w2 B es ds vF vD) (hB : w.heap.size ≤ B) (hlt : w.heap.size + 2 < b9) :
    Holds w ((w2.setCell ⟨b9, 0, none⟩ vF).setCell ⟨b9, 1, none⟩ vD) va vb b9 es ds vF vD := by
  have h1 : (w2.setCell ⟨b9, 0, none⟩ vF).heap[b9]? = some (.cells #[vF, y] 39 (0, 0)) := setB' hq vF
  exact ⟨setB' h1 vD, (((hP.base hB).set hq).set h1), (hJ.set hlt).set hlt, hlt⟩

theorem holds_new {w w2 : World} {va vb : Array Value} {B : Nat} {es : List Ent} {ds : List M.Dfn} {vF vD : Value} (hJ : JV w w2 va vb) (hP : PR w2 B es ds vF vD) (hB : w.heap.size ≤ B) :
    Holds w (w2.alloc (.cells #[vF, vD] 39)) va vb w2.heap.size es ds vF vD := by
  have hb : Below w2.heap.size w2 (w2.alloc (.cells #[vF, vD] 39)) := (Below.refl _ _).alloc (Nat.le_refl _) _
  exact ⟨heap_alloc_new _ _, (hP.base hB).later hb, hJ.later hb, (Array.getElem?_eq_some_iff.1 hJ.q2).1⟩

theorem movedFrags_le (ns : List Int) (fs : List M.Frg) : (M.movedFrags ns fs).length ≤ fs.length := by
  unfold M.movedFrags
  rw [List.length_map]
  refine Nat.le_trans (List.length_filter_le _ _) ?_
  rw [List.length_zip]; omega
theorem movedDefs_le (ns : List Int) (ds : List M.Dfn) : (M.movedDefs ns ds).length ≤ ds.length := by
  unfold M.movedDefs
  refine Nat.le_trans (List.length_filter_le _ _) ?_
  rw [List.length_map]; exact Nat.le_refl _

theorem PR.one {w : World} {B : Nat} {es : List Ent} {ds : List M.Dfn} {vF vD : Value} (h : PR w B es ds vF vD) : ∀ u ∈ es.flatMap entCells, u.oneCell' = true := by
  intro u hu
  obtain ⟨e, he, hu⟩ := List.mem_flatMap.1 hu
  obtain ⟨x1, x2, hx⟩ := own_len (h.bytes e he)
  obtain ⟨y1, y2, hy⟩ := own_len (h.rels e he)
  unfold entCells at hu
  rw [hx, hy] at hu
  simp only [List.mem_cons, List.not_mem_nil, or_false] at hu
  rcases hu with rfl | rfl | rfl | rfl | rfl | rfl <;> rfl

theorem defs_one (ds : List M.Dfn) : ∀ u ∈ ds.flatMap encDfn, u.oneCell' = true := by
  intro u hu
  obtain ⟨d, _, hu⟩ := List.mem_flatMap.1 hu
  unfold encDfn at hu
  simp only [List.mem_cons, List.not_mem_nil, or_false] at hu
  rcases hu with rfl | rfl | rfl | rfl | rfl | rfl <;> rfl

theorem JV.grown {w wr w3 : World} {va vb : Array Value} {e : TypeId} {k n : Nat} {v : Value} {xs : List Value} (h : JV w wr va vb) (hr : wr.ownsRow w.heap.size e k v n xs) (he : e ≠ 39) (hg : wr.grownBy w3 v.ownBlock) : JV w w3 va vb :=
  ⟨block_kept hr hg h.q0 he, block_kept hr hg h.q1 he, block_kept hr hg h.q2 he, h.below.grown hg h.below.size (fun k hk => (hr.lt k hk).1)⟩

/-- the fragments behind are appended: what holds then -/
theorem holds_addF {w wc w3 : World} {va vb : Array Value} {b9 b10 : Nat} {es es' : List Ent} {gs gs' : List M.Dfn} {vF vD vF' vD' v' : Value} (h : Holds w wc va vb b9 es gs vF vD) (h' : Holds w wc va vb b10 es' gs' vF' vD') (hbb : b9 < b10)
    (hg : wc.grownBy w3 vF.ownBlock) (ho : w3.ownsRow w.heap.size 59 6 v' (es.length + es'.length) (es.flatMap entCells ++ es'.flatMap entCells)) :
    Holds w (w3.setCell ⟨b9, 0, none⟩ v') va vb b9 (es ++ es') gs v' vD ∧ (w3.setCell ⟨b9, 0, none⟩ v').heap[b10]? = some (.cells #[vF', vD'] 39 (0, 0)) ∧ (w3.setCell ⟨b9, 0, none⟩ v').ownsRow w.heap.size 51 6 vD' gs'.length (gs'.flatMap encDfn) := by
  have hn := block_kept h.pr.rowF hg h.blk (by decide)
  have hn' := block_kept h.pr.rowF hg h'.blk (by decide)
  have hD := h'.pr.rowD.kept hg (own_apart h'.pr.rowD h.pr.rowF (by decide))
  refine ⟨⟨setB' hn v', (h.pr.growF hg ho h'.pr.bytes h'.pr.rels h'.pr.small).set hn, (h.jv.grown h.pr.rowF (by decide) hg).set h.lt, h.lt⟩, ?_, row_setc hD hn (by decide)⟩
  exact (Below.heap_setCell _ _ _ _ (by show b10 ≠ b9; omega)).trans hn'

theorem holds_addD {w wc w3 : World} {va vb : Array Value} {b9 : Nat} {es : List Ent} {gs gs' : List M.Dfn} {vF vD v' : Value} (h : Holds w wc va vb b9 es gs vF vD)
    (hg : wc.grownBy w3 vD.ownBlock) (ho : w3.ownsRow w.heap.size 51 6 v' (gs.length + gs'.length) (gs.flatMap encDfn ++ gs'.flatMap encDfn)) (hs : ∀ d ∈ gs', d.name.size ≤ maxLen) :
    Holds w (w3.setCell ⟨b9, 1, none⟩ v') va vb b9 es (gs ++ gs') vF v' := by
  have hn := block_kept h.pr.rowD hg h.blk (by decide)
  exact ⟨setB' hn v', (h.pr.growD hg ho hs).set hn, (h.jv.grown h.pr.rowD (by decide) hg).set h.lt, h.lt⟩

theorem flat_len6 {α : Type} (f : α → List Value) (hf : ∀ x, (f x).length = 6) : ∀ l : List α, (l.flatMap f).length = l.length * 6
  | [] => rfl
  | x :: l => by rw [List.flatMap_cons, List.length_append, hf, flat_len6 f hf l, List.length_cons]; omega

theorem strsAt_nil (w : World) : StrsAt w (.slice none 0 0) [] := ⟨⟨none, 0, rfl, Nat.zero_le _, .inl rfl⟩, fun d hd => by cases hd⟩
theorem fragsAt_nil (w : World) : FragsAt w (.slice none 0 0) [] := ⟨fun _ _ => undef, ⟨none, 0, rfl, Nat.zero_le _, .inl rfl⟩, fun j hj => absurd hj (Nat.not_lt_zero _)⟩
theorem defsAt_nil (w : World) : DefsAt w (.slice none 0 0) [] := ⟨⟨none, 0, rfl, Nat.zero_le _, .inl rfl⟩, fun d hd => by cases hd⟩

/-- a world in which the blocks from B on are as they were -/
def Above (B : Nat) (w X : World) : Prop := ∀ k, B ≤ k → k < w.heap.size → X.heap[k]? = w.heap[k]?

theorem row_above {w X : World} {B k n : Nat} {e : TypeId} {v : Value} {xs : List Value} (h : w.ownsRow B e k v n xs) (ha : Above B w X) : X.ownsRow B e k v n xs := by
  refine ⟨h.1, ?_⟩
  rcases h.2 with h1 | ⟨g, cap, cur, h1, hb, h2, h3⟩
  · exact .inl h1
  · exact .inr ⟨g, cap, cur, h1, hb, (ha g hb (Array.getElem?_eq_some_iff.1 h2).1).trans h2, h3⟩

theorem PR.above {w X : World} {B : Nat} {es : List Ent} {ds : List M.Dfn} {vF vD : Value} (h : PR w B es ds vF vD) (ha : Above B w X) : PR X B es ds vF vD :=
  ⟨row_above h.rowF ha, row_above h.rowD ha, fun e he => row_above (h.bytes e he) ha, h.small, h.smallD, fun e he => row_above (h.rels e he) ha⟩

theorem above_set (w : World) (B b i : Nat) (u : Value) (hb : b < B) : Above B w (w.setCell ⟨b, i, none⟩ u) := fun k hk _ => Below.heap_setCell _ _ _ _ (by show k ≠ b; omega)

end Go.Proofs.YtcpeeedmghbdhaaGreatDoor
