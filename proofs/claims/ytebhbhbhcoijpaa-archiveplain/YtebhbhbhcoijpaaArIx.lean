/-
  Rows of items that grow. A round that lays one part bare into a row of items.
-/
import Derived.Test.YtebhbhbhcoijpaaArChX
import Derived.Test.YtebhbhbhcoijpaaArFx

namespace Go.Proofs.Ytebhbhbhcoijpaa
open Go Go.RowKit
set_option linter.unusedVariables false

/-- an item's parts: in a block of one's own, or where they lay before -/
def IGood (w0 W : World) (e : IEnt) : Prop :=
  (∃ a c, e.vP = .slice a e.it.parts.length c ∧ PartsAt w0 (.slice a e.it.parts.length c) e.it.parts) ∨
  ∃ g p vF vD, e = ⟨⟨false, [p]⟩, .slice (some ⟨g, 0, none⟩) 1 1⟩ ∧ W.heap[g]? = some (.cells #[vF, vD] 25 (0, 0)) ∧ FragsAt w0 vF p.frags ∧ DefsAt w0 vD p.defs

structure IRow (w0 W : World) (es : List IEnt) (vI : Value) : Prop where
  below : Below w0.heap.size w0 W
  row : W.ownsRow w0.heap.size 63 2 vI es.length (es.flatMap ientCells)
  good : ∀ e ∈ es, IGood w0 W e

theorem IRow.later {w0 W X : World} {es : List IEnt} {vI : Value} (h : IRow w0 W es vI) (hb : Below W.heap.size W X) : IRow w0 X es vI := by
  refine ⟨h.below.trans (hb.mono h.below.size), h.row.kept (grown_of_below hb none) own_self, fun e he => ?_⟩
  rcases h.good e he with h1 | ⟨g, p, vF, vD, e1, q, hf, hd⟩
  · exact .inl h1
  · exact .inr ⟨g, p, vF, vD, e1, (hb.block _ (Array.getElem?_eq_some_iff.1 q).1).trans q, hf, hd⟩

theorem IRow.items {w0 W : World} {es : List IEnt} {vI : Value} (h : IRow w0 W es vI) : ItemsAt W vI (es.map (·.it)) := by
  refine items_of (row_slice ient0 ientCells (fun _ => rfl) es h.row) (fun e he => ?_)
  rcases h.good e he with ⟨a, c, e1, hp⟩ | ⟨g, p, vF, vD, rfl, q, hf, hd⟩
  · exact ⟨a, c, e1, hp.later h.below⟩
  · exact ⟨_, _, rfl, parts_of (es := [⟨p, vF, vD⟩]) (blk_slice pent0 pentCells (fun _ => rfl) [⟨p, vF, vD⟩] (by unfold maxLen; simp) 1 q) (fun x hx => by
      rw [List.mem_singleton.1 hx]; exact ⟨hf.later h.below, hd.later h.below⟩)⟩

theorem IRow.push {w0 W w5 : World} {es : List IEnt} {vI v' : Value} {e : IEnt} (h : IRow w0 W es vI) (he : IGood w0 W e) (hg : W.grownBy w5 vI.ownBlock)
    (hrow : w5.ownsRow w0.heap.size 63 2 v' (es.length + 1) (es.flatMap ientCells ++ ientCells e)) : IRow w0 w5 (es ++ [e]) v' := by
  refine ⟨h.below.grown hg h.below.size (fun k hk => (h.row.lt k hk).1), ?_, fun x hx => ?_⟩
  · rw [List.length_append, List.flatMap_append]
    simpa [List.flatMap_cons] using hrow
  · have hx' : IGood w0 W x := by
      rcases List.mem_append.1 hx with hx | hx
      · exact h.good x hx
      · rw [List.mem_singleton.1 hx]; exact he
    rcases hx' with h1 | ⟨g, p, vF, vD, e1, q, hf, hd⟩
    · exact .inl h1
    · exact .inr ⟨g, p, vF, vD, e1, block_kept h.row hg q (by decide), hf, hd⟩

theorem ItemsAt.form {w : World} {v : Value} {its : List M.Itm} (h : ItemsAt w v its) : ∃ a c, v = .slice a its.length c := by
  obtain ⟨cell, h1, _⟩ := h
  obtain ⟨a, c, e, _⟩ := h1.form
  exact ⟨a, c, e⟩

theorem choose_v {W : World} {vI : Value} {its : List M.Itm} {first : List ByteArray} {a3 : Option Addr} {c3 : Nat} (h : ItemsAt W vI its) (hf : StrsAt W (.slice a3 first.length c3) first) :
    Calls Try.prog 31 #[vI, .slice a3 first.length c3] W fun e w' => ∃ v, e = .returned (.tuple #[v, .int .i64 (M.choose its first).2]) ∧ ChOut W w' v (M.choose its first).1 := by
  obtain ⟨a, c, rfl⟩ := h.form
  exact choose_any its first a a3 c c3 W h hf

/-- one item in a block of its own, as append reads it -/
theorem item_src {w : World} {B : Nat} {e : IEnt} {fr : Nat × Nat} (h : w.heap[B]? = some (.cells #[.bool e.it.arch, e.vP] 63 fr)) (c : Nat) : Src w (.slice (some ⟨B, 0, none⟩) 1 c) 1 (ientCells e) := by
  refine ⟨_, _, rfl, .inr ⟨_, rfl, fun j x hj => ?_⟩⟩
  have : w.cell? ⟨B, 0 + j, none⟩ = some x := by
    rw [cellB h, Nat.zero_add, ← hj]
    show (#[Value.bool e.it.arch, e.vP])[j]? = [Value.bool e.it.arch, e.vP][j]?
    rw [← List.getElem?_toArray]
  have e : (⟨B, 0, none⟩ : Addr).add j = ⟨B, 0 + j, none⟩ := by cases j <;> simp [Addr.add]
  rw [e]
  exact this

theorem lackNames_take (first : List ByteArray) (l : List M.Prt) (k : Nat) (h : k < l.length) : M.lackNames first (l.take (k + 1)) = M.lackNames first (l.take k) ++ M.wanted (l.getD k M.nil) := by
  unfold M.lackNames
  rw [List.take_succ_eq_append_getElem h, List.flatMap_append, List.getD_eq_getElem?_getD, List.getElem?_eq_getElem h]
  simp
theorem lackNames_len {first : List ByteArray} {l : List M.Prt} (hf : first.length ≤ 12) (hl : l.length ≤ 11) (h : ∀ p ∈ l, (M.wanted p).length ≤ 480) (k : Nat) : (M.lackNames first (l.take k)).length ≤ 10000 := by
  have key : ∀ l : List M.Prt, (∀ p ∈ l, (M.wanted p).length ≤ 480) → (l.flatMap M.wanted).length ≤ 480 * l.length := by
    intro l
    induction l with
    | nil => intro _; exact Nat.le_refl _
    | cons p l ih =>
      intro h
      have h1 := ih (fun q hq => h q (List.mem_cons_of_mem _ hq))
      have h2 := h p (by simp)
      rw [List.flatMap_cons, List.length_append, List.length_cons]
      omega
  have h1 := key (l.take k) (fun p hp => h p (List.mem_of_mem_take hp))
  have h2 : (l.take k).length ≤ l.length := by rw [List.length_take]; omega
  unfold M.lackNames
  rw [List.length_append]
  omega

theorem plain_ok {l : List M.Prt} (h : M.checkItems (l.map M.plainItem) = 0) : ∀ p ∈ l, M.checkPart p = 0 := by
  intro p hp
  have := (items_ok h).2 (M.plainItem p) (List.mem_map.2 ⟨p, hp, rfl⟩)
  unfold M.checkItem M.plainItem at this
  simp [M.checkParts] at this
  by_cases h : M.checkPart p = 0
  · exact h
  · exact this h

end Go.Proofs.Ytebhbhbhcoijpaa

namespace Go.Proofs.Ytebhbhbhcoijpaa
open Go Go.RowKit
set_option linter.unusedVariables false

theorem irow_round {w wr : World} {es : List IEnt} {vI : Value} (h : IRow w wr es vI) (p : M.Prt) (vF vD : Value) (hf : FragsAt w vF p.frags) (hd : DefsAt w vD p.defs) :
    IRow w (((wr.alloc (.cells #[vF, vD] 25)).alloc (.cells #[vF, vD] 25)).alloc (.cells #[.bool false, .slice (some ⟨wr.heap.size + 1, 0, none⟩) 1 1] 63)) es vI ∧
    IGood w (((wr.alloc (.cells #[vF, vD] 25)).alloc (.cells #[vF, vD] 25)).alloc (.cells #[.bool false, .slice (some ⟨wr.heap.size + 1, 0, none⟩) 1 1] 63)) ⟨⟨false, [p]⟩, .slice (some ⟨wr.heap.size + 1, 0, none⟩) 1 1⟩ ∧
    Src (((wr.alloc (.cells #[vF, vD] 25)).alloc (.cells #[vF, vD] 25)).alloc (.cells #[.bool false, .slice (some ⟨wr.heap.size + 1, 0, none⟩) 1 1] 63)) (.slice (some ⟨wr.heap.size + 1 + 1, 0, none⟩) 1 1) 1 (ientCells ⟨⟨false, [p]⟩, .slice (some ⟨wr.heap.size + 1, 0, none⟩) 1 1⟩) := by
  have b1 : Below wr.heap.size wr (wr.alloc (.cells #[vF, vD] 25)) := (Below.refl _ _).alloc (Nat.le_refl _) _
  have sz1 : (wr.alloc (.cells #[vF, vD] 25)).heap.size = wr.heap.size + 1 := by simp
  generalize wr.alloc (.cells #[vF, vD] 25) = Y1 at *
  have b2 : Below Y1.heap.size Y1 (Y1.alloc (.cells #[vF, vD] 25)) := (Below.refl _ _).alloc (Nat.le_refl _) _
  have q2 := heap_alloc_new Y1 (.cells #[vF, vD] 25)
  have sz2 : (Y1.alloc (.cells #[vF, vD] 25)).heap.size = wr.heap.size + 1 + 1 := by simp [sz1]
  rw [sz1] at q2
  generalize Y1.alloc (.cells #[vF, vD] 25) = Y2 at *
  have b3 : Below Y2.heap.size Y2 (Y2.alloc (.cells #[.bool false, .slice (some ⟨wr.heap.size + 1, 0, none⟩) 1 1] 63)) := (Below.refl _ _).alloc (Nat.le_refl _) _
  have q3 := heap_alloc_new Y2 (.cells #[.bool false, .slice (some ⟨wr.heap.size + 1, 0, none⟩) 1 1] 63)
  rw [sz2] at q3
  have q2' := (b3.block _ (Array.getElem?_eq_some_iff.1 q2).1).trans q2
  refine ⟨((h.later b1).later b2).later b3, .inr ⟨_, p, vF, vD, rfl, q2', hf, hd⟩, item_src (e := ⟨⟨false, [p]⟩, .slice (some ⟨wr.heap.size + 1, 0, none⟩) 1 1⟩) q3 1⟩

end Go.Proofs.Ytebhbhbhcoijpaa
