/-
  What link.image has in memory. A region that draws its order: one operation that may come up, and what the others can do ahead of it. A region that draws its order, whose last operation waits for all others: a condition S that all operations but the last one keep; an operation ahead of the last that yields its value in every world that meets S may be taken first. (The kit's 'held' walk asks for S behind the last operation too: here that one may break it.)
-/
import Derived.Test.YtcdpboocfkaifaaGreatDoorLkFb
import Derived.StillTail
import Derived.OrdersHeld

namespace Go.Proofs.YtcdpboocfkaifaaGreatDoor
open Go Go.RowKit
set_option linter.unusedVariables false

/-- a segment, and where its bytes lie -/
structure SEnt where
  seg : M.Seg
  vb : Value
def encSeg (e : SEnt) : List Value := [.int .i64 e.seg.pos, e.vb, .int .i64 e.seg.zeros, .bool e.seg.writes, .bool e.seg.works]

structure IS (w W : World) (part : Array Value) (A0 : Array Value) (nO : Nat) (at_ : Int) (vS : Value) (es : List SEnt) : Prop where
  img : W.heap[nO]? = some (.cells #[.int .i64 at_, vS] 28 (0, 0))
  row : W.ownsRow (w.heap.size + 1 + 1 + 1) 69 5 vS es.length (es.flatMap encSeg)
  bts : ∀ e ∈ es, BBlk W e.vb e.seg.bytes
  p0 : W.heap[w.heap.size]? = some (.cells part 25 (0, 0))
  p1 : W.heap[w.heap.size + 1]? = some (.cells A0 45 (0, 0))
  p2 : W.heap[w.heap.size + 1 + 1]? = some (.cells #[.int .i64 0, .slice none 0 0] 28 (0, 0))
  below : Below w.heap.size w W
  high : w.heap.size + 1 + 1 < nO

theorem IS.later {w W X : World} {part A0 : Array Value} {nO : Nat} {at_ : Int} {vS : Value} {es : List SEnt} (h : IS w W part A0 nO at_ vS es) (hb : Below W.heap.size W X) : IS w X part A0 nO at_ vS es :=
  ⟨(hb.block _ (Array.getElem?_eq_some_iff.1 h.img).1).trans h.img, h.row.kept (grown_of_below hb none) own_self, fun e he => (h.bts e he).later hb,
   (hb.block _ (Array.getElem?_eq_some_iff.1 h.p0).1).trans h.p0, (hb.block _ (Array.getElem?_eq_some_iff.1 h.p1).1).trans h.p1, (hb.block _ (Array.getElem?_eq_some_iff.1 h.p2).1).trans h.p2, h.below.trans (hb.mono h.below.size), h.high⟩

theorem bblk_one {w : World} {v : Value} {bs : List Int} (h : BBlk w v bs) : v.oneCell' = true := by
  obtain ⟨G, rfl, _⟩ := h; rfl

/-- a segment is appended, and the new row is written into the image -/
theorem IS.push {w W w5 : World} {part A0 : Array Value} {nO : Nat} {at_ : Int} {vS v5 : Value} {es : List SEnt} {e : SEnt} (h : IS w W part A0 nO at_ vS es) (hn : BBlk W e.vb e.seg.bytes) (hg : W.grownBy w5 vS.ownBlock)
    (ho : w5.ownsRow (w.heap.size + 1 + 1 + 1) 69 5 v5 (es.length + 1) (es.flatMap encSeg ++ encSeg e)) : IS w (w5.setCell ⟨nO, 1, none⟩ v5) part A0 nO at_ v5 (es ++ [e]) := by
  have hh := h.high
  have i5 := block_kept h.row hg h.img (by decide)
  have a5 := block_kept h.row hg h.p0 (by decide)
  have b5 := block_kept h.row hg h.p1 (by decide)
  have c5 : w5.heap[w.heap.size + 1 + 1]? = _ := block_kept h.row hg h.p2 (by decide)
  have hb5 : Below w.heap.size w w5 := h.below.grown hg h.below.size (fun k hk => by have := (h.row.lt k hk).1; omega)
  refine ⟨?_, ?_, ?_, (Below.heap_setCell _ _ _ _ (by show w.heap.size ≠ nO; omega)).trans a5, (Below.heap_setCell _ _ _ _ (by show w.heap.size + 1 ≠ nO; omega)).trans b5, (Below.heap_setCell _ _ _ _ (by show w.heap.size + 1 + 1 ≠ nO; omega)).trans c5, hb5.setCell (by show w.heap.size ≤ nO; omega) _, h.high⟩
  · exact heap_setCell_same w5 nO 1 _ _ v5 i5
  · rw [List.length_append, List.flatMap_append]
    refine ownsRow_setCell_other (v := v5) (by simpa using ho) ?_ v5
    intro e2
    rcases own_ne ho i5 (by decide) with h1 | h1
    · rw [h1] at e2; cases e2
    · exact h1 e2
  · intro x hx
    have key : ∀ x : SEnt, BBlk W x.vb x.seg.bytes → BBlk (w5.setCell ⟨nO, 1, none⟩ v5) x.vb x.seg.bytes := fun x hx => by
      obtain ⟨G, h1, h2, h3⟩ := hx
      have g5 := block_kept h.row hg h2 (by decide)
      have hne : G ≠ nO := fun e => by rw [e, i5] at g5; simp at g5
      exact ⟨G, h1, (Below.heap_setCell _ _ _ _ (by show G ≠ nO; exact hne)).trans g5, h3⟩
    rcases List.mem_append.1 hx with hx | hx
    · exact key x (h.bts x hx)
    · obtain rfl := List.mem_singleton.1 hx
      exact key _ hn

theorem own_blk {w : World} {B k n : Nat} {e : TypeId} {v : Value} {xs : List Value} (h : w.ownsRow B e k v n xs) (hn : 0 < n) : ∃ g cap, v = .slice (some ⟨g, 0, none⟩) n cap := by
  rcases h.2 with ⟨_, h2⟩ | ⟨g, cap, cur, h1, _⟩
  · omega
  · exact ⟨g, cap, h1⟩
/-- three segments in a row -/
theorem row3 {W : World} {B cap g : Nat} {e1 e2 e3 : SEnt} (h : W.ownsRow B 69 5 (.slice (some ⟨g, 0, none⟩) 3 cap) 3 ([e1, e2, e3].flatMap encSeg)) :
    ∃ cur : Array Value, W.heap[g]? = some (.cells cur 69 (0, 0)) ∧ 15 ≤ cur.size ∧ B ≤ g ∧ ∀ m, m < 15 → cur[m]? = ([.int .i64 e1.seg.pos, e1.vb, .int .i64 e1.seg.zeros, .bool e1.seg.writes, .bool e1.seg.works, .int .i64 e2.seg.pos, e2.vb, .int .i64 e2.seg.zeros, .bool e2.seg.writes, .bool e2.seg.works, .int .i64 e3.seg.pos, e3.vb, .int .i64 e3.seg.zeros, .bool e3.seg.writes, .bool e3.seg.works] : List Value)[m]? := by
  rcases h.2 with ⟨h1, _⟩ | ⟨g', cap', cur, h1, hB, h2, _, _, h5, h6⟩
  · cases h1
  · cases h1
    have hx : ([e1, e2, e3].flatMap encSeg) = [.int .i64 e1.seg.pos, e1.vb, .int .i64 e1.seg.zeros, .bool e1.seg.writes, .bool e1.seg.works, .int .i64 e2.seg.pos, e2.vb, .int .i64 e2.seg.zeros, .bool e2.seg.writes, .bool e2.seg.works, .int .i64 e3.seg.pos, e3.vb, .int .i64 e3.seg.zeros, .bool e3.seg.writes, .bool e3.seg.works] := rfl
    rw [hx] at h6
    have hsz : 15 ≤ cur.size := by
      have := congrArg List.length h6
      simp only [List.length_take, Array.length_toList, List.length_cons, List.length_nil] at this
      omega
    refine ⟨cur, h2, hsz, hB, fun m hm => ?_⟩
    rw [← h6, List.getElem?_take, if_pos (by omega), Array.getElem?_toList]

/-- the noughts of the third are written at last -/
theorem segs_final {W : World} {cap g : Nat} {e1 e2 e3 : SEnt} {z : Int} {cur : Array Value} (hq : W.heap[g]? = some (.cells (cur.setIfInBounds 12 (.int .i64 z)) 69 (0, 0))) (hsz : 15 ≤ cur.size)
    (hc : ∀ m, m < 15 → cur[m]? = ([.int .i64 e1.seg.pos, e1.vb, .int .i64 e1.seg.zeros, .bool e1.seg.writes, .bool e1.seg.works, .int .i64 e2.seg.pos, e2.vb, .int .i64 e2.seg.zeros, .bool e2.seg.writes, .bool e2.seg.works, .int .i64 e3.seg.pos, e3.vb, .int .i64 e3.seg.zeros, .bool e3.seg.writes, .bool e3.seg.works] : List Value)[m]?) (hbb : ∀ e ∈ [e1, e2, e3], BytesAt W e.vb e.seg.bytes) :
    SegsAt W (.slice (some ⟨g, 0, none⟩) 3 cap) [e1.seg, e2.seg, { e3.seg with zeros := z }] := by
  have hw : ∀ m, m < 15 → m ≠ 12 → W.cell? ⟨g, m, none⟩ = cur[m]? := fun m hm hne => by
    rw [cellB hq m, Array.getElem?_setIfInBounds, if_neg (fun e => hne e.symm)]
  have hz : W.cell? ⟨g, 12, none⟩ = some (.int .i64 z) := by
    rw [cellB hq 12, Array.getElem?_setIfInBounds, if_pos rfl, if_pos (by omega)]
  refine ⟨fun j i => (W.cell? ⟨g, j * 5 + i, none⟩).getD undef, ⟨_, _, rfl, by show 3 ≤ maxLen; unfold maxLen; decide, .inr ⟨g, 0, rfl, fun j i hj hi => ?_⟩⟩, fun j hj => ?_⟩
  · rw [Nat.zero_add]
    have hj' : j < 3 := hj
    obtain ⟨u, hu⟩ : ∃ u, W.cell? ⟨g, j * 5 + i, none⟩ = some u := by
      by_cases h12 : j * 5 + i = 12
      · rw [h12]; exact ⟨_, hz⟩
      · rw [hw _ (by omega) h12]
        exact ⟨_, Array.getElem?_eq_getElem (by omega)⟩
    simp only [hu]; rfl
  · have hj' : j = 0 ∨ j = 1 ∨ j = 2 := by have : j < 3 := hj; omega
    rcases hj' with rfl | rfl | rfl
    · refine ⟨?_, ?_, ?_, ?_, ?_⟩
      · show (W.cell? ⟨g, 0, none⟩).getD undef = _; rw [hw 0 (by decide) (by decide), hc 0 (by decide)]; rfl
      · show BytesAt _ ((W.cell? ⟨g, 1, none⟩).getD undef) _; rw [hw 1 (by decide) (by decide), hc 1 (by decide)]; exact hbb e1 (by simp)
      · show (W.cell? ⟨g, 2, none⟩).getD undef = _; rw [hw 2 (by decide) (by decide), hc 2 (by decide)]; rfl
      · show (W.cell? ⟨g, 3, none⟩).getD undef = _; rw [hw 3 (by decide) (by decide), hc 3 (by decide)]; rfl
      · show (W.cell? ⟨g, 4, none⟩).getD undef = _; rw [hw 4 (by decide) (by decide), hc 4 (by decide)]; rfl
    · refine ⟨?_, ?_, ?_, ?_, ?_⟩
      · show (W.cell? ⟨g, 5, none⟩).getD undef = _; rw [hw 5 (by decide) (by decide), hc 5 (by decide)]; rfl
      · show BytesAt _ ((W.cell? ⟨g, 6, none⟩).getD undef) _; rw [hw 6 (by decide) (by decide), hc 6 (by decide)]; exact hbb e2 (by simp)
      · show (W.cell? ⟨g, 7, none⟩).getD undef = _; rw [hw 7 (by decide) (by decide), hc 7 (by decide)]; rfl
      · show (W.cell? ⟨g, 8, none⟩).getD undef = _; rw [hw 8 (by decide) (by decide), hc 8 (by decide)]; rfl
      · show (W.cell? ⟨g, 9, none⟩).getD undef = _; rw [hw 9 (by decide) (by decide), hc 9 (by decide)]; rfl
    · refine ⟨?_, ?_, ?_, ?_, ?_⟩
      · show (W.cell? ⟨g, 10, none⟩).getD undef = _; rw [hw 10 (by decide) (by decide), hc 10 (by decide)]; rfl
      · show BytesAt _ ((W.cell? ⟨g, 11, none⟩).getD undef) _; rw [hw 11 (by decide) (by decide), hc 11 (by decide)]; exact hbb e3 (by simp)
      · show (W.cell? ⟨g, 12, none⟩).getD undef = _; rw [hz]; rfl
      · show (W.cell? ⟨g, 13, none⟩).getD undef = _; rw [hw 13 (by decide) (by decide), hc 13 (by decide)]; rfl
      · show (W.cell? ⟨g, 14, none⟩).getD undef = _; rw [hw 14 (by decide) (by decide), hc 14 (by decide)]; rfl

/-- three segments, in blocks of their own -/
def SegsBlk (W : World) (v : Value) (segs : List M.Seg) : Prop :=
  ∃ (g cap : Nat) (cur : Array Value) (e1 e2 e3 : SEnt) (z : Int), v = .slice (some ⟨g, 0, none⟩) 3 cap ∧ W.heap[g]? = some (.cells (cur.setIfInBounds 12 (.int .i64 z)) 69 (0, 0)) ∧ 15 ≤ cur.size ∧ (∀ m, m < 15 → cur[m]? = ([.int .i64 e1.seg.pos, e1.vb, .int .i64 e1.seg.zeros, .bool e1.seg.writes, .bool e1.seg.works, .int .i64 e2.seg.pos, e2.vb, .int .i64 e2.seg.zeros, .bool e2.seg.writes, .bool e2.seg.works, .int .i64 e3.seg.pos, e3.vb, .int .i64 e3.seg.zeros, .bool e3.seg.writes, .bool e3.seg.works] : List Value)[m]?) ∧
    (∀ e ∈ [e1, e2, e3], BBlk W e.vb e.seg.bytes) ∧ segs = [e1.seg, e2.seg, { e3.seg with zeros := z }]
theorem SegsBlk.segs {W : World} {v : Value} {l : List M.Seg} (h : SegsBlk W v l) : SegsAt W v l := by
  obtain ⟨g, cap, cur, e1, e2, e3, z, rfl, h1, h2, h3, h4, rfl⟩ := h
  exact segs_final h1 h2 h3 (fun e he => (h4 e he).bytes)
theorem SegsBlk.keep {W W' : World} {v : Value} {l : List M.Seg} (h : SegsBlk W v l) (hk : ∀ (k : Nat) (cs : Array Value) (t : TypeId), W.heap[k]? = some (.cells cs t (0, 0)) → t ≠ 28 → W'.heap[k]? = some (.cells cs t (0, 0))) : SegsBlk W' v l := by
  obtain ⟨g, cap, cur, e1, e2, e3, z, rfl, h1, h2, h3, h4, rfl⟩ := h
  refine ⟨g, cap, cur, e1, e2, e3, z, rfl, hk _ _ _ h1 (by decide), h2, h3, fun e he => ?_, rfl⟩
  obtain ⟨G, a1, a2, a3⟩ := h4 e he
  exact ⟨G, a1, hk _ _ _ a2 (by decide), a3⟩
theorem image_keep {W : World} {R i : Nat} {cs : Array Value} {u : Value} (hR : W.heap[R]? = some (.cells cs 28 (0, 0))) : ∀ (k : Nat) (cs' : Array Value) (t : TypeId), W.heap[k]? = some (.cells cs' t (0, 0)) → t ≠ 28 → (W.setCell ⟨R, i, none⟩ u).heap[k]? = some (.cells cs' t (0, 0)) := fun k cs' t h ht => by
  have hne : k ≠ R := fun e => by rw [e, hR] at h; simp at h; exact ht h.2.symm
  exact (Below.heap_setCell _ _ _ _ (by show k ≠ R; exact hne)).trans h

/-- what is there when the noughts are written, and when the image is handed back -/
theorem img_end {w wr : World} {part A0 : Array Value} {nO g cx : Nat} {at_ D : Int} {e1 e2 e3 : SEnt} (h : IS w wr part A0 nO at_ (.slice (some ⟨g, 0, none⟩) 3 cx) [e1, e2, e3]) :
    ((∃ u, wr.cell? ⟨g, 12, none⟩ = some u) ∧ wr.frozen? ⟨g, 12, none⟩ = false ∧ g < wr.heap.size) ∧
    ((wr.setCell ⟨g, 12, none⟩ (.int .i64 D)).heap[nO]? = some (.cells #[.int .i64 at_, .slice (some ⟨g, 0, none⟩) 3 cx] 28 (0, 0)) ∧ (wr.setCell ⟨g, 12, none⟩ (.int .i64 D)).heap[w.heap.size + 1 + 1]? = some (.cells #[.int .i64 0, .slice none 0 0] 28 (0, 0))) ∧
    ∀ u0 u1, (((wr.setCell ⟨g, 12, none⟩ (.int .i64 D)).setCell ⟨w.heap.size + 1 + 1, 0, none⟩ u0).setCell ⟨w.heap.size + 1 + 1, 1, none⟩ u1).heap[w.heap.size + 1 + 1]? = some (.cells #[u0, u1] 28 (0, 0)) ∧
      Below w.heap.size w (((wr.setCell ⟨g, 12, none⟩ (.int .i64 D)).setCell ⟨w.heap.size + 1 + 1, 0, none⟩ u0).setCell ⟨w.heap.size + 1 + 1, 1, none⟩ u1) ∧
      SegsBlk (((wr.setCell ⟨g, 12, none⟩ (.int .i64 D)).setCell ⟨w.heap.size + 1 + 1, 0, none⟩ u0).setCell ⟨w.heap.size + 1 + 1, 1, none⟩ u1) (.slice (some ⟨g, 0, none⟩) 3 cx) [e1.seg, e2.seg, { e3.seg with zeros := D }] := by
  obtain ⟨cur, h2, hsz, hB, hc⟩ := row3 h.row
  have hq := heap_setCell_same wr g 12 _ _ (.int .i64 D) h2
  have hh := h.high
  have hgO : nO ≠ g := fun e => by have := h.img; rw [e, h2] at this; simp at this
  have i2 : (wr.setCell ⟨g, 12, none⟩ (.int .i64 D)).heap[nO]? = some (.cells #[.int .i64 at_, .slice (some ⟨g, 0, none⟩) 3 cx] 28 (0, 0)) := (Below.heap_setCell _ _ _ _ (by show nO ≠ g; exact hgO)).trans h.img
  have r2 : (wr.setCell ⟨g, 12, none⟩ (.int .i64 D)).heap[w.heap.size + 1 + 1]? = some (.cells #[.int .i64 0, .slice none 0 0] 28 (0, 0)) := (Below.heap_setCell _ _ _ _ (by show w.heap.size + 1 + 1 ≠ g; omega)).trans h.p2
  refine ⟨⟨⟨_, (cellB h2 12).trans (Array.getElem?_eq_getElem (by omega))⟩, frozenB h2 12, (Array.getElem?_eq_some_iff.1 h2).1⟩, ⟨i2, r2⟩, fun u0 u1 => ⟨?_, ?_, ?_⟩⟩
  · exact heap_setCell_same _ _ 1 _ _ u1 (heap_setCell_same _ _ 0 _ _ u0 r2)
  · exact ((h.below.setCell (by show w.heap.size ≤ g; omega) _).setCell (by show w.heap.size ≤ w.heap.size + 1 + 1; omega) _).setCell (by show w.heap.size ≤ w.heap.size + 1 + 1; omega) _
  · refine ⟨g, cx, cur, e1, e2, e3, D, rfl, ?_, hsz, hc, (fun e he => ?_), rfl⟩
    · rw [Below.heap_setCell _ _ _ _ (by show g ≠ w.heap.size + 1 + 1; omega), Below.heap_setCell _ _ _ _ (by show g ≠ w.heap.size + 1 + 1; omega)]
      exact hq
    · obtain ⟨G, h1, h3, h4⟩ := h.bts e he
      have hne : G ≠ g := fun e => by rw [e, h2] at h3; simp at h3
      have hne2 : G ≠ w.heap.size + 1 + 1 := fun e => by have := h.p2; rw [← e, h3] at this; simp at this
      refine ⟨G, h1, ?_, h4⟩
      rw [Below.heap_setCell _ _ _ _ (by show G ≠ w.heap.size + 1 + 1; exact hne2), Below.heap_setCell _ _ _ _ (by show G ≠ w.heap.size + 1 + 1; exact hne2), Below.heap_setCell _ _ _ _ (by show G ≠ g; exact hne)]
      exact h3

end Go.Proofs.YtcdpboocfkaifaaGreatDoor

namespace Go.Proofs.YtcdpboocfkaifaaGreatDoor
open Go

section
variable {md : Region.Mode} {ops : Array Oper} {m i j : Nat} {oi oj : Oper} {l0 l : Array Bool} {G : Array Bool → Prop}

/-- while one of the first m is still to come, none of the rest comes up (G: what else is known of those that are done; it stays so) -/
structure Waits (md : Region.Mode) (ops : Array Oper) (m : Nat) (G : Array Bool → Prop) : Prop where
  out : ∀ l, HeadInv md ops m l → G l → ∀ i, i < m → l.getD i true = false → ∀ t ∈ Region.ready md ops l, t < m
  keep : ∀ l j, G l → G (l.setIfInBounds j true)

theorem waits_all (hs : Region.sinkB md ops m = true) (hc : Region.chainB md ops m = true) (hm : m < ops.size) : Waits md ops m fun _ => True where
  out _ inv _ i him hu t ht := Nat.lt_of_not_le fun h => tail_waits hs hc hm inv _ i rfl him hu t h ht
  keep _ _ h := h

/-- the i-th could come up at l0, and up to l nothing of that has changed: it may still come up, and no other has come back -/
structure Past (md : Region.Mode) (ops : Array Oper) (m : Nat) (G : Array Bool → Prop) (i : Nat) (l0 l : Array Bool) : Prop where
  inv : HeadInv md ops m l
  more : G l
  up : i ∈ Region.ready md ops l
  sub : ∀ k, l.getD k true = false → l0.getD k true = false

theorem Past.busy (h : Past md ops m G i l0 l) : Region.ready md ops l ≠ [] := List.ne_nil_of_mem h.up
theorem Past.head (h : Past md ops m G i l0 l) (hW : Waits md ops m G) (him : i < m) (hj : j ∈ Region.ready md ops l) : j < m :=
  hW.out l h.inv h.more i him (mem_ready.1 h.up).1 j hj
theorem Past.set (h : Past md ops m G i l0 l) (hW : Waits md ops m G) (him : i < m) (hj : j ∈ Region.ready md ops l) (hne : j ≠ i) : Past md ops m G i l0 (l.setIfInBounds j true) where
  inv := h.inv.set hj (h.head hW him hj)
  more := hW.keep _ _ h.more
  up := ready_mono h.up (Ne.symm hne)
  sub k hk := h.sub k (by
    rcases Nat.decEq j k with e | rfl
    · rwa [getD_set_ne true e] at hk
    · exact (mem_ready.1 hj).1)
/-- what may come up beside it lies apart from it -/
theorem Past.apart (h : Past md ops m G i l0 l) (hi : ops[i]? = some oi) (hF : Region.free md ops l0 i = true) (hj : j ∈ Region.ready md ops l) (hne : j ≠ i) (ho : ops[j]? = some oj) : oi.apart ops oj = true := by
  obtain ⟨hu, o, ho', hw⟩ := mem_ready.1 hj
  cases ho'.symm.trans ho
  refine Region.free_spec hi hF j _ ho hne (h.sub j hu) fun e he hb hon => ?_
  have h1 := hw e he hb
  rw [hon, getD_both (mem_ready.1 h.up).1] at h1
  exact Bool.noConfusion h1

theorem start_inv (md : Region.Mode) (ops : Array Oper) (m : Nat) : HeadInv md ops m (Array.replicate ops.size false) where
  size := Array.size_replicate
  closed j _ _ h := by rw [getD_replicate_false] at h; exact Bool.noConfusion h
  tail t _ ht := getD_in (by rwa [Array.size_replicate]) (getD_replicate_false _ t)

end
end Go.Proofs.YtcdpboocfkaifaaGreatDoor

namespace Go.Proofs.YtcdpboocfkaifaaGreatDoor
open Go
set_option linter.unusedVariables false

section
variable {P : Program} {ops : Array Oper} {Q : Exit → Act → World → Prop} {md : Region.Mode} {S : World → Prop} {m : Nat}

/-- whatever comes up next: what stands ahead of the m-th leaves S as it is -/
def wpAnyL (P : Program) (md : Region.Mode) (ops : Array Oper) (Q : Exit → Act → World → Prop) (S : World → Prop) (m : Nat) : Nat → Array Bool → Act → World → Prop
  | 0, l, a, w => wpAny P md ops Q 0 l a w
  | f + 1, l, a, w => (Region.ready md ops l = [] → Q .normal a w) ∧ ∀ i ∈ Region.ready md ops l, wpOp P ops Q i (fun a' w' => (i < m → S w') ∧ wpAnyL P md ops Q S m f (l.setIfInBounds i true) a' w') a w

theorem wpAny_of_last : ∀ (f : Nat) (listed : Array Bool) (a : Act) (w : World), wpAnyL P md ops Q S m f listed a w → wpAny P md ops Q f listed a w
  | 0, _, _, _, h => h
  | f + 1, _, _, _, h => ⟨h.1, fun i hi => wpOp_mono (fun a' w' h' => wpAny_of_last f _ a' w' h'.2) (h.2 i hi)⟩

section
variable {i : Nat} {oi : Oper} {l0 : Array Bool} {G : Array Bool → Prop}
/-- and so it may be taken first -/
theorem Past.first {v : Value} (hi : ops[i]? = some oi) (hF : Region.free md ops l0 i = true) (hn : Region.noSelect ops = true) (hQ : ∀ c a w, Q (.panic c) (a.put oi.dst v) w → Q (.panic c) a w)
    (hW : Waits md ops m G) (him : i < m) (f : Nat) :
    ∀ {l : Array Bool} {a : Act} {w : World}, Past md ops m G i l0 l → YieldsIf P ops S oi v a → S w → wpAnyL P md ops Q S m f (l.setIfInBounds i true) (a.put oi.dst v) w → wpAnyL P md ops Q S m (f + 1) l a w := by
  induction f with
  | zero =>
    intro l a w h hy hS H
    have alone : ∀ j ∈ Region.ready md ops l, j = i := fun j hj => Decidable.byContradiction fun hne => List.not_mem_nil (H.1 ▸ ready_mono (i := i) hj hne)
    exact ⟨fun hb => absurd hb h.busy, fun j hj => by rw [alone j hj]; exact hy.wpOp hi hS ⟨fun _ => hS, H⟩⟩
  | succ f ih =>
    intro l a w h hy hS H
    refine ⟨fun hb => absurd hb h.busy, fun j hj => ?_⟩
    rcases Nat.decEq j i with hne | rfl
    · have hjm := h.head hW him hj
      obtain ⟨oj, hoj⟩ : ∃ oj, ops[j]? = some oj := let ⟨_, o, ho, _⟩ := mem_ready.1 hj; ⟨o, ho⟩
      refine wpOp_mono ?_ (wpOp_putIf hoj (h.apart hi hF hj hne hoj) (fun _ _ => Region.noSelect_spec hn _ _ _ _ hi) (fun _ _ => Region.noSelect_spec hn _ _ _ _ hoj) hQ hy (H.2 j (ready_mono hj hne)))
      rintro a' w' ⟨hy', hk, H'⟩
      exact ⟨hk, ih (h.set hW him hj hne) hy' (hk hjm) (by rwa [Array.setIfInBounds_comm _ _ hne])⟩
    · exact hy.wpOp hi hS ⟨fun _ => hS, H⟩
end

/-- the next one is taken first -/
theorem wpAnyL_take {i : Nat} {oi : Oper} {v : Value} {f : Nat} {listed : Array Bool} {a : Act} {w : World} (hi : ops[i]? = some oi)
    (hB : (Region.noSelect ops && Region.free md ops listed i && (Region.ready md ops listed).contains i && Region.sinkB md ops m && Region.chainB md ops m && decide (m < ops.size) && decide (i < m)) = true) (inv : HeadInv md ops m listed)
    (hQ : ∀ c a w, Q (.panic c) (a.put oi.dst v) w → Q (.panic c) a w) (hy : YieldsIf P ops S oi v a) (hS : S w)
    (h : HeadInv md ops m (listed.setIfInBounds i true) → wpAnyL P md ops Q S m f (listed.setIfInBounds i true) (a.put oi.dst v) w) : wpAnyL P md ops Q S m (f + 1) listed a w := by
  simp only [Bool.and_eq_true, decide_eq_true_eq] at hB
  obtain ⟨⟨⟨⟨⟨⟨h1, h2⟩, h3⟩, h4⟩, h5⟩, h6⟩, h7⟩ := hB
  have h3' : i ∈ Region.ready md ops listed := by simpa using h3
  exact Past.first hi h2 h1 hQ (waits_all h4 h5 h6) h7 f ⟨inv, trivial, h3', fun _ hk => hk⟩ hy hS (h (inv.set h3' h7))

/-- one alone may come up -/
theorem wpAnyL_one {i : Nat} {f : Nat} {listed : Array Bool} {a : Act} {w : World} (hr : Region.ready md ops listed = [i])
    (h : wpOp P ops Q i (fun a' w' => (i < m → S w') ∧ wpAnyL P md ops Q S m f (listed.setIfInBounds i true) a' w') a w) : wpAnyL P md ops Q S m (f + 1) listed a w :=
  ⟨fun h0 => (by rw [hr] at h0; cases h0), fun j hj => by rw [hr] at hj; obtain rfl := List.mem_singleton.1 hj; exact h⟩
theorem wpAnyL_done {listed : Array Bool} {a : Act} {w : World} (hr : Region.ready md ops listed = []) (h : Q .normal a w) : ∀ f, wpAnyL P md ops Q S m f listed a w
  | 0 => ⟨hr, h⟩
  | _ + 1 => ⟨fun _ => h, fun j hj => absurd (hr ▸ hj) List.not_mem_nil⟩
theorem wpOp_of_if {i : Nat} {o : Oper} {K : Act → World → Prop} {a : Act} {w : World} (ho : ops[i]? = some o) (h : if Region.wanted o (yielded ops a.tmps) = true then Oper.wp P o a w K Q else K (a.put o.dst undef) w) : wpOp P ops Q i K a w := by
  unfold wpOp
  simp only [ho]
  split
  · rename_i hw
    rw [if_pos hw] at h
    exact .inl h
  · rename_i hw
    rw [if_neg hw] at h
    exact h

theorem wp_region_last {id : Nat} {a : Act} {w : World} (m : Nat) (S : World → Prop) (hm : P.follows .mixedOrders = true)
    (h : HeadInv .any ops m (Array.replicate ops.size false) → wpAnyL P .any ops Q S m ops.size (Array.replicate ops.size false) a w.drew) : (Code.region id ops true).wp P Q a w :=
  wp_region_any hm (wpAny_of_last _ _ _ _ (h (start_inv .any ops m)))

end
end Go.Proofs.YtcdpboocfkaifaaGreatDoor
