/-
  The contracts of load.Byte and load.Range.
-/
import Derived.Test.YtmimeanfhdkhaaaLdLoad3
import Derived.Laws.OwnMore
namespace Go.Proofs.Ytmimeanfhdkhaaa
open Go Go.RowKit
set_option linter.unusedVariables false
attribute [local go_sem] lat_cell

theorem lwithin_iff {n a b : Int} : M.within n a b = true ↔ a ≤ n ∧ n ≤ b := by
  simp [M.within, Bool.and_eq_true, decide_eq_true_eq]
theorem SegsAt.small {w : World} {v : Value} {l : List M.Seg} (h : SegsAt w v l) : ∀ s ∈ l, ∀ b ∈ s.bytes, 0 ≤ b ∧ b < 256 := fun s hs => by
  obtain ⟨i, hi, rfl⟩ := List.getElem_of_mem hs
  obtain ⟨cell, _, h2⟩ := h
  have := (h2 i hi).bytes.2
  rwa [List.getD_eq_getElem?_getD, List.getElem?_eq_getElem hi] at this
theorem segAt_mem {l : List M.Seg} {a : Int} (h : M.thereAt l a = true) : M.segAt l a ∈ l := by
  unfold M.thereAt at h
  exact getD_mem l M.seg0 _ (of_decide_eq_true h)
theorem segAt_has {l : List M.Seg} {a : Int} (h : M.thereAt l a = true) : (M.segAt l a).pos ≤ a ∧ a < M.segEnd (M.segAt l a) := by
  have := M.has_at (l := l) (a := a) (by unfold M.thereAt at h; exact of_decide_eq_true h)
  unfold M.segHas at this
  simpa using this
theorem byteIn_none {l : List M.Seg} {a : Int} (h : M.thereAt l a = false) : M.byteIn l a = 0 ∧ M.segAt l a = M.seg0 := by
  have h1 : ¬ M.segIx l a < l.length := by unfold M.thereAt at h; exact of_decide_eq_false h
  have h2 : M.segAt l a = M.seg0 := by
    unfold M.segAt
    rw [List.getD_eq_getElem?_getD, List.getElem?_eq_none (by omega)]; rfl
  refine ⟨?_, h2⟩
  unfold M.byteIn M.byteOf
  rw [h2]
  split <;> rfl
theorem byteIn_range {l : List M.Seg} (h : ∀ s ∈ l, ∀ b ∈ s.bytes, 0 ≤ b ∧ b < 256) (a : Int) : 0 ≤ M.byteIn l a ∧ M.byteIn l a < 256 := by
  cases ht : M.thereAt l a
  · rw [(byteIn_none ht).1]; decide
  · have hs := segAt_mem ht
    unfold M.byteIn M.byteOf
    split
    · by_cases hk : (a - (M.segAt l a).pos).toNat < (M.segAt l a).bytes.length
      · exact h _ hs _ (getD_mem _ 0 _ hk)
      · rw [List.getD_eq_getElem?_getD, List.getElem?_eq_none (by omega)]; decide
    · decide

set_option maxHeartbeats 4000000 in
set_option maxRecDepth 100000 in
theorem byte_bad (m : M.Img) (at_ : Int) (a : Option Addr) (c : Nat) (w : World) (hS : SegsAt w (.slice a m.segs.length c) m.segs) (hc : M.chkImg m ≠ 0) :
    Calls Try.prog 7 #[.agg #[.int .i64 m.entry, .slice a m.segs.length c], .int .i64 at_] w fun e w' => e = .returned (.tuple #[.int .u8 0, .bool false, .bool false, .bool false, .int .i64 (M.chkImg m)]) ∧ Below w.heap.size w w' := by
  have hB : Below w.heap.size w (w.alloc (.cells #[.int .i64 m.entry, .slice a m.segs.length c] 24)) := (Below.refl _ _).alloc (Nat.le_refl _) _
  have KC : Hid (Calls Try.prog 11 #[.agg #[.int .i64 m.entry, .slice a m.segs.length c]] (w.alloc (.cells #[.int .i64 m.entry, .slice a m.segs.length c] 24)) _) := lcheck_any m a c _ (hS.later hB)
  clear hS
  generalize M.chkImg m = R at *
  have hc' : (R != 0) = true := by simpa using hc
  generalize m.segs.length = n at *
  generalize m.entry = en at *
  clear hc
  go_enter Try.func7, Try.ntmps7
  go_wp2_with (go_at_call 11; refine KC.out.mono ?_; rintro e w1 ⟨rfl, hb1⟩)
  refine bodyPost_ret (v := .tuple #[.int .u8 0, .bool false, .bool false, .bool false, .int .i64 R]) (by simp [results, Try.results7, go_sem]) rfl ?_
  exact ⟨rfl, hB.trans (hb1.mono hB.size)⟩

set_option maxHeartbeats 8000000 in
set_option maxRecDepth 100000 in
theorem byte_ok (m : M.Img) (at_ : Int) (a : Option Addr) (c : Nat) (w : World) (hS : SegsAt w (.slice a m.segs.length c) m.segs) (hc : M.chkImg m = 0) :
    Calls Try.prog 7 #[.agg #[.int .i64 m.entry, .slice a m.segs.length c], .int .i64 at_] w fun e w' => e = .returned (.tuple #[.int .u8 (M.byteIn m.segs at_), .bool (M.thereAt m.segs at_), .bool (M.segAt m.segs at_).writes, .bool (M.segAt m.segs at_).works, .int .i64 0]) ∧ Below w.heap.size w w' := by
  obtain ⟨W, HW⟩ : ∃ W, Hid (W = w.alloc (.cells #[.int .i64 m.entry, .slice a m.segs.length c] 24)) := ⟨_, rfl⟩
  have hB : Below w.heap.size w W := by rw [HW.out]; exact (Below.refl _ _).alloc (Nat.le_refl _) _
  have q : W.heap[w.heap.size]? = some (.cells #[.int .i64 m.entry, .slice a m.segs.length c] 24 (0, 0)) := by rw [HW.out]; exact heap_alloc_new _ _
  have KC : Hid (Calls Try.prog 11 #[.agg #[.int .i64 m.entry, .slice a m.segs.length c]] W fun e w' => e = .returned (.int .i64 0) ∧ Below W.heap.size W w') := by
    have := lcheck_any m a c W (hS.later hB)
    rwa [hc] at this
  have hfit := M.chkImg_fit hc
  have KS : Hid (∀ X, Below w.heap.size w X → _) := fun X hX => segmentAt_any m.segs at_ a c X (hS.later hX) hfit
  have HT : Hid (M.thereAt m.segs at_ = true → M.SegFit (M.segAt m.segs at_) ∧ (M.segAt m.segs at_).pos ≤ at_ ∧ at_ < M.segEnd (M.segAt m.segs at_)) := fun h => ⟨hfit _ (segAt_mem h), segAt_has h⟩
  have HN : Hid (M.thereAt m.segs at_ = false → M.byteIn m.segs at_ = 0 ∧ M.segAt m.segs at_ = M.seg0) := fun h => byteIn_none h
  have HBy : Hid (M.byteIn m.segs at_ = M.byteOf (M.segAt m.segs at_) at_) := rfl
  have HQ : Hid (∀ X, Below W.heap.size W X → X.cell? ⟨w.heap.size, 0, none⟩ = some (.int .i64 m.entry) ∧ X.cell? ⟨w.heap.size, 1, none⟩ = some (.slice a m.segs.length c) ∧ w.heap.size < X.heap.size) := fun X hX => by
    have y := (hX.block _ (Array.getElem?_eq_some_iff.1 q).1).trans q
    exact ⟨cellB y 0, cellB y 1, (Array.getElem?_eq_some_iff.1 y).1⟩
  obtain ⟨c0, c1, cl⟩ := HQ.out W (Below.refl _ _)
  have HB : Hid (Below w.heap.size w W) := hB
  clear hS hc hfit q hB
  generalize M.byteIn m.segs at_ = B at *
  generalize M.segAt m.segs at_ = S at *
  generalize M.thereAt m.segs at_ = T at *
  generalize m.segs.length = n at *
  generalize m.entry = en at *
  go_enter Try.func7, Try.ntmps7
  go_upto_region 1 with fail
  rw [← HW.out]
  clear HW
  go_upto_region 2 with (go_at_call 11; refine KC.out.mono ?_; rintro e w1 ⟨rfl, hb1⟩)
  obtain ⟨x0, x1, xl⟩ := HQ.out _ hb1
  have HB1 : Hid (Below w.heap.size w w1) := HB.out.trans (hb1.mono HB.out.size)
  clear c0 c1 cl KC hb1 HQ HB
  go_upto_region 5 with (go_at_call 27; refine (KS.out _ HB1.out).mono ?_; rintro e w2 ⟨hb2, ab, cb, rfl, hY⟩)
  have hXb : Below w2.heap.size w2 (w2.alloc (.cells #[.int .i64 S.pos, .slice ab S.bytes.length cb, .int .i64 S.zeros, .bool S.writes, .bool S.works] 36)) := (Below.refl _ _).alloc (Nat.le_refl _) _
  have hXq := heap_alloc_new w2 (.cells #[.int .i64 S.pos, .slice ab S.bytes.length cb, .int .i64 S.zeros, .bool S.writes, .bool S.works] 36)
  have HY : Hid (BytesAt (w2.alloc (.cells #[.int .i64 S.pos, .slice ab S.bytes.length cb, .int .i64 S.zeros, .bool S.writes, .bool S.works] 36)) (.slice ab S.bytes.length cb) S.bytes) := hY.later hXb
  have HB2 : Hid (Below w.heap.size w (w2.alloc (.cells #[.int .i64 S.pos, .slice ab S.bytes.length cb, .int .i64 S.zeros, .bool S.writes, .bool S.works] 36))) := (HB1.out.trans (hb2.mono HB1.out.size)).trans (hXb.mono (Nat.le_trans HB1.out.size hb2.size))
  clear hXb hY hb2 HB1 x0 x1 xl KS
  generalize w2.alloc (.cells #[.int .i64 S.pos, .slice ab S.bytes.length cb, .int .i64 S.zeros, .bool S.writes, .bool S.works] 36) = X at *
  generalize w2.heap.size = g at *
  have y0 := cellB hXq 0
  have y1 := cellB hXq 1
  have y2 := cellB hXq 2
  have y3 := cellB hXq 3
  have y4 := cellB hXq 4
  have yl : g < X.heap.size := (Array.getElem?_eq_some_iff.1 hXq).1
  simp at y0 y1 y2 y3 y4
  clear hXq
  cases T
  · obtain ⟨h1, h2⟩ := HN.out rfl
    subst h1 h2
    clear HN HT HBy HY
    go_wp2
    refine bodyPost_ret (v := .tuple #[.int .u8 0, .bool false, .bool false, .bool false, .int .i64 0]) (by simp [results, Try.results7, go_sem]) rfl ?_
    exact ⟨rfl, HB2.out⟩
  · obtain ⟨hf, hp, he⟩ := HT.out rfl
    have KB : Hid (∀ Z, Below X.heap.size X Z → Calls Try.prog 28 #[.agg #[.int .i64 S.pos, .slice ab S.bytes.length cb, .int .i64 S.zeros, .bool S.writes, .bool S.works], .int .i64 at_] Z fun e w' => e = .returned (.int .u8 B) ∧ Below Z.heap.size Z w') := fun Z hZ => by
      have := byteOf_any S at_ ab cb Z (HY.out.later hZ) ⟨hf.pos.1, hp⟩ (by have := hf.fin; omega)
      rwa [← HBy.out] at this
    clear HN HT HBy HY hf hp he
    go_wp2_with fail
    refine wp_region_lat (by kernel_rfl) (by kernel_rfl) ?_
    intro hne
    repeat (go_big_quiet_step ((go_at_call 28; exact lat_of (KB.out _ (Lat.below _)))))
    refine wpQuiet_nil ?_
    intro w3 hb3
    have hb4 := lat_out hb3
    clear hb3
    go_wp2
    refine bodyPost_ret (v := .tuple #[.int .u8 B, .bool true, .bool S.writes, .bool S.works, .int .i64 0]) (by simp [results, Try.results7, go_sem]) rfl ?_
    exact ⟨rfl, HB2.out.trans (hb4.mono HB2.out.size)⟩

end Go.Proofs.Ytmimeanfhdkhaaa
