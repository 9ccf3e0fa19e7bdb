/-
  The contract of the law's closed fact on images: it is true.
-/
import Derived.Test.YtabkbicaignicaaLdA
import Derived.Test.YtabkbicaignicaaSameA
namespace Go.Proofs.Ytabkbicaignicaa
open Go Go.RowKit
set_option linter.unusedVariables false

def ldSeg : M.Seg := ⟨4, [1, 2, 3], 1, true, false⟩
def ldImg : M.Img := ⟨0, [ldSeg]⟩
theorem ld_chk : M.chkImg ldImg = 0 := by decide +kernel
theorem ld_byte : M.byteIn ldImg.segs 6 = 3 ∧ M.thereAt ldImg.segs 6 = true ∧ (M.segAt ldImg.segs 6).writes = true ∧ (M.segAt ldImg.segs 6).works = false := by decide +kernel
theorem ld_r3 : M.range ldImg 5 3 = [2, 3, 0] ∧ M.rangeErr ldImg 5 3 = 0 := by decide +kernel
theorem ld_r4 : M.range ldImg 5 4 = [] ∧ M.rangeErr ldImg 5 4 = 5 := by decide +kernel

theorem one_seg {X : World} {g c : Nat} {t : TypeId} {fr : Nat × Nat} {s : M.Seg} {vb : Value} (q : X.heap[g]? = some (.cells #[.int .i64 s.pos, vb, .int .i64 s.zeros, .bool s.writes, .bool s.works] t fr)) (hb : BytesAt X vb s.bytes) : SegsAt X (.slice (some ⟨g, 0, none⟩) 1 c) [s] := by
  refine ⟨fun j i => (X.cell? ⟨g, i, none⟩).getD undef, ⟨_, _, rfl, by show 1 ≤ maxLen; unfold maxLen; decide, .inr ⟨g, 0, rfl, fun j i hj hi => ?_⟩⟩, fun j hj => ?_⟩
  · have hj' : j = 0 := by have : j < 1 := hj; omega
    subst hj'
    rw [Nat.zero_mul, Nat.zero_add]; try rw [Nat.zero_add]
    have hc : i = 0 ∨ i = 1 ∨ i = 2 ∨ i = 3 ∨ i = 4 := by omega
    rcases hc with rfl | rfl | rfl | rfl | rfl <;> simp only [cellB q] <;> rfl
  · have hj' : j = 0 := by have : j < 1 := hj; omega
    subst hj'
    refine ⟨?_, ?_, ?_, ?_, ?_⟩
    · show (X.cell? ⟨g, 0, none⟩).getD undef = _; rw [cellB q]; rfl
    · show BytesAt X ((X.cell? ⟨g, 1, none⟩).getD undef) _; rw [cellB q]; exact hb
    · show (X.cell? ⟨g, 2, none⟩).getD undef = _; rw [cellB q]; rfl
    · show (X.cell? ⟨g, 3, none⟩).getD undef = _; rw [cellB q]; rfl
    · show (X.cell? ⟨g, 4, none⟩).getD undef = _; rw [cellB q]; rfl

set_option maxHeartbeats 8000000 in
set_option maxRecDepth 100000 in
theorem loaded_any (w : World) :
    Calls Try.prog 17 #[] w fun e w' => e = .returned (.bool true) ∧ Below w.heap.size w w' := by
  obtain ⟨X, HX⟩ : ∃ X, Hid (X = ((w.alloc (.cells #[.int .u8 1, .int .u8 2, .int .u8 3] 5)).alloc (.cells #[.int .i64 4, .slice (some ⟨w.heap.size, 0, none⟩) 3 3, .int .i64 1, .bool true, .bool false] 62)).alloc (.cells #[.int .i64 0, .slice (some ⟨w.heap.size + 1, 0, none⟩) 1 1] 28)) := ⟨_, rfl⟩
  have hB : Below w.heap.size w X := by rw [HX.out]; exact (((Below.refl _ _).alloc (Nat.le_refl _) _).alloc (by simp) _).alloc (by simp; omega) _
  have q0 : X.heap[w.heap.size]? = some (.cells #[.int .u8 1, .int .u8 2, .int .u8 3] 5 (0, 0)) := by
    rw [HX.out]
    exact (heap_alloc_old _ _ (by simp; omega)).trans (heap_alloc2_old _ _ _)
  have q1 : X.heap[w.heap.size + 1]? = some (.cells #[.int .i64 4, .slice (some ⟨w.heap.size, 0, none⟩) 3 3, .int .i64 1, .bool true, .bool false] 62 (0, 0)) := by
    rw [HX.out]
    exact (heap_alloc_old _ _ (by simp)).trans (heap_alloc2_new _ _ _)
  have q2 : X.heap[w.heap.size + 1 + 1]? = some (.cells #[.int .i64 0, .slice (some ⟨w.heap.size + 1, 0, none⟩) 1 1] 28 (0, 0)) := by
    rw [HX.out]
    have := heap_alloc_new ((w.alloc (.cells #[.int .u8 1, .int .u8 2, .int .u8 3] 5)).alloc (.cells #[.int .i64 4, .slice (some ⟨w.heap.size, 0, none⟩) 3 3, .int .i64 1, .bool true, .bool false] 62)) (.cells #[.int .i64 0, .slice (some ⟨w.heap.size + 1, 0, none⟩) 1 1] 28)
    simpa using this
  have hby : BytesAt X (.slice (some ⟨w.heap.size, 0, none⟩) 3 3) [1, 2, 3] := row_bytes (bs := [1, 2, 3]) (by decide) (by unfold maxLen; decide) q0 3
  have hS : SegsAt X (.slice (some ⟨w.heap.size + 1, 0, none⟩) 1 1) ldImg.segs := one_seg (s := ldSeg) q1 hby
  have KB : Hid (Calls Try.prog 20 #[.agg #[.int .i64 0, .slice (some ⟨w.heap.size + 1, 0, none⟩) 1 1], .int .i64 6] X fun e w' => e = .returned (.tuple #[.int .u8 3, .bool true, .bool true, .bool false, .int .i64 0]) ∧ Below X.heap.size X w') := by
    have := byte_ok ldImg 6 _ 1 X hS ld_chk
    rw [ld_byte.1, ld_byte.2.1, ld_byte.2.2.1, ld_byte.2.2.2] at this
    exact this
  have KR3 : Hid (∀ Z, Below X.heap.size X Z → Calls Try.prog 13 #[.agg #[.int .i64 0, .slice (some ⟨w.heap.size + 1, 0, none⟩) 1 1], .int .i64 5, .int .i64 3] Z fun e w' => Below Z.heap.size Z w' ∧ ∃ x y, e = .returned (.tuple #[.slice x 3 y, .int .i64 0]) ∧ BytesAt w' (.slice x 3 y) [2, 3, 0]) := fun Z hZ => by
    have := lrange_any ldImg 5 3 _ 1 Z (hS.later hZ)
    rw [ld_r3.1, ld_r3.2] at this
    exact this
  have KR4 : Hid (∀ Z, Below X.heap.size X Z → Calls Try.prog 13 #[.agg #[.int .i64 0, .slice (some ⟨w.heap.size + 1, 0, none⟩) 1 1], .int .i64 5, .int .i64 4] Z fun e w' => Below Z.heap.size Z w' ∧ ∃ x y, e = .returned (.tuple #[.slice x 0 y, .int .i64 5]) ∧ BytesAt w' (.slice x 0 y) []) := fun Z hZ => by
    have := lrange_any ldImg 5 4 _ 1 Z (hS.later hZ)
    rw [ld_r4.1, ld_r4.2] at this
    exact this
  have HQ : Hid (∀ Z, Below X.heap.size X Z → Z.cell? ⟨w.heap.size + 1 + 1, 0, none⟩ = some (.int .i64 0) ∧ Z.cell? ⟨w.heap.size + 1 + 1, 1, none⟩ = some (.slice (some ⟨w.heap.size + 1, 0, none⟩) 1 1) ∧ w.heap.size + 1 + 1 < Z.heap.size) := fun Z hZ => by
    have y := (hZ.block _ (Array.getElem?_eq_some_iff.1 q2).1).trans q2
    exact ⟨cellB y 0, cellB y 1, (Array.getElem?_eq_some_iff.1 y).1⟩
  obtain ⟨c0, c1, cl⟩ := HQ.out X (Below.refl _ _)
  have HB : Hid (Below w.heap.size w X) := hB
  clear q0 q1 q2 hby hS hB
  go_enter Try.func17, Try.ntmps17
  go_upto_region 2 with fail
  rw [← HX.out]
  clear HX
  go_upto_region 3 with (go_at_call 20; refine KB.out.mono ?_; rintro e w1 ⟨rfl, hb1⟩)
  obtain ⟨x0, x1, xl⟩ := HQ.out _ hb1
  have K3 : Hid _ := KR3.out _ hb1
  have HB1 : Hid (Below X.heap.size X w1) := hb1
  clear c0 c1 cl KB KR3 hb1
  go_upto_region 4 with (go_at_call 13; refine (show Calls _ _ _ _ _ from K3.out).mono ?_; rintro e w2 ⟨hb2, u, v, rfl, hY⟩)
  have hb2' : Below X.heap.size X w2 := HB1.out.trans (hb2.mono HB1.out.size)
  obtain ⟨y0, y1, yl⟩ := HQ.out _ hb2'
  have K4 : Hid _ := KR4.out _ hb2'
  have HB2 : Hid (Below X.heap.size X w2) := hb2'
  have HY : Hid (BytesAt w2 (.slice u 3 v) [2, 3, 0]) := hY
  clear x0 x1 xl K3 KR4 hb2 HB1 hb2' hY
  go_upto_region 5 with (go_at_call 13; refine (show Calls _ _ _ _ _ from K4.out).mono ?_; rintro e w3 ⟨hb3, u', v', rfl, _⟩)
  have HB3 : Hid (Below w.heap.size w w3) := HB.out.trans ((HB2.out.trans (hb3.mono HB2.out.size)).mono HB.out.size)
  have hbg : Below w3.heap.size w3 (w3.alloc (.cells #[.int .u8 2, .int .u8 3, .int .u8 0] 5)) := (Below.refl _ _).alloc (Nat.le_refl _) _
  have hg : BytesAt (w3.alloc (.cells #[.int .u8 2, .int .u8 3, .int .u8 0] 5)) (.slice (some ⟨w3.heap.size, 0, none⟩) 3 3) [2, 3, 0] := row_bytes (bs := [2, 3, 0]) (by decide) (by unfold maxLen; decide) (heap_alloc_new w3 _) 3
  have KE : Hid (Calls Try.prog 40 #[.slice u 3 v, .slice (some ⟨w3.heap.size, 0, none⟩) 3 3] (w3.alloc (.cells #[.int .u8 2, .int .u8 3, .int .u8 0] 5)) fun e w' => e = .returned (.bool true) ∧ w' = (w3.alloc (.cells #[.int .u8 2, .int .u8 3, .int .u8 0] 5))) := bytesEqual_any [2, 3, 0] [2, 3, 0] u _ v 3 _ ((HY.out.later hb3).later hbg) hg
  have HBg : Hid (Below w.heap.size w (w3.alloc (.cells #[.int .u8 2, .int .u8 3, .int .u8 0] 5))) := HB3.out.alloc HB3.out.size _
  clear HB3 hbg hg HY K4 y0 y1 yl hb3 HQ HB2 HB
  go_wp2_with (go_at_call 40; refine KE.out.mono ?_; rintro e w5 ⟨rfl, rfl⟩)
  go_ret
  exact ⟨rfl, HBg.out⟩

end Go.Proofs.Ytabkbicaignicaa
