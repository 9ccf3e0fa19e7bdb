/-
  The closed fact: put.
-/
import Derived.Test.YtebhbhbhcoijpabFlEq
namespace Go.Proofs.Ytebhbhbhcoijpab
open Go.RowKit
set_option linter.unusedVariables false

theorem bytes3 {w : World} {B : Nat} {x y z : Int} (h : w.heap[B]? = some (.cells #[.int .u8 x, .int .u8 y, .int .u8 z] 5 (0, 0))) (hx : 0 ≤ x ∧ x < 256) (hy : 0 ≤ y ∧ y < 256) (hz : 0 ≤ z ∧ z < 256) : BytesAt w (.slice (some ⟨B, 0, none⟩) 3 3) [x, y, z] :=
  bytes_row (bs := [x, y, z]) (fun b hb => by simp at hb; rcases hb with rfl | rfl | rfl <;> assumption) (by unfold maxLen; simp) h 3

theorem put_closed : M.putB [1, 2, 3] 1 3 (-10) = ([1, 246, 3], 0) := by decide
theorem get_closed : M.get [1, 246, 3] 1 3 = (-10, 0) := by decide
theorem value_closed : M.value 3 20 10 0 = (-10, 0) := by decide

set_option maxHeartbeats 1000000 in
set_option maxRecDepth 100000 in
theorem put_true (w : World) : Calls Try.prog 10 #[] w fun e w' => e = .returned (.bool true) ∧ Below w.heap.size w w' := by
  have KV : Hid (∀ W, Calls Try.prog 5 #[.int .i64 3, .int .i64 20, .int .i64 10, .int .i64 0] W fun e w' => e = .returned (.tuple #[.int .i64 (-10), .int .i64 0]) ∧ W = w') := fun W => by
    have := value_any 3 20 10 0 W
    rw [value_closed] at this
    exact this.mono fun e w' ⟨h1, h2⟩ => ⟨h1, h2.symm⟩
  have KP : Hid (∀ W B, W.heap[B]? = some (.cells #[.int .u8 1, .int .u8 2, .int .u8 3] 5 (0, 0)) → Calls Try.prog 6 #[.slice (some ⟨B, 0, none⟩) 3 3, .int .i64 1, .int .i64 3, .int .i64 (-10)] W fun e w' => Below W.heap.size W w' ∧ ∃ a' c', e = .returned (.tuple #[.slice a' 3 c', .int .i64 0]) ∧ BytesAt w' (.slice a' 3 c') [1, 246, 3]) := fun W B hB => by
    have := put_any [1, 2, 3] (some ⟨B, 0, none⟩) 3 1 3 (-10) W (bytes3 hB (by decide) (by decide) (by decide))
    rw [put_closed] at this
    exact this
  have KG : Hid (∀ W a c, BytesAt W (.slice a 3 c) [1, 246, 3] → Calls Try.prog 7 #[.slice a 3 c, .int .i64 1, .int .i64 3] W fun e w' => e = .returned (.tuple #[.int .i64 (-10), .int .i64 0]) ∧ Below W.heap.size W w') := fun W a c h => by
    have := get_any [1, 246, 3] a c 1 3 W h
    rw [get_closed] at this
    exact this
  have KE : Hid (∀ W a c B, BytesAt W (.slice a 3 c) [1, 246, 3] → W.heap[B]? = some (.cells #[.int .u8 1, .int .u8 246, .int .u8 3] 5 (0, 0)) → Calls Try.prog 13 #[.slice a 3 c, .slice (some ⟨B, 0, none⟩) 3 3] W fun e w' => e = .returned (.bool true) ∧ W = w') := fun W a c B h1 h2 => by
    have := bytesEqual_any [1, 246, 3] [1, 246, 3] a (some ⟨B, 0, none⟩) c 3 W h1 (bytes3 h2 (by decide) (by decide) (by decide))
    rw [allTwo_self] at this
    exact this.mono fun e w' ⟨h1, h2⟩ => ⟨h1, h2.symm⟩
  go_enter Try.func10, Try.ntmps10
  go_wp2_with (first | (go_at_call 5; refine (KV.out _).mono ?_; rintro e w' ⟨rfl, rfl⟩) | (go_at_call 6; refine (KP.out _ _ (heap_new _ _)).mono ?_; rintro e w1 ⟨hb1, a1, c1, rfl, HA1⟩) | (go_at_call 7; refine (KG.out _ _ _ HA1).mono ?_; rintro e w2 ⟨rfl, hb2⟩) | (go_at_call 13; refine (KE.out _ _ _ _ ((HA1.later hb2).later ((Below.refl _ _).alloc (Nat.le_refl _) _)) (heap_new _ _)).mono ?_; rintro e w' ⟨rfl, rfl⟩))
  go_ret
  refine ⟨rfl, ?_⟩
  have h1 : Below w.heap.size w w1 := ((Below.refl w.heap.size w).alloc (Nat.le_refl _) _).trans (hb1.mono (by simp))
  have h2 : Below w.heap.size w w2 := h1.trans (hb2.mono h1.size)
  exact h2.alloc h2.size _

end Go.Proofs.Ytebhbhbhcoijpab
