/-
  The law's closed fact holds.
-/
import Derived.Test.YtogipjjmnmahnaaDoorScrTyped0
namespace Go.Proofs.YtogipjjmnmahnaaDoor
open Go Go.RowKit
set_option linter.unusedVariables false

theorem typed_beq : ((M.str typedT).toList == [102, 114, 97, 103, 32, 99, 111, 100, 101, 32, 49, 32, 45, 32, 48, 57, 48, 48, 48, 48, 10, 97, 116, 32, 49, 32, 97, 98, 115, 50, 32, 102, 32, 48, 10, 102, 114, 97, 103, 32, 122, 101, 114, 111, 32, 56, 32, 103, 32, 53, 10, 100, 101, 102, 32, 109, 97, 105, 110, 32, 115, 116, 114, 111, 110, 103, 32, 48, 32, 48, 10]) = true := by rw [Lib.toList_data]; rfl

set_option maxHeartbeats 2000000 in
set_option maxRecDepth 100000 in
theorem typed_any (w : World) (hG : Glob w) :
    Calls Tryd.prog 8 #[] w fun e w' => e = .returned (.bool true) ∧ Below w.heap.size w w' := by
  have HP : Hid (Calls Tryd.prog 6 #[.string (M.str typedT)] w (Reads w (⟨typedF, typedD⟩, 0, 0))) := by
    have := parse_any typedT w hG (by unfold maxLen; decide)
    rwa [typed_read] at this
  have hbq := typed_beq
  go_enter Tryd.func8, Tryd.ntmps8
  go_wp2_with (go_at_call 6; refine HP.out.mono ?_; rintro e x1 ⟨hb1, a1, c1, a2, c2, rfl, hf1, hd1⟩; refine Hid.out ?_)
  have hf1 : FragsAt x1 (.slice a1 2 c1) typedF := hf1
  have hd1 : DefsAt x1 (.slice a2 1 c2) typedD := hd1
  have HPr : Hid (∀ W, Below x1.heap.size x1 W → Calls Tryd.prog 5 #[.agg #[.slice a1 2 c1, .slice a2 1 c2]] W fun e w' => e = .returned (.tuple #[.string (M.str typedT), .int .i64 0]) ∧ Below W.heap.size W w') := fun W hW => by
    have := print_ok typedF typedD a1 a2 c1 c2 W ((hG.later hb1).later hW) (hf1.later hW) (hd1.later hW) typed_check
    rwa [typed_print] at this
  obtain ⟨b, off, ab, cb, ar, cr, har, e0, e1, e2, e3, e4, e5, _, _, _, _⟩ := FragsAt.cells (fs := typedF) (a := a1) (c := c1) hf1 1 (by decide)
  have e4 : x1.cell? ⟨b, off + 1 * 6 + 4, none⟩ = some (.int .i64 5) := e4
  have hbx : b < x1.heap.size := World.block_lt_of_cell? _ _ e4
  subst har
  clear e0 e1 e2 e3 e5 HP
  refine Lib.hid ?_
  go_wp2_with (go_at_call 5; refine (HPr.out _ ((Below.refl _ _).alloc (Nat.le_refl _) _)).mono ?_; rintro e x2 ⟨rfl, hb2⟩; refine Hid.out ?_)
  have q2 : x2.heap[x1.heap.size]? = some (.cells #[.slice (some ⟨b, off, none⟩) 2 c1, .slice a2 1 c2] 25 (0, 0)) := (hb2.block _ (by simp)).trans (heap_alloc_new _ _)
  have d0 : x2.cell? ⟨x1.heap.size, 0, none⟩ = some (.slice (some ⟨b, off, none⟩) 2 c1) := cellB q2 0
  have hb12 : Below x1.heap.size x1 x2 := ((Below.refl _ _).alloc (Nat.le_refl _) _).trans (hb2.mono (by simp))
  have e4 := cell_later hb12 e4
  have HE : Hid (Below w.heap.size w x2) := hb1.trans (hb12.mono hb1.size)
  clear hb2 q2 hb12
  refine Lib.hid ?_
  go_wp2
  go_ret
  exact ⟨rfl, HE.out⟩

end Go.Proofs.YtogipjjmnmahnaaDoor
