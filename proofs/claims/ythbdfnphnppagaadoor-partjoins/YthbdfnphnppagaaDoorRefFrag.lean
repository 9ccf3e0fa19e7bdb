/-
  The contract of the reference's checkFrag.
-/
import Derived.Test.YthbdfnphnppagaaDoorRefSmall
namespace Go.Proofs.YthbdfnphnppagaaDoor
open Go.RowKit
set_option linter.unusedVariables false

theorem tst_lt {a b : Int} (h : a < b) : decide (a < b) = true := decide_eq_true h
theorem tst_ge {a b : Int} (h : b ≤ a) : decide (a < b) = false := decide_eq_false (by omega)

theorem lt_of_alloc {w w1 : World} {o : Obj} (hb : Below (w.alloc o).heap.size (w.alloc o) w1) : w.heap.size < w1.heap.size := by
  have := hb.size
  simp at this
  omega

set_option maxHeartbeats 2000000 in
/-- an early answer: what is wrong ahead of the places -/
theorem rfrag_out (s al sz : Int) (g : ByteArray) (n1 m1 : Nat) (ab ar : Option Addr) (cb cr : Nat) (many : Int) (w : World) (hg : g.size ≤ maxLen)
    (R : Int) (hR : R = 3 ∧ (M.within s 1 5 = false ∨ M.within s 1 5 = true ∧ M.isAlign al = false)
      ∨ R = 1 ∧ M.within s 1 5 = true ∧ M.isAlign al = true ∧ g.toList.isEmpty = false ∧ M.isName g = false) :
    Calls Tryd.prog 43 #[.agg #[.int .i64 s, .int .i64 al, .string g, .slice ab n1 cb, .int .i64 sz, .slice ar m1 cr], .int .i64 many] w fun e w' =>
      e = .returned (.int .i64 R) ∧ Below w.heap.size w w' := by
  rcases hR with ⟨rfl, h | ⟨h, ha⟩⟩ | ⟨rfl, h, ha, hg1, hg2⟩
  · have h' : s < 1 ∨ (1 ≤ s ∧ 5 < s) := by simp [M.within] at h; omega
    clear h
    rcases h' with h1 | ⟨h1, h2⟩
    · have d1 := tst_lt h1
      go_enter Tryd.func43, Tryd.ntmps43
      go_wp2
      go_ret
      exact ⟨rfl, (Below.refl _ _).alloc (Nat.le_refl _) _⟩
    · have d1 := tst_ge h1
      have d2 := tst_lt h2
      go_enter Tryd.func43, Tryd.ntmps43
      go_wp2
      go_ret
      exact ⟨rfl, (Below.refl _ _).alloc (Nat.le_refl _) _⟩
  · have h' : 1 ≤ s ∧ s ≤ 5 := by simpa [M.within] using h
    have d1 := tst_ge h'.1
    have d2 := tst_ge h'.2
    clear h h'
    go_enter Tryd.func43, Tryd.ntmps43
    go_wp2_with (go_at_call 44; refine (isAlign_any _ _).mono ?_; rintro e w1 ⟨rfl, hb1⟩; obtain ⟨hc1, hf1⟩ := bcell hb1)
    go_ret
    exact ⟨rfl, ((Below.refl _ _).alloc (Nat.le_refl _) _).trans (hb1.mono (by simp))⟩
  · have h' : 1 ≤ s ∧ s ≤ 5 := by simpa [M.within] using h
    have d1 := tst_ge h'.1
    have d2 := tst_ge h'.2
    clear h h'
    go_enter Tryd.func43, Tryd.ntmps43
    go_wp2_with (first | (go_at_call 44; refine (isAlign_any _ _).mono ?_; rintro e w1 ⟨rfl, hb1⟩; obtain ⟨hc1, hf1⟩ := bcell hb1) | (go_at_call 13; refine (isName_any _ _ hg).mono ?_; rintro e w2 ⟨rfl, hb2⟩; obtain ⟨hc2, hf2⟩ := bcell hb2))
    go_ret
    exact ⟨rfl, ((Below.refl _ _).alloc (Nat.le_refl _) _).trans ((hb1.trans (hb2.mono hb1.size)).mono (by simp))⟩

end Go.Proofs.YthbdfnphnppagaaDoor
