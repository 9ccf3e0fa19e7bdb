/-
  The reference's checkFrag, where its lengths or its form are wrong.
-/
import Derived.Test.YthbdfnphnppagaaDoorRefFrag
namespace Go.Proofs.YthbdfnphnppagaaDoor
open Go.RowKit
set_option linter.unusedVariables false

theorem beq_no {a b : Int} (h : ¬ a = b) : (a == b) = false := by simpa using h
theorem bne_yes {a b : Int} (h : ¬ a = b) : (a != b) = true := by simpa using h

set_option maxHeartbeats 4000000 in
theorem rfrag_many (s al sz : Int) (g : ByteArray) (n1 m1 : Nat) (ab ar : Option Addr) (cb cr : Nat) (many : Int) (w : World) (hg : g.size ≤ maxLen)
    (h : M.within s 1 5 = true) (ha : M.isAlign al = true) (hgr : g.toList.isEmpty = true ∨ (g.toList.isEmpty = false ∧ M.isName g = true))
    (hR : 64 < n1 ∨ n1 ≤ 64 ∧ 8 < m1) (hn1 : n1 ≤ maxLen) (hm1 : m1 ≤ maxLen) :
    Calls Tryd.prog 43 #[.agg #[.int .i64 s, .int .i64 al, .string g, .slice ab n1 cb, .int .i64 sz, .slice ar m1 cr], .int .i64 many] w fun e w' =>
      e = .returned (.int .i64 2) ∧ Below w.heap.size w w' := by
  unfold maxLen at hn1 hm1
  have h' : 1 ≤ s ∧ s ≤ 5 := by simpa [M.within] using h
  have d1 := tst_ge h'.1
  have d2 := tst_ge h'.2
  clear h h'
  rcases hR with h64 | ⟨h64, h8⟩
  · have d64 : decide (64 < (n1 : Int)) = true := tst_lt (by omega)
    rcases hgr with hgr1 | ⟨hgr1, hgr2⟩
    · go_enter Tryd.func43, Tryd.ntmps43
      go_wp2_with (first | (go_at_call 44; refine (isAlign_any _ _).mono ?_; rintro e w1 ⟨rfl, hb1⟩; obtain ⟨hc1, hf1⟩ := bcell hb1))
      go_ret
      exact ⟨rfl, ((Below.refl _ _).alloc (Nat.le_refl _) _).trans (hb1.mono (by simp))⟩
    · go_enter Tryd.func43, Tryd.ntmps43
      go_wp2_with (first | (go_at_call 44; refine (isAlign_any _ _).mono ?_; rintro e w1 ⟨rfl, hb1⟩; obtain ⟨hc1, hf1⟩ := bcell hb1; have hz1 := lt_of_alloc hb1) | (go_at_call 13; refine (isName_any _ _ hg).mono ?_; rintro e w2 ⟨rfl, hb2⟩; obtain ⟨hc2, hf2⟩ := bcell hb2))
      go_ret
      exact ⟨rfl, ((Below.refl _ _).alloc (Nat.le_refl _) _).trans ((hb1.trans (hb2.mono hb1.size)).mono (by simp))⟩
  · have d64 : decide (64 < (n1 : Int)) = false := tst_ge (by omega)
    have d8 : decide (8 < (m1 : Int)) = true := tst_lt (by omega)
    rcases hgr with hgr1 | ⟨hgr1, hgr2⟩
    · go_enter Tryd.func43, Tryd.ntmps43
      go_wp2_with (first | (go_at_call 44; refine (isAlign_any _ _).mono ?_; rintro e w1 ⟨rfl, hb1⟩; obtain ⟨hc1, hf1⟩ := bcell hb1))
      go_ret
      exact ⟨rfl, ((Below.refl _ _).alloc (Nat.le_refl _) _).trans (hb1.mono (by simp))⟩
    · go_enter Tryd.func43, Tryd.ntmps43
      go_wp2_with (first | (go_at_call 44; refine (isAlign_any _ _).mono ?_; rintro e w1 ⟨rfl, hb1⟩; obtain ⟨hc1, hf1⟩ := bcell hb1; have hz1 := lt_of_alloc hb1) | (go_at_call 13; refine (isName_any _ _ hg).mono ?_; rintro e w2 ⟨rfl, hb2⟩; obtain ⟨hc2, hf2⟩ := bcell hb2))
      go_ret
      exact ⟨rfl, ((Below.refl _ _).alloc (Nat.le_refl _) _).trans ((hb1.trans (hb2.mono hb1.size)).mono (by simp))⟩

end Go.Proofs.YthbdfnphnppagaaDoor
