/-
  The reference's checkFrag, where its form is wrong.
-/
import Derived.Test.YthbdfnphnppagaaDoorRefFrag2
namespace Go.Proofs.YthbdfnphnppagaaDoor
open Go.RowKit
set_option linter.unusedVariables false

theorem frm_ways {s sz : Int} {n m : Nat} (h : frm s sz n m = false) :
    (s = 5 ∧ 0 < n) ∨ (s = 5 ∧ n = 0 ∧ 0 < m) ∨ (s = 5 ∧ n = 0 ∧ m = 0 ∧ sz < 0) ∨ (s = 5 ∧ n = 0 ∧ m = 0 ∧ 0 ≤ sz ∧ 64 < sz) ∨ (¬ s = 5 ∧ ¬ sz = 0) ∨ (s = 3 ∧ sz = 0 ∧ 0 < m) := by
  unfold frm at h
  by_cases h5 : s = 5
  · rw [if_pos h5] at h
    simp [M.within] at h
    omega
  · rw [if_neg h5] at h
    by_cases h3 : s = 3
    · rw [if_pos h3] at h
      simp at h
      omega
    · rw [if_neg h3] at h
      simp at h
      omega

set_option maxHeartbeats 8000000 in
set_option maxRecDepth 100000 in
theorem rfrag_form (s al sz : Int) (g : ByteArray) (n1 m1 : Nat) (ab ar : Option Addr) (cb cr : Nat) (many : Int) (w : World) (hg : g.size ≤ maxLen)
    (h : M.within s 1 5 = true) (ha : M.isAlign al = true) (hgr : g.toList.isEmpty = true ∨ (g.toList.isEmpty = false ∧ M.isName g = true))
    (h64 : n1 ≤ 64) (h8 : m1 ≤ 8) (hfo : frm s sz n1 m1 = false) :
    Calls Tryd.prog 43 #[.agg #[.int .i64 s, .int .i64 al, .string g, .slice ab n1 cb, .int .i64 sz, .slice ar m1 cr], .int .i64 many] w fun e w' =>
      e = .returned (.int .i64 4) ∧ Below w.heap.size w w' := by
  have h' : 1 ≤ s ∧ s ≤ 5 := by simpa [M.within] using h
  have d1 := tst_ge h'.1
  have d2 := tst_ge h'.2
  have d64 : decide (64 < (n1 : Int)) = false := tst_ge (by omega)
  have d8 : decide (8 < (m1 : Int)) = false := tst_ge (by omega)
  have hw := frm_ways hfo
  clear h h' hfo
  rcases hw with ⟨rfl, x1⟩ | ⟨rfl, x1, x2⟩ | ⟨rfl, x1, x2, x3⟩ | ⟨rfl, x1, x2, x3, x4⟩ | ⟨x0, x1⟩ | ⟨rfl, x0, x1⟩
  · have q0 : (0 : Int) < (n1 : Int) := by omega
    clear d1 d2
    rcases hgr with hgr1 | ⟨hgr1, hgr2⟩
    · go_enter Tryd.func43, Tryd.ntmps43
      go_wp2_with (first | (go_at_call 44; refine (isAlign_any _ _).mono ?_; rintro e w1 ⟨rfl, hb1⟩; obtain ⟨hc1, hf1⟩ := bcell hb1))
      go_ret
      exact ⟨rfl, ((Below.refl _ _).alloc (Nat.le_refl _) _).trans (hb1.mono (by simp))⟩
    · go_enter Tryd.func43, Tryd.ntmps43
      go_wp2_with (first | (go_at_call 44; refine (isAlign_any _ _).mono ?_; rintro e w1 ⟨rfl, hb1⟩; obtain ⟨hc1, hf1⟩ := bcell hb1; have hz1 := lt_of_alloc hb1) | (go_at_call 13; refine (isName_any _ _ hg).mono ?_; rintro e w2 ⟨rfl, hb2⟩; obtain ⟨hc2, hf2⟩ := bcell hb2))
      go_ret
      exact ⟨rfl, ((Below.refl _ _).alloc (Nat.le_refl _) _).trans ((hb1.trans (hb2.mono hb1.size)).mono (by simp))⟩
  · subst x1
    have q0 : (0 : Int) < (m1 : Int) := by omega
    clear d1 d2 d64
    rcases hgr with hgr1 | ⟨hgr1, hgr2⟩
    · go_enter Tryd.func43, Tryd.ntmps43
      go_wp2_with (first | (go_at_call 44; refine (isAlign_any _ _).mono ?_; rintro e w1 ⟨rfl, hb1⟩; obtain ⟨hc1, hf1⟩ := bcell hb1))
      go_ret
      exact ⟨rfl, ((Below.refl _ _).alloc (Nat.le_refl _) _).trans (hb1.mono (by simp))⟩
    · go_enter Tryd.func43, Tryd.ntmps43
      go_wp2_with (first | (go_at_call 44; refine (isAlign_any _ _).mono ?_; rintro e w1 ⟨rfl, hb1⟩; obtain ⟨hc1, hf1⟩ := bcell hb1; have hz1 := lt_of_alloc hb1) | (go_at_call 13; refine (isName_any _ _ hg).mono ?_; rintro e w2 ⟨rfl, hb2⟩; obtain ⟨hc2, hf2⟩ := bcell hb2))
      go_ret
      exact ⟨rfl, ((Below.refl _ _).alloc (Nat.le_refl _) _).trans ((hb1.trans (hb2.mono hb1.size)).mono (by simp))⟩
  · subst x1
    subst x2
    clear d1 d2 d64 d8
    rcases hgr with hgr1 | ⟨hgr1, hgr2⟩
    · go_enter Tryd.func43, Tryd.ntmps43
      go_wp2_with (first | (go_at_call 44; refine (isAlign_any _ _).mono ?_; rintro e w1 ⟨rfl, hb1⟩; obtain ⟨hc1, hf1⟩ := bcell hb1))
      go_ret
      exact ⟨rfl, ((Below.refl _ _).alloc (Nat.le_refl _) _).trans (hb1.mono (by simp))⟩
    · go_enter Tryd.func43, Tryd.ntmps43
      go_wp2_with (first | (go_at_call 44; refine (isAlign_any _ _).mono ?_; rintro e w1 ⟨rfl, hb1⟩; obtain ⟨hc1, hf1⟩ := bcell hb1; have hz1 := lt_of_alloc hb1) | (go_at_call 13; refine (isName_any _ _ hg).mono ?_; rintro e w2 ⟨rfl, hb2⟩; obtain ⟨hc2, hf2⟩ := bcell hb2))
      go_ret
      exact ⟨rfl, ((Below.refl _ _).alloc (Nat.le_refl _) _).trans ((hb1.trans (hb2.mono hb1.size)).mono (by simp))⟩
  · subst x1
    subst x2
    clear d1 d2 d64 d8
    rcases hgr with hgr1 | ⟨hgr1, hgr2⟩
    · go_enter Tryd.func43, Tryd.ntmps43
      go_wp2_with (first | (go_at_call 44; refine (isAlign_any _ _).mono ?_; rintro e w1 ⟨rfl, hb1⟩; obtain ⟨hc1, hf1⟩ := bcell hb1))
      go_ret
      exact ⟨rfl, ((Below.refl _ _).alloc (Nat.le_refl _) _).trans (hb1.mono (by simp))⟩
    · go_enter Tryd.func43, Tryd.ntmps43
      go_wp2_with (first | (go_at_call 44; refine (isAlign_any _ _).mono ?_; rintro e w1 ⟨rfl, hb1⟩; obtain ⟨hc1, hf1⟩ := bcell hb1; have hz1 := lt_of_alloc hb1) | (go_at_call 13; refine (isName_any _ _ hg).mono ?_; rintro e w2 ⟨rfl, hb2⟩; obtain ⟨hc2, hf2⟩ := bcell hb2))
      go_ret
      exact ⟨rfl, ((Below.refl _ _).alloc (Nat.le_refl _) _).trans ((hb1.trans (hb2.mono hb1.size)).mono (by simp))⟩
  · have q1 := beq_no x0
    have q2 := bne_yes x0
    have q3 := bne_yes x1
    clear x0 x1
    rcases hgr with hgr1 | ⟨hgr1, hgr2⟩
    · go_enter Tryd.func43, Tryd.ntmps43
      go_wp2_with (first | (go_at_call 44; refine (isAlign_any _ _).mono ?_; rintro e w1 ⟨rfl, hb1⟩; obtain ⟨hc1, hf1⟩ := bcell hb1))
      go_ret
      exact ⟨rfl, ((Below.refl _ _).alloc (Nat.le_refl _) _).trans (hb1.mono (by simp))⟩
    · go_enter Tryd.func43, Tryd.ntmps43
      go_wp2_with (first | (go_at_call 44; refine (isAlign_any _ _).mono ?_; rintro e w1 ⟨rfl, hb1⟩; obtain ⟨hc1, hf1⟩ := bcell hb1; have hz1 := lt_of_alloc hb1) | (go_at_call 13; refine (isName_any _ _ hg).mono ?_; rintro e w2 ⟨rfl, hb2⟩; obtain ⟨hc2, hf2⟩ := bcell hb2))
      go_ret
      exact ⟨rfl, ((Below.refl _ _).alloc (Nat.le_refl _) _).trans ((hb1.trans (hb2.mono hb1.size)).mono (by simp))⟩
  · subst x0
    have q0 : (0 : Int) < (m1 : Int) := by omega
    clear d1 d2
    rcases hgr with hgr1 | ⟨hgr1, hgr2⟩
    · go_enter Tryd.func43, Tryd.ntmps43
      go_wp2_with (first | (go_at_call 44; refine (isAlign_any _ _).mono ?_; rintro e w1 ⟨rfl, hb1⟩; obtain ⟨hc1, hf1⟩ := bcell hb1))
      go_ret
      exact ⟨rfl, ((Below.refl _ _).alloc (Nat.le_refl _) _).trans (hb1.mono (by simp))⟩
    · go_enter Tryd.func43, Tryd.ntmps43
      go_wp2_with (first | (go_at_call 44; refine (isAlign_any _ _).mono ?_; rintro e w1 ⟨rfl, hb1⟩; obtain ⟨hc1, hf1⟩ := bcell hb1; have hz1 := lt_of_alloc hb1) | (go_at_call 13; refine (isName_any _ _ hg).mono ?_; rintro e w2 ⟨rfl, hb2⟩; obtain ⟨hc2, hf2⟩ := bcell hb2))
      go_ret
      exact ⟨rfl, ((Below.refl _ _).alloc (Nat.le_refl _) _).trans ((hb1.trans (hb2.mono hb1.size)).mono (by simp))⟩

end Go.Proofs.YthbdfnphnppagaaDoor
