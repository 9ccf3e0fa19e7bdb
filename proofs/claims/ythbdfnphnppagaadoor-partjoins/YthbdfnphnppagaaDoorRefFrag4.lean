/-
  The reference's checkFrag, where all but its places is right: the loop over them.
-/
import Derived.Test.YthbdfnphnppagaaDoorRefFrag3
namespace Go.Proofs.YthbdfnphnppagaaDoor
open Go.RowKit
set_option linter.unusedVariables false

theorem frm_true {s sz : Int} {n m : Nat} (h : frm s sz n m = true) :
    (s = 5 ∧ n = 0 ∧ m = 0 ∧ 0 ≤ sz ∧ sz ≤ 64) ∨ (s = 3 ∧ sz = 0 ∧ m = 0) ∨ (¬ s = 5 ∧ ¬ s = 3 ∧ sz = 0) := by
  unfold frm at h
  by_cases h5 : s = 5
  · rw [if_pos h5] at h
    simp [M.within] at h
    omega
  · rw [if_neg h5] at h
    by_cases h3 : s = 3
    · rw [if_pos h3] at h
      simp at h
      omega
    · rw [if_neg h3] at h
      simp at h
      omega

theorem placed_ways (pos kind add e : Int) (n : Nat) (hn : n ≤ 64) :
    (plcB pos kind add e n = false ∧ (M.wide kind = 0 ∨ ¬ M.wide kind = 0 ∧ pos < e ∨ ¬ M.wide kind = 0 ∧ e ≤ pos ∧ 64 < pos ∨ ¬ M.wide kind = 0 ∧ e ≤ pos ∧ pos ≤ 64 ∧ (n : Int) < pos + M.wide kind
      ∨ ¬ M.wide kind = 0 ∧ e ≤ pos ∧ pos ≤ 64 ∧ pos + M.wide kind ≤ (n : Int) ∧ add < -10000 ∨ ¬ M.wide kind = 0 ∧ e ≤ pos ∧ pos ≤ 64 ∧ pos + M.wide kind ≤ (n : Int) ∧ -10000 ≤ add ∧ 10000 < add))
    ∨ (plcB pos kind add e n = true ∧ ¬ M.wide kind = 0 ∧ e ≤ pos ∧ pos ≤ 64 ∧ pos + M.wide kind ≤ (n : Int) ∧ -10000 ≤ add ∧ add ≤ 10000) := by
  have hb := wide_bd kind
  cases h : plcB pos kind add e n
  · left
    refine ⟨rfl, ?_⟩
    simp [plcB, M.within] at h
    by_cases h0 : M.wide kind = 0
    · exact .inl h0
    · have := h h0
      omega
  · right
    refine ⟨rfl, ?_⟩
    simp [plcB, M.within] at h
    omega

set_option maxHeartbeats 8000000 in
set_option maxRecDepth 100000 in
theorem rfrag_none (s al sz : Int) (g : ByteArray) (n1 : Nat) (ab ar : Option Addr) (cb cr : Nat) (many : Int) (w : World) (hg : g.size ≤ maxLen)
    (h : M.within s 1 5 = true) (ha : M.isAlign al = true) (hgr : g.toList.isEmpty = true ∨ (g.toList.isEmpty = false ∧ M.isName g = true))
    (h64 : n1 ≤ 64) (hfo : frm s sz n1 0 = true) :
    Calls Tryd.prog 43 #[.agg #[.int .i64 s, .int .i64 al, .string g, .slice ab n1 cb, .int .i64 sz, .slice ar 0 cr], .int .i64 many] w fun e w' =>
      e = .returned (.int .i64 0) ∧ Below w.heap.size w w' := by
  have h' : 1 ≤ s ∧ s ≤ 5 := by simpa [M.within] using h
  have d1 := tst_ge h'.1
  have d2 := tst_ge h'.2
  have d64 : decide (64 < (n1 : Int)) = false := tst_ge (by omega)
  have hw := frm_true hfo
  clear h h' hfo
  rcases hw with ⟨rfl, x1, _, x3, x4⟩ | ⟨rfl, x1, _⟩ | ⟨x0, x1, x2⟩
  · subst x1
    clear d1 d2 d64
    rcases hgr with hgr1 | ⟨hgr1, hgr2⟩
    · go_enter Tryd.func43, Tryd.ntmps43
      go_wp2_with (go_at_call 44; refine (isAlign_any _ _).mono ?_; rintro e w1 ⟨rfl, hb1⟩; obtain ⟨hc1, hf1⟩ := bcell hb1; have hz1 := lt_of_alloc hb1)
      refine wp_loop_rounds 1 ?_
      rw [rounds_succ]
      go_wp2
      go_ret
      exact ⟨rfl, ((Below.refl _ _).alloc (Nat.le_refl _) _).trans (hb1.mono (by simp))⟩
    · go_enter Tryd.func43, Tryd.ntmps43
      go_wp2_with (first | (go_at_call 44; refine (isAlign_any _ _).mono ?_; rintro e w1 ⟨rfl, hb1⟩; obtain ⟨hc1, hf1⟩ := bcell hb1; have hz1 := lt_of_alloc hb1) | (go_at_call 13; refine (isName_any _ _ hg).mono ?_; rintro e w2 ⟨rfl, hb2⟩; obtain ⟨hc2, hf2⟩ := bcell hb2))
      refine wp_loop_rounds 1 ?_
      rw [rounds_succ]
      go_wp2
      go_ret
      exact ⟨rfl, ((Below.refl _ _).alloc (Nat.le_refl _) _).trans ((hb1.trans (hb2.mono hb1.size)).mono (by simp))⟩
  · subst x1
    clear d1 d2
    rcases hgr with hgr1 | ⟨hgr1, hgr2⟩
    · go_enter Tryd.func43, Tryd.ntmps43
      go_wp2_with (go_at_call 44; refine (isAlign_any _ _).mono ?_; rintro e w1 ⟨rfl, hb1⟩; obtain ⟨hc1, hf1⟩ := bcell hb1; have hz1 := lt_of_alloc hb1)
      refine wp_loop_rounds 1 ?_
      rw [rounds_succ]
      go_wp2
      go_ret
      exact ⟨rfl, ((Below.refl _ _).alloc (Nat.le_refl _) _).trans (hb1.mono (by simp))⟩
    · go_enter Tryd.func43, Tryd.ntmps43
      go_wp2_with (first | (go_at_call 44; refine (isAlign_any _ _).mono ?_; rintro e w1 ⟨rfl, hb1⟩; obtain ⟨hc1, hf1⟩ := bcell hb1; have hz1 := lt_of_alloc hb1) | (go_at_call 13; refine (isName_any _ _ hg).mono ?_; rintro e w2 ⟨rfl, hb2⟩; obtain ⟨hc2, hf2⟩ := bcell hb2))
      refine wp_loop_rounds 1 ?_
      rw [rounds_succ]
      go_wp2
      go_ret
      exact ⟨rfl, ((Below.refl _ _).alloc (Nat.le_refl _) _).trans ((hb1.trans (hb2.mono hb1.size)).mono (by simp))⟩
  · subst x2
    have q1 := beq_no x0
    have q2 := bne_yes x0
    have q3 := beq_no x1
    clear x0 x1
    rcases hgr with hgr1 | ⟨hgr1, hgr2⟩
    · go_enter Tryd.func43, Tryd.ntmps43
      go_wp2_with (go_at_call 44; refine (isAlign_any _ _).mono ?_; rintro e w1 ⟨rfl, hb1⟩; obtain ⟨hc1, hf1⟩ := bcell hb1; have hz1 := lt_of_alloc hb1)
      refine wp_loop_rounds 1 ?_
      rw [rounds_succ]
      go_wp2
      go_ret
      exact ⟨rfl, ((Below.refl _ _).alloc (Nat.le_refl _) _).trans (hb1.mono (by simp))⟩
    · go_enter Tryd.func43, Tryd.ntmps43
      go_wp2_with (first | (go_at_call 44; refine (isAlign_any _ _).mono ?_; rintro e w1 ⟨rfl, hb1⟩; obtain ⟨hc1, hf1⟩ := bcell hb1; have hz1 := lt_of_alloc hb1) | (go_at_call 13; refine (isName_any _ _ hg).mono ?_; rintro e w2 ⟨rfl, hb2⟩; obtain ⟨hc2, hf2⟩ := bcell hb2))
      refine wp_loop_rounds 1 ?_
      rw [rounds_succ]
      go_wp2
      go_ret
      exact ⟨rfl, ((Below.refl _ _).alloc (Nat.le_refl _) _).trans ((hb1.trans (hb2.mono hb1.size)).mono (by simp))⟩

end Go.Proofs.YthbdfnphnppagaaDoor
