/-
  The contract of obj.checkFrag.
-/
import Derived.Test.YtebhbhbhcoijpaaFragLoop
namespace Go.Proofs.Ytebhbhbhcoijpaa
open Go.RowKit
set_option linter.unusedVariables false

set_option maxHeartbeats 1000000 in
theorem frag_any (f : M.Frg) (ab ar : Option Addr) (cb cr : Nat) (many : Nat) (w : World) (hr : RelsAt w (.slice ar f.rels.length cr) f.rels) (hg : f.group.size ≤ maxLen) (hbl : f.bytes.length ≤ maxLen) (hm : many ≤ 60) :
    Calls Try.prog 49 #[.agg #[.int .i64 f.sect, .int .i64 f.align, .string f.group, .slice ab f.bytes.length cb, .int .i64 f.size, .slice ar f.rels.length cr], .int .i64 many] w fun e w' =>
      e = .returned (.int .i64 (M.checkFrag f many)) ∧ Below w.heap.size w w' := by
  obtain ⟨s, al, g, bs, sz, rs⟩ := f
  simp only at hr hg hbl ⊢
  have hrl : rs.length ≤ maxLen := by obtain ⟨_, _, _, h⟩ := hr.1.form; exact h
  unfold maxLen at hbl hrl
  have arm : ∀ r : Int, M.checkFrag ⟨s, al, g, bs, sz, rs⟩ many = r → Hid (M.checkFrag ⟨s, al, g, bs, sz, rs⟩ many = r) := fun r h => h
  generalize hR : M.checkFrag ⟨s, al, g, bs, sz, rs⟩ many = R at arm
  unfold M.checkFrag at hR
  simp only at hR
  cases hs : M.within s 1 5
  · have HX := arm 3 (by rw [← hR]; simp [hs])
    clear hR arm hr
    generalize bs.length = n1 at *
    generalize rs.length = m1 at *
    go_enter Try.func49, Try.ntmps49
    go_wp2_with (go_at_call 82; refine (within_any _ _ _ _).mono ?_; rintro e w' ⟨rfl, rfl⟩)
    go_ret
    exact ⟨ret_int HX.out.symm, (Below.refl _ _).alloc (Nat.le_refl _) _⟩
  cases ha : M.isAlign al
  · have HX := arm 3 (by rw [← hR]; simp [hs, ha])
    clear hR arm hr
    generalize bs.length = n1 at *
    generalize rs.length = m1 at *
    go_enter Try.func49, Try.ntmps49
    go_wp2_with (first | (go_at_call 82; refine (within_any _ _ _ _).mono ?_; rintro e w' ⟨rfl, rfl⟩) | (go_at_call 83; refine (alignment_any _ _).mono ?_; rintro e w' ⟨rfl, rfl⟩))
    go_ret
    exact ⟨ret_int HX.out.symm, (Below.refl _ _).alloc (Nat.le_refl _) _⟩
  by_cases hgr : g.toList.isEmpty = false ∧ M.isName g = false
  · have HX := arm 1 (by rw [← hR]; simp [hs, ha, hgr])
    obtain ⟨hgr1, hgr2⟩ := hgr
    clear hR arm hr
    generalize bs.length = n1 at *
    generalize rs.length = m1 at *
    go_enter Try.func49, Try.ntmps49
    go_wp2_with (first | (go_at_call 82; refine (within_any _ _ _ _).mono ?_; rintro e w' ⟨rfl, rfl⟩) | (go_at_call 83; refine (alignment_any _ _).mono ?_; rintro e w' ⟨rfl, rfl⟩) | (go_at_call 84; refine (name_any _ _ hg).mono ?_; rintro e w' ⟨rfl, rfl⟩))
    go_ret
    exact ⟨ret_int HX.out.symm, (Below.refl _ _).alloc (Nat.le_refl _) _⟩
  have hgr' : g.toList.isEmpty = true ∨ (g.toList.isEmpty = false ∧ M.isName g = true) := by
    cases h1 : g.toList.isEmpty
    · cases h2 : M.isName g
      · exact absurd ⟨h1, h2⟩ hgr
      · exact .inr ⟨rfl, rfl⟩
    · exact .inl rfl
  rw [if_neg (by simp [hs, ha]), if_neg hgr] at hR
  by_cases hmany1 : 64 < bs.length
  · have HX := arm 2 (by rw [← hR, if_pos (.inl hmany1)])
    clear hR arm hr hgr
    generalize bs.length = n1 at *
    generalize rs.length = m1 at *
    rcases hgr' with hgr1 | ⟨hgr1, hgr2⟩
    all_goals
      go_enter Try.func49, Try.ntmps49
      go_wp2_with (first | (go_at_call 82; refine (within_any _ _ _ _).mono ?_; rintro e w' ⟨rfl, rfl⟩) | (go_at_call 83; refine (alignment_any _ _).mono ?_; rintro e w' ⟨rfl, rfl⟩) | (go_at_call 84; refine (name_any _ _ hg).mono ?_; rintro e w' ⟨rfl, rfl⟩))
      go_ret
      exact ⟨ret_int HX.out.symm, (Below.refl _ _).alloc (Nat.le_refl _) _⟩
  by_cases hmany2 : 8 < rs.length
  · have HX := arm 2 (by rw [← hR, if_pos (.inr hmany2)])
    clear hR arm hr hgr
    generalize bs.length = n1 at *
    generalize rs.length = m1 at *
    rcases hgr' with hgr1 | ⟨hgr1, hgr2⟩
    all_goals
      go_enter Try.func49, Try.ntmps49
      go_wp2_with (first | (go_at_call 82; refine (within_any _ _ _ _).mono ?_; rintro e w' ⟨rfl, rfl⟩) | (go_at_call 83; refine (alignment_any _ _).mono ?_; rintro e w' ⟨rfl, rfl⟩) | (go_at_call 84; refine (name_any _ _ hg).mono ?_; rintro e w' ⟨rfl, rfl⟩))
      go_ret
      exact ⟨ret_int HX.out.symm, (Below.refl _ _).alloc (Nat.le_refl _) _⟩
  cases hfo : frm s sz bs.length rs.length
  · have HX := arm 4 (by rw [← hR, if_neg (by omega), if_pos (show M.formed ⟨s, al, g, bs, sz, rs⟩ = false from hfo)])
    clear hR arm hr hgr
    generalize bs.length = n1 at *
    generalize rs.length = m1 at *
    rcases hgr' with hgr1 | ⟨hgr1, hgr2⟩
    all_goals
      go_enter Try.func49, Try.ntmps49
      go_wp2_with (first | (go_at_call 82; refine (within_any _ _ _ _).mono ?_; rintro e w' ⟨rfl, rfl⟩) | (go_at_call 83; refine (alignment_any _ _).mono ?_; rintro e w' ⟨rfl, rfl⟩) | (go_at_call 84; refine (name_any _ _ hg).mono ?_; rintro e w' ⟨rfl, rfl⟩) | (go_at_call 85; refine (formed_any _ _ _ _ _ _ _ _ _ _ _).mono ?_; rintro e w1 ⟨rfl, hb1⟩))
      go_ret
      exact ⟨ret_int HX.out.symm, ((Below.refl _ _).alloc (Nat.le_refl _) _).trans (hb1.mono (by simp))⟩
  have HX := arm (M.checkRels bs.length many 0 rs) (by rw [← hR, if_neg (by omega), if_neg (by rw [show M.formed ⟨s, al, g, bs, sz, rs⟩ = true from hfo]; simp)])
  rw [HX.out]
  exact frag_rels s al sz g bs.length rs ab ar cb cr many w hr hg hm hs ha hgr' (by omega) (by omega) hfo

end Go.Proofs.Ytebhbhbhcoijpaa
