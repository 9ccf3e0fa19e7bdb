/-
  The contract of the reference's checkFrag, whole.
-/
import Derived.Test.YthbdfnphnppagaaDoorRefFrag5
namespace Go.Proofs.YthbdfnphnppagaaDoor
open Go.RowKit
set_option linter.unusedVariables false

theorem rfrag_any (f : M.Frg) (ab ar : Option Addr) (cb cr : Nat) (many : Nat) (w : World) (hr : RelsAt w (.slice ar f.rels.length cr) f.rels) (hg : f.group.size ≤ maxLen) (hbl : f.bytes.length ≤ maxLen) (hm : many ≤ 60) :
    Calls Tryd.prog 43 #[.agg #[.int .i64 f.sect, .int .i64 f.align, .string f.group, .slice ab f.bytes.length cb, .int .i64 f.size, .slice ar f.rels.length cr], .int .i64 many] w fun e w' =>
      e = .returned (.int .i64 (M.checkFrag f many)) ∧ Below w.heap.size w w' := by
  obtain ⟨s, al, g, bs, sz, rs⟩ := f
  simp only at hr hg hbl ⊢
  have hrl : rs.length ≤ maxLen := by obtain ⟨_, _, _, h⟩ := hr.1.form; exact h
  generalize hR : M.checkFrag ⟨s, al, g, bs, sz, rs⟩ many = R
  unfold M.checkFrag at hR
  simp only at hR
  cases hs : M.within s 1 5
  · exact rfrag_out s al sz g _ _ ab ar cb cr many w hg R (.inl ⟨by rw [← hR]; simp [hs], .inl hs⟩)
  cases ha : M.isAlign al
  · exact rfrag_out s al sz g _ _ ab ar cb cr many w hg R (.inl ⟨by rw [← hR]; simp [hs, ha], .inr ⟨hs, ha⟩⟩)
  by_cases hgr : g.toList.isEmpty = false ∧ M.isName g = false
  · exact rfrag_out s al sz g _ _ ab ar cb cr many w hg R (.inr ⟨by rw [← hR]; simp [hs, ha, hgr], hs, ha, hgr.1, hgr.2⟩)
  have hgr' : g.toList.isEmpty = true ∨ (g.toList.isEmpty = false ∧ M.isName g = true) := by
    cases h1 : g.toList.isEmpty
    · cases h2 : M.isName g
      · exact absurd ⟨h1, h2⟩ hgr
      · exact .inr ⟨rfl, rfl⟩
    · exact .inl rfl
  rw [if_neg (by simp [hs, ha]), if_neg hgr] at hR
  by_cases hmany : 64 < bs.length ∨ 8 < rs.length
  · rw [if_pos hmany] at hR
    rw [← hR]
    exact rfrag_many s al sz g _ _ ab ar cb cr many w hg hs ha hgr' (by omega) hbl hrl
  rw [if_neg hmany] at hR
  cases hfo : frm s sz bs.length rs.length
  · rw [if_pos (show M.formed ⟨s, al, g, bs, sz, rs⟩ = false from hfo)] at hR
    rw [← hR]
    exact rfrag_form s al sz g _ _ ab ar cb cr many w hg hs ha hgr' (by omega) (by omega) hfo
  rw [if_neg (by rw [show M.formed ⟨s, al, g, bs, sz, rs⟩ = true from hfo]; simp)] at hR
  rw [← hR]
  by_cases hz : rs.length = 0
  · have hnil : rs = [] := List.eq_nil_of_length_eq_zero hz
    subst hnil
    exact rfrag_none s al sz g _ ab ar cb cr many w hg hs ha hgr' (by omega) hfo
  · have hw := frm_true hfo
    have h3 : ¬ s = 5 ∧ ¬ s = 3 ∧ sz = 0 := by omega
    obtain ⟨x0, x1, rfl⟩ := h3
    exact rfrag_rels s al g _ rs ab ar cb cr many w hr hg hm hs ha hgr' (by omega) (by omega) x0 x1

end Go.Proofs.YthbdfnphnppagaaDoor
