/-
  What is ready: while something isn't done something is ready; where all is done nothing is.
-/
import Derived.Test.YtohcimggpmcaeaaPlReady
namespace Go.Proofs.Ytohcimggpmcaeaa
open Go Go.RowKit
set_option linter.unusedVariables false

theorem ready_mem {l : List M.Nd} {d : List Bool} {x : Int} (h : x ∈ M.ready l d) : ∃ q : Nat, x = (q : Int) ∧ q < l.length ∧ M.readyAt l d q = true := by
  unfold M.ready M.readyUpto at h
  obtain ⟨q, hq, rfl⟩ := List.mem_map.1 h
  have := List.mem_filter.1 hq
  exact ⟨q, rfl, List.mem_range.1 this.1, this.2⟩

theorem none_ready {l : List M.Nd} {d : List Bool} (hbe : Behind l) (h : ∀ i, i < l.length → M.readyAt l d i = false) : ∀ f i, i < f → i < l.length → d.getD i false = true
  | 0, i, h1, _ => by omega
  | f + 1, i, h1, h2 => by
    have h3 := h i h2
    cases hd : d.getD i false
    · exfalso
      unfold M.readyAt at h3
      rw [hd] at h3
      cases hx : ((l.getD i M.nd0).leaf == -1)
      · rw [hx] at h3; simp at h3
      · have hb := hbe i h2 hx
        rw [hx, none_ready hbe h f _ (by omega) (by omega), none_ready hbe h f (l.getD i M.nd0).right.toNat (by omega) (by omega)] at h3
        simp at h3
    · rfl

theorem ready_some {l : List M.Nd} {d : List Bool} (hbe : Behind l) (hl : d.length = l.length) (hc : d.count true < l.length) : M.ready l d ≠ [] := by
  intro h
  have h1 : ∀ i, i < l.length → M.readyAt l d i = false := fun i hi => by
    cases hr : M.readyAt l d i
    · rfl
    · have : (i : Int) ∈ M.ready l d := List.mem_map.2 ⟨i, List.mem_filter.2 ⟨List.mem_range.2 hi, hr⟩, rfl⟩
      rw [h] at this
      cases this
  have h2 : d.count true = d.length := List.count_eq_length.2 fun b hb => by
    obtain ⟨j, hj, rfl⟩ := List.getElem_of_mem hb
    have := none_ready hbe h1 (j + 1) j (Nat.lt_succ_self _) (by omega)
    rw [List.getD_eq_getElem?_getD, List.getElem?_eq_getElem hj] at this
    exact this.symm
  omega

theorem ready_all {l : List M.Nd} {d : List Bool} (hl : d.length = l.length) (hc : d.count true = l.length) : M.ready l d = [] := by
  have h1 := List.count_eq_length.1 (hc.trans hl.symm)
  unfold M.ready M.readyUpto
  have : (List.range l.length).filter (M.readyAt l d) = [] := by
    rw [List.filter_eq_nil_iff]
    intro i hi
    have hi := List.mem_range.1 hi
    have : d.getD i false = true := by
      rw [List.getD_eq_getElem?_getD, List.getElem?_eq_getElem (by omega)]
      exact (h1 _ (List.getElem_mem (by omega))).symm
    unfold M.readyAt
    rw [this]
    simp
  rw [this]; rfl

theorem ready_rises (l : List M.Nd) (d : List Bool) : ∀ k, k + 1 < (M.ready l d).length → (M.ready l d).getD k 0 ≤ (M.ready l d).getD (k + 1) 0 := by
  intro k hk
  have hp : (M.ready l d).Pairwise (· ≤ ·) := by
    unfold M.ready M.readyUpto
    rw [List.pairwise_map]
    refine List.Pairwise.imp ?_ (List.Pairwise.filter _ List.pairwise_lt_range)
    intro a b h
    simp only [Int.ofNat_eq_natCast]
    omega
  have := List.pairwise_iff_getElem.1 hp k (k + 1) (by omega) hk (by omega)
  rw [List.getD_eq_getElem?_getD, List.getD_eq_getElem?_getD, List.getElem?_eq_getElem hk, List.getElem?_eq_getElem (by omega)]
  exact this

theorem count_done {d : List Bool} {q : Nat} (hq : q < d.length) (h : d.getD q false = false) : (d.set q true).count true = d.count true + 1 := by
  rw [List.getD_eq_getElem?_getD, List.getElem?_eq_getElem hq] at h
  have h' : d[q] = false := h
  rw [List.count_set hq]
  simp [h']

end Go.Proofs.Ytohcimggpmcaeaa
