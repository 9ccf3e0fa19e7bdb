/-
  Plain mathematics: halving finds a name; a common name has a place among the names.
-/
import Derived.Test.YtabkbicaignicaaLkModel
import Derived.Test.YtabkbicaignicaaLyCommons
namespace Go.Proofs.Ytabkbicaignicaa
open Go Go.RowKit
set_option linter.unusedVariables false

theorem bsGo_in (less : Nat → Bool) (k : Nat) (h1 : ∀ t, t < k → less t = true) : ∀ (f lo hi : Nat), (∀ t, k ≤ t → t < hi → less t = false) → hi - lo ≤ f → lo ≤ k → k ≤ hi → Lib.bsGo less f lo hi = k
  | 0, lo, hi, _, hf, a, b => by simp [Lib.bsGo]; omega
  | f + 1, lo, hi, h2, hf, a, b => by
    unfold Lib.bsGo
    by_cases h : lo < hi
    · rw [if_pos h]
      by_cases hm : (lo + hi) / 2 < k
      · rw [if_pos (h1 _ hm)]
        exact bsGo_in less k h1 f _ hi h2 (by omega) (by omega) b
      · rw [if_neg (by rw [h2 _ (by omega) (by omega)]; decide)]
        exact bsGo_in less k h1 f lo _ (fun t ht hl => h2 t ht (by omega)) (by omega) a (by omega)
    · rw [if_neg h]; omega

theorem less_iff (a b : ByteArray) : Op.bytesLess a.toList b.toList = decide (M.txt' a < M.txt' b) := by
  rw [bytesLess_eq, Lib.toList_data, Lib.toList_data]; rfl

theorem halve_at {N : List ByteArray} (hs : M.Strict N) {k : Nat} (hk : k < N.length) : M.halve N N[k] = k := by
  have hp := List.pairwise_iff_getElem.1 hs
  have hg : ∀ t (ht : t < N.length), N.getD t ⟨#[]⟩ = N[t] := fun t ht => by rw [List.getD_eq_getElem?_getD, List.getElem?_eq_getElem ht]; rfl
  unfold M.halve
  refine bsGo_in _ k (fun t ht => ?_) _ _ _ (fun t h1 h2 => ?_) (by omega) (Nat.zero_le _) (by omega)
  · rw [hg t (by omega), less_iff]
    exact decide_eq_true (hp t k (by omega) hk ht)
  · rw [hg t h2, less_iff]
    refine decide_eq_false fun h => ?_
    by_cases e : t = k
    · subst e; exact List.lt_irrefl _ h
    · exact List.lt_irrefl _ (List.lt_trans h (hp k t hk h2 (by omega)))

theorem found_at {N : List ByteArray} (hs : M.Strict N) {s : ByteArray} (h : s ∈ N) : M.foundAt N s = true ∧ M.halve N s < N.length ∧ N[M.halve N s]? = some s := by
  obtain ⟨k, hk, rfl⟩ := List.getElem_of_mem h
  have e := halve_at hs hk
  unfold M.foundAt
  rw [e]
  exact ⟨decide_eq_true ⟨hk, by rw [List.getD_eq_getElem?_getD, List.getElem?_eq_getElem hk]; rfl⟩, hk, List.getElem?_eq_getElem hk⟩

theorem com_mem (ds : List M.Dfn) : ∀ (L : List ByteArray) (c : M.CS) (s : ByteArray), (s ∈ c.names ∨ (s ∈ L ∧ (M.find ds s).2 = 0 ∧ (M.find ds s).1.kind = 3)) → s ∈ (L.foldl (M.comStep ds) c).names
  | [], c, s, h => by
    rcases h with h | ⟨h, _⟩
    · exact h
    · cases h
  | x :: L, c, s, h => by
    rw [List.foldl_cons]
    refine com_mem ds L _ s ?_
    by_cases hx : (M.find ds x).2 = 0 ∧ (M.find ds x).1.kind = 3
    · have e : (M.comStep ds c x).names = c.names ++ [x] := by unfold M.comStep; rw [if_pos hx]
      rw [e]
      rcases h with h | ⟨h, h2⟩
      · exact .inl (by simp [h])
      · rcases List.mem_cons.1 h with rfl | h
        · exact .inl (by simp)
        · exact .inr ⟨h, h2⟩
    · have e : M.comStep ds c x = c := if_neg hx
      rw [e]
      rcases h with h | ⟨h, h2⟩
      · exact .inl h
      · rcases List.mem_cons.1 h with rfl | h
        · exact absurd h2 hx
        · exact .inr ⟨h, h2⟩

theorem ba_ext {a b : ByteArray} (h : a.toList = b.toList) : a = b := by
  rw [Lib.toList_data, Lib.toList_data] at h
  cases a with
  | mk x => cases b with
    | mk y => exact congrArg ByteArray.mk (Array.toList_inj.1 h)

theorem find_defined {ds : List M.Dfn} {s : ByteArray} (h0 : (M.find ds s).2 = 0) : s ∈ M.definedNames ds := by
  have key : ∀ k, 0 < (M.ofKind ds s k).length → s ∈ M.definedNames ds := fun k hk => by
    have hm := headD_mem hk M.dfnZ
    obtain ⟨h1, h2⟩ := List.mem_filter.1 hm
    unfold M.isDef at h2
    simp only [Bool.and_eq_true, beq_iff_eq] at h2
    have e := ba_ext h2.1
    rw [← e]
    exact List.mem_map.2 ⟨_, h1, rfl⟩
  unfold M.find M.findIn at h0
  split at h0
  · cases h0
  split at h0
  · exact key 1 (by omega)
  split at h0
  · rename_i h; exact key 3 h
  split at h0
  · rename_i h; exact key 2 h
  · cases h0

end Go.Proofs.Ytabkbicaignicaa
