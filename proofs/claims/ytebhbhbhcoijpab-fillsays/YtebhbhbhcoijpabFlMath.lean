/-
  What is put is got, and all else is as it was: plain mathematics.
-/
import Derived.Test.YtebhbhbhcoijpabFlPut
namespace Go.Proofs.Ytebhbhbhcoijpab.M
open Go.RowKit
set_option linter.unusedVariables false

/-- a place's bytes, and the number that they make -/
theorem whole_bytes {k n : Int} (hk : known k = true) (hf : fits k n = true) : whole (byteAt n 0) (if wide k = 2 then byteAt n 1 else 0) k = n := by
  rcases kinds hk with rfl | rfl | rfl | rfl
  all_goals
    simp only [fits, lo, hi, within, wide, whole, byteAt, Bool.and_eq_true, decide_eq_true_eq] at hf ⊢
    simp at hf ⊢
    omega

theorem whole_fits {k a b : Int} (hk : known k = true) (ha : 0 ≤ a ∧ a < 256) (hb : 0 ≤ b ∧ b < 256) (h1 : wide k = 1 → b = 0) : fits k (whole a b k) = true := by
  rcases kinds hk with rfl | rfl | rfl | rfl
  · obtain rfl : b = 0 := h1 rfl
    simp [fits, lo, hi, within, whole, wide]
    omega
  · simp [fits, lo, hi, within, whole, wide]
    omega
  · obtain rfl : b = 0 := h1 rfl
    simp [fits, lo, hi, within, whole, wide]
    split <;> omega
  · simp [fits, lo, hi, within, whole, wide]
    split <;> omega

theorem byteAt_whole {k a b : Int} (hk : known k = true) (ha : 0 ≤ a ∧ a < 256) (hb : 0 ≤ b ∧ b < 256) : byteAt (whole a b k) 0 = a ∧ (wide k = 2 → byteAt (whole a b k) 1 = b) := by
  unfold whole
  generalize fits k (a + 256 * b) = ft
  have hw : wide k = 1 ∨ wide k = 2 := by rcases kinds hk with rfl | rfl | rfl | rfl <;> simp [wide]
  generalize wide k = wd at *
  rcases hw with rfl | rfl <;> cases ft <;> simp [byteAt] <;> omega

theorem putN_at {bs : List Int} {p : Nat} {n : Int} : ∀ (w : Nat) (i : Nat), i < bs.length → (putN bs p n w).getD i 0 = if p ≤ i ∧ i < p + w then byteAt n (i - p) else bs.getD i 0
  | 0, i, hi => by
    rw [if_neg (by omega)]; rfl
  | w + 1, i, hi => by
    have ih := putN_at (bs := bs) (p := p) (n := n) w i hi
    have hl : (putN bs p n w).length = bs.length := putN_len bs p n w
    show ((putN bs p n w).set (p + w) (byteAt n w)).getD i 0 = _
    rw [List.getD_eq_getElem?_getD] at ih ⊢
    rw [List.getElem?_set]
    by_cases e : p + w = i
    · subst e
      rw [if_pos rfl, if_pos (by omega), if_pos (by omega), show p + w - p = w by omega]; rfl
    · rw [if_neg e, ih]
      by_cases h2 : p ≤ i ∧ i < p + w
      · rw [if_pos h2, if_pos (by omega)]
      · rw [if_neg h2, if_neg (by omega)]

theorem getD_ext {l l' : List Int} (hl : l.length = l'.length) (h : ∀ i, i < l.length → l.getD i 0 = l'.getD i 0) : l = l' := by
  refine List.ext_getElem hl fun i h1 h2 => ?_
  have := h i h1
  rw [List.getD_eq_getElem?_getD, List.getD_eq_getElem?_getD, List.getElem?_eq_getElem h1, List.getElem?_eq_getElem h2] at this
  exact this

theorem put_ok {bs c : List Int} {pos k n : Int} (h : putB bs pos k n = (c, 0)) : place bs.length pos k = 0 ∧ fits k n = true ∧ c = putN bs pos.toNat n (wide k).toNat := by
  unfold putB at h
  by_cases h1 : place bs.length pos k = 0
  · rw [if_pos h1] at h
    cases h2 : fits k n
    · rw [h2] at h; simp at h
    · rw [h2] at h
      exact ⟨h1, rfl, (congrArg Prod.fst h).symm⟩
  · rw [if_neg h1] at h
    exact absurd (congrArg Prod.snd h) h1

/-- all that the law asks -/
theorem put_back {bs c : List Int} {pos k n : Int} (hb : ∀ b ∈ bs, 0 ≤ b ∧ b < 256) (h : putB bs pos k n = (c, 0)) :
    c.length = bs.length ∧ get c pos k = (n, 0) ∧ (∀ i : Nat, i < bs.length → ((i : Int) < pos ∨ pos + wide k ≤ (i : Int)) → bs.getD i 0 = c.getD i 0) ∧ ∃ x, get bs pos k = (x, 0) ∧ putB c pos k x = (bs, 0) := by
  obtain ⟨hp, hf, rfl⟩ := put_ok h
  obtain ⟨hk, hl, hp0, hpw⟩ := place_ok hp
  have hlen : (putN bs pos.toNat n (wide k).toNat).length = bs.length := putN_len _ _ _ _
  have hw : wide k = 1 ∨ wide k = 2 := by rcases kinds hk with rfl | rfl | rfl | rfl <;> simp [wide]
  have hr : ∀ i, 0 ≤ bs.getD i 0 ∧ bs.getD i 0 < 256 := fun i => by
    by_cases hi : i < bs.length
    · exact hb _ (getD_mem bs 0 i hi)
    · rw [List.getD_eq_getElem?_getD, List.getElem?_eq_none (by omega)]; decide
  have hr2 : 0 ≤ second bs pos.toNat k ∧ second bs pos.toNat k < 256 := by
    unfold second; split
    · exact hr _
    · decide
  refine ⟨hlen, ?_, fun i hi ho => ?_, whole (bs.getD pos.toNat 0) (second bs pos.toNat k) k, ?_, ?_⟩
  · unfold get
    rw [hlen, if_pos hp]
    have e1 : (putN bs pos.toNat n (wide k).toNat).getD pos.toNat 0 = byteAt n 0 := by
      rw [putN_at _ _ (by omega), if_pos (by omega), Nat.sub_self]
    have e2 : second (putN bs pos.toNat n (wide k).toNat) pos.toNat k = if wide k = 2 then byteAt n 1 else 0 := by
      unfold second
      rcases hw with h1 | h1
      · rw [h1]; rfl
      · rw [if_pos h1, if_pos h1, putN_at _ _ (by omega), if_pos (by omega), show pos.toNat + 1 - pos.toNat = 1 by omega]
    rw [e1, e2, whole_bytes hk hf]
  · rw [putN_at _ _ hi, if_neg (by omega)]
  · unfold get
    rw [if_pos hp]
  · have hfx := whole_fits (k := k) (a := bs.getD pos.toNat 0) (b := second bs pos.toNat k) hk (hr _) hr2 (fun h1 => by unfold second; rw [if_neg (by omega)])
    obtain ⟨hx0, hx1⟩ := byteAt_whole (k := k) (a := bs.getD pos.toNat 0) (b := second bs pos.toNat k) hk (hr _) hr2
    generalize whole (bs.getD pos.toNat 0) (second bs pos.toNat k) k = x at *
    unfold putB
    rw [hlen, if_pos hp, hfx]
    have e : putN (putN bs pos.toNat n (wide k).toNat) pos.toNat x (wide k).toNat = bs := by
      refine getD_ext (by rw [putN_len, putN_len]) fun i hi => ?_
      rw [putN_len, putN_len] at hi
      rw [putN_at _ _ (by rw [putN_len]; exact hi)]
      by_cases hin : pos.toNat ≤ i ∧ i < pos.toNat + (wide k).toNat
      · rw [if_pos hin]
        rcases (by omega : i = pos.toNat ∨ i = pos.toNat + 1 ∧ wide k = 2) with rfl | ⟨rfl, h2⟩
        · rw [Nat.sub_self, hx0]
        · rw [show pos.toNat + 1 - pos.toNat = 1 by omega, hx1 h2, second, if_pos h2]
      · rw [if_neg hin, putN_at _ _ hi, if_neg hin]
    rw [e]; rfl

end Go.Proofs.Ytebhbhbhcoijpab.M
