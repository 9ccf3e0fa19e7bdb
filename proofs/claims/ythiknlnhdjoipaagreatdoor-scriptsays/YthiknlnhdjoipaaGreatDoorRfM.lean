/-
  strings.Split at one sign: a text's pieces. The digits of a fragment's bytes: trimmed away whole, and read two by two.
-/
import Derived.Test.YthiknlnhdjoipaaGreatDoorRfW
import Derived.Test.YthiknlnhdjoipaaGreatDoorScW
import Derived.Lib.CutLaws
import Derived.Lib.CountLaws
import Derived.Lib.SplitLaws
import Derived.Test.YthiknlnhdjoipaaGreatDoorRfS
import Derived.Test.YthiknlnhdjoipaaGreatDoorRefFA

namespace Go.Proofs.YthiknlnhdjoipaaGreatDoor
open Go Go.RowKit
set_option linter.unusedVariables false

theorem str_ofL (l : List UInt8) : M.str l = (⟨l.toArray⟩ : ByteArray) := rfl

theorem size_txtR (s : ByteArray) : (M.txt s).length = s.size := (Lib.size_eq s).symm
theorem cut_seen (s : ByteArray) (c : UInt8) : Lib.cut s.data.toList (⟨#[c]⟩ : ByteArray).data.toList = match M.cutAt c (M.txt s) with | some x => (x.1, x.2, true) | none => (M.txt s, [], false) := cut_one c (M.txt s)
theorem miss_of {s : ByteArray} {c : UInt8} (h : M.cutAt c (M.txt s) = none) : Lib.indexB s ⟨#[c]⟩ = -1 := by
  rcases Lib.indexB_cases s ⟨#[c]⟩ with h1 | ⟨i, hi, _⟩
  · exact h1
  · have := (Lib.cutB_hit s ⟨#[c]⟩ i hi).2.2
    rw [cut_seen, h] at this
    cases this
theorem hit_of {s : ByteArray} {c : UInt8} {x : M.Txt × M.Txt} (h : M.cutAt c (M.txt s) = some x) : ∃ i : Nat, Lib.indexB s ⟨#[c]⟩ = i ∧ M.str x.1 = s.extract 0 i ∧ M.str x.2 = s.extract (i + (⟨#[c]⟩ : ByteArray).size) s.size := by
  rcases Lib.indexB_cases s ⟨#[c]⟩ with h1 | ⟨i, hi, _⟩
  · exfalso
    have hc := cut_seen s c
    rw [h] at hc
    have h2 : Lib.index s.data.toList (⟨#[c]⟩ : ByteArray).data.toList = -1 := h1
    unfold Lib.cut at hc
    rw [h2, if_neg (by decide)] at hc
    simp at hc
  · obtain ⟨h1, h2, _⟩ := Lib.cutB_hit s ⟨#[c]⟩ i hi
    rw [cut_seen, h] at h1 h2
    exact ⟨i, hi, h1, h2⟩

theorem split_pieces (c : UInt8) : ∀ (n : Nat) (s : ByteArray), s.size ≤ n → Lib.splitB ⟨#[c]⟩ 0 (Lib.countB s ⟨#[c]⟩) s = (M.pieces c (M.txt s)).map M.str ∧ Lib.countB s ⟨#[c]⟩ + 1 = (M.pieces c (M.txt s)).length := by
  intro n
  induction n with
  | zero =>
    intro s hs
    have h0 : M.txt s = [] := by
      have := size_txtR s
      exact List.length_eq_zero_iff.1 (by omega)
    have hc : M.cutAt c (M.txt s) = none := by rw [h0]; rfl
    have hm : Lib.indexB s ⟨#[c]⟩ = -1 := miss_of hc
    rw [Lib.splitB_miss _ _ _ _ hm, Lib.countB_miss _ _ hm, pieces_none hc]
    simp [str_txt]
  | succ n ih =>
    intro s hs
    cases hc : M.cutAt c (M.txt s) with
    | none =>
      have hm : Lib.indexB s ⟨#[c]⟩ = -1 := miss_of hc
      rw [Lib.splitB_miss _ _ _ _ hm, Lib.countB_miss _ _ hm, pieces_none hc]
      simp [str_txt]
    | some x =>
      obtain ⟨i, hi, h1, h2⟩ := hit_of hc
      rw [Lib.countB_hit s ⟨#[c]⟩ i (Nat.le_refl 1) hi, Nat.add_comm 1, Lib.splitB_hit _ _ _ _ _ hi, pieces_some hc]
      have hl := cutAt_len hc
      have hsz : (s.extract (i + (⟨#[c]⟩ : ByteArray).size) s.size).size ≤ n := by
        rw [← h2, sizeStr]
        have := size_txtR s
        omega
      obtain ⟨e1, e2⟩ := ih _ hsz
      have ht : M.txt (s.extract (i + (⟨#[c]⟩ : ByteArray).size) s.size) = x.2 := by rw [← h2, txt_str]
      rw [e1, e2, ht]
      refine ⟨?_, by simp⟩
      simp only [List.map_cons, Nat.add_zero]
      rw [h1]

/-- strings.Split of a text at one sign -/
theorem rsplit_any (c : UInt8) (s : ByteArray) (w : World) (hG : Glob w) (hs : s.size ≤ 100000) :
    Calls Tryz.prog 33 #[.string s, .string ⟨#[c]⟩] w fun e w' => e = .returned (.slice (some ⟨w.heap.size, 0, none⟩) (M.pieces c (M.txt s)).length (M.pieces c (M.txt s)).length) ∧ w' = w.alloc (.cells (((M.pieces c (M.txt s)).map M.str).map Value.string).toArray 9) := by
  obtain ⟨m, hm⟩ := hG.most
  have h := Any.strings_Split (P := Tryz.prog) (ρ := Tryz.laysM146_ren) { Tryz.laysM146 with } Tryz.laysM146.i9 s ⟨#[c]⟩ m w (by omega) hm (Nat.le_refl 1)
  obtain ⟨e1, e2⟩ := split_pieces c s.size s (Nat.le_refl _)
  rw [e1, e2] at h
  exact h

end Go.Proofs.YthiknlnhdjoipaaGreatDoor

namespace Go.Proofs.YthiknlnhdjoipaaGreatDoor
open Go Go.RowKit
set_option linter.unusedVariables false

theorem trim_any (l d : List UInt8) : (Lib.trimS l d).isEmpty = l.all fun c => d.contains c := by
  simp only [Lib.trimS, Lib.trimLeftS, Lib.trimRightS]
  rw [dropWhile_nil_iff, List.all_reverse, dropWhile_head, dropWhile_nil_iff, List.all_reverse]

/-- strings.Trim of a text by the sixteen digits -/
theorem trimHex_any (s : ByteArray) (w : World) (hs : s.size ≤ maxLen) :
    Calls Tryz.prog 38 #[.string s, .string ⟨#[48, 49, 50, 51, 52, 53, 54, 55, 56, 57, 97, 98, 99, 100, 101, 102]⟩] w fun e w' => e = .returned (.string ⟨(Lib.trimS s.data.toList M.digits).toArray⟩) ∧ Below w.heap.size w w' :=
  Any.strings_Trim_laid Tryz.lays160 (by kernel_rfl) s ⟨#[48, 49, 50, 51, 52, 53, 54, 55, 56, 57, 97, 98, 99, 100, 101, 102]⟩ w hs (by decide) (ascii_of_all (by decide))

theorem nib_some {c : UInt8} (h : M.digits.contains c = true) : ∃ x, M.nib c = some x := by
  unfold M.nib
  cases hc : M.digits.idxOf? c with
  | some x => exact ⟨x, rfl⟩
  | none =>
    exfalso
    have := List.idxOf?_eq_none_iff.1 hc
    simp only [List.contains_eq_mem, decide_eq_true_eq] at h
    exact this h
theorem nib_none {c : UInt8} (h : M.digits.contains c = false) : M.nib c = none := by
  unfold M.nib
  apply List.idxOf?_eq_none_iff.2
  intro hm
  simp only [List.contains_eq_mem, decide_eq_false_iff_not] at h
  exact h hm

/-- pairs are read exactly where the length is even and each sign is a digit -/
theorem pairs_iff : ∀ (n : Nat) (t : M.Txt), t.length ≤ n → ((M.pairs t).isSome = true ↔ t.length % 2 = 0 ∧ (t.all fun c => M.digits.contains c) = true) := by
  intro n
  induction n with
  | zero =>
    intro t ht
    obtain rfl : t = [] := List.length_eq_zero_iff.1 (by omega)
    simp [M.pairs]
  | succ n ih =>
    intro t ht
    match t with
    | [] => simp [M.pairs]
    | [a] => simp [M.pairs]
    | a :: b :: r =>
      have h := ih r (by simp at ht; omega)
      have hl : (a :: b :: r).length % 2 = r.length % 2 := by simp; omega
      rw [hl]
      unfold M.pairs
      cases ha : M.digits.contains a
      · rw [nib_none ha]
        simp only [List.all_cons, ha, Bool.false_and, Option.isSome_none]
        simp
      · obtain ⟨x, hx⟩ := nib_some ha
        rw [hx]
        cases hb : M.digits.contains b
        · rw [nib_none hb]
          simp only [List.all_cons, ha, hb, Bool.false_and, Bool.and_false, Option.isSome_none]
          simp
        · obtain ⟨y, hy⟩ := nib_some hb
          rw [hy]
          simp only [Option.isSome_map, List.all_cons, ha, hb, Bool.true_and]
          exact h

end Go.Proofs.YthiknlnhdjoipaaGreatDoor
