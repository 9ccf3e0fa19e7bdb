/-
  The library's Sort, Compact, Grow, Concat, IsSorted, ContainsFunc, DeleteFunc at rows of texts of one's own.
-/
import Derived.Test.YtebhbhbhcoijpaaNmWanted
import Derived.Test.YtebhbhbhcoijpaaNmShelf2
import Derived.Test.YtebhbhbhcoijpaaPrtStrs
namespace Go.Proofs.Ytebhbhbhcoijpaa
open Go Go.RowKit Go.Sort
set_option linter.unusedVariables false

/-- in order -/
def ordered (l : List ByteArray) : List ByteArray := ((l.map M.txt').mergeSort fun x y => decide (x ≤ y)).map M.ofTxt

theorem ordered_len (l : List ByteArray) : (ordered l).length = l.length := by simp [ordered]

theorem sort_own (l : List ByteArray) (B : Nat) (v : Value) (w : World) (h : w.ownsRow B 9 1 v l.length (l.map Value.string)) (hl : l.length ≤ 100000) :
    Calls Try.prog 22 #[v] w fun e w' => e = .returned (.tuple #[]) ∧ w.grownBy w' v.ownBlock ∧ w'.ownsRow B 9 1 v l.length ((ordered l).map Value.string) := by
  rcases h.2 with ⟨h1, h0⟩ | ⟨g, cap, cur, h1, hb, h2, h3, h4, h5, h6⟩
  · subst h1
    have hnil : l = [] := List.length_eq_zero_iff.1 h0
    subst hnil
    exact (Any.slices_Sort_string_none Try.lays190 none 0 w).mono fun e w' ⟨he, hw⟩ => ⟨he, by rw [hw]; exact grown_of_below (Below.refl _ _) _, by rw [hw]; simpa [ordered] using h⟩
  · subst h1
    have hgl := (Array.getElem?_eq_some_iff.1 h2).1
    have hH := holds_row h rfl
    have e1 : (l.map M.txt').length = l.length := by simp
    have := Any.slices_Sort_string Try.lays190 g 0 cap (l.map M.txt') w hH hgl (by rw [e1]; omega)
    rw [e1] at this
    refine this.mono fun e w' ⟨he, n, os, hw⟩ => ⟨he, ?_, ?_⟩
    · rw [hw]; exact grown_put w g n _ os
    · have hsl : ((l.map M.txt').mergeSort fun x y => decide (x ≤ y)).length = l.length := by simp
      have hO := own_put (m := l.length) h n os _ hsl (Nat.le_refl _)
      rw [List.take_of_length_le (by omega)] at hO
      rw [hw, ordered, List.map_map]
      exact hO

theorem compact_own (l : List ByteArray) (B : Nat) (v : Value) (w : World) (h : w.ownsRow B 9 1 v l.length ((ordered l).map Value.string)) (hl : l.length ≤ 100000) :
    Calls Try.prog 23 #[v] w fun e w' => w.grownBy w' v.ownBlock ∧ ∃ x c, e = .returned (.slice x (M.rising l).length c) ∧ w'.ownsRow B 9 1 (.slice x (M.rising l).length c) (M.rising l).length ((M.rising l).map Value.string) := by
  rcases h.2 with ⟨h1, h0⟩ | ⟨g, cap, cur, h1, hb, h2, h3, h4, h5, h6⟩
  · subst h1
    have hnil : l = [] := List.length_eq_zero_iff.1 h0
    subst hnil
    have e0 : M.rising [] = [] := M.rising_eq List.Pairwise.nil (fun s => Iff.rfl)
    exact (Any.slices_Compact_string_empty Try.lays194 none 0 w).mono fun e w' ⟨he, hw⟩ => ⟨by rw [hw]; exact grown_of_below (Below.refl _ _) _, none, 0, by rw [he, e0]; rfl, by rw [hw, e0]; exact World.ownsRow_nil _ _ _ _⟩
  · subst h1
    have hsl : ((l.map M.txt').mergeSort fun x y => decide (x ≤ y)).length = l.length := by simp
    have e2 : (ordered l).map M.txt' = ((l.map M.txt').mergeSort fun x y => decide (x ≤ y)) := by rw [ordered, List.map_map]; exact List.map_id _
    have hH := holds_row h (ordered_len l).symm
    rw [e2] at hH
    have e3 : M.rising l = (Lib.compact ((l.map M.txt').mergeSort fun x y => decide (x ≤ y))).map M.ofTxt := rfl
    have hle := Lib.compact_length_le ((l.map M.txt').mergeSort fun x y => decide (x ≤ y))
    generalize ((l.map M.txt').mergeSort fun x y => decide (x ≤ y)) = st at *
    have := Any.slices_Compact_string Try.lays194 g 0 cap st w hH (by omega) (by omega)
    rw [hsl] at this
    refine this.mono fun e w' ⟨he, q, hw⟩ => ?_
    have hlen : (Lib.compact st ++ List.replicate (l.length - (Lib.compact st).length) ([] : List UInt8)).length = l.length := by simp; omega
    have hO2 := own_put (m := (Lib.compact st).length) h q #[] _ hlen (by omega)
    have hG2 := grown_put w g q (Lib.compact st ++ List.replicate (l.length - (Lib.compact st).length) []).toArray #[]
    rw [grow_empty] at hO2 hG2
    rw [List.take_left] at hO2
    refine ⟨by rw [hw]; exact hG2, some ⟨g, 0, none⟩, cap, by rw [he, e3, List.length_map], ?_⟩
    rw [hw, e3, List.length_map, List.map_map]
    exact hO2

theorem grow_own (n : Nat) (w : World) (hn : n ≤ 100000) :
    Calls Try.prog 57 #[.slice none 0 0, .int .i64 n] w fun e w' => Below w.heap.size w w' ∧ ∃ v, e = .returned v ∧ w'.ownsRow w.heap.size 9 1 v 0 [] := by
  obtain ⟨i0, hi, hz0, hz1, hz2⟩ := info_parts (P := Try.prog) (e := 9) (z := .string ⟨#[]⟩) (size := 1) (bytes := 16) (by kernel_rfl)
  by_cases h0 : n = 0
  · subst h0
    exact (Any8.slices_Grow_room Try.growS none 0 0 0 w (Nat.le_refl _) (by omega) (by omega) (Nat.le_refl _)).mono fun e w' ⟨he, hw⟩ => ⟨by rw [hw]; exact Below.refl _ _, _, he, World.ownsRow_nil _ _ _ _⟩
  · refine (Any8.slices_Grow_grow Try.growS i0 (.string ⟨#[]⟩) hi hz0 (by omega) none 0 0 n [] w (Nat.le_refl _) (by omega) (by rw [hz2]; omega) (by omega) (by simp) (fun _ => rfl) (fun a ha => by cases ha)).mono fun e w' ⟨he, hw⟩ => ?_
    refine ⟨by rw [hw]; exact ((Below.refl _ _).drew).alloc (Nat.le_refl _) _, _, he, ?_⟩
    have hge := grownCap_ge w (0 + n) 0 (Try.growS_ren.t 25)
    have hmx := grownCap_le_maxLen w (0 + n) 0 (Try.growS_ren.t 25) (by unfold maxLen; omega)
    rw [hw]
    refine ⟨rfl, .inr ⟨_, _, _, rfl, Nat.le_refl _, heap_alloc_new w.drew _, Nat.zero_le _, hmx, ?_, by simp⟩⟩
    rw [Nat.zero_add] at hge hmx
    have hz : ∀ k, (Builtin.zeroCells (Value.cells (.string ⟨#[]⟩)) k).size = k := fun k => by
      simp [Builtin.zeroCells, Value.cells]
    simp only [Array.size_append, hz]
    simp
    omega

end Go.Proofs.Ytebhbhbhcoijpaa
