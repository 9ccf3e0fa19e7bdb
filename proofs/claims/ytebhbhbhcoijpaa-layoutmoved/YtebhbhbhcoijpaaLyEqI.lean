/-
  slices.Equal at integers.
-/
import Derived.Test.YtebhbhbhcoijpaaInts
import Derived.Test.YtebhbhbhcoijpaaChecked
import Derived.Test.YtebhbhbhcoijpaaSmall
import Derived.Lib.Hide
namespace Go.Proofs.Ytebhbhbhcoijpaa
open Go Go.RowKit
set_option linter.unusedVariables false

def sameInts (a b : List Int) : Bool := M.allTwo (fun x y => x == y) a b
theorem ints_step {xs ys : List Int} {k : Nat} (hx : k < xs.length) (hy : k < ys.length) :
    sameInts (xs.drop k) (ys.drop k) = ((xs.getD k 0) == (ys.getD k 0) && sameInts (xs.drop (k + 1)) (ys.drop (k + 1))) := by
  rw [drop_getD xs 0 k hx, drop_getD ys 0 k hy]; rfl
theorem ints_len : ∀ (xs ys : List Int), ¬ xs.length = ys.length → sameInts xs ys = false
  | [], [], h => absurd rfl h
  | [], _ :: _, _ => rfl
  | _ :: _, [], _ => rfl
  | x :: xs, y :: ys, h => by
    have := ints_len xs ys (by simpa using h)
    show (_ && sameInts xs ys) = false
    rw [this, Bool.and_false]

set_option maxHeartbeats 1000000 in
set_option maxRecDepth 100000 in
theorem equalI_any (xs ys : List Int) (a1 a2 : Option Addr) (c1 c2 : Nat) (w : World) (h1 : IntsAt w (.slice a1 xs.length c1) xs) (h2 : IntsAt w (.slice a2 ys.length c2) ys) :
    Calls Try.prog 68 #[.slice a1 xs.length c1, .slice a2 ys.length c2] w fun e w' => e = .returned (.bool (sameInts xs ys)) ∧ Below w.heap.size w w' := by
  have hx : xs.length ≤ maxLen := by obtain ⟨_, _, _, h⟩ := h1.form; exact h
  have hy : ys.length ≤ maxLen := by obtain ⟨_, _, _, h⟩ := h2.form; exact h
  unfold maxLen at hx hy
  by_cases hlen : xs.length = ys.length
  · have HX : Hid (sameInts xs ys = sameInts (xs.drop 0) (ys.drop 0)) := rfl
    generalize sameInts xs ys = R at *
    have HL : Hid (ys.length = xs.length) := hlen.symm
    rw [← hlen] at h2 hy ⊢
    clear hlen
    go_enter Try.func68, Try.ntmps68
    go_wp2_with fail
    go_loopw [13] (fun s13 wr => ∃ (k : Nat), k ≤ xs.length ∧ s13 = .int .i64 k ∧ Hid (Below w.heap.size w wr) ∧ Hid (R = sameInts (xs.drop k) (ys.drop k))) (fun s13 _ => xs.length - (intOf s13).toNat)
    case atStart => exact ⟨0, Nat.zero_le _, rfl, Below.refl _ _, HX⟩
    case round =>
      obtain ⟨k, hk, rfl, HB, HR⟩ := hrel
      clear HX
      by_cases hlt : k < xs.length
      · have hky : k < ys.length := by rw [HL.out]; exact hlt
        obtain ⟨b, off, rfl, hc, hb⟩ := (h1.later HB.out).cell k hlt
        obtain ⟨b', off', rfl, hc', hb'⟩ := (show IntsAt wr (.slice a2 ys.length c2) ys by rw [HL.out]; exact h2.later HB.out).cell k hky
        have hkl : (k : Int) < (xs.length : Int) := by omega
        have HR1 := HR.out
        rw [ints_step hlt hky] at HR1
        clear HR h1 h2
        generalize xs.getD k 0 = x at *
        generalize ys.getD k 0 = y at *
        cases he : (x == y)
        · rw [he] at HR1
          have HR2 : Hid (R = false) := HR1
          have hne : (x != y) = true := by simpa using he
          clear HR1
          go_wp2_with fail
          go_region
          all_goals
            go_wp2
            go_ret
            exact ⟨by rw [HR2.out]; rfl, HB.out.drew⟩
        · rw [he] at HR1
          have HR2 : Hid (R = sameInts (xs.drop (k + 1)) (ys.drop (k + 1))) := HR1
          have hne : (x != y) = false := by simpa using he
          clear HR1
          go_wp2_with fail
          go_region
          all_goals
            go_wp2
            go_roundw
            case rel => exact ⟨k + 1, by omega, by go_num, HB.out.drew, HR2⟩
            case measure => simp [intOf]; omega
      · have hkl : k = xs.length := by omega
        have HR2 : Hid (R = true) := by
          rw [Hid, HR.out, List.drop_eq_nil_of_le (by omega), List.drop_eq_nil_of_le (by rw [HL.out]; omega)]; rfl
        clear HR
        subst hkl
        go_wp2
        go_ret
        exact ⟨by rw [HR2.out]; rfl, HB.out⟩
  · have hl : ((xs.length : Int) != (ys.length : Int)) = true := by simp; omega
    have HX : Hid (sameInts xs ys = false) := ints_len xs ys hlen
    clear hlen
    go_enter Try.func68, Try.ntmps68
    go_wp2
    go_ret
    exact ⟨by rw [HX.out]; rfl, Below.refl _ _⟩

end Go.Proofs.Ytebhbhbhcoijpaa
