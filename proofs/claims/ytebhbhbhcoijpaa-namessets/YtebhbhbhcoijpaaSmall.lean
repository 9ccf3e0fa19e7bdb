/-
  The contracts of the small functions: within, alignment, nameByte, Wide.
-/
import Derived.Test.YtebhbhbhcoijpaaChecked
import Derived.Test.YtebhbhbhcoijpaaModel
import Derived.WalkKit
namespace Go.Proofs.Ytebhbhbhcoijpaa
open Go.RowKit

theorem ret_int {k : IntKind} {a b : Int} (h : a = b) : Ending.returned (.int k a) = .returned (.int k b) := by rw [h]
theorem ret_bool {a b : Bool} (h : a = b) : Ending.returned (.bool a) = .returned (.bool b) := by rw [h]

theorem within_any (n a b : Int) (w : World) :
    Calls Try.prog 82 #[.int .i64 n, .int .i64 a, .int .i64 b] w fun e w' => e = .returned (.bool (M.within n a b)) ∧ w' = w := by
  by_cases h1 : a ≤ n <;> by_cases h2 : n ≤ b
  all_goals
    go_enter Try.func82, Try.ntmps82
    go_wp2
    go_ret
    exact ⟨ret_bool (by simp [M.within, h1, h2]), rfl⟩

theorem alignment_any (n : Int) (w : World) :
    Calls Try.prog 83 #[.int .i64 n] w fun e w' => e = .returned (.bool (M.isAlign n)) ∧ w' = w := by
  by_cases h1 : n = 1
  · subst h1
    go_enter Try.func83, Try.ntmps83
    go_wp2
    go_ret
    exact ⟨rfl, rfl⟩
  by_cases h2 : n = 2
  · subst h2
    go_enter Try.func83, Try.ntmps83
    go_wp2
    go_ret
    exact ⟨rfl, rfl⟩
  by_cases h4 : n = 4
  · subst h4
    go_enter Try.func83, Try.ntmps83
    go_wp2
    go_ret
    exact ⟨rfl, rfl⟩
  have b1 : (n == 1) = false := by simp [h1]
  have b2 : (n == 2) = false := by simp [h2]
  have b4 : (n == 4) = false := by simp [h4]
  have hx : M.isAlign n = (n == 8) := by simp [M.isAlign, b1, b2, b4]
  have HX : Hid (M.isAlign n = (n == 8)) := hx
  clear hx h1 h2 h4
  go_enter Try.func83, Try.ntmps83
  go_wp2
  go_ret
  exact ⟨ret_bool HX.out.symm, rfl⟩

theorem wide_any (n : Int) (w : World) :
    Calls Try.prog 107 #[.int .i64 n] w fun e w' => e = .returned (.int .i64 (M.wide n)) ∧ w' = w := by
  by_cases h1 : n = 1
  · subst h1
    go_enter Try.func107, Try.ntmps107
    go_wp2
    go_ret
    exact ⟨rfl, rfl⟩
  by_cases h2 : n = 2
  · subst h2
    go_enter Try.func107, Try.ntmps107
    go_wp2
    go_ret
    exact ⟨rfl, rfl⟩
  by_cases h3 : n = 3
  · subst h3
    go_enter Try.func107, Try.ntmps107
    go_wp2
    go_ret
    exact ⟨rfl, rfl⟩
  by_cases h4 : n = 4
  · subst h4
    go_enter Try.func107, Try.ntmps107
    go_wp2
    go_ret
    exact ⟨rfl, rfl⟩
  have b1 : (n == 1) = false := by simp [h1]
  have b2 : (n == 2) = false := by simp [h2]
  have b3 : (n == 3) = false := by simp [h3]
  have b4 : (n == 4) = false := by simp [h4]
  have HX : Hid (M.wide n = 0) := by simp [Hid, M.wide, h1, h2, h3, h4]
  clear h1 h2 h3 h4
  go_enter Try.func107, Try.ntmps107
  go_wp2
  go_ret
  exact ⟨ret_int HX.out.symm, rfl⟩

theorem nameByte_any (c : Int) (w : World) :
    Calls Try.prog 105 #[.int .u8 c] w fun e w' => e = .returned (.bool (M.nameByte c)) ∧ w' = w := by
  by_cases h1 : 97 ≤ c <;> by_cases h2 : c ≤ 122 <;> by_cases h3 : 48 ≤ c <;> by_cases h4 : c ≤ 57
  all_goals
    first
    | omega
    | (have HX : Hid (M.nameByte c = true) := by simp [Hid, M.nameByte, h1, h2, h3, h4]
       go_enter Try.func105, Try.ntmps105
       go_wp2
       go_ret
       exact ⟨ret_bool HX.out.symm, rfl⟩)
    | (have HX : Hid (M.nameByte c = (c == 95)) := by simp [Hid, M.nameByte, h1, h2, h3, h4]
       go_enter Try.func105, Try.ntmps105
       go_wp2
       go_ret
       exact ⟨ret_bool HX.out.symm, rfl⟩)

end Go.Proofs.Ytebhbhbhcoijpaa
