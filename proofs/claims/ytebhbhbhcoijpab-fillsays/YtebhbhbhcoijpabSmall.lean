/-
  The contracts of the small functions: within, alignment, nameByte, Wide.
-/
import Derived.Test.YtebhbhbhcoijpabChecked
import Derived.Test.YtebhbhbhcoijpabModel
import Derived.WalkKit
namespace Go.Proofs.Ytebhbhbhcoijpab
open Go.RowKit

theorem ret_int {k : IntKind} {a b : Int} (h : a = b) : Ending.returned (.int k a) = .returned (.int k b) := by rw [h]
theorem ret_bool {a b : Bool} (h : a = b) : Ending.returned (.bool a) = .returned (.bool b) := by rw [h]

theorem wide_any (n : Int) (w : World) :
    Calls Try.prog 21 #[.int .i64 n] w fun e w' => e = .returned (.int .i64 (M.wide n)) ∧ w' = w := by
  by_cases h1 : n = 1
  · subst h1
    go_enter Try.func21, Try.ntmps21
    go_wp2
    go_ret
    exact ⟨rfl, rfl⟩
  by_cases h2 : n = 2
  · subst h2
    go_enter Try.func21, Try.ntmps21
    go_wp2
    go_ret
    exact ⟨rfl, rfl⟩
  by_cases h3 : n = 3
  · subst h3
    go_enter Try.func21, Try.ntmps21
    go_wp2
    go_ret
    exact ⟨rfl, rfl⟩
  by_cases h4 : n = 4
  · subst h4
    go_enter Try.func21, Try.ntmps21
    go_wp2
    go_ret
    exact ⟨rfl, rfl⟩
  have b1 : (n == 1) = false := by simp [h1]
  have b2 : (n == 2) = false := by simp [h2]
  have b3 : (n == 3) = false := by simp [h3]
  have b4 : (n == 4) = false := by simp [h4]
  have HX : Hid (M.wide n = 0) := by simp [Hid, M.wide, h1, h2, h3, h4]
  clear h1 h2 h3 h4
  go_enter Try.func21, Try.ntmps21
  go_wp2
  go_ret
  exact ⟨ret_int HX.out.symm, rfl⟩

end Go.Proofs.Ytebhbhbhcoijpab
