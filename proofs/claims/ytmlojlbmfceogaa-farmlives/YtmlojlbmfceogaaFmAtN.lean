/-
  The law's at: a number below n.
-/
import Derived.Test.YtmlojlbmfceogaaChecked
import Derived.Test.YtmlojlbmfceogaaMemA
import Derived.Lib.Hide
namespace Go.Proofs.Ytmlojlbmfceogaa
open Go Go.RowKit
set_option linter.unusedVariables false

theorem atF_any (k n : Int) (w : World) (hn : 0 < n) (hn2 : n ≤ 1000) : Calls Try.prog 20 #[.int .i64 k, .int .i64 n] w fun e w' => (∃ t, e = .returned (.int .i64 t) ∧ 0 ≤ t ∧ t < n) ∧ w = w' := by
  have h1 : k.tmod n < n := Int.tmod_lt_of_pos k hn
  have h2 : -n < k.tmod n := by
    have := Int.tmod_lt_of_pos (-k) (b := n) hn
    rw [Int.neg_tmod] at this
    omega
  have hz : (n == 0) = false := by simp; omega
  have hz' : ¬ n = 0 := by omega
  generalize hq : k.tmod n = q at *
  have hw : IntKind.i64.wrap q = q := by rw [IntKind.wrap_i64]; omega
  by_cases h : q < 0
  · have hw2 : IntKind.i64.wrap (q + n) = q + n := by rw [IntKind.wrap_i64]; omega
    go_enter Try.func20, Try.ntmps20
    go_wp2
    go_ret
    exact ⟨⟨_, rfl, by omega, by omega⟩, rfl⟩
  · have h' : decide (q < 0) = false := by simpa using h
    go_enter Try.func20, Try.ntmps20
    go_wp2
    go_ret
    exact ⟨⟨_, rfl, by omega, by omega⟩, rfl⟩

end Go.Proofs.Ytmlojlbmfceogaa
