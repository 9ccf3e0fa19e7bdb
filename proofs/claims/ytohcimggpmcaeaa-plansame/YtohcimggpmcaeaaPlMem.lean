/-
  Plans in memory; the contracts of plan's small functions: fewParts, fits.
-/
import Derived.Test.YtohcimggpmcaeaaMemA
import Derived.Test.YtohcimggpmcaeaaInts
import Derived.Test.YtohcimggpmcaeaaPlMa
import Derived.Lib.Hide
import Derived.Deep.DeepCutAuto
namespace Go.Proofs.Ytohcimggpmcaeaa
open Go Go.RowKit
set_option linter.unusedVariables false

def ndCell (n : M.Nd) : Nat → Value
  | 0 => .int .i64 n.leaf
  | 1 => .int .i64 n.left
  | _ => .int .i64 n.right
def NodesAt (w : World) (v : Value) (l : List M.Nd) : Prop := SlAt w v 3 l.length (fun j i => ndCell (l.getD j M.nd0) i)
theorem NodesAt.later {w w' : World} {v : Value} {l : List M.Nd} (h : NodesAt w v l) (hb : Below w.heap.size w w') : NodesAt w' v l := SlAt.later h hb
theorem NodesAt.cells {w : World} {a : Option Addr} {c : Nat} {l : List M.Nd} (h : NodesAt w (.slice a l.length c) l) (k : Nat) (hk : k < l.length) :
    ∃ b off, a = some ⟨b, off, none⟩ ∧ w.cell? ⟨b, off + k * 3, none⟩ = some (.int .i64 (l.getD k M.nd0).leaf) ∧ w.cell? ⟨b, off + k * 3 + 1, none⟩ = some (.int .i64 (l.getD k M.nd0).left) ∧ w.cell? ⟨b, off + k * 3 + 2, none⟩ = some (.int .i64 (l.getD k M.nd0).right) := by
  obtain ⟨b, off, rfl, hc⟩ := SlAt.at h k hk
  exact ⟨b, off, rfl, hc 0 (by decide), hc 1 (by decide), hc 2 (by decide)⟩
theorem NodesAt.small {w : World} {a : Option Addr} {c : Nat} {l : List M.Nd} (h : NodesAt w (.slice a l.length c) l) : l.length ≤ maxLen := by
  obtain ⟨_, _, _, h⟩ := SlAt.form h
  exact h

/-- bools in a row -/
def BoolsAt (w : World) (v : Value) (l : List Bool) : Prop := SlAt w v 1 l.length (fun j _ => .bool (l.getD j false))
theorem BoolsAt.later {w w' : World} {v : Value} {l : List Bool} (h : BoolsAt w v l) (hb : Below w.heap.size w w') : BoolsAt w' v l := SlAt.later h hb
theorem BoolsAt.cell {w : World} {a : Option Addr} {c : Nat} {l : List Bool} (h : BoolsAt w (.slice a l.length c) l) (k : Nat) (hk : k < l.length) :
    ∃ b off, a = some ⟨b, off, none⟩ ∧ w.cell? ⟨b, off + k, none⟩ = some (.bool (l.getD k false)) ∧ b < w.heap.size := by
  obtain ⟨b, off, e, hc⟩ := SlAt.at h k hk
  have := hc 0 (by omega)
  rw [Nat.mul_one, Nat.add_zero] at this
  exact ⟨b, off, e, this, World.block_lt_of_cell? _ _ this⟩

theorem fewParts_any (n : Int) (w : World) :
    Calls Try.prog 18 #[.int .i64 n] w fun e w' => e = .returned (.bool (M.fewParts n)) ∧ w' = w := by
  by_cases h1 : 1 ≤ n <;> by_cases h2 : n ≤ 12
  all_goals
    go_enter Try.func18, Try.ntmps18
    go_wp2
    go_ret
    exact ⟨ret_bool (by simp [M.fewParts, h1, h2]), rfl⟩

theorem ahead_any (k i : Int) (b : Nat) (w : World) (hc : w.cell? ⟨b, 0, none⟩ = some (.int .i64 i)) :
    Calls Try.prog 34 #[.int .i64 k, .pointer (some ⟨b, 0, none⟩)] w fun e w' => e = .returned (.bool (M.ahead k i)) ∧ w' = w := by
  have hb : b < w.heap.size := World.block_lt_of_cell? _ _ hc
  by_cases h1 : 0 ≤ k
  · by_cases h2 : k < i
    all_goals
      go_enter Try.func34, Try.ntmps34
      go_wp2
      go_ret
      exact ⟨ret_bool (by simp [M.ahead, h1, h2]), rfl⟩
  · have HR : Hid (M.ahead k i = false) := by simp [Hid, M.ahead, h1]
    go_enter Try.func34, Try.ntmps34
    go_wp2
    go_ret
    exact ⟨ret_bool HR.out.symm, rfl⟩

set_option maxHeartbeats 1000000 in
set_option maxRecDepth 100000 in
theorem fits_any (x y z i parts : Int) (w : World) :
    Calls Try.prog 23 #[.agg #[.int .i64 x, .int .i64 y, .int .i64 z], .int .i64 i, .int .i64 parts] w fun e w' => e = .returned (.bool (M.fits ⟨x, y, z⟩ i parts)) ∧ Below w.heap.size w w' := by
  have HB : Hid (∀ o o', Below w.heap.size w ((w.alloc o).alloc o')) := fun o o' => ((Below.refl _ _).alloc (Nat.le_refl _) _).alloc (by simp) _
  have KA : Hid (∀ k o, Calls Try.prog 34 #[.int .i64 k, .pointer (some ⟨w.heap.size + 1, 0, none⟩)] ((w.alloc o).alloc (.cells #[.int .i64 i] 3)) fun e w' => e = .returned (.bool (M.ahead k i)) ∧ ((w.alloc o).alloc (.cells #[.int .i64 i] 3)) = w') := fun k o => by
    refine (ahead_any k i (w.heap.size + 1) _ ?_).mono fun e w' ⟨h1, h2⟩ => ⟨h1, h2.symm⟩
    have h := heap_alloc2_new w o (.cells #[.int .i64 i] 3)
    exact cellB h 0
  cases hx : (x == -1)
  · have HF : Hid (M.fits ⟨x, y, z⟩ i parts = (decide (0 ≤ x) && decide (x < parts) && y == 0 && z == 0)) := by
      simp only [Hid, M.fits, hx, cond_false]
    generalize M.fits ⟨x, y, z⟩ i parts = R at *
    by_cases h1 : 0 ≤ x
    · by_cases h2 : x < parts
      · cases h3 : (y == 0)
        · have HR : Hid (R = false) := by rw [Hid, HF.out, h3]; simp
          go_enter Try.func23, Try.ntmps23
          go_wp2
          go_ret
          exact ⟨ret_bool HR.out.symm, HB.out _ _⟩
        · have HR : Hid (R = (z == 0)) := by rw [Hid, HF.out, h3]; simp [h1, h2]
          go_enter Try.func23, Try.ntmps23
          go_wp2
          go_ret
          exact ⟨ret_bool HR.out.symm, HB.out _ _⟩
      · have HR : Hid (R = false) := by rw [Hid, HF.out]; simp [h2]
        go_enter Try.func23, Try.ntmps23
        go_wp2
        go_ret
        exact ⟨ret_bool HR.out.symm, HB.out _ _⟩
    · have HR : Hid (R = false) := by rw [Hid, HF.out]; simp [h1]
      go_enter Try.func23, Try.ntmps23
      go_wp2
      go_ret
      exact ⟨ret_bool HR.out.symm, HB.out _ _⟩
  · have HF : Hid (M.fits ⟨x, y, z⟩ i parts = (M.ahead y i && M.ahead z i)) := by
      simp only [Hid, M.fits, hx, cond_true]
    generalize M.fits ⟨x, y, z⟩ i parts = R at *
    have K1 : Hid (∀ o, Calls Try.prog 34 #[.int .i64 y, .pointer (some ⟨w.heap.size + 1, 0, none⟩)] ((w.alloc o).alloc (.cells #[.int .i64 i] 3)) fun e w' => e = .returned (.bool (M.ahead y i)) ∧ ((w.alloc o).alloc (.cells #[.int .i64 i] 3)) = w') := fun o => KA.out y o
    have K2 : Hid (∀ o, Calls Try.prog 34 #[.int .i64 z, .pointer (some ⟨w.heap.size + 1, 0, none⟩)] ((w.alloc o).alloc (.cells #[.int .i64 i] 3)) fun e w' => e = .returned (.bool (M.ahead z i)) ∧ ((w.alloc o).alloc (.cells #[.int .i64 i] 3)) = w') := fun o => KA.out z o
    clear K1 K2
    cases h1 : M.ahead y i
    · have HR : Hid (R = false) := by rw [Hid, HF.out, h1]; rfl
      go_enter Try.func23, Try.ntmps23
      go_wp2_with (go_at_call 34; refine (KA.out _ _).mono ?_; rintro e w1 ⟨rfl, rfl⟩)
      go_ret
      exact ⟨ret_bool (by rw [HR.out]), HB.out _ _⟩
    · have HR : Hid (R = M.ahead z i) := by rw [Hid, HF.out, h1]; rfl
      go_enter Try.func23, Try.ntmps23
      go_wp2_with (go_at_call 34; refine (KA.out _ _).mono ?_; rintro e w1 ⟨rfl, rfl⟩)
      go_ret
      exact ⟨ret_bool (by rw [HR.out]), HB.out _ _⟩

end Go.Proofs.Ytohcimggpmcaeaa
