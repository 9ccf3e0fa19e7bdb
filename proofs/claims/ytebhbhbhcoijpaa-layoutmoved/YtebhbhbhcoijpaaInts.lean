/-
  Integers in a row of memory.
-/
import Derived.Test.YtebhbhbhcoijpaaOwnRow
namespace Go.Proofs.Ytebhbhbhcoijpaa
open Go Go.RowKit
set_option linter.unusedVariables false

/-- integers in a row -/
def IntsAt (w : World) (v : Value) (l : List Int) : Prop := SlAt w v 1 l.length (fun j _ => .int .i64 (l.getD j 0))
theorem IntsAt.later {w w' : World} {v : Value} {l : List Int} (h : IntsAt w v l) (hb : Below w.heap.size w w') : IntsAt w' v l := SlAt.later h hb
theorem flat_one : ∀ l : List Int, (l.flatMap fun x => [Value.int .i64 x]) = l.map (Value.int .i64)
  | [] => rfl
  | x :: l => by rw [List.flatMap_cons, flat_one l]; rfl
theorem row_ints {w : World} {B : Nat} {v : Value} {l : List Int} (h : w.ownsRow B 3 1 v l.length (l.map (Value.int .i64))) : IntsAt w v l := by
  have h' : w.ownsRow B 3 1 v l.length (l.flatMap fun x => [Value.int .i64 x]) := by
    rwa [flat_one l]
  refine (row_slice (k := 1) (0 : Int) (fun x => [Value.int .i64 x]) (fun _ => rfl) l h').congr' (fun j i hj hi => ?_)
  obtain rfl : i = 0 := by omega
  rfl
theorem IntsAt.cell {w : World} {a : Option Addr} {c : Nat} {l : List Int} (h : IntsAt w (.slice a l.length c) l) (k : Nat) (hk : k < l.length) :
    ∃ b off, a = some ⟨b, off, none⟩ ∧ w.cell? ⟨b, off + k, none⟩ = some (.int .i64 (l.getD k 0)) ∧ b < w.heap.size := by
  obtain ⟨b, off, e, hc⟩ := SlAt.at h k hk
  have := hc 0 (by omega)
  rw [Nat.mul_one, Nat.add_zero] at this
  exact ⟨b, off, e, this, World.block_lt_of_cell? _ _ this⟩
theorem ints_nil (w : World) : IntsAt w (.slice none 0 0) [] := ⟨none, 0, rfl, Nat.zero_le _, .inl rfl⟩

end Go.Proofs.Ytebhbhbhcoijpaa
