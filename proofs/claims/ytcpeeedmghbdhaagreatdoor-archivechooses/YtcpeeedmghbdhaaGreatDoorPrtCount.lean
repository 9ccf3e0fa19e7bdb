/-
  The contract of part.count.
-/
import Derived.Test.YtcpeeedmghbdhaaGreatDoorRowsA
import Derived.Deep.WholeRow
namespace Go.Proofs.YtcpeeedmghbdhaaGreatDoor
open Go.RowKit
set_option linter.unusedVariables false

/-- an array of sixty numbers -/
structure Nums (c : Array Value) (tq : List Int) : Prop where
  size : c.size = 60
  at' : ∀ i, i < 60 → c[i]? = some (.int .i64 (tq.getD i 0))

theorem Nums.one {c : Array Value} {tq : List Int} (h : Nums c tq) : c.all (·.oneCell') = true := by
  rw [Array.all_eq_true]
  intro i hi
  have h2 := h.at' i (by rw [← h.size]; exact hi)
  rw [Array.getElem?_eq_getElem hi] at h2
  rw [Option.some.inj h2]; rfl

theorem Nums.zero : Nums (Array.replicate 60 (.int .i64 0)) [] := by
  refine ⟨by simp, fun i hi => ?_⟩
  simp [hi]

theorem Nums.set {c : Array Value} {tq : List Int} (h : Nums c tq) (x : Int) (hl : tq.length < 60) : Nums (c.setIfInBounds tq.length (.int .i64 x)) (tq ++ [x]) := by
  refine ⟨by simp [h.size], fun i hi => ?_⟩
  rw [Array.getElem?_setIfInBounds]
  by_cases e : tq.length = i
  · subst e
    rw [if_pos rfl, if_pos (by rw [h.size]; exact hi)]
    simp
  · rw [if_neg e, h.at' i hi]
    congr 2
    rw [List.getD_eq_getElem?_getD, List.getD_eq_getElem?_getD]
    by_cases h2 : i < tq.length
    · rw [List.getElem?_append_left h2]
    · rw [List.getElem?_append_right (by omega), List.getElem?_eq_none (by omega), List.getElem?_eq_none (by simp; omega)]

theorem count_take (l : List ByteArray) (n : Int) (fs : List M.Frg) (k : Nat) (h : k < fs.length) :
    M.count l n (fs.take (k + 1)) = M.count l n (fs.take k) ++ [bif M.gone l (fs.getD k frg0) then -1 else n + ((M.stays l (fs.take k)).length : Int)] := by
  rw [List.take_succ_eq_append_getElem h, M.count_append]
  congr 1
  rw [List.getD_eq_getElem?_getD, List.getElem?_eq_getElem h]
  simp only [M.count, Option.getD_some]
  cases M.gone l fs[k] <;> rfl

theorem below_setRow {B : Nat} {a w : World} {g : Nat} {c : Array Value} (h : Below B a w) (hg : B ≤ g) : Below B a (w.setRow g c) :=
  ⟨h.os, h.tape, h.output, by simpa using h.size, fun k hk => (setRow_other _ _ _ _ (by omega)).trans (h.block k hk)⟩

theorem stays_take (l : List ByteArray) (fs : List M.Frg) (k : Nat) (h : k < fs.length) :
    ((M.stays l (fs.take (k + 1))).length : Int) = ((M.stays l (fs.take k)).length : Int) + bif M.gone l (fs.getD k frg0) then 0 else 1 := by
  rw [List.take_succ_eq_append_getElem h, M.stays_append, List.getD_eq_getElem?_getD, List.getElem?_eq_getElem h]
  simp only [M.stays, List.length_append, Option.getD_some, List.filter_cons, List.filter_nil]
  cases M.gone l fs[k] <;> simp

end Go.Proofs.YtcpeeedmghbdhaaGreatDoor
