/-
  Short names for values and addresses, and what a block's cells are.
-/
import Derived.Below
import Derived.Test.YtpkfmfhodbjckaaGreatDoorProg
namespace Go.Proofs.YtpkfmfhodbjckaaGreatDoor
open Go
set_option linter.unusedVariables false

abbrev iv (n : Int) : Value := .int .i64 n
abbrev sv (a : Option Addr) (n c : Nat) : Value := .slice a n c
abbrev qa (b o : Nat) : Addr := ⟨b, o, none⟩
abbrev qv (b o : Nat) : Value := .pointer (some ⟨b, o, none⟩)
abbrev qz : Array Value := #[.slice none 0 0, .slice none 0 0, .int .i64 0, .slice none 0 0, .slice none 0 0, .slice none 0 0, .slice none 0 0, .slice none 0 0]
theorem cellC {W : World} {b : Nat} {cs : Array Value} {t : TypeId} {fr : Nat × Nat} {v : Value} (h : W.heap[b]? = some (.cells cs t fr)) (i : Nat) (hv : cs[i]? = some v) : W.cell? ⟨b, i, none⟩ = some v :=
  (show W.cell? ⟨b, i, none⟩ = cs[i]? by simp [World.cell?, h]).trans hv
theorem cell8 {W : World} {b : Nat} {a0 a1 a2 a3 a4 a5 a6 a7 : Value} {t : TypeId} {fr : Nat × Nat} (h : W.heap[b]? = some (.cells #[a0, a1, a2, a3, a4, a5, a6, a7] t fr)) : W.cell? ⟨b, 0, none⟩ = some a0 ∧ W.cell? ⟨b, 1, none⟩ = some a1 ∧ W.cell? ⟨b, 2, none⟩ = some a2 ∧ W.cell? ⟨b, 3, none⟩ = some a3 ∧ W.cell? ⟨b, 4, none⟩ = some a4 ∧ W.cell? ⟨b, 5, none⟩ = some a5 ∧ W.cell? ⟨b, 6, none⟩ = some a6 ∧ W.cell? ⟨b, 7, none⟩ = some a7 :=
  ⟨cellC h 0 rfl, cellC h 1 rfl, cellC h 2 rfl, cellC h 3 rfl, cellC h 4 rfl, cellC h 5 rfl, cellC h 6 rfl, cellC h 7 rfl⟩
theorem bra (w : World) (o : Obj) : Go.RowKit.Below w.heap.size w (w.alloc o) := (Go.RowKit.Below.refl _ _).alloc (Nat.le_refl _) _
theorem lt1 {W : World} {b : Nat} {o : Obj} (h : W.heap[b]? = some o) : b < W.heap.size := (Array.getElem?_eq_some_iff.1 h).1
theorem wlt {w : World} {a : Addr} {v : Value} (h : w.cell? a = some v) : a.block < w.heap.size := World.block_lt_of_cell? _ _ h
theorem blk {W X : World} {g : Nat} {o : Obj} (hb : Go.RowKit.Below W.heap.size W X) (h : W.heap[g]? = some o) : X.heap[g]? = some o := (hb.block _ (lt1 h)).trans h

end Go.Proofs.YtpkfmfhodbjckaaGreatDoor
