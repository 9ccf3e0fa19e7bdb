/-
  Short names for values and addresses, and what a block's cells are.
-/
import Derived.Test.YtebippbakbihiaaGreatDoorProg
namespace Go.Proofs.YtebippbakbihiaaGreatDoor
open Go
set_option linter.unusedVariables false

abbrev iv (n : Int) : Value := .int .i64 n
abbrev sv (a : Option Addr) (n c : Nat) : Value := .slice a n c
abbrev qa (b o : Nat) : Addr := ⟨b, o, none⟩
abbrev qv (b o : Nat) : Value := .pointer (some ⟨b, o, none⟩)
abbrev qz : Array Value := #[.slice none 0 0, .slice none 0 0, .int .i64 0, .slice none 0 0, .slice none 0 0, .slice none 0 0, .slice none 0 0, .slice none 0 0]
theorem cellC {W : World} {b : Nat} {cs : Array Value} {t : TypeId} {fr : Nat × Nat} {v : Value} (h : W.heap[b]? = some (.cells cs t fr)) (i : Nat) (hv : cs[i]? = some v) : W.cell? ⟨b, i, none⟩ = some v :=
  (show W.cell? ⟨b, i, none⟩ = cs[i]? by simp [World.cell?, h]).trans hv
theorem lt1 {W : World} {b : Nat} {o : Obj} (h : W.heap[b]? = some o) : b < W.heap.size := (Array.getElem?_eq_some_iff.1 h).1

end Go.Proofs.YtebippbakbihiaaGreatDoor
