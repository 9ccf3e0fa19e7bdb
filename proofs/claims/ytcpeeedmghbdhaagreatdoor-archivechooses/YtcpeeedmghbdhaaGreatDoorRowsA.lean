/-
  The contract of part.groups. The contract of names.find's own function: the definitions of a name and a kind.
-/
import Derived.Test.YtcpeeedmghbdhaaGreatDoorMemA
import Derived.Test.YtcpeeedmghbdhaaGreatDoorCheckA
import Derived.Lib.Hide
import Derived.Test.YtcpeeedmghbdhaaGreatDoorMathA
import Derived.Test.YtcpeeedmghbdhaaGreatDoorSame
import Derived.Deep.DeepCutAuto
import Derived.Deep.AppendLies

namespace Go.Proofs.YtcpeeedmghbdhaaGreatDoor
open Go.RowKit
set_option linter.unusedVariables false

theorem row_strs {w : World} {B : Nat} {v : Value} {l : List ByteArray} (h : w.ownsRow B 9 1 v l.length (l.map Value.string)) (hs : ∀ s ∈ l, s.size ≤ maxLen) : StrsAt w v l := by
  refine ⟨?_, hs⟩
  have e1 : l.map Value.string = l.flatMap (fun x => [Value.string x]) := by clear h hs; induction l <;> simp_all
  rw [e1] at h
  refine (row_slice (k := 1) str0 (fun x => [Value.string x]) (fun _ => rfl) l h).congr' (fun j i hj hi => ?_)
  obtain rfl : i = 0 := by omega
  rfl

theorem own_cap {w : World} {B k n : Nat} {e : TypeId} {v : Value} {xs : List Value} (h : w.ownsRow B e k v n xs) : ∃ ad nn cc, v = .slice ad nn cc ∧ nn ≤ cc := by
  rcases h.2 with ⟨h1, _⟩ | ⟨g, cap, cur, h1, _, _, h2, _⟩
  · exact ⟨_, _, _, h1, Nat.le_refl _⟩
  · exact ⟨_, _, _, h1, h2⟩

end Go.Proofs.YtcpeeedmghbdhaaGreatDoor

namespace Go.Proofs.YtcpeeedmghbdhaaGreatDoor
open Go.RowKit
set_option linter.unusedVariables false

def dfnArr (d : M.Dfn) : Array Value := #[.string d.name, .int .i64 d.kind, .int .i64 d.frag, .int .i64 d.pos, .int .i64 d.size, .int .i64 d.align]

theorem row_defs {w : World} {B : Nat} {v : Value} {l : List M.Dfn} (h : w.ownsRow B 51 6 v l.length (l.flatMap encDfn)) (hs : ∀ d ∈ l, d.name.size ≤ maxLen) : DefsAt w v l := by
  refine ⟨(row_slice (k := 6) dfn0 encDfn (fun _ => rfl) l h).congr' (fun j i hj hi => ?_), hs⟩
  rcases (by omega : i = 0 ∨ i = 1 ∨ i = 2 ∨ i = 3 ∨ i = 4 ∨ i = 5) with rfl | rfl | rfl | rfl | rfl | rfl <;> rfl

theorem kind_take (ds : List M.Dfn) (s : ByteArray) (kind : Int) (k : Nat) (h : k < ds.length) : M.ofKind (ds.take (k + 1)) s kind = M.ofKind (ds.take k) s kind ++ bif M.isDef s kind (ds.getD k dfn0) then [ds.getD k dfn0] else [] := by
  unfold M.ofKind
  rw [List.take_succ_eq_append_getElem h, List.filter_append, List.getD_eq_getElem?_getD, List.getElem?_eq_getElem h]
  simp only [Option.getD_some, List.filter_cons, List.filter_nil]
  cases M.isDef s kind ds[k] <;> rfl


end Go.Proofs.YtcpeeedmghbdhaaGreatDoor
