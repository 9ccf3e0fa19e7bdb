/-
  The contract of part.groups.
-/
import Derived.Test.YtpnlcmdapkhdgaaPrtStrs
import Derived.Test.YtpnlcmdapkhdgaaOwnRow
import Derived.Test.YtpnlcmdapkhdgaaCheck
import Derived.Lib.Hide
namespace Go.Proofs.Ytpnlcmdapkhdgaa
open Go.RowKit
set_option linter.unusedVariables false

theorem row_strs {w : World} {B : Nat} {v : Value} {l : List ByteArray} (h : w.ownsRow B 9 1 v l.length (l.map Value.string)) (hs : ∀ s ∈ l, s.size ≤ maxLen) : StrsAt w v l := by
  refine ⟨?_, hs⟩
  have e1 : l.map Value.string = l.flatMap (fun x => [Value.string x]) := by clear h hs; induction l <;> simp_all
  rw [e1] at h
  refine (row_slice (k := 1) str0 (fun x => [Value.string x]) (fun _ => rfl) l h).congr' (fun j i hj hi => ?_)
  obtain rfl : i = 0 := by omega
  rfl

theorem own_cap {w : World} {B k n : Nat} {e : TypeId} {v : Value} {xs : List Value} (h : w.ownsRow B e k v n xs) : ∃ ad nn cc, v = .slice ad nn cc ∧ nn ≤ cc := by
  rcases h.2 with ⟨h1, _⟩ | ⟨g, cap, cur, h1, _, _, h2, _⟩
  · exact ⟨_, _, _, h1, Nat.le_refl _⟩
  · exact ⟨_, _, _, h1, h2⟩

end Go.Proofs.Ytpnlcmdapkhdgaa
