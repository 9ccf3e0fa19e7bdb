/-
  The contracts of slices.Index, slices.Contains and slices.Equal at texts.
-/
import Derived.Test.YtpnlcmdapkhdgaaMem
import Derived.Test.YtpnlcmdapkhdgaaMathAll
import Derived.Test.YtpnlcmdapkhdgaaSmall
namespace Go.Proofs.Ytpnlcmdapkhdgaa
open Go.RowKit
set_option linter.unusedVariables false

def str0 : ByteArray := ⟨#[]⟩

/-- texts in a slice -/
def StrsAt (w : World) (v : Value) (l : List ByteArray) : Prop :=
  SlAt w v 1 l.length (fun j _ => .string (l.getD j str0)) ∧ ∀ s ∈ l, s.size ≤ maxLen

theorem StrsAt.later {w w' : World} {v : Value} {l : List ByteArray} (h : StrsAt w v l) (hb : Below w.heap.size w w') : StrsAt w' v l := ⟨h.1.later hb, h.2⟩

theorem StrsAt.cell {w : World} {a : Option Addr} {c : Nat} {l : List ByteArray} (h : StrsAt w (.slice a l.length c) l) (k : Nat) (hk : k < l.length) :
    ∃ b off, a = some ⟨b, off, none⟩ ∧ w.cell? ⟨b, off + k, none⟩ = some (.string (l.getD k str0)) ∧ b < w.heap.size := by
  obtain ⟨b, off, ha, hc⟩ := h.1.at k hk
  have := hc 0 (by omega)
  simp only [Nat.mul_one, Nat.add_zero] at this
  exact ⟨b, off, ha, this, World.block_lt_of_cell? _ _ this⟩

def idx (l : List ByteArray) (s : ByteArray) (k : Nat) : Int :=
  match (l.drop k).findIdx? (fun x => x.toList == s.toList) with
    | some j => ((k + j : Nat) : Int)
    | none => -1

theorem idx_end (l : List ByteArray) (s : ByteArray) (k : Nat) (h : ¬ k < l.length) : idx l s k = -1 := by
  unfold idx
  rw [List.drop_eq_nil_of_le (by omega)]
  rfl

theorem idx_step (l : List ByteArray) (s : ByteArray) (k : Nat) (h : k < l.length) : idx l s k = bif s.toList == (l.getD k str0).toList then (k : Int) else idx l s (k + 1) := by
  unfold idx
  rw [drop_getD l str0 k h, List.findIdx?_cons, BEq.comm (a := (l.getD k str0).toList)]
  cases s.toList == (l.getD k str0).toList
  · simp only [Bool.false_eq_true, if_false, cond_false]
    cases (l.drop (k + 1)).findIdx? (fun x => x.toList == s.toList) with
    | none => rfl
    | some j => simp; omega
  · simp

theorem idx_has (l : List ByteArray) (s : ByteArray) : M.has l s = decide (0 ≤ idx l s 0) := by
  unfold idx M.has
  rw [List.drop_zero]
  cases h : l.findIdx? (fun x => x.toList == s.toList) with
  | none =>
    rw [List.findIdx?_eq_none_iff] at h
    rw [List.any_eq_false.2 (by simpa using h)]
    rfl
  | some j =>
    obtain ⟨hj, hp, _⟩ := List.findIdx?_eq_some_iff_getElem.1 h
    rw [List.any_eq_true.2 ⟨_, List.getElem_mem hj, hp⟩]
    simp only [Nat.zero_add]
    exact (decide_eq_true (by omega)).symm



def sameTexts (a b : List ByteArray) : Bool := M.allTwo (fun x y => x.toList == y.toList) a b

theorem texts_step {xs ys : List ByteArray} {k : Nat} (hx : k < xs.length) (hy : k < ys.length) :
    sameTexts (xs.drop k) (ys.drop k) = ((xs.getD k str0).toList == (ys.getD k str0).toList && sameTexts (xs.drop (k + 1)) (ys.drop (k + 1))) := by
  rw [drop_getD xs str0 k hx, drop_getD ys str0 k hy]; rfl

theorem texts_len : ∀ (xs ys : List ByteArray), ¬ xs.length = ys.length → sameTexts xs ys = false
  | [], [], h => absurd rfl h
  | [], _ :: _, _ => rfl
  | _ :: _, [], _ => rfl
  | x :: xs, y :: ys, h => by
    have := texts_len xs ys (by simpa using h)
    show (_ && sameTexts xs ys) = false
    rw [this, Bool.and_false]


end Go.Proofs.Ytpnlcmdapkhdgaa
