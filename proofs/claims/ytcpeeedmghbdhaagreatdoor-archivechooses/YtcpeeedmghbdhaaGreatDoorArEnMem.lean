/-
  ArchiveEnds: its two sets of names in memory.
-/
import Derived.Test.YtcpeeedmghbdhaaGreatDoorArMathX
import Derived.Test.YtcpeeedmghbdhaaGreatDoorArMemX
namespace Go.Proofs.YtcpeeedmghbdhaaGreatDoor
open Go Go.RowKit Go.Maps
set_option linter.unusedVariables false

theorem zeroB (w : World) : (zeroValue 4).run Tryz.prog w = .ok (.bool false) w := by kernel_rfl

/-- the map at block b is a set of names -/
def BAt (w : World) (b N : Nat) (S : M.BSet) : Prop :=
  ∃ n D, n ≤ N ∧ w.ownsMap (H := Unit) Tryz.prog 9 (plainElem Tryz.prog 4) b n D ∧ IsMap D ∧ ∀ s, D.atKey (.string s) (.lit (.bool false)) = .lit (.bool (S s))
theorem BAt.mono {w : World} {b N N' : Nat} {S : M.BSet} (h : BAt w b N S) (hn : N ≤ N') : BAt w b N' S :=
  let ⟨n, D, h1, h2⟩ := h
  ⟨n, D, Nat.le_trans h1 hn, h2⟩
theorem BAt.later {w w' : World} {b N : Nat} {S : M.BSet} (h : BAt w b N S) (hb : Below w.heap.size w w') : BAt w' b N S := by
  obtain ⟨n, D, h1, ⟨es, clock, hm, h3⟩, h4⟩ := h
  exact ⟨n, D, h1, ⟨es, clock, (hb.block b (Array.getElem?_eq_some_iff.1 hm).1).trans hm, h3⟩, h4⟩
theorem BAt.kept {w w' : World} {b b' N : Nat} {S : M.BSet} (h : BAt w b N S) (hb : w.grownBy w' (some b')) (hr : b' ≠ b) : BAt w' b N S := by
  obtain ⟨n, D, h1, ⟨es, clock, hm, h3⟩, h4⟩ := h
  exact ⟨n, D, h1, ⟨es, clock, (hb.block b (Array.getElem?_eq_some_iff.1 hm).1 (fun e => hr (by cases e; rfl))).trans hm, h3⟩, h4⟩
theorem BAt.lt {w : World} {b N : Nat} {S : M.BSet} (h : BAt w b N S) : b < w.heap.size := by
  obtain ⟨n, D, h1, ⟨es, clock, hm, h3⟩, h4⟩ := h
  exact (Array.getElem?_eq_some_iff.1 hm).1
theorem BAt.nil (w : World) : BAt (w.alloc (.map #[] 0)) w.heap.size 0 M.noNames :=
  ⟨0, .map [], Nat.le_refl _, World.ownsMap_made _ _ _ _, isMap_empty, fun s => rfl⟩
theorem plainB_inv {P : Program} {e : TypeId} (he : P.underlying e = some .bool) {v : Value} {x : Bool} {ps : List MemPlace} (h : plainElem (H := Unit) P e v = some (.lit (.bool x), ps)) : v = .bool x := by
  unfold plainElem at h
  rw [he] at h
  cases v <;> simp at h
  exact congrArg _ h.1
theorem BAt.look {w : World} {b N : Nat} {S : M.BSet} (h : BAt w b N S) (s : ByteArray) (hs : s.size ≤ maxLen) :
    (Instr.lookup 65 (.map (some b)) (.string s) false).run Tryz.prog w = .ok (.bool (S s.data.toList)) w := by
  obtain ⟨n, D, h1, hown, _, hat⟩ := h
  obtain ⟨v, ps, hrun, hc⟩ := hown.lookup keyS Tryz.underlying65 (zeroB w) (plainElem_bool Tryz.underlying4 false) (WideMaps.keyOf_string_mk Tryz.underlying9 hs)
  rw [hat] at hc
  rw [hrun, plainB_inv Tryz.underlying4 hc]
theorem BAt.put {w : World} {b N : Nat} {S : M.BSet} (h : BAt w b N S) (hN : N < maxLen) (s : ByteArray) (hs : s.size ≤ maxLen) :
    ∃ w', (Instr.mapUpdate 65 (.map (some b)) (.string s) (.bool true)).run Tryz.prog w = .ok () w' ∧ BAt w' b (N + 1) (S.put s) ∧ w.grownBy w' (some b) := by
  obtain ⟨n, D, h1, hown, him, hat⟩ := h
  obtain ⟨w', hrun, ho, hg⟩ := hown.update keyS Tryz.underlying65 (Nat.lt_of_le_of_lt h1 hN) (WideMaps.keyOf_string_mk Tryz.underlying9 hs) (plainElem_bool Tryz.underlying4 true)
  refine ⟨w', hrun, ⟨n + 1, _, by omega, ho, him.put _ _, fun t => ?_⟩, hg⟩
  by_cases e : t = s.data.toList
  · subst e
    rw [atKey_put_same him (by trivial)]
    simp [M.BSet.put]
  · rw [atKey_put_other (fun e' => e (by injection e')), hat]
    simp [M.BSet.put, e]

/-- a set has grown: every cell is kept -/
theorem Kp.set {w w' : World} {b N : Nat} {S : M.BSet} (h : BAt w b N S) (hg : w.grownBy w' (some b)) : Kp w w' := fun a u hu => by
  have hne : a.block ≠ b := fun e => by
    obtain ⟨n, D, h1, ⟨es, clock, hm, h3⟩, h4⟩ := h
    unfold World.cell? at hu
    rw [e, hm] at hu
    cases hu
  rw [cell_of_block (hg.block a.block (World.block_lt_of_cell? _ _ hu) (fun e => hne (by cases e; rfl)))]
  exact hu

/-- what the law has in memory: two variables, two sets -/
structure EnAt (W : World) (n9 n12 bL bH N : Nat) (st : M.St) : Prop where
  c9 : W.cell? ⟨n9, 0, none⟩ = some (.map (some bL))
  c12 : W.cell? ⟨n12, 0, none⟩ = some (.map (some bH))
  ne : bL ≠ bH
  ex : ∃ L H, BAt W bL N L ∧ BAt W bH N H ∧ M.Rl L H st
theorem EnAt.later {W X : World} {n9 n12 bL bH N : Nat} {st : M.St} (h : EnAt W n9 n12 bL bH N st) (hb : Below W.heap.size W X) : EnAt X n9 n12 bL bH N st :=
  let ⟨L, H, h1, h2, h3⟩ := h.ex
  ⟨cell_later hb h.c9, cell_later hb h.c12, h.ne, L, H, h1.later hb, h2.later hb, h3⟩

theorem addAll_take (S : M.BSet) (l : List ByteArray) (k : Nat) (h : k < l.length) : M.addAll S (l.take (k + 1)) = (M.addAll S (l.take k)).put (l.getD k str0) := by
  unfold M.addAll
  rw [List.take_succ_eq_append_getElem h, List.foldl_append, List.getD_eq_getElem?_getD, List.getElem?_eq_getElem h]
  rfl

end Go.Proofs.YtcpeeedmghbdhaaGreatDoor
