/-
  How names stand, in memory: a map from texts to numbers.
-/
import Derived.Test.YtgfpcldaaelelaaChecked
import Derived.Test.YtgfpcldaaelelaaMathAll
import Derived.Test.YtgfpcldaaelelaaOwnRow
import Derived.Maps.OwnOps
import Derived.Maps.OwnSet
namespace Go.Proofs.Ytgfpcldaaelelaa
open Go Go.RowKit Go.Maps
set_option linter.unusedVariables false

theorem keyS : Keyed Try.prog 9 := string_keyed Try.underlying9
theorem zeroI (w : World) : (zeroValue 3).run Try.prog w = .ok (.int .i64 0) w := by kernel_rfl

/-- the map at block b says how names stand -/
def StAt (w : World) (b N : Nat) (st : M.St) : Prop :=
  ∃ n D, n ≤ N ∧ w.ownsMap (H := Unit) Try.prog 9 (plainElem Try.prog 3) b n D ∧ IsMap D ∧ ∀ s, D.atKey (.string s) (.lit (.int .i64 0)) = .lit (.int .i64 (st s))

theorem StAt.mono {w : World} {b N N' : Nat} {st : M.St} (h : StAt w b N st) (hn : N ≤ N') : StAt w b N' st :=
  let ⟨n, D, h1, h2⟩ := h
  ⟨n, D, Nat.le_trans h1 hn, h2⟩

theorem StAt.later {w w' : World} {b N : Nat} {st : M.St} (h : StAt w b N st) (hb : Below w.heap.size w w') : StAt w' b N st := by
  obtain ⟨n, D, h1, ⟨es, clock, hm, h3⟩, h4⟩ := h
  exact ⟨n, D, h1, ⟨es, clock, (hb.block b (Array.getElem?_eq_some_iff.1 hm).1).trans hm, h3⟩, h4⟩

theorem StAt.kept {w w' : World} {b N : Nat} {st : M.St} {r : Option Nat} (h : StAt w b N st) (hb : w.grownBy w' r) (hr : r ≠ some b) : StAt w' b N st := by
  obtain ⟨n, D, h1, ⟨es, clock, hm, h3⟩, h4⟩ := h
  exact ⟨n, D, h1, ⟨es, clock, (hb.block b (Array.getElem?_eq_some_iff.1 hm).1 (fun e => hr e.symm)).trans hm, h3⟩, h4⟩

theorem StAt.lt {w : World} {b N : Nat} {st : M.St} (h : StAt w b N st) : b < w.heap.size := by
  obtain ⟨n, D, h1, ⟨es, clock, hm, h3⟩, h4⟩ := h
  exact (Array.getElem?_eq_some_iff.1 hm).1

theorem StAt.nil (w : World) : StAt (w.alloc (.map #[] 0)) w.heap.size 0 (fun _ => 0) :=
  ⟨0, .map [], Nat.le_refl _, World.ownsMap_made _ _ _ _, isMap_empty, fun s => rfl⟩

theorem StAt.look {w : World} {b N : Nat} {st : M.St} (h : StAt w b N st) (s : ByteArray) (hs : s.size ≤ maxLen) :
    (Instr.lookup 61 (.map (some b)) (.string s) false).run Try.prog w = .ok (.int .i64 (st s.data.toList)) w := by
  obtain ⟨n, D, h1, hown, _, hat⟩ := h
  obtain ⟨c, hrun, hc, _⟩ := hown.lookup_int keyS Try.underlying61 Try.underlying3 (zeroI w) (WideMaps.keyOf_string_mk Try.underlying9 hs)
  rw [hat] at hc
  have hc' : st s.data.toList = c := by
    simp only [DataW.lit.injEq, Lit.int.injEq, true_and] at hc
    exact hc
  rw [hrun, hc']

theorem StAt.put {w : World} {b N : Nat} {st : M.St} (h : StAt w b N st) (hN : N < maxLen) (s : ByteArray) (hs : s.size ≤ maxLen) (v : Int) (hv : (Lit.int .i64 v).wf = true) :
    ∃ w', (Instr.mapUpdate 61 (.map (some b)) (.string s) (.int .i64 v)).run Try.prog w = .ok () w' ∧ StAt w' b (N + 1) (st.set s v) ∧ w.grownBy w' (some b) := by
  obtain ⟨n, D, h1, hown, him, hat⟩ := h
  obtain ⟨w', hrun, ho, hg⟩ := hown.update keyS Try.underlying61 (Nat.lt_of_le_of_lt h1 hN) (WideMaps.keyOf_string_mk Try.underlying9 hs) (plainElem_int Try.underlying3 hv)
  refine ⟨w', hrun, ⟨n + 1, _, by omega, ho, him.put _ _, fun t => ?_⟩, hg⟩
  by_cases e : t = s.data.toList
  · subst e
    rw [atKey_put_same him (by trivial)]
    simp [M.St.set]
  · rw [atKey_put_other (fun e' => e (by injection e')), hat]
    simp [M.St.set, e]

end Go.Proofs.Ytgfpcldaaelelaa
