/-
  What the reading of a slice gives: its elements, and where they lie.
-/
import Derived.Test.YtebhbhbhcoijpaaChecked
import Derived.Test.YtebhbhbhcoijpaaMem
import Derived.ProofKit
import Derived.OpenShut
import Derived.Deep.Slices
import Derived.Lib.SmallJoins
namespace Go.Proofs.Ytebhbhbhcoijpaa
open Go.ChangeShapes Go.WideShapes Go.RowKit Go.Deep
set_option linter.unusedVariables false

theorem SlAt.congr {w : World} {v : Value} {k n : Nat} {cell cell' : Nat → Nat → Value} (h : SlAt w v k n cell) (e : ∀ j i, j < n → i < k → cell j i = cell' j i) : SlAt w v k n cell' := by
  obtain ⟨a, c, rfl, hn, h⟩ := h
  refine ⟨a, c, rfl, hn, ?_⟩
  rcases h with h | ⟨b, off, rfl, h⟩
  · exact .inl h
  · exact .inr ⟨b, off, rfl, fun j i hj hi => by rw [h j i hj hi, e j i hj hi]⟩

section
variable {H : Type} {enc : TypeId × Value → H} {w : World} {base : Nat} {spare : Nat → Bool} {held : Bool}

/-- a slice whose elements are read one by one -/
theorem slice_open {α : Type} (dflt : α) (Q : α → List Value → Prop) {t e : TypeId} {k fuel : Nat} {v : Value} {x : DataW H × List MemPlace} (hk : 0 < k) (hke : Try.prog.cellsOf e = k)
    (ht : Try.prog.underlying t = some (.slice e)) (hQ : ∀ n cs' y, DataW.trod enc Try.prog w base spare held n e cs' = some y → ∃ z, Q z cs') (h : DataW.trod enc Try.prog w base spare held fuel t [v] = some x) :
    ∃ (a : Option Addr) (zs : List α) (c : Nat) (CS : Nat → List Value), v = .slice a zs.length c ∧ SlAt w (.slice a zs.length c) k zs.length (fun i j => (CS i).getD j undef) ∧ ∀ i, i < zs.length → (CS i).length = k ∧ Q (zs.getD i dflt) (CS i) := by
  rcases open_slice ht h with ⟨hc, _⟩ | ⟨a, len, cap, m, n, D, Pl, hc, hb, hl, hm, hmm, _, hx⟩
  · cases hc
    exact ⟨none, [], 0, fun _ => [], rfl, ⟨none, 0, rfl, Nat.zero_le _, .inl rfl⟩, fun i hi => absurd hi (Nat.not_lt_zero _)⟩
  · cases hc
    have hlm : len ≤ m := by rw [hmm]; split <;> omega
    have key : ∀ i, i < len → ∃ z : List Value × α, w.cells? base (a.add (i * k)) k = some z.1 ∧ Q z.2 z.1 := fun i hi => by
      obtain ⟨cs', h1, h2⟩ := hx i (by omega)
      obtain ⟨z, hz⟩ := hQ _ _ _ h2
      rw [hke] at h1
      exact ⟨(cs', z), h1, hz⟩
    obtain ⟨f, hf⟩ := @choose_lt (List Value × α) ⟨([], dflt)⟩ len _ key
    have hlen : ((List.range len).map fun i => (f i).2).length = len := by simp
    refine ⟨some a, (List.range len).map fun i => (f i).2, cap, fun i => (f i).1, by rw [hlen], ?_, ?_⟩
    · rw [hlen]
      refine ⟨some a, cap, rfl, by omega, ?_⟩
      by_cases h0 : len = 0
      · exact .inl h0
      · right
        obtain ⟨b, o, s⟩ := a
        have hsp : s = none := by
          have h1 := (World.cells?_some (hf 0 (by omega)).1)
          have h2 := h1.2.2 0 hk
          rw [List.getElem?_eq_getElem (by rw [h1.2.1]; exact hk)] at h2
          simpa [Addr.add] using World.cell?_spot h2
        subst hsp
        refine ⟨b, o, rfl, fun j i hj hi => ?_⟩
        have h1 := (World.cells?_some (hf j hj).1)
        have h2 := h1.2.2 i hi
        rw [add_plain, add_plain] at h2
        rw [h2]
        show _ = some ((f j).1.getD i undef)
        rw [List.getD_eq_getElem?_getD, List.getElem?_eq_getElem (by rw [h1.2.1]; exact hi)]
        rfl
    · intro i hi
      rw [hlen] at hi
      have h1 := (World.cells?_some (hf i hi).1)
      refine ⟨h1.2.1, ?_⟩
      have e : ((List.range len).map fun i => (f i).2).getD i dflt = (f i).2 := by
        rw [List.getD_eq_getElem?_getD]; simp [hi]
      rw [e]
      exact (hf i hi).2

/-- a slice's length lies within its capacity -/
theorem cap_openS {t e : TypeId} {n : Nat} {a : Option Addr} {l c : Nat} {y : DataW H × List MemPlace} (ht : Try.prog.underlying t = some (.slice e)) (h : DataW.trod enc Try.prog w base spare held n t [.slice a l c] = some y) : l ≤ c := by
  rcases Go.Deep.open_slice ht h with ⟨hc, _⟩ | ⟨a, len, cap, m, n, D, Pl, hc, _, hl, _⟩
  · simp only [List.cons.injEq, Value.slice.injEq, and_true] at hc
    omega
  · simp only [List.cons.injEq, Value.slice.injEq, and_true] at hc
    omega

end

end Go.Proofs.Ytebhbhbhcoijpaa
