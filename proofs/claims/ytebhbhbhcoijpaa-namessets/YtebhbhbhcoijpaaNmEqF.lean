/-
  Faults as they lie in memory; the library's Equal at them.
-/
import Derived.Test.YtebhbhbhcoijpaaSame
import Derived.Test.YtebhbhbhcoijpaaNmShelf
import Derived.Test.YtebhbhbhcoijpaaOwnRow
namespace Go.Proofs.Ytebhbhbhcoijpaa
open Go.RowKit Go.Shelf
set_option linter.unusedVariables false

structure Flt where
  e : Int
  name : ByteArray
  frag : Int
  pos : Int

def flt0 : Flt := ⟨0, ⟨#[]⟩, 0, 0⟩
def encF (x : Flt) : List Value := [.int .i64 x.e, .string x.name, .int .i64 x.frag, .int .i64 x.pos]
def sameFlt (a b : Flt) : Bool := a.e == b.e && a.name.toList == b.name.toList && a.frag == b.frag && a.pos == b.pos

def FltsAt (w : World) (v : Value) (l : List Flt) : Prop := SlAt w v 4 l.length (fun j i => (encF (l.getD j flt0)).getD i undef)

theorem FltsAt.later {w w' : World} {v : Value} {l : List Flt} (h : FltsAt w v l) (hb : Below w.heap.size w w') : FltsAt w' v l := SlAt.later h hb

theorem row_flts {w : World} {B : Nat} {v : Value} {l : List Flt} (h : w.ownsRow B 96 4 v l.length (l.flatMap encF)) : FltsAt w v l :=
  row_slice (k := 4) flt0 encF (fun _ => rfl) l h

theorem neqFlt : NeqAt Try.prog 96 (fun x => .agg (encF x).toArray) sameFlt := by
  refine ⟨fun x y w => ?_, GuardAt.agg _ (by kernel_rfl)⟩
  have u3 := Try.underlying3
  have a3 := Try.isAgg3
  have z3 := Try.sizeOf3
  have u2 := Try.underlying26
  have a2 := Try.isAgg26
  have z2 := Try.sizeOf26
  have u9 := Try.underlying9
  have a9 := Try.isAgg9
  have z9 := Try.sizeOf9
  have hS : Try.prog.underlying 96 = some (.struct (Try.prog.fieldsOf 96)) := by kernel_rfl
  have hp : Try.prog.stoodInHeld 96 = false := by kernel_rfl
  simp only [encF]
  rw [run_neq_struct, show (10000 : Nat) = 9999 + 1 from rfl, run_equalIn_agg w 9999 96 _ _ hS hp]
  simp only [Program.fieldsOf, Try.underlying96]
  go_simp
  by_cases h0 : x.e = y.e <;> by_cases h1 : x.name.toList = y.name.toList <;> by_cases h2 : x.frag = y.frag <;> by_cases h3 : x.pos = y.pos <;> simp [sameFlt, h0, h1, h2, h3]

set_option maxRecDepth 100000 in
theorem eqFlts_short (a1 a2 : Option Addr) (n c m d : Nat) (w : World) (hn : n ≤ maxLen) (hm : m ≤ maxLen) (h : ¬ n = m ∨ n = 0 ∧ m = 0) :
    Calls Try.prog 54 #[.slice a1 n c, .slice a2 m d] w fun e w' => e = .returned (.bool (decide (n = m))) ∧ w' = w := by
  unfold maxLen at hn hm
  rcases h with h | ⟨rfl, rfl⟩
  · have hne : (n != m) = true := by rw [bne_iff_ne]; exact h
    have hni : ¬ (n : Int) = (m : Int) := by omega
    have HX : Hid (decide (n = m) = false) := decide_eq_false h
    generalize decide (n = m) = R at *
    clear h
    go_enter Try.func54, Try.ntmps54
    go_wp2
    go_ret
    exact ⟨by rw [HX.out]; rfl, rfl⟩
  · go_enter Try.func54, Try.ntmps54
    go_wp2_with fail
    refine wp_loop_rounds 1 ?_
    rw [rounds_succ]
    go_wp2
    go_ret
    exact ⟨rfl, rfl⟩

theorem eqFlts_any (xs ys : List Flt) (a1 a2 : Option Addr) (c d : Nat) (w : World) (h1 : FltsAt w (.slice a1 xs.length c) xs) (h2 : FltsAt w (.slice a2 ys.length d) ys) :
    Calls Try.prog 54 #[.slice a1 xs.length c, .slice a2 ys.length d] w fun e w' => e = .returned (.bool (M.allTwo sameFlt xs ys)) ∧ Below w.heap.size w w' := by
  have hx : xs.length ≤ maxLen := by obtain ⟨_, _, _, h⟩ := h1.form; exact h
  have hy : ys.length ≤ maxLen := by obtain ⟨_, _, _, h⟩ := h2.form; exact h
  by_cases hsh : ¬ xs.length = ys.length ∨ xs.length = 0 ∧ ys.length = 0
  · refine (eqFlts_short a1 a2 _ c _ d w hx hy hsh).mono fun e w' ⟨he, hw⟩ => ⟨?_, by rw [hw]; exact Below.refl _ _⟩
    rw [he]
    congr 2
    rcases hsh with h | ⟨h, h'⟩
    · rw [decide_eq_false h, ← allTwo_eq, Lib.allEq_len _ _ _ h]
    · rw [List.eq_nil_of_length_eq_zero h, List.eq_nil_of_length_eq_zero h']; rfl
  · have hlen : xs.length = ys.length ∧ 0 < xs.length := by omega
    obtain ⟨b1, o1, rfl, hc1⟩ : ∃ b off, a1 = some ⟨b, off, none⟩ ∧ ∀ j i, j < xs.length → i < 4 → w.cell? ⟨b, off + j * 4 + i, none⟩ = some ((encF (xs.getD j flt0)).getD i undef) := SlAt.all h1 (by omega)
    obtain ⟨b2, o2, rfl, hc2⟩ : ∃ b off, a2 = some ⟨b, off, none⟩ ∧ ∀ j i, j < ys.length → i < 4 → w.cell? ⟨b, off + j * 4 + i, none⟩ = some ((encF (ys.getD j flt0)).getD i undef) := SlAt.all h2 (by omega)
    have key := @AnyQ.slices_Equal Try.prog Try.eqFlt_ren Flt ⟨flt0⟩ Try.eqFlt 4 Try.isAgg96 Try.sizeOf96 encF (fun _ => rfl) sameFlt neqFlt b1 o1 xs.length c b2 o2 ys.length d xs ys w (Nat.le_refl _) (Nat.le_refl _) hx hy
      (fun j hj i v hv => by
        have hi : i < 4 := (List.getElem?_eq_some_iff.1 hv).1
        have := hc1 j i hj hi
        rw [this]
        simp only [List.getD_eq_getElem?_getD, List.getElem!_eq_getElem?_getD] at hv ⊢
        exact congrArg some (by rw [hv]; rfl))
      (fun j hj i v hv => by
        have hi : i < 4 := (List.getElem?_eq_some_iff.1 hv).1
        have := hc2 j i hj hi
        rw [this]
        simp only [List.getD_eq_getElem?_getD, List.getElem!_eq_getElem?_getD] at hv ⊢
        exact congrArg some (by rw [hv]; rfl))
    rw [List.take_length, List.take_length, allTwo_eq] at key
    refine Calls.mono key fun e w' ⟨he, q, hw⟩ => ⟨he, ?_⟩
    rw [hw]
    exact below_drewN' _ _ _

end Go.Proofs.Ytebhbhbhcoijpaa
