/-
  The contracts of slices.Equal at bytes, of bytes.Equal, of obj.sameFrag. The contracts of slices.EqualFunc at fragments, of obj.Same.
-/
import Derived.Test.YthiknlnhdjoipaaGreatDoorSame
import Derived.Test.YthiknlnhdjoipaaGreatDoorMemB
import Derived.Test.YthiknlnhdjoipaaGreatDoorCheckA

namespace Go.Proofs.YthiknlnhdjoipaaGreatDoor
open Go.RowKit Go.Shelf
set_option linter.unusedVariables false

theorem BytesAt.in {w : World} {xs : List Int} {a : Option Addr} {c : Nat} (h : BytesAt w (.slice a xs.length c) xs) : Lib.BytesIn w a xs.length xs := fun hn => by
  obtain ⟨b, off, rfl, hc⟩ := h.1.all hn
  refine ⟨b, off, rfl, fun i hi => ?_⟩
  have := hc i 0 hi (by decide)
  rwa [Nat.mul_one, Nat.add_zero] at this

theorem bytesOf_eq : ∀ xs ys : List Int, (∀ b ∈ xs, 0 ≤ b ∧ b < 256) → (∀ b ∈ ys, 0 ≤ b ∧ b < 256) → (Lib.bytesOf xs == Lib.bytesOf ys) = M.allTwo (fun x y => x == y) xs ys
  | [], [], _, _ => rfl
  | [], y :: ys, _, _ => rfl
  | x :: xs, [], _, _ => rfl
  | x :: xs, y :: ys, hx, hy => by
    have ih := bytesOf_eq xs ys (fun b hb => hx b (List.mem_cons_of_mem _ hb)) (fun b hb => hy b (List.mem_cons_of_mem _ hb))
    have h1 := hx x List.mem_cons_self
    have h2 := hy y List.mem_cons_self
    have e : (UInt8.ofNat x.toNat == UInt8.ofNat y.toNat) = (x == y) := by
      rw [Bool.eq_iff_iff]
      simp only [beq_iff_eq]
      constructor
      · intro h
        have := congrArg UInt8.toNat h
        simp at this
        omega
      · intro h
        rw [h]
    show ((UInt8.ofNat x.toNat :: Lib.bytesOf xs) == (UInt8.ofNat y.toNat :: Lib.bytesOf ys)) = _
    rw [List.cons_beq_cons, ih, e]
    rfl

theorem bytesEqual_any (xs ys : List Int) (a1 a2 : Option Addr) (c d : Nat) (w : World) (h1 : BytesAt w (.slice a1 xs.length c) xs) (h2 : BytesAt w (.slice a2 ys.length d) ys) :
    Calls Tryz.prog 31 #[.slice a1 xs.length c, .slice a2 ys.length d] w fun e w' => e = .returned (.bool (M.allTwo (fun x y => x == y) xs ys)) ∧ w' = w := by
  rw [← bytesOf_eq xs ys h1.2 h2.2]
  exact Any.bytes_Equal_all Tryz.laysnb115 a1 a2 xs.length c ys.length d xs ys w rfl rfl h1.in h2.in

end Go.Proofs.YthiknlnhdjoipaaGreatDoor

namespace Go.Proofs.YthiknlnhdjoipaaGreatDoor
open Go.RowKit Go.Shelf
set_option linter.unusedVariables false

theorem allTwo_len {α : Type} (eq : α → α → Bool) (xs ys : List α) (h : ¬ xs.length = ys.length) : M.allTwo eq xs ys = false := by
  rw [← allTwo_eq, Lib.allEq_len _ _ _ h]

theorem frgs_step {xs ys : List M.Frg} {k : Nat} (hx : k < xs.length) (hy : k < ys.length) :
    M.allTwo M.sameFrg (xs.drop k) (ys.drop k) = (M.sameFrg (xs.getD k frg0) (ys.getD k frg0) && M.allTwo M.sameFrg (xs.drop (k + 1)) (ys.drop (k + 1))) := by
  rw [drop_getD xs frg0 k hx, drop_getD ys frg0 k hy]; rfl

end Go.Proofs.YthiknlnhdjoipaaGreatDoor
