/-
  The contract of bytes.Equal.
-/
import Derived.Test.YtebhbhbhcoijpabFlPut
import Derived.Test.YtebhbhbhcoijpabFlShelf
namespace Go.Proofs.Ytebhbhbhcoijpab
open Go.RowKit Go.Shelf
set_option linter.unusedVariables false

theorem SlAt.all {w : World} {a : Option Addr} {c k n : Nat} {cell : Nat → Nat → Value} (h : SlAt w (.slice a n c) k n cell) (hn : 0 < n) :
    ∃ b off, a = some ⟨b, off, none⟩ ∧ ∀ j i, j < n → i < k → w.cell? ⟨b, off + j * k + i, none⟩ = some (cell j i) := by
  obtain ⟨a', c', e, _, h⟩ := h
  cases e
  rcases h with h | ⟨b, off, rfl, h⟩
  · omega
  · exact ⟨b, off, rfl, h⟩

theorem BytesAt.in {w : World} {xs : List Int} {a : Option Addr} {c : Nat} (h : BytesAt w (.slice a xs.length c) xs) : Lib.BytesIn w a xs.length xs := fun hn => by
  obtain ⟨b, off, rfl, hc⟩ := h.1.all hn
  refine ⟨b, off, rfl, fun i hi => ?_⟩
  have := hc i 0 hi (by decide)
  rwa [Nat.mul_one, Nat.add_zero] at this

theorem bytesOf_eq : ∀ xs ys : List Int, (∀ b ∈ xs, 0 ≤ b ∧ b < 256) → (∀ b ∈ ys, 0 ≤ b ∧ b < 256) → (Lib.bytesOf xs == Lib.bytesOf ys) = M.allTwo (fun x y => x == y) xs ys
  | [], [], _, _ => rfl
  | [], y :: ys, _, _ => rfl
  | x :: xs, [], _, _ => rfl
  | x :: xs, y :: ys, hx, hy => by
    have ih := bytesOf_eq xs ys (fun b hb => hx b (List.mem_cons_of_mem _ hb)) (fun b hb => hy b (List.mem_cons_of_mem _ hb))
    have h1 := hx x List.mem_cons_self
    have h2 := hy y List.mem_cons_self
    have e : (UInt8.ofNat x.toNat == UInt8.ofNat y.toNat) = (x == y) := by
      rw [Bool.eq_iff_iff]
      simp only [beq_iff_eq]
      constructor
      · intro h
        have := congrArg UInt8.toNat h
        simp at this
        omega
      · intro h
        rw [h]
    show ((UInt8.ofNat x.toNat :: Lib.bytesOf xs) == (UInt8.ofNat y.toNat :: Lib.bytesOf ys)) = _
    rw [List.cons_beq_cons, ih, e]
    rfl

theorem bytesEqual_any (xs ys : List Int) (a1 a2 : Option Addr) (c d : Nat) (w : World) (h1 : BytesAt w (.slice a1 xs.length c) xs) (h2 : BytesAt w (.slice a2 ys.length d) ys) :
    Calls Try.prog 13 #[.slice a1 xs.length c, .slice a2 ys.length d] w fun e w' => e = .returned (.bool (M.allTwo (fun x y => x == y) xs ys)) ∧ w' = w := by
  rw [← bytesOf_eq xs ys h1.2 h2.2]
  exact Any.bytes_Equal_all Try.laysnb115 a1 a2 xs.length c ys.length d xs ys w rfl rfl h1.in h2.in


theorem allTwo_self : ∀ xs : List Int, M.allTwo (fun x y => x == y) xs xs = true
  | [] => rfl
  | x :: xs => by
    show ((x == x) && M.allTwo (fun x y => x == y) xs xs) = true
    rw [allTwo_self xs]; simp

end Go.Proofs.Ytebhbhbhcoijpab
