/-
  The contracts of split and whole.
-/
import Derived.Test.YtebhbhbhcoijpabFlSmall
import Derived.Test.YtebhbhbhcoijpabLater
namespace Go.Proofs.Ytebhbhbhcoijpab
open Go.RowKit
set_option linter.unusedVariables false

theorem split_any (n : Int) (w : World) :
    Calls Try.prog 20 #[.int .i64 n] w fun e w' => e = .returned (.agg #[.int .u8 (M.byteAt n 0), .int .u8 (M.byteAt n 1)]) ∧ Below w.heap.size w w' := by
  go_enter Try.func20, Try.ntmps20
  go_wp2
  refine bodyPost_ret (v := .agg #[.int .u8 (n % 256), .int .u8 (n / 256 % 256)]) (by simp [results, Try.results20, go_sem]) rfl ?_
  exact ⟨rfl, (Below.refl _ _).alloc (Nat.le_refl _) _⟩

theorem or_bytes (a b : Int) (ha : 0 ≤ a ∧ a < 256) (hb : 0 ≤ b ∧ b < 256) : bits BinOp.or IntKind.i64 a (b * 256) = a + 256 * b := by
  obtain ⟨x, rfl⟩ : ∃ x : Nat, a = x := ⟨a.toNat, by omega⟩
  obtain ⟨y, rfl⟩ : ∃ y : Nat, b = y := ⟨b.toNat, by omega⟩
  have hy : ((y : Int) * 256) = ((y * 256 : Nat) : Int) := by omega
  rw [hy]
  have h1 : (BitVec.ofInt 64 (x : Int)).toNat = x := by
    rw [BitVec.ofInt_natCast, BitVec.toNat_ofNat]; exact Nat.mod_eq_of_lt (by omega)
  have h2 : (BitVec.ofInt 64 ((y * 256 : Nat) : Int)).toNat = y * 256 := by
    rw [BitVec.ofInt_natCast, BitVec.toNat_ofNat]; exact Nat.mod_eq_of_lt (by omega)
  have h3 : x ||| y * 256 = y * 256 + x := by
    have := Nat.two_pow_add_eq_or_of_lt (i := 8) (b := x) (by omega) y
    rw [Nat.or_comm]
    rw [show y * 256 = 2 ^ 8 * y by omega]
    exact this.symm
  show IntKind.i64.wrap ((BitVec.ofInt 64 (x : Int) ||| BitVec.ofInt 64 ((y * 256 : Nat) : Int)).toNat : Int) = _
  rw [BitVec.toNat_or, h1, h2, h3, IntKind.wrap_i64]
  omega

theorem whole_any (a b k : Int) (w : World) (ha : 0 ≤ a ∧ a < 256) (hb : 0 ≤ b ∧ b < 256) (hk : M.known k = true) :
    Calls Try.prog 22 #[.agg #[.int .u8 a, .int .u8 b], .int .i64 k] w fun e w' => e = .returned (.int .i64 (M.whole a b k)) ∧ Below w.heap.size w w' := by
  have hor := or_bytes a b ha hb
  have KF := fits_any k (a + 256 * b)
  have KW := wide_any k
  have HV : Hid (M.whole a b k = if M.fits k (a + 256 * b) then a + 256 * b else if M.wide k = 1 then a + 256 * b - 256 else a + 256 * b - 65536) := rfl
  generalize M.whole a b k = V at *
  generalize M.fits k (a + 256 * b) = ft at *
  have hs : 0 ≤ a + 256 * b ∧ a + 256 * b ≤ 65535 := by omega
  have HW : Hid (M.wide k = 1 ∨ M.wide k = 2) := by rcases M.kinds hk with rfl | rfl | rfl | rfl <;> simp [Hid, M.wide]
  generalize M.wide k = wd at *
  clear hk
  generalize hn : a + 256 * b = n at *
  clear hn
  cases ft
  · rcases HW.out with rfl | rfl
    · obtain rfl : V = n - 256 := HV.out
      clear HV HW
      go_enter Try.func22, Try.ntmps22
      go_wp2_with (first | (go_at_call 18; refine (KF _).mono ?_; rintro e w' ⟨rfl, rfl⟩) | (go_at_call 21; refine (KW _).mono ?_; rintro e w' ⟨rfl, rfl⟩))
      go_ret
      exact ⟨rfl, (Below.refl _ _).alloc (Nat.le_refl _) _⟩
    · obtain rfl : V = n - 65536 := HV.out
      clear HV HW
      go_enter Try.func22, Try.ntmps22
      go_wp2_with (first | (go_at_call 18; refine (KF _).mono ?_; rintro e w' ⟨rfl, rfl⟩) | (go_at_call 21; refine (KW _).mono ?_; rintro e w' ⟨rfl, rfl⟩))
      go_ret
      exact ⟨rfl, (Below.refl _ _).alloc (Nat.le_refl _) _⟩
  · obtain rfl : V = n := HV.out
    clear HV HW
    go_enter Try.func22, Try.ntmps22
    go_wp2_with (first | (go_at_call 18; refine (KF _).mono ?_; rintro e w' ⟨rfl, rfl⟩))
    go_ret
    exact ⟨rfl, (Below.refl _ _).alloc (Nat.le_refl _) _⟩

end Go.Proofs.Ytebhbhbhcoijpab
