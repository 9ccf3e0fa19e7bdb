/-
  The contracts of package load's small functions: within, endOf, checkSegment, byteOf; of Check.
-/
import Derived.Test.YtmimeanfhdkhaaaLdMem
import Derived.Test.YtmimeanfhdkhaaaOwnRow
import Derived.Test.YtmimeanfhdkhaaaSmall2
import Derived.Lib.Hide
import Derived.Deep.DeepCutAuto
namespace Go.Proofs.Ytmimeanfhdkhaaa
open Go Go.RowKit
set_option linter.unusedVariables false

theorem lwithin_any (n a b : Int) (w : World) :
    Calls Try.prog 29 #[.int .i64 n, .int .i64 a, .int .i64 b] w fun e w' => e = .returned (.bool (M.within n a b)) ∧ w' = w := by
  by_cases h1 : a ≤ n <;> by_cases h2 : n ≤ b
  all_goals
    go_enter Try.func29, Try.ntmps29
    go_wp2
    go_ret
    exact ⟨by simp [M.within, h1, h2], rfl⟩

/-- a segment's value -/
abbrev segArr (s : M.Seg) (ab : Option Addr) (cb : Nat) : Array Value := #[.int .i64 s.pos, .slice ab s.bytes.length cb, .int .i64 s.zeros, .bool s.writes, .bool s.works]

set_option maxHeartbeats 1000000 in
theorem endOf_any (s : M.Seg) (ab : Option Addr) (cb : Nat) (w : World) (h1 : 0 ≤ s.pos ∧ s.pos ≤ 65536) (h2 : s.bytes.length ≤ 65536) (h3 : 0 ≤ s.zeros ∧ s.zeros ≤ 65536) :
    Calls Try.prog 31 #[.agg #[.int .i64 s.pos, .slice ab s.bytes.length cb, .int .i64 s.zeros, .bool s.writes, .bool s.works]] w fun e w' => e = .returned (.int .i64 (M.segEnd s)) ∧ Below w.heap.size w w' := by
  have HX : Hid (M.segEnd s = s.pos + s.bytes.length + s.zeros) := rfl
  generalize M.segEnd s = R at *
  obtain ⟨p, b, z, wr, wk⟩ := s
  simp only at *
  generalize b.length = n at *
  obtain rfl : R = p + n + z := HX.out
  clear HX
  have w1 : IntKind.i64.wrap (p + n) = p + n := by rw [IntKind.wrap_i64]; omega
  have w2 : IntKind.i64.wrap (p + n + z) = p + n + z := by rw [IntKind.wrap_i64]; omega
  go_enter Try.func31, Try.ntmps31
  go_wp2
  go_ret
  exact ⟨rfl, (Below.refl _ _).alloc (Nat.le_refl _) _⟩

set_option maxHeartbeats 2000000 in
theorem byteOf_any (s : M.Seg) (at_ : Int) (ab : Option Addr) (cb : Nat) (w : World) (hB : BytesAt w (.slice ab s.bytes.length cb) s.bytes) (h0 : 0 ≤ s.pos ∧ s.pos ≤ at_) (h1 : at_ ≤ 1000000) :
    Calls Try.prog 28 #[.agg #[.int .i64 s.pos, .slice ab s.bytes.length cb, .int .i64 s.zeros, .bool s.writes, .bool s.works], .int .i64 at_] w fun e w' => e = .returned (.int .u8 (M.byteOf s at_)) ∧ Below w.heap.size w w' := by
  have HX : Hid (M.byteOf s at_ = if at_ - s.pos < s.bytes.length then s.bytes.getD (at_ - s.pos).toNat 0 else 0) := rfl
  have hl : s.bytes.length ≤ maxLen := by obtain ⟨_, _, _, h⟩ := hB.1.form; exact h
  unfold maxLen at hl
  have HC : Hid (∀ k, k < s.bytes.length → ∃ b off, ab = some ⟨b, off, none⟩ ∧ w.cell? ⟨b, off + k, none⟩ = some (.int .u8 (s.bytes.getD k 0)) ∧ b < w.heap.size) := fun k hk => by
    obtain ⟨b, off, e, hc⟩ := SlAt.at hB.1 k hk
    have := hc 0 (by omega)
    rw [Nat.mul_one, Nat.add_zero] at this
    exact ⟨b, off, e, this, World.block_lt_of_cell? _ _ this⟩
  generalize M.byteOf s at_ = R at *
  clear hB
  obtain ⟨p, bs, z, wr, wk⟩ := s
  simp only at *
  obtain ⟨k, hk⟩ : ∃ k : Nat, at_ - p = k := ⟨(at_ - p).toNat, by omega⟩
  have HX2 : Hid (R = if (k : Int) < bs.length then bs.getD k 0 else 0) := by
    have := HX.out
    rwa [hk, Int.toNat_natCast] at this
  clear HX
  have w1 : IntKind.i64.wrap (at_ - p) = (k : Int) := by rw [IntKind.wrap_i64]; omega
  clear hk
  by_cases hkl : k < bs.length
  · obtain ⟨b, off, rfl, hc, hb⟩ := HC.out k hkl
    obtain rfl : R = bs.getD k 0 := by rw [HX2.out, if_pos (by omega)]
    clear HC HX2
    have hk' : (k : Int) < (bs.length : Int) := by omega
    generalize bs.length = n at *
    generalize bs.getD k 0 = x at *
    go_enter Try.func28, Try.ntmps28
    go_wp2
    go_ret
    exact ⟨rfl, (Below.refl _ _).alloc (Nat.le_refl _) _⟩
  · obtain rfl : R = 0 := by rw [HX2.out, if_neg (by omega)]
    clear HC HX2
    have hk' : (bs.length : Int) ≤ (k : Int) := by omega
    generalize bs.length = n at *
    go_enter Try.func28, Try.ntmps28
    go_wp2
    go_ret
    exact ⟨rfl, (Below.refl _ _).alloc (Nat.le_refl _) _⟩

set_option maxHeartbeats 4000000 in
set_option maxRecDepth 100000 in
theorem checkSegment_any (s : M.Seg) (e0 : Int) (ab : Option Addr) (cb : Nat) (w : World) (h0 : 0 ≤ e0) (hl : s.bytes.length ≤ maxLen) :
    Calls Try.prog 30 #[.agg #[.int .i64 s.pos, .slice ab s.bytes.length cb, .int .i64 s.zeros, .bool s.writes, .bool s.works], .int .i64 e0] w fun e w' => e = .returned (.int .i64 (M.chkSeg s e0)) ∧ Below w.heap.size w w' := by
  unfold maxLen at hl
  have HX : Hid (M.chkSeg s e0 = if M.within s.pos e0 65536 = true then (if M.within s.zeros 0 65536 = true then (if 65536 < s.bytes.length then 3 else if 65536 < M.segEnd s then 10 else 0) else 3) else 3) := rfl
  have HP : Hid (M.within s.pos e0 65536 = true → 0 ≤ s.pos ∧ s.pos ≤ 65536) := fun h => by
    simp only [M.within, Bool.and_eq_true, decide_eq_true_eq] at h; omega
  have HZ : Hid (M.within s.zeros 0 65536 = true → 0 ≤ s.zeros ∧ s.zeros ≤ 65536) := fun h => by
    simp only [M.within, Bool.and_eq_true, decide_eq_true_eq] at h; omega
  have HE : Hid (∀ W, (0 ≤ s.pos ∧ s.pos ≤ 65536) → s.bytes.length ≤ 65536 → (0 ≤ s.zeros ∧ s.zeros ≤ 65536) → Calls Try.prog 31 #[.agg #[.int .i64 s.pos, .slice ab s.bytes.length cb, .int .i64 s.zeros, .bool s.writes, .bool s.works]] W fun e w' => e = .returned (.int .i64 (M.segEnd s)) ∧ Below W.heap.size W w') := fun W a b c => endOf_any s ab cb W a b c
  generalize M.chkSeg s e0 = R at *
  generalize M.segEnd s = E at *
  obtain ⟨p, bs, z, wr, wk⟩ := s
  simp only at *
  generalize bs.length = n at *
  have KW := lwithin_any
  cases h1 : M.within p e0 65536
  · obtain rfl : R = 3 := by have := HX.out; rwa [h1, if_neg (by decide)] at this
    clear HX HP HZ HE
    go_enter Try.func30, Try.ntmps30
    go_wp2_with (go_at_call 29; refine (KW _ _ _ _).mono ?_; rintro e w' ⟨rfl, rfl⟩)
    go_ret
    exact ⟨rfl, (Below.refl _ _).alloc (Nat.le_refl _) _⟩
  · cases h2 : M.within z 0 65536
    · obtain rfl : R = 3 := by have := HX.out; rwa [h1, if_pos rfl, h2, if_neg (by decide)] at this
      clear HX HP HZ HE
      go_enter Try.func30, Try.ntmps30
      go_wp2_with (go_at_call 29; refine (KW _ _ _ _).mono ?_; rintro e w' ⟨rfl, rfl⟩)
      go_ret
      exact ⟨rfl, (Below.refl _ _).alloc (Nat.le_refl _) _⟩
    · by_cases hn : 65536 < n
      · obtain rfl : R = 3 := by have := HX.out; rwa [h1, if_pos rfl, h2, if_pos rfl, if_pos hn] at this
        clear HX HP HZ HE
        have hn' : (65536 : Int) < (n : Int) := by omega
        go_enter Try.func30, Try.ntmps30
        go_wp2_with (go_at_call 29; refine (KW _ _ _ _).mono ?_; rintro e w' ⟨rfl, rfl⟩)
        go_ret
        exact ⟨rfl, (Below.refl _ _).alloc (Nat.le_refl _) _⟩
      · have HX2 : Hid (R = if 65536 < E then 10 else 0) := by have := HX.out; rwa [h1, if_pos rfl, h2, if_pos rfl, if_neg hn] at this
        have hn' : ¬ (65536 : Int) < (n : Int) := by omega
        have KE : Hid (∀ W, Calls Try.prog 31 #[.agg #[.int .i64 p, .slice ab n cb, .int .i64 z, .bool wr, .bool wk]] W fun e w' => e = .returned (.int .i64 E) ∧ Below W.heap.size W w') := fun W => HE.out W (HP.out h1) (by omega) (HZ.out h2)
        clear HX HP HZ HE hl hn
        by_cases h4 : 65536 < E
        · obtain rfl : R = 10 := by rw [HX2.out, if_pos h4]
          clear HX2
          go_enter Try.func30, Try.ntmps30
          go_wp2_with (first | (go_at_call 29; refine (KW _ _ _ _).mono ?_; rintro e w' ⟨rfl, rfl⟩) | (go_at_call 31; refine (KE.out _).mono ?_; rintro e w1 ⟨rfl, hb1⟩))
          go_ret
          exact ⟨rfl, ((Below.refl _ _).alloc (Nat.le_refl _) _).trans (hb1.mono (by simp))⟩
        · obtain rfl : R = 0 := by rw [HX2.out, if_neg h4]
          clear HX2
          go_enter Try.func30, Try.ntmps30
          go_wp2_with (first | (go_at_call 29; refine (KW _ _ _ _).mono ?_; rintro e w' ⟨rfl, rfl⟩) | (go_at_call 31; refine (KE.out _).mono ?_; rintro e w1 ⟨rfl, hb1⟩))
          go_ret
          exact ⟨rfl, ((Below.refl _ _).alloc (Nat.le_refl _) _).trans (hb1.mono (by simp))⟩

end Go.Proofs.Ytmimeanfhdkhaaa
