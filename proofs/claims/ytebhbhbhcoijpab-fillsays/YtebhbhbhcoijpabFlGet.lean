/-
  The contract of Get.
-/
import Derived.Test.YtebhbhbhcoijpabFlSplit
import Derived.Test.YtebhbhbhcoijpabMem
namespace Go.Proofs.Ytebhbhbhcoijpab
open Go.RowKit
set_option linter.unusedVariables false

theorem BytesAt.cell {w : World} {a : Option Addr} {c : Nat} {l : List Int} (h : BytesAt w (.slice a l.length c) l) (k : Nat) (hk : k < l.length) :
    ∃ b off, a = some ⟨b, off, none⟩ ∧ w.cell? ⟨b, off + k, none⟩ = some (.int .u8 (l.getD k 0)) ∧ b < w.heap.size := by
  obtain ⟨b, off, e, hc⟩ := SlAt.at h.1 k hk
  have := hc 0 (by omega)
  rw [Nat.mul_one, Nat.add_zero] at this
  exact ⟨b, off, e, this, World.block_lt_of_cell? _ _ this⟩

theorem place_ok {len pos k : Int} (h : M.place len pos k = 0) : M.known k = true ∧ len ≤ 65536 ∧ 0 ≤ pos ∧ pos + M.wide k ≤ len := by
  unfold M.place at h
  cases h1 : M.known k
  · rw [h1, if_pos rfl] at h; exact absurd h (by decide)
  · rw [h1, if_neg (by decide)] at h
    by_cases h2 : 65536 < len
    · rw [if_pos h2] at h; exact absurd h (by decide)
    · rw [if_neg h2] at h
      cases h3 : M.within pos 0 (len - M.wide k)
      · rw [h3, if_pos rfl] at h; exact absurd h (by decide)
      · simp only [M.within, Bool.and_eq_true, decide_eq_true_eq] at h3
        exact ⟨rfl, by omega, by omega, by omega⟩

theorem byte_range {w : World} {v : Value} {bs : List Int} (h : BytesAt w v bs) (k : Nat) : 0 ≤ bs.getD k 0 ∧ bs.getD k 0 < 256 := by
  by_cases hk : k < bs.length
  · exact h.2 _ (getD_mem bs 0 k hk)
  · rw [List.getD_eq_getElem?_getD, List.getElem?_eq_none (by omega)]; decide

set_option maxHeartbeats 1000000 in
theorem get_any (bs : List Int) (a : Option Addr) (c : Nat) (pos k : Int) (w : World) (h : BytesAt w (.slice a bs.length c) bs) :
    Calls Try.prog 7 #[.slice a bs.length c, .int .i64 pos, .int .i64 k] w fun e w' => e = .returned (.tuple #[.int .i64 (M.get bs pos k).1, .int .i64 (M.get bs pos k).2]) ∧ Below w.heap.size w w' := by
  have hl : bs.length ≤ maxLen := by obtain ⟨_, _, _, h⟩ := h.1.form; exact h
  have KC := fun W => checkPlace_any a bs.length c pos k W hl
  have HV : Hid (M.get bs pos k = if M.place bs.length pos k = 0 then (M.whole (bs.getD pos.toNat 0) (M.second bs pos.toNat k) k, 0) else (0, M.place bs.length pos k)) := rfl
  have HP : Hid (M.place bs.length pos k = 0 → M.known k = true ∧ (bs.length : Int) ≤ 65536 ∧ 0 ≤ pos ∧ pos + M.wide k ≤ bs.length) := place_ok
  unfold maxLen at hl
  generalize M.get bs pos k = V at *
  generalize M.place bs.length pos k = er at *
  cases he : (er == 0)
  · obtain rfl : V = (0, er) := by have := HV.out; rwa [if_neg (by simpa using he)] at this
    have he' : (er != 0) = true := by simpa using he
    clear HV HP
    go_enter Try.func7, Try.ntmps7
    go_wp2_with (go_at_call 19; refine (KC _).mono ?_; rintro e w' ⟨rfl, rfl⟩)
    go_ret2
    exact ⟨rfl, Below.refl _ _⟩
  · obtain rfl : er = 0 := by simpa using he
    clear he
    obtain ⟨hk, hlen, hp0, hpw⟩ := HP.out rfl
    obtain ⟨p, rfl⟩ : ∃ p : Nat, pos = p := ⟨pos.toNat, by omega⟩
    clear HP hp0
    have HV2 : Hid (V = (M.whole (bs.getD p 0) (M.second bs p k) k, 0)) := HV.out
    clear HV
    have hr0 := byte_range h p
    have hr1 : 0 ≤ M.second bs p k ∧ M.second bs p k < 256 := by
      unfold M.second
      split
      · exact byte_range h (p + 1)
      · decide
    have KW := wide_any k
    have HWh : Hid (∀ W, Calls Try.prog 22 #[.agg #[.int .u8 (bs.getD p 0), .int .u8 (M.second bs p k)], .int .i64 k] W fun e w' => e = .returned (.int .i64 (M.whole (bs.getD p 0) (M.second bs p k) k)) ∧ Below W.heap.size W w') := fun W => whole_any _ _ k W hr0 hr1 hk
    have HW : Hid (M.wide k = 1 ∨ M.wide k = 2) := by rcases M.kinds hk with rfl | rfl | rfl | rfl <;> simp [Hid, M.wide]
    have hwd := HW.out
    obtain ⟨b, off, rfl, hc0, hb0⟩ := h.cell p (by omega)
    have H2 : Hid (M.second bs p k = if M.wide k = 2 then bs.getD (p + 1) 0 else 0) := rfl
    have HC1 : Hid (M.wide k = 2 → w.cell? ⟨b, off + (p + 1), none⟩ = some (.int .u8 (bs.getD (p + 1) 0))) := fun h2 => by
      obtain ⟨b', off', e, hc1, _⟩ := h.cell (p + 1) (by omega)
      cases e
      exact hc1
    generalize M.second bs p k = y at *
    generalize M.whole (bs.getD p 0) y k = Z at *
    obtain rfl : V = (Z, 0) := HV2.out
    clear HV2 h hk
    generalize bs.getD p 0 = x at *
    generalize bs.getD (p + 1) 0 = x1 at *
    generalize M.wide k = wd at *
    generalize bs.length = L at *
    rcases hwd with rfl | rfl
    · obtain rfl : y = 0 := H2.out
      clear H2 HC1 HW
      go_enter Try.func7, Try.ntmps7
      go_wp2_with (first | (go_at_call 19; refine (KC _).mono ?_; rintro e w' ⟨rfl, rfl⟩) | (go_at_call 21; refine (KW _).mono ?_; rintro e w' ⟨rfl, rfl⟩))
      go_loopw [20] (fun s20 wr => ∃ (j : Nat), j ≤ 1 ∧ s20 = .int .i64 j ∧ Hid (wr = w'.alloc (.cells #[.int .u8 (if j = 0 then 0 else x), .int .u8 0] 42))) (fun s20 _ => 1 - (intOf s20).toNat)
      case atStart => exact ⟨0, by omega, rfl, rfl⟩
      case round =>
        obtain ⟨j, hj, rfl, HB⟩ := hrel
        rcases (by omega : j = 0 ∨ j = 1) with rfl | rfl
        · obtain rfl : wr = w'.alloc (.cells #[.int .u8 0, .int .u8 0] 42) := HB.out
          clear HB
          go_wp2_with fail
          go_roundw
          case rel => exact ⟨1, by omega, by go_num, by first | rfl | (show _ = _; simp)⟩
          case measure => simp [intOf]
        · obtain rfl : wr = w'.alloc (.cells #[.int .u8 x, .int .u8 0] 42) := HB.out
          clear HB
          go_wp2_with (go_at_call 22; refine (HWh.out _).mono ?_; rintro e w1 ⟨rfl, hb1⟩)
          go_ret2
          exact ⟨rfl, ((Below.refl _ _).alloc (Nat.le_refl _) _).trans (hb1.mono (by simp))⟩
    · have hc1 := HC1.out rfl
      obtain rfl : y = x1 := H2.out
      clear H2 HC1 HW
      go_enter Try.func7, Try.ntmps7
      go_wp2_with (first | (go_at_call 19; refine (KC _).mono ?_; rintro e w' ⟨rfl, rfl⟩) | (go_at_call 21; refine (KW _).mono ?_; rintro e w' ⟨rfl, rfl⟩))
      go_loopw [20] (fun s20 wr => ∃ (j : Nat), j ≤ 2 ∧ s20 = .int .i64 j ∧ Hid (wr = w'.alloc (.cells #[.int .u8 (if j = 0 then 0 else x), .int .u8 (if j = 2 then y else 0)] 42))) (fun s20 _ => 2 - (intOf s20).toNat)
      case atStart => exact ⟨0, by omega, rfl, rfl⟩
      case round =>
        obtain ⟨j, hj, rfl, HB⟩ := hrel
        rcases (by omega : j = 0 ∨ j = 1 ∨ j = 2) with rfl | rfl | rfl
        · obtain rfl : wr = w'.alloc (.cells #[.int .u8 0, .int .u8 0] 42) := HB.out
          clear HB
          go_wp2_with fail
          go_roundw
          case rel => exact ⟨1, by omega, by go_num, by first | rfl | (show _ = _; simp)⟩
          case measure => simp [intOf]
        · obtain rfl : wr = w'.alloc (.cells #[.int .u8 x, .int .u8 0] 42) := HB.out
          clear HB
          go_wp2_with fail
          go_roundw
          case rel => exact ⟨2, by omega, by go_num, by first | rfl | (show _ = _; simp)⟩
          case measure => simp [intOf]
        · obtain rfl : wr = w'.alloc (.cells #[.int .u8 x, .int .u8 y] 42) := HB.out
          clear HB
          go_wp2_with (go_at_call 22; refine (HWh.out _).mono ?_; rintro e w1 ⟨rfl, hb1⟩)
          go_ret2
          exact ⟨rfl, ((Below.refl _ _).alloc (Nat.le_refl _) _).trans (hb1.mono (by simp))⟩

end Go.Proofs.Ytebhbhbhcoijpab
