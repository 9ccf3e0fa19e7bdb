/-
  The contracts of split and whole. The contract of Get. The contract of Put.
-/
import Derived.Test.YtabkbicaignicaaFlSmall
import Derived.Test.YtabkbicaignicaaMemB
import Derived.Test.YtabkbicaignicaaMemA
import Derived.Laws.CopyOwn
import Derived.Laws.OwnMore
import Derived.Lib.Hide
import Derived.Deep.Cut

namespace Go.Proofs.Ytabkbicaignicaa
open Go.RowKit
set_option linter.unusedVariables false

theorem split_any (n : Int) (w : World) :
    Calls Try.prog 117 #[.int .i64 n] w fun e w' => e = .returned (.agg #[.int .u8 (M.byteAt n 0), .int .u8 (M.byteAt n 1)]) ∧ Below w.heap.size w w' := by
  go_enter Try.func117, Try.ntmps117
  go_wp2
  refine bodyPost_ret (v := .agg #[.int .u8 (n % 256), .int .u8 (n / 256 % 256)]) (by simp [results, Try.results117, go_sem]) rfl ?_
  exact ⟨rfl, (Below.refl _ _).alloc (Nat.le_refl _) _⟩

theorem or_bytes (a b : Int) (ha : 0 ≤ a ∧ a < 256) (hb : 0 ≤ b ∧ b < 256) : bits BinOp.or IntKind.i64 a (b * 256) = a + 256 * b := by
  obtain ⟨x, rfl⟩ : ∃ x : Nat, a = x := ⟨a.toNat, by omega⟩
  obtain ⟨y, rfl⟩ : ∃ y : Nat, b = y := ⟨b.toNat, by omega⟩
  have hy : ((y : Int) * 256) = ((y * 256 : Nat) : Int) := by omega
  rw [hy]
  have h1 : (BitVec.ofInt 64 (x : Int)).toNat = x := by
    rw [BitVec.ofInt_natCast, BitVec.toNat_ofNat]; exact Nat.mod_eq_of_lt (by omega)
  have h2 : (BitVec.ofInt 64 ((y * 256 : Nat) : Int)).toNat = y * 256 := by
    rw [BitVec.ofInt_natCast, BitVec.toNat_ofNat]; exact Nat.mod_eq_of_lt (by omega)
  have h3 : x ||| y * 256 = y * 256 + x := by
    have := Nat.two_pow_add_eq_or_of_lt (i := 8) (b := x) (by omega) y
    rw [Nat.or_comm]
    rw [show y * 256 = 2 ^ 8 * y by omega]
    exact this.symm
  show IntKind.i64.wrap ((BitVec.ofInt 64 (x : Int) ||| BitVec.ofInt 64 ((y * 256 : Nat) : Int)).toNat : Int) = _
  rw [BitVec.toNat_or, h1, h2, h3, IntKind.wrap_i64]
  omega

theorem whole_any (a b k : Int) (w : World) (ha : 0 ≤ a ∧ a < 256) (hb : 0 ≤ b ∧ b < 256) (hk : M.known k = true) :
    Calls Try.prog 54 #[.agg #[.int .u8 a, .int .u8 b], .int .i64 k] w fun e w' => e = .returned (.int .i64 (M.whole a b k)) ∧ Below w.heap.size w w' := by
  have hor := or_bytes a b ha hb
  have KF := fits_any k (a + 256 * b)
  have KW := wide_any k
  have HV : Hid (M.whole a b k = if M.fits k (a + 256 * b) then a + 256 * b else if M.wide k = 1 then a + 256 * b - 256 else a + 256 * b - 65536) := rfl
  generalize M.whole a b k = V at *
  generalize M.fits k (a + 256 * b) = ft at *
  have hs : 0 ≤ a + 256 * b ∧ a + 256 * b ≤ 65535 := by omega
  have HW : Hid (M.wide k = 1 ∨ M.wide k = 2) := by rcases M.kinds hk with rfl | rfl | rfl | rfl <;> simp [Hid, M.wide]
  generalize M.wide k = wd at *
  clear hk
  generalize hn : a + 256 * b = n at *
  clear hn
  cases ft
  · rcases HW.out with rfl | rfl
    · obtain rfl : V = n - 256 := HV.out
      clear HV HW
      go_enter Try.func54, Try.ntmps54
      go_wp2_with (first | (go_at_call 52; refine (KF _).mono ?_; rintro e w' ⟨rfl, rfl⟩) | (go_at_call 16; refine (KW _).mono ?_; rintro e w' ⟨rfl, rfl⟩))
      go_ret
      exact ⟨rfl, (Below.refl _ _).alloc (Nat.le_refl _) _⟩
    · obtain rfl : V = n - 65536 := HV.out
      clear HV HW
      go_enter Try.func54, Try.ntmps54
      go_wp2_with (first | (go_at_call 52; refine (KF _).mono ?_; rintro e w' ⟨rfl, rfl⟩) | (go_at_call 16; refine (KW _).mono ?_; rintro e w' ⟨rfl, rfl⟩))
      go_ret
      exact ⟨rfl, (Below.refl _ _).alloc (Nat.le_refl _) _⟩
  · obtain rfl : V = n := HV.out
    clear HV HW
    go_enter Try.func54, Try.ntmps54
    go_wp2_with (first | (go_at_call 52; refine (KF _).mono ?_; rintro e w' ⟨rfl, rfl⟩))
    go_ret
    exact ⟨rfl, (Below.refl _ _).alloc (Nat.le_refl _) _⟩

end Go.Proofs.Ytabkbicaignicaa

namespace Go.Proofs.Ytabkbicaignicaa
open Go.RowKit
set_option linter.unusedVariables false

theorem BytesAt.cell {w : World} {a : Option Addr} {c : Nat} {l : List Int} (h : BytesAt w (.slice a l.length c) l) (k : Nat) (hk : k < l.length) :
    ∃ b off, a = some ⟨b, off, none⟩ ∧ w.cell? ⟨b, off + k, none⟩ = some (.int .u8 (l.getD k 0)) ∧ b < w.heap.size := by
  obtain ⟨b, off, e, hc⟩ := SlAt.at h.1 k hk
  have := hc 0 (by omega)
  rw [Nat.mul_one, Nat.add_zero] at this
  exact ⟨b, off, e, this, World.block_lt_of_cell? _ _ this⟩

theorem place_ok {len pos k : Int} (h : M.place len pos k = 0) : M.known k = true ∧ len ≤ 65536 ∧ 0 ≤ pos ∧ pos + M.wide k ≤ len := by
  unfold M.place at h
  cases h1 : M.known k
  · rw [h1, if_pos rfl] at h; exact absurd h (by decide)
  · rw [h1, if_neg (by decide)] at h
    by_cases h2 : 65536 < len
    · rw [if_pos h2] at h; exact absurd h (by decide)
    · rw [if_neg h2] at h
      cases h3 : M.within pos 0 (len - M.wide k)
      · rw [h3, if_pos rfl] at h; exact absurd h (by decide)
      · simp only [M.within, Bool.and_eq_true, decide_eq_true_eq] at h3
        exact ⟨rfl, by omega, by omega, by omega⟩

theorem byte_range {w : World} {v : Value} {bs : List Int} (h : BytesAt w v bs) (k : Nat) : 0 ≤ bs.getD k 0 ∧ bs.getD k 0 < 256 := by
  by_cases hk : k < bs.length
  · exact h.2 _ (getD_mem bs 0 k hk)
  · rw [List.getD_eq_getElem?_getD, List.getElem?_eq_none (by omega)]; decide

set_option maxHeartbeats 1000000 in
theorem get_any (bs : List Int) (a : Option Addr) (c : Nat) (pos k : Int) (w : World) (h : BytesAt w (.slice a bs.length c) bs) :
    Calls Try.prog 15 #[.slice a bs.length c, .int .i64 pos, .int .i64 k] w fun e w' => e = .returned (.tuple #[.int .i64 (M.get bs pos k).1, .int .i64 (M.get bs pos k).2]) ∧ Below w.heap.size w w' := by
  have hl : bs.length ≤ maxLen := by obtain ⟨_, _, _, h⟩ := h.1.form; exact h
  have KC := fun W => checkPlace_any a bs.length c pos k W hl
  have HV : Hid (M.get bs pos k = if M.place bs.length pos k = 0 then (M.whole (bs.getD pos.toNat 0) (M.second bs pos.toNat k) k, 0) else (0, M.place bs.length pos k)) := rfl
  have HP : Hid (M.place bs.length pos k = 0 → M.known k = true ∧ (bs.length : Int) ≤ 65536 ∧ 0 ≤ pos ∧ pos + M.wide k ≤ bs.length) := place_ok
  unfold maxLen at hl
  generalize M.get bs pos k = V at *
  generalize M.place bs.length pos k = er at *
  cases he : (er == 0)
  · obtain rfl : V = (0, er) := by have := HV.out; rwa [if_neg (by simpa using he)] at this
    have he' : (er != 0) = true := by simpa using he
    clear HV HP
    go_enter Try.func15, Try.ntmps15
    go_wp2_with (go_at_call 53; refine (KC _).mono ?_; rintro e w' ⟨rfl, rfl⟩)
    go_ret2
    exact ⟨rfl, Below.refl _ _⟩
  · obtain rfl : er = 0 := by simpa using he
    clear he
    obtain ⟨hk, hlen, hp0, hpw⟩ := HP.out rfl
    obtain ⟨p, rfl⟩ : ∃ p : Nat, pos = p := ⟨pos.toNat, by omega⟩
    clear HP hp0
    have HV2 : Hid (V = (M.whole (bs.getD p 0) (M.second bs p k) k, 0)) := HV.out
    clear HV
    have hr0 := byte_range h p
    have hr1 : 0 ≤ M.second bs p k ∧ M.second bs p k < 256 := by
      unfold M.second
      split
      · exact byte_range h (p + 1)
      · decide
    have KW := wide_any k
    have HWh : Hid (∀ W, Calls Try.prog 54 #[.agg #[.int .u8 (bs.getD p 0), .int .u8 (M.second bs p k)], .int .i64 k] W fun e w' => e = .returned (.int .i64 (M.whole (bs.getD p 0) (M.second bs p k) k)) ∧ Below W.heap.size W w') := fun W => whole_any _ _ k W hr0 hr1 hk
    have HW : Hid (M.wide k = 1 ∨ M.wide k = 2) := by rcases M.kinds hk with rfl | rfl | rfl | rfl <;> simp [Hid, M.wide]
    have hwd := HW.out
    obtain ⟨b, off, rfl, hc0, hb0⟩ := h.cell p (by omega)
    have H2 : Hid (M.second bs p k = if M.wide k = 2 then bs.getD (p + 1) 0 else 0) := rfl
    have HC1 : Hid (M.wide k = 2 → w.cell? ⟨b, off + (p + 1), none⟩ = some (.int .u8 (bs.getD (p + 1) 0))) := fun h2 => by
      obtain ⟨b', off', e, hc1, _⟩ := h.cell (p + 1) (by omega)
      cases e
      exact hc1
    generalize M.second bs p k = y at *
    generalize M.whole (bs.getD p 0) y k = Z at *
    obtain rfl : V = (Z, 0) := HV2.out
    clear HV2 h hk
    generalize bs.getD p 0 = x at *
    generalize bs.getD (p + 1) 0 = x1 at *
    generalize M.wide k = wd at *
    generalize bs.length = L at *
    rcases hwd with rfl | rfl
    · obtain rfl : y = 0 := H2.out
      clear H2 HC1 HW
      go_enter Try.func15, Try.ntmps15
      go_wp2_with (first | (go_at_call 53; refine (KC _).mono ?_; rintro e w' ⟨rfl, rfl⟩) | (go_at_call 16; refine (KW _).mono ?_; rintro e w' ⟨rfl, rfl⟩))
      go_loopw [20] (fun s20 wr => ∃ (j : Nat), j ≤ 1 ∧ s20 = .int .i64 j ∧ Hid (wr = w'.alloc (.cells #[.int .u8 (if j = 0 then 0 else x), .int .u8 0] 108))) (fun s20 _ => 1 - (intOf s20).toNat)
      case atStart => exact ⟨0, by omega, rfl, rfl⟩
      case round =>
        obtain ⟨j, hj, rfl, HB⟩ := hrel
        rcases (by omega : j = 0 ∨ j = 1) with rfl | rfl
        · obtain rfl : wr = w'.alloc (.cells #[.int .u8 0, .int .u8 0] 108) := HB.out
          clear HB
          go_wp2_with fail
          go_roundw
          case rel => exact ⟨1, by omega, by go_num, by first | rfl | (show _ = _; simp)⟩
          case measure => simp [intOf]
        · obtain rfl : wr = w'.alloc (.cells #[.int .u8 x, .int .u8 0] 108) := HB.out
          clear HB
          go_wp2_with (go_at_call 54; refine (HWh.out _).mono ?_; rintro e w1 ⟨rfl, hb1⟩)
          go_ret2
          exact ⟨rfl, ((Below.refl _ _).alloc (Nat.le_refl _) _).trans (hb1.mono (by simp))⟩
    · have hc1 := HC1.out rfl
      obtain rfl : y = x1 := H2.out
      clear H2 HC1 HW
      go_enter Try.func15, Try.ntmps15
      go_wp2_with (first | (go_at_call 53; refine (KC _).mono ?_; rintro e w' ⟨rfl, rfl⟩) | (go_at_call 16; refine (KW _).mono ?_; rintro e w' ⟨rfl, rfl⟩))
      go_loopw [20] (fun s20 wr => ∃ (j : Nat), j ≤ 2 ∧ s20 = .int .i64 j ∧ Hid (wr = w'.alloc (.cells #[.int .u8 (if j = 0 then 0 else x), .int .u8 (if j = 2 then y else 0)] 108))) (fun s20 _ => 2 - (intOf s20).toNat)
      case atStart => exact ⟨0, by omega, rfl, rfl⟩
      case round =>
        obtain ⟨j, hj, rfl, HB⟩ := hrel
        rcases (by omega : j = 0 ∨ j = 1 ∨ j = 2) with rfl | rfl | rfl
        · obtain rfl : wr = w'.alloc (.cells #[.int .u8 0, .int .u8 0] 108) := HB.out
          clear HB
          go_wp2_with fail
          go_roundw
          case rel => exact ⟨1, by omega, by go_num, by first | rfl | (show _ = _; simp)⟩
          case measure => simp [intOf]
        · obtain rfl : wr = w'.alloc (.cells #[.int .u8 x, .int .u8 0] 108) := HB.out
          clear HB
          go_wp2_with fail
          go_roundw
          case rel => exact ⟨2, by omega, by go_num, by first | rfl | (show _ = _; simp)⟩
          case measure => simp [intOf]
        · obtain rfl : wr = w'.alloc (.cells #[.int .u8 x, .int .u8 y] 108) := HB.out
          clear HB
          go_wp2_with (go_at_call 54; refine (HWh.out _).mono ?_; rintro e w1 ⟨rfl, hb1⟩)
          go_ret2
          exact ⟨rfl, ((Below.refl _ _).alloc (Nat.le_refl _) _).trans (hb1.mono (by simp))⟩

end Go.Proofs.Ytabkbicaignicaa

namespace Go.Proofs.Ytabkbicaignicaa
open Go Go.RowKit
set_option linter.unusedVariables false

theorem putN_len (bs : List Int) (p : Nat) (n : Int) : ∀ j, (M.putN bs p n j).length = bs.length
  | 0 => rfl
  | j + 1 => by rw [M.putN, List.length_set]; exact putN_len bs p n j

theorem byteAt_range (n : Int) (j : Nat) : 0 ≤ M.byteAt n j ∧ M.byteAt n j < 256 := by
  unfold M.byteAt; split <;> omega

theorem putN_range {bs : List Int} (h : ∀ b ∈ bs, 0 ≤ b ∧ b < 256) (p : Nat) (n : Int) : ∀ j, ∀ b ∈ M.putN bs p n j, 0 ≤ b ∧ b < 256
  | 0, b, hb => h b hb
  | j + 1, b, hb => by
    rcases List.mem_or_eq_of_mem_set hb with h1 | rfl
    · exact putN_range h p n j b h1
    · exact byteAt_range n j

/-- a row of bytes, in a block of its own -/
theorem bytes_row {w : World} {B : Nat} {t : TypeId} {fr : Nat × Nat} {bs : List Int} (hb : ∀ b ∈ bs, 0 ≤ b ∧ b < 256) (hl : bs.length ≤ maxLen) (h : w.heap[B]? = some (.cells (bs.map (Value.int .u8)).toArray t fr)) (c : Nat) :
    BytesAt w (.slice (some ⟨B, 0, none⟩) bs.length c) bs := by
  refine ⟨⟨_, _, rfl, hl, .inr ⟨B, 0, rfl, fun j i hj hi => ?_⟩⟩, hb⟩
  have e : 0 + j * 1 + i = j := by omega
  rw [e, cellB h]
  simp [hj]

theorem heap_old (w : World) (o : Obj) {k : Nat} (h : k < w.heap.size) : (w.alloc o).heap[k]? = w.heap[k]? := by
  have hb := ((Below.refl w.heap.size w).alloc (Nat.le_refl _) o).block k h
  exact hb

theorem heap_new (w : World) (o : Obj) : (w.alloc o).heap[w.heap.size]? = some o := heap_alloc_new w o

theorem splice_all {α : Type} (Z X : List α) (h : Z.length = X.length) : splice Z 0 X = X := by
  simp [splice, h]

set_option maxHeartbeats 1000000 in
set_option maxRecDepth 100000 in
theorem put_any (bs : List Int) (a : Option Addr) (c : Nat) (pos k n : Int) (w : World) (h : BytesAt w (.slice a bs.length c) bs) :
    Calls Try.prog 104 #[.slice a bs.length c, .int .i64 pos, .int .i64 k, .int .i64 n] w fun e w' => Below w.heap.size w w' ∧ ∃ a' c', e = .returned (.tuple #[.slice a' (M.putB bs pos k n).1.length c', .int .i64 (M.putB bs pos k n).2]) ∧ BytesAt w' (.slice a' (M.putB bs pos k n).1.length c') (M.putB bs pos k n).1 := by
  have hl : bs.length ≤ maxLen := by obtain ⟨_, _, _, h⟩ := h.1.form; exact h
  have KC : Hid (∀ W, Calls Try.prog 53 #[.slice a bs.length c, .int .i64 pos, .int .i64 k] W fun e w' => e = .returned (.int .i64 (M.place bs.length pos k)) ∧ W = w') := fun W => (checkPlace_any a bs.length c pos k W hl).mono fun e w' ⟨h1, h2⟩ => ⟨h1, h2.symm⟩
  have KF : Hid (∀ W, Calls Try.prog 52 #[.int .i64 k, .int .i64 n] W fun e w' => e = .returned (.bool (M.fits k n)) ∧ W = w') := fun W => (fits_any k n W).mono fun e w' ⟨h1, h2⟩ => ⟨h1, h2.symm⟩
  have KW : Hid (∀ W, Calls Try.prog 16 #[.int .i64 k] W fun e w' => e = .returned (.int .i64 (M.wide k)) ∧ W = w') := fun W => (wide_any k W).mono fun e w' ⟨h1, h2⟩ => ⟨h1, h2.symm⟩
  have HV : Hid (M.putB bs pos k n = if M.place bs.length pos k = 0 then (if M.fits k n then (M.putN bs pos.toNat n (M.wide k).toNat, 0) else ([], 9)) else ([], M.place bs.length pos k)) := rfl
  have HP : Hid (M.place bs.length pos k = 0 → M.known k = true ∧ (bs.length : Int) ≤ 65536 ∧ 0 ≤ pos ∧ pos + M.wide k ≤ bs.length) := place_ok
  generalize M.putB bs pos k n = V at *
  generalize M.place bs.length pos k = er at *
  generalize M.fits k n = ft at *
  cases he : (er == 0)
  · obtain rfl : V = ([], er) := by have := HV.out; rwa [if_neg (by simpa using he)] at this
    have he' : (er != 0) = true := by simpa using he
    unfold maxLen at hl
    clear HV HP
    go_enter Try.func104, Try.ntmps104
    go_wp2_with (go_at_call 53; refine (KC.out _).mono ?_; rintro e w' ⟨rfl, rfl⟩)
    go_ret2
    exact ⟨Below.refl _ _, none, 0, rfl, ⟨none, 0, rfl, Nat.zero_le _, .inl rfl⟩, fun b hb => by cases hb⟩
  obtain rfl : er = 0 := by simpa using he
  clear he
  cases ft
  · obtain rfl : V = ([], 9) := HV.out
    unfold maxLen at hl
    clear HV HP
    go_enter Try.func104, Try.ntmps104
    go_wp2_with (first | (go_at_call 53; refine (KC.out _).mono ?_; rintro e w' ⟨rfl, rfl⟩) | (go_at_call 52; refine (KF.out _).mono ?_; rintro e w' ⟨rfl, rfl⟩))
    go_ret2
    exact ⟨Below.refl _ _, none, 0, rfl, ⟨none, 0, rfl, Nat.zero_le _, .inl rfl⟩, fun b hb => by cases hb⟩
  obtain ⟨hk, hlen, hp0, hpw⟩ := HP.out rfl
  obtain ⟨p, rfl⟩ : ∃ p : Nat, pos = p := ⟨pos.toNat, by omega⟩
  clear HP hp0
  obtain rfl : V = (M.putN bs p n (M.wide k).toNat, 0) := HV.out
  clear HV
  have hwd : M.wide k = 1 ∨ M.wide k = 2 := by rcases M.kinds hk with rfl | rfl | rfl | rfl <;> simp [M.wide]
  obtain ⟨wd, hwe, hw1, hw2⟩ : ∃ wd : Nat, M.wide k = wd ∧ 1 ≤ wd ∧ wd ≤ 2 := ⟨(M.wide k).toNat, by omega, by omega, by omega⟩
  rw [hwe] at KW hpw ⊢
  rw [show ((wd : Int)).toNat = wd from Int.toNat_natCast wd]
  clear hwd hwe hk
  have HL : Hid (∀ j, (M.putN bs p n j).length = bs.length) := putN_len bs p n
  have HR : Hid (∀ j, ∀ b ∈ M.putN bs p n j, 0 ≤ b ∧ b < 256) := putN_range h.2 p n
  have HN : Hid (∀ j, M.putN bs p n (j + 1) = (M.putN bs p n j).set (p + j) (M.byteAt n j)) := fun j => rfl
  have H0 : Hid (M.putN bs p n 0 = bs) := rfl
  obtain ⟨i1, hi1, hy0, hy1, hy2⟩ := info_parts (P := Try.prog) (e := 5) (z := .int .u8 0) (size := 1) (bytes := 1) (by kernel_rfl)
  obtain ⟨w1, hmk, hrow, hgr⟩ := run_make_full w w.heap.size 43 5 i1 (.int .u8 0) 1 Try.underlying43 hi1 hy0 hy1 .i64 .i64 bs.length (by rw [hy2]; omega) hl (Nat.le_refl _)
  have HB1 : Hid (Below w.heap.size w w1) := (Below.refl _ _).grown hgr (Nat.le_refl _) (fun k hk => by cases hk)
  obtain ⟨cur, hcur, hcl⟩ : ∃ cur : List Value, w1.heap[w.heap.size]? = some (.cells cur.toArray 5 (0, 0)) ∧ cur.length = bs.length := by
    rcases hrow.2 with ⟨h1, _⟩ | ⟨g, cap, cur, h1, _, h2, _, _, h5, _⟩
    · cases h1
    · cases h1
      exact ⟨cur.toList, by simpa using h2, by simpa using h5⟩
  have KS : Hid (∀ W, Calls Try.prog 117 #[.int .i64 n] W fun e w' => e = .returned (.agg #[.int .u8 (M.byteAt n 0), .int .u8 (M.byteAt n 1)]) ∧ Below W.heap.size W w') := fun W => split_any n W
  obtain ⟨b, off, rfl, _, _⟩ := h.cell p (by omega)
  obtain ⟨X, HX⟩ : ∃ X : List Value, Hid (X = bs.map (Value.int .u8)) := ⟨_, rfl⟩
  have hXl : X.length = bs.length := by rw [HX.out]; simp
  have HSrc : Hid (∀ j v, X[j]? = some v → w1.cell? ((⟨b, off, none⟩ : Addr).add j) = some v) := fun j v hv => by
    have hj : j < bs.length := by rw [← hXl]; exact (List.getElem?_eq_some_iff.1 hv).1
    obtain ⟨b', off', e, hc, _⟩ := (h.later HB1.out).cell j hj
    cases e
    rw [HX.out, List.getElem?_map, getElem?_getD bs 0 j hj] at hv
    cases hv
    have e : (⟨b, off, none⟩ : Addr).add j = ⟨b, off + j, none⟩ := by cases j <;> simp [Addr.add]
    rw [e]
    exact hc
  have HOne : Hid (∀ v ∈ X, v.oneCell' = true) := by
    rw [HX.out]
    intro v hv
    obtain ⟨x, _, rfl⟩ := List.mem_map.1 hv
    rfl
  obtain ⟨w2, hcp, HG2, HB2⟩ : ∃ w2, (Builtin.copy_ #[43, 43] 3 #[.slice (some ⟨w.heap.size, 0, none⟩) bs.length bs.length, .slice (some ⟨b, off, none⟩) bs.length c]).run Try.prog w1 = .ok (goInt X.length) w2 ∧ Hid (w2.heap[w.heap.size]? = some (.cells X.toArray 5 (0, 0))) ∧ Hid (Below w.heap.size w w2) := by
    refine ⟨_, run_copy_row Try.prog w1 43 43 3 5 w.heap.size 0 bs.length bs.length ⟨b, off, none⟩ bs.length c cur.toArray 5 X Try.underlying43 (by kernel_rfl) hcur (by rw [hXl]; exact (Nat.min_self _).symm) HSrc.out (by simp; omega) HOne.out, ?_, below_setRow HB1.out (Nat.le_refl _) _⟩
    have e : cur.toArray.toList.take 0 ++ X ++ cur.toArray.toList.drop (0 + X.length) = X := by simp; omega
    rw [e]
    exact setRow_heap w1 _ _ _ _ _ hcur
  clear hrow hgr h HSrc HOne hcur HB1
  unfold maxLen at hl
  generalize hgw : w.heap.size = g at *
  go_enter Try.func104, Try.ntmps104
  go_wp2_with (first | (go_at_call 53; refine (KC.out _).mono ?_; rintro e w' ⟨rfl, rfl⟩) | (go_at_call 52; refine (KF.out _).mono ?_; rintro e w' ⟨rfl, rfl⟩) | (go_at_call 117; refine (KS.out _).mono ?_; rintro e w3 ⟨rfl, hB3⟩) | (go_at_call 16; refine (KW.out _).mono ?_; rintro e w' ⟨rfl, rfl⟩))
  have HI : Hid (∀ W, W = w3.alloc (.cells #[.int .u8 (M.byteAt n 0), .int .u8 (M.byteAt n 1)] 108) → W.heap[g]? = some (.cells ((M.putN bs p n 0).map (Value.int .u8)).toArray 5 (0, 0)) ∧ W.heap[w3.heap.size]? = some (.cells #[.int .u8 (M.byteAt n 0), .int .u8 (M.byteAt n 1)] 108 (0, 0)) ∧ Below g w W ∧ g < w3.heap.size) := by
    rintro W rfl
    have hG := HG2.out
    have hlt2 : g < w2.heap.size := (Array.getElem?_eq_some_iff.1 hG).1
    have hlt3 : g < w3.heap.size := Nat.lt_of_lt_of_le hlt2 hB3.size
    have hB3' : Below g w w3 := HB2.out.trans (hB3.mono (Nat.le_of_lt hlt2))
    refine ⟨?_, ?_, hB3'.alloc (Nat.le_of_lt hlt3) _, hlt3⟩
    · rw [heap_old _ _ hlt3, hB3.block g hlt2, hG, HX.out]; rfl
    · exact heap_new _ _
  clear HG2 HB2 hB3 hcp hmk HX hXl hcl
  obtain ⟨I1, I2, I3, I4⟩ := HI.out _ rfl
  have HI1 : Hid _ := I1
  have HI2 : Hid _ := I2
  have HI3 : Hid _ := I3
  clear HI I1 I2 I3
  generalize w3.alloc (.cells #[.int .u8 (M.byteAt n 0), .int .u8 (M.byteAt n 1)] 108) = W0 at *
  generalize w3.heap.size = g2 at *
  go_loopw [35] (fun s35 wr => ∃ (j : Nat), j ≤ wd ∧ s35 = .int .i64 j ∧ Hid (wr.heap[g]? = some (.cells ((M.putN bs p n j).map (Value.int .u8)).toArray 5 (0, 0))) ∧ Hid (wr.heap[g2]? = some (.cells #[.int .u8 (M.byteAt n 0), .int .u8 (M.byteAt n 1)] 108 (0, 0))) ∧ Hid (Below g w wr)) (fun s35 _ => wd - (intOf s35).toNat)
  case atStart => exact ⟨0, Nat.zero_le _, rfl, HI1, HI2, HI3⟩
  case round =>
    obtain ⟨j, hj, rfl, H1, H2, H3⟩ := hrel
    clear HI1 HI2 HI3
    by_cases hlt : j < wd
    · have hcl : ((M.putN bs p n j).map (Value.int .u8)).length = bs.length := by rw [List.length_map]; exact HL.out j
      have hjp : p + j < bs.length := by omega
      obtain ⟨u, hu⟩ : ∃ u, wr.cell? ⟨g, p + j, none⟩ = some u := by
        rw [cellB H1.out]
        rw [List.getElem?_toArray]
        exact ⟨_, List.getElem?_eq_getElem (by rw [hcl]; exact hjp)⟩
      have hfz := frozenB H1.out (p + j)
      have hc0 := cellB H2.out 0
      have hc1 := cellB H2.out 1
      have HB' : Hid (∀ v, Below g w (wr.setCell ⟨g, p + j, none⟩ v)) := fun v => H3.out.setCell (Nat.le_refl _) _
      have HN1 : Hid ((wr.setCell ⟨g, p + j, none⟩ (.int .u8 (M.byteAt n j))).heap[g]? = some (.cells ((M.putN bs p n (j + 1)).map (Value.int .u8)).toArray 5 (0, 0))) := by
        rw [Hid, setB' H1.out, HN.out j, List.map_set]
        simp
      have HN2 : Hid (∀ v, (wr.setCell ⟨g, p + j, none⟩ v).heap[g2]? = some (.cells #[.int .u8 (M.byteAt n 0), .int .u8 (M.byteAt n 1)] 108 (0, 0))) := fun v => by
        rw [Below.heap_setCell _ _ _ _ (by intro e; simp at e; omega)]
        exact H2.out
      clear hcl H1 H2 H3 HL HR HN H0
      rcases (by omega : j = 0 ∨ j = 1) with rfl | rfl
      · simp only [Nat.add_zero] at hu hfz HB' HN1 HN2
        go_wp2_with fail
        go_roundw
        case rel => exact ⟨1, by omega, by go_num, HN1, HN2.out _, HB'.out _⟩
        case measure => simp [intOf]; omega
      · go_wp2_with fail
        go_roundw
        case rel => exact ⟨2, by omega, by go_num, HN1, HN2.out _, HB'.out _⟩
        case measure => simp [intOf]; omega
    · obtain rfl : j = wd := by omega
      have hL := HL.out j
      have HE : Hid (BytesAt wr (.slice (some ⟨g, 0, none⟩) (M.putN bs p n j).length bs.length) (M.putN bs p n j)) := bytes_row (HR.out j) (by rw [hL]; unfold maxLen; omega) H1.out _
      rw [hL] at HE
      go_wp2_with fail
      go_ret2
      exact ⟨H3.out, _, _, by rw [hL]; rfl, by rw [hL]; exact HE.out⟩

end Go.Proofs.Ytabkbicaignicaa
