/-
  The reference's ReadPart: the answer at a line that is not right. strconv.ParseUint of two digits to the base sixteen.
-/
import Derived.Test.YthiknlnhdjoipaaGreatDoorScW
import Derived.Test.YthiknlnhdjoipaaGreatDoorAddF
import Derived.Laws.IdiomStrings
import Derived.Deep.DeepCutAuto

namespace Go.Proofs.YthiknlnhdjoipaaGreatDoor
open Go Go.RowKit
set_option linter.unusedVariables false

set_option maxHeartbeats 1000000 in
theorem rbad_any (b : Nat) (i : Int) (w : World) (hb : w.heap[b]? = some (.cells #[.int .i64 i] 3 (0, 0))) :
    Calls Tryz.prog 34 #[.pointer (some ⟨b, 0, none⟩)] w fun e w' => e = .returned (.tuple #[.agg #[.slice none 0 0, .slice none 0 0], .int .i64 i, .int .i64 1]) ∧ Below w.heap.size w w' := by
  have h0 : w.cell? ⟨b, 0, none⟩ = some (.int .i64 i) := cellB hb 0
  have hl : b < w.heap.size := (Array.getElem?_eq_some_iff.1 hb).1
  have hne : ¬ (b = w.heap.size) := by omega
  clear hb
  go_enter Tryz.func34, Tryz.ntmps34
  go_wp2_with fail
  have q0 : (w.alloc (.cells #[.slice none 0 0, .slice none 0 0] 25)).cell? ⟨b, 0, none⟩ = some (.int .i64 i) := cell_later ((Below.refl _ _).alloc (Nat.le_refl _) _) h0
  have HB : Hid (Below w.heap.size w (w.alloc (.cells #[.slice none 0 0, .slice none 0 0] 25)).drew) := ((Below.refl _ _).alloc (Nat.le_refl _) _).drew
  have hq := heap_alloc_new w (.cells #[.slice none 0 0, .slice none 0 0] 25)
  have k0 : (w.alloc (.cells #[.slice none 0 0, .slice none 0 0] 25)).drew.cell? ⟨w.heap.size, 0, none⟩ = some (.slice none 0 0) := cellB hq 0
  have k1 : (w.alloc (.cells #[.slice none 0 0, .slice none 0 0] 25)).drew.cell? ⟨w.heap.size, 1, none⟩ = some (.slice none 0 0) := cellB hq 1
  go_region
  all_goals
    go_wp2
    refine bodyPost_ret (v := .tuple #[.agg #[.slice none 0 0, .slice none 0 0], .int .i64 i, .int .i64 1]) (by simp [results, Tryz.results34, go_sem, k0, k1]) rfl ?_
    exact ⟨rfl, HB.out⟩

end Go.Proofs.YthiknlnhdjoipaaGreatDoor

namespace Go.Proofs.YthiknlnhdjoipaaGreatDoor
open Go Go.RowKit
set_option linter.unusedVariables false

theorem conv2 (a b : UInt8) (w : World) : ∃ cap X, (convert 9 37 (.string ⟨#[a, b]⟩)).run Tryz.prog w = .ok (.slice (some ⟨w.heap.size, 0, none⟩) 2 cap) X ∧ Below w.heap.size w X ∧ X.cell? ⟨w.heap.size, 0, none⟩ = some (.int .u8 a.toNat) ∧ X.cell? ⟨w.heap.size, 1, none⟩ = some (.int .u8 b.toNat) := by
  have h := run_bytes_of_string (P := Tryz.prog) w 9 37 5 ⟨#[a, b]⟩ Tryz.underlying9 Tryz.underlying37 Tryz.underlying5
  have hq := heap_alloc_new w.drew (.cells (bytesRow ⟨#[a, b]⟩ (grownCap w (⟨#[a, b]⟩ : ByteArray).size 0 5)) 5 ((bytesRow ⟨#[a, b]⟩ (grownCap w (⟨#[a, b]⟩ : ByteArray).size 0 5)).size, (bytesRow ⟨#[a, b]⟩ (grownCap w (⟨#[a, b]⟩ : ByteArray).size 0 5)).size + 1))
  exact ⟨_, _, h, (Below.refl _ _).drew.alloc (Nat.le_refl _) _, (cellB hq 0).trans (by unfold bytesRow; rw [Array.getElem?_append_left (by simp)]; simp), (cellB hq 1).trans (by unfold bytesRow; rw [Array.getElem?_append_left (by simp)]; simp)⟩

theorem lower_any (c : Int) (w : World) : Calls Tryz.prog 92 #[.int .u8 c] w fun e w' => e = .returned (.int .u8 (bits .or .u8 c 32)) ∧ w' = w := by
  go_enter Tryz.func92, Tryz.ntmps92
  go_wp2
  go_ret
  exact ⟨rfl, rfl⟩

/-- the digits read so far -/
def hexN (x y k : Nat) : Nat := if k = 0 then 0 else if k = 1 then x else 16 * x + y

set_option maxHeartbeats 4000000 in
set_option maxRecDepth 100000 in
theorem hex2_in (x y : Nat) (hx : x < 16) (hy : y < 16) (w : World) :
    Calls Tryz.prog 65 #[.string ⟨#[M.digit x, M.digit y]⟩, .int .i64 16, .int .i64 8] w fun e w' => e = .returned (.tuple #[.int .u64 ((16 * x + y : Nat) : Int), .nilIface]) ∧ Below w.heap.size w w' := by
  obtain ⟨cap, X, hconv, hX, hc0, hc1⟩ := conv2 (M.digit x) (M.digit y) w
  have hgl : w.heap.size < X.heap.size := World.block_lt_of_cell? _ _ hc0
  have HX : Hid (Below w.heap.size w X) := hX
  have HC : Hid (∀ k, k < 2 → X.cell? ⟨w.heap.size, k, none⟩ = some (.int .u8 (M.digit (if k = 0 then x else y)).toNat)) := fun k hk => by
    match k, hk with
    | 0, _ => exact hc0
    | 1, _ => exact hc1
    | k + 2, h => omega
  clear hX hc0 hc1
  go_enter Tryz.func65, Tryz.ntmps65
  go_wp2_with fail
  obtain ⟨CO, hCO⟩ : ∃ CO : Int, CO = 1152921504606846976 := ⟨_, rfl⟩
  rw [← hCO]
  have HCO : Hid (CO = 1152921504606846976) := hCO
  clear hCO
  go_loopw [12, 13, 101] (fun s12 s13 s101 wr => ∃ (k : Nat), k ≤ 2 ∧ s12 = .bool false ∧ s13 = .int .u64 (hexN x y k : Nat) ∧ s101 = .int .i64 k ∧ wr = X) (fun _ _ s101 _ => 2 - (intOf s101).toNat)
  case atStart => exact ⟨0, by omega, rfl, rfl, rfl, rfl⟩
  case round =>
    obtain ⟨k, hk, rfl, rfl, rfl, rfl⟩ := hrel
    by_cases hlt : k < 2
    · have e0 := HC.out k hlt
      have hkl : (k : Int) < 2 := by omega
      have HN : Hid (hexN x y (k + 1) = 16 * hexN x y k + (if k = 0 then x else y) ∧ hexN x y k < 16) := by
        match k, hlt with
        | 0, _ => exact ⟨by simp [hexN], by simp [hexN]⟩
        | 1, _ => exact ⟨by simp [hexN], by simpa [hexN] using hx⟩
        | k + 2, h => omega
      have hd : (if k = 0 then x else y) < 16 := by split <;> assumption
      obtain ⟨HN1, hN2⟩ := HN.out
      have HN1' : Hid _ := HN1
      clear HN HN1 HC
      generalize (if k = 0 then x else y) = d at *
      generalize hexN x y k = n at *
      have h1 : ¬ (CO ≤ (n : Int)) := by rw [HCO.out]; omega
      have h3 : IntKind.u64.wrap ((n : Int) * 16) = (n : Int) * 16 := by simp [IntKind.wrap, IntKind.bits, IntKind.signed]; omega
      have HN2 : Hid (n < 16) := hN2
      clear hx hy hN2
      rcases (by omega : d = 0 ∨ d = 1 ∨ d = 2 ∨ d = 3 ∨ d = 4 ∨ d = 5 ∨ d = 6 ∨ d = 7 ∨ d = 8 ∨ d = 9 ∨ d = 10 ∨ d = 11 ∨ d = 12 ∨ d = 13 ∨ d = 14 ∨ d = 15) with rfl | rfl | rfl | rfl | rfl | rfl | rfl | rfl | rfl | rfl | rfl | rfl | rfl | rfl | rfl | rfl
      · have e1 : wr.cell? ⟨w.heap.size, k, none⟩ = some (.int .u8 48) := e0
        have h4 : ¬ ((255 : Int) < (n : Int) * 16) := by have := HN2.out; omega
        have h5 : IntKind.u64.wrap ((n : Int) * 16) = (n : Int) * 16 := by have := HN2.out; simp [IntKind.wrap, IntKind.bits, IntKind.signed]; omega
        have h6 : ¬ ((n : Int) * 16 < (n : Int) * 16) := by omega
        clear e0 hd
        go_wp2_with (go_at_call 92; refine (lower_any _ _).mono ?_; rintro e w1 ⟨rfl, rfl⟩)
        go_roundw
        case rel => exact ⟨k + 1, by omega, rfl, by rw [HN1'.out]; congr 1; omega, by go_num, by trivial⟩
        case measure => simp [intOf]; omega
      · have e1 : wr.cell? ⟨w.heap.size, k, none⟩ = some (.int .u8 49) := e0
        have h4 : ¬ ((255 : Int) < (n : Int) * 16 + 1) := by have := HN2.out; omega
        have h5 : IntKind.u64.wrap ((n : Int) * 16 + 1) = (n : Int) * 16 + 1 := by have := HN2.out; simp [IntKind.wrap, IntKind.bits, IntKind.signed]; omega
        have h6 : ¬ ((n : Int) * 16 + 1 < (n : Int) * 16) := by omega
        clear e0 hd
        go_wp2_with (go_at_call 92; refine (lower_any _ _).mono ?_; rintro e w1 ⟨rfl, rfl⟩)
        go_roundw
        case rel => exact ⟨k + 1, by omega, rfl, by rw [HN1'.out]; congr 1; omega, by go_num, by trivial⟩
        case measure => simp [intOf]; omega
      · have e1 : wr.cell? ⟨w.heap.size, k, none⟩ = some (.int .u8 50) := e0
        have h4 : ¬ ((255 : Int) < (n : Int) * 16 + 2) := by have := HN2.out; omega
        have h5 : IntKind.u64.wrap ((n : Int) * 16 + 2) = (n : Int) * 16 + 2 := by have := HN2.out; simp [IntKind.wrap, IntKind.bits, IntKind.signed]; omega
        have h6 : ¬ ((n : Int) * 16 + 2 < (n : Int) * 16) := by omega
        clear e0 hd
        go_wp2_with (go_at_call 92; refine (lower_any _ _).mono ?_; rintro e w1 ⟨rfl, rfl⟩)
        go_roundw
        case rel => exact ⟨k + 1, by omega, rfl, by rw [HN1'.out]; congr 1; omega, by go_num, by trivial⟩
        case measure => simp [intOf]; omega
      · have e1 : wr.cell? ⟨w.heap.size, k, none⟩ = some (.int .u8 51) := e0
        have h4 : ¬ ((255 : Int) < (n : Int) * 16 + 3) := by have := HN2.out; omega
        have h5 : IntKind.u64.wrap ((n : Int) * 16 + 3) = (n : Int) * 16 + 3 := by have := HN2.out; simp [IntKind.wrap, IntKind.bits, IntKind.signed]; omega
        have h6 : ¬ ((n : Int) * 16 + 3 < (n : Int) * 16) := by omega
        clear e0 hd
        go_wp2_with (go_at_call 92; refine (lower_any _ _).mono ?_; rintro e w1 ⟨rfl, rfl⟩)
        go_roundw
        case rel => exact ⟨k + 1, by omega, rfl, by rw [HN1'.out]; congr 1; omega, by go_num, by trivial⟩
        case measure => simp [intOf]; omega
      · have e1 : wr.cell? ⟨w.heap.size, k, none⟩ = some (.int .u8 52) := e0
        have h4 : ¬ ((255 : Int) < (n : Int) * 16 + 4) := by have := HN2.out; omega
        have h5 : IntKind.u64.wrap ((n : Int) * 16 + 4) = (n : Int) * 16 + 4 := by have := HN2.out; simp [IntKind.wrap, IntKind.bits, IntKind.signed]; omega
        have h6 : ¬ ((n : Int) * 16 + 4 < (n : Int) * 16) := by omega
        clear e0 hd
        go_wp2_with (go_at_call 92; refine (lower_any _ _).mono ?_; rintro e w1 ⟨rfl, rfl⟩)
        go_roundw
        case rel => exact ⟨k + 1, by omega, rfl, by rw [HN1'.out]; congr 1; omega, by go_num, by trivial⟩
        case measure => simp [intOf]; omega
      · have e1 : wr.cell? ⟨w.heap.size, k, none⟩ = some (.int .u8 53) := e0
        have h4 : ¬ ((255 : Int) < (n : Int) * 16 + 5) := by have := HN2.out; omega
        have h5 : IntKind.u64.wrap ((n : Int) * 16 + 5) = (n : Int) * 16 + 5 := by have := HN2.out; simp [IntKind.wrap, IntKind.bits, IntKind.signed]; omega
        have h6 : ¬ ((n : Int) * 16 + 5 < (n : Int) * 16) := by omega
        clear e0 hd
        go_wp2_with (go_at_call 92; refine (lower_any _ _).mono ?_; rintro e w1 ⟨rfl, rfl⟩)
        go_roundw
        case rel => exact ⟨k + 1, by omega, rfl, by rw [HN1'.out]; congr 1; omega, by go_num, by trivial⟩
        case measure => simp [intOf]; omega
      · have e1 : wr.cell? ⟨w.heap.size, k, none⟩ = some (.int .u8 54) := e0
        have h4 : ¬ ((255 : Int) < (n : Int) * 16 + 6) := by have := HN2.out; omega
        have h5 : IntKind.u64.wrap ((n : Int) * 16 + 6) = (n : Int) * 16 + 6 := by have := HN2.out; simp [IntKind.wrap, IntKind.bits, IntKind.signed]; omega
        have h6 : ¬ ((n : Int) * 16 + 6 < (n : Int) * 16) := by omega
        clear e0 hd
        go_wp2_with (go_at_call 92; refine (lower_any _ _).mono ?_; rintro e w1 ⟨rfl, rfl⟩)
        go_roundw
        case rel => exact ⟨k + 1, by omega, rfl, by rw [HN1'.out]; congr 1; omega, by go_num, by trivial⟩
        case measure => simp [intOf]; omega
      · have e1 : wr.cell? ⟨w.heap.size, k, none⟩ = some (.int .u8 55) := e0
        have h4 : ¬ ((255 : Int) < (n : Int) * 16 + 7) := by have := HN2.out; omega
        have h5 : IntKind.u64.wrap ((n : Int) * 16 + 7) = (n : Int) * 16 + 7 := by have := HN2.out; simp [IntKind.wrap, IntKind.bits, IntKind.signed]; omega
        have h6 : ¬ ((n : Int) * 16 + 7 < (n : Int) * 16) := by omega
        clear e0 hd
        go_wp2_with (go_at_call 92; refine (lower_any _ _).mono ?_; rintro e w1 ⟨rfl, rfl⟩)
        go_roundw
        case rel => exact ⟨k + 1, by omega, rfl, by rw [HN1'.out]; congr 1; omega, by go_num, by trivial⟩
        case measure => simp [intOf]; omega
      · have e1 : wr.cell? ⟨w.heap.size, k, none⟩ = some (.int .u8 56) := e0
        have h4 : ¬ ((255 : Int) < (n : Int) * 16 + 8) := by have := HN2.out; omega
        have h5 : IntKind.u64.wrap ((n : Int) * 16 + 8) = (n : Int) * 16 + 8 := by have := HN2.out; simp [IntKind.wrap, IntKind.bits, IntKind.signed]; omega
        have h6 : ¬ ((n : Int) * 16 + 8 < (n : Int) * 16) := by omega
        clear e0 hd
        go_wp2_with (go_at_call 92; refine (lower_any _ _).mono ?_; rintro e w1 ⟨rfl, rfl⟩)
        go_roundw
        case rel => exact ⟨k + 1, by omega, rfl, by rw [HN1'.out]; congr 1; omega, by go_num, by trivial⟩
        case measure => simp [intOf]; omega
      · have e1 : wr.cell? ⟨w.heap.size, k, none⟩ = some (.int .u8 57) := e0
        have h4 : ¬ ((255 : Int) < (n : Int) * 16 + 9) := by have := HN2.out; omega
        have h5 : IntKind.u64.wrap ((n : Int) * 16 + 9) = (n : Int) * 16 + 9 := by have := HN2.out; simp [IntKind.wrap, IntKind.bits, IntKind.signed]; omega
        have h6 : ¬ ((n : Int) * 16 + 9 < (n : Int) * 16) := by omega
        clear e0 hd
        go_wp2_with (go_at_call 92; refine (lower_any _ _).mono ?_; rintro e w1 ⟨rfl, rfl⟩)
        go_roundw
        case rel => exact ⟨k + 1, by omega, rfl, by rw [HN1'.out]; congr 1; omega, by go_num, by trivial⟩
        case measure => simp [intOf]; omega
      · have e1 : wr.cell? ⟨w.heap.size, k, none⟩ = some (.int .u8 97) := e0
        have h4 : ¬ ((255 : Int) < (n : Int) * 16 + 10) := by have := HN2.out; omega
        have h5 : IntKind.u64.wrap ((n : Int) * 16 + 10) = (n : Int) * 16 + 10 := by have := HN2.out; simp [IntKind.wrap, IntKind.bits, IntKind.signed]; omega
        have h6 : ¬ ((n : Int) * 16 + 10 < (n : Int) * 16) := by omega
        have hlo : bits .or .u8 (97 : Int) 32 = 97 := by decide
        clear e0 hd
        go_wp2_with (go_at_call 92; refine (lower_any _ _).mono ?_; rintro e w1 ⟨rfl, rfl⟩)
        go_roundw
        case rel => exact ⟨k + 1, by omega, rfl, by rw [HN1'.out]; congr 1; omega, by go_num, by trivial⟩
        case measure => simp [intOf]; omega
      · have e1 : wr.cell? ⟨w.heap.size, k, none⟩ = some (.int .u8 98) := e0
        have h4 : ¬ ((255 : Int) < (n : Int) * 16 + 11) := by have := HN2.out; omega
        have h5 : IntKind.u64.wrap ((n : Int) * 16 + 11) = (n : Int) * 16 + 11 := by have := HN2.out; simp [IntKind.wrap, IntKind.bits, IntKind.signed]; omega
        have h6 : ¬ ((n : Int) * 16 + 11 < (n : Int) * 16) := by omega
        have hlo : bits .or .u8 (98 : Int) 32 = 98 := by decide
        clear e0 hd
        go_wp2_with (go_at_call 92; refine (lower_any _ _).mono ?_; rintro e w1 ⟨rfl, rfl⟩)
        go_roundw
        case rel => exact ⟨k + 1, by omega, rfl, by rw [HN1'.out]; congr 1; omega, by go_num, by trivial⟩
        case measure => simp [intOf]; omega
      · have e1 : wr.cell? ⟨w.heap.size, k, none⟩ = some (.int .u8 99) := e0
        have h4 : ¬ ((255 : Int) < (n : Int) * 16 + 12) := by have := HN2.out; omega
        have h5 : IntKind.u64.wrap ((n : Int) * 16 + 12) = (n : Int) * 16 + 12 := by have := HN2.out; simp [IntKind.wrap, IntKind.bits, IntKind.signed]; omega
        have h6 : ¬ ((n : Int) * 16 + 12 < (n : Int) * 16) := by omega
        have hlo : bits .or .u8 (99 : Int) 32 = 99 := by decide
        clear e0 hd
        go_wp2_with (go_at_call 92; refine (lower_any _ _).mono ?_; rintro e w1 ⟨rfl, rfl⟩)
        go_roundw
        case rel => exact ⟨k + 1, by omega, rfl, by rw [HN1'.out]; congr 1; omega, by go_num, by trivial⟩
        case measure => simp [intOf]; omega
      · have e1 : wr.cell? ⟨w.heap.size, k, none⟩ = some (.int .u8 100) := e0
        have h4 : ¬ ((255 : Int) < (n : Int) * 16 + 13) := by have := HN2.out; omega
        have h5 : IntKind.u64.wrap ((n : Int) * 16 + 13) = (n : Int) * 16 + 13 := by have := HN2.out; simp [IntKind.wrap, IntKind.bits, IntKind.signed]; omega
        have h6 : ¬ ((n : Int) * 16 + 13 < (n : Int) * 16) := by omega
        have hlo : bits .or .u8 (100 : Int) 32 = 100 := by decide
        clear e0 hd
        go_wp2_with (go_at_call 92; refine (lower_any _ _).mono ?_; rintro e w1 ⟨rfl, rfl⟩)
        go_roundw
        case rel => exact ⟨k + 1, by omega, rfl, by rw [HN1'.out]; congr 1; omega, by go_num, by trivial⟩
        case measure => simp [intOf]; omega
      · have e1 : wr.cell? ⟨w.heap.size, k, none⟩ = some (.int .u8 101) := e0
        have h4 : ¬ ((255 : Int) < (n : Int) * 16 + 14) := by have := HN2.out; omega
        have h5 : IntKind.u64.wrap ((n : Int) * 16 + 14) = (n : Int) * 16 + 14 := by have := HN2.out; simp [IntKind.wrap, IntKind.bits, IntKind.signed]; omega
        have h6 : ¬ ((n : Int) * 16 + 14 < (n : Int) * 16) := by omega
        have hlo : bits .or .u8 (101 : Int) 32 = 101 := by decide
        clear e0 hd
        go_wp2_with (go_at_call 92; refine (lower_any _ _).mono ?_; rintro e w1 ⟨rfl, rfl⟩)
        go_roundw
        case rel => exact ⟨k + 1, by omega, rfl, by rw [HN1'.out]; congr 1; omega, by go_num, by trivial⟩
        case measure => simp [intOf]; omega
      · have e1 : wr.cell? ⟨w.heap.size, k, none⟩ = some (.int .u8 102) := e0
        have h4 : ¬ ((255 : Int) < (n : Int) * 16 + 15) := by have := HN2.out; omega
        have h5 : IntKind.u64.wrap ((n : Int) * 16 + 15) = (n : Int) * 16 + 15 := by have := HN2.out; simp [IntKind.wrap, IntKind.bits, IntKind.signed]; omega
        have h6 : ¬ ((n : Int) * 16 + 15 < (n : Int) * 16) := by omega
        have hlo : bits .or .u8 (102 : Int) 32 = 102 := by decide
        clear e0 hd
        go_wp2_with (go_at_call 92; refine (lower_any _ _).mono ?_; rintro e w1 ⟨rfl, rfl⟩)
        go_roundw
        case rel => exact ⟨k + 1, by omega, rfl, by rw [HN1'.out]; congr 1; omega, by go_num, by trivial⟩
        case measure => simp [intOf]; omega
    · obtain rfl : k = 2 := by omega
      have HE : Hid (hexN x y 2 = 16 * x + y) := rfl
      clear HC
      generalize hexN x y 2 = n at *
      go_wp2_with fail
      go_ret2
      exact ⟨by rw [HE.out]; rfl, HX.out⟩

theorem hex2_any (x y : Nat) (hx : x < 16) (hy : y < 16) (w : World) :
    Calls Tryz.prog 39 #[.string ⟨#[M.digit x, M.digit y]⟩, .int .i64 16, .int .i64 8] w fun e w' => e = .returned (.tuple #[.int .u64 ((16 * x + y : Nat) : Int), .nilIface]) ∧ Below w.heap.size w w' := by
  have KH : Hid _ := hex2_in x y hx hy w
  generalize M.digit x = a at *
  generalize M.digit y = b at *
  generalize 16 * x + y = n at *
  go_enter Tryz.func39, Tryz.ntmps39
  go_wp2_with (go_at_call 65; refine Calls.mono KH.out ?_; rintro e w1 ⟨rfl, hb1⟩)
  go_ret2
  exact ⟨rfl, hb1⟩

theorem nib_of {c : UInt8} {x : Nat} (h : M.nib c = some x) : c = M.digit x ∧ x < 16 := by
  unfold M.nib at h
  obtain ⟨h1, h2, _⟩ := List.idxOf?_eq_some_iff.1 h
  have h3 : x < 16 := h1
  refine ⟨?_, h3⟩
  unfold M.digit
  rw [List.getD_eq_getElem?_getD, List.getElem?_eq_getElem h1]
  exact (by simpa using h2.symm)

end Go.Proofs.YthiknlnhdjoipaaGreatDoor
