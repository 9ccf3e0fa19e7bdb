/-
  The word of a fragment's content: its bytes, two digits each, or how many noughts.
-/
import Derived.Test.YtogipjjmnmahnaaDoorScrWords
namespace Go.Proofs.YtogipjjmnmahnaaDoor
open Go Go.RowKit
set_option linter.unusedVariables false

theorem content_zero (al sz : Int) (g : ByteArray) (ab : Option Addr) (n cb : Nat) (vr : Value) (w : World) (hG : Glob w) (hn : Fits sz) :
    Calls Tryd.prog 16 #[.agg #[.int .i64 5, .int .i64 al, .string g, .slice ab n cb, .int .i64 sz, vr]] w fun e w' => e = .returned (.string (M.str (Lib.itoa sz))) ∧ Below w.heap.size w w' := by
  have HP : Hid (∀ W, Below w.heap.size w W → Calls Tryd.prog 14 #[.int .i64 sz] W fun e w' => e = .returned (.string (M.str (Lib.itoa sz))) ∧ Below W.heap.size W w') := fun W hW => itoa_any sz hn W (hG.later hW)
  generalize M.str (Lib.itoa sz) = R at *
  go_enter Tryd.func16, Tryd.ntmps16
  go_wp2_with (go_at_call 14; refine (HP.out _ ((Below.refl _ _).alloc (Nat.le_refl _) _)).mono ?_; rintro e w1 ⟨rfl, hb1⟩)
  go_ret
  exact ⟨rfl, ((Below.refl _ _).alloc (Nat.le_refl _) _).trans (hb1.mono (by simp))⟩

theorem content_none (s al sz : Int) (hs : (s == 5) = false) (g : ByteArray) (ab : Option Addr) (cb : Nat) (vr : Value) (w : World) :
    Calls Tryd.prog 16 #[.agg #[.int .i64 s, .int .i64 al, .string g, .slice ab 0 cb, .int .i64 sz, vr]] w fun e w' => e = .returned (.string (M.str [45])) ∧ Below w.heap.size w w' := by
  go_enter Tryd.func16, Tryd.ntmps16
  go_wp2
  go_ret
  exact ⟨rfl, (Below.refl _ _).alloc (Nat.le_refl _) _⟩

theorem run_index_digits {P : Program} (w : World) (t : TypeId) (k : IntKind) (i : Int) (h : P.underlying t = some .string) (h0 : 0 ≤ i) (h1 : i ≤ 15) :
    (Instr.index t (.string ⟨#[48, 49, 50, 51, 52, 53, 54, 55, 56, 57, 97, 98, 99, 100, 101, 102]⟩) (.int k i)).run P w = .ok (.int .u8 (M.digit i.toNat).toNat) w := by
  have hs : (⟨#[48, 49, 50, 51, 52, 53, 54, 55, 56, 57, 97, 98, 99, 100, 101, 102]⟩ : ByteArray).size = 16 := rfl
  rw [run_index_string w t _ k i h, dif_pos ⟨h0, by rw [hs]; omega⟩]
  obtain ⟨n, rfl⟩ := Int.eq_ofNat_of_zero_le h0
  have hn : n < 16 := by omega
  match n, hn with
  | 0, _ | 1, _ | 2, _ | 3, _ | 4, _ | 5, _ | 6, _ | 7, _ | 8, _ | 9, _ | 10, _ | 11, _ | 12, _ | 13, _ | 14, _ | 15, _ => rfl
  | n + 16, h => omega
attribute [local go_sem high] run_index_digits

theorem hex_take {bs : List Int} {k : Nat} (hk : k < bs.length) : M.hex (bs.take (k + 1)) = M.hex (bs.take k) ++ M.hex1 (bs.getD k 0) := by
  unfold M.hex
  rw [List.take_add_one, List.getElem?_eq_getElem hk, List.flatMap_append, List.getD_eq_getElem?_getD, List.getElem?_eq_getElem hk]
  simp
theorem hex_len (bs : List Int) : (M.hex bs).length = 2 * bs.length := by
  induction bs with
  | nil => rfl
  | cons b l ih => simp [M.hex, M.hex1] at ih ⊢; omega

set_option maxHeartbeats 1000000 in
theorem content_bytes (s al sz : Int) (hs : (s == 5) = false) (g : ByteArray) (bs : List Int) (ab : Option Addr) (cb : Nat) (vr : Value) (w : World) (hb : BytesAt w (.slice ab bs.length cb) bs) (h0 : 0 < bs.length) (h64 : bs.length ≤ 64) :
    Calls Tryd.prog 16 #[.agg #[.int .i64 s, .int .i64 al, .string g, .slice ab bs.length cb, .int .i64 sz, vr]] w fun e w' => e = .returned (.string (M.str (M.hex bs))) ∧ Below w.heap.size w w' := by
  have hz : ((bs.length : Int) == 0) = false := by rw [beq_eq_false_iff_ne]; omega
  go_enter Tryd.func16, Tryd.ntmps16
  go_wp2_with fail
  go_loopw [19] (fun s19 wr => ∃ (k : Nat), k ≤ bs.length ∧ s19 = .int .i64 k ∧ Bld wr (w.heap.size + 1) (w.heap.size + 1) (M.hex (bs.take k)) ∧ Hid (Below (w.heap.size + 1) (w.alloc (.cells #[.int .i64 s, .int .i64 al, .string g, .slice ab bs.length cb, .int .i64 sz, vr] 49)) wr)) (fun s19 _ => bs.length - (intOf s19).toNat)
  case atStart => exact ⟨0, Nat.zero_le _, rfl, (by have h := bld_new (w.alloc (.cells #[.int .i64 s, .int .i64 al, .string g, .slice ab bs.length cb, .int .i64 sz, vr] 49)); rw [show (w.alloc (.cells #[.int .i64 s, .int .i64 al, .string g, .slice ab bs.length cb, .int .i64 sz, vr] 49)).heap.size = w.heap.size + 1 from by simp] at h; exact h), (Below.refl _ _).alloc (by simp) _⟩
  case round =>
    obtain ⟨k, hk, rfl, hl, HB⟩ := hrel
    by_cases hlt : k < bs.length
    · have hbw : Below w.heap.size w wr := ((Below.refl _ _).alloc (Nat.le_refl _) _).trans (HB.out.mono (by simp))
      obtain ⟨b, off, har, hc⟩ := (hb.1.later hbw).at k hlt
      have e0 := hc 0 (by decide)
      obtain ⟨hb0, hb1⟩ := hb.2 _ (getD_mem bs 0 k hlt)
      subst har
      simp only [Nat.mul_one, Nat.add_zero] at e0
      have HT : Hid (M.hex (bs.take (k + 1)) = M.hex (bs.take k) ++ M.hex1 (bs.getD k 0)) := hex_take hlt
      have hlen : (M.hex (bs.take k)).length ≤ 128 := by rw [hex_len, List.length_take]; omega
      generalize bs.getD k 0 = c at *
      obtain ⟨c, rfl⟩ := Int.eq_ofNat_of_zero_le hb0
      have hand : bits .and .u8 (c : Int) 15 = (c : Int) % 16 := u8_and15 _ (by omega) (by omega)
      have hq0 : (0 : Int) ≤ (c : Int) / 16 := by omega
      have hq1 : (c : Int) / 16 ≤ 15 := by omega
      have hr0 : (0 : Int) ≤ (c : Int) % 16 := by omega
      have hr1 : (c : Int) % 16 ≤ 15 := by omega
      have HB1 : Hid (∀ W (d : UInt8), Bld W (w.heap.size + 1) (w.heap.size + 1) (M.hex (bs.take k)) → Calls Tryd.prog 13 #[.pointer (some ⟨w.heap.size + 1, 0, none⟩), .int .u8 d.toNat] W fun e w' => e = .returned .nilIface ∧ Bld w' (w.heap.size + 1) (w.heap.size + 1) (M.hex (bs.take k) ++ [d]) ∧ Below (w.heap.size + 1) W w' ∧ Lib.OthersKept 5 (some (w.heap.size + 1)) W w') := fun W d hW =>
        wbyte_any _ _ _ _ W hW (by omega)
      have HB2 : Hid (∀ W (d0 d : UInt8), Bld W (w.heap.size + 1) (w.heap.size + 1) (M.hex (bs.take k) ++ [d0]) → Calls Tryd.prog 13 #[.pointer (some ⟨w.heap.size + 1, 0, none⟩), .int .u8 d.toNat] W fun e w' => e = .returned .nilIface ∧ Bld w' (w.heap.size + 1) (w.heap.size + 1) (M.hex (bs.take k) ++ [d0] ++ [d]) ∧ Below (w.heap.size + 1) W w' ∧ Lib.OthersKept 5 (some (w.heap.size + 1)) W w') := fun W d0 d hW =>
        wbyte_any _ _ _ _ W hW (by simp only [List.length_append, List.length_cons, List.length_nil]; omega)
      clear hc hlen
      go_wp2_with (first | (go_at_call 13; refine (HB1.out _ _ hl).mono ?_; rintro e w1 ⟨rfl, hl1, hb1, hk1⟩) | (go_at_call 13; refine (HB2.out _ _ _ hl1).mono ?_; rintro e w2 ⟨rfl, hl2, hb2, hk2⟩))
      go_roundw
      case rel =>
        refine ⟨k + 1, by omega, by go_num, ?_, (HB.out.trans hb1).trans hb2⟩
        rw [HT.out]
        simpa [M.hex1] using hl2
      case measure => simp [intOf]; omega
    · have hkn : k = bs.length := by omega
      subst hkn
      rw [List.take_length] at hl
      have HS : Hid (∀ W, Bld W (w.heap.size + 1) (w.heap.size + 1) (M.hex bs) → Calls Tryd.prog 18 #[.pointer (some ⟨w.heap.size + 1, 0, none⟩)] W fun e w' => e = .returned (.string (M.str (M.hex bs))) ∧ Below (w.heap.size + 1) W w') := fun W hW => bstring_any _ _ _ W hW
      go_wp2_with (go_at_call 18; refine (HS.out _ hl).mono ?_; rintro e w1 ⟨rfl, hb1⟩)
      go_ret
      exact ⟨rfl, ((Below.refl _ _).alloc (Nat.le_refl _) _).trans ((HB.out.trans hb1).mono (by simp))⟩

theorem content_any (f : M.Frg) (ab : Option Addr) (cb : Nat) (vr : Value) (w : World) (hG : Glob w) (hb : BytesAt w (.slice ab f.bytes.length cb) f.bytes) (h64 : f.bytes.length ≤ 64) (hn : Fits f.size) :
    Calls Tryd.prog 16 #[.agg #[.int .i64 f.sect, .int .i64 f.align, .string f.group, .slice ab f.bytes.length cb, .int .i64 f.size, vr]] w fun e w' => e = .returned (.string (M.str (M.content f))) ∧ Below w.heap.size w w' := by
  obtain ⟨s, al, g, bs, sz, rs⟩ := f
  simp only at hb h64 hn ⊢
  by_cases h5 : s = 5
  · subst h5
    have : M.content ⟨5, al, g, bs, sz, rs⟩ = Lib.itoa sz := by simp [M.content]
    rw [this]
    exact content_zero al sz g ab _ cb vr w hG hn
  · have hs : (s == 5) = false := by simpa using h5
    by_cases h0 : bs.length = 0
    · have hn : bs = [] := List.length_eq_zero_iff.1 h0
      subst hn
      have : M.content ⟨s, al, g, [], sz, rs⟩ = [45] := by simp [M.content, h5, M.hex, M.orDash]
      rw [this]
      exact content_none s al sz hs g ab cb vr w
    · have : M.content ⟨s, al, g, bs, sz, rs⟩ = M.hex bs := by
        have hne : M.hex bs ≠ [] := fun h => by have := hex_len bs; rw [h] at this; simp at this; omega
        simp [M.content, h5, M.orDash, hne]
      rw [this]
      exact content_bytes s al sz hs g bs ab cb vr w hb (by omega) h64

end Go.Proofs.YtogipjjmnmahnaaDoor
