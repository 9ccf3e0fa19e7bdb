/-
  The contracts of the script's small readers: number, find, target, split.
-/
import Derived.Test.YtogipjjmnmahnaaDoorScrPrint
import Derived.Test.YtogipjjmnmahnaaDoorScrPure
namespace Go.Proofs.YtogipjjmnmahnaaDoor
open Go Go.RowKit
set_option linter.unusedVariables false
attribute [local go_sem] lat_cell

theorem eqB_true {a b : ByteArray} (h : (a.toList == b.toList) = true) : M.txt a = M.txt b := by
  rw [Lib.toList_data, Lib.toList_data, beq_iff_eq] at h; exact h
theorem eqB_false {a b : ByteArray} (h : (a.toList == b.toList) = false) : M.txt a ≠ M.txt b := by
  rw [Lib.toList_data, Lib.toList_data, beq_eq_false_iff_ne] at h; exact h
theorem ret_two {a b : Value} {c d : Value} (h1 : a = b) (h2 : c = d) : Ending.returned (.tuple #[a, c]) = .returned (.tuple #[b, d]) := by rw [h1, h2]

theorem number_any (s : ByteArray) (hs : s.size ≤ 100000) (w : World) (hG : Glob w) :
    Calls Tryd.prog 48 #[.string s] w fun e w' => e = .returned (.tuple #[.int .i64 ((M.num (M.txt s)).getD 0), .bool (M.num (M.txt s)).isSome]) ∧ Below w.heap.size w w' := by
  by_cases hok : ∃ v, Lib.atoiAll (M.txt s) = .ok v
  · obtain ⟨v, hv⟩ := hok
    have HA : Hid (Calls Tryd.prog 65 #[.string s] w fun e w' => e = .returned (.tuple #[.int .i64 v, .nilIface]) ∧ Below w.heap.size w w') := atoi_ok s v w hs hv
    have HI : Hid (∀ W, Below w.heap.size w W → Calls Tryd.prog 14 #[.int .i64 v] W fun e w' => e = .returned (.string (M.str (Lib.itoa v))) ∧ Below W.heap.size W w') := fun W hW => itoa_any v (Lib.atoiAll_bounds hv) W (hG.later hW)
    cases he : ((M.str (Lib.itoa v)).toList == s.toList)
    · have HN : Hid (M.num (M.txt s) = none) := by
        have := eqB_false he
        rw [txt_str] at this
        rw [Hid, M.num, hv]
        simp only [if_neg this]
      generalize M.num (M.txt s) = R at *
      generalize M.str (Lib.itoa v) = iv at *
      clear hv
      go_enter Tryd.func48, Tryd.ntmps48
      go_wp2_with (first | (go_at_call 65; refine HA.out.mono ?_; rintro e w1 ⟨rfl, hb1⟩) | (go_at_call 14; refine (HI.out _ hb1).mono ?_; rintro e w2 ⟨rfl, hb2⟩))
      go_ret2
      exact ⟨by rw [HN.out]; rfl, hb1.trans (hb2.mono hb1.size)⟩
    · have HN : Hid (M.num (M.txt s) = some v) := by
        have := eqB_true he
        rw [txt_str] at this
        rw [Hid, M.num, hv]
        simp only [if_pos this]
      generalize M.num (M.txt s) = R at *
      generalize M.str (Lib.itoa v) = iv at *
      clear hv
      go_enter Tryd.func48, Tryd.ntmps48
      go_wp2_with (first | (go_at_call 65; refine HA.out.mono ?_; rintro e w1 ⟨rfl, hb1⟩) | (go_at_call 14; refine (HI.out _ hb1).mono ?_; rintro e w2 ⟨rfl, hb2⟩))
      go_ret2
      exact ⟨by rw [HN.out]; rfl, hb1.trans (hb2.mono hb1.size)⟩
  · have hno : Lib.atoiAll (M.txt s) = .«syntax» ∨ Lib.atoiAll (M.txt s) = .range := by
      cases h : Lib.atoiAll (M.txt s) with
      | ok v => exact absurd ⟨v, h⟩ hok
      | «syntax» => exact .inl rfl
      | range => exact .inr rfl
    have HN : Hid (M.num (M.txt s) = none) := by
      rw [Hid, M.num]
      rcases hno with h | h <;> rw [h]
    have HA : Hid (Calls Tryd.prog 65 #[.string s] w fun e w' => (∃ n N, e = .returned (.tuple #[.int .i64 n, .iface 125 (.pointer (some ⟨N, 0, none⟩))])) ∧ Below w.heap.size w w') := atoi_no s w hs hG hno
    generalize M.num (M.txt s) = R at *
    clear hno hok
    go_enter Tryd.func48, Tryd.ntmps48
    go_wp2_with (go_at_call 65; refine HA.out.mono ?_; rintro e w1 ⟨⟨n, N, rfl⟩, hb1⟩)
    go_ret2
    exact ⟨by rw [HN.out]; rfl, hb1⟩

theorem idx0 (a b c d e f : Value) (w : World) : (Instr.index 51 (.agg #[a, b, c, d, e, f]) (.int .i64 ((0 : Nat) : Int))).run Tryd.prog w = .ok a w := by kernel_rfl
theorem idx1 (a b c d e f : Value) (w : World) : (Instr.index 51 (.agg #[a, b, c, d, e, f]) (.int .i64 ((1 : Nat) : Int))).run Tryd.prog w = .ok b w := by kernel_rfl
theorem idx2 (a b c d e f : Value) (w : World) : (Instr.index 51 (.agg #[a, b, c, d, e, f]) (.int .i64 ((2 : Nat) : Int))).run Tryd.prog w = .ok c w := by kernel_rfl
theorem idx3 (a b c d e f : Value) (w : World) : (Instr.index 51 (.agg #[a, b, c, d, e, f]) (.int .i64 ((3 : Nat) : Int))).run Tryd.prog w = .ok d w := by kernel_rfl
theorem idx4 (a b c d e f : Value) (w : World) : (Instr.index 51 (.agg #[a, b, c, d, e, f]) (.int .i64 ((4 : Nat) : Int))).run Tryd.prog w = .ok e w := by kernel_rfl
theorem idx5 (a b c d e f : Value) (w : World) : (Instr.index 51 (.agg #[a, b, c, d, e, f]) (.int .i64 ((5 : Nat) : Int))).run Tryd.prog w = .ok f w := by kernel_rfl
theorem idl0 (a b c d e f : Value) (w : World) : (Instr.index 51 (.agg #[a, b, c, d, e, f]) (.int .i64 0)).run Tryd.prog w = .ok a w := by kernel_rfl
theorem idl1 (a b c d e f : Value) (w : World) : (Instr.index 51 (.agg #[a, b, c, d, e, f]) (.int .i64 1)).run Tryd.prog w = .ok b w := by kernel_rfl
theorem idl2 (a b c d e f : Value) (w : World) : (Instr.index 51 (.agg #[a, b, c, d, e, f]) (.int .i64 2)).run Tryd.prog w = .ok c w := by kernel_rfl
theorem idl3 (a b c d e f : Value) (w : World) : (Instr.index 51 (.agg #[a, b, c, d, e, f]) (.int .i64 3)).run Tryd.prog w = .ok d w := by kernel_rfl
theorem idl4 (a b c d e f : Value) (w : World) : (Instr.index 51 (.agg #[a, b, c, d, e, f]) (.int .i64 4)).run Tryd.prog w = .ok e w := by kernel_rfl
theorem idl5 (a b c d e f : Value) (w : World) : (Instr.index 51 (.agg #[a, b, c, d, e, f]) (.int .i64 5)).run Tryd.prog w = .ok f w := by kernel_rfl
attribute [local go_sem high] idx0 idx1 idx2 idx3 idx4 idx5 idl0 idl1 idl2 idl3 idl4 idl5

set_option maxRecDepth 100000 in
theorem find_any (t0 t1 t2 t3 t4 t5 : M.Txt) (s : ByteArray) (w : World) :
    Calls Tryd.prog 47 #[.agg #[.string (M.str t0), .string (M.str t1), .string (M.str t2), .string (M.str t3), .string (M.str t4), .string (M.str t5)], .string s] w fun e w' =>
      e = .returned (.tuple #[.int .i64 (((M.find [t0, t1, t2, t3, t4, t5] (M.txt s)).getD 0 : Nat) : Int), .bool (M.find [t0, t1, t2, t3, t4, t5] (M.txt s)).isSome]) ∧ Below w.heap.size w w' := by
  have HX : Hid (M.find [t0, t1, t2, t3, t4, t5] (M.txt s) = M.findFrom 0 ([t0, t1, t2, t3, t4, t5].drop 0) (M.txt s)) := rfl
  generalize M.find [t0, t1, t2, t3, t4, t5] (M.txt s) = R at *
  go_enter Tryd.func47, Tryd.ntmps47
  go_wp2_with fail
  go_loopw [9] (fun s9 wr => ∃ (k : Nat), k ≤ 6 ∧ s9 = .int .i64 k ∧ Hid (Below w.heap.size w wr) ∧ Hid (R = M.findFrom k ([t0, t1, t2, t3, t4, t5].drop k) (M.txt s))) (fun s9 _ => 6 - (intOf s9).toNat)
  case atStart => exact ⟨0, by omega, rfl, (Below.refl _ _).alloc (Nat.le_refl _) _, HX⟩
  case round =>
    obtain ⟨k, hk, rfl, HB, HR⟩ := hrel
    clear HX
    by_cases h6 : k = 6
    · subst h6
      have HR0 : Hid (R = none) := HR.out
      clear HR
      go_wp2
      go_ret2
      exact ⟨by rw [HR0.out]; rfl, HB.out⟩
    · rcases (by omega : k = 0 ∨ k = 1 ∨ k = 2 ∨ k = 3 ∨ k = 4 ∨ k = 5) with rfl | rfl | rfl | rfl | rfl | rfl
      · cases he : ((M.str t0).toList == s.toList)
        · have HR0 : Hid (R = M.findFrom 1 ([t0, t1, t2, t3, t4, t5].drop 1) (M.txt s)) := by
            have hne := eqB_false he; rw [txt_str] at hne
            exact HR.out.trans (if_neg hne)
          clear HR
          go_wp2
          go_roundw
          case rel => exact ⟨1, by omega, by go_num, HB, HR0⟩
          case measure => simp [intOf]
        · have HR0 : Hid (R = some 0) := by
            have hne := eqB_true he; rw [txt_str] at hne
            exact HR.out.trans (if_pos hne)
          clear HR
          go_wp2
          go_ret2
          exact ⟨by rw [HR0.out]; rfl, HB.out⟩
      · cases he : ((M.str t1).toList == s.toList)
        · have HR0 : Hid (R = M.findFrom 2 ([t0, t1, t2, t3, t4, t5].drop 2) (M.txt s)) := by
            have hne := eqB_false he; rw [txt_str] at hne
            exact HR.out.trans (if_neg hne)
          clear HR
          go_wp2
          go_roundw
          case rel => exact ⟨2, by omega, by go_num, HB, HR0⟩
          case measure => simp [intOf]
        · have HR0 : Hid (R = some 1) := by
            have hne := eqB_true he; rw [txt_str] at hne
            exact HR.out.trans (if_pos hne)
          clear HR
          go_wp2
          go_ret2
          exact ⟨by rw [HR0.out]; rfl, HB.out⟩
      · cases he : ((M.str t2).toList == s.toList)
        · have HR0 : Hid (R = M.findFrom 3 ([t0, t1, t2, t3, t4, t5].drop 3) (M.txt s)) := by
            have hne := eqB_false he; rw [txt_str] at hne
            exact HR.out.trans (if_neg hne)
          clear HR
          go_wp2
          go_roundw
          case rel => exact ⟨3, by omega, by go_num, HB, HR0⟩
          case measure => simp [intOf]
        · have HR0 : Hid (R = some 2) := by
            have hne := eqB_true he; rw [txt_str] at hne
            exact HR.out.trans (if_pos hne)
          clear HR
          go_wp2
          go_ret2
          exact ⟨by rw [HR0.out]; rfl, HB.out⟩
      · cases he : ((M.str t3).toList == s.toList)
        · have HR0 : Hid (R = M.findFrom 4 ([t0, t1, t2, t3, t4, t5].drop 4) (M.txt s)) := by
            have hne := eqB_false he; rw [txt_str] at hne
            exact HR.out.trans (if_neg hne)
          clear HR
          go_wp2
          go_roundw
          case rel => exact ⟨4, by omega, by go_num, HB, HR0⟩
          case measure => simp [intOf]
        · have HR0 : Hid (R = some 3) := by
            have hne := eqB_true he; rw [txt_str] at hne
            exact HR.out.trans (if_pos hne)
          clear HR
          go_wp2
          go_ret2
          exact ⟨by rw [HR0.out]; rfl, HB.out⟩
      · cases he : ((M.str t4).toList == s.toList)
        · have HR0 : Hid (R = M.findFrom 5 ([t0, t1, t2, t3, t4, t5].drop 5) (M.txt s)) := by
            have hne := eqB_false he; rw [txt_str] at hne
            exact HR.out.trans (if_neg hne)
          clear HR
          go_wp2
          go_roundw
          case rel => exact ⟨5, by omega, by go_num, HB, HR0⟩
          case measure => simp [intOf]
        · have HR0 : Hid (R = some 4) := by
            have hne := eqB_true he; rw [txt_str] at hne
            exact HR.out.trans (if_pos hne)
          clear HR
          go_wp2
          go_ret2
          exact ⟨by rw [HR0.out]; rfl, HB.out⟩
      · cases he : ((M.str t5).toList == s.toList)
        · have HR0 : Hid (R = M.findFrom 6 ([t0, t1, t2, t3, t4, t5].drop 6) (M.txt s)) := by
            have hne := eqB_false he; rw [txt_str] at hne
            exact HR.out.trans (if_neg hne)
          clear HR
          go_wp2
          go_roundw
          case rel => exact ⟨6, by omega, by go_num, HB, HR0⟩
          case measure => simp [intOf]
        · have HR0 : Hid (R = some 5) := by
            have hne := eqB_true he; rw [txt_str] at hne
            exact HR.out.trans (if_pos hne)
          clear HR
          go_wp2
          go_ret2
          exact ⟨by rw [HR0.out]; rfl, HB.out⟩

end Go.Proofs.YtogipjjmnmahnaaDoor
