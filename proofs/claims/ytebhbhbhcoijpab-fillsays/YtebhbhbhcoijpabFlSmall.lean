/-
  The contracts of package fill's small functions: Range, known, relative, within, address, fits, Value, checkPlace.
-/
import Derived.Test.YtebhbhbhcoijpabFlModel
import Derived.Test.YtebhbhbhcoijpabSmall
namespace Go.Proofs.Ytebhbhbhcoijpab
open Go.RowKit
set_option linter.unusedVariables false

theorem range_any (n : Int) (w : World) :
    Calls Try.prog 4 #[.int .i64 n] w fun e w' => e = .returned (.tuple #[.int .i64 (M.lo n), .int .i64 (M.hi n)]) ∧ w' = w := by
  by_cases h1 : n = 1
  · subst h1
    go_enter Try.func4, Try.ntmps4
    go_wp2
    go_ret2
    exact ⟨rfl, rfl⟩
  by_cases h2 : n = 2
  · subst h2
    go_enter Try.func4, Try.ntmps4
    go_wp2
    go_ret2
    exact ⟨rfl, rfl⟩
  by_cases h3 : n = 3
  · subst h3
    go_enter Try.func4, Try.ntmps4
    go_wp2
    go_ret2
    exact ⟨rfl, rfl⟩
  by_cases h4 : n = 4
  · subst h4
    go_enter Try.func4, Try.ntmps4
    go_wp2
    go_ret2
    exact ⟨rfl, rfl⟩
  have b1 : (n == 1) = false := by simp [h1]
  have b2 : (n == 2) = false := by simp [h2]
  have b3 : (n == 3) = false := by simp [h3]
  have b4 : (n == 4) = false := by simp [h4]
  have HX : Hid (M.lo n = 1 ∧ M.hi n = 0) := by simp [Hid, M.lo, M.hi, h1, h2, h3, h4]
  generalize M.lo n = x at *
  generalize M.hi n = y at *
  clear h1 h2 h3 h4
  go_enter Try.func4, Try.ntmps4
  go_wp2
  go_ret2
  exact ⟨by rw [HX.out.1, HX.out.2]; rfl, rfl⟩

theorem fwithin_any (n a b : Int) (w : World) :
    Calls Try.prog 16 #[.int .i64 n, .int .i64 a, .int .i64 b] w fun e w' => e = .returned (.bool (M.within n a b)) ∧ w' = w := by
  by_cases h1 : a ≤ n <;> by_cases h2 : n ≤ b
  all_goals
    go_enter Try.func16, Try.ntmps16
    go_wp2
    go_ret
    exact ⟨ret_bool (by simp [M.within, h1, h2]), rfl⟩

theorem known_any (k : Int) (w : World) :
    Calls Try.prog 14 #[.int .i64 k] w fun e w' => e = .returned (.bool (M.known k)) ∧ w' = w := by
  unfold M.known
  have KW := wide_any k
  generalize M.wide k = x at *
  go_enter Try.func14, Try.ntmps14
  go_wp2_with (go_at_call 21; refine (KW _).mono ?_; rintro e w' ⟨rfl, rfl⟩)
  go_ret
  exact ⟨ret_bool (by simp), rfl⟩

theorem relative_any (k : Int) (w : World) :
    Calls Try.prog 17 #[.int .i64 k] w fun e w' => e = .returned (.bool (M.isRel k)) ∧ w' = w := by
  unfold M.isRel
  cases h1 : (k == 3) <;> cases h2 : (k == 4)
  all_goals
    go_enter Try.func17, Try.ntmps17
    go_wp2
    go_ret
    exact ⟨rfl, rfl⟩

theorem address_any (n : Int) (w : World) :
    Calls Try.prog 15 #[.int .i64 n] w fun e w' => e = .returned (.bool (M.addr n)) ∧ w' = w := by
  unfold M.addr
  have KW := fwithin_any n 0 65536
  generalize M.within n 0 65536 = x at *
  go_enter Try.func15, Try.ntmps15
  go_wp2_with (go_at_call 16; refine (KW _).mono ?_; rintro e w' ⟨rfl, rfl⟩)
  go_ret
  exact ⟨rfl, rfl⟩

theorem fits_any (k n : Int) (w : World) :
    Calls Try.prog 18 #[.int .i64 k, .int .i64 n] w fun e w' => e = .returned (.bool (M.fits k n)) ∧ w' = w := by
  unfold M.fits
  have KR := range_any k
  have KW := fwithin_any n (M.lo k) (M.hi k)
  generalize M.within n (M.lo k) (M.hi k) = x at *
  generalize M.lo k = a at *
  generalize M.hi k = b at *
  go_enter Try.func18, Try.ntmps18
  go_wp2_with (first | (go_at_call 4; refine (KR _).mono ?_; rintro e w' ⟨rfl, rfl⟩) | (go_at_call 16; refine (KW _).mono ?_; rintro e w' ⟨rfl, rfl⟩))
  go_ret
  exact ⟨rfl, rfl⟩

set_option maxRecDepth 100000 in
theorem value_any (k pos tq add : Int) (w : World) :
    Calls Try.prog 5 #[.int .i64 k, .int .i64 pos, .int .i64 tq, .int .i64 add] w fun e w' => e = .returned (.tuple #[.int .i64 (M.value k pos tq add).1, .int .i64 (M.value k pos tq add).2]) ∧ w' = w := by
  have KK := known_any k
  have KA := address_any pos
  have KT := address_any tq
  have KD := fwithin_any add (-10000) 10000
  have KL := relative_any k
  have HV : Hid (M.value k pos tq add = if M.known k = false then (0, 4) else if (M.addr pos && M.addr tq && M.within add (-10000) 10000) = false then (0, 3) else if M.fits k (M.sum k pos tq add) = false then (0, 9) else (M.sum k pos tq add, 0)) := rfl
  have HA : Hid (M.addr pos = true → 0 ≤ pos ∧ pos ≤ 65536) := by unfold M.addr M.within; simp [Hid]
  have HT : Hid (M.addr tq = true → 0 ≤ tq ∧ tq ≤ 65536) := by unfold M.addr M.within; simp [Hid]
  have HD : Hid (M.within add (-10000) 10000 = true → -10000 ≤ add ∧ add ≤ 10000) := by unfold M.within; simp [Hid]
  unfold M.sum at HV
  generalize M.value k pos tq add = V at *
  generalize M.known k = kn at *
  generalize M.isRel k = rl at *
  generalize M.within add (-10000) 10000 = xd at *
  generalize M.addr tq = xt at *
  generalize M.addr pos = xp at *
  cases kn
  · obtain rfl : V = (0, 4) := HV.out
    clear HV
    go_enter Try.func5, Try.ntmps5
    go_wp2_with (go_at_call 14; refine (KK _).mono ?_; rintro e w' ⟨rfl, rfl⟩)
    go_ret2
    exact ⟨rfl, rfl⟩
  cases xp
  · obtain rfl : V = (0, 3) := HV.out
    clear HV
    go_enter Try.func5, Try.ntmps5
    go_wp2_with (first | (go_at_call 14; refine (KK _).mono ?_; rintro e w' ⟨rfl, rfl⟩) | (go_at_call 15; refine (KA _).mono ?_; rintro e w' ⟨rfl, rfl⟩))
    go_ret2
    exact ⟨rfl, rfl⟩
  cases xt
  · obtain rfl : V = (0, 3) := HV.out
    clear HV
    go_enter Try.func5, Try.ntmps5
    go_wp2_with (first | (go_at_call 14; refine (KK _).mono ?_; rintro e w' ⟨rfl, rfl⟩) | (go_at_call 15; (first | refine (KA _).mono ?_ | refine (KT _).mono ?_); rintro e w' ⟨rfl, rfl⟩) | (go_at_call 16; refine (KD _).mono ?_; rintro e w' ⟨rfl, rfl⟩) | (go_at_call 17; refine (KL _).mono ?_; rintro e w' ⟨rfl, rfl⟩))
    go_ret2
    exact ⟨rfl, rfl⟩
  cases xd
  · obtain rfl : V = (0, 3) := HV.out
    clear HV
    go_enter Try.func5, Try.ntmps5
    go_wp2_with (first | (go_at_call 14; refine (KK _).mono ?_; rintro e w' ⟨rfl, rfl⟩) | (go_at_call 15; (first | refine (KA _).mono ?_ | refine (KT _).mono ?_); rintro e w' ⟨rfl, rfl⟩) | (go_at_call 16; refine (KD _).mono ?_; rintro e w' ⟨rfl, rfl⟩) | (go_at_call 17; refine (KL _).mono ?_; rintro e w' ⟨rfl, rfl⟩))
    go_ret2
    exact ⟨rfl, rfl⟩
  have ha := HA.out rfl
  have ht := HT.out rfl
  have hd := HD.out rfl
  clear HA HT HD
  cases rl
  · have KF2 := fits_any k (tq + add)
    have HV2 : Hid (V = if M.fits k (tq + add) = false then (0, 9) else (tq + add, 0)) := HV.out
    clear HV
    generalize M.fits k (tq + add) = ft at *
    cases ft
    · obtain rfl : V = (0, 9) := HV2.out
      clear HV2
      go_enter Try.func5, Try.ntmps5
      go_wp2_with (first | (go_at_call 14; refine (KK _).mono ?_; rintro e w' ⟨rfl, rfl⟩) | (go_at_call 15; (first | refine (KA _).mono ?_ | refine (KT _).mono ?_); rintro e w' ⟨rfl, rfl⟩) | (go_at_call 16; refine (KD _).mono ?_; rintro e w' ⟨rfl, rfl⟩) | (go_at_call 17; refine (KL _).mono ?_; rintro e w' ⟨rfl, rfl⟩) | (go_at_call 18; refine (KF2 _).mono ?_; rintro e w' ⟨rfl, rfl⟩))
      go_ret2
      exact ⟨rfl, rfl⟩
    · obtain rfl : V = (tq + add, 0) := HV2.out
      clear HV2
      go_enter Try.func5, Try.ntmps5
      go_wp2_with (first | (go_at_call 14; refine (KK _).mono ?_; rintro e w' ⟨rfl, rfl⟩) | (go_at_call 15; (first | refine (KA _).mono ?_ | refine (KT _).mono ?_); rintro e w' ⟨rfl, rfl⟩) | (go_at_call 16; refine (KD _).mono ?_; rintro e w' ⟨rfl, rfl⟩) | (go_at_call 17; refine (KL _).mono ?_; rintro e w' ⟨rfl, rfl⟩) | (go_at_call 18; refine (KF2 _).mono ?_; rintro e w' ⟨rfl, rfl⟩))
      go_ret2
      exact ⟨rfl, rfl⟩
  · have KF2 := fits_any k (tq + add - pos)
    have HV2 : Hid (V = if M.fits k (tq + add - pos) = false then (0, 9) else (tq + add - pos, 0)) := HV.out
    clear HV
    generalize M.fits k (tq + add - pos) = ft at *
    cases ft
    · obtain rfl : V = (0, 9) := HV2.out
      clear HV2
      go_enter Try.func5, Try.ntmps5
      go_wp2_with (first | (go_at_call 14; refine (KK _).mono ?_; rintro e w' ⟨rfl, rfl⟩) | (go_at_call 15; (first | refine (KA _).mono ?_ | refine (KT _).mono ?_); rintro e w' ⟨rfl, rfl⟩) | (go_at_call 16; refine (KD _).mono ?_; rintro e w' ⟨rfl, rfl⟩) | (go_at_call 17; refine (KL _).mono ?_; rintro e w' ⟨rfl, rfl⟩) | (go_at_call 18; refine (KF2 _).mono ?_; rintro e w' ⟨rfl, rfl⟩))
      go_ret2
      exact ⟨rfl, rfl⟩
    · obtain rfl : V = (tq + add - pos, 0) := HV2.out
      clear HV2
      go_enter Try.func5, Try.ntmps5
      go_wp2_with (first | (go_at_call 14; refine (KK _).mono ?_; rintro e w' ⟨rfl, rfl⟩) | (go_at_call 15; (first | refine (KA _).mono ?_ | refine (KT _).mono ?_); rintro e w' ⟨rfl, rfl⟩) | (go_at_call 16; refine (KD _).mono ?_; rintro e w' ⟨rfl, rfl⟩) | (go_at_call 17; refine (KL _).mono ?_; rintro e w' ⟨rfl, rfl⟩) | (go_at_call 18; refine (KF2 _).mono ?_; rintro e w' ⟨rfl, rfl⟩))
      go_ret2
      exact ⟨rfl, rfl⟩

theorem checkPlace_any (a : Option Addr) (len c : Nat) (pos k : Int) (w : World) (hl : len ≤ maxLen) :
    Calls Try.prog 19 #[.slice a len c, .int .i64 pos, .int .i64 k] w fun e w' => e = .returned (.int .i64 (M.place len pos k)) ∧ w' = w := by
  unfold maxLen at hl
  have KK := known_any k
  have KW := wide_any k
  have KD := fwithin_any pos 0 ((len : Int) - M.wide k)
  have HV : Hid (M.place len pos k = if M.known k = false then 4 else if 65536 < (len : Int) then 2 else if M.within pos 0 ((len : Int) - M.wide k) = false then 5 else 0) := rfl
  have hw : 0 ≤ M.wide k ∧ M.wide k ≤ 2 := by unfold M.wide; repeat' split; all_goals omega
  generalize M.place len pos k = V at *
  generalize M.known k = kn at *
  generalize M.within pos 0 ((len : Int) - M.wide k) = xw at *
  generalize M.wide k = wd at *
  cases kn
  · obtain rfl : V = 4 := HV.out
    clear HV
    go_enter Try.func19, Try.ntmps19
    go_wp2_with (go_at_call 14; refine (KK _).mono ?_; rintro e w' ⟨rfl, rfl⟩)
    go_ret
    exact ⟨rfl, rfl⟩
  by_cases hm : 65536 < (len : Int)
  · obtain rfl : V = 2 := by have := HV.out; simpa [hm] using this
    clear HV
    go_enter Try.func19, Try.ntmps19
    go_wp2_with (go_at_call 14; refine (KK _).mono ?_; rintro e w' ⟨rfl, rfl⟩)
    go_ret
    exact ⟨rfl, rfl⟩
  have HV2 : Hid (V = if xw = false then 5 else 0) := by
    show _ = _
    have := HV.out
    simpa [hm] using this
  have hm' : decide (65536 < (len : Int)) = false := by simpa using hm
  clear HV
  cases xw
  all_goals
    first
    | obtain rfl : V = 5 := HV2.out
    | obtain rfl : V = 0 := HV2.out
    clear HV2
    go_enter Try.func19, Try.ntmps19
    go_wp2_with (first | (go_at_call 14; refine (KK _).mono ?_; rintro e w' ⟨rfl, rfl⟩) | (go_at_call 21; refine (KW _).mono ?_; rintro e w' ⟨rfl, rfl⟩) | (go_at_call 16; refine (KD _).mono ?_; rintro e w' ⟨rfl, rfl⟩))
    go_ret
    exact ⟨rfl, rfl⟩

end Go.Proofs.Ytebhbhbhcoijpab
