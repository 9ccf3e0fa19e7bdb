/-
  FillMoved: the law.
-/
import Derived.Test.YtpnfofbhbgejjaaFlFact
namespace Go.Proofs.Ytpnfofbhbgejjaa
open Go.RowKit
set_option linter.unusedVariables false

theorem M.value_ok {k pos to add n : Int} (h : M.value k pos to add = (n, 0)) : M.known k = true ∧ (0 ≤ pos ∧ pos ≤ 65536) ∧ (0 ≤ to ∧ to ≤ 65536) ∧ (-10000 ≤ add ∧ add ≤ 10000) ∧ M.fits k n = true ∧ n = M.sum k pos to add := by
  unfold M.value at h
  cases h1 : M.known k
  · rw [h1, if_pos rfl] at h; cases h
  rw [h1, if_neg (by decide)] at h
  cases h2 : (M.addr pos && M.addr to && M.within add (-10000) 10000)
  · rw [h2, if_pos rfl] at h; cases h
  rw [h2, if_neg (by decide)] at h
  simp only [M.addr, M.within, Bool.and_eq_true, decide_eq_true_eq] at h2
  cases h3 : M.fits k (M.sum k pos to add)
  · rw [h3, if_pos rfl] at h; cases h
  rw [h3, if_neg (by decide)] at h
  obtain rfl : M.sum k pos to add = n := congrArg Prod.fst h
  exact ⟨rfl, h2.1.1, h2.1.2, h2.2, h3, rfl⟩

theorem M.value_of {k pos to add n : Int} (h1 : M.known k = true) (h2 : 0 ≤ pos ∧ pos ≤ 65536) (hf : M.fits k n = true) (hn : n = M.sum k pos to add) : M.value k pos to add = (0, 3) ∨ M.value k pos to add = (n, 0) := by
  unfold M.value
  rw [h1, if_neg (by decide), ← hn, hf]
  cases (M.addr pos && M.addr to && M.within add (-10000) 10000)
  · left; rfl
  · right; rfl

theorem at100_any (k : Int) (w : World) : Calls Try.prog 17 #[.int .i64 k, .int .i64 100] w fun e w' => (∃ t, e = .returned (.int .i64 t) ∧ 0 ≤ t ∧ t < 100) ∧ w = w' := by
  have h1 : k.tmod 100 < 100 := Int.tmod_lt_of_pos k (by decide)
  have h2 : -100 < k.tmod 100 := by
    have := Int.tmod_lt_of_pos (-k) (b := 100) (by decide)
    rw [Int.neg_tmod] at this
    omega
  generalize hq : k.tmod 100 = q at *
  by_cases h : q < 0
  · go_enter Try.func17, Try.ntmps17
    go_wp2
    go_ret
    exact ⟨⟨_, rfl, by omega, by omega⟩, rfl⟩
  · have h' : decide (q < 0) = false := by simpa using h
    go_enter Try.func17, Try.ntmps17
    go_wp2
    go_ret
    exact ⟨⟨_, rfl, by omega, by omega⟩, rfl⟩

set_option maxHeartbeats 2000000 in
set_option maxRecDepth 100000 in
theorem fmoved_law (k pos to add b : Int) (w : World) :
    Calls Try.prog 5 #[.int .i64 k, .int .i64 pos, .int .i64 to, .int .i64 add, .int .i64 b] w fun e w' => e = .returned (.bool true) ∧ Below w.heap.size w w' := by
  have KV : Hid (∀ W pos to add, Calls Try.prog 7 #[.int .i64 k, .int .i64 pos, .int .i64 to, .int .i64 add] W fun e w' => e = .returned (.tuple #[.int .i64 (M.value k pos to add).1, .int .i64 (M.value k pos to add).2]) ∧ W = w') := fun W p t a => (value_any k p t a W).mono fun e w' ⟨h1, h2⟩ => ⟨h1, h2.symm⟩
  have KP := put_true
  have KA := at100_any b
  obtain ⟨n, er, hv⟩ : ∃ n er, M.value k pos to add = (n, er) := ⟨_, _, rfl⟩
  have K1 : Hid (∀ W, Calls Try.prog 7 #[.int .i64 k, .int .i64 pos, .int .i64 to, .int .i64 add] W fun e w' => e = .returned (.tuple #[.int .i64 n, .int .i64 er]) ∧ W = w') := fun W => by
    have := KV.out W pos to add
    rwa [hv] at this
  cases he : (er == 0)
  · have he' : (er != 0) = true := by simpa using he
    clear KV hv
    go_enter Try.func5, Try.ntmps5
    go_wp2_with (first | (go_at_call 7; refine (K1.out _).mono ?_; rintro e w' ⟨rfl, rfl⟩) | (go_at_call 12; refine (KP _).mono ?_; rintro e w1 ⟨rfl, hb1⟩; refine Hid.out ?_))
    refine Lib.hid ?_
    go_wp2_with (first | (go_at_call 12; refine (KP _).mono ?_; rintro e w2 ⟨rfl, hb2⟩))
    go_ret
    exact ⟨rfl, hb1.trans (hb2.mono hb1.size)⟩
  obtain rfl : er = 0 := by simpa using he
  clear he
  obtain ⟨hkn, hp, ht, ha, hft, hn⟩ := M.value_ok hv
  clear hv
  have hr : M.lo k ≤ n ∧ n ≤ M.hi k := by simpa [M.fits, M.within] using hft
  have KR : Hid (∀ W, Calls Try.prog 6 #[.int .i64 k] W fun e w' => e = .returned (.tuple #[.int .i64 (M.lo k), .int .i64 (M.hi k)]) ∧ W = w') := fun W => (range_any k W).mono fun e w' ⟨h1, h2⟩ => ⟨h1, h2.symm⟩
  have hbd : -32768 ≤ n ∧ n ≤ 65535 := by
    have h1 : -32768 ≤ M.lo k := by unfold M.lo; repeat' split; all_goals omega
    have h2 : M.hi k ≤ 65535 := by unfold M.hi; repeat' split; all_goals omega
    omega
  have K2 : Hid (∀ W t, 0 ≤ t → t < 100 → Calls Try.prog 7 #[.int .i64 k, .int .i64 (pos + t), .int .i64 (to + t), .int .i64 add] W fun e w' => (∃ m er, e = .returned (.tuple #[.int .i64 m, .int .i64 er]) ∧ (er = 0 → m = bif M.isRel k then n else n + t)) ∧ W = w') := fun W t h0 h1 => by
    refine (KV.out W (pos + t) (to + t) add).mono ?_
    rintro e w' ⟨rfl, hw⟩
    refine ⟨⟨_, _, rfl, fun h => ?_⟩, hw⟩
    obtain ⟨m, er, hv⟩ : ∃ m er, M.value k (pos + t) (to + t) add = (m, er) := ⟨_, _, rfl⟩
    rw [hv] at h ⊢
    obtain rfl : er = 0 := h
    have := (M.value_ok hv).2.2.2.2.2
    show m = _
    rw [this, hn]
    unfold M.sum
    cases M.isRel k
    · show to + t + add = to + add + t; omega
    · show to + t + add - (pos + t) = to + add - pos; omega
  have K3 : Hid (∀ W t, 0 ≤ t → t < 100 → Calls Try.prog 7 #[.int .i64 k, .int .i64 pos, .int .i64 (to + t), .int .i64 (add - t)] W fun e w' => (e = .returned (.tuple #[.int .i64 0, .int .i64 3]) ∨ e = .returned (.tuple #[.int .i64 n, .int .i64 0])) ∧ W = w') := fun W t h0 h1 => by
    refine (KV.out W pos (to + t) (add - t)).mono ?_
    rintro e w' ⟨rfl, hw⟩
    refine ⟨?_, hw⟩
    rcases M.value_of (k := k) (pos := pos) (to := to + t) (add := add - t) (n := n) hkn hp hft (by
      rw [hn]
      unfold M.sum
      cases M.isRel k
      · show to + add = to + t + (add - t); omega
      · show to + add - pos = to + t + (add - t) - pos; omega) with h | h
    · left; rw [h]
    · right; rw [h]
  have HRl : Hid (M.isRel k = (k == 3 || k == 4)) := rfl
  generalize M.isRel k = rl at *
  generalize M.lo k = lo at *
  generalize M.hi k = hi at *
  clear KV hn hft hkn
  have h1 : decide (n < lo) = false := by simp; omega
  have h2 : decide (hi < n) = false := by simp; omega
  go_enter Try.func5, Try.ntmps5
  go_wp2_with (first | (go_at_call 7; refine (K1.out _).mono ?_; rintro e w' ⟨rfl, rfl⟩) | (go_at_call 12; refine (KP _).mono ?_; rintro e w1 ⟨rfl, hb1⟩) | (go_at_call 6; refine (KR.out _).mono ?_; rintro e w' ⟨rfl, rfl⟩) | (go_at_call 17; refine (KA _).mono ?_; rintro e w' ⟨⟨t, rfl, ht0, ht1⟩, rfl⟩; refine Hid.out ?_))
  refine Lib.hid ?_
  have K2' : Hid (∀ W, Calls Try.prog 7 #[.int .i64 k, .int .i64 (pos + t), .int .i64 (to + t), .int .i64 add] W fun e w' => (∃ m er, e = .returned (.tuple #[.int .i64 m, .int .i64 er]) ∧ (er = 0 → m = bif rl then n else n + t)) ∧ W = w') := fun W => K2.out W t ht0 ht1
  have K3' : Hid (∀ W, Calls Try.prog 7 #[.int .i64 k, .int .i64 pos, .int .i64 (to + t), .int .i64 (add - t)] W fun e w' => (e = .returned (.tuple #[.int .i64 0, .int .i64 3]) ∨ e = .returned (.tuple #[.int .i64 n, .int .i64 0])) ∧ W = w') := fun W => K3.out W t ht0 ht1
  clear K1 K2 K3 KR KP KA
  go_wp2_with (go_at_call 7; refine (K2'.out _).mono ?_; rintro e w' ⟨⟨m, er, rfl, hm⟩, rfl⟩; refine Hid.out ?_)
  refine Lib.hid ?_
  have HM : Hid _ := hm
  clear hm K2'
  cases he : (er == 0)
  · clear HM
    go_wp2_with (go_at_call 7; refine (K3'.out _).mono ?_; rintro e w' ⟨rfl | rfl, rfl⟩)
    all_goals
      go_ret
      exact ⟨rfl, hb1⟩
  · have hm := HM.out (by simpa using he)
    clear HM
    have hrl := HRl.out
    clear HRl
    subst hrl
    cases h3 : (k == 3) <;> cases h4 : (k == 4)
    all_goals
      rw [h3, h4] at hm
      first
      | obtain rfl : m = n := hm
      | obtain rfl : m = n + t := hm
      go_wp2_with (go_at_call 7; refine (K3'.out _).mono ?_; rintro e w' ⟨rfl | rfl, rfl⟩)
      all_goals
        go_ret
        exact ⟨rfl, hb1⟩

end Go.Proofs.Ytpnfofbhbgejjaa
