/-
  The reference's ValueOf; slices.Clone at bytes.
-/
import Derived.Test.YtebhbhbhcoijpabFlRef
namespace Go.Proofs.Ytebhbhbhcoijpab
open Go Go.RowKit
set_option linter.unusedVariables false

theorem lo_hi (k : Int) : (M.hi k < M.lo k) = (M.known k = false) ∧ -32768 ≤ M.lo k ∧ M.lo k ≤ 1 ∧ 0 ≤ M.hi k ∧ M.hi k ≤ 65535 := by
  by_cases h1 : k = 1
  · subst h1; decide
  by_cases h2 : k = 2
  · subst h2; decide
  by_cases h3 : k = 3
  · subst h3; decide
  by_cases h4 : k = 4
  · subst h4; decide
  simp [M.lo, M.hi, M.known, M.wide, h1, h2, h3, h4]

theorem isRel_known {k : Int} (h : M.known k = true) : M.isRel k = decide (2 < k) := by
  rcases M.kinds h with rfl | rfl | rfl | rfl <;> rfl

set_option maxHeartbeats 2000000 in
set_option maxRecDepth 100000 in
theorem valueOf_any (k pos toV add : Int) (w : World) (hk : (Lit.int .i64 k).wf = true) :
    Calls Try.prog 9 #[.int .i64 k, .int .i64 pos, .int .i64 toV, .int .i64 add] w fun e w' => e = .returned (.tuple #[.int .i64 (M.value k pos toV add).1, .int .i64 (M.value k pos toV add).2]) ∧ Below w.heap.size w w' := by
  have KB : Hid (∀ W, Calls Try.prog 8 #[.int .i64 k] W fun e w' => e = .returned (.tuple #[.int .i64 (M.lo k), .int .i64 (M.hi k)]) ∧ Below W.heap.size W w') := fun W => bounds_any k W hk
  obtain ⟨hlh, hl1, hl2, hh1, hh2⟩ := lo_hi k
  have HV : Hid (M.value k pos toV add = if M.known k = false then (0, 4) else if (M.addr pos && M.addr toV && M.within add (-10000) 10000) = false then (0, 3) else if M.fits k (M.sum k pos toV add) = false then (0, 9) else (M.sum k pos toV add, 0)) := rfl
  have HF : Hid (∀ n, M.fits k n = (decide (M.lo k ≤ n) && decide (n ≤ M.hi k))) := fun n => rfl
  have HS : Hid (M.known k = true → M.sum k pos toV add = bif decide (2 < k) then toV + add - pos else toV + add) := fun h => by
    unfold M.sum; rw [isRel_known h]
  generalize M.value k pos toV add = V at *
  generalize M.sum k pos toV add = sm at *
  cases hkn : M.known k
  · rw [hkn] at hlh HV
    have hlt : M.hi k < M.lo k := by rw [hlh]
    clear HS HF hlh
    obtain rfl : V = (0, 4) := HV.out
    clear HV hkn
    generalize M.lo k = lo at *
    generalize M.hi k = hi at *
    have hd : decide (hi < lo) = true := by simpa using hlt
    clear hlt
    go_enter Try.func9, Try.ntmps9
    go_wp2_with (go_at_call 8; refine (KB.out _).mono ?_; rintro e w1 ⟨rfl, hb1⟩)
    go_ret2
    exact ⟨rfl, hb1⟩
  rw [hkn] at hlh HV
  have hlt : ¬ M.hi k < M.lo k := by rw [hlh]; decide
  have hs := HS.out hkn
  have HS2 : Hid _ := hs
  clear HS hs hkn hlh
  generalize M.fits k = ft at *
  generalize M.lo k = lo at *
  generalize M.hi k = hi at *
  have hd : decide (hi < lo) = false := by simpa using hlt
  clear hlt
  by_cases hr : (0 ≤ pos ∧ pos ≤ 65536) ∧ (0 ≤ toV ∧ toV ≤ 65536) ∧ (-10000 ≤ add ∧ add ≤ 10000)
  · obtain ⟨hp, ht, ha⟩ := hr
    have hall : (M.addr pos && M.addr toV && M.within add (-10000) 10000) = true := by simp [M.addr, M.within]; omega
    rw [hall] at HV
    have HV2 : Hid (V = if ft sm = false then (0, 9) else (sm, 0)) := HV.out
    clear HV hall
    rw [HF.out sm] at HV2
    clear HF
    cases hk2 : decide (2 < k)
    · rw [hk2] at HS2
      obtain rfl : sm = toV + add := HS2.out
      clear HS2
      cases g1 : decide (lo ≤ toV + add)
      · rw [g1] at HV2
        obtain rfl : V = (0, 9) := HV2.out
        clear HV2
        have g1' : toV + add < lo := by have := of_decide_eq_false g1; omega
        clear g1
        go_enter Try.func9, Try.ntmps9
        go_wp2_with (go_at_call 8; refine (KB.out _).mono ?_; rintro e w1 ⟨rfl, hb1⟩)
        go_ret2
        exact ⟨rfl, hb1⟩
      · cases g2 : decide (toV + add ≤ hi)
        · rw [g1, g2] at HV2
          obtain rfl : V = (0, 9) := HV2.out
          clear HV2
          have g1' : ¬ toV + add < lo := by have := of_decide_eq_true g1; omega
          have g2' : hi < toV + add := by have := of_decide_eq_false g2; omega
          clear g1 g2
          go_enter Try.func9, Try.ntmps9
          go_wp2_with (go_at_call 8; refine (KB.out _).mono ?_; rintro e w1 ⟨rfl, hb1⟩)
          go_ret2
          exact ⟨rfl, hb1⟩
        · rw [g1, g2] at HV2
          obtain rfl : V = (toV + add, 0) := HV2.out
          clear HV2
          have g1' : ¬ toV + add < lo := by have := of_decide_eq_true g1; omega
          have g2' : ¬ hi < toV + add := by have := of_decide_eq_true g2; omega
          clear g1 g2
          go_enter Try.func9, Try.ntmps9
          go_wp2_with (go_at_call 8; refine (KB.out _).mono ?_; rintro e w1 ⟨rfl, hb1⟩)
          go_ret2
          exact ⟨rfl, hb1⟩
    · rw [hk2] at HS2
      obtain rfl : sm = toV + add - pos := HS2.out
      clear HS2
      cases g1 : decide (lo ≤ toV + add - pos)
      · rw [g1] at HV2
        obtain rfl : V = (0, 9) := HV2.out
        clear HV2
        have g1' : toV + add - pos < lo := by have := of_decide_eq_false g1; omega
        clear g1
        go_enter Try.func9, Try.ntmps9
        go_wp2_with (go_at_call 8; refine (KB.out _).mono ?_; rintro e w1 ⟨rfl, hb1⟩)
        go_ret2
        exact ⟨rfl, hb1⟩
      · cases g2 : decide (toV + add - pos ≤ hi)
        · rw [g1, g2] at HV2
          obtain rfl : V = (0, 9) := HV2.out
          clear HV2
          have g1' : ¬ toV + add - pos < lo := by have := of_decide_eq_true g1; omega
          have g2' : hi < toV + add - pos := by have := of_decide_eq_false g2; omega
          clear g1 g2
          go_enter Try.func9, Try.ntmps9
          go_wp2_with (go_at_call 8; refine (KB.out _).mono ?_; rintro e w1 ⟨rfl, hb1⟩)
          go_ret2
          exact ⟨rfl, hb1⟩
        · rw [g1, g2] at HV2
          obtain rfl : V = (toV + add - pos, 0) := HV2.out
          clear HV2
          have g1' : ¬ toV + add - pos < lo := by have := of_decide_eq_true g1; omega
          have g2' : ¬ hi < toV + add - pos := by have := of_decide_eq_true g2; omega
          clear g1 g2
          go_enter Try.func9, Try.ntmps9
          go_wp2_with (go_at_call 8; refine (KB.out _).mono ?_; rintro e w1 ⟨rfl, hb1⟩)
          go_ret2
          exact ⟨rfl, hb1⟩
  · have hall : (M.addr pos && M.addr toV && M.within add (-10000) 10000) = false := by
      cases h : (M.addr pos && M.addr toV && M.within add (-10000) 10000)
      · rfl
      · simp [M.addr, M.within] at h; omega
    rw [hall] at HV
    obtain rfl : V = (0, 3) := HV.out
    clear HV hall HF HS2
    by_cases q1 : pos < 0
    · clear hr
      go_enter Try.func9, Try.ntmps9
      go_wp2_with (go_at_call 8; refine (KB.out _).mono ?_; rintro e w1 ⟨rfl, hb1⟩)
      go_ret2
      exact ⟨rfl, hb1⟩
    by_cases q2 : 65536 < pos
    · clear hr
      go_enter Try.func9, Try.ntmps9
      go_wp2_with (go_at_call 8; refine (KB.out _).mono ?_; rintro e w1 ⟨rfl, hb1⟩)
      go_ret2
      exact ⟨rfl, hb1⟩
    by_cases q3 : toV < 0
    · clear hr
      go_enter Try.func9, Try.ntmps9
      go_wp2_with (go_at_call 8; refine (KB.out _).mono ?_; rintro e w1 ⟨rfl, hb1⟩)
      go_ret2
      exact ⟨rfl, hb1⟩
    by_cases q4 : 65536 < toV
    · clear hr
      go_enter Try.func9, Try.ntmps9
      go_wp2_with (go_at_call 8; refine (KB.out _).mono ?_; rintro e w1 ⟨rfl, hb1⟩)
      go_ret2
      exact ⟨rfl, hb1⟩
    by_cases q5 : add < -10000
    · clear hr
      go_enter Try.func9, Try.ntmps9
      go_wp2_with (go_at_call 8; refine (KB.out _).mono ?_; rintro e w1 ⟨rfl, hb1⟩)
      go_ret2
      exact ⟨rfl, hb1⟩
    have q6 : 10000 < add := by omega
    clear hr
    go_enter Try.func9, Try.ntmps9
    go_wp2_with (go_at_call 8; refine (KB.out _).mono ?_; rintro e w1 ⟨rfl, hb1⟩)
    go_ret2
    exact ⟨rfl, hb1⟩

theorem bytes_src {w : World} {v : Value} {bs : List Int} (h : BytesAt w v bs) : Src w v bs.length (bs.map (Value.int .u8)) :=
  h.1.src (by decide) _ (by simp) (fun j i hj hi => by
    obtain rfl : i = 0 := by omega
    rw [Nat.mul_one, Nat.add_zero, List.getElem?_map, getElem?_getD bs 0 j hj]; rfl)

theorem own_none {w : World} {N g k : Nat} {e : TypeId} (hg : w.heap[g]? = some (.cells #[] e (0, 0))) (hN : N ≤ g) : w.ownsRow N e k (.slice (some ⟨g, 0, none⟩) 0 0) 0 [] :=
  ⟨by simp, .inr ⟨g, 0, #[], rfl, hN, hg, Nat.le_refl _, Nat.zero_le _, by simp, by simp⟩⟩

set_option maxRecDepth 100000 in
theorem clone_any (bs : List Int) (a : Option Addr) (c : Nat) (w : World) (h : BytesAt w (.slice a bs.length c) bs) (h0 : 0 < bs.length) (hl : bs.length ≤ 65536) :
    Calls Try.prog 12 #[.slice a bs.length c] w fun e w' => Below w.heap.size w w' ∧ ∃ g cap, w.heap.size ≤ g ∧ e = .returned (.slice (some ⟨g, 0, none⟩) bs.length cap) ∧ w'.ownsRow w.heap.size 5 1 (.slice (some ⟨g, 0, none⟩) bs.length cap) bs.length (bs.map (Value.int .u8)) := by
  obtain ⟨i0, hi0, hz0, hz1, hz2⟩ := info_parts (P := Try.prog) (e := 5) (z := .int .u8 0) (size := 1) (bytes := 1) (by kernel_rfl)
  obtain ⟨b, off, rfl, hc, hb⟩ := h.cell 0 h0
  have hsrc := (bytes_src h).alloc (.cells #[] 5)
  have hown : (w.alloc (.cells #[] 5)).ownsRow w.heap.size 5 1 (.slice (some ⟨w.heap.size, 0, none⟩) 0 0) 0 [] := own_none (heap_new _ _) (Nat.le_refl _)
  have heq := fun W => Lib.run_eql_slice_nil (P := Try.prog) W 22 5 (some ⟨b, off, none⟩) bs.length c 0 0 Try.underlying22
  clear h
  go_enter Try.func12, Try.ntmps12
  go_wp2_with (at_builtin; refine wpList_append_src _ rfl _ _ 22 rfl w.heap.size 5 i0 (.int .u8 0) 1 1 Try.underlying22 hi0 hz0 hz1 hz2 rfl (by decide) _ 0 [] rfl hown _ bs.length (bs.map (Value.int .u8)) rfl hsrc (by simp) (fun u hu => by obtain ⟨b, _, rfl⟩ := List.mem_map.1 hu; rfl) (by unfold maxLen; omega) (by omega) (by simp) ?_; intro v1 w1 ho1 hg1)
  go_ret
  have hB : Below w.heap.size w w1 := ((Below.refl w.heap.size w).alloc (Nat.le_refl _) _).grown hg1 (by simp) (fun j hj => by cases hj; exact Nat.le_refl _)
  refine ⟨hB, ?_⟩
  rw [Nat.zero_add, List.nil_append] at ho1
  have ho2 := ho1
  rcases ho1.2 with ⟨h1, h2⟩ | ⟨g, cap, cur, h1, h2, _⟩
  · omega
  · subst h1
    exact ⟨g, cap, h2, rfl, ho2⟩

end Go.Proofs.Ytebhbhbhcoijpab
