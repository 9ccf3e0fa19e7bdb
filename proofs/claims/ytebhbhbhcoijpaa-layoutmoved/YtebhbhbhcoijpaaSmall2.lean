/-
  The contracts of Long, LongOf, WideOf, Name.
-/
import Derived.Test.YtebhbhbhcoijpaaSmall
import Derived.Below
import Derived.Deep.DeepMust
namespace Go.Proofs.Ytebhbhbhcoijpaa
open Go.RowKit

theorem long_any (s al sz : Int) (g : ByteArray) (a : Option Addr) (n c : Nat) (vr : Value) (w : World) :
    Calls Try.prog 102 #[.agg #[.int .i64 s, .int .i64 al, .string g, .slice a n c, .int .i64 sz, vr]] w fun e w' =>
      e = .returned (.int .i64 (M.lng s sz n)) ∧ Below w.heap.size w w' := by
  by_cases h : s = 5
  · subst h
    go_enter Try.func102, Try.ntmps102
    go_wp2
    go_ret
    exact ⟨rfl, (Below.refl _ _).alloc (Nat.le_refl _) _⟩
  · have b : (s == 5) = false := by simp [h]
    have HX : Hid (M.lng s sz n = n) := if_neg h
    clear h
    go_enter Try.func102, Try.ntmps102
    go_wp2
    go_ret
    exact ⟨ret_int HX.out.symm, (Below.refl _ _).alloc (Nat.le_refl _) _⟩

theorem all_take_succ (l : List UInt8) (f : UInt8 → Bool) (k : Nat) (h : k < l.length) : (l.take (k + 1)).all f = ((l.take k).all f && f l[k]) := by
  rw [List.take_succ_eq_append_getElem h, List.all_append]; simp

theorem all_false_of (l : List UInt8) (f : UInt8 → Bool) (k : Nat) (h : k < l.length) (hf : f l[k] = false) : l.all f = false := by
  rw [List.all_eq_false]
  exact ⟨l[k], List.getElem_mem h, by simp [hf]⟩

set_option maxHeartbeats 400000 in
theorem name_any (s : ByteArray) (w : World) (hs : s.size ≤ maxLen) :
    Calls Try.prog 84 #[.string s] w fun e w' => e = .returned (.bool (M.isName s)) ∧ w' = w := by
  unfold maxLen at hs
  by_cases h1 : 1 ≤ s.size
  · by_cases h2 : s.size ≤ 8
    · have HX : Hid (M.isName s = s.data.toList.all fun c => M.nameByte c.toNat) := by simp [Hid, M.isName, h1, h2]
      go_enter Try.func84, Try.ntmps84
      go_wp2_with fail
      go_loop [14] (fun i => ∃ k : Nat, k ≤ s.size ∧ i = .int .i64 k ∧ Hid ((s.data.toList.take k).all (fun c => M.nameByte c.toNat) = true)) (fun i => s.size - (intOf i).toNat)
      case atStart => exact ⟨0, Nat.zero_le _, rfl, rfl⟩
      case round =>
        obtain ⟨k, hk, rfl, HA⟩ := hrel
        by_cases hlt : k < s.size
        · have hl : k < s.data.toList.length := by simpa using hlt
          have HS : Hid ((s.data.toList.take (k + 1)).all (fun c => M.nameByte c.toNat) = M.nameByte s[k].toNat) := by
            show _ = _
            rw [all_take_succ _ _ _ hl, HA.out]; rfl
          have HF : Hid (M.nameByte s[k].toNat = false → M.isName s = false) := fun hf => by rw [HX.out]; exact all_false_of _ _ k hl hf
          clear HA HX
          go_wp2_with (go_at_call 105; refine (nameByte_any _ _).mono ?_; rintro e w' ⟨rfl, rfl⟩)
          · go_ret
            refine ⟨ret_bool (HF.out ?_).symm, rfl⟩
            simp_all
          · go_round
            case rel => exact ⟨k + 1, by omega, by go_num, by show _ = _; rw [HS.out]; simp_all⟩
            case measure => simp [intOf]; omega
        · have hk' : k = s.size := by omega
          have HT : Hid (M.isName s = true) := by
            show _ = _
            rw [HX.out]
            have := HA.out
            rwa [hk', List.take_of_length_le (by simp)] at this
          clear HA HX hk'
          go_wp2
          go_ret
          exact ⟨ret_bool HT.out.symm, rfl⟩
    · have HX : Hid (M.isName s = false) := by simp [Hid, M.isName, h2]
      go_enter Try.func84, Try.ntmps84
      go_wp2
      go_ret
      exact ⟨ret_bool HX.out.symm, rfl⟩
  · have HX : Hid (M.isName s = false) := by simp [Hid, M.isName, h1]
    go_enter Try.func84, Try.ntmps84
    go_wp2
    go_ret
    exact ⟨ret_bool HX.out.symm, rfl⟩

end Go.Proofs.Ytebhbhbhcoijpaa
