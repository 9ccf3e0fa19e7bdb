/-
  The contracts of slices.Index, slices.Contains and slices.Equal at texts.
-/
import Derived.Test.YtebhbhbhcoijpaaMem
import Derived.Test.YtebhbhbhcoijpaaPrtMath5
import Derived.Test.YtebhbhbhcoijpaaSmall
namespace Go.Proofs.Ytebhbhbhcoijpaa
open Go.RowKit
set_option linter.unusedVariables false

def str0 : ByteArray := ⟨#[]⟩

/-- texts in a slice -/
def StrsAt (w : World) (v : Value) (l : List ByteArray) : Prop :=
  SlAt w v 1 l.length (fun j _ => .string (l.getD j str0)) ∧ ∀ s ∈ l, s.size ≤ maxLen

theorem StrsAt.later {w w' : World} {v : Value} {l : List ByteArray} (h : StrsAt w v l) (hb : Below w.heap.size w w') : StrsAt w' v l := ⟨h.1.later hb, h.2⟩

theorem StrsAt.cell {w : World} {a : Option Addr} {c : Nat} {l : List ByteArray} (h : StrsAt w (.slice a l.length c) l) (k : Nat) (hk : k < l.length) :
    ∃ b off, a = some ⟨b, off, none⟩ ∧ w.cell? ⟨b, off + k, none⟩ = some (.string (l.getD k str0)) ∧ b < w.heap.size := by
  obtain ⟨b, off, ha, hc⟩ := h.1.at k hk
  have := hc 0 (by omega)
  simp only [Nat.mul_one, Nat.add_zero] at this
  exact ⟨b, off, ha, this, World.block_lt_of_cell? _ _ this⟩

def idx (l : List ByteArray) (s : ByteArray) (k : Nat) : Int :=
  match (l.drop k).findIdx? (fun x => x.toList == s.toList) with
    | some j => ((k + j : Nat) : Int)
    | none => -1

theorem idx_end (l : List ByteArray) (s : ByteArray) (k : Nat) (h : ¬ k < l.length) : idx l s k = -1 := by
  unfold idx
  rw [List.drop_eq_nil_of_le (by omega)]
  rfl

theorem idx_step (l : List ByteArray) (s : ByteArray) (k : Nat) (h : k < l.length) : idx l s k = bif s.toList == (l.getD k str0).toList then (k : Int) else idx l s (k + 1) := by
  unfold idx
  rw [drop_getD l str0 k h, List.findIdx?_cons, BEq.comm (a := (l.getD k str0).toList)]
  cases s.toList == (l.getD k str0).toList
  · simp only [Bool.false_eq_true, if_false, cond_false]
    cases (l.drop (k + 1)).findIdx? (fun x => x.toList == s.toList) with
    | none => rfl
    | some j => simp; omega
  · simp

theorem idx_has (l : List ByteArray) (s : ByteArray) : M.has l s = decide (0 ≤ idx l s 0) := by
  unfold idx M.has
  rw [List.drop_zero]
  cases h : l.findIdx? (fun x => x.toList == s.toList) with
  | none =>
    rw [List.findIdx?_eq_none_iff] at h
    rw [List.any_eq_false.2 (by simpa using h)]
    rfl
  | some j =>
    obtain ⟨hj, hp, _⟩ := List.findIdx?_eq_some_iff_getElem.1 h
    rw [List.any_eq_true.2 ⟨_, List.getElem_mem hj, hp⟩]
    simp only [Nat.zero_add]
    exact (decide_eq_true (by omega)).symm

set_option maxHeartbeats 1000000 in
set_option maxRecDepth 100000 in
theorem indexS_any (l : List ByteArray) (s : ByteArray) (a : Option Addr) (c : Nat) (w : World) (h : StrsAt w (.slice a l.length c) l) :
    Calls Try.prog 51 #[.slice a l.length c, .string s] w fun e w' => e = .returned (.int .i64 (idx l s 0)) ∧ w' = w := by
  have hn : l.length ≤ maxLen := by obtain ⟨_, _, _, h⟩ := h.1.form; exact h
  unfold maxLen at hn
  have HX : Hid (idx l s 0 = idx l s 0) := rfl
  generalize hR : idx l s 0 = R at HX ⊢
  have HR0 : Hid (R = idx l s 0) := hR.symm
  clear hR HX
  go_enter Try.func51, Try.ntmps51
  go_wp2_with fail
  go_loopw [8] (fun s8 wr => ∃ (k : Nat), k ≤ l.length ∧ s8 = .int .i64 k ∧ wr = w ∧ Hid (R = idx l s k)) (fun s8 _ => l.length - (intOf s8).toNat)
  case atStart => exact ⟨0, Nat.zero_le _, rfl, rfl, HR0⟩
  case round =>
    obtain ⟨k, hk, rfl, rfl, HR⟩ := hrel
    clear HR0
    by_cases hlt : k < l.length
    · obtain ⟨b, off, rfl, hc, hb⟩ := h.cell k hlt
      have HR1 := HR.out
      rw [idx_step l s k hlt] at HR1
      have hkl : (k : Int) < (l.length : Int) := by omega
      clear HR
      generalize l.getD k str0 = x at *
      cases hx : (s.toList == x.toList)
      · rw [hx] at HR1
        have HR2 : Hid (R = idx l s (k + 1)) := HR1
        clear HR1
        go_wp2
        go_roundw
        case rel => exact ⟨k + 1, by omega, by go_num, by trivial, HR2⟩
        case measure => simp [intOf]; omega
      · rw [hx] at HR1
        have HR2 : Hid (R = (k : Int)) := HR1
        clear HR1
        go_wp2
        go_ret
        exact ⟨ret_int HR2.out.symm, rfl⟩
    · have hkl : k = l.length := by omega
      have HR1 := HR.out
      rw [idx_end l s k hlt] at HR1
      have HR2 : Hid (R = -1) := HR1
      clear HR1 HR
      subst hkl
      go_wp2
      go_ret
      exact ⟨ret_int HR2.out.symm, rfl⟩

theorem containsS_any (l : List ByteArray) (s : ByteArray) (a : Option Addr) (c : Nat) (w : World) (h : StrsAt w (.slice a l.length c) l) :
    Calls Try.prog 17 #[.slice a l.length c, .string s] w fun e w' => e = .returned (.bool (M.has l s)) ∧ w' = w := by
  have HK : Hid (Calls Try.prog 51 #[.slice a l.length c, .string s] w fun e w' => e = .returned (.int .i64 (idx l s 0)) ∧ w' = w) := indexS_any l s a c w h
  rw [idx_has]
  generalize idx l s 0 = R at *
  clear h
  go_enter Try.func17, Try.ntmps17
  go_wp2_with (go_at_call 51; refine HK.out.mono ?_; rintro e w1 ⟨rfl, rfl⟩)
  go_ret
  exact ⟨by simp, rfl⟩

def sameTexts (a b : List ByteArray) : Bool := M.allTwo (fun x y => x.toList == y.toList) a b

theorem texts_step {xs ys : List ByteArray} {k : Nat} (hx : k < xs.length) (hy : k < ys.length) :
    sameTexts (xs.drop k) (ys.drop k) = ((xs.getD k str0).toList == (ys.getD k str0).toList && sameTexts (xs.drop (k + 1)) (ys.drop (k + 1))) := by
  rw [drop_getD xs str0 k hx, drop_getD ys str0 k hy]; rfl

theorem texts_len : ∀ (xs ys : List ByteArray), ¬ xs.length = ys.length → sameTexts xs ys = false
  | [], [], h => absurd rfl h
  | [], _ :: _, _ => rfl
  | _ :: _, [], _ => rfl
  | x :: xs, y :: ys, h => by
    have := texts_len xs ys (by simpa using h)
    show (_ && sameTexts xs ys) = false
    rw [this, Bool.and_false]

set_option maxHeartbeats 1000000 in
set_option maxRecDepth 100000 in
theorem equalS_any (xs ys : List ByteArray) (a1 a2 : Option Addr) (c1 c2 : Nat) (w : World) (h1 : StrsAt w (.slice a1 xs.length c1) xs) (h2 : StrsAt w (.slice a2 ys.length c2) ys) :
    Calls Try.prog 16 #[.slice a1 xs.length c1, .slice a2 ys.length c2] w fun e w' => e = .returned (.bool (sameTexts xs ys)) ∧ Below w.heap.size w w' := by
  have hx : xs.length ≤ maxLen := by obtain ⟨_, _, _, h⟩ := h1.1.form; exact h
  have hy : ys.length ≤ maxLen := by obtain ⟨_, _, _, h⟩ := h2.1.form; exact h
  unfold maxLen at hx hy
  by_cases hlen : xs.length = ys.length
  · have HX : Hid (sameTexts xs ys = sameTexts (xs.drop 0) (ys.drop 0)) := rfl
    generalize sameTexts xs ys = R at *
    have HL : Hid (ys.length = xs.length) := hlen.symm
    rw [← hlen] at h2 hy ⊢
    clear hlen
    go_enter Try.func16, Try.ntmps16
    go_wp2_with fail
    go_loopw [13] (fun s13 wr => ∃ (k : Nat), k ≤ xs.length ∧ s13 = .int .i64 k ∧ Hid (Below w.heap.size w wr) ∧ Hid (R = sameTexts (xs.drop k) (ys.drop k))) (fun s13 _ => xs.length - (intOf s13).toNat)
    case atStart => exact ⟨0, Nat.zero_le _, rfl, Below.refl _ _, HX⟩
    case round =>
      obtain ⟨k, hk, rfl, HB, HR⟩ := hrel
      clear HX
      by_cases hlt : k < xs.length
      · have hky : k < ys.length := by rw [HL.out]; exact hlt
        obtain ⟨b, off, rfl, hc, hb⟩ := (h1.later HB.out).cell k hlt
        obtain ⟨b', off', rfl, hc', hb'⟩ := (show StrsAt wr (.slice a2 ys.length c2) ys by rw [HL.out]; exact h2.later HB.out).cell k hky
        have hkl : (k : Int) < (xs.length : Int) := by omega
        have HR1 := HR.out
        rw [texts_step hlt hky] at HR1
        clear HR h1 h2
        generalize xs.getD k str0 = x at *
        generalize ys.getD k str0 = y at *
        cases he : (x.toList == y.toList)
        · rw [he] at HR1
          have HR2 : Hid (R = false) := HR1
          clear HR1
          go_wp2_with fail
          go_region
          all_goals
            go_wp2
            go_ret
            exact ⟨by rw [HR2.out]; rfl, HB.out.drew⟩
        · rw [he] at HR1
          have HR2 : Hid (R = sameTexts (xs.drop (k + 1)) (ys.drop (k + 1))) := HR1
          clear HR1
          go_wp2_with fail
          go_region
          all_goals
            go_wp2
            go_roundw
            case rel => exact ⟨k + 1, by omega, by go_num, HB.out.drew, HR2⟩
            case measure => simp [intOf]; omega
      · have hkl : k = xs.length := by omega
        have HR2 : Hid (R = true) := by
          rw [Hid, HR.out, List.drop_eq_nil_of_le (by omega), List.drop_eq_nil_of_le (by rw [HL.out]; omega)]; rfl
        clear HR
        subst hkl
        go_wp2
        go_ret
        exact ⟨by rw [HR2.out]; rfl, HB.out⟩
  · have hl : ((xs.length : Int) != (ys.length : Int)) = true := by simp; omega
    have HX : Hid (sameTexts xs ys = false) := texts_len xs ys hlen
    clear hlen
    go_enter Try.func16, Try.ntmps16
    go_wp2
    go_ret
    exact ⟨by rw [HX.out]; rfl, Below.refl _ _⟩

end Go.Proofs.Ytebhbhbhcoijpaa
