/-
  slices.EqualFunc at parts, with the reference's SamePart.
-/
import Derived.Test.YtcpeeedmghbdhaaGreatDoorSaA
import Derived.Test.YtcpeeedmghbdhaaGreatDoorRefSame
import Derived.BigQuiet
namespace Go.Proofs.YtcpeeedmghbdhaaGreatDoor
open Go Go.RowKit
set_option linter.unusedVariables false


theorem parts_step {xs ys : List M.Prt} {k : Nat} (hx : k < xs.length) (hy : k < ys.length) :
    M.allTwo M.samePart (xs.drop k) (ys.drop k) = (M.samePart (xs.getD k M.nil) (ys.getD k M.nil) && M.allTwo M.samePart (xs.drop (k + 1)) (ys.drop (k + 1))) := by
  rw [drop_getD xs M.nil k hx, drop_getD ys M.nil k hy]; rfl
theorem parts_len : ∀ (xs ys : List M.Prt), ¬ xs.length = ys.length → M.allTwo M.samePart xs ys = false
  | [], [], h => absurd rfl h
  | [], _ :: _, _ => rfl
  | _ :: _, [], _ => rfl
  | x :: xs, y :: ys, h => by
    have := parts_len xs ys (by simpa using h)
    show (_ && M.allTwo M.samePart xs ys) = false
    rw [this, Bool.and_false]

set_option maxHeartbeats 4000000 in
set_option maxRecDepth 100000 in
theorem equalPartsR_any (xs ys : List M.Prt) (a1 a2 : Option Addr) (c1 c2 : Nat) (w : World) (h1 : PartsAt w (.slice a1 xs.length c1) xs) (h2 : PartsAt w (.slice a2 ys.length c2) ys) :
    Calls Tryz.prog 12 #[.slice a1 xs.length c1, .slice a2 ys.length c2, .func (.func 13) #[] #[]] w fun e w' => e = .returned (.bool (M.allTwo M.samePart xs ys)) ∧ Below w.heap.size w w' := by
  have hx : xs.length ≤ maxLen := by obtain ⟨_, h, _⟩ := h1; obtain ⟨_, _, _, h⟩ := h.form; exact h
  have hy : ys.length ≤ maxLen := by obtain ⟨_, h, _⟩ := h2; obtain ⟨_, _, _, h⟩ := h.form; exact h
  unfold maxLen at hx hy
  by_cases hlen : xs.length = ys.length
  · have HX : Hid (M.allTwo M.samePart xs ys = M.allTwo M.samePart (xs.drop 0) (ys.drop 0)) := rfl
    generalize M.allTwo M.samePart xs ys = R at *
    have HL : Hid (ys.length = xs.length) := hlen.symm
    have HP : Hid (∀ W, Below w.heap.size w W → PartsAt W (.slice a1 xs.length c1) xs ∧ PartsAt W (.slice a2 ys.length c2) ys) := fun W hW => ⟨h1.later hW, h2.later hW⟩
    rw [← hlen] at hy ⊢
    clear hlen h1 h2
    go_enter Tryz.func12, Tryz.ntmps12
    go_wp2_with fail
    go_loopw [17] (fun s17 wr => ∃ (k : Nat), k ≤ xs.length ∧ s17 = .int .i64 k ∧ Hid (Below w.heap.size w wr) ∧ Hid (R = M.allTwo M.samePart (xs.drop k) (ys.drop k))) (fun s17 _ => xs.length - (intOf s17).toNat)
    case atStart => exact ⟨0, Nat.zero_le _, rfl, Below.refl _ _, HX⟩
    case round =>
      obtain ⟨k, hk, rfl, HB, HR⟩ := hrel
      clear HX
      by_cases hlt : k < xs.length
      · have hky : k < ys.length := by rw [HL.out]; exact hlt
        obtain ⟨b, off, p1, d1, p2, d2, rfl, e0, e1, hf, hd⟩ := parts_cell (HP.out wr HB.out).1 rfl k hlt
        obtain ⟨b', off', q1, g1, q2, g2, hae, e0', e1', hf', hd'⟩ := parts_cell (HP.out wr HB.out).2 rfl k hky
        subst hae
        have hkl : (k : Int) < (xs.length : Int) := by omega
        have hbr : b < wr.heap.size := World.block_lt_of_cell? _ _ e0
        have hbr' : b' < wr.heap.size := World.block_lt_of_cell? _ _ e0'
        have HR1 := HR.out
        rw [parts_step hlt hky] at HR1
        have HR2 : Hid _ := HR1
        have HK : Hid (∀ W, Below wr.heap.size wr W → Calls Tryz.prog 13 #[.agg #[.slice p1 (xs.getD k M.nil).frags.length d1, .slice p2 (xs.getD k M.nil).defs.length d2], .agg #[.slice q1 (ys.getD k M.nil).frags.length g1, .slice q2 (ys.getD k M.nil).defs.length g2]] W fun e w' => e = .returned (.bool (M.samePart (xs.getD k M.nil) (ys.getD k M.nil))) ∧ Below W.heap.size W w') := fun W hW => rsame_any _ _ _ _ _ _ _ _ _ _ _ _ W (hf.later hW) (hd.later hW) (hf'.later hW) (hd'.later hW)
        have hA1 : Below wr.heap.size wr (wr.alloc (.cells #[.slice p1 (xs.getD k M.nil).frags.length d1, .slice p2 (xs.getD k M.nil).defs.length d2] 39)) := (Below.refl _ _).alloc (Nat.le_refl _) _
        have hA2 : Below wr.heap.size wr ((wr.alloc (.cells #[.slice p1 (xs.getD k M.nil).frags.length d1, .slice p2 (xs.getD k M.nil).defs.length d2] 39)).alloc (.cells #[.slice q1 (ys.getD k M.nil).frags.length g1, .slice q2 (ys.getD k M.nil).defs.length g2] 39)) := hA1.alloc hA1.size _
        have HA2 : Hid _ := hA2
        clear HR HR1 hf hd hf' hd' hA1
        generalize M.samePart (xs.getD k M.nil) (ys.getD k M.nil) = sm at *
        generalize xs.getD k M.nil = x at *
        generalize ys.getD k M.nil = y at *
        cases sm
        · obtain rfl : R = false := HR2.out
          clear HR2
          go_wp2_with (go_at_call 13; refine (HK.out _ HA2.out).mono ?_; rintro e w1 ⟨rfl, hb1⟩)
          go_ret
          exact ⟨rfl, HB.out.trans ((HA2.out.trans (hb1.mono HA2.out.size)).mono HB.out.size)⟩
        · have HR3 : Hid (R = M.allTwo M.samePart (xs.drop (k + 1)) (ys.drop (k + 1))) := HR2.out
          clear HR2
          go_wp2_with (go_at_call 13; refine (HK.out _ HA2.out).mono ?_; rintro e w1 ⟨rfl, hb1⟩)
          go_roundw
          case rel => exact ⟨k + 1, by omega, by go_num, HB.out.trans ((HA2.out.trans (hb1.mono HA2.out.size)).mono HB.out.size), HR3⟩
          case measure => simp [intOf]; omega
      · have hkl : k = xs.length := by omega
        have HR2 : Hid (R = true) := by
          rw [Hid, HR.out, List.drop_eq_nil_of_le (by omega), List.drop_eq_nil_of_le (by rw [HL.out]; omega)]; rfl
        clear HR
        subst hkl
        go_wp2
        go_ret
        exact ⟨by rw [HR2.out]; rfl, HB.out⟩
  · have hl : ((xs.length : Int) != (ys.length : Int)) = true := by simp; omega
    have HX : Hid (M.allTwo M.samePart xs ys = false) := parts_len xs ys hlen
    clear hlen h1 h2
    go_enter Tryz.func12, Tryz.ntmps12
    go_wp2
    go_ret
    exact ⟨by rw [HX.out]; rfl, Below.refl _ _⟩

end Go.Proofs.YtcpeeedmghbdhaaGreatDoor
