/-
  The contract of plan.Check.
-/
import Derived.Test.YtohcimggpmcaeaaPlOrder
namespace Go.Proofs.Ytohcimggpmcaeaa
open Go Go.RowKit
set_option linter.unusedVariables false

theorem fitsFrom_step (parts : Int) (l : List M.Nd) (k : Nat) (h : k < l.length) : M.fitsFrom parts k (l.drop k) = (M.fits (l.getD k M.nd0) k parts && M.fitsFrom parts ((k + 1 : Nat) : Int) (l.drop (k + 1))) := by
  rw [drop_getD l M.nd0 k h]; rfl

set_option maxHeartbeats 4000000 in
set_option maxRecDepth 100000 in
theorem planCheck_any (l : List M.Nd) (parts : Int) (a : Option Addr) (c : Nat) (w : World) (hn : NodesAt w (.slice a l.length c) l) :
    Calls Try.prog 8 #[.slice a l.length c, .int .i64 parts] w fun e w' => e = .returned (.int .i64 (M.checkPlan l parts)) ∧ Below w.heap.size w w' := by
  have hlm : l.length ≤ maxLen := hn.small
  have KF : Hid (Calls Try.prog 18 #[.int .i64 parts] w fun e w' => e = .returned (.bool (M.fewParts parts)) ∧ w = w') := (fewParts_any parts w).mono fun e w' ⟨h1, h2⟩ => ⟨h1, h2.symm⟩
  have HX : Hid (M.checkPlan l parts = if M.fewParts parts = false then 3 else if 23 < l.length then 2 else if l.length = 0 then 4 else if M.fitsFrom parts 0 l = false then 3 else if M.isTree l = true ∧ M.inOrder l parts = true then 0 else 4) := rfl
  generalize M.checkPlan l parts = R at *
  cases hp : M.fewParts parts
  · have HR : Hid (R = 3) := by rw [Hid, HX.out, if_pos hp]
    rw [hp] at KF
    go_enter Try.func8, Try.ntmps8
    go_wp2_with (go_at_call 18; refine KF.out.mono ?_; rintro e w1 ⟨rfl, rfl⟩)
    go_ret
    exact ⟨ret_int HR.out.symm, Below.refl _ _⟩
  rw [hp] at KF
  have HX := HX.out
  rw [if_neg (by rw [hp]; simp)] at HX
  by_cases h23 : 23 < l.length
  · have HR : Hid (R = 2) := by rw [Hid, HX, if_pos h23]
    have h23' : (23 : Int) < (l.length : Int) := by omega
    clear HX h23
    go_enter Try.func8, Try.ntmps8
    go_wp2_with (go_at_call 18; refine KF.out.mono ?_; rintro e w1 ⟨rfl, rfl⟩)
    go_ret
    exact ⟨ret_int HR.out.symm, Below.refl _ _⟩
  rw [if_neg h23] at HX
  have h23' : ¬ ((23 : Int) < (l.length : Int)) := by omega
  by_cases h0 : l.length = 0
  · have HR : Hid (R = 4) := by rw [Hid, HX, if_pos h0]
    have h0' : ((l.length : Int) == 0) = true := by rw [beq_iff_eq]; omega
    clear HX h0
    generalize l.length = n at *
    go_enter Try.func8, Try.ntmps8
    go_wp2_with (go_at_call 18; refine KF.out.mono ?_; rintro e w1 ⟨rfl, rfl⟩)
    go_ret
    exact ⟨ret_int HR.out.symm, Below.refl _ _⟩
  rw [if_neg h0] at HX
  have h0' : ((l.length : Int) == 0) = false := by rw [beq_eq_false_iff_ne]; omega
  have HX : Hid (R = if M.fitsFrom parts 0 l = false then 3 else if M.isTree l = true ∧ M.inOrder l parts = true then 0 else 4) := HX
  have HK : Hid (∀ W, Below w.heap.size w W → NodesAt W (.slice a l.length c) l) := fun W hW => hn.later hW
  have Hn : Hid (0 < l.length ∧ l.length ≤ 23) := ⟨by omega, by omega⟩
  clear h0 h23 hn
  go_enter Try.func8, Try.ntmps8
  go_wp2_with (go_at_call 18; refine KF.out.mono ?_; rintro e w1 ⟨rfl, rfl⟩)
  go_loopw [21] (fun s21 wr => ∃ (k : Nat), k ≤ l.length ∧ s21 = .int .i64 k ∧ Hid (M.fitsFrom parts 0 l = M.fitsFrom parts k (l.drop k)) ∧ Hid (Below w.heap.size w wr)) (fun s21 _ => l.length - (intOf s21).toNat)
  case atStart => exact ⟨0, Nat.zero_le _, rfl, rfl, Below.refl _ _⟩
  case round =>
    obtain ⟨k, hk, rfl, HF, HB⟩ := hrel
    have hw0 : w.heap.size ≤ wr.heap.size := HB.out.size
    by_cases hlt : k < l.length
    · obtain ⟨b, off, rfl, e0, e1, e2⟩ := (HK.out wr HB.out).cells k hlt
      have HF1 : Hid (M.fitsFrom parts 0 l = (M.fits (l.getD k M.nd0) k parts && M.fitsFrom parts ((k + 1 : Nat) : Int) (l.drop (k + 1)))) := by rw [Hid, HF.out, fitsFrom_step parts l k hlt]
      have hkl : (k : Int) < (l.length : Int) := by omega
      have hbr : b < wr.heap.size := World.block_lt_of_cell? _ _ e0
      have hk23 : (k : Int) < 23 := by have := Hn.out; omega
      clear HF
      generalize l.getD k M.nd0 = n at *
      obtain ⟨x, y, z⟩ := n
      simp only at e0 e1 e2
      have KT : Hid (Calls Try.prog 23 #[.agg #[.int .i64 x, .int .i64 y, .int .i64 z], .int .i64 k, .int .i64 parts] (wr.alloc (.cells #[.int .i64 x, .int .i64 y, .int .i64 z] 32)) fun e w' => e = .returned (.bool (M.fits ⟨x, y, z⟩ k parts)) ∧ Below (wr.alloc (.cells #[.int .i64 x, .int .i64 y, .int .i64 z] 32)).heap.size (wr.alloc (.cells #[.int .i64 x, .int .i64 y, .int .i64 z] 32)) w') := fits_any x y z k parts _
      have HBA : Hid (Below w.heap.size w (wr.alloc (.cells #[.int .i64 x, .int .i64 y, .int .i64 z] 32))) := HB.out.alloc hw0 _
      cases hft : M.fits ⟨x, y, z⟩ k parts
      · have HR : Hid (R = 3) := by rw [Hid, HX.out, HF1.out, hft]; rfl
        rw [hft] at KT
        go_wp2_with (go_at_call 23; refine KT.out.mono ?_; rintro e w1 ⟨rfl, hb1⟩)
        go_ret
        exact ⟨ret_int HR.out.symm, HBA.out.trans (hb1.mono HBA.out.size)⟩
      · have HF2 : Hid (M.fitsFrom parts 0 l = M.fitsFrom parts ((k + 1 : Nat) : Int) (l.drop (k + 1))) := by rw [Hid, HF1.out, hft]; rfl
        rw [hft] at KT
        clear HF1
        go_wp2_with (go_at_call 23; refine KT.out.mono ?_; rintro e w1 ⟨rfl, hb1⟩)
        go_roundw
        case rel => exact ⟨k + 1, by omega, by go_num, HF2, HBA.out.trans (hb1.mono HBA.out.size)⟩
        case measure => simp [intOf]; omega
    · have hkl : k = l.length := by omega
      have HF1 : Hid (M.fitsFrom parts 0 l = true) := by
        rw [Hid, HF.out, hkl, List.drop_eq_nil_of_le (Nat.le_refl _)]; rfl
      have hbe : Behind l := behind_of HF1.out
      have HX2 : Hid (R = if M.isTree l = true ∧ M.inOrder l parts = true then 0 else 4) := by rw [Hid, HX.out, if_neg (by rw [HF1.out]; simp)]
      have KT : Hid (Calls Try.prog 24 #[.slice a l.length c] wr fun e w' => e = .returned (.bool (M.isTree l)) ∧ Below wr.heap.size wr w') := isTree_any l a c wr (HK.out wr HB.out) Hn.out.2 Hn.out.1 hbe
      have KO : Hid (∀ W, Below wr.heap.size wr W → Calls Try.prog 25 #[.slice a l.length c, .int .i64 parts] W fun e w' => e = .returned (.bool (M.inOrder l parts)) ∧ Below W.heap.size W w') := fun W hW => inOrder_any l parts a c W ((HK.out wr HB.out).later hW) Hn.out.2 Hn.out.1 hbe
      clear HF HX hbe
      subst hkl
      cases ht : M.isTree l
      · have HR : Hid (R = 4) := by rw [Hid, HX2.out, ht]; simp
        rw [ht] at KT
        go_wp2_with (go_at_call 24; refine KT.out.mono ?_; rintro e w1 ⟨rfl, hb1⟩)
        go_ret
        exact ⟨ret_int HR.out.symm, HB.out.trans (hb1.mono hw0)⟩
      · rw [ht] at KT
        cases ho : M.inOrder l parts
        · have HR : Hid (R = 4) := by rw [Hid, HX2.out, ho]; simp
          rw [ho] at KO
          go_wp2_with (first | (go_at_call 24; refine KT.out.mono ?_; rintro e w1 ⟨rfl, hb1⟩) | (go_at_call 25; refine (KO.out _ hb1).mono ?_; rintro e w2 ⟨rfl, hb2⟩))
          go_ret
          exact ⟨ret_int HR.out.symm, HB.out.trans ((hb1.trans (hb2.mono hb1.size)).mono hw0)⟩
        · have HR : Hid (R = 0) := by rw [Hid, HX2.out, ht, ho]; simp
          rw [ho] at KO
          go_wp2_with (first | (go_at_call 24; refine KT.out.mono ?_; rintro e w1 ⟨rfl, hb1⟩) | (go_at_call 25; refine (KO.out _ hb1).mono ?_; rintro e w2 ⟨rfl, hb2⟩))
          go_ret
          exact ⟨ret_int HR.out.symm, HB.out.trans ((hb1.trans (hb2.mono hb1.size)).mono hw0)⟩

end Go.Proofs.Ytohcimggpmcaeaa
