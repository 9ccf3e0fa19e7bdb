/-
  The contract of slices.EqualFunc at parts with the reference's SamePart. slices.Equal of a row with its own like: truth values, grants, integers. slices.EqualFunc of messages with their own like. The reference's SameFarm: a farm and its own like are the same.
-/
import Derived.Test.YtmlojlbmfceogaaPrtA
import Derived.Test.YtmlojlbmfceogaaSaA
import Derived.Test.YtmlojlbmfceogaaRefSame
import Derived.Test.YtmlojlbmfceogaaFmMM
import Derived.Test.YtmlojlbmfceogaaFmShelf
import Derived.Test.YtmlojlbmfceogaaPlEq
import Derived.Test.YtmlojlbmfceogaaPlEvOut

namespace Go.Proofs.Ytmlojlbmfceogaa
open Go Go.RowKit
set_option linter.unusedVariables false

theorem part_atR {w : World} {a : Option Addr} {c : Nat} {ps : List M.Prt} (h : PartsAt w (.slice a ps.length c) ps) (j : Nat) (hj : j < ps.length) :
    ∃ b off a1 a2 c1 c2, a = some ⟨b, off, none⟩ ∧ w.cell? ⟨b, off + j * 2, none⟩ = some (.slice a1 (ps.getD j M.nil).frags.length c1) ∧ w.cell? ⟨b, off + j * 2 + 1, none⟩ = some (.slice a2 (ps.getD j M.nil).defs.length c2)
      ∧ FragsAt w (.slice a1 (ps.getD j M.nil).frags.length c1) (ps.getD j M.nil).frags ∧ DefsAt w (.slice a2 (ps.getD j M.nil).defs.length c2) (ps.getD j M.nil).defs := by
  obtain ⟨cell, h1, h2⟩ := h
  obtain ⟨b, off, e, hc⟩ := h1.at j hj
  obtain ⟨hf, hd⟩ := h2 j hj
  have c0 := hc 0 (by decide)
  have c1 := hc 1 (by decide)
  have hf' := hf
  obtain ⟨cf, hs, _⟩ := hf'
  obtain ⟨a1, k1, e1, _⟩ := hs.form
  obtain ⟨a2, k2, e2, _⟩ := hd.1.form
  rw [e1] at hf c0
  rw [e2] at hd c1
  exact ⟨b, off, a1, a2, k1, k2, e, c0, c1, hf, hd⟩
theorem parts_stepR {xs ys : List M.Prt} {k : Nat} (hx : k < xs.length) (hy : k < ys.length) :
    M.allTwo M.samePart (xs.drop k) (ys.drop k) = (M.samePart (xs.getD k M.nil) (ys.getD k M.nil) && M.allTwo M.samePart (xs.drop (k + 1)) (ys.drop (k + 1))) := by
  rw [drop_getD xs M.nil k hx, drop_getD ys M.nil k hy]; rfl
theorem parts_lenR : ∀ (xs ys : List M.Prt), ¬ xs.length = ys.length → M.allTwo M.samePart xs ys = false
  | [], [], h => absurd rfl h
  | [], _ :: _, _ => rfl
  | _ :: _, [], _ => rfl
  | x :: xs, y :: ys, h => by
    have := parts_lenR xs ys (by simpa using h)
    show (_ && M.allTwo M.samePart xs ys) = false
    rw [this, Bool.and_false]

set_option maxHeartbeats 4000000 in
set_option maxRecDepth 100000 in
theorem equalPartsR_any (xs ys : List M.Prt) (a1 a2 : Option Addr) (c1 c2 : Nat) (w : World) (h1 : PartsAt w (.slice a1 xs.length c1) xs) (h2 : PartsAt w (.slice a2 ys.length c2) ys) :
    Calls Try.prog 11 #[.slice a1 xs.length c1, .slice a2 ys.length c2, .func (.func 44) #[] #[]] w fun e w' => e = .returned (.bool (M.allTwo M.samePart xs ys)) ∧ Below w.heap.size w w' := by
  have hx : xs.length ≤ maxLen := by obtain ⟨_, h, _⟩ := h1; obtain ⟨_, _, _, h⟩ := h.form; exact h
  have hy : ys.length ≤ maxLen := by obtain ⟨_, h, _⟩ := h2; obtain ⟨_, _, _, h⟩ := h.form; exact h
  unfold maxLen at hx hy
  by_cases hlen : xs.length = ys.length
  · have HX : Hid (M.allTwo M.samePart xs ys = M.allTwo M.samePart (xs.drop 0) (ys.drop 0)) := rfl
    generalize M.allTwo M.samePart xs ys = R at *
    have HL : Hid (ys.length = xs.length) := hlen.symm
    have HP : Hid (∀ W, Below w.heap.size w W → PartsAt W (.slice a1 xs.length c1) xs ∧ PartsAt W (.slice a2 ys.length c2) ys) := fun W hW => ⟨h1.later hW, h2.later hW⟩
    rw [← hlen] at hy ⊢
    clear hlen h1 h2
    go_enter Try.func11, Try.ntmps11
    go_wp2_with fail
    go_loopw [17] (fun s17 wr => ∃ (k : Nat), k ≤ xs.length ∧ s17 = .int .i64 k ∧ Hid (Below w.heap.size w wr) ∧ Hid (R = M.allTwo M.samePart (xs.drop k) (ys.drop k))) (fun s17 _ => xs.length - (intOf s17).toNat)
    case atStart => exact ⟨0, Nat.zero_le _, rfl, Below.refl _ _, HX⟩
    case round =>
      obtain ⟨k, hk, rfl, HB, HR⟩ := hrel
      clear HX
      by_cases hlt : k < xs.length
      · have hky : k < ys.length := by rw [HL.out]; exact hlt
        obtain ⟨b, off, p1, p2, d1, d2, rfl, e0, e1, hf, hd⟩ := part_atR (HP.out wr HB.out).1 k hlt
        obtain ⟨b', off', q1, q2, g1, g2, hae, e0', e1', hf', hd'⟩ := part_atR (HP.out wr HB.out).2 k hky
        subst hae
        have hkl : (k : Int) < (xs.length : Int) := by omega
        have hbr : b < wr.heap.size := World.block_lt_of_cell? _ _ e0
        have hbr' : b' < wr.heap.size := World.block_lt_of_cell? _ _ e0'
        have HR1 := HR.out
        rw [parts_stepR hlt hky] at HR1
        have HR2 : Hid _ := HR1
        have HK : Hid (∀ W, Below wr.heap.size wr W → Calls Try.prog 44 #[.agg #[.slice p1 (xs.getD k M.nil).frags.length d1, .slice p2 (xs.getD k M.nil).defs.length d2], .agg #[.slice q1 (ys.getD k M.nil).frags.length g1, .slice q2 (ys.getD k M.nil).defs.length g2]] W fun e w' => e = .returned (.bool (M.samePart (xs.getD k M.nil) (ys.getD k M.nil))) ∧ Below W.heap.size W w') := fun W hW => rsame_any _ _ _ _ _ _ _ _ _ _ _ _ W (hf.later hW) (hd.later hW) (hf'.later hW) (hd'.later hW)
        have hA1 : Below wr.heap.size wr (wr.alloc (.cells #[.slice p1 (xs.getD k M.nil).frags.length d1, .slice p2 (xs.getD k M.nil).defs.length d2] 44)) := (Below.refl _ _).alloc (Nat.le_refl _) _
        have hA2 : Below wr.heap.size wr ((wr.alloc (.cells #[.slice p1 (xs.getD k M.nil).frags.length d1, .slice p2 (xs.getD k M.nil).defs.length d2] 44)).alloc (.cells #[.slice q1 (ys.getD k M.nil).frags.length g1, .slice q2 (ys.getD k M.nil).defs.length g2] 44)) := hA1.alloc hA1.size _
        have HA2 : Hid _ := hA2
        clear HR HR1 hf hd hf' hd' hA1
        generalize M.samePart (xs.getD k M.nil) (ys.getD k M.nil) = sm at *
        generalize xs.getD k M.nil = x at *
        generalize ys.getD k M.nil = y at *
        cases sm
        · obtain rfl : R = false := HR2.out
          clear HR2
          go_wp2_with (go_at_call 44; refine (HK.out _ HA2.out).mono ?_; rintro e w1 ⟨rfl, hb1⟩)
          go_ret
          exact ⟨rfl, HB.out.trans ((HA2.out.trans (hb1.mono HA2.out.size)).mono HB.out.size)⟩
        · have HR3 : Hid (R = M.allTwo M.samePart (xs.drop (k + 1)) (ys.drop (k + 1))) := HR2.out
          clear HR2
          go_wp2_with (go_at_call 44; refine (HK.out _ HA2.out).mono ?_; rintro e w1 ⟨rfl, hb1⟩)
          go_roundw
          case rel => exact ⟨k + 1, by omega, by go_num, HB.out.trans ((HA2.out.trans (hb1.mono HA2.out.size)).mono HB.out.size), HR3⟩
          case measure => simp [intOf]; omega
      · have hkl : k = xs.length := by omega
        have HR2 : Hid (R = true) := by
          rw [Hid, HR.out, List.drop_eq_nil_of_le (by omega), List.drop_eq_nil_of_le (by rw [HL.out]; omega)]; rfl
        clear HR
        subst hkl
        go_wp2
        go_ret
        exact ⟨by rw [HR2.out]; rfl, HB.out⟩
  · have hl : ((xs.length : Int) != (ys.length : Int)) = true := by simp; omega
    have HX : Hid (M.allTwo M.samePart xs ys = false) := parts_lenR xs ys hlen
    clear hlen h1 h2
    go_enter Try.func11, Try.ntmps11
    go_wp2
    go_ret
    exact ⟨by rw [HX.out]; rfl, Below.refl _ _⟩

end Go.Proofs.Ytmlojlbmfceogaa

namespace Go.Proofs.Ytmlojlbmfceogaa
open Go Go.RowKit Go.Shelf
set_option linter.unusedVariables false

def sameGrt (a b : M.Grt) : Bool := a.worker == b.worker && a.till == b.till
theorem neqGrt : NeqAt Try.prog 78 (fun x => .agg (encGrt x).toArray) sameGrt := by
  refine ⟨fun x y w => ?_, GuardAt.agg _ (by kernel_rfl)⟩
  have u3 := Try.underlying3
  have a3 := Try.isAgg3
  have z3 := Try.sizeOf3
  have hS : Try.prog.underlying 78 = some (.struct (Try.prog.fieldsOf 78)) := by kernel_rfl
  have hp : Try.prog.stoodInHeld 78 = false := by kernel_rfl
  simp only [encGrt]
  rw [run_neq_struct, show (10000 : Nat) = 9999 + 1 from rfl, run_equalIn_agg w 9999 78 _ _ hS hp]
  simp only [Program.fieldsOf, Try.underlying78]
  go_simp
  by_cases h0 : x.worker = y.worker <;> by_cases h1 : x.till = y.till <;> simp [sameGrt, h0, h1]
theorem encGrt_at (n : M.Grt) (i : Nat) (v : Value) (h : (encGrt n)[i]? = some v) : i < 2 ∧ v = grtCell n i := by
  match i, h with
  | 0, h => simp [encGrt] at h; exact ⟨by omega, h.symm⟩
  | 1, h => simp [encGrt] at h; exact ⟨by omega, h.symm⟩
  | k + 2, h => simp [encGrt] at h
theorem allG_self : ∀ l : List M.Grt, M.allTwo sameGrt l l = true
  | [] => rfl
  | n :: l => by simp [M.allTwo, sameGrt, allG_self l]

set_option maxRecDepth 100000 in
theorem eqGrants_self (xs : List M.Grt) (a1 a2 : Option Addr) (c d : Nat) (w : World) (h1 : GrantsAt w (.slice a1 xs.length c) xs) (h2 : GrantsAt w (.slice a2 xs.length d) xs) :
    Calls Try.prog 46 #[.slice a1 xs.length c, .slice a2 xs.length d] w fun e w' => e = .returned (.bool true) ∧ Below w.heap.size w w' := by
  have hx : xs.length ≤ maxLen := by obtain ⟨_, _, _, h⟩ := SlAt.form h1; exact h
  by_cases h0 : xs.length = 0
  · rw [h0]
    clear h0 h1 h2 hx
    go_enter Try.func46, Try.ntmps46
    go_wp2_with fail
    refine wp_loop_rounds 1 ?_
    rw [rounds_succ]
    go_wp2
    go_ret
    exact ⟨rfl, Below.refl _ _⟩
  · obtain ⟨b1, o1, rfl, hc1⟩ : ∃ b off, a1 = some ⟨b, off, none⟩ ∧ ∀ j i, j < xs.length → i < 2 → w.cell? ⟨b, off + j * 2 + i, none⟩ = some (grtCell (xs.getD j M.grt0) i) := SlAt.all h1 (by omega)
    obtain ⟨b2, o2, rfl, hc2⟩ : ∃ b off, a2 = some ⟨b, off, none⟩ ∧ ∀ j i, j < xs.length → i < 2 → w.cell? ⟨b, off + j * 2 + i, none⟩ = some (grtCell (xs.getD j M.grt0) i) := SlAt.all h2 (by omega)
    have key := @AnyQ.slices_Equal Try.prog Try.eqGrant_ren M.Grt ⟨M.grt0⟩ Try.eqGrant 2 Try.isAgg78 Try.sizeOf78 encGrt (fun _ => rfl) sameGrt neqGrt b1 o1 xs.length c b2 o2 xs.length d xs xs w (Nat.le_refl _) (Nat.le_refl _) hx hx
      (fun j hj i v hv => by
        obtain ⟨hi, rfl⟩ := encGrt_at _ _ _ hv
        have := hc1 j i hj hi
        rw [this]
        simp [List.getElem!_eq_getElem?_getD, List.getD_eq_getElem?_getD])
      (fun j hj i v hv => by
        obtain ⟨hi, rfl⟩ := encGrt_at _ _ _ hv
        have := hc2 j i hj hi
        rw [this]
        simp [List.getElem!_eq_getElem?_getD, List.getD_eq_getElem?_getD])
    rw [List.take_length, allTwo_eq, allG_self] at key
    refine Calls.mono key fun e w' ⟨he, q, hw⟩ => ⟨he, ?_⟩
    rw [hw]
    exact below_drewN' _ _ _

set_option maxHeartbeats 1000000 in
set_option maxRecDepth 100000 in
theorem eqBools_self (xs : List Bool) (a1 a2 : Option Addr) (c1 c2 : Nat) (w : World) (h1 : BoolsAt w (.slice a1 xs.length c1) xs) (h2 : BoolsAt w (.slice a2 xs.length c2) xs) :
    Calls Try.prog 45 #[.slice a1 xs.length c1, .slice a2 xs.length c2] w fun e w' => e = .returned (.bool true) ∧ Below w.heap.size w w' := by
  have hx : xs.length ≤ maxLen := by obtain ⟨_, _, _, h⟩ := SlAt.form h1; exact h
  unfold maxLen at hx
  have HH : Hid (∀ W, Below w.heap.size w W → BoolsAt W (.slice a1 xs.length c1) xs ∧ BoolsAt W (.slice a2 xs.length c2) xs) := fun W hW => ⟨h1.later hW, h2.later hW⟩
  clear h1 h2
  go_enter Try.func45, Try.ntmps45
  go_wp2_with fail
  go_loopw [13] (fun s13 wr => ∃ (k : Nat), k ≤ xs.length ∧ s13 = .int .i64 k ∧ Hid (Below w.heap.size w wr)) (fun s13 _ => xs.length - (intOf s13).toNat)
  case atStart => exact ⟨0, Nat.zero_le _, rfl, Below.refl _ _⟩
  case round =>
    obtain ⟨k, hk, rfl, HB⟩ := hrel
    by_cases hlt : k < xs.length
    · obtain ⟨b, off, rfl, hc, hb⟩ := (HH.out _ HB.out).1.cell k hlt
      obtain ⟨b', off', rfl, hc', hb'⟩ := (HH.out _ HB.out).2.cell k hlt
      have hkl : (k : Int) < (xs.length : Int) := by omega
      generalize xs.getD k false = x at *
      cases x
      · go_wp2_with fail
        go_region
        all_goals
          go_wp2
          go_roundw
          case rel => exact ⟨k + 1, by omega, by go_num, HB.out.drew⟩
          case measure => simp [intOf]; omega
      · go_wp2_with fail
        go_region
        all_goals
          go_wp2
          go_roundw
          case rel => exact ⟨k + 1, by omega, by go_num, HB.out.drew⟩
          case measure => simp [intOf]; omega
    · obtain rfl : k = xs.length := by omega
      go_wp2
      go_ret
      exact ⟨rfl, HB.out⟩

set_option maxHeartbeats 1000000 in
set_option maxRecDepth 100000 in
theorem eqInts_self (xs : List Int) (a1 a2 : Option Addr) (c1 c2 : Nat) (w : World) (h1 : IntsAt w (.slice a1 xs.length c1) xs) (h2 : IntsAt w (.slice a2 xs.length c2) xs) :
    Calls Try.prog 47 #[.slice a1 xs.length c1, .slice a2 xs.length c2] w fun e w' => e = .returned (.bool true) ∧ Below w.heap.size w w' := by
  have hx : xs.length ≤ maxLen := by obtain ⟨_, _, _, h⟩ := SlAt.form h1; exact h
  unfold maxLen at hx
  have HH : Hid (∀ W, Below w.heap.size w W → IntsAt W (.slice a1 xs.length c1) xs ∧ IntsAt W (.slice a2 xs.length c2) xs) := fun W hW => ⟨h1.later hW, h2.later hW⟩
  clear h1 h2
  go_enter Try.func47, Try.ntmps47
  go_wp2_with fail
  go_loopw [13] (fun s13 wr => ∃ (k : Nat), k ≤ xs.length ∧ s13 = .int .i64 k ∧ Hid (Below w.heap.size w wr)) (fun s13 _ => xs.length - (intOf s13).toNat)
  case atStart => exact ⟨0, Nat.zero_le _, rfl, Below.refl _ _⟩
  case round =>
    obtain ⟨k, hk, rfl, HB⟩ := hrel
    by_cases hlt : k < xs.length
    · obtain ⟨b, off, rfl, hc, hb⟩ := (HH.out _ HB.out).1.cell k hlt
      obtain ⟨b', off', rfl, hc', hb'⟩ := (HH.out _ HB.out).2.cell k hlt
      have hkl : (k : Int) < (xs.length : Int) := by omega
      generalize xs.getD k 0 = x at *
      have hne : (x != x) = false := by simp
      go_wp2_with fail
      go_region
      all_goals
        go_wp2
        go_roundw
        case rel => exact ⟨k + 1, by omega, by go_num, HB.out.drew⟩
        case measure => simp [intOf]; omega
    · obtain rfl : k = xs.length := by omega
      go_wp2
      go_ret
      exact ⟨rfl, HB.out⟩

end Go.Proofs.Ytmlojlbmfceogaa

namespace Go.Proofs.Ytmlojlbmfceogaa
open Go Go.RowKit
set_option linter.unusedVariables false

set_option maxHeartbeats 4000000 in
set_option maxRecDepth 100000 in
theorem sameMsg_self (k w0 n : Int) (p : M.Prt) (a1 a2 a3 a4 : Option Addr) (c1 c2 c3 c4 : Nat) (w : World) (h1 : FragsAt w (.slice a1 p.frags.length c1) p.frags) (h2 : DefsAt w (.slice a2 p.defs.length c2) p.defs)
    (h3 : FragsAt w (.slice a3 p.frags.length c3) p.frags) (h4 : DefsAt w (.slice a4 p.defs.length c4) p.defs) :
    Calls Try.prog 49 #[.agg #[.int .i64 k, .int .i64 w0, .int .i64 n, .slice a1 p.frags.length c1, .slice a2 p.defs.length c2], .agg #[.int .i64 k, .int .i64 w0, .int .i64 n, .slice a3 p.frags.length c3, .slice a4 p.defs.length c4]] w fun e w' =>
      e = .returned (.bool true) ∧ Below w.heap.size w w' := by
  have hA : Below w.heap.size w ((w.alloc (.cells #[.int .i64 k, .int .i64 w0, .int .i64 n, .slice a1 p.frags.length c1, .slice a2 p.defs.length c2] 65)).alloc (.cells #[.int .i64 k, .int .i64 w0, .int .i64 n, .slice a3 p.frags.length c3, .slice a4 p.defs.length c4] 65)) := ((Below.refl _ _).alloc (Nat.le_refl _) _).alloc (by simp) _
  have KS : Hid (Calls Try.prog 44 #[.agg #[.slice a1 p.frags.length c1, .slice a2 p.defs.length c2], .agg #[.slice a3 p.frags.length c3, .slice a4 p.defs.length c4]] ((w.alloc (.cells #[.int .i64 k, .int .i64 w0, .int .i64 n, .slice a1 p.frags.length c1, .slice a2 p.defs.length c2] 65)).alloc (.cells #[.int .i64 k, .int .i64 w0, .int .i64 n, .slice a3 p.frags.length c3, .slice a4 p.defs.length c4] 65)) fun e w' => e = .returned (.bool true) ∧ Below w.heap.size w w') := by
    have := rsame_any p.frags p.frags p.defs p.defs _ _ _ _ _ _ _ _ _ (h1.later hA) (h2.later hA) (h3.later hA) (h4.later hA)
    rw [same_selfP ⟨_, _⟩] at this
    exact this.mono fun e w' ⟨j1, j2⟩ => ⟨j1, hA.trans (j2.mono hA.size)⟩
  clear h1 h2 h3 h4 hA
  generalize p.frags.length = m1 at *
  generalize p.defs.length = m2 at *
  go_enter Try.func49, Try.ntmps49
  go_wp2_with (go_at_call 44; refine KS.out.mono ?_; rintro e w1 ⟨rfl, hb1⟩)
  go_ret
  exact ⟨rfl, hb1⟩

set_option maxHeartbeats 4000000 in
set_option maxRecDepth 100000 in
theorem eqNet_self (xs : List M.Msg) (a1 a2 : Option Addr) (c1 c2 : Nat) (w : World) (h1 : NetAt w (.slice a1 xs.length c1) xs) (h2 : NetAt w (.slice a2 xs.length c2) xs) :
    Calls Try.prog 48 #[.slice a1 xs.length c1, .slice a2 xs.length c2, .func (.func 49) #[] #[]] w fun e w' => e = .returned (.bool true) ∧ Below w.heap.size w w' := by
  have hx : xs.length ≤ maxLen := by obtain ⟨_, h, _⟩ := h1; obtain ⟨_, _, _, h⟩ := h.form; exact h
  unfold maxLen at hx
  have HP : Hid (∀ W, Below w.heap.size w W → NetAt W (.slice a1 xs.length c1) xs ∧ NetAt W (.slice a2 xs.length c2) xs) := fun W hW => ⟨h1.later hW, h2.later hW⟩
  clear h1 h2
  go_enter Try.func48, Try.ntmps48
  go_wp2_with fail
  go_loopw [17] (fun s17 wr => ∃ (k : Nat), k ≤ xs.length ∧ s17 = .int .i64 k ∧ Hid (Below w.heap.size w wr)) (fun s17 _ => xs.length - (intOf s17).toNat)
  case atStart => exact ⟨0, Nat.zero_le _, rfl, Below.refl _ _⟩
  case round =>
    obtain ⟨k, hk, rfl, HB⟩ := hrel
    by_cases hlt : k < xs.length
    · obtain ⟨b, off, p1, d1, p2, d2, rfl, e0, e1, e2, e3, e4, hf, hd⟩ := (HP.out wr HB.out).1.cells k hlt
      obtain ⟨b', off', q1, g1, q2, g2, hae, e0', e1', e2', e3', e4', hf', hd'⟩ := (HP.out wr HB.out).2.cells k hlt
      subst hae
      have hkl : (k : Int) < (xs.length : Int) := by omega
      have hbr : b < wr.heap.size := World.block_lt_of_cell? _ _ e0
      have hbr' : b' < wr.heap.size := World.block_lt_of_cell? _ _ e0'
      generalize xs.getD k M.msg0 = m at *
      obtain ⟨mk, mw, mn, mp⟩ := m
      simp only at e0 e1 e2 e3 e4 e0' e1' e2' e3' e4' hf hd hf' hd'
      have HK : Hid (∀ W, Below wr.heap.size wr W → Calls Try.prog 49 #[.agg #[.int .i64 mk, .int .i64 mw, .int .i64 mn, .slice p1 mp.frags.length d1, .slice p2 mp.defs.length d2], .agg #[.int .i64 mk, .int .i64 mw, .int .i64 mn, .slice q1 mp.frags.length g1, .slice q2 mp.defs.length g2]] W fun e w' => e = .returned (.bool true) ∧ Below W.heap.size W w') := fun W hW => sameMsg_self mk mw mn mp _ _ _ _ _ _ _ _ W (hf.later hW) (hd.later hW) (hf'.later hW) (hd'.later hW)
      have hA1 : Below wr.heap.size wr (wr.alloc (.cells #[.int .i64 mk, .int .i64 mw, .int .i64 mn, .slice p1 mp.frags.length d1, .slice p2 mp.defs.length d2] 65)) := (Below.refl _ _).alloc (Nat.le_refl _) _
      have hA2 : Below wr.heap.size wr ((wr.alloc (.cells #[.int .i64 mk, .int .i64 mw, .int .i64 mn, .slice p1 mp.frags.length d1, .slice p2 mp.defs.length d2] 65)).alloc (.cells #[.int .i64 mk, .int .i64 mw, .int .i64 mn, .slice q1 mp.frags.length g1, .slice q2 mp.defs.length g2] 65)) := hA1.alloc hA1.size _
      have HA2 : Hid _ := hA2
      clear hf hd hf' hd' hA1 hA2
      generalize mp.frags.length = m1 at *
      generalize mp.defs.length = m2 at *
      go_wp2_with (go_at_call 49; refine (HK.out _ HA2.out).mono ?_; rintro e w1 ⟨rfl, hb1⟩)
      go_roundw
      case rel => exact ⟨k + 1, by omega, by go_num, HB.out.trans ((HA2.out.trans (hb1.mono HA2.out.size)).mono HB.out.size)⟩
      case measure => simp [intOf]; omega
    · obtain rfl : k = xs.length := by omega
      go_wp2
      go_ret
      exact ⟨rfl, HB.out⟩

end Go.Proofs.Ytmlojlbmfceogaa

namespace Go.Proofs.Ytmlojlbmfceogaa
open Go Go.RowKit
set_option linter.unusedVariables false

theorem all_selfR {α : Type} (eq : α → α → Bool) (h : ∀ x, eq x x = true) : ∀ l : List α, M.allTwo eq l l = true
  | [] => rfl
  | x :: l => by unfold M.allTwo; rw [h, all_selfR eq h l]; rfl

set_option maxHeartbeats 8000000 in
set_option maxRecDepth 100000 in
theorem sameFarm_self (f : M.Farm) (x y : Fd) (w : World) (hf : FarmAt w f x) (hg : FarmAt w f y) :
    Calls Try.prog 21 #[.agg #[.slice x.p f.parts.length x.pc, .slice x.l f.plan.length x.lc, .int .i64 f.now, .slice x.d f.done.length x.dc, .slice x.h f.got.length x.hc, .slice x.g f.grants.length x.gc, .slice x.k f.work.length x.kc, .slice x.n f.net.length x.nc], .agg #[.slice y.p f.parts.length y.pc, .slice y.l f.plan.length y.lc, .int .i64 f.now, .slice y.d f.done.length y.dc, .slice y.h f.got.length y.hc, .slice y.g f.grants.length y.gc, .slice y.k f.work.length y.kc, .slice y.n f.net.length y.nc]] w fun e w' => e = .returned (.bool true) ∧ Below w.heap.size w w' := by
  have hA : Below w.heap.size w ((w.alloc (.cells #[.slice x.p f.parts.length x.pc, .slice x.l f.plan.length x.lc, .int .i64 f.now, .slice x.d f.done.length x.dc, .slice x.h f.got.length x.hc, .slice x.g f.grants.length x.gc, .slice x.k f.work.length x.kc, .slice x.n f.net.length x.nc] 29)).alloc (.cells #[.slice y.p f.parts.length y.pc, .slice y.l f.plan.length y.lc, .int .i64 f.now, .slice y.d f.done.length y.dc, .slice y.h f.got.length y.hc, .slice y.g f.grants.length y.gc, .slice y.k f.work.length y.kc, .slice y.n f.net.length y.nc] 29)) := ((Below.refl _ _).alloc (Nat.le_refl _) _).alloc (by simp) _
  have h0 : ((w.alloc (.cells #[.slice x.p f.parts.length x.pc, .slice x.l f.plan.length x.lc, .int .i64 f.now, .slice x.d f.done.length x.dc, .slice x.h f.got.length x.hc, .slice x.g f.grants.length x.gc, .slice x.k f.work.length x.kc, .slice x.n f.net.length x.nc] 29)).alloc (.cells #[.slice y.p f.parts.length y.pc, .slice y.l f.plan.length y.lc, .int .i64 f.now, .slice y.d f.done.length y.dc, .slice y.h f.got.length y.hc, .slice y.g f.grants.length y.gc, .slice y.k f.work.length y.kc, .slice y.n f.net.length y.nc] 29)).heap[w.heap.size]? = some (.cells #[.slice x.p f.parts.length x.pc, .slice x.l f.plan.length x.lc, .int .i64 f.now, .slice x.d f.done.length x.dc, .slice x.h f.got.length x.hc, .slice x.g f.grants.length x.gc, .slice x.k f.work.length x.kc, .slice x.n f.net.length x.nc] 29 (0, 0)) := (heap_alloc_old _ _ (by simp)).trans (heap_alloc_new _ _)
  have h1 : ((w.alloc (.cells #[.slice x.p f.parts.length x.pc, .slice x.l f.plan.length x.lc, .int .i64 f.now, .slice x.d f.done.length x.dc, .slice x.h f.got.length x.hc, .slice x.g f.grants.length x.gc, .slice x.k f.work.length x.kc, .slice x.n f.net.length x.nc] 29)).alloc (.cells #[.slice y.p f.parts.length y.pc, .slice y.l f.plan.length y.lc, .int .i64 f.now, .slice y.d f.done.length y.dc, .slice y.h f.got.length y.hc, .slice y.g f.grants.length y.gc, .slice y.k f.work.length y.kc, .slice y.n f.net.length y.nc] 29)).heap[w.heap.size + 1]? = some (.cells #[.slice y.p f.parts.length y.pc, .slice y.l f.plan.length y.lc, .int .i64 f.now, .slice y.d f.done.length y.dc, .slice y.h f.got.length y.hc, .slice y.g f.grants.length y.gc, .slice y.k f.work.length y.kc, .slice y.n f.net.length y.nc] 29 (0, 0)) := by
    have := heap_alloc_new (w.alloc (.cells #[.slice x.p f.parts.length x.pc, .slice x.l f.plan.length x.lc, .int .i64 f.now, .slice x.d f.done.length x.dc, .slice x.h f.got.length x.hc, .slice x.g f.grants.length x.gc, .slice x.k f.work.length x.kc, .slice x.n f.net.length x.nc] 29)) (.cells #[.slice y.p f.parts.length y.pc, .slice y.l f.plan.length y.lc, .int .i64 f.now, .slice y.d f.done.length y.dc, .slice y.h f.got.length y.hc, .slice y.g f.grants.length y.gc, .slice y.k f.work.length y.kc, .slice y.n f.net.length y.nc] 29)
    simpa using this
  have HV : Hid (∀ W, Below ((w.alloc (.cells #[.slice x.p f.parts.length x.pc, .slice x.l f.plan.length x.lc, .int .i64 f.now, .slice x.d f.done.length x.dc, .slice x.h f.got.length x.hc, .slice x.g f.grants.length x.gc, .slice x.k f.work.length x.kc, .slice x.n f.net.length x.nc] 29)).alloc (.cells #[.slice y.p f.parts.length y.pc, .slice y.l f.plan.length y.lc, .int .i64 f.now, .slice y.d f.done.length y.dc, .slice y.h f.got.length y.hc, .slice y.g f.grants.length y.gc, .slice y.k f.work.length y.kc, .slice y.n f.net.length y.nc] 29)).heap.size ((w.alloc (.cells #[.slice x.p f.parts.length x.pc, .slice x.l f.plan.length x.lc, .int .i64 f.now, .slice x.d f.done.length x.dc, .slice x.h f.got.length x.hc, .slice x.g f.grants.length x.gc, .slice x.k f.work.length x.kc, .slice x.n f.net.length x.nc] 29)).alloc (.cells #[.slice y.p f.parts.length y.pc, .slice y.l f.plan.length y.lc, .int .i64 f.now, .slice y.d f.done.length y.dc, .slice y.h f.got.length y.hc, .slice y.g f.grants.length y.gc, .slice y.k f.work.length y.kc, .slice y.n f.net.length y.nc] 29)) W → (W.heap[w.heap.size]? = some (.cells #[.slice x.p f.parts.length x.pc, .slice x.l f.plan.length x.lc, .int .i64 f.now, .slice x.d f.done.length x.dc, .slice x.h f.got.length x.hc, .slice x.g f.grants.length x.gc, .slice x.k f.work.length x.kc, .slice x.n f.net.length x.nc] 29 (0, 0)) ∧ W.heap[w.heap.size + 1]? = some (.cells #[.slice y.p f.parts.length y.pc, .slice y.l f.plan.length y.lc, .int .i64 f.now, .slice y.d f.done.length y.dc, .slice y.h f.got.length y.hc, .slice y.g f.grants.length y.gc, .slice y.k f.work.length y.kc, .slice y.n f.net.length y.nc] 29 (0, 0))) ∧ FarmAt W f x ∧ FarmAt W f y ∧ Below w.heap.size w W) := fun W hW => by
    have h2 := hA.trans (hW.mono hA.size)
    exact ⟨⟨(hW.block _ (Array.getElem?_eq_some_iff.1 h0).1).trans h0, (hW.block _ (Array.getElem?_eq_some_iff.1 h1).1).trans h1⟩, hf.later h2, hg.later h2, h2⟩
  clear hf hg hA h0 h1
  go_enter Try.func21, Try.ntmps21
  go_upto_region 1 with fail
  obtain ⟨b0, hb0⟩ : ∃ b0, b0 = w.heap.size := ⟨_, rfl⟩
  obtain ⟨b1, hb1⟩ : ∃ b1, b1 = w.heap.size + 1 := ⟨_, rfl⟩
  have HX : Hid (∀ W, Below w.heap.size w W → Below w.heap.size w W) := fun _ h => h
  obtain ⟨V0, hV0⟩ : ∃ V0, V0 = ((w.alloc (.cells #[.slice x.p f.parts.length x.pc, .slice x.l f.plan.length x.lc, .int .i64 f.now, .slice x.d f.done.length x.dc, .slice x.h f.got.length x.hc, .slice x.g f.grants.length x.gc, .slice x.k f.work.length x.kc, .slice x.n f.net.length x.nc] 29)).alloc (.cells #[.slice y.p f.parts.length y.pc, .slice y.l f.plan.length y.lc, .int .i64 f.now, .slice y.d f.done.length y.dc, .slice y.h f.got.length y.hc, .slice y.g f.grants.length y.gc, .slice y.k f.work.length y.kc, .slice y.n f.net.length y.nc] 29)) := ⟨_, rfl⟩
  rw [← hV0] at HV ⊢
  clear hV0
  have HO : Hid (∀ W, Below V0.heap.size V0 W → Below w.heap.size w W) := fun W hW => (HV.out W hW).2.2.2
  have HV2 : Hid (∀ W, Below V0.heap.size V0 W → (W.heap[b0]? = some (.cells #[.slice x.p f.parts.length x.pc, .slice x.l f.plan.length x.lc, .int .i64 f.now, .slice x.d f.done.length x.dc, .slice x.h f.got.length x.hc, .slice x.g f.grants.length x.gc, .slice x.k f.work.length x.kc, .slice x.n f.net.length x.nc] 29 (0, 0)) ∧ W.heap[b1]? = some (.cells #[.slice y.p f.parts.length y.pc, .slice y.l f.plan.length y.lc, .int .i64 f.now, .slice y.d f.done.length y.dc, .slice y.h f.got.length y.hc, .slice y.g f.grants.length y.gc, .slice y.k f.work.length y.kc, .slice y.n f.net.length y.nc] 29 (0, 0))) ∧ FarmAt W f x ∧ FarmAt W f y) := fun W hW => by rw [hb0, hb1]; exact ⟨(HV.out W hW).1, (HV.out W hW).2.1, (HV.out W hW).2.2.1⟩
  rw [← hb1, ← hb0]
  clear HV hb0 hb1 HX
  have hb : Below V0.heap.size V0 V0 := Below.refl _ _
  have K0 : Hid (∀ W, Below V0.heap.size V0 W → Calls Try.prog 11 #[.slice x.p f.parts.length x.pc, .slice y.p f.parts.length y.pc, .func (.func 44) #[] #[]] W fun e w' => e = .returned (.bool true) ∧ Below W.heap.size W w') := fun W hW => by
    obtain ⟨_, hx, hy⟩ := HV2.out W hW
    have := equalPartsR_any f.parts f.parts _ _ _ _ W hx.parts hy.parts
    rw [all_selfR _ same_selfP] at this
    exact this
  have K1 : Hid (∀ W, Below V0.heap.size V0 W → Calls Try.prog 10 #[.slice x.l f.plan.length x.lc, .slice y.l f.plan.length y.lc] W fun e w' => e = .returned (.bool true) ∧ Below W.heap.size W w') := fun W hW => by
    obtain ⟨_, hx, hy⟩ := HV2.out W hW
    have := eqNodes_any f.plan f.plan _ _ _ _ W hx.plan hy.plan
    rw [sameNd_self] at this
    exact this
  have K2 : Hid (∀ W, Below V0.heap.size V0 W → Calls Try.prog 45 #[.slice x.d f.done.length x.dc, .slice y.d f.done.length y.dc] W fun e w' => e = .returned (.bool true) ∧ Below W.heap.size W w') := fun W hW => by
    obtain ⟨_, hx, hy⟩ := HV2.out W hW
    exact eqBools_self f.done _ _ _ _ W hx.done hy.done
  have K3 : Hid (∀ W, Below V0.heap.size V0 W → Calls Try.prog 11 #[.slice x.h f.got.length x.hc, .slice y.h f.got.length y.hc, .func (.func 44) #[] #[]] W fun e w' => e = .returned (.bool true) ∧ Below W.heap.size W w') := fun W hW => by
    obtain ⟨_, hx, hy⟩ := HV2.out W hW
    have := equalPartsR_any f.got f.got _ _ _ _ W hx.got hy.got
    rw [all_selfR _ same_selfP] at this
    exact this
  have K4 : Hid (∀ W, Below V0.heap.size V0 W → Calls Try.prog 46 #[.slice x.g f.grants.length x.gc, .slice y.g f.grants.length y.gc] W fun e w' => e = .returned (.bool true) ∧ Below W.heap.size W w') := fun W hW => by
    obtain ⟨_, hx, hy⟩ := HV2.out W hW
    exact eqGrants_self f.grants _ _ _ _ W hx.grants hy.grants
  have K5 : Hid (∀ W, Below V0.heap.size V0 W → Calls Try.prog 47 #[.slice x.k f.work.length x.kc, .slice y.k f.work.length y.kc] W fun e w' => e = .returned (.bool true) ∧ Below W.heap.size W w') := fun W hW => by
    obtain ⟨_, hx, hy⟩ := HV2.out W hW
    exact eqInts_self f.work _ _ _ _ W hx.work hy.work
  have K6 : Hid (∀ W, Below V0.heap.size V0 W → Calls Try.prog 48 #[.slice x.n f.net.length x.nc, .slice y.n f.net.length y.nc, .func (.func 49) #[] #[]] W fun e w' => e = .returned (.bool true) ∧ Below W.heap.size W w') := fun W hW => by
    obtain ⟨_, hx, hy⟩ := HV2.out W hW
    exact eqNet_self f.net _ _ _ _ W hx.net hy.net
  obtain ⟨⟨i0, i1⟩, -, -⟩ := HV2.out V0 hb
  have c0 : V0.cell? ⟨b0, 0, none⟩ = some (.slice x.p f.parts.length x.pc) := cellB i0 0
  have g0 : V0.cell? ⟨b1, 0, none⟩ = some (.slice y.p f.parts.length y.pc) := cellB i1 0
  have l0 : b0 < V0.heap.size := (Array.getElem?_eq_some_iff.1 i0).1
  have l1 : b1 < V0.heap.size := (Array.getElem?_eq_some_iff.1 i1).1
  clear i0 i1
  go_wp2_with (go_at_call 11; refine (K0.out _ hb).mono ?_; rintro e V1 ⟨rfl, hb2⟩; refine Hid.out ?_)
  refine Lib.hid ?_
  replace hb := hb.trans (hb2.mono hb.size)
  clear hb2 l0 l1 K0 c0 g0
  obtain ⟨⟨i0, i1⟩, -, -⟩ := HV2.out V1 hb
  have c1 : V1.cell? ⟨b0, 1, none⟩ = some (.slice x.l f.plan.length x.lc) := cellB i0 1
  have g1 : V1.cell? ⟨b1, 1, none⟩ = some (.slice y.l f.plan.length y.lc) := cellB i1 1
  have l0 : b0 < V1.heap.size := (Array.getElem?_eq_some_iff.1 i0).1
  have l1 : b1 < V1.heap.size := (Array.getElem?_eq_some_iff.1 i1).1
  clear i0 i1
  go_wp2_with (go_at_call 10; refine (K1.out _ hb).mono ?_; rintro e V2 ⟨rfl, hb2⟩; refine Hid.out ?_)
  refine Lib.hid ?_
  replace hb := hb.trans (hb2.mono hb.size)
  clear hb2 l0 l1 K1 c1 g1
  obtain ⟨⟨i0, i1⟩, -, -⟩ := HV2.out V2 hb
  have c2 : V2.cell? ⟨b0, 2, none⟩ = some (.int .i64 f.now) := cellB i0 2
  have g2 : V2.cell? ⟨b1, 2, none⟩ = some (.int .i64 f.now) := cellB i1 2
  have c3 : V2.cell? ⟨b0, 3, none⟩ = some (.slice x.d f.done.length x.dc) := cellB i0 3
  have g3 : V2.cell? ⟨b1, 3, none⟩ = some (.slice y.d f.done.length y.dc) := cellB i1 3
  have l0 : b0 < V2.heap.size := (Array.getElem?_eq_some_iff.1 i0).1
  have l1 : b1 < V2.heap.size := (Array.getElem?_eq_some_iff.1 i1).1
  clear i0 i1
  go_wp2_with (go_at_call 45; refine (K2.out _ hb).mono ?_; rintro e V3 ⟨rfl, hb2⟩; refine Hid.out ?_)
  refine Lib.hid ?_
  replace hb := hb.trans (hb2.mono hb.size)
  clear hb2 l0 l1 K2 c2 g2 c3 g3
  obtain ⟨⟨i0, i1⟩, -, -⟩ := HV2.out V3 hb
  have c4 : V3.cell? ⟨b0, 4, none⟩ = some (.slice x.h f.got.length x.hc) := cellB i0 4
  have g4 : V3.cell? ⟨b1, 4, none⟩ = some (.slice y.h f.got.length y.hc) := cellB i1 4
  have l0 : b0 < V3.heap.size := (Array.getElem?_eq_some_iff.1 i0).1
  have l1 : b1 < V3.heap.size := (Array.getElem?_eq_some_iff.1 i1).1
  clear i0 i1
  go_wp2_with (go_at_call 11; refine (K3.out _ hb).mono ?_; rintro e V4 ⟨rfl, hb2⟩; refine Hid.out ?_)
  refine Lib.hid ?_
  replace hb := hb.trans (hb2.mono hb.size)
  clear hb2 l0 l1 K3 c4 g4
  obtain ⟨⟨i0, i1⟩, -, -⟩ := HV2.out V4 hb
  have c5 : V4.cell? ⟨b0, 5, none⟩ = some (.slice x.g f.grants.length x.gc) := cellB i0 5
  have g5 : V4.cell? ⟨b1, 5, none⟩ = some (.slice y.g f.grants.length y.gc) := cellB i1 5
  have l0 : b0 < V4.heap.size := (Array.getElem?_eq_some_iff.1 i0).1
  have l1 : b1 < V4.heap.size := (Array.getElem?_eq_some_iff.1 i1).1
  clear i0 i1
  go_wp2_with (go_at_call 46; refine (K4.out _ hb).mono ?_; rintro e V5 ⟨rfl, hb2⟩; refine Hid.out ?_)
  refine Lib.hid ?_
  replace hb := hb.trans (hb2.mono hb.size)
  clear hb2 l0 l1 K4 c5 g5
  obtain ⟨⟨i0, i1⟩, -, -⟩ := HV2.out V5 hb
  have c6 : V5.cell? ⟨b0, 6, none⟩ = some (.slice x.k f.work.length x.kc) := cellB i0 6
  have g6 : V5.cell? ⟨b1, 6, none⟩ = some (.slice y.k f.work.length y.kc) := cellB i1 6
  have l0 : b0 < V5.heap.size := (Array.getElem?_eq_some_iff.1 i0).1
  have l1 : b1 < V5.heap.size := (Array.getElem?_eq_some_iff.1 i1).1
  clear i0 i1
  go_wp2_with (go_at_call 47; refine (K5.out _ hb).mono ?_; rintro e V6 ⟨rfl, hb2⟩; refine Hid.out ?_)
  refine Lib.hid ?_
  replace hb := hb.trans (hb2.mono hb.size)
  clear hb2 l0 l1 K5 c6 g6
  obtain ⟨⟨i0, i1⟩, -, -⟩ := HV2.out V6 hb
  have c7 : V6.cell? ⟨b0, 7, none⟩ = some (.slice x.n f.net.length x.nc) := cellB i0 7
  have g7 : V6.cell? ⟨b1, 7, none⟩ = some (.slice y.n f.net.length y.nc) := cellB i1 7
  have l0 : b0 < V6.heap.size := (Array.getElem?_eq_some_iff.1 i0).1
  have l1 : b1 < V6.heap.size := (Array.getElem?_eq_some_iff.1 i1).1
  clear i0 i1
  go_wp2_with (go_at_call 48; refine (K6.out _ hb).mono ?_; rintro e V7 ⟨rfl, hb2⟩)
  replace hb := hb.trans (hb2.mono hb.size)
  clear hb2 l0 l1 K6 c7 g7
  go_ret
  exact ⟨rfl, HO.out _ hb⟩

end Go.Proofs.Ytmlojlbmfceogaa
