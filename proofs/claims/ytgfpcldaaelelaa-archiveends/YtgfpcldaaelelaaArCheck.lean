/-
  The contracts of archive.Check, checkItem, checkFirst.
-/
import Derived.Test.YtgfpcldaaelelaaArSearch
namespace Go.Proofs.Ytgfpcldaaelelaa
open Go Go.RowKit
set_option linter.unusedVariables false

/-- items in a slice -/
def ItemsAt (w : World) (v : Value) (its : List M.Itm) : Prop :=
  ∃ cell, SlAt w v 2 its.length cell ∧ ∀ j, j < its.length → cell j 0 = .bool (its.getD j ⟨false, []⟩).arch ∧ ∃ a c, cell j 1 = .slice a (its.getD j ⟨false, []⟩).parts.length c ∧ PartsAt w (.slice a (its.getD j ⟨false, []⟩).parts.length c) (its.getD j ⟨false, []⟩).parts
theorem ItemsAt.later {w w' : World} {v : Value} {its : List M.Itm} (h : ItemsAt w v its) (hb : Below w.heap.size w w') : ItemsAt w' v its := by
  obtain ⟨cell, h1, h2⟩ := h
  refine ⟨cell, h1.later hb, fun j hj => ?_⟩
  obtain ⟨e0, a, c, e1, hp⟩ := h2 j hj
  exact ⟨e0, a, c, e1, hp.later hb⟩
theorem item_at {w : World} {a : Option Addr} {c : Nat} {its : List M.Itm} (h : ItemsAt w (.slice a its.length c) its) (j : Nat) (hj : j < its.length) :
    ∃ b off aP cP, a = some ⟨b, off, none⟩ ∧ w.cell? ⟨b, off + j * 2, none⟩ = some (.bool (its.getD j ⟨false, []⟩).arch) ∧ w.cell? ⟨b, off + j * 2 + 1, none⟩ = some (.slice aP (its.getD j ⟨false, []⟩).parts.length cP)
      ∧ PartsAt w (.slice aP (its.getD j ⟨false, []⟩).parts.length cP) (its.getD j ⟨false, []⟩).parts := by
  obtain ⟨cell, h1, h2⟩ := h
  obtain ⟨b, off, e, hc⟩ := h1.at j hj
  obtain ⟨e0, aP, cP, e1, hp⟩ := h2 j hj
  have c0 := hc 0 (by decide)
  have c1 := hc 1 (by decide)
  rw [e0] at c0
  rw [e1] at c1
  exact ⟨b, off, aP, cP, e, c0, c1, hp⟩

theorem checkParts_drop (l : List M.Prt) (k : Nat) (h : k < l.length) : M.checkParts (l.drop k) = if M.checkPart (l.getD k M.nil) = 0 then M.checkParts (l.drop (k + 1)) else M.checkPart (l.getD k M.nil) := by
  rw [drop_getD l M.nil k h]; rfl
theorem checkItems_drop (l : List M.Itm) (k : Nat) (h : k < l.length) : M.checkItems1 (l.drop k) = if M.checkItem (l.getD k ⟨false, []⟩) = 0 then M.checkItems1 (l.drop (k + 1)) else M.checkItem (l.getD k ⟨false, []⟩) := by
  rw [drop_getD l ⟨false, []⟩ k h]; rfl
theorem checkFirst_drop (l : List ByteArray) (k : Nat) (h : k < l.length) : M.checkFirst1 (l.drop k) = if M.isName (l.getD k str0) then M.checkFirst1 (l.drop (k + 1)) else 1 := by
  rw [drop_getD l str0 k h]; rfl

set_option maxHeartbeats 2000000 in
set_option maxRecDepth 100000 in
theorem checkItem_any (it : M.Itm) (aP : Option Addr) (cP : Nat) (w : World) (hP : PartsAt w (.slice aP it.parts.length cP) it.parts) :
    Calls Try.prog 48 #[.agg #[.bool it.arch, .slice aP it.parts.length cP]] w fun e w' => e = .returned (.int .i64 (M.checkItem it)) ∧ Below w.heap.size w w' := by
  obtain ⟨ar, ps⟩ := it
  simp only at hP ⊢
  have hn : ps.length ≤ maxLen := by obtain ⟨_, h, _⟩ := hP; obtain ⟨_, _, _, h⟩ := h.form; exact h
  unfold maxLen at hn
  have hA : Below w.heap.size w (w.alloc (.cells #[.bool ar, .slice aP ps.length cP] 32)) := (Below.refl _ _).alloc (Nat.le_refl _) _
  have HP : Hid (∀ W, Below w.heap.size w W → PartsAt W (.slice aP ps.length cP) ps) := fun W hW => hP.later hW
  have HX : Hid (M.checkItem ⟨ar, ps⟩ = if 8 < ps.length then 2 else if ar = false ∧ ¬ ps.length = 1 then 4 else M.checkParts ps) := rfl
  clear hP
  generalize M.checkItem ⟨ar, ps⟩ = R at *
  by_cases h8 : 8 < ps.length
  · obtain rfl : R = 2 := by have := HX.out; rwa [if_pos h8] at this
    have h8' : (8 : Int) < (ps.length : Int) := by omega
    clear HX HP h8
    go_enter Try.func48, Try.ntmps48
    go_wp2
    go_ret
    exact ⟨rfl, hA⟩
  have h8' : decide ((8 : Int) < (ps.length : Int)) = false := by simp; omega
  rw [if_neg h8] at HX
  by_cases h1 : ar = false ∧ ¬ ps.length = 1
  · obtain rfl : R = 4 := by have := HX.out; rwa [if_pos h1] at this
    obtain ⟨rfl, h1⟩ := h1
    have h1' : ((ps.length : Int) != 1) = true := by simp; omega
    clear HX HP h8
    go_enter Try.func48, Try.ntmps48
    go_wp2
    go_ret
    exact ⟨rfl, hA⟩
  rw [if_neg h1] at HX
  have HX' : Hid (R = M.checkParts (ps.drop 0)) := HX
  have hq := heap_alloc_new w (.cells #[.bool ar, .slice aP ps.length cP] 32)
  clear HX
  have h1' : ar = false → ((ps.length : Int) != 1) = false := fun h => by
    by_cases h2 : ps.length = 1
    · simp; omega
    · exact absurd ⟨h, h2⟩ h1
  have HQ : Hid (Below w.heap.size w (w.alloc (.cells #[.bool ar, .slice aP ps.length cP] 32))) := hA
  clear h1 hq hA
  cases ar
  all_goals
    (try (have h1'' := h1' rfl))
    clear h1'
    go_enter Try.func48, Try.ntmps48
    go_wp2_with fail
    go_loopw [22] (fun s22 wr => ∃ (k : Nat), k ≤ ps.length ∧ s22 = .int .i64 k ∧ Hid (R = M.checkParts (ps.drop k)) ∧ Hid (Below w.heap.size w wr)) (fun s22 _ => ps.length - (intOf s22).toNat)
    case atStart => exact ⟨0, Nat.zero_le _, rfl, HX', HQ⟩
    case round =>
      obtain ⟨k, hk, rfl, HR, HB⟩ := hrel
      clear HX' HQ
      by_cases hlt : k < ps.length
      · obtain ⟨b, off, a1, a2, c1, c2, rfl, e0, e1, hf, hd⟩ := part_at (HP.out wr HB.out) k hlt
        have hbr : b < wr.heap.size := World.block_lt_of_cell? _ _ e0
        have hkl : (k : Int) < (ps.length : Int) := by omega
        have HN := checkParts_drop ps k hlt
        have hAl : Below wr.heap.size wr (wr.alloc (.cells #[.slice a1 (ps.getD k M.nil).frags.length c1, .slice a2 (ps.getD k M.nil).defs.length c2] 25)) := (Below.refl _ _).alloc (Nat.le_refl _) _
        have KC : Hid (Calls Try.prog 37 #[.agg #[.slice a1 (ps.getD k M.nil).frags.length c1, .slice a2 (ps.getD k M.nil).defs.length c2]] (wr.alloc (.cells #[.slice a1 (ps.getD k M.nil).frags.length c1, .slice a2 (ps.getD k M.nil).defs.length c2] 25)) fun e w' => e = .returned (.int .i64 (M.checkPart (ps.getD k M.nil))) ∧ Below (wr.alloc (.cells #[.slice a1 (ps.getD k M.nil).frags.length c1, .slice a2 (ps.getD k M.nil).defs.length c2] 25)).heap.size (wr.alloc (.cells #[.slice a1 (ps.getD k M.nil).frags.length c1, .slice a2 (ps.getD k M.nil).defs.length c2] 25)) w') := check_any _ _ _ _ _ _ _ (hf.later hAl) (hd.later hAl)
        have HR2 : Hid (R = if M.checkPart (ps.getD k M.nil) = 0 then M.checkParts (ps.drop (k + 1)) else M.checkPart (ps.getD k M.nil)) := HR.out.trans HN
        have HBA : Hid (Below w.heap.size w (wr.alloc (.cells #[.slice a1 (ps.getD k M.nil).frags.length c1, .slice a2 (ps.getD k M.nil).defs.length c2] 25))) := HB.out.trans (hAl.mono HB.out.size)
        clear HR HN hf hd hAl
        generalize M.checkPart (ps.getD k M.nil) = er at *
        generalize ps.getD k M.nil = p at *
        cases he : (er == 0)
        · have he' : (er != 0) = true := by simpa using he
          have HRe : Hid (R = er) := by rw [Hid, HR2.out, if_neg (by simpa using he)]
          clear HR2
          go_wp2_with (go_at_call 37; refine KC.out.mono ?_; rintro e w1 ⟨rfl, hb1⟩)
          go_ret
          exact ⟨ret_int HRe.out.symm, HBA.out.trans (hb1.mono HBA.out.size)⟩
        · have he' : (er != 0) = false := by simpa using he
          have HRe : Hid (R = M.checkParts (ps.drop (k + 1))) := by rw [Hid, HR2.out, if_pos (by simpa using he)]
          clear HR2
          go_wp2_with (go_at_call 37; refine KC.out.mono ?_; rintro e w1 ⟨rfl, hb1⟩)
          go_roundw
          case rel => exact ⟨k + 1, by omega, by go_num, HRe, HBA.out.trans (hb1.mono HBA.out.size)⟩
          case measure => simp [intOf]; omega
      · obtain rfl : k = ps.length := by omega
        have HRe : Hid (R = 0) := by rw [Hid, HR.out, List.drop_eq_nil_of_le (Nat.le_refl _)]; rfl
        clear HR
        go_wp2
        go_ret
        exact ⟨ret_int HRe.out.symm, HB.out⟩

set_option maxHeartbeats 2000000 in
set_option maxRecDepth 100000 in
theorem checkItems_any (its : List M.Itm) (a : Option Addr) (c : Nat) (w : World) (h : ItemsAt w (.slice a its.length c) its) :
    Calls Try.prog 25 #[.slice a its.length c] w fun e w' => e = .returned (.int .i64 (M.checkItems its)) ∧ Below w.heap.size w w' := by
  have hn : its.length ≤ maxLen := by obtain ⟨_, h, _⟩ := h; obtain ⟨_, _, _, h⟩ := h.form; exact h
  unfold maxLen at hn
  have HI : Hid (∀ W, Below w.heap.size w W → ItemsAt W (.slice a its.length c) its) := fun W hW => h.later hW
  have HX : Hid (M.checkItems its = if 12 < its.length then 2 else M.checkItems1 (its.drop 0)) := rfl
  clear h
  generalize M.checkItems its = R at *
  by_cases h12 : 12 < its.length
  · obtain rfl : R = 2 := by have := HX.out; rwa [if_pos h12] at this
    have h8' : (12 : Int) < (its.length : Int) := by omega
    clear HX HI h12
    go_enter Try.func25, Try.ntmps25
    go_wp2
    go_ret
    exact ⟨rfl, Below.refl _ _⟩
  have h8' : decide ((12 : Int) < (its.length : Int)) = false := by simp; omega
  rw [if_neg h12] at HX
  go_enter Try.func25, Try.ntmps25
  go_wp2_with fail
  go_loopw [11] (fun s11 wr => ∃ (k : Nat), k ≤ its.length ∧ s11 = .int .i64 k ∧ Hid (R = M.checkItems1 (its.drop k)) ∧ Hid (Below w.heap.size w wr)) (fun s11 _ => its.length - (intOf s11).toNat)
  case atStart => exact ⟨0, Nat.zero_le _, rfl, HX, Below.refl _ _⟩
  case round =>
    obtain ⟨k, hk, rfl, HR, HB⟩ := hrel
    clear HX
    by_cases hlt : k < its.length
    · obtain ⟨b, off, aP, cP, rfl, e0, e1, hP⟩ := item_at (HI.out wr HB.out) k hlt
      have hbr : b < wr.heap.size := World.block_lt_of_cell? _ _ e0
      have hkl : (k : Int) < (its.length : Int) := by omega
      have HN := checkItems_drop its k hlt
      have hAl : Below wr.heap.size wr (wr.alloc (.cells #[.bool (its.getD k ⟨false, []⟩).arch, .slice aP (its.getD k ⟨false, []⟩).parts.length cP] 32)) := (Below.refl _ _).alloc (Nat.le_refl _) _
      have KC : Hid (Calls Try.prog 48 #[.agg #[.bool (its.getD k ⟨false, []⟩).arch, .slice aP (its.getD k ⟨false, []⟩).parts.length cP]] (wr.alloc (.cells #[.bool (its.getD k ⟨false, []⟩).arch, .slice aP (its.getD k ⟨false, []⟩).parts.length cP] 32)) fun e w' => e = .returned (.int .i64 (M.checkItem (its.getD k ⟨false, []⟩))) ∧ Below (wr.alloc (.cells #[.bool (its.getD k ⟨false, []⟩).arch, .slice aP (its.getD k ⟨false, []⟩).parts.length cP] 32)).heap.size (wr.alloc (.cells #[.bool (its.getD k ⟨false, []⟩).arch, .slice aP (its.getD k ⟨false, []⟩).parts.length cP] 32)) w') := checkItem_any _ _ _ _ (hP.later hAl)
      have HR2 : Hid (R = if M.checkItem (its.getD k ⟨false, []⟩) = 0 then M.checkItems1 (its.drop (k + 1)) else M.checkItem (its.getD k ⟨false, []⟩)) := HR.out.trans HN
      have HBA : Hid (Below w.heap.size w (wr.alloc (.cells #[.bool (its.getD k ⟨false, []⟩).arch, .slice aP (its.getD k ⟨false, []⟩).parts.length cP] 32))) := HB.out.trans (hAl.mono HB.out.size)
      clear HR HN hP hAl
      generalize M.checkItem (its.getD k ⟨false, []⟩) = er at *
      generalize its.getD k ⟨false, []⟩ = it at *
      obtain ⟨ar, ps⟩ := it
      simp only at e0 e1 KC HBA
      cases he : (er == 0)
      · have he' : (er != 0) = true := by simpa using he
        have HRe : Hid (R = er) := by rw [Hid, HR2.out, if_neg (by simpa using he)]
        clear HR2
        go_wp2_with (go_at_call 48; refine KC.out.mono ?_; rintro e w1 ⟨rfl, hb1⟩)
        go_ret
        exact ⟨ret_int HRe.out.symm, HBA.out.trans (hb1.mono HBA.out.size)⟩
      · have he' : (er != 0) = false := by simpa using he
        have HRe : Hid (R = M.checkItems1 (its.drop (k + 1))) := by rw [Hid, HR2.out, if_pos (by simpa using he)]
        clear HR2
        go_wp2_with (go_at_call 48; refine KC.out.mono ?_; rintro e w1 ⟨rfl, hb1⟩)
        go_roundw
        case rel => exact ⟨k + 1, by omega, by go_num, HRe, HBA.out.trans (hb1.mono HBA.out.size)⟩
        case measure => simp [intOf]; omega
    · obtain rfl : k = its.length := by omega
      have HRe : Hid (R = 0) := by rw [Hid, HR.out, List.drop_eq_nil_of_le (Nat.le_refl _)]; rfl
      clear HR
      go_wp2
      go_ret
      exact ⟨ret_int HRe.out.symm, HB.out⟩

set_option maxHeartbeats 2000000 in
set_option maxRecDepth 100000 in
theorem checkFirst_any (l : List ByteArray) (a : Option Addr) (c : Nat) (w : World) (h : StrsAt w (.slice a l.length c) l) :
    Calls Try.prog 26 #[.slice a l.length c] w fun e w' => e = .returned (.int .i64 (M.checkFirst l)) ∧ Below w.heap.size w w' := by
  have hn : l.length ≤ maxLen := by obtain ⟨_, _, _, h⟩ := h.1.form; exact h
  unfold maxLen at hn
  have HI : Hid (∀ W, Below w.heap.size w W → StrsAt W (.slice a l.length c) l) := fun W hW => h.later hW
  have HX : Hid (M.checkFirst l = if 12 < l.length then 2 else M.checkFirst1 (l.drop 0)) := rfl
  have HSz : Hid (∀ s ∈ l, s.size ≤ maxLen) := h.2
  clear h
  generalize M.checkFirst l = R at *
  by_cases h12 : 12 < l.length
  · obtain rfl : R = 2 := by have := HX.out; rwa [if_pos h12] at this
    have h8' : (12 : Int) < (l.length : Int) := by omega
    clear HX HI h12
    go_enter Try.func26, Try.ntmps26
    go_wp2
    go_ret
    exact ⟨rfl, Below.refl _ _⟩
  have h8' : decide ((12 : Int) < (l.length : Int)) = false := by simp; omega
  rw [if_neg h12] at HX
  go_enter Try.func26, Try.ntmps26
  go_wp2_with fail
  go_loopw [10] (fun s10 wr => ∃ (k : Nat), k ≤ l.length ∧ s10 = .int .i64 k ∧ Hid (R = M.checkFirst1 (l.drop k)) ∧ Hid (Below w.heap.size w wr)) (fun s10 _ => l.length - (intOf s10).toNat)
  case atStart => exact ⟨0, Nat.zero_le _, rfl, HX, Below.refl _ _⟩
  case round =>
    obtain ⟨k, hk, rfl, HR, HB⟩ := hrel
    clear HX
    by_cases hlt : k < l.length
    · obtain ⟨b, off, rfl, e0, hbr⟩ := (HI.out wr HB.out).cell k hlt
      have hkl : (k : Int) < (l.length : Int) := by omega
      have HN := checkFirst_drop l k hlt
      have hsn := HSz.out _ (getD_mem l str0 k hlt)
      have KC : Hid (Calls Try.prog 49 #[.string (l.getD k str0)] wr fun e w' => e = .returned (.bool (M.isName (l.getD k str0))) ∧ wr = w') := (name_any _ wr hsn).mono fun e w' ⟨h1, h2⟩ => ⟨h1, h2.symm⟩
      have HR2 : Hid (R = if M.isName (l.getD k str0) then M.checkFirst1 (l.drop (k + 1)) else 1) := HR.out.trans HN
      clear HR HN hsn
      generalize M.isName (l.getD k str0) = nm at *
      generalize l.getD k str0 = s at *
      cases nm
      · obtain rfl : R = 1 := HR2.out
        clear HR2
        go_wp2_with (go_at_call 49; refine KC.out.mono ?_; rintro e w1 ⟨rfl, rfl⟩)
        go_ret
        exact ⟨rfl, HB.out⟩
      · have HRe : Hid (R = M.checkFirst1 (l.drop (k + 1))) := HR2.out
        clear HR2
        go_wp2_with (go_at_call 49; refine KC.out.mono ?_; rintro e w1 ⟨rfl, rfl⟩)
        go_roundw
        case rel => exact ⟨k + 1, by omega, by go_num, HRe, HB⟩
        case measure => simp [intOf]; omega
    · obtain rfl : k = l.length := by omega
      have HRe : Hid (R = 0) := by rw [Hid, HR.out, List.drop_eq_nil_of_le (Nat.le_refl _)]; rfl
      clear HR
      go_wp2
      go_ret
      exact ⟨ret_int HRe.out.symm, HB.out⟩

end Go.Proofs.Ytgfpcldaaelelaa
