/-
  The contracts of archive.Check, checkItem, checkFirst. The contract of archive.Choose. Parts and items in rows: what a reader of them finds.
-/
import Derived.Test.YtebhbhbhcoijpaaArTkX

namespace Go.Proofs.Ytebhbhbhcoijpaa
open Go Go.RowKit
set_option linter.unusedVariables false

/-- items in a slice -/
def ItemsAt (w : World) (v : Value) (its : List M.Itm) : Prop :=
  ∃ cell, SlAt w v 2 its.length cell ∧ ∀ j, j < its.length → cell j 0 = .bool (its.getD j ⟨false, []⟩).arch ∧ ∃ a c, cell j 1 = .slice a (its.getD j ⟨false, []⟩).parts.length c ∧ PartsAt w (.slice a (its.getD j ⟨false, []⟩).parts.length c) (its.getD j ⟨false, []⟩).parts
theorem ItemsAt.later {w w' : World} {v : Value} {its : List M.Itm} (h : ItemsAt w v its) (hb : Below w.heap.size w w') : ItemsAt w' v its := by
  obtain ⟨cell, h1, h2⟩ := h
  refine ⟨cell, h1.later hb, fun j hj => ?_⟩
  obtain ⟨e0, a, c, e1, hp⟩ := h2 j hj
  exact ⟨e0, a, c, e1, hp.later hb⟩
theorem item_at {w : World} {a : Option Addr} {c : Nat} {its : List M.Itm} (h : ItemsAt w (.slice a its.length c) its) (j : Nat) (hj : j < its.length) :
    ∃ b off aP cP, a = some ⟨b, off, none⟩ ∧ w.cell? ⟨b, off + j * 2, none⟩ = some (.bool (its.getD j ⟨false, []⟩).arch) ∧ w.cell? ⟨b, off + j * 2 + 1, none⟩ = some (.slice aP (its.getD j ⟨false, []⟩).parts.length cP)
      ∧ PartsAt w (.slice aP (its.getD j ⟨false, []⟩).parts.length cP) (its.getD j ⟨false, []⟩).parts := by
  obtain ⟨cell, h1, h2⟩ := h
  obtain ⟨b, off, e, hc⟩ := h1.at j hj
  obtain ⟨e0, aP, cP, e1, hp⟩ := h2 j hj
  have c0 := hc 0 (by decide)
  have c1 := hc 1 (by decide)
  rw [e0] at c0
  rw [e1] at c1
  exact ⟨b, off, aP, cP, e, c0, c1, hp⟩

theorem checkParts_drop (l : List M.Prt) (k : Nat) (h : k < l.length) : M.checkParts (l.drop k) = if M.checkPart (l.getD k M.nil) = 0 then M.checkParts (l.drop (k + 1)) else M.checkPart (l.getD k M.nil) := by
  rw [drop_getD l M.nil k h]; rfl
theorem checkItems_drop (l : List M.Itm) (k : Nat) (h : k < l.length) : M.checkItems1 (l.drop k) = if M.checkItem (l.getD k ⟨false, []⟩) = 0 then M.checkItems1 (l.drop (k + 1)) else M.checkItem (l.getD k ⟨false, []⟩) := by
  rw [drop_getD l ⟨false, []⟩ k h]; rfl
theorem checkFirst_drop (l : List ByteArray) (k : Nat) (h : k < l.length) : M.checkFirst1 (l.drop k) = if M.isName (l.getD k str0) then M.checkFirst1 (l.drop (k + 1)) else 1 := by
  rw [drop_getD l str0 k h]; rfl

set_option maxHeartbeats 2000000 in
set_option maxRecDepth 100000 in
theorem checkItem_any (it : M.Itm) (aP : Option Addr) (cP : Nat) (w : World) (hP : PartsAt w (.slice aP it.parts.length cP) it.parts) :
    Calls Try.prog 104 #[.agg #[.bool it.arch, .slice aP it.parts.length cP]] w fun e w' => e = .returned (.int .i64 (M.checkItem it)) ∧ Below w.heap.size w w' := by
  obtain ⟨ar, ps⟩ := it
  simp only at hP ⊢
  have hn : ps.length ≤ maxLen := by obtain ⟨_, h, _⟩ := hP; obtain ⟨_, _, _, h⟩ := h.form; exact h
  unfold maxLen at hn
  have hA : Below w.heap.size w (w.alloc (.cells #[.bool ar, .slice aP ps.length cP] 63)) := (Below.refl _ _).alloc (Nat.le_refl _) _
  have HP : Hid (∀ W, Below w.heap.size w W → PartsAt W (.slice aP ps.length cP) ps) := fun W hW => hP.later hW
  have HX : Hid (M.checkItem ⟨ar, ps⟩ = if 8 < ps.length then 2 else if ar = false ∧ ¬ ps.length = 1 then 4 else M.checkParts ps) := rfl
  clear hP
  generalize M.checkItem ⟨ar, ps⟩ = R at *
  by_cases h8 : 8 < ps.length
  · obtain rfl : R = 2 := by have := HX.out; rwa [if_pos h8] at this
    have h8' : (8 : Int) < (ps.length : Int) := by omega
    clear HX HP h8
    go_enter Try.func104, Try.ntmps104
    go_wp2
    go_ret
    exact ⟨rfl, hA⟩
  have h8' : decide ((8 : Int) < (ps.length : Int)) = false := by simp; omega
  rw [if_neg h8] at HX
  by_cases h1 : ar = false ∧ ¬ ps.length = 1
  · obtain rfl : R = 4 := by have := HX.out; rwa [if_pos h1] at this
    obtain ⟨rfl, h1⟩ := h1
    have h1' : ((ps.length : Int) != 1) = true := by simp; omega
    clear HX HP h8
    go_enter Try.func104, Try.ntmps104
    go_wp2
    go_ret
    exact ⟨rfl, hA⟩
  rw [if_neg h1] at HX
  have HX' : Hid (R = M.checkParts (ps.drop 0)) := HX
  have hq := heap_alloc_new w (.cells #[.bool ar, .slice aP ps.length cP] 63)
  clear HX
  have h1' : ar = false → ((ps.length : Int) != 1) = false := fun h => by
    by_cases h2 : ps.length = 1
    · simp; omega
    · exact absurd ⟨h, h2⟩ h1
  have HQ : Hid (Below w.heap.size w (w.alloc (.cells #[.bool ar, .slice aP ps.length cP] 63))) := hA
  clear h1 hq hA
  cases ar
  all_goals
    (try (have h1'' := h1' rfl))
    clear h1'
    go_enter Try.func104, Try.ntmps104
    go_wp2_with fail
    go_loopw [22] (fun s22 wr => ∃ (k : Nat), k ≤ ps.length ∧ s22 = .int .i64 k ∧ Hid (R = M.checkParts (ps.drop k)) ∧ Hid (Below w.heap.size w wr)) (fun s22 _ => ps.length - (intOf s22).toNat)
    case atStart => exact ⟨0, Nat.zero_le _, rfl, HX', HQ⟩
    case round =>
      obtain ⟨k, hk, rfl, HR, HB⟩ := hrel
      clear HX' HQ
      by_cases hlt : k < ps.length
      · obtain ⟨b, off, a1, a2, c1, c2, rfl, e0, e1, hf, hd⟩ := part_at (HP.out wr HB.out) k hlt
        have hbr : b < wr.heap.size := World.block_lt_of_cell? _ _ e0
        have hkl : (k : Int) < (ps.length : Int) := by omega
        have HN := checkParts_drop ps k hlt
        have hAl : Below wr.heap.size wr (wr.alloc (.cells #[.slice a1 (ps.getD k M.nil).frags.length c1, .slice a2 (ps.getD k M.nil).defs.length c2] 25)) := (Below.refl _ _).alloc (Nat.le_refl _) _
        have KC : Hid (Calls Try.prog 13 #[.agg #[.slice a1 (ps.getD k M.nil).frags.length c1, .slice a2 (ps.getD k M.nil).defs.length c2]] (wr.alloc (.cells #[.slice a1 (ps.getD k M.nil).frags.length c1, .slice a2 (ps.getD k M.nil).defs.length c2] 25)) fun e w' => e = .returned (.int .i64 (M.checkPart (ps.getD k M.nil))) ∧ Below (wr.alloc (.cells #[.slice a1 (ps.getD k M.nil).frags.length c1, .slice a2 (ps.getD k M.nil).defs.length c2] 25)).heap.size (wr.alloc (.cells #[.slice a1 (ps.getD k M.nil).frags.length c1, .slice a2 (ps.getD k M.nil).defs.length c2] 25)) w') := check_any _ _ _ _ _ _ _ (hf.later hAl) (hd.later hAl)
        have HR2 : Hid (R = if M.checkPart (ps.getD k M.nil) = 0 then M.checkParts (ps.drop (k + 1)) else M.checkPart (ps.getD k M.nil)) := HR.out.trans HN
        have HBA : Hid (Below w.heap.size w (wr.alloc (.cells #[.slice a1 (ps.getD k M.nil).frags.length c1, .slice a2 (ps.getD k M.nil).defs.length c2] 25))) := HB.out.trans (hAl.mono HB.out.size)
        clear HR HN hf hd hAl
        generalize M.checkPart (ps.getD k M.nil) = er at *
        generalize ps.getD k M.nil = p at *
        cases he : (er == 0)
        · have he' : (er != 0) = true := by simpa using he
          have HRe : Hid (R = er) := by rw [Hid, HR2.out, if_neg (by simpa using he)]
          clear HR2
          go_wp2_with (go_at_call 13; refine KC.out.mono ?_; rintro e w1 ⟨rfl, hb1⟩)
          go_ret
          exact ⟨ret_int HRe.out.symm, HBA.out.trans (hb1.mono HBA.out.size)⟩
        · have he' : (er != 0) = false := by simpa using he
          have HRe : Hid (R = M.checkParts (ps.drop (k + 1))) := by rw [Hid, HR2.out, if_pos (by simpa using he)]
          clear HR2
          go_wp2_with (go_at_call 13; refine KC.out.mono ?_; rintro e w1 ⟨rfl, hb1⟩)
          go_roundw
          case rel => exact ⟨k + 1, by omega, by go_num, HRe, HBA.out.trans (hb1.mono HBA.out.size)⟩
          case measure => simp [intOf]; omega
      · obtain rfl : k = ps.length := by omega
        have HRe : Hid (R = 0) := by rw [Hid, HR.out, List.drop_eq_nil_of_le (Nat.le_refl _)]; rfl
        clear HR
        go_wp2
        go_ret
        exact ⟨ret_int HRe.out.symm, HB.out⟩

set_option maxHeartbeats 2000000 in
set_option maxRecDepth 100000 in
theorem checkItems_any (its : List M.Itm) (a : Option Addr) (c : Nat) (w : World) (h : ItemsAt w (.slice a its.length c) its) :
    Calls Try.prog 69 #[.slice a its.length c] w fun e w' => e = .returned (.int .i64 (M.checkItems its)) ∧ Below w.heap.size w w' := by
  have hn : its.length ≤ maxLen := by obtain ⟨_, h, _⟩ := h; obtain ⟨_, _, _, h⟩ := h.form; exact h
  unfold maxLen at hn
  have HI : Hid (∀ W, Below w.heap.size w W → ItemsAt W (.slice a its.length c) its) := fun W hW => h.later hW
  have HX : Hid (M.checkItems its = if 12 < its.length then 2 else M.checkItems1 (its.drop 0)) := rfl
  clear h
  generalize M.checkItems its = R at *
  by_cases h12 : 12 < its.length
  · obtain rfl : R = 2 := by have := HX.out; rwa [if_pos h12] at this
    have h8' : (12 : Int) < (its.length : Int) := by omega
    clear HX HI h12
    go_enter Try.func69, Try.ntmps69
    go_wp2
    go_ret
    exact ⟨rfl, Below.refl _ _⟩
  have h8' : decide ((12 : Int) < (its.length : Int)) = false := by simp; omega
  rw [if_neg h12] at HX
  go_enter Try.func69, Try.ntmps69
  go_wp2_with fail
  go_loopw [11] (fun s11 wr => ∃ (k : Nat), k ≤ its.length ∧ s11 = .int .i64 k ∧ Hid (R = M.checkItems1 (its.drop k)) ∧ Hid (Below w.heap.size w wr)) (fun s11 _ => its.length - (intOf s11).toNat)
  case atStart => exact ⟨0, Nat.zero_le _, rfl, HX, Below.refl _ _⟩
  case round =>
    obtain ⟨k, hk, rfl, HR, HB⟩ := hrel
    clear HX
    by_cases hlt : k < its.length
    · obtain ⟨b, off, aP, cP, rfl, e0, e1, hP⟩ := item_at (HI.out wr HB.out) k hlt
      have hbr : b < wr.heap.size := World.block_lt_of_cell? _ _ e0
      have hkl : (k : Int) < (its.length : Int) := by omega
      have HN := checkItems_drop its k hlt
      have hAl : Below wr.heap.size wr (wr.alloc (.cells #[.bool (its.getD k ⟨false, []⟩).arch, .slice aP (its.getD k ⟨false, []⟩).parts.length cP] 63)) := (Below.refl _ _).alloc (Nat.le_refl _) _
      have KC : Hid (Calls Try.prog 104 #[.agg #[.bool (its.getD k ⟨false, []⟩).arch, .slice aP (its.getD k ⟨false, []⟩).parts.length cP]] (wr.alloc (.cells #[.bool (its.getD k ⟨false, []⟩).arch, .slice aP (its.getD k ⟨false, []⟩).parts.length cP] 63)) fun e w' => e = .returned (.int .i64 (M.checkItem (its.getD k ⟨false, []⟩))) ∧ Below (wr.alloc (.cells #[.bool (its.getD k ⟨false, []⟩).arch, .slice aP (its.getD k ⟨false, []⟩).parts.length cP] 63)).heap.size (wr.alloc (.cells #[.bool (its.getD k ⟨false, []⟩).arch, .slice aP (its.getD k ⟨false, []⟩).parts.length cP] 63)) w') := checkItem_any _ _ _ _ (hP.later hAl)
      have HR2 : Hid (R = if M.checkItem (its.getD k ⟨false, []⟩) = 0 then M.checkItems1 (its.drop (k + 1)) else M.checkItem (its.getD k ⟨false, []⟩)) := HR.out.trans HN
      have HBA : Hid (Below w.heap.size w (wr.alloc (.cells #[.bool (its.getD k ⟨false, []⟩).arch, .slice aP (its.getD k ⟨false, []⟩).parts.length cP] 63))) := HB.out.trans (hAl.mono HB.out.size)
      clear HR HN hP hAl
      generalize M.checkItem (its.getD k ⟨false, []⟩) = er at *
      generalize its.getD k ⟨false, []⟩ = it at *
      obtain ⟨ar, ps⟩ := it
      simp only at e0 e1 KC HBA
      cases he : (er == 0)
      · have he' : (er != 0) = true := by simpa using he
        have HRe : Hid (R = er) := by rw [Hid, HR2.out, if_neg (by simpa using he)]
        clear HR2
        go_wp2_with (go_at_call 104; refine KC.out.mono ?_; rintro e w1 ⟨rfl, hb1⟩)
        go_ret
        exact ⟨ret_int HRe.out.symm, HBA.out.trans (hb1.mono HBA.out.size)⟩
      · have he' : (er != 0) = false := by simpa using he
        have HRe : Hid (R = M.checkItems1 (its.drop (k + 1))) := by rw [Hid, HR2.out, if_pos (by simpa using he)]
        clear HR2
        go_wp2_with (go_at_call 104; refine KC.out.mono ?_; rintro e w1 ⟨rfl, hb1⟩)
        go_roundw
        case rel => exact ⟨k + 1, by omega, by go_num, HRe, HBA.out.trans (hb1.mono HBA.out.size)⟩
        case measure => simp [intOf]; omega
    · obtain rfl : k = its.length := by omega
      have HRe : Hid (R = 0) := by rw [Hid, HR.out, List.drop_eq_nil_of_le (Nat.le_refl _)]; rfl
      clear HR
      go_wp2
      go_ret
      exact ⟨ret_int HRe.out.symm, HB.out⟩

set_option maxHeartbeats 2000000 in
set_option maxRecDepth 100000 in
theorem checkFirst_any (l : List ByteArray) (a : Option Addr) (c : Nat) (w : World) (h : StrsAt w (.slice a l.length c) l) :
    Calls Try.prog 70 #[.slice a l.length c] w fun e w' => e = .returned (.int .i64 (M.checkFirst l)) ∧ Below w.heap.size w w' := by
  have hn : l.length ≤ maxLen := by obtain ⟨_, _, _, h⟩ := h.1.form; exact h
  unfold maxLen at hn
  have HI : Hid (∀ W, Below w.heap.size w W → StrsAt W (.slice a l.length c) l) := fun W hW => h.later hW
  have HX : Hid (M.checkFirst l = if 12 < l.length then 2 else M.checkFirst1 (l.drop 0)) := rfl
  have HSz : Hid (∀ s ∈ l, s.size ≤ maxLen) := h.2
  clear h
  generalize M.checkFirst l = R at *
  by_cases h12 : 12 < l.length
  · obtain rfl : R = 2 := by have := HX.out; rwa [if_pos h12] at this
    have h8' : (12 : Int) < (l.length : Int) := by omega
    clear HX HI h12
    go_enter Try.func70, Try.ntmps70
    go_wp2
    go_ret
    exact ⟨rfl, Below.refl _ _⟩
  have h8' : decide ((12 : Int) < (l.length : Int)) = false := by simp; omega
  rw [if_neg h12] at HX
  go_enter Try.func70, Try.ntmps70
  go_wp2_with fail
  go_loopw [10] (fun s10 wr => ∃ (k : Nat), k ≤ l.length ∧ s10 = .int .i64 k ∧ Hid (R = M.checkFirst1 (l.drop k)) ∧ Hid (Below w.heap.size w wr)) (fun s10 _ => l.length - (intOf s10).toNat)
  case atStart => exact ⟨0, Nat.zero_le _, rfl, HX, Below.refl _ _⟩
  case round =>
    obtain ⟨k, hk, rfl, HR, HB⟩ := hrel
    clear HX
    by_cases hlt : k < l.length
    · obtain ⟨b, off, rfl, e0, hbr⟩ := (HI.out wr HB.out).cell k hlt
      have hkl : (k : Int) < (l.length : Int) := by omega
      have HN := checkFirst_drop l k hlt
      have hsn := HSz.out _ (getD_mem l str0 k hlt)
      have KC : Hid (Calls Try.prog 84 #[.string (l.getD k str0)] wr fun e w' => e = .returned (.bool (M.isName (l.getD k str0))) ∧ wr = w') := (name_any _ wr hsn).mono fun e w' ⟨h1, h2⟩ => ⟨h1, h2.symm⟩
      have HR2 : Hid (R = if M.isName (l.getD k str0) then M.checkFirst1 (l.drop (k + 1)) else 1) := HR.out.trans HN
      clear HR HN hsn
      generalize M.isName (l.getD k str0) = nm at *
      generalize l.getD k str0 = s at *
      cases nm
      · obtain rfl : R = 1 := HR2.out
        clear HR2
        go_wp2_with (go_at_call 84; refine KC.out.mono ?_; rintro e w1 ⟨rfl, rfl⟩)
        go_ret
        exact ⟨rfl, HB.out⟩
      · have HRe : Hid (R = M.checkFirst1 (l.drop (k + 1))) := HR2.out
        clear HR2
        go_wp2_with (go_at_call 84; refine KC.out.mono ?_; rintro e w1 ⟨rfl, rfl⟩)
        go_roundw
        case rel => exact ⟨k + 1, by omega, by go_num, HRe, HB⟩
        case measure => simp [intOf]; omega
    · obtain rfl : k = l.length := by omega
      have HRe : Hid (R = 0) := by rw [Hid, HR.out, List.drop_eq_nil_of_le (Nat.le_refl _)]; rfl
      clear HR
      go_wp2
      go_ret
      exact ⟨ret_int HRe.out.symm, HB.out⟩

end Go.Proofs.Ytebhbhbhcoijpaa

namespace Go.Proofs.Ytebhbhbhcoijpaa
open Go Go.RowKit
set_option linter.unusedVariables false

/-- what Choose gives -/
def ChOut (w0 w' : World) (v : Value) (ps : List M.Prt) : Prop := Below w0.heap.size w0 w' ∧ ∃ es : List PEnt, es.map (·.p) = ps ∧ w'.ownsRow w0.heap.size 25 2 v es.length (es.flatMap pentCells) ∧ ∀ e ∈ es, POwn w' w0.heap.size e

theorem firstAll_take (l : List ByteArray) (k : Nat) (h : k < l.length) : M.firstAll (l.take (k + 1)) = (M.firstAll (l.take k)).set (l.getD k str0) 1 := by
  unfold M.firstAll
  rw [List.take_succ_eq_append_getElem h, List.foldl_append, List.getD_eq_getElem?_getD, List.getElem?_eq_getElem h]
  rfl
theorem choose_take (l : List M.Itm) (s : M.St × List M.Prt) (k : Nat) (h : k < l.length) : (l.take (k + 1)).foldl M.chooseStep s = M.chooseStep ((l.take k).foldl M.chooseStep s) (l.getD k ⟨false, []⟩) := by
  rw [List.take_succ_eq_append_getElem h, List.foldl_append, List.getD_eq_getElem?_getD, List.getElem?_eq_getElem h]
  rfl

theorem parts_ok : ∀ {l : List M.Prt}, M.checkParts l = 0 → ∀ p ∈ l, M.checkPart p = 0
  | [], _, p, hp => by cases hp
  | q :: l, h, p, hp => by
    unfold M.checkParts at h
    by_cases hq : M.checkPart q = 0
    · rw [if_pos hq] at h
      rcases List.mem_cons.1 hp with rfl | hp
      · exact hq
      · exact parts_ok h p hp
    · rw [if_neg hq] at h
      exact absurd h hq
theorem item_ok {it : M.Itm} (h : M.checkItem it = 0) : it.parts.length ≤ 8 ∧ (it.arch = false → it.parts.length = 1) ∧ ∀ p ∈ it.parts, M.checkPart p = 0 := by
  unfold M.checkItem at h
  by_cases h8 : 8 < it.parts.length
  · rw [if_pos h8] at h; exact absurd h (by decide)
  · rw [if_neg h8] at h
    by_cases h1 : it.arch = false ∧ ¬ it.parts.length = 1
    · rw [if_pos h1] at h; exact absurd h (by decide)
    · rw [if_neg h1] at h
      refine ⟨by omega, fun ha => ?_, parts_ok h⟩
      by_cases h2 : it.parts.length = 1
      · exact h2
      · exact absurd ⟨ha, h2⟩ h1
theorem items1_ok : ∀ {l : List M.Itm}, M.checkItems1 l = 0 → ∀ it ∈ l, M.checkItem it = 0
  | [], _, p, hp => by cases hp
  | q :: l, h, p, hp => by
    unfold M.checkItems1 at h
    by_cases hq : M.checkItem q = 0
    · rw [if_pos hq] at h
      rcases List.mem_cons.1 hp with rfl | hp
      · exact hq
      · exact items1_ok h p hp
    · rw [if_neg hq] at h
      exact absurd h hq
theorem items_ok {l : List M.Itm} (h : M.checkItems l = 0) : l.length ≤ 12 ∧ ∀ it ∈ l, M.checkItem it = 0 := by
  unfold M.checkItems at h
  by_cases h1 : 12 < l.length
  · rw [if_pos h1] at h; exact absurd h (by decide)
  · rw [if_neg h1] at h
    exact ⟨by omega, items1_ok h⟩
theorem first_ok {l : List ByteArray} (h : M.checkFirst l = 0) : l.length ≤ 12 := by
  unfold M.checkFirst at h
  by_cases h1 : 12 < l.length
  · rw [if_pos h1] at h; exact absurd h (by decide)
  · omega

set_option maxHeartbeats 8000000 in
set_option maxRecDepth 100000 in
theorem choose_any (its : List M.Itm) (first : List ByteArray) (a a2 : Option Addr) (c c2 : Nat) (w : World) (h : ItemsAt w (.slice a its.length c) its) (hf : StrsAt w (.slice a2 first.length c2) first) :
    Calls Try.prog 31 #[.slice a its.length c, .slice a2 first.length c2] w fun e w' => ∃ v, e = .returned (.tuple #[v, .int .i64 (M.choose its first).2]) ∧ ChOut w w' v (M.choose its first).1 := by
  have hn : its.length ≤ maxLen := by obtain ⟨_, h, _⟩ := h; obtain ⟨_, _, _, h⟩ := h.form; exact h
  have hn2 : first.length ≤ maxLen := by obtain ⟨_, _, _, h⟩ := hf.1.form; exact h
  unfold maxLen at hn hn2
  have KC : Hid (∀ W, Below w.heap.size w W → Calls Try.prog 69 #[.slice a its.length c] W fun e w' => e = .returned (.int .i64 (M.checkItems its)) ∧ Below W.heap.size W w') := fun W hW => checkItems_any its a c W (h.later hW)
  have KF : Hid (∀ W, Below w.heap.size w W → Calls Try.prog 70 #[.slice a2 first.length c2] W fun e w' => e = .returned (.int .i64 (M.checkFirst first)) ∧ Below W.heap.size W w') := fun W hW => checkFirst_any first a2 c2 W (hf.later hW)
  have HX : Hid (M.choose its first = if M.checkItems its = 0 then (if M.checkFirst first = 0 then ((its.foldl M.chooseStep (M.firstAll first, [])).2, 0) else ([], M.checkFirst first)) else ([], M.checkItems its)) := rfl
  have HOk : Hid (M.checkItems its = 0 → its.length ≤ 12 ∧ ∀ it ∈ its, M.checkItem it = 0) := items_ok
  have HFo : Hid (M.checkFirst first = 0 → first.length ≤ 12) := first_ok
  have HI : Hid (ItemsAt w (.slice a its.length c) its) := h
  have HF : Hid (StrsAt w (.slice a2 first.length c2) first) := hf
  clear h hf
  generalize M.choose its first = R at *
  generalize M.checkItems its = e1 at *
  generalize M.checkFirst first = e2 at *
  cases h1 : (e1 == 0)
  · have h1' : (e1 != 0) = true := by simpa using h1
    obtain rfl : R = ([], e1) := by have := HX.out; rwa [if_neg (by simpa using h1)] at this
    clear HX HOk HFo HI HF
    go_enter Try.func31, Try.ntmps31
    go_wp2_with (go_at_call 69; refine (KC.out _ (Below.refl _ _)).mono ?_; rintro e w1 ⟨rfl, hb1⟩)
    go_ret2
    exact ⟨_, rfl, hb1, [], rfl, World.ownsRow_nil _ _ _ _, fun e he => by cases he⟩
  obtain rfl : e1 = 0 := by simpa using h1
  clear h1
  cases h2 : (e2 == 0)
  · have h2' : (e2 != 0) = true := by simpa using h2
    obtain rfl : R = ([], e2) := by have := HX.out; rwa [if_pos rfl, if_neg (by simpa using h2)] at this
    clear HX HOk HFo HI HF
    go_enter Try.func31, Try.ntmps31
    go_wp2_with (first | (go_at_call 69; refine (KC.out _ (Below.refl _ _)).mono ?_; rintro e w1 ⟨rfl, hb1⟩) | (go_at_call 70; refine (KF.out _ hb1).mono ?_; rintro e w2 ⟨rfl, hb2⟩))
    go_ret2
    exact ⟨_, rfl, hb1.trans (hb2.mono hb1.size), [], rfl, World.ownsRow_nil _ _ _ _, fun e he => by cases he⟩
  obtain rfl : e2 = 0 := by simpa using h2
  clear h2
  obtain rfl : R = ((its.foldl M.chooseStep (M.firstAll first, [])).2, 0) := by have := HX.out; rwa [if_pos rfl, if_pos rfl] at this
  obtain ⟨hl12, hits⟩ := HOk.out rfl
  have hf12 := HFo.out rfl
  have HIt : Hid (∀ it ∈ its, M.checkItem it = 0) := hits
  have HSz : Hid (∀ s ∈ first, s.size ≤ maxLen) := HF.out.2
  clear HX HOk HFo hits
  go_enter Try.func31, Try.ntmps31
  have hmm := @run_makeMap Try.prog
  go_wp2_with (first | (go_at_call 69; refine (KC.out _ (Below.refl _ _)).mono ?_; rintro e w1 ⟨rfl, hb1⟩) | (go_at_call 70; refine (KF.out _ hb1).mono ?_; rintro e w2 ⟨rfl, hb2⟩))
  have HY : Hid (Ch w (((w2.alloc (.cells #[.slice none 0 0] 32)).alloc (.map #[] 0)).alloc (.cells #[.map (some (w2.heap.size + 1))] 115)) w2.heap.size (w2.heap.size + 1 + 1) (w2.heap.size + 1) 0 (M.firstAll (first.take 0)) [] (.slice none 0 0)) := by
    have hb := hb1.trans (hb2.mono hb1.size)
    have hs := StAt.nil (w2.alloc (.cells #[.slice none 0 0] 32))
    have hsz : (w2.alloc (.cells #[.slice none 0 0] 32)).heap.size = w2.heap.size + 1 := by simp
    have hsz2 : ((w2.alloc (.cells #[.slice none 0 0] 32)).alloc (.map #[] 0)).heap.size = w2.heap.size + 1 + 1 := by simp
    rw [hsz] at hs
    refine ⟨((hb.alloc hb.size _).alloc (by have := hb.size; simp; omega) _).alloc (by have := hb.size; simp; omega) _, ?_, ?_, hb.size, by have := hb.size; omega, hs.later ((Below.refl _ _).alloc (Nat.le_refl _) _), World.ownsRow_nil _ _ _ _, fun e he => by cases he⟩
    · rw [heap_alloc_old _ _ (by rw [hsz2]; omega), heap_alloc_old _ _ (by rw [hsz]; omega)]
      exact heap_alloc_new _ _
    · have := heap_alloc_new ((w2.alloc (.cells #[.slice none 0 0] 32)).alloc (.map #[] 0)) (.cells #[.map (some (w2.heap.size + 1))] 115)
      rwa [hsz2] at this
  clear hb1 hb2 KC KF hmm
  generalize ((w2.alloc (.cells #[.slice none 0 0] 32)).alloc (.map #[] 0)).alloc (.cells #[.map (some (w2.heap.size + 1))] 115) = Y at *
  generalize w2.heap.size + 1 + 1 = n9 at *
  generalize w2.heap.size + 1 = bM at *
  generalize w2.heap.size = n8 at *
  go_loopw [28] (fun s28 wr => ∃ (k : Nat), k ≤ first.length ∧ s28 = .int .i64 k ∧ Hid (Ch w wr n8 n9 bM k (M.firstAll (first.take k)) [] (.slice none 0 0))) (fun s28 _ => first.length - (intOf s28).toNat)
  case atStart => exact ⟨0, Nat.zero_le _, rfl, HY⟩
  case round =>
    obtain ⟨k, hk, rfl, HC⟩ := hrel
    clear HY
    by_cases hlt : k < first.length
    · obtain ⟨b, off, rfl, e0, hbr⟩ := (HF.out.later HC.out.below).cell k hlt
      have hkl : (k : Int) < (first.length : Int) := by omega
      have hsn := HSz.out _ (getD_mem first str0 k hlt)
      have q9 : wr.cell? ⟨n9, 0, none⟩ = some (.map (some bM)) := cellB HC.out.q9 0
      obtain ⟨w3, hrun, hS3, hg3⟩ := HC.out.st.put (by unfold maxLen; omega) (first.getD k str0) hsn 1 (by decide)
      have HN : Hid (Ch w w3 n8 n9 bM (k + 1) (M.firstAll (first.take (k + 1))) [] (.slice none 0 0)) := by rw [firstAll_take first k hlt]; exact HC.out.mapped hg3 hS3
      clear hS3 hg3 HC hsn
      generalize first.getD k str0 = s at *
      go_wp2_with fail
      go_roundw
      case rel => exact ⟨k + 1, by omega, by go_num, HN⟩
      case measure => simp [intOf]; omega
    · obtain rfl : k = first.length := by omega
      rw [List.take_length] at HC
      obtain ⟨Z, hZ⟩ : ∃ Z, Z = wr := ⟨_, rfl⟩
      subst hZ
      go_wp2_with fail
      go_loopw [38] (fun s38 wr => ∃ (k : Nat) (es : List PEnt) (v : Value), k ≤ its.length ∧ s38 = .int .i64 k ∧ Hid (∃ N, N ≤ 12 + 5000 * k ∧ Ch w wr n8 n9 bM N ((its.take k).foldl M.chooseStep (M.firstAll first, [])).1 es v) ∧ Hid (es.map (·.p) = ((its.take k).foldl M.chooseStep (M.firstAll first, [])).2) ∧ es.length ≤ 8 * k) (fun s38 _ => its.length - (intOf s38).toNat)
      case atStart => exact ⟨0, [], _, Nat.zero_le _, rfl, ⟨_, by omega, HC.out⟩, rfl, by simp⟩
      case round =>
        obtain ⟨k, es, v, hk', rfl, HD, HO, hel⟩ := hrel
        clear HC
        by_cases hlt' : k < its.length
        · obtain ⟨b, off, aP, cP, rfl, e0, e1, hP⟩ := item_at HI.out k hlt'
          obtain ⟨hp8, hp1, hpk⟩ := item_ok (HIt.out _ (getD_mem its ⟨false, []⟩ k hlt'))
          obtain ⟨N, hN, hCh⟩ := HD.out
          have e0' := cell_later hCh.below e0
          have e1' := cell_later hCh.below e1
          have hbr : b < wr.heap.size := World.block_lt_of_cell? _ _ e0'
          have hkl : (k : Int) < (its.length : Int) := by omega
          have HSt := choose_take its (M.firstAll first, []) k hlt'
          have HSt' : Hid _ := HSt
          clear HSt HD e0 e1
          generalize (its.take k).foldl M.chooseStep (M.firstAll first, []) = S at *
          generalize its.getD k ⟨false, []⟩ = it at *
          obtain ⟨ar, ps⟩ := it
          obtain ⟨st, out⟩ := S
          simp only at e0' e1' hP hp8 hp1 hpk hCh HO
          have hAl : Below wr.heap.size wr (wr.alloc (.cells #[.bool ar, .slice aP ps.length cP] 63)) := (Below.refl _ _).alloc (Nat.le_refl _) _
          cases ar
          · have hp0 : 0 < ps.length := by rw [hp1 rfl]; decide
            obtain ⟨bp, offp, a1, a2, d1, d2, hae, p0, p1, hpf, hpd⟩ := part_at hP 0 hp0
            subst hae
            have hck0 := hpk _ (getD_mem ps M.nil 0 hp0)
            have HS2 : Hid ((its.take (k + 1)).foldl M.chooseStep (M.firstAll first, []) = (M.enter st (ps.getD 0 M.nil), out ++ [ps.getD 0 M.nil])) := HSt'.out
            have p0' := cell_later hAl (cell_later hCh.below p0)
            have p1' := cell_later hAl (cell_later hCh.below p1)
            rw [Nat.zero_mul, Nat.add_zero] at p0' p1'
            have hpl : (0 : Int) < (ps.length : Int) := by omega
            have HFd : Hid (∀ W, Below w.heap.size w W → FragsAt W (.slice a1 (ps.getD 0 M.nil).frags.length d1) (ps.getD 0 M.nil).frags ∧ DefsAt W (.slice a2 (ps.getD 0 M.nil).defs.length d2) (ps.getD 0 M.nil).defs) := fun W hW => ⟨hpf.later hW, hpd.later hW⟩
            clear hpf hpd p0 p1 hP hpk HSt' hp1
            generalize ps.getD 0 M.nil = p at *
            have KT : Hid (Calls Try.prog 71 #[.agg #[.slice a1 p.frags.length d1, .slice a2 p.defs.length d2], .pointer (some ⟨n8, 0, none⟩), .pointer (some ⟨n9, 0, none⟩)] (wr.alloc (.cells #[.bool false, .slice (some ⟨bp, offp, none⟩) ps.length cP] 63)) fun e w' => e = .returned (.tuple #[]) ∧ ∃ vF vD vO', Ch w w' n8 n9 bM (N + 540) (M.enter st p) (es ++ [⟨p, vF, vD⟩]) vO' ∧ Ag (wr.alloc (.cells #[.bool false, .slice (some ⟨bp, offp, none⟩) ps.length cP] 63)) w') := takeFn_any p a1 a2 d1 d2 n8 n9 bM N st es v w _ HFd.out hck0 (hCh.later hAl) (by omega) (by omega)
            clear hCh hAl HFd hck0
            go_wp2_with (go_at_call 71; refine KT.out.mono ?_; rintro e w4 ⟨rfl, vF, vD, vO', hC4, hA4⟩)
            go_roundw
            case rel => exact ⟨k + 1, es ++ [⟨p, vF, vD⟩], vO', by omega, by go_num, by rw [HS2.out]; exact ⟨N + 540, by omega, hC4⟩, by rw [HS2.out, Hid, List.map_append, HO.out]; rfl, by rw [List.length_append]; simp; omega⟩
            case measure => simp [intOf]; omega
          · have HS2 : Hid ((its.take (k + 1)).foldl M.chooseStep (M.firstAll first, []) = ((M.search ps st out).st, (M.search ps st out).out)) := HSt'.out
            have KS : Hid (Calls Try.prog 74 #[.slice aP ps.length cP, .func (.func 71) #[] #[.pointer (some ⟨n8, 0, none⟩), .pointer (some ⟨n9, 0, none⟩)], .func (.func 75) #[] #[.pointer (some ⟨n9, 0, none⟩)]] (wr.alloc (.cells #[.bool true, .slice aP ps.length cP] 63)) fun e w' => e = .returned (.tuple #[]) ∧ SrOut w (wr.alloc (.cells #[.bool true, .slice aP ps.length cP] 63)) w' n8 n9 bM (N + 4320) es.length (M.search ps st out)) := by
              have := search_any ps aP cP n8 n9 bM N st es v w _ hP hp8 hpk (hCh.later hAl) (by omega) (by omega)
              rwa [HO.out] at this
            clear hCh hAl hP hpk HSt' hp1
            go_wp2_with (go_at_call 74; refine KS.out.mono ?_; rintro e w4 ⟨rfl, es4, v4, hC4, hm4, hl4, hA4⟩)
            go_roundw
            case rel => exact ⟨k + 1, es4, v4, by omega, by go_num, by rw [HS2.out]; exact ⟨N + 4320, by omega, hC4⟩, by rw [HS2.out]; exact hm4, by omega⟩
            case measure => simp [intOf]; omega
        · obtain rfl : k = its.length := by omega
          rw [List.take_length] at HD HO
          obtain ⟨N, hN, hCh⟩ := HD.out
          have q8 : wr.cell? ⟨n8, 0, none⟩ = some v := cellB hCh.q8 0
          have HCh : Hid (Ch w wr n8 n9 bM N (its.foldl M.chooseStep (M.firstAll first, [])).1 es v) := hCh
          clear HD hCh
          obtain ⟨aO, cO, rfl⟩ := own_len HCh.out.row
          go_wp2_with fail
          go_ret2
          exact ⟨_, rfl, HCh.out.below, es, HO.out, HCh.out.row, HCh.out.parts⟩

end Go.Proofs.Ytebhbhbhcoijpaa

namespace Go.Proofs.Ytebhbhbhcoijpaa
open Go Go.RowKit
set_option linter.unusedVariables false

def pent0 : PEnt := ⟨M.nil, .slice none 0 0, .slice none 0 0⟩
structure IEnt where
  it : M.Itm
  vP : Value
def ientCells (e : IEnt) : List Value := [.bool e.it.arch, e.vP]
def ient0 : IEnt := ⟨⟨false, []⟩, .slice none 0 0⟩

/-- a block as a slice -/
theorem blk_slice {α : Type} {w : World} {B k : Nat} {t : TypeId} {fr : Nat × Nat} (d : α) (f : α → List Value) (hf : ∀ x, (f x).length = k) (l : List α) (hl : l.length ≤ maxLen) (c : Nat) (h : w.heap[B]? = some (.cells (l.flatMap f).toArray t fr)) :
    SlAt w (.slice (some ⟨B, 0, none⟩) l.length c) k l.length (fun j i => (f (l.getD j d)).getD i undef) := by
  refine ⟨_, _, rfl, hl, .inr ⟨B, 0, rfl, fun j i hj hi => ?_⟩⟩
  rw [Nat.zero_add, cellB h, List.getElem?_toArray, flat_get k f hf l j i hi, getElem?_getD l d j hj]
  exact getElem?_getD _ _ _ (by rw [hf]; exact hi)

theorem map_getD {α β : Type} (f : α → β) (l : List α) (d : α) (e : β) (j : Nat) (h : j < l.length) : (l.map f).getD j e = f (l.getD j d) := by
  rw [List.getD_eq_getElem?_getD, List.getD_eq_getElem?_getD, List.getElem?_map, List.getElem?_eq_getElem h]; rfl

theorem parts_of {w : World} {v : Value} {es : List PEnt} (h : SlAt w v 2 es.length (fun j i => (pentCells (es.getD j pent0)).getD i undef)) (hp : ∀ e ∈ es, FragsAt w e.vF e.p.frags ∧ DefsAt w e.vD e.p.defs) : PartsAt w v (es.map (·.p)) := by
  refine ⟨_, by rw [List.length_map]; exact h, fun j hj => ?_⟩
  rw [List.length_map] at hj
  rw [map_getD (·.p) es pent0 M.nil j hj]
  exact hp _ (getD_mem es pent0 j hj)

theorem items_of {w : World} {v : Value} {es : List IEnt} (h : SlAt w v 2 es.length (fun j i => (ientCells (es.getD j ient0)).getD i undef)) (hp : ∀ e ∈ es, ∃ a c, e.vP = .slice a e.it.parts.length c ∧ PartsAt w (.slice a e.it.parts.length c) e.it.parts) : ItemsAt w v (es.map (·.it)) := by
  refine ⟨_, by rw [List.length_map]; exact h, fun j hj => ?_⟩
  rw [List.length_map] at hj
  rw [map_getD (·.it) es ient0 ⟨false, []⟩ j hj]
  obtain ⟨a, c, e, hP⟩ := hp _ (getD_mem es ient0 j hj)
  exact ⟨rfl, a, c, e, hP⟩

/-- a part of one's own, as it is read -/
theorem POwn.read {W : World} {B : Nat} {e : PEnt} (h : POwn W B e) : FragsAt W e.vF e.p.frags ∧ DefsAt W e.vD e.p.defs := by
  obtain ⟨en, h1, h2⟩ := h
  refine ⟨?_, h1.defsAt⟩
  rw [← h2]
  exact h1.fragsAt

/-- what Choose gave, as it is read -/
theorem ChOut.parts {w0 w' : World} {v : Value} {ps : List M.Prt} (h : ChOut w0 w' v ps) : PartsAt w' v ps := by
  obtain ⟨_, es, rfl, hr, hp⟩ := h
  exact parts_of (row_slice pent0 pentCells (fun _ => rfl) es hr) (fun e he => (hp e he).read)

theorem PartsAt.form {w : World} {v : Value} {ps : List M.Prt} (h : PartsAt w v ps) : ∃ a c, v = .slice a ps.length c := by
  obtain ⟨cell, h1, _⟩ := h
  obtain ⟨a, c, e, _⟩ := h1.form
  exact ⟨a, c, e⟩

end Go.Proofs.Ytebhbhbhcoijpaa
