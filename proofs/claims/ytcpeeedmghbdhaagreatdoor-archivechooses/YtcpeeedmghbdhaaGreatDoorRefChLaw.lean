/-
  The law ArchiveChooses: whatever the items and the names, it returns true.
-/
import Derived.Test.YtcpeeedmghbdhaaGreatDoorArTaken
import Derived.Test.YtcpeeedmghbdhaaGreatDoorRefCk
import Derived.Test.YtcpeeedmghbdhaaGreatDoorRefPlEq
import Derived.Test.YtcpeeedmghbdhaaGreatDoorRefChosen
import Derived.Test.YtcpeeedmghbdhaaGreatDoorArMathX
namespace Go.Proofs.YtcpeeedmghbdhaaGreatDoor
open Go Go.RowKit
set_option linter.unusedVariables false

def notName (s : ByteArray) : Bool := !M.isName s
theorem first_any : ∀ l : List ByteArray, M.checkFirst1 l = if l.any notName = true then 1 else 0
  | [] => rfl
  | s :: l => by
    have ih := first_any l
    show (if M.isName s then M.checkFirst1 l else 1) = if (notName s || l.any notName) = true then 1 else 0
    unfold notName
    cases h : M.isName s
    · simp
    · simp only [if_true, Bool.not_true, Bool.false_or]
      exact ih

set_option maxHeartbeats 1000000 in
set_option maxRecDepth 100000 in
theorem notName_any (s : ByteArray) (w : World) (hs : s.size ≤ maxLen) : Calls Tryz.prog 9 #[.string s] w fun e w' => e = .returned (.bool (notName s)) ∧ Below w.heap.size w w' := by
  have KI : Hid (Calls Tryz.prog 10 #[.string s] w fun e w' => e = .returned (.bool (M.isName s)) ∧ Below w.heap.size w w') := isName_any s w hs
  have HR : Hid (notName s = !M.isName s) := rfl
  generalize notName s = R at *
  generalize M.isName s = q at *
  obtain rfl : R = !q := HR.out
  clear HR
  go_enter Tryz.func9, Tryz.ntmps9
  go_wp2_with (go_at_call 10; refine KI.out.mono ?_; rintro e w1 ⟨rfl, hb1⟩)
  go_ret
  exact ⟨rfl, hb1⟩

set_option maxHeartbeats 1000000 in
set_option maxRecDepth 100000 in
theorem indexNot_any (l : List ByteArray) (a : Option Addr) (c : Nat) (w : World) (h : StrsAt w (.slice a l.length c) l) :
    Calls Tryz.prog 25 #[.slice a l.length c, .func (.func 9) #[] #[]] w fun e w' => (∃ x, e = .returned (.int .i64 x) ∧ decide (0 ≤ x) = l.any notName) ∧ Below w.heap.size w w' := by
  have hn : l.length ≤ maxLen := by obtain ⟨_, _, _, h⟩ := h.1.form; exact h
  unfold maxLen at hn
  have HH : Hid (∀ W, Below w.heap.size w W → StrsAt W (.slice a l.length c) l) := fun W hW => h.later hW
  clear h
  have HA0 : Hid ((l.take 0).any notName = false) := rfl
  go_enter Tryz.func25, Tryz.ntmps25
  go_wp2_with fail
  go_loopw [8] (fun s8 wr => ∃ (k : Nat), k ≤ l.length ∧ s8 = .int .i64 k ∧ Hid ((l.take k).any notName = false) ∧ Hid (Below w.heap.size w wr)) (fun s8 _ => l.length - (intOf s8).toNat)
  case atStart => exact ⟨0, Nat.zero_le _, rfl, HA0, Below.refl _ _⟩
  case round =>
    obtain ⟨k, hk, rfl, HA, HB⟩ := hrel
    clear HA0
    by_cases hlt : k < l.length
    · have hst := HH.out wr HB.out
      obtain ⟨bb, off, rfl, hc, hbb⟩ := hst.cell k hlt
      have hsn := hst.2 _ (getD_mem l str0 k hlt)
      have hkl : (k : Int) < (l.length : Int) := by omega
      have KC : Hid (Calls Tryz.prog 9 #[.string (l.getD k str0)] wr fun e w' => e = .returned (.bool (notName (l.getD k str0))) ∧ Below wr.heap.size wr w') := notName_any _ wr hsn
      have HN : Hid ((l.take (k + 1)).any notName = notName (l.getD k str0)) := by
        rw [Hid, List.take_succ_eq_append_getElem hlt, List.any_append, HA.out, List.getD_eq_getElem?_getD, List.getElem?_eq_getElem hlt]; simp
      have HT : Hid (notName (l.getD k str0) = true → l.any notName = true) := fun h => List.any_eq_true.2 ⟨_, getD_mem l str0 k hlt, h⟩
      clear HA hst hsn
      generalize notName (l.getD k str0) = R at *
      generalize l.getD k str0 = s at *
      cases R
      · clear HT
        go_wp2_with (go_at_call 9; refine KC.out.mono ?_; rintro e w1 ⟨rfl, hb1⟩)
        go_roundw
        case rel => exact ⟨k + 1, by omega, by go_num, HN, HB.out.trans (hb1.mono HB.out.size)⟩
        case measure => simp [intOf]; omega
      · have HAn : Hid _ := HT.out rfl
        clear HT HN
        go_wp2_with (go_at_call 9; refine KC.out.mono ?_; rintro e w1 ⟨rfl, hb1⟩)
        go_ret
        exact ⟨⟨_, rfl, by rw [HAn.out]; simp⟩, HB.out.trans (hb1.mono HB.out.size)⟩
    · obtain rfl : k = l.length := by omega
      have HAn : Hid (l.any notName = false) := by have := HA.out; rwa [List.take_length] at this
      clear HA
      go_wp2
      go_ret
      exact ⟨⟨_, rfl, by rw [HAn.out]; decide⟩, HB.out⟩

set_option maxHeartbeats 1000000 in
set_option maxRecDepth 100000 in
theorem hasNot_any (l : List ByteArray) (a : Option Addr) (c : Nat) (w : World) (h : StrsAt w (.slice a l.length c) l) :
    Calls Tryz.prog 8 #[.slice a l.length c, .func (.func 9) #[] #[]] w fun e w' => e = .returned (.bool (l.any notName)) ∧ Below w.heap.size w w' := by
  have KI := indexNot_any l a c w h
  generalize l.any notName = R at *
  clear h
  have HK : Hid _ := KI
  clear KI
  go_enter Tryz.func8, Tryz.ntmps8
  go_wp2_with (go_at_call 25; refine Calls.mono HK.out ?_; rintro e w1 ⟨⟨x, rfl, hx⟩, hb1⟩)
  go_ret
  exact ⟨by simp_all, hb1⟩

set_option maxHeartbeats 8000000 in
set_option maxRecDepth 100000 in
theorem chooses_law (its : List M.Itm) (first : List ByteArray) (a aF : Option Addr) (c cF : Nat) (w : World) (h : ItemsAt w (.slice a its.length c) its) (hf : StrsAt w (.slice aF first.length cF) first) :
    Calls Tryz.prog 3 #[.slice a its.length c, .slice aF first.length cF] w fun e w' => e = .returned (.bool true) ∧ Below w.heap.size w w' := by
  have hhl : first.length ≤ maxLen := by obtain ⟨_, _, _, h⟩ := hf.1.form; exact h
  unfold maxLen at hhl
  have KCh : Hid (Calls Tryz.prog 4 #[.slice a its.length c, .slice aF first.length cF] w fun e w' => Below w.heap.size w w' ∧ ∃ x y, e = .returned (.tuple #[.slice x (M.choose its first).1.length y, .int .i64 (M.choose its first).2]) ∧ PartsAt w' (.slice x (M.choose its first).1.length y) (M.choose its first).1) := (choose_any its first a aF c cF w h hf).mono fun e w' ⟨v, he, ho⟩ => by
    obtain ⟨x, y, hv⟩ := ho.parts.form
    exact ⟨ho.1, x, y, by rw [he, hv], hv ▸ ho.parts⟩
  have KRi : Hid (∀ W, Below w.heap.size w W → Calls Tryz.prog 5 #[.slice a its.length c] W fun e w' => e = .returned (.int .i64 (M.checkItems its)) ∧ Below W.heap.size W w') := fun W hW => rcheckItems_any its a c W (h.later hW) (fun p a1 a2 c1 c2 V hV hF hD => rcheck_any p.frags p.defs a1 a2 c1 c2 V hF hD)
  have KCk : Hid (∀ W, Below w.heap.size w W → Calls Tryz.prog 7 #[.slice a its.length c] W fun e w' => e = .returned (.int .i64 (M.checkItems its)) ∧ Below W.heap.size W w') := fun W hW => checkItems_any its a c W (h.later hW)
  have KT : Hid (∀ W, Calls Tryz.prog 6 #[] W fun e w' => e = .returned (.bool true) ∧ Below W.heap.size W w') := fun W => taken_true W
  have KN : Hid (∀ W, Below w.heap.size w W → Calls Tryz.prog 8 #[.slice aF first.length cF, .func (.func 9) #[] #[]] W fun e w' => e = .returned (.bool (first.any notName)) ∧ Below W.heap.size W w') := fun W hW => hasNot_any first aF cF W (hf.later hW)
  have KW : Hid (M.checkItems its = 0 → first.length ≤ 12 → ∀ W, Below w.heap.size w W → Calls Tryz.prog 11 #[.slice a its.length c, .slice aF first.length cF] W fun e w' => Below W.heap.size W w' ∧ ∃ x y v, e = .returned (.tuple #[.slice x (its.foldl M.chooseStep (M.firstAll first, [])).2.length y, v]) ∧ PartsAt w' (.slice x (its.foldl M.chooseStep (M.firstAll first, [])).2.length y) (its.foldl M.chooseStep (M.firstAll first, [])).2) := fun h0 hl W hW => chosen_any its first a aF c cF W (h.later hW) (hf.later hW) h0 hl
  have HCh : Hid (M.choose its first = if M.checkItems its = 0 then (if M.checkFirst first = 0 then ((its.foldl M.chooseStep (M.firstAll first, [])).2, 0) else ([], M.checkFirst first)) else ([], M.checkItems its)) := rfl
  have HFi : Hid (M.checkFirst first = if 12 < first.length then 2 else if first.any notName = true then 1 else 0) := by rw [Hid, M.checkFirst, first_any]
  generalize M.choose its first = ch at *
  generalize (its.foldl M.chooseStep (M.firstAll first, [])).2 = out at *
  generalize M.checkFirst first = cf at *
  generalize M.checkItems its = ci at *
  generalize first.any notName = nn at *
  obtain ⟨p, e⟩ := ch
  simp only at KCh
  clear h hf
  go_enter Tryz.func3, Tryz.ntmps3
  go_upto_region 2 with (go_at_call 4; refine KCh.out.mono ?_; rintro e' w1 ⟨hb1, x, y, rfl, hP⟩)
  have HP : Hid (∀ W, Below w1.heap.size w1 W → PartsAt W (.slice x p.length y) p ∧ Below w.heap.size w W) := fun W hW => ⟨hP.later hW, hb1.trans (hW.mono hb1.size)⟩
  clear KCh hP hb1
  go_upto_region 3 with (go_at_call 5; refine (KRi.out _ (HP.out w1 (Below.refl _ _)).2).mono ?_; rintro e' w2 ⟨rfl, hb2⟩)
  have hcc : (ci != ci) = false := by simp
  have HB2 : Hid (Below w1.heap.size w1 w2) := hb2
  clear KRi hb2
  go_upto_region 5 with (first
    | (go_at_call 6; refine (KT.out _).mono ?_; rintro e' w3 ⟨rfl, hb3⟩; have hB3 := HB2.out.trans (hb3.mono HB2.out.size))
    | (go_at_call 7; refine (KCk.out _ (HP.out _ hB3).2).mono ?_; rintro e' w4 ⟨rfl, hb4⟩; have hB4 := hB3.trans (hb4.mono hB3.size)))
  have HB4 : Hid (Below w1.heap.size w1 w4) := hB4
  clear KT KCk hcc HB2 hB3 hB4 hb3 hb4 w2 w3
  by_cases hci : ci = 0
  · subst hci
    rw [if_pos rfl] at HCh
    by_cases h12 : 12 < first.length
    · obtain rfl : cf = 2 := by have := HFi.out; rwa [if_pos h12] at this
      obtain ⟨rfl, rfl⟩ : p = [] ∧ e = 2 := by have := HCh.out; rw [if_neg (by decide), Prod.mk.injEq] at this; exact this
      have hI : (12 : Int) < (first.length : Int) := by omega
      clear KN KW HCh HFi h12
      go_wp2_with fail
      go_ret
      exact ⟨rfl, (HP.out w4 HB4.out).2⟩
    · have hI : ¬ (12 : Int) < (first.length : Int) := by omega
      have hfl : first.length ≤ 12 := by omega
      rw [if_neg h12] at HFi
      have KN1 : Hid (Calls Tryz.prog 8 #[.slice aF first.length cF, .func (.func 9) #[] #[]] w4 fun e w' => e = .returned (.bool nn) ∧ Below w4.heap.size w4 w') := KN.out w4 (HP.out w4 HB4.out).2
      clear KN h12
      cases nn with
      | true =>
        obtain rfl : cf = 1 := HFi.out
        obtain ⟨rfl, rfl⟩ : p = [] ∧ e = 1 := by have := HCh.out; rw [if_neg (by decide), Prod.mk.injEq] at this; exact this
        clear KW HCh HFi hfl
        go_wp2_with (go_at_call 8; refine KN1.out.mono ?_; rintro e' w5 ⟨rfl, hb5⟩)
        go_ret
        exact ⟨rfl, (HP.out w5 (HB4.out.trans (hb5.mono HB4.out.size))).2⟩
      | false =>
        obtain rfl : cf = 0 := HFi.out
        obtain ⟨rfl, rfl⟩ : p = out ∧ e = 0 := by have := HCh.out; rw [if_pos rfl, Prod.mk.injEq] at this; exact this
        have KW1 : Hid (∀ W, Below w1.heap.size w1 W → Calls Tryz.prog 11 #[.slice a its.length c, .slice aF first.length cF] W fun e w' => Below W.heap.size W w' ∧ ∃ x y v, e = .returned (.tuple #[.slice x p.length y, v]) ∧ PartsAt w' (.slice x p.length y) p) := fun W hW => KW.out rfl hfl W (HP.out W hW).2
        have KE : Hid (∀ W x2 y2, Below w1.heap.size w1 W → PartsAt W (.slice x2 p.length y2) p → Calls Tryz.prog 12 #[.slice x p.length y, .slice x2 p.length y2, .func (.func 13) #[] #[]] W fun e w' => e = .returned (.bool true) ∧ Below W.heap.size W w') := fun W x2 y2 hW hp2 =>
          (equalPartsR_any p p x x2 y y2 W (HP.out W hW).1 hp2).mono fun e w' ⟨g1, g2⟩ => ⟨by rw [g1, M.allTwo_refl M.samePart_refl], g2⟩
        clear KW HCh HFi hfl
        go_wp2_with (first
          | (go_at_call 8; refine KN1.out.mono ?_; rintro e' w5 ⟨rfl, hb5⟩; have hB5 := HB4.out.trans (hb5.mono HB4.out.size))
          | (go_at_call 11; refine (KW1.out _ hB5).mono ?_; rintro e' w6 ⟨hb6, x2, y2, v2, rfl, hp6⟩; have hB6 := hB5.trans (hb6.mono hB5.size))
          | (go_at_call 12; refine (KE.out _ _ _ hB6 hp6).mono ?_; rintro e' w7 ⟨rfl, hb7⟩; have hB7 := hB6.trans (hb7.mono hB6.size)))
        go_ret
        exact ⟨rfl, (HP.out w7 hB7).2⟩
  · obtain ⟨rfl, rfl⟩ : p = [] ∧ e = ci := by have := HCh.out; rw [if_neg hci, Prod.mk.injEq] at this; exact this
    have hne : (e == 0) = false := by simpa using hci
    have hne2 : (e != 0) = true := by simpa using hci
    have hee : (e == e) = true := by simp
    clear KN KW HCh HFi hci
    go_wp2_with fail
    go_ret
    exact ⟨rfl, (HP.out w4 HB4.out).2⟩

end Go.Proofs.YtcpeeedmghbdhaaGreatDoor
