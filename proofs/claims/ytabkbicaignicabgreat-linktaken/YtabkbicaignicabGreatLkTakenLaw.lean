/-
  The law of LinkTaken: it is true of every items, every base, every entry.
-/
import Derived.Test.YtabkbicaignicabGreatLkItems
import Derived.Test.YtabkbicaignicabGreatArChX
namespace Go.Proofs.YtabkbicaignicabGreat
open Go Go.RowKit
set_option linter.unusedVariables false

theorem fltsTwo_same : ∀ l : List Flt, M.allTwo sameFlt l l = true
  | [] => rfl
  | x :: l => by show (sameFlt x x && M.allTwo sameFlt l l) = true; rw [fltsTwo_same l]; unfold sameFlt; simp

set_option maxHeartbeats 8000000 in
set_option maxRecDepth 100000 in
theorem linkTaken_law (its : List M.Itm) (base : Int) (s : ByteArray) (a : Option Addr) (c : Nat) (w : World) (h : ItemsAt w (.slice a its.length c) its) (hsz : s.size ≤ maxLen) :
    Calls Tryz.prog 3 #[.slice a its.length c, .int .i64 base, .string s] w fun e w' => e = .returned (.bool true) ∧ Below w.heap.size w w' := by
  obtain ⟨i0, hi0, hz0, hz1, hz2⟩ := info_parts (P := Tryz.prog) (e := 40) (z := .agg #[.bool false, .slice none 0 0]) (size := 2) (bytes := 32) (by kernel_rfl)
  have KT : Hid (∀ W, Calls Tryz.prog 6 #[] W fun e w' => e = .returned (.bool true) ∧ Below W.heap.size W w') := fun W => linked_any W
  obtain ⟨m, fl, er, hl⟩ : ∃ im fl er, M.itemsL its base s = (im, fl, er) := ⟨_, _, _, rfl⟩
  have Hl : Hid _ := hl
  have KI : Hid (Calls Tryz.prog 4 #[.slice a its.length c, .int .i64 base, .string s] w _) := items_lk h hsz m fl er hl
  have HI0 : Hid (ItemsAt w (.slice a its.length c) its) := h
  clear h hl
  go_enter Tryz.func3, Tryz.ntmps3
  go_upto_region 2 with (go_at_call 4; refine KI.out.mono ?_; rintro e w1 ⟨hb1, e1, f1, e2, f2, rfl, hS1, hF1⟩)
  have VM : Hid (IVar (w1.alloc (.cells #[.int .i64 m.entry, .slice e1 m.segs.length f1] 25)) w1.heap.size e1 f1 m) := ivar_new hS1
  have HF1 : Hid (FltsAt (w1.alloc (.cells #[.int .i64 m.entry, .slice e1 m.segs.length f1] 25)) (.slice e2 fl.length f2) fl) := hF1.later ((Below.refl _ _).alloc (Nat.le_refl _) _)
  have HB1 : Hid (Below w.heap.size w (w1.alloc (.cells #[.int .i64 m.entry, .slice e1 m.segs.length f1] 25))) := hb1.alloc hb1.size _
  clear hS1 hF1 KI hb1
  generalize w1.alloc (.cells #[.int .i64 m.entry, .slice e1 m.segs.length f1] 25) = X1 at *
  generalize w1.heap.size = n7 at *
  have hbB : Below X1.heap.size X1 (X1.alloc (.cells #[.string s] 9)) := (Below.refl _ _).alloc (Nat.le_refl _) _
  have hst : StrsAt (X1.alloc (.cells #[.string s] 9)) (.slice (some ⟨X1.heap.size, 0, none⟩) [s].length 1) [s] := by
    refine ⟨⟨_, _, rfl, by show 1 ≤ maxLen; unfold maxLen; decide, .inr ⟨X1.heap.size, 0, rfl, fun j i hj hi => ?_⟩⟩, fun t ht => by rw [List.mem_singleton.1 ht]; exact hsz⟩
    obtain rfl : j = 0 := by simpa using hj
    obtain rfl : i = 0 := by omega
    exact cellB (heap_alloc_new X1 _) 0
  have KC : Hid (Calls Tryz.prog 5 #[.slice a its.length c, .slice (some ⟨X1.heap.size, 0, none⟩) 1 1] (X1.alloc (.cells #[.string s] 9)) fun e w' => ∃ x y, e = .returned (.tuple #[.slice x (M.choose its [s]).1.length y, .int .i64 (M.choose its [s]).2]) ∧ Below X1.heap.size X1 w' ∧ PartsAt w' (.slice x (M.choose its [s]).1.length y) (M.choose its [s]).1) := by
    refine (choose_v (HI0.out.later (HB1.out.trans (hbB.mono HB1.out.size))) hst).mono ?_
    rintro e w' ⟨v, rfl, ho⟩
    have hp := ChOut.parts ho
    obtain ⟨x, y, rfl⟩ := hp.form
    exact ⟨x, y, rfl, hbB.trans (ho.1.mono hbB.size), hp⟩
  have HBare : Hid ((M.choose its [s]).2 = 0 → (M.choose its [s]).1.length ≤ 12 → M.itemsL ((M.choose its [s]).1.map M.plainItem) base s = (m, fl, er)) := fun h1 h2 => (M.items_bare h1 h2).trans Hl.out
  clear hst hbB Hl HI0
  generalize M.choose its [s] = CH at *
  obtain ⟨ps, er2⟩ := CH
  simp only at KC HBare
  go_upto_region 3 with (go_at_call 5; refine KC.out.mono ?_; rintro e X2 ⟨x, y, rfl, hb2, hPa⟩)
  have hpl : ps.length ≤ maxLen := by obtain ⟨_, h, _⟩ := hPa; obtain ⟨_, _, _, h⟩ := h.form; exact h
  unfold maxLen at hpl
  have VM2 : Hid _ := VM.out.later hb2
  have HF2 : Hid (FltsAt X2 (.slice e2 fl.length f2) fl) := HF1.out.later hb2
  have HB2 : Hid (Below w.heap.size w X2) := HB1.out.trans (hb2.mono HB1.out.size)
  have HPa : Hid (PartsAt X2 (.slice x ps.length y) ps) := hPa
  clear KC hb2 hPa VM HF1 HB1
  by_cases her : er = 0
  case neg =>
    have her' : (er != 0) = true := by simpa using her
    clear HBare VM2 HF2 HPa
    go_upto_region 4 with (go_at_call 6; refine (KT.out _).mono ?_; rintro e w3 ⟨rfl, hb3⟩)
    go_wp2_with (go_at_call 6; refine (KT.out _).mono ?_; rintro e w4 ⟨rfl, hb4⟩)
    go_ret
    exact ⟨rfl, HB2.out.trans ((hb3.trans (hb4.mono hb3.size)).mono HB2.out.size)⟩
  subst her
  by_cases her2 : er2 = 0
  case neg =>
    have her2' : (er2 != 0) = true := by simpa using her2
    clear HBare VM2 HF2 HPa
    go_upto_region 4 with (go_at_call 6; refine (KT.out _).mono ?_; rintro e w3 ⟨rfl, hb3⟩)
    go_wp2_with (go_at_call 6; refine (KT.out _).mono ?_; rintro e w4 ⟨rfl, hb4⟩)
    go_ret
    exact ⟨rfl, HB2.out.trans ((hb3.trans (hb4.mono hb3.size)).mono HB2.out.size)⟩
  subst her2
  by_cases h12 : 12 < ps.length
  · have h12i : (12 : Int) < (ps.length : Int) := by omega
    clear HBare VM2 HF2 HPa
    go_upto_region 4 with (go_at_call 6; refine (KT.out _).mono ?_; rintro e w3 ⟨rfl, hb3⟩)
    go_wp2_with (go_at_call 6; refine (KT.out _).mono ?_; rintro e w4 ⟨rfl, hb4⟩)
    go_ret
    exact ⟨rfl, HB2.out.trans ((hb3.trans (hb4.mono hb3.size)).mono HB2.out.size)⟩
  have h12i : ¬ (12 : Int) < (ps.length : Int) := by omega
  have HBr : Hid (M.itemsL (ps.map M.plainItem) base s = (m, fl, 0)) := HBare.out (by trivial) (by omega)
  clear HBare
  go_upto_region 5 with (go_at_call 6; refine (KT.out _).mono ?_; rintro e X3 ⟨rfl, hb3⟩)
  have VM3 : Hid (IVar X3 n7 e1 f1 m) := VM2.out.later hb3
  have HF3 : Hid (FltsAt X3 (.slice e2 fl.length f2) fl) := HF2.out.later hb3
  have HB3 : Hid (Below w.heap.size w X3) := HB2.out.trans (hb3.mono HB2.out.size)
  have HP3 : Hid (PartsAt X3 (.slice x ps.length y) ps) := PartsAt.later HPa.out hb3
  have HI3 : Hid (IRow X3 X3 [] (.slice none 0 0)) := ⟨Below.refl _ _, World.ownsRow_nil _ _ _ _, fun e he => by cases he⟩
  clear VM2 HF2 HB2 HPa hb3
  go_wp2_with fail
  go_loopw [12, 50] (fun s12 s50 wr => ∃ (k : Nat) (es : List IEnt) (vI : Value), k ≤ ps.length ∧ s50 = .int .i64 k ∧ s12 = vI ∧ Hid (IRow X3 wr es vI) ∧ Hid (es.map (·.it) = (ps.take k).map M.plainItem) ∧ Hid (es.length = k)) (fun _ s50 _ => ps.length - (intOf s50).toNat)
  case atStart => exact ⟨0, [], _, Nat.zero_le _, rfl, rfl, HI3, rfl, rfl⟩
  case round =>
    obtain ⟨k, es, vI, hk, rfl, rfl, HI, HE, HL⟩ := hrel
    clear HI3
    by_cases hlt : k < ps.length
    · obtain ⟨b, off, p1, p2, d1, d2, rfl, e0w, e1w, hf, hd⟩ := part_at HP3.out k hlt
      have e0 := cell_later HI.out.below e0w
      have e1' := cell_later HI.out.below e1w
      have hbr : b < wr.heap.size := World.block_lt_of_cell? _ _ e0
      have hkl : (k : Int) < (ps.length : Int) := by omega
      obtain ⟨hI4, hG4, hS4⟩ := irow_round HI.out (ps.getD k M.nil) _ _ hf hd
      have HI4 : Hid _ := hI4
      have HG4 : Hid _ := hG4
      have HS4 : Hid _ := hS4
      have hel : es.length ≤ 12 := by rw [HL.out]; omega
      have HE' : Hid (es.map (·.it) ++ [M.plainItem (ps.getD k M.nil)] = (ps.take (k + 1)).map M.plainItem) := by
        rw [Hid, HE.out, List.take_succ_eq_append_getElem hlt, List.map_append, List.getD_eq_getElem?_getD, List.getElem?_eq_getElem hlt]; rfl
      clear hI4 hG4 hS4 e0w e1w hf hd
      generalize ps.getD k M.nil = p at *
      go_wp2_with (at_builtin; refine wpList_append_src _ rfl _ _ 22 rfl X3.heap.size 40 i0 (.agg #[.bool false, .slice none 0 0]) 2 32 Tryz.underlying22 hi0 hz0 hz1 hz2 rfl (by decide) _ es.length _ rfl HI4.out.row _ 1 _ rfl HS4.out rfl (fun u hu => by simp only [ientCells, List.mem_cons, List.not_mem_nil, or_false] at hu; rcases hu with rfl | rfl <;> rfl) (by unfold maxLen; omega) (by omega) HI4.out.below.size ?_; intro v1 w1 ho1 hg1)
      go_roundw
      case rel => exact ⟨k + 1, _, v1, by omega, by go_num, rfl, HI4.out.push HG4.out hg1 ho1, (by rw [Hid, List.map_append]; exact HE'.out), (by rw [Hid, List.length_append, HL.out]; rfl)⟩
      case measure => simp [intOf]; omega
    · obtain rfl : k = ps.length := by omega
      rw [List.take_length] at HE
      have hits := HI.out.items
      rw [HE.out] at hits
      have hBw := HI.out.below
      obtain ⟨aI, cI, rfl⟩ := own_len HI.out.row
      have VMr := VM3.out.later hBw
      have hFr := HF3.out.later hBw
      have HBr3 : Hid (Below w.heap.size w wr) := HB3.out.trans (hBw.mono HB3.out.size)
      have KI : Hid (Calls Tryz.prog 4 #[.slice aI es.length cI, .int .i64 base, .string s] wr _) := items_lk hits hsz m fl 0 HBr.out
      have HLe : Hid _ := HL
      clear hits hBw HI HE HL HP3 VM3 HF3 HB3 HBr
      generalize es.length = le at *
      go_upto_region 12 with (go_at_call 4; refine KI.out.mono ?_; rintro e w7 ⟨hb7, g1, h1, g2, h2, rfl, hS7, hF7⟩)
      have hbA : Below w7.heap.size w7 (w7.alloc (.cells #[.int .i64 m.entry, .slice g1 m.segs.length h1] 25)) := (Below.refl _ _).alloc (Nat.le_refl _) _
      have VJ := ivar_new (im := m) hS7
      have hF7' := hF7.later hbA
      have HB7 : Below wr.heap.size wr (w7.alloc (.cells #[.int .i64 m.entry, .slice g1 m.segs.length h1] 25)) := hb7.alloc hb7.size _
      clear hS7 hF7 KI hb7 hbA
      generalize w7.alloc (.cells #[.int .i64 m.entry, .slice g1 m.segs.length h1] 25) = X7 at *
      generalize w7.heap.size = n15 at *
      have VI7 := VMr.later HB7
      have hF6' := hFr.later HB7
      have HBX7 : Hid (Below w.heap.size w X7) := HBr3.out.trans (HB7.mono HBr3.out.size)
      have i0' : X7.cell? ⟨n7, 0, none⟩ = some (.int .i64 m.entry) := cellB VI7.blk 0
      have i1' : X7.cell? ⟨n7, 1, none⟩ = some (.slice e1 m.segs.length f1) := cellB VI7.blk 1
      have j0 : X7.cell? ⟨n15, 0, none⟩ = some (.int .i64 m.entry) := cellB VJ.blk 0
      have j1 : X7.cell? ⟨n15, 1, none⟩ = some (.slice g1 m.segs.length h1) := cellB VJ.blk 1
      have hli := VI7.lt
      have hlj := VJ.lt
      have KS : Hid (Calls Tryz.prog 7 #[.agg #[.int .i64 m.entry, .slice e1 m.segs.length f1], .agg #[.int .i64 m.entry, .slice g1 m.segs.length h1]] X7 fun e w' => e = .returned (.bool true) ∧ Below X7.heap.size X7 w') := by
        have := imgSame_any m m e1 g1 f1 h1 X7 VI7.segs VJ.segs
        rwa [sameImg_self] at this
      have KE : Hid (∀ W, Below X7.heap.size X7 W → Calls Tryz.prog 8 #[.slice e2 fl.length f2, .slice g2 fl.length h2] W fun e w' => e = .returned (.bool true) ∧ Below W.heap.size W w') := fun W hW => by
        have := eqFlts_any fl fl e2 g2 f2 h2 W (hF6'.later hW) (hF7'.later hW)
        rwa [fltsTwo_same] at this
      clear VI7 VJ VMr hFr hF6' hF7' HB7 HBr3
      go_wp2_with (first | (go_at_call 7; refine KS.out.mono ?_; rintro e w8 ⟨rfl, hb8⟩) | (go_at_call 8; refine (KE.out _ hb8).mono ?_; rintro e w9 ⟨rfl, hb9⟩))
      go_ret
      exact ⟨rfl, HBX7.out.trans ((hb8.trans (hb9.mono hb8.size)).mono HBX7.out.size)⟩

end Go.Proofs.YtabkbicaignicabGreat
