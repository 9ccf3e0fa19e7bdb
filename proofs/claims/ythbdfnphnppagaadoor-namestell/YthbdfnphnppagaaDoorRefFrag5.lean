/-
  The reference's checkFrag with places: the loop over them.
-/
import Derived.Test.YthbdfnphnppagaaDoorRefFrag4
namespace Go.Proofs.YthbdfnphnppagaaDoor
open Go.RowKit
set_option linter.unusedVariables false

set_option maxHeartbeats 8000000 in
set_option maxRecDepth 100000 in
theorem rfrag_rels (s al : Int) (g : ByteArray) (n1 : Nat) (rs : List M.Rel) (ab ar : Option Addr) (cb cr : Nat) (many : Nat) (w : World) (hr : RelsAt w (.slice ar rs.length cr) rs) (hg : g.size ≤ maxLen) (hm : many ≤ 60)
    (h : M.within s 1 5 = true) (ha : M.isAlign al = true) (hgr : g.toList.isEmpty = true ∨ (g.toList.isEmpty = false ∧ M.isName g = true))
    (h64 : n1 ≤ 64) (h8 : rs.length ≤ 8) (x0 : ¬ s = 5) (x1 : ¬ s = 3) :
    Calls Tryd.prog 43 #[.agg #[.int .i64 s, .int .i64 al, .string g, .slice ab n1 cb, .int .i64 0, .slice ar rs.length cr], .int .i64 many] w fun e w' =>
      e = .returned (.int .i64 (M.checkRels n1 many 0 rs)) ∧ Below w.heap.size w w' := by
  have HX : Hid (M.checkRels n1 many 0 rs = M.checkRels n1 many 0 (rs.drop 0)) := rfl
  generalize M.checkRels n1 many 0 rs = R at *
  have h' : 1 ≤ s ∧ s ≤ 5 := by simpa [M.within] using h
  have d1 := tst_ge h'.1
  have d2 := tst_ge h'.2
  have d64 : decide (64 < (n1 : Int)) = false := tst_ge (by omega)
  have d8 : decide (8 < (rs.length : Int)) = false := tst_ge (by omega)
  have q1 := beq_no x0
  have q2 := bne_yes x0
  have q3 := beq_no x1
  clear h h' x0 x1
  rcases hgr with hgr1 | ⟨hgr1, hgr2⟩
  · go_enter Tryd.func43, Tryd.ntmps43
    go_wp2_with (go_at_call 44; refine (isAlign_any _ _).mono ?_; rintro e w1 ⟨rfl, hb1⟩; obtain ⟨hc1, hf1⟩ := bcell hb1; have hz1 := lt_of_alloc hb1)
    · have HB0 : Hid (Below w.heap.size w w1) := ((Below.refl _ _).alloc (Nat.le_refl _) _).trans (hb1.mono (by simp))
      have hz0 := hz1
      have hb0 : w1.cell? ⟨w.heap.size, 3, none⟩ = some (.slice ab n1 cb) := by rw [hc1 _ _ (by simp), World.cell?_alloc_at _ _ _ _ rfl]; rfl
      clear hb1 hc1 hf1 hz1
      go_loopw [5, 91] (fun s5 s91 wr => ∃ (k : Nat) (en : Int), k ≤ rs.length ∧ s91 = .int .i64 k ∧ s5 = .int .i64 en ∧ 0 ≤ en ∧ Hid (Below w.heap.size w wr) ∧ w.heap.size < wr.heap.size ∧ wr.cell? ⟨w.heap.size, 3, none⟩ = some (.slice ab n1 cb)
        ∧ Hid (R = M.checkRels n1 many en (rs.drop k))) (fun _ s91 _ => rs.length - (intOf s91).toNat)
      case atStart => exact ⟨0, 0, Nat.zero_le _, rfl, rfl, by omega, HB0, hz0, hb0, HX⟩
      case round =>
        clear HB0 hz0 hb0
        obtain ⟨k, en, hk, rfl, rfl, hen, HB, hsz, bx, HR⟩ := hrel
        by_cases hlt : k < rs.length
        · have hbw := HB.out
          obtain ⟨b, off, har, hc⟩ := (hr.1.later hbw).at k hlt
          obtain ⟨hnm, hkw⟩ := hr.2 _ (getD_mem rs rel0 k hlt)
          have HR1 := HR.out.trans (rels_step (len := n1) (many := many) (e := en) hlt)
          clear HR HX hr
          generalize rs.getD k rel0 = r at *
          obtain ⟨pos, kind, name, frag, add⟩ := r
          have e0 := hc 0 (by decide)
          have e1 := hc 1 (by decide)
          have e2 := hc 2 (by decide)
          have e3 := hc 3 (by decide)
          have e4 := hc 4 (by decide)
          simp only [relCell, Nat.add_zero] at e0 e1 e2 e3 e4 hnm hkw
          have hbr : b < wr.heap.size := World.block_lt_of_cell? _ _ e0
          have hwd := wide_bd kind
          obtain ⟨hwd0, hwd1⟩ := hwd
          clear hc
          subst har
          rw [← plcB_eq] at HR1
          simp only at HR1
          rcases placed_ways pos kind add en n1 h64 with ⟨hp, hw⟩ | ⟨hp, y0, y1, y2, y3, y4, y5⟩
          · have HR2 : Hid (R = 3) := by rw [Hid, HR1, hp]; rfl
            clear HR1 hp
            rcases hw with y0 | ⟨y0, y1⟩ | ⟨y0, y1, y2⟩ | ⟨y0, y1, y2, y3⟩ | ⟨y0, y1, y2, y3, y4⟩ | ⟨y0, y1, y2, y3, y4, y5⟩
            · have z0 : (M.wide kind == 0) = true := by simpa using y0
              clear y0
              go_wp2_with (go_at_call 15; refine (wideOf_any _ _ hkw).mono ?_; rintro e w3 ⟨rfl, hb3⟩; obtain ⟨hc3, hf3⟩ := bcell hb3; have hz3 := lt_of_alloc hb3)
              all_goals
              go_ret
              exact ⟨ret_int HR2.out.symm, hbw.trans (((Below.refl _ _).alloc (Nat.le_refl _) _).trans (hb3.mono (by simp)) |>.mono hbw.size)⟩
            · have z0 := beq_no y0
              have z1 := tst_lt y1
              go_wp2_with (go_at_call 15; refine (wideOf_any _ _ hkw).mono ?_; rintro e w3 ⟨rfl, hb3⟩; obtain ⟨hc3, hf3⟩ := bcell hb3; have hz3 := lt_of_alloc hb3)
              all_goals
              go_ret
              exact ⟨ret_int HR2.out.symm, hbw.trans (((Below.refl _ _).alloc (Nat.le_refl _) _).trans (hb3.mono (by simp)) |>.mono hbw.size)⟩
            · have z0 := beq_no y0
              have z1 := tst_ge y1
              have z2 := tst_lt y2
              go_wp2_with (go_at_call 15; refine (wideOf_any _ _ hkw).mono ?_; rintro e w3 ⟨rfl, hb3⟩; obtain ⟨hc3, hf3⟩ := bcell hb3; have hz3 := lt_of_alloc hb3)
              all_goals
              go_ret
              exact ⟨ret_int HR2.out.symm, hbw.trans (((Below.refl _ _).alloc (Nat.le_refl _) _).trans (hb3.mono (by simp)) |>.mono hbw.size)⟩
            · have z0 := beq_no y0
              have z1 := tst_ge y1
              have z3 := tst_lt y3
              go_wp2_with (go_at_call 15; refine (wideOf_any _ _ hkw).mono ?_; rintro e w3 ⟨rfl, hb3⟩; obtain ⟨hc3, hf3⟩ := bcell hb3; have hz3 := lt_of_alloc hb3)
              all_goals
              go_ret
              exact ⟨ret_int HR2.out.symm, hbw.trans (((Below.refl _ _).alloc (Nat.le_refl _) _).trans (hb3.mono (by simp)) |>.mono hbw.size)⟩
            · have z0 := beq_no y0
              have z1 := tst_ge y1
              have z2 := tst_ge y2
              have z3 := tst_ge y3
              have z4 := tst_lt y4
              go_wp2_with (go_at_call 15; refine (wideOf_any _ _ hkw).mono ?_; rintro e w3 ⟨rfl, hb3⟩; obtain ⟨hc3, hf3⟩ := bcell hb3; have hz3 := lt_of_alloc hb3)
              all_goals
              go_ret
              exact ⟨ret_int HR2.out.symm, hbw.trans (((Below.refl _ _).alloc (Nat.le_refl _) _).trans (hb3.mono (by simp)) |>.mono hbw.size)⟩
            · have z0 := beq_no y0
              have z1 := tst_ge y1
              have z2 := tst_ge y2
              have z3 := tst_ge y3
              have z4 := tst_ge y4
              have z5 := tst_lt y5
              go_wp2_with (go_at_call 15; refine (wideOf_any _ _ hkw).mono ?_; rintro e w3 ⟨rfl, hb3⟩; obtain ⟨hc3, hf3⟩ := bcell hb3; have hz3 := lt_of_alloc hb3)
              all_goals
              go_ret
              exact ⟨ret_int HR2.out.symm, hbw.trans (((Below.refl _ _).alloc (Nat.le_refl _) _).trans (hb3.mono (by simp)) |>.mono hbw.size)⟩
          · have HR2 : Hid (R = (if M.target ⟨pos, kind, name, frag, add⟩ many = 0 then M.checkRels n1 many (pos + M.wide kind) (rs.drop (k + 1)) else M.target ⟨pos, kind, name, frag, add⟩ many)) := by rw [Hid, HR1, hp]; rfl
            clear HR1 hp
            have z0 := beq_no y0
            have z1 := tst_ge y1
            have z2 := tst_ge y2
            have z3 := tst_ge y3
            have z4 := tst_ge y4
            have z5 := tst_ge y5
            cases hE : name.toList.isEmpty
            · cases hI : M.isName name
              · have HR3 : Hid (R = 1) := by rw [Hid, HR2.out]; simp [M.target, hE, hI]
                clear HR2
                go_wp2_with (first | (go_at_call 15; refine (wideOf_any _ _ hkw).mono ?_; rintro e w3 ⟨rfl, hb3⟩; obtain ⟨hc3, hf3⟩ := bcell hb3; have hz3 := lt_of_alloc hb3) | (go_at_call 13; refine (isName_any _ _ hnm).mono ?_; rintro e w4 ⟨rfl, hb4⟩; obtain ⟨hc4, hf4⟩ := bcell hb4))
                all_goals
                go_ret
                exact ⟨ret_int HR3.out.symm, hbw.trans (((Below.refl _ _).alloc (Nat.le_refl _) _).trans ((hb3.trans (hb4.mono hb3.size)).mono (by simp)) |>.mono hbw.size)⟩
              · cases hF : (frag == 0)
                · have HR3 : Hid (R = 1) := by rw [Hid, HR2.out]; simp [M.target, hE, hI, hF]
                  have zf := bne_of hF
                  clear HR2 hF
                  go_wp2_with (first | (go_at_call 15; refine (wideOf_any _ _ hkw).mono ?_; rintro e w3 ⟨rfl, hb3⟩; obtain ⟨hc3, hf3⟩ := bcell hb3; have hz3 := lt_of_alloc hb3) | (go_at_call 13; refine (isName_any _ _ hnm).mono ?_; rintro e w4 ⟨rfl, hb4⟩; obtain ⟨hc4, hf4⟩ := bcell hb4))
                  all_goals
                  go_ret
                  exact ⟨ret_int HR3.out.symm, hbw.trans (((Below.refl _ _).alloc (Nat.le_refl _) _).trans ((hb3.trans (hb4.mono hb3.size)).mono (by simp)) |>.mono hbw.size)⟩
                · have HR3 : Hid (R = M.checkRels n1 many (pos + M.wide kind) (rs.drop (k + 1))) := by rw [Hid, HR2.out]; simp [M.target, hE, hI, hF]
                  have zf := bne_of hF
                  clear HR2 hF
                  go_wp2_with (first | (go_at_call 15; refine (wideOf_any _ _ hkw).mono ?_; rintro e w3 ⟨rfl, hb3⟩; obtain ⟨hc3, hf3⟩ := bcell hb3; have hz3 := lt_of_alloc hb3) | (go_at_call 13; refine (isName_any _ _ hnm).mono ?_; rintro e w4 ⟨rfl, hb4⟩; obtain ⟨hc4, hf4⟩ := bcell hb4))
                  go_roundw
                  case rel =>
                    have hbb := (hb3.trans (hb4.mono hb3.size))
                    have hs2 := hbb.size
                    simp at hs2
                    refine ⟨k + 1, pos + M.wide kind, by omega, by go_num, by go_num, by omega, hbw.trans (((Below.refl _ _).alloc (Nat.le_refl _) _).trans (hbb.mono (by simp)) |>.mono hbw.size), by omega, ?_, HR3⟩
                    rw [hbb.cell (p := ⟨w.heap.size, 3, none⟩) (by simp; omega), World.cell?_alloc_past _ _ _ hsz]; exact bx
                  case measure => simp [intOf]; omega
            · by_cases hf1' : frag < -1
              · have HR3 : Hid (R = 5) := by
                  rw [Hid, HR2.out]
                  have hwn : M.within frag (-1) ((many : Int) - 1) = false := by simp [M.within]; omega
                  simp [M.target, hE, hwn]
                clear HR2
                have zf := tst_lt hf1'
                go_wp2_with (go_at_call 15; refine (wideOf_any _ _ hkw).mono ?_; rintro e w3 ⟨rfl, hb3⟩; obtain ⟨hc3, hf3⟩ := bcell hb3; have hz3 := lt_of_alloc hb3)
                all_goals
                go_ret
                exact ⟨ret_int HR3.out.symm, hbw.trans (((Below.refl _ _).alloc (Nat.le_refl _) _).trans (hb3.mono (by simp)) |>.mono hbw.size)⟩
              · by_cases hf2' : (many : Int) ≤ frag
                · have HR3 : Hid (R = 5) := by
                    rw [Hid, HR2.out]
                    have hwn : M.within frag (-1) ((many : Int) - 1) = false := by simp [M.within]; omega
                    simp [M.target, hE, hwn]
                  clear HR2
                  have zf := tst_ge (show (-1 : Int) ≤ frag by omega)
                  go_wp2_with (go_at_call 15; refine (wideOf_any _ _ hkw).mono ?_; rintro e w3 ⟨rfl, hb3⟩; obtain ⟨hc3, hf3⟩ := bcell hb3; have hz3 := lt_of_alloc hb3)
                  all_goals
                  go_ret
                  exact ⟨ret_int HR3.out.symm, hbw.trans (((Below.refl _ _).alloc (Nat.le_refl _) _).trans (hb3.mono (by simp)) |>.mono hbw.size)⟩
                · have HR3 : Hid (R = M.checkRels n1 many (pos + M.wide kind) (rs.drop (k + 1))) := by
                    rw [Hid, HR2.out]
                    have hwn : M.within frag (-1) ((many : Int) - 1) = true := by simp [M.within]; omega
                    simp [M.target, hE, hwn]
                  clear HR2
                  have zf := tst_ge (show (-1 : Int) ≤ frag by omega)
                  go_wp2_with (go_at_call 15; refine (wideOf_any _ _ hkw).mono ?_; rintro e w3 ⟨rfl, hb3⟩; obtain ⟨hc3, hf3⟩ := bcell hb3; have hz3 := lt_of_alloc hb3)
                  go_roundw
                  case rel =>
                    have hbb := hb3
                    have hs2 := hbb.size
                    simp at hs2
                    refine ⟨k + 1, pos + M.wide kind, by omega, by go_num, by go_num, by omega, hbw.trans (((Below.refl _ _).alloc (Nat.le_refl _) _).trans (hbb.mono (by simp)) |>.mono hbw.size), by omega, ?_, HR3⟩
                    rw [hbb.cell (p := ⟨w.heap.size, 3, none⟩) (by simp; omega), World.cell?_alloc_past _ _ _ hsz]; exact bx
                  case measure => simp [intOf]; omega
        · have HR0 : Hid (R = 0) := by
            have := HR.out
            rwa [List.drop_of_length_le (by omega)] at this
          clear HR HX
          go_wp2
          go_ret
          exact ⟨ret_int HR0.out.symm, HB.out⟩
  · go_enter Tryd.func43, Tryd.ntmps43
    go_wp2_with (first | (go_at_call 44; refine (isAlign_any _ _).mono ?_; rintro e w1 ⟨rfl, hb1⟩; obtain ⟨hc1, hf1⟩ := bcell hb1; have hz1 := lt_of_alloc hb1) | (go_at_call 13; refine (isName_any _ _ hg).mono ?_; rintro e w2 ⟨rfl, hb2⟩; obtain ⟨hc2, hf2⟩ := bcell hb2))
    · have HB0 : Hid (Below w.heap.size w w2) := ((Below.refl _ _).alloc (Nat.le_refl _) _).trans ((hb1.trans (hb2.mono hb1.size)).mono (by simp))
      have hz0 : w.heap.size < w2.heap.size := Nat.lt_of_lt_of_le hz1 hb2.size
      have hb0 : w2.cell? ⟨w.heap.size, 3, none⟩ = some (.slice ab n1 cb) := by rw [hc2 _ _ hz1, hc1 _ _ (by simp), World.cell?_alloc_at _ _ _ _ rfl]; rfl
      clear hb1 hc1 hf1 hz1 hb2 hc2 hf2
      go_loopw [5, 91] (fun s5 s91 wr => ∃ (k : Nat) (en : Int), k ≤ rs.length ∧ s91 = .int .i64 k ∧ s5 = .int .i64 en ∧ 0 ≤ en ∧ Hid (Below w.heap.size w wr) ∧ w.heap.size < wr.heap.size ∧ wr.cell? ⟨w.heap.size, 3, none⟩ = some (.slice ab n1 cb)
        ∧ Hid (R = M.checkRels n1 many en (rs.drop k))) (fun _ s91 _ => rs.length - (intOf s91).toNat)
      case atStart => exact ⟨0, 0, Nat.zero_le _, rfl, rfl, by omega, HB0, hz0, hb0, HX⟩
      case round =>
        clear HB0 hz0 hb0
        obtain ⟨k, en, hk, rfl, rfl, hen, HB, hsz, bx, HR⟩ := hrel
        by_cases hlt : k < rs.length
        · have hbw := HB.out
          obtain ⟨b, off, har, hc⟩ := (hr.1.later hbw).at k hlt
          obtain ⟨hnm, hkw⟩ := hr.2 _ (getD_mem rs rel0 k hlt)
          have HR1 := HR.out.trans (rels_step (len := n1) (many := many) (e := en) hlt)
          clear HR HX hr
          generalize rs.getD k rel0 = r at *
          obtain ⟨pos, kind, name, frag, add⟩ := r
          have e0 := hc 0 (by decide)
          have e1 := hc 1 (by decide)
          have e2 := hc 2 (by decide)
          have e3 := hc 3 (by decide)
          have e4 := hc 4 (by decide)
          simp only [relCell, Nat.add_zero] at e0 e1 e2 e3 e4 hnm hkw
          have hbr : b < wr.heap.size := World.block_lt_of_cell? _ _ e0
          have hwd := wide_bd kind
          obtain ⟨hwd0, hwd1⟩ := hwd
          clear hc
          subst har
          rw [← plcB_eq] at HR1
          simp only at HR1
          rcases placed_ways pos kind add en n1 h64 with ⟨hp, hw⟩ | ⟨hp, y0, y1, y2, y3, y4, y5⟩
          · have HR2 : Hid (R = 3) := by rw [Hid, HR1, hp]; rfl
            clear HR1 hp
            rcases hw with y0 | ⟨y0, y1⟩ | ⟨y0, y1, y2⟩ | ⟨y0, y1, y2, y3⟩ | ⟨y0, y1, y2, y3, y4⟩ | ⟨y0, y1, y2, y3, y4, y5⟩
            · have z0 : (M.wide kind == 0) = true := by simpa using y0
              clear y0
              go_wp2_with (go_at_call 15; refine (wideOf_any _ _ hkw).mono ?_; rintro e w3 ⟨rfl, hb3⟩; obtain ⟨hc3, hf3⟩ := bcell hb3; have hz3 := lt_of_alloc hb3)
              all_goals
              go_ret
              exact ⟨ret_int HR2.out.symm, hbw.trans (((Below.refl _ _).alloc (Nat.le_refl _) _).trans (hb3.mono (by simp)) |>.mono hbw.size)⟩
            · have z0 := beq_no y0
              have z1 := tst_lt y1
              go_wp2_with (go_at_call 15; refine (wideOf_any _ _ hkw).mono ?_; rintro e w3 ⟨rfl, hb3⟩; obtain ⟨hc3, hf3⟩ := bcell hb3; have hz3 := lt_of_alloc hb3)
              all_goals
              go_ret
              exact ⟨ret_int HR2.out.symm, hbw.trans (((Below.refl _ _).alloc (Nat.le_refl _) _).trans (hb3.mono (by simp)) |>.mono hbw.size)⟩
            · have z0 := beq_no y0
              have z1 := tst_ge y1
              have z2 := tst_lt y2
              go_wp2_with (go_at_call 15; refine (wideOf_any _ _ hkw).mono ?_; rintro e w3 ⟨rfl, hb3⟩; obtain ⟨hc3, hf3⟩ := bcell hb3; have hz3 := lt_of_alloc hb3)
              all_goals
              go_ret
              exact ⟨ret_int HR2.out.symm, hbw.trans (((Below.refl _ _).alloc (Nat.le_refl _) _).trans (hb3.mono (by simp)) |>.mono hbw.size)⟩
            · have z0 := beq_no y0
              have z1 := tst_ge y1
              have z3 := tst_lt y3
              go_wp2_with (go_at_call 15; refine (wideOf_any _ _ hkw).mono ?_; rintro e w3 ⟨rfl, hb3⟩; obtain ⟨hc3, hf3⟩ := bcell hb3; have hz3 := lt_of_alloc hb3)
              all_goals
              go_ret
              exact ⟨ret_int HR2.out.symm, hbw.trans (((Below.refl _ _).alloc (Nat.le_refl _) _).trans (hb3.mono (by simp)) |>.mono hbw.size)⟩
            · have z0 := beq_no y0
              have z1 := tst_ge y1
              have z2 := tst_ge y2
              have z3 := tst_ge y3
              have z4 := tst_lt y4
              go_wp2_with (go_at_call 15; refine (wideOf_any _ _ hkw).mono ?_; rintro e w3 ⟨rfl, hb3⟩; obtain ⟨hc3, hf3⟩ := bcell hb3; have hz3 := lt_of_alloc hb3)
              all_goals
              go_ret
              exact ⟨ret_int HR2.out.symm, hbw.trans (((Below.refl _ _).alloc (Nat.le_refl _) _).trans (hb3.mono (by simp)) |>.mono hbw.size)⟩
            · have z0 := beq_no y0
              have z1 := tst_ge y1
              have z2 := tst_ge y2
              have z3 := tst_ge y3
              have z4 := tst_ge y4
              have z5 := tst_lt y5
              go_wp2_with (go_at_call 15; refine (wideOf_any _ _ hkw).mono ?_; rintro e w3 ⟨rfl, hb3⟩; obtain ⟨hc3, hf3⟩ := bcell hb3; have hz3 := lt_of_alloc hb3)
              all_goals
              go_ret
              exact ⟨ret_int HR2.out.symm, hbw.trans (((Below.refl _ _).alloc (Nat.le_refl _) _).trans (hb3.mono (by simp)) |>.mono hbw.size)⟩
          · have HR2 : Hid (R = (if M.target ⟨pos, kind, name, frag, add⟩ many = 0 then M.checkRels n1 many (pos + M.wide kind) (rs.drop (k + 1)) else M.target ⟨pos, kind, name, frag, add⟩ many)) := by rw [Hid, HR1, hp]; rfl
            clear HR1 hp
            have z0 := beq_no y0
            have z1 := tst_ge y1
            have z2 := tst_ge y2
            have z3 := tst_ge y3
            have z4 := tst_ge y4
            have z5 := tst_ge y5
            cases hE : name.toList.isEmpty
            · cases hI : M.isName name
              · have HR3 : Hid (R = 1) := by rw [Hid, HR2.out]; simp [M.target, hE, hI]
                clear HR2
                go_wp2_with (first | (go_at_call 15; refine (wideOf_any _ _ hkw).mono ?_; rintro e w3 ⟨rfl, hb3⟩; obtain ⟨hc3, hf3⟩ := bcell hb3; have hz3 := lt_of_alloc hb3) | (go_at_call 13; refine (isName_any _ _ hnm).mono ?_; rintro e w4 ⟨rfl, hb4⟩; obtain ⟨hc4, hf4⟩ := bcell hb4))
                all_goals
                go_ret
                exact ⟨ret_int HR3.out.symm, hbw.trans (((Below.refl _ _).alloc (Nat.le_refl _) _).trans ((hb3.trans (hb4.mono hb3.size)).mono (by simp)) |>.mono hbw.size)⟩
              · cases hF : (frag == 0)
                · have HR3 : Hid (R = 1) := by rw [Hid, HR2.out]; simp [M.target, hE, hI, hF]
                  have zf := bne_of hF
                  clear HR2 hF
                  go_wp2_with (first | (go_at_call 15; refine (wideOf_any _ _ hkw).mono ?_; rintro e w3 ⟨rfl, hb3⟩; obtain ⟨hc3, hf3⟩ := bcell hb3; have hz3 := lt_of_alloc hb3) | (go_at_call 13; refine (isName_any _ _ hnm).mono ?_; rintro e w4 ⟨rfl, hb4⟩; obtain ⟨hc4, hf4⟩ := bcell hb4))
                  all_goals
                  go_ret
                  exact ⟨ret_int HR3.out.symm, hbw.trans (((Below.refl _ _).alloc (Nat.le_refl _) _).trans ((hb3.trans (hb4.mono hb3.size)).mono (by simp)) |>.mono hbw.size)⟩
                · have HR3 : Hid (R = M.checkRels n1 many (pos + M.wide kind) (rs.drop (k + 1))) := by rw [Hid, HR2.out]; simp [M.target, hE, hI, hF]
                  have zf := bne_of hF
                  clear HR2 hF
                  go_wp2_with (first | (go_at_call 15; refine (wideOf_any _ _ hkw).mono ?_; rintro e w3 ⟨rfl, hb3⟩; obtain ⟨hc3, hf3⟩ := bcell hb3; have hz3 := lt_of_alloc hb3) | (go_at_call 13; refine (isName_any _ _ hnm).mono ?_; rintro e w4 ⟨rfl, hb4⟩; obtain ⟨hc4, hf4⟩ := bcell hb4))
                  go_roundw
                  case rel =>
                    have hbb := (hb3.trans (hb4.mono hb3.size))
                    have hs2 := hbb.size
                    simp at hs2
                    refine ⟨k + 1, pos + M.wide kind, by omega, by go_num, by go_num, by omega, hbw.trans (((Below.refl _ _).alloc (Nat.le_refl _) _).trans (hbb.mono (by simp)) |>.mono hbw.size), by omega, ?_, HR3⟩
                    rw [hbb.cell (p := ⟨w.heap.size, 3, none⟩) (by simp; omega), World.cell?_alloc_past _ _ _ hsz]; exact bx
                  case measure => simp [intOf]; omega
            · by_cases hf1' : frag < -1
              · have HR3 : Hid (R = 5) := by
                  rw [Hid, HR2.out]
                  have hwn : M.within frag (-1) ((many : Int) - 1) = false := by simp [M.within]; omega
                  simp [M.target, hE, hwn]
                clear HR2
                have zf := tst_lt hf1'
                go_wp2_with (go_at_call 15; refine (wideOf_any _ _ hkw).mono ?_; rintro e w3 ⟨rfl, hb3⟩; obtain ⟨hc3, hf3⟩ := bcell hb3; have hz3 := lt_of_alloc hb3)
                all_goals
                go_ret
                exact ⟨ret_int HR3.out.symm, hbw.trans (((Below.refl _ _).alloc (Nat.le_refl _) _).trans (hb3.mono (by simp)) |>.mono hbw.size)⟩
              · by_cases hf2' : (many : Int) ≤ frag
                · have HR3 : Hid (R = 5) := by
                    rw [Hid, HR2.out]
                    have hwn : M.within frag (-1) ((many : Int) - 1) = false := by simp [M.within]; omega
                    simp [M.target, hE, hwn]
                  clear HR2
                  have zf := tst_ge (show (-1 : Int) ≤ frag by omega)
                  go_wp2_with (go_at_call 15; refine (wideOf_any _ _ hkw).mono ?_; rintro e w3 ⟨rfl, hb3⟩; obtain ⟨hc3, hf3⟩ := bcell hb3; have hz3 := lt_of_alloc hb3)
                  all_goals
                  go_ret
                  exact ⟨ret_int HR3.out.symm, hbw.trans (((Below.refl _ _).alloc (Nat.le_refl _) _).trans (hb3.mono (by simp)) |>.mono hbw.size)⟩
                · have HR3 : Hid (R = M.checkRels n1 many (pos + M.wide kind) (rs.drop (k + 1))) := by
                    rw [Hid, HR2.out]
                    have hwn : M.within frag (-1) ((many : Int) - 1) = true := by simp [M.within]; omega
                    simp [M.target, hE, hwn]
                  clear HR2
                  have zf := tst_ge (show (-1 : Int) ≤ frag by omega)
                  go_wp2_with (go_at_call 15; refine (wideOf_any _ _ hkw).mono ?_; rintro e w3 ⟨rfl, hb3⟩; obtain ⟨hc3, hf3⟩ := bcell hb3; have hz3 := lt_of_alloc hb3)
                  go_roundw
                  case rel =>
                    have hbb := hb3
                    have hs2 := hbb.size
                    simp at hs2
                    refine ⟨k + 1, pos + M.wide kind, by omega, by go_num, by go_num, by omega, hbw.trans (((Below.refl _ _).alloc (Nat.le_refl _) _).trans (hbb.mono (by simp)) |>.mono hbw.size), by omega, ?_, HR3⟩
                    rw [hbb.cell (p := ⟨w.heap.size, 3, none⟩) (by simp; omega), World.cell?_alloc_past _ _ _ hsz]; exact bx
                  case measure => simp [intOf]; omega
        · have HR0 : Hid (R = 0) := by
            have := HR.out
            rwa [List.drop_of_length_le (by omega)] at this
          clear HR HX
          go_wp2
          go_ret
          exact ⟨ret_int HR0.out.symm, HB.out⟩

end Go.Proofs.YthbdfnphnppagaaDoor
