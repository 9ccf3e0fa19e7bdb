/-
  The contract of the reference's CheckPart.
-/
import Derived.Test.YthbdfnphnppagaaDoorRefFragAll
import Derived.Test.YthbdfnphnppagaaDoorCheck
namespace Go.Proofs.YthbdfnphnppagaaDoor
open Go.RowKit
set_option linter.unusedVariables false
attribute [local go_sem] lat_cell

theorem later_old {wr w3 : World} {o : Obj} {a : Addr} {v : Value} (hb : Below (wr.alloc o).heap.size (wr.alloc o) w3) (h : wr.cell? a = some v) : w3.cell? a = some v :=
  cell_later hb ((World.cell?_alloc_lt _ _ _ (World.block_lt_of_cell? _ _ h)).trans h)

theorem later_new {wr w3 : World} {c : Array Value} {t : TypeId} (hb : Below (wr.alloc (.cells c t)).heap.size (wr.alloc (.cells c t)) w3) (i : Nat) (v : Value) (h : c[i]? = some v) : w3.cell? ⟨wr.heap.size, i, none⟩ = some v :=
  cell_later hb ((World.cell?_alloc_at _ _ _ _ rfl).trans h)

set_option maxHeartbeats 2000000 in
set_option maxRecDepth 100000 in
theorem rcheck_any (fs : List M.Frg) (ds : List M.Dfn) (a1 a2 : Option Addr) (c1 c2 : Nat) (w : World) (hf : FragsAt w (.slice a1 fs.length c1) fs) (hd : DefsAt w (.slice a2 ds.length c2) ds) :
    Calls Tryd.prog 9 #[.agg #[.slice a1 fs.length c1, .slice a2 ds.length c2]] w fun e w' =>
      e = .returned (.int .i64 (M.checkPart ⟨fs, ds⟩)) ∧ Below w.heap.size w w' := by
  have hfl : fs.length ≤ maxLen := by obtain ⟨cell, hs, _⟩ := hf; obtain ⟨_, _, _, h⟩ := hs.form; exact h
  have hdl : ds.length ≤ maxLen := by obtain ⟨_, _, _, h⟩ := hd.1.form; exact h
  unfold maxLen at hfl hdl
  by_cases h1 : 60 < fs.length
  · have HX : Hid (M.checkPart ⟨fs, ds⟩ = 2) := by simp [Hid, M.checkPart, h1]
    generalize M.checkPart ⟨fs, ds⟩ = R at *
    clear hf hd
    generalize fs.length = n at *
    generalize ds.length = m at *
    go_enter Tryd.func9, Tryd.ntmps9
    go_wp2
    go_ret
    exact ⟨ret_int HX.out.symm, (Below.refl _ _).alloc (Nat.le_refl _) _⟩
  by_cases h2 : 60 < ds.length
  · have HX : Hid (M.checkPart ⟨fs, ds⟩ = 2) := by simp [Hid, M.checkPart, h2]
    generalize M.checkPart ⟨fs, ds⟩ = R at *
    clear hf hd
    generalize fs.length = n at *
    generalize ds.length = m at *
    go_enter Tryd.func9, Tryd.ntmps9
    go_wp2
    go_ret
    exact ⟨ret_int HX.out.symm, (Below.refl _ _).alloc (Nat.le_refl _) _⟩
  have hd1 : decide (60 < (fs.length : Int)) = false := by simp; omega
  have hd2 : decide (60 < (ds.length : Int)) = false := by simp; omega
  have HX : Hid (M.checkPart ⟨fs, ds⟩ = if M.checkFrags fs.length (fs.drop 0) = 0 then M.checkDefs fs (ds.drop 0) else M.checkFrags fs.length (fs.drop 0)) := by
    simp only [Hid, M.checkPart]
    rw [if_neg (by omega)]
    rfl
  generalize M.checkPart ⟨fs, ds⟩ = R at *
  go_enter Tryd.func9, Tryd.ntmps9
  go_wp2_with fail
  go_loopw [21] (fun s21 wr => ∃ (k : Nat), k ≤ fs.length ∧ s21 = .int .i64 k ∧ Hid (Below w.heap.size w wr) ∧ w.heap.size < wr.heap.size ∧ wr.cell? ⟨w.heap.size, 0, none⟩ = some (.slice a1 fs.length c1) ∧ wr.cell? ⟨w.heap.size, 1, none⟩ = some (.slice a2 ds.length c2)
      ∧ Hid (R = if M.checkFrags fs.length (fs.drop k) = 0 then M.checkDefs fs (ds.drop 0) else M.checkFrags fs.length (fs.drop k))) (fun s21 _ => fs.length - (intOf s21).toNat)
  case atStart => exact ⟨0, Nat.zero_le _, rfl, (Below.refl _ _).alloc (Nat.le_refl _) _, by simp, by simp, by simp, HX⟩
  case round =>
    obtain ⟨k, hk, rfl, HB, hsz, b0, b1, HR⟩ := hrel
    clear HX
    by_cases hlt : k < fs.length
    · have hbw := HB.out
      obtain ⟨b, off, ab, cb, ar, cr, har, e0, e1, e2, e3, e4, e5, hBy, hRl, hg, hbl⟩ := (hf.later hbw).cells k hlt
      have HR1 := HR.out
      rw [frags_step hlt] at HR1
      clear HR hBy
      generalize fs.getD k frg0 = f at *
      obtain ⟨s, al, g, bs, sz, rs⟩ := f
      simp only at e0 e1 e2 e3 e4 e5 hRl hg hbl
      have hbr : b < wr.heap.size := World.block_lt_of_cell? _ _ e0
      have HP : Hid (Calls Tryd.prog 43 #[.agg #[.int .i64 s, .int .i64 al, .string g, .slice ab bs.length cb, .int .i64 sz, .slice ar rs.length cr], .int .i64 fs.length]
          (wr.alloc (.cells #[.int .i64 s, .int .i64 al, .string g, .slice ab bs.length cb, .int .i64 sz, .slice ar rs.length cr] 29)) fun e w' =>
        e = .returned (.int .i64 (M.checkFrag ⟨s, al, g, bs, sz, rs⟩ fs.length)) ∧ Below (wr.alloc (.cells #[.int .i64 s, .int .i64 al, .string g, .slice ab bs.length cb, .int .i64 sz, .slice ar rs.length cr] 29)).heap.size (wr.alloc (.cells #[.int .i64 s, .int .i64 al, .string g, .slice ab bs.length cb, .int .i64 sz, .slice ar rs.length cr] 29)) w') :=
        rfrag_any ⟨s, al, g, bs, sz, rs⟩ ab ar cb cr fs.length _ (hRl.later ((Below.refl _ _).alloc (Nat.le_refl _) _)) hg hbl (by omega)
      clear hRl hg hbl
      generalize M.checkFrag ⟨s, al, g, bs, sz, rs⟩ fs.length = cf at *
      generalize bs.length = n1 at *
      generalize rs.length = m1 at *
      clear hf hd
      subst har
      by_cases hcf : cf = 0
      · subst hcf
        have HR2 : Hid (R = if M.checkFrags fs.length (fs.drop (k + 1)) = 0 then M.checkDefs fs (ds.drop 0) else M.checkFrags fs.length (fs.drop (k + 1))) := by
          rw [if_pos rfl] at HR1
          exact HR1
        clear HR1
        go_wp2_with (go_at_call 43; refine HP.out.mono ?_; rintro e w2 ⟨rfl, hb2⟩; obtain ⟨hc2, hf2⟩ := bcell hb2)
        go_roundw
        case rel =>
          have hs2 := hb2.size
          simp at hs2
          refine ⟨k + 1, by omega, by go_num, hbw.trans (((Below.refl _ _).alloc (Nat.le_refl _) _).trans (hb2.mono (by simp)) |>.mono hbw.size), by omega, ?_, ?_, HR2⟩
          · rw [hb2.cell (p := ⟨w.heap.size, 0, none⟩) (by simp; omega), World.cell?_alloc_past _ _ _ hsz]; exact b0
          · rw [hb2.cell (p := ⟨w.heap.size, 1, none⟩) (by simp; omega), World.cell?_alloc_past _ _ _ hsz]; exact b1
        case measure => simp [intOf]; omega
      · have HR2 : Hid (R = cf) := by
          rw [if_neg hcf, if_neg hcf] at HR1
          exact HR1
        have hcn : (cf != 0) = true := by simpa using hcf
        clear HR1 hcf
        go_wp2_with (go_at_call 43; refine HP.out.mono ?_; rintro e w2 ⟨rfl, hb2⟩; obtain ⟨hc2, hf2⟩ := bcell hb2)
        go_ret
        exact ⟨ret_int HR2.out.symm, hbw.trans (((Below.refl _ _).alloc (Nat.le_refl _) _).trans (hb2.mono (by simp)) |>.mono hbw.size)⟩
    · have HR0 : Hid (R = M.checkDefs fs (ds.drop 0)) := by
        have := HR.out
        rw [List.drop_of_length_le (by omega)] at this
        exact this
      clear HR
      go_wp2_with fail
      go_loopw [37] (fun s37 wr => ∃ (j : Nat), j ≤ ds.length ∧ s37 = .int .i64 j ∧ Hid (Below w.heap.size w wr) ∧ w.heap.size < wr.heap.size ∧ wr.cell? ⟨w.heap.size, 0, none⟩ = some (.slice a1 fs.length c1)
          ∧ Hid (R = M.checkDefs fs (ds.drop j))) (fun s37 _ => ds.length - (intOf s37).toNat)
      case atStart => exact ⟨0, Nat.zero_le _, rfl, HB, hsz, b0, HR0⟩
      case round =>
        clear HR0 HB hsz b0 b1
        obtain ⟨j, hj, rfl, HB, hsz, b0, HR⟩ := hrel
        by_cases hjt : j < ds.length
        · have hbw := HB.out
          obtain ⟨b, off, har, e0, e1, e2, e3, e4, e5, hnm⟩ := (hd.later hbw).cells j hjt
          have HR1 := HR.out
          rw [defs_step hjt] at HR1
          have hbr : b < wr.heap.size := World.block_lt_of_cell? _ _ e0
          have hfr := hf.later hbw
          clear HR hf hd
          generalize ds.getD j dfn0 = d at *
          obtain ⟨name, kind, frag, pos, size, align⟩ := d
          simp only at e0 e1 e2 e3 e4 e5 hnm
          have hHF : Hid (FragsAt wr (.slice a1 fs.length c1) fs) := hfr
          clear hfr
          subst har
          generalize hcd : M.checkDef ⟨name, kind, frag, pos, size, align⟩ fs = cd at HR1
          unfold M.checkDef at hcd
          simp only at hcd
          go_wp2_with fail
          refine (isName_any _ _ hnm).mono ?_
          rintro e w3 ⟨rfl, hb3⟩
          have hz3 := lt_of_alloc hb3
          have g0 := later_new hb3 0 _ rfl
          have g1 := later_new hb3 1 _ rfl
          have g2 := later_new hb3 2 _ rfl
          have g3 := later_new hb3 3 _ rfl
          have g4 := later_new hb3 4 _ rfl
          have g5 := later_new hb3 5 _ rfl
          have gb := later_old hb3 b0
          have HBw : Hid (Below w.heap.size w w3) := hbw.trans (((Below.refl _ _).alloc (Nat.le_refl _) _).trans (hb3.mono (by simp)) |>.mono hbw.size)
          have HBr : Hid (Below wr.heap.size wr w3) := ((Below.refl _ _).alloc (Nat.le_refl _) _).trans (hb3.mono (by simp))
          have hsz3 : w.heap.size < w3.heap.size := by omega
          clear e0 e1 e2 e3 e4 e5 b0 hb3 hbw HB
          cases hI : M.isName name
          · have hv : cd = 1 := by rw [← hcd]; simp [hI]
            have HR2 : Hid (R = 1) := by rw [Hid, HR1, hv]; simp
            clear HR1 hcd hv
            go_wp2
            go_ret
            exact ⟨ret_int HR2.out.symm, HBw.out⟩
          rw [if_neg (by rw [hI]; simp)] at hcd
          by_cases hk1 : kind < 1
          · have z1 := tst_lt hk1
            have hv : cd = 4 := by rw [← hcd]; rw [if_neg (by omega), if_neg (by omega)]
            have HR2 : Hid (R = 4) := by rw [Hid, HR1, hv]; simp
            clear HR1 hcd hv
            go_wp2
            go_ret
            exact ⟨ret_int HR2.out.symm, HBw.out⟩
          by_cases hk3 : 3 < kind
          · have z1 := tst_ge (show (1 : Int) ≤ kind by omega)
            have z2 := tst_lt hk3
            have hv : cd = 4 := by rw [← hcd]; rw [if_neg (by omega), if_neg (by omega)]
            have HR2 : Hid (R = 4) := by rw [Hid, HR1, hv]; simp
            clear HR1 hcd hv
            go_wp2
            go_ret
            exact ⟨ret_int HR2.out.symm, HBw.out⟩
          have z1 := tst_ge (show (1 : Int) ≤ kind by omega)
          have z2 := tst_ge (show kind ≤ (3 : Int) by omega)
          by_cases hkc : kind = 3
          · subst hkc
            rw [if_neg (by omega), if_pos rfl] at hcd
            clear z1 z2 hk1 hk3
            cases hq1 : (frag == 0)
            · have y1 := bne_of hq1
              have hv : cd = 3 := by rw [← hcd]; simp [hq1]
              have HR2 : Hid (R = 3) := by rw [Hid, HR1, hv]; simp
              clear HR1 hcd hv
              go_wp2
              go_ret
              exact ⟨ret_int HR2.out.symm, HBw.out⟩
            have y1 := bne_of hq1
            cases hq2 : (pos == 0)
            · have y2 := bne_of hq2
              have hv : cd = 3 := by rw [← hcd]; simp [hq2]
              have HR2 : Hid (R = 3) := by rw [Hid, HR1, hv]; simp
              clear HR1 hcd hv
              clear hq1 hq2
              go_wp2
              go_ret
              exact ⟨ret_int HR2.out.symm, HBw.out⟩
            have y2 := bne_of hq2
            by_cases hq3 : size < 1
            · have y3 := tst_lt hq3
              have hv : cd = 3 := by
                rw [← hcd]
                have : M.within size 1 64 = false := by { simp [M.within]; omega }
                simp [this]
              have HR2 : Hid (R = 3) := by rw [Hid, HR1, hv]; simp
              clear HR1 hcd hv
              clear hq1 hq2
              go_wp2
              go_ret
              exact ⟨ret_int HR2.out.symm, HBw.out⟩
            have y3 := tst_ge (show (1 : Int) ≤ size by omega)
            by_cases hq4 : 64 < size
            · have y4 := tst_lt hq4
              have hv : cd = 3 := by
                rw [← hcd]
                have : M.within size 1 64 = false := by { simp [M.within]; omega }
                simp [this]
              have HR2 : Hid (R = 3) := by rw [Hid, HR1, hv]; simp
              clear HR1 hcd hv
              clear hq1 hq2
              go_wp2
              go_ret
              exact ⟨ret_int HR2.out.symm, HBw.out⟩
            have y4 := tst_ge (show size ≤ (64 : Int) by omega)
            have hq5 : M.within size 1 64 = true := by simp [M.within]; omega
            cases hq6 : M.isAlign align
            · have hv : cd = 3 := by rw [← hcd]; simp [hq6]
              have HR2 : Hid (R = 3) := by rw [Hid, HR1, hv]; simp
              clear HR1 hcd hv
              clear hq1 hq2
              go_wp2_with (go_at_call 44; refine (isAlign_any _ _).mono ?_; rintro e w4 ⟨rfl, hb4⟩)
              go_ret
              exact ⟨ret_int HR2.out.symm, HBw.out.trans (hb4.mono HBw.out.size)⟩
            · have hv : cd = 0 := by rw [← hcd]; simp [hq1, hq2, hq5, hq6]
              have HR2 : Hid (R = M.checkDefs fs (ds.drop (j + 1))) := by rw [Hid, HR1, hv]; simp
              clear HR1 hcd hv
              clear hq1 hq2
              go_wp2_with (go_at_call 44; refine (isAlign_any _ _).mono ?_; rintro e w4 ⟨rfl, hb4⟩)
              go_roundw
              case rel =>
                have hs4 := hb4.size
                exact ⟨j + 1, by omega, by go_num, HBw.out.trans (hb4.mono HBw.out.size), by omega, (hb4.cell (p := ⟨w.heap.size, 0, none⟩) hsz3).trans gb, HR2⟩
              case measure => simp [intOf]; omega
          · have z3 := beq_no hkc
            rw [if_pos (by omega)] at hcd
            clear hk1 hk3 hkc
            by_cases hf1 : frag < 0
            · have y1 := tst_lt hf1
              have hv : cd = 5 := by
                rw [← hcd]
                simp only [M.defAt]
                rw [if_neg (by simp [M.within]; omega)]
              have HR2 : Hid (R = 5) := by rw [Hid, HR1, hv]; simp
              clear HR1 hcd hv
              go_wp2
              go_ret
              exact ⟨ret_int HR2.out.symm, HBw.out⟩
            by_cases hf2 : (fs.length : Int) ≤ frag
            · have y1 := tst_ge (show (0 : Int) ≤ frag by omega)
              have hv : cd = 5 := by
                rw [← hcd]
                simp only [M.defAt]
                rw [if_neg (by simp [M.within]; omega)]
              have HR2 : Hid (R = 5) := by rw [Hid, HR1, hv]; simp
              clear HR1 hcd hv
              go_wp2
              go_ret
              exact ⟨ret_int HR2.out.symm, HBw.out⟩
            obtain ⟨i, rfl⟩ := Int.eq_ofNat_of_zero_le (show 0 ≤ frag by omega)
            have hil : i < fs.length := by omega
            obtain ⟨bb, oo, ab, cb, ar, cr, haa, x0, x1, x2, x3, x4, x5, _, _, _, _⟩ := (hHF.out.later HBr.out).cells i hil
            have hdf : M.defAt i pos size align fs = M.inFrag pos size align (fs.getD i frg0) := by
              unfold M.defAt
              rw [if_pos (by simp [M.within]; omega), Int.toNat_natCast, getElem?_getD fs frg0 i hil]
            rw [hdf] at hcd
            clear hdf hHF HBr
            generalize fs.getD i frg0 = f at *
            obtain ⟨s, al, g, bs, sz, rs⟩ := f
            have hlong : M.long ⟨s, al, g, bs, sz, rs⟩ = M.lng s sz bs.length := rfl
            simp only [M.inFrag, hlong] at hcd
            simp only at x0 x1 x2 x3 x4 x5
            clear hlong
            generalize bs.length = n1 at *
            generalize rs.length = m1 at *
            subst haa
            have hi0 : (0 : Int) ≤ (i : Int) := Int.natCast_nonneg i
            have hi1 : (i : Int) < (fs.length : Int) := by omega
            have y1 := tst_ge hi0
            have y2 : decide ((fs.length : Int) ≤ (i : Int)) = false := decide_eq_false (by omega)
            clear hf1 hf2
            go_wp2_with fail
            by_cases hq1 : pos < 0
            · have y3 := tst_lt hq1
              have hv : cd = 3 := by
                rw [← hcd]
                have : M.within pos 0 (M.lng s sz n1) = false := by { simp [M.within]; omega }
                simp [this]
              have HR2 : Hid (R = 3) := by rw [Hid, HR1, hv]; simp
              clear HR1 hcd hv
              refine wp_region_lat (by kernel_rfl) (by kernel_rfl) ?_
              intro hne
              repeat (go_big_quiet_step ((go_at_call 17; exact lat_of (longOf_any _ _ _ _ _ _ _ _ _))))
              refine wpQuiet_nil ?_
              intro w4 hb4'
              have hb4 := lat_out hb4'
              clear hne hb4'
              go_wp2
              go_ret
              exact ⟨ret_int HR2.out.symm, HBw.out.trans (hb4.mono HBw.out.size)⟩
            have y3 := tst_ge (show (0 : Int) ≤ pos by omega)
            by_cases hq2 : M.lng s sz n1 < pos
            · have y4 := tst_lt hq2
              have hv : cd = 3 := by
                rw [← hcd]
                have : M.within pos 0 (M.lng s sz n1) = false := by { simp [M.within]; omega }
                simp [this]
              have HR2 : Hid (R = 3) := by rw [Hid, HR1, hv]; simp
              clear HR1 hcd hv
              refine wp_region_lat (by kernel_rfl) (by kernel_rfl) ?_
              intro hne
              repeat (go_big_quiet_step ((go_at_call 17; exact lat_of (longOf_any _ _ _ _ _ _ _ _ _))))
              refine wpQuiet_nil ?_
              intro w4 hb4'
              have hb4 := lat_out hb4'
              clear hne hb4'
              go_wp2
              go_ret
              exact ⟨ret_int HR2.out.symm, HBw.out.trans (hb4.mono HBw.out.size)⟩
            have y4 := tst_ge (show pos ≤ M.lng s sz n1 by omega)
            have hq3 : M.within pos 0 (M.lng s sz n1) = true := by simp [M.within]; omega
            cases hq4 : (size == 0)
            · have y5 := bne_of hq4
              have hv : cd = 3 := by rw [← hcd]; simp [hq4]
              have HR2 : Hid (R = 3) := by rw [Hid, HR1, hv]; simp
              clear HR1 hcd hv
              clear hq4
              refine wp_region_lat (by kernel_rfl) (by kernel_rfl) ?_
              intro hne
              repeat (go_big_quiet_step ((go_at_call 17; exact lat_of (longOf_any _ _ _ _ _ _ _ _ _))))
              refine wpQuiet_nil ?_
              intro w4 hb4'
              have hb4 := lat_out hb4'
              clear hne hb4'
              go_wp2
              go_ret
              exact ⟨ret_int HR2.out.symm, HBw.out.trans (hb4.mono HBw.out.size)⟩
            have y5 := bne_of hq4
            cases hq5 : (align == 0)
            · have y6 := bne_of hq5
              have hv : cd = 3 := by rw [← hcd]; simp [hq5]
              have HR2 : Hid (R = 3) := by rw [Hid, HR1, hv]; simp
              clear HR1 hcd hv
              clear hq4 hq5
              refine wp_region_lat (by kernel_rfl) (by kernel_rfl) ?_
              intro hne
              repeat (go_big_quiet_step ((go_at_call 17; exact lat_of (longOf_any _ _ _ _ _ _ _ _ _))))
              refine wpQuiet_nil ?_
              intro w4 hb4'
              have hb4 := lat_out hb4'
              clear hne hb4'
              go_wp2
              go_ret
              exact ⟨ret_int HR2.out.symm, HBw.out.trans (hb4.mono HBw.out.size)⟩
            · have y6 := bne_of hq5
              have hv : cd = 0 := by rw [← hcd]; simp [hq3, hq4, hq5]
              have HR2 : Hid (R = M.checkDefs fs (ds.drop (j + 1))) := by rw [Hid, HR1, hv]; simp
              clear HR1 hcd hv
              clear hq4 hq5
              refine wp_region_lat (by kernel_rfl) (by kernel_rfl) ?_
              intro hne
              repeat (go_big_quiet_step ((go_at_call 17; exact lat_of (longOf_any _ _ _ _ _ _ _ _ _))))
              refine wpQuiet_nil ?_
              intro w4 hb4'
              have hb4 := lat_out hb4'
              clear hne hb4'
              go_wp2
              go_roundw
              case rel =>
                have hs4 := hb4.size
                exact ⟨j + 1, by omega, by go_num, HBw.out.trans (hb4.mono HBw.out.size), by omega, (hb4.cell (p := ⟨w.heap.size, 0, none⟩) hsz3).trans gb, HR2⟩
              case measure => simp [intOf]; omega
        · have HR0 : Hid (R = 0) := by
            have := HR.out
            rw [List.drop_of_length_le (by omega)] at this
            exact this
          clear HR
          go_wp2
          go_ret
          exact ⟨ret_int HR0.out.symm, HB.out⟩

end Go.Proofs.YthbdfnphnppagaaDoor
