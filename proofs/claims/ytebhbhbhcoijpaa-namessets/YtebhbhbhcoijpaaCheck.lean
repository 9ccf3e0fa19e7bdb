/-
  The contract of obj.Check.
-/
import Derived.Test.YtebhbhbhcoijpaaCheckFrag
namespace Go.Proofs.Ytebhbhbhcoijpaa
open Go.RowKit
set_option linter.unusedVariables false

theorem frags_step {many : Int} {fs : List M.Frg} {k : Nat} (hk : k < fs.length) :
    M.checkFrags many (fs.drop k) = (if M.checkFrag (fs.getD k frg0) many = 0 then M.checkFrags many (fs.drop (k + 1)) else M.checkFrag (fs.getD k frg0) many) := by
  rw [drop_getD fs frg0 k hk]; rfl

theorem defs_step {fs : List M.Frg} {ds : List M.Dfn} {k : Nat} (hk : k < ds.length) :
    M.checkDefs fs (ds.drop k) = (if M.checkDef (ds.getD k dfn0) fs = 0 then M.checkDefs fs (ds.drop (k + 1)) else M.checkDef (ds.getD k dfn0) fs) := by
  rw [drop_getD ds dfn0 k hk]; rfl

/-- what a fragment's six cells are, told plainly -/
theorem FragsAt.cells {w : World} {a : Option Addr} {c : Nat} {fs : List M.Frg} (h : FragsAt w (.slice a fs.length c) fs) (k : Nat) (hk : k < fs.length) :
    ∃ b off ab cb ar cr, a = some ⟨b, off, none⟩ ∧ w.cell? ⟨b, off + k * 6, none⟩ = some (.int .i64 (fs.getD k frg0).sect) ∧ w.cell? ⟨b, off + k * 6 + 1, none⟩ = some (.int .i64 (fs.getD k frg0).align)
      ∧ w.cell? ⟨b, off + k * 6 + 2, none⟩ = some (.string (fs.getD k frg0).group) ∧ w.cell? ⟨b, off + k * 6 + 3, none⟩ = some (.slice ab (fs.getD k frg0).bytes.length cb)
      ∧ w.cell? ⟨b, off + k * 6 + 4, none⟩ = some (.int .i64 (fs.getD k frg0).size) ∧ w.cell? ⟨b, off + k * 6 + 5, none⟩ = some (.slice ar (fs.getD k frg0).rels.length cr)
      ∧ BytesAt w (.slice ab (fs.getD k frg0).bytes.length cb) (fs.getD k frg0).bytes ∧ RelsAt w (.slice ar (fs.getD k frg0).rels.length cr) (fs.getD k frg0).rels ∧ (fs.getD k frg0).group.size ≤ maxLen ∧ (fs.getD k frg0).bytes.length ≤ maxLen := by
  obtain ⟨cell, hs, hf⟩ := h
  obtain ⟨b, off, rfl, hc⟩ := hs.at k hk
  have hfk := hf k hk
  obtain ⟨ab, cb, eb, hbl⟩ := hfk.bytes.1.form
  obtain ⟨ar, cr, er, _⟩ := hfk.rels.1.form
  have e0 := hc 0 (by decide)
  have e1 := hc 1 (by decide)
  have e2 := hc 2 (by decide)
  have e3 := hc 3 (by decide)
  have e4 := hc 4 (by decide)
  have e5 := hc 5 (by decide)
  rw [hfk.sect] at e0
  rw [hfk.align] at e1
  rw [hfk.group] at e2
  rw [eb] at e3
  rw [hfk.size] at e4
  rw [er] at e5
  exact ⟨b, off, ab, cb, ar, cr, rfl, e0, e1, e2, e3, e4, e5, eb ▸ hfk.bytes, er ▸ hfk.rels, hfk.ok, hbl⟩

theorem DefsAt.cells {w : World} {a : Option Addr} {c : Nat} {ds : List M.Dfn} (h : DefsAt w (.slice a ds.length c) ds) (k : Nat) (hk : k < ds.length) :
    ∃ b off, a = some ⟨b, off, none⟩ ∧ w.cell? ⟨b, off + k * 6, none⟩ = some (.string (ds.getD k dfn0).name) ∧ w.cell? ⟨b, off + k * 6 + 1, none⟩ = some (.int .i64 (ds.getD k dfn0).kind)
      ∧ w.cell? ⟨b, off + k * 6 + 2, none⟩ = some (.int .i64 (ds.getD k dfn0).frag) ∧ w.cell? ⟨b, off + k * 6 + 3, none⟩ = some (.int .i64 (ds.getD k dfn0).pos)
      ∧ w.cell? ⟨b, off + k * 6 + 4, none⟩ = some (.int .i64 (ds.getD k dfn0).size) ∧ w.cell? ⟨b, off + k * 6 + 5, none⟩ = some (.int .i64 (ds.getD k dfn0).align) ∧ (ds.getD k dfn0).name.size ≤ maxLen := by
  obtain ⟨b, off, rfl, hc⟩ := h.1.at k hk
  exact ⟨b, off, rfl, hc 0 (by decide), hc 1 (by decide), hc 2 (by decide), hc 3 (by decide), hc 4 (by decide), hc 5 (by decide), h.2 _ (getD_mem ds dfn0 k hk)⟩

set_option maxHeartbeats 2000000 in
theorem check_any (fs : List M.Frg) (ds : List M.Dfn) (a1 a2 : Option Addr) (c1 c2 : Nat) (w : World) (hf : FragsAt w (.slice a1 fs.length c1) fs) (hd : DefsAt w (.slice a2 ds.length c2) ds) :
    Calls Try.prog 13 #[.agg #[.slice a1 fs.length c1, .slice a2 ds.length c2]] w fun e w' =>
      e = .returned (.int .i64 (M.checkPart ⟨fs, ds⟩)) ∧ Below w.heap.size w w' := by
  have hfl : fs.length ≤ maxLen := by obtain ⟨cell, hs, _⟩ := hf; obtain ⟨_, _, _, h⟩ := hs.form; exact h
  have hdl : ds.length ≤ maxLen := by obtain ⟨_, _, _, h⟩ := hd.1.form; exact h
  unfold maxLen at hfl hdl
  by_cases h1 : 60 < fs.length
  · have HX : Hid (M.checkPart ⟨fs, ds⟩ = 2) := by simp [Hid, M.checkPart, h1]
    generalize M.checkPart ⟨fs, ds⟩ = R at *
    clear hf hd
    generalize fs.length = n at *
    generalize ds.length = m at *
    go_enter Try.func13, Try.ntmps13
    go_wp2
    go_ret
    exact ⟨ret_int HX.out.symm, (Below.refl _ _).alloc (Nat.le_refl _) _⟩
  by_cases h2 : 60 < ds.length
  · have HX : Hid (M.checkPart ⟨fs, ds⟩ = 2) := by simp [Hid, M.checkPart, h2]
    generalize M.checkPart ⟨fs, ds⟩ = R at *
    clear hf hd
    generalize fs.length = n at *
    generalize ds.length = m at *
    go_enter Try.func13, Try.ntmps13
    go_wp2
    go_ret
    exact ⟨ret_int HX.out.symm, (Below.refl _ _).alloc (Nat.le_refl _) _⟩
  have hd1 : decide (60 < (fs.length : Int)) = false := by simp; omega
  have hd2 : decide (60 < (ds.length : Int)) = false := by simp; omega
  have HX : Hid (M.checkPart ⟨fs, ds⟩ = if M.checkFrags fs.length (fs.drop 0) = 0 then M.checkDefs fs (ds.drop 0) else M.checkFrags fs.length (fs.drop 0)) := by
    simp only [Hid, M.checkPart]
    rw [if_neg (by omega)]
    rfl
  generalize M.checkPart ⟨fs, ds⟩ = R at *
  go_enter Try.func13, Try.ntmps13
  go_wp2_with fail
  go_loopw [22] (fun s22 wr => ∃ (k : Nat), k ≤ fs.length ∧ s22 = .int .i64 k ∧ Hid (Below w.heap.size w wr) ∧ w.heap.size < wr.heap.size ∧ wr.cell? ⟨w.heap.size, 0, none⟩ = some (.slice a1 fs.length c1) ∧ wr.cell? ⟨w.heap.size, 1, none⟩ = some (.slice a2 ds.length c2)
      ∧ Hid (R = if M.checkFrags fs.length (fs.drop k) = 0 then M.checkDefs fs (ds.drop 0) else M.checkFrags fs.length (fs.drop k))) (fun s22 _ => fs.length - (intOf s22).toNat)
  case atStart => exact ⟨0, Nat.zero_le _, rfl, (Below.refl _ _).alloc (Nat.le_refl _) _, by simp, by simp, by simp, HX⟩
  case round =>
    obtain ⟨k, hk, rfl, HB, hsz, b0, b1, HR⟩ := hrel
    clear HX
    by_cases hlt : k < fs.length
    · have hbw := HB.out
      obtain ⟨b, off, ab, cb, ar, cr, har, e0, e1, e2, e3, e4, e5, hBy, hRl, hg, hbl⟩ := (hf.later hbw).cells k hlt
      have HR1 := HR.out
      rw [frags_step hlt] at HR1
      clear HR hBy
      generalize fs.getD k frg0 = f at *
      obtain ⟨s, al, g, bs, sz, rs⟩ := f
      simp only at e0 e1 e2 e3 e4 e5 hRl hg hbl
      have hbr : b < wr.heap.size := World.block_lt_of_cell? _ _ e0
      have HP : Hid (Calls Try.prog 49 #[.agg #[.int .i64 s, .int .i64 al, .string g, .slice ab bs.length cb, .int .i64 sz, .slice ar rs.length cr], .int .i64 fs.length]
          (wr.alloc (.cells #[.int .i64 s, .int .i64 al, .string g, .slice ab bs.length cb, .int .i64 sz, .slice ar rs.length cr] 43)) fun e w' =>
        e = .returned (.int .i64 (M.checkFrag ⟨s, al, g, bs, sz, rs⟩ fs.length)) ∧ Below (wr.alloc (.cells #[.int .i64 s, .int .i64 al, .string g, .slice ab bs.length cb, .int .i64 sz, .slice ar rs.length cr] 43)).heap.size (wr.alloc (.cells #[.int .i64 s, .int .i64 al, .string g, .slice ab bs.length cb, .int .i64 sz, .slice ar rs.length cr] 43)) w') :=
        frag_any ⟨s, al, g, bs, sz, rs⟩ ab ar cb cr fs.length _ (hRl.later ((Below.refl _ _).alloc (Nat.le_refl _) _)) hg hbl (by omega)
      clear hRl hg hbl
      generalize M.checkFrag ⟨s, al, g, bs, sz, rs⟩ fs.length = cf at *
      generalize bs.length = n1 at *
      generalize rs.length = m1 at *
      clear hf hd
      subst har
      by_cases hcf : cf = 0
      · subst hcf
        have HR2 : Hid (R = if M.checkFrags fs.length (fs.drop (k + 1)) = 0 then M.checkDefs fs (ds.drop 0) else M.checkFrags fs.length (fs.drop (k + 1))) := by
          rw [if_pos rfl] at HR1
          exact HR1
        clear HR1
        go_wp2_with (go_at_call 49; refine HP.out.mono ?_; rintro e w2 ⟨rfl, hb2⟩; obtain ⟨hc2, hf2⟩ := bcell hb2)
        go_roundw
        case rel =>
          have hs2 := hb2.size
          simp at hs2
          refine ⟨k + 1, by omega, by go_num, hbw.trans (((Below.refl _ _).alloc (Nat.le_refl _) _).trans (hb2.mono (by simp)) |>.mono hbw.size), by omega, ?_, ?_, HR2⟩
          · rw [hb2.cell (p := ⟨w.heap.size, 0, none⟩) (by simp; omega), World.cell?_alloc_past _ _ _ hsz]; exact b0
          · rw [hb2.cell (p := ⟨w.heap.size, 1, none⟩) (by simp; omega), World.cell?_alloc_past _ _ _ hsz]; exact b1
        case measure => simp [intOf]; omega
      · have HR2 : Hid (R = cf) := by
          rw [if_neg hcf, if_neg hcf] at HR1
          exact HR1
        have hcn : (cf != 0) = true := by simpa using hcf
        clear HR1 hcf
        go_wp2_with (go_at_call 49; refine HP.out.mono ?_; rintro e w2 ⟨rfl, hb2⟩; obtain ⟨hc2, hf2⟩ := bcell hb2)
        go_ret
        exact ⟨ret_int HR2.out.symm, hbw.trans (((Below.refl _ _).alloc (Nat.le_refl _) _).trans (hb2.mono (by simp)) |>.mono hbw.size)⟩
    · have HR0 : Hid (R = M.checkDefs fs (ds.drop 0)) := by
        have := HR.out
        rw [List.drop_of_length_le (by omega)] at this
        exact this
      clear HR
      go_wp2_with fail
      go_loopw [38] (fun s38 wr => ∃ (j : Nat), j ≤ ds.length ∧ s38 = .int .i64 j ∧ Hid (Below w.heap.size w wr) ∧ w.heap.size < wr.heap.size ∧ wr.cell? ⟨w.heap.size, 0, none⟩ = some (.slice a1 fs.length c1)
          ∧ Hid (R = M.checkDefs fs (ds.drop j))) (fun s38 _ => ds.length - (intOf s38).toNat)
      case atStart => exact ⟨0, Nat.zero_le _, rfl, HB, hsz, b0, HR0⟩
      case round =>
        clear HR0 HB hsz b0 b1
        obtain ⟨j, hj, rfl, HB, hsz, b0, HR⟩ := hrel
        by_cases hjt : j < ds.length
        · have hbw := HB.out
          obtain ⟨b, off, har, e0, e1, e2, e3, e4, e5, hnm⟩ := (hd.later hbw).cells j hjt
          have HR1 := HR.out
          rw [defs_step hjt] at HR1
          have hbr : b < wr.heap.size := World.block_lt_of_cell? _ _ e0
          have HP : Hid (Calls Try.prog 50 #[.agg #[.string (ds.getD j dfn0).name, .int .i64 (ds.getD j dfn0).kind, .int .i64 (ds.getD j dfn0).frag, .int .i64 (ds.getD j dfn0).pos, .int .i64 (ds.getD j dfn0).size, .int .i64 (ds.getD j dfn0).align], .slice a1 fs.length c1]
              (wr.alloc (.cells #[.string (ds.getD j dfn0).name, .int .i64 (ds.getD j dfn0).kind, .int .i64 (ds.getD j dfn0).frag, .int .i64 (ds.getD j dfn0).pos, .int .i64 (ds.getD j dfn0).size, .int .i64 (ds.getD j dfn0).align] 69)) fun e w' =>
            e = .returned (.int .i64 (M.checkDef (ds.getD j dfn0) fs)) ∧ Below (wr.alloc (.cells #[.string (ds.getD j dfn0).name, .int .i64 (ds.getD j dfn0).kind, .int .i64 (ds.getD j dfn0).frag, .int .i64 (ds.getD j dfn0).pos, .int .i64 (ds.getD j dfn0).size, .int .i64 (ds.getD j dfn0).align] 69)).heap.size
              (wr.alloc (.cells #[.string (ds.getD j dfn0).name, .int .i64 (ds.getD j dfn0).kind, .int .i64 (ds.getD j dfn0).frag, .int .i64 (ds.getD j dfn0).pos, .int .i64 (ds.getD j dfn0).size, .int .i64 (ds.getD j dfn0).align] 69)) w') :=
            def_any (ds.getD j dfn0) fs a1 c1 _ ((hf.later hbw).later ((Below.refl _ _).alloc (Nat.le_refl _) _)) (by omega) hnm
          clear HR hf hd hnm
          generalize M.checkDef (ds.getD j dfn0) fs = cf at *
          generalize ds.getD j dfn0 = d at *
          obtain ⟨name, kind, frag, pos, size, align⟩ := d
          simp only at e0 e1 e2 e3 e4 e5 HP
          subst har
          by_cases hcf : cf = 0
          · subst hcf
            have HR2 : Hid (R = M.checkDefs fs (ds.drop (j + 1))) := by
              rw [if_pos rfl] at HR1
              exact HR1
            clear HR1
            go_wp2_with (go_at_call 50; refine HP.out.mono ?_; rintro e w2 ⟨rfl, hb2⟩; obtain ⟨hc2, hf2⟩ := bcell hb2)
            go_roundw
            case rel =>
              have hs2 := hb2.size
              simp at hs2
              refine ⟨j + 1, by omega, by go_num, hbw.trans (((Below.refl _ _).alloc (Nat.le_refl _) _).trans (hb2.mono (by simp)) |>.mono hbw.size), by omega, ?_, HR2⟩
              rw [hb2.cell (p := ⟨w.heap.size, 0, none⟩) (by simp; omega), World.cell?_alloc_past _ _ _ hsz]; exact b0
            case measure => simp [intOf]; omega
          · have HR2 : Hid (R = cf) := by
              rw [if_neg hcf] at HR1
              exact HR1
            have hcn : (cf != 0) = true := by simpa using hcf
            clear HR1 hcf
            go_wp2_with (go_at_call 50; refine HP.out.mono ?_; rintro e w2 ⟨rfl, hb2⟩; obtain ⟨hc2, hf2⟩ := bcell hb2)
            go_ret
            exact ⟨ret_int HR2.out.symm, hbw.trans (((Below.refl _ _).alloc (Nat.le_refl _) _).trans (hb2.mono (by simp)) |>.mono hbw.size)⟩
        · have HR0 : Hid (R = 0) := by
            have := HR.out
            rw [List.drop_of_length_le (by omega)] at this
            exact this
          clear HR
          go_wp2
          go_ret
          exact ⟨ret_int HR0.out.symm, HB.out⟩

end Go.Proofs.Ytebhbhbhcoijpaa
