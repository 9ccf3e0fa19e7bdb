/-
  The reference's PartText: the text of a right part is what the plain model prints.
-/
import Derived.Test.YthiknlnhdjoipaaGreatDoorRefTextD
import Derived.Deep.DeepCutAuto
namespace Go.Proofs.YthiknlnhdjoipaaGreatDoor
open Go Go.RowKit
set_option linter.unusedVariables false
attribute [local go_sem] lat_cell

theorem rs_fields {w X : World} (hG : Glob w) (hBk : Blanks w) (hb : Below w.heap.size w X) :
    Calls Tryz.prog 29 #[.string ⟨#[45, 32, 99, 111, 100, 101, 32, 102, 105, 120, 101, 100, 32, 116, 101, 120, 116, 32, 100, 97, 116, 97, 32, 122, 101, 114, 111]⟩] X fun e w' => e = .returned (.slice (some ⟨X.heap.size, 0, none⟩) 6 6) ∧ w' = X.alloc (.cells ((([[45], [99, 111, 100, 101], [102, 105, 120, 101, 100], [116, 101, 120, 116], [100, 97, 116, 97], [122, 101, 114, 111]] : List M.Txt).map M.str).map Value.string).toArray 9) :=
  fields_any ⟨#[45, 32, 99, 111, 100, 101, 32, 102, 105, 120, 101, 100, 32, 116, 101, 120, 116, 32, 100, 97, 116, 97, 32, 122, 101, 114, 111]⟩ (([[45], [99, 111, 100, 101], [102, 105, 120, 101, 100], [116, 101, 120, 116], [100, 97, 116, 97], [122, 101, 114, 111]] : List M.Txt).map M.str) (by decide +kernel) (by decide) (by decide) X (hBk.later hG hb)
theorem rs_word (m : Nat) (h : 1 ≤ m ∧ m ≤ 5) : ((([[45], [99, 111, 100, 101], [102, 105, 120, 101, 100], [116, 101, 120, 116], [100, 97, 116, 97], [122, 101, 114, 111]] : List M.Txt).map M.str).map Value.string).toArray[m]? = some (.string (M.str (M.sectT.getD m []))) := by
  match m, h with
  | 1, _ | 2, _ | 3, _ | 4, _ | 5, _ => rfl
  | m + 6, h => omega

set_option maxHeartbeats 8000000 in
set_option maxRecDepth 1000000 in
/-- the reference's PartText of a right part -/
theorem rtext_any (fs : List M.Frg) (ds : List M.Dfn) (a1 a2 : Option Addr) (c1 c2 : Nat) (w : World) (hG : Glob w) (hBk : Blanks w) (hf : FragsAt w (.slice a1 fs.length c1) fs) (hd : DefsAt w (.slice a2 ds.length c2) ds) (hok : M.checkPart ⟨fs, ds⟩ = 0) :
    Calls Tryz.prog 8 #[.agg #[.slice a1 fs.length c1, .slice a2 ds.length c2]] w fun e w' => e = .returned (.string (M.str (M.print ⟨fs, ds⟩))) ∧ Below w.heap.size w w' := by
  have hO := part_ok hok
  have hn60 := hO.nfrags
  have HD : Hid (∀ W, Below w.heap.size w W → DefsAt W (.slice a2 ds.length c2) ds) := fun W hW => hd.later hW
  have HF : Hid (∀ W, Below w.heap.size w W → FragsAt W (.slice a1 fs.length c1) fs) := fun W hW => hf.later hW
  have HPO : Hid _ := hO
  clear hf hd hok hO
  go_enter Tryz.func8, Tryz.ntmps8
  go_upto_region 5 with fail
  obtain ⟨V0, hV0⟩ : ∃ V0, V0 = (w.alloc (.cells #[.slice a1 fs.length c1, .slice a2 ds.length c2] 25)).alloc (.cells #[.string ⟨#[]⟩] 9) := ⟨_, rfl⟩
  obtain ⟨b5, hb5e⟩ : ∃ b5, b5 = w.heap.size + 1 := ⟨_, rfl⟩
  obtain ⟨b1, hb1e⟩ : ∃ b1, b1 = w.heap.size := ⟨_, rfl⟩
  obtain ⟨pc, hpc⟩ : ∃ pc : Array Value, pc = #[.slice a1 fs.length c1, .slice a2 ds.length c2] := ⟨_, rfl⟩
  have HS0 : Hid (PtS w b1 b5 pc [] V0) := by
    rw [Hid, hV0, hb5e, hb1e, hpc]
    refine ⟨((Below.refl _ _).alloc (Nat.le_refl _) _).alloc (by simp) _, heap_alloc2_old _ _ _, ?_⟩
    exact heap_alloc2_new _ _ _
  have hb5 : w.heap.size ≤ b5 := by omega
  have HP0 : Hid (pc[0]? = some (.slice a1 fs.length c1) ∧ pc[1]? = some (.slice a2 ds.length c2)) := by rw [Hid, hpc]; exact ⟨rfl, rfl⟩
  have hne15 : b1 ≠ b5 := by omega
  rw [← hV0, ← hb5e, ← hb1e]
  clear hV0 hb5e hb1e hpc
  have p0 : V0.cell? ⟨b1, 0, none⟩ = some (.slice a1 fs.length c1) := (cellB HS0.out.c1 0).trans HP0.out.1
  have pl : b1 < V0.heap.size := (Array.getElem?_eq_some_iff.1 HS0.out.c1).1
  go_wp2_with fail
  go_loopw [23] (fun s23 wr => ∃ (k : Nat), k ≤ fs.length ∧ s23 = .int .i64 k ∧ Hid (PtS w b1 b5 pc (M.fragsText (fs.take k)) wr) ∧ (M.fragsText (fs.take k)).length ≤ 1000 * k) (fun s23 _ => fs.length - (intOf s23).toNat)
  case atStart => exact ⟨0, Nat.zero_le _, rfl, HS0, by simp [M.fragsText]⟩
  case round =>
    obtain ⟨k, hk, rfl, HSr, hlen⟩ := hrel
    clear HS0 p0 pl
    by_cases hlt : k < fs.length
    · obtain ⟨b, off, ab, cb, ar, cr, har, e0, e1, e2, e3, e4, e5, hBy, hRl0, hg, hbl⟩ := (HF.out wr HSr.out.bel).cells k hlt
      have HRl0 : Hid (∀ W, Below w.heap.size w W → RelsAt W (.slice ar (fs.getD k frg0).rels.length cr) (fs.getD k frg0).rels) := by
        obtain ⟨b', off', ab', cb', ar', cr', har', f0, f1, f2, f3, f4, f5, hBy', hRl', hg', hbl'⟩ := (HF.out w (Below.refl _ _)).cells k hlt
        have hab : b' = b ∧ off' = off := by
          have := har'.symm.trans har
          cases this; exact ⟨rfl, rfl⟩
        obtain ⟨rfl, rfl⟩ := hab
        have := (cell_later HSr.out.bel f5).symm.trans e5
        cases this
        exact fun W hW => hRl'.later hW
      have HO1 : Hid (OkFrg (fs.getD k frg0)) := HPO.out.frags _ (getD_mem fs frg0 k hlt)
      have HT : Hid (M.fragsText (fs.take (k + 1)) = M.fragsText (fs.take k) ++ M.fragText (fs.getD k frg0)) := flat_take frg0 M.fragText fs k hlt
      clear hRl0 hg hbl
      generalize fs.getD k frg0 = f at *
      subst har
      obtain ⟨sect, al, g, bs, sz, rs⟩ := f
      simp only at e0 e1 e2 e3 e4 e5 hBy HRl0
      have HRl : Hid (∀ W, Below w.heap.size w W → RelsAt W (.slice ar rs.length cr) rs) := HRl0
      clear HRl0
      have hbr : b < wr.heap.size := World.block_lt_of_cell? _ _ e0
      have hkl : (k : Int) < (fs.length : Int) := by omega
      have hse := HO1.out.sect
      simp only at hse
      obtain ⟨m, rfl⟩ := Int.eq_ofNat_of_zero_le (show 0 ≤ sect by omega)
      have hsm : 1 ≤ m ∧ m ≤ 5 := by omega
      have hm0 : (0 : Int) ≤ (m : Int) := by omega
      have hm1 : (m : Int) < ((6 : Nat) : Int) := by omega
      have hlw : b5 < wr.heap.size := (Array.getElem?_eq_some_iff.1 HSr.out.c5).1
      go_upto_region 8 with fail
      have hA := (Below.refl wr.heap.size wr).alloc (Nat.le_refl _) (.cells #[.int .i64 m, .int .i64 al, .string g, .slice ab bs.length cb, .int .i64 sz, .slice ar rs.length cr] 50)
      have q0 := heap_alloc_new wr (.cells #[.int .i64 m, .int .i64 al, .string g, .slice ab bs.length cb, .int .i64 sz, .slice ar rs.length cr] 50)
      have HW : Hid (PtS w b1 b5 pc (M.fragsText (fs.take k)) (wr.alloc (.cells #[.int .i64 m, .int .i64 al, .string g, .slice ab bs.length cb, .int .i64 sz, .slice ar rs.length cr] 50))) := HSr.out.later hA
      have hByW := hBy.later hA
      have hbb : wr.heap.size ≠ b5 := by omega
      clear hA HSr e0 e1 e2 e3 e4 e5 hBy hbr hlw
      generalize wr.heap.size = bb at *
      generalize wr.alloc (.cells #[.int .i64 m, .int .i64 al, .string g, .slice ab bs.length cb, .int .i64 sz, .slice ar rs.length cr] 50) = W at *
      have x3 : W.cell? ⟨bb, 3, none⟩ = some (.slice ab bs.length cb) := cellB q0 3
      have hlW : bb < W.heap.size := (Array.getElem?_eq_some_iff.1 q0).1
      have h64 : bs.length ≤ 64 := HO1.out.bytes
      go_wp2_with fail
      refine rt_hex W bs ab cb hByW h64 ?_
      intro u9 u11 u30 u31 u32 u33 u34 u35 u36 u37 u38 u39 u40 u41 u42 u43 u44 u45 W2 h2
      obtain ⟨rfl, hb2⟩ := h2
      have HW2 : Hid (PtS w b1 b5 pc (M.fragsText (fs.take k)) W2) := HW.out.later hb2
      have q2 := (hb2.block _ (Array.getElem?_eq_some_iff.1 q0).1).trans q0
      clear hb2 HW q0 x3 hlW hByW
      have KO : Hid (Calls Tryz.prog 27 #[.string (M.str (M.hex bs))] W2 fun e w' => e = .returned (.string (M.str (M.orDash (M.hex bs)))) ∧ w' = W2) := by
        have h := refOr_any (M.str (M.hex bs)) W2
        rw [txt_str] at h
        exact h
      have z0 : W2.cell? ⟨bb, 0, none⟩ = some (.int .i64 m) := cellB q2 0
      have z4 : W2.cell? ⟨bb, 4, none⟩ = some (.int .i64 sz) := cellB q2 4
      have hl2 : bb < W2.heap.size := (Array.getElem?_eq_some_iff.1 q2).1
      have HCt : Hid (M.content ⟨m, al, g, bs, sz, rs⟩ = if (m : Int) = 5 then Lib.itoa sz else M.orDash (M.hex bs)) := rfl
      have HFl : Hid (M.fragLine ⟨m, al, g, bs, sz, rs⟩ = M.line (([⟨#[102, 114, 97, 103]⟩, M.str (M.sectT.getD m []), M.str (Lib.itoa al), M.str (M.orDash (M.txt g)), M.str (M.content ⟨m, al, g, bs, sz, rs⟩)] : List ByteArray).map M.txt)) := by
        simp only [Hid, List.map_cons, List.map_nil, txt_str]; rfl
      have HKs : Hid (∀ X, Below w.heap.size w X → Calls Tryz.prog 16 #[.int .i64 sz] X fun e w' => e = .returned (.string (M.str (Lib.itoa sz))) ∧ Below X.heap.size X w') := fun X hX => itoa_any sz (fits_of (by have := HO1.out.size; simp only at this; omega)) X (hG.later hX)
      generalize M.orDash (M.hex bs) = hxt at *
      by_cases h5 : (m : Int) = 5
      · have hkb : ((m : Int) == 5) = true := by simpa using h5
        have HL : Hid (M.fragLine ⟨m, al, g, bs, sz, rs⟩ = M.line (([⟨#[102, 114, 97, 103]⟩, M.str (M.sectT.getD m []), M.str (Lib.itoa al), M.str (M.orDash (M.txt g)), M.str (Lib.itoa sz)] : List ByteArray).map M.txt)) := by
          have := HFl.out
          rwa [HCt.out, if_pos h5] at this
        clear HFl HCt h5
        go_upto_region 17 with (first | (go_at_call 27; refine KO.out.mono ?_; rintro e W3 ⟨rfl, rfl⟩) | (go_at_call 16; refine (HKs.out _ HW2.out.bel).mono ?_; rintro e V ⟨rfl, hbV⟩))
        have HV : Hid (PtS w b1 b5 pc (M.fragsText (fs.take k)) V) := HW2.out.later hbV
        have qV := (hbV.block _ (Array.getElem?_eq_some_iff.1 q2).1).trans q2
        clear hbV HW2 q2 KO HKs z0 z4 hl2 hkb
        have HLL : Hid ((M.fragLine ⟨m, al, g, bs, sz, rs⟩).length ≤ 200) := fragLine_len HO1.out
        have KF : Hid (∀ X, Below V.heap.size V X → Calls Tryz.prog 29 #[.string ⟨#[45, 32, 99, 111, 100, 101, 32, 102, 105, 120, 101, 100, 32, 116, 101, 120, 116, 32, 100, 97, 116, 97, 32, 122, 101, 114, 111]⟩] X fun e w' => e = .returned (.slice (some ⟨X.heap.size, 0, none⟩) 6 6) ∧ w' = X.alloc (.cells ((([[45], [99, 111, 100, 101], [102, 105, 120, 101, 100], [116, 101, 120, 116], [100, 97, 116, 97], [122, 101, 114, 111]] : List M.Txt).map M.str).map Value.string).toArray 9)) := fun X hX => rs_fields hG hBk (HV.out.bel.trans (hX.mono HV.out.bel.size))
        have K1 : Hid (∀ X, Below V.heap.size V X → Calls Tryz.prog 16 #[.int .i64 al] X fun e w' => e = .returned (.string (M.str (Lib.itoa al))) ∧ Below X.heap.size X w') := fun X hX => itoa_any al (fits_of (by have := HO1.out.align; simp only at this; omega)) X (hG.later (HV.out.bel.trans (hX.mono HV.out.bel.size)))
        have K2 : Hid (∀ X, Below V.heap.size V X → Calls Tryz.prog 27 #[.string g] X fun e w' => e = .returned (.string (M.str (M.orDash (M.txt g)))) ∧ Below X.heap.size X w') := fun X _ => (refOr_any g X).mono fun e w' ⟨h1, h2⟩ => ⟨h1, by rw [h2]; exact Below.refl _ _⟩
        have hc5 : V.cell? ⟨b5, 0, none⟩ = some (.string (M.str (M.fragsText (fs.take k)))) := cellB HV.out.c5 0
        have hl5 : b5 < V.heap.size := (Array.getElem?_eq_some_iff.1 HV.out.c5).1
        have hz5 : V.frozen? ⟨b5, 0, none⟩ = false := frozenB HV.out.c5 0
        have x0 : V.cell? ⟨bb, 0, none⟩ = some (.int .i64 m) := cellB qV 0
        have x1 : V.cell? ⟨bb, 1, none⟩ = some (.int .i64 al) := cellB qV 1
        have x2 : V.cell? ⟨bb, 2, none⟩ = some (.string g) := cellB qV 2
        refine rt_r17 w V b5 bb m 6 _ _ _ _ al _ g _ _ KF rfl (rs_word m hsm) hm0 hm1 hc5 hl5 hz5 K1 K2 x0 x1 x2 (by rw [← HL.out]; have := HLL.out; omega) ?_
        intro y56 y57 y58 y59 y60 y61 y62 y63 y64 y65 y66 y67 y68 y69 y70 y71 y72 X hX
        rw [← HL.out]
        have HE : Hid (PtS w b1 b5 pc (M.fragsText (fs.take k) ++ M.fragLine ⟨m, al, g, bs, sz, rs⟩) (X.setCell ⟨b5, 0, none⟩ (.string (M.str (M.fragsText (fs.take k) ++ M.fragLine ⟨m, al, g, bs, sz, rs⟩))))) := (HV.out.later hX).put hb5 hne15 _
        have qX : (X.setCell ⟨b5, 0, none⟩ (.string (M.str (M.fragsText (fs.take k) ++ M.fragLine ⟨m, al, g, bs, sz, rs⟩)))).heap[bb]? = some (.cells #[.int .i64 m, .int .i64 al, .string g, .slice ab bs.length cb, .int .i64 sz, .slice ar rs.length cr] 50 (0, 0)) := (Below.heap_setCell _ _ _ _ hbb).trans ((hX.block _ (Array.getElem?_eq_some_iff.1 qV).1).trans qV)
        clear KF K1 K2 hc5 hl5 hz5 HL x0 x1 x2 HV hX qV
        generalize X.setCell ⟨b5, 0, none⟩ (.string (M.str (M.fragsText (fs.take k) ++ M.fragLine ⟨m, al, g, bs, sz, rs⟩))) = Z at *
        have x5 : Z.cell? ⟨bb, 5, none⟩ = some (.slice ar rs.length cr) := cellB qX 5
        have hlZ : bb < Z.heap.size := (Array.getElem?_eq_some_iff.1 qX).1
        go_wp2_with fail
        refine rt_rels w Z b1 b5 pc hG hBk hb5 hne15 (M.fragsText (fs.take k) ++ M.fragLine ⟨m, al, g, bs, sz, rs⟩) (1000 * k + 200) rs ar cr HRl HO1.out.rels HO1.out.nrels (by omega) HE (by rw [List.length_append]; have := HLL.out; omega) ?_
        intro u13 u14 u76 u77 u78 u79 u80 u81 u82 u83 u84 u85 u86 u87 u88 u89 u90 u91 u92 u93 u94 u95 u96 u97 u98 u99 u100 u101 u102 u103 u104 u105 u106 Z2 hZ2
        have HZ2 : Hid _ := hZ2
        clear hZ2 x5 hlZ qX HE
        go_wp2_with fail
        go_roundw
        case rel =>
          have h8 := HO1.out.nrels
          simp only at h8
          have hft : M.fragText ⟨m, al, g, bs, sz, rs⟩ = M.fragLine ⟨m, al, g, bs, sz, rs⟩ ++ M.relsText rs := rfl
          refine ⟨k + 1, by omega, by go_num, ?_, ?_⟩
          · rw [HT.out, hft, ← List.append_assoc]; exact HZ2.out.1
          · rw [HT.out, hft, ← List.append_assoc]; have := HZ2.out.2; omega
        case measure => simp [intOf]; omega
      · have hkb : ((m : Int) == 5) = false := by simpa using h5
        have HL : Hid (M.fragLine ⟨m, al, g, bs, sz, rs⟩ = M.line (([⟨#[102, 114, 97, 103]⟩, M.str (M.sectT.getD m []), M.str (Lib.itoa al), M.str (M.orDash (M.txt g)), M.str hxt] : List ByteArray).map M.txt)) := by
          have := HFl.out
          rwa [HCt.out, if_neg h5] at this
        clear HFl HCt h5
        go_upto_region 17 with (go_at_call 27; refine KO.out.mono ?_; rintro e W3 ⟨rfl, rfl⟩)
        obtain ⟨V, HVW⟩ : ∃ V, V = W3 := ⟨_, rfl⟩
        rw [← HVW]
        have HV : Hid (PtS w b1 b5 pc (M.fragsText (fs.take k)) V) := by rw [Hid, HVW]; exact HW2.out
        have qV : V.heap[bb]? = some (.cells #[.int .i64 m, .int .i64 al, .string g, .slice ab bs.length cb, .int .i64 sz, .slice ar rs.length cr] 50 (0, 0)) := by rw [HVW]; exact q2
        clear HVW HW2 q2 KO HKs z0 z4 hl2 hkb
        have HLL : Hid ((M.fragLine ⟨m, al, g, bs, sz, rs⟩).length ≤ 200) := fragLine_len HO1.out
        have KF : Hid (∀ X, Below V.heap.size V X → Calls Tryz.prog 29 #[.string ⟨#[45, 32, 99, 111, 100, 101, 32, 102, 105, 120, 101, 100, 32, 116, 101, 120, 116, 32, 100, 97, 116, 97, 32, 122, 101, 114, 111]⟩] X fun e w' => e = .returned (.slice (some ⟨X.heap.size, 0, none⟩) 6 6) ∧ w' = X.alloc (.cells ((([[45], [99, 111, 100, 101], [102, 105, 120, 101, 100], [116, 101, 120, 116], [100, 97, 116, 97], [122, 101, 114, 111]] : List M.Txt).map M.str).map Value.string).toArray 9)) := fun X hX => rs_fields hG hBk (HV.out.bel.trans (hX.mono HV.out.bel.size))
        have K1 : Hid (∀ X, Below V.heap.size V X → Calls Tryz.prog 16 #[.int .i64 al] X fun e w' => e = .returned (.string (M.str (Lib.itoa al))) ∧ Below X.heap.size X w') := fun X hX => itoa_any al (fits_of (by have := HO1.out.align; simp only at this; omega)) X (hG.later (HV.out.bel.trans (hX.mono HV.out.bel.size)))
        have K2 : Hid (∀ X, Below V.heap.size V X → Calls Tryz.prog 27 #[.string g] X fun e w' => e = .returned (.string (M.str (M.orDash (M.txt g)))) ∧ Below X.heap.size X w') := fun X _ => (refOr_any g X).mono fun e w' ⟨h1, h2⟩ => ⟨h1, by rw [h2]; exact Below.refl _ _⟩
        have hc5 : V.cell? ⟨b5, 0, none⟩ = some (.string (M.str (M.fragsText (fs.take k)))) := cellB HV.out.c5 0
        have hl5 : b5 < V.heap.size := (Array.getElem?_eq_some_iff.1 HV.out.c5).1
        have hz5 : V.frozen? ⟨b5, 0, none⟩ = false := frozenB HV.out.c5 0
        have x0 : V.cell? ⟨bb, 0, none⟩ = some (.int .i64 m) := cellB qV 0
        have x1 : V.cell? ⟨bb, 1, none⟩ = some (.int .i64 al) := cellB qV 1
        have x2 : V.cell? ⟨bb, 2, none⟩ = some (.string g) := cellB qV 2
        refine rt_r17 w V b5 bb m 6 _ _ _ _ al _ g _ _ KF rfl (rs_word m hsm) hm0 hm1 hc5 hl5 hz5 K1 K2 x0 x1 x2 (by rw [← HL.out]; have := HLL.out; omega) ?_
        intro y56 y57 y58 y59 y60 y61 y62 y63 y64 y65 y66 y67 y68 y69 y70 y71 y72 X hX
        rw [← HL.out]
        have HE : Hid (PtS w b1 b5 pc (M.fragsText (fs.take k) ++ M.fragLine ⟨m, al, g, bs, sz, rs⟩) (X.setCell ⟨b5, 0, none⟩ (.string (M.str (M.fragsText (fs.take k) ++ M.fragLine ⟨m, al, g, bs, sz, rs⟩))))) := (HV.out.later hX).put hb5 hne15 _
        have qX : (X.setCell ⟨b5, 0, none⟩ (.string (M.str (M.fragsText (fs.take k) ++ M.fragLine ⟨m, al, g, bs, sz, rs⟩)))).heap[bb]? = some (.cells #[.int .i64 m, .int .i64 al, .string g, .slice ab bs.length cb, .int .i64 sz, .slice ar rs.length cr] 50 (0, 0)) := (Below.heap_setCell _ _ _ _ hbb).trans ((hX.block _ (Array.getElem?_eq_some_iff.1 qV).1).trans qV)
        clear KF K1 K2 hc5 hl5 hz5 HL x0 x1 x2 HV hX qV
        generalize X.setCell ⟨b5, 0, none⟩ (.string (M.str (M.fragsText (fs.take k) ++ M.fragLine ⟨m, al, g, bs, sz, rs⟩))) = Z at *
        have x5 : Z.cell? ⟨bb, 5, none⟩ = some (.slice ar rs.length cr) := cellB qX 5
        have hlZ : bb < Z.heap.size := (Array.getElem?_eq_some_iff.1 qX).1
        go_wp2_with fail
        refine rt_rels w Z b1 b5 pc hG hBk hb5 hne15 (M.fragsText (fs.take k) ++ M.fragLine ⟨m, al, g, bs, sz, rs⟩) (1000 * k + 200) rs ar cr HRl HO1.out.rels HO1.out.nrels (by omega) HE (by rw [List.length_append]; have := HLL.out; omega) ?_
        intro u13 u14 u76 u77 u78 u79 u80 u81 u82 u83 u84 u85 u86 u87 u88 u89 u90 u91 u92 u93 u94 u95 u96 u97 u98 u99 u100 u101 u102 u103 u104 u105 u106 Z2 hZ2
        have HZ2 : Hid _ := hZ2
        clear hZ2 x5 hlZ qX HE
        go_wp2_with fail
        go_roundw
        case rel =>
          have h8 := HO1.out.nrels
          simp only at h8
          have hft : M.fragText ⟨m, al, g, bs, sz, rs⟩ = M.fragLine ⟨m, al, g, bs, sz, rs⟩ ++ M.relsText rs := rfl
          refine ⟨k + 1, by omega, by go_num, ?_, ?_⟩
          · rw [HT.out, hft, ← List.append_assoc]; exact HZ2.out.1
          · rw [HT.out, hft, ← List.append_assoc]; have := HZ2.out.2; omega
        case measure => simp [intOf]; omega
    · have hkn : k = fs.length := by omega
      subst hkn
      have HE : Hid (PtS w b1 b5 pc (M.fragsText fs) wr) := by rw [List.take_length] at HSr; exact HSr.out
      have hlE : (M.fragsText fs).length ≤ 60000 := by rw [List.take_length] at hlen; omega
      clear HSr hlen
      have p1 : wr.cell? ⟨b1, 1, none⟩ = some (.slice a2 ds.length c2) := (cellB HE.out.c1 1).trans HP0.out.2
      have pl : b1 < wr.heap.size := (Array.getElem?_eq_some_iff.1 HE.out.c1).1
      have HPr : Hid (M.print ⟨fs, ds⟩ = M.fragsText fs ++ M.defsText ds) := rfl
      go_wp2_with fail
      refine rt_defs w wr b1 b5 pc hG hBk hb5 hne15 (M.fragsText fs) 60000 ds a2 c2 HD HPO.out.defs (by have := HPO.out.ndefs; omega) (by omega) HE hlE ?_
      intro u16 u17 u18 u111 u112 u113 u114 u115 u116 u117 u118 u119 u120 u121 u122 u123 u124 u125 u126 u127 u128 u129 u130 u131 u132 u133 u134 u135 u136 u137 u138 u139 u140 u141 u142 W4 h4
      have HE4 : Hid _ := h4
      have s5 : W4.cell? ⟨b5, 0, none⟩ = some (.string (M.str (M.fragsText fs ++ M.defsText ds))) := cellB h4.c5 0
      have hl5 : b5 < W4.heap.size := (Array.getElem?_eq_some_iff.1 h4.c5).1
      clear h4 p1 pl HE
      go_wp2_with fail
      go_ret
      exact ⟨by rw [HPr.out]; rfl, HE4.out.bel⟩

end Go.Proofs.YthiknlnhdjoipaaGreatDoor
