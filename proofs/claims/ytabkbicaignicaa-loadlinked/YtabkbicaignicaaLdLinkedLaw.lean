/-
  The law LoadLinked: whatever the part, the base and the entry, it returns true.
-/
import Derived.Test.YtabkbicaignicaaFaA
import Derived.Test.YtabkbicaignicaaLdFact
import Derived.Test.YtabkbicaignicaaLdHas
import Derived.Test.YtabkbicaignicaaLdM
namespace Go.Proofs.Ytabkbicaignicaa
open Go Go.RowKit
set_option linter.unusedVariables false
attribute [local go_sem] lat_cell

set_option maxHeartbeats 16000000 in
set_option maxRecDepth 100000 in
theorem loadLinked_law (p : M.Prt) (base : Int) (s : ByteArray) (a1 a2 : Option Addr) (k1 k2 : Nat) (w : World) (hfa : FragsAt w (.slice a1 p.frags.length k1) p.frags) (hda : DefsAt w (.slice a2 p.defs.length k2) p.defs) (hsz : s.size ≤ maxLen) :
    Calls Try.prog 4 #[.agg #[.slice a1 p.frags.length k1, .slice a2 p.defs.length k2], .int .i64 base, .string s] w fun e w' => e = .returned (.bool true) ∧ Below w.heap.size w w' := by
  have KT : Hid (∀ W, Calls Try.prog 17 #[] W fun e w' => e = .returned (.bool true) ∧ Below W.heap.size W w') := fun W => loaded_any W
  have V0 : Hid (Var (w.alloc (.cells #[.slice a1 p.frags.length k1, .slice a2 p.defs.length k2] 25)) w.heap.size a1 a2 k1 k2 p) := var_new hfa hda
  have HB0 : Hid (Below w.heap.size w (w.alloc (.cells #[.slice a1 p.frags.length k1, .slice a2 p.defs.length k2] 25))) := (Below.refl _ _).alloc (Nat.le_refl _) _
  clear hfa hda
  obtain ⟨m, fl, er, hl⟩ : ∃ im fl er, M.link p base s = (im, fl, er) := ⟨_, _, _, rfl⟩
  have Hl : Hid _ := hl
  have KL : Hid (Calls Try.prog 9 #[.agg #[.slice a1 p.frags.length k1, .slice a2 p.defs.length k2], .int .i64 base, .string s] (w.alloc (.cells #[.slice a1 p.frags.length k1, .slice a2 p.defs.length k2] 25)) _) := link_v V0.out.fr V0.out.df hsz m fl er hl
  have c0 := V0.out.c0
  have c1 := V0.out.c1
  clear hl
  go_enter Try.func4, Try.ntmps4
  go_upto_region 2 with (go_at_call 9; refine KL.out.mono ?_; rintro e w1 ⟨hb1, e1, f1, e2, f2, rfl, hS1, hF1⟩)
  have VM : Hid (IVar (w1.alloc (.cells #[.int .i64 m.entry, .slice e1 m.segs.length f1] 28)) w1.heap.size e1 f1 m) := ivar_new hS1
  have HB1 := hb1.alloc hb1.size (.cells #[.int .i64 m.entry, .slice e1 m.segs.length f1] 28)
  have hfl : fl.length ≤ maxLen := by obtain ⟨_, _, _, h⟩ := SlAt.form hF1; exact h
  unfold maxLen at hfl
  have V1 : Hid (Var (w1.alloc (.cells #[.int .i64 m.entry, .slice e1 m.segs.length f1] 28)) w.heap.size a1 a2 k1 k2 p) := V0.out.later HB1
  have HBX1 : Hid (Below w.heap.size w (w1.alloc (.cells #[.int .i64 m.entry, .slice e1 m.segs.length f1] 28))) := HB0.out.trans (HB1.mono HB0.out.size)
  clear hS1 hF1 KL c0 c1 hb1 HB1 V0 HB0
  generalize w1.alloc (.cells #[.int .i64 m.entry, .slice e1 m.segs.length f1] 28) = X1 at *
  generalize w1.heap.size = n7 at *
  by_cases her : er = 0
  case neg =>
    have her' : (er != 0) = true := by simpa using her
    clear Hl VM V1
    go_upto_region 3 with (go_at_call 17; refine (KT.out _).mono ?_; rintro e w3 ⟨rfl, hb3⟩)
    go_wp2_with (go_at_call 17; refine (KT.out _).mono ?_; rintro e w4 ⟨rfl, hb4⟩)
    go_ret
    exact ⟨rfl, HBX1.out.trans ((hb3.trans (hb4.mono hb3.size)).mono HBX1.out.size)⟩
  subst her
  by_cases hf0 : fl.length = 0
  case neg =>
    have hf1 : (0 : Int) < (fl.length : Int) := by omega
    clear Hl VM V1
    go_upto_region 3 with (go_at_call 17; refine (KT.out _).mono ?_; rintro e w3 ⟨rfl, hb3⟩)
    go_wp2_with (go_at_call 17; refine (KT.out _).mono ?_; rintro e w4 ⟨rfl, hb4⟩)
    go_ret
    exact ⟨rfl, HBX1.out.trans ((hb3.trans (hb4.mono hb3.size)).mono HBX1.out.size)⟩
  obtain rfl : fl = [] := List.eq_nil_of_length_eq_zero hf0
  clear hf0 hfl
  rw [show ([] : List Flt).length = 0 from rfl]
  have HLo : Hid (Loads p base m) := loads_of Hl.out
  clear Hl
  go_upto_region 4 with (go_at_call 17; refine (KT.out _).mono ?_; rintro e X3 ⟨rfl, hb3⟩)
  have VM3 : Hid (IVar X3 n7 e1 f1 m) := VM.out.later hb3
  have V3 : Hid (Var X3 w.heap.size a1 a2 k1 k2 p) := V1.out.later hb3
  have HBX3 : Hid (Below w.heap.size w X3) := HBX1.out.trans (hb3.mono HBX1.out.size)
  clear VM V1 HBX1 hb3 KT
  have KL : Hid (Calls Try.prog 11 #[.agg #[.slice a1 p.frags.length k1, .slice a2 p.defs.length k2], .int .i64 base] X3 _) := lay_vv V3.out.fr V3.out.df _ _ HLo.out.lay
  have c0 := V3.out.c0
  have c1 := V3.out.c1
  generalize hly : M.layAll p base = ly at *
  have HLy : Hid _ := hly
  clear hly
  go_upto_region 5 with (go_at_call 11; refine KL.out.mono ?_; rintro e w5 ⟨hb5, xf, yf, xn, yn, xc, yc, rfl, hF5, hN5, hC5⟩)
  have VL : Hid (LVar (w5.alloc (.cells (layArr (.slice xf ly.frags.length yf) (.slice xn ly.names.length yn) (.slice xc ly.coms.length yc) ly.fr ly.ti) 38)) w5.heap.size xf yf xn yn xc yc ly) := lvar_new hF5 hN5 hC5
  have HB5 := hb5.alloc hb5.size (.cells (layArr (.slice xf ly.frags.length yf) (.slice xn ly.names.length yn) (.slice xc ly.coms.length yc) ly.fr ly.ti) 38)
  simp only [layArr] at VL HB5
  have VM5 : Hid _ := VM3.out.later HB5
  have V5 : Hid _ := V3.out.later HB5
  have HBX5 : Hid _ := HBX3.out.trans (HB5.mono HBX3.out.size)
  clear hF5 hN5 hC5 KL c0 c1 hb5 HB5 VM3 V3 HBX3
  generalize w5.alloc (.cells #[.slice xf ly.frags.length yf, .slice xn ly.names.length yn, .slice xc ly.coms.length yc, .int .i64 (ly.fr 0), .int .i64 (ly.fr 1), .int .i64 (ly.fr 2), .int .i64 (ly.fr 3), .int .i64 (ly.fr 4), .int .i64 (ly.fr 5), .int .i64 (ly.ti 0), .int .i64 (ly.ti 1), .int .i64 (ly.ti 2), .int .i64 (ly.ti 3), .int .i64 (ly.ti 4), .int .i64 (ly.ti 5)] 38) = X5 at *
  generalize w5.heap.size = n10 at *
  have HLF : Hid (ly.frags.length = p.frags.length) := by rw [← HLy.out]; exact HLo.out.lenF
  have HAt : Hid (∀ (i k : Nat), i < p.frags.length → (k : Int) < M.long (p.frags.getD i frg0) → M.thereAt m.segs (ly.frags.getD i 0 + (k : Int)) = true ∧ (M.segAt m.segs (ly.frags.getD i 0 + (k : Int))).writes = decide (4 ≤ (p.frags.getD i frg0).sect) ∧
    (M.segAt m.segs (ly.frags.getD i 0 + (k : Int))).works = ((p.frags.getD i frg0).sect == 1) ∧ ((p.frags.getD i frg0).sect = 5 → M.byteIn m.segs (ly.frags.getD i 0 + (k : Int)) = 0)) := by rw [← HLy.out]; exact HLo.out.at_
  have HPos : Hid (∀ i : Nat, i < p.frags.length → 0 ≤ ly.frags.getD i 0 ∧ ly.frags.getD i 0 + M.long (p.frags.getD i frg0) ≤ 65536 ∧ 0 ≤ M.long (p.frags.getD i frg0) ∧ M.long (p.frags.getD i frg0) ≤ 64) := by rw [← HLy.out]; exact HLo.out.pos
  have HEnt : Hid (M.thereAt m.segs m.entry = true ∨ ∃ k : Nat, 1 ≤ k ∧ k ≤ 5 ∧ m.entry = ly.ti k) := by rw [← HLy.out]; exact HLo.out.ent
  have hchk := HLo.out.chk
  have HFit : Hid (∀ s ∈ m.segs, M.SegFit s) := M.chkImg_fit hchk
  have hpl : p.frags.length ≤ maxLen := by obtain ⟨_, h1, _⟩ := V5.out.fr; obtain ⟨_, _, _, h⟩ := h1.form; exact h
  unfold maxLen at hpl
  have KC : Hid (∀ X, Below X5.heap.size X5 X → Calls Try.prog 18 #[.agg #[.int .i64 m.entry, .slice e1 m.segs.length f1]] X fun e w' => e = .returned (.int .i64 0) ∧ Below X.heap.size X w') := fun X hX => by
    have := lcheck_any m e1 f1 X (VM5.out.segs.later hX)
    rwa [hchk] at this
  have KB : Hid (∀ t X, Below X5.heap.size X5 X → Calls Try.prog 20 #[.agg #[.int .i64 m.entry, .slice e1 m.segs.length f1], .int .i64 t] X fun e w' => e = .returned (.tuple #[.int .u8 (M.byteIn m.segs t), .bool (M.thereAt m.segs t), .bool (M.segAt m.segs t).writes, .bool (M.segAt m.segs t).works, .int .i64 0]) ∧ Below X.heap.size X w') := fun t X hX => byte_ok m t e1 f1 X (VM5.out.segs.later hX) hchk
  have HV : Hid (∀ X, Below X5.heap.size X5 X → (X.cell? ⟨n7, 0, none⟩ = some (.int .i64 m.entry) ∧ X.cell? ⟨n7, 1, none⟩ = some (.slice e1 m.segs.length f1) ∧ n7 < X.heap.size) ∧ (X.cell? ⟨w.heap.size, 0, none⟩ = some (.slice a1 p.frags.length k1) ∧ X.cell? ⟨w.heap.size, 1, none⟩ = some (.slice a2 p.defs.length k2) ∧ w.heap.size < X.heap.size) ∧ (X.cell? ⟨n10, 0, none⟩ = some (.slice xf ly.frags.length yf) ∧ n10 < X.heap.size) ∧ IntsAt X (.slice xf ly.frags.length yf) ly.frags ∧ FragsAt X (.slice a1 p.frags.length k1) p.frags) := fun X hX => by
    have vm := VM5.out.later hX
    have vp := V5.out.later hX
    have vl := VL.out.later hX
    exact ⟨⟨cellB vm.blk 0, cellB vm.blk 1, vm.lt⟩, ⟨vp.c0, vp.c1, (Array.getElem?_eq_some_iff.1 vp.blk).1⟩, ⟨cellB vl.blk 0, (Array.getElem?_eq_some_iff.1 vl.blk).1⟩, vl.frags, vp.fr⟩
  have hlf : ((ly.frags.length : Int) != (p.frags.length : Int)) = false := by rw [HLF.out]; simp
  obtain ⟨⟨m0, m1, ml⟩, ⟨p0, p1, pl⟩, ⟨l0, ll⟩, _, _⟩ := HV.out X5 (Below.refl _ _)
  clear HLo HLy hchk
  go_upto_region 7 with (go_at_call 18; refine (KC.out _ (Below.refl _ _)).mono ?_; rintro e Y ⟨rfl, hbY⟩; obtain ⟨⟨m0', m1', ml'⟩, ⟨p0', p1', pl'⟩, ⟨l0', ll'⟩, _, _⟩ := HV.out Y hbY)
  have HY : Hid (Below X5.heap.size X5 Y) := hbY
  clear m0 m1 ml p0 p1 pl l0 ll KC hbY m0' m1' ml' l0' ll'
  go_wp2_with fail
  clear p0' p1' pl' hlf
  go_loopw [68] (fun s68 wr => ∃ (i : Nat), i ≤ p.frags.length ∧ s68 = .int .i64 i ∧ Hid (Below X5.heap.size X5 wr)) (fun s68 _ => p.frags.length - (intOf s68).toNat)
  case atStart => exact ⟨0, Nat.zero_le _, rfl, HY⟩
  case round =>
    obtain ⟨i, hi, rfl, HBi⟩ := hrel
    obtain ⟨⟨m0, m1, ml⟩, ⟨p0, p1, pl⟩, ⟨l0, ll⟩, hI, hF⟩ := HV.out wr HBi.out
    by_cases hlt : i < p.frags.length
    · have hil : (i : Int) < (p.frags.length : Int) := by omega
      obtain ⟨b, off, ab, cb, ar, cr, hae, g0, g1, g2, g3, g4, g5, _⟩ := hF.cells i hlt
      subst hae
      have hbl : b < wr.heap.size := World.block_lt_of_cell? _ _ g0
      have hAti : Hid _ := HAt.out i
      have hPi := HPos.out i hlt
      have hLong : Hid (M.long (p.frags.getD i frg0) = M.lng (p.frags.getD i frg0).sect (p.frags.getD i frg0).size (p.frags.getD i frg0).bytes.length) := rfl
      have hAt2 : Hid (∀ k : Nat, (k : Int) < M.long (p.frags.getD i frg0) → M.thereAt m.segs (ly.frags.getD i 0 + (k : Int)) = true ∧ (M.segAt m.segs (ly.frags.getD i 0 + (k : Int))).writes = decide (4 ≤ (p.frags.getD i frg0).sect) ∧
        (M.segAt m.segs (ly.frags.getD i 0 + (k : Int))).works = ((p.frags.getD i frg0).sect == 1) ∧ ((p.frags.getD i frg0).sect = 5 → M.byteIn m.segs (ly.frags.getD i 0 + (k : Int)) = 0)) := fun k hk => HAt.out i k hlt hk
      clear hAti hI hF
      generalize M.long (p.frags.getD i frg0) = lg at *
      generalize p.frags.getD i frg0 = f at *
      obtain ⟨sc, al, gr, bs, sz, rs⟩ := f
      simp only at *
      go_upto_region 10 with fail
      have hXb : Below wr.heap.size wr (wr.alloc (.cells #[.int .i64 sc, .int .i64 al, .string gr, .slice ab bs.length cb, .int .i64 sz, .slice ar rs.length cr] 46)) := (Below.refl _ _).alloc (Nat.le_refl _) _
      have hXq := heap_alloc_new wr (.cells #[.int .i64 sc, .int .i64 al, .string gr, .slice ab bs.length cb, .int .i64 sz, .slice ar rs.length cr] 46)
      generalize wr.alloc (.cells #[.int .i64 sc, .int .i64 al, .string gr, .slice ab bs.length cb, .int .i64 sz, .slice ar rs.length cr] 46) = Z at *
      have HZ : Hid (Below X5.heap.size X5 Z) := HBi.out.trans (hXb.mono HBi.out.size)
      generalize wr.heap.size = g at *
      have HQ : Hid (∀ X, Below Z.heap.size Z X → X.cell? ⟨g, 0, none⟩ = some (.int .i64 sc) ∧ g < X.heap.size) := fun X hX => by
        have y := (hX.block _ (Array.getElem?_eq_some_iff.1 hXq).1).trans hXq
        exact ⟨cellB y 0, (Array.getElem?_eq_some_iff.1 y).1⟩
      have z0 : Z.cell? ⟨g, 0, none⟩ = some (.int .i64 sc) := cellB hXq 0
      have z1 : Z.cell? ⟨g, 1, none⟩ = some (.int .i64 al) := cellB hXq 1
      have z2 : Z.cell? ⟨g, 2, none⟩ = some (.string gr) := cellB hXq 2
      have z3 : Z.cell? ⟨g, 3, none⟩ = some (.slice ab bs.length cb) := cellB hXq 3
      have z4 : Z.cell? ⟨g, 4, none⟩ = some (.int .i64 sz) := cellB hXq 4
      have z5 : Z.cell? ⟨g, 5, none⟩ = some (.slice ar rs.length cr) := cellB hXq 5
      have zl : g < Z.heap.size := (Array.getElem?_eq_some_iff.1 hXq).1
      have KLg : Hid (Calls Try.prog 19 #[.agg #[.int .i64 sc, .int .i64 al, .string gr, .slice ab bs.length cb, .int .i64 sz, .slice ar rs.length cr]] Z fun e w' => e = .returned (.int .i64 lg) ∧ Below Z.heap.size Z w') := by rw [hLong.out]; exact long_any sc al sz gr ab bs.length cb _ Z
      clear g0 g1 g2 g3 g4 g5 hbl hXb hXq m0 m1 ml p0 p1 pl l0 ll HBi hLong
      obtain ⟨N, rfl⟩ : ∃ N : Nat, lg = N := ⟨lg.toNat, by omega⟩
      go_upto_region 11 with (go_at_call 19; refine KLg.out.mono ?_; rintro e Z1 ⟨rfl, hb1⟩)
      have HZ1 : Hid (Below Z.heap.size Z Z1) := hb1
      clear z0 z1 z2 z3 z4 z5 zl KLg hb1
      go_loopw [75] (fun s75 wr => ∃ (k : Nat), k ≤ N ∧ s75 = .int .i64 k ∧ Hid (Below Z.heap.size Z wr)) (fun s75 _ => N - (intOf s75).toNat)
      case atStart => exact ⟨0, Nat.zero_le _, rfl, HZ1⟩
      case round =>
        obtain ⟨k, hk, rfl, HBk⟩ := hrel
        have hbk := HZ.out.trans (HBk.out.mono HZ.out.size)
        have HBX : Hid (Below X5.heap.size X5 wr) := hbk
        by_cases hkN : k < N
        · have hkl : (k : Int) < (N : Int) := by omega
          obtain ⟨⟨m0, m1, ml⟩, _, ⟨l0, ll⟩, hI, _⟩ := HV.out wr hbk
          obtain ⟨q0, qg⟩ := HQ.out wr HBk.out
          obtain ⟨bi, oi, hxf, hci, hbi⟩ := IntsAt.cell hI i (by rw [HLF.out]; exact hlt)
          subst hxf
          have hif : (i : Int) < (ly.frags.length : Int) := by rw [HLF.out]; exact hil
          obtain ⟨t1, t2, t3, t4⟩ := hAt2.out k hkl
          have T4 : Hid (sc = 5 → M.byteIn m.segs (ly.frags.getD i 0 + (k : Int)) = 0) := t4
          have KBk : Hid (∀ X, Below X5.heap.size X5 X → Calls Try.prog 20 #[.agg #[.int .i64 m.entry, .slice e1 m.segs.length f1], .int .i64 (ly.frags.getD i 0 + (k : Int))] X fun e w' => e = .returned (.tuple #[.int .u8 (M.byteIn m.segs (ly.frags.getD i 0 + (k : Int))), .bool true, .bool (decide (4 ≤ sc)), .bool (sc == 1), .int .i64 0]) ∧ Below X.heap.size X w') := fun X hX => by
            have := KB.out (ly.frags.getD i 0 + (k : Int)) X hX
            rwa [t1, t2, t3] at this
          have hwr : IntKind.i64.wrap (ly.frags.getD i 0 + (k : Int)) = ly.frags.getD i 0 + (k : Int) := by rw [IntKind.wrap_i64]; omega
          clear t1 t2 t3 t4 hI hbk
          generalize M.byteIn m.segs (ly.frags.getD i 0 + (k : Int)) = Bx at *
          generalize ly.frags.getD i 0 = ad at *
          go_wp2_with fail
          refine wp_region_lat (by kernel_rfl) (by kernel_rfl) ?_
          intro hne
          repeat (go_big_quiet_step ((go_at_call 20; exact lat_of (KBk.out _ (HBX.out.trans ((Lat.below _).mono HBX.out.size))))))
          refine wpQuiet_nil ?_
          intro V hbV
          have hbV := lat_out hbV
          have HBV : Hid (Below Z.heap.size Z V) := HBk.out.trans (hbV.mono HBk.out.size)
          obtain ⟨q0', qg'⟩ := HQ.out V HBV.out
          clear hne m0 m1 ml l0 ll q0 qg hci hbi hbV
          by_cases h5 : sc = 5
          · obtain rfl : Bx = 0 := T4.out h5
            have e5 : (sc == 5) = true := by simpa using h5
            clear T4 h5
            go_wp2_with fail
            go_roundw
            case rel => exact ⟨k + 1, by omega, by go_num, HBV⟩
            case measure => simp [intOf]; omega
          · have e5 : (sc == 5) = false := by simpa using h5
            clear T4 h5
            go_wp2_with fail
            go_roundw
            case rel => exact ⟨k + 1, by omega, by go_num, HBV⟩
            case measure => simp [intOf]; omega
        · have hkl : k = N := by omega
          subst hkl
          go_wp2_with fail
          go_roundw
          case rel => exact ⟨i + 1, by omega, by go_num, HBX⟩
          case measure => simp [intOf]; omega
    · have hil : i = p.frags.length := by omega
      subst hil
      clear hI hF p0 p1 pl l0 ll HAt HPos
      have KBe : Hid _ := KB.out m.entry wr HBi.out
      generalize hTe : M.thereAt m.segs m.entry = T at *
      clear hTe
      generalize M.byteIn m.segs m.entry = Bx at *
      generalize (M.segAt m.segs m.entry).writes = b1 at *
      generalize (M.segAt m.segs m.entry).works = b2 at *
      have KF : Hid (∀ X, Below X5.heap.size X5 X → Calls Try.prog 21 #[.slice e1 m.segs.length f1, .func (.func 22) #[] #[.pointer (some ⟨n7, 0, none⟩)]] X fun e w' => e = .returned (.bool (m.segs.any (edge m.entry))) ∧ Below X.heap.size X w') := fun X hX => containsEdge_any m.segs e1 f1 n7 m.entry X (VM5.out.later hX).segs HFit.out (HV.out X hX).1.1
      have KI : Hid (∀ (k : Nat) X, 1 ≤ k → k ≤ 5 → Below X5.heap.size X5 X → Calls Try.prog 23 #[.slice (some ⟨n10, 9, none⟩) 6 6, .int .i64 (ly.ti k)] X fun e w' => e = .returned (.bool true) ∧ w' = X) := fun k X h1 h5 hX => by
        have vl := (VL.out.later hX).blk
        have hI6 : IntsAt X (.slice (some ⟨n10, 9, none⟩) 6 6) [ly.ti 0, ly.ti 1, ly.ti 2, ly.ti 3, ly.ti 4, ly.ti 5] := by
          refine ⟨_, _, rfl, by show 6 ≤ maxLen; unfold maxLen; decide, .inr ⟨n10, 9, rfl, fun j i hj hi => ?_⟩⟩
          obtain rfl : i = 0 := by omega
          rw [Nat.mul_one, Nat.add_zero, cellB vl]
          have hc : j = 0 ∨ j = 1 ∨ j = 2 ∨ j = 3 ∨ j = 4 ∨ j = 5 := by have : j < 6 := hj; omega
          rcases hc with rfl | rfl | rfl | rfl | rfl | rfl <;> rfl
        have hm : ly.ti k ∈ [ly.ti 0, ly.ti 1, ly.ti 2, ly.ti 3, ly.ti 4, ly.ti 5] := by
          have hc : k = 1 ∨ k = 2 ∨ k = 3 ∨ k = 4 ∨ k = 5 := by omega
          rcases hc with rfl | rfl | rfl | rfl | rfl <;> simp
        exact containsI_any [ly.ti 0, ly.ti 1, ly.ti 2, ly.ti 3, ly.ti 4, ly.ti 5] _ 6 _ X hI6 hm
      have HSlen : Hid (m.segs.length ≤ maxLen) := by obtain ⟨_, _, _, h⟩ := VM5.out.segs.form; exact h
      generalize m.segs.any (edge m.entry) = eb at *
      go_upto_region 19 with (go_at_call 20; refine (show Calls _ _ _ _ _ from KBe.out).mono ?_; rintro e V ⟨rfl, hbV⟩)
      have HBV : Hid (Below X5.heap.size X5 V) := HBi.out.trans (hbV.mono HBi.out.size)
      have HEnd : Hid (∀ X, Below V.heap.size V X → Below w.heap.size w X) := fun X hX => HBX5.out.trans ((HBV.out.trans (hX.mono HBV.out.size)).mono HBX5.out.size)
      clear m0 m1 ml KBe hbV
      obtain ⟨⟨m0, m1, ml⟩, _, ⟨l0, ll⟩, _, _⟩ := HV.out V HBV.out
      cases T
      · obtain ⟨k, k1', k5', hke⟩ := HEnt.out.resolve_left (by decide)
        have KIk : Hid (∀ X, Below X5.heap.size X5 X → Calls Try.prog 23 #[.slice (some ⟨n10, 9, none⟩) 6 6, .int .i64 m.entry] X fun e w' => e = .returned (.bool true) ∧ w' = X) := fun X hX => by rw [hke]; exact KI.out k X k1' k5' hX
        clear HEnt KI hke
        cases eb
        · go_wp2_with fail
          refine wp_region_lat (by kernel_rfl) (by kernel_rfl) ?_
          intro hne
          repeat (go_big_quiet_step ((first | (go_at_call 21; exact lat_of (KF.out _ (HBV.out.trans ((Lat.below _).mono HBV.out.size)))) | (go_at_call 23; exact lat_of_same (KIk.out _ (HBV.out.trans ((Lat.below _).mono HBV.out.size)))))))
          refine wpQuiet_nil ?_
          intro V2 hb2
          have hb2 := lat_out hb2
          clear hne
          go_wp2
          go_ret
          exact ⟨rfl, HEnd.out _ hb2⟩
        · go_wp2_with fail
          refine wp_region_lat (by kernel_rfl) (by kernel_rfl) ?_
          intro hne
          repeat (go_big_quiet_step ((first | (go_at_call 21; exact lat_of (KF.out _ (HBV.out.trans ((Lat.below _).mono HBV.out.size)))) | (go_at_call 23; exact lat_of_same (KIk.out _ (HBV.out.trans ((Lat.below _).mono HBV.out.size)))))))
          refine wpQuiet_nil ?_
          intro V2 hb2
          have hb2 := lat_out hb2
          clear hne
          go_wp2
          go_ret
          exact ⟨rfl, HEnd.out _ hb2⟩
      · clear HEnt KI KF
        go_wp2_with fail
        refine wp_region_lat (by kernel_rfl) (by kernel_rfl) ?_
        intro hne
        repeat (go_big_quiet_step (fail))
        refine wpQuiet_nil ?_
        intro V2 hb2
        have hb2 := lat_out hb2
        clear hne
        go_wp2
        go_ret
        exact ⟨rfl, HEnd.out _ hb2⟩

end Go.Proofs.Ytabkbicaignicaa
