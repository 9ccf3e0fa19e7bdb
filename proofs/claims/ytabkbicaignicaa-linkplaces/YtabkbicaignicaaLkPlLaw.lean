/-
  The law LinkPlaces: whatever the part, the base and the entry, it returns true.
-/
import Derived.Test.YtabkbicaignicaaLkFact
import Derived.Test.YtabkbicaignicaaLdLay
import Derived.Test.YtabkbicaignicaaLdM
import Derived.Test.YtabkbicaignicaaQTA
namespace Go.Proofs.Ytabkbicaignicaa
open Go Go.RowKit
set_option linter.unusedVariables false
attribute [local go_sem] lat_cell

theorem frags_small {w : World} {a : Option Addr} {c : Nat} {fs : List M.Frg} (h : FragsAt w (.slice a fs.length c) fs) : ∀ f ∈ fs, ∀ b ∈ f.bytes, 0 ≤ b ∧ b < 256 := fun f hf => by
  obtain ⟨i, hi, rfl⟩ := List.getElem_of_mem hf
  obtain ⟨_, _, _, _, _, _, _, _, _, _, _, _, _, hb, _⟩ := h.cells i hi
  have := hb.2
  rwa [List.getD_eq_getElem?_getD, List.getElem?_eq_getElem hi] at this

def encT (l : List Bool) : List Value := l.map Value.bool
theorem made_bools (n : Nat) : (madeCells (Value.bool false).cells (n * 1)).toList = encT (List.replicate n false) := by
  refine List.ext_getElem (by simp [madeCells, encT]) fun i h1 h2 => ?_
  simp [madeCells, Value.cells, Nat.mod_one, encT]
theorem encT_set (l : List Bool) (k : Nat) (b : Bool) : (encT l).toArray.setIfInBounds k (Value.bool b) = (encT (l.set k b)).toArray := by
  unfold encT
  rw [List.map_set]; simp
theorem encT_cell {w : World} {G : Nat} {l : List Bool} {t : TypeId} (h : w.heap[G]? = some (.cells (encT l).toArray t (0, 0))) {k : Nat} (hk : k < l.length) : w.cell? ⟨G, k, none⟩ = some (.bool (l.getD k false)) := by
  rw [cellB h]
  simp [encT, hk]
theorem setD {l : List Bool} {k j : Nat} (h : l.getD j false = true) : (l.set k true).getD j false = true := by
  rw [List.getD_eq_getElem?_getD] at h ⊢
  rw [List.getElem?_set]
  split
  · split
    · rfl
    · rename_i h1 h2
      subst h1
      rw [List.getElem?_eq_none (by omega)] at h; cases h
  · exact h
theorem setD_same {l : List Bool} {k : Nat} (h : k < l.length) : (l.set k true).getD k false = true := by
  rw [List.getD_eq_getElem?_getD, List.getElem?_set_self h]; rfl

set_option maxHeartbeats 32000000 in
set_option maxRecDepth 100000 in
theorem linkPlaces_law (p : M.Prt) (base : Int) (s : ByteArray) (a1 a2 : Option Addr) (k1 k2 : Nat) (w : World) (hfa : FragsAt w (.slice a1 p.frags.length k1) p.frags) (hda : DefsAt w (.slice a2 p.defs.length k2) p.defs) (hsz : s.size ≤ maxLen) :
    Calls Try.prog 3 #[.agg #[.slice a1 p.frags.length k1, .slice a2 p.defs.length k2], .int .i64 base, .string s] w fun e w' => e = .returned (.bool true) ∧ Below w.heap.size w w' := by
  have KT : Hid (∀ W, Calls Try.prog 10 #[] W fun e w' => e = .returned (.bool true) ∧ Below W.heap.size W w') := fun W => linked_any W
  have HSm : Hid (∀ f ∈ p.frags, ∀ b ∈ f.bytes, 0 ≤ b ∧ b < 256) := frags_small hfa
  have V0 : Hid (Var (w.alloc (.cells #[.slice a1 p.frags.length k1, .slice a2 p.defs.length k2] 25)) w.heap.size a1 a2 k1 k2 p) := var_new hfa hda
  have HB0 : Hid (Below w.heap.size w (w.alloc (.cells #[.slice a1 p.frags.length k1, .slice a2 p.defs.length k2] 25))) := (Below.refl _ _).alloc (Nat.le_refl _) _
  clear hfa hda
  obtain ⟨m, fl, er, hl⟩ : ∃ im fl er, M.link p base s = (im, fl, er) := ⟨_, _, _, rfl⟩
  have Hl : Hid _ := hl
  have KL : Hid (Calls Try.prog 9 #[.agg #[.slice a1 p.frags.length k1, .slice a2 p.defs.length k2], .int .i64 base, .string s] (w.alloc (.cells #[.slice a1 p.frags.length k1, .slice a2 p.defs.length k2] 25)) _) := link_v V0.out.fr V0.out.df hsz m fl er hl
  have c0 := V0.out.c0
  have c1 := V0.out.c1
  clear hl
  go_enter Try.func3, Try.ntmps3
  go_upto_region 2 with (go_at_call 9; refine KL.out.mono ?_; rintro e w1 ⟨hb1, e1, f1, e2, f2, rfl, hS1, hF1⟩)
  have VM : Hid (IVar (w1.alloc (.cells #[.int .i64 m.entry, .slice e1 m.segs.length f1] 28)) w1.heap.size e1 f1 m) := ivar_new hS1
  have HB1 := hb1.alloc hb1.size (.cells #[.int .i64 m.entry, .slice e1 m.segs.length f1] 28)
  have hfl : fl.length ≤ maxLen := by obtain ⟨_, _, _, h⟩ := SlAt.form hF1; exact h
  unfold maxLen at hfl
  have V1 : Hid (Var (w1.alloc (.cells #[.int .i64 m.entry, .slice e1 m.segs.length f1] 28)) w.heap.size a1 a2 k1 k2 p) := V0.out.later HB1
  have HBX1 : Hid (Below w.heap.size w (w1.alloc (.cells #[.int .i64 m.entry, .slice e1 m.segs.length f1] 28))) := HB0.out.trans (HB1.mono HB0.out.size)
  clear hS1 hF1 KL c0 c1 hb1 HB1 V0 HB0
  generalize w1.alloc (.cells #[.int .i64 m.entry, .slice e1 m.segs.length f1] 28) = X1 at *
  generalize w1.heap.size = n7 at *
  by_cases her : er = 0
  case neg =>
    have her' : (er != 0) = true := by simpa using her
    clear Hl VM V1
    go_upto_region 3 with (go_at_call 10; refine (KT.out _).mono ?_; rintro e w3 ⟨rfl, hb3⟩)
    go_wp2_with (go_at_call 10; refine (KT.out _).mono ?_; rintro e w4 ⟨rfl, hb4⟩)
    go_ret
    exact ⟨rfl, HBX1.out.trans ((hb3.trans (hb4.mono hb3.size)).mono HBX1.out.size)⟩
  subst her
  by_cases hf0 : fl.length = 0
  case neg =>
    have hf1 : (0 : Int) < (fl.length : Int) := by omega
    clear Hl VM V1
    go_upto_region 3 with (go_at_call 10; refine (KT.out _).mono ?_; rintro e w3 ⟨rfl, hb3⟩)
    go_wp2_with (go_at_call 10; refine (KT.out _).mono ?_; rintro e w4 ⟨rfl, hb4⟩)
    go_ret
    exact ⟨rfl, HBX1.out.trans ((hb3.trans (hb4.mono hb3.size)).mono HBX1.out.size)⟩
  obtain rfl : fl = [] := List.eq_nil_of_length_eq_zero hf0
  clear hf0 hfl
  rw [show ([] : List Flt).length = 0 from rfl]
  have HPl : Hid (Places p base s m) := places_of HSm.out Hl.out
  clear Hl
  go_upto_region 4 with (go_at_call 10; refine (KT.out _).mono ?_; rintro e X3 ⟨rfl, hb3⟩)
  have VM3 : Hid (IVar X3 n7 e1 f1 m) := VM.out.later hb3
  have V3 : Hid (Var X3 w.heap.size a1 a2 k1 k2 p) := V1.out.later hb3
  have HBX3 : Hid (Below w.heap.size w X3) := HBX1.out.trans (hb3.mono HBX1.out.size)
  clear VM V1 HBX1 hb3 KT
  have KL : Hid (Calls Try.prog 11 #[.agg #[.slice a1 p.frags.length k1, .slice a2 p.defs.length k2], .int .i64 base] X3 _) := lay_vv V3.out.fr V3.out.df _ _ HPl.out.lay
  have c0 := V3.out.c0
  have c1 := V3.out.c1
  have HCk : Hid _ := HPl.out.ck
  have HBd : Hid _ := HPl.out.bd
  have HLF : Hid _ := HPl.out.lenF
  have HLN : Hid _ := HPl.out.lenN
  have HEn : Hid _ := HPl.out.ent
  have HPos : Hid _ := HPl.out.pos
  have HRow : Hid _ := HPl.out.row
  clear HPl
  generalize M.layAll p base = ly at *
  go_upto_region 5 with (go_at_call 11; refine KL.out.mono ?_; rintro e w5 ⟨hb5, xf, yf, xn, yn, xc, yc, rfl, hF5, hN5, hC5⟩)
  have VL : Hid (LVar (w5.alloc (.cells (layArr (.slice xf ly.frags.length yf) (.slice xn ly.names.length yn) (.slice xc ly.coms.length yc) ly.fr ly.ti) 38)) w5.heap.size xf yf xn yn xc yc ly) := lvar_new hF5 hN5 hC5
  have HB5 := hb5.alloc hb5.size (.cells (layArr (.slice xf ly.frags.length yf) (.slice xn ly.names.length yn) (.slice xc ly.coms.length yc) ly.fr ly.ti) 38)
  simp only [layArr] at VL HB5
  have VM5 : Hid _ := VM3.out.later HB5
  have V5 : Hid _ := V3.out.later HB5
  have HBX5 : Hid _ := HBX3.out.trans (HB5.mono HBX3.out.size)
  clear hF5 hN5 hC5 KL c0 c1 hb5 HB5 VM3 V3 HBX3
  generalize w5.alloc (.cells #[.slice xf ly.frags.length yf, .slice xn ly.names.length yn, .slice xc ly.coms.length yc, .int .i64 (ly.fr 0), .int .i64 (ly.fr 1), .int .i64 (ly.fr 2), .int .i64 (ly.fr 3), .int .i64 (ly.fr 4), .int .i64 (ly.fr 5), .int .i64 (ly.ti 0), .int .i64 (ly.ti 1), .int .i64 (ly.ti 2), .int .i64 (ly.ti 3), .int .i64 (ly.ti 4), .int .i64 (ly.ti 5)] 38) = X5 at *
  generalize w5.heap.size = n10 at *
  have hpl : p.frags.length ≤ maxLen := by obtain ⟨_, h1, _⟩ := V5.out.fr; obtain ⟨_, _, _, h⟩ := h1.form; exact h
  unfold maxLen at hpl
  have KW : Hid (∀ (t : ByteArray) (tt : Int), M.whereOf p ly t = (tt, 0) → ∀ X, Below X5.heap.size X5 X → Calls Try.prog 12 #[.agg #[.slice a1 p.frags.length k1, .slice a2 p.defs.length k2], .agg #[.slice xf ly.frags.length yf, .slice xn ly.names.length yn, .slice xc ly.coms.length yc, .int .i64 (ly.fr 0), .int .i64 (ly.fr 1), .int .i64 (ly.fr 2), .int .i64 (ly.fr 3), .int .i64 (ly.fr 4), .int .i64 (ly.fr 5), .int .i64 (ly.ti 0), .int .i64 (ly.ti 1), .int .i64 (ly.ti 2), .int .i64 (ly.ti 3), .int .i64 (ly.ti 4), .int .i64 (ly.ti 5)], .string t] X fun e w' => e = .returned (.tuple #[.int .i64 tt, .int .i64 0]) ∧ Below X.heap.size X w') := fun t tt ht X hX => by
    have vp := V5.out.later hX
    have vl := VL.out.later hX
    have := where_any p ly.frags ly.names ly.coms t a1 a2 k1 k2 xf xn xc yf yn yc (.int .i64 (ly.fr 0)) (.int .i64 (ly.fr 1)) (.int .i64 (ly.fr 2)) (.int .i64 (ly.fr 3)) (.int .i64 (ly.fr 4)) (.int .i64 (ly.fr 5)) (.int .i64 (ly.ti 0)) (.int .i64 (ly.ti 1)) (.int .i64 (ly.ti 2)) (.int .i64 (ly.ti 3)) (.int .i64 (ly.ti 4)) (.int .i64 (ly.ti 5)) X vp.fr vp.df vl.frags vl.names vl.coms HCk.out HLF.out HBd.out HLN.out
    unfold M.whereOf at ht
    rwa [ht] at this
  have KR : Hid (∀ (t n : Int) X, Below X5.heap.size X5 X → Calls Try.prog 13 #[.agg #[.int .i64 m.entry, .slice e1 m.segs.length f1], .int .i64 t, .int .i64 n] X fun e w' => Below X.heap.size X w' ∧ ∃ x y, e = .returned (.tuple #[.slice x (M.range m t n).length y, .int .i64 (M.rangeErr m t n)]) ∧ BytesAt w' (.slice x (M.range m t n).length y) (M.range m t n)) := fun t n X hX => lrange_any m t n e1 f1 X (VM5.out.segs.later hX)
  have HV : Hid (∀ X, Below X5.heap.size X5 X → (X.cell? ⟨n7, 0, none⟩ = some (.int .i64 m.entry) ∧ X.cell? ⟨n7, 1, none⟩ = some (.slice e1 m.segs.length f1) ∧ n7 < X.heap.size) ∧ (X.cell? ⟨w.heap.size, 0, none⟩ = some (.slice a1 p.frags.length k1) ∧ X.cell? ⟨w.heap.size, 1, none⟩ = some (.slice a2 p.defs.length k2) ∧ w.heap.size < X.heap.size) ∧ (X.cell? ⟨n10, 0, none⟩ = some (.slice xf ly.frags.length yf) ∧ n10 < X.heap.size ∧ X.heap[n10]? = some (.cells #[.slice xf ly.frags.length yf, .slice xn ly.names.length yn, .slice xc ly.coms.length yc, .int .i64 (ly.fr 0), .int .i64 (ly.fr 1), .int .i64 (ly.fr 2), .int .i64 (ly.fr 3), .int .i64 (ly.fr 4), .int .i64 (ly.fr 5), .int .i64 (ly.ti 0), .int .i64 (ly.ti 1), .int .i64 (ly.ti 2), .int .i64 (ly.ti 3), .int .i64 (ly.ti 4), .int .i64 (ly.ti 5)] 38 (0, 0))) ∧ IntsAt X (.slice xf ly.frags.length yf) ly.frags ∧ FragsAt X (.slice a1 p.frags.length k1) p.frags) := fun X hX => by
    have vm := VM5.out.later hX
    have vp := V5.out.later hX
    have vl := VL.out.later hX
    exact ⟨⟨cellB vm.blk 0, cellB vm.blk 1, vm.lt⟩, ⟨vp.c0, vp.c1, (Array.getElem?_eq_some_iff.1 vp.blk).1⟩, ⟨cellB vl.blk 0, (Array.getElem?_eq_some_iff.1 vl.blk).1, vl.blk⟩, vl.frags, vp.fr⟩
  have hlf : ((ly.frags.length : Int) != (p.frags.length : Int)) = false := by rw [HLF.out]; simp
  have hsl : (Try.prog.info? 38).map (·.size) = some (#[.slice xf ly.frags.length yf, .slice xn ly.names.length yn, .slice xc ly.coms.length yc, .int .i64 (ly.fr 0), .int .i64 (ly.fr 1), .int .i64 (ly.fr 2), .int .i64 (ly.fr 3), .int .i64 (ly.fr 4), .int .i64 (ly.fr 5), .int .i64 (ly.ti 0), .int .i64 (ly.ti 1), .int .i64 (ly.ti 2), .int .i64 (ly.ti 3), .int .i64 (ly.ti 4), .int .i64 (ly.ti 5)] : Array Value).size := by kernel_rfl
  obtain ⟨⟨m0, m1, ml⟩, ⟨p0, p1, pl⟩, ⟨l0, ll, lb⟩, _, _⟩ := HV.out X5 (Below.refl _ _)
  have KWe : Hid _ := KW.out s m.entry HEn.out X5 (Below.refl _ _)
  go_upto_region 7 with fail
  go_upto_region 10 with (first | (refine wpList_load_row rfl 38 _ rfl n10 rfl 38 #[.slice xf ly.frags.length yf, .slice xn ly.names.length yn, .slice xc ly.coms.length yc, .int .i64 (ly.fr 0), .int .i64 (ly.fr 1), .int .i64 (ly.fr 2), .int .i64 (ly.fr 3), .int .i64 (ly.fr 4), .int .i64 (ly.fr 5), .int .i64 (ly.ti 0), .int .i64 (ly.ti 1), .int .i64 (ly.ti 2), .int .i64 (ly.ti 3), .int .i64 (ly.ti 4), .int .i64 (ly.ti 5)] (0, 0) _ lb Try.underlying38 rfl hsl ?_) | (go_at_call 12; refine (show Calls _ _ _ _ _ from KWe.out).mono ?_; rintro e Y ⟨rfl, hbY⟩; obtain ⟨⟨m0', m1', ml'⟩, ⟨p0', p1', pl'⟩, _, _, _⟩ := HV.out Y hbY))
  have HY : Hid (Below X5.heap.size X5 Y) := hbY
  clear m0 m1 ml p0 p1 pl l0 ll lb KWe hbY m0' m1' ml'
  go_wp2_with fail
  clear p0' p1' pl' hlf
  go_loopw [84] (fun s84 wr => ∃ (i : Nat), i ≤ p.frags.length ∧ s84 = .int .i64 i ∧ Hid (Below X5.heap.size X5 wr)) (fun s84 _ => p.frags.length - (intOf s84).toNat)
  case atStart => exact ⟨0, Nat.zero_le _, rfl, HY⟩
  case round =>
    obtain ⟨i, hi, rfl, HBi⟩ := hrel
    obtain ⟨⟨m0, m1, ml⟩, ⟨p0, p1, pl⟩, ⟨l0, ll, lb⟩, hI, hF⟩ := HV.out wr HBi.out
    by_cases hlt : i < p.frags.length
    · have hil : (i : Int) < (p.frags.length : Int) := by omega
      obtain ⟨b, off, ab, cb, ar, cr, hae, g0, g1, g2, g3, g4, g5, hBy, hRl, _⟩ := hF.cells i hlt
      subst hae
      have hbl : b < wr.heap.size := World.block_lt_of_cell? _ _ g0
      obtain ⟨pa0, pa1, pa2, pa3⟩ := HPos.out i hlt
      have HRi : Hid _ := HRow.out i hlt (HSm.out _ (getD_mem p.frags frg0 i hlt))
      clear hI hF
      generalize p.frags.getD i frg0 = f at *
      obtain ⟨sc, al, gr, bs, sz, rs⟩ := f
      simp only at *
      go_upto_region 13 with fail
      have hXb : Below wr.heap.size wr (wr.alloc (.cells #[.int .i64 sc, .int .i64 al, .string gr, .slice ab bs.length cb, .int .i64 sz, .slice ar rs.length cr] 46)) := (Below.refl _ _).alloc (Nat.le_refl _) _
      have hXq := heap_alloc_new wr (.cells #[.int .i64 sc, .int .i64 al, .string gr, .slice ab bs.length cb, .int .i64 sz, .slice ar rs.length cr] 46)
      have hBy0 := hBy.later hXb
      have hRl0 := hRl.later hXb
      generalize wr.alloc (.cells #[.int .i64 sc, .int .i64 al, .string gr, .slice ab bs.length cb, .int .i64 sz, .slice ar rs.length cr] 46) = Z0 at *
      have HZ0 : Hid (Below X5.heap.size X5 Z0) := HBi.out.trans (hXb.mono HBi.out.size)
      generalize wr.heap.size = g at *
      have z0 : Z0.cell? ⟨g, 0, none⟩ = some (.int .i64 sc) := cellB hXq 0
      have z3 : Z0.cell? ⟨g, 3, none⟩ = some (.slice ab bs.length cb) := cellB hXq 3
      have zl : g < Z0.heap.size := (Array.getElem?_eq_some_iff.1 hXq).1
      clear g0 g1 g2 g3 g4 g5 hbl hXb m0 m1 ml p0 p1 pl l0 ll lb hBy hRl
      cases h5 : (sc == 5)
      case true =>
        clear HRi hXq hBy0 hRl0
        go_wp2_with fail
        go_roundw
        case rel => exact ⟨i + 1, by omega, by go_num, HZ0⟩
        case measure => simp [intOf]; omega
      case false =>
        obtain ⟨B, r1, r2, hP⟩ := HRi.out (by simpa using h5)
        have HP : Hid (Place p ly i ⟨sc, al, gr, bs, sz, rs⟩ B) := hP
        have hBlen : B.length = bs.length := hP.len
        have KRi : Hid (∀ X, Below X5.heap.size X5 X → Calls Try.prog 13 #[.agg #[.int .i64 m.entry, .slice e1 m.segs.length f1], .int .i64 (ly.frags.getD i 0), .int .i64 (bs.length : Nat)] X fun e w' => Below X.heap.size X w' ∧ ∃ x y, e = .returned (.tuple #[.slice x bs.length y, .int .i64 0]) ∧ BytesAt w' (.slice x bs.length y) B) := fun X hX => by
          have := KR.out (ly.frags.getD i 0) (bs.length : Nat) X hX
          rwa [r1, r2, hBlen] at this
        obtain ⟨⟨m0, m1, ml⟩, _, ⟨l0, ll, _⟩, hI, _⟩ := HV.out Z0 HZ0.out
        obtain ⟨bi, oi, hxf, hci, hbi⟩ := IntsAt.cell hI i (by rw [HLF.out]; exact hlt)
        subst hxf
        have hif : (i : Int) < (ly.frags.length : Int) := by rw [HLF.out]; exact hil
        have HIc : Hid (∀ X, Below X5.heap.size X5 X → X.cell? ⟨bi, oi + i, none⟩ = some (.int .i64 (ly.frags.getD i 0)) ∧ bi < X.heap.size) := fun X hX => by
          obtain ⟨_, _, _, hI2, _⟩ := HV.out X hX
          obtain ⟨b2, o2, e2, hc2, hb2⟩ := IntsAt.cell hI2 i (by rw [HLF.out]; exact hlt)
          cases e2
          exact ⟨hc2, hb2⟩
        clear HRi r1 r2 hP hI
        generalize hAi : ly.frags.getD i 0 = Ai at *
        have HAi : Hid (ly.frags.getD i 0 = Ai) := hAi
        clear hAi
        go_wp2_with fail
        have hA0 : Below Z0.heap.size Z0 Z0.drew := (Below.refl _ _).drew
        have HSt : Hid (∀ X, Below Z0.heap.size Z0 X → X.cell? ⟨n7, 0, none⟩ = some (.int .i64 m.entry) ∧ X.cell? ⟨n7, 1, none⟩ = some (.slice e1 m.segs.length f1) ∧ X.cell? ⟨n10, 0, none⟩ = some (.slice (some ⟨bi, oi, none⟩) ly.frags.length yf) ∧ X.cell? ⟨bi, oi + i, none⟩ = some (.int .i64 Ai) ∧ X.cell? ⟨g, 3, none⟩ = some (.slice ab bs.length cb)) := fun X hX => by
          obtain ⟨⟨u0, u1, _⟩, _, ⟨u2, _, _⟩, _, _⟩ := HV.out X (HZ0.out.trans (hX.mono HZ0.out.size))
          exact ⟨u0, u1, u2, (HIc.out X (HZ0.out.trans (hX.mono HZ0.out.size))).1, (hX.cell (p := ⟨g, 3, none⟩) zl).trans z3⟩
        go_region_held3 (fun w' => w'.cell? ⟨n7, 0, none⟩ = some (.int .i64 m.entry) ∧ w'.cell? ⟨n7, 1, none⟩ = some (.slice e1 m.segs.length f1) ∧ w'.cell? ⟨n10, 0, none⟩ = some (.slice (some ⟨bi, oi, none⟩) ly.frags.length yf) ∧ w'.cell? ⟨bi, oi + i, none⟩ = some (.int .i64 Ai) ∧ w'.cell? ⟨g, 3, none⟩ = some (.slice ab bs.length cb)) ((refine HSt.out _ ?_; first | with_reducible exact hA0 | with_reducible exact hXV)) ((go_at_call 13; refine (KRi.out _ (HZ0.out.trans (hA0.mono HZ0.out.size))).mono ?_; rintro e V ⟨hbV, bx, bc, rfl, hYV⟩; have hXV : Below Z0.heap.size Z0 V := hA0.trans (hbV.mono hA0.size)))
        have HU : Hid (∀ X, Below V.heap.size V X → Below X5.heap.size X5 X ∧ X.cell? ⟨g, 3, none⟩ = some (.slice ab bs.length cb) ∧ X.cell? ⟨g, 5, none⟩ = some (.slice ar rs.length cr) ∧ g < X.heap.size ∧ RelsAt X (.slice ar rs.length cr) rs ∧ BytesAt X (.slice ab bs.length cb) bs ∧ BytesAt X (.slice bx bs.length bc) B) := fun X hX => by
          have hZX : Below Z0.heap.size Z0 X := hXV.trans (hX.mono hXV.size)
          have y := (hZX.block _ zl).trans hXq
          exact ⟨HZ0.out.trans (hZX.mono HZ0.out.size), cellB y 3, cellB y 5, (Array.getElem?_eq_some_iff.1 y).1, hRl0.later hZX, hBy0.later hZX, hYV.later hX⟩
        obtain ⟨_, v3, _, vl, _, _, _⟩ := HU.out V (Below.refl _ _)
        obtain ⟨i1, hi1, hy0, hy1, hy2⟩ := info_parts (P := Try.prog) (e := 4) (z := .bool false) (size := 1) (bytes := 1) (by kernel_rfl)
        obtain ⟨Z1, hmk, hrow, hgr⟩ := run_make_full V V.heap.size 49 4 i1 (.bool false) 1 Try.underlying49 hi1 hy0 hy1 .i64 .i64 bs.length (by rw [hy2]; omega) (by unfold maxLen; omega) (Nat.le_refl _)
        have hB1 : Below V.heap.size V Z1 := (Below.refl _ _).grown hgr (Nat.le_refl _) (fun k hk => by cases hk)
        have hG1 : Z1.heap[V.heap.size]? = some (.cells (encT (List.replicate bs.length false)).toArray 4 (0, 0)) := by
          rcases hrow.2 with ⟨h1, _⟩ | ⟨g', cap, cur, h1, _, h2, _, _, h5, h6⟩
          · cases h1
          · cases h1
            rw [made_bools] at h6
            have : cur.toList = encT (List.replicate bs.length false) := by
              have hcl : cur.toList.length = bs.length := by simpa using h5
              rw [List.take_of_length_le (by rw [hcl]; simp)] at h6
              exact h6
            rw [← this]
            exact h2
        have HG1 : Hid (Z1.heap[V.heap.size]? = some (.cells (encT (List.replicate bs.length false)).toArray 4 (0, 0))) := hG1
        have HB1 : Hid (Below V.heap.size V Z1) := hB1
        obtain ⟨_, w3, w5c, wl, _, _, _⟩ := HU.out Z1 hB1
        clear hrow hgr hB1 hG1 z0 z3 zl hXq hBy0 hRl0 hbV hXV hYV hA0 HSt m0 m1 ml l0 ll hci hbi KRi HZ0
        go_upto_region 18 with fail
        clear hmk hi1 hy0 hy1 hy2 v3 vl
        go_wp2_with fail
        clear w3 w5c wl
        generalize hGe : V.heap.size = G at *
        clear hGe
        go_loopw [121] (fun s121 wr => ∃ (j : Nat) (mk : List Bool), j ≤ rs.length ∧ s121 = .int .i64 j ∧ mk.length = bs.length ∧ Hid (Below G V wr) ∧ Hid (wr.heap[G]? = some (.cells (encT mk).toArray 4 (0, 0))) ∧ Hid (∀ r ∈ rs.take j, ∀ t : Nat, (t : Int) < M.wide r.kind → mk.getD (r.pos.toNat + t) false = true)) (fun s121 _ => rs.length - (intOf s121).toNat)
        case atStart => exact ⟨0, _, Nat.zero_le _, rfl, List.length_replicate .., HB1, HG1, fun r hr => by cases hr⟩
        case round =>
          obtain ⟨j, mk, hj, rfl, hmkl, HBj, HGj, HMj⟩ := hrel
          clear HB1 HG1
          obtain ⟨hX5, c3, c5, cg, hR, hBs, hBB⟩ := HU.out wr HBj.out
          have hGl : G < wr.heap.size := (Array.getElem?_eq_some_iff.1 HGj.out).1
          by_cases hjl : j < rs.length
          · have hjl' : (j : Int) < (rs.length : Int) := by omega
            obtain ⟨rb, ro, hre, hrc⟩ := SlAt.at hR.1 j hjl
            subst hre
            have r0 := hrc 0 (by decide)
            have r1 := hrc 1 (by decide)
            have r2 := hrc 2 (by decide)
            have r3 := hrc 3 (by decide)
            have r4 := hrc 4 (by decide)
            rw [Nat.add_zero] at r0
            have rl : rb < wr.heap.size := World.block_lt_of_cell? _ _ r0
            obtain ⟨tt, num, q1, q2, q3, q4, q5, q6, q7, q8⟩ := HP.out.rel _ (getD_mem rs rel0 j hjl)
            have HTk : Hid (rs.take (j + 1) = rs.take j ++ [rs.getD j rel0]) := by
              rw [Hid, List.take_succ_eq_append_getElem hjl, List.getD_eq_getElem?_getD, List.getElem?_eq_getElem hjl]; rfl
            rw [HAi.out] at q3
            generalize rs.getD j rel0 = r at *
            obtain ⟨ps, kd, nm, fg, ad⟩ := r
            simp only [relCell] at *
            obtain ⟨P, rfl⟩ : ∃ P : Nat, ps = P := ⟨ps.toNat, by omega⟩
            obtain ⟨wd, hwd⟩ : ∃ wd : Nat, M.wide kd = wd := ⟨(M.wide kd).toNat, by omega⟩
            have HWk : Hid (M.wide kd = wd) := hwd
            rw [hwd] at q6 q7 q8
            have KWd : Hid (∀ W, Calls Try.prog 16 #[.int .i64 kd] W fun e w' => e = .returned (.int .i64 wd) ∧ W = w') := fun W => (wide_any kd W).mono fun e w' h => ⟨by rw [h.1, hwd], h.2.symm⟩
            have KVv : Hid (∀ W, Calls Try.prog 14 #[.int .i64 kd, .int .i64 (Ai + (P : Int)), .int .i64 tt, .int .i64 ad] W fun e w' => e = .returned (.tuple #[.int .i64 num, .int .i64 0]) ∧ w' = W) := fun W => by
              have := value_any kd (Ai + (P : Int)) tt ad W
              rwa [q3] at this
            have KG : Hid (∀ W, BytesAt W (.slice bx bs.length bc) B → Calls Try.prog 15 #[.slice bx bs.length bc, .int .i64 P, .int .i64 kd] W fun e w' => e = .returned (.tuple #[.int .i64 num, .int .i64 0]) ∧ Below W.heap.size W w') := fun W hW => by
              have := get_any B bx bc P kd W (by rw [hBlen]; exact hW)
              rwa [hBlen, q4] at this
            have hwp : IntKind.i64.wrap (Ai + (P : Int)) = Ai + (P : Int) := by rw [IntKind.wrap_i64]; omega
            have Q1 : Hid _ := q1
            have Q2 : Hid _ := q2
            clear q1 q2 q3 q4 hwd hrc hR hBs hBB c3 hX5
            go_upto_region 21 with fail
            have hRb : Below wr.heap.size wr (wr.alloc (.cells #[.int .i64 P, .int .i64 kd, .string nm, .int .i64 fg, .int .i64 ad] 51)) := (Below.refl _ _).alloc (Nat.le_refl _) _
            have hRq := heap_alloc_new wr (.cells #[.int .i64 P, .int .i64 kd, .string nm, .int .i64 fg, .int .i64 ad] 51)
            generalize wr.alloc (.cells #[.int .i64 P, .int .i64 kd, .string nm, .int .i64 fg, .int .i64 ad] 51) = R1 at *
            have HR1 : Hid (Below G V R1) := HBj.out.trans (hRb.mono (Nat.le_of_lt hGl))
            have HGr : Hid (R1.heap[G]? = some (.cells (encT mk).toArray 4 (0, 0))) := (hRb.block _ hGl).trans HGj.out
            have hGR1l : G < R1.heap.size := (Array.getElem?_eq_some_iff.1 HGr.out).1
            have hGR1 : G ≤ R1.heap.size := Nat.le_of_lt hGR1l
            generalize wr.heap.size = gn at *
            have HX1 : Hid (Below X5.heap.size X5 R1) := (HU.out R1 HR1.out).1
            have d2 : R1.cell? ⟨gn, 2, none⟩ = some (.string nm) := cellB hRq 2
            have d3 : R1.cell? ⟨gn, 3, none⟩ = some (.int .i64 fg) := cellB hRq 3
            have dl : gn < R1.heap.size := (Array.getElem?_eq_some_iff.1 hRq).1
            clear r0 r1 r2 r3 r4 rl hRb HBj HGj c5 cg
            cases hb : nm.toList.isEmpty
            · have KWn : Hid _ := KW.out nm tt (Q1.out hb) R1 HX1.out
              obtain ⟨_, ⟨p0, p1, pl⟩, ⟨_, ll, lb⟩, _, _⟩ := HV.out R1 HX1.out
              clear Q1 Q2
              go_upto_region 30 with (first | (refine wpList_load_row rfl 38 _ rfl n10 rfl 38 #[.slice (some ⟨bi, oi, none⟩) ly.frags.length yf, .slice xn ly.names.length yn, .slice xc ly.coms.length yc, .int .i64 (ly.fr 0), .int .i64 (ly.fr 1), .int .i64 (ly.fr 2), .int .i64 (ly.fr 3), .int .i64 (ly.fr 4), .int .i64 (ly.fr 5), .int .i64 (ly.ti 0), .int .i64 (ly.ti 1), .int .i64 (ly.ti 2), .int .i64 (ly.ti 3), .int .i64 (ly.ti 4), .int .i64 (ly.ti 5)] (0, 0) _ lb Try.underlying38 rfl hsl ?_) | (go_at_call 12; refine (show Calls _ _ _ _ _ from KWn.out).mono ?_; rintro e V1 ⟨rfl, hbV1⟩; have hdc := (hbV1.cell (p := ⟨gn, 2, none⟩) dl).trans d2))
              have HV1 : Hid (Below R1.heap.size R1 V1) := hbV1
              clear p0 p1 pl ll lb KWn d2 d3 dl hbV1
              have hVW : Below G V V1 := HR1.out.trans (HV1.out.mono hGR1)
              obtain ⟨hX5W, _, _, _, _, _, _⟩ := HU.out V1 hVW
              have yq := (HV1.out.block _ (Array.getElem?_eq_some_iff.1 hRq).1).trans hRq
              have t0 : V1.cell? ⟨gn, 0, none⟩ = some (.int .i64 P) := cellB yq 0
              have t1 : V1.cell? ⟨gn, 1, none⟩ = some (.int .i64 kd) := cellB yq 1
              have t4 : V1.cell? ⟨gn, 4, none⟩ = some (.int .i64 ad) := cellB yq 4
              have tl : gn < V1.heap.size := (Array.getElem?_eq_some_iff.1 yq).1
              have GW : V1.heap[G]? = some (.cells (encT mk).toArray 4 (0, 0)) := (HV1.out.block _ hGR1l).trans HGr.out
              obtain ⟨_, _, ⟨l0, ll, _⟩, _, _⟩ := HV.out V1 hX5W
              obtain ⟨hci, hbi⟩ := HIc.out V1 hX5W
              refine wp_region_lat (by kernel_rfl) (by kernel_rfl) ?_
              intro hne
              repeat (go_big_quiet_step ((go_at_call 14; exact lat_of_same (KVv.out _))))
              refine wpQuiet_nil ?_
              intro V2 hb2
              have hb2 := lat_out hb2
              have HV2 : Hid (Below G V V2) := hVW.trans (hb2.mono (Nat.le_of_lt (Array.getElem?_eq_some_iff.1 GW).1))
              have yq2 := (hb2.block _ tl).trans yq
              have HG2 : Hid (V2.heap[G]? = some (.cells (encT mk).toArray 4 (0, 0))) := (hb2.block _ (Array.getElem?_eq_some_iff.1 GW).1).trans GW
              have u0 : V2.cell? ⟨gn, 0, none⟩ = some (.int .i64 P) := cellB yq2 0
              have u1 : V2.cell? ⟨gn, 1, none⟩ = some (.int .i64 kd) := cellB yq2 1
              have ul : gn < V2.heap.size := (Array.getElem?_eq_some_iff.1 yq2).1
              have KG2 : Hid _ := KG.out V2 (HU.out V2 HV2.out).2.2.2.2.2.2
              have HQ2 : Hid (V2.heap[gn]? = some (.cells #[.int .i64 P, .int .i64 kd, .string nm, .int .i64 fg, .int .i64 ad] 51 (0, 0))) := yq2
              clear hne t0 t1 t4 tl l0 ll hci hbi yq GW hb2 yq2 hVW hX5W
              go_upto_region 32 with (go_at_call 15; refine (show Calls _ _ _ _ _ from KG2.out).mono ?_; rintro e V3 ⟨rfl, hb3⟩)
              have HV3 : Hid (Below G V V3) := HV2.out.trans (hb3.mono (Nat.le_of_lt (Array.getElem?_eq_some_iff.1 HG2.out).1))
              have yq3 := (hb3.block _ ul).trans HQ2.out
              have HG3 : Hid (V3.heap[G]? = some (.cells (encT mk).toArray 4 (0, 0))) := (hb3.block _ (Array.getElem?_eq_some_iff.1 HG2.out).1).trans HG2.out
              have u1' : V3.cell? ⟨gn, 1, none⟩ = some (.int .i64 kd) := cellB yq3 1
              have ul' : gn < V3.heap.size := (Array.getElem?_eq_some_iff.1 yq3).1
              have HQ3 : Hid (V3.heap[gn]? = some (.cells #[.int .i64 P, .int .i64 kd, .string nm, .int .i64 fg, .int .i64 ad] 51 (0, 0))) := yq3
              clear u0 u1 ul KG2 HQ2 HG2 HV2 hb3 yq3
              go_wp2_with (go_at_call 16; refine (show Calls _ _ _ _ _ from KWd.out _).mono ?_; rintro e W4 ⟨rfl, rfl⟩)
              clear u1' ul'
              go_loopw [190] (fun s190 wr => ∃ (t : Nat) (mk' : List Bool), t ≤ wd ∧ s190 = .int .i64 t ∧ mk'.length = bs.length ∧ Hid (Below G V wr) ∧ Hid (wr.heap[G]? = some (.cells (encT mk').toArray 4 (0, 0))) ∧ Hid (wr.heap[gn]? = some (.cells #[.int .i64 P, .int .i64 kd, .string nm, .int .i64 fg, .int .i64 ad] 51 (0, 0))) ∧ Hid (∀ r ∈ rs.take j, ∀ t : Nat, (t : Int) < M.wide r.kind → mk'.getD (r.pos.toNat + t) false = true) ∧ Hid (∀ t', t' < t → mk'.getD (P + t') false = true)) (fun s190 _ => wd - (intOf s190).toNat)
              case atStart => exact ⟨0, mk, Nat.zero_le _, rfl, hmkl, HV3, HG3, HQ3, HMj, fun t' h => absurd h (Nat.not_lt_zero t')⟩
              case round =>
                obtain ⟨t, mk', ht, rfl, hml, HBt, HGt, HQt, HMt, HTt⟩ := hrel
                clear HV3 HG3 HQ3
                by_cases htw : t < wd
                · have htl : (t : Int) < (wd : Int) := by omega
                  obtain ⟨q, hq⟩ : ∃ q : Nat, q = P + t := ⟨_, rfl⟩
                  have hwq : IntKind.i64.wrap ((P : Int) + (t : Int)) = (q : Int) := by rw [IntKind.wrap_i64]; omega
                  have hsq : (P : Int) + (t : Int) = (q : Int) := by omega
                  have hql : (q : Int) < (bs.length : Int) := by omega
                  have hqm : q < mk'.length := by omega
                  have x0 : wr.cell? ⟨gn, 0, none⟩ = some (.int .i64 P) := cellB HQt.out 0
                  have xl : gn < wr.heap.size := (Array.getElem?_eq_some_iff.1 HQt.out).1
                  have xc := encT_cell HGt.out hqm
                  have xz := frozenB HGt.out q
                  have xg : G < wr.heap.size := (Array.getElem?_eq_some_iff.1 HGt.out).1
                  have HN1 : Hid ((wr.setCell ⟨G, q, none⟩ (.bool true)).heap[G]? = some (.cells (encT (mk'.set q true)).toArray 4 (0, 0))) := by rw [Hid, ← encT_set]; exact setB' HGt.out _
                  have HN2 : Hid ((wr.setCell ⟨G, q, none⟩ (.bool true)).heap[gn]? = some (.cells #[.int .i64 P, .int .i64 kd, .string nm, .int .i64 fg, .int .i64 ad] 51 (0, 0))) := (Below.heap_setCell _ _ _ _ (by show gn ≠ G; omega)).trans HQt.out
                  have HN3 : Hid (Below G V (wr.setCell ⟨G, q, none⟩ (.bool true))) := HBt.out.setCell (Nat.le_refl _) _
                  have HN4 : Hid (∀ r ∈ rs.take j, ∀ t : Nat, (t : Int) < M.wide r.kind → (mk'.set q true).getD (r.pos.toNat + t) false = true) := fun r hr t' h' => setD (HMt.out r hr t' h')
                  have HN5 : Hid (∀ t', t' < t + 1 → (mk'.set q true).getD (P + t') false = true) := fun t' h' => by
                    by_cases e : t' = t
                    · subst e; rw [← hq]; exact setD_same hqm
                    · exact setD (HTt.out t' (by omega))
                  have hml2 : (mk'.set q true).length = bs.length := by rw [List.length_set]; exact hml
                  clear HBt HGt HQt HMt HTt hq
                  generalize mk'.set q true = mk2 at *
                  generalize mk'.getD q false = ob at *
                  go_wp2_with fail
                  go_roundw
                  case rel =>
                    first | exact ⟨t + 1, mk2, by omega, by go_num, hml2, HN3, HN1, HN2, HN4, HN5⟩ | (rw [Nat.zero_add]; exact ⟨t + 1, mk2, by omega, by go_num, hml2, HN3, HN1, HN2, HN4, HN5⟩)
                  case measure => simp [intOf]; omega
                · have htw' : t = wd := by omega
                  subst htw'
                  have HMn : Hid (∀ r ∈ rs.take (j + 1), ∀ t : Nat, (t : Int) < M.wide r.kind → mk'.getD (r.pos.toNat + t) false = true) := fun r hr t' h' => by
                    rw [HTk.out] at hr
                    rcases List.mem_append.1 hr with hr | hr
                    · exact HMt.out r hr t' h'
                    · obtain rfl := List.mem_singleton.1 hr
                      have h2 : (t' : Int) < M.wide kd := h'
                      rw [HWk.out] at h2
                      exact HTt.out t' (by omega)
                  clear HQt HMt HTt
                  go_wp2_with fail
                  go_roundw
                  case rel => exact ⟨j + 1, mk', by omega, by go_num, hml, HBt, HGt, HMn⟩
                  case measure => simp [intOf]; omega
            · obtain ⟨f0, f1', f2'⟩ := Q2.out hb
              obtain ⟨_, _, ⟨l0, ll, _⟩, hI, _⟩ := HV.out R1 HX1.out
              obtain ⟨F, rfl⟩ : ∃ F : Nat, fg = F := ⟨fg.toNat, by omega⟩
              simp only [Int.toNat_natCast] at f2'
              have hFl : F < ly.frags.length := by rw [HLF.out]; omega
              obtain ⟨b4, o4, e4, hcF, hbF⟩ := IntsAt.cell hI F hFl
              cases e4
              rw [f2'] at hcF
              have hFl' : (F : Int) < (ly.frags.length : Int) := by omega
              have hF0 : ¬ (F : Int) < 0 := by omega
              have HV1 : Hid (Below R1.heap.size R1 R1) := Below.refl _ _
              clear Q1 Q2 hI f1' f2'
              go_upto_region 30 with fail
              clear l0 ll d2 d3 dl hcF hbF
              have hVW : Below G V R1 := HR1.out.trans (HV1.out.mono hGR1)
              obtain ⟨hX5W, _, _, _, _, _, _⟩ := HU.out R1 hVW
              have yq := (HV1.out.block _ (Array.getElem?_eq_some_iff.1 hRq).1).trans hRq
              have t0 : R1.cell? ⟨gn, 0, none⟩ = some (.int .i64 P) := cellB yq 0
              have t1 : R1.cell? ⟨gn, 1, none⟩ = some (.int .i64 kd) := cellB yq 1
              have t4 : R1.cell? ⟨gn, 4, none⟩ = some (.int .i64 ad) := cellB yq 4
              have tl : gn < R1.heap.size := (Array.getElem?_eq_some_iff.1 yq).1
              have GW : R1.heap[G]? = some (.cells (encT mk).toArray 4 (0, 0)) := (HV1.out.block _ hGR1l).trans HGr.out
              obtain ⟨_, _, ⟨l0, ll, _⟩, _, _⟩ := HV.out R1 hX5W
              obtain ⟨hci, hbi⟩ := HIc.out R1 hX5W
              refine wp_region_lat (by kernel_rfl) (by kernel_rfl) ?_
              intro hne
              repeat (go_big_quiet_step ((go_at_call 14; exact lat_of_same (KVv.out _))))
              refine wpQuiet_nil ?_
              intro V2 hb2
              have hb2 := lat_out hb2
              have HV2 : Hid (Below G V V2) := hVW.trans (hb2.mono (Nat.le_of_lt (Array.getElem?_eq_some_iff.1 GW).1))
              have yq2 := (hb2.block _ tl).trans yq
              have HG2 : Hid (V2.heap[G]? = some (.cells (encT mk).toArray 4 (0, 0))) := (hb2.block _ (Array.getElem?_eq_some_iff.1 GW).1).trans GW
              have u0 : V2.cell? ⟨gn, 0, none⟩ = some (.int .i64 P) := cellB yq2 0
              have u1 : V2.cell? ⟨gn, 1, none⟩ = some (.int .i64 kd) := cellB yq2 1
              have ul : gn < V2.heap.size := (Array.getElem?_eq_some_iff.1 yq2).1
              have KG2 : Hid _ := KG.out V2 (HU.out V2 HV2.out).2.2.2.2.2.2
              have HQ2 : Hid (V2.heap[gn]? = some (.cells #[.int .i64 P, .int .i64 kd, .string nm, .int .i64 F, .int .i64 ad] 51 (0, 0))) := yq2
              clear hne t0 t1 t4 tl l0 ll hci hbi yq GW hb2 yq2 hVW hX5W
              go_upto_region 32 with (go_at_call 15; refine (show Calls _ _ _ _ _ from KG2.out).mono ?_; rintro e V3 ⟨rfl, hb3⟩)
              have HV3 : Hid (Below G V V3) := HV2.out.trans (hb3.mono (Nat.le_of_lt (Array.getElem?_eq_some_iff.1 HG2.out).1))
              have yq3 := (hb3.block _ ul).trans HQ2.out
              have HG3 : Hid (V3.heap[G]? = some (.cells (encT mk).toArray 4 (0, 0))) := (hb3.block _ (Array.getElem?_eq_some_iff.1 HG2.out).1).trans HG2.out
              have u1' : V3.cell? ⟨gn, 1, none⟩ = some (.int .i64 kd) := cellB yq3 1
              have ul' : gn < V3.heap.size := (Array.getElem?_eq_some_iff.1 yq3).1
              have HQ3 : Hid (V3.heap[gn]? = some (.cells #[.int .i64 P, .int .i64 kd, .string nm, .int .i64 F, .int .i64 ad] 51 (0, 0))) := yq3
              clear u0 u1 ul KG2 HQ2 HG2 HV2 hb3 yq3
              go_wp2_with (go_at_call 16; refine (show Calls _ _ _ _ _ from KWd.out _).mono ?_; rintro e W4 ⟨rfl, rfl⟩)
              clear u1' ul'
              go_loopw [190] (fun s190 wr => ∃ (t : Nat) (mk' : List Bool), t ≤ wd ∧ s190 = .int .i64 t ∧ mk'.length = bs.length ∧ Hid (Below G V wr) ∧ Hid (wr.heap[G]? = some (.cells (encT mk').toArray 4 (0, 0))) ∧ Hid (wr.heap[gn]? = some (.cells #[.int .i64 P, .int .i64 kd, .string nm, .int .i64 F, .int .i64 ad] 51 (0, 0))) ∧ Hid (∀ r ∈ rs.take j, ∀ t : Nat, (t : Int) < M.wide r.kind → mk'.getD (r.pos.toNat + t) false = true) ∧ Hid (∀ t', t' < t → mk'.getD (P + t') false = true)) (fun s190 _ => wd - (intOf s190).toNat)
              case atStart => exact ⟨0, mk, Nat.zero_le _, rfl, hmkl, HV3, HG3, HQ3, HMj, fun t' h => absurd h (Nat.not_lt_zero t')⟩
              case round =>
                obtain ⟨t, mk', ht, rfl, hml, HBt, HGt, HQt, HMt, HTt⟩ := hrel
                clear HV3 HG3 HQ3
                by_cases htw : t < wd
                · have htl : (t : Int) < (wd : Int) := by omega
                  obtain ⟨q, hq⟩ : ∃ q : Nat, q = P + t := ⟨_, rfl⟩
                  have hwq : IntKind.i64.wrap ((P : Int) + (t : Int)) = (q : Int) := by rw [IntKind.wrap_i64]; omega
                  have hsq : (P : Int) + (t : Int) = (q : Int) := by omega
                  have hql : (q : Int) < (bs.length : Int) := by omega
                  have hqm : q < mk'.length := by omega
                  have x0 : wr.cell? ⟨gn, 0, none⟩ = some (.int .i64 P) := cellB HQt.out 0
                  have xl : gn < wr.heap.size := (Array.getElem?_eq_some_iff.1 HQt.out).1
                  have xc := encT_cell HGt.out hqm
                  have xz := frozenB HGt.out q
                  have xg : G < wr.heap.size := (Array.getElem?_eq_some_iff.1 HGt.out).1
                  have HN1 : Hid ((wr.setCell ⟨G, q, none⟩ (.bool true)).heap[G]? = some (.cells (encT (mk'.set q true)).toArray 4 (0, 0))) := by rw [Hid, ← encT_set]; exact setB' HGt.out _
                  have HN2 : Hid ((wr.setCell ⟨G, q, none⟩ (.bool true)).heap[gn]? = some (.cells #[.int .i64 P, .int .i64 kd, .string nm, .int .i64 F, .int .i64 ad] 51 (0, 0))) := (Below.heap_setCell _ _ _ _ (by show gn ≠ G; omega)).trans HQt.out
                  have HN3 : Hid (Below G V (wr.setCell ⟨G, q, none⟩ (.bool true))) := HBt.out.setCell (Nat.le_refl _) _
                  have HN4 : Hid (∀ r ∈ rs.take j, ∀ t : Nat, (t : Int) < M.wide r.kind → (mk'.set q true).getD (r.pos.toNat + t) false = true) := fun r hr t' h' => setD (HMt.out r hr t' h')
                  have HN5 : Hid (∀ t', t' < t + 1 → (mk'.set q true).getD (P + t') false = true) := fun t' h' => by
                    by_cases e : t' = t
                    · subst e; rw [← hq]; exact setD_same hqm
                    · exact setD (HTt.out t' (by omega))
                  have hml2 : (mk'.set q true).length = bs.length := by rw [List.length_set]; exact hml
                  clear HBt HGt HQt HMt HTt hq
                  generalize mk'.set q true = mk2 at *
                  generalize mk'.getD q false = ob at *
                  go_wp2_with fail
                  go_roundw
                  case rel =>
                    first | exact ⟨t + 1, mk2, by omega, by go_num, hml2, HN3, HN1, HN2, HN4, HN5⟩ | (rw [Nat.zero_add]; exact ⟨t + 1, mk2, by omega, by go_num, hml2, HN3, HN1, HN2, HN4, HN5⟩)
                  case measure => simp [intOf]; omega
                · have htw' : t = wd := by omega
                  subst htw'
                  have HMn : Hid (∀ r ∈ rs.take (j + 1), ∀ t : Nat, (t : Int) < M.wide r.kind → mk'.getD (r.pos.toNat + t) false = true) := fun r hr t' h' => by
                    rw [HTk.out] at hr
                    rcases List.mem_append.1 hr with hr | hr
                    · exact HMt.out r hr t' h'
                    · obtain rfl := List.mem_singleton.1 hr
                      have h2 : (t' : Int) < M.wide kd := h'
                      rw [HWk.out] at h2
                      exact HTt.out t' (by omega)
                  clear HQt HMt HTt
                  go_wp2_with fail
                  go_roundw
                  case rel => exact ⟨j + 1, mk', by omega, by go_num, hml, HBt, HGt, HMn⟩
                  case measure => simp [intOf]; omega
          · have hjl' : j = rs.length := by omega
            subst hjl'
            have HFin : Hid (∀ k : Nat, k < bs.length → mk.getD k false = false → B.getD k 0 = bs.getD k 0) := fun k hk hm => by
              refine HP.out.rest k hk fun r hr => ?_
              obtain ⟨_, _, _, _, _, _, g5, _, _, _⟩ := HP.out.rel r hr
              by_cases h1 : (k : Int) < r.pos
              · exact .inl h1
              · by_cases h2 : r.pos + M.wide r.kind ≤ (k : Int)
                · exact .inr h2
                · exfalso
                  have := HMj.out r (by rw [List.take_length]; exact hr) (k - r.pos.toNat) (by omega)
                  rw [show r.pos.toNat + (k - r.pos.toNat) = k by omega, hm] at this
                  cases this
            clear hR HMj
            go_wp2_with fail
            clear c3 c5 cg
            have HBn : Hid (Below G V wr) := HBj
            have HGn : Hid (wr.heap[G]? = some (.cells (encT mk).toArray 4 (0, 0))) := HGj
            clear HBj HGj hBs hBB hX5 hGl
            go_loopw [204] (fun s204 wr => ∃ (k : Nat), k ≤ bs.length ∧ s204 = .int .i64 k ∧ Hid (Below G V wr) ∧ Hid (wr.heap[G]? = some (.cells (encT mk).toArray 4 (0, 0)))) (fun s204 _ => bs.length - (intOf s204).toNat)
            case atStart => exact ⟨0, Nat.zero_le _, rfl, HBn, HGn⟩
            case round =>
              obtain ⟨k, hk, rfl, HBk, HGk⟩ := hrel
              clear HBn HGn
              obtain ⟨hX5, _, _, _, _, hBs, hBB⟩ := HU.out wr HBk.out
              have HX5k : Hid (Below X5.heap.size X5 wr) := hX5
              by_cases hkl : k < bs.length
              · have hkl' : (k : Int) < (bs.length : Int) := by omega
                obtain ⟨b6, o6, e6, hc6, hb6⟩ := BytesAt.cell hBs k hkl
                subst e6
                have hBB' : BytesAt wr (.slice bx B.length bc) B := by rw [hBlen]; exact hBB
                obtain ⟨b7, o7, e7, hc7, hb7⟩ := BytesAt.cell hBB' k (by rw [hBlen]; exact hkl)
                subst e7
                have hmc := encT_cell HGk.out (k := k) (by rw [hmkl]; exact hkl)
                have hgl : G < wr.heap.size := (Array.getElem?_eq_some_iff.1 HGk.out).1
                have HF : Hid _ := HFin.out k hkl
                clear hBs hBB hBB' hX5
                generalize bs.getD k 0 = x at *
                generalize B.getD k 0 = y at *
                generalize mk.getD k false = mb at *
                cases mb
                · obtain rfl : y = x := HF.out rfl
                  clear HF
                  go_wp2_with fail
                  go_roundw
                  case rel => exact ⟨k + 1, by omega, by go_num, HBk, HGk⟩
                  case measure => simp [intOf]; omega
                · clear HF
                  go_wp2_with fail
                  go_roundw
                  case rel => exact ⟨k + 1, by omega, by go_num, HBk, HGk⟩
                  case measure => simp [intOf]; omega
              · have hkl' : k = bs.length := by omega
                subst hkl'
                clear hBs hBB hX5
                go_wp2_with fail
                go_roundw
                case rel => exact ⟨i + 1, by omega, by go_num, HX5k⟩
                case measure => simp [intOf]; omega
    · have hil : i = p.frags.length := by omega
      subst hil
      clear hI hF m0 m1 ml p0 p1 pl l0 ll lb
      go_wp2
      go_ret
      exact ⟨rfl, HBX5.out.trans (HBi.out.mono HBX5.out.size)⟩

end Go.Proofs.Ytabkbicaignicaa
