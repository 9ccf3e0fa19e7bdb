/-
  The law LayoutLays: what fits.
-/
import Derived.Test.YtbohadjfmfoeaaaDoorRefLysH
namespace Go.Proofs.YtbohadjfmfoeaaaDoor
open Go Go.RowKit
set_option linter.unusedVariables false

set_option maxHeartbeats 16000000 in
set_option maxRecDepth 100000 in
theorem lays_D (p : M.Prt) (base : Int) (s : ByteArray) (a1 a2 : Option Addr) (c1 c2 : Nat) (w : World) (hf : FragsAt w (.slice a1 p.frags.length c1) p.frags) (hd : DefsAt w (.slice a2 p.defs.length c2) p.defs) (hcap : p.frags.length ≤ c1) (hH : Hid (M.checkPart p = 0)) (hH2 : Hid (¬ (base < 0 ∨ 65536 ≤ base))) (hH3 : Hid ((M.lay p base).2 = 0)) :
    Calls Tryd.prog 3 #[.agg #[.slice a1 p.frags.length c1, .slice a2 p.defs.length c2], .int .i64 base, .string s] w fun e w' => e = .returned (.bool true) ∧ Below w.heap.size w w' := by
  have V0 : Hid (Var (w.alloc (.cells #[.slice a1 p.frags.length c1, .slice a2 p.defs.length c2] 25)) w.heap.size a1 a2 c1 c2 p) := var_new hf hd
  have HB0 : Hid (Below w.heap.size w (w.alloc (.cells #[.slice a1 p.frags.length c1, .slice a2 p.defs.length c2] 25))) := (Below.refl _ _).alloc (Nat.le_refl _) _
  clear hf hd
  obtain ⟨l, er, hl⟩ : ∃ l er, M.lay p base = (l, er) := ⟨_, _, rfl⟩
  have HL : Hid (M.lay p base = (l, er)) := hl
  have HEr : Hid ((M.lay p base).2 = er) := by rw [Hid, hl]
  have HM : Hid (M.lay p base = if M.checkPart p = 0 then (if base < 0 ∨ 65536 ≤ base then (M.lay0, 3) else if 65536 < M.tillOf p base 5 then (M.lay0, 10) else (M.layAll p base, 0)) else (M.lay0, M.checkPart p)) := rfl
  have KL : Hid (Calls Tryd.prog 4 #[.agg #[.slice a1 p.frags.length c1, .slice a2 p.defs.length c2], .int .i64 base] (w.alloc (.cells #[.slice a1 p.frags.length c1, .slice a2 p.defs.length c2] 25)) _) := lay_vv V0.out.fr V0.out.df l er hl
  have cp0 := V0.out.c0
  have cp1 := V0.out.c1
  clear hl
  go_enter Tryd.func3, Tryd.ntmps3
  go_upto_region 2 with (go_at_call 4; refine KL.out.mono ?_; rintro e w1 ⟨hb1, xf, yf, xn, yn, xc, yc, rfl, hF1, hN1, hC1⟩)
  have VL : Hid (LVar (w1.alloc (.cells (layArr (.slice xf l.frags.length yf) (.slice xn l.names.length yn) (.slice xc l.coms.length yc) l.fr l.ti) 30)) w1.heap.size xf yf xn yn xc yc l) := lvar_new hF1 hN1 hC1
  have HBa := hb1.alloc hb1.size (.cells (layArr (.slice xf l.frags.length yf) (.slice xn l.names.length yn) (.slice xc l.coms.length yc) l.fr l.ti) 30)
  simp only [layArr] at VL HBa
  have V1 : Hid _ := V0.out.later HBa
  have HB1 : Hid _ := HB0.out.trans (HBa.mono HB0.out.size)
  clear hF1 hN1 hC1 KL cp0 cp1 hb1 HBa V0 HB0
  generalize w1.alloc (.cells #[.slice xf l.frags.length yf, .slice xn l.names.length yn, .slice xc l.coms.length yc, .int .i64 (l.fr 0), .int .i64 (l.fr 1), .int .i64 (l.fr 2), .int .i64 (l.fr 3), .int .i64 (l.fr 4), .int .i64 (l.fr 5), .int .i64 (l.ti 0), .int .i64 (l.ti 1), .int .i64 (l.ti 2), .int .i64 (l.ti 3), .int .i64 (l.ti 4), .int .i64 (l.ti 5)] 30) = X1 at *
  generalize w1.heap.size = n7 at *
  have KC : Hid (Calls Tryd.prog 5 #[.agg #[.slice a1 p.frags.length c1, .slice a2 p.defs.length c2]] X1 fun e w' => e = .returned (.int .i64 (M.checkPart p)) ∧ Below X1.heap.size X1 w') := rcheck_any p.frags p.defs a1 a2 c1 c2 X1 V1.out.fr V1.out.df
  have cp0 := V1.out.c0
  have cp1 := V1.out.c1
  go_upto_region 3 with (go_at_call 5; refine KC.out.mono ?_; rintro e X2 ⟨rfl, hb2⟩)
  have VL2 : Hid (LVar X2 n7 xf yf xn yn xc yc l) := VL.out.later hb2
  have V2 : Hid (Var X2 w.heap.size a1 a2 c1 c2 p) := V1.out.later hb2
  have HB2 : Hid (Below w.heap.size w X2) := HB1.out.trans (hb2.mono HB1.out.size)
  clear VL V1 HB1 KC cp0 cp1 hb2
  by_cases hck : M.checkPart p = 0
  · rw [hck]
    by_cases hbs : base < 0 ∨ 65536 ≤ base
    · exact absurd hbs hH2.out
    · have hb0 : 0 ≤ base := by omega
      have hb6 : base < 65536 := by omega
      have hbn : ¬ base < 0 := by omega
      have hbm : ¬ 65535 < base := by omega
      have hok := (M.ok_iff p).1 hck
      have HLo : Hid (er = 0 → l = M.layAll p base ∧ M.Apart p base) := fun h => by
        have h1 := HL.out
        rw [HM.out, if_pos hck, if_neg hbs] at h1
        by_cases ht : 65536 < M.tillOf p base 5
        · rw [if_pos ht] at h1
          have := congrArg Prod.snd h1
          simp only at this
          omega
        · rw [if_neg ht] at h1
          exact ⟨(congrArg Prod.fst h1).symm, M.apart_of hok hb0 (by omega)⟩
      have V3 := V2.out.later (show Below X2.heap.size X2 (X2.alloc (.cells #[.slice none 0 0, .slice none 0 0, .slice none 0 0, .int .i64 0, .int .i64 0, .int .i64 0, .int .i64 0, .int .i64 0, .int .i64 0, .int .i64 0, .int .i64 0, .int .i64 0, .int .i64 0, .int .i64 0, .int .i64 0] 30)) from (Below.refl _ _).alloc (Nat.le_refl _) _)
      have KLO : Hid (Calls Tryd.prog 6 #[.agg #[.slice a1 p.frags.length c1, .slice a2 p.defs.length c2], .int .i64 base] (X2.alloc (.cells #[.slice none 0 0, .slice none 0 0, .slice none 0 0, .int .i64 0, .int .i64 0, .int .i64 0, .int .i64 0, .int .i64 0, .int .i64 0, .int .i64 0, .int .i64 0, .int .i64 0, .int .i64 0, .int .i64 0, .int .i64 0] 30)) fun e w' => Below (X2.alloc (.cells #[.slice none 0 0, .slice none 0 0, .slice none 0 0, .int .i64 0, .int .i64 0, .int .i64 0, .int .i64 0, .int .i64 0, .int .i64 0, .int .i64 0, .int .i64 0, .int .i64 0, .int .i64 0, .int .i64 0, .int .i64 0] 30)).heap.size (X2.alloc (.cells #[.slice none 0 0, .slice none 0 0, .slice none 0 0, .int .i64 0, .int .i64 0, .int .i64 0, .int .i64 0, .int .i64 0, .int .i64 0, .int .i64 0, .int .i64 0, .int .i64 0, .int .i64 0, .int .i64 0, .int .i64 0] 30)) w' ∧ ∃ uf vf un vn uc vc, e = .returned (.tuple #[.agg #[.slice uf l.frags.length vf, .slice un l.names.length vn, .slice uc l.coms.length vc, .int .i64 (l.fr 0), .int .i64 (l.fr 1), .int .i64 (l.fr 2), .int .i64 (l.fr 3), .int .i64 (l.fr 4), .int .i64 (l.fr 5), .int .i64 (l.ti 0), .int .i64 (l.ti 1), .int .i64 (l.ti 2), .int .i64 (l.ti 3), .int .i64 (l.ti 4), .int .i64 (l.ti 5)], .int .i64 er]) ∧ w'.ownsRow (X2.alloc (.cells #[.slice none 0 0, .slice none 0 0, .slice none 0 0, .int .i64 0, .int .i64 0, .int .i64 0, .int .i64 0, .int .i64 0, .int .i64 0, .int .i64 0, .int .i64 0, .int .i64 0, .int .i64 0, .int .i64 0, .int .i64 0] 30)).heap.size 3 1 (.slice uf l.frags.length vf) l.frags.length (l.frags.map (Value.int .i64)) ∧ w'.ownsRow (X2.alloc (.cells #[.slice none 0 0, .slice none 0 0, .slice none 0 0, .int .i64 0, .int .i64 0, .int .i64 0, .int .i64 0, .int .i64 0, .int .i64 0, .int .i64 0, .int .i64 0, .int .i64 0, .int .i64 0, .int .i64 0, .int .i64 0] 30)).heap.size 9 1 (.slice un l.names.length vn) l.names.length (l.names.map Value.string) ∧ (∀ x ∈ l.names, x.size ≤ maxLen) ∧ w'.ownsRow (X2.alloc (.cells #[.slice none 0 0, .slice none 0 0, .slice none 0 0, .int .i64 0, .int .i64 0, .int .i64 0, .int .i64 0, .int .i64 0, .int .i64 0, .int .i64 0, .int .i64 0, .int .i64 0, .int .i64 0, .int .i64 0, .int .i64 0] 30)).heap.size 3 1 (.slice uc l.coms.length vc) l.coms.length (l.coms.map (Value.int .i64))) := by
        refine (laidOut_any p base a1 a2 c1 c2 _ V3.fr V3.df hcap hck hb0 hb6).mono ?_
        rintro e w' ⟨h1, vF, vN, vC, rfl, oF, oN, zN, oC⟩
        rw [HL.out] at oF oN zN oC ⊢
        obtain ⟨uf, vf, rfl⟩ := own_len oF
        obtain ⟨un, vn, rfl⟩ := own_len oN
        obtain ⟨uc, vc, rfl⟩ := own_len oC
        exact ⟨h1, uf, vf, un, vn, uc, vc, rfl, oF, oN, zN, oC⟩
      have qz := heap_alloc_new X2 (.cells #[.slice none 0 0, .slice none 0 0, .slice none 0 0, .int .i64 0, .int .i64 0, .int .i64 0, .int .i64 0, .int .i64 0, .int .i64 0, .int .i64 0, .int .i64 0, .int .i64 0, .int .i64 0, .int .i64 0, .int .i64 0] 30)
      have HX3 : Hid (Below X2.heap.size X2 (X2.alloc (.cells #[.slice none 0 0, .slice none 0 0, .slice none 0 0, .int .i64 0, .int .i64 0, .int .i64 0, .int .i64 0, .int .i64 0, .int .i64 0, .int .i64 0, .int .i64 0, .int .i64 0, .int .i64 0, .int .i64 0, .int .i64 0] 30))) := (Below.refl _ _).alloc (Nat.le_refl _) _
      have cp0 := V3.c0
      have cp1 := V3.c1
      have hsz3 : X2.heap.size < (X2.alloc (.cells #[.slice none 0 0, .slice none 0 0, .slice none 0 0, .int .i64 0, .int .i64 0, .int .i64 0, .int .i64 0, .int .i64 0, .int .i64 0, .int .i64 0, .int .i64 0, .int .i64 0, .int .i64 0, .int .i64 0, .int .i64 0] 30)).heap.size := by simp
      clear V3 HM HL
      go_upto_region 7 with fail
      generalize X2.alloc (.cells #[.slice none 0 0, .slice none 0 0, .slice none 0 0, .int .i64 0, .int .i64 0, .int .i64 0, .int .i64 0, .int .i64 0, .int .i64 0, .int .i64 0, .int .i64 0, .int .i64 0, .int .i64 0, .int .i64 0, .int .i64 0] 30) = X3 at *
      have hsi : (Tryd.prog.info? 30).map (·.size) = some 15 := by kernel_rfl
      go_upto_region 8 with (first | (go_at_call 6; refine KLO.out.mono ?_; rintro e V ⟨hbV, uf, vf, un, vn, uc, vc, rfl, oF, oN, zN, oC⟩; have qv := (hbV.block _ hsz3).trans qz) | (refine wpList_store_row rfl 30 _ _ rfl X2.heap.size #[.slice uf l.frags.length vf, .slice un l.names.length vn, .slice uc l.coms.length vc, .int .i64 (l.fr 0), .int .i64 (l.fr 1), .int .i64 (l.fr 2), .int .i64 (l.fr 3), .int .i64 (l.fr 4), .int .i64 (l.fr 5), .int .i64 (l.ti 0), .int .i64 (l.ti 1), .int .i64 (l.ti 2), .int .i64 (l.ti 3), .int .i64 (l.ti 4), .int .i64 (l.ti 5)] rfl rfl 30 #[.slice none 0 0, .slice none 0 0, .slice none 0 0, .int .i64 0, .int .i64 0, .int .i64 0, .int .i64 0, .int .i64 0, .int .i64 0, .int .i64 0, .int .i64 0, .int .i64 0, .int .i64 0, .int .i64 0, .int .i64 0] qv hsi rfl (by simp [Value.oneCell']) ?_))
      have hgs := gb_setRow V X2.heap.size #[.slice uf l.frags.length vf, .slice un l.names.length vn, .slice uc l.coms.length vc, .int .i64 (l.fr 0), .int .i64 (l.fr 1), .int .i64 (l.fr 2), .int .i64 (l.fr 3), .int .i64 (l.fr 4), .int .i64 (l.fr 5), .int .i64 (l.ti 0), .int .i64 (l.ti 1), .int .i64 (l.ti 2), .int .i64 (l.ti 3), .int .i64 (l.ti 4), .int .i64 (l.ti 5)]
      have L10 : LVar (V.setRow X2.heap.size #[.slice uf l.frags.length vf, .slice un l.names.length vn, .slice uc l.coms.length vc, .int .i64 (l.fr 0), .int .i64 (l.fr 1), .int .i64 (l.fr 2), .int .i64 (l.fr 3), .int .i64 (l.fr 4), .int .i64 (l.fr 5), .int .i64 (l.ti 0), .int .i64 (l.ti 1), .int .i64 (l.ti 2), .int .i64 (l.ti 3), .int .i64 (l.ti 4), .int .i64 (l.ti 5)]) X2.heap.size uf vf un vn uc vc l := ⟨setRow_heap _ _ _ _ _ _ qv, row_ints (oF.kept hgs (.inr (fun e => by have := (oF.lt _ e).1; omega))), row_strs (oN.kept hgs (.inr (fun e => by have := (oN.lt _ e).1; omega))) zN, row_ints (oC.kept hgs (.inr (fun e => by have := (oC.lt _ e).1; omega)))⟩
      have hXv : Below X2.heap.size X2 (V.setRow X2.heap.size #[.slice uf l.frags.length vf, .slice un l.names.length vn, .slice uc l.coms.length vc, .int .i64 (l.fr 0), .int .i64 (l.fr 1), .int .i64 (l.fr 2), .int .i64 (l.fr 3), .int .i64 (l.fr 4), .int .i64 (l.fr 5), .int .i64 (l.ti 0), .int .i64 (l.ti 1), .int .i64 (l.ti 2), .int .i64 (l.ti 3), .int .i64 (l.ti 4), .int .i64 (l.ti 5)]) := below_setRow (HX3.out.trans (hbV.mono HX3.out.size)) (Nat.le_refl _)
      have L7 := VL2.out.later hXv
      have V4 : Hid _ := V2.out.later hXv
      have HBX : Hid _ := HB2.out.trans (hXv.mono HB2.out.size)
      clear KLO qz HX3 cp0 cp1 hsz3 qv hgs oF oN zN oC hbV VL2 V2 HB2 hXv
      generalize V.setRow X2.heap.size #[.slice uf l.frags.length vf, .slice un l.names.length vn, .slice uc l.coms.length vc, .int .i64 (l.fr 0), .int .i64 (l.fr 1), .int .i64 (l.fr 2), .int .i64 (l.fr 3), .int .i64 (l.fr 4), .int .i64 (l.fr 5), .int .i64 (l.ti 0), .int .i64 (l.ti 1), .int .i64 (l.ti 2), .int .i64 (l.ti 3), .int .i64 (l.ti 4), .int .i64 (l.ti 5)] = X at *
      generalize X2.heap.size = n10 at *
      by_cases her : er = 0
      · obtain ⟨hla, hap⟩ := HLo.out her
        subst her
        have L7x : Hid (LVar X n7 xf yf xn yn xc yc l) := L7
        have L10x : Hid (LVar X n10 uf vf un vn uc vc l) := L10
        have HBd : Hid (∀ x ∈ l.frags, 0 ≤ x ∧ x ≤ 65536) := by rw [hla]; exact lay_bd hok hap
        have HFw : Hid (l.names.length ≤ 1000) := by rw [hla]; exact lay_few hok base
        have HLF : Hid (l.frags.length = p.frags.length) := by rw [hla]; exact hap.lenF
        have HLa : Hid (M.layAll p base = l) := hla.symm
        have HAp : Hid _ := hap
        have HCk : Hid (M.checkPart p = 0) := hck
        clear L7 L10 HLo hla hap hok hck
        go_upto_region 10 with (first | (go_at_call 7; refine (laid_any _).mono ?_; rintro e Y1 ⟨rfl, hb1⟩; obtain ⟨ka0, ka1, ka2, ka3, ka4, ka5, ka6, ka7, ka8, ka9, ka10, ka11, ka12, ka13, ka14, ka15, ka16, ka17, ka18, ka19, ka20, ka21, ka22, ka23, ka24, ka25, ka26, ka27, ka28, ka29, ka30, ka31⟩ := two_lv L7x.out L10x.out hb1) | (go_at_call 8; refine (same_lv (L7x.out.later hb1) (L10x.out.later hb1)).mono ?_; rintro e Y2 ⟨rfl, hb2⟩))
        have hX2 : Below X.heap.size X Y2 := hb1.trans (hb2.mono hb1.size)
        clear ka0 ka1 ka2 ka3 ka4 ka5 ka6 ka7 ka8 ka9 ka10 ka11 ka12 ka13 ka14 ka15 ka16 ka17 ka18 ka19 ka20 ka21 ka22 ka23 ka24 ka25 ka26 ka27 ka28 ka29 ka30 ka31
        have V5 := V4.out.later hX2
        have cp0 := V5.c0
        have cp1 := V5.c1
        obtain ⟨ka0, ka1, ka2, ka3, ka4, ka5, ka6, ka7, ka8, ka9, ka10, ka11, ka12, ka13, ka14, ka15, ka16, ka17, ka18, ka19, ka20, ka21, ka22, ka23, ka24, ka25, ka26, ka27, ka28, ka29, ka30, ka31⟩ := two_lv L7x.out L10x.out hX2
        have M5 := L7x.out.later hX2
        have KW : Hid (Calls Tryd.prog 9 #[.agg #[.slice a1 p.frags.length c1, .slice a2 p.defs.length c2], .agg #[.slice xf l.frags.length yf, .slice xn l.names.length yn, .slice xc l.coms.length yc, .int .i64 (l.fr 0), .int .i64 (l.fr 1), .int .i64 (l.fr 2), .int .i64 (l.fr 3), .int .i64 (l.fr 4), .int .i64 (l.fr 5), .int .i64 (l.ti 0), .int .i64 (l.ti 1), .int .i64 (l.ti 2), .int .i64 (l.ti 3), .int .i64 (l.ti 4), .int .i64 (l.ti 5)], .string s] Y2 fun e w' => e = .returned (.tuple #[.int .i64 (M.whereOf p l s).1, .int .i64 (M.whereOf p l s).2]) ∧ Below Y2.heap.size Y2 w') := where_any p l.frags l.names l.coms s a1 a2 c1 c2 xf xn xc yf yn yc _ _ _ _ _ _ _ _ _ _ _ _ Y2 V5.fr V5.df M5.frags M5.names M5.coms HCk.out HLF.out HBd.out HFw.out
        clear V5 M5
        go_upto_region 11 with (go_at_call 9; refine KW.out.mono ?_; rintro e Y3 ⟨rfl, hb3⟩)
        have hX3 := hX2.trans (hb3.mono hX2.size)
        clear cp0 cp1 ka0 ka1 ka2 ka3 ka4 ka5 ka6 ka7 ka8 ka9 ka10 ka11 ka12 ka13 ka14 ka15 ka16 ka17 ka18 ka19 ka20 ka21 ka22 ka23 ka24 ka25 ka26 ka27 ka28 ka29 ka30 ka31 KW hb3
        have V6 := V4.out.later hX3
        have cp0 := V6.c0
        have cp1 := V6.c1
        obtain ⟨kb0, kb1, kb2, kb3, kb4, kb5, kb6, kb7, kb8, kb9, kb10, kb11, kb12, kb13, kb14, kb15, kb16, kb17, kb18, kb19, kb20, kb21, kb22, kb23, kb24, kb25, kb26, kb27, kb28, kb29, kb30, kb31⟩ := two_lv L7x.out L10x.out hX3
        have M6 := L10x.out.later hX3
        have KS : Hid (Calls Tryd.prog 10 #[.agg #[.slice a1 p.frags.length c1, .slice a2 p.defs.length c2], .agg #[.slice uf l.frags.length vf, .slice un l.names.length vn, .slice uc l.coms.length vc, .int .i64 (l.fr 0), .int .i64 (l.fr 1), .int .i64 (l.fr 2), .int .i64 (l.fr 3), .int .i64 (l.fr 4), .int .i64 (l.fr 5), .int .i64 (l.ti 0), .int .i64 (l.ti 1), .int .i64 (l.ti 2), .int .i64 (l.ti 3), .int .i64 (l.ti 4), .int .i64 (l.ti 5)], .string s] Y3 fun e w' => e = .returned (.tuple #[.int .i64 (M.whereOf p l s).1, .int .i64 (M.whereOf p l s).2]) ∧ Below Y3.heap.size Y3 w') := stands_any p base s l HLa.out a1 a2 c1 c2 uf un uc vf vn vc Y3 V6.fr V6.df M6.frags M6.names M6.coms HCk.out HAp.out HBd.out
        clear V6 M6
        generalize M.whereOf p l s = r at *
        obtain ⟨r1, r2⟩ := r
        simp only at KS ⊢
        go_wp2_with (go_at_call 10; refine KS.out.mono ?_; rintro e Y4 ⟨rfl, hb4⟩)
        go_ret
        exact ⟨rfl, HBX.out.trans ((hX3.trans (hb4.mono hX3.size)).mono HBX.out.size)⟩
      · exact absurd (HEr.out.symm.trans hH3.out) her
  · exact absurd hH.out hck

end Go.Proofs.YtbohadjfmfoeaaaDoor
