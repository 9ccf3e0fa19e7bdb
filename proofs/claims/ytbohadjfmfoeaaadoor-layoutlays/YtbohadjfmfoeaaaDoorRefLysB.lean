/-
  The law LayoutLays: a base below nought.
-/
import Derived.Test.YtbohadjfmfoeaaaDoorRefLysH
namespace Go.Proofs.YtbohadjfmfoeaaaDoor
open Go Go.RowKit
set_option linter.unusedVariables false

set_option maxHeartbeats 16000000 in
set_option maxRecDepth 100000 in
theorem lays_B (p : M.Prt) (base : Int) (s : ByteArray) (a1 a2 : Option Addr) (c1 c2 : Nat) (w : World) (hf : FragsAt w (.slice a1 p.frags.length c1) p.frags) (hd : DefsAt w (.slice a2 p.defs.length c2) p.defs) (hcap : p.frags.length ≤ c1) (hH : Hid (M.checkPart p = 0)) (hH2 : Hid (base < 0)) :
    Calls Tryd.prog 3 #[.agg #[.slice a1 p.frags.length c1, .slice a2 p.defs.length c2], .int .i64 base, .string s] w fun e w' => e = .returned (.bool true) ∧ Below w.heap.size w w' := by
  have V0 : Hid (Var (w.alloc (.cells #[.slice a1 p.frags.length c1, .slice a2 p.defs.length c2] 25)) w.heap.size a1 a2 c1 c2 p) := var_new hf hd
  have HB0 : Hid (Below w.heap.size w (w.alloc (.cells #[.slice a1 p.frags.length c1, .slice a2 p.defs.length c2] 25))) := (Below.refl _ _).alloc (Nat.le_refl _) _
  clear hf hd
  obtain ⟨l, er, hl⟩ : ∃ l er, M.lay p base = (l, er) := ⟨_, _, rfl⟩
  have HL : Hid (M.lay p base = (l, er)) := hl
  have HEr : Hid ((M.lay p base).2 = er) := by rw [Hid, hl]
  have HM : Hid (M.lay p base = if M.checkPart p = 0 then (if base < 0 ∨ 65536 ≤ base then (M.lay0, 3) else if 65536 < M.tillOf p base 5 then (M.lay0, 10) else (M.layAll p base, 0)) else (M.lay0, M.checkPart p)) := rfl
  have KL : Hid (Calls Tryd.prog 4 #[.agg #[.slice a1 p.frags.length c1, .slice a2 p.defs.length c2], .int .i64 base] (w.alloc (.cells #[.slice a1 p.frags.length c1, .slice a2 p.defs.length c2] 25)) _) := lay_vv V0.out.fr V0.out.df l er hl
  have cp0 := V0.out.c0
  have cp1 := V0.out.c1
  clear hl
  go_enter Tryd.func3, Tryd.ntmps3
  go_upto_region 2 with (go_at_call 4; refine KL.out.mono ?_; rintro e w1 ⟨hb1, xf, yf, xn, yn, xc, yc, rfl, hF1, hN1, hC1⟩)
  have VL : Hid (LVar (w1.alloc (.cells (layArr (.slice xf l.frags.length yf) (.slice xn l.names.length yn) (.slice xc l.coms.length yc) l.fr l.ti) 30)) w1.heap.size xf yf xn yn xc yc l) := lvar_new hF1 hN1 hC1
  have HBa := hb1.alloc hb1.size (.cells (layArr (.slice xf l.frags.length yf) (.slice xn l.names.length yn) (.slice xc l.coms.length yc) l.fr l.ti) 30)
  simp only [layArr] at VL HBa
  have V1 : Hid _ := V0.out.later HBa
  have HB1 : Hid _ := HB0.out.trans (HBa.mono HB0.out.size)
  clear hF1 hN1 hC1 KL cp0 cp1 hb1 HBa V0 HB0
  generalize w1.alloc (.cells #[.slice xf l.frags.length yf, .slice xn l.names.length yn, .slice xc l.coms.length yc, .int .i64 (l.fr 0), .int .i64 (l.fr 1), .int .i64 (l.fr 2), .int .i64 (l.fr 3), .int .i64 (l.fr 4), .int .i64 (l.fr 5), .int .i64 (l.ti 0), .int .i64 (l.ti 1), .int .i64 (l.ti 2), .int .i64 (l.ti 3), .int .i64 (l.ti 4), .int .i64 (l.ti 5)] 30) = X1 at *
  generalize w1.heap.size = n7 at *
  have KC : Hid (Calls Tryd.prog 5 #[.agg #[.slice a1 p.frags.length c1, .slice a2 p.defs.length c2]] X1 fun e w' => e = .returned (.int .i64 (M.checkPart p)) ∧ Below X1.heap.size X1 w') := rcheck_any p.frags p.defs a1 a2 c1 c2 X1 V1.out.fr V1.out.df
  have cp0 := V1.out.c0
  have cp1 := V1.out.c1
  go_upto_region 3 with (go_at_call 5; refine KC.out.mono ?_; rintro e X2 ⟨rfl, hb2⟩)
  have VL2 : Hid (LVar X2 n7 xf yf xn yn xc yc l) := VL.out.later hb2
  have V2 : Hid (Var X2 w.heap.size a1 a2 c1 c2 p) := V1.out.later hb2
  have HB2 : Hid (Below w.heap.size w X2) := HB1.out.trans (hb2.mono HB1.out.size)
  clear VL V1 HB1 KC cp0 cp1 hb2
  by_cases hck : M.checkPart p = 0
  · rw [hck]
    by_cases hbs : base < 0 ∨ 65536 ≤ base
    · obtain ⟨hl0, he3⟩ : l = M.lay0 ∧ er = 3 := by
        have h : (l, er) = (M.lay0, 3) := by rw [← HL.out, HM.out, if_pos hck, if_pos hbs]
        exact ⟨congrArg Prod.fst h, congrArg Prod.snd h⟩
      have Hl0 : Hid (l = M.lay0) := hl0
      have hn3 : (er != 3) = false := by rw [he3]; rfl
      have hn4 : (er == 3) = true := by rw [he3]; rfl
      clear HL HM V2 hck hl0 he3
      rcases hbs with hbs | hbs
      · have hbt : decide (base < 0) = true := by simpa using hbs
        go_upto_region 8 with fail
        have L10 : LVar (X2.alloc (.cells #[.slice none 0 0, .slice none 0 0, .slice none 0 0, .int .i64 0, .int .i64 0, .int .i64 0, .int .i64 0, .int .i64 0, .int .i64 0, .int .i64 0, .int .i64 0, .int .i64 0, .int .i64 0, .int .i64 0, .int .i64 0] 30)) X2.heap.size none 0 none 0 none 0 l := by rw [Hl0.out]; exact ⟨heap_alloc_new _ _, ints_nil _, strs_nil _, ints_nil _⟩
        have hbz : Below X2.heap.size X2 (X2.alloc (.cells #[.slice none 0 0, .slice none 0 0, .slice none 0 0, .int .i64 0, .int .i64 0, .int .i64 0, .int .i64 0, .int .i64 0, .int .i64 0, .int .i64 0, .int .i64 0, .int .i64 0, .int .i64 0, .int .i64 0, .int .i64 0] 30)) := (Below.refl _ _).alloc (Nat.le_refl _) _
        have HBX : Hid (Below w.heap.size w (X2.alloc (.cells #[.slice none 0 0, .slice none 0 0, .slice none 0 0, .int .i64 0, .int .i64 0, .int .i64 0, .int .i64 0, .int .i64 0, .int .i64 0, .int .i64 0, .int .i64 0, .int .i64 0, .int .i64 0, .int .i64 0, .int .i64 0] 30))) := HB2.out.trans (hbz.mono HB2.out.size)
        have L7 := VL2.out.later hbz
        clear VL2 hbz HB2
        generalize X2.alloc (.cells #[.slice none 0 0, .slice none 0 0, .slice none 0 0, .int .i64 0, .int .i64 0, .int .i64 0, .int .i64 0, .int .i64 0, .int .i64 0, .int .i64 0, .int .i64 0, .int .i64 0, .int .i64 0, .int .i64 0, .int .i64 0] 30) = X at *
        generalize X2.heap.size = n10 at *
        have L7x : Hid (LVar X n7 xf yf xn yn xc yc l) := L7
        have L10x : Hid (LVar X n10 none 0 none 0 none 0 l) := L10
        clear L7 L10
        go_upto_region 9 with (first | (go_at_call 7; refine (laid_any _).mono ?_; rintro e Y1 ⟨rfl, hb1⟩; obtain ⟨ka0, ka1, ka2, ka3, ka4, ka5, ka6, ka7, ka8, ka9, ka10, ka11, ka12, ka13, ka14, ka15, ka16, ka17, ka18, ka19, ka20, ka21, ka22, ka23, ka24, ka25, ka26, ka27, ka28, ka29, ka30, ka31⟩ := two_lv L7x.out L10x.out hb1) | (go_at_call 8; refine (same_lv (L7x.out.later hb1) (L10x.out.later hb1)).mono ?_; rintro e Y2 ⟨rfl, hb2⟩))
        have hX2 : Below X.heap.size X Y2 := hb1.trans (hb2.mono hb1.size)
        clear ka0 ka1 ka2 ka3 ka4 ka5 ka6 ka7 ka8 ka9 ka10 ka11 ka12 ka13 ka14 ka15 ka16 ka17 ka18 ka19 ka20 ka21 ka22 ka23 ka24 ka25 ka26 ka27 ka28 ka29 ka30 ka31
        go_wp2_with (first | (go_at_call 7; refine (laid_any _).mono ?_; rintro e Y3 ⟨rfl, hb3⟩; have hX3 := hX2.trans (hb3.mono hX2.size); obtain ⟨kb0, kb1, kb2, kb3, kb4, kb5, kb6, kb7, kb8, kb9, kb10, kb11, kb12, kb13, kb14, kb15, kb16, kb17, kb18, kb19, kb20, kb21, kb22, kb23, kb24, kb25, kb26, kb27, kb28, kb29, kb30, kb31⟩ := two_lv L7x.out L10x.out hX3) | (go_at_call 8; refine (same_lv (L7x.out.later hX3) (L10x.out.later hX3)).mono ?_; rintro e Y4 ⟨rfl, hb4⟩))
        go_ret
        exact ⟨rfl, HBX.out.trans ((hX3.trans (hb4.mono hX3.size)).mono HBX.out.size)⟩
      · exact absurd hH2.out (by omega)
    · exact absurd (Or.inl hH2.out) hbs
  · exact absurd hH.out hck

end Go.Proofs.YtbohadjfmfoeaaaDoor
