/-
  The law of LinkOrder: it is true of every three parts, every base, every entry.
-/
import Derived.Test.YtabkbicaignicaaLkFact
namespace Go.Proofs.Ytabkbicaignicaa
open Go Go.RowKit
set_option linter.unusedVariables false

theorem sameFlt_self (f : Flt) : sameFlt f f = true := by unfold sameFlt; simp
theorem fltsTwo_self : ∀ l : List Flt, M.allTwo sameFlt l l = true
  | [] => rfl
  | x :: l => by show (sameFlt x x && M.allTwo sameFlt l l) = true; rw [sameFlt_self, fltsTwo_self l]; rfl

set_option maxHeartbeats 8000000 in
set_option maxRecDepth 100000 in
theorem linkOrder_law (a b c : M.Prt) (base : Int) (s : ByteArray) (a1 a2 b1 b2 c1 c2 : Option Addr) (k1 k2 k3 k4 k5 k6 : Nat) (w : World) (hfa : FragsAt w (.slice a1 a.frags.length k1) a.frags) (hda : DefsAt w (.slice a2 a.defs.length k2) a.defs)
    (hfb : FragsAt w (.slice b1 b.frags.length k3) b.frags) (hdb : DefsAt w (.slice b2 b.defs.length k4) b.defs) (hfc : FragsAt w (.slice c1 c.frags.length k5) c.frags) (hdc : DefsAt w (.slice c2 c.defs.length k6) c.defs) (hsz : s.size ≤ maxLen) :
    Calls Try.prog 7 #[.agg #[.slice a1 a.frags.length k1, .slice a2 a.defs.length k2], .agg #[.slice b1 b.frags.length k3, .slice b2 b.defs.length k4], .agg #[.slice c1 c.frags.length k5, .slice c2 c.defs.length k6], .int .i64 base, .string s] w fun e w' => e = .returned (.bool true) ∧ Below w.heap.size w w' := by
  have KT : Hid (∀ W, Calls Try.prog 10 #[] W fun e w' => e = .returned (.bool true) ∧ Below W.heap.size W w') := fun W => linked_any W
  go_enter Try.func7, Try.ntmps7
  go_upto_region 1 with fail
  have HV0 : Hid (Var (((w.alloc (.cells #[.slice a1 a.frags.length k1, .slice a2 a.defs.length k2] 25)).alloc (.cells #[.slice b1 b.frags.length k3, .slice b2 b.defs.length k4] 25)).alloc (.cells #[.slice c1 c.frags.length k5, .slice c2 c.defs.length k6] 25)) w.heap.size a1 a2 k1 k2 a ∧ Var (((w.alloc (.cells #[.slice a1 a.frags.length k1, .slice a2 a.defs.length k2] 25)).alloc (.cells #[.slice b1 b.frags.length k3, .slice b2 b.defs.length k4] 25)).alloc (.cells #[.slice c1 c.frags.length k5, .slice c2 c.defs.length k6] 25)) (w.heap.size + 1) b1 b2 k3 k4 b ∧ Var (((w.alloc (.cells #[.slice a1 a.frags.length k1, .slice a2 a.defs.length k2] 25)).alloc (.cells #[.slice b1 b.frags.length k3, .slice b2 b.defs.length k4] 25)).alloc (.cells #[.slice c1 c.frags.length k5, .slice c2 c.defs.length k6] 25)) (w.heap.size + 1 + 1) c1 c2 k5 k6 c) := by
    have h1 : Below w.heap.size w (w.alloc (.cells #[.slice a1 a.frags.length k1, .slice a2 a.defs.length k2] 25)) := (Below.refl _ _).alloc (Nat.le_refl _) _
    have h2 : Below w.heap.size w ((w.alloc (.cells #[.slice a1 a.frags.length k1, .slice a2 a.defs.length k2] 25)).alloc (.cells #[.slice b1 b.frags.length k3, .slice b2 b.defs.length k4] 25)) := h1.alloc h1.size _
    have v1 := var_new hfa hda
    have v2 := var_new (hfb.later h1) (hdb.later h1)
    have v3 := var_new (hfc.later h2) (hdc.later h2)
    have v1 := (v1.later ((Below.refl _ _).alloc (Nat.le_refl _) (.cells #[.slice b1 b.frags.length k3, .slice b2 b.defs.length k4] 25))).later ((Below.refl _ _).alloc (Nat.le_refl _) (.cells #[.slice c1 c.frags.length k5, .slice c2 c.defs.length k6] 25))
    have v2 := v2.later ((Below.refl _ _).alloc (Nat.le_refl _) (.cells #[.slice c1 c.frags.length k5, .slice c2 c.defs.length k6] 25))
    exact ⟨v1, by simpa using v2, by simpa using v3⟩
  have HB0 : Hid (Below w.heap.size w (((w.alloc (.cells #[.slice a1 a.frags.length k1, .slice a2 a.defs.length k2] 25)).alloc (.cells #[.slice b1 b.frags.length k3, .slice b2 b.defs.length k4] 25)).alloc (.cells #[.slice c1 c.frags.length k5, .slice c2 c.defs.length k6] 25))) := (((Below.refl _ _).alloc (Nat.le_refl _) _).alloc (by simp) _).alloc (by simp; omega) _
  clear hfa hda hfb hdb hfc hdc
  generalize (((w.alloc (.cells #[.slice a1 a.frags.length k1, .slice a2 a.defs.length k2] 25)).alloc (.cells #[.slice b1 b.frags.length k3, .slice b2 b.defs.length k4] 25)).alloc (.cells #[.slice c1 c.frags.length k5, .slice c2 c.defs.length k6] 25)) = X0 at *
  obtain ⟨x, r1, hj1⟩ : ∃ x r, M.join a b = (x, r) := ⟨_, _, rfl⟩
  obtain ⟨y, r2, hj2⟩ : ∃ y r, M.join b c = (y, r) := ⟨_, _, rfl⟩
  have Hj1 : Hid _ := hj1
  have Hj2 : Hid _ := hj2
  have ca0 := HV0.out.1.c0
  have ca1 := HV0.out.1.c1
  have cb0 := HV0.out.2.1.c0
  have cb1 := HV0.out.2.1.c1
  have KJ : Hid (Calls Try.prog 29 #[.agg #[.slice a1 a.frags.length k1, .slice a2 a.defs.length k2], .agg #[.slice b1 b.frags.length k3, .slice b2 b.defs.length k4]] X0 _) := join_v HV0.out.1.fr HV0.out.1.df HV0.out.2.1.fr HV0.out.2.1.df x r1 hj1
  clear hj1
  go_upto_region 2 with (go_at_call 29; refine KJ.out.mono ?_; rintro e w1 ⟨hb1, x1, y1, x2, y2, rfl, hF1, hD1⟩)
  have VX : Hid (Var (w1.alloc (.cells #[.slice x1 x.frags.length y1, .slice x2 x.defs.length y2] 25)) w1.heap.size x1 x2 y1 y2 x) := var_new hF1 hD1
  have HB1 : Below X0.heap.size X0 (w1.alloc (.cells #[.slice x1 x.frags.length y1, .slice x2 x.defs.length y2] 25)) := hb1.alloc hb1.size _
  clear hF1 hD1 KJ ca0 ca1 cb0 cb1 hb1
  generalize w1.alloc (.cells #[.slice x1 x.frags.length y1, .slice x2 x.defs.length y2] 25) = X1 at *
  generalize w1.heap.size = n11 at *
  have HV1 : Hid (Var X1 w.heap.size a1 a2 k1 k2 a ∧ Var X1 (w.heap.size + 1) b1 b2 k3 k4 b ∧ Var X1 (w.heap.size + 1 + 1) c1 c2 k5 k6 c) := ⟨HV0.out.1.later HB1, HV0.out.2.1.later HB1, HV0.out.2.2.later HB1⟩
  have HBX1 : Hid (Below w.heap.size w X1) := HB0.out.trans (HB1.mono HB0.out.size)
  clear HV0 HB0 HB1
  have cb0 := HV1.out.2.1.c0
  have cb1 := HV1.out.2.1.c1
  have cc0 := HV1.out.2.2.c0
  have cc1 := HV1.out.2.2.c1
  have KJ : Hid (Calls Try.prog 29 #[.agg #[.slice b1 b.frags.length k3, .slice b2 b.defs.length k4], .agg #[.slice c1 c.frags.length k5, .slice c2 c.defs.length k6]] X1 _) := join_v HV1.out.2.1.fr HV1.out.2.1.df HV1.out.2.2.fr HV1.out.2.2.df y r2 hj2
  clear hj2
  go_upto_region 3 with (go_at_call 29; refine KJ.out.mono ?_; rintro e w2 ⟨hb2, u1, v1, u2, v2, rfl, hF2, hD2⟩)
  have VY : Hid (Var (w2.alloc (.cells #[.slice u1 y.frags.length v1, .slice u2 y.defs.length v2] 25)) w2.heap.size u1 u2 v1 v2 y) := var_new hF2 hD2
  have HB2 : Below X1.heap.size X1 (w2.alloc (.cells #[.slice u1 y.frags.length v1, .slice u2 y.defs.length v2] 25)) := hb2.alloc hb2.size _
  clear hF2 hD2 KJ cb0 cb1 cc0 cc1 hb2
  generalize w2.alloc (.cells #[.slice u1 y.frags.length v1, .slice u2 y.defs.length v2] 25) = X2 at *
  generalize w2.heap.size = n13 at *
  have HV2 : Hid (Var X2 w.heap.size a1 a2 k1 k2 a ∧ Var X2 (w.heap.size + 1 + 1) c1 c2 k5 k6 c ∧ Var X2 n11 x1 x2 y1 y2 x ∧ Var X2 n13 u1 u2 v1 v2 y) := ⟨HV1.out.1.later HB2, HV1.out.2.2.later HB2, VX.out.later HB2, VY.out⟩
  have HBX2 : Hid (Below w.heap.size w X2) := HBX1.out.trans (HB2.mono HBX1.out.size)
  clear HV1 HBX1 HB2 VX VY
  by_cases hr1 : r1 = 0
  case neg =>
    have hr1' : (r1 != 0) = true := by simpa using hr1
    clear HV2 Hj1 Hj2
    go_upto_region 4 with (go_at_call 10; refine (KT.out _).mono ?_; rintro e w3 ⟨rfl, hb3⟩)
    go_wp2_with (go_at_call 10; refine (KT.out _).mono ?_; rintro e w4 ⟨rfl, hb4⟩)
    go_ret
    exact ⟨rfl, HBX2.out.trans ((hb3.trans (hb4.mono hb3.size)).mono HBX2.out.size)⟩
  by_cases hr2 : r2 = 0
  case neg =>
    have hr2' : (r2 != 0) = true := by simpa using hr2
    subst hr1
    clear HV2 Hj1 Hj2
    go_upto_region 4 with (go_at_call 10; refine (KT.out _).mono ?_; rintro e w3 ⟨rfl, hb3⟩)
    go_wp2_with (go_at_call 10; refine (KT.out _).mono ?_; rintro e w4 ⟨rfl, hb4⟩)
    go_ret
    exact ⟨rfl, HBX2.out.trans ((hb3.trans (hb4.mono hb3.size)).mono HBX2.out.size)⟩
  subst hr1
  subst hr2
  go_upto_region 5 with (go_at_call 10; refine (KT.out _).mono ?_; rintro e X3 ⟨rfl, hb3⟩)
  have HV3 : Hid (Var X3 w.heap.size a1 a2 k1 k2 a ∧ Var X3 (w.heap.size + 1 + 1) c1 c2 k5 k6 c ∧ Var X3 n11 x1 x2 y1 y2 x ∧ Var X3 n13 u1 u2 v1 v2 y) := ⟨HV2.out.1.later hb3, HV2.out.2.1.later hb3, HV2.out.2.2.1.later hb3, HV2.out.2.2.2.later hb3⟩
  have HBX3 : Hid (Below w.heap.size w X3) := HBX2.out.trans (hb3.mono HBX2.out.size)
  clear HV2 HBX2 hb3
  obtain ⟨ho1, _, _⟩ := M.join_order (a := a) (b := b) (c := c) (by rw [Hj1.out]) (by rw [Hj2.out])
  rw [Hj1.out, Hj2.out] at ho1
  simp only at ho1
  obtain ⟨p, r3, hj3⟩ : ∃ p r, M.join x c = (p, r) := ⟨_, _, rfl⟩
  rw [hj3] at ho1
  have Hj4 : Hid (M.join a y = (p, r3)) := ho1
  clear ho1 Hj1 Hj2
  have cx0 := HV3.out.2.2.1.c0
  have cx1 := HV3.out.2.2.1.c1
  have cc0 := HV3.out.2.1.c0
  have cc1 := HV3.out.2.1.c1
  have KJ : Hid (Calls Try.prog 29 #[.agg #[.slice x1 x.frags.length y1, .slice x2 x.defs.length y2], .agg #[.slice c1 c.frags.length k5, .slice c2 c.defs.length k6]] X3 _) := join_v HV3.out.2.2.1.fr HV3.out.2.2.1.df HV3.out.2.1.fr HV3.out.2.1.df p r3 hj3
  clear hj3
  go_upto_region 6 with (go_at_call 29; refine KJ.out.mono ?_; rintro e w4 ⟨hb4, s1, t1, s2, t2, rfl, hF4, hD4⟩)
  have VP : Hid (Var (w4.alloc (.cells #[.slice s1 p.frags.length t1, .slice s2 p.defs.length t2] 25)) w4.heap.size s1 s2 t1 t2 p) := var_new hF4 hD4
  have HB4 : Below X3.heap.size X3 (w4.alloc (.cells #[.slice s1 p.frags.length t1, .slice s2 p.defs.length t2] 25)) := hb4.alloc hb4.size _
  clear hF4 hD4 KJ cx0 cx1 cc0 cc1 hb4
  generalize w4.alloc (.cells #[.slice s1 p.frags.length t1, .slice s2 p.defs.length t2] 25) = X4 at *
  generalize w4.heap.size = n15 at *
  have HV4 : Hid (Var X4 w.heap.size a1 a2 k1 k2 a ∧ Var X4 n13 u1 u2 v1 v2 y) := ⟨HV3.out.1.later HB4, HV3.out.2.2.2.later HB4⟩
  have HBX4 : Hid (Below w.heap.size w X4) := HBX3.out.trans (HB4.mono HBX3.out.size)
  clear HV3 HBX3 HB4
  have ca0 := HV4.out.1.c0
  have ca1 := HV4.out.1.c1
  have cy0 := HV4.out.2.c0
  have cy1 := HV4.out.2.c1
  have KJ : Hid (Calls Try.prog 29 #[.agg #[.slice a1 a.frags.length k1, .slice a2 a.defs.length k2], .agg #[.slice u1 y.frags.length v1, .slice u2 y.defs.length v2]] X4 _) := join_v HV4.out.1.fr HV4.out.1.df HV4.out.2.fr HV4.out.2.df p r3 Hj4.out
  go_upto_region 7 with (go_at_call 29; refine KJ.out.mono ?_; rintro e w5 ⟨hb5, m1, o1, m2, o2, rfl, hF5, hD5⟩)
  have VQ : Hid (Var (w5.alloc (.cells #[.slice m1 p.frags.length o1, .slice m2 p.defs.length o2] 25)) w5.heap.size m1 m2 o1 o2 p) := var_new hF5 hD5
  have HB5 : Below X4.heap.size X4 (w5.alloc (.cells #[.slice m1 p.frags.length o1, .slice m2 p.defs.length o2] 25)) := hb5.alloc hb5.size _
  clear hF5 hD5 KJ ca0 ca1 cy0 cy1 hb5
  generalize w5.alloc (.cells #[.slice m1 p.frags.length o1, .slice m2 p.defs.length o2] 25) = X5 at *
  generalize w5.heap.size = n16 at *
  have HV5 : Hid (Var X5 n15 s1 s2 t1 t2 p ∧ Var X5 n16 m1 m2 o1 o2 p) := ⟨VP.out.later HB5, VQ.out⟩
  have HBX5 : Hid (Below w.heap.size w X5) := HBX4.out.trans (HB5.mono HBX4.out.size)
  clear HV4 HBX4 HB5 VP VQ Hj4
  by_cases hr3 : r3 = 0
  case neg =>
    have hr3' : (r3 != 0) = true := by simpa using hr3
    clear HV5
    go_wp2
    go_ret
    exact ⟨ret_bool (by simp), HBX5.out⟩
  subst hr3
  obtain ⟨im, fl, er, hl⟩ : ∃ im fl er, M.link p base s = (im, fl, er) := ⟨_, _, _, rfl⟩
  have cp0 := HV5.out.1.c0
  have cp1 := HV5.out.1.c1
  have KL : Hid (Calls Try.prog 9 #[.agg #[.slice s1 p.frags.length t1, .slice s2 p.defs.length t2], .int .i64 base, .string s] X5 _) := link_v HV5.out.1.fr HV5.out.1.df hsz im fl er hl
  have Hl : Hid _ := hl
  clear hl
  go_upto_region 10 with (go_at_call 9; refine KL.out.mono ?_; rintro e w6 ⟨hb6, e1, f1, e2, f2, rfl, hS6, hF6⟩)
  have hbA : Below w6.heap.size w6 (w6.alloc (.cells #[.int .i64 im.entry, .slice e1 im.segs.length f1] 28)) := (Below.refl _ _).alloc (Nat.le_refl _) _
  have VI : Hid (IVar (w6.alloc (.cells #[.int .i64 im.entry, .slice e1 im.segs.length f1] 28)) w6.heap.size e1 f1 im) := ivar_new hS6
  have HF6 : Hid (FltsAt (w6.alloc (.cells #[.int .i64 im.entry, .slice e1 im.segs.length f1] 28)) (.slice e2 fl.length f2) fl) := hF6.later hbA
  have HB6 : Below X5.heap.size X5 (w6.alloc (.cells #[.int .i64 im.entry, .slice e1 im.segs.length f1] 28)) := hb6.alloc hb6.size _
  clear hS6 hF6 KL cp0 cp1 hb6 hbA
  generalize w6.alloc (.cells #[.int .i64 im.entry, .slice e1 im.segs.length f1] 28) = X6 at *
  generalize w6.heap.size = n17 at *
  have HV6 := HV5.out.2.later HB6
  have HBX6 : Hid (Below w.heap.size w X6) := HBX5.out.trans (HB6.mono HBX5.out.size)
  clear HV5 HBX5 HB6
  have cq0 := HV6.c0
  have cq1 := HV6.c1
  have KL : Hid (Calls Try.prog 9 #[.agg #[.slice m1 p.frags.length o1, .slice m2 p.defs.length o2], .int .i64 base, .string s] X6 _) := link_v HV6.fr HV6.df hsz im fl er Hl.out
  clear HV6 Hl
  go_upto_region 11 with (go_at_call 9; refine KL.out.mono ?_; rintro e w7 ⟨hb7, g1, h1, g2, h2, rfl, hS7, hF7⟩)
  have hbA : Below w7.heap.size w7 (w7.alloc (.cells #[.int .i64 im.entry, .slice g1 im.segs.length h1] 28)) := (Below.refl _ _).alloc (Nat.le_refl _) _
  have VJ := ivar_new (im := im) hS7
  have hF7' := hF7.later hbA
  have HB7 : Below X6.heap.size X6 (w7.alloc (.cells #[.int .i64 im.entry, .slice g1 im.segs.length h1] 28)) := hb7.alloc hb7.size _
  clear hS7 hF7 KL cq0 cq1 hb7 hbA
  generalize w7.alloc (.cells #[.int .i64 im.entry, .slice g1 im.segs.length h1] 28) = X7 at *
  generalize w7.heap.size = n19 at *
  have VI7 := VI.out.later HB7
  have hF6' := HF6.out.later HB7
  have HBX7 : Hid (Below w.heap.size w X7) := HBX6.out.trans (HB7.mono HBX6.out.size)
  have i0 : X7.cell? ⟨n17, 0, none⟩ = some (.int .i64 im.entry) := cellB VI7.blk 0
  have i1 : X7.cell? ⟨n17, 1, none⟩ = some (.slice e1 im.segs.length f1) := cellB VI7.blk 1
  have j0 : X7.cell? ⟨n19, 0, none⟩ = some (.int .i64 im.entry) := cellB VJ.blk 0
  have j1 : X7.cell? ⟨n19, 1, none⟩ = some (.slice g1 im.segs.length h1) := cellB VJ.blk 1
  have hli := VI7.lt
  have hlj := VJ.lt
  have KS : Hid (Calls Try.prog 30 #[.agg #[.int .i64 im.entry, .slice e1 im.segs.length f1], .agg #[.int .i64 im.entry, .slice g1 im.segs.length h1]] X7 fun e w' => e = .returned (.bool true) ∧ Below X7.heap.size X7 w') := by
    have := imgSame_any im im e1 g1 f1 h1 X7 VI7.segs VJ.segs
    rwa [sameImg_self] at this
  have KE : Hid (∀ W, Below X7.heap.size X7 W → Calls Try.prog 25 #[.slice e2 fl.length f2, .slice g2 fl.length h2] W fun e w' => e = .returned (.bool true) ∧ Below W.heap.size W w') := fun W hW => by
    have := eqFlts_any fl fl e2 g2 f2 h2 W (hF6'.later hW) (hF7'.later hW)
    rwa [fltsTwo_self] at this
  clear VI7 VJ VI HF6 hF6' hF7' HB7 HBX6
  have heq : (er == er) = true := by simp
  go_wp2_with (first | (go_at_call 30; refine KS.out.mono ?_; rintro e w8 ⟨rfl, hb8⟩) | (go_at_call 25; refine (KE.out _ hb8).mono ?_; rintro e w9 ⟨rfl, hb9⟩))
  go_ret
  exact ⟨rfl, HBX7.out.trans ((hb8.trans (hb9.mono hb8.size)).mono HBX7.out.size)⟩

end Go.Proofs.Ytabkbicaignicaa
