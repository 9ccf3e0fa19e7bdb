/-
  The law of PartOrder: in whatever way parts are joined, as long as they stand in one order, they are the same; it is true of every three parts.
-/
import Derived.Test.YtebhbhbhcoijpaaPrtSpliced
namespace Go.Proofs.Ytebhbhbhcoijpaa
open Go.RowKit
set_option linter.unusedVariables false

theorem allTwo_self {α : Type} (eq : α → α → Bool) (h : ∀ x, eq x x = true) : ∀ l : List α, M.allTwo eq l l = true
  | [] => rfl
  | x :: l => by show (eq x x && M.allTwo eq l l) = true; rw [h, allTwo_self eq h l]; rfl

theorem samePart_self (p : M.Prt) : M.samePart p p = true := by
  unfold M.samePart
  rw [allTwo_self, allTwo_self]
  · rfl
  · intro d; simp [M.sameDfn]
  · intro f
    unfold M.sameFrg
    rw [allTwo_self, allTwo_self]
    · simp
    · intro r; simp [M.sameRel]
    · intro x; simp

set_option maxHeartbeats 8000000 in
set_option maxRecDepth 100000 in
theorem order_law (a b c : M.Prt) (a1 a2 b1 b2 c1 c2 : Option Addr) (k1 k2 k3 k4 k5 k6 : Nat) (w : World) (hfa : FragsAt w (.slice a1 a.frags.length k1) a.frags) (hda : DefsAt w (.slice a2 a.defs.length k2) a.defs)
    (hfb : FragsAt w (.slice b1 b.frags.length k3) b.frags) (hdb : DefsAt w (.slice b2 b.defs.length k4) b.defs) (hfc : FragsAt w (.slice c1 c.frags.length k5) c.frags) (hdc : DefsAt w (.slice c2 c.defs.length k6) c.defs) :
    Calls Try.prog 3 #[.agg #[.slice a1 a.frags.length k1, .slice a2 a.defs.length k2], .agg #[.slice b1 b.frags.length k3, .slice b2 b.defs.length k4], .agg #[.slice c1 c.frags.length k5, .slice c2 c.defs.length k6]] w fun e w' => e = .returned (.bool true) ∧ Below w.heap.size w w' := by
  go_enter Try.func3, Try.ntmps3
  go_upto_region 1 with fail
  have HV0 : Hid (Var (((w.alloc (.cells #[.slice a1 a.frags.length k1, .slice a2 a.defs.length k2] 25)).alloc (.cells #[.slice b1 b.frags.length k3, .slice b2 b.defs.length k4] 25)).alloc (.cells #[.slice c1 c.frags.length k5, .slice c2 c.defs.length k6] 25)) w.heap.size a1 a2 k1 k2 a ∧ Var (((w.alloc (.cells #[.slice a1 a.frags.length k1, .slice a2 a.defs.length k2] 25)).alloc (.cells #[.slice b1 b.frags.length k3, .slice b2 b.defs.length k4] 25)).alloc (.cells #[.slice c1 c.frags.length k5, .slice c2 c.defs.length k6] 25)) (w.heap.size + 1) b1 b2 k3 k4 b ∧ Var (((w.alloc (.cells #[.slice a1 a.frags.length k1, .slice a2 a.defs.length k2] 25)).alloc (.cells #[.slice b1 b.frags.length k3, .slice b2 b.defs.length k4] 25)).alloc (.cells #[.slice c1 c.frags.length k5, .slice c2 c.defs.length k6] 25)) (w.heap.size + 2) c1 c2 k5 k6 c) := by
    have h1 : Below w.heap.size w (w.alloc (.cells #[.slice a1 a.frags.length k1, .slice a2 a.defs.length k2] 25)) := (Below.refl _ _).alloc (Nat.le_refl _) _
    have h2 : Below w.heap.size w ((w.alloc (.cells #[.slice a1 a.frags.length k1, .slice a2 a.defs.length k2] 25)).alloc (.cells #[.slice b1 b.frags.length k3, .slice b2 b.defs.length k4] 25)) := h1.alloc h1.size _
    have v1 := var_new hfa hda
    have v2 := var_new (hfb.later h1) (hdb.later h1)
    have v3 := var_new (hfc.later h2) (hdc.later h2)
    have v1 := (v1.later ((Below.refl _ _).alloc (Nat.le_refl _) (.cells #[.slice b1 b.frags.length k3, .slice b2 b.defs.length k4] 25))).later ((Below.refl _ _).alloc (Nat.le_refl _) (.cells #[.slice c1 c.frags.length k5, .slice c2 c.defs.length k6] 25))
    have v2 := v2.later ((Below.refl _ _).alloc (Nat.le_refl _) (.cells #[.slice c1 c.frags.length k5, .slice c2 c.defs.length k6] 25))
    exact ⟨v1, by simpa using v2, by simpa using v3⟩
  have HB0 : Hid (Below w.heap.size w (((w.alloc (.cells #[.slice a1 a.frags.length k1, .slice a2 a.defs.length k2] 25)).alloc (.cells #[.slice b1 b.frags.length k3, .slice b2 b.defs.length k4] 25)).alloc (.cells #[.slice c1 c.frags.length k5, .slice c2 c.defs.length k6] 25))) := (((Below.refl _ _).alloc (Nat.le_refl _) _).alloc (by simp) _).alloc (by simp; omega) _
  clear hfa hda hfb hdb hfc hdc
  generalize ((w.alloc (.cells #[.slice a1 a.frags.length k1, .slice a2 a.defs.length k2] 25)).alloc (.cells #[.slice b1 b.frags.length k3, .slice b2 b.defs.length k4] 25)).alloc (.cells #[.slice c1 c.frags.length k5, .slice c2 c.defs.length k6] 25) = X0 at *
  obtain ⟨p1, r1, hj1⟩ : ∃ p1 r1, M.join M.nil a = (p1, r1) := ⟨_, _, rfl⟩
  have Hj1 : Hid (M.join M.nil a = (p1, r1)) := hj1
  have ca0 := HV0.out.1.c0
  have ca1 := HV0.out.1.c1
  have KJ : Hid (Calls Try.prog 9 #[.agg #[.slice none 0 0, .slice none 0 0], .agg #[.slice a1 a.frags.length k1, .slice a2 a.defs.length k2]] X0 _) := join_v (a := M.nil) (fragsAt_nil _) (defsAt_nil _) HV0.out.1.fr HV0.out.1.df p1 r1 hj1
  clear hj1
  go_upto_if 26 with (go_at_call 9; refine KJ.out.mono ?_; rintro e w1 ⟨hb1, x1, y1, x2, y2, rfl, hF1, hD1⟩)
  have V7 : Hid (Var (w1.alloc (.cells #[.slice x1 p1.frags.length y1, .slice x2 p1.defs.length y2] 25)) w1.heap.size x1 x2 y1 y2 p1) := var_new hF1 hD1
  have HB1 : Below X0.heap.size X0 (w1.alloc (.cells #[.slice x1 p1.frags.length y1, .slice x2 p1.defs.length y2] 25)) := hb1.alloc hb1.size _
  clear hF1 hD1 KJ ca0 ca1 hb1
  generalize w1.alloc (.cells #[.slice x1 p1.frags.length y1, .slice x2 p1.defs.length y2] 25) = X1 at *
  generalize w1.heap.size = n7 at *
  have HV1 : Hid (Var X1 w.heap.size a1 a2 k1 k2 a ∧ Var X1 (w.heap.size + 1) b1 b2 k3 k4 b ∧ Var X1 (w.heap.size + 2) c1 c2 k5 k6 c) := ⟨HV0.out.1.later HB1, HV0.out.2.1.later HB1, HV0.out.2.2.later HB1⟩
  have HBX1 : Hid (Below w.heap.size w X1) := HB0.out.trans (HB1.mono HB0.out.size)
  clear HV0 HB0 HB1
  go_cut [] (fun wx => Hid (Below w.heap.size w wx) ∧ Hid (Var wx w.heap.size a1 a2 k1 k2 a ∧ Var wx (w.heap.size + 1) b1 b2 k3 k4 b ∧ Var wx (w.heap.size + 2) c1 c2 k5 k6 c))
  case first =>
    by_cases hr : r1 = 0
    · subst hr
      obtain ⟨hpa, hj2⟩ := M.join_ends (a := a) (by rw [Hj1.out])
      rw [Hj1.out] at hpa
      have hpa : p1 = a := hpa
      subst hpa
      have ca0 := HV1.out.1.c0
      have ca1 := HV1.out.1.c1
      have KJ : Hid (Calls Try.prog 9 #[.agg #[.slice a1 p1.frags.length k1, .slice a2 p1.defs.length k2], .agg #[.slice none 0 0, .slice none 0 0]] X1 _) := join_v (b := M.nil) HV1.out.1.fr HV1.out.1.df (fragsAt_nil _) (defsAt_nil _) p1 0 hj2
      clear hj2 Hj1
      go_upto_region 4 with (go_at_call 9; refine KJ.out.mono ?_; rintro e w2 ⟨hb2, x3, y3, x4, y4, rfl, hF2, hD2⟩)
      have V9 := var_new hF2 hD2
      have HB2 : Below X1.heap.size X1 (w2.alloc (.cells #[.slice x3 p1.frags.length y3, .slice x4 p1.defs.length y4] 25)) := hb2.alloc hb2.size _
      clear hF2 hD2 KJ ca0 ca1 hb2
      generalize w2.alloc (.cells #[.slice x3 p1.frags.length y3, .slice x4 p1.defs.length y4] 25) = X2 at *
      generalize w2.heap.size = n9 at *
      have V9 : Hid (Var X2 n9 x3 x4 y3 y4 p1) := V9
      have V7 : Hid (Var X2 n7 x1 x2 y1 y2 p1) := V7.out.later HB2
      have HV2 : Hid (Var X2 w.heap.size a1 a2 k1 k2 p1 ∧ Var X2 (w.heap.size + 1) b1 b2 k3 k4 b ∧ Var X2 (w.heap.size + 2) c1 c2 k5 k6 c) := ⟨HV1.out.1.later HB2, HV1.out.2.1.later HB2, HV1.out.2.2.later HB2⟩
      have HBX2 : Hid (Below w.heap.size w X2) := HBX1.out.trans (HB2.mono HBX1.out.size)
      clear HV1 HBX1 HB2
      have ca0 := HV2.out.1.c0
      have ca1 := HV2.out.1.c1
      have c70 := V7.out.c0
      have c71 := V7.out.c1
      have KS : Hid (Calls Try.prog 10 #[.agg #[.slice x1 p1.frags.length y1, .slice x2 p1.defs.length y2], .agg #[.slice a1 p1.frags.length k1, .slice a2 p1.defs.length k2]] X2 fun e w' => e = .returned (.bool true) ∧ Below X2.heap.size X2 w') := by
        have := same_any p1.frags p1.frags p1.defs p1.defs x1 x2 a1 a2 y1 y2 k1 k2 X2 V7.out.fr V7.out.df HV2.out.1.fr HV2.out.1.df
        rwa [samePart_self] at this
      go_wp2_with (go_at_call 10; refine KS.out.mono ?_; rintro e w3 ⟨rfl, hb3⟩; refine Hid.out ?_)
      have HV3 : Hid (Var w3 w.heap.size a1 a2 k1 k2 p1 ∧ Var w3 (w.heap.size + 1) b1 b2 k3 k4 b ∧ Var w3 (w.heap.size + 2) c1 c2 k5 k6 c) := ⟨HV2.out.1.later hb3, HV2.out.2.1.later hb3, HV2.out.2.2.later hb3⟩
      have V9 := V9.out.later hb3
      have HBX3 : Hid (Below w.heap.size w w3) := HBX2.out.trans (hb3.mono HBX2.out.size)
      clear HV2 HBX2 V7 ca0 ca1 c70 c71 KS hb3
      have ca0 := HV3.out.1.c0
      have ca1 := HV3.out.1.c1
      have c90 := V9.c0
      have c91 := V9.c1
      have KS : Hid (Calls Try.prog 10 #[.agg #[.slice x3 p1.frags.length y3, .slice x4 p1.defs.length y4], .agg #[.slice a1 p1.frags.length k1, .slice a2 p1.defs.length k2]] w3 fun e w' => e = .returned (.bool true) ∧ Below w3.heap.size w3 w') := by
        have := same_any p1.frags p1.frags p1.defs p1.defs x3 x4 a1 a2 y3 y4 k1 k2 w3 V9.fr V9.df HV3.out.1.fr HV3.out.1.df
        rwa [samePart_self] at this
      clear V9
      refine Lib.hid ?_
      go_wp2_with (go_at_call 10; refine KS.out.mono ?_; rintro e w4 ⟨rfl, hb4⟩)
      go_meet
      exact ⟨HBX3.out.trans (hb4.mono HBX3.out.size), HV3.out.1.later hb4, HV3.out.2.1.later hb4, HV3.out.2.2.later hb4⟩
    · have hne : (r1 == 0) = false := by simpa using hr
      go_wp2_with fail
      go_meet
      exact ⟨HBX1, HV1⟩
  case rest =>
    obtain ⟨HB, HV⟩ := hcut
    clear HV1 HBX1 V7 Hj1
    obtain ⟨px, rx, hjx⟩ : ∃ p r, M.join a b = (p, r) := ⟨_, _, rfl⟩
    obtain ⟨py, ry, hjy⟩ : ∃ p r, M.join b c = (p, r) := ⟨_, _, rfl⟩
    have Hjx : Hid (M.join a b = (px, rx)) := hjx
    have Hjy : Hid (M.join b c = (py, ry)) := hjy
    clear hjx hjy
    have ca0 := HV.out.1.c0
    have ca1 := HV.out.1.c1
    have cb0 := HV.out.2.1.c0
    have cb1 := HV.out.2.1.c1
    have KJ : Hid (Calls Try.prog 9 #[.agg #[.slice a1 a.frags.length k1, .slice a2 a.defs.length k2], .agg #[.slice b1 b.frags.length k3, .slice b2 b.defs.length k4]] wc _) := join_v HV.out.1.fr HV.out.1.df HV.out.2.1.fr HV.out.2.1.df px rx Hjx.out
    go_upto_region 7 with (go_at_call 9; refine KJ.out.mono ?_; rintro e w' ⟨hb, f1, f3, f2, f4, rfl, hF, hD⟩)
    have Nf := var_new hF hD
    have HBn : Below wc.heap.size wc (w'.alloc (.cells #[.slice f1 px.frags.length f3, .slice f2 px.defs.length f4] 25)) := hb.alloc hb.size _
    clear hF hD KJ hb ca0 ca1 cb0 cb1
    generalize w'.alloc (.cells #[.slice f1 px.frags.length f3, .slice f2 px.defs.length f4] 25) = X3 at *
    generalize w'.heap.size = n11 at *
    have Nf : Hid (Var X3 n11 f1 f2 f3 f4 px) := Nf
    have HV : Hid (Var X3 w.heap.size a1 a2 k1 k2 a ∧ Var X3 (w.heap.size + 1) b1 b2 k3 k4 b ∧ Var X3 (w.heap.size + 2) c1 c2 k5 k6 c) := ⟨HV.out.1.later HBn, HV.out.2.1.later HBn, HV.out.2.2.later HBn⟩
    have HB : Hid (Below w.heap.size w X3) := HB.out.trans (HBn.mono HB.out.size)
    clear HBn
    have cb0 := HV.out.2.1.c0
    have cb1 := HV.out.2.1.c1
    have cc0 := HV.out.2.2.c0
    have cc1 := HV.out.2.2.c1
    have KJ : Hid (Calls Try.prog 9 #[.agg #[.slice b1 b.frags.length k3, .slice b2 b.defs.length k4], .agg #[.slice c1 c.frags.length k5, .slice c2 c.defs.length k6]] X3 _) := join_v HV.out.2.1.fr HV.out.2.1.df HV.out.2.2.fr HV.out.2.2.df py ry Hjy.out
    go_upto_region 8 with (go_at_call 9; refine KJ.out.mono ?_; rintro e w' ⟨hb, g1, g3, g2, g4, rfl, hF, hD⟩)
    have Ng := var_new hF hD
    have HBn : Below X3.heap.size X3 (w'.alloc (.cells #[.slice g1 py.frags.length g3, .slice g2 py.defs.length g4] 25)) := hb.alloc hb.size _
    clear hF hD KJ hb cb0 cb1 cc0 cc1
    generalize w'.alloc (.cells #[.slice g1 py.frags.length g3, .slice g2 py.defs.length g4] 25) = X4 at *
    generalize w'.heap.size = n13 at *
    have Ng : Hid (Var X4 n13 g1 g2 g3 g4 py) := Ng
    have HV : Hid (Var X4 w.heap.size a1 a2 k1 k2 a ∧ Var X4 (w.heap.size + 1) b1 b2 k3 k4 b ∧ Var X4 (w.heap.size + 2) c1 c2 k5 k6 c) := ⟨HV.out.1.later HBn, HV.out.2.1.later HBn, HV.out.2.2.later HBn⟩
    have Nf : Hid (Var X4 n11 f1 f2 f3 f4 px) := Nf.out.later HBn
    have HB : Hid (Below w.heap.size w X4) := HB.out.trans (HBn.mono HB.out.size)
    clear HBn
    have KS : Hid (∀ W, Calls Try.prog 11 #[] W fun e w' => e = .returned (.bool true) ∧ Below W.heap.size W w') := spliced_any
    by_cases hrx : rx = 0
    · by_cases hry : ry = 0
      · subst hrx
        subst hry
        obtain ⟨ho1, ho2, ho3⟩ := M.join_order (a := a) (b := b) (c := c) (by rw [Hjx.out]) (by rw [Hjy.out])
        rw [Hjx.out, Hjy.out] at ho1
        rw [Hjx.out] at ho2 ho3
        obtain ⟨pp, rp, hjp⟩ : ∃ p r, M.join px c = (p, r) := ⟨_, _, rfl⟩
        simp only [hjp] at ho1 ho2 ho3
        have Hjp : Hid (M.join px c = (pp, rp)) := hjp
        have Hjq : Hid (M.join a py = (pp, rp)) := ho1
        have Hall : Hid (M.allFrom M.nil [a, b, c] = if rp = 0 then (pp, 0) else (M.nil, rp)) := ho2
        have Hrp : Hid (rp = 0 ∨ rp = 10) := ho3
        clear ho1 ho2 ho3 hjp
        go_upto_region 10 with (go_at_call 11; refine (KS.out _).mono ?_; rintro e x5 ⟨rfl, hb5⟩)
        have HV : Hid (Var x5 w.heap.size a1 a2 k1 k2 a ∧ Var x5 (w.heap.size + 1) b1 b2 k3 k4 b ∧ Var x5 (w.heap.size + 2) c1 c2 k5 k6 c) := ⟨HV.out.1.later hb5, HV.out.2.1.later hb5, HV.out.2.2.later hb5⟩
        have Nf : Hid (Var x5 n11 f1 f2 f3 f4 px) := Nf.out.later hb5
        have Ng : Hid (Var x5 n13 g1 g2 g3 g4 py) := Ng.out.later hb5
        have HB : Hid (Below w.heap.size w x5) := HB.out.trans (hb5.mono HB.out.size)
        clear hb5
        have cf0 := Nf.out.c0
        have cf1 := Nf.out.c1
        have cc0 := HV.out.2.2.c0
        have cc1 := HV.out.2.2.c1
        have KJ : Hid (Calls Try.prog 9 #[.agg #[.slice f1 px.frags.length f3, .slice f2 px.defs.length f4], .agg #[.slice c1 c.frags.length k5, .slice c2 c.defs.length k6]] x5 _) := join_v Nf.out.fr Nf.out.df HV.out.2.2.fr HV.out.2.2.df pp rp Hjp.out
        go_upto_region 11 with (go_at_call 9; refine KJ.out.mono ?_; rintro e w' ⟨hb, h1, h3, h2, h4, rfl, hF, hD⟩)
        have Nh := var_new hF hD
        have HBn : Below x5.heap.size x5 (w'.alloc (.cells #[.slice h1 pp.frags.length h3, .slice h2 pp.defs.length h4] 25)) := hb.alloc hb.size _
        clear hF hD KJ hb cf0 cf1 cc0 cc1
        generalize w'.alloc (.cells #[.slice h1 pp.frags.length h3, .slice h2 pp.defs.length h4] 25) = X6 at *
        generalize w'.heap.size = n15 at *
        have Nh : Hid (Var X6 n15 h1 h2 h3 h4 pp) := Nh
        have HV : Hid (Var X6 w.heap.size a1 a2 k1 k2 a ∧ Var X6 (w.heap.size + 1) b1 b2 k3 k4 b ∧ Var X6 (w.heap.size + 2) c1 c2 k5 k6 c) := ⟨HV.out.1.later HBn, HV.out.2.1.later HBn, HV.out.2.2.later HBn⟩
        have Ng : Hid (Var X6 n13 g1 g2 g3 g4 py) := Ng.out.later HBn
        have HB : Hid (Below w.heap.size w X6) := HB.out.trans (HBn.mono HB.out.size)
        clear HBn
        have ca0 := HV.out.1.c0
        have ca1 := HV.out.1.c1
        have cg0 := Ng.out.c0
        have cg1 := Ng.out.c1
        have KJ : Hid (Calls Try.prog 9 #[.agg #[.slice a1 a.frags.length k1, .slice a2 a.defs.length k2], .agg #[.slice g1 py.frags.length g3, .slice g2 py.defs.length g4]] X6 _) := join_v HV.out.1.fr HV.out.1.df Ng.out.fr Ng.out.df pp rp Hjq.out
        go_upto_region 12 with (go_at_call 9; refine KJ.out.mono ?_; rintro e w' ⟨hb, m1, m3, m2, m4, rfl, hF, hD⟩)
        have Nm := var_new hF hD
        have HBn : Below X6.heap.size X6 (w'.alloc (.cells #[.slice m1 pp.frags.length m3, .slice m2 pp.defs.length m4] 25)) := hb.alloc hb.size _
        clear hF hD KJ hb ca0 ca1 cg0 cg1
        generalize w'.alloc (.cells #[.slice m1 pp.frags.length m3, .slice m2 pp.defs.length m4] 25) = X7 at *
        generalize w'.heap.size = n16 at *
        have Nm : Hid (Var X7 n16 m1 m2 m3 m4 pp) := Nm
        have HV : Hid (Var X7 w.heap.size a1 a2 k1 k2 a ∧ Var X7 (w.heap.size + 1) b1 b2 k3 k4 b ∧ Var X7 (w.heap.size + 2) c1 c2 k5 k6 c) := ⟨HV.out.1.later HBn, HV.out.2.1.later HBn, HV.out.2.2.later HBn⟩
        have Nh : Hid (Var X7 n15 h1 h2 h3 h4 pp) := Nh.out.later HBn
        have HB : Hid (Below w.heap.size w X7) := HB.out.trans (HBn.mono HB.out.size)
        clear HBn
        have ca0 := HV.out.1.c0
        have ca1 := HV.out.1.c1
        have cb0 := HV.out.2.1.c0
        have cb1 := HV.out.2.1.c1
        have cc0 := HV.out.2.2.c0
        have cc1 := HV.out.2.2.c1
        obtain ⟨pl, rl, hjl⟩ : ∃ p r, M.allFrom M.nil [a, b, c] = (p, r) := ⟨_, _, rfl⟩
        have HBl : Hid (Below X7.heap.size X7 (X7.alloc (.cells (#[.slice a1 a.frags.length k1, .slice a2 a.defs.length k2, .slice b1 b.frags.length k3, .slice b2 b.defs.length k4, .slice c1 c.frags.length k5, .slice c2 c.defs.length k6] : Array Value) 25))) := (Below.refl _ _).alloc (Nat.le_refl _) _
        have KL : Hid (Calls Try.prog 12 #[.slice (some ⟨X7.heap.size, 0, none⟩) 3 3] (X7.alloc (.cells (#[.slice a1 a.frags.length k1, .slice a2 a.defs.length k2, .slice b1 b.frags.length k3, .slice b2 b.defs.length k4, .slice c1 c.frags.length k5, .slice c2 c.defs.length k6] : Array Value) 25)) fun e w' => Below X7.heap.size X7 w' ∧ ∃ l1 l3 l2 l4, e = .returned (.tuple #[.agg #[.slice l1 pl.frags.length l3, .slice l2 pl.defs.length l4], .int .i64 rl]) ∧ FragsAt w' (.slice l1 pl.frags.length l3) pl.frags ∧ DefsAt w' (.slice l2 pl.defs.length l4) pl.defs) := by
          have hPa : PartsAt (X7.alloc (.cells (#[.slice a1 a.frags.length k1, .slice a2 a.defs.length k2, .slice b1 b.frags.length k3, .slice b2 b.defs.length k4, .slice c1 c.frags.length k5, .slice c2 c.defs.length k6] : Array Value) 25)) (.slice (some ⟨X7.heap.size, 0, none⟩) [a, b, c].length 3) [a, b, c] := by
            refine ⟨fun j i => (#[.slice a1 a.frags.length k1, .slice a2 a.defs.length k2, .slice b1 b.frags.length k3, .slice b2 b.defs.length k4, .slice c1 c.frags.length k5, .slice c2 c.defs.length k6] : Array Value).getD (j * 2 + i) undef, ⟨_, _, rfl, by unfold maxLen; simp, .inr ⟨X7.heap.size, 0, rfl, fun j i hj hi => ?_⟩⟩, fun j hj => ?_⟩
            · rw [cellB (heap_alloc_new X7 _)]
              have hj : j < 3 := hj
              rcases (by omega : j = 0 ∨ j = 1 ∨ j = 2) with rfl | rfl | rfl <;> rcases (by omega : i = 0 ∨ i = 1) with rfl | rfl <;> rfl
            · have hj : j < 3 := hj
              rcases (by omega : j = 0 ∨ j = 1 ∨ j = 2) with rfl | rfl | rfl
              · exact ⟨HV.out.1.fr.later HBl.out, HV.out.1.df.later HBl.out⟩
              · exact ⟨HV.out.2.1.fr.later HBl.out, HV.out.2.1.df.later HBl.out⟩
              · exact ⟨HV.out.2.2.fr.later HBl.out, HV.out.2.2.df.later HBl.out⟩
          refine (all_any [a, b, c] (some ⟨X7.heap.size, 0, none⟩) 3 _ hPa (by simp)).mono ?_
          rintro e w' ⟨hb, es, vF, vD, rfl, hP, hes⟩
          rw [hjl] at hP hes ⊢
          have hF := hP.fragsAt
          rw [hes] at hF
          obtain ⟨l1, l3, rfl⟩ := hF.form
          obtain ⟨l2, l4, rfl⟩ := hP.defsAt.form
          exact ⟨HBl.out.trans (hb.mono HBl.out.size), l1, l3, l2, l4, rfl, hF, hP.defsAt⟩
        have Hjl : Hid (M.allFrom M.nil [a, b, c] = (pl, rl)) := hjl
        clear hjl
        go_upto_region 13 with (go_at_call 12; refine KL.out.mono ?_; rintro e w' ⟨hb, l1, l3, l2, l4, rfl, hF, hD⟩)
        have Nl := var_new hF hD
        have HBn : Below X7.heap.size X7 (w'.alloc (.cells #[.slice l1 pl.frags.length l3, .slice l2 pl.defs.length l4] 25)) := hb.alloc hb.size _
        clear hF hD KL hb ca0 ca1 cb0 cb1 cc0 cc1 HBl
        generalize w'.alloc (.cells #[.slice l1 pl.frags.length l3, .slice l2 pl.defs.length l4] 25) = X8 at *
        generalize w'.heap.size = n17 at *
        have Nl : Hid (Var X8 n17 l1 l2 l3 l4 pl) := Nl
        have Nh : Hid (Var X8 n15 h1 h2 h3 h4 pp) := Nh.out.later HBn
        have Nm : Hid (Var X8 n16 m1 m2 m3 m4 pp) := Nm.out.later HBn
        have HB : Hid (Below w.heap.size w X8) := HB.out.trans (HBn.mono HB.out.size)
        clear HBn HV Nf Ng
        rw [Hjl.out] at Hall
        rcases Hrp.out with hr | hr
        · subst hr
          have hl : (pl, rl) = (pp, (0 : Int)) := by have := Hall.out; rwa [if_pos rfl] at this
          cases hl
          have hok : M.checkPart pp = 0 := by
            have := (M.join_ok (a := px) (b := c) (by rw [Hjp.out])).2.2.2.2
            rw [Hjp.out] at this
            exact (M.ok_iff _).2 this
          clear Hall Hjl Hjp Hjq Hrp Hjx Hjy
          have ch0 := Nh.out.c0
          have ch1 := Nh.out.c1
          have cm0 := Nm.out.c0
          have cm1 := Nm.out.c1
          have KE : Hid (Calls Try.prog 10 #[.agg #[.slice h1 pp.frags.length h3, .slice h2 pp.defs.length h4], .agg #[.slice m1 pp.frags.length m3, .slice m2 pp.defs.length m4]] X8 fun e w' => e = .returned (.bool true) ∧ Below X8.heap.size X8 w') := by
            have := same_any pp.frags pp.frags pp.defs pp.defs _ _ _ _ _ _ _ _ X8 Nh.out.fr Nh.out.df Nm.out.fr Nm.out.df
            rwa [samePart_self] at this
          go_wp2_with (go_at_call 10; refine KE.out.mono ?_; rintro e x9 ⟨rfl, hb9⟩; refine Hid.out ?_)
          have Nh : Hid (Var x9 n15 h1 h2 h3 h4 pp) := Nh.out.later hb9
          have Nl : Hid (Var x9 n17 l1 l2 l3 l4 pp) := Nl.out.later hb9
          have HB : Hid (Below w.heap.size w x9) := HB.out.trans (hb9.mono HB.out.size)
          clear KE hb9 Nm ch0 ch1 cm0 cm1
          have ch0 := Nh.out.c0
          have ch1 := Nh.out.c1
          have cl0 := Nl.out.c0
          have cl1 := Nl.out.c1
          have KE : Hid (Calls Try.prog 10 #[.agg #[.slice h1 pp.frags.length h3, .slice h2 pp.defs.length h4], .agg #[.slice l1 pp.frags.length l3, .slice l2 pp.defs.length l4]] x9 fun e w' => e = .returned (.bool true) ∧ Below x9.heap.size x9 w') := by
            have := same_any pp.frags pp.frags pp.defs pp.defs _ _ _ _ _ _ _ _ x9 Nh.out.fr Nh.out.df Nl.out.fr Nl.out.df
            rwa [samePart_self] at this
          refine Lib.hid ?_
          go_wp2_with (go_at_call 10; refine KE.out.mono ?_; rintro e x10 ⟨rfl, hb10⟩; refine Hid.out ?_)
          have Nh : Hid (Var x10 n15 h1 h2 h3 h4 pp) := Nh.out.later hb10
          have HB : Hid (Below w.heap.size w x10) := HB.out.trans (hb10.mono HB.out.size)
          clear KE hb10 Nl ch0 ch1 cl0 cl1
          have ch0 := Nh.out.c0
          have ch1 := Nh.out.c1
          have KC : Hid (Calls Try.prog 13 #[.agg #[.slice h1 pp.frags.length h3, .slice h2 pp.defs.length h4]] x10 fun e w' => e = .returned (.int .i64 0) ∧ Below x10.heap.size x10 w') := by
            have := check_any pp.frags pp.defs _ _ _ _ x10 Nh.out.fr Nh.out.df
            rwa [hok] at this
          clear hok
          refine Lib.hid ?_
          go_wp2_with (go_at_call 13; refine KC.out.mono ?_; rintro e x11 ⟨rfl, hb11⟩)
          go_ret
          exact ⟨rfl, HB.out.trans (hb11.mono HB.out.size)⟩
        · subst hr
          have hl : (pl, rl) = (M.nil, (10 : Int)) := by have := Hall.out; rwa [if_neg (by decide)] at this
          cases hl
          clear Hall Hjl Hjp Hjq Hrp Hjx Hjy
          go_wp2
          go_ret
          exact ⟨rfl, HB.out⟩
      · have hne : (ry != 0) = true := by simpa using hry
        subst hrx
        clear hry Hjx Hjy
        go_wp2_with (go_at_call 11; refine (KS.out _).mono ?_; rintro e x5 ⟨rfl, hb5⟩; refine Hid.out ?_)
        have HB : Hid (Below w.heap.size w x5) := HB.out.trans (hb5.mono HB.out.size)
        clear hb5
        refine Lib.hid ?_
        go_wp2_with (go_at_call 11; refine (KS.out _).mono ?_; rintro e x6 ⟨rfl, hb6⟩)
        go_ret
        exact ⟨rfl, HB.out.trans (hb6.mono HB.out.size)⟩
    · have hne : (rx != 0) = true := by simpa using hrx
      clear hrx Hjx Hjy
      go_wp2_with (go_at_call 11; refine (KS.out _).mono ?_; rintro e x5 ⟨rfl, hb5⟩; refine Hid.out ?_)
      have HB : Hid (Below w.heap.size w x5) := HB.out.trans (hb5.mono HB.out.size)
      clear hb5
      refine Lib.hid ?_
      go_wp2_with (go_at_call 11; refine (KS.out _).mono ?_; rintro e x6 ⟨rfl, hb6⟩)
      go_ret
      exact ⟨rfl, HB.out.trans (hb6.mono HB.out.size)⟩

end Go.Proofs.Ytebhbhbhcoijpaa
