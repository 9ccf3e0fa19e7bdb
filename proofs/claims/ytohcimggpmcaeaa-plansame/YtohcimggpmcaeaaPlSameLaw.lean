/-
  The law PlanSame: whatever the parts and the picks, it returns true.
-/
import Derived.Test.YtohcimggpmcaeaaPlMakesLaw
import Derived.Test.YtohcimggpmcaeaaPlEval
import Derived.Test.YtohcimggpmcaeaaPlSmMath
import Derived.Test.YtohcimggpmcaeaaSameAll
import Derived.BigQuiet
namespace Go.Proofs.Ytohcimggpmcaeaa
open Go Go.RowKit
set_option linter.unusedVariables false
attribute [local go_sem] lat_cell

theorem same_selfP (p : M.Prt) : M.samePart p p = true := by
  have h1 : ∀ l : List M.Rel, M.allTwo M.sameRel l l = true := fun l => by
    induction l with
    | nil => rfl
    | cons x l ih => simp [M.allTwo, M.sameRel, ih]
  have h2 : ∀ l : List Int, M.allTwo (fun x y => x == y) l l = true := fun l => by
    induction l with
    | nil => rfl
    | cons x l ih => simp [M.allTwo, ih]
  have h3 : ∀ l : List M.Frg, M.allTwo M.sameFrg l l = true := fun l => by
    induction l with
    | nil => rfl
    | cons x l ih => simp [M.allTwo, M.sameFrg, h1, h2, ih]
  have h4 : ∀ l : List M.Dfn, M.allTwo M.sameDfn l l = true := fun l => by
    induction l with
    | nil => rfl
    | cons x l ih => simp [M.allTwo, M.sameDfn, ih]
  simp [M.samePart, h3, h4]

theorem EvOut.parts {w0 w' : World} {v : Value} {ps : List M.Prt} (h : EvOut w0 w' v ps) : ∃ a c, v = .slice a ps.length c ∧ PartsAt w' (.slice a ps.length c) ps := by
  obtain ⟨es, rfl, hr, hp⟩ := h.ex
  obtain ⟨a, c, rfl⟩ := own_len hr
  refine ⟨a, c, by rw [List.length_map], ?_⟩
  rw [List.length_map]
  refine ⟨fun j i => (pentCells (es.getD j pent0)).getD i undef, ?_, fun j hj => ?_⟩
  · rw [List.length_map]
    exact row_slice (k := 2) pent0 pentCells (fun _ => rfl) es hr
  · rw [List.length_map] at hj
    obtain ⟨a1, c1, a2, c2, e1, e2, hF, hD⟩ := (hp _ (getD_mem es pent0 j hj)).at
    have e3 : (es.map (·.p)).getD j M.nil = (es.getD j pent0).p := by
      rw [List.getD_eq_getElem?_getD, List.getD_eq_getElem?_getD, List.getElem?_map, List.getElem?_eq_getElem hj]; rfl
    rw [e3]
    exact ⟨by show FragsAt w' (es.getD j pent0).vF _; rw [e1]; exact hF, by show DefsAt w' (es.getD j pent0).vD _; rw [e2]; exact hD⟩

/-- a part in a variable, or in a row -/
structure SmT (X : World) (a1 a2 : Option Addr) (c1 c2 : Nat) (p : M.Prt) : Prop where
  fr : FragsAt X (.slice a1 p.frags.length c1) p.frags
  df : DefsAt X (.slice a2 p.defs.length c2) p.defs

/-- the cells of one part of a row -/
theorem parts_cell {w : World} {a : Option Addr} {c n : Nat} {ps : List M.Prt} (h : PartsAt w (.slice a n c) ps) (hn : ps.length = n) (k : Nat) (hk : k < n) : ∃ b off a1 c1 a2 c2, a = some ⟨b, off, none⟩ ∧ w.cell? ⟨b, off + k * 2, none⟩ = some (.slice a1 (ps.getD k M.nil).frags.length c1) ∧ w.cell? ⟨b, off + k * 2 + 1, none⟩ = some (.slice a2 (ps.getD k M.nil).defs.length c2) ∧ SmT w a1 a2 c1 c2 (ps.getD k M.nil) := by
  subst hn
  obtain ⟨cell, hs, hc⟩ := h
  obtain ⟨b, off, rfl, hce⟩ := hs.at k hk
  obtain ⟨hF, hD⟩ := hc k hk
  have e0 := hce 0 (by decide)
  have e1 := hce 1 (by decide)
  rw [Nat.add_zero] at e0
  obtain ⟨a1, c1, h1⟩ := hF.form
  obtain ⟨a2, c2, h2⟩ := hD.form
  rw [h1] at e0 hF
  rw [h2] at e1 hD
  exact ⟨b, off, a1, c1, a2, c2, rfl, e0, e1, hF, hD⟩

theorem fitsE_any (e : Int) (w : World) : Calls Try.prog 17 #[.int .i64 e] w fun r w' => r = .returned (.bool (e != 0)) ∧ w = w' := by
  go_enter Try.func17, Try.ntmps17
  go_wp2
  go_ret
  exact ⟨rfl, rfl⟩

set_option maxHeartbeats 16000000 in
set_option maxRecDepth 100000 in
theorem same_law (parts : List M.Prt) (picks other : List Int) (a0 a1 a2 : Option Addr) (c0 c1 c2 : Nat) (w : World) (h0 : PartsAt w (.slice a0 parts.length c0) parts) (h1 : IntsAt w (.slice a1 picks.length c1) picks) (h2 : IntsAt w (.slice a2 other.length c2) other) :
    Calls Try.prog 5 #[.slice a0 parts.length c0, .slice a1 picks.length c1, .slice a2 other.length c2] w fun e w' => e = .returned (.bool true) ∧ Below w.heap.size w w' := by
  have hpl : parts.length ≤ maxLen := by obtain ⟨_, h, _⟩ := h0; obtain ⟨_, _, _, h⟩ := h.form; exact h
  unfold maxLen at hpl
  have KM : Hid (Calls Try.prog 6 #[.int .i64 parts.length, .slice a1 picks.length c1] w fun e w' => Below w.heap.size w w' ∧ ∃ a c, e = .returned (.tuple #[.slice a (M.make parts.length picks).length c, .int .i64 (M.makeE parts.length picks)]) ∧ NodesAt w' (.slice a (M.make parts.length picks).length c) (M.make parts.length picks) ∧ (M.make parts.length picks).length ≤ c) := make_v parts.length picks a1 c1 w h1
  have KN : Hid (∀ W, Below w.heap.size w W → Calls Try.prog 6 #[.int .i64 parts.length, .slice a2 other.length c2] W fun e w' => Below W.heap.size W w' ∧ ∃ a c, e = .returned (.tuple #[.slice a (M.make parts.length other).length c, .int .i64 (M.makeE parts.length other)]) ∧ NodesAt w' (.slice a (M.make parts.length other).length c) (M.make parts.length other) ∧ (M.make parts.length other).length ≤ c) := fun W hW => make_v parts.length other a2 c2 W (h2.later hW)
  have KP : Hid (∀ W, Calls Try.prog 7 #[] W fun e w' => e = .returned (.bool true) ∧ Below W.heap.size W w') := fun W => planned_true W
  have HP0 : Hid (∀ W, Below w.heap.size w W → PartsAt W (.slice a0 parts.length c0) parts) := fun W hW => h0.later hW
  have HOk : Hid (M.makeE parts.length picks = 0 → 1 ≤ parts.length ∧ parts.length ≤ 12 ∧ M.make parts.length picks = M.makeL parts.length picks) := fun h => by
    obtain ⟨k, e, h1, h2, _, h3⟩ := make_ok h
    have e' : parts.length = k := by omega
    subst e'
    exact ⟨h1, h2, h3⟩
  have HOk2 : Hid (M.makeE parts.length other = 0 → M.make parts.length other = M.makeL parts.length other) := fun h => by
    obtain ⟨k, e, h1, h2, _, h3⟩ := make_ok h
    have e' : parts.length = k := by omega
    subst e'
    exact h3
  clear h0 h1 h2
  generalize hel : M.make parts.length picks = l at *
  generalize hem : M.make parts.length other = m at *
  generalize M.makeE parts.length picks = er at *
  generalize M.makeE parts.length other = fr at *
  go_enter Try.func5, Try.ntmps5
  go_upto_region 2 with (go_at_call 6; refine KM.out.mono ?_; rintro e w1 ⟨hb1, a3, c3, rfl, hN, hc3⟩)
  have HB1 : Hid (Below w.heap.size w w1) := hb1
  have HN1 : Hid (NodesAt w1 (.slice a3 l.length c3) l) := hN
  clear hb1 hN KM hc3
  go_upto_region 3 with (go_at_call 6; refine (KN.out _ HB1.out).mono ?_; rintro e w2 ⟨hb2, a4, c4, rfl, hN, hc4⟩)
  have HB2 : Hid (Below w.heap.size w w2) := HB1.out.trans (hb2.mono HB1.out.size)
  have HN2 : Hid (NodesAt w2 (.slice a3 l.length c3) l) := HN1.out.later hb2
  have HM2 : Hid (NodesAt w2 (.slice a4 m.length c4) m) := hN
  clear hb2 hN KN hc4 HB1 HN1
  by_cases her : er = 0
  · by_cases hfr : fr = 0
    · subst her
      subst hfr
      obtain ⟨hk1, hk12, hml⟩ := HOk.out rfl
      have hmm := HOk2.out rfl
      obtain ⟨F1, F2⟩ := M.eval_made parts picks hk1 hk12
      obtain ⟨G1, G2⟩ := M.eval_made parts other hk1 hk12
      have ht1 := M.makeL_t parts.length picks hk1
      have ht2 := M.makeL_t parts.length other hk1
      rw [← hml] at F1 F2 ht1
      rw [← hmm] at G1 G2 ht2
      have hs1 := M.t_size ht1
      have hs2 := M.t_size ht2
      have hck := M.t_check ht1 hk1 hk12
      clear hml hmm HOk HOk2 ht1 ht2 hel hem
      go_upto_region 5 with (go_at_call 7; refine (KP.out _).mono ?_; rintro e w3 ⟨rfl, hb3⟩)
      have HB3 : Hid (Below w.heap.size w w3) := HB2.out.trans (hb3.mono HB2.out.size)
      have HN3 : Hid (NodesAt w3 (.slice a3 l.length c3) l) := HN2.out.later hb3
      have HM3 : Hid (NodesAt w3 (.slice a4 m.length c4) m) := HM2.out.later hb3
      clear hb3 HB2 HN2 HM2 KP
      have KC : Hid (Calls Try.prog 8 #[.slice a3 l.length c3, .int .i64 parts.length] w3 fun e w' => e = .returned (.int .i64 0) ∧ Below w3.heap.size w3 w') := (planCheck_any l parts.length a3 c3 w3 HN3.out).mono fun e w' ⟨g1, g2⟩ => ⟨by rw [g1, hck], g2⟩
      have hl2 : ((l.length : Int) != 2 * (parts.length : Int) - 1) = false := by simp; omega
      have hlm : ((m.length : Int) != (l.length : Int)) = false := by simp; omega
      have hl23 : l.length ≤ 23 := by omega
      have Hlm : Hid (m.length = l.length) := by rw [Hid]; omega
      have hl0 : 0 < l.length := by omega
      clear hck hs1 hs2
      go_upto_region 7 with (go_at_call 8; refine KC.out.mono ?_; rintro e w4 ⟨rfl, hb4⟩)
      have HB4 : Hid (Below w.heap.size w w4) := HB3.out.trans (hb4.mono HB3.out.size)
      have HN4 : Hid (NodesAt w4 (.slice a3 l.length c3) l) := HN3.out.later hb4
      have HM4 : Hid (NodesAt w4 (.slice a4 m.length c4) m) := HM3.out.later hb4
      have KE1 : Hid (Calls Try.prog 14 #[.slice a3 l.length c3, .slice a0 parts.length c0] w4 fun e w' => ∃ v, e = .returned (.tuple #[v, .int .i64 (M.eval l parts).2]) ∧ EvOut w4 w' v (M.eval l parts).1) := eval_any l parts a3 a0 c3 c0 w4 HN4.out (HP0.out w4 HB4.out)
      have KE2 : Hid (∀ W, Below w4.heap.size w4 W → Calls Try.prog 14 #[.slice a4 m.length c4, .slice a0 parts.length c0] W fun e w' => ∃ v, e = .returned (.tuple #[v, .int .i64 (M.eval m parts).2]) ∧ EvOut W w' v (M.eval m parts).1) := fun W hW => eval_any m parts a4 a0 c4 c0 W (HM4.out.later hW) (HP0.out W (HB4.out.trans (hW.mono HB4.out.size)))
      have KA : Hid (∀ W, Below w4.heap.size w4 W → Calls Try.prog 15 #[.slice a0 parts.length c0] W fun e w' =>
          Below W.heap.size W w' ∧ ∃ es vF vD, e = .returned (.tuple #[.agg #[vF, vD], .int .i64 (M.allFrom M.nil parts).2]) ∧ PR w' W.heap.size es (M.allFrom M.nil parts).1.defs vF vD ∧ es.map (·.f) = (M.allFrom M.nil parts).1.frags) := fun W hW => all_any parts a0 c0 W (HP0.out W (HB4.out.trans (hW.mono HB4.out.size))) (by omega)
      clear hb4 HB3 HN3 HM3 KC HN4 HM4 HP0
      generalize M.eval l parts = X at *
      obtain ⟨xl, ee⟩ := X
      generalize M.eval m parts = Y at *
      obtain ⟨yl, ff⟩ := Y
      generalize M.allFrom M.nil parts = A at *
      obtain ⟨ap, ag⟩ := A
      simp only at F1 F2 G1 G2 KE1 KE2 KA
      go_upto_region 8 with (go_at_call 14; refine KE1.out.mono ?_; rintro e w5 ⟨v5, rfl, hO5⟩; obtain ⟨a5, c5, rfl, hP5⟩ := hO5.parts)
      have hb5 := hO5.below
      have HB5 : Hid (Below w4.heap.size w4 w5) := hb5
      have HX5 : Hid (PartsAt w5 (.slice a5 xl.length c5) xl) := hP5
      clear hb5 hO5 hP5 KE1
      go_upto_region 9 with (go_at_call 14; refine (KE2.out _ HB5.out).mono ?_; rintro e w6 ⟨v6, rfl, hO6⟩; obtain ⟨a6, c6, rfl, hP6⟩ := hO6.parts)
      have hb6 := hO6.below
      have HB6 : Hid (Below w4.heap.size w4 w6) := HB5.out.trans (hb6.mono HB5.out.size)
      have HX6 : Hid (PartsAt w6 (.slice a5 xl.length c5) xl) := HX5.out.later hb6
      have HY6 : Hid (PartsAt w6 (.slice a6 yl.length c6) yl) := hP6
      clear hb6 hO6 hP6 KE2 HB5 HX5
      go_upto_region 10 with (go_at_call 15; refine (KA.out _ HB6.out).mono ?_; rintro e w7 ⟨hb7, es7, vF, vD, rfl, hP7, hes7⟩; obtain ⟨z1, z2, rfl⟩ := own_len hP7.rowF; obtain ⟨z3, z4, rfl⟩ := own_len hP7.rowD)
      have hF7 := hP7.fragsAt
      rw [hes7] at hF7
      have hD7 := hP7.defsAt
      have hel7 : es7.length = ap.frags.length := by rw [← hes7, List.length_map]
      rw [hel7] at hF7 ⊢
      have hA7 : Below w7.heap.size w7 (w7.alloc (.cells #[.slice z1 ap.frags.length z2, .slice z3 ap.defs.length z4] 45)) := (Below.refl _ _).alloc (Nat.le_refl _) _
      have hb67 := hb7.trans (hA7.mono hb7.size)
      have HB8 : Hid (Below w.heap.size w (w7.alloc (.cells #[.slice z1 ap.frags.length z2, .slice z3 ap.defs.length z4] 45))) := HB4.out.trans ((HB6.out.trans (hb67.mono HB6.out.size)).mono HB4.out.size)
      have HX8 : Hid (PartsAt (w7.alloc (.cells #[.slice z1 ap.frags.length z2, .slice z3 ap.defs.length z4] 45)) (.slice a5 xl.length c5) xl) := HX6.out.later hb67
      have HY8 : Hid (PartsAt (w7.alloc (.cells #[.slice z1 ap.frags.length z2, .slice z3 ap.defs.length z4] 45)) (.slice a6 yl.length c6) yl) := HY6.out.later hb67
      have HA8 : Hid (SmT (w7.alloc (.cells #[.slice z1 ap.frags.length z2, .slice z3 ap.defs.length z4] 45)) z1 z3 z2 z4 ap) := ⟨hF7.later hA7, hD7.later hA7⟩
      have p8 := heap_alloc_new w7 (.cells #[.slice z1 ap.frags.length z2, .slice z3 ap.defs.length z4] 45)
      clear hP7 hes7 hF7 hD7 hel7 hA7 hb67 hb7 HB6 HX6 HY6 KA HB4
      generalize w7.alloc (.cells #[.slice z1 ap.frags.length z2, .slice z3 ap.defs.length z4] 45) = X8 at *
      generalize w7.heap.size = n8 at *
      by_cases hag : ag = 0
      · have hF := F2 hag
        have hG := G2 hag
        by_cases hee : ee = 0
        · by_cases hff : ff = 0
          · obtain ⟨_, hxl, hxe⟩ := F1 hee
            obtain ⟨_, hyl, hye⟩ := G1 hff
            subst hee
            subst hff
            subst hag
            have hlm' := Hlm.out
            rw [hlm'] at hyl hye
            obtain ⟨nx, hnx⟩ : ∃ nx, l.length = nx + 1 := ⟨l.length - 1, by omega⟩
            rw [show l.length - 1 = nx by omega] at hxe hye
            obtain ⟨bx, ox, x1, y1, x2, y2, hax, q0, q1, SX⟩ := parts_cell HX8.out rfl nx (by omega)
            obtain ⟨by_, oy, u1, v1, u2, v2, hay, r0, r1, SY⟩ := parts_cell HY8.out rfl nx (by omega)
            rw [hxe] at q0 q1 SX
            rw [hye] at r0 r1 SY
            subst hax
            subst hay
            have KS : Hid (∀ W x1 x2 y1 y2, SmT X8 x1 x2 y1 y2 ap → Below X8.heap.size X8 W → Calls Try.prog 16 #[.agg #[.slice x1 ap.frags.length y1, .slice x2 ap.defs.length y2], .agg #[.slice z1 ap.frags.length z2, .slice z3 ap.defs.length z4]] W fun e w' => e = .returned (.bool true) ∧ Below W.heap.size W w') := fun W x1 x2 y1 y2 h hW =>
              (same_any ap.frags ap.frags ap.defs ap.defs x1 x2 z1 z3 y1 y2 z2 z4 W (h.fr.later hW) (h.df.later hW) (HA8.out.fr.later hW) (HA8.out.df.later hW)).mono fun e w' ⟨g1, g2⟩ => ⟨by rw [g1]; exact ret_bool (same_selfP ap), g2⟩
            have k0 : X8.cell? ⟨n8, 0, none⟩ = some (.slice z1 ap.frags.length z2) := cellB p8 0
            have k1 : X8.cell? ⟨n8, 1, none⟩ = some (.slice z3 ap.defs.length z4) := cellB p8 1
            have l8 : n8 < X8.heap.size := (Array.getElem?_eq_some_iff.1 p8).1
            have lbx : bx < X8.heap.size := World.block_lt_of_cell? _ _ q0
            have lby : by_ < X8.heap.size := World.block_lt_of_cell? _ _ r0
            have hms : ((l.length : Int) - 1) = (nx : Int) := by omega
            have hnx0 : (0 : Int) ≤ (nx : Int) := by omega
            have e1 : ((xl.length : Int) == (nx : Int) + 1) = true := by rw [beq_iff_eq]; omega
            have e2 : ((yl.length : Int) == (nx : Int) + 1) = true := by rw [beq_iff_eq]; omega
            have i1 : (nx : Int) < (xl.length : Int) := by omega
            have i2 : (nx : Int) < (yl.length : Int) := by omega
            have hnx23 : nx ≤ 23 := by omega
            clear F1 F2 G1 G2 hF hG hxl hyl hxe hye hnx hlm' HX8 HY8 HA8 p8 hlm hl2 hl0 hl23
            generalize xl.length = mx at *
            generalize yl.length = my at *
            go_upto_region 12 with fail
            refine wp_region_lat (by kernel_rfl) (by kernel_rfl) ?_
            intro hne
            repeat (go_big_quiet_step ((go_at_call 16; refine lat_of (KS.out _ _ _ _ _ ?_ (Lat.below _)); first | exact SX | exact SY)))
            refine wpQuiet_nil ?_
            intro w9 hb9
            have Hb9 : Hid (Below X8.heap.size X8 w9) := lat_out hb9
            clear hb9
            go_wp2_with fail
            go_ret
            exact ⟨rfl, HB8.out.trans (Hb9.out.mono HB8.out.size)⟩
          · have hff' : ff = 10 := by omega
            subst hff'
            subst hee
            subst hag
            clear F1 F2 G1 G2 hF hG hff
            go_wp2_with fail
            go_ret
            exact ⟨rfl, HB8.out⟩
        · have hee' : ee = 10 := by omega
          subst hee'
          subst hag
          clear F1 F2 G1 G2 hF hee
          rcases hG with rfl | rfl
          · go_wp2_with fail
            go_ret
            exact ⟨rfl, HB8.out⟩
          · go_wp2_with fail
            go_ret
            exact ⟨rfl, HB8.out⟩
      · have hee : ¬ ee = 0 := fun h => hag (F1 h).1
        have hff : ¬ ff = 0 := fun h => hag (G1 h).1
        have be : (ee == 0) = false := by simpa using hee
        have ba : (ag == 0) = false := by simpa using hag
        have KF : Hid (∀ e : Int, ¬ e = 0 → Calls Try.prog 17 #[.int .i64 e] X8 fun r w' => r = .returned (.bool true) ∧ X8 = w') := fun e he => (fitsE_any e X8).mono fun r w' ⟨g1, g2⟩ => ⟨by rw [g1]; exact ret_bool (by simpa using he), g2⟩
        have HEE : Hid (¬ ee = 0) := hee
        have HFF : Hid (¬ ff = 0) := hff
        clear F1 F2 G1 G2 hee hff hag
        go_wp2_with (go_at_call 17; refine (KF.out _ (by first | exact HEE.out | exact HFF.out)).mono ?_; rintro e w9 ⟨rfl, rfl⟩)
        go_ret
        exact ⟨rfl, HB8.out⟩
    · subst her
      have hne : (fr != 0) = true := by simpa using hfr
      clear HOk HOk2 hfr
      go_upto_region 4 with (go_at_call 7; refine (KP.out _).mono ?_; rintro e w3 ⟨rfl, hb3⟩)
      go_wp2_with (go_at_call 7; refine (KP.out _).mono ?_; rintro e w4 ⟨rfl, hb4⟩)
      go_ret
      exact ⟨rfl, HB2.out.trans ((hb3.trans (hb4.mono hb3.size)).mono HB2.out.size)⟩
  · have hne : (er != 0) = true := by simpa using her
    clear HOk HOk2 her
    go_upto_region 4 with (go_at_call 7; refine (KP.out _).mono ?_; rintro e w3 ⟨rfl, hb3⟩)
    go_wp2_with (go_at_call 7; refine (KP.out _).mono ?_; rintro e w4 ⟨rfl, hb4⟩)
    go_ret
    exact ⟨rfl, HB2.out.trans ((hb3.trans (hb4.mono hb3.size)).mono HB2.out.size)⟩

end Go.Proofs.Ytohcimggpmcaeaa
