/-
  The law PlanSays: whatever the plan, the parts, the number, the picks and what is done, it returns true.
-/
import Derived.Test.YthdckapdhcpaoaaGreatDoorPlMk
import Derived.Test.YthdckapdhcpaoaaGreatDoorPlFact
import Derived.Test.YthdckapdhcpaoaaGreatDoorPlReady
import Derived.Test.YthdckapdhcpaoaaGreatDoorLyEqI
import Derived.Test.YthdckapdhcpaoaaGreatDoorRefCheck
import Derived.Test.YthdckapdhcpaoaaGreatDoorRefPlEq
import Derived.Test.YthdckapdhcpaoaaGreatDoorPlSo
import Derived.Test.YthdckapdhcpaoaaGreatDoorRefPlMade
import Derived.Test.YthdckapdhcpaoaaGreatDoorRefPlEval
import Derived.Deep.DeepCutAuto
import Derived.Deep.CutBlock
namespace Go.Proofs.YthdckapdhcpaoaaGreatDoor
open Go Go.RowKit
set_option linter.unusedVariables false

theorem sameInts_self : ∀ l : List Int, sameInts l l = true
  | [] => rfl
  | x :: l => by
    show ((x == x) && sameInts l l) = true
    rw [sameInts_self l]; simp
theorem sameParts_self : ∀ l : List M.Prt, M.allTwo M.samePart l l = true
  | [] => rfl
  | x :: l => by
    show (M.samePart x x && M.allTwo M.samePart l l) = true
    rw [sameParts_self l, same_selfP x]; rfl

theorem plan_ok {l : List M.Nd} {k : Nat} (h : M.checkPlan l k = 0) : k ≤ 12 ∧ l.length ≤ 23 ∧ M.fitsFrom k 0 l = true := by
  unfold M.checkPlan at h
  split at h
  · exact absurd h (by decide)
  rename_i h1
  split at h
  · exact absurd h (by decide)
  split at h
  · exact absurd h (by decide)
  split at h
  · exact absurd h (by decide)
  rename_i h2 h3 h4
  have hf := (M.fewParts_iff (k : Int)).1 (by simpa using h1)
  exact ⟨by omega, by omega, by simpa using h4⟩

/-- the parts, one by one -/
theorem each_step {ps : List M.Prt} {k : Nat} (hk : k < ps.length) : M.checkEach (ps.drop k) = if M.checkPart (ps.getD k M.nil) = 0 then M.checkEach (ps.drop (k + 1)) else M.checkPart (ps.getD k M.nil) := by
  rw [drop_getD ps M.nil k hk]; rfl

set_option maxHeartbeats 16000000 in
set_option maxRecDepth 100000 in
theorem says_law (l : List M.Nd) (parts : List M.Prt) (n : Int) (picks : List Int) (done : List Bool) (a0 a1 a3 a4 : Option Addr) (c0 c1 c3 c4 : Nat) (w : World) (h0 : NodesAt w (.slice a0 l.length c0) l) (h1 : PartsAt w (.slice a1 parts.length c1) parts) (h3 : IntsAt w (.slice a3 picks.length c3) picks) (hc3 : picks.length ≤ c3) (h4 : BoolsAt w (.slice a4 done.length c4) done) :
    Calls Tryz.prog 3 #[.slice a0 l.length c0, .slice a1 parts.length c1, .int .i64 n, .slice a3 picks.length c3, .slice a4 done.length c4] w fun e w' => e = .returned (.bool true) ∧ Below w.heap.size w w' := by
  have hpl : parts.length ≤ maxLen := by obtain ⟨_, h, _⟩ := h1; obtain ⟨_, _, _, h⟩ := h.form; exact h
  unfold maxLen at hpl
  have KM : Hid (Calls Tryz.prog 4 #[.int .i64 n, .slice a3 picks.length c3] w fun e w' => Below w.heap.size w w' ∧ ∃ a c, e = .returned (.tuple #[.slice a (M.make n picks).length c, .int .i64 (M.makeE n picks)]) ∧ NodesAt w' (.slice a (M.make n picks).length c) (M.make n picks) ∧ (M.make n picks).length ≤ c) := make_v n picks a3 c3 w h3
  have KE : Hid (∀ W, Below w.heap.size w W → Calls Tryz.prog 5 #[.slice a0 l.length c0, .slice a1 parts.length c1] W fun e w' => ∃ v, e = .returned (.tuple #[v, .int .i64 (M.eval l parts).2]) ∧ EvOut W w' v (M.eval l parts).1) := fun W hW => eval_any l parts a0 a1 c0 c1 W (h0.later hW) (h1.later hW)
  have KR : Hid (∀ W, Below w.heap.size w W → Calls Tryz.prog 6 #[.slice a0 l.length c0, .int .i64 parts.length, .slice a4 done.length c4] W fun e w' => Below W.heap.size W w' ∧ ∃ a c, e = .returned (.tuple #[.slice a (if M.readyE l parts.length done = 0 then M.ready l done else []).length c, .int .i64 (M.readyE l parts.length done)]) ∧ IntsAt w' (.slice a (if M.readyE l parts.length done = 0 then M.ready l done else []).length c) (if M.readyE l parts.length done = 0 then M.ready l done else [])) := fun W hW =>
    (ready_any l parts.length done a0 a4 c0 c4 W (h0.later hW) (h4.later hW)).mono fun e w' ⟨g1, v, g2, g3⟩ => by
      obtain ⟨a, c, rfl⟩ := own_len g3
      exact ⟨g1, a, c, g2, row_ints g3⟩
  have KP : Hid (∀ W, Calls Tryz.prog 8 #[] W fun e w' => e = .returned (.bool true) ∧ Below W.heap.size W w') := fun W => planned_true W
  have KC : Hid (∀ W k, Below w.heap.size w W → Calls Tryz.prog 9 #[.slice a0 l.length c0, .int .i64 k] W fun e w' => e = .returned (.int .i64 (M.checkPlan l k)) ∧ Below W.heap.size W w') := fun W k hW => planCheck_any l k a0 c0 W (h0.later hW)
  have KRC : Hid (∀ W k, Below w.heap.size w W → Calls Tryz.prog 7 #[.slice a0 l.length c0, .int .i64 k] W fun e w' => e = .returned (.int .i64 (M.checkPlan l k)) ∧ Below W.heap.size W w') := fun W k hW => rcheckPlan_any l k a0 c0 W (h0.later hW)
  have HN0 : Hid (∀ W, Below w.heap.size w W → NodesAt W (.slice a0 l.length c0) l) := fun W hW => h0.later hW
  have HP0 : Hid (∀ W, Below w.heap.size w W → PartsAt W (.slice a1 parts.length c1) parts) := fun W hW => h1.later hW
  have HI0 : Hid (∀ W, Below w.heap.size w W → IntsAt W (.slice a3 picks.length c3) picks) := fun W hW => h3.later hW
  have HD0 : Hid (∀ W, Below w.heap.size w W → BoolsAt W (.slice a4 done.length c4) done) := fun W hW => h4.later hW
  have HC3 : Hid (picks.length ≤ c3) := hc3
  have hpk : picks.length ≤ maxLen := by obtain ⟨_, _, _, h, _⟩ := h3; exact h
  have hdn : done.length ≤ maxLen := by obtain ⟨_, _, _, h, _⟩ := h4; exact h
  have hln : l.length ≤ maxLen := by obtain ⟨_, _, _, h, _⟩ := h0; exact h
  unfold maxLen at hpk hdn hln
  have HME : Hid (M.makeE n picks = if M.fewParts n = false then 3 else if 23 < picks.length then 2 else 0) := rfl
  have HMK : Hid (M.makeE n picks = 0 → ∃ k : Nat, n = (k : Int) ∧ 1 ≤ k ∧ k ≤ 12 ∧ picks.length ≤ 23 ∧ M.make n picks = M.makeL k picks) := fun h => make_ok h
  have HM0 : Hid (¬ M.makeE n picks = 0 → M.make n picks = []) := fun h => by rw [M.make, if_neg h]
  have HEV : Hid (M.eval l parts = if M.checkPlan l parts.length = 0 then (if M.checkEach parts = 0 then M.evalGo parts [] l else ([], M.checkEach parts)) else ([], M.checkPlan l parts.length)) := rfl
  have HRE : Hid (M.readyE l parts.length done = if M.checkPlan l parts.length = 0 then (if done.length = l.length then 0 else 4) else M.checkPlan l parts.length) := rfl
  clear h0 h1 h3 h4 hc3
  generalize M.make n picks = m at *
  generalize M.makeE n picks = me at *
  generalize M.eval l parts = EV at *
  obtain ⟨ev, ee⟩ := EV
  generalize M.readyE l parts.length done = re at *
  generalize hrl : (if re = 0 then M.ready l done else []) = rl at *
  have HRL : Hid (rl = if re = 0 then M.ready l done else []) := hrl.symm
  clear hrl
  simp only at KE
  go_enter Tryz.func3, Tryz.ntmps3
  go_upto_region 2 with (go_at_call 4; refine KM.out.mono ?_; rintro e w1 ⟨hb1, a5, c5, rfl, hN, hc5⟩)
  have HB1 : Hid (Below w.heap.size w w1) := hb1
  have HN1 : Hid (NodesAt w1 (.slice a5 m.length c5) m) := hN
  clear hb1 hN KM hc5
  go_upto_region 3 with (go_at_call 5; refine (KE.out _ HB1.out).mono ?_; rintro e w2 ⟨v6, rfl, hO⟩; obtain ⟨a6, c6, rfl, hP⟩ := hO.parts)
  have hb2 := hO.below
  have HB2 : Hid (Below w.heap.size w w2) := HB1.out.trans (hb2.mono HB1.out.size)
  have HN2 : Hid (NodesAt w2 (.slice a5 m.length c5) m) := HN1.out.later hb2
  have HV2 : Hid (PartsAt w2 (.slice a6 ev.length c6) ev) := hP
  clear hb2 hO hP KE HB1 HN1
  go_upto_region 4 with (go_at_call 6; refine (KR.out _ HB2.out).mono ?_; rintro e w3 ⟨hb3, a7, c7, rfl, hI⟩)
  have HB3 : Hid (Below w.heap.size w w3) := HB2.out.trans (hb3.mono HB2.out.size)
  have HN3 : Hid (NodesAt w3 (.slice a5 m.length c5) m) := HN2.out.later hb3
  have HV3 : Hid (PartsAt w3 (.slice a6 ev.length c6) ev) := HV2.out.later hb3
  have HR3 : Hid (IntsAt w3 (.slice a7 rl.length c7) rl) := hI
  clear hb3 hI KR HB2 HN2 HV2
  go_upto_region 5 with (go_at_call 7; refine (KRC.out _ _ HB3.out).mono ?_; rintro e w4 ⟨rfl, hb4⟩)
  replace HB3 : Hid (Below w.heap.size w w4 ∧ Below w3.heap.size w3 w4) := ⟨HB3.out.trans (hb4.mono HB3.out.size), hb4⟩
  clear hb4
  go_upto_block 0 with (first
    | (go_at_call 8; refine (KP.out _).mono ?_; rintro e w5 ⟨rfl, hb5⟩; replace HB3 : Hid (Below w.heap.size w w5 ∧ Below w3.heap.size w3 w5) := ⟨HB3.out.1.trans (hb5.mono HB3.out.1.size), HB3.out.2.trans (hb5.mono HB3.out.2.size)⟩; clear hb5)
    | (go_at_call 9; refine (KC.out _ _ HB3.out.1).mono ?_; rintro e w5 ⟨rfl, hb5⟩; replace HB3 : Hid (Below w.heap.size w w5 ∧ Below w3.heap.size w3 w5) := ⟨HB3.out.1.trans (hb5.mono HB3.out.1.size), HB3.out.2.trans (hb5.mono HB3.out.2.size)⟩; clear hb5)
    | (go_at_call 7; refine (KRC.out _ _ HB3.out.1).mono ?_; rintro e w5 ⟨rfl, hb5⟩; replace HB3 : Hid (Below w.heap.size w w5 ∧ Below w3.heap.size w3 w5) := ⟨HB3.out.1.trans (hb5.mono HB3.out.1.size), HB3.out.2.trans (hb5.mono HB3.out.2.size)⟩; clear hb5))
  rename World => w9
  have HN9 : Hid (NodesAt w9 (.slice a5 m.length c5) m) := HN3.out.later HB3.out.2
  have HV9 : Hid (PartsAt w9 (.slice a6 ev.length c6) ev) := HV3.out.later HB3.out.2
  have HR9 : Hid (IntsAt w9 (.slice a7 rl.length c7) rl) := HR3.out.later HB3.out.2
  have HB9 : Hid (Below w.heap.size w w9) := HB3.out.1
  clear HB3 HN3 HV3 HR3 KP KC KRC
  go_cut [66, 80, 91] (fun s66 s80 s91 wx => Hid (Below w9.heap.size w9 wx))
  case first =>
    by_cases hfp : M.fewParts n = false
    · obtain rfl : me = 3 := by have := HME.out; rwa [if_pos hfp] at this
      obtain rfl : m = [] := HM0.out (by decide)
      have hn : ¬ (1 ≤ n ∧ n ≤ 12) := fun h => by rw [(M.fewParts_iff n).2 h] at hfp; cases hfp
      clear HME HMK HM0 hfp HEV HRE HRL
      by_cases hn1 : n < 1
      · clear hn
        go_wp2_with fail
        go_meet
        exact Below.refl _ _
      · have hn2 : 12 < n := by omega
        clear hn
        go_wp2_with fail
        go_meet
        exact Below.refl _ _
    · have hn := (M.fewParts_iff n).1 (by simpa using hfp)
      have hn1 : ¬ n < 1 := by omega
      have hn2 : ¬ 12 < n := by omega
      by_cases h23 : 23 < picks.length
      · obtain rfl : me = 2 := by have := HME.out; rwa [if_neg hfp, if_pos h23] at this
        obtain rfl : m = [] := HM0.out (by decide)
        have h23i : (23 : Int) < (picks.length : Int) := by omega
        clear HME HMK HM0 hfp HEV HRE HRL hn h23
        go_wp2_with fail
        go_meet
        exact Below.refl _ _
      · obtain rfl : me = 0 := by have := HME.out; rwa [if_neg hfp, if_neg h23] at this
        obtain ⟨k, rfl, hk1, hk12, hp23, hmk⟩ := HMK.out rfl
        have KPl : Hid (Calls Tryz.prog 11 #[.int .i64 k, .slice a3 picks.length c3] w9 fun e w' => Below w9.heap.size w9 w' ∧ ∃ a c, e = .returned (.slice a m.length c) ∧ NodesAt w' (.slice a m.length c) m) := by
          have := planned_any k picks a3 c3 w9 (HI0.out w9 HB9.out) HC3.out hk1 hk12 hp23
          rw [← hmk] at this
          exact this
        have KQ : Hid (∀ W b d, NodesAt W (.slice b m.length d) m → Below w9.heap.size w9 W → Calls Tryz.prog 10 #[.slice a5 m.length c5, .slice b m.length d] W fun e w' => e = .returned (.bool true) ∧ Below W.heap.size W w') := fun W b d h hW =>
          (eqNodes_any m m a5 b c5 d W (HN9.out.later hW) h).mono fun e w' ⟨g1, g2⟩ => ⟨by rw [g1]; exact ret_bool (sameNd_self m), g2⟩
        have h23i : ¬ (23 : Int) < (picks.length : Int) := by omega
        clear HME HMK HM0 hfp HEV HRE HRL hn h23 hmk hp23
        go_wp2_with (first
          | (go_at_call 11; refine KPl.out.mono ?_; rintro e x1 ⟨hx1, a8, c8, rfl, hN8⟩)
          | (go_at_call 10; refine (KQ.out _ _ _ hN8 hx1).mono ?_; rintro e x2 ⟨rfl, hx2⟩))
        go_meet
        exact hx1.trans (hx2.mono hx1.size)
  case rest =>
    have hcut' := hcut
    clear hcut HI0 HME HMK HM0 HN9
    have HB10 : Hid (Below w.heap.size w wc) := HB9.out.trans (hcut'.out.mono HB9.out.size)
    have HV10 : Hid (PartsAt wc (.slice a6 ev.length c6) ev) := HV9.out.later hcut'.out
    have HR10 : Hid (IntsAt wc (.slice a7 rl.length c7) rl) := HR9.out.later hcut'.out
    clear hcut' HB9 HV9 HR9
    by_cases hbad : M.checkPlan l parts.length = 0
    · obtain ⟨hk12, h23, hfit⟩ := plan_ok hbad
      have HFit : Hid (M.fitsFrom parts.length 0 l = true) := hfit
      have HEV1 : Hid ((ev, ee) = if M.checkEach parts = 0 then M.evalGo parts [] l else ([], M.checkEach parts)) := by rw [Hid, HEV.out, if_pos hbad]
      have HRE1 : Hid (re = if done.length = l.length then 0 else 4) := by rw [Hid, HRE.out, if_pos hbad]
      clear HEV HRE hfit
      generalize M.checkPlan l parts.length = bad at *
      subst hbad
      go_upto_if 124 with fail
      go_cut [] (fun wx => Hid (Below wc.heap.size wc wx))
      case first =>
        by_cases hd : done.length = l.length
        · obtain rfl : re = 0 := by have := HRE1.out; rwa [if_pos hd] at this
          have hrl : rl = M.ready l done := by have := HRL.out; rwa [if_pos rfl] at this
          have KI : Hid (Calls Tryz.prog 13 #[.slice a0 l.length c0, .slice a4 done.length c4] wc fun e w' => Below wc.heap.size wc w' ∧ ∃ a c, e = .returned (.slice a rl.length c) ∧ IntsAt w' (.slice a rl.length c) rl) :=
            (isReady_any l parts.length done a0 a4 c0 c4 wc (HN0.out wc HB10.out) (HD0.out wc HB10.out) hd HFit.out h23).mono fun e w' ⟨g1, v, g2, g3⟩ => by
              rw [← hrl] at g3
              obtain ⟨a, c, rfl⟩ := own_len g3
              exact ⟨g1, a, c, g2, row_ints g3⟩
          have KQ : Hid (∀ W b d, IntsAt W (.slice b rl.length d) rl → Below wc.heap.size wc W → Calls Tryz.prog 12 #[.slice a7 rl.length c7, .slice b rl.length d] W fun e w' => e = .returned (.bool true) ∧ Below W.heap.size W w') := fun W b d h hW =>
            (equalI_any rl rl a7 b c7 d W (HR10.out.later hW) h).mono fun e w' ⟨g1, g2⟩ => ⟨by rw [g1]; exact ret_bool (sameInts_self rl), g2⟩
          have hdi : ((done.length : Int) != (l.length : Int)) = false := by simp; omega
          clear HRE1 HRL hrl hd HEV1
          go_wp2_with (first
            | (go_at_call 13; refine KI.out.mono ?_; rintro e x1 ⟨hx1, a8, c8, rfl, hN8⟩)
            | (go_at_call 12; refine (KQ.out _ _ _ hN8 hx1).mono ?_; rintro e x2 ⟨rfl, hx2⟩))
          go_meet
          exact hx1.trans (hx2.mono hx1.size)
        · obtain rfl : re = 4 := by have := HRE1.out; rwa [if_neg hd] at this
          obtain rfl : rl = [] := by have := HRL.out; rwa [if_neg (by decide)] at this
          have hdi : ((done.length : Int) != (l.length : Int)) = true := by simp; omega
          clear HRE1 HRL hd HEV1
          go_wp2_with fail
          go_meet
          exact Below.refl _ _
      case rest =>
        have hcut' := hcut
        clear hcut HRE1 HRL HD0
        rename World => W0
        have HB11 : Hid (Below w.heap.size w W0) := HB10.out.trans (hcut'.out.mono HB10.out.size)
        have HV11 : Hid (PartsAt W0 (.slice a6 ev.length c6) ev) := HV10.out.later hcut'.out
        clear hcut' HB10 HV10 HR10
        go_wp2_with fail
        go_loopw [144] (fun s144 wr => ∃ (k : Nat), k ≤ parts.length ∧ s144 = .int .i64 k ∧ Hid (M.checkEach parts = M.checkEach (parts.drop k)) ∧ Hid (Below W0.heap.size W0 wr)) (fun s144 _ => parts.length - (intOf s144).toNat)
        case atStart => exact ⟨0, Nat.zero_le _, rfl, rfl, Below.refl _ _⟩
        case round =>
          obtain ⟨k, hk, rfl, HE, HBr⟩ := hrel
          have HB : Hid (Below w.heap.size w wr) := HB11.out.trans (HBr.out.mono HB11.out.size)
          by_cases hlt : k < parts.length
          · obtain ⟨b, off, x3, y3, x4, y4, rfl, e0, e1, hS⟩ := parts_cell (HP0.out wr HB.out) rfl k hlt
            have hbr : b < wr.heap.size := World.block_lt_of_cell? _ _ e0
            have hkl : (k : Int) < (parts.length : Int) := by omega
            have HE1 : Hid (M.checkEach parts = if M.checkPart (parts.getD k M.nil) = 0 then M.checkEach (parts.drop (k + 1)) else M.checkPart (parts.getD k M.nil)) := by rw [Hid, HE.out, each_step hlt]
            clear HE
            generalize parts.getD k M.nil = q at *
            have HA : Hid (Below wr.heap.size wr (wr.alloc (.cells #[.slice x3 q.frags.length y3, .slice x4 q.defs.length y4] 44))) := (Below.refl _ _).alloc (Nat.le_refl _) _
            have HBA : Hid (Below W0.heap.size W0 (wr.alloc (.cells #[.slice x3 q.frags.length y3, .slice x4 q.defs.length y4] 44))) := HBr.out.trans (HA.out.mono HBr.out.size)
            have KP : Hid (Calls Tryz.prog 14 #[.agg #[.slice x3 q.frags.length y3, .slice x4 q.defs.length y4]] (wr.alloc (.cells #[.slice x3 q.frags.length y3, .slice x4 q.defs.length y4] 44)) fun e w' => e = .returned (.int .i64 (M.checkPart q)) ∧ Below (wr.alloc (.cells #[.slice x3 q.frags.length y3, .slice x4 q.defs.length y4] 44)).heap.size (wr.alloc (.cells #[.slice x3 q.frags.length y3, .slice x4 q.defs.length y4] 44)) w') := rcheck_any _ _ _ _ _ _ _ (hS.fr.later HA.out) (hS.df.later HA.out)
            by_cases hq : M.checkPart q = 0
            · have HE2 : Hid (M.checkEach parts = M.checkEach (parts.drop (k + 1))) := by rw [Hid, HE1.out, if_pos hq]
              rw [hq] at KP
              clear HE1 hS hq
              go_wp2_with (go_at_call 14; refine KP.out.mono ?_; rintro e x1 ⟨rfl, hx1⟩)
              go_roundw
              case rel => exact ⟨k + 1, by omega, by go_num, HE2, HBA.out.trans (hx1.mono HBA.out.size)⟩
              case measure => simp [intOf]; omega
            · have HR : (ev, ee) = ([], M.checkPart q) := by
                have h1 : M.checkEach parts = M.checkPart q := by rw [HE1.out, if_neg hq]
                rw [HEV1.out, h1, if_neg hq]
              obtain ⟨rfl, rfl⟩ : ev = [] ∧ ee = M.checkPart q := by rw [Prod.mk.injEq] at HR; exact HR
              have hne : (M.checkPart q != 0) = true := by simpa using hq
              clear HE1 hS hq HR HEV1
              generalize M.checkPart q = er at *
              go_wp2_with (go_at_call 14; refine KP.out.mono ?_; rintro e x1 ⟨rfl, hx1⟩)
              go_ret
              exact ⟨rfl, HB11.out.trans ((HBA.out.trans (hx1.mono HBA.out.size)).mono HB11.out.size)⟩
          · have hkl : k = parts.length := by omega
            have HE1 : M.checkEach parts = 0 := by rw [HE.out, hkl, List.drop_eq_nil_of_le (Nat.le_refl _)]; rfl
            have HR : (ev, ee) = M.evalGo parts [] l := by rw [HEV1.out, if_pos HE1]
            have KEv : Hid (Calls Tryz.prog 15 #[.slice a0 l.length c0, .slice a1 parts.length c1] wr fun e w' => Below wr.heap.size wr w' ∧ ∃ a c, e = .returned (.tuple #[.slice a ev.length c, .int .i64 ee]) ∧ PartsAt w' (.slice a ev.length c) ev) := by
              have := evaluated_any l parts a0 a1 c0 c1 wr (HN0.out wr HB.out) (HP0.out wr HB.out) HFit.out h23 hk12 ((M.checkEach_ok parts).1 HE1)
              rw [← HR] at this
              exact this
            have KQ : Hid (∀ W b d, PartsAt W (.slice b ev.length d) ev → Below wr.heap.size wr W → Calls Tryz.prog 16 #[.slice a6 ev.length c6, .slice b ev.length d, .func (.func 17) #[] #[]] W fun e w' => e = .returned (.bool true) ∧ Below W.heap.size W w') := fun W b d h hW =>
              (equalPartsR_any ev ev a6 b c6 d W ((HV11.out.later HBr.out).later hW) h).mono fun e w' ⟨g1, g2⟩ => ⟨by rw [g1]; exact ret_bool (sameParts_self ev), g2⟩
            clear HE HE1 HR HEV1 HFit
            subst hkl
            go_wp2_with (first
              | (go_at_call 15; refine KEv.out.mono ?_; rintro e x1 ⟨hx1, a8, c8, rfl, hN8⟩)
              | (go_at_call 16; refine (KQ.out _ _ _ hN8 hx1).mono ?_; rintro e x2 ⟨rfl, hx2⟩))
            go_ret
            exact ⟨rfl, HB.out.trans ((hx1.trans (hx2.mono hx1.size)).mono HB.out.size)⟩
    · have hne : (M.checkPlan l parts.length != 0) = true := by simpa using hbad
      obtain rfl : re = M.checkPlan l parts.length := by have := HRE.out; rwa [if_neg hbad] at this
      obtain rfl : rl = [] := by have := HRL.out; rwa [if_neg hbad] at this
      have HR : (ev, ee) = ([], M.checkPlan l parts.length) := by rw [HEV.out, if_neg hbad]
      obtain ⟨rfl, rfl⟩ : ev = [] ∧ ee = M.checkPlan l parts.length := by rw [Prod.mk.injEq] at HR; exact HR
      clear HEV HRE HRL HR hbad
      generalize M.checkPlan l parts.length = bad at *
      go_wp2_with fail
      go_ret
      exact ⟨rfl, HB10.out⟩

end Go.Proofs.YthdckapdhcpaoaaGreatDoor
