/-
  The law ScriptSays returns true, whatever the part and the text.
-/
import Derived.Test.YthiknlnhdjoipaaGreatDoorRefRd
import Derived.Test.YthiknlnhdjoipaaGreatDoorRefText
import Derived.Test.YthiknlnhdjoipaaGreatDoorRefSame
import Derived.Test.YthiknlnhdjoipaaGreatDoorRefCheck
import Derived.Test.YthiknlnhdjoipaaGreatDoorScMB
import Derived.Test.YthiknlnhdjoipaaGreatDoorScMA
import Derived.Deep.DeepCutAuto
namespace Go.Proofs.YthiknlnhdjoipaaGreatDoor
open Go Go.RowKit
set_option linter.unusedVariables false
attribute [local go_sem] lat_cell

set_option maxHeartbeats 4000000 in
set_option maxRecDepth 100000 in
theorem says_ok_long (fs : List M.Frg) (ds : List M.Dfn) (a1 a2 : Option Addr) (c1 c2 : Nat) (t : M.Txt) (w : World) (hG : Glob w) (hBk : Blanks w) (hf : FragsAt w (.slice a1 fs.length c1) fs) (hd : DefsAt w (.slice a2 ds.length c2) ds) (ht : t.length ≤ maxLen) (hck : M.checkPart ⟨fs, ds⟩ = 0) (hl : 20000 < t.length) :
    Calls Tryz.prog 3 #[.agg #[.slice a1 fs.length c1, .slice a2 ds.length c2], .string (M.str t)] w fun e w' => e = .returned (.bool true) ∧ Below w.heap.size w w' := by
  have K1 : Hid (∀ W, Below w.heap.size w W → Calls Tryz.prog 4 #[.agg #[.slice a1 fs.length c1, .slice a2 ds.length c2]] W fun e w' => e = .returned (.tuple #[.string (M.str (if M.checkPart ⟨fs, ds⟩ = 0 then M.print ⟨fs, ds⟩ else [])), .int .i64 (M.checkPart ⟨fs, ds⟩)]) ∧ Below W.heap.size W w') := fun W hW =>
    print_any fs ds a1 a2 c1 c2 W (hG.later hW) (hf.later hW) (hd.later hW)
  have K2 : Hid (∀ W, Below w.heap.size w W → Calls Tryz.prog 5 #[.string (M.str t)] W (Reads W (readAll t))) := fun W hW => parse_any t W (hG.later hW) ht
  have K3 : Hid (∀ W, Below w.heap.size w W → Calls Tryz.prog 7 #[] W fun e w' => e = .returned (.bool true) ∧ Below W.heap.size W w') := fun W hW => typed_any W (hG.later hW)
  have K4 : Hid (∀ W, Below w.heap.size w W → Calls Tryz.prog 6 #[.agg #[.slice a1 fs.length c1, .slice a2 ds.length c2]] W fun e w' => e = .returned (.int .i64 (M.checkPart ⟨fs, ds⟩)) ∧ Below W.heap.size W w') := fun W hW => rcheck_any fs ds a1 a2 c1 c2 W (hf.later hW) (hd.later hW)
  have K5 : Hid (∀ W, Below w.heap.size w W → Calls Tryz.prog 8 #[.agg #[.slice a1 fs.length c1, .slice a2 ds.length c2]] W fun e w' => e = .returned (.string (M.str (M.print ⟨fs, ds⟩))) ∧ Below W.heap.size W w') := fun W hW => rtext_any fs ds a1 a2 c1 c2 W (hG.later hW) (hBk.later hG hW) (hf.later hW) (hd.later hW) hck
  rw [if_pos hck, hck] at K1
  rw [hck] at K4
  generalize M.print ⟨fs, ds⟩ = pt at *
  have hr : readAll t = (M.nil, 0, 2) := by rw [readAll, if_pos hl]
  rw [hr] at K2
  have hli : (20000 : Int) < (t.length : Int) := by omega
  have hld : decide ((20000 : Int) < (t.length : Int)) = true := by simp; omega
  have K2 : Hid (∀ W, Below w.heap.size w W → Calls Tryz.prog 5 #[.string (M.str t)] W fun e w' => Below W.heap.size W w' ∧ ∃ b1 d1 b2 d2, e = .returned (.tuple #[.agg #[.slice b1 0 d1, .slice b2 0 d2], .int .i64 0, .int .i64 2]) ∧ FragsAt w' (.slice b1 0 d1) [] ∧ DefsAt w' (.slice b2 0 d2) []) := K2
  have hsz : (M.str t).size = t.length := str_size t
  have KS : Hid (∀ W b1 d1 b2 d2 e1 f1 e2 f2, FragsAt W (.slice b1 0 d1) [] → DefsAt W (.slice b2 0 d2) [] → FragsAt W (.slice e1 0 f1) [] → DefsAt W (.slice e2 0 f2) [] → Calls Tryz.prog 9 #[.agg #[.slice b1 0 d1, .slice b2 0 d2], .agg #[.slice e1 0 f1, .slice e2 0 f2]] W fun e w' => e = .returned (.bool true) ∧ Below W.heap.size W w') := fun W b1 d1 b2 d2 e1 f1 e2 f2 h1 h2 h3 h4 => by
    have := rsame_any [] [] [] [] b1 b2 e1 e2 d1 d2 f1 f2 W h1 h2 h3 h4
    rwa [same_selfS] at this
  clear hf hd hck hl ht hr
  generalize fs.length = l1 at *
  generalize ds.length = l2 at *
  go_enter Tryz.func3, Tryz.ntmps3
  go_upto_region 2 with (go_at_call 4; refine (K1.out _ ((Below.refl _ _).alloc (Nat.le_refl _) _)).mono ?_; rintro e x1 ⟨rfl, hb1⟩)
  have q1 : x1.heap[w.heap.size]? = some (.cells #[.slice a1 l1 c1, .slice a2 l2 c2] 25 (0, 0)) := (hb1.block _ (by simp)).trans (heap_alloc_new _ _)
  have HX1 : Hid (Below w.heap.size w x1) := ((Below.refl _ _).alloc (Nat.le_refl _) _).trans (hb1.mono (by simp))
  clear hb1 K1
  obtain ⟨bp, hbp⟩ : ∃ bp, Hid (bp = w.heap.size) := ⟨_, rfl⟩
  rw [← hbp.out] at q1 ⊢
  go_upto_region 3 with (go_at_call 5; refine (K2.out _ HX1.out).mono ?_; rintro e x2 ⟨hb2, b1, d1, b2, d2, rfl, hfq, hdq⟩)
  have HX2 : Hid (Below w.heap.size w x2) := HX1.out.trans (hb2.mono HX1.out.size)
  have q2 := (hb2.block _ (Array.getElem?_eq_some_iff.1 q1).1).trans q1
  have hA := (Below.refl x2.heap.size x2).alloc (Nat.le_refl _) (.cells #[.slice b1 0 d1, .slice b2 0 d2] 25)
  have hr2 := heap_alloc_new x2 (.cells #[.slice b1 0 d1, .slice b2 0 d2] 25)
  have HX3 : Hid (Below w.heap.size w (x2.alloc (.cells #[.slice b1 0 d1, .slice b2 0 d2] 25))) := HX2.out.alloc HX2.out.size _
  have q3 := (hA.block _ (Array.getElem?_eq_some_iff.1 q2).1).trans q2
  have HF3 : Hid (_ ∧ _) := ⟨hfq.later hA, hdq.later hA⟩
  clear hb2 hfq hdq q1 q2 HX1 HX2 K2 hA
  generalize x2.heap.size = bq at *
  generalize x2.alloc (.cells #[.slice b1 0 d1, .slice b2 0 d2] 25) = x3 at *
  have p0 : x3.cell? ⟨bp, 0, none⟩ = some (.slice a1 l1 c1) := cellB q3 0
  have p1 : x3.cell? ⟨bp, 1, none⟩ = some (.slice a2 l2 c2) := cellB q3 1
  have lp : bp < x3.heap.size := (Array.getElem?_eq_some_iff.1 q3).1
  go_upto_region 4 with (go_at_call 6; refine (K4.out _ HX3.out).mono ?_; rintro e x4 ⟨rfl, hb4⟩)
  have HX4 : Hid (Below w.heap.size w x4) := HX3.out.trans (hb4.mono HX3.out.size)
  have q4 := (hb4.block _ (Array.getElem?_eq_some_iff.1 q3).1).trans q3
  have r4 := (hb4.block _ (Array.getElem?_eq_some_iff.1 hr2).1).trans hr2
  have HF4 : Hid (_ ∧ _) := ⟨HF3.out.1.later hb4, HF3.out.2.later hb4⟩
  clear hb4 q3 hr2 HF3 HX3 K4 p0 p1 lp
  have K35 : Hid (∀ x5, Below x4.heap.size x4 x5 → x5.cell? ⟨bp, 0, none⟩ = some (.slice a1 l1 c1) ∧ x5.cell? ⟨bp, 1, none⟩ = some (.slice a2 l2 c2) ∧ Below w.heap.size w x5) := fun x5 h => ⟨cellB ((h.block _ (Array.getElem?_eq_some_iff.1 q4).1).trans q4) 0, cellB ((h.block _ (Array.getElem?_eq_some_iff.1 q4).1).trans q4) 1, HX4.out.trans (h.mono HX4.out.size)⟩
  have p0 : x4.cell? ⟨bp, 0, none⟩ = some (.slice a1 l1 c1) := cellB q4 0
  have p1 : x4.cell? ⟨bp, 1, none⟩ = some (.slice a2 l2 c2) := cellB q4 1
  have lp : bp < x4.heap.size := (Array.getElem?_eq_some_iff.1 q4).1
  go_upto_region 6 with (first | (go_at_call 7; refine (K3.out _ HX4.out).mono ?_; rintro e x5 ⟨rfl, hb5⟩; obtain ⟨p5, p6, HX5⟩ := K35.out _ hb5; have lp5 := Nat.lt_of_lt_of_le lp hb5.size) | (go_at_call 8; refine (K5.out _ HX5).mono ?_; rintro e x6 ⟨rfl, hb6⟩))
  have hb46 : Below x4.heap.size x4 x6 := hb5.trans (hb6.mono hb5.size)
  clear hb5 hb6 lp lp5 p0 p1 p5 p6 HX5 K35 K5 K3
  have HX6 : Hid (Below w.heap.size w x6) := HX4.out.trans (hb46.mono HX4.out.size)
  have r6 := (hb46.block _ (Array.getElem?_eq_some_iff.1 r4).1).trans r4
  have HF6 : Hid (FragsAt x6 (.slice b1 0 d1) [] ∧ DefsAt x6 (.slice b2 0 d2) []) := ⟨HF4.out.1.later hb46, HF4.out.2.later hb46⟩
  clear hb46 q4 r4 HF4 HX4
  have s0 : x6.cell? ⟨bq, 0, none⟩ = some (.slice b1 0 d1) := cellB r6 0
  have s1 : x6.cell? ⟨bq, 1, none⟩ = some (.slice b2 0 d2) := cellB r6 1
  have lq : bq < x6.heap.size := (Array.getElem?_eq_some_iff.1 r6).1
  have KQ : Hid (Calls Tryz.prog 9 #[.agg #[.slice b1 0 d1, .slice b2 0 d2], .agg #[.slice none 0 0, .slice none 0 0]] x6 fun e w' => e = .returned (.bool true) ∧ Below x6.heap.size x6 w') := KS.out x6 b1 d1 b2 d2 none 0 none 0 HF6.out.1 HF6.out.2 (nil_frags _) (nil_defs _)
  clear HF6 KS r6 hbp
  go_wp2_with (go_at_call 9; refine KQ.out.mono ?_; rintro e x7 ⟨rfl, hb7⟩)
  go_ret
  exact ⟨rfl, HX6.out.trans (hb7.mono HX6.out.size)⟩

set_option maxHeartbeats 4000000 in
set_option maxRecDepth 100000 in
theorem says_ok (fs : List M.Frg) (ds : List M.Dfn) (a1 a2 : Option Addr) (c1 c2 : Nat) (t : M.Txt) (w : World) (hG : Glob w) (hBk : Blanks w) (hf : FragsAt w (.slice a1 fs.length c1) fs) (hd : DefsAt w (.slice a2 ds.length c2) ds) (ht : t.length ≤ maxLen) (hck : M.checkPart ⟨fs, ds⟩ = 0) (hl : ¬ 20000 < t.length) :
    Calls Tryz.prog 3 #[.agg #[.slice a1 fs.length c1, .slice a2 ds.length c2], .string (M.str t)] w fun e w' => e = .returned (.bool true) ∧ Below w.heap.size w w' := by
  have K1 : Hid (∀ W, Below w.heap.size w W → Calls Tryz.prog 4 #[.agg #[.slice a1 fs.length c1, .slice a2 ds.length c2]] W fun e w' => e = .returned (.tuple #[.string (M.str (if M.checkPart ⟨fs, ds⟩ = 0 then M.print ⟨fs, ds⟩ else [])), .int .i64 (M.checkPart ⟨fs, ds⟩)]) ∧ Below W.heap.size W w') := fun W hW =>
    print_any fs ds a1 a2 c1 c2 W (hG.later hW) (hf.later hW) (hd.later hW)
  have K2 : Hid (∀ W, Below w.heap.size w W → Calls Tryz.prog 5 #[.string (M.str t)] W (Reads W (readAll t))) := fun W hW => parse_any t W (hG.later hW) ht
  have K3 : Hid (∀ W, Below w.heap.size w W → Calls Tryz.prog 7 #[] W fun e w' => e = .returned (.bool true) ∧ Below W.heap.size W w') := fun W hW => typed_any W (hG.later hW)
  have K4 : Hid (∀ W, Below w.heap.size w W → Calls Tryz.prog 6 #[.agg #[.slice a1 fs.length c1, .slice a2 ds.length c2]] W fun e w' => e = .returned (.int .i64 (M.checkPart ⟨fs, ds⟩)) ∧ Below W.heap.size W w') := fun W hW => rcheck_any fs ds a1 a2 c1 c2 W (hf.later hW) (hd.later hW)
  have K5 : Hid (∀ W, Below w.heap.size w W → Calls Tryz.prog 8 #[.agg #[.slice a1 fs.length c1, .slice a2 ds.length c2]] W fun e w' => e = .returned (.string (M.str (M.print ⟨fs, ds⟩))) ∧ Below W.heap.size W w') := fun W hW => rtext_any fs ds a1 a2 c1 c2 W (hG.later hW) (hBk.later hG hW) (hf.later hW) (hd.later hW) hck
  rw [if_pos hck, hck] at K1
  rw [hck] at K4
  generalize M.print ⟨fs, ds⟩ = pt at *
  have K6 : Hid (∀ W, Below w.heap.size w W → Calls Tryz.prog 10 #[.string (M.str t)] W (Reads W (readAll t))) := fun W hW => by
    rw [readAll, if_neg hl]
    exact rread_any t W (hG.later hW) (hBk.later hG hW) (by omega)
  have hli : ¬ (20000 : Int) < (t.length : Int) := by omega
  have hld : decide ((20000 : Int) < (t.length : Int)) = false := by simp; omega
  generalize readAll t = O at *
  obtain ⟨q, j, er⟩ := O
  obtain ⟨qf, qd⟩ := q
  have K2 : Hid (∀ W, Below w.heap.size w W → Calls Tryz.prog 5 #[.string (M.str t)] W fun e w' => Below W.heap.size W w' ∧ ∃ b1 d1 b2 d2, e = .returned (.tuple #[.agg #[.slice b1 qf.length d1, .slice b2 qd.length d2], .int .i64 j, .int .i64 er]) ∧ FragsAt w' (.slice b1 qf.length d1) qf ∧ DefsAt w' (.slice b2 qd.length d2) qd) := K2
  have K6 : Hid (∀ W, Below w.heap.size w W → Calls Tryz.prog 10 #[.string (M.str t)] W fun e w' => Below W.heap.size W w' ∧ ∃ b1 d1 b2 d2, e = .returned (.tuple #[.agg #[.slice b1 qf.length d1, .slice b2 qd.length d2], .int .i64 j, .int .i64 er]) ∧ FragsAt w' (.slice b1 qf.length d1) qf ∧ DefsAt w' (.slice b2 qd.length d2) qd) := K6
  have hsz : (M.str t).size = t.length := str_size t
  have KS : Hid (∀ W b1 d1 b2 d2 e1 f1 e2 f2, FragsAt W (.slice b1 qf.length d1) qf → DefsAt W (.slice b2 qd.length d2) qd → FragsAt W (.slice e1 qf.length f1) qf → DefsAt W (.slice e2 qd.length f2) qd → Calls Tryz.prog 9 #[.agg #[.slice b1 qf.length d1, .slice b2 qd.length d2], .agg #[.slice e1 qf.length f1, .slice e2 qd.length f2]] W fun e w' => e = .returned (.bool true) ∧ Below W.heap.size W w') := fun W b1 d1 b2 d2 e1 f1 e2 f2 h1 h2 h3 h4 => by
    have := rsame_any qf qf qd qd b1 b2 e1 e2 d1 d2 f1 f2 W h1 h2 h3 h4
    rwa [same_selfS] at this
  clear hf hd hck hl ht
  generalize fs.length = l1 at *
  generalize ds.length = l2 at *
  go_enter Tryz.func3, Tryz.ntmps3
  go_upto_region 2 with (go_at_call 4; refine (K1.out _ ((Below.refl _ _).alloc (Nat.le_refl _) _)).mono ?_; rintro e x1 ⟨rfl, hb1⟩)
  have q1 : x1.heap[w.heap.size]? = some (.cells #[.slice a1 l1 c1, .slice a2 l2 c2] 25 (0, 0)) := (hb1.block _ (by simp)).trans (heap_alloc_new _ _)
  have HX1 : Hid (Below w.heap.size w x1) := ((Below.refl _ _).alloc (Nat.le_refl _) _).trans (hb1.mono (by simp))
  clear hb1 K1
  obtain ⟨bp, hbp⟩ : ∃ bp, Hid (bp = w.heap.size) := ⟨_, rfl⟩
  rw [← hbp.out] at q1 ⊢
  go_upto_region 3 with (go_at_call 5; refine (K2.out _ HX1.out).mono ?_; rintro e x2 ⟨hb2, b1, d1, b2, d2, rfl, hfq, hdq⟩)
  have HX2 : Hid (Below w.heap.size w x2) := HX1.out.trans (hb2.mono HX1.out.size)
  have q2 := (hb2.block _ (Array.getElem?_eq_some_iff.1 q1).1).trans q1
  have hA := (Below.refl x2.heap.size x2).alloc (Nat.le_refl _) (.cells #[.slice b1 qf.length d1, .slice b2 qd.length d2] 25)
  have hr2 := heap_alloc_new x2 (.cells #[.slice b1 qf.length d1, .slice b2 qd.length d2] 25)
  have HX3 : Hid (Below w.heap.size w (x2.alloc (.cells #[.slice b1 qf.length d1, .slice b2 qd.length d2] 25))) := HX2.out.alloc HX2.out.size _
  have q3 := (hA.block _ (Array.getElem?_eq_some_iff.1 q2).1).trans q2
  have HF3 : Hid (_ ∧ _) := ⟨hfq.later hA, hdq.later hA⟩
  clear hb2 hfq hdq q1 q2 HX1 HX2 K2 hA
  generalize x2.heap.size = bq at *
  generalize x2.alloc (.cells #[.slice b1 qf.length d1, .slice b2 qd.length d2] 25) = x3 at *
  have p0 : x3.cell? ⟨bp, 0, none⟩ = some (.slice a1 l1 c1) := cellB q3 0
  have p1 : x3.cell? ⟨bp, 1, none⟩ = some (.slice a2 l2 c2) := cellB q3 1
  have lp : bp < x3.heap.size := (Array.getElem?_eq_some_iff.1 q3).1
  go_upto_region 4 with (go_at_call 6; refine (K4.out _ HX3.out).mono ?_; rintro e x4 ⟨rfl, hb4⟩)
  have HX4 : Hid (Below w.heap.size w x4) := HX3.out.trans (hb4.mono HX3.out.size)
  have q4 := (hb4.block _ (Array.getElem?_eq_some_iff.1 q3).1).trans q3
  have r4 := (hb4.block _ (Array.getElem?_eq_some_iff.1 hr2).1).trans hr2
  have HF4 : Hid (_ ∧ _) := ⟨HF3.out.1.later hb4, HF3.out.2.later hb4⟩
  clear hb4 q3 hr2 HF3 HX3 K4 p0 p1 lp
  have K35 : Hid (∀ x5, Below x4.heap.size x4 x5 → x5.cell? ⟨bp, 0, none⟩ = some (.slice a1 l1 c1) ∧ x5.cell? ⟨bp, 1, none⟩ = some (.slice a2 l2 c2) ∧ Below w.heap.size w x5) := fun x5 h => ⟨cellB ((h.block _ (Array.getElem?_eq_some_iff.1 q4).1).trans q4) 0, cellB ((h.block _ (Array.getElem?_eq_some_iff.1 q4).1).trans q4) 1, HX4.out.trans (h.mono HX4.out.size)⟩
  have p0 : x4.cell? ⟨bp, 0, none⟩ = some (.slice a1 l1 c1) := cellB q4 0
  have p1 : x4.cell? ⟨bp, 1, none⟩ = some (.slice a2 l2 c2) := cellB q4 1
  have lp : bp < x4.heap.size := (Array.getElem?_eq_some_iff.1 q4).1
  go_upto_region 6 with (first | (go_at_call 7; refine (K3.out _ HX4.out).mono ?_; rintro e x5 ⟨rfl, hb5⟩; obtain ⟨p5, p6, HX5⟩ := K35.out _ hb5; have lp5 := Nat.lt_of_lt_of_le lp hb5.size) | (go_at_call 8; refine (K5.out _ HX5).mono ?_; rintro e x6 ⟨rfl, hb6⟩))
  have hb46 : Below x4.heap.size x4 x6 := hb5.trans (hb6.mono hb5.size)
  clear hb5 hb6 lp lp5 p0 p1 p5 p6 HX5 K35 K5 K3
  have HX6 : Hid (Below w.heap.size w x6) := HX4.out.trans (hb46.mono HX4.out.size)
  have r6 := (hb46.block _ (Array.getElem?_eq_some_iff.1 r4).1).trans r4
  have HF6 : Hid (FragsAt x6 (.slice b1 qf.length d1) qf ∧ DefsAt x6 (.slice b2 qd.length d2) qd) := ⟨HF4.out.1.later hb46, HF4.out.2.later hb46⟩
  clear hb46 q4 r4 HF4 HX4
  have s0 : x6.cell? ⟨bq, 0, none⟩ = some (.slice b1 qf.length d1) := cellB r6 0
  have s1 : x6.cell? ⟨bq, 1, none⟩ = some (.slice b2 qd.length d2) := cellB r6 1
  have lq : bq < x6.heap.size := (Array.getElem?_eq_some_iff.1 r6).1
  go_upto_region 9 with (go_at_call 10; refine (K6.out _ HX6.out).mono ?_; rintro e x7 ⟨hb7, e1, f1, e2, f2, rfl, hfr, hdr⟩)
  have HX7 : Hid (Below w.heap.size w x7) := HX6.out.trans (hb7.mono HX6.out.size)
  have r7 := (hb7.block _ (Array.getElem?_eq_some_iff.1 r6).1).trans r6
  have hA := (Below.refl x7.heap.size x7).alloc (Nat.le_refl _) (.cells #[.slice e1 qf.length f1, .slice e2 qd.length f2] 25)
  have hr8 := heap_alloc_new x7 (.cells #[.slice e1 qf.length f1, .slice e2 qd.length f2] 25)
  have HX8 : Hid (Below w.heap.size w (x7.alloc (.cells #[.slice e1 qf.length f1, .slice e2 qd.length f2] 25))) := HX7.out.alloc HX7.out.size _
  have r8 := (hA.block _ (Array.getElem?_eq_some_iff.1 r7).1).trans r7
  have KQ := KS.out _ b1 d1 b2 d2 e1 f1 e2 f2 ((HF6.out.1.later hb7).later hA) ((HF6.out.2.later hb7).later hA) (hfr.later hA) (hdr.later hA)
  clear hb7 hfr hdr r6 r7 HX6 HX7 K6 hA HF6 KS s0 s1 lq
  generalize x7.heap.size = br at *
  generalize x7.alloc (.cells #[.slice e1 qf.length f1, .slice e2 qd.length f2] 25) = x8 at *
  have KQ : Hid (Calls Tryz.prog 9 #[.agg #[.slice b1 qf.length d1, .slice b2 qd.length d2], .agg #[.slice e1 qf.length f1, .slice e2 qd.length f2]] x8 fun e w' => e = .returned (.bool true) ∧ Below x8.heap.size x8 w') := KQ
  have s0 : x8.cell? ⟨bq, 0, none⟩ = some (.slice b1 qf.length d1) := cellB r8 0
  have s1 : x8.cell? ⟨bq, 1, none⟩ = some (.slice b2 qd.length d2) := cellB r8 1
  have s2 : x8.cell? ⟨br, 0, none⟩ = some (.slice e1 qf.length f1) := cellB hr8 0
  have s3 : x8.cell? ⟨br, 1, none⟩ = some (.slice e2 qd.length f2) := cellB hr8 1
  have lq : bq < x8.heap.size := (Array.getElem?_eq_some_iff.1 r8).1
  have lr : br < x8.heap.size := (Array.getElem?_eq_some_iff.1 hr8).1
  clear hbp r8 hr8
  go_wp2_with (go_at_call 9; refine KQ.out.mono ?_; rintro e x9 ⟨rfl, hb9⟩)
  go_ret
  exact ⟨rfl, HX8.out.trans (hb9.mono HX8.out.size)⟩

set_option maxHeartbeats 4000000 in
set_option maxRecDepth 100000 in
theorem says_no_long (fs : List M.Frg) (ds : List M.Dfn) (a1 a2 : Option Addr) (c1 c2 : Nat) (t : M.Txt) (w : World) (hG : Glob w) (hBk : Blanks w) (hf : FragsAt w (.slice a1 fs.length c1) fs) (hd : DefsAt w (.slice a2 ds.length c2) ds) (ht : t.length ≤ maxLen) (hck : ¬ M.checkPart ⟨fs, ds⟩ = 0) (hl : 20000 < t.length) :
    Calls Tryz.prog 3 #[.agg #[.slice a1 fs.length c1, .slice a2 ds.length c2], .string (M.str t)] w fun e w' => e = .returned (.bool true) ∧ Below w.heap.size w w' := by
  have K1 : Hid (∀ W, Below w.heap.size w W → Calls Tryz.prog 4 #[.agg #[.slice a1 fs.length c1, .slice a2 ds.length c2]] W fun e w' => e = .returned (.tuple #[.string (M.str (if M.checkPart ⟨fs, ds⟩ = 0 then M.print ⟨fs, ds⟩ else [])), .int .i64 (M.checkPart ⟨fs, ds⟩)]) ∧ Below W.heap.size W w') := fun W hW =>
    print_any fs ds a1 a2 c1 c2 W (hG.later hW) (hf.later hW) (hd.later hW)
  have K2 : Hid (∀ W, Below w.heap.size w W → Calls Tryz.prog 5 #[.string (M.str t)] W (Reads W (readAll t))) := fun W hW => parse_any t W (hG.later hW) ht
  have K3 : Hid (∀ W, Below w.heap.size w W → Calls Tryz.prog 7 #[] W fun e w' => e = .returned (.bool true) ∧ Below W.heap.size W w') := fun W hW => typed_any W (hG.later hW)
  have K4 : Hid (∀ W, Below w.heap.size w W → Calls Tryz.prog 6 #[.agg #[.slice a1 fs.length c1, .slice a2 ds.length c2]] W fun e w' => e = .returned (.int .i64 (M.checkPart ⟨fs, ds⟩)) ∧ Below W.heap.size W w') := fun W hW => rcheck_any fs ds a1 a2 c1 c2 W (hf.later hW) (hd.later hW)
  rw [if_neg hck, show M.str [] = ⟨#[]⟩ from rfl] at K1
  have hcn : (M.checkPart ⟨fs, ds⟩ == 0) = false := by simpa using hck
  have hcm : (M.checkPart ⟨fs, ds⟩ != 0) = true := by rw [bne, hcn]; rfl
  generalize M.checkPart ⟨fs, ds⟩ = ce at *
  have hr : readAll t = (M.nil, 0, 2) := by rw [readAll, if_pos hl]
  rw [hr] at K2
  have hli : (20000 : Int) < (t.length : Int) := by omega
  have hld : decide ((20000 : Int) < (t.length : Int)) = true := by simp; omega
  have K2 : Hid (∀ W, Below w.heap.size w W → Calls Tryz.prog 5 #[.string (M.str t)] W fun e w' => Below W.heap.size W w' ∧ ∃ b1 d1 b2 d2, e = .returned (.tuple #[.agg #[.slice b1 0 d1, .slice b2 0 d2], .int .i64 0, .int .i64 2]) ∧ FragsAt w' (.slice b1 0 d1) [] ∧ DefsAt w' (.slice b2 0 d2) []) := K2
  have hsz : (M.str t).size = t.length := str_size t
  have KS : Hid (∀ W b1 d1 b2 d2 e1 f1 e2 f2, FragsAt W (.slice b1 0 d1) [] → DefsAt W (.slice b2 0 d2) [] → FragsAt W (.slice e1 0 f1) [] → DefsAt W (.slice e2 0 f2) [] → Calls Tryz.prog 9 #[.agg #[.slice b1 0 d1, .slice b2 0 d2], .agg #[.slice e1 0 f1, .slice e2 0 f2]] W fun e w' => e = .returned (.bool true) ∧ Below W.heap.size W w') := fun W b1 d1 b2 d2 e1 f1 e2 f2 h1 h2 h3 h4 => by
    have := rsame_any [] [] [] [] b1 b2 e1 e2 d1 d2 f1 f2 W h1 h2 h3 h4
    rwa [same_selfS] at this
  clear hf hd hck hl ht hr
  generalize fs.length = l1 at *
  generalize ds.length = l2 at *
  go_enter Tryz.func3, Tryz.ntmps3
  go_upto_region 2 with (go_at_call 4; refine (K1.out _ ((Below.refl _ _).alloc (Nat.le_refl _) _)).mono ?_; rintro e x1 ⟨rfl, hb1⟩)
  have q1 : x1.heap[w.heap.size]? = some (.cells #[.slice a1 l1 c1, .slice a2 l2 c2] 25 (0, 0)) := (hb1.block _ (by simp)).trans (heap_alloc_new _ _)
  have HX1 : Hid (Below w.heap.size w x1) := ((Below.refl _ _).alloc (Nat.le_refl _) _).trans (hb1.mono (by simp))
  clear hb1 K1
  obtain ⟨bp, hbp⟩ : ∃ bp, Hid (bp = w.heap.size) := ⟨_, rfl⟩
  rw [← hbp.out] at q1 ⊢
  go_upto_region 3 with (go_at_call 5; refine (K2.out _ HX1.out).mono ?_; rintro e x2 ⟨hb2, b1, d1, b2, d2, rfl, hfq, hdq⟩)
  have HX2 : Hid (Below w.heap.size w x2) := HX1.out.trans (hb2.mono HX1.out.size)
  have q2 := (hb2.block _ (Array.getElem?_eq_some_iff.1 q1).1).trans q1
  have hA := (Below.refl x2.heap.size x2).alloc (Nat.le_refl _) (.cells #[.slice b1 0 d1, .slice b2 0 d2] 25)
  have hr2 := heap_alloc_new x2 (.cells #[.slice b1 0 d1, .slice b2 0 d2] 25)
  have HX3 : Hid (Below w.heap.size w (x2.alloc (.cells #[.slice b1 0 d1, .slice b2 0 d2] 25))) := HX2.out.alloc HX2.out.size _
  have q3 := (hA.block _ (Array.getElem?_eq_some_iff.1 q2).1).trans q2
  have HF3 : Hid (_ ∧ _) := ⟨hfq.later hA, hdq.later hA⟩
  clear hb2 hfq hdq q1 q2 HX1 HX2 K2 hA
  generalize x2.heap.size = bq at *
  generalize x2.alloc (.cells #[.slice b1 0 d1, .slice b2 0 d2] 25) = x3 at *
  have p0 : x3.cell? ⟨bp, 0, none⟩ = some (.slice a1 l1 c1) := cellB q3 0
  have p1 : x3.cell? ⟨bp, 1, none⟩ = some (.slice a2 l2 c2) := cellB q3 1
  have lp : bp < x3.heap.size := (Array.getElem?_eq_some_iff.1 q3).1
  go_upto_region 4 with (go_at_call 6; refine (K4.out _ HX3.out).mono ?_; rintro e x4 ⟨rfl, hb4⟩)
  have HX4 : Hid (Below w.heap.size w x4) := HX3.out.trans (hb4.mono HX3.out.size)
  have q4 := (hb4.block _ (Array.getElem?_eq_some_iff.1 q3).1).trans q3
  have r4 := (hb4.block _ (Array.getElem?_eq_some_iff.1 hr2).1).trans hr2
  have HF4 : Hid (_ ∧ _) := ⟨HF3.out.1.later hb4, HF3.out.2.later hb4⟩
  clear hb4 q3 hr2 HF3 HX3 K4 p0 p1 lp
  go_upto_region 6 with (go_at_call 7; refine (K3.out _ HX4.out).mono ?_; rintro e x6 ⟨rfl, hb46⟩)
  clear K3
  have HX6 : Hid (Below w.heap.size w x6) := HX4.out.trans (hb46.mono HX4.out.size)
  have r6 := (hb46.block _ (Array.getElem?_eq_some_iff.1 r4).1).trans r4
  have HF6 : Hid (FragsAt x6 (.slice b1 0 d1) [] ∧ DefsAt x6 (.slice b2 0 d2) []) := ⟨HF4.out.1.later hb46, HF4.out.2.later hb46⟩
  clear hb46 q4 r4 HF4 HX4
  have s0 : x6.cell? ⟨bq, 0, none⟩ = some (.slice b1 0 d1) := cellB r6 0
  have s1 : x6.cell? ⟨bq, 1, none⟩ = some (.slice b2 0 d2) := cellB r6 1
  have lq : bq < x6.heap.size := (Array.getElem?_eq_some_iff.1 r6).1
  have KQ : Hid (Calls Tryz.prog 9 #[.agg #[.slice b1 0 d1, .slice b2 0 d2], .agg #[.slice none 0 0, .slice none 0 0]] x6 fun e w' => e = .returned (.bool true) ∧ Below x6.heap.size x6 w') := KS.out x6 b1 d1 b2 d2 none 0 none 0 HF6.out.1 HF6.out.2 (nil_frags _) (nil_defs _)
  clear HF6 KS r6 hbp
  go_wp2_with (go_at_call 9; refine KQ.out.mono ?_; rintro e x7 ⟨rfl, hb7⟩)
  go_ret
  exact ⟨rfl, HX6.out.trans (hb7.mono HX6.out.size)⟩

set_option maxHeartbeats 4000000 in
set_option maxRecDepth 100000 in
theorem says_no (fs : List M.Frg) (ds : List M.Dfn) (a1 a2 : Option Addr) (c1 c2 : Nat) (t : M.Txt) (w : World) (hG : Glob w) (hBk : Blanks w) (hf : FragsAt w (.slice a1 fs.length c1) fs) (hd : DefsAt w (.slice a2 ds.length c2) ds) (ht : t.length ≤ maxLen) (hck : ¬ M.checkPart ⟨fs, ds⟩ = 0) (hl : ¬ 20000 < t.length) :
    Calls Tryz.prog 3 #[.agg #[.slice a1 fs.length c1, .slice a2 ds.length c2], .string (M.str t)] w fun e w' => e = .returned (.bool true) ∧ Below w.heap.size w w' := by
  have K1 : Hid (∀ W, Below w.heap.size w W → Calls Tryz.prog 4 #[.agg #[.slice a1 fs.length c1, .slice a2 ds.length c2]] W fun e w' => e = .returned (.tuple #[.string (M.str (if M.checkPart ⟨fs, ds⟩ = 0 then M.print ⟨fs, ds⟩ else [])), .int .i64 (M.checkPart ⟨fs, ds⟩)]) ∧ Below W.heap.size W w') := fun W hW =>
    print_any fs ds a1 a2 c1 c2 W (hG.later hW) (hf.later hW) (hd.later hW)
  have K2 : Hid (∀ W, Below w.heap.size w W → Calls Tryz.prog 5 #[.string (M.str t)] W (Reads W (readAll t))) := fun W hW => parse_any t W (hG.later hW) ht
  have K3 : Hid (∀ W, Below w.heap.size w W → Calls Tryz.prog 7 #[] W fun e w' => e = .returned (.bool true) ∧ Below W.heap.size W w') := fun W hW => typed_any W (hG.later hW)
  have K4 : Hid (∀ W, Below w.heap.size w W → Calls Tryz.prog 6 #[.agg #[.slice a1 fs.length c1, .slice a2 ds.length c2]] W fun e w' => e = .returned (.int .i64 (M.checkPart ⟨fs, ds⟩)) ∧ Below W.heap.size W w') := fun W hW => rcheck_any fs ds a1 a2 c1 c2 W (hf.later hW) (hd.later hW)
  rw [if_neg hck, show M.str [] = ⟨#[]⟩ from rfl] at K1
  have hcn : (M.checkPart ⟨fs, ds⟩ == 0) = false := by simpa using hck
  have hcm : (M.checkPart ⟨fs, ds⟩ != 0) = true := by rw [bne, hcn]; rfl
  generalize M.checkPart ⟨fs, ds⟩ = ce at *
  have K6 : Hid (∀ W, Below w.heap.size w W → Calls Tryz.prog 10 #[.string (M.str t)] W (Reads W (readAll t))) := fun W hW => by
    rw [readAll, if_neg hl]
    exact rread_any t W (hG.later hW) (hBk.later hG hW) (by omega)
  have hli : ¬ (20000 : Int) < (t.length : Int) := by omega
  have hld : decide ((20000 : Int) < (t.length : Int)) = false := by simp; omega
  generalize readAll t = O at *
  obtain ⟨q, j, er⟩ := O
  obtain ⟨qf, qd⟩ := q
  have K2 : Hid (∀ W, Below w.heap.size w W → Calls Tryz.prog 5 #[.string (M.str t)] W fun e w' => Below W.heap.size W w' ∧ ∃ b1 d1 b2 d2, e = .returned (.tuple #[.agg #[.slice b1 qf.length d1, .slice b2 qd.length d2], .int .i64 j, .int .i64 er]) ∧ FragsAt w' (.slice b1 qf.length d1) qf ∧ DefsAt w' (.slice b2 qd.length d2) qd) := K2
  have K6 : Hid (∀ W, Below w.heap.size w W → Calls Tryz.prog 10 #[.string (M.str t)] W fun e w' => Below W.heap.size W w' ∧ ∃ b1 d1 b2 d2, e = .returned (.tuple #[.agg #[.slice b1 qf.length d1, .slice b2 qd.length d2], .int .i64 j, .int .i64 er]) ∧ FragsAt w' (.slice b1 qf.length d1) qf ∧ DefsAt w' (.slice b2 qd.length d2) qd) := K6
  have hsz : (M.str t).size = t.length := str_size t
  have KS : Hid (∀ W b1 d1 b2 d2 e1 f1 e2 f2, FragsAt W (.slice b1 qf.length d1) qf → DefsAt W (.slice b2 qd.length d2) qd → FragsAt W (.slice e1 qf.length f1) qf → DefsAt W (.slice e2 qd.length f2) qd → Calls Tryz.prog 9 #[.agg #[.slice b1 qf.length d1, .slice b2 qd.length d2], .agg #[.slice e1 qf.length f1, .slice e2 qd.length f2]] W fun e w' => e = .returned (.bool true) ∧ Below W.heap.size W w') := fun W b1 d1 b2 d2 e1 f1 e2 f2 h1 h2 h3 h4 => by
    have := rsame_any qf qf qd qd b1 b2 e1 e2 d1 d2 f1 f2 W h1 h2 h3 h4
    rwa [same_selfS] at this
  clear hf hd hck hl ht
  generalize fs.length = l1 at *
  generalize ds.length = l2 at *
  go_enter Tryz.func3, Tryz.ntmps3
  go_upto_region 2 with (go_at_call 4; refine (K1.out _ ((Below.refl _ _).alloc (Nat.le_refl _) _)).mono ?_; rintro e x1 ⟨rfl, hb1⟩)
  have q1 : x1.heap[w.heap.size]? = some (.cells #[.slice a1 l1 c1, .slice a2 l2 c2] 25 (0, 0)) := (hb1.block _ (by simp)).trans (heap_alloc_new _ _)
  have HX1 : Hid (Below w.heap.size w x1) := ((Below.refl _ _).alloc (Nat.le_refl _) _).trans (hb1.mono (by simp))
  clear hb1 K1
  obtain ⟨bp, hbp⟩ : ∃ bp, Hid (bp = w.heap.size) := ⟨_, rfl⟩
  rw [← hbp.out] at q1 ⊢
  go_upto_region 3 with (go_at_call 5; refine (K2.out _ HX1.out).mono ?_; rintro e x2 ⟨hb2, b1, d1, b2, d2, rfl, hfq, hdq⟩)
  have HX2 : Hid (Below w.heap.size w x2) := HX1.out.trans (hb2.mono HX1.out.size)
  have q2 := (hb2.block _ (Array.getElem?_eq_some_iff.1 q1).1).trans q1
  have hA := (Below.refl x2.heap.size x2).alloc (Nat.le_refl _) (.cells #[.slice b1 qf.length d1, .slice b2 qd.length d2] 25)
  have hr2 := heap_alloc_new x2 (.cells #[.slice b1 qf.length d1, .slice b2 qd.length d2] 25)
  have HX3 : Hid (Below w.heap.size w (x2.alloc (.cells #[.slice b1 qf.length d1, .slice b2 qd.length d2] 25))) := HX2.out.alloc HX2.out.size _
  have q3 := (hA.block _ (Array.getElem?_eq_some_iff.1 q2).1).trans q2
  have HF3 : Hid (_ ∧ _) := ⟨hfq.later hA, hdq.later hA⟩
  clear hb2 hfq hdq q1 q2 HX1 HX2 K2 hA
  generalize x2.heap.size = bq at *
  generalize x2.alloc (.cells #[.slice b1 qf.length d1, .slice b2 qd.length d2] 25) = x3 at *
  have p0 : x3.cell? ⟨bp, 0, none⟩ = some (.slice a1 l1 c1) := cellB q3 0
  have p1 : x3.cell? ⟨bp, 1, none⟩ = some (.slice a2 l2 c2) := cellB q3 1
  have lp : bp < x3.heap.size := (Array.getElem?_eq_some_iff.1 q3).1
  go_upto_region 4 with (go_at_call 6; refine (K4.out _ HX3.out).mono ?_; rintro e x4 ⟨rfl, hb4⟩)
  have HX4 : Hid (Below w.heap.size w x4) := HX3.out.trans (hb4.mono HX3.out.size)
  have q4 := (hb4.block _ (Array.getElem?_eq_some_iff.1 q3).1).trans q3
  have r4 := (hb4.block _ (Array.getElem?_eq_some_iff.1 hr2).1).trans hr2
  have HF4 : Hid (_ ∧ _) := ⟨HF3.out.1.later hb4, HF3.out.2.later hb4⟩
  clear hb4 q3 hr2 HF3 HX3 K4 p0 p1 lp
  go_upto_region 6 with (go_at_call 7; refine (K3.out _ HX4.out).mono ?_; rintro e x6 ⟨rfl, hb46⟩)
  clear K3
  have HX6 : Hid (Below w.heap.size w x6) := HX4.out.trans (hb46.mono HX4.out.size)
  have r6 := (hb46.block _ (Array.getElem?_eq_some_iff.1 r4).1).trans r4
  have HF6 : Hid (FragsAt x6 (.slice b1 qf.length d1) qf ∧ DefsAt x6 (.slice b2 qd.length d2) qd) := ⟨HF4.out.1.later hb46, HF4.out.2.later hb46⟩
  clear hb46 q4 r4 HF4 HX4
  have s0 : x6.cell? ⟨bq, 0, none⟩ = some (.slice b1 qf.length d1) := cellB r6 0
  have s1 : x6.cell? ⟨bq, 1, none⟩ = some (.slice b2 qd.length d2) := cellB r6 1
  have lq : bq < x6.heap.size := (Array.getElem?_eq_some_iff.1 r6).1
  go_upto_region 9 with (go_at_call 10; refine (K6.out _ HX6.out).mono ?_; rintro e x7 ⟨hb7, e1, f1, e2, f2, rfl, hfr, hdr⟩)
  have HX7 : Hid (Below w.heap.size w x7) := HX6.out.trans (hb7.mono HX6.out.size)
  have r7 := (hb7.block _ (Array.getElem?_eq_some_iff.1 r6).1).trans r6
  have hA := (Below.refl x7.heap.size x7).alloc (Nat.le_refl _) (.cells #[.slice e1 qf.length f1, .slice e2 qd.length f2] 25)
  have hr8 := heap_alloc_new x7 (.cells #[.slice e1 qf.length f1, .slice e2 qd.length f2] 25)
  have HX8 : Hid (Below w.heap.size w (x7.alloc (.cells #[.slice e1 qf.length f1, .slice e2 qd.length f2] 25))) := HX7.out.alloc HX7.out.size _
  have r8 := (hA.block _ (Array.getElem?_eq_some_iff.1 r7).1).trans r7
  have KQ := KS.out _ b1 d1 b2 d2 e1 f1 e2 f2 ((HF6.out.1.later hb7).later hA) ((HF6.out.2.later hb7).later hA) (hfr.later hA) (hdr.later hA)
  clear hb7 hfr hdr r6 r7 HX6 HX7 K6 hA HF6 KS s0 s1 lq
  generalize x7.heap.size = br at *
  generalize x7.alloc (.cells #[.slice e1 qf.length f1, .slice e2 qd.length f2] 25) = x8 at *
  have KQ : Hid (Calls Tryz.prog 9 #[.agg #[.slice b1 qf.length d1, .slice b2 qd.length d2], .agg #[.slice e1 qf.length f1, .slice e2 qd.length f2]] x8 fun e w' => e = .returned (.bool true) ∧ Below x8.heap.size x8 w') := KQ
  have s0 : x8.cell? ⟨bq, 0, none⟩ = some (.slice b1 qf.length d1) := cellB r8 0
  have s1 : x8.cell? ⟨bq, 1, none⟩ = some (.slice b2 qd.length d2) := cellB r8 1
  have s2 : x8.cell? ⟨br, 0, none⟩ = some (.slice e1 qf.length f1) := cellB hr8 0
  have s3 : x8.cell? ⟨br, 1, none⟩ = some (.slice e2 qd.length f2) := cellB hr8 1
  have lq : bq < x8.heap.size := (Array.getElem?_eq_some_iff.1 r8).1
  have lr : br < x8.heap.size := (Array.getElem?_eq_some_iff.1 hr8).1
  clear hbp r8 hr8
  go_wp2_with (go_at_call 9; refine KQ.out.mono ?_; rintro e x9 ⟨rfl, hb9⟩)
  go_ret
  exact ⟨rfl, HX8.out.trans (hb9.mono HX8.out.size)⟩

/-- the law -/
theorem says_law (fs : List M.Frg) (ds : List M.Dfn) (a1 a2 : Option Addr) (c1 c2 : Nat) (t : M.Txt) (w : World) (hG : Glob w) (hBk : Blanks w) (hf : FragsAt w (.slice a1 fs.length c1) fs) (hd : DefsAt w (.slice a2 ds.length c2) ds) (ht : t.length ≤ maxLen) :
    Calls Tryz.prog 3 #[.agg #[.slice a1 fs.length c1, .slice a2 ds.length c2], .string (M.str t)] w fun e w' => e = .returned (.bool true) ∧ Below w.heap.size w w' := by
  by_cases hck : M.checkPart ⟨fs, ds⟩ = 0
  · by_cases hl : 20000 < t.length
    · exact says_ok_long fs ds a1 a2 c1 c2 t w hG hBk hf hd ht hck hl
    · exact says_ok fs ds a1 a2 c1 c2 t w hG hBk hf hd ht hck hl
  · by_cases hl : 20000 < t.length
    · exact says_no_long fs ds a1 a2 c1 c2 t w hG hBk hf hd ht hck hl
    · exact says_no fs ds a1 a2 c1 c2 t w hG hBk hf hd ht hck hl

end Go.Proofs.YthiknlnhdjoipaaGreatDoor
