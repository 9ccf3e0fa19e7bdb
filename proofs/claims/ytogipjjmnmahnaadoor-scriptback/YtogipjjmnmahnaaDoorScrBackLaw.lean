/-
  The law ScriptBack returns true, whatever the part and the text.
-/
import Derived.Test.YtogipjjmnmahnaaDoorScrTyped
import Derived.Test.YtogipjjmnmahnaaDoorSameAll
namespace Go.Proofs.YtogipjjmnmahnaaDoor
open Go Go.RowKit
set_option linter.unusedVariables false

theorem allTwo_refl {α : Type} (eq : α → α → Bool) (h : ∀ x, eq x x = true) : ∀ l : List α, M.allTwo eq l l = true
  | [] => rfl
  | x :: l => by rw [M.allTwo, h x, allTwo_refl eq h l]; rfl
theorem sameRel_refl (r : M.Rel) : M.sameRel r r = true := by simp [M.sameRel]
theorem sameDfn_refl (d : M.Dfn) : M.sameDfn d d = true := by simp [M.sameDfn]
theorem sameFrg_refl (f : M.Frg) : M.sameFrg f f = true := by
  simp only [M.sameFrg, beq_self_eq_true, Bool.true_and, allTwo_refl _ sameRel_refl, Bool.and_true]
  exact allTwo_refl _ (fun x => by simp) _
theorem samePart_refl (p : M.Prt) : M.samePart p p = true := by
  simp only [M.samePart, allTwo_refl _ sameFrg_refl, allTwo_refl _ sameDfn_refl, Bool.and_true]

theorem FragsAt.bytes {w : World} {v : Value} {fs : List M.Frg} (h : FragsAt w v fs) : ∀ f ∈ fs, ∀ b ∈ f.bytes, 0 ≤ b ∧ b < 256 := by
  obtain ⟨cell, _, hf⟩ := h
  intro f hf' b hb
  obtain ⟨j, hj, he⟩ := List.mem_iff_getElem.1 hf'
  have := (hf j hj).bytes.2
  rw [List.getD_eq_getElem?_getD, List.getElem?_eq_getElem hj] at this
  simp only [Option.getD_some, he] at this
  exact this b hb

set_option maxHeartbeats 4000000 in
set_option maxRecDepth 100000 in
/-- the second half of the law: any text -/
theorem back_law (fs : List M.Frg) (ds : List M.Dfn) (a1 a2 : Option Addr) (c1 c2 : Nat) (t : M.Txt) (w : World) (hG : Glob w) (hf : FragsAt w (.slice a1 fs.length c1) fs) (hd : DefsAt w (.slice a2 ds.length c2) ds) (ht : t.length ≤ maxLen) :
    Calls Tryd.prog 3 #[.agg #[.slice a1 fs.length c1, .slice a2 ds.length c2], .string (M.str t)] w fun e w' => e = .returned (.bool true) ∧ Below w.heap.size w w' := by
  have K1 : Hid (∀ W, Below w.heap.size w W → Calls Tryd.prog 5 #[.agg #[.slice a1 fs.length c1, .slice a2 ds.length c2]] W fun e w' => e = .returned (.tuple #[.string (M.str (if M.checkPart ⟨fs, ds⟩ = 0 then M.print ⟨fs, ds⟩ else [])), .int .i64 (M.checkPart ⟨fs, ds⟩)]) ∧ Below W.heap.size W w') := fun W hW =>
    print_any fs ds a1 a2 c1 c2 W (hG.later hW) (hf.later hW) (hd.later hW)
  have K2 : Hid (∀ W, Below w.heap.size w W → Calls Tryd.prog 6 #[.string (M.str t)] W (Reads W (readAll t))) := fun W hW => parse_any t W (hG.later hW) ht
  have K3 : Hid (∀ W, Below w.heap.size w W → Calls Tryd.prog 8 #[] W fun e w' => e = .returned (.bool true) ∧ Below W.heap.size W w') := fun W hW => typed_any W (hG.later hW)
  have HRt : Hid ((readAll t).2.2 = 0 → M.print (readAll t).1 = t ∧ M.checkPart (readAll t).1 = 0) := by
    intro h
    unfold readAll at h ⊢
    split
    · rename_i hb; rw [if_pos hb] at h; simp at h
    · rename_i hb
      rw [if_neg hb] at h
      have hx : M.read t = ((M.read t).1, (M.read t).2.1, 0) := by rw [← h]
      have := print_read hx
      exact ⟨this.1, this.2.1⟩
  generalize readAll t = O at *
  obtain ⟨q, j, er⟩ := O
  simp only at HRt
  by_cases hck : M.checkPart ⟨fs, ds⟩ = 0
  · have hrp := read_print hck hf.bytes
    rw [if_pos hck, hck] at K1
    have HSm : Hid (∀ W, Below w.heap.size w W → ∀ b1 d1 b2 d2, FragsAt W (.slice b1 fs.length d1) fs → DefsAt W (.slice b2 ds.length d2) ds → ∀ V, Below W.heap.size W V → Calls Tryd.prog 7 #[.agg #[.slice a1 fs.length c1, .slice a2 ds.length c2], .agg #[.slice b1 fs.length d1, .slice b2 ds.length d2]] V fun e w' => e = .returned (.bool true) ∧ Below V.heap.size V w') := fun W hW b1 d1 b2 d2 hf2 hd2 V hV => by
      have := same_any fs fs ds ds a1 a2 b1 b2 c1 c2 d1 d2 V ((hf.later hW).later hV) ((hd.later hW).later hV) (hf2.later hV) (hd2.later hV)
      rwa [samePart_refl] at this
    have HPp : Hid (∀ W, Below w.heap.size w W → (M.print ⟨fs, ds⟩).length ≤ 20000 → Calls Tryd.prog 6 #[.string (M.str (M.print ⟨fs, ds⟩))] W (Reads W (⟨fs, ds⟩, 0, 0))) := fun W hW hl => by
      have := parse_any (M.print ⟨fs, ds⟩) W (hG.later hW) (by unfold maxLen; omega)
      rwa [readAll, if_neg (by omega), hrp] at this
    have hps : (M.str (M.print ⟨fs, ds⟩)).size = (M.print ⟨fs, ds⟩).length := str_size _
    clear hrp hf hd hck
    generalize M.print ⟨fs, ds⟩ = pt at *
    by_cases hl : pt.length ≤ 20000
    · have HPp : Hid (∀ W, Below w.heap.size w W → Calls Tryd.prog 6 #[.string (M.str pt)] W (Reads W (⟨fs, ds⟩, 0, 0))) := fun W hW => HPp.out W hW hl
      have hld : decide ((pt.length : Int) ≤ 20000) = true := by simp; omega
      have hli : (pt.length : Int) ≤ 20000 := by omega
      clear hl
      go_enter Tryd.func3, Tryd.ntmps3
      go_wp2_with (go_at_call 5; refine (K1.out _ ((Below.refl _ _).alloc (Nat.le_refl _) _)).mono ?_; rintro e x1 ⟨rfl, hb1⟩; refine Hid.out ?_)
      have q1 : x1.heap[w.heap.size]? = some (.cells #[.slice a1 fs.length c1, .slice a2 ds.length c2] 25 (0, 0)) := (hb1.block _ (by simp)).trans (heap_alloc_new _ _)
      have HX1 : Hid (Below w.heap.size w x1) := ((Below.refl _ _).alloc (Nat.le_refl _) _).trans (hb1.mono (by simp))
      have hl1 : w.heap.size < x1.heap.size := (Array.getElem?_eq_some_iff.1 q1).1
      clear hb1
      refine Lib.hid ?_
      go_wp2_with (go_at_call 6; refine (HPp.out _ HX1.out).mono ?_; rintro e x2 ⟨hb2, b1, d1, b2, d2, rfl, hf2, hd2⟩; refine Hid.out ?_)
      have HX2 : Hid (Below w.heap.size w x2) := HX1.out.trans (hb2.mono HX1.out.size)
      have q2 := (hb2.block _ hl1).trans q1
      have hl2 : w.heap.size < x2.heap.size := (Array.getElem?_eq_some_iff.1 q2).1
      have p0 : x2.cell? ⟨w.heap.size, 0, none⟩ = some (.slice a1 fs.length c1) := cellB q2 0
      have p1 : x2.cell? ⟨w.heap.size, 1, none⟩ = some (.slice a2 ds.length c2) := cellB q2 1
      have HSx := HSm.out x2 HX2.out b1 d1 b2 d2 hf2 hd2
      have HSx : Hid (∀ V, Below x2.heap.size x2 V → Calls Tryd.prog 7 #[.agg #[.slice a1 fs.length c1, .slice a2 ds.length c2], .agg #[.slice b1 fs.length d1, .slice b2 ds.length d2]] V fun e w' => e = .returned (.bool true) ∧ Below V.heap.size V w') := HSx
      clear hb2 hf2 hd2 q1 q2 HX1 hl1 HSm HPp
      refine Lib.hid ?_
      go_wp2_with (go_at_call 7; refine (HSx.out _ ((Below.refl _ _).alloc (Nat.le_refl _) _)).mono ?_; rintro e x3 ⟨rfl, hb3⟩; refine Hid.out ?_)
      have HX : Hid (Below w.heap.size w x3) := (HX2.out.alloc HX2.out.size _).trans (hb3.mono (by have := HX2.out.size; simp; omega))
      clear hb3 p0 p1 HSx HX2 hl2
      refine Lib.hid ?_
      go_wp2_with (go_at_call 6; refine (K2.out _ HX.out).mono ?_; rintro e y1 ⟨hy1, b1, d1, b2, d2, rfl, hfq, hdq⟩; refine Hid.out ?_)
      have HY1 : Hid (Below w.heap.size w y1) := HX.out.trans (hy1.mono HX.out.size)
      have HPq : Hid (er = 0 → ∀ W, Below y1.heap.size y1 W → Calls Tryd.prog 5 #[.agg #[.slice b1 q.frags.length d1, .slice b2 q.defs.length d2]] W fun e w' => e = .returned (.tuple #[.string (M.str t), .int .i64 0]) ∧ Below W.heap.size W w') := fun he W hW => by
        have h9 := print_ok q.frags q.defs b1 b2 d1 d2 W ((hG.later HY1.out).later hW) (hfq.later hW) (hdq.later hW) (HRt.out he).2
        have e9 : M.print ⟨q.frags, q.defs⟩ = t := (HRt.out he).1
        rwa [e9] at h9
      clear hfq hdq hy1 HX
      refine Lib.hid ?_
      cases hz : (er != 0)
      · have hz0 : er = 0 := by simpa using hz
        have HPq := HPq.out hz0
        have HPq : Hid (∀ W, Below y1.heap.size y1 W → Calls Tryd.prog 5 #[.agg #[.slice b1 q.frags.length d1, .slice b2 q.defs.length d2]] W fun e w' => e = .returned (.tuple #[.string (M.str t), .int .i64 0]) ∧ Below W.heap.size W w') := HPq
        clear hz0
        generalize q.frags.length = m1 at *
        generalize q.defs.length = m2 at *
        go_wp2_with (go_at_call 8; refine (K3.out _ (HY1.out.alloc HY1.out.size _)).mono ?_; rintro e y2 ⟨rfl, hy2⟩; refine Hid.out ?_)
        have q2 : y2.heap[y1.heap.size]? = some (.cells #[.slice b1 m1 d1, .slice b2 m2 d2] 25 (0, 0)) := (hy2.block _ (by simp)).trans (heap_alloc_new _ _)
        have r0 : y2.cell? ⟨y1.heap.size, 0, none⟩ = some (.slice b1 m1 d1) := cellB q2 0
        have r1 : y2.cell? ⟨y1.heap.size, 1, none⟩ = some (.slice b2 m2 d2) := cellB q2 1
        have hy12 : Below y1.heap.size y1 y2 := ((Below.refl _ _).alloc (Nat.le_refl _) _).trans (hy2.mono (by simp))
        clear hy2 q2
        refine Lib.hid ?_
        go_wp2_with (go_at_call 5; refine (HPq.out _ hy12).mono ?_; rintro e y3 ⟨rfl, hy3⟩)
        go_ret
        exact ⟨rfl, HY1.out.trans ((hy12.trans (hy3.mono hy12.size)).mono HY1.out.size)⟩
      · clear HPq
        go_wp2_with (go_at_call 8; refine (K3.out _ (HY1.out.alloc HY1.out.size _)).mono ?_; rintro e y2 ⟨rfl, hy2⟩; refine Hid.out ?_)
        have HY2 : Hid (Below w.heap.size w y2) := (HY1.out.alloc HY1.out.size _).trans (hy2.mono (by have := HY1.out.size; simp; omega))
        clear hy2
        refine Lib.hid ?_
        go_wp2_with (go_at_call 8; refine (K3.out _ HY2.out).mono ?_; rintro e y3 ⟨rfl, hy3⟩)
        go_ret
        exact ⟨rfl, HY2.out.trans (hy3.mono HY2.out.size)⟩
    · have hld : decide ((pt.length : Int) ≤ 20000) = false := by simp; omega
      have hli : ¬ ((pt.length : Int) ≤ 20000) := by omega
      clear hl HPp HSm
      go_enter Tryd.func3, Tryd.ntmps3
      go_wp2_with (go_at_call 5; refine (K1.out _ ((Below.refl _ _).alloc (Nat.le_refl _) _)).mono ?_; rintro e x1 ⟨rfl, hb1⟩; refine Hid.out ?_)
      have HX : Hid (Below w.heap.size w x1) := ((Below.refl _ _).alloc (Nat.le_refl _) _).trans (hb1.mono (by simp))
      clear hb1
      refine Lib.hid ?_
      go_wp2_with (go_at_call 6; refine (K2.out _ HX.out).mono ?_; rintro e y1 ⟨hy1, b1, d1, b2, d2, rfl, hfq, hdq⟩; refine Hid.out ?_)
      have HY1 : Hid (Below w.heap.size w y1) := HX.out.trans (hy1.mono HX.out.size)
      have HPq : Hid (er = 0 → ∀ W, Below y1.heap.size y1 W → Calls Tryd.prog 5 #[.agg #[.slice b1 q.frags.length d1, .slice b2 q.defs.length d2]] W fun e w' => e = .returned (.tuple #[.string (M.str t), .int .i64 0]) ∧ Below W.heap.size W w') := fun he W hW => by
        have h9 := print_ok q.frags q.defs b1 b2 d1 d2 W ((hG.later HY1.out).later hW) (hfq.later hW) (hdq.later hW) (HRt.out he).2
        have e9 : M.print ⟨q.frags, q.defs⟩ = t := (HRt.out he).1
        rwa [e9] at h9
      clear hfq hdq hy1 HX
      refine Lib.hid ?_
      cases hz : (er != 0)
      · have hz0 : er = 0 := by simpa using hz
        have HPq := HPq.out hz0
        have HPq : Hid (∀ W, Below y1.heap.size y1 W → Calls Tryd.prog 5 #[.agg #[.slice b1 q.frags.length d1, .slice b2 q.defs.length d2]] W fun e w' => e = .returned (.tuple #[.string (M.str t), .int .i64 0]) ∧ Below W.heap.size W w') := HPq
        clear hz0
        generalize q.frags.length = m1 at *
        generalize q.defs.length = m2 at *
        go_wp2_with (go_at_call 8; refine (K3.out _ (HY1.out.alloc HY1.out.size _)).mono ?_; rintro e y2 ⟨rfl, hy2⟩; refine Hid.out ?_)
        have q2 : y2.heap[y1.heap.size]? = some (.cells #[.slice b1 m1 d1, .slice b2 m2 d2] 25 (0, 0)) := (hy2.block _ (by simp)).trans (heap_alloc_new _ _)
        have r0 : y2.cell? ⟨y1.heap.size, 0, none⟩ = some (.slice b1 m1 d1) := cellB q2 0
        have r1 : y2.cell? ⟨y1.heap.size, 1, none⟩ = some (.slice b2 m2 d2) := cellB q2 1
        have hy12 : Below y1.heap.size y1 y2 := ((Below.refl _ _).alloc (Nat.le_refl _) _).trans (hy2.mono (by simp))
        clear hy2 q2
        refine Lib.hid ?_
        go_wp2_with (go_at_call 5; refine (HPq.out _ hy12).mono ?_; rintro e y3 ⟨rfl, hy3⟩)
        go_ret
        exact ⟨rfl, HY1.out.trans ((hy12.trans (hy3.mono hy12.size)).mono HY1.out.size)⟩
      · clear HPq
        go_wp2_with (go_at_call 8; refine (K3.out _ (HY1.out.alloc HY1.out.size _)).mono ?_; rintro e y2 ⟨rfl, hy2⟩; refine Hid.out ?_)
        have HY2 : Hid (Below w.heap.size w y2) := (HY1.out.alloc HY1.out.size _).trans (hy2.mono (by have := HY1.out.size; simp; omega))
        clear hy2
        refine Lib.hid ?_
        go_wp2_with (go_at_call 8; refine (K3.out _ HY2.out).mono ?_; rintro e y3 ⟨rfl, hy3⟩)
        go_ret
        exact ⟨rfl, HY2.out.trans (hy3.mono HY2.out.size)⟩
  · rw [if_neg hck] at K1
    have hcn : (M.checkPart ⟨fs, ds⟩ == 0) = false := by simpa using hck
    generalize M.checkPart ⟨fs, ds⟩ = ce at *
    clear hck hf hd
    go_enter Tryd.func3, Tryd.ntmps3
    go_wp2_with (go_at_call 5; refine (K1.out _ ((Below.refl _ _).alloc (Nat.le_refl _) _)).mono ?_; rintro e x1 ⟨rfl, hb1⟩; refine Hid.out ?_)
    have HX : Hid (Below w.heap.size w x1) := ((Below.refl _ _).alloc (Nat.le_refl _) _).trans (hb1.mono (by simp))
    clear hb1
    refine Lib.hid ?_
    go_wp2_with (go_at_call 6; refine (K2.out _ HX.out).mono ?_; rintro e y1 ⟨hy1, b1, d1, b2, d2, rfl, hfq, hdq⟩; refine Hid.out ?_)
    have HY1 : Hid (Below w.heap.size w y1) := HX.out.trans (hy1.mono HX.out.size)
    have HPq : Hid (er = 0 → ∀ W, Below y1.heap.size y1 W → Calls Tryd.prog 5 #[.agg #[.slice b1 q.frags.length d1, .slice b2 q.defs.length d2]] W fun e w' => e = .returned (.tuple #[.string (M.str t), .int .i64 0]) ∧ Below W.heap.size W w') := fun he W hW => by
      have h9 := print_ok q.frags q.defs b1 b2 d1 d2 W ((hG.later HY1.out).later hW) (hfq.later hW) (hdq.later hW) (HRt.out he).2
      have e9 : M.print ⟨q.frags, q.defs⟩ = t := (HRt.out he).1
      rwa [e9] at h9
    clear hfq hdq hy1 HX
    refine Lib.hid ?_
    cases hz : (er != 0)
    · have hz0 : er = 0 := by simpa using hz
      have HPq := HPq.out hz0
      have HPq : Hid (∀ W, Below y1.heap.size y1 W → Calls Tryd.prog 5 #[.agg #[.slice b1 q.frags.length d1, .slice b2 q.defs.length d2]] W fun e w' => e = .returned (.tuple #[.string (M.str t), .int .i64 0]) ∧ Below W.heap.size W w') := HPq
      clear hz0
      generalize q.frags.length = m1 at *
      generalize q.defs.length = m2 at *
      go_wp2_with (go_at_call 8; refine (K3.out _ (HY1.out.alloc HY1.out.size _)).mono ?_; rintro e y2 ⟨rfl, hy2⟩; refine Hid.out ?_)
      have q2 : y2.heap[y1.heap.size]? = some (.cells #[.slice b1 m1 d1, .slice b2 m2 d2] 25 (0, 0)) := (hy2.block _ (by simp)).trans (heap_alloc_new _ _)
      have r0 : y2.cell? ⟨y1.heap.size, 0, none⟩ = some (.slice b1 m1 d1) := cellB q2 0
      have r1 : y2.cell? ⟨y1.heap.size, 1, none⟩ = some (.slice b2 m2 d2) := cellB q2 1
      have hy12 : Below y1.heap.size y1 y2 := ((Below.refl _ _).alloc (Nat.le_refl _) _).trans (hy2.mono (by simp))
      clear hy2 q2
      refine Lib.hid ?_
      go_wp2_with (go_at_call 5; refine (HPq.out _ hy12).mono ?_; rintro e y3 ⟨rfl, hy3⟩)
      go_ret
      exact ⟨rfl, HY1.out.trans ((hy12.trans (hy3.mono hy12.size)).mono HY1.out.size)⟩
    · clear HPq
      go_wp2_with (go_at_call 8; refine (K3.out _ (HY1.out.alloc HY1.out.size _)).mono ?_; rintro e y2 ⟨rfl, hy2⟩; refine Hid.out ?_)
      have HY2 : Hid (Below w.heap.size w y2) := (HY1.out.alloc HY1.out.size _).trans (hy2.mono (by have := HY1.out.size; simp; omega))
      clear hy2
      refine Lib.hid ?_
      go_wp2_with (go_at_call 8; refine (K3.out _ HY2.out).mono ?_; rintro e y3 ⟨rfl, hy3⟩)
      go_ret
      exact ⟨rfl, HY2.out.trans (hy3.mono HY2.out.size)⟩

end Go.Proofs.YtogipjjmnmahnaaDoor
