/-
  The contracts of part.Groups and part.All.
-/
import Derived.Test.YtebhbhbhcoijpaaPrtJoin
namespace Go.Proofs.Ytebhbhbhcoijpaa
open Go.RowKit
set_option linter.unusedVariables false

theorem FragsAt.form {w : World} {v : Value} {fs : List M.Frg} (h : FragsAt w v fs) : ∃ a c, v = .slice a fs.length c := by
  obtain ⟨cell, hs, _⟩ := h
  obtain ⟨a, c, e, _⟩ := hs.form
  exact ⟨a, c, e⟩
theorem DefsAt.form {w : World} {v : Value} {ds : List M.Dfn} (h : DefsAt w v ds) : ∃ a c, v = .slice a ds.length c := by
  obtain ⟨a, c, e, _⟩ := h.1.form
  exact ⟨a, c, e⟩

set_option maxHeartbeats 2000000 in
set_option maxRecDepth 100000 in
theorem groupsOf_any (p : M.Prt) (a1 a2 : Option Addr) (c1 c2 : Nat) (w : World) (hf : FragsAt w (.slice a1 p.frags.length c1) p.frags) (hd : DefsAt w (.slice a2 p.defs.length c2) p.defs) :
    Calls Try.prog 14 #[.agg #[.slice a1 p.frags.length c1, .slice a2 p.defs.length c2]] w fun e w' =>
      Below w.heap.size w w' ∧ ∃ v, e = .returned (.tuple #[v, .int .i64 (M.checkPart p)]) ∧ StrsAt w' v (if M.checkPart p = 0 then M.groups p.frags else []) ∧ ∃ ad nn cc, v = .slice ad nn cc ∧ nn ≤ cc := by
  have hA : Hid (Below w.heap.size w (w.alloc (.cells #[.slice a1 p.frags.length c1, .slice a2 p.defs.length c2] 25))) := (Below.refl _ _).alloc (Nat.le_refl _) _
  have KC : Hid (Calls Try.prog 13 #[.agg #[.slice a1 p.frags.length c1, .slice a2 p.defs.length c2]] (w.alloc (.cells #[.slice a1 p.frags.length c1, .slice a2 p.defs.length c2] 25)) fun e w' => e = .returned (.int .i64 (M.checkPart p)) ∧ Below (w.alloc (.cells #[.slice a1 p.frags.length c1, .slice a2 p.defs.length c2] 25)).heap.size (w.alloc (.cells #[.slice a1 p.frags.length c1, .slice a2 p.defs.length c2] 25)) w') := check_any p.frags p.defs _ _ _ _ _ (hf.later hA.out) (hd.later hA.out)
  have q0 := heap_alloc_new w (.cells #[.slice a1 p.frags.length c1, .slice a2 p.defs.length c2] 25)
  by_cases hck : M.checkPart p = 0
  · have hn := ((M.ok_iff p).1 hck).nf
    have HC : Hid (M.checkPart p = 0) := hck
    rw [hck] at KC ⊢
    rw [if_pos rfl]
    clear hck
    go_enter Try.func14, Try.ntmps14
    go_wp2_with (go_at_call 13; refine KC.out.mono ?_; rintro e x1 ⟨rfl, hx1⟩; refine Hid.out ?_)
    have HX1 : Hid (Below w.heap.size w x1) := hA.out.trans (hx1.mono hA.out.size)
    have y0 := (hx1.block _ (by simp)).trans q0
    have c0 : x1.cell? ⟨w.heap.size, 0, none⟩ = some (.slice a1 p.frags.length c1) := cellB y0 0
    have KG : Hid (Calls Try.prog 44 #[.slice a1 p.frags.length c1] x1 fun e w' => Below x1.heap.size x1 w' ∧ ∃ v, e = .returned v ∧ (∃ ad nn cc, v = .slice ad nn cc ∧ nn ≤ cc) ∧ StrsAt w' v (M.groups p.frags)) := groups_any p.frags a1 c1 x1 (hf.later HX1.out) hn
    clear hx1 q0
    refine Lib.hid ?_
    go_wp2_with (go_at_call 44; refine KG.out.mono ?_; rintro e x2 ⟨hx2, v, rfl, hv, hs⟩; obtain ⟨ad, nn, cc, rfl, hcap⟩ := hv)
    go_ret2
    exact ⟨HX1.out.trans (hx2.mono HX1.out.size), _, rfl, hs, _, _, _, rfl, hcap⟩
  · rw [if_neg hck]
    have hne : (M.checkPart p != 0) = true := by simpa using hck
    clear hck
    generalize M.checkPart p = er at *
    go_enter Try.func14, Try.ntmps14
    go_wp2_with (go_at_call 13; refine KC.out.mono ?_; rintro e x1 ⟨rfl, hx1⟩)
    go_ret2
    exact ⟨hA.out.trans (hx1.mono hA.out.size), _, rfl, strsAt_nil _, _, _, _, rfl, Nat.le_refl _⟩

/-- parts in a slice -/
def PartsAt (w : World) (v : Value) (ps : List M.Prt) : Prop :=
  ∃ cell, SlAt w v 2 ps.length cell ∧ ∀ j, j < ps.length → FragsAt w (cell j 0) (ps.getD j M.nil).frags ∧ DefsAt w (cell j 1) (ps.getD j M.nil).defs

theorem PartsAt.later {w w' : World} {v : Value} {ps : List M.Prt} (h : PartsAt w v ps) (hb : Below w.heap.size w w') : PartsAt w' v ps :=
  let ⟨cell, h1, h2⟩ := h
  ⟨cell, h1.later hb, fun j hj => ⟨(h2 j hj).1.later hb, (h2 j hj).2.later hb⟩⟩

set_option maxHeartbeats 4000000 in
set_option maxRecDepth 100000 in
theorem all_any (ps : List M.Prt) (a : Option Addr) (c : Nat) (w : World) (h : PartsAt w (.slice a ps.length c) ps) (h96 : ps.length ≤ 96) :
    Calls Try.prog 12 #[.slice a ps.length c] w fun e w' =>
      Below w.heap.size w w' ∧ ∃ es vF vD, e = .returned (.tuple #[.agg #[vF, vD], .int .i64 (M.allFrom M.nil ps).2]) ∧ PR w' w.heap.size es (M.allFrom M.nil ps).1.defs vF vD ∧ es.map (·.f) = (M.allFrom M.nil ps).1.frags := by
  have hd0 : decide (96 < (ps.length : Int)) = false := by simp; omega
  go_enter Try.func12, Try.ntmps12
  go_wp2_with fail
  go_loopw [15] (fun s15 wr => ∃ (k : Nat) (p : M.Prt) (es : List Ent) (vF vD : Value), k ≤ ps.length ∧ s15 = .int .i64 k ∧ wr.heap[w.heap.size]? = some (.cells #[.slice none 0 0, .slice none 0 0] 25 (0, 0)) ∧ wr.heap[w.heap.size + 1]? = some (.cells #[vF, vD] 25 (0, 0)) ∧ PR wr (w.heap.size + 2) es p.defs vF vD ∧ Hid (es.map (·.f) = p.frags) ∧ Hid (M.allFrom M.nil ps = M.allFrom p (ps.drop k)) ∧ Hid (Below w.heap.size w wr)) (fun s15 _ => ps.length - (intOf s15).toNat)
  case atStart => exact ⟨0, M.nil, [], _, _, Nat.zero_le _, rfl, heap_alloc2_old _ _ _, heap_alloc2_new _ _ _, PR.nil _ _, rfl, rfl, ((Below.refl _ _).alloc (Nat.le_refl _) _).alloc (by simp) _⟩
  case round =>
    obtain ⟨k, p, es, vF, vD, hk, rfl, q0, q1, hPR, HEs, HR, HB⟩ := hrel
    have hF : FragsAt wr vF p.frags := by rw [← HEs.out]; exact hPR.fragsAt
    have hD := hPR.defsAt
    obtain ⟨x1, y1, rfl⟩ := hF.form
    obtain ⟨x2, y2, rfl⟩ := hD.form
    have hl0 : w.heap.size < wr.heap.size := (Array.getElem?_eq_some_iff.1 q0).1
    have hl1 : w.heap.size + 1 < wr.heap.size := (Array.getElem?_eq_some_iff.1 q1).1
    have hw0 : w.heap.size ≤ wr.heap.size := by omega
    have c10 : wr.cell? ⟨w.heap.size + 1, 0, none⟩ = some (.slice x1 p.frags.length y1) := cellB q1 0
    have c11 : wr.cell? ⟨w.heap.size + 1, 1, none⟩ = some (.slice x2 p.defs.length y2) := cellB q1 1
    by_cases hlt : k < ps.length
    · obtain ⟨cell, hs, hc⟩ := h.later HB.out
      obtain ⟨b, off, rfl, hce⟩ := hs.at k hlt
      obtain ⟨hF', hD'⟩ := hc k hlt
      have e0 := hce 0 (by decide)
      have e1 := hce 1 (by decide)
      rw [Nat.add_zero] at e0
      obtain ⟨x3, y3, hx3⟩ := hF'.form
      obtain ⟨x4, y4, hx4⟩ := hD'.form
      rw [hx3] at e0 hF'
      rw [hx4] at e1 hD'
      have hbr : b < wr.heap.size := World.block_lt_of_cell? _ _ e0
      have hkl : (k : Int) < (ps.length : Int) := by omega
      have HR1 := HR.out
      rw [drop_getD ps M.nil k hlt] at HR1
      clear HR hs hc hce hx3 hx4 h
      generalize ps.getD k M.nil = q at *
      have HA : Hid (Below wr.heap.size wr (wr.alloc (.cells #[.slice x3 q.frags.length y3, .slice x4 q.defs.length y4] 25))) := (Below.refl _ _).alloc (Nat.le_refl _) _
      have KJ : Hid (∀ W, Below wr.heap.size wr W → Calls Try.prog 9 #[.agg #[.slice x1 p.frags.length y1, .slice x2 p.defs.length y2], .agg #[.slice x3 q.frags.length y3, .slice x4 q.defs.length y4]] W fun e w' =>
          Below W.heap.size W w' ∧ ∃ es vF vD, e = .returned (.tuple #[.agg #[vF, vD], .int .i64 (M.join p q).2]) ∧ PR w' W.heap.size es (M.join p q).1.defs vF vD ∧ es.map (·.f) = (M.join p q).1.frags) := fun W hW => join_any p q _ _ _ _ _ _ _ _ W (hF.later hW) (hD.later hW) (hF'.later hW) (hD'.later hW)
      clear hF hD hF' hD' hPR HEs
      simp only [M.allFrom] at HR1
      generalize M.join p q = jn at *
      obtain ⟨jp, je⟩ := jn
      simp only at KJ HR1
      go_wp2_with (go_at_call 9; refine (KJ.out _ HA.out).mono ?_; rintro e x5 ⟨hx5, es5, vF5, vD5, rfl, hP5, hes5⟩; obtain ⟨z1, z2, rfl⟩ := own_len hP5.rowF; obtain ⟨z3, z4, rfl⟩ := own_len hP5.rowD; refine Hid.out ?_)
      have HX5 : Hid (Below wr.heap.size wr x5) := HA.out.trans (hx5.mono HA.out.size)
      have y0 := (HX5.out.block _ hl0).trans q0
      have y1' := (HX5.out.block _ hl1).trans q1
      have hx5s : w.heap.size + 1 < x5.heap.size := (Array.getElem?_eq_some_iff.1 y1').1
      have hx50 : w.heap.size < x5.heap.size := by omega
      clear q0 q1 c10 c11 hx5 KJ HA e0 e1
      have HB5 : Hid (Below w.heap.size w x5) := HB.out.trans (HX5.out.mono hw0)
      clear HX5 HB
      have f10 := frozenB y1' 0
      have f11 := frozenB y1' 1
      have d10 : x5.cell? ⟨w.heap.size + 1, 0, none⟩ = some (.slice x1 p.frags.length y1) := cellB y1' 0
      have d11 : x5.cell? ⟨w.heap.size + 1, 1, none⟩ = some (.slice x2 p.defs.length y2) := cellB y1' 1
      have f00 := frozenB y0 0
      have f01 := frozenB y0 1
      have d00 : x5.cell? ⟨w.heap.size, 0, none⟩ = some (.slice none 0 0) := cellB y0 0
      have d01 : x5.cell? ⟨w.heap.size, 1, none⟩ = some (.slice none 0 0) := cellB y0 1
      refine Lib.hid ?_
      by_cases hje : je = 0
      · subst hje
        rw [if_pos rfl] at HR1
        have HR2 : Hid (M.allFrom M.nil ps = M.allFrom jp (ps.drop (k + 1))) := HR1
        clear HR1
        have a0 : Above wr.heap.size.succ x5 (x5.setCell ⟨w.heap.size + 1, 0, none⟩ (.slice z1 es5.length z2)) := above_set _ _ _ _ _ (by omega)
        have a1 : Above wr.heap.size.succ (x5.setCell ⟨w.heap.size + 1, 0, none⟩ (.slice z1 es5.length z2)) ((x5.setCell ⟨w.heap.size + 1, 0, none⟩ (.slice z1 es5.length z2)).setCell ⟨w.heap.size + 1, 1, none⟩ (.slice z3 jp.defs.length z4)) := above_set _ _ _ _ _ (by omega)
        have hP6 := ((show PR x5 wr.heap.size.succ es5 jp.defs _ _ by simpa using hP5).above a0).above a1
        have u0 : (x5.setCell ⟨w.heap.size + 1, 0, none⟩ (.slice z1 es5.length z2)).heap[w.heap.size + 1]? = some (.cells #[.slice z1 es5.length z2, .slice x2 p.defs.length y2] 25 (0, 0)) := setB' y1' _
        have u1 : ((x5.setCell ⟨w.heap.size + 1, 0, none⟩ (.slice z1 es5.length z2)).setCell ⟨w.heap.size + 1, 1, none⟩ (.slice z3 jp.defs.length z4)).heap[w.heap.size + 1]? = some (.cells #[.slice z1 es5.length z2, .slice z3 jp.defs.length z4] 25 (0, 0)) := setB' u0 _
        have u2 : ((x5.setCell ⟨w.heap.size + 1, 0, none⟩ (.slice z1 es5.length z2)).setCell ⟨w.heap.size + 1, 1, none⟩ (.slice z3 jp.defs.length z4)).heap[w.heap.size]? = some (.cells #[.slice none 0 0, .slice none 0 0] 25 (0, 0)) := (Below.heap_setCell _ _ _ _ (by show w.heap.size ≠ w.heap.size + 1; omega)).trans ((Below.heap_setCell _ _ _ _ (by show w.heap.size ≠ w.heap.size + 1; omega)).trans y0)
        have HB6 : Below w.heap.size w ((x5.setCell ⟨w.heap.size + 1, 0, none⟩ (.slice z1 es5.length z2)).setCell ⟨w.heap.size + 1, 1, none⟩ (.slice z3 jp.defs.length z4)) := (HB5.out.setCell (by show w.heap.size ≤ w.heap.size + 1; omega) _).setCell (by show w.heap.size ≤ w.heap.size + 1; omega) _
        have HEnd : Hid (∀ o, (((x5.setCell ⟨w.heap.size + 1, 0, none⟩ (.slice z1 es5.length z2)).setCell ⟨w.heap.size + 1, 1, none⟩ (.slice z3 jp.defs.length z4)).alloc o).heap[w.heap.size]? = some (.cells #[.slice none 0 0, .slice none 0 0] 25 (0, 0)) ∧ (((x5.setCell ⟨w.heap.size + 1, 0, none⟩ (.slice z1 es5.length z2)).setCell ⟨w.heap.size + 1, 1, none⟩ (.slice z3 jp.defs.length z4)).alloc o).heap[w.heap.size + 1]? = some (.cells #[.slice z1 es5.length z2, .slice z3 jp.defs.length z4] 25 (0, 0)) ∧ PR (((x5.setCell ⟨w.heap.size + 1, 0, none⟩ (.slice z1 es5.length z2)).setCell ⟨w.heap.size + 1, 1, none⟩ (.slice z3 jp.defs.length z4)).alloc o) (w.heap.size + 2) es5 jp.defs (.slice z1 es5.length z2) (.slice z3 jp.defs.length z4) ∧ Below w.heap.size w (((x5.setCell ⟨w.heap.size + 1, 0, none⟩ (.slice z1 es5.length z2)).setCell ⟨w.heap.size + 1, 1, none⟩ (.slice z3 jp.defs.length z4)).alloc o)) := fun o => by
          have hb := (Below.refl ((x5.setCell ⟨w.heap.size + 1, 0, none⟩ (.slice z1 es5.length z2)).setCell ⟨w.heap.size + 1, 1, none⟩ (.slice z3 jp.defs.length z4)).heap.size _).alloc (Nat.le_refl _) o
          exact ⟨(hb.block _ (Array.getElem?_eq_some_iff.1 u2).1).trans u2, (hb.block _ (Array.getElem?_eq_some_iff.1 u1).1).trans u1, (hP6.base (by simp; omega)).later hb, HB6.trans (hb.mono HB6.size)⟩
        clear a0 a1 hP6 u0 u1 u2 HB6 hP5
        go_wp2_with fail
        go_roundw
        case rel => exact ⟨k + 1, jp, es5, _, _, by omega, by go_num, (HEnd.out _).1, (HEnd.out _).2.1, (HEnd.out _).2.2.1, hes5, HR2, (HEnd.out _).2.2.2⟩
        case measure => simp [intOf]; omega
      · rw [if_neg hje] at HR1
        have HR2 : Hid (M.allFrom M.nil ps = (M.nil, je)) := HR1
        have hne : (je != 0) = true := by simpa using hje
        clear HR1 hje
        have HB6 : Hid (∀ o, Below w.heap.size w (((x5.setCell ⟨w.heap.size, 0, none⟩ (.slice none 0 0)).setCell ⟨w.heap.size, 1, none⟩ (.slice none 0 0)).alloc o)) := fun o => ((HB5.out.setCell (Nat.le_refl _) _).setCell (Nat.le_refl _) _).alloc (by simpa using HB5.out.size) _
        go_wp2
        refine bodyPost_ret (v := .tuple #[.agg #[.slice none 0 0, .slice none 0 0], .int .i64 je]) (by simp [results, Try.results12, go_sem, d00, d01, hx50]) rfl ?_
        exact ⟨HB6.out _, [], _, _, by rw [HR2.out], by rw [HR2.out]; exact PR.nil _ _, by rw [HR2.out]; rfl⟩
    · have hkl : k = ps.length := by omega
      have HR2 : Hid (M.allFrom M.nil ps = (p, 0)) := by rw [Hid, HR.out, List.drop_eq_nil_of_le (by omega)]; rfl
      clear HR h
      subst hkl
      have d00 : wr.cell? ⟨w.heap.size, 0, none⟩ = some (.slice none 0 0) := cellB q0 0
      have d01 : wr.cell? ⟨w.heap.size, 1, none⟩ = some (.slice none 0 0) := cellB q0 1
      have f00 := frozenB q0 0
      have f01 := frozenB q0 1
      have u0 : (wr.setCell ⟨w.heap.size, 0, none⟩ (.slice x1 p.frags.length y1)).heap[w.heap.size]? = some (.cells #[.slice x1 p.frags.length y1, .slice none 0 0] 25 (0, 0)) := setB' q0 _
      have HP : Hid (PR ((wr.setCell ⟨w.heap.size, 0, none⟩ (.slice x1 p.frags.length y1)).setCell ⟨w.heap.size, 1, none⟩ (.slice x2 p.defs.length y2)) w.heap.size es p.defs (.slice x1 p.frags.length y1) (.slice x2 p.defs.length y2)) := ((hPR.base (by omega)).set q0).set u0
      have HBe : Hid (Below w.heap.size w ((wr.setCell ⟨w.heap.size, 0, none⟩ (.slice x1 p.frags.length y1)).setCell ⟨w.heap.size, 1, none⟩ (.slice x2 p.defs.length y2))) := (HB.out.setCell (Nat.le_refl _) _).setCell (Nat.le_refl _) _
      clear u0 hF hD hPR
      go_wp2
      refine bodyPost_ret (v := .tuple #[.agg #[.slice x1 p.frags.length y1, .slice x2 p.defs.length y2], .int .i64 0]) (by simp [results, Try.results12, go_sem, d00, d01]) rfl ?_
      exact ⟨HBe.out, es, _, _, by rw [HR2.out], by rw [HR2.out]; exact HP.out, by rw [HR2.out]; exact HEs.out⟩

end Go.Proofs.Ytebhbhbhcoijpaa
