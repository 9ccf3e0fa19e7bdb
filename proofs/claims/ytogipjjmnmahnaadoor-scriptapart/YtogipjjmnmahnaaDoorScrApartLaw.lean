/-
  The law ScriptApart returns true, whatever the two parts.
-/
import Derived.Test.YtogipjjmnmahnaaDoorScrBackLaw
namespace Go.Proofs.YtogipjjmnmahnaaDoor
open Go Go.RowKit
set_option linter.unusedVariables false
attribute [local go_sem] lat_cell

theorem tl_inj {a b : ByteArray} (h : a.toList = b.toList) : a = b := WideShapes.bytes_inj (by rw [Lib.toList_data, Lib.toList_data] at h; exact h)

theorem allTwo_same {α : Type} (eq : α → α → Bool) (h : ∀ x y, eq x y = true → x = y) : ∀ (l m : List α), M.allTwo eq l m = true → l = m
  | [], [], _ => rfl
  | [], _ :: _, h' => by cases h'
  | _ :: _, [], h' => by cases h'
  | x :: l, y :: m, h' => by
    simp only [M.allTwo, Bool.and_eq_true] at h'
    rw [h x y h'.1, allTwo_same eq h l m h'.2]
theorem sameRelEq (a b : M.Rel) (h : M.sameRel a b = true) : a = b := by
  simp only [M.sameRel, Bool.and_eq_true, beq_iff_eq] at h
  obtain ⟨⟨⟨⟨h1, h2⟩, h3⟩, h4⟩, h5⟩ := h
  cases a; cases b
  simp only at *
  rw [h1, h2, tl_inj h3, h4, h5]
theorem sameDfn_eq (a b : M.Dfn) (h : M.sameDfn a b = true) : a = b := by
  simp only [M.sameDfn, Bool.and_eq_true, beq_iff_eq] at h
  obtain ⟨⟨⟨⟨⟨h1, h2⟩, h3⟩, h4⟩, h5⟩, h6⟩ := h
  cases a; cases b
  simp only at *
  rw [tl_inj h1, h2, h3, h4, h5, h6]
theorem sameFrg_eq (a b : M.Frg) (h : M.sameFrg a b = true) : a = b := by
  simp only [M.sameFrg, Bool.and_eq_true, beq_iff_eq] at h
  obtain ⟨⟨⟨⟨⟨h1, h2⟩, h3⟩, h4⟩, h5⟩, h6⟩ := h
  cases a; cases b
  simp only at *
  rw [h1, h2, tl_inj h3, h4, allTwo_same _ (fun x y h => by simpa using h) _ _ h5, allTwo_same _ sameRelEq _ _ h6]
theorem samePart_eq (a b : M.Prt) (h : M.samePart a b = true) : a = b := by
  simp only [M.samePart, Bool.and_eq_true] at h
  cases a; cases b
  simp only at *
  rw [allTwo_same _ sameFrg_eq _ _ h.1, allTwo_same _ sameDfn_eq _ _ h.2]
theorem samePart_comm (a b : M.Prt) : M.samePart a b = M.samePart b a := by
  cases h : M.samePart a b
  · cases h2 : M.samePart b a
    · rfl
    · rw [samePart_eq b a h2, samePart_refl] at h; cases h
  · rw [samePart_eq a b h, samePart_refl]

/-- right parts are alike just if their texts are -/
theorem text_same {a b : M.Prt} (ha : M.checkPart a = 0) (hb : M.checkPart b = 0) (ba : ∀ f ∈ a.frags, ∀ x ∈ f.bytes, 0 ≤ x ∧ x < 256) (bb : ∀ f ∈ b.frags, ∀ x ∈ f.bytes, 0 ≤ x ∧ x < 256) :
    (((M.str (M.print a)).toList == (M.str (M.print b)).toList) == M.samePart a b) = true := by
  cases h : M.samePart a b
  · cases h2 : ((M.str (M.print a)).toList == (M.str (M.print b)).toList)
    · rfl
    · have e := eqB_true h2
      rw [txt_str, txt_str] at e
      have r1 := read_print (fs := a.frags) (ds := a.defs) ha ba
      have r2 := read_print (fs := b.frags) (ds := b.defs) hb bb
      have e' : M.print ⟨a.frags, a.defs⟩ = M.print ⟨b.frags, b.defs⟩ := e
      rw [e', r2] at r1
      have : a = b := by
        have := (Prod.mk.inj r1).1
        cases a; cases b
        exact this.symm
      rw [this, samePart_refl] at h
      cases h
  · rw [samePart_eq a b h]; simp

set_option maxHeartbeats 4000000 in
set_option maxRecDepth 100000 in
theorem apart_law (fs fs' : List M.Frg) (ds ds' : List M.Dfn) (a1 a2 a3 a4 : Option Addr) (c1 c2 c3 c4 : Nat) (w : World) (hG : Glob w)
    (h1 : FragsAt w (.slice a1 fs.length c1) fs) (h2 : DefsAt w (.slice a2 ds.length c2) ds) (h3 : FragsAt w (.slice a3 fs'.length c3) fs') (h4 : DefsAt w (.slice a4 ds'.length c4) ds') :
    Calls Tryd.prog 4 #[.agg #[.slice a1 fs.length c1, .slice a2 ds.length c2], .agg #[.slice a3 fs'.length c3, .slice a4 ds'.length c4]] w fun e w' => e = .returned (.bool true) ∧ Below w.heap.size w w' := by
  have K1 : Hid (∀ W, Below w.heap.size w W → Calls Tryd.prog 5 #[.agg #[.slice a1 fs.length c1, .slice a2 ds.length c2]] W fun e w' => e = .returned (.tuple #[.string (M.str (if M.checkPart ⟨fs, ds⟩ = 0 then M.print ⟨fs, ds⟩ else [])), .int .i64 (M.checkPart ⟨fs, ds⟩)]) ∧ Below W.heap.size W w') := fun W hW =>
    print_any fs ds a1 a2 c1 c2 W (hG.later hW) (h1.later hW) (h2.later hW)
  have K2 : Hid (∀ W, Below w.heap.size w W → Calls Tryd.prog 5 #[.agg #[.slice a3 fs'.length c3, .slice a4 ds'.length c4]] W fun e w' => e = .returned (.tuple #[.string (M.str (if M.checkPart ⟨fs', ds'⟩ = 0 then M.print ⟨fs', ds'⟩ else [])), .int .i64 (M.checkPart ⟨fs', ds'⟩)]) ∧ Below W.heap.size W w') := fun W hW =>
    print_any fs' ds' a3 a4 c3 c4 W (hG.later hW) (h3.later hW) (h4.later hW)
  have K3 : Hid (∀ W, Below w.heap.size w W → Calls Tryd.prog 8 #[] W fun e w' => e = .returned (.bool true) ∧ Below W.heap.size W w') := fun W hW => typed_any W (hG.later hW)
  have K4 : Hid (∀ W, Below w.heap.size w W → Calls Tryd.prog 7 #[.agg #[.slice a1 fs.length c1, .slice a2 ds.length c2], .agg #[.slice a1 fs.length c1, .slice a2 ds.length c2]] W fun e w' => e = .returned (.bool true) ∧ Below W.heap.size W w') := fun W hW => by
    have := same_any fs fs ds ds a1 a2 a1 a2 c1 c2 c1 c2 W (h1.later hW) (h2.later hW) (h1.later hW) (h2.later hW)
    rwa [samePart_refl] at this
  have K5 : Hid (∀ W, Below w.heap.size w W → Calls Tryd.prog 7 #[.agg #[.slice a1 fs.length c1, .slice a2 ds.length c2], .agg #[.slice a3 fs'.length c3, .slice a4 ds'.length c4]] W fun e w' => e = .returned (.bool (M.samePart ⟨fs, ds⟩ ⟨fs', ds'⟩)) ∧ Below W.heap.size W w') := fun W hW =>
    same_any fs fs' ds ds' a1 a2 a3 a4 c1 c2 c3 c4 W (h1.later hW) (h2.later hW) (h3.later hW) (h4.later hW)
  have K6 : Hid (∀ W, Below w.heap.size w W → Calls Tryd.prog 7 #[.agg #[.slice a3 fs'.length c3, .slice a4 ds'.length c4], .agg #[.slice a1 fs.length c1, .slice a2 ds.length c2]] W fun e w' => e = .returned (.bool (M.samePart ⟨fs, ds⟩ ⟨fs', ds'⟩)) ∧ Below W.heap.size W w') := fun W hW => by
    have := same_any fs' fs ds' ds a3 a4 a1 a2 c3 c4 c1 c2 W (h3.later hW) (h4.later hW) (h1.later hW) (h2.later hW)
    rwa [samePart_comm] at this
  have HT : Hid (M.checkPart ⟨fs, ds⟩ = 0 → M.checkPart ⟨fs', ds'⟩ = 0 → (((M.str (M.print ⟨fs, ds⟩)).toList == (M.str (M.print ⟨fs', ds'⟩)).toList) == M.samePart ⟨fs, ds⟩ ⟨fs', ds'⟩) = true) := fun e1 e2 => text_same e1 e2 h1.bytes h3.bytes
  have HZ : Hid (∃ s1 s2 e1 e2, K1 = K1 ∧ s1 = M.str (if M.checkPart ⟨fs, ds⟩ = 0 then M.print ⟨fs, ds⟩ else []) ∧ s2 = M.str (if M.checkPart ⟨fs', ds'⟩ = 0 then M.print ⟨fs', ds'⟩ else []) ∧ e1 = M.checkPart ⟨fs, ds⟩ ∧ e2 = M.checkPart ⟨fs', ds'⟩) := ⟨_, _, _, _, rfl, rfl, rfl, rfl, rfl⟩
  clear HZ
  have HT2 : Hid ((M.checkPart ⟨fs, ds⟩ != 0) = false → (M.checkPart ⟨fs', ds'⟩ != 0) = false → (((M.str (if M.checkPart ⟨fs, ds⟩ = 0 then M.print ⟨fs, ds⟩ else [])).toList == (M.str (if M.checkPart ⟨fs', ds'⟩ = 0 then M.print ⟨fs', ds'⟩ else [])).toList) == M.samePart ⟨fs, ds⟩ ⟨fs', ds'⟩) = true) := fun e1 e2 => by
    have e1 : M.checkPart ⟨fs, ds⟩ = 0 := by simpa using e1
    have e2 : M.checkPart ⟨fs', ds'⟩ = 0 := by simpa using e2
    rw [if_pos e1, if_pos e2]
    exact HT.out e1 e2
  clear HT h1 h2 h3 h4
  generalize M.str (if M.checkPart ⟨fs, ds⟩ = 0 then M.print ⟨fs, ds⟩ else []) = s1 at *
  generalize M.str (if M.checkPart ⟨fs', ds'⟩ = 0 then M.print ⟨fs', ds'⟩ else []) = s2 at *
  generalize M.checkPart ⟨fs, ds⟩ = r1 at *
  generalize M.checkPart ⟨fs', ds'⟩ = r2 at *
  generalize M.samePart ⟨fs, ds⟩ ⟨fs', ds'⟩ = sm at *
  generalize fs.length = n1 at *
  generalize ds.length = n2 at *
  generalize fs'.length = n3 at *
  generalize ds'.length = n4 at *
  have hsame : (sm != sm) = false := by simp
  go_enter Tryd.func4, Tryd.ntmps4
  go_wp2_with (go_at_call 5; refine (K1.out _ (((Below.refl _ _).alloc (Nat.le_refl _) _).alloc (by simp) _)).mono ?_; rintro e x1 ⟨rfl, hb1⟩; refine Hid.out ?_)
  have q1 : x1.heap[w.heap.size]? = some (.cells #[.slice a1 n1 c1, .slice a2 n2 c2] 25 (0, 0)) := by
    rw [hb1.block _ (by simp; omega), Below.heap_alloc _ _ _ (by simp)]; exact heap_alloc_new _ _
  have q2 : x1.heap[w.heap.size + 1]? = some (.cells #[.slice a3 n3 c3, .slice a4 n4 c4] 25 (0, 0)) := by
    rw [hb1.block _ (by simp)]
    have := heap_alloc_new (w.alloc (.cells #[.slice a1 n1 c1, .slice a2 n2 c2] 25)) (.cells #[.slice a3 n3 c3, .slice a4 n4 c4] 25)
    simpa using this
  have HX1 : Hid (Below w.heap.size w x1) := (((Below.refl _ _).alloc (Nat.le_refl _) _).alloc (by simp) _).trans (hb1.mono (by simp; omega))
  have hl1 : w.heap.size + 1 < x1.heap.size := (Array.getElem?_eq_some_iff.1 q2).1
  have u0 : x1.cell? ⟨w.heap.size + 1, 0, none⟩ = some (.slice a3 n3 c3) := cellB q2 0
  have u1 : x1.cell? ⟨w.heap.size + 1, 1, none⟩ = some (.slice a4 n4 c4) := cellB q2 1
  clear hb1
  refine Lib.hid ?_
  go_wp2_with (go_at_call 5; refine (K2.out _ HX1.out).mono ?_; rintro e x2 ⟨rfl, hb2⟩; refine Hid.out ?_)
  have HX2 : Hid (Below w.heap.size w x2) := HX1.out.trans (hb2.mono HX1.out.size)
  have q1 := (hb2.block _ (by omega)).trans q1
  have q2 := (hb2.block _ hl1).trans q2
  have v0 : x2.cell? ⟨w.heap.size, 0, none⟩ = some (.slice a1 n1 c1) := cellB q1 0
  have v1 : x2.cell? ⟨w.heap.size, 1, none⟩ = some (.slice a2 n2 c2) := cellB q1 1
  have v2 : x2.cell? ⟨w.heap.size + 1, 0, none⟩ = some (.slice a3 n3 c3) := cellB q2 0
  have v3 : x2.cell? ⟨w.heap.size + 1, 1, none⟩ = some (.slice a4 n4 c4) := cellB q2 1
  clear hb2 q1 q2 u0 u1 HX1 hl1 K1 K2
  refine Lib.hid ?_
  go_wp2_with fail
  refine wp_region_lat (by kernel_rfl) (by kernel_rfl) ?_
  intro hne
  repeat (go_big_quiet_step ((first | (go_at_call 8; exact lat_of (K3.out _ (HX2.out.trans ((lat_bel _).mono HX2.out.size)))) | (go_at_call 7; with_reducible exact lat_of (K4.out _ (HX2.out.trans ((lat_bel _).mono HX2.out.size)))) | (go_at_call 7; with_reducible exact lat_of (K5.out _ (HX2.out.trans ((lat_bel _).mono HX2.out.size)))) | (go_at_call 7; with_reducible exact lat_of (K6.out _ (HX2.out.trans ((lat_bel _).mono HX2.out.size)))))))
  refine wpQuiet_nil ?_
  intro x3 hb3
  have hb3 := lat_out hb3
  clear hne
  have HX3 : Hid (Below w.heap.size w x3) := HX2.out.trans (hb3.mono HX2.out.size)
  have y0 := cell_later hb3 v0
  have y1 := cell_later hb3 v1
  have y2 := cell_later hb3 v2
  have y3 := cell_later hb3 v3
  clear hb3 v0 v1 v2 v3 K3 K4 K6
  cases e1 : (r1 != 0)
  · cases e2 : (r2 != 0)
    · have ht := HT2.out e1 e2
      clear HT2
      go_wp2_with (go_at_call 7; refine (K5.out _ HX3.out).mono ?_; rintro e x4 ⟨rfl, hb4⟩)
      go_ret
      exact ⟨rfl, HX3.out.trans (hb4.mono HX3.out.size)⟩
    · clear HT2
      go_wp2
      go_ret
      exact ⟨rfl, HX3.out⟩
  · clear HT2
    go_wp2
    go_ret
    exact ⟨rfl, HX3.out⟩

end Go.Proofs.YtogipjjmnmahnaaDoor
