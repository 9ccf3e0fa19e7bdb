/-
  The contracts of part.Groups and part.All. Variables that hold parts. Variables that hold parts; Join as a walk meets it.
-/
import Derived.Test.YtabkbicaignicaaPrtJoin
import Derived.Test.YtabkbicaignicaaPrtMem

namespace Go.Proofs.Ytabkbicaignicaa
open Go.RowKit
set_option linter.unusedVariables false

theorem FragsAt.form {w : World} {v : Value} {fs : List M.Frg} (h : FragsAt w v fs) : ∃ a c, v = .slice a fs.length c := by
  obtain ⟨cell, hs, _⟩ := h
  obtain ⟨a, c, e, _⟩ := hs.form
  exact ⟨a, c, e⟩
theorem DefsAt.form {w : World} {v : Value} {ds : List M.Dfn} (h : DefsAt w v ds) : ∃ a c, v = .slice a ds.length c := by
  obtain ⟨a, c, e, _⟩ := h.1.form
  exact ⟨a, c, e⟩

set_option maxHeartbeats 2000000 in
set_option maxRecDepth 100000 in
theorem groupsOf_any (p : M.Prt) (a1 a2 : Option Addr) (c1 c2 : Nat) (w : World) (hf : FragsAt w (.slice a1 p.frags.length c1) p.frags) (hd : DefsAt w (.slice a2 p.defs.length c2) p.defs) :
    Calls Try.prog 31 #[.agg #[.slice a1 p.frags.length c1, .slice a2 p.defs.length c2]] w fun e w' =>
      Below w.heap.size w w' ∧ ∃ v, e = .returned (.tuple #[v, .int .i64 (M.checkPart p)]) ∧ StrsAt w' v (if M.checkPart p = 0 then M.groups p.frags else []) ∧ ∃ ad nn cc, v = .slice ad nn cc ∧ nn ≤ cc := by
  have hA : Hid (Below w.heap.size w (w.alloc (.cells #[.slice a1 p.frags.length c1, .slice a2 p.defs.length c2] 25))) := (Below.refl _ _).alloc (Nat.le_refl _) _
  have KC : Hid (Calls Try.prog 34 #[.agg #[.slice a1 p.frags.length c1, .slice a2 p.defs.length c2]] (w.alloc (.cells #[.slice a1 p.frags.length c1, .slice a2 p.defs.length c2] 25)) fun e w' => e = .returned (.int .i64 (M.checkPart p)) ∧ Below (w.alloc (.cells #[.slice a1 p.frags.length c1, .slice a2 p.defs.length c2] 25)).heap.size (w.alloc (.cells #[.slice a1 p.frags.length c1, .slice a2 p.defs.length c2] 25)) w') := check_any p.frags p.defs _ _ _ _ _ (hf.later hA.out) (hd.later hA.out)
  have q0 := heap_alloc_new w (.cells #[.slice a1 p.frags.length c1, .slice a2 p.defs.length c2] 25)
  by_cases hck : M.checkPart p = 0
  · have hn := ((M.ok_iff p).1 hck).nf
    have HC : Hid (M.checkPart p = 0) := hck
    rw [hck] at KC ⊢
    rw [if_pos rfl]
    clear hck
    go_enter Try.func31, Try.ntmps31
    go_wp2_with (go_at_call 34; refine KC.out.mono ?_; rintro e x1 ⟨rfl, hx1⟩; refine Hid.out ?_)
    have HX1 : Hid (Below w.heap.size w x1) := hA.out.trans (hx1.mono hA.out.size)
    have y0 := (hx1.block _ (by simp)).trans q0
    have c0 : x1.cell? ⟨w.heap.size, 0, none⟩ = some (.slice a1 p.frags.length c1) := cellB y0 0
    have KG : Hid (Calls Try.prog 66 #[.slice a1 p.frags.length c1] x1 fun e w' => Below x1.heap.size x1 w' ∧ ∃ v, e = .returned v ∧ (∃ ad nn cc, v = .slice ad nn cc ∧ nn ≤ cc) ∧ StrsAt w' v (M.groups p.frags)) := groups_any p.frags a1 c1 x1 (hf.later HX1.out) hn
    clear hx1 q0
    refine Lib.hid ?_
    go_wp2_with (go_at_call 66; refine KG.out.mono ?_; rintro e x2 ⟨hx2, v, rfl, hv, hs⟩; obtain ⟨ad, nn, cc, rfl, hcap⟩ := hv)
    go_ret2
    exact ⟨HX1.out.trans (hx2.mono HX1.out.size), _, rfl, hs, _, _, _, rfl, hcap⟩
  · rw [if_neg hck]
    have hne : (M.checkPart p != 0) = true := by simpa using hck
    clear hck
    generalize M.checkPart p = er at *
    go_enter Try.func31, Try.ntmps31
    go_wp2_with (go_at_call 34; refine KC.out.mono ?_; rintro e x1 ⟨rfl, hx1⟩)
    go_ret2
    exact ⟨hA.out.trans (hx1.mono hA.out.size), _, rfl, strsAt_nil _, _, _, _, rfl, Nat.le_refl _⟩

/-- parts in a slice -/
def PartsAt (w : World) (v : Value) (ps : List M.Prt) : Prop :=
  ∃ cell, SlAt w v 2 ps.length cell ∧ ∀ j, j < ps.length → FragsAt w (cell j 0) (ps.getD j M.nil).frags ∧ DefsAt w (cell j 1) (ps.getD j M.nil).defs

theorem PartsAt.later {w w' : World} {v : Value} {ps : List M.Prt} (h : PartsAt w v ps) (hb : Below w.heap.size w w') : PartsAt w' v ps :=
  let ⟨cell, h1, h2⟩ := h
  ⟨cell, h1.later hb, fun j hj => ⟨(h2 j hj).1.later hb, (h2 j hj).2.later hb⟩⟩

end Go.Proofs.Ytabkbicaignicaa

namespace Go.Proofs.Ytabkbicaignicaa
open Go.RowKit
set_option linter.unusedVariables false

/-- a variable that holds a part -/
structure Var (w : World) (b : Nat) (x1 x2 : Option Addr) (y1 y2 : Nat) (p : M.Prt) : Prop where
  blk : w.heap[b]? = some (.cells #[.slice x1 p.frags.length y1, .slice x2 p.defs.length y2] 25 (0, 0))
  fr : FragsAt w (.slice x1 p.frags.length y1) p.frags
  df : DefsAt w (.slice x2 p.defs.length y2) p.defs

theorem Var.later {w w' : World} {b : Nat} {x1 x2 : Option Addr} {y1 y2 : Nat} {p : M.Prt} (h : Var w b x1 x2 y1 y2 p) (hb : Below w.heap.size w w') : Var w' b x1 x2 y1 y2 p :=
  ⟨(hb.block _ (Array.getElem?_eq_some_iff.1 h.blk).1).trans h.blk, h.fr.later hb, h.df.later hb⟩
theorem Var.c0 {w : World} {b : Nat} {x1 x2 : Option Addr} {y1 y2 : Nat} {p : M.Prt} (h : Var w b x1 x2 y1 y2 p) : w.cell? ⟨b, 0, none⟩ = some (.slice x1 p.frags.length y1) := cellB h.blk 0
theorem Var.c1 {w : World} {b : Nat} {x1 x2 : Option Addr} {y1 y2 : Nat} {p : M.Prt} (h : Var w b x1 x2 y1 y2 p) : w.cell? ⟨b, 1, none⟩ = some (.slice x2 p.defs.length y2) := cellB h.blk 1
theorem Var.lt {w : World} {b : Nat} {x1 x2 : Option Addr} {y1 y2 : Nat} {p : M.Prt} (h : Var w b x1 x2 y1 y2 p) : b < w.heap.size := (Array.getElem?_eq_some_iff.1 h.blk).1

theorem var_new {w : World} {x1 x2 : Option Addr} {y1 y2 : Nat} {p : M.Prt} (hf : FragsAt w (.slice x1 p.frags.length y1) p.frags) (hd : DefsAt w (.slice x2 p.defs.length y2) p.defs) :
    Var (w.alloc (.cells #[.slice x1 p.frags.length y1, .slice x2 p.defs.length y2] 25)) w.heap.size x1 x2 y1 y2 p :=
  ⟨heap_alloc_new _ _, hf.later ((Below.refl _ _).alloc (Nat.le_refl _) _), hd.later ((Below.refl _ _).alloc (Nat.le_refl _) _)⟩

end Go.Proofs.Ytabkbicaignicaa

namespace Go.Proofs.Ytabkbicaignicaa
open Go.RowKit
set_option linter.unusedVariables false

/-- Join, as a walk meets it -/
theorem join_v {a b : M.Prt} {a1 a2 b1 b2 : Option Addr} {c1 c2 d1 d2 : Nat} {w : World} (hf : FragsAt w (.slice a1 a.frags.length c1) a.frags) (hd : DefsAt w (.slice a2 a.defs.length c2) a.defs)
    (hf' : FragsAt w (.slice b1 b.frags.length d1) b.frags) (hd' : DefsAt w (.slice b2 b.defs.length d2) b.defs) (p : M.Prt) (er : Int) (hj : M.join a b = (p, er)) :
    Calls Try.prog 29 #[.agg #[.slice a1 a.frags.length c1, .slice a2 a.defs.length c2], .agg #[.slice b1 b.frags.length d1, .slice b2 b.defs.length d2]] w fun e w' =>
      Below w.heap.size w w' ∧ ∃ x1 y1 x2 y2, e = .returned (.tuple #[.agg #[.slice x1 p.frags.length y1, .slice x2 p.defs.length y2], .int .i64 er]) ∧ FragsAt w' (.slice x1 p.frags.length y1) p.frags ∧ DefsAt w' (.slice x2 p.defs.length y2) p.defs := by
  refine (join_any a b a1 a2 b1 b2 c1 c2 d1 d2 w hf hd hf' hd').mono ?_
  rintro e w' ⟨hb, es, vF, vD, rfl, hP, hes⟩
  rw [hj] at hP hes ⊢
  have hF := hP.fragsAt
  rw [hes] at hF
  obtain ⟨x1, y1, rfl⟩ := hF.form
  obtain ⟨x2, y2, rfl⟩ := hP.defsAt.form
  exact ⟨hb, x1, y1, x2, y2, rfl, hF, hP.defsAt⟩

end Go.Proofs.Ytabkbicaignicaa
