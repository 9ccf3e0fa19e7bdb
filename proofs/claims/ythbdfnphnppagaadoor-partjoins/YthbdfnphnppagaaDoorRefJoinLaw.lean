/-
  The law of PartJoins: any two parts, and any parts, are joined as the reference joins them.
-/
import Derived.Test.YthbdfnphnppagaaDoorRefJoined
import Derived.Test.YthbdfnphnppagaaDoorRefCheck
import Derived.Test.YthbdfnphnppagaaDoorSaA
import Derived.Test.YthbdfnphnppagaaDoorTwA
import Derived.Deep.RegionHeld3
namespace Go.Proofs.YthbdfnphnppagaaDoor
open Go Go.RowKit
set_option linter.unusedVariables false

theorem two_self {α : Type} (eq : α → α → Bool) (h : ∀ x, eq x x = true) : ∀ l : List α, M.allTwo eq l l = true
  | [] => rfl
  | x :: l => by show (eq x x && M.allTwo eq l l) = true; rw [h, two_self eq h l]; rfl

theorem part_self (p : M.Prt) : M.samePart p p = true := by
  unfold M.samePart
  rw [two_self, two_self]
  · rfl
  · intro d; simp [M.sameDfn]
  · intro f
    unfold M.sameFrg
    rw [two_self, two_self]
    · simp
    · intro r; simp [M.sameRel]
    · intro x; simp

theorem same_self {q : M.Prt} {a1 a2 a3 a4 : Option Addr} {c1 c2 c3 c4 : Nat} {w : World} (h1 : FragsAt w (.slice a1 q.frags.length c1) q.frags) (h2 : DefsAt w (.slice a2 q.defs.length c2) q.defs)
    (h3 : FragsAt w (.slice a3 q.frags.length c3) q.frags) (h4 : DefsAt w (.slice a4 q.defs.length c4) q.defs) :
    Calls Tryd.prog 11 #[.agg #[.slice a1 q.frags.length c1, .slice a2 q.defs.length c2], .agg #[.slice a3 q.frags.length c3, .slice a4 q.defs.length c4]] w fun e w' =>
      e = .returned (.bool true) ∧ Below w.heap.size w w' := by
  have := rsame_any q.frags q.frags q.defs q.defs a1 a2 a3 a4 c1 c2 c3 c4 w h1 h2 h3 h4
  rwa [part_self] at this

/-- OwnPart, as a walk meets it -/
theorem own_g {p : M.Prt} {a1 a2 : Option Addr} {c1 c2 : Nat} {w : World} (hf : FragsAt w (.slice a1 p.frags.length c1) p.frags) (hd : DefsAt w (.slice a2 p.defs.length c2) p.defs) (hr : Room p) :
    Calls Tryd.prog 24 #[.agg #[.slice a1 p.frags.length c1, .slice a2 p.defs.length c2]] w fun e w' =>
      Below w.heap.size w w' ∧ ∃ x1 y1 x2 y2 es, e = .returned (.agg #[.slice x1 p.frags.length y1, .slice x2 p.defs.length y2]) ∧ PR w' w.heap.size es p.defs (.slice x1 p.frags.length y1) (.slice x2 p.defs.length y2) ∧ es.map (·.f) = p.frags := by
  refine (ownPart_any p a1 a2 c1 c2 w hf hd hr).mono ?_
  rintro e w' ⟨hb, es, vF, vD, rfl, hP, hes, _⟩
  have hF := hP.fragsAt
  rw [hes] at hF
  obtain ⟨x1, y1, rfl⟩ := hF.form
  obtain ⟨x2, y2, rfl⟩ := hP.defsAt.form
  exact ⟨hb, x1, y1, x2, y2, es, rfl, hP, hes⟩

/-- a fresh variable of a part lies there -/
def Blk (W : World) (q : Nat) : Prop := W.heap[q]? = some (.cells #[.slice none 0 0, .slice none 0 0] 25 (0, 0))
theorem Blk.later {W W' : World} {q : Nat} (h : Blk W q) (hb : Below W.heap.size W W') : Blk W' q := (hb.block _ (Array.getElem?_eq_some_iff.1 h).1).trans h
theorem Blk.old {W : World} {q : Nat} (h : Blk W q) (o : Obj) : Blk (W.alloc o) q := (heap_alloc_old _ _ (Array.getElem?_eq_some_iff.1 h).1).trans h
theorem Blk.lt {W : World} {q : Nat} (h : Blk W q) : q < W.heap.size := (Array.getElem?_eq_some_iff.1 h).1
theorem blk_new (W : World) : Blk (W.alloc (.cells #[.slice none 0 0, .slice none 0 0] 25)) W.heap.size := heap_alloc_new _ _
theorem blk_new2 (W : World) : Blk ((W.alloc (.cells #[.slice none 0 0, .slice none 0 0] 25)).alloc (.cells #[.slice none 0 0, .slice none 0 0] 25)) (W.heap.size + 1) := by
  have h := blk_new (W.alloc (.cells #[.slice none 0 0, .slice none 0 0] 25))
  rw [World.size_alloc] at h
  exact h
theorem Blk.k0 {W : World} {q : Nat} (h : Blk W q) : W.cell? ⟨q, 0, none⟩ = some (.slice none 0 0) := cellB h 0
theorem Blk.k1 {W : World} {q : Nat} (h : Blk W q) : W.cell? ⟨q, 1, none⟩ = some (.slice none 0 0) := cellB h 1
theorem Blk.f0 {W : World} {q : Nat} (h : Blk W q) : W.frozen? ⟨q, 0, none⟩ = false := frozenB h 0
theorem Blk.f1 {W : World} {q : Nat} (h : Blk W q) : W.frozen? ⟨q, 1, none⟩ = false := frozenB h 1

/-- a part in memory of its own -/
def PV (w : World) (p : M.Prt) (vF vD : Value) : Prop := ∃ B es, PR w B es p.defs vF vD ∧ es.map (·.f) = p.frags
theorem PV.later {w w' : World} {p : M.Prt} {vF vD : Value} (h : PV w p vF vD) (hb : Below w.heap.size w w') : PV w' p vF vD := by
  obtain ⟨B, es, h1, h2⟩ := h
  exact ⟨B, es, h1.later hb, h2⟩
theorem PV.set {w : World} {p : M.Prt} {vF vD u : Value} {q i : Nat} {cs : Array Value} (h : PV w p vF vD) (hq : w.heap[q]? = some (.cells cs 25 (0, 0))) : PV (w.setCell ⟨q, i, none⟩ u) p vF vD := by
  obtain ⟨B, es, h1, h2⟩ := h
  exact ⟨B, es, h1.set hq, h2⟩
theorem PV.fr {w : World} {p : M.Prt} {vF vD : Value} (h : PV w p vF vD) : FragsAt w vF p.frags := by
  obtain ⟨B, es, h1, h2⟩ := h
  have := h1.fragsAt
  rwa [h2] at this
theorem PV.df {w : World} {p : M.Prt} {vF vD : Value} (h : PV w p vF vD) : DefsAt w vD p.defs := by
  obtain ⟨B, es, h1, h2⟩ := h
  exact h1.defsAt
theorem var_set {w : World} {x1 x2 : Option Addr} {y1 y2 q : Nat} {p : M.Prt} {u0 u1 : Value} (h : PV w p (.slice x1 p.frags.length y1) (.slice x2 p.defs.length y2)) (hq : w.heap[q]? = some (.cells #[u0, u1] 25 (0, 0))) :
    Var ((w.setCell ⟨q, 0, none⟩ (.slice x1 p.frags.length y1)).setCell ⟨q, 1, none⟩ (.slice x2 p.defs.length y2)) q x1 x2 y1 y2 p := by
  have h2 := (h.set (i := 0) (u := .slice x1 p.frags.length y1) hq).set (i := 1) (u := .slice x2 p.defs.length y2) (setB' hq _)
  exact ⟨setB' (setB' hq _) _, h2.fr, h2.df⟩
theorem var_keep {w : World} {x1 x2 : Option Addr} {y1 y2 q q' : Nat} {p : M.Prt} {u0 u1 v0 v1 : Value} (h : PV w p (.slice x1 p.frags.length y1) (.slice x2 p.defs.length y2)) (hv : w.heap[q]? = some (.cells #[.slice x1 p.frags.length y1, .slice x2 p.defs.length y2] 25 (0, 0))) (hq : w.heap[q']? = some (.cells #[u0, u1] 25 (0, 0))) (hne : q ≠ q') :
    Var ((w.setCell ⟨q', 0, none⟩ v0).setCell ⟨q', 1, none⟩ v1) q x1 x2 y1 y2 p := by
  have h2 := (h.set (i := 0) (u := v0) hq).set (i := 1) (u := v1) (setB' hq _)
  exact ⟨(Below.heap_setCell _ _ _ _ hne).trans ((Below.heap_setCell _ _ _ _ hne).trans hv), h2.fr, h2.df⟩

/-- All of parts -/
def allOf (ps : List M.Prt) : M.Prt × Int := if 96 < ps.length then (M.nil, 2) else M.allFrom M.nil ps

set_option maxHeartbeats 4000000 in
set_option maxRecDepth 100000 in
theorem all_g (ps : List M.Prt) (a : Option Addr) (c : Nat) (w : World) (h : PartsAt w (.slice a ps.length c) ps) (q : M.Prt) (r : Int) (hq : allOf ps = (q, r)) :
    Calls Tryd.prog 26 #[.slice a ps.length c] w fun e w' =>
      Below w.heap.size w w' ∧ ∃ x1 y1 x2 y2, e = .returned (.tuple #[.agg #[.slice x1 q.frags.length y1, .slice x2 q.defs.length y2], .int .i64 r]) ∧ FragsAt w' (.slice x1 q.frags.length y1) q.frags ∧ DefsAt w' (.slice x2 q.defs.length y2) q.defs := by
  unfold allOf at hq
  by_cases h96 : 96 < ps.length
  · rw [if_pos h96] at hq
    cases hq
    have hd0 : decide (96 < (ps.length : Int)) = true := by simp; omega
    have HB : Hid (Below w.heap.size w (w.alloc (.cells #[.slice none 0 0, .slice none 0 0] 25))) := (Below.refl _ _).alloc (Nat.le_refl _) _
    clear h h96
    go_enter Tryd.func26, Tryd.ntmps26
    go_wp2
    refine bodyPost_ret (v := .tuple #[.agg #[.slice none 0 0, .slice none 0 0], .int .i64 2]) (by simp [results, Tryd.results26, go_sem]) rfl ?_
    exact ⟨HB.out, none, 0, none, 0, rfl, fragsAt_nil _, defsAt_nil _⟩
  · rw [if_neg h96] at hq
    refine (all_any ps a c w h (by omega)).mono ?_
    rintro e w' ⟨hb, es, vF, vD, rfl, hP, hes⟩
    rw [hq] at hP hes ⊢
    have hF := hP.fragsAt
    rw [hes] at hF
    obtain ⟨x1, y1, rfl⟩ := hF.form
    obtain ⟨x2, y2, rfl⟩ := hP.defsAt.form
    exact ⟨hb, x1, y1, x2, y2, rfl, hF, hP.defsAt⟩

/-- Joined, as a walk meets it -/
theorem joined_g {a b : M.Prt} {a1 a2 b1 b2 : Option Addr} {c1 c2 d1 d2 : Nat} {w : World} (hf : FragsAt w (.slice a1 a.frags.length c1) a.frags) (hd : DefsAt w (.slice a2 a.defs.length c2) a.defs)
    (hf' : FragsAt w (.slice b1 b.frags.length d1) b.frags) (hd' : DefsAt w (.slice b2 b.defs.length d2) b.defs) (hoa : M.Ok a) (hob : M.Ok b) (p : M.Prt) (er : Int) (hj : M.join a b = (p, er)) :
    Calls Tryd.prog 27 #[.agg #[.slice a1 a.frags.length c1, .slice a2 a.defs.length c2], .agg #[.slice b1 b.frags.length d1, .slice b2 b.defs.length d2]] w fun e w' =>
      Below w.heap.size w w' ∧ ∃ x1 y1 x2 y2, e = .returned (.tuple #[.agg #[.slice x1 p.frags.length y1, .slice x2 p.defs.length y2], .int .i64 er]) ∧ PV w' p (.slice x1 p.frags.length y1) (.slice x2 p.defs.length y2) := by
  refine (joined_any a b a1 a2 b1 b2 c1 c2 d1 d2 w hf hd hf' hd' hoa hob).mono ?_
  rintro e w' ⟨hb, es, vF, vD, rfl, hP, hes⟩
  rw [hj] at hP hes ⊢
  have hF := hP.fragsAt
  rw [hes] at hF
  obtain ⟨x1, y1, rfl⟩ := hF.form
  obtain ⟨x2, y2, rfl⟩ := hP.defsAt.form
  exact ⟨hb, x1, y1, x2, y2, rfl, _, es, hP, hes⟩

theorem check_g {p : M.Prt} {a1 a2 : Option Addr} {c1 c2 : Nat} {w : World} (hf : FragsAt w (.slice a1 p.frags.length c1) p.frags) (hd : DefsAt w (.slice a2 p.defs.length c2) p.defs) (ck : Int) (hck : M.checkPart p = ck) :
    Calls Tryd.prog 9 #[.agg #[.slice a1 p.frags.length c1, .slice a2 p.defs.length c2]] w fun e w' => e = .returned (.int .i64 ck) ∧ Below w.heap.size w w' := by
  rw [← hck]; exact rcheck_any p.frags p.defs a1 a2 c1 c2 w hf hd

section
variable {w : World} {x1 x2 z1 z2 : Option Addr} {y1 y2 t1 t2 q q' : Nat} {a b : M.Prt}
theorem fin_nn (hA : PV w a (.slice x1 a.frags.length y1) (.slice x2 a.defs.length y2)) (hB : PV w b (.slice z1 b.frags.length t1) (.slice z2 b.defs.length t2)) :
    Var ((w.alloc (.cells #[.slice x1 a.frags.length y1, .slice x2 a.defs.length y2] 25)).alloc (.cells #[.slice z1 b.frags.length t1, .slice z2 b.defs.length t2] 25)) w.heap.size x1 x2 y1 y2 a ∧ Var ((w.alloc (.cells #[.slice x1 a.frags.length y1, .slice x2 a.defs.length y2] 25)).alloc (.cells #[.slice z1 b.frags.length t1, .slice z2 b.defs.length t2] 25)) (w.heap.size + 1) z1 z2 t1 t2 b := by
  have hb1 : Below w.heap.size w (w.alloc (.cells #[.slice x1 a.frags.length y1, .slice x2 a.defs.length y2] 25)) := (Below.refl _ _).alloc (Nat.le_refl _) _
  refine ⟨(var_new hA.fr hA.df).later ((Below.refl _ _).alloc (Nat.le_refl _) _), ?_⟩
  have h := var_new (hB.later hb1).fr (hB.later hb1).df
  rw [World.size_alloc] at h
  exact h
theorem fin_sn {u0 u1 : Value} (hA : PV w a (.slice x1 a.frags.length y1) (.slice x2 a.defs.length y2)) (hB : PV w b (.slice z1 b.frags.length t1) (.slice z2 b.defs.length t2)) (hq : w.heap[q]? = some (.cells #[u0, u1] 25 (0, 0))) :
    Var (((w.setCell ⟨q, 0, none⟩ (.slice x1 a.frags.length y1)).setCell ⟨q, 1, none⟩ (.slice x2 a.defs.length y2)).alloc (.cells #[.slice z1 b.frags.length t1, .slice z2 b.defs.length t2] 25)) q x1 x2 y1 y2 a ∧ Var (((w.setCell ⟨q, 0, none⟩ (.slice x1 a.frags.length y1)).setCell ⟨q, 1, none⟩ (.slice x2 a.defs.length y2)).alloc (.cells #[.slice z1 b.frags.length t1, .slice z2 b.defs.length t2] 25)) w.heap.size z1 z2 t1 t2 b := by
  have hB2 := (hB.set (i := 0) (u := .slice x1 a.frags.length y1) hq).set (i := 1) (u := .slice x2 a.defs.length y2) (setB' hq _)
  refine ⟨(var_set hA hq).later ((Below.refl _ _).alloc (Nat.le_refl _) _), ?_⟩
  have h := var_new hB2.fr hB2.df
  simpa using h
theorem fin_ss {u0 u1 u2 u3 : Value} (hA : PV w a (.slice x1 a.frags.length y1) (.slice x2 a.defs.length y2)) (hB : PV w b (.slice z1 b.frags.length t1) (.slice z2 b.defs.length t2)) (hq : w.heap[q]? = some (.cells #[u0, u1] 25 (0, 0))) (hq' : w.heap[q']? = some (.cells #[u2, u3] 25 (0, 0))) (hne : q ≠ q') :
    Var ((((w.setCell ⟨q, 0, none⟩ (.slice x1 a.frags.length y1)).setCell ⟨q, 1, none⟩ (.slice x2 a.defs.length y2)).setCell ⟨q', 0, none⟩ (.slice z1 b.frags.length t1)).setCell ⟨q', 1, none⟩ (.slice z2 b.defs.length t2)) q x1 x2 y1 y2 a ∧ Var ((((w.setCell ⟨q, 0, none⟩ (.slice x1 a.frags.length y1)).setCell ⟨q, 1, none⟩ (.slice x2 a.defs.length y2)).setCell ⟨q', 0, none⟩ (.slice z1 b.frags.length t1)).setCell ⟨q', 1, none⟩ (.slice z2 b.defs.length t2)) q' z1 z2 t1 t2 b := by
  have hV := var_set hA hq
  have hq2 : ((w.setCell ⟨q, 0, none⟩ (.slice x1 a.frags.length y1)).setCell ⟨q, 1, none⟩ (.slice x2 a.defs.length y2)).heap[q']? = some (.cells #[u2, u3] 25 (0, 0)) := (Below.heap_setCell _ _ _ _ (fun e => hne e.symm)).trans ((Below.heap_setCell _ _ _ _ (fun e => hne e.symm)).trans hq')
  have hA2 := (hA.set (i := 0) (u := .slice x1 a.frags.length y1) hq).set (i := 1) (u := .slice x2 a.defs.length y2) (setB' hq _)
  have hB2 := (hB.set (i := 0) (u := .slice x1 a.frags.length y1) hq).set (i := 1) (u := .slice x2 a.defs.length y2) (setB' hq _)
  exact ⟨var_keep hA2 hV.blk hq2 hne, var_set hB2 hq2⟩
end

set_option maxHeartbeats 8000000 in
set_option maxRecDepth 100000 in
theorem joins_law (a b : M.Prt) (ps : List M.Prt) (a1 a2 b1 b2 l1 : Option Addr) (c1 c2 d1 d2 l2 : Nat) (w : World) (hf : FragsAt w (.slice a1 a.frags.length c1) a.frags) (hd : DefsAt w (.slice a2 a.defs.length c2) a.defs)
    (hf' : FragsAt w (.slice b1 b.frags.length d1) b.frags) (hd' : DefsAt w (.slice b2 b.defs.length d2) b.defs) (hl : PartsAt w (.slice l1 ps.length l2) ps) (hra : Room a) (hrb : Room b) :
    Calls Tryd.prog 5 #[.agg #[.slice a1 a.frags.length c1, .slice a2 a.defs.length c2], .agg #[.slice b1 b.frags.length d1, .slice b2 b.defs.length d2], .slice l1 ps.length l2] w fun e w' => e = .returned (.bool true) ∧ Below w.heap.size w w' := by
  go_enter Tryd.func5, Tryd.ntmps5
  go_upto_region 1 with fail
  have HX : Hid (∃ X, X = (w.alloc (.cells #[.slice a1 a.frags.length c1, .slice a2 a.defs.length c2] 25)).alloc (.cells #[.slice b1 b.frags.length d1, .slice b2 b.defs.length d2] 25) ∧ X.heap[w.heap.size]? = some (.cells #[.slice a1 a.frags.length c1, .slice a2 a.defs.length c2] 25 (0, 0)) ∧ X.heap[w.heap.size + 1]? = some (.cells #[.slice b1 b.frags.length d1, .slice b2 b.defs.length d2] 25 (0, 0)) ∧ Below w.heap.size w X) :=
    ⟨_, rfl, heap_alloc2_old _ _ _, heap_alloc2_new _ _ _, ((Below.refl _ _).alloc (Nat.le_refl _) _).alloc (by simp) _⟩
  obtain ⟨X, hX, hb3, hb4, hwX⟩ := HX.out
  rw [← hX]
  clear hX HX
  have hl3 : w.heap.size < X.heap.size := (Array.getElem?_eq_some_iff.1 hb3).1
  have hl4 : w.heap.size + 1 < X.heap.size := (Array.getElem?_eq_some_iff.1 hb4).1
  have HS : Hid (∀ W, Below X.heap.size X W → (W.cell? ⟨w.heap.size, 0, none⟩ = some (.slice a1 a.frags.length c1) ∧ W.cell? ⟨w.heap.size, 1, none⟩ = some (.slice a2 a.defs.length c2) ∧ W.cell? ⟨w.heap.size + 1, 0, none⟩ = some (.slice b1 b.frags.length d1) ∧ W.cell? ⟨w.heap.size + 1, 1, none⟩ = some (.slice b2 b.defs.length d2))) := fun W hW =>
    ⟨cellB ((hW.block _ hl3).trans hb3) 0, cellB ((hW.block _ hl3).trans hb3) 1, cellB ((hW.block _ hl4).trans hb4) 0, cellB ((hW.block _ hl4).trans hb4) 1⟩
  have KA : Hid (∀ W, Below X.heap.size X W → Calls Tryd.prog 24 #[.agg #[.slice a1 a.frags.length c1, .slice a2 a.defs.length c2]] W fun e w' => Below W.heap.size W w' ∧ ∃ x1 y1 x2 y2 es, e = .returned (.agg #[.slice x1 a.frags.length y1, .slice x2 a.defs.length y2]) ∧ PR w' W.heap.size es a.defs (.slice x1 a.frags.length y1) (.slice x2 a.defs.length y2) ∧ es.map (·.f) = a.frags) := fun W hW => own_g ((hf.later hwX).later hW) ((hd.later hwX).later hW) hra
  have KB : Hid (∀ W, Below X.heap.size X W → Calls Tryd.prog 24 #[.agg #[.slice b1 b.frags.length d1, .slice b2 b.defs.length d2]] W fun e w' => Below W.heap.size W w' ∧ ∃ x1 y1 x2 y2 es, e = .returned (.agg #[.slice x1 b.frags.length y1, .slice x2 b.defs.length y2]) ∧ PR w' W.heap.size es b.defs (.slice x1 b.frags.length y1) (.slice x2 b.defs.length y2) ∧ es.map (·.f) = b.frags) := fun W hW => own_g ((hf'.later hwX).later hW) ((hd'.later hwX).later hW) hrb
  have Hf : Hid (FragsAt w (.slice a1 a.frags.length c1) a.frags ∧ DefsAt w (.slice a2 a.defs.length c2) a.defs ∧ FragsAt w (.slice b1 b.frags.length d1) b.frags ∧ DefsAt w (.slice b2 b.defs.length d2) b.defs ∧ PartsAt w (.slice l1 ps.length l2) ps) := ⟨hf, hd, hf', hd', hl⟩
  have HX0 : Hid (X.heap[w.heap.size]? = some (.cells #[.slice a1 a.frags.length c1, .slice a2 a.defs.length c2] 25 (0, 0)) ∧ X.heap[w.heap.size + 1]? = some (.cells #[.slice b1 b.frags.length d1, .slice b2 b.defs.length d2] 25 (0, 0)) ∧ Below w.heap.size w X) := ⟨hb3, hb4, hwX⟩
  have hA0 : Below X.heap.size X X.drew := (Below.refl _ _).drew
  have hA1 : Below X.heap.size X (X.drew.alloc (.cells #[.slice none 0 0, .slice none 0 0] 25)) := hA0.alloc (Nat.le_refl _) _
  have hA2 : Below X.heap.size X ((X.drew.alloc (.cells #[.slice none 0 0, .slice none 0 0] 25)).alloc (.cells #[.slice none 0 0, .slice none 0 0] 25)) := hA1.alloc hA1.size _
  clear hf hd hf' hd' hl hb3 hb4 hwX hra hrb
  go_cut [7, 8] (fun s7 s8 wx => ∃ q7 q8 x1 y1 x2 y2 z1 t1 z2 t2, s7 = .pointer (some ⟨q7, 0, none⟩) ∧ s8 = .pointer (some ⟨q8, 0, none⟩) ∧ Hid (Var wx q7 x1 x2 y1 y2 a) ∧ Hid (Var wx q8 z1 z2 t1 t2 b) ∧ Hid (Below X.heap.size X wx))
  case first =>
    go_region_held3 (fun w' => w'.cell? ⟨w.heap.size, 0, none⟩ = some (.slice a1 a.frags.length c1) ∧ w'.cell? ⟨w.heap.size, 1, none⟩ = some (.slice a2 a.defs.length c2) ∧ w'.cell? ⟨w.heap.size + 1, 0, none⟩ = some (.slice b1 b.frags.length d1) ∧ w'.cell? ⟨w.heap.size + 1, 1, none⟩ = some (.slice b2 b.defs.length d2)) ((refine HS.out _ ?_; repeat' (first | exact hX2 | exact hX1 | exact hA0 | exact hA1 | exact hA2 | refine Below.setCell ?_ ?_ _ | refine Below.alloc ?_ ?_ _ | exact Nat.le_refl _ | exact hz2 | exact hz1 | exact Nat.le_succ _ | exact Nat.le_succ_of_le hz1 | exact Nat.le_succ_of_le hz2 | (simp; omega)))) (first | (have hm := hX1; clear hm; go_at_call 24; refine (KB.out _ (by first | exact hX1 | exact hX1.alloc hX1.size _ | exact (hX1.alloc hX1.size _).alloc (hX1.alloc hX1.size _).size _)).mono ?_; rintro e w2 ⟨hbB, z1, t1, z2, t2, es2, rfl, hP2, he2⟩; have hX2 : Below X.heap.size X w2 := (by first | exact hX1.trans (hbB.mono hX1.size) | exact (hX1.alloc hX1.size _).trans (hbB.mono (hX1.alloc hX1.size _).size) | exact ((hX1.alloc hX1.size _).alloc (hX1.alloc hX1.size _).size _).trans (hbB.mono ((hX1.alloc hX1.size _).alloc (hX1.alloc hX1.size _).size _).size)); have hz2 : X.heap.size ≤ w2.heap.size := hX2.size; have hB12 : Below w1.heap.size w1 w2 := (by first | exact hbB | exact ((Below.refl _ _).alloc (Nat.le_refl _) _).trans (hbB.mono (by simp)) | exact (((Below.refl _ _).alloc (Nat.le_refl _) _).alloc (by simp) _).trans (hbB.mono (by simp; omega))); (try (have r0 : Blk w2 X.heap.size := Blk.later (by first | exact p0 | exact p0.old _ | exact (p0.old _).old _) hbB; have r00 := r0.k0; have r01 := r0.k1; have r02 := r0.f0; have r03 := r0.f1; have r04 := r0.lt; have r05 := Nat.ne_of_lt r04; have r06 := Nat.ne_of_gt r04; have R0 : Blk (w2.alloc (.cells #[.slice none 0 0, .slice none 0 0] 25)) X.heap.size := r0.old _; have R00 := R0.k0; have R01 := R0.k1; have R02 := R0.f0; have R03 := R0.f1)); (try (have r1 : Blk w2 (X.heap.size + 1) := Blk.later (by first | exact p1 | exact p1.old _ | exact (p1.old _).old _) hbB; have r10 := r1.k0; have r11 := r1.k1; have r12 := r1.f0; have r13 := r1.f1; have r14 := r1.lt; have r15 := Nat.ne_of_lt r14; have r16 := Nat.ne_of_gt r14; have R1 : Blk (w2.alloc (.cells #[.slice none 0 0, .slice none 0 0] 25)) (X.heap.size + 1) := r1.old _; have R10 := R1.k0; have R11 := R1.k1; have R12 := R1.f0; have R13 := R1.f1)); (try (have s0 : Blk w2 w1.heap.size := Blk.later (by first | exact blk_new w1 | exact (blk_new w1).old _) hbB; have s00 := s0.k0; have s01 := s0.k1; have s02 := s0.f0; have s03 := s0.f1; have s04 := s0.lt; have s05 := Nat.ne_of_lt s04; have s06 := Nat.ne_of_gt s04; have S0 : Blk (w2.alloc (.cells #[.slice none 0 0, .slice none 0 0] 25)) w1.heap.size := s0.old _; have S00 := S0.k0; have S01 := S0.k1; have S02 := S0.f0; have S03 := S0.f1)); (try (have s1 : Blk w2 (w1.heap.size + 1) := Blk.later (blk_new2 w1) hbB; have s10 := s1.k0; have s11 := s1.k1; have s12 := s1.f0; have s13 := s1.f1; have s14 := s1.lt; have s15 := Nat.ne_of_lt s14; have s16 := Nat.ne_of_gt s14; have S1 : Blk (w2.alloc (.cells #[.slice none 0 0, .slice none 0 0] 25)) (w1.heap.size + 1) := s1.old _; have S10 := S1.k0; have S11 := S1.k1; have S12 := S1.f0; have S13 := S1.f1)); have v0 : Blk ((w2.alloc (.cells #[.slice none 0 0, .slice none 0 0] 25)).alloc (.cells #[.slice none 0 0, .slice none 0 0] 25)) w2.heap.size := (blk_new w2).old _; have v00 := v0.k0; have v01 := v0.k1; have v02 := v0.f0; have v03 := v0.f1; have v1 : Blk ((w2.alloc (.cells #[.slice none 0 0, .slice none 0 0] 25)).alloc (.cells #[.slice none 0 0, .slice none 0 0] 25)) (w2.heap.size + 1) := (blk_new2 w2); have v10 := v1.k0; have v11 := v1.k1; have v12 := v1.f0; have v13 := v1.f1; have h12 : X.heap.size ≤ w1.heap.size := hX1.size; (try (have h13 : X.heap.size ≠ w1.heap.size := Nat.ne_of_lt p0.lt; have h14 : w1.heap.size ≠ X.heap.size := h13.symm))) | (go_at_call 24; refine (KA.out _ (by first | exact hA0 | exact hA0.alloc hA0.size _ | exact (hA0.alloc hA0.size _).alloc (hA0.alloc hA0.size _).size _)).mono ?_; rintro e w1 ⟨hbA, x1, y1, x2, y2, es1, rfl, hP1, he1⟩; have hX1 : Below X.heap.size X w1 := (by first | exact hA0.trans (hbA.mono hA0.size) | exact (hA0.alloc hA0.size _).trans (hbA.mono (hA0.alloc hA0.size _).size) | exact ((hA0.alloc hA0.size _).alloc (hA0.alloc hA0.size _).size _).trans (hbA.mono ((hA0.alloc hA0.size _).alloc (hA0.alloc hA0.size _).size _).size)); have hz1 : X.heap.size ≤ w1.heap.size := hX1.size; (try (have p0 : Blk w1 X.heap.size := Blk.later (by first | exact blk_new X.drew | exact (blk_new X.drew).old _) hbA)); (try (have p1 : Blk w1 (X.heap.size + 1) := Blk.later (blk_new2 X.drew) hbA))))
    all_goals
      have hA : PV w2 a (.slice x1 a.frags.length y1) (.slice x2 a.defs.length y2) := ⟨_, es1, hP1.later hB12, he1⟩
      have hB : PV w2 b (.slice z1 b.frags.length t1) (.slice z2 b.defs.length t2) := ⟨_, es2, hP2, he2⟩
      go_wp2_with fail
      go_meet
      first
        | exact ⟨_, _, x1, y1, x2, y2, z1, t1, z2, t2, rfl, rfl, (fin_nn hA hB).1, (fin_nn hA hB).2, (by repeat' (first | exact hX2 | refine Below.setCell ?_ ?_ _ | refine Below.alloc ?_ ?_ _ | exact Nat.le_refl _ | exact hz2 | exact hz1 | exact Nat.le_succ _ | exact Nat.le_succ_of_le hz1 | exact Nat.le_succ_of_le hz2 | (simp; omega)))⟩
        | exact ⟨_, _, x1, y1, x2, y2, z1, t1, z2, t2, rfl, rfl, (fin_nn hB hA).2, (fin_nn hB hA).1, (by repeat' (first | exact hX2 | refine Below.setCell ?_ ?_ _ | refine Below.alloc ?_ ?_ _ | exact Nat.le_refl _ | exact hz2 | exact hz1 | exact Nat.le_succ _ | exact Nat.le_succ_of_le hz1 | exact Nat.le_succ_of_le hz2 | (simp; omega)))⟩
        | exact ⟨_, _, x1, y1, x2, y2, z1, t1, z2, t2, rfl, rfl, (fin_sn hA hB s0).1, (fin_sn hA hB s0).2, (by repeat' (first | exact hX2 | refine Below.setCell ?_ ?_ _ | refine Below.alloc ?_ ?_ _ | exact Nat.le_refl _ | exact hz2 | exact hz1 | exact Nat.le_succ _ | exact Nat.le_succ_of_le hz1 | exact Nat.le_succ_of_le hz2 | (simp; omega)))⟩
        | exact ⟨_, _, x1, y1, x2, y2, z1, t1, z2, t2, rfl, rfl, (fin_sn hB hA s0).2, (fin_sn hB hA s0).1, (by repeat' (first | exact hX2 | refine Below.setCell ?_ ?_ _ | refine Below.alloc ?_ ?_ _ | exact Nat.le_refl _ | exact hz2 | exact hz1 | exact Nat.le_succ _ | exact Nat.le_succ_of_le hz1 | exact Nat.le_succ_of_le hz2 | (simp; omega)))⟩
        | exact ⟨_, _, x1, y1, x2, y2, z1, t1, z2, t2, rfl, rfl, (fin_sn hA hB r0).1, (fin_sn hA hB r0).2, (by repeat' (first | exact hX2 | refine Below.setCell ?_ ?_ _ | refine Below.alloc ?_ ?_ _ | exact Nat.le_refl _ | exact hz2 | exact hz1 | exact Nat.le_succ _ | exact Nat.le_succ_of_le hz1 | exact Nat.le_succ_of_le hz2 | (simp; omega)))⟩
        | exact ⟨_, _, x1, y1, x2, y2, z1, t1, z2, t2, rfl, rfl, (fin_sn hB hA r0).2, (fin_sn hB hA r0).1, (by repeat' (first | exact hX2 | refine Below.setCell ?_ ?_ _ | refine Below.alloc ?_ ?_ _ | exact Nat.le_refl _ | exact hz2 | exact hz1 | exact Nat.le_succ _ | exact Nat.le_succ_of_le hz1 | exact Nat.le_succ_of_le hz2 | (simp; omega)))⟩
        | exact ⟨_, _, x1, y1, x2, y2, z1, t1, z2, t2, rfl, rfl, (fin_ss hA hB s0 s1 (by omega)).1, (fin_ss hA hB s0 s1 (by omega)).2, (by repeat' (first | exact hX2 | refine Below.setCell ?_ ?_ _ | refine Below.alloc ?_ ?_ _ | exact Nat.le_refl _ | exact hz2 | exact hz1 | exact Nat.le_succ _ | exact Nat.le_succ_of_le hz1 | exact Nat.le_succ_of_le hz2 | (simp; omega)))⟩
        | exact ⟨_, _, x1, y1, x2, y2, z1, t1, z2, t2, rfl, rfl, (fin_ss hA hB s1 s0 (by omega)).1, (fin_ss hA hB s1 s0 (by omega)).2, (by repeat' (first | exact hX2 | refine Below.setCell ?_ ?_ _ | refine Below.alloc ?_ ?_ _ | exact Nat.le_refl _ | exact hz2 | exact hz1 | exact Nat.le_succ _ | exact Nat.le_succ_of_le hz1 | exact Nat.le_succ_of_le hz2 | (simp; omega)))⟩
        | exact ⟨_, _, x1, y1, x2, y2, z1, t1, z2, t2, rfl, rfl, (fin_ss hA hB r0 s0 (by omega)).1, (fin_ss hA hB r0 s0 (by omega)).2, (by repeat' (first | exact hX2 | refine Below.setCell ?_ ?_ _ | refine Below.alloc ?_ ?_ _ | exact Nat.le_refl _ | exact hz2 | exact hz1 | exact Nat.le_succ _ | exact Nat.le_succ_of_le hz1 | exact Nat.le_succ_of_le hz2 | (simp; omega)))⟩
        | exact ⟨_, _, x1, y1, x2, y2, z1, t1, z2, t2, rfl, rfl, (fin_ss hA hB s0 r0 (by omega)).1, (fin_ss hA hB s0 r0 (by omega)).2, (by repeat' (first | exact hX2 | refine Below.setCell ?_ ?_ _ | refine Below.alloc ?_ ?_ _ | exact Nat.le_refl _ | exact hz2 | exact hz1 | exact Nat.le_succ _ | exact Nat.le_succ_of_le hz1 | exact Nat.le_succ_of_le hz2 | (simp; omega)))⟩
        | exact ⟨_, _, x1, y1, x2, y2, z1, t1, z2, t2, rfl, rfl, (fin_ss hA hB r0 r1 (by omega)).1, (fin_ss hA hB r0 r1 (by omega)).2, (by repeat' (first | exact hX2 | refine Below.setCell ?_ ?_ _ | refine Below.alloc ?_ ?_ _ | exact Nat.le_refl _ | exact hz2 | exact hz1 | exact Nat.le_succ _ | exact Nat.le_succ_of_le hz1 | exact Nat.le_succ_of_le hz2 | (simp; omega)))⟩
        | exact ⟨_, _, x1, y1, x2, y2, z1, t1, z2, t2, rfl, rfl, (fin_ss hA hB r1 r0 (by omega)).1, (fin_ss hA hB r1 r0 (by omega)).2, (by repeat' (first | exact hX2 | refine Below.setCell ?_ ?_ _ | refine Below.alloc ?_ ?_ _ | exact Nat.le_refl _ | exact hz2 | exact hz1 | exact Nat.le_succ _ | exact Nat.le_succ_of_le hz1 | exact Nat.le_succ_of_le hz2 | (simp; omega)))⟩
  case rest =>
    rename World => W0
    obtain ⟨q7, q8, x1, y1, x2, y2, z1, t1, z2, t2, rfl, rfl, HV7, HV8, HBx⟩ := hcut
    obtain ⟨p, er, hj⟩ : ∃ p er, M.join a b = (p, er) := ⟨_, _, rfl⟩
    obtain ⟨pq, rq, hq⟩ : ∃ q r, allOf ps = (q, r) := ⟨_, _, rfl⟩
    obtain ⟨ca, hca⟩ : ∃ c, M.checkPart a = c := ⟨_, rfl⟩
    obtain ⟨cb, hcb⟩ : ∃ c, M.checkPart b = c := ⟨_, rfl⟩
    have Hj : Hid (M.join a b = (p, er)) := hj
    have Hq : Hid (allOf ps = (pq, rq)) := hq
    have Hca : Hid (M.checkPart a = ca) := hca
    have Hcb : Hid (M.checkPart b = cb) := hcb
    clear hj hq hca hcb hA0 hA1 hA2 KA KB HS
    have HA : Hid (∀ W, Below W0.heap.size W0 W → Var W w.heap.size a1 a2 c1 c2 a ∧ Var W (w.heap.size + 1) b1 b2 d1 d2 b ∧ PartsAt W (.slice l1 ps.length l2) ps ∧ Below w.heap.size w W) := fun W hW => by
      have hXW := HBx.out.trans (hW.mono HBx.out.size)
      have hwW := HX0.out.2.2.trans (hXW.mono HX0.out.2.2.size)
      exact ⟨⟨(hXW.block _ hl3).trans HX0.out.1, Hf.out.1.later hwW, Hf.out.2.1.later hwW⟩, ⟨(hXW.block _ hl4).trans HX0.out.2.1, Hf.out.2.2.1.later hwW, Hf.out.2.2.2.1.later hwW⟩, Hf.out.2.2.2.2.later hwW, hwW⟩
    have hl3c : w.heap.size < W0.heap.size := Nat.lt_of_lt_of_le hl3 HBx.out.size
    have hl4c : w.heap.size + 1 < W0.heap.size := Nat.lt_of_lt_of_le hl4 HBx.out.size
    clear HX0 Hf HBx hl3 hl4
    have k70 := HV7.out.c0
    have k71 := HV7.out.c1
    have k80 := HV8.out.c0
    have k81 := HV8.out.c1
    have KJ : Hid (Calls Tryd.prog 25 #[.agg #[.slice x1 a.frags.length y1, .slice x2 a.defs.length y2], .agg #[.slice z1 b.frags.length t1, .slice z2 b.defs.length t2]] W0 _) := join_v HV7.out.fr HV7.out.df HV8.out.fr HV8.out.df p er Hj.out
    go_upto_region 3 with (go_at_call 25; refine KJ.out.mono ?_; rintro e w1 ⟨hb1, f1, f3, f2, f4, rfl, hF, hD⟩)
    have V9 := var_new hF hD
    have HB1 : Hid (Below W0.heap.size W0 (w1.alloc (.cells #[.slice f1 p.frags.length f3, .slice f2 p.defs.length f4] 25))) := hb1.alloc hb1.size _
    clear hF hD KJ hb1 k70 k71 k80 k81
    generalize w1.alloc (.cells #[.slice f1 p.frags.length f3, .slice f2 p.defs.length f4] 25) = X1 at *
    generalize w1.heap.size = n9 at *
    have V9 : Hid (Var X1 n9 f1 f2 f3 f4 p) := V9
    have KQ : Hid (Calls Tryd.prog 26 #[.slice l1 ps.length l2] X1 _) := all_g ps l1 l2 X1 (HA.out _ HB1.out).2.2.1 pq rq Hq.out
    go_upto_region 4 with (go_at_call 26; refine KQ.out.mono ?_; rintro e w2 ⟨hb2, g1, g3, g2, g4, rfl, hF, hD⟩)
    have V11 := var_new hF hD
    have HB2 : Below X1.heap.size X1 (w2.alloc (.cells #[.slice g1 pq.frags.length g3, .slice g2 pq.defs.length g4] 25)) := hb2.alloc hb2.size _
    clear hF hD KQ hb2
    generalize w2.alloc (.cells #[.slice g1 pq.frags.length g3, .slice g2 pq.defs.length g4] 25) = X2 at *
    generalize w2.heap.size = n11 at *
    have V11 : Hid (Var X2 n11 g1 g2 g3 g4 pq) := V11
    have V9 : Hid (Var X2 n9 f1 f2 f3 f4 p) := V9.out.later HB2
    have HBc : Hid (Below W0.heap.size W0 X2) := HB1.out.trans (HB2.mono HB1.out.size)
    clear HB1 HB2
    have hlX : w.heap.size < X2.heap.size ∧ w.heap.size + 1 < X2.heap.size ∧ q7 < X2.heap.size ∧ q8 < X2.heap.size := ⟨Nat.lt_of_lt_of_le hl3c HBc.out.size, Nat.lt_of_lt_of_le hl4c HBc.out.size, Nat.lt_of_lt_of_le HV7.out.lt HBc.out.size, Nat.lt_of_lt_of_le HV8.out.lt HBc.out.size⟩
    obtain ⟨hlXa, hlXb, hlX7, hlX8⟩ := hlX
    go_wp2_with (go_at_call 20; refine (spliced_any X2).mono ?_; rintro e w3 ⟨rfl, hb3⟩; refine Hid.out ?_)
    have HB3 : Hid (Below W0.heap.size W0 w3) := HBc.out.trans (hb3.mono HBc.out.size)
    have W7 := HV7.out.later HB3.out
    have WA := (HA.out _ HB3.out).1
    have V9 : Hid (Var w3 n9 f1 f2 f3 f4 p) := V9.out.later hb3
    have V11 : Hid (Var w3 n11 g1 g2 g3 g4 pq) := V11.out.later hb3
    clear hb3 HBc
    have k70 := W7.c0
    have k71 := W7.c1
    have ka0 := WA.c0
    have ka1 := WA.c1
    have KS : Hid (Calls Tryd.prog 11 #[.agg #[.slice x1 a.frags.length y1, .slice x2 a.defs.length y2], .agg #[.slice a1 a.frags.length c1, .slice a2 a.defs.length c2]] w3 fun e w' => e = .returned (.bool true) ∧ Below w3.heap.size w3 w') := same_self W7.fr W7.df WA.fr WA.df
    clear W7 WA
    refine Lib.hid ?_
    go_wp2_with (go_at_call 11; refine KS.out.mono ?_; rintro e w4 ⟨rfl, hb4⟩; refine Hid.out ?_)
    have HB4 : Hid (Below W0.heap.size W0 w4) := HB3.out.trans (hb4.mono HB3.out.size)
    have W8 := HV8.out.later HB4.out
    have WB := (HA.out _ HB4.out).2.1
    have V9 : Hid (Var w4 n9 f1 f2 f3 f4 p) := V9.out.later hb4
    have V11 : Hid (Var w4 n11 g1 g2 g3 g4 pq) := V11.out.later hb4
    clear hb4 HB3 k70 k71 ka0 ka1 KS
    have k80 := W8.c0
    have k81 := W8.c1
    have kb0 := WB.c0
    have kb1 := WB.c1
    have KS : Hid (Calls Tryd.prog 11 #[.agg #[.slice z1 b.frags.length t1, .slice z2 b.defs.length t2], .agg #[.slice b1 b.frags.length d1, .slice b2 b.defs.length d2]] w4 fun e w' => e = .returned (.bool true) ∧ Below w4.heap.size w4 w') := same_self W8.fr W8.df WB.fr WB.df
    clear W8 WB
    refine Lib.hid ?_
    go_upto_region 6 with (go_at_call 11; refine KS.out.mono ?_; rintro e w5 ⟨rfl, hb5⟩)
    have HB5 : Hid (Below W0.heap.size W0 w5) := HB4.out.trans (hb5.mono HB4.out.size)
    have V9 : Hid (Var w5 n9 f1 f2 f3 f4 p) := V9.out.later hb5
    have V11 : Hid (Var w5 n11 g1 g2 g3 g4 pq) := V11.out.later hb5
    clear hb5 HB4 k80 k81 kb0 kb1 KS HV7 HV8
    have WA := (HA.out _ HB5.out).1
    have ka0 := WA.c0
    have ka1 := WA.c1
    have KC : Hid (Calls Tryd.prog 9 #[.agg #[.slice a1 a.frags.length c1, .slice a2 a.defs.length c2]] w5 fun e w' => e = .returned (.int .i64 ca) ∧ Below w5.heap.size w5 w') := check_g WA.fr WA.df ca Hca.out
    clear WA
    go_upto_if 51 with (go_at_call 9; refine KC.out.mono ?_; rintro e w6 ⟨rfl, hb6⟩)
    have HB6 : Hid (Below W0.heap.size W0 w6) := HB5.out.trans (hb6.mono HB5.out.size)
    have V9 : Hid (Var w6 n9 f1 f2 f3 f4 p) := V9.out.later hb6
    have V11 : Hid (Var w6 n11 g1 g2 g3 g4 pq) := V11.out.later hb6
    clear hb6 HB5 ka0 ka1 KC
    obtain ⟨bd, hbd⟩ : ∃ bd, (if ca = 0 then cb else ca) = bd := ⟨_, rfl⟩
    have HJ : Hid ((bd = 0 ∧ M.Ok a ∧ M.Ok b) ∨ (bd ≠ 0 ∧ p = M.nil ∧ er = bd)) := by
      have h := Hj.out
      unfold M.join at h
      rw [Hca.out, Hcb.out] at h
      by_cases h1 : ca = 0
      · rw [if_pos h1] at hbd h
        subst hbd
        by_cases h2 : cb = 0
        · exact .inl ⟨h2, (M.ok_iff a).1 (Hca.out.trans h1), (M.ok_iff b).1 (Hcb.out.trans h2)⟩
        · rw [if_neg h2] at h
          cases h
          exact .inr ⟨h2, rfl, rfl⟩
      · rw [if_neg h1] at hbd h
        subst hbd
        cases h
        exact .inr ⟨h1, rfl, rfl⟩
    go_cut [13] (fun s13 wx => s13 = .int .i64 bd ∧ Hid (Below w6.heap.size w6 wx))
    case first =>
      by_cases h1 : ca = 0
      · rw [if_pos h1] at hbd
        subst hbd h1
        have WB := (HA.out _ HB6.out).2.1
        have kb0 := WB.c0
        have kb1 := WB.c1
        have KC : Hid (Calls Tryd.prog 9 #[.agg #[.slice b1 b.frags.length d1, .slice b2 b.defs.length d2]] w6 fun e w' => e = .returned (.int .i64 cb) ∧ Below w6.heap.size w6 w') := check_g WB.fr WB.df cb Hcb.out
        clear WB
        go_wp2_with (go_at_call 9; refine KC.out.mono ?_; rintro e w7 ⟨rfl, hb7⟩)
        go_meet
        exact ⟨rfl, hb7⟩
      · rw [if_neg h1] at hbd
        subst hbd
        have hne : (ca == 0) = false := by simpa using h1
        go_wp2_with fail
        go_meet
        exact ⟨rfl, Below.refl _ _⟩
    case rest =>
      rename World => W7
      obtain ⟨rfl, HBw⟩ := hcut
      have HB7 : Hid (Below W0.heap.size W0 W7) := HB6.out.trans (HBw.out.mono HB6.out.size)
      have V9 : Hid (Var W7 n9 f1 f2 f3 f4 p) := V9.out.later HBw.out
      have V11 : Hid (Var W7 n11 g1 g2 g3 g4 pq) := V11.out.later HBw.out
      clear HB6 HBw hbd
      have hlWa : w.heap.size < W7.heap.size := Nat.lt_of_lt_of_le hl3c HB7.out.size
      have hlWb : w.heap.size + 1 < W7.heap.size := Nat.lt_of_lt_of_le hl4c HB7.out.size
      go_upto_if 56 with fail
      have HBk : Hid (Blk (W7.alloc (.cells #[.slice none 0 0, .slice none 0 0] 25)) W7.heap.size) := blk_new W7
      have HBy : Hid (Below W7.heap.size W7 (W7.alloc (.cells #[.slice none 0 0, .slice none 0 0] 25))) := (Below.refl _ _).alloc (Nat.le_refl _) _
      go_cut [13] (fun s13 wx => ∃ h1 h3 h2 h4, s13 = .int .i64 er ∧ Hid (Var wx W7.heap.size h1 h2 h3 h4 p) ∧ Hid (Below W7.heap.size W7 wx))
      case first =>
        rcases HJ.out with ⟨h0, hoa, hob⟩ | ⟨h0, hp, he⟩
        · subst h0
          have WA := (HA.out _ HB7.out).1.later HBy.out
          have WB := (HA.out _ HB7.out).2.1.later HBy.out
          have ka0 := WA.c0
          have ka1 := WA.c1
          have kb0 := WB.c0
          have kb1 := WB.c1
          have KD : Hid (Calls Tryd.prog 27 #[.agg #[.slice a1 a.frags.length c1, .slice a2 a.defs.length c2], .agg #[.slice b1 b.frags.length d1, .slice b2 b.defs.length d2]] (W7.alloc (.cells #[.slice none 0 0, .slice none 0 0] 25)) _) := joined_g WA.fr WA.df WB.fr WB.df hoa hob p er Hj.out
          clear WA WB hoa hob HJ
          generalize W7.alloc (.cells #[.slice none 0 0, .slice none 0 0] 25) = Y7 at *
          go_wp2_with (go_at_call 27; refine KD.out.mono ?_; rintro e w8 ⟨hb8, h1, h3, h2, h4, rfl, hP8⟩; have hk8 : Blk w8 W7.heap.size := HBk.out.later hb8; have m0 := hk8.k0; have m1 := hk8.k1; have m2 := hk8.f0; have m3 := hk8.f1)
          go_meet
          exact ⟨h1, h3, h2, h4, rfl, var_set hP8 hk8, ((HBy.out.trans (hb8.mono HBy.out.size)).setCell (Nat.le_refl _) _).setCell (Nat.le_refl _) _⟩
        · subst hp he
          have hne : (er == 0) = false := by simpa using h0
          clear HJ h0
          go_wp2_with fail
          go_meet
          exact ⟨none, 0, none, 0, rfl, ⟨HBk.out, fragsAt_nil _, defsAt_nil _⟩, HBy.out⟩
      case rest =>
        rename World => W8
        obtain ⟨h1, h3, h2, h4, rfl, HV14, HBx⟩ := hcut
        have HB8 : Hid (Below W0.heap.size W0 W8) := HB7.out.trans (HBx.out.mono HB7.out.size)
        have V9 : Var W8 n9 f1 f2 f3 f4 p := V9.out.later HBx.out
        have V11 : Hid (Var W8 n11 g1 g2 g3 g4 pq) := V11.out.later HBx.out
        have k90 := V9.c0
        have k91 := V9.c1
        have k140 := HV14.out.c0
        have k141 := HV14.out.c1
        have KS : Hid (Calls Tryd.prog 11 #[.agg #[.slice f1 p.frags.length f3, .slice f2 p.defs.length f4], .agg #[.slice h1 p.frags.length h3, .slice h2 p.defs.length h4]] W8 fun e w' => e = .returned (.bool true) ∧ Below W8.heap.size W8 w') := same_self V9.fr V9.df HV14.out.fr HV14.out.df
        have hne : (er != er) = false := by simp
        clear HBk HBy HJ HB7 V9 HV14 HBx Hj Hca Hcb hlWa hlWb
        go_upto_if 74 with (go_at_call 11; refine KS.out.mono ?_; rintro e w9 ⟨rfl, hb9⟩)
        have HB9 : Hid (Below W0.heap.size W0 w9) := HB8.out.trans (hb9.mono HB8.out.size)
        have V11 : Hid (Var w9 n11 g1 g2 g3 g4 pq) := V11.out.later hb9
        clear k90 k91 k140 k141 KS hne HB8 hb9
        unfold allOf at Hq
        by_cases h96 : 96 < ps.length
        · rw [if_pos h96] at Hq
          obtain ⟨rfl, rfl⟩ : M.nil = pq ∧ 2 = rq := ⟨congrArg Prod.fst Hq.out, congrArg Prod.snd Hq.out⟩
          have hd0 : decide (96 < (ps.length : Int)) = true := by simp; omega
          have hd1 : decide (96 < ps.length) = true := by simpa using h96
          have hd2 : (96 : Int) < (ps.length : Int) := by omega
          have k110 : w9.cell? ⟨n11, 0, none⟩ = some (.slice g1 0 g3) := V11.out.c0
          have k111 : w9.cell? ⟨n11, 1, none⟩ = some (.slice g2 0 g4) := V11.out.c1
          have KS : Hid (Calls Tryd.prog 11 #[.agg #[.slice g1 0 g3, .slice g2 0 g4], .agg #[.slice none 0 0, .slice none 0 0]] w9 fun e w' => e = .returned (.bool true) ∧ Below w9.heap.size w9 w') := same_self (q := M.nil) V11.out.fr V11.out.df (fragsAt_nil _) (defsAt_nil _)
          clear V11 Hq
          go_wp2_with (go_at_call 11; refine KS.out.mono ?_; rintro e x5 ⟨rfl, hb5⟩)
          go_ret
          exact ⟨rfl, (HA.out _ (HB9.out.trans (hb5.mono HB9.out.size))).2.2.2⟩
        · rw [if_neg h96] at Hq
          have hd0 : decide (96 < (ps.length : Int)) = false := by simp; omega
          have hl96 : ps.length ≤ 96 := by omega
          rw [hd0]
          clear h96 hd0
          go_upto_region 18 with fail
          have HV15 : Hid (Var (w9.alloc (.cells #[.slice none 0 0, .slice none 0 0] 25)) w9.heap.size none none 0 0 M.nil) := ⟨blk_new w9, fragsAt_nil _, defsAt_nil _⟩
          have HBy : Hid (Below w9.heap.size w9 (w9.alloc (.cells #[.slice none 0 0, .slice none 0 0] 25))) := (Below.refl _ _).alloc (Nat.le_refl _) _
          go_loopw [85] (fun s85 wr => ∃ (k : Nat) (acc : M.Prt) (x1 x2 : Option Addr) (y1 y2 : Nat), k ≤ ps.length ∧ s85 = .int .i64 k ∧ Hid (Var wr w9.heap.size x1 x2 y1 y2 acc) ∧ Hid (M.Ok acc) ∧ Hid (M.allFrom acc (ps.drop k) = (pq, rq)) ∧ Hid (Below w9.heap.size w9 wr)) (fun s85 _ => ps.length - (intOf s85).toNat)
          case atStart => exact ⟨0, M.nil, none, none, 0, 0, Nat.zero_le _, rfl, HV15, (M.ok_iff M.nil).1 (by decide +kernel), Hq, HBy⟩
          case round =>
            obtain ⟨k, acc, x1, x2, y1, y2, hk, rfl, HV, HO, HR, HB⟩ := hrel
            clear HV15 HBy Hq
            have hl15 := HV.out.lt
            have HBr : Hid (Below W0.heap.size W0 wr) := HB9.out.trans (HB.out.mono HB9.out.size)
            have V11r : Hid (Var wr n11 g1 g2 g3 g4 pq) := V11.out.later HB.out
            by_cases hlt : k < ps.length
            · obtain ⟨cell, hs, hc⟩ := (HA.out _ HBr.out).2.2.1
              obtain ⟨b', off, rfl, hce⟩ := hs.at k hlt
              obtain ⟨hF', hD'⟩ := hc k hlt
              have e0 := hce 0 (by decide)
              have e1 := hce 1 (by decide)
              rw [Nat.add_zero] at e0
              obtain ⟨x3, y3, hx3⟩ := hF'.form
              obtain ⟨x4, y4, hx4⟩ := hD'.form
              rw [hx3] at e0 hF'
              rw [hx4] at e1 hD'
              have hbr : b' < wr.heap.size := World.block_lt_of_cell? _ _ e0
              have hkl : (k : Int) < (ps.length : Int) := by omega
              have HR1 := HR.out
              rw [drop_getD ps M.nil k hlt] at HR1
              clear HR hs hc hce hx3 hx4
              generalize ps.getD k M.nil = c at *
              have HV17 : Hid (Var (wr.alloc (.cells #[.slice x3 c.frags.length y3, .slice x4 c.defs.length y4] 25)) wr.heap.size x3 x4 y3 y4 c) := var_new hF' hD'
              have HBy : Hid (Below wr.heap.size wr (wr.alloc (.cells #[.slice x3 c.frags.length y3, .slice x4 c.defs.length y4] 25))) := (Below.refl _ _).alloc (Nat.le_refl _) _
              clear hF' hD'
              go_upto_region 20 with fail
              clear e0 e1 hbr
              generalize wr.alloc (.cells #[.slice x3 c.frags.length y3, .slice x4 c.defs.length y4] 25) = Y at *
              have k170 := HV17.out.c0
              have k171 := HV17.out.c1
              obtain ⟨cc, hcc⟩ : ∃ c', M.checkPart c = c' := ⟨_, rfl⟩
              have KC : Hid (Calls Tryd.prog 9 #[.agg #[.slice x3 c.frags.length y3, .slice x4 c.defs.length y4]] Y fun e w' => e = .returned (.int .i64 cc) ∧ Below Y.heap.size Y w') := check_g HV17.out.fr HV17.out.df cc hcc
              obtain ⟨jp, je, hjn⟩ : ∃ p r, M.join acc c = (p, r) := ⟨_, _, rfl⟩
              have Hjn : Hid (M.join acc c = (jp, je)) := hjn
              simp only [M.allFrom, hjn] at HR1
              by_cases h0 : cc = 0
              · subst h0
                have HOc : Hid (M.Ok c) := (M.ok_iff c).1 hcc
                clear hcc hjn
                go_upto_region 22 with (go_at_call 9; refine KC.out.mono ?_; rintro e x5 ⟨rfl, hb5⟩)
                have W17 := HV17.out.later hb5
                have HB5 : Hid (Below wr.heap.size wr x5) := HBy.out.trans (hb5.mono HBy.out.size)
                have W15 := HV.out.later HB5.out
                clear k170 k171 KC HV17 HBy hb5 HV
                have k170 := W17.c0
                have k171 := W17.c1
                have k150 := W15.c0
                have k151 := W15.c1
                have KD : Hid (Calls Tryd.prog 27 #[.agg #[.slice x1 acc.frags.length y1, .slice x2 acc.defs.length y2], .agg #[.slice x3 c.frags.length y3, .slice x4 c.defs.length y4]] x5 _) := joined_g W15.fr W15.df W17.fr W17.df HO.out HOc.out jp je Hjn.out
                have Hb15 : Hid _ := W15.blk
                clear W15 W17
                go_upto_region 23 with (go_at_call 27; refine KD.out.mono ?_; rintro e w8 ⟨hb8, u1, u3, u2, u4, rfl, hP8⟩; have hk8 := (hb8.block _ (Array.getElem?_eq_some_iff.1 Hb15.out).1).trans Hb15.out; have m0 := cellB hk8 0; have m1 := cellB hk8 1; have m2 := frozenB hk8 0; have m3 := frozenB hk8 1)
                have HV2 : Hid _ := var_set hP8 hk8
                have HB8 : Hid (Below w9.heap.size w9 ((w8.setCell ⟨w9.heap.size, 0, none⟩ (.slice u1 jp.frags.length u3)).setCell ⟨w9.heap.size, 1, none⟩ (.slice u2 jp.defs.length u4))) := ((HB.out.trans ((HB5.out.trans (hb8.mono HB5.out.size)).mono HB.out.size)).setCell (Nat.le_refl _) _).setCell (Nat.le_refl _) _
                clear hP8 hk8 hb8 HB5 KD Hb15 m0 m1 m2 m3 k150 k151 k170 k171
                generalize (w8.setCell ⟨w9.heap.size, 0, none⟩ (.slice u1 jp.frags.length u3)).setCell ⟨w9.heap.size, 1, none⟩ (.slice u2 jp.defs.length u4) = Z8 at *
                by_cases hje : je = 0
                · subst hje
                  rw [if_pos rfl] at HR1
                  have HR2 : Hid (M.allFrom jp (ps.drop (k + 1)) = (pq, rq)) := HR1
                  have HO2 : Hid (M.Ok jp) := by
                    have h := (M.join_ok (a := acc) (b := c) (by rw [Hjn.out])).2.2.2.2
                    rw [Hjn.out] at h
                    exact h
                  clear HR1 Hjn
                  go_wp2_with fail
                  go_roundw
                  case rel => exact ⟨k + 1, jp, u1, u2, u3, u4, by omega, by go_num, HV2, HO2, HR2, HB8⟩
                  case measure => simp [intOf]; omega
                · rw [if_neg hje] at HR1
                  obtain ⟨rfl, rfl⟩ : M.nil = pq ∧ je = rq := ⟨congrArg Prod.fst HR1, congrArg Prod.snd HR1⟩
                  have hne : (je != 0) = true := by simpa using hje
                  have heq : (je == je) = true := by simp
                  have V11z := V11.out.later HB8.out
                  have k110 : Z8.cell? ⟨n11, 0, none⟩ = some (.slice g1 0 g3) := V11z.c0
                  have k111 : Z8.cell? ⟨n11, 1, none⟩ = some (.slice g2 0 g4) := V11z.c1
                  have KS : Hid (Calls Tryd.prog 11 #[.agg #[.slice g1 0 g3, .slice g2 0 g4], .agg #[.slice none 0 0, .slice none 0 0]] Z8 fun e w' => e = .returned (.bool true) ∧ Below Z8.heap.size Z8 w') := same_self (q := M.nil) V11z.fr V11z.df (fragsAt_nil _) (defsAt_nil _)
                  have HBz : Hid (Below W0.heap.size W0 Z8) := HB9.out.trans (HB8.out.mono HB9.out.size)
                  clear V11z HB8
                  go_wp2_with (go_at_call 11; refine KS.out.mono ?_; rintro e x6 ⟨rfl, hb6⟩)
                  go_ret
                  exact ⟨rfl, (HA.out _ (HBz.out.trans (hb6.mono HBz.out.size))).2.2.2⟩
              · have hj2 : M.join acc c = (M.nil, cc) := by
                  unfold M.join
                  rw [if_pos ((M.ok_iff acc).2 HO.out), if_neg (by rw [hcc]; exact h0), hcc]
                rw [hjn] at hj2
                obtain ⟨rfl, rfl⟩ : M.nil = jp ∧ cc = je := ⟨(congrArg Prod.fst hj2).symm, (congrArg Prod.snd hj2).symm⟩
                rw [if_neg h0] at HR1
                obtain ⟨rfl, rfl⟩ : M.nil = pq ∧ cc = rq := ⟨congrArg Prod.fst HR1, congrArg Prod.snd HR1⟩
                have hne0 : (cc == 0) = false := by simpa using h0
                have hne : (cc != 0) = true := by simpa using h0
                have heq : (cc == cc) = true := by simp
                clear HR1 hj2 hjn Hjn hcc h0
                go_upto_region 23 with (go_at_call 9; refine KC.out.mono ?_; rintro e x5 ⟨rfl, hb5⟩)
                have HB8 : Hid (Below w9.heap.size w9 x5) := HB.out.trans ((HBy.out.trans (hb5.mono HBy.out.size)).mono HB.out.size)
                have V11z := V11.out.later HB8.out
                clear k170 k171 KC HV17 HBy hb5 HV
                generalize x5 = Z8 at *
                have k110 : Z8.cell? ⟨n11, 0, none⟩ = some (.slice g1 0 g3) := V11z.c0
                have k111 : Z8.cell? ⟨n11, 1, none⟩ = some (.slice g2 0 g4) := V11z.c1
                have KS : Hid (Calls Tryd.prog 11 #[.agg #[.slice g1 0 g3, .slice g2 0 g4], .agg #[.slice none 0 0, .slice none 0 0]] Z8 fun e w' => e = .returned (.bool true) ∧ Below Z8.heap.size Z8 w') := same_self (q := M.nil) V11z.fr V11z.df (fragsAt_nil _) (defsAt_nil _)
                have HBz : Hid (Below W0.heap.size W0 Z8) := HB9.out.trans (HB8.out.mono HB9.out.size)
                clear V11z HB8
                go_wp2_with (go_at_call 11; refine KS.out.mono ?_; rintro e x6 ⟨rfl, hb6⟩)
                go_ret
                exact ⟨rfl, (HA.out _ (HBz.out.trans (hb6.mono HBz.out.size))).2.2.2⟩
            · have hkl : k = ps.length := by omega
              subst hkl
              have hR := HR.out
              rw [List.drop_length] at hR
              obtain ⟨rfl, rfl⟩ : acc = pq ∧ 0 = rq := ⟨congrArg Prod.fst hR, congrArg Prod.snd hR⟩
              have k110 := V11r.out.c0
              have k111 := V11r.out.c1
              have k150 := HV.out.c0
              have k151 := HV.out.c1
              have KS : Hid (Calls Tryd.prog 11 #[.agg #[.slice g1 acc.frags.length g3, .slice g2 acc.defs.length g4], .agg #[.slice x1 acc.frags.length y1, .slice x2 acc.defs.length y2]] wr fun e w' => e = .returned (.bool true) ∧ Below wr.heap.size wr w') := same_self V11r.out.fr V11r.out.df HV.out.fr HV.out.df
              clear hR HR
              go_wp2_with (go_at_call 11; refine KS.out.mono ?_; rintro e x5 ⟨rfl, hb5⟩)
              go_ret
              exact ⟨rfl, (HA.out _ (HBr.out.trans (hb5.mono HBr.out.size))).2.2.2⟩

end Go.Proofs.YthbdfnphnppagaaDoor
