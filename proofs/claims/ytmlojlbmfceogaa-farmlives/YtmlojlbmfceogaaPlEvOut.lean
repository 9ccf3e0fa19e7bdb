/-
  What Eval answers, as parts in memory.
-/
import Derived.Test.YtmlojlbmfceogaaPlEva
import Derived.Test.YtmlojlbmfceogaaSaA
namespace Go.Proofs.Ytmlojlbmfceogaa
open Go Go.RowKit
set_option linter.unusedVariables false

theorem same_selfP (p : M.Prt) : M.samePart p p = true := by
  have h1 : ∀ l : List M.Rel, M.allTwo M.sameRel l l = true := fun l => by
    induction l with
    | nil => rfl
    | cons x l ih => simp [M.allTwo, M.sameRel, ih]
  have h2 : ∀ l : List Int, M.allTwo (fun x y => x == y) l l = true := fun l => by
    induction l with
    | nil => rfl
    | cons x l ih => simp [M.allTwo, ih]
  have h3 : ∀ l : List M.Frg, M.allTwo M.sameFrg l l = true := fun l => by
    induction l with
    | nil => rfl
    | cons x l ih => simp [M.allTwo, M.sameFrg, h1, h2, ih]
  have h4 : ∀ l : List M.Dfn, M.allTwo M.sameDfn l l = true := fun l => by
    induction l with
    | nil => rfl
    | cons x l ih => simp [M.allTwo, M.sameDfn, ih]
  simp [M.samePart, h3, h4]

theorem EvOut.parts {w0 w' : World} {v : Value} {ps : List M.Prt} (h : EvOut w0 w' v ps) : ∃ a c, v = .slice a ps.length c ∧ PartsAt w' (.slice a ps.length c) ps := by
  obtain ⟨es, rfl, hr, hp⟩ := h.ex
  obtain ⟨a, c, rfl⟩ := own_len hr
  refine ⟨a, c, by rw [List.length_map], ?_⟩
  rw [List.length_map]
  refine ⟨fun j i => (pentCells (es.getD j pent0)).getD i undef, ?_, fun j hj => ?_⟩
  · rw [List.length_map]
    exact row_slice (k := 2) pent0 pentCells (fun _ => rfl) es hr
  · rw [List.length_map] at hj
    obtain ⟨a1, c1, a2, c2, e1, e2, hF, hD⟩ := (hp _ (getD_mem es pent0 j hj)).at
    have e3 : (es.map (·.p)).getD j M.nil = (es.getD j pent0).p := by
      rw [List.getD_eq_getElem?_getD, List.getD_eq_getElem?_getD, List.getElem?_map, List.getElem?_eq_getElem hj]; rfl
    rw [e3]
    exact ⟨by show FragsAt w' (es.getD j pent0).vF _; rw [e1]; exact hF, by show DefsAt w' (es.getD j pent0).vD _; rw [e2]; exact hD⟩

/-- a part in a variable, or in a row -/
structure SmT (X : World) (a1 a2 : Option Addr) (c1 c2 : Nat) (p : M.Prt) : Prop where
  fr : FragsAt X (.slice a1 p.frags.length c1) p.frags
  df : DefsAt X (.slice a2 p.defs.length c2) p.defs

/-- the cells of one part of a row -/
theorem parts_cell {w : World} {a : Option Addr} {c n : Nat} {ps : List M.Prt} (h : PartsAt w (.slice a n c) ps) (hn : ps.length = n) (k : Nat) (hk : k < n) : ∃ b off a1 c1 a2 c2, a = some ⟨b, off, none⟩ ∧ w.cell? ⟨b, off + k * 2, none⟩ = some (.slice a1 (ps.getD k M.nil).frags.length c1) ∧ w.cell? ⟨b, off + k * 2 + 1, none⟩ = some (.slice a2 (ps.getD k M.nil).defs.length c2) ∧ SmT w a1 a2 c1 c2 (ps.getD k M.nil) := by
  subst hn
  obtain ⟨cell, hs, hc⟩ := h
  obtain ⟨b, off, rfl, hce⟩ := hs.at k hk
  obtain ⟨hF, hD⟩ := hc k hk
  have e0 := hce 0 (by decide)
  have e1 := hce 1 (by decide)
  rw [Nat.add_zero] at e0
  obtain ⟨a1, c1, h1⟩ := hF.form
  obtain ⟨a2, c2, h2⟩ := hD.form
  rw [h1] at e0 hF
  rw [h2] at e1 hD
  exact ⟨b, off, a1, c1, a2, c2, rfl, e0, e1, hF, hD⟩

end Go.Proofs.Ytmlojlbmfceogaa
