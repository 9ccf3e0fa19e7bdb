/-
  Drop and Groups, as a walk meets them, whatever they answer.
-/
import Derived.Test.YtebhbhbhcoijpaaPrtDrop
namespace Go.Proofs.Ytebhbhbhcoijpaa
open Go.RowKit
set_option linter.unusedVariables false

theorem drop_g {p : M.Prt} {l : List ByteArray} {a1 a2 a3 : Option Addr} {c1 c2 c3 : Nat} {w : World} (hf : FragsAt w (.slice a1 p.frags.length c1) p.frags) (hd : DefsAt w (.slice a2 p.defs.length c2) p.defs) (hl : StrsAt w (.slice a3 l.length c3) l) (q : M.Prt) (er : Int) (hq : dropOf p l = (q, er)) :
    Calls Try.prog 15 #[.agg #[.slice a1 p.frags.length c1, .slice a2 p.defs.length c2], .slice a3 l.length c3] w fun e w' =>
      Below w.heap.size w w' ∧ ∃ x1 y1 x2 y2, e = .returned (.tuple #[.agg #[.slice x1 q.frags.length y1, .slice x2 q.defs.length y2], .int .i64 er]) ∧ FragsAt w' (.slice x1 q.frags.length y1) q.frags ∧ DefsAt w' (.slice x2 q.defs.length y2) q.defs := by
  refine (drop_any p l a1 a2 a3 c1 c2 c3 w hf hd hl).mono ?_
  rintro e w' ⟨hb, es, vF, vD, rfl, hP, hes⟩
  rw [hq] at hP hes ⊢
  have hF := hP.fragsAt
  rw [hes] at hF
  obtain ⟨x1, y1, rfl⟩ := hF.form
  obtain ⟨x2, y2, rfl⟩ := hP.defsAt.form
  exact ⟨hb, x1, y1, x2, y2, rfl, hF, hP.defsAt⟩

theorem groups_g {p : M.Prt} {a1 a2 : Option Addr} {c1 c2 : Nat} {w : World} (hf : FragsAt w (.slice a1 p.frags.length c1) p.frags) (hd : DefsAt w (.slice a2 p.defs.length c2) p.defs) (l : List ByteArray) (hl : (if M.checkPart p = 0 then M.groups p.frags else []) = l) :
    Calls Try.prog 14 #[.agg #[.slice a1 p.frags.length c1, .slice a2 p.defs.length c2]] w fun e w' => Below w.heap.size w w' ∧ ∃ ga gc, e = .returned (.tuple #[.slice ga l.length gc, .int .i64 (M.checkPart p)]) ∧ StrsAt w' (.slice ga l.length gc) l := by
  refine (groupsOf_any p a1 a2 c1 c2 w hf hd).mono ?_
  rintro e w' ⟨hb, v, rfl, hs, _⟩
  rw [hl] at hs
  obtain ⟨x, y, rfl, _⟩ := hs.1.form
  exact ⟨hb, x, y, rfl, hs⟩

end Go.Proofs.Ytebhbhbhcoijpaa
