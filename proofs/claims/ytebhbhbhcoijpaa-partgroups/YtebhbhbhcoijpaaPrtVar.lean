/-
  Variables that hold parts; Join as a walk meets it.
-/
import Derived.Test.YtebhbhbhcoijpaaPrtAll
import Derived.Test.YtebhbhbhcoijpaaPartVar
namespace Go.Proofs.Ytebhbhbhcoijpaa
open Go.RowKit
set_option linter.unusedVariables false

/-- Join, as a walk meets it -/
theorem join_v {a b : M.Prt} {a1 a2 b1 b2 : Option Addr} {c1 c2 d1 d2 : Nat} {w : World} (hf : FragsAt w (.slice a1 a.frags.length c1) a.frags) (hd : DefsAt w (.slice a2 a.defs.length c2) a.defs)
    (hf' : FragsAt w (.slice b1 b.frags.length d1) b.frags) (hd' : DefsAt w (.slice b2 b.defs.length d2) b.defs) (p : M.Prt) (er : Int) (hj : M.join a b = (p, er)) :
    Calls Try.prog 9 #[.agg #[.slice a1 a.frags.length c1, .slice a2 a.defs.length c2], .agg #[.slice b1 b.frags.length d1, .slice b2 b.defs.length d2]] w fun e w' =>
      Below w.heap.size w w' ∧ ∃ x1 y1 x2 y2, e = .returned (.tuple #[.agg #[.slice x1 p.frags.length y1, .slice x2 p.defs.length y2], .int .i64 er]) ∧ FragsAt w' (.slice x1 p.frags.length y1) p.frags ∧ DefsAt w' (.slice x2 p.defs.length y2) p.defs := by
  refine (join_any a b a1 a2 b1 b2 c1 c2 d1 d2 w hf hd hf' hd').mono ?_
  rintro e w' ⟨hb, es, vF, vD, rfl, hP, hes⟩
  rw [hj] at hP hes ⊢
  have hF := hP.fragsAt
  rw [hes] at hF
  obtain ⟨x1, y1, rfl⟩ := hF.form
  obtain ⟨x2, y2, rfl⟩ := hP.defsAt.form
  exact ⟨hb, x1, y1, x2, y2, rfl, hF, hP.defsAt⟩

end Go.Proofs.Ytebhbhbhcoijpaa
