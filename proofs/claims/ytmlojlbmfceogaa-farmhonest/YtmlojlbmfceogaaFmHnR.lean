/-
  What the region of FarmHonest that joins has of each operation.
-/
import Derived.Test.YtmlojlbmfceogaaFmMd
namespace Go.Proofs.Ytmlojlbmfceogaa
open Go Go.RowKit
set_option linter.unusedVariables false

def hnR (N b nd hb ho lf rt : Nat) (f : M.Farm) (x : Fd) (A C : M.Prt) (x1 x2 x3 x4 : Option Addr) (y1 y2 y3 y4 : Nat) (j : Nat) (W : World) (u : Value) : Prop :=
  match j with
  | 0 => u = .pointer (some ⟨b, 4, none⟩)
  | 1 => u = .slice (some ⟨hb, ho, none⟩) f.got.length x.hc
  | 2 => u = .pointer (some ⟨nd, 1, none⟩)
  | 3 => u = .int .i64 (lf : Nat)
  | 4 => u = .pointer (some ⟨hb, ho + lf * 2, none⟩)
  | 5 => u = .agg #[.slice x1 A.frags.length y1, .slice x2 A.defs.length y2]
  | 6 => u = .pointer (some ⟨b, 4, none⟩)
  | 7 => u = .slice (some ⟨hb, ho, none⟩) f.got.length x.hc
  | 8 => u = .pointer (some ⟨nd, 2, none⟩)
  | 9 => u = .int .i64 (rt : Nat)
  | 10 => u = .pointer (some ⟨hb, ho + rt * 2, none⟩)
  | 11 => u = .agg #[.slice x3 C.frags.length y3, .slice x4 C.defs.length y4]
  | 12 => ∃ vF vD, u = .tuple #[.agg #[vF, vD], .int .i64 (M.join A C).2] ∧ POwn W N ⟨(M.join A C).1, vF, vD⟩
  | 13 => ∃ vF vD, u = .tuple #[.agg #[vF, vD], .int .i64 (M.join A C).2] ∧ POwn W N ⟨(M.join A C).1, vF, vD⟩
  | 14 => ∃ vF vD, u = .agg #[vF, vD] ∧ POwn W N ⟨(M.join A C).1, vF, vD⟩
  | 15 => u = .int .i64 (M.join A C).2
  | 16 => ∃ g c0 c1, u = .pointer (some ⟨g, 0, none⟩) ∧ N ≤ g ∧ W.heap[g]? = some (.cells #[c0, c1] 44 (0, 0))
  | 17 => ∃ g vF vD, u = .tuple #[.pointer (some ⟨g, 0, none⟩)] ∧ N ≤ g ∧ W.heap[g]? = some (.cells #[vF, vD] 44 (0, 0)) ∧ POwn W N ⟨(M.join A C).1, vF, vD⟩
  | _ => False

theorem hnR_later {N b nd hb ho lf rt : Nat} {f : M.Farm} {x : Fd} {A C : M.Prt} {x1 x2 x3 x4 : Option Addr} {y1 y2 y3 y4 : Nat} {W X : World} (hbl : Below W.heap.size W X) : ∀ j u, hnR N b nd hb ho lf rt f x A C x1 x2 x3 x4 y1 y2 y3 y4 j W u → hnR N b nd hb ho lf rt f x A C x1 x2 x3 x4 y1 y2 y3 y4 j X u := by
  intro j u h
  match j, h with
  | 0, h => exact h
  | 1, h => exact h
  | 2, h => exact h
  | 3, h => exact h
  | 4, h => exact h
  | 5, h => exact h
  | 6, h => exact h
  | 7, h => exact h
  | 8, h => exact h
  | 9, h => exact h
  | 10, h => exact h
  | 11, h => exact h
  | 12, h => obtain ⟨vF, vD, h1, h2⟩ := h; exact ⟨vF, vD, h1, h2.later hbl⟩
  | 13, h => obtain ⟨vF, vD, h1, h2⟩ := h; exact ⟨vF, vD, h1, h2.later hbl⟩
  | 14, h => obtain ⟨vF, vD, h1, h2⟩ := h; exact ⟨vF, vD, h1, h2.later hbl⟩
  | 15, h => exact h
  | 16, h => obtain ⟨g, c0, c1, h1, h2, h3⟩ := h; exact ⟨g, c0, c1, h1, h2, (hbl.block _ (Array.getElem?_eq_some_iff.1 h3).1).trans h3⟩
  | 17, h => obtain ⟨g, vF, vD, h1, h2, h3, h4⟩ := h; exact ⟨g, vF, vD, h1, h2, (hbl.block _ (Array.getElem?_eq_some_iff.1 h3).1).trans h3, h4.later hbl⟩

theorem hnR_none {N b nd hb ho lf rt : Nat} {f : M.Farm} {x : Fd} {A C : M.Prt} {x1 x2 x3 x4 : Option Addr} {y1 y2 y3 y4 : Nat} {W : World} {j : Nat} {u : Value} (h : 17 < j) (hR : hnR N b nd hb ho lf rt f x A C x1 x2 x3 x4 y1 y2 y3 y4 j W u) : False := by
  unfold hnR at hR
  split at hR
  all_goals first | omega | exact hR

end Go.Proofs.Ytmlojlbmfceogaa
