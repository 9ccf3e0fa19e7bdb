/-
  The contract of part.movedFrag.
-/
import Derived.Test.YtpnlcmdapkhdgaaPrtCount
import Derived.Test.YtpnlcmdapkhdgaaAppendSrc
import Derived.Test.YtpnlcmdapkhdgaaSame
import Derived.Deep.DeepCutAuto
namespace Go.Proofs.Ytpnlcmdapkhdgaa
open Go.RowKit
set_option linter.unusedVariables false

def frgZ : Array Value := #[.int .i64 0, .int .i64 0, .string ⟨#[]⟩, .slice none 0 0, .int .i64 0, .slice none 0 0]

theorem row_setc {w : World} {B k n g i : Nat} {e e' : TypeId} {v u : Value} {xs : List Value} {cs : Array Value} {fr : Nat × Nat} (h : w.ownsRow B e k v n xs) (hb : w.heap[g]? = some (.cells cs e' fr)) (hne : e ≠ e') : (w.setCell ⟨g, i, none⟩ u).ownsRow B e k v n xs :=
  h.kept (grown_set w g i u) (own_ne h hb hne)

theorem grown_trans {a b c : World} {r : Option Nat} (h : a.grownBy b r) (h' : b.grownBy c r) : a.grownBy c r :=
  ⟨h'.os.trans h.os, h'.tape.trans h.tape, h'.output.trans h.output, Nat.le_trans h.size h'.size, fun k hk hne => (h'.block k (Nat.lt_of_lt_of_le hk h.size) hne).trans (h.block k hk hne)⟩

/-- six cells are stored, one after another, into a block of six -/
theorem store6 (W : World) (g : Nat) (c0 c1 c2 c3 c4 c5 a0 a1 a2 a3 a4 a5 : Value) (t : TypeId) (h : W.heap[g]? = some (.cells #[c0, c1, c2, c3, c4, c5] t (0, 0))) :
    ((((((W.setCell ⟨g, 0, none⟩ a0).setCell ⟨g, 1, none⟩ a1).setCell ⟨g, 2, none⟩ a2).setCell ⟨g, 3, none⟩ a3).setCell ⟨g, 4, none⟩ a4).setCell ⟨g, 5, none⟩ a5).heap[g]? = some (.cells #[a0, a1, a2, a3, a4, a5] t (0, 0)) ∧
    W.grownBy ((((((W.setCell ⟨g, 0, none⟩ a0).setCell ⟨g, 1, none⟩ a1).setCell ⟨g, 2, none⟩ a2).setCell ⟨g, 3, none⟩ a3).setCell ⟨g, 4, none⟩ a4).setCell ⟨g, 5, none⟩ a5) (some g) := by
  have h0 : (W.setCell ⟨g, 0, none⟩ a0).heap[g]? = some (.cells #[a0, c1, c2, c3, c4, c5] t (0, 0)) := setB' h a0
  have h1 : ((W.setCell ⟨g, 0, none⟩ a0).setCell ⟨g, 1, none⟩ a1).heap[g]? = some (.cells #[a0, a1, c2, c3, c4, c5] t (0, 0)) := setB' h0 a1
  have h2 : (((W.setCell ⟨g, 0, none⟩ a0).setCell ⟨g, 1, none⟩ a1).setCell ⟨g, 2, none⟩ a2).heap[g]? = some (.cells #[a0, a1, a2, c3, c4, c5] t (0, 0)) := setB' h1 a2
  have h3 : ((((W.setCell ⟨g, 0, none⟩ a0).setCell ⟨g, 1, none⟩ a1).setCell ⟨g, 2, none⟩ a2).setCell ⟨g, 3, none⟩ a3).heap[g]? = some (.cells #[a0, a1, a2, a3, c4, c5] t (0, 0)) := setB' h2 a3
  have h4 : (((((W.setCell ⟨g, 0, none⟩ a0).setCell ⟨g, 1, none⟩ a1).setCell ⟨g, 2, none⟩ a2).setCell ⟨g, 3, none⟩ a3).setCell ⟨g, 4, none⟩ a4).heap[g]? = some (.cells #[a0, a1, a2, a3, a4, c5] t (0, 0)) := setB' h3 a4
  exact ⟨setB' h4 a5, grown_trans (grown_trans (grown_trans (grown_trans (grown_trans (grown_set W g 0 a0) (grown_set _ g 1 a1)) (grown_set _ g 2 a2)) (grown_set _ g 3 a3)) (grown_set _ g 4 a4)) (grown_set _ g 5 a5)⟩

theorem relsAt_cells {w : World} {a : Option Addr} {c : Nat} {rs : List M.Rel} (h : RelsAt w (.slice a rs.length c) rs) (k : Nat) (hk : k < rs.length) :
    ∃ b off, a = some ⟨b, off, none⟩ ∧ w.cell? ⟨b, off + k * 5, none⟩ = some (.int .i64 (rs.getD k rel0).pos) ∧ w.cell? ⟨b, off + k * 5 + 1, none⟩ = some (.int .i64 (rs.getD k rel0).kind)
      ∧ w.cell? ⟨b, off + k * 5 + 2, none⟩ = some (.string (rs.getD k rel0).name) ∧ w.cell? ⟨b, off + k * 5 + 3, none⟩ = some (.int .i64 (rs.getD k rel0).frag)
      ∧ w.cell? ⟨b, off + k * 5 + 4, none⟩ = some (.int .i64 (rs.getD k rel0).add) := by
  obtain ⟨b, off, rfl, hc⟩ := h.1.at k hk
  exact ⟨b, off, rfl, hc 0 (by decide), hc 1 (by decide), hc 2 (by decide), hc 3 (by decide), hc 4 (by decide)⟩

theorem BytesAt.src {w : World} {v : Value} {bs : List Int} (h : BytesAt w v bs) : Src w v bs.length (bs.map (Value.int .u8)) :=
  h.1.src (by decide) _ (by simp) (fun j i hj hi => by
    obtain rfl : i = 0 := by omega
    rw [Nat.mul_one, Nat.add_zero, List.getElem?_map, getElem?_getD bs 0 j hj]; rfl)

end Go.Proofs.Ytpnlcmdapkhdgaa
