/-
  What the cases of the law LayoutLays share.
-/
import Derived.Test.YtbohadjfmfoeaaaDoorRefLaid
import Derived.Test.YtbohadjfmfoeaaaDoorRefLySame
import Derived.Test.YtbohadjfmfoeaaaDoorRefLyStands
import Derived.Test.YtbohadjfmfoeaaaDoorRefCheck
import Derived.Test.YtbohadjfmfoeaaaDoorLyLaid
import Derived.Test.YtbohadjfmfoeaaaDoorLdLay
import Derived.Test.YtbohadjfmfoeaaaDoorPartVar
import Derived.Test.YtbohadjfmfoeaaaDoorLkWhere
namespace Go.Proofs.YtbohadjfmfoeaaaDoor
open Go Go.RowKit
set_option linter.unusedVariables false

/-- both layouts are told to be alike -/
theorem same_lv {W : World} {b b' : Nat} {xf xn xc uf un uc : Option Addr} {yf yn yc vf vn vc : Nat} {l : M.Lay} (h : LVar W b xf yf xn yn xc yc l) (h' : LVar W b' uf vf un vn uc vc l) :
    Calls Tryd.prog 8 #[.agg #[.slice xf l.frags.length yf, .slice xn l.names.length yn, .slice xc l.coms.length yc, .int .i64 (l.fr 0), .int .i64 (l.fr 1), .int .i64 (l.fr 2), .int .i64 (l.fr 3), .int .i64 (l.fr 4), .int .i64 (l.fr 5), .int .i64 (l.ti 0), .int .i64 (l.ti 1), .int .i64 (l.ti 2), .int .i64 (l.ti 3), .int .i64 (l.ti 4), .int .i64 (l.ti 5)], .agg #[.slice uf l.frags.length vf, .slice un l.names.length vn, .slice uc l.coms.length vc, .int .i64 (l.fr 0), .int .i64 (l.fr 1), .int .i64 (l.fr 2), .int .i64 (l.fr 3), .int .i64 (l.fr 4), .int .i64 (l.fr 5), .int .i64 (l.ti 0), .int .i64 (l.ti 1), .int .i64 (l.ti 2), .int .i64 (l.ti 3), .int .i64 (l.ti 4), .int .i64 (l.ti 5)]] W fun e w' => e = .returned (.bool true) ∧ Below W.heap.size W w' :=
  sameLayout_any l xf xn xc uf un uc yf yn yc vf vn vc W h.frags h.names h.coms h'.frags h'.names h'.coms

theorem two_lv {W Y : World} {b b' : Nat} {xf xn xc uf un uc : Option Addr} {yf yn yc vf vn vc : Nat} {l : M.Lay} (h : LVar W b xf yf xn yn xc yc l) (h' : LVar W b' uf vf un vn uc vc l) (hY : Below W.heap.size W Y) :
    Y.cell? ⟨b, 0, none⟩ = some (.slice xf l.frags.length yf) ∧ Y.cell? ⟨b, 1, none⟩ = some (.slice xn l.names.length yn) ∧ Y.cell? ⟨b, 2, none⟩ = some (.slice xc l.coms.length yc) ∧ Y.cell? ⟨b, 3, none⟩ = some (.int .i64 (l.fr 0)) ∧ Y.cell? ⟨b, 4, none⟩ = some (.int .i64 (l.fr 1)) ∧ Y.cell? ⟨b, 5, none⟩ = some (.int .i64 (l.fr 2)) ∧ Y.cell? ⟨b, 6, none⟩ = some (.int .i64 (l.fr 3)) ∧ Y.cell? ⟨b, 7, none⟩ = some (.int .i64 (l.fr 4)) ∧ Y.cell? ⟨b, 8, none⟩ = some (.int .i64 (l.fr 5)) ∧ Y.cell? ⟨b, 9, none⟩ = some (.int .i64 (l.ti 0)) ∧ Y.cell? ⟨b, 10, none⟩ = some (.int .i64 (l.ti 1)) ∧ Y.cell? ⟨b, 11, none⟩ = some (.int .i64 (l.ti 2)) ∧ Y.cell? ⟨b, 12, none⟩ = some (.int .i64 (l.ti 3)) ∧ Y.cell? ⟨b, 13, none⟩ = some (.int .i64 (l.ti 4)) ∧ Y.cell? ⟨b, 14, none⟩ = some (.int .i64 (l.ti 5)) ∧ Y.cell? ⟨b', 0, none⟩ = some (.slice uf l.frags.length vf) ∧ Y.cell? ⟨b', 1, none⟩ = some (.slice un l.names.length vn) ∧ Y.cell? ⟨b', 2, none⟩ = some (.slice uc l.coms.length vc) ∧ Y.cell? ⟨b', 3, none⟩ = some (.int .i64 (l.fr 0)) ∧ Y.cell? ⟨b', 4, none⟩ = some (.int .i64 (l.fr 1)) ∧ Y.cell? ⟨b', 5, none⟩ = some (.int .i64 (l.fr 2)) ∧ Y.cell? ⟨b', 6, none⟩ = some (.int .i64 (l.fr 3)) ∧ Y.cell? ⟨b', 7, none⟩ = some (.int .i64 (l.fr 4)) ∧ Y.cell? ⟨b', 8, none⟩ = some (.int .i64 (l.fr 5)) ∧ Y.cell? ⟨b', 9, none⟩ = some (.int .i64 (l.ti 0)) ∧ Y.cell? ⟨b', 10, none⟩ = some (.int .i64 (l.ti 1)) ∧ Y.cell? ⟨b', 11, none⟩ = some (.int .i64 (l.ti 2)) ∧ Y.cell? ⟨b', 12, none⟩ = some (.int .i64 (l.ti 3)) ∧ Y.cell? ⟨b', 13, none⟩ = some (.int .i64 (l.ti 4)) ∧ Y.cell? ⟨b', 14, none⟩ = some (.int .i64 (l.ti 5)) ∧ b < Y.heap.size ∧ b' < Y.heap.size := by
  have q := (h.later hY).blk
  have q' := (h'.later hY).blk
  exact ⟨cellB q 0, cellB q 1, cellB q 2, cellB q 3, cellB q 4, cellB q 5, cellB q 6, cellB q 7, cellB q 8, cellB q 9, cellB q 10, cellB q 11, cellB q 12, cellB q 13, cellB q 14, cellB q' 0, cellB q' 1, cellB q' 2, cellB q' 3, cellB q' 4, cellB q' 5, cellB q' 6, cellB q' 7, cellB q' 8, cellB q' 9, cellB q' 10, cellB q' 11, cellB q' 12, cellB q' 13, cellB q' 14, (Array.getElem?_eq_some_iff.1 q).1, (Array.getElem?_eq_some_iff.1 q').1⟩

theorem lay_bd {p : M.Prt} {base : Int} (hp : M.Ok p) (ha : M.Apart p base) : ∀ x ∈ (M.layAll p base).frags, 0 ≤ x ∧ x ≤ 65536 := fun x hx => by
  obtain ⟨i, hi, rfl⟩ := List.getElem_of_mem hx
  have hil : i < p.frags.length := by rw [← ha.lenF]; exact hi
  have ho := M.frgOk_of (hp.shape _ (getD_mem p.frags frg0 i hil))
  have hs := ho.sect
  obtain ⟨k, hk⟩ : ∃ k : Nat, (p.frags.getD i frg0).sect = k := ⟨(p.frags.getD i frg0).sect.toNat, by omega⟩
  obtain ⟨_, h2, h3⟩ := ha.frag i _ k (getElem?_getD p.frags frg0 i hil) hk
  have ht := ha.ti k (by omega) (by omega)
  have hl0 := ho.long0
  have e : (M.layAll p base).frags.getD i 0 = (M.layAll p base).frags[i] := by rw [List.getD_eq_getElem?_getD, List.getElem?_eq_getElem hi]; rfl
  rw [e] at h2 h3
  omega
theorem lay_few {p : M.Prt} (h : M.Ok p) (base : Int) : (M.layAll p base).names.length ≤ 1000 := by
  obtain ⟨F, hF⟩ := M.com_names p.defs (M.defined p) ⟨[], [], (M.secN p.frags base 5).2⟩
  have h1 : (M.layAll p base).names = (M.defined p).filter F := by
    show (M.commons p (M.secN p.frags base 5).2).names = _
    unfold M.commons
    rw [hF]; rfl
  have h2 : (M.defined p).length ≤ (M.definedNames p.defs).length := rising_le (M.definedNames p.defs)
  have h3 : (M.definedNames p.defs).length = p.defs.length := by simp [M.definedNames]
  have h4 := List.length_filter_le F (M.defined p)
  have h5 := h.nd
  rw [h1]
  omega

end Go.Proofs.YtbohadjfmfoeaaaDoor
