/-
  The contract of the reference's SameLayout, where both are one layout.
-/
import Derived.Test.YtbohadjfmfoeaaaDoorInA
import Derived.Test.YtbohadjfmfoeaaaDoorLyMem
import Derived.Laws.StructEq
import Derived.ChangeKeysEq
import Derived.OwnWalk
namespace Go.Proofs.YtbohadjfmfoeaaaDoor
open Go Go.RowKit
set_option linter.unusedVariables false

theorem eqOne {d : Nat} (x : Int) (w : World) : (Op.equalIn (d + 1) 3 (.int .i64 x) (.int .i64 x)).run Tryd.prog w = .ok true w := by
  rw [run_equalIn_int w d 3 .i64 .i64 x x Tryd.underlying3]; simp

set_option maxRecDepth 10000 in
theorem eq6 (a b c d e f : Int) (w : World) : (binOp .eql 28 (.agg #[.int .i64 a, .int .i64 b, .int .i64 c, .int .i64 d, .int .i64 e, .int .i64 f]) (.agg #[.int .i64 a, .int .i64 b, .int .i64 c, .int .i64 d, .int .i64 e, .int .i64 f])).run Tryd.prog w = .ok (.bool true) w := by
  obtain ⟨i1, hi1, hy0, hy1, hy2⟩ := info_parts (P := Tryd.prog) (e := 3) (z := .int .i64 0) (size := 1) (bytes := 8) (by kernel_rfl)
  have a3 := Tryd.isAgg3
  have z3 := Tryd.sizeOf3
  have hc : Tryd.prog.cellsOf 3 = 1 := by kernel_rfl
  rw [run_eql_struct]
  obtain ⟨D, hD⟩ : ∃ D, (10000 : Nat) = D + 1 + 1 := ⟨9998, rfl⟩
  rw [hD, run_equalIn_array w (D + 1) _ _ Tryd.underlying28 hi1, hc, show List.range 6 = [0, 1, 2, 3, 4, 5] from rfl]
  clear hD
  simp [Op.eqItems, Sem.run_bind, part, a3, z3, eqOne]

theorem sameInts_self : ∀ l : List Int, sameInts l l = true
  | [] => rfl
  | x :: l => by
    show ((x == x) && sameInts l l) = true
    rw [sameInts_self l]; simp
theorem sameTexts_self : ∀ l : List ByteArray, sameTexts l l = true
  | [] => rfl
  | x :: l => by
    show ((x.toList == x.toList) && sameTexts l l) = true
    rw [sameTexts_self l]; simp

attribute [local go_sem high] eq6
set_option maxHeartbeats 4000000 in
set_option maxRecDepth 100000 in
theorem sameLayout_any (l : M.Lay) (xf xn xc uf un uc : Option Addr) (yf yn yc vf vn vc : Nat) (w : World) (hF : IntsAt w (.slice xf l.frags.length yf) l.frags) (hN : StrsAt w (.slice xn l.names.length yn) l.names) (hC : IntsAt w (.slice xc l.coms.length yc) l.coms)
    (hF' : IntsAt w (.slice uf l.frags.length vf) l.frags) (hN' : StrsAt w (.slice un l.names.length vn) l.names) (hC' : IntsAt w (.slice uc l.coms.length vc) l.coms) :
    Calls Tryd.prog 8 #[.agg #[.slice xf l.frags.length yf, .slice xn l.names.length yn, .slice xc l.coms.length yc, .int .i64 (l.fr 0), .int .i64 (l.fr 1), .int .i64 (l.fr 2), .int .i64 (l.fr 3), .int .i64 (l.fr 4), .int .i64 (l.fr 5), .int .i64 (l.ti 0), .int .i64 (l.ti 1), .int .i64 (l.ti 2), .int .i64 (l.ti 3), .int .i64 (l.ti 4), .int .i64 (l.ti 5)], .agg #[.slice uf l.frags.length vf, .slice un l.names.length vn, .slice uc l.coms.length vc, .int .i64 (l.fr 0), .int .i64 (l.fr 1), .int .i64 (l.fr 2), .int .i64 (l.fr 3), .int .i64 (l.fr 4), .int .i64 (l.fr 5), .int .i64 (l.ti 0), .int .i64 (l.ti 1), .int .i64 (l.ti 2), .int .i64 (l.ti 3), .int .i64 (l.ti 4), .int .i64 (l.ti 5)]] w fun e w' => e = .returned (.bool true) ∧ Below w.heap.size w w' := by
  obtain ⟨W, HW⟩ : ∃ W, Hid (W = (w.alloc (.cells #[.slice xf l.frags.length yf, .slice xn l.names.length yn, .slice xc l.coms.length yc, .int .i64 (l.fr 0), .int .i64 (l.fr 1), .int .i64 (l.fr 2), .int .i64 (l.fr 3), .int .i64 (l.fr 4), .int .i64 (l.fr 5), .int .i64 (l.ti 0), .int .i64 (l.ti 1), .int .i64 (l.ti 2), .int .i64 (l.ti 3), .int .i64 (l.ti 4), .int .i64 (l.ti 5)] 30)).alloc (.cells #[.slice uf l.frags.length vf, .slice un l.names.length vn, .slice uc l.coms.length vc, .int .i64 (l.fr 0), .int .i64 (l.fr 1), .int .i64 (l.fr 2), .int .i64 (l.fr 3), .int .i64 (l.fr 4), .int .i64 (l.fr 5), .int .i64 (l.ti 0), .int .i64 (l.ti 1), .int .i64 (l.ti 2), .int .i64 (l.ti 3), .int .i64 (l.ti 4), .int .i64 (l.ti 5)] 30)) := ⟨_, rfl⟩
  have hA : Below w.heap.size w W := by rw [HW.out]; exact ((Below.refl _ _).alloc (Nat.le_refl _) _).alloc (by simp) _
  have qc : W.heap[w.heap.size]? = some (.cells #[.slice xf l.frags.length yf, .slice xn l.names.length yn, .slice xc l.coms.length yc, .int .i64 (l.fr 0), .int .i64 (l.fr 1), .int .i64 (l.fr 2), .int .i64 (l.fr 3), .int .i64 (l.fr 4), .int .i64 (l.fr 5), .int .i64 (l.ti 0), .int .i64 (l.ti 1), .int .i64 (l.ti 2), .int .i64 (l.ti 3), .int .i64 (l.ti 4), .int .i64 (l.ti 5)] 30 (0, 0)) := by rw [HW.out]; exact heap_alloc2_old _ _ _
  have qd : W.heap[w.heap.size + 1]? = some (.cells #[.slice uf l.frags.length vf, .slice un l.names.length vn, .slice uc l.coms.length vc, .int .i64 (l.fr 0), .int .i64 (l.fr 1), .int .i64 (l.fr 2), .int .i64 (l.fr 3), .int .i64 (l.fr 4), .int .i64 (l.fr 5), .int .i64 (l.ti 0), .int .i64 (l.ti 1), .int .i64 (l.ti 2), .int .i64 (l.ti 3), .int .i64 (l.ti 4), .int .i64 (l.ti 5)] 30 (0, 0)) := by rw [HW.out]; exact heap_alloc2_new _ _ _
  have KF : Hid (∀ X, Below W.heap.size W X → Calls Tryd.prog 23 #[.slice xf l.frags.length yf, .slice uf l.frags.length vf] X fun e w' => e = .returned (.bool true) ∧ Below X.heap.size X w') := fun X hX => by
    have := equalI_any l.frags l.frags xf uf yf vf X ((hF.later hA).later hX) ((hF'.later hA).later hX)
    rwa [sameInts_self] at this
  have KC : Hid (∀ X, Below W.heap.size W X → Calls Tryd.prog 23 #[.slice xc l.coms.length yc, .slice uc l.coms.length vc] X fun e w' => e = .returned (.bool true) ∧ Below X.heap.size X w') := fun X hX => by
    have := equalI_any l.coms l.coms xc uc yc vc X ((hC.later hA).later hX) ((hC'.later hA).later hX)
    rwa [sameInts_self] at this
  have KN : Hid (∀ X, Below W.heap.size W X → Calls Tryd.prog 24 #[.slice xn l.names.length yn, .slice un l.names.length vn] X fun e w' => e = .returned (.bool true) ∧ Below X.heap.size X w') := fun X hX => by
    have := equalS_any l.names l.names xn un yn vn X ((hN.later hA).later hX) ((hN'.later hA).later hX)
    rwa [sameTexts_self] at this
  have HA : Hid (Below w.heap.size w W) := hA
  clear hF hN hC hF' hN' hC' hA
  generalize l.frags.length = n0 at *
  generalize l.names.length = n1 at *
  generalize l.coms.length = n2 at *
  generalize l.fr 0 = f0 at *
  generalize l.fr 1 = f1 at *
  generalize l.fr 2 = f2 at *
  generalize l.fr 3 = f3 at *
  generalize l.fr 4 = f4 at *
  generalize l.fr 5 = f5 at *
  generalize l.ti 0 = t0 at *
  generalize l.ti 1 = t1 at *
  generalize l.ti 2 = t2 at *
  generalize l.ti 3 = t3 at *
  generalize l.ti 4 = t4 at *
  generalize l.ti 5 = t5 at *
  have HQ : Hid (∀ X, Below W.heap.size W X → X.heap[w.heap.size]? = W.heap[w.heap.size]? ∧ X.heap[w.heap.size + 1]? = W.heap[w.heap.size + 1]?) := fun X hX => ⟨hX.block _ (Array.getElem?_eq_some_iff.1 qc).1, hX.block _ (Array.getElem?_eq_some_iff.1 qd).1⟩
  have HQc : Hid _ := qc
  have HQd : Hid _ := qd
  have HK : Hid (∀ X, Below W.heap.size W X → X.cell? ⟨w.heap.size, 0, none⟩ = some (.slice xf n0 yf) ∧ X.cell? ⟨w.heap.size, 1, none⟩ = some (.slice xn n1 yn) ∧ X.cell? ⟨w.heap.size, 2, none⟩ = some (.slice xc n2 yc) ∧ X.cell? ⟨w.heap.size, 3, none⟩ = some (.int .i64 f0) ∧ X.cell? ⟨w.heap.size, 4, none⟩ = some (.int .i64 f1) ∧ X.cell? ⟨w.heap.size, 5, none⟩ = some (.int .i64 f2) ∧ X.cell? ⟨w.heap.size, 6, none⟩ = some (.int .i64 f3) ∧ X.cell? ⟨w.heap.size, 7, none⟩ = some (.int .i64 f4) ∧ X.cell? ⟨w.heap.size, 8, none⟩ = some (.int .i64 f5) ∧ X.cell? ⟨w.heap.size, 9, none⟩ = some (.int .i64 t0) ∧ X.cell? ⟨w.heap.size, 10, none⟩ = some (.int .i64 t1) ∧ X.cell? ⟨w.heap.size, 11, none⟩ = some (.int .i64 t2) ∧ X.cell? ⟨w.heap.size, 12, none⟩ = some (.int .i64 t3) ∧ X.cell? ⟨w.heap.size, 13, none⟩ = some (.int .i64 t4) ∧ X.cell? ⟨w.heap.size, 14, none⟩ = some (.int .i64 t5) ∧ X.cell? ⟨w.heap.size + 1, 0, none⟩ = some (.slice uf n0 vf) ∧ X.cell? ⟨w.heap.size + 1, 1, none⟩ = some (.slice un n1 vn) ∧ X.cell? ⟨w.heap.size + 1, 2, none⟩ = some (.slice uc n2 vc) ∧ X.cell? ⟨w.heap.size + 1, 3, none⟩ = some (.int .i64 f0) ∧ X.cell? ⟨w.heap.size + 1, 4, none⟩ = some (.int .i64 f1) ∧ X.cell? ⟨w.heap.size + 1, 5, none⟩ = some (.int .i64 f2) ∧ X.cell? ⟨w.heap.size + 1, 6, none⟩ = some (.int .i64 f3) ∧ X.cell? ⟨w.heap.size + 1, 7, none⟩ = some (.int .i64 f4) ∧ X.cell? ⟨w.heap.size + 1, 8, none⟩ = some (.int .i64 f5) ∧ X.cell? ⟨w.heap.size + 1, 9, none⟩ = some (.int .i64 t0) ∧ X.cell? ⟨w.heap.size + 1, 10, none⟩ = some (.int .i64 t1) ∧ X.cell? ⟨w.heap.size + 1, 11, none⟩ = some (.int .i64 t2) ∧ X.cell? ⟨w.heap.size + 1, 12, none⟩ = some (.int .i64 t3) ∧ X.cell? ⟨w.heap.size + 1, 13, none⟩ = some (.int .i64 t4) ∧ X.cell? ⟨w.heap.size + 1, 14, none⟩ = some (.int .i64 t5) ∧ w.heap.size < X.heap.size ∧ w.heap.size + 1 < X.heap.size) := fun X hX => by
    obtain ⟨h1, h2⟩ := HQ.out X hX
    rw [HQc.out] at h1
    rw [HQd.out] at h2
    exact ⟨cellB h1 0, cellB h1 1, cellB h1 2, cellB h1 3, cellB h1 4, cellB h1 5, cellB h1 6, cellB h1 7, cellB h1 8, cellB h1 9, cellB h1 10, cellB h1 11, cellB h1 12, cellB h1 13, cellB h1 14, cellB h2 0, cellB h2 1, cellB h2 2, cellB h2 3, cellB h2 4, cellB h2 5, cellB h2 6, cellB h2 7, cellB h2 8, cellB h2 9, cellB h2 10, cellB h2 11, cellB h2 12, cellB h2 13, cellB h2 14, (Array.getElem?_eq_some_iff.1 h1).1, (Array.getElem?_eq_some_iff.1 h2).1⟩
  obtain ⟨ca0, ca1, ca2, ca3, ca4, ca5, ca6, ca7, ca8, ca9, ca10, ca11, ca12, ca13, ca14, ca15, ca16, ca17, ca18, ca19, ca20, ca21, ca22, ca23, ca24, ca25, ca26, ca27, ca28, ca29, ca30, ca31⟩ := HK.out W (Below.refl _ _)
  clear qc qd HQ HQc HQd
  go_enter Tryd.func8, Tryd.ntmps8
  go_upto_region 1 with fail
  rw [← HW.out]
  clear HW
  go_wp2_with (first | (go_at_call 24; refine (KN.out _ hX1).mono ?_; rintro e w2 ⟨rfl, hb2⟩; have hX2 := hX1.trans (hb2.mono hX1.size); obtain ⟨cc0, cc1, cc2, cc3, cc4, cc5, cc6, cc7, cc8, cc9, cc10, cc11, cc12, cc13, cc14, cc15, cc16, cc17, cc18, cc19, cc20, cc21, cc22, cc23, cc24, cc25, cc26, cc27, cc28, cc29, cc30, cc31⟩ := HK.out _ hX2; refine Hid.out ?_) | (go_at_call 23; refine (KF.out _ (Below.refl _ _)).mono ?_; rintro e w1 ⟨rfl, hb1⟩; have hX1 := hb1; obtain ⟨cb0, cb1, cb2, cb3, cb4, cb5, cb6, cb7, cb8, cb9, cb10, cb11, cb12, cb13, cb14, cb15, cb16, cb17, cb18, cb19, cb20, cb21, cb22, cb23, cb24, cb25, cb26, cb27, cb28, cb29, cb30, cb31⟩ := HK.out _ hX1))
  clear KF KN ca0 cb0 ca1 cb1 ca2 cb2 ca3 cb3 ca4 cb4 ca5 cb5 ca6 cb6 ca7 cb7 ca8 cb8 ca9 cb9 ca10 cb10 ca11 cb11 ca12 cb12 ca13 cb13 ca14 cb14 ca15 cb15 ca16 cb16 ca17 cb17 ca18 cb18 ca19 cb19 ca20 cb20 ca21 cb21 ca22 cb22 ca23 cb23 ca24 cb24 ca25 cb25 ca26 cb26 ca27 cb27 ca28 cb28 ca29 cb29 ca30 cb30 ca31 cb31
  refine Lib.hid ?_
  go_wp2_with (go_at_call 23; refine (KC.out _ hX2).mono ?_; rintro e w3 ⟨rfl, hb3⟩; have hX3 := hX2.trans (hb3.mono hX2.size); obtain ⟨cd0, cd1, cd2, cd3, cd4, cd5, cd6, cd7, cd8, cd9, cd10, cd11, cd12, cd13, cd14, cd15, cd16, cd17, cd18, cd19, cd20, cd21, cd22, cd23, cd24, cd25, cd26, cd27, cd28, cd29, cd30, cd31⟩ := HK.out _ hX3)
  go_ret
  exact ⟨rfl, HA.out.trans (hX3.mono HA.out.size)⟩

end Go.Proofs.YtbohadjfmfoeaaaDoor
