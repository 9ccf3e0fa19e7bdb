/-
  The contracts of names.find and names.Find.
-/
import Derived.Test.YtebhbhbhcoijpaaNmFind
import Derived.Test.YtebhbhbhcoijpaaPrtAll
namespace Go.Proofs.Ytebhbhbhcoijpaa
open Go.RowKit
set_option linter.unusedVariables false

theorem getD_head (l : List M.Dfn) (h : 0 < l.length) : l.getD 0 dfn0 = l.headD M.dfnZ := by
  cases l with
  | nil => simp at h
  | cons x l => rfl

theorem kind_le (ds : List M.Dfn) (s : ByteArray) (k : Int) : (M.ofKind ds s k).length ≤ ds.length := List.length_filter_le _ _

set_option maxHeartbeats 4000000 in
set_option maxRecDepth 100000 in
theorem find_any (ds : List M.Dfn) (s : ByteArray) (a : Option Addr) (c : Nat) (w : World) (hd : DefsAt w (.slice a ds.length c) ds) (h60 : ds.length ≤ 60) :
    Calls Try.prog 89 #[.slice a ds.length c, .string s] w fun e w' => e = .returned (.tuple #[.agg (dfnArr (M.find ds s).1), .int .i64 (M.find ds s).2]) ∧ Below w.heap.size w w' := by
  have l1 := kind_le ds s 1
  have l3 := kind_le ds s 3
  have l2 := kind_le ds s 2
  have HF : Hid (M.find ds s = M.findIn (M.ofKind ds s 1) (M.ofKind ds s 3) (M.ofKind ds s 2)) := rfl
  unfold M.findIn at HF
  go_enter Try.func89, Try.ntmps89
  go_upto_region 2 with fail
  have y0 : (((w.alloc (.cells #[.slice a ds.length c] 23)).alloc (.cells #[.string s] 9)).alloc (.cells dfnZA 69)).heap[w.heap.size]? = some (.cells #[.slice a ds.length c] 23 (0, 0)) := (heap_alloc_old _ _ (by simp; omega)).trans (heap_alloc2_old _ _ _)
  have y1 : (((w.alloc (.cells #[.slice a ds.length c] 23)).alloc (.cells #[.string s] 9)).alloc (.cells dfnZA 69)).heap[w.heap.size + 1]? = some (.cells #[.string s] 9 (0, 0)) := (heap_alloc_old _ _ (by simp)).trans (heap_alloc2_new _ _ _)
  have y2 : (((w.alloc (.cells #[.slice a ds.length c] 23)).alloc (.cells #[.string s] 9)).alloc (.cells dfnZA 69)).heap[w.heap.size + 1 + 1]? = some (.cells dfnZA 69 (0, 0)) := by
    have := heap_alloc_new ((w.alloc (.cells #[.slice a ds.length c] 23)).alloc (.cells #[.string s] 9)) (.cells dfnZA 69)
    simpa using this
  have HY : Hid (Below w.heap.size w (((w.alloc (.cells #[.slice a ds.length c] 23)).alloc (.cells #[.string s] 9)).alloc (.cells dfnZA 69))) := (((Below.refl _ _).alloc (Nat.le_refl _) _).alloc (by simp) _).alloc (by simp; omega) _
  unfold dfnZA at y0 y1 y2 HY
  generalize ((w.alloc (.cells #[.slice a ds.length c] 23)).alloc (.cells #[.string s] 9)).alloc (.cells #[.string ⟨#[]⟩, .int .i64 0, .int .i64 0, .int .i64 0, .int .i64 0, .int .i64 0] 69) = Y at *
  have HQ : Hid (∀ W, Below Y.heap.size Y W → W.heap[w.heap.size + 1 + 1]? = some (.cells dfnZA 69 (0, 0)) ∧ w.heap.size + 1 + 1 < W.heap.size ∧ Below w.heap.size w W) := fun W hW => by
    have := (hW.block _ (Array.getElem?_eq_some_iff.1 y2).1).trans y2
    exact ⟨this, (Array.getElem?_eq_some_iff.1 this).1, HY.out.trans (hW.mono HY.out.size)⟩
  have KO : Hid (∀ k W, Below Y.heap.size Y W → Calls Try.prog 109 #[.int .i64 k, .pointer (some ⟨w.heap.size, 0, none⟩), .pointer (some ⟨w.heap.size + 1, 0, none⟩)] W fun e w' =>
      Below W.heap.size W w' ∧ ∃ x y, e = .returned (.slice x (M.ofKind ds s k).length y) ∧ DefsAt w' (.slice x (M.ofKind ds s k).length y) (M.ofKind ds s k)) := fun k W hW =>
    ofKind_any ds s k a c w.heap.size W ((hd.later HY.out).later hW) h60 (cellB ((hW.block _ (Array.getElem?_eq_some_iff.1 y0).1).trans y0) 0) (cellB ((hW.block _ (Array.getElem?_eq_some_iff.1 y1).1).trans y1) 0)
  have hY0 : Below Y.heap.size Y Y := Below.refl _ _
  clear y0 y1 y2 HY hd
  have HRet : Hid (∀ (W : World) (d : M.Dfn), Below Y.heap.size Y W → Below w.heap.size w ((((((W.setCell ⟨w.heap.size + 1 + 1, 0, none⟩ (.string d.name)).setCell ⟨w.heap.size + 1 + 1, 1, none⟩ (.int .i64 d.kind)).setCell ⟨w.heap.size + 1 + 1, 2, none⟩ (.int .i64 d.frag)).setCell ⟨w.heap.size + 1 + 1, 3, none⟩ (.int .i64 d.pos)).setCell ⟨w.heap.size + 1 + 1, 4, none⟩ (.int .i64 d.size)).setCell ⟨w.heap.size + 1 + 1, 5, none⟩ (.int .i64 d.align))) := fun W d hW => by
    have h := (HQ.out W hW).2.2
    exact (((((h.setCell (by show w.heap.size ≤ w.heap.size + 1 + 1; omega) _).setCell (by show w.heap.size ≤ w.heap.size + 1 + 1; omega) _).setCell (by show w.heap.size ≤ w.heap.size + 1 + 1; omega) _).setCell (by show w.heap.size ≤ w.heap.size + 1 + 1; omega) _).setCell (by show w.heap.size ≤ w.heap.size + 1 + 1; omega) _).setCell (by show w.heap.size ≤ w.heap.size + 1 + 1; omega) _
  go_upto_region 3 with (go_at_call 109; refine (KO.out _ _ hY0).mono ?_; rintro e W1 ⟨hb1, x1, y1, rfl, hD1⟩)
  have hY1 : Below Y.heap.size Y W1 := hb1
  clear hb1
  obtain ⟨q, hlt, hB⟩ := HQ.out W1 hY1
  have d0 : W1.cell? ⟨w.heap.size + 1 + 1, 0, none⟩ = some (.string ⟨#[]⟩) := cellB q 0
  have d1 : W1.cell? ⟨w.heap.size + 1 + 1, 1, none⟩ = some (.int .i64 0) := cellB q 1
  have d2 : W1.cell? ⟨w.heap.size + 1 + 1, 2, none⟩ = some (.int .i64 0) := cellB q 2
  have d3 : W1.cell? ⟨w.heap.size + 1 + 1, 3, none⟩ = some (.int .i64 0) := cellB q 3
  have d4 : W1.cell? ⟨w.heap.size + 1 + 1, 4, none⟩ = some (.int .i64 0) := cellB q 4
  have d5 : W1.cell? ⟨w.heap.size + 1 + 1, 5, none⟩ = some (.int .i64 0) := cellB q 5
  have z0 := frozenB q 0
  have z1 := frozenB q 1
  have z2 := frozenB q 2
  have z3 := frozenB q 3
  have z4 := frozenB q 4
  have z5 := frozenB q 5
  clear q hB
  by_cases h1 : 1 < (M.ofKind ds s 1).length
  · have HF' : Hid (M.find ds s = (M.dfnZ, 6)) := by rw [Hid, HF.out, if_pos h1]
    have ht : decide (1 < ((M.ofKind ds s 1).length : Int)) = true := by simp; omega
    have HE := HRet.out W1 M.dfnZ hY1
    clear HF KO HQ hD1 HRet
    go_wp2
    refine bodyPost_ret (v := .tuple #[.agg (dfnArr M.dfnZ), .int .i64 6]) (by simp [results, Try.results89, go_sem, d0, d1, d2, d3, d4, d5, dfnArr, M.dfnZ]) rfl ?_
    exact ⟨by rw [HF'.out], HE⟩
  have ht : decide (1 < ((M.ofKind ds s 1).length : Int)) = false := by simp; omega
  by_cases h2 : (M.ofKind ds s 1).length = 1
  · have HF' : Hid (M.find ds s = ((M.ofKind ds s 1).headD M.dfnZ, 0)) := by rw [Hid, HF.out, if_neg h1, if_pos h2]
    have ht2 : (((M.ofKind ds s 1).length : Int) == 1) = true := by simp; omega
    have hlen : (0 : Int) < ((M.ofKind ds s 1).length : Int) := by omega
    obtain ⟨b, off, rfl, e0, e1, e2, e3, e4, e5, _⟩ := hD1.cells 0 (by omega)
    have hbr : b < W1.heap.size := World.block_lt_of_cell? _ _ e0
    have hhd : (M.ofKind ds s 1).getD 0 dfn0 = (M.ofKind ds s 1).headD M.dfnZ := getD_head _ (by omega)
    rw [Nat.zero_mul, Nat.add_zero, hhd] at e0 e1 e2 e3 e4 e5
    clear hhd
    generalize (M.ofKind ds s 1).headD M.dfnZ = d at *
    obtain ⟨nm, kd, fr, pos, sz, al⟩ := d
    simp only at e0 e1 e2 e3 e4 e5
    have HE := HRet.out W1 ⟨nm, kd, fr, pos, sz, al⟩ hY1
    clear HF KO HQ hD1 HRet h2 h1
    go_wp2
    refine bodyPost_ret (v := .tuple #[.agg (dfnArr ⟨nm, kd, fr, pos, sz, al⟩), .int .i64 0]) (by simp [results, Try.results89, go_sem, d0, d1, d2, d3, d4, d5, dfnArr]) rfl ?_
    exact ⟨by rw [HF'.out], HE⟩
  have ht2 : (((M.ofKind ds s 1).length : Int) == 1) = false := by simp; omega
  clear d0 d1 d2 d3 d4 d5 z0 z1 z2 z3 z4 z5 hD1
  go_upto_region 8 with (go_at_call 109; refine (KO.out _ _ hY1).mono ?_; rintro e W2 ⟨hb2, x2, y2, rfl, hD2⟩)
  have hY2 : Below Y.heap.size Y W2 := hY1.trans (hb2.mono hY1.size)
  clear hb2
  by_cases h3 : 0 < (M.ofKind ds s 3).length
  · have HF' : Hid (M.find ds s = (M.greatest (M.ofKind ds s 3), 0)) := by rw [Hid, HF.out, if_neg h1, if_neg h2, if_pos h3]
    have h3' : (0 : Int) < ((M.ofKind ds s 3).length : Int) := by omega
    have KG : Hid (Calls Try.prog 110 #[.slice x2 (M.ofKind ds s 3).length y2] W2 fun e w' => e = .returned (.agg (dfnArr (M.greatest (M.ofKind ds s 3)))) ∧ Below W2.heap.size W2 w') := greatest_any _ _ _ _ hD2 (by omega) h3
    clear HF KO hD2 h1 h2
    generalize M.greatest (M.ofKind ds s 3) = d at *
    obtain ⟨nm, kd, fr, pos, sz, al⟩ := d
    simp only [dfnArr] at KG
    go_wp2_with (go_at_call 110; refine KG.out.mono ?_; rintro e W3 ⟨rfl, hb3⟩; refine Hid.out ?_)
    have hY3 : Below Y.heap.size Y W3 := hY2.trans (hb3.mono hY2.size)
    obtain ⟨q, hlt3, hB⟩ := HQ.out W3 hY3
    have d0 : W3.cell? ⟨w.heap.size + 1 + 1, 0, none⟩ = some (.string ⟨#[]⟩) := cellB q 0
    have d1 : W3.cell? ⟨w.heap.size + 1 + 1, 1, none⟩ = some (.int .i64 0) := cellB q 1
    have d2 : W3.cell? ⟨w.heap.size + 1 + 1, 2, none⟩ = some (.int .i64 0) := cellB q 2
    have d3 : W3.cell? ⟨w.heap.size + 1 + 1, 3, none⟩ = some (.int .i64 0) := cellB q 3
    have d4 : W3.cell? ⟨w.heap.size + 1 + 1, 4, none⟩ = some (.int .i64 0) := cellB q 4
    have d5 : W3.cell? ⟨w.heap.size + 1 + 1, 5, none⟩ = some (.int .i64 0) := cellB q 5
    have z0 := frozenB q 0
    have z1 := frozenB q 1
    have z2 := frozenB q 2
    have z3 := frozenB q 3
    have z4 := frozenB q 4
    have z5 := frozenB q 5
    have HE := HRet.out W3 ⟨nm, kd, fr, pos, sz, al⟩ hY3
    clear q hB HQ HRet KG hb3
    refine Lib.hid ?_
    go_wp2
    refine bodyPost_ret (v := .tuple #[.agg (dfnArr ⟨nm, kd, fr, pos, sz, al⟩), .int .i64 0]) (by simp [results, Try.results89, go_sem, d0, d1, d2, d3, d4, d5, dfnArr]) rfl ?_
    exact ⟨by rw [HF'.out], HE⟩
  have h3' : (M.ofKind ds s 3).length = 0 := by omega
  clear hD2
  rw [h3']
  go_upto_region 11 with (go_at_call 109; refine (KO.out _ _ hY2).mono ?_; rintro e W3 ⟨hb3, x3, y3, rfl, hD3⟩)
  have hY3 : Below Y.heap.size Y W3 := hY2.trans (hb3.mono hY2.size)
  clear hb3
  obtain ⟨q, hlt3, hB⟩ := HQ.out W3 hY3
  have d0 : W3.cell? ⟨w.heap.size + 1 + 1, 0, none⟩ = some (.string ⟨#[]⟩) := cellB q 0
  have d1 : W3.cell? ⟨w.heap.size + 1 + 1, 1, none⟩ = some (.int .i64 0) := cellB q 1
  have d2 : W3.cell? ⟨w.heap.size + 1 + 1, 2, none⟩ = some (.int .i64 0) := cellB q 2
  have d3 : W3.cell? ⟨w.heap.size + 1 + 1, 3, none⟩ = some (.int .i64 0) := cellB q 3
  have d4 : W3.cell? ⟨w.heap.size + 1 + 1, 4, none⟩ = some (.int .i64 0) := cellB q 4
  have d5 : W3.cell? ⟨w.heap.size + 1 + 1, 5, none⟩ = some (.int .i64 0) := cellB q 5
  have z0 := frozenB q 0
  have z1 := frozenB q 1
  have z2 := frozenB q 2
  have z3 := frozenB q 3
  have z4 := frozenB q 4
  have z5 := frozenB q 5
  clear q hB
  by_cases h4 : 0 < (M.ofKind ds s 2).length
  · have HF' : Hid (M.find ds s = ((M.ofKind ds s 2).headD M.dfnZ, 0)) := by rw [Hid, HF.out, if_neg h1, if_neg h2, if_neg h3, if_pos h4]
    have hlen : (0 : Int) < ((M.ofKind ds s 2).length : Int) := by omega
    obtain ⟨b, off, rfl, e0, e1, e2, e3, e4, e5, _⟩ := hD3.cells 0 (by omega)
    have hbr : b < W3.heap.size := World.block_lt_of_cell? _ _ e0
    have hhd : (M.ofKind ds s 2).getD 0 dfn0 = (M.ofKind ds s 2).headD M.dfnZ := getD_head _ h4
    rw [Nat.zero_mul, Nat.add_zero, hhd] at e0 e1 e2 e3 e4 e5
    clear hhd
    generalize (M.ofKind ds s 2).headD M.dfnZ = d at *
    obtain ⟨nm, kd, fr, pos, sz, al⟩ := d
    simp only at e0 e1 e2 e3 e4 e5
    have HE := HRet.out W3 ⟨nm, kd, fr, pos, sz, al⟩ hY3
    clear HF KO HQ hD3 HRet h2 h1 h3 h4 h3'
    go_wp2
    refine bodyPost_ret (v := .tuple #[.agg (dfnArr ⟨nm, kd, fr, pos, sz, al⟩), .int .i64 0]) (by simp [results, Try.results89, go_sem, d0, d1, d2, d3, d4, d5, dfnArr]) rfl ?_
    exact ⟨by rw [HF'.out], HE⟩
  · have HF' : Hid (M.find ds s = (M.dfnZ, 7)) := by rw [Hid, HF.out, if_neg h1, if_neg h2, if_neg h3, if_neg h4]
    have h4' : (M.ofKind ds s 2).length = 0 := by omega
    rw [h4']
    have HE := HRet.out W3 M.dfnZ hY3
    clear HF KO HQ hD3 HRet h2 h1 h3 h4 h3' h4'
    go_wp2
    refine bodyPost_ret (v := .tuple #[.agg (dfnArr M.dfnZ), .int .i64 7]) (by simp [results, Try.results89, go_sem, d0, d1, d2, d3, d4, d5, dfnArr, M.dfnZ]) rfl ?_
    exact ⟨by rw [HF'.out], HE⟩

end Go.Proofs.Ytebhbhbhcoijpaa
