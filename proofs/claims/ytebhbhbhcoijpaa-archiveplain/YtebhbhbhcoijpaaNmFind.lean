/-
  The contracts of names.greatest, names.find, names.Find.
-/
import Derived.Test.YtebhbhbhcoijpaaNmKind
import Derived.Test.YtebhbhbhcoijpaaPrtFrag
namespace Go.Proofs.Ytebhbhbhcoijpaa
open Go.RowKit
set_option linter.unusedVariables false

def dfnZA : Array Value := #[.string ⟨#[]⟩, .int .i64 0, .int .i64 0, .int .i64 0, .int .i64 0, .int .i64 0]

theorem fold_take (l : List M.Dfn) (o : M.Dfn) (k : Nat) (h : k < l.length) : (l.take (k + 1)).foldl M.grow o = M.grow ((l.take k).foldl M.grow o) (l.getD k dfn0) := by
  rw [List.take_succ_eq_append_getElem h, List.foldl_append, List.getD_eq_getElem?_getD, List.getElem?_eq_getElem h]
  rfl

set_option maxHeartbeats 2000000 in
set_option maxRecDepth 100000 in
theorem greatest_any (l : List M.Dfn) (a : Option Addr) (c : Nat) (w : World) (hd : DefsAt w (.slice a l.length c) l) (h60 : l.length ≤ 60) (h0 : 0 < l.length) :
    Calls Try.prog 110 #[.slice a l.length c] w fun e w' => e = .returned (.agg (dfnArr (M.greatest l))) ∧ Below w.heap.size w w' := by
  obtain ⟨b, off, rfl, e0, e1, e2, e3, e4, e5, hnm⟩ := hd.cells 0 h0
  rw [Nat.zero_mul, Nat.add_zero] at e0 e1 e2 e3 e4 e5
  have hhd : l.getD 0 dfn0 = l.headD M.dfnZ := by cases l with | nil => simp at h0 | cons x l => rfl
  have hbr : b < w.heap.size := World.block_lt_of_cell? _ _ e0
  have hl0 : (0 : Int) < (l.length : Int) := by omega
  have HG : Hid (M.greatest l = l.foldl M.grow (l.headD M.dfnZ)) := rfl
  rw [hhd] at e0 e1 e2 e3 e4 e5
  clear hhd
  generalize l.headD M.dfnZ = o0 at *
  go_enter Try.func110, Try.ntmps110
  go_wp2_with fail
  have HY : Hid (((w.alloc (.cells dfnZA 69)).alloc (.cells (dfnArr o0) 69)).heap[w.heap.size]? = some (.cells dfnZA 69 (0, 0)) ∧ ((w.alloc (.cells dfnZA 69)).alloc (.cells (dfnArr o0) 69)).heap[w.heap.size + 1]? = some (.cells (dfnArr o0) 69 (0, 0)) ∧ Below w.heap.size w ((w.alloc (.cells dfnZA 69)).alloc (.cells (dfnArr o0) 69))) :=
    ⟨heap_alloc2_old _ _ _, heap_alloc2_new _ _ _, ((Below.refl _ _).alloc (Nat.le_refl _) _).alloc (by simp) _⟩
  go_loopw [11] (fun s11 wr => ∃ (k : Nat) (o : M.Dfn), k ≤ l.length ∧ s11 = .int .i64 k ∧ Hid (o = (l.take k).foldl M.grow o0) ∧ wr.heap[w.heap.size]? = some (.cells dfnZA 69 (0, 0)) ∧ wr.heap[w.heap.size + 1]? = some (.cells (dfnArr o) 69 (0, 0)) ∧ Hid (Below w.heap.size w wr)) (fun s11 _ => l.length - (intOf s11).toNat)
  case atStart => exact ⟨0, o0, Nat.zero_le _, rfl, rfl, HY.out.1, HY.out.2.1, HY.out.2.2⟩
  case round =>
    obtain ⟨k, o, hk, rfl, HO, q0, q1, HB⟩ := hrel
    clear HY e0 e1 e2 e3 e4 e5
    have hl1 : w.heap.size + 1 < wr.heap.size := (Array.getElem?_eq_some_iff.1 q1).1
    have hw0 : w.heap.size ≤ wr.heap.size := by omega
    by_cases hlt : k < l.length
    · obtain ⟨b', off', hbb, e0, e1, e2, e3, e4, e5, _⟩ := (hd.later HB.out).cells k hlt
      cases hbb
      have hbr' : b < wr.heap.size := World.block_lt_of_cell? _ _ e0
      have hkl : (k : Int) < (l.length : Int) := by omega
      have HO1 := fold_take l o0 k hlt
      rw [← HO.out] at HO1
      clear HO hd
      generalize l.getD k dfn0 = d at *
      obtain ⟨nm, kd, fr, pos, sz, al⟩ := d
      obtain ⟨nm', kd', fr', pos', sz', al'⟩ := o
      have HO2 : Hid ((l.take (k + 1)).foldl M.grow o0 = ⟨nm', kd', fr', pos', max sz' sz, max al' al⟩) := HO1
      clear HO1
      simp only [dfnArr] at e0 e1 e2 e3 e4 e5 q1 ⊢
      have g4 : wr.cell? ⟨w.heap.size + 1, 4, none⟩ = some (.int .i64 sz') := cellB q1 4
      have g5 : wr.cell? ⟨w.heap.size + 1, 5, none⟩ = some (.int .i64 al') := cellB q1 5
      have z4 := frozenB q1 4
      have z5 := frozenB q1 5
      have hE : Hid (∀ ob, (((wr.setCell ⟨w.heap.size + 1, 4, none⟩ (.int .i64 (max sz' sz))).setCell ⟨w.heap.size + 1, 5, none⟩ (.int .i64 (max al' al))).alloc ob).heap[w.heap.size]? = some (.cells dfnZA 69 (0, 0)) ∧ (((wr.setCell ⟨w.heap.size + 1, 4, none⟩ (.int .i64 (max sz' sz))).setCell ⟨w.heap.size + 1, 5, none⟩ (.int .i64 (max al' al))).alloc ob).heap[w.heap.size + 1]? = some (.cells (dfnArr ⟨nm', kd', fr', pos', max sz' sz, max al' al⟩) 69 (0, 0)) ∧ Below w.heap.size w (((wr.setCell ⟨w.heap.size + 1, 4, none⟩ (.int .i64 (max sz' sz))).setCell ⟨w.heap.size + 1, 5, none⟩ (.int .i64 (max al' al))).alloc ob)) := fun ob => by
        have r2 : (wr.setCell ⟨w.heap.size + 1, 4, none⟩ (.int .i64 (max sz' sz))).heap[w.heap.size + 1]? = some (.cells #[.string nm', .int .i64 kd', .int .i64 fr', .int .i64 pos', .int .i64 (max sz' sz), .int .i64 al'] 69 (0, 0)) := setB' q1 _
        have r3 : ((wr.setCell ⟨w.heap.size + 1, 4, none⟩ (.int .i64 (max sz' sz))).setCell ⟨w.heap.size + 1, 5, none⟩ (.int .i64 (max al' al))).heap[w.heap.size + 1]? = some (.cells (dfnArr ⟨nm', kd', fr', pos', max sz' sz, max al' al⟩) 69 (0, 0)) := setB' r2 _
        have r4 : ((wr.setCell ⟨w.heap.size + 1, 4, none⟩ (.int .i64 (max sz' sz))).setCell ⟨w.heap.size + 1, 5, none⟩ (.int .i64 (max al' al))).heap[w.heap.size]? = some (.cells dfnZA 69 (0, 0)) := (Below.heap_setCell _ _ _ _ (by show w.heap.size ≠ w.heap.size + 1; omega)).trans ((Below.heap_setCell _ _ _ _ (by show w.heap.size ≠ w.heap.size + 1; omega)).trans q0)
        have r5 := (HB.out.setCell (p := ⟨w.heap.size + 1, 4, none⟩) (by show w.heap.size ≤ w.heap.size + 1; omega) (.int .i64 (max sz' sz))).setCell (p := ⟨w.heap.size + 1, 5, none⟩) (by show w.heap.size ≤ w.heap.size + 1; omega) (.int .i64 (max al' al))
        exact ⟨(heap_alloc_old _ ob (Array.getElem?_eq_some_iff.1 r4).1).trans r4, (heap_alloc_old _ ob (Array.getElem?_eq_some_iff.1 r3).1).trans r3, r5.alloc r5.size _⟩
      clear q0 q1 HB
      go_wp2
      go_roundw
      case rel => exact ⟨k + 1, _, by omega, by go_num, HO2.out.symm, (hE.out _).1, (hE.out _).2.1, (hE.out _).2.2⟩
      case measure => simp [intOf]; omega
    · have hkl : k = l.length := by omega
      have HO2 : Hid (M.greatest l = o) := by rw [Hid, HG.out, HO.out, hkl, List.take_length]
      clear HO hd
      subst hkl
      obtain ⟨nm', kd', fr', pos', sz', al'⟩ := o
      simp only [dfnArr] at q1 ⊢
      have g0 : wr.cell? ⟨w.heap.size + 1, 0, none⟩ = some (.string nm') := cellB q1 0
      have g1 : wr.cell? ⟨w.heap.size + 1, 1, none⟩ = some (.int .i64 kd') := cellB q1 1
      have g2 : wr.cell? ⟨w.heap.size + 1, 2, none⟩ = some (.int .i64 fr') := cellB q1 2
      have g3 : wr.cell? ⟨w.heap.size + 1, 3, none⟩ = some (.int .i64 pos') := cellB q1 3
      have g4 : wr.cell? ⟨w.heap.size + 1, 4, none⟩ = some (.int .i64 sz') := cellB q1 4
      have g5 : wr.cell? ⟨w.heap.size + 1, 5, none⟩ = some (.int .i64 al') := cellB q1 5
      have d0 : wr.cell? ⟨w.heap.size, 0, none⟩ = some (.string ⟨#[]⟩) := cellB q0 0
      have d1 : wr.cell? ⟨w.heap.size, 1, none⟩ = some (.int .i64 0) := cellB q0 1
      have d2 : wr.cell? ⟨w.heap.size, 2, none⟩ = some (.int .i64 0) := cellB q0 2
      have d3 : wr.cell? ⟨w.heap.size, 3, none⟩ = some (.int .i64 0) := cellB q0 3
      have d4 : wr.cell? ⟨w.heap.size, 4, none⟩ = some (.int .i64 0) := cellB q0 4
      have d5 : wr.cell? ⟨w.heap.size, 5, none⟩ = some (.int .i64 0) := cellB q0 5
      have z0 := frozenB q0 0
      have z1 := frozenB q0 1
      have z2 := frozenB q0 2
      have z3 := frozenB q0 3
      have z4 := frozenB q0 4
      have z5 := frozenB q0 5
      have HSt : Hid _ := store6 wr w.heap.size _ _ _ _ _ _ (.string nm') (.int .i64 kd') (.int .i64 fr') (.int .i64 pos') (.int .i64 sz') (.int .i64 al') 69 q0
      have HRes : Hid (Below w.heap.size w _) := HB.out.grown HSt.out.2 hw0 (fun k hk => by cases hk; exact Nat.le_refl _)
      clear q0 q1
      go_wp2
      refine bodyPost_ret (v := .agg #[.string nm', .int .i64 kd', .int .i64 fr', .int .i64 pos', .int .i64 sz', .int .i64 al']) (results_cell_row Try.results110 _ _ w.heap.size 69 _ (0, 0) _ rfl HSt.out.1 Try.underlying69 rfl (by kernel_rfl)) rfl ?_
      exact ⟨by rw [HO2.out]; rfl, HRes.out⟩

end Go.Proofs.Ytebhbhbhcoijpaa
