/-
  The contract of link.filled: a fragment's bytes with their numbers in their places.
-/
import Derived.Test.YtabkbicaignicabGreatLkNum
import Derived.Test.YtabkbicaignicabGreatFlA
namespace Go.Proofs.YtabkbicaignicabGreat
open Go Go.RowKit
set_option linter.unusedVariables false

theorem fill_take (p : M.Prt) (l : M.Lay) (i : Nat) (b : List Int) (rs : List M.Rel) (j : Nat) (h : j < rs.length) : (rs.take (j + 1)).foldl (M.fillRel p l i) b = (M.putB ((rs.take j).foldl (M.fillRel p l i) b) (rs.getD j rel0).pos (rs.getD j rel0).kind (M.number p l i (rs.getD j rel0)).1).1 := by
  rw [List.take_succ_eq_append_getElem h, List.foldl_append, List.getD_eq_getElem?_getD, List.getElem?_eq_getElem h]
  rfl

set_option maxHeartbeats 8000000 in
set_option maxRecDepth 100000 in
theorem filled_any (p : M.Prt) (l : M.Lay) (i : Nat) (f : M.Frg) (ab ar : Option Addr) (cb cr bp bl : Nat) (w : World) (h : NumAt w bp bl p l) (hi : i < p.frags.length) (hB : BytesAt w (.slice ab f.bytes.length cb) f.bytes) (hR : RelsAt w (.slice ar f.rels.length cr) f.rels)
    (hok : ∀ r ∈ f.rels, (r.name.toList.isEmpty = true → r.frag < p.frags.length) ∧ 0 ≤ r.pos ∧ r.pos ≤ 64) (h8 : f.rels.length ≤ 8) :
    Calls Tryz.prog 70 #[.agg #[.int .i64 f.sect, .int .i64 f.align, .string f.group, .slice ab f.bytes.length cb, .int .i64 f.size, .slice ar f.rels.length cr], .int .i64 i, .func (.func 42) #[] #[.pointer (some ⟨bp, 0, none⟩), .pointer (some ⟨bl, 0, none⟩)]] w
      fun e w' => Below w.heap.size w w' ∧ ∃ a c, e = .returned (.slice a (M.filled p l i f).length c) ∧ BytesAt w' (.slice a (M.filled p l i f).length c) (M.filled p l i f) := by
  have HFl : Hid (M.filled p l i f = f.rels.foldl (M.fillRel p l i) f.bytes) := rfl
  generalize M.filled p l i f = FL at *
  obtain ⟨s, al, g, bs, sz, rs⟩ := f
  simp only at hB hR hok HFl h8 ⊢
  have KN : Hid (∀ W (r : M.Rel), Below w.heap.size w W → (r.name.toList.isEmpty = true → r.frag < p.frags.length) → 0 ≤ r.pos → r.pos ≤ 64 → Calls Tryz.prog 42 #[.int .i64 i, .agg #[.int .i64 r.pos, .int .i64 r.kind, .string r.name, .int .i64 r.frag, .int .i64 r.add], .pointer (some ⟨bp, 0, none⟩), .pointer (some ⟨bl, 0, none⟩)] W fun e w' => e = .returned (.tuple #[.int .i64 (M.number p l i r).1, .int .i64 (M.number p l i r).2]) ∧ Below W.heap.size W w') := fun W r hW h1 h2 h3 => number_any p l i r bp bl W (h.later hW) hi h1 h2 h3
  have HR : Hid (∀ W, Below w.heap.size w W → RelsAt W (.slice ar rs.length cr) rs) := fun W hW => hR.later hW
  have HOk : Hid _ := hok
  have hA : Below w.heap.size w (w.alloc (.cells #[.int .i64 s, .int .i64 al, .string g, .slice ab bs.length cb, .int .i64 sz, .slice ar rs.length cr] 85)) := (Below.refl _ _).alloc (Nat.le_refl _) _
  have HA : Hid _ := hA
  have HB0 := hB.later hA
  have HB0' : Hid (BytesAt (w.alloc (.cells #[.int .i64 s, .int .i64 al, .string g, .slice ab bs.length cb, .int .i64 sz, .slice ar rs.length cr] 85)) (.slice ab bs.length cb) bs) := HB0
  clear h hB hR hok hA HB0
  go_enter Tryz.func70, Tryz.ntmps70
  go_wp2_with fail
  go_loopw [7, 17] (fun s7 s17 wr => ∃ (j : Nat) (b : List Int) (a : Option Addr) (c : Nat), j ≤ rs.length ∧ s17 = .int .i64 j ∧ s7 = .slice a b.length c ∧ Hid (b = (rs.take j).foldl (M.fillRel p l i) bs) ∧ Hid (BytesAt wr (.slice a b.length c) b) ∧ Hid (Below w.heap.size w wr)) (fun _ s17 _ => rs.length - (intOf s17).toNat)
  case atStart => exact ⟨0, bs, ab, cb, Nat.zero_le _, rfl, rfl, rfl, HB0', HA⟩
  case round =>
    obtain ⟨j, b, a, c, hj, rfl, rfl, HE, HBy, HB⟩ := hrel
    clear HB0' HA
    by_cases hjt : j < rs.length
    · obtain ⟨b', off', rfl, e0, e1, e2, e3, e4⟩ := relsAt_cells (HR.out wr HB.out) j hjt
      have hbr' : b' < wr.heap.size := World.block_lt_of_cell? _ _ e0
      have hjl : (j : Int) < (rs.length : Int) := by omega
      obtain ⟨g1, g2, g3⟩ := HOk.out _ (getD_mem rs rel0 j hjt)
      have KN' : Hid (∀ W, Below w.heap.size w W → _) := fun W hW => KN.out W (rs.getD j rel0) hW g1 g2 g3
      have HT := fill_take p l i bs rs j hjt
      rw [← HE.out] at HT
      clear g1 g2 g3 HE
      generalize M.number p l i (rs.getD j rel0) = nu at *
      generalize rs.getD j rel0 = r at *
      obtain ⟨pos, kd, name, fr, ad⟩ := r
      obtain ⟨n1, n2⟩ := nu
      simp only at e0 e1 e2 e3 e4 HT KN'
      have HT' : Hid _ := HT.symm
      clear HT
      go_upto_region 5 with fail
      have hbY : Below wr.heap.size wr (wr.alloc (.cells #[.int .i64 pos, .int .i64 kd, .string name, .int .i64 fr, .int .i64 ad] 91)) := (Below.refl _ _).alloc (Nat.le_refl _) _
      have HByY : Hid _ := HBy.out.later hbY
      have HBY : Hid (Below w.heap.size w (wr.alloc (.cells #[.int .i64 pos, .int .i64 kd, .string name, .int .i64 fr, .int .i64 ad] 91))) := HB.out.alloc HB.out.size _
      have x3 := heap_alloc_new wr (.cells #[.int .i64 pos, .int .i64 kd, .string name, .int .i64 fr, .int .i64 ad] 91)
      clear HB HBy e0 e1 e2 e3 e4 hbY
      generalize wr.alloc (.cells #[.int .i64 pos, .int .i64 kd, .string name, .int .i64 fr, .int .i64 ad] 91) = Y at *
      generalize wr.heap.size = ny at *
      have k0 : Y.cell? ⟨ny, 0, none⟩ = some (.int .i64 pos) := cellB x3 0
      have k1 : Y.cell? ⟨ny, 1, none⟩ = some (.int .i64 kd) := cellB x3 1
      have k2 : Y.cell? ⟨ny, 2, none⟩ = some (.string name) := cellB x3 2
      have k3 : Y.cell? ⟨ny, 3, none⟩ = some (.int .i64 fr) := cellB x3 3
      have k4 : Y.cell? ⟨ny, 4, none⟩ = some (.int .i64 ad) := cellB x3 4
      have hlY : ny < Y.heap.size := (Array.getElem?_eq_some_iff.1 x3).1
      have KN2 : Hid (Calls Tryz.prog 42 #[.int .i64 i, .agg #[.int .i64 pos, .int .i64 kd, .string name, .int .i64 fr, .int .i64 ad], .pointer (some ⟨bp, 0, none⟩), .pointer (some ⟨bl, 0, none⟩)] Y _) := KN'.out Y HBY.out
      have KP : Hid (∀ W, Below Y.heap.size Y W → Calls Tryz.prog 82 #[.slice a b.length c, .int .i64 pos, .int .i64 kd, .int .i64 n1] W fun e w' => Below W.heap.size W w' ∧ ∃ a' c', e = .returned (.tuple #[.slice a' (M.putB b pos kd n1).1.length c', .int .i64 (M.putB b pos kd n1).2]) ∧ BytesAt w' (.slice a' (M.putB b pos kd n1).1.length c') (M.putB b pos kd n1).1) := fun W hW => put_any b a c pos kd n1 W (BytesAt.later HByY.out hW)
      clear HByY x3 KN'
      generalize M.putB b pos kd n1 = PB at *
      generalize b.length = nb at *
      go_wp2_with (first | (go_at_call 42; refine KN2.out.mono ?_; rintro e Z ⟨rfl, hbZ⟩; have z0 := cell_later hbZ k0; have z1 := cell_later hbZ k1; have hlZ := Nat.lt_of_lt_of_le hlY hbZ.size) | (go_at_call 82; refine (KP.out _ hbZ).mono ?_; rintro e V ⟨hbV, a', c', rfl, hBV⟩))
      have HBV : Hid _ := hBV
      have HE2 : Hid (Below w.heap.size w V) := (HBY.out.trans (hbZ.mono HBY.out.size)).trans (hbV.mono (Nat.le_trans HBY.out.size hbZ.size))
      go_roundw
      case rel => exact ⟨j + 1, PB.1, a', c', by omega, by go_num, rfl, HT', HBV, HE2⟩
      case measure => simp [intOf]; omega
    · have hjl : j = rs.length := by omega
      have HE2 : Hid (b = FL) := by rw [Hid, HE.out, hjl, List.take_length, HFl.out]
      obtain rfl := HE2.out
      clear HE HE2 HFl
      subst hjl
      go_wp2
      go_ret
      exact ⟨HB.out, a, c, rfl, HBy.out⟩

end Go.Proofs.YtabkbicaignicabGreat
