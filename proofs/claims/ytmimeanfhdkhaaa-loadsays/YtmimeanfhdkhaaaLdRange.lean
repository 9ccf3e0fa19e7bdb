/-
  The contract of load.Range.
-/
import Derived.Test.YtmimeanfhdkhaaaLdLoad4
namespace Go.Proofs.Ytmimeanfhdkhaaa
open Go Go.RowKit
set_option linter.unusedVariables false

/-- what stands in the row behind k rounds -/
def rowK (l : List M.Seg) (a : Int) (n k : Nat) : List Int := (List.range n).map fun (i : Nat) => if i < k then M.byteIn l (a + (i : Int)) else 0
theorem rowK_len (l : List M.Seg) (a : Int) (n k : Nat) : (rowK l a n k).length = n := by simp [rowK]
theorem rowK_0 (l : List M.Seg) (a : Int) (n : Nat) : rowK l a n 0 = List.replicate n 0 := by
  refine List.ext_getElem (by simp [rowK]) fun i h1 h2 => ?_
  simp [rowK]
theorem rowK_n (l : List M.Seg) (a : Int) (n : Nat) : rowK l a n n = M.rowOf l a n := by
  refine List.ext_getElem (by simp [rowK, M.rowOf]) fun i h1 h2 => ?_
  have hi : i < n := by simpa [rowK] using h1
  simp [rowK, M.rowOf, hi]
theorem rowK_set (l : List M.Seg) (a : Int) (n k : Nat) : rowK l a n (k + 1) = (rowK l a n k).set k (M.byteIn l (a + (k : Int))) := by
  refine List.ext_getElem (by simp [rowK]) fun i h1 h2 => ?_
  rw [List.getElem_set]
  simp only [rowK, List.getElem_map, List.getElem_range]
  by_cases e : k = i
  · subst e; simp
  · rw [if_neg e]
    by_cases h : i < k
    · rw [if_pos h, if_pos (by omega)]
    · rw [if_neg h, if_neg (by omega)]
theorem rowK_range {l : List M.Seg} (h : ∀ s ∈ l, ∀ b ∈ s.bytes, 0 ≤ b ∧ b < 256) (a : Int) (n k : Nat) : ∀ b ∈ rowK l a n k, 0 ≤ b ∧ b < 256 := fun b hb => by
  obtain ⟨i, _, rfl⟩ := List.mem_map.1 hb
  split
  · exact byteIn_range h _
  · decide

def encB (l : List Int) : List Value := l.map (Value.int .u8)
theorem made8 (n : Nat) : (madeCells (Value.int .u8 0).cells (n * 1)).toList = encB (List.replicate n (0 : Int)) := by
  refine List.ext_getElem (by simp [madeCells, encB]) fun i h1 h2 => ?_
  simp [madeCells, Value.cells, Nat.mod_one, encB]
theorem row_bytes {w : World} {B : Nat} {t : TypeId} {fr : Nat × Nat} {bs : List Int} (hb : ∀ b ∈ bs, 0 ≤ b ∧ b < 256) (hl : bs.length ≤ maxLen) (h : w.heap[B]? = some (.cells (encB bs).toArray t fr)) (c : Nat) :
    BytesAt w (.slice (some ⟨B, 0, none⟩) bs.length c) bs := by
  refine ⟨⟨_, _, rfl, hl, .inr ⟨B, 0, rfl, fun j i hj hi => ?_⟩⟩, hb⟩
  have e : 0 + j * 1 + i = j := by omega
  rw [e, cellB h]
  simp [hj, encB]
theorem encB_set (l : List Int) (k : Nat) (b : Int) : (encB l).toArray.setIfInBounds k (Value.int .u8 b) = (encB (l.set k b)).toArray := by
  unfold encB
  rw [List.map_set]; simp

theorem rangeErr_bad {m : M.Img} {a n : Int} (h : M.chkImg m ≠ 0) : M.rangeErr m a n = M.chkImg m ∧ M.range m a n = [] := by
  have h1 : M.rangeErr m a n = M.chkImg m := by unfold M.rangeErr; rw [if_neg h]
  exact ⟨h1, by unfold M.range; rw [h1, if_neg h]⟩
theorem rangeErr_3 {m : M.Img} {a n : Int} (h : M.chkImg m = 0) (h2 : ¬ (M.within a 0 65536 = true ∧ M.within n 0 64 = true)) : M.rangeErr m a n = 3 ∧ M.range m a n = [] := by
  have h1 : M.rangeErr m a n = 3 := by
    unfold M.rangeErr
    rw [if_pos h]
    split
    · rename_i h3
      rw [if_neg (fun h4 => h2 ⟨h3, h4⟩)]
    · rfl
  exact ⟨h1, by unfold M.range; rw [h1, if_neg (by decide)]⟩
theorem rangeErr_5 {m : M.Img} {a : Int} {n k : Nat} (h : M.chkImg m = 0) (h1 : M.within a 0 65536 = true) (h2 : M.within (n : Int) 0 64 = true) (hk : k < n) (ht : M.thereAt m.segs (a + (k : Int)) = false) : M.rangeErr m a n = 5 ∧ M.range m a n = [] := by
  have h3 : M.rangeErr m a n = 5 := by
    unfold M.rangeErr
    rw [if_pos h, if_pos h1, if_pos h2, if_neg]
    intro h4
    have := List.all_eq_true.1 h4 k (by simpa using hk)
    rw [ht] at this
    cases this
  exact ⟨h3, by unfold M.range; rw [h3, if_neg (by decide)]⟩
theorem rangeErr_0 {m : M.Img} {a : Int} {n : Nat} (h : M.chkImg m = 0) (h1 : M.within a 0 65536 = true) (h2 : M.within (n : Int) 0 64 = true) (ht : ∀ k, k < n → M.thereAt m.segs (a + (k : Int)) = true) : M.rangeErr m a n = 0 ∧ M.range m a n = M.rowOf m.segs a n := by
  have h3 : M.rangeErr m a n = 0 := by
    unfold M.rangeErr
    rw [if_pos h, if_pos h1, if_pos h2, if_pos]
    refine List.all_eq_true.2 fun k hk => ht k (by simpa using hk)
  exact ⟨h3, by unfold M.range; rw [h3, if_pos rfl]; simp⟩

set_option maxHeartbeats 8000000 in
set_option maxRecDepth 100000 in
theorem lrange_any (m : M.Img) (at_ n : Int) (a : Option Addr) (c : Nat) (w : World) (hS : SegsAt w (.slice a m.segs.length c) m.segs) :
    Calls Try.prog 8 #[.agg #[.int .i64 m.entry, .slice a m.segs.length c], .int .i64 at_, .int .i64 n] w fun e w' => Below w.heap.size w w' ∧ ∃ x y, e = .returned (.tuple #[.slice x (M.range m at_ n).length y, .int .i64 (M.rangeErr m at_ n)]) ∧ BytesAt w' (.slice x (M.range m at_ n).length y) (M.range m at_ n) := by
  obtain ⟨W, HW⟩ : ∃ W, Hid (W = w.alloc (.cells #[.int .i64 m.entry, .slice a m.segs.length c] 24)) := ⟨_, rfl⟩
  have hB : Below w.heap.size w W := by rw [HW.out]; exact (Below.refl _ _).alloc (Nat.le_refl _) _
  have q : W.heap[w.heap.size]? = some (.cells #[.int .i64 m.entry, .slice a m.segs.length c] 24 (0, 0)) := by rw [HW.out]; exact heap_alloc_new _ _
  have KC : Hid (Calls Try.prog 11 #[.agg #[.int .i64 m.entry, .slice a m.segs.length c]] W fun e w' => e = .returned (.int .i64 (M.chkImg m)) ∧ Below W.heap.size W w') := lcheck_any m a c W (hS.later hB)
  have HQ : Hid (∀ X, Below W.heap.size W X → X.cell? ⟨w.heap.size, 0, none⟩ = some (.int .i64 m.entry) ∧ X.cell? ⟨w.heap.size, 1, none⟩ = some (.slice a m.segs.length c) ∧ w.heap.size < X.heap.size) := fun X hX => by
    have y := (hX.block _ (Array.getElem?_eq_some_iff.1 q).1).trans q
    exact ⟨cellB y 0, cellB y 1, (Array.getElem?_eq_some_iff.1 y).1⟩
  have HQ0 : Hid (W.heap[w.heap.size]? = some (.cells #[.int .i64 m.entry, .slice a m.segs.length c] 24 (0, 0))) := q
  obtain ⟨c0, c1, cl⟩ := HQ.out W (Below.refl _ _)
  have HB : Hid (Below w.heap.size w W) := hB
  have KW : ∀ (n a b : Int) (W : World), Calls Try.prog 29 #[.int .i64 n, .int .i64 a, .int .i64 b] W fun e w' => e = .returned (.bool (M.within n a b)) ∧ W = w' := fun n a b W => (lwithin_any n a b W).mono fun e w' h => ⟨h.1, h.2.symm⟩
  clear q hB
  by_cases hc : M.chkImg m = 0
  · rw [hc] at KC
    by_cases hr : M.within at_ 0 65536 = true ∧ M.within n 0 64 = true
    · obtain ⟨hr1, hr2⟩ := hr
      have ha := lwithin_iff.1 hr1
      have hn := lwithin_iff.1 hr2
      obtain ⟨N, rfl⟩ : ∃ N : Nat, n = N := ⟨n.toNat, by omega⟩
      have hfit := M.chkImg_fit hc
      have HSm : Hid _ := hS.small
      have H5 : Hid (∀ k, k < N → M.thereAt m.segs (at_ + (k : Int)) = false → M.rangeErr m at_ N = 5 ∧ M.range m at_ N = []) := fun k hk h => rangeErr_5 hc hr1 hr2 hk h
      have H0 : Hid ((∀ k, k < N → M.thereAt m.segs (at_ + (k : Int)) = true) → M.rangeErr m at_ N = 0 ∧ M.range m at_ N = M.rowOf m.segs at_ N) := fun h => rangeErr_0 hc hr1 hr2 h
      have KS : Hid (∀ (t : Int) X, Below w.heap.size w X → _) := fun t X hX => segmentAt_any m.segs t a c X (hS.later hX) hfit
      have HT : Hid (∀ t, M.thereAt m.segs t = true → M.SegFit (M.segAt m.segs t) ∧ (M.segAt m.segs t).pos ≤ t ∧ t < M.segEnd (M.segAt m.segs t)) := fun t h => ⟨hfit _ (segAt_mem h), segAt_has h⟩
      clear hS hc hfit
      generalize M.range m at_ N = RR at *
      generalize M.rangeErr m at_ N = RE at *
      obtain ⟨en, l⟩ := m
      simp only at *
      go_enter Try.func8, Try.ntmps8
      go_upto_region 1 with fail
      rw [← HW.out]
      clear HW
      go_upto_region 2 with (go_at_call 11; refine KC.out.mono ?_; rintro e w1 ⟨rfl, hb1⟩)
      have HB1 : Hid (Below w.heap.size w w1) := HB.out.trans (hb1.mono HB.out.size)
      have HQ1 : Hid (w1.heap[w.heap.size]? = some (.cells #[.int .i64 en, .slice a l.length c] 24 (0, 0))) := (hb1.block _ cl).trans HQ0.out
      have hw1 : w.heap.size < w1.heap.size := (Array.getElem?_eq_some_iff.1 HQ1.out).1
      clear c0 c1 cl KC hb1 HQ HB HQ0
      obtain ⟨i1, hi1, hy0, hy1, hy2⟩ := info_parts (P := Try.prog) (e := 5) (z := .int .u8 0) (size := 1) (bytes := 1) (by kernel_rfl)
      obtain ⟨w2, hmk, hrow, hgr⟩ := run_make_full w1 w1.heap.size 28 5 i1 (.int .u8 0) 1 Try.underlying28 hi1 hy0 hy1 .i64 .i64 N (by rw [hy2]; omega) (by unfold maxLen; omega) (Nat.le_refl _)
      have hB2 : Below w1.heap.size w1 w2 := (Below.refl _ _).grown hgr (Nat.le_refl _) (fun k hk => by cases hk)
      have hq2 : w2.heap[w1.heap.size]? = some (.cells (encB (rowK l at_ N 0)).toArray 5 (0, 0)) := by
        rw [rowK_0]
        rcases hrow.2 with ⟨h1, _⟩ | ⟨g, cap, cur, h1, _, h2, _, _, h5, h6⟩
        · cases h1
        · cases h1
          rw [made8] at h6
          have : cur.toList = encB (List.replicate N 0) := by
            have hcl : cur.toList.length = N := by simpa using h5
            rw [List.take_of_length_le (by rw [hcl]; simp)] at h6
            exact h6
          rw [← this]
          exact h2
      have HG2 : Hid (w2.heap[w1.heap.size]? = some (.cells (encB (rowK l at_ N 0)).toArray 5 (0, 0))) := hq2
      have HB2 : Hid (Below w.heap.size w w2) := HB1.out.trans (hB2.mono HB1.out.size)
      have HQ2 : Hid (w2.heap[w.heap.size]? = some (.cells #[.int .i64 en, .slice a l.length c] 24 (0, 0))) := (hB2.block _ hw1).trans HQ1.out
      have hwg : w.heap.size < w1.heap.size := hw1
      clear hrow hgr hB2 hq2 HB1 HQ1
      go_wp2_with (go_at_call 29; refine (KW _ _ _ _).mono ?_; rintro e w' ⟨rfl, rfl⟩)
      clear hmk hi1 hy0 hy1 hy2 hr1 hr2
      generalize w1.heap.size = G at *
      go_loopw [29] (fun s29 wr => ∃ (k : Nat), k ≤ N ∧ s29 = .int .i64 k ∧ Hid (Below w.heap.size w wr) ∧ Hid (wr.heap[w.heap.size]? = some (.cells #[.int .i64 en, .slice a l.length c] 24 (0, 0))) ∧ Hid (wr.heap[G]? = some (.cells (encB (rowK l at_ N k)).toArray 5 (0, 0))) ∧ Hid (∀ j, j < k → M.thereAt l (at_ + (j : Int)) = true)) (fun s29 _ => N - (intOf s29).toNat)
      case atStart => exact ⟨0, Nat.zero_le _, rfl, HB2, HQ2, HG2, fun j hj => absurd hj (Nat.not_lt_zero j)⟩
      case round =>
        obtain ⟨k, hk, rfl, HB, HQ, HG, HTh⟩ := hrel
        clear HB2 HQ2 HG2
        have c1 : wr.cell? ⟨w.heap.size, 1, none⟩ = some (.slice a l.length c) := cellB HQ.out 1
        have cl : w.heap.size < wr.heap.size := (Array.getElem?_eq_some_iff.1 HQ.out).1
        by_cases hlt : k < N
        · have hkl : (k : Int) < (N : Int) := by omega
          have HK := KS.out (at_ + (k : Int))
          have HT2 : Hid _ := HT.out (at_ + (k : Int))
          have H5' : Hid _ := H5.out k hlt
          have HSet : Hid (rowK l at_ N (k + 1) = (rowK l at_ N k).set k (M.byteIn l (at_ + (k : Int)))) := rowK_set l at_ N k
          have HBy : Hid (M.byteIn l (at_ + (k : Int)) = M.byteOf (M.segAt l (at_ + (k : Int))) (at_ + (k : Int))) := rfl
          have HTn : Hid (M.thereAt l (at_ + (k : Int)) = true → ∀ j, j < k + 1 → M.thereAt l (at_ + (j : Int)) = true) := fun h j hj => by
            by_cases e : j = k
            · subst e; exact h
            · exact HTh.out j (by omega)
          have HK' : Hid _ := HK
          clear HK HTh
          have hwr : IntKind.i64.wrap (at_ + (k : Int)) = at_ + (k : Int) := by rw [IntKind.wrap_i64]; omega
          have htl : at_ + (k : Int) ≤ 1000000 := by omega
          generalize M.byteIn l (at_ + (k : Int)) = B at *
          generalize M.segAt l (at_ + (k : Int)) = S at *
          generalize hTe : M.thereAt l (at_ + (k : Int)) = T at *
          clear hTe
          go_upto_region 11 with (go_at_call 27; refine (HK'.out _ HB.out).mono ?_; rintro e w3 ⟨hb3, ab, cb, rfl, hY⟩)
          have hXb : Below w3.heap.size w3 (w3.alloc (.cells #[.int .i64 S.pos, .slice ab S.bytes.length cb, .int .i64 S.zeros, .bool S.writes, .bool S.works] 36)) := (Below.refl _ _).alloc (Nat.le_refl _) _
          have hXq := heap_alloc_new w3 (.cells #[.int .i64 S.pos, .slice ab S.bytes.length cb, .int .i64 S.zeros, .bool S.writes, .bool S.works] 36)
          have hb4 : Below wr.heap.size wr (w3.alloc (.cells #[.int .i64 S.pos, .slice ab S.bytes.length cb, .int .i64 S.zeros, .bool S.writes, .bool S.works] 36)) := hb3.trans (hXb.mono hb3.size)
          have HY : Hid (BytesAt (w3.alloc (.cells #[.int .i64 S.pos, .slice ab S.bytes.length cb, .int .i64 S.zeros, .bool S.writes, .bool S.works] 36)) (.slice ab S.bytes.length cb) S.bytes) := hY.later hXb
          clear hXb hY hb3
          generalize w3.alloc (.cells #[.int .i64 S.pos, .slice ab S.bytes.length cb, .int .i64 S.zeros, .bool S.writes, .bool S.works] 36) = X at *
          generalize w3.heap.size = g at *
          have HBX : Hid (Below w.heap.size w X) := HB.out.trans (hb4.mono HB.out.size)
          have HQX : Hid (X.heap[w.heap.size]? = some (.cells #[.int .i64 en, .slice a l.length c] 24 (0, 0))) := (hb4.block _ cl).trans HQ.out
          have HGX : Hid (X.heap[G]? = some (.cells (encB (rowK l at_ N k)).toArray 5 (0, 0))) := (hb4.block _ (Array.getElem?_eq_some_iff.1 HG.out).1).trans HG.out
          have y0 := cellB hXq 0
          have y1 := cellB hXq 1
          have y2 := cellB hXq 2
          have y3 := cellB hXq 3
          have y4 := cellB hXq 4
          have yl : g < X.heap.size := (Array.getElem?_eq_some_iff.1 hXq).1
          simp at y0 y1 y2 y3 y4
          clear hXq hb4 HB HQ HG c1 cl HK'
          cases T
          · obtain ⟨h1, h2⟩ := H5'.out rfl
            subst h1 h2
            clear H5' HT2 HTn HSet HBy HY H5 H0 HGX HQX
            go_wp2
            go_ret2
            exact ⟨HBX.out, none, 0, rfl, bytes_nil _⟩
          · obtain ⟨hf, hp, he⟩ := HT2.out rfl
            have KB : Hid (Calls Try.prog 28 #[.agg #[.int .i64 S.pos, .slice ab S.bytes.length cb, .int .i64 S.zeros, .bool S.writes, .bool S.works], .int .i64 (at_ + (k : Int))] X fun e w' => e = .returned (.int .u8 B) ∧ Below X.heap.size X w') := by
              have := byteOf_any S (at_ + (k : Int)) ab cb X HY.out ⟨hf.pos.1, hp⟩ htl
              rwa [← HBy.out] at this
            have HTk : Hid _ := HTn.out rfl
            clear H5' HT2 HTn HBy HY hf hp he
            have hGl : (encB (rowK l at_ N k)).toArray.size = N := by simp [encB, rowK]
            have HCk : Hid (∀ Z, Below X.heap.size X Z → ∃ u, Z.cell? ⟨G, k, none⟩ = some u ∧ Z.frozen? ⟨G, k, none⟩ = false ∧ G < Z.heap.size) := fun Z hZ => by
              have qz := (hZ.block _ (Array.getElem?_eq_some_iff.1 HGX.out).1).trans HGX.out
              exact ⟨(encB (rowK l at_ N k)).toArray[k]'(by omega), by rw [cellB qz, Array.getElem?_eq_getElem], frozenB qz k, (Array.getElem?_eq_some_iff.1 qz).1⟩
            clear hGl
            go_wp2_with (go_at_call 28; refine KB.out.mono ?_; rintro e w4 ⟨rfl, hb4⟩; obtain ⟨u, hu1, hu2, hu3⟩ := HCk.out _ hb4)
            go_roundw
            case rel =>
              have hqz := (hb4.block _ (Array.getElem?_eq_some_iff.1 HGX.out).1).trans HGX.out
              have hqm := (hb4.block _ (Array.getElem?_eq_some_iff.1 HQX.out).1).trans HQX.out
              have hbz := HBX.out.trans (hb4.mono HBX.out.size)
              refine ⟨k + 1, by omega, by go_num, hbz.setCell (by show w.heap.size ≤ G; omega) _, (Below.heap_setCell _ _ _ _ (by show w.heap.size ≠ G; omega)).trans hqm, ?_, HTk⟩
              rw [Hid, HSet.out, ← encB_set]
              first | exact setB' hqz _ | (rw [Nat.zero_add]; exact setB' hqz _)
            case measure => simp [intOf]; omega
        · have hkl : k = N := by omega
          subst hkl
          obtain ⟨h1, h2⟩ := H0.out HTh.out
          have h3 : RR = rowK l at_ k k := by rw [h2, rowK_n]
          clear h2
          subst h1 h3
          have hlen := rowK_len l at_ k k
          have hrow := row_bytes (rowK_range HSm.out at_ k k) (by rw [hlen]; unfold maxLen; omega) HG.out k
          have HRow : Hid (BytesAt wr (.slice (some ⟨G, 0, none⟩) (rowK l at_ k k).length k) (rowK l at_ k k)) := hrow
          clear hrow H0 H5 HTh HT KS
          go_wp2
          go_ret2
          exact ⟨HB.out, some ⟨G, 0, none⟩, k, by rw [hlen]; rfl, HRow.out⟩
    · obtain ⟨h1, h2⟩ := rangeErr_3 (a := at_) (n := n) hc hr
      rw [h1, h2]
      have hcase : M.within at_ 0 65536 = false ∨ (M.within at_ 0 65536 = true ∧ M.within n 0 64 = false) := by
        cases h3 : M.within at_ 0 65536
        · exact .inl rfl
        · cases h4 : M.within n 0 64
          · exact .inr ⟨rfl, rfl⟩
          · exact absurd ⟨h3, h4⟩ hr
      clear hr h1 h2 hS hc
      generalize m.segs.length = nl at *
      generalize m.entry = en at *
      rcases hcase with h3 | ⟨h3, h4⟩
      · go_enter Try.func8, Try.ntmps8
        go_upto_region 1 with fail
        rw [← HW.out]
        clear HW
        go_wp2_with (first | (go_at_call 11; refine KC.out.mono ?_; rintro e w1 ⟨rfl, hb1⟩) | (go_at_call 29; refine (KW _ _ _ _).mono ?_; rintro e w' ⟨rfl, rfl⟩))
        go_ret2
        exact ⟨HB.out.trans (hb1.mono HB.out.size), none, 0, rfl, bytes_nil _⟩
      · go_enter Try.func8, Try.ntmps8
        go_upto_region 1 with fail
        rw [← HW.out]
        clear HW
        go_wp2_with (first | (go_at_call 11; refine KC.out.mono ?_; rintro e w1 ⟨rfl, hb1⟩) | (go_at_call 29; refine (KW _ _ _ _).mono ?_; rintro e w' ⟨rfl, rfl⟩))
        go_ret2
        exact ⟨HB.out.trans (hb1.mono HB.out.size), none, 0, rfl, bytes_nil _⟩
  · obtain ⟨h1, h2⟩ := rangeErr_bad (a := at_) (n := n) hc
    rw [h1, h2]
    clear h1 h2 hS
    generalize M.chkImg m = R at *
    have hc' : (R != 0) = true := by simpa using hc
    generalize m.segs.length = nl at *
    generalize m.entry = en at *
    clear hc
    go_enter Try.func8, Try.ntmps8
    go_upto_region 1 with fail
    rw [← HW.out]
    clear HW
    go_wp2_with (go_at_call 11; refine KC.out.mono ?_; rintro e w1 ⟨rfl, hb1⟩)
    go_ret2
    exact ⟨HB.out.trans (hb1.mono HB.out.size), none, 0, rfl, bytes_nil _⟩

end Go.Proofs.Ytmimeanfhdkhaaa
