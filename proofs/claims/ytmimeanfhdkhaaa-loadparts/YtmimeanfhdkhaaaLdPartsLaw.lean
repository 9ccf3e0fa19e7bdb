/-
  The law LoadParts: whatever the image and the numbers, it returns true.
-/
import Derived.Test.YtmimeanfhdkhaaaLdCat
namespace Go.Proofs.Ytmimeanfhdkhaaa
open Go Go.RowKit
set_option linter.unusedVariables false

theorem atN_any (k n : Int) (w : World) (hn : 0 < n) (hn2 : n ≤ 1000) : Calls Try.prog 14 #[.int .i64 k, .int .i64 n] w fun e w' => (∃ t, e = .returned (.int .i64 t) ∧ 0 ≤ t ∧ t < n) ∧ w = w' := by
  have h1 : k.tmod n < n := Int.tmod_lt_of_pos k hn
  have h2 : -n < k.tmod n := by
    have := Int.tmod_lt_of_pos (-k) (b := n) hn
    rw [Int.neg_tmod] at this
    omega
  have hz : (n == 0) = false := by simp; omega
  have hz' : ¬ n = 0 := by omega
  generalize hq : k.tmod n = q at *
  have hw : IntKind.i64.wrap q = q := by rw [IntKind.wrap_i64]; omega
  by_cases h : q < 0
  · have hw2 : IntKind.i64.wrap (q + n) = q + n := by rw [IntKind.wrap_i64]; omega
    go_enter Try.func14, Try.ntmps14
    go_wp2
    go_ret
    exact ⟨⟨_, rfl, by omega, by omega⟩, rfl⟩
  · have h' : decide (q < 0) = false := by simpa using h
    go_enter Try.func14, Try.ntmps14
    go_wp2
    go_ret
    exact ⟨⟨_, rfl, by omega, by omega⟩, rfl⟩

theorem rowOf_app (l : List M.Seg) (a : Int) (K J : Nat) : M.rowOf l a K ++ M.rowOf l (a + (K : Int)) J = M.rowOf l a (K + J) := by
  unfold M.rowOf
  rw [List.range_add, List.map_append, List.map_map]
  congr 1
  refine List.map_congr_left fun i _ => ?_
  show M.byteIn l (a + (K : Int) + (i : Int)) = M.byteIn l (a + ((K + i : Nat) : Int))
  congr 1
  omega

theorem range_inv {m : M.Img} {a n : Int} (h : M.rangeErr m a n = 0) : M.chkImg m = 0 ∧ (0 ≤ a ∧ a ≤ 65536) ∧ ∃ N : Nat, n = N ∧ N ≤ 64 ∧ ∀ k, k < N → M.thereAt m.segs (a + (k : Int)) = true := by
  by_cases hc : M.chkImg m = 0
  · refine ⟨hc, ?_⟩
    by_cases hr : M.within a 0 65536 = true ∧ M.within n 0 64 = true
    · obtain ⟨h1, h2⟩ := hr
      have h1' := lwithin_iff.1 h1
      have h2' := lwithin_iff.1 h2
      obtain ⟨N, rfl⟩ : ∃ N : Nat, n = N := ⟨n.toNat, by omega⟩
      refine ⟨h1', N, rfl, by omega, fun k hk => ?_⟩
      cases ht : M.thereAt m.segs (a + (k : Int))
      · have := (rangeErr_5 hc h1 h2 hk ht).1
        rw [this] at h; cases h
      · rfl
    · rw [(rangeErr_3 hc hr).1] at h; cases h
  · rw [(rangeErr_bad hc).1] at h; exact absurd h hc

theorem there_lt {m : M.Img} (hc : M.chkImg m = 0) {a : Int} (h : M.thereAt m.segs a = true) : a < 65536 := by
  have h1 := (M.chkImg_fit hc) _ (segAt_mem h)
  have h2 := segAt_has h
  have := h1.fin
  omega

/-- a row and its pieces -/
theorem range_parts {m : M.Img} {a : Int} {N : Nat} (h : M.rangeErr m a N = 0) {K : Nat} (hK : K ≤ N) :
    M.range m a N = M.rowOf m.segs a N ∧ M.rangeErr m a K = 0 ∧ M.range m a K = M.rowOf m.segs a K ∧ M.rangeErr m (a + (K : Int)) ((N - K : Nat) : Int) = 0 ∧ M.range m (a + (K : Int)) ((N - K : Nat) : Int) = M.rowOf m.segs (a + (K : Int)) (N - K) := by
  obtain ⟨hc, ha, N', e, hN, ht⟩ := range_inv h
  have : N' = N := by omega
  subst this
  have hw : M.within a 0 65536 = true := lwithin_iff.2 ha
  have h1 := rangeErr_0 (m := m) (a := a) (n := N') hc hw (lwithin_iff.2 (by omega)) ht
  have h2 := rangeErr_0 (m := m) (a := a) (n := K) hc hw (lwithin_iff.2 (by omega)) (fun k hk => ht k (by omega))
  have hK2 : a + (K : Int) ≤ 65536 := by
    by_cases h0 : K = 0
    · omega
    · have := there_lt hc (ht (K - 1) (by omega))
      omega
  have h3 := rangeErr_0 (m := m) (a := a + (K : Int)) (n := N' - K) hc (lwithin_iff.2 (by omega)) (lwithin_iff.2 (by omega)) (fun k hk => by
    have := ht (K + k) (by omega)
    rwa [show a + ((K + k : Nat) : Int) = a + (K : Int) + (k : Int) by omega] at this)
  exact ⟨h1.2, h2.1, h2.2, h3.1, h3.2⟩

set_option maxHeartbeats 16000000 in
set_option maxRecDepth 100000 in
theorem loadParts_law (m : M.Img) (fr n kk : Int) (a : Option Addr) (c : Nat) (w : World) (hS : SegsAt w (.slice a m.segs.length c) m.segs) :
    Calls Try.prog 4 #[.agg #[.int .i64 m.entry, .slice a m.segs.length c], .int .i64 fr, .int .i64 n, .int .i64 kk] w fun e w' => e = .returned (.bool true) ∧ Below w.heap.size w w' := by
  obtain ⟨W, HW⟩ : ∃ W, Hid (W = w.alloc (.cells #[.int .i64 m.entry, .slice a m.segs.length c] 24)) := ⟨_, rfl⟩
  have hB : Below w.heap.size w W := by rw [HW.out]; exact (Below.refl _ _).alloc (Nat.le_refl _) _
  have q : W.heap[w.heap.size]? = some (.cells #[.int .i64 m.entry, .slice a m.segs.length c] 24 (0, 0)) := by rw [HW.out]; exact heap_alloc_new _ _
  have HQ : Hid (∀ X, Below W.heap.size W X → X.cell? ⟨w.heap.size, 0, none⟩ = some (.int .i64 m.entry) ∧ X.cell? ⟨w.heap.size, 1, none⟩ = some (.slice a m.segs.length c) ∧ w.heap.size < X.heap.size) := fun X hX => by
    have y := (hX.block _ (Array.getElem?_eq_some_iff.1 q).1).trans q
    exact ⟨cellB y 0, cellB y 1, (Array.getElem?_eq_some_iff.1 y).1⟩
  obtain ⟨c0, c1, cl⟩ := HQ.out W (Below.refl _ _)
  have HBw : Hid (Below w.heap.size w W) := hB
  have hSW := hS.later hB
  have HSm : Hid (∀ s ∈ m.segs, ∀ b ∈ s.bytes, 0 ≤ b ∧ b < 256) := hS.small
  have KR : Hid (∀ t u X, Below W.heap.size W X → Calls Try.prog 8 #[.agg #[.int .i64 m.entry, .slice a m.segs.length c], .int .i64 t, .int .i64 u] X fun e w' => Below X.heap.size X w' ∧ ∃ x y, e = .returned (.tuple #[.slice x (M.range m t u).length y, .int .i64 (M.rangeErr m t u)]) ∧ BytesAt w' (.slice x (M.range m t u).length y) (M.range m t u)) := fun t u X hX => lrange_any m t u a c X (hSW.later hX)
  have KR1 : Hid _ := KR.out fr n W (Below.refl _ _)
  by_cases he : M.rangeErr m fr n = 0
  · obtain ⟨hc, ha, N, rfl, hN, ht⟩ := range_inv he
    have KB : Hid (∀ t X, Below W.heap.size W X → Calls Try.prog 7 #[.agg #[.int .i64 m.entry, .slice a m.segs.length c], .int .i64 t] X fun e w' => e = .returned (.tuple #[.int .u8 (M.byteIn m.segs t), .bool (M.thereAt m.segs t), .bool (M.segAt m.segs t).writes, .bool (M.segAt m.segs t).works, .int .i64 0]) ∧ Below X.heap.size X w') := fun t X hX => byte_ok m t a c X (hSW.later hX) hc
    have HP : Hid (∀ K, K ≤ N → M.range m fr N = M.rowOf m.segs fr N ∧ M.rangeErr m fr K = 0 ∧ M.range m fr K = M.rowOf m.segs fr K ∧ M.rangeErr m (fr + (K : Int)) ((N - K : Nat) : Int) = 0 ∧ M.range m (fr + (K : Int)) ((N - K : Nat) : Int) = M.rowOf m.segs (fr + (K : Int)) (N - K)) := fun K hK => range_parts he hK
    have HT : Hid _ := ht
    rw [he, (HP.out 0 (Nat.zero_le _)).1, rowOf_len] at KR1
    clear hS hc q hB hSW he ht
    go_enter Try.func4, Try.ntmps4
    go_upto_region 1 with fail
    rw [← HW.out]
    clear HW
    go_upto_region 2 with (go_at_call 8; refine (show Calls _ _ _ _ _ from KR1.out).mono ?_; rintro e w1 ⟨hb1, rx, ry, rfl, hY⟩)
    have HB1 : Hid (Below W.heap.size W w1) := hb1
    have HY1 : Hid (BytesAt w1 (.slice rx N ry) (M.rowOf m.segs fr N)) := hY
    clear c0 c1 cl KR1 hb1 hY
    have hwn : IntKind.i64.wrap ((N : Int) + 1) = (N : Int) + 1 := by rw [IntKind.wrap_i64]; omega
    go_upto_region 5 with (first | (go_at_call 10; refine (loaded_any _).mono ?_; rintro e w2 ⟨rfl, hb2⟩) | (go_at_call 14; refine (atN_any _ _ _ (by omega) (by omega)).mono ?_; rintro e w' ⟨⟨t, rfl, ht0, ht1⟩, rfl⟩))
    have hb2' := HB1.out.trans (hb2.mono HB1.out.size)
    have HB2 : Hid (Below W.heap.size W w2) := hb2'
    have HY2 : Hid (BytesAt w2 (.slice rx N ry) (M.rowOf m.segs fr N)) := HY1.out.later hb2
    obtain ⟨x0, x1, xl⟩ := HQ.out _ hb2'
    obtain ⟨K, rfl⟩ : ∃ K : Nat, t = K := ⟨t.toNat, by omega⟩
    have hK : K ≤ N := by omega
    obtain ⟨_, p1, p2, p3, p4⟩ := HP.out K hK
    have KR2 : Hid _ := KR.out fr K w2 hb2'
    rw [p1, p2, rowOf_len] at KR2
    have KR3 : Hid (∀ X, Below W.heap.size W X → Calls Try.prog 8 #[.agg #[.int .i64 m.entry, .slice a m.segs.length c], .int .i64 (fr + (K : Int)), .int .i64 ((N - K : Nat) : Int)] X fun e w' => Below X.heap.size X w' ∧ ∃ x y, e = .returned (.tuple #[.slice x (N - K) y, .int .i64 0]) ∧ BytesAt w' (.slice x (N - K) y) (M.rowOf m.segs (fr + (K : Int)) (N - K))) := fun X hX => by
      have := KR.out (fr + (K : Int)) ((N - K : Nat) : Int) X hX
      rwa [p3, p4, rowOf_len] at this
    clear p1 p2 p3 p4 KR HB1 HY1 hb2 hb2' HP ht0 ht1 hwn
    go_upto_region 6 with (go_at_call 8; refine (show Calls _ _ _ _ _ from KR2.out).mono ?_; rintro e w3 ⟨hb3, sx, sy, rfl, hY⟩)
    have hb3' := HB2.out.trans (hb3.mono HB2.out.size)
    have HB3 : Hid (Below W.heap.size W w3) := hb3'
    have HY3 : Hid (BytesAt w3 (.slice rx N ry) (M.rowOf m.segs fr N)) := HY2.out.later hb3
    have HZ3 : Hid (BytesAt w3 (.slice sx K sy) (M.rowOf m.segs fr K)) := hY
    obtain ⟨y0, y1, yl⟩ := HQ.out _ hb3'
    clear x0 x1 xl KR2 hb3 hb3' HB2 HY2 hY
    have hw1 : IntKind.i64.wrap (fr + (K : Int)) = fr + (K : Int) := by rw [IntKind.wrap_i64]; omega
    have hw2 : IntKind.i64.wrap ((N : Int) - (K : Int)) = ((N - K : Nat) : Int) := by rw [IntKind.wrap_i64]; omega
    have hw3 : (N : Int) - (K : Int) = ((N - K : Nat) : Int) := by omega
    go_upto_region 9 with (go_at_call 8; refine (KR3.out _ HB3.out).mono ?_; rintro e w4 ⟨hb4, tx, ty, rfl, hY⟩)
    have hb4' := HB3.out.trans (hb4.mono HB3.out.size)
    have HB4 : Hid (Below W.heap.size W w4) := hb4'
    have hbA : Below w4.heap.size w4 (w4.alloc (.cells #[.slice sx K sy, .slice tx (N - K) ty] 28)) := (Below.refl _ _).alloc (Nat.le_refl _) _
    have KCt : Hid (Calls Try.prog 15 #[.slice (some ⟨w4.heap.size, 0, none⟩) 2 2] (w4.alloc (.cells #[.slice sx K sy, .slice tx (N - K) ty] 28)) fun e w' => Below (w4.alloc (.cells #[.slice sx K sy, .slice tx (N - K) ty] 28)).heap.size (w4.alloc (.cells #[.slice sx K sy, .slice tx (N - K) ty] 28)) w' ∧ ∃ ad cc, e = .returned (.slice ad N cc) ∧ BytesAt w' (.slice ad N cc) (M.rowOf m.segs fr N)) := by
      have e1 := rowOf_len m.segs fr K
      have e2 := rowOf_len m.segs (fr + (K : Int)) (N - K)
      have h1 : BytesAt (w4.alloc (.cells #[.slice sx K sy, .slice tx (N - K) ty] 28)) (.slice sx (M.rowOf m.segs fr K).length sy) (M.rowOf m.segs fr K) := by rw [e1]; exact (HZ3.out.later hb4).later hbA
      have h2 : BytesAt (w4.alloc (.cells #[.slice sx K sy, .slice tx (N - K) ty] 28)) (.slice tx (M.rowOf m.segs (fr + (K : Int)) (N - K)).length ty) (M.rowOf m.segs (fr + (K : Int)) (N - K)) := by rw [e2]; exact hY.later hbA
      refine (concatB_any (M.rowOf m.segs fr K) (M.rowOf m.segs (fr + (K : Int)) (N - K)) sx tx sy ty w4.heap.size _ h1 h2 (by omega) (by omega) (by rw [e1, e2]; exact heap_alloc_new _ _)).mono ?_
      rintro e w' ⟨hb, v, rfl, ho⟩
      rw [rowOf_app, show K + (N - K) = N by omega] at ho
      have hyy := own_bytes ho (rowOf_range HSm.out fr N)
      rw [rowOf_len] at ho
      obtain ⟨ad, cc, rfl⟩ := own_len ho
      exact ⟨hb, ad, cc, rfl, hyy⟩
    have HY4 : Hid (BytesAt (w4.alloc (.cells #[.slice sx K sy, .slice tx (N - K) ty] 28)) (.slice rx N ry) (M.rowOf m.segs fr N)) := (HY3.out.later hb4).later hbA
    have HB5 : Hid (Below W.heap.size W (w4.alloc (.cells #[.slice sx K sy, .slice tx (N - K) ty] 28))) := hb4'.alloc hb4'.size _
    have KE : Hid (∀ X u1 v1 u2 v2, BytesAt X (.slice u1 N v1) (M.rowOf m.segs fr N) → BytesAt X (.slice u2 N v2) (M.rowOf m.segs fr N) → Calls Try.prog 13 #[.slice u1 N v1, .slice u2 N v2] X fun e w' => e = .returned (.bool true) ∧ X = w') := fun X u1 v1 u2 v2 h1 h2 => by
      have e1 := rowOf_len m.segs fr N
      have := bytesEqual_any (M.rowOf m.segs fr N) (M.rowOf m.segs fr N) u1 u2 v1 v2 X (by rw [e1]; exact h1) (by rw [e1]; exact h2)
      rw [lsame_self, e1] at this
      exact this.mono fun e w' h => ⟨h.1, h.2.symm⟩
    clear y0 y1 yl KR3 hb4 hb4' HB3 HY3 HZ3 hY hbA hw1 hw2 hw3 HB4
    generalize N - K = J at *
    go_upto_region 11 with fail
    go_upto_region 13 with (first | (go_at_call 15; refine KCt.out.mono ?_; rintro e w6 ⟨hb6, ad, cc, rfl, hY6⟩) | (go_at_call 13; refine (KE.out _ _ _ _ _ hY6 (HY4.out.later hb6)).mono ?_; rintro e w7 ⟨rfl, rfl⟩))
    have HB6 : Hid (Below W.heap.size W w6) := HB5.out.trans (hb6.mono HB5.out.size)
    have HY6 : Hid (BytesAt w6 (.slice rx N ry) (M.rowOf m.segs fr N)) := HY4.out.later hb6
    have HR : Hid (∀ i, i < N → (M.rowOf m.segs fr N).getD i 0 = M.byteIn m.segs (fr + (i : Int))) := fun i hi => by
      rw [List.getD_eq_getElem?_getD]
      simp [M.rowOf, hi]
    have HRl : Hid ((M.rowOf m.segs fr N).length = N) := rowOf_len m.segs fr N
    clear KCt KE HY4 HB5 hb6 hY6
    generalize M.rowOf m.segs fr N = RW at *
    go_wp2_with fail
    go_loopw [83] (fun s83 wr => ∃ (i : Nat), i ≤ N ∧ s83 = .int .i64 i ∧ Hid (Below w6.heap.size w6 wr)) (fun s83 _ => N - (intOf s83).toNat)
    case atStart => exact ⟨0, Nat.zero_le _, rfl, Below.refl _ _⟩
    case round =>
      obtain ⟨i, hi, rfl, HBr⟩ := hrel
      have hbr := HB6.out.trans (HBr.out.mono HB6.out.size)
      have HBR : Hid (Below W.heap.size W wr) := hbr
      by_cases hlt : i < N
      · obtain ⟨x0, x1, xl⟩ := HQ.out _ hbr
        have hkl : (i : Int) < (N : Int) := by omega
        have hyr := HY6.out.later HBr.out
        have hyr' : BytesAt wr (.slice rx RW.length ry) RW := by rw [HRl.out]; exact hyr
        obtain ⟨bb, oo, rfl, hcc⟩ := SlAt.at hyr'.1 i (by rw [HRl.out]; exact hlt)
        have hc0 := hcc 0 (by omega)
        rw [Nat.mul_one, Nat.add_zero, HR.out i hlt] at hc0
        have hbb : bb < wr.heap.size := World.block_lt_of_cell? _ _ hc0
        have KBi : Hid (∀ X, Below W.heap.size W X → Calls Try.prog 7 #[.agg #[.int .i64 m.entry, .slice a m.segs.length c], .int .i64 (fr + (i : Int))] X fun e w' => e = .returned (.tuple #[.int .u8 (M.byteIn m.segs (fr + (i : Int))), .bool true, .bool (M.segAt m.segs (fr + (i : Int))).writes, .bool (M.segAt m.segs (fr + (i : Int))).works, .int .i64 0]) ∧ Below X.heap.size X w') := fun X hX => by
          have := KB.out (fr + (i : Int)) X hX
          rwa [HT.out i hlt] at this
        have hwi : IntKind.i64.wrap (fr + (i : Int)) = fr + (i : Int) := by rw [IntKind.wrap_i64]; omega
        generalize M.byteIn m.segs (fr + (i : Int)) = Bx at *
        clear hyr hyr' hcc hbr
        go_wp2_with (go_at_call 7; refine (KBi.out _ HBR.out).mono ?_; rintro e w8 ⟨rfl, hb8⟩)
        go_roundw
        case rel => exact ⟨i + 1, by omega, by go_num, HBr.out.trans (hb8.mono HBr.out.size)⟩
        case measure => simp [intOf]; omega
      · have hkl : i = N := by omega
        subst hkl
        go_wp2
        go_ret
        exact ⟨rfl, HBw.out.trans (HBR.out.mono HBw.out.size)⟩
  · have he' : (M.rangeErr m fr n != 0) = true := by simpa using he
    clear he hS hB q hSW HSm KR HQ
    generalize M.range m fr n = RR at *
    generalize M.rangeErr m fr n = RE at *
    go_enter Try.func4, Try.ntmps4
    go_upto_region 1 with fail
    rw [← HW.out]
    clear HW
    go_upto_region 2 with (go_at_call 8; refine (show Calls _ _ _ _ _ from KR1.out).mono ?_; rintro e w1 ⟨hb1, rx, ry, rfl, hY⟩)
    have HB1 : Hid (Below w.heap.size w w1) := HBw.out.trans (hb1.mono HBw.out.size)
    clear c0 c1 cl KR1 hb1 hY
    go_upto_region 3 with (go_at_call 10; refine (loaded_any _).mono ?_; rintro e w2 ⟨rfl, hb2⟩)
    have HB2 : Hid (Below w.heap.size w w2) := HB1.out.trans (hb2.mono HB1.out.size)
    clear HB1 hb2
    go_wp2_with (go_at_call 10; refine (loaded_any _).mono ?_; rintro e w3 ⟨rfl, hb3⟩)
    go_ret
    exact ⟨rfl, HB2.out.trans (hb3.mono HB2.out.size)⟩

end Go.Proofs.Ytmimeanfhdkhaaa
