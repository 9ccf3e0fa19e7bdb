/-
  The law LoadSays: whatever the image and the numbers, it returns true.
-/
import Derived.Test.YtmimeanfhdkhaaaLdFact
import Derived.Test.YtmimeanfhdkhaaaLdRef
namespace Go.Proofs.Ytmimeanfhdkhaaa
open Go Go.RowKit
set_option linter.unusedVariables false

theorem lsame_self : ∀ xs : List Int, M.allTwo (fun x y => x == y) xs xs = true
  | [] => rfl
  | x :: xs => by
    show ((x == x) && M.allTwo (fun x y => x == y) xs xs) = true
    rw [lsame_self xs]; simp
theorem rowOf_snoc (l : List M.Seg) (a : Int) (k : Nat) : M.rowOf l a (k + 1) = M.rowOf l a k ++ [M.byteIn l (a + (k : Int))] := by
  unfold M.rowOf
  rw [List.range_succ, List.map_append]; rfl
theorem rowOf_len (l : List M.Seg) (a : Int) (k : Nat) : (M.rowOf l a k).length = k := by simp [M.rowOf]
theorem rowOf_range {l : List M.Seg} (h : ∀ s ∈ l, ∀ b ∈ s.bytes, 0 ≤ b ∧ b < 256) (a : Int) (n : Nat) : ∀ b ∈ M.rowOf l a n, 0 ≤ b ∧ b < 256 := fun b hb => by
  obtain ⟨i, _, rfl⟩ := List.mem_map.1 hb
  exact byteIn_range h _
theorem own_bytes {w : World} {B : Nat} {v : Value} {bs : List Int} (h : w.ownsRow B 5 1 v bs.length (encB bs)) (hb : ∀ b ∈ bs, 0 ≤ b ∧ b < 256) : BytesAt w v bs := by
  rcases h.2 with ⟨h1, h2⟩ | ⟨g, cap, cur, h1, _, h2, h3, h4, h5, h6⟩
  · have : bs = [] := List.length_eq_zero_iff.1 h2
    subst this
    rw [h1]
    exact bytes_nil w
  · rw [h1]
    refine ⟨⟨_, _, rfl, by omega, .inr ⟨g, 0, rfl, fun j i hj hi => ?_⟩⟩, hb⟩
    have e : 0 + j * 1 + i = j := by omega
    rw [e, cellB h2]
    have h7 := congrArg (fun l : List Value => l[j]?) h6
    simp only [List.getElem?_take] at h7
    rw [if_pos (by omega), Array.getElem?_toList] at h7
    rw [h7]
    simp [encB, hj]

theorem segNo_no {l : List M.Seg} {a : Int} (h : M.thereAt l a = false) : segNo l a = -1 := by unfold segNo; rw [h]; rfl
theorem segNo_yes {l : List M.Seg} {a : Int} (h : M.thereAt l a = true) : segNo l a = (M.segIx l a : Int) ∧ M.segIx l a < l.length := by
  refine ⟨by unfold segNo; rw [h]; rfl, ?_⟩
  unfold M.thereAt at h
  exact of_decide_eq_true h

set_option maxHeartbeats 16000000 in
set_option maxRecDepth 100000 in
theorem loadSays_law (m : M.Img) (fr n : Int) (a : Option Addr) (c : Nat) (w : World) (hS : SegsAt w (.slice a m.segs.length c) m.segs) (hfr2 : fr ≤ 9223372036854775807) :
    Calls Try.prog 3 #[.agg #[.int .i64 m.entry, .slice a m.segs.length c], .int .i64 fr, .int .i64 n] w fun e w' => e = .returned (.bool true) ∧ Below w.heap.size w w' := by
  obtain ⟨W, HW⟩ : ∃ W, Hid (W = w.alloc (.cells #[.int .i64 m.entry, .slice a m.segs.length c] 24)) := ⟨_, rfl⟩
  have hB : Below w.heap.size w W := by rw [HW.out]; exact (Below.refl _ _).alloc (Nat.le_refl _) _
  have q : W.heap[w.heap.size]? = some (.cells #[.int .i64 m.entry, .slice a m.segs.length c] 24 (0, 0)) := by rw [HW.out]; exact heap_alloc_new _ _
  have HQ : Hid (∀ X, Below W.heap.size W X → X.cell? ⟨w.heap.size, 0, none⟩ = some (.int .i64 m.entry) ∧ X.cell? ⟨w.heap.size, 1, none⟩ = some (.slice a m.segs.length c) ∧ w.heap.size < X.heap.size) := fun X hX => by
    have y := (hX.block _ (Array.getElem?_eq_some_iff.1 q).1).trans q
    exact ⟨cellB y 0, cellB y 1, (Array.getElem?_eq_some_iff.1 y).1⟩
  obtain ⟨c0, c1, cl⟩ := HQ.out W (Below.refl _ _)
  have HBw : Hid (Below w.heap.size w W) := hB
  have hSW := hS.later hB
  have HSW : Hid (SegsAt W (.slice a m.segs.length c) m.segs) := hSW
  have KC : Hid (∀ X, Below W.heap.size W X → Calls Try.prog 11 #[.agg #[.int .i64 m.entry, .slice a m.segs.length c]] X fun e w' => e = .returned (.int .i64 (M.chkImg m)) ∧ Below X.heap.size X w') := fun X hX => lcheck_any m a c X (hSW.later hX)
  have KI : Hid (∀ X, Below W.heap.size W X → Calls Try.prog 9 #[.agg #[.int .i64 m.entry, .slice a m.segs.length c]] X fun e w' => e = .returned (.int .i64 (M.chkImg m)) ∧ Below X.heap.size X w') := fun X hX => rcheckImage_any m a c X (hSW.later hX)
  have KR : Hid (∀ X, Below W.heap.size W X → Calls Try.prog 8 #[.agg #[.int .i64 m.entry, .slice a m.segs.length c], .int .i64 fr, .int .i64 n] X fun e w' => Below X.heap.size X w' ∧ ∃ x y, e = .returned (.tuple #[.slice x (M.range m fr n).length y, .int .i64 (M.rangeErr m fr n)]) ∧ BytesAt w' (.slice x (M.range m fr n).length y) (M.range m fr n)) := fun X hX => lrange_any m fr n a c X (hSW.later hX)
  by_cases hc : M.chkImg m = 0
  · have KB : Hid (Calls Try.prog 7 #[.agg #[.int .i64 m.entry, .slice a m.segs.length c], .int .i64 fr] W fun e w' => e = .returned (.tuple #[.int .u8 (M.byteIn m.segs fr), .bool (M.thereAt m.segs fr), .bool (M.segAt m.segs fr).writes, .bool (M.segAt m.segs fr).works, .int .i64 0]) ∧ Below W.heap.size W w') := byte_ok m fr a c W hSW hc
    have hfit := M.chkImg_fit hc
    have KA : Hid (∀ t X, t ≤ 9223372036854775807 → Below W.heap.size W X → Calls Try.prog 12 #[.agg #[.int .i64 m.entry, .slice a m.segs.length c], .int .i64 t] X fun e w' => e = .returned (.tuple #[.int .u8 (M.byteIn m.segs t), .int .i64 (segNo m.segs t)]) ∧ Below X.heap.size X w') := fun t X ht hX => rbyteAt_any m t a c X (hSW.later hX) hfit ht
    have H3 : Hid (¬ (M.within fr 0 65536 = true ∧ M.within n 0 64 = true) → M.rangeErr m fr n = 3 ∧ M.range m fr n = []) := fun h => rangeErr_3 hc h
    have H5 : Hid (∀ N k : Nat, n = N → M.within fr 0 65536 = true → M.within n 0 64 = true → k < N → M.thereAt m.segs (fr + (k : Int)) = false → M.rangeErr m fr n = 5 ∧ M.range m fr n = []) := fun N k e h1 h2 hk h => by
      subst e; exact rangeErr_5 hc h1 h2 hk h
    have H0 : Hid (∀ N : Nat, n = N → M.within fr 0 65536 = true → M.within n 0 64 = true → (∀ k, k < N → M.thereAt m.segs (fr + (k : Int)) = true) → M.rangeErr m fr n = 0 ∧ M.range m fr n = M.rowOf m.segs fr N) := fun N e h1 h2 h => by
      subst e; exact rangeErr_0 hc h1 h2 h
    have HSm : Hid (∀ s ∈ m.segs, ∀ b ∈ s.bytes, 0 ≤ b ∧ b < 256) := hS.small
    rw [hc] at KC KI
    clear hS hc hfit q hB hSW
    generalize M.range m fr n = RR at *
    generalize M.rangeErr m fr n = RE at *
    obtain ⟨en, l⟩ := m
    simp only at *
    have hll : l.length ≤ maxLen := by obtain ⟨_, _, _, h⟩ := HSW.out.form; exact h
    unfold maxLen at hll
    go_enter Try.func3, Try.ntmps3
    go_upto_region 1 with fail
    rw [← HW.out]
    clear HW
    go_upto_region 2 with (go_at_call 7; refine KB.out.mono ?_; rintro e w1 ⟨rfl, hb1⟩)
    obtain ⟨x0, x1, xl⟩ := HQ.out _ hb1
    have HB1 : Hid (Below W.heap.size W w1) := hb1
    clear c0 c1 cl KB hb1
    go_upto_region 3 with (go_at_call 8; refine (KR.out _ HB1.out).mono ?_; rintro e w2 ⟨hb2, rx, ry, rfl, hY⟩)
    have hb2' := HB1.out.trans (hb2.mono HB1.out.size)
    obtain ⟨y0, y1, yl⟩ := HQ.out _ hb2'
    have HB2 : Hid (Below W.heap.size W w2) := hb2'
    have HY : Hid (BytesAt w2 (.slice rx RR.length ry) RR) := hY
    clear x0 x1 xl KR hb2 hb2' HB1 hY
    go_upto_region 4 with (go_at_call 9; refine (KI.out _ HB2.out).mono ?_; rintro e w3 ⟨rfl, hb3⟩)
    have hb3' := HB2.out.trans (hb3.mono HB2.out.size)
    have HB3 : Hid (Below W.heap.size W w3) := hb3'
    have HY3 : Hid (BytesAt w3 (.slice rx RR.length ry) RR) := HY.out.later hb3
    clear y0 y1 yl KI hb3 hb3' HB2 HY
    go_upto_region 6 with (first | (go_at_call 10; refine (loaded_any _).mono ?_; rintro e w4 ⟨rfl, hb4⟩; have hb4' := HB3.out.trans (hb4.mono HB3.out.size); obtain ⟨y0, y1, yl⟩ := HQ.out _ hb4') | (go_at_call 11; refine (KC.out _ hb4').mono ?_; rintro e w5 ⟨rfl, hb5⟩))
    have hb5' := hb4'.trans (hb5.mono hb4'.size)
    have HB5 : Hid (Below W.heap.size W w5) := hb5'
    have HY5 : Hid (BytesAt w5 (.slice rx RR.length ry) RR) := (HY3.out.later hb4).later hb5
    obtain ⟨x0, x1, xl⟩ := HQ.out _ hb5'
    clear y0 y1 yl KC hb4 hb4' hb5 hb5' HB3 HY3
    have KA1 : Hid _ := KA.out fr w5 hfr2 HB5.out
    have HNo : Hid (M.thereAt l fr = false → segNo l fr = -1) := fun h => segNo_no h
    have HYes : Hid (M.thereAt l fr = true → segNo l fr = (M.segIx l fr : Int) ∧ M.segIx l fr < l.length) := fun h => segNo_yes h
    have HN0 : Hid (M.thereAt l fr = false → M.segAt l fr = M.seg0) := fun h => (byteIn_none h).2
    have HGd : Hid (M.segAt l fr = l.getD (M.segIx l fr) M.seg0) := rfl
    generalize M.byteIn l fr = B at *
    generalize segNo l fr = No at *
    generalize M.segAt l fr = Sg at *
    generalize hT : M.thereAt l fr = T at *
    clear hT
    go_upto_region 9 with (go_at_call 12; refine (show Calls _ _ _ _ _ from KA1.out).mono ?_; rintro e w6 ⟨rfl, hb6⟩)
    have hb6' := HB5.out.trans (hb6.mono HB5.out.size)
    have HB6 : Hid (Below W.heap.size W w6) := hb6'
    have HY6 : Hid (BytesAt w6 (.slice rx RR.length ry) RR) := HY5.out.later hb6
    have HS6 : Hid (SegsAt w6 (.slice a l.length c) l) := HSW.out.later hb6'
    obtain ⟨y0, y1, yl⟩ := HQ.out _ hb6'
    clear x0 x1 xl KA1 hb6 hb6' HB5 HY5
    go_cut [124] (fun s124 wx => s124 = .bool false ∧ wx = w6)
    case first =>
      cases T
      · obtain rfl : No = -1 := HNo.out rfl
        obtain rfl : Sg = M.seg0 := HN0.out rfl
        clear HNo HYes HN0 HGd HY6 HS6
        simp only [M.seg0]
        go_wp2_with fail
        go_meet
        exact ⟨rfl, rfl⟩
      · obtain ⟨rfl, hix⟩ := HYes.out rfl
        generalize M.segIx l fr = I at *
        obtain ⟨b, off, ab, cb, rfl, _, _, _, e3, e4, _⟩ := HS6.out.cells I hix
        rw [← HGd.out] at e3 e4
        have hI : (I : Int) < (l.length : Int) := by omega
        have hbl : b < w6.heap.size := World.block_lt_of_cell? _ _ e3
        clear HNo HYes HN0 HGd HY6 HS6
        go_wp2_with fail
        go_meet
        exact ⟨rfl, rfl⟩
    case rest =>
      obtain ⟨rfl, rfl⟩ := hcut
      clear HNo HYes HN0 HGd
      by_cases hr : M.within fr 0 65536 = true ∧ M.within n 0 64 = true
      · obtain ⟨hr1, hr2⟩ := hr
        have ha := lwithin_iff.1 hr1
        have hn := lwithin_iff.1 hr2
        obtain ⟨N, rfl⟩ : ∃ N : Nat, n = N := ⟨n.toNat, by omega⟩
        have h1 : ¬ fr < 0 := by omega
        have h2 : ¬ (N : Int) < 0 := by omega
        have h3 : ¬ 65536 < fr := by omega
        have h4 : ¬ (64 : Int) < (N : Int) := by omega
        have H5' : Hid (∀ k, k < N → M.thereAt l (fr + (k : Int)) = false → RE = 5 ∧ RR = []) := fun k hk h => H5.out N k rfl hr1 hr2 hk h
        have H0' : Hid ((∀ k, k < N → M.thereAt l (fr + (k : Int)) = true) → RE = 0 ∧ RR = M.rowOf l fr N) := fun h => H0.out N rfl hr1 hr2 h
        have hN64 : N ≤ 64 := by omega
        clear H3 H5 H0 hr1 hr2 HS6
        obtain ⟨i1, hi1, hy0, hy1, hy2⟩ := info_parts (P := Try.prog) (e := 5) (z := .int .u8 0) (size := 1) (bytes := 1) (by kernel_rfl)
        go_wp2_with fail
        go_loopw [17, 147] (fun s17 s147 wr => ∃ (k : Nat), k ≤ N ∧ s147 = .int .i64 k ∧ wr.ownsRow wc.heap.size 5 1 s17 k (encB (M.rowOf l fr k)) ∧ Hid (Below wc.heap.size wc wr) ∧ Hid (∀ j, j < k → M.thereAt l (fr + (j : Int)) = true)) (fun _ s147 _ => N - (intOf s147).toNat)
        case atStart => exact ⟨0, Nat.zero_le _, rfl, World.ownsRow_nil _ _ _ _, Below.refl _ _, fun j hj => absurd hj (Nat.not_lt_zero j)⟩
        case round =>
          obtain ⟨k, hk, rfl, hown, HB, HTh⟩ := hrel
          have hbk := HB6.out.trans (HB.out.mono HB6.out.size)
          obtain ⟨x0, x1, xl⟩ := HQ.out _ hbk
          by_cases hlt : k < N
          · have hkl : (k : Int) < (N : Int) := by omega
            have hwr : IntKind.i64.wrap (fr + (k : Int)) = fr + (k : Int) := by rw [IntKind.wrap_i64]; omega
            have KAk : Hid _ := KA.out (fr + (k : Int)) wr (by omega) hbk
            have HF : Hid (M.thereAt l (fr + (k : Int)) = false → segNo l (fr + (k : Int)) = -1 ∧ RE = 5 ∧ RR = []) := fun h => ⟨segNo_no h, H5'.out k hlt h⟩
            have HT : Hid (M.thereAt l (fr + (k : Int)) = true → (∃ I : Nat, segNo l (fr + (k : Int)) = (I : Int)) ∧ ∀ j, j < k + 1 → M.thereAt l (fr + (j : Int)) = true) := fun h => ⟨⟨_, (segNo_yes h).1⟩, fun j hj => by
              by_cases e : j = k
              · subst e; exact h
              · exact HTh.out j (by omega)⟩
            have HSn : Hid (M.rowOf l fr (k + 1) = M.rowOf l fr k ++ [M.byteIn l (fr + (k : Int))]) := rowOf_snoc l fr k
            generalize M.byteIn l (fr + (k : Int)) = Bk at *
            generalize segNo l (fr + (k : Int)) = Nk at *
            generalize hT2 : M.thereAt l (fr + (k : Int)) = T2 at *
            clear hT2 HTh
            go_upto_region 18 with (go_at_call 12; refine (show Calls _ _ _ _ _ from KAk.out).mono ?_; rintro e w7 ⟨rfl, hb7⟩)
            have hown7 := hown.kept (grown_of_below hb7 none) own_self
            have HB7 : Hid (Below wc.heap.size wc w7) := HB.out.trans (hb7.mono HB.out.size)
            clear x0 x1 xl KAk hown HB hbk
            cases T2
            · obtain ⟨rfl, rfl, rfl⟩ := HF.out rfl
              have HE : Hid (Below w.heap.size w w7) := HBw.out.trans ((HB6.out.trans (HB7.out.mono HB6.out.size)).mono HBw.out.size)
              clear HF HT HSn H5' H0'
              go_wp2
              go_ret
              exact ⟨rfl, HE.out⟩
            · obtain ⟨⟨I, rfl⟩, hth⟩ := HT.out rfl
              have HTk : Hid _ := hth
              have hI0 : ¬ (I : Int) < 0 := by omega
              have hsz7 : wc.heap.size ≤ w7.heap.size := HB7.out.size
              clear HF HT hth
              go_wp2_with (at_builtin; refine wpList_append_own _ rfl _ _ 28 rfl wc.heap.size 5 i1 (.int .u8 0) 1 1 Try.underlying28 hi1 hy0 hy1 hy2 rfl (by decide) _ _ _ rfl (hown7.alloc _) ⟨w7.heap.size, 0, none⟩ 1 1 [.int .u8 Bk] rfl rfl (cell_one_new _ _ _) (fun u hu => by simp at hu; subst hu; rfl) (by unfold maxLen; omega) (by omega) (by simp; omega) ?_; intro v' w8 hown' hgrow8 hnil8)
              go_roundw
              case rel =>
                refine ⟨k + 1, by omega, by go_num, ?_, ?_, HTk⟩
                · rw [HSn.out]
                  unfold encB at hown' ⊢
                  rw [List.map_append]; exact hown'
                · refine (HB7.out.alloc HB7.out.size _).grown hgrow8 (by simp; omega) (fun k hk => (hown7.lt k hk).1)
              case measure => simp [intOf]; omega
          · have hkl : k = N := by omega
            subst hkl
            obtain ⟨rfl, rfl⟩ := H0'.out HTh.out
            obtain ⟨ad, nn, cc, rfl, hnn⟩ : ∃ ad nn cc, u17 = .slice ad nn cc ∧ nn = k := by
              have h1 := own_len hown
              obtain ⟨ad, cc, e⟩ := h1
              exact ⟨ad, _, cc, e, rfl⟩
            subst hnn
            have hlen := rowOf_len l fr nn
            have hown2 : wr.ownsRow wc.heap.size 5 1 (.slice ad nn cc) (M.rowOf l fr nn).length (encB (M.rowOf l fr nn)) := by rw [hlen]; exact hown
            have hYw := own_bytes hown2 (rowOf_range HSm.out fr nn)
            have hY1 := HY6.out.later HB.out
            have KE := bytesEqual_any (M.rowOf l fr nn) (M.rowOf l fr nn) rx ad ry cc wr hY1 (by rw [hlen]; exact hYw)
            rw [lsame_self, hlen] at KE
            have KE' : Hid (Calls Try.prog 13 #[.slice rx nn ry, .slice ad nn cc] wr fun e w' => e = .returned (.bool true) ∧ w' = wr) := KE
            rw [hlen]
            have HE : Hid (Below w.heap.size w wr) := (show Below w.heap.size w W from HBw.out).trans (hbk.mono HBw.out.size)
            clear KE hYw hY1 hown2 hown HTh HY6
            go_wp2_with (go_at_call 13; refine KE'.out.mono ?_; rintro e w9 ⟨rfl, rfl⟩)
            go_ret
            exact ⟨rfl, HE.out⟩
      · obtain ⟨rfl, rfl⟩ := H3.out hr
        have hcase : fr < 0 ∨ (¬ fr < 0 ∧ n < 0) ∨ (¬ fr < 0 ∧ ¬ n < 0 ∧ 65536 < fr) ∨ (¬ fr < 0 ∧ ¬ n < 0 ∧ ¬ 65536 < fr ∧ 64 < n) := by
          have h1 : ¬ ((0 ≤ fr ∧ fr ≤ 65536) ∧ (0 ≤ n ∧ n ≤ 64)) := fun h => hr ⟨lwithin_iff.2 h.1, lwithin_iff.2 h.2⟩
          omega
        have HE : Hid (Below w.heap.size w wc) := HBw.out.trans (HB6.out.mono HBw.out.size)
        clear H3 H5 H0 hr HS6
        rcases hcase with h1 | ⟨h1, h2⟩ | ⟨h1, h2, h3⟩ | ⟨h1, h2, h3, h4⟩
        all_goals
          go_wp2
          go_ret
          exact ⟨rfl, HE.out⟩
  · have KB : Hid (Calls Try.prog 7 #[.agg #[.int .i64 m.entry, .slice a m.segs.length c], .int .i64 fr] W fun e w' => e = .returned (.tuple #[.int .u8 0, .bool false, .bool false, .bool false, .int .i64 (M.chkImg m)]) ∧ Below W.heap.size W w') := byte_bad m fr a c W hSW hc
    obtain ⟨h1, h2⟩ := rangeErr_bad (a := fr) (n := n) hc
    rw [h1, h2] at KR
    clear hS q hB hSW h1 h2 HSW
    generalize M.chkImg m = R at *
    have hc' : (R != 0) = true := by simpa using hc
    have hc'' : (R == 0) = false := by simpa using hc
    generalize m.segs.length = nl at *
    generalize m.entry = en at *
    clear hc
    go_enter Try.func3, Try.ntmps3
    go_upto_region 1 with fail
    rw [← HW.out]
    clear HW
    go_upto_region 2 with (go_at_call 7; refine KB.out.mono ?_; rintro e w1 ⟨rfl, hb1⟩)
    obtain ⟨x0, x1, xl⟩ := HQ.out _ hb1
    have HB1 : Hid (Below W.heap.size W w1) := hb1
    clear c0 c1 cl KB hb1
    go_upto_region 3 with (go_at_call 8; refine (KR.out _ HB1.out).mono ?_; rintro e w2 ⟨hb2, rx, ry, rfl, hY⟩)
    have hb2' := HB1.out.trans (hb2.mono HB1.out.size)
    obtain ⟨y0, y1, yl⟩ := HQ.out _ hb2'
    have HB2 : Hid (Below W.heap.size W w2) := hb2'
    clear x0 x1 xl KR hb2 hb2' HB1 hY
    go_upto_region 4 with (go_at_call 9; refine (KI.out _ HB2.out).mono ?_; rintro e w3 ⟨rfl, hb3⟩)
    have HB3 : Hid (Below W.heap.size W w3) := HB2.out.trans (hb3.mono HB2.out.size)
    clear y0 y1 yl KI hb3 HB2
    go_wp2_with (first | (go_at_call 10; refine (loaded_any _).mono ?_; rintro e w4 ⟨rfl, hb4⟩; have hb4' := HB3.out.trans (hb4.mono HB3.out.size); obtain ⟨y0, y1, yl⟩ := HQ.out _ hb4') | (go_at_call 11; refine (KC.out _ hb4').mono ?_; rintro e w5 ⟨rfl, hb5⟩))
    go_ret
    exact ⟨rfl, HBw.out.trans ((hb4'.trans (hb5.mono hb4'.size)).mono HBw.out.size)⟩

end Go.Proofs.Ytmimeanfhdkhaaa
