/-
  The contract of the law's closed fact on images: it is true. The contracts of slices.ContainsFunc at segments with the law's closure, and of slices.Contains at numbers.
-/
import Derived.Test.YtmimeanfhdkhaaaLdA
import Derived.Test.YtmimeanfhdkhaaaSameA
import Derived.Test.YtmimeanfhdkhaaaLyMA

namespace Go.Proofs.Ytmimeanfhdkhaaa
open Go Go.RowKit
set_option linter.unusedVariables false

def ldSeg : M.Seg := ⟨4, [1, 2, 3], 1, true, false⟩
def ldImg : M.Img := ⟨0, [ldSeg]⟩
theorem ld_chk : M.chkImg ldImg = 0 := by decide +kernel
theorem ld_byte : M.byteIn ldImg.segs 6 = 3 ∧ M.thereAt ldImg.segs 6 = true ∧ (M.segAt ldImg.segs 6).writes = true ∧ (M.segAt ldImg.segs 6).works = false := by decide +kernel
theorem ld_r3 : M.range ldImg 5 3 = [2, 3, 0] ∧ M.rangeErr ldImg 5 3 = 0 := by decide +kernel
theorem ld_r4 : M.range ldImg 5 4 = [] ∧ M.rangeErr ldImg 5 4 = 5 := by decide +kernel

theorem one_seg {X : World} {g c : Nat} {t : TypeId} {fr : Nat × Nat} {s : M.Seg} {vb : Value} (q : X.heap[g]? = some (.cells #[.int .i64 s.pos, vb, .int .i64 s.zeros, .bool s.writes, .bool s.works] t fr)) (hb : BytesAt X vb s.bytes) : SegsAt X (.slice (some ⟨g, 0, none⟩) 1 c) [s] := by
  refine ⟨fun j i => (X.cell? ⟨g, i, none⟩).getD undef, ⟨_, _, rfl, by show 1 ≤ maxLen; unfold maxLen; decide, .inr ⟨g, 0, rfl, fun j i hj hi => ?_⟩⟩, fun j hj => ?_⟩
  · have hj' : j = 0 := by have : j < 1 := hj; omega
    subst hj'
    rw [Nat.zero_mul, Nat.zero_add]; try rw [Nat.zero_add]
    have hc : i = 0 ∨ i = 1 ∨ i = 2 ∨ i = 3 ∨ i = 4 := by omega
    rcases hc with rfl | rfl | rfl | rfl | rfl <;> simp only [cellB q] <;> rfl
  · have hj' : j = 0 := by have : j < 1 := hj; omega
    subst hj'
    refine ⟨?_, ?_, ?_, ?_, ?_⟩
    · show (X.cell? ⟨g, 0, none⟩).getD undef = _; rw [cellB q]; rfl
    · show BytesAt X ((X.cell? ⟨g, 1, none⟩).getD undef) _; rw [cellB q]; exact hb
    · show (X.cell? ⟨g, 2, none⟩).getD undef = _; rw [cellB q]; rfl
    · show (X.cell? ⟨g, 3, none⟩).getD undef = _; rw [cellB q]; rfl
    · show (X.cell? ⟨g, 4, none⟩).getD undef = _; rw [cellB q]; rfl

set_option maxHeartbeats 8000000 in
set_option maxRecDepth 100000 in
theorem loaded_any (w : World) :
    Calls Try.prog 10 #[] w fun e w' => e = .returned (.bool true) ∧ Below w.heap.size w w' := by
  obtain ⟨X, HX⟩ : ∃ X, Hid (X = ((w.alloc (.cells #[.int .u8 1, .int .u8 2, .int .u8 3] 5)).alloc (.cells #[.int .i64 4, .slice (some ⟨w.heap.size, 0, none⟩) 3 3, .int .i64 1, .bool true, .bool false] 36)).alloc (.cells #[.int .i64 0, .slice (some ⟨w.heap.size + 1, 0, none⟩) 1 1] 24)) := ⟨_, rfl⟩
  have hB : Below w.heap.size w X := by rw [HX.out]; exact (((Below.refl _ _).alloc (Nat.le_refl _) _).alloc (by simp) _).alloc (by simp; omega) _
  have q0 : X.heap[w.heap.size]? = some (.cells #[.int .u8 1, .int .u8 2, .int .u8 3] 5 (0, 0)) := by
    rw [HX.out]
    exact (heap_alloc_old _ _ (by simp; omega)).trans (heap_alloc2_old _ _ _)
  have q1 : X.heap[w.heap.size + 1]? = some (.cells #[.int .i64 4, .slice (some ⟨w.heap.size, 0, none⟩) 3 3, .int .i64 1, .bool true, .bool false] 36 (0, 0)) := by
    rw [HX.out]
    exact (heap_alloc_old _ _ (by simp)).trans (heap_alloc2_new _ _ _)
  have q2 : X.heap[w.heap.size + 1 + 1]? = some (.cells #[.int .i64 0, .slice (some ⟨w.heap.size + 1, 0, none⟩) 1 1] 24 (0, 0)) := by
    rw [HX.out]
    have := heap_alloc_new ((w.alloc (.cells #[.int .u8 1, .int .u8 2, .int .u8 3] 5)).alloc (.cells #[.int .i64 4, .slice (some ⟨w.heap.size, 0, none⟩) 3 3, .int .i64 1, .bool true, .bool false] 36)) (.cells #[.int .i64 0, .slice (some ⟨w.heap.size + 1, 0, none⟩) 1 1] 24)
    simpa using this
  have hby : BytesAt X (.slice (some ⟨w.heap.size, 0, none⟩) 3 3) [1, 2, 3] := row_bytes (bs := [1, 2, 3]) (by decide) (by unfold maxLen; decide) q0 3
  have hS : SegsAt X (.slice (some ⟨w.heap.size + 1, 0, none⟩) 1 1) ldImg.segs := one_seg (s := ldSeg) q1 hby
  have KB : Hid (Calls Try.prog 7 #[.agg #[.int .i64 0, .slice (some ⟨w.heap.size + 1, 0, none⟩) 1 1], .int .i64 6] X fun e w' => e = .returned (.tuple #[.int .u8 3, .bool true, .bool true, .bool false, .int .i64 0]) ∧ Below X.heap.size X w') := by
    have := byte_ok ldImg 6 _ 1 X hS ld_chk
    rw [ld_byte.1, ld_byte.2.1, ld_byte.2.2.1, ld_byte.2.2.2] at this
    exact this
  have KR3 : Hid (∀ Z, Below X.heap.size X Z → Calls Try.prog 8 #[.agg #[.int .i64 0, .slice (some ⟨w.heap.size + 1, 0, none⟩) 1 1], .int .i64 5, .int .i64 3] Z fun e w' => Below Z.heap.size Z w' ∧ ∃ x y, e = .returned (.tuple #[.slice x 3 y, .int .i64 0]) ∧ BytesAt w' (.slice x 3 y) [2, 3, 0]) := fun Z hZ => by
    have := lrange_any ldImg 5 3 _ 1 Z (hS.later hZ)
    rw [ld_r3.1, ld_r3.2] at this
    exact this
  have KR4 : Hid (∀ Z, Below X.heap.size X Z → Calls Try.prog 8 #[.agg #[.int .i64 0, .slice (some ⟨w.heap.size + 1, 0, none⟩) 1 1], .int .i64 5, .int .i64 4] Z fun e w' => Below Z.heap.size Z w' ∧ ∃ x y, e = .returned (.tuple #[.slice x 0 y, .int .i64 5]) ∧ BytesAt w' (.slice x 0 y) []) := fun Z hZ => by
    have := lrange_any ldImg 5 4 _ 1 Z (hS.later hZ)
    rw [ld_r4.1, ld_r4.2] at this
    exact this
  have HQ : Hid (∀ Z, Below X.heap.size X Z → Z.cell? ⟨w.heap.size + 1 + 1, 0, none⟩ = some (.int .i64 0) ∧ Z.cell? ⟨w.heap.size + 1 + 1, 1, none⟩ = some (.slice (some ⟨w.heap.size + 1, 0, none⟩) 1 1) ∧ w.heap.size + 1 + 1 < Z.heap.size) := fun Z hZ => by
    have y := (hZ.block _ (Array.getElem?_eq_some_iff.1 q2).1).trans q2
    exact ⟨cellB y 0, cellB y 1, (Array.getElem?_eq_some_iff.1 y).1⟩
  obtain ⟨c0, c1, cl⟩ := HQ.out X (Below.refl _ _)
  have HB : Hid (Below w.heap.size w X) := hB
  clear q0 q1 q2 hby hS hB
  go_enter Try.func10, Try.ntmps10
  go_upto_region 2 with fail
  rw [← HX.out]
  clear HX
  go_upto_region 3 with (go_at_call 7; refine KB.out.mono ?_; rintro e w1 ⟨rfl, hb1⟩)
  obtain ⟨x0, x1, xl⟩ := HQ.out _ hb1
  have K3 : Hid _ := KR3.out _ hb1
  have HB1 : Hid (Below X.heap.size X w1) := hb1
  clear c0 c1 cl KB KR3 hb1
  go_upto_region 4 with (go_at_call 8; refine (show Calls _ _ _ _ _ from K3.out).mono ?_; rintro e w2 ⟨hb2, u, v, rfl, hY⟩)
  have hb2' : Below X.heap.size X w2 := HB1.out.trans (hb2.mono HB1.out.size)
  obtain ⟨y0, y1, yl⟩ := HQ.out _ hb2'
  have K4 : Hid _ := KR4.out _ hb2'
  have HB2 : Hid (Below X.heap.size X w2) := hb2'
  have HY : Hid (BytesAt w2 (.slice u 3 v) [2, 3, 0]) := hY
  clear x0 x1 xl K3 KR4 hb2 HB1 hb2' hY
  go_upto_region 5 with (go_at_call 8; refine (show Calls _ _ _ _ _ from K4.out).mono ?_; rintro e w3 ⟨hb3, u', v', rfl, _⟩)
  have HB3 : Hid (Below w.heap.size w w3) := HB.out.trans ((HB2.out.trans (hb3.mono HB2.out.size)).mono HB.out.size)
  have hbg : Below w3.heap.size w3 (w3.alloc (.cells #[.int .u8 2, .int .u8 3, .int .u8 0] 5)) := (Below.refl _ _).alloc (Nat.le_refl _) _
  have hg : BytesAt (w3.alloc (.cells #[.int .u8 2, .int .u8 3, .int .u8 0] 5)) (.slice (some ⟨w3.heap.size, 0, none⟩) 3 3) [2, 3, 0] := row_bytes (bs := [2, 3, 0]) (by decide) (by unfold maxLen; decide) (heap_alloc_new w3 _) 3
  have KE : Hid (Calls Try.prog 13 #[.slice u 3 v, .slice (some ⟨w3.heap.size, 0, none⟩) 3 3] (w3.alloc (.cells #[.int .u8 2, .int .u8 3, .int .u8 0] 5)) fun e w' => e = .returned (.bool true) ∧ w' = (w3.alloc (.cells #[.int .u8 2, .int .u8 3, .int .u8 0] 5))) := bytesEqual_any [2, 3, 0] [2, 3, 0] u _ v 3 _ ((HY.out.later hb3).later hbg) hg
  have HBg : Hid (Below w.heap.size w (w3.alloc (.cells #[.int .u8 2, .int .u8 3, .int .u8 0] 5))) := HB3.out.alloc HB3.out.size _
  clear HB3 hbg hg HY K4 y0 y1 yl hb3 HQ HB2 HB
  go_wp2_with (go_at_call 13; refine KE.out.mono ?_; rintro e w5 ⟨rfl, rfl⟩)
  go_ret
  exact ⟨rfl, HBg.out⟩

end Go.Proofs.Ytmimeanfhdkhaaa

namespace Go.Proofs.Ytmimeanfhdkhaaa
open Go Go.RowKit
set_option linter.unusedVariables false

/-- does a segment begin or end there -/
def edge (en : Int) (s : M.Seg) : Bool := en == M.segEnd s || en == s.pos

set_option maxHeartbeats 1000000 in
theorem edgeFn_any (s : M.Seg) (ab : Option Addr) (cb n : Nat) (en : Int) (w : World) (hf : M.SegFit s) (hs : w.cell? ⟨n, 0, none⟩ = some (.int .i64 en)) :
    Calls Try.prog 20 #[.agg #[.int .i64 s.pos, .slice ab s.bytes.length cb, .int .i64 s.zeros, .bool s.writes, .bool s.works], .pointer (some ⟨n, 0, none⟩)] w fun e w' => e = .returned (.bool (edge en s)) ∧ Below w.heap.size w w' := by
  have HX : Hid (edge en s = (en == s.pos + s.bytes.length + s.zeros || en == s.pos)) := rfl
  have h1 := hf.pos
  have h2 := hf.zeros
  have h3 := hf.len
  clear hf
  generalize edge en s = R at *
  obtain ⟨p, bs, z, sw, sk⟩ := s
  simp only at *
  generalize bs.length = m at *
  have w1 : IntKind.i64.wrap (p + m) = p + m := by rw [IntKind.wrap_i64]; omega
  have w2 : IntKind.i64.wrap (p + m + z) = p + m + z := by rw [IntKind.wrap_i64]; omega
  have hA : Below w.heap.size w (w.alloc (.cells #[.int .i64 p, .slice ab m cb, .int .i64 z, .bool sw, .bool sk] 36)) := (Below.refl _ _).alloc (Nat.le_refl _) _
  have hnw : n < w.heap.size := World.block_lt_of_cell? _ _ hs
  cases e1 : (en == p + m + z)
  · cases e2 : (en == p)
    · obtain rfl : R = false := by rw [HX.out, e1, e2]; rfl
      clear HX
      go_enter Try.func20, Try.ntmps20
      go_wp2
      go_ret
      exact ⟨rfl, hA⟩
    · obtain rfl : R = true := by rw [HX.out, e1, e2]; rfl
      clear HX
      go_enter Try.func20, Try.ntmps20
      go_wp2
      go_ret
      exact ⟨rfl, hA⟩
  · obtain rfl : R = true := by rw [HX.out, e1]; rfl
    clear HX
    go_enter Try.func20, Try.ntmps20
    go_wp2
    go_ret
    exact ⟨rfl, hA⟩

theorem cell_laterL {w w' : World} {n o : Nat} {v : Value} (h : w.cell? ⟨n, o, none⟩ = some v) (hb : Below w.heap.size w w') : w'.cell? ⟨n, o, none⟩ = some v :=
  (hb.cell (p := ⟨n, o, none⟩) (World.block_lt_of_cell? _ _ h)).trans h

set_option maxHeartbeats 2000000 in
set_option maxRecDepth 100000 in
theorem indexEdge_any (l : List M.Seg) (a : Option Addr) (c n : Nat) (en : Int) (w : World) (h : SegsAt w (.slice a l.length c) l) (hF : ∀ s ∈ l, M.SegFit s) (hs : w.cell? ⟨n, 0, none⟩ = some (.int .i64 en)) :
    Calls Try.prog 41 #[.slice a l.length c, .func (.func 20) #[] #[.pointer (some ⟨n, 0, none⟩)]] w fun e w' => (∃ x, e = .returned (.int .i64 x) ∧ decide (0 ≤ x) = l.any (edge en)) ∧ Below w.heap.size w w' := by
  have hn : l.length ≤ maxLen := by obtain ⟨_, _, _, h⟩ := h.form; exact h
  unfold maxLen at hn
  have HH : Hid (∀ W, Below w.heap.size w W → SegsAt W (.slice a l.length c) l ∧ W.cell? ⟨n, 0, none⟩ = some (.int .i64 en)) := fun W hW => ⟨h.later hW, cell_laterL hs hW⟩
  have HF : Hid (∀ s ∈ l, M.SegFit s) := hF
  clear h hs hF
  have HA0 : Hid ((l.take 0).any (edge en) = false) := rfl
  go_enter Try.func41, Try.ntmps41
  go_wp2_with fail
  go_loopw [8] (fun s8 wr => ∃ (k : Nat), k ≤ l.length ∧ s8 = .int .i64 k ∧ Hid ((l.take k).any (edge en) = false) ∧ Hid (Below w.heap.size w wr)) (fun s8 _ => l.length - (intOf s8).toNat)
  case atStart => exact ⟨0, Nat.zero_le _, rfl, HA0, Below.refl _ _⟩
  case round =>
    obtain ⟨k, hk, rfl, HA, HB⟩ := hrel
    clear HA0
    by_cases hlt : k < l.length
    · obtain ⟨bb, off, ab, cb, rfl, e0, e1, e2, e3, e4, _⟩ := (HH.out wr HB.out).1.cells k hlt
      have hkl : (k : Int) < (l.length : Int) := by omega
      have hbl : bb < wr.heap.size := World.block_lt_of_cell? _ _ e0
      have KC : Hid (Calls Try.prog 20 #[.agg #[.int .i64 (l.getD k M.seg0).pos, .slice ab (l.getD k M.seg0).bytes.length cb, .int .i64 (l.getD k M.seg0).zeros, .bool (l.getD k M.seg0).writes, .bool (l.getD k M.seg0).works], .pointer (some ⟨n, 0, none⟩)] wr fun e w' => e = .returned (.bool (edge en (l.getD k M.seg0))) ∧ Below wr.heap.size wr w') := edgeFn_any (l.getD k M.seg0) ab cb n en wr (HF.out _ (getD_mem l M.seg0 k hlt)) (HH.out wr HB.out).2
      have HN : Hid ((l.take (k + 1)).any (edge en) = edge en (l.getD k M.seg0)) := by
        have := HA.out
        rw [Hid, List.take_succ_eq_append_getElem hlt, List.any_append, this, List.getD_eq_getElem?_getD, List.getElem?_eq_getElem hlt]; simp
      have HT : Hid (edge en (l.getD k M.seg0) = true → l.any (edge en) = true) := fun h => List.any_eq_true.2 ⟨_, getD_mem l M.seg0 k hlt, h⟩
      clear HA
      generalize edge en (l.getD k M.seg0) = R at *
      generalize l.getD k M.seg0 = d at *
      cases R
      · clear HT
        go_wp2_with (go_at_call 20; refine KC.out.mono ?_; rintro e w1 ⟨rfl, hb1⟩)
        go_roundw
        case rel => exact ⟨k + 1, by omega, by go_num, HN, HB.out.trans (hb1.mono HB.out.size)⟩
        case measure => simp [intOf]; omega
      · have HAn : Hid _ := HT.out rfl
        clear HT HN
        go_wp2_with (go_at_call 20; refine KC.out.mono ?_; rintro e w1 ⟨rfl, hb1⟩)
        go_ret
        exact ⟨⟨_, rfl, by rw [HAn.out]; simp⟩, HB.out.trans (hb1.mono HB.out.size)⟩
    · obtain rfl : k = l.length := by omega
      have HAn : Hid (l.any (edge en) = false) := by have := HA.out; rwa [List.take_length] at this
      clear HA
      go_wp2
      go_ret
      exact ⟨⟨_, rfl, by rw [HAn.out]; decide⟩, HB.out⟩

theorem containsEdge_any (l : List M.Seg) (a : Option Addr) (c n : Nat) (en : Int) (w : World) (h : SegsAt w (.slice a l.length c) l) (hF : ∀ s ∈ l, M.SegFit s) (hs : w.cell? ⟨n, 0, none⟩ = some (.int .i64 en)) :
    Calls Try.prog 19 #[.slice a l.length c, .func (.func 20) #[] #[.pointer (some ⟨n, 0, none⟩)]] w fun e w' => e = .returned (.bool (l.any (edge en))) ∧ Below w.heap.size w w' := by
  have HK : Hid _ := indexEdge_any l a c n en w h hF hs
  generalize l.any (edge en) = R at *
  clear h hs hF
  go_enter Try.func19, Try.ntmps19
  go_wp2_with (go_at_call 41; refine Calls.mono HK.out ?_; rintro e w1 ⟨⟨x, rfl, hx⟩, hb1⟩)
  go_ret
  exact ⟨by simp_all, hb1⟩

set_option maxHeartbeats 2000000 in
set_option maxRecDepth 100000 in
theorem indexI_any (l : List Int) (a : Option Addr) (c : Nat) (x : Int) (w : World) (h : IntsAt w (.slice a l.length c) l) (hx : x ∈ l) :
    Calls Try.prog 42 #[.slice a l.length c, .int .i64 x] w fun e w' => (∃ k : Nat, e = .returned (.int .i64 k)) ∧ w' = w := by
  have hn : l.length ≤ maxLen := by obtain ⟨_, _, _, h⟩ := SlAt.form h; exact h
  unfold maxLen at hn
  have HI : Hid (IntsAt w (.slice a l.length c) l) := h
  have HX : Hid (x ∈ l.drop 0) := hx
  clear h hx
  go_enter Try.func42, Try.ntmps42
  go_wp2_with fail
  go_loopw [8] (fun s8 wr => ∃ (k : Nat), k ≤ l.length ∧ s8 = .int .i64 k ∧ Hid (x ∈ l.drop k) ∧ wr = w) (fun s8 _ => l.length - (intOf s8).toNat)
  case atStart => exact ⟨0, Nat.zero_le _, rfl, HX, rfl⟩
  case round =>
    obtain ⟨k, hk, rfl, HA, hwr⟩ := hrel
    have hwr : w = wr := hwr.symm
    subst hwr
    clear HX
    by_cases hlt : k < l.length
    · obtain ⟨bb, off, rfl, hc, hbl⟩ := IntsAt.cell HI.out k hlt
      have hkl : (k : Int) < (l.length : Int) := by omega
      have HA1 := HA.out
      rw [drop_getD l 0 k hlt] at HA1
      have HN : Hid (¬ x = l.getD k 0 → x ∈ l.drop (k + 1)) := fun h => (List.mem_cons.1 HA1).resolve_left h
      clear HA HA1
      generalize l.getD k 0 = y at *
      cases e : (x == y)
      · have HN2 : Hid _ := HN.out (by simpa using e)
        clear HN
        go_wp2_with fail
        go_roundw
        case rel => exact ⟨k + 1, by omega, by go_num, HN2, by trivial⟩
        case measure => simp [intOf]; omega
      · clear HN
        go_wp2
        go_ret
        exact ⟨⟨k, rfl⟩, rfl⟩
    · obtain rfl : k = l.length := by omega
      exfalso
      have := HA.out
      rw [List.drop_length] at this
      cases this

theorem containsI_any (l : List Int) (a : Option Addr) (c : Nat) (x : Int) (w : World) (h : IntsAt w (.slice a l.length c) l) (hx : x ∈ l) :
    Calls Try.prog 21 #[.slice a l.length c, .int .i64 x] w fun e w' => e = .returned (.bool true) ∧ w' = w := by
  have HK : Hid _ := indexI_any l a c x w h hx
  clear h hx
  go_enter Try.func21, Try.ntmps21
  go_wp2_with (go_at_call 42; refine Calls.mono HK.out ?_; rintro e w1 ⟨⟨k, rfl⟩, rfl⟩; have hk0 : (0 : Int) ≤ (k : Int) := Int.natCast_nonneg k)
  go_ret
  exact ⟨rfl, rfl⟩

end Go.Proofs.Ytmimeanfhdkhaaa
