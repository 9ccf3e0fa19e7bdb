/-
  The contracts of the reference's CheckImage and ByteAt.
-/
import Derived.Test.YtmimeanfhdkhaaaLdRange
namespace Go.Proofs.Ytmimeanfhdkhaaa
open Go Go.RowKit
set_option linter.unusedVariables false

/-- the five things that a segment's bounds ask, as the reference asks them -/
theorem chkSeg_ref (s : M.Seg) (e : Int) : M.chkSeg s e = if s.pos < e ∨ 65536 < s.pos ∨ s.zeros < 0 ∨ 65536 < s.zeros ∨ 65536 < (s.bytes.length : Int) then 3 else if 65536 < M.segEnd s then 10 else 0 := by
  unfold M.chkSeg
  by_cases h1 : M.within s.pos e 65536 = true
  · rw [if_pos h1]
    have h1' := lwithin_iff.1 h1
    by_cases h2 : M.within s.zeros 0 65536 = true
    · rw [if_pos h2]
      have h2' := lwithin_iff.1 h2
      by_cases h3 : 65536 < s.bytes.length
      · rw [if_pos h3, if_pos (by omega)]
      · rw [if_neg h3]
        by_cases h4 : 65536 < M.segEnd s
        · rw [if_pos h4, if_neg (by omega)]
        · rw [if_neg h4, if_neg (by omega)]
    · rw [if_neg h2]
      have h2' : ¬ (0 ≤ s.zeros ∧ s.zeros ≤ 65536) := fun h => h2 (lwithin_iff.2 h)
      rw [if_pos (by omega)]
  · rw [if_neg h1]
    have h1' : ¬ (e ≤ s.pos ∧ s.pos ≤ 65536) := fun h => h1 (lwithin_iff.2 h)
    rw [if_pos (by omega)]

set_option maxHeartbeats 8000000 in
set_option maxRecDepth 100000 in
theorem rcheckImage_any (m : M.Img) (a : Option Addr) (c : Nat) (w : World) (hS : SegsAt w (.slice a m.segs.length c) m.segs) :
    Calls Try.prog 9 #[.agg #[.int .i64 m.entry, .slice a m.segs.length c]] w fun e w' => e = .returned (.int .i64 (M.chkImg m)) ∧ Below w.heap.size w w' := by
  have hl : m.segs.length ≤ maxLen := by obtain ⟨_, _, _, h⟩ := hS.form; exact h
  unfold maxLen at hl
  have HX : Hid (M.chkImg m = if 12 < m.segs.length then 2 else if M.chkSegs m.segs 0 = 0 then (if M.within m.entry 0 65536 = true then 0 else 3) else M.chkSegs m.segs 0) := rfl
  generalize M.chkImg m = R at *
  obtain ⟨en, l⟩ := m
  simp only at *
  by_cases h12 : 12 < l.length
  · obtain rfl : R = 2 := by rw [HX.out, if_pos h12]
    have h12' : (12 : Int) < (l.length : Int) := by omega
    clear HX hS
    generalize l.length = n at *
    go_enter Try.func9, Try.ntmps9
    go_wp2
    go_ret
    exact ⟨rfl, (Below.refl _ _).alloc (Nat.le_refl _) _⟩
  · have HX2 : Hid (R = if M.chkSegs (l.drop 0) 0 = 0 then (if M.within en 0 65536 = true then 0 else 3) else M.chkSegs (l.drop 0) 0) := by rw [Hid, HX.out, if_neg h12]; rfl
    have h12' : ¬ (12 : Int) < (l.length : Int) := by omega
    have HS : Hid (SegsAt w (.slice a l.length c) l) := hS
    clear HX hS h12
    go_enter Try.func9, Try.ntmps9
    go_wp2_with fail
    have HA : Hid (Below w.heap.size w (w.alloc (.cells #[.int .i64 en, .slice a l.length c] 24)) ∧ (w.alloc (.cells #[.int .i64 en, .slice a l.length c] 24)).heap[w.heap.size]? = some (.cells #[.int .i64 en, .slice a l.length c] 24 (0, 0))) := ⟨(Below.refl _ _).alloc (Nat.le_refl _) _, heap_alloc_new _ _⟩
    go_loopw [13, 3] (fun s13 s3 wr => ∃ (k : Nat) (e : Int), k ≤ l.length ∧ s13 = .int .i64 k ∧ s3 = .int .i64 e ∧ 0 ≤ e ∧ Hid (Below w.heap.size w wr) ∧ Hid (wr.heap[w.heap.size]? = some (.cells #[.int .i64 en, .slice a l.length c] 24 (0, 0))) ∧ Hid (R = if M.chkSegs (l.drop k) e = 0 then (if M.within en 0 65536 = true then 0 else 3) else M.chkSegs (l.drop k) e)) (fun s13 _ _ => l.length - (intOf s13).toNat)
    case atStart => exact ⟨0, 0, Nat.zero_le _, rfl, rfl, Int.le_refl 0, HA.out.1, HA.out.2, HX2⟩
    case round =>
      obtain ⟨k, e, hk, rfl, rfl, he0, HB, HQ, HR⟩ := hrel
      clear HA HX2
      by_cases hlt : k < l.length
      · obtain ⟨b, off, ab, cb, hae, e0, e1, e2, e3, e4, hby⟩ := (HS.out.later HB.out).cells k hlt
        subst hae
        have hkl : (k : Int) < (l.length : Int) := by omega
        have hbr : b < wr.heap.size := World.block_lt_of_cell? _ _ e0
        have HR1 := HR.out
        rw [M.chkSegs_drop hlt] at HR1
        have HRv : Hid (∀ v, M.chkSeg (l.getD k M.seg0) e = v → v ≠ 0 → R = v) := fun v h h0 => by
          rw [h, if_neg h0, if_neg h0] at HR1; exact HR1
        have HR0 : Hid (M.chkSeg (l.getD k M.seg0) e = 0 → R = if M.chkSegs (l.drop (k + 1)) (M.segEnd (l.getD k M.seg0)) = 0 then (if M.within en 0 65536 = true then 0 else 3) else M.chkSegs (l.drop (k + 1)) (M.segEnd (l.getD k M.seg0))) := fun h => by
          rw [h, if_pos rfl] at HR1; exact HR1
        have HCk : Hid _ := chkSeg_ref (l.getD k M.seg0) e
        have hbl : (l.getD k M.seg0).bytes.length ≤ maxLen := by obtain ⟨_, _, _, h⟩ := hby.1.form; exact h
        unfold maxLen at hbl
        have HE0 : Hid (M.segEnd (l.getD k M.seg0) = (l.getD k M.seg0).pos + (l.getD k M.seg0).bytes.length + (l.getD k M.seg0).zeros) := rfl
        clear HR HR1 hby
        generalize M.chkSeg (l.getD k M.seg0) e = ck at *
        generalize M.segEnd (l.getD k M.seg0) = E at *
        generalize l.getD k M.seg0 = s at *
        obtain ⟨p, bs, z, sw, sk⟩ := s
        simp only at *
        generalize bs.length = n at *
        go_upto_region 7 with fail
        have hXb : Below wr.heap.size wr (wr.alloc (.cells #[.int .i64 p, .slice ab n cb, .int .i64 z, .bool sw, .bool sk] 36)) := (Below.refl _ _).alloc (Nat.le_refl _) _
        have hXq := heap_alloc_new wr (.cells #[.int .i64 p, .slice ab n cb, .int .i64 z, .bool sw, .bool sk] 36)
        generalize wr.alloc (.cells #[.int .i64 p, .slice ab n cb, .int .i64 z, .bool sw, .bool sk] 36) = X at *
        have HBX : Hid (Below w.heap.size w X) := HB.out.trans (hXb.mono HB.out.size)
        have HQX : Hid (X.heap[w.heap.size]? = some (.cells #[.int .i64 en, .slice (some ⟨b, off, none⟩) l.length c] 24 (0, 0))) := (hXb.block _ (Array.getElem?_eq_some_iff.1 HQ.out).1).trans HQ.out
        generalize wr.heap.size = g at *
        have x0 : X.cell? ⟨g, 0, none⟩ = some (.int .i64 p) := cellB hXq 0
        have x1 : X.cell? ⟨g, 1, none⟩ = some (.slice ab n cb) := cellB hXq 1
        have x2 : X.cell? ⟨g, 2, none⟩ = some (.int .i64 z) := cellB hXq 2
        have xg : g < X.heap.size := (Array.getElem?_eq_some_iff.1 hXq).1
        clear HB HQ hXb hXq e0 e1 e2 e3 e4 hbr
        by_cases h1 : p < e
        · obtain rfl : R = 3 := HRv.out 3 (by rw [HCk.out, if_pos (by omega)]) (by decide)
          clear HRv HR0 HCk HE0
          go_wp2
          go_ret
          exact ⟨rfl, HBX.out⟩
        by_cases h2 : 65536 < p
        · obtain rfl : R = 3 := HRv.out 3 (by rw [HCk.out, if_pos (by omega)]) (by decide)
          clear HRv HR0 HCk HE0
          go_wp2
          go_ret
          exact ⟨rfl, HBX.out⟩
        by_cases h3 : z < 0
        · obtain rfl : R = 3 := HRv.out 3 (by rw [HCk.out, if_pos (by omega)]) (by decide)
          clear HRv HR0 HCk HE0
          go_wp2
          go_ret
          exact ⟨rfl, HBX.out⟩
        by_cases h4 : 65536 < z
        · obtain rfl : R = 3 := HRv.out 3 (by rw [HCk.out, if_pos (by omega)]) (by decide)
          clear HRv HR0 HCk HE0
          go_wp2
          go_ret
          exact ⟨rfl, HBX.out⟩
        by_cases h5 : 65536 < (n : Int)
        · obtain rfl : R = 3 := HRv.out 3 (by rw [HCk.out, if_pos (by omega)]) (by decide)
          clear HRv HR0 HCk HE0
          go_wp2
          go_ret
          exact ⟨rfl, HBX.out⟩
        have w1 : IntKind.i64.wrap (p + (n : Int)) = p + (n : Int) := by rw [IntKind.wrap_i64]; omega
        have w2 : IntKind.i64.wrap (p + (n : Int) + z) = E := by rw [IntKind.wrap_i64, HE0.out]; omega
        have hE0 : 0 ≤ E := by rw [HE0.out]; omega
        have HCk2 : Hid (ck = if 65536 < E then 10 else 0) := by rw [Hid, HCk.out, if_neg (by omega)]
        clear HCk HE0
        by_cases h6 : 65536 < E
        · obtain rfl : R = 10 := HRv.out 10 (by rw [HCk2.out, if_pos h6]) (by decide)
          clear HRv HR0 HCk2
          go_wp2
          go_ret
          exact ⟨rfl, HBX.out⟩
        · have HR4 : Hid (R = if M.chkSegs (l.drop (k + 1)) E = 0 then (if M.within en 0 65536 = true then 0 else 3) else M.chkSegs (l.drop (k + 1)) E) := HR0.out (by rw [HCk2.out, if_neg h6])
          clear HRv HR0 HCk2
          go_wp2_with fail
          go_roundw
          case rel => exact ⟨k + 1, E, by omega, by go_num, rfl, hE0, HBX, HQX, HR4⟩
          case measure => simp [intOf]; omega
      · have hkl : k = l.length := by omega
        subst hkl
        have g0 : wr.cell? ⟨w.heap.size, 0, none⟩ = some (.int .i64 en) := cellB HQ.out 0
        have gl : w.heap.size < wr.heap.size := (Array.getElem?_eq_some_iff.1 HQ.out).1
        have HR2 : Hid (R = if M.within en 0 65536 = true then 0 else 3) := by rw [Hid, HR.out, List.drop_length]; rfl
        clear HR HQ HS
        by_cases h1 : en < 0
        · obtain rfl : R = 3 := by rw [HR2.out, if_neg (fun h => by have := lwithin_iff.1 h; omega)]
          clear HR2
          go_wp2
          go_ret
          exact ⟨rfl, HB.out⟩
        · by_cases h2 : 65536 < en
          · obtain rfl : R = 3 := by rw [HR2.out, if_neg (fun h => by have := lwithin_iff.1 h; omega)]
            clear HR2
            go_wp2
            go_ret
            exact ⟨rfl, HB.out⟩
          · obtain rfl : R = 0 := by rw [HR2.out, if_pos (lwithin_iff.2 (by omega))]
            clear HR2
            go_wp2
            go_ret
            exact ⟨rfl, HB.out⟩

/-- the number of the segment that has an address, as the reference tells it -/
def segNo (l : List M.Seg) (a : Int) : Int := if M.thereAt l a = true then M.segIx l a else -1

set_option maxHeartbeats 8000000 in
set_option maxRecDepth 100000 in
theorem rbyteAt_any (m : M.Img) (at_ : Int) (a : Option Addr) (c : Nat) (w : World) (hS : SegsAt w (.slice a m.segs.length c) m.segs) (hF : ∀ s ∈ m.segs, M.SegFit s) (hat : at_ ≤ 9223372036854775807) :
    Calls Try.prog 12 #[.agg #[.int .i64 m.entry, .slice a m.segs.length c], .int .i64 at_] w fun e w' => e = .returned (.tuple #[.int .u8 (M.byteIn m.segs at_), .int .i64 (segNo m.segs at_)]) ∧ Below w.heap.size w w' := by
  have hl : m.segs.length ≤ maxLen := by obtain ⟨_, _, _, h⟩ := hS.form; exact h
  unfold maxLen at hl
  obtain ⟨en, l⟩ := m
  simp only at *
  have HS : Hid (SegsAt w (.slice a l.length c) l) := hS
  have HF : Hid (∀ s ∈ l, M.SegFit s) := hF
  have HX : Hid (M.segIx l at_ = 0 + M.segIx (l.drop 0) at_) := by rw [Hid, List.drop_zero, Nat.zero_add]
  have HI1 : Hid (∀ k, k < l.length → M.segIx l at_ = k → segNo l at_ = k ∧ M.byteIn l at_ = M.byteOf (l.getD k M.seg0) at_) := fun k hk h => by
    have h1 := segIx_found hk h
    exact ⟨by unfold segNo; rw [h1.1, if_pos rfl, h], by unfold M.byteIn; rw [h1.2]⟩
  have HI2 : Hid (M.segIx l at_ = l.length → segNo l at_ = -1 ∧ M.byteIn l at_ = 0) := fun h => by
    have h1 := segIx_end h
    exact ⟨by unfold segNo; rw [h1.1, if_neg (by decide)], (byteIn_none h1.1).1⟩
  clear hS hF
  generalize M.byteIn l at_ = B at *
  generalize segNo l at_ = No at *
  generalize M.segIx l at_ = I at *
  go_enter Try.func12, Try.ntmps12
  go_wp2_with fail
  have HA : Hid (Below w.heap.size w (w.alloc (.cells #[.int .i64 en, .slice a l.length c] 24))) := (Below.refl _ _).alloc (Nat.le_refl _) _
  go_loopw [11] (fun s11 wr => ∃ (k : Nat), k ≤ l.length ∧ s11 = .int .i64 k ∧ Hid (Below w.heap.size w wr) ∧ Hid (I = k + M.segIx (l.drop k) at_)) (fun s11 _ => l.length - (intOf s11).toNat)
  case atStart => exact ⟨0, Nat.zero_le _, rfl, HA, HX⟩
  case round =>
    obtain ⟨k, hk, rfl, HB, HR⟩ := hrel
    clear HA HX
    by_cases hlt : k < l.length
    · obtain ⟨b, off, ab, cb, hae, e0, e1, e2, e3, e4, hby⟩ := (HS.out.later HB.out).cells k hlt
      subst hae
      have hkl : (k : Int) < (l.length : Int) := by omega
      have hbr : b < wr.heap.size := World.block_lt_of_cell? _ _ e0
      have hfit := HF.out _ (getD_mem l M.seg0 k hlt)
      have HR1 := HR.out
      rw [M.segIx_drop hlt] at HR1
      have HR2 : Hid _ := HR1
      have HI : Hid _ := HI1.out k hlt
      have HH : Hid (M.segHas (l.getD k M.seg0) at_ = (decide ((l.getD k M.seg0).pos ≤ at_) && decide (at_ < (l.getD k M.seg0).pos + (l.getD k M.seg0).bytes.length + (l.getD k M.seg0).zeros))) := rfl
      have HBo : Hid (M.byteOf (l.getD k M.seg0) at_ = if at_ - (l.getD k M.seg0).pos < (l.getD k M.seg0).bytes.length then (l.getD k M.seg0).bytes.getD (at_ - (l.getD k M.seg0).pos).toNat 0 else 0) := rfl
      have hp0 := hfit.pos
      have hz0 := hfit.zeros
      have hl0 := hfit.len
      have HC : Hid (∀ j, j < (l.getD k M.seg0).bytes.length → ∃ bb oo, ab = some ⟨bb, oo, none⟩ ∧ wr.cell? ⟨bb, oo + j, none⟩ = some (.int .u8 ((l.getD k M.seg0).bytes.getD j 0)) ∧ bb < wr.heap.size) := fun j hj => by
        obtain ⟨bb, oo, e, hc⟩ := SlAt.at hby.1 j hj
        have := hc 0 (by omega)
        rw [Nat.mul_one, Nat.add_zero] at this
        exact ⟨bb, oo, e, this, World.block_lt_of_cell? _ _ this⟩
      clear HR HR1 hby hfit
      generalize M.segHas (l.getD k M.seg0) at_ = hs at *
      generalize M.byteOf (l.getD k M.seg0) at_ = Bo at *
      generalize l.getD k M.seg0 = s at *
      obtain ⟨p, bs, z, sw, sk⟩ := s
      simp only at *
      go_upto_region 4 with fail
      have hXb : Below wr.heap.size wr (wr.alloc (.cells #[.int .i64 p, .slice ab bs.length cb, .int .i64 z, .bool sw, .bool sk] 36)) := (Below.refl _ _).alloc (Nat.le_refl _) _
      have hXq := heap_alloc_new wr (.cells #[.int .i64 p, .slice ab bs.length cb, .int .i64 z, .bool sw, .bool sk] 36)
      generalize wr.alloc (.cells #[.int .i64 p, .slice ab bs.length cb, .int .i64 z, .bool sw, .bool sk] 36) = X at *
      have HBX : Hid (Below w.heap.size w X) := HB.out.trans (hXb.mono HB.out.size)
      have HCX : Hid (∀ j, j < bs.length → ∃ bb oo, ab = some ⟨bb, oo, none⟩ ∧ X.cell? ⟨bb, oo + j, none⟩ = some (.int .u8 (bs.getD j 0)) ∧ bb < X.heap.size) := fun j hj => by
        obtain ⟨bb, oo, e, h1, h2⟩ := HC.out j hj
        exact ⟨bb, oo, e, (hXb.cell (p := ⟨bb, oo + j, none⟩) h2).trans h1, Nat.lt_of_lt_of_le h2 hXb.size⟩
      generalize wr.heap.size = g at *
      have x0 : X.cell? ⟨g, 0, none⟩ = some (.int .i64 p) := cellB hXq 0
      have x1 : X.cell? ⟨g, 1, none⟩ = some (.slice ab bs.length cb) := cellB hXq 1
      have x2 : X.cell? ⟨g, 2, none⟩ = some (.int .i64 z) := cellB hXq 2
      have xg : g < X.heap.size := (Array.getElem?_eq_some_iff.1 hXq).1
      clear HB hXb hXq e0 e1 e2 e3 e4 hbr HC
      by_cases h1 : p ≤ at_
      · obtain ⟨j, hj⟩ : ∃ j : Nat, at_ = p + j := ⟨(at_ - p).toNat, by omega⟩
        have w1 : IntKind.i64.wrap (at_ - p) = (j : Int) := by rw [IntKind.wrap_i64]; omega
        have w2 : IntKind.i64.wrap ((bs.length : Int) + z) = (bs.length : Int) + z := by rw [IntKind.wrap_i64]; omega
        have hj2 : at_ - p = j := by omega
        rw [hj2, Int.toNat_natCast] at HBo
        by_cases h2 : (j : Int) < (bs.length : Int)
        · have hsT : hs = true := by rw [HH.out]; simp only [Bool.and_eq_true, decide_eq_true_eq]; omega
          subst hsT
          obtain ⟨hT, hSg⟩ := HI.out (by rw [HR2.out, if_pos rfl, Nat.add_zero])
          obtain ⟨bb, oo, rfl, hcc, hbb⟩ := HCX.out j (by omega)
          have hBx : B = bs.getD j 0 := by rw [hSg, HBo.out, if_pos h2]
          generalize bs.getD j 0 = x at *
          subst hT hBx
          clear HR2 HI HH HI1 HI2 HBo HCX hSg hj hj2
          generalize bs.length = n at *
          go_wp2
          go_ret2
          exact ⟨rfl, HBX.out⟩
        · have HB0 : Hid (Bo = 0) := by rw [Hid, HBo.out, if_neg h2]
          by_cases h3 : (j : Int) < (bs.length : Int) + z
          · have hsT : hs = true := by rw [HH.out]; simp only [Bool.and_eq_true, decide_eq_true_eq]; omega
            subst hsT
            obtain ⟨hT, hSg⟩ := HI.out (by rw [HR2.out, if_pos rfl, Nat.add_zero])
            have hBx : B = 0 := by rw [hSg, HB0.out]
            subst hT hBx
            clear HR2 HI HH HI1 HI2 HBo HCX hSg hj hj2 HB0
            generalize bs.length = n at *
            go_wp2
            go_ret2
            exact ⟨rfl, HBX.out⟩
          · have hsF : hs = false := by rw [HH.out]; simp only [Bool.and_eq_false_iff, decide_eq_false_iff_not]; omega
            subst hsF
            have HR3 : Hid (I = (k + 1) + M.segIx (l.drop (k + 1)) at_) := by rw [Hid, HR2.out, if_neg (by decide)]; omega
            clear HR2 HI HH HBo HCX hj hj2 HB0
            generalize bs.length = n at *
            go_wp2_with fail
            go_roundw
            case rel => exact ⟨k + 1, by omega, by go_num, HBX, HR3⟩
            case measure => simp [intOf]; omega
      · have hsF : hs = false := by rw [HH.out]; simp [h1]
        subst hsF
        have HR3 : Hid (I = (k + 1) + M.segIx (l.drop (k + 1)) at_) := by rw [Hid, HR2.out, if_neg (by decide)]; omega
        clear HR2 HI HH HBo HCX
        generalize bs.length = n at *
        go_wp2_with fail
        go_roundw
        case rel => exact ⟨k + 1, by omega, by go_num, HBX, HR3⟩
        case measure => simp [intOf]; omega
    · have hkl : k = l.length := by omega
      subst hkl
      obtain ⟨hT, hSg⟩ := HI2.out (by rw [HR.out, List.drop_length]; rfl)
      subst hT hSg
      clear HR HI1 HI2
      go_wp2
      go_ret2
      exact ⟨rfl, HB.out⟩

end Go.Proofs.Ytmimeanfhdkhaaa
