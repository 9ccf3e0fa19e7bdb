/-
  The contracts of load.Check and load.segmentAt.
-/
import Derived.Test.YtmimeanfhdkhaaaLdLoad
namespace Go.Proofs.Ytmimeanfhdkhaaa
open Go Go.RowKit
set_option linter.unusedVariables false

set_option maxHeartbeats 8000000 in
set_option maxRecDepth 100000 in
theorem lcheck_any (m : M.Img) (a : Option Addr) (c : Nat) (w : World) (hS : SegsAt w (.slice a m.segs.length c) m.segs) :
    Calls Try.prog 11 #[.agg #[.int .i64 m.entry, .slice a m.segs.length c]] w fun e w' => e = .returned (.int .i64 (M.chkImg m)) ∧ Below w.heap.size w w' := by
  have hl : m.segs.length ≤ maxLen := by obtain ⟨_, _, _, h⟩ := hS.form; exact h
  unfold maxLen at hl
  have HX : Hid (M.chkImg m = if 12 < m.segs.length then 2 else if M.chkSegs m.segs 0 = 0 then (if M.within m.entry 0 65536 = true then 0 else 3) else M.chkSegs m.segs 0) := rfl
  have KW : Hid (∀ W, Calls Try.prog 29 #[.int .i64 m.entry, .int .i64 0, .int .i64 65536] W fun e w' => e = .returned (.bool (M.within m.entry 0 65536)) ∧ w' = W) := fun W => lwithin_any _ _ _ W
  generalize M.chkImg m = R at *
  obtain ⟨en, l⟩ := m
  simp only at *
  generalize M.within en 0 65536 = t at *
  by_cases h12 : 12 < l.length
  · obtain rfl : R = 2 := by rw [HX.out, if_pos h12]
    have h12' : (12 : Int) < (l.length : Int) := by omega
    clear HX KW hS
    generalize l.length = n at *
    go_enter Try.func11, Try.ntmps11
    go_wp2
    go_ret
    exact ⟨rfl, (Below.refl _ _).alloc (Nat.le_refl _) _⟩
  · have HX2 : Hid (R = if M.chkSegs (l.drop 0) 0 = 0 then (if t = true then 0 else 3) else M.chkSegs (l.drop 0) 0) := by rw [Hid, HX.out, if_neg h12]; rfl
    have h12' : ¬ (12 : Int) < (l.length : Int) := by omega
    have HS : Hid (SegsAt w (.slice a l.length c) l) := hS
    clear HX hS h12
    go_enter Try.func11, Try.ntmps11
    go_wp2_with fail
    have HA : Hid (Below w.heap.size w (w.alloc (.cells #[.int .i64 en, .slice a l.length c] 24)) ∧ (w.alloc (.cells #[.int .i64 en, .slice a l.length c] 24)).heap[w.heap.size]? = some (.cells #[.int .i64 en, .slice a l.length c] 24 (0, 0))) := ⟨(Below.refl _ _).alloc (Nat.le_refl _) _, heap_alloc_new _ _⟩
    go_loopw [14, 3] (fun s14 s3 wr => ∃ (k : Nat) (e : Int), k ≤ l.length ∧ s14 = .int .i64 k ∧ s3 = .int .i64 e ∧ 0 ≤ e ∧ Hid (Below w.heap.size w wr) ∧ Hid (wr.heap[w.heap.size]? = some (.cells #[.int .i64 en, .slice a l.length c] 24 (0, 0))) ∧ Hid (R = if M.chkSegs (l.drop k) e = 0 then (if t = true then 0 else 3) else M.chkSegs (l.drop k) e)) (fun s14 _ _ => l.length - (intOf s14).toNat)
    case atStart => exact ⟨0, 0, Nat.zero_le _, rfl, rfl, Int.le_refl 0, HA.out.1, HA.out.2, HX2⟩
    case round =>
      obtain ⟨k, e, hk, rfl, rfl, he0, HB, HQ, HR⟩ := hrel
      clear HA HX2
      by_cases hlt : k < l.length
      · obtain ⟨b, off, ab, cb, hae, e0, e1, e2, e3, e4, hby⟩ := (HS.out.later HB.out).cells k hlt
        subst hae
        have hkl : (k : Int) < (l.length : Int) := by omega
        have hbr : b < wr.heap.size := World.block_lt_of_cell? _ _ e0
        have HR1 := HR.out
        rw [M.chkSegs_drop hlt] at HR1
        have HR2 : Hid _ := HR1
        have hbl : (l.getD k M.seg0).bytes.length ≤ maxLen := by obtain ⟨_, _, _, h⟩ := hby.1.form; exact h
        have HF : Hid (M.chkSeg (l.getD k M.seg0) e = 0 → M.SegFit (l.getD k M.seg0)) := fun h => M.chkSeg_fit he0 h
        clear HR HR1 hby
        have KC : Hid (∀ W, _) := fun W => checkSegment_any (l.getD k M.seg0) e ab cb W he0 hbl
        have KE : Hid (∀ W, M.SegFit (l.getD k M.seg0) → _) := fun W h => endOf_any (l.getD k M.seg0) ab cb W h.pos h.len h.zeros
        have HE0 : Hid (M.SegFit (l.getD k M.seg0) → 0 ≤ M.segEnd (l.getD k M.seg0)) := fun h => h.fin0
        generalize M.chkSeg (l.getD k M.seg0) e = er at *
        generalize M.segEnd (l.getD k M.seg0) = en2 at *
        generalize l.getD k M.seg0 = s at *
        go_upto_region 7 with fail
        have hXb : Below wr.heap.size wr (wr.alloc (.cells #[.int .i64 s.pos, .slice ab s.bytes.length cb, .int .i64 s.zeros, .bool s.writes, .bool s.works] 36)) := (Below.refl _ _).alloc (Nat.le_refl _) _
        have hXq := heap_alloc_new wr (.cells #[.int .i64 s.pos, .slice ab s.bytes.length cb, .int .i64 s.zeros, .bool s.writes, .bool s.works] 36)
        generalize wr.alloc (.cells #[.int .i64 s.pos, .slice ab s.bytes.length cb, .int .i64 s.zeros, .bool s.writes, .bool s.works] 36) = X at *
        have HBX : Hid (Below w.heap.size w X) := HB.out.trans (hXb.mono HB.out.size)
        have HQX : Hid (X.heap[w.heap.size]? = some (.cells #[.int .i64 en, .slice (some ⟨b, off, none⟩) l.length c] 24 (0, 0))) := (hXb.block _ (Array.getElem?_eq_some_iff.1 HQ.out).1).trans HQ.out
        generalize wr.heap.size = g at *
        have HC : Hid (∀ W, Below X.heap.size X W → W.cell? ⟨g, 0, none⟩ = some (.int .i64 s.pos) ∧ W.cell? ⟨g, 1, none⟩ = some (.slice ab s.bytes.length cb) ∧ W.cell? ⟨g, 2, none⟩ = some (.int .i64 s.zeros) ∧ W.cell? ⟨g, 3, none⟩ = some (.bool s.writes) ∧ W.cell? ⟨g, 4, none⟩ = some (.bool s.works) ∧ g < W.heap.size) := fun W hW => by
          have q := (hW.block _ (Array.getElem?_eq_some_iff.1 hXq).1).trans hXq
          exact ⟨cellB q 0, cellB q 1, cellB q 2, cellB q 3, cellB q 4, (Array.getElem?_eq_some_iff.1 q).1⟩
        obtain ⟨x0, x1, x2, x3, x4, xg⟩ := HC.out X (Below.refl _ _)
        clear HB HQ hXb hXq e0 e1 e2 e3 e4 hbr
        cases he : (er == 0)
        · have hne : er ≠ 0 := by simpa using he
          obtain rfl : R = er := by rw [HR2.out, if_neg hne, if_neg hne]
          have he' : (R != 0) = true := by simpa using he
          clear HR2 HF KE HE0 he
          go_wp2_with (go_at_call 30; refine (KC.out _).mono ?_; rintro e w1 ⟨rfl, hb1⟩)
          go_ret
          exact ⟨rfl, HBX.out.trans (hb1.mono HBX.out.size)⟩
        · obtain rfl : er = 0 := by simpa using he
          have hfit := HF.out rfl
          have HR3 : Hid _ := HR2.out
          have hpos := HE0.out hfit
          have KE2 : Hid (∀ W, _) := fun W => KE.out W hfit
          clear HR2 HF KE HE0 he hfit
          go_upto_region 8 with (go_at_call 30; refine (KC.out _).mono ?_; rintro e w1 ⟨rfl, hb1⟩)
          obtain ⟨y0, y1, y2, y3, y4, yg⟩ := HC.out _ hb1
          have HB1 : Hid (Below w.heap.size w w1) := HBX.out.trans (hb1.mono HBX.out.size)
          have HQ1 : Hid (w1.heap[w.heap.size]? = some (.cells #[.int .i64 en, .slice (some ⟨b, off, none⟩) l.length c] 24 (0, 0))) := (hb1.block _ (Array.getElem?_eq_some_iff.1 HQX.out).1).trans HQX.out
          clear x0 x1 x2 x3 x4 xg HC HBX HQX KC hb1
          go_wp2_with (go_at_call 31; refine (KE2.out _).mono ?_; rintro e w2 ⟨rfl, hb2⟩)
          go_roundw
          case rel => exact ⟨k + 1, en2, by omega, by go_num, rfl, hpos, HB1.out.trans (hb2.mono HB1.out.size), (hb2.block _ (Array.getElem?_eq_some_iff.1 HQ1.out).1).trans HQ1.out, HR3⟩
          case measure => simp [intOf]; omega
      · have hkl : k = l.length := by omega
        subst hkl
        obtain rfl : R = if t = true then 0 else 3 := by rw [HR.out, List.drop_length]; rfl
        have g0 : wr.cell? ⟨w.heap.size, 0, none⟩ = some (.int .i64 en) := cellB HQ.out 0
        have gl : w.heap.size < wr.heap.size := (Array.getElem?_eq_some_iff.1 HQ.out).1
        clear HR HQ HS
        cases t
        · go_wp2_with (go_at_call 29; refine (KW.out _).mono ?_; rintro e w1 ⟨rfl, rfl⟩)
          go_ret
          exact ⟨rfl, HB.out⟩
        · go_wp2_with (go_at_call 29; refine (KW.out _).mono ?_; rintro e w1 ⟨rfl, rfl⟩)
          go_ret
          exact ⟨rfl, HB.out⟩

end Go.Proofs.Ytmimeanfhdkhaaa
