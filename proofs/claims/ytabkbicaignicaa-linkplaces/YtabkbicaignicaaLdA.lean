/-
  The contracts of package load's small functions: within, endOf, checkSegment, byteOf; of Check. The contracts of load.Check and load.segmentAt. The contracts of load.segmentAt and load.Byte. The contracts of load.Byte and load.Range. The contract of load.Range.
-/
import Derived.Test.YtabkbicaignicaaLdMem
import Derived.Test.YtabkbicaignicaaMemA
import Derived.Test.YtabkbicaignicaaMemB
import Derived.Lib.Hide
import Derived.Deep.DeepCutAuto
import Derived.Laws.OwnMore

namespace Go.Proofs.Ytabkbicaignicaa
open Go Go.RowKit
set_option linter.unusedVariables false

theorem lwithin_any (n a b : Int) (w : World) :
    Calls Try.prog 45 #[.int .i64 n, .int .i64 a, .int .i64 b] w fun e w' => e = .returned (.bool (M.within n a b)) ∧ w' = w := by
  by_cases h1 : a ≤ n <;> by_cases h2 : n ≤ b
  all_goals
    go_enter Try.func45, Try.ntmps45
    go_wp2
    go_ret
    exact ⟨by simp [M.within, h1, h2], rfl⟩

/-- a segment's value -/
abbrev segArr (s : M.Seg) (ab : Option Addr) (cb : Nat) : Array Value := #[.int .i64 s.pos, .slice ab s.bytes.length cb, .int .i64 s.zeros, .bool s.writes, .bool s.works]

set_option maxHeartbeats 1000000 in
theorem endOf_any (s : M.Seg) (ab : Option Addr) (cb : Nat) (w : World) (h1 : 0 ≤ s.pos ∧ s.pos ≤ 65536) (h2 : s.bytes.length ≤ 65536) (h3 : 0 ≤ s.zeros ∧ s.zeros ≤ 65536) :
    Calls Try.prog 56 #[.agg #[.int .i64 s.pos, .slice ab s.bytes.length cb, .int .i64 s.zeros, .bool s.writes, .bool s.works]] w fun e w' => e = .returned (.int .i64 (M.segEnd s)) ∧ Below w.heap.size w w' := by
  have HX : Hid (M.segEnd s = s.pos + s.bytes.length + s.zeros) := rfl
  generalize M.segEnd s = R at *
  obtain ⟨p, b, z, wr, wk⟩ := s
  simp only at *
  generalize b.length = n at *
  obtain rfl : R = p + n + z := HX.out
  clear HX
  have w1 : IntKind.i64.wrap (p + n) = p + n := by rw [IntKind.wrap_i64]; omega
  have w2 : IntKind.i64.wrap (p + n + z) = p + n + z := by rw [IntKind.wrap_i64]; omega
  go_enter Try.func56, Try.ntmps56
  go_wp2
  go_ret
  exact ⟨rfl, (Below.refl _ _).alloc (Nat.le_refl _) _⟩

set_option maxHeartbeats 2000000 in
theorem byteOf_any (s : M.Seg) (at_ : Int) (ab : Option Addr) (cb : Nat) (w : World) (hB : BytesAt w (.slice ab s.bytes.length cb) s.bytes) (h0 : 0 ≤ s.pos ∧ s.pos ≤ at_) (h1 : at_ ≤ 1000000) :
    Calls Try.prog 47 #[.agg #[.int .i64 s.pos, .slice ab s.bytes.length cb, .int .i64 s.zeros, .bool s.writes, .bool s.works], .int .i64 at_] w fun e w' => e = .returned (.int .u8 (M.byteOf s at_)) ∧ Below w.heap.size w w' := by
  have HX : Hid (M.byteOf s at_ = if at_ - s.pos < s.bytes.length then s.bytes.getD (at_ - s.pos).toNat 0 else 0) := rfl
  have hl : s.bytes.length ≤ maxLen := by obtain ⟨_, _, _, h⟩ := hB.1.form; exact h
  unfold maxLen at hl
  have HC : Hid (∀ k, k < s.bytes.length → ∃ b off, ab = some ⟨b, off, none⟩ ∧ w.cell? ⟨b, off + k, none⟩ = some (.int .u8 (s.bytes.getD k 0)) ∧ b < w.heap.size) := fun k hk => by
    obtain ⟨b, off, e, hc⟩ := SlAt.at hB.1 k hk
    have := hc 0 (by omega)
    rw [Nat.mul_one, Nat.add_zero] at this
    exact ⟨b, off, e, this, World.block_lt_of_cell? _ _ this⟩
  generalize M.byteOf s at_ = R at *
  clear hB
  obtain ⟨p, bs, z, wr, wk⟩ := s
  simp only at *
  obtain ⟨k, hk⟩ : ∃ k : Nat, at_ - p = k := ⟨(at_ - p).toNat, by omega⟩
  have HX2 : Hid (R = if (k : Int) < bs.length then bs.getD k 0 else 0) := by
    have := HX.out
    rwa [hk, Int.toNat_natCast] at this
  clear HX
  have w1 : IntKind.i64.wrap (at_ - p) = (k : Int) := by rw [IntKind.wrap_i64]; omega
  clear hk
  by_cases hkl : k < bs.length
  · obtain ⟨b, off, rfl, hc, hb⟩ := HC.out k hkl
    obtain rfl : R = bs.getD k 0 := by rw [HX2.out, if_pos (by omega)]
    clear HC HX2
    have hk' : (k : Int) < (bs.length : Int) := by omega
    generalize bs.length = n at *
    generalize bs.getD k 0 = x at *
    go_enter Try.func47, Try.ntmps47
    go_wp2
    go_ret
    exact ⟨rfl, (Below.refl _ _).alloc (Nat.le_refl _) _⟩
  · obtain rfl : R = 0 := by rw [HX2.out, if_neg (by omega)]
    clear HC HX2
    have hk' : (bs.length : Int) ≤ (k : Int) := by omega
    generalize bs.length = n at *
    go_enter Try.func47, Try.ntmps47
    go_wp2
    go_ret
    exact ⟨rfl, (Below.refl _ _).alloc (Nat.le_refl _) _⟩

set_option maxHeartbeats 4000000 in
set_option maxRecDepth 100000 in
theorem checkSegment_any (s : M.Seg) (e0 : Int) (ab : Option Addr) (cb : Nat) (w : World) (h0 : 0 ≤ e0) (hl : s.bytes.length ≤ maxLen) :
    Calls Try.prog 55 #[.agg #[.int .i64 s.pos, .slice ab s.bytes.length cb, .int .i64 s.zeros, .bool s.writes, .bool s.works], .int .i64 e0] w fun e w' => e = .returned (.int .i64 (M.chkSeg s e0)) ∧ Below w.heap.size w w' := by
  unfold maxLen at hl
  have HX : Hid (M.chkSeg s e0 = if M.within s.pos e0 65536 = true then (if M.within s.zeros 0 65536 = true then (if 65536 < s.bytes.length then 3 else if 65536 < M.segEnd s then 10 else 0) else 3) else 3) := rfl
  have HP : Hid (M.within s.pos e0 65536 = true → 0 ≤ s.pos ∧ s.pos ≤ 65536) := fun h => by
    simp only [M.within, Bool.and_eq_true, decide_eq_true_eq] at h; omega
  have HZ : Hid (M.within s.zeros 0 65536 = true → 0 ≤ s.zeros ∧ s.zeros ≤ 65536) := fun h => by
    simp only [M.within, Bool.and_eq_true, decide_eq_true_eq] at h; omega
  have HE : Hid (∀ W, (0 ≤ s.pos ∧ s.pos ≤ 65536) → s.bytes.length ≤ 65536 → (0 ≤ s.zeros ∧ s.zeros ≤ 65536) → Calls Try.prog 56 #[.agg #[.int .i64 s.pos, .slice ab s.bytes.length cb, .int .i64 s.zeros, .bool s.writes, .bool s.works]] W fun e w' => e = .returned (.int .i64 (M.segEnd s)) ∧ Below W.heap.size W w') := fun W a b c => endOf_any s ab cb W a b c
  generalize M.chkSeg s e0 = R at *
  generalize M.segEnd s = E at *
  obtain ⟨p, bs, z, wr, wk⟩ := s
  simp only at *
  generalize bs.length = n at *
  have KW := lwithin_any
  cases h1 : M.within p e0 65536
  · obtain rfl : R = 3 := by have := HX.out; rwa [h1, if_neg (by decide)] at this
    clear HX HP HZ HE
    go_enter Try.func55, Try.ntmps55
    go_wp2_with (go_at_call 45; refine (KW _ _ _ _).mono ?_; rintro e w' ⟨rfl, rfl⟩)
    go_ret
    exact ⟨rfl, (Below.refl _ _).alloc (Nat.le_refl _) _⟩
  · cases h2 : M.within z 0 65536
    · obtain rfl : R = 3 := by have := HX.out; rwa [h1, if_pos rfl, h2, if_neg (by decide)] at this
      clear HX HP HZ HE
      go_enter Try.func55, Try.ntmps55
      go_wp2_with (go_at_call 45; refine (KW _ _ _ _).mono ?_; rintro e w' ⟨rfl, rfl⟩)
      go_ret
      exact ⟨rfl, (Below.refl _ _).alloc (Nat.le_refl _) _⟩
    · by_cases hn : 65536 < n
      · obtain rfl : R = 3 := by have := HX.out; rwa [h1, if_pos rfl, h2, if_pos rfl, if_pos hn] at this
        clear HX HP HZ HE
        have hn' : (65536 : Int) < (n : Int) := by omega
        go_enter Try.func55, Try.ntmps55
        go_wp2_with (go_at_call 45; refine (KW _ _ _ _).mono ?_; rintro e w' ⟨rfl, rfl⟩)
        go_ret
        exact ⟨rfl, (Below.refl _ _).alloc (Nat.le_refl _) _⟩
      · have HX2 : Hid (R = if 65536 < E then 10 else 0) := by have := HX.out; rwa [h1, if_pos rfl, h2, if_pos rfl, if_neg hn] at this
        have hn' : ¬ (65536 : Int) < (n : Int) := by omega
        have KE : Hid (∀ W, Calls Try.prog 56 #[.agg #[.int .i64 p, .slice ab n cb, .int .i64 z, .bool wr, .bool wk]] W fun e w' => e = .returned (.int .i64 E) ∧ Below W.heap.size W w') := fun W => HE.out W (HP.out h1) (by omega) (HZ.out h2)
        clear HX HP HZ HE hl hn
        by_cases h4 : 65536 < E
        · obtain rfl : R = 10 := by rw [HX2.out, if_pos h4]
          clear HX2
          go_enter Try.func55, Try.ntmps55
          go_wp2_with (first | (go_at_call 45; refine (KW _ _ _ _).mono ?_; rintro e w' ⟨rfl, rfl⟩) | (go_at_call 56; refine (KE.out _).mono ?_; rintro e w1 ⟨rfl, hb1⟩))
          go_ret
          exact ⟨rfl, ((Below.refl _ _).alloc (Nat.le_refl _) _).trans (hb1.mono (by simp))⟩
        · obtain rfl : R = 0 := by rw [HX2.out, if_neg h4]
          clear HX2
          go_enter Try.func55, Try.ntmps55
          go_wp2_with (first | (go_at_call 45; refine (KW _ _ _ _).mono ?_; rintro e w' ⟨rfl, rfl⟩) | (go_at_call 56; refine (KE.out _).mono ?_; rintro e w1 ⟨rfl, hb1⟩))
          go_ret
          exact ⟨rfl, ((Below.refl _ _).alloc (Nat.le_refl _) _).trans (hb1.mono (by simp))⟩

end Go.Proofs.Ytabkbicaignicaa

namespace Go.Proofs.Ytabkbicaignicaa
open Go Go.RowKit
set_option linter.unusedVariables false

set_option maxHeartbeats 8000000 in
set_option maxRecDepth 100000 in
theorem lcheck_any (m : M.Img) (a : Option Addr) (c : Nat) (w : World) (hS : SegsAt w (.slice a m.segs.length c) m.segs) :
    Calls Try.prog 18 #[.agg #[.int .i64 m.entry, .slice a m.segs.length c]] w fun e w' => e = .returned (.int .i64 (M.chkImg m)) ∧ Below w.heap.size w w' := by
  have hl : m.segs.length ≤ maxLen := by obtain ⟨_, _, _, h⟩ := hS.form; exact h
  unfold maxLen at hl
  have HX : Hid (M.chkImg m = if 12 < m.segs.length then 2 else if M.chkSegs m.segs 0 = 0 then (if M.within m.entry 0 65536 = true then 0 else 3) else M.chkSegs m.segs 0) := rfl
  have KW : Hid (∀ W, Calls Try.prog 45 #[.int .i64 m.entry, .int .i64 0, .int .i64 65536] W fun e w' => e = .returned (.bool (M.within m.entry 0 65536)) ∧ w' = W) := fun W => lwithin_any _ _ _ W
  generalize M.chkImg m = R at *
  obtain ⟨en, l⟩ := m
  simp only at *
  generalize M.within en 0 65536 = t at *
  by_cases h12 : 12 < l.length
  · obtain rfl : R = 2 := by rw [HX.out, if_pos h12]
    have h12' : (12 : Int) < (l.length : Int) := by omega
    clear HX KW hS
    generalize l.length = n at *
    go_enter Try.func18, Try.ntmps18
    go_wp2
    go_ret
    exact ⟨rfl, (Below.refl _ _).alloc (Nat.le_refl _) _⟩
  · have HX2 : Hid (R = if M.chkSegs (l.drop 0) 0 = 0 then (if t = true then 0 else 3) else M.chkSegs (l.drop 0) 0) := by rw [Hid, HX.out, if_neg h12]; rfl
    have h12' : ¬ (12 : Int) < (l.length : Int) := by omega
    have HS : Hid (SegsAt w (.slice a l.length c) l) := hS
    clear HX hS h12
    go_enter Try.func18, Try.ntmps18
    go_wp2_with fail
    have HA : Hid (Below w.heap.size w (w.alloc (.cells #[.int .i64 en, .slice a l.length c] 28)) ∧ (w.alloc (.cells #[.int .i64 en, .slice a l.length c] 28)).heap[w.heap.size]? = some (.cells #[.int .i64 en, .slice a l.length c] 28 (0, 0))) := ⟨(Below.refl _ _).alloc (Nat.le_refl _) _, heap_alloc_new _ _⟩
    go_loopw [14, 3] (fun s14 s3 wr => ∃ (k : Nat) (e : Int), k ≤ l.length ∧ s14 = .int .i64 k ∧ s3 = .int .i64 e ∧ 0 ≤ e ∧ Hid (Below w.heap.size w wr) ∧ Hid (wr.heap[w.heap.size]? = some (.cells #[.int .i64 en, .slice a l.length c] 28 (0, 0))) ∧ Hid (R = if M.chkSegs (l.drop k) e = 0 then (if t = true then 0 else 3) else M.chkSegs (l.drop k) e)) (fun s14 _ _ => l.length - (intOf s14).toNat)
    case atStart => exact ⟨0, 0, Nat.zero_le _, rfl, rfl, Int.le_refl 0, HA.out.1, HA.out.2, HX2⟩
    case round =>
      obtain ⟨k, e, hk, rfl, rfl, he0, HB, HQ, HR⟩ := hrel
      clear HA HX2
      by_cases hlt : k < l.length
      · obtain ⟨b, off, ab, cb, hae, e0, e1, e2, e3, e4, hby⟩ := (HS.out.later HB.out).cells k hlt
        subst hae
        have hkl : (k : Int) < (l.length : Int) := by omega
        have hbr : b < wr.heap.size := World.block_lt_of_cell? _ _ e0
        have HR1 := HR.out
        rw [M.chkSegs_drop hlt] at HR1
        have HR2 : Hid _ := HR1
        have hbl : (l.getD k M.seg0).bytes.length ≤ maxLen := by obtain ⟨_, _, _, h⟩ := hby.1.form; exact h
        have HF : Hid (M.chkSeg (l.getD k M.seg0) e = 0 → M.SegFit (l.getD k M.seg0)) := fun h => M.chkSeg_fit he0 h
        clear HR HR1 hby
        have KC : Hid (∀ W, _) := fun W => checkSegment_any (l.getD k M.seg0) e ab cb W he0 hbl
        have KE : Hid (∀ W, M.SegFit (l.getD k M.seg0) → _) := fun W h => endOf_any (l.getD k M.seg0) ab cb W h.pos h.len h.zeros
        have HE0 : Hid (M.SegFit (l.getD k M.seg0) → 0 ≤ M.segEnd (l.getD k M.seg0)) := fun h => h.fin0
        generalize M.chkSeg (l.getD k M.seg0) e = er at *
        generalize M.segEnd (l.getD k M.seg0) = en2 at *
        generalize l.getD k M.seg0 = s at *
        go_upto_region 7 with fail
        have hXb : Below wr.heap.size wr (wr.alloc (.cells #[.int .i64 s.pos, .slice ab s.bytes.length cb, .int .i64 s.zeros, .bool s.writes, .bool s.works] 62)) := (Below.refl _ _).alloc (Nat.le_refl _) _
        have hXq := heap_alloc_new wr (.cells #[.int .i64 s.pos, .slice ab s.bytes.length cb, .int .i64 s.zeros, .bool s.writes, .bool s.works] 62)
        generalize wr.alloc (.cells #[.int .i64 s.pos, .slice ab s.bytes.length cb, .int .i64 s.zeros, .bool s.writes, .bool s.works] 62) = X at *
        have HBX : Hid (Below w.heap.size w X) := HB.out.trans (hXb.mono HB.out.size)
        have HQX : Hid (X.heap[w.heap.size]? = some (.cells #[.int .i64 en, .slice (some ⟨b, off, none⟩) l.length c] 28 (0, 0))) := (hXb.block _ (Array.getElem?_eq_some_iff.1 HQ.out).1).trans HQ.out
        generalize wr.heap.size = g at *
        have HC : Hid (∀ W, Below X.heap.size X W → W.cell? ⟨g, 0, none⟩ = some (.int .i64 s.pos) ∧ W.cell? ⟨g, 1, none⟩ = some (.slice ab s.bytes.length cb) ∧ W.cell? ⟨g, 2, none⟩ = some (.int .i64 s.zeros) ∧ W.cell? ⟨g, 3, none⟩ = some (.bool s.writes) ∧ W.cell? ⟨g, 4, none⟩ = some (.bool s.works) ∧ g < W.heap.size) := fun W hW => by
          have q := (hW.block _ (Array.getElem?_eq_some_iff.1 hXq).1).trans hXq
          exact ⟨cellB q 0, cellB q 1, cellB q 2, cellB q 3, cellB q 4, (Array.getElem?_eq_some_iff.1 q).1⟩
        obtain ⟨x0, x1, x2, x3, x4, xg⟩ := HC.out X (Below.refl _ _)
        clear HB HQ hXb hXq e0 e1 e2 e3 e4 hbr
        cases he : (er == 0)
        · have hne : er ≠ 0 := by simpa using he
          obtain rfl : R = er := by rw [HR2.out, if_neg hne, if_neg hne]
          have he' : (R != 0) = true := by simpa using he
          clear HR2 HF KE HE0 he
          go_wp2_with (go_at_call 55; refine (KC.out _).mono ?_; rintro e w1 ⟨rfl, hb1⟩)
          go_ret
          exact ⟨rfl, HBX.out.trans (hb1.mono HBX.out.size)⟩
        · obtain rfl : er = 0 := by simpa using he
          have hfit := HF.out rfl
          have HR3 : Hid _ := HR2.out
          have hpos := HE0.out hfit
          have KE2 : Hid (∀ W, _) := fun W => KE.out W hfit
          clear HR2 HF KE HE0 he hfit
          go_upto_region 8 with (go_at_call 55; refine (KC.out _).mono ?_; rintro e w1 ⟨rfl, hb1⟩)
          obtain ⟨y0, y1, y2, y3, y4, yg⟩ := HC.out _ hb1
          have HB1 : Hid (Below w.heap.size w w1) := HBX.out.trans (hb1.mono HBX.out.size)
          have HQ1 : Hid (w1.heap[w.heap.size]? = some (.cells #[.int .i64 en, .slice (some ⟨b, off, none⟩) l.length c] 28 (0, 0))) := (hb1.block _ (Array.getElem?_eq_some_iff.1 HQX.out).1).trans HQX.out
          clear x0 x1 x2 x3 x4 xg HC HBX HQX KC hb1
          go_wp2_with (go_at_call 56; refine (KE2.out _).mono ?_; rintro e w2 ⟨rfl, hb2⟩)
          go_roundw
          case rel => exact ⟨k + 1, en2, by omega, by go_num, rfl, hpos, HB1.out.trans (hb2.mono HB1.out.size), (hb2.block _ (Array.getElem?_eq_some_iff.1 HQ1.out).1).trans HQ1.out, HR3⟩
          case measure => simp [intOf]; omega
      · have hkl : k = l.length := by omega
        subst hkl
        obtain rfl : R = if t = true then 0 else 3 := by rw [HR.out, List.drop_length]; rfl
        have g0 : wr.cell? ⟨w.heap.size, 0, none⟩ = some (.int .i64 en) := cellB HQ.out 0
        have gl : w.heap.size < wr.heap.size := (Array.getElem?_eq_some_iff.1 HQ.out).1
        clear HR HQ HS
        cases t
        · go_wp2_with (go_at_call 45; refine (KW.out _).mono ?_; rintro e w1 ⟨rfl, rfl⟩)
          go_ret
          exact ⟨rfl, HB.out⟩
        · go_wp2_with (go_at_call 45; refine (KW.out _).mono ?_; rintro e w1 ⟨rfl, rfl⟩)
          go_ret
          exact ⟨rfl, HB.out⟩

end Go.Proofs.Ytabkbicaignicaa

namespace Go.Proofs.Ytabkbicaignicaa
open Go Go.RowKit
set_option linter.unusedVariables false

def segZA : Array Value := #[.int .i64 0, .slice none 0 0, .int .i64 0, .bool false, .bool false]

theorem segIx_end {l : List M.Seg} {a : Int} (h : M.segIx l a = l.length) : M.thereAt l a = false ∧ M.segAt l a = M.seg0 := by
  refine ⟨by unfold M.thereAt; rw [h]; simp, ?_⟩
  unfold M.segAt
  rw [h, List.getD_eq_getElem?_getD, List.getElem?_eq_none (Nat.le_refl _)]; rfl
theorem segIx_found {l : List M.Seg} {a : Int} {k : Nat} (hk : k < l.length) (h : M.segIx l a = k) : M.thereAt l a = true ∧ M.segAt l a = l.getD k M.seg0 := by
  refine ⟨by unfold M.thereAt; rw [h]; simpa using hk, ?_⟩
  unfold M.segAt
  rw [h]
theorem bytes_nil (w : World) : BytesAt w (.slice none 0 0) [] := ⟨⟨none, 0, rfl, Nat.zero_le _, .inl rfl⟩, fun b hb => by cases hb⟩

theorem store5 (W : World) (g : Nat) (c0 c1 c2 c3 c4 a0 a1 a2 a3 a4 : Value) (t : TypeId) (h : W.heap[g]? = some (.cells #[c0, c1, c2, c3, c4] t (0, 0))) :
    (((((W.setCell ⟨g, 0, none⟩ a0).setCell ⟨g, 1, none⟩ a1).setCell ⟨g, 2, none⟩ a2).setCell ⟨g, 3, none⟩ a3).setCell ⟨g, 4, none⟩ a4).heap[g]? = some (.cells #[a0, a1, a2, a3, a4] t (0, 0)) := by
  have h0 : (W.setCell ⟨g, 0, none⟩ a0).heap[g]? = some (.cells #[a0, c1, c2, c3, c4] t (0, 0)) := setB' h a0
  have h1 : ((W.setCell ⟨g, 0, none⟩ a0).setCell ⟨g, 1, none⟩ a1).heap[g]? = some (.cells #[a0, a1, c2, c3, c4] t (0, 0)) := setB' h0 a1
  have h2 : (((W.setCell ⟨g, 0, none⟩ a0).setCell ⟨g, 1, none⟩ a1).setCell ⟨g, 2, none⟩ a2).heap[g]? = some (.cells #[a0, a1, a2, c3, c4] t (0, 0)) := setB' h1 a2
  have h3 : ((((W.setCell ⟨g, 0, none⟩ a0).setCell ⟨g, 1, none⟩ a1).setCell ⟨g, 2, none⟩ a2).setCell ⟨g, 3, none⟩ a3).heap[g]? = some (.cells #[a0, a1, a2, a3, c4] t (0, 0)) := setB' h2 a3
  exact setB' h3 a4
theorem below5 {w W : World} {g : Nat} (hb : Below w.heap.size w W) (hg : w.heap.size ≤ g) (a0 a1 a2 a3 a4 : Value) :
    Below w.heap.size w (((((W.setCell ⟨g, 0, none⟩ a0).setCell ⟨g, 1, none⟩ a1).setCell ⟨g, 2, none⟩ a2).setCell ⟨g, 3, none⟩ a3).setCell ⟨g, 4, none⟩ a4) :=
  ((((hb.setCell (p := ⟨g, 0, none⟩) hg a0).setCell (p := ⟨g, 1, none⟩) hg a1).setCell (p := ⟨g, 2, none⟩) hg a2).setCell (p := ⟨g, 3, none⟩) hg a3).setCell (p := ⟨g, 4, none⟩) hg a4

set_option maxHeartbeats 8000000 in
set_option maxRecDepth 100000 in
theorem segmentAt_any (l : List M.Seg) (at_ : Int) (a : Option Addr) (c : Nat) (w : World) (hS : SegsAt w (.slice a l.length c) l) (hF : ∀ s ∈ l, M.SegFit s) :
    Calls Try.prog 46 #[.slice a l.length c, .int .i64 at_] w fun e w' => Below w.heap.size w w' ∧ ∃ ab cb, e = .returned (.tuple #[.agg #[.int .i64 (M.segAt l at_).pos, .slice ab (M.segAt l at_).bytes.length cb, .int .i64 (M.segAt l at_).zeros, .bool (M.segAt l at_).writes, .bool (M.segAt l at_).works], .bool (M.thereAt l at_)]) ∧ BytesAt w' (.slice ab (M.segAt l at_).bytes.length cb) (M.segAt l at_).bytes := by
  have hl : l.length ≤ maxLen := by obtain ⟨_, _, _, h⟩ := hS.form; exact h
  unfold maxLen at hl
  have HS : Hid (SegsAt w (.slice a l.length c) l) := hS
  have HF : Hid (∀ s ∈ l, M.SegFit s) := hF
  have HX : Hid (M.segIx l at_ = 0 + M.segIx (l.drop 0) at_) := by rw [Hid, List.drop_zero, Nat.zero_add]
  have HI1 : Hid (∀ k, k < l.length → M.segIx l at_ = k → M.thereAt l at_ = true ∧ M.segAt l at_ = l.getD k M.seg0) := fun k hk h => segIx_found hk h
  have HI2 : Hid (M.segIx l at_ = l.length → M.thereAt l at_ = false ∧ M.segAt l at_ = M.seg0) := fun h => segIx_end h
  clear hS hF
  generalize M.segAt l at_ = S at *
  generalize M.thereAt l at_ = T at *
  generalize M.segIx l at_ = I at *
  go_enter Try.func46, Try.ntmps46
  go_wp2_with fail
  have HA : Hid (Below w.heap.size w (w.alloc (.cells segZA 62)) ∧ (w.alloc (.cells segZA 62)).heap[w.heap.size]? = some (.cells segZA 62 (0, 0))) := ⟨(Below.refl _ _).alloc (Nat.le_refl _) _, heap_alloc_new _ _⟩
  go_loopw [10] (fun s10 wr => ∃ (k : Nat), k ≤ l.length ∧ s10 = .int .i64 k ∧ Hid (Below w.heap.size w wr) ∧ Hid (wr.heap[w.heap.size]? = some (.cells segZA 62 (0, 0))) ∧ Hid (I = k + M.segIx (l.drop k) at_)) (fun s10 _ => l.length - (intOf s10).toNat)
  case atStart => exact ⟨0, Nat.zero_le _, rfl, HA.out.1, HA.out.2, HX⟩
  case round =>
    obtain ⟨k, hk, rfl, HB, HQ, HR⟩ := hrel
    clear HA HX
    by_cases hlt : k < l.length
    · obtain ⟨b, off, ab, cb, hae, e0', e1', e2', e3', e4', hby⟩ := HS.out.cells k hlt
      subst hae
      have hkl : (k : Int) < (l.length : Int) := by omega
      have hb0 : b < w.heap.size := World.block_lt_of_cell? _ _ e0'
      have hbr : b < wr.heap.size := Nat.lt_of_lt_of_le hb0 HB.out.size
      have e0 := (HB.out.cell (p := ⟨b, off + k * 5, none⟩) hb0).trans e0'
      have e1 := (HB.out.cell (p := ⟨b, off + k * 5 + 1, none⟩) hb0).trans e1'
      have e2 := (HB.out.cell (p := ⟨b, off + k * 5 + 2, none⟩) hb0).trans e2'
      have e3 := (HB.out.cell (p := ⟨b, off + k * 5 + 3, none⟩) hb0).trans e3'
      have e4 := (HB.out.cell (p := ⟨b, off + k * 5 + 4, none⟩) hb0).trans e4'
      clear e0' e1' e2' e3' e4' hb0
      have HY : Hid (BytesAt w (.slice ab (l.getD k M.seg0).bytes.length cb) (l.getD k M.seg0).bytes) := hby
      have hfit := HF.out _ (getD_mem l M.seg0 k hlt)
      have HR1 := HR.out
      rw [M.segIx_drop hlt] at HR1
      have HR2 : Hid _ := HR1
      have HI : Hid _ := HI1.out k hlt
      have KE : Hid (∀ W, _) := fun W => endOf_any (l.getD k M.seg0) ab cb W hfit.pos hfit.len hfit.zeros
      have HH : Hid (M.segHas (l.getD k M.seg0) at_ = (decide ((l.getD k M.seg0).pos ≤ at_) && decide (at_ < M.segEnd (l.getD k M.seg0)))) := rfl
      clear HR HR1 hby hfit
      generalize M.segHas (l.getD k M.seg0) at_ = hs at *
      generalize M.segEnd (l.getD k M.seg0) = E at *
      generalize l.getD k M.seg0 = s at *
      go_upto_region 4 with fail
      have hXb : Below wr.heap.size wr (wr.alloc (.cells #[.int .i64 s.pos, .slice ab s.bytes.length cb, .int .i64 s.zeros, .bool s.writes, .bool s.works] 62)) := (Below.refl _ _).alloc (Nat.le_refl _) _
      have hXq := heap_alloc_new wr (.cells #[.int .i64 s.pos, .slice ab s.bytes.length cb, .int .i64 s.zeros, .bool s.writes, .bool s.works] 62)
      generalize wr.alloc (.cells #[.int .i64 s.pos, .slice ab s.bytes.length cb, .int .i64 s.zeros, .bool s.writes, .bool s.works] 62) = X at *
      have HBX : Hid (Below w.heap.size w X) := HB.out.trans (hXb.mono HB.out.size)
      have HQX : Hid (X.heap[w.heap.size]? = some (.cells segZA 62 (0, 0))) := (hXb.block _ (Array.getElem?_eq_some_iff.1 HQ.out).1).trans HQ.out
      have hne : w.heap.size ≠ wr.heap.size := Nat.ne_of_lt (Array.getElem?_eq_some_iff.1 HQ.out).1
      generalize wr.heap.size = g at *
      have HC : Hid (∀ W, Below X.heap.size X W → W.cell? ⟨g, 0, none⟩ = some (.int .i64 s.pos) ∧ W.cell? ⟨g, 1, none⟩ = some (.slice ab s.bytes.length cb) ∧ W.cell? ⟨g, 2, none⟩ = some (.int .i64 s.zeros) ∧ W.cell? ⟨g, 3, none⟩ = some (.bool s.writes) ∧ W.cell? ⟨g, 4, none⟩ = some (.bool s.works) ∧ g < W.heap.size) := fun W hW => by
        have q := (hW.block _ (Array.getElem?_eq_some_iff.1 hXq).1).trans hXq
        exact ⟨cellB q 0, cellB q 1, cellB q 2, cellB q 3, cellB q 4, (Array.getElem?_eq_some_iff.1 q).1⟩
      obtain ⟨x0, x1, x2, x3, x4, xg⟩ := HC.out X (Below.refl _ _)
      clear HB HQ hXb hXq e0 e1 e2 e3 e4 hbr
      by_cases h1 : s.pos ≤ at_
      · by_cases h2 : at_ < E
        · have hsT : hs = true := by rw [HH.out]; simp [h1, h2]
          subst hsT
          obtain ⟨hT, hSg⟩ := HI.out (by rw [HR2.out, if_pos rfl, Nat.add_zero])
          subst hT hSg
          clear HR2 HI HH HI1 HI2
          go_upto_region 5 with (go_at_call 56; refine (KE.out _).mono ?_; rintro e w1 ⟨rfl, hb1⟩)
          obtain ⟨y0, y1, y2, y3, y4, yg⟩ := HC.out _ hb1
          have HB1 : Hid (Below w.heap.size w w1) := HBX.out.trans (hb1.mono HBX.out.size)
          have q : w1.heap[w.heap.size]? = some (.cells segZA 62 (0, 0)) := (hb1.block _ (Array.getElem?_eq_some_iff.1 HQX.out).1).trans HQX.out
          have d0 : w1.cell? ⟨w.heap.size, 0, none⟩ = some (.int .i64 0) := cellB q 0
          have d1 : w1.cell? ⟨w.heap.size, 1, none⟩ = some (.slice none 0 0) := cellB q 1
          have d2 : w1.cell? ⟨w.heap.size, 2, none⟩ = some (.int .i64 0) := cellB q 2
          have d3 : w1.cell? ⟨w.heap.size, 3, none⟩ = some (.bool false) := cellB q 3
          have d4 : w1.cell? ⟨w.heap.size, 4, none⟩ = some (.bool false) := cellB q 4
          have z0 := frozenB q 0
          have z1 := frozenB q 1
          have z2 := frozenB q 2
          have z3 := frozenB q 3
          have z4 := frozenB q 4
          have zl : w.heap.size < w1.heap.size := (Array.getElem?_eq_some_iff.1 q).1
          clear x0 x1 x2 x3 x4 xg HC HBX HQX KE hb1 q
          go_wp2
          refine bodyPost_ret (v := .tuple #[.agg #[.int .i64 S.pos, .slice ab S.bytes.length cb, .int .i64 S.zeros, .bool S.writes, .bool S.works], .bool true]) (by simp [results, Try.results46, go_sem, d0, d1, d2, d3, d4]) rfl ?_
          have hE := below5 HB1.out (Nat.le_refl _) (.int .i64 S.pos) (.slice ab S.bytes.length cb) (.int .i64 S.zeros) (.bool S.writes) (.bool S.works)
          exact ⟨hE, ab, cb, rfl, HY.out.later hE⟩
        · have hsF : hs = false := by rw [HH.out]; simp [h2]
          subst hsF
          have HR3 : Hid (I = (k + 1) + M.segIx (l.drop (k + 1)) at_) := by rw [Hid, HR2.out, if_neg (by decide)]; omega
          clear HR2 HI HH HY
          go_wp2_with (go_at_call 56; refine (KE.out _).mono ?_; rintro e w1 ⟨rfl, hb1⟩)
          go_roundw
          case rel => exact ⟨k + 1, by omega, by go_num, HBX.out.trans (hb1.mono HBX.out.size), (hb1.block _ (Array.getElem?_eq_some_iff.1 HQX.out).1).trans HQX.out, HR3⟩
          case measure => simp [intOf]; omega
      · have hsF : hs = false := by rw [HH.out]; simp [h1]
        subst hsF
        have HR3 : Hid (I = (k + 1) + M.segIx (l.drop (k + 1)) at_) := by rw [Hid, HR2.out, if_neg (by decide)]; omega
        clear HR2 HI HH HY KE
        go_wp2_with fail
        go_roundw
        case rel => exact ⟨k + 1, by omega, by go_num, HBX, HQX, HR3⟩
        case measure => simp [intOf]; omega
    · have hkl : k = l.length := by omega
      subst hkl
      obtain ⟨hT, hSg⟩ := HI2.out (by rw [HR.out, List.drop_length]; rfl)
      subst hT hSg
      have q := HQ.out
      have d0 : wr.cell? ⟨w.heap.size, 0, none⟩ = some (.int .i64 0) := cellB q 0
      have d1 : wr.cell? ⟨w.heap.size, 1, none⟩ = some (.slice none 0 0) := cellB q 1
      have d2 : wr.cell? ⟨w.heap.size, 2, none⟩ = some (.int .i64 0) := cellB q 2
      have d3 : wr.cell? ⟨w.heap.size, 3, none⟩ = some (.bool false) := cellB q 3
      have d4 : wr.cell? ⟨w.heap.size, 4, none⟩ = some (.bool false) := cellB q 4
      have z0 := frozenB q 0
      have z1 := frozenB q 1
      have z2 := frozenB q 2
      have z3 := frozenB q 3
      have z4 := frozenB q 4
      have zl : w.heap.size < wr.heap.size := (Array.getElem?_eq_some_iff.1 q).1
      clear HR HI1 HI2 q HQ
      go_wp2
      refine bodyPost_ret (v := .tuple #[.agg #[.int .i64 0, .slice none 0 0, .int .i64 0, .bool false, .bool false], .bool false]) (by simp [results, Try.results46, go_sem, d0, d1, d2, d3, d4]) rfl ?_
      have hE := below5 HB.out (Nat.le_refl _) (.int .i64 0) (.slice none 0 0) (.int .i64 0) (.bool false) (.bool false)
      exact ⟨hE, none, 0, rfl, bytes_nil _⟩

end Go.Proofs.Ytabkbicaignicaa

namespace Go.Proofs.Ytabkbicaignicaa
open Go Go.RowKit
set_option linter.unusedVariables false
attribute [local go_sem] lat_cell

theorem lwithin_iff {n a b : Int} : M.within n a b = true ↔ a ≤ n ∧ n ≤ b := by
  simp [M.within, Bool.and_eq_true, decide_eq_true_eq]
theorem SegsAt.small {w : World} {v : Value} {l : List M.Seg} (h : SegsAt w v l) : ∀ s ∈ l, ∀ b ∈ s.bytes, 0 ≤ b ∧ b < 256 := fun s hs => by
  obtain ⟨i, hi, rfl⟩ := List.getElem_of_mem hs
  obtain ⟨cell, _, h2⟩ := h
  have := (h2 i hi).bytes.2
  rwa [List.getD_eq_getElem?_getD, List.getElem?_eq_getElem hi] at this
theorem segAt_mem {l : List M.Seg} {a : Int} (h : M.thereAt l a = true) : M.segAt l a ∈ l := by
  unfold M.thereAt at h
  exact getD_mem l M.seg0 _ (of_decide_eq_true h)
theorem segAt_has {l : List M.Seg} {a : Int} (h : M.thereAt l a = true) : (M.segAt l a).pos ≤ a ∧ a < M.segEnd (M.segAt l a) := by
  have := M.has_at (l := l) (a := a) (by unfold M.thereAt at h; exact of_decide_eq_true h)
  unfold M.segHas at this
  simpa using this
theorem byteIn_none {l : List M.Seg} {a : Int} (h : M.thereAt l a = false) : M.byteIn l a = 0 ∧ M.segAt l a = M.seg0 := by
  have h1 : ¬ M.segIx l a < l.length := by unfold M.thereAt at h; exact of_decide_eq_false h
  have h2 : M.segAt l a = M.seg0 := by
    unfold M.segAt
    rw [List.getD_eq_getElem?_getD, List.getElem?_eq_none (by omega)]; rfl
  refine ⟨?_, h2⟩
  unfold M.byteIn M.byteOf
  rw [h2]
  split <;> rfl
theorem byteIn_range {l : List M.Seg} (h : ∀ s ∈ l, ∀ b ∈ s.bytes, 0 ≤ b ∧ b < 256) (a : Int) : 0 ≤ M.byteIn l a ∧ M.byteIn l a < 256 := by
  cases ht : M.thereAt l a
  · rw [(byteIn_none ht).1]; decide
  · have hs := segAt_mem ht
    unfold M.byteIn M.byteOf
    split
    · by_cases hk : (a - (M.segAt l a).pos).toNat < (M.segAt l a).bytes.length
      · exact h _ hs _ (getD_mem _ 0 _ hk)
      · rw [List.getD_eq_getElem?_getD, List.getElem?_eq_none (by omega)]; decide
    · decide

set_option maxHeartbeats 4000000 in
set_option maxRecDepth 100000 in
theorem byte_bad (m : M.Img) (at_ : Int) (a : Option Addr) (c : Nat) (w : World) (hS : SegsAt w (.slice a m.segs.length c) m.segs) (hc : M.chkImg m ≠ 0) :
    Calls Try.prog 20 #[.agg #[.int .i64 m.entry, .slice a m.segs.length c], .int .i64 at_] w fun e w' => e = .returned (.tuple #[.int .u8 0, .bool false, .bool false, .bool false, .int .i64 (M.chkImg m)]) ∧ Below w.heap.size w w' := by
  have hB : Below w.heap.size w (w.alloc (.cells #[.int .i64 m.entry, .slice a m.segs.length c] 28)) := (Below.refl _ _).alloc (Nat.le_refl _) _
  have KC : Hid (Calls Try.prog 18 #[.agg #[.int .i64 m.entry, .slice a m.segs.length c]] (w.alloc (.cells #[.int .i64 m.entry, .slice a m.segs.length c] 28)) _) := lcheck_any m a c _ (hS.later hB)
  clear hS
  generalize M.chkImg m = R at *
  have hc' : (R != 0) = true := by simpa using hc
  generalize m.segs.length = n at *
  generalize m.entry = en at *
  clear hc
  go_enter Try.func20, Try.ntmps20
  go_wp2_with (go_at_call 18; refine KC.out.mono ?_; rintro e w1 ⟨rfl, hb1⟩)
  refine bodyPost_ret (v := .tuple #[.int .u8 0, .bool false, .bool false, .bool false, .int .i64 R]) (by simp [results, Try.results20, go_sem]) rfl ?_
  exact ⟨rfl, hB.trans (hb1.mono hB.size)⟩

set_option maxHeartbeats 8000000 in
set_option maxRecDepth 100000 in
theorem byte_ok (m : M.Img) (at_ : Int) (a : Option Addr) (c : Nat) (w : World) (hS : SegsAt w (.slice a m.segs.length c) m.segs) (hc : M.chkImg m = 0) :
    Calls Try.prog 20 #[.agg #[.int .i64 m.entry, .slice a m.segs.length c], .int .i64 at_] w fun e w' => e = .returned (.tuple #[.int .u8 (M.byteIn m.segs at_), .bool (M.thereAt m.segs at_), .bool (M.segAt m.segs at_).writes, .bool (M.segAt m.segs at_).works, .int .i64 0]) ∧ Below w.heap.size w w' := by
  obtain ⟨W, HW⟩ : ∃ W, Hid (W = w.alloc (.cells #[.int .i64 m.entry, .slice a m.segs.length c] 28)) := ⟨_, rfl⟩
  have hB : Below w.heap.size w W := by rw [HW.out]; exact (Below.refl _ _).alloc (Nat.le_refl _) _
  have q : W.heap[w.heap.size]? = some (.cells #[.int .i64 m.entry, .slice a m.segs.length c] 28 (0, 0)) := by rw [HW.out]; exact heap_alloc_new _ _
  have KC : Hid (Calls Try.prog 18 #[.agg #[.int .i64 m.entry, .slice a m.segs.length c]] W fun e w' => e = .returned (.int .i64 0) ∧ Below W.heap.size W w') := by
    have := lcheck_any m a c W (hS.later hB)
    rwa [hc] at this
  have hfit := M.chkImg_fit hc
  have KS : Hid (∀ X, Below w.heap.size w X → _) := fun X hX => segmentAt_any m.segs at_ a c X (hS.later hX) hfit
  have HT : Hid (M.thereAt m.segs at_ = true → M.SegFit (M.segAt m.segs at_) ∧ (M.segAt m.segs at_).pos ≤ at_ ∧ at_ < M.segEnd (M.segAt m.segs at_)) := fun h => ⟨hfit _ (segAt_mem h), segAt_has h⟩
  have HN : Hid (M.thereAt m.segs at_ = false → M.byteIn m.segs at_ = 0 ∧ M.segAt m.segs at_ = M.seg0) := fun h => byteIn_none h
  have HBy : Hid (M.byteIn m.segs at_ = M.byteOf (M.segAt m.segs at_) at_) := rfl
  have HQ : Hid (∀ X, Below W.heap.size W X → X.cell? ⟨w.heap.size, 0, none⟩ = some (.int .i64 m.entry) ∧ X.cell? ⟨w.heap.size, 1, none⟩ = some (.slice a m.segs.length c) ∧ w.heap.size < X.heap.size) := fun X hX => by
    have y := (hX.block _ (Array.getElem?_eq_some_iff.1 q).1).trans q
    exact ⟨cellB y 0, cellB y 1, (Array.getElem?_eq_some_iff.1 y).1⟩
  obtain ⟨c0, c1, cl⟩ := HQ.out W (Below.refl _ _)
  have HB : Hid (Below w.heap.size w W) := hB
  clear hS hc hfit q hB
  generalize M.byteIn m.segs at_ = B at *
  generalize M.segAt m.segs at_ = S at *
  generalize M.thereAt m.segs at_ = T at *
  generalize m.segs.length = n at *
  generalize m.entry = en at *
  go_enter Try.func20, Try.ntmps20
  go_upto_region 1 with fail
  rw [← HW.out]
  clear HW
  go_upto_region 2 with (go_at_call 18; refine KC.out.mono ?_; rintro e w1 ⟨rfl, hb1⟩)
  obtain ⟨x0, x1, xl⟩ := HQ.out _ hb1
  have HB1 : Hid (Below w.heap.size w w1) := HB.out.trans (hb1.mono HB.out.size)
  clear c0 c1 cl KC hb1 HQ HB
  go_upto_region 5 with (go_at_call 46; refine (KS.out _ HB1.out).mono ?_; rintro e w2 ⟨hb2, ab, cb, rfl, hY⟩)
  have hXb : Below w2.heap.size w2 (w2.alloc (.cells #[.int .i64 S.pos, .slice ab S.bytes.length cb, .int .i64 S.zeros, .bool S.writes, .bool S.works] 62)) := (Below.refl _ _).alloc (Nat.le_refl _) _
  have hXq := heap_alloc_new w2 (.cells #[.int .i64 S.pos, .slice ab S.bytes.length cb, .int .i64 S.zeros, .bool S.writes, .bool S.works] 62)
  have HY : Hid (BytesAt (w2.alloc (.cells #[.int .i64 S.pos, .slice ab S.bytes.length cb, .int .i64 S.zeros, .bool S.writes, .bool S.works] 62)) (.slice ab S.bytes.length cb) S.bytes) := hY.later hXb
  have HB2 : Hid (Below w.heap.size w (w2.alloc (.cells #[.int .i64 S.pos, .slice ab S.bytes.length cb, .int .i64 S.zeros, .bool S.writes, .bool S.works] 62))) := (HB1.out.trans (hb2.mono HB1.out.size)).trans (hXb.mono (Nat.le_trans HB1.out.size hb2.size))
  clear hXb hY hb2 HB1 x0 x1 xl KS
  generalize w2.alloc (.cells #[.int .i64 S.pos, .slice ab S.bytes.length cb, .int .i64 S.zeros, .bool S.writes, .bool S.works] 62) = X at *
  generalize w2.heap.size = g at *
  have y0 := cellB hXq 0
  have y1 := cellB hXq 1
  have y2 := cellB hXq 2
  have y3 := cellB hXq 3
  have y4 := cellB hXq 4
  have yl : g < X.heap.size := (Array.getElem?_eq_some_iff.1 hXq).1
  simp at y0 y1 y2 y3 y4
  clear hXq
  cases T
  · obtain ⟨h1, h2⟩ := HN.out rfl
    subst h1 h2
    clear HN HT HBy HY
    go_wp2
    refine bodyPost_ret (v := .tuple #[.int .u8 0, .bool false, .bool false, .bool false, .int .i64 0]) (by simp [results, Try.results20, go_sem]) rfl ?_
    exact ⟨rfl, HB2.out⟩
  · obtain ⟨hf, hp, he⟩ := HT.out rfl
    have KB : Hid (∀ Z, Below X.heap.size X Z → Calls Try.prog 47 #[.agg #[.int .i64 S.pos, .slice ab S.bytes.length cb, .int .i64 S.zeros, .bool S.writes, .bool S.works], .int .i64 at_] Z fun e w' => e = .returned (.int .u8 B) ∧ Below Z.heap.size Z w') := fun Z hZ => by
      have := byteOf_any S at_ ab cb Z (HY.out.later hZ) ⟨hf.pos.1, hp⟩ (by have := hf.fin; omega)
      rwa [← HBy.out] at this
    clear HN HT HBy HY hf hp he
    go_wp2_with fail
    refine wp_region_lat (by kernel_rfl) (by kernel_rfl) ?_
    intro hne
    repeat (go_big_quiet_step ((go_at_call 47; exact lat_of (KB.out _ (Lat.below _)))))
    refine wpQuiet_nil ?_
    intro w3 hb3
    have hb4 := lat_out hb3
    clear hb3
    go_wp2
    refine bodyPost_ret (v := .tuple #[.int .u8 B, .bool true, .bool S.writes, .bool S.works, .int .i64 0]) (by simp [results, Try.results20, go_sem]) rfl ?_
    exact ⟨rfl, HB2.out.trans (hb4.mono HB2.out.size)⟩

end Go.Proofs.Ytabkbicaignicaa

namespace Go.Proofs.Ytabkbicaignicaa
open Go Go.RowKit
set_option linter.unusedVariables false

/-- what stands in the row behind k rounds -/
def rowK (l : List M.Seg) (a : Int) (n k : Nat) : List Int := (List.range n).map fun (i : Nat) => if i < k then M.byteIn l (a + (i : Int)) else 0
theorem rowK_len (l : List M.Seg) (a : Int) (n k : Nat) : (rowK l a n k).length = n := by simp [rowK]
theorem rowK_0 (l : List M.Seg) (a : Int) (n : Nat) : rowK l a n 0 = List.replicate n 0 := by
  refine List.ext_getElem (by simp [rowK]) fun i h1 h2 => ?_
  simp [rowK]
theorem rowK_n (l : List M.Seg) (a : Int) (n : Nat) : rowK l a n n = M.rowOf l a n := by
  refine List.ext_getElem (by simp [rowK, M.rowOf]) fun i h1 h2 => ?_
  have hi : i < n := by simpa [rowK] using h1
  simp [rowK, M.rowOf, hi]
theorem rowK_set (l : List M.Seg) (a : Int) (n k : Nat) : rowK l a n (k + 1) = (rowK l a n k).set k (M.byteIn l (a + (k : Int))) := by
  refine List.ext_getElem (by simp [rowK]) fun i h1 h2 => ?_
  rw [List.getElem_set]
  simp only [rowK, List.getElem_map, List.getElem_range]
  by_cases e : k = i
  · subst e; simp
  · rw [if_neg e]
    by_cases h : i < k
    · rw [if_pos h, if_pos (by omega)]
    · rw [if_neg h, if_neg (by omega)]
theorem rowK_range {l : List M.Seg} (h : ∀ s ∈ l, ∀ b ∈ s.bytes, 0 ≤ b ∧ b < 256) (a : Int) (n k : Nat) : ∀ b ∈ rowK l a n k, 0 ≤ b ∧ b < 256 := fun b hb => by
  obtain ⟨i, _, rfl⟩ := List.mem_map.1 hb
  split
  · exact byteIn_range h _
  · decide

def encB (l : List Int) : List Value := l.map (Value.int .u8)
theorem made8 (n : Nat) : (madeCells (Value.int .u8 0).cells (n * 1)).toList = encB (List.replicate n (0 : Int)) := by
  refine List.ext_getElem (by simp [madeCells, encB]) fun i h1 h2 => ?_
  simp [madeCells, Value.cells, Nat.mod_one, encB]
theorem row_bytes {w : World} {B : Nat} {t : TypeId} {fr : Nat × Nat} {bs : List Int} (hb : ∀ b ∈ bs, 0 ≤ b ∧ b < 256) (hl : bs.length ≤ maxLen) (h : w.heap[B]? = some (.cells (encB bs).toArray t fr)) (c : Nat) :
    BytesAt w (.slice (some ⟨B, 0, none⟩) bs.length c) bs := by
  refine ⟨⟨_, _, rfl, hl, .inr ⟨B, 0, rfl, fun j i hj hi => ?_⟩⟩, hb⟩
  have e : 0 + j * 1 + i = j := by omega
  rw [e, cellB h]
  simp [hj, encB]
theorem encB_set (l : List Int) (k : Nat) (b : Int) : (encB l).toArray.setIfInBounds k (Value.int .u8 b) = (encB (l.set k b)).toArray := by
  unfold encB
  rw [List.map_set]; simp

theorem rangeErr_bad {m : M.Img} {a n : Int} (h : M.chkImg m ≠ 0) : M.rangeErr m a n = M.chkImg m ∧ M.range m a n = [] := by
  have h1 : M.rangeErr m a n = M.chkImg m := by unfold M.rangeErr; rw [if_neg h]
  exact ⟨h1, by unfold M.range; rw [h1, if_neg h]⟩
theorem rangeErr_3 {m : M.Img} {a n : Int} (h : M.chkImg m = 0) (h2 : ¬ (M.within a 0 65536 = true ∧ M.within n 0 64 = true)) : M.rangeErr m a n = 3 ∧ M.range m a n = [] := by
  have h1 : M.rangeErr m a n = 3 := by
    unfold M.rangeErr
    rw [if_pos h]
    split
    · rename_i h3
      rw [if_neg (fun h4 => h2 ⟨h3, h4⟩)]
    · rfl
  exact ⟨h1, by unfold M.range; rw [h1, if_neg (by decide)]⟩
theorem rangeErr_5 {m : M.Img} {a : Int} {n k : Nat} (h : M.chkImg m = 0) (h1 : M.within a 0 65536 = true) (h2 : M.within (n : Int) 0 64 = true) (hk : k < n) (ht : M.thereAt m.segs (a + (k : Int)) = false) : M.rangeErr m a n = 5 ∧ M.range m a n = [] := by
  have h3 : M.rangeErr m a n = 5 := by
    unfold M.rangeErr
    rw [if_pos h, if_pos h1, if_pos h2, if_neg]
    intro h4
    have := List.all_eq_true.1 h4 k (by simpa using hk)
    rw [ht] at this
    cases this
  exact ⟨h3, by unfold M.range; rw [h3, if_neg (by decide)]⟩
theorem rangeErr_0 {m : M.Img} {a : Int} {n : Nat} (h : M.chkImg m = 0) (h1 : M.within a 0 65536 = true) (h2 : M.within (n : Int) 0 64 = true) (ht : ∀ k, k < n → M.thereAt m.segs (a + (k : Int)) = true) : M.rangeErr m a n = 0 ∧ M.range m a n = M.rowOf m.segs a n := by
  have h3 : M.rangeErr m a n = 0 := by
    unfold M.rangeErr
    rw [if_pos h, if_pos h1, if_pos h2, if_pos]
    refine List.all_eq_true.2 fun k hk => ht k (by simpa using hk)
  exact ⟨h3, by unfold M.range; rw [h3, if_pos rfl]; simp⟩

set_option maxHeartbeats 8000000 in
set_option maxRecDepth 100000 in
theorem lrange_any (m : M.Img) (at_ n : Int) (a : Option Addr) (c : Nat) (w : World) (hS : SegsAt w (.slice a m.segs.length c) m.segs) :
    Calls Try.prog 13 #[.agg #[.int .i64 m.entry, .slice a m.segs.length c], .int .i64 at_, .int .i64 n] w fun e w' => Below w.heap.size w w' ∧ ∃ x y, e = .returned (.tuple #[.slice x (M.range m at_ n).length y, .int .i64 (M.rangeErr m at_ n)]) ∧ BytesAt w' (.slice x (M.range m at_ n).length y) (M.range m at_ n) := by
  obtain ⟨W, HW⟩ : ∃ W, Hid (W = w.alloc (.cells #[.int .i64 m.entry, .slice a m.segs.length c] 28)) := ⟨_, rfl⟩
  have hB : Below w.heap.size w W := by rw [HW.out]; exact (Below.refl _ _).alloc (Nat.le_refl _) _
  have q : W.heap[w.heap.size]? = some (.cells #[.int .i64 m.entry, .slice a m.segs.length c] 28 (0, 0)) := by rw [HW.out]; exact heap_alloc_new _ _
  have KC : Hid (Calls Try.prog 18 #[.agg #[.int .i64 m.entry, .slice a m.segs.length c]] W fun e w' => e = .returned (.int .i64 (M.chkImg m)) ∧ Below W.heap.size W w') := lcheck_any m a c W (hS.later hB)
  have HQ : Hid (∀ X, Below W.heap.size W X → X.cell? ⟨w.heap.size, 0, none⟩ = some (.int .i64 m.entry) ∧ X.cell? ⟨w.heap.size, 1, none⟩ = some (.slice a m.segs.length c) ∧ w.heap.size < X.heap.size) := fun X hX => by
    have y := (hX.block _ (Array.getElem?_eq_some_iff.1 q).1).trans q
    exact ⟨cellB y 0, cellB y 1, (Array.getElem?_eq_some_iff.1 y).1⟩
  have HQ0 : Hid (W.heap[w.heap.size]? = some (.cells #[.int .i64 m.entry, .slice a m.segs.length c] 28 (0, 0))) := q
  obtain ⟨c0, c1, cl⟩ := HQ.out W (Below.refl _ _)
  have HB : Hid (Below w.heap.size w W) := hB
  have KW : ∀ (n a b : Int) (W : World), Calls Try.prog 45 #[.int .i64 n, .int .i64 a, .int .i64 b] W fun e w' => e = .returned (.bool (M.within n a b)) ∧ W = w' := fun n a b W => (lwithin_any n a b W).mono fun e w' h => ⟨h.1, h.2.symm⟩
  clear q hB
  by_cases hc : M.chkImg m = 0
  · rw [hc] at KC
    by_cases hr : M.within at_ 0 65536 = true ∧ M.within n 0 64 = true
    · obtain ⟨hr1, hr2⟩ := hr
      have ha := lwithin_iff.1 hr1
      have hn := lwithin_iff.1 hr2
      obtain ⟨N, rfl⟩ : ∃ N : Nat, n = N := ⟨n.toNat, by omega⟩
      have hfit := M.chkImg_fit hc
      have HSm : Hid _ := hS.small
      have H5 : Hid (∀ k, k < N → M.thereAt m.segs (at_ + (k : Int)) = false → M.rangeErr m at_ N = 5 ∧ M.range m at_ N = []) := fun k hk h => rangeErr_5 hc hr1 hr2 hk h
      have H0 : Hid ((∀ k, k < N → M.thereAt m.segs (at_ + (k : Int)) = true) → M.rangeErr m at_ N = 0 ∧ M.range m at_ N = M.rowOf m.segs at_ N) := fun h => rangeErr_0 hc hr1 hr2 h
      have KS : Hid (∀ (t : Int) X, Below w.heap.size w X → _) := fun t X hX => segmentAt_any m.segs t a c X (hS.later hX) hfit
      have HT : Hid (∀ t, M.thereAt m.segs t = true → M.SegFit (M.segAt m.segs t) ∧ (M.segAt m.segs t).pos ≤ t ∧ t < M.segEnd (M.segAt m.segs t)) := fun t h => ⟨hfit _ (segAt_mem h), segAt_has h⟩
      clear hS hc hfit
      generalize M.range m at_ N = RR at *
      generalize M.rangeErr m at_ N = RE at *
      obtain ⟨en, l⟩ := m
      simp only at *
      go_enter Try.func13, Try.ntmps13
      go_upto_region 1 with fail
      rw [← HW.out]
      clear HW
      go_upto_region 2 with (go_at_call 18; refine KC.out.mono ?_; rintro e w1 ⟨rfl, hb1⟩)
      have HB1 : Hid (Below w.heap.size w w1) := HB.out.trans (hb1.mono HB.out.size)
      have HQ1 : Hid (w1.heap[w.heap.size]? = some (.cells #[.int .i64 en, .slice a l.length c] 28 (0, 0))) := (hb1.block _ cl).trans HQ0.out
      have hw1 : w.heap.size < w1.heap.size := (Array.getElem?_eq_some_iff.1 HQ1.out).1
      clear c0 c1 cl KC hb1 HQ HB HQ0
      obtain ⟨i1, hi1, hy0, hy1, hy2⟩ := info_parts (P := Try.prog) (e := 5) (z := .int .u8 0) (size := 1) (bytes := 1) (by kernel_rfl)
      obtain ⟨w2, hmk, hrow, hgr⟩ := run_make_full w1 w1.heap.size 43 5 i1 (.int .u8 0) 1 Try.underlying43 hi1 hy0 hy1 .i64 .i64 N (by rw [hy2]; omega) (by unfold maxLen; omega) (Nat.le_refl _)
      have hB2 : Below w1.heap.size w1 w2 := (Below.refl _ _).grown hgr (Nat.le_refl _) (fun k hk => by cases hk)
      have hq2 : w2.heap[w1.heap.size]? = some (.cells (encB (rowK l at_ N 0)).toArray 5 (0, 0)) := by
        rw [rowK_0]
        rcases hrow.2 with ⟨h1, _⟩ | ⟨g, cap, cur, h1, _, h2, _, _, h5, h6⟩
        · cases h1
        · cases h1
          rw [made8] at h6
          have : cur.toList = encB (List.replicate N 0) := by
            have hcl : cur.toList.length = N := by simpa using h5
            rw [List.take_of_length_le (by rw [hcl]; simp)] at h6
            exact h6
          rw [← this]
          exact h2
      have HG2 : Hid (w2.heap[w1.heap.size]? = some (.cells (encB (rowK l at_ N 0)).toArray 5 (0, 0))) := hq2
      have HB2 : Hid (Below w.heap.size w w2) := HB1.out.trans (hB2.mono HB1.out.size)
      have HQ2 : Hid (w2.heap[w.heap.size]? = some (.cells #[.int .i64 en, .slice a l.length c] 28 (0, 0))) := (hB2.block _ hw1).trans HQ1.out
      have hwg : w.heap.size < w1.heap.size := hw1
      clear hrow hgr hB2 hq2 HB1 HQ1
      go_wp2_with (go_at_call 45; refine (KW _ _ _ _).mono ?_; rintro e w' ⟨rfl, rfl⟩)
      clear hmk hi1 hy0 hy1 hy2 hr1 hr2
      generalize w1.heap.size = G at *
      go_loopw [29] (fun s29 wr => ∃ (k : Nat), k ≤ N ∧ s29 = .int .i64 k ∧ Hid (Below w.heap.size w wr) ∧ Hid (wr.heap[w.heap.size]? = some (.cells #[.int .i64 en, .slice a l.length c] 28 (0, 0))) ∧ Hid (wr.heap[G]? = some (.cells (encB (rowK l at_ N k)).toArray 5 (0, 0))) ∧ Hid (∀ j, j < k → M.thereAt l (at_ + (j : Int)) = true)) (fun s29 _ => N - (intOf s29).toNat)
      case atStart => exact ⟨0, Nat.zero_le _, rfl, HB2, HQ2, HG2, fun j hj => absurd hj (Nat.not_lt_zero j)⟩
      case round =>
        obtain ⟨k, hk, rfl, HB, HQ, HG, HTh⟩ := hrel
        clear HB2 HQ2 HG2
        have c1 : wr.cell? ⟨w.heap.size, 1, none⟩ = some (.slice a l.length c) := cellB HQ.out 1
        have cl : w.heap.size < wr.heap.size := (Array.getElem?_eq_some_iff.1 HQ.out).1
        by_cases hlt : k < N
        · have hkl : (k : Int) < (N : Int) := by omega
          have HK := KS.out (at_ + (k : Int))
          have HT2 : Hid _ := HT.out (at_ + (k : Int))
          have H5' : Hid _ := H5.out k hlt
          have HSet : Hid (rowK l at_ N (k + 1) = (rowK l at_ N k).set k (M.byteIn l (at_ + (k : Int)))) := rowK_set l at_ N k
          have HBy : Hid (M.byteIn l (at_ + (k : Int)) = M.byteOf (M.segAt l (at_ + (k : Int))) (at_ + (k : Int))) := rfl
          have HTn : Hid (M.thereAt l (at_ + (k : Int)) = true → ∀ j, j < k + 1 → M.thereAt l (at_ + (j : Int)) = true) := fun h j hj => by
            by_cases e : j = k
            · subst e; exact h
            · exact HTh.out j (by omega)
          have HK' : Hid _ := HK
          clear HK HTh
          have hwr : IntKind.i64.wrap (at_ + (k : Int)) = at_ + (k : Int) := by rw [IntKind.wrap_i64]; omega
          have htl : at_ + (k : Int) ≤ 1000000 := by omega
          generalize M.byteIn l (at_ + (k : Int)) = B at *
          generalize M.segAt l (at_ + (k : Int)) = S at *
          generalize hTe : M.thereAt l (at_ + (k : Int)) = T at *
          clear hTe
          go_upto_region 11 with (go_at_call 46; refine (HK'.out _ HB.out).mono ?_; rintro e w3 ⟨hb3, ab, cb, rfl, hY⟩)
          have hXb : Below w3.heap.size w3 (w3.alloc (.cells #[.int .i64 S.pos, .slice ab S.bytes.length cb, .int .i64 S.zeros, .bool S.writes, .bool S.works] 62)) := (Below.refl _ _).alloc (Nat.le_refl _) _
          have hXq := heap_alloc_new w3 (.cells #[.int .i64 S.pos, .slice ab S.bytes.length cb, .int .i64 S.zeros, .bool S.writes, .bool S.works] 62)
          have hb4 : Below wr.heap.size wr (w3.alloc (.cells #[.int .i64 S.pos, .slice ab S.bytes.length cb, .int .i64 S.zeros, .bool S.writes, .bool S.works] 62)) := hb3.trans (hXb.mono hb3.size)
          have HY : Hid (BytesAt (w3.alloc (.cells #[.int .i64 S.pos, .slice ab S.bytes.length cb, .int .i64 S.zeros, .bool S.writes, .bool S.works] 62)) (.slice ab S.bytes.length cb) S.bytes) := hY.later hXb
          clear hXb hY hb3
          generalize w3.alloc (.cells #[.int .i64 S.pos, .slice ab S.bytes.length cb, .int .i64 S.zeros, .bool S.writes, .bool S.works] 62) = X at *
          generalize w3.heap.size = g at *
          have HBX : Hid (Below w.heap.size w X) := HB.out.trans (hb4.mono HB.out.size)
          have HQX : Hid (X.heap[w.heap.size]? = some (.cells #[.int .i64 en, .slice a l.length c] 28 (0, 0))) := (hb4.block _ cl).trans HQ.out
          have HGX : Hid (X.heap[G]? = some (.cells (encB (rowK l at_ N k)).toArray 5 (0, 0))) := (hb4.block _ (Array.getElem?_eq_some_iff.1 HG.out).1).trans HG.out
          have y0 := cellB hXq 0
          have y1 := cellB hXq 1
          have y2 := cellB hXq 2
          have y3 := cellB hXq 3
          have y4 := cellB hXq 4
          have yl : g < X.heap.size := (Array.getElem?_eq_some_iff.1 hXq).1
          simp at y0 y1 y2 y3 y4
          clear hXq hb4 HB HQ HG c1 cl HK'
          cases T
          · obtain ⟨h1, h2⟩ := H5'.out rfl
            subst h1 h2
            clear H5' HT2 HTn HSet HBy HY H5 H0 HGX HQX
            go_wp2
            go_ret2
            exact ⟨HBX.out, none, 0, rfl, bytes_nil _⟩
          · obtain ⟨hf, hp, he⟩ := HT2.out rfl
            have KB : Hid (Calls Try.prog 47 #[.agg #[.int .i64 S.pos, .slice ab S.bytes.length cb, .int .i64 S.zeros, .bool S.writes, .bool S.works], .int .i64 (at_ + (k : Int))] X fun e w' => e = .returned (.int .u8 B) ∧ Below X.heap.size X w') := by
              have := byteOf_any S (at_ + (k : Int)) ab cb X HY.out ⟨hf.pos.1, hp⟩ htl
              rwa [← HBy.out] at this
            have HTk : Hid _ := HTn.out rfl
            clear H5' HT2 HTn HBy HY hf hp he
            have hGl : (encB (rowK l at_ N k)).toArray.size = N := by simp [encB, rowK]
            have HCk : Hid (∀ Z, Below X.heap.size X Z → ∃ u, Z.cell? ⟨G, k, none⟩ = some u ∧ Z.frozen? ⟨G, k, none⟩ = false ∧ G < Z.heap.size) := fun Z hZ => by
              have qz := (hZ.block _ (Array.getElem?_eq_some_iff.1 HGX.out).1).trans HGX.out
              exact ⟨(encB (rowK l at_ N k)).toArray[k]'(by omega), by rw [cellB qz, Array.getElem?_eq_getElem], frozenB qz k, (Array.getElem?_eq_some_iff.1 qz).1⟩
            clear hGl
            go_wp2_with (go_at_call 47; refine KB.out.mono ?_; rintro e w4 ⟨rfl, hb4⟩; obtain ⟨u, hu1, hu2, hu3⟩ := HCk.out _ hb4)
            go_roundw
            case rel =>
              have hqz := (hb4.block _ (Array.getElem?_eq_some_iff.1 HGX.out).1).trans HGX.out
              have hqm := (hb4.block _ (Array.getElem?_eq_some_iff.1 HQX.out).1).trans HQX.out
              have hbz := HBX.out.trans (hb4.mono HBX.out.size)
              refine ⟨k + 1, by omega, by go_num, hbz.setCell (by show w.heap.size ≤ G; omega) _, (Below.heap_setCell _ _ _ _ (by show w.heap.size ≠ G; omega)).trans hqm, ?_, HTk⟩
              rw [Hid, HSet.out, ← encB_set]
              first | exact setB' hqz _ | (rw [Nat.zero_add]; exact setB' hqz _)
            case measure => simp [intOf]; omega
        · have hkl : k = N := by omega
          subst hkl
          obtain ⟨h1, h2⟩ := H0.out HTh.out
          have h3 : RR = rowK l at_ k k := by rw [h2, rowK_n]
          clear h2
          subst h1 h3
          have hlen := rowK_len l at_ k k
          have hrow := row_bytes (rowK_range HSm.out at_ k k) (by rw [hlen]; unfold maxLen; omega) HG.out k
          have HRow : Hid (BytesAt wr (.slice (some ⟨G, 0, none⟩) (rowK l at_ k k).length k) (rowK l at_ k k)) := hrow
          clear hrow H0 H5 HTh HT KS
          go_wp2
          go_ret2
          exact ⟨HB.out, some ⟨G, 0, none⟩, k, by rw [hlen]; rfl, HRow.out⟩
    · obtain ⟨h1, h2⟩ := rangeErr_3 (a := at_) (n := n) hc hr
      rw [h1, h2]
      have hcase : M.within at_ 0 65536 = false ∨ (M.within at_ 0 65536 = true ∧ M.within n 0 64 = false) := by
        cases h3 : M.within at_ 0 65536
        · exact .inl rfl
        · cases h4 : M.within n 0 64
          · exact .inr ⟨rfl, rfl⟩
          · exact absurd ⟨h3, h4⟩ hr
      clear hr h1 h2 hS hc
      generalize m.segs.length = nl at *
      generalize m.entry = en at *
      rcases hcase with h3 | ⟨h3, h4⟩
      · go_enter Try.func13, Try.ntmps13
        go_upto_region 1 with fail
        rw [← HW.out]
        clear HW
        go_wp2_with (first | (go_at_call 18; refine KC.out.mono ?_; rintro e w1 ⟨rfl, hb1⟩) | (go_at_call 45; refine (KW _ _ _ _).mono ?_; rintro e w' ⟨rfl, rfl⟩))
        go_ret2
        exact ⟨HB.out.trans (hb1.mono HB.out.size), none, 0, rfl, bytes_nil _⟩
      · go_enter Try.func13, Try.ntmps13
        go_upto_region 1 with fail
        rw [← HW.out]
        clear HW
        go_wp2_with (first | (go_at_call 18; refine KC.out.mono ?_; rintro e w1 ⟨rfl, hb1⟩) | (go_at_call 45; refine (KW _ _ _ _).mono ?_; rintro e w' ⟨rfl, rfl⟩))
        go_ret2
        exact ⟨HB.out.trans (hb1.mono HB.out.size), none, 0, rfl, bytes_nil _⟩
  · obtain ⟨h1, h2⟩ := rangeErr_bad (a := at_) (n := n) hc
    rw [h1, h2]
    clear h1 h2 hS
    generalize M.chkImg m = R at *
    have hc' : (R != 0) = true := by simpa using hc
    generalize m.segs.length = nl at *
    generalize m.entry = en at *
    clear hc
    go_enter Try.func13, Try.ntmps13
    go_upto_region 1 with fail
    rw [← HW.out]
    clear HW
    go_wp2_with (go_at_call 18; refine KC.out.mono ?_; rintro e w1 ⟨rfl, hb1⟩)
    go_ret2
    exact ⟨HB.out.trans (hb1.mono HB.out.size), none, 0, rfl, bytes_nil _⟩

end Go.Proofs.Ytabkbicaignicaa
