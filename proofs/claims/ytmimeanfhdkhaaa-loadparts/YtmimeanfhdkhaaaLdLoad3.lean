/-
  The contracts of load.segmentAt and load.Byte.
-/
import Derived.Test.YtmimeanfhdkhaaaLdLoad2
import Derived.Test.YtmimeanfhdkhaaaLater
namespace Go.Proofs.Ytmimeanfhdkhaaa
open Go Go.RowKit
set_option linter.unusedVariables false

def segZA : Array Value := #[.int .i64 0, .slice none 0 0, .int .i64 0, .bool false, .bool false]

theorem segIx_end {l : List M.Seg} {a : Int} (h : M.segIx l a = l.length) : M.thereAt l a = false ∧ M.segAt l a = M.seg0 := by
  refine ⟨by unfold M.thereAt; rw [h]; simp, ?_⟩
  unfold M.segAt
  rw [h, List.getD_eq_getElem?_getD, List.getElem?_eq_none (Nat.le_refl _)]; rfl
theorem segIx_found {l : List M.Seg} {a : Int} {k : Nat} (hk : k < l.length) (h : M.segIx l a = k) : M.thereAt l a = true ∧ M.segAt l a = l.getD k M.seg0 := by
  refine ⟨by unfold M.thereAt; rw [h]; simpa using hk, ?_⟩
  unfold M.segAt
  rw [h]
theorem bytes_nil (w : World) : BytesAt w (.slice none 0 0) [] := ⟨⟨none, 0, rfl, Nat.zero_le _, .inl rfl⟩, fun b hb => by cases hb⟩

theorem store5 (W : World) (g : Nat) (c0 c1 c2 c3 c4 a0 a1 a2 a3 a4 : Value) (t : TypeId) (h : W.heap[g]? = some (.cells #[c0, c1, c2, c3, c4] t (0, 0))) :
    (((((W.setCell ⟨g, 0, none⟩ a0).setCell ⟨g, 1, none⟩ a1).setCell ⟨g, 2, none⟩ a2).setCell ⟨g, 3, none⟩ a3).setCell ⟨g, 4, none⟩ a4).heap[g]? = some (.cells #[a0, a1, a2, a3, a4] t (0, 0)) := by
  have h0 : (W.setCell ⟨g, 0, none⟩ a0).heap[g]? = some (.cells #[a0, c1, c2, c3, c4] t (0, 0)) := setB' h a0
  have h1 : ((W.setCell ⟨g, 0, none⟩ a0).setCell ⟨g, 1, none⟩ a1).heap[g]? = some (.cells #[a0, a1, c2, c3, c4] t (0, 0)) := setB' h0 a1
  have h2 : (((W.setCell ⟨g, 0, none⟩ a0).setCell ⟨g, 1, none⟩ a1).setCell ⟨g, 2, none⟩ a2).heap[g]? = some (.cells #[a0, a1, a2, c3, c4] t (0, 0)) := setB' h1 a2
  have h3 : ((((W.setCell ⟨g, 0, none⟩ a0).setCell ⟨g, 1, none⟩ a1).setCell ⟨g, 2, none⟩ a2).setCell ⟨g, 3, none⟩ a3).heap[g]? = some (.cells #[a0, a1, a2, a3, c4] t (0, 0)) := setB' h2 a3
  exact setB' h3 a4
theorem below5 {w W : World} {g : Nat} (hb : Below w.heap.size w W) (hg : w.heap.size ≤ g) (a0 a1 a2 a3 a4 : Value) :
    Below w.heap.size w (((((W.setCell ⟨g, 0, none⟩ a0).setCell ⟨g, 1, none⟩ a1).setCell ⟨g, 2, none⟩ a2).setCell ⟨g, 3, none⟩ a3).setCell ⟨g, 4, none⟩ a4) :=
  ((((hb.setCell (p := ⟨g, 0, none⟩) hg a0).setCell (p := ⟨g, 1, none⟩) hg a1).setCell (p := ⟨g, 2, none⟩) hg a2).setCell (p := ⟨g, 3, none⟩) hg a3).setCell (p := ⟨g, 4, none⟩) hg a4

set_option maxHeartbeats 8000000 in
set_option maxRecDepth 100000 in
theorem segmentAt_any (l : List M.Seg) (at_ : Int) (a : Option Addr) (c : Nat) (w : World) (hS : SegsAt w (.slice a l.length c) l) (hF : ∀ s ∈ l, M.SegFit s) :
    Calls Try.prog 27 #[.slice a l.length c, .int .i64 at_] w fun e w' => Below w.heap.size w w' ∧ ∃ ab cb, e = .returned (.tuple #[.agg #[.int .i64 (M.segAt l at_).pos, .slice ab (M.segAt l at_).bytes.length cb, .int .i64 (M.segAt l at_).zeros, .bool (M.segAt l at_).writes, .bool (M.segAt l at_).works], .bool (M.thereAt l at_)]) ∧ BytesAt w' (.slice ab (M.segAt l at_).bytes.length cb) (M.segAt l at_).bytes := by
  have hl : l.length ≤ maxLen := by obtain ⟨_, _, _, h⟩ := hS.form; exact h
  unfold maxLen at hl
  have HS : Hid (SegsAt w (.slice a l.length c) l) := hS
  have HF : Hid (∀ s ∈ l, M.SegFit s) := hF
  have HX : Hid (M.segIx l at_ = 0 + M.segIx (l.drop 0) at_) := by rw [Hid, List.drop_zero, Nat.zero_add]
  have HI1 : Hid (∀ k, k < l.length → M.segIx l at_ = k → M.thereAt l at_ = true ∧ M.segAt l at_ = l.getD k M.seg0) := fun k hk h => segIx_found hk h
  have HI2 : Hid (M.segIx l at_ = l.length → M.thereAt l at_ = false ∧ M.segAt l at_ = M.seg0) := fun h => segIx_end h
  clear hS hF
  generalize M.segAt l at_ = S at *
  generalize M.thereAt l at_ = T at *
  generalize M.segIx l at_ = I at *
  go_enter Try.func27, Try.ntmps27
  go_wp2_with fail
  have HA : Hid (Below w.heap.size w (w.alloc (.cells segZA 36)) ∧ (w.alloc (.cells segZA 36)).heap[w.heap.size]? = some (.cells segZA 36 (0, 0))) := ⟨(Below.refl _ _).alloc (Nat.le_refl _) _, heap_alloc_new _ _⟩
  go_loopw [10] (fun s10 wr => ∃ (k : Nat), k ≤ l.length ∧ s10 = .int .i64 k ∧ Hid (Below w.heap.size w wr) ∧ Hid (wr.heap[w.heap.size]? = some (.cells segZA 36 (0, 0))) ∧ Hid (I = k + M.segIx (l.drop k) at_)) (fun s10 _ => l.length - (intOf s10).toNat)
  case atStart => exact ⟨0, Nat.zero_le _, rfl, HA.out.1, HA.out.2, HX⟩
  case round =>
    obtain ⟨k, hk, rfl, HB, HQ, HR⟩ := hrel
    clear HA HX
    by_cases hlt : k < l.length
    · obtain ⟨b, off, ab, cb, hae, e0', e1', e2', e3', e4', hby⟩ := HS.out.cells k hlt
      subst hae
      have hkl : (k : Int) < (l.length : Int) := by omega
      have hb0 : b < w.heap.size := World.block_lt_of_cell? _ _ e0'
      have hbr : b < wr.heap.size := Nat.lt_of_lt_of_le hb0 HB.out.size
      have e0 := (HB.out.cell (p := ⟨b, off + k * 5, none⟩) hb0).trans e0'
      have e1 := (HB.out.cell (p := ⟨b, off + k * 5 + 1, none⟩) hb0).trans e1'
      have e2 := (HB.out.cell (p := ⟨b, off + k * 5 + 2, none⟩) hb0).trans e2'
      have e3 := (HB.out.cell (p := ⟨b, off + k * 5 + 3, none⟩) hb0).trans e3'
      have e4 := (HB.out.cell (p := ⟨b, off + k * 5 + 4, none⟩) hb0).trans e4'
      clear e0' e1' e2' e3' e4' hb0
      have HY : Hid (BytesAt w (.slice ab (l.getD k M.seg0).bytes.length cb) (l.getD k M.seg0).bytes) := hby
      have hfit := HF.out _ (getD_mem l M.seg0 k hlt)
      have HR1 := HR.out
      rw [M.segIx_drop hlt] at HR1
      have HR2 : Hid _ := HR1
      have HI : Hid _ := HI1.out k hlt
      have KE : Hid (∀ W, _) := fun W => endOf_any (l.getD k M.seg0) ab cb W hfit.pos hfit.len hfit.zeros
      have HH : Hid (M.segHas (l.getD k M.seg0) at_ = (decide ((l.getD k M.seg0).pos ≤ at_) && decide (at_ < M.segEnd (l.getD k M.seg0)))) := rfl
      clear HR HR1 hby hfit
      generalize M.segHas (l.getD k M.seg0) at_ = hs at *
      generalize M.segEnd (l.getD k M.seg0) = E at *
      generalize l.getD k M.seg0 = s at *
      go_upto_region 4 with fail
      have hXb : Below wr.heap.size wr (wr.alloc (.cells #[.int .i64 s.pos, .slice ab s.bytes.length cb, .int .i64 s.zeros, .bool s.writes, .bool s.works] 36)) := (Below.refl _ _).alloc (Nat.le_refl _) _
      have hXq := heap_alloc_new wr (.cells #[.int .i64 s.pos, .slice ab s.bytes.length cb, .int .i64 s.zeros, .bool s.writes, .bool s.works] 36)
      generalize wr.alloc (.cells #[.int .i64 s.pos, .slice ab s.bytes.length cb, .int .i64 s.zeros, .bool s.writes, .bool s.works] 36) = X at *
      have HBX : Hid (Below w.heap.size w X) := HB.out.trans (hXb.mono HB.out.size)
      have HQX : Hid (X.heap[w.heap.size]? = some (.cells segZA 36 (0, 0))) := (hXb.block _ (Array.getElem?_eq_some_iff.1 HQ.out).1).trans HQ.out
      have hne : w.heap.size ≠ wr.heap.size := Nat.ne_of_lt (Array.getElem?_eq_some_iff.1 HQ.out).1
      generalize wr.heap.size = g at *
      have HC : Hid (∀ W, Below X.heap.size X W → W.cell? ⟨g, 0, none⟩ = some (.int .i64 s.pos) ∧ W.cell? ⟨g, 1, none⟩ = some (.slice ab s.bytes.length cb) ∧ W.cell? ⟨g, 2, none⟩ = some (.int .i64 s.zeros) ∧ W.cell? ⟨g, 3, none⟩ = some (.bool s.writes) ∧ W.cell? ⟨g, 4, none⟩ = some (.bool s.works) ∧ g < W.heap.size) := fun W hW => by
        have q := (hW.block _ (Array.getElem?_eq_some_iff.1 hXq).1).trans hXq
        exact ⟨cellB q 0, cellB q 1, cellB q 2, cellB q 3, cellB q 4, (Array.getElem?_eq_some_iff.1 q).1⟩
      obtain ⟨x0, x1, x2, x3, x4, xg⟩ := HC.out X (Below.refl _ _)
      clear HB HQ hXb hXq e0 e1 e2 e3 e4 hbr
      by_cases h1 : s.pos ≤ at_
      · by_cases h2 : at_ < E
        · have hsT : hs = true := by rw [HH.out]; simp [h1, h2]
          subst hsT
          obtain ⟨hT, hSg⟩ := HI.out (by rw [HR2.out, if_pos rfl, Nat.add_zero])
          subst hT hSg
          clear HR2 HI HH HI1 HI2
          go_upto_region 5 with (go_at_call 31; refine (KE.out _).mono ?_; rintro e w1 ⟨rfl, hb1⟩)
          obtain ⟨y0, y1, y2, y3, y4, yg⟩ := HC.out _ hb1
          have HB1 : Hid (Below w.heap.size w w1) := HBX.out.trans (hb1.mono HBX.out.size)
          have q : w1.heap[w.heap.size]? = some (.cells segZA 36 (0, 0)) := (hb1.block _ (Array.getElem?_eq_some_iff.1 HQX.out).1).trans HQX.out
          have d0 : w1.cell? ⟨w.heap.size, 0, none⟩ = some (.int .i64 0) := cellB q 0
          have d1 : w1.cell? ⟨w.heap.size, 1, none⟩ = some (.slice none 0 0) := cellB q 1
          have d2 : w1.cell? ⟨w.heap.size, 2, none⟩ = some (.int .i64 0) := cellB q 2
          have d3 : w1.cell? ⟨w.heap.size, 3, none⟩ = some (.bool false) := cellB q 3
          have d4 : w1.cell? ⟨w.heap.size, 4, none⟩ = some (.bool false) := cellB q 4
          have z0 := frozenB q 0
          have z1 := frozenB q 1
          have z2 := frozenB q 2
          have z3 := frozenB q 3
          have z4 := frozenB q 4
          have zl : w.heap.size < w1.heap.size := (Array.getElem?_eq_some_iff.1 q).1
          clear x0 x1 x2 x3 x4 xg HC HBX HQX KE hb1 q
          go_wp2
          refine bodyPost_ret (v := .tuple #[.agg #[.int .i64 S.pos, .slice ab S.bytes.length cb, .int .i64 S.zeros, .bool S.writes, .bool S.works], .bool true]) (by simp [results, Try.results27, go_sem, d0, d1, d2, d3, d4]) rfl ?_
          have hE := below5 HB1.out (Nat.le_refl _) (.int .i64 S.pos) (.slice ab S.bytes.length cb) (.int .i64 S.zeros) (.bool S.writes) (.bool S.works)
          exact ⟨hE, ab, cb, rfl, HY.out.later hE⟩
        · have hsF : hs = false := by rw [HH.out]; simp [h2]
          subst hsF
          have HR3 : Hid (I = (k + 1) + M.segIx (l.drop (k + 1)) at_) := by rw [Hid, HR2.out, if_neg (by decide)]; omega
          clear HR2 HI HH HY
          go_wp2_with (go_at_call 31; refine (KE.out _).mono ?_; rintro e w1 ⟨rfl, hb1⟩)
          go_roundw
          case rel => exact ⟨k + 1, by omega, by go_num, HBX.out.trans (hb1.mono HBX.out.size), (hb1.block _ (Array.getElem?_eq_some_iff.1 HQX.out).1).trans HQX.out, HR3⟩
          case measure => simp [intOf]; omega
      · have hsF : hs = false := by rw [HH.out]; simp [h1]
        subst hsF
        have HR3 : Hid (I = (k + 1) + M.segIx (l.drop (k + 1)) at_) := by rw [Hid, HR2.out, if_neg (by decide)]; omega
        clear HR2 HI HH HY KE
        go_wp2_with fail
        go_roundw
        case rel => exact ⟨k + 1, by omega, by go_num, HBX, HQX, HR3⟩
        case measure => simp [intOf]; omega
    · have hkl : k = l.length := by omega
      subst hkl
      obtain ⟨hT, hSg⟩ := HI2.out (by rw [HR.out, List.drop_length]; rfl)
      subst hT hSg
      have q := HQ.out
      have d0 : wr.cell? ⟨w.heap.size, 0, none⟩ = some (.int .i64 0) := cellB q 0
      have d1 : wr.cell? ⟨w.heap.size, 1, none⟩ = some (.slice none 0 0) := cellB q 1
      have d2 : wr.cell? ⟨w.heap.size, 2, none⟩ = some (.int .i64 0) := cellB q 2
      have d3 : wr.cell? ⟨w.heap.size, 3, none⟩ = some (.bool false) := cellB q 3
      have d4 : wr.cell? ⟨w.heap.size, 4, none⟩ = some (.bool false) := cellB q 4
      have z0 := frozenB q 0
      have z1 := frozenB q 1
      have z2 := frozenB q 2
      have z3 := frozenB q 3
      have z4 := frozenB q 4
      have zl : w.heap.size < wr.heap.size := (Array.getElem?_eq_some_iff.1 q).1
      clear HR HI1 HI2 q HQ
      go_wp2
      refine bodyPost_ret (v := .tuple #[.agg #[.int .i64 0, .slice none 0 0, .int .i64 0, .bool false, .bool false], .bool false]) (by simp [results, Try.results27, go_sem, d0, d1, d2, d3, d4]) rfl ?_
      have hE := below5 HB.out (Nat.le_refl _) (.int .i64 0) (.slice none 0 0) (.int .i64 0) (.bool false) (.bool false)
      exact ⟨hE, none, 0, rfl, bytes_nil _⟩

end Go.Proofs.Ytmimeanfhdkhaaa
