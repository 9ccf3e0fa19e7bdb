/-
  The contracts of farm.Do and farm.Outcome.
-/
import Derived.Test.YtmlojlbmfceogaaFmHap
namespace Go.Proofs.Ytmlojlbmfceogaa
open Go Go.RowKit
set_option linter.unusedVariables false

theorem FmR.at {B : Nat} {W : World} {f : M.Farm} {x : Fd} {o : Fo} (h : FmR B W f x o) : FarmAt W f x :=
  ⟨row_parts h.rowP h.mapP h.ownP, row_nodes h.rowL, row_bools h.rowD, row_parts h.rowH h.mapH h.ownH, row_grants h.rowG, row_works h.rowW, row_net h.rowN h.mapN h.ownN⟩

set_option maxHeartbeats 16000000 in
set_option maxRecDepth 100000 in
theorem do_any (f : M.Farm) (x : Fd) (w : World) (hf : FarmAt w f x) (kd wk kk : Int) :
    Calls Try.prog 7 #[.agg #[.slice x.p f.parts.length x.pc, .slice x.l f.plan.length x.lc, .int .i64 f.now, .slice x.d f.done.length x.dc, .slice x.h f.got.length x.hc, .slice x.g f.grants.length x.gc, .slice x.k f.work.length x.kc, .slice x.n f.net.length x.nc], .agg #[.int .i64 kd, .int .i64 wk, .int .i64 kk]] w fun e w' => Below w.heap.size w w' ∧ ∃ y, e = .returned (.tuple #[.agg #[.slice y.p (M.step f ⟨kd, wk, kk⟩).1.parts.length y.pc, .slice y.l (M.step f ⟨kd, wk, kk⟩).1.plan.length y.lc, .int .i64 (M.step f ⟨kd, wk, kk⟩).1.now, .slice y.d (M.step f ⟨kd, wk, kk⟩).1.done.length y.dc, .slice y.h (M.step f ⟨kd, wk, kk⟩).1.got.length y.hc, .slice y.g (M.step f ⟨kd, wk, kk⟩).1.grants.length y.gc, .slice y.k (M.step f ⟨kd, wk, kk⟩).1.work.length y.kc, .slice y.n (M.step f ⟨kd, wk, kk⟩).1.net.length y.nc], .int .i64 (M.step f ⟨kd, wk, kk⟩).2]) ∧ FarmAt w' (M.step f ⟨kd, wk, kk⟩).1 y ∧ ((M.step f ⟨kd, wk, kk⟩).2 = 0 → ∃ o, FmR w.heap.size w' (M.step f ⟨kd, wk, kk⟩).1 y o) := by
  have hA : Below w.heap.size w (((w.alloc (.cells #[.slice x.p f.parts.length x.pc, .slice x.l f.plan.length x.lc, .int .i64 f.now, .slice x.d f.done.length x.dc, .slice x.h f.got.length x.hc, .slice x.g f.grants.length x.gc, .slice x.k f.work.length x.kc, .slice x.n f.net.length x.nc] 29)).alloc (.cells #[.int .i64 kd, .int .i64 wk, .int .i64 kk] 31)).alloc (.cells #[.slice none 0 0, .slice none 0 0, .int .i64 0, .slice none 0 0, .slice none 0 0, .slice none 0 0, .slice none 0 0, .slice none 0 0] 29)) := (((Below.refl _ _).alloc (Nat.le_refl _) _).alloc (by simp) _).alloc (by simp; omega) _
  have h0 : (((w.alloc (.cells #[.slice x.p f.parts.length x.pc, .slice x.l f.plan.length x.lc, .int .i64 f.now, .slice x.d f.done.length x.dc, .slice x.h f.got.length x.hc, .slice x.g f.grants.length x.gc, .slice x.k f.work.length x.kc, .slice x.n f.net.length x.nc] 29)).alloc (.cells #[.int .i64 kd, .int .i64 wk, .int .i64 kk] 31)).alloc (.cells #[.slice none 0 0, .slice none 0 0, .int .i64 0, .slice none 0 0, .slice none 0 0, .slice none 0 0, .slice none 0 0, .slice none 0 0] 29)).heap[w.heap.size]? = some (.cells #[.slice x.p f.parts.length x.pc, .slice x.l f.plan.length x.lc, .int .i64 f.now, .slice x.d f.done.length x.dc, .slice x.h f.got.length x.hc, .slice x.g f.grants.length x.gc, .slice x.k f.work.length x.kc, .slice x.n f.net.length x.nc] 29 (0, 0)) := (heap_alloc_old _ _ (by simp; omega)).trans ((heap_alloc_old _ _ (by simp)).trans (heap_alloc_new _ _))
  have h1 : (((w.alloc (.cells #[.slice x.p f.parts.length x.pc, .slice x.l f.plan.length x.lc, .int .i64 f.now, .slice x.d f.done.length x.dc, .slice x.h f.got.length x.hc, .slice x.g f.grants.length x.gc, .slice x.k f.work.length x.kc, .slice x.n f.net.length x.nc] 29)).alloc (.cells #[.int .i64 kd, .int .i64 wk, .int .i64 kk] 31)).alloc (.cells #[.slice none 0 0, .slice none 0 0, .int .i64 0, .slice none 0 0, .slice none 0 0, .slice none 0 0, .slice none 0 0, .slice none 0 0] 29)).heap[w.heap.size + 1]? = some (.cells #[.int .i64 kd, .int .i64 wk, .int .i64 kk] 31 (0, 0)) := (heap_alloc_old _ _ (by simp)).trans (by
    have := heap_alloc_new (w.alloc (.cells #[.slice x.p f.parts.length x.pc, .slice x.l f.plan.length x.lc, .int .i64 f.now, .slice x.d f.done.length x.dc, .slice x.h f.got.length x.hc, .slice x.g f.grants.length x.gc, .slice x.k f.work.length x.kc, .slice x.n f.net.length x.nc] 29)) (.cells #[.int .i64 kd, .int .i64 wk, .int .i64 kk] 31)
    simpa using this)
  have h2 : (((w.alloc (.cells #[.slice x.p f.parts.length x.pc, .slice x.l f.plan.length x.lc, .int .i64 f.now, .slice x.d f.done.length x.dc, .slice x.h f.got.length x.hc, .slice x.g f.grants.length x.gc, .slice x.k f.work.length x.kc, .slice x.n f.net.length x.nc] 29)).alloc (.cells #[.int .i64 kd, .int .i64 wk, .int .i64 kk] 31)).alloc (.cells #[.slice none 0 0, .slice none 0 0, .int .i64 0, .slice none 0 0, .slice none 0 0, .slice none 0 0, .slice none 0 0, .slice none 0 0] 29)).heap[w.heap.size + 1 + 1]? = some (.cells #[.slice none 0 0, .slice none 0 0, .int .i64 0, .slice none 0 0, .slice none 0 0, .slice none 0 0, .slice none 0 0, .slice none 0 0] 29 (0, 0)) := by
    have := heap_alloc_new ((w.alloc (.cells #[.slice x.p f.parts.length x.pc, .slice x.l f.plan.length x.lc, .int .i64 f.now, .slice x.d f.done.length x.dc, .slice x.h f.got.length x.hc, .slice x.g f.grants.length x.gc, .slice x.k f.work.length x.kc, .slice x.n f.net.length x.nc] 29)).alloc (.cells #[.int .i64 kd, .int .i64 wk, .int .i64 kk] 31)) (.cells #[.slice none 0 0, .slice none 0 0, .int .i64 0, .slice none 0 0, .slice none 0 0, .slice none 0 0, .slice none 0 0, .slice none 0 0] 29)
    simpa using this
  have HA : Hid (Below w.heap.size w (((w.alloc (.cells #[.slice x.p f.parts.length x.pc, .slice x.l f.plan.length x.lc, .int .i64 f.now, .slice x.d f.done.length x.dc, .slice x.h f.got.length x.hc, .slice x.g f.grants.length x.gc, .slice x.k f.work.length x.kc, .slice x.n f.net.length x.nc] 29)).alloc (.cells #[.int .i64 kd, .int .i64 wk, .int .i64 kk] 31)).alloc (.cells #[.slice none 0 0, .slice none 0 0, .int .i64 0, .slice none 0 0, .slice none 0 0, .slice none 0 0, .slice none 0 0, .slice none 0 0] 29))) := hA
  have HF : Hid (∀ W, Below w.heap.size w W → FarmAt W f x) := fun W hW => hf.later hW
  have HS : Hid (M.step f ⟨kd, wk, kk⟩ = if M.checkFarm f = 0 then (if (M.happen f ⟨kd, wk, kk⟩).2 = 0 then M.happen f ⟨kd, wk, kk⟩ else (M.farm0, (M.happen f ⟨kd, wk, kk⟩).2)) else (M.farm0, M.checkFarm f)) := rfl
  generalize M.step f ⟨kd, wk, kk⟩ = R at *
  clear hf hA
  go_enter Try.func7, Try.ntmps7
  go_upto_region 1 with fail
  obtain ⟨b0, hb0⟩ : ∃ b0, b0 = w.heap.size := ⟨_, rfl⟩
  obtain ⟨b1, hb1⟩ : ∃ b1, b1 = w.heap.size + 1 := ⟨_, rfl⟩
  obtain ⟨r, hr⟩ : ∃ r, r = w.heap.size + 1 + 1 := ⟨_, rfl⟩
  have Hr : Hid (w.heap.size ≤ r ∧ b0 ≠ r ∧ b1 ≠ r) := ⟨by omega, by omega, by omega⟩
  rw [← hr] at h2 ⊢
  rw [← hb1] at h1 ⊢
  rw [← hb0] at h0 ⊢
  clear hb0 hb1 hr
  generalize ((w.alloc (.cells #[.slice x.p f.parts.length x.pc, .slice x.l f.plan.length x.lc, .int .i64 f.now, .slice x.d f.done.length x.dc, .slice x.h f.got.length x.hc, .slice x.g f.grants.length x.gc, .slice x.k f.work.length x.kc, .slice x.n f.net.length x.nc] 29)).alloc (.cells #[.int .i64 kd, .int .i64 wk, .int .i64 kk] 31)).alloc (.cells #[.slice none 0 0, .slice none 0 0, .int .i64 0, .slice none 0 0, .slice none 0 0, .slice none 0 0, .slice none 0 0, .slice none 0 0] 29) = Z at *
  have KC : Hid (Calls Try.prog 9 #[.agg #[.slice x.p f.parts.length x.pc, .slice x.l f.plan.length x.lc, .int .i64 f.now, .slice x.d f.done.length x.dc, .slice x.h f.got.length x.hc, .slice x.g f.grants.length x.gc, .slice x.k f.work.length x.kc, .slice x.n f.net.length x.nc]] Z fun e w' => e = .returned (.int .i64 (M.checkFarm f)) ∧ Below Z.heap.size Z w') := farmCheck_any f x Z (HF.out Z HA.out)
  have c0 : Z.cell? ⟨b0, 0, none⟩ = some (.slice x.p f.parts.length x.pc) := cellB h0 0
  have c1 : Z.cell? ⟨b0, 1, none⟩ = some (.slice x.l f.plan.length x.lc) := cellB h0 1
  have c2 : Z.cell? ⟨b0, 2, none⟩ = some (.int .i64 f.now) := cellB h0 2
  have c3 : Z.cell? ⟨b0, 3, none⟩ = some (.slice x.d f.done.length x.dc) := cellB h0 3
  have c4 : Z.cell? ⟨b0, 4, none⟩ = some (.slice x.h f.got.length x.hc) := cellB h0 4
  have c5 : Z.cell? ⟨b0, 5, none⟩ = some (.slice x.g f.grants.length x.gc) := cellB h0 5
  have c6 : Z.cell? ⟨b0, 6, none⟩ = some (.slice x.k f.work.length x.kc) := cellB h0 6
  have c7 : Z.cell? ⟨b0, 7, none⟩ = some (.slice x.n f.net.length x.nc) := cellB h0 7
  have lb0 : b0 < Z.heap.size := (Array.getElem?_eq_some_iff.1 h0).1
  have HH0 : Hid (Z.heap[b0]? = some (.cells #[.slice x.p f.parts.length x.pc, .slice x.l f.plan.length x.lc, .int .i64 f.now, .slice x.d f.done.length x.dc, .slice x.h f.got.length x.hc, .slice x.g f.grants.length x.gc, .slice x.k f.work.length x.kc, .slice x.n f.net.length x.nc] 29 (0, 0)) ∧ Z.heap[b1]? = some (.cells #[.int .i64 kd, .int .i64 wk, .int .i64 kk] 31 (0, 0)) ∧ Z.heap[r]? = some (.cells #[.slice none 0 0, .slice none 0 0, .int .i64 0, .slice none 0 0, .slice none 0 0, .slice none 0 0, .slice none 0 0, .slice none 0 0] 29 (0, 0))) := ⟨h0, h1, h2⟩
  clear h0 h1 h2
  by_cases hck : M.checkFarm f = 0
  · have HS1 : Hid (R = if (M.happen f ⟨kd, wk, kk⟩).2 = 0 then M.happen f ⟨kd, wk, kk⟩ else (M.farm0, (M.happen f ⟨kd, wk, kk⟩).2)) := by rw [Hid, HS.out, if_pos hck]
    have hok := (M.farm_iff f).1 hck
    rw [hck] at KC
    clear HS hck
    go_upto_region 4 with (go_at_call 9; refine KC.out.mono ?_; rintro e X ⟨rfl, hbX⟩)
    obtain ⟨h0, h1, h2⟩ := HH0.out
    have x0 := (hbX.block _ (Array.getElem?_eq_some_iff.1 h0).1).trans h0
    have x1 := (hbX.block _ (Array.getElem?_eq_some_iff.1 h1).1).trans h1
    have x2 := (hbX.block _ (Array.getElem?_eq_some_iff.1 h2).1).trans h2
    have HX : Hid (Below w.heap.size w X) := HA.out.trans (hbX.mono HA.out.size)
    clear c0 c1 c2 c3 c4 c5 c6 c7 KC hbX h0 h1 h2 HH0 lb0
    have d0 : X.cell? ⟨b0, 0, none⟩ = some (.slice x.p f.parts.length x.pc) := cellB x0 0
    have d1 : X.cell? ⟨b0, 1, none⟩ = some (.slice x.l f.plan.length x.lc) := cellB x0 1
    have d2 : X.cell? ⟨b0, 2, none⟩ = some (.int .i64 f.now) := cellB x0 2
    have d3 : X.cell? ⟨b0, 3, none⟩ = some (.slice x.d f.done.length x.dc) := cellB x0 3
    have d4 : X.cell? ⟨b0, 4, none⟩ = some (.slice x.h f.got.length x.hc) := cellB x0 4
    have d5 : X.cell? ⟨b0, 5, none⟩ = some (.slice x.g f.grants.length x.gc) := cellB x0 5
    have d6 : X.cell? ⟨b0, 6, none⟩ = some (.slice x.k f.work.length x.kc) := cellB x0 6
    have d7 : X.cell? ⟨b0, 7, none⟩ = some (.slice x.n f.net.length x.nc) := cellB x0 7
    have lx0 : b0 < X.heap.size := (Array.getElem?_eq_some_iff.1 x0).1
    have KF : Hid (Calls Try.prog 22 #[.agg #[.slice x.p f.parts.length x.pc, .slice x.l f.plan.length x.lc, .int .i64 f.now, .slice x.d f.done.length x.dc, .slice x.h f.got.length x.hc, .slice x.g f.grants.length x.gc, .slice x.k f.work.length x.kc, .slice x.n f.net.length x.nc]] X fun e w' => Below X.heap.size X w' ∧ ∃ y o, e = .returned (.agg #[.slice y.p f.parts.length y.pc, .slice y.l f.plan.length y.lc, .int .i64 f.now, .slice y.d f.done.length y.dc, .slice y.h f.got.length y.hc, .slice y.g f.grants.length y.gc, .slice y.k f.work.length y.kc, .slice y.n f.net.length y.nc]) ∧ FmR X.heap.size w' f y o) := copyFarm_any f x X (HF.out X HX.out) hok
    have HX12 : Hid (X.heap[b1]? = some (.cells #[.int .i64 kd, .int .i64 wk, .int .i64 kk] 31 (0, 0)) ∧ X.heap[r]? = some (.cells #[.slice none 0 0, .slice none 0 0, .int .i64 0, .slice none 0 0, .slice none 0 0, .slice none 0 0, .slice none 0 0, .slice none 0 0] 29 (0, 0))) := ⟨x1, x2⟩
    clear x0 x1 x2
    go_upto_region 5 with (go_at_call 22; refine KF.out.mono ?_; rintro e X2 ⟨hb2, y, o, rfl, hR2⟩)
    obtain ⟨bo, hbo⟩ : ∃ bo, bo = X2.heap.size := ⟨_, rfl⟩
    have hAl := (Below.refl X2.heap.size X2).alloc (Nat.le_refl _) (.cells #[.slice y.p f.parts.length y.pc, .slice y.l f.plan.length y.lc, .int .i64 f.now, .slice y.d f.done.length y.dc, .slice y.h f.got.length y.hc, .slice y.g f.grants.length y.gc, .slice y.k f.work.length y.kc, .slice y.n f.net.length y.nc] 29)
    have hn := heap_alloc_new X2 (.cells #[.slice y.p f.parts.length y.pc, .slice y.l f.plan.length y.lc, .int .i64 f.now, .slice y.d f.done.length y.dc, .slice y.h f.got.length y.hc, .slice y.g f.grants.length y.gc, .slice y.k f.work.length y.kc, .slice y.n f.net.length y.nc] 29)
    have hX3 := hb2.trans (hAl.mono hb2.size)
    have hO3 : FmO X.heap.size (X2.alloc (.cells #[.slice y.p f.parts.length y.pc, .slice y.l f.plan.length y.lc, .int .i64 f.now, .slice y.d f.done.length y.dc, .slice y.h f.got.length y.hc, .slice y.g f.grants.length y.gc, .slice y.k f.work.length y.kc, .slice y.n f.net.length y.nc] 29)) X2.heap.size f y o := (hR2.later hAl).own hb2.size hn
    have y1 := (hX3.block _ (Array.getElem?_eq_some_iff.1 HX12.out.1).1).trans HX12.out.1
    have y2 := (hX3.block _ (Array.getElem?_eq_some_iff.1 HX12.out.2).1).trans HX12.out.2
    have HB3 : Hid (Below X.heap.size X (X2.alloc (.cells #[.slice y.p f.parts.length y.pc, .slice y.l f.plan.length y.lc, .int .i64 f.now, .slice y.d f.done.length y.dc, .slice y.h f.got.length y.hc, .slice y.g f.grants.length y.gc, .slice y.k f.work.length y.kc, .slice y.n f.net.length y.nc] 29))) := hX3
    have hrX : r < X.heap.size := (Array.getElem?_eq_some_iff.1 HX12.out.2).1
    rw [← hbo] at hO3 ⊢
    have Hbo : Hid (r ≠ bo) := by rw [Hid, hbo]; have := hb2.size; omega
    clear hbo hAl hn hR2 d0 d1 d2 d3 d4 d5 d6 d7 lx0 KF hb2
    generalize X2.alloc (.cells #[.slice y.p f.parts.length y.pc, .slice y.l f.plan.length y.lc, .int .i64 f.now, .slice y.d f.done.length y.dc, .slice y.h f.got.length y.hc, .slice y.g f.grants.length y.gc, .slice y.k f.work.length y.kc, .slice y.n f.net.length y.nc] 29) = Y at *
    have q0 : Y.cell? ⟨b1, 0, none⟩ = some (.int .i64 kd) := cellB y1 0
    have q1 : Y.cell? ⟨b1, 1, none⟩ = some (.int .i64 wk) := cellB y1 1
    have q2 : Y.cell? ⟨b1, 2, none⟩ = some (.int .i64 kk) := cellB y1 2
    have lb1 : b1 < Y.heap.size := (Array.getElem?_eq_some_iff.1 y1).1
    have KH : Hid (Calls Try.prog 23 #[.pointer (some ⟨bo, 0, none⟩), .agg #[.int .i64 kd, .int .i64 wk, .int .i64 kk]] Y fun e w' => e = .returned (.int .i64 (M.happen f ⟨kd, wk, kk⟩).2) ∧ Below X.heap.size Y w' ∧ KeepE Y w' ∧ ∃ x' o', FmO X.heap.size w' bo (M.happen f ⟨kd, wk, kk⟩).1 x' o') := happen_any Y hO3 HB3.out.size hok kd wk kk
    clear hO3 y1 hX3
    generalize M.happen f ⟨kd, wk, kk⟩ = hp at *
    obtain ⟨f', e'⟩ := hp
    simp only at KH HS1
    go_upto_region 6 with (go_at_call 23; refine KH.out.mono ?_; rintro e V ⟨rfl, hbV, _, x', o', hOV⟩)
    have hXV := HB3.out.trans hbV
    have HwV : Hid (Below w.heap.size w V) := HX.out.trans (hXV.mono HX.out.size)
    have v2 := (hXV.block _ hrX).trans HX12.out.2
    clear q0 q1 q2 lb1 y2 KH hbV hXV HB3
    by_cases he : e' = 0
    · have HS2 : Hid (R = (f', e')) := by rw [Hid, HS1.out, if_pos he]
      have hne : (e' != 0) = false := by simp [he]
      have hrc := store8 V r (.slice none 0 0) (.slice none 0 0) (.int .i64 0) (.slice none 0 0) (.slice none 0 0) (.slice none 0 0) (.slice none 0 0) (.slice none 0 0) (.slice x'.p f'.parts.length x'.pc) (.slice x'.l f'.plan.length x'.lc) (.int .i64 f'.now) (.slice x'.d f'.done.length x'.dc) (.slice x'.h f'.got.length x'.hc) (.slice x'.g f'.grants.length x'.gc) (.slice x'.k f'.work.length x'.kc) (.slice x'.n f'.net.length x'.nc) 29 v2
      obtain ⟨hs1, hs2⟩ := hrc
      have HFA : Hid (FmR w.heap.size ((((((((V.setCell ⟨r, 0, none⟩ (.slice x'.p f'.parts.length x'.pc)).setCell ⟨r, 1, none⟩ (.slice x'.l f'.plan.length x'.lc)).setCell ⟨r, 2, none⟩ (.int .i64 f'.now)).setCell ⟨r, 3, none⟩ (.slice x'.d f'.done.length x'.dc)).setCell ⟨r, 4, none⟩ (.slice x'.h f'.got.length x'.hc)).setCell ⟨r, 5, none⟩ (.slice x'.g f'.grants.length x'.gc)).setCell ⟨r, 6, none⟩ (.slice x'.k f'.work.length x'.kc)).setCell ⟨r, 7, none⟩ (.slice x'.n f'.net.length x'.nc)) f' x' o') := (hOV.rows.wr ⟨r, _, v2, hs2⟩).base HX.out.size
      have HBV : Hid (Below w.heap.size w ((((((((V.setCell ⟨r, 0, none⟩ (.slice x'.p f'.parts.length x'.pc)).setCell ⟨r, 1, none⟩ (.slice x'.l f'.plan.length x'.lc)).setCell ⟨r, 2, none⟩ (.int .i64 f'.now)).setCell ⟨r, 3, none⟩ (.slice x'.d f'.done.length x'.dc)).setCell ⟨r, 4, none⟩ (.slice x'.h f'.got.length x'.hc)).setCell ⟨r, 5, none⟩ (.slice x'.g f'.grants.length x'.gc)).setCell ⟨r, 6, none⟩ (.slice x'.k f'.work.length x'.kc)).setCell ⟨r, 7, none⟩ (.slice x'.n f'.net.length x'.nc))) := HwV.out.grown hs2 HwV.out.size (fun k hk => by cases hk; exact Hr.out.1)
      have k0 : V.cell? ⟨bo, 0, none⟩ = some (.slice x'.p f'.parts.length x'.pc) := cellB hOV.blk 0
      have k1 : V.cell? ⟨bo, 1, none⟩ = some (.slice x'.l f'.plan.length x'.lc) := cellB hOV.blk 1
      have k2 : V.cell? ⟨bo, 2, none⟩ = some (.int .i64 f'.now) := cellB hOV.blk 2
      have k3 : V.cell? ⟨bo, 3, none⟩ = some (.slice x'.d f'.done.length x'.dc) := cellB hOV.blk 3
      have k4 : V.cell? ⟨bo, 4, none⟩ = some (.slice x'.h f'.got.length x'.hc) := cellB hOV.blk 4
      have k5 : V.cell? ⟨bo, 5, none⟩ = some (.slice x'.g f'.grants.length x'.gc) := cellB hOV.blk 5
      have k6 : V.cell? ⟨bo, 6, none⟩ = some (.slice x'.k f'.work.length x'.kc) := cellB hOV.blk 6
      have k7 : V.cell? ⟨bo, 7, none⟩ = some (.slice x'.n f'.net.length x'.nc) := cellB hOV.blk 7
      have lbo : bo < V.heap.size := (Array.getElem?_eq_some_iff.1 hOV.blk).1
      have r0 : V.cell? ⟨r, 0, none⟩ = some (.slice none 0 0) := cellB v2 0
      have r1 : V.cell? ⟨r, 1, none⟩ = some (.slice none 0 0) := cellB v2 1
      have r2 : V.cell? ⟨r, 2, none⟩ = some (.int .i64 0) := cellB v2 2
      have r3 : V.cell? ⟨r, 3, none⟩ = some (.slice none 0 0) := cellB v2 3
      have r4 : V.cell? ⟨r, 4, none⟩ = some (.slice none 0 0) := cellB v2 4
      have r5 : V.cell? ⟨r, 5, none⟩ = some (.slice none 0 0) := cellB v2 5
      have r6 : V.cell? ⟨r, 6, none⟩ = some (.slice none 0 0) := cellB v2 6
      have r7 : V.cell? ⟨r, 7, none⟩ = some (.slice none 0 0) := cellB v2 7
      have rf : ∀ i, V.frozen? ⟨r, i, none⟩ = false := frozenB v2
      have lr : r < V.heap.size := (Array.getElem?_eq_some_iff.1 v2).1
      have hbor := Hbo.out
      subst he
      clear HS1 hOV v2 hs2 hne
      go_wp2_with fail
      have e0 : ((((((((V.setCell ⟨r, 0, none⟩ (.slice x'.p f'.parts.length x'.pc)).setCell ⟨r, 1, none⟩ (.slice x'.l f'.plan.length x'.lc)).setCell ⟨r, 2, none⟩ (.int .i64 f'.now)).setCell ⟨r, 3, none⟩ (.slice x'.d f'.done.length x'.dc)).setCell ⟨r, 4, none⟩ (.slice x'.h f'.got.length x'.hc)).setCell ⟨r, 5, none⟩ (.slice x'.g f'.grants.length x'.gc)).setCell ⟨r, 6, none⟩ (.slice x'.k f'.work.length x'.kc)).setCell ⟨r, 7, none⟩ (.slice x'.n f'.net.length x'.nc)).cell? ⟨r, 0, none⟩ = some (.slice x'.p f'.parts.length x'.pc) := cellB hs1 0
      have e1 : ((((((((V.setCell ⟨r, 0, none⟩ (.slice x'.p f'.parts.length x'.pc)).setCell ⟨r, 1, none⟩ (.slice x'.l f'.plan.length x'.lc)).setCell ⟨r, 2, none⟩ (.int .i64 f'.now)).setCell ⟨r, 3, none⟩ (.slice x'.d f'.done.length x'.dc)).setCell ⟨r, 4, none⟩ (.slice x'.h f'.got.length x'.hc)).setCell ⟨r, 5, none⟩ (.slice x'.g f'.grants.length x'.gc)).setCell ⟨r, 6, none⟩ (.slice x'.k f'.work.length x'.kc)).setCell ⟨r, 7, none⟩ (.slice x'.n f'.net.length x'.nc)).cell? ⟨r, 1, none⟩ = some (.slice x'.l f'.plan.length x'.lc) := cellB hs1 1
      have e2 : ((((((((V.setCell ⟨r, 0, none⟩ (.slice x'.p f'.parts.length x'.pc)).setCell ⟨r, 1, none⟩ (.slice x'.l f'.plan.length x'.lc)).setCell ⟨r, 2, none⟩ (.int .i64 f'.now)).setCell ⟨r, 3, none⟩ (.slice x'.d f'.done.length x'.dc)).setCell ⟨r, 4, none⟩ (.slice x'.h f'.got.length x'.hc)).setCell ⟨r, 5, none⟩ (.slice x'.g f'.grants.length x'.gc)).setCell ⟨r, 6, none⟩ (.slice x'.k f'.work.length x'.kc)).setCell ⟨r, 7, none⟩ (.slice x'.n f'.net.length x'.nc)).cell? ⟨r, 2, none⟩ = some (.int .i64 f'.now) := cellB hs1 2
      have e3 : ((((((((V.setCell ⟨r, 0, none⟩ (.slice x'.p f'.parts.length x'.pc)).setCell ⟨r, 1, none⟩ (.slice x'.l f'.plan.length x'.lc)).setCell ⟨r, 2, none⟩ (.int .i64 f'.now)).setCell ⟨r, 3, none⟩ (.slice x'.d f'.done.length x'.dc)).setCell ⟨r, 4, none⟩ (.slice x'.h f'.got.length x'.hc)).setCell ⟨r, 5, none⟩ (.slice x'.g f'.grants.length x'.gc)).setCell ⟨r, 6, none⟩ (.slice x'.k f'.work.length x'.kc)).setCell ⟨r, 7, none⟩ (.slice x'.n f'.net.length x'.nc)).cell? ⟨r, 3, none⟩ = some (.slice x'.d f'.done.length x'.dc) := cellB hs1 3
      have e4 : ((((((((V.setCell ⟨r, 0, none⟩ (.slice x'.p f'.parts.length x'.pc)).setCell ⟨r, 1, none⟩ (.slice x'.l f'.plan.length x'.lc)).setCell ⟨r, 2, none⟩ (.int .i64 f'.now)).setCell ⟨r, 3, none⟩ (.slice x'.d f'.done.length x'.dc)).setCell ⟨r, 4, none⟩ (.slice x'.h f'.got.length x'.hc)).setCell ⟨r, 5, none⟩ (.slice x'.g f'.grants.length x'.gc)).setCell ⟨r, 6, none⟩ (.slice x'.k f'.work.length x'.kc)).setCell ⟨r, 7, none⟩ (.slice x'.n f'.net.length x'.nc)).cell? ⟨r, 4, none⟩ = some (.slice x'.h f'.got.length x'.hc) := cellB hs1 4
      have e5 : ((((((((V.setCell ⟨r, 0, none⟩ (.slice x'.p f'.parts.length x'.pc)).setCell ⟨r, 1, none⟩ (.slice x'.l f'.plan.length x'.lc)).setCell ⟨r, 2, none⟩ (.int .i64 f'.now)).setCell ⟨r, 3, none⟩ (.slice x'.d f'.done.length x'.dc)).setCell ⟨r, 4, none⟩ (.slice x'.h f'.got.length x'.hc)).setCell ⟨r, 5, none⟩ (.slice x'.g f'.grants.length x'.gc)).setCell ⟨r, 6, none⟩ (.slice x'.k f'.work.length x'.kc)).setCell ⟨r, 7, none⟩ (.slice x'.n f'.net.length x'.nc)).cell? ⟨r, 5, none⟩ = some (.slice x'.g f'.grants.length x'.gc) := cellB hs1 5
      have e6 : ((((((((V.setCell ⟨r, 0, none⟩ (.slice x'.p f'.parts.length x'.pc)).setCell ⟨r, 1, none⟩ (.slice x'.l f'.plan.length x'.lc)).setCell ⟨r, 2, none⟩ (.int .i64 f'.now)).setCell ⟨r, 3, none⟩ (.slice x'.d f'.done.length x'.dc)).setCell ⟨r, 4, none⟩ (.slice x'.h f'.got.length x'.hc)).setCell ⟨r, 5, none⟩ (.slice x'.g f'.grants.length x'.gc)).setCell ⟨r, 6, none⟩ (.slice x'.k f'.work.length x'.kc)).setCell ⟨r, 7, none⟩ (.slice x'.n f'.net.length x'.nc)).cell? ⟨r, 6, none⟩ = some (.slice x'.k f'.work.length x'.kc) := cellB hs1 6
      have e7 : ((((((((V.setCell ⟨r, 0, none⟩ (.slice x'.p f'.parts.length x'.pc)).setCell ⟨r, 1, none⟩ (.slice x'.l f'.plan.length x'.lc)).setCell ⟨r, 2, none⟩ (.int .i64 f'.now)).setCell ⟨r, 3, none⟩ (.slice x'.d f'.done.length x'.dc)).setCell ⟨r, 4, none⟩ (.slice x'.h f'.got.length x'.hc)).setCell ⟨r, 5, none⟩ (.slice x'.g f'.grants.length x'.gc)).setCell ⟨r, 6, none⟩ (.slice x'.k f'.work.length x'.kc)).setCell ⟨r, 7, none⟩ (.slice x'.n f'.net.length x'.nc)).cell? ⟨r, 7, none⟩ = some (.slice x'.n f'.net.length x'.nc) := cellB hs1 7
      refine bodyPost_ret (v := .tuple #[.agg #[.slice x'.p f'.parts.length x'.pc, .slice x'.l f'.plan.length x'.lc, .int .i64 f'.now, .slice x'.d f'.done.length x'.dc, .slice x'.h f'.got.length x'.hc, .slice x'.g f'.grants.length x'.gc, .slice x'.k f'.work.length x'.kc, .slice x'.n f'.net.length x'.nc], .int .i64 0]) (by simp [results, Try.results7, go_sem, e0, e1, e2, e3, e4, e5, e6, e7]) rfl ?_
      refine ⟨HBV.out, x', ?_, ?_⟩
      · rw [HS2.out]
      · rw [HS2.out]; exact ⟨HFA.out.at, fun _ => ⟨o', HFA.out⟩⟩
    · have HS2 : Hid (R = (M.farm0, e')) := by rw [Hid, HS1.out, if_neg he]
      have hne : (e' != 0) = true := by simpa using he
      obtain ⟨hs1, hs2⟩ := store8 V r (.slice none 0 0) (.slice none 0 0) (.int .i64 0) (.slice none 0 0) (.slice none 0 0) (.slice none 0 0) (.slice none 0 0) (.slice none 0 0) (.slice none 0 0) (.slice none 0 0) (.int .i64 0) (.slice none 0 0) (.slice none 0 0) (.slice none 0 0) (.slice none 0 0) (.slice none 0 0) 29 v2
      have HBV : Hid (Below w.heap.size w ((((((((V.setCell ⟨r, 0, none⟩ (.slice none 0 0)).setCell ⟨r, 1, none⟩ (.slice none 0 0)).setCell ⟨r, 2, none⟩ (.int .i64 0)).setCell ⟨r, 3, none⟩ (.slice none 0 0)).setCell ⟨r, 4, none⟩ (.slice none 0 0)).setCell ⟨r, 5, none⟩ (.slice none 0 0)).setCell ⟨r, 6, none⟩ (.slice none 0 0)).setCell ⟨r, 7, none⟩ (.slice none 0 0))) := HwV.out.grown hs2 HwV.out.size (fun k hk => by cases hk; exact Hr.out.1)
      have r0 : V.cell? ⟨r, 0, none⟩ = some (.slice none 0 0) := cellB v2 0
      have r1 : V.cell? ⟨r, 1, none⟩ = some (.slice none 0 0) := cellB v2 1
      have r2 : V.cell? ⟨r, 2, none⟩ = some (.int .i64 0) := cellB v2 2
      have r3 : V.cell? ⟨r, 3, none⟩ = some (.slice none 0 0) := cellB v2 3
      have r4 : V.cell? ⟨r, 4, none⟩ = some (.slice none 0 0) := cellB v2 4
      have r5 : V.cell? ⟨r, 5, none⟩ = some (.slice none 0 0) := cellB v2 5
      have r6 : V.cell? ⟨r, 6, none⟩ = some (.slice none 0 0) := cellB v2 6
      have r7 : V.cell? ⟨r, 7, none⟩ = some (.slice none 0 0) := cellB v2 7
      have rf : ∀ i, V.frozen? ⟨r, i, none⟩ = false := frozenB v2
      have lr : r < V.heap.size := (Array.getElem?_eq_some_iff.1 v2).1
      clear HS1 hOV v2 hs2 he
      go_wp2_with fail
      have e0 : ((((((((V.setCell ⟨r, 0, none⟩ (.slice none 0 0)).setCell ⟨r, 1, none⟩ (.slice none 0 0)).setCell ⟨r, 2, none⟩ (.int .i64 0)).setCell ⟨r, 3, none⟩ (.slice none 0 0)).setCell ⟨r, 4, none⟩ (.slice none 0 0)).setCell ⟨r, 5, none⟩ (.slice none 0 0)).setCell ⟨r, 6, none⟩ (.slice none 0 0)).setCell ⟨r, 7, none⟩ (.slice none 0 0)).cell? ⟨r, 0, none⟩ = some (.slice none 0 0) := cellB hs1 0
      have e1 : ((((((((V.setCell ⟨r, 0, none⟩ (.slice none 0 0)).setCell ⟨r, 1, none⟩ (.slice none 0 0)).setCell ⟨r, 2, none⟩ (.int .i64 0)).setCell ⟨r, 3, none⟩ (.slice none 0 0)).setCell ⟨r, 4, none⟩ (.slice none 0 0)).setCell ⟨r, 5, none⟩ (.slice none 0 0)).setCell ⟨r, 6, none⟩ (.slice none 0 0)).setCell ⟨r, 7, none⟩ (.slice none 0 0)).cell? ⟨r, 1, none⟩ = some (.slice none 0 0) := cellB hs1 1
      have e2 : ((((((((V.setCell ⟨r, 0, none⟩ (.slice none 0 0)).setCell ⟨r, 1, none⟩ (.slice none 0 0)).setCell ⟨r, 2, none⟩ (.int .i64 0)).setCell ⟨r, 3, none⟩ (.slice none 0 0)).setCell ⟨r, 4, none⟩ (.slice none 0 0)).setCell ⟨r, 5, none⟩ (.slice none 0 0)).setCell ⟨r, 6, none⟩ (.slice none 0 0)).setCell ⟨r, 7, none⟩ (.slice none 0 0)).cell? ⟨r, 2, none⟩ = some (.int .i64 0) := cellB hs1 2
      have e3 : ((((((((V.setCell ⟨r, 0, none⟩ (.slice none 0 0)).setCell ⟨r, 1, none⟩ (.slice none 0 0)).setCell ⟨r, 2, none⟩ (.int .i64 0)).setCell ⟨r, 3, none⟩ (.slice none 0 0)).setCell ⟨r, 4, none⟩ (.slice none 0 0)).setCell ⟨r, 5, none⟩ (.slice none 0 0)).setCell ⟨r, 6, none⟩ (.slice none 0 0)).setCell ⟨r, 7, none⟩ (.slice none 0 0)).cell? ⟨r, 3, none⟩ = some (.slice none 0 0) := cellB hs1 3
      have e4 : ((((((((V.setCell ⟨r, 0, none⟩ (.slice none 0 0)).setCell ⟨r, 1, none⟩ (.slice none 0 0)).setCell ⟨r, 2, none⟩ (.int .i64 0)).setCell ⟨r, 3, none⟩ (.slice none 0 0)).setCell ⟨r, 4, none⟩ (.slice none 0 0)).setCell ⟨r, 5, none⟩ (.slice none 0 0)).setCell ⟨r, 6, none⟩ (.slice none 0 0)).setCell ⟨r, 7, none⟩ (.slice none 0 0)).cell? ⟨r, 4, none⟩ = some (.slice none 0 0) := cellB hs1 4
      have e5 : ((((((((V.setCell ⟨r, 0, none⟩ (.slice none 0 0)).setCell ⟨r, 1, none⟩ (.slice none 0 0)).setCell ⟨r, 2, none⟩ (.int .i64 0)).setCell ⟨r, 3, none⟩ (.slice none 0 0)).setCell ⟨r, 4, none⟩ (.slice none 0 0)).setCell ⟨r, 5, none⟩ (.slice none 0 0)).setCell ⟨r, 6, none⟩ (.slice none 0 0)).setCell ⟨r, 7, none⟩ (.slice none 0 0)).cell? ⟨r, 5, none⟩ = some (.slice none 0 0) := cellB hs1 5
      have e6 : ((((((((V.setCell ⟨r, 0, none⟩ (.slice none 0 0)).setCell ⟨r, 1, none⟩ (.slice none 0 0)).setCell ⟨r, 2, none⟩ (.int .i64 0)).setCell ⟨r, 3, none⟩ (.slice none 0 0)).setCell ⟨r, 4, none⟩ (.slice none 0 0)).setCell ⟨r, 5, none⟩ (.slice none 0 0)).setCell ⟨r, 6, none⟩ (.slice none 0 0)).setCell ⟨r, 7, none⟩ (.slice none 0 0)).cell? ⟨r, 6, none⟩ = some (.slice none 0 0) := cellB hs1 6
      have e7 : ((((((((V.setCell ⟨r, 0, none⟩ (.slice none 0 0)).setCell ⟨r, 1, none⟩ (.slice none 0 0)).setCell ⟨r, 2, none⟩ (.int .i64 0)).setCell ⟨r, 3, none⟩ (.slice none 0 0)).setCell ⟨r, 4, none⟩ (.slice none 0 0)).setCell ⟨r, 5, none⟩ (.slice none 0 0)).setCell ⟨r, 6, none⟩ (.slice none 0 0)).setCell ⟨r, 7, none⟩ (.slice none 0 0)).cell? ⟨r, 7, none⟩ = some (.slice none 0 0) := cellB hs1 7
      refine bodyPost_ret (v := .tuple #[.agg #[.slice none 0 0, .slice none 0 0, .int .i64 0, .slice none 0 0, .slice none 0 0, .slice none 0 0, .slice none 0 0, .slice none 0 0], .int .i64 e']) (by simp [results, Try.results7, go_sem, e0, e1, e2, e3, e4, e5, e6, e7]) rfl ?_
      refine ⟨HBV.out, fd0, ?_, ?_⟩
      · rw [HS2.out]; rfl
      · rw [HS2.out]; exact ⟨farm0_at _, fun h => absurd h (by simpa using hne)⟩
  · have HS2 : Hid (R = (M.farm0, M.checkFarm f)) := by rw [Hid, HS.out, if_neg hck]
    have hne : (M.checkFarm f != 0) = true := by simpa using hck
    clear HS hck
    generalize M.checkFarm f = e' at *
    go_upto_region 3 with (go_at_call 9; refine KC.out.mono ?_; rintro e V ⟨rfl, hbX⟩)
    have v2 := (hbX.block _ (Array.getElem?_eq_some_iff.1 HH0.out.2.2).1).trans HH0.out.2.2
    have HwV : Hid (Below w.heap.size w V) := HA.out.trans (hbX.mono HA.out.size)
    obtain ⟨hs1, hs2⟩ := store8 V r (.slice none 0 0) (.slice none 0 0) (.int .i64 0) (.slice none 0 0) (.slice none 0 0) (.slice none 0 0) (.slice none 0 0) (.slice none 0 0) (.slice none 0 0) (.slice none 0 0) (.int .i64 0) (.slice none 0 0) (.slice none 0 0) (.slice none 0 0) (.slice none 0 0) (.slice none 0 0) 29 v2
    have HBV : Hid (Below w.heap.size w ((((((((V.setCell ⟨r, 0, none⟩ (.slice none 0 0)).setCell ⟨r, 1, none⟩ (.slice none 0 0)).setCell ⟨r, 2, none⟩ (.int .i64 0)).setCell ⟨r, 3, none⟩ (.slice none 0 0)).setCell ⟨r, 4, none⟩ (.slice none 0 0)).setCell ⟨r, 5, none⟩ (.slice none 0 0)).setCell ⟨r, 6, none⟩ (.slice none 0 0)).setCell ⟨r, 7, none⟩ (.slice none 0 0))) := HwV.out.grown hs2 HwV.out.size (fun k hk => by cases hk; exact Hr.out.1)
    have r0 : V.cell? ⟨r, 0, none⟩ = some (.slice none 0 0) := cellB v2 0
    have r1 : V.cell? ⟨r, 1, none⟩ = some (.slice none 0 0) := cellB v2 1
    have r2 : V.cell? ⟨r, 2, none⟩ = some (.int .i64 0) := cellB v2 2
    have r3 : V.cell? ⟨r, 3, none⟩ = some (.slice none 0 0) := cellB v2 3
    have r4 : V.cell? ⟨r, 4, none⟩ = some (.slice none 0 0) := cellB v2 4
    have r5 : V.cell? ⟨r, 5, none⟩ = some (.slice none 0 0) := cellB v2 5
    have r6 : V.cell? ⟨r, 6, none⟩ = some (.slice none 0 0) := cellB v2 6
    have r7 : V.cell? ⟨r, 7, none⟩ = some (.slice none 0 0) := cellB v2 7
    have rf : ∀ i, V.frozen? ⟨r, i, none⟩ = false := frozenB v2
    have lr : r < V.heap.size := (Array.getElem?_eq_some_iff.1 v2).1
    clear v2 hs2 c0 c1 c2 c3 c4 c5 c6 c7 KC hbX lb0
    go_wp2_with fail
    have e0 : ((((((((V.setCell ⟨r, 0, none⟩ (.slice none 0 0)).setCell ⟨r, 1, none⟩ (.slice none 0 0)).setCell ⟨r, 2, none⟩ (.int .i64 0)).setCell ⟨r, 3, none⟩ (.slice none 0 0)).setCell ⟨r, 4, none⟩ (.slice none 0 0)).setCell ⟨r, 5, none⟩ (.slice none 0 0)).setCell ⟨r, 6, none⟩ (.slice none 0 0)).setCell ⟨r, 7, none⟩ (.slice none 0 0)).cell? ⟨r, 0, none⟩ = some (.slice none 0 0) := cellB hs1 0
    have e1 : ((((((((V.setCell ⟨r, 0, none⟩ (.slice none 0 0)).setCell ⟨r, 1, none⟩ (.slice none 0 0)).setCell ⟨r, 2, none⟩ (.int .i64 0)).setCell ⟨r, 3, none⟩ (.slice none 0 0)).setCell ⟨r, 4, none⟩ (.slice none 0 0)).setCell ⟨r, 5, none⟩ (.slice none 0 0)).setCell ⟨r, 6, none⟩ (.slice none 0 0)).setCell ⟨r, 7, none⟩ (.slice none 0 0)).cell? ⟨r, 1, none⟩ = some (.slice none 0 0) := cellB hs1 1
    have e2 : ((((((((V.setCell ⟨r, 0, none⟩ (.slice none 0 0)).setCell ⟨r, 1, none⟩ (.slice none 0 0)).setCell ⟨r, 2, none⟩ (.int .i64 0)).setCell ⟨r, 3, none⟩ (.slice none 0 0)).setCell ⟨r, 4, none⟩ (.slice none 0 0)).setCell ⟨r, 5, none⟩ (.slice none 0 0)).setCell ⟨r, 6, none⟩ (.slice none 0 0)).setCell ⟨r, 7, none⟩ (.slice none 0 0)).cell? ⟨r, 2, none⟩ = some (.int .i64 0) := cellB hs1 2
    have e3 : ((((((((V.setCell ⟨r, 0, none⟩ (.slice none 0 0)).setCell ⟨r, 1, none⟩ (.slice none 0 0)).setCell ⟨r, 2, none⟩ (.int .i64 0)).setCell ⟨r, 3, none⟩ (.slice none 0 0)).setCell ⟨r, 4, none⟩ (.slice none 0 0)).setCell ⟨r, 5, none⟩ (.slice none 0 0)).setCell ⟨r, 6, none⟩ (.slice none 0 0)).setCell ⟨r, 7, none⟩ (.slice none 0 0)).cell? ⟨r, 3, none⟩ = some (.slice none 0 0) := cellB hs1 3
    have e4 : ((((((((V.setCell ⟨r, 0, none⟩ (.slice none 0 0)).setCell ⟨r, 1, none⟩ (.slice none 0 0)).setCell ⟨r, 2, none⟩ (.int .i64 0)).setCell ⟨r, 3, none⟩ (.slice none 0 0)).setCell ⟨r, 4, none⟩ (.slice none 0 0)).setCell ⟨r, 5, none⟩ (.slice none 0 0)).setCell ⟨r, 6, none⟩ (.slice none 0 0)).setCell ⟨r, 7, none⟩ (.slice none 0 0)).cell? ⟨r, 4, none⟩ = some (.slice none 0 0) := cellB hs1 4
    have e5 : ((((((((V.setCell ⟨r, 0, none⟩ (.slice none 0 0)).setCell ⟨r, 1, none⟩ (.slice none 0 0)).setCell ⟨r, 2, none⟩ (.int .i64 0)).setCell ⟨r, 3, none⟩ (.slice none 0 0)).setCell ⟨r, 4, none⟩ (.slice none 0 0)).setCell ⟨r, 5, none⟩ (.slice none 0 0)).setCell ⟨r, 6, none⟩ (.slice none 0 0)).setCell ⟨r, 7, none⟩ (.slice none 0 0)).cell? ⟨r, 5, none⟩ = some (.slice none 0 0) := cellB hs1 5
    have e6 : ((((((((V.setCell ⟨r, 0, none⟩ (.slice none 0 0)).setCell ⟨r, 1, none⟩ (.slice none 0 0)).setCell ⟨r, 2, none⟩ (.int .i64 0)).setCell ⟨r, 3, none⟩ (.slice none 0 0)).setCell ⟨r, 4, none⟩ (.slice none 0 0)).setCell ⟨r, 5, none⟩ (.slice none 0 0)).setCell ⟨r, 6, none⟩ (.slice none 0 0)).setCell ⟨r, 7, none⟩ (.slice none 0 0)).cell? ⟨r, 6, none⟩ = some (.slice none 0 0) := cellB hs1 6
    have e7 : ((((((((V.setCell ⟨r, 0, none⟩ (.slice none 0 0)).setCell ⟨r, 1, none⟩ (.slice none 0 0)).setCell ⟨r, 2, none⟩ (.int .i64 0)).setCell ⟨r, 3, none⟩ (.slice none 0 0)).setCell ⟨r, 4, none⟩ (.slice none 0 0)).setCell ⟨r, 5, none⟩ (.slice none 0 0)).setCell ⟨r, 6, none⟩ (.slice none 0 0)).setCell ⟨r, 7, none⟩ (.slice none 0 0)).cell? ⟨r, 7, none⟩ = some (.slice none 0 0) := cellB hs1 7
    refine bodyPost_ret (v := .tuple #[.agg #[.slice none 0 0, .slice none 0 0, .int .i64 0, .slice none 0 0, .slice none 0 0, .slice none 0 0, .slice none 0 0, .slice none 0 0], .int .i64 e']) (by simp [results, Try.results7, go_sem, e0, e1, e2, e3, e4, e5, e6, e7]) rfl ?_
    refine ⟨HBV.out, fd0, ?_, ?_⟩
    · rw [HS2.out]; rfl
    · rw [HS2.out]; exact ⟨farm0_at _, fun h => absurd h (by simpa using hne)⟩

end Go.Proofs.Ytmlojlbmfceogaa
