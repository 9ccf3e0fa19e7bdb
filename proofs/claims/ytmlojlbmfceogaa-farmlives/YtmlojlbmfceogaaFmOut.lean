/-
  The contract of farm.Outcome.
-/
import Derived.Test.YtmlojlbmfceogaaFmDo
namespace Go.Proofs.Ytmlojlbmfceogaa
open Go Go.RowKit
set_option linter.unusedVariables false

theorem nil_at (W : World) : FragsAt W (.slice none 0 0) M.nil.frags ∧ DefsAt W (.slice none 0 0) M.nil.defs := ⟨(PR.nil W 0).fragsAt, (PR.nil W 0).defsAt⟩

set_option maxHeartbeats 8000000 in
set_option maxRecDepth 100000 in
theorem outcome_any (f : M.Farm) (x : Fd) (w : World) (hf : FarmAt w f x) :
    Calls Try.prog 17 #[.agg #[.slice x.p f.parts.length x.pc, .slice x.l f.plan.length x.lc, .int .i64 f.now, .slice x.d f.done.length x.dc, .slice x.h f.got.length x.hc, .slice x.g f.grants.length x.gc, .slice x.k f.work.length x.kc, .slice x.n f.net.length x.nc]] w fun e w' => Below w.heap.size w w' ∧ ∃ x1 y1 x2 y2, e = .returned (.tuple #[.agg #[.slice x1 (M.outcome f).frags.length y1, .slice x2 (M.outcome f).defs.length y2], .int .i64 (M.outcomeE f)]) ∧ FragsAt w' (.slice x1 (M.outcome f).frags.length y1) (M.outcome f).frags ∧ DefsAt w' (.slice x2 (M.outcome f).defs.length y2) (M.outcome f).defs := by
  have hA : Below w.heap.size w ((w.alloc (.cells #[.slice x.p f.parts.length x.pc, .slice x.l f.plan.length x.lc, .int .i64 f.now, .slice x.d f.done.length x.dc, .slice x.h f.got.length x.hc, .slice x.g f.grants.length x.gc, .slice x.k f.work.length x.kc, .slice x.n f.net.length x.nc] 29)).alloc (.cells #[.slice none 0 0, .slice none 0 0] 44)) := ((Below.refl _ _).alloc (Nat.le_refl _) _).alloc (by simp) _
  have h0 : ((w.alloc (.cells #[.slice x.p f.parts.length x.pc, .slice x.l f.plan.length x.lc, .int .i64 f.now, .slice x.d f.done.length x.dc, .slice x.h f.got.length x.hc, .slice x.g f.grants.length x.gc, .slice x.k f.work.length x.kc, .slice x.n f.net.length x.nc] 29)).alloc (.cells #[.slice none 0 0, .slice none 0 0] 44)).heap[w.heap.size]? = some (.cells #[.slice x.p f.parts.length x.pc, .slice x.l f.plan.length x.lc, .int .i64 f.now, .slice x.d f.done.length x.dc, .slice x.h f.got.length x.hc, .slice x.g f.grants.length x.gc, .slice x.k f.work.length x.kc, .slice x.n f.net.length x.nc] 29 (0, 0)) := (heap_alloc_old _ _ (by simp)).trans (heap_alloc_new _ _)
  have h2 : ((w.alloc (.cells #[.slice x.p f.parts.length x.pc, .slice x.l f.plan.length x.lc, .int .i64 f.now, .slice x.d f.done.length x.dc, .slice x.h f.got.length x.hc, .slice x.g f.grants.length x.gc, .slice x.k f.work.length x.kc, .slice x.n f.net.length x.nc] 29)).alloc (.cells #[.slice none 0 0, .slice none 0 0] 44)).heap[w.heap.size + 1]? = some (.cells #[.slice none 0 0, .slice none 0 0] 44 (0, 0)) := by
    have := heap_alloc_new (w.alloc (.cells #[.slice x.p f.parts.length x.pc, .slice x.l f.plan.length x.lc, .int .i64 f.now, .slice x.d f.done.length x.dc, .slice x.h f.got.length x.hc, .slice x.g f.grants.length x.gc, .slice x.k f.work.length x.kc, .slice x.n f.net.length x.nc] 29)) (.cells #[.slice none 0 0, .slice none 0 0] 44)
    simpa using this
  have HA : Hid (Below w.heap.size w ((w.alloc (.cells #[.slice x.p f.parts.length x.pc, .slice x.l f.plan.length x.lc, .int .i64 f.now, .slice x.d f.done.length x.dc, .slice x.h f.got.length x.hc, .slice x.g f.grants.length x.gc, .slice x.k f.work.length x.kc, .slice x.n f.net.length x.nc] 29)).alloc (.cells #[.slice none 0 0, .slice none 0 0] 44))) := hA
  have HF : Hid (∀ W, Below w.heap.size w W → FarmAt W f x) := fun W hW => hf.later hW
  have HE : Hid (M.outcomeE f = M.orE (M.checkFarm f) (if f.done.getD (f.plan.length - 1) false = true then 0 else 11)) := rfl
  have HP : Hid (M.outcome f = if M.outcomeE f = 0 then f.got.getD (f.plan.length - 1) M.nil else M.nil) := rfl
  generalize M.outcomeE f = E at *
  generalize M.outcome f = P at *
  clear hf hA
  go_enter Try.func17, Try.ntmps17
  go_upto_region 1 with fail
  obtain ⟨b0, hb0⟩ : ∃ b0, b0 = w.heap.size := ⟨_, rfl⟩
  obtain ⟨r, hr⟩ : ∃ r, r = w.heap.size + 1 := ⟨_, rfl⟩
  have Hr : Hid (w.heap.size ≤ r ∧ b0 ≠ r) := ⟨by omega, by omega⟩
  rw [← hr] at h2 ⊢
  rw [← hb0] at h0 ⊢
  clear hb0 hr
  generalize (w.alloc (.cells #[.slice x.p f.parts.length x.pc, .slice x.l f.plan.length x.lc, .int .i64 f.now, .slice x.d f.done.length x.dc, .slice x.h f.got.length x.hc, .slice x.g f.grants.length x.gc, .slice x.k f.work.length x.kc, .slice x.n f.net.length x.nc] 29)).alloc (.cells #[.slice none 0 0, .slice none 0 0] 44) = Z at *
  have KC : Hid (Calls Try.prog 9 #[.agg #[.slice x.p f.parts.length x.pc, .slice x.l f.plan.length x.lc, .int .i64 f.now, .slice x.d f.done.length x.dc, .slice x.h f.got.length x.hc, .slice x.g f.grants.length x.gc, .slice x.k f.work.length x.kc, .slice x.n f.net.length x.nc]] Z fun e w' => e = .returned (.int .i64 (M.checkFarm f)) ∧ Below Z.heap.size Z w') := farmCheck_any f x Z (HF.out Z HA.out)
  have c0 : Z.cell? ⟨b0, 0, none⟩ = some (.slice x.p f.parts.length x.pc) := cellB h0 0
  have c1 : Z.cell? ⟨b0, 1, none⟩ = some (.slice x.l f.plan.length x.lc) := cellB h0 1
  have c2 : Z.cell? ⟨b0, 2, none⟩ = some (.int .i64 f.now) := cellB h0 2
  have c3 : Z.cell? ⟨b0, 3, none⟩ = some (.slice x.d f.done.length x.dc) := cellB h0 3
  have c4 : Z.cell? ⟨b0, 4, none⟩ = some (.slice x.h f.got.length x.hc) := cellB h0 4
  have c5 : Z.cell? ⟨b0, 5, none⟩ = some (.slice x.g f.grants.length x.gc) := cellB h0 5
  have c6 : Z.cell? ⟨b0, 6, none⟩ = some (.slice x.k f.work.length x.kc) := cellB h0 6
  have c7 : Z.cell? ⟨b0, 7, none⟩ = some (.slice x.n f.net.length x.nc) := cellB h0 7
  have lb0 : b0 < Z.heap.size := (Array.getElem?_eq_some_iff.1 h0).1
  have HH0 : Hid (Z.heap[b0]? = some (.cells #[.slice x.p f.parts.length x.pc, .slice x.l f.plan.length x.lc, .int .i64 f.now, .slice x.d f.done.length x.dc, .slice x.h f.got.length x.hc, .slice x.g f.grants.length x.gc, .slice x.k f.work.length x.kc, .slice x.n f.net.length x.nc] 29 (0, 0)) ∧ Z.heap[r]? = some (.cells #[.slice none 0 0, .slice none 0 0] 44 (0, 0))) := ⟨h0, h2⟩
  clear h0 h2
  by_cases hck : M.checkFarm f = 0
  · have hok := (M.farm_iff f).1 hck
    have HE1 : Hid (E = if f.done.getD (f.plan.length - 1) false = true then 0 else 11) := by rw [Hid, HE.out, hck]; rfl
    rw [hck] at KC
    clear HE hck
    go_upto_region 4 with (go_at_call 9; refine KC.out.mono ?_; rintro e V ⟨rfl, hbX⟩)
    obtain ⟨h0, h2⟩ := HH0.out
    have x0 := (hbX.block _ (Array.getElem?_eq_some_iff.1 h0).1).trans h0
    have v2 := (hbX.block _ (Array.getElem?_eq_some_iff.1 h2).1).trans h2
    have HwV : Hid (Below w.heap.size w V) := HA.out.trans (hbX.mono HA.out.size)
    have hFV := HF.out V HwV.out
    clear c0 c1 c2 c3 c4 c5 c6 c7 KC hbX h0 h2 HH0 lb0
    have c1 : V.cell? ⟨b0, 1, none⟩ = some (.slice x.l f.plan.length x.lc) := cellB x0 1
    have lx0 : b0 < V.heap.size := (Array.getElem?_eq_some_iff.1 x0).1
    obtain ⟨_, hl23, hl0, _⟩ := check_ok hok.plan
    have hdl := hok.done
    have hgl := hok.got
    obtain ⟨db, dof, hd0, de, ldb⟩ := hFV.done.cell (f.plan.length - 1) (by omega)
    obtain ⟨hb, ho, x1, y1, x2, y2, hh, e0, e1, hFA, hDA⟩ := hFV.got.cells (f.plan.length - 1) (by omega)
    have c3 : V.cell? ⟨b0, 3, none⟩ = some (.slice (some ⟨db, dof, none⟩) f.done.length x.dc) := by rw [← hd0]; exact cellB x0 3
    have c4 : V.cell? ⟨b0, 4, none⟩ = some (.slice (some ⟨hb, ho, none⟩) f.got.length x.hc) := by rw [← hh]; exact cellB x0 4
    have hqo := each_ok f.got hok.gots _ (getD_mem f.got M.nil (f.plan.length - 1) (by omega))
    have hgI : ((f.plan.length - 1 : Nat) : Int) < (f.got.length : Int) := by omega
    have hdI : ((f.plan.length - 1 : Nat) : Int) < (f.done.length : Int) := by omega
    have hsub : ((f.plan.length : Int) - 1) = ((f.plan.length - 1 : Nat) : Int) := by omega
    have hlen : f.plan.length ≤ 9223372036854775807 := by omega
    generalize f.got.getD (f.plan.length - 1) M.nil = q at *
    generalize f.done.getD (f.plan.length - 1) false = dv at *
    clear hdl hgl hFV
    go_upto_region 5 with fail
    clear hsub
    generalize f.plan.length - 1 = ls at *
    cases dv
    · have HE2 : Hid (E = 11) := by rw [Hid, HE1.out]; rfl
      have HP2 : Hid (P = M.nil) := by rw [Hid, HP.out, HE2.out]; rfl
      have hz2 : ((V.setCell ⟨r, 0, none⟩ (.slice none 0 0)).setCell ⟨r, 1, none⟩ (.slice none 0 0)).heap[r]? = some (.cells #[.slice none 0 0, .slice none 0 0] 44 (0, 0)) := setB' (setB' v2 _) _
      have HBV : Hid (Below w.heap.size w ((V.setCell ⟨r, 0, none⟩ (.slice none 0 0)).setCell ⟨r, 1, none⟩ (.slice none 0 0))) := (HwV.out.setCell Hr.out.1 _).setCell Hr.out.1 _
      have r0 : V.cell? ⟨r, 0, none⟩ = some (.slice none 0 0) := cellB v2 0
      have r1 : V.cell? ⟨r, 1, none⟩ = some (.slice none 0 0) := cellB v2 1
      have rf : ∀ i, V.frozen? ⟨r, i, none⟩ = false := frozenB v2
      have lr : r < V.heap.size := (Array.getElem?_eq_some_iff.1 v2).1
      clear HE1 HP v2 x0 hFA hDA hqo c4 e0 e1 hgI
      go_wp2_with fail
      have t0 : ((V.setCell ⟨r, 0, none⟩ (.slice none 0 0)).setCell ⟨r, 1, none⟩ (.slice none 0 0)).cell? ⟨r, 0, none⟩ = some (.slice none 0 0) := cellB hz2 0
      have t1 : ((V.setCell ⟨r, 0, none⟩ (.slice none 0 0)).setCell ⟨r, 1, none⟩ (.slice none 0 0)).cell? ⟨r, 1, none⟩ = some (.slice none 0 0) := cellB hz2 1
      refine bodyPost_ret (v := .tuple #[.agg #[.slice none 0 0, .slice none 0 0], .int .i64 11]) (by simp [results, Try.results17, go_sem, t0, t1]) rfl ?_
      rw [HE2.out, HP2.out]
      exact ⟨HBV.out, none, 0, none, 0, rfl, (nil_at _).1, (nil_at _).2⟩
    · have HE2 : Hid (E = 0) := by rw [Hid, HE1.out]; rfl
      have HP2 : Hid (P = q) := by rw [Hid, HP.out, HE2.out]; rfl
      have KP : Hid (Calls Try.prog 43 #[.agg #[.slice x1 q.frags.length y1, .slice x2 q.defs.length y2]] V fun e w' => Below V.heap.size V w' ∧ ∃ x1 y1 x2 y2, e = .returned (.agg #[.slice x1 q.frags.length y1, .slice x2 q.defs.length y2]) ∧ POwn w' V.heap.size ⟨q, .slice x1 q.frags.length y1, .slice x2 q.defs.length y2⟩) := copyPart_any q _ _ _ _ V hFA hDA hqo
      have lr : r < V.heap.size := (Array.getElem?_eq_some_iff.1 v2).1
      have Hv2 : Hid (V.heap[r]? = some (.cells #[.slice none 0 0, .slice none 0 0] 44 (0, 0))) := v2
      have lhb : hb < V.heap.size := World.block_lt_of_cell? _ _ e0
      clear HE1 HP v2 x0 hFA hDA hqo
      go_wp2_with (go_at_call 43; refine KP.out.mono ?_; rintro e U ⟨hbU, z1, u1, z2, u2, rfl, hPU⟩; refine Hid.out ?_)
      have w2 := (hbU.block _ lr).trans Hv2.out
      have HwU : Hid (Below w.heap.size w U) := HwV.out.trans (hbU.mono HwV.out.size)
      have r0 : U.cell? ⟨r, 0, none⟩ = some (.slice none 0 0) := cellB w2 0
      have r1 : U.cell? ⟨r, 1, none⟩ = some (.slice none 0 0) := cellB w2 1
      have rf : ∀ i, U.frozen? ⟨r, i, none⟩ = false := frozenB w2
      have lru : r < U.heap.size := (Array.getElem?_eq_some_iff.1 w2).1
      have wr : Wr U ((U.setCell ⟨r, 0, none⟩ (.slice z1 q.frags.length u1)).setCell ⟨r, 1, none⟩ (.slice z2 q.defs.length u2)) 44 := ⟨r, _, w2, grown_trans (grown_set _ _ _ _) (grown_set _ _ _ _)⟩
      obtain ⟨a1, k1, a2, k2, ea, eb, hFq, hDq⟩ := (wr.pown hPU (by decide) (by decide) (by decide) (by decide)).at
      simp only at ea eb hFq hDq
      cases ea
      cases eb
      have HFD : Hid (FragsAt ((U.setCell ⟨r, 0, none⟩ (.slice z1 q.frags.length u1)).setCell ⟨r, 1, none⟩ (.slice z2 q.defs.length u2)) (.slice z1 q.frags.length u1) q.frags ∧ DefsAt ((U.setCell ⟨r, 0, none⟩ (.slice z1 q.frags.length u1)).setCell ⟨r, 1, none⟩ (.slice z2 q.defs.length u2)) (.slice z2 q.defs.length u2) q.defs) := ⟨hFq, hDq⟩
      have hz2 : ((U.setCell ⟨r, 0, none⟩ (.slice z1 q.frags.length u1)).setCell ⟨r, 1, none⟩ (.slice z2 q.defs.length u2)).heap[r]? = some (.cells #[.slice z1 q.frags.length u1, .slice z2 q.defs.length u2] 44 (0, 0)) := setB' (setB' w2 _) _
      have HBV : Hid (Below w.heap.size w ((U.setCell ⟨r, 0, none⟩ (.slice z1 q.frags.length u1)).setCell ⟨r, 1, none⟩ (.slice z2 q.defs.length u2))) := (HwU.out.setCell Hr.out.1 _).setCell Hr.out.1 _
      clear wr hPU hFq hDq w2 c1 c3 c4 e0 e1 de lx0 ldb KP hbU Hv2 lhb lr
      refine Lib.hid ?_
      go_wp2_with fail
      have t0 : ((U.setCell ⟨r, 0, none⟩ (.slice z1 q.frags.length u1)).setCell ⟨r, 1, none⟩ (.slice z2 q.defs.length u2)).cell? ⟨r, 0, none⟩ = some (.slice z1 q.frags.length u1) := cellB hz2 0
      have t1 : ((U.setCell ⟨r, 0, none⟩ (.slice z1 q.frags.length u1)).setCell ⟨r, 1, none⟩ (.slice z2 q.defs.length u2)).cell? ⟨r, 1, none⟩ = some (.slice z2 q.defs.length u2) := cellB hz2 1
      refine bodyPost_ret (v := .tuple #[.agg #[.slice z1 q.frags.length u1, .slice z2 q.defs.length u2], .int .i64 0]) (by simp [results, Try.results17, go_sem, t0, t1]) rfl ?_
      rw [HE2.out, HP2.out]
      exact ⟨HBV.out, z1, u1, z2, u2, rfl, HFD.out.1, HFD.out.2⟩
  · have HE2 : Hid (E = M.checkFarm f) := by rw [Hid, HE.out, M.orE, if_neg hck]
    have HP2 : Hid (P = M.nil) := by rw [Hid, HP.out, HE2.out, if_neg hck]
    have hne : (M.checkFarm f != 0) = true := by simpa using hck
    clear HE HP hck
    generalize M.checkFarm f = e' at *
    go_upto_region 3 with (go_at_call 9; refine KC.out.mono ?_; rintro e V ⟨rfl, hbX⟩)
    have v2 := (hbX.block _ (Array.getElem?_eq_some_iff.1 HH0.out.2).1).trans HH0.out.2
    have HwV : Hid (Below w.heap.size w V) := HA.out.trans (hbX.mono HA.out.size)
    have hz2 : ((V.setCell ⟨r, 0, none⟩ (.slice none 0 0)).setCell ⟨r, 1, none⟩ (.slice none 0 0)).heap[r]? = some (.cells #[.slice none 0 0, .slice none 0 0] 44 (0, 0)) := setB' (setB' v2 _) _
    have HBV : Hid (Below w.heap.size w ((V.setCell ⟨r, 0, none⟩ (.slice none 0 0)).setCell ⟨r, 1, none⟩ (.slice none 0 0))) := (HwV.out.setCell Hr.out.1 _).setCell Hr.out.1 _
    have r0 : V.cell? ⟨r, 0, none⟩ = some (.slice none 0 0) := cellB v2 0
    have r1 : V.cell? ⟨r, 1, none⟩ = some (.slice none 0 0) := cellB v2 1
    have rf : ∀ i, V.frozen? ⟨r, i, none⟩ = false := frozenB v2
    have lr : r < V.heap.size := (Array.getElem?_eq_some_iff.1 v2).1
    clear v2 c0 c1 c2 c3 c4 c5 c6 c7 KC hbX lb0
    go_wp2_with fail
    have t0 : ((V.setCell ⟨r, 0, none⟩ (.slice none 0 0)).setCell ⟨r, 1, none⟩ (.slice none 0 0)).cell? ⟨r, 0, none⟩ = some (.slice none 0 0) := cellB hz2 0
    have t1 : ((V.setCell ⟨r, 0, none⟩ (.slice none 0 0)).setCell ⟨r, 1, none⟩ (.slice none 0 0)).cell? ⟨r, 1, none⟩ = some (.slice none 0 0) := cellB hz2 1
    refine bodyPost_ret (v := .tuple #[.agg #[.slice none 0 0, .slice none 0 0], .int .i64 e']) (by simp [results, Try.results17, go_sem, t0, t1]) rfl ?_
    rw [HE2.out, HP2.out]
    exact ⟨HBV.out, none, 0, none, 0, rfl, (nil_at _).1, (nil_at _).2⟩

end Go.Proofs.Ytmlojlbmfceogaa
