/-
  The law FarmRises: whatever the farm and the happening, it returns true.
-/
import Derived.Test.YtmlojlbmfceogaaFmFact
import Derived.Test.YtmlojlbmfceogaaFmEqP
import Derived.Test.YtmlojlbmfceogaaFmRsMath
import Derived.Test.YtmlojlbmfceogaaPlEq
import Derived.Test.YtmlojlbmfceogaaPlEvOut
namespace Go.Proofs.Ytmlojlbmfceogaa
open Go Go.RowKit
set_option linter.unusedVariables false

attribute [local go_sem] lat_cell

theorem all_self {α : Type} (eq : α → α → Bool) (h : ∀ x, eq x x = true) : ∀ l : List α, M.allTwo eq l l = true
  | [] => rfl
  | x :: l => by unfold M.allTwo; rw [h, all_self eq h l]; rfl
theorem nd_self (n : M.Nd) : M.sameNd n n = true := by simp [M.sameNd]
theorem step_inv {f : M.Farm} {x : M.Hap} (h : (M.step f x).2 = 0) : M.FarmOk f ∧ M.step f x = M.happen f x := by
  unfold M.step at h ⊢
  by_cases h1 : M.checkFarm f = 0
  · rw [if_pos h1] at h ⊢
    by_cases h2 : (M.happen f x).2 = 0
    · rw [if_pos h2]; exact ⟨(M.farm_iff f).1 h1, rfl⟩
    · rw [if_neg h2] at h; exact absurd h h2
  · rw [if_neg h1] at h; exact absurd h h1

set_option maxHeartbeats 16000000 in
set_option maxRecDepth 100000 in
theorem rises_law (f : M.Farm) (x : Fd) (kd wk kk : Int) (w : World) (hf : FarmAt w f x) :
    Calls Try.prog 3 #[.agg #[.slice x.p f.parts.length x.pc, .slice x.l f.plan.length x.lc, .int .i64 f.now, .slice x.d f.done.length x.dc, .slice x.h f.got.length x.hc, .slice x.g f.grants.length x.gc, .slice x.k f.work.length x.kc, .slice x.n f.net.length x.nc], .agg #[.int .i64 kd, .int .i64 wk, .int .i64 kk]] w fun e w' => e = .returned (.bool true) ∧ Below w.heap.size w w' := by
  have hA : Below w.heap.size w ((w.alloc (.cells #[.slice x.p f.parts.length x.pc, .slice x.l f.plan.length x.lc, .int .i64 f.now, .slice x.d f.done.length x.dc, .slice x.h f.got.length x.hc, .slice x.g f.grants.length x.gc, .slice x.k f.work.length x.kc, .slice x.n f.net.length x.nc] 29)).alloc (.cells #[.int .i64 kd, .int .i64 wk, .int .i64 kk] 31)) := ((Below.refl _ _).alloc (Nat.le_refl _) _).alloc (by simp) _
  have h0 : ((w.alloc (.cells #[.slice x.p f.parts.length x.pc, .slice x.l f.plan.length x.lc, .int .i64 f.now, .slice x.d f.done.length x.dc, .slice x.h f.got.length x.hc, .slice x.g f.grants.length x.gc, .slice x.k f.work.length x.kc, .slice x.n f.net.length x.nc] 29)).alloc (.cells #[.int .i64 kd, .int .i64 wk, .int .i64 kk] 31)).heap[w.heap.size]? = some (.cells #[.slice x.p f.parts.length x.pc, .slice x.l f.plan.length x.lc, .int .i64 f.now, .slice x.d f.done.length x.dc, .slice x.h f.got.length x.hc, .slice x.g f.grants.length x.gc, .slice x.k f.work.length x.kc, .slice x.n f.net.length x.nc] 29 (0, 0)) := (heap_alloc_old _ _ (by simp)).trans (heap_alloc_new _ _)
  have h1 : ((w.alloc (.cells #[.slice x.p f.parts.length x.pc, .slice x.l f.plan.length x.lc, .int .i64 f.now, .slice x.d f.done.length x.dc, .slice x.h f.got.length x.hc, .slice x.g f.grants.length x.gc, .slice x.k f.work.length x.kc, .slice x.n f.net.length x.nc] 29)).alloc (.cells #[.int .i64 kd, .int .i64 wk, .int .i64 kk] 31)).heap[w.heap.size + 1]? = some (.cells #[.int .i64 kd, .int .i64 wk, .int .i64 kk] 31 (0, 0)) := by
    have := heap_alloc_new (w.alloc (.cells #[.slice x.p f.parts.length x.pc, .slice x.l f.plan.length x.lc, .int .i64 f.now, .slice x.d f.done.length x.dc, .slice x.h f.got.length x.hc, .slice x.g f.grants.length x.gc, .slice x.k f.work.length x.kc, .slice x.n f.net.length x.nc] 29)) (.cells #[.int .i64 kd, .int .i64 wk, .int .i64 kk] 31)
    simpa using this
  have HA : Hid (Below w.heap.size w ((w.alloc (.cells #[.slice x.p f.parts.length x.pc, .slice x.l f.plan.length x.lc, .int .i64 f.now, .slice x.d f.done.length x.dc, .slice x.h f.got.length x.hc, .slice x.g f.grants.length x.gc, .slice x.k f.work.length x.kc, .slice x.n f.net.length x.nc] 29)).alloc (.cells #[.int .i64 kd, .int .i64 wk, .int .i64 kk] 31))) := hA
  have HF : Hid (∀ W, Below w.heap.size w W → FarmAt W f x) := fun W hW => hf.later hW
  have KFm : Hid (∀ W, Calls Try.prog 8 #[] W fun e w' => e = .returned (.bool true) ∧ Below W.heap.size W w') := fun W => farmed_true W
  clear hf hA
  go_enter Try.func3, Try.ntmps3
  go_upto_region 1 with fail
  obtain ⟨b0, hb0⟩ : ∃ b0, b0 = w.heap.size := ⟨_, rfl⟩
  obtain ⟨b1, hb1⟩ : ∃ b1, b1 = w.heap.size + 1 := ⟨_, rfl⟩
  rw [← hb1] at h1 ⊢
  rw [← hb0] at h0 ⊢
  clear hb0 hb1
  generalize (w.alloc (.cells #[.slice x.p f.parts.length x.pc, .slice x.l f.plan.length x.lc, .int .i64 f.now, .slice x.d f.done.length x.dc, .slice x.h f.got.length x.hc, .slice x.g f.grants.length x.gc, .slice x.k f.work.length x.kc, .slice x.n f.net.length x.nc] 29)).alloc (.cells #[.int .i64 kd, .int .i64 wk, .int .i64 kk] 31) = Z at *
  have KD : Hid (Calls Try.prog 7 #[.agg #[.slice x.p f.parts.length x.pc, .slice x.l f.plan.length x.lc, .int .i64 f.now, .slice x.d f.done.length x.dc, .slice x.h f.got.length x.hc, .slice x.g f.grants.length x.gc, .slice x.k f.work.length x.kc, .slice x.n f.net.length x.nc], .agg #[.int .i64 kd, .int .i64 wk, .int .i64 kk]] Z fun e w' => Below Z.heap.size Z w' ∧ ∃ y, e = .returned (.tuple #[.agg #[.slice y.p (M.step f ⟨kd, wk, kk⟩).1.parts.length y.pc, .slice y.l (M.step f ⟨kd, wk, kk⟩).1.plan.length y.lc, .int .i64 (M.step f ⟨kd, wk, kk⟩).1.now, .slice y.d (M.step f ⟨kd, wk, kk⟩).1.done.length y.dc, .slice y.h (M.step f ⟨kd, wk, kk⟩).1.got.length y.hc, .slice y.g (M.step f ⟨kd, wk, kk⟩).1.grants.length y.gc, .slice y.k (M.step f ⟨kd, wk, kk⟩).1.work.length y.kc, .slice y.n (M.step f ⟨kd, wk, kk⟩).1.net.length y.nc], .int .i64 (M.step f ⟨kd, wk, kk⟩).2]) ∧ FarmAt w' (M.step f ⟨kd, wk, kk⟩).1 y) := (do_any f x Z (HF.out Z HA.out) kd wk kk).mono fun e w' ⟨j1, y, j2, j3, _⟩ => ⟨j1, y, j2, j3⟩
  have c0 : Z.cell? ⟨b0, 0, none⟩ = some (.slice x.p f.parts.length x.pc) := cellB h0 0
  have c1 : Z.cell? ⟨b0, 1, none⟩ = some (.slice x.l f.plan.length x.lc) := cellB h0 1
  have c2 : Z.cell? ⟨b0, 2, none⟩ = some (.int .i64 f.now) := cellB h0 2
  have c3 : Z.cell? ⟨b0, 3, none⟩ = some (.slice x.d f.done.length x.dc) := cellB h0 3
  have c4 : Z.cell? ⟨b0, 4, none⟩ = some (.slice x.h f.got.length x.hc) := cellB h0 4
  have c5 : Z.cell? ⟨b0, 5, none⟩ = some (.slice x.g f.grants.length x.gc) := cellB h0 5
  have c6 : Z.cell? ⟨b0, 6, none⟩ = some (.slice x.k f.work.length x.kc) := cellB h0 6
  have c7 : Z.cell? ⟨b0, 7, none⟩ = some (.slice x.n f.net.length x.nc) := cellB h0 7
  have q0 : Z.cell? ⟨b1, 0, none⟩ = some (.int .i64 kd) := cellB h1 0
  have q1 : Z.cell? ⟨b1, 1, none⟩ = some (.int .i64 wk) := cellB h1 1
  have q2 : Z.cell? ⟨b1, 2, none⟩ = some (.int .i64 kk) := cellB h1 2
  have lb0 : b0 < Z.heap.size := (Array.getElem?_eq_some_iff.1 h0).1
  have lb1 : b1 < Z.heap.size := (Array.getElem?_eq_some_iff.1 h1).1
  have HH : Hid (Z.heap[b0]? = some (.cells #[.slice x.p f.parts.length x.pc, .slice x.l f.plan.length x.lc, .int .i64 f.now, .slice x.d f.done.length x.dc, .slice x.h f.got.length x.hc, .slice x.g f.grants.length x.gc, .slice x.k f.work.length x.kc, .slice x.n f.net.length x.nc] 29 (0, 0)) ∧ Z.heap[b1]? = some (.cells #[.int .i64 kd, .int .i64 wk, .int .i64 kk] 31 (0, 0))) := ⟨h0, h1⟩
  clear h0 h1
  have hinv := @step_inv f ⟨kd, wk, kk⟩
  have Hinv : Hid ((M.step f ⟨kd, wk, kk⟩).2 = 0 → M.FarmOk f ∧ M.Rises f (M.step f ⟨kd, wk, kk⟩).1 kd ∧ M.FarmOk (M.step f ⟨kd, wk, kk⟩).1) := fun h => by
    obtain ⟨j1, j2⟩ := hinv h
    rw [j2]
    exact ⟨j1, M.rises_happen f ⟨kd, wk, kk⟩, M.happen_ok j1 (fun n hn => node_leaf j1 hn) _⟩
  clear hinv
  generalize M.step f ⟨kd, wk, kk⟩ = st at *
  obtain ⟨g, e'⟩ := st
  simp only at KD Hinv
  go_upto_region 2 with (go_at_call 7; refine KD.out.mono ?_; rintro e X ⟨hbX, y, rfl, hgX⟩)
  have hAl := (Below.refl X.heap.size X).alloc (Nat.le_refl _) (.cells #[.slice y.p g.parts.length y.pc, .slice y.l g.plan.length y.lc, .int .i64 g.now, .slice y.d g.done.length y.dc, .slice y.h g.got.length y.hc, .slice y.g g.grants.length y.gc, .slice y.k g.work.length y.kc, .slice y.n g.net.length y.nc] 29)
  have hn := heap_alloc_new X (.cells #[.slice y.p g.parts.length y.pc, .slice y.l g.plan.length y.lc, .int .i64 g.now, .slice y.d g.done.length y.dc, .slice y.h g.got.length y.hc, .slice y.g g.grants.length y.gc, .slice y.k g.work.length y.kc, .slice y.n g.net.length y.nc] 29)
  have hZY := hbX.trans (hAl.mono hbX.size)
  have HI : Hid (∀ W, Below (X.alloc (.cells #[.slice y.p g.parts.length y.pc, .slice y.l g.plan.length y.lc, .int .i64 g.now, .slice y.d g.done.length y.dc, .slice y.h g.got.length y.hc, .slice y.g g.grants.length y.gc, .slice y.k g.work.length y.kc, .slice y.n g.net.length y.nc] 29)).heap.size (X.alloc (.cells #[.slice y.p g.parts.length y.pc, .slice y.l g.plan.length y.lc, .int .i64 g.now, .slice y.d g.done.length y.dc, .slice y.h g.got.length y.hc, .slice y.g g.grants.length y.gc, .slice y.k g.work.length y.kc, .slice y.n g.net.length y.nc] 29)) W → (W.heap[b0]? = some (.cells #[.slice x.p f.parts.length x.pc, .slice x.l f.plan.length x.lc, .int .i64 f.now, .slice x.d f.done.length x.dc, .slice x.h f.got.length x.hc, .slice x.g f.grants.length x.gc, .slice x.k f.work.length x.kc, .slice x.n f.net.length x.nc] 29 (0, 0)) ∧ W.heap[b1]? = some (.cells #[.int .i64 kd, .int .i64 wk, .int .i64 kk] 31 (0, 0)) ∧ W.heap[X.heap.size]? = some (.cells #[.slice y.p g.parts.length y.pc, .slice y.l g.plan.length y.lc, .int .i64 g.now, .slice y.d g.done.length y.dc, .slice y.h g.got.length y.hc, .slice y.g g.grants.length y.gc, .slice y.k g.work.length y.kc, .slice y.n g.net.length y.nc] 29 (0, 0))) ∧ FarmAt W f x ∧ FarmAt W g y ∧ Below w.heap.size w W) := fun W hW => by
    have h2 := hZY.trans (hW.mono hZY.size)
    have h3 := HA.out.trans (h2.mono HA.out.size)
    exact ⟨⟨(h2.block _ lb0).trans HH.out.1, (h2.block _ lb1).trans HH.out.2, (hW.block _ (Array.getElem?_eq_some_iff.1 hn).1).trans hn⟩, HF.out W h3, (hgX.later hAl).later hW, h3⟩
  obtain ⟨bg, hbg⟩ : ∃ bg, bg = X.heap.size := ⟨_, rfl⟩
  rw [← hbg] at HI ⊢
  clear hbg hAl hn hZY hbX hgX KD c0 c1 c2 c3 c4 c5 c6 c7 q0 q1 q2 lb0 lb1 HH HA
  generalize X.alloc (.cells #[.slice y.p g.parts.length y.pc, .slice y.l g.plan.length y.lc, .int .i64 g.now, .slice y.d g.done.length y.dc, .slice y.h g.got.length y.hc, .slice y.g g.grants.length y.gc, .slice y.k g.work.length y.kc, .slice y.n g.net.length y.nc] 29) = Y at *
  by_cases he : e' = 0
  · have hne : (e' != 0) = false := by simp [he]
    obtain ⟨hok, hrs, hokg⟩ := Hinv.out he
    clear he Hinv
    go_upto_region 4 with (go_at_call 8; refine (KFm.out _).mono ?_; rintro e V ⟨rfl, hbV⟩)
    obtain ⟨⟨i0, i1, ig⟩, hfV, hgV, HwV⟩ := HI.out V hbV
    have HV : Hid (∀ W, Below V.heap.size V W → (W.heap[b0]? = some (.cells #[.slice x.p f.parts.length x.pc, .slice x.l f.plan.length x.lc, .int .i64 f.now, .slice x.d f.done.length x.dc, .slice x.h f.got.length x.hc, .slice x.g f.grants.length x.gc, .slice x.k f.work.length x.kc, .slice x.n f.net.length x.nc] 29 (0, 0)) ∧ W.heap[b1]? = some (.cells #[.int .i64 kd, .int .i64 wk, .int .i64 kk] 31 (0, 0)) ∧ W.heap[bg]? = some (.cells #[.slice y.p g.parts.length y.pc, .slice y.l g.plan.length y.lc, .int .i64 g.now, .slice y.d g.done.length y.dc, .slice y.h g.got.length y.hc, .slice y.g g.grants.length y.gc, .slice y.k g.work.length y.kc, .slice y.n g.net.length y.nc] 29 (0, 0))) ∧ FarmAt W f x ∧ FarmAt W g y ∧ Below w.heap.size w W) := fun W hW => HI.out W (hbV.trans (hW.mono hbV.size))
    have KC : Hid (Calls Try.prog 9 #[.agg #[.slice y.p g.parts.length y.pc, .slice y.l g.plan.length y.lc, .int .i64 g.now, .slice y.d g.done.length y.dc, .slice y.h g.got.length y.hc, .slice y.g g.grants.length y.gc, .slice y.k g.work.length y.kc, .slice y.n g.net.length y.nc]] V fun e w' => e = .returned (.int .i64 0) ∧ Below V.heap.size V w') := by
      have := farmCheck_any g y V hgV
      rw [(M.farm_iff g).2 hokg] at this
      exact this
    have KN : Hid (∀ W, Below V.heap.size V W → Calls Try.prog 10 #[.slice y.l g.plan.length y.lc, .slice x.l f.plan.length x.lc] W fun e w' => e = .returned (.bool true) ∧ Below W.heap.size W w') := fun W hW => by
      have := eqNodes_any g.plan f.plan _ _ _ _ W (HV.out W hW).2.2.1.plan (HV.out W hW).2.1.plan
      rw [show M.allTwo M.sameNd g.plan f.plan = true by rw [hrs.plan]; exact all_self _ nd_self _] at this
      exact this
    have KE : Hid (∀ W, Below V.heap.size V W → Calls Try.prog 11 #[.slice y.p g.parts.length y.pc, .slice x.p f.parts.length x.pc, .func (.func 12) #[] #[]] W fun e w' => e = .returned (.bool true) ∧ Below W.heap.size W w') := fun W hW => by
      have := equalPartsF_any g.parts f.parts _ _ _ _ W (HV.out W hW).2.2.1.parts (HV.out W hW).2.1.parts
      rw [show M.allTwo M.samePart g.parts f.parts = true by rw [hrs.parts]; exact all_self _ same_selfP _] at this
      exact this
    have c0 : V.cell? ⟨b0, 0, none⟩ = some (.slice x.p f.parts.length x.pc) := cellB i0 0
    have c1 : V.cell? ⟨b0, 1, none⟩ = some (.slice x.l f.plan.length x.lc) := cellB i0 1
    have c2 : V.cell? ⟨b0, 2, none⟩ = some (.int .i64 f.now) := cellB i0 2
    have c3 : V.cell? ⟨b0, 3, none⟩ = some (.slice x.d f.done.length x.dc) := cellB i0 3
    have c4 : V.cell? ⟨b0, 4, none⟩ = some (.slice x.h f.got.length x.hc) := cellB i0 4
    have c5 : V.cell? ⟨b0, 5, none⟩ = some (.slice x.g f.grants.length x.gc) := cellB i0 5
    have c6 : V.cell? ⟨b0, 6, none⟩ = some (.slice x.k f.work.length x.kc) := cellB i0 6
    have c7 : V.cell? ⟨b0, 7, none⟩ = some (.slice x.n f.net.length x.nc) := cellB i0 7
    have g0 : V.cell? ⟨bg, 0, none⟩ = some (.slice y.p g.parts.length y.pc) := cellB ig 0
    have g1 : V.cell? ⟨bg, 1, none⟩ = some (.slice y.l g.plan.length y.lc) := cellB ig 1
    have g2 : V.cell? ⟨bg, 2, none⟩ = some (.int .i64 g.now) := cellB ig 2
    have g3 : V.cell? ⟨bg, 3, none⟩ = some (.slice y.d g.done.length y.dc) := cellB ig 3
    have g4 : V.cell? ⟨bg, 4, none⟩ = some (.slice y.h g.got.length y.hc) := cellB ig 4
    have g5 : V.cell? ⟨bg, 5, none⟩ = some (.slice y.g g.grants.length y.gc) := cellB ig 5
    have g6 : V.cell? ⟨bg, 6, none⟩ = some (.slice y.k g.work.length y.kc) := cellB ig 6
    have g7 : V.cell? ⟨bg, 7, none⟩ = some (.slice y.n g.net.length y.nc) := cellB ig 7
    have l0 : b0 < V.heap.size := (Array.getElem?_eq_some_iff.1 i0).1
    have lg : bg < V.heap.size := (Array.getElem?_eq_some_iff.1 ig).1
    have t1 : ((g.work.length : Int) != (f.work.length : Int)) = false := by simp [hrs.work]
    have t2 : ¬ g.now < f.now := by have := hrs.now0; omega
    have t3 : ¬ f.now + 1 < g.now := by have := hrs.now1; omega
    have hdl : g.done.length = f.done.length := by have h1 := hok.done; have h2 := hokg.done; rw [hrs.plan] at h2; omega
    have hhl : g.got.length = f.got.length := by have h1 := hok.got; have h2 := hokg.got; rw [hrs.plan] at h2; omega
    have t4 : ((g.done.length : Int) != (f.done.length : Int)) = false := by simp [hdl]
    have t5 : ((g.got.length : Int) != (f.got.length : Int)) = false := by simp [hhl]
    have n0 := hok.now0
    have n1 := hok.now1
    have hd23 : f.done.length ≤ 23 := by have := (farm_small hok).1; have := hok.done; omega
    have Hl : Hid (g.done.length = f.done.length ∧ g.got.length = f.got.length ∧ f.got.length = f.done.length) := ⟨hdl, hhl, by have := hok.got; have := hok.done; omega⟩
    have Hrs : Hid (M.Rises f g kd) := hrs
    clear hdl hhl hok hokg hrs i0 i1 ig hfV hgV HI
    go_wp2_with (go_at_call 9; refine KC.out.mono ?_; rintro e V1 ⟨rfl, hb1⟩; refine Hid.out ?_)
    refine Lib.hid ?_
    clear l0 lg c0 g0 c1 g1 c2 g2 c3 g3 c4 g4 c5 g5 c6 g6 c7 g7
    obtain ⟨⟨i0, i1, ig⟩, -, -, -⟩ := HV.out V1 hb1
    have c1 : V1.cell? ⟨b0, 1, none⟩ = some (.slice x.l f.plan.length x.lc) := cellB i0 1
    have g1 : V1.cell? ⟨bg, 1, none⟩ = some (.slice y.l g.plan.length y.lc) := cellB ig 1
    have l0 : b0 < V1.heap.size := (Array.getElem?_eq_some_iff.1 i0).1
    have lg : bg < V1.heap.size := (Array.getElem?_eq_some_iff.1 ig).1
    clear i0 i1 ig
    go_wp2_with (go_at_call 10; refine (KN.out _ hb1).mono ?_; rintro e V2 ⟨rfl, hb2⟩; refine Hid.out ?_)
    refine Lib.hid ?_
    replace hb2 := hb1.trans (hb2.mono hb1.size)
    clear l0 lg c1 g1
    clear hb1
    obtain ⟨⟨i0, i1, ig⟩, -, -, -⟩ := HV.out V2 hb2
    have c0 : V2.cell? ⟨b0, 0, none⟩ = some (.slice x.p f.parts.length x.pc) := cellB i0 0
    have g0 : V2.cell? ⟨bg, 0, none⟩ = some (.slice y.p g.parts.length y.pc) := cellB ig 0
    have l0 : b0 < V2.heap.size := (Array.getElem?_eq_some_iff.1 i0).1
    have lg : bg < V2.heap.size := (Array.getElem?_eq_some_iff.1 ig).1
    clear i0 i1 ig
    go_wp2_with (go_at_call 11; refine (KE.out _ hb2).mono ?_; rintro e V3 ⟨rfl, hb3⟩; refine Hid.out ?_)
    refine Lib.hid ?_
    replace hb3 := hb2.trans (hb3.mono hb2.size)
    clear l0 lg c0 g0
    clear hb2
    obtain ⟨⟨i0, i1, ig⟩, -, -, -⟩ := HV.out V3 hb3
    have c2 : V3.cell? ⟨b0, 2, none⟩ = some (.int .i64 f.now) := cellB i0 2
    have g2 : V3.cell? ⟨bg, 2, none⟩ = some (.int .i64 g.now) := cellB ig 2
    have c3 : V3.cell? ⟨b0, 3, none⟩ = some (.slice x.d f.done.length x.dc) := cellB i0 3
    have g3 : V3.cell? ⟨bg, 3, none⟩ = some (.slice y.d g.done.length y.dc) := cellB ig 3
    have c4 : V3.cell? ⟨b0, 4, none⟩ = some (.slice x.h f.got.length x.hc) := cellB i0 4
    have g4 : V3.cell? ⟨bg, 4, none⟩ = some (.slice y.h g.got.length y.hc) := cellB ig 4
    have c6 : V3.cell? ⟨b0, 6, none⟩ = some (.slice x.k f.work.length x.kc) := cellB i0 6
    have g6 : V3.cell? ⟨bg, 6, none⟩ = some (.slice y.k g.work.length y.kc) := cellB ig 6
    have l0 : b0 < V3.heap.size := (Array.getElem?_eq_some_iff.1 i0).1
    have lg : bg < V3.heap.size := (Array.getElem?_eq_some_iff.1 ig).1
    clear i0 i1 ig
    have HB3 : Hid (Below V.heap.size V V3) := hb3
    clear hb3 KC KN KE
    have HR : Hid (∀ W, Below V.heap.size V W → (W.cell? ⟨b0, 4, none⟩ = some (.slice x.h f.got.length x.hc) ∧ W.cell? ⟨bg, 3, none⟩ = some (.slice y.d g.done.length y.dc) ∧ W.cell? ⟨bg, 4, none⟩ = some (.slice y.h g.got.length y.hc) ∧ W.cell? ⟨b1, 0, none⟩ = some (.int .i64 kd) ∧ b0 < W.heap.size ∧ b1 < W.heap.size ∧ bg < W.heap.size) ∧ BoolsAt W (.slice x.d f.done.length x.dc) f.done ∧ BoolsAt W (.slice y.d g.done.length y.dc) g.done ∧ PartsAt W (.slice x.h f.got.length x.hc) f.got ∧ PartsAt W (.slice y.h g.got.length y.hc) g.got ∧ Below w.heap.size w W) := fun W hW => by
      obtain ⟨⟨i0, i1, ig⟩, j1, j2, j3⟩ := HV.out W hW
      exact ⟨⟨cellB i0 4, cellB ig 3, cellB ig 4, cellB i1 0, (Array.getElem?_eq_some_iff.1 i0).1, (Array.getElem?_eq_some_iff.1 i1).1, (Array.getElem?_eq_some_iff.1 ig).1⟩, j1.done, j2.done, j1.got, j2.got, j3⟩
    clear HV KFm HF
    go_wp2_with fail
    clear t1 t2 t3 t4 t5 n0 n1 l0 lg c2 c3 c4 c6 g2 g3 g4 g6 hne
    generalize x.d = xd at *
    generalize x.h = xh at *
    generalize y.d = yd at *
    generalize y.h = yh at *
    go_loopw [7, 87] (fun s7 s87 wr => ∃ (k : Nat), k ≤ f.done.length ∧ s87 = .int .i64 k ∧ s7 = .int .i64 (M.moreN f.done g.done k) ∧ Hid (Below V.heap.size V wr)) (fun _ s87 _ => f.done.length - (intOf s87).toNat)
    case atStart => exact ⟨0, Nat.zero_le _, rfl, rfl, HB3⟩
    case round =>
      obtain ⟨k, hk, rfl, rfl, HB⟩ := hrel
      obtain ⟨⟨d2, d3, d4, d5, lb0, lb1, lbg⟩, hD1, hD2, hH1, hH2, hwW⟩ := HR.out wr HB.out
      have HwW : Hid (Below w.heap.size w wr) := hwW
      have hm := M.rises_more Hrs.out k
      clear hwW HB3
      by_cases hlt : k < f.done.length
      · obtain ⟨b, off, rfl, e1, hbr⟩ := hD1.cell k hlt
        obtain ⟨bb, off2, rfl, e2, hbr2⟩ := hD2.cell k (by rw [Hl.out.1]; exact hlt)
        have HM : Hid (M.moreN f.done g.done (k + 1) = M.moreN f.done g.done k + (if (!(f.done.getD k false) && g.done.getD k false) = true then 1 else 0)) := M.more_step _ _ _
        have hkl : (k : Int) < (f.done.length : Int) := by omega
        have hkg : (k : Int) < (g.done.length : Int) := by rw [Hl.out.1]; exact hkl
        have hk0 : (0 : Int) ≤ (k : Int) := by omega
        have hmb : 0 ≤ M.moreN f.done g.done k ∧ M.moreN f.done g.done k ≤ 1 := by omega
        obtain ⟨hm0, hm1⟩ := hmb
        clear hm
        cases hT : f.done.getD k false
        · rw [hT] at e1 HM
          clear hT hH1 hH2 hD1 hD2
          generalize M.moreN f.done g.done k = N at *
          go_upto_region 10 with fail
          refine wp_region_lat (by kernel_rfl) (by kernel_rfl) ?_
          intro hne
          repeat (go_big_quiet_step (fail))
          refine wpQuiet_nil ?_
          intro X hX
          have hX := lat_out hX
          replace d3 := cell_later hX d3
          replace e2 := cell_later hX e2
          replace lbg := Nat.lt_of_lt_of_le lbg hX.size
          replace hbr2 := Nat.lt_of_lt_of_le hbr2 hX.size
          have HX : Hid (Below V.heap.size V X) := HB.out.trans (hX.mono HB.out.size)
          clear hX hne e1 d2 d4 d5
          cases hG : g.done.getD k false
          · rw [hG] at e2 HM
            have HN : Hid (M.moreN f.done g.done (k + 1) = N) := by rw [Hid, HM.out]; simp
            clear HM hG
            go_wp2_with fail
            go_roundw
            case rel => exact ⟨k + 1, by omega, by go_num, by rw [HN.out], HX⟩
            case measure => simp [intOf]; omega
          · rw [hG] at e2 HM
            have HN : Hid (M.moreN f.done g.done (k + 1) = N + 1) := by rw [Hid, HM.out]; simp
            clear HM hG
            have hw : IntKind.i64.wrap (N + 1) = N + 1 := by rw [IntKind.wrap_i64] <;> omega
            go_wp2_with fail
            go_roundw
            case rel => exact ⟨k + 1, by omega, by go_num, by rw [HN.out], HX⟩
            case measure => simp [intOf]; omega
        · obtain ⟨hG, hgot⟩ := M.rises_keep Hrs.out k hT
          rw [hT] at e1 HM
          rw [hG] at e2
          have hkh : k < f.got.length := by rw [Hl.out.2.2]; exact hlt
          have hkh2 : k < g.got.length := by rw [Hl.out.2.1]; exact hkh
          obtain ⟨b3, off3, x1, y1, x2, y2, rfl, p1, p2, hF1, hF2⟩ := hH1.cells k hkh
          obtain ⟨b4, off4, x3, y3, x4, y4, rfl, p3, p4, hF3, hF4⟩ := hH2.cells k hkh2
          rw [hgot] at p3 p4 hF3 hF4
          have HN : Hid (M.moreN f.done g.done (k + 1) = M.moreN f.done g.done k) := by rw [Hid, HM.out]; simp
          have KS : Hid (∀ W, Below wr.heap.size wr W → Calls Try.prog 12 #[.agg #[.slice x3 (f.got.getD k M.nil).frags.length y3, .slice x4 (f.got.getD k M.nil).defs.length y4], .agg #[.slice x1 (f.got.getD k M.nil).frags.length y1, .slice x2 (f.got.getD k M.nil).defs.length y2]] W fun e w' => e = .returned (.bool true) ∧ Below W.heap.size W w') := fun W hW => by
            have := same_any (f.got.getD k M.nil).frags (f.got.getD k M.nil).frags (f.got.getD k M.nil).defs (f.got.getD k M.nil).defs _ _ _ _ _ _ _ _ W (hF3.later hW) (hF4.later hW) (hF1.later hW) (hF2.later hW)
            rw [same_selfP ⟨_, _⟩] at this
            exact this
          have hkI : (k : Int) < (f.got.length : Int) := by omega
          have hkJ : (k : Int) < (g.got.length : Int) := by omega
          have hb3 : b3 < wr.heap.size := World.block_lt_of_cell? _ _ p1
          have hb4 : b4 < wr.heap.size := World.block_lt_of_cell? _ _ p3
          clear HM hT hG hgot hH1 hH2 hD1 hD2 hF1 hF2 hF3 hF4
          generalize M.moreN f.done g.done k = N at *
          generalize f.got.getD k M.nil = P at *
          go_upto_region 10 with fail
          refine wp_region_lat (by kernel_rfl) (by kernel_rfl) ?_
          intro hne
          repeat (go_big_quiet_step ((go_at_call 12; exact lat_of (KS.out _ (Lat.below _)))))
          refine wpQuiet_nil ?_
          intro X hX
          have hX := lat_out hX
          have HX : Hid (Below V.heap.size V X) := HB.out.trans (hX.mono HB.out.size)
          clear hX hne
          go_wp2_with fail
          go_roundw
          case rel => exact ⟨k + 1, by omega, by go_num, by rw [HN.out], HX⟩
          case measure => simp [intOf]; omega
      · obtain rfl : k = f.done.length := by omega
        clear hD1 hD2 hH1 hH2
        generalize M.moreN f.done g.done f.done.length = N at *
        rcases hm with rfl | ⟨rfl, rfl⟩
        · go_wp2_with fail
          go_ret
          exact ⟨rfl, HwW.out⟩
        · go_wp2_with fail
          go_ret
          exact ⟨rfl, HwW.out⟩
  · have hne : (e' != 0) = true := by simpa using he
    clear Hinv he
    go_wp2_with (go_at_call 8; refine (KFm.out _).mono ?_; rintro e V ⟨rfl, hbV⟩; refine Hid.out ?_)
    refine Lib.hid ?_
    go_wp2_with (go_at_call 8; refine (KFm.out _).mono ?_; rintro e V2 ⟨rfl, hbV2⟩)
    go_ret
    exact ⟨rfl, (HI.out V2 (hbV.trans (hbV2.mono hbV.size))).2.2.2⟩

end Go.Proofs.Ytmlojlbmfceogaa
