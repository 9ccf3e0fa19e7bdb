/-
  The law FarmNet: whatever the farm and the number, it returns true.
-/
import Derived.Test.YtmlojlbmfceogaaFmFact
import Derived.Test.YtmlojlbmfceogaaFmEq
import Derived.Test.YtmlojlbmfceogaaFmNtMath
import Derived.Test.YtmlojlbmfceogaaFmAtN
namespace Go.Proofs.Ytmlojlbmfceogaa
open Go Go.RowKit
set_option linter.unusedVariables false

set_option maxHeartbeats 16000000 in
set_option maxRecDepth 100000 in
theorem net_law (f : M.Farm) (x : Fd) (k : Int) (w : World) (hf : FarmAt w f x) :
    Calls Try.prog 6 #[.agg #[.slice x.p f.parts.length x.pc, .slice x.l f.plan.length x.lc, .int .i64 f.now, .slice x.d f.done.length x.dc, .slice x.h f.got.length x.hc, .slice x.g f.grants.length x.gc, .slice x.k f.work.length x.kc, .slice x.n f.net.length x.nc], .int .i64 k] w fun e w' => e = .returned (.bool true) ∧ Below w.heap.size w w' := by
  have hA : Below w.heap.size w (w.alloc (.cells #[.slice x.p f.parts.length x.pc, .slice x.l f.plan.length x.lc, .int .i64 f.now, .slice x.d f.done.length x.dc, .slice x.h f.got.length x.hc, .slice x.g f.grants.length x.gc, .slice x.k f.work.length x.kc, .slice x.n f.net.length x.nc] 29)) := (Below.refl _ _).alloc (Nat.le_refl _) _
  have h0 := heap_alloc_new w (.cells #[.slice x.p f.parts.length x.pc, .slice x.l f.plan.length x.lc, .int .i64 f.now, .slice x.d f.done.length x.dc, .slice x.h f.got.length x.hc, .slice x.g f.grants.length x.gc, .slice x.k f.work.length x.kc, .slice x.n f.net.length x.nc] 29)
  have KFm : Hid (∀ W, Calls Try.prog 8 #[] W fun e w' => e = .returned (.bool true) ∧ Below W.heap.size W w') := fun W => farmed_true W
  go_enter Try.func6, Try.ntmps6
  go_upto_region 1 with fail
  obtain ⟨b0, hb0⟩ : ∃ b0, b0 = w.heap.size := ⟨_, rfl⟩
  rw [← hb0] at h0 ⊢
  obtain ⟨V0, hV0⟩ : ∃ V0, V0 = (w.alloc (.cells #[.slice x.p f.parts.length x.pc, .slice x.l f.plan.length x.lc, .int .i64 f.now, .slice x.d f.done.length x.dc, .slice x.h f.got.length x.hc, .slice x.g f.grants.length x.gc, .slice x.k f.work.length x.kc, .slice x.n f.net.length x.nc] 29)) := ⟨_, rfl⟩
  rw [← hV0] at h0 hA ⊢
  clear hV0 hb0
  have HV : Hid (∀ W, Below V0.heap.size V0 W → (W.heap[b0]? = some (.cells #[.slice x.p f.parts.length x.pc, .slice x.l f.plan.length x.lc, .int .i64 f.now, .slice x.d f.done.length x.dc, .slice x.h f.got.length x.hc, .slice x.g f.grants.length x.gc, .slice x.k f.work.length x.kc, .slice x.n f.net.length x.nc] 29 (0, 0)) ∧ True) ∧ (FarmAt W f x ∧ True) ∧ Below w.heap.size w W) := fun W hW => by
    have h2 := hA.trans (hW.mono hA.size)
    exact ⟨⟨(hW.block _ (Array.getElem?_eq_some_iff.1 h0).1).trans h0, trivial⟩, ⟨hf.later h2, trivial⟩, h2⟩
  clear hf hA h0
  go_wp2_with (go_at_call 8; refine (KFm.out _).mono ?_; rintro e V1 ⟨rfl, hb1⟩; refine Hid.out ?_)
  refine Lib.hid ?_
  have i0 := (HV.out V1 hb1).1.1
  have c0 : V1.cell? ⟨b0, 0, none⟩ = some (.slice x.p f.parts.length x.pc) := cellB i0 0
  have c1 : V1.cell? ⟨b0, 1, none⟩ = some (.slice x.l f.plan.length x.lc) := cellB i0 1
  have c2 : V1.cell? ⟨b0, 2, none⟩ = some (.int .i64 f.now) := cellB i0 2
  have c3 : V1.cell? ⟨b0, 3, none⟩ = some (.slice x.d f.done.length x.dc) := cellB i0 3
  have c4 : V1.cell? ⟨b0, 4, none⟩ = some (.slice x.h f.got.length x.hc) := cellB i0 4
  have c5 : V1.cell? ⟨b0, 5, none⟩ = some (.slice x.g f.grants.length x.gc) := cellB i0 5
  have c6 : V1.cell? ⟨b0, 6, none⟩ = some (.slice x.k f.work.length x.kc) := cellB i0 6
  have c7 : V1.cell? ⟨b0, 7, none⟩ = some (.slice x.n f.net.length x.nc) := cellB i0 7
  have lc : b0 < V1.heap.size := (Array.getElem?_eq_some_iff.1 i0).1
  clear i0
  have KC : Hid (Calls Try.prog 9 #[.agg #[.slice x.p f.parts.length x.pc, .slice x.l f.plan.length x.lc, .int .i64 f.now, .slice x.d f.done.length x.dc, .slice x.h f.got.length x.hc, .slice x.g f.grants.length x.gc, .slice x.k f.work.length x.kc, .slice x.n f.net.length x.nc]] V1 fun e w' => e = .returned (.int .i64 (M.checkFarm f)) ∧ Below V1.heap.size V1 w') := farmCheck_any f x V1 (HV.out V1 hb1).2.1.1
  have hfo := M.farm_iff f
  generalize M.checkFarm f = cf at *
  by_cases hc : cf = 0
  · have hne : (cf != 0) = false := by simp [hc]
    have hok := hfo.1 hc
    clear hc hfo
    go_wp2_with (go_at_call 9; refine KC.out.mono ?_; rintro e V2 ⟨rfl, hb2⟩; refine Hid.out ?_)
    refine Lib.hid ?_
    replace hb2 := hb1.trans (hb2.mono hb1.size)
    clear lc c0 c1 c2 c3 c4 c5 c6 c7
    clear hb1 KC
    have i0 := (HV.out V2 hb2).1.1
    have c7 : V2.cell? ⟨b0, 7, none⟩ = some (.slice x.n f.net.length x.nc) := cellB i0 7
    have lc : b0 < V2.heap.size := (Array.getElem?_eq_some_iff.1 i0).1
    clear i0
    have n20 := hok.net
    by_cases hn : f.net.length = 0
    · have hn' : ((f.net.length : Int) == 0) = true := by simp [hn]
      clear hn
      go_wp2_with (go_at_call 8; refine (KFm.out _).mono ?_; rintro e V3 ⟨rfl, hb3⟩)
      go_ret
      exact ⟨rfl, (HV.out _ (hb2.trans (hb3.mono hb2.size))).2.2⟩
    · have hn' : ((f.net.length : Int) == 0) = false := by simp [hn]
      have hn0 : (0 : Int) < (f.net.length : Int) := by omega
      have hn1 : (f.net.length : Int) ≤ 1000 := by omega
      go_wp2_with (go_at_call 20; refine (atF_any _ _ _ hn0 hn1).mono ?_; rintro e V3 ⟨⟨t, rfl, ht0, ht1⟩, rfl⟩; refine Hid.out ?_)
      refine Lib.hid ?_
      obtain ⟨t, rfl⟩ : ∃ m : Nat, t = m := ⟨t.toNat, by omega⟩
      have hlt : t < f.net.length := by omega
      clear hn hn' hn1 hne
      clear lc c7
      have KD : Hid (Calls Try.prog 7 #[.agg #[.slice x.p f.parts.length x.pc, .slice x.l f.plan.length x.lc, .int .i64 f.now, .slice x.d f.done.length x.dc, .slice x.h f.got.length x.hc, .slice x.g f.grants.length x.gc, .slice x.k f.work.length x.kc, .slice x.n f.net.length x.nc], .agg #[.int .i64 4, .int .i64 0, .int .i64 t]] V2 fun e w' => Below V2.heap.size V2 w' ∧ ∃ y, e = .returned (.tuple #[.agg #[.slice y.p f.parts.length y.pc, .slice y.l f.plan.length y.lc, .int .i64 f.now, .slice y.d f.done.length y.dc, .slice y.h f.got.length y.hc, .slice y.g f.grants.length y.gc, .slice y.k f.work.length y.kc, .slice y.n (f.net.eraseIdx t).length y.nc], .int .i64 0]) ∧ FarmAt w' (M.taken f t) y) := by
        have := do_any f x V2 (HV.out V2 hb2).2.1.1 4 0 t
        rw [M.net_lose hok hlt] at this
        exact this.mono fun e w' ⟨j1, y, j2, j3, _⟩ => ⟨j1, y, j2, j3⟩
      have i0 := (HV.out V2 hb2).1.1
      have c0 : V2.cell? ⟨b0, 0, none⟩ = some (.slice x.p f.parts.length x.pc) := cellB i0 0
      have c1 : V2.cell? ⟨b0, 1, none⟩ = some (.slice x.l f.plan.length x.lc) := cellB i0 1
      have c2 : V2.cell? ⟨b0, 2, none⟩ = some (.int .i64 f.now) := cellB i0 2
      have c3 : V2.cell? ⟨b0, 3, none⟩ = some (.slice x.d f.done.length x.dc) := cellB i0 3
      have c4 : V2.cell? ⟨b0, 4, none⟩ = some (.slice x.h f.got.length x.hc) := cellB i0 4
      have c5 : V2.cell? ⟨b0, 5, none⟩ = some (.slice x.g f.grants.length x.gc) := cellB i0 5
      have c6 : V2.cell? ⟨b0, 6, none⟩ = some (.slice x.k f.work.length x.kc) := cellB i0 6
      have c7 : V2.cell? ⟨b0, 7, none⟩ = some (.slice x.n f.net.length x.nc) := cellB i0 7
      have lc : b0 < V2.heap.size := (Array.getElem?_eq_some_iff.1 i0).1
      clear i0
      go_upto_region 5 with (go_at_call 7; refine KD.out.mono ?_; rintro e X ⟨hbX, y, rfl, hgX⟩)
      clear lc c0 c1 c2 c3 c4 c5 c6 c7
      replace hbX := hb2.trans (hbX.mono hb2.size)
      clear KD hb2
      have hAl := (Below.refl X.heap.size X).alloc (Nat.le_refl _) (.cells #[.slice y.p f.parts.length y.pc, .slice y.l f.plan.length y.lc, .int .i64 f.now, .slice y.d f.done.length y.dc, .slice y.h f.got.length y.hc, .slice y.g f.grants.length y.gc, .slice y.k f.work.length y.kc, .slice y.n (f.net.eraseIdx t).length y.nc] 29)
      have hn := heap_alloc_new X (.cells #[.slice y.p f.parts.length y.pc, .slice y.l f.plan.length y.lc, .int .i64 f.now, .slice y.d f.done.length y.dc, .slice y.h f.got.length y.hc, .slice y.g f.grants.length y.gc, .slice y.k f.work.length y.kc, .slice y.n (f.net.eraseIdx t).length y.nc] 29)
      have hel : (f.net.eraseIdx t).length = f.net.length - 1 := List.length_eraseIdx_of_lt hlt
      have hlq : (((f.net.eraseIdx t).length : Int) != (f.net.length : Int) - 1) = false := by rw [hel]; simp; omega
      have hgl : FarmAt X (M.taken f t) y := hgX
      clear hgX hel
      obtain ⟨bl, hbl⟩ : ∃ bl, bl = X.heap.size := ⟨_, rfl⟩
      rw [← hbl] at hn ⊢
      have HBl : Hid (bl = X.heap.size) := hbl
      clear hbl
      obtain ⟨Y, hY⟩ : ∃ Y, Y = (X.alloc (.cells #[.slice y.p f.parts.length y.pc, .slice y.l f.plan.length y.lc, .int .i64 f.now, .slice y.d f.done.length y.dc, .slice y.h f.got.length y.hc, .slice y.g f.grants.length y.gc, .slice y.k f.work.length y.kc, .slice y.n (f.net.eraseIdx t).length y.nc] 29)) := ⟨_, rfl⟩
      rw [← hY] at hn hAl ⊢
      clear hY
      generalize (f.net.eraseIdx t).length = nl at *
      have hbY := hbX.trans (hAl.mono hbX.size)
      have i0 := (HV.out Y hbY).1.1
      have c7 : Y.cell? ⟨b0, 7, none⟩ = some (.slice x.n f.net.length x.nc) := cellB i0 7
      have lc : b0 < Y.heap.size := (Array.getElem?_eq_some_iff.1 i0).1
      clear i0
      have g0 : Y.cell? ⟨bl, 0, none⟩ = some (.slice y.p f.parts.length y.pc) := cellB hn 0
      have g1 : Y.cell? ⟨bl, 1, none⟩ = some (.slice y.l f.plan.length y.lc) := cellB hn 1
      have g2 : Y.cell? ⟨bl, 2, none⟩ = some (.int .i64 f.now) := cellB hn 2
      have g3 : Y.cell? ⟨bl, 3, none⟩ = some (.slice y.d f.done.length y.dc) := cellB hn 3
      have g4 : Y.cell? ⟨bl, 4, none⟩ = some (.slice y.h f.got.length y.hc) := cellB hn 4
      have g5 : Y.cell? ⟨bl, 5, none⟩ = some (.slice y.g f.grants.length y.gc) := cellB hn 5
      have g6 : Y.cell? ⟨bl, 6, none⟩ = some (.slice y.k f.work.length y.kc) := cellB hn 6
      have g7 : Y.cell? ⟨bl, 7, none⟩ = some (.slice y.n nl y.nc) := cellB hn 7
      have lg : bl < Y.heap.size := (Array.getElem?_eq_some_iff.1 hn).1
      have gf : ∀ i, Y.frozen? ⟨bl, i, none⟩ = false := frozenB hn
      have hs1 := setB' (i := 7) hn (.slice x.n f.net.length x.nc)
      have hs2 := hAl.grown (grown_set Y bl 7 (.slice x.n f.net.length x.nc)) hAl.size (fun k hk => by cases hk; rw [HBl.out]; exact Nat.le_refl _)
      have HS : Hid ((Y.setCell ⟨bl, 7, none⟩ (.slice x.n f.net.length x.nc)).heap[bl]? = some (.cells #[.slice y.p f.parts.length y.pc, .slice y.l f.plan.length y.lc, .int .i64 f.now, .slice y.d f.done.length y.dc, .slice y.h f.got.length y.hc, .slice y.g f.grants.length y.gc, .slice y.k f.work.length y.kc, .slice x.n f.net.length x.nc] 29 (0, 0)) ∧ Below X.heap.size X (Y.setCell ⟨bl, 7, none⟩ (.slice x.n f.net.length x.nc))) := ⟨hs1, hs2⟩
      clear hs1 hs2
      go_upto_region 8 with fail
      clear lc c7
      clear lg gf hn hAl hlq g0 g1 g2 g3 g4 g5 g6 g7
      generalize Y.setCell ⟨bl, 7, none⟩ (.slice x.n f.net.length x.nc) = Y2 at *
      obtain ⟨hs1, hs2⟩ := HS.out
      have hbY2 := hbX.trans (hs2.mono hbX.size)
      clear HS hbY
      have i0 := (HV.out Y2 hbY2).1.1
      have c0 : Y2.cell? ⟨b0, 0, none⟩ = some (.slice x.p f.parts.length x.pc) := cellB i0 0
      have c1 : Y2.cell? ⟨b0, 1, none⟩ = some (.slice x.l f.plan.length x.lc) := cellB i0 1
      have c2 : Y2.cell? ⟨b0, 2, none⟩ = some (.int .i64 f.now) := cellB i0 2
      have c3 : Y2.cell? ⟨b0, 3, none⟩ = some (.slice x.d f.done.length x.dc) := cellB i0 3
      have c4 : Y2.cell? ⟨b0, 4, none⟩ = some (.slice x.h f.got.length x.hc) := cellB i0 4
      have c5 : Y2.cell? ⟨b0, 5, none⟩ = some (.slice x.g f.grants.length x.gc) := cellB i0 5
      have c6 : Y2.cell? ⟨b0, 6, none⟩ = some (.slice x.k f.work.length x.kc) := cellB i0 6
      have c7 : Y2.cell? ⟨b0, 7, none⟩ = some (.slice x.n f.net.length x.nc) := cellB i0 7
      have lc : b0 < Y2.heap.size := (Array.getElem?_eq_some_iff.1 i0).1
      clear i0
      have g0 : Y2.cell? ⟨bl, 0, none⟩ = some (.slice y.p f.parts.length y.pc) := cellB hs1 0
      have g1 : Y2.cell? ⟨bl, 1, none⟩ = some (.slice y.l f.plan.length y.lc) := cellB hs1 1
      have g2 : Y2.cell? ⟨bl, 2, none⟩ = some (.int .i64 f.now) := cellB hs1 2
      have g3 : Y2.cell? ⟨bl, 3, none⟩ = some (.slice y.d f.done.length y.dc) := cellB hs1 3
      have g4 : Y2.cell? ⟨bl, 4, none⟩ = some (.slice y.h f.got.length y.hc) := cellB hs1 4
      have g5 : Y2.cell? ⟨bl, 5, none⟩ = some (.slice y.g f.grants.length y.gc) := cellB hs1 5
      have g6 : Y2.cell? ⟨bl, 6, none⟩ = some (.slice y.k f.work.length y.kc) := cellB hs1 6
      have g7 : Y2.cell? ⟨bl, 7, none⟩ = some (.slice x.n f.net.length x.nc) := cellB hs1 7
      have lg : bl < Y2.heap.size := (Array.getElem?_eq_some_iff.1 hs1).1
      have KS : Hid (Calls Try.prog 21 #[.agg #[.slice y.p f.parts.length y.pc, .slice y.l f.plan.length y.lc, .int .i64 f.now, .slice y.d f.done.length y.dc, .slice y.h f.got.length y.hc, .slice y.g f.grants.length y.gc, .slice y.k f.work.length y.kc, .slice x.n f.net.length x.nc], .agg #[.slice x.p f.parts.length x.pc, .slice x.l f.plan.length x.lc, .int .i64 f.now, .slice x.d f.done.length x.dc, .slice x.h f.got.length x.hc, .slice x.g f.grants.length x.gc, .slice x.k f.work.length x.kc, .slice x.n f.net.length x.nc]] Y2 fun e w' => e = .returned (.bool true) ∧ Below Y2.heap.size Y2 w') := by
        have hx := (HV.out Y2 hbY2).2.1.1
        have hy := hgl.later hs2
        exact sameFarm_self f ⟨y.p, y.pc, y.l, y.lc, y.d, y.dc, y.h, y.hc, y.g, y.gc, y.k, y.kc, x.n, x.nc⟩ x Y2 ⟨hy.parts, hy.plan, hy.done, hy.got, hy.grants, hy.work, hx.net⟩ hx
      clear hgl hs1 hs2
      go_upto_region 10 with (go_at_call 21; refine KS.out.mono ?_; rintro e V3 ⟨rfl, hb3⟩)
      clear lc c0 c1 c2 c3 c4 c5 c6 c7
      clear KS lg g0 g1 g2 g3 g4 g5 g6 g7
      replace hb3 := hbY2.trans (hb3.mono hbY2.size)
      clear hbY2 hbX HBl
      by_cases hl : 20 ≤ f.net.length
      · have hl20 : ((f.net.length : Int) == 20) = true := by simp; omega
        have KD : Hid (Calls Try.prog 7 #[.agg #[.slice x.p f.parts.length x.pc, .slice x.l f.plan.length x.lc, .int .i64 f.now, .slice x.d f.done.length x.dc, .slice x.h f.got.length x.hc, .slice x.g f.grants.length x.gc, .slice x.k f.work.length x.kc, .slice x.n f.net.length x.nc], .agg #[.int .i64 5, .int .i64 0, .int .i64 t]] V3 fun e w' => Below V3.heap.size V3 w' ∧ ∃ y, e = .returned (.tuple #[.agg #[.slice y.p M.farm0.parts.length y.pc, .slice y.l M.farm0.plan.length y.lc, .int .i64 M.farm0.now, .slice y.d M.farm0.done.length y.dc, .slice y.h M.farm0.got.length y.hc, .slice y.g M.farm0.grants.length y.gc, .slice y.k M.farm0.work.length y.kc, .slice y.n M.farm0.net.length y.nc], .int .i64 10]) ∧ FarmAt w' M.farm0 y) := by
          have := do_any f x V3 (HV.out V3 hb3).2.1.1 5 0 t
          rw [M.net_full hok hlt hl] at this
          exact this.mono fun e w' ⟨j1, y, j2, j3, _⟩ => ⟨j1, y, j2, j3⟩
        have i0 := (HV.out V3 hb3).1.1
        have c0 : V3.cell? ⟨b0, 0, none⟩ = some (.slice x.p f.parts.length x.pc) := cellB i0 0
        have c1 : V3.cell? ⟨b0, 1, none⟩ = some (.slice x.l f.plan.length x.lc) := cellB i0 1
        have c2 : V3.cell? ⟨b0, 2, none⟩ = some (.int .i64 f.now) := cellB i0 2
        have c3 : V3.cell? ⟨b0, 3, none⟩ = some (.slice x.d f.done.length x.dc) := cellB i0 3
        have c4 : V3.cell? ⟨b0, 4, none⟩ = some (.slice x.h f.got.length x.hc) := cellB i0 4
        have c5 : V3.cell? ⟨b0, 5, none⟩ = some (.slice x.g f.grants.length x.gc) := cellB i0 5
        have c6 : V3.cell? ⟨b0, 6, none⟩ = some (.slice x.k f.work.length x.kc) := cellB i0 6
        have c7 : V3.cell? ⟨b0, 7, none⟩ = some (.slice x.n f.net.length x.nc) := cellB i0 7
        have lc : b0 < V3.heap.size := (Array.getElem?_eq_some_iff.1 i0).1
        clear i0
        generalize M.farm0 = z at *
        go_upto_region 11 with (go_at_call 7; refine KD.out.mono ?_; rintro e X ⟨hbX, y, rfl, hgX⟩)
        clear lc c0 c1 c2 c3 c4 c5 c6 c7
        replace hbX := hb3.trans (hbX.mono hb3.size)
        have hAl := (Below.refl X.heap.size X).alloc (Nat.le_refl _) (.cells #[.slice y.p z.parts.length y.pc, .slice y.l z.plan.length y.lc, .int .i64 z.now, .slice y.d z.done.length y.dc, .slice y.h z.got.length y.hc, .slice y.g z.grants.length y.gc, .slice y.k z.work.length y.kc, .slice y.n z.net.length y.nc] 29)
        have hbY := hbX.trans (hAl.mono hbX.size)
        clear hAl hbX KD hgX
        generalize X.alloc (.cells #[.slice y.p z.parts.length y.pc, .slice y.l z.plan.length y.lc, .int .i64 z.now, .slice y.d z.done.length y.dc, .slice y.h z.got.length y.hc, .slice y.g z.grants.length y.gc, .slice y.k z.work.length y.kc, .slice y.n z.net.length y.nc] 29) = Y at *
        have i0 := (HV.out Y hbY).1.1
        have c7 : Y.cell? ⟨b0, 7, none⟩ = some (.slice x.n f.net.length x.nc) := cellB i0 7
        have lc : b0 < Y.heap.size := (Array.getElem?_eq_some_iff.1 i0).1
        clear i0
        go_wp2_with fail
        go_ret
        exact ⟨rfl, (HV.out _ hbY).2.2⟩
      · obtain ⟨nd, hnd⟩ : ∃ nd, nd = (f.net ++ [f.net.getD t M.msg0]).length := ⟨_, rfl⟩
        have Hnd : Hid (nd = (f.net ++ [f.net.getD t M.msg0]).length) := hnd
        clear hnd
        have KD : Hid (Calls Try.prog 7 #[.agg #[.slice x.p f.parts.length x.pc, .slice x.l f.plan.length x.lc, .int .i64 f.now, .slice x.d f.done.length x.dc, .slice x.h f.got.length x.hc, .slice x.g f.grants.length x.gc, .slice x.k f.work.length x.kc, .slice x.n f.net.length x.nc], .agg #[.int .i64 5, .int .i64 0, .int .i64 t]] V3 fun e w' => Below V3.heap.size V3 w' ∧ ∃ y, e = .returned (.tuple #[.agg #[.slice y.p f.parts.length y.pc, .slice y.l f.plan.length y.lc, .int .i64 f.now, .slice y.d f.done.length y.dc, .slice y.h f.got.length y.hc, .slice y.g f.grants.length y.gc, .slice y.k f.work.length y.kc, .slice y.n nd y.nc], .int .i64 0]) ∧ FarmAt w' (M.dbl f t) y) := by
          rw [Hnd.out]
          have := do_any f x V3 (HV.out V3 hb3).2.1.1 5 0 t
          rw [M.net_double hok hlt hl] at this
          exact this.mono fun e w' ⟨j1, y, j2, j3, _⟩ => ⟨j1, y, j2, j3⟩
        have i0 := (HV.out V3 hb3).1.1
        have c0 : V3.cell? ⟨b0, 0, none⟩ = some (.slice x.p f.parts.length x.pc) := cellB i0 0
        have c1 : V3.cell? ⟨b0, 1, none⟩ = some (.slice x.l f.plan.length x.lc) := cellB i0 1
        have c2 : V3.cell? ⟨b0, 2, none⟩ = some (.int .i64 f.now) := cellB i0 2
        have c3 : V3.cell? ⟨b0, 3, none⟩ = some (.slice x.d f.done.length x.dc) := cellB i0 3
        have c4 : V3.cell? ⟨b0, 4, none⟩ = some (.slice x.h f.got.length x.hc) := cellB i0 4
        have c5 : V3.cell? ⟨b0, 5, none⟩ = some (.slice x.g f.grants.length x.gc) := cellB i0 5
        have c6 : V3.cell? ⟨b0, 6, none⟩ = some (.slice x.k f.work.length x.kc) := cellB i0 6
        have c7 : V3.cell? ⟨b0, 7, none⟩ = some (.slice x.n f.net.length x.nc) := cellB i0 7
        have lc : b0 < V3.heap.size := (Array.getElem?_eq_some_iff.1 i0).1
        clear i0
        go_upto_region 13 with (go_at_call 7; refine KD.out.mono ?_; rintro e X ⟨hbX, yd, rfl, hgX⟩)
        clear lc c0 c1 c2 c3 c4 c5 c6 c7
        replace hbX := hb3.trans (hbX.mono hb3.size)
        have hAl := (Below.refl X.heap.size X).alloc (Nat.le_refl _) (.cells #[.slice yd.p f.parts.length yd.pc, .slice yd.l f.plan.length yd.lc, .int .i64 f.now, .slice yd.d f.done.length yd.dc, .slice yd.h f.got.length yd.hc, .slice yd.g f.grants.length yd.gc, .slice yd.k f.work.length yd.kc, .slice yd.n nd yd.nc] 29)
        have hn := heap_alloc_new X (.cells #[.slice yd.p f.parts.length yd.pc, .slice yd.l f.plan.length yd.lc, .int .i64 f.now, .slice yd.d f.done.length yd.dc, .slice yd.h f.got.length yd.hc, .slice yd.g f.grants.length yd.gc, .slice yd.k f.work.length yd.kc, .slice yd.n nd yd.nc] 29)
        clear KD hb3
        obtain ⟨bd, hbv⟩ : ∃ bv, bv = X.heap.size := ⟨_, rfl⟩
        rw [← hbv] at hn ⊢
        have HBbd : Hid (bd = X.heap.size) := hbv
        clear hbv
        obtain ⟨Y1, hY⟩ : ∃ Y, Y = (X.alloc (.cells #[.slice yd.p f.parts.length yd.pc, .slice yd.l f.plan.length yd.lc, .int .i64 f.now, .slice yd.d f.done.length yd.dc, .slice yd.h f.got.length yd.hc, .slice yd.g f.grants.length yd.gc, .slice yd.k f.work.length yd.kc, .slice yd.n nd yd.nc] 29)) := ⟨_, rfl⟩
        rw [← hY] at hn hAl ⊢
        clear hY
        have HV2 : Hid (∀ W, Below Y1.heap.size Y1 W → (W.heap[b0]? = some (.cells #[.slice x.p f.parts.length x.pc, .slice x.l f.plan.length x.lc, .int .i64 f.now, .slice x.d f.done.length x.dc, .slice x.h f.got.length x.hc, .slice x.g f.grants.length x.gc, .slice x.k f.work.length x.kc, .slice x.n f.net.length x.nc] 29 (0, 0)) ∧ W.heap[bd]? = some (.cells #[.slice yd.p f.parts.length yd.pc, .slice yd.l f.plan.length yd.lc, .int .i64 f.now, .slice yd.d f.done.length yd.dc, .slice yd.h f.got.length yd.hc, .slice yd.g f.grants.length yd.gc, .slice yd.k f.work.length yd.kc, .slice yd.n nd yd.nc] 29 (0, 0)) ∧ True) ∧ (FarmAt W f x ∧ FarmAt W (M.dbl f t) yd ∧ True) ∧ Below w.heap.size w W) := fun W hW => by
          have h2 := hbX.trans ((hAl.trans (hW.mono hAl.size)).mono hbX.size)
          exact ⟨⟨(HV.out W h2).1.1, (hW.block _ (Array.getElem?_eq_some_iff.1 hn).1).trans hn, trivial⟩, ⟨(HV.out W h2).2.1.1, (hgX.later hAl).later hW, trivial⟩, (HV.out W h2).2.2⟩
        clear HV
        have HV := HV2
        clear HV2 hn hgX hAl hbX HBbd
        have hbY1 : Below Y1.heap.size Y1 Y1 := Below.refl _ _
        have KD : Hid (Calls Try.prog 7 #[.agg #[.slice yd.p f.parts.length yd.pc, .slice yd.l f.plan.length yd.lc, .int .i64 f.now, .slice yd.d f.done.length yd.dc, .slice yd.h f.got.length yd.hc, .slice yd.g f.grants.length yd.gc, .slice yd.k f.work.length yd.kc, .slice yd.n nd yd.nc], .agg #[.int .i64 4, .int .i64 0, .int .i64 (f.net.length : Int)]] Y1 fun e w' => Below Y1.heap.size Y1 w' ∧ ∃ y, e = .returned (.tuple #[.agg #[.slice y.p f.parts.length y.pc, .slice y.l f.plan.length y.lc, .int .i64 f.now, .slice y.d f.done.length y.dc, .slice y.h f.got.length y.hc, .slice y.g f.grants.length y.gc, .slice y.k f.work.length y.kc, .slice y.n f.net.length y.nc], .int .i64 0]) ∧ FarmAt w' f y) := by
          rw [Hnd.out]
          have := do_any (M.dbl f t) yd Y1 (HV.out Y1 hbY1).2.1.2.1 4 0 (f.net.length : Int)
          rw [M.net_back hok hlt hl] at this
          exact this.mono fun e w' ⟨j1, y, j2, j3, _⟩ => ⟨j1, y, j2, j3⟩
        have i0 := (HV.out Y1 hbY1).1.1
        have c7 : Y1.cell? ⟨b0, 7, none⟩ = some (.slice x.n f.net.length x.nc) := cellB i0 7
        have lc : b0 < Y1.heap.size := (Array.getElem?_eq_some_iff.1 i0).1
        clear i0
        have i0 := (HV.out Y1 hbY1).1.2.1
        have d0 : Y1.cell? ⟨bd, 0, none⟩ = some (.slice yd.p f.parts.length yd.pc) := cellB i0 0
        have d1 : Y1.cell? ⟨bd, 1, none⟩ = some (.slice yd.l f.plan.length yd.lc) := cellB i0 1
        have d2 : Y1.cell? ⟨bd, 2, none⟩ = some (.int .i64 f.now) := cellB i0 2
        have d3 : Y1.cell? ⟨bd, 3, none⟩ = some (.slice yd.d f.done.length yd.dc) := cellB i0 3
        have d4 : Y1.cell? ⟨bd, 4, none⟩ = some (.slice yd.h f.got.length yd.hc) := cellB i0 4
        have d5 : Y1.cell? ⟨bd, 5, none⟩ = some (.slice yd.g f.grants.length yd.gc) := cellB i0 5
        have d6 : Y1.cell? ⟨bd, 6, none⟩ = some (.slice yd.k f.work.length yd.kc) := cellB i0 6
        have d7 : Y1.cell? ⟨bd, 7, none⟩ = some (.slice yd.n nd yd.nc) := cellB i0 7
        have ld : bd < Y1.heap.size := (Array.getElem?_eq_some_iff.1 i0).1
        clear i0
        go_upto_region 14 with (go_at_call 7; refine KD.out.mono ?_; rintro e X ⟨hbX, yx, rfl, hgX⟩)
        clear lc c7
        clear ld d0 d1 d2 d3 d4 d5 d6 d7
        replace hbX := hbY1.trans (hbX.mono hbY1.size)
        have hAl := (Below.refl X.heap.size X).alloc (Nat.le_refl _) (.cells #[.slice yx.p f.parts.length yx.pc, .slice yx.l f.plan.length yx.lc, .int .i64 f.now, .slice yx.d f.done.length yx.dc, .slice yx.h f.got.length yx.hc, .slice yx.g f.grants.length yx.gc, .slice yx.k f.work.length yx.kc, .slice yx.n f.net.length yx.nc] 29)
        have hn := heap_alloc_new X (.cells #[.slice yx.p f.parts.length yx.pc, .slice yx.l f.plan.length yx.lc, .int .i64 f.now, .slice yx.d f.done.length yx.dc, .slice yx.h f.got.length yx.hc, .slice yx.g f.grants.length yx.gc, .slice yx.k f.work.length yx.kc, .slice yx.n f.net.length yx.nc] 29)
        clear KD hbY1
        obtain ⟨bx, hbv⟩ : ∃ bv, bv = X.heap.size := ⟨_, rfl⟩
        rw [← hbv] at hn ⊢
        clear hbv
        obtain ⟨Y, hY⟩ : ∃ Y, Y = (X.alloc (.cells #[.slice yx.p f.parts.length yx.pc, .slice yx.l f.plan.length yx.lc, .int .i64 f.now, .slice yx.d f.done.length yx.dc, .slice yx.h f.got.length yx.hc, .slice yx.g f.grants.length yx.gc, .slice yx.k f.work.length yx.kc, .slice yx.n f.net.length yx.nc] 29)) := ⟨_, rfl⟩
        rw [← hY] at hn hAl ⊢
        clear hY
        have hbY := hbX.trans (hAl.mono hbX.size)
        have i0 := (HV.out Y hbY).1.1
        have c0 : Y.cell? ⟨b0, 0, none⟩ = some (.slice x.p f.parts.length x.pc) := cellB i0 0
        have c1 : Y.cell? ⟨b0, 1, none⟩ = some (.slice x.l f.plan.length x.lc) := cellB i0 1
        have c2 : Y.cell? ⟨b0, 2, none⟩ = some (.int .i64 f.now) := cellB i0 2
        have c3 : Y.cell? ⟨b0, 3, none⟩ = some (.slice x.d f.done.length x.dc) := cellB i0 3
        have c4 : Y.cell? ⟨b0, 4, none⟩ = some (.slice x.h f.got.length x.hc) := cellB i0 4
        have c5 : Y.cell? ⟨b0, 5, none⟩ = some (.slice x.g f.grants.length x.gc) := cellB i0 5
        have c6 : Y.cell? ⟨b0, 6, none⟩ = some (.slice x.k f.work.length x.kc) := cellB i0 6
        have c7 : Y.cell? ⟨b0, 7, none⟩ = some (.slice x.n f.net.length x.nc) := cellB i0 7
        have lc : b0 < Y.heap.size := (Array.getElem?_eq_some_iff.1 i0).1
        clear i0
        have g0 : Y.cell? ⟨bx, 0, none⟩ = some (.slice yx.p f.parts.length yx.pc) := cellB hn 0
        have g1 : Y.cell? ⟨bx, 1, none⟩ = some (.slice yx.l f.plan.length yx.lc) := cellB hn 1
        have g2 : Y.cell? ⟨bx, 2, none⟩ = some (.int .i64 f.now) := cellB hn 2
        have g3 : Y.cell? ⟨bx, 3, none⟩ = some (.slice yx.d f.done.length yx.dc) := cellB hn 3
        have g4 : Y.cell? ⟨bx, 4, none⟩ = some (.slice yx.h f.got.length yx.hc) := cellB hn 4
        have g5 : Y.cell? ⟨bx, 5, none⟩ = some (.slice yx.g f.grants.length yx.gc) := cellB hn 5
        have g6 : Y.cell? ⟨bx, 6, none⟩ = some (.slice yx.k f.work.length yx.kc) := cellB hn 6
        have g7 : Y.cell? ⟨bx, 7, none⟩ = some (.slice yx.n f.net.length yx.nc) := cellB hn 7
        have lg : bx < Y.heap.size := (Array.getElem?_eq_some_iff.1 hn).1
        have KS : Hid (Calls Try.prog 21 #[.agg #[.slice yx.p f.parts.length yx.pc, .slice yx.l f.plan.length yx.lc, .int .i64 f.now, .slice yx.d f.done.length yx.dc, .slice yx.h f.got.length yx.hc, .slice yx.g f.grants.length yx.gc, .slice yx.k f.work.length yx.kc, .slice yx.n f.net.length yx.nc], .agg #[.slice x.p f.parts.length x.pc, .slice x.l f.plan.length x.lc, .int .i64 f.now, .slice x.d f.done.length x.dc, .slice x.h f.got.length x.hc, .slice x.g f.grants.length x.gc, .slice x.k f.work.length x.kc, .slice x.n f.net.length x.nc]] Y fun e w' => e = .returned (.bool true) ∧ Below Y.heap.size Y w') := sameFarm_self f yx x Y (hgX.later hAl) (HV.out Y hbY).2.1.1
        clear hgX hAl hn hbX
        go_upto_region 16 with (go_at_call 21; refine KS.out.mono ?_; rintro e V5 ⟨rfl, hb5⟩)
        clear lc c0 c1 c2 c3 c4 c5 c6 c7
        clear KS lg g0 g1 g2 g3 g4 g5 g6 g7
        replace hb5 := hbY.trans (hb5.mono hbY.size)
        clear hbY
        obtain ⟨b, off, x1, q1, x2, q2, hxa, e0, -, -, -, -, -, -⟩ := (HV.out V5 hb5).2.1.1.net.cells t hlt
        have i0 := (HV.out V5 hb5).1.1
        have c7 : V5.cell? ⟨b0, 7, none⟩ = some (.slice x.n f.net.length x.nc) := cellB i0 7
        have lc : b0 < V5.heap.size := (Array.getElem?_eq_some_iff.1 i0).1
        clear i0
        rw [hxa] at c7
        have hbr : b < V5.heap.size := World.block_lt_of_cell? _ _ e0
        clear hxa
        have htI : (t : Int) < (f.net.length : Int) := by omega
        by_cases hm : (f.net.getD t M.msg0).kind = 2
        · rw [hm] at e0
          obtain ⟨o, tw, s1, s2, s3⟩ := M.net_twice hok hlt hl hm
          go_upto_region 18 with fail
          clear lc c7
          clear e0 hbr hm
          have KD : Hid (Calls Try.prog 7 #[.agg #[.slice x.p f.parts.length x.pc, .slice x.l f.plan.length x.lc, .int .i64 f.now, .slice x.d f.done.length x.dc, .slice x.h f.got.length x.hc, .slice x.g f.grants.length x.gc, .slice x.k f.work.length x.kc, .slice x.n f.net.length x.nc], .agg #[.int .i64 3, .int .i64 0, .int .i64 t]] V5 fun e w' => Below V5.heap.size V5 w' ∧ ∃ y, e = .returned (.tuple #[.agg #[.slice y.p o.parts.length y.pc, .slice y.l o.plan.length y.lc, .int .i64 o.now, .slice y.d o.done.length y.dc, .slice y.h o.got.length y.hc, .slice y.g o.grants.length y.gc, .slice y.k o.work.length y.kc, .slice y.n o.net.length y.nc], .int .i64 0]) ∧ FarmAt w' o y) := by
            have := do_any f x V5 (HV.out V5 hb5).2.1.1 3 0 t
            rw [s1] at this
            exact this.mono fun e w' ⟨j1, y, j2, j3, _⟩ => ⟨j1, y, j2, j3⟩
          have i0 := (HV.out V5 hb5).1.1
          have c0 : V5.cell? ⟨b0, 0, none⟩ = some (.slice x.p f.parts.length x.pc) := cellB i0 0
          have c1 : V5.cell? ⟨b0, 1, none⟩ = some (.slice x.l f.plan.length x.lc) := cellB i0 1
          have c2 : V5.cell? ⟨b0, 2, none⟩ = some (.int .i64 f.now) := cellB i0 2
          have c3 : V5.cell? ⟨b0, 3, none⟩ = some (.slice x.d f.done.length x.dc) := cellB i0 3
          have c4 : V5.cell? ⟨b0, 4, none⟩ = some (.slice x.h f.got.length x.hc) := cellB i0 4
          have c5 : V5.cell? ⟨b0, 5, none⟩ = some (.slice x.g f.grants.length x.gc) := cellB i0 5
          have c6 : V5.cell? ⟨b0, 6, none⟩ = some (.slice x.k f.work.length x.kc) := cellB i0 6
          have c7 : V5.cell? ⟨b0, 7, none⟩ = some (.slice x.n f.net.length x.nc) := cellB i0 7
          have lc : b0 < V5.heap.size := (Array.getElem?_eq_some_iff.1 i0).1
          clear i0
          go_upto_region 19 with (go_at_call 7; refine KD.out.mono ?_; rintro e X ⟨hbX, yo, rfl, hgX⟩)
          clear lc c0 c1 c2 c3 c4 c5 c6 c7
          replace hbX := hb5.trans (hbX.mono hb5.size)
          have hAl := (Below.refl X.heap.size X).alloc (Nat.le_refl _) (.cells #[.slice yo.p o.parts.length yo.pc, .slice yo.l o.plan.length yo.lc, .int .i64 o.now, .slice yo.d o.done.length yo.dc, .slice yo.h o.got.length yo.hc, .slice yo.g o.grants.length yo.gc, .slice yo.k o.work.length yo.kc, .slice yo.n o.net.length yo.nc] 29)
          have hn := heap_alloc_new X (.cells #[.slice yo.p o.parts.length yo.pc, .slice yo.l o.plan.length yo.lc, .int .i64 o.now, .slice yo.d o.done.length yo.dc, .slice yo.h o.got.length yo.hc, .slice yo.g o.grants.length yo.gc, .slice yo.k o.work.length yo.kc, .slice yo.n o.net.length yo.nc] 29)
          clear KD hb5
          obtain ⟨bo, hbv⟩ : ∃ bv, bv = X.heap.size := ⟨_, rfl⟩
          rw [← hbv] at hn ⊢
          have HBbo : Hid (bo = X.heap.size) := hbv
          clear hbv
          obtain ⟨Y3, hY⟩ : ∃ Y, Y = (X.alloc (.cells #[.slice yo.p o.parts.length yo.pc, .slice yo.l o.plan.length yo.lc, .int .i64 o.now, .slice yo.d o.done.length yo.dc, .slice yo.h o.got.length yo.hc, .slice yo.g o.grants.length yo.gc, .slice yo.k o.work.length yo.kc, .slice yo.n o.net.length yo.nc] 29)) := ⟨_, rfl⟩
          rw [← hY] at hn hAl ⊢
          clear hY
          have HV2 : Hid (∀ W, Below Y3.heap.size Y3 W → (W.heap[b0]? = some (.cells #[.slice x.p f.parts.length x.pc, .slice x.l f.plan.length x.lc, .int .i64 f.now, .slice x.d f.done.length x.dc, .slice x.h f.got.length x.hc, .slice x.g f.grants.length x.gc, .slice x.k f.work.length x.kc, .slice x.n f.net.length x.nc] 29 (0, 0)) ∧ W.heap[bd]? = some (.cells #[.slice yd.p f.parts.length yd.pc, .slice yd.l f.plan.length yd.lc, .int .i64 f.now, .slice yd.d f.done.length yd.dc, .slice yd.h f.got.length yd.hc, .slice yd.g f.grants.length yd.gc, .slice yd.k f.work.length yd.kc, .slice yd.n nd yd.nc] 29 (0, 0)) ∧ W.heap[bo]? = some (.cells #[.slice yo.p o.parts.length yo.pc, .slice yo.l o.plan.length yo.lc, .int .i64 o.now, .slice yo.d o.done.length yo.dc, .slice yo.h o.got.length yo.hc, .slice yo.g o.grants.length yo.gc, .slice yo.k o.work.length yo.kc, .slice yo.n o.net.length yo.nc] 29 (0, 0)) ∧ True) ∧ (FarmAt W f x ∧ FarmAt W (M.dbl f t) yd ∧ FarmAt W o yo ∧ True) ∧ Below w.heap.size w W) := fun W hW => by
            have h2 := hbX.trans ((hAl.trans (hW.mono hAl.size)).mono hbX.size)
            exact ⟨⟨(HV.out W h2).1.1, (HV.out W h2).1.2.1, (hW.block _ (Array.getElem?_eq_some_iff.1 hn).1).trans hn, trivial⟩, ⟨(HV.out W h2).2.1.1, (HV.out W h2).2.1.2.1, (hgX.later hAl).later hW, trivial⟩, (HV.out W h2).2.2⟩
          clear HV
          have HV := HV2
          clear HV2 hn hgX hAl hbX HBbo
          have hbY3 : Below Y3.heap.size Y3 Y3 := Below.refl _ _
          have KD : Hid (Calls Try.prog 7 #[.agg #[.slice yd.p f.parts.length yd.pc, .slice yd.l f.plan.length yd.lc, .int .i64 f.now, .slice yd.d f.done.length yd.dc, .slice yd.h f.got.length yd.hc, .slice yd.g f.grants.length yd.gc, .slice yd.k f.work.length yd.kc, .slice yd.n nd yd.nc], .agg #[.int .i64 3, .int .i64 0, .int .i64 t]] Y3 fun e w' => Below Y3.heap.size Y3 w' ∧ ∃ y, e = .returned (.tuple #[.agg #[.slice y.p tw.parts.length y.pc, .slice y.l tw.plan.length y.lc, .int .i64 tw.now, .slice y.d tw.done.length y.dc, .slice y.h tw.got.length y.hc, .slice y.g tw.grants.length y.gc, .slice y.k tw.work.length y.kc, .slice y.n tw.net.length y.nc], .int .i64 0]) ∧ FarmAt w' tw y) := by
            rw [Hnd.out]
            have := do_any (M.dbl f t) yd Y3 (HV.out Y3 hbY3).2.1.2.1 3 0 t
            rw [s2] at this
            exact this.mono fun e w' ⟨j1, y, j2, j3, _⟩ => ⟨j1, y, j2, j3⟩
          have i0 := (HV.out Y3 hbY3).1.2.1
          have c0 : Y3.cell? ⟨bd, 0, none⟩ = some (.slice yd.p f.parts.length yd.pc) := cellB i0 0
          have c1 : Y3.cell? ⟨bd, 1, none⟩ = some (.slice yd.l f.plan.length yd.lc) := cellB i0 1
          have c2 : Y3.cell? ⟨bd, 2, none⟩ = some (.int .i64 f.now) := cellB i0 2
          have c3 : Y3.cell? ⟨bd, 3, none⟩ = some (.slice yd.d f.done.length yd.dc) := cellB i0 3
          have c4 : Y3.cell? ⟨bd, 4, none⟩ = some (.slice yd.h f.got.length yd.hc) := cellB i0 4
          have c5 : Y3.cell? ⟨bd, 5, none⟩ = some (.slice yd.g f.grants.length yd.gc) := cellB i0 5
          have c6 : Y3.cell? ⟨bd, 6, none⟩ = some (.slice yd.k f.work.length yd.kc) := cellB i0 6
          have c7 : Y3.cell? ⟨bd, 7, none⟩ = some (.slice yd.n nd yd.nc) := cellB i0 7
          have lc : bd < Y3.heap.size := (Array.getElem?_eq_some_iff.1 i0).1
          clear i0
          go_upto_region 20 with (go_at_call 7; refine KD.out.mono ?_; rintro e X ⟨hbX, yt, rfl, hgX⟩)
          clear lc c0 c1 c2 c3 c4 c5 c6 c7
          replace hbX := hbY3.trans (hbX.mono hbY3.size)
          have hAl := (Below.refl X.heap.size X).alloc (Nat.le_refl _) (.cells #[.slice yt.p tw.parts.length yt.pc, .slice yt.l tw.plan.length yt.lc, .int .i64 tw.now, .slice yt.d tw.done.length yt.dc, .slice yt.h tw.got.length yt.hc, .slice yt.g tw.grants.length yt.gc, .slice yt.k tw.work.length yt.kc, .slice yt.n tw.net.length yt.nc] 29)
          have hn := heap_alloc_new X (.cells #[.slice yt.p tw.parts.length yt.pc, .slice yt.l tw.plan.length yt.lc, .int .i64 tw.now, .slice yt.d tw.done.length yt.dc, .slice yt.h tw.got.length yt.hc, .slice yt.g tw.grants.length yt.gc, .slice yt.k tw.work.length yt.kc, .slice yt.n tw.net.length yt.nc] 29)
          clear KD hbY3
          obtain ⟨bt, hbv⟩ : ∃ bv, bv = X.heap.size := ⟨_, rfl⟩
          rw [← hbv] at hn ⊢
          have HBbt : Hid (bt = X.heap.size) := hbv
          clear hbv
          obtain ⟨Y, hY⟩ : ∃ Y, Y = (X.alloc (.cells #[.slice yt.p tw.parts.length yt.pc, .slice yt.l tw.plan.length yt.lc, .int .i64 tw.now, .slice yt.d tw.done.length yt.dc, .slice yt.h tw.got.length yt.hc, .slice yt.g tw.grants.length yt.gc, .slice yt.k tw.work.length yt.kc, .slice yt.n tw.net.length yt.nc] 29)) := ⟨_, rfl⟩
          rw [← hY] at hn hAl ⊢
          clear hY
          have HX : Hid (∀ W, Below X.heap.size X W → (W.heap[b0]? = some (.cells #[.slice x.p f.parts.length x.pc, .slice x.l f.plan.length x.lc, .int .i64 f.now, .slice x.d f.done.length x.dc, .slice x.h f.got.length x.hc, .slice x.g f.grants.length x.gc, .slice x.k f.work.length x.kc, .slice x.n f.net.length x.nc] 29 (0, 0)) ∧ W.heap[bd]? = some (.cells #[.slice yd.p f.parts.length yd.pc, .slice yd.l f.plan.length yd.lc, .int .i64 f.now, .slice yd.d f.done.length yd.dc, .slice yd.h f.got.length yd.hc, .slice yd.g f.grants.length yd.gc, .slice yd.k f.work.length yd.kc, .slice yd.n nd yd.nc] 29 (0, 0)) ∧ W.heap[bo]? = some (.cells #[.slice yo.p o.parts.length yo.pc, .slice yo.l o.plan.length yo.lc, .int .i64 o.now, .slice yo.d o.done.length yo.dc, .slice yo.h o.got.length yo.hc, .slice yo.g o.grants.length yo.gc, .slice yo.k o.work.length yo.kc, .slice yo.n o.net.length yo.nc] 29 (0, 0)) ∧ True) ∧ (FarmAt W f x ∧ FarmAt W (M.dbl f t) yd ∧ FarmAt W o yo ∧ True) ∧ Below w.heap.size w W) := fun W hW => HV.out W (hbX.trans (hW.mono hbX.size))
          have HV2 : Hid (∀ W, Below Y.heap.size Y W → (W.heap[b0]? = some (.cells #[.slice x.p f.parts.length x.pc, .slice x.l f.plan.length x.lc, .int .i64 f.now, .slice x.d f.done.length x.dc, .slice x.h f.got.length x.hc, .slice x.g f.grants.length x.gc, .slice x.k f.work.length x.kc, .slice x.n f.net.length x.nc] 29 (0, 0)) ∧ W.heap[bd]? = some (.cells #[.slice yd.p f.parts.length yd.pc, .slice yd.l f.plan.length yd.lc, .int .i64 f.now, .slice yd.d f.done.length yd.dc, .slice yd.h f.got.length yd.hc, .slice yd.g f.grants.length yd.gc, .slice yd.k f.work.length yd.kc, .slice yd.n nd yd.nc] 29 (0, 0)) ∧ W.heap[bo]? = some (.cells #[.slice yo.p o.parts.length yo.pc, .slice yo.l o.plan.length yo.lc, .int .i64 o.now, .slice yo.d o.done.length yo.dc, .slice yo.h o.got.length yo.hc, .slice yo.g o.grants.length yo.gc, .slice yo.k o.work.length yo.kc, .slice yo.n o.net.length yo.nc] 29 (0, 0)) ∧ W.heap[bt]? = some (.cells #[.slice yt.p tw.parts.length yt.pc, .slice yt.l tw.plan.length yt.lc, .int .i64 tw.now, .slice yt.d tw.done.length yt.dc, .slice yt.h tw.got.length yt.hc, .slice yt.g tw.grants.length yt.gc, .slice yt.k tw.work.length yt.kc, .slice yt.n tw.net.length yt.nc] 29 (0, 0)) ∧ True) ∧ (FarmAt W f x ∧ FarmAt W (M.dbl f t) yd ∧ FarmAt W o yo ∧ FarmAt W tw yt ∧ True) ∧ Below w.heap.size w W) := fun W hW => by
            have h2 := hbX.trans ((hAl.trans (hW.mono hAl.size)).mono hbX.size)
            exact ⟨⟨(HV.out W h2).1.1, (HV.out W h2).1.2.1, (HV.out W h2).1.2.2.1, (hW.block _ (Array.getElem?_eq_some_iff.1 hn).1).trans hn, trivial⟩, ⟨(HV.out W h2).2.1.1, (HV.out W h2).2.1.2.1, (HV.out W h2).2.1.2.2.1, (hgX.later hAl).later hW, trivial⟩, (HV.out W h2).2.2⟩
          clear HV
          have HV := HV2
          clear HV2 hn hgX 
          have hbY : Below Y.heap.size Y Y := Below.refl _ _
          go_upto_region 22 with fail
          have htl : IntKind.i64.wrap ((f.net.length : Int) - 1) = (f.net.length : Int) - 1 := by rw [IntKind.wrap_i64]; omega
          have KD : Hid (Calls Try.prog 7 #[.agg #[.slice yt.p tw.parts.length yt.pc, .slice yt.l tw.plan.length yt.lc, .int .i64 tw.now, .slice yt.d tw.done.length yt.dc, .slice yt.h tw.got.length yt.hc, .slice yt.g tw.grants.length yt.gc, .slice yt.k tw.work.length yt.kc, .slice yt.n tw.net.length yt.nc], .agg #[.int .i64 3, .int .i64 0, .int .i64 ((f.net.length : Int) - 1)]] Y fun e w' => Below Y.heap.size Y w' ∧ ∃ y, e = .returned (.tuple #[.agg #[.slice y.p o.parts.length y.pc, .slice y.l o.plan.length y.lc, .int .i64 o.now, .slice y.d o.done.length y.dc, .slice y.h o.got.length y.hc, .slice y.g o.grants.length y.gc, .slice y.k o.work.length y.kc, .slice y.n o.net.length y.nc], .int .i64 0]) ∧ FarmAt w' o y ∧ ∃ q, FmR Y.heap.size w' o y q) := by
            have := do_any tw yt Y (HV.out Y hbY).2.1.2.2.2.1 3 0 ((f.net.length : Int) - 1)
            rw [s3] at this
            exact this.mono fun e w' ⟨j1, y, j2, j3, j4⟩ => ⟨j1, y, j2, j3, j4 rfl⟩
          have i0 := (HV.out Y hbY).1.1
          have c7 : Y.cell? ⟨b0, 7, none⟩ = some (.slice x.n f.net.length x.nc) := cellB i0 7
          have lc : b0 < Y.heap.size := (Array.getElem?_eq_some_iff.1 i0).1
          clear i0
          have i0 := (HV.out Y hbY).1.2.2.2.1
          have d0 : Y.cell? ⟨bt, 0, none⟩ = some (.slice yt.p tw.parts.length yt.pc) := cellB i0 0
          have d1 : Y.cell? ⟨bt, 1, none⟩ = some (.slice yt.l tw.plan.length yt.lc) := cellB i0 1
          have d2 : Y.cell? ⟨bt, 2, none⟩ = some (.int .i64 tw.now) := cellB i0 2
          have d3 : Y.cell? ⟨bt, 3, none⟩ = some (.slice yt.d tw.done.length yt.dc) := cellB i0 3
          have d4 : Y.cell? ⟨bt, 4, none⟩ = some (.slice yt.h tw.got.length yt.hc) := cellB i0 4
          have d5 : Y.cell? ⟨bt, 5, none⟩ = some (.slice yt.g tw.grants.length yt.gc) := cellB i0 5
          have d6 : Y.cell? ⟨bt, 6, none⟩ = some (.slice yt.k tw.work.length yt.kc) := cellB i0 6
          have d7 : Y.cell? ⟨bt, 7, none⟩ = some (.slice yt.n tw.net.length yt.nc) := cellB i0 7
          have ld : bt < Y.heap.size := (Array.getElem?_eq_some_iff.1 i0).1
          clear i0
          go_wp2_with (go_at_call 7; refine KD.out.mono ?_; rintro e X6 ⟨hb6, y6, rfl, hg6, q6, hR6⟩; refine Hid.out ?_)
          refine Lib.hid ?_
          clear lc c7
          clear ld d0 d1 d2 d3 d4 d5 d6 d7
          have h6t := (HV.out X6 hb6).1.2.2.2.1
          obtain ⟨hs1, hs2⟩ := store8 X6 bt (.slice yt.p tw.parts.length yt.pc) (.slice yt.l tw.plan.length yt.lc) (.int .i64 tw.now) (.slice yt.d tw.done.length yt.dc) (.slice yt.h tw.got.length yt.hc) (.slice yt.g tw.grants.length yt.gc) (.slice yt.k tw.work.length yt.kc) (.slice yt.n tw.net.length yt.nc) (.slice y6.p o.parts.length y6.pc) (.slice y6.l o.plan.length y6.lc) (.int .i64 o.now) (.slice y6.d o.done.length y6.dc) (.slice y6.h o.got.length y6.hc) (.slice y6.g o.grants.length y6.gc) (.slice y6.k o.work.length y6.kc) (.slice y6.n o.net.length y6.nc) 29 h6t
          have wrF : Wr X6 ((((((((X6.setCell ⟨bt, 0, none⟩ (.slice y6.p o.parts.length y6.pc)).setCell ⟨bt, 1, none⟩ (.slice y6.l o.plan.length y6.lc)).setCell ⟨bt, 2, none⟩ (.int .i64 o.now)).setCell ⟨bt, 3, none⟩ (.slice y6.d o.done.length y6.dc)).setCell ⟨bt, 4, none⟩ (.slice y6.h o.got.length y6.hc)).setCell ⟨bt, 5, none⟩ (.slice y6.g o.grants.length y6.gc)).setCell ⟨bt, 6, none⟩ (.slice y6.k o.work.length y6.kc)).setCell ⟨bt, 7, none⟩ (.slice y6.n o.net.length y6.nc)) 29 := ⟨bt, _, h6t, hs2⟩
          have hXS := ((hAl.trans (hb6.mono hAl.size)).grown hs2 (Nat.le_trans hAl.size hb6.size) (fun k hk => by cases hk; rw [HBbt.out]; exact Nat.le_refl _))
          have d0 : X6.cell? ⟨bt, 0, none⟩ = some (.slice yt.p tw.parts.length yt.pc) := cellB h6t 0
          have d1 : X6.cell? ⟨bt, 1, none⟩ = some (.slice yt.l tw.plan.length yt.lc) := cellB h6t 1
          have d2 : X6.cell? ⟨bt, 2, none⟩ = some (.int .i64 tw.now) := cellB h6t 2
          have d3 : X6.cell? ⟨bt, 3, none⟩ = some (.slice yt.d tw.done.length yt.dc) := cellB h6t 3
          have d4 : X6.cell? ⟨bt, 4, none⟩ = some (.slice yt.h tw.got.length yt.hc) := cellB h6t 4
          have d5 : X6.cell? ⟨bt, 5, none⟩ = some (.slice yt.g tw.grants.length yt.gc) := cellB h6t 5
          have d6 : X6.cell? ⟨bt, 6, none⟩ = some (.slice yt.k tw.work.length yt.kc) := cellB h6t 6
          have d7 : X6.cell? ⟨bt, 7, none⟩ = some (.slice yt.n tw.net.length yt.nc) := cellB h6t 7
          have ld : bt < X6.heap.size := (Array.getElem?_eq_some_iff.1 h6t).1
          have df : ∀ i, X6.frozen? ⟨bt, i, none⟩ = false := frozenB h6t
          have HS : Hid (((((((((X6.setCell ⟨bt, 0, none⟩ (.slice y6.p o.parts.length y6.pc)).setCell ⟨bt, 1, none⟩ (.slice y6.l o.plan.length y6.lc)).setCell ⟨bt, 2, none⟩ (.int .i64 o.now)).setCell ⟨bt, 3, none⟩ (.slice y6.d o.done.length y6.dc)).setCell ⟨bt, 4, none⟩ (.slice y6.h o.got.length y6.hc)).setCell ⟨bt, 5, none⟩ (.slice y6.g o.grants.length y6.gc)).setCell ⟨bt, 6, none⟩ (.slice y6.k o.work.length y6.kc)).setCell ⟨bt, 7, none⟩ (.slice y6.n o.net.length y6.nc)).heap[bt]? = some (.cells #[.slice y6.p o.parts.length y6.pc, .slice y6.l o.plan.length y6.lc, .int .i64 o.now, .slice y6.d o.done.length y6.dc, .slice y6.h o.got.length y6.hc, .slice y6.g o.grants.length y6.gc, .slice y6.k o.work.length y6.kc, .slice y6.n o.net.length y6.nc] 29 (0, 0)) ∧ FarmAt ((((((((X6.setCell ⟨bt, 0, none⟩ (.slice y6.p o.parts.length y6.pc)).setCell ⟨bt, 1, none⟩ (.slice y6.l o.plan.length y6.lc)).setCell ⟨bt, 2, none⟩ (.int .i64 o.now)).setCell ⟨bt, 3, none⟩ (.slice y6.d o.done.length y6.dc)).setCell ⟨bt, 4, none⟩ (.slice y6.h o.got.length y6.hc)).setCell ⟨bt, 5, none⟩ (.slice y6.g o.grants.length y6.gc)).setCell ⟨bt, 6, none⟩ (.slice y6.k o.work.length y6.kc)).setCell ⟨bt, 7, none⟩ (.slice y6.n o.net.length y6.nc)) o y6 ∧ Below X.heap.size X ((((((((X6.setCell ⟨bt, 0, none⟩ (.slice y6.p o.parts.length y6.pc)).setCell ⟨bt, 1, none⟩ (.slice y6.l o.plan.length y6.lc)).setCell ⟨bt, 2, none⟩ (.int .i64 o.now)).setCell ⟨bt, 3, none⟩ (.slice y6.d o.done.length y6.dc)).setCell ⟨bt, 4, none⟩ (.slice y6.h o.got.length y6.hc)).setCell ⟨bt, 5, none⟩ (.slice y6.g o.grants.length y6.gc)).setCell ⟨bt, 6, none⟩ (.slice y6.k o.work.length y6.kc)).setCell ⟨bt, 7, none⟩ (.slice y6.n o.net.length y6.nc))) := ⟨hs1, (hR6.wr wrF).at, hXS⟩
          clear hs1 hs2 wrF hXS hR6 hg6 h6t KD
          go_upto_region 23 with fail
          obtain ⟨S, hS⟩ : ∃ S, S = ((((((((X6.setCell ⟨bt, 0, none⟩ (.slice y6.p o.parts.length y6.pc)).setCell ⟨bt, 1, none⟩ (.slice y6.l o.plan.length y6.lc)).setCell ⟨bt, 2, none⟩ (.int .i64 o.now)).setCell ⟨bt, 3, none⟩ (.slice y6.d o.done.length y6.dc)).setCell ⟨bt, 4, none⟩ (.slice y6.h o.got.length y6.hc)).setCell ⟨bt, 5, none⟩ (.slice y6.g o.grants.length y6.gc)).setCell ⟨bt, 6, none⟩ (.slice y6.k o.work.length y6.kc)).setCell ⟨bt, 7, none⟩ (.slice y6.n o.net.length y6.nc)) := ⟨_, rfl⟩
          rw [← hS] at HS ⊢
          clear ld d0 d1 d2 d3 d4 d5 d6 d7
          clear df hS
          obtain ⟨hs1, hs2, hs3⟩ := HS.out
          clear HS
          have i0 := (HX.out S hs3).1.2.2.1
          have c0 : S.cell? ⟨bo, 0, none⟩ = some (.slice yo.p o.parts.length yo.pc) := cellB i0 0
          have c1 : S.cell? ⟨bo, 1, none⟩ = some (.slice yo.l o.plan.length yo.lc) := cellB i0 1
          have c2 : S.cell? ⟨bo, 2, none⟩ = some (.int .i64 o.now) := cellB i0 2
          have c3 : S.cell? ⟨bo, 3, none⟩ = some (.slice yo.d o.done.length yo.dc) := cellB i0 3
          have c4 : S.cell? ⟨bo, 4, none⟩ = some (.slice yo.h o.got.length yo.hc) := cellB i0 4
          have c5 : S.cell? ⟨bo, 5, none⟩ = some (.slice yo.g o.grants.length yo.gc) := cellB i0 5
          have c6 : S.cell? ⟨bo, 6, none⟩ = some (.slice yo.k o.work.length yo.kc) := cellB i0 6
          have c7 : S.cell? ⟨bo, 7, none⟩ = some (.slice yo.n o.net.length yo.nc) := cellB i0 7
          have lc : bo < S.heap.size := (Array.getElem?_eq_some_iff.1 i0).1
          clear i0
          have g0 : S.cell? ⟨bt, 0, none⟩ = some (.slice y6.p o.parts.length y6.pc) := cellB hs1 0
          have g1 : S.cell? ⟨bt, 1, none⟩ = some (.slice y6.l o.plan.length y6.lc) := cellB hs1 1
          have g2 : S.cell? ⟨bt, 2, none⟩ = some (.int .i64 o.now) := cellB hs1 2
          have g3 : S.cell? ⟨bt, 3, none⟩ = some (.slice y6.d o.done.length y6.dc) := cellB hs1 3
          have g4 : S.cell? ⟨bt, 4, none⟩ = some (.slice y6.h o.got.length y6.hc) := cellB hs1 4
          have g5 : S.cell? ⟨bt, 5, none⟩ = some (.slice y6.g o.grants.length y6.gc) := cellB hs1 5
          have g6 : S.cell? ⟨bt, 6, none⟩ = some (.slice y6.k o.work.length y6.kc) := cellB hs1 6
          have g7 : S.cell? ⟨bt, 7, none⟩ = some (.slice y6.n o.net.length y6.nc) := cellB hs1 7
          have lg : bt < S.heap.size := (Array.getElem?_eq_some_iff.1 hs1).1
          have KS : Hid (Calls Try.prog 21 #[.agg #[.slice yo.p o.parts.length yo.pc, .slice yo.l o.plan.length yo.lc, .int .i64 o.now, .slice yo.d o.done.length yo.dc, .slice yo.h o.got.length yo.hc, .slice yo.g o.grants.length yo.gc, .slice yo.k o.work.length yo.kc, .slice yo.n o.net.length yo.nc], .agg #[.slice y6.p o.parts.length y6.pc, .slice y6.l o.plan.length y6.lc, .int .i64 o.now, .slice y6.d o.done.length y6.dc, .slice y6.h o.got.length y6.hc, .slice y6.g o.grants.length y6.gc, .slice y6.k o.work.length y6.kc, .slice y6.n o.net.length y6.nc]] S fun e w' => e = .returned (.bool true) ∧ Below S.heap.size S w') := sameFarm_self o yo y6 S (HX.out S hs3).2.1.2.2.1 hs2
          clear hs1 hs2
          go_wp2_with (go_at_call 21; refine KS.out.mono ?_; rintro e V8 ⟨rfl, hb8⟩)
          go_ret
          exact ⟨rfl, (HX.out _ (hs3.trans (hb8.mono hs3.size))).2.2⟩
        · have hm2 : ((f.net.getD t M.msg0).kind != 2) = true := by simpa using hm
          generalize (f.net.getD t M.msg0).kind = kz at *
          go_wp2_with fail
          go_ret
          exact ⟨rfl, (HV.out _ hb5).2.2⟩
  · have hne : (cf != 0) = true := by simpa using hc
    clear hc hfo
    go_wp2_with (go_at_call 9; refine KC.out.mono ?_; rintro e V2 ⟨rfl, hb2⟩; refine Hid.out ?_)
    refine Lib.hid ?_
    go_wp2_with (go_at_call 8; refine (KFm.out _).mono ?_; rintro e V3 ⟨rfl, hb3⟩)
    go_ret
    replace hb2 := hb1.trans (hb2.mono hb1.size)
    exact ⟨rfl, (HV.out _ (hb2.trans (hb3.mono hb2.size))).2.2⟩

end Go.Proofs.Ytmlojlbmfceogaa
