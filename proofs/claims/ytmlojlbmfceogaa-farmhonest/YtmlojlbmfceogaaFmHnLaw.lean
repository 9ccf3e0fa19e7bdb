/-
  The law FarmHonest: whatever the parts, the picks, the workers and the script, it returns true.
-/
import Derived.Test.YtmlojlbmfceogaaFmFact
import Derived.Test.YtmlojlbmfceogaaFmHnMath
import Derived.Test.YtmlojlbmfceogaaFmHnR
import Derived.Test.YtmlojlbmfceogaaPlEvOut
namespace Go.Proofs.Ytmlojlbmfceogaa
open Go Go.RowKit
set_option linter.unusedVariables false

attribute [local go_sem] lat_cell

theorem run_inv {f : M.Farm} {l : List M.Hap} (hok : M.FarmOk f) (h : M.Honest f) : (M.runE f l = 2 ∧ ¬ M.runE f l = 0) ∨ (M.runE f l = 0 ∧ M.run f l = M.runF f l) := by
  have e : M.runE f l = if 120 < l.length then 2 else 0 := by
    unfold M.runE
    rw [(M.farm_iff f).2 hok]
    rfl
  by_cases hl : 120 < l.length
  · rw [if_pos hl] at e
    exact .inl ⟨e, by rw [e]; decide⟩
  · rw [if_neg hl] at e
    exact .inr ⟨e, by unfold M.run; rw [if_pos e]⟩
theorem out_late {f : M.Farm} (hok : M.FarmOk f) (h : ¬ M.outcomeE f = 0) : M.outcomeE f = 11 ∧ f.done.getD (f.plan.length - 1) false = false := by
  unfold M.outcomeE at h ⊢
  rw [(M.farm_iff f).2 hok] at h ⊢
  cases hd : f.done.getD (f.plan.length - 1) false
  · exact ⟨rfl, rfl⟩
  · rw [hd] at h; exact absurd rfl h
theorem out_done {f : M.Farm} (hok : M.FarmOk f) (h : M.outcomeE f = 0) : f.done.getD (f.plan.length - 1) false = true ∧ M.outcome f = f.got.getD (f.plan.length - 1) M.nil := by
  refine ⟨?_, by unfold M.outcome; rw [if_pos h]⟩
  unfold M.outcomeE at h
  rw [(M.farm_iff f).2 hok] at h
  cases hd : f.done.getD (f.plan.length - 1) false
  · rw [hd] at h; exact absurd h (by decide)
  · rfl

set_option maxHeartbeats 16000000 in
set_option maxRecDepth 100000 in
theorem honest_law (parts : List M.Prt) (picks : List Int) (wk : Int) (script : List M.Hap) (a0 a1 a3 : Option Addr) (c0 c1 c3 : Nat) (w : World) (hp : PartsAt w (.slice a0 parts.length c0) parts) (hq : IntsAt w (.slice a1 picks.length c1) picks) (hs : HapsAt w (.slice a3 script.length c3) script) :
    Calls Try.prog 4 #[.slice a0 parts.length c0, .slice a1 picks.length c1, .int .i64 wk, .slice a3 script.length c3] w fun e w' => e = .returned (.bool true) ∧ Below w.heap.size w w' := by
  have KFm : Hid (∀ W, Calls Try.prog 8 #[] W fun e w' => e = .returned (.bool true) ∧ Below W.heap.size W w') := fun W => farmed_true W
  have HP : Hid (∀ W, Below w.heap.size w W → PartsAt W (.slice a0 parts.length c0) parts ∧ HapsAt W (.slice a3 script.length c3) script) := fun W hW => ⟨hp.later hW, hs.later hW⟩
  have KM : Hid (Calls Try.prog 13 #[.int .i64 (parts.length : Int), .slice a1 picks.length c1] w fun e w' => Below w.heap.size w w' ∧ ∃ a c, e = .returned (.tuple #[.slice a (M.make (parts.length : Int) picks).length c, .int .i64 (M.makeE (parts.length : Int) picks)]) ∧ NodesAt w' (.slice a (M.make (parts.length : Int) picks).length c) (M.make (parts.length : Int) picks)) := (make_v (parts.length : Int) picks a1 c1 w hq).mono fun e w' ⟨j1, a, c, j2, j3, _⟩ => ⟨j1, a, c, j2, j3⟩
  have Hmk : Hid (M.makeE (parts.length : Int) picks = 0 → 1 ≤ parts.length ∧ parts.length ≤ 12 ∧ M.make (parts.length : Int) picks = M.makeL parts.length picks) := fun h => by
    obtain ⟨k, j1, j2, j3, _, j5⟩ := make_ok h
    have : k = parts.length := by omega
    subst this
    exact ⟨j2, j3, j5⟩
  clear hp hs hq
  generalize M.makeE (parts.length : Int) picks = me at *
  generalize M.make (parts.length : Int) picks = l at *
  go_enter Try.func4, Try.ntmps4
  go_wp2_with (go_at_call 13; refine KM.out.mono ?_; rintro e X1 ⟨hb1, al, cl, rfl, hl1⟩; refine Hid.out ?_)
  refine Lib.hid ?_
  have HL1 : Hid (NodesAt X1 (.slice al l.length cl) l) := hl1
  clear hl1 KM
  go_wp2_with (go_at_call 8; refine (KFm.out _).mono ?_; rintro e X2 ⟨rfl, hb2⟩; refine Hid.out ?_)
  refine Lib.hid ?_
  have HL2 : Hid (NodesAt X2 (.slice al l.length cl) l) := HL1.out.later hb2
  have HB2 : Hid (Below w.heap.size w X2) := hb1.trans (hb2.mono hb1.size)
  clear hb1 hb2 HL1
  by_cases hme : me = 0
  · have hme2 : (me != 0) = false := by simp [hme]
    obtain ⟨hp1, hp12, hlm⟩ := Hmk.out hme
    have Hlm : Hid (l = M.makeL parts.length picks) := hlm
    clear hme hlm Hmk
    have KN : Hid (Calls Try.prog 14 #[.slice a0 parts.length c0, .slice al l.length cl, .int .i64 wk] X2 fun e w' => Below X2.heap.size X2 w' ∧ ∃ y, e = .returned (.tuple #[.agg #[.slice y.p (M.new parts l wk).parts.length y.pc, .slice y.l (M.new parts l wk).plan.length y.lc, .int .i64 (M.new parts l wk).now, .slice y.d (M.new parts l wk).done.length y.dc, .slice y.h (M.new parts l wk).got.length y.hc, .slice y.g (M.new parts l wk).grants.length y.gc, .slice y.k (M.new parts l wk).work.length y.kc, .slice y.n (M.new parts l wk).net.length y.nc], .int .i64 (M.newE parts l wk)]) ∧ FarmAt w' (M.new parts l wk) y) := (new_any parts l wk a0 al c0 cl X2 (HP.out X2 HB2.out).1 HL2.out).mono fun e w' ⟨j1, y, j2, j3, _⟩ => ⟨j1, y, j2, j3⟩
    have Hnw : Hid (M.newE parts l wk = 0 → M.new parts l wk = M.newF parts l wk ∧ M.FarmOk (M.newF parts l wk) ∧ M.Honest (M.newF parts l wk)) := fun h => ⟨by unfold M.new; rw [if_pos h], M.new_farm h⟩
    generalize M.newE parts l wk = ne at *
    generalize M.new parts l wk = f0 at *
    go_upto_region 5 with (go_at_call 14; refine KN.out.mono ?_; rintro e X3 ⟨hb3, y0, rfl, hf3⟩)
    have hAl := (Below.refl X3.heap.size X3).alloc (Nat.le_refl _) (.cells #[.slice y0.p f0.parts.length y0.pc, .slice y0.l f0.plan.length y0.lc, .int .i64 f0.now, .slice y0.d f0.done.length y0.dc, .slice y0.h f0.got.length y0.hc, .slice y0.g f0.grants.length y0.gc, .slice y0.k f0.work.length y0.kc, .slice y0.n f0.net.length y0.nc] 29)
    have hn := heap_alloc_new X3 (.cells #[.slice y0.p f0.parts.length y0.pc, .slice y0.l f0.plan.length y0.lc, .int .i64 f0.now, .slice y0.d f0.done.length y0.dc, .slice y0.h f0.got.length y0.hc, .slice y0.g f0.grants.length y0.gc, .slice y0.k f0.work.length y0.kc, .slice y0.n f0.net.length y0.nc] 29)
    have HB3 : Hid (Below w.heap.size w X3) := HB2.out.trans (hb3.mono HB2.out.size)
    have HL3 : Hid (NodesAt X3 (.slice al l.length cl) l) := HL2.out.later hb3
    obtain ⟨bf, hbf⟩ : ∃ bf, bf = X3.heap.size := ⟨_, rfl⟩
    rw [← hbf] at hn ⊢
    have HBf : Hid (bf = X3.heap.size) := hbf
    clear hbf
    obtain ⟨Y, hY⟩ : ∃ Y, Y = (X3.alloc (.cells #[.slice y0.p f0.parts.length y0.pc, .slice y0.l f0.plan.length y0.lc, .int .i64 f0.now, .slice y0.d f0.done.length y0.dc, .slice y0.h f0.got.length y0.hc, .slice y0.g f0.grants.length y0.gc, .slice y0.k f0.work.length y0.kc, .slice y0.n f0.net.length y0.nc] 29)) := ⟨_, rfl⟩
    rw [← hY] at hn hAl ⊢
    clear hY KN hb3 HL2
    have hfY : FarmAt Y f0 y0 := hf3.later hAl
    have HBY : Hid (Below w.heap.size w Y) := HB3.out.trans (hAl.mono HB3.out.size)
    clear hf3
    by_cases hne : ne = 0
    · have hne2 : (ne != 0) = false := by simp [hne]
      obtain ⟨hnf, hok0, hho0⟩ := Hnw.out hne
      have h1p : f0.plan = l := by rw [hnf]; rfl
      have h1q : f0.parts = parts := by rw [hnf]; rfl
      rw [← hnf] at hok0 hho0
      have H1 : Hid (f0.plan = l ∧ f0.parts = parts) := ⟨h1p, h1q⟩
      have Hok0 : Hid (M.FarmOk f0 ∧ M.Honest f0) := ⟨hok0, hho0⟩
      clear hne hnf h1p h1q hok0 hho0 Hnw HB2
      have KR : Hid (Calls Try.prog 15 #[.agg #[.slice y0.p f0.parts.length y0.pc, .slice y0.l f0.plan.length y0.lc, .int .i64 f0.now, .slice y0.d f0.done.length y0.dc, .slice y0.h f0.got.length y0.hc, .slice y0.g f0.grants.length y0.gc, .slice y0.k f0.work.length y0.kc, .slice y0.n f0.net.length y0.nc], .slice a3 script.length c3] Y fun e w' => Below Y.heap.size Y w' ∧ ∃ y v, e = .returned (.tuple #[.agg #[.slice y.p (M.run f0 script).1.parts.length y.pc, .slice y.l (M.run f0 script).1.plan.length y.lc, .int .i64 (M.run f0 script).1.now, .slice y.d (M.run f0 script).1.done.length y.dc, .slice y.h (M.run f0 script).1.got.length y.hc, .slice y.g (M.run f0 script).1.grants.length y.gc, .slice y.k (M.run f0 script).1.work.length y.kc, .slice y.n (M.run f0 script).1.net.length y.nc], v, .int .i64 (M.runE f0 script)]) ∧ FarmAt w' (M.run f0 script).1 y ∧ (M.runE f0 script = 0 → ∃ o, FmR Y.heap.size w' (M.run f0 script).1 y o)) := (run_any f0 y0 script a3 c3 Y hfY (HP.out Y HBY.out).2).mono fun e w' ⟨j1, y, v, j2, j3, _⟩ => ⟨j1, y, v, j2, j3.1, j3.2⟩
      have hrun := run_inv (l := script) Hok0.out.1 Hok0.out.2
      have hhon := M.honest_run script Hok0.out.1 Hok0.out.2
      have Hrun : Hid ((M.runE f0 script = 2 ∧ ¬ M.runE f0 script = 0) ∨ (M.runE f0 script = 0 ∧ M.FarmOk (M.run f0 script).1 ∧ M.Honest (M.run f0 script).1 ∧ (M.run f0 script).1.plan = l ∧ (M.run f0 script).1.parts = parts)) := by
        rcases hrun with h | ⟨h1, h2⟩
        · exact .inl h
        · rw [h2]
          exact .inr ⟨h1, hhon.1, hhon.2.1, hhon.2.2.1.trans H1.out.1, hhon.2.2.2.trans H1.out.2⟩
      clear hrun hhon
      generalize M.runE f0 script = re at *
      generalize (M.run f0 script).1 = f at *
      have k0 : Y.cell? ⟨bf, 0, none⟩ = some (.slice y0.p f0.parts.length y0.pc) := cellB hn 0
      have k1 : Y.cell? ⟨bf, 1, none⟩ = some (.slice y0.l f0.plan.length y0.lc) := cellB hn 1
      have k2 : Y.cell? ⟨bf, 2, none⟩ = some (.int .i64 f0.now) := cellB hn 2
      have k3 : Y.cell? ⟨bf, 3, none⟩ = some (.slice y0.d f0.done.length y0.dc) := cellB hn 3
      have k4 : Y.cell? ⟨bf, 4, none⟩ = some (.slice y0.h f0.got.length y0.hc) := cellB hn 4
      have k5 : Y.cell? ⟨bf, 5, none⟩ = some (.slice y0.g f0.grants.length y0.gc) := cellB hn 5
      have k6 : Y.cell? ⟨bf, 6, none⟩ = some (.slice y0.k f0.work.length y0.kc) := cellB hn 6
      have k7 : Y.cell? ⟨bf, 7, none⟩ = some (.slice y0.n f0.net.length y0.nc) := cellB hn 7
      have lf : bf < Y.heap.size := (Array.getElem?_eq_some_iff.1 hn).1
      go_wp2_with (go_at_call 15; refine KR.out.mono ?_; rintro e X4 ⟨hb4, y, v4, rfl, hf4, hR4⟩; refine Hid.out ?_)
      refine Lib.hid ?_
      clear lf KR hfY k0 k1 k2 k3 k4 k5 k6 k7
      have h4t := (hb4.block _ (Array.getElem?_eq_some_iff.1 hn).1).trans hn
      obtain ⟨hs1, hs2⟩ := store8 X4 bf (.slice y0.p f0.parts.length y0.pc) (.slice y0.l f0.plan.length y0.lc) (.int .i64 f0.now) (.slice y0.d f0.done.length y0.dc) (.slice y0.h f0.got.length y0.hc) (.slice y0.g f0.grants.length y0.gc) (.slice y0.k f0.work.length y0.kc) (.slice y0.n f0.net.length y0.nc) (.slice y.p f.parts.length y.pc) (.slice y.l f.plan.length y.lc) (.int .i64 f.now) (.slice y.d f.done.length y.dc) (.slice y.h f.got.length y.hc) (.slice y.g f.grants.length y.gc) (.slice y.k f.work.length y.kc) (.slice y.n f.net.length y.nc) 29 h4t
      have wrF : Wr X4 ((((((((X4.setCell ⟨bf, 0, none⟩ (.slice y.p f.parts.length y.pc)).setCell ⟨bf, 1, none⟩ (.slice y.l f.plan.length y.lc)).setCell ⟨bf, 2, none⟩ (.int .i64 f.now)).setCell ⟨bf, 3, none⟩ (.slice y.d f.done.length y.dc)).setCell ⟨bf, 4, none⟩ (.slice y.h f.got.length y.hc)).setCell ⟨bf, 5, none⟩ (.slice y.g f.grants.length y.gc)).setCell ⟨bf, 6, none⟩ (.slice y.k f.work.length y.kc)).setCell ⟨bf, 7, none⟩ (.slice y.n f.net.length y.nc)) 29 := ⟨bf, _, h4t, hs2⟩
      have hXS := ((hAl.trans (hb4.mono hAl.size)).grown hs2 (Nat.le_trans hAl.size hb4.size) (fun k hk => by cases hk; rw [HBf.out]; exact Nat.le_refl _))
      have k0 : X4.cell? ⟨bf, 0, none⟩ = some (.slice y0.p f0.parts.length y0.pc) := cellB h4t 0
      have k1 : X4.cell? ⟨bf, 1, none⟩ = some (.slice y0.l f0.plan.length y0.lc) := cellB h4t 1
      have k2 : X4.cell? ⟨bf, 2, none⟩ = some (.int .i64 f0.now) := cellB h4t 2
      have k3 : X4.cell? ⟨bf, 3, none⟩ = some (.slice y0.d f0.done.length y0.dc) := cellB h4t 3
      have k4 : X4.cell? ⟨bf, 4, none⟩ = some (.slice y0.h f0.got.length y0.hc) := cellB h4t 4
      have k5 : X4.cell? ⟨bf, 5, none⟩ = some (.slice y0.g f0.grants.length y0.gc) := cellB h4t 5
      have k6 : X4.cell? ⟨bf, 6, none⟩ = some (.slice y0.k f0.work.length y0.kc) := cellB h4t 6
      have k7 : X4.cell? ⟨bf, 7, none⟩ = some (.slice y0.n f0.net.length y0.nc) := cellB h4t 7
      have lf : bf < X4.heap.size := (Array.getElem?_eq_some_iff.1 h4t).1
      have kf : ∀ i, X4.frozen? ⟨bf, i, none⟩ = false := frozenB h4t
      have HS : Hid (((((((((X4.setCell ⟨bf, 0, none⟩ (.slice y.p f.parts.length y.pc)).setCell ⟨bf, 1, none⟩ (.slice y.l f.plan.length y.lc)).setCell ⟨bf, 2, none⟩ (.int .i64 f.now)).setCell ⟨bf, 3, none⟩ (.slice y.d f.done.length y.dc)).setCell ⟨bf, 4, none⟩ (.slice y.h f.got.length y.hc)).setCell ⟨bf, 5, none⟩ (.slice y.g f.grants.length y.gc)).setCell ⟨bf, 6, none⟩ (.slice y.k f.work.length y.kc)).setCell ⟨bf, 7, none⟩ (.slice y.n f.net.length y.nc)).heap[bf]? = some (.cells #[.slice y.p f.parts.length y.pc, .slice y.l f.plan.length y.lc, .int .i64 f.now, .slice y.d f.done.length y.dc, .slice y.h f.got.length y.hc, .slice y.g f.grants.length y.gc, .slice y.k f.work.length y.kc, .slice y.n f.net.length y.nc] 29 (0, 0)) ∧ (re = 0 → FarmAt ((((((((X4.setCell ⟨bf, 0, none⟩ (.slice y.p f.parts.length y.pc)).setCell ⟨bf, 1, none⟩ (.slice y.l f.plan.length y.lc)).setCell ⟨bf, 2, none⟩ (.int .i64 f.now)).setCell ⟨bf, 3, none⟩ (.slice y.d f.done.length y.dc)).setCell ⟨bf, 4, none⟩ (.slice y.h f.got.length y.hc)).setCell ⟨bf, 5, none⟩ (.slice y.g f.grants.length y.gc)).setCell ⟨bf, 6, none⟩ (.slice y.k f.work.length y.kc)).setCell ⟨bf, 7, none⟩ (.slice y.n f.net.length y.nc)) f y) ∧ Below X3.heap.size X3 ((((((((X4.setCell ⟨bf, 0, none⟩ (.slice y.p f.parts.length y.pc)).setCell ⟨bf, 1, none⟩ (.slice y.l f.plan.length y.lc)).setCell ⟨bf, 2, none⟩ (.int .i64 f.now)).setCell ⟨bf, 3, none⟩ (.slice y.d f.done.length y.dc)).setCell ⟨bf, 4, none⟩ (.slice y.h f.got.length y.hc)).setCell ⟨bf, 5, none⟩ (.slice y.g f.grants.length y.gc)).setCell ⟨bf, 6, none⟩ (.slice y.k f.work.length y.kc)).setCell ⟨bf, 7, none⟩ (.slice y.n f.net.length y.nc))) := ⟨hs1, fun h => by obtain ⟨o, hR⟩ := hR4 h; exact (hR.wr wrF).at, hXS⟩
      clear hs1 hs2 wrF hXS hR4 hf4 h4t hAl hn hb4
      go_upto_region 8 with fail
      obtain ⟨S, hS⟩ : ∃ S, S = ((((((((X4.setCell ⟨bf, 0, none⟩ (.slice y.p f.parts.length y.pc)).setCell ⟨bf, 1, none⟩ (.slice y.l f.plan.length y.lc)).setCell ⟨bf, 2, none⟩ (.int .i64 f.now)).setCell ⟨bf, 3, none⟩ (.slice y.d f.done.length y.dc)).setCell ⟨bf, 4, none⟩ (.slice y.h f.got.length y.hc)).setCell ⟨bf, 5, none⟩ (.slice y.g f.grants.length y.gc)).setCell ⟨bf, 6, none⟩ (.slice y.k f.work.length y.kc)).setCell ⟨bf, 7, none⟩ (.slice y.n f.net.length y.nc)) := ⟨_, rfl⟩
      rw [← hS] at HS ⊢
      clear hS kf lf k0 k1 k2 k3 k4 k5 k6 k7
      obtain ⟨hs1, hs2, hs3⟩ := HS.out
      have HBS : Hid (Below w.heap.size w S) := HB3.out.trans (hs3.mono HB3.out.size)
      clear HS
      rcases Hrun.out with ⟨hr2, hr0⟩ | ⟨hr0, hok, hho, hpl, hpp⟩
      · have hre : (re != 0) = true := by simpa using hr0
        have hre2 : (re == 2) = true := by simpa using hr2
        clear Hrun hr2 hr0 hs1 hs2 hs3
        go_wp2_with fail
        go_ret
        exact ⟨rfl, HBS.out⟩
      · have hre : (re != 0) = false := by simp [hr0]
        have hfS := hs2 hr0
        have HV : Hid (∀ W, Below S.heap.size S W → W.heap[bf]? = some (.cells #[.slice y.p f.parts.length y.pc, .slice y.l f.plan.length y.lc, .int .i64 f.now, .slice y.d f.done.length y.dc, .slice y.h f.got.length y.hc, .slice y.g f.grants.length y.gc, .slice y.k f.work.length y.kc, .slice y.n f.net.length y.nc] 29 (0, 0)) ∧ FarmAt W f y ∧ PartsAt W (.slice a0 parts.length c0) parts ∧ NodesAt W (.slice al l.length cl) l ∧ Below w.heap.size w W) := fun W hW => by
          have h2 := HBS.out.trans (hW.mono HBS.out.size)
          exact ⟨(hW.block _ (Array.getElem?_eq_some_iff.1 hs1).1).trans hs1, hfS.later hW, (HP.out W h2).1, (HL3.out.later hs3).later hW, h2⟩
        have Hpl : Hid (f.plan = l ∧ f.parts = parts ∧ M.FarmOk f ∧ M.Honest f) := ⟨hpl, hpp, hok, hho⟩
        have KC : Hid (Calls Try.prog 9 #[.agg #[.slice y.p f.parts.length y.pc, .slice y.l f.plan.length y.lc, .int .i64 f.now, .slice y.d f.done.length y.dc, .slice y.h f.got.length y.hc, .slice y.g f.grants.length y.gc, .slice y.k f.work.length y.kc, .slice y.n f.net.length y.nc]] S fun e w' => e = .returned (.int .i64 0) ∧ Below S.heap.size S w') := by
          have := farmCheck_any f y S hfS
          rw [(M.farm_iff f).2 hok] at this
          exact this
        have hdl : f.done.length = l.length := by rw [← hpl]; exact hok.done
        have hgl : f.got.length = l.length := by rw [← hpl]; exact hok.got
        have ll23 : l.length ≤ 23 := by rw [← hpl]; exact (farm_small hok).1
        have ll0 : 0 < l.length := by rw [← hpl]; exact (M.plan_parts hok.plan).2.1
        have t1 : ((f.done.length : Int) != (l.length : Int)) = false := by simp [hdl]
        have t2 : ((f.got.length : Int) != (l.length : Int)) = false := by simp [hgl]
        have Hdl : Hid (f.done.length = l.length ∧ f.got.length = l.length) := ⟨hdl, hgl⟩
        have k0 : S.cell? ⟨bf, 0, none⟩ = some (.slice y.p f.parts.length y.pc) := cellB hs1 0
        have k1 : S.cell? ⟨bf, 1, none⟩ = some (.slice y.l f.plan.length y.lc) := cellB hs1 1
        have k2 : S.cell? ⟨bf, 2, none⟩ = some (.int .i64 f.now) := cellB hs1 2
        have k3 : S.cell? ⟨bf, 3, none⟩ = some (.slice y.d f.done.length y.dc) := cellB hs1 3
        have k4 : S.cell? ⟨bf, 4, none⟩ = some (.slice y.h f.got.length y.hc) := cellB hs1 4
        have k5 : S.cell? ⟨bf, 5, none⟩ = some (.slice y.g f.grants.length y.gc) := cellB hs1 5
        have k6 : S.cell? ⟨bf, 6, none⟩ = some (.slice y.k f.work.length y.kc) := cellB hs1 6
        have k7 : S.cell? ⟨bf, 7, none⟩ = some (.slice y.n f.net.length y.nc) := cellB hs1 7
        have lf : bf < S.heap.size := (Array.getElem?_eq_some_iff.1 hs1).1
        clear Hrun hr0 hs1 hs2 hs3 hpl hpp hok hho hdl hgl hfS HL3 HB3 HBY H1 Hok0 HBf
        go_wp2_with (go_at_call 9; refine KC.out.mono ?_; rintro e V ⟨rfl, hbV⟩; refine Hid.out ?_)
        refine Lib.hid ?_
        clear lf KC k0 k1 k2 k3 k4 k5 k6 k7
        have i0 := (HV.out V hbV).1
        have k3 : V.cell? ⟨bf, 3, none⟩ = some (.slice y.d f.done.length y.dc) := cellB i0 3
        have k4 : V.cell? ⟨bf, 4, none⟩ = some (.slice y.h f.got.length y.hc) := cellB i0 4
        have lf : bf < V.heap.size := (Array.getElem?_eq_some_iff.1 i0).1
        have HBV : Hid (Below S.heap.size S V) := hbV
        clear i0 hbV
        go_wp2_with fail
        clear k3 k4 lf t1 t2 hre hne2 hme2
        go_loopw [73] (fun s73 wr => ∃ (k : Nat), k ≤ l.length ∧ s73 = .int .i64 k ∧ Hid (Below S.heap.size S wr)) (fun s73 _ => l.length - (intOf s73).toNat)
        case atStart => exact ⟨0, Nat.zero_le _, rfl, HBV⟩
        case round =>
          obtain ⟨k, hk, rfl, HB⟩ := hrel
          clear HBV
          by_cases hlt : k < l.length
          · obtain ⟨lb, lo, rfl, m0, m1, m2⟩ := (HV.out wr HB.out).2.2.2.1.cells k hlt
            have hho := Hpl.out.2.2.2.done k
            obtain ⟨db, dof, hda, e1, -⟩ := (HV.out wr HB.out).2.1.done.cell k (by rw [Hdl.out.1]; exact hlt)
            have k3 : wr.cell? ⟨bf, 3, none⟩ = some (.slice (some ⟨db, dof, none⟩) f.done.length y.dc) := by rw [← hda]; exact cellB (HV.out wr HB.out).1 3
            have lf : bf < wr.heap.size := (Array.getElem?_eq_some_iff.1 (HV.out wr HB.out).1).1
            have lm : lb < wr.heap.size := World.block_lt_of_cell? _ _ m0
            have ld : db < wr.heap.size := World.block_lt_of_cell? _ _ e1
            have hkl : (k : Int) < (l.length : Int) := by omega
            have hkd : (k : Int) < (f.done.length : Int) := by rw [Hdl.out.1]; exact hkl
            have hk0 : (0 : Int) ≤ (k : Int) := by omega
            have hnl := @node_leaf f Hpl.out.2.2.1 k (by rw [Hpl.out.1]; exact hlt)
            have hin := @node_inner f Hpl.out.2.2.1 k (by rw [Hpl.out.1]; exact hlt)
            rw [Hpl.out.1] at hnl hin
            unfold M.madeP at hho
            rw [Hpl.out.1, Hpl.out.2.1] at hho
            rw [Hpl.out.2.1] at hnl
            generalize l.getD k M.nd0 = n at *
            obtain ⟨nl, ne1, nr⟩ := n
            simp only at m0 m1 m2 hnl hin hho
            have hA1 : Below wr.heap.size wr (wr.alloc (.cells #[.int .i64 nl, .int .i64 ne1, .int .i64 nr] 39)) := (Below.refl _ _).alloc (Nat.le_refl _) _
            have q1 := heap_alloc_new wr (.cells #[.int .i64 nl, .int .i64 ne1, .int .i64 nr] 39)
            have HB2 : Hid (Below S.heap.size S (wr.alloc (.cells #[.int .i64 nl, .int .i64 ne1, .int .i64 nr] 39))) := HB.out.trans (hA1.mono HB.out.size)
            clear hda
            cases hT : f.done.getD k false
            · rw [hT] at e1
              clear hT hho hnl hin
              go_wp2_with fail
              go_roundw
              case rel => exact ⟨k + 1, by omega, by go_num, HB2⟩
              case measure => simp [intOf]; omega
            · have hho := hho hT
              rw [hT] at e1
              go_upto_region 16 with fail
              obtain ⟨nd, hnd⟩ : ∃ nd, nd = wr.heap.size := ⟨_, rfl⟩
              rw [← hnd] at q1 ⊢
              have Hnd : Hid (nd = wr.heap.size) := hnd
              clear hnd hT m0 m1 m2 k3 e1 lf lm ld hA1
              generalize wr.alloc (.cells #[.int .i64 nl, .int .i64 ne1, .int .i64 nr] 39) = Z at *
              have j0 : Z.cell? ⟨nd, 0, none⟩ = some (.int .i64 nl) := cellB q1 0
              have ln : nd < Z.heap.size := (Array.getElem?_eq_some_iff.1 q1).1
              obtain ⟨gb, go, x1, y1, x2, y2, hga, p1, p2, hF1, hF2⟩ := (HV.out Z HB2.out).2.1.got.cells k (by rw [Hdl.out.2]; exact hlt)
              have k4 : Z.cell? ⟨bf, 4, none⟩ = some (.slice (some ⟨gb, go, none⟩) f.got.length y.hc) := by rw [← hga]; exact cellB (HV.out Z HB2.out).1 4
              have lf : bf < Z.heap.size := (Array.getElem?_eq_some_iff.1 (HV.out Z HB2.out).1).1
              have lg : gb < Z.heap.size := World.block_lt_of_cell? _ _ p1
              have hkg : (k : Int) < (f.got.length : Int) := by rw [Hdl.out.2]; exact hkl
              by_cases hlf : nl = -1
              · subst hlf
                rw [if_pos rfl] at hho
                have hge : decide ((-1 : Int) ≥ 0) = false := by decide
                obtain ⟨⟨hl0, hl1⟩, hr0, hr1⟩ := hin rfl
                obtain ⟨le, rfl⟩ : ∃ m : Nat, ne1 = m := ⟨ne1.toNat, by omega⟩
                obtain ⟨ri, rfl⟩ : ∃ m : Nat, nr = m := ⟨nr.toNat, by omega⟩
                simp only [Int.toNat_natCast] at hho
                go_upto_region 19 with fail
                have hdd : f.done.getD le false = true ∧ f.done.getD ri false = true ∧ M.join (f.got.getD le M.nil) (f.got.getD ri M.nil) = (f.got.getD k M.nil, 0) := by
                  by_cases hd : (f.done.getD le false && f.done.getD ri false) = true
                  · rw [if_pos hd] at hho
                    rw [Bool.and_eq_true] at hd
                    have i1 := congrArg Prod.fst hho
                    have i2 := congrArg Prod.snd hho
                    simp only [beq_iff_eq] at i1 i2
                    exact ⟨hd.1, hd.2, Prod.ext i1 i2⟩
                  · rw [if_neg hd] at hho
                    simp at hho
                obtain ⟨hdL, hdR, hjn⟩ := hdd
                have hZf := (HV.out Z HB2.out).2.1
                have hlel : le < l.length := by omega
                have hril : ri < l.length := by omega
                obtain ⟨db2, dof2, hda2, dl, -⟩ := hZf.done.cell le (by rw [Hdl.out.1]; exact hlel)
                obtain ⟨db3, dof3, hda3, dr, -⟩ := hZf.done.cell ri (by rw [Hdl.out.1]; exact hril)
                rw [hda2] at hda3
                cases hda3
                rw [hdL] at dl
                rw [hdR] at dr
                obtain ⟨gb2, go2, x3, y3, x4, y4, hga2, p3, p4, hF3, hF4⟩ := hZf.got.cells le (by rw [Hdl.out.2]; exact hlel)
                rw [hga] at hga2
                cases hga2
                obtain ⟨gb3, go3, x5, y5, x6, y6, hga3, p5, p6, hF5, hF6⟩ := hZf.got.cells ri (by rw [Hdl.out.2]; exact hril)
                rw [hga] at hga3
                cases hga3
                have k3 : Z.cell? ⟨bf, 3, none⟩ = some (.slice (some ⟨db2, dof2, none⟩) f.done.length y.dc) := by rw [← hda2]; exact cellB (HV.out Z HB2.out).1 3
                have j1 : Z.cell? ⟨nd, 1, none⟩ = some (.int .i64 le) := cellB q1 1
                have j2 : Z.cell? ⟨nd, 2, none⟩ = some (.int .i64 ri) := cellB q1 2
                have hgl1 : (le : Int) < (f.got.length : Int) := by rw [Hdl.out.2]; omega
                have hgr1 : (ri : Int) < (f.got.length : Int) := by rw [Hdl.out.2]; omega
                have hdl1 : (le : Int) < (f.done.length : Int) := by rw [Hdl.out.1]; omega
                have hdr1 : (ri : Int) < (f.done.length : Int) := by rw [Hdl.out.1]; omega
                have Hjn : Hid (M.join (f.got.getD le M.nil) (f.got.getD ri M.nil) = (f.got.getD k M.nil, 0)) := hjn
                clear hho hjn hdL hdR hda2 hga hZf hnl hin hl0 hl1 hr0 hr1 j0 hge
                generalize f.got.getD le M.nil = A at *
                generalize f.got.getD ri M.nil = C at *
                generalize f.got.getD k M.nil = P at *
                have hstay : ∀ W, Below Z.heap.size Z W → (W.cell? ⟨bf, 4, none⟩ = some (.slice (some ⟨gb, go, none⟩) f.got.length y.hc) ∧ W.cell? ⟨nd, 1, none⟩ = some (.int .i64 le) ∧ W.cell? ⟨nd, 2, none⟩ = some (.int .i64 ri)) ∧ (W.cell? ⟨gb, go + le * 2, none⟩ = some (.slice x3 A.frags.length y3) ∧ W.cell? ⟨gb, go + le * 2 + 1, none⟩ = some (.slice x4 A.defs.length y4) ∧ W.cell? ⟨gb, go + ri * 2, none⟩ = some (.slice x5 C.frags.length y5) ∧ W.cell? ⟨gb, go + ri * 2 + 1, none⟩ = some (.slice x6 C.defs.length y6)) ∧ (FragsAt W (.slice x3 A.frags.length y3) A.frags ∧ DefsAt W (.slice x4 A.defs.length y4) A.defs ∧ FragsAt W (.slice x5 C.frags.length y5) C.frags ∧ DefsAt W (.slice x6 C.defs.length y6) C.defs) := fun W hW => ⟨⟨cell_later hW k4, cell_later hW j1, cell_later hW j2⟩, ⟨cell_later hW p3, cell_later hW p4, cell_later hW p5, cell_later hW p6⟩, hF3.later hW, hF4.later hW, hF5.later hW, hF6.later hW⟩
                have hstay2 : ∀ W, Below Z.heap.size Z W → (W.cell? ⟨bf, 3, none⟩ = some (.slice (some ⟨db2, dof2, none⟩) f.done.length y.dc) ∧ W.cell? ⟨db2, dof2 + le, none⟩ = some (.bool true) ∧ W.cell? ⟨db2, dof2 + ri, none⟩ = some (.bool true)) ∧ (W.cell? ⟨gb, go + k * 2, none⟩ = some (.slice x1 P.frags.length y1) ∧ W.cell? ⟨gb, go + k * 2 + 1, none⟩ = some (.slice x2 P.defs.length y2)) ∧ FragsAt W (.slice x1 P.frags.length y1) P.frags ∧ DefsAt W (.slice x2 P.defs.length y2) P.defs ∧ (bf < W.heap.size ∧ nd < W.heap.size ∧ gb < W.heap.size ∧ db2 < W.heap.size) := fun W hW => ⟨⟨cell_later hW k3, cell_later hW dl, cell_later hW dr⟩, ⟨cell_later hW p1, cell_later hW p2⟩, hF1.later hW, hF2.later hW, Nat.lt_of_lt_of_le lf hW.size, Nat.lt_of_lt_of_le ln hW.size, Nat.lt_of_lt_of_le lg hW.size, Nat.lt_of_lt_of_le (World.block_lt_of_cell? _ _ dl) hW.size⟩
                clear k3 k4 j1 j2 dl dr p1 p2 p3 p4 p5 p6 hF1 hF2 hF3 hF4 hF5 hF6 q1
                refine wp_region_rel 18 (fun _ W => Below Z.heap.size Z W) (fun v => ⟨#[Value.slice a0 parts.length c0, Value.slice a1 picks.length c1, Value.int IntKind.i64 wk, Value.slice a3 script.length c3, undef, undef, undef, undef, u8, Value.slice (some { block := lb, off := lo }) l.length cl, Value.int IntKind.i64 re, Value.pointer (some { block := bf, off := 0 }), Value.int IntKind.i64 ↑k, Value.pointer (some { block := nd, off := 0 }), v 16, u15, undef, undef, Value.tuple #[Value.slice (some { block := lb, off := lo }) l.length cl, Value.int IntKind.i64 me], Value.slice a0 parts.length c0, Value.int IntKind.i64 ↑parts.length, Value.slice a1 picks.length c1, Value.tuple #[Value.slice (some { block := lb, off := lo }) l.length cl, Value.int IntKind.i64 me], Value.slice (some { block := lb, off := lo }) l.length cl, Value.int IntKind.i64 me, Value.bool true, Value.bool false, Value.bool false, Value.int IntKind.i64 me, Value.bool false, Value.bool false, undef, Value.tuple #[Value.agg #[Value.slice y0.p f0.parts.length y0.pc, Value.slice y0.l f0.plan.length y0.lc, Value.int IntKind.i64 f0.now, Value.slice y0.d f0.done.length y0.dc, Value.slice y0.h f0.got.length y0.hc, Value.slice y0.g f0.grants.length y0.gc, Value.slice y0.k f0.work.length y0.kc, Value.slice y0.n f0.net.length y0.nc], Value.int IntKind.i64 ne], Value.slice a0 parts.length c0, Value.slice (some { block := lb, off := lo }) l.length cl, Value.int IntKind.i64 wk, Value.tuple #[Value.agg #[Value.slice y0.p f0.parts.length y0.pc, Value.slice y0.l f0.plan.length y0.lc, Value.int IntKind.i64 f0.now, Value.slice y0.d f0.done.length y0.dc, Value.slice y0.h f0.got.length y0.hc, Value.slice y0.g f0.grants.length y0.gc, Value.slice y0.k f0.work.length y0.kc, Value.slice y0.n f0.net.length y0.nc], Value.int IntKind.i64 ne], Value.agg #[Value.slice y0.p f0.parts.length y0.pc, Value.slice y0.l f0.plan.length y0.lc, Value.int IntKind.i64 f0.now, Value.slice y0.d f0.done.length y0.dc, Value.slice y0.h f0.got.length y0.hc, Value.slice y0.g f0.grants.length y0.gc, Value.slice y0.k f0.work.length y0.kc, Value.slice y0.n f0.net.length y0.nc], Value.int IntKind.i64 ne, Value.int IntKind.i64 ne, Value.bool false, Value.tuple #[Value.agg #[Value.slice y.p f.parts.length y.pc, Value.slice y.l f.plan.length y.lc, Value.int IntKind.i64 f.now, Value.slice y.d f.done.length y.dc, Value.slice y.h f.got.length y.hc, Value.slice y.g f.grants.length y.gc, Value.slice y.k f.work.length y.kc, Value.slice y.n f.net.length y.nc], v4, Value.int IntKind.i64 re], Value.agg #[Value.slice y0.p f0.parts.length y0.pc, Value.slice y0.l f0.plan.length y0.lc, Value.int IntKind.i64 f0.now, Value.slice y0.d f0.done.length y0.dc, Value.slice y0.h f0.got.length y0.hc, Value.slice y0.g f0.grants.length y0.gc, Value.slice y0.k f0.work.length y0.kc, Value.slice y0.n f0.net.length y0.nc], Value.slice a3 script.length c3, Value.tuple #[Value.agg #[Value.slice y.p f.parts.length y.pc, Value.slice y.l f.plan.length y.lc, Value.int IntKind.i64 f.now, Value.slice y.d f.done.length y.dc, Value.slice y.h f.got.length y.hc, Value.slice y.g f.grants.length y.gc, Value.slice y.k f.work.length y.kc, Value.slice y.n f.net.length y.nc], v4, Value.int IntKind.i64 re], Value.agg #[Value.slice y.p f.parts.length y.pc, Value.slice y.l f.plan.length y.lc, Value.int IntKind.i64 f.now, Value.slice y.d f.done.length y.dc, Value.slice y.h f.got.length y.hc, Value.slice y.g f.grants.length y.gc, Value.slice y.k f.work.length y.kc, Value.slice y.n f.net.length y.nc], v4, Value.int IntKind.i64 re, Value.int IntKind.i64 re, Value.bool false, undef, undef, Value.agg #[Value.slice y.p f.parts.length y.pc, Value.slice y.l f.plan.length y.lc, Value.int IntKind.i64 f.now, Value.slice y.d f.done.length y.dc, Value.slice y.h f.got.length y.hc, Value.slice y.g f.grants.length y.gc, Value.slice y.k f.work.length y.kc, Value.slice y.n f.net.length y.nc], Value.int IntKind.i64 0, Value.bool false, Value.bool false, Value.pointer (some { block := bf, off := 3 }), Value.slice y.d f.done.length y.dc, Value.int IntKind.i64 ↑f.done.length, Value.slice (some { block := lb, off := lo }) l.length cl, Value.int IntKind.i64 ↑l.length, Value.bool false, Value.bool false, Value.bool false, Value.pointer (some { block := bf, off := 4 }), Value.slice y.h f.got.length y.hc, Value.int IntKind.i64 ↑f.got.length, Value.slice (some { block := lb, off := lo }) l.length cl, Value.int IntKind.i64 ↑l.length, Value.bool false, Value.bool false, Value.slice (some { block := lb, off := lo }) l.length cl, Value.int IntKind.i64 ↑l.length, Value.int IntKind.i64 ↑k, Value.bool true, Value.int IntKind.i64 ↑k, Value.pointer (some { block := lb, off := lo + k * 3 }), Value.agg #[Value.int IntKind.i64 (-1), Value.int IntKind.i64 ↑le, Value.int IntKind.i64 ↑ri], Value.pointer (some { block := bf, off := 3 }), Value.slice (some { block := db, off := dof }) f.done.length y.dc, Value.int IntKind.i64 ↑k, Value.pointer (some { block := db, off := dof + k }), Value.bool true, Value.bool false, Value.pointer (some { block := nd, off := 0 }), Value.int IntKind.i64 (-1), Value.bool false, u87, u88, u89, u90, u91, u92, u93, u94, u95, u96, u97, u98, v 13, v 0, v 1, v 2, v 3, v 4, v 5, v 6, v 7, v 8, v 9, v 10, v 11, v 12, v 14, v 15, u115, u116, u117, u118, u119, u120, u121, u122, u123, u124, u125, u126, u127, u128, u129, u130, u131, u132, u133, u134, u135, u136, u137, u138, u139, u140, u141, u142, u143, u144, u145, undef, undef, undef, undef, undef, undef, undef, undef, undef, undef, undef, undef, undef, undef, undef, undef, undef, undef, undef, undef, undef, undef, undef, undef, undef, undef, undef, undef, undef, undef, undef], []⟩) (hnR Z.heap.size bf nd gb go le ri f y A C x3 x4 x5 x6 y3 y4 y5 y6) (fun j k u x => j = 17 → k = 16 → u = .tuple #[x]) (by kernel_rfl) (by kernel_rfl) (Below.refl _ _).drew ⟨fun j => match j with | 0 => u100 | 1 => u101 | 2 => u102 | 3 => u103 | 4 => u104 | 5 => u105 | 6 => u106 | 7 => u107 | 8 => u108 | 9 => u109 | 10 => u110 | 11 => u111 | 12 => u112 | 13 => u99 | 14 => u113 | 15 => u114 | 16 => u14 | _ => undef, rfl⟩ ?_ ?_
                · intro j op hj ho
                  rcases (by omega : j = 0 ∨ j = 1 ∨ j = 2 ∨ j = 3 ∨ j = 4 ∨ j = 5 ∨ j = 6 ∨ j = 7 ∨ j = 8 ∨ j = 9 ∨ j = 10 ∨ j = 11 ∨ j = 12 ∨ j = 13 ∨ j = 14 ∨ j = 15 ∨ j = 16 ∨ j = 17) with rfl | rfl | rfl | rfl | rfl | rfl | rfl | rfl | rfl | rfl | rfl | rfl | rfl | rfl | rfl | rfl | rfl | rfl
                  all_goals cases ho
                  all_goals refine relStep_of rfl rfl ?_
                  all_goals rintro sd v W hC hin hsd hdep hdz
                  all_goals obtain ⟨⟨c4, n1, n2⟩, ⟨e0, e1, e2, e3⟩, hFA, hDA, hFC, hDC⟩ := hstay W hC
                  · exact wp_val (.pointer (some ⟨bf, 4, none⟩)) (by simp [execOp, Act.eval, go_sem]) ⟨_, rfl, hC, fun _ _ _ _ h => h, rfl, fun k hk _ hz => ⟨fun h => absurd h (by omega), fun _ h => absurd h (by omega)⟩⟩
                  · have hv0 : v 0 = .pointer (some ⟨bf, 4, none⟩) := hdep ⟨0, .data⟩ (by simp) rfl
                    exact wp_val (.slice (some ⟨gb, go, none⟩) f.got.length y.hc) (by simp [execOp, Act.eval, go_sem, hv0, c4]) ⟨_, rfl, hC, fun _ _ _ _ h => h, rfl, fun k hk _ hz => ⟨fun h => absurd h (by omega), fun _ h => absurd h (by omega)⟩⟩
                  · exact wp_val (.pointer (some ⟨nd, 1, none⟩)) (by simp [execOp, Act.eval, go_sem]) ⟨_, rfl, hC, fun _ _ _ _ h => h, rfl, fun k hk _ hz => ⟨fun h => absurd h (by omega), fun _ h => absurd h (by omega)⟩⟩
                  · have hv2 : v 2 = .pointer (some ⟨nd, 1, none⟩) := hdep ⟨2, .data⟩ (by simp) rfl
                    exact wp_val (.int .i64 (le : Nat)) (by simp [execOp, Act.eval, go_sem, hv2, n1]) ⟨_, rfl, hC, fun _ _ _ _ h => h, rfl, fun k hk _ hz => ⟨fun h => absurd h (by omega), fun _ h => absurd h (by omega)⟩⟩
                  · have hv1 : v 1 = .slice (some ⟨gb, go, none⟩) f.got.length y.hc := hdep ⟨1, .data⟩ (by simp) rfl
                    have hv3 : v 3 = .int .i64 (le : Nat) := hdep ⟨3, .data⟩ (by simp) rfl
                    exact wp_val (.pointer (some ⟨gb, go + le * 2, none⟩)) (by simp [execOp, Act.eval, go_sem, hv1, hv3, hgl1]) ⟨_, rfl, hC, fun _ _ _ _ h => h, rfl, fun k hk _ hz => ⟨fun h => absurd h (by omega), fun _ h => absurd h (by omega)⟩⟩
                  · have hv4 : v 4 = .pointer (some ⟨gb, go + le * 2, none⟩) := hdep ⟨4, .data⟩ (by simp) rfl
                    exact wp_val (.agg #[.slice x3 A.frags.length y3, .slice x4 A.defs.length y4]) (by simp [execOp, Act.eval, go_sem, hv4, e0, e1]) ⟨_, rfl, hC, fun _ _ _ _ h => h, rfl, fun k hk _ hz => ⟨fun h => absurd h (by omega), fun _ h => absurd h (by omega)⟩⟩
                  · exact wp_val (.pointer (some ⟨bf, 4, none⟩)) (by simp [execOp, Act.eval, go_sem]) ⟨_, rfl, hC, fun _ _ _ _ h => h, rfl, fun k hk _ hz => ⟨fun h => absurd h (by omega), fun _ h => absurd h (by omega)⟩⟩
                  · have hv6 : v 6 = .pointer (some ⟨bf, 4, none⟩) := hdep ⟨6, .data⟩ (by simp) rfl
                    exact wp_val (.slice (some ⟨gb, go, none⟩) f.got.length y.hc) (by simp [execOp, Act.eval, go_sem, hv6, c4]) ⟨_, rfl, hC, fun _ _ _ _ h => h, rfl, fun k hk _ hz => ⟨fun h => absurd h (by omega), fun _ h => absurd h (by omega)⟩⟩
                  · exact wp_val (.pointer (some ⟨nd, 2, none⟩)) (by simp [execOp, Act.eval, go_sem]) ⟨_, rfl, hC, fun _ _ _ _ h => h, rfl, fun k hk _ hz => ⟨fun h => absurd h (by omega), fun _ h => absurd h (by omega)⟩⟩
                  · have hv8 : v 8 = .pointer (some ⟨nd, 2, none⟩) := hdep ⟨8, .data⟩ (by simp) rfl
                    exact wp_val (.int .i64 (ri : Nat)) (by simp [execOp, Act.eval, go_sem, hv8, n2]) ⟨_, rfl, hC, fun _ _ _ _ h => h, rfl, fun k hk _ hz => ⟨fun h => absurd h (by omega), fun _ h => absurd h (by omega)⟩⟩
                  · have hv7 : v 7 = .slice (some ⟨gb, go, none⟩) f.got.length y.hc := hdep ⟨7, .data⟩ (by simp) rfl
                    have hv9 : v 9 = .int .i64 (ri : Nat) := hdep ⟨9, .data⟩ (by simp) rfl
                    exact wp_val (.pointer (some ⟨gb, go + ri * 2, none⟩)) (by simp [execOp, Act.eval, go_sem, hv7, hv9, hgr1]) ⟨_, rfl, hC, fun _ _ _ _ h => h, rfl, fun k hk _ hz => ⟨fun h => absurd h (by omega), fun _ h => absurd h (by omega)⟩⟩
                  · have hv10 : v 10 = .pointer (some ⟨gb, go + ri * 2, none⟩) := hdep ⟨10, .data⟩ (by simp) rfl
                    exact wp_val (.agg #[.slice x5 C.frags.length y5, .slice x6 C.defs.length y6]) (by simp [execOp, Act.eval, go_sem, hv10, e2, e3]) ⟨_, rfl, hC, fun _ _ _ _ h => h, rfl, fun k hk _ hz => ⟨fun h => absurd h (by omega), fun _ h => absurd h (by omega)⟩⟩
                  · have h5 : v 5 = .agg #[.slice x3 A.frags.length y3, .slice x4 A.defs.length y4] := hdep ⟨5, .data⟩ (by simp) rfl
                    have h11 : v 11 = .agg #[.slice x5 C.frags.length y5, .slice x6 C.defs.length y6] := hdep ⟨11, .data⟩ (by simp) rfl
                    refine wp_enter 16 #[.agg #[.slice x3 A.frags.length y3, .slice x4 A.defs.length y4], .agg #[.slice x5 C.frags.length y5, .slice x6 C.defs.length y6]] (by simp [Act.eval, go_sem, h5, h11]) ?_
                    refine (join_any A C _ _ _ _ _ _ _ _ W hFA hDA hFC hDC).mono ?_
                    rintro e W2 ⟨hb2, es, vF, vD, rfl, hP, hes⟩
                    exact ⟨_, rfl, _, rfl, hC.trans (hb2.mono hC.size), fun k z _ _ => hnR_later hb2 k z, ⟨vF, vD, rfl, es, hP.base hC.size, hes⟩, fun k hk _ hz => ⟨fun h => absurd h (by omega), fun _ h => absurd h (by omega)⟩⟩
                  · obtain ⟨vF, vD, h16, hP⟩ : hnR Z.heap.size bf nd gb go le ri f y A C x3 x4 x5 x6 y3 y4 y5 y6 12 W (v 12) := hdep ⟨12, .data⟩ (by simp) rfl
                    exact wp_val (.tuple #[.agg #[vF, vD], .int .i64 (M.join A C).2]) (by simp [execOp, Act.eval, go_sem, h16]) ⟨_, rfl, hC, fun _ _ _ _ h => h, ⟨vF, vD, rfl, hP⟩, fun k hk _ hz => ⟨fun h => absurd h (by omega), fun _ h => absurd h (by omega)⟩⟩
                  · obtain ⟨vF, vD, h16, hP⟩ : hnR Z.heap.size bf nd gb go le ri f y A C x3 x4 x5 x6 y3 y4 y5 y6 13 W (v 13) := hdep ⟨13, .data⟩ (by simp) rfl
                    exact wp_val (.agg #[vF, vD]) (by simp [execOp, Act.eval, go_sem, h16]) ⟨_, rfl, hC, fun _ _ _ _ h => h, ⟨vF, vD, rfl, hP⟩, fun k hk _ hz => ⟨fun h => absurd h (by omega), fun _ h => absurd h (by omega)⟩⟩
                  · obtain ⟨vF, vD, h16, hP⟩ : hnR Z.heap.size bf nd gb go le ri f y A C x3 x4 x5 x6 y3 y4 y5 y6 13 W (v 13) := hdep ⟨13, .data⟩ (by simp) rfl
                    exact wp_val (.int .i64 (M.join A C).2) (by simp [execOp, Act.eval, go_sem, h16]) ⟨_, rfl, hC, fun _ _ _ _ h => h, rfl, fun k hk _ hz => ⟨fun h => absurd h (by omega), fun _ h => absurd h (by omega)⟩⟩
                  · have hA := (Below.refl W.heap.size W).alloc (Nat.le_refl _) (.cells #[.slice none 0 0, .slice none 0 0] 44)
                    refine wp_valW (.pointer (some ⟨W.heap.size, 0, none⟩)) (W.alloc (.cells #[.slice none 0 0, .slice none 0 0] 44)) (by simp [execOp, go_sem]) ⟨_, rfl, hC.trans (hA.mono hC.size), fun k z _ _ => hnR_later hA k z, ⟨W.heap.size, _, _, rfl, hC.size, heap_alloc_new W _⟩, fun k hk hs hz => ⟨fun h => absurd h (by omega), fun h _ => ?_⟩⟩
                    rw [h] at hs
                    have := hin.closed 17 _ rfl hs ⟨16, .data⟩ (by simp) rfl
                    rw [getD_both hsd] at this
                    cases this
                  · obtain ⟨g, c0, c1, h20, hNg, hg⟩ : hnR Z.heap.size bf nd gb go le ri f y A C x3 x4 x5 x6 y3 y4 y5 y6 16 W (v 16) := hdep ⟨16, .data⟩ (by simp) rfl
                    obtain ⟨vF, vD, h18, hP⟩ : hnR Z.heap.size bf nd gb go le ri f y A C x3 x4 x5 x6 y3 y4 y5 y6 14 W (v 14) := hdep ⟨14, .data⟩ (by simp) rfl
                    obtain ⟨a1, k1, a2, k2, e1', e2', _, _⟩ := hP.at
                    simp only at e1' e2'
                    subst e1' e2'
                    have g0 : W.cell? ⟨g, 0, none⟩ = some c0 := cellB hg 0
                    have g1 : W.cell? ⟨g, 1, none⟩ = some c1 := cellB hg 1
                    have gf : ∀ i, W.frozen? ⟨g, i, none⟩ = false := frozenB hg
                    have lg : g < W.heap.size := (Array.getElem?_eq_some_iff.1 hg).1
                    obtain ⟨vF, hvF⟩ : ∃ vF : Value, vF = .slice a1 (M.join A C).1.frags.length k1 := ⟨_, rfl⟩
                    obtain ⟨vD, hvD⟩ : ∃ vD : Value, vD = .slice a2 (M.join A C).1.defs.length k2 := ⟨_, rfl⟩
                    have wrP : Wr W ((W.setCell ⟨g, 0, none⟩ vF).setCell ⟨g, 1, none⟩ vD) 44 := ⟨g, _, hg, grown_trans (grown_set _ _ _ _) (grown_set _ _ _ _)⟩
                    have hgn : ((W.setCell ⟨g, 0, none⟩ vF).setCell ⟨g, 1, none⟩ vD).heap[g]? = some (.cells #[vF, vD] 44 (0, 0)) := setB' (setB' hg _) _
                    have hP' : POwn W Z.heap.size ⟨(M.join A C).1, vF, vD⟩ := by rw [hvF, hvD]; exact hP
                    refine wp_skipW ((W.setCell ⟨g, 0, none⟩ vF).setCell ⟨g, 1, none⟩ vD) (by rw [hvF, hvD]; simp [execOp, Act.eval, go_sem, h20, h18, g0, g1, gf]) ⟨.tuple #[v 16], rfl, (hC.setCell hNg _).setCell hNg _, ?_, ⟨g, vF, vD, by rw [h20], hNg, hgn, wrP.pown hP' (by decide) (by decide) (by decide) (by decide)⟩, fun k hk _ hz => ⟨fun _ h => by rw [h], fun h => absurd h hk⟩⟩
                    intro i u hi hs hR
                    rcases (by omega : i = 0 ∨ i = 1 ∨ i = 2 ∨ i = 3 ∨ i = 4 ∨ i = 5 ∨ i = 6 ∨ i = 7 ∨ i = 8 ∨ i = 9 ∨ i = 10 ∨ i = 11 ∨ i = 12 ∨ i = 13 ∨ i = 14 ∨ i = 15 ∨ i = 16 ∨ 17 < i) with rfl | rfl | rfl | rfl | rfl | rfl | rfl | rfl | rfl | rfl | rfl | rfl | rfl | rfl | rfl | rfl | rfl | h8
                    · exact hR
                    · exact hR
                    · exact hR
                    · exact hR
                    · exact hR
                    · exact hR
                    · exact hR
                    · exact hR
                    · exact hR
                    · exact hR
                    · exact hR
                    · exact hR
                    · obtain ⟨uF, uD, k1, k2⟩ := hR; exact ⟨uF, uD, k1, wrP.pown k2 (by decide) (by decide) (by decide) (by decide)⟩
                    · obtain ⟨uF, uD, k1, k2⟩ := hR; exact ⟨uF, uD, k1, wrP.pown k2 (by decide) (by decide) (by decide) (by decide)⟩
                    · obtain ⟨uF, uD, k1, k2⟩ := hR; exact ⟨uF, uD, k1, wrP.pown k2 (by decide) (by decide) (by decide) (by decide)⟩
                    · exact hR
                    · obtain ⟨g2, u0, u1, k1, k2, k3⟩ := hR
                      by_cases hgg : g2 = g
                      · subst hgg
                        exact ⟨g2, _, _, k1, k2, hgn⟩
                      · exact ⟨g2, u0, u1, k1, k2, ((Below.heap_setCell _ _ _ _ hgg).trans (Below.heap_setCell _ _ _ _ hgg)).trans k3⟩
                    · exact (hnR_none h8 hR).elim
                · rintro sd v W hC hR hZ
                  obtain ⟨g, vF, vD, h21, hNg, hg, hP⟩ : hnR Z.heap.size bf nd gb go le ri f y A C x3 x4 x5 x6 y3 y4 y5 y6 17 W (v 17) := hR 17 (by decide)
                  obtain ⟨g', _, _, h20, _, _⟩ : hnR Z.heap.size bf nd gb go le ri f y A C x3 x4 x5 x6 y3 y4 y5 y6 16 W (v 16) := hR 16 (by decide)
                  have h19 : v 15 = .int .i64 (M.join A C).2 := hR 15 (by decide)
                  have hz := hZ 17 16 (by decide) (by decide) (by decide) rfl rfl
                  rw [h21, h20] at hz
                  have hgg : g = g' := by cases hz; rfl
                  subst hgg
                  obtain ⟨a1, k1, a2, k2, e1, e2, hF5, hF6⟩ := hP.at
                  simp only at e1 e2 hF5 hF6
                  subst e1 e2
                  simp only [List.drop_succ_cons, List.drop_zero]
                  rw [h20, h19]
                  rw [Hjn.out] at hg hF5 hF6 ⊢
                  simp only at hg hF5 hF6
                  obtain ⟨⟨c4, n1, n2⟩, -, -⟩ := hstay W hC
                  obtain ⟨⟨c3, dl, dr⟩, ⟨p1, p2⟩, hF1, hF2, lf, ln, lg, ldb⟩ := hstay2 W hC
                  have r0 : W.cell? ⟨g, 0, none⟩ = some (.slice a1 P.frags.length k1) := cellB hg 0
                  have r1 : W.cell? ⟨g, 1, none⟩ = some (.slice a2 P.defs.length k2) := cellB hg 1
                  have lgg : g < W.heap.size := (Array.getElem?_eq_some_iff.1 hg).1
                  have KS : Hid (∀ V, Below W.heap.size W V → Calls Try.prog 12 #[.agg #[.slice a1 P.frags.length k1, .slice a2 P.defs.length k2], .agg #[.slice x1 P.frags.length y1, .slice x2 P.defs.length y2]] V fun e w' => e = .returned (.bool true) ∧ Below V.heap.size V w') := fun V hV => by
                    have := same_any P.frags P.frags P.defs P.defs _ _ _ _ _ _ _ _ V (hF5.later hV) (hF6.later hV) (hF1.later hV) (hF2.later hV)
                    rw [same_selfP ⟨_, _⟩] at this
                    exact this
                  have HW : Hid (Below S.heap.size S W) := HB2.out.trans (hC.mono HB2.out.size)
                  clear hR hZ hz h21 h20 h19 hP hg hC hstay hstay2 hF1 hF2 hF5 hF6 hNg
                  go_upto_region 20 with fail
                  refine wp_region_lat (by kernel_rfl) (by kernel_rfl) ?_
                  intro hne
                  repeat (go_big_quiet_step ((go_at_call 12; exact lat_of (KS.out _ (Lat.below _)))))
                  refine wpQuiet_nil ?_
                  intro X hX
                  have hX := lat_out hX
                  have HX : Hid (Below S.heap.size S X) := HW.out.trans (hX.mono HW.out.size)
                  clear hX hne
                  go_wp2_with fail
                  go_roundw
                  case rel => exact ⟨k + 1, by omega, by go_num, HX⟩
                  case measure => simp [intOf]; omega
              · obtain ⟨hf0, hf1⟩ := hnl hlf
                obtain ⟨lv, rfl⟩ : ∃ m : Nat, nl = m := ⟨nl.toNat, by omega⟩
                rw [if_neg hlf] at hho
                simp only [Int.toNat_natCast] at hho
                have hpg : parts.getD lv M.nil = f.got.getD k M.nil := congrArg Prod.fst hho
                have hlvp : lv < parts.length := by omega
                have hlvI : (lv : Int) < (parts.length : Int) := by omega
                have hlv0 : (0 : Int) ≤ (lv : Int) := by omega
                obtain ⟨pb, po, x3, y3, x4, y4, rfl, p3, p4, hF3, hF4⟩ := (HV.out Z HB2.out).2.2.1.cells lv hlvp
                rw [hpg] at p3 p4 hF3 hF4
                have lp : pb < Z.heap.size := World.block_lt_of_cell? _ _ p3
                have KS : Hid (∀ W, Below Z.heap.size Z W → Calls Try.prog 12 #[.agg #[.slice x1 (f.got.getD k M.nil).frags.length y1, .slice x2 (f.got.getD k M.nil).defs.length y2], .agg #[.slice x3 (f.got.getD k M.nil).frags.length y3, .slice x4 (f.got.getD k M.nil).defs.length y4]] W fun e w' => e = .returned (.bool true) ∧ Below W.heap.size W w') := fun W hW => by
                  have := same_any (f.got.getD k M.nil).frags (f.got.getD k M.nil).frags (f.got.getD k M.nil).defs (f.got.getD k M.nil).defs _ _ _ _ _ _ _ _ W (hF1.later hW) (hF2.later hW) (hF3.later hW) (hF4.later hW)
                  rw [same_selfP ⟨_, _⟩] at this
                  exact this
                clear hF1 hF2 hF3 hF4 hho hpg hga hlf hnl hin
                generalize f.got.getD k M.nil = P at *
                go_upto_region 17 with fail
                refine wp_region_lat (by kernel_rfl) (by kernel_rfl) ?_
                intro hne
                repeat (go_big_quiet_step ((go_at_call 12; exact lat_of (KS.out _ (Lat.below _)))))
                refine wpQuiet_nil ?_
                intro X hX
                have hX := lat_out hX
                have HX : Hid (Below S.heap.size S X) := HB2.out.trans (hX.mono HB2.out.size)
                clear hX hne
                go_wp2_with fail
                go_roundw
                case rel => exact ⟨k + 1, by omega, by go_num, HX⟩
                case measure => simp [intOf]; omega
          · obtain rfl : k = l.length := by omega
            have HwS : Hid (∀ W, Below wr.heap.size wr W → Below S.heap.size S W) := fun W hW => HB.out.trans (hW.mono HB.out.size)
            have KO : Hid (Calls Try.prog 17 #[.agg #[.slice y.p f.parts.length y.pc, .slice y.l f.plan.length y.lc, .int .i64 f.now, .slice y.d f.done.length y.dc, .slice y.h f.got.length y.hc, .slice y.g f.grants.length y.gc, .slice y.k f.work.length y.kc, .slice y.n f.net.length y.nc]] wr fun e w' => Below wr.heap.size wr w' ∧ ∃ x1 y1 x2 y2, e = .returned (.tuple #[.agg #[.slice x1 (M.outcome f).frags.length y1, .slice x2 (M.outcome f).defs.length y2], .int .i64 (M.outcomeE f)]) ∧ FragsAt w' (.slice x1 (M.outcome f).frags.length y1) (M.outcome f).frags ∧ DefsAt w' (.slice x2 (M.outcome f).defs.length y2) (M.outcome f).defs) := outcome_any f y wr (HV.out wr HB.out).2.1
            have i0 := (HV.out wr HB.out).1
            have k0 : wr.cell? ⟨bf, 0, none⟩ = some (.slice y.p f.parts.length y.pc) := cellB i0 0
            have k1 : wr.cell? ⟨bf, 1, none⟩ = some (.slice y.l f.plan.length y.lc) := cellB i0 1
            have k2 : wr.cell? ⟨bf, 2, none⟩ = some (.int .i64 f.now) := cellB i0 2
            have k3 : wr.cell? ⟨bf, 3, none⟩ = some (.slice y.d f.done.length y.dc) := cellB i0 3
            have k4 : wr.cell? ⟨bf, 4, none⟩ = some (.slice y.h f.got.length y.hc) := cellB i0 4
            have k5 : wr.cell? ⟨bf, 5, none⟩ = some (.slice y.g f.grants.length y.gc) := cellB i0 5
            have k6 : wr.cell? ⟨bf, 6, none⟩ = some (.slice y.k f.work.length y.kc) := cellB i0 6
            have k7 : wr.cell? ⟨bf, 7, none⟩ = some (.slice y.n f.net.length y.nc) := cellB i0 7
            have lf : bf < wr.heap.size := (Array.getElem?_eq_some_iff.1 i0).1
            clear i0
            by_cases hoe : M.outcomeE f = 0
            · obtain ⟨hdn, hou⟩ := out_done Hpl.out.2.2.1 hoe
              have hev := M.eval_got Hpl.out.2.2.1 Hpl.out.2.2.2 hdn
              rw [Hpl.out.1, Hpl.out.2.1] at hev
              have hem := (M.eval_made parts picks hp1 hp12).1
              rw [← Hlm.out, hev] at hem
              obtain ⟨ha0, -, hal⟩ := hem rfl
              rw [Hpl.out.1] at hou
              have hq : M.outcome f = (M.allFrom M.nil parts).1 := hou.trans hal
              have KA : Hid (∀ W, Below wr.heap.size wr W → Calls Try.prog 18 #[.slice a0 parts.length c0] W fun e w' => Below W.heap.size W w' ∧ ∃ z1 u1 z2 u2, e = .returned (.tuple #[.agg #[.slice z1 (M.outcome f).frags.length u1, .slice z2 (M.outcome f).defs.length u2], .int .i64 0]) ∧ FragsAt w' (.slice z1 (M.outcome f).frags.length u1) (M.outcome f).frags ∧ DefsAt w' (.slice z2 (M.outcome f).defs.length u2) (M.outcome f).defs) := fun W hW => by
                have := all_any parts a0 c0 W (HV.out W (HwS.out W hW)).2.2.1 (by omega)
                refine this.mono ?_
                rintro e w' ⟨j1, es, vF, vD, rfl, hP, hes⟩
                obtain ⟨z1, u1, z2, u2, e1, e2, j2, j3⟩ := POwn.at (e := ⟨(M.allFrom M.nil parts).1, vF, vD⟩) ⟨es, hP, hes⟩
                simp only at e1 e2 j2 j3
                rw [hq, ha0, e1, e2]
                exact ⟨j1, z1, u1, z2, u2, rfl, j2, j3⟩
              rw [hoe] at KO
              clear hoe hdn hou hev hem ha0 hal hq
              generalize M.outcome f = O at *
              go_upto_region 24 with (go_at_call 17; refine KO.out.mono ?_; rintro e X5 ⟨hb5, x1, y1, x2, y2, rfl, hF1, hF2⟩)
              have hA5 := (Below.refl X5.heap.size X5).alloc (Nat.le_refl _) (.cells #[.slice x1 O.frags.length y1, .slice x2 O.defs.length y2] 44)
              have n5 := heap_alloc_new X5 (.cells #[.slice x1 O.frags.length y1, .slice x2 O.defs.length y2] 44)
              obtain ⟨bp, hbp⟩ : ∃ bp, bp = X5.heap.size := ⟨_, rfl⟩
              rw [← hbp] at n5 ⊢
              clear hbp
              obtain ⟨Y5, hY5⟩ : ∃ Y5, Y5 = (X5.alloc (.cells #[.slice x1 O.frags.length y1, .slice x2 O.defs.length y2] 44)) := ⟨_, rfl⟩
              rw [← hY5] at n5 hA5 ⊢
              clear hY5 KO lf k0 k1 k2 k3 k4 k5 k6 k7
              have HB5 : Hid (Below wr.heap.size wr Y5) := hb5.trans (hA5.mono hb5.size)
              have HF5 : Hid (∀ W, Below Y5.heap.size Y5 W → W.heap[bp]? = some (.cells #[.slice x1 O.frags.length y1, .slice x2 O.defs.length y2] 44 (0, 0)) ∧ FragsAt W (.slice x1 O.frags.length y1) O.frags ∧ DefsAt W (.slice x2 O.defs.length y2) O.defs) := fun W hW => ⟨(hW.block _ (Array.getElem?_eq_some_iff.1 n5).1).trans n5, (hF1.later hA5).later hW, (hF2.later hA5).later hW⟩
              clear n5 hA5 hb5 hF1 hF2
              go_upto_region 27 with (go_at_call 18; refine (KA.out _ HB5.out).mono ?_; rintro e X6 ⟨hb6, z1, u1, z2, u2, rfl, hF3, hF4⟩)
              have hA6 := (Below.refl X6.heap.size X6).alloc (Nat.le_refl _) (.cells #[.slice z1 O.frags.length u1, .slice z2 O.defs.length u2] 44)
              have n6 := heap_alloc_new X6 (.cells #[.slice z1 O.frags.length u1, .slice z2 O.defs.length u2] 44)
              obtain ⟨bq, hbq⟩ : ∃ bq, bq = X6.heap.size := ⟨_, rfl⟩
              rw [← hbq] at n6 ⊢
              clear hbq
              obtain ⟨Y6, hY6⟩ : ∃ Y6, Y6 = (X6.alloc (.cells #[.slice z1 O.frags.length u1, .slice z2 O.defs.length u2] 44)) := ⟨_, rfl⟩
              rw [← hY6] at n6 hA6 ⊢
              clear hY6 KA
              have h56 := hb6.trans (hA6.mono hb6.size)
              obtain ⟨n5, hF1, hF2⟩ := HF5.out Y6 h56
              have HB6 : Hid (Below S.heap.size S Y6) := HwS.out _ (HB5.out.trans (h56.mono HB5.out.size))
              have KS : Hid (Calls Try.prog 12 #[.agg #[.slice x1 O.frags.length y1, .slice x2 O.defs.length y2], .agg #[.slice z1 O.frags.length u1, .slice z2 O.defs.length u2]] Y6 fun e w' => e = .returned (.bool true) ∧ Below Y6.heap.size Y6 w') := by
                have := same_any O.frags O.frags O.defs O.defs _ _ _ _ _ _ _ _ Y6 hF1 hF2 (hF3.later hA6) (hF4.later hA6)
                rw [same_selfP ⟨_, _⟩] at this
                exact this
              have r0 : Y6.cell? ⟨bp, 0, none⟩ = some (.slice x1 O.frags.length y1) := cellB n5 0
              have r1 : Y6.cell? ⟨bp, 1, none⟩ = some (.slice x2 O.defs.length y2) := cellB n5 1
              have s0 : Y6.cell? ⟨bq, 0, none⟩ = some (.slice z1 O.frags.length u1) := cellB n6 0
              have s1 : Y6.cell? ⟨bq, 1, none⟩ = some (.slice z2 O.defs.length u2) := cellB n6 1
              have lp : bp < Y6.heap.size := (Array.getElem?_eq_some_iff.1 n5).1
              have lq : bq < Y6.heap.size := (Array.getElem?_eq_some_iff.1 n6).1
              clear n5 n6 hF1 hF2 hF3 hF4 hA6 hb6 h56
              go_wp2_with (go_at_call 12; refine KS.out.mono ?_; rintro e V7 ⟨rfl, hb7⟩)
              go_ret
              exact ⟨rfl, (HV.out _ (HB6.out.trans (hb7.mono HB6.out.size))).2.2.2.2⟩
            · obtain ⟨ho11, hdn⟩ := out_late Hpl.out.2.2.1 hoe
              rw [ho11] at KO
              rw [Hpl.out.1] at hdn
              clear hoe ho11
              generalize M.outcome f = O at *
              go_upto_region 24 with (go_at_call 17; refine KO.out.mono ?_; rintro e X5 ⟨hb5, x1, y1, x2, y2, rfl, hF1, hF2⟩)
              have hA5 := (Below.refl X5.heap.size X5).alloc (Nat.le_refl _) (.cells #[.slice x1 O.frags.length y1, .slice x2 O.defs.length y2] 44)
              have n5 := heap_alloc_new X5 (.cells #[.slice x1 O.frags.length y1, .slice x2 O.defs.length y2] 44)
              obtain ⟨bp, hbp⟩ : ∃ bp, bp = X5.heap.size := ⟨_, rfl⟩
              rw [← hbp] at n5 ⊢
              clear hbp
              obtain ⟨Y5, hY5⟩ : ∃ Y5, Y5 = (X5.alloc (.cells #[.slice x1 O.frags.length y1, .slice x2 O.defs.length y2] 44)) := ⟨_, rfl⟩
              rw [← hY5] at n5 hA5 ⊢
              clear hY5 KO lf k0 k1 k2 k3 k4 k5 k6 k7
              have HB5 : Hid (Below wr.heap.size wr Y5) := hb5.trans (hA5.mono hb5.size)
              have HB6 : Hid (Below S.heap.size S Y5) := HwS.out _ HB5.out
              obtain ⟨i0, hfY, -, -, hwY⟩ := HV.out Y5 HB6.out
              obtain ⟨db, dof, hd0, de, ldb⟩ := hfY.done.cell (l.length - 1) (by rw [Hdl.out.1]; omega)
              rw [hdn] at de
              have c3 : Y5.cell? ⟨bf, 3, none⟩ = some (.slice (some ⟨db, dof, none⟩) f.done.length y.dc) := by rw [← hd0]; exact cellB i0 3
              have lf : bf < Y5.heap.size := (Array.getElem?_eq_some_iff.1 i0).1
              have hdI : ((l.length - 1 : Nat) : Int) < (f.done.length : Int) := by rw [Hdl.out.1]; omega
              have hsub : ((l.length : Int) - 1) = ((l.length - 1 : Nat) : Int) := by omega
              have hlen : l.length ≤ 9223372036854775807 := by omega
              have HwY : Hid (Below w.heap.size w Y5) := hwY
              clear i0 hfY hwY hd0 hdn n5 hA5 hb5 hF1 hF2
              go_wp2_with fail
              go_ret
              exact ⟨rfl, HwY.out⟩
    · have hne2 : (ne != 0) = true := by simpa using hne
      clear hne Hnw hn hAl hfY
      go_wp2_with fail
      go_ret
      exact ⟨rfl, HBY.out⟩
  · have hme2 : (me != 0) = true := by simpa using hme
    clear hme Hmk
    go_wp2_with (go_at_call 8; refine (KFm.out _).mono ?_; rintro e X4 ⟨rfl, hb4⟩)
    go_ret
    exact ⟨rfl, HB2.out.trans (hb4.mono HB2.out.size)⟩

end Go.Proofs.Ytmlojlbmfceogaa
