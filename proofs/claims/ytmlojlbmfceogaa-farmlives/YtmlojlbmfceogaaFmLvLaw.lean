/-
  The law FarmLives: whatever the parts, the picks, the workers and who works, it returns true.
-/
import Derived.Test.YtmlojlbmfceogaaFmFact
import Derived.Test.YtmlojlbmfceogaaFmLvMath
import Derived.Test.YtmlojlbmfceogaaFmAtN
import Derived.Test.YtmlojlbmfceogaaPlEvOut
namespace Go.Proofs.Ytmlojlbmfceogaa
open Go Go.RowKit
set_option linter.unusedVariables false

theorem new_some {parts : List M.Prt} {l : List M.Nd} {wk : Int} (h : M.newE parts l wk = 0) : 1 ≤ wk ∧ wk ≤ 4 := by
  unfold M.newE at h
  have h2 := (M.orE_zero.1 h).2
  cases hin : M.inR wk 1 4
  · rw [hin] at h2; exact absurd h2 (show ¬ (3 : Int) = 0 by decide)
  · exact (M.inR_iff _ _ _).1 hin

set_option maxHeartbeats 16000000 in
set_option maxRecDepth 100000 in
theorem lives_law (parts : List M.Prt) (picks : List Int) (wk : Int) (who : List Int) (a0 a1 a3 : Option Addr) (c0 c1 c3 : Nat) (w : World) (hp : PartsAt w (.slice a0 parts.length c0) parts) (hq : IntsAt w (.slice a1 picks.length c1) picks) (hs : IntsAt w (.slice a3 who.length c3) who) :
    Calls Try.prog 5 #[.slice a0 parts.length c0, .slice a1 picks.length c1, .int .i64 wk, .slice a3 who.length c3] w fun e w' => e = .returned (.bool true) ∧ Below w.heap.size w w' := by
  have hwm : who.length ≤ maxLen := by obtain ⟨_, _, _, h⟩ := SlAt.form hs; exact h
  unfold maxLen at hwm
  have KFm : Hid (∀ W, Calls Try.prog 8 #[] W fun e w' => e = .returned (.bool true) ∧ Below W.heap.size W w') := fun W => farmed_true W
  have HP : Hid (∀ W, Below w.heap.size w W → PartsAt W (.slice a0 parts.length c0) parts ∧ IntsAt W (.slice a3 who.length c3) who) := fun W hW => ⟨hp.later hW, hs.later hW⟩
  have KM : Hid (Calls Try.prog 13 #[.int .i64 (parts.length : Int), .slice a1 picks.length c1] w fun e w' => Below w.heap.size w w' ∧ ∃ a c, e = .returned (.tuple #[.slice a (M.make (parts.length : Int) picks).length c, .int .i64 (M.makeE (parts.length : Int) picks)]) ∧ NodesAt w' (.slice a (M.make (parts.length : Int) picks).length c) (M.make (parts.length : Int) picks)) := (make_v (parts.length : Int) picks a1 c1 w hq).mono fun e w' ⟨j1, a, c, j2, j3, _⟩ => ⟨j1, a, c, j2, j3⟩
  have Hmk : Hid (M.makeE (parts.length : Int) picks = 0 → 1 ≤ parts.length ∧ parts.length ≤ 12 ∧ M.make (parts.length : Int) picks = M.makeL parts.length picks) := fun h => by
    obtain ⟨k, j1, j2, j3, _, j5⟩ := make_ok h
    have : k = parts.length := by omega
    subst this
    exact ⟨j2, j3, j5⟩
  clear hp hs hq
  generalize M.makeE (parts.length : Int) picks = me at *
  generalize M.make (parts.length : Int) picks = l at *
  go_enter Try.func5, Try.ntmps5
  go_wp2_with (go_at_call 13; refine KM.out.mono ?_; rintro e X1 ⟨hb1, al, cl, rfl, hl1⟩; refine Hid.out ?_)
  refine Lib.hid ?_
  have HL1 : Hid (NodesAt X1 (.slice al l.length cl) l) := hl1
  clear hl1 KM
  go_wp2_with (go_at_call 8; refine (KFm.out _).mono ?_; rintro e X2 ⟨rfl, hb2⟩; refine Hid.out ?_)
  refine Lib.hid ?_
  have HL2 : Hid (NodesAt X2 (.slice al l.length cl) l) := HL1.out.later hb2
  have HB2 : Hid (Below w.heap.size w X2) := hb1.trans (hb2.mono hb1.size)
  clear hb1 hb2 HL1
  by_cases hme : me = 0
  · have hme2 : (me != 0) = false := by simp [hme]
    obtain ⟨hp1, hp12, hlm⟩ := Hmk.out hme
    have Hlm : Hid (l = M.makeL parts.length picks) := hlm
    clear hme hlm Hmk
    have KN : Hid (Calls Try.prog 14 #[.slice a0 parts.length c0, .slice al l.length cl, .int .i64 wk] X2 fun e w' => Below X2.heap.size X2 w' ∧ ∃ y, e = .returned (.tuple #[.agg #[.slice y.p (M.new parts l wk).parts.length y.pc, .slice y.l (M.new parts l wk).plan.length y.lc, .int .i64 (M.new parts l wk).now, .slice y.d (M.new parts l wk).done.length y.dc, .slice y.h (M.new parts l wk).got.length y.hc, .slice y.g (M.new parts l wk).grants.length y.gc, .slice y.k (M.new parts l wk).work.length y.kc, .slice y.n (M.new parts l wk).net.length y.nc], .int .i64 (M.newE parts l wk)]) ∧ (M.newE parts l wk = 0 → ∃ o, FmR X2.heap.size w' (M.new parts l wk) y o)) := (new_any parts l wk a0 al c0 cl X2 (HP.out X2 HB2.out).1 HL2.out).mono fun e w' ⟨j1, y, j2, _, j3⟩ => ⟨j1, y, j2, j3⟩
    have Hnw : Hid (M.newE parts l wk = 0 → M.new parts l wk = M.newF parts l wk ∧ M.FarmOk (M.newF parts l wk) ∧ 1 ≤ wk ∧ wk ≤ 4) := fun h => ⟨by unfold M.new; rw [if_pos h], (M.new_farm h).1, new_some h⟩
    generalize M.newE parts l wk = ne at *
    generalize M.new parts l wk = f0 at *
    go_upto_region 5 with (go_at_call 14; refine KN.out.mono ?_; rintro e X3 ⟨hb3, y0, rfl, hf3⟩)
    have hAl := (Below.refl X3.heap.size X3).alloc (Nat.le_refl _) (.cells #[.slice y0.p f0.parts.length y0.pc, .slice y0.l f0.plan.length y0.lc, .int .i64 f0.now, .slice y0.d f0.done.length y0.dc, .slice y0.h f0.got.length y0.hc, .slice y0.g f0.grants.length y0.gc, .slice y0.k f0.work.length y0.kc, .slice y0.n f0.net.length y0.nc] 29)
    have hn := heap_alloc_new X3 (.cells #[.slice y0.p f0.parts.length y0.pc, .slice y0.l f0.plan.length y0.lc, .int .i64 f0.now, .slice y0.d f0.done.length y0.dc, .slice y0.h f0.got.length y0.hc, .slice y0.g f0.grants.length y0.gc, .slice y0.k f0.work.length y0.kc, .slice y0.n f0.net.length y0.nc] 29)
    have HB3 : Hid (Below w.heap.size w X3) := HB2.out.trans (hb3.mono HB2.out.size)
    have HL3 : Hid (NodesAt X3 (.slice al l.length cl) l) := HL2.out.later hb3
    have H23 : Hid (X2.heap.size ≤ X3.heap.size) := hb3.size
    obtain ⟨bf, hbf⟩ : ∃ bf, bf = X3.heap.size := ⟨_, rfl⟩
    rw [← hbf] at hn ⊢
    have HBf : Hid (bf = X3.heap.size) := hbf
    clear hbf
    obtain ⟨Y, hY⟩ : ∃ Y, Y = (X3.alloc (.cells #[.slice y0.p f0.parts.length y0.pc, .slice y0.l f0.plan.length y0.lc, .int .i64 f0.now, .slice y0.d f0.done.length y0.dc, .slice y0.h f0.got.length y0.hc, .slice y0.g f0.grants.length y0.gc, .slice y0.k f0.work.length y0.kc, .slice y0.n f0.net.length y0.nc] 29)) := ⟨_, rfl⟩
    rw [← hY] at hn hAl ⊢
    clear hY KN hb3 HL2
    have HBY : Hid (Below X3.heap.size X3 Y) := hAl
    have Hn : Hid (Y.heap[bf]? = some (.cells #[.slice y0.p f0.parts.length y0.pc, .slice y0.l f0.plan.length y0.lc, .int .i64 f0.now, .slice y0.d f0.done.length y0.dc, .slice y0.h f0.got.length y0.hc, .slice y0.g f0.grants.length y0.gc, .slice y0.k f0.work.length y0.kc, .slice y0.n f0.net.length y0.nc] 29 (0, 0))) := hn
    have Hf : Hid (ne = 0 → ∃ o, FmR X2.heap.size Y f0 y0 o) := fun h => by obtain ⟨o, hR⟩ := hf3 h; exact ⟨o, hR.later hAl⟩
    clear hf3 hn hAl
    have HV : Hid (∀ W, Below X3.heap.size X3 W → PartsAt W (.slice a0 parts.length c0) parts ∧ IntsAt W (.slice a3 who.length c3) who ∧ NodesAt W (.slice al l.length cl) l ∧ Below w.heap.size w W) := fun W hW => by
      have h2 := HB3.out.trans (hW.mono HB3.out.size)
      exact ⟨(HP.out W h2).1, (HP.out W h2).2, HL3.out.later hW, h2⟩
    clear HP HL3 HB3 HB2
    by_cases hne : ne = 0
    · have hne2 : (ne != 0) = false := by simp [hne]
      obtain ⟨hnf, hok0, hw1, hw4⟩ := Hnw.out hne
      obtain ⟨o0, hR0⟩ := Hf.out hne
      have HR0 : Hid (FmR X2.heap.size Y f0 y0 o0) := hR0
      have Hok0 : Hid (f0 = M.newF parts l wk ∧ M.FarmOk (M.newF parts l wk)) := ⟨hnf, hok0⟩
      clear hne hnf hok0 hR0 Hf Hnw
      have KE : Hid (Calls Try.prog 19 #[.slice al l.length cl, .slice a0 parts.length c0] Y fun e w' => ∃ v, e = .returned (.tuple #[v, .int .i64 (M.eval l parts).2]) ∧ Below Y.heap.size Y w') := (eval_any l parts al a0 cl c0 Y (HV.out Y HBY.out).2.2.1 (HV.out Y HBY.out).1).mono fun e w' ⟨v, j1, j2⟩ => ⟨v, j1, j2.below⟩
      obtain ⟨ev, hev⟩ : ∃ ev, ev = M.eval l parts := ⟨_, rfl⟩
      rw [← hev] at KE
      have Hev : Hid (ev = M.eval l parts) := hev
      clear hev
      obtain ⟨E, ee⟩ := ev
      simp only at KE
      go_wp2_with (go_at_call 19; refine KE.out.mono ?_; rintro e V ⟨ve, rfl, hbV⟩; refine Hid.out ?_)
      refine Lib.hid ?_
      have HRV : Hid (FmR X2.heap.size V f0 y0 o0) := HR0.out.later hbV
      have HnV : Hid (V.heap[bf]? = some (.cells #[.slice y0.p f0.parts.length y0.pc, .slice y0.l f0.plan.length y0.lc, .int .i64 f0.now, .slice y0.d f0.done.length y0.dc, .slice y0.h f0.got.length y0.hc, .slice y0.g f0.grants.length y0.gc, .slice y0.k f0.work.length y0.kc, .slice y0.n f0.net.length y0.nc] 29 (0, 0))) := (hbV.block _ (Array.getElem?_eq_some_iff.1 Hn.out).1).trans Hn.out
      have HBV : Hid (Below X3.heap.size X3 V) := HBY.out.trans (hbV.mono HBY.out.size)
      clear KE hbV HR0 Hn HBY
      by_cases hee : ee = 0
      · have hee2 : (ee != 0) = false := by simp [hee]
        have hE : M.eval l parts = (E, 0) := by rw [← Hev.out, hee]
        obtain ⟨u4, hu4⟩ : ∃ u4 : Nat, wk = u4 := ⟨wk.toNat, by omega⟩
        subst hu4
        have hlv : f0 = M.lv parts l u4 E 0 := by rw [Hok0.out.1, M.lv_new parts l u4 E]; rfl
        have hok0 : M.FarmOk (M.lv parts l u4 E 0) := by rw [← hlv, Hok0.out.1]; exact Hok0.out.2
        have Hok : Hid (∀ k, k ≤ l.length → M.FarmOk (M.lv parts l u4 E k)) := M.lv_ok hE (by omega) hok0
        have ll23 : l.length ≤ 23 := (M.plan_parts (M.eval_at hE).1).1
        have ll0 : 0 < l.length := (M.plan_parts (M.eval_at hE).1).2.1
        have HE : Hid (M.eval l parts = (E, 0)) := hE
        have H0 : Hid (f0 = M.lv parts l u4 E 0) := hlv
        clear hE hlv hok0 Hev Hok0 hee
        go_wp2_with fail
        clear hme2 hne2 hee2
        go_loopw [56] (fun s56 wr => ∃ (k : Nat) (y : Fd) (o : Fo), k ≤ l.length ∧ s56 = .int .i64 k ∧ Hid (FmR X2.heap.size wr (M.lv parts l u4 E k) y o) ∧ Hid (wr.heap[bf]? = some (.cells #[.slice y.p (M.lv parts l u4 E k).parts.length y.pc, .slice y.l (M.lv parts l u4 E k).plan.length y.lc, .int .i64 (M.lv parts l u4 E k).now, .slice y.d (M.lv parts l u4 E k).done.length y.dc, .slice y.h (M.lv parts l u4 E k).got.length y.hc, .slice y.g (M.lv parts l u4 E k).grants.length y.gc, .slice y.k (M.lv parts l u4 E k).work.length y.kc, .slice y.n (M.lv parts l u4 E k).net.length y.nc] 29 (0, 0))) ∧ Hid (Below X3.heap.size X3 wr)) (fun s56 _ => l.length - (intOf s56).toNat)
        case atStart => exact ⟨0, y0, o0, Nat.zero_le _, rfl, by rw [← H0.out]; exact HRV, by rw [← H0.out]; exact HnV, HBV⟩
        case round =>
          obtain ⟨k, y, o, hk, rfl, HR, HN, HB⟩ := hrel
          clear HRV HnV HBV H0
          by_cases hlt : k < l.length
          · by_cases hwho : who.length = 0
            · have hgt : ¬ (0 : Int) < (who.length : Int) := by omega
              clear hwho
              have HR1 : Hid (FmR X2.heap.size (wr.alloc (.cells #[.int .i64 1, .int .i64 3, .int .i64 2, .int .i64 3] 3)) (M.lv parts l u4 E k) y o) := HR.out.later ((Below.refl _ _).alloc (Nat.le_refl _) _)
              have HN1 : Hid ((wr.alloc (.cells #[.int .i64 1, .int .i64 3, .int .i64 2, .int .i64 3] 3)).heap[bf]? = some (.cells #[.slice y.p (M.lv parts l u4 E k).parts.length y.pc, .slice y.l (M.lv parts l u4 E k).plan.length y.lc, .int .i64 (M.lv parts l u4 E k).now, .slice y.d (M.lv parts l u4 E k).done.length y.dc, .slice y.h (M.lv parts l u4 E k).got.length y.hc, .slice y.g (M.lv parts l u4 E k).grants.length y.gc, .slice y.k (M.lv parts l u4 E k).work.length y.kc, .slice y.n (M.lv parts l u4 E k).net.length y.nc] 29 (0, 0))) := (((Below.refl wr.heap.size wr).alloc (Nat.le_refl _) _).block _ (Array.getElem?_eq_some_iff.1 HN.out).1).trans HN.out
              have HB1 : Hid (Below X3.heap.size X3 (wr.alloc (.cells #[.int .i64 1, .int .i64 3, .int .i64 2, .int .i64 3] 3))) := HB.out.trans (((Below.refl wr.heap.size wr).alloc (Nat.le_refl _) _).mono HB.out.size)
              have HS1 := heap_alloc_new wr (.cells #[.int .i64 1, .int .i64 3, .int .i64 2, .int .i64 3] 3)
              go_upto_region 17 with fail
              obtain ⟨bs, hbs⟩ : ∃ bs, bs = wr.heap.size := ⟨_, rfl⟩
              rw [← hbs] at HS1 ⊢
              clear hbs
              obtain ⟨Z, hZ⟩ : ∃ Z, Z = wr.alloc (.cells #[.int .i64 1, .int .i64 3, .int .i64 2, .int .i64 3] 3) := ⟨_, rfl⟩
              rw [← hZ] at HR1 HN1 HB1 HS1 ⊢
              clear hZ HR HN HB
              obtain ⟨hstep, hokn⟩ := M.lv_steps (u := 0) HE.out hlt (by omega) (Hok.out k hk)
              have Hst : Hid (∀ j, j < 4 → M.step (M.lvAt parts l u4 E k 0 j) ⟨M.lvKind j, ((0 : Nat) : Int), 0⟩ = (M.lvAt parts l u4 E k 0 (j + 1), 0)) := hstep
              have HSS : Hid (Z.heap[bs]? = some (.cells #[.int .i64 1, .int .i64 3, .int .i64 2, .int .i64 3] 3 (0, 0))) := HS1
              clear hstep hokn HS1
              go_loopw [73] (fun s73 wr => ∃ (j : Nat) (y : Fd) (o : Fo), j ≤ 4 ∧ s73 = .int .i64 j ∧ Hid (FmR X2.heap.size wr (M.lvAt parts l u4 E k 0 j) y o) ∧ Hid (wr.heap[bf]? = some (.cells #[.slice y.p (M.lvAt parts l u4 E k 0 j).parts.length y.pc, .slice y.l (M.lvAt parts l u4 E k 0 j).plan.length y.lc, .int .i64 (M.lvAt parts l u4 E k 0 j).now, .slice y.d (M.lvAt parts l u4 E k 0 j).done.length y.dc, .slice y.h (M.lvAt parts l u4 E k 0 j).got.length y.hc, .slice y.g (M.lvAt parts l u4 E k 0 j).grants.length y.gc, .slice y.k (M.lvAt parts l u4 E k 0 j).work.length y.kc, .slice y.n (M.lvAt parts l u4 E k 0 j).net.length y.nc] 29 (0, 0))) ∧ Hid (wr.heap[bs]? = some (.cells #[.int .i64 1, .int .i64 3, .int .i64 2, .int .i64 3] 3 (0, 0))) ∧ Hid (Below X3.heap.size X3 wr)) (fun s73 _ => 4 - (intOf s73).toNat)
              case atStart => exact ⟨0, y, o, by omega, rfl, HR1, HN1, HSS, HB1⟩
              case round =>
                clear HR1 HN1 HSS HB1
                obtain ⟨j, y, o, hj, rfl, HR, HN, HS, HB⟩ := hrel
                by_cases hj4 : j < 4
                · have st := Hst.out j hj4
                  have KD : Hid (Calls Try.prog 7 #[.agg #[.slice y.p (M.lvAt parts l u4 E k 0 j).parts.length y.pc, .slice y.l (M.lvAt parts l u4 E k 0 j).plan.length y.lc, .int .i64 (M.lvAt parts l u4 E k 0 j).now, .slice y.d (M.lvAt parts l u4 E k 0 j).done.length y.dc, .slice y.h (M.lvAt parts l u4 E k 0 j).got.length y.hc, .slice y.g (M.lvAt parts l u4 E k 0 j).grants.length y.gc, .slice y.k (M.lvAt parts l u4 E k 0 j).work.length y.kc, .slice y.n (M.lvAt parts l u4 E k 0 j).net.length y.nc], .agg #[.int .i64 (M.lvKind j), .int .i64 ((0 : Nat) : Int), .int .i64 0]] wr fun e w' => Below wr.heap.size wr w' ∧ ∃ y, e = .returned (.tuple #[.agg #[.slice y.p (M.lvAt parts l u4 E k 0 (j + 1)).parts.length y.pc, .slice y.l (M.lvAt parts l u4 E k 0 (j + 1)).plan.length y.lc, .int .i64 (M.lvAt parts l u4 E k 0 (j + 1)).now, .slice y.d (M.lvAt parts l u4 E k 0 (j + 1)).done.length y.dc, .slice y.h (M.lvAt parts l u4 E k 0 (j + 1)).got.length y.hc, .slice y.g (M.lvAt parts l u4 E k 0 (j + 1)).grants.length y.gc, .slice y.k (M.lvAt parts l u4 E k 0 (j + 1)).work.length y.kc, .slice y.n (M.lvAt parts l u4 E k 0 (j + 1)).net.length y.nc], .int .i64 0]) ∧ ∃ q, FmR wr.heap.size w' (M.lvAt parts l u4 E k 0 (j + 1)) y q) := by
                    have := do_any (M.lvAt parts l u4 E k 0 j) y wr HR.out.at (M.lvKind j) ((0 : Nat) : Int) 0
                    rw [st] at this
                    exact this.mono fun e w' ⟨j1, y, j2, j3, j4⟩ => ⟨j1, y, j2, j4 rfl⟩
                  have hcell : wr.cell? ⟨bs, j, none⟩ = some (.int .i64 (M.lvKind j)) := by
                    rcases (by omega : j = 0 ∨ j = 1 ∨ j = 2 ∨ j = 3) with rfl | rfl | rfl | rfl
                    · exact cellB HS.out 0
                    · exact cellB HS.out 1
                    · exact cellB HS.out 2
                    · exact cellB HS.out 3
                  have hjI : (j : Int) < 4 := by omega
                  have hj0 : (0 : Int) ≤ (j : Int) := by omega
                  have lbs : bs < wr.heap.size := (Array.getElem?_eq_some_iff.1 HS.out).1
                  have lbf : bf < wr.heap.size := (Array.getElem?_eq_some_iff.1 HN.out).1
                  clear st
                  generalize M.lvKind j = kd at *
                  obtain ⟨fb, hg2⟩ : ∃ fb, fb = M.lvAt parts l u4 E k 0 (j + 1) := ⟨_, rfl⟩
                  rw [← hg2] at KD
                  have Hg2 : Hid (fb = M.lvAt parts l u4 E k 0 (j + 1)) := hg2
                  clear hg2
                  generalize M.lvAt parts l u4 E k 0 j = fa at *
                  have k0 : wr.cell? ⟨bf, 0, none⟩ = some (.slice y.p fa.parts.length y.pc) := cellB HN.out 0
                  have k1 : wr.cell? ⟨bf, 1, none⟩ = some (.slice y.l fa.plan.length y.lc) := cellB HN.out 1
                  have k2 : wr.cell? ⟨bf, 2, none⟩ = some (.int .i64 fa.now) := cellB HN.out 2
                  have k3 : wr.cell? ⟨bf, 3, none⟩ = some (.slice y.d fa.done.length y.dc) := cellB HN.out 3
                  have k4 : wr.cell? ⟨bf, 4, none⟩ = some (.slice y.h fa.got.length y.hc) := cellB HN.out 4
                  have k5 : wr.cell? ⟨bf, 5, none⟩ = some (.slice y.g fa.grants.length y.gc) := cellB HN.out 5
                  have k6 : wr.cell? ⟨bf, 6, none⟩ = some (.slice y.k fa.work.length y.kc) := cellB HN.out 6
                  have k7 : wr.cell? ⟨bf, 7, none⟩ = some (.slice y.n fa.net.length y.nc) := cellB HN.out 7
                  go_upto_region 20 with (go_at_call 7; refine KD.out.mono ?_; rintro e X ⟨hbX, y2, rfl, q2, hR2⟩)
                  clear KD hcell lbs lbf k0 k1 k2 k3 k4 k5 k6 k7
                  have hAl := (Below.refl X.heap.size X).alloc (Nat.le_refl _) (.cells #[.slice y2.p fb.parts.length y2.pc, .slice y2.l fb.plan.length y2.lc, .int .i64 fb.now, .slice y2.d fb.done.length y2.dc, .slice y2.h fb.got.length y2.hc, .slice y2.g fb.grants.length y2.gc, .slice y2.k fb.work.length y2.kc, .slice y2.n fb.net.length y2.nc] 29)
                  have hn := heap_alloc_new X (.cells #[.slice y2.p fb.parts.length y2.pc, .slice y2.l fb.plan.length y2.lc, .int .i64 fb.now, .slice y2.d fb.done.length y2.dc, .slice y2.h fb.got.length y2.hc, .slice y2.g fb.grants.length y2.gc, .slice y2.k fb.work.length y2.kc, .slice y2.n fb.net.length y2.nc] 29)
                  obtain ⟨bn, hbn⟩ : ∃ bn, bn = X.heap.size := ⟨_, rfl⟩
                  rw [← hbn] at hn ⊢
                  clear hbn
                  obtain ⟨Y1, hY1⟩ : ∃ Y1, Y1 = X.alloc (.cells #[.slice y2.p fb.parts.length y2.pc, .slice y2.l fb.plan.length y2.lc, .int .i64 fb.now, .slice y2.d fb.done.length y2.dc, .slice y2.h fb.got.length y2.hc, .slice y2.g fb.grants.length y2.gc, .slice y2.k fb.work.length y2.kc, .slice y2.n fb.net.length y2.nc] 29) := ⟨_, rfl⟩
                  rw [← hY1] at hn hAl ⊢
                  clear hY1
                  have hbY := hbX.trans (hAl.mono hbX.size)
                  have hsw : X2.heap.size ≤ wr.heap.size := Nat.le_trans H23.out HB.out.size
                  have hRY : FmR X2.heap.size Y1 fb y2 q2 := (hR2.base hsw).later hAl
                  have hNY := (hbY.block _ (Array.getElem?_eq_some_iff.1 HN.out).1).trans HN.out
                  have hSY := (hbY.block _ (Array.getElem?_eq_some_iff.1 HS.out).1).trans HS.out
                  have hBY := HB.out.trans (hbY.mono HB.out.size)
                  obtain ⟨hs1, hs2⟩ := store8 Y1 bf (.slice y.p fa.parts.length y.pc) (.slice y.l fa.plan.length y.lc) (.int .i64 fa.now) (.slice y.d fa.done.length y.dc) (.slice y.h fa.got.length y.hc) (.slice y.g fa.grants.length y.gc) (.slice y.k fa.work.length y.kc) (.slice y.n fa.net.length y.nc) (.slice y2.p fb.parts.length y2.pc) (.slice y2.l fb.plan.length y2.lc) (.int .i64 fb.now) (.slice y2.d fb.done.length y2.dc) (.slice y2.h fb.got.length y2.hc) (.slice y2.g fb.grants.length y2.gc) (.slice y2.k fb.work.length y2.kc) (.slice y2.n fb.net.length y2.nc) 29 hNY
                  have wrF : Wr Y1 ((((((((Y1.setCell ⟨bf, 0, none⟩ (.slice y2.p fb.parts.length y2.pc)).setCell ⟨bf, 1, none⟩ (.slice y2.l fb.plan.length y2.lc)).setCell ⟨bf, 2, none⟩ (.int .i64 fb.now)).setCell ⟨bf, 3, none⟩ (.slice y2.d fb.done.length y2.dc)).setCell ⟨bf, 4, none⟩ (.slice y2.h fb.got.length y2.hc)).setCell ⟨bf, 5, none⟩ (.slice y2.g fb.grants.length y2.gc)).setCell ⟨bf, 6, none⟩ (.slice y2.k fb.work.length y2.kc)).setCell ⟨bf, 7, none⟩ (.slice y2.n fb.net.length y2.nc)) 29 := ⟨bf, _, hNY, hs2⟩
                  have d0 : Y1.cell? ⟨bf, 0, none⟩ = some (.slice y.p fa.parts.length y.pc) := cellB hNY 0
                  have d1 : Y1.cell? ⟨bf, 1, none⟩ = some (.slice y.l fa.plan.length y.lc) := cellB hNY 1
                  have d2 : Y1.cell? ⟨bf, 2, none⟩ = some (.int .i64 fa.now) := cellB hNY 2
                  have d3 : Y1.cell? ⟨bf, 3, none⟩ = some (.slice y.d fa.done.length y.dc) := cellB hNY 3
                  have d4 : Y1.cell? ⟨bf, 4, none⟩ = some (.slice y.h fa.got.length y.hc) := cellB hNY 4
                  have d5 : Y1.cell? ⟨bf, 5, none⟩ = some (.slice y.g fa.grants.length y.gc) := cellB hNY 5
                  have d6 : Y1.cell? ⟨bf, 6, none⟩ = some (.slice y.k fa.work.length y.kc) := cellB hNY 6
                  have d7 : Y1.cell? ⟨bf, 7, none⟩ = some (.slice y.n fa.net.length y.nc) := cellB hNY 7
                  have g0 : Y1.cell? ⟨bn, 0, none⟩ = some (.slice y2.p fb.parts.length y2.pc) := cellB hn 0
                  have g1 : Y1.cell? ⟨bn, 1, none⟩ = some (.slice y2.l fb.plan.length y2.lc) := cellB hn 1
                  have g2 : Y1.cell? ⟨bn, 2, none⟩ = some (.int .i64 fb.now) := cellB hn 2
                  have g3 : Y1.cell? ⟨bn, 3, none⟩ = some (.slice y2.d fb.done.length y2.dc) := cellB hn 3
                  have g4 : Y1.cell? ⟨bn, 4, none⟩ = some (.slice y2.h fb.got.length y2.hc) := cellB hn 4
                  have g5 : Y1.cell? ⟨bn, 5, none⟩ = some (.slice y2.g fb.grants.length y2.gc) := cellB hn 5
                  have g6 : Y1.cell? ⟨bn, 6, none⟩ = some (.slice y2.k fb.work.length y2.kc) := cellB hn 6
                  have g7 : Y1.cell? ⟨bn, 7, none⟩ = some (.slice y2.n fb.net.length y2.nc) := cellB hn 7
                  have ld : bf < Y1.heap.size := (Array.getElem?_eq_some_iff.1 hNY).1
                  have lg : bn < Y1.heap.size := (Array.getElem?_eq_some_iff.1 hn).1
                  have df : ∀ i, Y1.frozen? ⟨bf, i, none⟩ = false := frozenB hNY
                  have HS9 : Hid (((((((((Y1.setCell ⟨bf, 0, none⟩ (.slice y2.p fb.parts.length y2.pc)).setCell ⟨bf, 1, none⟩ (.slice y2.l fb.plan.length y2.lc)).setCell ⟨bf, 2, none⟩ (.int .i64 fb.now)).setCell ⟨bf, 3, none⟩ (.slice y2.d fb.done.length y2.dc)).setCell ⟨bf, 4, none⟩ (.slice y2.h fb.got.length y2.hc)).setCell ⟨bf, 5, none⟩ (.slice y2.g fb.grants.length y2.gc)).setCell ⟨bf, 6, none⟩ (.slice y2.k fb.work.length y2.kc)).setCell ⟨bf, 7, none⟩ (.slice y2.n fb.net.length y2.nc)).heap[bf]? = some (.cells #[.slice y2.p fb.parts.length y2.pc, .slice y2.l fb.plan.length y2.lc, .int .i64 fb.now, .slice y2.d fb.done.length y2.dc, .slice y2.h fb.got.length y2.hc, .slice y2.g fb.grants.length y2.gc, .slice y2.k fb.work.length y2.kc, .slice y2.n fb.net.length y2.nc] 29 (0, 0)) ∧ FmR X2.heap.size ((((((((Y1.setCell ⟨bf, 0, none⟩ (.slice y2.p fb.parts.length y2.pc)).setCell ⟨bf, 1, none⟩ (.slice y2.l fb.plan.length y2.lc)).setCell ⟨bf, 2, none⟩ (.int .i64 fb.now)).setCell ⟨bf, 3, none⟩ (.slice y2.d fb.done.length y2.dc)).setCell ⟨bf, 4, none⟩ (.slice y2.h fb.got.length y2.hc)).setCell ⟨bf, 5, none⟩ (.slice y2.g fb.grants.length y2.gc)).setCell ⟨bf, 6, none⟩ (.slice y2.k fb.work.length y2.kc)).setCell ⟨bf, 7, none⟩ (.slice y2.n fb.net.length y2.nc)) fb y2 q2 ∧ ((((((((Y1.setCell ⟨bf, 0, none⟩ (.slice y2.p fb.parts.length y2.pc)).setCell ⟨bf, 1, none⟩ (.slice y2.l fb.plan.length y2.lc)).setCell ⟨bf, 2, none⟩ (.int .i64 fb.now)).setCell ⟨bf, 3, none⟩ (.slice y2.d fb.done.length y2.dc)).setCell ⟨bf, 4, none⟩ (.slice y2.h fb.got.length y2.hc)).setCell ⟨bf, 5, none⟩ (.slice y2.g fb.grants.length y2.gc)).setCell ⟨bf, 6, none⟩ (.slice y2.k fb.work.length y2.kc)).setCell ⟨bf, 7, none⟩ (.slice y2.n fb.net.length y2.nc)).heap[bs]? = some (.cells #[.int .i64 1, .int .i64 3, .int .i64 2, .int .i64 3] 3 (0, 0)) ∧ Below X3.heap.size X3 ((((((((Y1.setCell ⟨bf, 0, none⟩ (.slice y2.p fb.parts.length y2.pc)).setCell ⟨bf, 1, none⟩ (.slice y2.l fb.plan.length y2.lc)).setCell ⟨bf, 2, none⟩ (.int .i64 fb.now)).setCell ⟨bf, 3, none⟩ (.slice y2.d fb.done.length y2.dc)).setCell ⟨bf, 4, none⟩ (.slice y2.h fb.got.length y2.hc)).setCell ⟨bf, 5, none⟩ (.slice y2.g fb.grants.length y2.gc)).setCell ⟨bf, 6, none⟩ (.slice y2.k fb.work.length y2.kc)).setCell ⟨bf, 7, none⟩ (.slice y2.n fb.net.length y2.nc))) := ⟨hs1, hRY.wr wrF, wrF.block hSY (by decide), hBY.grown hs2 hBY.size (fun k hk => by cases hk; rw [HBf.out]; exact Nat.le_refl _)⟩
                  clear hs1 hs2 wrF hRY hNY hSY hBY hbY hsw hAl hn hR2 hbX HR HN HS HB
                  go_upto_region 23 with fail
                  obtain ⟨S, hS⟩ : ∃ S, S = ((((((((Y1.setCell ⟨bf, 0, none⟩ (.slice y2.p fb.parts.length y2.pc)).setCell ⟨bf, 1, none⟩ (.slice y2.l fb.plan.length y2.lc)).setCell ⟨bf, 2, none⟩ (.int .i64 fb.now)).setCell ⟨bf, 3, none⟩ (.slice y2.d fb.done.length y2.dc)).setCell ⟨bf, 4, none⟩ (.slice y2.h fb.got.length y2.hc)).setCell ⟨bf, 5, none⟩ (.slice y2.g fb.grants.length y2.gc)).setCell ⟨bf, 6, none⟩ (.slice y2.k fb.work.length y2.kc)).setCell ⟨bf, 7, none⟩ (.slice y2.n fb.net.length y2.nc)) := ⟨_, rfl⟩
                  rw [← hS] at HS9 ⊢
                  clear hS df ld lg d0 d1 d2 d3 d4 d5 d6 d7
                  obtain ⟨z1, z2, z3, z4⟩ := HS9.out
                  rw [Hg2.out] at z1 z2
                  go_wp2_with fail
                  go_roundw
                  case rel => exact ⟨j + 1, y2, q2, by omega, by go_num, z2, z1, z3, z4⟩
                  case measure => simp [intOf]; omega
                · obtain rfl : j = 4 := by omega
                  go_wp2_with fail
                  go_roundw
                  case rel => exact ⟨k + 1, y, o, by omega, by go_num, HR, HN, HB⟩
                  case measure => simp [intOf]; omega
            · have hgt : (0 : Int) < (who.length : Int) := by omega
              have hmod : k % who.length < who.length := Nat.mod_lt _ (by omega)
              obtain ⟨wb, wo, rfl, we, wlt⟩ := (HV.out wr HB.out).2.1.cell (k % who.length) hmod
              have hq1 : Int.tmod (k : Int) (who.length : Int) = ((k % who.length : Nat) : Int) := by rw [Int.tmod_eq_emod_of_nonneg (by omega)]; rfl
              have hz : ((who.length : Int) == 0) = false := by rw [beq_eq_false_iff_ne]; omega
              have hz2 : ¬ (who.length : Int) = 0 := by omega
              have hmI : ((k % who.length : Nat) : Int) < (who.length : Int) := Int.ofNat_lt.2 hmod
              have hmw : IntKind.i64.wrap ((k % who.length : Nat) : Int) = ((k % who.length : Nat) : Int) := by rw [IntKind.wrap_i64]; omega
              have hm0 : (0 : Int) ≤ ((k % who.length : Nat) : Int) := by omega
              have KA : Hid (∀ x W, Calls Try.prog 20 #[.int .i64 x, .int .i64 (u4 : Int)] W fun e w' => (∃ t, e = .returned (.int .i64 t) ∧ 0 ≤ t ∧ t < (u4 : Int)) ∧ W = w') := fun x W => atF_any x u4 W (by omega) (by omega)
              generalize who.getD (k % who.length) 0 = xw at *
              generalize k % who.length = md at *
              go_upto_region 16 with (go_at_call 20; refine (KA.out _ _).mono ?_; rintro e W9 ⟨⟨t, rfl, ht0, ht1⟩, rfl⟩)
              obtain ⟨t, rfl⟩ : ∃ m : Nat, t = m := ⟨t.toNat, by omega⟩
              have htu : t < u4 := by omega
              clear KA we wlt hq1 hz hz2 hmI hmw hm0 hmod
              have HR1 : Hid (FmR X2.heap.size (wr.alloc (.cells #[.int .i64 1, .int .i64 3, .int .i64 2, .int .i64 3] 3)) (M.lv parts l u4 E k) y o) := HR.out.later ((Below.refl _ _).alloc (Nat.le_refl _) _)
              have HN1 : Hid ((wr.alloc (.cells #[.int .i64 1, .int .i64 3, .int .i64 2, .int .i64 3] 3)).heap[bf]? = some (.cells #[.slice y.p (M.lv parts l u4 E k).parts.length y.pc, .slice y.l (M.lv parts l u4 E k).plan.length y.lc, .int .i64 (M.lv parts l u4 E k).now, .slice y.d (M.lv parts l u4 E k).done.length y.dc, .slice y.h (M.lv parts l u4 E k).got.length y.hc, .slice y.g (M.lv parts l u4 E k).grants.length y.gc, .slice y.k (M.lv parts l u4 E k).work.length y.kc, .slice y.n (M.lv parts l u4 E k).net.length y.nc] 29 (0, 0))) := (((Below.refl wr.heap.size wr).alloc (Nat.le_refl _) _).block _ (Array.getElem?_eq_some_iff.1 HN.out).1).trans HN.out
              have HB1 : Hid (Below X3.heap.size X3 (wr.alloc (.cells #[.int .i64 1, .int .i64 3, .int .i64 2, .int .i64 3] 3))) := HB.out.trans (((Below.refl wr.heap.size wr).alloc (Nat.le_refl _) _).mono HB.out.size)
              have HS1 := heap_alloc_new wr (.cells #[.int .i64 1, .int .i64 3, .int .i64 2, .int .i64 3] 3)
              go_upto_region 17 with fail
              obtain ⟨bs, hbs⟩ : ∃ bs, bs = wr.heap.size := ⟨_, rfl⟩
              rw [← hbs] at HS1 ⊢
              clear hbs
              obtain ⟨Z, hZ⟩ : ∃ Z, Z = wr.alloc (.cells #[.int .i64 1, .int .i64 3, .int .i64 2, .int .i64 3] 3) := ⟨_, rfl⟩
              rw [← hZ] at HR1 HN1 HB1 HS1 ⊢
              clear hZ HR HN HB
              obtain ⟨hstep, hokn⟩ := M.lv_steps (u := t) HE.out hlt htu (Hok.out k hk)
              have Hst : Hid (∀ j, j < 4 → M.step (M.lvAt parts l u4 E k t j) ⟨M.lvKind j, ((t : Nat) : Int), 0⟩ = (M.lvAt parts l u4 E k t (j + 1), 0)) := hstep
              have HSS : Hid (Z.heap[bs]? = some (.cells #[.int .i64 1, .int .i64 3, .int .i64 2, .int .i64 3] 3 (0, 0))) := HS1
              clear hstep hokn HS1
              go_loopw [73] (fun s73 wr => ∃ (j : Nat) (y : Fd) (o : Fo), j ≤ 4 ∧ s73 = .int .i64 j ∧ Hid (FmR X2.heap.size wr (M.lvAt parts l u4 E k t j) y o) ∧ Hid (wr.heap[bf]? = some (.cells #[.slice y.p (M.lvAt parts l u4 E k t j).parts.length y.pc, .slice y.l (M.lvAt parts l u4 E k t j).plan.length y.lc, .int .i64 (M.lvAt parts l u4 E k t j).now, .slice y.d (M.lvAt parts l u4 E k t j).done.length y.dc, .slice y.h (M.lvAt parts l u4 E k t j).got.length y.hc, .slice y.g (M.lvAt parts l u4 E k t j).grants.length y.gc, .slice y.k (M.lvAt parts l u4 E k t j).work.length y.kc, .slice y.n (M.lvAt parts l u4 E k t j).net.length y.nc] 29 (0, 0))) ∧ Hid (wr.heap[bs]? = some (.cells #[.int .i64 1, .int .i64 3, .int .i64 2, .int .i64 3] 3 (0, 0))) ∧ Hid (Below X3.heap.size X3 wr)) (fun s73 _ => 4 - (intOf s73).toNat)
              case atStart => exact ⟨0, y, o, by omega, rfl, HR1, HN1, HSS, HB1⟩
              case round =>
                clear HR1 HN1 HSS HB1
                obtain ⟨j, y, o, hj, rfl, HR, HN, HS, HB⟩ := hrel
                by_cases hj4 : j < 4
                · have st := Hst.out j hj4
                  have KD : Hid (Calls Try.prog 7 #[.agg #[.slice y.p (M.lvAt parts l u4 E k t j).parts.length y.pc, .slice y.l (M.lvAt parts l u4 E k t j).plan.length y.lc, .int .i64 (M.lvAt parts l u4 E k t j).now, .slice y.d (M.lvAt parts l u4 E k t j).done.length y.dc, .slice y.h (M.lvAt parts l u4 E k t j).got.length y.hc, .slice y.g (M.lvAt parts l u4 E k t j).grants.length y.gc, .slice y.k (M.lvAt parts l u4 E k t j).work.length y.kc, .slice y.n (M.lvAt parts l u4 E k t j).net.length y.nc], .agg #[.int .i64 (M.lvKind j), .int .i64 ((t : Nat) : Int), .int .i64 0]] wr fun e w' => Below wr.heap.size wr w' ∧ ∃ y, e = .returned (.tuple #[.agg #[.slice y.p (M.lvAt parts l u4 E k t (j + 1)).parts.length y.pc, .slice y.l (M.lvAt parts l u4 E k t (j + 1)).plan.length y.lc, .int .i64 (M.lvAt parts l u4 E k t (j + 1)).now, .slice y.d (M.lvAt parts l u4 E k t (j + 1)).done.length y.dc, .slice y.h (M.lvAt parts l u4 E k t (j + 1)).got.length y.hc, .slice y.g (M.lvAt parts l u4 E k t (j + 1)).grants.length y.gc, .slice y.k (M.lvAt parts l u4 E k t (j + 1)).work.length y.kc, .slice y.n (M.lvAt parts l u4 E k t (j + 1)).net.length y.nc], .int .i64 0]) ∧ ∃ q, FmR wr.heap.size w' (M.lvAt parts l u4 E k t (j + 1)) y q) := by
                    have := do_any (M.lvAt parts l u4 E k t j) y wr HR.out.at (M.lvKind j) ((t : Nat) : Int) 0
                    rw [st] at this
                    exact this.mono fun e w' ⟨j1, y, j2, j3, j4⟩ => ⟨j1, y, j2, j4 rfl⟩
                  have hcell : wr.cell? ⟨bs, j, none⟩ = some (.int .i64 (M.lvKind j)) := by
                    rcases (by omega : j = 0 ∨ j = 1 ∨ j = 2 ∨ j = 3) with rfl | rfl | rfl | rfl
                    · exact cellB HS.out 0
                    · exact cellB HS.out 1
                    · exact cellB HS.out 2
                    · exact cellB HS.out 3
                  have hjI : (j : Int) < 4 := by omega
                  have hj0 : (0 : Int) ≤ (j : Int) := by omega
                  have lbs : bs < wr.heap.size := (Array.getElem?_eq_some_iff.1 HS.out).1
                  have lbf : bf < wr.heap.size := (Array.getElem?_eq_some_iff.1 HN.out).1
                  clear st
                  generalize M.lvKind j = kd at *
                  obtain ⟨fb, hg2⟩ : ∃ fb, fb = M.lvAt parts l u4 E k t (j + 1) := ⟨_, rfl⟩
                  rw [← hg2] at KD
                  have Hg2 : Hid (fb = M.lvAt parts l u4 E k t (j + 1)) := hg2
                  clear hg2
                  generalize M.lvAt parts l u4 E k t j = fa at *
                  have k0 : wr.cell? ⟨bf, 0, none⟩ = some (.slice y.p fa.parts.length y.pc) := cellB HN.out 0
                  have k1 : wr.cell? ⟨bf, 1, none⟩ = some (.slice y.l fa.plan.length y.lc) := cellB HN.out 1
                  have k2 : wr.cell? ⟨bf, 2, none⟩ = some (.int .i64 fa.now) := cellB HN.out 2
                  have k3 : wr.cell? ⟨bf, 3, none⟩ = some (.slice y.d fa.done.length y.dc) := cellB HN.out 3
                  have k4 : wr.cell? ⟨bf, 4, none⟩ = some (.slice y.h fa.got.length y.hc) := cellB HN.out 4
                  have k5 : wr.cell? ⟨bf, 5, none⟩ = some (.slice y.g fa.grants.length y.gc) := cellB HN.out 5
                  have k6 : wr.cell? ⟨bf, 6, none⟩ = some (.slice y.k fa.work.length y.kc) := cellB HN.out 6
                  have k7 : wr.cell? ⟨bf, 7, none⟩ = some (.slice y.n fa.net.length y.nc) := cellB HN.out 7
                  go_upto_region 20 with (go_at_call 7; refine KD.out.mono ?_; rintro e X ⟨hbX, y2, rfl, q2, hR2⟩)
                  clear KD hcell lbs lbf k0 k1 k2 k3 k4 k5 k6 k7
                  have hAl := (Below.refl X.heap.size X).alloc (Nat.le_refl _) (.cells #[.slice y2.p fb.parts.length y2.pc, .slice y2.l fb.plan.length y2.lc, .int .i64 fb.now, .slice y2.d fb.done.length y2.dc, .slice y2.h fb.got.length y2.hc, .slice y2.g fb.grants.length y2.gc, .slice y2.k fb.work.length y2.kc, .slice y2.n fb.net.length y2.nc] 29)
                  have hn := heap_alloc_new X (.cells #[.slice y2.p fb.parts.length y2.pc, .slice y2.l fb.plan.length y2.lc, .int .i64 fb.now, .slice y2.d fb.done.length y2.dc, .slice y2.h fb.got.length y2.hc, .slice y2.g fb.grants.length y2.gc, .slice y2.k fb.work.length y2.kc, .slice y2.n fb.net.length y2.nc] 29)
                  obtain ⟨bn, hbn⟩ : ∃ bn, bn = X.heap.size := ⟨_, rfl⟩
                  rw [← hbn] at hn ⊢
                  clear hbn
                  obtain ⟨Y1, hY1⟩ : ∃ Y1, Y1 = X.alloc (.cells #[.slice y2.p fb.parts.length y2.pc, .slice y2.l fb.plan.length y2.lc, .int .i64 fb.now, .slice y2.d fb.done.length y2.dc, .slice y2.h fb.got.length y2.hc, .slice y2.g fb.grants.length y2.gc, .slice y2.k fb.work.length y2.kc, .slice y2.n fb.net.length y2.nc] 29) := ⟨_, rfl⟩
                  rw [← hY1] at hn hAl ⊢
                  clear hY1
                  have hbY := hbX.trans (hAl.mono hbX.size)
                  have hsw : X2.heap.size ≤ wr.heap.size := Nat.le_trans H23.out HB.out.size
                  have hRY : FmR X2.heap.size Y1 fb y2 q2 := (hR2.base hsw).later hAl
                  have hNY := (hbY.block _ (Array.getElem?_eq_some_iff.1 HN.out).1).trans HN.out
                  have hSY := (hbY.block _ (Array.getElem?_eq_some_iff.1 HS.out).1).trans HS.out
                  have hBY := HB.out.trans (hbY.mono HB.out.size)
                  obtain ⟨hs1, hs2⟩ := store8 Y1 bf (.slice y.p fa.parts.length y.pc) (.slice y.l fa.plan.length y.lc) (.int .i64 fa.now) (.slice y.d fa.done.length y.dc) (.slice y.h fa.got.length y.hc) (.slice y.g fa.grants.length y.gc) (.slice y.k fa.work.length y.kc) (.slice y.n fa.net.length y.nc) (.slice y2.p fb.parts.length y2.pc) (.slice y2.l fb.plan.length y2.lc) (.int .i64 fb.now) (.slice y2.d fb.done.length y2.dc) (.slice y2.h fb.got.length y2.hc) (.slice y2.g fb.grants.length y2.gc) (.slice y2.k fb.work.length y2.kc) (.slice y2.n fb.net.length y2.nc) 29 hNY
                  have wrF : Wr Y1 ((((((((Y1.setCell ⟨bf, 0, none⟩ (.slice y2.p fb.parts.length y2.pc)).setCell ⟨bf, 1, none⟩ (.slice y2.l fb.plan.length y2.lc)).setCell ⟨bf, 2, none⟩ (.int .i64 fb.now)).setCell ⟨bf, 3, none⟩ (.slice y2.d fb.done.length y2.dc)).setCell ⟨bf, 4, none⟩ (.slice y2.h fb.got.length y2.hc)).setCell ⟨bf, 5, none⟩ (.slice y2.g fb.grants.length y2.gc)).setCell ⟨bf, 6, none⟩ (.slice y2.k fb.work.length y2.kc)).setCell ⟨bf, 7, none⟩ (.slice y2.n fb.net.length y2.nc)) 29 := ⟨bf, _, hNY, hs2⟩
                  have d0 : Y1.cell? ⟨bf, 0, none⟩ = some (.slice y.p fa.parts.length y.pc) := cellB hNY 0
                  have d1 : Y1.cell? ⟨bf, 1, none⟩ = some (.slice y.l fa.plan.length y.lc) := cellB hNY 1
                  have d2 : Y1.cell? ⟨bf, 2, none⟩ = some (.int .i64 fa.now) := cellB hNY 2
                  have d3 : Y1.cell? ⟨bf, 3, none⟩ = some (.slice y.d fa.done.length y.dc) := cellB hNY 3
                  have d4 : Y1.cell? ⟨bf, 4, none⟩ = some (.slice y.h fa.got.length y.hc) := cellB hNY 4
                  have d5 : Y1.cell? ⟨bf, 5, none⟩ = some (.slice y.g fa.grants.length y.gc) := cellB hNY 5
                  have d6 : Y1.cell? ⟨bf, 6, none⟩ = some (.slice y.k fa.work.length y.kc) := cellB hNY 6
                  have d7 : Y1.cell? ⟨bf, 7, none⟩ = some (.slice y.n fa.net.length y.nc) := cellB hNY 7
                  have g0 : Y1.cell? ⟨bn, 0, none⟩ = some (.slice y2.p fb.parts.length y2.pc) := cellB hn 0
                  have g1 : Y1.cell? ⟨bn, 1, none⟩ = some (.slice y2.l fb.plan.length y2.lc) := cellB hn 1
                  have g2 : Y1.cell? ⟨bn, 2, none⟩ = some (.int .i64 fb.now) := cellB hn 2
                  have g3 : Y1.cell? ⟨bn, 3, none⟩ = some (.slice y2.d fb.done.length y2.dc) := cellB hn 3
                  have g4 : Y1.cell? ⟨bn, 4, none⟩ = some (.slice y2.h fb.got.length y2.hc) := cellB hn 4
                  have g5 : Y1.cell? ⟨bn, 5, none⟩ = some (.slice y2.g fb.grants.length y2.gc) := cellB hn 5
                  have g6 : Y1.cell? ⟨bn, 6, none⟩ = some (.slice y2.k fb.work.length y2.kc) := cellB hn 6
                  have g7 : Y1.cell? ⟨bn, 7, none⟩ = some (.slice y2.n fb.net.length y2.nc) := cellB hn 7
                  have ld : bf < Y1.heap.size := (Array.getElem?_eq_some_iff.1 hNY).1
                  have lg : bn < Y1.heap.size := (Array.getElem?_eq_some_iff.1 hn).1
                  have df : ∀ i, Y1.frozen? ⟨bf, i, none⟩ = false := frozenB hNY
                  have HS9 : Hid (((((((((Y1.setCell ⟨bf, 0, none⟩ (.slice y2.p fb.parts.length y2.pc)).setCell ⟨bf, 1, none⟩ (.slice y2.l fb.plan.length y2.lc)).setCell ⟨bf, 2, none⟩ (.int .i64 fb.now)).setCell ⟨bf, 3, none⟩ (.slice y2.d fb.done.length y2.dc)).setCell ⟨bf, 4, none⟩ (.slice y2.h fb.got.length y2.hc)).setCell ⟨bf, 5, none⟩ (.slice y2.g fb.grants.length y2.gc)).setCell ⟨bf, 6, none⟩ (.slice y2.k fb.work.length y2.kc)).setCell ⟨bf, 7, none⟩ (.slice y2.n fb.net.length y2.nc)).heap[bf]? = some (.cells #[.slice y2.p fb.parts.length y2.pc, .slice y2.l fb.plan.length y2.lc, .int .i64 fb.now, .slice y2.d fb.done.length y2.dc, .slice y2.h fb.got.length y2.hc, .slice y2.g fb.grants.length y2.gc, .slice y2.k fb.work.length y2.kc, .slice y2.n fb.net.length y2.nc] 29 (0, 0)) ∧ FmR X2.heap.size ((((((((Y1.setCell ⟨bf, 0, none⟩ (.slice y2.p fb.parts.length y2.pc)).setCell ⟨bf, 1, none⟩ (.slice y2.l fb.plan.length y2.lc)).setCell ⟨bf, 2, none⟩ (.int .i64 fb.now)).setCell ⟨bf, 3, none⟩ (.slice y2.d fb.done.length y2.dc)).setCell ⟨bf, 4, none⟩ (.slice y2.h fb.got.length y2.hc)).setCell ⟨bf, 5, none⟩ (.slice y2.g fb.grants.length y2.gc)).setCell ⟨bf, 6, none⟩ (.slice y2.k fb.work.length y2.kc)).setCell ⟨bf, 7, none⟩ (.slice y2.n fb.net.length y2.nc)) fb y2 q2 ∧ ((((((((Y1.setCell ⟨bf, 0, none⟩ (.slice y2.p fb.parts.length y2.pc)).setCell ⟨bf, 1, none⟩ (.slice y2.l fb.plan.length y2.lc)).setCell ⟨bf, 2, none⟩ (.int .i64 fb.now)).setCell ⟨bf, 3, none⟩ (.slice y2.d fb.done.length y2.dc)).setCell ⟨bf, 4, none⟩ (.slice y2.h fb.got.length y2.hc)).setCell ⟨bf, 5, none⟩ (.slice y2.g fb.grants.length y2.gc)).setCell ⟨bf, 6, none⟩ (.slice y2.k fb.work.length y2.kc)).setCell ⟨bf, 7, none⟩ (.slice y2.n fb.net.length y2.nc)).heap[bs]? = some (.cells #[.int .i64 1, .int .i64 3, .int .i64 2, .int .i64 3] 3 (0, 0)) ∧ Below X3.heap.size X3 ((((((((Y1.setCell ⟨bf, 0, none⟩ (.slice y2.p fb.parts.length y2.pc)).setCell ⟨bf, 1, none⟩ (.slice y2.l fb.plan.length y2.lc)).setCell ⟨bf, 2, none⟩ (.int .i64 fb.now)).setCell ⟨bf, 3, none⟩ (.slice y2.d fb.done.length y2.dc)).setCell ⟨bf, 4, none⟩ (.slice y2.h fb.got.length y2.hc)).setCell ⟨bf, 5, none⟩ (.slice y2.g fb.grants.length y2.gc)).setCell ⟨bf, 6, none⟩ (.slice y2.k fb.work.length y2.kc)).setCell ⟨bf, 7, none⟩ (.slice y2.n fb.net.length y2.nc))) := ⟨hs1, hRY.wr wrF, wrF.block hSY (by decide), hBY.grown hs2 hBY.size (fun k hk => by cases hk; rw [HBf.out]; exact Nat.le_refl _)⟩
                  clear hs1 hs2 wrF hRY hNY hSY hBY hbY hsw hAl hn hR2 hbX HR HN HS HB
                  go_upto_region 23 with fail
                  obtain ⟨S, hS⟩ : ∃ S, S = ((((((((Y1.setCell ⟨bf, 0, none⟩ (.slice y2.p fb.parts.length y2.pc)).setCell ⟨bf, 1, none⟩ (.slice y2.l fb.plan.length y2.lc)).setCell ⟨bf, 2, none⟩ (.int .i64 fb.now)).setCell ⟨bf, 3, none⟩ (.slice y2.d fb.done.length y2.dc)).setCell ⟨bf, 4, none⟩ (.slice y2.h fb.got.length y2.hc)).setCell ⟨bf, 5, none⟩ (.slice y2.g fb.grants.length y2.gc)).setCell ⟨bf, 6, none⟩ (.slice y2.k fb.work.length y2.kc)).setCell ⟨bf, 7, none⟩ (.slice y2.n fb.net.length y2.nc)) := ⟨_, rfl⟩
                  rw [← hS] at HS9 ⊢
                  clear hS df ld lg d0 d1 d2 d3 d4 d5 d6 d7
                  obtain ⟨z1, z2, z3, z4⟩ := HS9.out
                  rw [Hg2.out] at z1 z2
                  go_wp2_with fail
                  go_roundw
                  case rel => exact ⟨j + 1, y2, q2, by omega, by go_num, z2, z1, z3, z4⟩
                  case measure => simp [intOf]; omega
                · obtain rfl : j = 4 := by omega
                  go_wp2_with fail
                  go_roundw
                  case rel => exact ⟨k + 1, y, o, by omega, by go_num, HR, HN, HB⟩
                  case measure => simp [intOf]; omega
          · obtain rfl : k = l.length := by omega
            obtain ⟨hoe, hou⟩ := M.lv_end (wk := u4) (E := E) (Hok.out _ (Nat.le_refl _)) ll0
            have hem := (M.eval_made parts picks hp1 hp12).1
            rw [← Hlm.out, HE.out] at hem
            obtain ⟨ha0, -, hal⟩ := hem rfl
            have hq : M.outcome (M.lv parts l u4 E l.length) = (M.allFrom M.nil parts).1 := hou.trans hal
            have KO : Hid (Calls Try.prog 17 #[.agg #[.slice y.p (M.lv parts l u4 E l.length).parts.length y.pc, .slice y.l (M.lv parts l u4 E l.length).plan.length y.lc, .int .i64 (M.lv parts l u4 E l.length).now, .slice y.d (M.lv parts l u4 E l.length).done.length y.dc, .slice y.h (M.lv parts l u4 E l.length).got.length y.hc, .slice y.g (M.lv parts l u4 E l.length).grants.length y.gc, .slice y.k (M.lv parts l u4 E l.length).work.length y.kc, .slice y.n (M.lv parts l u4 E l.length).net.length y.nc]] wr fun e w' => Below wr.heap.size wr w' ∧ ∃ x1 y1 x2 y2, e = .returned (.tuple #[.agg #[.slice x1 (M.outcome (M.lv parts l u4 E l.length)).frags.length y1, .slice x2 (M.outcome (M.lv parts l u4 E l.length)).defs.length y2], .int .i64 0]) ∧ FragsAt w' (.slice x1 (M.outcome (M.lv parts l u4 E l.length)).frags.length y1) (M.outcome (M.lv parts l u4 E l.length)).frags ∧ DefsAt w' (.slice x2 (M.outcome (M.lv parts l u4 E l.length)).defs.length y2) (M.outcome (M.lv parts l u4 E l.length)).defs) := by
              have := outcome_any (M.lv parts l u4 E l.length) y wr HR.out.at
              rw [hoe] at this
              exact this
            have KA : Hid (∀ W, Below wr.heap.size wr W → Calls Try.prog 18 #[.slice a0 parts.length c0] W fun e w' => Below W.heap.size W w' ∧ ∃ z1 u1 z2 u2, e = .returned (.tuple #[.agg #[.slice z1 (M.outcome (M.lv parts l u4 E l.length)).frags.length u1, .slice z2 (M.outcome (M.lv parts l u4 E l.length)).defs.length u2], .int .i64 0]) ∧ FragsAt w' (.slice z1 (M.outcome (M.lv parts l u4 E l.length)).frags.length u1) (M.outcome (M.lv parts l u4 E l.length)).frags ∧ DefsAt w' (.slice z2 (M.outcome (M.lv parts l u4 E l.length)).defs.length u2) (M.outcome (M.lv parts l u4 E l.length)).defs) := fun W hW => by
              have := all_any parts a0 c0 W (HV.out W (HB.out.trans (hW.mono HB.out.size))).1 (by omega)
              refine this.mono ?_
              rintro e w' ⟨j1, es, vF, vD, rfl, hP, hes⟩
              obtain ⟨z1, u1, z2, u2, e1, e2, j2, j3⟩ := POwn.at (e := ⟨(M.allFrom M.nil parts).1, vF, vD⟩) ⟨es, hP, hes⟩
              simp only at e1 e2 j2 j3
              rw [hq, ha0, e1, e2]
              exact ⟨j1, z1, u1, z2, u2, rfl, j2, j3⟩
            clear hoe hou hem ha0 hal hq
            generalize M.outcome (M.lv parts l u4 E l.length) = O at *
            have HN' := HN.out
            generalize (M.lv parts l u4 E l.length) = g at *
            have k0 : wr.cell? ⟨bf, 0, none⟩ = some (.slice y.p g.parts.length y.pc) := cellB HN' 0
            have k1 : wr.cell? ⟨bf, 1, none⟩ = some (.slice y.l g.plan.length y.lc) := cellB HN' 1
            have k2 : wr.cell? ⟨bf, 2, none⟩ = some (.int .i64 g.now) := cellB HN' 2
            have k3 : wr.cell? ⟨bf, 3, none⟩ = some (.slice y.d g.done.length y.dc) := cellB HN' 3
            have k4 : wr.cell? ⟨bf, 4, none⟩ = some (.slice y.h g.got.length y.hc) := cellB HN' 4
            have k5 : wr.cell? ⟨bf, 5, none⟩ = some (.slice y.g g.grants.length y.gc) := cellB HN' 5
            have k6 : wr.cell? ⟨bf, 6, none⟩ = some (.slice y.k g.work.length y.kc) := cellB HN' 6
            have k7 : wr.cell? ⟨bf, 7, none⟩ = some (.slice y.n g.net.length y.nc) := cellB HN' 7
            have lf : bf < wr.heap.size := (Array.getElem?_eq_some_iff.1 HN').1
            clear HN'
            go_upto_region 26 with (go_at_call 17; refine KO.out.mono ?_; rintro e X5 ⟨hb5, x1, y1, x2, y2, rfl, hF1, hF2⟩)
            have hA5 := (Below.refl X5.heap.size X5).alloc (Nat.le_refl _) (.cells #[.slice x1 O.frags.length y1, .slice x2 O.defs.length y2] 44)
            have n5 := heap_alloc_new X5 (.cells #[.slice x1 O.frags.length y1, .slice x2 O.defs.length y2] 44)
            obtain ⟨bp, hbp⟩ : ∃ bp, bp = X5.heap.size := ⟨_, rfl⟩
            rw [← hbp] at n5 ⊢
            clear hbp
            obtain ⟨Y5, hY5⟩ : ∃ Y5, Y5 = (X5.alloc (.cells #[.slice x1 O.frags.length y1, .slice x2 O.defs.length y2] 44)) := ⟨_, rfl⟩
            rw [← hY5] at n5 hA5 ⊢
            clear hY5 KO lf k0 k1 k2 k3 k4 k5 k6 k7
            have HB5 : Hid (Below wr.heap.size wr Y5) := hb5.trans (hA5.mono hb5.size)
            have HF5 : Hid (∀ W, Below Y5.heap.size Y5 W → W.heap[bp]? = some (.cells #[.slice x1 O.frags.length y1, .slice x2 O.defs.length y2] 44 (0, 0)) ∧ FragsAt W (.slice x1 O.frags.length y1) O.frags ∧ DefsAt W (.slice x2 O.defs.length y2) O.defs) := fun W hW => ⟨(hW.block _ (Array.getElem?_eq_some_iff.1 n5).1).trans n5, (hF1.later hA5).later hW, (hF2.later hA5).later hW⟩
            clear n5 hA5 hb5 hF1 hF2
            go_upto_region 27 with (go_at_call 18; refine (KA.out _ HB5.out).mono ?_; rintro e X6 ⟨hb6, z1, u1, z2, u2, rfl, hF3, hF4⟩)
            have hA6 := (Below.refl X6.heap.size X6).alloc (Nat.le_refl _) (.cells #[.slice z1 O.frags.length u1, .slice z2 O.defs.length u2] 44)
            have n6 := heap_alloc_new X6 (.cells #[.slice z1 O.frags.length u1, .slice z2 O.defs.length u2] 44)
            obtain ⟨bq, hbq⟩ : ∃ bq, bq = X6.heap.size := ⟨_, rfl⟩
            rw [← hbq] at n6 ⊢
            clear hbq
            obtain ⟨Y6, hY6⟩ : ∃ Y6, Y6 = (X6.alloc (.cells #[.slice z1 O.frags.length u1, .slice z2 O.defs.length u2] 44)) := ⟨_, rfl⟩
            rw [← hY6] at n6 hA6 ⊢
            clear hY6 KA
            have h56 := hb6.trans (hA6.mono hb6.size)
            obtain ⟨n5, hF1, hF2⟩ := HF5.out Y6 h56
            have h66 := HB5.out.trans (h56.mono HB5.out.size)
            have HB6 : Hid (Below X3.heap.size X3 Y6) := HB.out.trans (h66.mono HB.out.size)
            have KS : Hid (Calls Try.prog 12 #[.agg #[.slice x1 O.frags.length y1, .slice x2 O.defs.length y2], .agg #[.slice z1 O.frags.length u1, .slice z2 O.defs.length u2]] Y6 fun e w' => e = .returned (.bool true) ∧ Below Y6.heap.size Y6 w') := by
              have := same_any O.frags O.frags O.defs O.defs _ _ _ _ _ _ _ _ Y6 hF1 hF2 (hF3.later hA6) (hF4.later hA6)
              rw [same_selfP ⟨_, _⟩] at this
              exact this
            have r0 : Y6.cell? ⟨bp, 0, none⟩ = some (.slice x1 O.frags.length y1) := cellB n5 0
            have r1 : Y6.cell? ⟨bp, 1, none⟩ = some (.slice x2 O.defs.length y2) := cellB n5 1
            have s0 : Y6.cell? ⟨bq, 0, none⟩ = some (.slice z1 O.frags.length u1) := cellB n6 0
            have s1 : Y6.cell? ⟨bq, 1, none⟩ = some (.slice z2 O.defs.length u2) := cellB n6 1
            have lp : bp < Y6.heap.size := (Array.getElem?_eq_some_iff.1 n5).1
            have lq : bq < Y6.heap.size := (Array.getElem?_eq_some_iff.1 n6).1
            clear n5 n6 hF1 hF2 hF3 hF4 hA6 hb6 h56 h66
            go_wp2_with (go_at_call 12; refine KS.out.mono ?_; rintro e V7 ⟨rfl, hb7⟩)
            go_ret
            exact ⟨rfl, (HV.out _ (HB6.out.trans (hb7.mono HB6.out.size))).2.2.2⟩
      · have hee2 : (ee != 0) = true := by simpa using hee
        clear hee Hev
        go_wp2_with fail
        go_ret
        exact ⟨rfl, (HV.out _ HBV.out).2.2.2⟩
    · have hne2 : (ne != 0) = true := by simpa using hne
      clear hne Hnw Hf
      go_wp2_with fail
      go_ret
      exact ⟨rfl, (HV.out _ HBY.out).2.2.2⟩
  · have hme2 : (me != 0) = true := by simpa using hme
    clear hme Hmk
    go_wp2_with (go_at_call 8; refine (KFm.out _).mono ?_; rintro e X4 ⟨rfl, hb4⟩)
    go_ret
    exact ⟨rfl, HB2.out.trans (hb4.mono HB2.out.size)⟩

end Go.Proofs.Ytmlojlbmfceogaa
