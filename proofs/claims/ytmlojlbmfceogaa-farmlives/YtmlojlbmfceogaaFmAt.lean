/-
  The contracts of farm.finish and farm.happenAt.
-/
import Derived.Test.YtmlojlbmfceogaaFmMd
import Derived.Test.YtmlojlbmfceogaaFmOk2
namespace Go.Proofs.Ytmlojlbmfceogaa
open Go Go.RowKit
set_option linter.unusedVariables false

attribute [local go_sem] lat_cell

theorem IntsAt.own {W : World} {B c : Nat} {a : Option Addr} {l : List Int} (h : W.ownsRow B 3 1 (.slice a l.length c) l.length (l.flatMap encI)) (k : Nat) (hk : k < l.length) : ∃ g, a = some ⟨g, 0, none⟩ ∧ W.cell? ⟨g, k, none⟩ = some (.int .i64 (l.getD k 0)) ∧ W.frozen? ⟨g, k, none⟩ = false ∧ g < W.heap.size := by
  obtain ⟨g, rfl⟩ := own_blk h (by omega)
  obtain ⟨b, off, e, h1, h2⟩ := (row_works h).cell k hk
  cases e
  rw [Nat.zero_add] at h1
  exact ⟨g, rfl, h1, h.frozenAt k, h2⟩

set_option maxHeartbeats 8000000 in
set_option maxRecDepth 100000 in
theorem finish_any {B b p0 : Nat} {f : M.Farm} {x : Fd} {o : Fo} (w : World) (hO : FmO B w b f x o) (hB : B ≤ w.heap.size) (hp0 : w.heap[p0]? = some (.cells #[.pointer (some ⟨b, 0, none⟩)] 69 (0, 0))) (hok : M.FarmOk f) (wk : Nat) (hwk : wk < f.work.length) :
    Calls Try.prog 65 #[.pointer (some ⟨b, 0, none⟩), .int .i64 wk, .func (.func 63) #[] #[.pointer (some ⟨p0, 0, none⟩)]] w fun e w' => e = .returned (.int .i64 (M.finish f wk).2) ∧ Below B w w' ∧ KeepE w w' ∧ ∃ x' o', FmO B w' b (M.finish f wk).1 x' o' := by
  obtain ⟨g, hg, e0, fz, lg⟩ := IntsAt.own hO.rowW wk hwk
  have hwo := hok.works _ (getD_mem f.work 0 wk hwk)
  have HFin : Hid (M.finish f wk = if f.work.getD wk 0 = -1 then (f, 11) else (if (M.madeP f (f.work.getD wk 0).toNat).2 = true then M.send (M.idled f wk) ⟨2, wk, f.work.getD wk 0, (M.madeP f (f.work.getD wk 0).toNat).1⟩ else M.idled f wk, 0)) := rfl
  generalize f.work.getD wk 0 = t at *
  obtain ⟨hS1, hS2, hS3⟩ := hO.setWork g wk hg hwk (-1)
  have c6 : w.cell? ⟨b, 6, none⟩ = some (.slice (some ⟨g, 0, none⟩) f.work.length x.kc) := by rw [← hg]; exact cellB hO.blk 6
  have lb : b < w.heap.size := (Array.getElem?_eq_some_iff.1 hO.blk).1
  have hwI : (wk : Int) < (f.work.length : Int) := by omega
  by_cases ht : t = -1
  · have HR : Hid (M.finish f wk = (f, 11)) := by rw [Hid, HFin.out, if_pos ht]
    have htb : (t == -1) = true := by simpa using ht
    have HO : Hid (FmO B w b f x o) := hO
    clear HFin hS1 hS2 hS3 hO hwo ht
    go_enter Try.func65, Try.ntmps65
    go_wp2_with fail
    go_ret
    exact ⟨by rw [HR.out]; rfl, Below.refl _ _, keepE_below (Below.refl _ _), x, o, by rw [HR.out]; exact HO.out⟩
  · have htb : (t == -1) = false := by simpa using ht
    have hn : 0 ≤ t ∧ t ≤ (f.plan.length : Int) - 1 := by
      unfold M.workOk at hwo
      rw [htb, Bool.false_or] at hwo
      exact (M.inR_iff _ _ _).1 hwo
    obtain ⟨n, rfl⟩ : ∃ n : Nat, t = n := ⟨t.toNat, by omega⟩
    have hnl : n < f.plan.length := by omega
    have HFin2 : Hid (M.finish f wk = (if (M.madeP f n).2 = true then M.send (M.idled f wk) ⟨2, wk, n, (M.madeP f n).1⟩ else M.idled f wk, 0)) := by rw [Hid, HFin.out, if_neg ht]; rfl
    have hS1' : FmO B (w.setCell ⟨g, wk, none⟩ (.int .i64 (-1))) b (M.idled f wk) x o := hS1
    have hB1 : B ≤ (w.setCell ⟨g, wk, none⟩ (.int .i64 (-1))).heap.size := by simp; exact hB
    have KM : Hid (Calls Try.prog 82 #[.pointer (some ⟨b, 0, none⟩), .int .i64 n] (w.setCell ⟨g, wk, none⟩ (.int .i64 (-1))) fun e w' => Below (w.setCell ⟨g, wk, none⟩ (.int .i64 (-1))).heap.size (w.setCell ⟨g, wk, none⟩ (.int .i64 (-1))) w' ∧ ∃ x1 y1 x2 y2, e = .returned (.tuple #[.agg #[.slice x1 (M.madeP f n).1.frags.length y1, .slice x2 (M.madeP f n).1.defs.length y2], .bool (M.madeP f n).2]) ∧ POwn w' B ⟨(M.madeP f n).1, .slice x1 (M.madeP f n).1.frags.length y1, .slice x2 (M.madeP f n).1.defs.length y2⟩) := made_any _ hS1' hB1 (M.idled_ok hok wk) n hnl
    obtain ⟨cs, hcs⟩ : ∃ cs, w.heap[g]? = some (.cells cs 3 (0, 0)) := by
      have h := hO.rowW
      rw [hg] at h
      rcases h.2 with ⟨h1, _⟩ | ⟨g', cap, cur, h1, hb, h2, _⟩
      · cases h1
      · cases h1; exact ⟨cur, h2⟩
    have wr : Wr w (w.setCell ⟨g, wk, none⟩ (.int .i64 (-1))) 3 := ⟨g, cs, hcs, grown_set _ _ _ _⟩
    have hp1 := wr.block hp0 (by decide)
    have HS : Hid (FmO B (w.setCell ⟨g, wk, none⟩ (.int .i64 (-1))) b (M.idled f wk) x o) := hS1'
    have HS2 : Hid (Below B w (w.setCell ⟨g, wk, none⟩ (.int .i64 (-1)))) := hS2
    have HS3 : Hid (KeepE w (w.setCell ⟨g, wk, none⟩ (.int .i64 (-1)))) := hS3
    have hnet := hok.net
    have Hp1 : Hid ((w.setCell ⟨g, wk, none⟩ (.int .i64 (-1))).heap[p0]? = some (.cells #[.pointer (some ⟨b, 0, none⟩)] 69 (0, 0))) := hp1
    clear HFin hS1 hS2 hS3 hS1' hO hwo wr hcs hp0 hn hp1
    clear cs
    generalize M.madeP f n = mp at *
    obtain ⟨q, okb⟩ := mp
    simp only at KM HFin2
    go_enter Try.func65, Try.ntmps65
    go_upto_region 5 with fail
    clear e0 fz c6
    generalize w.setCell ⟨g, wk, none⟩ (.int .i64 (-1)) = Y at *
    go_upto_region 6 with (go_at_call 82; refine KM.out.mono ?_; rintro e X ⟨hbX, z1, u1, z2, u2, rfl, hP⟩)
    have hAl := (Below.refl X.heap.size X).alloc (Nat.le_refl _) (.cells #[.slice z1 q.frags.length u1, .slice z2 q.defs.length u2] 44)
    have h8 := heap_alloc_new X (.cells #[.slice z1 q.frags.length u1, .slice z2 q.defs.length u2] 44)
    have hYX := hbX.trans (hAl.mono hbX.size)
    have hO2 := HS.out.later hYX
    have hP2 := hP.later hAl
    have hp2 := (hYX.block _ (Array.getElem?_eq_some_iff.1 Hp1.out).1).trans Hp1.out
    have hB2 := Nat.le_trans hB1 hYX.size
    have HB2 : Hid (Below B w (X.alloc (.cells #[.slice z1 q.frags.length u1, .slice z2 q.defs.length u2] 44))) := HS2.out.trans (hYX.mono hB1)
    have HK2 : Hid (KeepE w (X.alloc (.cells #[.slice z1 q.frags.length u1, .slice z2 q.defs.length u2] 44))) := HS3.out.trans (keepE_below hYX)
    obtain ⟨np, hnp⟩ : ∃ np, np = X.heap.size := ⟨_, rfl⟩
    rw [← hnp] at h8 ⊢
    clear hnp hAl hP hbX
    generalize X.alloc (.cells #[.slice z1 q.frags.length u1, .slice z2 q.defs.length u2] 44) = X2 at *
    have k0 : X2.cell? ⟨np, 0, none⟩ = some (.slice z1 q.frags.length u1) := cellB h8 0
    have k1 : X2.cell? ⟨np, 1, none⟩ = some (.slice z2 q.defs.length u2) := cellB h8 1
    have lnp : np < X2.heap.size := (Array.getElem?_eq_some_iff.1 h8).1
    cases okb
    · have HR : Hid (M.finish f wk = (M.idled f wk, 0)) := by rw [Hid, HFin2.out]; rfl
      have HO2 : Hid (FmO B X2 b (M.idled f wk) x o) := hO2
      clear HFin2 hO2 hP2 hp2 h8 hYX KM
      go_wp2_with fail
      go_ret
      exact ⟨by rw [HR.out]; rfl, HB2.out, HK2.out, x, o, by rw [HR.out]; exact HO2.out⟩
    · have HR : Hid (M.finish f wk = (M.send (M.idled f wk) ⟨2, wk, n, q⟩, 0)) := by rw [Hid, HFin2.out]; rfl
      have KS : Hid (Calls Try.prog 63 #[.agg #[.int .i64 2, .int .i64 wk, .int .i64 n, .slice z1 q.frags.length u1, .slice z2 q.defs.length u2], .pointer (some ⟨p0, 0, none⟩)] X2 fun e w' => e = .returned (.tuple #[]) ∧ Below B X2 w' ∧ KeepE X2 w' ∧ ∃ x' o', FmO B w' b (M.send (M.idled f wk) ⟨2, wk, n, q⟩) x' o') := send_any X2 hO2 hB2 hp2 hnet 2 wk n q z1 z2 u1 u2 hP2
      clear HFin2 hO2 hP2 hp2 h8 hYX KM
      go_wp2_with (go_at_call 63; refine KS.out.mono ?_; rintro e w5 ⟨rfl, j1, j2, x', o', j3⟩)
      go_ret
      exact ⟨by rw [HR.out]; rfl, HB2.out.trans j1, HK2.out.trans j2, x', o', by rw [HR.out]; exact j3⟩

set_option maxHeartbeats 8000000 in
set_option maxRecDepth 100000 in
theorem happenAt_any {B b : Nat} {f : M.Farm} {x : Fd} {o : Fo} (w : World) (hO : FmO B w b f x o) (hB : B ≤ w.heap.size) (hok : M.FarmOk f) (kd wk kk : Int) :
    Calls Try.prog 50 #[.pointer (some ⟨b, 0, none⟩), .agg #[.int .i64 kd, .int .i64 wk, .int .i64 kk]] w fun e w' => e = .returned (.int .i64 (M.happenAt f ⟨kd, wk, kk⟩).2) ∧ Below B w w' ∧ KeepE w w' ∧ ∃ x' o', FmO B w' b (M.happenAt f ⟨kd, wk, kk⟩).1 x' o' := by
  have hA : Below w.heap.size w ((w.alloc (.cells #[.pointer (some ⟨b, 0, none⟩)] 69)).alloc (.cells #[.int .i64 kd, .int .i64 wk, .int .i64 kk] 31)) := ((Below.refl _ _).alloc (Nat.le_refl _) _).alloc (by simp) _
  have HA : Hid (Below w.heap.size w ((w.alloc (.cells #[.pointer (some ⟨b, 0, none⟩)] 69)).alloc (.cells #[.int .i64 kd, .int .i64 wk, .int .i64 kk] 31))) := hA
  have hp := (heap_alloc_old (w.alloc (.cells #[.pointer (some ⟨b, 0, none⟩)] 69)) (.cells #[.int .i64 kd, .int .i64 wk, .int .i64 kk] 31) (by simp)).trans (heap_alloc_new w (.cells #[.pointer (some ⟨b, 0, none⟩)] 69))
  have hh := heap_alloc_new (w.alloc (.cells #[.pointer (some ⟨b, 0, none⟩)] 69)) (.cells #[.int .i64 kd, .int .i64 wk, .int .i64 kk] 31)
  rw [show (w.alloc (.cells #[.pointer (some ⟨b, 0, none⟩)] 69)).heap.size = w.heap.size + 1 by simp] at hh
  have hO1 := hO.later hA
  have HH : Hid (M.happenAt f ⟨kd, wk, kk⟩ = bif M.inR wk 0 ((f.work.length : Int) - 1) then (if kd = 1 then M.give f wk else if kd = 2 then M.finish f wk else (M.idled f wk, 0)) else (f, 5)) := rfl
  generalize M.happenAt f ⟨kd, wk, kk⟩ = R at *
  have hw4 := hok.work4
  clear hO hA
  go_enter Try.func50, Try.ntmps50
  go_upto_region 1 with fail
  obtain ⟨p, hpe⟩ : ∃ p, p = w.heap.size := ⟨_, rfl⟩
  obtain ⟨q, hqe⟩ : ∃ q, q = w.heap.size + 1 := ⟨_, rfl⟩
  rw [← hqe] at hh ⊢
  rw [← hpe] at hp ⊢
  clear hpe hqe
  generalize (w.alloc (.cells #[.pointer (some ⟨b, 0, none⟩)] 69)).alloc (.cells #[.int .i64 kd, .int .i64 wk, .int .i64 kk] 31) = Z at *
  have cp : Z.cell? ⟨p, 0, none⟩ = some (.pointer (some ⟨b, 0, none⟩)) := cellB hp 0
  have q0 : Z.cell? ⟨q, 0, none⟩ = some (.int .i64 kd) := cellB hh 0
  have q1 : Z.cell? ⟨q, 1, none⟩ = some (.int .i64 wk) := cellB hh 1
  have c6 : Z.cell? ⟨b, 6, none⟩ = some (.slice x.k f.work.length x.kc) := cellB hO1.blk 6
  have lb : b < Z.heap.size := (Array.getElem?_eq_some_iff.1 hO1.blk).1
  have lp : p < Z.heap.size := (Array.getElem?_eq_some_iff.1 hp).1
  have lq : q < Z.heap.size := (Array.getElem?_eq_some_iff.1 hh).1
  have KW : Hid (∀ W, Calls Try.prog 29 #[.slice x.k f.work.length x.kc, .int .i64 wk] W fun e w' => e = .returned (.bool (M.inR wk 0 ((f.work.length : Int) - 1))) ∧ w' = W) := fun W => standsW_any x.k f.work.length x.kc wk W (by omega)
  cases hin : M.inR wk 0 ((f.work.length : Int) - 1)
  · rw [hin] at KW
    have HR : Hid (R = (f, 5)) := by rw [Hid, HH.out, hin]; rfl
    have HO1 : Hid (FmO B Z b f x o) := hO1
    clear HH hO1 hp hh hin
    refine wp_region_lat (by kernel_rfl) (by kernel_rfl) ?_
    intro hne
    repeat (go_big_quiet_step ((go_at_call 29; exact lat_of_same (KW.out _))))
    refine wpQuiet_nil ?_
    intro X hX
    have hX := lat_out hX
    go_wp2_with fail
    go_ret
    exact ⟨by rw [HR.out]; rfl, (HA.out.mono hB).trans (hX.mono (Nat.le_trans hB HA.out.size)), (keepE_below HA.out).trans (keepE_below hX), x, o, by rw [HR.out]; exact HO1.out.later hX⟩
  · have hin' := (M.inR_iff _ _ _).1 hin
    obtain ⟨wk, rfl⟩ : ∃ m : Nat, wk = m := ⟨wk.toNat, by omega⟩
    have hwl : wk < f.work.length := by omega
    rw [hin] at KW
    have HH2 : Hid (R = if kd = 1 then M.give f wk else if kd = 2 then M.finish f wk else (M.idled f wk, 0)) := by rw [Hid, HH.out, hin]; rfl
    have HO1 : Hid (FmO B Z b f x o) := hO1
    have Hp : Hid (Z.heap[p]? = some (.cells #[.pointer (some ⟨b, 0, none⟩)] 69 (0, 0))) := hp
    have hB1 := Nat.le_trans hB HA.out.size
    clear HH hO1 hp hh hin hin'
    refine wp_region_lat (by kernel_rfl) (by kernel_rfl) ?_
    intro hne
    repeat (go_big_quiet_step ((go_at_call 29; exact lat_of_same (KW.out _))))
    refine wpQuiet_nil ?_
    intro X hX
    have hX := lat_out hX
    have hO2 := HO1.out.later hX
    have hp2 := (hX.block _ lp).trans Hp.out
    have hB2 := Nat.le_trans hB1 hX.size
    have HB2 : Hid (Below B w X) := (HA.out.mono hB).trans (hX.mono hB1)
    have HK2 : Hid (KeepE w X) := (keepE_below HA.out).trans (keepE_below hX)
    have cp' := cell_later hX cp
    have q0' := cell_later hX q0
    have q1' := cell_later hX q1
    have c6' := cell_later hX c6
    have lb' := Nat.lt_of_lt_of_le lb hX.size
    have lp' := Nat.lt_of_lt_of_le lp hX.size
    have lq' := Nat.lt_of_lt_of_le lq hX.size
    clear hne hX cp q0 q1 c6 lb lp lq KW HO1 Hp
    by_cases k1 : kd = 1
    · have HR : Hid (R = M.give f wk) := by rw [Hid, HH2.out, if_pos k1]
      have k1b : (kd == 1) = true := by simpa using k1
      have KG : Hid (Calls Try.prog 64 #[.pointer (some ⟨b, 0, none⟩), .int .i64 wk, .func (.func 63) #[] #[.pointer (some ⟨p, 0, none⟩)]] X fun e w' => e = .returned (.int .i64 (M.give f wk).2) ∧ Below B X w' ∧ KeepE X w' ∧ ∃ x' o', FmO B w' b (M.give f wk).1 x' o') := give_any X hO2 hB2 hp2 hok wk
      clear HH2 hO2 hp2 k1 c6'
      go_wp2_with (go_at_call 64; refine KG.out.mono ?_; rintro e w5 ⟨rfl, j1, j2, x', o', j3⟩)
      go_ret
      exact ⟨by rw [HR.out]; rfl, HB2.out.trans j1, HK2.out.trans j2, x', o', by rw [HR.out]; exact j3⟩
    · have k1b : (kd == 1) = false := by simpa using k1
      by_cases k2 : kd = 2
      · have HR : Hid (R = M.finish f wk) := by rw [Hid, HH2.out, if_neg k1, if_pos k2]
        have k2b : (kd == 2) = true := by simpa using k2
        have KG : Hid (Calls Try.prog 65 #[.pointer (some ⟨b, 0, none⟩), .int .i64 wk, .func (.func 63) #[] #[.pointer (some ⟨p, 0, none⟩)]] X fun e w' => e = .returned (.int .i64 (M.finish f wk).2) ∧ Below B X w' ∧ KeepE X w' ∧ ∃ x' o', FmO B w' b (M.finish f wk).1 x' o') := finish_any X hO2 hB2 hp2 hok wk hwl
        clear HH2 hO2 hp2 k1 k2 c6'
        go_wp2_with (go_at_call 65; refine KG.out.mono ?_; rintro e w5 ⟨rfl, j1, j2, x', o', j3⟩)
        go_ret
        exact ⟨by rw [HR.out]; rfl, HB2.out.trans j1, HK2.out.trans j2, x', o', by rw [HR.out]; exact j3⟩
      · have HR : Hid (R = (M.idled f wk, 0)) := by rw [Hid, HH2.out, if_neg k1, if_neg k2]
        have k2b : (kd == 2) = false := by simpa using k2
        obtain ⟨g, hg, e0, fz, lg⟩ := IntsAt.own hO2.rowW wk hwl
        rw [hg] at c6'
        have HO2 : Hid (FmO B X b f x o) := hO2
        have Hfz : Hid (X.frozen? ⟨g, wk, none⟩ = false) := fz
        have hwI : (wk : Int) < (f.work.length : Int) := by omega
        clear HH2 hO2 hp2 k1 k2 fz
        go_upto_region 9 with fail
        refine wp_region_tail 6 (by kernel_rfl) (by kernel_rfl) ?_
        intro hne
        simp only [List.take_succ_cons, List.take_zero, List.drop_succ_cons, List.drop_zero]
        repeat (go_big_quiet_step (fail))
        refine wpQuiet_nil ?_
        intro Y hY
        have hY := lat_out hY
        have e0' := cell_later hY e0
        have fz' : Y.frozen? ⟨g, wk, none⟩ = false := (hY.frozen (p := ⟨g, wk, none⟩) lg).trans Hfz.out
        have lgY := Nat.lt_of_lt_of_le lg hY.size
        obtain ⟨hS1, hS2, hS3⟩ := (HO2.out.later hY).setWork g wk hg hwl (-1)
        have HS : Hid (FmO B (Y.setCell ⟨g, wk, none⟩ (.int .i64 (-1))) b (M.idled f wk) x o ∧ Below B w (Y.setCell ⟨g, wk, none⟩ (.int .i64 (-1))) ∧ KeepE w (Y.setCell ⟨g, wk, none⟩ (.int .i64 (-1)))) := ⟨hS1, (HB2.out.trans (hY.mono hB2)).trans hS2, (HK2.out.trans (keepE_below hY)).trans hS3⟩
        clear hne hY hS1 hS2 hS3 e0 cp' q0' q1' c6'
        go_wp2_with fail
        go_ret
        exact ⟨by rw [HR.out]; rfl, HS.out.2.1, HS.out.2.2, x, o, by rw [HR.out]; exact HS.out.1⟩

end Go.Proofs.Ytmlojlbmfceogaa
