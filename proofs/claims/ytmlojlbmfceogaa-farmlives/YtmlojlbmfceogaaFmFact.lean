/-
  The contract of the law's closed fact on farms: it is true.
-/
import Derived.Test.YtmlojlbmfceogaaFmFa
namespace Go.Proofs.Ytmlojlbmfceogaa
open Go Go.RowKit
set_option linter.unusedVariables false

def scK : Nat → List M.Hap
  | 0 => []
  | k + 1 => scK k ++ fmQ
theorem scK_len : ∀ k, (scK k).length = k * 4
  | 0 => rfl
  | k + 1 => by rw [scK, List.length_append, scK_len k]; show k * 4 + 4 = _; omega

set_option maxHeartbeats 16000000 in
set_option maxRecDepth 100000 in
theorem farmed_true (w : World) : Calls Try.prog 8 #[] w fun e w' => e = .returned (.bool true) ∧ Below w.heap.size w w' := by
  obtain ⟨i0, hi0, hz0, hz1, hz2⟩ := info_parts (P := Try.prog) (e := 31) (z := .agg #[.int .i64 0, .int .i64 0, .int .i64 0]) (size := 3) (bytes := 24) (by kernel_rfl)
  go_enter Try.func8, Try.ntmps8
  go_upto_region 2 with (go_at_call 24; refine (two_any _).mono ?_; rintro e w1 ⟨a1, a2, a3, a4, rfl, hb1, hA, hAd, hB, hBd⟩)
  have v1 : Var (w1.alloc (.cells #[.slice a1 1 1, .slice a2 1 1] 44)) w1.heap.size a1 a2 1 1 fA := var_new (p := fA) hA hAd
  have v1 := v1.later ((Below.refl _ _).alloc (Nat.le_refl _) (.cells #[.slice a3 1 1, .slice a4 1 1] 44))
  have hbA : Below w1.heap.size w1 (w1.alloc (.cells #[.slice a1 1 1, .slice a2 1 1] 44)) := (Below.refl _ _).alloc (Nat.le_refl _) _
  have v2 : Var ((w1.alloc (.cells #[.slice a1 1 1, .slice a2 1 1] 44)).alloc (.cells #[.slice a3 1 1, .slice a4 1 1] 44)) (w1.heap.size + 1) a3 a4 1 1 fB := by
    have := var_new (p := fB) (hB.later hbA) (hBd.later hbA)
    simpa [fB] using this
  have HX : Hid (Below w.heap.size w ((w1.alloc (.cells #[.slice a1 1 1, .slice a2 1 1] 44)).alloc (.cells #[.slice a3 1 1, .slice a4 1 1] 44))) := (hb1.alloc hb1.size _).alloc (by simpa using Nat.le_succ_of_le hb1.size) _
  clear hA hAd hB hBd hb1 hbA
  generalize (w1.alloc (.cells #[.slice a1 1 1, .slice a2 1 1] 44)).alloc (.cells #[.slice a3 1 1, .slice a4 1 1] 44) = X1 at *
  generalize w1.heap.size = n1 at *
  have V : Hid (∀ W, Below X1.heap.size X1 W → Var W n1 a1 a2 1 1 fA ∧ Var W (n1 + 1) a3 a4 1 1 fB) := fun W hW => ⟨v1.later hW, v2.later hW⟩
  clear v1 v2
  have KM : Hid (Calls Try.prog 13 #[.int .i64 2, .slice none 0 0] X1 fun e w' => Below X1.heap.size X1 w' ∧ ∃ a c, e = .returned (.tuple #[.slice a 3 c, .int .i64 0]) ∧ NodesAt w' (.slice a 3 c) fmL) :=
    (make_v 2 [] none 0 X1 (ints_nil X1)).mono fun e w' ⟨h1, a, c, h2, h3, _⟩ => ⟨h1, a, c, by rw [h2, fm_makeE, fm_make]; rfl, by rw [fm_make] at h3; exact h3⟩
  go_upto_region 3 with (go_at_call 13; refine KM.out.mono ?_; rintro e X2 ⟨hb2, al, cl, rfl, hN2⟩)
  have hb2s := hb2.size
  obtain ⟨V1, V2⟩ := V.out X2 hb2
  have c10 : X2.cell? ⟨n1, 0, none⟩ = some (.slice a1 1 1) := V1.c0
  have c11 : X2.cell? ⟨n1, 1, none⟩ = some (.slice a2 1 1) := V1.c1
  have c20 : X2.cell? ⟨n1 + 1, 0, none⟩ = some (.slice a3 1 1) := V2.c0
  have c21 : X2.cell? ⟨n1 + 1, 1, none⟩ = some (.slice a4 1 1) := V2.c1
  have l1 := V1.lt
  have l2 := V2.lt
  have hAl : Below X2.heap.size X2 (X2.alloc (.cells #[.slice a1 1 1, .slice a2 1 1, .slice a3 1 1, .slice a4 1 1] 44)) := (Below.refl _ _).alloc (Nat.le_refl _) _
  have hPa : PartsAt (X2.alloc (.cells #[.slice a1 1 1, .slice a2 1 1, .slice a3 1 1, .slice a4 1 1] 44)) (.slice (some ⟨X2.heap.size, 0, none⟩) [fA, fB].length 2) [fA, fB] := by
    refine ⟨fun j i => (#[.slice a1 1 1, .slice a2 1 1, .slice a3 1 1, .slice a4 1 1] : Array Value).getD (j * 2 + i) undef, ⟨_, _, rfl, by unfold maxLen; simp, .inr ⟨X2.heap.size, 0, rfl, fun j i hj hi => ?_⟩⟩, fun j hj => ?_⟩
    · rw [cellB (heap_alloc_new X2 _)]
      have hj : j < 2 := hj
      rcases (by omega : j = 0 ∨ j = 1) with rfl | rfl <;> rcases (by omega : i = 0 ∨ i = 1) with rfl | rfl <;> rfl
    · have hj : j < 2 := hj
      rcases (by omega : j = 0 ∨ j = 1) with rfl | rfl
      · exact ⟨V1.fr.later hAl, V1.df.later hAl⟩
      · exact ⟨V2.fr.later hAl, V2.df.later hAl⟩
  have KN : Hid (Calls Try.prog 14 #[.slice (some ⟨X2.heap.size, 0, none⟩) 2 2, .slice al 3 cl, .int .i64 1] (X2.alloc (.cells #[.slice a1 1 1, .slice a2 1 1, .slice a3 1 1, .slice a4 1 1] 44)) fun e w' => Below X2.heap.size X2 w' ∧ ∃ y o, e = .returned (.tuple #[.agg #[.slice y.p (M.newF [fA, fB] fmL 1).parts.length y.pc, .slice y.l (M.newF [fA, fB] fmL 1).plan.length y.lc, .int .i64 (M.newF [fA, fB] fmL 1).now, .slice y.d (M.newF [fA, fB] fmL 1).done.length y.dc, .slice y.h (M.newF [fA, fB] fmL 1).got.length y.hc, .slice y.g (M.newF [fA, fB] fmL 1).grants.length y.gc, .slice y.k (M.newF [fA, fB] fmL 1).work.length y.kc, .slice y.n (M.newF [fA, fB] fmL 1).net.length y.nc], .int .i64 0]) ∧ FmR X1.heap.size w' (M.newF [fA, fB] fmL 1) y o) := by
    refine (new_any [fA, fB] fmL 1 _ _ _ _ _ hPa (hN2.later hAl)).mono ?_
    rintro e w' ⟨hb, y, rfl, _, hR⟩
    rw [fm_newE, fm_new] at *
    obtain ⟨o, hR⟩ := hR rfl
    exact ⟨hAl.trans (hb.mono hAl.size), y, o, rfl, hR.base (Nat.le_trans hb2s hAl.size)⟩
  have HB2 : Hid (Below X1.heap.size X1 X2) := hb2
  clear V1 V2 hAl hPa KM hN2 hb2
  obtain ⟨f1, hf1⟩ : ∃ f1, f1 = M.newF [fA, fB] fmL 1 := ⟨_, rfl⟩
  have Hf1 : Hid (f1 = M.newF [fA, fB] fmL 1) := hf1
  rw [← hf1] at KN
  clear hf1
  go_upto_region 4 with (go_at_call 14; refine KN.out.mono ?_; rintro e X3 ⟨hb3, y, o, rfl, hR3⟩)
  have hAl := (Below.refl X3.heap.size X3).alloc (Nat.le_refl _) (.cells #[.slice y.p f1.parts.length y.pc, .slice y.l f1.plan.length y.lc, .int .i64 f1.now, .slice y.d f1.done.length y.dc, .slice y.h f1.got.length y.hc, .slice y.g f1.grants.length y.gc, .slice y.k f1.work.length y.kc, .slice y.n f1.net.length y.nc] 29)
  have h5 : FBlk (X3.alloc (.cells #[.slice y.p f1.parts.length y.pc, .slice y.l f1.plan.length y.lc, .int .i64 f1.now, .slice y.d f1.done.length y.dc, .slice y.h f1.got.length y.hc, .slice y.g f1.grants.length y.gc, .slice y.k f1.work.length y.kc, .slice y.n f1.net.length y.nc] 29)) X3.heap.size f1 y := heap_alloc_new X3 _
  have hR4 := hR3.later hAl
  have hB4 := (HB2.out.trans (hb3.mono hb2s)).trans (hAl.mono (Nat.le_trans hb2s hb3.size))
  obtain ⟨n5, hn5⟩ : ∃ n5, n5 = X3.heap.size := ⟨_, rfl⟩
  have hn5B : X1.heap.size ≤ n5 := by rw [hn5]; exact Nat.le_trans hb2s hb3.size
  rw [← hn5] at h5 ⊢
  clear hn5 hAl hb3 hR3 c10 c11 c20 c21 KN l1 l2 HB2
  generalize X3.alloc (.cells #[.slice y.p f1.parts.length y.pc, .slice y.l f1.plan.length y.lc, .int .i64 f1.now, .slice y.d f1.done.length y.dc, .slice y.h f1.got.length y.hc, .slice y.g f1.grants.length y.gc, .slice y.k f1.work.length y.kc, .slice y.n f1.net.length y.nc] 29) = X4 at *
  have H4 : Hid (FBlk X4 n5 f1 y ∧ FmR X1.heap.size X4 f1 y o ∧ Below X1.heap.size X1 X4) := ⟨h5, hR4, hB4⟩
  clear h5 hR4 hB4
  go_upto_region 6 with fail
  go_loopw [7, 30] (fun s7 s30 wr => ∃ (k : Nat), k ≤ 3 ∧ s30 = .int .i64 k ∧ Hid (FBlk wr n5 f1 y ∧ FmR X1.heap.size wr f1 y o ∧ Below X1.heap.size X1 wr) ∧ Hid (wr.ownsRow X1.heap.size 31 3 s7 (k * 4) ((scK k).flatMap encHap))) (fun _ s30 _ => 3 - (intOf s30).toNat)
  case atStart => exact ⟨0, by omega, rfl, H4, World.ownsRow_nil _ _ _ _⟩
  case round =>
    obtain ⟨k, hk, rfl, HI, HRw⟩ := hrel
    clear H4
    obtain ⟨ad, nn, cc, rfl⟩ := own_form HRw.out
    have hsz : X1.heap.size ≤ wr.heap.size := HI.out.2.2.size
    by_cases hlt : k < 3
    · have hkl : (k : Int) < 3 := by omega
      have hrow := HRw.out
      have hnews : ∀ j u, (#[.int .i64 1, .int .i64 0, .int .i64 0, .int .i64 3, .int .i64 0, .int .i64 0, .int .i64 2, .int .i64 0, .int .i64 0, .int .i64 3, .int .i64 0, .int .i64 0] : Array Value).toList[j]? = some u → (wr.alloc (.cells #[.int .i64 1, .int .i64 0, .int .i64 0, .int .i64 3, .int .i64 0, .int .i64 0, .int .i64 2, .int .i64 0, .int .i64 0, .int .i64 3, .int .i64 0, .int .i64 0] 31)).cell? ((⟨wr.heap.size, 0, none⟩ : Addr).add j) = some u := World.news_of_block (heap_alloc_new wr _)
      have HAp : Hid (∀ v' w3, (wr.alloc (.cells #[.int .i64 1, .int .i64 0, .int .i64 0, .int .i64 3, .int .i64 0, .int .i64 0, .int .i64 2, .int .i64 0, .int .i64 0, .int .i64 3, .int .i64 0, .int .i64 0] 31)).grownBy w3 (Value.slice ad nn cc).ownBlock → w3.ownsRow X1.heap.size 31 3 v' (k * 4 + 4) ((scK k).flatMap encHap ++ (#[.int .i64 1, .int .i64 0, .int .i64 0, .int .i64 3, .int .i64 0, .int .i64 0, .int .i64 2, .int .i64 0, .int .i64 0, .int .i64 3, .int .i64 0, .int .i64 0] : Array Value).toList) → Hid (FBlk w3 n5 f1 y ∧ FmR X1.heap.size w3 f1 y o ∧ Below X1.heap.size X1 w3) ∧ Hid (w3.ownsRow X1.heap.size 31 3 v' ((k + 1) * 4) ((scK (k + 1)).flatMap encHap))) := fun v' w3 hg ho => by
        have hb := (Below.refl wr.heap.size wr).alloc (Nat.le_refl _) (.cells #[.int .i64 1, .int .i64 0, .int .i64 0, .int .i64 3, .int .i64 0, .int .i64 0, .int .i64 2, .int .i64 0, .int .i64 0, .int .i64 3, .int .i64 0, .int .i64 0] 31)
        have hr' := hrow.alloc (.cells #[.int .i64 1, .int .i64 0, .int .i64 0, .int .i64 3, .int .i64 0, .int .i64 0, .int .i64 2, .int .i64 0, .int .i64 0, .int .i64 3, .int .i64 0, .int .i64 0] 31)
        obtain ⟨j1, j2, j3⟩ := HI.out
        refine ⟨⟨block_keptP hr' hg ((hb.block _ (Array.getElem?_eq_some_iff.1 j1).1).trans j1) (by decide), (j2.later hb).grown hr' hg, (j3.trans (hb.mono hsz)).grown hg (Nat.le_trans hsz hb.size) (fun k hk => (hr'.lt k hk).1)⟩, ?_⟩
        rw [Hid, show (k + 1) * 4 = k * 4 + 4 by omega, scK, List.flatMap_append]; exact ho
      clear HI HRw
      go_wp2_with (at_builtin; refine wpList_append_own _ rfl _ _ 47 rfl X1.heap.size 31 i0 (.agg #[.int .i64 0, .int .i64 0, .int .i64 0]) 3 24 Try.underlying47 hi0 hz0 hz1 hz2 rfl (by decide) _ _ _ rfl (hrow.alloc _) ⟨wr.heap.size, 0, none⟩ 4 4 (#[.int .i64 1, .int .i64 0, .int .i64 0, .int .i64 3, .int .i64 0, .int .i64 0, .int .i64 2, .int .i64 0, .int .i64 0, .int .i64 3, .int .i64 0, .int .i64 0] : Array Value).toList rfl rfl hnews (List.all_eq_true.1 (show (#[.int .i64 1, .int .i64 0, .int .i64 0, .int .i64 3, .int .i64 0, .int .i64 0, .int .i64 2, .int .i64 0, .int .i64 0, .int .i64 3, .int .i64 0, .int .i64 0] : Array Value).toList.all (fun u => u.oneCell') = true from rfl)) (by unfold maxLen; omega) (by omega) (by simp; omega) ?_; intro v' w3 hown' hgrow3 hnil3)
      go_roundw
      case rel =>
        obtain ⟨j1, j2⟩ := HAp.out _ _ hgrow3 hown'
        exact ⟨k + 1, by omega, by go_num, j1, j2⟩
      case measure => simp [intOf]; omega
    · obtain rfl : k = 3 := by omega
      rw [show ((3 : Nat) : Int) = 3 from rfl]
      obtain ⟨j1, j2, j3⟩ := HI.out
      have hrow := HRw.out
      obtain ⟨sa, sc, hsl⟩ := own_len hrow
      cases hsl
      rw [show (3 * 4 : Nat) = 12 from rfl] at hrow ⊢
      have hNn : ∀ g, (Value.slice ad 12 cc).ownBlock = some g → g < wr.heap.size := fun g hg => (hrow.lt g hg).2
      have HH : Hid (FBlk wr n5 f1 y ∧ FmR X1.heap.size wr f1 y o ∧ Below X1.heap.size X1 wr ∧ wr.ownsRow X1.heap.size 31 3 (.slice ad 12 cc) 12 ((scK 3).flatMap encHap)) := ⟨j1, j2, j3, hrow⟩
      clear HI HRw j1 j2 j3 hrow
      go_upto_region 9 with fail
      refine wp_region_rel 12 (fun s W => (Below X1.heap.size X1 W ∧ FmR X1.heap.size W f1 y o ∧ wr.heap.size ≤ W.heap.size) ∧ (s.getD 10 false = false → FBlk W n5 f1 y) ∧ (s.getD 4 false = false → W.ownsRow X1.heap.size 31 3 (.slice ad 12 cc) 12 ((scK 3).flatMap encHap))) (fun v => ⟨#[.bool false, .pointer (some ⟨n1, 0, none⟩), .pointer (some ⟨n1 + 1, 0, none⟩), .slice al 3 cl, .int .i64 0, .pointer (some ⟨n5, 0, none⟩), .int .i64 0, .slice ad 12 cc, v 11, undef, undef, undef, undef, undef, .tuple #[.agg #[.slice a1 1 1, .slice a2 1 1], .agg #[.slice a3 1 1, .slice a4 1 1]], .tuple #[.agg #[.slice a1 1 1, .slice a2 1 1], .agg #[.slice a3 1 1, .slice a4 1 1]], .agg #[.slice a1 1 1, .slice a2 1 1], .agg #[.slice a3 1 1, .slice a4 1 1], .tuple #[.slice al 3 cl, .int .i64 0], .tuple #[.slice al 3 cl, .int .i64 0], .slice al 3 cl, .int .i64 0, .tuple #[.agg #[.slice y.p f1.parts.length y.pc, .slice y.l f1.plan.length y.lc, .int .i64 f1.now, .slice y.d f1.done.length y.dc, .slice y.h f1.got.length y.hc, .slice y.g f1.grants.length y.gc, .slice y.k f1.work.length y.kc, .slice y.n f1.net.length y.nc], .int .i64 0], .agg #[.slice a1 1 1, .slice a2 1 1], .agg #[.slice a3 1 1, .slice a4 1 1], .slice (some ⟨X2.heap.size, 0, none⟩) 2 2, .slice al 3 cl, .tuple #[.agg #[.slice y.p f1.parts.length y.pc, .slice y.l f1.plan.length y.lc, .int .i64 f1.now, .slice y.d f1.done.length y.dc, .slice y.h f1.got.length y.hc, .slice y.g f1.grants.length y.gc, .slice y.k f1.work.length y.kc, .slice y.n f1.net.length y.nc], .int .i64 0], .agg #[.slice y.p f1.parts.length y.pc, .slice y.l f1.plan.length y.lc, .int .i64 f1.now, .slice y.d f1.done.length y.dc, .slice y.h f1.got.length y.hc, .slice y.g f1.grants.length y.gc, .slice y.k f1.work.length y.kc, .slice y.n f1.net.length y.nc], .int .i64 0, .int .i64 3, .bool false, u32, u33, u34, u35, u36, u37, u38, u39, v 6, v 0, v 1, v 2, v 3, v 4, v 5, v 7, v 8, v 9, undef, undef, undef, undef, undef, undef, undef, undef, undef, undef, undef, undef, undef, undef, undef, undef, undef, undef, undef, undef, undef, undef, undef, undef, undef, undef, undef, undef, undef, undef, undef, undef, undef, undef, undef, undef, undef, undef, undef, undef, undef, undef, undef, undef, undef, undef, undef, undef, undef, undef, undef], []⟩) (fcR X1.heap.size wr.heap.size n5 f1 (M.runF f1 fmS).1 y ad cc) (fun _ _ _ _ => True) (by kernel_rfl) (by kernel_rfl) ⟨⟨HH.out.2.2.1.drew, HH.out.2.1.later (Below.refl _ _).drew, Nat.le_refl _⟩, fun _ => HH.out.1, fun _ => HH.out.2.2.2.kept (grown_of_below (Below.refl _ _).drew Option.none) own_self⟩ ⟨fun _ => undef, rfl⟩ ?_ ?_
      · intro j op hj ho
        rcases (by omega : j = 0 ∨ j = 1 ∨ j = 2 ∨ j = 3 ∨ j = 4 ∨ j = 5 ∨ j = 6 ∨ j = 7 ∨ j = 8 ∨ j = 9 ∨ j = 10 ∨ j = 11) with rfl | rfl | rfl | rfl | rfl | rfl | rfl | rfl | rfl | rfl | rfl | rfl
        all_goals cases ho
        all_goals refine relStep_of rfl rfl ?_
        all_goals rintro sd v W ⟨hC, h10, h4⟩ hin hsd hdep hdz
        · have hd : sd.getD 10 false = false := by
            cases h : sd.getD 10 false
            · rfl
            · have h7 := hin.closed 10 _ rfl h ⟨7, .data⟩ (by simp) rfl
              have h6 := hin.closed 7 _ rfl h7 ⟨6, .data⟩ (by simp) rfl
              have h5 := hin.closed 6 _ rfl h6 ⟨5, .data⟩ (by simp) rfl
              have h0 := hin.closed 5 _ rfl h5 ⟨0, .data⟩ (by simp) rfl
              rw [getD_both hsd] at h0
              cases h0
          have hf := h10 hd
          have k0 : W.cell? ⟨n5, 0, none⟩ = some (.slice y.p f1.parts.length y.pc) := cellB hf 0
          have k1 : W.cell? ⟨n5, 1, none⟩ = some (.slice y.l f1.plan.length y.lc) := cellB hf 1
          have k2 : W.cell? ⟨n5, 2, none⟩ = some (.int .i64 f1.now) := cellB hf 2
          have k3 : W.cell? ⟨n5, 3, none⟩ = some (.slice y.d f1.done.length y.dc) := cellB hf 3
          have k4 : W.cell? ⟨n5, 4, none⟩ = some (.slice y.h f1.got.length y.hc) := cellB hf 4
          have k5 : W.cell? ⟨n5, 5, none⟩ = some (.slice y.g f1.grants.length y.gc) := cellB hf 5
          have k6 : W.cell? ⟨n5, 6, none⟩ = some (.slice y.k f1.work.length y.kc) := cellB hf 6
          have k7 : W.cell? ⟨n5, 7, none⟩ = some (.slice y.n f1.net.length y.nc) := cellB hf 7
          exact wp_val (.agg #[.slice y.p f1.parts.length y.pc, .slice y.l f1.plan.length y.lc, .int .i64 f1.now, .slice y.d f1.done.length y.dc, .slice y.h f1.got.length y.hc, .slice y.g f1.grants.length y.gc, .slice y.k f1.work.length y.kc, .slice y.n f1.net.length y.nc]) (by simp [execOp, Act.eval, go_sem, k0, k1, k2, k3, k4, k5, k6, k7]) ⟨_, rfl, ⟨hC, fun h => h10 (by rwa [getD_set_ne false (by decide)] at h), fun h => h4 (by rwa [getD_set_ne false (by decide)] at h)⟩, fun _ _ _ _ h => h, rfl, fun k hk _ hz => ⟨trivial, trivial⟩⟩
        · exact wp_val (.slice ad 12 cc) (by simp [execOp, Act.eval, go_sem]) ⟨_, rfl, ⟨hC, fun h => h10 (by rwa [getD_set_ne false (by decide)] at h), fun h => h4 (by rwa [getD_set_ne false (by decide)] at h)⟩, fun _ _ _ _ h => h, rfl, fun k hk _ hz => ⟨trivial, trivial⟩⟩
        · exact wp_val (.agg #[.int .i64 1, .int .i64 0, .int .i64 0]) (by simp [execOp, go_sem]) ⟨_, rfl, ⟨hC, fun h => h10 (by rwa [getD_set_ne false (by decide)] at h), fun h => h4 (by rwa [getD_set_ne false (by decide)] at h)⟩, fun _ _ _ _ h => h, rfl, fun k hk _ hz => ⟨trivial, trivial⟩⟩
        · have hv : v 2 = .agg #[.int .i64 1, .int .i64 0, .int .i64 0] := hdep ⟨2, .data⟩ (by simp) rfl
          have hA := (Below.refl W.heap.size W).alloc (Nat.le_refl _) (.cells #[.int .i64 1, .int .i64 0, .int .i64 0] 31)
          refine wp_valW (.slice (some ⟨W.heap.size, 0, none⟩) 1 1) (W.alloc (.cells #[.int .i64 1, .int .i64 0, .int .i64 0] 31)) (by simp [Act.eval, go_sem, hv]) ⟨_, rfl, ⟨⟨hC.1.trans (hA.mono hC.1.size), hC.2.1.later hA, Nat.le_trans hC.2.2 hA.size⟩, fun h => ?_, fun h => ?_⟩, fun k x _ _ => fcR_later hA k x, ⟨W.heap.size, rfl, hC.2.2, by simp, heap_alloc_new W _⟩, fun k hk _ hz => ⟨trivial, trivial⟩⟩
          · have := h10 (by rwa [getD_set_ne false (by decide)] at h)
            exact (hA.block _ (Array.getElem?_eq_some_iff.1 this).1).trans this
          · exact (h4 (by rwa [getD_set_ne false (by decide)] at h)).kept (grown_of_below hA Option.none) own_self
        · have hv1 : v 1 = .slice ad 12 cc := hdep ⟨1, .data⟩ (by simp) rfl
          obtain ⟨g, hv3, hNg, hgW, hgb⟩ : fcR X1.heap.size wr.heap.size n5 f1 (M.runF f1 fmS).1 y ad cc 3 W (v 3) := hdep ⟨3, .data⟩ (by simp) rfl
          have hr := h4 (getD_both hsd)
          refine wp_append_own W _ _ 47 rfl X1.heap.size 31 i0 (.agg #[.int .i64 0, .int .i64 0, .int .i64 0]) 3 24 Try.underlying47 hi0 hz0 hz1 hz2 rfl (by decide) _ 12 _ hv1 hr ⟨g, 0, none⟩ 1 1 (#[.int .i64 1, .int .i64 0, .int .i64 0] : Array Value).toList hv3 rfl (World.news_of_block hgb) (List.all_eq_true.1 (show (#[.int .i64 1, .int .i64 0, .int .i64 0] : Array Value).toList.all (fun u => u.oneCell') = true from rfl)) (by unfold maxLen; omega) (by omega) hC.1.size ?_
          intro v' w3 hown' hgrow3 _
          obtain ⟨a8, c8, rfl⟩ := own_len hown'
          refine ⟨_, rfl, ⟨⟨hC.1.grown hgrow3 hC.1.size (fun k hk => (hr.lt k hk).1), hC.2.1.grown hr hgrow3, Nat.le_trans hC.2.2 hgrow3.size⟩, fun h => ?_, fun h => ?_⟩, fun k x hk _ => fcR_grow hr hgrow3 hNn k x hk, ⟨a8, c8, rfl, hown'⟩, fun k hk _ hz => ⟨trivial, trivial⟩⟩
          · have := h10 (by rwa [getD_set_ne false (by decide)] at h)
            exact block_keptP hr hgrow3 this (by decide)
          · have hsz : 4 < sd.size := by rw [hin.size]; decide
            simp [hsz] at h
        · have hv0 : v 0 = .agg #[.slice y.p f1.parts.length y.pc, .slice y.l f1.plan.length y.lc, .int .i64 f1.now, .slice y.d f1.done.length y.dc, .slice y.h f1.got.length y.hc, .slice y.g f1.grants.length y.gc, .slice y.k f1.work.length y.kc, .slice y.n f1.net.length y.nc] := hdep ⟨0, .data⟩ (by simp) rfl
          obtain ⟨a8, c8, hv4, hr⟩ : fcR X1.heap.size wr.heap.size n5 f1 (M.runF f1 fmS).1 y ad cc 4 W (v 4) := hdep ⟨4, .data⟩ (by simp) rfl
          rw [hv4] at hr
          refine wp_enter 15 #[.agg #[.slice y.p f1.parts.length y.pc, .slice y.l f1.plan.length y.lc, .int .i64 f1.now, .slice y.d f1.done.length y.dc, .slice y.h f1.got.length y.hc, .slice y.g f1.grants.length y.gc, .slice y.k f1.work.length y.kc, .slice y.n f1.net.length y.nc], .slice a8 13 c8] (by simp [Act.eval, go_sem, hv0, hv4]) ?_
          refine (run_any f1 y fmS a8 c8 W hC.2.1.at (row_haps hr)).mono ?_
          rintro e W2 ⟨hb2, y2, vS, rfl, ⟨_, hR2⟩, hS2⟩
          have hE : M.runE f1 fmS = 0 := by rw [Hf1.out]; exact fm_runE
          have hRn : M.run f1 fmS = M.runF f1 fmS := by rw [Hf1.out]; exact fm_run
          have hSd : (M.runF f1 fmS).2 = fmE := by rw [Hf1.out]; exact fm_said
          obtain ⟨o2, hR2⟩ := hR2 hE
          rw [hRn] at hR2 hS2
          rw [hRn, hE]
          rw [hSd] at hS2
          obtain ⟨a9, c9, rfl⟩ := own_len hS2
          exact ⟨_, rfl, _, rfl, ⟨⟨hC.1.trans (hb2.mono hC.1.size), hC.2.1.later hb2, Nat.le_trans hC.2.2 hb2.size⟩, fun h => (by
            have := h10 (by rwa [getD_set_ne false (by decide)] at h)
            exact (hb2.block _ (Array.getElem?_eq_some_iff.1 this).1).trans this), fun h => (h4 (by rwa [getD_set_ne false (by decide)] at h)).kept (grown_of_below hb2 Option.none) own_self⟩, fun k x _ _ => fcR_later hb2 k x, ⟨y2, a9, c9, rfl, ⟨o2, hR2.base hC.1.size⟩, row_base hS2 hC.1.size⟩, fun k hk _ hz => ⟨trivial, trivial⟩⟩
        · obtain ⟨y2, a9, c9, h5, hRz, hSz⟩ : fcR X1.heap.size wr.heap.size n5 f1 (M.runF f1 fmS).1 y ad cc 5 W (v 5) := hdep ⟨5, .data⟩ (by simp) rfl
          exact wp_val (.tuple #[.agg #[.slice y2.p (M.runF f1 fmS).1.parts.length y2.pc, .slice y2.l (M.runF f1 fmS).1.plan.length y2.lc, .int .i64 (M.runF f1 fmS).1.now, .slice y2.d (M.runF f1 fmS).1.done.length y2.dc, .slice y2.h (M.runF f1 fmS).1.got.length y2.hc, .slice y2.g (M.runF f1 fmS).1.grants.length y2.gc, .slice y2.k (M.runF f1 fmS).1.work.length y2.kc, .slice y2.n (M.runF f1 fmS).1.net.length y2.nc], .slice a9 13 c9, .int .i64 0]) (by simp [execOp, Act.eval, go_sem, h5]) ⟨_, rfl, ⟨hC, fun h => h10 (by rwa [getD_set_ne false (by decide)] at h), fun h => h4 (by rwa [getD_set_ne false (by decide)] at h)⟩, fun _ _ _ _ h => h, ⟨y2, a9, c9, rfl, hRz, hSz⟩, fun k hk _ hz => ⟨trivial, trivial⟩⟩
        · obtain ⟨y2, a9, c9, h5, hRz, hSz⟩ : fcR X1.heap.size wr.heap.size n5 f1 (M.runF f1 fmS).1 y ad cc 6 W (v 6) := hdep ⟨6, .data⟩ (by simp) rfl
          exact wp_val (.agg #[.slice y2.p (M.runF f1 fmS).1.parts.length y2.pc, .slice y2.l (M.runF f1 fmS).1.plan.length y2.lc, .int .i64 (M.runF f1 fmS).1.now, .slice y2.d (M.runF f1 fmS).1.done.length y2.dc, .slice y2.h (M.runF f1 fmS).1.got.length y2.hc, .slice y2.g (M.runF f1 fmS).1.grants.length y2.gc, .slice y2.k (M.runF f1 fmS).1.work.length y2.kc, .slice y2.n (M.runF f1 fmS).1.net.length y2.nc]) (by simp [execOp, Act.eval, go_sem, h5]) ⟨_, rfl, ⟨hC, fun h => h10 (by rwa [getD_set_ne false (by decide)] at h), fun h => h4 (by rwa [getD_set_ne false (by decide)] at h)⟩, fun _ _ _ _ h => h, ⟨y2, rfl, hRz⟩, fun k hk _ hz => ⟨trivial, trivial⟩⟩
        · obtain ⟨y2, a9, c9, h5, hRz, hSz⟩ : fcR X1.heap.size wr.heap.size n5 f1 (M.runF f1 fmS).1 y ad cc 6 W (v 6) := hdep ⟨6, .data⟩ (by simp) rfl
          exact wp_val (.slice a9 13 c9) (by simp [execOp, Act.eval, go_sem, h5]) ⟨_, rfl, ⟨hC, fun h => h10 (by rwa [getD_set_ne false (by decide)] at h), fun h => h4 (by rwa [getD_set_ne false (by decide)] at h)⟩, fun _ _ _ _ h => h, ⟨a9, c9, rfl, hSz⟩, fun k hk _ hz => ⟨trivial, trivial⟩⟩
        · obtain ⟨y2, a9, c9, h5, hRz, hSz⟩ : fcR X1.heap.size wr.heap.size n5 f1 (M.runF f1 fmS).1 y ad cc 6 W (v 6) := hdep ⟨6, .data⟩ (by simp) rfl
          exact wp_val (.int .i64 0) (by simp [execOp, Act.eval, go_sem, h5]) ⟨_, rfl, ⟨hC, fun h => h10 (by rwa [getD_set_ne false (by decide)] at h), fun h => h4 (by rwa [getD_set_ne false (by decide)] at h)⟩, fun _ _ _ _ h => h, rfl, fun k hk _ hz => ⟨trivial, trivial⟩⟩
        · obtain ⟨y2, h7, o2, hRz⟩ : fcR X1.heap.size wr.heap.size n5 f1 (M.runF f1 fmS).1 y ad cc 7 W (v 7) := hdep ⟨7, .data⟩ (by simp) rfl
          have hf := h10 (getD_both hsd)
          have k0 : W.cell? ⟨n5, 0, none⟩ = some (.slice y.p f1.parts.length y.pc) := cellB hf 0
          have k1 : W.cell? ⟨n5, 1, none⟩ = some (.slice y.l f1.plan.length y.lc) := cellB hf 1
          have k2 : W.cell? ⟨n5, 2, none⟩ = some (.int .i64 f1.now) := cellB hf 2
          have k3 : W.cell? ⟨n5, 3, none⟩ = some (.slice y.d f1.done.length y.dc) := cellB hf 3
          have k4 : W.cell? ⟨n5, 4, none⟩ = some (.slice y.h f1.got.length y.hc) := cellB hf 4
          have k5 : W.cell? ⟨n5, 5, none⟩ = some (.slice y.g f1.grants.length y.gc) := cellB hf 5
          have k6 : W.cell? ⟨n5, 6, none⟩ = some (.slice y.k f1.work.length y.kc) := cellB hf 6
          have k7 : W.cell? ⟨n5, 7, none⟩ = some (.slice y.n f1.net.length y.nc) := cellB hf 7
          have kf : ∀ i, W.frozen? ⟨n5, i, none⟩ = false := frozenB hf
          obtain ⟨hs1, hs2⟩ := store8 W n5 (.slice y.p f1.parts.length y.pc) (.slice y.l f1.plan.length y.lc) (.int .i64 f1.now) (.slice y.d f1.done.length y.dc) (.slice y.h f1.got.length y.hc) (.slice y.g f1.grants.length y.gc) (.slice y.k f1.work.length y.kc) (.slice y.n f1.net.length y.nc) (.slice y2.p (M.runF f1 fmS).1.parts.length y2.pc) (.slice y2.l (M.runF f1 fmS).1.plan.length y2.lc) (.int .i64 (M.runF f1 fmS).1.now) (.slice y2.d (M.runF f1 fmS).1.done.length y2.dc) (.slice y2.h (M.runF f1 fmS).1.got.length y2.hc) (.slice y2.g (M.runF f1 fmS).1.grants.length y2.gc) (.slice y2.k (M.runF f1 fmS).1.work.length y2.kc) (.slice y2.n (M.runF f1 fmS).1.net.length y2.nc) 29 hf
          have wrF : Wr W ((((((((W.setCell ⟨n5, 0, none⟩ (.slice y2.p (M.runF f1 fmS).1.parts.length y2.pc)).setCell ⟨n5, 1, none⟩ (.slice y2.l (M.runF f1 fmS).1.plan.length y2.lc)).setCell ⟨n5, 2, none⟩ (.int .i64 (M.runF f1 fmS).1.now)).setCell ⟨n5, 3, none⟩ (.slice y2.d (M.runF f1 fmS).1.done.length y2.dc)).setCell ⟨n5, 4, none⟩ (.slice y2.h (M.runF f1 fmS).1.got.length y2.hc)).setCell ⟨n5, 5, none⟩ (.slice y2.g (M.runF f1 fmS).1.grants.length y2.gc)).setCell ⟨n5, 6, none⟩ (.slice y2.k (M.runF f1 fmS).1.work.length y2.kc)).setCell ⟨n5, 7, none⟩ (.slice y2.n (M.runF f1 fmS).1.net.length y2.nc)) 29 := ⟨n5, _, hf, hs2⟩
          refine wp_skipW ((((((((W.setCell ⟨n5, 0, none⟩ (.slice y2.p (M.runF f1 fmS).1.parts.length y2.pc)).setCell ⟨n5, 1, none⟩ (.slice y2.l (M.runF f1 fmS).1.plan.length y2.lc)).setCell ⟨n5, 2, none⟩ (.int .i64 (M.runF f1 fmS).1.now)).setCell ⟨n5, 3, none⟩ (.slice y2.d (M.runF f1 fmS).1.done.length y2.dc)).setCell ⟨n5, 4, none⟩ (.slice y2.h (M.runF f1 fmS).1.got.length y2.hc)).setCell ⟨n5, 5, none⟩ (.slice y2.g (M.runF f1 fmS).1.grants.length y2.gc)).setCell ⟨n5, 6, none⟩ (.slice y2.k (M.runF f1 fmS).1.work.length y2.kc)).setCell ⟨n5, 7, none⟩ (.slice y2.n (M.runF f1 fmS).1.net.length y2.nc)) (by simp [execOp, Act.eval, go_sem, h7, k0, k1, k2, k3, k4, k5, k6, k7, kf]) ⟨undef, rfl, ⟨⟨hC.1.grown hs2 hC.1.size (fun k hk => by cases hk; exact hn5B), hC.2.1.wr wrF, Nat.le_trans hC.2.2 hs2.size⟩, fun h => ?_, fun h => ?_⟩, fun k x hk _ => fcR_wr wrF hs2.size k x hk, ⟨y2, hs1, o2, hRz.wr wrF⟩, fun k hk _ hz => ⟨trivial, trivial⟩⟩
          · have hsz : 10 < sd.size := by rw [hin.size]; decide
            simp [hsz] at h
          · exact wrF.row (h4 (by rwa [getD_set_ne false (by decide)] at h)) (by decide)
        · obtain ⟨a9, c9, h8, hSz⟩ : fcR X1.heap.size wr.heap.size n5 f1 (M.runF f1 fmS).1 y ad cc 8 W (v 8) := hdep ⟨8, .data⟩ (by simp) rfl
          exact wp_val (.slice a9 13 c9) (by simp [execOp, Act.eval, go_sem, h8]) ⟨_, rfl, ⟨hC, fun h => h10 (by rwa [getD_set_ne false (by decide)] at h), fun h => h4 (by rwa [getD_set_ne false (by decide)] at h)⟩, fun _ _ _ _ h => h, ⟨a9, c9, rfl, hSz⟩, fun k hk _ hz => ⟨trivial, trivial⟩⟩
      · rintro sd v W ⟨hC, _, _⟩ hR hZ
        have h9 : v 9 = .int .i64 0 := hR 9 (by decide)
        obtain ⟨a9, c9, h11, hSz⟩ : fcR X1.heap.size wr.heap.size n5 f1 (M.runF f1 fmS).1 y ad cc 11 W (v 11) := hR 11 (by decide)
        obtain ⟨y2, hf, o2, hRz⟩ : fcR X1.heap.size wr.heap.size n5 f1 (M.runF f1 fmS).1 y ad cc 10 W (v 10) := hR 10 (by decide)
        have hoE : M.outcomeE (M.runF f1 fmS).1 = 0 := by rw [Hf1.out]; exact fm_outE
        have hsm : M.samePart (M.outcome (M.runF f1 fmS).1) (M.join fA fB).1 = true := by rw [Hf1.out]; exact fm_same
        have hIn : IntsAt W (.slice a9 13 c9) fmE := row_errs (l := fmE) hSz
        generalize (M.runF f1 fmS).1 = z at *
        have KO : Hid (Calls Try.prog 17 #[.agg #[.slice y2.p z.parts.length y2.pc, .slice y2.l z.plan.length y2.lc, .int .i64 z.now, .slice y2.d z.done.length y2.dc, .slice y2.h z.got.length y2.hc, .slice y2.g z.grants.length y2.gc, .slice y2.k z.work.length y2.kc, .slice y2.n z.net.length y2.nc]] W fun e w' => Below W.heap.size W w' ∧ ∃ x1 y1 x2 y2, e = .returned (.tuple #[.agg #[.slice x1 (M.outcome z).frags.length y1, .slice x2 (M.outcome z).defs.length y2], .int .i64 0]) ∧ FragsAt w' (.slice x1 (M.outcome z).frags.length y1) (M.outcome z).frags ∧ DefsAt w' (.slice x2 (M.outcome z).defs.length y2) (M.outcome z).defs) := by
          have := outcome_any z y2 W hRz.at
          rw [hoE] at this
          exact this
        simp only [List.drop_succ_cons, List.drop_zero]
        rw [h9, h11]
        have k0 : W.cell? ⟨n5, 0, none⟩ = some (.slice y2.p z.parts.length y2.pc) := cellB hf 0
        have k1 : W.cell? ⟨n5, 1, none⟩ = some (.slice y2.l z.plan.length y2.lc) := cellB hf 1
        have k2 : W.cell? ⟨n5, 2, none⟩ = some (.int .i64 z.now) := cellB hf 2
        have k3 : W.cell? ⟨n5, 3, none⟩ = some (.slice y2.d z.done.length y2.dc) := cellB hf 3
        have k4 : W.cell? ⟨n5, 4, none⟩ = some (.slice y2.h z.got.length y2.hc) := cellB hf 4
        have k5 : W.cell? ⟨n5, 5, none⟩ = some (.slice y2.g z.grants.length y2.gc) := cellB hf 5
        have k6 : W.cell? ⟨n5, 6, none⟩ = some (.slice y2.k z.work.length y2.kc) := cellB hf 6
        have k7 : W.cell? ⟨n5, 7, none⟩ = some (.slice y2.n z.net.length y2.nc) := cellB hf 7
        have lf : n5 < W.heap.size := (Array.getElem?_eq_some_iff.1 hf).1
        have Hsm : Hid (M.samePart (M.outcome z) (M.join fA fB).1 = true) := hsm
        have HC : Hid (Below X1.heap.size X1 W) := hC.1
        have HIn : Hid (∀ W', Below W.heap.size W W' → IntsAt W' (.slice a9 13 c9) fmE) := fun W' hW => hIn.later hW
        clear hR hZ h9 h11 hSz hf hRz hoE hsm hIn hC HH hNn
        generalize M.outcome z = P at *
        go_upto_region 11 with (go_at_call 17; refine KO.out.mono ?_; rintro e W2 ⟨hb2, z1, u1, z2, u2, rfl, hF2, hD2⟩)
        have v3 := var_new (p := P) hF2 hD2
        have hA3 := hb2.trans (((Below.refl W2.heap.size W2).alloc (Nat.le_refl _) (.cells #[.slice z1 P.frags.length u1, .slice z2 P.defs.length u2] 44)).mono hb2.size)
        clear KO k0 k1 k2 k3 k4 k5 k6 k7 lf hF2 hD2 hb2
        generalize W2.alloc (.cells #[.slice z1 P.frags.length u1, .slice z2 P.defs.length u2] 44) = W3 at *
        generalize W2.heap.size = n10 at *
        have HC3 : Hid (Below X1.heap.size X1 W3) := HC.out.trans (hA3.mono HC.out.size)
        have HIn3 : Hid (∀ W', Below W3.heap.size W3 W' → IntsAt W' (.slice a9 13 c9) fmE) := fun W' hW => HIn.out W' (hA3.trans (hW.mono hA3.size))
        have HV3 : Hid (Var W3 n10 z1 z2 u1 u2 P) := v3
        obtain ⟨V1, V2⟩ := V.out W3 HC3.out
        have c10 : W3.cell? ⟨n1, 0, none⟩ = some (.slice a1 1 1) := V1.c0
        have c11 : W3.cell? ⟨n1, 1, none⟩ = some (.slice a2 1 1) := V1.c1
        have c20 : W3.cell? ⟨n1 + 1, 0, none⟩ = some (.slice a3 1 1) := V2.c0
        have c21 : W3.cell? ⟨n1 + 1, 1, none⟩ = some (.slice a4 1 1) := V2.c1
        have l1 := V1.lt
        have l2 := V2.lt
        obtain ⟨jp, hjp⟩ : ∃ jp, M.join fA fB = (jp, 0) := ⟨_, Prod.ext rfl fm_joinE⟩
        have KJ : Hid (Calls Try.prog 16 #[.agg #[.slice a1 1 1, .slice a2 1 1], .agg #[.slice a3 1 1, .slice a4 1 1]] W3 fun e w' => Below W3.heap.size W3 w' ∧ ∃ x1 y1 x2 y2, e = .returned (.tuple #[.agg #[.slice x1 jp.frags.length y1, .slice x2 jp.defs.length y2], .int .i64 0]) ∧ FragsAt w' (.slice x1 jp.frags.length y1) jp.frags ∧ DefsAt w' (.slice x2 jp.defs.length y2) jp.defs) := join_v (a := fA) (b := fB) V1.fr V1.df V2.fr V2.df jp 0 hjp
        have hsm : M.samePart P jp = true := by have := Hsm.out; rw [hjp] at this; exact this
        clear V1 V2 hA3 HC HIn Hsm hjp v3
        go_upto_region 12 with (go_at_call 16; refine KJ.out.mono ?_; rintro e W4 ⟨hb4, t1, s1, t2, s2, rfl, hF4, hD4⟩)
        have v5 := var_new (p := jp) hF4 hD4
        have hA5 := hb4.trans (((Below.refl W4.heap.size W4).alloc (Nat.le_refl _) (.cells #[.slice t1 jp.frags.length s1, .slice t2 jp.defs.length s2] 44)).mono hb4.size)
        clear KJ c10 c11 c20 c21 l1 l2 hF4 hD4 hb4
        generalize W4.alloc (.cells #[.slice t1 jp.frags.length s1, .slice t2 jp.defs.length s2] 44) = W5 at *
        generalize W4.heap.size = n12 at *
        have HC5 : Hid (Below w.heap.size w W5) := HX.out.trans ((HC3.out.trans (hA5.mono HC3.out.size)).mono HX.out.size)
        have v4 := HV3.out.later hA5
        obtain ⟨eb, eo, rfl, e11, leb⟩ := IntsAt.cell (l := fmE) (HIn3.out W5 hA5) 11 (by decide)
        obtain ⟨eb', eo', hee, e12, _⟩ := IntsAt.cell (l := fmE) (HIn3.out W5 hA5) 12 (by decide)
        cases hee
        have e11' : W5.cell? ⟨eb, eo + 11, none⟩ = some (.int .i64 0) := e11
        have e12' : W5.cell? ⟨eb, eo + 12, none⟩ = some (.int .i64 11) := e12
        have KS : Hid (Calls Try.prog 12 #[.agg #[.slice z1 P.frags.length u1, .slice z2 P.defs.length u2], .agg #[.slice t1 jp.frags.length s1, .slice t2 jp.defs.length s2]] W5 fun e w' => e = .returned (.bool true) ∧ Below W5.heap.size W5 w') := by
          have := same_any P.frags jp.frags P.defs jp.defs _ _ _ _ _ _ _ _ W5 v4.fr v4.df v5.fr v5.df
          rw [show M.samePart ⟨P.frags, P.defs⟩ ⟨jp.frags, jp.defs⟩ = true from hsm] at this
          exact this
        have p0 := v4.c0
        have p1 := v4.c1
        have q0 := v5.c0
        have q1 := v5.c1
        have lp := v4.lt
        have lq := v5.lt
        clear e11 e12 HIn3 v4 v5 HV3 hsm hA5
        go_wp2_with (go_at_call 12; refine KS.out.mono ?_; rintro e W6 ⟨rfl, hb6⟩)
        go_ret
        exact ⟨rfl, HC5.out.trans (hb6.mono HC5.out.size)⟩

end Go.Proofs.Ytmlojlbmfceogaa
