/-
  The contract of farm.happen.
-/
import Derived.Test.YtmlojlbmfceogaaFmTo
namespace Go.Proofs.Ytmlojlbmfceogaa
open Go Go.RowKit
set_option linter.unusedVariables false

theorem zeroGrants (n : Nat) : (Builtin.zeroCells (Value.cells (.agg #[.int .i64 0, .int .i64 0])) n).toList = (List.replicate n M.grt0).flatMap encGrt := by
  have hl := flat_len' 2 encGrt (fun _ => rfl) (List.replicate n M.grt0)
  rw [List.length_replicate] at hl
  apply List.ext_getElem
  · rw [hl]; simp [Builtin.zeroCells, Value.cells]
  · intro i h1 h2
    rw [hl] at h2
    have e : i = i / 2 * 2 + i % 2 := by omega
    have h3 := flat_cell 2 encGrt (fun _ => rfl) M.grt0 (List.replicate n M.grt0) (i / 2) (i % 2) (by rw [List.length_replicate]; omega) (by omega)
    rw [← e] at h3
    have h4 : (List.replicate n M.grt0).getD (i / 2) M.grt0 = M.grt0 := by rw [List.getD_eq_getElem?_getD, List.getElem?_replicate]; split <;> rfl
    rw [h4] at h3
    have h5 := List.getElem?_eq_some_iff.1 h3
    obtain ⟨_, h5⟩ := h5
    rw [h5]
    rcases (by omega : i % 2 = 0 ∨ i % 2 = 1) with h | h
    · simp [Builtin.zeroCells, Value.cells, h, encGrt, M.grt0]
    · simp [Builtin.zeroCells, Value.cells, h, encGrt, M.grt0]

/-- all grants are zero -/
theorem FmO.clearG {B b : Nat} {W : World} {f : M.Farm} {x : Fd} {o : Fo} (h : FmO B W b f x o) (g : Nat) (hg : x.g = some ⟨g, 0, none⟩) (cur : Array Value) (hcur : W.heap[g]? = some (.cells cur 78 (0, 0))) (hfit : f.grants.length * 2 ≤ cur.size) (zs : List Value) (hzs : zs = (List.replicate f.grants.length M.grt0).flatMap encGrt) :
    FmO B (W.setRow g (cur.toList.take 0 ++ (zs ++ cur.toList.drop (0 + zs.length))).toArray) b { f with grants := List.replicate f.grants.length M.grt0 } x o ∧ Below B W (W.setRow g (cur.toList.take 0 ++ (zs ++ cur.toList.drop (0 + zs.length))).toArray) ∧ KeepE W (W.setRow g (cur.toList.take 0 ++ (zs ++ cur.toList.drop (0 + zs.length))).toArray) := by
  have hl : zs.length = f.grants.length * 2 := by rw [hzs, flat_len' 2 encGrt (fun _ => rfl), List.length_replicate]
  have hr := h.rowG
  rw [hg] at hr
  obtain ⟨hge, hle, hcm, hcs⟩ : B ≤ g ∧ f.grants.length ≤ x.gc ∧ x.gc ≤ maxLen ∧ cur.size = x.gc * 2 := by
    rcases hr.2 with ⟨h1, _⟩ | ⟨g', cap, cur', h1, h2, h3, h4, h5, h6, _⟩
    · cases h1
    · cases h1
      rw [hcur] at h3
      cases h3
      exact ⟨h2, h4, h5, h6⟩
  have hgr : W.grownBy (W.setRow g (cur.toList.take 0 ++ (zs ++ cur.toList.drop (0 + zs.length))).toArray) (some g) := ⟨rfl, rfl, rfl, by simp, fun i hi hne => setRow_other _ _ _ _ (fun e => hne (by rw [e]))⟩
  have wr : Wr W (W.setRow g (cur.toList.take 0 ++ (zs ++ cur.toList.drop (0 + zs.length))).toArray) 78 := ⟨g, cur, hcur, hgr⟩
  refine ⟨h.setGrants _ (by simp) wr ?_, (Below.refl _ _).grown hgr ?_ (fun k hk => by cases hk; exact hge), wr.keepE (by decide)⟩
  · rw [hg]
    refine ⟨by rw [flat_len' 2 encGrt (fun _ => rfl), List.length_replicate], .inr ⟨g, x.gc, _, rfl, hge, setRow_heap _ _ _ _ _ _ hcur, hle, hcm, ?_, ?_⟩⟩
    · simp only [List.size_toArray, List.take_zero, List.nil_append, List.length_append, List.length_drop, Array.length_toList, hl]
      omega
    · rw [List.take_zero, List.nil_append, ← hl, List.take_left, hzs]
  · exact Nat.le_trans hge (Nat.le_of_lt (Array.getElem?_eq_some_iff.1 hcur).1)

set_option maxHeartbeats 16000000 in
set_option maxRecDepth 100000 in
theorem happen_any {B b : Nat} {f : M.Farm} {x : Fd} {o : Fo} (w : World) (hO : FmO B w b f x o) (hB : B ≤ w.heap.size) (hok : M.FarmOk f) (kd wk kk : Int) :
    Calls Try.prog 23 #[.pointer (some ⟨b, 0, none⟩), .agg #[.int .i64 kd, .int .i64 wk, .int .i64 kk]] w fun e w' => e = .returned (.int .i64 (M.happen f ⟨kd, wk, kk⟩).2) ∧ Below B w w' ∧ KeepE w w' ∧ ∃ x' o', FmO B w' b (M.happen f ⟨kd, wk, kk⟩).1 x' o' := by
  have hA := (Below.refl w.heap.size w).alloc (Nat.le_refl _) (.cells #[.int .i64 kd, .int .i64 wk, .int .i64 kk] 31)
  have HB1 : Hid (Below B w (w.alloc (.cells #[.int .i64 kd, .int .i64 wk, .int .i64 kk] 31)) ∧ KeepE w (w.alloc (.cells #[.int .i64 kd, .int .i64 wk, .int .i64 kk] 31))) := ⟨hA.mono hB, keepE_below hA⟩
  have hh := heap_alloc_new w (.cells #[.int .i64 kd, .int .i64 wk, .int .i64 kk] 31)
  have hO1 := hO.later hA
  have hB1 := Nat.le_trans hB hA.size
  have HH : Hid (M.happen f ⟨kd, wk, kk⟩ = if kd = 1 ∨ kd = 2 ∨ kd = 7 then M.happenAt f ⟨kd, wk, kk⟩ else if kd = 3 ∨ kd = 4 ∨ kd = 5 then M.happenTo f ⟨kd, wk, kk⟩ else if kd = 6 then (if f.now = 65536 then (f, 10) else ({ f with now := f.now + 1 }, 0)) else if kd = 8 then ({ f with grants := List.replicate f.grants.length M.grt0 }, 0) else (f, 4)) := rfl
  generalize M.happen f ⟨kd, wk, kk⟩ = R at *
  clear hO hA
  go_enter Try.func23, Try.ntmps23
  go_upto_region 1 with fail
  obtain ⟨q, hqe⟩ : ∃ q, q = w.heap.size := ⟨_, rfl⟩
  rw [← hqe] at hh ⊢
  clear hqe
  generalize w.alloc (.cells #[.int .i64 kd, .int .i64 wk, .int .i64 kk] 31) = Z at *
  have q0 : Z.cell? ⟨q, 0, none⟩ = some (.int .i64 kd) := cellB hh 0
  have q1 : Z.cell? ⟨q, 1, none⟩ = some (.int .i64 wk) := cellB hh 1
  have q2 : Z.cell? ⟨q, 2, none⟩ = some (.int .i64 kk) := cellB hh 2
  have lq : q < Z.heap.size := (Array.getElem?_eq_some_iff.1 hh).1
  have lb : b < Z.heap.size := (Array.getElem?_eq_some_iff.1 hO1.blk).1
  have hd : kd = 1 ∨ kd = 2 ∨ kd = 7 ∨ ¬ (kd = 1 ∨ kd = 2 ∨ kd = 7) := by omega
  have KA : Hid (Calls Try.prog 50 #[.pointer (some ⟨b, 0, none⟩), .agg #[.int .i64 kd, .int .i64 wk, .int .i64 kk]] Z fun e w' => e = .returned (.int .i64 (M.happenAt f ⟨kd, wk, kk⟩).2) ∧ Below B Z w' ∧ KeepE Z w' ∧ ∃ x' o', FmO B w' b (M.happenAt f ⟨kd, wk, kk⟩).1 x' o') := happenAt_any Z hO1 hB1 hok kd wk kk
  have KT : Hid (Calls Try.prog 51 #[.pointer (some ⟨b, 0, none⟩), .agg #[.int .i64 kd, .int .i64 wk, .int .i64 kk]] Z fun e w' => e = .returned (.int .i64 (M.happenTo f ⟨kd, wk, kk⟩).2) ∧ Below B Z w' ∧ KeepE Z w' ∧ ∃ x' o', FmO B w' b (M.happenTo f ⟨kd, wk, kk⟩).1 x' o') := happenTo_any Z hO1 hB1 hok kd wk kk
  have HO1 : Hid (FmO B Z b f x o) := hO1
  clear hh hO1
  rcases hd with hk | hk | hk | hk
  · have HR : Hid (R = M.happenAt f ⟨kd, wk, kk⟩) := by rw [Hid, HH.out, if_pos (.inl hk)]
    have b1 : (kd == 1) = true := by simpa using hk
    clear HH KT hk
    generalize M.happenAt f ⟨kd, wk, kk⟩ = R2 at *
    go_wp2_with (go_at_call 50; refine KA.out.mono ?_; rintro e w5 ⟨rfl, j1, j2, x', o', j3⟩)
    go_ret
    exact ⟨by rw [HR.out]; rfl, HB1.out.1.trans j1, HB1.out.2.trans j2, x', o', by rw [HR.out]; exact j3⟩
  · have HR : Hid (R = M.happenAt f ⟨kd, wk, kk⟩) := by rw [Hid, HH.out, if_pos (.inr (.inl hk))]
    have b1 : (kd == 1) = false := by simp; omega
    have b2 : (kd == 2) = true := by simpa using hk
    clear HH KT hk
    generalize M.happenAt f ⟨kd, wk, kk⟩ = R2 at *
    go_wp2_with (go_at_call 50; refine KA.out.mono ?_; rintro e w5 ⟨rfl, j1, j2, x', o', j3⟩)
    go_ret
    exact ⟨by rw [HR.out]; rfl, HB1.out.1.trans j1, HB1.out.2.trans j2, x', o', by rw [HR.out]; exact j3⟩
  · have HR : Hid (R = M.happenAt f ⟨kd, wk, kk⟩) := by rw [Hid, HH.out, if_pos (.inr (.inr hk))]
    have b1 : (kd == 1) = false := by simp; omega
    have b2 : (kd == 2) = false := by simp; omega
    have b7 : (kd == 7) = true := by simpa using hk
    clear HH KT hk
    generalize M.happenAt f ⟨kd, wk, kk⟩ = R2 at *
    go_wp2_with (go_at_call 50; refine KA.out.mono ?_; rintro e w5 ⟨rfl, j1, j2, x', o', j3⟩)
    go_ret
    exact ⟨by rw [HR.out]; rfl, HB1.out.1.trans j1, HB1.out.2.trans j2, x', o', by rw [HR.out]; exact j3⟩
  · have HH2 : Hid (R = if kd = 3 ∨ kd = 4 ∨ kd = 5 then M.happenTo f ⟨kd, wk, kk⟩ else if kd = 6 then (if f.now = 65536 then (f, 10) else ({ f with now := f.now + 1 }, 0)) else if kd = 8 then ({ f with grants := List.replicate f.grants.length M.grt0 }, 0) else (f, 4)) := by rw [Hid, HH.out, if_neg hk]
    have b1 : (kd == 1) = false := by simp; omega
    have b2 : (kd == 2) = false := by simp; omega
    have b7 : (kd == 7) = false := by simp; omega
    clear HH KA
    have hd : kd = 3 ∨ kd = 4 ∨ kd = 5 ∨ ¬ (kd = 3 ∨ kd = 4 ∨ kd = 5) := by omega
    clear hk
    rcases hd with hk | hk | hk | hk
    · have HR : Hid (R = M.happenTo f ⟨kd, wk, kk⟩) := by rw [Hid, HH2.out, if_pos (.inl hk)]
      have b3 : (kd == 3) = true := by simpa using hk
      clear HH2 hk
      generalize M.happenTo f ⟨kd, wk, kk⟩ = R2 at *
      go_wp2_with (go_at_call 51; refine KT.out.mono ?_; rintro e w5 ⟨rfl, j1, j2, x', o', j3⟩)
      go_ret
      exact ⟨by rw [HR.out]; rfl, HB1.out.1.trans j1, HB1.out.2.trans j2, x', o', by rw [HR.out]; exact j3⟩
    · have HR : Hid (R = M.happenTo f ⟨kd, wk, kk⟩) := by rw [Hid, HH2.out, if_pos (.inr (.inl hk))]
      have b3 : (kd == 3) = false := by simp; omega
      have b4 : (kd == 4) = true := by simpa using hk
      clear HH2 hk
      generalize M.happenTo f ⟨kd, wk, kk⟩ = R2 at *
      go_wp2_with (go_at_call 51; refine KT.out.mono ?_; rintro e w5 ⟨rfl, j1, j2, x', o', j3⟩)
      go_ret
      exact ⟨by rw [HR.out]; rfl, HB1.out.1.trans j1, HB1.out.2.trans j2, x', o', by rw [HR.out]; exact j3⟩
    · have HR : Hid (R = M.happenTo f ⟨kd, wk, kk⟩) := by rw [Hid, HH2.out, if_pos (.inr (.inr hk))]
      have b3 : (kd == 3) = false := by simp; omega
      have b4 : (kd == 4) = false := by simp; omega
      have b5 : (kd == 5) = true := by simpa using hk
      clear HH2 hk
      generalize M.happenTo f ⟨kd, wk, kk⟩ = R2 at *
      go_wp2_with (go_at_call 51; refine KT.out.mono ?_; rintro e w5 ⟨rfl, j1, j2, x', o', j3⟩)
      go_ret
      exact ⟨by rw [HR.out]; rfl, HB1.out.1.trans j1, HB1.out.2.trans j2, x', o', by rw [HR.out]; exact j3⟩
    · have HH3 : Hid (R = if kd = 6 then (if f.now = 65536 then (f, 10) else ({ f with now := f.now + 1 }, 0)) else if kd = 8 then ({ f with grants := List.replicate f.grants.length M.grt0 }, 0) else (f, 4)) := by rw [Hid, HH2.out, if_neg hk]
      have b3 : (kd == 3) = false := by simp; omega
      have b4 : (kd == 4) = false := by simp; omega
      have b5 : (kd == 5) = false := by simp; omega
      clear HH2 KT hk
      by_cases k6 : kd = 6
      · have b6 : (kd == 6) = true := by simpa using k6
        have c2 : Z.cell? ⟨b, 2, none⟩ = some (.int .i64 f.now) := cellB HO1.out.blk 2
        have fz : Z.frozen? ⟨b, 2, none⟩ = false := frozenB HO1.out.blk 2
        have hn0 := hok.now0
        have hn1 := hok.now1
        by_cases hnow : f.now = 65536
        · have HR : Hid (R = (f, 10)) := by rw [Hid, HH3.out, if_pos k6, if_pos hnow]
          have bn : (f.now == 65536) = true := by simpa using hnow
          clear HH3 k6 hnow
          go_wp2_with fail
          go_ret
          exact ⟨by rw [HR.out]; rfl, HB1.out.1, HB1.out.2, x, o, by rw [HR.out]; exact HO1.out⟩
        · have HR : Hid (R = ({ f with now := f.now + 1 }, 0)) := by rw [Hid, HH3.out, if_pos k6, if_neg hnow]
          have bn : (f.now == 65536) = false := by simpa using hnow
          have hS := HO1.out.setNow (f.now + 1)
          have HS : Hid (FmO B (Z.setCell ⟨b, 2, none⟩ (.int .i64 (f.now + 1))) b { f with now := f.now + 1 } x o) := hS
          have HBS : Hid (Below B w (Z.setCell ⟨b, 2, none⟩ (.int .i64 (f.now + 1))) ∧ KeepE w (Z.setCell ⟨b, 2, none⟩ (.int .i64 (f.now + 1)))) := ⟨HB1.out.1.setCell HO1.out.bge _, HB1.out.2.trans ((⟨b, _, HO1.out.blk, grown_set _ _ _ _⟩ : Wr Z (Z.setCell ⟨b, 2, none⟩ (.int .i64 (f.now + 1))) 29).keepE (by decide))⟩
          clear HH3 k6 hnow hS
          go_wp2_with fail
          go_ret
          exact ⟨by rw [HR.out]; rfl, HBS.out.1, HBS.out.2, x, o, by rw [HR.out]; exact HS.out⟩
      · have b6 : (kd == 6) = false := by simpa using k6
        by_cases k8 : kd = 8
        · have b8 : (kd == 8) = true := by simpa using k8
          have HR : Hid (R = ({ f with grants := List.replicate f.grants.length M.grt0 }, 0)) := by rw [Hid, HH3.out, if_neg k6, if_pos k8]
          obtain ⟨_, _, hl0, _⟩ := check_ok hok.plan
          have hgl := hok.grants
          have hgp : 0 < f.grants.length := by omega
          obtain ⟨g, hg⟩ := own_blk HO1.out.rowG hgp
          have hr := HO1.out.rowG
          rw [hg] at hr
          obtain ⟨cur, hcur, hcs, hle⟩ : ∃ cur : Array Value, Z.heap[g]? = some (.cells cur 78 (0, 0)) ∧ cur.size = x.gc * 2 ∧ f.grants.length ≤ x.gc := by
            rcases hr.2 with ⟨h1, _⟩ | ⟨g', cap, cur', h1, h2, h3, h4, h5, h6, _⟩
            · cases h1
            · cases h1; exact ⟨cur', h3, h6, h4⟩
          have c5 : Z.cell? ⟨b, 5, none⟩ = some (.slice (some ⟨g, 0, none⟩) f.grants.length x.gc) := by rw [← hg]; exact cellB HO1.out.blk 5
          obtain ⟨zs, hzs⟩ : ∃ zs, zs = (List.replicate f.grants.length M.grt0).flatMap encGrt := ⟨_, rfl⟩
          have hzl : zs.length = f.grants.length * 2 := by rw [hzs, flat_len' 2 encGrt (fun _ => rfl), List.length_replicate]
          obtain ⟨hS1, hS2, hS3⟩ := HO1.out.clearG g hg cur hcur (by omega) zs hzs
          have hze := (zeroGrants f.grants.length).trans hzs.symm
          have hz1 : ∀ u ∈ zs, u.oneCell' = true := fun u hu => by
            rw [hzs] at hu
            obtain ⟨t, _, hu⟩ := List.mem_flatMap.1 hu
            simp only [encGrt, List.mem_cons, List.not_mem_nil, or_false] at hu
            rcases hu with rfl | rfl <;> rfl
          have hfit : 0 + zs.length ≤ cur.size := by omega
          obtain ⟨W9, hW9⟩ : ∃ W9, W9 = Z.setRow g (cur.toList.take 0 ++ (zs ++ cur.toList.drop (0 + zs.length))).toArray := ⟨_, rfl⟩
          rw [← hW9] at hS1 hS2 hS3
          have HS : Hid (FmO B W9 b { f with grants := List.replicate f.grants.length M.grt0 } x o ∧ Below B w W9 ∧ KeepE w W9) := ⟨hS1, HB1.out.1.trans hS2, HB1.out.2.trans hS3⟩
          have HW9 : Hid (W9 = Z.setRow g (cur.toList.take 0 ++ (zs ++ cur.toList.drop (0 + zs.length))).toArray) := hW9
          have Hze : Hid ((Builtin.zeroCells (Value.cells (.agg #[.int .i64 0, .int .i64 0])) f.grants.length).toList = zs) := hze
          clear HH3 k6 k8 hr hS1 hS2 hS3 hzs hgl hg hcs hzl hW9 hze hl0
          go_wp2_with (refine wpList_clear rfl _ 25 78 rfl (.agg #[.int .i64 0, .int .i64 0]) Try.underlying25 (fun w => by kernel_rfl) g 0 f.grants.length x.gc rfl hgp cur hcur zs Hze.out hfit hz1 ?_; rw [← HW9.out]; refine Hid.out ?_)
          refine Lib.hid ?_
          go_wp2_with fail
          go_ret
          exact ⟨by rw [HR.out]; rfl, HS.out.2.1, HS.out.2.2, x, o, by rw [HR.out]; exact HS.out.1⟩
        · have b8 : (kd == 8) = false := by simpa using k8
          have HR : Hid (R = (f, 4)) := by rw [Hid, HH3.out, if_neg k6, if_neg k8]
          clear HH3 k6 k8
          go_wp2_with fail
          go_ret
          exact ⟨by rw [HR.out]; rfl, HB1.out.1, HB1.out.2, x, o, by rw [HR.out]; exact HO1.out⟩

end Go.Proofs.Ytmlojlbmfceogaa
