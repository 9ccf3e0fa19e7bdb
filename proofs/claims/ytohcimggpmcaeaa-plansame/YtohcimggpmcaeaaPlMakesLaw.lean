/-
  The law PlanMakes: whatever the number of parts and the picks, it returns true.
-/
import Derived.Test.YtohcimggpmcaeaaPlFact
import Derived.Test.YtohcimggpmcaeaaPlLib
namespace Go.Proofs.Ytohcimggpmcaeaa
open Go Go.RowKit
set_option linter.unusedVariables false

theorem SlAt.take {w : World} {a : Option Addr} {c k n : Nat} {cell : Nat → Nat → Value} (h : SlAt w (.slice a n c) k n cell) (m : Nat) (hm : m ≤ n) : SlAt w (.slice a m c) k m cell := by
  obtain ⟨a', c', e, hn, h⟩ := h
  cases e
  refine ⟨_, _, rfl, by omega, ?_⟩
  rcases h with h | ⟨b, off, e, h⟩
  · exact .inl (by omega)
  · exact .inr ⟨b, off, e, fun j i hj hi => h j i (by omega) hi⟩
theorem getD_take {α : Type} (l : List α) (d : α) (m j : Nat) (h : j < m) : (l.take m).getD j d = l.getD j d := by
  rw [List.getD_eq_getElem?_getD, List.getD_eq_getElem?_getD, List.getElem?_take_of_lt h]
theorem IntsAt.take {w : World} {a : Option Addr} {c : Nat} {l : List Int} (h : IntsAt w (.slice a l.length c) l) (m : Nat) (hm : m ≤ l.length) : IntsAt w (.slice a m c) (l.take m) := by
  have e : (l.take m).length = m := by simp; omega
  unfold IntsAt
  rw [e]
  refine (SlAt.take h m hm).congr' fun j i hj hi => ?_
  rw [getD_take l 0 m j hj]
theorem NodesAt.take {w : World} {a : Option Addr} {c : Nat} {l : List M.Nd} (h : NodesAt w (.slice a l.length c) l) (m : Nat) (hm : m ≤ l.length) : NodesAt w (.slice a m c) (l.take m) := by
  have e : (l.take m).length = m := by simp; omega
  unfold NodesAt
  rw [e]
  refine (SlAt.take h m hm).congr' fun j i hj hi => ?_
  rw [getD_take l M.nd0 m j hj]

theorem make_ok {n : Int} {ps : List Int} (h : M.makeE n ps = 0) : ∃ k : Nat, n = (k : Int) ∧ 1 ≤ k ∧ k ≤ 12 ∧ ps.length ≤ 23 ∧ M.make n ps = M.makeL k ps := by
  have h0 := h
  unfold M.makeE at h
  split at h
  · exact absurd h (by decide)
  rename_i h1
  split at h
  · exact absurd h (by decide)
  rename_i h2
  have hf := (M.fewParts_iff n).1 (by simpa using h1)
  refine ⟨n.toNat, by omega, by omega, by omega, by omega, ?_⟩
  rw [M.make, if_pos h0]

/-- what Make has made, in a variable -/
theorem make_v (n : Int) (picks : List Int) (pa : Option Addr) (pc : Nat) (w : World) (hp : IntsAt w (.slice pa picks.length pc) picks) :
    Calls Try.prog 6 #[.int .i64 n, .slice pa picks.length pc] w fun e w' => Below w.heap.size w w' ∧ ∃ a c, e = .returned (.tuple #[.slice a (M.make n picks).length c, .int .i64 (M.makeE n picks)]) ∧ NodesAt w' (.slice a (M.make n picks).length c) (M.make n picks) ∧ (M.make n picks).length ≤ c :=
  (make_any n picks pa pc w hp).mono fun e w' ⟨h1, v, h2, h3⟩ => by
    have hc : ∃ a c, v = .slice a (M.make n picks).length c ∧ (M.make n picks).length ≤ c := by
      rcases h3.2 with ⟨e1, e2⟩ | ⟨g, cap, cur, e1, _, _, e2, _⟩
      · exact ⟨none, 0, by rw [e1, e2], by omega⟩
      · exact ⟨_, _, e1, e2⟩
    obtain ⟨a, c, rfl, hle⟩ := hc
    exact ⟨h1, a, c, h2, row_nodes h3, hle⟩

set_option maxHeartbeats 8000000 in
set_option maxRecDepth 100000 in
theorem makes_law (n : Int) (picks more : List Int) (a1 a2 : Option Addr) (c1 c2 : Nat) (w : World) (h1 : IntsAt w (.slice a1 picks.length c1) picks) (hc1 : picks.length ≤ c1) (h2 : IntsAt w (.slice a2 more.length c2) more) (hm : more.length ≤ 17592186044000) :
    Calls Try.prog 3 #[.int .i64 n, .slice a1 picks.length c1, .slice a2 more.length c2] w fun e w' => e = .returned (.bool true) ∧ Below w.heap.size w w' := by
  have KM := make_v n picks a1 c1 w h1
  by_cases hE : M.makeE n picks = 0
  · obtain ⟨k, rfl, hk1, hk12, hp23, hmk⟩ := make_ok hE
    rw [hE, hmk] at KM
    have HT : Hid (M.IsT k (M.makeL k picks) 0 (M.rise 0 k)) := M.makeL_t k picks hk1
    have HM2 : Hid (M.makeL k picks = M.makeL k (picks.take (k - 1)) ∨ picks.length < k - 1) := by
      by_cases hl : picks.length < k - 1
      · exact .inr hl
      · left
        have := M.make_more k (picks.take (k - 1)) (picks.drop (k - 1)) hk1 (by simp; omega)
        rwa [List.take_append_drop] at this
    have hsz := M.t_size HT.out
    generalize hL : M.makeL k picks = l at *
    have KM : Hid (Calls Try.prog 6 #[.int .i64 k, .slice a1 picks.length c1] w fun e w' => Below w.heap.size w w' ∧ ∃ a c, e = .returned (.tuple #[.slice a l.length c, .int .i64 0]) ∧ NodesAt w' (.slice a l.length c) l ∧ l.length ≤ c) := KM
    have HK1 : Hid (M.checkPlan l k = 0) := M.t_check HT.out hk1 hk12
    have HK2 : Hid (M.checkPlan l ((k : Int) + 1) ≠ 0) := M.t_other HT.out _ (by omega)
    have HK3 : Hid (M.checkPlan (l.take (l.length - 1)) k ≠ 0) := M.t_less HT.out (fun x hx => (M.rise_0 hx).1) k
    have HI : Hid (∀ W, Below w.heap.size w W → IntsAt W (.slice a1 picks.length c1) picks ∧ IntsAt W (.slice a2 more.length c2) more) := fun W hW => ⟨h1.later hW, h2.later hW⟩
    have hpm : picks.length ≤ 2 ^ 63 - 1 := by omega
    clear h1 h2 hE hmk HT hL
    go_enter Try.func3, Try.ntmps3
    go_upto_region 2 with (go_at_call 6; refine KM.out.mono ?_; rintro e w1 ⟨hb1, a3, c3, rfl, hN, hc3⟩)
    have HB1 : Hid (Below w.heap.size w w1) := hb1
    have HN1 : Hid (NodesAt w1 (.slice a3 l.length c3) l) := hN
    clear hb1 hN KM
    have KP : Hid (∀ W, Calls Try.prog 7 #[] W fun e w' => e = .returned (.bool true) ∧ Below W.heap.size W w') := fun W => planned_true W
    go_upto_region 4 with (go_at_call 7; refine (KP.out _).mono ?_; rintro e w2 ⟨rfl, hb2⟩)
    have HB2 : Hid (Below w.heap.size w w2) := HB1.out.trans (hb2.mono HB1.out.size)
    have HN2 : Hid (NodesAt w2 (.slice a3 l.length c3) l) := HN1.out.later hb2
    clear hb2 HB1 HN1 KP
    have HC1 : Hid (Calls Try.prog 8 #[.slice a3 l.length c3, .int .i64 k] w2 fun e w' => e = .returned (.int .i64 0) ∧ Below w2.heap.size w2 w') := (planCheck_any l k a3 c3 w2 HN2.out).mono fun e w' ⟨h1, h2⟩ => ⟨by rw [h1, HK1.out], h2⟩
    generalize hy2 : M.checkPlan l ((k : Int) + 1) = y2 at HK2
    generalize hy3 : M.checkPlan (l.take (l.length - 1)) k = y3 at HK3
    have HC2 : Hid (∀ W, Below w2.heap.size w2 W → Calls Try.prog 8 #[.slice a3 l.length c3, .int .i64 ((k : Int) + 1)] W fun e w' => e = .returned (.int .i64 y2) ∧ Below w2.heap.size w2 w') := fun W hW => (planCheck_any l _ a3 c3 W (HN2.out.later hW)).mono fun e w' ⟨h1, h2⟩ => ⟨by rw [h1, hy2], hW.trans (h2.mono hW.size)⟩
    obtain ⟨m, hlm⟩ : ∃ m, l.length = m + 1 := ⟨l.length - 1, by omega⟩
    have hlt : (l.take (l.length - 1)).length = m := by simp; omega
    have HC3 : Hid (∀ W, Below w2.heap.size w2 W → Calls Try.prog 8 #[.slice a3 m c3, .int .i64 k] W fun e w' => e = .returned (.int .i64 y3) ∧ Below w2.heap.size w2 w') := fun W hW => by
      have hn := NodesAt.take (HN2.out.later hW) (l.length - 1) (by omega)
      have := planCheck_any (l.take (l.length - 1)) k a3 c3 W (by rw [hlt]; rw [show l.length - 1 = m by omega] at hn ⊢; exact hn)
      rw [hlt] at this
      exact this.mono fun e w' ⟨h1, h2⟩ => ⟨by rw [h1, hy3], hW.trans (h2.mono hW.size)⟩
    have hb2' : (y2 == 0) = false := by simpa using HK2.out
    have hb3' : (y3 == 0) = false := by simpa using HK3.out
    have hms : ((l.length : Int) - 1) = (m : Int) := by omega
    have hm0 : (0 : Int) ≤ (m : Int) := by omega
    have hmc : (m : Int) ≤ (c3 : Int) := by omega
    have hmc' : m ≤ c3 := by omega
    have h2k : ((l.length : Int) != 2 * (k : Int) - 1) = false := by simp; omega
    clear hlm hlt hy2 hy3 HK1 HK2 HK3
    go_upto_region 6 with (first | (go_at_call 8; refine (HC3.out _ hb4).mono ?_; rintro e w5 ⟨rfl, hb5⟩) | (go_at_call 8; refine (HC2.out _ hb3).mono ?_; rintro e w4 ⟨rfl, hb4⟩) | (go_at_call 8; refine HC1.out.mono ?_; rintro e w3 ⟨rfl, hb3⟩))
    have HB5 : Hid (Below w.heap.size w w5) := HB2.out.trans (hb5.mono HB2.out.size)
    have HN5 : Hid (NodesAt w5 (.slice a3 l.length c3) l) := HN2.out.later hb5
    clear HC1 HC2 HC3 hb3 hb4 hb5 HB2 HN2 hb2' hb3' hms hm0 hmc hmc' h2k
    obtain ⟨m2, hm2⟩ : ∃ m2 : Nat, k = m2 + 1 := ⟨k - 1, by omega⟩
    have hks : ((k : Int) - 1) = (m2 : Int) := by omega
    by_cases hpl : picks.length < m2
    · have hpl' : (picks.length : Int) < (m2 : Int) := by omega
      clear hm2
      go_wp2_with fail
      go_ret
      exact ⟨rfl, HB5.out⟩
    · have hpl' : ¬ (picks.length : Int) < (m2 : Int) := by omega
      have hm2c : (m2 : Int) ≤ (c1 : Int) := by omega
      have hm20 : (0 : Int) ≤ (m2 : Int) := by omega
      obtain ⟨zs, hzs⟩ : ∃ zs, zs = picks.take m2 ++ more := ⟨_, rfl⟩
      have HZ : Hid (M.makeL k zs = l) := by
        rcases HM2.out with h | h
        · rw [Hid, hzs, M.make_more k _ _ hk1 (by simp; omega), h, show k - 1 = m2 by omega]
        · omega
      have hxl : (picks.take m2).length = m2 := by simp; omega
      have hA5 : Below w5.heap.size w5 (w5.alloc (.cells #[.slice a1 m2 c1, .slice a2 more.length c2] 22)) := (Below.refl _ _).alloc (Nat.le_refl _) _
      have HA5 : Hid (Below w5.heap.size w5 (w5.alloc (.cells #[.slice a1 m2 c1, .slice a2 more.length c2] 22))) := hA5
      have KC : Hid (Calls Try.prog 9 #[.slice (some ⟨w5.heap.size, 0, none⟩) 2 2] (w5.alloc (.cells #[.slice a1 m2 c1, .slice a2 more.length c2] 22)) fun e w' => Below w5.heap.size w5 w' ∧ ∃ a c, e = .returned (.slice a zs.length c) ∧ IntsAt w' (.slice a zs.length c) zs) := by
        obtain ⟨i1, i2⟩ := HI.out w5 HB5.out
        have hx := (i1.later hA5).take m2 (by omega)
        have := concatI_any (picks.take m2) more a1 a2 c1 c2 w5.heap.size (w5.alloc (.cells #[.slice a1 m2 c1, .slice a2 more.length c2] 22)) (by rw [hxl]; exact hx) (i2.later hA5) (by omega) hm (by rw [hxl]; exact heap_alloc_new _ _)
        refine this.mono fun e w' ⟨g1, v, g2, g3⟩ => ⟨hA5.trans (g1.mono hA5.size), ?_⟩
        rw [← hzs] at g3
        obtain ⟨a, c, rfl⟩ := own_len g3
        exact ⟨a, c, g2, row_ints g3⟩
      have KMk : Hid (∀ W a c, IntsAt W (.slice a zs.length c) zs → Calls Try.prog 6 #[.int .i64 k, .slice a zs.length c] W fun e w' => Below W.heap.size W w' ∧ ∃ a c, e = .returned (.tuple #[.slice a (M.make k zs).length c, .int .i64 (M.makeE k zs)]) ∧ NodesAt w' (.slice a (M.make k zs).length c) (M.make k zs) ∧ (M.make k zs).length ≤ c) := fun W a c h => make_v k zs a c W h
      have HE : Hid (M.makeE k zs = if 23 < zs.length then 2 else 0) := by
        rw [Hid, M.makeE, if_neg (by rw [(M.fewParts_iff (k : Int)).2 (by omega)]; simp)]
      have HMk : Hid (M.makeE k zs = 0 → M.make k zs = l) := fun h => by
        rw [M.make, if_pos h, Int.toNat_natCast]; exact HZ.out
      clear hzs HZ HM2 hm2 hA5 HI hxl
      generalize M.makeE k zs = er at *
      generalize M.make k zs = l2 at *
      generalize zs.length = nz at *
      go_upto_region 9 with (first | (go_at_call 9; refine KC.out.mono ?_; rintro e w6 ⟨hb6, a6, c6, rfl, hi6⟩) | (go_at_call 6; refine (KMk.out _ _ _ hi6).mono ?_; rintro e w7 ⟨hb7, a7, c7, rfl, hN7, hc7⟩))
      have hb57 : Below w5.heap.size w5 w7 := hb6.trans (hb7.mono hb6.size)
      have HB7 : Hid (Below w.heap.size w w7) := HB5.out.trans (hb57.mono HB5.out.size)
      have HN7 : Hid (NodesAt w7 (.slice a3 l.length c3) l) := HN5.out.later hb57
      have Hl2 : Hid (NodesAt w7 (.slice a7 l2.length c7) l2) := hN7
      clear KC KMk hb6 hb7 hi6 hb57 HN5 HB5 hN7 HA5
      by_cases hnz : 23 < nz
      · have her : er = 2 := by rw [HE.out, if_pos hnz]
        subst her
        clear HE HMk
        go_wp2_with fail
        go_ret
        exact ⟨rfl, HB7.out⟩
      · have her : er = 0 := by rw [HE.out, if_neg hnz]
        subst her
        have hl2 := HMk.out rfl
        subst hl2
        have KE : Hid (Calls Try.prog 10 #[.slice a3 l2.length c3, .slice a7 l2.length c7] w7 fun e w' => e = .returned (.bool true) ∧ Below w7.heap.size w7 w') := (eqNodes_any l2 l2 a3 a7 c3 c7 w7 HN7.out Hl2.out).mono fun e w' ⟨g1, g2⟩ => ⟨by rw [g1, sameNd_self], g2⟩
        clear HE HMk
        go_wp2_with (go_at_call 10; refine KE.out.mono ?_; rintro e w8 ⟨rfl, hb8⟩)
        go_ret
        exact ⟨rfl, HB7.out.trans (hb8.mono HB7.out.size)⟩
  · have hne : (M.makeE n picks != 0) = true := by simpa using hE
    generalize M.makeE n picks = er at *
    generalize M.make n picks = l at *
    have KM : Hid (Calls Try.prog 6 #[.int .i64 n, .slice a1 picks.length c1] w fun e w' => Below w.heap.size w w' ∧ ∃ a c, e = .returned (.tuple #[.slice a l.length c, .int .i64 er]) ∧ NodesAt w' (.slice a l.length c) l ∧ l.length ≤ c) := KM
    have KP : Hid (∀ W, Calls Try.prog 7 #[] W fun e w' => e = .returned (.bool true) ∧ Below W.heap.size W w') := fun W => planned_true W
    clear h1 h2 hE
    go_enter Try.func3, Try.ntmps3
    go_upto_region 2 with (go_at_call 6; refine KM.out.mono ?_; rintro e w1 ⟨hb1, a3, c3, rfl, hN, hc3⟩)
    have HB1 : Hid (Below w.heap.size w w1) := hb1
    clear hb1 hN KM
    go_upto_region 3 with (go_at_call 7; refine (KP.out _).mono ?_; rintro e w2 ⟨rfl, hb2⟩)
    go_wp2_with (go_at_call 7; refine (KP.out _).mono ?_; rintro e w3 ⟨rfl, hb3⟩)
    go_ret
    exact ⟨rfl, HB1.out.trans ((hb2.trans (hb3.mono hb2.size)).mono HB1.out.size)⟩

end Go.Proofs.Ytohcimggpmcaeaa
