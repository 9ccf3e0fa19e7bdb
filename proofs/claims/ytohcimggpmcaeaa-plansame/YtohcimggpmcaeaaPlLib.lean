/-
  The contracts of slices.Grow, slices.Concat, slices.IsSorted at integers; of the law's own 'at'.
-/
import Derived.Test.YtohcimggpmcaeaaPlEq
import Derived.Test.YtohcimggpmcaeaaRowsB
import Derived.BigQuiet
namespace Go.Proofs.Ytohcimggpmcaeaa
open Go Go.RowKit Go.Shelf
set_option linter.unusedVariables false
attribute [local go_sem] lat_cell

def encI (l : List Int) : List Value := l.map (Value.int .i64)
def upToI (xs ys : List Int) (k : Nat) : List Int := if k = 0 then [] else if k = 1 then xs else xs ++ ys
theorem ints_src {w : World} {v : Value} {bs : List Int} (h : IntsAt w v bs) : Src w v bs.length (encI bs) :=
  SlAt.src h (by decide) _ (by simp [encI]) (fun j i hj hi => by
    obtain rfl : i = 0 := by omega
    unfold encI
    rw [Nat.mul_one, Nat.add_zero, List.getElem?_map, getElem?_getD bs 0 j hj]; rfl)
theorem encI_one (l : List Int) : ∀ u ∈ encI l, u.oneCell' = true := fun u hu => by
  obtain ⟨b, _, rfl⟩ := List.mem_map.1 hu
  rfl

theorem growI_own (n : Nat) (w : World) (hn : n ≤ 17592186044416) :
    Calls Try.prog 26 #[.slice none 0 0, .int .i64 n] w fun e w' => Below w.heap.size w w' ∧ ∃ v, e = .returned v ∧ w'.ownsRow w.heap.size 3 1 v 0 [] := by
  obtain ⟨i0, hi, hz0, hz1, hz2⟩ := info_parts (P := Try.prog) (e := 3) (z := .int .i64 0) (size := 1) (bytes := 8) (by kernel_rfl)
  by_cases h0 : n = 0
  · subst h0
    exact (Any8.slices_Grow_room Try.growI none 0 0 0 w (Nat.le_refl _) (by omega) (by omega) (Nat.le_refl _)).mono fun e w' ⟨he, hw⟩ => ⟨by rw [hw]; exact Below.refl _ _, _, he, World.ownsRow_nil _ _ _ _⟩
  · refine (Any8.slices_Grow_grow Try.growI i0 (.int .i64 0) hi hz0 (by omega) none 0 0 n [] w (Nat.le_refl _) (by omega) (by rw [hz2]; omega) (by omega) (by simp) (fun _ => rfl) (fun a ha => by cases ha)).mono fun e w' ⟨he, hw⟩ => ?_
    refine ⟨by rw [hw]; exact ((Below.refl _ _).drew).alloc (Nat.le_refl _) _, _, he, ?_⟩
    have hge := grownCap_ge w (0 + n) 0 (Try.growI_ren.t 25)
    have hmx := grownCap_le_maxLen w (0 + n) 0 (Try.growI_ren.t 25) (by unfold maxLen; omega)
    rw [hw]
    refine ⟨rfl, .inr ⟨_, _, _, rfl, Nat.le_refl _, heap_alloc_new w.drew _, Nat.zero_le _, hmx, ?_, by simp⟩⟩
    rw [Nat.zero_add] at hge hmx
    have hz : ∀ k, (Builtin.zeroCells (Value.cells (.int .i64 0)) k).size = k := fun k => by
      simp [Builtin.zeroCells, Value.cells]
    simp only [Array.size_append, hz]
    simp
    omega

set_option maxHeartbeats 4000000 in
set_option maxRecDepth 100000 in
theorem concatI_any (xs ys : List Int) (ax ay : Option Addr) (cx cy b : Nat) (w : World) (hx : IntsAt w (.slice ax xs.length cx) xs) (hy : IntsAt w (.slice ay ys.length cy) ys) (lx : xs.length ≤ 100) (ly : ys.length ≤ 17592186044000)
    (q : w.heap[b]? = some (.cells #[.slice ax xs.length cx, .slice ay ys.length cy] 22 (0, 0))) :
    Calls Try.prog 9 #[.slice (some ⟨b, 0, none⟩) 2 2] w fun e w' => Below w.heap.size w w' ∧ ∃ v, e = .returned v ∧ w'.ownsRow w.heap.size 3 1 v (xs ++ ys).length (encI (xs ++ ys)) := by
  obtain ⟨i0, hi, hz0, hz1, hz2⟩ := info_parts (P := Try.prog) (e := 3) (z := .int .i64 0) (size := 1) (bytes := 8) (by kernel_rfl)
  have c0 : w.cell? ⟨b, 0, none⟩ = some (.slice ax xs.length cx) := cellB q 0
  have c1 : w.cell? ⟨b, 1, none⟩ = some (.slice ay ys.length cy) := cellB q 1
  have hb : b < w.heap.size := (Array.getElem?_eq_some_iff.1 q).1
  go_enter Try.func9, Try.ntmps9
  go_wp2_with fail
  go_loopw [3, 11] (fun s3 s11 wr => ∃ (k : Nat), k ≤ 2 ∧ s11 = .int .i64 k ∧ s3 = .int .i64 ((upToI xs ys k).length : Nat) ∧ wr = w) (fun _ s11 _ => 2 - (intOf s11).toNat)
  case atStart => exact ⟨0, by omega, rfl, rfl, rfl⟩
  case round =>
    obtain ⟨k, hk, rfl, rfl, hwr⟩ := hrel
    have hwr : w = wr := hwr.symm
    subst hwr
    rcases (by omega : k = 0 ∨ k = 1 ∨ k = 2) with rfl | rfl | rfl
    · have e0 : upToI xs ys 0 = [] := rfl
      rw [e0]
      have hneg : ¬ ((xs.length : Int) < 0) := by omega
      go_wp2
      go_roundw
      case rel => exact ⟨1, by omega, by go_num, by simp [upToI], by trivial⟩
      case measure => simp [intOf]
    · have e0 : upToI xs ys 1 = xs := rfl
      rw [e0]
      have hneg : ¬ ((xs.length : Int) + (ys.length : Int) < 0) := by omega
      go_wp2
      go_roundw
      case rel => exact ⟨2, by omega, by go_num, by simp [upToI], by trivial⟩
      case measure => simp [intOf]
    · have e0 : upToI xs ys 2 = xs ++ ys := rfl
      rw [e0]
      obtain ⟨n, hn⟩ : ∃ n, (xs ++ ys).length = n := ⟨_, rfl⟩
      have hn1 : n ≤ 17592186044416 := by rw [← hn, List.length_append]; omega
      rw [hn]
      clear hn
      have KG : Hid (Calls Try.prog 26 #[.slice none 0 0, .int .i64 n] w fun e w' => Below w.heap.size w w' ∧ ∃ v, e = .returned v ∧ w'.ownsRow w.heap.size 3 1 v 0 []) := growI_own n w hn1
      go_upto_region 11 with (go_at_call 26; refine KG.out.mono ?_; rintro e w1 ⟨hb1, v1, rfl, ho1⟩)
      clear KG c0 c1
      go_loopw [6, 27] (fun s6 s27 wi => ∃ (k : Nat), k ≤ 2 ∧ s27 = .int .i64 k ∧ wi.ownsRow w.heap.size 3 1 s6 (upToI xs ys k).length (encI (upToI xs ys k)) ∧ Hid (Below w.heap.size w wi)) (fun _ s27 _ => 2 - (intOf s27).toNat)
      case atStart => exact ⟨0, by omega, rfl, ho1, hb1⟩
      case round =>
        obtain ⟨k, hk, rfl, hown, HB⟩ := hrel
        clear ho1 hb1 e0
        have hw0 : w.heap.size ≤ wr.heap.size := HB.out.size
        have hbr : b < wr.heap.size := by omega
        have q' := (HB.out.block _ hb).trans q
        have c0 : wr.cell? ⟨b, 0, none⟩ = some (.slice ax xs.length cx) := cellB q' 0
        have c1 : wr.cell? ⟨b, 1, none⟩ = some (.slice ay ys.length cy) := cellB q' 1
        have sx := ints_src (hx.later HB.out)
        have sy := ints_src (hy.later HB.out)
        rcases (by omega : k = 0 ∨ k = 1 ∨ k = 2) with rfl | rfl | rfl
        · have e0 : upToI xs ys 0 = [] := rfl
          rw [e0] at hown
          obtain ⟨a5, n5, c5, rfl⟩ := own_form hown
          go_wp2_with (at_builtin; refine wpList_append_src _ rfl _ _ 22 rfl w.heap.size 3 i0 (.int .i64 0) 1 8 Try.underlying22 hi hz0 hz1 hz2 rfl (by decide) _ _ _ rfl hown _ xs.length (encI xs) rfl sx (by simp [encI]) (encI_one xs) (by unfold maxLen; simp; omega) (by simp; omega) hw0 ?_; intro v3 w3 ho3 hg3)
          have hb3 : Below w.heap.size w w3 := HB.out.grown hg3 hw0 (fun k hk => (hown.lt k hk).1)
          obtain ⟨a6, n6, c6, rfl⟩ := own_form ho3
          go_roundw
          case rel => exact ⟨1, by omega, by go_num, by simpa [upToI, encI] using ho3, hb3⟩
          case measure => simp [intOf]
        · have e0 : upToI xs ys 1 = xs := rfl
          rw [e0] at hown
          obtain ⟨a5, n5, c5, rfl⟩ := own_form hown
          go_wp2_with (at_builtin; refine wpList_append_src _ rfl _ _ 22 rfl w.heap.size 3 i0 (.int .i64 0) 1 8 Try.underlying22 hi hz0 hz1 hz2 rfl (by decide) _ _ _ rfl hown _ ys.length (encI ys) rfl sy (by simp [encI]) (encI_one ys) (by unfold maxLen; omega) (by omega) hw0 ?_; intro v3 w3 ho3 hg3)
          have hb3 : Below w.heap.size w w3 := HB.out.grown hg3 hw0 (fun k hk => (hown.lt k hk).1)
          obtain ⟨a6, n6, c6, rfl⟩ := own_form ho3
          go_roundw
          case rel => exact ⟨2, by omega, by go_num, by simpa [upToI, encI] using ho3, hb3⟩
          case measure => simp [intOf]
        · have e0 : upToI xs ys 2 = xs ++ ys := rfl
          rw [e0] at hown
          obtain ⟨a5, n5, c5, rfl⟩ := own_form hown
          go_wp2
          go_ret
          exact ⟨HB.out, _, rfl, hown⟩

theorem isNaN_any (x : Int) (w : World) : Calls Try.prog 36 #[.int .i64 x] w fun e w' => e = .returned (.bool false) ∧ w = w' := by
  go_enter Try.func36, Try.ntmps36
  go_wp2
  go_ret
  exact ⟨by simp, rfl⟩
theorem less_any (x y : Int) (w : World) : Calls Try.prog 27 #[.int .i64 x, .int .i64 y] w fun e w' => e = .returned (.bool (decide (x < y))) ∧ w = w' := by
  have KN : Hid (∀ x, Calls Try.prog 36 #[.int .i64 x] w fun e w' => e = .returned (.bool false) ∧ w = w') := fun x => isNaN_any x w
  go_enter Try.func27, Try.ntmps27
  go_wp2_with (go_at_call 36; refine (KN.out _).mono ?_; rintro e w1 ⟨rfl, rfl⟩)
  go_ret
  exact ⟨rfl, rfl⟩

/-- a rising row is called sorted -/
theorem sortedI_any (l : List Int) (a : Option Addr) (c : Nat) (w : World) (hl : IntsAt w (.slice a l.length c) l) (hs : ∀ k, k + 1 < l.length → l.getD k 0 ≤ l.getD (k + 1) 0) :
    Calls Try.prog 12 #[.slice a l.length c] w fun e w' => e = .returned (.bool true) ∧ Below w.heap.size w w' := by
  have hlm : l.length ≤ maxLen := by obtain ⟨_, _, _, h⟩ := SlAt.form hl; exact h
  unfold maxLen at hlm
  go_enter Try.func12, Try.ntmps12
  go_wp2_with fail
  go_loopw [3] (fun s3 wr => ∃ (k : Int), s3 = .int .i64 k ∧ -1 ≤ k ∧ k < l.length ∧ Hid (Below w.heap.size w wr)) (fun s3 _ => (intOf s3 + 1).toNat)
  case atStart => exact ⟨(l.length : Int) - 1, rfl, by omega, by omega, Below.refl _ _⟩
  case round =>
    obtain ⟨k, rfl, hk0, hk1, HB⟩ := hrel
    by_cases hpos : 0 < k
    · obtain ⟨m, rfl⟩ : ∃ m : Nat, k = (m : Int) := ⟨k.toNat, by omega⟩
      obtain ⟨j, hj⟩ : ∃ j : Nat, m = j + 1 := ⟨m - 1, by omega⟩
      obtain ⟨b, off, rfl, e0, hb⟩ := (hl.later HB.out).cell m (by omega)
      obtain ⟨b2, off2, he, e1, _⟩ := (hl.later HB.out).cell j (by omega)
      cases he
      have hss := hs j (by omega)
      rw [← hj] at hss
      have hnl : decide (l.getD m 0 < l.getD j 0) = false := decide_eq_false (by omega)
      have KL : Hid (∀ W, Calls Try.prog 27 #[.int .i64 (l.getD m 0), .int .i64 (l.getD j 0)] W fun e w' => e = .returned (.bool false) ∧ w' = W) := fun W => (less_any _ _ W).mono fun e w' ⟨h1, h2⟩ => ⟨by rw [h1, hnl], h2.symm⟩
      have hsub : (m : Int) - 1 = (j : Int) := by omega
      have hj0 : (0 : Int) ≤ (j : Int) := by omega
      have hjl : (j : Int) < (l.length : Int) := by omega
      have hm0 : (0 : Int) ≤ (m : Int) := by omega
      clear hss hnl hl hs hj
      generalize l.getD m 0 = x at *
      generalize l.getD j 0 = y at *
      go_upto_region 4 with fail
      refine wp_region_lat (by kernel_rfl) (by kernel_rfl) ?_
      intro hne
      repeat (go_big_quiet_step ((go_at_call 27; exact lat_of_same (KL.out _))))
      refine wpQuiet_nil ?_
      intro w1 hb1
      have hb2 := lat_out hb1
      clear hb1
      go_wp2_with fail
      go_roundw
      case rel => exact ⟨(m : Int) - 1, by go_num, by omega, by omega, HB.out.trans (hb2.mono HB.out.size)⟩
      case measure => simp [intOf]; omega
    · have hn : ¬ 0 < k := hpos
      go_wp2
      go_ret
      exact ⟨rfl, HB.out⟩

end Go.Proofs.Ytohcimggpmcaeaa
