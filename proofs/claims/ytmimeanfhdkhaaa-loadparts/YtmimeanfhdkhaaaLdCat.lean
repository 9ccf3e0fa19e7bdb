/-
  The contracts of slices.Grow and slices.Concat at bytes.
-/
import Derived.Test.YtmimeanfhdkhaaaLdSaysLaw
import Derived.Test.YtmimeanfhdkhaaaLdShelf
import Derived.Test.YtmimeanfhdkhaaaAppendSrc
namespace Go.Proofs.Ytmimeanfhdkhaaa
open Go Go.RowKit Go.Shelf
set_option linter.unusedVariables false

def upToB (xs ys : List Int) (k : Nat) : List Int := if k = 0 then [] else if k = 1 then xs else xs ++ ys
theorem bytesL_src {w : World} {v : Value} {bs : List Int} (h : BytesAt w v bs) : Src w v bs.length (encB bs) :=
  h.1.src (by decide) _ (by simp [encB]) (fun j i hj hi => by
    obtain rfl : i = 0 := by omega
    unfold encB
    rw [Nat.mul_one, Nat.add_zero, List.getElem?_map, getElem?_getD bs 0 j hj]; rfl)
theorem encB_one (l : List Int) : ∀ u ∈ encB l, u.oneCell' = true := fun u hu => by
  obtain ⟨b, _, rfl⟩ := List.mem_map.1 hu
  rfl
theorem encB_app (xs ys : List Int) : encB (xs ++ ys) = encB xs ++ encB ys := List.map_append
theorem encB_len (xs : List Int) : (encB xs).length = xs.length := List.length_map _

theorem growB_own (n : Nat) (w : World) (hn : n ≤ 100000) :
    Calls Try.prog 32 #[.slice none 0 0, .int .i64 n] w fun e w' => Below w.heap.size w w' ∧ ∃ v, e = .returned v ∧ w'.ownsRow w.heap.size 5 1 v 0 [] := by
  obtain ⟨i0, hi, hz0, hz1, hz2⟩ := info_parts (P := Try.prog) (e := 5) (z := .int .u8 0) (size := 1) (bytes := 1) (by kernel_rfl)
  by_cases h0 : n = 0
  · subst h0
    exact (Any8.slices_Grow_room Try.growB none 0 0 0 w (Nat.le_refl _) (by omega) (by omega) (Nat.le_refl _)).mono fun e w' ⟨he, hw⟩ => ⟨by rw [hw]; exact Below.refl _ _, _, he, World.ownsRow_nil _ _ _ _⟩
  · refine (Any8.slices_Grow_grow Try.growB i0 (.int .u8 0) hi hz0 (by omega) none 0 0 n [] w (Nat.le_refl _) (by omega) (by rw [hz2]; omega) (by omega) (by simp) (fun _ => rfl) (fun a ha => by cases ha)).mono fun e w' ⟨he, hw⟩ => ?_
    refine ⟨by rw [hw]; exact ((Below.refl _ _).drew).alloc (Nat.le_refl _) _, _, he, ?_⟩
    have hge := grownCap_ge w (0 + n) 0 (Try.growB_ren.t 25)
    have hmx := grownCap_le_maxLen w (0 + n) 0 (Try.growB_ren.t 25) (by unfold maxLen; omega)
    rw [hw]
    refine ⟨rfl, .inr ⟨_, _, _, rfl, Nat.le_refl _, heap_alloc_new w.drew _, Nat.zero_le _, hmx, ?_, by simp⟩⟩
    rw [Nat.zero_add] at hge hmx
    have hz : ∀ k, (Builtin.zeroCells (Value.cells (.int .u8 0)) k).size = k := fun k => by
      simp [Builtin.zeroCells, Value.cells]
    simp only [Array.size_append, hz]
    simp
    omega


set_option maxHeartbeats 4000000 in
set_option maxRecDepth 100000 in
theorem concatB_any (xs ys : List Int) (ax ay : Option Addr) (cx cy b : Nat) (w : World) (hx : BytesAt w (.slice ax xs.length cx) xs) (hy : BytesAt w (.slice ay ys.length cy) ys) (lx : xs.length ≤ 1000) (ly : ys.length ≤ 1000)
    (q : w.heap[b]? = some (.cells #[.slice ax xs.length cx, .slice ay ys.length cy] 28 (0, 0))) :
    Calls Try.prog 15 #[.slice (some ⟨b, 0, none⟩) 2 2] w fun e w' => Below w.heap.size w w' ∧ ∃ v, e = .returned v ∧ w'.ownsRow w.heap.size 5 1 v (xs ++ ys).length (encB (xs ++ ys)) := by
  obtain ⟨i0, hi, hz0, hz1, hz2⟩ := info_parts (P := Try.prog) (e := 5) (z := .int .u8 0) (size := 1) (bytes := 1) (by kernel_rfl)
  have c0 : w.cell? ⟨b, 0, none⟩ = some (.slice ax xs.length cx) := cellB q 0
  have c1 : w.cell? ⟨b, 1, none⟩ = some (.slice ay ys.length cy) := cellB q 1
  have hb : b < w.heap.size := (Array.getElem?_eq_some_iff.1 q).1
  go_enter Try.func15, Try.ntmps15
  go_wp2_with fail
  go_loopw [3, 11] (fun s3 s11 wr => ∃ (k : Nat), k ≤ 2 ∧ s11 = .int .i64 k ∧ s3 = .int .i64 ((upToB xs ys k).length : Nat) ∧ wr = w) (fun _ s11 _ => 2 - (intOf s11).toNat)
  case atStart => exact ⟨0, by omega, rfl, rfl, rfl⟩
  case round =>
    obtain ⟨k, hk, rfl, rfl, hwr⟩ := hrel
    have hwr : w = wr := hwr.symm
    subst hwr
    rcases (by omega : k = 0 ∨ k = 1 ∨ k = 2) with rfl | rfl | rfl
    · have e0 : upToB xs ys 0 = [] := rfl
      rw [e0]
      have hneg : ¬ ((xs.length : Int) < 0) := by omega
      go_wp2
      go_roundw
      case rel => exact ⟨1, by omega, by go_num, by simp [upToB], by trivial⟩
      case measure => simp [intOf]
    · have e0 : upToB xs ys 1 = xs := rfl
      rw [e0]
      have hneg : ¬ ((xs.length : Int) + (ys.length : Int) < 0) := by omega
      go_wp2
      go_roundw
      case rel => exact ⟨2, by omega, by go_num, by simp [upToB], by trivial⟩
      case measure => simp [intOf]
    · have e0 : upToB xs ys 2 = xs ++ ys := rfl
      rw [e0]
      obtain ⟨n, hn⟩ : ∃ n, (xs ++ ys).length = n := ⟨_, rfl⟩
      have hn1 : n ≤ 100000 := by rw [← hn, List.length_append]; omega
      rw [hn]
      clear hn
      have KG : Hid (Calls Try.prog 32 #[.slice none 0 0, .int .i64 n] w fun e w' => Below w.heap.size w w' ∧ ∃ v, e = .returned v ∧ w'.ownsRow w.heap.size 5 1 v 0 []) := growB_own n w hn1
      go_upto_region 11 with (go_at_call 32; refine KG.out.mono ?_; rintro e w1 ⟨hb1, v1, rfl, ho1⟩)
      clear KG c0 c1
      go_loopw [6, 27] (fun s6 s27 wi => ∃ (k : Nat), k ≤ 2 ∧ s27 = .int .i64 k ∧ wi.ownsRow w.heap.size 5 1 s6 (upToB xs ys k).length (encB (upToB xs ys k)) ∧ Hid (Below w.heap.size w wi)) (fun _ s27 _ => 2 - (intOf s27).toNat)
      case atStart => exact ⟨0, by omega, rfl, ho1, hb1⟩
      case round =>
        obtain ⟨k, hk, rfl, hown, HB⟩ := hrel
        clear ho1 hb1 e0
        have hw0 : w.heap.size ≤ wr.heap.size := HB.out.size
        have hbr : b < wr.heap.size := by omega
        have q' := (HB.out.block _ hb).trans q
        have c0 : wr.cell? ⟨b, 0, none⟩ = some (.slice ax xs.length cx) := cellB q' 0
        have c1 : wr.cell? ⟨b, 1, none⟩ = some (.slice ay ys.length cy) := cellB q' 1
        have sx := bytesL_src (hx.later HB.out)
        have sy := bytesL_src (hy.later HB.out)
        rcases (by omega : k = 0 ∨ k = 1 ∨ k = 2) with rfl | rfl | rfl
        · have e0 : upToB xs ys 0 = [] := rfl
          rw [e0] at hown
          obtain ⟨a5, n5, c5, rfl⟩ := own_form hown
          go_wp2_with (at_builtin; refine wpList_append_src _ rfl _ _ 28 rfl w.heap.size 5 i0 (.int .u8 0) 1 1 Try.underlying28 hi hz0 hz1 hz2 rfl (by decide) _ _ _ rfl hown _ xs.length (encB xs) rfl sx (by simp [encB]) (encB_one xs) (by unfold maxLen; simp; omega) (by simp; omega) hw0 ?_; intro v3 w3 ho3 hg3)
          have hb3 : Below w.heap.size w w3 := HB.out.grown hg3 hw0 (fun k hk => (hown.lt k hk).1)
          obtain ⟨a6, n6, c6, rfl⟩ := own_form ho3
          go_roundw
          case rel => exact ⟨1, by omega, by go_num, by simpa [upToB, encB] using ho3, hb3⟩
          case measure => simp [intOf]
        · have e0 : upToB xs ys 1 = xs := rfl
          rw [e0] at hown
          obtain ⟨a5, n5, c5, rfl⟩ := own_form hown
          go_wp2_with (at_builtin; refine wpList_append_src _ rfl _ _ 28 rfl w.heap.size 5 i0 (.int .u8 0) 1 1 Try.underlying28 hi hz0 hz1 hz2 rfl (by decide) _ _ _ rfl hown _ ys.length (encB ys) rfl sy (by simp [encB]) (encB_one ys) (by unfold maxLen; omega) (by omega) hw0 ?_; intro v3 w3 ho3 hg3)
          have hb3 : Below w.heap.size w w3 := HB.out.grown hg3 hw0 (fun k hk => (hown.lt k hk).1)
          obtain ⟨a6, n6, c6, rfl⟩ := own_form ho3
          go_roundw
          case rel => exact ⟨2, by omega, by go_num, by simpa [upToB, encB] using ho3, hb3⟩
          case measure => simp [intOf]
        · have e0 : upToB xs ys 2 = xs ++ ys := rfl
          rw [e0] at hown
          obtain ⟨a5, n5, c5, rfl⟩ := own_form hown
          go_wp2
          go_ret
          exact ⟨HB.out, _, rfl, hown⟩


end Go.Proofs.Ytmimeanfhdkhaaa
