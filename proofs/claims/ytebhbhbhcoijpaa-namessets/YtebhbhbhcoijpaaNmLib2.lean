/-
  The contracts of slices.Concat of two rows of texts, of slices.IsSorted, slices.ContainsFunc and slices.DeleteFunc at texts.
-/
import Derived.Test.YtebhbhbhcoijpaaNmLib
namespace Go.Proofs.Ytebhbhbhcoijpaa
open Go Go.RowKit Go.Sort
set_option linter.unusedVariables false

def upTo (xs ys : List ByteArray) (k : Nat) : List ByteArray := if k = 0 then [] else if k = 1 then xs else xs ++ ys

theorem strs_src {w : World} {v : Value} {l : List ByteArray} (h : StrsAt w v l) : Src w v l.length (l.map Value.string) :=
  h.1.src (by decide) _ (by simp) (fun j i hj hi => by
    obtain rfl : i = 0 := by omega
    rw [Nat.mul_one, Nat.add_zero, List.getElem?_map, getElem?_getD l str0 j hj]; rfl)

theorem strs_one (l : List ByteArray) : ∀ u ∈ l.map Value.string, u.oneCell' = true := fun u hu => by
  obtain ⟨b, _, rfl⟩ := List.mem_map.1 hu
  rfl

set_option maxHeartbeats 4000000 in
set_option maxRecDepth 100000 in
theorem concat_any (xs ys : List ByteArray) (ax ay : Option Addr) (cx cy b : Nat) (w : World) (hx : StrsAt w (.slice ax xs.length cx) xs) (hy : StrsAt w (.slice ay ys.length cy) ys) (lx : xs.length ≤ 1000) (ly : ys.length ≤ 1000)
    (q : w.heap[b]? = some (.cells #[.slice ax xs.length cx, .slice ay ys.length cy] 35 (0, 0))) :
    Calls Try.prog 21 #[.slice (some ⟨b, 0, none⟩) 2 2] w fun e w' => Below w.heap.size w w' ∧ ∃ v, e = .returned v ∧ w'.ownsRow w.heap.size 9 1 v (xs ++ ys).length ((xs ++ ys).map Value.string) := by
  obtain ⟨i0, hi, hz0, hz1, hz2⟩ := info_parts (P := Try.prog) (e := 9) (z := .string ⟨#[]⟩) (size := 1) (bytes := 16) (by kernel_rfl)
  have c0 : w.cell? ⟨b, 0, none⟩ = some (.slice ax xs.length cx) := cellB q 0
  have c1 : w.cell? ⟨b, 1, none⟩ = some (.slice ay ys.length cy) := cellB q 1
  have hb : b < w.heap.size := (Array.getElem?_eq_some_iff.1 q).1
  go_enter Try.func21, Try.ntmps21
  go_wp2_with fail
  go_loopw [3, 11] (fun s3 s11 wr => ∃ (k : Nat), k ≤ 2 ∧ s11 = .int .i64 k ∧ s3 = .int .i64 ((upTo xs ys k).length : Nat) ∧ wr = w) (fun _ s11 _ => 2 - (intOf s11).toNat)
  case atStart => exact ⟨0, by omega, rfl, rfl, rfl⟩
  case round =>
    obtain ⟨k, hk, rfl, rfl, hwr⟩ := hrel
    have hwr : w = wr := hwr.symm
    subst hwr
    rcases (by omega : k = 0 ∨ k = 1 ∨ k = 2) with rfl | rfl | rfl
    · have e0 : upTo xs ys 0 = [] := rfl
      rw [e0]
      have hneg : ¬ ((xs.length : Int) < 0) := by omega
      go_wp2
      go_roundw
      case rel => exact ⟨1, by omega, by go_num, by simp [upTo], by trivial⟩
      case measure => simp [intOf]
    · have e0 : upTo xs ys 1 = xs := rfl
      rw [e0]
      have hneg : ¬ ((xs.length : Int) + (ys.length : Int) < 0) := by omega
      go_wp2
      go_roundw
      case rel => exact ⟨2, by omega, by go_num, by simp [upTo], by trivial⟩
      case measure => simp [intOf]
    · have e0 : upTo xs ys 2 = xs ++ ys := rfl
      rw [e0]
      obtain ⟨n, hn⟩ : ∃ n, (xs ++ ys).length = n := ⟨_, rfl⟩
      have hn1 : n ≤ 100000 := by rw [← hn, List.length_append]; omega
      rw [hn]
      clear hn
      have KG : Hid (Calls Try.prog 57 #[.slice none 0 0, .int .i64 n] w fun e w' => Below w.heap.size w w' ∧ ∃ v, e = .returned v ∧ w'.ownsRow w.heap.size 9 1 v 0 []) := grow_own n w hn1
      go_upto_region 11 with (go_at_call 57; refine KG.out.mono ?_; rintro e w1 ⟨hb1, v1, rfl, ho1⟩)
      clear KG c0 c1
      go_loopw [6, 27] (fun s6 s27 wi => ∃ (k : Nat), k ≤ 2 ∧ s27 = .int .i64 k ∧ wi.ownsRow w.heap.size 9 1 s6 (upTo xs ys k).length ((upTo xs ys k).map Value.string) ∧ Hid (Below w.heap.size w wi)) (fun _ s27 _ => 2 - (intOf s27).toNat)
      case atStart => exact ⟨0, by omega, rfl, ho1, hb1⟩
      case round =>
        obtain ⟨k, hk, rfl, hown, HB⟩ := hrel
        clear ho1 hb1 e0
        have hw0 : w.heap.size ≤ wr.heap.size := HB.out.size
        have hbr : b < wr.heap.size := by omega
        have q' := (HB.out.block _ hb).trans q
        have c0 : wr.cell? ⟨b, 0, none⟩ = some (.slice ax xs.length cx) := cellB q' 0
        have c1 : wr.cell? ⟨b, 1, none⟩ = some (.slice ay ys.length cy) := cellB q' 1
        have sx := strs_src (hx.later HB.out)
        have sy := strs_src (hy.later HB.out)
        rcases (by omega : k = 0 ∨ k = 1 ∨ k = 2) with rfl | rfl | rfl
        · have e0 : upTo xs ys 0 = [] := rfl
          rw [e0] at hown
          obtain ⟨a5, n5, c5, rfl⟩ := own_form hown
          go_wp2_with (at_builtin; refine wpList_append_src _ rfl _ _ 35 rfl w.heap.size 9 i0 (.string ⟨#[]⟩) 1 16 Try.underlying35 hi hz0 hz1 hz2 rfl (by decide) _ _ _ rfl hown _ xs.length (xs.map Value.string) rfl sx (by simp) (strs_one xs) (by unfold maxLen; simp; omega) (by simp; omega) hw0 ?_; intro v3 w3 ho3 hg3)
          have hb3 := grown_below HB.out hw0 hown hg3
          obtain ⟨a6, n6, c6, rfl⟩ := own_form ho3
          go_roundw
          case rel => exact ⟨1, by omega, by go_num, by simpa [upTo] using ho3, hb3⟩
          case measure => simp [intOf]
        · have e0 : upTo xs ys 1 = xs := rfl
          rw [e0] at hown
          obtain ⟨a5, n5, c5, rfl⟩ := own_form hown
          go_wp2_with (at_builtin; refine wpList_append_src _ rfl _ _ 35 rfl w.heap.size 9 i0 (.string ⟨#[]⟩) 1 16 Try.underlying35 hi hz0 hz1 hz2 rfl (by decide) _ _ _ rfl hown _ ys.length (ys.map Value.string) rfl sy (by simp) (strs_one ys) (by unfold maxLen; omega) (by omega) hw0 ?_; intro v3 w3 ho3 hg3)
          have hb3 := grown_below HB.out hw0 hown hg3
          obtain ⟨a6, n6, c6, rfl⟩ := own_form ho3
          go_roundw
          case rel => exact ⟨2, by omega, by go_num, by simpa [upTo] using ho3, hb3⟩
          case measure => simp [intOf]
        · have e0 : upTo xs ys 2 = xs ++ ys := rfl
          rw [e0] at hown
          obtain ⟨a5, n5, c5, rfl⟩ := own_form hown
          go_wp2
          go_ret
          exact ⟨HB.out, _, rfl, hown⟩

end Go.Proofs.Ytebhbhbhcoijpaa
