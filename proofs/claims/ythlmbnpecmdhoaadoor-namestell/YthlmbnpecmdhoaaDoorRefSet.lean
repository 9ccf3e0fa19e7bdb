/-
  The contract of the reference's set: the keys of a set of texts, in rising order, each once.
-/
import Derived.Test.YthlmbnpecmdhoaaDoorNmLib
import Derived.Maps.RangeWalk
import Derived.Maps.OwnSet
import Derived.Sort.KeysCollected
import Derived.Sort.OwnSorted
namespace Go.Proofs.YthlmbnpecmdhoaaDoor
open Go Go.RowKit Go.Maps Go.Sort
set_option linter.unusedVariables false

theorem keyS : Keyed Tryd.prog 9 := string_keyed Tryd.underlying9

theorem sortStrings_own (l : List ByteArray) (B : Nat) (v : Value) (w : World) (h : w.ownsRow B 9 1 v l.length (l.map Value.string)) (hl : l.length ≤ 100000) :
    Calls Tryd.prog 41 #[v] w fun e w' => e = .returned (.tuple #[]) ∧ w.grownBy w' v.ownBlock ∧ w'.ownsRow B 9 1 v l.length ((ordered l).map Value.string) := by
  have KS : Hid (Calls Tryd.prog 36 #[v] w _) := sort_own l B v w h hl
  go_enter Tryd.func41, Tryd.ntmps41
  go_wp2_with (go_at_call 36; refine KS.out.mono ?_; rintro e w1 ⟨rfl, hg, ho⟩)
  refine bodyPost_end (v := .tuple #[]) (by simp [results, Tryd.results41, go_sem]) rfl ?_
  exact ⟨rfl, hg, ho⟩

/-- texts in order, none twice, rise -/
theorem ordered_strict {l : List ByteArray} (hn : (l.map M.txt').Nodup) : M.Strict (ordered l) := by
  unfold M.Strict ordered
  rw [List.pairwise_map]
  have hs : ((l.map M.txt').mergeSort fun x y => decide (x ≤ y)).Pairwise fun a b => (decide (a ≤ b)) = true := List.pairwise_mergeSort (fun a b c h1 h2 => by simp only [decide_eq_true_eq] at *; exact List.le_trans h1 h2) (fun a b => by simp only [Bool.or_eq_true, decide_eq_true_eq]; exact List.le_total a b) _
  have hd : ((l.map M.txt').mergeSort fun x y => decide (x ≤ y)).Nodup := (List.mergeSort_perm _ _).nodup_iff.2 hn
  refine (hs.and hd).imp fun {a b} h => ?_
  obtain ⟨h1, h2⟩ := h
  have h1' : a ≤ b := by simpa using h1
  show a < b
  exact Std.lt_of_le_of_ne h1' h2

theorem ordered_mem {l : List ByteArray} (s : ByteArray) : s ∈ ordered l ↔ s ∈ l := by
  unfold ordered
  rw [List.mem_map]
  constructor
  · rintro ⟨t, ht, rfl⟩
    obtain ⟨x, hx, rfl⟩ := List.mem_map.1 ((List.mergeSort_perm _ _).mem_iff.1 ht)
    rwa [M.of_txt]
  · intro h
    exact ⟨M.txt' s, (List.mergeSort_perm _ _).mem_iff.2 (List.mem_map.2 ⟨s, h, rfl⟩), M.of_txt s⟩

theorem plainElem_bool_inv {H : Type} {P : Program} {e : TypeId} (he : P.underlying e = some .bool) {v : Value} {z : DataW H × List MemPlace} (h : plainElem P e v = some z) : ∃ c : Nat, v = .bool (c != 0) := by
  cases v <;> simp [plainElem, he] at h
  rename_i x
  cases x
  · exact ⟨0, rfl⟩
  · exact ⟨1, rfl⟩

set_option maxHeartbeats 2000000 in
set_option maxRecDepth 100000 in
theorem set_any {H : Type} (D0 : DataW H) (b n : Nat) (w : World) (hown : w.ownsMap Tryd.prog 9 (plainElem Tryd.prog 4) b n D0) (hn : n ≤ 10000) :
    Calls Tryd.prog 29 #[.map (some b)] w fun e w' => Below w.heap.size w w' ∧ ∃ (l : List ByteArray) (v : Value), e = .returned v ∧ w'.ownsRow w.heap.size 9 1 v l.length (l.map Value.string) ∧
      M.Strict l ∧ (∀ s, s ∈ l ↔ Maps.has D0 (.string (M.txt' s)) = true) ∧ (∀ s ∈ l, s.size ≤ maxLen) ∧ l.length ≤ n := by
  obtain ⟨i0, hi, hz0, hz1, hz2⟩ := info_parts (P := Tryd.prog) (e := 9) (z := .string ⟨#[]⟩) (size := 1) (bytes := 16) (by kernel_rfl)
  have hbl := hown.lt
  have hsz := hown.size_le
  go_enter Tryd.func29, Tryd.ntmps29
  go_wp2_with (at_range; refine wpList_range_own _ rfl _ 60 rfl 9 4 keyS Tryd.underlying60 _ b n _ rfl hown ?_; intro w0 hrg0 hg0 hs0)
  go_frame
  go_loopw [3] (fun s3 wr => ∃ (left : Lit → Bool) (cnt : Nat) (ss : List (List UInt8)) (v : Value), v = s3 ∧ wr.ranges Tryd.prog 9 (plainElem Tryd.prog 4) b w.heap.size n D0 left cnt ∧ ss.length + cnt ≤ Maps.size D0 ∧
      wr.ownsRow w.heap.size 9 1 v ss.length (ss.map encStr) ∧ Collected D0 left ss ∧ (∀ x ∈ ss, x.length ≤ maxLen) ∧ Below w.heap.size w wr)
    (fun _ wr => wr.rangeLeft b w.heap.size)
  case atStart =>
    exact ⟨_, _, [], _, rfl, hrg0, by simp, World.ownsRow_nil _ _ _ _, Collected.start D0, (fun x hx => by cases hx), (Below.refl _ _).grown hg0 (Nat.le_refl _) (fun j hj => by cases hj)⟩
  case round =>
    obtain ⟨left, cnt, ss, v, rfl, hrg, hcs, hrow, hC, hle, hnx⟩ := hrel
    clear hrg0 hg0 hs0
    go_wp2_with (first
      | (at_next; refine wpList_next_ranges _ rfl _ rfl 9 keyS (plainElem Tryd.prog 4) encStr (fun c : Nat => Value.bool (c != 0)) (fun key kl hk => by obtain ⟨x, hx, _⟩ := Maps.keyOf_str Tryd.underlying9 hk; exact ⟨x, hx⟩) (fun v y hv => plainElem_bool_inv Tryd.underlying4 hv) b w.heap.size n _ _ _ rfl hrg ?_ ?_)
      | go_in)
    · intro hc0 hl0
      have e1 : ss.map encStr = (ss.map M.ofTxt).map Value.string := by rw [List.map_map]; rfl
      have e2 : (ss.map M.ofTxt).map M.txt' = ss := by rw [List.map_map]; exact List.map_id ss
      have hlen : (ss.map M.ofTxt).length = ss.length := List.length_map ..
      rw [e1, ← hlen] at hrow
      have KS : Hid (Calls Tryd.prog 41 #[v] wr _) := sortStrings_own _ _ _ wr hrow (by rw [hlen]; omega)
      have HFin : Hid (M.Strict (ordered (ss.map M.ofTxt)) ∧ (∀ s, s ∈ ordered (ss.map M.ofTxt) ↔ Maps.has D0 (.string (M.txt' s)) = true) ∧ (∀ s ∈ ordered (ss.map M.ofTxt), s.size ≤ maxLen) ∧ (ordered (ss.map M.ofTxt)).length ≤ n) := by
        refine ⟨ordered_strict (by rw [e2]; exact hC.1), fun s => ?_, fun s hs => ?_, by rw [ordered_len, hlen]; omega⟩
        · rw [ordered_mem, List.mem_map]
          constructor
          · rintro ⟨t, ht, rfl⟩
            exact ((hC.2 t).1 ht).1
          · intro h
            exact ⟨M.txt' s, (hC.2 _).2 ⟨h, hl0 _⟩, M.of_txt s⟩
        · rw [ordered_mem, List.mem_map] at hs
          obtain ⟨t, ht, rfl⟩ := hs
          exact (by simpa [M.ofTxt, ByteArray.size] using hle t ht)
      have HNx : Hid (Below w.heap.size w wr) := hnx
      have HRow : Hid (∀ j, v.ownBlock = some j → w.heap.size ≤ j) := fun j hj => (hrow.lt j hj).1
      clear hcs hC hle hnx hrow e1 e2 hlen hrg
      go_wp2_with (go_at_call 41; refine KS.out.mono ?_; rintro e w' ⟨rfl, hg, ho⟩)
      go_ret
      refine ⟨HNx.out.grown hg HNx.out.size (fun j hj => HRow.out j hj), ordered (ss.map M.ofTxt), _, rfl, ?_, HFin.out.1, HFin.out.2.1, HFin.out.2.2.1, HFin.out.2.2.2⟩
      rw [ordered_len]
      exact ho
    · intro x c kl yd yp w2 cnt2 hkey hlk hv hat hrg2 hlt hg2 hs2 hen
      obtain ⟨x', ex, rfl, hxl⟩ := Maps.keyOf_str Tryd.underlying9 hkey
      obtain rfl : x = x' := encStr_inj ex
      have hrow2 := hrow.kept hg2 (Or.inr (row_ne_iter hrow hrg).symm)
      have hz2' : wr.heap.size ≤ w2.heap.size := hg2.size
      have hwr : w.heap.size ≤ wr.heap.size := hnx.size
      clear hs2
      go_wp2_with (first
        | (at_builtin; refine wpList_append_own _ rfl _ _ 26 rfl w.heap.size 9 i0 (.string ⟨#[]⟩) 1 16 Tryd.underlying26 hi hz0 hz1 hz2 rfl (by decide) _ _ _ rfl (hrow2.alloc _) ⟨w2.heap.size, 0, none⟩ 1 1 [encStr x] rfl rfl (cell_one_new _ _ _) (by simp [Value.oneCell', encStr]) (by unfold maxLen at *; omega) (by omega) (by simp; omega) ?_; intro v' w3 hown' hg3 hnil3; go_frame)
        | go_in)
      have hrg3 := (hrg2.alloc _).kept hg3 (row_ne_low hrow2 hbl) (row_ne_iter hrow2 hrg2)
      go_roundw
      case rel =>
        refine ⟨_, cnt2, ss ++ [x], _, rfl, hrg3, by simp; omega, by simpa using hown', hC.step hlk hat, fun y hy => ?_, ?_⟩
        · rcases List.mem_append.1 hy with h | h
          · exact hle y h
          · rw [List.mem_singleton.1 h]; exact hxl
        · exact ((hnx.grown hg2 hnx.size (fun j hj => by cases hj; exact Nat.le_refl _)).alloc (by omega) _).grown hg3 (by simp; omega) (fun j hj => (hrow2.lt j hj).1)
      case measure => rw [hrg3.left_eq, hrg.left_eq]; exact hlt

end Go.Proofs.YthlmbnpecmdhoaaDoor
