/-
  Sorting and thinning out a row of texts of one's own; the contract of names.rising.
-/
import Derived.Test.YtebhbhbhcoijpaaNmMath
import Derived.Test.YtebhbhbhcoijpaaNmShelf
import Derived.Test.YtebhbhbhcoijpaaPrtFrag
import Derived.Lib.RowBridge
import Derived.Sort.Grow
namespace Go.Proofs.Ytebhbhbhcoijpaa
open Go Go.RowKit Go.Sort
set_option linter.unusedVariables false

theorem heap_ahead (w : World) (q : Nat) : (Sort.ahead w q).heap = w.heap := rfl

theorem putRow_heap (w : World) (g q : Nat) (d : Array (List UInt8)) (os : Array Obj) (k : Nat) (hk : k < w.heap.size) : (grow (putRow encStr (Sort.ahead w q) g 0 d) os).heap[k]? = if g = k then (w.heap[k]?).map (onCells (putCells encStr 0 d)) else w.heap[k]? := by
  unfold grow putRow mapBlock
  simp only [heap_ahead]
  rw [Array.getElem?_append_left (by simpa using hk), Array.getElem?_modify]

theorem grown_put (w : World) (g q : Nat) (d : Array (List UInt8)) (os : Array Obj) : w.grownBy (grow (putRow encStr (Sort.ahead w q) g 0 d) os) (some g) := by
  refine ⟨rfl, rfl, rfl, ?_, fun k hk hne => ?_⟩
  · simp [grow, putRow, mapBlock]
  · rw [putRow_heap w g q d os k hk, if_neg (fun e => hne (by rw [e]))]

theorem take_put (cur : Array Value) (d : List (List UInt8)) (h : d.length ≤ cur.size) : (putCells encStr 0 d.toArray cur).toList.take d.length = d.map encStr := by
  apply List.ext_getElem?
  intro k
  by_cases hk : k < d.length
  · rw [List.getElem?_take, if_pos hk, Array.getElem?_toList]
    unfold putCells
    rw [Array.getElem?_mapIdx, Array.getElem?_eq_getElem (by omega), Option.map_some, if_pos ⟨Nat.zero_le _, by simpa using hk⟩, List.getElem?_map, List.getElem?_eq_getElem hk]
    simp [hk]
  · rw [List.getElem?_take, if_neg hk, List.getElem?_eq_none (by simp; omega)]

/-- a row whose cells were laid anew -/
theorem own_put {w : World} {B g n cap m : Nat} {e : TypeId} {xs : List Value} (h : w.ownsRow B e 1 (.slice (some ⟨g, 0, none⟩) n cap) n xs) (q : Nat) (os : Array Obj) (d : List (List UInt8)) (hd : d.length = n) (hm : m ≤ n) :
    (grow (putRow encStr (Sort.ahead w q) g 0 d.toArray) os).ownsRow B e 1 (.slice (some ⟨g, 0, none⟩) m cap) m ((d.take m).map encStr) := by
  refine ⟨by simp; omega, ?_⟩
  rcases h.2 with ⟨h1, _⟩ | ⟨g', cap', cur, h1, hb, h2, h3, h4, h5, h6⟩
  · cases h1
  · cases h1
    have hg := (Array.getElem?_eq_some_iff.1 h2).1
    refine .inr ⟨g, cap, putCells encStr 0 d.toArray cur, rfl, hb, ?_, by omega, h4, by simp [putCells, h5], ?_⟩
    · rw [putRow_heap w g q _ os g hg, if_pos rfl, h2]; rfl
    · have := take_put cur d (by omega)
      rw [List.map_take, ← this, List.take_take, Nat.mul_one, Nat.min_eq_left (by omega)]

theorem holds_row {w : World} {B g n cap : Nat} {e : TypeId} {l : List ByteArray} (h : w.ownsRow B e 1 (.slice (some ⟨g, 0, none⟩) n cap) n (l.map Value.string)) (hn : n = l.length) : Holds encStr w g 0 (l.map M.txt').toArray := by
  intro j hj
  have hj' : j < l.length := by simpa using hj
  have hc := h.cells (show Value.ownBlock (.slice (some ⟨g, 0, none⟩) n cap) = some g from rfl) j (.string l[j]) (by rw [List.getElem?_map, List.getElem?_eq_getElem hj']; rfl)
  rw [← addr_add] at hc
  refine ⟨?_, ?_⟩
  · rw [hc, getElem!_pos _ j hj]
    simp [encStr, M.txt']
  · rcases h.2 with ⟨h1, _⟩ | ⟨g', cap', cur, h1, hb, h2, h3, h4, h5, h6⟩
    · cases h1
    · cases h1
      exact frozenB h2 _

theorem risingT_le (l : List (List UInt8)) : (M.risingT l).length ≤ l.length := by
  have := Lib.compact_length_le (l.mergeSort fun x y => decide (x ≤ y))
  simpa [M.risingT] using this

set_option maxHeartbeats 1000000 in
set_option maxRecDepth 100000 in
theorem rising_any (l : List ByteArray) (B : Nat) (v : Value) (w : World) (h : w.ownsRow B 9 1 v l.length (l.map Value.string)) (hl : l.length ≤ 100000) :
    Calls Try.prog 90 #[v] w fun e w' => w.grownBy w' v.ownBlock ∧ ∃ v', e = .returned v' ∧ w'.ownsRow B 9 1 v' (M.rising l).length ((M.rising l).map Value.string) ∧ v'.ownBlock = v.ownBlock := by
  rcases h.2 with ⟨h1, h0⟩ | ⟨g, cap, cur, h1, hb, h2, h3, h4, h5, h6⟩
  · subst h1
    have hnil : l = [] := List.length_eq_zero_iff.1 h0
    subst hnil
    have KS : Hid (∀ W, Calls Try.prog 22 #[.slice none 0 0] W fun e w' => e = .returned (.tuple #[]) ∧ w' = W) := fun W => Any.slices_Sort_string_none Try.lays190 none 0 W
    have KC : Hid (∀ W, Calls Try.prog 23 #[.slice none 0 0] W fun e w' => e = .returned (.slice none 0 0) ∧ w' = W) := fun W => Any.slices_Compact_string_empty Try.lays194 none 0 W
    clear h h0
    go_enter Try.func90, Try.ntmps90
    go_wp2_with (first | (go_at_call 22; refine (KS.out _).mono ?_; rintro e w1 ⟨rfl, rfl⟩) | (go_at_call 23; refine (KC.out _).mono ?_; rintro e w2 ⟨rfl, rfl⟩))
    go_ret
    have e0 : M.rising [] = [] := M.rising_eq List.Pairwise.nil (fun s => Iff.rfl)
    exact ⟨grown_of_below (Below.refl _ _) _, _, rfl, by rw [e0]; exact World.ownsRow_nil _ _ _ _, rfl⟩
  · subst h1
    have hgl := (Array.getElem?_eq_some_iff.1 h2).1
    have hH := holds_row h rfl
    have e1 : (l.map M.txt').length = l.length := by simp
    have KS : Hid (Calls Try.prog 22 #[.slice (some ⟨g, 0, none⟩) l.length cap] w fun e w' => e = .returned (.tuple #[]) ∧ ∃ n os, w' = grow (putRow encStr (Sort.ahead w n) g 0 ((l.map M.txt').mergeSort fun x y => decide (x ≤ y)).toArray) os) := by
      have := Any.slices_Sort_string Try.lays190 g 0 cap (l.map M.txt') w hH hgl (by rw [e1]; omega)
      rwa [e1] at this
    have hsl : ((l.map M.txt').mergeSort fun x y => decide (x ≤ y)).length = l.length := by simp
    have HT : Hid (Lib.compact ((l.map M.txt').mergeSort fun x y => decide (x ≤ y)) = M.risingT (l.map M.txt')) := rfl
    generalize hst : ((l.map M.txt').mergeSort fun x y => decide (x ≤ y)) = st at *
    have hle : (Lib.compact st).length ≤ st.length := by rw [HT.out]; have := risingT_le (l.map M.txt'); rw [e1] at this; omega
    have KC : Hid (∀ W, W.ownsRow B 9 1 (.slice (some ⟨g, 0, none⟩) l.length cap) l.length (st.map encStr) → Calls Try.prog 23 #[.slice (some ⟨g, 0, none⟩) l.length cap] W fun e w' => e = .returned (.slice (some ⟨g, 0, none⟩) (Lib.compact st).length cap) ∧ ∃ q, w' = putRow encStr (Sort.ahead W q) g 0 (Lib.compact st ++ List.replicate (l.length - (Lib.compact st).length) []).toArray) := fun W hW => by
      have hH' : Holds encStr W g 0 st.toArray := by
        have : st.map encStr = (st.map M.ofTxt).map Value.string := by rw [List.map_map]; rfl
        rw [this] at hW
        have h7 := holds_row hW (by simp [hsl])
        have h8 : (st.map M.ofTxt).map M.txt' = st := by rw [List.map_map]; exact List.map_id st
        rwa [h8] at h7
      have := Any.slices_Compact_string Try.lays194 g 0 cap st W hH' (by omega) (by omega)
      rwa [hsl] at this
    have hO1 := fun n os => own_put (m := l.length) h n os st hsl (Nat.le_refl _)
    have HO1 : Hid (∀ n os, World.ownsRow _ B 9 1 (.slice (some ⟨g, 0, none⟩) l.length cap) l.length (st.map encStr)) := fun n os => by
      have := hO1 n os
      rwa [List.take_of_length_le (by omega)] at this
    have HG1 : Hid (∀ n os, w.grownBy _ (some g)) := fun n os => grown_put w g n st.toArray os
    clear hO1 h h2 h3 h4 h5 h6 hH hst cur
    go_enter Try.func90, Try.ntmps90
    go_wp2_with (go_at_call 22; refine KS.out.mono ?_; rintro e w1 ⟨rfl, n, os, rfl⟩; refine Hid.out ?_)
    have hO := HO1.out n os
    have hG := HG1.out n os
    clear KS HO1 HG1
    generalize grow (putRow encStr (Sort.ahead w n) g 0 st.toArray) os = W1 at *
    refine Lib.hid ?_
    go_wp2_with (go_at_call 23; refine (KC.out _ hO).mono ?_; rintro e w2 ⟨rfl, q, rfl⟩)
    go_ret
    have hlen : (Lib.compact st ++ List.replicate (l.length - (Lib.compact st).length) ([] : List UInt8)).length = l.length := by simp; omega
    have hO2 := own_put (m := (Lib.compact st).length) hO q #[] _ hlen (by omega)
    have hG2 := grown_put W1 g q (Lib.compact st ++ List.replicate (l.length - (Lib.compact st).length) []).toArray #[]
    rw [grow_empty] at hO2 hG2
    refine ⟨grown_trans hG hG2, _, rfl, ?_, rfl⟩
    rw [List.take_left] at hO2
    have e3 : M.rising l = (Lib.compact st).map M.ofTxt := by rw [HT.out]; rfl
    rw [e3, List.length_map, List.map_map]
    exact hO2

end Go.Proofs.Ytebhbhbhcoijpaa
