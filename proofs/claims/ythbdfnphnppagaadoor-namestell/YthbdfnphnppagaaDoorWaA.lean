/-
  Sorting and thinning out a row of texts of one's own; the contract of names.rising. The contracts of names.defined and names.wanted.
-/
import Derived.Test.YthbdfnphnppagaaDoorNmMA
import Derived.Test.YthbdfnphnppagaaDoorNmShelf
import Derived.Test.YthbdfnphnppagaaDoorPrtFrag
import Derived.Lib.RowBridge
import Derived.Sort.Grow
import Derived.Test.YthbdfnphnppagaaDoorNmKind

namespace Go.Proofs.YthbdfnphnppagaaDoor
open Go Go.RowKit Go.Sort
set_option linter.unusedVariables false

theorem heap_ahead (w : World) (q : Nat) : (Sort.ahead w q).heap = w.heap := rfl

theorem putRow_heap (w : World) (g q : Nat) (d : Array (List UInt8)) (os : Array Obj) (k : Nat) (hk : k < w.heap.size) : (grow (putRow encStr (Sort.ahead w q) g 0 d) os).heap[k]? = if g = k then (w.heap[k]?).map (onCells (putCells encStr 0 d)) else w.heap[k]? := by
  unfold grow putRow mapBlock
  simp only [heap_ahead]
  rw [Array.getElem?_append_left (by simpa using hk), Array.getElem?_modify]

theorem grown_put (w : World) (g q : Nat) (d : Array (List UInt8)) (os : Array Obj) : w.grownBy (grow (putRow encStr (Sort.ahead w q) g 0 d) os) (some g) := by
  refine ⟨rfl, rfl, rfl, ?_, fun k hk hne => ?_⟩
  · simp [grow, putRow, mapBlock]
  · rw [putRow_heap w g q d os k hk, if_neg (fun e => hne (by rw [e]))]

theorem take_put (cur : Array Value) (d : List (List UInt8)) (h : d.length ≤ cur.size) : (putCells encStr 0 d.toArray cur).toList.take d.length = d.map encStr := by
  apply List.ext_getElem?
  intro k
  by_cases hk : k < d.length
  · rw [List.getElem?_take, if_pos hk, Array.getElem?_toList]
    unfold putCells
    rw [Array.getElem?_mapIdx, Array.getElem?_eq_getElem (by omega), Option.map_some, if_pos ⟨Nat.zero_le _, by simpa using hk⟩, List.getElem?_map, List.getElem?_eq_getElem hk]
    simp [hk]
  · rw [List.getElem?_take, if_neg hk, List.getElem?_eq_none (by simp; omega)]

/-- a row whose cells were laid anew -/
theorem own_put {w : World} {B g n cap m : Nat} {e : TypeId} {xs : List Value} (h : w.ownsRow B e 1 (.slice (some ⟨g, 0, none⟩) n cap) n xs) (q : Nat) (os : Array Obj) (d : List (List UInt8)) (hd : d.length = n) (hm : m ≤ n) :
    (grow (putRow encStr (Sort.ahead w q) g 0 d.toArray) os).ownsRow B e 1 (.slice (some ⟨g, 0, none⟩) m cap) m ((d.take m).map encStr) := by
  refine ⟨by simp; omega, ?_⟩
  rcases h.2 with ⟨h1, _⟩ | ⟨g', cap', cur, h1, hb, h2, h3, h4, h5, h6⟩
  · cases h1
  · cases h1
    have hg := (Array.getElem?_eq_some_iff.1 h2).1
    refine .inr ⟨g, cap, putCells encStr 0 d.toArray cur, rfl, hb, ?_, by omega, h4, by simp [putCells, h5], ?_⟩
    · rw [putRow_heap w g q _ os g hg, if_pos rfl, h2]; rfl
    · have := take_put cur d (by omega)
      rw [List.map_take, ← this, List.take_take, Nat.mul_one, Nat.min_eq_left (by omega)]

theorem holds_row {w : World} {B g n cap : Nat} {e : TypeId} {l : List ByteArray} (h : w.ownsRow B e 1 (.slice (some ⟨g, 0, none⟩) n cap) n (l.map Value.string)) (hn : n = l.length) : Holds encStr w g 0 (l.map M.txt').toArray := by
  intro j hj
  have hj' : j < l.length := by simpa using hj
  have hc := h.cells (show Value.ownBlock (.slice (some ⟨g, 0, none⟩) n cap) = some g from rfl) j (.string l[j]) (by rw [List.getElem?_map, List.getElem?_eq_getElem hj']; rfl)
  rw [← addr_add] at hc
  refine ⟨?_, ?_⟩
  · rw [hc, getElem!_pos _ j hj]
    simp [encStr, M.txt']
  · rcases h.2 with ⟨h1, _⟩ | ⟨g', cap', cur, h1, hb, h2, h3, h4, h5, h6⟩
    · cases h1
    · cases h1
      exact frozenB h2 _

theorem risingT_le (l : List (List UInt8)) : (M.risingT l).length ≤ l.length := by
  have := Lib.compact_length_le (l.mergeSort fun x y => decide (x ≤ y))
  simpa [M.risingT] using this

set_option maxHeartbeats 1000000 in
set_option maxRecDepth 100000 in
theorem rising_any (l : List ByteArray) (B : Nat) (v : Value) (w : World) (h : w.ownsRow B 9 1 v l.length (l.map Value.string)) (hl : l.length ≤ 100000) :
    Calls Tryd.prog 62 #[v] w fun e w' => w.grownBy w' v.ownBlock ∧ ∃ v', e = .returned v' ∧ w'.ownsRow B 9 1 v' (M.rising l).length ((M.rising l).map Value.string) ∧ v'.ownBlock = v.ownBlock := by
  rcases h.2 with ⟨h1, h0⟩ | ⟨g, cap, cur, h1, hb, h2, h3, h4, h5, h6⟩
  · subst h1
    have hnil : l = [] := List.length_eq_zero_iff.1 h0
    subst hnil
    have KS : Hid (∀ W, Calls Tryd.prog 84 #[.slice none 0 0] W fun e w' => e = .returned (.tuple #[]) ∧ w' = W) := fun W => Any.slices_Sort_string_none Tryd.lays190 none 0 W
    have KC : Hid (∀ W, Calls Tryd.prog 85 #[.slice none 0 0] W fun e w' => e = .returned (.slice none 0 0) ∧ w' = W) := fun W => Any.slices_Compact_string_empty Tryd.lays194 none 0 W
    clear h h0
    go_enter Tryd.func62, Tryd.ntmps62
    go_wp2_with (first | (go_at_call 84; refine (KS.out _).mono ?_; rintro e w1 ⟨rfl, rfl⟩) | (go_at_call 85; refine (KC.out _).mono ?_; rintro e w2 ⟨rfl, rfl⟩))
    go_ret
    have e0 : M.rising [] = [] := M.rising_eq List.Pairwise.nil (fun s => Iff.rfl)
    exact ⟨grown_of_below (Below.refl _ _) _, _, rfl, by rw [e0]; exact World.ownsRow_nil _ _ _ _, rfl⟩
  · subst h1
    have hgl := (Array.getElem?_eq_some_iff.1 h2).1
    have hH := holds_row h rfl
    have e1 : (l.map M.txt').length = l.length := by simp
    have KS : Hid (Calls Tryd.prog 84 #[.slice (some ⟨g, 0, none⟩) l.length cap] w fun e w' => e = .returned (.tuple #[]) ∧ ∃ n os, w' = grow (putRow encStr (Sort.ahead w n) g 0 ((l.map M.txt').mergeSort fun x y => decide (x ≤ y)).toArray) os) := by
      have := Any.slices_Sort_string Tryd.lays190 g 0 cap (l.map M.txt') w hH hgl (by rw [e1]; omega)
      rwa [e1] at this
    have hsl : ((l.map M.txt').mergeSort fun x y => decide (x ≤ y)).length = l.length := by simp
    have HT : Hid (Lib.compact ((l.map M.txt').mergeSort fun x y => decide (x ≤ y)) = M.risingT (l.map M.txt')) := rfl
    generalize hst : ((l.map M.txt').mergeSort fun x y => decide (x ≤ y)) = st at *
    have hle : (Lib.compact st).length ≤ st.length := by rw [HT.out]; have := risingT_le (l.map M.txt'); rw [e1] at this; omega
    have KC : Hid (∀ W, W.ownsRow B 9 1 (.slice (some ⟨g, 0, none⟩) l.length cap) l.length (st.map encStr) → Calls Tryd.prog 85 #[.slice (some ⟨g, 0, none⟩) l.length cap] W fun e w' => e = .returned (.slice (some ⟨g, 0, none⟩) (Lib.compact st).length cap) ∧ ∃ q, w' = putRow encStr (Sort.ahead W q) g 0 (Lib.compact st ++ List.replicate (l.length - (Lib.compact st).length) []).toArray) := fun W hW => by
      have hH' : Holds encStr W g 0 st.toArray := by
        have : st.map encStr = (st.map M.ofTxt).map Value.string := by rw [List.map_map]; rfl
        rw [this] at hW
        have h7 := holds_row hW (by simp [hsl])
        have h8 : (st.map M.ofTxt).map M.txt' = st := by rw [List.map_map]; exact List.map_id st
        rwa [h8] at h7
      have := Any.slices_Compact_string Tryd.lays194 g 0 cap st W hH' (by omega) (by omega)
      rwa [hsl] at this
    have hO1 := fun n os => own_put (m := l.length) h n os st hsl (Nat.le_refl _)
    have HO1 : Hid (∀ n os, World.ownsRow _ B 9 1 (.slice (some ⟨g, 0, none⟩) l.length cap) l.length (st.map encStr)) := fun n os => by
      have := hO1 n os
      rwa [List.take_of_length_le (by omega)] at this
    have HG1 : Hid (∀ n os, w.grownBy _ (some g)) := fun n os => grown_put w g n st.toArray os
    clear hO1 h h2 h3 h4 h5 h6 hH hst cur
    go_enter Tryd.func62, Tryd.ntmps62
    go_wp2_with (go_at_call 84; refine KS.out.mono ?_; rintro e w1 ⟨rfl, n, os, rfl⟩; refine Hid.out ?_)
    have hO := HO1.out n os
    have hG := HG1.out n os
    clear KS HO1 HG1
    generalize grow (putRow encStr (Sort.ahead w n) g 0 st.toArray) os = W1 at *
    refine Lib.hid ?_
    go_wp2_with (go_at_call 85; refine (KC.out _ hO).mono ?_; rintro e w2 ⟨rfl, q, rfl⟩)
    go_ret
    have hlen : (Lib.compact st ++ List.replicate (l.length - (Lib.compact st).length) ([] : List UInt8)).length = l.length := by simp; omega
    have hO2 := own_put (m := (Lib.compact st).length) hO q #[] _ hlen (by omega)
    have hG2 := grown_put W1 g q (Lib.compact st ++ List.replicate (l.length - (Lib.compact st).length) []).toArray #[]
    rw [grow_empty] at hO2 hG2
    refine ⟨grown_trans hG hG2, _, rfl, ?_, rfl⟩
    rw [List.take_left] at hO2
    have e3 : M.rising l = (Lib.compact st).map M.ofTxt := by rw [HT.out]; rfl
    rw [e3, List.length_map, List.map_map]
    exact hO2

end Go.Proofs.YthbdfnphnppagaaDoor

namespace Go.Proofs.YthbdfnphnppagaaDoor
open Go.RowKit
set_option linter.unusedVariables false

theorem grown_below {w X w3 : World} {B k n : Nat} {e : TypeId} {v : Value} {xs : List Value} (hB : Below B w X) (hs : B ≤ X.heap.size) (hown : X.ownsRow B e k v n xs) (hg : X.grownBy w3 v.ownBlock) : Below B w w3 :=
  hB.grown hg hs (fun k hk => (hown.lt k hk).1)

theorem names_take (ds : List M.Dfn) (k : Nat) (h : k < ds.length) : M.definedNames (ds.take (k + 1)) = M.definedNames (ds.take k) ++ [(ds.getD k dfn0).name] := by
  unfold M.definedNames
  rw [List.take_succ_eq_append_getElem h, List.map_append, List.getD_eq_getElem?_getD, List.getElem?_eq_getElem h]
  rfl

theorem wants_take (rs : List M.Rel) (k : Nat) (h : k < rs.length) : M.wantedOf (rs.take (k + 1)) = M.wantedOf (rs.take k) ++ bif M.bare (rs.getD k rel0).name then [] else [(rs.getD k rel0).name] := by
  unfold M.wantedOf
  rw [List.take_succ_eq_append_getElem h, List.filter_append, List.map_append, List.getD_eq_getElem?_getD, List.getElem?_eq_getElem h]
  simp only [Option.getD_some, List.filter_cons, List.filter_nil]
  cases M.bare rs[k].name <;> rfl

theorem wanted_take (fs : List M.Frg) (k : Nat) (h : k < fs.length) : M.wantedNames (fs.take (k + 1)) = M.wantedNames (fs.take k) ++ M.wantedOf (fs.getD k frg0).rels := by
  unfold M.wantedNames
  rw [List.take_succ_eq_append_getElem h, List.flatMap_append, List.getD_eq_getElem?_getD, List.getElem?_eq_getElem h]
  simp

/-- a text is appended to a row of texts: what holds then -/
theorem text_step {w X w3 : World} {v v' : Value} {l : List ByteArray} {s : ByteArray} {o : Obj} (hB : Below w.heap.size w X) (hs : w.heap.size ≤ X.heap.size) (hown : X.ownsRow w.heap.size 9 1 v l.length (l.map Value.string)) (hg : (X.alloc o).grownBy w3 v.ownBlock)
    (ho : w3.ownsRow w.heap.size 9 1 v' (l.length + 1) (l.map Value.string ++ (#[.string s] : Array Value).toList)) : w3.ownsRow w.heap.size 9 1 v' (l ++ [s]).length ((l ++ [s]).map Value.string) ∧ Below w.heap.size w w3 :=
  ⟨by rw [List.length_append, List.map_append]; exact ho, (hB.alloc hs _).grown hg (by simp; omega) (fun k hk => (hown.lt k hk).1)⟩

theorem rising_size {l : List ByteArray} (h : ∀ s ∈ l, s.size ≤ maxLen) : ∀ s ∈ M.rising l, s.size ≤ maxLen := fun s hs => h s ((M.rising_mem l s).1 hs)

theorem rising_le (l : List ByteArray) : (M.rising l).length ≤ l.length := by
  have := risingT_le (l.map M.txt')
  simpa [M.rising] using this

set_option maxHeartbeats 2000000 in
set_option maxRecDepth 100000 in
theorem defined_any (ds : List M.Dfn) (a : Option Addr) (c : Nat) (w : World) (hd : DefsAt w (.slice a ds.length c) ds) (h60 : ds.length ≤ 60) :
    Calls Tryd.prog 58 #[.slice a ds.length c] w fun e w' => Below w.heap.size w w' ∧ ∃ v, e = .returned v ∧ w'.ownsRow w.heap.size 9 1 v (M.rising (M.definedNames ds)).length ((M.rising (M.definedNames ds)).map Value.string) ∧ ∀ s ∈ M.rising (M.definedNames ds), s.size ≤ maxLen := by
  obtain ⟨i0, hi, hz0, hz1, hz2⟩ := info_parts (P := Tryd.prog) (e := 9) (z := .string ⟨#[]⟩) (size := 1) (bytes := 16) (by kernel_rfl)
  have HSz : Hid (∀ s ∈ M.rising (M.definedNames ds), s.size ≤ maxLen) := rising_size (fun s hs => by
    obtain ⟨d, hd', rfl⟩ := List.mem_map.1 hs
    exact hd.2 d hd')
  go_enter Tryd.func58, Tryd.ntmps58
  go_wp2_with fail
  go_loopw [3, 8] (fun s3 s8 wr => ∃ (k : Nat) (l : List ByteArray), k ≤ ds.length ∧ s8 = .int .i64 k ∧ Hid (l = M.definedNames (ds.take k)) ∧ l.length ≤ k ∧ wr.ownsRow w.heap.size 9 1 s3 l.length (l.map Value.string) ∧ Hid (Below w.heap.size w wr)) (fun _ s8 _ => ds.length - (intOf s8).toNat)
  case atStart => exact ⟨0, [], Nat.zero_le _, rfl, rfl, Nat.le_refl _, World.ownsRow_nil _ _ _ _, Below.refl _ _⟩
  case round =>
    obtain ⟨k, l, hk, rfl, HL, hlk, hown, HB⟩ := hrel
    have hw0 : w.heap.size ≤ wr.heap.size := HB.out.size
    by_cases hlt : k < ds.length
    · obtain ⟨b, off, rfl, e0, e1, e2, e3, e4, e5, hnm⟩ := (hd.later HB.out).cells k hlt
      have hbr : b < wr.heap.size := World.block_lt_of_cell? _ _ e0
      have HL1 := names_take ds k hlt
      rw [← HL.out] at HL1
      have hkl : (k : Int) < (ds.length : Int) := by omega
      clear HL hd
      generalize ds.getD k dfn0 = d at *
      obtain ⟨nm, kd, fr, pos, sz, al⟩ := d
      simp only at e0 e1 e2 e3 e4 e5 hnm HL1
      have HL2 : Hid (l ++ [nm] = M.definedNames (ds.take (k + 1))) := HL1.symm
      clear HL1
      obtain ⟨a5, n5, c5, rfl⟩ := own_form hown
      go_upto_region 5 with fail
      have hownX := hown.alloc (.cells #[.string nm, .int .i64 kd, .int .i64 fr, .int .i64 pos, .int .i64 sz, .int .i64 al] 53)
      have HBX : Hid (Below w.heap.size w (wr.alloc (.cells #[.string nm, .int .i64 kd, .int .i64 fr, .int .i64 pos, .int .i64 sz, .int .i64 al] 53))) := HB.out.alloc hw0 _
      have x3 := heap_alloc_new wr (.cells #[.string nm, .int .i64 kd, .int .i64 fr, .int .i64 pos, .int .i64 sz, .int .i64 al] 53)
      have hXs : wr.heap.size < (wr.alloc (.cells #[.string nm, .int .i64 kd, .int .i64 fr, .int .i64 pos, .int .i64 sz, .int .i64 al] 53)).heap.size := by simp
      clear hown HB e0 e1 e2 e3 e4 e5
      generalize wr.alloc (.cells #[.string nm, .int .i64 kd, .int .i64 fr, .int .i64 pos, .int .i64 sz, .int .i64 al] 53) = Y at *
      have k0 : Y.cell? ⟨wr.heap.size, 0, none⟩ = some (.string nm) := cellB x3 0
      have hwY : w.heap.size ≤ Y.heap.size := by omega
      have hnews : ∀ j u, (#[.string nm] : Array Value).toList[j]? = some u → (Y.alloc (.cells #[.string nm] 9)).cell? ((⟨Y.heap.size, 0, none⟩ : Addr).add j) = some u := World.news_of_block (heap_alloc_new Y _)
      clear x3
      go_wp2_with (at_builtin; refine wpList_append_own _ rfl _ _ 38 rfl w.heap.size 9 i0 (.string ⟨#[]⟩) 1 16 Tryd.underlying38 hi hz0 hz1 hz2 rfl (by decide) _ _ _ rfl (hownX.alloc _) ⟨Y.heap.size, 0, none⟩ 1 1 (#[.string nm] : Array Value).toList rfl rfl hnews (fun u hu => by simp at hu; subst hu; rfl) (by unfold maxLen; omega) (by omega) (by simp; omega) ?_; intro v' w3 hown' hgrow3 hnil3)
      have HE := text_step HBX.out hwY hownX hgrow3 hown'
      go_roundw
      case rel => exact ⟨k + 1, l ++ [nm], by omega, by go_num, HL2, by simp; omega, HE.1, HE.2⟩
      case measure => simp [intOf]; omega
    · have hkl : k = ds.length := by omega
      have HL2 : l = M.definedNames ds := by rw [HL.out, hkl, List.take_length]
      have KR : Hid (Calls Tryd.prog 62 #[u3] wr fun e w' => wr.grownBy w' u3.ownBlock ∧ ∃ v', e = .returned v' ∧ w'.ownsRow w.heap.size 9 1 v' (M.rising l).length ((M.rising l).map Value.string) ∧ v'.ownBlock = u3.ownBlock) := rising_any l w.heap.size u3 wr hown (by omega)
      have HL3 : Hid (l = M.definedNames ds) := HL2
      clear HL HL2
      subst hkl
      obtain ⟨a5, n5, c5, rfl⟩ := own_form hown
      go_wp2_with (go_at_call 62; refine KR.out.mono ?_; rintro e w4 ⟨hg4, v4, rfl, ho4, _⟩)
      go_ret
      rw [← HL3.out]
      exact ⟨grown_below HB.out hw0 hown hg4, _, rfl, ho4, by rw [HL3.out]; exact HSz.out⟩

set_option maxHeartbeats 4000000 in
set_option maxRecDepth 100000 in
theorem wanted_any (fs : List M.Frg) (a : Option Addr) (c : Nat) (w : World) (hf : FragsAt w (.slice a fs.length c) fs) (h60 : fs.length ≤ 60) (h8 : ∀ f ∈ fs, f.rels.length ≤ 8) :
    Calls Tryd.prog 57 #[.slice a fs.length c] w fun e w' => Below w.heap.size w w' ∧ ∃ v, e = .returned v ∧ w'.ownsRow w.heap.size 9 1 v (M.rising (M.wantedNames fs)).length ((M.rising (M.wantedNames fs)).map Value.string) ∧ ∀ s ∈ M.rising (M.wantedNames fs), s.size ≤ maxLen := by
  obtain ⟨i0, hi, hz0, hz1, hz2⟩ := info_parts (P := Tryd.prog) (e := 9) (z := .string ⟨#[]⟩) (size := 1) (bytes := 16) (by kernel_rfl)
  have HSz : Hid (∀ s ∈ M.rising (M.wantedNames fs), s.size ≤ maxLen) := rising_size (fun s hs => by
    obtain ⟨f, hf', hs⟩ := List.mem_flatMap.1 hs
    obtain ⟨r, hr, rfl⟩ := List.mem_map.1 hs
    have hr := (List.mem_filter.1 hr).1
    obtain ⟨j, hj, rfl⟩ := List.getElem_of_mem hf'
    obtain ⟨_, _, _, _, _, _, _, _, _, _, _, _, _, _, hRl, _, _⟩ := hf.cells j hj
    rw [List.getD_eq_getElem?_getD, List.getElem?_eq_getElem hj] at hRl
    exact (hRl.2 r hr).1)
  go_enter Tryd.func57, Tryd.ntmps57
  go_wp2_with fail
  go_loopw [3, 10] (fun s3 s10 wr => ∃ (k : Nat) (l : List ByteArray), k ≤ fs.length ∧ s10 = .int .i64 k ∧ Hid (l = M.wantedNames (fs.take k)) ∧ l.length ≤ 8 * k ∧ wr.ownsRow w.heap.size 9 1 s3 l.length (l.map Value.string) ∧ Hid (Below w.heap.size w wr)) (fun _ s10 _ => fs.length - (intOf s10).toNat)
  case atStart => exact ⟨0, [], Nat.zero_le _, rfl, rfl, Nat.le_refl _, World.ownsRow_nil _ _ _ _, Below.refl _ _⟩
  case round =>
    obtain ⟨k, l, hk, rfl, HL, hlk, hown, HB⟩ := hrel
    have hw0 : w.heap.size ≤ wr.heap.size := HB.out.size
    by_cases hlt : k < fs.length
    · obtain ⟨b, off, ab, cb, ar, cr, rfl, e0, e1, e2, e3, e4, e5, _, hRl, _, _⟩ := hf.cells k hlt
      have hr8 := h8 _ (getD_mem fs frg0 k hlt)
      have HL1 := wanted_take fs k hlt
      rw [← HL.out] at HL1
      have hkl : (k : Int) < (fs.length : Int) := by omega
      replace e0 := cell_later HB.out e0
      replace e1 := cell_later HB.out e1
      replace e2 := cell_later HB.out e2
      replace e3 := cell_later HB.out e3
      replace e4 := cell_later HB.out e4
      replace e5 := cell_later HB.out e5
      have hbr : b < wr.heap.size := World.block_lt_of_cell? _ _ e0
      clear HL hf h8
      generalize fs.getD k frg0 = f at *
      obtain ⟨s, al, g, bs, sz, rs⟩ := f
      simp only at e0 e1 e2 e3 e4 e5 hRl hr8 HL1
      have HL2 : Hid (M.wantedNames (fs.take (k + 1)) = l ++ M.wantedOf rs) := HL1
      clear HL1
      generalize bs.length = nb at *
      obtain ⟨a5, n5, c5, rfl⟩ := own_form hown
      go_upto_region 6 with fail
      have hownX := hown.alloc (.cells #[.int .i64 s, .int .i64 al, .string g, .slice ab nb cb, .int .i64 sz, .slice ar rs.length cr] 29)
      have HBX : Hid (Below w.heap.size w (wr.alloc (.cells #[.int .i64 s, .int .i64 al, .string g, .slice ab nb cb, .int .i64 sz, .slice ar rs.length cr] 29))) := HB.out.alloc hw0 _
      clear hown HB e0 e1 e2 e3 e4 e5
      generalize wr.alloc (.cells #[.int .i64 s, .int .i64 al, .string g, .slice ab nb cb, .int .i64 sz, .slice ar rs.length cr] 29) = X at *
      go_loopw [3, 17] (fun s3 s17 wi => ∃ (j : Nat) (m : List ByteArray), j ≤ rs.length ∧ s17 = .int .i64 j ∧ Hid (m = l ++ M.wantedOf (rs.take j)) ∧ m.length ≤ l.length + j ∧ wi.ownsRow w.heap.size 9 1 s3 m.length (m.map Value.string) ∧ Hid (Below w.heap.size w wi)) (fun _ s17 _ => rs.length - (intOf s17).toNat)
      case atStart => exact ⟨0, l, Nat.zero_le _, rfl, by simp [Hid, M.wantedOf], by omega, hownX, HBX.out⟩
      case round =>
        obtain ⟨j, m, hj, rfl, HM, hmj, hown, HB⟩ := hrel
        clear hownX HBX
        have hw1 : w.heap.size ≤ wr.heap.size := HB.out.size
        by_cases hjt : j < rs.length
        · obtain ⟨b', off', rfl, e0, e1, e2, e3, e4⟩ := relsAt_cells (hRl.later HB.out) j hjt
          have hbr' : b' < wr.heap.size := World.block_lt_of_cell? _ _ e0
          have HM1 : l ++ M.wantedOf (rs.take (j + 1)) = m ++ bif M.bare (rs.getD j rel0).name then [] else [(rs.getD j rel0).name] := by rw [wants_take rs j hjt, ← List.append_assoc, ← HM.out]
          have hjl : (j : Int) < (rs.length : Int) := by omega
          clear HM hRl
          generalize rs.getD j rel0 = r at *
          obtain ⟨pos, kd, nm, fr, ad⟩ := r
          simp only at e0 e1 e2 e3 e4 HM1
          obtain ⟨a6, n6, c6, rfl⟩ := own_form hown
          cases hb : M.bare nm
          · rw [hb] at HM1
            have HM2 : Hid (m ++ [nm] = l ++ M.wantedOf (rs.take (j + 1))) := HM1.symm
            have hb' : nm.toList.isEmpty = false := hb
            clear HM1 hb
            go_upto_region 9 with fail
            have hownX := hown.alloc (.cells #[.int .i64 pos, .int .i64 kd, .string nm, .int .i64 fr, .int .i64 ad] 76)
            have HBX : Hid (Below w.heap.size w (wr.alloc (.cells #[.int .i64 pos, .int .i64 kd, .string nm, .int .i64 fr, .int .i64 ad] 76))) := HB.out.alloc hw1 _
            have x3 := heap_alloc_new wr (.cells #[.int .i64 pos, .int .i64 kd, .string nm, .int .i64 fr, .int .i64 ad] 76)
            have hXs : wr.heap.size < (wr.alloc (.cells #[.int .i64 pos, .int .i64 kd, .string nm, .int .i64 fr, .int .i64 ad] 76)).heap.size := by simp
            clear hown HB e0 e1 e2 e3 e4
            generalize wr.alloc (.cells #[.int .i64 pos, .int .i64 kd, .string nm, .int .i64 fr, .int .i64 ad] 76) = Y at *
            have k0 : Y.cell? ⟨wr.heap.size, 2, none⟩ = some (.string nm) := cellB x3 2
            have hwY : w.heap.size ≤ Y.heap.size := by omega
            have hnews : ∀ j u, (#[.string nm] : Array Value).toList[j]? = some u → (Y.alloc (.cells #[.string nm] 9)).cell? ((⟨Y.heap.size, 0, none⟩ : Addr).add j) = some u := World.news_of_block (heap_alloc_new Y _)
            clear x3
            go_wp2_with (at_builtin; refine wpList_append_own _ rfl _ _ 38 rfl w.heap.size 9 i0 (.string ⟨#[]⟩) 1 16 Tryd.underlying38 hi hz0 hz1 hz2 rfl (by decide) _ _ _ rfl (hownX.alloc _) ⟨Y.heap.size, 0, none⟩ 1 1 (#[.string nm] : Array Value).toList rfl rfl hnews (fun u hu => by simp at hu; subst hu; rfl) (by unfold maxLen; omega) (by omega) (by simp; omega) ?_; intro v' w3 hown' hgrow3 hnil3)
            have HE := text_step HBX.out hwY hownX hgrow3 hown'
            go_roundw
            case rel => exact ⟨j + 1, m ++ [nm], by omega, by go_num, HM2, by simp; omega, HE.1, HE.2⟩
            case measure => simp [intOf]; omega
          · rw [hb] at HM1
            have HM2 : Hid (m = l ++ M.wantedOf (rs.take (j + 1))) := by rw [Hid, HM1]; simp
            have hb' : nm.toList.isEmpty = true := hb
            clear HM1 hb
            have HE : Hid (∀ o, (wr.alloc o).ownsRow w.heap.size 9 1 (.slice a6 n6 c6) m.length (m.map Value.string) ∧ Below w.heap.size w (wr.alloc o)) := fun o => ⟨hown.alloc o, HB.out.alloc hw1 _⟩
            go_wp2
            go_roundw
            case rel => exact ⟨j + 1, m, by omega, by go_num, HM2, by omega, (HE.out _).1, (HE.out _).2⟩
            case measure => simp [intOf]; omega
        · have hjl : j = rs.length := by omega
          have HM2 : Hid (m = M.wantedNames (fs.take (k + 1))) := by rw [Hid, HM.out, hjl, List.take_length, HL2.out]
          clear HM HL2 hRl
          subst hjl
          go_wp2
          go_roundw
          case rel => exact ⟨k + 1, m, by omega, by go_num, HM2, by omega, hown, HB⟩
          case measure => simp [intOf]; omega
    · have hkl : k = fs.length := by omega
      have HL2 : l = M.wantedNames fs := by rw [HL.out, hkl, List.take_length]
      have KR : Hid (Calls Tryd.prog 62 #[u3] wr fun e w' => wr.grownBy w' u3.ownBlock ∧ ∃ v', e = .returned v' ∧ w'.ownsRow w.heap.size 9 1 v' (M.rising l).length ((M.rising l).map Value.string) ∧ v'.ownBlock = u3.ownBlock) := rising_any l w.heap.size u3 wr hown (by omega)
      have HL3 : Hid (l = M.wantedNames fs) := HL2
      clear HL HL2
      subst hkl
      obtain ⟨a5, n5, c5, rfl⟩ := own_form hown
      go_wp2_with (go_at_call 62; refine KR.out.mono ?_; rintro e w4 ⟨hg4, v4, rfl, ho4, _⟩)
      go_ret
      rw [← HL3.out]
      exact ⟨grown_below HB.out hw0 hown hg4, _, rfl, ho4, by rw [HL3.out]; exact HSz.out⟩

end Go.Proofs.YthbdfnphnppagaaDoor
