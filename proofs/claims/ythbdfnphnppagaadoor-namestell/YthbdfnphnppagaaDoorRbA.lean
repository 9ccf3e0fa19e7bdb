/-
  The contract of the reference's set: the keys of a set of texts, in rising order, each once. The contracts of the reference's WantedBy and DefinedBy. The contract of the reference's Found: a map from kinds to definitions. The walk of the reference's Found.
-/
import Derived.Test.YthbdfnphnppagaaDoorNmLib
import Derived.Maps.RangeWalk
import Derived.Maps.OwnSet
import Derived.Sort.KeysCollected
import Derived.Sort.OwnSorted
import Derived.Test.YthbdfnphnppagaaDoorFdA
import Derived.Deep.AppendLies
import Derived.Deep.RegionHeld3
import Derived.BigRegion

namespace Go.Proofs.YthbdfnphnppagaaDoor
open Go Go.RowKit Go.Maps Go.Sort
set_option linter.unusedVariables false

theorem keySR : Keyed Tryd.prog 9 := string_keyed Tryd.underlying9

theorem sortStrings_own (l : List ByteArray) (B : Nat) (v : Value) (w : World) (h : w.ownsRow B 9 1 v l.length (l.map Value.string)) (hl : l.length ≤ 100000) :
    Calls Tryd.prog 86 #[v] w fun e w' => e = .returned (.tuple #[]) ∧ w.grownBy w' v.ownBlock ∧ w'.ownsRow B 9 1 v l.length ((ordered l).map Value.string) := by
  have KS : Hid (Calls Tryd.prog 84 #[v] w _) := sort_own l B v w h hl
  go_enter Tryd.func86, Tryd.ntmps86
  go_wp2_with (go_at_call 84; refine KS.out.mono ?_; rintro e w1 ⟨rfl, hg, ho⟩)
  refine bodyPost_end (v := .tuple #[]) (by simp [results, Tryd.results86, go_sem]) rfl ?_
  exact ⟨rfl, hg, ho⟩

/-- texts in order, none twice, rise -/
theorem ordered_strict {l : List ByteArray} (hn : (l.map M.txt').Nodup) : M.Strict (ordered l) := by
  unfold M.Strict ordered
  rw [List.pairwise_map]
  have hs : ((l.map M.txt').mergeSort fun x y => decide (x ≤ y)).Pairwise fun a b => (decide (a ≤ b)) = true := List.pairwise_mergeSort (fun a b c h1 h2 => by simp only [decide_eq_true_eq] at *; exact List.le_trans h1 h2) (fun a b => by simp only [Bool.or_eq_true, decide_eq_true_eq]; exact List.le_total a b) _
  have hd : ((l.map M.txt').mergeSort fun x y => decide (x ≤ y)).Nodup := (List.mergeSort_perm _ _).nodup_iff.2 hn
  refine (hs.and hd).imp fun {a b} h => ?_
  obtain ⟨h1, h2⟩ := h
  have h1' : a ≤ b := by simpa using h1
  show a < b
  exact Std.lt_of_le_of_ne h1' h2

theorem ordered_mem {l : List ByteArray} (s : ByteArray) : s ∈ ordered l ↔ s ∈ l := by
  unfold ordered
  rw [List.mem_map]
  constructor
  · rintro ⟨t, ht, rfl⟩
    obtain ⟨x, hx, rfl⟩ := List.mem_map.1 ((List.mergeSort_perm _ _).mem_iff.1 ht)
    rwa [M.of_txt]
  · intro h
    exact ⟨M.txt' s, (List.mergeSort_perm _ _).mem_iff.2 (List.mem_map.2 ⟨s, h, rfl⟩), M.of_txt s⟩

theorem plainElem_bool_inv {H : Type} {P : Program} {e : TypeId} (he : P.underlying e = some .bool) {v : Value} {z : DataW H × List MemPlace} (h : plainElem P e v = some z) : ∃ c : Nat, v = .bool (c != 0) := by
  cases v <;> simp [plainElem, he] at h
  rename_i x
  cases x
  · exact ⟨0, rfl⟩
  · exact ⟨1, rfl⟩

set_option maxHeartbeats 2000000 in
set_option maxRecDepth 100000 in
theorem set_any {H : Type} (D0 : DataW H) (b n : Nat) (w : World) (hown : w.ownsMap Tryd.prog 9 (plainElem Tryd.prog 4) b n D0) (hn : n ≤ 10000) :
    Calls Tryd.prog 63 #[.map (some b)] w fun e w' => Below w.heap.size w w' ∧ ∃ (l : List ByteArray) (v : Value), e = .returned v ∧ w'.ownsRow w.heap.size 9 1 v l.length (l.map Value.string) ∧
      M.Strict l ∧ (∀ s, s ∈ l ↔ Maps.has D0 (.string (M.txt' s)) = true) ∧ (∀ s ∈ l, s.size ≤ maxLen) ∧ l.length ≤ n := by
  obtain ⟨i0, hi, hz0, hz1, hz2⟩ := info_parts (P := Tryd.prog) (e := 9) (z := .string ⟨#[]⟩) (size := 1) (bytes := 16) (by kernel_rfl)
  have hbl := hown.lt
  have hsz := hown.size_le
  go_enter Tryd.func63, Tryd.ntmps63
  go_wp2_with (at_range; refine wpList_range_own _ rfl _ 90 rfl 9 4 keySR Tryd.underlying90 _ b n _ rfl hown ?_; intro w0 hrg0 hg0 hs0)
  go_frame
  go_loopw [3] (fun s3 wr => ∃ (left : Lit → Bool) (cnt : Nat) (ss : List (List UInt8)) (v : Value), v = s3 ∧ wr.ranges Tryd.prog 9 (plainElem Tryd.prog 4) b w.heap.size n D0 left cnt ∧ ss.length + cnt ≤ Maps.size D0 ∧
      wr.ownsRow w.heap.size 9 1 v ss.length (ss.map encStr) ∧ Collected D0 left ss ∧ (∀ x ∈ ss, x.length ≤ maxLen) ∧ Below w.heap.size w wr)
    (fun _ wr => wr.rangeLeft b w.heap.size)
  case atStart =>
    exact ⟨_, _, [], _, rfl, hrg0, by simp, World.ownsRow_nil _ _ _ _, Collected.start D0, (fun x hx => by cases hx), (Below.refl _ _).grown hg0 (Nat.le_refl _) (fun j hj => by cases hj)⟩
  case round =>
    obtain ⟨left, cnt, ss, v, rfl, hrg, hcs, hrow, hC, hle, hnx⟩ := hrel
    clear hrg0 hg0 hs0
    go_wp2_with (first
      | (at_next; refine wpList_next_ranges _ rfl _ rfl 9 keySR (plainElem Tryd.prog 4) encStr (fun c : Nat => Value.bool (c != 0)) (fun key kl hk => by obtain ⟨x, hx, _⟩ := Maps.keyOf_str Tryd.underlying9 hk; exact ⟨x, hx⟩) (fun v y hv => plainElem_bool_inv Tryd.underlying4 hv) b w.heap.size n _ _ _ rfl hrg ?_ ?_)
      | go_in)
    · intro hc0 hl0
      have e1 : ss.map encStr = (ss.map M.ofTxt).map Value.string := by rw [List.map_map]; rfl
      have e2 : (ss.map M.ofTxt).map M.txt' = ss := by rw [List.map_map]; exact List.map_id ss
      have hlen : (ss.map M.ofTxt).length = ss.length := List.length_map ..
      rw [e1, ← hlen] at hrow
      have KS : Hid (Calls Tryd.prog 86 #[v] wr _) := sortStrings_own _ _ _ wr hrow (by rw [hlen]; omega)
      have HFin : Hid (M.Strict (ordered (ss.map M.ofTxt)) ∧ (∀ s, s ∈ ordered (ss.map M.ofTxt) ↔ Maps.has D0 (.string (M.txt' s)) = true) ∧ (∀ s ∈ ordered (ss.map M.ofTxt), s.size ≤ maxLen) ∧ (ordered (ss.map M.ofTxt)).length ≤ n) := by
        refine ⟨ordered_strict (by rw [e2]; exact hC.1), fun s => ?_, fun s hs => ?_, by rw [ordered_len, hlen]; omega⟩
        · rw [ordered_mem, List.mem_map]
          constructor
          · rintro ⟨t, ht, rfl⟩
            exact ((hC.2 t).1 ht).1
          · intro h
            exact ⟨M.txt' s, (hC.2 _).2 ⟨h, hl0 _⟩, M.of_txt s⟩
        · rw [ordered_mem, List.mem_map] at hs
          obtain ⟨t, ht, rfl⟩ := hs
          exact (by simpa [M.ofTxt, ByteArray.size] using hle t ht)
      have HNx : Hid (Below w.heap.size w wr) := hnx
      have HRow : Hid (∀ j, v.ownBlock = some j → w.heap.size ≤ j) := fun j hj => (hrow.lt j hj).1
      clear hcs hC hle hnx hrow e1 e2 hlen hrg
      go_wp2_with (go_at_call 86; refine KS.out.mono ?_; rintro e w' ⟨rfl, hg, ho⟩)
      go_ret
      refine ⟨HNx.out.grown hg HNx.out.size (fun j hj => HRow.out j hj), ordered (ss.map M.ofTxt), _, rfl, ?_, HFin.out.1, HFin.out.2.1, HFin.out.2.2.1, HFin.out.2.2.2⟩
      rw [ordered_len]
      exact ho
    · intro x c kl yd yp w2 cnt2 hkey hlk hv hat hrg2 hlt hg2 hs2 hen
      obtain ⟨x', ex, rfl, hxl⟩ := Maps.keyOf_str Tryd.underlying9 hkey
      obtain rfl : x = x' := encStr_inj ex
      have hrow2 := hrow.kept hg2 (Or.inr (row_ne_iter hrow hrg).symm)
      have hz2' : wr.heap.size ≤ w2.heap.size := hg2.size
      have hwr : w.heap.size ≤ wr.heap.size := hnx.size
      clear hs2
      go_wp2_with (first
        | (at_builtin; refine wpList_append_own _ rfl _ _ 38 rfl w.heap.size 9 i0 (.string ⟨#[]⟩) 1 16 Tryd.underlying38 hi hz0 hz1 hz2 rfl (by decide) _ _ _ rfl (hrow2.alloc _) ⟨w2.heap.size, 0, none⟩ 1 1 [encStr x] rfl rfl (cell_one_new _ _ _) (by simp [Value.oneCell', encStr]) (by unfold maxLen at *; omega) (by omega) (by simp; omega) ?_; intro v' w3 hown' hg3 hnil3; go_frame)
        | go_in)
      have hrg3 := (hrg2.alloc _).kept hg3 (row_ne_low hrow2 hbl) (row_ne_iter hrow2 hrg2)
      go_roundw
      case rel =>
        refine ⟨_, cnt2, ss ++ [x], _, rfl, hrg3, by simp; omega, by simpa using hown', hC.step hlk hat, fun y hy => ?_, ?_⟩
        · rcases List.mem_append.1 hy with h | h
          · exact hle y h
          · rw [List.mem_singleton.1 h]; exact hxl
        · exact ((hnx.grown hg2 hnx.size (fun j hj => by cases hj; exact Nat.le_refl _)).alloc (by omega) _).grown hg3 (by simp; omega) (fun j hj => (hrow2.lt j hj).1)
      case measure => rw [hrg3.left_eq, hrg.left_eq]; exact hlt

end Go.Proofs.YthbdfnphnppagaaDoor

namespace Go.Proofs.YthbdfnphnppagaaDoor
open Go Go.RowKit Go.Maps Go.Sort
set_option linter.unusedVariables false

/-- a set of texts that holds just those of a list -/
def SetOf (D : DataW Unit) (l : List ByteArray) : Prop := IsMap D ∧ ∀ t, Maps.has D (.string t) = true ↔ t ∈ l.map M.txt'

theorem SetOf.nil : SetOf (.map []) [] := ⟨isMap_empty, fun t => by simp [Maps.has]⟩

theorem SetOf.put {D : DataW Unit} {l : List ByteArray} (h : SetOf D l) (s : ByteArray) : SetOf (D.put (.string s.data.toList) (.lit (.bool true))) (l ++ [s]) := by
  refine ⟨h.1.put _ _, fun t => ?_⟩
  rw [List.map_append, List.mem_append]
  by_cases ht : t = s.data.toList
  · subst ht
    rw [has_put_same h.1 (by trivial)]
    simp [M.txt']
  · rw [has_put_other (by simpa using ht), h.2 t]
    simp [M.txt', ht]

theorem SetOf.rising {D : DataW Unit} {l m : List ByteArray} (h : SetOf D l) (hs : M.Strict m) (hm : ∀ s, s ∈ m ↔ Maps.has D (.string (M.txt' s)) = true) : M.rising l = m :=
  M.rising_eq hs fun s => by
    rw [hm s, h.2]
    constructor
    · intro hx; exact List.mem_map.2 ⟨s, hx, rfl⟩
    · intro hx
      obtain ⟨y, hy, e⟩ := List.mem_map.1 hx
      have : y = s := by rw [← M.of_txt y, e, M.of_txt]
      rwa [this] at hy

/-- set, as a walk meets it -/
theorem set_g {D : DataW Unit} {l : List ByteArray} {b n : Nat} {w : World} (hown : w.ownsMap Tryd.prog 9 (plainElem Tryd.prog 4) b n D) (hn : n ≤ 10000) (h : SetOf D l) (m : List ByteArray) (hm : M.rising l = m) :
    Calls Tryd.prog 63 #[.map (some b)] w fun e w' => Below w.heap.size w w' ∧ ∃ x y, e = .returned (.slice x m.length y) ∧ w'.ownsRow w.heap.size 9 1 (.slice x m.length y) m.length (m.map Value.string) ∧ (∀ s ∈ m, s.size ≤ maxLen) ∧ m.length ≤ n := by
  refine (set_any D b n w hown hn).mono ?_
  rintro e w' ⟨hb, l', v, rfl, ho, hs, hmem, hz, hln⟩
  obtain rfl : m = l' := hm.symm.trans (h.rising hs hmem)
  rcases ho.2 with ⟨h1, h0⟩ | ⟨g, cap, cur, h1, _⟩
  · subst h1
    rw [h0] at ho
    refine ⟨hb, none, 0, by rw [h0], ?_, hz, hln⟩
    rw [h0]
    exact ho
  · subst h1
    exact ⟨hb, _, _, rfl, ho, hz, hln⟩

set_option maxHeartbeats 2000000 in
set_option maxRecDepth 100000 in
theorem definedBy_any (ds : List M.Dfn) (a1 a2 : Option Addr) (n1 c1 c2 : Nat) (w : World) (hd : DefsAt w (.slice a2 ds.length c2) ds) (h60 : ds.length ≤ 60) (m : List ByteArray) (hm : M.rising (M.definedNames ds) = m) :
    Calls Tryd.prog 35 #[.agg #[.slice a1 n1 c1, .slice a2 ds.length c2]] w fun e w' => Below w.heap.size w w' ∧ ∃ x y B, e = .returned (.slice x m.length y) ∧ w'.ownsRow B 9 1 (.slice x m.length y) m.length (m.map Value.string) ∧ w.heap.size ≤ B ∧ (∀ s ∈ m, s.size ≤ maxLen) ∧ m.length ≤ 60 := by
  have hmm := @run_makeMap Tryd.prog
  have HB0 : Hid (Below w.heap.size w ((w.alloc (.cells #[.slice a1 n1 c1, .slice a2 ds.length c2] 25)).alloc (.map #[] 0))) := ((Below.refl _ _).alloc (Nat.le_refl _) _).alloc (by simp) _
  have HO0 : Hid (((w.alloc (.cells #[.slice a1 n1 c1, .slice a2 ds.length c2] 25)).alloc (.map #[] 0)).ownsMap (H := Unit) Tryd.prog 9 (plainElem Tryd.prog 4) (w.heap.size + 1) 0 (.map [])) := by
    have := World.ownsMap_made (H := Unit) (w.alloc (.cells #[.slice a1 n1 c1, .slice a2 ds.length c2] 25)) Tryd.prog 9 (plainElem Tryd.prog 4)
    rwa [World.size_alloc] at this
  have HD : Hid (DefsAt w (.slice a2 ds.length c2) ds) := hd
  clear hd
  go_enter Tryd.func35, Tryd.ntmps35
  go_wp2_with fail
  go_loopw [10] (fun s10 wr => ∃ (k : Nat) (D : DataW Unit), k ≤ ds.length ∧ s10 = .int .i64 k ∧ Hid (SetOf D (M.definedNames (ds.take k))) ∧ Hid (wr.ownsMap Tryd.prog 9 (plainElem Tryd.prog 4) (w.heap.size + 1) k D) ∧ Hid (Below w.heap.size w wr)) (fun s10 _ => ds.length - (intOf s10).toNat)
  case atStart => exact ⟨0, .map [], Nat.zero_le _, rfl, SetOf.nil, HO0, HB0⟩
  case round =>
    obtain ⟨k, D, hk, rfl, HS, HO, HB⟩ := hrel
    clear HO0 HB0 hmm
    have hwr : w.heap.size ≤ wr.heap.size := HB.out.size
    have hml : w.heap.size + 1 < wr.heap.size := HO.out.lt
    by_cases hlt : k < ds.length
    · obtain ⟨b, off, rfl, e0, e1, e2, e3, e4, e5, hnm⟩ := (HD.out.later HB.out).cells k hlt
      have hbr : b < wr.heap.size := World.block_lt_of_cell? _ _ e0
      have hkl : (k : Int) < (ds.length : Int) := by omega
      have HS1 : Hid (SetOf (D.put (.string (ds.getD k dfn0).name.data.toList) (.lit (.bool true))) (M.definedNames (ds.take (k + 1)))) := by
        have := HS.out.put (ds.getD k dfn0).name
        unfold M.definedNames at this ⊢
        rw [List.take_succ_eq_append_getElem hlt, List.map_append]
        rw [List.getD_eq_getElem?_getD, List.getElem?_eq_getElem hlt] at this ⊢
        exact this
      clear HS
      generalize ds.getD k dfn0 = d at *
      obtain ⟨nm, kd, fg, pos, sz, al⟩ := d
      simp only at e0 e1 e2 e3 e4 e5 hnm HS1
      have hkey : keyOf Tryd.prog 9 (.string nm) = some (.string nm.data.toList) := WideMaps.keyOf_string_mk Tryd.underlying9 hnm
      have hown := HO.out.alloc (.cells #[.string nm, .int .i64 kd, .int .i64 fg, .int .i64 pos, .int .i64 sz, .int .i64 al] 53)
      have HBA : Hid (Below w.heap.size w (wr.alloc (.cells #[.string nm, .int .i64 kd, .int .i64 fg, .int .i64 pos, .int .i64 sz, .int .i64 al] 53))) := HB.out.alloc hwr _
      clear HO HB
      go_wp2_with (first | (at_mapUpdate; refine wpList_mapUpdate_own _ rfl _ _ _ 90 rfl 9 4 keySR Tryd.underlying90 _ (w.heap.size + 1) k _ rfl hown (by unfold maxLen; omega) _ _ _ rfl rfl hkey _ [] (plainElem_bool Tryd.underlying4 true) ?_; intro w1 hown1 hgrow1) | go_in)
      go_roundw
      case rel => exact ⟨k + 1, _, by omega, by go_num, HS1, hown1, HBA.out.grown hgrow1 HBA.out.size (fun j hj => by cases hj; omega)⟩
      case measure => simp [intOf]; omega
    · have hkl : k = ds.length := by omega
      subst hkl
      have HS1 := HS.out
      rw [List.take_length] at HS1
      have KS : Hid (Calls Tryd.prog 63 #[.map (some (w.heap.size + 1))] wr _) := set_g HO.out (by omega) HS1 m hm
      clear HS1 HS HO
      go_wp2_with (go_at_call 63; refine KS.out.mono ?_; rintro e w1 ⟨hb1, x, y, rfl, ho, hz, hln⟩)
      go_ret
      exact ⟨HB.out.trans (hb1.mono hwr), x, y, _, rfl, ho, hwr, hz, by omega⟩

/-- places stay as they are while a map is written -/
theorem sl_map {H : Type} {w w1 : World} {v : Value} {k n b m : Nat} {cell : Nat → Nat → Value} {kt : TypeId} {R : Value → Option (DataW H × List MemPlace)} {D : DataW H} (h : SlAt w v k n cell) (hk : 0 < k) (ho : w.ownsMap Tryd.prog kt R b m D) (hg : w.grownBy w1 (some b)) : SlAt w1 v k n cell := by
  obtain ⟨a, c, rfl, hn, h | ⟨b', off, rfl, h⟩⟩ := h
  · exact ⟨a, c, rfl, hn, .inl h⟩
  · refine ⟨_, c, rfl, hn, .inr ⟨b', off, rfl, fun j i hj hi => ?_⟩⟩
    have hc := h j i hj hi
    obtain ⟨es, clock, hb, _⟩ := ho
    have hne : b' ≠ b := fun e => by
      rw [e] at hc
      simp [World.cell?, hb] at hc
    have hlt := World.block_lt_of_cell? _ _ hc
    have := hg.block b' hlt (fun e => hne (Option.some.inj e))
    rw [← hc]
    simp [World.cell?, this]
theorem rels_map {H : Type} {w w1 : World} {v : Value} {rs : List M.Rel} {b m : Nat} {kt : TypeId} {R : Value → Option (DataW H × List MemPlace)} {D : DataW H} (h : RelsAt w v rs) (ho : w.ownsMap Tryd.prog kt R b m D) (hg : w.grownBy w1 (some b)) : RelsAt w1 v rs := ⟨sl_map h.1 (by decide) ho hg, h.2⟩

set_option maxHeartbeats 4000000 in
set_option maxRecDepth 100000 in
theorem wantedBy_any (fs : List M.Frg) (a1 a2 : Option Addr) (n2 c1 c2 : Nat) (w : World) (hf : FragsAt w (.slice a1 fs.length c1) fs) (h60 : fs.length ≤ 60) (h8 : ∀ f ∈ fs, f.rels.length ≤ 8) (m : List ByteArray) (hm : M.rising (M.wantedNames fs) = m) :
    Calls Tryd.prog 34 #[.agg #[.slice a1 fs.length c1, .slice a2 n2 c2]] w fun e w' => Below w.heap.size w w' ∧ ∃ x y B, e = .returned (.slice x m.length y) ∧ w'.ownsRow B 9 1 (.slice x m.length y) m.length (m.map Value.string) ∧ w.heap.size ≤ B ∧ (∀ s ∈ m, s.size ≤ maxLen) ∧ m.length ≤ 480 := by
  have hmm := @run_makeMap Tryd.prog
  have HB0 : Hid (Below w.heap.size w ((w.alloc (.cells #[.slice a1 fs.length c1, .slice a2 n2 c2] 25)).alloc (.map #[] 0))) := ((Below.refl _ _).alloc (Nat.le_refl _) _).alloc (by simp) _
  have HO0 : Hid (((w.alloc (.cells #[.slice a1 fs.length c1, .slice a2 n2 c2] 25)).alloc (.map #[] 0)).ownsMap (H := Unit) Tryd.prog 9 (plainElem Tryd.prog 4) (w.heap.size + 1) 0 (.map [])) := by
    have := World.ownsMap_made (H := Unit) (w.alloc (.cells #[.slice a1 fs.length c1, .slice a2 n2 c2] 25)) Tryd.prog 9 (plainElem Tryd.prog 4)
    rwa [World.size_alloc] at this
  have HF : Hid (FragsAt w (.slice a1 fs.length c1) fs) := hf
  have H8 : Hid (∀ f ∈ fs, f.rels.length ≤ 8) := h8
  clear hf h8
  go_enter Tryd.func34, Tryd.ntmps34
  go_wp2_with fail
  go_loopw [12] (fun s12 wr => ∃ (k : Nat) (D : DataW Unit), k ≤ fs.length ∧ s12 = .int .i64 k ∧ Hid (SetOf D (M.wantedNames (fs.take k))) ∧ Hid (wr.ownsMap Tryd.prog 9 (plainElem Tryd.prog 4) (w.heap.size + 1) (k * 8) D) ∧ Hid (Below w.heap.size w wr)) (fun s12 _ => fs.length - (intOf s12).toNat)
  case atStart => exact ⟨0, .map [], Nat.zero_le _, rfl, SetOf.nil, HO0, HB0⟩
  case round =>
    obtain ⟨k, D, hk, rfl, HS, HO, HB⟩ := hrel
    clear HO0 HB0 hmm
    have hwr : w.heap.size ≤ wr.heap.size := HB.out.size
    have hml : w.heap.size + 1 < wr.heap.size := HO.out.lt
    by_cases hlt : k < fs.length
    · obtain ⟨b, off, ab, cb, ar, cr, rfl, e0, e1, e2, e3, e4, e5, _, hRl, _, _⟩ := (HF.out.later HB.out).cells k hlt
      have hr8 := H8.out _ (getD_mem fs frg0 k hlt)
      have HL1 := wanted_take fs k hlt
      have hkl : (k : Int) < (fs.length : Int) := by omega
      have hbr : b < wr.heap.size := World.block_lt_of_cell? _ _ e0
      generalize fs.getD k frg0 = f at *
      obtain ⟨s, al, g, bs, sz, rs⟩ := f
      simp only at e0 e1 e2 e3 e4 e5 hRl hr8 HL1
      have HL2 : Hid (M.wantedNames (fs.take (k + 1)) = M.wantedNames (fs.take k) ++ M.wantedOf rs) := HL1
      clear HL1
      generalize bs.length = nb at *
      go_upto_region 6 with fail
      have HBy : Below wr.heap.size wr (wr.alloc (.cells #[.int .i64 s, .int .i64 al, .string g, .slice ab nb cb, .int .i64 sz, .slice ar rs.length cr] 29)) := (Below.refl _ _).alloc (Nat.le_refl _) _
      have hmY : w.heap.size + 1 < (wr.alloc (.cells #[.int .i64 s, .int .i64 al, .string g, .slice ab nb cb, .int .i64 sz, .slice ar rs.length cr] 29)).heap.size := by simp; omega
      have HOX : Hid _ := HO.out.alloc (.cells #[.int .i64 s, .int .i64 al, .string g, .slice ab nb cb, .int .i64 sz, .slice ar rs.length cr] 29)
      have HBX : Hid (Below w.heap.size w (wr.alloc (.cells #[.int .i64 s, .int .i64 al, .string g, .slice ab nb cb, .int .i64 sz, .slice ar rs.length cr] 29))) := HB.out.alloc hwr _
      have HRl : Hid (RelsAt (wr.alloc (.cells #[.int .i64 s, .int .i64 al, .string g, .slice ab nb cb, .int .i64 sz, .slice ar rs.length cr] 29)) (.slice ar rs.length cr) rs) := hRl.later HBy
      have HBW : Hid (RelsAt wr (.slice ar rs.length cr) rs) := hRl
      clear HO HB e0 e1 e2 e3 e4 e5 hRl HBy HBW
      generalize wr.alloc (.cells #[.int .i64 s, .int .i64 al, .string g, .slice ab nb cb, .int .i64 sz, .slice ar rs.length cr] 29) = X at *
      clear hwr hml hbr
      have hwX : w.heap.size ≤ X.heap.size := HBX.out.size
      go_loopw [19] (fun s19 wi => ∃ (j : Nat) (D : DataW Unit), j ≤ rs.length ∧ s19 = .int .i64 j ∧ Hid (SetOf D (M.wantedNames (fs.take k) ++ M.wantedOf (rs.take j))) ∧ Hid (wi.ownsMap Tryd.prog 9 (plainElem Tryd.prog 4) (w.heap.size + 1) (k * 8 + j) D) ∧ Hid (Below w.heap.size w wi) ∧ Hid (RelsAt wi (.slice ar rs.length cr) rs)) (fun s19 _ => rs.length - (intOf s19).toNat)
      case atStart => exact ⟨0, D, Nat.zero_le _, rfl, by simpa [Hid, M.wantedOf] using HS.out, HOX, HBX, HRl⟩
      case round =>
        obtain ⟨j, D, hj, rfl, HS, HO, HB, HRl⟩ := hrel
        clear HOX HBX
        have hwr : w.heap.size ≤ wr.heap.size := HB.out.size
        have hml : w.heap.size + 1 < wr.heap.size := HO.out.lt
        by_cases hjt : j < rs.length
        · obtain ⟨b', off', rfl, e0, e1, e2, e3, e4⟩ := relsAt_cells HRl.out j hjt
          have hbr' : b' < wr.heap.size := World.block_lt_of_cell? _ _ e0
          have hnm := (HRl.out.2 _ (getD_mem rs rel0 j hjt)).1
          have HM1 := wants_take rs j hjt
          have hjl : (j : Int) < (rs.length : Int) := by omega
          generalize rs.getD j rel0 = r at *
          obtain ⟨pos, kd, nm, fr, ad⟩ := r
          simp only at e0 e1 e2 e3 e4 HM1 hnm
          have hown := HO.out.alloc (.cells #[.int .i64 pos, .int .i64 kd, .string nm, .int .i64 fr, .int .i64 ad] 76)
          have HBy : Below wr.heap.size wr (wr.alloc (.cells #[.int .i64 pos, .int .i64 kd, .string nm, .int .i64 fr, .int .i64 ad] 76)) := (Below.refl _ _).alloc (Nat.le_refl _) _
          have HBA : Hid (Below w.heap.size w (wr.alloc (.cells #[.int .i64 pos, .int .i64 kd, .string nm, .int .i64 fr, .int .i64 ad] 76))) := HB.out.alloc hwr _
          have HRA : Hid _ := HRl.out.later HBy
          clear HO HB HRl HBy
          cases hb : M.bare nm
          · rw [hb] at HM1
            have HM2 : Hid (M.wantedOf (rs.take (j + 1)) = M.wantedOf (rs.take j) ++ [nm]) := HM1
            have hb' : nm.toList.isEmpty = false := hb
            have HS1 : Hid _ := HS.out.put nm
            clear HM1 hb HS
            have hkey : keyOf Tryd.prog 9 (.string nm) = some (.string nm.data.toList) := WideMaps.keyOf_string_mk Tryd.underlying9 hnm
            go_wp2_with (first | (at_mapUpdate; refine wpList_mapUpdate_own _ rfl _ _ _ 90 rfl 9 4 keySR Tryd.underlying90 _ (w.heap.size + 1) (k * 8 + j) _ rfl hown (by unfold maxLen; omega) _ _ _ rfl rfl hkey _ [] (plainElem_bool Tryd.underlying4 true) ?_; intro w1 hown1 hgrow1) | go_in)
            go_roundw
            case rel => exact ⟨j + 1, _, by omega, by go_num, by rw [Hid, HM2.out, ← List.append_assoc]; exact HS1.out, hown1, HBA.out.grown hgrow1 HBA.out.size (fun j hj => by cases hj; omega), rels_map HRA.out hown hgrow1⟩
            case measure => simp [intOf]; omega
          · rw [hb] at HM1
            have HM2 : Hid (M.wantedOf (rs.take (j + 1)) = M.wantedOf (rs.take j)) := by rw [Hid, HM1]; simp
            have hb' : nm.toList.isEmpty = true := hb
            have HO1 : Hid _ := hown.mono (Nat.le_succ (k * 8 + j))
            clear HM1 hb hown
            go_wp2
            go_roundw
            case rel => exact ⟨j + 1, D, by omega, by go_num, by rw [Hid, HM2.out]; exact HS.out, HO1.out, HBA, HRA⟩
            case measure => simp [intOf]; omega
        · have hjl : j = rs.length := by omega
          subst hjl
          have HO1 : Hid _ := HO.out.mono (show k * 8 + rs.length ≤ (k + 1) * 8 by omega)
          have HS1 : Hid (SetOf D (M.wantedNames (fs.take (k + 1)))) := by
            rw [Hid, HL2.out]
            have := HS.out
            rwa [List.take_length] at this
          clear HO HS
          go_wp2
          go_roundw
          case rel => exact ⟨k + 1, D, by omega, by go_num, HS1, HO1.out, HB⟩
          case measure => simp [intOf]; omega
    · have hkl : k = fs.length := by omega
      subst hkl
      have HS1 := HS.out
      rw [List.take_length] at HS1
      have KS : Hid (Calls Tryd.prog 63 #[.map (some (w.heap.size + 1))] wr _) := set_g HO.out (by omega) HS1 m hm
      clear HS1 HS HO
      go_wp2_with (go_at_call 63; refine KS.out.mono ?_; rintro e w1 ⟨hb1, x, y, rfl, ho, hz, hln⟩)
      go_ret
      exact ⟨HB.out.trans (hb1.mono hwr), x, y, _, rfl, ho, hwr, hz, by omega⟩

end Go.Proofs.YthbdfnphnppagaaDoor

namespace Go.Proofs.YthbdfnphnppagaaDoor
open Go Go.RowKit Go.Maps
set_option linter.unusedVariables false

/-- a slice, told by where it lies -/
def slElem : Value → Option (DataW Unit × List MemPlace)
  | .slice none 0 0 => some (.nil, [])
  | .slice (some ⟨g, 0, none⟩) n c => some (.agg [.lit (.int .i64 g), .lit (.int .i64 n), .lit (.int .i64 c)], [])
  | _ => none

def datS (v : Value) : DataW Unit := ((slElem v).getD (.nil, [])).1

theorem slElem_inj {a b : Value} {x : DataW Unit} {p p' : List MemPlace} (h1 : slElem a = some (x, p)) (h2 : slElem b = some (x, p')) : a = b := by
  unfold slElem at h1 h2
  split at h1 <;> split at h2 <;> simp_all
  all_goals (obtain ⟨rfl, _⟩ := h1; simp at h2; try (obtain ⟨⟨h3, h4, h5⟩, _⟩ := h2; exact ⟨by omega, by omega, by omega⟩))

theorem slElem_own {w : World} {B k n : Nat} {e : TypeId} {v : Value} {xs : List Value} (h : w.ownsRow B e k v n xs) : slElem v = some (datS v, []) := by
  rcases h.2 with ⟨rfl, _⟩ | ⟨g, cap, cur, rfl, _⟩ <;> rfl

theorem keyI : Keyed Tryd.prog 3 := int_keyed Tryd.underlying3

/-- a row is no map -/
theorem row_map {H : Type} {w : World} {B k n b m : Nat} {e kt : TypeId} {v : Value} {xs : List Value} {R : Value → Option (DataW H × List MemPlace)} {D : DataW H} (h : w.ownsRow B e k v n xs) (ho : w.ownsMap Tryd.prog kt R b m D) : v.ownBlock = none ∨ v.ownBlock ≠ some b := by
  rcases h.2 with ⟨rfl, _⟩ | ⟨g, cap, cur, rfl, _, hb, _⟩
  · exact .inl rfl
  · right
    intro he
    cases he
    obtain ⟨es, clock, hm, _⟩ := ho
    rw [hm] at hb
    cases hb

/-- the definitions of a name, by their kinds -/
structure Grp (wr : World) (B0 B k : Nat) (D : DataW Unit) (ds : List M.Dfn) (s : ByteArray) (v : Int → Value) : Prop where
  map : wr.ownsMap Tryd.prog 3 slElem B k D
  isMap : IsMap D
  at_ : ∀ q, D.atKey (.int .i64 q) .nil = datS (v q)
  row : ∀ q, wr.ownsRow B0 53 6 (v q) (M.ofKind ds s q).length ((M.ofKind ds s q).flatMap encDfn)
  ap : ∀ q q', q ≠ q' → (v q).ownBlock = none ∨ (v q).ownBlock ≠ (v q').ownBlock

theorem Grp.later {wr X : World} {B0 B k : Nat} {D : DataW Unit} {ds : List M.Dfn} {s : ByteArray} {v : Int → Value} (h : Grp wr B0 B k D ds s v) (hb : Below wr.heap.size wr X) : Grp X B0 B k D ds s v :=
  ⟨h.map.kept (grown_of_below hb none) (by simp), h.isMap, h.at_, fun q => (h.row q).kept (grown_of_below hb none) own_self, h.ap⟩

/-- what is looked up -/
theorem Grp.look {wr : World} {B0 B k : Nat} {D : DataW Unit} {ds : List M.Dfn} {s : ByteArray} {v : Int → Value} (h : Grp wr B0 B k D ds s v) (q : Int) (hq : (Lit.int .i64 q).wf = true) :
    (Instr.lookup 93 (.map (some B)) (.int .i64 q) false).run Tryd.prog wr = .ok (v q) wr := by
  obtain ⟨x, ps, hrun, hx⟩ := h.map.lookup keyI Tryd.underlying93 (z := .slice none 0 0) (zd := .nil) (zp := []) (by kernel_rfl) rfl (keyOf_int_mk Tryd.underlying3 hq)
  rw [h.at_ q] at hx
  rw [hrun, slElem_inj hx (slElem_own (h.row q))]

theorem ofKind_snoc (ds : List M.Dfn) (s : ByteArray) (q : Int) (d : M.Dfn) : M.ofKind (ds ++ [d]) s q = M.ofKind ds s q ++ bif M.isDef s q d then [d] else [] := by
  unfold M.ofKind
  rw [List.filter_append, List.filter_cons, List.filter_nil]
  cases M.isDef s q d <;> rfl

theorem Grp.skip {wr : World} {B0 B k : Nat} {D : DataW Unit} {ds : List M.Dfn} {s : ByteArray} {v : Int → Value} {d : M.Dfn} (h : Grp wr B0 B k D ds s v) (hd : (d.name.toList == s.toList) = false) : Grp wr B0 B (k + 1) D (ds ++ [d]) s v := by
  refine ⟨h.map.mono (Nat.le_succ _), h.isMap, h.at_, fun q => ?_, h.ap⟩
  rw [ofKind_snoc]
  unfold M.isDef
  rw [hd, Bool.false_and, cond_false, List.append_nil]
  exact h.row q

theorem Grp.put {X w5 : World} {B0 B k : Nat} {D : DataW Unit} {ds : List M.Dfn} {s : ByteArray} {v : Int → Value} {d : M.Dfn} {v5 : Value} (h : Grp X B0 B k D ds s v) (hk : k < 1000) (hg : X.grownBy w5 (v d.kind).ownBlock)
    (ho : w5.ownsRow B0 53 6 v5 ((M.ofKind ds s d.kind).length + 1) ((M.ofKind ds s d.kind).flatMap encDfn ++ encDfn d)) (hat : (v d.kind).ownBlock = v5.ownBlock ∨ v5.ownBlock = some X.heap.size) (hd : (d.name.toList == s.toList) = true) (hq : (Lit.int .i64 d.kind).wf = true) :
    ∃ w6, (Instr.mapUpdate 93 (.map (some B)) (.int .i64 d.kind) v5).run Tryd.prog w5 = .ok () w6 ∧ w5.grownBy w6 (some B) ∧ Grp w6 B0 B (k + 1) (D.put (.int .i64 d.kind) (datS v5)) (ds ++ [d]) s (fun q => if q = d.kind then v5 else v q) := by
  have hm5 := h.map.kept hg (by
    intro e
    rcases row_map (h.row d.kind) h.map with h1 | h1
    · rw [h1] at e; cases e
    · exact h1 e.symm)
  obtain ⟨w6, hrun, hown6, hg6⟩ := hm5.update keyI Tryd.underlying93 (by unfold maxLen; omega) (keyOf_int_mk Tryd.underlying3 hq) (slElem_own ho)
  refine ⟨w6, hrun, hg6, hown6, h.isMap.put _ _, fun q => ?_, fun q => ?_, fun q q' hne => ?_⟩
  · by_cases e : q = d.kind
    · subst e
      rw [if_pos rfl, atKey_put_same h.isMap (by trivial)]
    · rw [if_neg e, atKey_put_other (by simpa using e)]
      exact h.at_ q
  · rw [ofKind_snoc]
    unfold M.isDef
    rw [hd, Bool.true_and]
    by_cases e : q = d.kind
    · subst e
      rw [if_pos rfl]
      simp only [beq_self_eq_true, cond_true, List.length_append, List.flatMap_append, List.flatMap_cons, List.flatMap_nil, List.append_nil, List.length_singleton]
      exact ho.kept hg6 (row_map ho hm5)
    · rw [if_neg e]
      have : (d.kind == q) = false := by rw [beq_eq_false_iff_ne]; exact fun h => e h.symm
      rw [this, cond_false, List.append_nil]
      have h1 := (h.row q).kept hg (h.ap q d.kind e)
      exact h1.kept hg6 (row_map h1 hm5)
  · have fresh : ∀ q, (v q).ownBlock = none ∨ (v q).ownBlock ≠ some X.heap.size := fun q => by
      cases hv : (v q).ownBlock with
      | none => exact .inl rfl
      | some g =>
        right
        intro e
        cases e
        have := ((h.row q).lt _ hv).2
        omega
    by_cases e : q = d.kind
    · subst e
      rw [if_pos rfl, if_neg (fun h => hne h.symm)]
      rcases hat with h1 | h1
      · rw [← h1]; exact h.ap _ _ hne
      · rw [h1]
        right
        intro e2
        rcases fresh q' with h2 | h2
        · rw [h2] at e2; cases e2
        · exact h2 e2.symm
    · rw [if_neg e]
      by_cases e' : q' = d.kind
      · subst e'
        rw [if_pos rfl]
        rcases hat with h1 | h1
        · rw [← h1]; exact h.ap _ _ hne
        · rw [h1]; exact fresh q
      · rw [if_neg e']; exact h.ap _ _ hne

theorem Grp.made (w : World) (B0 : Nat) (s : ByteArray) : Grp (w.alloc (.map #[] 0)) B0 w.heap.size 0 (.map []) [] s (fun _ => .slice none 0 0) :=
  ⟨World.ownsMap_made _ _ _ _, isMap_empty, fun q => rfl, fun q => World.ownsRow_nil _ _ _ _, fun q q' _ => .inl rfl⟩

end Go.Proofs.YthbdfnphnppagaaDoor

namespace Go.Proofs.YthbdfnphnppagaaDoor
open Go Go.RowKit Go.Maps
set_option linter.unusedVariables false

theorem defs_row {w : World} {B : Nat} {v : Value} {ds : List M.Dfn} (h : w.ownsRow B 53 6 v ds.length (ds.flatMap encDfn)) (k : Nat) (hk : k < ds.length) :
    ∃ g cap, v = .slice (some ⟨g, 0, none⟩) ds.length cap ∧ ∀ i, i < 6 → w.cell? ⟨g, 0 + k * 6 + i, none⟩ = some ((encDfn (ds.getD k dfn0)).getD i undef) := by
  have hs := row_slice (k := 6) dfn0 encDfn (fun _ => rfl) ds h
  rcases h.2 with ⟨h1, h2⟩ | ⟨g, cap, cur, h1, _⟩
  · omega
  · rw [h1] at hs
    obtain ⟨b, off, he, hc⟩ := hs.at k hk
    cases he
    exact ⟨g, cap, h1, hc⟩

theorem row_form {w : World} {B k n : Nat} {e : TypeId} {v : Value} {xs : List Value} (h : w.ownsRow B e k v n xs) : ∃ ad cc, v = .slice ad n cc := by
  rcases h.2 with ⟨h1, h2⟩ | ⟨g, cap, cur, h1, _⟩
  · exact ⟨none, 0, by rw [h1, h2]⟩
  · exact ⟨_, _, h1⟩

theorem name_of_beq {a b : ByteArray} (h : (a.toList == b.toList) = true) : a = b := by
  have h' : a.toList = b.toList := by simpa using h
  rw [Lib.toList_data, Lib.toList_data] at h'
  rw [← M.of_txt a, ← M.of_txt b]
  unfold M.txt'
  rw [h']

theorem plain_common' {d : M.Dfn} (h : M.plainDfn d = 0) (hk : (d.kind == 3) = true) : d.frag = 0 ∧ d.pos = 0 ∧ 0 ≤ d.size ∧ 0 ≤ d.align := by
  have hk' : d.kind = 3 := by simpa using hk
  unfold M.plainDfn at h
  split at h
  · cases h
  rw [if_neg (by omega)] at h
  cases hb : (d.frag == 0 && d.pos == 0 && M.within d.size 1 64 && M.isAlign d.align)
  · rw [hb] at h; cases h
  · simp only [Bool.and_eq_true, Bool.or_eq_true, beq_iff_eq, M.within, M.isAlign, decide_eq_true_eq] at hb
    omega

/-- the reference's common definition -/
def zeroDfn (s : ByteArray) : M.Dfn := ⟨s, 3, 0, 0, 0, 0⟩

theorem foldl_zero (s : ByteArray) (l : List M.Dfn) (h0 : 0 < l.length) (h : ∀ d ∈ l, M.isDef s 3 d = true ∧ M.plainDfn d = 0) : l.foldl M.grow (zeroDfn s) = M.greatest l := by
  cases l with
  | nil => simp at h0
  | cons x l =>
    obtain ⟨h1, h2⟩ := h x (List.mem_cons_self ..)
    unfold M.isDef at h1
    rw [Bool.and_eq_true] at h1
    obtain ⟨hf, hp, hs, ha⟩ := plain_common' h2 h1.2
    have hn : x.name = s := name_of_beq h1.1
    have hk : x.kind = 3 := by simpa using h1.2
    unfold M.greatest
    rw [List.foldl_cons, List.foldl_cons, List.headD_cons]
    congr 1
    obtain ⟨nm, kd, fr, pos, sz, al⟩ := x
    simp only at hf hp hs ha hn hk
    subst hf hp hn hk
    simp only [M.grow, zeroDfn, Int.max_self, Int.max_eq_right hs, Int.max_eq_right ha]

set_option maxHeartbeats 8000000 in
set_option maxRecDepth 100000 in
theorem rfound_any (ds : List M.Dfn) (s : ByteArray) (a1 a2 : Option Addr) (n1 c1 c2 : Nat) (w : World) (hd : DefsAt w (.slice a2 ds.length c2) ds) (h60 : ds.length ≤ 60) (hp : ∀ d ∈ ds, M.plainDfn d = 0) :
    Calls Tryd.prog 37 #[.agg #[.slice a1 n1 c1, .slice a2 ds.length c2], .string s] w fun e w' => e = .returned (.tuple #[.agg (dfnArr (M.find ds s).1), .int .i64 (M.find ds s).2]) ∧ Below w.heap.size w w' := by
  obtain ⟨i3, hi3, hu0, hu1, hu2⟩ := info_parts (P := Tryd.prog) (e := 53) (z := .agg #[.string ⟨#[]⟩, .int .i64 0, .int .i64 0, .int .i64 0, .int .i64 0, .int .i64 0]) (size := 6) (bytes := 56) (by kernel_rfl)
  have hmm := @run_makeMap Tryd.prog
  have HD : Hid (DefsAt w (.slice a2 ds.length c2) ds) := hd
  have HP : Hid (∀ d ∈ ds, M.plainDfn d = 0) := hp
  clear hd hp
  go_enter Tryd.func37, Tryd.ntmps37
  go_upto_region 3 with fail
  have HY : Hid (∃ Y, Y = ((w.alloc (.cells #[.slice a1 n1 c1, .slice a2 ds.length c2] 25)).alloc (.cells #[.string ⟨#[]⟩, .int .i64 0, .int .i64 0, .int .i64 0, .int .i64 0, .int .i64 0] 53)).alloc (.map #[] 0) ∧ Below w.heap.size w Y ∧ Y.heap[w.heap.size + 1]? = some (.cells #[.string ⟨#[]⟩, .int .i64 0, .int .i64 0, .int .i64 0, .int .i64 0, .int .i64 0] 53 (0, 0)) ∧ Grp Y (w.heap.size + 3) (w.heap.size + 1 + 1) 0 (.map []) [] s (fun _ => .slice none 0 0)) := by
    refine ⟨_, rfl, (((Below.refl _ _).alloc (Nat.le_refl _) _).alloc (by simp) _).alloc (by simp; omega) _, (heap_alloc_old _ _ (by simp)).trans (heap_alloc2_new _ _ _), ?_⟩
    have := Grp.made ((w.alloc (.cells #[.slice a1 n1 c1, .slice a2 ds.length c2] 25)).alloc (.cells #[.string ⟨#[]⟩, .int .i64 0, .int .i64 0, .int .i64 0, .int .i64 0, .int .i64 0] 53)) (w.heap.size + 3) s
    simpa using this
  obtain ⟨Y, hY, hBY, hqY, hGY⟩ := HY.out
  rw [← hY]
  clear hY HY hmm
  have HBY : Hid (Below w.heap.size w Y) := hBY
  have HQY : Hid (Y.heap[w.heap.size + 1]? = some (.cells #[.string ⟨#[]⟩, .int .i64 0, .int .i64 0, .int .i64 0, .int .i64 0, .int .i64 0] 53 (0, 0))) := hqY
  have HGY : Hid (Grp Y (w.heap.size + 3) (w.heap.size + 1 + 1) 0 (.map []) [] s (fun _ => .slice none 0 0)) := hGY
  clear hBY hqY hGY
  go_loopw [16] (fun s16 wr => ∃ (k : Nat) (D : DataW Unit) (v : Int → Value), k ≤ ds.length ∧ s16 = .int .i64 k ∧ Hid (Grp wr (w.heap.size + 3) (w.heap.size + 1 + 1) k D (ds.take k) s v) ∧ Hid (Below w.heap.size w wr) ∧ Hid (wr.heap[w.heap.size + 1]? = some (.cells #[.string ⟨#[]⟩, .int .i64 0, .int .i64 0, .int .i64 0, .int .i64 0, .int .i64 0] 53 (0, 0)))) (fun s16 _ => ds.length - (intOf s16).toNat)
  case atStart => exact ⟨0, _, _, Nat.zero_le _, rfl, HGY, HBY, HQY⟩
  case round =>
    obtain ⟨k, D, v, hk, rfl, HG, HB, HQ⟩ := hrel
    clear HGY HBY HQY
    have hml : w.heap.size + 1 + 1 < wr.heap.size := HG.out.map.lt
    by_cases hlt : k < ds.length
    · obtain ⟨b, off, rfl, e0, e1, e2, e3, e4, e5, hnm⟩ := (HD.out.later HB.out).cells k hlt
      have hbr : b < wr.heap.size := World.block_lt_of_cell? _ _ e0
      have hkl : (k : Int) < (ds.length : Int) := by omega
      have HT : Hid (ds.take (k + 1) = ds.take k ++ [ds.getD k dfn0]) := by
        rw [Hid, List.take_succ_eq_append_getElem hlt, List.getD_eq_getElem?_getD, List.getElem?_eq_getElem hlt]; rfl
      have hpl := HP.out _ (getD_mem ds dfn0 k hlt)
      generalize ds.getD k dfn0 = d at *
      obtain ⟨nm, kd, fg, pos, sz, al⟩ := d
      simp only at e0 e1 e2 e3 e4 e5 hnm
      have hwf : (Lit.int .i64 kd).wf = true := by
        unfold M.plainDfn at hpl
        split at hpl
        · cases hpl
        split at hpl
        · rename_i h; rcases h with h | h <;> (simp only at h; subst h; decide)
        split at hpl
        · rename_i h; simp only at h; subst h; decide
        · cases hpl
      clear hpl
      cases hq : (nm.toList == s.toList)
      · have HG1 : Hid (Grp wr (w.heap.size + 3) (w.heap.size + 1 + 1) (k + 1) D (ds.take (k + 1)) s v) := by rw [Hid, HT.out]; exact HG.out.skip hq
        have hq' : (nm.toList == s.toList) = false := hq
        have HEx : Hid (∀ o, Below wr.heap.size wr (wr.alloc o)) := fun o => (Below.refl _ _).alloc (Nat.le_refl _) o
        clear HG hq
        go_wp2
        go_roundw
        case rel => exact ⟨k + 1, D, v, by omega, by go_num, HG1.out.later (HEx.out _), HB.out.trans ((HEx.out _).mono HB.out.size), ((HEx.out _).block _ (by omega)).trans HQ.out⟩
        case measure => simp [intOf]; omega
      · go_upto_region 6 with fail
        have xf := heap_alloc_new wr (.cells #[.string nm, .int .i64 kd, .int .i64 fg, .int .i64 pos, .int .i64 sz, .int .i64 al] 53)
        have hGX : Grp (wr.alloc (.cells #[.string nm, .int .i64 kd, .int .i64 fg, .int .i64 pos, .int .i64 sz, .int .i64 al] 53)) (w.heap.size + 3) (w.heap.size + 1 + 1) k D (ds.take k) s v := HG.out.later ((Below.refl _ _).alloc (Nat.le_refl _) _)
        have HBX : Hid (Below w.heap.size w (wr.alloc (.cells #[.string nm, .int .i64 kd, .int .i64 fg, .int .i64 pos, .int .i64 sz, .int .i64 al] 53))) := HB.out.alloc HB.out.size _
        have HQX : Hid ((wr.alloc (.cells #[.string nm, .int .i64 kd, .int .i64 fg, .int .i64 pos, .int .i64 sz, .int .i64 al] 53)).heap[w.heap.size + 1]? = some (.cells #[.string ⟨#[]⟩, .int .i64 0, .int .i64 0, .int .i64 0, .int .i64 0, .int .i64 0] 53 (0, 0))) := (heap_alloc_old _ _ (by omega)).trans HQ.out
        have HN : Hid (∀ q g, (v q).ownBlock = some g → g < wr.heap.size ∧ w.heap.size + 3 ≤ g) := fun q g hg => ⟨((HG.out.row q).lt g hg).2, ((HG.out.row q).lt g hg).1⟩
        clear HG HB HQ e0 e1 e2 e3 e4 e5 hbr
        have hml' : w.heap.size + 1 + 1 < wr.heap.size := hml
        clear hml
        generalize wr.alloc (.cells #[.string nm, .int .i64 kd, .int .i64 fg, .int .i64 pos, .int .i64 sz, .int .i64 al] 53) = X at *
        generalize wr.heap.size = nf at *
        have hlf : nf < X.heap.size := (Array.getElem?_eq_some_iff.1 xf).1
        have hA0 : Below X.heap.size X X.drew := (Below.refl _ _).drew
        have hA1 : Below X.heap.size X (X.alloc (.cells #[.string nm, .int .i64 kd, .int .i64 fg, .int .i64 pos, .int .i64 sz, .int .i64 al] 53)).drew := ((Below.refl _ _).alloc (Nat.le_refl _) _).drew
        have HSX : Hid (∀ W : World, W.heap[nf]? = X.heap[nf]? → W.cell? ⟨nf, 0, none⟩ = some (.string nm) ∧ W.cell? ⟨nf, 1, none⟩ = some (.int .i64 kd) ∧ W.cell? ⟨nf, 2, none⟩ = some (.int .i64 fg) ∧ W.cell? ⟨nf, 3, none⟩ = some (.int .i64 pos) ∧ W.cell? ⟨nf, 4, none⟩ = some (.int .i64 sz) ∧ W.cell? ⟨nf, 5, none⟩ = some (.int .i64 al)) := fun W hW => by
          have := hW.trans xf
          exact ⟨cellB this 0, cellB this 1, cellB this 2, cellB this 3, cellB this 4, cellB this 5⟩
        have hG0 := hGX.later hA0
        have hG1 := hGX.later hA1
        have hl0 := hG0.look kd hwf
        have hl1 := hG1.look kd hwf
        have hrow1 := hG1.row kd
        have hle1 : (M.ofKind (ds.take k) s kd).length ≤ 60 := Nat.le_trans (kind_le _ _ _) (by rw [List.length_take]; omega)
        have hB3 : w.heap.size + 3 ≤ (X.alloc (.cells #[.string nm, .int .i64 kd, .int .i64 fg, .int .i64 pos, .int .i64 sz, .int .i64 al] 53)).drew.heap.size := by show _ ≤ (X.alloc (.cells #[.string nm, .int .i64 kd, .int .i64 fg, .int .i64 pos, .int .i64 sz, .int .i64 al] 53)).heap.size; rw [World.size_alloc]; omega
        have hnews : ∀ j u, (#[.string nm, .int .i64 kd, .int .i64 fg, .int .i64 pos, .int .i64 sz, .int .i64 al] : Array Value).toList[j]? = some u → (X.alloc (.cells #[.string nm, .int .i64 kd, .int .i64 fg, .int .i64 pos, .int .i64 sz, .int .i64 al] 53)).drew.cell? ((⟨X.heap.size, 0, none⟩ : Addr).add j) = some u := World.news_of_block (w := (X.alloc (.cells #[.string nm, .int .i64 kd, .int .i64 fg, .int .i64 pos, .int .i64 sz, .int .i64 al] 53)).drew) (heap_alloc_new X _)
        have HE : Hid (∀ g cap w5, w5.ownsRow (w.heap.size + 3) 53 6 (.slice (some ⟨g, 0, none⟩) ((M.ofKind (ds.take k) s kd).length + 1) cap) ((M.ofKind (ds.take k) s kd).length + 1) ((M.ofKind (ds.take k) s kd).flatMap encDfn ++ (#[.string nm, .int .i64 kd, .int .i64 fg, .int .i64 pos, .int .i64 sz, .int .i64 al] : Array Value).toList) → (X.alloc (.cells #[.string nm, .int .i64 kd, .int .i64 fg, .int .i64 pos, .int .i64 sz, .int .i64 al] 53)).drew.grownBy w5 (v kd).ownBlock → ((v kd).ownBlock = some g ∨ g = X.heap.size + 1) → g < w5.heap.size →
            w5.heap[nf]? = X.heap[nf]? ∧ ∃ w6, (Instr.mapUpdate 93 (.map (some (w.heap.size + 1 + 1))) (.int .i64 kd) (.slice (some ⟨g, 0, none⟩) ((M.ofKind (ds.take k) s kd).length + 1) cap)).run Tryd.prog w5 = .ok () w6 ∧ w6.heap[nf]? = X.heap[nf]? ∧
              Grp w6 (w.heap.size + 3) (w.heap.size + 1 + 1) (k + 1) (D.put (.int .i64 kd) (datS (.slice (some ⟨g, 0, none⟩) ((M.ofKind (ds.take k) s kd).length + 1) cap))) (ds.take (k + 1)) s (fun q => if q = kd then (.slice (some ⟨g, 0, none⟩) ((M.ofKind (ds.take k) s kd).length + 1) cap) else v q) ∧ Below w.heap.size w w6 ∧ w6.heap[w.heap.size + 1]? = some (.cells #[.string ⟨#[]⟩, .int .i64 0, .int .i64 0, .int .i64 0, .int .i64 0, .int .i64 0] 53 (0, 0))) := fun g cap w5 ho hg hat hlt5 => by
          have hz1 : (X.alloc (.cells #[.string nm, .int .i64 kd, .int .i64 fg, .int .i64 pos, .int .i64 sz, .int .i64 al] 53)).drew.heap.size = X.heap.size + 1 := World.size_alloc X _
          have b5 : ∀ j, j < nf + 1 → (∀ q, (v q).ownBlock ≠ some j) → w5.heap[j]? = X.heap[j]? := fun j hj hne => (hg.block j (by rw [hz1]; omega) (fun e => hne kd e.symm)).trans (hA1.block _ (by omega))
          have n5 := b5 nf (by omega) (fun q e => by have := (HN.out q _ e).1; omega)
          have q5 := b5 (w.heap.size + 1) (by omega) (fun q e => by have := (HN.out q _ e).2; omega)
          obtain ⟨w6, hrun, hg6, hG6⟩ := hG1.put (d := ⟨nm, kd, fg, pos, sz, al⟩) (v5 := .slice (some ⟨g, 0, none⟩) ((M.ofKind (ds.take k) s kd).length + 1) cap) (by omega) hg ho (by rcases hat with h | h; exact .inl h; exact .inr (by rw [h, hz1]; rfl)) hq hwf
          have s5 : (X.alloc (.cells #[.string nm, .int .i64 kd, .int .i64 fg, .int .i64 pos, .int .i64 sz, .int .i64 al] 53)).drew.heap.size ≤ w5.heap.size := hg.size
          have B5 : Below w.heap.size w w5 := ((HBX.out.trans (hA1.mono HBX.out.size))).grown hg (HBX.out.trans (hA1.mono HBX.out.size)).size (fun j hj => by have := (HN.out kd j hj).2; omega)
          refine ⟨n5, w6, hrun, (hg6.block nf (by omega) (by intro e; have := Option.some.inj e; omega)).trans n5, ?_, B5.grown hg6 B5.size (fun j hj => by have := Option.some.inj hj; omega), ((hg6.block (w.heap.size + 1) (by omega) (by intro e; have := Option.some.inj e; omega)).trans q5).trans HQX.out⟩
          rw [HT.out]
          exact hG6
        clear HBX HQX HN hG0 hG1 hGX HD HP xf
        generalize (M.ofKind (ds.take k) s kd).flatMap encDfn = XS at *
        generalize (M.ofKind (ds.take k) s kd).length = L at *
        go_region_held3 (fun w' => w'.cell? ⟨nf, 0, none⟩ = some (.string nm) ∧ w'.cell? ⟨nf, 1, none⟩ = some (.int .i64 kd) ∧ w'.cell? ⟨nf, 2, none⟩ = some (.int .i64 fg) ∧ w'.cell? ⟨nf, 3, none⟩ = some (.int .i64 pos) ∧ w'.cell? ⟨nf, 4, none⟩ = some (.int .i64 sz) ∧ w'.cell? ⟨nf, 5, none⟩ = some (.int .i64 al)) (first | exact HSX.out _ n6 | exact HSX.out _ n5 | exact HSX.out _ (hA1.block _ hlf) | exact HSX.out _ (hA0.block _ hlf)) ((refine step_append_lies _ (by rfl) _ _ _ (by rfl) (w.heap.size + 3) 53 i3 (.agg #[.string ⟨#[]⟩, .int .i64 0, .int .i64 0, .int .i64 0, .int .i64 0, .int .i64 0]) 6 56 Tryd.underlying23 hi3 hu0 hu1 hu2 rfl (by decide) (v kd) L XS (by rfl) hrow1 ⟨X.heap.size, 0, none⟩ 1 1 #[.string nm, .int .i64 kd, .int .i64 fg, .int .i64 pos, .int .i64 sz, .int .i64 al].toList (by rfl) (by rfl) hnews (fun u hu => by simp at hu; rcases hu with rfl | rfl | rfl | rfl | rfl | rfl <;> rfl) (by omega) (by unfold maxLen; omega) (by omega) hB3 (X.heap.size + 1) (by simp) ?_; intro g cap w5 hown5 hgrow5 hat5 hlt5; obtain ⟨n5, w6, hrun6, n6, hG6, hB6, hQ6⟩ := HE.out g cap w5 hown5 hgrow5 hat5 hlt5))
        all_goals
          clear HE hl0 hl1 hrun6 hrow1 hnews
          go_wp2
          go_roundw
          case rel => exact ⟨k + 1, _, _, by omega, by go_num, hG6, hB6, hQ6⟩
          case measure => simp [intOf]; omega
    · have hkl : k = ds.length := by omega
      subst hkl
      have HG1 : Hid (Grp wr (w.heap.size + 3) (w.heap.size + 1 + 1) ds.length D ds s v) := by have := HG.out; rwa [List.take_length] at this
      clear HG
      have l1 := kind_le ds s 1
      have l3 := kind_le ds s 3
      have l2 := kind_le ds s 2
      have HF : Hid (M.find ds s = M.findIn (M.ofKind ds s 1) (M.ofKind ds s 3) (M.ofKind ds s 2)) := rfl
      unfold M.findIn at HF
      have q := HQ.out
      have d0 : wr.cell? ⟨w.heap.size + 1, 0, none⟩ = some (.string ⟨#[]⟩) := cellB q 0
      have d1 : wr.cell? ⟨w.heap.size + 1, 1, none⟩ = some (.int .i64 0) := cellB q 1
      have d2 : wr.cell? ⟨w.heap.size + 1, 2, none⟩ = some (.int .i64 0) := cellB q 2
      have d3 : wr.cell? ⟨w.heap.size + 1, 3, none⟩ = some (.int .i64 0) := cellB q 3
      have d4 : wr.cell? ⟨w.heap.size + 1, 4, none⟩ = some (.int .i64 0) := cellB q 4
      have d5 : wr.cell? ⟨w.heap.size + 1, 5, none⟩ = some (.int .i64 0) := cellB q 5
      have z0 := frozenB q 0
      have z1 := frozenB q 1
      have z2 := frozenB q 2
      have z3 := frozenB q 3
      have z4 := frozenB q 4
      have z5 := frozenB q 5
      have hl1 := HG1.out.look 1 (by decide)
      have hl2 := HG1.out.look 2 (by decide)
      have hl3 := HG1.out.look 3 (by decide)
      have HRet : Hid (∀ (d : M.Dfn), Below w.heap.size w ((((((wr.setCell ⟨w.heap.size + 1, 0, none⟩ (.string d.name)).setCell ⟨w.heap.size + 1, 1, none⟩ (.int .i64 d.kind)).setCell ⟨w.heap.size + 1, 2, none⟩ (.int .i64 d.frag)).setCell ⟨w.heap.size + 1, 3, none⟩ (.int .i64 d.pos)).setCell ⟨w.heap.size + 1, 4, none⟩ (.int .i64 d.size)).setCell ⟨w.heap.size + 1, 5, none⟩ (.int .i64 d.align))) := fun d =>
        (((((HB.out.setCell (by show w.heap.size ≤ w.heap.size + 1; omega) _).setCell (by show w.heap.size ≤ w.heap.size + 1; omega) _).setCell (by show w.heap.size ≤ w.heap.size + 1; omega) _).setCell (by show w.heap.size ≤ w.heap.size + 1; omega) _).setCell (by show w.heap.size ≤ w.heap.size + 1; omega) _).setCell (by show w.heap.size ≤ w.heap.size + 1; omega) _
      obtain ⟨x1, y1, hv1⟩ := row_form (HG1.out.row 1)
      by_cases h1 : 1 < (M.ofKind ds s 1).length
      · have HF' : Hid (M.find ds s = (M.dfnZ, 6)) := by rw [Hid, HF.out, if_pos h1]
        have ht : decide (1 < ((M.ofKind ds s 1).length : Int)) = true := by simp; omega
        have HE := HRet.out M.dfnZ
        rw [hv1] at hl1
        clear HF HG1 HRet HB HQ q HP HD
        go_wp2
        refine bodyPost_ret (v := .tuple #[.agg (dfnArr M.dfnZ), .int .i64 6]) (by simp [results, Tryd.results37, go_sem, d0, d1, d2, d3, d4, d5, dfnArr, M.dfnZ]) rfl ?_
        exact ⟨by rw [HF'.out], HE⟩
      have ht : decide (1 < ((M.ofKind ds s 1).length : Int)) = false := by simp; omega
      by_cases h2 : (M.ofKind ds s 1).length = 1
      · have HF' : Hid (M.find ds s = ((M.ofKind ds s 1).headD M.dfnZ, 0)) := by rw [Hid, HF.out, if_neg h1, if_pos h2]
        have ht2 : (((M.ofKind ds s 1).length : Int) == 1) = true := by simp; omega
        have hlen : (0 : Int) < ((M.ofKind ds s 1).length : Int) := by omega
        obtain ⟨g, cap, hv, hc⟩ := defs_row (HG1.out.row 1) 0 (by omega)
        have hhd : (M.ofKind ds s 1).getD 0 dfn0 = (M.ofKind ds s 1).headD M.dfnZ := getD_head _ (by omega)
        rw [hhd] at hc
        rw [hv] at hl1
        have e0 := hc 0 (by omega)
        have e1 := hc 1 (by omega)
        have e2 := hc 2 (by omega)
        have e3 := hc 3 (by omega)
        have e4 := hc 4 (by omega)
        have e5 := hc 5 (by omega)
        have hbr : g < wr.heap.size := World.block_lt_of_cell? _ _ e0
        clear hc hhd
        generalize (M.ofKind ds s 1).headD M.dfnZ = d at *
        obtain ⟨nm, kd, fr, pos, sz, al⟩ := d
        simp only [encDfn, List.getD_cons_zero, List.getD_cons_succ, Nat.zero_mul, Nat.add_zero, Nat.zero_add] at e0 e1 e2 e3 e4 e5
        have HE := HRet.out ⟨nm, kd, fr, pos, sz, al⟩
        clear HF HG1 HRet HB HQ q HP HD
        go_wp2
        refine bodyPost_ret (v := .tuple #[.agg (dfnArr ⟨nm, kd, fr, pos, sz, al⟩), .int .i64 0]) (by simp [results, Tryd.results37, go_sem, d0, d1, d2, d3, d4, d5, dfnArr]) rfl ?_
        exact ⟨by rw [HF'.out], HE⟩
      have ht2 : (((M.ofKind ds s 1).length : Int) == 1) = false := by simp; omega
      rw [hv1] at hl1
      clear hv1
      obtain ⟨x3, y3, hv3⟩ := row_form (HG1.out.row 3)
      by_cases h3 : 0 < (M.ofKind ds s 3).length
      · have HF' : Hid (M.find ds s = (M.greatest (M.ofKind ds s 3), 0)) := by rw [Hid, HF.out, if_neg h1, if_neg h2, if_pos h3]
        have h3' : (0 : Int) < ((M.ofKind ds s 3).length : Int) := by omega
        obtain ⟨W0, hW0⟩ : ∃ W0, W0 = wr := ⟨_, rfl⟩
        subst hW0
        have HGr : Hid ((M.ofKind ds s 3).foldl M.grow (zeroDfn s) = M.greatest (M.ofKind ds s 3)) := foldl_zero s _ h3 fun d hd => ⟨(List.mem_filter.1 hd).2, HP.out d (List.mem_filter.1 hd).1⟩
        rw [hv3] at hl3
        have HR3 : Hid (∀ W, Below W0.heap.size W0 W → ∀ j, j < (M.ofKind ds s 3).length → ∃ g cap, Value.slice x3 (M.ofKind ds s 3).length y3 = .slice (some ⟨g, 0, none⟩) (M.ofKind ds s 3).length cap ∧ ∀ i, i < 6 → W.cell? ⟨g, 0 + j * 6 + i, none⟩ = some ((encDfn ((M.ofKind ds s 3).getD j dfn0)).getD i undef)) := fun W hW j hj => by
          have := defs_row ((HG1.out.later hW).row 3) j hj
          rwa [hv3] at this
        have hX0 : Below W0.heap.size W0 (W0.alloc (.cells #[.string s, .int .i64 3, .int .i64 0, .int .i64 0, .int .i64 0, .int .i64 0] 53)) := (Below.refl _ _).alloc (Nat.le_refl _) _
        have xv := heap_alloc_new W0 (.cells #[.string s, .int .i64 3, .int .i64 0, .int .i64 0, .int .i64 0, .int .i64 0] 53)
        have hl3' := (HG1.out.later hX0).look 3 (by decide)
        rw [hv3] at hl3'
        have hlw : w.heap.size + 1 < W0.heap.size := (Array.getElem?_eq_some_iff.1 q).1
        clear HG1 HP HD HF hv3 hl2 l1 l2 d0 d1 d2 d3 d4 d5 z0 z1 z2 z3 z4 z5 q HRet
        generalize M.ofKind ds s 3 = L3 at *
        go_upto_region 14 with fail
        generalize W0.alloc (.cells #[.string s, .int .i64 3, .int .i64 0, .int .i64 0, .int .i64 0, .int .i64 0] 53) = X0 at *
        go_upto_region 15 with fail
        go_loopw [60] (fun s60 wr => ∃ (j : Nat) (a b : Int), j ≤ L3.length ∧ s60 = .int .i64 j ∧ Hid ((L3.take j).foldl M.grow (zeroDfn s) = ⟨s, 3, 0, 0, a, b⟩) ∧ Hid (Below W0.heap.size W0 wr) ∧ wr.heap[W0.heap.size]? = some (.cells #[.string s, .int .i64 3, .int .i64 0, .int .i64 0, .int .i64 a, .int .i64 b] 53 (0, 0))) (fun s60 _ => L3.length - (intOf s60).toNat)
        case atStart => exact ⟨0, 0, 0, Nat.zero_le _, rfl, rfl, hX0, xv⟩
        case round =>
          obtain ⟨j, a, b, hj, rfl, HE, HBq, xq⟩ := hrel
          clear hX0 xv hl3' hl3 hl1
          have hlq : W0.heap.size < wr.heap.size := (Array.getElem?_eq_some_iff.1 xq).1
          by_cases hlt : j < L3.length
          · obtain ⟨g, cap, he, hc⟩ := HR3.out wr HBq.out j hlt
            cases he
            have e0 := hc 0 (by omega)
            have e1 := hc 1 (by omega)
            have e2 := hc 2 (by omega)
            have e3 := hc 3 (by omega)
            have e4 := hc 4 (by omega)
            have e5 := hc 5 (by omega)
            have hgq : g < wr.heap.size := World.block_lt_of_cell? _ _ e0
            have hjl : (j : Int) < (L3.length : Int) := by omega
            have HE1 : (L3.take (j + 1)).foldl M.grow (zeroDfn s) = M.grow ⟨s, 3, 0, 0, a, b⟩ (L3.getD j dfn0) := by
              rw [List.take_succ_eq_append_getElem hlt, List.foldl_append, HE.out, List.foldl_cons, List.foldl_nil, List.getD_eq_getElem?_getD, List.getElem?_eq_getElem hlt]; rfl
            clear hc
            generalize L3.getD j dfn0 = d at *
            obtain ⟨nm, kd, fr, pos, sz, al⟩ := d
            have HE2 : Hid ((L3.take (j + 1)).foldl M.grow (zeroDfn s) = ⟨s, 3, 0, 0, max a sz, max b al⟩) := HE1
            clear HE1 HE
            simp only [encDfn, List.getD_cons_zero, List.getD_cons_succ, Nat.add_zero, Nat.zero_add] at e0 e1 e2 e3 e4 e5
            go_upto_region 17 with fail
            have xv2 : (wr.alloc (.cells #[.string nm, .int .i64 kd, .int .i64 fr, .int .i64 pos, .int .i64 sz, .int .i64 al] 53)).heap[W0.heap.size]? = some (.cells #[.string s, .int .i64 3, .int .i64 0, .int .i64 0, .int .i64 a, .int .i64 b] 53 (0, 0)) := (heap_alloc_old _ _ hlq).trans xq
            have xd := heap_alloc_new wr (.cells #[.string nm, .int .i64 kd, .int .i64 fr, .int .i64 pos, .int .i64 sz, .int .i64 al] 53)
            have HBX : Hid (Below W0.heap.size W0 (wr.alloc (.cells #[.string nm, .int .i64 kd, .int .i64 fr, .int .i64 pos, .int .i64 sz, .int .i64 al] 53))) := HBq.out.alloc HBq.out.size _
            clear HBq xq e0 e1 e2 e3 e4 e5
            generalize wr.alloc (.cells #[.string nm, .int .i64 kd, .int .i64 fr, .int .i64 pos, .int .i64 sz, .int .i64 al] 53) = X2 at *
            generalize wr.heap.size = nx at *
            have hlv : W0.heap.size < X2.heap.size := (Array.getElem?_eq_some_iff.1 xv2).1
            have k4 : X2.cell? ⟨W0.heap.size, 4, none⟩ = some (.int .i64 a) := cellB xv2 4
            have k5 : X2.cell? ⟨W0.heap.size, 5, none⟩ = some (.int .i64 b) := cellB xv2 5
            have m4 : X2.cell? ⟨nx, 4, none⟩ = some (.int .i64 sz) := cellB xd 4
            have m5 : X2.cell? ⟨nx, 5, none⟩ = some (.int .i64 al) := cellB xd 5
            have HEnd : Hid (∀ x : World, Below X2.heap.size X2 x → Below W0.heap.size W0 ((x.setCell ⟨W0.heap.size, 4, none⟩ (.int .i64 (max a sz))).setCell ⟨W0.heap.size, 5, none⟩ (.int .i64 (max b al))) ∧ ((x.setCell ⟨W0.heap.size, 4, none⟩ (.int .i64 (max a sz))).setCell ⟨W0.heap.size, 5, none⟩ (.int .i64 (max b al))).heap[W0.heap.size]? = some (.cells #[.string s, .int .i64 3, .int .i64 0, .int .i64 0, .int .i64 (max a sz), .int .i64 (max b al)] 53 (0, 0))) := fun x hx => by
              have r1 := (hx.block _ hlv).trans xv2
              have r2 : (x.setCell ⟨W0.heap.size, 4, none⟩ (.int .i64 (max a sz))).heap[W0.heap.size]? = some (.cells #[.string s, .int .i64 3, .int .i64 0, .int .i64 0, .int .i64 (max a sz), .int .i64 b] 53 (0, 0)) := setB' r1 _
              have r3 : ((x.setCell ⟨W0.heap.size, 4, none⟩ (.int .i64 (max a sz))).setCell ⟨W0.heap.size, 5, none⟩ (.int .i64 (max b al))).heap[W0.heap.size]? = some (.cells #[.string s, .int .i64 3, .int .i64 0, .int .i64 0, .int .i64 (max a sz), .int .i64 (max b al)] 53 (0, 0)) := setB' r2 _
              exact ⟨((HBX.out.trans (hx.mono HBX.out.size)).setCell (p := ⟨W0.heap.size, 4, none⟩) (Nat.le_refl _) _).setCell (p := ⟨W0.heap.size, 5, none⟩) (Nat.le_refl _) _, r3⟩
            have HZ : Hid (X2.heap[W0.heap.size]? = some (.cells #[.string s, .int .i64 3, .int .i64 0, .int .i64 0, .int .i64 a, .int .i64 b] 53 (0, 0))) := xv2
            clear xv2 xd HBX
            have hnn : nx ≠ W0.heap.size := by omega
            have hnx : nx < X2.heap.size := World.block_lt_of_cell? _ _ m4
            have HSX : Hid (∀ W : World, W.heap[nx]? = X2.heap[nx]? → W.cell? ⟨nx, 4, none⟩ = some (.int .i64 sz) ∧ W.cell? ⟨nx, 5, none⟩ = some (.int .i64 al)) := fun W hW => ⟨(World.cell?_of_block hW).trans m4, (World.cell?_of_block hW).trans m5⟩
            have z4 := frozenB HZ.out 4
            have z5 := frozenB HZ.out 5
            have HEnd' := HEnd.out X2.drew (Below.refl _ _).drew
            clear HEnd HZ
            go_big_region
            all_goals
              clear HSX k4 k5 m4 m5 z4 z5
              go_wp2
              go_roundw
              case rel => exact ⟨j + 1, max a sz, max b al, by omega, by go_num, HE2, HEnd'.1, HEnd'.2⟩
              case measure => simp [intOf]; omega
          · have hjl : j = L3.length := by omega
            subst hjl
            have HF2 : Hid (M.find ds s = (⟨s, 3, 0, 0, a, b⟩, 0)) := by
              have := HE.out
              rw [List.take_length] at this
              rw [Hid, HF'.out, ← HGr.out, this]
            have HBw : Hid (Below w.heap.size w wr) := HB.out.trans (HBq.out.mono HB.out.size)
            have q := (HBq.out.block (w.heap.size + 1) hlw).trans HQ.out
            have d0 : wr.cell? ⟨w.heap.size + 1, 0, none⟩ = some (.string ⟨#[]⟩) := cellB q 0
            have d1 : wr.cell? ⟨w.heap.size + 1, 1, none⟩ = some (.int .i64 0) := cellB q 1
            have d2 : wr.cell? ⟨w.heap.size + 1, 2, none⟩ = some (.int .i64 0) := cellB q 2
            have d3 : wr.cell? ⟨w.heap.size + 1, 3, none⟩ = some (.int .i64 0) := cellB q 3
            have d4 : wr.cell? ⟨w.heap.size + 1, 4, none⟩ = some (.int .i64 0) := cellB q 4
            have d5 : wr.cell? ⟨w.heap.size + 1, 5, none⟩ = some (.int .i64 0) := cellB q 5
            have z0 := frozenB q 0
            have z1 := frozenB q 1
            have z2 := frozenB q 2
            have z3 := frozenB q 3
            have z4 := frozenB q 4
            have z5 := frozenB q 5
            have k0 : wr.cell? ⟨W0.heap.size, 0, none⟩ = some (.string s) := cellB xq 0
            have k1 : wr.cell? ⟨W0.heap.size, 1, none⟩ = some (.int .i64 3) := cellB xq 1
            have k2 : wr.cell? ⟨W0.heap.size, 2, none⟩ = some (.int .i64 0) := cellB xq 2
            have k3 : wr.cell? ⟨W0.heap.size, 3, none⟩ = some (.int .i64 0) := cellB xq 3
            have k4 : wr.cell? ⟨W0.heap.size, 4, none⟩ = some (.int .i64 a) := cellB xq 4
            have k5 : wr.cell? ⟨W0.heap.size, 5, none⟩ = some (.int .i64 b) := cellB xq 5
            have HRet : Hid (Below w.heap.size w ((((((wr.setCell ⟨w.heap.size + 1, 0, none⟩ (.string s)).setCell ⟨w.heap.size + 1, 1, none⟩ (.int .i64 3)).setCell ⟨w.heap.size + 1, 2, none⟩ (.int .i64 0)).setCell ⟨w.heap.size + 1, 3, none⟩ (.int .i64 0)).setCell ⟨w.heap.size + 1, 4, none⟩ (.int .i64 a)).setCell ⟨w.heap.size + 1, 5, none⟩ (.int .i64 b))) :=
              (((((HBw.out.setCell (by show w.heap.size ≤ w.heap.size + 1; omega) _).setCell (by show w.heap.size ≤ w.heap.size + 1; omega) _).setCell (by show w.heap.size ≤ w.heap.size + 1; omega) _).setCell (by show w.heap.size ≤ w.heap.size + 1; omega) _).setCell (by show w.heap.size ≤ w.heap.size + 1; omega) _).setCell (by show w.heap.size ≤ w.heap.size + 1; omega) _
            clear HF' HGr HE HBw q xq HR3 HBq
            go_wp2
            refine bodyPost_ret (v := .tuple #[.agg (dfnArr ⟨s, 3, 0, 0, a, b⟩), .int .i64 0]) (by simp [results, Tryd.results37, go_sem, d0, d1, d2, d3, d4, d5, dfnArr]) rfl ?_
            exact ⟨by rw [HF2.out], HRet.out⟩
      have h3' : (M.ofKind ds s 3).length = 0 := by omega
      rw [hv3, h3'] at hl3
      clear hv3
      by_cases h4 : 0 < (M.ofKind ds s 2).length
      · have HF' : Hid (M.find ds s = ((M.ofKind ds s 2).headD M.dfnZ, 0)) := by rw [Hid, HF.out, if_neg h1, if_neg h2, if_neg h3, if_pos h4]
        have hlen : (0 : Int) < ((M.ofKind ds s 2).length : Int) := by omega
        obtain ⟨g, cap, hv, hc⟩ := defs_row (HG1.out.row 2) 0 (by omega)
        have hhd : (M.ofKind ds s 2).getD 0 dfn0 = (M.ofKind ds s 2).headD M.dfnZ := getD_head _ (by omega)
        rw [hhd] at hc
        rw [hv] at hl2
        have e0 := hc 0 (by omega)
        have e1 := hc 1 (by omega)
        have e2 := hc 2 (by omega)
        have e3 := hc 3 (by omega)
        have e4 := hc 4 (by omega)
        have e5 := hc 5 (by omega)
        have hbr : g < wr.heap.size := World.block_lt_of_cell? _ _ e0
        clear hc hhd
        generalize (M.ofKind ds s 2).headD M.dfnZ = d at *
        obtain ⟨nm, kd, fr, pos, sz, al⟩ := d
        simp only [encDfn, List.getD_cons_zero, List.getD_cons_succ, Nat.zero_mul, Nat.add_zero, Nat.zero_add] at e0 e1 e2 e3 e4 e5
        have HE := HRet.out ⟨nm, kd, fr, pos, sz, al⟩
        clear HF HG1 HRet HB HQ q HP HD
        go_wp2
        refine bodyPost_ret (v := .tuple #[.agg (dfnArr ⟨nm, kd, fr, pos, sz, al⟩), .int .i64 0]) (by simp [results, Tryd.results37, go_sem, d0, d1, d2, d3, d4, d5, dfnArr]) rfl ?_
        exact ⟨by rw [HF'.out], HE⟩
      · have HF' : Hid (M.find ds s = (M.dfnZ, 7)) := by rw [Hid, HF.out, if_neg h1, if_neg h2, if_neg h3, if_neg h4]
        have h4' : (M.ofKind ds s 2).length = 0 := by omega
        obtain ⟨x2, y2, hv2⟩ := row_form (HG1.out.row 2)
        rw [hv2, h4'] at hl2
        have HE := HRet.out M.dfnZ
        clear HF HG1 HRet HB HQ q HP HD h2 h1 h3 h4 h3' h4'
        go_wp2
        refine bodyPost_ret (v := .tuple #[.agg (dfnArr M.dfnZ), .int .i64 7]) (by simp [results, Tryd.results37, go_sem, d0, d1, d2, d3, d4, d5, dfnArr, M.dfnZ]) rfl ?_
        exact ⟨by rw [HF'.out], HE⟩

end Go.Proofs.YthbdfnphnppagaaDoor
