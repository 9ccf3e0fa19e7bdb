/-
  The contract of the reference's set: the keys of a set of texts, in rising order, each once. The contracts of the reference's WantedBy and DefinedBy.
-/
import Derived.Test.YtcpeeedmghbdhaaGreatDoorNmLib
import Derived.Maps.RangeWalk
import Derived.Maps.OwnSet
import Derived.Sort.KeysCollected
import Derived.Sort.OwnSorted

namespace Go.Proofs.YtcpeeedmghbdhaaGreatDoor
open Go Go.RowKit Go.Maps Go.Sort
set_option linter.unusedVariables false

theorem keySR : Keyed Tryz.prog 9 := string_keyed Tryz.underlying9

theorem sortStrings_own (l : List ByteArray) (B : Nat) (v : Value) (w : World) (h : w.ownsRow B 9 1 v l.length (l.map Value.string)) (hl : l.length ≤ 100000) :
    Calls Tryz.prog 64 #[v] w fun e w' => e = .returned (.tuple #[]) ∧ w.grownBy w' v.ownBlock ∧ w'.ownsRow B 9 1 v l.length ((ordered l).map Value.string) := by
  have KS : Hid (Calls Tryz.prog 76 #[v] w _) := sort_own l B v w h hl
  go_enter Tryz.func64, Tryz.ntmps64
  go_wp2_with (go_at_call 76; refine KS.out.mono ?_; rintro e w1 ⟨rfl, hg, ho⟩)
  refine bodyPost_end (v := .tuple #[]) (by simp [results, Tryz.results64, go_sem]) rfl ?_
  exact ⟨rfl, hg, ho⟩

/-- texts in order, none twice, rise -/
theorem ordered_strict {l : List ByteArray} (hn : (l.map M.txt').Nodup) : M.Strict (ordered l) := by
  unfold M.Strict ordered
  rw [List.pairwise_map]
  have hs : ((l.map M.txt').mergeSort fun x y => decide (x ≤ y)).Pairwise fun a b => (decide (a ≤ b)) = true := List.pairwise_mergeSort (fun a b c h1 h2 => by simp only [decide_eq_true_eq] at *; exact List.le_trans h1 h2) (fun a b => by simp only [Bool.or_eq_true, decide_eq_true_eq]; exact List.le_total a b) _
  have hd : ((l.map M.txt').mergeSort fun x y => decide (x ≤ y)).Nodup := (List.mergeSort_perm _ _).nodup_iff.2 hn
  refine (hs.and hd).imp fun {a b} h => ?_
  obtain ⟨h1, h2⟩ := h
  have h1' : a ≤ b := by simpa using h1
  show a < b
  exact Std.lt_of_le_of_ne h1' h2

theorem ordered_mem {l : List ByteArray} (s : ByteArray) : s ∈ ordered l ↔ s ∈ l := by
  unfold ordered
  rw [List.mem_map]
  constructor
  · rintro ⟨t, ht, rfl⟩
    obtain ⟨x, hx, rfl⟩ := List.mem_map.1 ((List.mergeSort_perm _ _).mem_iff.1 ht)
    rwa [M.of_txt]
  · intro h
    exact ⟨M.txt' s, (List.mergeSort_perm _ _).mem_iff.2 (List.mem_map.2 ⟨s, h, rfl⟩), M.of_txt s⟩

theorem plainElem_bool_inv {H : Type} {P : Program} {e : TypeId} (he : P.underlying e = some .bool) {v : Value} {z : DataW H × List MemPlace} (h : plainElem P e v = some z) : ∃ c : Nat, v = .bool (c != 0) := by
  cases v <;> simp [plainElem, he] at h
  rename_i x
  cases x
  · exact ⟨0, rfl⟩
  · exact ⟨1, rfl⟩

set_option maxHeartbeats 2000000 in
set_option maxRecDepth 100000 in
theorem set_any {H : Type} (D0 : DataW H) (b n : Nat) (w : World) (hown : w.ownsMap Tryz.prog 9 (plainElem Tryz.prog 4) b n D0) (hn : n ≤ 10000) :
    Calls Tryz.prog 50 #[.map (some b)] w fun e w' => Below w.heap.size w w' ∧ ∃ (l : List ByteArray) (v : Value), e = .returned v ∧ w'.ownsRow w.heap.size 9 1 v l.length (l.map Value.string) ∧
      M.Strict l ∧ (∀ s, s ∈ l ↔ Maps.has D0 (.string (M.txt' s)) = true) ∧ (∀ s ∈ l, s.size ≤ maxLen) ∧ l.length ≤ n := by
  obtain ⟨i0, hi, hz0, hz1, hz2⟩ := info_parts (P := Tryz.prog) (e := 9) (z := .string ⟨#[]⟩) (size := 1) (bytes := 16) (by kernel_rfl)
  have hbl := hown.lt
  have hsz := hown.size_le
  go_enter Tryz.func50, Tryz.ntmps50
  go_wp2_with (at_range; refine wpList_range_own _ rfl _ 65 rfl 9 4 keySR Tryz.underlying65 _ b n _ rfl hown ?_; intro w0 hrg0 hg0 hs0)
  go_frame
  go_loopw [3] (fun s3 wr => ∃ (left : Lit → Bool) (cnt : Nat) (ss : List (List UInt8)) (v : Value), v = s3 ∧ wr.ranges Tryz.prog 9 (plainElem Tryz.prog 4) b w.heap.size n D0 left cnt ∧ ss.length + cnt ≤ Maps.size D0 ∧
      wr.ownsRow w.heap.size 9 1 v ss.length (ss.map encStr) ∧ Collected D0 left ss ∧ (∀ x ∈ ss, x.length ≤ maxLen) ∧ Below w.heap.size w wr)
    (fun _ wr => wr.rangeLeft b w.heap.size)
  case atStart =>
    exact ⟨_, _, [], _, rfl, hrg0, by simp, World.ownsRow_nil _ _ _ _, Collected.start D0, (fun x hx => by cases hx), (Below.refl _ _).grown hg0 (Nat.le_refl _) (fun j hj => by cases hj)⟩
  case round =>
    obtain ⟨left, cnt, ss, v, rfl, hrg, hcs, hrow, hC, hle, hnx⟩ := hrel
    clear hrg0 hg0 hs0
    go_wp2_with (first
      | (at_next; refine wpList_next_ranges _ rfl _ rfl 9 keySR (plainElem Tryz.prog 4) encStr (fun c : Nat => Value.bool (c != 0)) (fun key kl hk => by obtain ⟨x, hx, _⟩ := Maps.keyOf_str Tryz.underlying9 hk; exact ⟨x, hx⟩) (fun v y hv => plainElem_bool_inv Tryz.underlying4 hv) b w.heap.size n _ _ _ rfl hrg ?_ ?_)
      | go_in)
    · intro hc0 hl0
      have e1 : ss.map encStr = (ss.map M.ofTxt).map Value.string := by rw [List.map_map]; rfl
      have e2 : (ss.map M.ofTxt).map M.txt' = ss := by rw [List.map_map]; exact List.map_id ss
      have hlen : (ss.map M.ofTxt).length = ss.length := List.length_map ..
      rw [e1, ← hlen] at hrow
      have KS : Hid (Calls Tryz.prog 64 #[v] wr _) := sortStrings_own _ _ _ wr hrow (by rw [hlen]; omega)
      have HFin : Hid (M.Strict (ordered (ss.map M.ofTxt)) ∧ (∀ s, s ∈ ordered (ss.map M.ofTxt) ↔ Maps.has D0 (.string (M.txt' s)) = true) ∧ (∀ s ∈ ordered (ss.map M.ofTxt), s.size ≤ maxLen) ∧ (ordered (ss.map M.ofTxt)).length ≤ n) := by
        refine ⟨ordered_strict (by rw [e2]; exact hC.1), fun s => ?_, fun s hs => ?_, by rw [ordered_len, hlen]; omega⟩
        · rw [ordered_mem, List.mem_map]
          constructor
          · rintro ⟨t, ht, rfl⟩
            exact ((hC.2 t).1 ht).1
          · intro h
            exact ⟨M.txt' s, (hC.2 _).2 ⟨h, hl0 _⟩, M.of_txt s⟩
        · rw [ordered_mem, List.mem_map] at hs
          obtain ⟨t, ht, rfl⟩ := hs
          exact (by simpa [M.ofTxt, ByteArray.size] using hle t ht)
      have HNx : Hid (Below w.heap.size w wr) := hnx
      have HRow : Hid (∀ j, v.ownBlock = some j → w.heap.size ≤ j) := fun j hj => (hrow.lt j hj).1
      clear hcs hC hle hnx hrow e1 e2 hlen hrg
      go_wp2_with (go_at_call 64; refine KS.out.mono ?_; rintro e w' ⟨rfl, hg, ho⟩)
      go_ret
      refine ⟨HNx.out.grown hg HNx.out.size (fun j hj => HRow.out j hj), ordered (ss.map M.ofTxt), _, rfl, ?_, HFin.out.1, HFin.out.2.1, HFin.out.2.2.1, HFin.out.2.2.2⟩
      rw [ordered_len]
      exact ho
    · intro x c kl yd yp w2 cnt2 hkey hlk hv hat hrg2 hlt hg2 hs2 hen
      obtain ⟨x', ex, rfl, hxl⟩ := Maps.keyOf_str Tryz.underlying9 hkey
      obtain rfl : x = x' := encStr_inj ex
      have hrow2 := hrow.kept hg2 (Or.inr (row_ne_iter hrow hrg).symm)
      have hz2' : wr.heap.size ≤ w2.heap.size := hg2.size
      have hwr : w.heap.size ≤ wr.heap.size := hnx.size
      clear hs2
      go_wp2_with (first
        | (at_builtin; refine wpList_append_own _ rfl _ _ 23 rfl w.heap.size 9 i0 (.string ⟨#[]⟩) 1 16 Tryz.underlying23 hi hz0 hz1 hz2 rfl (by decide) _ _ _ rfl (hrow2.alloc _) ⟨w2.heap.size, 0, none⟩ 1 1 [encStr x] rfl rfl (cell_one_new _ _ _) (by simp [Value.oneCell', encStr]) (by unfold maxLen at *; omega) (by omega) (by simp; omega) ?_; intro v' w3 hown' hg3 hnil3; go_frame)
        | go_in)
      have hrg3 := (hrg2.alloc _).kept hg3 (row_ne_low hrow2 hbl) (row_ne_iter hrow2 hrg2)
      go_roundw
      case rel =>
        refine ⟨_, cnt2, ss ++ [x], _, rfl, hrg3, by simp; omega, by simpa using hown', hC.step hlk hat, fun y hy => ?_, ?_⟩
        · rcases List.mem_append.1 hy with h | h
          · exact hle y h
          · rw [List.mem_singleton.1 h]; exact hxl
        · exact ((hnx.grown hg2 hnx.size (fun j hj => by cases hj; exact Nat.le_refl _)).alloc (by omega) _).grown hg3 (by simp; omega) (fun j hj => (hrow2.lt j hj).1)
      case measure => rw [hrg3.left_eq, hrg.left_eq]; exact hlt

end Go.Proofs.YtcpeeedmghbdhaaGreatDoor

namespace Go.Proofs.YtcpeeedmghbdhaaGreatDoor
open Go Go.RowKit Go.Maps Go.Sort
set_option linter.unusedVariables false

/-- a set of texts that holds just those of a list -/
def SetOf (D : DataW Unit) (l : List ByteArray) : Prop := IsMap D ∧ ∀ t, Maps.has D (.string t) = true ↔ t ∈ l.map M.txt'

theorem SetOf.nil : SetOf (.map []) [] := ⟨isMap_empty, fun t => by simp [Maps.has]⟩

theorem SetOf.put {D : DataW Unit} {l : List ByteArray} (h : SetOf D l) (s : ByteArray) : SetOf (D.put (.string s.data.toList) (.lit (.bool true))) (l ++ [s]) := by
  refine ⟨h.1.put _ _, fun t => ?_⟩
  rw [List.map_append, List.mem_append]
  by_cases ht : t = s.data.toList
  · subst ht
    rw [has_put_same h.1 (by trivial)]
    simp [M.txt']
  · rw [has_put_other (by simpa using ht), h.2 t]
    simp [M.txt', ht]

theorem SetOf.rising {D : DataW Unit} {l m : List ByteArray} (h : SetOf D l) (hs : M.Strict m) (hm : ∀ s, s ∈ m ↔ Maps.has D (.string (M.txt' s)) = true) : M.rising l = m :=
  M.rising_eq hs fun s => by
    rw [hm s, h.2]
    constructor
    · intro hx; exact List.mem_map.2 ⟨s, hx, rfl⟩
    · intro hx
      obtain ⟨y, hy, e⟩ := List.mem_map.1 hx
      have : y = s := by rw [← M.of_txt y, e, M.of_txt]
      rwa [this] at hy

/-- set, as a walk meets it -/
theorem set_g {D : DataW Unit} {l : List ByteArray} {b n : Nat} {w : World} (hown : w.ownsMap Tryz.prog 9 (plainElem Tryz.prog 4) b n D) (hn : n ≤ 10000) (h : SetOf D l) (m : List ByteArray) (hm : M.rising l = m) :
    Calls Tryz.prog 50 #[.map (some b)] w fun e w' => Below w.heap.size w w' ∧ ∃ x y, e = .returned (.slice x m.length y) ∧ w'.ownsRow w.heap.size 9 1 (.slice x m.length y) m.length (m.map Value.string) ∧ (∀ s ∈ m, s.size ≤ maxLen) ∧ m.length ≤ n := by
  refine (set_any D b n w hown hn).mono ?_
  rintro e w' ⟨hb, l', v, rfl, ho, hs, hmem, hz, hln⟩
  obtain rfl : m = l' := hm.symm.trans (h.rising hs hmem)
  rcases ho.2 with ⟨h1, h0⟩ | ⟨g, cap, cur, h1, _⟩
  · subst h1
    rw [h0] at ho
    refine ⟨hb, none, 0, by rw [h0], ?_, hz, hln⟩
    rw [h0]
    exact ho
  · subst h1
    exact ⟨hb, _, _, rfl, ho, hz, hln⟩

set_option maxHeartbeats 2000000 in
set_option maxRecDepth 100000 in
theorem definedBy_any (ds : List M.Dfn) (a1 a2 : Option Addr) (n1 c1 c2 : Nat) (w : World) (hd : DefsAt w (.slice a2 ds.length c2) ds) (h60 : ds.length ≤ 60) (m : List ByteArray) (hm : M.rising (M.definedNames ds) = m) :
    Calls Tryz.prog 29 #[.agg #[.slice a1 n1 c1, .slice a2 ds.length c2]] w fun e w' => Below w.heap.size w w' ∧ ∃ x y B, e = .returned (.slice x m.length y) ∧ w'.ownsRow B 9 1 (.slice x m.length y) m.length (m.map Value.string) ∧ w.heap.size ≤ B ∧ (∀ s ∈ m, s.size ≤ maxLen) ∧ m.length ≤ 60 := by
  have hmm := @run_makeMap Tryz.prog
  have HB0 : Hid (Below w.heap.size w ((w.alloc (.cells #[.slice a1 n1 c1, .slice a2 ds.length c2] 39)).alloc (.map #[] 0))) := ((Below.refl _ _).alloc (Nat.le_refl _) _).alloc (by simp) _
  have HO0 : Hid (((w.alloc (.cells #[.slice a1 n1 c1, .slice a2 ds.length c2] 39)).alloc (.map #[] 0)).ownsMap (H := Unit) Tryz.prog 9 (plainElem Tryz.prog 4) (w.heap.size + 1) 0 (.map [])) := by
    have := World.ownsMap_made (H := Unit) (w.alloc (.cells #[.slice a1 n1 c1, .slice a2 ds.length c2] 39)) Tryz.prog 9 (plainElem Tryz.prog 4)
    rwa [World.size_alloc] at this
  have HD : Hid (DefsAt w (.slice a2 ds.length c2) ds) := hd
  clear hd
  go_enter Tryz.func29, Tryz.ntmps29
  go_wp2_with fail
  go_loopw [10] (fun s10 wr => ∃ (k : Nat) (D : DataW Unit), k ≤ ds.length ∧ s10 = .int .i64 k ∧ Hid (SetOf D (M.definedNames (ds.take k))) ∧ Hid (wr.ownsMap Tryz.prog 9 (plainElem Tryz.prog 4) (w.heap.size + 1) k D) ∧ Hid (Below w.heap.size w wr)) (fun s10 _ => ds.length - (intOf s10).toNat)
  case atStart => exact ⟨0, .map [], Nat.zero_le _, rfl, SetOf.nil, HO0, HB0⟩
  case round =>
    obtain ⟨k, D, hk, rfl, HS, HO, HB⟩ := hrel
    clear HO0 HB0 hmm
    have hwr : w.heap.size ≤ wr.heap.size := HB.out.size
    have hml : w.heap.size + 1 < wr.heap.size := HO.out.lt
    by_cases hlt : k < ds.length
    · obtain ⟨b, off, rfl, e0, e1, e2, e3, e4, e5, hnm⟩ := (HD.out.later HB.out).cells k hlt
      have hbr : b < wr.heap.size := World.block_lt_of_cell? _ _ e0
      have hkl : (k : Int) < (ds.length : Int) := by omega
      have HS1 : Hid (SetOf (D.put (.string (ds.getD k dfn0).name.data.toList) (.lit (.bool true))) (M.definedNames (ds.take (k + 1)))) := by
        have := HS.out.put (ds.getD k dfn0).name
        unfold M.definedNames at this ⊢
        rw [List.take_succ_eq_append_getElem hlt, List.map_append]
        rw [List.getD_eq_getElem?_getD, List.getElem?_eq_getElem hlt] at this ⊢
        exact this
      clear HS
      generalize ds.getD k dfn0 = d at *
      obtain ⟨nm, kd, fg, pos, sz, al⟩ := d
      simp only at e0 e1 e2 e3 e4 e5 hnm HS1
      have hkey : keyOf Tryz.prog 9 (.string nm) = some (.string nm.data.toList) := WideMaps.keyOf_string_mk Tryz.underlying9 hnm
      have hown := HO.out.alloc (.cells #[.string nm, .int .i64 kd, .int .i64 fg, .int .i64 pos, .int .i64 sz, .int .i64 al] 51)
      have HBA : Hid (Below w.heap.size w (wr.alloc (.cells #[.string nm, .int .i64 kd, .int .i64 fg, .int .i64 pos, .int .i64 sz, .int .i64 al] 51))) := HB.out.alloc hwr _
      clear HO HB
      go_wp2_with (first | (at_mapUpdate; refine wpList_mapUpdate_own _ rfl _ _ _ 65 rfl 9 4 keySR Tryz.underlying65 _ (w.heap.size + 1) k _ rfl hown (by unfold maxLen; omega) _ _ _ rfl rfl hkey _ [] (plainElem_bool Tryz.underlying4 true) ?_; intro w1 hown1 hgrow1) | go_in)
      go_roundw
      case rel => exact ⟨k + 1, _, by omega, by go_num, HS1, hown1, HBA.out.grown hgrow1 HBA.out.size (fun j hj => by cases hj; omega)⟩
      case measure => simp [intOf]; omega
    · have hkl : k = ds.length := by omega
      subst hkl
      have HS1 := HS.out
      rw [List.take_length] at HS1
      have KS : Hid (Calls Tryz.prog 50 #[.map (some (w.heap.size + 1))] wr _) := set_g HO.out (by omega) HS1 m hm
      clear HS1 HS HO
      go_wp2_with (go_at_call 50; refine KS.out.mono ?_; rintro e w1 ⟨hb1, x, y, rfl, ho, hz, hln⟩)
      go_ret
      exact ⟨HB.out.trans (hb1.mono hwr), x, y, _, rfl, ho, hwr, hz, by omega⟩

/-- places stay as they are while a map is written -/
theorem sl_map {H : Type} {w w1 : World} {v : Value} {k n b m : Nat} {cell : Nat → Nat → Value} {kt : TypeId} {R : Value → Option (DataW H × List MemPlace)} {D : DataW H} (h : SlAt w v k n cell) (hk : 0 < k) (ho : w.ownsMap Tryz.prog kt R b m D) (hg : w.grownBy w1 (some b)) : SlAt w1 v k n cell := by
  obtain ⟨a, c, rfl, hn, h | ⟨b', off, rfl, h⟩⟩ := h
  · exact ⟨a, c, rfl, hn, .inl h⟩
  · refine ⟨_, c, rfl, hn, .inr ⟨b', off, rfl, fun j i hj hi => ?_⟩⟩
    have hc := h j i hj hi
    obtain ⟨es, clock, hb, _⟩ := ho
    have hne : b' ≠ b := fun e => by
      rw [e] at hc
      simp [World.cell?, hb] at hc
    have hlt := World.block_lt_of_cell? _ _ hc
    have := hg.block b' hlt (fun e => hne (Option.some.inj e))
    rw [← hc]
    simp [World.cell?, this]
theorem rels_map {H : Type} {w w1 : World} {v : Value} {rs : List M.Rel} {b m : Nat} {kt : TypeId} {R : Value → Option (DataW H × List MemPlace)} {D : DataW H} (h : RelsAt w v rs) (ho : w.ownsMap Tryz.prog kt R b m D) (hg : w.grownBy w1 (some b)) : RelsAt w1 v rs := ⟨sl_map h.1 (by decide) ho hg, h.2⟩

set_option maxHeartbeats 4000000 in
set_option maxRecDepth 100000 in
theorem wantedBy_any (fs : List M.Frg) (a1 a2 : Option Addr) (n2 c1 c2 : Nat) (w : World) (hf : FragsAt w (.slice a1 fs.length c1) fs) (h60 : fs.length ≤ 60) (h8 : ∀ f ∈ fs, f.rels.length ≤ 8) (m : List ByteArray) (hm : M.rising (M.wantedNames fs) = m) :
    Calls Tryz.prog 28 #[.agg #[.slice a1 fs.length c1, .slice a2 n2 c2]] w fun e w' => Below w.heap.size w w' ∧ ∃ x y B, e = .returned (.slice x m.length y) ∧ w'.ownsRow B 9 1 (.slice x m.length y) m.length (m.map Value.string) ∧ w.heap.size ≤ B ∧ (∀ s ∈ m, s.size ≤ maxLen) ∧ m.length ≤ 480 := by
  have hmm := @run_makeMap Tryz.prog
  have HB0 : Hid (Below w.heap.size w ((w.alloc (.cells #[.slice a1 fs.length c1, .slice a2 n2 c2] 39)).alloc (.map #[] 0))) := ((Below.refl _ _).alloc (Nat.le_refl _) _).alloc (by simp) _
  have HO0 : Hid (((w.alloc (.cells #[.slice a1 fs.length c1, .slice a2 n2 c2] 39)).alloc (.map #[] 0)).ownsMap (H := Unit) Tryz.prog 9 (plainElem Tryz.prog 4) (w.heap.size + 1) 0 (.map [])) := by
    have := World.ownsMap_made (H := Unit) (w.alloc (.cells #[.slice a1 fs.length c1, .slice a2 n2 c2] 39)) Tryz.prog 9 (plainElem Tryz.prog 4)
    rwa [World.size_alloc] at this
  have HF : Hid (FragsAt w (.slice a1 fs.length c1) fs) := hf
  have H8 : Hid (∀ f ∈ fs, f.rels.length ≤ 8) := h8
  clear hf h8
  go_enter Tryz.func28, Tryz.ntmps28
  go_wp2_with fail
  go_loopw [12] (fun s12 wr => ∃ (k : Nat) (D : DataW Unit), k ≤ fs.length ∧ s12 = .int .i64 k ∧ Hid (SetOf D (M.wantedNames (fs.take k))) ∧ Hid (wr.ownsMap Tryz.prog 9 (plainElem Tryz.prog 4) (w.heap.size + 1) (k * 8) D) ∧ Hid (Below w.heap.size w wr)) (fun s12 _ => fs.length - (intOf s12).toNat)
  case atStart => exact ⟨0, .map [], Nat.zero_le _, rfl, SetOf.nil, HO0, HB0⟩
  case round =>
    obtain ⟨k, D, hk, rfl, HS, HO, HB⟩ := hrel
    clear HO0 HB0 hmm
    have hwr : w.heap.size ≤ wr.heap.size := HB.out.size
    have hml : w.heap.size + 1 < wr.heap.size := HO.out.lt
    by_cases hlt : k < fs.length
    · obtain ⟨b, off, ab, cb, ar, cr, rfl, e0, e1, e2, e3, e4, e5, _, hRl, _, _⟩ := (HF.out.later HB.out).cells k hlt
      have hr8 := H8.out _ (getD_mem fs frg0 k hlt)
      have HL1 := wanted_take fs k hlt
      have hkl : (k : Int) < (fs.length : Int) := by omega
      have hbr : b < wr.heap.size := World.block_lt_of_cell? _ _ e0
      generalize fs.getD k frg0 = f at *
      obtain ⟨s, al, g, bs, sz, rs⟩ := f
      simp only at e0 e1 e2 e3 e4 e5 hRl hr8 HL1
      have HL2 : Hid (M.wantedNames (fs.take (k + 1)) = M.wantedNames (fs.take k) ++ M.wantedOf rs) := HL1
      clear HL1
      generalize bs.length = nb at *
      go_upto_region 6 with fail
      have HBy : Below wr.heap.size wr (wr.alloc (.cells #[.int .i64 s, .int .i64 al, .string g, .slice ab nb cb, .int .i64 sz, .slice ar rs.length cr] 59)) := (Below.refl _ _).alloc (Nat.le_refl _) _
      have hmY : w.heap.size + 1 < (wr.alloc (.cells #[.int .i64 s, .int .i64 al, .string g, .slice ab nb cb, .int .i64 sz, .slice ar rs.length cr] 59)).heap.size := by simp; omega
      have HOX : Hid _ := HO.out.alloc (.cells #[.int .i64 s, .int .i64 al, .string g, .slice ab nb cb, .int .i64 sz, .slice ar rs.length cr] 59)
      have HBX : Hid (Below w.heap.size w (wr.alloc (.cells #[.int .i64 s, .int .i64 al, .string g, .slice ab nb cb, .int .i64 sz, .slice ar rs.length cr] 59))) := HB.out.alloc hwr _
      have HRl : Hid (RelsAt (wr.alloc (.cells #[.int .i64 s, .int .i64 al, .string g, .slice ab nb cb, .int .i64 sz, .slice ar rs.length cr] 59)) (.slice ar rs.length cr) rs) := hRl.later HBy
      have HBW : Hid (RelsAt wr (.slice ar rs.length cr) rs) := hRl
      clear HO HB e0 e1 e2 e3 e4 e5 hRl HBy HBW
      generalize wr.alloc (.cells #[.int .i64 s, .int .i64 al, .string g, .slice ab nb cb, .int .i64 sz, .slice ar rs.length cr] 59) = X at *
      clear hwr hml hbr
      have hwX : w.heap.size ≤ X.heap.size := HBX.out.size
      go_loopw [19] (fun s19 wi => ∃ (j : Nat) (D : DataW Unit), j ≤ rs.length ∧ s19 = .int .i64 j ∧ Hid (SetOf D (M.wantedNames (fs.take k) ++ M.wantedOf (rs.take j))) ∧ Hid (wi.ownsMap Tryz.prog 9 (plainElem Tryz.prog 4) (w.heap.size + 1) (k * 8 + j) D) ∧ Hid (Below w.heap.size w wi) ∧ Hid (RelsAt wi (.slice ar rs.length cr) rs)) (fun s19 _ => rs.length - (intOf s19).toNat)
      case atStart => exact ⟨0, D, Nat.zero_le _, rfl, by simpa [Hid, M.wantedOf] using HS.out, HOX, HBX, HRl⟩
      case round =>
        obtain ⟨j, D, hj, rfl, HS, HO, HB, HRl⟩ := hrel
        clear HOX HBX
        have hwr : w.heap.size ≤ wr.heap.size := HB.out.size
        have hml : w.heap.size + 1 < wr.heap.size := HO.out.lt
        by_cases hjt : j < rs.length
        · obtain ⟨b', off', rfl, e0, e1, e2, e3, e4⟩ := relsAt_cells HRl.out j hjt
          have hbr' : b' < wr.heap.size := World.block_lt_of_cell? _ _ e0
          have hnm := (HRl.out.2 _ (getD_mem rs rel0 j hjt)).1
          have HM1 := wants_take rs j hjt
          have hjl : (j : Int) < (rs.length : Int) := by omega
          generalize rs.getD j rel0 = r at *
          obtain ⟨pos, kd, nm, fr, ad⟩ := r
          simp only at e0 e1 e2 e3 e4 HM1 hnm
          have hown := HO.out.alloc (.cells #[.int .i64 pos, .int .i64 kd, .string nm, .int .i64 fr, .int .i64 ad] 61)
          have HBy : Below wr.heap.size wr (wr.alloc (.cells #[.int .i64 pos, .int .i64 kd, .string nm, .int .i64 fr, .int .i64 ad] 61)) := (Below.refl _ _).alloc (Nat.le_refl _) _
          have HBA : Hid (Below w.heap.size w (wr.alloc (.cells #[.int .i64 pos, .int .i64 kd, .string nm, .int .i64 fr, .int .i64 ad] 61))) := HB.out.alloc hwr _
          have HRA : Hid _ := HRl.out.later HBy
          clear HO HB HRl HBy
          cases hb : M.bare nm
          · rw [hb] at HM1
            have HM2 : Hid (M.wantedOf (rs.take (j + 1)) = M.wantedOf (rs.take j) ++ [nm]) := HM1
            have hb' : nm.toList.isEmpty = false := hb
            have HS1 : Hid _ := HS.out.put nm
            clear HM1 hb HS
            have hkey : keyOf Tryz.prog 9 (.string nm) = some (.string nm.data.toList) := WideMaps.keyOf_string_mk Tryz.underlying9 hnm
            go_wp2_with (first | (at_mapUpdate; refine wpList_mapUpdate_own _ rfl _ _ _ 65 rfl 9 4 keySR Tryz.underlying65 _ (w.heap.size + 1) (k * 8 + j) _ rfl hown (by unfold maxLen; omega) _ _ _ rfl rfl hkey _ [] (plainElem_bool Tryz.underlying4 true) ?_; intro w1 hown1 hgrow1) | go_in)
            go_roundw
            case rel => exact ⟨j + 1, _, by omega, by go_num, by rw [Hid, HM2.out, ← List.append_assoc]; exact HS1.out, hown1, HBA.out.grown hgrow1 HBA.out.size (fun j hj => by cases hj; omega), rels_map HRA.out hown hgrow1⟩
            case measure => simp [intOf]; omega
          · rw [hb] at HM1
            have HM2 : Hid (M.wantedOf (rs.take (j + 1)) = M.wantedOf (rs.take j)) := by rw [Hid, HM1]; simp
            have hb' : nm.toList.isEmpty = true := hb
            have HO1 : Hid _ := hown.mono (Nat.le_succ (k * 8 + j))
            clear HM1 hb hown
            go_wp2
            go_roundw
            case rel => exact ⟨j + 1, D, by omega, by go_num, by rw [Hid, HM2.out]; exact HS.out, HO1.out, HBA, HRA⟩
            case measure => simp [intOf]; omega
        · have hjl : j = rs.length := by omega
          subst hjl
          have HO1 : Hid _ := HO.out.mono (show k * 8 + rs.length ≤ (k + 1) * 8 by omega)
          have HS1 : Hid (SetOf D (M.wantedNames (fs.take (k + 1)))) := by
            rw [Hid, HL2.out]
            have := HS.out
            rwa [List.take_length] at this
          clear HO HS
          go_wp2
          go_roundw
          case rel => exact ⟨k + 1, D, by omega, by go_num, HS1, HO1.out, HB⟩
          case measure => simp [intOf]; omega
    · have hkl : k = fs.length := by omega
      subst hkl
      have HS1 := HS.out
      rw [List.take_length] at HS1
      have KS : Hid (Calls Tryz.prog 50 #[.map (some (w.heap.size + 1))] wr _) := set_g HO.out (by omega) HS1 m hm
      clear HS1 HS HO
      go_wp2_with (go_at_call 50; refine KS.out.mono ?_; rintro e w1 ⟨hb1, x, y, rfl, ho, hz, hln⟩)
      go_ret
      exact ⟨HB.out.trans (hb1.mono hwr), x, y, _, rfl, ho, hwr, hz, by omega⟩

end Go.Proofs.YtcpeeedmghbdhaaGreatDoor
