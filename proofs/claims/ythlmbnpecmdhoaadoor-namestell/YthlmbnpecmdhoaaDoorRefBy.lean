/-
  The contracts of the reference's WantedBy and DefinedBy.
-/
import Derived.Test.YthlmbnpecmdhoaaDoorRefSet
namespace Go.Proofs.YthlmbnpecmdhoaaDoor
open Go Go.RowKit Go.Maps Go.Sort
set_option linter.unusedVariables false

/-- a set of texts that holds just those of a list -/
def SetOf (D : DataW Unit) (l : List ByteArray) : Prop := IsMap D ∧ ∀ t, Maps.has D (.string t) = true ↔ t ∈ l.map M.txt'

theorem SetOf.nil : SetOf (.map []) [] := ⟨isMap_empty, fun t => by simp [Maps.has]⟩

theorem SetOf.put {D : DataW Unit} {l : List ByteArray} (h : SetOf D l) (s : ByteArray) : SetOf (D.put (.string s.data.toList) (.lit (.bool true))) (l ++ [s]) := by
  refine ⟨h.1.put _ _, fun t => ?_⟩
  rw [List.map_append, List.mem_append]
  by_cases ht : t = s.data.toList
  · subst ht
    rw [has_put_same h.1 (by trivial)]
    simp [M.txt']
  · rw [has_put_other (by simpa using ht), h.2 t]
    simp [M.txt', ht]

theorem SetOf.rising {D : DataW Unit} {l m : List ByteArray} (h : SetOf D l) (hs : M.Strict m) (hm : ∀ s, s ∈ m ↔ Maps.has D (.string (M.txt' s)) = true) : M.rising l = m :=
  M.rising_eq hs fun s => by
    rw [hm s, h.2]
    constructor
    · intro hx; exact List.mem_map.2 ⟨s, hx, rfl⟩
    · intro hx
      obtain ⟨y, hy, e⟩ := List.mem_map.1 hx
      have : y = s := by rw [← M.of_txt y, e, M.of_txt]
      rwa [this] at hy

/-- set, as a walk meets it -/
theorem set_g {D : DataW Unit} {l : List ByteArray} {b n : Nat} {w : World} (hown : w.ownsMap Tryd.prog 9 (plainElem Tryd.prog 4) b n D) (hn : n ≤ 10000) (h : SetOf D l) (m : List ByteArray) (hm : M.rising l = m) :
    Calls Tryd.prog 29 #[.map (some b)] w fun e w' => Below w.heap.size w w' ∧ ∃ x y, e = .returned (.slice x m.length y) ∧ w'.ownsRow w.heap.size 9 1 (.slice x m.length y) m.length (m.map Value.string) ∧ (∀ s ∈ m, s.size ≤ maxLen) ∧ m.length ≤ n := by
  refine (set_any D b n w hown hn).mono ?_
  rintro e w' ⟨hb, l', v, rfl, ho, hs, hmem, hz, hln⟩
  obtain rfl : m = l' := hm.symm.trans (h.rising hs hmem)
  rcases ho.2 with ⟨h1, h0⟩ | ⟨g, cap, cur, h1, _⟩
  · subst h1
    rw [h0] at ho
    refine ⟨hb, none, 0, by rw [h0], ?_, hz, hln⟩
    rw [h0]
    exact ho
  · subst h1
    exact ⟨hb, _, _, rfl, ho, hz, hln⟩

set_option maxHeartbeats 2000000 in
set_option maxRecDepth 100000 in
theorem definedBy_any (ds : List M.Dfn) (a1 a2 : Option Addr) (n1 c1 c2 : Nat) (w : World) (hd : DefsAt w (.slice a2 ds.length c2) ds) (h60 : ds.length ≤ 60) (m : List ByteArray) (hm : M.rising (M.definedNames ds) = m) :
    Calls Tryd.prog 12 #[.agg #[.slice a1 n1 c1, .slice a2 ds.length c2]] w fun e w' => Below w.heap.size w w' ∧ ∃ x y B, e = .returned (.slice x m.length y) ∧ w'.ownsRow B 9 1 (.slice x m.length y) m.length (m.map Value.string) ∧ w.heap.size ≤ B ∧ (∀ s ∈ m, s.size ≤ maxLen) ∧ m.length ≤ 60 := by
  have hmm := @run_makeMap Tryd.prog
  have HB0 : Hid (Below w.heap.size w ((w.alloc (.cells #[.slice a1 n1 c1, .slice a2 ds.length c2] 25)).alloc (.map #[] 0))) := ((Below.refl _ _).alloc (Nat.le_refl _) _).alloc (by simp) _
  have HO0 : Hid (((w.alloc (.cells #[.slice a1 n1 c1, .slice a2 ds.length c2] 25)).alloc (.map #[] 0)).ownsMap (H := Unit) Tryd.prog 9 (plainElem Tryd.prog 4) (w.heap.size + 1) 0 (.map [])) := by
    have := World.ownsMap_made (H := Unit) (w.alloc (.cells #[.slice a1 n1 c1, .slice a2 ds.length c2] 25)) Tryd.prog 9 (plainElem Tryd.prog 4)
    rwa [World.size_alloc] at this
  have HD : Hid (DefsAt w (.slice a2 ds.length c2) ds) := hd
  clear hd
  go_enter Tryd.func12, Tryd.ntmps12
  go_wp2_with fail
  go_loopw [10] (fun s10 wr => ∃ (k : Nat) (D : DataW Unit), k ≤ ds.length ∧ s10 = .int .i64 k ∧ Hid (SetOf D (M.definedNames (ds.take k))) ∧ Hid (wr.ownsMap Tryd.prog 9 (plainElem Tryd.prog 4) (w.heap.size + 1) k D) ∧ Hid (Below w.heap.size w wr)) (fun s10 _ => ds.length - (intOf s10).toNat)
  case atStart => exact ⟨0, .map [], Nat.zero_le _, rfl, SetOf.nil, HO0, HB0⟩
  case round =>
    obtain ⟨k, D, hk, rfl, HS, HO, HB⟩ := hrel
    clear HO0 HB0 hmm
    have hwr : w.heap.size ≤ wr.heap.size := HB.out.size
    have hml : w.heap.size + 1 < wr.heap.size := HO.out.lt
    by_cases hlt : k < ds.length
    · obtain ⟨b, off, rfl, e0, e1, e2, e3, e4, e5, hnm⟩ := (HD.out.later HB.out).cells k hlt
      have hbr : b < wr.heap.size := World.block_lt_of_cell? _ _ e0
      have hkl : (k : Int) < (ds.length : Int) := by omega
      have HS1 : Hid (SetOf (D.put (.string (ds.getD k dfn0).name.data.toList) (.lit (.bool true))) (M.definedNames (ds.take (k + 1)))) := by
        have := HS.out.put (ds.getD k dfn0).name
        unfold M.definedNames at this ⊢
        rw [List.take_succ_eq_append_getElem hlt, List.map_append]
        rw [List.getD_eq_getElem?_getD, List.getElem?_eq_getElem hlt] at this ⊢
        exact this
      clear HS
      generalize ds.getD k dfn0 = d at *
      obtain ⟨nm, kd, fg, pos, sz, al⟩ := d
      simp only at e0 e1 e2 e3 e4 e5 hnm HS1
      have hkey : keyOf Tryd.prog 9 (.string nm) = some (.string nm.data.toList) := WideMaps.keyOf_string_mk Tryd.underlying9 hnm
      have hown := HO.out.alloc (.cells #[.string nm, .int .i64 kd, .int .i64 fg, .int .i64 pos, .int .i64 sz, .int .i64 al] 31)
      have HBA : Hid (Below w.heap.size w (wr.alloc (.cells #[.string nm, .int .i64 kd, .int .i64 fg, .int .i64 pos, .int .i64 sz, .int .i64 al] 31))) := HB.out.alloc hwr _
      clear HO HB
      go_wp2_with (first | (at_mapUpdate; refine wpList_mapUpdate_own _ rfl _ _ _ 60 rfl 9 4 keyS Tryd.underlying60 _ (w.heap.size + 1) k _ rfl hown (by unfold maxLen; omega) _ _ _ rfl rfl hkey _ [] (plainElem_bool Tryd.underlying4 true) ?_; intro w1 hown1 hgrow1) | go_in)
      go_roundw
      case rel => exact ⟨k + 1, _, by omega, by go_num, HS1, hown1, HBA.out.grown hgrow1 HBA.out.size (fun j hj => by cases hj; omega)⟩
      case measure => simp [intOf]; omega
    · have hkl : k = ds.length := by omega
      subst hkl
      have HS1 := HS.out
      rw [List.take_length] at HS1
      have KS : Hid (Calls Tryd.prog 29 #[.map (some (w.heap.size + 1))] wr _) := set_g HO.out (by omega) HS1 m hm
      clear HS1 HS HO
      go_wp2_with (go_at_call 29; refine KS.out.mono ?_; rintro e w1 ⟨hb1, x, y, rfl, ho, hz, hln⟩)
      go_ret
      exact ⟨HB.out.trans (hb1.mono hwr), x, y, _, rfl, ho, hwr, hz, by omega⟩

/-- places stay as they are while a map is written -/
theorem sl_map {H : Type} {w w1 : World} {v : Value} {k n b m : Nat} {cell : Nat → Nat → Value} {kt : TypeId} {R : Value → Option (DataW H × List MemPlace)} {D : DataW H} (h : SlAt w v k n cell) (hk : 0 < k) (ho : w.ownsMap Tryd.prog kt R b m D) (hg : w.grownBy w1 (some b)) : SlAt w1 v k n cell := by
  obtain ⟨a, c, rfl, hn, h | ⟨b', off, rfl, h⟩⟩ := h
  · exact ⟨a, c, rfl, hn, .inl h⟩
  · refine ⟨_, c, rfl, hn, .inr ⟨b', off, rfl, fun j i hj hi => ?_⟩⟩
    have hc := h j i hj hi
    obtain ⟨es, clock, hb, _⟩ := ho
    have hne : b' ≠ b := fun e => by
      rw [e] at hc
      simp [World.cell?, hb] at hc
    have hlt := World.block_lt_of_cell? _ _ hc
    have := hg.block b' hlt (fun e => hne (Option.some.inj e))
    rw [← hc]
    simp [World.cell?, this]
theorem rels_map {H : Type} {w w1 : World} {v : Value} {rs : List M.Rel} {b m : Nat} {kt : TypeId} {R : Value → Option (DataW H × List MemPlace)} {D : DataW H} (h : RelsAt w v rs) (ho : w.ownsMap Tryd.prog kt R b m D) (hg : w.grownBy w1 (some b)) : RelsAt w1 v rs := ⟨sl_map h.1 (by decide) ho hg, h.2⟩

set_option maxHeartbeats 4000000 in
set_option maxRecDepth 100000 in
theorem wantedBy_any (fs : List M.Frg) (a1 a2 : Option Addr) (n2 c1 c2 : Nat) (w : World) (hf : FragsAt w (.slice a1 fs.length c1) fs) (h60 : fs.length ≤ 60) (h8 : ∀ f ∈ fs, f.rels.length ≤ 8) (m : List ByteArray) (hm : M.rising (M.wantedNames fs) = m) :
    Calls Tryd.prog 11 #[.agg #[.slice a1 fs.length c1, .slice a2 n2 c2]] w fun e w' => Below w.heap.size w w' ∧ ∃ x y B, e = .returned (.slice x m.length y) ∧ w'.ownsRow B 9 1 (.slice x m.length y) m.length (m.map Value.string) ∧ w.heap.size ≤ B ∧ (∀ s ∈ m, s.size ≤ maxLen) ∧ m.length ≤ 480 := by
  have hmm := @run_makeMap Tryd.prog
  have HB0 : Hid (Below w.heap.size w ((w.alloc (.cells #[.slice a1 fs.length c1, .slice a2 n2 c2] 25)).alloc (.map #[] 0))) := ((Below.refl _ _).alloc (Nat.le_refl _) _).alloc (by simp) _
  have HO0 : Hid (((w.alloc (.cells #[.slice a1 fs.length c1, .slice a2 n2 c2] 25)).alloc (.map #[] 0)).ownsMap (H := Unit) Tryd.prog 9 (plainElem Tryd.prog 4) (w.heap.size + 1) 0 (.map [])) := by
    have := World.ownsMap_made (H := Unit) (w.alloc (.cells #[.slice a1 fs.length c1, .slice a2 n2 c2] 25)) Tryd.prog 9 (plainElem Tryd.prog 4)
    rwa [World.size_alloc] at this
  have HF : Hid (FragsAt w (.slice a1 fs.length c1) fs) := hf
  have H8 : Hid (∀ f ∈ fs, f.rels.length ≤ 8) := h8
  clear hf h8
  go_enter Tryd.func11, Tryd.ntmps11
  go_wp2_with fail
  go_loopw [12] (fun s12 wr => ∃ (k : Nat) (D : DataW Unit), k ≤ fs.length ∧ s12 = .int .i64 k ∧ Hid (SetOf D (M.wantedNames (fs.take k))) ∧ Hid (wr.ownsMap Tryd.prog 9 (plainElem Tryd.prog 4) (w.heap.size + 1) (k * 8) D) ∧ Hid (Below w.heap.size w wr)) (fun s12 _ => fs.length - (intOf s12).toNat)
  case atStart => exact ⟨0, .map [], Nat.zero_le _, rfl, SetOf.nil, HO0, HB0⟩
  case round =>
    obtain ⟨k, D, hk, rfl, HS, HO, HB⟩ := hrel
    clear HO0 HB0 hmm
    have hwr : w.heap.size ≤ wr.heap.size := HB.out.size
    have hml : w.heap.size + 1 < wr.heap.size := HO.out.lt
    by_cases hlt : k < fs.length
    · obtain ⟨b, off, ab, cb, ar, cr, rfl, e0, e1, e2, e3, e4, e5, _, hRl, _, _⟩ := (HF.out.later HB.out).cells k hlt
      have hr8 := H8.out _ (getD_mem fs frg0 k hlt)
      have HL1 := wanted_take fs k hlt
      have hkl : (k : Int) < (fs.length : Int) := by omega
      have hbr : b < wr.heap.size := World.block_lt_of_cell? _ _ e0
      generalize fs.getD k frg0 = f at *
      obtain ⟨s, al, g, bs, sz, rs⟩ := f
      simp only at e0 e1 e2 e3 e4 e5 hRl hr8 HL1
      have HL2 : Hid (M.wantedNames (fs.take (k + 1)) = M.wantedNames (fs.take k) ++ M.wantedOf rs) := HL1
      clear HL1
      generalize bs.length = nb at *
      go_upto_region 6 with fail
      have HBy : Below wr.heap.size wr (wr.alloc (.cells #[.int .i64 s, .int .i64 al, .string g, .slice ab nb cb, .int .i64 sz, .slice ar rs.length cr] 56)) := (Below.refl _ _).alloc (Nat.le_refl _) _
      have hmY : w.heap.size + 1 < (wr.alloc (.cells #[.int .i64 s, .int .i64 al, .string g, .slice ab nb cb, .int .i64 sz, .slice ar rs.length cr] 56)).heap.size := by simp; omega
      have HOX : Hid _ := HO.out.alloc (.cells #[.int .i64 s, .int .i64 al, .string g, .slice ab nb cb, .int .i64 sz, .slice ar rs.length cr] 56)
      have HBX : Hid (Below w.heap.size w (wr.alloc (.cells #[.int .i64 s, .int .i64 al, .string g, .slice ab nb cb, .int .i64 sz, .slice ar rs.length cr] 56))) := HB.out.alloc hwr _
      have HRl : Hid (RelsAt (wr.alloc (.cells #[.int .i64 s, .int .i64 al, .string g, .slice ab nb cb, .int .i64 sz, .slice ar rs.length cr] 56)) (.slice ar rs.length cr) rs) := hRl.later HBy
      have HBW : Hid (RelsAt wr (.slice ar rs.length cr) rs) := hRl
      clear HO HB e0 e1 e2 e3 e4 e5 hRl HBy HBW
      generalize wr.alloc (.cells #[.int .i64 s, .int .i64 al, .string g, .slice ab nb cb, .int .i64 sz, .slice ar rs.length cr] 56) = X at *
      clear hwr hml hbr
      have hwX : w.heap.size ≤ X.heap.size := HBX.out.size
      go_loopw [19] (fun s19 wi => ∃ (j : Nat) (D : DataW Unit), j ≤ rs.length ∧ s19 = .int .i64 j ∧ Hid (SetOf D (M.wantedNames (fs.take k) ++ M.wantedOf (rs.take j))) ∧ Hid (wi.ownsMap Tryd.prog 9 (plainElem Tryd.prog 4) (w.heap.size + 1) (k * 8 + j) D) ∧ Hid (Below w.heap.size w wi) ∧ Hid (RelsAt wi (.slice ar rs.length cr) rs)) (fun s19 _ => rs.length - (intOf s19).toNat)
      case atStart => exact ⟨0, D, Nat.zero_le _, rfl, by simpa [Hid, M.wantedOf] using HS.out, HOX, HBX, HRl⟩
      case round =>
        obtain ⟨j, D, hj, rfl, HS, HO, HB, HRl⟩ := hrel
        clear HOX HBX
        have hwr : w.heap.size ≤ wr.heap.size := HB.out.size
        have hml : w.heap.size + 1 < wr.heap.size := HO.out.lt
        by_cases hjt : j < rs.length
        · obtain ⟨b', off', rfl, e0, e1, e2, e3, e4⟩ := relsAt_cells HRl.out j hjt
          have hbr' : b' < wr.heap.size := World.block_lt_of_cell? _ _ e0
          have hnm := (HRl.out.2 _ (getD_mem rs rel0 j hjt)).1
          have HM1 := wants_take rs j hjt
          have hjl : (j : Int) < (rs.length : Int) := by omega
          generalize rs.getD j rel0 = r at *
          obtain ⟨pos, kd, nm, fr, ad⟩ := r
          simp only at e0 e1 e2 e3 e4 HM1 hnm
          have hown := HO.out.alloc (.cells #[.int .i64 pos, .int .i64 kd, .string nm, .int .i64 fr, .int .i64 ad] 62)
          have HBy : Below wr.heap.size wr (wr.alloc (.cells #[.int .i64 pos, .int .i64 kd, .string nm, .int .i64 fr, .int .i64 ad] 62)) := (Below.refl _ _).alloc (Nat.le_refl _) _
          have HBA : Hid (Below w.heap.size w (wr.alloc (.cells #[.int .i64 pos, .int .i64 kd, .string nm, .int .i64 fr, .int .i64 ad] 62))) := HB.out.alloc hwr _
          have HRA : Hid _ := HRl.out.later HBy
          clear HO HB HRl HBy
          cases hb : M.bare nm
          · rw [hb] at HM1
            have HM2 : Hid (M.wantedOf (rs.take (j + 1)) = M.wantedOf (rs.take j) ++ [nm]) := HM1
            have hb' : nm.toList.isEmpty = false := hb
            have HS1 : Hid _ := HS.out.put nm
            clear HM1 hb HS
            have hkey : keyOf Tryd.prog 9 (.string nm) = some (.string nm.data.toList) := WideMaps.keyOf_string_mk Tryd.underlying9 hnm
            go_wp2_with (first | (at_mapUpdate; refine wpList_mapUpdate_own _ rfl _ _ _ 60 rfl 9 4 keyS Tryd.underlying60 _ (w.heap.size + 1) (k * 8 + j) _ rfl hown (by unfold maxLen; omega) _ _ _ rfl rfl hkey _ [] (plainElem_bool Tryd.underlying4 true) ?_; intro w1 hown1 hgrow1) | go_in)
            go_roundw
            case rel => exact ⟨j + 1, _, by omega, by go_num, by rw [Hid, HM2.out, ← List.append_assoc]; exact HS1.out, hown1, HBA.out.grown hgrow1 HBA.out.size (fun j hj => by cases hj; omega), rels_map HRA.out hown hgrow1⟩
            case measure => simp [intOf]; omega
          · rw [hb] at HM1
            have HM2 : Hid (M.wantedOf (rs.take (j + 1)) = M.wantedOf (rs.take j)) := by rw [Hid, HM1]; simp
            have hb' : nm.toList.isEmpty = true := hb
            have HO1 : Hid _ := hown.mono (Nat.le_succ (k * 8 + j))
            clear HM1 hb hown
            go_wp2
            go_roundw
            case rel => exact ⟨j + 1, D, by omega, by go_num, by rw [Hid, HM2.out]; exact HS.out, HO1.out, HBA, HRA⟩
            case measure => simp [intOf]; omega
        · have hjl : j = rs.length := by omega
          subst hjl
          have HO1 : Hid _ := HO.out.mono (show k * 8 + rs.length ≤ (k + 1) * 8 by omega)
          have HS1 : Hid (SetOf D (M.wantedNames (fs.take (k + 1)))) := by
            rw [Hid, HL2.out]
            have := HS.out
            rwa [List.take_length] at this
          clear HO HS
          go_wp2
          go_roundw
          case rel => exact ⟨k + 1, D, by omega, by go_num, HS1, HO1.out, HB⟩
          case measure => simp [intOf]; omega
    · have hkl : k = fs.length := by omega
      subst hkl
      have HS1 := HS.out
      rw [List.take_length] at HS1
      have KS : Hid (Calls Tryd.prog 29 #[.map (some (w.heap.size + 1))] wr _) := set_g HO.out (by omega) HS1 m hm
      clear HS1 HS HO
      go_wp2_with (go_at_call 29; refine KS.out.mono ?_; rintro e w1 ⟨hb1, x, y, rfl, ho, hz, hln⟩)
      go_ret
      exact ⟨HB.out.trans (hb1.mono hwr), x, y, _, rfl, ho, hwr, hz, by omega⟩

end Go.Proofs.YthlmbnpecmdhoaaDoor
