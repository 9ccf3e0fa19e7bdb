/-
  The contracts of names.defined and names.wanted.
-/
import Derived.Test.YtebhbhbhcoijpaaNmRising
import Derived.Test.YtebhbhbhcoijpaaNmKind
namespace Go.Proofs.Ytebhbhbhcoijpaa
open Go.RowKit
set_option linter.unusedVariables false

theorem grown_below {w X w3 : World} {B k n : Nat} {e : TypeId} {v : Value} {xs : List Value} (hB : Below B w X) (hs : B ≤ X.heap.size) (hown : X.ownsRow B e k v n xs) (hg : X.grownBy w3 v.ownBlock) : Below B w w3 :=
  hB.grown hg hs (fun k hk => (hown.lt k hk).1)

theorem names_take (ds : List M.Dfn) (k : Nat) (h : k < ds.length) : M.definedNames (ds.take (k + 1)) = M.definedNames (ds.take k) ++ [(ds.getD k dfn0).name] := by
  unfold M.definedNames
  rw [List.take_succ_eq_append_getElem h, List.map_append, List.getD_eq_getElem?_getD, List.getElem?_eq_getElem h]
  rfl

theorem wants_take (rs : List M.Rel) (k : Nat) (h : k < rs.length) : M.wantedOf (rs.take (k + 1)) = M.wantedOf (rs.take k) ++ bif M.bare (rs.getD k rel0).name then [] else [(rs.getD k rel0).name] := by
  unfold M.wantedOf
  rw [List.take_succ_eq_append_getElem h, List.filter_append, List.map_append, List.getD_eq_getElem?_getD, List.getElem?_eq_getElem h]
  simp only [Option.getD_some, List.filter_cons, List.filter_nil]
  cases M.bare rs[k].name <;> rfl

theorem wanted_take (fs : List M.Frg) (k : Nat) (h : k < fs.length) : M.wantedNames (fs.take (k + 1)) = M.wantedNames (fs.take k) ++ M.wantedOf (fs.getD k frg0).rels := by
  unfold M.wantedNames
  rw [List.take_succ_eq_append_getElem h, List.flatMap_append, List.getD_eq_getElem?_getD, List.getElem?_eq_getElem h]
  simp

/-- a text is appended to a row of texts: what holds then -/
theorem text_step {w X w3 : World} {v v' : Value} {l : List ByteArray} {s : ByteArray} {o : Obj} (hB : Below w.heap.size w X) (hs : w.heap.size ≤ X.heap.size) (hown : X.ownsRow w.heap.size 9 1 v l.length (l.map Value.string)) (hg : (X.alloc o).grownBy w3 v.ownBlock)
    (ho : w3.ownsRow w.heap.size 9 1 v' (l.length + 1) (l.map Value.string ++ (#[.string s] : Array Value).toList)) : w3.ownsRow w.heap.size 9 1 v' (l ++ [s]).length ((l ++ [s]).map Value.string) ∧ Below w.heap.size w w3 :=
  ⟨by rw [List.length_append, List.map_append]; exact ho, (hB.alloc hs _).grown hg (by simp; omega) (fun k hk => (hown.lt k hk).1)⟩

theorem rising_size {l : List ByteArray} (h : ∀ s ∈ l, s.size ≤ maxLen) : ∀ s ∈ M.rising l, s.size ≤ maxLen := fun s hs => h s ((M.rising_mem l s).1 hs)

theorem rising_le (l : List ByteArray) : (M.rising l).length ≤ l.length := by
  have := risingT_le (l.map M.txt')
  simpa [M.rising] using this

set_option maxHeartbeats 2000000 in
set_option maxRecDepth 100000 in
theorem defined_any (ds : List M.Dfn) (a : Option Addr) (c : Nat) (w : World) (hd : DefsAt w (.slice a ds.length c) ds) (h60 : ds.length ≤ 60) :
    Calls Try.prog 56 #[.slice a ds.length c] w fun e w' => Below w.heap.size w w' ∧ ∃ v, e = .returned v ∧ w'.ownsRow w.heap.size 9 1 v (M.rising (M.definedNames ds)).length ((M.rising (M.definedNames ds)).map Value.string) ∧ ∀ s ∈ M.rising (M.definedNames ds), s.size ≤ maxLen := by
  obtain ⟨i0, hi, hz0, hz1, hz2⟩ := info_parts (P := Try.prog) (e := 9) (z := .string ⟨#[]⟩) (size := 1) (bytes := 16) (by kernel_rfl)
  have HSz : Hid (∀ s ∈ M.rising (M.definedNames ds), s.size ≤ maxLen) := rising_size (fun s hs => by
    obtain ⟨d, hd', rfl⟩ := List.mem_map.1 hs
    exact hd.2 d hd')
  go_enter Try.func56, Try.ntmps56
  go_wp2_with fail
  go_loopw [3, 8] (fun s3 s8 wr => ∃ (k : Nat) (l : List ByteArray), k ≤ ds.length ∧ s8 = .int .i64 k ∧ Hid (l = M.definedNames (ds.take k)) ∧ l.length ≤ k ∧ wr.ownsRow w.heap.size 9 1 s3 l.length (l.map Value.string) ∧ Hid (Below w.heap.size w wr)) (fun _ s8 _ => ds.length - (intOf s8).toNat)
  case atStart => exact ⟨0, [], Nat.zero_le _, rfl, rfl, Nat.le_refl _, World.ownsRow_nil _ _ _ _, Below.refl _ _⟩
  case round =>
    obtain ⟨k, l, hk, rfl, HL, hlk, hown, HB⟩ := hrel
    have hw0 : w.heap.size ≤ wr.heap.size := HB.out.size
    by_cases hlt : k < ds.length
    · obtain ⟨b, off, rfl, e0, e1, e2, e3, e4, e5, hnm⟩ := (hd.later HB.out).cells k hlt
      have hbr : b < wr.heap.size := World.block_lt_of_cell? _ _ e0
      have HL1 := names_take ds k hlt
      rw [← HL.out] at HL1
      have hkl : (k : Int) < (ds.length : Int) := by omega
      clear HL hd
      generalize ds.getD k dfn0 = d at *
      obtain ⟨nm, kd, fr, pos, sz, al⟩ := d
      simp only at e0 e1 e2 e3 e4 e5 hnm HL1
      have HL2 : Hid (l ++ [nm] = M.definedNames (ds.take (k + 1))) := HL1.symm
      clear HL1
      obtain ⟨a5, n5, c5, rfl⟩ := own_form hown
      go_upto_region 5 with fail
      have hownX := hown.alloc (.cells #[.string nm, .int .i64 kd, .int .i64 fr, .int .i64 pos, .int .i64 sz, .int .i64 al] 69)
      have HBX : Hid (Below w.heap.size w (wr.alloc (.cells #[.string nm, .int .i64 kd, .int .i64 fr, .int .i64 pos, .int .i64 sz, .int .i64 al] 69))) := HB.out.alloc hw0 _
      have x3 := heap_alloc_new wr (.cells #[.string nm, .int .i64 kd, .int .i64 fr, .int .i64 pos, .int .i64 sz, .int .i64 al] 69)
      have hXs : wr.heap.size < (wr.alloc (.cells #[.string nm, .int .i64 kd, .int .i64 fr, .int .i64 pos, .int .i64 sz, .int .i64 al] 69)).heap.size := by simp
      clear hown HB e0 e1 e2 e3 e4 e5
      generalize wr.alloc (.cells #[.string nm, .int .i64 kd, .int .i64 fr, .int .i64 pos, .int .i64 sz, .int .i64 al] 69) = Y at *
      have k0 : Y.cell? ⟨wr.heap.size, 0, none⟩ = some (.string nm) := cellB x3 0
      have hwY : w.heap.size ≤ Y.heap.size := by omega
      have hnews : ∀ j u, (#[.string nm] : Array Value).toList[j]? = some u → (Y.alloc (.cells #[.string nm] 9)).cell? ((⟨Y.heap.size, 0, none⟩ : Addr).add j) = some u := World.news_of_block (heap_alloc_new Y _)
      clear x3
      go_wp2_with (at_builtin; refine wpList_append_own _ rfl _ _ 35 rfl w.heap.size 9 i0 (.string ⟨#[]⟩) 1 16 Try.underlying35 hi hz0 hz1 hz2 rfl (by decide) _ _ _ rfl (hownX.alloc _) ⟨Y.heap.size, 0, none⟩ 1 1 (#[.string nm] : Array Value).toList rfl rfl hnews (fun u hu => by simp at hu; subst hu; rfl) (by unfold maxLen; omega) (by omega) (by simp; omega) ?_; intro v' w3 hown' hgrow3 hnil3)
      have HE := text_step HBX.out hwY hownX hgrow3 hown'
      go_roundw
      case rel => exact ⟨k + 1, l ++ [nm], by omega, by go_num, HL2, by simp; omega, HE.1, HE.2⟩
      case measure => simp [intOf]; omega
    · have hkl : k = ds.length := by omega
      have HL2 : l = M.definedNames ds := by rw [HL.out, hkl, List.take_length]
      have KR : Hid (Calls Try.prog 90 #[u3] wr fun e w' => wr.grownBy w' u3.ownBlock ∧ ∃ v', e = .returned v' ∧ w'.ownsRow w.heap.size 9 1 v' (M.rising l).length ((M.rising l).map Value.string) ∧ v'.ownBlock = u3.ownBlock) := rising_any l w.heap.size u3 wr hown (by omega)
      have HL3 : Hid (l = M.definedNames ds) := HL2
      clear HL HL2
      subst hkl
      obtain ⟨a5, n5, c5, rfl⟩ := own_form hown
      go_wp2_with (go_at_call 90; refine KR.out.mono ?_; rintro e w4 ⟨hg4, v4, rfl, ho4, _⟩)
      go_ret
      rw [← HL3.out]
      exact ⟨grown_below HB.out hw0 hown hg4, _, rfl, ho4, by rw [HL3.out]; exact HSz.out⟩

set_option maxHeartbeats 4000000 in
set_option maxRecDepth 100000 in
theorem wanted_any (fs : List M.Frg) (a : Option Addr) (c : Nat) (w : World) (hf : FragsAt w (.slice a fs.length c) fs) (h60 : fs.length ≤ 60) (h8 : ∀ f ∈ fs, f.rels.length ≤ 8) :
    Calls Try.prog 55 #[.slice a fs.length c] w fun e w' => Below w.heap.size w w' ∧ ∃ v, e = .returned v ∧ w'.ownsRow w.heap.size 9 1 v (M.rising (M.wantedNames fs)).length ((M.rising (M.wantedNames fs)).map Value.string) ∧ ∀ s ∈ M.rising (M.wantedNames fs), s.size ≤ maxLen := by
  obtain ⟨i0, hi, hz0, hz1, hz2⟩ := info_parts (P := Try.prog) (e := 9) (z := .string ⟨#[]⟩) (size := 1) (bytes := 16) (by kernel_rfl)
  have HSz : Hid (∀ s ∈ M.rising (M.wantedNames fs), s.size ≤ maxLen) := rising_size (fun s hs => by
    obtain ⟨f, hf', hs⟩ := List.mem_flatMap.1 hs
    obtain ⟨r, hr, rfl⟩ := List.mem_map.1 hs
    have hr := (List.mem_filter.1 hr).1
    obtain ⟨j, hj, rfl⟩ := List.getElem_of_mem hf'
    obtain ⟨_, _, _, _, _, _, _, _, _, _, _, _, _, _, hRl, _, _⟩ := hf.cells j hj
    rw [List.getD_eq_getElem?_getD, List.getElem?_eq_getElem hj] at hRl
    exact (hRl.2 r hr).1)
  go_enter Try.func55, Try.ntmps55
  go_wp2_with fail
  go_loopw [3, 10] (fun s3 s10 wr => ∃ (k : Nat) (l : List ByteArray), k ≤ fs.length ∧ s10 = .int .i64 k ∧ Hid (l = M.wantedNames (fs.take k)) ∧ l.length ≤ 8 * k ∧ wr.ownsRow w.heap.size 9 1 s3 l.length (l.map Value.string) ∧ Hid (Below w.heap.size w wr)) (fun _ s10 _ => fs.length - (intOf s10).toNat)
  case atStart => exact ⟨0, [], Nat.zero_le _, rfl, rfl, Nat.le_refl _, World.ownsRow_nil _ _ _ _, Below.refl _ _⟩
  case round =>
    obtain ⟨k, l, hk, rfl, HL, hlk, hown, HB⟩ := hrel
    have hw0 : w.heap.size ≤ wr.heap.size := HB.out.size
    by_cases hlt : k < fs.length
    · obtain ⟨b, off, ab, cb, ar, cr, rfl, e0, e1, e2, e3, e4, e5, _, hRl, _, _⟩ := hf.cells k hlt
      have hr8 := h8 _ (getD_mem fs frg0 k hlt)
      have HL1 := wanted_take fs k hlt
      rw [← HL.out] at HL1
      have hkl : (k : Int) < (fs.length : Int) := by omega
      replace e0 := cell_later HB.out e0
      replace e1 := cell_later HB.out e1
      replace e2 := cell_later HB.out e2
      replace e3 := cell_later HB.out e3
      replace e4 := cell_later HB.out e4
      replace e5 := cell_later HB.out e5
      have hbr : b < wr.heap.size := World.block_lt_of_cell? _ _ e0
      clear HL hf h8
      generalize fs.getD k frg0 = f at *
      obtain ⟨s, al, g, bs, sz, rs⟩ := f
      simp only at e0 e1 e2 e3 e4 e5 hRl hr8 HL1
      have HL2 : Hid (M.wantedNames (fs.take (k + 1)) = l ++ M.wantedOf rs) := HL1
      clear HL1
      generalize bs.length = nb at *
      obtain ⟨a5, n5, c5, rfl⟩ := own_form hown
      go_upto_region 6 with fail
      have hownX := hown.alloc (.cells #[.int .i64 s, .int .i64 al, .string g, .slice ab nb cb, .int .i64 sz, .slice ar rs.length cr] 43)
      have HBX : Hid (Below w.heap.size w (wr.alloc (.cells #[.int .i64 s, .int .i64 al, .string g, .slice ab nb cb, .int .i64 sz, .slice ar rs.length cr] 43))) := HB.out.alloc hw0 _
      clear hown HB e0 e1 e2 e3 e4 e5
      generalize wr.alloc (.cells #[.int .i64 s, .int .i64 al, .string g, .slice ab nb cb, .int .i64 sz, .slice ar rs.length cr] 43) = X at *
      go_loopw [3, 17] (fun s3 s17 wi => ∃ (j : Nat) (m : List ByteArray), j ≤ rs.length ∧ s17 = .int .i64 j ∧ Hid (m = l ++ M.wantedOf (rs.take j)) ∧ m.length ≤ l.length + j ∧ wi.ownsRow w.heap.size 9 1 s3 m.length (m.map Value.string) ∧ Hid (Below w.heap.size w wi)) (fun _ s17 _ => rs.length - (intOf s17).toNat)
      case atStart => exact ⟨0, l, Nat.zero_le _, rfl, by simp [Hid, M.wantedOf], by omega, hownX, HBX.out⟩
      case round =>
        obtain ⟨j, m, hj, rfl, HM, hmj, hown, HB⟩ := hrel
        clear hownX HBX
        have hw1 : w.heap.size ≤ wr.heap.size := HB.out.size
        by_cases hjt : j < rs.length
        · obtain ⟨b', off', rfl, e0, e1, e2, e3, e4⟩ := relsAt_cells (hRl.later HB.out) j hjt
          have hbr' : b' < wr.heap.size := World.block_lt_of_cell? _ _ e0
          have HM1 : l ++ M.wantedOf (rs.take (j + 1)) = m ++ bif M.bare (rs.getD j rel0).name then [] else [(rs.getD j rel0).name] := by rw [wants_take rs j hjt, ← List.append_assoc, ← HM.out]
          have hjl : (j : Int) < (rs.length : Int) := by omega
          clear HM hRl
          generalize rs.getD j rel0 = r at *
          obtain ⟨pos, kd, nm, fr, ad⟩ := r
          simp only at e0 e1 e2 e3 e4 HM1
          obtain ⟨a6, n6, c6, rfl⟩ := own_form hown
          cases hb : M.bare nm
          · rw [hb] at HM1
            have HM2 : Hid (m ++ [nm] = l ++ M.wantedOf (rs.take (j + 1))) := HM1.symm
            have hb' : nm.toList.isEmpty = false := hb
            clear HM1 hb
            go_upto_region 9 with fail
            have hownX := hown.alloc (.cells #[.int .i64 pos, .int .i64 kd, .string nm, .int .i64 fr, .int .i64 ad] 121)
            have HBX : Hid (Below w.heap.size w (wr.alloc (.cells #[.int .i64 pos, .int .i64 kd, .string nm, .int .i64 fr, .int .i64 ad] 121))) := HB.out.alloc hw1 _
            have x3 := heap_alloc_new wr (.cells #[.int .i64 pos, .int .i64 kd, .string nm, .int .i64 fr, .int .i64 ad] 121)
            have hXs : wr.heap.size < (wr.alloc (.cells #[.int .i64 pos, .int .i64 kd, .string nm, .int .i64 fr, .int .i64 ad] 121)).heap.size := by simp
            clear hown HB e0 e1 e2 e3 e4
            generalize wr.alloc (.cells #[.int .i64 pos, .int .i64 kd, .string nm, .int .i64 fr, .int .i64 ad] 121) = Y at *
            have k0 : Y.cell? ⟨wr.heap.size, 2, none⟩ = some (.string nm) := cellB x3 2
            have hwY : w.heap.size ≤ Y.heap.size := by omega
            have hnews : ∀ j u, (#[.string nm] : Array Value).toList[j]? = some u → (Y.alloc (.cells #[.string nm] 9)).cell? ((⟨Y.heap.size, 0, none⟩ : Addr).add j) = some u := World.news_of_block (heap_alloc_new Y _)
            clear x3
            go_wp2_with (at_builtin; refine wpList_append_own _ rfl _ _ 35 rfl w.heap.size 9 i0 (.string ⟨#[]⟩) 1 16 Try.underlying35 hi hz0 hz1 hz2 rfl (by decide) _ _ _ rfl (hownX.alloc _) ⟨Y.heap.size, 0, none⟩ 1 1 (#[.string nm] : Array Value).toList rfl rfl hnews (fun u hu => by simp at hu; subst hu; rfl) (by unfold maxLen; omega) (by omega) (by simp; omega) ?_; intro v' w3 hown' hgrow3 hnil3)
            have HE := text_step HBX.out hwY hownX hgrow3 hown'
            go_roundw
            case rel => exact ⟨j + 1, m ++ [nm], by omega, by go_num, HM2, by simp; omega, HE.1, HE.2⟩
            case measure => simp [intOf]; omega
          · rw [hb] at HM1
            have HM2 : Hid (m = l ++ M.wantedOf (rs.take (j + 1))) := by rw [Hid, HM1]; simp
            have hb' : nm.toList.isEmpty = true := hb
            clear HM1 hb
            have HE : Hid (∀ o, (wr.alloc o).ownsRow w.heap.size 9 1 (.slice a6 n6 c6) m.length (m.map Value.string) ∧ Below w.heap.size w (wr.alloc o)) := fun o => ⟨hown.alloc o, HB.out.alloc hw1 _⟩
            go_wp2
            go_roundw
            case rel => exact ⟨j + 1, m, by omega, by go_num, HM2, by omega, (HE.out _).1, (HE.out _).2⟩
            case measure => simp [intOf]; omega
        · have hjl : j = rs.length := by omega
          have HM2 : Hid (m = M.wantedNames (fs.take (k + 1))) := by rw [Hid, HM.out, hjl, List.take_length, HL2.out]
          clear HM HL2 hRl
          subst hjl
          go_wp2
          go_roundw
          case rel => exact ⟨k + 1, m, by omega, by go_num, HM2, by omega, hown, HB⟩
          case measure => simp [intOf]; omega
    · have hkl : k = fs.length := by omega
      have HL2 : l = M.wantedNames fs := by rw [HL.out, hkl, List.take_length]
      have KR : Hid (Calls Try.prog 90 #[u3] wr fun e w' => wr.grownBy w' u3.ownBlock ∧ ∃ v', e = .returned v' ∧ w'.ownsRow w.heap.size 9 1 v' (M.rising l).length ((M.rising l).map Value.string) ∧ v'.ownBlock = u3.ownBlock) := rising_any l w.heap.size u3 wr hown (by omega)
      have HL3 : Hid (l = M.wantedNames fs) := HL2
      clear HL HL2
      subst hkl
      obtain ⟨a5, n5, c5, rfl⟩ := own_form hown
      go_wp2_with (go_at_call 90; refine KR.out.mono ?_; rintro e w4 ⟨hg4, v4, rfl, ho4, _⟩)
      go_ret
      rw [← HL3.out]
      exact ⟨grown_below HB.out hw0 hown hg4, _, rfl, ho4, by rw [HL3.out]; exact HSz.out⟩

end Go.Proofs.Ytebhbhbhcoijpaa
