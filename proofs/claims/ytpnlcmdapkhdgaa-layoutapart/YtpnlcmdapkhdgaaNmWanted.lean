/-
  The contracts of names.defined and names.wanted.
-/
import Derived.Test.YtpnlcmdapkhdgaaNmRising
import Derived.Test.YtpnlcmdapkhdgaaNmKind
namespace Go.Proofs.Ytpnlcmdapkhdgaa
open Go.RowKit
set_option linter.unusedVariables false

theorem grown_below {w X w3 : World} {B k n : Nat} {e : TypeId} {v : Value} {xs : List Value} (hB : Below B w X) (hs : B ≤ X.heap.size) (hown : X.ownsRow B e k v n xs) (hg : X.grownBy w3 v.ownBlock) : Below B w w3 :=
  hB.grown hg hs (fun k hk => (hown.lt k hk).1)

theorem names_take (ds : List M.Dfn) (k : Nat) (h : k < ds.length) : M.definedNames (ds.take (k + 1)) = M.definedNames (ds.take k) ++ [(ds.getD k dfn0).name] := by
  unfold M.definedNames
  rw [List.take_succ_eq_append_getElem h, List.map_append, List.getD_eq_getElem?_getD, List.getElem?_eq_getElem h]
  rfl

theorem wants_take (rs : List M.Rel) (k : Nat) (h : k < rs.length) : M.wantedOf (rs.take (k + 1)) = M.wantedOf (rs.take k) ++ bif M.bare (rs.getD k rel0).name then [] else [(rs.getD k rel0).name] := by
  unfold M.wantedOf
  rw [List.take_succ_eq_append_getElem h, List.filter_append, List.map_append, List.getD_eq_getElem?_getD, List.getElem?_eq_getElem h]
  simp only [Option.getD_some, List.filter_cons, List.filter_nil]
  cases M.bare rs[k].name <;> rfl

theorem wanted_take (fs : List M.Frg) (k : Nat) (h : k < fs.length) : M.wantedNames (fs.take (k + 1)) = M.wantedNames (fs.take k) ++ M.wantedOf (fs.getD k frg0).rels := by
  unfold M.wantedNames
  rw [List.take_succ_eq_append_getElem h, List.flatMap_append, List.getD_eq_getElem?_getD, List.getElem?_eq_getElem h]
  simp

/-- a text is appended to a row of texts: what holds then -/
theorem text_step {w X w3 : World} {v v' : Value} {l : List ByteArray} {s : ByteArray} {o : Obj} (hB : Below w.heap.size w X) (hs : w.heap.size ≤ X.heap.size) (hown : X.ownsRow w.heap.size 9 1 v l.length (l.map Value.string)) (hg : (X.alloc o).grownBy w3 v.ownBlock)
    (ho : w3.ownsRow w.heap.size 9 1 v' (l.length + 1) (l.map Value.string ++ (#[.string s] : Array Value).toList)) : w3.ownsRow w.heap.size 9 1 v' (l ++ [s]).length ((l ++ [s]).map Value.string) ∧ Below w.heap.size w w3 :=
  ⟨by rw [List.length_append, List.map_append]; exact ho, (hB.alloc hs _).grown hg (by simp; omega) (fun k hk => (hown.lt k hk).1)⟩

theorem rising_size {l : List ByteArray} (h : ∀ s ∈ l, s.size ≤ maxLen) : ∀ s ∈ M.rising l, s.size ≤ maxLen := fun s hs => h s ((M.rising_mem l s).1 hs)

theorem rising_le (l : List ByteArray) : (M.rising l).length ≤ l.length := by
  have := risingT_le (l.map M.txt')
  simpa [M.rising] using this

set_option maxHeartbeats 2000000 in
set_option maxRecDepth 100000 in
theorem defined_any (ds : List M.Dfn) (a : Option Addr) (c : Nat) (w : World) (hd : DefsAt w (.slice a ds.length c) ds) (h60 : ds.length ≤ 60) :
    Calls Try.prog 29 #[.slice a ds.length c] w fun e w' => Below w.heap.size w w' ∧ ∃ v, e = .returned v ∧ w'.ownsRow w.heap.size 9 1 v (M.rising (M.definedNames ds)).length ((M.rising (M.definedNames ds)).map Value.string) ∧ ∀ s ∈ M.rising (M.definedNames ds), s.size ≤ maxLen := by
  obtain ⟨i0, hi, hz0, hz1, hz2⟩ := info_parts (P := Try.prog) (e := 9) (z := .string ⟨#[]⟩) (size := 1) (bytes := 16) (by kernel_rfl)
  have HSz : Hid (∀ s ∈ M.rising (M.definedNames ds), s.size ≤ maxLen) := rising_size (fun s hs => by
    obtain ⟨d, hd', rfl⟩ := List.mem_map.1 hs
    exact hd.2 d hd')
  go_enter Try.func29, Try.ntmps29
  go_wp2_with fail
  go_loopw [3, 8] (fun s3 s8 wr => ∃ (k : Nat) (l : List ByteArray), k ≤ ds.length ∧ s8 = .int .i64 k ∧ Hid (l = M.definedNames (ds.take k)) ∧ l.length ≤ k ∧ wr.ownsRow w.heap.size 9 1 s3 l.length (l.map Value.string) ∧ Hid (Below w.heap.size w wr)) (fun _ s8 _ => ds.length - (intOf s8).toNat)
  case atStart => exact ⟨0, [], Nat.zero_le _, rfl, rfl, Nat.le_refl _, World.ownsRow_nil _ _ _ _, Below.refl _ _⟩
  case round =>
    obtain ⟨k, l, hk, rfl, HL, hlk, hown, HB⟩ := hrel
    have hw0 : w.heap.size ≤ wr.heap.size := HB.out.size
    by_cases hlt : k < ds.length
    · obtain ⟨b, off, rfl, e0, e1, e2, e3, e4, e5, hnm⟩ := (hd.later HB.out).cells k hlt
      have hbr : b < wr.heap.size := World.block_lt_of_cell? _ _ e0
      have HL1 := names_take ds k hlt
      rw [← HL.out] at HL1
      have hkl : (k : Int) < (ds.length : Int) := by omega
      clear HL hd
      generalize ds.getD k dfn0 = d at *
      obtain ⟨nm, kd, fr, pos, sz, al⟩ := d
      simp only at e0 e1 e2 e3 e4 e5 hnm HL1
      have HL2 : Hid (l ++ [nm] = M.definedNames (ds.take (k + 1))) := HL1.symm
      clear HL1
      obtain ⟨a5, n5, c5, rfl⟩ := own_form hown
      go_upto_region 5 with fail
      have hownX := hown.alloc (.cells #[.string nm, .int .i64 kd, .int .i64 fr, .int .i64 pos, .int .i64 sz, .int .i64 al] 42)
      have HBX : Hid (Below w.heap.size w (wr.alloc (.cells #[.string nm, .int .i64 kd, .int .i64 fr, .int .i64 pos, .int .i64 sz, .int .i64 al] 42))) := HB.out.alloc hw0 _
      have x3 := heap_alloc_new wr (.cells #[.string nm, .int .i64 kd, .int .i64 fr, .int .i64 pos, .int .i64 sz, .int .i64 al] 42)
      have hXs : wr.heap.size < (wr.alloc (.cells #[.string nm, .int .i64 kd, .int .i64 fr, .int .i64 pos, .int .i64 sz, .int .i64 al] 42)).heap.size := by simp
      clear hown HB e0 e1 e2 e3 e4 e5
      generalize wr.alloc (.cells #[.string nm, .int .i64 kd, .int .i64 fr, .int .i64 pos, .int .i64 sz, .int .i64 al] 42) = Y at *
      have k0 : Y.cell? ⟨wr.heap.size, 0, none⟩ = some (.string nm) := cellB x3 0
      have hwY : w.heap.size ≤ Y.heap.size := by omega
      have hnews : ∀ j u, (#[.string nm] : Array Value).toList[j]? = some u → (Y.alloc (.cells #[.string nm] 9)).cell? ((⟨Y.heap.size, 0, none⟩ : Addr).add j) = some u := World.news_of_block (heap_alloc_new Y _)
      clear x3
      go_wp2_with (at_builtin; refine wpList_append_own _ rfl _ _ 27 rfl w.heap.size 9 i0 (.string ⟨#[]⟩) 1 16 Try.underlying27 hi hz0 hz1 hz2 rfl (by decide) _ _ _ rfl (hownX.alloc _) ⟨Y.heap.size, 0, none⟩ 1 1 (#[.string nm] : Array Value).toList rfl rfl hnews (fun u hu => by simp at hu; subst hu; rfl) (by unfold maxLen; omega) (by omega) (by simp; omega) ?_; intro v' w3 hown' hgrow3 hnil3)
      have HE := text_step HBX.out hwY hownX hgrow3 hown'
      go_roundw
      case rel => exact ⟨k + 1, l ++ [nm], by omega, by go_num, HL2, by simp; omega, HE.1, HE.2⟩
      case measure => simp [intOf]; omega
    · have hkl : k = ds.length := by omega
      have HL2 : l = M.definedNames ds := by rw [HL.out, hkl, List.take_length]
      have KR : Hid (Calls Try.prog 35 #[u3] wr fun e w' => wr.grownBy w' u3.ownBlock ∧ ∃ v', e = .returned v' ∧ w'.ownsRow w.heap.size 9 1 v' (M.rising l).length ((M.rising l).map Value.string) ∧ v'.ownBlock = u3.ownBlock) := rising_any l w.heap.size u3 wr hown (by omega)
      have HL3 : Hid (l = M.definedNames ds) := HL2
      clear HL HL2
      subst hkl
      obtain ⟨a5, n5, c5, rfl⟩ := own_form hown
      go_wp2_with (go_at_call 35; refine KR.out.mono ?_; rintro e w4 ⟨hg4, v4, rfl, ho4, _⟩)
      go_ret
      rw [← HL3.out]
      exact ⟨grown_below HB.out hw0 hown hg4, _, rfl, ho4, by rw [HL3.out]; exact HSz.out⟩


end Go.Proofs.Ytpnlcmdapkhdgaa
