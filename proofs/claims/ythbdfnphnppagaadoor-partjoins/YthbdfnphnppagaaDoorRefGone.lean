/-
  The contracts of the reference's two small functions of Dropped: is a fragment gone; what its number becomes.
-/
import Derived.Test.YthbdfnphnppagaaDoorRefMem
import Derived.BigQuiet
import Derived.Deep.DeepCutAuto
namespace Go.Proofs.YthbdfnphnppagaaDoor
open Go Go.RowKit
set_option linter.unusedVariables false
attribute [local go_sem] lat_cell

theorem gone_bare (l : List ByteArray) (s al sz : Int) (g : ByteArray) (bs : List Int) (rs : List M.Rel) (h : g.toList.isEmpty = true) : M.gone l ⟨s, al, g, bs, sz, rs⟩ = false := by
  unfold M.gone M.bare
  rw [h]; rfl
theorem gone_has (l : List ByteArray) (s al sz : Int) (g : ByteArray) (bs : List Int) (rs : List M.Rel) (h : g.toList.isEmpty = false) : M.gone l ⟨s, al, g, bs, sz, rs⟩ = M.has l g := by
  unfold M.gone M.bare
  rw [h]; simp

set_option maxHeartbeats 2000000 in
set_option maxRecDepth 100000 in
theorem gone_any (fs : List M.Frg) (l : List ByteArray) (i : Nat) (a1 a3 : Option Addr) (c1 c3 P L : Nat) (w : World) (hf : FragsAt w (.slice a1 fs.length c1) fs) (hl : StrsAt w (.slice a3 l.length c3) l)
    (cP : w.cell? ⟨P, 0, none⟩ = some (.slice a1 fs.length c1)) (cL : w.cell? ⟨L, 0, none⟩ = some (.slice a3 l.length c3)) (hi : i < fs.length) :
    Calls Tryd.prog 55 #[.int .i64 i, .pointer (some ⟨P, 0, none⟩), .pointer (some ⟨L, 0, none⟩)] w fun e w' => e = .returned (.bool (M.gone l (fs.getD i frg0))) ∧ Below w.heap.size w w' := by
  obtain ⟨b, off, ab, cb, ar, cr, rfl, e0, e1, e2, e3, e4, e5, _, _, _, _⟩ := hf.cells i hi
  have hi0 : (0 : Int) ≤ (i : Int) := by omega
  have hil : (i : Int) < (fs.length : Int) := by omega
  have KC : Hid (∀ W s, Below w.heap.size w W → Calls Tryd.prog 36 #[.slice a3 l.length c3, .string s] W fun e w' => e = .returned (.bool (M.has l s)) ∧ w' = W) := fun W s hW => containsS_any l s a3 c3 W (hl.later hW)
  clear hf hl e0 e1 e3 e4 e5
  generalize fs.getD i frg0 = f at *
  obtain ⟨s, al, g, bs, sz, rs⟩ := f
  simp only at e2
  cases hb : g.toList.isEmpty
  · have HG : Hid (M.gone l ⟨s, al, g, bs, sz, rs⟩ = M.has l g) := gone_has l s al sz g bs rs hb
    rw [HG.out]
    go_enter Tryd.func55, Tryd.ntmps55
    go_wp2_with fail
    refine wp_region_lat (by kernel_rfl) (by kernel_rfl) ?_
    intro hne
    repeat (go_big_quiet_step ((go_at_call 36; exact lat_of_same (KC.out _ _ (Lat.below _)))))
    refine wpQuiet_nil ?_
    intro w1 hb1
    have hb := lat_out hb1
    clear hb1
    go_wp2
    go_ret
    exact ⟨rfl, hb⟩
  · have HG : Hid (M.gone l ⟨s, al, g, bs, sz, rs⟩ = false) := gone_bare l s al sz g bs rs hb
    rw [HG.out]
    go_enter Tryd.func55, Tryd.ntmps55
    go_wp2_with fail
    refine wp_region_lat (by kernel_rfl) (by kernel_rfl) ?_
    intro hne
    repeat (go_big_quiet_step (fail))
    refine wpQuiet_nil ?_
    intro w1 hb1
    have hb := lat_out hb1
    clear hb1
    go_wp2
    go_ret
    exact ⟨rfl, hb⟩

/-- what a fragment's number becomes, as the reference counts it -/
def toN (l : List ByteArray) (fs : List M.Frg) (i : Int) : Int := if i < 0 then -1 else M.num (M.count l 0 fs) i

theorem stays_takeN (l : List ByteArray) (fs : List M.Frg) (k : Nat) (h : k < fs.length) : (M.stays l (fs.take (k + 1))).length = (M.stays l (fs.take k)).length + bif M.gone l (fs.getD k frg0) then 0 else 1 := by
  unfold M.stays
  rw [List.take_succ_eq_append_getElem h, List.filter_append, List.length_append, List.getD_eq_getElem?_getD, List.getElem?_eq_getElem h]
  simp only [Option.getD_some, List.filter_cons, List.filter_nil]
  cases M.gone l fs[k] <;> rfl

theorem stays_le (l : List ByteArray) (fs : List M.Frg) : (M.stays l fs).length ≤ fs.length := List.length_filter_le _ _

set_option maxHeartbeats 2000000 in
set_option maxRecDepth 100000 in
theorem to_any (fs : List M.Frg) (l : List ByteArray) (i : Int) (a1 a3 : Option Addr) (c1 c3 P L G : Nat) (w : World) (hf : FragsAt w (.slice a1 fs.length c1) fs) (hl : StrsAt w (.slice a3 l.length c3) l)
    (cP : w.cell? ⟨P, 0, none⟩ = some (.slice a1 fs.length c1)) (cL : w.cell? ⟨L, 0, none⟩ = some (.slice a3 l.length c3)) (cG : w.cell? ⟨G, 0, none⟩ = some (.func (.func 55) #[] #[.pointer (some ⟨P, 0, none⟩), .pointer (some ⟨L, 0, none⟩)]))
    (hi0 : -1 ≤ i) (hi : i < fs.length) (h60 : fs.length ≤ 60) :
    Calls Tryd.prog 56 #[.int .i64 i, .pointer (some ⟨G, 0, none⟩)] w fun e w' => e = .returned (.int .i64 (toN l fs i)) ∧ Below w.heap.size w w' := by
  have KG : Hid (∀ (j : Nat) W, j < fs.length → Below w.heap.size w W → Calls Tryd.prog 55 #[.int .i64 j, .pointer (some ⟨P, 0, none⟩), .pointer (some ⟨L, 0, none⟩)] W fun e w' => e = .returned (.bool (M.gone l (fs.getD j frg0))) ∧ Below W.heap.size W w') := fun j W hj hW =>
    gone_any fs l j a1 a3 c1 c3 P L W (hf.later hW) (hl.later hW) (cell_later hW cP) (cell_later hW cL) hj
  have hG : G < w.heap.size := World.block_lt_of_cell? _ _ cG
  clear hf hl cP cL
  by_cases hneg : i < 0
  · have HT : Hid (toN l fs i = -1) := if_pos hneg
    generalize toN l fs i = R at *
    go_enter Tryd.func56, Tryd.ntmps56
    go_wp2
    go_ret
    exact ⟨ret_int HT.out.symm, Below.refl _ _⟩
  · obtain ⟨n, rfl⟩ : ∃ n : Nat, i = (n : Int) := ⟨i.toNat, by omega⟩
    have hn : n < fs.length := by omega
    have HT : Hid (toN l fs n = bif M.gone l (fs.getD n frg0) then -1 else ((M.stays l (fs.take n)).length : Int)) := by
      have hget : fs[((n : Nat) : Int).toNat]? = some (fs.getD n frg0) := by simpa using getElem?_getD fs frg0 n hn
      rw [Hid, toN, if_neg (by omega), M.num_get l fs 0 n (by omega) _ hget]
      simp
    generalize toN l fs n = R at *
    have hnn : ¬ ((n : Int) < 0) := by omega
    cases hgo : M.gone l (fs.getD n frg0)
    · have HT2 : Hid (R = ((M.stays l (fs.take n)).length : Int)) := by have := HT.out; rw [hgo] at this; exact this
      clear HT
      have KG0 : Hid (Calls Tryd.prog 55 #[.int .i64 n, .pointer (some ⟨P, 0, none⟩), .pointer (some ⟨L, 0, none⟩)] w fun e w' => e = .returned (.bool false) ∧ Below w.heap.size w w') := by
        have := KG.out n w hn (Below.refl _ _)
        rwa [hgo] at this
      clear hgo
      go_enter Tryd.func56, Tryd.ntmps56
      go_upto_region 5 with (go_at_call 55; refine KG0.out.mono ?_; rintro e w1 ⟨rfl, hb1⟩)
      go_loopw [4, 14] (fun s4 s14 wr => ∃ (k : Nat), k ≤ n ∧ s14 = .int .i64 k ∧ s4 = .int .i64 ((M.stays l (fs.take k)).length : Nat) ∧ Hid (Below w.heap.size w wr)) (fun _ s14 _ => n - (intOf s14).toNat)
      case atStart => exact ⟨0, Nat.zero_le _, rfl, rfl, hb1⟩
      case round =>
        obtain ⟨k, hk, rfl, rfl, HB⟩ := hrel
        clear hb1 KG0
        have cG' := cell_later HB.out cG
        have hGr : G < wr.heap.size := World.block_lt_of_cell? _ _ cG'
        by_cases hlt : k < n
        · have hkn : (k : Int) < (n : Int) := by omega
          have hst := stays_takeN l fs k (by omega)
          have hsl : (M.stays l (fs.take k)).length ≤ 60 := by
            have h1 := stays_le l (fs.take k)
            have h2 : (fs.take k).length ≤ k := List.length_take_le _ _
            omega
          have KGk : Hid (Calls Tryd.prog 55 #[.int .i64 k, .pointer (some ⟨P, 0, none⟩), .pointer (some ⟨L, 0, none⟩)] wr fun e w' => e = .returned (.bool (M.gone l (fs.getD k frg0))) ∧ Below wr.heap.size wr w') := KG.out k wr (by omega) HB.out
          have HSt : Hid ((M.stays l (fs.take (k + 1))).length = (M.stays l (fs.take k)).length + bif M.gone l (fs.getD k frg0) then 0 else 1) := hst
          clear hst
          generalize (M.stays l (fs.take k)).length = m at *
          generalize M.gone l (fs.getD k frg0) = gk at *
          cases gk
          · have HS2 : Hid ((M.stays l (fs.take (k + 1))).length = m + 1) := HSt.out
            clear HSt
            go_wp2_with (go_at_call 55; refine KGk.out.mono ?_; rintro e w2 ⟨rfl, hb2⟩)
            go_roundw
            case rel => exact ⟨k + 1, by omega, by go_num, by rw [HS2.out]; go_num, HB.out.trans (hb2.mono HB.out.size)⟩
            case measure => simp [intOf]; omega
          · have HS2 : Hid ((M.stays l (fs.take (k + 1))).length = m) := HSt.out
            clear HSt
            go_wp2_with (go_at_call 55; refine KGk.out.mono ?_; rintro e w2 ⟨rfl, hb2⟩)
            go_roundw
            case rel => exact ⟨k + 1, by omega, by go_num, by rw [HS2.out], HB.out.trans (hb2.mono HB.out.size)⟩
            case measure => simp [intOf]; omega
        · have hkn : k = n := by omega
          subst hkn
          go_wp2
          go_ret
          exact ⟨ret_int HT2.out.symm, HB.out⟩
    · have HT2 : Hid (R = -1) := by have := HT.out; rw [hgo] at this; exact this
      clear HT
      have KG0 : Hid (Calls Tryd.prog 55 #[.int .i64 n, .pointer (some ⟨P, 0, none⟩), .pointer (some ⟨L, 0, none⟩)] w fun e w' => e = .returned (.bool true) ∧ Below w.heap.size w w') := by
        have := KG.out n w hn (Below.refl _ _)
        rwa [hgo] at this
      clear hgo
      go_enter Tryd.func56, Tryd.ntmps56
      go_wp2_with (go_at_call 55; refine KG0.out.mono ?_; rintro e w1 ⟨rfl, hb1⟩)
      go_ret
      exact ⟨ret_int HT2.out.symm, hb1⟩

end Go.Proofs.YthbdfnphnppagaaDoor
