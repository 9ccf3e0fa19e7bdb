/-
  The contract of link.faulty: is a name one of the faults?
-/
import Derived.Test.YtabkbicaignicaaLyIn
namespace Go.Proofs.Ytabkbicaignicaa
open Go Go.RowKit
set_option linter.unusedVariables false

theorem FltsAt.cells {w : World} {a : Option Addr} {c : Nat} {l : List Flt} (h : FltsAt w (.slice a l.length c) l) (k : Nat) (hk : k < l.length) :
    ∃ b off, a = some ⟨b, off, none⟩ ∧ w.cell? ⟨b, off + k * 4, none⟩ = some (.int .i64 (l.getD k flt0).e) ∧ w.cell? ⟨b, off + k * 4 + 1, none⟩ = some (.string (l.getD k flt0).name) ∧ w.cell? ⟨b, off + k * 4 + 2, none⟩ = some (.int .i64 (l.getD k flt0).frag) ∧ w.cell? ⟨b, off + k * 4 + 3, none⟩ = some (.int .i64 (l.getD k flt0).pos) := by
  obtain ⟨b, off, e, hc⟩ := SlAt.at h k hk
  exact ⟨b, off, e, hc 0 (by decide), hc 1 (by decide), hc 2 (by decide), hc 3 (by decide)⟩

theorem faultyFn_any (f : Flt) (n : Nat) (s : ByteArray) (w : World) (hs : w.cell? ⟨n, 0, none⟩ = some (.string s)) :
    Calls Try.prog 103 #[.agg #[.int .i64 f.e, .string f.name, .int .i64 f.frag, .int .i64 f.pos], .pointer (some ⟨n, 0, none⟩)] w fun e w' => e = .returned (.bool (f.name.toList == s.toList)) ∧ Below w.heap.size w w' := by
  obtain ⟨e, nm, fr, pos⟩ := f
  have hA : Below w.heap.size w (w.alloc (.cells #[.int .i64 e, .string nm, .int .i64 fr, .int .i64 pos] 69)) := (Below.refl _ _).alloc (Nat.le_refl _) _
  have hnw : n < w.heap.size := World.block_lt_of_cell? _ _ hs
  simp only
  go_enter Try.func103, Try.ntmps103
  go_wp2
  go_ret
  exact ⟨rfl, hA⟩

set_option maxHeartbeats 1000000 in
set_option maxRecDepth 100000 in
theorem indexFaulty_any (l : List Flt) (a : Option Addr) (c n : Nat) (s : ByteArray) (w : World) (h : FltsAt w (.slice a l.length c) l) (hs : w.cell? ⟨n, 0, none⟩ = some (.string s)) :
    Calls Try.prog 116 #[.slice a l.length c, .func (.func 103) #[] #[.pointer (some ⟨n, 0, none⟩)]] w fun e w' => (∃ x, e = .returned (.int .i64 x) ∧ decide (0 ≤ x) = M.faulty l s) ∧ Below w.heap.size w w' := by
  have hn : l.length ≤ maxLen := by obtain ⟨_, _, _, h⟩ := SlAt.form h; exact h
  unfold maxLen at hn
  have HH : Hid (∀ W, Below w.heap.size w W → FltsAt W (.slice a l.length c) l ∧ W.cell? ⟨n, 0, none⟩ = some (.string s)) := fun W hW => ⟨h.later hW, cell_later hW hs⟩
  clear h hs
  have HA0 : Hid (M.faulty (l.take 0) s = false) := rfl
  go_enter Try.func116, Try.ntmps116
  go_wp2_with fail
  go_loopw [8] (fun s8 wr => ∃ (k : Nat), k ≤ l.length ∧ s8 = .int .i64 k ∧ Hid (M.faulty (l.take k) s = false) ∧ Hid (Below w.heap.size w wr)) (fun s8 _ => l.length - (intOf s8).toNat)
  case atStart => exact ⟨0, Nat.zero_le _, rfl, HA0, Below.refl _ _⟩
  case round =>
    obtain ⟨k, hk, rfl, HA, HB⟩ := hrel
    clear HA0
    by_cases hlt : k < l.length
    · obtain ⟨bb, off, rfl, e0, e1, e2, e3⟩ := (HH.out wr HB.out).1.cells k hlt
      have hkl : (k : Int) < (l.length : Int) := by omega
      have KC : Hid (Calls Try.prog 103 #[.agg #[.int .i64 (l.getD k flt0).e, .string (l.getD k flt0).name, .int .i64 (l.getD k flt0).frag, .int .i64 (l.getD k flt0).pos], .pointer (some ⟨n, 0, none⟩)] wr fun e w' => e = .returned (.bool ((l.getD k flt0).name.toList == s.toList)) ∧ Below wr.heap.size wr w') := faultyFn_any (l.getD k flt0) n s wr (HH.out wr HB.out).2
      have HN : Hid (M.faulty (l.take (k + 1)) s = ((l.getD k flt0).name.toList == s.toList)) := by
        have := HA.out
        unfold M.faulty at this ⊢
        rw [Hid, List.take_succ_eq_append_getElem hlt, List.any_append, this, List.getD_eq_getElem?_getD, List.getElem?_eq_getElem hlt]; simp
      have HT : Hid (((l.getD k flt0).name.toList == s.toList) = true → M.faulty l s = true) := fun h => List.any_eq_true.2 ⟨_, getD_mem l flt0 k hlt, h⟩
      clear HA
      generalize ((l.getD k flt0).name.toList == s.toList) = R at *
      generalize l.getD k flt0 = d at *
      obtain ⟨er, nm, fr, pos⟩ := d
      simp only at e0 e1 e2 e3 KC
      cases R
      · clear HT
        go_wp2_with (go_at_call 103; refine KC.out.mono ?_; rintro e w1 ⟨rfl, hb1⟩)
        go_roundw
        case rel => exact ⟨k + 1, by omega, by go_num, HN, HB.out.trans (hb1.mono HB.out.size)⟩
        case measure => simp [intOf]; omega
      · have HAn : Hid _ := HT.out rfl
        clear HT HN
        go_wp2_with (go_at_call 103; refine KC.out.mono ?_; rintro e w1 ⟨rfl, hb1⟩)
        go_ret
        exact ⟨⟨_, rfl, by rw [HAn.out]; simp⟩, HB.out.trans (hb1.mono HB.out.size)⟩
    · obtain rfl : k = l.length := by omega
      have HAn : Hid (M.faulty l s = false) := by have := HA.out; rwa [List.take_length] at this
      clear HA
      go_wp2
      go_ret
      exact ⟨⟨_, rfl, by rw [HAn.out]; decide⟩, HB.out⟩

theorem containsFaulty_any (l : List Flt) (a : Option Addr) (c n : Nat) (s : ByteArray) (w : World) (h : FltsAt w (.slice a l.length c) l) (hs : w.cell? ⟨n, 0, none⟩ = some (.string s)) :
    Calls Try.prog 102 #[.slice a l.length c, .func (.func 103) #[] #[.pointer (some ⟨n, 0, none⟩)]] w fun e w' => e = .returned (.bool (M.faulty l s)) ∧ Below w.heap.size w w' := by
  have HK : Hid _ := indexFaulty_any l a c n s w h hs
  generalize M.faulty l s = R at *
  clear h hs
  go_enter Try.func102, Try.ntmps102
  go_wp2_with (go_at_call 116; refine Calls.mono HK.out ?_; rintro e w1 ⟨⟨x, rfl, hx⟩, hb1⟩)
  go_ret
  exact ⟨by simp_all, hb1⟩

theorem faulty_any (l : List Flt) (a : Option Addr) (c : Nat) (s : ByteArray) (w : World) (h : FltsAt w (.slice a l.length c) l) :
    Calls Try.prog 93 #[.slice a l.length c, .string s] w fun e w' => e = .returned (.bool (M.faulty l s)) ∧ Below w.heap.size w w' := by
  have hA : Below w.heap.size w (w.alloc (.cells #[.string s] 9)) := (Below.refl _ _).alloc (Nat.le_refl _) _
  have q := heap_alloc_new w (.cells #[.string s] 9)
  have HK : Hid (Calls Try.prog 102 #[.slice a l.length c, .func (.func 103) #[] #[.pointer (some ⟨w.heap.size, 0, none⟩)]] (w.alloc (.cells #[.string s] 9)) _) := containsFaulty_any l a c w.heap.size s _ (h.later hA) (cellB q 0)
  generalize M.faulty l s = R at *
  clear h q
  go_enter Try.func93, Try.ntmps93
  go_wp2_with (go_at_call 102; refine HK.out.mono ?_; rintro e w1 ⟨rfl, hb1⟩)
  go_ret
  exact ⟨rfl, hA.trans (hb1.mono hA.size)⟩

end Go.Proofs.Ytabkbicaignicaa
