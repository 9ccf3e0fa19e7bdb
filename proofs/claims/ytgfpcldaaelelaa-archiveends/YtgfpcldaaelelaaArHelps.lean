/-
  The contracts of Choose's second function, and of slices.ContainsFunc with it.
-/
import Derived.Test.YtgfpcldaaelelaaArEnter
namespace Go.Proofs.Ytgfpcldaaelelaa
open Go Go.RowKit
set_option linter.unusedVariables false

/-- a variable holds the map -/
def StVar (w : World) (n b N : Nat) (st : M.St) : Prop := w.cell? ⟨n, 0, none⟩ = some (.map (some b)) ∧ StAt w b N st
theorem StVar.later {w w' : World} {n b N : Nat} {st : M.St} (h : StVar w n b N st) (hb : Below w.heap.size w w') : StVar w' n b N st := ⟨cell_later hb h.1, h.2.later hb⟩

theorem helpsFn_any (d : M.Dfn) (n b N : Nat) (st : M.St) (w : World) (hs : StVar w n b N st) (hnm : d.name.size ≤ maxLen) :
    Calls Try.prog 31 #[.agg #[.string d.name, .int .i64 d.kind, .int .i64 d.frag, .int .i64 d.pos, .int .i64 d.size, .int .i64 d.align], .pointer (some ⟨n, 0, none⟩)] w fun e w' => e = .returned (.bool (M.helps st d)) ∧ Below w.heap.size w w' := by
  obtain ⟨nm, kd, fr, pos, sz, al⟩ := d
  simp only at hnm
  have hA : Below w.heap.size w (w.alloc (.cells #[.string nm, .int .i64 kd, .int .i64 fr, .int .i64 pos, .int .i64 sz, .int .i64 al] 42)) := (Below.refl _ _).alloc (Nat.le_refl _) _
  have hl := (hs.2.later hA).look nm hnm
  have hc := hs.1
  have hnw : n < w.heap.size := World.block_lt_of_cell? _ _ hc
  have HX : Hid (M.helps st ⟨nm, kd, fr, pos, sz, al⟩ = (kd != 3 && st nm.data.toList == 1)) := rfl
  generalize M.helps st ⟨nm, kd, fr, pos, sz, al⟩ = R at *
  generalize st nm.data.toList = x at *
  clear hs
  cases h3 : (kd != 3)
  · rw [h3] at HX
    obtain rfl : R = false := HX.out
    clear HX
    go_enter Try.func31, Try.ntmps31
    go_wp2
    go_ret
    exact ⟨rfl, hA⟩
  · rw [h3] at HX
    obtain rfl : R = (x == 1) := HX.out
    clear HX
    go_enter Try.func31, Try.ntmps31
    go_wp2
    go_ret
    exact ⟨rfl, hA⟩

set_option maxHeartbeats 1000000 in
set_option maxRecDepth 100000 in
theorem indexHelps_any (l : List M.Dfn) (a : Option Addr) (c n b N : Nat) (st : M.St) (w : World) (h : DefsAt w (.slice a l.length c) l) (hs : StVar w n b N st) :
    Calls Try.prog 40 #[.slice a l.length c, .func (.func 31) #[] #[.pointer (some ⟨n, 0, none⟩)]] w fun e w' => (∃ x, e = .returned (.int .i64 x) ∧ decide (0 ≤ x) = l.any (M.helps st)) ∧ Below w.heap.size w w' := by
  have hn : l.length ≤ maxLen := by obtain ⟨_, _, _, h⟩ := h.1.form; exact h
  unfold maxLen at hn
  have HH : Hid (∀ W, Below w.heap.size w W → DefsAt W (.slice a l.length c) l ∧ StVar W n b N st) := fun W hW => ⟨h.later hW, hs.later hW⟩
  clear h hs
  have HA0 : Hid ((l.take 0).any (M.helps st) = false) := rfl
  go_enter Try.func40, Try.ntmps40
  go_wp2_with fail
  go_loopw [8] (fun s8 wr => ∃ (k : Nat), k ≤ l.length ∧ s8 = .int .i64 k ∧ Hid ((l.take k).any (M.helps st) = false) ∧ Hid (Below w.heap.size w wr)) (fun s8 _ => l.length - (intOf s8).toNat)
  case atStart => exact ⟨0, Nat.zero_le _, rfl, HA0, Below.refl _ _⟩
  case round =>
    obtain ⟨k, hk, rfl, HA, HB⟩ := hrel
    clear HA0
    by_cases hlt : k < l.length
    · obtain ⟨bb, off, rfl, e0, e1, e2, e3, e4, e5, hnm⟩ := (HH.out wr HB.out).1.cells k hlt
      have hkl : (k : Int) < (l.length : Int) := by omega
      have KC : Hid (Calls Try.prog 31 #[.agg #[.string (l.getD k dfn0).name, .int .i64 (l.getD k dfn0).kind, .int .i64 (l.getD k dfn0).frag, .int .i64 (l.getD k dfn0).pos, .int .i64 (l.getD k dfn0).size, .int .i64 (l.getD k dfn0).align], .pointer (some ⟨n, 0, none⟩)] wr fun e w' => e = .returned (.bool (M.helps st (l.getD k dfn0))) ∧ Below wr.heap.size wr w') := helpsFn_any _ n b N st wr (HH.out wr HB.out).2 hnm
      have HN : Hid ((l.take (k + 1)).any (M.helps st) = M.helps st (l.getD k dfn0)) := by
        rw [Hid, List.take_succ_eq_append_getElem hlt, List.any_append, HA.out, List.getD_eq_getElem?_getD, List.getElem?_eq_getElem hlt]; simp
      have HT : Hid (M.helps st (l.getD k dfn0) = true → l.any (M.helps st) = true) := fun h => List.any_eq_true.2 ⟨_, getD_mem l dfn0 k hlt, h⟩
      clear HA
      generalize M.helps st (l.getD k dfn0) = R at *
      generalize l.getD k dfn0 = d at *
      obtain ⟨nm, kd, fr, pos, sz, al⟩ := d
      simp only at e0 e1 e2 e3 e4 e5 KC
      cases R
      · clear HT
        go_wp2_with (go_at_call 31; refine KC.out.mono ?_; rintro e w1 ⟨rfl, hb1⟩)
        go_roundw
        case rel => exact ⟨k + 1, by omega, by go_num, HN, HB.out.trans (hb1.mono HB.out.size)⟩
        case measure => simp [intOf]; omega
      · have hany := HT.out rfl
        have HAn : Hid _ := hany
        clear HT hany HN
        go_wp2_with (go_at_call 31; refine KC.out.mono ?_; rintro e w1 ⟨rfl, hb1⟩)
        go_ret
        exact ⟨⟨_, rfl, by rw [HAn.out]; simp⟩, HB.out.trans (hb1.mono HB.out.size)⟩
    · obtain rfl : k = l.length := by omega
      have HAn : Hid (l.any (M.helps st) = false) := by have := HA.out; rwa [List.take_length] at this
      clear HA
      go_wp2
      go_ret
      exact ⟨⟨_, rfl, by rw [HAn.out]; decide⟩, HB.out⟩

theorem containsHelps_any (l : List M.Dfn) (a : Option Addr) (c n b N : Nat) (st : M.St) (w : World) (h : DefsAt w (.slice a l.length c) l) (hs : StVar w n b N st) :
    Calls Try.prog 13 #[.slice a l.length c, .func (.func 31) #[] #[.pointer (some ⟨n, 0, none⟩)]] w fun e w' => e = .returned (.bool (l.any (M.helps st))) ∧ Below w.heap.size w w' := by
  have KI := indexHelps_any l a c n b N st w h hs
  generalize l.any (M.helps st) = R at *
  clear h hs
  have HK : Hid _ := KI
  clear KI
  go_enter Try.func13, Try.ntmps13
  go_wp2_with (go_at_call 40; refine Calls.mono HK.out ?_; rintro e w1 ⟨⟨x, rfl, hx⟩, hb1⟩)
  go_ret
  exact ⟨by simp_all, hb1⟩

end Go.Proofs.Ytgfpcldaaelelaa
