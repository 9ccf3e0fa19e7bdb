/-
  The contracts of slices.ContainsFunc at segments with the law's closure, and of slices.Contains at numbers.
-/
import Derived.Test.YtabkbicaignicaaLdA
import Derived.Test.YtabkbicaignicaaLyIn
namespace Go.Proofs.Ytabkbicaignicaa
open Go Go.RowKit
set_option linter.unusedVariables false

/-- does a segment begin or end there -/
def edge (en : Int) (s : M.Seg) : Bool := en == M.segEnd s || en == s.pos

set_option maxHeartbeats 1000000 in
theorem edgeFn_any (s : M.Seg) (ab : Option Addr) (cb n : Nat) (en : Int) (w : World) (hf : M.SegFit s) (hs : w.cell? ⟨n, 0, none⟩ = some (.int .i64 en)) :
    Calls Try.prog 22 #[.agg #[.int .i64 s.pos, .slice ab s.bytes.length cb, .int .i64 s.zeros, .bool s.writes, .bool s.works], .pointer (some ⟨n, 0, none⟩)] w fun e w' => e = .returned (.bool (edge en s)) ∧ Below w.heap.size w w' := by
  have HX : Hid (edge en s = (en == s.pos + s.bytes.length + s.zeros || en == s.pos)) := rfl
  have h1 := hf.pos
  have h2 := hf.zeros
  have h3 := hf.len
  clear hf
  generalize edge en s = R at *
  obtain ⟨p, bs, z, sw, sk⟩ := s
  simp only at *
  generalize bs.length = m at *
  have w1 : IntKind.i64.wrap (p + m) = p + m := by rw [IntKind.wrap_i64]; omega
  have w2 : IntKind.i64.wrap (p + m + z) = p + m + z := by rw [IntKind.wrap_i64]; omega
  have hA : Below w.heap.size w (w.alloc (.cells #[.int .i64 p, .slice ab m cb, .int .i64 z, .bool sw, .bool sk] 62)) := (Below.refl _ _).alloc (Nat.le_refl _) _
  have hnw : n < w.heap.size := World.block_lt_of_cell? _ _ hs
  cases e1 : (en == p + m + z)
  · cases e2 : (en == p)
    · obtain rfl : R = false := by rw [HX.out, e1, e2]; rfl
      clear HX
      go_enter Try.func22, Try.ntmps22
      go_wp2
      go_ret
      exact ⟨rfl, hA⟩
    · obtain rfl : R = true := by rw [HX.out, e1, e2]; rfl
      clear HX
      go_enter Try.func22, Try.ntmps22
      go_wp2
      go_ret
      exact ⟨rfl, hA⟩
  · obtain rfl : R = true := by rw [HX.out, e1]; rfl
    clear HX
    go_enter Try.func22, Try.ntmps22
    go_wp2
    go_ret
    exact ⟨rfl, hA⟩

theorem cell_laterL {w w' : World} {n o : Nat} {v : Value} (h : w.cell? ⟨n, o, none⟩ = some v) (hb : Below w.heap.size w w') : w'.cell? ⟨n, o, none⟩ = some v :=
  (hb.cell (p := ⟨n, o, none⟩) (World.block_lt_of_cell? _ _ h)).trans h

set_option maxHeartbeats 2000000 in
set_option maxRecDepth 100000 in
theorem indexEdge_any (l : List M.Seg) (a : Option Addr) (c n : Nat) (en : Int) (w : World) (h : SegsAt w (.slice a l.length c) l) (hF : ∀ s ∈ l, M.SegFit s) (hs : w.cell? ⟨n, 0, none⟩ = some (.int .i64 en)) :
    Calls Try.prog 57 #[.slice a l.length c, .func (.func 22) #[] #[.pointer (some ⟨n, 0, none⟩)]] w fun e w' => (∃ x, e = .returned (.int .i64 x) ∧ decide (0 ≤ x) = l.any (edge en)) ∧ Below w.heap.size w w' := by
  have hn : l.length ≤ maxLen := by obtain ⟨_, _, _, h⟩ := h.form; exact h
  unfold maxLen at hn
  have HH : Hid (∀ W, Below w.heap.size w W → SegsAt W (.slice a l.length c) l ∧ W.cell? ⟨n, 0, none⟩ = some (.int .i64 en)) := fun W hW => ⟨h.later hW, cell_laterL hs hW⟩
  have HF : Hid (∀ s ∈ l, M.SegFit s) := hF
  clear h hs hF
  have HA0 : Hid ((l.take 0).any (edge en) = false) := rfl
  go_enter Try.func57, Try.ntmps57
  go_wp2_with fail
  go_loopw [8] (fun s8 wr => ∃ (k : Nat), k ≤ l.length ∧ s8 = .int .i64 k ∧ Hid ((l.take k).any (edge en) = false) ∧ Hid (Below w.heap.size w wr)) (fun s8 _ => l.length - (intOf s8).toNat)
  case atStart => exact ⟨0, Nat.zero_le _, rfl, HA0, Below.refl _ _⟩
  case round =>
    obtain ⟨k, hk, rfl, HA, HB⟩ := hrel
    clear HA0
    by_cases hlt : k < l.length
    · obtain ⟨bb, off, ab, cb, rfl, e0, e1, e2, e3, e4, _⟩ := (HH.out wr HB.out).1.cells k hlt
      have hkl : (k : Int) < (l.length : Int) := by omega
      have hbl : bb < wr.heap.size := World.block_lt_of_cell? _ _ e0
      have KC : Hid (Calls Try.prog 22 #[.agg #[.int .i64 (l.getD k M.seg0).pos, .slice ab (l.getD k M.seg0).bytes.length cb, .int .i64 (l.getD k M.seg0).zeros, .bool (l.getD k M.seg0).writes, .bool (l.getD k M.seg0).works], .pointer (some ⟨n, 0, none⟩)] wr fun e w' => e = .returned (.bool (edge en (l.getD k M.seg0))) ∧ Below wr.heap.size wr w') := edgeFn_any (l.getD k M.seg0) ab cb n en wr (HF.out _ (getD_mem l M.seg0 k hlt)) (HH.out wr HB.out).2
      have HN : Hid ((l.take (k + 1)).any (edge en) = edge en (l.getD k M.seg0)) := by
        have := HA.out
        rw [Hid, List.take_succ_eq_append_getElem hlt, List.any_append, this, List.getD_eq_getElem?_getD, List.getElem?_eq_getElem hlt]; simp
      have HT : Hid (edge en (l.getD k M.seg0) = true → l.any (edge en) = true) := fun h => List.any_eq_true.2 ⟨_, getD_mem l M.seg0 k hlt, h⟩
      clear HA
      generalize edge en (l.getD k M.seg0) = R at *
      generalize l.getD k M.seg0 = d at *
      cases R
      · clear HT
        go_wp2_with (go_at_call 22; refine KC.out.mono ?_; rintro e w1 ⟨rfl, hb1⟩)
        go_roundw
        case rel => exact ⟨k + 1, by omega, by go_num, HN, HB.out.trans (hb1.mono HB.out.size)⟩
        case measure => simp [intOf]; omega
      · have HAn : Hid _ := HT.out rfl
        clear HT HN
        go_wp2_with (go_at_call 22; refine KC.out.mono ?_; rintro e w1 ⟨rfl, hb1⟩)
        go_ret
        exact ⟨⟨_, rfl, by rw [HAn.out]; simp⟩, HB.out.trans (hb1.mono HB.out.size)⟩
    · obtain rfl : k = l.length := by omega
      have HAn : Hid (l.any (edge en) = false) := by have := HA.out; rwa [List.take_length] at this
      clear HA
      go_wp2
      go_ret
      exact ⟨⟨_, rfl, by rw [HAn.out]; decide⟩, HB.out⟩

theorem containsEdge_any (l : List M.Seg) (a : Option Addr) (c n : Nat) (en : Int) (w : World) (h : SegsAt w (.slice a l.length c) l) (hF : ∀ s ∈ l, M.SegFit s) (hs : w.cell? ⟨n, 0, none⟩ = some (.int .i64 en)) :
    Calls Try.prog 21 #[.slice a l.length c, .func (.func 22) #[] #[.pointer (some ⟨n, 0, none⟩)]] w fun e w' => e = .returned (.bool (l.any (edge en))) ∧ Below w.heap.size w w' := by
  have HK : Hid _ := indexEdge_any l a c n en w h hF hs
  generalize l.any (edge en) = R at *
  clear h hs hF
  go_enter Try.func21, Try.ntmps21
  go_wp2_with (go_at_call 57; refine Calls.mono HK.out ?_; rintro e w1 ⟨⟨x, rfl, hx⟩, hb1⟩)
  go_ret
  exact ⟨by simp_all, hb1⟩

set_option maxHeartbeats 2000000 in
set_option maxRecDepth 100000 in
theorem indexI_any (l : List Int) (a : Option Addr) (c : Nat) (x : Int) (w : World) (h : IntsAt w (.slice a l.length c) l) (hx : x ∈ l) :
    Calls Try.prog 58 #[.slice a l.length c, .int .i64 x] w fun e w' => (∃ k : Nat, e = .returned (.int .i64 k)) ∧ w' = w := by
  have hn : l.length ≤ maxLen := by obtain ⟨_, _, _, h⟩ := SlAt.form h; exact h
  unfold maxLen at hn
  have HI : Hid (IntsAt w (.slice a l.length c) l) := h
  have HX : Hid (x ∈ l.drop 0) := hx
  clear h hx
  go_enter Try.func58, Try.ntmps58
  go_wp2_with fail
  go_loopw [8] (fun s8 wr => ∃ (k : Nat), k ≤ l.length ∧ s8 = .int .i64 k ∧ Hid (x ∈ l.drop k) ∧ wr = w) (fun s8 _ => l.length - (intOf s8).toNat)
  case atStart => exact ⟨0, Nat.zero_le _, rfl, HX, rfl⟩
  case round =>
    obtain ⟨k, hk, rfl, HA, hwr⟩ := hrel
    have hwr : w = wr := hwr.symm
    subst hwr
    clear HX
    by_cases hlt : k < l.length
    · obtain ⟨bb, off, rfl, hc, hbl⟩ := IntsAt.cell HI.out k hlt
      have hkl : (k : Int) < (l.length : Int) := by omega
      have HA1 := HA.out
      rw [drop_getD l 0 k hlt] at HA1
      have HN : Hid (¬ x = l.getD k 0 → x ∈ l.drop (k + 1)) := fun h => (List.mem_cons.1 HA1).resolve_left h
      clear HA HA1
      generalize l.getD k 0 = y at *
      cases e : (x == y)
      · have HN2 : Hid _ := HN.out (by simpa using e)
        clear HN
        go_wp2_with fail
        go_roundw
        case rel => exact ⟨k + 1, by omega, by go_num, HN2, by trivial⟩
        case measure => simp [intOf]; omega
      · clear HN
        go_wp2
        go_ret
        exact ⟨⟨k, rfl⟩, rfl⟩
    · obtain rfl : k = l.length := by omega
      exfalso
      have := HA.out
      rw [List.drop_length] at this
      cases this

theorem containsI_any (l : List Int) (a : Option Addr) (c : Nat) (x : Int) (w : World) (h : IntsAt w (.slice a l.length c) l) (hx : x ∈ l) :
    Calls Try.prog 23 #[.slice a l.length c, .int .i64 x] w fun e w' => e = .returned (.bool true) ∧ w' = w := by
  have HK : Hid _ := indexI_any l a c x w h hx
  clear h hx
  go_enter Try.func23, Try.ntmps23
  go_wp2_with (go_at_call 58; refine Calls.mono HK.out ?_; rintro e w1 ⟨⟨k, rfl⟩, rfl⟩; have hk0 : (0 : Int) ≤ (k : Int) := Int.natCast_nonneg k)
  go_ret
  exact ⟨rfl, rfl⟩

end Go.Proofs.Ytabkbicaignicaa
