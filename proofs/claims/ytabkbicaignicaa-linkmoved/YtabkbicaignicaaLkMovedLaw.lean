/-
  The law of LinkMoved: it is true of every part, every base, every entry.
-/
import Derived.Test.YtabkbicaignicaaLkFact
import Derived.Test.YtabkbicaignicaaLkMovedMath
namespace Go.Proofs.Ytabkbicaignicaa
open Go Go.RowKit
set_option linter.unusedVariables false

set_option maxHeartbeats 8000000 in
set_option maxRecDepth 100000 in
theorem linkMoved_law (p : M.Prt) (base : Int) (s : ByteArray) (a1 a2 : Option Addr) (k1 k2 : Nat) (w : World) (hfa : FragsAt w (.slice a1 p.frags.length k1) p.frags) (hda : DefsAt w (.slice a2 p.defs.length k2) p.defs) (hsz : s.size ≤ maxLen) :
    Calls Try.prog 6 #[.agg #[.slice a1 p.frags.length k1, .slice a2 p.defs.length k2], .int .i64 base, .string s] w fun e w' => e = .returned (.bool true) ∧ Below w.heap.size w w' := by
  have KT : Hid (∀ W, Calls Try.prog 10 #[] W fun e w' => e = .returned (.bool true) ∧ Below W.heap.size W w') := fun W => linked_any W
  have V0 : Hid (Var (w.alloc (.cells #[.slice a1 p.frags.length k1, .slice a2 p.defs.length k2] 25)) w.heap.size a1 a2 k1 k2 p) := var_new hfa hda
  have HB0 : Hid (Below w.heap.size w (w.alloc (.cells #[.slice a1 p.frags.length k1, .slice a2 p.defs.length k2] 25))) := (Below.refl _ _).alloc (Nat.le_refl _) _
  clear hfa hda
  obtain ⟨m, fl, er, hl⟩ : ∃ im fl er, M.link p base s = (im, fl, er) := ⟨_, _, _, rfl⟩
  have Hl : Hid _ := hl
  have KL : Hid (Calls Try.prog 9 #[.agg #[.slice a1 p.frags.length k1, .slice a2 p.defs.length k2], .int .i64 base, .string s] (w.alloc (.cells #[.slice a1 p.frags.length k1, .slice a2 p.defs.length k2] 25)) _) := link_v V0.out.fr V0.out.df hsz m fl er hl
  have c0 := V0.out.c0
  have c1 := V0.out.c1
  clear hl
  go_enter Try.func6, Try.ntmps6
  go_upto_region 2 with (go_at_call 9; refine KL.out.mono ?_; rintro e w1 ⟨hb1, e1, f1, e2, f2, rfl, hS1, hF1⟩)
  have VM : Hid (IVar (w1.alloc (.cells #[.int .i64 m.entry, .slice e1 m.segs.length f1] 28)) w1.heap.size e1 f1 m) := ivar_new hS1
  have HB1 := hb1.alloc hb1.size (.cells #[.int .i64 m.entry, .slice e1 m.segs.length f1] 28)
  have hfl : fl.length ≤ maxLen := by obtain ⟨_, _, _, h⟩ := SlAt.form hF1; exact h
  unfold maxLen at hfl
  have V1 : Hid (Var (w1.alloc (.cells #[.int .i64 m.entry, .slice e1 m.segs.length f1] 28)) w.heap.size a1 a2 k1 k2 p) := V0.out.later HB1
  have HBX1 : Hid (Below w.heap.size w (w1.alloc (.cells #[.int .i64 m.entry, .slice e1 m.segs.length f1] 28))) := HB0.out.trans (HB1.mono HB0.out.size)
  clear hS1 hF1 KL c0 c1 hb1 HB1 V0 HB0
  generalize w1.alloc (.cells #[.int .i64 m.entry, .slice e1 m.segs.length f1] 28) = X1 at *
  generalize w1.heap.size = n7 at *
  by_cases her : er = 0
  case neg =>
    have her' : (er != 0) = true := by simpa using her
    clear Hl VM V1
    go_upto_region 3 with (go_at_call 10; refine (KT.out _).mono ?_; rintro e w3 ⟨rfl, hb3⟩)
    go_wp2_with (go_at_call 10; refine (KT.out _).mono ?_; rintro e w4 ⟨rfl, hb4⟩)
    go_ret
    exact ⟨rfl, HBX1.out.trans ((hb3.trans (hb4.mono hb3.size)).mono HBX1.out.size)⟩
  subst her
  by_cases hf0 : fl.length = 0
  case neg =>
    have hf1 : (0 : Int) < (fl.length : Int) := by omega
    clear Hl VM V1
    go_upto_region 3 with (go_at_call 10; refine (KT.out _).mono ?_; rintro e w3 ⟨rfl, hb3⟩)
    go_wp2_with (go_at_call 10; refine (KT.out _).mono ?_; rintro e w4 ⟨rfl, hb4⟩)
    go_ret
    exact ⟨rfl, HBX1.out.trans ((hb3.trans (hb4.mono hb3.size)).mono HBX1.out.size)⟩
  obtain rfl : fl = [] := List.eq_nil_of_length_eq_zero hf0
  clear hf0 hfl
  rw [show ([] : List Flt).length = 0 from rfl]
  by_cases hbs : 65504 < base
  · clear Hl VM V1
    go_upto_region 3 with (go_at_call 10; refine (KT.out _).mono ?_; rintro e w3 ⟨rfl, hb3⟩)
    go_wp2_with (go_at_call 10; refine (KT.out _).mono ?_; rintro e w4 ⟨rfl, hb4⟩)
    go_ret
    exact ⟨rfl, HBX1.out.trans ((hb3.trans (hb4.mono hb3.size)).mono HBX1.out.size)⟩
  have hb0 : 0 ≤ base := (link_inv Hl.out).2.2.2.2.1
  go_upto_region 4 with (go_at_call 10; refine (KT.out _).mono ?_; rintro e X3 ⟨rfl, hb3⟩)
  have VM3 : Hid _ := VM.out.later hb3
  have V3 := V1.out.later hb3
  have HBX3 : Hid (Below w.heap.size w X3) := HBX1.out.trans (hb3.mono HBX1.out.size)
  clear VM V1 HBX1 hb3
  obtain ⟨n, fl', er', hl'⟩ : ∃ im fl er, M.link p (base + 16) s = (im, fl, er) := ⟨_, _, _, rfl⟩
  obtain ⟨M1, M2⟩ := linkMoved_of Hl.out (by omega) hl'
  have HM1 : Hid _ := M1
  have HM2 : Hid _ := M2
  have KL : Hid (Calls Try.prog 9 #[.agg #[.slice a1 p.frags.length k1, .slice a2 p.defs.length k2], .int .i64 (base + 16), .string s] X3 _) := link_v V3.fr V3.df hsz n fl' er' hl'
  have c0 := V3.c0
  have c1 := V3.c1
  clear hl' Hl M1 M2 V3
  go_upto_region 5 with (go_at_call 9; refine KL.out.mono ?_; rintro e w5 ⟨hb5, g1, h1, g2, h2, rfl, hS5, hF5⟩)
  have VN : Hid (IVar (w5.alloc (.cells #[.int .i64 n.entry, .slice g1 n.segs.length h1] 28)) w5.heap.size g1 h1 n) := ivar_new hS5
  have HB5 := hb5.alloc hb5.size (.cells #[.int .i64 n.entry, .slice g1 n.segs.length h1] 28)
  have hfl : fl'.length ≤ maxLen := by obtain ⟨_, _, _, h⟩ := SlAt.form hF5; exact h
  unfold maxLen at hfl
  have VM5 : Hid (IVar (w5.alloc (.cells #[.int .i64 n.entry, .slice g1 n.segs.length h1] 28)) n7 e1 f1 m) := VM3.out.later HB5
  have HBX5 : Hid (Below w.heap.size w (w5.alloc (.cells #[.int .i64 n.entry, .slice g1 n.segs.length h1] 28))) := HBX3.out.trans (HB5.mono HBX3.out.size)
  clear hS5 hF5 KL c0 c1 hb5 HB5 VM3 HBX3
  generalize w5.alloc (.cells #[.int .i64 n.entry, .slice g1 n.segs.length h1] 28) = X5 at *
  generalize w5.heap.size = n10 at *
  by_cases her : er' = 0
  case neg =>
    obtain rfl : er' = 10 := by rcases HM1.out with h | h; exact absurd h her; exact h
    clear HM1 HM2 VN VM5
    go_wp2
    go_ret
    exact ⟨rfl, HBX5.out⟩
  subst her
  by_cases hf0 : fl'.length = 0
  case neg =>
    have hf1 : (0 : Int) < (fl'.length : Int) := by omega
    clear HM1 HM2 VN VM5
    go_wp2
    go_ret
    exact ⟨rfl, HBX5.out⟩
  obtain rfl : fl' = [] := List.eq_nil_of_length_eq_zero hf0
  have hIM := HM2.out (by trivial) rfl
  clear hf0 hfl HM1 HM2
  rw [show ([] : List Flt).length = 0 from rfl]
  have HSeg : Hid _ := hIM.seg
  have hen := hIM.entry
  obtain ⟨q0, q1⟩ := hIM.e0
  obtain ⟨l3, l3'⟩ := hIM.len
  have m0 : X5.cell? ⟨n7, 0, none⟩ = some (.int .i64 m.entry) := cellB VM5.out.blk 0
  have m1 : X5.cell? ⟨n7, 1, none⟩ = some (.slice e1 3 f1) := by rw [← l3]; exact cellB VM5.out.blk 1
  have n0 : X5.cell? ⟨n10, 0, none⟩ = some (.int .i64 (m.entry + 16)) := by rw [← hen]; exact cellB VN.out.blk 0
  have n1 : X5.cell? ⟨n10, 1, none⟩ = some (.slice g1 3 h1) := by rw [← l3']; exact cellB VN.out.blk 1
  have hlm := VM5.out.lt
  have hln := VN.out.lt
  have HS : Hid (∀ W, Below X5.heap.size X5 W → SegsAt W (.slice e1 m.segs.length f1) m.segs ∧ SegsAt W (.slice g1 n.segs.length h1) n.segs ∧ W.cell? ⟨n10, 1, none⟩ = some (.slice g1 3 h1) ∧ n10 < W.heap.size) := fun W hW => ⟨VM5.out.segs.later hW, VN.out.segs.later hW, cell_later hW n1, Nat.lt_of_lt_of_le hln hW.size⟩
  have HL3 : Hid (m.segs.length = 3 ∧ n.segs.length = 3) := ⟨l3, l3'⟩
  clear VM5 VN hIM hen l3 l3'
  generalize m.entry = me at *
  generalize n.entry = ne at *
  go_upto_region 9 with fail
  go_wp2_with fail
  clear m0 m1 n0 n1 hlm hln
  go_loopw [78] (fun s78 wr => ∃ (k : Nat), k ≤ 3 ∧ s78 = .int .i64 k ∧ Hid (Below X5.heap.size X5 wr)) (fun s78 _ => 3 - (intOf s78).toNat)
  case atStart => exact ⟨0, Nat.zero_le _, rfl, Below.refl _ _⟩
  case round =>
    obtain ⟨k, hk, rfl, HB⟩ := hrel
    obtain ⟨sm, sn, n1, hln⟩ := HS.out wr HB.out
    by_cases hlt : k < 3
    · obtain ⟨b, off, ab, cb, rfl, x0, x1, x2, x3, x4, -⟩ := sm.cells k (by rw [HL3.out.1]; exact hlt)
      obtain ⟨b', off', ab', cb', rfl, y0, y1, y2, y3, y4, -⟩ := sn.cells k (by rw [HL3.out.2]; exact hlt)
      obtain ⟨z1, z2, z3, z4, z5, z6, z7⟩ := HSeg.out k hlt
      rw [z1] at y0
      rw [z4] at y1
      rw [z5] at y2
      rw [z6] at y3
      rw [z7] at y4
      clear z1 z4 z5 z6 z7 sm sn
      have hbr : b < wr.heap.size := World.block_lt_of_cell? _ _ x0
      have hbr' : b' < wr.heap.size := World.block_lt_of_cell? _ _ y0
      have hkl : (k : Int) < 3 := by omega
      generalize m.segs.getD k M.seg0 = x at *
      obtain ⟨ps, by_, zr, wb, kb⟩ := x
      simp only at x0 x1 x2 x3 x4 y0 y1 y2 y3 y4 z2 z3
      generalize by_.length = lb at *
      have HBa : Hid (∀ o1 o2, Below X5.heap.size X5 ((wr.alloc o1).alloc o2)) := fun o1 o2 => (HB.out.alloc HB.out.size _).alloc (by simpa using Nat.le_succ_of_le HB.out.size) _
      go_wp2
      go_roundw
      case rel => exact ⟨k + 1, by omega, by go_num, HBa.out _ _⟩
      case measure => simp [intOf]; omega
    · have hkl : k = 3 := by omega
      subst hkl
      go_wp2
      go_ret
      exact ⟨rfl, HBX5.out.trans (HB.out.mono HBX5.out.size)⟩

end Go.Proofs.Ytabkbicaignicaa
