/-
  The law of LinkFaults: it is true of every part, every base, every entry.
-/
import Derived.Test.YtabkbicaignicaaLkFact
import Derived.Test.YtabkbicaignicaaLkFaultsMath
namespace Go.Proofs.Ytabkbicaignicaa
open Go Go.RowKit
set_option linter.unusedVariables false

theorem relFn_any (r : M.Rel) (n : Nat) (ps : Int) (w : World) (hs : w.cell? ⟨n, 3, none⟩ = some (.int .i64 ps)) :
    Calls Try.prog 28 #[.agg #[.int .i64 r.pos, .int .i64 r.kind, .string r.name, .int .i64 r.frag, .int .i64 r.add], .pointer (some ⟨n, 0, none⟩)] w fun e w' => e = .returned (.bool (r.pos == ps)) ∧ Below w.heap.size w w' := by
  obtain ⟨p1, kd, nm, fr, ad⟩ := r
  have hA : Below w.heap.size w (w.alloc (.cells #[.int .i64 p1, .int .i64 kd, .string nm, .int .i64 fr, .int .i64 ad] 51)) := (Below.refl _ _).alloc (Nat.le_refl _) _
  have hnw : n < w.heap.size := World.block_lt_of_cell? _ _ hs
  simp only
  go_enter Try.func28, Try.ntmps28
  go_wp2
  go_ret
  exact ⟨rfl, hA⟩

set_option maxHeartbeats 1000000 in
set_option maxRecDepth 100000 in
theorem indexRel_any (l : List M.Rel) (a : Option Addr) (c n : Nat) (ps : Int) (w : World) (h : RelsAt w (.slice a l.length c) l) (hs : w.cell? ⟨n, 3, none⟩ = some (.int .i64 ps)) :
    Calls Try.prog 63 #[.slice a l.length c, .func (.func 28) #[] #[.pointer (some ⟨n, 0, none⟩)]] w fun e w' => (∃ x, e = .returned (.int .i64 x) ∧ decide (0 ≤ x) = l.any (fun r => r.pos == ps)) ∧ Below w.heap.size w w' := by
  have hn : l.length ≤ maxLen := by obtain ⟨_, _, _, h⟩ := h.1.form; exact h
  unfold maxLen at hn
  have HH : Hid (∀ W, Below w.heap.size w W → RelsAt W (.slice a l.length c) l ∧ W.cell? ⟨n, 3, none⟩ = some (.int .i64 ps)) := fun W hW => ⟨h.later hW, cell_later hW hs⟩
  clear h hs
  have HA0 : Hid ((l.take 0).any (fun r => r.pos == ps) = false) := rfl
  go_enter Try.func63, Try.ntmps63
  go_wp2_with fail
  go_loopw [8] (fun s8 wr => ∃ (k : Nat), k ≤ l.length ∧ s8 = .int .i64 k ∧ Hid ((l.take k).any (fun r => r.pos == ps) = false) ∧ Hid (Below w.heap.size w wr)) (fun s8 _ => l.length - (intOf s8).toNat)
  case atStart => exact ⟨0, Nat.zero_le _, rfl, HA0, Below.refl _ _⟩
  case round =>
    obtain ⟨k, hk, rfl, HA, HB⟩ := hrel
    clear HA0
    by_cases hlt : k < l.length
    · obtain ⟨bb, off, rfl, e0, e1, e2, e3, e4⟩ := relsAt_cells (HH.out wr HB.out).1 k hlt
      have hkl : (k : Int) < (l.length : Int) := by omega
      have KC : Hid (Calls Try.prog 28 #[.agg #[.int .i64 (l.getD k rel0).pos, .int .i64 (l.getD k rel0).kind, .string (l.getD k rel0).name, .int .i64 (l.getD k rel0).frag, .int .i64 (l.getD k rel0).add], .pointer (some ⟨n, 0, none⟩)] wr fun e w' => e = .returned (.bool ((l.getD k rel0).pos == ps)) ∧ Below wr.heap.size wr w') := relFn_any (l.getD k rel0) n ps wr (HH.out wr HB.out).2
      have HN : Hid ((l.take (k + 1)).any (fun r => r.pos == ps) = ((l.getD k rel0).pos == ps)) := by
        rw [Hid, List.take_succ_eq_append_getElem hlt, List.any_append, HA.out, List.getD_eq_getElem?_getD, List.getElem?_eq_getElem hlt]; simp
      have HT : Hid (((l.getD k rel0).pos == ps) = true → l.any (fun r => r.pos == ps) = true) := fun h => List.any_eq_true.2 ⟨_, getD_mem l rel0 k hlt, h⟩
      clear HA
      generalize ((l.getD k rel0).pos == ps) = R at *
      generalize l.getD k rel0 = d at *
      obtain ⟨p1, kd, nm, fr, ad⟩ := d
      simp only at e0 e1 e2 e3 e4 KC
      cases R
      · clear HT
        go_wp2_with (go_at_call 28; refine KC.out.mono ?_; rintro e w1 ⟨rfl, hb1⟩)
        go_roundw
        case rel => exact ⟨k + 1, by omega, by go_num, HN, HB.out.trans (hb1.mono HB.out.size)⟩
        case measure => simp [intOf]; omega
      · have HAn : Hid _ := HT.out rfl
        clear HT HN
        go_wp2_with (go_at_call 28; refine KC.out.mono ?_; rintro e w1 ⟨rfl, hb1⟩)
        go_ret
        exact ⟨⟨_, rfl, by rw [HAn.out]; simp⟩, HB.out.trans (hb1.mono HB.out.size)⟩
    · obtain rfl : k = l.length := by omega
      have HAn : Hid (l.any (fun r => r.pos == ps) = false) := by have := HA.out; rwa [List.take_length] at this
      clear HA
      go_wp2
      go_ret
      exact ⟨⟨_, rfl, by rw [HAn.out]; decide⟩, HB.out⟩

theorem containsRel_any (l : List M.Rel) (a : Option Addr) (c n : Nat) (ps : Int) (w : World) (h : RelsAt w (.slice a l.length c) l) (hs : w.cell? ⟨n, 3, none⟩ = some (.int .i64 ps)) :
    Calls Try.prog 27 #[.slice a l.length c, .func (.func 28) #[] #[.pointer (some ⟨n, 0, none⟩)]] w fun e w' => e = .returned (.bool (l.any (fun r => r.pos == ps))) ∧ Below w.heap.size w w' := by
  have HK : Hid _ := indexRel_any l a c n ps w h hs
  generalize l.any (fun r => r.pos == ps) = R at *
  clear h hs
  go_enter Try.func27, Try.ntmps27
  go_wp2_with (go_at_call 63; refine Calls.mono HK.out ?_; rintro e w1 ⟨⟨x, rfl, hx⟩, hb1⟩)
  go_ret
  exact ⟨by simp_all, hb1⟩

theorem fltsTwoSelf : ∀ l : List Flt, M.allTwo sameFlt l l = true
  | [] => rfl
  | x :: l => by show (sameFlt x x && M.allTwo sameFlt l l) = true; rw [fltsTwoSelf l]; unfold sameFlt; simp

/-- the first of a list of faults -/
theorem flts_pre {w : World} {a : Option Addr} {c : Nat} {l m : List Flt} (h : FltsAt w (.slice a (l ++ m).length c) (l ++ m)) : FltsAt w (.slice a l.length c) l := by
  obtain ⟨a', c', e, hn, h⟩ := h
  cases e
  rw [List.length_append] at hn h
  refine ⟨a, c, rfl, by omega, ?_⟩
  rcases h with h | ⟨b, off, rfl, h⟩
  · exact .inl (by omega)
  · refine .inr ⟨b, off, rfl, fun j i hj hi => ?_⟩
    have e : (l ++ m).getD j flt0 = l.getD j flt0 := by rw [List.getD_eq_getElem?_getD, List.getElem?_append_left hj, ← List.getD_eq_getElem?_getD]
    rw [h j i (by omega) hi]
    simp only [e]

set_option maxHeartbeats 16000000 in
set_option maxRecDepth 100000 in
theorem linkFaults_law (p : M.Prt) (base : Int) (s : ByteArray) (a1 a2 : Option Addr) (k1 k2 : Nat) (w : World) (hfa : FragsAt w (.slice a1 p.frags.length k1) p.frags) (hda : DefsAt w (.slice a2 p.defs.length k2) p.defs) (hsz : s.size ≤ maxLen) :
    Calls Try.prog 5 #[.agg #[.slice a1 p.frags.length k1, .slice a2 p.defs.length k2], .int .i64 base, .string s] w fun e w' => e = .returned (.bool true) ∧ Below w.heap.size w w' := by
  have KT : Hid (∀ W, Calls Try.prog 10 #[] W fun e w' => e = .returned (.bool true) ∧ Below W.heap.size W w') := fun W => linked_any W
  have V0 : Hid (Var (w.alloc (.cells #[.slice a1 p.frags.length k1, .slice a2 p.defs.length k2] 25)) w.heap.size a1 a2 k1 k2 p) := var_new hfa hda
  have HB0 : Hid (Below w.heap.size w (w.alloc (.cells #[.slice a1 p.frags.length k1, .slice a2 p.defs.length k2] 25))) := (Below.refl _ _).alloc (Nat.le_refl _) _
  clear hfa hda
  obtain ⟨m, fl, er, hl⟩ : ∃ im fl er, M.link p base s = (im, fl, er) := ⟨_, _, _, rfl⟩
  have Hl : Hid _ := hl
  have KL : Hid (Calls Try.prog 9 #[.agg #[.slice a1 p.frags.length k1, .slice a2 p.defs.length k2], .int .i64 base, .string s] (w.alloc (.cells #[.slice a1 p.frags.length k1, .slice a2 p.defs.length k2] 25)) _) := link_vc V0.out.fr V0.out.df hsz m fl er hl
  have c0 := V0.out.c0
  have c1 := V0.out.c1
  clear hl
  go_enter Try.func5, Try.ntmps5
  go_upto_region 2 with (go_at_call 9; refine KL.out.mono ?_; rintro e w1 ⟨hb1, e1, f1, e2, f2, rfl, hS1, hF1, hcap⟩)
  have hblk := heap_alloc_new w1 (.cells #[.int .i64 m.entry, .slice e1 m.segs.length f1] 28)
  have HB1 := hb1.alloc hb1.size (.cells #[.int .i64 m.entry, .slice e1 m.segs.length f1] 28)
  have hfl : fl.length ≤ maxLen := by obtain ⟨_, _, _, h⟩ := SlAt.form hF1; exact h
  unfold maxLen at hfl
  have V1 : Hid (Var (w1.alloc (.cells #[.int .i64 m.entry, .slice e1 m.segs.length f1] 28)) w.heap.size a1 a2 k1 k2 p) := V0.out.later HB1
  have HF1 : Hid (FltsAt (w1.alloc (.cells #[.int .i64 m.entry, .slice e1 m.segs.length f1] 28)) (.slice e2 fl.length f2) fl) := hF1.later ((Below.refl _ _).alloc (Nat.le_refl _) _)
  have HBX1 : Hid (Below w.heap.size w (w1.alloc (.cells #[.int .i64 m.entry, .slice e1 m.segs.length f1] 28))) := HB0.out.trans (HB1.mono HB0.out.size)
  clear hS1 hF1 KL c0 c1 hb1 HB1 V0 HB0
  generalize w1.alloc (.cells #[.int .i64 m.entry, .slice e1 m.segs.length f1] 28) = X1 at *
  generalize w1.heap.size = n7 at *
  by_cases her : er = 0
  case neg =>
    have her' : (er != 0) = true := by simpa using her
    clear Hl V1 HF1
    go_upto_region 3 with (go_at_call 10; refine (KT.out _).mono ?_; rintro e w3 ⟨rfl, hb3⟩)
    go_wp2_with (go_at_call 10; refine (KT.out _).mono ?_; rintro e w4 ⟨rfl, hb4⟩)
    go_ret
    exact ⟨rfl, HBX1.out.trans ((hb3.trans (hb4.mono hb3.size)).mono HBX1.out.size)⟩
  subst her
  obtain ⟨hck, hne, hshape, rest, hrest, hall⟩ := linkFaults_of Hl.out
  have HAll : Hid _ := hall
  have HCk : Hid _ := hck
  have HRest : Hid _ := hrest
  have HShape : Hid _ := hshape
  clear Hl hall hck hrest hshape
  go_upto_region 4 with (go_at_call 10; refine (KT.out _).mono ?_; rintro e X3 ⟨rfl, hb3⟩)
  have y7 := (hb3.block _ (Array.getElem?_eq_some_iff.1 hblk).1).trans hblk
  have m1 : X3.cell? ⟨n7, 1, none⟩ = some (.slice e1 m.segs.length f1) := cellB y7 1
  have hl7 : n7 < X3.heap.size := (Array.getElem?_eq_some_iff.1 y7).1
  have V3 : Hid _ := V1.out.later hb3
  have HF3 : Hid (FltsAt X3 (.slice e2 fl.length f2) fl) := HF1.out.later hb3
  have HBX3 : Hid (Below w.heap.size w X3) := HBX1.out.trans (hb3.mono HBX1.out.size)
  clear hblk y7 hb3 V1 HF1 HBX1
  have KS : Hid (Calls Try.prog 24 #[.agg #[.slice a1 p.frags.length k1, .slice a2 p.defs.length k2]] X3 fun e w' => Below X3.heap.size X3 w' ∧ ∃ x y, e = .returned (.tuple #[.slice x (M.named p).length y, .int .i64 0]) ∧ FltsAt w' (.slice x (M.named p).length y) (M.named p)) := by
    refine (faultsP_any p a1 a2 k1 k2 _ V3.out.fr V3.out.df).mono ?_
    rintro e w' ⟨hb, v, rfl, ho⟩
    rw [HCk.out]
    have hfo : faultsOfP p = M.faults p := if_pos HCk.out
    rw [hfo, named_flat] at ho
    have ho' : w'.ownsRow X3.heap.size 69 4 v (M.named p).length ((M.named p).flatMap encF) := by
      unfold M.named
      rw [List.length_map]
      exact ho
    obtain ⟨x, y, rfl⟩ := own_len ho'
    exact ⟨hb, x, y, rfl, row_flts ho'⟩
  have c0 := V3.out.c0
  have c1 := V3.out.c1
  have hlp := V3.out.lt
  have KSh : Hid (∀ W x y x' y', Calls Try.prog 25 #[.slice x 0 y, .slice x' 0 y'] W fun e w' => e = .returned (.bool true) ∧ w' = W) := fun W x y x' y' => eqFlts_short x x' 0 y 0 y' W (by unfold maxLen; decide) (by unfold maxLen; decide) (.inr ⟨rfl, rfl⟩)
  rcases HShape.out with ⟨hs0, hs1⟩ | ⟨hs0, hs1⟩
  case inr =>
    obtain rfl : fl = [] := List.eq_nil_of_length_eq_zero hs1
    have hnn := List.append_eq_nil_iff.1 HRest.out.symm
    rw [hnn.1] at KS
    rw [hs0] at m1
    rw [show ([] : List Flt).length = 0 from rfl] at *
    clear hs1 HRest HShape HAll hnn hs0 HF3
    go_upto_region 7 with (go_at_call 24; refine KS.out.mono ?_; rintro e X5 ⟨hb5, x5, y5, rfl, hF5⟩)
    have HBX5 : Hid (Below w.heap.size w X5) := HBX3.out.trans (hb5.mono HBX3.out.size)
    clear KS hF5 m1 hl7 c0 c1 hlp V3 HBX3 hb5
    go_upto_region 9 with (go_at_call 25; refine (KSh.out _ _ _ _ _).mono ?_; rintro e w6 ⟨rfl, rfl⟩)
    go_wp2_with fail
    refine wp_loop_rounds 1 ?_
    rw [rounds_succ]
    go_wp2
    go_ret
    exact ⟨rfl, HBX5.out⟩
  obtain ⟨b, off, rfl, hcf⟩ : ∃ b off, e2 = some ⟨b, off, none⟩ ∧ True := by
    obtain ⟨b, off, e, _⟩ := FltsAt.cells HF3.out 0 hs1
    exact ⟨b, off, e, trivial⟩
  clear hcf
  obtain ⟨nd, hnd⟩ : ∃ nd, M.named p = nd := ⟨_, rfl⟩
  rw [hnd] at KS HRest
  clear hnd
  have hlen : fl.length = nd.length + rest.length := by rw [HRest.out, List.length_append]
  rw [hs0] at m1
  have hf1 : (0 : Int) < (fl.length : Int) := by omega
  have hnl : (nd.length : Int) ≤ (fl.length : Int) := by omega
  have hnl' : ¬ (fl.length : Int) < (nd.length : Int) := by omega
  have hnat : ¬ fl.length < nd.length := by omega
  have hnc : (nd.length : Int) ≤ (f2 : Int) := by omega
  have hf2 : ¬ f2 = 0 := by omega
  have hwn : IntKind.i64.wrap (nd.length : Int) = (nd.length : Int) := by rw [IntKind.wrap_i64]; omega
  have HLen : Hid _ := hlen
  clear hlen HShape hs0
  go_upto_region 7 with (go_at_call 24; refine KS.out.mono ?_; rintro e X5 ⟨hb5, x5, y5, rfl, hF5⟩)
  have HBX5 : Hid (Below w.heap.size w X5) := HBX3.out.trans (hb5.mono HBX3.out.size)
  have HF5 : Hid (FltsAt X5 (.slice (some ⟨b, off, none⟩) fl.length f2) fl) := HF3.out.later hb5
  have V5 : Hid _ := V3.out.later hb5
  have KE : Hid (Calls Try.prog 25 #[.slice (some ⟨b, off, none⟩) nd.length f2, .slice x5 nd.length y5] X5 fun e w' => e = .returned (.bool true) ∧ Below X5.heap.size X5 w') := by
    have h1 : FltsAt X5 (.slice (some ⟨b, off, none⟩) nd.length f2) nd := by have := HF5.out; rw [HRest.out] at this; exact flts_pre this
    have := eqFlts_any nd nd (some ⟨b, off, none⟩) x5 f2 y5 X5 h1 hF5
    rwa [show M.allTwo sameFlt nd nd = true from fltsTwoSelf nd] at this
  clear KS hF5 m1 hl7 c0 c1 hlp V3 HBX3 hb5 HF3
  go_upto_region 9 with (go_at_call 25; refine KE.out.mono ?_; rintro e X6 ⟨rfl, hb6⟩)
  have HBX6 : Hid (Below w.heap.size w X6) := HBX5.out.trans (hb6.mono HBX5.out.size)
  have HF6 : Hid (FltsAt X6 (.slice (some ⟨b, off, none⟩) fl.length f2) fl) := HF5.out.later hb6
  have V6 : Hid _ := V5.out.later hb6
  clear KE HF5 V5 HBX5 hb6
  have hle : nd.length ≤ fl.length := by omega
  obtain ⟨lr, hlr⟩ : ∃ lr, fl.length - nd.length = lr := ⟨_, rfl⟩
  have hrl : rest.length = lr := by have := HLen.out; omega
  by_cases hfc : f2 = nd.length
  · have hl0 : lr = 0 := by omega
    subst hl0
    have hlr' : fl.length = nd.length := by omega
    clear HF6 V6 HRest HAll
    subst hfc
    go_wp2_with fail
    refine wp_loop_rounds 1 ?_
    rw [rounds_succ]
    go_wp2
    go_ret
    exact ⟨rfl, HBX6.out⟩
  · have hfc' : ¬ f2 = nd.length := hfc
    have HFl : Hid (∀ W, Below X6.heap.size X6 W → FltsAt W (.slice (some ⟨b, off, none⟩) fl.length f2) fl ∧ Var W w.heap.size a1 a2 k1 k2 p) := fun W hW => ⟨HF6.out.later hW, V6.out.later hW⟩
    have HGet : Hid (∀ k, k < lr → fl.getD (nd.length + k) flt0 = rest.getD k flt0 ∧ rest.getD k flt0 ∈ rest) := fun k hk => by
      refine ⟨?_, getD_mem rest flt0 k (by omega)⟩
      rw [HRest.out, List.getD_eq_getElem?_getD, List.getElem?_append_right (by omega), show nd.length + k - nd.length = k by omega, ← List.getD_eq_getElem?_getD]
    have hlrm : lr ≤ 9223372036854775807 := by omega
    clear HF6 V6 HRest hfc hle hf1 hnl hnl'
    go_wp2_with fail
    go_loopw [66] (fun s66 wr => ∃ (k : Nat), k ≤ lr ∧ s66 = .int .i64 k ∧ Hid (Below X6.heap.size X6 wr)) (fun s66 _ => lr - (intOf s66).toNat)
    case atStart => exact ⟨0, Nat.zero_le _, rfl, Below.refl _ _⟩
    case round =>
      obtain ⟨k, hk, rfl, HB⟩ := hrel
      by_cases hlt : k < lr
      · obtain ⟨hFw, hVw⟩ := HFl.out wr HB.out
        obtain ⟨b', off', hae, e0, e1, e2, e3⟩ := hFw.cells (nd.length + k) (by omega)
        cases hae
        obtain ⟨hg1, hg2⟩ := HGet.out k hlt
        have hidx : off + (nd.length + k) * 4 = off + nd.length * 4 + k * 4 := by omega
        rw [hg1, hidx] at e0 e1 e2 e3
        have hRO := HAll.out _ hg2
        clear hg1 hg2 hidx hFw
        have hbr : b < wr.heap.size := World.block_lt_of_cell? _ _ e0
        have hkl : (k : Int) < (lr : Int) := by omega
        have HV : Hid _ := hVw
        clear hVw
        generalize rest.getD k flt0 = f at *
        obtain ⟨fe, nm, fr, ps⟩ := f
        simp only at e0 e1 e2 e3
        have hbY : Below wr.heap.size wr (wr.alloc (.cells #[.int .i64 fe, .string nm, .int .i64 fr, .int .i64 ps] 69)) := (Below.refl _ _).alloc (Nat.le_refl _) _
        have HBY : Hid (Below X6.heap.size X6 (wr.alloc (.cells #[.int .i64 fe, .string nm, .int .i64 fr, .int .i64 ps] 69))) := HB.out.alloc HB.out.size _
        have vY := HV.out.later hbY
        have x3 := heap_alloc_new wr (.cells #[.int .i64 fe, .string nm, .int .i64 fr, .int .i64 ps] 69)
        go_upto_region 12 with fail
        clear e0 e1 e2 e3 hbr HB hbY HV
        generalize wr.alloc (.cells #[.int .i64 fe, .string nm, .int .i64 fr, .int .i64 ps] 69) = Y at *
        generalize wr.heap.size = nf at *
        have y0 : Y.cell? ⟨nf, 0, none⟩ = some (.int .i64 fe) := cellB x3 0
        have y1 : Y.cell? ⟨nf, 1, none⟩ = some (.string nm) := cellB x3 1
        have y2 : Y.cell? ⟨nf, 2, none⟩ = some (.int .i64 fr) := cellB x3 2
        have y3 : Y.cell? ⟨nf, 3, none⟩ = some (.int .i64 ps) := cellB x3 3
        have hlY : nf < Y.heap.size := (Array.getElem?_eq_some_iff.1 x3).1
        have p0 := vY.c0
        have p1 := vY.c1
        have hlp := vY.lt
        rcases hRO with ⟨h1, h2, h3⟩ | ⟨h1, h2, h3, h4, r, hr1, hr2⟩
        · have h1' : s = nm := h1.symm
          have h3' : fe = 7 := h3
          subst h1'
          subst h3'
          have KFd : Hid (Calls Try.prog 26 #[.agg #[.slice a1 p.frags.length k1, .slice a2 p.defs.length k2], .string s] Y fun e w' => e = .returned (.tuple #[.agg (dfnArr (M.find p.defs s).1), .int .i64 7]) ∧ Below Y.heap.size Y w') := by
            have := findP_any p s a1 a2 k1 k2 Y vY.fr vY.df
            unfold findOf at this
            rw [if_pos HCk.out, h2] at this
            exact this
          clear h1 h2 h3 vY
          generalize (M.find p.defs s).1 = dd at *
          obtain ⟨d1, d2, d3, d4, d5, d6⟩ := dd
          simp only [dfnArr] at KFd
          have HY : Hid (∀ W o, Below Y.heap.size Y W → (W.alloc o).cell? ⟨nf, 0, none⟩ = some (.int .i64 7) ∧ nf < (W.alloc o).heap.size ∧ Below X6.heap.size X6 (W.alloc o)) := fun W o hW => by
            have hA : Below Y.heap.size Y (W.alloc o) := hW.alloc hW.size _
            exact ⟨cell_later hA y0, Nat.lt_of_lt_of_le hlY hA.size, HBY.out.trans (hA.mono HBY.out.size)⟩
          have hss : (s.toList == s.toList) = true := by simp
          clear HBY x3
          go_upto_region 14 with (go_at_call 26; refine KFd.out.mono ?_; rintro e V ⟨rfl, hbV⟩)
          obtain ⟨v0, hlv, hBV⟩ := HY.out V (.cells #[.string d1, .int .i64 d2, .int .i64 d3, .int .i64 d4, .int .i64 d5, .int .i64 d6] 71) hbV
          have HBV : Hid _ := hBV
          clear HY KFd hbV hBV y0 y1 y2 y3 p0 p1 hlp hlY
          generalize V.alloc (.cells #[.string d1, .int .i64 d2, .int .i64 d3, .int .i64 d4, .int .i64 d5, .int .i64 d6] 71) = V2 at *
          generalize V.heap.size = nv at *
          go_wp2
          go_roundw
          case rel => exact ⟨k + 1, by omega, by go_num, HBV⟩
          case measure => simp [intOf]; omega
        · have h1' : nm = ⟨#[]⟩ := h1
          have hem : nm.toList.isEmpty = true := by rw [h1', Lib.toList_data]; rfl
          have hns : (nm.toList == s.toList) = false := by
            rw [beq_eq_false_iff_ne]
            intro h
            rw [← h, hem] at hne
            cases hne
          have h2' : 0 ≤ fr := h2
          have h3' : fr < (p.frags.length : Int) := h3
          have h4' : fe = 8 ∨ fe = 9 := h4
          have hr1' : r ∈ (p.frags.getD fr.toNat frg0).rels := hr1
          have hr2' : r.pos = ps := hr2
          clear h1 h2 h3 h4 hr1 hr2 h1'
          obtain ⟨g, rfl⟩ : ∃ g : Nat, fr = (g : Int) := ⟨fr.toNat, by omega⟩
          rw [Int.toNat_natCast] at hr1'
          obtain ⟨bf, of, ab, cb, ar, cr, rfl, _, _, _, _, _, q5, _, hRl, _, _⟩ := vY.fr.cells g (by omega)
          have hbf : bf < Y.heap.size := World.block_lt_of_cell? _ _ q5
          have KC : Hid (Calls Try.prog 27 #[.slice ar (p.frags.getD g frg0).rels.length cr, .func (.func 28) #[] #[.pointer (some ⟨nf, 0, none⟩)]] Y fun e w' => e = .returned (.bool true) ∧ Below Y.heap.size Y w') := by
            have := containsRel_any (p.frags.getD g frg0).rels ar cr nf ps Y hRl y3
            rwa [show (p.frags.getD g frg0).rels.any (fun r => r.pos == ps) = true from List.any_eq_true.2 ⟨r, hr1', by simp [hr2']⟩] at this
          clear hr1' hr2' hRl vY x3
          generalize (p.frags.getD g frg0).rels.length = nr at *
          rcases h4' with rfl | rfl
          · go_wp2_with (go_at_call 27; refine KC.out.mono ?_; rintro e V ⟨rfl, hbV⟩)
            have HBV : Hid _ := HBY.out.trans (hbV.mono HBY.out.size)
            go_roundw
            case rel => exact ⟨k + 1, by omega, by go_num, HBV⟩
            case measure => simp [intOf]; omega
          · go_wp2_with (go_at_call 27; refine KC.out.mono ?_; rintro e V ⟨rfl, hbV⟩)
            have HBV : Hid _ := HBY.out.trans (hbV.mono HBY.out.size)
            go_roundw
            case rel => exact ⟨k + 1, by omega, by go_num, HBV⟩
            case measure => simp [intOf]; omega
      · have hkl : k = lr := by omega
        subst hkl
        go_wp2
        go_ret
        exact ⟨rfl, HBX6.out.trans (HB.out.mono HBX6.out.size)⟩

end Go.Proofs.Ytabkbicaignicaa
