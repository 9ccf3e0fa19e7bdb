/-
  The contract of the reference's Stands.
-/
import Derived.Test.YtbohadjfmfoeaaaDoorLkMM
import Derived.Test.YtbohadjfmfoeaaaDoorLkWhere
import Derived.Test.YtbohadjfmfoeaaaDoorMathC
import Derived.Test.YtbohadjfmfoeaaaDoorRefBB
namespace Go.Proofs.YtbohadjfmfoeaaaDoor
open Go Go.RowKit
set_option linter.unusedVariables false
attribute [local go_sem] lat_cell

/-- the first of the names that is s is the one that halving finds -/
theorem idx_halve {N : List ByteArray} {s : ByteArray} (hs : M.Strict N) (h : s ∈ N) : idx N s 0 = (M.halve N s : Nat) := by
  unfold idx
  rw [List.drop_zero]
  cases hf : N.findIdx? (fun x => x.toList == s.toList) with
  | none =>
    exfalso
    have := List.findIdx?_eq_none_iff.1 hf s h
    simp at this
  | some j =>
    obtain ⟨hj, hp, _⟩ := List.findIdx?_eq_some_iff_getElem.1 hf
    have e : N[j] = s := ba_ext (by simpa using hp)
    have := halve_at hs hj
    rw [e] at this
    rw [this]
    simp

set_option maxHeartbeats 8000000 in
set_option maxRecDepth 100000 in
theorem stands_any (p : M.Prt) (base : Int) (s : ByteArray) (l : M.Lay) (hl : M.layAll p base = l) (a1 a2 : Option Addr) (c1 c2 : Nat) (xf xn xc : Option Addr) (yf yn yc : Nat) (w : World) (hf : FragsAt w (.slice a1 p.frags.length c1) p.frags) (hd : DefsAt w (.slice a2 p.defs.length c2) p.defs)
    (hF : IntsAt w (.slice xf l.frags.length yf) l.frags) (hN : StrsAt w (.slice xn l.names.length yn) l.names) (hC : IntsAt w (.slice xc l.coms.length yc) l.coms) (hck : M.checkPart p = 0) (ha : M.Apart p base) (hbd : ∀ x ∈ l.frags, 0 ≤ x ∧ x ≤ 65536) :
    Calls Tryd.prog 10 #[.agg #[.slice a1 p.frags.length c1, .slice a2 p.defs.length c2], .agg #[.slice xf l.frags.length yf, .slice xn l.names.length yn, .slice xc l.coms.length yc, .int .i64 (l.fr 0), .int .i64 (l.fr 1), .int .i64 (l.fr 2), .int .i64 (l.fr 3), .int .i64 (l.fr 4), .int .i64 (l.fr 5), .int .i64 (l.ti 0), .int .i64 (l.ti 1), .int .i64 (l.ti 2), .int .i64 (l.ti 3), .int .i64 (l.ti 4), .int .i64 (l.ti 5)], .string s] w fun e w' => e = .returned (.tuple #[.int .i64 (M.whereOf p l s).1, .int .i64 (M.whereOf p l s).2]) ∧ Below w.heap.size w w' := by
  subst hl
  generalize hle : M.layAll p base = l at *
  have hp := (M.ok_iff p).1 hck
  obtain ⟨W, HW⟩ : ∃ W, Hid (W = (w.alloc (.cells #[.slice a1 p.frags.length c1, .slice a2 p.defs.length c2] 25)).alloc (.cells #[.slice xf l.frags.length yf, .slice xn l.names.length yn, .slice xc l.coms.length yc, .int .i64 (l.fr 0), .int .i64 (l.fr 1), .int .i64 (l.fr 2), .int .i64 (l.fr 3), .int .i64 (l.fr 4), .int .i64 (l.fr 5), .int .i64 (l.ti 0), .int .i64 (l.ti 1), .int .i64 (l.ti 2), .int .i64 (l.ti 3), .int .i64 (l.ti 4), .int .i64 (l.ti 5)] 30)) := ⟨_, rfl⟩
  have hA : Below w.heap.size w W := by rw [HW.out]; exact ((Below.refl _ _).alloc (Nat.le_refl _) _).alloc (by simp) _
  have q0 : W.heap[w.heap.size]? = some (.cells #[.slice a1 p.frags.length c1, .slice a2 p.defs.length c2] 25 (0, 0)) := by rw [HW.out]; exact heap_alloc2_old _ _ _
  have q1 : W.heap[w.heap.size + 1]? = some (.cells #[.slice xf l.frags.length yf, .slice xn l.names.length yn, .slice xc l.coms.length yc, .int .i64 (l.fr 0), .int .i64 (l.fr 1), .int .i64 (l.fr 2), .int .i64 (l.fr 3), .int .i64 (l.fr 4), .int .i64 (l.fr 5), .int .i64 (l.ti 0), .int .i64 (l.ti 1), .int .i64 (l.ti 2), .int .i64 (l.ti 3), .int .i64 (l.ti 4), .int .i64 (l.ti 5)] 30 (0, 0)) := by rw [HW.out]; exact heap_alloc2_new _ _ _
  have KF : Hid (Calls Tryd.prog 22 #[.agg #[.slice a1 p.frags.length c1, .slice a2 p.defs.length c2], .string s] W fun e w' => e = .returned (.tuple #[.agg (dfnArr (M.find p.defs s).1), .int .i64 (M.find p.defs s).2]) ∧ Below W.heap.size W w') := rfound_any p.defs s a1 a2 p.frags.length c1 c2 W (hd.later hA) hp.nd hp.plain
  have HI : Hid (∀ X, Below w.heap.size w X → IntsAt X (.slice xf l.frags.length yf) l.frags ∧ StrsAt X (.slice xn l.names.length yn) l.names ∧ IntsAt X (.slice xc l.coms.length yc) l.coms) := fun X hX => ⟨hF.later hX, hN.later hX, hC.later hX⟩
  have HE : Hid ((M.find p.defs s).2 ≠ 0 → M.whereOf p l s = (0, (M.find p.defs s).2)) := fun h => whereIn_err h
  have HCm : Hid ((M.find p.defs s).2 = 0 → (M.find p.defs s).1.kind = 3 → idx l.names s 0 = (M.halve l.names s : Nat) ∧ M.halve l.names s < l.coms.length ∧ M.whereOf p l s = (l.coms.getD (M.halve l.names s) 0, 0)) := fun h0 hk => by
    have hm : s ∈ l.names := by
      rw [← hle]
      show s ∈ (M.commons p (M.secN p.frags base 5).2).names
      exact com_mem p.defs (M.defined p) _ s (.inr ⟨(M.rising_mem _ s).2 (find_defined h0), h0, hk⟩)
    have hst : M.Strict l.names := by rw [← hle]; exact ha.strict
    have hln : l.names.length = l.coms.length := by rw [← hle]; exact ha.lenN
    obtain ⟨f1, f2, f3⟩ := found_at hst hm
    refine ⟨idx_halve hst hm, by rw [← hln]; exact f2, ?_⟩
    unfold M.whereOf
    rw [whereIn_com h0 hk]
    unfold M.commonIn
    rw [if_pos f1, if_pos (by rw [← hln]; exact f2)]
  have HFr : Hid ((M.find p.defs s).2 = 0 → (M.find p.defs s).1.kind ≠ 3 → 0 ≤ (M.find p.defs s).1.frag ∧ (M.find p.defs s).1.frag < l.frags.length ∧ 0 ≤ (M.find p.defs s).1.pos ∧ (M.find p.defs s).1.pos ≤ 64 ∧ M.whereOf p l s = (l.frags.getD (M.find p.defs s).1.frag.toNat 0 + (M.find p.defs s).1.pos, 0)) := fun h0 hk => by
    obtain ⟨b0, b1, b2, b3, b4⟩ := M.find_stands hp h0 hk
    have hlf : l.frags.length = p.frags.length := by rw [← hle]; exact ha.lenF
    exact ⟨b0, by rw [hlf]; exact b1, b2, b4, whereIn_frag h0 hk (by rw [hlf]; exact b1)⟩
  have HBd : Hid (∀ x ∈ l.frags, 0 ≤ x ∧ x ≤ 65536) := hbd
  have HNl : Hid (l.names.length ≤ maxLen) := by obtain ⟨_, _, _, h⟩ := hN.1.form; exact h
  have HA : Hid (Below w.heap.size w W) := hA
  clear hf hd hF hN hC hck ha hbd hp hA hle
  generalize M.whereOf p l s = R at *
  generalize M.find p.defs s = fr at *
  obtain ⟨⟨nm, kd, fg, ps, dz, da⟩, er⟩ := fr
  simp only [dfnArr] at KF
  simp only at HCm HFr HE
  have c00 := cellB q0 0
  have c01 := cellB q0 1
  have hl0 : w.heap.size < W.heap.size := (Array.getElem?_eq_some_iff.1 q0).1
  simp at c00 c01
  go_enter Tryd.func10, Tryd.ntmps10
  go_upto_region 1 with fail
  rw [← HW.out]
  clear HW
  go_upto_region 2 with (go_at_call 22; refine KF.out.mono ?_; rintro e w1 ⟨rfl, hb1⟩)
  have hX : Below W.heap.size W (w1.alloc (.cells #[.string nm, .int .i64 kd, .int .i64 fg, .int .i64 ps, .int .i64 dz, .int .i64 da] 51)) := hb1.alloc hb1.size _
  have xd := heap_alloc_new w1 (.cells #[.string nm, .int .i64 kd, .int .i64 fg, .int .i64 ps, .int .i64 dz, .int .i64 da] 51)
  clear KF c00 c01 hl0 hb1
  generalize w1.alloc (.cells #[.string nm, .int .i64 kd, .int .i64 fg, .int .i64 ps, .int .i64 dz, .int .i64 da] 51) = X at *
  generalize w1.heap.size = dn at *
  have HX : Hid (Below w.heap.size w X) := HA.out.trans (hX.mono HA.out.size)
  have y1 := (hX.block _ (Array.getElem?_eq_some_iff.1 q1).1).trans q1
  have l0 : X.cell? ⟨w.heap.size + 1, 0, none⟩ = some (.slice xf l.frags.length yf) := cellB y1 0
  have l1 : X.cell? ⟨w.heap.size + 1, 1, none⟩ = some (.slice xn l.names.length yn) := cellB y1 1
  have l2 : X.cell? ⟨w.heap.size + 1, 2, none⟩ = some (.slice xc l.coms.length yc) := cellB y1 2
  have ll : w.heap.size + 1 < X.heap.size := (Array.getElem?_eq_some_iff.1 y1).1
  have d1 : X.cell? ⟨dn, 1, none⟩ = some (.int .i64 kd) := cellB xd 1
  have d2 : X.cell? ⟨dn, 2, none⟩ = some (.int .i64 fg) := cellB xd 2
  have d3 : X.cell? ⟨dn, 3, none⟩ = some (.int .i64 ps) := cellB xd 3
  have dl : dn < X.heap.size := (Array.getElem?_eq_some_iff.1 xd).1
  obtain ⟨iF, iN, iC⟩ := HI.out X HX.out
  have HIN : Hid (StrsAt X (.slice xn l.names.length yn) l.names) := iN
  clear q0 q1 y1 xd hX HI iN
  by_cases her : er = 0
  · have hn0 : (er != 0) = false := by simpa using her
    by_cases hkd : kd = 3
    · obtain ⟨i1, i2, i3⟩ := HCm.out her hkd
      obtain ⟨v, hv⟩ : ∃ v, l.coms.getD (M.halve l.names s) 0 = v := ⟨_, rfl⟩
      rw [hv] at i3
      have hn3 : (kd == 3) = true := by simpa using hkd
      obtain ⟨bc, oc, e, hcc, hbc⟩ := IntsAt.cell iC _ i2
      subst e
      rw [hv] at hcc
      clear hv
      have KI : Hid (∀ V, Below X.heap.size X V → Calls Tryd.prog 27 #[.slice xn l.names.length yn, .string s] V fun e w' => e = .returned (.int .i64 (M.halve l.names s : Nat)) ∧ w' = V) := fun V hV => by
        have := indexS_any l.names s xn yn V (HIN.out.later hV)
        rwa [i1] at this
      have hil : ((M.halve l.names s : Nat) : Int) < (l.coms.length : Int) := by omega
      obtain rfl : R = (v, 0) := i3
      clear i1 i2 HCm HFr HE her hkd iF iC
      generalize M.halve l.names s = h at *
      go_wp2_with fail
      refine wp_region_lat (by kernel_rfl) (by kernel_rfl) ?_
      intro hne
      repeat (go_big_quiet_step ((go_at_call 27; exact lat_of_same (KI.out _ (Lat.below _)))))
      refine wpQuiet_nil ?_
      intro w2 hb2
      have hb3 := lat_out hb2
      clear hb2
      go_wp2
      go_ret2
      exact ⟨rfl, HX.out.trans (hb3.mono HX.out.size)⟩
    · obtain ⟨g0, g1, g2, g3, g4⟩ := HFr.out her hkd
      have hn3 : (kd == 3) = false := by simpa using hkd
      obtain ⟨F, rfl⟩ : ∃ F : Nat, fg = F := ⟨fg.toNat, by omega⟩
      simp only [Int.toNat_natCast] at g4
      obtain ⟨v, hv⟩ : ∃ v, l.frags.getD F 0 = v := ⟨_, rfl⟩
      rw [hv] at g4
      have hFl : F < l.frags.length := by omega
      obtain ⟨bf, of_, e, hcf, hbf⟩ := IntsAt.cell iF F hFl
      subst e
      have hb := HBd.out _ (getD_mem l.frags 0 F hFl)
      rw [hv] at hcf hb
      clear hv
      obtain rfl : R = (v + ps, 0) := g4
      have hFl' : (F : Int) < (l.frags.length : Int) := by omega
      clear HCm HFr HE her hkd iF iC
      have hwr : IntKind.i64.wrap (v + ps) = v + ps := by rw [IntKind.wrap_i64]; omega
      go_wp2_with fail
      refine wp_region_lat (by kernel_rfl) (by kernel_rfl) ?_
      intro hne
      repeat (go_big_quiet_step (fail))
      refine wpQuiet_nil ?_
      intro w2 hb2
      have hb3 := lat_out hb2
      clear hb2
      go_wp2
      go_ret2
      exact ⟨rfl, HX.out.trans (hb3.mono HX.out.size)⟩
  · obtain rfl : R = (0, er) := HE.out her
    have hn0 : (er != 0) = true := by simpa using her
    clear HCm HFr HE iF iC
    go_wp2
    go_ret2
    exact ⟨rfl, HX.out⟩

end Go.Proofs.YtbohadjfmfoeaaaDoor
