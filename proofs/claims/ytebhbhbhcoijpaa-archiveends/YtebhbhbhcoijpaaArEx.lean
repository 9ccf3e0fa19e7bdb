/-
  ArchiveEnds: its two sets of names in memory. ArchiveEnds: the contract of its first function, take. ArchiveEnds: the contract of its second function, helps.
-/
import Derived.Test.YtebhbhbhcoijpaaArFy
import Derived.Test.YtebhbhbhcoijpaaArHx

namespace Go.Proofs.Ytebhbhbhcoijpaa
open Go Go.RowKit Go.Maps
set_option linter.unusedVariables false

theorem zeroB (w : World) : (zeroValue 4).run Try.prog w = .ok (.bool false) w := by kernel_rfl

/-- the map at block b is a set of names -/
def BAt (w : World) (b N : Nat) (S : M.BSet) : Prop :=
  ∃ n D, n ≤ N ∧ w.ownsMap (H := Unit) Try.prog 9 (plainElem Try.prog 4) b n D ∧ IsMap D ∧ ∀ s, D.atKey (.string s) (.lit (.bool false)) = .lit (.bool (S s))
theorem BAt.mono {w : World} {b N N' : Nat} {S : M.BSet} (h : BAt w b N S) (hn : N ≤ N') : BAt w b N' S :=
  let ⟨n, D, h1, h2⟩ := h
  ⟨n, D, Nat.le_trans h1 hn, h2⟩
theorem BAt.later {w w' : World} {b N : Nat} {S : M.BSet} (h : BAt w b N S) (hb : Below w.heap.size w w') : BAt w' b N S := by
  obtain ⟨n, D, h1, ⟨es, clock, hm, h3⟩, h4⟩ := h
  exact ⟨n, D, h1, ⟨es, clock, (hb.block b (Array.getElem?_eq_some_iff.1 hm).1).trans hm, h3⟩, h4⟩
theorem BAt.kept {w w' : World} {b b' N : Nat} {S : M.BSet} (h : BAt w b N S) (hb : w.grownBy w' (some b')) (hr : b' ≠ b) : BAt w' b N S := by
  obtain ⟨n, D, h1, ⟨es, clock, hm, h3⟩, h4⟩ := h
  exact ⟨n, D, h1, ⟨es, clock, (hb.block b (Array.getElem?_eq_some_iff.1 hm).1 (fun e => hr (by cases e; rfl))).trans hm, h3⟩, h4⟩
theorem BAt.lt {w : World} {b N : Nat} {S : M.BSet} (h : BAt w b N S) : b < w.heap.size := by
  obtain ⟨n, D, h1, ⟨es, clock, hm, h3⟩, h4⟩ := h
  exact (Array.getElem?_eq_some_iff.1 hm).1
theorem BAt.nil (w : World) : BAt (w.alloc (.map #[] 0)) w.heap.size 0 M.noNames :=
  ⟨0, .map [], Nat.le_refl _, World.ownsMap_made _ _ _ _, isMap_empty, fun s => rfl⟩
theorem plainB_inv {P : Program} {e : TypeId} (he : P.underlying e = some .bool) {v : Value} {x : Bool} {ps : List MemPlace} (h : plainElem (H := Unit) P e v = some (.lit (.bool x), ps)) : v = .bool x := by
  unfold plainElem at h
  rw [he] at h
  cases v <;> simp at h
  exact congrArg _ h.1
theorem BAt.look {w : World} {b N : Nat} {S : M.BSet} (h : BAt w b N S) (s : ByteArray) (hs : s.size ≤ maxLen) :
    (Instr.lookup 65 (.map (some b)) (.string s) false).run Try.prog w = .ok (.bool (S s.data.toList)) w := by
  obtain ⟨n, D, h1, hown, _, hat⟩ := h
  obtain ⟨v, ps, hrun, hc⟩ := hown.lookup keyS Try.underlying65 (zeroB w) (plainElem_bool Try.underlying4 false) (WideMaps.keyOf_string_mk Try.underlying9 hs)
  rw [hat] at hc
  rw [hrun, plainB_inv Try.underlying4 hc]
theorem BAt.put {w : World} {b N : Nat} {S : M.BSet} (h : BAt w b N S) (hN : N < maxLen) (s : ByteArray) (hs : s.size ≤ maxLen) :
    ∃ w', (Instr.mapUpdate 65 (.map (some b)) (.string s) (.bool true)).run Try.prog w = .ok () w' ∧ BAt w' b (N + 1) (S.put s) ∧ w.grownBy w' (some b) := by
  obtain ⟨n, D, h1, hown, him, hat⟩ := h
  obtain ⟨w', hrun, ho, hg⟩ := hown.update keyS Try.underlying65 (Nat.lt_of_le_of_lt h1 hN) (WideMaps.keyOf_string_mk Try.underlying9 hs) (plainElem_bool Try.underlying4 true)
  refine ⟨w', hrun, ⟨n + 1, _, by omega, ho, him.put _ _, fun t => ?_⟩, hg⟩
  by_cases e : t = s.data.toList
  · subst e
    rw [atKey_put_same him (by trivial)]
    simp [M.BSet.put]
  · rw [atKey_put_other (fun e' => e (by injection e')), hat]
    simp [M.BSet.put, e]

/-- a set has grown: every cell is kept -/
theorem Kp.set {w w' : World} {b N : Nat} {S : M.BSet} (h : BAt w b N S) (hg : w.grownBy w' (some b)) : Kp w w' := fun a u hu => by
  have hne : a.block ≠ b := fun e => by
    obtain ⟨n, D, h1, ⟨es, clock, hm, h3⟩, h4⟩ := h
    unfold World.cell? at hu
    rw [e, hm] at hu
    cases hu
  rw [cell_of_block (hg.block a.block (World.block_lt_of_cell? _ _ hu) (fun e => hne (by cases e; rfl)))]
  exact hu

/-- what the law has in memory: two variables, two sets -/
structure EnAt (W : World) (n9 n12 bL bH N : Nat) (st : M.St) : Prop where
  c9 : W.cell? ⟨n9, 0, none⟩ = some (.map (some bL))
  c12 : W.cell? ⟨n12, 0, none⟩ = some (.map (some bH))
  ne : bL ≠ bH
  ex : ∃ L H, BAt W bL N L ∧ BAt W bH N H ∧ M.Rl L H st
theorem EnAt.later {W X : World} {n9 n12 bL bH N : Nat} {st : M.St} (h : EnAt W n9 n12 bL bH N st) (hb : Below W.heap.size W X) : EnAt X n9 n12 bL bH N st :=
  let ⟨L, H, h1, h2, h3⟩ := h.ex
  ⟨cell_later hb h.c9, cell_later hb h.c12, h.ne, L, H, h1.later hb, h2.later hb, h3⟩

theorem addAll_take (S : M.BSet) (l : List ByteArray) (k : Nat) (h : k < l.length) : M.addAll S (l.take (k + 1)) = (M.addAll S (l.take k)).put (l.getD k str0) := by
  unfold M.addAll
  rw [List.take_succ_eq_append_getElem h, List.foldl_append, List.getD_eq_getElem?_getD, List.getElem?_eq_getElem h]
  rfl

end Go.Proofs.Ytebhbhbhcoijpaa

namespace Go.Proofs.Ytebhbhbhcoijpaa
open Go Go.RowKit
set_option linter.unusedVariables false

set_option maxHeartbeats 4000000 in
set_option maxRecDepth 100000 in
theorem endsTake_any (p : M.Prt) (a1 a2 : Option Addr) (c1 c2 n9 n12 bL bH N : Nat) (st : M.St) (w0 w : World) (hf : FragsAt w (.slice a1 p.frags.length c1) p.frags) (hd : DefsAt w (.slice a2 p.defs.length c2) p.defs) (hck : M.checkPart p = 0)
    (hE : EnAt w n9 n12 bL bH N st) (hN : N + 540 ≤ 1000000000) (h0 : Below w0.heap.size w0 w) (gL : w0.heap.size ≤ bL) (gH : w0.heap.size ≤ bH) :
    Calls Try.prog 33 #[.agg #[.slice a1 p.frags.length c1, .slice a2 p.defs.length c2], .pointer (some ⟨n9, 0, none⟩), .pointer (some ⟨n12, 0, none⟩)] w fun e w' => e = .returned (.bool true) ∧ Kp w w' ∧ Below w0.heap.size w0 w' ∧ EnAt w' n9 n12 bL bH (N + 540) (M.enter st p) := by
  have hok := (M.ok_iff p).1 hck
  have hwl := ar_wanted_len hok
  have hdl : (M.defined p).length ≤ 60 := by
    have h1 := rising_le (M.definedNames p.defs)
    have h2 := hok.nd
    unfold M.definedNames at h1
    rw [List.length_map] at h1
    unfold M.defined M.definedNames
    omega
  have hA : Below w.heap.size w (w.alloc (.cells #[.slice a1 p.frags.length c1, .slice a2 p.defs.length c2] 25)) := (Below.refl _ _).alloc (Nat.le_refl _) _
  have hq := heap_alloc_new w (.cells #[.slice a1 p.frags.length c1, .slice a2 p.defs.length c2] 25)
  have KW : Hid (∀ W, Below w.heap.size w W → Calls Try.prog 19 #[.agg #[.slice a1 p.frags.length c1, .slice a2 p.defs.length c2]] W fun e w' => Below W.heap.size W w' ∧ ∃ v, e = .returned (.tuple #[v, .int .i64 0]) ∧ w'.ownsRow W.heap.size 9 1 v (M.wanted p).length ((M.wanted p).map Value.string) ∧ ∀ s ∈ M.wanted p, s.size ≤ maxLen) := fun W hW => by
    have := wantedP_any p a1 a2 c1 c2 W (hf.later hW) (hd.later hW)
    rw [show wantedOfP p = M.wanted p from if_pos hck, hck] at this
    exact this
  have KD : Hid (∀ W, Below w.heap.size w W → Calls Try.prog 20 #[.agg #[.slice a1 p.frags.length c1, .slice a2 p.defs.length c2]] W fun e w' => Below W.heap.size W w' ∧ ∃ v, e = .returned (.tuple #[v, .int .i64 0]) ∧ w'.ownsRow W.heap.size 9 1 v (M.defined p).length ((M.defined p).map Value.string) ∧ ∀ s ∈ M.defined p, s.size ≤ maxLen) := fun W hW => by
    have := definedP_any p a1 a2 c1 c2 W (hf.later hW) (hd.later hW)
    rw [show definedOfP p = M.defined p from if_pos hck, hck] at this
    exact this
  obtain ⟨L, H, hL, hH, hR⟩ := hE.ex
  have HRl : Hid (M.Rl (M.addAll L (M.wanted p)) (M.addAll H (M.defined p)) (M.enter st p)) := hR.enter p
  have HA : Hid _ := hA
  have HE : Hid (EnAt w n9 n12 bL bH N st) := hE
  have HL : Hid (BAt w bL N L) := hL
  have HH : Hid (BAt w bH N H) := hH
  have H0 : Hid (Below w0.heap.size w0 w) := h0
  clear hf hd hck hok hR hE hL hH h0
  generalize M.enter st p = st' at *
  generalize M.wanted p = Wn at *
  generalize M.defined p = Dn at *
  go_enter Try.func33, Try.ntmps33
  go_upto_region 1 with fail
  generalize w.alloc (.cells #[.slice a1 p.frags.length c1, .slice a2 p.defs.length c2] 25) = X at *
  have hlX : w.heap.size < X.heap.size := (Array.getElem?_eq_some_iff.1 hq).1
  have q0 : X.cell? ⟨w.heap.size, 0, none⟩ = some (.slice a1 p.frags.length c1) := cellB hq 0
  have q1 : X.cell? ⟨w.heap.size, 1, none⟩ = some (.slice a2 p.defs.length c2) := cellB hq 1
  go_upto_region 2 with (go_at_call 19; refine (KW.out _ HA.out).mono ?_; rintro e w1 ⟨hb1, v, rfl, ho, hsz⟩; obtain ⟨aw, cw, rfl⟩ := own_len ho; have HB1 : Hid _ := hb1; have HW1 : Hid (StrsAt w1 (.slice aw Wn.length cw) Wn) := row_strs ho hsz; clear hb1 ho hsz)
  have p0 := cell_later HB1.out q0
  have p1 := cell_later HB1.out q1
  have hl1 : w.heap.size < w1.heap.size := Nat.lt_of_lt_of_le hlX HB1.out.size
  have HB1' : Hid (Below w.heap.size w w1) := HA.out.trans (HB1.out.mono HA.out.size)
  clear q0 q1 hq HB1 HA
  go_wp2_with (go_at_call 20; refine (KD.out _ HB1'.out).mono ?_; rintro e w2 ⟨hb2, v2, rfl, ho2, hsz2⟩; obtain ⟨ad, cd, rfl⟩ := own_len ho2; have HB2 : Hid _ := hb2; have HD2 : Hid (StrsAt w2 (.slice ad Dn.length cd) Dn) := row_strs ho2 hsz2; clear hb2 ho2 hsz2)
  have HW2 : Hid (StrsAt w2 (.slice aw Wn.length cw) Wn) := HW1.out.later HB2.out
  have b2 : Below w.heap.size w w2 := HB1'.out.trans (HB2.out.mono HB1'.out.size)
  have HK2 : Hid (Kp w w2) := Kp.below b2
  have HL2 : Hid (BAt w2 bL (N + 0) (M.addAll L (Wn.take 0))) := HL.out.later b2
  have HH2 : Hid (BAt w2 bH N H) := HH.out.later b2
  have H02 : Hid (Below w0.heap.size w0 w2) := H0.out.trans (b2.mono H0.out.size)
  have HEc : Hid (∀ W, Kp w2 W → W.cell? ⟨n9, 0, none⟩ = some (.map (some bL)) ∧ W.cell? ⟨n12, 0, none⟩ = some (.map (some bH))) := fun W hW => ⟨hW _ _ (cell_later b2 HE.out.c9), hW _ _ (cell_later b2 HE.out.c12)⟩
  have hne := HE.out.ne
  have Hne : Hid (bL ≠ bH) := hne
  clear HW1 HB1' HB2 b2 p0 p1 hl1 hlX KW KD HL HH H0 hne HE
  go_loopw [25] (fun s25 wr => ∃ (k : Nat), k ≤ Wn.length ∧ s25 = .int .i64 k ∧ Hid (BAt wr bL (N + k) (M.addAll L (Wn.take k)) ∧ BAt wr bH N H ∧ Kp w2 wr ∧ Below w0.heap.size w0 wr)) (fun s25 _ => Wn.length - (intOf s25).toNat)
  case atStart => exact ⟨0, Nat.zero_le _, rfl, HL2.out, HH2.out, Kp.refl _, H02.out⟩
  case round =>
    obtain ⟨k, hk, rfl, HI⟩ := hrel
    by_cases hlt : k < Wn.length
    · obtain ⟨bb, off, rfl, hc, hbb⟩ := (HW2.out.kp HI.out.2.2.1).cell k hlt
      have hsn := HW2.out.2 _ (getD_mem Wn str0 k hlt)
      obtain ⟨w3, hrun, hS, hg⟩ := HI.out.1.put (by unfold maxLen; omega) (Wn.getD k str0) hsn
      obtain ⟨c9, c12⟩ := HEc.out wr HI.out.2.2.1
      have l9 : n9 < wr.heap.size := World.block_lt_of_cell? _ _ c9
      have hkl : (k : Int) < (Wn.length : Int) := by omega
      have HN : Hid (M.addAll L (Wn.take (k + 1)) = (M.addAll L (Wn.take k)).put (Wn.getD k str0)) := addAll_take L Wn k hlt
      have HP : Hid (BAt w3 bL (N + k + 1) ((M.addAll L (Wn.take k)).put (Wn.getD k str0)) ∧ BAt w3 bH N H ∧ Kp w2 w3 ∧ Below w0.heap.size w0 w3) := ⟨hS, HI.out.2.1.kept hg Hne.out, HI.out.2.2.1.trans (Kp.set HI.out.1 hg), HI.out.2.2.2.grown hg HI.out.2.2.2.size (fun j hj => by cases hj; exact gL)⟩
      clear hS hg hsn HI
      generalize Wn.getD k str0 = s at *
      go_wp2_with fail
      go_roundw
      case rel => exact ⟨k + 1, by omega, by go_num, by rw [HN.out]; exact HP.out⟩
      case measure => simp [intOf]; omega
    · obtain rfl : k = Wn.length := by omega
      have HJ0 : Hid (BAt wr bL (N + 480) (M.addAll L Wn) ∧ BAt wr bH (N + 0) (M.addAll H (Dn.take 0)) ∧ Kp w2 wr ∧ Below w0.heap.size w0 wr) := by
        have := HI.out
        rw [List.take_length] at this
        exact ⟨this.1.mono (by omega), this.2.1, this.2.2⟩
      clear HI HL2 HH2 H02
      go_wp2_with fail
      generalize M.addAll L Wn = L' at *
      go_loopw [34] (fun s34 wr => ∃ (k : Nat), k ≤ Dn.length ∧ s34 = .int .i64 k ∧ Hid (BAt wr bL (N + 480) L' ∧ BAt wr bH (N + k) (M.addAll H (Dn.take k)) ∧ Kp w2 wr ∧ Below w0.heap.size w0 wr)) (fun s34 _ => Dn.length - (intOf s34).toNat)
      case atStart => exact ⟨0, Nat.zero_le _, rfl, HJ0⟩
      case round =>
        obtain ⟨k, hk', rfl, HJ⟩ := hrel
        clear HJ0
        by_cases hlt' : k < Dn.length
        · obtain ⟨bb, off, rfl, hc, hbb⟩ := (HD2.out.kp HJ.out.2.2.1).cell k hlt'
          have hsn := HD2.out.2 _ (getD_mem Dn str0 k hlt')
          obtain ⟨w3, hrun, hS, hg⟩ := HJ.out.2.1.put (by unfold maxLen; omega) (Dn.getD k str0) hsn
          obtain ⟨c9, c12⟩ := HEc.out wr HJ.out.2.2.1
          have l12 : n12 < wr.heap.size := World.block_lt_of_cell? _ _ c12
          have hkl : (k : Int) < (Dn.length : Int) := by omega
          have HN : Hid (M.addAll H (Dn.take (k + 1)) = (M.addAll H (Dn.take k)).put (Dn.getD k str0)) := addAll_take H Dn k hlt'
          have HP : Hid (BAt w3 bL (N + 480) L' ∧ BAt w3 bH (N + k + 1) ((M.addAll H (Dn.take k)).put (Dn.getD k str0)) ∧ Kp w2 w3 ∧ Below w0.heap.size w0 w3) := ⟨HJ.out.1.kept hg (fun e => Hne.out e.symm), hS, HJ.out.2.2.1.trans (Kp.set HJ.out.2.1 hg), HJ.out.2.2.2.grown hg HJ.out.2.2.2.size (fun j hj => by cases hj; exact gH)⟩
          clear hS hg hsn HJ
          generalize Dn.getD k str0 = s at *
          go_wp2_with fail
          go_roundw
          case rel => exact ⟨k + 1, by omega, by go_num, by rw [HN.out]; exact HP.out⟩
          case measure => simp [intOf]; omega
        · obtain rfl : k = Dn.length := by omega
          have HJ1 : Hid (Kp w wr ∧ Below w0.heap.size w0 wr ∧ EnAt wr n9 n12 bL bH (N + 540) st') := by
            have := HJ.out
            rw [List.take_length] at this
            exact ⟨HK2.out.trans this.2.2.1, this.2.2.2, (HEc.out wr this.2.2.1).1, (HEc.out wr this.2.2.1).2, Hne.out, _, _, this.1.mono (by omega), this.2.1.mono (by omega), HRl.out⟩
          clear HJ
          go_wp2_with fail
          go_ret
          exact ⟨rfl, HJ1.out⟩

end Go.Proofs.Ytebhbhbhcoijpaa

namespace Go.Proofs.Ytebhbhbhcoijpaa
open Go Go.RowKit
set_option linter.unusedVariables false

theorem endsFn_any (d : M.Dfn) (n9 n12 bL bH N : Nat) (st : M.St) (w : World) (hs : EnAt w n9 n12 bL bH N st) (hnm : d.name.size ≤ maxLen) :
    Calls Try.prog 36 #[.agg #[.string d.name, .int .i64 d.kind, .int .i64 d.frag, .int .i64 d.pos, .int .i64 d.size, .int .i64 d.align], .pointer (some ⟨n9, 0, none⟩), .pointer (some ⟨n12, 0, none⟩)] w fun e w' => e = .returned (.bool (M.helps st d)) ∧ Below w.heap.size w w' := by
  obtain ⟨nm, kd, fr, pos, sz, al⟩ := d
  simp only at hnm
  have hA : Below w.heap.size w (w.alloc (.cells #[.string nm, .int .i64 kd, .int .i64 fr, .int .i64 pos, .int .i64 sz, .int .i64 al] 69)) := (Below.refl _ _).alloc (Nat.le_refl _) _
  have hE := hs.later hA
  obtain ⟨L, H, hL, hH, hR⟩ := hE.ex
  have hl := hL.look nm hnm
  have hl2 := hH.look nm hnm
  have c9 := hs.c9
  have c12 := hs.c12
  have l9 : n9 < w.heap.size := World.block_lt_of_cell? _ _ c9
  have l12 : n12 < w.heap.size := World.block_lt_of_cell? _ _ c12
  have HX : Hid (M.helps st ⟨nm, kd, fr, pos, sz, al⟩ = (kd != 3 && L nm.data.toList && !H nm.data.toList)) := hR.helps _
  generalize M.helps st ⟨nm, kd, fr, pos, sz, al⟩ = R at *
  generalize L nm.data.toList = x at *
  generalize H nm.data.toList = y at *
  have HA : Hid _ := hA
  clear hs hE hL hH hR hA
  cases h3 : (kd != 3) <;> rw [h3] at HX
  · obtain rfl : R = false := by rw [HX.out]; rfl
    clear HX
    go_enter Try.func36, Try.ntmps36
    go_wp2
    go_ret
    exact ⟨rfl, HA.out⟩
  · cases x
    · obtain rfl : R = false := by rw [HX.out]; rfl
      clear HX
      go_enter Try.func36, Try.ntmps36
      go_wp2
      go_ret
      exact ⟨rfl, HA.out⟩
    · obtain rfl : R = !y := by rw [HX.out]; rfl
      clear HX
      go_enter Try.func36, Try.ntmps36
      go_wp2
      go_ret
      exact ⟨rfl, HA.out⟩

set_option maxHeartbeats 1000000 in
set_option maxRecDepth 100000 in
theorem indexEnds_any (l : List M.Dfn) (a : Option Addr) (c n9 n12 bL bH N : Nat) (st : M.St) (w : World) (h : DefsAt w (.slice a l.length c) l) (hs : EnAt w n9 n12 bL bH N st) :
    Calls Try.prog 77 #[.slice a l.length c, .func (.func 36) #[] #[.pointer (some ⟨n9, 0, none⟩), .pointer (some ⟨n12, 0, none⟩)]] w fun e w' => (∃ x, e = .returned (.int .i64 x) ∧ decide (0 ≤ x) = l.any (M.helps st)) ∧ Below w.heap.size w w' := by
  have hn : l.length ≤ maxLen := by obtain ⟨_, _, _, h⟩ := h.1.form; exact h
  unfold maxLen at hn
  have HH : Hid (∀ W, Below w.heap.size w W → DefsAt W (.slice a l.length c) l ∧ EnAt W n9 n12 bL bH N st) := fun W hW => ⟨h.later hW, hs.later hW⟩
  clear h hs
  have HA0 : Hid ((l.take 0).any (M.helps st) = false) := rfl
  go_enter Try.func77, Try.ntmps77
  go_wp2_with fail
  go_loopw [8] (fun s8 wr => ∃ (k : Nat), k ≤ l.length ∧ s8 = .int .i64 k ∧ Hid ((l.take k).any (M.helps st) = false) ∧ Hid (Below w.heap.size w wr)) (fun s8 _ => l.length - (intOf s8).toNat)
  case atStart => exact ⟨0, Nat.zero_le _, rfl, HA0, Below.refl _ _⟩
  case round =>
    obtain ⟨k, hk, rfl, HA, HB⟩ := hrel
    clear HA0
    by_cases hlt : k < l.length
    · obtain ⟨bb, off, rfl, e0, e1, e2, e3, e4, e5, hnm⟩ := (HH.out wr HB.out).1.cells k hlt
      have hkl : (k : Int) < (l.length : Int) := by omega
      have KC : Hid (Calls Try.prog 36 #[.agg #[.string (l.getD k dfn0).name, .int .i64 (l.getD k dfn0).kind, .int .i64 (l.getD k dfn0).frag, .int .i64 (l.getD k dfn0).pos, .int .i64 (l.getD k dfn0).size, .int .i64 (l.getD k dfn0).align], .pointer (some ⟨n9, 0, none⟩), .pointer (some ⟨n12, 0, none⟩)] wr fun e w' => e = .returned (.bool (M.helps st (l.getD k dfn0))) ∧ Below wr.heap.size wr w') := endsFn_any _ n9 n12 bL bH N st wr (HH.out wr HB.out).2 hnm
      have HN : Hid ((l.take (k + 1)).any (M.helps st) = M.helps st (l.getD k dfn0)) := by
        rw [Hid, List.take_succ_eq_append_getElem hlt, List.any_append, HA.out, List.getD_eq_getElem?_getD, List.getElem?_eq_getElem hlt]; simp
      have HT : Hid (M.helps st (l.getD k dfn0) = true → l.any (M.helps st) = true) := fun h => List.any_eq_true.2 ⟨_, getD_mem l dfn0 k hlt, h⟩
      clear HA
      generalize M.helps st (l.getD k dfn0) = R at *
      generalize l.getD k dfn0 = d at *
      obtain ⟨nm, kd, fr, pos, sz, al⟩ := d
      simp only at e0 e1 e2 e3 e4 e5 KC
      cases R
      · clear HT
        go_wp2_with (go_at_call 36; refine KC.out.mono ?_; rintro e w1 ⟨rfl, hb1⟩)
        go_roundw
        case rel => exact ⟨k + 1, by omega, by go_num, HN, HB.out.trans (hb1.mono HB.out.size)⟩
        case measure => simp [intOf]; omega
      · have hany := HT.out rfl
        have HAn : Hid _ := hany
        clear HT hany HN
        go_wp2_with (go_at_call 36; refine KC.out.mono ?_; rintro e w1 ⟨rfl, hb1⟩)
        go_ret
        exact ⟨⟨_, rfl, by rw [HAn.out]; simp⟩, HB.out.trans (hb1.mono HB.out.size)⟩
    · obtain rfl : k = l.length := by omega
      have HAn : Hid (l.any (M.helps st) = false) := by have := HA.out; rwa [List.take_length] at this
      clear HA
      go_wp2
      go_ret
      exact ⟨⟨_, rfl, by rw [HAn.out]; decide⟩, HB.out⟩

theorem containsEnds_any (l : List M.Dfn) (a : Option Addr) (c n9 n12 bL bH N : Nat) (st : M.St) (w : World) (h : DefsAt w (.slice a l.length c) l) (hs : EnAt w n9 n12 bL bH N st) :
    Calls Try.prog 35 #[.slice a l.length c, .func (.func 36) #[] #[.pointer (some ⟨n9, 0, none⟩), .pointer (some ⟨n12, 0, none⟩)]] w fun e w' => e = .returned (.bool (l.any (M.helps st))) ∧ Below w.heap.size w w' := by
  have KI := indexEnds_any l a c n9 n12 bL bH N st w h hs
  generalize l.any (M.helps st) = R at *
  clear h hs
  have HK : Hid _ := KI
  clear KI
  go_enter Try.func35, Try.ntmps35
  go_wp2_with (go_at_call 77; refine Calls.mono HK.out ?_; rintro e w1 ⟨⟨x, rfl, hx⟩, hb1⟩)
  go_ret
  exact ⟨by simp_all, hb1⟩

theorem endsHelps_any (p : M.Prt) (a1 a2 : Option Addr) (c1 c2 n9 n12 bL bH N : Nat) (st : M.St) (w : World) (hd : DefsAt w (.slice a2 p.defs.length c2) p.defs) (hs : EnAt w n9 n12 bL bH N st) :
    Calls Try.prog 34 #[.agg #[.slice a1 p.frags.length c1, .slice a2 p.defs.length c2], .pointer (some ⟨n9, 0, none⟩), .pointer (some ⟨n12, 0, none⟩)] w fun e w' => e = .returned (.bool (M.partHelps st p)) ∧ Below w.heap.size w w' := by
  have hA : Below w.heap.size w (w.alloc (.cells #[.slice a1 p.frags.length c1, .slice a2 p.defs.length c2] 25)) := (Below.refl _ _).alloc (Nat.le_refl _) _
  have KC : Hid (Calls Try.prog 35 #[.slice a2 p.defs.length c2, .func (.func 36) #[] #[.pointer (some ⟨n9, 0, none⟩), .pointer (some ⟨n12, 0, none⟩)]] (w.alloc (.cells #[.slice a1 p.frags.length c1, .slice a2 p.defs.length c2] 25)) fun e w' => e = .returned (.bool (p.defs.any (M.helps st))) ∧ Below (w.alloc (.cells #[.slice a1 p.frags.length c1, .slice a2 p.defs.length c2] 25)).heap.size (w.alloc (.cells #[.slice a1 p.frags.length c1, .slice a2 p.defs.length c2] 25)) w') := containsEnds_any p.defs a2 c2 n9 n12 bL bH N st _ (hd.later hA) (hs.later hA)
  have HA : Hid _ := hA
  show Calls _ _ _ _ fun e w' => e = .returned (.bool (p.defs.any (M.helps st))) ∧ _
  generalize p.defs.any (M.helps st) = R at *
  clear hd hs hA
  go_enter Try.func34, Try.ntmps34
  go_wp2_with (go_at_call 35; refine KC.out.mono ?_; rintro e w1 ⟨rfl, hb1⟩)
  go_ret
  exact ⟨rfl, HA.out.trans (hb1.mono HA.out.size)⟩

end Go.Proofs.Ytebhbhbhcoijpaa
