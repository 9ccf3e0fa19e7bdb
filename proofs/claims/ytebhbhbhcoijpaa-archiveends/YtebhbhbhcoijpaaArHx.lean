/-
  The contract of archive.enter: how names stand when a part has been taken. The contracts of Choose's second function, and of slices.ContainsFunc with it.
-/
import Derived.Test.YtebhbhbhcoijpaaArMm
import Derived.Test.YtebhbhbhcoijpaaNmTop

namespace Go.Proofs.Ytebhbhbhcoijpaa
open Go Go.RowKit
set_option linter.unusedVariables false

theorem ar_wantedNames_le : ∀ fs : List M.Frg, (∀ f ∈ fs, f.rels.length ≤ 8) → (M.wantedNames fs).length ≤ 8 * fs.length
  | [], _ => by simp [M.wantedNames]
  | f :: fs, h => by
    have ih := ar_wantedNames_le fs (fun g hg => h g (List.mem_cons_of_mem _ hg))
    have h1 : (M.wantedOf f.rels).length ≤ f.rels.length := by
      unfold M.wantedOf
      rw [List.length_map]
      exact List.length_filter_le _ _
    have h2 := h f (by simp)
    show (M.wantedOf f.rels ++ M.wantedNames fs).length ≤ 8 * (fs.length + 1)
    rw [List.length_append]
    omega

theorem ar_wanted_len {p : M.Prt} (h : M.Ok p) : (M.wanted p).length ≤ 480 := by
  have h1 := rising_le (M.wantedNames p.frags)
  have h2 := ar_wantedNames_le p.frags (ok_rels h)
  have h3 := h.nf
  unfold M.wanted
  omega

theorem wantAll_take (st : M.St) (l : List ByteArray) (k : Nat) (h : k < l.length) : M.wantAll st (l.take (k + 1)) = M.want (M.wantAll st (l.take k)) (l.getD k str0) := by
  unfold M.wantAll
  rw [List.take_succ_eq_append_getElem h, List.foldl_append, List.getD_eq_getElem?_getD, List.getElem?_eq_getElem h]
  rfl
theorem defAll_take (st : M.St) (l : List M.Dfn) (k : Nat) (h : k < l.length) : M.defAll st (l.take (k + 1)) = (M.defAll st (l.take k)).set (l.getD k dfn0).name 2 := by
  unfold M.defAll
  rw [List.take_succ_eq_append_getElem h, List.foldl_append, List.getD_eq_getElem?_getD, List.getElem?_eq_getElem h]
  rfl

theorem grown_map {w w1 w2 : World} {b : Nat} (h : Below w.heap.size w w1) (h2 : w1.grownBy w2 (some b)) : w.grownBy w2 (some b) :=
  ⟨h2.os.trans h.os, h2.tape.trans h.tape, h2.output.trans h.output, Nat.le_trans h.size h2.size, fun k hk hne => (h2.block k (Nat.lt_of_lt_of_le hk h.size) hne).trans (h.block k hk)⟩
theorem grown_then {w w1 w2 : World} {b : Nat} (h : w.grownBy w1 (some b)) (h2 : Below w1.heap.size w1 w2) : w.grownBy w2 (some b) :=
  ⟨h2.os.trans h.os, h2.tape.trans h.tape, h2.output.trans h.output, Nat.le_trans h.size h2.size, fun k hk hne => (h2.block k (Nat.lt_of_lt_of_le hk h.size)).trans (h.block k hk hne)⟩

set_option maxHeartbeats 4000000 in
set_option maxRecDepth 100000 in
theorem enter_any (p : M.Prt) (a1 a2 : Option Addr) (c1 c2 b N : Nat) (st : M.St) (w : World) (hf : FragsAt w (.slice a1 p.frags.length c1) p.frags) (hd : DefsAt w (.slice a2 p.defs.length c2) p.defs) (hck : M.checkPart p = 0)
    (hs : StAt w b N st) (hN : N + 540 ≤ 1000000000) :
    Calls Try.prog 73 #[.map (some b), .agg #[.slice a1 p.frags.length c1, .slice a2 p.defs.length c2]] w fun e w' => e = .returned (.tuple #[]) ∧ StAt w' b (N + 540) (M.enter st p) ∧ w.grownBy w' (some b) := by
  have hok := (M.ok_iff p).1 hck
  have hwl := ar_wanted_len hok
  have hdl := hok.nd
  have hA : Below w.heap.size w (w.alloc (.cells #[.slice a1 p.frags.length c1, .slice a2 p.defs.length c2] 25)) := (Below.refl _ _).alloc (Nat.le_refl _) _
  have hq := heap_alloc_new w (.cells #[.slice a1 p.frags.length c1, .slice a2 p.defs.length c2] 25)
  have KW : Hid (Calls Try.prog 19 #[.agg #[.slice a1 p.frags.length c1, .slice a2 p.defs.length c2]] (w.alloc (.cells #[.slice a1 p.frags.length c1, .slice a2 p.defs.length c2] 25)) _) := wantedP_any p a1 a2 c1 c2 _ (hf.later hA) (hd.later hA)
  have hwo : wantedOfP p = M.wanted p := if_pos hck
  rw [hwo, hck] at KW
  have HS1 := hs.later hA
  have HD1 := hd.later hA
  have HE : Hid (M.enter st p = M.defAll (M.wantAll st (M.wanted p)) p.defs) := rfl
  clear hf hd hs hwo hok hck
  generalize M.enter st p = st' at *
  generalize M.wanted p = W at *
  go_enter Try.func73, Try.ntmps73
  go_upto_region 1 with fail
  generalize w.alloc (.cells #[.slice a1 p.frags.length c1, .slice a2 p.defs.length c2] 25) = X at *
  have hlX : w.heap.size < X.heap.size := (Array.getElem?_eq_some_iff.1 hq).1
  have q0 : X.cell? ⟨w.heap.size, 0, none⟩ = some (.slice a1 p.frags.length c1) := cellB hq 0
  have q1 : X.cell? ⟨w.heap.size, 1, none⟩ = some (.slice a2 p.defs.length c2) := cellB hq 1
  go_wp2_with (go_at_call 19; refine KW.out.mono ?_; rintro e w1 ⟨hb1, v, rfl, ho, hsz⟩; obtain ⟨aw, cw, rfl⟩ := own_len ho)
  have HR : Hid (StrsAt w1 (.slice aw W.length cw) W) := row_strs ho hsz
  have HS : Hid (StAt w1 b N st) := HS1.later hb1
  have HD : Hid (DefsAt w1 (.slice a2 p.defs.length c2) p.defs) := HD1.later hb1
  have HQ : Hid (w1.heap[w.heap.size]? = some (.cells #[.slice a1 p.frags.length c1, .slice a2 p.defs.length c2] 25 (0, 0))) := (hb1.block _ hlX).trans hq
  have HG0 : Hid (Below w.heap.size w w1) := hA.trans (hb1.mono hA.size)
  have HSz : Hid (∀ s ∈ W, s.size ≤ maxLen) := hsz
  clear hq q0 q1 HS1 HD1 hb1 ho hsz KW hlX hA
  go_loopw [17] (fun s17 wr => ∃ (k : Nat), k ≤ W.length ∧ s17 = .int .i64 k ∧ Hid (StAt wr b (N + k) (M.wantAll st (W.take k)) ∧ Kp w1 wr ∧ w1.grownBy wr (some b) ∧ wr.heap[w.heap.size]? = some (.cells #[.slice a1 p.frags.length c1, .slice a2 p.defs.length c2] 25 (0, 0)))) (fun s17 _ => W.length - (intOf s17).toNat)
  case atStart => exact ⟨0, Nat.zero_le _, rfl, HS.out, Kp.refl _, grown_of_below (Below.refl _ _) _, HQ.out⟩
  case round =>
    obtain ⟨k, hk, rfl, HI⟩ := hrel
    by_cases hlt : k < W.length
    · obtain ⟨bb, off, rfl, hc, hbb⟩ := (HR.out.kp HI.out.2.1).cell k hlt
      have hsn := HSz.out _ (getD_mem W str0 k hlt)
      have hl := HI.out.1.look (W.getD k str0) hsn
      obtain ⟨w2, hrun, hS2, hg2⟩ := HI.out.1.put (by unfold maxLen; omega) (W.getD k str0) hsn 1 (by decide)
      have HN : Hid (M.wantAll st (W.take (k + 1)) = M.want (M.wantAll st (W.take k)) (W.getD k str0)) := wantAll_take st W k hlt
      have hkl : (k : Int) < (W.length : Int) := by omega
      have HP2 : Hid (Kp w1 w2 ∧ w1.grownBy w2 (some b) ∧ w2.heap[w.heap.size]? = some (.cells #[.slice a1 p.frags.length c1, .slice a2 p.defs.length c2] 25 (0, 0))) := ⟨HI.out.2.1.trans (Kp.map HI.out.1 hg2), grown_trans HI.out.2.2.1 hg2, block_st HI.out.1 hg2 HI.out.2.2.2⟩
      have HS2 : Hid (StAt w2 b (N + k + 1) ((M.wantAll st (W.take k)).set (W.getD k str0) 1)) := hS2
      unfold M.want at HN
      clear hS2 hg2 hsn
      generalize W.getD k str0 = s at *
      generalize hv : M.wantAll st (W.take k) s.data.toList = x at *
      cases hx : (x == 2)
      · have hx' : (x != 2) = true := by simpa using hx
        have HN' : Hid (M.wantAll st (W.take (k + 1)) = (M.wantAll st (W.take k)).set s 1) := by rw [Hid, HN.out, if_neg (by simpa using hx)]
        clear HN
        go_wp2_with fail
        go_roundw
        case rel => exact ⟨k + 1, by omega, by go_num, by rw [HN'.out]; exact HS2.out, HP2.out⟩
        case measure => simp [intOf]; omega
      · have hx' : (x != 2) = false := by simpa using hx
        have HN' : Hid (M.wantAll st (W.take (k + 1)) = M.wantAll st (W.take k)) := by rw [Hid, HN.out, if_pos (by simpa using hx)]
        clear HN hrun
        go_wp2_with fail
        go_roundw
        case rel => exact ⟨k + 1, by omega, by go_num, by rw [HN'.out]; exact HI.out.1.mono (by omega), HI.out.2⟩
        case measure => simp [intOf]; omega
    · obtain rfl : k = W.length := by omega
      have HI2 : Hid (StAt wr b (N + W.length) (M.wantAll st W) ∧ Kp w1 wr ∧ w1.grownBy wr (some b) ∧ wr.heap[w.heap.size]? = some (.cells #[.slice a1 p.frags.length c1, .slice a2 p.defs.length c2] 25 (0, 0))) := by
        have := HI.out
        rwa [List.take_length] at this
      have q1 : wr.cell? ⟨w.heap.size, 1, none⟩ = some (.slice a2 p.defs.length c2) := cellB HI2.out.2.2.2 1
      have hlw : w.heap.size < wr.heap.size := (Array.getElem?_eq_some_iff.1 HI2.out.2.2.2).1
      obtain ⟨Wb, hWb⟩ : ∃ Wb, Wb = wr := ⟨_, rfl⟩
      subst hWb
      clear HI
      go_wp2_with fail
      generalize M.wantAll st W = st1 at *
      clear q1
      go_loopw [31] (fun s31 wr => ∃ (k : Nat), k ≤ p.defs.length ∧ s31 = .int .i64 k ∧ Hid (StAt wr b (N + W.length + k) (M.defAll st1 (p.defs.take k)) ∧ Kp w1 wr ∧ w1.grownBy wr (some b))) (fun s31 _ => p.defs.length - (intOf s31).toNat)
      case atStart => exact ⟨0, Nat.zero_le _, rfl, HI2.out.1, HI2.out.2.1, HI2.out.2.2.1⟩
      case round =>
        obtain ⟨k, hk', rfl, HJ⟩ := hrel
        by_cases hlt' : k < p.defs.length
        · obtain ⟨bb, off, rfl, e0, e1, e2, e3, e4, e5, hnm⟩ := (HD.out.kp HJ.out.2.1).cells k hlt'
          have hbr : bb < wr.heap.size := World.block_lt_of_cell? _ _ e0
          have hkl : (k : Int) < (p.defs.length : Int) := by omega
          have HN : Hid (M.defAll st1 (p.defs.take (k + 1)) = (M.defAll st1 (p.defs.take k)).set (p.defs.getD k dfn0).name 2) := defAll_take st1 p.defs k hlt'
          generalize p.defs.getD k dfn0 = d at *
          obtain ⟨nm, kd, fr, pos, sz, al⟩ := d
          simp only at e0 e1 e2 e3 e4 e5 hnm HN
          have hAl : Below wr.heap.size wr (wr.alloc (.cells #[.string nm, .int .i64 kd, .int .i64 fr, .int .i64 pos, .int .i64 sz, .int .i64 al] 69)) := (Below.refl _ _).alloc (Nat.le_refl _) _
          obtain ⟨w2, hrun, hS2, hg2⟩ := (HJ.out.1.later hAl).put (by unfold maxLen; omega) nm hnm 2 (by decide)
          have HP2 : Hid (Kp w1 w2 ∧ w1.grownBy w2 (some b)) := ⟨(HJ.out.2.1.trans (Kp.below hAl)).trans (Kp.map (HJ.out.1.later hAl) hg2), grown_trans (grown_then HJ.out.2.2 hAl) hg2⟩
          have HS2 : Hid (StAt w2 b (N + W.length + k + 1) ((M.defAll st1 (p.defs.take k)).set nm 2)) := hS2
          clear hS2 hg2 hAl HJ
          go_wp2_with fail
          go_roundw
          case rel => exact ⟨k + 1, by omega, by go_num, by rw [HN.out]; exact HS2.out, HP2.out⟩
          case measure => simp [intOf]; omega
        · obtain rfl : k = p.defs.length := by omega
          have HF : Hid (StAt wr b (N + 540) st') := by
            have := HJ.out.1
            rw [List.take_length, ← HE.out] at this
            exact this.mono (by omega)
          have HF2 : Hid (w.grownBy wr (some b)) := grown_map HG0.out HJ.out.2.2
          clear HJ HI2 HR HS HD HQ HG0 HSz HE
          go_wp2_with fail
          refine bodyPost_end (v := .tuple #[]) (by simp [results, Try.results73, go_sem]) rfl ?_
          exact ⟨rfl, HF.out, HF2.out⟩

end Go.Proofs.Ytebhbhbhcoijpaa

namespace Go.Proofs.Ytebhbhbhcoijpaa
open Go Go.RowKit
set_option linter.unusedVariables false

/-- a variable holds the map -/
def StVar (w : World) (n b N : Nat) (st : M.St) : Prop := w.cell? ⟨n, 0, none⟩ = some (.map (some b)) ∧ StAt w b N st
theorem StVar.later {w w' : World} {n b N : Nat} {st : M.St} (h : StVar w n b N st) (hb : Below w.heap.size w w') : StVar w' n b N st := ⟨cell_later hb h.1, h.2.later hb⟩

theorem helpsFn_any (d : M.Dfn) (n b N : Nat) (st : M.St) (w : World) (hs : StVar w n b N st) (hnm : d.name.size ≤ maxLen) :
    Calls Try.prog 75 #[.agg #[.string d.name, .int .i64 d.kind, .int .i64 d.frag, .int .i64 d.pos, .int .i64 d.size, .int .i64 d.align], .pointer (some ⟨n, 0, none⟩)] w fun e w' => e = .returned (.bool (M.helps st d)) ∧ Below w.heap.size w w' := by
  obtain ⟨nm, kd, fr, pos, sz, al⟩ := d
  simp only at hnm
  have hA : Below w.heap.size w (w.alloc (.cells #[.string nm, .int .i64 kd, .int .i64 fr, .int .i64 pos, .int .i64 sz, .int .i64 al] 69)) := (Below.refl _ _).alloc (Nat.le_refl _) _
  have hl := (hs.2.later hA).look nm hnm
  have hc := hs.1
  have hnw : n < w.heap.size := World.block_lt_of_cell? _ _ hc
  have HX : Hid (M.helps st ⟨nm, kd, fr, pos, sz, al⟩ = (kd != 3 && st nm.data.toList == 1)) := rfl
  generalize M.helps st ⟨nm, kd, fr, pos, sz, al⟩ = R at *
  generalize st nm.data.toList = x at *
  clear hs
  cases h3 : (kd != 3)
  · rw [h3] at HX
    obtain rfl : R = false := HX.out
    clear HX
    go_enter Try.func75, Try.ntmps75
    go_wp2
    go_ret
    exact ⟨rfl, hA⟩
  · rw [h3] at HX
    obtain rfl : R = (x == 1) := HX.out
    clear HX
    go_enter Try.func75, Try.ntmps75
    go_wp2
    go_ret
    exact ⟨rfl, hA⟩

set_option maxHeartbeats 1000000 in
set_option maxRecDepth 100000 in
theorem indexHelps_any (l : List M.Dfn) (a : Option Addr) (c n b N : Nat) (st : M.St) (w : World) (h : DefsAt w (.slice a l.length c) l) (hs : StVar w n b N st) :
    Calls Try.prog 77 #[.slice a l.length c, .func (.func 75) #[] #[.pointer (some ⟨n, 0, none⟩)]] w fun e w' => (∃ x, e = .returned (.int .i64 x) ∧ decide (0 ≤ x) = l.any (M.helps st)) ∧ Below w.heap.size w w' := by
  have hn : l.length ≤ maxLen := by obtain ⟨_, _, _, h⟩ := h.1.form; exact h
  unfold maxLen at hn
  have HH : Hid (∀ W, Below w.heap.size w W → DefsAt W (.slice a l.length c) l ∧ StVar W n b N st) := fun W hW => ⟨h.later hW, hs.later hW⟩
  clear h hs
  have HA0 : Hid ((l.take 0).any (M.helps st) = false) := rfl
  go_enter Try.func77, Try.ntmps77
  go_wp2_with fail
  go_loopw [8] (fun s8 wr => ∃ (k : Nat), k ≤ l.length ∧ s8 = .int .i64 k ∧ Hid ((l.take k).any (M.helps st) = false) ∧ Hid (Below w.heap.size w wr)) (fun s8 _ => l.length - (intOf s8).toNat)
  case atStart => exact ⟨0, Nat.zero_le _, rfl, HA0, Below.refl _ _⟩
  case round =>
    obtain ⟨k, hk, rfl, HA, HB⟩ := hrel
    clear HA0
    by_cases hlt : k < l.length
    · obtain ⟨bb, off, rfl, e0, e1, e2, e3, e4, e5, hnm⟩ := (HH.out wr HB.out).1.cells k hlt
      have hkl : (k : Int) < (l.length : Int) := by omega
      have KC : Hid (Calls Try.prog 75 #[.agg #[.string (l.getD k dfn0).name, .int .i64 (l.getD k dfn0).kind, .int .i64 (l.getD k dfn0).frag, .int .i64 (l.getD k dfn0).pos, .int .i64 (l.getD k dfn0).size, .int .i64 (l.getD k dfn0).align], .pointer (some ⟨n, 0, none⟩)] wr fun e w' => e = .returned (.bool (M.helps st (l.getD k dfn0))) ∧ Below wr.heap.size wr w') := helpsFn_any _ n b N st wr (HH.out wr HB.out).2 hnm
      have HN : Hid ((l.take (k + 1)).any (M.helps st) = M.helps st (l.getD k dfn0)) := by
        rw [Hid, List.take_succ_eq_append_getElem hlt, List.any_append, HA.out, List.getD_eq_getElem?_getD, List.getElem?_eq_getElem hlt]; simp
      have HT : Hid (M.helps st (l.getD k dfn0) = true → l.any (M.helps st) = true) := fun h => List.any_eq_true.2 ⟨_, getD_mem l dfn0 k hlt, h⟩
      clear HA
      generalize M.helps st (l.getD k dfn0) = R at *
      generalize l.getD k dfn0 = d at *
      obtain ⟨nm, kd, fr, pos, sz, al⟩ := d
      simp only at e0 e1 e2 e3 e4 e5 KC
      cases R
      · clear HT
        go_wp2_with (go_at_call 75; refine KC.out.mono ?_; rintro e w1 ⟨rfl, hb1⟩)
        go_roundw
        case rel => exact ⟨k + 1, by omega, by go_num, HN, HB.out.trans (hb1.mono HB.out.size)⟩
        case measure => simp [intOf]; omega
      · have hany := HT.out rfl
        have HAn : Hid _ := hany
        clear HT hany HN
        go_wp2_with (go_at_call 75; refine KC.out.mono ?_; rintro e w1 ⟨rfl, hb1⟩)
        go_ret
        exact ⟨⟨_, rfl, by rw [HAn.out]; simp⟩, HB.out.trans (hb1.mono HB.out.size)⟩
    · obtain rfl : k = l.length := by omega
      have HAn : Hid (l.any (M.helps st) = false) := by have := HA.out; rwa [List.take_length] at this
      clear HA
      go_wp2
      go_ret
      exact ⟨⟨_, rfl, by rw [HAn.out]; decide⟩, HB.out⟩

theorem containsHelps_any (l : List M.Dfn) (a : Option Addr) (c n b N : Nat) (st : M.St) (w : World) (h : DefsAt w (.slice a l.length c) l) (hs : StVar w n b N st) :
    Calls Try.prog 35 #[.slice a l.length c, .func (.func 75) #[] #[.pointer (some ⟨n, 0, none⟩)]] w fun e w' => e = .returned (.bool (l.any (M.helps st))) ∧ Below w.heap.size w w' := by
  have KI := indexHelps_any l a c n b N st w h hs
  generalize l.any (M.helps st) = R at *
  clear h hs
  have HK : Hid _ := KI
  clear KI
  go_enter Try.func35, Try.ntmps35
  go_wp2_with (go_at_call 77; refine Calls.mono HK.out ?_; rintro e w1 ⟨⟨x, rfl, hx⟩, hb1⟩)
  go_ret
  exact ⟨by simp_all, hb1⟩

end Go.Proofs.Ytebhbhbhcoijpaa
