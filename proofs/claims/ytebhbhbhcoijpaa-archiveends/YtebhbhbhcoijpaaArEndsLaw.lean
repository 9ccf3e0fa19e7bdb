/-
  ArchiveEnds: the law, walked.
-/
import Derived.Test.YtebhbhbhcoijpaaArEx
import Derived.Test.YtebhbhbhcoijpaaArEnSame
import Derived.Test.YtebhbhbhcoijpaaArTaken
namespace Go.Proofs.Ytebhbhbhcoijpaa
open Go Go.RowKit
set_option linter.unusedVariables false
attribute [local go_sem] lat_cell

theorem mk_items2 {X : World} (p : M.Prt) (ps : List M.Prt) (vF vD : Value) (aP : Option Addr) (cP : Nat) (hf : FragsAt X vF p.frags) (hd : DefsAt X vD p.defs) (hP : PartsAt X (.slice aP ps.length cP) ps) :
    Below X.heap.size X ((X.alloc (.cells #[vF, vD] 25)).alloc (.cells #[.bool false, .slice (some ⟨X.heap.size, 0, none⟩) 1 1, .bool true, .slice aP ps.length cP] 63)) ∧
    ItemsAt ((X.alloc (.cells #[vF, vD] 25)).alloc (.cells #[.bool false, .slice (some ⟨X.heap.size, 0, none⟩) 1 1, .bool true, .slice aP ps.length cP] 63)) (.slice (some ⟨X.heap.size + 1, 0, none⟩) 2 2) [⟨false, [p]⟩, ⟨true, ps⟩] := by
  have b1 : Below X.heap.size X (X.alloc (.cells #[vF, vD] 25)) := (Below.refl _ _).alloc (Nat.le_refl _) _
  have q1 := heap_alloc_new X (.cells #[vF, vD] 25)
  have sz1 : (X.alloc (.cells #[vF, vD] 25)).heap.size = X.heap.size + 1 := by simp
  generalize X.alloc (.cells #[vF, vD] 25) = Y1 at *
  have b3 : Below Y1.heap.size Y1 (Y1.alloc (.cells #[.bool false, .slice (some ⟨X.heap.size, 0, none⟩) 1 1, .bool true, .slice aP ps.length cP] 63)) := (Below.refl _ _).alloc (Nat.le_refl _) _
  have q3 := heap_alloc_new Y1 (.cells #[.bool false, .slice (some ⟨X.heap.size, 0, none⟩) 1 1, .bool true, .slice aP ps.length cP] 63)
  have q1' := (b3.block _ (Array.getElem?_eq_some_iff.1 q1).1).trans q1
  rw [sz1] at q3
  generalize Y1.alloc (.cells #[.bool false, .slice (some ⟨X.heap.size, 0, none⟩) 1 1, .bool true, .slice aP ps.length cP] 63) = Y3 at *
  have b123 := b1.trans (b3.mono b1.size)
  refine ⟨b123, ?_⟩
  have hP1 : PartsAt Y3 (.slice (some ⟨X.heap.size, 0, none⟩) 1 1) [p] := parts_of (es := [⟨p, vF, vD⟩]) (blk_slice pent0 pentCells (fun _ => rfl) [⟨p, vF, vD⟩] (by unfold maxLen; simp) 1 q1') (fun e he => by
    rw [List.mem_singleton.1 he]; exact ⟨hf.later b123, hd.later b123⟩)
  refine items_of (es := [⟨⟨false, [p]⟩, .slice (some ⟨X.heap.size, 0, none⟩) 1 1⟩, ⟨⟨true, ps⟩, .slice aP ps.length cP⟩]) (blk_slice ient0 ientCells (fun _ => rfl) [⟨⟨false, [p]⟩, .slice (some ⟨X.heap.size, 0, none⟩) 1 1⟩, ⟨⟨true, ps⟩, .slice aP ps.length cP⟩] (by unfold maxLen; simp) 2 q3) (fun e he => ?_)
  simp only [List.mem_cons, List.not_mem_nil, or_false] at he
  rcases he with rfl | rfl
  · exact ⟨_, _, rfl, hP1⟩
  · exact ⟨_, _, rfl, hP.later b123⟩

theorem ChOut.cap {w0 w' : World} {a : Option Addr} {n c : Nat} {ps : List M.Prt} (h : ChOut w0 w' (.slice a n c) ps) : n ≤ c := by
  obtain ⟨_, es, _, hr, _⟩ := h
  rcases hr.2 with ⟨h1, h2⟩ | ⟨g, cap, cur, h1, _, _, h3, _⟩
  · cases h1; exact Nat.le_refl _
  · cases h1; exact h3

theorem EnAt.mono {W : World} {n9 n12 bL bH N N' : Nat} {st : M.St} (h : EnAt W n9 n12 bL bH N st) (hn : N ≤ N') : EnAt W n9 n12 bL bH N' st :=
  let ⟨L, H, h1, h2, h3⟩ := h.ex
  ⟨h.c9, h.c12, h.ne, L, H, h1.mono hn, h2.mono hn, h3⟩

set_option maxHeartbeats 8000000 in
set_option maxRecDepth 100000 in
theorem ends_law (p : M.Prt) (ps : List M.Prt) (first : List ByteArray) (a1 a2 a3 a4 : Option Addr) (c1 c2 c3 c4 : Nat) (w : World) (hf : FragsAt w (.slice a1 p.frags.length c1) p.frags) (hd : DefsAt w (.slice a2 p.defs.length c2) p.defs) (h2 : PartsAt w (.slice a3 ps.length c3) ps) (h3 : StrsAt w (.slice a4 first.length c4) first) :
    Calls Try.prog 7 #[.agg #[.slice a1 p.frags.length c1, .slice a2 p.defs.length c2], .slice a3 ps.length c3, .slice a4 first.length c4] w fun e w' => e = .returned (.bool true) ∧ Below w.heap.size w w' := by
  have hn2 : ps.length ≤ maxLen := by obtain ⟨_, h, _⟩ := h2; obtain ⟨_, _, _, h⟩ := h.form; exact h
  unfold maxLen at hn2
  have b0 : Below w.heap.size w (w.alloc (.cells #[.slice a1 p.frags.length c1, .slice a2 p.defs.length c2] 25)) := (Below.refl _ _).alloc (Nat.le_refl _) _
  have V0 : Hid (Var (w.alloc (.cells #[.slice a1 p.frags.length c1, .slice a2 p.defs.length c2] 25)) w.heap.size a1 a2 c1 c2 p) := var_new hf hd
  have HB0 : Hid (Below w.heap.size w (w.alloc (.cells #[.slice a1 p.frags.length c1, .slice a2 p.defs.length c2] 25))) := b0
  have HP0 : Hid (PartsAt (w.alloc (.cells #[.slice a1 p.frags.length c1, .slice a2 p.defs.length c2] 25)) (.slice a3 ps.length c3) ps) := h2.later b0
  have HS0 : Hid (StrsAt (w.alloc (.cells #[.slice a1 p.frags.length c1, .slice a2 p.defs.length c2] 25)) (.slice a4 first.length c4) first) := h3.later b0
  clear hf hd h2 h3 b0
  have HM : Hid (M.choose [⟨false, [p]⟩, ⟨true, ps⟩] first = M.choose [⟨false, [p]⟩, ⟨true, ps⟩] first) := rfl
  go_enter Try.func7, Try.ntmps7
  go_upto_region 1 with fail
  generalize w.alloc (.cells #[.slice a1 p.frags.length c1, .slice a2 p.defs.length c2] 25) = X at *
  obtain ⟨hB1, hI1⟩ := mk_items2 (X := X) p ps _ _ a3 c3 V0.out.fr V0.out.df HP0.out
  have c0 := V0.out.c0
  have c1' := V0.out.c1
  have lX := V0.out.lt
  have KC : Hid (Calls Try.prog 31 #[.slice (some ⟨X.heap.size + 1, 0, none⟩) 2 2, .slice a4 first.length c4] ((X.alloc (.cells #[.slice a1 p.frags.length c1, .slice a2 p.defs.length c2] 25)).alloc (.cells #[.bool false, .slice (some ⟨X.heap.size, 0, none⟩) 1 1, .bool true, .slice a3 ps.length c3] 63)) fun e w' => ∃ v, e = .returned (.tuple #[v, .int .i64 (M.choose [⟨false, [p]⟩, ⟨true, ps⟩] first).2]) ∧ ChOut ((X.alloc (.cells #[.slice a1 p.frags.length c1, .slice a2 p.defs.length c2] 25)).alloc (.cells #[.bool false, .slice (some ⟨X.heap.size, 0, none⟩) 1 1, .bool true, .slice a3 ps.length c3] 63)) w' v (M.choose [⟨false, [p]⟩, ⟨true, ps⟩] first).1) := choose_any [⟨false, [p]⟩, ⟨true, ps⟩] first (some ⟨X.heap.size + 1, 0, none⟩) a4 2 c4 _ hI1 (HS0.out.later hB1)
  have HB1 : Hid _ := hB1
  clear hI1 hB1
  by_cases h0 : (M.choose [⟨false, [p]⟩, ⟨true, ps⟩] first).2 = 0
  · obtain ⟨hck, hfi, _⟩ := M.choose_out h0
    have hi := (items_ok hck).2
    obtain ⟨h8, _, hckA⟩ := item_ok (hi ⟨true, ps⟩ (by simp))
    have hckP := (item_ok (hi ⟨false, [p]⟩ (by simp))).2.2 p (by simp)
    have hf12 := first_ok hfi
    obtain ⟨ts, hout, hts, hhelp, hend⟩ := M.ends_out h0 h8
    obtain ⟨os, hos⟩ : ∃ os, os = p :: ts := ⟨_, rfl⟩
    have hol : os.length = ts.length + 1 := by rw [hos]; rfl
    have HO0 : Hid (os.getD 0 M.nil = p) := by rw [Hid, hos]; rfl
    have HOk : Hid (∀ k, os.getD (k + 1) M.nil = ts.getD k M.nilP) := fun k => by rw [hos]; rfl
    have Hol : Hid (os.length = ts.length + 1) := hol
    have hop : 1 ≤ os.length := by omega
    have ho9 : os.length ≤ 9 := by omega
    have hoz : ((os.length : Int) == 0) = false := by rw [beq_eq_false_iff_ne]; omega
    rw [h0, hout, ← hos] at KC
    have Hhelp : Hid _ := hhelp
    have Hend : Hid _ := hend
    have HckA : Hid (∀ q ∈ ps, M.checkPart q = 0) := hckA
    have HckP : Hid (M.checkPart p = 0) := hckP
    clear hck hfi hi h0 hout hos hol hhelp hend hckA hckP
    go_upto_region 4 with (first | (go_at_call 31; refine KC.out.mono ?_; rintro e w1 ⟨v, rfl, hO⟩; obtain ⟨ao, co, rfl⟩ := hO.parts.form; have HO : Hid _ := hO; clear hO) | (go_at_call 32; refine (taken_true _).mono ?_; rintro e w2 ⟨rfl, hb2⟩; have Hb2 : Hid _ := hb2; clear hb2))
    have bx : Below X.heap.size X w2 := HB1.out.trans ((HO.out.1.trans (Hb2.out.mono HO.out.1.size)).mono HB1.out.size)
    have HB2 : Hid (Below w.heap.size w w2) := HB0.out.trans (bx.mono HB0.out.size)
    have V2 : Hid (VarC w2 w.heap.size a1 a2 c1 c2 p) := VarC.of (V0.out.later bx)
    have HP2 : Hid (PartsAt w2 (.slice a3 ps.length c3) ps) := HP0.out.later bx
    have HS2 : Hid (StrsAt w2 (.slice a4 first.length c4) first) := HS0.out.later bx
    have HO2 : Hid (PartsAt w2 (.slice ao os.length co) os) := (ChOut.parts HO.out).later Hb2.out
    have HCp : Hid (os.length ≤ co) := ChOut.cap HO.out
    clear c0 c1' lX KC HB1 bx HO Hb2 V0 HP0 HS0 HB0 HM
    obtain ⟨b, off, p1, p2, d1, d2, rfl, e0, e1, hf, hd⟩ := part_at HO2.out 0 hop
    rw [HO0.out] at e0 e1 hf hd
    have KS : Hid (∀ W, Below w2.heap.size w2 W → Calls Try.prog 10 #[.agg #[.slice p1 p.frags.length d1, .slice p2 p.defs.length d2], .agg #[.slice a1 p.frags.length c1, .slice a2 p.defs.length c2]] W fun e w' => e = .returned (.bool true) ∧ Below W.heap.size W w') := fun W hW => by
      have := same_any p.frags p.frags p.defs p.defs p1 p2 a1 a2 d1 d2 c1 c2 W (hf.later hW) (hd.later hW) (V2.out.fr.later hW) (V2.out.df.later hW)
      rw [M.samePart_refl] at this
      exact this
    have k0 := V2.out.c0
    have k1 := V2.out.c1
    have l2 := V2.out.lt
    have lb : b < w2.heap.size := World.block_lt_of_cell? _ _ e0
    have hpos : (0 : Int) < (os.length : Int) := by omega
    simp only [Nat.zero_mul, Nat.add_zero] at e0 e1
    clear hf hd
    refine wp_region_lat (by kernel_rfl) (by kernel_rfl) ?_
    intro hne
    repeat (go_big_quiet_step ((go_at_call 10; exact lat_of (KS.out _ (Lat.below _)))))
    refine wpQuiet_nil ?_
    intro w3 hb3
    have Hb3 : Hid (Below w2.heap.size w2 w3) := lat_out hb3
    clear hne hb3 e0 e1 k0 k1 l2 lb KS
    have HB3 : Hid (Below w.heap.size w w3) := HB2.out.trans (Hb3.out.mono HB2.out.size)
    have V3 : Hid (VarC w3 w.heap.size a1 a2 c1 c2 p) := V2.out.later Hb3.out
    have HP3 : Hid (PartsAt w3 (.slice a3 ps.length c3) ps) := HP2.out.later Hb3.out
    have HS3 : Hid (StrsAt w3 (.slice a4 first.length c4) first) := HS2.out.later Hb3.out
    have HO3 : Hid (PartsAt w3 (.slice (some ⟨b, off, none⟩) os.length co) os) := HO2.out.later Hb3.out
    clear HB2 V2 HP2 HS2 HO2 Hb3
    have hmm := @run_makeMap Try.prog
    go_wp2_with fail
    have b6 : Below w3.heap.size w3 ((w3.alloc (.map #[] 0)).alloc (.cells #[.map (some w3.heap.size)] 65)) := ((Below.refl _ _).alloc (Nat.le_refl _) _).alloc (by simp) _
    have hbl : BAt ((w3.alloc (.map #[] 0)).alloc (.cells #[.map (some w3.heap.size)] 65)) w3.heap.size (0 + 0) (M.addAll M.noNames (first.take 0)) := (BAt.nil w3).later ((Below.refl _ _).alloc (Nat.le_refl _) _)
    have q9 : ((w3.alloc (.map #[] 0)).alloc (.cells #[.map (some w3.heap.size)] 65)).cell? ⟨w3.heap.size + 1, 0, none⟩ = some (.map (some w3.heap.size)) := by
      have e : (w3.alloc (.map #[] 0)).heap.size = w3.heap.size + 1 := by simp
      rw [← e]
      exact cellB (heap_alloc_new (w3.alloc (.map #[] 0)) (.cells #[.map (some w3.heap.size)] 65)) 0
    have Hbl : Hid _ := hbl
    have Q9 : Hid _ := q9
    have HB6 : Hid (Below w.heap.size w ((w3.alloc (.map #[] 0)).alloc (.cells #[.map (some w3.heap.size)] 65))) := HB3.out.trans (b6.mono HB3.out.size)
    have V6 : Hid (VarC ((w3.alloc (.map #[] 0)).alloc (.cells #[.map (some w3.heap.size)] 65)) w.heap.size a1 a2 c1 c2 p) := V3.out.later b6
    have HP6 : Hid (PartsAt ((w3.alloc (.map #[] 0)).alloc (.cells #[.map (some w3.heap.size)] 65)) (.slice a3 ps.length c3) ps) := HP3.out.later b6
    have HS6 : Hid (StrsAt ((w3.alloc (.map #[] 0)).alloc (.cells #[.map (some w3.heap.size)] 65)) (.slice a4 first.length c4) first) := HS3.out.later b6
    have HO6 : Hid (PartsAt ((w3.alloc (.map #[] 0)).alloc (.cells #[.map (some w3.heap.size)] 65)) (.slice (some ⟨b, off, none⟩) os.length co) os) := HO3.out.later b6
    have gL : w.heap.size ≤ w3.heap.size := HB3.out.size
    clear hbl q9 b6 HB3 V3 HP3 HS3 HO3
    generalize (w3.alloc (.map #[] 0)).alloc (.cells #[.map (some w3.heap.size)] 65) = X6 at *
    generalize w3.heap.size = bL at *
    go_loopw [51] (fun s51 wr => ∃ (k : Nat), k ≤ first.length ∧ s51 = .int .i64 k ∧ Hid (BAt wr bL (0 + k) (M.addAll M.noNames (first.take k)) ∧ Kp X6 wr ∧ Below w.heap.size w wr)) (fun s51 _ => first.length - (intOf s51).toNat)
    case atStart => exact ⟨0, Nat.zero_le _, rfl, Hbl.out, Kp.refl _, HB6.out⟩
    case round =>
      obtain ⟨k, hk, rfl, HI⟩ := hrel
      by_cases hlt : k < first.length
      · obtain ⟨bb, off', rfl, hc, hbb⟩ := (HS6.out.kp HI.out.2.1).cell k hlt
        have hsn := HS6.out.2 _ (getD_mem first str0 k hlt)
        obtain ⟨w4, hrun, hS, hg⟩ := HI.out.1.put (by unfold maxLen; omega) (first.getD k str0) hsn
        have c9 := HI.out.2.1 _ _ Q9.out
        have l9 : bL + 1 < wr.heap.size := World.block_lt_of_cell? _ _ c9
        have hkl : (k : Int) < (first.length : Int) := by omega
        have HN : Hid (M.addAll M.noNames (first.take (k + 1)) = (M.addAll M.noNames (first.take k)).put (first.getD k str0)) := addAll_take M.noNames first k hlt
        have HP : Hid (BAt w4 bL (0 + k + 1) ((M.addAll M.noNames (first.take k)).put (first.getD k str0)) ∧ Kp X6 w4 ∧ Below w.heap.size w w4) := ⟨hS, HI.out.2.1.trans (Kp.set HI.out.1 hg), HI.out.2.2.grown hg HI.out.2.2.size (fun j hj => by cases hj; exact gL)⟩
        clear hS hg hsn HI
        generalize first.getD k str0 = s at *
        go_wp2_with fail
        go_roundw
        case rel => exact ⟨k + 1, by omega, by go_num, by rw [HN.out]; exact HP.out⟩
        case measure => simp [intOf]; omega
      · obtain rfl : k = first.length := by omega
        have HJ : Hid (BAt wr bL 12 (M.addAll M.noNames first) ∧ Kp X6 wr ∧ Below w.heap.size w wr) := by
          have := HI.out
          rw [List.take_length] at this
          exact ⟨this.1.mono (by omega), this.2⟩
        have lL : bL < wr.heap.size := HJ.out.1.lt
        clear HI Hbl
        go_upto_region 13 with fail
        have b12 : Below wr.heap.size wr ((wr.alloc (.map #[] 0)).alloc (.cells #[.map (some wr.heap.size)] 65)) := ((Below.refl _ _).alloc (Nat.le_refl _) _).alloc (by simp) _
        have hbh : BAt ((wr.alloc (.map #[] 0)).alloc (.cells #[.map (some wr.heap.size)] 65)) wr.heap.size 0 M.noNames := (BAt.nil wr).later ((Below.refl _ _).alloc (Nat.le_refl _) _)
        have q12 : ((wr.alloc (.map #[] 0)).alloc (.cells #[.map (some wr.heap.size)] 65)).cell? ⟨wr.heap.size + 1, 0, none⟩ = some (.map (some wr.heap.size)) := by
          have e : (wr.alloc (.map #[] 0)).heap.size = wr.heap.size + 1 := by simp
          rw [← e]
          exact cellB (heap_alloc_new (wr.alloc (.map #[] 0)) (.cells #[.map (some wr.heap.size)] 65)) 0
        have HE12 : Hid (EnAt ((wr.alloc (.map #[] 0)).alloc (.cells #[.map (some wr.heap.size)] 65)) (bL + 1) (wr.heap.size + 1) bL wr.heap.size 12 (M.firstAll first)) := ⟨cell_later b12 (HJ.out.2.1 _ _ Q9.out), q12, by omega, _, _, HJ.out.1.later b12, hbh.mono (Nat.zero_le _), M.Rl.start first⟩
        have HK12 : Hid (Kp X6 ((wr.alloc (.map #[] 0)).alloc (.cells #[.map (some wr.heap.size)] 65))) := HJ.out.2.1.trans (Kp.below b12)
        have HB12 : Hid (Below w.heap.size w ((wr.alloc (.map #[] 0)).alloc (.cells #[.map (some wr.heap.size)] 65))) := HJ.out.2.2.trans (b12.mono HJ.out.2.2.size)
        have gH : w.heap.size ≤ wr.heap.size := HJ.out.2.2.size
        clear b12 hbh q12 HJ
        generalize (wr.alloc (.map #[] 0)).alloc (.cells #[.map (some wr.heap.size)] 65) = X12 at *
        generalize wr.heap.size = bH at *
        have V12 := V6.out.kp HK12.out
        have k0 := V12.c0
        have k1 := V12.c1
        have l3 := V12.lt
        have KT : Hid (Calls Try.prog 33 #[.agg #[.slice a1 p.frags.length c1, .slice a2 p.defs.length c2], .pointer (some ⟨bL + 1, 0, none⟩), .pointer (some ⟨bH + 1, 0, none⟩)] X12 fun e w' => e = .returned (.bool true) ∧ Kp X12 w' ∧ Below w.heap.size w w' ∧ EnAt w' (bL + 1) (bH + 1) bL bH (12 + 540) (M.enter (M.firstAll first) p)) := endsTake_any p a1 a2 c1 c2 (bL + 1) (bH + 1) bL bH 12 _ w X12 V12.fr V12.df HckP.out HE12.out (by omega) HB12.out gL gH
        clear V12
        go_upto_region 17 with (go_at_call 33; refine KT.out.mono ?_; rintro e w15 ⟨rfl, hK15, hB15, hE15⟩; have HK15 : Hid _ := hK15; have HB15 : Hid _ := hB15; have HE15 : Hid _ := hE15; clear hK15 hB15 hE15)
        have kk : Kp X6 w15 := HK12.out.trans HK15.out
        have HP15 : Hid (PartsAt w15 (.slice a3 ps.length c3) ps) := HP6.out.kp kk
        have HO15 : Hid (PartsAt w15 (.slice (some ⟨b, off, none⟩) os.length co) os) := HO6.out.kp kk
        clear kk k0 k1 l3 KT HK12 HK15 HE12 HB12 HB6 V6 HP6 HS6 HO6 Q9 lL
        generalize M.enter (M.firstAll first) p = st1 at *
        go_wp2_with fail
        case inl =>
          have hz : ts.length ≤ 0 := by have := HCp.out; have := Hol.out; omega
          clear h
          rw [show os.length - 1 = ts.length by rw [Hol.out]; omega]
          go_loopw [68] (fun s68 wr => ∃ (k : Nat), k ≤ ts.length ∧ s68 = .int .i64 k ∧ Hid (EnAt wr (bL + 1) (bH + 1) bL bH (552 + k * 540) (M.enterAll st1 (ts.take k)) ∧ Kp w15 wr ∧ Below w.heap.size w wr)) (fun s68 _ => ts.length - (intOf s68).toNat)
          case atStart => exact ⟨0, Nat.zero_le _, rfl, HE15.out, Kp.refl _, HB15.out⟩
          case round =>
            obtain ⟨k, hk, rfl, HI⟩ := hrel
            by_cases hlt : k < ts.length
            · exact absurd hlt (by omega)
            · obtain rfl : k = ts.length := by omega
              have HJ : Hid (EnAt wr (bL + 1) (bH + 1) bL bH (552 + ts.length * 540) (M.enterAll st1 ts) ∧ Kp w15 wr ∧ Below w.heap.size w wr) := by
                have := HI.out
                rw [List.take_length] at this
                exact this
              have HPc : Hid (PartsAt wr (.slice a3 ps.length c3) ps) := HP15.out.kp HJ.out.2.1
              clear HI HO15 HP15 HE15 HB15 Hhelp
              go_wp2_with fail
              generalize wr = WC at *
              generalize 552 + ts.length * 540 = NN at *
              go_loopw [91] (fun s91 wr => ∃ (j : Nat), j ≤ ps.length ∧ s91 = .int .i64 j ∧ Hid (Below WC.heap.size WC wr)) (fun s91 _ => ps.length - (intOf s91).toNat)
              case atStart => exact ⟨0, Nat.zero_le _, rfl, Below.refl _ _⟩
              case round =>
                obtain ⟨j, hj, rfl, HB⟩ := hrel
                by_cases hlt' : j < ps.length
                · obtain ⟨b', off', p1, p2, d1, d2, rfl, e0, e1, hf, hd⟩ := part_at (HPc.out.later HB.out) j hlt'
                  have hh := Hend.out _ (getD_mem ps M.nil j hlt')
                  generalize ps.getD j M.nil = q at *
                  have hjl : (j : Int) < (ps.length : Int) := by omega
                  have hbr : b' < wr.heap.size := World.block_lt_of_cell? _ _ e0
                  have hA : Below wr.heap.size wr (wr.alloc (.cells #[.slice p1 q.frags.length d1, .slice p2 q.defs.length d2] 25)) := (Below.refl _ _).alloc (Nat.le_refl _) _
                  have HA : Hid _ := hA
                  have KH : Hid (Calls Try.prog 34 #[.agg #[.slice p1 q.frags.length d1, .slice p2 q.defs.length d2], .pointer (some ⟨bL + 1, 0, none⟩), .pointer (some ⟨bH + 1, 0, none⟩)] (wr.alloc (.cells #[.slice p1 q.frags.length d1, .slice p2 q.defs.length d2] 25)) fun e w' => e = .returned (.bool false) ∧ Below (wr.alloc (.cells #[.slice p1 q.frags.length d1, .slice p2 q.defs.length d2] 25)).heap.size (wr.alloc (.cells #[.slice p1 q.frags.length d1, .slice p2 q.defs.length d2] 25)) w') := by
                    have := endsHelps_any q p1 p2 d1 d2 (bL + 1) (bH + 1) bL bH _ _ _ (hd.later hA) ((HJ.out.1.later HB.out).later hA)
                    rw [hh] at this
                    exact this
                  clear hA hf hd hh
                  go_wp2_with (go_at_call 34; refine KH.out.mono ?_; rintro e w5 ⟨rfl, hb5⟩)
                  go_roundw
                  case rel => exact ⟨j + 1, by omega, by go_num, HB.out.trans ((HA.out.trans (hb5.mono HA.out.size)).mono HB.out.size)⟩
                  case measure => simp [intOf]; omega
                · obtain rfl : j = ps.length := by omega
                  go_wp2_with fail
                  go_ret
                  exact ⟨rfl, HJ.out.2.2.trans (HB.out.mono HJ.out.2.2.size)⟩
        case inr =>
          clear h
          rw [show os.length - 1 = ts.length by rw [Hol.out]; omega]
          go_loopw [68] (fun s68 wr => ∃ (k : Nat), k ≤ ts.length ∧ s68 = .int .i64 k ∧ Hid (EnAt wr (bL + 1) (bH + 1) bL bH (552 + k * 540) (M.enterAll st1 (ts.take k)) ∧ Kp w15 wr ∧ Below w.heap.size w wr)) (fun s68 _ => ts.length - (intOf s68).toNat)
          case atStart => exact ⟨0, Nat.zero_le _, rfl, HE15.out, Kp.refl _, HB15.out⟩
          case round =>
            obtain ⟨k, hk, rfl, HI⟩ := hrel
            by_cases hlt : k < ts.length
            · obtain ⟨b', off', p1, p2, d1, d2, he, e0, e1, hf, hd⟩ := part_at (HO15.out.kp HI.out.2.1) (k + 1) (by rw [Hol.out]; omega)
              cases he
              rw [HOk.out k] at e0 e1 hf hd
              rw [show off + (k + 1) * 2 = off + 2 + k * 2 by omega] at e0 e1
              obtain ⟨hh, hm⟩ := Hhelp.out k hlt
              have hck := HckA.out _ hm
              have HN : Hid (M.enterAll st1 (ts.take (k + 1)) = M.enter (M.enterAll st1 (ts.take k)) (ts.getD k M.nilP)) := M.enterAll_take st1 ts k hlt
              generalize ts.getD k M.nilP = q at *
              have hkl : (k : Int) < (ts.length : Int) := by omega
              have hbr : b < wr.heap.size := World.block_lt_of_cell? _ _ e0
              have hA : Below wr.heap.size wr (wr.alloc (.cells #[.slice p1 q.frags.length d1, .slice p2 q.defs.length d2] 25)) := (Below.refl _ _).alloc (Nat.le_refl _) _
              have hV : VarC (wr.alloc (.cells #[.slice p1 q.frags.length d1, .slice p2 q.defs.length d2] 25)) wr.heap.size p1 p2 d1 d2 q := VarC.of (var_new hf hd)
              have x0 := hV.c0
              have x1 := hV.c1
              have lX := hV.lt
              have HV : Hid _ := hV
              have HEx : Hid (EnAt (wr.alloc (.cells #[.slice p1 q.frags.length d1, .slice p2 q.defs.length d2] 25)) (bL + 1) (bH + 1) bL bH (552 + k * 540) (M.enterAll st1 (ts.take k))) := HI.out.1.later hA
              have HBx : Hid (Below w.heap.size w (wr.alloc (.cells #[.slice p1 q.frags.length d1, .slice p2 q.defs.length d2] 25))) := HI.out.2.2.trans (hA.mono HI.out.2.2.size)
              have HKx : Hid (Kp w15 (wr.alloc (.cells #[.slice p1 q.frags.length d1, .slice p2 q.defs.length d2] 25))) := HI.out.2.1.trans (Kp.below hA)
              have KH : Hid (Calls Try.prog 34 #[.agg #[.slice p1 q.frags.length d1, .slice p2 q.defs.length d2], .pointer (some ⟨bL + 1, 0, none⟩), .pointer (some ⟨bH + 1, 0, none⟩)] (wr.alloc (.cells #[.slice p1 q.frags.length d1, .slice p2 q.defs.length d2] 25)) fun e w' => e = .returned (.bool true) ∧ Below (wr.alloc (.cells #[.slice p1 q.frags.length d1, .slice p2 q.defs.length d2] 25)).heap.size (wr.alloc (.cells #[.slice p1 q.frags.length d1, .slice p2 q.defs.length d2] 25)) w') := by
                have := endsHelps_any q p1 p2 d1 d2 (bL + 1) (bH + 1) bL bH _ _ _ hV.df HEx.out
                rw [hh] at this
                exact this
              clear hA hV hf hd hh
              go_upto_region 20 with fail
              generalize wr.alloc (.cells #[.slice p1 q.frags.length d1, .slice p2 q.defs.length d2] 25) = X at *
              generalize wr.heap.size = n16 at *
              have KT : Hid (∀ W, Below X.heap.size X W → Calls Try.prog 33 #[.agg #[.slice p1 q.frags.length d1, .slice p2 q.defs.length d2], .pointer (some ⟨bL + 1, 0, none⟩), .pointer (some ⟨bH + 1, 0, none⟩)] W fun e w' => e = .returned (.bool true) ∧ Kp W w' ∧ Below w.heap.size w w' ∧ EnAt w' (bL + 1) (bH + 1) bL bH (552 + k * 540 + 540) (M.enter (M.enterAll st1 (ts.take k)) q)) := fun W hW => endsTake_any q p1 p2 d1 d2 (bL + 1) (bH + 1) bL bH _ _ w W (HV.out.fr.later hW) (HV.out.df.later hW) hck (HEx.out.later hW) (by omega) (HBx.out.trans (hW.mono HBx.out.size)) gL gH
              have KN : Hid (∀ W W', Below X.heap.size X W → Kp W W' → Calls Try.prog 37 #[.slice a3 ps.length c3, .func (.func 38) #[] #[.pointer (some ⟨n16, 0, none⟩)]] W' fun e w' => e = .returned (.bool true) ∧ Below W'.heap.size W' w') := fun W W' hW hW' => containsSame_any ps q a3 p1 p2 c3 d1 d2 n16 W' (HP15.out.kp ((HKx.out.trans (Kp.below hW)).trans hW')) ((HV.out.later hW).kp hW') hm
              clear hck hm e0 e1 hbr HI
              go_wp2_with (first | (go_at_call 34; refine KH.out.mono ?_; rintro e w5 ⟨rfl, hb5⟩; have Hb5 : Hid _ := hb5; have y0 := cell_later hb5 x0; have y1 := cell_later hb5 x1; have l5 := Nat.lt_of_lt_of_le lX hb5.size; clear hb5) | (go_at_call 33; refine (KT.out _ Hb5.out).mono ?_; rintro e w6 ⟨rfl, hK6, hB6, hE6⟩; have HK6 : Hid _ := hK6; have HB6 : Hid _ := hB6; have HE6 : Hid _ := hE6; clear hK6 hB6 hE6) | (go_at_call 37; refine (KN.out _ _ Hb5.out HK6.out).mono ?_; rintro e w7 ⟨rfl, hb7⟩; have Hb7 : Hid _ := hb7; clear hb7))
              go_roundw
              case rel => exact ⟨k + 1, by omega, by go_num, by rw [HN.out]; exact (HE6.out.later Hb7.out).mono (by omega), ((HKx.out.trans (Kp.below Hb5.out)).trans HK6.out).trans (Kp.below Hb7.out), HB6.out.trans (Hb7.out.mono HB6.out.size)⟩
              case measure => simp [intOf]; omega
            · obtain rfl : k = ts.length := by omega
              have HJ : Hid (EnAt wr (bL + 1) (bH + 1) bL bH (552 + ts.length * 540) (M.enterAll st1 ts) ∧ Kp w15 wr ∧ Below w.heap.size w wr) := by
                have := HI.out
                rw [List.take_length] at this
                exact this
              have HPc : Hid (PartsAt wr (.slice a3 ps.length c3) ps) := HP15.out.kp HJ.out.2.1
              clear HI HO15 HP15 HE15 HB15 Hhelp
              go_wp2_with fail
              generalize wr = WC at *
              generalize 552 + ts.length * 540 = NN at *
              go_loopw [91] (fun s91 wr => ∃ (j : Nat), j ≤ ps.length ∧ s91 = .int .i64 j ∧ Hid (Below WC.heap.size WC wr)) (fun s91 _ => ps.length - (intOf s91).toNat)
              case atStart => exact ⟨0, Nat.zero_le _, rfl, Below.refl _ _⟩
              case round =>
                obtain ⟨j, hj, rfl, HB⟩ := hrel
                by_cases hlt' : j < ps.length
                · obtain ⟨b', off', p1, p2, d1, d2, rfl, e0, e1, hf, hd⟩ := part_at (HPc.out.later HB.out) j hlt'
                  have hh := Hend.out _ (getD_mem ps M.nil j hlt')
                  generalize ps.getD j M.nil = q at *
                  have hjl : (j : Int) < (ps.length : Int) := by omega
                  have hbr : b' < wr.heap.size := World.block_lt_of_cell? _ _ e0
                  have hA : Below wr.heap.size wr (wr.alloc (.cells #[.slice p1 q.frags.length d1, .slice p2 q.defs.length d2] 25)) := (Below.refl _ _).alloc (Nat.le_refl _) _
                  have HA : Hid _ := hA
                  have KH : Hid (Calls Try.prog 34 #[.agg #[.slice p1 q.frags.length d1, .slice p2 q.defs.length d2], .pointer (some ⟨bL + 1, 0, none⟩), .pointer (some ⟨bH + 1, 0, none⟩)] (wr.alloc (.cells #[.slice p1 q.frags.length d1, .slice p2 q.defs.length d2] 25)) fun e w' => e = .returned (.bool false) ∧ Below (wr.alloc (.cells #[.slice p1 q.frags.length d1, .slice p2 q.defs.length d2] 25)).heap.size (wr.alloc (.cells #[.slice p1 q.frags.length d1, .slice p2 q.defs.length d2] 25)) w') := by
                    have := endsHelps_any q p1 p2 d1 d2 (bL + 1) (bH + 1) bL bH _ _ _ (hd.later hA) ((HJ.out.1.later HB.out).later hA)
                    rw [hh] at this
                    exact this
                  clear hA hf hd hh
                  go_wp2_with (go_at_call 34; refine KH.out.mono ?_; rintro e w5 ⟨rfl, hb5⟩)
                  go_roundw
                  case rel => exact ⟨j + 1, by omega, by go_num, HB.out.trans ((HA.out.trans (hb5.mono HA.out.size)).mono HB.out.size)⟩
                  case measure => simp [intOf]; omega
                · obtain rfl : j = ps.length := by omega
                  go_wp2_with fail
                  go_ret
                  exact ⟨rfl, HJ.out.2.2.trans (HB.out.mono HJ.out.2.2.size)⟩
  · have hne : ((M.choose [⟨false, [p]⟩, ⟨true, ps⟩] first).2 != 0) = true := by simp [h0]
    clear h0 HM
    generalize (M.choose [⟨false, [p]⟩, ⟨true, ps⟩] first).2 = er at *
    go_upto_region 3 with (first | (go_at_call 31; refine KC.out.mono ?_; rintro e w1 ⟨v, rfl, hO⟩; obtain ⟨ao, co, rfl⟩ := hO.parts.form; have HO : Hid _ := hO; clear hO) | (go_at_call 32; refine (taken_true _).mono ?_; rintro e w2 ⟨rfl, hb2⟩; have Hb2 : Hid _ := hb2; clear hb2))
    have bx : Below X.heap.size X w2 := HB1.out.trans ((HO.out.1.trans (Hb2.out.mono HO.out.1.size)).mono HB1.out.size)
    have HB2 : Hid (Below w.heap.size w w2) := HB0.out.trans (bx.mono HB0.out.size)
    clear bx HO Hb2 KC HB1
    go_wp2_with (go_at_call 32; refine (taken_true _).mono ?_; rintro e w3 ⟨rfl, hb3⟩)
    go_ret
    exact ⟨rfl, HB2.out.trans (hb3.mono HB2.out.size)⟩

end Go.Proofs.Ytebhbhbhcoijpaa
