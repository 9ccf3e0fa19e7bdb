/-
  The reference's ReadPart: it is what the plain model reads.
-/
import Derived.Test.YthiknlnhdjoipaaGreatDoorRefRdSw
import Derived.Test.YthiknlnhdjoipaaGreatDoorRefCheck
import Derived.Deep.DeepCutAuto
namespace Go.Proofs.YthiknlnhdjoipaaGreatDoor
open Go Go.RowKit
set_option linter.unusedVariables false
attribute [local go_sem] lat_cell

set_option maxHeartbeats 8000000 in
set_option maxRecDepth 1000000 in
theorem rread_any (t : M.Txt) (w : World) (hG : Glob w) (hBk : Blanks w) (ht : t.length ≤ 20000) :
    Calls Tryz.prog 10 #[.string (M.str t)] w (Reads w (M.read t)) := by
  have hsz : (M.str t).size = t.length := str_size t
  obtain ⟨L, HL⟩ : ∃ L, Hid (L = M.pieces 10 t) := ⟨_, rfl⟩
  have HO : Hid (M.read t = M.readL 0 M.nil L) := by rw [Hid, HL.out]; rfl
  have hL0 : 0 < L.length := by
    have := (split_pieces 10 (M.str t).size (M.str t) (Nat.le_refl _)).2
    rw [txt_str] at this
    rw [HL.out]; omega
  have HLe : Hid (∀ x ∈ L, x.length ≤ 20000) := fun x hx => by rw [HL.out] at hx; exact Nat.le_trans (piece_le 10 t x hx) ht
  obtain ⟨ls, hls⟩ : ∃ ls : Array Value, ls = ((L.map M.str).map Value.string).toArray := ⟨_, rfl⟩
  have HLs : Hid (∀ i, i < L.length → ls[i]? = some (.string (M.str (L.getD i [])))) := fun i hi => by rw [hls]; simp [hi, List.getD_eq_getElem?_getD]
  have KS : Hid (∀ W, Below w.heap.size w W → Calls Tryz.prog 33 #[.string (M.str t), .string ⟨#[10]⟩] W fun e w' => e = .returned (.slice (some ⟨W.heap.size, 0, none⟩) L.length L.length) ∧ w' = W.alloc (.cells ls 9)) := fun W hW => by
    have := rsplit_any 10 (M.str t) W (hG.later hW) (by omega)
    rw [txt_str] at this
    rw [hls, HL.out]
    exact this
  have hLm : L.length ≤ 20001 := by
    have h1 := (split_pieces 10 (M.str t).size (M.str t) (Nat.le_refl _)).2
    have h2 := Lib.countB_le ⟨#[10]⟩ (Nat.le_refl 1) (M.str t).size (M.str t) (Nat.le_refl _)
    rw [txt_str] at h1
    rw [HL.out]; omega
  generalize M.read t = O at *
  clear HL hsz ht hls
  obtain ⟨V0, hV0⟩ : ∃ V0, V0 = (w.alloc (.cells #[.slice none 0 0, .slice none 0 0] 25)).alloc (.cells #[.slice none 0 0, .slice none 0 0] 25) := ⟨_, rfl⟩
  have hB0 : Below w.heap.size w V0 := by rw [hV0]; exact ((Below.refl _ _).alloc (Nat.le_refl _) _).alloc (by simp) _
  have q2 : V0.heap[w.heap.size]? = some (.cells #[.slice none 0 0, .slice none 0 0] 25 (0, 0)) := by rw [hV0]; exact heap_alloc2_old _ _ _
  have q5 : V0.heap[w.heap.size + 1]? = some (.cells #[.slice none 0 0, .slice none 0 0] 25 (0, 0)) := by rw [hV0]; exact heap_alloc2_new _ _ _
  have KS0 : Hid _ := KS.out V0 hB0
  have HV0 : Hid (V0 = _) := hV0
  clear hV0 KS
  go_enter Tryz.func10, Tryz.ntmps10
  go_upto_region 3 with (go_at_call 33; rw [← HV0.out]; refine Calls.mono KS0.out ?_; rintro e w1 ⟨rfl, rfl⟩)
  obtain ⟨b5, hb5⟩ : ∃ b5, b5 = w.heap.size + 1 := ⟨_, rfl⟩
  obtain ⟨b2, hb2⟩ : ∃ b2, b2 = w.heap.size := ⟨_, rfl⟩
  have HS0 : Hid (RdS w b2 b5 V0.heap.size ls M.nil 0 (V0.alloc (.cells ls 9))) := by
    have hA := (Below.refl V0.heap.size V0).alloc (Nat.le_refl _) (.cells ls 9)
    rw [Hid, hb5, hb2]
    refine ⟨hB0.trans (hA.mono hB0.size), (hA.block _ (Array.getElem?_eq_some_iff.1 q2).1).trans q2, ?_, heap_alloc_new _ _, ⟨by simp [M.nil], by simp [M.nil], by simp [M.nil]⟩⟩
    exact ⟨[], [], .slice none 0 0, .slice none 0 0, ⟨by omega, (hA.block _ (Array.getElem?_eq_some_iff.1 q5).1).trans q5, World.ownsRow_nil _ _ _ _, World.ownsRow_nil _ _ _ _, by simp, by simp, by simp, by simp, fun init l h => by simp at h⟩, rfl⟩
  rw [← hb5, ← hb2]
  have hb25 : b2 ≠ b5 := by omega
  have HB2 : Hid (w.heap.size ≤ b2 ∧ w.heap.size ≤ b5) := ⟨by omega, by omega⟩
  clear hb5 hb2 q2 q5 hB0 KS0 HV0
  generalize V0.heap.size = g6 at *
  generalize V0.alloc (.cells ls 9) = V1 at *
  go_wp2_with fail
  go_loopw [40] (fun s40 wr => ∃ (i : Nat) (p : M.Prt), i < L.length ∧ s40 = .int .i64 i ∧ Hid (RdS w b2 b5 g6 ls p i wr) ∧ Hid (O = M.readL i p (L.drop i))) (fun s40 _ => L.length - (intOf s40).toNat)
  case atStart => exact ⟨0, M.nil, hL0, rfl, HS0, HO⟩
  case round =>
    obtain ⟨i, p, hi, rfl, HSr, HOr⟩ := hrel
    clear HS0 HO
    have hil : (i : Int) < (L.length : Int) := by omega
    have HD : Hid (L.drop i = L.getD i [] :: L.drop (i + 1)) := by rw [Hid, List.drop_eq_getElem_cons hi, List.getD_eq_getElem?_getD, List.getElem?_eq_getElem hi]; rfl
    have hc6 : wr.cell? ⟨g6, i, none⟩ = some (.string (M.str (L.getD i []))) := (cellB HSr.out.c6 i).trans (HLs.out i hi)
    have hl6 : g6 < wr.heap.size := (Array.getElem?_eq_some_iff.1 HSr.out.c6).1
    have HT : Hid ((L.getD i []).length ≤ 20000) := HLe.out _ (by rw [List.getD_eq_getElem?_getD, List.getElem?_eq_getElem hi]; exact List.getElem_mem hi)
    generalize L.getD i [] = ln at *
    by_cases hlast : i + 1 = L.length
    · have hq : ((i : Int) == (L.length : Int) - 1) = true := by simp; omega
      have HD1 : Hid (O = M.readL i p [ln]) := by
        rw [Hid, HOr.out, HD.out, List.drop_eq_nil_of_le (by omega)]
      clear HOr HD
      cases hE : (M.str ln).toList.isEmpty
      · have HO1 : Hid (O = (M.nil, i, 1)) := by
          rw [Hid, HD1.out]
          have hne : ln ≠ [] := strNE hE
          simp [M.readL, hne]
        clear HD1
        go_upto_region 9 with fail
        have hA := (Below.refl wr.heap.size wr).alloc (Nat.le_refl _) (.cells #[.int .i64 i] 3)
        have q7 := heap_alloc_new wr (.cells #[.int .i64 i] 3)
        have HS1 : Hid (RdS w b2 b5 g6 ls p i (wr.alloc (.cells #[.int .i64 i] 3))) := HSr.out.later hA
        clear hA HSr hc6 hl6
        generalize wr.heap.size = b7 at *
        generalize wr.alloc (.cells #[.int .i64 i] 3) = V at *
        have KB : Hid _ := rbad_any b7 i V q7
        go_wp2_with (go_at_call 34; refine Calls.mono KB.out ?_; rintro e V2 ⟨rfl, hb2'⟩; have HS2 := HS1.out.later hb2'; have k0 : V2.cell? ⟨b2, 0, none⟩ = some (.slice none 0 0) := cellB HS2.c2 0; have k1 : V2.cell? ⟨b2, 1, none⟩ = some (.slice none 0 0) := cellB HS2.c2 1; have kz : ∀ j, V2.frozen? ⟨b2, j, none⟩ = false := frozenB HS2.c2; have kl : b2 < V2.heap.size := (Array.getElem?_eq_some_iff.1 HS2.c2).1; have HS3 : Hid _ := HS2; clear HS2)
        refine bodyPost_ret (v := .tuple #[.agg #[.slice none 0 0, .slice none 0 0], .int .i64 i, .int .i64 1]) (by simp [results, Tryz.results10, go_sem, k0, k1]) rfl ?_
        rw [HO1.out]
        refine reads_nil (k := i) ?_
        first | exact HS3.out.bel | exact (HS3.out.bel.setCell HB2.out.1 _).setCell HB2.out.1 _
      · have hln : ln = [] := by
          have h1 : (M.str ln).toList = [] := by simpa using hE
          rw [Lib.toList_data] at h1
          simpa [M.str] using h1
        have HO1 : Hid (O = M.fin p) := by
          rw [Hid, HD1.out, hln]
          simp [M.readL]
        clear HD1 hln
        go_upto_region 62 with fail
        have hA := (Below.refl wr.heap.size wr).alloc (Nat.le_refl _) (.cells #[.int .i64 i] 3)
        have HS1 : Hid (RdS w b2 b5 g6 ls p i (wr.alloc (.cells #[.int .i64 i] 3))) := HSr.out.later hA
        clear hA HSr hc6 hl6
        generalize wr.heap.size = b7 at *
        generalize wr.alloc (.cells #[.int .i64 i] 3) = V at *
        obtain ⟨es, ds, vF, vD, hP, hp⟩ := HS1.out.part
        have hF := hP.fragsAt
        have hDf := hP.defsAt
        obtain ⟨x1, y1, rfl⟩ : ∃ a c, vF = .slice a (es.map (·.f)).length c := by obtain ⟨a, c, h⟩ := own_len hP.rowF; exact ⟨a, c, by rw [h, List.length_map]⟩
        obtain ⟨x2, y2, rfl⟩ := own_len hP.rowD
        have hPb := hP.blk
        have k0 : V.cell? ⟨b5, 0, none⟩ = some (.slice x1 (es.map (·.f)).length y1) := cellB hPb 0
        have k1 : V.cell? ⟨b5, 1, none⟩ = some (.slice x2 ds.length y2) := cellB hPb 1
        have kl : b5 < V.heap.size := (Array.getElem?_eq_some_iff.1 hPb).1
        have KC : Hid (Calls Tryz.prog 6 #[.agg #[.slice x1 (es.map (·.f)).length y1, .slice x2 ds.length y2]] V fun e w' => e = .returned (.int .i64 (M.checkPart ⟨es.map (·.f), ds⟩)) ∧ Below V.heap.size V w') := rcheck_any _ _ _ _ _ _ V hF hDf
        have HP : Hid (PM V w.heap.size b5 es ds (.slice x1 (es.map (·.f)).length y1) (.slice x2 ds.length y2)) := hP
        have HO2 : Hid (O = M.fin ⟨es.map (·.f), ds⟩) := by rw [Hid, HO1.out, hp]
        clear hP hF hDf hPb HO1 hp
        have HFn : Hid (M.fin ⟨es.map (·.f), ds⟩ = if M.checkPart ⟨es.map (·.f), ds⟩ = 0 then (⟨es.map (·.f), ds⟩, 0, 0) else (M.nil, 0, M.checkPart ⟨es.map (·.f), ds⟩)) := rfl
        have HS1b : Hid (RdS w b2 b5 g6 ls p i V) := HS1
        generalize M.checkPart ⟨es.map (·.f), ds⟩ = ck at *
        generalize hnf : (es.map (·.f)).length = nf at *
        have HNf : Hid ((es.map (·.f)).length = nf) := hnf
        clear hnf
        by_cases hck : ck = 0
        · subst hck
          go_upto_region 65 with (go_at_call 6; refine KC.out.mono ?_; rintro e V2 ⟨rfl, hbV⟩)
          have HS2 : Hid _ := HS1b.out.later hbV
          have hP2 := HP.out.later hbV
          have m0 : V2.cell? ⟨b5, 0, none⟩ = some (.slice x1 nf y1) := cellB hP2.blk 0
          have m1 : V2.cell? ⟨b5, 1, none⟩ = some (.slice x2 ds.length y2) := cellB hP2.blk 1
          have ml : b5 < V2.heap.size := (Array.getElem?_eq_some_iff.1 hP2.blk).1
          have n0 : V2.cell? ⟨b2, 0, none⟩ = some (.slice none 0 0) := cellB HS2.out.c2 0
          have n1 : V2.cell? ⟨b2, 1, none⟩ = some (.slice none 0 0) := cellB HS2.out.c2 1
          have nz : ∀ j, V2.frozen? ⟨b2, j, none⟩ = false := frozenB HS2.out.c2
          have nl : b2 < V2.heap.size := (Array.getElem?_eq_some_iff.1 HS2.out.c2).1
          have qq : (V2.setCell ⟨b2, 0, none⟩ (.slice x1 nf y1)).heap[b2]? = some (.cells #[.slice x1 nf y1, .slice none 0 0] 25 (0, 0)) := setB' HS2.out.c2 _
          have HP3 : Hid (PM ((V2.setCell ⟨b2, 0, none⟩ (.slice x1 nf y1)).setCell ⟨b2, 1, none⟩ (.slice x2 ds.length y2)) w.heap.size b5 es ds (.slice x1 nf y1) (.slice x2 ds.length y2)) := (hP2.setO HS2.out.c2 (Ne.symm hb25)).setO qq (Ne.symm hb25)
          have HBe : Hid (Below w.heap.size w ((V2.setCell ⟨b2, 0, none⟩ (.slice x1 nf y1)).setCell ⟨b2, 1, none⟩ (.slice x2 ds.length y2))) := (HS2.out.bel.setCell HB2.out.1 _).setCell HB2.out.1 _
          clear qq hP2 KC HS1 HS1b HP hbV k0 k1 kl
          go_wp2_with fail
          refine bodyPost_ret (v := .tuple #[.agg #[.slice x1 nf y1, .slice x2 ds.length y2], .int .i64 0, .int .i64 0]) (by simp [results, Tryz.results10, go_sem, n0, n1]) rfl ?_
          rw [HO2.out, HFn.out, if_pos (by trivial)]
          have hnf := HNf.out
          subst hnf
          exact ⟨HBe.out, x1, y1, x2, y2, rfl, HP3.out.fragsAt, HP3.out.defsAt⟩
        · have hk1 : (ck == 0) = false := by rw [beq_eq_false_iff_ne]; exact hck
          have hk2 : (ck != 0) = true := by rw [bne, hk1]; rfl
          have HCk : Hid (¬ ck = 0) := hck
          clear hck
          go_upto_region 64 with (go_at_call 6; refine KC.out.mono ?_; rintro e V2 ⟨rfl, hbV⟩)
          have HS2 : Hid _ := HS1b.out.later hbV
          have n0 : V2.cell? ⟨b2, 0, none⟩ = some (.slice none 0 0) := cellB HS2.out.c2 0
          have n1 : V2.cell? ⟨b2, 1, none⟩ = some (.slice none 0 0) := cellB HS2.out.c2 1
          have nz : ∀ j, V2.frozen? ⟨b2, j, none⟩ = false := frozenB HS2.out.c2
          have nl : b2 < V2.heap.size := (Array.getElem?_eq_some_iff.1 HS2.out.c2).1
          clear KC HS1 HS1b HP hbV k0 k1 kl
          go_wp2_with fail
          refine bodyPost_ret (v := .tuple #[.agg #[.slice none 0 0, .slice none 0 0], .int .i64 0, .int .i64 ck]) (by simp [results, Tryz.results10, go_sem, n0, n1]) rfl ?_
          rw [HO2.out, HFn.out, if_neg HCk.out]
          refine reads_nil (k := 0) ?_
          first | exact HS2.out.bel | exact (HS2.out.bel.setCell HB2.out.1 _).setCell HB2.out.1 _
    · have hq : ((i : Int) == (L.length : Int) - 1) = false := by rw [beq_eq_false_iff_ne]; omega
      have HD1 : Hid (O = rdGo i (L.drop (i + 1)) (M.addLine p ln)) := by
        rw [Hid, HOr.out, HD.out]
        cases hdr : L.drop (i + 1) with
        | nil => exfalso; have := congrArg List.length hdr; simp at this; omega
        | cons y r => rw [M.readL]; cases M.addLine p ln <;> rfl
      clear HOr HD
      go_upto_region 10 with fail
      have hA := (Below.refl wr.heap.size wr).alloc (Nat.le_refl _) (.cells #[.int .i64 i] 3)
      have q7 := heap_alloc_new wr (.cells #[.int .i64 i] 3)
      have HS1 : Hid (RdS w b2 b5 g6 ls p i (wr.alloc (.cells #[.int .i64 i] 3))) := HSr.out.later hA
      clear hA HSr hc6 hl6
      generalize wr.heap.size = b7 at *
      generalize wr.alloc (.cells #[.int .i64 i] 3) = V at *
      obtain ⟨N, HNp⟩ : ∃ N, Hid (M.pieces 32 ln = N) := ⟨_, rfl⟩
      have KS2 : Hid (Calls Tryz.prog 33 #[.string (M.str ln), .string ⟨#[32]⟩] V fun e w' => e = .returned (.slice (some ⟨V.heap.size, 0, none⟩) N.length N.length) ∧ w' = V.alloc (.cells ((N.map M.str).map Value.string).toArray 9)) := by
        have := rsplit_any 32 (M.str ln) V (hG.later HS1.out.bel) (by rw [str_size]; have := HT.out; omega)
        rwa [txt_str, HNp.out] at this
      by_cases h5 : N.length = 5
      · obtain ⟨w0, w1, w2, w3, w4, rfl⟩ : ∃ w0 w1 w2 w3 w4, N = [w0, w1, w2, w3, w4] := by
          match N, h5 with
          | [a, b, c, d, e], _ => exact ⟨a, b, c, d, e, rfl⟩
        have KS3 : Hid (Calls Tryz.prog 33 #[.string (M.str ln), .string ⟨#[32]⟩] V fun e w' => e = .returned (.slice (some ⟨V.heap.size, 0, none⟩) 5 5) ∧ w' = V.alloc (.cells #[.string (M.str w0), .string (M.str w1), .string (M.str w2), .string (M.str w3), .string (M.str w4)] 9)) := KS2.out
        have hA2 := (Below.refl V.heap.size V).alloc (Nat.le_refl _) (.cells #[.string (M.str w0), .string (M.str w1), .string (M.str w2), .string (M.str w3), .string (M.str w4)] 9)
        have HL : Hid (LnS w b2 b5 g6 ls p i V.heap.size b7 #[.string (M.str w0), .string (M.str w1), .string (M.str w2), .string (M.str w3), .string (M.str w4)] (V.alloc (.cells #[.string (M.str w0), .string (M.str w1), .string (M.str w2), .string (M.str w3), .string (M.str w4)] 9))) := ⟨HS1.out.later hA2, heap_alloc_new _ _, (hA2.block _ (Array.getElem?_eq_some_iff.1 q7).1).trans q7⟩
        clear KS2 h5 hA2 q7 HS1
        go_upto_region 11 with (go_at_call 33; refine Calls.mono KS3.out ?_; rintro e W1 ⟨rfl, rfl⟩)
        clear KS3
        generalize V.heap.size = gw at *
        generalize V.alloc (.cells #[.string (M.str w0), .string (M.str w1), .string (M.str w2), .string (M.str w3), .string (M.str w4)] 9) = W1 at *
        have KC : Hid (Calls Tryz.prog 35 #[.slice (some ⟨gw, 0, none⟩) 5 5, .string ⟨#[]⟩] W1 fun e w' => e = .returned (.bool (decide (w0 = [] ∨ w1 = [] ∨ w2 = [] ∨ w3 = [] ∨ w4 = []))) ∧ W1 = w') := rcont_any w0 w1 w2 w3 w4 gw W1 HL.out.cw
        by_cases hE : w0 = [] ∨ w1 = [] ∨ w2 = [] ∨ w3 = [] ∨ w4 = []
        · have HO1 : Hid (O = (M.nil, i, 1)) := by
            rw [Hid, HD1.out, M.addLine, HNp.out, M.five, if_pos hE]; rfl
          rw [decide_eq_true hE] at KC
          have KB : Hid (∀ W, Below W1.heap.size W1 W → Calls Tryz.prog 34 #[.pointer (some ⟨b7, 0, none⟩)] W fun e V => e = .returned (.tuple #[.agg #[.slice none 0 0, .slice none 0 0], .int .i64 i, .int .i64 1]) ∧ V.cell? ⟨b2, 0, none⟩ = some (.slice none 0 0) ∧ V.cell? ⟨b2, 1, none⟩ = some (.slice none 0 0) ∧ (∀ j, V.frozen? ⟨b2, j, none⟩ = false) ∧ b2 < V.heap.size ∧ Hid (BadS w b2 V) ∧ Hid (BadS w b2 ((V.setCell ⟨b2, 0, none⟩ (.slice none 0 0)).setCell ⟨b2, 1, none⟩ (.slice none 0 0)))) := rd_bad HL.out HB2.out.1
          clear HD1 HNp hE HL
          go_upto_region 12 with (go_at_call 35; refine KC.out.mono ?_; rintro e W2 ⟨rfl, rfl⟩)
          go_wp2_with (go_at_call 34; refine (KB.out _ (Below.refl _ _)).mono ?_; rintro e VB ⟨rfl, kb0, kb1, kbz, kbl, HB1, HB2'⟩)
          refine bodyPost_ret (v := .tuple #[.agg #[.slice none 0 0, .slice none 0 0], .int .i64 i, .int .i64 1]) (by simp [results, Tryz.results10, go_sem, kb0, kb1]) rfl ?_
          rw [HO1.out]
          refine reads_nil (k := i) ?_
          first | exact HB1.out.1 | exact HB2'.out.1
        · have HNe : Hid (w1 ≠ [] ∧ w2 ≠ [] ∧ w3 ≠ [] ∧ w4 ≠ []) := by
            simp only [not_or] at hE
            exact hE.2
          obtain ⟨O5, HO5⟩ : ∃ O5, Hid (O5 = M.addWords p w0 w1 w2 w3 w4) := ⟨_, rfl⟩
          have HO1 : Hid (O = rdGo i (L.drop (i + 1)) O5) := by
            rw [Hid, HD1.out, M.addLine, HNp.out, M.five, if_neg hE]
            exact congrArg _ HO5.out.symm
          have HLe5 : Hid (w1.length ≤ 20000 ∧ w2.length ≤ 20000 ∧ w3.length ≤ 20000 ∧ w4.length ≤ 20000) := by
            have hp := piece_le 32 ln
            rw [HNp.out] at hp
            have h := HT.out
            have a := hp w1 (by simp)
            have b := hp w2 (by simp)
            have c := hp w3 (by simp)
            have d := hp w4 (by simp)
            rw [Hid]; omega
          rw [decide_eq_false hE] at KC
          have hi1 : i ≤ 20001 := by omega
          have z0 : W1.cell? ⟨gw, 0, none⟩ = some (.string (M.str w0)) := cellB HL.out.cw 0
          have lw : gw < W1.heap.size := (Array.getElem?_eq_some_iff.1 HL.out.cw).1
          clear HD1 HNp hE
          go_upto_block 2 with (go_at_call 35; refine KC.out.mono ?_; rintro e W2 ⟨rfl, rfl⟩)
          clear KC z0 lw
          refine rd_switch w _ b2 b5 g6 i gw b7 ls _ p w0 w1 w2 w3 w4 hG hBk HL rfl rfl rfl rfl hb25 HB2.out.1 HLe5 HNe hi1 O5 HO5 ?_ ?_
          · intro zv11 zv12 zv13 zv14 zv15 zv16 zv17 zv18 zv19 zv20 zv21 zv22 zv23 zv24 zv25 zv26 zv27 zv28 zv29 zv30 zv31 zv32 zv33 zv34 zv75 zv76 zv77 zv78 zv79 zv80 zv81 zv82 zv83 zv84 zv85 zv86 zv87 zv88 zv89 zv90 zv91 zv92 zv93 zv94 zv95 zv96 zv97 zv98 zv99 zv100 zv101 zv102 zv103 zv104 zv105 zv106 zv107 zv108 zv109 zv110 zv111 zv112 zv113 zv114 zv115 zv116 zv117 zv118 zv119 zv120 zv121 zv122 zv123 zv124 zv125 zv126 zv127 zv128 zv129 zv130 zv131 zv132 zv133 zv134 zv135 zv136 zv137 zv138 zv139 zv140 zv141 zv142 zv143 zv144 zv145 zv146 zv147 zv148 zv149 zv150 zv151 zv152 zv153 zv154 zv155 zv156 zv157 zv158 zv159 zv160 zv161 zv162 zv163 zv164 zv165 zv166 zv167 zv168 zv169 zv170 zv171 zv172 zv173 zv174 zv175 zv176 zv177 zv178 zv179 zv180 zv181 zv182 zv183 zv184 zv185 zv186 zv187 zv188 zv189 zv190 zv191 zv192 zv193 zv194 zv195 zv196 zv197 zv198 zv199 zv200 zv201 zv202 zv203 zv204 zv205 zv206 zv207 zv208 zv209 zv210 zv211 zv212 zv213 zv214 zv215 zv216 zv217 zv218 zv219 zv220 zv221 zv222 zv223 zv224 zv225 zv226 zv227 zv228 zv229 zv230 zv231 zv232 zv233 zv234 zv235 zv236 zv237 zv238 zv239 zv240 zv241 zv242 zv243 zv244 zv245 zv246 zv247 zv248 zv249 zv250 zv251 zv252 zv253 zv254 zv255 zv256 zv257 zv258 zv259 zv260 zv261 zv262 zv263 zv264 zv265 zv266 zv267 zv268 zv269 zv270 zv271 zv272 zv273 zv274 zv275 zv276 zv277 zv278 zv279 zv280 zv281 zv282 zv283 zv284 zv285 zv286 zv287 zv288 zv289 zv290 zv291 zv292 zv293 zv294 zv295 zv296 zv297 zv298 zv299 zv300 zv301 zv302 zv303 zv304 zv305 zv306 zv307 zv308 zv309 zv310 zv311 zv312 zv313 zv314 zv315 zv316 zv317 zv318 zv319 zv320 zv321 zv322 zv323 zv324 zv325 zv326 zv327 zv328 zv329 zv330 zv331 zv332 zv333 zv334 zv335 zv336 zv337 zv338 zv339 zv340 zv341 zv342 zv343 X hX
            obtain ⟨HN, hB⟩ := hX
            have HO2 : Hid (O = (M.nil, i, 1)) := by rw [Hid, HO1.out, HN.out]; rfl
            have kb0 : X.cell? ⟨b2, 0, none⟩ = some (.slice none 0 0) := cellB hB.2 0
            have kb1 : X.cell? ⟨b2, 1, none⟩ = some (.slice none 0 0) := cellB hB.2 1
            have kbl : b2 < X.heap.size := (Array.getElem?_eq_some_iff.1 hB.2).1
            have HBe : Hid (Below w.heap.size w X) := hB.1
            clear HO1 HO5 HL hB HN
            (try go_wp2_with fail)
            refine bodyPost_ret (v := .tuple #[.agg #[.slice none 0 0, .slice none 0 0], .int .i64 i, .int .i64 1]) (by simp [results, Tryz.results10, go_sem, kb0, kb1]) rfl ?_
            rw [HO2.out]
            exact reads_nil (k := i) HBe.out
          · intro zv11 zv12 zv13 zv14 zv15 zv16 zv17 zv18 zv19 zv20 zv21 zv22 zv23 zv24 zv25 zv26 zv27 zv28 zv29 zv30 zv31 zv32 zv33 zv34 zv75 zv76 zv77 zv78 zv79 zv80 zv81 zv82 zv83 zv84 zv85 zv86 zv87 zv88 zv89 zv90 zv91 zv92 zv93 zv94 zv95 zv96 zv97 zv98 zv99 zv100 zv101 zv102 zv103 zv104 zv105 zv106 zv107 zv108 zv109 zv110 zv111 zv112 zv113 zv114 zv115 zv116 zv117 zv118 zv119 zv120 zv121 zv122 zv123 zv124 zv125 zv126 zv127 zv128 zv129 zv130 zv131 zv132 zv133 zv134 zv135 zv136 zv137 zv138 zv139 zv140 zv141 zv142 zv143 zv144 zv145 zv146 zv147 zv148 zv149 zv150 zv151 zv152 zv153 zv154 zv155 zv156 zv157 zv158 zv159 zv160 zv161 zv162 zv163 zv164 zv165 zv166 zv167 zv168 zv169 zv170 zv171 zv172 zv173 zv174 zv175 zv176 zv177 zv178 zv179 zv180 zv181 zv182 zv183 zv184 zv185 zv186 zv187 zv188 zv189 zv190 zv191 zv192 zv193 zv194 zv195 zv196 zv197 zv198 zv199 zv200 zv201 zv202 zv203 zv204 zv205 zv206 zv207 zv208 zv209 zv210 zv211 zv212 zv213 zv214 zv215 zv216 zv217 zv218 zv219 zv220 zv221 zv222 zv223 zv224 zv225 zv226 zv227 zv228 zv229 zv230 zv231 zv232 zv233 zv234 zv235 zv236 zv237 zv238 zv239 zv240 zv241 zv242 zv243 zv244 zv245 zv246 zv247 zv248 zv249 zv250 zv251 zv252 zv253 zv254 zv255 zv256 zv257 zv258 zv259 zv260 zv261 zv262 zv263 zv264 zv265 zv266 zv267 zv268 zv269 zv270 zv271 zv272 zv273 zv274 zv275 zv276 zv277 zv278 zv279 zv280 zv281 zv282 zv283 zv284 zv285 zv286 zv287 zv288 zv289 zv290 zv291 zv292 zv293 zv294 zv295 zv296 zv297 zv298 zv299 zv300 zv301 zv302 zv303 zv304 zv305 zv306 zv307 zv308 zv309 zv310 zv311 zv312 zv313 zv314 zv315 zv316 zv317 zv318 zv319 zv320 zv321 zv322 zv323 zv324 zv325 zv326 zv327 zv328 zv329 zv330 zv331 zv332 zv333 zv334 zv335 zv336 zv337 zv338 zv339 zv340 zv341 zv342 zv343 X hX
            obtain ⟨q, HN, hB⟩ := hX
            have HO2 : Hid (O = M.readL (i + 1) q (L.drop (i + 1))) := by rw [Hid, HO1.out, HN.out]; rfl
            have HSn : Hid (RdS w b2 b5 g6 ls q (i + 1) X) := hB
            clear HO1 HO5 HL hB HN
            go_wp2_with fail
            go_roundw
            case rel => exact ⟨i + 1, q, by omega, by go_num, HSn, HO2⟩
            case measure => simp [intOf]; omega
      · have HO1 : Hid (O = (M.nil, i, 1)) := by
          rw [Hid, HD1.out, M.addLine, HNp.out]
          have : M.five N = none := by
            match N, h5 with
            | [], _ | [_], _ | [_, _], _ | [_, _, _], _ | [_, _, _, _], _ => rfl
            | [_, _, _, _, _], h => exact absurd rfl h
            | _ :: _ :: _ :: _ :: _ :: _ :: _, _ => rfl
          rw [this]; rfl
        have hn5 : ((N.length : Int) == 5) = false := by rw [beq_eq_false_iff_ne]; omega
        have hn6 : ((N.length : Int) != 5) = true := by rw [bne, hn5]; rfl
        obtain ⟨ws, hws⟩ : ∃ ws : Array Value, ws = ((N.map M.str).map Value.string).toArray := ⟨_, rfl⟩
        rw [← hws] at KS2
        generalize N.length = n at *
        have hA2 := (Below.refl V.heap.size V).alloc (Nat.le_refl _) (.cells ws 9)
        have HL : Hid (LnS w b2 b5 g6 ls p i V.heap.size b7 ws (V.alloc (.cells ws 9))) := ⟨HS1.out.later hA2, heap_alloc_new _ _, (hA2.block _ (Array.getElem?_eq_some_iff.1 q7).1).trans q7⟩
        clear hA2 q7 HS1 hws h5 HD1
        go_upto_region 11 with (go_at_call 33; refine Calls.mono KS2.out ?_; rintro e W1 ⟨rfl, rfl⟩)
        clear KS2
        generalize V.heap.size = gw at *
        generalize V.alloc (.cells ws 9) = W1 at *
        have KB : Hid (∀ W, Below W1.heap.size W1 W → Calls Tryz.prog 34 #[.pointer (some ⟨b7, 0, none⟩)] W fun e V => e = .returned (.tuple #[.agg #[.slice none 0 0, .slice none 0 0], .int .i64 i, .int .i64 1]) ∧ V.cell? ⟨b2, 0, none⟩ = some (.slice none 0 0) ∧ V.cell? ⟨b2, 1, none⟩ = some (.slice none 0 0) ∧ (∀ j, V.frozen? ⟨b2, j, none⟩ = false) ∧ b2 < V.heap.size ∧ Hid (BadS w b2 V) ∧ Hid (BadS w b2 ((V.setCell ⟨b2, 0, none⟩ (.slice none 0 0)).setCell ⟨b2, 1, none⟩ (.slice none 0 0)))) := rd_bad HL.out HB2.out.1
        clear HNp HL
        go_wp2_with (go_at_call 34; refine (KB.out _ (Below.refl _ _)).mono ?_; rintro e VB ⟨rfl, kb0, kb1, kbz, kbl, HB1, HB2'⟩)
        refine bodyPost_ret (v := .tuple #[.agg #[.slice none 0 0, .slice none 0 0], .int .i64 i, .int .i64 1]) (by simp [results, Tryz.results10, go_sem, kb0, kb1]) rfl ?_
        rw [HO1.out]
        refine reads_nil (k := i) ?_
        first | exact HB1.out.1 | exact HB2'.out.1

end Go.Proofs.YthiknlnhdjoipaaGreatDoor
