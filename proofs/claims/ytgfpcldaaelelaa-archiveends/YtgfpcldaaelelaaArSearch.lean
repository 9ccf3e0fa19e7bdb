/-
  The contract of archive.search.
-/
import Derived.Test.YtgfpcldaaelelaaArTake
import Derived.Deep.LoopGhost
import Derived.Deep.DeepCutAuto
namespace Go.Proofs.Ytgfpcldaaelelaa
open Go Go.RowKit
set_option linter.unusedVariables false

/-- what search has in memory -/
structure SI (w0 W : World) (n6 n8 n9 b N0 e0 : Nat) (s : M.Ars) (es : List PEnt) (vO : Value) : Prop where
  ch : ∃ N, N ≤ N0 + 540 * M.cnt s.tk ∧ Ch w0 W n8 n9 b N s.st es vO
  out : es.map (·.p) = s.out
  len : es.length ≤ e0 + M.cnt s.tk
  q6 : W.heap[n6]? = some (.cells (s.tk.map Value.bool).toArray 92 (0, 0))
  tl : s.tk.length = 8

theorem SI.later {w0 W X : World} {n6 n8 n9 b N0 e0 : Nat} {s : M.Ars} {es : List PEnt} {vO : Value} (h : SI w0 W n6 n8 n9 b N0 e0 s es vO) (hb : Below W.heap.size W X) : SI w0 X n6 n8 n9 b N0 e0 s es vO :=
  let ⟨N, h1, h2⟩ := h.ch
  ⟨⟨N, h1, h2.later hb⟩, h.out, h.len, (hb.block _ (Array.getElem?_eq_some_iff.1 h.q6).1).trans h.q6, h.tl⟩

/-- a part in a slice: its two slices -/
theorem part_at {w : World} {a : Option Addr} {c : Nat} {ps : List M.Prt} (h : PartsAt w (.slice a ps.length c) ps) (j : Nat) (hj : j < ps.length) :
    ∃ b off a1 a2 c1 c2, a = some ⟨b, off, none⟩ ∧ w.cell? ⟨b, off + j * 2, none⟩ = some (.slice a1 (ps.getD j M.nil).frags.length c1) ∧ w.cell? ⟨b, off + j * 2 + 1, none⟩ = some (.slice a2 (ps.getD j M.nil).defs.length c2)
      ∧ FragsAt w (.slice a1 (ps.getD j M.nil).frags.length c1) (ps.getD j M.nil).frags ∧ DefsAt w (.slice a2 (ps.getD j M.nil).defs.length c2) (ps.getD j M.nil).defs := by
  obtain ⟨cell, h1, h2⟩ := h
  obtain ⟨b, off, e, hc⟩ := h1.at j hj
  obtain ⟨hf, hd⟩ := h2 j hj
  have c0 := hc 0 (by decide)
  have c1 := hc 1 (by decide)
  have hf' := hf
  obtain ⟨cf, hs, _⟩ := hf'
  obtain ⟨a1, k1, e1, _⟩ := hs.form
  obtain ⟨a2, k2, e2, _⟩ := hd.1.form
  rw [e1] at hf c0
  rw [e2] at hd c1
  exact ⟨b, off, a1, a2, k1, k2, e, c0, c1, hf, hd⟩

/-- a cell of a block of another kind is stored -/
theorem Ch.setB {w0 W : World} {n8 n9 b N g i : Nat} {st : M.St} {es : List PEnt} {vO u : Value} {cs : Array Value} (h : Ch w0 W n8 n9 b N st es vO) (hg : W.heap[g]? = some (.cells cs 92 (0, 0))) (hgw : w0.heap.size ≤ g) : Ch w0 (W.setCell ⟨g, i, none⟩ u) n8 n9 b N st es vO := by
  have n8g : n8 ≠ g := fun e => by have := h.q8; rw [e, hg] at this; cases this
  have n9g : n9 ≠ g := fun e => by have := h.q9; rw [e, hg] at this; cases this
  have hst : StAt (W.setCell ⟨g, i, none⟩ u) b N st := h.st.kept (grown_set W g i u) (fun e => by
    cases e
    obtain ⟨_, _, _, ⟨es', clock, hm, _⟩, _⟩ := h.st
    rw [hm] at hg
    cases hg)
  refine ⟨h.below.setCell hgw _, (Below.heap_setCell _ _ _ _ n8g).trans h.q8, (Below.heap_setCell _ _ _ _ n9g).trans h.q9, h.g8, h.gb, hst, row_setc h.row hg (by decide), fun e he => ?_⟩
  obtain ⟨en, h1, h2⟩ := h.parts e he
  exact ⟨en, ⟨row_setc h1.rowF hg (by decide), row_setc h1.rowD hg (by decide), fun e he => row_setc (h1.bytes e he) hg (by decide), h1.small, h1.smallD, fun e he => row_setc (h1.rels e he) hg (by decide)⟩, h2⟩

/-- what search leaves -/
def SrOut (w0 w w' : World) (n8 n9 b N e0 : Nat) (s : M.Ars) : Prop := ∃ es vO', Ch w0 w' n8 n9 b N s.st es vO' ∧ es.map (·.p) = s.out ∧ es.length ≤ e0 + 8 ∧ Ag w w'

theorem nil_nilP : M.nil = M.nilP := rfl

set_option maxHeartbeats 8000000 in
set_option maxRecDepth 100000 in
theorem search_any (parts : List M.Prt) (aP : Option Addr) (cP n8 n9 b N0 : Nat) (st : M.St) (es0 : List PEnt) (vO : Value) (w0 w : World) (hP : PartsAt w0 (.slice aP parts.length cP) parts) (h8 : parts.length ≤ 8) (hck : ∀ p ∈ parts, M.checkPart p = 0)
    (hC : Ch w0 w n8 n9 b N0 st es0 vO) (hN : N0 + 10000 ≤ 1000000000) (hes : es0.length ≤ 900) :
    Calls Try.prog 30 #[.slice aP parts.length cP, .func (.func 27) #[] #[.pointer (some ⟨n8, 0, none⟩), .pointer (some ⟨n9, 0, none⟩)], .func (.func 31) #[] #[.pointer (some ⟨n9, 0, none⟩)]] w fun e w' => e = .returned (.tuple #[]) ∧ SrOut w0 w w' n8 n9 b (N0 + 4320) es0.length (M.search parts st (es0.map (·.p))) := by
  have hA : Below w.heap.size w (w.alloc (.cells #[.bool false, .bool false, .bool false, .bool false, .bool false, .bool false, .bool false, .bool false] 92)) := (Below.refl _ _).alloc (Nat.le_refl _) _
  have HI0 : Hid (SI w0 (w.alloc (.cells #[.bool false, .bool false, .bool false, .bool false, .bool false, .bool false, .bool false, .bool false] 92)) w.heap.size n8 n9 b N0 es0.length ⟨st, es0.map (·.p), M.none8⟩ es0 vO) :=
    ⟨⟨N0, by omega, hC.later hA⟩, rfl, by omega, heap_alloc_new w _, rfl⟩
  have HA0 : Hid (Ag w (w.alloc (.cells #[.bool false, .bool false, .bool false, .bool false, .bool false, .bool false, .bool false, .bool false] 92))) := Ag.below hA
  have HR : Hid (M.rounds parts 9 ⟨st, es0.map (·.p), M.none8⟩ = M.search parts st (es0.map (·.p))) := rfl
  generalize M.search parts st (es0.map (·.p)) = R at *
  have HPa : Hid (PartsAt w0 (.slice aP parts.length cP) parts) := hP
  have HCk : Hid (∀ p ∈ parts, M.checkPart p = 0) := hck
  have hsz0 : w0.heap.size ≤ w.heap.size := hC.below.size
  clear hP hck hC hA
  go_enter Try.func30, Try.ntmps30
  go_wp2_with fail
  generalize w.alloc (.cells #[.bool false, .bool false, .bool false, .bool false, .bool false, .bool false, .bool false, .bool false] 92) = X at *
  generalize hn6 : w.heap.size = n6 at *
  go_loopg [7] 10 (fun g s7 wr => ∃ (ag : Bool) (s : M.Ars) (es : List PEnt) (v : Value), s7 = .bool ag ∧ Hid (SI w0 wr n6 n8 n9 b N0 es0.length s es v) ∧ Hid (Ag w wr) ∧ ((ag = true ∧ ∃ f, g = f + 1 ∧ Hid (M.rounds parts f s = R) ∧ 8 < f + M.cnt s.tk) ∨ (ag = false ∧ g = 0 ∧ Hid (s = R))))
  case atStart => exact ⟨true, _, es0, vO, rfl, HI0, HA0, .inl ⟨rfl, 9, rfl, HR, by show 8 < 9 + _; omega⟩⟩
  case round =>
    obtain ⟨ag, s, es, v, rfl, HI, HG, hcase⟩ := hrel
    clear HI0 HA0 HR
    cases ag
    · rcases hcase with ⟨h, _⟩ | ⟨_, hg0, HsR⟩
      · cases h
      have hsR := HsR.out
      subst hsR
      have HF : Hid (∃ es' vO', Ch w0 wr n8 n9 b (N0 + 4320) s.st es' vO' ∧ es'.map (·.p) = s.out ∧ es'.length ≤ es0.length + 8) := by
        obtain ⟨N, h1, h2⟩ := HI.out.ch
        have hc := M.cnt_le s.tk
        rw [HI.out.tl] at hc
        refine ⟨es, v, ⟨h2.below, h2.q8, h2.q9, h2.g8, h2.gb, h2.st.mono (by omega), h2.row, h2.parts⟩, HI.out.out, ?_⟩
        have := HI.out.len
        omega
      clear HI HsR
      go_wp2_with fail
      obtain ⟨es', vO', k1, k2, k3⟩ := HF.out
      refine bodyPost_end (v := .tuple #[]) (by simp [results, Try.results30, go_sem]) rfl ?_
      exact ⟨rfl, ⟨es', vO', k1, k2, k3, HG.out⟩⟩
    · obtain ⟨f, hgf, HRf, hf8⟩ : ∃ f, gk = f + 1 ∧ Hid (M.rounds parts f s = R) ∧ 8 < f + M.cnt s.tk := by
        rcases hcase with ⟨_, f, h1, h2, h3⟩ | ⟨h, _⟩
        · exact ⟨f, h1, h2, h3⟩
        · cases h
      clear hcase
      have hcn := M.cnt_le s.tk
      have HTl : Hid (s.tk.length = 8) := HI.out.tl
      rw [HI.out.tl] at hcn
      obtain ⟨f', hf'⟩ : ∃ f', f = f' + 1 := ⟨f - 1, by omega⟩
      obtain ⟨Wo, hWo⟩ : ∃ Wo, Wo = wr := ⟨_, rfl⟩
      subst hWo
      go_wp2_with fail
      go_loopw [7, 13] (fun s7 s13 wr => ∃ (i : Nat) (es : List PEnt) (v : Value), i ≤ parts.length ∧ s13 = .int .i64 i ∧ s7 = .bool (M.roundN parts s i).2 ∧ Hid (SI w0 wr n6 n8 n9 b N0 es0.length (M.roundN parts s i).1 es v) ∧ Hid (Ag w wr)) (fun _ s13 _ => parts.length - (intOf s13).toNat)
      case atStart => exact ⟨0, es, v, Nat.zero_le _, rfl, rfl, HI, HG⟩
      case round =>
        obtain ⟨i, es, v, hi, rfl, rfl, HJ, HGj⟩ := hrel
        clear HI HG
        by_cases hlt : i < parts.length
        · have HSt : Hid (M.roundN parts s (i + 1) = M.step parts (M.roundN parts s i) i) := rfl
          generalize M.roundN parts s i = T at *
          obtain ⟨t, ag⟩ := T
          simp only at HJ
          obtain ⟨N, hNb, hCh⟩ := HJ.out.ch
          obtain ⟨bp, off, a1, a2, c1, c2, hae, e0, e1, hf, hd⟩ := part_at HPa.out i hlt
          subst hae
          have hckp := HCk.out _ (getD_mem parts M.nil i hlt)
          have e0' := cell_later hCh.below e0
          have e1' := cell_later hCh.below e1
          have HFD : Hid (∀ W, Below w0.heap.size w0 W → FragsAt W (.slice a1 (parts.getD i M.nil).frags.length c1) (parts.getD i M.nil).frags ∧ DefsAt W (.slice a2 (parts.getD i M.nil).defs.length c2) (parts.getD i M.nil).defs) := fun W hW => ⟨hf.later hW, hd.later hW⟩
          have hfl : wr.cell? ⟨n6, i, none⟩ = some (.bool (t.tk.getD i false)) := by
            rw [cellB HJ.out.q6, List.getElem?_toArray, List.getElem?_map, getElem?_getD t.tk false i (by rw [HJ.out.tl]; omega)]
            rfl
          have hl6 : n6 < wr.heap.size := (Array.getElem?_eq_some_iff.1 HJ.out.q6).1
          have hbp : bp < wr.heap.size := World.block_lt_of_cell? _ _ e0'
          have hi8 : (i : Int) < 8 := by omega
          have hkl : (i : Int) < (parts.length : Int) := by omega
          have HSt2 : Hid (M.roundN parts s (i + 1) = if t.tk.getD i false = false ∧ M.partHelps t.st (parts.getD i M.nil) = true then ({ M.take t (parts.getD i M.nil) with tk := t.tk.set i true }, true) else (t, ag)) := HSt.out
          clear HSt hf hd e0 e1
          generalize parts.getD i M.nil = p at *
          have hAl : Below wr.heap.size wr (wr.alloc (.cells #[.slice a1 p.frags.length c1, .slice a2 p.defs.length c2] 25)) := (Below.refl _ _).alloc (Nat.le_refl _) _
          have HGl : Hid (Ag w (wr.alloc (.cells #[.slice a1 p.frags.length c1, .slice a2 p.defs.length c2] 25))) := HGj.out.trans (Ag.below hAl)
          have HJl : Hid (SI w0 (wr.alloc (.cells #[.slice a1 p.frags.length c1, .slice a2 p.defs.length c2] 25)) n6 n8 n9 b N0 es0.length t es v) := HJ.out.later hAl
          cases hfv : t.tk.getD i false
          · rw [hfv] at hfl HSt2
            have hq9 : (wr.alloc (.cells #[.slice a1 p.frags.length c1, .slice a2 p.defs.length c2] 25)).cell? ⟨n9, 0, none⟩ = some (.map (some b)) := cellB (hCh.later hAl).q9 0
            have KCn : Hid (Calls Try.prog 13 #[.slice a2 p.defs.length c2, .func (.func 31) #[] #[.pointer (some ⟨n9, 0, none⟩)]] (wr.alloc (.cells #[.slice a1 p.frags.length c1, .slice a2 p.defs.length c2] 25)) fun e w' => e = .returned (.bool (M.partHelps t.st p)) ∧ Below (wr.alloc (.cells #[.slice a1 p.frags.length c1, .slice a2 p.defs.length c2] 25)).heap.size (wr.alloc (.cells #[.slice a1 p.frags.length c1, .slice a2 p.defs.length c2] 25)) w') := containsHelps_any p.defs a2 c2 n9 b N t.st _ (HFD.out _ (hCh.later hAl).below).2 ⟨hq9, (hCh.later hAl).st⟩
            clear hq9
            generalize M.partHelps t.st p = hp at *
            cases hp
            · have HT : Hid (M.roundN parts s (i + 1) = (t, ag)) := by rw [Hid, HSt2.out, if_neg (by simp)]
              clear HSt2
              go_wp2_with (go_at_call 13; refine KCn.out.mono ?_; rintro e w3 ⟨rfl, hb3⟩)
              go_roundw
              case rel => exact ⟨i + 1, es, v, by omega, by go_num, by rw [HT.out], by rw [HT.out]; exact HJl.out.later hb3, HGl.out.trans (Ag.below hb3)⟩
              case measure => simp [intOf]; omega
            · have HT : Hid (M.roundN parts s (i + 1) = ({ M.take t p with tk := t.tk.set i true }, true)) := by rw [Hid, HSt2.out, if_pos ⟨rfl, rfl⟩]
              clear HSt2
              have hlen := HJ.out.len
              have hcc := M.cnt_le t.tk
              have htl := HJ.out.tl
              rw [htl] at hcc
              have KT : Hid (∀ W, Below (wr.alloc (.cells #[.slice a1 p.frags.length c1, .slice a2 p.defs.length c2] 25)).heap.size (wr.alloc (.cells #[.slice a1 p.frags.length c1, .slice a2 p.defs.length c2] 25)) W → Calls Try.prog 27 #[.agg #[.slice a1 p.frags.length c1, .slice a2 p.defs.length c2], .pointer (some ⟨n8, 0, none⟩), .pointer (some ⟨n9, 0, none⟩)] W fun e w' => e = .returned (.tuple #[]) ∧ ∃ vF vD vO', Ch w0 w' n8 n9 b (N + 540) (M.enter t.st p) (es ++ [⟨p, vF, vD⟩]) vO' ∧ Ag W w') := fun W hW => takeFn_any p a1 a2 c1 c2 n8 n9 b N t.st es v w0 W HFD.out hckp ((hCh.later hAl).later hW) (by omega) (by omega)
              go_wp2_with (first | (go_at_call 13; refine KCn.out.mono ?_; rintro e w3 ⟨rfl, hb3⟩; have k0 : w3.cell? ⟨wr.heap.size, 0, none⟩ = some (.slice a1 p.frags.length c1) := cell_later hb3 (cellB (heap_alloc_new wr _) 0); have k1 : w3.cell? ⟨wr.heap.size, 1, none⟩ = some (.slice a2 p.defs.length c2) := cell_later hb3 (cellB (heap_alloc_new wr _) 1)) | (go_at_call 27; refine (KT.out _ hb3).mono ?_; rintro e w4 ⟨rfl, vF, vD, vO', hC4, hA4⟩; have z6 := hA4 _ _ _ (HJl.out.later hb3).q6 (by decide) (by decide); have c6 : w4.cell? ⟨n6, i, none⟩ = some (.bool false) := (by rw [cellB z6, List.getElem?_toArray, List.getElem?_map, getElem?_getD t.tk false i (by rw [htl]; omega), hfv]; rfl); have f6 := frozenB z6 i))
              have HFin : Hid (SI w0 (w4.setCell ⟨n6, i, none⟩ (.bool true)) n6 n8 n9 b N0 es0.length { M.take t p with tk := t.tk.set i true } (es ++ [⟨p, vF, vD⟩]) vO') := by
                have hcs := M.cnt_set t.tk i (by rw [htl]; omega) hfv
                refine ⟨⟨N + 540, ?_, hC4.setB z6 (by omega)⟩, ?_, ?_, ?_, ?_⟩
                · show N + 540 ≤ N0 + 540 * M.cnt (t.tk.set i true)
                  rw [hcs]; omega
                · show _ = t.out ++ [p]
                  rw [List.map_append, HJ.out.out]; rfl
                · show _ ≤ es0.length + M.cnt (t.tk.set i true)
                  rw [hcs, List.length_append]
                  simp
                  omega
                · show _ = some (Obj.cells ((t.tk.set i true).map Value.bool).toArray 92 (0, 0))
                  rw [setB' z6, List.map_set]
                  simp
                · show (t.tk.set i true).length = 8
                  rw [List.length_set]; exact htl
              have HGf : Hid (Ag w (w4.setCell ⟨n6, i, none⟩ (.bool true))) := by
                intro k cs t hk h1 h2
                have hkn : k < w.heap.size := (Array.getElem?_eq_some_iff.1 hk).1
                rw [Below.heap_setCell _ _ _ _ (by show k ≠ n6; omega)]
                exact ((HGl.out.trans (Ag.below hb3)).trans hA4) k cs t hk h1 h2
              clear hC4 hA4 z6 c6 f6 hb3 k0 k1
              go_roundw
              case rel => exact ⟨i + 1, _, vO', by omega, by go_num, by rw [HT.out], by rw [HT.out]; exact HFin.out, HGf⟩
              case measure => simp [intOf]; omega
          · rw [hfv] at hfl HSt2
            have HT : Hid (M.roundN parts s (i + 1) = (t, ag)) := by rw [Hid, HSt2.out, if_neg (by simp)]
            clear HSt2
            go_wp2_with fail
            go_roundw
            case rel => exact ⟨i + 1, es, v, by omega, by go_num, by rw [HT.out], by rw [HT.out]; exact HJl.out, HGl⟩
            case measure => simp [intOf]; omega
        · obtain rfl : i = parts.length := by omega
          have HRd : Hid (M.roundN parts s parts.length = M.round parts s) := rfl
          have HRf' : Hid ((if (M.round parts s).2 then M.rounds parts f' (M.round parts s).1 else (M.round parts s).1) = R) := by have := HRf.out; rw [hf'] at this; exact this
          have HCn : Hid ((M.round parts s).2 = true → M.cnt s.tk + 1 ≤ M.cnt (M.round parts s).1.tk) := (M.roundN_cnt parts s parts.length (by rw [HTl.out]; exact h8)).2
          rw [HRd.out] at HJ ⊢
          clear HRf HRd
          generalize M.round parts s = T at *
          obtain ⟨t, ag⟩ := T
          simp only at HJ HRf' HCn
          cases ag
          · have HRe : Hid (t = R) := HRf'.out
            clear HRf' HCn
            go_wp2_with fail
            go_roundg 0
            case measure => omega
            case rel => exact ⟨false, t, es, v, rfl, HJ, HGj, .inr ⟨rfl, rfl, HRe⟩⟩
          · have HRe : Hid (M.rounds parts f' t = R) := HRf'.out
            have hcn' := HCn.out rfl
            clear HRf' HCn
            go_wp2_with fail
            go_roundg (f' + 1)
            case measure => omega
            case rel => exact ⟨true, t, es, v, rfl, HJ, HGj, .inl ⟨rfl, f', rfl, HRe, by omega⟩⟩

end Go.Proofs.Ytgfpcldaaelelaa
