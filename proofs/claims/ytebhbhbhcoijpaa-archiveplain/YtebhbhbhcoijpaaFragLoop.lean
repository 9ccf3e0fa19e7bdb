/-
  obj.checkFrag, where all but its places is right: the loop over them.
-/
import Derived.Test.YtebhbhbhcoijpaaPlace
namespace Go.Proofs.Ytebhbhbhcoijpaa
open Go.RowKit
set_option linter.unusedVariables false

theorem three_lt {w w1 : World} {o : Obj} (hb : Below (w.alloc o).heap.size (w.alloc o) w1) : w.heap.size < w1.heap.size ∧ w.heap.size < w1.heap.size + 1 ∧ w.heap.size < w1.heap.size + 1 + 1 := by
  have := hb.size
  simp at this
  omega

theorem box3 (w1 : World) (x y z : Value) (t : TypeId) :
    Below w1.heap.size w1 (((w1.alloc (.cells #[x] t)).alloc (.cells #[y] t)).alloc (.cells #[z] t)) ∧ w1.heap.size + 2 < (((w1.alloc (.cells #[x] t)).alloc (.cells #[y] t)).alloc (.cells #[z] t)).heap.size
      ∧ (((w1.alloc (.cells #[x] t)).alloc (.cells #[y] t)).alloc (.cells #[z] t)).cell? ⟨w1.heap.size, 0, none⟩ = some x
      ∧ (((w1.alloc (.cells #[x] t)).alloc (.cells #[y] t)).alloc (.cells #[z] t)).cell? ⟨w1.heap.size + 1, 0, none⟩ = some y
      ∧ (((w1.alloc (.cells #[x] t)).alloc (.cells #[y] t)).alloc (.cells #[z] t)).cell? ⟨w1.heap.size + 2, 0, none⟩ = some z
      ∧ (((w1.alloc (.cells #[x] t)).alloc (.cells #[y] t)).alloc (.cells #[z] t)).frozen? ⟨w1.heap.size + 2, 0, none⟩ = false := by
  refine ⟨(((Below.refl _ _).alloc (Nat.le_refl _) _).alloc (by simp) _).alloc (by simp; omega) _, by simp, ?_, ?_, ?_, ?_⟩
  · rw [World.cell?_alloc_past _ _ _ (by simp; omega), World.cell?_alloc_past _ _ _ (by simp), World.cell?_alloc_at _ _ _ _ rfl]; rfl
  · rw [World.cell?_alloc_past _ _ _ (by simp), World.cell?_alloc_at _ _ _ _ (by simp)]; rfl
  · rw [World.cell?_alloc_at _ _ _ _ (by simp)]; rfl
  · rw [World.frozen?_alloc_at _ _ _ _ (by simp)]

theorem rels_step {len many e : Int} {rs : List M.Rel} {k : Nat} (hk : k < rs.length) :
    M.checkRels len many e (rs.drop k) = (if M.placed (rs.getD k rel0) e len then (if M.target (rs.getD k rel0) many = 0 then M.checkRels len many ((rs.getD k rel0).pos + M.wide (rs.getD k rel0).kind) (rs.drop (k + 1)) else M.target (rs.getD k rel0) many) else 3) := by
  rw [drop_getD rs rel0 k hk]; rfl

set_option maxHeartbeats 1000000 in
theorem frag_rels (s al sz : Int) (g : ByteArray) (n1 : Nat) (rs : List M.Rel) (ab ar : Option Addr) (cb cr : Nat) (many : Nat) (w : World) (hr : RelsAt w (.slice ar rs.length cr) rs) (hg : g.size ≤ maxLen) (hm : many ≤ 60)
    (hs : M.within s 1 5 = true) (ha : M.isAlign al = true) (hgr' : g.toList.isEmpty = true ∨ (g.toList.isEmpty = false ∧ M.isName g = true)) (hmany1 : n1 ≤ 64) (hmany2 : rs.length ≤ 8) (hfo : frm s sz n1 rs.length = true) :
    Calls Try.prog 49 #[.agg #[.int .i64 s, .int .i64 al, .string g, .slice ab n1 cb, .int .i64 sz, .slice ar rs.length cr], .int .i64 many] w fun e w' =>
      e = .returned (.int .i64 (M.checkRels n1 many 0 rs)) ∧ Below w.heap.size w w' := by
  have HX : Hid (M.checkRels n1 many 0 rs = M.checkRels n1 many 0 (rs.drop 0)) := rfl
  generalize M.checkRels n1 many 0 rs = R at *
  have hd1 : decide (64 < (n1 : Int)) = false := by simp; omega
  have hd2 : decide (8 < (rs.length : Int)) = false := by simp; omega
  rcases hgr' with hgr1 | ⟨hgr1, hgr2⟩
  all_goals
    go_enter Try.func49, Try.ntmps49
    go_wp2_with (first | (go_at_call 82; refine (within_any _ _ _ _).mono ?_; rintro e w' ⟨rfl, rfl⟩) | (go_at_call 83; refine (alignment_any _ _).mono ?_; rintro e w' ⟨rfl, rfl⟩) | (go_at_call 84; refine (name_any _ _ hg).mono ?_; rintro e w' ⟨rfl, rfl⟩) | (go_at_call 85; refine (formed_any _ _ _ _ _ _ _ _ _ _ _).mono ?_; rintro e w1 ⟨rfl, hb1⟩; obtain ⟨hc1, hf1⟩ := bcell hb1; obtain ⟨hz0, hz1, hz2⟩ := three_lt hb1) | (go_at_call 86; refine (checker_any _ _ _).mono ?_; rintro e w2 ⟨rfl, rfl⟩))
    have hw1 : w.heap.size + 1 ≤ w1.heap.size := by have := hb1.size; simpa using this
    have hbw : Below w.heap.size w w1 := ((Below.refl _ _).alloc (Nat.le_refl _) _).trans (hb1.mono (by simp))
    have HB1 : Hid (Below w.heap.size w w1) := hbw
    clear hb1 hbw hc1 hf1 hz0 hz1 hz2
    go_loopw [53] (fun s53 wr => ∃ (k : Nat) (e : Int), k ≤ rs.length ∧ s53 = .int .i64 k ∧ 0 ≤ e ∧ Hid (Below w1.heap.size w1 wr) ∧ w1.heap.size + 2 < wr.heap.size ∧ wr.cell? ⟨w1.heap.size, 0, none⟩ = some (.int .i64 n1) ∧ wr.cell? ⟨w1.heap.size + 1, 0, none⟩ = some (.int .i64 many)
      ∧ wr.cell? ⟨w1.heap.size + 2, 0, none⟩ = some (.int .i64 e) ∧ wr.frozen? ⟨w1.heap.size + 2, 0, none⟩ = false ∧ Hid (R = M.checkRels n1 many e (rs.drop k))) (fun s53 _ => rs.length - (intOf s53).toNat)
    case atStart => exact ⟨0, 0, Nat.zero_le _, rfl, by omega, (box3 w1 _ _ _ _).1, (box3 w1 _ _ _ _).2.1, (box3 w1 _ _ _ _).2.2.1, (box3 w1 _ _ _ _).2.2.2.1, (box3 w1 _ _ _ _).2.2.2.2.1, (box3 w1 _ _ _ _).2.2.2.2.2, HX⟩
    case round =>
      obtain ⟨k, e, hk, rfl, he, HB, hsz, c0, c1, c2, hfz, HR⟩ := hrel
      by_cases hlt : k < rs.length
      · have hbw : Below w.heap.size w wr := HB1.out.trans (HB.out.mono (by omega))
        obtain ⟨b, off, har, hc⟩ := (hr.1.later hbw).at k hlt
        have hnm := (hr.2 _ (getD_mem rs rel0 k hlt)).1
        have hst := rels_step (len := n1) (many := many) (e := e) hlt
        have HR1 := HR.out.trans hst
        clear HR hst HX hr
        generalize rs.getD k rel0 = r at *
        obtain ⟨pos, kind, name, frag, add⟩ := r
        have e0 := hc 0 (by decide)
        have e1 := hc 1 (by decide)
        have e2 := hc 2 (by decide)
        have e3 := hc 3 (by decide)
        have e4 := hc 4 (by decide)
        simp only [relCell, Nat.add_zero] at e0 e1 e2 e3 e4 hnm
        have hbr : b < wr.heap.size := World.block_lt_of_cell? _ _ e0
        clear hc
        subst har
        have hX0 : w1.heap.size < wr.heap.size := by omega
        have hX1 : w1.heap.size + 1 < wr.heap.size := by omega
        cases hp : plcB pos kind add e n1
        · have HR2 : Hid (R = 3) := by rw [Hid, HR1, ← plcB_eq]; simp only [hp]; rfl
          clear HR1
          go_wp2_with (go_at_call 106; refine (place_no pos kind name frag add w1.heap.size n1 many e _ (by simp; omega) ((World.cell?_alloc_past _ _ _ hX0).trans c0) ((World.cell?_alloc_past _ _ _ hX1).trans c1) ((World.cell?_alloc_past _ _ _ hsz).trans c2) ⟨by omega, by omega⟩ hp).mono ?_; rintro e w2 ⟨rfl, hb2⟩)
          go_ret
          exact ⟨ret_int HR2.out.symm, hbw.trans (((Below.refl _ _).alloc (Nat.le_refl _) _).trans (hb2.mono (by simp)) |>.mono hbw.size)⟩
        · have HR2 : Hid (R = (if M.target ⟨pos, kind, name, frag, add⟩ many = 0 then M.checkRels n1 many (pos + M.wide kind) (rs.drop (k + 1)) else M.target ⟨pos, kind, name, frag, add⟩ many)) := by rw [Hid, HR1, ← plcB_eq]; simp only [hp]; rfl
          clear HR1
          have hwd := wide_bd kind
          have hpos : 0 ≤ pos := by
            simp only [plcB, M.within, Bool.and_eq_true, decide_eq_true_eq] at hp
            omega
          have HN : Hid (0 ≤ pos + M.wide kind) := by show _ ≤ _; omega
          clear hwd hpos
          have HP : Hid (Calls Try.prog 106 #[.agg #[.int .i64 pos, .int .i64 kind, .string name, .int .i64 frag, .int .i64 add], .pointer (some ⟨w1.heap.size + 2, 0, none⟩), .pointer (some ⟨w1.heap.size, 0, none⟩), .pointer (some ⟨w1.heap.size + 1, 0, none⟩)]
              (wr.alloc (.cells #[.int .i64 pos, .int .i64 kind, .string name, .int .i64 frag, .int .i64 add] 121)) fun r w' =>
            r = .returned (.int .i64 (M.target ⟨pos, kind, name, frag, add⟩ many)) ∧ Below (w1.heap.size + 2) (wr.alloc (.cells #[.int .i64 pos, .int .i64 kind, .string name, .int .i64 frag, .int .i64 add] 121)) w' ∧ w'.cell? ⟨w1.heap.size + 2, 0, none⟩ = some (.int .i64 (pos + M.wide kind)) ∧ w'.frozen? ⟨w1.heap.size + 2, 0, none⟩ = false) :=
            place_yes pos kind name frag add w1.heap.size n1 many e _ (by simp; omega) ((World.cell?_alloc_past _ _ _ hX0).trans c0) ((World.cell?_alloc_past _ _ _ hX1).trans c1) ((World.cell?_alloc_past _ _ _ hsz).trans c2) ((World.frozen?_alloc_past _ _ _ hsz).trans hfz) ⟨by omega, by omega⟩ he ⟨by omega, by omega⟩ hnm hp
          clear hp
          generalize M.target ⟨pos, kind, name, frag, add⟩ many = tg at *
          by_cases ht : tg = 0
          · subst ht
            have HR3 : Hid (R = M.checkRels n1 many (pos + M.wide kind) (rs.drop (k + 1))) := HR2.out.trans (if_pos rfl)
            clear HR2
            generalize pos + M.wide kind = en at *
            go_wp2_with (go_at_call 106; refine HP.out.mono ?_; rintro e w2 ⟨rfl, hb2, hc2, hf2⟩)
            go_roundw
            case rel =>
              have hs2 := hb2.size
              simp at hs2
              refine ⟨k + 1, en, by omega, by go_num, HN.out, ?_, by omega, ?_, ?_, hc2, hf2, HR3⟩
              · exact HB.out.trans ((((Below.refl _ _).alloc (by omega) _)).trans (hb2.mono (by omega)))
              · rw [hb2.cell (p := ⟨w1.heap.size, 0, none⟩) (by simp)]
                exact (World.cell?_alloc_past _ _ _ hX0).trans c0
              · rw [hb2.cell (p := ⟨w1.heap.size + 1, 0, none⟩) (by simp)]
                exact (World.cell?_alloc_past _ _ _ hX1).trans c1
            case measure => simp [intOf]; omega
          · have HR3 : Hid (R = tg) := HR2.out.trans (if_neg ht)
            have htn : (tg != 0) = true := by simpa using ht
            clear HR2 ht
            go_wp2_with (go_at_call 106; refine HP.out.mono ?_; rintro e w2 ⟨rfl, hb2, hc2, hf2⟩)
            go_ret
            exact ⟨ret_int HR3.out.symm, hbw.trans (((Below.refl _ _).alloc (by have := hbw.size; omega) _).trans (hb2.mono (by omega)))⟩
      · have HR0 : Hid (R = 0) := by
          have := HR.out
          rwa [List.drop_of_length_le (by omega)] at this
        clear HR HX
        go_wp2
        go_ret
        exact ⟨ret_int HR0.out.symm, HB1.out.trans (HB.out.mono (by omega))⟩

end Go.Proofs.Ytebhbhbhcoijpaa
