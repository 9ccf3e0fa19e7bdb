/-
  The contract of archive.Choose.
-/
import Derived.Test.YtgfpcldaaelelaaArCheck
namespace Go.Proofs.Ytgfpcldaaelelaa
open Go Go.RowKit
set_option linter.unusedVariables false

/-- what Choose gives -/
def ChOut (w0 w' : World) (v : Value) (ps : List M.Prt) : Prop := Below w0.heap.size w0 w' ∧ ∃ es : List PEnt, es.map (·.p) = ps ∧ w'.ownsRow w0.heap.size 25 2 v es.length (es.flatMap pentCells) ∧ ∀ e ∈ es, POwn w' w0.heap.size e

theorem firstAll_take (l : List ByteArray) (k : Nat) (h : k < l.length) : M.firstAll (l.take (k + 1)) = (M.firstAll (l.take k)).set (l.getD k str0) 1 := by
  unfold M.firstAll
  rw [List.take_succ_eq_append_getElem h, List.foldl_append, List.getD_eq_getElem?_getD, List.getElem?_eq_getElem h]
  rfl
theorem choose_take (l : List M.Itm) (s : M.St × List M.Prt) (k : Nat) (h : k < l.length) : (l.take (k + 1)).foldl M.chooseStep s = M.chooseStep ((l.take k).foldl M.chooseStep s) (l.getD k ⟨false, []⟩) := by
  rw [List.take_succ_eq_append_getElem h, List.foldl_append, List.getD_eq_getElem?_getD, List.getElem?_eq_getElem h]
  rfl

theorem parts_ok : ∀ {l : List M.Prt}, M.checkParts l = 0 → ∀ p ∈ l, M.checkPart p = 0
  | [], _, p, hp => by cases hp
  | q :: l, h, p, hp => by
    unfold M.checkParts at h
    by_cases hq : M.checkPart q = 0
    · rw [if_pos hq] at h
      rcases List.mem_cons.1 hp with rfl | hp
      · exact hq
      · exact parts_ok h p hp
    · rw [if_neg hq] at h
      exact absurd h hq
theorem item_ok {it : M.Itm} (h : M.checkItem it = 0) : it.parts.length ≤ 8 ∧ (it.arch = false → it.parts.length = 1) ∧ ∀ p ∈ it.parts, M.checkPart p = 0 := by
  unfold M.checkItem at h
  by_cases h8 : 8 < it.parts.length
  · rw [if_pos h8] at h; exact absurd h (by decide)
  · rw [if_neg h8] at h
    by_cases h1 : it.arch = false ∧ ¬ it.parts.length = 1
    · rw [if_pos h1] at h; exact absurd h (by decide)
    · rw [if_neg h1] at h
      refine ⟨by omega, fun ha => ?_, parts_ok h⟩
      by_cases h2 : it.parts.length = 1
      · exact h2
      · exact absurd ⟨ha, h2⟩ h1
theorem items1_ok : ∀ {l : List M.Itm}, M.checkItems1 l = 0 → ∀ it ∈ l, M.checkItem it = 0
  | [], _, p, hp => by cases hp
  | q :: l, h, p, hp => by
    unfold M.checkItems1 at h
    by_cases hq : M.checkItem q = 0
    · rw [if_pos hq] at h
      rcases List.mem_cons.1 hp with rfl | hp
      · exact hq
      · exact items1_ok h p hp
    · rw [if_neg hq] at h
      exact absurd h hq
theorem items_ok {l : List M.Itm} (h : M.checkItems l = 0) : l.length ≤ 12 ∧ ∀ it ∈ l, M.checkItem it = 0 := by
  unfold M.checkItems at h
  by_cases h1 : 12 < l.length
  · rw [if_pos h1] at h; exact absurd h (by decide)
  · rw [if_neg h1] at h
    exact ⟨by omega, items1_ok h⟩
theorem first_ok {l : List ByteArray} (h : M.checkFirst l = 0) : l.length ≤ 12 := by
  unfold M.checkFirst at h
  by_cases h1 : 12 < l.length
  · rw [if_pos h1] at h; exact absurd h (by decide)
  · omega

set_option maxHeartbeats 8000000 in
set_option maxRecDepth 100000 in
theorem choose_any (its : List M.Itm) (first : List ByteArray) (a a2 : Option Addr) (c c2 : Nat) (w : World) (h : ItemsAt w (.slice a its.length c) its) (hf : StrsAt w (.slice a2 first.length c2) first) :
    Calls Try.prog 6 #[.slice a its.length c, .slice a2 first.length c2] w fun e w' => ∃ v, e = .returned (.tuple #[v, .int .i64 (M.choose its first).2]) ∧ ChOut w w' v (M.choose its first).1 := by
  have hn : its.length ≤ maxLen := by obtain ⟨_, h, _⟩ := h; obtain ⟨_, _, _, h⟩ := h.form; exact h
  have hn2 : first.length ≤ maxLen := by obtain ⟨_, _, _, h⟩ := hf.1.form; exact h
  unfold maxLen at hn hn2
  have KC : Hid (∀ W, Below w.heap.size w W → Calls Try.prog 25 #[.slice a its.length c] W fun e w' => e = .returned (.int .i64 (M.checkItems its)) ∧ Below W.heap.size W w') := fun W hW => checkItems_any its a c W (h.later hW)
  have KF : Hid (∀ W, Below w.heap.size w W → Calls Try.prog 26 #[.slice a2 first.length c2] W fun e w' => e = .returned (.int .i64 (M.checkFirst first)) ∧ Below W.heap.size W w') := fun W hW => checkFirst_any first a2 c2 W (hf.later hW)
  have HX : Hid (M.choose its first = if M.checkItems its = 0 then (if M.checkFirst first = 0 then ((its.foldl M.chooseStep (M.firstAll first, [])).2, 0) else ([], M.checkFirst first)) else ([], M.checkItems its)) := rfl
  have HOk : Hid (M.checkItems its = 0 → its.length ≤ 12 ∧ ∀ it ∈ its, M.checkItem it = 0) := items_ok
  have HFo : Hid (M.checkFirst first = 0 → first.length ≤ 12) := first_ok
  have HI : Hid (ItemsAt w (.slice a its.length c) its) := h
  have HF : Hid (StrsAt w (.slice a2 first.length c2) first) := hf
  clear h hf
  generalize M.choose its first = R at *
  generalize M.checkItems its = e1 at *
  generalize M.checkFirst first = e2 at *
  cases h1 : (e1 == 0)
  · have h1' : (e1 != 0) = true := by simpa using h1
    obtain rfl : R = ([], e1) := by have := HX.out; rwa [if_neg (by simpa using h1)] at this
    clear HX HOk HFo HI HF
    go_enter Try.func6, Try.ntmps6
    go_wp2_with (go_at_call 25; refine (KC.out _ (Below.refl _ _)).mono ?_; rintro e w1 ⟨rfl, hb1⟩)
    go_ret2
    exact ⟨_, rfl, hb1, [], rfl, World.ownsRow_nil _ _ _ _, fun e he => by cases he⟩
  obtain rfl : e1 = 0 := by simpa using h1
  clear h1
  cases h2 : (e2 == 0)
  · have h2' : (e2 != 0) = true := by simpa using h2
    obtain rfl : R = ([], e2) := by have := HX.out; rwa [if_pos rfl, if_neg (by simpa using h2)] at this
    clear HX HOk HFo HI HF
    go_enter Try.func6, Try.ntmps6
    go_wp2_with (first | (go_at_call 25; refine (KC.out _ (Below.refl _ _)).mono ?_; rintro e w1 ⟨rfl, hb1⟩) | (go_at_call 26; refine (KF.out _ hb1).mono ?_; rintro e w2 ⟨rfl, hb2⟩))
    go_ret2
    exact ⟨_, rfl, hb1.trans (hb2.mono hb1.size), [], rfl, World.ownsRow_nil _ _ _ _, fun e he => by cases he⟩
  obtain rfl : e2 = 0 := by simpa using h2
  clear h2
  obtain rfl : R = ((its.foldl M.chooseStep (M.firstAll first, [])).2, 0) := by have := HX.out; rwa [if_pos rfl, if_pos rfl] at this
  obtain ⟨hl12, hits⟩ := HOk.out rfl
  have hf12 := HFo.out rfl
  have HIt : Hid (∀ it ∈ its, M.checkItem it = 0) := hits
  have HSz : Hid (∀ s ∈ first, s.size ≤ maxLen) := HF.out.2
  clear HX HOk HFo hits
  go_enter Try.func6, Try.ntmps6
  have hmm := @run_makeMap Try.prog
  go_wp2_with (first | (go_at_call 25; refine (KC.out _ (Below.refl _ _)).mono ?_; rintro e w1 ⟨rfl, hb1⟩) | (go_at_call 26; refine (KF.out _ hb1).mono ?_; rintro e w2 ⟨rfl, hb2⟩))
  have HY : Hid (Ch w (((w2.alloc (.cells #[.slice none 0 0] 26)).alloc (.map #[] 0)).alloc (.cells #[.map (some (w2.heap.size + 1))] 61)) w2.heap.size (w2.heap.size + 1 + 1) (w2.heap.size + 1) 0 (M.firstAll (first.take 0)) [] (.slice none 0 0)) := by
    have hb := hb1.trans (hb2.mono hb1.size)
    have hs := StAt.nil (w2.alloc (.cells #[.slice none 0 0] 26))
    have hsz : (w2.alloc (.cells #[.slice none 0 0] 26)).heap.size = w2.heap.size + 1 := by simp
    have hsz2 : ((w2.alloc (.cells #[.slice none 0 0] 26)).alloc (.map #[] 0)).heap.size = w2.heap.size + 1 + 1 := by simp
    rw [hsz] at hs
    refine ⟨((hb.alloc hb.size _).alloc (by have := hb.size; simp; omega) _).alloc (by have := hb.size; simp; omega) _, ?_, ?_, hb.size, by have := hb.size; omega, hs.later ((Below.refl _ _).alloc (Nat.le_refl _) _), World.ownsRow_nil _ _ _ _, fun e he => by cases he⟩
    · rw [heap_alloc_old _ _ (by rw [hsz2]; omega), heap_alloc_old _ _ (by rw [hsz]; omega)]
      exact heap_alloc_new _ _
    · have := heap_alloc_new ((w2.alloc (.cells #[.slice none 0 0] 26)).alloc (.map #[] 0)) (.cells #[.map (some (w2.heap.size + 1))] 61)
      rwa [hsz2] at this
  clear hb1 hb2 KC KF hmm
  generalize ((w2.alloc (.cells #[.slice none 0 0] 26)).alloc (.map #[] 0)).alloc (.cells #[.map (some (w2.heap.size + 1))] 61) = Y at *
  generalize w2.heap.size + 1 + 1 = n9 at *
  generalize w2.heap.size + 1 = bM at *
  generalize w2.heap.size = n8 at *
  go_loopw [28] (fun s28 wr => ∃ (k : Nat), k ≤ first.length ∧ s28 = .int .i64 k ∧ Hid (Ch w wr n8 n9 bM k (M.firstAll (first.take k)) [] (.slice none 0 0))) (fun s28 _ => first.length - (intOf s28).toNat)
  case atStart => exact ⟨0, Nat.zero_le _, rfl, HY⟩
  case round =>
    obtain ⟨k, hk, rfl, HC⟩ := hrel
    clear HY
    by_cases hlt : k < first.length
    · obtain ⟨b, off, rfl, e0, hbr⟩ := (HF.out.later HC.out.below).cell k hlt
      have hkl : (k : Int) < (first.length : Int) := by omega
      have hsn := HSz.out _ (getD_mem first str0 k hlt)
      have q9 : wr.cell? ⟨n9, 0, none⟩ = some (.map (some bM)) := cellB HC.out.q9 0
      obtain ⟨w3, hrun, hS3, hg3⟩ := HC.out.st.put (by unfold maxLen; omega) (first.getD k str0) hsn 1 (by decide)
      have HN : Hid (Ch w w3 n8 n9 bM (k + 1) (M.firstAll (first.take (k + 1))) [] (.slice none 0 0)) := by rw [firstAll_take first k hlt]; exact HC.out.mapped hg3 hS3
      clear hS3 hg3 HC hsn
      generalize first.getD k str0 = s at *
      go_wp2_with fail
      go_roundw
      case rel => exact ⟨k + 1, by omega, by go_num, HN⟩
      case measure => simp [intOf]; omega
    · obtain rfl : k = first.length := by omega
      rw [List.take_length] at HC
      obtain ⟨Z, hZ⟩ : ∃ Z, Z = wr := ⟨_, rfl⟩
      subst hZ
      go_wp2_with fail
      go_loopw [38] (fun s38 wr => ∃ (k : Nat) (es : List PEnt) (v : Value), k ≤ its.length ∧ s38 = .int .i64 k ∧ Hid (∃ N, N ≤ 12 + 5000 * k ∧ Ch w wr n8 n9 bM N ((its.take k).foldl M.chooseStep (M.firstAll first, [])).1 es v) ∧ Hid (es.map (·.p) = ((its.take k).foldl M.chooseStep (M.firstAll first, [])).2) ∧ es.length ≤ 8 * k) (fun s38 _ => its.length - (intOf s38).toNat)
      case atStart => exact ⟨0, [], _, Nat.zero_le _, rfl, ⟨_, by omega, HC.out⟩, rfl, by simp⟩
      case round =>
        obtain ⟨k, es, v, hk', rfl, HD, HO, hel⟩ := hrel
        clear HC
        by_cases hlt' : k < its.length
        · obtain ⟨b, off, aP, cP, rfl, e0, e1, hP⟩ := item_at HI.out k hlt'
          obtain ⟨hp8, hp1, hpk⟩ := item_ok (HIt.out _ (getD_mem its ⟨false, []⟩ k hlt'))
          obtain ⟨N, hN, hCh⟩ := HD.out
          have e0' := cell_later hCh.below e0
          have e1' := cell_later hCh.below e1
          have hbr : b < wr.heap.size := World.block_lt_of_cell? _ _ e0'
          have hkl : (k : Int) < (its.length : Int) := by omega
          have HSt := choose_take its (M.firstAll first, []) k hlt'
          have HSt' : Hid _ := HSt
          clear HSt HD e0 e1
          generalize (its.take k).foldl M.chooseStep (M.firstAll first, []) = S at *
          generalize its.getD k ⟨false, []⟩ = it at *
          obtain ⟨ar, ps⟩ := it
          obtain ⟨st, out⟩ := S
          simp only at e0' e1' hP hp8 hp1 hpk hCh HO
          have hAl : Below wr.heap.size wr (wr.alloc (.cells #[.bool ar, .slice aP ps.length cP] 32)) := (Below.refl _ _).alloc (Nat.le_refl _) _
          cases ar
          · have hp0 : 0 < ps.length := by rw [hp1 rfl]; decide
            obtain ⟨bp, offp, a1, a2, d1, d2, hae, p0, p1, hpf, hpd⟩ := part_at hP 0 hp0
            subst hae
            have hck0 := hpk _ (getD_mem ps M.nil 0 hp0)
            have HS2 : Hid ((its.take (k + 1)).foldl M.chooseStep (M.firstAll first, []) = (M.enter st (ps.getD 0 M.nil), out ++ [ps.getD 0 M.nil])) := HSt'.out
            have p0' := cell_later hAl (cell_later hCh.below p0)
            have p1' := cell_later hAl (cell_later hCh.below p1)
            rw [Nat.zero_mul, Nat.add_zero] at p0' p1'
            have hpl : (0 : Int) < (ps.length : Int) := by omega
            have HFd : Hid (∀ W, Below w.heap.size w W → FragsAt W (.slice a1 (ps.getD 0 M.nil).frags.length d1) (ps.getD 0 M.nil).frags ∧ DefsAt W (.slice a2 (ps.getD 0 M.nil).defs.length d2) (ps.getD 0 M.nil).defs) := fun W hW => ⟨hpf.later hW, hpd.later hW⟩
            clear hpf hpd p0 p1 hP hpk HSt' hp1
            generalize ps.getD 0 M.nil = p at *
            have KT : Hid (Calls Try.prog 27 #[.agg #[.slice a1 p.frags.length d1, .slice a2 p.defs.length d2], .pointer (some ⟨n8, 0, none⟩), .pointer (some ⟨n9, 0, none⟩)] (wr.alloc (.cells #[.bool false, .slice (some ⟨bp, offp, none⟩) ps.length cP] 32)) fun e w' => e = .returned (.tuple #[]) ∧ ∃ vF vD vO', Ch w w' n8 n9 bM (N + 540) (M.enter st p) (es ++ [⟨p, vF, vD⟩]) vO' ∧ Ag (wr.alloc (.cells #[.bool false, .slice (some ⟨bp, offp, none⟩) ps.length cP] 32)) w') := takeFn_any p a1 a2 d1 d2 n8 n9 bM N st es v w _ HFd.out hck0 (hCh.later hAl) (by omega) (by omega)
            clear hCh hAl HFd hck0
            go_wp2_with (go_at_call 27; refine KT.out.mono ?_; rintro e w4 ⟨rfl, vF, vD, vO', hC4, hA4⟩)
            go_roundw
            case rel => exact ⟨k + 1, es ++ [⟨p, vF, vD⟩], vO', by omega, by go_num, by rw [HS2.out]; exact ⟨N + 540, by omega, hC4⟩, by rw [HS2.out, Hid, List.map_append, HO.out]; rfl, by rw [List.length_append]; simp; omega⟩
            case measure => simp [intOf]; omega
          · have HS2 : Hid ((its.take (k + 1)).foldl M.chooseStep (M.firstAll first, []) = ((M.search ps st out).st, (M.search ps st out).out)) := HSt'.out
            have KS : Hid (Calls Try.prog 30 #[.slice aP ps.length cP, .func (.func 27) #[] #[.pointer (some ⟨n8, 0, none⟩), .pointer (some ⟨n9, 0, none⟩)], .func (.func 31) #[] #[.pointer (some ⟨n9, 0, none⟩)]] (wr.alloc (.cells #[.bool true, .slice aP ps.length cP] 32)) fun e w' => e = .returned (.tuple #[]) ∧ SrOut w (wr.alloc (.cells #[.bool true, .slice aP ps.length cP] 32)) w' n8 n9 bM (N + 4320) es.length (M.search ps st out)) := by
              have := search_any ps aP cP n8 n9 bM N st es v w _ hP hp8 hpk (hCh.later hAl) (by omega) (by omega)
              rwa [HO.out] at this
            clear hCh hAl hP hpk HSt' hp1
            go_wp2_with (go_at_call 30; refine KS.out.mono ?_; rintro e w4 ⟨rfl, es4, v4, hC4, hm4, hl4, hA4⟩)
            go_roundw
            case rel => exact ⟨k + 1, es4, v4, by omega, by go_num, by rw [HS2.out]; exact ⟨N + 4320, by omega, hC4⟩, by rw [HS2.out]; exact hm4, by omega⟩
            case measure => simp [intOf]; omega
        · obtain rfl : k = its.length := by omega
          rw [List.take_length] at HD HO
          obtain ⟨N, hN, hCh⟩ := HD.out
          have q8 : wr.cell? ⟨n8, 0, none⟩ = some v := cellB hCh.q8 0
          have HCh : Hid (Ch w wr n8 n9 bM N (its.foldl M.chooseStep (M.firstAll first, [])).1 es v) := hCh
          clear HD hCh
          obtain ⟨aO, cO, rfl⟩ := own_len HCh.out.row
          go_wp2_with fail
          go_ret2
          exact ⟨_, rfl, HCh.out.below, es, HO.out, HCh.out.row, HCh.out.parts⟩

end Go.Proofs.Ytgfpcldaaelelaa
