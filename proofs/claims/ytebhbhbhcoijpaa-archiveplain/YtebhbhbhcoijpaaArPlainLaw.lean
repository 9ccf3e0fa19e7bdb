/-
  ArchivePlain: the law, walked.
-/
import Derived.Test.YtebhbhbhcoijpaaArPlainLib
import Derived.Test.YtebhbhbhcoijpaaArTaken
import Derived.Test.YtebhbhbhcoijpaaArIx
namespace Go.Proofs.Ytebhbhbhcoijpaa
open Go Go.RowKit
set_option linter.unusedVariables false
attribute [local go_sem] lat_cell

/-- the first parts of a row -/
theorem PartsAt.take {w : World} {a : Option Addr} {c : Nat} {ps : List M.Prt} (h : PartsAt w (.slice a ps.length c) ps) (k : Nat) : PartsAt w (.slice a (ps.take k).length c) (ps.take k) := by
  obtain ⟨cell, h1, h2⟩ := h
  have hl : (ps.take k).length ≤ ps.length := by rw [List.length_take]; omega
  refine ⟨cell, ?_, fun j hj => ?_⟩
  · obtain ⟨a', c', e, hm, hx⟩ := h1
    cases e
    refine ⟨a, c, rfl, Nat.le_trans hl hm, ?_⟩
    rcases hx with hx | ⟨b, off, e2, hx⟩
    · exact .inl (by omega)
    · exact .inr ⟨b, off, e2, fun j i hj hi => hx j i (by omega) hi⟩
  · have e : (ps.take k).getD j M.nil = ps.getD j M.nil := by
      rw [List.getD_eq_getElem?_getD, List.getD_eq_getElem?_getD, List.getElem?_take_of_lt (by rw [List.length_take] at hj; omega)]
    rw [e]
    exact h2 j (by omega)

/-- what the second loop has in memory -/
structure LRow (w0 W : World) (n : Nat) (vL : Value) (l : List ByteArray) : Prop where
  below : Below w0.heap.size w0 W
  q : W.heap[n]? = some (.cells #[vL] 35 (0, 0))
  gn : w0.heap.size ≤ n
  row : W.ownsRow w0.heap.size 9 1 vL l.length (l.map Value.string)
  sz : ∀ s ∈ l, s.size ≤ maxLen
theorem LRow.later {w0 W X : World} {n : Nat} {vL : Value} {l : List ByteArray} (h : LRow w0 W n vL l) (hb : Below W.heap.size W X) : LRow w0 X n vL l :=
  ⟨h.below.trans (hb.mono h.below.size), (hb.block _ (Array.getElem?_eq_some_iff.1 h.q).1).trans h.q, h.gn, h.row.kept (grown_of_below hb none) own_self, h.sz⟩
theorem LRow.push {w0 W w5 : World} {n : Nat} {vL v' : Value} {l l' : List ByteArray} (h : LRow w0 W n vL l) (hg : W.grownBy w5 vL.ownBlock)
    (hrow : w5.ownsRow w0.heap.size 9 1 v' (l.length + l'.length) (l.map Value.string ++ l'.map Value.string)) (hs : ∀ s ∈ l', s.size ≤ maxLen) : LRow w0 (w5.setCell ⟨n, 0, none⟩ v') n v' (l ++ l') := by
  have z := block_kept h.row hg h.q (by decide)
  refine ⟨(h.below.grown hg h.below.size (fun k hk => (h.row.lt k hk).1)).setCell h.gn _, setB' z v', h.gn, ?_, fun x hx => ?_⟩
  · rw [List.length_append, List.map_append]
    exact row_setc hrow z (by decide)
  · rcases List.mem_append.1 hx with hx | hx
    · exact h.sz x hx
    · exact hs x hx
theorem LRow.lk {w0 W : World} {n : Nat} {vL : Value} {l : List ByteArray} (h : LRow w0 W n vL l) : LkVar W n l := by
  obtain ⟨a, c, rfl⟩ := own_len h.row
  exact ⟨a, c, cellB h.q 0, row_strs h.row h.sz⟩

theorem PR.keptI {w w' : World} {B B' n : Nat} {es : List Ent} {ds : List M.Dfn} {vF vD v : Value} {xs : List Value} (h : PR w B es ds vF vD) (hr : w.ownsRow B' 63 2 v n xs) (hg : w.grownBy w' v.ownBlock) : PR w' B es ds vF vD :=
  ⟨h.rowF.kept hg (own_apart h.rowF hr (by decide)), h.rowD.kept hg (own_apart h.rowD hr (by decide)), fun e he => (h.bytes e he).kept hg (own_apart (h.bytes e he) hr (by decide)), h.small, h.smallD, fun e he => (h.rels e he).kept hg (own_apart (h.rels e he) hr (by decide))⟩
/-- parts in rows of one's own -/
structure OutAt (W : World) (v : Value) (ps : List M.Prt) : Prop where
  ex : ∃ (B : Nat) (es : List PEnt), es.map (·.p) = ps ∧ W.ownsRow B 25 2 v es.length (es.flatMap pentCells) ∧ ∀ e ∈ es, POwn W B e
theorem OutAt.of {w0 W : World} {v : Value} {ps : List M.Prt} (h : ChOut w0 W v ps) : OutAt W v ps := ⟨⟨_, h.2⟩⟩
theorem OutAt.later {W X : World} {v : Value} {ps : List M.Prt} (h : OutAt W v ps) (hb : Below W.heap.size W X) : OutAt X v ps := by
  obtain ⟨B, es, h1, h2, h3⟩ := h.ex
  exact ⟨⟨B, es, h1, h2.kept (grown_of_below hb none) own_self, fun e he => let ⟨en, h4, h5⟩ := h3 e he; ⟨en, h4.later hb, h5⟩⟩⟩
theorem OutAt.keptI {W X : World} {v vI : Value} {ps : List M.Prt} {B' n : Nat} {xs : List Value} (h : OutAt W v ps) (hr : W.ownsRow B' 63 2 vI n xs) (hg : W.grownBy X vI.ownBlock) : OutAt X v ps := by
  obtain ⟨B, es, h1, h2, h3⟩ := h.ex
  exact ⟨⟨B, es, h1, h2.kept hg (own_apart h2 hr (by decide)), fun e he => let ⟨en, h4, h5⟩ := h3 e he; ⟨en, h4.keptI hr hg, h5⟩⟩⟩
theorem OutAt.parts {W : World} {v : Value} {ps : List M.Prt} (h : OutAt W v ps) : PartsAt W v ps := by
  obtain ⟨B, es, rfl, hr, hp⟩ := h.ex
  exact parts_of (row_slice pent0 pentCells (fun _ => rfl) es hr) (fun e he => (hp e he).read)

theorem eqParts_refl (qs : List M.Prt) {a1 a2 : Option Addr} {c1 c2 : Nat} {W : World} (h1 : PartsAt W (.slice a1 qs.length c1) qs) (h2 : PartsAt W (.slice a2 qs.length c2) qs) :
    Calls Try.prog 41 #[.slice a1 qs.length c1, .slice a2 qs.length c2, .func (.func 10) #[] #[]] W fun e w' => e = .returned (.bool true) ∧ Below W.heap.size W w' := by
  have := equalParts_any qs qs a1 a2 c1 c2 W h1 h2
  rw [M.allTwo_refl M.samePart_refl] at this
  exact this

set_option maxHeartbeats 8000000 in
set_option maxRecDepth 100000 in
theorem plain_law (ps more : List M.Prt) (first : List ByteArray) (a1 a2 a3 : Option Addr) (c1 c2 c3 : Nat) (w : World) (h1 : PartsAt w (.slice a1 ps.length c1) ps) (hc : ps.length ≤ c1) (h2 : PartsAt w (.slice a2 more.length c2) more) (h3 : StrsAt w (.slice a3 first.length c3) first) :
    Calls Try.prog 8 #[.slice a1 ps.length c1, .slice a2 more.length c2, .slice a3 first.length c3] w fun e w' => e = .returned (.bool true) ∧ Below w.heap.size w w' := by
  have hn : ps.length ≤ maxLen := by obtain ⟨_, h, _⟩ := h1; obtain ⟨_, _, _, h⟩ := h.form; exact h
  have hn2 : more.length ≤ maxLen := by obtain ⟨_, h, _⟩ := h2; obtain ⟨_, _, _, h⟩ := h.form; exact h
  have hsz3 : ∀ s ∈ first, s.size ≤ maxLen := h3.2
  unfold maxLen at hn hn2
  obtain ⟨i0, hi0, hz0, hz1, hz2⟩ := info_parts (P := Try.prog) (e := 63) (z := .agg #[.bool false, .slice none 0 0]) (size := 2) (bytes := 32) (by kernel_rfl)
  obtain ⟨j0, hj0, hy0, hy1, hy2⟩ := info_parts (P := Try.prog) (e := 9) (z := .string ⟨#[]⟩) (size := 1) (bytes := 16) (by kernel_rfl)
  have HT := h1.take 11
  have hq11 : (ps.take 11).length ≤ 11 := by rw [List.length_take]; omega
  have hqp : (ps.take 11).length ≤ ps.length := by rw [List.length_take]; omega
  have HG : Hid (∀ k, k < (ps.take 11).length → (ps.take 11).getD k M.nil = ps.getD k M.nil) := fun k hk => by
    rw [List.getD_eq_getElem?_getD, List.getD_eq_getElem?_getD, List.getElem?_take_of_lt (by rw [List.length_take] at hk; omega)]
  have HP1 : Hid (PartsAt w (.slice a1 ps.length c1) ps) := h1
  have HP2 : Hid (PartsAt w (.slice a2 more.length c2) more) := h2
  have HS3 : Hid (StrsAt w (.slice a3 first.length c3) first) := h3
  have HI0 : Hid (IRow w w [] (.slice none 0 0)) := ⟨Below.refl _ _, World.ownsRow_nil _ _ _ _, fun e he => by cases he⟩
  clear h1 h2 h3
  go_enter Try.func8, Try.ntmps8
  go_wp2_with fail
  have em1 : (min (ps.length : Int) 11).toNat = (ps.take 11).length := by rw [List.length_take]; omega
  have em2 : max (min (ps.length : Int) 11) 0 = ((ps.take 11).length : Int) := by rw [List.length_take]; omega
  rw [em1, em2]
  clear em1 em2
  generalize min (ps.length : Int) 11 = mn
  generalize ps.take 11 = qs at *
  have HQ : Hid (PartsAt w (.slice a1 qs.length c1) qs) := HT
  clear HT
  go_loopw [7, 26] (fun s7 s26 wr => ∃ (k : Nat) (es : List IEnt) (vI : Value), k ≤ qs.length ∧ s26 = .int .i64 k ∧ s7 = vI ∧ Hid (IRow w wr es vI) ∧ Hid (es.map (·.it) = (qs.take k).map M.plainItem) ∧ Hid (es.length = k)) (fun _ s26 _ => qs.length - (intOf s26).toNat)
  case atStart => exact ⟨0, [], _, Nat.zero_le _, rfl, rfl, HI0, rfl, rfl⟩
  case round =>
    obtain ⟨k, es, vI, hk, rfl, rfl, HI, HE, HL⟩ := hrel
    clear HI0
    by_cases hlt : k < qs.length
    · obtain ⟨b, off, p1, p2, d1, d2, rfl, e0w, e1w, hf, hd⟩ := part_at HQ.out k hlt
      have e0 := cell_later HI.out.below e0w
      have e1 := cell_later HI.out.below e1w
      have hbr : b < wr.heap.size := World.block_lt_of_cell? _ _ e0
      have hkl : (k : Int) < (qs.length : Int) := by omega
      obtain ⟨hI4, hG4, hS4⟩ := irow_round HI.out (qs.getD k M.nil) _ _ hf hd
      have HI4 : Hid _ := hI4
      have HG4 : Hid _ := hG4
      have HS4 : Hid _ := hS4
      have hel : es.length ≤ 11 := by rw [HL.out]; omega
      have HE' : Hid (es.map (·.it) ++ [M.plainItem (qs.getD k M.nil)] = (qs.take (k + 1)).map M.plainItem) := by
        rw [Hid, HE.out, List.take_succ_eq_append_getElem hlt, List.map_append, List.getD_eq_getElem?_getD, List.getElem?_eq_getElem hlt]; rfl
      clear hI4 hG4 hS4 e0w e1w hf hd
      generalize qs.getD k M.nil = p at *
      go_wp2_with (at_builtin; refine wpList_append_src _ rfl _ _ 64 rfl w.heap.size 63 i0 (.agg #[.bool false, .slice none 0 0]) 2 32 Try.underlying64 hi0 hz0 hz1 hz2 rfl (by decide) _ es.length _ rfl HI4.out.row _ 1 _ rfl HS4.out rfl (fun u hu => by simp only [ientCells, List.mem_cons, List.not_mem_nil, or_false] at hu; rcases hu with rfl | rfl <;> rfl) (by unfold maxLen; omega) (by omega) HI4.out.below.size ?_; intro v1 w1 ho1 hg1)
      go_roundw
      case rel => exact ⟨k + 1, _, v1, by omega, by go_num, rfl, HI4.out.push HG4.out hg1 ho1, (by rw [Hid, List.map_append]; exact HE'.out), (by rw [Hid, List.length_append, HL.out]; rfl)⟩
      case measure => simp [intOf]; omega
    · obtain rfl : k = qs.length := by omega
      rw [List.take_length] at HE
      obtain ⟨aI, cI, rfl⟩ := own_len HI.out.row
      have hel : es.length = qs.length := HL.out
      rw [hel] at HI
      rw [hel]
      clear hel
      have KC : Hid (Calls Try.prog 31 #[.slice aI qs.length cI, .slice a3 first.length c3] wr fun e w' => ∃ v, e = .returned (.tuple #[v, .int .i64 (M.choose (qs.map M.plainItem) first).2]) ∧ ChOut wr w' v (M.choose (qs.map M.plainItem) first).1) := by
        have := choose_v HI.out.items (HS3.out.later HI.out.below)
        rw [HE.out] at this
        exact this
      have HB0 : Hid (Below w.heap.size w wr) := HI.out.below
      by_cases h0 : (M.choose (qs.map M.plainItem) first).2 = 0
      · obtain ⟨hck, hfi, _⟩ := M.choose_out h0
        have HCk : Hid (∀ p ∈ qs, M.checkPart p = 0) := plain_ok hck
        have hf12 : first.length ≤ 12 := first_ok hfi
        have hout := M.plain_out h0
        rw [h0, hout] at KC
        clear hck hfi hout h0
        go_upto_region 12 with (first | (go_at_call 31; refine KC.out.mono ?_; rintro e w1 ⟨v, rfl, hO⟩; obtain ⟨ao, co, rfl⟩ := hO.parts.form; have HO : Hid _ := hO; clear hO) | (go_at_call 32; refine (taken_true _).mono ?_; rintro e w2 ⟨rfl, hb2⟩; have Hb2 : Hid _ := hb2; clear hb2))
        have b12 : Below wr.heap.size wr w2 := HO.out.1.trans (Hb2.out.mono HO.out.1.size)
        have HB2 : Hid (Below w.heap.size w w2) := HB0.out.trans (b12.mono HB0.out.size)
        have HOp : Hid (PartsAt w2 (.slice ao qs.length co) qs) := (ChOut.parts HO.out).later Hb2.out
        have HOo : Hid (OutAt w2 (.slice ao qs.length co) qs) := (OutAt.of HO.out).later Hb2.out
        have HI2 : Hid (IRow w w2 es (.slice aI qs.length cI)) := HI.out.later b12
        have KCl : Hid (Calls Try.prog 39 #[.slice a3 first.length c3] w2 fun e w' => Below w2.heap.size w2 w' ∧ ∃ v, e = .returned v ∧ w'.ownsRow w2.heap.size 9 1 v first.length (first.map Value.string)) := cloneS_any first a3 c3 w2 (HS3.out.later HB2.out) (by omega)
        clear b12 HO Hb2 KC HB0 HI
        have HWl : Hid (∀ p ∈ qs, (M.wanted p).length ≤ 480) := fun p hp => ar_wanted_len ((M.ok_iff p).1 (HCk.out p hp))
        have HLL : Hid (∀ k, (M.lackNames first (qs.take k)).length ≤ 10000) := fun k => lackNames_len hf12 hq11 HWl.out k
        go_wp2_with (go_at_call 39; refine KCl.out.mono ?_; rintro e w3 ⟨hb3, vL, rfl, ho3⟩; obtain ⟨aL, cL, rfl⟩ := own_len ho3; have Hb3 : Hid _ := hb3; have Ho3 : Hid _ := ho3; clear hb3 ho3)
        have HL0 : Hid (LRow w2 (w3.alloc (.cells #[.slice aL first.length cL] 35)) w3.heap.size (.slice aL first.length cL) (M.lackNames first (qs.take 0))) := by
          have e : M.lackNames first (qs.take 0) = first := by simp [M.lackNames]
          rw [Hid, e]
          exact ⟨Hb3.out.alloc Hb3.out.size _, heap_alloc_new _ _, Hb3.out.size, World.ownsRow.alloc Ho3.out _, hsz3⟩
        clear KCl Hb3 Ho3
        generalize w3.alloc (.cells #[.slice aL first.length cL] 35) = X3 at *
        generalize w3.heap.size = n12 at *
        go_loopw [59] (fun s59 wr => ∃ (j : Nat) (vL : Value), j ≤ qs.length ∧ s59 = .int .i64 j ∧ Hid (LRow w2 wr n12 vL (M.lackNames first (qs.take j)))) (fun s59 _ => qs.length - (intOf s59).toNat)
        case atStart => exact ⟨0, _, Nat.zero_le _, rfl, HL0⟩
        case round =>
          obtain ⟨j, vL, hj, rfl, HLr⟩ := hrel
          clear HL0
          by_cases hlt : j < qs.length
          · obtain ⟨b, off, p1, p2, d1, d2, rfl, e0, e1, hf, hd⟩ := part_at (HOp.out.later HLr.out.below) j hlt
            obtain ⟨b', off', r1, r2, g1, g2, rfl, f0, f1, hf', hd'⟩ := part_at (HP1.out.later (HB2.out.trans (HLr.out.below.mono HB2.out.size))) j (Nat.lt_of_lt_of_le hlt hqp)
            rw [← HG.out j hlt] at f0 f1 hf' hd'
            have hck := HCk.out _ (getD_mem qs M.nil j hlt)
            have hwl := HWl.out _ (getD_mem qs M.nil j hlt)
            have hll := HLL.out j
            have HLt : Hid (M.lackNames first (qs.take (j + 1)) = M.lackNames first (qs.take j) ++ M.wanted (qs.getD j M.nil)) := lackNames_take first qs j hlt
            have hjl : (j : Int) < (qs.length : Int) := by omega
            have hjp : (j : Int) < (ps.length : Int) := by omega
            have hbr : b < wr.heap.size := World.block_lt_of_cell? _ _ e0
            have hbr' : b' < wr.heap.size := World.block_lt_of_cell? _ _ f0
            generalize qs.getD j M.nil = p at *
            generalize M.lackNames first (qs.take j) = ll at *
            have hA : Below wr.heap.size wr (wr.alloc (.cells #[.slice p1 p.frags.length d1, .slice p2 p.defs.length d2] 25)) := (Below.refl _ _).alloc (Nat.le_refl _) _
            have hqA := heap_alloc_new wr (.cells #[.slice p1 p.frags.length d1, .slice p2 p.defs.length d2] 25)
            have KS : Hid (∀ W, Below (wr.alloc (.cells #[.slice p1 p.frags.length d1, .slice p2 p.defs.length d2] 25)).heap.size (wr.alloc (.cells #[.slice p1 p.frags.length d1, .slice p2 p.defs.length d2] 25)) W → Calls Try.prog 10 #[.agg #[.slice p1 p.frags.length d1, .slice p2 p.defs.length d2], .agg #[.slice r1 p.frags.length g1, .slice r2 p.defs.length g2]] W fun e w' => e = .returned (.bool true) ∧ Below W.heap.size W w') := fun W hW => by
              have hW' := hA.trans (hW.mono hA.size)
              have := same_any p.frags p.frags p.defs p.defs p1 p2 r1 r2 d1 d2 g1 g2 W (hf.later hW') (hd.later hW') (hf'.later hW') (hd'.later hW')
              rw [M.samePart_refl] at this
              exact this
            have KW : Hid (∀ W, Below (wr.alloc (.cells #[.slice p1 p.frags.length d1, .slice p2 p.defs.length d2] 25)).heap.size (wr.alloc (.cells #[.slice p1 p.frags.length d1, .slice p2 p.defs.length d2] 25)) W → Calls Try.prog 19 #[.agg #[.slice p1 p.frags.length d1, .slice p2 p.defs.length d2]] W fun e w' => Below W.heap.size W w' ∧ ∃ v, e = .returned (.tuple #[v, .int .i64 0]) ∧ w'.ownsRow W.heap.size 9 1 v (M.wanted p).length ((M.wanted p).map Value.string) ∧ ∀ s ∈ M.wanted p, s.size ≤ maxLen) := fun W hW => by
              have hW' := hA.trans (hW.mono hA.size)
              have := wantedP_any p p1 p2 d1 d2 W (hf.later hW') (hd.later hW')
              have hwo : wantedOfP p = M.wanted p := if_pos hck
              rw [hwo, hck] at this
              exact this
            have HLA : Hid (LRow w2 (wr.alloc (.cells #[.slice p1 p.frags.length d1, .slice p2 p.defs.length d2] 25)) n12 vL ll) := HLr.out.later hA
            have f0' := cell_later hA f0
            have f1' := cell_later hA f1
            have hbl : Below w2.heap.size w2 wr := HLr.out.below
            clear hf hd hf' hd' hck
            generalize M.wanted p = wn at *
            generalize p.frags.length = m1 at *
            generalize p.defs.length = m2 at *
            go_upto_region 16 with fail
            generalize wr.alloc (.cells #[.slice p1 m1 d1, .slice p2 m2 d2] 25) = X at *
            have x0 : X.cell? ⟨wr.heap.size, 0, none⟩ = some (.slice p1 m1 d1) := cellB hqA 0
            have x1 : X.cell? ⟨wr.heap.size, 1, none⟩ = some (.slice p2 m2 d2) := cellB hqA 1
            have hlX : wr.heap.size < X.heap.size := (Array.getElem?_eq_some_iff.1 hqA).1
            have hlb : b' < X.heap.size := World.block_lt_of_cell? _ _ f0'
            clear e0 e1 f0 f1 hbr hbr' hqA hA HLr
            refine wp_region_lat (by kernel_rfl) (by kernel_rfl) ?_
            intro hne
            repeat (go_big_quiet_step ((go_at_call 10; exact lat_of (KS.out _ (Lat.below _)))))
            refine wpQuiet_nil ?_
            intro w4 hb4
            have Hb4 : Hid (Below X.heap.size X w4) := lat_out hb4
            have y0 := cell_later Hb4.out x0
            have y1 := cell_later Hb4.out x1
            have HL4 : Hid (LRow w2 w4 n12 vL ll) := HLA.out.later Hb4.out
            have hl4 : wr.heap.size < w4.heap.size := Nat.lt_of_lt_of_le hlX Hb4.out.size
            clear hne hb4 x0 x1 HLA f0' f1' hlb
            generalize wr.heap.size = n14 at *
            obtain ⟨aL', cL', rfl⟩ := own_len HL4.out.row
            go_wp2_with (first | (go_at_call 19; refine (KW.out _ Hb4.out).mono ?_; rintro e w5 ⟨hb5, v5, rfl, ho5, hs5⟩; obtain ⟨aw, cw, rfl⟩ := own_len ho5; have HL5 : Hid (LRow w2 w5 n12 (.slice aL' ll.length cL') ll) := HL4.out.later hb5; have c12 : w5.cell? ⟨n12, 0, none⟩ = some (.slice aL' ll.length cL') := cellB HL5.out.q 0; have z12 := frozenB HL5.out.q 0; have l12 : n12 < w5.heap.size := (Array.getElem?_eq_some_iff.1 HL5.out.q).1; have HSr : Hid _ := ar_strs_src (row_strs ho5 hs5); have Hs5 : Hid _ := hs5; clear hb5 ho5 hs5) | (at_builtin; refine wpList_append_src _ rfl _ _ 35 rfl w2.heap.size 9 j0 (.string ⟨#[]⟩) 1 16 Try.underlying35 hj0 hy0 hy1 hy2 rfl (by decide) _ ll.length (ll.map Value.string) rfl HL5.out.row _ wn.length (wn.map Value.string) rfl HSr.out (by simp) (fun u hu => by obtain ⟨b, _, rfl⟩ := List.mem_map.1 hu; rfl) (by unfold maxLen; omega) (by omega) HL5.out.below.size ?_; intro v6 w6 ho6 hg6; obtain ⟨a6, c6, rfl⟩ := own_len ho6; have HL6 : Hid _ := LRow.push HL5.out hg6 ho6 Hs5.out; have z := block_kept HL5.out.row hg6 HL5.out.q (by decide); have c13 := cellB z 0; have z13 := frozenB z 0; have l13 : n12 < w6.heap.size := (Array.getElem?_eq_some_iff.1 z).1; clear z ho6 hg6))
            go_roundw
            case rel => exact ⟨j + 1, _, by omega, by go_num, by rw [HLt.out]; exact HL6.out⟩
            case measure => simp [intOf]; omega
          · obtain rfl : j = qs.length := by omega
            rw [List.take_length] at HLr
            have HLk : Hid (LkVar wr n12 (M.lackNames first qs)) := HLr.out.lk
            have HBc : Hid (Below w2.heap.size w2 wr) := HLr.out.below
            have HF0 : Hid (∀ p ∈ more.take 0, (p.defs.any fun d => M.has (M.lackNames first qs) d.name) = false) := fun p hp => by cases hp
            clear HLr HWl HLL
            have HPm : Hid (∀ W, Below w2.heap.size w2 W → PartsAt W (.slice a2 more.length c2) more) := fun W hW => HP2.out.later (HB2.out.trans (hW.mono HB2.out.size))
            have HMore : Hid ((∀ p ∈ more, (p.defs.any fun d => M.has (M.lackNames first qs) d.name) = false) → (M.choose (qs.map M.plainItem ++ [⟨true, more⟩]) first).2 = 0 → (M.choose (qs.map M.plainItem ++ [⟨true, more⟩]) first).1 = qs) := fun hm h => M.plain_more (fun p hp d hd n hn e => by
              have h1 := hm p hp
              have h2 : (p.defs.any fun d => M.has (M.lackNames first qs) d.name) = true := List.any_eq_true.2 ⟨d, hd, List.any_eq_true.2 ⟨n, hn, by rw [ByteArray.toList_eq, ByteArray.toList_eq, e]; simp⟩⟩
              rw [h1] at h2
              cases h2) h
            clear hj
            generalize M.lackNames first qs = ll at *
            go_wp2_with fail
            generalize wr = WC at *
            go_loopw [84] (fun s84 wr => ∃ (j : Nat), j ≤ more.length ∧ s84 = .int .i64 j ∧ Hid (Below WC.heap.size WC wr) ∧ Hid (∀ p ∈ more.take j, (p.defs.any fun d => M.has ll d.name) = false)) (fun s84 _ => more.length - (intOf s84).toNat)
            case atStart => exact ⟨0, Nat.zero_le _, rfl, Below.refl _ _, HF0⟩
            case round =>
              obtain ⟨j, hj, rfl, HB, HF⟩ := hrel
              clear HF0
              have HBw : Hid (Below w2.heap.size w2 wr) := HBc.out.trans (HB.out.mono HBc.out.size)
              by_cases hlt : j < more.length
              · obtain ⟨b, off, p1, p2, d1, d2, rfl, e0, e1, hf, hd⟩ := part_at (HPm.out wr HBw.out) j hlt
                have hjl : (j : Int) < (more.length : Int) := by omega
                have hbr : b < wr.heap.size := World.block_lt_of_cell? _ _ e0
                have hA : Below wr.heap.size wr (wr.alloc (.cells #[.slice p1 (more.getD j M.nil).frags.length d1, .slice p2 (more.getD j M.nil).defs.length d2] 25)) := (Below.refl _ _).alloc (Nat.le_refl _) _
                have HA : Hid _ := hA
                have KN : Hid (Calls Try.prog 35 #[.slice p2 (more.getD j M.nil).defs.length d2, .func (.func 40) #[] #[.pointer (some ⟨n12, 0, none⟩)]] (wr.alloc (.cells #[.slice p1 (more.getD j M.nil).frags.length d1, .slice p2 (more.getD j M.nil).defs.length d2] 25)) fun e w' => e = .returned (.bool ((more.getD j M.nil).defs.any (fun d => M.has ll d.name))) ∧ Below (wr.alloc (.cells #[.slice p1 (more.getD j M.nil).frags.length d1, .slice p2 (more.getD j M.nil).defs.length d2] 25)).heap.size (wr.alloc (.cells #[.slice p1 (more.getD j M.nil).frags.length d1, .slice p2 (more.getD j M.nil).defs.length d2] 25)) w') := containsPlain_any _ _ _ n12 ll _ (hd.later hA) ((HLk.out.later HB.out).later hA)
                have HF1 : Hid ((more.getD j M.nil).defs.any (fun d => M.has ll d.name) = false → ∀ p ∈ more.take (j + 1), (p.defs.any fun d => M.has ll d.name) = false) := fun h p hp => by
                  rw [List.take_succ_eq_append_getElem hlt] at hp
                  rcases List.mem_append.1 hp with hp | hp
                  · exact HF.out p hp
                  · rw [List.mem_singleton.1 hp]
                    rw [List.getD_eq_getElem?_getD, List.getElem?_eq_getElem hlt] at h
                    exact h
                clear hf hd hA HF
                generalize (more.getD j M.nil).defs.any (fun d => M.has ll d.name) = R at *
                generalize (more.getD j M.nil).frags.length = m1 at *
                generalize (more.getD j M.nil).defs.length = m2 at *
                cases R
                · go_wp2_with (go_at_call 35; refine KN.out.mono ?_; rintro e w4 ⟨rfl, hb4⟩)
                  go_roundw
                  case rel => exact ⟨j + 1, by omega, by go_num, HB.out.trans ((HA.out.trans (hb4.mono HA.out.size)).mono HB.out.size), HF1.out (by simp)⟩
                  case measure => simp [intOf]; omega
                · go_wp2_with (go_at_call 35; refine KN.out.mono ?_; rintro e w4 ⟨rfl, hb4⟩)
                  go_ret
                  have b1 := HBw.out.trans ((HA.out.trans (hb4.mono HA.out.size)).mono HBw.out.size)
                  exact ⟨rfl, HB2.out.trans (b1.mono HB2.out.size)⟩
              · obtain rfl : j = more.length := by omega
                rw [List.take_length] at HF
                have hA : Below wr.heap.size wr (wr.alloc (.cells #[.bool true, .slice a2 more.length c2] 63)) := (Below.refl _ _).alloc (Nat.le_refl _) _
                have HI3 : Hid (IRow w (wr.alloc (.cells #[.bool true, .slice a2 more.length c2] 63)) es (.slice aI qs.length cI)) := (HI2.out.later HBw.out).later hA
                have HSr : Hid (Src (wr.alloc (.cells #[.bool true, .slice a2 more.length c2] 63)) (.slice (some ⟨wr.heap.size, 0, none⟩) 1 1) 1 (ientCells ⟨⟨true, more⟩, .slice a2 more.length c2⟩)) := item_src (e := ⟨⟨true, more⟩, .slice a2 more.length c2⟩) (heap_alloc_new wr _) 1
                have HGd : Hid (IGood w (wr.alloc (.cells #[.bool true, .slice a2 more.length c2] 63)) ⟨⟨true, more⟩, .slice a2 more.length c2⟩) := .inl ⟨a2, c2, rfl, HP2.out⟩
                have HO3 : Hid (OutAt (wr.alloc (.cells #[.bool true, .slice a2 more.length c2] 63)) (.slice ao qs.length co) qs) := (HOo.out.later HBw.out).later hA
                have HEq : Hid ((es ++ [(⟨⟨true, more⟩, .slice a2 more.length c2⟩ : IEnt)]).map (·.it) = qs.map M.plainItem ++ [⟨true, more⟩]) := by
                  rw [Hid, List.map_append, HE.out]; rfl
                have hel : es.length ≤ 11 := by rw [HL.out]; omega
                have HM := HMore.out HF.out
                have HMo : Hid _ := HM
                clear HM hA HF HMore HPm HLk
                by_cases h0 : (M.choose (qs.map M.plainItem ++ [⟨true, more⟩]) first).2 = 0
                · have KC2 : Hid (∀ W v, ItemsAt W v (qs.map M.plainItem ++ [⟨true, more⟩]) → Below w.heap.size w W → Calls Try.prog 31 #[v, .slice a3 first.length c3] W fun e w' => ∃ v', e = .returned (.tuple #[v', .int .i64 0]) ∧ ChOut W w' v' qs) := fun W v hv hW => by
                    have := choose_v hv (HS3.out.later hW)
                    rw [h0, HMo.out h0] at this
                    exact this
                  clear h0 HMo
                  go_wp2_with (first | (at_builtin; refine wpList_append_src _ rfl _ _ 64 rfl w.heap.size 63 i0 (.agg #[.bool false, .slice none 0 0]) 2 32 Try.underlying64 hi0 hz0 hz1 hz2 rfl (by decide) _ es.length _ rfl HI3.out.row _ 1 _ rfl HSr.out rfl (fun u hu => by simp only [ientCells, List.mem_cons, List.not_mem_nil, or_false] at hu; rcases hu with rfl | rfl <;> rfl) (by unfold maxLen; omega) (by omega) HI3.out.below.size ?_; intro v1 w5 ho1 hg1; have HI5 : Hid _ := HI3.out.push HGd.out hg1 ho1; have HIt : Hid (ItemsAt w5 v1 (qs.map M.plainItem ++ [⟨true, more⟩])) := (by rw [Hid, ← HEq.out]; exact IRow.items HI5.out); have HO5 : Hid (PartsAt w5 (.slice ao qs.length co) qs) := (OutAt.keptI HO3.out HI3.out.row hg1).parts; have HB5 : Hid (Below w.heap.size w w5) := IRow.below HI5.out; clear ho1 hg1 HI5) | (go_at_call 31; refine (KC2.out _ _ HIt.out HB5.out).mono ?_; rintro e w6 ⟨v6, rfl, hO6⟩; obtain ⟨a6, c6, rfl⟩ := hO6.parts.form; have HO6 : Hid _ := hO6; clear hO6) | (go_at_call 41; refine (eqParts_refl qs (ChOut.parts HO6.out) (HO5.out.later HO6.out.1)).mono ?_; rintro e w7 ⟨rfl, hb7⟩))
                  go_ret
                  have b1 := HO6.out.1.trans (hb7.mono HO6.out.1.size)
                  exact ⟨rfl, HB5.out.trans (b1.mono HB5.out.size)⟩
                · have hne : ((M.choose (qs.map M.plainItem ++ [⟨true, more⟩]) first).2 != 0) = true := by simp [h0]
                  have KC2 : Hid (∀ W v, ItemsAt W v (qs.map M.plainItem ++ [⟨true, more⟩]) → Below w.heap.size w W → Calls Try.prog 31 #[v, .slice a3 first.length c3] W fun e w' => ∃ v', e = .returned (.tuple #[v', .int .i64 (M.choose (qs.map M.plainItem ++ [⟨true, more⟩]) first).2]) ∧ ChOut W w' v' (M.choose (qs.map M.plainItem ++ [⟨true, more⟩]) first).1) := fun W v hv hW => choose_v hv (HS3.out.later hW)
                  clear h0 HMo
                  generalize (M.choose (qs.map M.plainItem ++ [⟨true, more⟩]) first).2 = er at *
                  go_wp2_with (first | (at_builtin; refine wpList_append_src _ rfl _ _ 64 rfl w.heap.size 63 i0 (.agg #[.bool false, .slice none 0 0]) 2 32 Try.underlying64 hi0 hz0 hz1 hz2 rfl (by decide) _ es.length _ rfl HI3.out.row _ 1 _ rfl HSr.out rfl (fun u hu => by simp only [ientCells, List.mem_cons, List.not_mem_nil, or_false] at hu; rcases hu with rfl | rfl <;> rfl) (by unfold maxLen; omega) (by omega) HI3.out.below.size ?_; intro v1 w5 ho1 hg1; have HI5 : Hid _ := HI3.out.push HGd.out hg1 ho1; have HIt : Hid (ItemsAt w5 v1 (qs.map M.plainItem ++ [⟨true, more⟩])) := (by rw [Hid, ← HEq.out]; exact IRow.items HI5.out); have HO5 : Hid (PartsAt w5 (.slice ao qs.length co) qs) := (OutAt.keptI HO3.out HI3.out.row hg1).parts; have HB5 : Hid (Below w.heap.size w w5) := IRow.below HI5.out; clear ho1 hg1 HI5) | (go_at_call 31; refine (KC2.out _ _ HIt.out HB5.out).mono ?_; rintro e w6 ⟨v6, rfl, hO6⟩; obtain ⟨a6, c6, rfl⟩ := hO6.parts.form; have HO6 : Hid _ := hO6; clear hO6))
                  go_ret
                  exact ⟨rfl, HB5.out.trans (HO6.out.1.mono HB5.out.size)⟩
      · have hne : ((M.choose (qs.map M.plainItem) first).2 != 0) = true := by simp [h0]
        clear h0
        generalize (M.choose (qs.map M.plainItem) first).2 = er at *
        go_upto_region 9 with (first | (go_at_call 31; refine KC.out.mono ?_; rintro e w1 ⟨v, rfl, hO⟩; obtain ⟨ao, co, rfl⟩ := hO.parts.form; have HO : Hid _ := hO; clear hO) | (go_at_call 32; refine (taken_true _).mono ?_; rintro e w2 ⟨rfl, hb2⟩; have Hb2 : Hid _ := hb2; clear hb2))
        have b12 : Below wr.heap.size wr w2 := HO.out.1.trans (Hb2.out.mono HO.out.1.size)
        have HB2 : Hid (Below w.heap.size w w2) := HB0.out.trans (b12.mono HB0.out.size)
        clear b12 HO Hb2 KC
        go_wp2_with (go_at_call 32; refine (taken_true _).mono ?_; rintro e w3 ⟨rfl, hb3⟩)
        go_ret
        exact ⟨rfl, HB2.out.trans (hb3.mono HB2.out.size)⟩

end Go.Proofs.Ytebhbhbhcoijpaa
