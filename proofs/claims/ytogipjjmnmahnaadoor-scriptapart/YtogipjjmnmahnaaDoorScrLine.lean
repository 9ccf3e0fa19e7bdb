/-
  The contract of addLine.
-/
import Derived.Test.YtogipjjmnmahnaaDoorScrAddP
namespace Go.Proofs.YtogipjjmnmahnaaDoor
open Go Go.RowKit
set_option linter.unusedVariables false
attribute [local go_sem] lat_cell

theorem piece_le (c : UInt8) : ∀ (t : M.Txt), ∀ x ∈ M.pieces c t, x.length ≤ t.length
  | [], x, h => by simp [M.pieces] at h; subst h; simp
  | b :: l, x, h => by
    have ih := piece_le c l
    rw [M.pieces] at h
    by_cases hb : b = c
    · rw [if_pos hb] at h
      rcases List.mem_cons.1 h with rfl | h
      · simp
      · have := ih x h; simp; omega
    · rw [if_neg hb] at h
      cases hp : M.pieces c l with
      | nil => exact absurd hp (pieces_ne c l)
      | cons y r =>
        rw [hp] at h ih
        simp only [M.push] at h
        rcases List.mem_cons.1 h with rfl | h
        · have := ih y (by simp); simp; omega
        · have := ih x (by simp [h]); simp; omega

theorem five_some {l : List M.Txt} {a b c d e : M.Txt} (h : M.five l = some (a, b, c, d, e)) : l = [a, b, c, d, e] ∧ a ≠ [] ∧ b ≠ [] ∧ c ≠ [] ∧ d ≠ [] ∧ e ≠ [] := by
  match l, h with
  | [], h | [_], h | [_, _], h | [_, _, _], h | [_, _, _, _], h => cases h
  | [a', b', c', d', e'], h =>
    have h : (if a' = [] ∨ b' = [] ∨ c' = [] ∨ d' = [] ∨ e' = [] then none else some (a', b', c', d', e')) = some (a, b, c, d, e) := h
    split at h
    · cases h
    · rename_i hn
      cases h
      simp only [not_or] at hn
      exact ⟨rfl, hn⟩
  | _ :: _ :: _ :: _ :: _ :: _ :: _, h => cases h

theorem own_block {w : World} {B k n : Nat} {e : TypeId} {v : Value} {xs : List Value} (h : w.ownsRow B e k v n xs) (hn : 0 < n) : ∃ g cap, v = .slice (some ⟨g, 0, none⟩) n cap := by
  rcases h.2 with ⟨h1, h2⟩ | ⟨g, cap, cur, h1, _⟩
  · omega
  · exact ⟨_, _, h1⟩

theorem onLast_append (g : M.Frg → M.Frg) : ∀ (i : List M.Frg) (l : M.Frg), M.onLast g (i ++ [l]) = i ++ [g l]
  | [], l => rfl
  | [x], l => rfl
  | x :: y :: i, l => by
    have := onLast_append g (y :: i) l
    simp only [List.cons_append] at this ⊢
    rw [M.onLast, this]
    simp

/-- a part that is not too great -/
def Few (p : M.Prt) (k : Nat) : Prop := p.frags.length ≤ k ∧ p.defs.length ≤ k ∧ ∀ f ∈ p.frags, f.rels.length ≤ k

theorem word_eq {t : M.Txt} {c : List UInt8} (h : ((M.str t).toList == c) = true) : t = c := by
  rw [Lib.toList_data, beq_iff_eq] at h
  simpa [M.str] using h
theorem word_ne {t : M.Txt} {c : List UInt8} (h : ((M.str t).toList == c) = false) : t ≠ c := by
  rw [Lib.toList_data, beq_eq_false_iff_ne] at h
  exact fun e => h (by rw [e]; simp [M.str])

/-- what a line of five words does -/
def Does (B b : Nat) (w : World) (o : Option M.Prt) (e : Ending) (w' : World) : Prop := e = .returned (.bool o.isSome) ∧ Below B w w' ∧ (∃ vF vD, w'.heap[b]? = some (.cells #[vF, vD] 25 (0, 0))) ∧ ∀ q, o = some q → HasPart w' B b q

theorem frag_line (es : List Ent) (ds : List M.Dfn) (vF vD : Value) (w0 w1 w2 w3 w4 : M.Txt) (B b : Nat) (w : World) (hP : PM w B b es ds vF vD) (hG : Glob w) (h2 : w2.length ≤ 100000) (h3 : w3.length ≤ 100000) (h4 : w4.length ≤ 100000) (hB : B ≤ w.heap.size) (hn : es.length ≤ 100000) :
    Calls Tryd.prog 31 #[.pointer (some ⟨b, 0, none⟩), .agg #[.string (M.str w0), .string (M.str w1), .string (M.str w2), .string (M.str w3), .string (M.str w4)]] w (Does B b w (M.addFrag ⟨es.map (·.f), ds⟩ w1 w2 w3 w4)) := by
  unfold M.addFrag
  cases hf : M.find M.sectT w1 with
  | none => exact (addFrag_no w0 w1 w2 w3 w4 b w hG h2 (.inl hf)).mono fun e w' ⟨he, hb⟩ => ⟨he, hb.mono hB, ⟨_, _, (hP.later hb).blk⟩, fun q hq => by cases hq⟩
  | some k =>
    cases ha : M.num w2 with
    | none => exact (addFrag_no w0 w1 w2 w3 w4 b w hG h2 (.inr ha)).mono fun e w' ⟨he, hb⟩ => ⟨he, hb.mono hB, ⟨_, _, (hP.later hb).blk⟩, fun q hq => by cases hq⟩
    | some a =>
      simp only
      by_cases hk : k = 5
      · subst hk
        rw [if_pos rfl]
        refine (addFrag_zero es ds vF vD w0 w1 w2 w3 w4 B b a w hP hG h2 h4 hB hn hf ha h3).mono ?_
        rintro e w' ⟨rfl, hb, v', hv⟩
        refine ⟨by rw [Option.isSome_map], hb, ⟨_, _, hv.blk⟩, fun q hq => ?_⟩
        obtain ⟨n, hn4, rfl⟩ := Option.map_eq_some_iff.1 hq
        rw [hn4] at hv
        exact ⟨_, _, _, _, hv, by simp⟩
      · rw [if_neg hk]
        refine (addFrag_bytes es ds vF vD w0 w1 w2 w3 w4 B b k a w hP hG h2 h4 hB hn hf (by simp; omega) ha h3).mono ?_
        rintro e w' ⟨rfl, hb, hbk, hv⟩
        refine ⟨by rw [Option.isSome_map], hb, hbk, fun q hq => ?_⟩
        obtain ⟨bs, hbs, rfl⟩ := Option.map_eq_some_iff.1 hq
        obtain ⟨bv, v', hv⟩ := hv bs hbs
        exact ⟨_, _, _, _, hv, by simp⟩

theorem def_line (es : List Ent) (ds : List M.Dfn) (vF vD : Value) (w0 w1 w2 w3 w4 : M.Txt) (B b : Nat) (w : World) (hP : PM w B b es ds vF vD) (hG : Glob w) (h1 : w1.length ≤ 100000) (h3 : w3.length ≤ 100000) (h4 : w4.length ≤ 100000) (hB : B ≤ w.heap.size) (hn : ds.length ≤ 100000) :
    Calls Tryd.prog 33 #[.pointer (some ⟨b, 0, none⟩), .agg #[.string (M.str w0), .string (M.str w1), .string (M.str w2), .string (M.str w3), .string (M.str w4)]] w (Does B b w (M.addDef ⟨es.map (·.f), ds⟩ w1 w2 w3 w4)) := by
  refine (addDef_any es ds vF vD w0 w1 w2 w3 w4 B b w hP hG h1 h3 h4 hB hn).mono ?_
  rintro e w' ⟨rfl, hb, hbk, hv⟩
  refine ⟨by rw [M.addDef, Option.isSome_map], hb, hbk, fun q hq => ?_⟩
  obtain ⟨d, hd, rfl⟩ := Option.map_eq_some_iff.1 hq
  obtain ⟨v', hv⟩ := hv d hd
  exact ⟨_, _, _, _, hv, rfl⟩

theorem place_line (init : List Ent) (l : Ent) (ds : List M.Dfn) (vD : Value) (w0 w1 w2 w3 w4 : M.Txt) (B b g cap : Nat) (w : World) (hP : PM w B b (init ++ [l]) ds (.slice (some ⟨g, 0, none⟩) (init.length + 1) cap) vD) (hG : Glob w) (h1 : w1.length ≤ 100000) (h3 : w3.length ≤ 100000) (h4 : w4.length ≤ 100000) (hB : B ≤ w.heap.size) (hn : l.f.rels.length ≤ 100000) :
    Calls Tryd.prog 32 #[.pointer (some ⟨g, init.length * 6, none⟩), .agg #[.string (M.str w0), .string (M.str w1), .string (M.str w2), .string (M.str w3), .string (M.str w4)]] w (Does B b w (M.addPlace ⟨(init ++ [l]).map (·.f), ds⟩ w1 w2 w3 w4)) := by
  refine (addPlace_any init l ds vD w0 w1 w2 w3 w4 B b g cap w hP hG h1 h3 h4 hB hn).mono ?_
  rintro e w' ⟨rfl, hb, hbk, hv⟩
  have hne : ¬ ((init ++ [l]).map (·.f) = []) := by simp
  refine ⟨by rw [M.addPlace, if_neg hne, Option.isSome_map], hb, hbk, fun q hq => ?_⟩
  rw [M.addPlace, if_neg hne] at hq
  obtain ⟨r, hr, rfl⟩ := Option.map_eq_some_iff.1 hq
  obtain ⟨v', hv⟩ := hv r hr
  refine ⟨_, _, _, _, hv, ?_⟩
  simp only [List.map_append, List.map_cons, List.map_nil]
  rw [onLast_append]

set_option maxHeartbeats 4000000 in
set_option maxRecDepth 100000 in
theorem line_none (t : M.Txt) (ht : t.length ≤ 100000) (b : Nat) (w : World) (hG : Glob w) (h5 : M.five (M.pieces 32 t) = none) :
    Calls Tryd.prog 20 #[.pointer (some ⟨b, 0, none⟩), .string (M.str t)] w fun e w' => e = .returned (.bool false) ∧ Below w.heap.size w w' := by
  have hS : Hid (Calls Tryd.prog 30 #[.string (M.str t)] w fun e w' => e = splits none ∧ Below w.heap.size w w') := by
    have := split_any (M.str t) (by rw [str_size]; exact ht) w hG
    rwa [txt_str, h5] at this
  simp only [splits] at hS
  go_enter Tryd.func20, Tryd.ntmps20
  go_wp2_with (go_at_call 30; refine hS.out.mono ?_; rintro e x1 ⟨rfl, hb1⟩)
  go_ret
  exact ⟨rfl, hb1.alloc hb1.size _⟩

/-- the words are there -/
theorem line_words {t w0 w1 w2 w3 w4 : M.Txt} (ht : t.length ≤ 100000) (h5 : M.five (M.pieces 32 t) = some (w0, w1, w2, w3, w4)) : w1.length ≤ 100000 ∧ w2.length ≤ 100000 ∧ w3.length ≤ 100000 ∧ w4.length ≤ 100000 := by
  have h := (five_some h5).1
  have hp := piece_le 32 t
  rw [h] at hp
  have a := hp w1 (by simp)
  have b := hp w2 (by simp)
  have c := hp w3 (by simp)
  have d := hp w4 (by simp)
  omega

set_option maxHeartbeats 4000000 in
set_option maxRecDepth 100000 in
theorem line_raw (O : Option M.Prt) (es : List Ent) (ds : List M.Dfn) (vF vD : Value) (t : M.Txt) (ht : t.length ≤ 100000) (B b : Nat) (w : World) (hP : PM w B b es ds vF vD) (hG : Glob w) (hB : B ≤ w.heap.size) (hn : es.length ≤ 100000) (hm : ds.length ≤ 100000) (hr : ∀ e ∈ es, e.f.rels.length ≤ 100000)
    (w0 w1 w2 w3 w4 : M.Txt) (h5 : M.five (M.pieces 32 t) = some (w0, w1, w2, w3, w4)) (HO : Hid (O = M.addWords ⟨es.map (·.f), ds⟩ w0 w1 w2 w3 w4)) :
    Calls Tryd.prog 20 #[.pointer (some ⟨b, 0, none⟩), .string (M.str t)] w (Does B b w O) := by
  obtain ⟨hw1, hw2, hw3, hw4⟩ := line_words ht h5
  have hS : Hid (Calls Tryd.prog 30 #[.string (M.str t)] w fun e w' => e = splits (some (w0, w1, w2, w3, w4)) ∧ Below w.heap.size w w') := by
    have := split_any (M.str t) (by rw [str_size]; exact ht) w hG
    rwa [txt_str, h5] at this
  simp only [splits] at hS
  clear h5 ht
  obtain ⟨aD, cD, rfl⟩ := own_len hP.rowD
  obtain ⟨aF, cF, rfl⟩ := own_len hP.rowF
  go_enter Tryd.func20, Tryd.ntmps20
  go_wp2_with (go_at_call 30; refine hS.out.mono ?_; rintro e x1 ⟨rfl, hb1⟩; refine Hid.out ?_)
  have q1 : (x1.alloc (.cells #[.string (M.str w0), .string (M.str w1), .string (M.str w2), .string (M.str w3), .string (M.str w4)] 74)).heap[x1.heap.size]? = some (.cells #[.string (M.str w0), .string (M.str w1), .string (M.str w2), .string (M.str w3), .string (M.str w4)] 74 (0, 0)) := heap_alloc_new _ _
  have HX : Hid (Below w.heap.size w (x1.alloc (.cells #[.string (M.str w0), .string (M.str w1), .string (M.str w2), .string (M.str w3), .string (M.str w4)] 74))) := hb1.alloc hb1.size _
  have hPX := hP.later HX.out
  have hGX := hG.later HX.out
  have hPx := hP.later hb1
  have p0 : x1.cell? ⟨b, 0, none⟩ = some (.slice aF es.length cF) := cellB hPx.blk 0
  have p1 : x1.cell? ⟨b, 1, none⟩ = some (.slice aD ds.length cD) := cellB hPx.blk 1
  have hbx : b < x1.heap.size := (Array.getElem?_eq_some_iff.1 hPx.blk).1
  clear hS
  refine Lib.hid ?_
  cases c1 : ((M.str w0).toList == [102, 114, 97, 103])
  · have HN1 : Hid (w0 ≠ M.wFrag) := word_ne c1
    cases c2 : ((M.str w0).toList == [97, 116])
    · have HN2 : Hid (w0 ≠ M.wAt) := word_ne c2
      cases c3 : ((M.str w0).toList == [100, 101, 102])
      · have HN3 : Hid (w0 ≠ M.wDef) := word_ne c3
        have HW : Hid (O = none) := by
          rw [Hid, HO.out, M.addWords, if_neg HN1.out, if_neg HN2.out, if_neg HN3.out]
        go_wp2
        go_ret
        rw [HW.out]
        exact ⟨rfl, HX.out.mono hB, ⟨_, _, hPX.blk⟩, fun q hq => by cases hq⟩
      · have HW : Hid (O = M.addDef ⟨es.map (·.f), ds⟩ w1 w2 w3 w4) := by
          rw [Hid, HO.out, M.addWords, if_neg HN1.out, if_neg HN2.out, if_pos (show w0 = M.wDef from word_eq c3)]
        have HC : Hid (Calls Tryd.prog 33 #[.pointer (some ⟨b, 0, none⟩), .agg #[.string (M.str w0), .string (M.str w1), .string (M.str w2), .string (M.str w3), .string (M.str w4)]] (x1.alloc (.cells #[.string (M.str w0), .string (M.str w1), .string (M.str w2), .string (M.str w3), .string (M.str w4)] 74)) (Does B b (x1.alloc (.cells #[.string (M.str w0), .string (M.str w1), .string (M.str w2), .string (M.str w3), .string (M.str w4)] 74)) (M.addDef ⟨es.map (·.f), ds⟩ w1 w2 w3 w4))) :=
          def_line es ds _ _ w0 w1 w2 w3 w4 B b _ hPX hGX hw1 hw3 hw4 (Nat.le_trans hB HX.out.size) hm
        go_wp2_with (go_at_call 33; refine HC.out.mono ?_; rintro e x2 ⟨rfl, hb2, hk2, hp2⟩)
        go_ret
        rw [HW.out]
        exact ⟨rfl, (HX.out.mono hB).trans hb2, hk2, hp2⟩
    · have HWd : Hid (O = if ds = [] then M.addPlace ⟨es.map (·.f), ds⟩ w1 w2 w3 w4 else none) := by
        rw [Hid, HO.out, M.addWords, if_neg HN1.out, if_pos (show w0 = M.wAt from word_eq c2)]
      by_cases hds : ds = []
      · have HW1 : Hid (O = M.addPlace ⟨es.map (·.f), ds⟩ w1 w2 w3 w4) := by rw [Hid, HWd.out, if_pos hds]
        have hdl : ((ds.length : Int) == 0) = true := by simp [hds]
        clear HWd hds
        rcases List.eq_nil_or_concat es with hes | ⟨init, l, hes⟩
        · have HW2 : Hid (O = none) := by rw [Hid, HW1.out, M.addPlace, if_pos (by rw [hes]; rfl)]
          have hel : es.length = 0 := by rw [hes]; rfl
          clear hes HW1
          rw [hel] at p0
          go_wp2_with fail
          have P0 : (x1.alloc (.cells #[.string (M.str w0), .string (M.str w1), .string (M.str w2), .string (M.str w3), .string (M.str w4)] 74)).cell? ⟨b, 0, none⟩ = some (.slice aF es.length cF) := cellB hPX.blk 0
          have P1 : (x1.alloc (.cells #[.string (M.str w0), .string (M.str w1), .string (M.str w2), .string (M.str w3), .string (M.str w4)] 74)).cell? ⟨b, 1, none⟩ = some (.slice aD ds.length cD) := cellB hPX.blk 1
          have Q0 : (x1.alloc (.cells #[.string (M.str w0), .string (M.str w1), .string (M.str w2), .string (M.str w3), .string (M.str w4)] 74)).cell? ⟨x1.heap.size, 0, none⟩ = some (.string (M.str w0)) := cellB q1 0
          have Q1 : (x1.alloc (.cells #[.string (M.str w0), .string (M.str w1), .string (M.str w2), .string (M.str w3), .string (M.str w4)] 74)).cell? ⟨x1.heap.size, 1, none⟩ = some (.string (M.str w1)) := cellB q1 1
          have Q2 : (x1.alloc (.cells #[.string (M.str w0), .string (M.str w1), .string (M.str w2), .string (M.str w3), .string (M.str w4)] 74)).cell? ⟨x1.heap.size, 2, none⟩ = some (.string (M.str w2)) := cellB q1 2
          have Q3 : (x1.alloc (.cells #[.string (M.str w0), .string (M.str w1), .string (M.str w2), .string (M.str w3), .string (M.str w4)] 74)).cell? ⟨x1.heap.size, 3, none⟩ = some (.string (M.str w3)) := cellB q1 3
          have Q4 : (x1.alloc (.cells #[.string (M.str w0), .string (M.str w1), .string (M.str w2), .string (M.str w3), .string (M.str w4)] 74)).cell? ⟨x1.heap.size, 4, none⟩ = some (.string (M.str w4)) := cellB q1 4
          generalize hWW : (x1.alloc (.cells #[.string (M.str w0), .string (M.str w1), .string (M.str w2), .string (M.str w3), .string (M.str w4)] 74)) = W at *
          clear hWW q1 p0 p1
          have P0' := P0
          rw [hel] at P0'
          clear P0
          have hBW : B ≤ W.heap.size := Nat.le_trans hB HX.out.size
          refine wp_region_tail 18 (by kernel_rfl) (by kernel_rfl) ?_
          intro hne
          simp only [List.take_succ_cons, List.take_zero, List.drop_succ_cons, List.drop_zero]
          repeat (go_big_quiet_step (fail))
          refine wpQuiet_nil ?_
          intro x2 hb2
          have hb2 := lat_out hb2
          go_wp2
          go_ret
          rw [HW2.out]
          exact ⟨rfl, (HX.out.mono hB).trans (hb2.mono hBW), ⟨_, _, (hPX.later hb2).blk⟩, fun q hq => by cases hq⟩
        · rw [List.concat_eq_append] at hes
          subst hes
          obtain ⟨g, cap, hv⟩ := own_block hPX.rowF (by simp)
          obtain ⟨rfl, hlen, rfl⟩ : aF = some ⟨g, 0, none⟩ ∧ True ∧ cF = cap := by cases hv; exact ⟨rfl, trivial, rfl⟩
          clear hv hlen
          have hrl := hr l (by simp)
          rw [List.length_append, List.length_singleton] at p0 hPX hn
          obtain ⟨O2, hO2⟩ : ∃ O2, O2 = M.addPlace ⟨(init ++ [l]).map (·.f), ds⟩ w1 w2 w3 w4 := ⟨_, rfl⟩
          have HW3 : Hid (O = O2) := by rw [Hid, HW1.out, hO2]
          have HC : Hid (∀ W, Below (x1.alloc (.cells #[.string (M.str w0), .string (M.str w1), .string (M.str w2), .string (M.str w3), .string (M.str w4)] 74)).heap.size (x1.alloc (.cells #[.string (M.str w0), .string (M.str w1), .string (M.str w2), .string (M.str w3), .string (M.str w4)] 74)) W → Calls Tryd.prog 32 #[.pointer (some ⟨g, init.length * 6, none⟩), .agg #[.string (M.str w0), .string (M.str w1), .string (M.str w2), .string (M.str w3), .string (M.str w4)]] W (Does B b W O2)) := fun W hW => hO2 ▸
            place_line init l ds _ w0 w1 w2 w3 w4 B b g cF W (hPX.later hW) (hGX.later hW) hw1 hw3 hw4 (Nat.le_trans (Nat.le_trans hB HX.out.size) hW.size) hrl
          clear hO2 HW1 HO
          go_wp2_with fail
          have P0 : (x1.alloc (.cells #[.string (M.str w0), .string (M.str w1), .string (M.str w2), .string (M.str w3), .string (M.str w4)] 74)).cell? ⟨b, 0, none⟩ = some (.slice (some ⟨g, 0, none⟩) (init.length + 1) cF) := cellB hPX.blk 0
          have P1 : (x1.alloc (.cells #[.string (M.str w0), .string (M.str w1), .string (M.str w2), .string (M.str w3), .string (M.str w4)] 74)).cell? ⟨b, 1, none⟩ = some (.slice aD ds.length cD) := cellB hPX.blk 1
          have Q0 : (x1.alloc (.cells #[.string (M.str w0), .string (M.str w1), .string (M.str w2), .string (M.str w3), .string (M.str w4)] 74)).cell? ⟨x1.heap.size, 0, none⟩ = some (.string (M.str w0)) := cellB q1 0
          have Q1 : (x1.alloc (.cells #[.string (M.str w0), .string (M.str w1), .string (M.str w2), .string (M.str w3), .string (M.str w4)] 74)).cell? ⟨x1.heap.size, 1, none⟩ = some (.string (M.str w1)) := cellB q1 1
          have Q2 : (x1.alloc (.cells #[.string (M.str w0), .string (M.str w1), .string (M.str w2), .string (M.str w3), .string (M.str w4)] 74)).cell? ⟨x1.heap.size, 2, none⟩ = some (.string (M.str w2)) := cellB q1 2
          have Q3 : (x1.alloc (.cells #[.string (M.str w0), .string (M.str w1), .string (M.str w2), .string (M.str w3), .string (M.str w4)] 74)).cell? ⟨x1.heap.size, 3, none⟩ = some (.string (M.str w3)) := cellB q1 3
          have Q4 : (x1.alloc (.cells #[.string (M.str w0), .string (M.str w1), .string (M.str w2), .string (M.str w3), .string (M.str w4)] 74)).cell? ⟨x1.heap.size, 4, none⟩ = some (.string (M.str w4)) := cellB q1 4
          generalize hWW : (x1.alloc (.cells #[.string (M.str w0), .string (M.str w1), .string (M.str w2), .string (M.str w3), .string (M.str w4)] 74)) = W at *
          clear hWW q1 p0 p1
          have hBW : B ≤ W.heap.size := Nat.le_trans hB HX.out.size
          refine wp_region_tail 18 (by kernel_rfl) (by kernel_rfl) ?_
          intro hne
          simp only [List.take_succ_cons, List.take_zero, List.drop_succ_cons, List.drop_zero]
          repeat (go_big_quiet_step (fail))
          refine wpQuiet_nil ?_
          intro x2 hb2
          have hb2 := lat_out hb2
          go_wp2_with (go_at_call 32; refine (HC.out _ hb2).mono ?_; rintro e x3 ⟨rfl, hb3, hk3, hp3⟩)
          go_ret
          rw [HW3.out]
          exact ⟨rfl, ((HX.out.mono hB).trans (hb2.mono hBW)).trans hb3, hk3, hp3⟩
      · have HW2 : Hid (O = none) := by rw [Hid, HWd.out, if_neg hds]
        have hdl : ((ds.length : Int) == 0) = false := by
          rw [beq_eq_false_iff_ne]
          have : ds.length ≠ 0 := fun h => hds (List.length_eq_zero_iff.1 h)
          omega
        clear HWd hds
        go_wp2_with fail
        have P0 : (x1.alloc (.cells #[.string (M.str w0), .string (M.str w1), .string (M.str w2), .string (M.str w3), .string (M.str w4)] 74)).cell? ⟨b, 0, none⟩ = some (.slice aF es.length cF) := cellB hPX.blk 0
        have P1 : (x1.alloc (.cells #[.string (M.str w0), .string (M.str w1), .string (M.str w2), .string (M.str w3), .string (M.str w4)] 74)).cell? ⟨b, 1, none⟩ = some (.slice aD ds.length cD) := cellB hPX.blk 1
        have Q0 : (x1.alloc (.cells #[.string (M.str w0), .string (M.str w1), .string (M.str w2), .string (M.str w3), .string (M.str w4)] 74)).cell? ⟨x1.heap.size, 0, none⟩ = some (.string (M.str w0)) := cellB q1 0
        have Q1 : (x1.alloc (.cells #[.string (M.str w0), .string (M.str w1), .string (M.str w2), .string (M.str w3), .string (M.str w4)] 74)).cell? ⟨x1.heap.size, 1, none⟩ = some (.string (M.str w1)) := cellB q1 1
        have Q2 : (x1.alloc (.cells #[.string (M.str w0), .string (M.str w1), .string (M.str w2), .string (M.str w3), .string (M.str w4)] 74)).cell? ⟨x1.heap.size, 2, none⟩ = some (.string (M.str w2)) := cellB q1 2
        have Q3 : (x1.alloc (.cells #[.string (M.str w0), .string (M.str w1), .string (M.str w2), .string (M.str w3), .string (M.str w4)] 74)).cell? ⟨x1.heap.size, 3, none⟩ = some (.string (M.str w3)) := cellB q1 3
        have Q4 : (x1.alloc (.cells #[.string (M.str w0), .string (M.str w1), .string (M.str w2), .string (M.str w3), .string (M.str w4)] 74)).cell? ⟨x1.heap.size, 4, none⟩ = some (.string (M.str w4)) := cellB q1 4
        generalize hWW : (x1.alloc (.cells #[.string (M.str w0), .string (M.str w1), .string (M.str w2), .string (M.str w3), .string (M.str w4)] 74)) = W at *
        clear hWW q1 p0 p1
        have hBW : B ≤ W.heap.size := Nat.le_trans hB HX.out.size
        refine wp_region_tail 18 (by kernel_rfl) (by kernel_rfl) ?_
        intro hne
        simp only [List.take_succ_cons, List.take_zero, List.drop_succ_cons, List.drop_zero]
        repeat (go_big_quiet_step (fail))
        refine wpQuiet_nil ?_
        intro x2 hb2
        have hb2 := lat_out hb2
        go_wp2
        go_ret
        rw [HW2.out]
        exact ⟨rfl, (HX.out.mono hB).trans (hb2.mono hBW), ⟨_, _, (hPX.later hb2).blk⟩, fun q hq => by cases hq⟩
  · have HWd : Hid (O = if ds = [] then M.addFrag ⟨es.map (·.f), ds⟩ w1 w2 w3 w4 else none) := by
      rw [Hid, HO.out, M.addWords, if_pos (show w0 = M.wFrag from word_eq c1)]
    by_cases hds : ds = []
    · have HW1 : Hid (O = M.addFrag ⟨es.map (·.f), ds⟩ w1 w2 w3 w4) := by rw [Hid, HWd.out, if_pos hds]
      have hdl : ((ds.length : Int) == 0) = true := by simp [hds]
      have HC : Hid (Calls Tryd.prog 31 #[.pointer (some ⟨b, 0, none⟩), .agg #[.string (M.str w0), .string (M.str w1), .string (M.str w2), .string (M.str w3), .string (M.str w4)]] (x1.alloc (.cells #[.string (M.str w0), .string (M.str w1), .string (M.str w2), .string (M.str w3), .string (M.str w4)] 74)) (Does B b (x1.alloc (.cells #[.string (M.str w0), .string (M.str w1), .string (M.str w2), .string (M.str w3), .string (M.str w4)] 74)) (M.addFrag ⟨es.map (·.f), ds⟩ w1 w2 w3 w4))) :=
        frag_line es ds _ _ w0 w1 w2 w3 w4 B b _ hPX hGX hw2 hw3 hw4 (Nat.le_trans hB HX.out.size) hn
      clear HWd hds
      go_wp2_with (go_at_call 31; refine HC.out.mono ?_; rintro e x2 ⟨rfl, hb2, hk2, hp2⟩)
      go_ret
      rw [HW1.out]
      exact ⟨rfl, (HX.out.mono hB).trans hb2, hk2, hp2⟩
    · have HW2 : Hid (O = none) := by rw [Hid, HWd.out, if_neg hds]
      have hdl : ((ds.length : Int) == 0) = false := by
        rw [beq_eq_false_iff_ne]
        have : ds.length ≠ 0 := fun h => hds (List.length_eq_zero_iff.1 h)
        omega
      clear HWd hds
      go_wp2
      go_ret
      rw [HW2.out]
      exact ⟨rfl, HX.out.mono hB, ⟨_, _, hPX.blk⟩, fun q hq => by cases hq⟩

theorem line_any (p : M.Prt) (t : M.Txt) (ht : t.length ≤ 100000) (B b : Nat) (w : World) (hP : HasPart w B b p) (hG : Glob w) (hB : B ≤ w.heap.size) (hF : Few p 100000) :
    Calls Tryd.prog 20 #[.pointer (some ⟨b, 0, none⟩), .string (M.str t)] w (Does B b w (M.addLine p t)) := by
  obtain ⟨es, ds, vF, vD, hPM, rfl⟩ := hP
  cases h5 : M.five (M.pieces 32 t) with
  | none =>
    have e : M.addLine ⟨es.map (·.f), ds⟩ t = none := by rw [M.addLine, h5]
    rw [e]
    exact (line_none t ht b w hG h5).mono fun e w' ⟨he, hb⟩ => ⟨he, hb.mono hB, ⟨_, _, (hPM.later hb).blk⟩, fun q hq => by cases hq⟩
  | some x =>
    obtain ⟨w0, w1, w2, w3, w4⟩ := x
    refine line_raw _ es ds vF vD t ht B b w hPM hG hB (by simpa using hF.1) hF.2.1 (fun e he => hF.2.2 e.f (List.mem_map_of_mem he)) w0 w1 w2 w3 w4 h5 ?_
    rw [Hid, M.addLine, h5]

end Go.Proofs.YtogipjjmnmahnaaDoor
