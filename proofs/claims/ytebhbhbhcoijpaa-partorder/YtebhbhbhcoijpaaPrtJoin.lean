/-
  The contract of part.Join.
-/
import Derived.Test.YtebhbhbhcoijpaaPrtMoved
namespace Go.Proofs.Ytebhbhbhcoijpaa
open Go.RowKit
set_option linter.unusedVariables false

theorem movable {p : M.Prt} (h : M.Ok p) : Movable p.frags p.defs := by
  have hn := h.nf
  refine ⟨h.nf, h.nd, fun f hf => (len_ok f (h.shape f hf)).1, fun f hf => (len_ok f (h.shape f hf)).2, fun f hf r hr hb => ?_, fun d hd hk => ?_⟩
  · have := h.fits f hf r hr hb
    omega
  · obtain ⟨f, h1, h2, _⟩ := h.stands d hd hk
    have := (List.getElem?_eq_some_iff.1 h2).1
    omega

/-- Join's variables -/
structure JV (w wr : World) (va vb : Array Value) : Prop where
  q0 : wr.heap[w.heap.size]? = some (.cells va 25 (0, 0))
  q1 : wr.heap[w.heap.size + 1]? = some (.cells vb 25 (0, 0))
  q2 : wr.heap[w.heap.size + 2]? = some (.cells #[.slice none 0 0, .slice none 0 0] 25 (0, 0))
  below : Below w.heap.size w wr

theorem JV.later {w wr X : World} {va vb : Array Value} (h : JV w wr va vb) (hb : Below wr.heap.size wr X) : JV w X va vb :=
  ⟨(hb.block _ (Array.getElem?_eq_some_iff.1 h.q0).1).trans h.q0, (hb.block _ (Array.getElem?_eq_some_iff.1 h.q1).1).trans h.q1, (hb.block _ (Array.getElem?_eq_some_iff.1 h.q2).1).trans h.q2, h.below.trans (hb.mono h.below.size)⟩

theorem JV.set {w wr : World} {va vb : Array Value} {b i : Nat} {u : Value} (h : JV w wr va vb) (hb : w.heap.size + 2 < b) : JV w (wr.setCell ⟨b, i, none⟩ u) va vb :=
  ⟨(Below.heap_setCell _ _ _ _ (by show w.heap.size ≠ b; omega)).trans h.q0, (Below.heap_setCell _ _ _ _ (by show w.heap.size + 1 ≠ b; omega)).trans h.q1, (Below.heap_setCell _ _ _ _ (by show w.heap.size + 2 ≠ b; omega)).trans h.q2, h.below.setCell (by show w.heap.size ≤ b; omega) _⟩

/-- a variable holds a part of its own -/
structure Holds (w wx : World) (va vb : Array Value) (b9 : Nat) (es : List Ent) (ds : List M.Dfn) (vF vD : Value) : Prop where
  blk : wx.heap[b9]? = some (.cells #[vF, vD] 25 (0, 0))
  pr : PR wx w.heap.size es ds vF vD
  jv : JV w wx va vb
  lt : w.heap.size + 2 < b9

theorem Holds.later {w wx X : World} {va vb : Array Value} {b9 : Nat} {es : List Ent} {ds : List M.Dfn} {vF vD : Value} (h : Holds w wx va vb b9 es ds vF vD) (hb : Below wx.heap.size wx X) : Holds w X va vb b9 es ds vF vD :=
  ⟨(hb.block _ (Array.getElem?_eq_some_iff.1 h.blk).1).trans h.blk, h.pr.later hb, h.jv.later hb, h.lt⟩

theorem Holds.set {w wx : World} {va vb : Array Value} {b9 b i : Nat} {es : List Ent} {ds : List M.Dfn} {vF vD u : Value} {cs : Array Value} (h : Holds w wx va vb b9 es ds vF vD) (hq : wx.heap[b]? = some (.cells cs 25 (0, 0))) (hb : b9 < b) : Holds w (wx.setCell ⟨b, i, none⟩ u) va vb b9 es ds vF vD :=
  ⟨(Below.heap_setCell _ _ _ _ (by show b9 ≠ b; omega)).trans h.blk, h.pr.set hq, h.jv.set (by have := h.lt; omega), h.lt⟩

theorem holds_set {w w2 : World} {va vb : Array Value} {b9 B : Nat} {es : List Ent} {ds : List M.Dfn} {vF vD x y : Value} (hJ : JV w w2 va vb) (hq : w2.heap[b9]? = some (.cells #[x, y] 25 (0, 0))) (hP : PR w2 B es ds vF vD) (hB : w.heap.size ≤ B) (hlt : w.heap.size + 2 < b9) :
    Holds w ((w2.setCell ⟨b9, 0, none⟩ vF).setCell ⟨b9, 1, none⟩ vD) va vb b9 es ds vF vD := by
  have h1 : (w2.setCell ⟨b9, 0, none⟩ vF).heap[b9]? = some (.cells #[vF, y] 25 (0, 0)) := setB' hq vF
  exact ⟨setB' h1 vD, (((hP.base hB).set hq).set h1), (hJ.set hlt).set hlt, hlt⟩

theorem holds_new {w w2 : World} {va vb : Array Value} {B : Nat} {es : List Ent} {ds : List M.Dfn} {vF vD : Value} (hJ : JV w w2 va vb) (hP : PR w2 B es ds vF vD) (hB : w.heap.size ≤ B) :
    Holds w (w2.alloc (.cells #[vF, vD] 25)) va vb w2.heap.size es ds vF vD := by
  have hb : Below w2.heap.size w2 (w2.alloc (.cells #[vF, vD] 25)) := (Below.refl _ _).alloc (Nat.le_refl _) _
  exact ⟨heap_alloc_new _ _, (hP.base hB).later hb, hJ.later hb, (Array.getElem?_eq_some_iff.1 hJ.q2).1⟩

theorem movedFrags_le (ns : List Int) (fs : List M.Frg) : (M.movedFrags ns fs).length ≤ fs.length := by
  unfold M.movedFrags
  rw [List.length_map]
  refine Nat.le_trans (List.length_filter_le _ _) ?_
  rw [List.length_zip]; omega
theorem movedDefs_le (ns : List Int) (ds : List M.Dfn) : (M.movedDefs ns ds).length ≤ ds.length := by
  unfold M.movedDefs
  refine Nat.le_trans (List.length_filter_le _ _) ?_
  rw [List.length_map]; exact Nat.le_refl _

theorem PR.one {w : World} {B : Nat} {es : List Ent} {ds : List M.Dfn} {vF vD : Value} (h : PR w B es ds vF vD) : ∀ u ∈ es.flatMap entCells, u.oneCell' = true := by
  intro u hu
  obtain ⟨e, he, hu⟩ := List.mem_flatMap.1 hu
  obtain ⟨x1, x2, hx⟩ := own_len (h.bytes e he)
  obtain ⟨y1, y2, hy⟩ := own_len (h.rels e he)
  unfold entCells at hu
  rw [hx, hy] at hu
  simp only [List.mem_cons, List.not_mem_nil, or_false] at hu
  rcases hu with rfl | rfl | rfl | rfl | rfl | rfl <;> rfl

theorem defs_one (ds : List M.Dfn) : ∀ u ∈ ds.flatMap encDfn, u.oneCell' = true := by
  intro u hu
  obtain ⟨d, _, hu⟩ := List.mem_flatMap.1 hu
  unfold encDfn at hu
  simp only [List.mem_cons, List.not_mem_nil, or_false] at hu
  rcases hu with rfl | rfl | rfl | rfl | rfl | rfl <;> rfl

theorem JV.grown {w wr w3 : World} {va vb : Array Value} {e : TypeId} {k n : Nat} {v : Value} {xs : List Value} (h : JV w wr va vb) (hr : wr.ownsRow w.heap.size e k v n xs) (he : e ≠ 25) (hg : wr.grownBy w3 v.ownBlock) : JV w w3 va vb :=
  ⟨block_kept hr hg h.q0 he, block_kept hr hg h.q1 he, block_kept hr hg h.q2 he, h.below.grown hg h.below.size (fun k hk => (hr.lt k hk).1)⟩

/-- the fragments behind are appended: what holds then -/
theorem holds_addF {w wc w3 : World} {va vb : Array Value} {b9 b10 : Nat} {es es' : List Ent} {gs gs' : List M.Dfn} {vF vD vF' vD' v' : Value} (h : Holds w wc va vb b9 es gs vF vD) (h' : Holds w wc va vb b10 es' gs' vF' vD') (hbb : b9 < b10)
    (hg : wc.grownBy w3 vF.ownBlock) (ho : w3.ownsRow w.heap.size 43 6 v' (es.length + es'.length) (es.flatMap entCells ++ es'.flatMap entCells)) :
    Holds w (w3.setCell ⟨b9, 0, none⟩ v') va vb b9 (es ++ es') gs v' vD ∧ (w3.setCell ⟨b9, 0, none⟩ v').heap[b10]? = some (.cells #[vF', vD'] 25 (0, 0)) ∧ (w3.setCell ⟨b9, 0, none⟩ v').ownsRow w.heap.size 69 6 vD' gs'.length (gs'.flatMap encDfn) := by
  have hn := block_kept h.pr.rowF hg h.blk (by decide)
  have hn' := block_kept h.pr.rowF hg h'.blk (by decide)
  have hD := h'.pr.rowD.kept hg (own_apart h'.pr.rowD h.pr.rowF (by decide))
  refine ⟨⟨setB' hn v', (h.pr.growF hg ho h'.pr.bytes h'.pr.rels h'.pr.small).set hn, (h.jv.grown h.pr.rowF (by decide) hg).set h.lt, h.lt⟩, ?_, row_setc hD hn (by decide)⟩
  exact (Below.heap_setCell _ _ _ _ (by show b10 ≠ b9; omega)).trans hn'

theorem holds_addD {w wc w3 : World} {va vb : Array Value} {b9 : Nat} {es : List Ent} {gs gs' : List M.Dfn} {vF vD v' : Value} (h : Holds w wc va vb b9 es gs vF vD)
    (hg : wc.grownBy w3 vD.ownBlock) (ho : w3.ownsRow w.heap.size 69 6 v' (gs.length + gs'.length) (gs.flatMap encDfn ++ gs'.flatMap encDfn)) (hs : ∀ d ∈ gs', d.name.size ≤ maxLen) :
    Holds w (w3.setCell ⟨b9, 1, none⟩ v') va vb b9 es (gs ++ gs') vF v' := by
  have hn := block_kept h.pr.rowD hg h.blk (by decide)
  exact ⟨setB' hn v', (h.pr.growD hg ho hs).set hn, (h.jv.grown h.pr.rowD (by decide) hg).set h.lt, h.lt⟩

theorem flat_len6 {α : Type} (f : α → List Value) (hf : ∀ x, (f x).length = 6) : ∀ l : List α, (l.flatMap f).length = l.length * 6
  | [] => rfl
  | x :: l => by rw [List.flatMap_cons, List.length_append, hf, flat_len6 f hf l, List.length_cons]; omega

theorem two0 (a b c d : Value) (w : World) : (Instr.index 75 (.agg #[a, b, c, d]) (.int .i64 ((0 : Nat) : Int))).run Try.prog w = .ok (.agg #[a, b]) w := by kernel_rfl
theorem two1 (a b c d : Value) (w : World) : (Instr.index 75 (.agg #[a, b, c, d]) (.int .i64 ((1 : Nat) : Int))).run Try.prog w = .ok (.agg #[c, d]) w := by kernel_rfl
theorem twl0 (a b c d : Value) (w : World) : (Instr.index 75 (.agg #[a, b, c, d]) (.int .i64 0)).run Try.prog w = .ok (.agg #[a, b]) w := by kernel_rfl
theorem twl1 (a b c d : Value) (w : World) : (Instr.index 75 (.agg #[a, b, c, d]) (.int .i64 1)).run Try.prog w = .ok (.agg #[c, d]) w := by kernel_rfl
attribute [local go_sem high] two0 two1 twl0 twl1

theorem strsAt_nil (w : World) : StrsAt w (.slice none 0 0) [] := ⟨⟨none, 0, rfl, Nat.zero_le _, .inl rfl⟩, fun d hd => by cases hd⟩
theorem fragsAt_nil (w : World) : FragsAt w (.slice none 0 0) [] := ⟨fun _ _ => undef, ⟨none, 0, rfl, Nat.zero_le _, .inl rfl⟩, fun j hj => absurd hj (Nat.not_lt_zero _)⟩
theorem defsAt_nil (w : World) : DefsAt w (.slice none 0 0) [] := ⟨⟨none, 0, rfl, Nat.zero_le _, .inl rfl⟩, fun d hd => by cases hd⟩

set_option maxHeartbeats 8000000 in
set_option maxRecDepth 100000 in
theorem join_any (a b : M.Prt) (a1 a2 b1 b2 : Option Addr) (c1 c2 d1 d2 : Nat) (w : World) (hf : FragsAt w (.slice a1 a.frags.length c1) a.frags) (hd : DefsAt w (.slice a2 a.defs.length c2) a.defs)
    (hf' : FragsAt w (.slice b1 b.frags.length d1) b.frags) (hd' : DefsAt w (.slice b2 b.defs.length d2) b.defs) :
    Calls Try.prog 9 #[.agg #[.slice a1 a.frags.length c1, .slice a2 a.defs.length c2], .agg #[.slice b1 b.frags.length d1, .slice b2 b.defs.length d2]] w fun e w' =>
      Below w.heap.size w w' ∧ ∃ es vF vD, e = .returned (.tuple #[.agg #[vF, vD], .int .i64 (M.join a b).2]) ∧ PR w' w.heap.size es (M.join a b).1.defs vF vD ∧ es.map (·.f) = (M.join a b).1.frags := by
  go_enter Try.func9, Try.ntmps9
  go_wp2_with fail
  have HY : Hid (JV w (((w.alloc (.cells #[.slice a1 a.frags.length c1, .slice a2 a.defs.length c2] 25)).alloc (.cells #[.slice b1 b.frags.length d1, .slice b2 b.defs.length d2] 25)).alloc (.cells #[.slice none 0 0, .slice none 0 0] 25)) #[.slice a1 a.frags.length c1, .slice a2 a.defs.length c2] #[.slice b1 b.frags.length d1, .slice b2 b.defs.length d2]) := by
    have e2 : (((w.alloc (.cells #[.slice a1 a.frags.length c1, .slice a2 a.defs.length c2] 25)).alloc (.cells #[.slice b1 b.frags.length d1, .slice b2 b.defs.length d2] 25)).alloc (.cells #[.slice none 0 0, .slice none 0 0] 25)).heap[w.heap.size + 2]? = some (.cells #[.slice none 0 0, .slice none 0 0] 25 (0, 0)) := by
      have := heap_alloc_new ((w.alloc (.cells #[.slice a1 a.frags.length c1, .slice a2 a.defs.length c2] 25)).alloc (.cells #[.slice b1 b.frags.length d1, .slice b2 b.defs.length d2] 25)) (.cells #[.slice none 0 0, .slice none 0 0] 25)
      simpa using this
    exact ⟨(heap_alloc_old _ _ (by simp; omega)).trans (heap_alloc2_old _ _ _), (heap_alloc_old _ _ (by simp)).trans (heap_alloc2_new _ _ _), e2, (((Below.refl _ _).alloc (Nat.le_refl _) _).alloc (by simp) _).alloc (by simp; omega) _⟩
  go_loopw [14] (fun s14 wr => ∃ (k : Nat), k ≤ 2 ∧ s14 = .int .i64 k ∧ JV w wr #[.slice a1 a.frags.length c1, .slice a2 a.defs.length c2] #[.slice b1 b.frags.length d1, .slice b2 b.defs.length d2] ∧ Hid (1 ≤ k → M.checkPart a = 0) ∧ Hid (2 ≤ k → M.checkPart b = 0)) (fun s14 _ => 2 - (intOf s14).toNat)
  case atStart => exact ⟨0, by omega, rfl, HY.out, fun h => absurd h (by omega), fun h => absurd h (by omega)⟩
  case round =>
    obtain ⟨k, hk, rfl, hJ, H1, H2⟩ := hrel
    clear HY
    rcases (by omega : k = 0 ∨ k = 1 ∨ k = 2) with rfl | rfl | rfl
    · clear hk H1 H2
      have KC : Hid (∀ W, Below wr.heap.size wr W → Calls Try.prog 13 #[.agg #[.slice a1 a.frags.length c1, .slice a2 a.defs.length c2]] W fun e w' => e = .returned (.int .i64 (M.checkPart a)) ∧ Below W.heap.size W w') := fun W hW => check_any a.frags a.defs _ _ _ _ W ((hf.later hJ.below).later hW) ((hd.later hJ.below).later hW)
      have HJ : Hid (JV w wr #[.slice a1 a.frags.length c1, .slice a2 a.defs.length c2] #[.slice b1 b.frags.length d1, .slice b2 b.defs.length d2]) := hJ
      have q2 := hJ.q2
      have hl2 : w.heap.size + 2 < wr.heap.size := (Array.getElem?_eq_some_iff.1 q2).1
      have HA : Hid (Below wr.heap.size wr (wr.alloc (.cells #[.slice a1 a.frags.length c1, .slice a2 a.defs.length c2] 25))) := (Below.refl _ _).alloc (Nat.le_refl _) _
      by_cases hck : M.checkPart a = 0
      · have HC : Hid (M.checkPart a = 0) := hck
        rw [hck] at KC
        clear hck hJ
        go_wp2_with (go_at_call 13; refine (KC.out _ HA.out).mono ?_; rintro e x1 ⟨rfl, hx1⟩)
        go_roundw
        case rel => exact ⟨1, by omega, rfl, HJ.out.later (HA.out.trans (hx1.mono HA.out.size)), fun _ => HC.out, fun h => absurd h (by omega)⟩
        case measure => simp [intOf]
      · have HC : Hid (M.join a b = (M.nil, M.checkPart a)) := by
          rw [Hid]; unfold M.join; rw [if_neg hck]
        have hne : (M.checkPart a != 0) = true := by simpa using hck
        clear hck hJ
        generalize M.checkPart a = er at *
        go_wp2_with (go_at_call 13; refine (KC.out _ HA.out).mono ?_; rintro e x1 ⟨rfl, hx1⟩; refine Hid.out ?_)
        have HX1 : Hid (JV w x1 #[.slice a1 a.frags.length c1, .slice a2 a.defs.length c2] #[.slice b1 b.frags.length d1, .slice b2 b.defs.length d2]) := HJ.out.later (HA.out.trans (hx1.mono HA.out.size))
        have y2 := HX1.out.q2
        have c20 : x1.cell? ⟨w.heap.size + 2, 0, none⟩ = some (.slice none 0 0) := cellB y2 0
        have c21 : x1.cell? ⟨w.heap.size + 2, 1, none⟩ = some (.slice none 0 0) := cellB y2 1
        have f20 := frozenB y2 0
        have f21 := frozenB y2 1
        have HB1 : Hid (Below w.heap.size w ((x1.setCell ⟨w.heap.size + 1 + 1, 0, none⟩ (.slice none 0 0)).setCell ⟨w.heap.size + 1 + 1, 1, none⟩ (.slice none 0 0))) := (HX1.out.below.setCell (by show w.heap.size ≤ w.heap.size + 1 + 1; omega) _).setCell (by show w.heap.size ≤ w.heap.size + 1 + 1; omega) _
        clear y2 q2
        refine Lib.hid ?_
        go_wp2
        refine bodyPost_ret (v := .tuple #[.agg #[.slice none 0 0, .slice none 0 0], .int .i64 er]) (by simp [results, Try.results9, go_sem, c20, c21]) rfl ?_
        exact ⟨HB1.out, [], _, _, by rw [HC.out], by rw [HC.out]; exact PR.nil _ _, by rw [HC.out]; rfl⟩
    · clear hk H2
      have KC : Hid (∀ W, Below wr.heap.size wr W → Calls Try.prog 13 #[.agg #[.slice b1 b.frags.length d1, .slice b2 b.defs.length d2]] W fun e w' => e = .returned (.int .i64 (M.checkPart b)) ∧ Below W.heap.size W w') := fun W hW => check_any b.frags b.defs _ _ _ _ W ((hf'.later hJ.below).later hW) ((hd'.later hJ.below).later hW)
      have HJ : Hid (JV w wr #[.slice a1 a.frags.length c1, .slice a2 a.defs.length c2] #[.slice b1 b.frags.length d1, .slice b2 b.defs.length d2]) := hJ
      have q2 := hJ.q2
      have hl2 : w.heap.size + 2 < wr.heap.size := (Array.getElem?_eq_some_iff.1 q2).1
      have HA : Hid (Below wr.heap.size wr (wr.alloc (.cells #[.slice b1 b.frags.length d1, .slice b2 b.defs.length d2] 25))) := (Below.refl _ _).alloc (Nat.le_refl _) _
      by_cases hck : M.checkPart b = 0
      · have HC : Hid (M.checkPart b = 0) := hck
        rw [hck] at KC
        clear hck hJ
        go_wp2_with (go_at_call 13; refine (KC.out _ HA.out).mono ?_; rintro e x1 ⟨rfl, hx1⟩)
        go_roundw
        case rel => exact ⟨2, by omega, rfl, HJ.out.later (HA.out.trans (hx1.mono HA.out.size)), fun _ => H1.out (by omega), fun _ => HC.out⟩
        case measure => simp [intOf]
      · have HC : Hid (M.join a b = (M.nil, M.checkPart b)) := by
          rw [Hid]; unfold M.join; rw [if_pos (H1.out (by omega)), if_neg hck]
        have hne : (M.checkPart b != 0) = true := by simpa using hck
        clear hck hJ
        generalize M.checkPart b = er at *
        go_wp2_with (go_at_call 13; refine (KC.out _ HA.out).mono ?_; rintro e x1 ⟨rfl, hx1⟩; refine Hid.out ?_)
        have HX1 : Hid (JV w x1 #[.slice a1 a.frags.length c1, .slice a2 a.defs.length c2] #[.slice b1 b.frags.length d1, .slice b2 b.defs.length d2]) := HJ.out.later (HA.out.trans (hx1.mono HA.out.size))
        have y2 := HX1.out.q2
        have c20 : x1.cell? ⟨w.heap.size + 2, 0, none⟩ = some (.slice none 0 0) := cellB y2 0
        have c21 : x1.cell? ⟨w.heap.size + 2, 1, none⟩ = some (.slice none 0 0) := cellB y2 1
        have f20 := frozenB y2 0
        have f21 := frozenB y2 1
        have HB1 : Hid (Below w.heap.size w ((x1.setCell ⟨w.heap.size + 1 + 1, 0, none⟩ (.slice none 0 0)).setCell ⟨w.heap.size + 1 + 1, 1, none⟩ (.slice none 0 0))) := (HX1.out.below.setCell (by show w.heap.size ≤ w.heap.size + 1 + 1; omega) _).setCell (by show w.heap.size ≤ w.heap.size + 1 + 1; omega) _
        clear y2 q2
        refine Lib.hid ?_
        go_wp2
        refine bodyPost_ret (v := .tuple #[.agg #[.slice none 0 0, .slice none 0 0], .int .i64 er]) (by simp [results, Try.results9, go_sem, c20, c21]) rfl ?_
        exact ⟨HB1.out, [], _, _, by rw [HC.out], by rw [HC.out]; exact PR.nil _ _, by rw [HC.out]; rfl⟩
    · have HOa : Hid (M.Ok a) := (M.ok_iff a).1 (H1.out (by omega))
      have HOb : Hid (M.Ok b) := (M.ok_iff b).1 (H2.out (by omega))
      clear H1 H2 hk
      go_upto_region 8 with fail
      have HJ : Hid (JV w wr #[.slice a1 a.frags.length c1, .slice a2 a.defs.length c2] #[.slice b1 b.frags.length d1, .slice b2 b.defs.length d2]) := hJ
      have hfX := hf.later hJ.below
      have hdX := hd.later hJ.below
      have hfY := hf'.later hJ.below
      have hdY := hd'.later hJ.below
      have hna := HOa.out.nf
      have hma := movable HOa.out
      have hnb := HOb.out.nf
      have hmb := movable HOb.out
      clear hf hd hf' hd'
      have HS : Hid (∀ W, Below wr.heap.size wr W → (W.cell? ⟨w.heap.size, 0, none⟩ = some (.slice a1 a.frags.length c1) ∧ W.cell? ⟨w.heap.size, 1, none⟩ = some (.slice a2 a.defs.length c2))) := fun W hW => by
        have y := (HJ.out.later hW).q0
        exact ⟨cellB y 0, cellB y 1⟩
      have KC : Hid (∀ W, Below wr.heap.size wr W → Calls Try.prog 43 #[.slice a1 a.frags.length c1, .slice none 0 0, .int .i64 0] W fun e w' => Below W.heap.size W w' ∧ ∃ C, e = .returned (.agg C) ∧ Nums C (M.count [] 0 a.frags)) := fun W hW => count_any a.frags [] 0 a1 none c1 0 W (hfX.later hW) (strsAt_nil W) hna ⟨by omega, by omega⟩
      have KM : Hid (∀ C W, Nums C (M.count [] 0 a.frags) → Below wr.heap.size wr W → Calls Try.prog 42 #[.agg #[.slice a1 a.frags.length c1, .slice a2 a.defs.length c2], .agg C] W fun e w' =>
          Below W.heap.size W w' ∧ ∃ es vF vD, e = .returned (.agg #[vF, vD]) ∧ PR w' W.heap.size es (M.movedDefs (M.count [] 0 a.frags) a.defs) vF vD ∧ es.map (·.f) = M.movedFrags (M.count [] 0 a.frags) a.frags) := fun C W hC hW => moved_any a.frags a.defs _ C a1 a2 c1 c2 W hC (M.count_length _ _ _) (hfX.later hW) (hdX.later hW) hma
      have hA0 : Below wr.heap.size wr wr.drew := (Below.refl _ _).drew
      have hA1 : Below wr.heap.size wr (wr.drew.alloc (.cells #[.slice none 0 0, .slice none 0 0] 25)) := hA0.alloc (Nat.le_refl _) _
      clear hJ
      go_cut [9] (fun s9 wx => ∃ b9 es vF vD, s9 = .pointer (some ⟨b9, 0, none⟩) ∧ Holds w wx #[.slice a1 a.frags.length c1, .slice a2 a.defs.length c2] #[.slice b1 b.frags.length d1, .slice b2 b.defs.length d2] b9 es (M.movedDefs (M.count [] 0 a.frags) a.defs) vF vD ∧ Hid (es.map (·.f) = M.movedFrags (M.count [] 0 a.frags) a.frags) ∧ Below wr.heap.size wr wx)
      case first =>
        go_region_held3 (fun w' => w'.cell? ⟨w.heap.size, 0, none⟩ = some (.slice a1 a.frags.length c1) ∧ w'.cell? ⟨w.heap.size, 1, none⟩ = some (.slice a2 a.defs.length c2)) (first | exact HS.out _ hA0 | exact HS.out _ hA1 | exact HS.out _ hX2 | exact HS.out _ hX1 | exact HS.out _ (hX1.alloc hX1.size _) | exact HS.out _ (hX2.alloc hX2.size _) | exact HS.out _ (Below.setCell (Below.setCell hX2 (by first | exact Nat.le_refl _ | exact hX1.size) _) (by first | exact Nat.le_refl _ | exact hX1.size) _)) (first | (go_at_call 43; refine (KC.out _ (by first | exact hA0 | exact hA1)).mono ?_; rintro e w1 ⟨hb1, C, rfl, hC1⟩; have hX1 : Below wr.heap.size wr w1 := (by first | exact hA0.trans (hb1.mono hA0.size) | exact hA1.trans (hb1.mono hA1.size)); try (have hq1 : w1.heap[wr.heap.size]? = some (.cells #[.slice none 0 0, .slice none 0 0] 25 (0, 0)) := (hb1.block _ (by simp)).trans (heap_alloc_new wr.drew _))) | (go_at_call 42; refine (KM.out _ _ hC1 (by first | exact hX1 | exact hX1.alloc hX1.size _)).mono ?_; rintro e w2 ⟨hb2, es, vF, vD, rfl, hP2, hes⟩; have hX2 : Below wr.heap.size wr w2 := (by first | exact hX1.trans (hb2.mono hX1.size) | exact (hX1.alloc hX1.size _).trans (hb2.mono (hX1.alloc hX1.size _).size)); obtain ⟨aV, nV, cV, rfl⟩ := own_form hP2.rowF; obtain ⟨aW, nW, cW, rfl⟩ := own_form hP2.rowD; first | (have hcc : Below w1.heap.size w1 w2 := hb2; first | (have hq2 : w2.heap[wr.heap.size]? = some (.cells #[.slice none 0 0, .slice none 0 0] 25 (0, 0)) := (hb2.block _ (Array.getElem?_eq_some_iff.1 hq1).1).trans hq1; have k0 : w2.cell? ⟨wr.heap.size, 0, none⟩ = some (.slice none 0 0) := cellB hq2 0; have k1 : w2.cell? ⟨wr.heap.size, 1, none⟩ = some (.slice none 0 0) := cellB hq2 1; have f0 := frozenB hq2 0; have f1 := frozenB hq2 1) | skip) | (have hq2 : w2.heap[w1.heap.size]? = some (.cells #[.slice none 0 0, .slice none 0 0] 25 (0, 0)) := (hb2.block _ (by simp)).trans (heap_alloc_new w1 _); have k0 : w2.cell? ⟨w1.heap.size, 0, none⟩ = some (.slice none 0 0) := cellB hq2 0; have k1 : w2.cell? ⟨w1.heap.size, 1, none⟩ = some (.slice none 0 0) := cellB hq2 1; have f0 := frozenB hq2 0; have f1 := frozenB hq2 1)))
        all_goals
          have hz0 : w.heap.size + 2 < wr.heap.size := (Array.getElem?_eq_some_iff.1 HJ.out.q2).1
          have hz1 := hX1.size
          have hz2 := hX2.size
          go_wp2_with fail
          go_meet
          first
            | exact ⟨_, es, _, _, rfl, holds_new (HJ.out.later hX2) hP2 (by omega), hes, hX2.alloc hX2.size _⟩
            | exact ⟨_, es, _, _, rfl, holds_set (HJ.out.later hX2) hq2 hP2 (by omega) (by omega), hes, Below.setCell (Below.setCell hX2 (by first | exact Nat.le_refl _ | exact hX1.size) _) (by first | exact Nat.le_refl _ | exact hX1.size) _⟩
            | exact ⟨_, es, _, _, rfl, holds_set (HJ.out.later hX2) hq2 hP2 (by simp; omega) (by omega), hes, Below.setCell (Below.setCell hX2 (by first | exact Nat.le_refl _ | exact hX1.size) _) (by first | exact Nat.le_refl _ | exact hX1.size) _⟩
      case rest =>
        obtain ⟨b9, es, vF, vD, rfl, hH, HE, hbx⟩ := hcut
        have HH : Hid (Holds w wc #[.slice a1 a.frags.length c1, .slice a2 a.defs.length c2] #[.slice b1 b.frags.length d1, .slice b2 b.defs.length d2] b9 es (M.movedDefs (M.count [] 0 a.frags) a.defs) vF vD) := hH
        have hfX := hfX.later hbx
        have hfY := hfY.later hbx
        have hdY := hdY.later hbx
        have hb9 : b9 < wc.heap.size := (Array.getElem?_eq_some_iff.1 hH.blk).1
        clear hH HS KC KM hA0 hA1 HJ hma hdX hbx
        have hwc : w.heap.size ≤ wc.heap.size := HH.out.jv.below.size
        have HS : Hid (∀ W, Below wc.heap.size wc W → (W.cell? ⟨w.heap.size, 0, none⟩ = some (.slice a1 a.frags.length c1) ∧ W.cell? ⟨w.heap.size + 1, 0, none⟩ = some (.slice b1 b.frags.length d1) ∧ W.cell? ⟨w.heap.size + 1, 1, none⟩ = some (.slice b2 b.defs.length d2))) := fun W hW => by
          have y := (HH.out.jv.later hW)
          exact ⟨cellB y.q0 0, cellB y.q1 0, cellB y.q1 1⟩
        have KG : Hid (∀ W, Below wc.heap.size wc W → Calls Try.prog 44 #[.slice a1 a.frags.length c1] W fun e w' => Below W.heap.size W w' ∧ ∃ ga gc, e = .returned (.slice ga (M.groups a.frags).length gc) ∧ StrsAt w' (.slice ga (M.groups a.frags).length gc) (M.groups a.frags)) := fun W hW => by
          refine (groups_any a.frags a1 c1 W (hfX.later hW) hna).mono ?_
          rintro e w' ⟨hb, v, rfl, _, hs⟩
          obtain ⟨x, y, rfl, _⟩ := hs.1.form
          exact ⟨hb, x, y, rfl, hs⟩
        have KC : Hid (∀ ga gc W, StrsAt W (.slice ga (M.groups a.frags).length gc) (M.groups a.frags) → Below wc.heap.size wc W → Calls Try.prog 43 #[.slice b1 b.frags.length d1, .slice ga (M.groups a.frags).length gc, .int .i64 a.frags.length] W fun e w' => Below W.heap.size W w' ∧ ∃ C, e = .returned (.agg C) ∧ Nums C (M.count (M.groups a.frags) a.frags.length b.frags)) := fun ga gc W hs hW => count_any b.frags (M.groups a.frags) a.frags.length b1 ga d1 gc W (hfY.later hW) hs hnb ⟨by omega, by omega⟩
        have KM : Hid (∀ C W, Nums C (M.count (M.groups a.frags) a.frags.length b.frags) → Below wc.heap.size wc W → Calls Try.prog 42 #[.agg #[.slice b1 b.frags.length d1, .slice b2 b.defs.length d2], .agg C] W fun e w' =>
            Below W.heap.size W w' ∧ ∃ es vF vD, e = .returned (.agg #[vF, vD]) ∧ PR w' W.heap.size es (M.movedDefs (M.count (M.groups a.frags) a.frags.length b.frags) b.defs) vF vD ∧ es.map (·.f) = M.movedFrags (M.count (M.groups a.frags) a.frags.length b.frags) b.frags) := fun C W hC hW => moved_any b.frags b.defs _ C b1 b2 d1 d2 W hC (M.count_length _ _ _) (hfY.later hW) (hdY.later hW) hmb
        have hA0 : Below wc.heap.size wc wc.drew := (Below.refl _ _).drew
        have hA1 : Below wc.heap.size wc (wc.drew.alloc (.cells #[.slice none 0 0, .slice none 0 0] 25)) := hA0.alloc (Nat.le_refl _) _
        go_upto_region 9 with fail
        go_cut [10] (fun s10 wx => ∃ b10 es' vF' vD', s10 = .pointer (some ⟨b10, 0, none⟩) ∧ Holds w wx #[.slice a1 a.frags.length c1, .slice a2 a.defs.length c2] #[.slice b1 b.frags.length d1, .slice b2 b.defs.length d2] b10 es' (M.movedDefs (M.count (M.groups a.frags) a.frags.length b.frags) b.defs) vF' vD' ∧ Hid (es'.map (·.f) = M.movedFrags (M.count (M.groups a.frags) a.frags.length b.frags) b.frags) ∧ Holds w wx #[.slice a1 a.frags.length c1, .slice a2 a.defs.length c2] #[.slice b1 b.frags.length d1, .slice b2 b.defs.length d2] b9 es (M.movedDefs (M.count [] 0 a.frags) a.defs) vF vD ∧ b9 < b10)
        case first =>
          go_region_held3 (fun w' => w'.cell? ⟨w.heap.size, 0, none⟩ = some (.slice a1 a.frags.length c1) ∧ w'.cell? ⟨w.heap.size + 1, 0, none⟩ = some (.slice b1 b.frags.length d1) ∧ w'.cell? ⟨w.heap.size + 1, 1, none⟩ = some (.slice b2 b.defs.length d2)) (first | exact HS.out _ hA0 | exact HS.out _ hA1 | exact HS.out _ hX3 | exact HS.out _ hX2 | exact HS.out _ hX1 | exact HS.out _ (hX1.alloc hX1.size _) | exact HS.out _ (hX2.alloc hX2.size _) | exact HS.out _ (hX3.alloc hX3.size _) | exact HS.out _ (Below.setCell (Below.setCell hX3 (by first | exact Nat.le_refl _ | exact hX1.size | exact hX2.size) _) (by first | exact Nat.le_refl _ | exact hX1.size | exact hX2.size) _)) (first | (go_at_call 44; refine (KG.out _ (by first | exact hA0 | exact hA1)).mono ?_; rintro e w1 ⟨hb1, ga, gc, rfl, hSt⟩; have hX1 : Below wc.heap.size wc w1 := (by first | exact hA0.trans (hb1.mono hA0.size) | exact hA1.trans (hb1.mono hA1.size)); first | (have hcc1 : Below wc.drew.heap.size wc.drew w1 := hb1) | (have hqA : w1.heap[wc.heap.size]? = some (.cells #[.slice none 0 0, .slice none 0 0] 25 (0, 0)) := (hb1.block _ (by simp)).trans (heap_alloc_new wc.drew _))) | (go_at_call 43; refine (KC.out _ _ _ (by first | exact hSt | exact hSt.later ((Below.refl _ _).alloc (Nat.le_refl _) _)) (by first | exact hX1 | exact hX1.alloc hX1.size _)).mono ?_; rintro e w2 ⟨hb2, C, rfl, hC1⟩; have hX2 : Below wc.heap.size wc w2 := (by first | exact hX1.trans (hb2.mono hX1.size) | exact (hX1.alloc hX1.size _).trans (hb2.mono (hX1.alloc hX1.size _).size)); first | (have hcc2 : Below w1.heap.size w1 w2 := hb2; first | (have hqA2 : w2.heap[wc.heap.size]? = some (.cells #[.slice none 0 0, .slice none 0 0] 25 (0, 0)) := (hb2.block _ (Array.getElem?_eq_some_iff.1 hqA).1).trans hqA) | skip) | (have hqB : w2.heap[w1.heap.size]? = some (.cells #[.slice none 0 0, .slice none 0 0] 25 (0, 0)) := (hb2.block _ (by simp)).trans (heap_alloc_new w1 _))) | (go_at_call 42; refine (KM.out _ _ hC1 (by first | exact hX2 | exact hX2.alloc hX2.size _)).mono ?_; rintro e w3 ⟨hb3, es', vF', vD', rfl, hP3, hes⟩; have hX3 : Below wc.heap.size wc w3 := (by first | exact hX2.trans (hb3.mono hX2.size) | exact (hX2.alloc hX2.size _).trans (hb3.mono (hX2.alloc hX2.size _).size)); obtain ⟨aV, nV, cV, rfl⟩ := own_form hP3.rowF; obtain ⟨aW, nW, cW, rfl⟩ := own_form hP3.rowD; first | (have hcc3 : Below w2.heap.size w2 w3 := hb3; first | (have hq : w3.heap[wc.heap.size]? = some (.cells #[.slice none 0 0, .slice none 0 0] 25 (0, 0)) := (hb3.block _ (Array.getElem?_eq_some_iff.1 hqA2).1).trans hqA2; have k0 : w3.cell? ⟨wc.heap.size, 0, none⟩ = some (.slice none 0 0) := cellB hq 0; have k1 : w3.cell? ⟨wc.heap.size, 1, none⟩ = some (.slice none 0 0) := cellB hq 1; have f0 := frozenB hq 0; have f1 := frozenB hq 1) | (have hq : w3.heap[w1.heap.size]? = some (.cells #[.slice none 0 0, .slice none 0 0] 25 (0, 0)) := (hb3.block _ (Array.getElem?_eq_some_iff.1 hqB).1).trans hqB; have k0 : w3.cell? ⟨w1.heap.size, 0, none⟩ = some (.slice none 0 0) := cellB hq 0; have k1 : w3.cell? ⟨w1.heap.size, 1, none⟩ = some (.slice none 0 0) := cellB hq 1; have f0 := frozenB hq 0; have f1 := frozenB hq 1) | skip) | (have hq : w3.heap[w2.heap.size]? = some (.cells #[.slice none 0 0, .slice none 0 0] 25 (0, 0)) := (hb3.block _ (by simp)).trans (heap_alloc_new w2 _); have k0 : w3.cell? ⟨w2.heap.size, 0, none⟩ = some (.slice none 0 0) := cellB hq 0; have k1 : w3.cell? ⟨w2.heap.size, 1, none⟩ = some (.slice none 0 0) := cellB hq 1; have f0 := frozenB hq 0; have f1 := frozenB hq 1)))
          all_goals
            have hz1 := hX1.size
            have hz2 := hX2.size
            have hz3 := hX3.size
            go_wp2_with fail
            go_meet
            first
              | exact ⟨_, es', _, _, rfl, holds_new (HH.out.jv.later hX3) hP3 (by omega), hes, HH.out.later (hX3.alloc hX3.size _), by omega⟩
              | exact ⟨_, es', _, _, rfl, holds_set (HH.out.jv.later hX3) hq hP3 (by omega) (by have := HH.out.lt; omega), hes, ((HH.out.later hX3).set hq (by omega)).set (setB' hq _) (by omega), by omega⟩
              | exact ⟨_, es', _, _, rfl, holds_set (HH.out.jv.later hX3) hq hP3 (by simp; omega) (by have := HH.out.lt; omega), hes, ((HH.out.later hX3).set hq (by omega)).set (setB' hq _) (by omega), by omega⟩
        case rest =>
          obtain ⟨b10, es', vF', vD', rfl, hH', HE', hH, hbb⟩ := hcut
          have HB : Hid (M.both a b = ⟨(es ++ es').map (·.f), M.movedDefs (M.count [] 0 a.frags) a.defs ++ M.movedDefs (M.count (M.groups a.frags) a.frags.length b.frags) b.defs⟩) := by
            show (⟨_, _⟩ : M.Prt) = _
            rw [List.map_append, HE.out, HE'.out]; rfl
          have HJn : Hid (M.join a b = bif M.full (M.both a b) then (M.nil, 10) else (M.both a b, 0)) := by
            rw [Hid]; unfold M.join
            rw [if_pos ((M.ok_iff a).2 HOa.out), if_pos ((M.ok_iff b).2 HOb.out)]
          have hne1 : es.length ≤ 60 := by
            have h1 : (es.map (·.f)).length = es.length := List.length_map ..
            rw [← h1, HE.out]
            exact Nat.le_trans (movedFrags_le _ _) hna
          have hne2 : es'.length ≤ 60 := by
            have h1 : (es'.map (·.f)).length = es'.length := List.length_map ..
            rw [← h1, HE'.out]
            exact Nat.le_trans (movedFrags_le _ _) hnb
          have hnd1 : (M.movedDefs (M.count [] 0 a.frags) a.defs).length ≤ 60 := Nat.le_trans (movedDefs_le _ _) HOa.out.nd
          have hnd2 : (M.movedDefs (M.count (M.groups a.frags) a.frags.length b.frags) b.defs).length ≤ 60 := Nat.le_trans (movedDefs_le _ _) HOb.out.nd
          clear HE HE' HOa HOb HS KG KC KM hA0 hA1 HH hfX hfY hdY hmb hna hnb hb9 hwc
          generalize M.movedDefs (M.count [] 0 a.frags) a.defs = gs at *
          generalize M.movedDefs (M.count (M.groups a.frags) a.frags.length b.frags) b.defs = gs' at *
          generalize M.both a b = bo at *
          subst HB
          obtain ⟨i0, hi0, hz0, hz1, hz2⟩ := info_parts (P := Try.prog) (e := 43) (z := .agg #[.int .i64 0, .int .i64 0, .string ⟨#[]⟩, .slice none 0 0, .int .i64 0, .slice none 0 0]) (size := 6) (bytes := 88) (by kernel_rfl)
          obtain ⟨i1, hi1, hy0, hy1, hy2⟩ := info_parts (P := Try.prog) (e := 69) (z := .agg #[.string ⟨#[]⟩, .int .i64 0, .int .i64 0, .int .i64 0, .int .i64 0, .int .i64 0]) (size := 6) (bytes := 56) (by kernel_rfl)
          have HY : Hid (Holds w wc #[.slice a1 a.frags.length c1, .slice a2 a.defs.length c2] #[.slice b1 b.frags.length d1, .slice b2 b.defs.length d2] b9 es gs vF vD) := hH
          have HY' : Hid (Holds w wc #[.slice a1 a.frags.length c1, .slice a2 a.defs.length c2] #[.slice b1 b.frags.length d1, .slice b2 b.defs.length d2] b10 es' gs' vF' vD') := hH'
          have hb10 : b10 < wc.heap.size := (Array.getElem?_eq_some_iff.1 hH'.blk).1
          have hwY : w.heap.size ≤ wc.heap.size := hH.jv.below.size
          obtain ⟨x1, y1, rfl⟩ := own_len hH.pr.rowF
          obtain ⟨x2, y2, rfl⟩ := own_len hH.pr.rowD
          obtain ⟨x3, y3, rfl⟩ := own_len hH'.pr.rowF
          obtain ⟨x4, y4, rfl⟩ := own_len hH'.pr.rowD
          have k90 : wc.cell? ⟨b9, 0, none⟩ = some (.slice x1 es.length y1) := cellB hH.blk 0
          have k100 : wc.cell? ⟨b10, 0, none⟩ = some (.slice x3 es'.length y3) := cellB hH'.blk 0
          have hown1 := hH.pr.rowF
          have hsrc1 := row_src hH'.pr.rowF
          have hone1 := hH'.pr.one
          clear hH hH'
          go_upto_region 11 with (at_builtin; refine wpList_append_src _ rfl _ _ 22 rfl w.heap.size 43 i0 (.agg #[.int .i64 0, .int .i64 0, .string ⟨#[]⟩, .slice none 0 0, .int .i64 0, .slice none 0 0]) 6 88 Try.underlying22 hi0 hz0 hz1 hz2 rfl (by decide) (.slice x1 es.length y1) es.length (es.flatMap entCells) rfl hown1 (.slice x3 es'.length y3) es'.length (es'.flatMap entCells) rfl hsrc1 (flat_len6 _ (fun _ => rfl) _) hone1 (by unfold maxLen; omega) (by omega) (by omega) ?_; intro v' w3 hown3 hgrow3; have hn3 := block_kept HY.out.pr.rowF hgrow3 HY.out.blk (by decide); have k3 : w3.cell? ⟨b9, 0, none⟩ = some (.slice x1 es.length y1) := cellB hn3 0; have f3 := frozenB hn3 0; obtain ⟨x5, y5, rfl⟩ := own_len hown3)
          obtain ⟨hH3, hb3, hD3⟩ := holds_addF HY.out HY'.out hbb hgrow3 hown3
          have HSm : Hid (∀ d ∈ gs', d.name.size ≤ maxLen) := HY'.out.pr.smallD
          clear HY HY' hown1 hsrc1 hone1 hown3 hgrow3 hn3 k3 f3 k90 k100
          generalize w3.setCell ⟨b9, 0, none⟩ (.slice x5 (es.length + es'.length) y5) = Y2 at *
          have HY : Hid (Holds w Y2 #[.slice a1 a.frags.length c1, .slice a2 a.defs.length c2] #[.slice b1 b.frags.length d1, .slice b2 b.defs.length d2] b9 (es ++ es') gs (.slice x5 (es.length + es'.length) y5) (.slice x2 gs.length y2)) := hH3
          have k91 : Y2.cell? ⟨b9, 1, none⟩ = some (.slice x2 gs.length y2) := cellB hH3.blk 1
          have k101 : Y2.cell? ⟨b10, 1, none⟩ = some (.slice x4 gs'.length y4) := cellB hb3 1
          have hown1 := hH3.pr.rowD
          have hsrc1 := row_src hD3
          have hwY2 : w.heap.size ≤ Y2.heap.size := hH3.jv.below.size
          have hb9' : b9 < Y2.heap.size := (Array.getElem?_eq_some_iff.1 hH3.blk).1
          have hb10' : b10 < Y2.heap.size := (Array.getElem?_eq_some_iff.1 hb3).1
          clear hH3 hb3 hD3
          go_upto_region 12 with (at_builtin; refine wpList_append_src _ rfl _ _ 23 rfl w.heap.size 69 i1 (.agg #[.string ⟨#[]⟩, .int .i64 0, .int .i64 0, .int .i64 0, .int .i64 0, .int .i64 0]) 6 56 Try.underlying23 hi1 hy0 hy1 hy2 rfl (by decide) (.slice x2 gs.length y2) gs.length (gs.flatMap encDfn) rfl hown1 (.slice x4 gs'.length y4) gs'.length (gs'.flatMap encDfn) rfl hsrc1 (flat_len6 _ (fun _ => rfl) _) (defs_one gs') (by unfold maxLen; omega) (by omega) (by omega) ?_; intro v' w4 hown4 hgrow4; have hn4 := block_kept HY.out.pr.rowD hgrow4 HY.out.blk (by decide); have k4 : w4.cell? ⟨b9, 1, none⟩ = some (.slice x2 gs.length y2) := cellB hn4 1; have f4 := frozenB hn4 1; obtain ⟨x6, y6, rfl⟩ := own_len hown4)
          have hH4 := holds_addD HY.out hgrow4 hown4 HSm.out
          clear HY hown1 hsrc1 hown4 hgrow4 hn4 k4 f4 k91 k101 hb9' hb10'
          generalize w4.setCell ⟨b9, 1, none⟩ (.slice x6 (gs.length + gs'.length) y6) = Y3 at *
          have HY : Hid (Holds w Y3 #[.slice a1 a.frags.length c1, .slice a2 a.defs.length c2] #[.slice b1 b.frags.length d1, .slice b2 b.defs.length d2] b9 (es ++ es') (gs ++ gs') (.slice x5 (es.length + es'.length) y5) (.slice x6 (gs.length + gs'.length) y6)) := hH4
          have k90 : Y3.cell? ⟨b9, 0, none⟩ = some (.slice x5 (es.length + es'.length) y5) := cellB hH4.blk 0
          have k91 : Y3.cell? ⟨b9, 1, none⟩ = some (.slice x6 (gs.length + gs'.length) y6) := cellB hH4.blk 1
          have hb9' : b9 < Y3.heap.size := (Array.getElem?_eq_some_iff.1 hH4.blk).1
          have hlt9 := hH4.lt
          clear hH4
          by_cases hn : 60 < es.length + es'.length
          · have hd1 : decide (60 < (es.length : Int) + (es'.length : Int)) = true := by simp; omega
            have hfull : M.full ⟨(es ++ es').map (·.f), gs ++ gs'⟩ = true := by simp [M.full]; omega
            have HJ2 : Hid (M.join a b = (M.nil, 10)) := by rw [Hid, HJn.out, hfull]; rfl
            have y2 := HY.out.jv.q2
            have c20 : Y3.cell? ⟨w.heap.size + 2, 0, none⟩ = some (.slice none 0 0) := cellB y2 0
            have c21 : Y3.cell? ⟨w.heap.size + 2, 1, none⟩ = some (.slice none 0 0) := cellB y2 1
            have f20 := frozenB y2 0
            have f21 := frozenB y2 1
            have HB1 : Hid (Below w.heap.size w ((Y3.setCell ⟨w.heap.size + 1 + 1, 0, none⟩ (.slice none 0 0)).setCell ⟨w.heap.size + 1 + 1, 1, none⟩ (.slice none 0 0))) := (HY.out.jv.below.setCell (by show w.heap.size ≤ w.heap.size + 1 + 1; omega) _).setCell (by show w.heap.size ≤ w.heap.size + 1 + 1; omega) _
            clear y2 HJn
            go_wp2
            refine bodyPost_ret (v := .tuple #[.agg #[.slice none 0 0, .slice none 0 0], .int .i64 10]) (by simp [results, Try.results9, go_sem, c20, c21]) rfl ?_
            exact ⟨HB1.out, [], _, _, by rw [HJ2.out], by rw [HJ2.out]; exact PR.nil _ _, by rw [HJ2.out]; rfl⟩
          · have hd1 : decide (60 < (es.length : Int) + (es'.length : Int)) = false := by simp; omega
            by_cases hm : 60 < gs.length + gs'.length
            · have hd2 : decide (60 < (gs.length : Int) + (gs'.length : Int)) = true := by simp; omega
              have hfull : M.full ⟨(es ++ es').map (·.f), gs ++ gs'⟩ = true := by simp [M.full]; omega
              have HJ2 : Hid (M.join a b = (M.nil, 10)) := by rw [Hid, HJn.out, hfull]; rfl
              have y2 := HY.out.jv.q2
              have c20 : Y3.cell? ⟨w.heap.size + 2, 0, none⟩ = some (.slice none 0 0) := cellB y2 0
              have c21 : Y3.cell? ⟨w.heap.size + 2, 1, none⟩ = some (.slice none 0 0) := cellB y2 1
              have f20 := frozenB y2 0
              have f21 := frozenB y2 1
              have HB1 : Hid (Below w.heap.size w ((Y3.setCell ⟨w.heap.size + 1 + 1, 0, none⟩ (.slice none 0 0)).setCell ⟨w.heap.size + 1 + 1, 1, none⟩ (.slice none 0 0))) := (HY.out.jv.below.setCell (by show w.heap.size ≤ w.heap.size + 1 + 1; omega) _).setCell (by show w.heap.size ≤ w.heap.size + 1 + 1; omega) _
              clear y2 HJn
              go_wp2
              refine bodyPost_ret (v := .tuple #[.agg #[.slice none 0 0, .slice none 0 0], .int .i64 10]) (by simp [results, Try.results9, go_sem, c20, c21]) rfl ?_
              exact ⟨HB1.out, [], _, _, by rw [HJ2.out], by rw [HJ2.out]; exact PR.nil _ _, by rw [HJ2.out]; rfl⟩
            · have hd2 : decide (60 < (gs.length : Int) + (gs'.length : Int)) = false := by simp; omega
              have hfull : M.full ⟨(es ++ es').map (·.f), gs ++ gs'⟩ = false := by simp [M.full]; omega
              have HJ2 : Hid (M.join a b = (⟨(es ++ es').map (·.f), gs ++ gs'⟩, 0)) := by rw [Hid, HJn.out, hfull]; rfl
              have q2 := HY.out.jv.q2
              have c20 : Y3.cell? ⟨w.heap.size + 2, 0, none⟩ = some (.slice none 0 0) := cellB q2 0
              have c21 : Y3.cell? ⟨w.heap.size + 2, 1, none⟩ = some (.slice none 0 0) := cellB q2 1
              have f20 := frozenB q2 0
              have f21 := frozenB q2 1
              have z0 : (Y3.setCell ⟨w.heap.size + 1 + 1, 0, none⟩ (.slice x5 (es.length + es'.length) y5)).heap[w.heap.size + 1 + 1]? = some (.cells #[.slice x5 (es.length + es'.length) y5, .slice none 0 0] 25 (0, 0)) := setB' q2 _
              have HP : Hid (PR ((Y3.setCell ⟨w.heap.size + 1 + 1, 0, none⟩ (.slice x5 (es.length + es'.length) y5)).setCell ⟨w.heap.size + 1 + 1, 1, none⟩ (.slice x6 (gs.length + gs'.length) y6)) w.heap.size (es ++ es') (gs ++ gs') (.slice x5 (es.length + es'.length) y5) (.slice x6 (gs.length + gs'.length) y6)) := (HY.out.pr.set q2).set z0
              have HB1 : Hid (Below w.heap.size w ((Y3.setCell ⟨w.heap.size + 1 + 1, 0, none⟩ (.slice x5 (es.length + es'.length) y5)).setCell ⟨w.heap.size + 1 + 1, 1, none⟩ (.slice x6 (gs.length + gs'.length) y6))) := (HY.out.jv.below.setCell (by show w.heap.size ≤ w.heap.size + 1 + 1; omega) _).setCell (by show w.heap.size ≤ w.heap.size + 1 + 1; omega) _
              clear q2 z0 HJn
              go_wp2
              refine bodyPost_ret (v := .tuple #[.agg #[.slice x5 (es.length + es'.length) y5, .slice x6 (gs.length + gs'.length) y6], .int .i64 0]) (by simp [results, Try.results9, go_sem, c20, c21]) rfl ?_
              exact ⟨HB1.out, es ++ es', _, _, by rw [HJ2.out], by rw [HJ2.out]; exact HP.out, by rw [HJ2.out]⟩

/-- a world in which the blocks from B on are as they were -/
def Above (B : Nat) (w X : World) : Prop := ∀ k, B ≤ k → k < w.heap.size → X.heap[k]? = w.heap[k]?

theorem row_above {w X : World} {B k n : Nat} {e : TypeId} {v : Value} {xs : List Value} (h : w.ownsRow B e k v n xs) (ha : Above B w X) : X.ownsRow B e k v n xs := by
  refine ⟨h.1, ?_⟩
  rcases h.2 with h1 | ⟨g, cap, cur, h1, hb, h2, h3⟩
  · exact .inl h1
  · exact .inr ⟨g, cap, cur, h1, hb, (ha g hb (Array.getElem?_eq_some_iff.1 h2).1).trans h2, h3⟩

theorem PR.above {w X : World} {B : Nat} {es : List Ent} {ds : List M.Dfn} {vF vD : Value} (h : PR w B es ds vF vD) (ha : Above B w X) : PR X B es ds vF vD :=
  ⟨row_above h.rowF ha, row_above h.rowD ha, fun e he => row_above (h.bytes e he) ha, h.small, h.smallD, fun e he => row_above (h.rels e he) ha⟩

theorem above_set (w : World) (B b i : Nat) (u : Value) (hb : b < B) : Above B w (w.setCell ⟨b, i, none⟩ u) := fun k hk _ => Below.heap_setCell _ _ _ _ (by show k ≠ b; omega)

end Go.Proofs.Ytebhbhbhcoijpaa
