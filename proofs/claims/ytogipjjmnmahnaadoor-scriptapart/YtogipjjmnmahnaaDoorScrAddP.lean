/-
  The contract of addPlace.
-/
import Derived.Test.YtogipjjmnmahnaaDoorScrAddD
namespace Go.Proofs.YtogipjjmnmahnaaDoor
open Go Go.RowKit
set_option linter.unusedVariables false

theorem leadsT_any (t : M.Txt) (ht : t.length ≤ 100000) (w : World) (hG : Glob w) :
    Calls Tryd.prog 50 #[.string (M.str t)] w fun e w' => e = .returned (.tuple #[.string (leadName t), .int .i64 (leadFrag t), .bool (M.leads t).isSome]) ∧ Below w.heap.size w w' := by
  have := leads_any (M.str t) (by rw [str_size]; exact ht) w hG
  rwa [txt_str] at this

theorem flat_len {α : Type} (k : Nat) (f : α → List Value) (hf : ∀ x, (f x).length = k) : ∀ (l : List α), (l.flatMap f).length = l.length * k
  | [] => by simp
  | x :: l => by rw [List.flatMap_cons, List.length_append, hf, flat_len k f hf l, List.length_cons, Nat.add_mul]; omega

/-- the cell that holds the last fragment's places -/
theorem PM.lastCell {w : World} {B b g cap : Nat} {init : List Ent} {l : Ent} {ds : List M.Dfn} {vD : Value} (h : PM w B b (init ++ [l]) ds (.slice (some ⟨g, 0, none⟩) (init.length + 1) cap) vD) :
    w.cell? ⟨g, init.length * 6 + 5, none⟩ = some l.rv ∧ ∃ cur, w.heap[g]? = some (.cells cur 49 (0, 0)) := by
  have hF := h.rowF
  rw [List.length_append, List.length_singleton] at hF
  refine ⟨?_, ?_⟩
  · have := hF.cells (g := g) rfl (init.length * 6 + 5) l.rv (by
      rw [List.flatMap_append, List.getElem?_append_right (by rw [flat_len 6 entCells (fun _ => rfl)]; omega), flat_len 6 entCells (fun _ => rfl), Nat.add_sub_cancel_left]
      rfl)
    simpa [Addr.add] using this
  · rcases hF.2 with ⟨h1, _⟩ | ⟨g', cap', cur, h1, _, h2, _⟩
    · cases h1
    · cases h1; exact ⟨cur, h2⟩

set_option maxHeartbeats 4000000 in
set_option maxRecDepth 100000 in
theorem addPlace_raw (init : List Ent) (l : Ent) (ds : List M.Dfn) (vD : Value) (w0 w1 w2 w3 w4 : M.Txt) (B b g cap fk : Nat) (n1 n4 fr : Int) (nm : ByteArray) (fb b1 b3 b4 : Bool) (w : World) (hP : PM w B b (init ++ [l]) ds (.slice (some ⟨g, 0, none⟩) (init.length + 1) cap) vD) (hG : Glob w) (h1 : w1.length ≤ 100000) (h3 : w3.length ≤ 100000) (h4 : w4.length ≤ 100000) (hB : B ≤ w.heap.size) (hn : l.f.rels.length ≤ 100000)
    (e1 : (M.find M.kindT w2).getD 0 = fk) (e2 : (M.find M.kindT w2).isSome = fb) (e3 : (M.num w1).getD 0 = n1) (e4 : (M.num w1).isSome = b1) (e5 : (M.num w4).getD 0 = n4) (e6 : (M.num w4).isSome = b4) (e7 : leadName w3 = nm) (e8 : leadFrag w3 = fr) (e9 : (M.leads w3).isSome = b3) (hwf : nm.size ≤ maxLen ∧ (Lit.int .i64 (fk : Int)).wf = true) :
    Calls Tryd.prog 32 #[.pointer (some ⟨g, init.length * 6, none⟩), .agg #[.string (M.str w0), .string (M.str w1), .string (M.str w2), .string (M.str w3), .string (M.str w4)]] w fun e w' => e = .returned (.bool (b1 && fb && b3 && b4)) ∧ Below B w w' ∧
      ∃ v', PM w' B b (init ++ [⟨M.addRel l.f ⟨n1, fk, nm, fr, n4⟩, l.bv, v'⟩]) ds (.slice (some ⟨g, 0, none⟩) (init.length + 1) cap) vD := by
  obtain ⟨i0, hi, hz0, hz1, hz2⟩ := info_parts infoRel
  have K1 : Hid (∀ W, Below w.heap.size w W → Calls Tryd.prog 48 #[.string (M.str w1)] W fun e w' => e = .returned (.tuple #[.int .i64 n1, .bool b1]) ∧ Below W.heap.size W w') := fun W hW => by
    have := numT_any w1 h1 W (hG.later hW)
    rwa [e3, e4] at this
  have K2 : Hid (∀ W, Calls Tryd.prog 47 #[.agg #[.string (M.str (M.kindT.getD 0 [])), .string (M.str (M.kindT.getD 1 [])), .string (M.str (M.kindT.getD 2 [])), .string (M.str (M.kindT.getD 3 [])), .string (M.str (M.kindT.getD 4 [])), .string (M.str (M.kindT.getD 5 []))], .string (M.str w2)] W fun e w' =>
      e = .returned (.tuple #[.int .i64 (fk : Int), .bool fb]) ∧ Below W.heap.size W w') := fun W => by
    have := findK_any w2 W
    rwa [e1, e2] at this
  have K3 : Hid (∀ W, Below w.heap.size w W → Calls Tryd.prog 50 #[.string (M.str w3)] W fun e w' => e = .returned (.tuple #[.string nm, .int .i64 fr, .bool b3]) ∧ Below W.heap.size W w') := fun W hW => by
    have := leadsT_any w3 h3 W (hG.later hW)
    rwa [e7, e8, e9] at this
  have K4 : Hid (∀ W, Below w.heap.size w W → Calls Tryd.prog 48 #[.string (M.str w4)] W fun e w' => e = .returned (.tuple #[.int .i64 n4, .bool b4]) ∧ Below W.heap.size W w') := fun W hW => by
    have := numT_any w4 h4 W (hG.later hW)
    rwa [e5, e6] at this
  clear e1 e2 e3 e4 e5 e6 e7 e8 e9
  have g0 := hG.kinds 0 (by decide)
  have g1 := hG.kinds 1 (by decide)
  have g2 := hG.kinds 2 (by decide)
  have g3 := hG.kinds 3 (by decide)
  have g4 := hG.kinds 4 (by decide)
  have g5 := hG.kinds 5 (by decide)
  have hg16 := hG.size
  generalize M.str (M.kindT.getD 0 []) = t0 at *
  generalize M.str (M.kindT.getD 1 []) = t1 at *
  generalize M.str (M.kindT.getD 2 []) = t2 at *
  generalize M.str (M.kindT.getD 3 []) = t3 at *
  generalize M.str (M.kindT.getD 4 []) = t4 at *
  generalize M.str (M.kindT.getD 5 []) = t5 at *
  have Y0 : Hid ((w.alloc (.cells #[.string (M.str w0), .string (M.str w1), .string (M.str w2), .string (M.str w3), .string (M.str w4)] 74)).heap[w.heap.size]? = some (.cells #[.string (M.str w0), .string (M.str w1), .string (M.str w2), .string (M.str w3), .string (M.str w4)] 74 (0, 0))) := heap_alloc_new _ _
  go_enter Tryd.func32, Tryd.ntmps32
  go_wp2_with (go_at_call 48; refine (K1.out _ ((Below.refl _ _).alloc (Nat.le_refl _) _)).mono ?_; rintro e x1 ⟨rfl, hb1⟩; refine Hid.out ?_)
  have HX1 : Hid (Below w.heap.size w x1) := ((Below.refl _ _).alloc (Nat.le_refl _) _).trans (hb1.mono (by simp))
  have y1 := (hb1.block _ (by simp)).trans Y0.out
  have hl1 : w.heap.size < x1.heap.size := (Array.getElem?_eq_some_iff.1 y1).1
  have z2 := cellB y1 2
  simp only [List.getElem?_toArray, List.getElem?_cons_zero, List.getElem?_cons_succ] at z2
  have g0 := (HX1.out.cell (p := ⟨1, 0, none⟩) (by show 1 < w.heap.size; omega)).trans g0
  have g1 := (HX1.out.cell (p := ⟨1, 1, none⟩) (by show 1 < w.heap.size; omega)).trans g1
  have g2 := (HX1.out.cell (p := ⟨1, 2, none⟩) (by show 1 < w.heap.size; omega)).trans g2
  have g3 := (HX1.out.cell (p := ⟨1, 3, none⟩) (by show 1 < w.heap.size; omega)).trans g3
  have g4 := (HX1.out.cell (p := ⟨1, 4, none⟩) (by show 1 < w.heap.size; omega)).trans g4
  have g5 := (HX1.out.cell (p := ⟨1, 5, none⟩) (by show 1 < w.heap.size; omega)).trans g5
  clear hb1 Y0
  refine Lib.hid ?_
  go_wp2_with (go_at_call 47; refine (K2.out _).mono ?_; rintro e x2 ⟨rfl, hb2⟩; refine Hid.out ?_)
  have HX2 : Hid (Below w.heap.size w x2) := HX1.out.trans (hb2.mono HX1.out.size)
  have y2 := (hb2.block _ hl1).trans y1
  have hl2 : w.heap.size < x2.heap.size := (Array.getElem?_eq_some_iff.1 y2).1
  have z3 := cellB y2 3
  simp only [List.getElem?_toArray, List.getElem?_cons_zero, List.getElem?_cons_succ] at z3
  clear hb2 y1 g0 g1 g2 g3 g4 g5 z2
  refine Lib.hid ?_
  go_wp2_with (go_at_call 50; refine (K3.out _ HX2.out).mono ?_; rintro e x3 ⟨rfl, hb3⟩; refine Hid.out ?_)
  have HX3 : Hid (Below w.heap.size w x3) := HX2.out.trans (hb3.mono HX2.out.size)
  have y3 := (hb3.block _ hl2).trans y2
  have hl3 : w.heap.size < x3.heap.size := (Array.getElem?_eq_some_iff.1 y3).1
  have z4 := cellB y3 4
  simp only [List.getElem?_toArray, List.getElem?_cons_zero, List.getElem?_cons_succ] at z4
  clear hb3 y2 z3
  refine Lib.hid ?_
  go_wp2_with (go_at_call 48; refine (K4.out _ HX3.out).mono ?_; rintro e x4 ⟨rfl, hb4⟩; refine Hid.out ?_)
  have HX4 : Hid (Below w.heap.size w x4) := HX3.out.trans (hb4.mono HX3.out.size)
  have hP4 := hP.later HX4.out
  clear hb4 y3 z4 hl1 hl2 hl3 HX1 HX2 HX3 K1 K2 K3 K4 hg16 hP
  obtain ⟨cl, cur, hcur⟩ := hP4.lastCell
  have hfz := frozenB hcur (init.length * 6 + 5)
  have hrl := hP4.rels l (by simp)
  have hgX : g < x4.heap.size := (Array.getElem?_eq_some_iff.1 hcur).1
  have hBX : B ≤ x4.heap.size := by have := HX4.out.size; omega
  have hown : ∀ o, (x4.alloc o).ownsRow B 56 5 l.rv l.f.rels.length (l.f.rels.flatMap encRel) := fun o => hrl.alloc o
  have hnews : ∀ j u, (#[.int .i64 n1, .int .i64 fk, .string nm, .int .i64 fr, .int .i64 n4] : Array Value).toList[j]? = some u → (x4.alloc (.cells #[.int .i64 n1, .int .i64 fk, .string nm, .int .i64 fr, .int .i64 n4] 56)).cell? ((⟨x4.heap.size, 0, none⟩ : Addr).add j) = some u := World.news_of_block (heap_alloc_new x4 _)
  have HF : Hid (∀ w5 o, (x4.alloc o).grownBy w5 l.rv.ownBlock → w5.heap[g]? = some (.cells cur 49 (0, 0))) := fun w5 o hg => by
    rw [hg.block g (by simp; exact Nat.lt_succ_of_lt hgX), Below.heap_alloc _ _ _ hgX]
    · exact hcur
    · rcases own_ne hrl hcur (by decide) with h1 | h1
      · rw [h1]; simp
      · exact fun e => h1 e.symm
  have hcc : cur[init.length * 6 + 5]? = some l.rv := (cellB hcur _).symm.trans cl
  refine Lib.hid ?_
  go_wp2_with (at_builtin; refine wpList_append_lies _ rfl _ _ 47 rfl B 56 i0 (.agg #[.int .i64 0, .int .i64 0, .string ⟨#[]⟩, .int .i64 0, .int .i64 0]) 5 48 Tryd.underlying47 hi hz0 hz1 hz2 rfl (by decide) l.rv l.f.rels.length (l.f.rels.flatMap encRel) rfl (hown _) ⟨x4.heap.size, 0, none⟩ 1 1 #[.int .i64 n1, .int .i64 fk, .string nm, .int .i64 fr, .int .i64 n4].toList rfl rfl hnews (fun u hu => by simp at hu; rcases hu with rfl | rfl | rfl | rfl | rfl <;> rfl) (by omega) (by unfold maxLen; omega) (by omega) (by simp; omega) (x4.heap.size + 1) (by simp) ?_; intro g' cap' w5 hown5 hgrow5 hat5 hlt5; have hn5 := HF.out _ _ hgrow5; have hfz5 := frozenB hn5 (init.length * 6 + 5); have hcb5 : w5.cell? ⟨g, init.length * 6 + 5, none⟩ = some l.rv := (cellB hn5 _).trans hcc; refine Hid.out ?_)
  have HD : Hid (Below x4.heap.size x4 (x4.alloc (.cells #[.int .i64 n1, .int .i64 fk, .string nm, .int .i64 fr, .int .i64 n4] 56))) := (Below.refl _ _).alloc (Nat.le_refl _) _
  have HEnd : Hid (Below B w (w5.setCell ⟨g, init.length * 6 + 5, none⟩ (.slice (some ⟨g', 0, none⟩) (l.f.rels.length + 1) cap')) ∧ ∃ v', PM (w5.setCell ⟨g, init.length * 6 + 5, none⟩ (.slice (some ⟨g', 0, none⟩) (l.f.rels.length + 1) cap')) B b (init ++ [⟨M.addRel l.f ⟨n1, fk, nm, fr, n4⟩, l.bv, v'⟩]) ds (.slice (some ⟨g, 0, none⟩) (init.length + 1) cap) vD) := by
    refine ⟨?_, _, (hP4.later HD.out).addRel ⟨n1, fk, nm, fr, n4⟩ hgrow5 hown5 ?_ hwf⟩
    · refine Below.setCell ?_ (hP4.rowF.lt g rfl).1 _
      exact ((HX4.out.mono hB).trans (HD.out.mono hBX)).grown hgrow5 (by simp; omega) (fun k hk => (hrl.lt k hk).1)
    · rcases hat5 with h | h
      · exact .inl (by rw [h]; rfl)
      · exact .inr (by rw [h]; simp [Value.ownBlock])
  clear HD HF hnews hown hown5 hgrow5 hat5 hlt5
  refine Lib.hid ?_
  have hrlv : ∃ ad nn cc, l.rv = .slice ad nn cc := own_form hrl
  clear hrl hcc hcur cl hfz hn5
  cases b1
  · go_wp2
    go_ret
    exact ⟨rfl, HEnd.out.1, HEnd.out.2⟩
  · cases fb
    · go_wp2
      go_ret
      exact ⟨rfl, HEnd.out.1, HEnd.out.2⟩
    · cases b3
      · go_wp2
        go_ret
        exact ⟨rfl, HEnd.out.1, HEnd.out.2⟩
      · cases b4
        · go_wp2
          go_ret
          exact ⟨rfl, HEnd.out.1, HEnd.out.2⟩
        · go_wp2
          go_ret
          exact ⟨rfl, HEnd.out.1, HEnd.out.2⟩

theorem leadName_small (t : M.Txt) (ht : t.length ≤ 100000) : (leadName t).size ≤ maxLen := by
  unfold leadName
  have h0 : (M.str []).size ≤ maxLen := by unfold maxLen; decide
  cases hl : M.leads t with
  | none => exact h0
  | some x =>
    cases t with
    | nil => cases hl; exact h0
    | cons c r =>
      simp only [M.leads] at hl
      split at hl
      · obtain ⟨n, _, rfl⟩ := Option.map_eq_some_iff.1 hl; exact h0
      · cases hl
        show (M.str (c :: r)).size ≤ maxLen
        rw [str_size]; unfold maxLen; omega

theorem find_kind_wf (t : M.Txt) : (Lit.int .i64 (((M.find M.kindT t).getD 0 : Nat) : Int)).wf = true := by
  cases h : M.find M.kindT t with
  | none => decide
  | some k =>
    have hk := (find_lt h).1
    have hl : M.kindT.length = 6 := rfl
    rcases (by omega : k = 0 ∨ k = 1 ∨ k = 2 ∨ k = 3 ∨ k = 4 ∨ k = 5) with rfl | rfl | rfl | rfl | rfl | rfl <;> decide

theorem addPlace_any (init : List Ent) (l : Ent) (ds : List M.Dfn) (vD : Value) (w0 w1 w2 w3 w4 : M.Txt) (B b g cap : Nat) (w : World) (hP : PM w B b (init ++ [l]) ds (.slice (some ⟨g, 0, none⟩) (init.length + 1) cap) vD) (hG : Glob w) (h1 : w1.length ≤ 100000) (h3 : w3.length ≤ 100000) (h4 : w4.length ≤ 100000) (hB : B ≤ w.heap.size) (hn : l.f.rels.length ≤ 100000) :
    Calls Tryd.prog 32 #[.pointer (some ⟨g, init.length * 6, none⟩), .agg #[.string (M.str w0), .string (M.str w1), .string (M.str w2), .string (M.str w3), .string (M.str w4)]] w fun e w' => e = .returned (.bool (M.rel4 w1 w2 w3 w4).isSome) ∧ Below B w w' ∧ (∃ vF' vD', w'.heap[b]? = some (.cells #[vF', vD'] 25 (0, 0))) ∧
      ∀ r, M.rel4 w1 w2 w3 w4 = some r → ∃ v', PM w' B b (init ++ [⟨M.addRel l.f r, l.bv, v'⟩]) ds (.slice (some ⟨g, 0, none⟩) (init.length + 1) cap) vD := by
  refine (addPlace_raw init l ds vD w0 w1 w2 w3 w4 B b g cap _ _ _ _ _ _ _ _ _ w hP hG h1 h3 h4 hB hn rfl rfl rfl rfl rfl rfl rfl rfl rfl ⟨leadName_small w3 h3, find_kind_wf w2⟩).mono ?_
  rintro e w' ⟨rfl, hb, v', hv⟩
  refine ⟨?_, hb, ⟨_, _, hv.blk⟩, fun r hr => ?_⟩
  · congr 2
    unfold M.rel4
    cases M.num w1 <;> cases M.find M.kindT w2 <;> cases M.leads w3 <;> cases M.num w4 <;> rfl
  · unfold M.rel4 at hr
    cases ha : M.num w1 with
    | none => simp [ha] at hr
    | some x1 =>
      cases hf : M.find M.kindT w2 with
      | none => simp [ha, hf] at hr
      | some k =>
        cases hl : M.leads w3 with
        | none => simp [ha, hf, hl] at hr
        | some x3 =>
          cases hc : M.num w4 with
          | none => simp [ha, hf, hl, hc] at hr
          | some x4 =>
            simp only [ha, hf, hl, hc, Option.some.injEq] at hr
            refine ⟨v', ?_⟩
            rw [← hr]
            rw [ha, hf, hc, leadName, leadFrag, hl] at hv
            exact hv

end Go.Proofs.YtogipjjmnmahnaaDoor
