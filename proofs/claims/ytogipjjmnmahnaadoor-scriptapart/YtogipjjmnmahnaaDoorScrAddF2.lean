/-
  The contract of addFrag, where the section and the alignment are told.
-/
import Derived.Test.YtogipjjmnmahnaaDoorScrAddF
import Derived.Deep.RegionLaw
namespace Go.Proofs.YtogipjjmnmahnaaDoor
open Go Go.RowKit
set_option linter.unusedVariables false

theorem group_dash {t : M.Txt} (hd : ((M.str t).toList == [45]) = true) : M.groupOf t = ⟨#[]⟩ := by
  have he : t = [45] := by
    rw [Lib.toList_data, beq_iff_eq] at hd
    simpa [M.str] using hd
  rw [M.groupOf, if_pos he]; rfl
theorem group_word {t : M.Txt} (hd : ((M.str t).toList == [45]) = false) : M.groupOf t = M.str t := by
  have he : t ≠ [45] := by
    rw [Lib.toList_data, beq_eq_false_iff_ne] at hd
    exact fun h => hd (by rw [h]; rfl)
  rw [M.groupOf, if_neg he]

theorem infoFrag : (Tryd.prog.info? 49).map (fun i => (i.zero, i.size, i.bytes)) = some (some (.agg #[.int .i64 0, .int .i64 0, .string ⟨#[]⟩, .slice none 0 0, .int .i64 0, .slice none 0 0]), 6, 88) := by kernel_rfl
theorem infoDef : (Tryd.prog.info? 59).map (fun i => (i.zero, i.size, i.bytes)) = some (some (.agg #[.string ⟨#[]⟩, .int .i64 0, .int .i64 0, .int .i64 0, .int .i64 0, .int .i64 0]), 6, 56) := by kernel_rfl
theorem infoRel : (Tryd.prog.info? 56).map (fun i => (i.zero, i.size, i.bytes)) = some (some (.agg #[.int .i64 0, .int .i64 0, .string ⟨#[]⟩, .int .i64 0, .int .i64 0]), 5, 48) := by kernel_rfl

theorem far_rows {W w5 : World} {o : Obj} {B b N : Nat} {es : List Ent} {ds : List M.Dfn} {vF vD : Value} {cs : Array Value} {t : TypeId} (hP : PM W B b es ds vF vD) (hq : W.heap[N]? = some (.cells cs t (0, 0))) (hg : (W.drew.alloc o).grownBy w5 vF.ownBlock) (hBx : ∀ k, vF.ownBlock = some k → k ≠ N) (hN : N < W.heap.size) :
    w5.heap[b]? = some (.cells #[vF, vD] 25 (0, 0)) ∧ w5.heap[N]? = some (.cells cs t (0, 0)) := by
  have hb : b < W.heap.size := (Array.getElem?_eq_some_iff.1 hP.blk).1
  have e1 : ∀ k, k < W.heap.size → (W.drew.alloc o).heap[k]? = W.heap[k]? := fun k hk => Below.heap_alloc W.drew o k hk
  refine ⟨?_, ?_⟩
  · rw [hg.block b (by simp; exact Nat.lt_succ_of_lt hb), e1 b hb]
    · exact hP.blk
    · rcases own_ne hP.rowF hP.blk (by decide) with h1 | h1
      · rw [h1]; simp
      · exact fun e => h1 e.symm
  · rw [hg.block N (by simp; exact Nat.lt_succ_of_lt hN), e1 N hN]
    · exact hq
    · exact fun e => hBx N e.symm rfl

set_option maxHeartbeats 4000000 in
set_option maxRecDepth 100000 in
theorem addFrag_zero (es : List Ent) (ds : List M.Dfn) (vF vD : Value) (w0 w1 w2 w3 w4 : M.Txt) (B b : Nat) (a : Int) (w : World) (hP : PM w B b es ds vF vD) (hG : Glob w) (h2 : w2.length ≤ 100000) (h4 : w4.length ≤ 100000) (hB : B ≤ w.heap.size) (hn : es.length ≤ 100000)
    (hk : M.find M.sectT w1 = some 5) (ha : M.num w2 = some a) (h3 : w3.length ≤ 100000) :
    Calls Tryd.prog 31 #[.pointer (some ⟨b, 0, none⟩), .agg #[.string (M.str w0), .string (M.str w1), .string (M.str w2), .string (M.str w3), .string (M.str w4)]] w fun e w' => e = .returned (.bool (M.num w4).isSome) ∧ Below B w w' ∧
      ∃ v', PM w' B b (es ++ [⟨⟨5, a, M.groupOf w3, [], (M.num w4).getD 0, []⟩, .slice none 0 0, .slice none 0 0⟩]) ds v' vD := by
  obtain ⟨i0, hi, hz0, hz1, hz2⟩ := info_parts infoFrag
  have K1 : Hid (∀ W, Calls Tryd.prog 47 #[.agg #[.string (M.str (M.sectT.getD 0 [])), .string (M.str (M.sectT.getD 1 [])), .string (M.str (M.sectT.getD 2 [])), .string (M.str (M.sectT.getD 3 [])), .string (M.str (M.sectT.getD 4 [])), .string (M.str (M.sectT.getD 5 []))], .string (M.str w1)] W fun e w' =>
      e = .returned (.tuple #[.int .i64 5, .bool true]) ∧ Below W.heap.size W w') := fun W => by
    have := findS_any w1 W
    rwa [hk] at this
  have K2 : Hid (∀ W, Below w.heap.size w W → Calls Tryd.prog 48 #[.string (M.str w2)] W fun e w' => e = .returned (.tuple #[.int .i64 a, .bool true]) ∧ Below W.heap.size W w') := fun W hW => by
    have := numT_any w2 h2 W (hG.later hW)
    rwa [ha] at this
  have K3 : Hid (∀ W, Below w.heap.size w W → Calls Tryd.prog 48 #[.string (M.str w4)] W fun e w' => e = .returned (.tuple #[.int .i64 ((M.num w4).getD 0), .bool (M.num w4).isSome]) ∧ Below W.heap.size W w') := fun W hW => numT_any w4 h4 W (hG.later hW)
  have g0 := hG.sects 0 (by decide)
  have g1 := hG.sects 1 (by decide)
  have g2 := hG.sects 2 (by decide)
  have g3 := hG.sects 3 (by decide)
  have g4 := hG.sects 4 (by decide)
  have g5 := hG.sects 5 (by decide)
  have hg16 := hG.size
  have hg0 : 0 < w.heap.size := by omega
  have hnb : (M.num w4).isSome = (M.num w4).isSome := rfl
  generalize (M.num w4).isSome = nb at *
  generalize (M.num w4).getD 0 = nk at *
  generalize M.str (M.sectT.getD 0 []) = t0 at *
  generalize M.str (M.sectT.getD 1 []) = t1 at *
  generalize M.str (M.sectT.getD 2 []) = t2 at *
  generalize M.str (M.sectT.getD 3 []) = t3 at *
  generalize M.str (M.sectT.getD 4 []) = t4 at *
  generalize M.str (M.sectT.getD 5 []) = t5 at *
  clear hk ha hnb
  go_enter Tryd.func31, Tryd.ntmps31
  go_wp2_with (first | (go_at_call 47; refine (K1.out _).mono ?_; rintro e x1 ⟨rfl, hb1⟩; obtain ⟨hc1, hf1⟩ := bcell hb1; have hz1 := three_lt hb1; have HX1 : Hid (Below w.heap.size w x1) := ((Below.refl _ _).alloc (Nat.le_refl _) _).trans (hb1.mono (by simp)); have y0 : x1.heap[w.heap.size]? = some (.cells #[.string (M.str w0), .string (M.str w1), .string (M.str w2), .string (M.str w3), .string (M.str w4)] 74 (0, 0)) := (hb1.block _ (by simp)).trans (heap_alloc_new _ _); have z2 := cellB y0 2; simp only [List.getElem?_toArray, List.getElem?_cons_zero, List.getElem?_cons_succ] at z2; clear hc1 hf1 hz1 hb1) | (go_at_call 48; refine (K2.out _ HX1.out).mono ?_; rintro e x2 ⟨rfl, hb2⟩; refine Hid.out ?_))
  have HX2 : Hid (Below w.heap.size w x2) := HX1.out.trans (hb2.mono HX1.out.size)
  have hP2 := hP.later HX2.out
  have hlt1 : w.heap.size < x1.heap.size := (Array.getElem?_eq_some_iff.1 y0).1
  have y2 := (hb2.block _ hlt1).trans y0
  have z3 := cellB y2 3
  have z4 := cellB y2 4
  simp only [List.getElem?_toArray, List.getElem?_cons_zero, List.getElem?_cons_succ] at z3 z4
  have hlt2 : w.heap.size < x2.heap.size := (Array.getElem?_eq_some_iff.1 y2).1
  clear hb2 y0 z2 HX1 K1 K2 g0 g1 g2 g3 g4 g5 hg16 hg0 hP hlt1 y2
  refine Lib.hid ?_
  cases hd : ((M.str w3).toList == [45])
  ·
    have HG : Hid (M.groupOf w3 = M.str w3) := group_word hd
    have hgs : ((M.str w3) : ByteArray).size ≤ maxLen := by rw [str_size]; unfold maxLen; omega
    have HBx : Hid (Below x2.heap.size x2 (x2.alloc (.cells #[.int .i64 5, .int .i64 a, .string (M.str w3), .slice none 0 0, .int .i64 0, .slice none 0 0] 49))) := (Below.refl _ _).alloc (Nat.le_refl _) _
    go_wp2_with (go_at_call 48; refine (K3.out _ (HX2.out.trans (HBx.out.mono HX2.out.size))).mono ?_; rintro e x3 ⟨rfl, hb3⟩; refine Hid.out ?_)
    have q3 : x3.heap[x2.heap.size]? = some (.cells #[.int .i64 5, .int .i64 a, .string (M.str w3), .slice none 0 0, .int .i64 0, .slice none 0 0] 49 (0, 0)) := by
      rw [hb3.block _ (by simp)]
      exact heap_alloc_new _ _
    have HB3 : Hid (Below x2.heap.size x2 x3) := HBx.out.trans (hb3.mono (by simp))
    have c4 := cellB q3 4
    have f4 := frozenB q3 4
    simp only [List.getElem?_toArray, List.getElem?_cons_zero, List.getElem?_cons_succ] at c4
    clear hb3
    refine Lib.hid ?_
    go_wp2_with fail
    have q4 : (x3.setCell ⟨x2.heap.size, 4, none⟩ (.int .i64 nk)).heap[x2.heap.size]? = some (.cells #[.int .i64 5, .int .i64 a, .string (M.str w3), .slice none 0 0, .int .i64 nk, .slice none 0 0] 49 (0, 0)) := setB' q3 _
    have HB4 : Hid (Below x2.heap.size x2 (x3.setCell ⟨x2.heap.size, 4, none⟩ (.int .i64 nk))) := HB3.out.setCell (Nat.le_refl _) _
    generalize (x3.setCell ⟨x2.heap.size, 4, none⟩ (.int .i64 nk)) = W at *
    have hP4 := hP2.later HB4.out
    have hBx : ∀ k, vF.ownBlock = some k → k ≠ x2.heap.size := fun k hk => by have := (hP2.rowF.lt k hk).2; omega
    have c0 : W.cell? ⟨b, 0, none⟩ = some vF := cellB hP4.blk 0
    have k0 : W.cell? ⟨x2.heap.size, 0, none⟩ = some (.int .i64 5) := cellB q4 0
    have k1 : W.cell? ⟨x2.heap.size, 1, none⟩ = some (.int .i64 a) := cellB q4 1
    have k2 : W.cell? ⟨x2.heap.size, 2, none⟩ = some (.string (M.str w3)) := cellB q4 2
    have k3 : W.cell? ⟨x2.heap.size, 3, none⟩ = some (.slice none 0 0) := cellB q4 3
    have k4 : W.cell? ⟨x2.heap.size, 4, none⟩ = some (.int .i64 nk) := cellB q4 4
    have k5 : W.cell? ⟨x2.heap.size, 5, none⟩ = some (.slice none 0 0) := cellB q4 5
    have hbW : b < W.heap.size := (Array.getElem?_eq_some_iff.1 hP4.blk).1
    have hNW : x2.heap.size < W.heap.size := (Array.getElem?_eq_some_iff.1 q4).1
    have hBW : B ≤ W.heap.size := by have := HX2.out.size; omega
    clear c4 f4 q3 HB3 HBx
    have hfz : W.frozen? ⟨b, 0, none⟩ = false := frozenB hP4.blk 0
    have hownW : ∀ o, (W.drew.alloc o).ownsRow B 49 6 vF es.length (es.flatMap entCells) := fun o => World.ownsRow.alloc (w := W.drew) (show W.drew.ownsRow B 49 6 vF es.length (es.flatMap entCells) from hP4.rowF) o
    have hnews : ∀ j u, (#[.int .i64 5, .int .i64 a, .string (M.str w3), .slice none 0 0, .int .i64 nk, .slice none 0 0] : Array Value).toList[j]? = some u → (W.drew.alloc (.cells #[.int .i64 5, .int .i64 a, .string (M.str w3), .slice none 0 0, .int .i64 nk, .slice none 0 0] 49)).cell? ((⟨W.heap.size, 0, none⟩ : Addr).add j) = some u := World.news_of_block (heap_alloc_new W.drew _)
    have HF : Hid (∀ w5 o, (W.drew.alloc o).grownBy w5 vF.ownBlock → w5.heap[b]? = some (.cells #[vF, vD] 25 (0, 0)) ∧ w5.heap[x2.heap.size]? = some (.cells #[.int .i64 5, .int .i64 a, .string (M.str w3), .slice none 0 0, .int .i64 nk, .slice none 0 0] 49 (0, 0))) := fun w5 o hg => far_rows hP4 q4 hg hBx hNW
    go_region_law ((refine step_append_lies _ (by rfl) _ _ _ (by rfl) B 49 i0 (.agg #[.int .i64 0, .int .i64 0, .string ⟨#[]⟩, .slice none 0 0, .int .i64 0, .slice none 0 0]) 6 88 Tryd.underlying22 hi hz0 hz1 hz2 rfl (by decide) vF es.length (es.flatMap entCells) (by rfl) (hownW _) ⟨W.heap.size, 0, none⟩ 1 1 #[.int .i64 5, .int .i64 a, .string (M.str w3), .slice none 0 0, .int .i64 nk, .slice none 0 0].toList (by rfl) (by rfl) hnews (fun u hu => by simp at hu; rcases hu with rfl | rfl | rfl | rfl | rfl | rfl <;> rfl) (by omega) (by unfold maxLen; omega) (by omega) (by simp; omega) (W.heap.size + 1) (by simp) ?_; intro g cap w5 hown5 hgrow5 hat5 hlt5; have hn5 := HF.out _ _ hgrow5; have hfz5 := frozenB hn5.1 0; have hcb5 : w5.cell? ⟨b, 0, none⟩ = some vF := cellB hn5.1 0))
    all_goals
      clear hcb5 hfz5 hn5 k0 k1 k2 k3 k4 k5 c0 hfz
      go_wp2
      go_ret
      have HD : Below W.heap.size W (W.drew.alloc (.cells #[.int .i64 5, .int .i64 a, .string (M.str w3), .slice none 0 0, .int .i64 nk, .slice none 0 0] 49)) := (Below.refl _ _).drew.alloc (Nat.le_refl _) _
      refine ⟨rfl, ?_, _, (hP4.later HD).addFrag ⟨5, a, M.groupOf w3, [], nk, []⟩ (.slice none 0 0) hgrow5 (by rw [HG.out]; exact hown5) (World.ownsRow_nil _ _ _ _) ⟨(fun b hb => by simp at hb), (by rw [HG.out]; exact hgs)⟩ rfl⟩
      refine Below.setCell ?_ hP4.le _
      exact (((HX2.out.mono hB).trans (HB4.out.mono (by have := HX2.out.size; omega))).trans (HD.mono hBW)).grown hgrow5 (by simp; omega) (fun k hk => (hP4.rowF.lt k hk).1)
  ·
    have HG : Hid (M.groupOf w3 = ⟨#[]⟩) := group_dash hd
    have hgs : (⟨#[]⟩ : ByteArray).size ≤ maxLen := by unfold maxLen; decide
    have HBx : Hid (Below x2.heap.size x2 (x2.alloc (.cells #[.int .i64 5, .int .i64 a, .string ⟨#[]⟩, .slice none 0 0, .int .i64 0, .slice none 0 0] 49))) := (Below.refl _ _).alloc (Nat.le_refl _) _
    go_wp2_with (go_at_call 48; refine (K3.out _ (HX2.out.trans (HBx.out.mono HX2.out.size))).mono ?_; rintro e x3 ⟨rfl, hb3⟩; refine Hid.out ?_)
    have q3 : x3.heap[x2.heap.size]? = some (.cells #[.int .i64 5, .int .i64 a, .string ⟨#[]⟩, .slice none 0 0, .int .i64 0, .slice none 0 0] 49 (0, 0)) := by
      rw [hb3.block _ (by simp)]
      exact heap_alloc_new _ _
    have HB3 : Hid (Below x2.heap.size x2 x3) := HBx.out.trans (hb3.mono (by simp))
    have c4 := cellB q3 4
    have f4 := frozenB q3 4
    simp only [List.getElem?_toArray, List.getElem?_cons_zero, List.getElem?_cons_succ] at c4
    clear hb3
    refine Lib.hid ?_
    go_wp2_with fail
    have q4 : (x3.setCell ⟨x2.heap.size, 4, none⟩ (.int .i64 nk)).heap[x2.heap.size]? = some (.cells #[.int .i64 5, .int .i64 a, .string ⟨#[]⟩, .slice none 0 0, .int .i64 nk, .slice none 0 0] 49 (0, 0)) := setB' q3 _
    have HB4 : Hid (Below x2.heap.size x2 (x3.setCell ⟨x2.heap.size, 4, none⟩ (.int .i64 nk))) := HB3.out.setCell (Nat.le_refl _) _
    generalize (x3.setCell ⟨x2.heap.size, 4, none⟩ (.int .i64 nk)) = W at *
    have hP4 := hP2.later HB4.out
    have hBx : ∀ k, vF.ownBlock = some k → k ≠ x2.heap.size := fun k hk => by have := (hP2.rowF.lt k hk).2; omega
    have c0 : W.cell? ⟨b, 0, none⟩ = some vF := cellB hP4.blk 0
    have k0 : W.cell? ⟨x2.heap.size, 0, none⟩ = some (.int .i64 5) := cellB q4 0
    have k1 : W.cell? ⟨x2.heap.size, 1, none⟩ = some (.int .i64 a) := cellB q4 1
    have k2 : W.cell? ⟨x2.heap.size, 2, none⟩ = some (.string ⟨#[]⟩) := cellB q4 2
    have k3 : W.cell? ⟨x2.heap.size, 3, none⟩ = some (.slice none 0 0) := cellB q4 3
    have k4 : W.cell? ⟨x2.heap.size, 4, none⟩ = some (.int .i64 nk) := cellB q4 4
    have k5 : W.cell? ⟨x2.heap.size, 5, none⟩ = some (.slice none 0 0) := cellB q4 5
    have hbW : b < W.heap.size := (Array.getElem?_eq_some_iff.1 hP4.blk).1
    have hNW : x2.heap.size < W.heap.size := (Array.getElem?_eq_some_iff.1 q4).1
    have hBW : B ≤ W.heap.size := by have := HX2.out.size; omega
    clear c4 f4 q3 HB3 HBx
    have hfz : W.frozen? ⟨b, 0, none⟩ = false := frozenB hP4.blk 0
    have hownW : ∀ o, (W.drew.alloc o).ownsRow B 49 6 vF es.length (es.flatMap entCells) := fun o => World.ownsRow.alloc (w := W.drew) (show W.drew.ownsRow B 49 6 vF es.length (es.flatMap entCells) from hP4.rowF) o
    have hnews : ∀ j u, (#[.int .i64 5, .int .i64 a, .string ⟨#[]⟩, .slice none 0 0, .int .i64 nk, .slice none 0 0] : Array Value).toList[j]? = some u → (W.drew.alloc (.cells #[.int .i64 5, .int .i64 a, .string ⟨#[]⟩, .slice none 0 0, .int .i64 nk, .slice none 0 0] 49)).cell? ((⟨W.heap.size, 0, none⟩ : Addr).add j) = some u := World.news_of_block (heap_alloc_new W.drew _)
    have HF : Hid (∀ w5 o, (W.drew.alloc o).grownBy w5 vF.ownBlock → w5.heap[b]? = some (.cells #[vF, vD] 25 (0, 0)) ∧ w5.heap[x2.heap.size]? = some (.cells #[.int .i64 5, .int .i64 a, .string ⟨#[]⟩, .slice none 0 0, .int .i64 nk, .slice none 0 0] 49 (0, 0))) := fun w5 o hg => far_rows hP4 q4 hg hBx hNW
    go_region_law ((refine step_append_lies _ (by rfl) _ _ _ (by rfl) B 49 i0 (.agg #[.int .i64 0, .int .i64 0, .string ⟨#[]⟩, .slice none 0 0, .int .i64 0, .slice none 0 0]) 6 88 Tryd.underlying22 hi hz0 hz1 hz2 rfl (by decide) vF es.length (es.flatMap entCells) (by rfl) (hownW _) ⟨W.heap.size, 0, none⟩ 1 1 #[.int .i64 5, .int .i64 a, .string ⟨#[]⟩, .slice none 0 0, .int .i64 nk, .slice none 0 0].toList (by rfl) (by rfl) hnews (fun u hu => by simp at hu; rcases hu with rfl | rfl | rfl | rfl | rfl | rfl <;> rfl) (by omega) (by unfold maxLen; omega) (by omega) (by simp; omega) (W.heap.size + 1) (by simp) ?_; intro g cap w5 hown5 hgrow5 hat5 hlt5; have hn5 := HF.out _ _ hgrow5; have hfz5 := frozenB hn5.1 0; have hcb5 : w5.cell? ⟨b, 0, none⟩ = some vF := cellB hn5.1 0))
    all_goals
      clear hcb5 hfz5 hn5 k0 k1 k2 k3 k4 k5 c0 hfz
      go_wp2
      go_ret
      have HD : Below W.heap.size W (W.drew.alloc (.cells #[.int .i64 5, .int .i64 a, .string ⟨#[]⟩, .slice none 0 0, .int .i64 nk, .slice none 0 0] 49)) := (Below.refl _ _).drew.alloc (Nat.le_refl _) _
      refine ⟨rfl, ?_, _, (hP4.later HD).addFrag ⟨5, a, M.groupOf w3, [], nk, []⟩ (.slice none 0 0) hgrow5 (by rw [HG.out]; exact hown5) (World.ownsRow_nil _ _ _ _) ⟨(fun b hb => by simp at hb), (by rw [HG.out]; exact hgs)⟩ rfl⟩
      refine Below.setCell ?_ hP4.le _
      exact (((HX2.out.mono hB).trans (HB4.out.mono (by have := HX2.out.size; omega))).trans (HD.mono hBW)).grown hgrow5 (by simp; omega) (fun k hk => (hP4.rowF.lt k hk).1)

end Go.Proofs.YtogipjjmnmahnaaDoor
