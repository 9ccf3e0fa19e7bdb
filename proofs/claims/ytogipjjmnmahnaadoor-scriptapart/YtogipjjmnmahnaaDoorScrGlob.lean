/-
  What the listed variables hold when the call begins, as the script's walks use it.
-/
import Derived.Test.YtogipjjmnmahnaaDoorScrLib
import Derived.Test.YtogipjjmnmahnaaDoorRows
import Derived.Lib.LaidTab
import Derived.LaidLaws
namespace Go.Proofs.YtogipjjmnmahnaaDoor
open Go Go.RowKit
set_option linter.unusedVariables false

/-- one of the listed variables -/
theorem laid_at {P : Program} {W : World} {n : String} {d : DataW Unit} : ∀ (l : List (String × DataW Unit)) (ps : List MemPlace), DataW.LaidVars P W l ps → (n, d) ∈ l →
    ∃ g t cs fuel p, P.globalNamed n = some g ∧ (P.globals[g]?).map (·.type) = some t ∧ W.var? P n = some cs ∧ DataW.trod (fun _ => ()) P W 0 (fun _ => true) false fuel t cs.toList = some (d, p)
  | [], _, _, h => by cases h
  | (n', d') :: r, ps, h, hm => by
    obtain ⟨g, t, cs, fuel, p, q, h1, h2, h3, h4, h5, h6⟩ := h
    rcases List.mem_cons.1 hm with hm | hm
    · cases hm
      exact ⟨g, t, cs, fuel, p, h1, h2, h3, h4⟩
    · exact laid_at r q h5 hm

/-- an array of texts that reads as these -/
theorem cells_of_strs {H : Type} {enc : TypeId × Value → H} {P : Program} {w : World} {base : Nat} {sp : Nat → Bool} {held : Bool} {fuel : Nat} {t e : TypeId} {n : Nat} {cs : List Value} {zs : List (List UInt8)} {p : List MemPlace}
    (ht : P.underlying t = some (.array n e)) (he : P.underlying e = some .string) (hce : P.cellsOf e = 1) (hct : P.cellsOf t = n)
    (h : DataW.trod enc P w base sp held fuel t cs = some (.agg (zs.map fun z => .lit (.string z)), p)) : cs = zs.map fun z => Value.string (M.str z) := by
  cases fuel with
  | zero => simp [DataW.trod] at h
  | succ fuel =>
    simp only [DataW.trod, ht, hce, hct, Nat.mul_one] at h
    split at h
    · rename_i hl
      obtain ⟨xs, hm, hx⟩ := Option.map_eq_some_iff.1 h
      have hxs : xs.map (·.1) = zs.map fun z => (DataW.lit (.string z) : DataW H) := by
        have := congrArg Prod.fst hx
        simpa using this
      have hxl : xs.length = n := by simpa using Lib.mapM_length hm
      have hzl : zs.length = n := by
        have := congrArg List.length hxs
        simp at this
        omega
      apply List.ext_getElem?
      intro i
      by_cases hi : i < n
      · obtain ⟨b, hb, hf⟩ := Lib.mapM_at hm i i (by simp [hi])
        obtain ⟨s, hc, rfl, _⟩ := DataW.trod_string he hf
        have h1 : cs[i]? = some (.string s) := by
          have := congrArg (·[0]?) hc
          simpa [List.getElem?_take, List.getElem?_drop] using this
        have h2 : (xs.map (·.1))[i]? = some (DataW.lit (.string s.data.toList) : DataW H) := by simp [hb]
        rw [hxs] at h2
        simp only [List.getElem?_map, Option.map_eq_some_iff, DataW.lit.injEq, Lit.string.injEq] at h2
        obtain ⟨z', hz', rfl⟩ := h2
        rw [h1, List.getElem?_map, hz']
        simp [M.str]
      · rw [List.getElem?_eq_none (by omega), List.getElem?_eq_none (by simp; omega)]
    · cases h

theorem var_cell {P : Program} {W : World} {n : String} {g : Nat} {cs : Array Value} (hg : P.globalNamed n = some g) (h : W.var? P n = some cs) (i : Nat) : W.cell? ⟨g, i, none⟩ = cs[i]? := World.var?_cell hg h i

theorem strs_cells {W : World} {n : String} {g : Nat} {zs : List (List UInt8)} {l : List (String × DataW Unit)} {ps : List MemPlace} (hl : DataW.LaidVars Tryd.prog W l ps) (hm : (n, (.agg (zs.map fun z => .lit (.string z)) : DataW Unit)) ∈ l)
    (hg : Tryd.prog.globalNamed n = some g) (hty : (Tryd.prog.globals[g]?).map (·.type) = some 51) (hz : zs.length = 6) : ∀ i, i < 6 → W.cell? ⟨g, i, none⟩ = some (.string (M.str (zs.getD i []))) := by
  obtain ⟨g', t, cs, fuel, p, h1, h2, h3, h4⟩ := laid_at l ps hl hm
  obtain rfl := Option.some.inj (hg.symm.trans h1)
  obtain rfl := Option.some.inj (hty.symm.trans h2)
  have hc := cells_of_strs (n := 6) (e := 9) Tryd.underlying51 Tryd.underlying9 (by kernel_rfl) (by kernel_rfl) h4
  intro i hi
  rw [var_cell hg h3 i, ← Array.getElem?_toList, hc, List.getElem?_map, List.getD_eq_getElem?_getD, List.getElem?_eq_getElem (by omega)]
  rfl

theorem err_cell {W : World} {n nm : String} {g : Nat} {d : DataW Unit} {l : List (String × DataW Unit)} {ps : List MemPlace} (hl : DataW.LaidVars Tryd.prog W l ps) (hm : (n, (.iface nm d : DataW Unit)) ∈ l)
    (hg : Tryd.prog.globalNamed n = some g) (hty : (Tryd.prog.globals[g]?).map (·.type) = some 41) : ∃ ev, W.cell? ⟨g, 0, none⟩ = some ev ∧ (ev = .nilIface ∨ ∃ te pe, ev = .iface te pe) := by
  obtain ⟨g', t, cs, fuel, p, h1, h2, h3, h4⟩ := laid_at l ps hl hm
  obtain rfl := Option.some.inj (hg.symm.trans h1)
  obtain rfl := Option.some.inj (hty.symm.trans h2)
  obtain ⟨fuel', u, v, hc, _, _⟩ := iface_of_trod Tryd.underlying41 h4
  refine ⟨.iface u v, ?_, .inr ⟨u, v, rfl⟩⟩
  rw [var_cell hg h3 0, ← Array.getElem?_toList, hc]
  rfl

theorem block_of_cell {W : World} {g i : Nat} {v : Value} (h : W.cell? ⟨g, i, none⟩ = some v) : g < W.heap.size := World.block_lt_of_cell? _ _ h

theorem glob_of {W : World} {l : List (String × DataW Unit)} {ps : List MemPlace} (hl : DataW.LaidVars Tryd.prog W l ps) (hsh : W.ShapedOpen Tryd.prog)
    (m1 : ("internal/strconv.uint64pow10", Rows.laid_internal_strconv_uint64pow10) ∈ l) (m2 : ("strconv.ErrRange", Rows.laid_strconv_ErrRange) ∈ l) (m3 : ("strconv.ErrSyntax", Rows.laid_strconv_ErrSyntax) ∈ l)
    (m4 : ("ropewalk/script.sections", Rows.laid_ropewalk_script_sections) ∈ l) (m5 : ("ropewalk/script.places", Rows.laid_ropewalk_script_places) ∈ l) (m6 : ("ropewalk/script.defs", Rows.laid_ropewalk_script_defs) ∈ l) : Glob W := by
  have c1 := strs_cells (zs := M.sectT) (g := 0) hl m4 (by kernel_rfl) (by kernel_rfl) rfl
  have c2 := strs_cells (zs := M.kindT) (g := 1) hl m5 (by kernel_rfl) (by kernel_rfl) rfl
  have c3 := strs_cells (zs := M.defT) (g := 2) hl m6 (by kernel_rfl) (by kernel_rfl) rfl
  have c4 := err_cell (g := 7) hl m3 (by kernel_rfl) (by kernel_rfl)
  have c5 := err_cell (g := 8) hl m2 (by kernel_rfl) (by kernel_rfl)
  have c6 : ∃ m, W.cell? ⟨3, 0, none⟩ = some (.int .i64 m) := Tryd.laysM145.s1_3 W hsh
  have htab : Lib.TabIs Tryd.prog W "internal/strconv.uint64pow10" .u64 Lib.pow10Tab := by
    obtain ⟨g', t, cs, fuel, p, h1, h2, h3, h4⟩ := laid_at l ps hl m1
    obtain rfl := Option.some.inj ((show Tryd.prog.globalNamed "internal/strconv.uint64pow10" = some 4 by kernel_rfl).symm.trans h1)
    obtain rfl := Option.some.inj ((show (Tryd.prog.globals[4]?).map (·.type) = some 114 by kernel_rfl).symm.trans h2)
    have e : (Rows.laid_internal_strconv_uint64pow10 : DataW Unit) = Lib.tabData .u64 Lib.pow10Tab := by
      simp only [Rows.laid_internal_strconv_uint64pow10, Lib.tabData, Lib.pow10Tab]; rfl
    rw [e] at h4
    have := Lib.cells_of_tab (n := 20) (e := 105) Tryd.underlying114 Tryd.underlying105 (by kernel_rfl) (by kernel_rfl) h4
    unfold Lib.TabIs
    rw [h3, ← this]
  have hp8 : 4 < W.heap.size := by
    have := Lib.TabIs.cell (g := 4) htab (by kernel_rfl) 0 (by decide)
    exact block_of_cell this
  refine ⟨?_, htab, c1, c2, c3, c6, c4, c5⟩
  obtain ⟨_, h4, _⟩ := c4
  obtain ⟨_, h5, _⟩ := c5
  obtain ⟨_, h6⟩ := c6
  have a1 := block_of_cell h4
  have a2 := block_of_cell h5
  have a3 := block_of_cell h6
  have a4 := block_of_cell (c3 0 (by decide))
  omega

end Go.Proofs.YtogipjjmnmahnaaDoor
