/-
  The reference's ReadPart: what it has in memory, line by line. The reference's ReadPart: a line of another kind.
-/
import Derived.Test.YthiknlnhdjoipaaGreatDoorRefRdBytes
import Derived.Test.YthiknlnhdjoipaaGreatDoorRefTextR
import Derived.Test.YthiknlnhdjoipaaGreatDoorRefTextL
import Derived.Test.YthiknlnhdjoipaaGreatDoorScrParse
import Derived.Test.YthiknlnhdjoipaaGreatDoorRfS
import Derived.Test.YthiknlnhdjoipaaGreatDoorRfW

namespace Go.Proofs.YthiknlnhdjoipaaGreatDoor
open Go Go.RowKit
set_option linter.unusedVariables false
attribute [local go_sem] lat_cell

def blksOfL : Code → List Code
  | .block i c => .block i c :: blksOfL c
  | .loop c => blksOfL c
  | .seq a b => blksOfL a ++ blksOfL b
  | .scope c => blksOfL c
  | .cond _ a b => blksOfL a ++ blksOfL b
  | _ => []

/-- what ReadPart has in memory -/
structure RdS (w : World) (b2 b5 g6 : Nat) (ls : Array Value) (p : M.Prt) (i : Nat) (W : World) : Prop where
  bel : Below w.heap.size w W
  c2 : W.heap[b2]? = some (.cells #[.slice none 0 0, .slice none 0 0] 25 (0, 0))
  part : HasPart W w.heap.size b5 p
  c6 : W.heap[g6]? = some (.cells ls 9 (0, 0))
  few : Few p i
theorem RdS.later {w W X : World} {b2 b5 g6 : Nat} {ls : Array Value} {p : M.Prt} {i : Nat} (h : RdS w b2 b5 g6 ls p i W) (hb : Below W.heap.size W X) : RdS w b2 b5 g6 ls p i X :=
  ⟨h.bel.trans (hb.mono h.bel.size), (hb.block _ (Array.getElem?_eq_some_iff.1 h.c2).1).trans h.c2, h.part.later hb, (hb.block _ (Array.getElem?_eq_some_iff.1 h.c6).1).trans h.c6, h.few⟩

theorem PM.setO {W : World} {B b b2 i : Nat} {es : List Ent} {ds : List M.Dfn} {vF vD u : Value} {cs : Array Value} (h : PM W B b es ds vF vD) (hq : W.heap[b2]? = some (.cells cs 25 (0, 0))) (hne : b ≠ b2) : PM (W.setCell ⟨b2, i, none⟩ u) B b es ds vF vD :=
  ⟨h.le, (Below.heap_setCell _ _ _ _ hne).trans h.blk, h.rowF.kept (grown_set W b2 i u) (own_ne h.rowF hq (by decide)), h.rowD.kept (grown_set W b2 i u) (own_ne h.rowD hq (by decide)), fun e he => (h.bytes e he).kept (grown_set W b2 i u) (own_ne (h.bytes e he) hq (by decide)), h.small, h.smallD, fun e he => (h.rels e he).kept (grown_set W b2 i u) (own_ne (h.rels e he) hq (by decide)), h.last⟩

theorem few_frag {p : M.Prt} {i : Nat} (h : Few p i) (f : M.Frg) (hr : f.rels = []) : Few ⟨p.frags ++ [f], p.defs⟩ (i + 1) := by
  obtain ⟨h1, h2, h3⟩ := h
  refine ⟨by simp; omega, by simp; omega, fun x hx => ?_⟩
  rcases List.mem_append.1 hx with hx | hx
  · have := h3 x hx; omega
  · rw [List.mem_singleton.1 hx, hr]; simp
theorem few_def {p : M.Prt} {i : Nat} (h : Few p i) (d : M.Dfn) : Few ⟨p.frags, p.defs ++ [d]⟩ (i + 1) := by
  obtain ⟨h1, h2, h3⟩ := h
  exact ⟨by simp; omega, by simp; omega, fun x hx => by have := h3 x hx; omega⟩
theorem few_rel {i : Nat} {init : List M.Frg} {l : M.Frg} {ds : List M.Dfn} (h : Few ⟨init ++ [l], ds⟩ i) (r : M.Rel) : Few ⟨init ++ [M.addRel l r], ds⟩ (i + 1) := by
  obtain ⟨h1, h2, h3⟩ := h
  simp only [List.length_append, List.length_singleton] at h1
  refine ⟨by simp; omega, by simp only at h2 ⊢; omega, fun x hx => ?_⟩
  rcases List.mem_append.1 hx with hx | hx
  · have := h3 x (by simp [hx]); omega
  · rw [List.mem_singleton.1 hx]
    have := h3 l (by simp)
    simp [M.addRel]; omega

theorem part_ne {W : World} {g b : Nat} {ls cs : Array Value} (h : W.heap[g]? = some (.cells ls 9 (0, 0))) (hb : W.heap[b]? = some (.cells cs 25 (0, 0))) : g ≠ b := fun e => by
  rw [e, hb] at h
  injection h with h1
  injection h1 with _ h2
  exact absurd h2 (by decide)
theorem frag_ne {W : World} {g b : Nat} {t : TypeId} {ls cs : Array Value} (ht : t ≠ 50) (h : W.heap[g]? = some (.cells ls t (0, 0))) (hb : W.heap[b]? = some (.cells cs 50 (0, 0))) : g ≠ b := fun e => by
  rw [e, hb] at h
  injection h with h1
  injection h1 with _ h2
  exact ht h2.symm

theorem own_low {w : World} {B B' k n : Nat} {e : TypeId} {v : Value} {xs : List Value} (h : w.ownsRow B e k v n xs) (hb : B' ≤ B) : w.ownsRow B' e k v n xs := by
  refine ⟨h.1, ?_⟩
  rcases h.2 with h1 | ⟨g, cap, cur, h1, h2, h3⟩
  · exact .inl h1
  · exact .inr ⟨g, cap, cur, h1, Nat.le_trans hb h2, h3⟩

/-- a fragment more -/
theorem RdS.frag {w W X : World} {b2 b5 g6 i : Nat} {ls : Array Value} {es : List Ent} {ds : List M.Dfn} {vF vD v' : Value} (h : RdS w b2 b5 g6 ls ⟨es.map (·.f), ds⟩ i W) (hP : PM W w.heap.size b5 es ds vF vD) (hne : b2 ≠ b5) (f : M.Frg) (bv : Value)
    (hgr : W.grownBy X vF.ownBlock) (hrow : X.ownsRow w.heap.size 50 6 v' (es.length + 1) (es.flatMap entCells ++ entCells ⟨f, bv, .slice none 0 0⟩))
    (hby : W.ownsRow w.heap.size 5 1 bv f.bytes.length (f.bytes.map (Value.int .u8))) (hsm : (∀ b ∈ f.bytes, 0 ≤ b ∧ b < 256) ∧ f.group.size ≤ maxLen) (hr : f.rels = []) :
    RdS w b2 b5 g6 ls ⟨es.map (·.f) ++ [f], ds⟩ (i + 1) (X.setCell ⟨b5, 0, none⟩ v') :=
  ⟨(h.bel.grown hgr h.bel.size (fun k hk => (hP.rowF.lt k hk).1)).setCell hP.le _, (Below.heap_setCell _ _ _ _ hne).trans (rd_kept hP.rowF hgr h.c2 (by decide)), ⟨_, _, _, _, hP.addFrag f bv hgr hrow hby hsm hr, by simp⟩, (Below.heap_setCell _ _ _ _ (part_ne h.c6 hP.blk)).trans (rd_kept hP.rowF hgr h.c6 (by decide)), few_frag h.few f hr⟩

/-- a definition more -/
theorem RdS.dfn {w W X : World} {b2 b5 g6 i : Nat} {ls : Array Value} {es : List Ent} {ds : List M.Dfn} {vF vD v' : Value} (h : RdS w b2 b5 g6 ls ⟨es.map (·.f), ds⟩ i W) (hP : PM W w.heap.size b5 es ds vF vD) (hne : b2 ≠ b5) (d : M.Dfn)
    (hgr : W.grownBy X vD.ownBlock) (hrow : X.ownsRow w.heap.size 60 6 v' (ds.length + 1) (ds.flatMap encDfn ++ encDfn d)) (hsm : d.name.size ≤ maxLen) :
    RdS w b2 b5 g6 ls ⟨es.map (·.f), ds ++ [d]⟩ (i + 1) (X.setCell ⟨b5, 1, none⟩ v') :=
  ⟨(h.bel.grown hgr h.bel.size (fun k hk => (hP.rowD.lt k hk).1)).setCell hP.le _, (Below.heap_setCell _ _ _ _ hne).trans (rd_kept hP.rowD hgr h.c2 (by decide)), ⟨_, _, _, _, hP.addDef d hgr hrow hsm, rfl⟩, (Below.heap_setCell _ _ _ _ (part_ne h.c6 hP.blk)).trans (rd_kept hP.rowD hgr h.c6 (by decide)), few_def h.few d⟩

/-- a place more, in the last fragment -/
theorem RdS.rel {w W X : World} {b2 b5 g6 i g cap : Nat} {ls : Array Value} {init : List Ent} {l : Ent} {ds : List M.Dfn} {vD v' : Value} (h : RdS w b2 b5 g6 ls ⟨(init ++ [l]).map (·.f), ds⟩ i W) (hP : PM W w.heap.size b5 (init ++ [l]) ds (.slice (some ⟨g, 0, none⟩) (init.length + 1) cap) vD) (r : M.Rel)
    (hgr : W.grownBy X l.rv.ownBlock) (hrow : X.ownsRow w.heap.size 57 5 v' (l.f.rels.length + 1) (l.f.rels.flatMap encRel ++ encRel r)) (hown : l.rv.ownBlock = v'.ownBlock ∨ v'.ownBlock = some W.heap.size) (hsm : r.name.size ≤ maxLen ∧ (Lit.int .i64 r.kind).wf = true) :
    RdS w b2 b5 g6 ls ⟨init.map (·.f) ++ [M.addRel l.f r], ds⟩ (i + 1) (X.setCell ⟨g, init.length * 6 + 5, none⟩ v') := by
  have hrl := hP.rels l (by simp)
  obtain ⟨_, cur, hg⟩ := hP.lastCell
  have hg2 := rd_kept hrl hgr hg (by decide)
  have hc2 := rd_kept hrl hgr h.c2 (by decide)
  have hc6 := rd_kept hrl hgr h.c6 (by decide)
  refine ⟨(h.bel.grown hgr h.bel.size (fun k hk => (hrl.lt k hk).1)).setCell (hP.rowF.lt g rfl).1 _, (Below.heap_setCell _ _ _ _ (frag_ne (by decide) hc2 hg2)).trans hc2, ⟨_, _, _, _, hP.addRel r hgr hrow hown hsm, by simp⟩, (Below.heap_setCell _ _ _ _ (frag_ne (by decide) hc6 hg2)).trans hc6, ?_⟩
  have := h.few
  rw [List.map_append, List.map_singleton] at this
  exact few_rel this r

/-- a line that is read: its words, its number -/
structure LnS (w : World) (b2 b5 g6 : Nat) (ls : Array Value) (p : M.Prt) (i gw b7 : Nat) (ws : Array Value) (W : World) : Prop where
  rd : RdS w b2 b5 g6 ls p i W
  cw : W.heap[gw]? = some (.cells ws 9 (0, 0))
  c7 : W.heap[b7]? = some (.cells #[.int .i64 i] 3 (0, 0))
theorem LnS.later {w W X : World} {b2 b5 g6 i gw b7 : Nat} {ls ws : Array Value} {p : M.Prt} (h : LnS w b2 b5 g6 ls p i gw b7 ws W) (hb : Below W.heap.size W X) : LnS w b2 b5 g6 ls p i gw b7 ws X :=
  ⟨h.rd.later hb, (hb.block _ (Array.getElem?_eq_some_iff.1 h.cw).1).trans h.cw, (hb.block _ (Array.getElem?_eq_some_iff.1 h.c7).1).trans h.c7⟩

/-- how a line that is not right ends -/
def BadS (w : World) (b2 : Nat) (W : World) : Prop := Below w.heap.size w W ∧ W.heap[b2]? = some (.cells #[.slice none 0 0, .slice none 0 0] 25 (0, 0))

/-- the answer at such a line, and the cell that takes it -/
theorem rd_bad {w W0 : World} {b2 b5 g6 i gw b7 : Nat} {ls ws : Array Value} {p : M.Prt} (h : LnS w b2 b5 g6 ls p i gw b7 ws W0) (hb2 : w.heap.size ≤ b2) (W : World) (hW : Below W0.heap.size W0 W) :
    Calls Tryz.prog 34 #[.pointer (some ⟨b7, 0, none⟩)] W fun e V => e = .returned (.tuple #[.agg #[.slice none 0 0, .slice none 0 0], .int .i64 i, .int .i64 1]) ∧ V.cell? ⟨b2, 0, none⟩ = some (.slice none 0 0) ∧ V.cell? ⟨b2, 1, none⟩ = some (.slice none 0 0) ∧ (∀ j, V.frozen? ⟨b2, j, none⟩ = false) ∧ b2 < V.heap.size ∧ Hid (BadS w b2 V) ∧ Hid (BadS w b2 ((V.setCell ⟨b2, 0, none⟩ (.slice none 0 0)).setCell ⟨b2, 1, none⟩ (.slice none 0 0))) := by
  have hL := h.later hW
  refine (rbad_any b7 i W hL.c7).mono ?_
  rintro e V ⟨rfl, hb⟩
  have hR := hL.rd.later hb
  have q1 := setB' (i := 0) hR.c2 (.slice none 0 0)
  have q2 := setB' (i := 1) q1 (.slice none 0 0)
  exact ⟨rfl, cellB hR.c2 0, cellB hR.c2 1, frozenB hR.c2, (Array.getElem?_eq_some_iff.1 hR.c2).1, ⟨hR.bel, hR.c2⟩, ⟨(hR.bel.setCell hb2 _).setCell hb2 _, q2⟩⟩

/-- word and whole at a line's words -/
theorem whole_some {t : M.Txt} {v : Int} (h : M.num t = some v) (ht : t.length ≤ 20000) (W : World) (hG : Glob W) :
    Calls Tryz.prog 37 #[.string (M.str t)] W fun e w' => e = .returned (.tuple #[.int .i64 v, .bool true]) ∧ Below W.heap.size W w' := by
  refine (whole_any (M.str t) (by rw [str_size]; omega) W hG).mono ?_
  rintro e w' ⟨⟨n, rfl, hn⟩, hb⟩
  rw [txt_str, h] at hn
  rw [txt_str, h, hn v rfl]
  exact ⟨rfl, hb⟩
theorem whole_none {t : M.Txt} (h : M.num t = none) (ht : t.length ≤ 20000) (W : World) (hG : Glob W) :
    Calls Tryz.prog 37 #[.string (M.str t)] W fun e w' => (∃ n : Int, e = .returned (.tuple #[.int .i64 n, .bool false])) ∧ Below W.heap.size W w' := by
  refine (whole_any (M.str t) (by rw [str_size]; omega) W hG).mono ?_
  rintro e w' ⟨⟨n, rfl, hn⟩, hb⟩
  rw [txt_str, h]
  exact ⟨⟨n, rfl⟩, hb⟩

end Go.Proofs.YthiknlnhdjoipaaGreatDoor

namespace Go.Proofs.YthiknlnhdjoipaaGreatDoor
open Go Go.RowKit
set_option linter.unusedVariables false
attribute [local go_sem] lat_cell

theorem findFrom_ge : ∀ (l : List M.Txt) (t : M.Txt) (i k : Nat), M.findFrom i l t = some k → i ≤ k
  | [], _, _, _, h => by cases h
  | x :: r, t, i, k, h => by
    simp only [M.findFrom] at h
    split at h
    · cases h; exact Nat.le_refl _
    · exact Nat.le_of_succ_le (findFrom_ge r t (i + 1) k h)
theorem find_pos {l : List M.Txt} {t : M.Txt} {k : Nat} (ht : t ≠ []) (h : M.find ([] :: l) t = some k) : k ≠ 0 := by
  simp only [M.find, M.findFrom] at h
  rw [if_neg (fun e => ht e.symm)] at h
  have := findFrom_ge l t 1 k h
  omega
theorem find_zero {l : List M.Txt} {t : M.Txt} (ht : t ≠ []) : (M.find ([] :: l) t).getD 0 = 0 ↔ M.find ([] :: l) t = none := by
  cases h : M.find ([] :: l) t with
  | none => simp
  | some k => have := find_pos ht h; simp [this]

set_option maxHeartbeats 8000000 in
set_option maxRecDepth 1000000 in
theorem rd_none {zc0 zc1 zc3 zc4 zc6 zc8 zc11 zc12 zc13 zc14 zc15 zc16 zc17 zc18 zc19 zc20 zc21 zc22 zc23 zc24 zc25 zc26 zc27 zc28 zc29 zc30 zc31 zc32 zc33 zc34 zc35 zc36 zc37 zc38 zc39 zc40 zc41 zc42 zc43 zc44 zc45 zc46 zc47 zc48 zc49 zc50 zc51 zc52 zc53 zc54 zc55 zc56 zc57 zc58 zc59 zc60 zc61 zc62 zc63 zc64 zc65 zc66 zc67 zc68 zc69 zc70 zc71 zc72 zc73 zc75 zc76 zc77 zc78 zc79 zc80 zc81 zc82 zc83 zc84 zc85 zc86 zc87 zc88 zc89 zc90 zc91 zc92 zc93 zc94 zc95 zc96 zc97 zc98 zc99 zc100 zc101 zc102 zc103 zc104 zc105 zc106 zc107 zc108 zc109 zc110 zc111 zc112 zc113 zc114 zc115 zc116 zc117 zc118 zc119 zc120 zc121 zc122 zc123 zc124 zc125 zc126 zc127 zc128 zc129 zc130 zc131 zc132 zc133 zc134 zc135 zc136 zc137 zc138 zc139 zc140 zc141 zc142 zc143 zc144 zc145 zc146 zc147 zc148 zc149 zc150 zc151 zc152 zc153 zc154 zc155 zc156 zc157 zc158 zc159 zc160 zc161 zc162 zc163 zc164 zc165 zc166 zc167 zc168 zc169 zc170 zc171 zc172 zc173 zc174 zc175 zc176 zc177 zc178 zc179 zc180 zc181 zc182 zc183 zc184 zc185 zc186 zc187 zc188 zc189 zc190 zc191 zc192 zc193 zc194 zc195 zc196 zc197 zc198 zc199 zc200 zc201 zc202 zc203 zc204 zc205 zc206 zc207 zc208 zc209 zc210 zc211 zc212 zc213 zc214 zc215 zc216 zc217 zc218 zc219 zc220 zc221 zc222 zc223 zc224 zc225 zc226 zc227 zc228 zc229 zc230 zc231 zc232 zc233 zc234 zc235 zc236 zc237 zc238 zc239 zc240 zc241 zc242 zc243 zc244 zc245 zc246 zc247 zc248 zc249 zc250 zc251 zc252 zc253 zc254 zc255 zc256 zc257 zc258 zc259 zc260 zc261 zc262 zc263 zc264 zc265 zc266 zc267 zc268 zc269 zc270 zc271 zc272 zc273 zc274 zc275 zc276 zc277 zc278 zc279 zc280 zc281 zc282 zc283 zc284 zc285 zc286 zc287 zc288 zc289 zc290 zc291 zc292 zc293 zc294 zc295 zc296 zc297 zc298 zc299 zc300 zc301 zc302 zc303 zc304 zc305 zc306 zc307 zc308 zc309 zc310 zc311 zc312 zc313 zc314 zc315 zc316 zc317 zc318 zc319 zc320 zc321 zc322 zc323 zc324 zc325 zc326 zc327 zc328 zc329 zc330 zc331 zc332 zc333 zc334 zc335 zc336 zc337 zc338 zc339 zc340 zc341 zc342 zc343 zc344 zc345 zc346 zc347 zc348 zc349 zc350 zc351 : Value} (w W0 : World) (b2 b5 g6 i gw b7 : Nat) (ls ws : Array Value) (p : M.Prt) (w0 w1 w2 w3 w4 : M.Txt) (hG : Glob w) (hBk : Blanks w) (HL : Hid (LnS w b2 b5 g6 ls p i gw b7 ws W0)) (hw1 : ws[1]? = some (.string (M.str w1))) (hw2 : ws[2]? = some (.string (M.str w2))) (hw3 : ws[3]? = some (.string (M.str w3))) (hw4 : ws[4]? = some (.string (M.str w4))) (hne : b2 ≠ b5) (hb2 : w.heap.size ≤ b2) (HLe : Hid (w1.length ≤ 20000 ∧ w2.length ≤ 20000 ∧ w3.length ≤ 20000 ∧ w4.length ≤ 20000)) (HNe : Hid (w1 ≠ [] ∧ w2 ≠ [] ∧ w3 ≠ [] ∧ w4 ≠ [])) (hi : i ≤ 20001) (O : Option M.Prt) (HO : Hid (O = M.addWords p w0 w1 w2 w3 w4)) (c1 : ((M.str w0).toList == [102, 114, 97, 103]) = false) (c2 : ((M.str w0).toList == [97, 116]) = false) (c3 : ((M.str w0).toList == [100, 101, 102]) = false) {Q0 : Exit → Act → World → Prop}
    (hret : ∀ (zv11 zv12 zv13 zv14 zv15 zv16 zv17 zv18 zv19 zv20 zv21 zv22 zv23 zv24 zv25 zv26 zv27 zv28 zv29 zv30 zv31 zv32 zv33 zv34 zv75 zv76 zv77 zv78 zv79 zv80 zv81 zv82 zv83 zv84 zv85 zv86 zv87 zv88 zv89 zv90 zv91 zv92 zv93 zv94 zv95 zv96 zv97 zv98 zv99 zv100 zv101 zv102 zv103 zv104 zv105 zv106 zv107 zv108 zv109 zv110 zv111 zv112 zv113 zv114 zv115 zv116 zv117 zv118 zv119 zv120 zv121 zv122 zv123 zv124 zv125 zv126 zv127 zv128 zv129 zv130 zv131 zv132 zv133 zv134 zv135 zv136 zv137 zv138 zv139 zv140 zv141 zv142 zv143 zv144 zv145 zv146 zv147 zv148 zv149 zv150 zv151 zv152 zv153 zv154 zv155 zv156 zv157 zv158 zv159 zv160 zv161 zv162 zv163 zv164 zv165 zv166 zv167 zv168 zv169 zv170 zv171 zv172 zv173 zv174 zv175 zv176 zv177 zv178 zv179 zv180 zv181 zv182 zv183 zv184 zv185 zv186 zv187 zv188 zv189 zv190 zv191 zv192 zv193 zv194 zv195 zv196 zv197 zv198 zv199 zv200 zv201 zv202 zv203 zv204 zv205 zv206 zv207 zv208 zv209 zv210 zv211 zv212 zv213 zv214 zv215 zv216 zv217 zv218 zv219 zv220 zv221 zv222 zv223 zv224 zv225 zv226 zv227 zv228 zv229 zv230 zv231 zv232 zv233 zv234 zv235 zv236 zv237 zv238 zv239 zv240 zv241 zv242 zv243 zv244 zv245 zv246 zv247 zv248 zv249 zv250 zv251 zv252 zv253 zv254 zv255 zv256 zv257 zv258 zv259 zv260 zv261 zv262 zv263 zv264 zv265 zv266 zv267 zv268 zv269 zv270 zv271 zv272 zv273 zv274 zv275 zv276 zv277 zv278 zv279 zv280 zv281 zv282 zv283 zv284 zv285 zv286 zv287 zv288 zv289 zv290 zv291 zv292 zv293 zv294 zv295 zv296 zv297 zv298 zv299 zv300 zv301 zv302 zv303 zv304 zv305 zv306 zv307 zv308 zv309 zv310 zv311 zv312 zv313 zv314 zv315 zv316 zv317 zv318 zv319 zv320 zv321 zv322 zv323 zv324 zv325 zv326 zv327 zv328 zv329 zv330 zv331 zv332 zv333 zv334 zv335 zv336 zv337 zv338 zv339 zv340 zv341 zv342 zv343 : Value) (w'' : World), Hid (O = none) ∧ BadS w b2 w'' → Q0 .ret ⟨List.toArray (zc0 :: zc1 :: .pointer (some ⟨b2, 0, none⟩) :: .int .i64 i :: .int .i64 1 :: .pointer (some ⟨b5, 0, none⟩) :: zc6 :: .pointer (some ⟨b7, 0, none⟩) :: zc8 :: .func (.func (34 : Nat)) #[] #[.pointer (some ⟨b7, 0, none⟩)] :: .slice (some ⟨gw, 0, none⟩) 5 5 :: zv11 :: zv12 :: zv13 :: zv14 :: zv15 :: zv16 :: zv17 :: zv18 :: zv19 :: zv20 :: zv21 :: zv22 :: zv23 :: zv24 :: zv25 :: zv26 :: zv27 :: zv28 :: zv29 :: zv30 :: zv31 :: zv32 :: zv33 :: zv34 :: zc35 :: zc36 :: zc37 :: zc38 :: zc39 :: zc40 :: zc41 :: zc42 :: zc43 :: zc44 :: zc45 :: zc46 :: zc47 :: zc48 :: zc49 :: zc50 :: zc51 :: zc52 :: zc53 :: zc54 :: zc55 :: zc56 :: zc57 :: zc58 :: zc59 :: zc60 :: zc61 :: zc62 :: zc63 :: zc64 :: zc65 :: zc66 :: zc67 :: zc68 :: zc69 :: zc70 :: zc71 :: zc72 :: zc73 :: .string (M.str w0) :: zv75 :: zv76 :: zv77 :: zv78 :: zv79 :: zv80 :: zv81 :: zv82 :: zv83 :: zv84 :: zv85 :: zv86 :: zv87 :: zv88 :: zv89 :: zv90 :: zv91 :: zv92 :: zv93 :: zv94 :: zv95 :: zv96 :: zv97 :: zv98 :: zv99 :: zv100 :: zv101 :: zv102 :: zv103 :: zv104 :: zv105 :: zv106 :: zv107 :: zv108 :: zv109 :: zv110 :: zv111 :: zv112 :: zv113 :: zv114 :: zv115 :: zv116 :: zv117 :: zv118 :: zv119 :: zv120 :: zv121 :: zv122 :: zv123 :: zv124 :: zv125 :: zv126 :: zv127 :: zv128 :: zv129 :: zv130 :: zv131 :: zv132 :: zv133 :: zv134 :: zv135 :: zv136 :: zv137 :: zv138 :: zv139 :: zv140 :: zv141 :: zv142 :: zv143 :: zv144 :: zv145 :: zv146 :: zv147 :: zv148 :: zv149 :: zv150 :: zv151 :: zv152 :: zv153 :: zv154 :: zv155 :: zv156 :: zv157 :: zv158 :: zv159 :: zv160 :: zv161 :: zv162 :: zv163 :: zv164 :: zv165 :: zv166 :: zv167 :: zv168 :: zv169 :: zv170 :: zv171 :: zv172 :: zv173 :: zv174 :: zv175 :: zv176 :: zv177 :: zv178 :: zv179 :: zv180 :: zv181 :: zv182 :: zv183 :: zv184 :: zv185 :: zv186 :: zv187 :: zv188 :: zv189 :: zv190 :: zv191 :: zv192 :: zv193 :: zv194 :: zv195 :: zv196 :: zv197 :: zv198 :: zv199 :: zv200 :: zv201 :: zv202 :: zv203 :: zv204 :: zv205 :: zv206 :: zv207 :: zv208 :: zv209 :: zv210 :: zv211 :: zv212 :: zv213 :: zv214 :: zv215 :: zv216 :: zv217 :: zv218 :: zv219 :: zv220 :: zv221 :: zv222 :: zv223 :: zv224 :: zv225 :: zv226 :: zv227 :: zv228 :: zv229 :: zv230 :: zv231 :: zv232 :: zv233 :: zv234 :: zv235 :: zv236 :: zv237 :: zv238 :: zv239 :: zv240 :: zv241 :: zv242 :: zv243 :: zv244 :: zv245 :: zv246 :: zv247 :: zv248 :: zv249 :: zv250 :: zv251 :: zv252 :: zv253 :: zv254 :: zv255 :: zv256 :: zv257 :: zv258 :: zv259 :: zv260 :: zv261 :: zv262 :: zv263 :: zv264 :: zv265 :: zv266 :: zv267 :: zv268 :: zv269 :: zv270 :: zv271 :: zv272 :: zv273 :: zv274 :: zv275 :: zv276 :: zv277 :: zv278 :: zv279 :: zv280 :: zv281 :: zv282 :: zv283 :: zv284 :: zv285 :: zv286 :: zv287 :: zv288 :: zv289 :: zv290 :: zv291 :: zv292 :: zv293 :: zv294 :: zv295 :: zv296 :: zv297 :: zv298 :: zv299 :: zv300 :: zv301 :: zv302 :: zv303 :: zv304 :: zv305 :: zv306 :: zv307 :: zv308 :: zv309 :: zv310 :: zv311 :: zv312 :: zv313 :: zv314 :: zv315 :: zv316 :: zv317 :: zv318 :: zv319 :: zv320 :: zv321 :: zv322 :: zv323 :: zv324 :: zv325 :: zv326 :: zv327 :: zv328 :: zv329 :: zv330 :: zv331 :: zv332 :: zv333 :: zv334 :: zv335 :: zv336 :: zv337 :: zv338 :: zv339 :: zv340 :: zv341 :: zv342 :: zv343 :: zc344 :: zc345 :: zc346 :: zc347 :: zc348 :: zc349 :: zc350 :: zc351 :: []), []⟩ w'')
    (hnext : ∀ (zv11 zv12 zv13 zv14 zv15 zv16 zv17 zv18 zv19 zv20 zv21 zv22 zv23 zv24 zv25 zv26 zv27 zv28 zv29 zv30 zv31 zv32 zv33 zv34 zv75 zv76 zv77 zv78 zv79 zv80 zv81 zv82 zv83 zv84 zv85 zv86 zv87 zv88 zv89 zv90 zv91 zv92 zv93 zv94 zv95 zv96 zv97 zv98 zv99 zv100 zv101 zv102 zv103 zv104 zv105 zv106 zv107 zv108 zv109 zv110 zv111 zv112 zv113 zv114 zv115 zv116 zv117 zv118 zv119 zv120 zv121 zv122 zv123 zv124 zv125 zv126 zv127 zv128 zv129 zv130 zv131 zv132 zv133 zv134 zv135 zv136 zv137 zv138 zv139 zv140 zv141 zv142 zv143 zv144 zv145 zv146 zv147 zv148 zv149 zv150 zv151 zv152 zv153 zv154 zv155 zv156 zv157 zv158 zv159 zv160 zv161 zv162 zv163 zv164 zv165 zv166 zv167 zv168 zv169 zv170 zv171 zv172 zv173 zv174 zv175 zv176 zv177 zv178 zv179 zv180 zv181 zv182 zv183 zv184 zv185 zv186 zv187 zv188 zv189 zv190 zv191 zv192 zv193 zv194 zv195 zv196 zv197 zv198 zv199 zv200 zv201 zv202 zv203 zv204 zv205 zv206 zv207 zv208 zv209 zv210 zv211 zv212 zv213 zv214 zv215 zv216 zv217 zv218 zv219 zv220 zv221 zv222 zv223 zv224 zv225 zv226 zv227 zv228 zv229 zv230 zv231 zv232 zv233 zv234 zv235 zv236 zv237 zv238 zv239 zv240 zv241 zv242 zv243 zv244 zv245 zv246 zv247 zv248 zv249 zv250 zv251 zv252 zv253 zv254 zv255 zv256 zv257 zv258 zv259 zv260 zv261 zv262 zv263 zv264 zv265 zv266 zv267 zv268 zv269 zv270 zv271 zv272 zv273 zv274 zv275 zv276 zv277 zv278 zv279 zv280 zv281 zv282 zv283 zv284 zv285 zv286 zv287 zv288 zv289 zv290 zv291 zv292 zv293 zv294 zv295 zv296 zv297 zv298 zv299 zv300 zv301 zv302 zv303 zv304 zv305 zv306 zv307 zv308 zv309 zv310 zv311 zv312 zv313 zv314 zv315 zv316 zv317 zv318 zv319 zv320 zv321 zv322 zv323 zv324 zv325 zv326 zv327 zv328 zv329 zv330 zv331 zv332 zv333 zv334 zv335 zv336 zv337 zv338 zv339 zv340 zv341 zv342 zv343 : Value) (w'' : World), (∃ q, Hid (O = some q) ∧ RdS w b2 b5 g6 ls q (i + 1) w'') → Q0 .normal ⟨List.toArray (zc0 :: zc1 :: .pointer (some ⟨b2, 0, none⟩) :: zc3 :: zc4 :: .pointer (some ⟨b5, 0, none⟩) :: zc6 :: .pointer (some ⟨b7, 0, none⟩) :: zc8 :: .func (.func (34 : Nat)) #[] #[.pointer (some ⟨b7, 0, none⟩)] :: .slice (some ⟨gw, 0, none⟩) 5 5 :: zv11 :: zv12 :: zv13 :: zv14 :: zv15 :: zv16 :: zv17 :: zv18 :: zv19 :: zv20 :: zv21 :: zv22 :: zv23 :: zv24 :: zv25 :: zv26 :: zv27 :: zv28 :: zv29 :: zv30 :: zv31 :: zv32 :: zv33 :: zv34 :: zc35 :: zc36 :: zc37 :: zc38 :: zc39 :: zc40 :: zc41 :: zc42 :: zc43 :: zc44 :: zc45 :: zc46 :: zc47 :: zc48 :: zc49 :: zc50 :: zc51 :: zc52 :: zc53 :: zc54 :: zc55 :: zc56 :: zc57 :: zc58 :: zc59 :: zc60 :: zc61 :: zc62 :: zc63 :: zc64 :: zc65 :: zc66 :: zc67 :: zc68 :: zc69 :: zc70 :: zc71 :: zc72 :: zc73 :: .string (M.str w0) :: zv75 :: zv76 :: zv77 :: zv78 :: zv79 :: zv80 :: zv81 :: zv82 :: zv83 :: zv84 :: zv85 :: zv86 :: zv87 :: zv88 :: zv89 :: zv90 :: zv91 :: zv92 :: zv93 :: zv94 :: zv95 :: zv96 :: zv97 :: zv98 :: zv99 :: zv100 :: zv101 :: zv102 :: zv103 :: zv104 :: zv105 :: zv106 :: zv107 :: zv108 :: zv109 :: zv110 :: zv111 :: zv112 :: zv113 :: zv114 :: zv115 :: zv116 :: zv117 :: zv118 :: zv119 :: zv120 :: zv121 :: zv122 :: zv123 :: zv124 :: zv125 :: zv126 :: zv127 :: zv128 :: zv129 :: zv130 :: zv131 :: zv132 :: zv133 :: zv134 :: zv135 :: zv136 :: zv137 :: zv138 :: zv139 :: zv140 :: zv141 :: zv142 :: zv143 :: zv144 :: zv145 :: zv146 :: zv147 :: zv148 :: zv149 :: zv150 :: zv151 :: zv152 :: zv153 :: zv154 :: zv155 :: zv156 :: zv157 :: zv158 :: zv159 :: zv160 :: zv161 :: zv162 :: zv163 :: zv164 :: zv165 :: zv166 :: zv167 :: zv168 :: zv169 :: zv170 :: zv171 :: zv172 :: zv173 :: zv174 :: zv175 :: zv176 :: zv177 :: zv178 :: zv179 :: zv180 :: zv181 :: zv182 :: zv183 :: zv184 :: zv185 :: zv186 :: zv187 :: zv188 :: zv189 :: zv190 :: zv191 :: zv192 :: zv193 :: zv194 :: zv195 :: zv196 :: zv197 :: zv198 :: zv199 :: zv200 :: zv201 :: zv202 :: zv203 :: zv204 :: zv205 :: zv206 :: zv207 :: zv208 :: zv209 :: zv210 :: zv211 :: zv212 :: zv213 :: zv214 :: zv215 :: zv216 :: zv217 :: zv218 :: zv219 :: zv220 :: zv221 :: zv222 :: zv223 :: zv224 :: zv225 :: zv226 :: zv227 :: zv228 :: zv229 :: zv230 :: zv231 :: zv232 :: zv233 :: zv234 :: zv235 :: zv236 :: zv237 :: zv238 :: zv239 :: zv240 :: zv241 :: zv242 :: zv243 :: zv244 :: zv245 :: zv246 :: zv247 :: zv248 :: zv249 :: zv250 :: zv251 :: zv252 :: zv253 :: zv254 :: zv255 :: zv256 :: zv257 :: zv258 :: zv259 :: zv260 :: zv261 :: zv262 :: zv263 :: zv264 :: zv265 :: zv266 :: zv267 :: zv268 :: zv269 :: zv270 :: zv271 :: zv272 :: zv273 :: zv274 :: zv275 :: zv276 :: zv277 :: zv278 :: zv279 :: zv280 :: zv281 :: zv282 :: zv283 :: zv284 :: zv285 :: zv286 :: zv287 :: zv288 :: zv289 :: zv290 :: zv291 :: zv292 :: zv293 :: zv294 :: zv295 :: zv296 :: zv297 :: zv298 :: zv299 :: zv300 :: zv301 :: zv302 :: zv303 :: zv304 :: zv305 :: zv306 :: zv307 :: zv308 :: zv309 :: zv310 :: zv311 :: zv312 :: zv313 :: zv314 :: zv315 :: zv316 :: zv317 :: zv318 :: zv319 :: zv320 :: zv321 :: zv322 :: zv323 :: zv324 :: zv325 :: zv326 :: zv327 :: zv328 :: zv329 :: zv330 :: zv331 :: zv332 :: zv333 :: zv334 :: zv335 :: zv336 :: zv337 :: zv338 :: zv339 :: zv340 :: zv341 :: zv342 :: zv343 :: zc344 :: zc345 :: zc346 :: zc347 :: zc348 :: zc349 :: zc350 :: zc351 :: []), []⟩ w'') :
    Code.wp Tryz.prog (((Tryz.f10.body.map blksOfL).getD [])[2]?.getD .skip : Code) Q0 ⟨List.toArray (zc0 :: zc1 :: .pointer (some ⟨b2, 0, none⟩) :: zc3 :: zc4 :: .pointer (some ⟨b5, 0, none⟩) :: zc6 :: .pointer (some ⟨b7, 0, none⟩) :: zc8 :: .func (.func (34 : Nat)) #[] #[.pointer (some ⟨b7, 0, none⟩)] :: .slice (some ⟨gw, 0, none⟩) 5 5 :: zc11 :: zc12 :: zc13 :: zc14 :: zc15 :: zc16 :: zc17 :: zc18 :: zc19 :: zc20 :: zc21 :: zc22 :: zc23 :: zc24 :: zc25 :: zc26 :: zc27 :: zc28 :: zc29 :: zc30 :: zc31 :: zc32 :: zc33 :: zc34 :: zc35 :: zc36 :: zc37 :: zc38 :: zc39 :: zc40 :: zc41 :: zc42 :: zc43 :: zc44 :: zc45 :: zc46 :: zc47 :: zc48 :: zc49 :: zc50 :: zc51 :: zc52 :: zc53 :: zc54 :: zc55 :: zc56 :: zc57 :: zc58 :: zc59 :: zc60 :: zc61 :: zc62 :: zc63 :: zc64 :: zc65 :: zc66 :: zc67 :: zc68 :: zc69 :: zc70 :: zc71 :: zc72 :: zc73 :: .string (M.str w0) :: zc75 :: zc76 :: zc77 :: zc78 :: zc79 :: zc80 :: zc81 :: zc82 :: zc83 :: zc84 :: zc85 :: zc86 :: zc87 :: zc88 :: zc89 :: zc90 :: zc91 :: zc92 :: zc93 :: zc94 :: zc95 :: zc96 :: zc97 :: zc98 :: zc99 :: zc100 :: zc101 :: zc102 :: zc103 :: zc104 :: zc105 :: zc106 :: zc107 :: zc108 :: zc109 :: zc110 :: zc111 :: zc112 :: zc113 :: zc114 :: zc115 :: zc116 :: zc117 :: zc118 :: zc119 :: zc120 :: zc121 :: zc122 :: zc123 :: zc124 :: zc125 :: zc126 :: zc127 :: zc128 :: zc129 :: zc130 :: zc131 :: zc132 :: zc133 :: zc134 :: zc135 :: zc136 :: zc137 :: zc138 :: zc139 :: zc140 :: zc141 :: zc142 :: zc143 :: zc144 :: zc145 :: zc146 :: zc147 :: zc148 :: zc149 :: zc150 :: zc151 :: zc152 :: zc153 :: zc154 :: zc155 :: zc156 :: zc157 :: zc158 :: zc159 :: zc160 :: zc161 :: zc162 :: zc163 :: zc164 :: zc165 :: zc166 :: zc167 :: zc168 :: zc169 :: zc170 :: zc171 :: zc172 :: zc173 :: zc174 :: zc175 :: zc176 :: zc177 :: zc178 :: zc179 :: zc180 :: zc181 :: zc182 :: zc183 :: zc184 :: zc185 :: zc186 :: zc187 :: zc188 :: zc189 :: zc190 :: zc191 :: zc192 :: zc193 :: zc194 :: zc195 :: zc196 :: zc197 :: zc198 :: zc199 :: zc200 :: zc201 :: zc202 :: zc203 :: zc204 :: zc205 :: zc206 :: zc207 :: zc208 :: zc209 :: zc210 :: zc211 :: zc212 :: zc213 :: zc214 :: zc215 :: zc216 :: zc217 :: zc218 :: zc219 :: zc220 :: zc221 :: zc222 :: zc223 :: zc224 :: zc225 :: zc226 :: zc227 :: zc228 :: zc229 :: zc230 :: zc231 :: zc232 :: zc233 :: zc234 :: zc235 :: zc236 :: zc237 :: zc238 :: zc239 :: zc240 :: zc241 :: zc242 :: zc243 :: zc244 :: zc245 :: zc246 :: zc247 :: zc248 :: zc249 :: zc250 :: zc251 :: zc252 :: zc253 :: zc254 :: zc255 :: zc256 :: zc257 :: zc258 :: zc259 :: zc260 :: zc261 :: zc262 :: zc263 :: zc264 :: zc265 :: zc266 :: zc267 :: zc268 :: zc269 :: zc270 :: zc271 :: zc272 :: zc273 :: zc274 :: zc275 :: zc276 :: zc277 :: zc278 :: zc279 :: zc280 :: zc281 :: zc282 :: zc283 :: zc284 :: zc285 :: zc286 :: zc287 :: zc288 :: zc289 :: zc290 :: zc291 :: zc292 :: zc293 :: zc294 :: zc295 :: zc296 :: zc297 :: zc298 :: zc299 :: zc300 :: zc301 :: zc302 :: zc303 :: zc304 :: zc305 :: zc306 :: zc307 :: zc308 :: zc309 :: zc310 :: zc311 :: zc312 :: zc313 :: zc314 :: zc315 :: zc316 :: zc317 :: zc318 :: zc319 :: zc320 :: zc321 :: zc322 :: zc323 :: zc324 :: zc325 :: zc326 :: zc327 :: zc328 :: zc329 :: zc330 :: zc331 :: zc332 :: zc333 :: zc334 :: zc335 :: zc336 :: zc337 :: zc338 :: zc339 :: zc340 :: zc341 :: zc342 :: zc343 :: zc344 :: zc345 :: zc346 :: zc347 :: zc348 :: zc349 :: zc350 :: zc351 :: []), []⟩ W0 := by
  have KB : Hid (∀ W, Below W0.heap.size W0 W → Calls Tryz.prog 34 #[.pointer (some ⟨b7, 0, none⟩)] W fun e V => e = .returned (.tuple #[.agg #[.slice none 0 0, .slice none 0 0], .int .i64 i, .int .i64 1]) ∧ V.cell? ⟨b2, 0, none⟩ = some (.slice none 0 0) ∧ V.cell? ⟨b2, 1, none⟩ = some (.slice none 0 0) ∧ (∀ j, V.frozen? ⟨b2, j, none⟩ = false) ∧ b2 < V.heap.size ∧ Hid (BadS w b2 V) ∧ Hid (BadS w b2 ((V.setCell ⟨b2, 0, none⟩ (.slice none 0 0)).setCell ⟨b2, 1, none⟩ (.slice none 0 0)))) := rd_bad HL.out hb2
  have HN : Hid (O = none) := by
    rw [Hid, HO.out, M.addWords, if_neg (show w0 ≠ M.wFrag from word_ne c1), if_neg (show w0 ≠ M.wAt from word_ne c2), if_neg (show w0 ≠ M.wDef from word_ne c3)]
  clear HO HL
  conv => arg 2; whnf
  go_wp2_with (go_at_call 34; refine (KB.out _ (Below.refl _ _)).mono ?_; rintro e VB ⟨rfl, kb0, kb1, kbz, kbl, HB1, HB2⟩)
  exact hret _ _ _ _ _ _ _ _ _ _ _ _ _ _ _ _ _ _ _ _ _ _ _ _ _ _ _ _ _ _ _ _ _ _ _ _ _ _ _ _ _ _ _ _ _ _ _ _ _ _ _ _ _ _ _ _ _ _ _ _ _ _ _ _ _ _ _ _ _ _ _ _ _ _ _ _ _ _ _ _ _ _ _ _ _ _ _ _ _ _ _ _ _ _ _ _ _ _ _ _ _ _ _ _ _ _ _ _ _ _ _ _ _ _ _ _ _ _ _ _ _ _ _ _ _ _ _ _ _ _ _ _ _ _ _ _ _ _ _ _ _ _ _ _ _ _ _ _ _ _ _ _ _ _ _ _ _ _ _ _ _ _ _ _ _ _ _ _ _ _ _ _ _ _ _ _ _ _ _ _ _ _ _ _ _ _ _ _ _ _ _ _ _ _ _ _ _ _ _ _ _ _ _ _ _ _ _ _ _ _ _ _ _ _ _ _ _ _ _ _ _ _ _ _ _ _ _ _ _ _ _ _ _ _ _ _ _ _ _ _ _ _ _ _ _ _ _ _ _ _ _ _ _ _ _ _ _ _ _ _ _ _ _ _ _ _ _ _ _ _ _ _ _ _ _ _ _ _ _ _ _ _ _ _ _ _ _ _ _ _ _ _ _ _ ⟨HN, by first | exact HB1.out | exact HB2.out⟩

end Go.Proofs.YthiknlnhdjoipaaGreatDoor
