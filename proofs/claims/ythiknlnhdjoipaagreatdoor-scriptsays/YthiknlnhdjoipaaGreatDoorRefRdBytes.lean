/-
  The reference's ReadPart: the loop over the digits of a fragment's bytes.
-/
import Derived.Test.YthiknlnhdjoipaaGreatDoorRfM
import Derived.Test.YthiknlnhdjoipaaGreatDoorRefTextH
import Derived.Test.YthiknlnhdjoipaaGreatDoorScR
import Derived.Deep.DeepCutAuto
namespace Go.Proofs.YthiknlnhdjoipaaGreatDoor
open Go Go.RowKit
set_option linter.unusedVariables false
attribute [local go_sem] lat_cell

/-- what the loop has in memory: the words of the line, the fragment that is made, its bytes -/
structure ByS (w : World) (B gw bf : Nat) (ws : Array Value) (k a : Int) (g : ByteArray) (vB : Value) (acc : List Int) (W : World) : Prop where
  bel : Below w.heap.size w W
  cw : W.heap[gw]? = some (.cells ws 9 (0, 0))
  cf : W.heap[bf]? = some (.cells #[.int .i64 k, .int .i64 a, .string g, vB, .int .i64 0, .slice none 0 0] 50 (0, 0))
  row : W.ownsRow B 5 1 vB acc.length (acc.map (Value.int .u8))
  low : B ≤ W.heap.size
theorem ByS.later {w W X : World} {B gw bf : Nat} {ws : Array Value} {k a : Int} {g : ByteArray} {vB : Value} {acc : List Int} (h : ByS w B gw bf ws k a g vB acc W) (hb : Below W.heap.size W X) : ByS w B gw bf ws k a g vB acc X :=
  ⟨h.bel.trans (hb.mono h.bel.size), (hb.block _ (Array.getElem?_eq_some_iff.1 h.cw).1).trans h.cw, (hb.block _ (Array.getElem?_eq_some_iff.1 h.cf).1).trans h.cf, h.row.kept (grown_of_below hb none) own_self, Nat.le_trans h.low hb.size⟩

theorem rd_kept {w w2 : World} {B k n g : Nat} {e t : TypeId} {v : Value} {xs : List Value} {cs : Array Value} (h : w.ownsRow B e k v n xs) (hg : w.grownBy w2 v.ownBlock) (hb : w.heap[g]? = some (.cells cs t (0, 0))) (hne : e ≠ t) : w2.heap[g]? = some (.cells cs t (0, 0)) := by
  refine (hg.block g (Array.getElem?_eq_some_iff.1 hb).1 ?_).trans hb
  intro e2
  rcases own_ne h hb hne with h1 | h1
  · rw [h1] at e2; cases e2
  · exact h1 e2.symm
/-- one byte more -/
theorem ByS.push {w W X : World} {B gw bf : Nat} {ws : Array Value} {k a : Int} {g : ByteArray} {vB v' : Value} {acc : List Int} {z : Int} (h : ByS w B gw bf ws k a g vB acc W) (hwB : w.heap.size ≤ B) (hbf : w.heap.size ≤ bf) (hne : gw ≠ bf) (hg : W.grownBy X vB.ownBlock) (hr : X.ownsRow B 5 1 v' (acc.length + 1) (acc.map (Value.int .u8) ++ [.int .u8 z])) :
    ByS w B gw bf ws k a g v' (acc ++ [z]) (X.setCell ⟨bf, 3, none⟩ v') := by
  have hf := rd_kept h.row hg h.cf (by decide)
  refine ⟨(h.bel.grown hg h.bel.size (fun j hj => Nat.le_trans hwB (h.row.lt j hj).1)).setCell hbf _, (Below.heap_setCell _ _ _ _ hne).trans (rd_kept h.row hg h.cw (by decide)), setB' hf v', ?_, by simpa using Nat.le_trans h.low hg.size⟩
  have hr2 : X.ownsRow B 5 1 v' (acc ++ [z]).length ((acc ++ [z]).map (Value.int .u8)) := by rw [List.length_append, List.map_append]; exact hr
  exact hr2.kept (grown_set X bf 3 v') (own_ne hr2 hf (by decide))

set_option maxHeartbeats 8000000 in
set_option maxRecDepth 1000000 in
theorem rd_bytes {zc0 zc1 zc2 zc3 zc4 zc5 zc6 zc7 zc8 zc9 zc11 zc12 zc13 zc15 zc16 zc18 zc19 zc20 zc21 zc22 zc23 zc24 zc25 zc26 zc27 zc28 zc29 zc30 zc31 zc32 zc33 zc34 zc35 zc36 zc37 zc38 zc39 zc40 zc41 zc42 zc43 zc44 zc45 zc46 zc47 zc48 zc49 zc50 zc51 zc52 zc53 zc54 zc55 zc56 zc57 zc58 zc59 zc60 zc61 zc62 zc63 zc64 zc65 zc66 zc67 zc68 zc69 zc70 zc71 zc72 zc73 zc74 zc75 zc76 zc77 zc78 zc79 zc80 zc81 zc82 zc83 zc84 zc85 zc86 zc87 zc88 zc89 zc90 zc91 zc92 zc93 zc94 zc95 zc96 zc97 zc98 zc99 zc100 zc101 zc102 zc103 zc104 zc105 zc106 zc107 zc108 zc109 zc110 zc111 zc112 zc113 zc114 zc115 zc116 zc117 zc118 zc119 zc120 zc121 zc122 zc123 zc124 zc125 zc126 zc127 zc128 zc129 zc130 zc131 zc132 zc133 zc134 zc135 zc136 zc137 zc138 zc139 zc140 zc141 zc142 zc143 zc144 zc145 zc146 zc147 zc148 zc149 zc150 zc151 zc152 zc153 zc154 zc155 zc156 zc157 zc158 zc159 zc160 zc161 zc162 zc163 zc164 zc165 zc166 zc167 zc168 zc169 zc170 zc171 zc172 zc173 zc174 zc175 zc176 zc177 zc178 zc179 zc180 zc181 zc182 zc183 zc184 zc185 zc186 zc187 zc188 zc189 zc190 zc191 zc192 zc193 zc194 zc195 zc196 zc197 zc198 zc199 zc200 zc201 zc202 zc203 zc204 zc205 zc206 zc207 zc208 zc209 zc210 zc211 zc212 zc213 zc214 zc215 zc216 zc217 zc218 zc219 zc220 zc221 zc222 zc223 zc224 zc225 zc226 zc227 zc228 zc229 zc230 zc231 zc232 zc233 zc234 zc235 zc236 zc237 zc238 zc239 zc240 zc241 zc242 zc243 zc244 zc245 zc246 zc247 zc248 zc249 zc250 zc251 zc252 zc253 zc254 zc255 zc256 zc257 zc258 zc259 zc260 zc261 zc262 zc263 zc264 zc265 zc266 zc267 zc268 zc269 zc270 zc271 zc272 zc273 zc274 zc275 zc276 zc277 zc278 zc279 zc280 zc281 zc282 zc283 zc284 zc285 zc286 zc287 zc288 zc289 zc290 zc291 zc292 zc293 zc294 zc295 zc296 zc297 zc298 zc299 zc300 zc301 zc302 zc303 zc304 zc305 zc306 zc307 zc308 zc309 zc310 zc311 zc312 zc313 zc314 zc315 zc316 zc317 zc318 zc319 zc320 zc321 zc322 zc323 zc324 zc325 zc326 zc327 zc328 zc329 zc330 zc331 zc332 zc333 zc334 zc335 zc336 zc337 zc338 zc339 zc340 zc341 zc342 zc343 zc344 zc345 zc346 zc347 zc348 zc349 zc350 zc351 : Value} (w W0 : World) (B gw bf : Nat) (ws : Array Value) (k a : Int) (g : ByteArray) (t : M.Txt) (hw4 : ws[4]? = some (.string (M.str t))) (hlen : t.length ≤ 100000) (hev : t.length % 2 = 0) (hall : (t.all fun c => M.digits.contains c) = true) (hwB : w.heap.size ≤ B) (hbf : w.heap.size ≤ bf) (HS : Hid (ByS w B gw bf ws k a g (.slice none 0 0) [] W0)) (hne : gw ≠ bf) {Q0 : Exit → Act → World → Prop}
    (hexit : ∀ (zv17 zv18 zv19 zv161 zv162 zv163 zv164 zv165 zv166 zv167 zv168 zv169 zv170 zv171 zv172 zv173 zv174 zv175 zv176 zv177 zv178 zv179 zv180 zv181 zv182 zv183 zv184 zv185 zv186 : Value) (w'' : World), (∃ vB bs, M.pairs t = some bs ∧ ByS w B gw bf ws k a g vB bs w'') → Q0 (.exit 3) ⟨List.toArray (zc0 :: zc1 :: zc2 :: zc3 :: zc4 :: zc5 :: zc6 :: zc7 :: zc8 :: zc9 :: .slice (some ⟨gw, 0, none⟩) 5 5 :: zc11 :: zc12 :: zc13 :: .pointer (some ⟨bf, 0, none⟩) :: zc15 :: zc16 :: zv17 :: zv18 :: zv19 :: zc20 :: zc21 :: zc22 :: zc23 :: zc24 :: zc25 :: zc26 :: zc27 :: zc28 :: zc29 :: zc30 :: zc31 :: zc32 :: zc33 :: zc34 :: zc35 :: zc36 :: zc37 :: zc38 :: zc39 :: zc40 :: zc41 :: zc42 :: zc43 :: zc44 :: zc45 :: zc46 :: zc47 :: zc48 :: zc49 :: zc50 :: zc51 :: zc52 :: zc53 :: zc54 :: zc55 :: zc56 :: zc57 :: zc58 :: zc59 :: zc60 :: zc61 :: zc62 :: zc63 :: zc64 :: zc65 :: zc66 :: zc67 :: zc68 :: zc69 :: zc70 :: zc71 :: zc72 :: zc73 :: zc74 :: zc75 :: zc76 :: zc77 :: zc78 :: zc79 :: zc80 :: zc81 :: zc82 :: zc83 :: zc84 :: zc85 :: zc86 :: zc87 :: zc88 :: zc89 :: zc90 :: zc91 :: zc92 :: zc93 :: zc94 :: zc95 :: zc96 :: zc97 :: zc98 :: zc99 :: zc100 :: zc101 :: zc102 :: zc103 :: zc104 :: zc105 :: zc106 :: zc107 :: zc108 :: zc109 :: zc110 :: zc111 :: zc112 :: zc113 :: zc114 :: zc115 :: zc116 :: zc117 :: zc118 :: zc119 :: zc120 :: zc121 :: zc122 :: zc123 :: zc124 :: zc125 :: zc126 :: zc127 :: zc128 :: zc129 :: zc130 :: zc131 :: zc132 :: zc133 :: zc134 :: zc135 :: zc136 :: zc137 :: zc138 :: zc139 :: zc140 :: zc141 :: zc142 :: zc143 :: zc144 :: zc145 :: zc146 :: zc147 :: zc148 :: zc149 :: zc150 :: zc151 :: zc152 :: zc153 :: zc154 :: zc155 :: zc156 :: zc157 :: zc158 :: zc159 :: zc160 :: zv161 :: zv162 :: zv163 :: zv164 :: zv165 :: zv166 :: zv167 :: zv168 :: zv169 :: zv170 :: zv171 :: zv172 :: zv173 :: zv174 :: zv175 :: zv176 :: zv177 :: zv178 :: zv179 :: zv180 :: zv181 :: zv182 :: zv183 :: zv184 :: zv185 :: zv186 :: zc187 :: zc188 :: zc189 :: zc190 :: zc191 :: zc192 :: zc193 :: zc194 :: zc195 :: zc196 :: zc197 :: zc198 :: zc199 :: zc200 :: zc201 :: zc202 :: zc203 :: zc204 :: zc205 :: zc206 :: zc207 :: zc208 :: zc209 :: zc210 :: zc211 :: zc212 :: zc213 :: zc214 :: zc215 :: zc216 :: zc217 :: zc218 :: zc219 :: zc220 :: zc221 :: zc222 :: zc223 :: zc224 :: zc225 :: zc226 :: zc227 :: zc228 :: zc229 :: zc230 :: zc231 :: zc232 :: zc233 :: zc234 :: zc235 :: zc236 :: zc237 :: zc238 :: zc239 :: zc240 :: zc241 :: zc242 :: zc243 :: zc244 :: zc245 :: zc246 :: zc247 :: zc248 :: zc249 :: zc250 :: zc251 :: zc252 :: zc253 :: zc254 :: zc255 :: zc256 :: zc257 :: zc258 :: zc259 :: zc260 :: zc261 :: zc262 :: zc263 :: zc264 :: zc265 :: zc266 :: zc267 :: zc268 :: zc269 :: zc270 :: zc271 :: zc272 :: zc273 :: zc274 :: zc275 :: zc276 :: zc277 :: zc278 :: zc279 :: zc280 :: zc281 :: zc282 :: zc283 :: zc284 :: zc285 :: zc286 :: zc287 :: zc288 :: zc289 :: zc290 :: zc291 :: zc292 :: zc293 :: zc294 :: zc295 :: zc296 :: zc297 :: zc298 :: zc299 :: zc300 :: zc301 :: zc302 :: zc303 :: zc304 :: zc305 :: zc306 :: zc307 :: zc308 :: zc309 :: zc310 :: zc311 :: zc312 :: zc313 :: zc314 :: zc315 :: zc316 :: zc317 :: zc318 :: zc319 :: zc320 :: zc321 :: zc322 :: zc323 :: zc324 :: zc325 :: zc326 :: zc327 :: zc328 :: zc329 :: zc330 :: zc331 :: zc332 :: zc333 :: zc334 :: zc335 :: zc336 :: zc337 :: zc338 :: zc339 :: zc340 :: zc341 :: zc342 :: zc343 :: zc344 :: zc345 :: zc346 :: zc347 :: zc348 :: zc349 :: zc350 :: zc351 :: []), []⟩ w'') :
    Code.wp Tryz.prog (Code.loop (((Tryz.f10.body.map loopsOfT).getD [])[1]?.getD .skip : Code)) Q0 ⟨List.toArray (zc0 :: zc1 :: zc2 :: zc3 :: zc4 :: zc5 :: zc6 :: zc7 :: zc8 :: zc9 :: .slice (some ⟨gw, 0, none⟩) 5 5 :: zc11 :: zc12 :: zc13 :: .pointer (some ⟨bf, 0, none⟩) :: zc15 :: zc16 :: .int .i64 0 :: zc18 :: zc19 :: zc20 :: zc21 :: zc22 :: zc23 :: zc24 :: zc25 :: zc26 :: zc27 :: zc28 :: zc29 :: zc30 :: zc31 :: zc32 :: zc33 :: zc34 :: zc35 :: zc36 :: zc37 :: zc38 :: zc39 :: zc40 :: zc41 :: zc42 :: zc43 :: zc44 :: zc45 :: zc46 :: zc47 :: zc48 :: zc49 :: zc50 :: zc51 :: zc52 :: zc53 :: zc54 :: zc55 :: zc56 :: zc57 :: zc58 :: zc59 :: zc60 :: zc61 :: zc62 :: zc63 :: zc64 :: zc65 :: zc66 :: zc67 :: zc68 :: zc69 :: zc70 :: zc71 :: zc72 :: zc73 :: zc74 :: zc75 :: zc76 :: zc77 :: zc78 :: zc79 :: zc80 :: zc81 :: zc82 :: zc83 :: zc84 :: zc85 :: zc86 :: zc87 :: zc88 :: zc89 :: zc90 :: zc91 :: zc92 :: zc93 :: zc94 :: zc95 :: zc96 :: zc97 :: zc98 :: zc99 :: zc100 :: zc101 :: zc102 :: zc103 :: zc104 :: zc105 :: zc106 :: zc107 :: zc108 :: zc109 :: zc110 :: zc111 :: zc112 :: zc113 :: zc114 :: zc115 :: zc116 :: zc117 :: zc118 :: zc119 :: zc120 :: zc121 :: zc122 :: zc123 :: zc124 :: zc125 :: zc126 :: zc127 :: zc128 :: zc129 :: zc130 :: zc131 :: zc132 :: zc133 :: zc134 :: zc135 :: zc136 :: zc137 :: zc138 :: zc139 :: zc140 :: zc141 :: zc142 :: zc143 :: zc144 :: zc145 :: zc146 :: zc147 :: zc148 :: zc149 :: zc150 :: zc151 :: zc152 :: zc153 :: zc154 :: zc155 :: zc156 :: zc157 :: zc158 :: zc159 :: zc160 :: zc161 :: zc162 :: zc163 :: zc164 :: zc165 :: zc166 :: zc167 :: zc168 :: zc169 :: zc170 :: zc171 :: zc172 :: zc173 :: zc174 :: zc175 :: zc176 :: zc177 :: zc178 :: zc179 :: zc180 :: zc181 :: zc182 :: zc183 :: zc184 :: zc185 :: zc186 :: zc187 :: zc188 :: zc189 :: zc190 :: zc191 :: zc192 :: zc193 :: zc194 :: zc195 :: zc196 :: zc197 :: zc198 :: zc199 :: zc200 :: zc201 :: zc202 :: zc203 :: zc204 :: zc205 :: zc206 :: zc207 :: zc208 :: zc209 :: zc210 :: zc211 :: zc212 :: zc213 :: zc214 :: zc215 :: zc216 :: zc217 :: zc218 :: zc219 :: zc220 :: zc221 :: zc222 :: zc223 :: zc224 :: zc225 :: zc226 :: zc227 :: zc228 :: zc229 :: zc230 :: zc231 :: zc232 :: zc233 :: zc234 :: zc235 :: zc236 :: zc237 :: zc238 :: zc239 :: zc240 :: zc241 :: zc242 :: zc243 :: zc244 :: zc245 :: zc246 :: zc247 :: zc248 :: zc249 :: zc250 :: zc251 :: zc252 :: zc253 :: zc254 :: zc255 :: zc256 :: zc257 :: zc258 :: zc259 :: zc260 :: zc261 :: zc262 :: zc263 :: zc264 :: zc265 :: zc266 :: zc267 :: zc268 :: zc269 :: zc270 :: zc271 :: zc272 :: zc273 :: zc274 :: zc275 :: zc276 :: zc277 :: zc278 :: zc279 :: zc280 :: zc281 :: zc282 :: zc283 :: zc284 :: zc285 :: zc286 :: zc287 :: zc288 :: zc289 :: zc290 :: zc291 :: zc292 :: zc293 :: zc294 :: zc295 :: zc296 :: zc297 :: zc298 :: zc299 :: zc300 :: zc301 :: zc302 :: zc303 :: zc304 :: zc305 :: zc306 :: zc307 :: zc308 :: zc309 :: zc310 :: zc311 :: zc312 :: zc313 :: zc314 :: zc315 :: zc316 :: zc317 :: zc318 :: zc319 :: zc320 :: zc321 :: zc322 :: zc323 :: zc324 :: zc325 :: zc326 :: zc327 :: zc328 :: zc329 :: zc330 :: zc331 :: zc332 :: zc333 :: zc334 :: zc335 :: zc336 :: zc337 :: zc338 :: zc339 :: zc340 :: zc341 :: zc342 :: zc343 :: zc344 :: zc345 :: zc346 :: zc347 :: zc348 :: zc349 :: zc350 :: zc351 :: []), []⟩ W0 := by
  obtain ⟨i0, hi, hz0, hz1, hz2⟩ := info_parts (Tryz.extra156.infoByte)
  have hz0 : i0.zero = some (.int .u8 0) := hz0
  have hi : Tryz.prog.info? 5 = some i0 := hi
  have hsz : (M.str t).size = t.length := str_size t
  conv => arg 2; arg 1; whnf
  go_loopw [17] (fun s17 wr => ∃ (acc : List Int) (r : M.Txt) (n : Nat) (vB : Value), Hid (n = 2 * acc.length) ∧ s17 = .int .i64 n ∧ n + r.length = t.length ∧ t.drop n = r ∧ Hid (ByS w B gw bf ws k a g vB acc wr) ∧ Hid (M.pairs t = (M.pairs r).map (acc ++ ·))) (fun s17 _ => t.length - (intOf s17).toNat)
  case atStart => exact ⟨[], t, 0, _, rfl, rfl, by omega, rfl, HS, (show M.pairs t = (M.pairs t).map ([] ++ ·) by simp)⟩
  case round =>
    obtain ⟨acc, r, n, vB, HN, rfl, hln, hdr, HSr, HP⟩ := hrel
    clear HS
    have c4 : wr.cell? ⟨gw, 4, none⟩ = some (.string (M.str t)) := (cellB HSr.out.cw 4).trans hw4
    have lw : gw < wr.heap.size := (Array.getElem?_eq_some_iff.1 HSr.out.cw).1
    match r, hln, hdr, HP with
    | [], hln, hdr, HP =>
      have hnt : n = t.length := by simpa using hln
      have HP1 : Hid (∃ vB bs, M.pairs t = some bs ∧ ByS w B gw bf ws k a g vB bs wr) := ⟨vB, acc, by rw [HP.out]; simp [M.pairs], HSr.out⟩
      clear HP HSr
      subst hnt
      go_wp2_with fail
      exact HP1.out
    | [_], hln, _, _ => have := HN.out; simp at hln; omega
    | c1 :: c2 :: r', hln, hdr, HP =>
      have hnl : (n : Int) < (t.length : Int) := by simp at hln; omega
      have hn2 : t.drop (n + 2) = r' := by rw [← List.drop_drop, hdr]; rfl
      have hm1 : c1 ∈ t := List.mem_of_mem_drop (by rw [hdr]; simp)
      have hm2 : c2 ∈ t := List.mem_of_mem_drop (by rw [hdr]; simp)
      obtain ⟨x, hx⟩ := nib_some (List.all_eq_true.1 hall c1 hm1)
      obtain ⟨y, hy⟩ := nib_some (List.all_eq_true.1 hall c2 hm2)
      have HX : Hid (M.pairs t = (M.pairs r').map (acc ++ [((16 * x + y : Nat) : Int)] ++ ·)) := by
        rw [Hid, HP.out]
        simp only [M.pairs, hx, hy]
        cases M.pairs r' <;> simp
      obtain ⟨rfl, hx16⟩ := nib_of hx
      obtain ⟨rfl, hy16⟩ := nib_of hy
      have hsl : ∀ W, (Instr.slice 9 (.string (M.str t)) (some (.int .i64 n)) (some (.int .i64 ((n : Int) + 2))) none).run Tryz.prog W = .ok (.string ⟨#[M.digit x, M.digit y]⟩) W := fun W => by
        rw [run_slice_string_if W 9 (M.str t) .i64 .i64 n ((n : Int) + 2) Tryz.underlying9, if_pos ⟨by omega, by rw [hsz]; simp at hln; omega⟩, if_pos ⟨by omega, by omega⟩]
        have he : (M.str t).extract (n : Int).toNat ((n : Int) + 2).toNat = ⟨#[M.digit x, M.digit y]⟩ := by
          apply WideShapes.bytes_inj
          have h1 : ((n : Int) + 2).toNat = n + 2 := by omega
          rw [h1]
          simp [M.str, List.extract_eq_take_drop, hdr]
        rw [he]
      have KU : Hid (Calls Tryz.prog 39 #[.string ⟨#[M.digit x, M.digit y]⟩, .int .i64 16, .int .i64 8] wr fun e w' => e = .returned (.tuple #[.int .u64 ((16 * x + y : Nat) : Int), .nilIface]) ∧ Below wr.heap.size wr w') := hex2_any x y hx16 hy16 wr
      have HBf : Hid (w.heap.size ≤ bf) := hbf
      generalize (⟨#[M.digit x, M.digit y]⟩ : ByteArray) = S2 at *
      obtain ⟨z, hz⟩ : ∃ z : Nat, z = 16 * x + y := ⟨_, rfl⟩
      rw [← hz] at HX KU
      have hz256 : (z : Int) % 256 = (z : Int) := by omega
      have hacc : acc.length ≤ 100000 := by have := HN.out; omega
      clear hm1 hm2 hx hy hx16 hy16 hdr hz HP hall hbf
      go_upto_region 35 with (go_at_call 39; refine KU.out.mono ?_; rintro e V ⟨rfl, hbV⟩)
      have HV : Hid (ByS w B gw bf ws k a g vB acc V) := HSr.out.later hbV
      have f3 : V.cell? ⟨bf, 3, none⟩ = some vB := cellB HV.out.cf 3
      have lf : bf < V.heap.size := (Array.getElem?_eq_some_iff.1 HV.out.cf).1
      have hA := (Below.refl V.heap.size V).alloc (Nat.le_refl _) (.cells #[.int .u8 z] 5)
      have HVA : Hid (ByS w B gw bf ws k a g vB acc (V.alloc (.cells #[.int .u8 z] 5))) := HV.out.later hA
      have hrow := HVA.out.row
      have hbs : B ≤ (V.alloc (.cells #[.int .u8 z] 5)).heap.size := HVA.out.low
      clear hA HV HSr hbV KU c4 lw
      go_wp2_with (at_builtin; refine wpList_append_own _ rfl _ _ 37 rfl B 5 i0 (.int .u8 0) 1 1 Tryz.underlying37 hi hz0 hz1 hz2 rfl (by decide) _ _ _ rfl hrow ⟨V.heap.size, 0, none⟩ 1 1 [.int .u8 z] rfl rfl (cell_one_new _ _ _) (fun u hu => by simp at hu; subst hu; rfl) (by unfold maxLen; omega) (by omega) hbs ?_; intro v' w3 hown' hgrow3 hnil3; obtain ⟨x9, y9, rfl⟩ := own_len hown'; have HE : Hid _ := HVA.out.push hwB HBf.out hne hgrow3 hown'; have f3' : w3.cell? ⟨bf, 3, none⟩ = some vB := cellB (rd_kept hrow hgrow3 HVA.out.cf (by decide)) 3; have z3 : ∀ j, w3.frozen? ⟨bf, j, none⟩ = false := frozenB (rd_kept hrow hgrow3 HVA.out.cf (by decide)); have l3 : bf < w3.heap.size := (Array.getElem?_eq_some_iff.1 (rd_kept hrow hgrow3 HVA.out.cf (by decide))).1; clear hown' hgrow3 hnil3)
      go_roundw
      case rel =>
        refine ⟨acc ++ [(z : Int)], r', n + 2, _, ?_, by go_num, by simp at hln; omega, hn2, HE, HX⟩
        have := HN.out
        show n + 2 = _
        simp
        omega
      case measure => simp [intOf]; omega

end Go.Proofs.YthiknlnhdjoipaaGreatDoor
