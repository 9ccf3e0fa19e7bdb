/-
  The reference's ReadPart: a line of a place.
-/
import Derived.Test.YthiknlnhdjoipaaGreatDoorRfSt
import Derived.Test.YthiknlnhdjoipaaGreatDoorRfA
namespace Go.Proofs.YthiknlnhdjoipaaGreatDoor
open Go Go.RowKit
set_option linter.unusedVariables false
attribute [local go_sem] lat_cell

theorem str_tail (c : UInt8) (r : M.Txt) : (M.str (c :: r)).extract 1 (M.str (c :: r)).size = M.str r := by
  rw [str_size]
  apply WideShapes.bytes_inj
  simp [M.str, List.extract_eq_take_drop]

theorem rel4_no {w1 w2 w3 w4 : M.Txt} (h : M.num w1 = none ∨ M.find M.kindT w2 = none ∨ M.leads w3 = none ∨ M.num w4 = none) : M.rel4 w1 w2 w3 w4 = none := by
  unfold M.rel4
  rcases h with h | h | h | h <;> rw [h]
  · cases M.num w1 <;> rfl
  · cases M.num w1 <;> cases M.find M.kindT w2 <;> rfl
  · cases M.num w1 <;> cases M.find M.kindT w2 <;> cases M.leads w3 <;> rfl
theorem addPlace_no {p : M.Prt} {w1 w2 w3 w4 : M.Txt} (h : M.num w1 = none ∨ M.find M.kindT w2 = none ∨ M.leads w3 = none ∨ M.num w4 = none) : M.addPlace p w1 w2 w3 w4 = none := by
  rw [M.addPlace, rel4_no h]
  split <;> rfl

set_option maxHeartbeats 8000000 in
set_option maxRecDepth 1000000 in
theorem rd_at {zc0 zc1 zc3 zc4 zc6 zc8 zc11 zc12 zc13 zc14 zc15 zc16 zc17 zc18 zc19 zc20 zc21 zc22 zc23 zc24 zc25 zc26 zc27 zc28 zc29 zc30 zc31 zc32 zc33 zc34 zc35 zc36 zc37 zc38 zc39 zc40 zc41 zc42 zc43 zc44 zc45 zc46 zc47 zc48 zc49 zc50 zc51 zc52 zc53 zc54 zc55 zc56 zc57 zc58 zc59 zc60 zc61 zc62 zc63 zc64 zc65 zc66 zc67 zc68 zc69 zc70 zc71 zc72 zc73 zc75 zc76 zc77 zc78 zc79 zc80 zc81 zc82 zc83 zc84 zc85 zc86 zc87 zc88 zc89 zc90 zc91 zc92 zc93 zc94 zc95 zc96 zc97 zc98 zc99 zc100 zc101 zc102 zc103 zc104 zc105 zc106 zc107 zc108 zc109 zc110 zc111 zc112 zc113 zc114 zc115 zc116 zc117 zc118 zc119 zc120 zc121 zc122 zc123 zc124 zc125 zc126 zc127 zc128 zc129 zc130 zc131 zc132 zc133 zc134 zc135 zc136 zc137 zc138 zc139 zc140 zc141 zc142 zc143 zc144 zc145 zc146 zc147 zc148 zc149 zc150 zc151 zc152 zc153 zc154 zc155 zc156 zc157 zc158 zc159 zc160 zc161 zc162 zc163 zc164 zc165 zc166 zc167 zc168 zc169 zc170 zc171 zc172 zc173 zc174 zc175 zc176 zc177 zc178 zc179 zc180 zc181 zc182 zc183 zc184 zc185 zc186 zc187 zc188 zc189 zc190 zc191 zc192 zc193 zc194 zc195 zc196 zc197 zc198 zc199 zc200 zc201 zc202 zc203 zc204 zc205 zc206 zc207 zc208 zc209 zc210 zc211 zc212 zc213 zc214 zc215 zc216 zc217 zc218 zc219 zc220 zc221 zc222 zc223 zc224 zc225 zc226 zc227 zc228 zc229 zc230 zc231 zc232 zc233 zc234 zc235 zc236 zc237 zc238 zc239 zc240 zc241 zc242 zc243 zc244 zc245 zc246 zc247 zc248 zc249 zc250 zc251 zc252 zc253 zc254 zc255 zc256 zc257 zc258 zc259 zc260 zc261 zc262 zc263 zc264 zc265 zc266 zc267 zc268 zc269 zc270 zc271 zc272 zc273 zc274 zc275 zc276 zc277 zc278 zc279 zc280 zc281 zc282 zc283 zc284 zc285 zc286 zc287 zc288 zc289 zc290 zc291 zc292 zc293 zc294 zc295 zc296 zc297 zc298 zc299 zc300 zc301 zc302 zc303 zc304 zc305 zc306 zc307 zc308 zc309 zc310 zc311 zc312 zc313 zc314 zc315 zc316 zc317 zc318 zc319 zc320 zc321 zc322 zc323 zc324 zc325 zc326 zc327 zc328 zc329 zc330 zc331 zc332 zc333 zc334 zc335 zc336 zc337 zc338 zc339 zc340 zc341 zc342 zc343 zc344 zc345 zc346 zc347 zc348 zc349 zc350 zc351 : Value} (w W0 : World) (b2 b5 g6 i gw b7 : Nat) (ls ws : Array Value) (p : M.Prt) (w0 w1 w2 w3 w4 : M.Txt) (hG : Glob w) (hBk : Blanks w) (HL : Hid (LnS w b2 b5 g6 ls p i gw b7 ws W0)) (hw1 : ws[1]? = some (.string (M.str w1))) (hw2 : ws[2]? = some (.string (M.str w2))) (hw3 : ws[3]? = some (.string (M.str w3))) (hw4 : ws[4]? = some (.string (M.str w4))) (hne : b2 ≠ b5) (hb2 : w.heap.size ≤ b2) (HLe : Hid (w1.length ≤ 20000 ∧ w2.length ≤ 20000 ∧ w3.length ≤ 20000 ∧ w4.length ≤ 20000)) (HNe : Hid (w1 ≠ [] ∧ w2 ≠ [] ∧ w3 ≠ [] ∧ w4 ≠ [])) (hi : i ≤ 20001) (O : Option M.Prt) (HO : Hid (O = M.addWords p w0 w1 w2 w3 w4)) (c1 : ((M.str w0).toList == [102, 114, 97, 103]) = false) (c2 : ((M.str w0).toList == [97, 116]) = true) {Q0 : Exit → Act → World → Prop}
    (hret : ∀ (zv11 zv12 zv13 zv14 zv15 zv16 zv17 zv18 zv19 zv20 zv21 zv22 zv23 zv24 zv25 zv26 zv27 zv28 zv29 zv30 zv31 zv32 zv33 zv34 zv75 zv76 zv77 zv78 zv79 zv80 zv81 zv82 zv83 zv84 zv85 zv86 zv87 zv88 zv89 zv90 zv91 zv92 zv93 zv94 zv95 zv96 zv97 zv98 zv99 zv100 zv101 zv102 zv103 zv104 zv105 zv106 zv107 zv108 zv109 zv110 zv111 zv112 zv113 zv114 zv115 zv116 zv117 zv118 zv119 zv120 zv121 zv122 zv123 zv124 zv125 zv126 zv127 zv128 zv129 zv130 zv131 zv132 zv133 zv134 zv135 zv136 zv137 zv138 zv139 zv140 zv141 zv142 zv143 zv144 zv145 zv146 zv147 zv148 zv149 zv150 zv151 zv152 zv153 zv154 zv155 zv156 zv157 zv158 zv159 zv160 zv161 zv162 zv163 zv164 zv165 zv166 zv167 zv168 zv169 zv170 zv171 zv172 zv173 zv174 zv175 zv176 zv177 zv178 zv179 zv180 zv181 zv182 zv183 zv184 zv185 zv186 zv187 zv188 zv189 zv190 zv191 zv192 zv193 zv194 zv195 zv196 zv197 zv198 zv199 zv200 zv201 zv202 zv203 zv204 zv205 zv206 zv207 zv208 zv209 zv210 zv211 zv212 zv213 zv214 zv215 zv216 zv217 zv218 zv219 zv220 zv221 zv222 zv223 zv224 zv225 zv226 zv227 zv228 zv229 zv230 zv231 zv232 zv233 zv234 zv235 zv236 zv237 zv238 zv239 zv240 zv241 zv242 zv243 zv244 zv245 zv246 zv247 zv248 zv249 zv250 zv251 zv252 zv253 zv254 zv255 zv256 zv257 zv258 zv259 zv260 zv261 zv262 zv263 zv264 zv265 zv266 zv267 zv268 zv269 zv270 zv271 zv272 zv273 zv274 zv275 zv276 zv277 zv278 zv279 zv280 zv281 zv282 zv283 zv284 zv285 zv286 zv287 zv288 zv289 zv290 zv291 zv292 zv293 zv294 zv295 zv296 zv297 zv298 zv299 zv300 zv301 zv302 zv303 zv304 zv305 zv306 zv307 zv308 zv309 zv310 zv311 zv312 zv313 zv314 zv315 zv316 zv317 zv318 zv319 zv320 zv321 zv322 zv323 zv324 zv325 zv326 zv327 zv328 zv329 zv330 zv331 zv332 zv333 zv334 zv335 zv336 zv337 zv338 zv339 zv340 zv341 zv342 zv343 : Value) (w'' : World), Hid (O = none) ∧ BadS w b2 w'' → Q0 .ret ⟨List.toArray (zc0 :: zc1 :: .pointer (some ⟨b2, 0, none⟩) :: .int .i64 i :: .int .i64 1 :: .pointer (some ⟨b5, 0, none⟩) :: zc6 :: .pointer (some ⟨b7, 0, none⟩) :: zc8 :: .func (.func (34 : Nat)) #[] #[.pointer (some ⟨b7, 0, none⟩)] :: .slice (some ⟨gw, 0, none⟩) 5 5 :: zv11 :: zv12 :: zv13 :: zv14 :: zv15 :: zv16 :: zv17 :: zv18 :: zv19 :: zv20 :: zv21 :: zv22 :: zv23 :: zv24 :: zv25 :: zv26 :: zv27 :: zv28 :: zv29 :: zv30 :: zv31 :: zv32 :: zv33 :: zv34 :: zc35 :: zc36 :: zc37 :: zc38 :: zc39 :: zc40 :: zc41 :: zc42 :: zc43 :: zc44 :: zc45 :: zc46 :: zc47 :: zc48 :: zc49 :: zc50 :: zc51 :: zc52 :: zc53 :: zc54 :: zc55 :: zc56 :: zc57 :: zc58 :: zc59 :: zc60 :: zc61 :: zc62 :: zc63 :: zc64 :: zc65 :: zc66 :: zc67 :: zc68 :: zc69 :: zc70 :: zc71 :: zc72 :: zc73 :: .string (M.str w0) :: zv75 :: zv76 :: zv77 :: zv78 :: zv79 :: zv80 :: zv81 :: zv82 :: zv83 :: zv84 :: zv85 :: zv86 :: zv87 :: zv88 :: zv89 :: zv90 :: zv91 :: zv92 :: zv93 :: zv94 :: zv95 :: zv96 :: zv97 :: zv98 :: zv99 :: zv100 :: zv101 :: zv102 :: zv103 :: zv104 :: zv105 :: zv106 :: zv107 :: zv108 :: zv109 :: zv110 :: zv111 :: zv112 :: zv113 :: zv114 :: zv115 :: zv116 :: zv117 :: zv118 :: zv119 :: zv120 :: zv121 :: zv122 :: zv123 :: zv124 :: zv125 :: zv126 :: zv127 :: zv128 :: zv129 :: zv130 :: zv131 :: zv132 :: zv133 :: zv134 :: zv135 :: zv136 :: zv137 :: zv138 :: zv139 :: zv140 :: zv141 :: zv142 :: zv143 :: zv144 :: zv145 :: zv146 :: zv147 :: zv148 :: zv149 :: zv150 :: zv151 :: zv152 :: zv153 :: zv154 :: zv155 :: zv156 :: zv157 :: zv158 :: zv159 :: zv160 :: zv161 :: zv162 :: zv163 :: zv164 :: zv165 :: zv166 :: zv167 :: zv168 :: zv169 :: zv170 :: zv171 :: zv172 :: zv173 :: zv174 :: zv175 :: zv176 :: zv177 :: zv178 :: zv179 :: zv180 :: zv181 :: zv182 :: zv183 :: zv184 :: zv185 :: zv186 :: zv187 :: zv188 :: zv189 :: zv190 :: zv191 :: zv192 :: zv193 :: zv194 :: zv195 :: zv196 :: zv197 :: zv198 :: zv199 :: zv200 :: zv201 :: zv202 :: zv203 :: zv204 :: zv205 :: zv206 :: zv207 :: zv208 :: zv209 :: zv210 :: zv211 :: zv212 :: zv213 :: zv214 :: zv215 :: zv216 :: zv217 :: zv218 :: zv219 :: zv220 :: zv221 :: zv222 :: zv223 :: zv224 :: zv225 :: zv226 :: zv227 :: zv228 :: zv229 :: zv230 :: zv231 :: zv232 :: zv233 :: zv234 :: zv235 :: zv236 :: zv237 :: zv238 :: zv239 :: zv240 :: zv241 :: zv242 :: zv243 :: zv244 :: zv245 :: zv246 :: zv247 :: zv248 :: zv249 :: zv250 :: zv251 :: zv252 :: zv253 :: zv254 :: zv255 :: zv256 :: zv257 :: zv258 :: zv259 :: zv260 :: zv261 :: zv262 :: zv263 :: zv264 :: zv265 :: zv266 :: zv267 :: zv268 :: zv269 :: zv270 :: zv271 :: zv272 :: zv273 :: zv274 :: zv275 :: zv276 :: zv277 :: zv278 :: zv279 :: zv280 :: zv281 :: zv282 :: zv283 :: zv284 :: zv285 :: zv286 :: zv287 :: zv288 :: zv289 :: zv290 :: zv291 :: zv292 :: zv293 :: zv294 :: zv295 :: zv296 :: zv297 :: zv298 :: zv299 :: zv300 :: zv301 :: zv302 :: zv303 :: zv304 :: zv305 :: zv306 :: zv307 :: zv308 :: zv309 :: zv310 :: zv311 :: zv312 :: zv313 :: zv314 :: zv315 :: zv316 :: zv317 :: zv318 :: zv319 :: zv320 :: zv321 :: zv322 :: zv323 :: zv324 :: zv325 :: zv326 :: zv327 :: zv328 :: zv329 :: zv330 :: zv331 :: zv332 :: zv333 :: zv334 :: zv335 :: zv336 :: zv337 :: zv338 :: zv339 :: zv340 :: zv341 :: zv342 :: zv343 :: zc344 :: zc345 :: zc346 :: zc347 :: zc348 :: zc349 :: zc350 :: zc351 :: []), []⟩ w'')
    (hnext : ∀ (zv11 zv12 zv13 zv14 zv15 zv16 zv17 zv18 zv19 zv20 zv21 zv22 zv23 zv24 zv25 zv26 zv27 zv28 zv29 zv30 zv31 zv32 zv33 zv34 zv75 zv76 zv77 zv78 zv79 zv80 zv81 zv82 zv83 zv84 zv85 zv86 zv87 zv88 zv89 zv90 zv91 zv92 zv93 zv94 zv95 zv96 zv97 zv98 zv99 zv100 zv101 zv102 zv103 zv104 zv105 zv106 zv107 zv108 zv109 zv110 zv111 zv112 zv113 zv114 zv115 zv116 zv117 zv118 zv119 zv120 zv121 zv122 zv123 zv124 zv125 zv126 zv127 zv128 zv129 zv130 zv131 zv132 zv133 zv134 zv135 zv136 zv137 zv138 zv139 zv140 zv141 zv142 zv143 zv144 zv145 zv146 zv147 zv148 zv149 zv150 zv151 zv152 zv153 zv154 zv155 zv156 zv157 zv158 zv159 zv160 zv161 zv162 zv163 zv164 zv165 zv166 zv167 zv168 zv169 zv170 zv171 zv172 zv173 zv174 zv175 zv176 zv177 zv178 zv179 zv180 zv181 zv182 zv183 zv184 zv185 zv186 zv187 zv188 zv189 zv190 zv191 zv192 zv193 zv194 zv195 zv196 zv197 zv198 zv199 zv200 zv201 zv202 zv203 zv204 zv205 zv206 zv207 zv208 zv209 zv210 zv211 zv212 zv213 zv214 zv215 zv216 zv217 zv218 zv219 zv220 zv221 zv222 zv223 zv224 zv225 zv226 zv227 zv228 zv229 zv230 zv231 zv232 zv233 zv234 zv235 zv236 zv237 zv238 zv239 zv240 zv241 zv242 zv243 zv244 zv245 zv246 zv247 zv248 zv249 zv250 zv251 zv252 zv253 zv254 zv255 zv256 zv257 zv258 zv259 zv260 zv261 zv262 zv263 zv264 zv265 zv266 zv267 zv268 zv269 zv270 zv271 zv272 zv273 zv274 zv275 zv276 zv277 zv278 zv279 zv280 zv281 zv282 zv283 zv284 zv285 zv286 zv287 zv288 zv289 zv290 zv291 zv292 zv293 zv294 zv295 zv296 zv297 zv298 zv299 zv300 zv301 zv302 zv303 zv304 zv305 zv306 zv307 zv308 zv309 zv310 zv311 zv312 zv313 zv314 zv315 zv316 zv317 zv318 zv319 zv320 zv321 zv322 zv323 zv324 zv325 zv326 zv327 zv328 zv329 zv330 zv331 zv332 zv333 zv334 zv335 zv336 zv337 zv338 zv339 zv340 zv341 zv342 zv343 : Value) (w'' : World), (∃ q, Hid (O = some q) ∧ RdS w b2 b5 g6 ls q (i + 1) w'') → Q0 .normal ⟨List.toArray (zc0 :: zc1 :: .pointer (some ⟨b2, 0, none⟩) :: zc3 :: zc4 :: .pointer (some ⟨b5, 0, none⟩) :: zc6 :: .pointer (some ⟨b7, 0, none⟩) :: zc8 :: .func (.func (34 : Nat)) #[] #[.pointer (some ⟨b7, 0, none⟩)] :: .slice (some ⟨gw, 0, none⟩) 5 5 :: zv11 :: zv12 :: zv13 :: zv14 :: zv15 :: zv16 :: zv17 :: zv18 :: zv19 :: zv20 :: zv21 :: zv22 :: zv23 :: zv24 :: zv25 :: zv26 :: zv27 :: zv28 :: zv29 :: zv30 :: zv31 :: zv32 :: zv33 :: zv34 :: zc35 :: zc36 :: zc37 :: zc38 :: zc39 :: zc40 :: zc41 :: zc42 :: zc43 :: zc44 :: zc45 :: zc46 :: zc47 :: zc48 :: zc49 :: zc50 :: zc51 :: zc52 :: zc53 :: zc54 :: zc55 :: zc56 :: zc57 :: zc58 :: zc59 :: zc60 :: zc61 :: zc62 :: zc63 :: zc64 :: zc65 :: zc66 :: zc67 :: zc68 :: zc69 :: zc70 :: zc71 :: zc72 :: zc73 :: .string (M.str w0) :: zv75 :: zv76 :: zv77 :: zv78 :: zv79 :: zv80 :: zv81 :: zv82 :: zv83 :: zv84 :: zv85 :: zv86 :: zv87 :: zv88 :: zv89 :: zv90 :: zv91 :: zv92 :: zv93 :: zv94 :: zv95 :: zv96 :: zv97 :: zv98 :: zv99 :: zv100 :: zv101 :: zv102 :: zv103 :: zv104 :: zv105 :: zv106 :: zv107 :: zv108 :: zv109 :: zv110 :: zv111 :: zv112 :: zv113 :: zv114 :: zv115 :: zv116 :: zv117 :: zv118 :: zv119 :: zv120 :: zv121 :: zv122 :: zv123 :: zv124 :: zv125 :: zv126 :: zv127 :: zv128 :: zv129 :: zv130 :: zv131 :: zv132 :: zv133 :: zv134 :: zv135 :: zv136 :: zv137 :: zv138 :: zv139 :: zv140 :: zv141 :: zv142 :: zv143 :: zv144 :: zv145 :: zv146 :: zv147 :: zv148 :: zv149 :: zv150 :: zv151 :: zv152 :: zv153 :: zv154 :: zv155 :: zv156 :: zv157 :: zv158 :: zv159 :: zv160 :: zv161 :: zv162 :: zv163 :: zv164 :: zv165 :: zv166 :: zv167 :: zv168 :: zv169 :: zv170 :: zv171 :: zv172 :: zv173 :: zv174 :: zv175 :: zv176 :: zv177 :: zv178 :: zv179 :: zv180 :: zv181 :: zv182 :: zv183 :: zv184 :: zv185 :: zv186 :: zv187 :: zv188 :: zv189 :: zv190 :: zv191 :: zv192 :: zv193 :: zv194 :: zv195 :: zv196 :: zv197 :: zv198 :: zv199 :: zv200 :: zv201 :: zv202 :: zv203 :: zv204 :: zv205 :: zv206 :: zv207 :: zv208 :: zv209 :: zv210 :: zv211 :: zv212 :: zv213 :: zv214 :: zv215 :: zv216 :: zv217 :: zv218 :: zv219 :: zv220 :: zv221 :: zv222 :: zv223 :: zv224 :: zv225 :: zv226 :: zv227 :: zv228 :: zv229 :: zv230 :: zv231 :: zv232 :: zv233 :: zv234 :: zv235 :: zv236 :: zv237 :: zv238 :: zv239 :: zv240 :: zv241 :: zv242 :: zv243 :: zv244 :: zv245 :: zv246 :: zv247 :: zv248 :: zv249 :: zv250 :: zv251 :: zv252 :: zv253 :: zv254 :: zv255 :: zv256 :: zv257 :: zv258 :: zv259 :: zv260 :: zv261 :: zv262 :: zv263 :: zv264 :: zv265 :: zv266 :: zv267 :: zv268 :: zv269 :: zv270 :: zv271 :: zv272 :: zv273 :: zv274 :: zv275 :: zv276 :: zv277 :: zv278 :: zv279 :: zv280 :: zv281 :: zv282 :: zv283 :: zv284 :: zv285 :: zv286 :: zv287 :: zv288 :: zv289 :: zv290 :: zv291 :: zv292 :: zv293 :: zv294 :: zv295 :: zv296 :: zv297 :: zv298 :: zv299 :: zv300 :: zv301 :: zv302 :: zv303 :: zv304 :: zv305 :: zv306 :: zv307 :: zv308 :: zv309 :: zv310 :: zv311 :: zv312 :: zv313 :: zv314 :: zv315 :: zv316 :: zv317 :: zv318 :: zv319 :: zv320 :: zv321 :: zv322 :: zv323 :: zv324 :: zv325 :: zv326 :: zv327 :: zv328 :: zv329 :: zv330 :: zv331 :: zv332 :: zv333 :: zv334 :: zv335 :: zv336 :: zv337 :: zv338 :: zv339 :: zv340 :: zv341 :: zv342 :: zv343 :: zc344 :: zc345 :: zc346 :: zc347 :: zc348 :: zc349 :: zc350 :: zc351 :: []), []⟩ w'') :
    Code.wp Tryz.prog (((Tryz.f10.body.map blksOfL).getD [])[2]?.getD .skip : Code) Q0 ⟨List.toArray (zc0 :: zc1 :: .pointer (some ⟨b2, 0, none⟩) :: zc3 :: zc4 :: .pointer (some ⟨b5, 0, none⟩) :: zc6 :: .pointer (some ⟨b7, 0, none⟩) :: zc8 :: .func (.func (34 : Nat)) #[] #[.pointer (some ⟨b7, 0, none⟩)] :: .slice (some ⟨gw, 0, none⟩) 5 5 :: zc11 :: zc12 :: zc13 :: zc14 :: zc15 :: zc16 :: zc17 :: zc18 :: zc19 :: zc20 :: zc21 :: zc22 :: zc23 :: zc24 :: zc25 :: zc26 :: zc27 :: zc28 :: zc29 :: zc30 :: zc31 :: zc32 :: zc33 :: zc34 :: zc35 :: zc36 :: zc37 :: zc38 :: zc39 :: zc40 :: zc41 :: zc42 :: zc43 :: zc44 :: zc45 :: zc46 :: zc47 :: zc48 :: zc49 :: zc50 :: zc51 :: zc52 :: zc53 :: zc54 :: zc55 :: zc56 :: zc57 :: zc58 :: zc59 :: zc60 :: zc61 :: zc62 :: zc63 :: zc64 :: zc65 :: zc66 :: zc67 :: zc68 :: zc69 :: zc70 :: zc71 :: zc72 :: zc73 :: .string (M.str w0) :: zc75 :: zc76 :: zc77 :: zc78 :: zc79 :: zc80 :: zc81 :: zc82 :: zc83 :: zc84 :: zc85 :: zc86 :: zc87 :: zc88 :: zc89 :: zc90 :: zc91 :: zc92 :: zc93 :: zc94 :: zc95 :: zc96 :: zc97 :: zc98 :: zc99 :: zc100 :: zc101 :: zc102 :: zc103 :: zc104 :: zc105 :: zc106 :: zc107 :: zc108 :: zc109 :: zc110 :: zc111 :: zc112 :: zc113 :: zc114 :: zc115 :: zc116 :: zc117 :: zc118 :: zc119 :: zc120 :: zc121 :: zc122 :: zc123 :: zc124 :: zc125 :: zc126 :: zc127 :: zc128 :: zc129 :: zc130 :: zc131 :: zc132 :: zc133 :: zc134 :: zc135 :: zc136 :: zc137 :: zc138 :: zc139 :: zc140 :: zc141 :: zc142 :: zc143 :: zc144 :: zc145 :: zc146 :: zc147 :: zc148 :: zc149 :: zc150 :: zc151 :: zc152 :: zc153 :: zc154 :: zc155 :: zc156 :: zc157 :: zc158 :: zc159 :: zc160 :: zc161 :: zc162 :: zc163 :: zc164 :: zc165 :: zc166 :: zc167 :: zc168 :: zc169 :: zc170 :: zc171 :: zc172 :: zc173 :: zc174 :: zc175 :: zc176 :: zc177 :: zc178 :: zc179 :: zc180 :: zc181 :: zc182 :: zc183 :: zc184 :: zc185 :: zc186 :: zc187 :: zc188 :: zc189 :: zc190 :: zc191 :: zc192 :: zc193 :: zc194 :: zc195 :: zc196 :: zc197 :: zc198 :: zc199 :: zc200 :: zc201 :: zc202 :: zc203 :: zc204 :: zc205 :: zc206 :: zc207 :: zc208 :: zc209 :: zc210 :: zc211 :: zc212 :: zc213 :: zc214 :: zc215 :: zc216 :: zc217 :: zc218 :: zc219 :: zc220 :: zc221 :: zc222 :: zc223 :: zc224 :: zc225 :: zc226 :: zc227 :: zc228 :: zc229 :: zc230 :: zc231 :: zc232 :: zc233 :: zc234 :: zc235 :: zc236 :: zc237 :: zc238 :: zc239 :: zc240 :: zc241 :: zc242 :: zc243 :: zc244 :: zc245 :: zc246 :: zc247 :: zc248 :: zc249 :: zc250 :: zc251 :: zc252 :: zc253 :: zc254 :: zc255 :: zc256 :: zc257 :: zc258 :: zc259 :: zc260 :: zc261 :: zc262 :: zc263 :: zc264 :: zc265 :: zc266 :: zc267 :: zc268 :: zc269 :: zc270 :: zc271 :: zc272 :: zc273 :: zc274 :: zc275 :: zc276 :: zc277 :: zc278 :: zc279 :: zc280 :: zc281 :: zc282 :: zc283 :: zc284 :: zc285 :: zc286 :: zc287 :: zc288 :: zc289 :: zc290 :: zc291 :: zc292 :: zc293 :: zc294 :: zc295 :: zc296 :: zc297 :: zc298 :: zc299 :: zc300 :: zc301 :: zc302 :: zc303 :: zc304 :: zc305 :: zc306 :: zc307 :: zc308 :: zc309 :: zc310 :: zc311 :: zc312 :: zc313 :: zc314 :: zc315 :: zc316 :: zc317 :: zc318 :: zc319 :: zc320 :: zc321 :: zc322 :: zc323 :: zc324 :: zc325 :: zc326 :: zc327 :: zc328 :: zc329 :: zc330 :: zc331 :: zc332 :: zc333 :: zc334 :: zc335 :: zc336 :: zc337 :: zc338 :: zc339 :: zc340 :: zc341 :: zc342 :: zc343 :: zc344 :: zc345 :: zc346 :: zc347 :: zc348 :: zc349 :: zc350 :: zc351 :: []), []⟩ W0 := by
  have KB : Hid (∀ W, Below W0.heap.size W0 W → Calls Tryz.prog 34 #[.pointer (some ⟨b7, 0, none⟩)] W fun e V => e = .returned (.tuple #[.agg #[.slice none 0 0, .slice none 0 0], .int .i64 i, .int .i64 1]) ∧ V.cell? ⟨b2, 0, none⟩ = some (.slice none 0 0) ∧ V.cell? ⟨b2, 1, none⟩ = some (.slice none 0 0) ∧ (∀ j, V.frozen? ⟨b2, j, none⟩ = false) ∧ b2 < V.heap.size ∧ Hid (BadS w b2 V) ∧ Hid (BadS w b2 ((V.setCell ⟨b2, 0, none⟩ (.slice none 0 0)).setCell ⟨b2, 1, none⟩ (.slice none 0 0)))) := rd_bad HL.out hb2
  have HA : Hid (O = if p.defs = [] then M.addPlace p w1 w2 w3 w4 else none) := by
    rw [Hid, HO.out, M.addWords, if_neg (show w0 ≠ M.wFrag from word_ne c1), if_pos (show w0 = M.wAt from word_eq c2)]
  obtain ⟨fk, HF⟩ : ∃ fk : Nat, Hid ((M.find M.kindT w2).getD 0 = fk) := ⟨_, rfl⟩
  obtain ⟨bA, HBA⟩ : ∃ bA : Bool, Hid ((M.num w1).isSome = bA) := ⟨_, rfl⟩
  obtain ⟨bD, HBD⟩ : ∃ bD : Bool, Hid ((M.num w4).isSome = bD) := ⟨_, rfl⟩
  have K1 : Hid (∀ W, Below W0.heap.size W0 W → Calls Tryz.prog 37 #[.string (M.str w1)] W fun e w' => (∃ n : Int, e = .returned (.tuple #[.int .i64 n, .bool bA]) ∧ Hid (∀ v, M.num w1 = some v → n = v)) ∧ Below W.heap.size W w') := fun W hW => by
    have := whole_any (M.str w1) (by rw [str_size]; have := HLe.out; omega) W (hG.later (HL.out.rd.bel.trans (hW.mono HL.out.rd.bel.size)))
    rw [txt_str, HBA.out] at this
    exact this
  have K2 : Hid (∀ W, Below W0.heap.size W0 W → Calls Tryz.prog 36 #[.string ⟨#[45, 32, 97, 98, 115, 49, 32, 97, 98, 115, 50, 32, 114, 101, 108, 49, 32, 114, 101, 108, 50]⟩, .string (M.str w2)] W fun e w' => e = .returned (.int .i64 (fk : Int)) ∧ Below W.heap.size W w') := fun W hW => by
    have := wordK_any w2 HNe.out.2.1 W (hBk.later hG (HL.out.rd.bel.trans (hW.mono HL.out.rd.bel.size)))
    rwa [HF.out] at this
  have K3 : Hid (∀ W, Below W0.heap.size W0 W → Calls Tryz.prog 37 #[.string (M.str w4)] W fun e w' => (∃ n : Int, e = .returned (.tuple #[.int .i64 n, .bool bD]) ∧ Hid (∀ v, M.num w4 = some v → n = v)) ∧ Below W.heap.size W w') := fun W hW => by
    have := whole_any (M.str w4) (by rw [str_size]; have := HLe.out; omega) W (hG.later (HL.out.rd.bel.trans (hW.mono HL.out.rd.bel.size)))
    rw [txt_str, HBD.out] at this
    exact this
  clear HO
  have HX0 : Hid (Below W0.heap.size W0 W0) := Below.refl _ _
  have z01 : W0.cell? ⟨gw, 1, none⟩ = some (.string (M.str w1)) := (cellB (HL.out.later HX0.out).cw 1).trans hw1
  have lw0 : gw < W0.heap.size := (Array.getElem?_eq_some_iff.1 (HL.out.later HX0.out).cw).1
  conv => arg 2; whnf
  go_upto_region 39 with (go_at_call 37; refine (K1.out _ (Below.refl _ _)).mono ?_; rintro e V1 ⟨⟨n1, rfl, HV1⟩, hv1⟩)
  have HX1 : Hid (Below W0.heap.size W0 V1) := hv1
  have z12 : V1.cell? ⟨gw, 2, none⟩ = some (.string (M.str w2)) := (cellB (HL.out.later HX1.out).cw 2).trans hw2
  have lw1 : gw < V1.heap.size := (Array.getElem?_eq_some_iff.1 (HL.out.later HX1.out).cw).1
  clear z01 lw0 HX0 hv1
  go_upto_region 40 with (go_at_call 36; refine (K2.out _ HX1.out).mono ?_; rintro e V2 ⟨rfl, hv2⟩)
  have HX2 : Hid (Below W0.heap.size W0 V2) := HX1.out.trans (hv2.mono HX1.out.size)
  have z24 : V2.cell? ⟨gw, 4, none⟩ = some (.string (M.str w4)) := (cellB (HL.out.later HX2.out).cw 4).trans hw4
  have lw2 : gw < V2.heap.size := (Array.getElem?_eq_some_iff.1 (HL.out.later HX2.out).cw).1
  clear z12 lw1 hv2
  go_upto_region 41 with (go_at_call 37; refine (K3.out _ HX2.out).mono ?_; rintro e V3 ⟨⟨n4, rfl, HV4⟩, hv3⟩)
  have HX3 : Hid (Below W0.heap.size W0 V3) := HX2.out.trans (hv3.mono HX2.out.size)
  have z33 : V3.cell? ⟨gw, 3, none⟩ = some (.string (M.str w3)) := (cellB (HL.out.later HX3.out).cw 3).trans hw3
  have lw3 : gw < V3.heap.size := (Array.getElem?_eq_some_iff.1 (HL.out.later HX3.out).cw).1
  clear z24 lw2 hv3 K1 K2 K3 HX1 HX2
  obtain ⟨es, ds, vF, vD, hP, rfl⟩ := (HL.out.later HX3.out).rd.part
  obtain ⟨xD, yD, rfl⟩ := own_len hP.rowD
  obtain ⟨xF, yF, rfl⟩ := own_len hP.rowF
  have d0 : V3.cell? ⟨b5, 0, none⟩ = some (.slice xF es.length yF) := cellB hP.blk 0
  have d1 : V3.cell? ⟨b5, 1, none⟩ = some (.slice xD ds.length yD) := cellB hP.blk 1
  have lb : b5 < V3.heap.size := (Array.getElem?_eq_some_iff.1 hP.blk).1
  have HP0 : Hid (PM V3 w.heap.size b5 es ds (.slice xF es.length yF) (.slice xD ds.length yD)) := hP
  clear hP
  cases bA
  · have HN : Hid (O = none) := by
      rw [Hid, HA.out, addPlace_no (.inl (by simpa using HBA.out))]; simp
    clear HA HL
    go_wp2_with (go_at_call 34; refine (KB.out _ (HX3.out)).mono ?_; rintro e VB ⟨rfl, kb0, kb1, kbz, kbl, HB1, HB2⟩)
    exact hret _ _ _ _ _ _ _ _ _ _ _ _ _ _ _ _ _ _ _ _ _ _ _ _ _ _ _ _ _ _ _ _ _ _ _ _ _ _ _ _ _ _ _ _ _ _ _ _ _ _ _ _ _ _ _ _ _ _ _ _ _ _ _ _ _ _ _ _ _ _ _ _ _ _ _ _ _ _ _ _ _ _ _ _ _ _ _ _ _ _ _ _ _ _ _ _ _ _ _ _ _ _ _ _ _ _ _ _ _ _ _ _ _ _ _ _ _ _ _ _ _ _ _ _ _ _ _ _ _ _ _ _ _ _ _ _ _ _ _ _ _ _ _ _ _ _ _ _ _ _ _ _ _ _ _ _ _ _ _ _ _ _ _ _ _ _ _ _ _ _ _ _ _ _ _ _ _ _ _ _ _ _ _ _ _ _ _ _ _ _ _ _ _ _ _ _ _ _ _ _ _ _ _ _ _ _ _ _ _ _ _ _ _ _ _ _ _ _ _ _ _ _ _ _ _ _ _ _ _ _ _ _ _ _ _ _ _ _ _ _ _ _ _ _ _ _ _ _ _ _ _ _ _ _ _ _ _ _ _ _ _ _ _ _ _ _ _ _ _ _ _ _ _ _ _ _ _ _ _ _ _ _ _ _ _ _ _ _ _ _ _ _ _ _ ⟨HN, by first | exact HB1.out | exact HB2.out⟩
  · cases bD
    · have HN : Hid (O = none) := by
        rw [Hid, HA.out, addPlace_no (.inr (.inr (.inr (by simpa using HBD.out))))]; simp
      clear HA HL
      go_wp2_with (go_at_call 34; refine (KB.out _ (HX3.out)).mono ?_; rintro e VB ⟨rfl, kb0, kb1, kbz, kbl, HB1, HB2⟩)
      exact hret _ _ _ _ _ _ _ _ _ _ _ _ _ _ _ _ _ _ _ _ _ _ _ _ _ _ _ _ _ _ _ _ _ _ _ _ _ _ _ _ _ _ _ _ _ _ _ _ _ _ _ _ _ _ _ _ _ _ _ _ _ _ _ _ _ _ _ _ _ _ _ _ _ _ _ _ _ _ _ _ _ _ _ _ _ _ _ _ _ _ _ _ _ _ _ _ _ _ _ _ _ _ _ _ _ _ _ _ _ _ _ _ _ _ _ _ _ _ _ _ _ _ _ _ _ _ _ _ _ _ _ _ _ _ _ _ _ _ _ _ _ _ _ _ _ _ _ _ _ _ _ _ _ _ _ _ _ _ _ _ _ _ _ _ _ _ _ _ _ _ _ _ _ _ _ _ _ _ _ _ _ _ _ _ _ _ _ _ _ _ _ _ _ _ _ _ _ _ _ _ _ _ _ _ _ _ _ _ _ _ _ _ _ _ _ _ _ _ _ _ _ _ _ _ _ _ _ _ _ _ _ _ _ _ _ _ _ _ _ _ _ _ _ _ _ _ _ _ _ _ _ _ _ _ _ _ _ _ _ _ _ _ _ _ _ _ _ _ _ _ _ _ _ _ _ _ _ _ _ _ _ _ _ _ _ _ _ _ _ _ _ _ _ _ ⟨HN, by first | exact HB1.out | exact HB2.out⟩
    · cases hk0 : ((fk : Int) == 0)
      · rcases List.eq_nil_or_concat es with hes | ⟨init, l, hes⟩
        · have hel : ((es.length : Int) == 0) = true := by rw [hes]; rfl
          have HN : Hid (O = none) := by
            rw [Hid, HA.out, (show M.addPlace ⟨es.map (·.f), ds⟩ w1 w2 w3 w4 = none by rw [M.addPlace, if_pos (by rw [hes]; rfl)])]; simp
          clear HA HL hes HP0
          go_wp2_with (go_at_call 34; refine (KB.out _ (HX3.out)).mono ?_; rintro e VB ⟨rfl, kb0, kb1, kbz, kbl, HB1, HB2⟩)
          exact hret _ _ _ _ _ _ _ _ _ _ _ _ _ _ _ _ _ _ _ _ _ _ _ _ _ _ _ _ _ _ _ _ _ _ _ _ _ _ _ _ _ _ _ _ _ _ _ _ _ _ _ _ _ _ _ _ _ _ _ _ _ _ _ _ _ _ _ _ _ _ _ _ _ _ _ _ _ _ _ _ _ _ _ _ _ _ _ _ _ _ _ _ _ _ _ _ _ _ _ _ _ _ _ _ _ _ _ _ _ _ _ _ _ _ _ _ _ _ _ _ _ _ _ _ _ _ _ _ _ _ _ _ _ _ _ _ _ _ _ _ _ _ _ _ _ _ _ _ _ _ _ _ _ _ _ _ _ _ _ _ _ _ _ _ _ _ _ _ _ _ _ _ _ _ _ _ _ _ _ _ _ _ _ _ _ _ _ _ _ _ _ _ _ _ _ _ _ _ _ _ _ _ _ _ _ _ _ _ _ _ _ _ _ _ _ _ _ _ _ _ _ _ _ _ _ _ _ _ _ _ _ _ _ _ _ _ _ _ _ _ _ _ _ _ _ _ _ _ _ _ _ _ _ _ _ _ _ _ _ _ _ _ _ _ _ _ _ _ _ _ _ _ _ _ _ _ _ _ _ _ _ _ _ _ _ _ _ _ _ _ _ _ _ _ ⟨HN, by first | exact HB1.out | exact HB2.out⟩
        · rw [List.concat_eq_append] at hes
          subst hes
          have hln : (init ++ [l]).length = init.length + 1 := by simp
          obtain ⟨g, cap, hv⟩ := own_block HP0.out.rowF (by simp)
          obtain ⟨rfl, rfl⟩ : xF = some ⟨g, 0, none⟩ ∧ yF = cap := by cases hv; exact ⟨rfl, rfl⟩
          rw [hln] at d0 HP0
          clear hv hln
          have hel : (((init.length + 1 : Nat) : Int) == 0) = false := by rw [beq_eq_false_iff_ne]; omega
          have hel2 : (((init.length : Nat) : Int) + 1 == 0) = false := by rw [beq_eq_false_iff_ne]; omega
          obtain ⟨vD, hvD⟩ : ∃ vD, vD = Value.slice xD ds.length yD := ⟨_, rfl⟩
          have HP : Hid (PM V3 w.heap.size b5 (init ++ [l]) ds (.slice (some ⟨g, 0, none⟩) (init.length + 1) yF) vD) := by rw [hvD]; exact HP0.out
          clear HP0 hvD
          generalize yF = cap at *
          by_cases hds : ds = []
          · have hd0 : ¬ ((0 : Int) < (ds.length : Int)) := by rw [hds]; simp
            have hd1 : decide ((0 : Int) < (ds.length : Int)) = false := decide_eq_false hd0
            have HA2 : Hid (O = M.addPlace ⟨(init ++ [l]).map (·.f), ds⟩ w1 w2 w3 w4) := by rw [Hid, HA.out, if_pos hds]
            clear HA hds
            obtain ⟨c, r, hcr⟩ : ∃ c r, w3 = c :: r := by
              cases h3 : w3 with
              | nil => exact absurd h3 HNe.out.2.2.1
              | cons c r => exact ⟨c, r, rfl⟩
            have HCR : Hid (w3 = c :: r) := hcr
            have hix : ∀ W, (Instr.index 9 (.string (M.str w3)) (.int .i64 0)).run Tryz.prog W = .ok (.int .u8 c.toNat) W := fun W => index_letter (n := 0) Tryz.underlying9 (show w3.drop 0 = c :: r from hcr) W
            have hwf : (Lit.int .i64 (fk : Int)).wf = true := by rw [← HF.out]; exact find_kind_wf w2
            have HR4 : Hid (∀ nm fr, M.leads w3 = some (nm, fr) → O = some ⟨init.map (·.f) ++ [M.addRel l.f ⟨n1, fk, nm, fr, n4⟩], ds⟩) := fun nm fr hl => by
              rw [HA2.out, M.addPlace, if_neg (by simp), M.rel4, hl]
              have hf := HF.out
              have hk : fk ≠ 0 := by simpa using hk0
              obtain ⟨v1, e1⟩ := Option.isSome_iff_exists.1 HBA.out
              obtain ⟨v4, e4⟩ := Option.isSome_iff_exists.1 HBD.out
              cases hfd : M.find M.kindT w2 with
              | none => rw [hfd] at hf; exact absurd hf.symm hk
              | some k =>
                rw [hfd] at hf
                have hf : k = fk := hf
                rw [e1, e4, HV1.out v1 e1, HV4.out v4 e4, ← hf]
                simp only [Option.map_some, List.map_append, List.map_cons, List.map_nil]
                rw [onLast_append]
            have HRN : Hid (M.leads w3 = none → O = none) := fun h => by rw [HA2.out]; exact addPlace_no (.inr (.inr (.inl h)))
            have hil : init.length + 1 ≤ 20001 := by have := (HL.out.later HX3.out).rd.few.1; simp at this; omega
            have hsz3 : (M.str w3).size = w3.length := str_size w3
            have hl3 : 1 ≤ w3.length := by rw [hcr]; simp
            have HLr : Hid (r.length ≤ 20000) := by have := HLe.out.2.2.1; rw [hcr] at this; simp at this; rw [Hid]; omega
            clear HA2 HF HBA HBD HV1 HV4 hcr
            cases hc : ((c.toNat : Int) == 35)
            · have hc35 : c ≠ 35 := fun h => by rw [h] at hc; simp at hc
              have HQ1 : Hid (O = some ⟨init.map (·.f) ++ [M.addRel l.f ⟨n1, fk, M.str w3, 0, n4⟩], ds⟩) := HR4.out _ _ (by rw [HCR.out, M.leads, if_neg hc35])
              have hsm : (M.str w3).size ≤ maxLen ∧ (Lit.int .i64 (fk : Int)).wf = true := ⟨by rw [str_size]; unfold maxLen; have := HLe.out; omega, hwf⟩
              clear hc35 HR4 HRN hwf HLr
              go_upto_region 49 with fail
              have hA := (Below.refl V3.heap.size V3).alloc (Nat.le_refl _) (.cells #[.int .i64 n1, .int .i64 fk, .string (M.str w3), .int .i64 0, .int .i64 n4] 57)
              have hq := heap_alloc_new V3 (.cells #[.int .i64 n1, .int .i64 fk, .string (M.str w3), .int .i64 0, .int .i64 n4] 57)
              have HX34 : Hid (Below V3.heap.size V3 (V3.alloc (.cells #[.int .i64 n1, .int .i64 fk, .string (M.str w3), .int .i64 0, .int .i64 n4] 57))) := hA
              clear hA z33 lw3 d0 d1 lb hix hc hsz3 hl3
              generalize hbr : V3.heap.size = br at hq ⊢
              clear hbr
              generalize V3.alloc (.cells #[.int .i64 n1, .int .i64 fk, .string (M.str w3), .int .i64 0, .int .i64 n4] 57) = V4 at *
              have hP4 : PM V4 w.heap.size b5 (init ++ [l]) ds (.slice (some ⟨g, 0, none⟩) (init.length + 1) cap) vD := HP.out.later HX34.out
              have e0 : V4.cell? ⟨b5, 0, none⟩ = some (.slice (some ⟨g, 0, none⟩) (init.length + 1) cap) := cellB hP4.blk 0
              have le0 : b5 < V4.heap.size := (Array.getElem?_eq_some_iff.1 hP4.blk).1
              have HS4 : Hid (RdS w b2 b5 g6 ls ⟨(init ++ [l]).map (·.f), ds⟩ i V4) := ((HL.out.later HX3.out).later HX34.out).rd
              have HP4 : Hid (PM V4 w.heap.size b5 (init ++ [l]) ds (.slice (some ⟨g, 0, none⟩) (init.length + 1) cap) vD) := hP4
              clear hP4 HP HL KB
              go_upto_region 50 with fail
              refine rd_r50 w V4 b2 b5 g6 br g cap i ls init l ds vD fk n1 0 n4 (M.str w3) HS4 HP4 hq hsm hi ?_
              intro x277 x278 x279 x280 x281 x282 x283 x284 x285 x286 X hX
              have HXX : Hid _ := hX
              clear hX hq HS4 HP4 e0 le0
              go_wp2_with fail
              first | exact ⟨_, HQ1, HXX.out⟩ | exact hnext _ _ _ _ _ _ _ _ _ _ _ _ _ _ _ _ _ _ _ _ _ _ _ _ _ _ _ _ _ _ _ _ _ _ _ _ _ _ _ _ _ _ _ _ _ _ _ _ _ _ _ _ _ _ _ _ _ _ _ _ _ _ _ _ _ _ _ _ _ _ _ _ _ _ _ _ _ _ _ _ _ _ _ _ _ _ _ _ _ _ _ _ _ _ _ _ _ _ _ _ _ _ _ _ _ _ _ _ _ _ _ _ _ _ _ _ _ _ _ _ _ _ _ _ _ _ _ _ _ _ _ _ _ _ _ _ _ _ _ _ _ _ _ _ _ _ _ _ _ _ _ _ _ _ _ _ _ _ _ _ _ _ _ _ _ _ _ _ _ _ _ _ _ _ _ _ _ _ _ _ _ _ _ _ _ _ _ _ _ _ _ _ _ _ _ _ _ _ _ _ _ _ _ _ _ _ _ _ _ _ _ _ _ _ _ _ _ _ _ _ _ _ _ _ _ _ _ _ _ _ _ _ _ _ _ _ _ _ _ _ _ _ _ _ _ _ _ _ _ _ _ _ _ _ _ _ _ _ _ _ _ _ _ _ _ _ _ _ _ _ _ _ _ _ _ _ _ _ _ _ _ _ _ _ _ _ _ _ _ _ _ _ _ _ ⟨_, HQ1, HXX.out⟩
            · have hc35 : c = 35 := by
                have : (c.toNat : Int) = 35 := by simpa using hc
                apply UInt8.toNat_inj.1
                show c.toNat = 35
                omega
              have HLd : Hid (M.leads w3 = (M.num r).map fun n => (M.str [], n)) := by rw [Hid, HCR.out, M.leads, if_pos hc35]
              have hsl : ∀ W, (Instr.slice 9 (.string (M.str w3)) (some (.int .i64 1)) none none).run Tryz.prog W = .ok (.string (M.str r)) W := fun W => by
                rw [run_slice_string_from_if W 9 (M.str w3) .i64 1 Tryz.underlying9, if_pos ⟨by omega, by rw [hsz3]; omega⟩]
                have he : (M.str w3).extract (1 : Int).toNat (M.str w3).size = M.str r := by rw [HCR.out]; exact str_tail c r
                rw [he]
              obtain ⟨bR, HBR⟩ : ∃ bR : Bool, Hid ((M.num r).isSome = bR) := ⟨_, rfl⟩
              have K4 : Hid (∀ W, Below W0.heap.size W0 W → Calls Tryz.prog 37 #[.string (M.str r)] W fun e w' => (∃ n : Int, e = .returned (.tuple #[.int .i64 n, .bool bR]) ∧ Hid (∀ v, M.num r = some v → n = v)) ∧ Below W.heap.size W w') := fun W hW => by
                have := whole_any (M.str r) (by rw [str_size]; have := HLr.out; omega) W (hG.later (HL.out.rd.bel.trans (hW.mono HL.out.rd.bel.size)))
                rw [txt_str, HBR.out] at this
                exact this
              clear hc35 HCR HLr
              go_upto_region 45 with fail
              have hA := (Below.refl V3.heap.size V3).alloc (Nat.le_refl _) (.cells #[.int .i64 n1, .int .i64 fk, .string (M.str w3), .int .i64 0, .int .i64 n4] 57)
              have hq := heap_alloc_new V3 (.cells #[.int .i64 n1, .int .i64 fk, .string (M.str w3), .int .i64 0, .int .i64 n4] 57)
              have HX34 : Hid (Below V3.heap.size V3 (V3.alloc (.cells #[.int .i64 n1, .int .i64 fk, .string (M.str w3), .int .i64 0, .int .i64 n4] 57))) := hA
              have HX4 : Hid (Below W0.heap.size W0 (V3.alloc (.cells #[.int .i64 n1, .int .i64 fk, .string (M.str w3), .int .i64 0, .int .i64 n4] 57))) := HX3.out.trans (hA.mono HX3.out.size)
              have z43 : (V3.alloc (.cells #[.int .i64 n1, .int .i64 fk, .string (M.str w3), .int .i64 0, .int .i64 n4] 57)).cell? ⟨gw, 3, none⟩ = some (.string (M.str w3)) := (cellB (HL.out.later HX4.out).cw 3).trans hw3
              have lw4 : gw < (V3.alloc (.cells #[.int .i64 n1, .int .i64 fk, .string (M.str w3), .int .i64 0, .int .i64 n4] 57)).heap.size := (Array.getElem?_eq_some_iff.1 (HL.out.later HX4.out).cw).1
              clear hA z33 lw3 d0 d1 lb hix hc
              obtain ⟨br, hbr⟩ : ∃ br, br = V3.heap.size := ⟨_, rfl⟩
              have HBr : Hid (V3.heap.size ≤ br) := by rw [Hid, hbr]; exact Nat.le_refl _
              rw [← hbr] at hq
              rw [← hbr]
              clear hbr
              generalize V3.alloc (.cells #[.int .i64 n1, .int .i64 fk, .string (M.str w3), .int .i64 0, .int .i64 n4] 57) = VA at *
              go_upto_region 46 with (go_at_call 37; refine (K4.out _ HX4.out).mono ?_; rintro e VC ⟨⟨nr, rfl, HVr⟩, hvc⟩)
              have HXC : Hid (Below W0.heap.size W0 VC) := HX4.out.trans (hvc.mono HX4.out.size)
              have HX3C : Hid (Below V3.heap.size V3 VC) := HX34.out.trans (hvc.mono HX34.out.size)
              have hqc := (hvc.block _ (Array.getElem?_eq_some_iff.1 hq).1).trans hq
              have y2 : VC.cell? ⟨br, 2, none⟩ = some (.string (M.str w3)) := cellB hqc 2
              have y3 : VC.cell? ⟨br, 3, none⟩ = some (.int .i64 0) := cellB hqc 3
              have yz : ∀ j, VC.frozen? ⟨br, j, none⟩ = false := frozenB hqc
              have yl : br < VC.heap.size := (Array.getElem?_eq_some_iff.1 hqc).1
              clear hvc hq z43 lw4 HX4 HX34 K4 hsl hsz3 hl3
              cases bR
              · have HN : Hid (O = none) := HRN.out (by rw [HLd.out, (show M.num r = none by simpa using HBR.out)]; rfl)
                clear HRN HR4 HL HP
                go_wp2_with (go_at_call 34; refine (KB.out _ (HXC.out)).mono ?_; rintro e VB ⟨rfl, kb0, kb1, kbz, kbl, HB1, HB2⟩)
                exact hret _ _ _ _ _ _ _ _ _ _ _ _ _ _ _ _ _ _ _ _ _ _ _ _ _ _ _ _ _ _ _ _ _ _ _ _ _ _ _ _ _ _ _ _ _ _ _ _ _ _ _ _ _ _ _ _ _ _ _ _ _ _ _ _ _ _ _ _ _ _ _ _ _ _ _ _ _ _ _ _ _ _ _ _ _ _ _ _ _ _ _ _ _ _ _ _ _ _ _ _ _ _ _ _ _ _ _ _ _ _ _ _ _ _ _ _ _ _ _ _ _ _ _ _ _ _ _ _ _ _ _ _ _ _ _ _ _ _ _ _ _ _ _ _ _ _ _ _ _ _ _ _ _ _ _ _ _ _ _ _ _ _ _ _ _ _ _ _ _ _ _ _ _ _ _ _ _ _ _ _ _ _ _ _ _ _ _ _ _ _ _ _ _ _ _ _ _ _ _ _ _ _ _ _ _ _ _ _ _ _ _ _ _ _ _ _ _ _ _ _ _ _ _ _ _ _ _ _ _ _ _ _ _ _ _ _ _ _ _ _ _ _ _ _ _ _ _ _ _ _ _ _ _ _ _ _ _ _ _ _ _ _ _ _ _ _ _ _ _ _ _ _ _ _ _ _ _ _ _ _ _ _ _ _ _ _ _ _ _ _ _ _ _ _ ⟨HN, by first | exact HB1.out | exact HB2.out⟩
              · have HQ1 : Hid (O = some ⟨init.map (·.f) ++ [M.addRel l.f ⟨n1, fk, ⟨#[]⟩, nr, n4⟩], ds⟩) := HR4.out _ _ (by
                  obtain ⟨v, ev⟩ := Option.isSome_iff_exists.1 HBR.out
                  rw [HLd.out, ev, HVr.out v ev]; rfl)
                have hsm : (⟨#[]⟩ : ByteArray).size ≤ maxLen ∧ (Lit.int .i64 (fk : Int)).wf = true := ⟨by unfold maxLen; decide, hwf⟩
                clear HR4 HRN HLd HBR HVr hwf
                go_upto_region 49 with fail
                have q1 : (VC.setCell ⟨br, 2, none⟩ (.string ⟨#[]⟩)).heap[br]? = some (.cells #[.int .i64 n1, .int .i64 fk, .string ⟨#[]⟩, .int .i64 0, .int .i64 n4] 57 (0, 0)) := setB' hqc _
                have hq : ((VC.setCell ⟨br, 2, none⟩ (.string ⟨#[]⟩)).setCell ⟨br, 3, none⟩ (.int .i64 nr)).heap[br]? = some (.cells #[.int .i64 n1, .int .i64 fk, .string ⟨#[]⟩, .int .i64 nr, .int .i64 n4] 57 (0, 0)) := setB' q1 _
                have HX34 : Hid (Below V3.heap.size V3 ((VC.setCell ⟨br, 2, none⟩ (.string ⟨#[]⟩)).setCell ⟨br, 3, none⟩ (.int .i64 nr))) := (HX3C.out.setCell (p := ⟨br, 2, none⟩) HBr.out _).setCell (p := ⟨br, 3, none⟩) HBr.out _
                clear q1 hqc y2 y3 yz yl HX3C HXC HBr
                generalize (VC.setCell ⟨br, 2, none⟩ (.string ⟨#[]⟩)).setCell ⟨br, 3, none⟩ (.int .i64 nr) = V4 at *
                have hP4 : PM V4 w.heap.size b5 (init ++ [l]) ds (.slice (some ⟨g, 0, none⟩) (init.length + 1) cap) vD := HP.out.later HX34.out
                have e0 : V4.cell? ⟨b5, 0, none⟩ = some (.slice (some ⟨g, 0, none⟩) (init.length + 1) cap) := cellB hP4.blk 0
                have le0 : b5 < V4.heap.size := (Array.getElem?_eq_some_iff.1 hP4.blk).1
                have HS4 : Hid (RdS w b2 b5 g6 ls ⟨(init ++ [l]).map (·.f), ds⟩ i V4) := ((HL.out.later HX3.out).later HX34.out).rd
                have HP4 : Hid (PM V4 w.heap.size b5 (init ++ [l]) ds (.slice (some ⟨g, 0, none⟩) (init.length + 1) cap) vD) := hP4
                clear hP4 HP HL KB
                go_upto_region 50 with fail
                refine rd_r50 w V4 b2 b5 g6 br g cap i ls init l ds vD fk n1 nr n4 (⟨#[]⟩ : ByteArray) HS4 HP4 hq hsm hi ?_
                intro x277 x278 x279 x280 x281 x282 x283 x284 x285 x286 X hX
                have HXX : Hid _ := hX
                clear hX hq HS4 HP4 e0 le0
                go_wp2_with fail
                first | exact ⟨_, HQ1, HXX.out⟩ | exact hnext _ _ _ _ _ _ _ _ _ _ _ _ _ _ _ _ _ _ _ _ _ _ _ _ _ _ _ _ _ _ _ _ _ _ _ _ _ _ _ _ _ _ _ _ _ _ _ _ _ _ _ _ _ _ _ _ _ _ _ _ _ _ _ _ _ _ _ _ _ _ _ _ _ _ _ _ _ _ _ _ _ _ _ _ _ _ _ _ _ _ _ _ _ _ _ _ _ _ _ _ _ _ _ _ _ _ _ _ _ _ _ _ _ _ _ _ _ _ _ _ _ _ _ _ _ _ _ _ _ _ _ _ _ _ _ _ _ _ _ _ _ _ _ _ _ _ _ _ _ _ _ _ _ _ _ _ _ _ _ _ _ _ _ _ _ _ _ _ _ _ _ _ _ _ _ _ _ _ _ _ _ _ _ _ _ _ _ _ _ _ _ _ _ _ _ _ _ _ _ _ _ _ _ _ _ _ _ _ _ _ _ _ _ _ _ _ _ _ _ _ _ _ _ _ _ _ _ _ _ _ _ _ _ _ _ _ _ _ _ _ _ _ _ _ _ _ _ _ _ _ _ _ _ _ _ _ _ _ _ _ _ _ _ _ _ _ _ _ _ _ _ _ _ _ _ _ _ _ _ _ _ _ _ _ _ _ _ _ _ _ _ _ _ _ ⟨_, HQ1, HXX.out⟩
          · have hd0 : (0 : Int) < (ds.length : Int) := by
              have : ds.length ≠ 0 := fun h => hds (List.length_eq_zero_iff.1 h)
              omega
            have hd1 : decide ((0 : Int) < (ds.length : Int)) = true := decide_eq_true hd0
            have HN : Hid (O = none) := by
              rw [Hid, HA.out, if_neg hds]
            clear HA HL hds HP
            go_wp2_with (go_at_call 34; refine (KB.out _ (HX3.out)).mono ?_; rintro e VB ⟨rfl, kb0, kb1, kbz, kbl, HB1, HB2⟩)
            exact hret _ _ _ _ _ _ _ _ _ _ _ _ _ _ _ _ _ _ _ _ _ _ _ _ _ _ _ _ _ _ _ _ _ _ _ _ _ _ _ _ _ _ _ _ _ _ _ _ _ _ _ _ _ _ _ _ _ _ _ _ _ _ _ _ _ _ _ _ _ _ _ _ _ _ _ _ _ _ _ _ _ _ _ _ _ _ _ _ _ _ _ _ _ _ _ _ _ _ _ _ _ _ _ _ _ _ _ _ _ _ _ _ _ _ _ _ _ _ _ _ _ _ _ _ _ _ _ _ _ _ _ _ _ _ _ _ _ _ _ _ _ _ _ _ _ _ _ _ _ _ _ _ _ _ _ _ _ _ _ _ _ _ _ _ _ _ _ _ _ _ _ _ _ _ _ _ _ _ _ _ _ _ _ _ _ _ _ _ _ _ _ _ _ _ _ _ _ _ _ _ _ _ _ _ _ _ _ _ _ _ _ _ _ _ _ _ _ _ _ _ _ _ _ _ _ _ _ _ _ _ _ _ _ _ _ _ _ _ _ _ _ _ _ _ _ _ _ _ _ _ _ _ _ _ _ _ _ _ _ _ _ _ _ _ _ _ _ _ _ _ _ _ _ _ _ _ _ _ _ _ _ _ _ _ _ _ _ _ _ _ _ _ _ _ ⟨HN, by first | exact HB1.out | exact HB2.out⟩
      · have h0 : fk = 0 := by
          have : (fk : Int) = 0 := by simpa using hk0
          omega
        have HN : Hid (O = none) := by
          rw [Hid, HA.out, addPlace_no (.inr (.inl ((find_zero HNe.out.2.1).1 (HF.out.trans h0))))]; simp
        clear HA HL h0
        go_wp2_with (go_at_call 34; refine (KB.out _ (HX3.out)).mono ?_; rintro e VB ⟨rfl, kb0, kb1, kbz, kbl, HB1, HB2⟩)
        exact hret _ _ _ _ _ _ _ _ _ _ _ _ _ _ _ _ _ _ _ _ _ _ _ _ _ _ _ _ _ _ _ _ _ _ _ _ _ _ _ _ _ _ _ _ _ _ _ _ _ _ _ _ _ _ _ _ _ _ _ _ _ _ _ _ _ _ _ _ _ _ _ _ _ _ _ _ _ _ _ _ _ _ _ _ _ _ _ _ _ _ _ _ _ _ _ _ _ _ _ _ _ _ _ _ _ _ _ _ _ _ _ _ _ _ _ _ _ _ _ _ _ _ _ _ _ _ _ _ _ _ _ _ _ _ _ _ _ _ _ _ _ _ _ _ _ _ _ _ _ _ _ _ _ _ _ _ _ _ _ _ _ _ _ _ _ _ _ _ _ _ _ _ _ _ _ _ _ _ _ _ _ _ _ _ _ _ _ _ _ _ _ _ _ _ _ _ _ _ _ _ _ _ _ _ _ _ _ _ _ _ _ _ _ _ _ _ _ _ _ _ _ _ _ _ _ _ _ _ _ _ _ _ _ _ _ _ _ _ _ _ _ _ _ _ _ _ _ _ _ _ _ _ _ _ _ _ _ _ _ _ _ _ _ _ _ _ _ _ _ _ _ _ _ _ _ _ _ _ _ _ _ _ _ _ _ _ _ _ _ _ _ _ _ _ ⟨HN, by first | exact HB1.out | exact HB2.out⟩

end Go.Proofs.YthiknlnhdjoipaaGreatDoor
