/-
  The reference's ReadPart: a line of a fragment.
-/
import Derived.Test.YthiknlnhdjoipaaGreatDoorRfSt
import Derived.Test.YthiknlnhdjoipaaGreatDoorRfA
namespace Go.Proofs.YthiknlnhdjoipaaGreatDoor
open Go Go.RowKit
set_option linter.unusedVariables false
attribute [local go_sem] lat_cell

theorem addFrag_no' {p : M.Prt} {w1 w2 w3 w4 : M.Txt} (h : M.find M.sectT w1 = none ∨ M.num w2 = none) : M.addFrag p w1 w2 w3 w4 = none := by
  unfold M.addFrag
  rcases h with h | h <;> rw [h]
  cases M.find M.sectT w1 <;> rfl
theorem pairs_no {t : M.Txt} (h : ¬ (t.length % 2 = 0 ∧ (t.all fun c => M.digits.contains c) = true)) : M.pairs t = none := by
  cases hp : M.pairs t with
  | none => rfl
  | some bs => exact absurd ((pairs_iff t.length t (Nat.le_refl _)).1 (by rw [hp]; rfl)) h

set_option maxHeartbeats 8000000 in
set_option maxRecDepth 1000000 in
theorem rd_frag {zc0 zc1 zc3 zc4 zc6 zc8 zc11 zc12 zc13 zc14 zc15 zc16 zc17 zc18 zc19 zc20 zc21 zc22 zc23 zc24 zc25 zc26 zc27 zc28 zc29 zc30 zc31 zc32 zc33 zc34 zc35 zc36 zc37 zc38 zc39 zc40 zc41 zc42 zc43 zc44 zc45 zc46 zc47 zc48 zc49 zc50 zc51 zc52 zc53 zc54 zc55 zc56 zc57 zc58 zc59 zc60 zc61 zc62 zc63 zc64 zc65 zc66 zc67 zc68 zc69 zc70 zc71 zc72 zc73 zc75 zc76 zc77 zc78 zc79 zc80 zc81 zc82 zc83 zc84 zc85 zc86 zc87 zc88 zc89 zc90 zc91 zc92 zc93 zc94 zc95 zc96 zc97 zc98 zc99 zc100 zc101 zc102 zc103 zc104 zc105 zc106 zc107 zc108 zc109 zc110 zc111 zc112 zc113 zc114 zc115 zc116 zc117 zc118 zc119 zc120 zc121 zc122 zc123 zc124 zc125 zc126 zc127 zc128 zc129 zc130 zc131 zc132 zc133 zc134 zc135 zc136 zc137 zc138 zc139 zc140 zc141 zc142 zc143 zc144 zc145 zc146 zc147 zc148 zc149 zc150 zc151 zc152 zc153 zc154 zc155 zc156 zc157 zc158 zc159 zc160 zc161 zc162 zc163 zc164 zc165 zc166 zc167 zc168 zc169 zc170 zc171 zc172 zc173 zc174 zc175 zc176 zc177 zc178 zc179 zc180 zc181 zc182 zc183 zc184 zc185 zc186 zc187 zc188 zc189 zc190 zc191 zc192 zc193 zc194 zc195 zc196 zc197 zc198 zc199 zc200 zc201 zc202 zc203 zc204 zc205 zc206 zc207 zc208 zc209 zc210 zc211 zc212 zc213 zc214 zc215 zc216 zc217 zc218 zc219 zc220 zc221 zc222 zc223 zc224 zc225 zc226 zc227 zc228 zc229 zc230 zc231 zc232 zc233 zc234 zc235 zc236 zc237 zc238 zc239 zc240 zc241 zc242 zc243 zc244 zc245 zc246 zc247 zc248 zc249 zc250 zc251 zc252 zc253 zc254 zc255 zc256 zc257 zc258 zc259 zc260 zc261 zc262 zc263 zc264 zc265 zc266 zc267 zc268 zc269 zc270 zc271 zc272 zc273 zc274 zc275 zc276 zc277 zc278 zc279 zc280 zc281 zc282 zc283 zc284 zc285 zc286 zc287 zc288 zc289 zc290 zc291 zc292 zc293 zc294 zc295 zc296 zc297 zc298 zc299 zc300 zc301 zc302 zc303 zc304 zc305 zc306 zc307 zc308 zc309 zc310 zc311 zc312 zc313 zc314 zc315 zc316 zc317 zc318 zc319 zc320 zc321 zc322 zc323 zc324 zc325 zc326 zc327 zc328 zc329 zc330 zc331 zc332 zc333 zc334 zc335 zc336 zc337 zc338 zc339 zc340 zc341 zc342 zc343 zc344 zc345 zc346 zc347 zc348 zc349 zc350 zc351 : Value} (w W0 : World) (b2 b5 g6 i gw b7 : Nat) (ls ws : Array Value) (p : M.Prt) (w0 w1 w2 w3 w4 : M.Txt) (hG : Glob w) (hBk : Blanks w) (HL : Hid (LnS w b2 b5 g6 ls p i gw b7 ws W0)) (hw1 : ws[1]? = some (.string (M.str w1))) (hw2 : ws[2]? = some (.string (M.str w2))) (hw3 : ws[3]? = some (.string (M.str w3))) (hw4 : ws[4]? = some (.string (M.str w4))) (hne : b2 ≠ b5) (hb2 : w.heap.size ≤ b2) (HLe : Hid (w1.length ≤ 20000 ∧ w2.length ≤ 20000 ∧ w3.length ≤ 20000 ∧ w4.length ≤ 20000)) (HNe : Hid (w1 ≠ [] ∧ w2 ≠ [] ∧ w3 ≠ [] ∧ w4 ≠ [])) (hi : i ≤ 20001) (O : Option M.Prt) (HO : Hid (O = M.addWords p w0 w1 w2 w3 w4)) (c1 : ((M.str w0).toList == [102, 114, 97, 103]) = true) {Q0 : Exit → Act → World → Prop}
    (hret : ∀ (zv11 zv12 zv13 zv14 zv15 zv16 zv17 zv18 zv19 zv20 zv21 zv22 zv23 zv24 zv25 zv26 zv27 zv28 zv29 zv30 zv31 zv32 zv33 zv34 zv75 zv76 zv77 zv78 zv79 zv80 zv81 zv82 zv83 zv84 zv85 zv86 zv87 zv88 zv89 zv90 zv91 zv92 zv93 zv94 zv95 zv96 zv97 zv98 zv99 zv100 zv101 zv102 zv103 zv104 zv105 zv106 zv107 zv108 zv109 zv110 zv111 zv112 zv113 zv114 zv115 zv116 zv117 zv118 zv119 zv120 zv121 zv122 zv123 zv124 zv125 zv126 zv127 zv128 zv129 zv130 zv131 zv132 zv133 zv134 zv135 zv136 zv137 zv138 zv139 zv140 zv141 zv142 zv143 zv144 zv145 zv146 zv147 zv148 zv149 zv150 zv151 zv152 zv153 zv154 zv155 zv156 zv157 zv158 zv159 zv160 zv161 zv162 zv163 zv164 zv165 zv166 zv167 zv168 zv169 zv170 zv171 zv172 zv173 zv174 zv175 zv176 zv177 zv178 zv179 zv180 zv181 zv182 zv183 zv184 zv185 zv186 zv187 zv188 zv189 zv190 zv191 zv192 zv193 zv194 zv195 zv196 zv197 zv198 zv199 zv200 zv201 zv202 zv203 zv204 zv205 zv206 zv207 zv208 zv209 zv210 zv211 zv212 zv213 zv214 zv215 zv216 zv217 zv218 zv219 zv220 zv221 zv222 zv223 zv224 zv225 zv226 zv227 zv228 zv229 zv230 zv231 zv232 zv233 zv234 zv235 zv236 zv237 zv238 zv239 zv240 zv241 zv242 zv243 zv244 zv245 zv246 zv247 zv248 zv249 zv250 zv251 zv252 zv253 zv254 zv255 zv256 zv257 zv258 zv259 zv260 zv261 zv262 zv263 zv264 zv265 zv266 zv267 zv268 zv269 zv270 zv271 zv272 zv273 zv274 zv275 zv276 zv277 zv278 zv279 zv280 zv281 zv282 zv283 zv284 zv285 zv286 zv287 zv288 zv289 zv290 zv291 zv292 zv293 zv294 zv295 zv296 zv297 zv298 zv299 zv300 zv301 zv302 zv303 zv304 zv305 zv306 zv307 zv308 zv309 zv310 zv311 zv312 zv313 zv314 zv315 zv316 zv317 zv318 zv319 zv320 zv321 zv322 zv323 zv324 zv325 zv326 zv327 zv328 zv329 zv330 zv331 zv332 zv333 zv334 zv335 zv336 zv337 zv338 zv339 zv340 zv341 zv342 zv343 : Value) (w'' : World), Hid (O = none) ∧ BadS w b2 w'' → Q0 .ret ⟨List.toArray (zc0 :: zc1 :: .pointer (some ⟨b2, 0, none⟩) :: .int .i64 i :: .int .i64 1 :: .pointer (some ⟨b5, 0, none⟩) :: zc6 :: .pointer (some ⟨b7, 0, none⟩) :: zc8 :: .func (.func (34 : Nat)) #[] #[.pointer (some ⟨b7, 0, none⟩)] :: .slice (some ⟨gw, 0, none⟩) 5 5 :: zv11 :: zv12 :: zv13 :: zv14 :: zv15 :: zv16 :: zv17 :: zv18 :: zv19 :: zv20 :: zv21 :: zv22 :: zv23 :: zv24 :: zv25 :: zv26 :: zv27 :: zv28 :: zv29 :: zv30 :: zv31 :: zv32 :: zv33 :: zv34 :: zc35 :: zc36 :: zc37 :: zc38 :: zc39 :: zc40 :: zc41 :: zc42 :: zc43 :: zc44 :: zc45 :: zc46 :: zc47 :: zc48 :: zc49 :: zc50 :: zc51 :: zc52 :: zc53 :: zc54 :: zc55 :: zc56 :: zc57 :: zc58 :: zc59 :: zc60 :: zc61 :: zc62 :: zc63 :: zc64 :: zc65 :: zc66 :: zc67 :: zc68 :: zc69 :: zc70 :: zc71 :: zc72 :: zc73 :: .string (M.str w0) :: zv75 :: zv76 :: zv77 :: zv78 :: zv79 :: zv80 :: zv81 :: zv82 :: zv83 :: zv84 :: zv85 :: zv86 :: zv87 :: zv88 :: zv89 :: zv90 :: zv91 :: zv92 :: zv93 :: zv94 :: zv95 :: zv96 :: zv97 :: zv98 :: zv99 :: zv100 :: zv101 :: zv102 :: zv103 :: zv104 :: zv105 :: zv106 :: zv107 :: zv108 :: zv109 :: zv110 :: zv111 :: zv112 :: zv113 :: zv114 :: zv115 :: zv116 :: zv117 :: zv118 :: zv119 :: zv120 :: zv121 :: zv122 :: zv123 :: zv124 :: zv125 :: zv126 :: zv127 :: zv128 :: zv129 :: zv130 :: zv131 :: zv132 :: zv133 :: zv134 :: zv135 :: zv136 :: zv137 :: zv138 :: zv139 :: zv140 :: zv141 :: zv142 :: zv143 :: zv144 :: zv145 :: zv146 :: zv147 :: zv148 :: zv149 :: zv150 :: zv151 :: zv152 :: zv153 :: zv154 :: zv155 :: zv156 :: zv157 :: zv158 :: zv159 :: zv160 :: zv161 :: zv162 :: zv163 :: zv164 :: zv165 :: zv166 :: zv167 :: zv168 :: zv169 :: zv170 :: zv171 :: zv172 :: zv173 :: zv174 :: zv175 :: zv176 :: zv177 :: zv178 :: zv179 :: zv180 :: zv181 :: zv182 :: zv183 :: zv184 :: zv185 :: zv186 :: zv187 :: zv188 :: zv189 :: zv190 :: zv191 :: zv192 :: zv193 :: zv194 :: zv195 :: zv196 :: zv197 :: zv198 :: zv199 :: zv200 :: zv201 :: zv202 :: zv203 :: zv204 :: zv205 :: zv206 :: zv207 :: zv208 :: zv209 :: zv210 :: zv211 :: zv212 :: zv213 :: zv214 :: zv215 :: zv216 :: zv217 :: zv218 :: zv219 :: zv220 :: zv221 :: zv222 :: zv223 :: zv224 :: zv225 :: zv226 :: zv227 :: zv228 :: zv229 :: zv230 :: zv231 :: zv232 :: zv233 :: zv234 :: zv235 :: zv236 :: zv237 :: zv238 :: zv239 :: zv240 :: zv241 :: zv242 :: zv243 :: zv244 :: zv245 :: zv246 :: zv247 :: zv248 :: zv249 :: zv250 :: zv251 :: zv252 :: zv253 :: zv254 :: zv255 :: zv256 :: zv257 :: zv258 :: zv259 :: zv260 :: zv261 :: zv262 :: zv263 :: zv264 :: zv265 :: zv266 :: zv267 :: zv268 :: zv269 :: zv270 :: zv271 :: zv272 :: zv273 :: zv274 :: zv275 :: zv276 :: zv277 :: zv278 :: zv279 :: zv280 :: zv281 :: zv282 :: zv283 :: zv284 :: zv285 :: zv286 :: zv287 :: zv288 :: zv289 :: zv290 :: zv291 :: zv292 :: zv293 :: zv294 :: zv295 :: zv296 :: zv297 :: zv298 :: zv299 :: zv300 :: zv301 :: zv302 :: zv303 :: zv304 :: zv305 :: zv306 :: zv307 :: zv308 :: zv309 :: zv310 :: zv311 :: zv312 :: zv313 :: zv314 :: zv315 :: zv316 :: zv317 :: zv318 :: zv319 :: zv320 :: zv321 :: zv322 :: zv323 :: zv324 :: zv325 :: zv326 :: zv327 :: zv328 :: zv329 :: zv330 :: zv331 :: zv332 :: zv333 :: zv334 :: zv335 :: zv336 :: zv337 :: zv338 :: zv339 :: zv340 :: zv341 :: zv342 :: zv343 :: zc344 :: zc345 :: zc346 :: zc347 :: zc348 :: zc349 :: zc350 :: zc351 :: []), []⟩ w'')
    (hnext : ∀ (zv11 zv12 zv13 zv14 zv15 zv16 zv17 zv18 zv19 zv20 zv21 zv22 zv23 zv24 zv25 zv26 zv27 zv28 zv29 zv30 zv31 zv32 zv33 zv34 zv75 zv76 zv77 zv78 zv79 zv80 zv81 zv82 zv83 zv84 zv85 zv86 zv87 zv88 zv89 zv90 zv91 zv92 zv93 zv94 zv95 zv96 zv97 zv98 zv99 zv100 zv101 zv102 zv103 zv104 zv105 zv106 zv107 zv108 zv109 zv110 zv111 zv112 zv113 zv114 zv115 zv116 zv117 zv118 zv119 zv120 zv121 zv122 zv123 zv124 zv125 zv126 zv127 zv128 zv129 zv130 zv131 zv132 zv133 zv134 zv135 zv136 zv137 zv138 zv139 zv140 zv141 zv142 zv143 zv144 zv145 zv146 zv147 zv148 zv149 zv150 zv151 zv152 zv153 zv154 zv155 zv156 zv157 zv158 zv159 zv160 zv161 zv162 zv163 zv164 zv165 zv166 zv167 zv168 zv169 zv170 zv171 zv172 zv173 zv174 zv175 zv176 zv177 zv178 zv179 zv180 zv181 zv182 zv183 zv184 zv185 zv186 zv187 zv188 zv189 zv190 zv191 zv192 zv193 zv194 zv195 zv196 zv197 zv198 zv199 zv200 zv201 zv202 zv203 zv204 zv205 zv206 zv207 zv208 zv209 zv210 zv211 zv212 zv213 zv214 zv215 zv216 zv217 zv218 zv219 zv220 zv221 zv222 zv223 zv224 zv225 zv226 zv227 zv228 zv229 zv230 zv231 zv232 zv233 zv234 zv235 zv236 zv237 zv238 zv239 zv240 zv241 zv242 zv243 zv244 zv245 zv246 zv247 zv248 zv249 zv250 zv251 zv252 zv253 zv254 zv255 zv256 zv257 zv258 zv259 zv260 zv261 zv262 zv263 zv264 zv265 zv266 zv267 zv268 zv269 zv270 zv271 zv272 zv273 zv274 zv275 zv276 zv277 zv278 zv279 zv280 zv281 zv282 zv283 zv284 zv285 zv286 zv287 zv288 zv289 zv290 zv291 zv292 zv293 zv294 zv295 zv296 zv297 zv298 zv299 zv300 zv301 zv302 zv303 zv304 zv305 zv306 zv307 zv308 zv309 zv310 zv311 zv312 zv313 zv314 zv315 zv316 zv317 zv318 zv319 zv320 zv321 zv322 zv323 zv324 zv325 zv326 zv327 zv328 zv329 zv330 zv331 zv332 zv333 zv334 zv335 zv336 zv337 zv338 zv339 zv340 zv341 zv342 zv343 : Value) (w'' : World), (∃ q, Hid (O = some q) ∧ RdS w b2 b5 g6 ls q (i + 1) w'') → Q0 .normal ⟨List.toArray (zc0 :: zc1 :: .pointer (some ⟨b2, 0, none⟩) :: zc3 :: zc4 :: .pointer (some ⟨b5, 0, none⟩) :: zc6 :: .pointer (some ⟨b7, 0, none⟩) :: zc8 :: .func (.func (34 : Nat)) #[] #[.pointer (some ⟨b7, 0, none⟩)] :: .slice (some ⟨gw, 0, none⟩) 5 5 :: zv11 :: zv12 :: zv13 :: zv14 :: zv15 :: zv16 :: zv17 :: zv18 :: zv19 :: zv20 :: zv21 :: zv22 :: zv23 :: zv24 :: zv25 :: zv26 :: zv27 :: zv28 :: zv29 :: zv30 :: zv31 :: zv32 :: zv33 :: zv34 :: zc35 :: zc36 :: zc37 :: zc38 :: zc39 :: zc40 :: zc41 :: zc42 :: zc43 :: zc44 :: zc45 :: zc46 :: zc47 :: zc48 :: zc49 :: zc50 :: zc51 :: zc52 :: zc53 :: zc54 :: zc55 :: zc56 :: zc57 :: zc58 :: zc59 :: zc60 :: zc61 :: zc62 :: zc63 :: zc64 :: zc65 :: zc66 :: zc67 :: zc68 :: zc69 :: zc70 :: zc71 :: zc72 :: zc73 :: .string (M.str w0) :: zv75 :: zv76 :: zv77 :: zv78 :: zv79 :: zv80 :: zv81 :: zv82 :: zv83 :: zv84 :: zv85 :: zv86 :: zv87 :: zv88 :: zv89 :: zv90 :: zv91 :: zv92 :: zv93 :: zv94 :: zv95 :: zv96 :: zv97 :: zv98 :: zv99 :: zv100 :: zv101 :: zv102 :: zv103 :: zv104 :: zv105 :: zv106 :: zv107 :: zv108 :: zv109 :: zv110 :: zv111 :: zv112 :: zv113 :: zv114 :: zv115 :: zv116 :: zv117 :: zv118 :: zv119 :: zv120 :: zv121 :: zv122 :: zv123 :: zv124 :: zv125 :: zv126 :: zv127 :: zv128 :: zv129 :: zv130 :: zv131 :: zv132 :: zv133 :: zv134 :: zv135 :: zv136 :: zv137 :: zv138 :: zv139 :: zv140 :: zv141 :: zv142 :: zv143 :: zv144 :: zv145 :: zv146 :: zv147 :: zv148 :: zv149 :: zv150 :: zv151 :: zv152 :: zv153 :: zv154 :: zv155 :: zv156 :: zv157 :: zv158 :: zv159 :: zv160 :: zv161 :: zv162 :: zv163 :: zv164 :: zv165 :: zv166 :: zv167 :: zv168 :: zv169 :: zv170 :: zv171 :: zv172 :: zv173 :: zv174 :: zv175 :: zv176 :: zv177 :: zv178 :: zv179 :: zv180 :: zv181 :: zv182 :: zv183 :: zv184 :: zv185 :: zv186 :: zv187 :: zv188 :: zv189 :: zv190 :: zv191 :: zv192 :: zv193 :: zv194 :: zv195 :: zv196 :: zv197 :: zv198 :: zv199 :: zv200 :: zv201 :: zv202 :: zv203 :: zv204 :: zv205 :: zv206 :: zv207 :: zv208 :: zv209 :: zv210 :: zv211 :: zv212 :: zv213 :: zv214 :: zv215 :: zv216 :: zv217 :: zv218 :: zv219 :: zv220 :: zv221 :: zv222 :: zv223 :: zv224 :: zv225 :: zv226 :: zv227 :: zv228 :: zv229 :: zv230 :: zv231 :: zv232 :: zv233 :: zv234 :: zv235 :: zv236 :: zv237 :: zv238 :: zv239 :: zv240 :: zv241 :: zv242 :: zv243 :: zv244 :: zv245 :: zv246 :: zv247 :: zv248 :: zv249 :: zv250 :: zv251 :: zv252 :: zv253 :: zv254 :: zv255 :: zv256 :: zv257 :: zv258 :: zv259 :: zv260 :: zv261 :: zv262 :: zv263 :: zv264 :: zv265 :: zv266 :: zv267 :: zv268 :: zv269 :: zv270 :: zv271 :: zv272 :: zv273 :: zv274 :: zv275 :: zv276 :: zv277 :: zv278 :: zv279 :: zv280 :: zv281 :: zv282 :: zv283 :: zv284 :: zv285 :: zv286 :: zv287 :: zv288 :: zv289 :: zv290 :: zv291 :: zv292 :: zv293 :: zv294 :: zv295 :: zv296 :: zv297 :: zv298 :: zv299 :: zv300 :: zv301 :: zv302 :: zv303 :: zv304 :: zv305 :: zv306 :: zv307 :: zv308 :: zv309 :: zv310 :: zv311 :: zv312 :: zv313 :: zv314 :: zv315 :: zv316 :: zv317 :: zv318 :: zv319 :: zv320 :: zv321 :: zv322 :: zv323 :: zv324 :: zv325 :: zv326 :: zv327 :: zv328 :: zv329 :: zv330 :: zv331 :: zv332 :: zv333 :: zv334 :: zv335 :: zv336 :: zv337 :: zv338 :: zv339 :: zv340 :: zv341 :: zv342 :: zv343 :: zc344 :: zc345 :: zc346 :: zc347 :: zc348 :: zc349 :: zc350 :: zc351 :: []), []⟩ w'') :
    Code.wp Tryz.prog (((Tryz.f10.body.map blksOfL).getD [])[2]?.getD .skip : Code) Q0 ⟨List.toArray (zc0 :: zc1 :: .pointer (some ⟨b2, 0, none⟩) :: zc3 :: zc4 :: .pointer (some ⟨b5, 0, none⟩) :: zc6 :: .pointer (some ⟨b7, 0, none⟩) :: zc8 :: .func (.func (34 : Nat)) #[] #[.pointer (some ⟨b7, 0, none⟩)] :: .slice (some ⟨gw, 0, none⟩) 5 5 :: zc11 :: zc12 :: zc13 :: zc14 :: zc15 :: zc16 :: zc17 :: zc18 :: zc19 :: zc20 :: zc21 :: zc22 :: zc23 :: zc24 :: zc25 :: zc26 :: zc27 :: zc28 :: zc29 :: zc30 :: zc31 :: zc32 :: zc33 :: zc34 :: zc35 :: zc36 :: zc37 :: zc38 :: zc39 :: zc40 :: zc41 :: zc42 :: zc43 :: zc44 :: zc45 :: zc46 :: zc47 :: zc48 :: zc49 :: zc50 :: zc51 :: zc52 :: zc53 :: zc54 :: zc55 :: zc56 :: zc57 :: zc58 :: zc59 :: zc60 :: zc61 :: zc62 :: zc63 :: zc64 :: zc65 :: zc66 :: zc67 :: zc68 :: zc69 :: zc70 :: zc71 :: zc72 :: zc73 :: .string (M.str w0) :: zc75 :: zc76 :: zc77 :: zc78 :: zc79 :: zc80 :: zc81 :: zc82 :: zc83 :: zc84 :: zc85 :: zc86 :: zc87 :: zc88 :: zc89 :: zc90 :: zc91 :: zc92 :: zc93 :: zc94 :: zc95 :: zc96 :: zc97 :: zc98 :: zc99 :: zc100 :: zc101 :: zc102 :: zc103 :: zc104 :: zc105 :: zc106 :: zc107 :: zc108 :: zc109 :: zc110 :: zc111 :: zc112 :: zc113 :: zc114 :: zc115 :: zc116 :: zc117 :: zc118 :: zc119 :: zc120 :: zc121 :: zc122 :: zc123 :: zc124 :: zc125 :: zc126 :: zc127 :: zc128 :: zc129 :: zc130 :: zc131 :: zc132 :: zc133 :: zc134 :: zc135 :: zc136 :: zc137 :: zc138 :: zc139 :: zc140 :: zc141 :: zc142 :: zc143 :: zc144 :: zc145 :: zc146 :: zc147 :: zc148 :: zc149 :: zc150 :: zc151 :: zc152 :: zc153 :: zc154 :: zc155 :: zc156 :: zc157 :: zc158 :: zc159 :: zc160 :: zc161 :: zc162 :: zc163 :: zc164 :: zc165 :: zc166 :: zc167 :: zc168 :: zc169 :: zc170 :: zc171 :: zc172 :: zc173 :: zc174 :: zc175 :: zc176 :: zc177 :: zc178 :: zc179 :: zc180 :: zc181 :: zc182 :: zc183 :: zc184 :: zc185 :: zc186 :: zc187 :: zc188 :: zc189 :: zc190 :: zc191 :: zc192 :: zc193 :: zc194 :: zc195 :: zc196 :: zc197 :: zc198 :: zc199 :: zc200 :: zc201 :: zc202 :: zc203 :: zc204 :: zc205 :: zc206 :: zc207 :: zc208 :: zc209 :: zc210 :: zc211 :: zc212 :: zc213 :: zc214 :: zc215 :: zc216 :: zc217 :: zc218 :: zc219 :: zc220 :: zc221 :: zc222 :: zc223 :: zc224 :: zc225 :: zc226 :: zc227 :: zc228 :: zc229 :: zc230 :: zc231 :: zc232 :: zc233 :: zc234 :: zc235 :: zc236 :: zc237 :: zc238 :: zc239 :: zc240 :: zc241 :: zc242 :: zc243 :: zc244 :: zc245 :: zc246 :: zc247 :: zc248 :: zc249 :: zc250 :: zc251 :: zc252 :: zc253 :: zc254 :: zc255 :: zc256 :: zc257 :: zc258 :: zc259 :: zc260 :: zc261 :: zc262 :: zc263 :: zc264 :: zc265 :: zc266 :: zc267 :: zc268 :: zc269 :: zc270 :: zc271 :: zc272 :: zc273 :: zc274 :: zc275 :: zc276 :: zc277 :: zc278 :: zc279 :: zc280 :: zc281 :: zc282 :: zc283 :: zc284 :: zc285 :: zc286 :: zc287 :: zc288 :: zc289 :: zc290 :: zc291 :: zc292 :: zc293 :: zc294 :: zc295 :: zc296 :: zc297 :: zc298 :: zc299 :: zc300 :: zc301 :: zc302 :: zc303 :: zc304 :: zc305 :: zc306 :: zc307 :: zc308 :: zc309 :: zc310 :: zc311 :: zc312 :: zc313 :: zc314 :: zc315 :: zc316 :: zc317 :: zc318 :: zc319 :: zc320 :: zc321 :: zc322 :: zc323 :: zc324 :: zc325 :: zc326 :: zc327 :: zc328 :: zc329 :: zc330 :: zc331 :: zc332 :: zc333 :: zc334 :: zc335 :: zc336 :: zc337 :: zc338 :: zc339 :: zc340 :: zc341 :: zc342 :: zc343 :: zc344 :: zc345 :: zc346 :: zc347 :: zc348 :: zc349 :: zc350 :: zc351 :: []), []⟩ W0 := by
  have KB : Hid (∀ W, Below W0.heap.size W0 W → Calls Tryz.prog 34 #[.pointer (some ⟨b7, 0, none⟩)] W fun e V => e = .returned (.tuple #[.agg #[.slice none 0 0, .slice none 0 0], .int .i64 i, .int .i64 1]) ∧ V.cell? ⟨b2, 0, none⟩ = some (.slice none 0 0) ∧ V.cell? ⟨b2, 1, none⟩ = some (.slice none 0 0) ∧ (∀ j, V.frozen? ⟨b2, j, none⟩ = false) ∧ b2 < V.heap.size ∧ Hid (BadS w b2 V) ∧ Hid (BadS w b2 ((V.setCell ⟨b2, 0, none⟩ (.slice none 0 0)).setCell ⟨b2, 1, none⟩ (.slice none 0 0)))) := rd_bad HL.out hb2
  have HA : Hid (O = if p.defs = [] then M.addFrag p w1 w2 w3 w4 else none) := by
    rw [Hid, HO.out, M.addWords, if_pos (show w0 = M.wFrag from word_eq c1)]
  obtain ⟨fk, HF⟩ : ∃ fk : Nat, Hid ((M.find M.sectT w1).getD 0 = fk) := ⟨_, rfl⟩
  obtain ⟨bA, HBA⟩ : ∃ bA : Bool, Hid ((M.num w2).isSome = bA) := ⟨_, rfl⟩
  have K1 : Hid (∀ W, Below W0.heap.size W0 W → Calls Tryz.prog 36 #[.string ⟨#[45, 32, 99, 111, 100, 101, 32, 102, 105, 120, 101, 100, 32, 116, 101, 120, 116, 32, 100, 97, 116, 97, 32, 122, 101, 114, 111]⟩, .string (M.str w1)] W fun e w' => e = .returned (.int .i64 (fk : Int)) ∧ Below W.heap.size W w') := fun W hW => by
    have := wordS_any w1 HNe.out.1 W (hBk.later hG (HL.out.rd.bel.trans (hW.mono HL.out.rd.bel.size)))
    rwa [HF.out] at this
  have K2 : Hid (∀ W, Below W0.heap.size W0 W → Calls Tryz.prog 37 #[.string (M.str w2)] W fun e w' => (∃ n : Int, e = .returned (.tuple #[.int .i64 n, .bool bA]) ∧ Hid (∀ v, M.num w2 = some v → n = v)) ∧ Below W.heap.size W w') := fun W hW => by
    have := whole_any (M.str w2) (by rw [str_size]; have := HLe.out; omega) W (hG.later (HL.out.rd.bel.trans (hW.mono HL.out.rd.bel.size)))
    rw [txt_str, HBA.out] at this
    exact this
  clear HO
  have HX0 : Hid (Below W0.heap.size W0 W0) := Below.refl _ _
  have z01 : W0.cell? ⟨gw, 1, none⟩ = some (.string (M.str w1)) := (cellB (HL.out.later HX0.out).cw 1).trans hw1
  have lw0 : gw < W0.heap.size := (Array.getElem?_eq_some_iff.1 (HL.out.later HX0.out).cw).1
  conv => arg 2; whnf
  go_upto_region 17 with (go_at_call 36; refine (K1.out _ (Below.refl _ _)).mono ?_; rintro e V1 ⟨rfl, hv1⟩)
  have HX1 : Hid (Below W0.heap.size W0 V1) := hv1
  have z12 : V1.cell? ⟨gw, 2, none⟩ = some (.string (M.str w2)) := (cellB (HL.out.later HX1.out).cw 2).trans hw2
  have lw1 : gw < V1.heap.size := (Array.getElem?_eq_some_iff.1 (HL.out.later HX1.out).cw).1
  clear z01 lw0 HX0 hv1
  go_upto_region 18 with (go_at_call 37; refine (K2.out _ HX1.out).mono ?_; rintro e V2 ⟨⟨n2, rfl, HV2⟩, hv2⟩)
  have HX2 : Hid (Below W0.heap.size W0 V2) := HX1.out.trans (hv2.mono HX1.out.size)
  have z23 : V2.cell? ⟨gw, 3, none⟩ = some (.string (M.str w3)) := (cellB (HL.out.later HX2.out).cw 3).trans hw3
  have lw2 : gw < V2.heap.size := (Array.getElem?_eq_some_iff.1 (HL.out.later HX2.out).cw).1
  obtain ⟨es, ds, vF, vD, hP, rfl⟩ := (HL.out.later HX2.out).rd.part
  obtain ⟨xD, yD, rfl⟩ := own_len hP.rowD
  have d1 : V2.cell? ⟨b5, 1, none⟩ = some (.slice xD ds.length yD) := cellB hP.blk 1
  have lb : b5 < V2.heap.size := (Array.getElem?_eq_some_iff.1 hP.blk).1
  clear z12 lw1 hv2 K1 K2 HX1 hP
  cases hk0 : ((fk : Int) == 0)
  · cases bA
    · have HN : Hid (O = none) := by
        rw [Hid, HA.out, addFrag_no' (.inr (by simpa using HBA.out))]; simp
      clear HA HL
      go_wp2_with (go_at_call 34; refine (KB.out _ (HX2.out)).mono ?_; rintro e VB ⟨rfl, kb0, kb1, kbz, kbl, HB1, HB2⟩)
      exact hret _ _ _ _ _ _ _ _ _ _ _ _ _ _ _ _ _ _ _ _ _ _ _ _ _ _ _ _ _ _ _ _ _ _ _ _ _ _ _ _ _ _ _ _ _ _ _ _ _ _ _ _ _ _ _ _ _ _ _ _ _ _ _ _ _ _ _ _ _ _ _ _ _ _ _ _ _ _ _ _ _ _ _ _ _ _ _ _ _ _ _ _ _ _ _ _ _ _ _ _ _ _ _ _ _ _ _ _ _ _ _ _ _ _ _ _ _ _ _ _ _ _ _ _ _ _ _ _ _ _ _ _ _ _ _ _ _ _ _ _ _ _ _ _ _ _ _ _ _ _ _ _ _ _ _ _ _ _ _ _ _ _ _ _ _ _ _ _ _ _ _ _ _ _ _ _ _ _ _ _ _ _ _ _ _ _ _ _ _ _ _ _ _ _ _ _ _ _ _ _ _ _ _ _ _ _ _ _ _ _ _ _ _ _ _ _ _ _ _ _ _ _ _ _ _ _ _ _ _ _ _ _ _ _ _ _ _ _ _ _ _ _ _ _ _ _ _ _ _ _ _ _ _ _ _ _ _ _ _ _ _ _ _ _ _ _ _ _ _ _ _ _ _ _ _ _ _ _ _ _ _ _ _ _ _ _ _ _ _ _ _ _ _ _ ⟨HN, by first | exact HB1.out | exact HB2.out⟩
    · by_cases hds : ds = []
      · have hd0 : ¬ ((0 : Int) < (ds.length : Int)) := by rw [hds]; simp
        have hd1 : decide ((0 : Int) < (ds.length : Int)) = false := decide_eq_false hd0
        have HA2 : Hid (O = if fk = 5 then (M.num w4).map fun n => ⟨es.map (·.f) ++ [⟨5, n2, M.groupOf w3, [], n, []⟩], ds⟩ else (M.bytesOf w4).map fun bs => ⟨es.map (·.f) ++ [⟨fk, n2, M.groupOf w3, bs, 0, []⟩], ds⟩) := by
          rw [Hid, HA.out, if_pos hds, M.addFrag]
          have hf := HF.out
          have hk : fk ≠ 0 := by simpa using hk0
          obtain ⟨v2, e2⟩ := Option.isSome_iff_exists.1 HBA.out
          cases hfd : M.find M.sectT w1 with
          | none => rw [hfd] at hf; exact absurd hf.symm hk
          | some k =>
            rw [hfd] at hf
            have hf : k = fk := hf
            rw [e2, HV2.out v2 e2, ← hf]
        clear HA HF HBA HV2 hds
        cases hd : ((M.str w3).toList == [45])
        · have hgs : (M.str w3).size ≤ maxLen := by rw [str_size]; unfold maxLen; have := HLe.out; omega
          rw [group_word hd] at HA2
          go_upto_region 23 with fail
          clear d1 lb hd0 hd1 hd
          have hA := (Below.refl V2.heap.size V2).alloc (Nat.le_refl _) (.cells #[.int .i64 fk, .int .i64 n2, .string (M.str w3), .slice none 0 0, .int .i64 0, .slice none 0 0] 50)
          have hq := heap_alloc_new V2 (.cells #[.int .i64 fk, .int .i64 n2, .string (M.str w3), .slice none 0 0, .int .i64 0, .slice none 0 0] 50)
          have HV : Hid (Below V2.heap.size V2 (V2.alloc (.cells #[.int .i64 fk, .int .i64 n2, .string (M.str w3), .slice none 0 0, .int .i64 0, .slice none 0 0] 50))) := hA
          have HX3 : Hid (Below W0.heap.size W0 (V2.alloc (.cells #[.int .i64 fk, .int .i64 n2, .string (M.str w3), .slice none 0 0, .int .i64 0, .slice none 0 0] 50))) := HX2.out.trans (hA.mono HX2.out.size)
          have z34 : (V2.alloc (.cells #[.int .i64 fk, .int .i64 n2, .string (M.str w3), .slice none 0 0, .int .i64 0, .slice none 0 0] 50)).cell? ⟨gw, 4, none⟩ = some (.string (M.str w4)) := (cellB (HL.out.later HX3.out).cw 4).trans hw4
          have lw3 : gw < (V2.alloc (.cells #[.int .i64 fk, .int .i64 n2, .string (M.str w3), .slice none 0 0, .int .i64 0, .slice none 0 0] 50)).heap.size := (Array.getElem?_eq_some_iff.1 (HL.out.later HX3.out).cw).1
          obtain ⟨bf, hbf⟩ : ∃ bf, bf = V2.heap.size := ⟨_, rfl⟩
          rw [← hbf] at hq
          have HBf : Hid (V2.heap.size ≤ bf) := by rw [Hid, hbf]; exact Nat.le_refl _
          rw [← hbf]
          clear hA hbf z23 lw2
          generalize V2.alloc (.cells #[.int .i64 fk, .int .i64 n2, .string (M.str w3), .slice none 0 0, .int .i64 0, .slice none 0 0] 50) = V3 at *
          have HGW : Hid (gw ≠ bf) := frag_ne (by decide) (HL.out.later HX3.out).cw hq
          generalize (M.str w3) = gr at hq hgs HA2
          cases h5 : ((fk : Int) == 5)
          · have HQ : Hid (O = (M.bytesOf w4).map fun bs => ⟨es.map (·.f) ++ [⟨fk, n2, gr, bs, 0, []⟩], ds⟩) := by
              have := HA2.out
              rw [if_neg (by intro h; rw [h] at h5; simp at h5)] at this
              exact this
            clear HA2
            cases hd4 : ((M.str w4).toList == [45])
            · have HQ1 : Hid (O = (M.pairs w4).map fun bs => ⟨es.map (·.f) ++ [⟨fk, n2, gr, bs, 0, []⟩], ds⟩) := by
                have := HQ.out
                rwa [M.bytesOf, if_neg (word_ne hd4)] at this
              clear HQ
              have hsz4 : (M.str w4).size = w4.length := str_size w4
              by_cases hev : w4.length % 2 = 0
              · have hm1 : ((w4.length : Int) % 2 != 0) = false := by simp; omega
                have hm2 : ((w4.length : Int).tmod 2 != 0) = false := by rw [Int.tmod_eq_emod_of_nonneg (by omega)]; exact hm1
                obtain ⟨S, hS⟩ : ∃ S : ByteArray, S = ⟨(Lib.trimS (M.str w4).data.toList M.digits).toArray⟩ := ⟨_, rfl⟩
                have hSE : S.toList.isEmpty = (w4.all fun c => M.digits.contains c) := by
                  rw [← trim_any, Lib.toList_data, hS]
                  simp [M.str]
                have K5 : Hid (Calls Tryz.prog 38 #[.string (M.str w4), .string ⟨#[48, 49, 50, 51, 52, 53, 54, 55, 56, 57, 97, 98, 99, 100, 101, 102]⟩] V3 fun e w' => e = .returned (.string S) ∧ Below V3.heap.size V3 w') := by
                  rw [hS]
                  exact trimHex_any (M.str w4) V3 (by rw [str_size]; unfold maxLen; have := HLe.out; omega)
                cases hall : (w4.all fun c => M.digits.contains c)
                · have HN : Hid (O = none) := by rw [Hid, HQ1.out, pairs_no (fun h => by rw [hall] at h; cases h.2)]; rfl
                  have hSF : S.toList.isEmpty = false := hSE.trans hall
                  clear HQ1 hS hSE hall
                  go_upto_region 30 with (go_at_call 38; refine K5.out.mono ?_; rintro e V4 ⟨rfl, hv4⟩)
                  have HX4 : Hid (Below W0.heap.size W0 V4) := HX3.out.trans (hv4.mono HX3.out.size)
                  clear HL z34 lw3 hq hv4 K5
                  go_wp2_with (go_at_call 34; refine (KB.out _ (HX4.out)).mono ?_; rintro e VB ⟨rfl, kb0, kb1, kbz, kbl, HB1, HB2⟩)
                  exact hret _ _ _ _ _ _ _ _ _ _ _ _ _ _ _ _ _ _ _ _ _ _ _ _ _ _ _ _ _ _ _ _ _ _ _ _ _ _ _ _ _ _ _ _ _ _ _ _ _ _ _ _ _ _ _ _ _ _ _ _ _ _ _ _ _ _ _ _ _ _ _ _ _ _ _ _ _ _ _ _ _ _ _ _ _ _ _ _ _ _ _ _ _ _ _ _ _ _ _ _ _ _ _ _ _ _ _ _ _ _ _ _ _ _ _ _ _ _ _ _ _ _ _ _ _ _ _ _ _ _ _ _ _ _ _ _ _ _ _ _ _ _ _ _ _ _ _ _ _ _ _ _ _ _ _ _ _ _ _ _ _ _ _ _ _ _ _ _ _ _ _ _ _ _ _ _ _ _ _ _ _ _ _ _ _ _ _ _ _ _ _ _ _ _ _ _ _ _ _ _ _ _ _ _ _ _ _ _ _ _ _ _ _ _ _ _ _ _ _ _ _ _ _ _ _ _ _ _ _ _ _ _ _ _ _ _ _ _ _ _ _ _ _ _ _ _ _ _ _ _ _ _ _ _ _ _ _ _ _ _ _ _ _ _ _ _ _ _ _ _ _ _ _ _ _ _ _ _ _ _ _ _ _ _ _ _ _ _ _ _ _ _ _ _ ⟨HN, by first | exact HB1.out | exact HB2.out⟩
                · have hSF : S.toList.isEmpty = true := hSE.trans hall
                  have HAll : Hid ((w4.all fun c => M.digits.contains c) = true) := hall
                  clear hS hSE hall
                  go_upto_region 31 with (go_at_call 38; refine K5.out.mono ?_; rintro e V4 ⟨rfl, hv4⟩)
                  have HX4 : Hid (Below W0.heap.size W0 V4) := HX3.out.trans (hv4.mono HX3.out.size)
                  have HBy : Hid (ByS V2 V2.heap.size gw bf ws fk n2 gr (.slice none 0 0) [] V4) := ⟨HV.out.trans (hv4.mono HV.out.size), (HL.out.later HX4.out).cw, (hv4.block _ (Array.getElem?_eq_some_iff.1 hq).1).trans hq, World.ownsRow_nil _ _ _ _, Nat.le_trans HV.out.size hv4.size⟩
                  have h4100 : w4.length ≤ 100000 := by have := HLe.out; omega
                  clear z34 lw3 hq hv4 K5 hSF hm1 hm2 hsz4 HX4 HX3 HV
                  go_wp2_with fail
                  refine rd_bytes V2 V4 V2.heap.size gw bf ws fk n2 gr w4 hw4 h4100 hev HAll.out (Nat.le_refl _) HBf.out HBy HGW.out ?_
                  intro y17 y18 y19 y161 y162 y163 y164 y165 y166 y167 y168 y169 y170 y171 y172 y173 y174 y175 y176 y177 y178 y179 y180 y181 y182 y183 y184 y185 y186 V6 hB6
                  obtain ⟨vB, bs, hpr, hB6⟩ := hB6
                  have HQ2 : Hid (O = some ⟨es.map (·.f) ++ [⟨fk, n2, gr, bs, 0, []⟩], ds⟩) := by rw [Hid, HQ1.out, hpr]; rfl
                  have HS6 : Hid (RdS w b2 b5 g6 ls ⟨es.map (·.f), ds⟩ i V6) := ((HL.out.later HX2.out).later hB6.bel).rd
                  have hcf := hB6.cf
                  have hby : V6.ownsRow w.heap.size 5 1 vB bs.length (bs.map (Value.int .u8)) := own_low hB6.row (Nat.le_trans HL.out.rd.bel.size HX2.out.size)
                  have hsm := (hex_pairs w4 bs hpr).2
                  clear HQ1 hpr hB6 HBy HAll KB HL hev h4100 HBf
                  go_upto_region 36 with fail
                  refine rd_r36 w V6 b2 b5 g6 bf i ls ⟨es.map (·.f), ds⟩ fk n2 0 gr vB bs HS6 hcf hby ⟨hsm, hgs⟩ hne hi ?_
                  intro x187 x188 x189 x190 x191 x192 X hX
                  have HXX : Hid _ := hX
                  clear hX hcf hby hsm HS6
                  go_wp2_with fail
                  first | exact ⟨_, HQ2, HXX.out⟩ | exact hnext _ _ _ _ _ _ _ _ _ _ _ _ _ _ _ _ _ _ _ _ _ _ _ _ _ _ _ _ _ _ _ _ _ _ _ _ _ _ _ _ _ _ _ _ _ _ _ _ _ _ _ _ _ _ _ _ _ _ _ _ _ _ _ _ _ _ _ _ _ _ _ _ _ _ _ _ _ _ _ _ _ _ _ _ _ _ _ _ _ _ _ _ _ _ _ _ _ _ _ _ _ _ _ _ _ _ _ _ _ _ _ _ _ _ _ _ _ _ _ _ _ _ _ _ _ _ _ _ _ _ _ _ _ _ _ _ _ _ _ _ _ _ _ _ _ _ _ _ _ _ _ _ _ _ _ _ _ _ _ _ _ _ _ _ _ _ _ _ _ _ _ _ _ _ _ _ _ _ _ _ _ _ _ _ _ _ _ _ _ _ _ _ _ _ _ _ _ _ _ _ _ _ _ _ _ _ _ _ _ _ _ _ _ _ _ _ _ _ _ _ _ _ _ _ _ _ _ _ _ _ _ _ _ _ _ _ _ _ _ _ _ _ _ _ _ _ _ _ _ _ _ _ _ _ _ _ _ _ _ _ _ _ _ _ _ _ _ _ _ _ _ _ _ _ _ _ _ _ _ _ _ _ _ _ _ _ _ _ _ _ _ _ _ _ ⟨_, HQ2, HXX.out⟩
              · have HN : Hid (O = none) := by rw [Hid, HQ1.out, pairs_no (fun h => hev h.1)]; rfl
                have hm1 : ((w4.length : Int) % 2 != 0) = true := by simp; omega
                have hm2 : ((w4.length : Int).tmod 2 != 0) = true := by rw [Int.tmod_eq_emod_of_nonneg (by omega)]; exact hm1
                clear HQ1 HL hev
                go_wp2_with (go_at_call 34; refine (KB.out _ (HX3.out)).mono ?_; rintro e VB ⟨rfl, kb0, kb1, kbz, kbl, HB1, HB2⟩)
                exact hret _ _ _ _ _ _ _ _ _ _ _ _ _ _ _ _ _ _ _ _ _ _ _ _ _ _ _ _ _ _ _ _ _ _ _ _ _ _ _ _ _ _ _ _ _ _ _ _ _ _ _ _ _ _ _ _ _ _ _ _ _ _ _ _ _ _ _ _ _ _ _ _ _ _ _ _ _ _ _ _ _ _ _ _ _ _ _ _ _ _ _ _ _ _ _ _ _ _ _ _ _ _ _ _ _ _ _ _ _ _ _ _ _ _ _ _ _ _ _ _ _ _ _ _ _ _ _ _ _ _ _ _ _ _ _ _ _ _ _ _ _ _ _ _ _ _ _ _ _ _ _ _ _ _ _ _ _ _ _ _ _ _ _ _ _ _ _ _ _ _ _ _ _ _ _ _ _ _ _ _ _ _ _ _ _ _ _ _ _ _ _ _ _ _ _ _ _ _ _ _ _ _ _ _ _ _ _ _ _ _ _ _ _ _ _ _ _ _ _ _ _ _ _ _ _ _ _ _ _ _ _ _ _ _ _ _ _ _ _ _ _ _ _ _ _ _ _ _ _ _ _ _ _ _ _ _ _ _ _ _ _ _ _ _ _ _ _ _ _ _ _ _ _ _ _ _ _ _ _ _ _ _ _ _ _ _ _ _ _ _ _ _ _ _ ⟨HN, by first | exact HB1.out | exact HB2.out⟩
            · have HQ1 : Hid (O = some ⟨es.map (·.f) ++ [⟨fk, n2, gr, [], 0, []⟩], ds⟩) := by
                have := HQ.out
                rwa [M.bytesOf, if_pos (word_eq hd4)] at this
              clear HQ
              go_upto_region 36 with fail
              have HS6 : Hid (RdS w b2 b5 g6 ls ⟨es.map (·.f), ds⟩ i V3) := (HL.out.later HX3.out).rd
              clear HL KB
              refine rd_r36 w V3 b2 b5 g6 bf i ls ⟨es.map (·.f), ds⟩ fk n2 0 gr (.slice none 0 0) [] HS6 hq (World.ownsRow_nil _ _ _ _) ⟨(fun b hb => by cases hb), hgs⟩ hne hi ?_
              intro x187 x188 x189 x190 x191 x192 X hX
              have HXX : Hid _ := hX
              clear hX hq HS6 z34 lw3
              go_wp2_with fail
              first | exact ⟨_, HQ1, HXX.out⟩ | exact hnext _ _ _ _ _ _ _ _ _ _ _ _ _ _ _ _ _ _ _ _ _ _ _ _ _ _ _ _ _ _ _ _ _ _ _ _ _ _ _ _ _ _ _ _ _ _ _ _ _ _ _ _ _ _ _ _ _ _ _ _ _ _ _ _ _ _ _ _ _ _ _ _ _ _ _ _ _ _ _ _ _ _ _ _ _ _ _ _ _ _ _ _ _ _ _ _ _ _ _ _ _ _ _ _ _ _ _ _ _ _ _ _ _ _ _ _ _ _ _ _ _ _ _ _ _ _ _ _ _ _ _ _ _ _ _ _ _ _ _ _ _ _ _ _ _ _ _ _ _ _ _ _ _ _ _ _ _ _ _ _ _ _ _ _ _ _ _ _ _ _ _ _ _ _ _ _ _ _ _ _ _ _ _ _ _ _ _ _ _ _ _ _ _ _ _ _ _ _ _ _ _ _ _ _ _ _ _ _ _ _ _ _ _ _ _ _ _ _ _ _ _ _ _ _ _ _ _ _ _ _ _ _ _ _ _ _ _ _ _ _ _ _ _ _ _ _ _ _ _ _ _ _ _ _ _ _ _ _ _ _ _ _ _ _ _ _ _ _ _ _ _ _ _ _ _ _ _ _ _ _ _ _ _ _ _ _ _ _ _ _ _ _ _ _ ⟨_, HQ1, HXX.out⟩
          · have HQ : Hid (O = (M.num w4).map fun n => ⟨es.map (·.f) ++ [⟨fk, n2, gr, [], n, []⟩], ds⟩) := by
              have e5 : fk = 5 := by
                have : (fk : Int) = 5 := by simpa using h5
                omega
              have := HA2.out
              rw [if_pos e5] at this
              rw [Hid, this, e5]; rfl
            clear HA2
            obtain ⟨bD, HBD⟩ : ∃ bD : Bool, Hid ((M.num w4).isSome = bD) := ⟨_, rfl⟩
            have K4 : Hid (∀ W, Below W0.heap.size W0 W → Calls Tryz.prog 37 #[.string (M.str w4)] W fun e w' => (∃ n : Int, e = .returned (.tuple #[.int .i64 n, .bool bD]) ∧ Hid (∀ v, M.num w4 = some v → n = v)) ∧ Below W.heap.size W w') := fun W hW => by
              have := whole_any (M.str w4) (by rw [str_size]; have := HLe.out; omega) W (hG.later (HL.out.rd.bel.trans (hW.mono HL.out.rd.bel.size)))
              rw [txt_str, HBD.out] at this
              exact this
            go_upto_region 25 with (go_at_call 37; refine (K4.out _ HX3.out).mono ?_; rintro e V4 ⟨⟨n4, rfl, HV4⟩, hv4⟩)
            have HX4 : Hid (Below W0.heap.size W0 V4) := HX3.out.trans (hv4.mono HX3.out.size)
            have hq4 := (hv4.block _ (Array.getElem?_eq_some_iff.1 hq).1).trans hq
            have f4 : V4.cell? ⟨bf, 4, none⟩ = some (.int .i64 0) := cellB hq4 4
            have fz : ∀ j, V4.frozen? ⟨bf, j, none⟩ = false := frozenB hq4
            have lf : bf < V4.heap.size := (Array.getElem?_eq_some_iff.1 hq4).1
            clear hq hv4 K4 z34 lw3
            cases bD
            · have HN : Hid (O = none) := by
                have := HBD.out
                rw [Hid, HQ.out, (show M.num w4 = none by simpa using this)]; rfl
              clear HQ HL
              go_wp2_with (go_at_call 34; refine (KB.out _ (HX4.out)).mono ?_; rintro e VB ⟨rfl, kb0, kb1, kbz, kbl, HB1, HB2⟩)
              exact hret _ _ _ _ _ _ _ _ _ _ _ _ _ _ _ _ _ _ _ _ _ _ _ _ _ _ _ _ _ _ _ _ _ _ _ _ _ _ _ _ _ _ _ _ _ _ _ _ _ _ _ _ _ _ _ _ _ _ _ _ _ _ _ _ _ _ _ _ _ _ _ _ _ _ _ _ _ _ _ _ _ _ _ _ _ _ _ _ _ _ _ _ _ _ _ _ _ _ _ _ _ _ _ _ _ _ _ _ _ _ _ _ _ _ _ _ _ _ _ _ _ _ _ _ _ _ _ _ _ _ _ _ _ _ _ _ _ _ _ _ _ _ _ _ _ _ _ _ _ _ _ _ _ _ _ _ _ _ _ _ _ _ _ _ _ _ _ _ _ _ _ _ _ _ _ _ _ _ _ _ _ _ _ _ _ _ _ _ _ _ _ _ _ _ _ _ _ _ _ _ _ _ _ _ _ _ _ _ _ _ _ _ _ _ _ _ _ _ _ _ _ _ _ _ _ _ _ _ _ _ _ _ _ _ _ _ _ _ _ _ _ _ _ _ _ _ _ _ _ _ _ _ _ _ _ _ _ _ _ _ _ _ _ _ _ _ _ _ _ _ _ _ _ _ _ _ _ _ _ _ _ _ _ _ _ _ _ _ _ _ _ _ _ _ ⟨HN, by first | exact HB1.out | exact HB2.out⟩
            · have HQ1 : Hid (O = some ⟨es.map (·.f) ++ [⟨fk, n2, gr, [], n4, []⟩], ds⟩) := by
                obtain ⟨v4, e4⟩ := Option.isSome_iff_exists.1 HBD.out
                rw [Hid, HQ.out, e4, HV4.out v4 e4]; rfl
              clear HQ HV4 HBD KB
              go_upto_region 36 with fail
              have hq5 : (V4.setCell ⟨bf, 4, none⟩ (.int .i64 n4)).heap[bf]? = some (.cells #[.int .i64 fk, .int .i64 n2, .string gr, .slice none 0 0, .int .i64 n4, .slice none 0 0] 50 (0, 0)) := setB' hq4 _
              have HS6 : Hid (RdS w b2 b5 g6 ls ⟨es.map (·.f), ds⟩ i (V4.setCell ⟨bf, 4, none⟩ (.int .i64 n4))) := (HL.out.later (HX4.out.setCell (p := ⟨bf, 4, none⟩) (Nat.le_trans HX2.out.size HBf.out) _)).rd
              clear HL hq4 f4
              refine rd_r36 w _ b2 b5 g6 bf i ls ⟨es.map (·.f), ds⟩ fk n2 n4 gr (.slice none 0 0) [] HS6 hq5 (World.ownsRow_nil _ _ _ _) ⟨(fun b hb => by cases hb), hgs⟩ hne hi ?_
              intro x187 x188 x189 x190 x191 x192 X hX
              have HXX : Hid _ := hX
              clear hX hq5 HS6 fz lf
              go_wp2_with fail
              first | exact ⟨_, HQ1, HXX.out⟩ | exact hnext _ _ _ _ _ _ _ _ _ _ _ _ _ _ _ _ _ _ _ _ _ _ _ _ _ _ _ _ _ _ _ _ _ _ _ _ _ _ _ _ _ _ _ _ _ _ _ _ _ _ _ _ _ _ _ _ _ _ _ _ _ _ _ _ _ _ _ _ _ _ _ _ _ _ _ _ _ _ _ _ _ _ _ _ _ _ _ _ _ _ _ _ _ _ _ _ _ _ _ _ _ _ _ _ _ _ _ _ _ _ _ _ _ _ _ _ _ _ _ _ _ _ _ _ _ _ _ _ _ _ _ _ _ _ _ _ _ _ _ _ _ _ _ _ _ _ _ _ _ _ _ _ _ _ _ _ _ _ _ _ _ _ _ _ _ _ _ _ _ _ _ _ _ _ _ _ _ _ _ _ _ _ _ _ _ _ _ _ _ _ _ _ _ _ _ _ _ _ _ _ _ _ _ _ _ _ _ _ _ _ _ _ _ _ _ _ _ _ _ _ _ _ _ _ _ _ _ _ _ _ _ _ _ _ _ _ _ _ _ _ _ _ _ _ _ _ _ _ _ _ _ _ _ _ _ _ _ _ _ _ _ _ _ _ _ _ _ _ _ _ _ _ _ _ _ _ _ _ _ _ _ _ _ _ _ _ _ _ _ _ _ _ _ _ ⟨_, HQ1, HXX.out⟩
        · have hgs : (⟨#[]⟩ : ByteArray).size ≤ maxLen := by unfold maxLen; decide
          rw [group_dash hd] at HA2
          go_upto_region 23 with fail
          clear d1 lb hd0 hd1 hd
          have hA := (Below.refl V2.heap.size V2).alloc (Nat.le_refl _) (.cells #[.int .i64 fk, .int .i64 n2, .string (⟨#[]⟩ : ByteArray), .slice none 0 0, .int .i64 0, .slice none 0 0] 50)
          have hq := heap_alloc_new V2 (.cells #[.int .i64 fk, .int .i64 n2, .string (⟨#[]⟩ : ByteArray), .slice none 0 0, .int .i64 0, .slice none 0 0] 50)
          have HV : Hid (Below V2.heap.size V2 (V2.alloc (.cells #[.int .i64 fk, .int .i64 n2, .string (⟨#[]⟩ : ByteArray), .slice none 0 0, .int .i64 0, .slice none 0 0] 50))) := hA
          have HX3 : Hid (Below W0.heap.size W0 (V2.alloc (.cells #[.int .i64 fk, .int .i64 n2, .string (⟨#[]⟩ : ByteArray), .slice none 0 0, .int .i64 0, .slice none 0 0] 50))) := HX2.out.trans (hA.mono HX2.out.size)
          have z34 : (V2.alloc (.cells #[.int .i64 fk, .int .i64 n2, .string (⟨#[]⟩ : ByteArray), .slice none 0 0, .int .i64 0, .slice none 0 0] 50)).cell? ⟨gw, 4, none⟩ = some (.string (M.str w4)) := (cellB (HL.out.later HX3.out).cw 4).trans hw4
          have lw3 : gw < (V2.alloc (.cells #[.int .i64 fk, .int .i64 n2, .string (⟨#[]⟩ : ByteArray), .slice none 0 0, .int .i64 0, .slice none 0 0] 50)).heap.size := (Array.getElem?_eq_some_iff.1 (HL.out.later HX3.out).cw).1
          obtain ⟨bf, hbf⟩ : ∃ bf, bf = V2.heap.size := ⟨_, rfl⟩
          rw [← hbf] at hq
          have HBf : Hid (V2.heap.size ≤ bf) := by rw [Hid, hbf]; exact Nat.le_refl _
          rw [← hbf]
          clear hA hbf z23 lw2
          generalize V2.alloc (.cells #[.int .i64 fk, .int .i64 n2, .string (⟨#[]⟩ : ByteArray), .slice none 0 0, .int .i64 0, .slice none 0 0] 50) = V3 at *
          have HGW : Hid (gw ≠ bf) := frag_ne (by decide) (HL.out.later HX3.out).cw hq
          generalize (⟨#[]⟩ : ByteArray) = gr at hq hgs HA2
          cases h5 : ((fk : Int) == 5)
          · have HQ : Hid (O = (M.bytesOf w4).map fun bs => ⟨es.map (·.f) ++ [⟨fk, n2, gr, bs, 0, []⟩], ds⟩) := by
              have := HA2.out
              rw [if_neg (by intro h; rw [h] at h5; simp at h5)] at this
              exact this
            clear HA2
            cases hd4 : ((M.str w4).toList == [45])
            · have HQ1 : Hid (O = (M.pairs w4).map fun bs => ⟨es.map (·.f) ++ [⟨fk, n2, gr, bs, 0, []⟩], ds⟩) := by
                have := HQ.out
                rwa [M.bytesOf, if_neg (word_ne hd4)] at this
              clear HQ
              have hsz4 : (M.str w4).size = w4.length := str_size w4
              by_cases hev : w4.length % 2 = 0
              · have hm1 : ((w4.length : Int) % 2 != 0) = false := by simp; omega
                have hm2 : ((w4.length : Int).tmod 2 != 0) = false := by rw [Int.tmod_eq_emod_of_nonneg (by omega)]; exact hm1
                obtain ⟨S, hS⟩ : ∃ S : ByteArray, S = ⟨(Lib.trimS (M.str w4).data.toList M.digits).toArray⟩ := ⟨_, rfl⟩
                have hSE : S.toList.isEmpty = (w4.all fun c => M.digits.contains c) := by
                  rw [← trim_any, Lib.toList_data, hS]
                  simp [M.str]
                have K5 : Hid (Calls Tryz.prog 38 #[.string (M.str w4), .string ⟨#[48, 49, 50, 51, 52, 53, 54, 55, 56, 57, 97, 98, 99, 100, 101, 102]⟩] V3 fun e w' => e = .returned (.string S) ∧ Below V3.heap.size V3 w') := by
                  rw [hS]
                  exact trimHex_any (M.str w4) V3 (by rw [str_size]; unfold maxLen; have := HLe.out; omega)
                cases hall : (w4.all fun c => M.digits.contains c)
                · have HN : Hid (O = none) := by rw [Hid, HQ1.out, pairs_no (fun h => by rw [hall] at h; cases h.2)]; rfl
                  have hSF : S.toList.isEmpty = false := hSE.trans hall
                  clear HQ1 hS hSE hall
                  go_upto_region 30 with (go_at_call 38; refine K5.out.mono ?_; rintro e V4 ⟨rfl, hv4⟩)
                  have HX4 : Hid (Below W0.heap.size W0 V4) := HX3.out.trans (hv4.mono HX3.out.size)
                  clear HL z34 lw3 hq hv4 K5
                  go_wp2_with (go_at_call 34; refine (KB.out _ (HX4.out)).mono ?_; rintro e VB ⟨rfl, kb0, kb1, kbz, kbl, HB1, HB2⟩)
                  exact hret _ _ _ _ _ _ _ _ _ _ _ _ _ _ _ _ _ _ _ _ _ _ _ _ _ _ _ _ _ _ _ _ _ _ _ _ _ _ _ _ _ _ _ _ _ _ _ _ _ _ _ _ _ _ _ _ _ _ _ _ _ _ _ _ _ _ _ _ _ _ _ _ _ _ _ _ _ _ _ _ _ _ _ _ _ _ _ _ _ _ _ _ _ _ _ _ _ _ _ _ _ _ _ _ _ _ _ _ _ _ _ _ _ _ _ _ _ _ _ _ _ _ _ _ _ _ _ _ _ _ _ _ _ _ _ _ _ _ _ _ _ _ _ _ _ _ _ _ _ _ _ _ _ _ _ _ _ _ _ _ _ _ _ _ _ _ _ _ _ _ _ _ _ _ _ _ _ _ _ _ _ _ _ _ _ _ _ _ _ _ _ _ _ _ _ _ _ _ _ _ _ _ _ _ _ _ _ _ _ _ _ _ _ _ _ _ _ _ _ _ _ _ _ _ _ _ _ _ _ _ _ _ _ _ _ _ _ _ _ _ _ _ _ _ _ _ _ _ _ _ _ _ _ _ _ _ _ _ _ _ _ _ _ _ _ _ _ _ _ _ _ _ _ _ _ _ _ _ _ _ _ _ _ _ _ _ _ _ _ _ _ _ _ _ ⟨HN, by first | exact HB1.out | exact HB2.out⟩
                · have hSF : S.toList.isEmpty = true := hSE.trans hall
                  have HAll : Hid ((w4.all fun c => M.digits.contains c) = true) := hall
                  clear hS hSE hall
                  go_upto_region 31 with (go_at_call 38; refine K5.out.mono ?_; rintro e V4 ⟨rfl, hv4⟩)
                  have HX4 : Hid (Below W0.heap.size W0 V4) := HX3.out.trans (hv4.mono HX3.out.size)
                  have HBy : Hid (ByS V2 V2.heap.size gw bf ws fk n2 gr (.slice none 0 0) [] V4) := ⟨HV.out.trans (hv4.mono HV.out.size), (HL.out.later HX4.out).cw, (hv4.block _ (Array.getElem?_eq_some_iff.1 hq).1).trans hq, World.ownsRow_nil _ _ _ _, Nat.le_trans HV.out.size hv4.size⟩
                  have h4100 : w4.length ≤ 100000 := by have := HLe.out; omega
                  clear z34 lw3 hq hv4 K5 hSF hm1 hm2 hsz4 HX4 HX3 HV
                  go_wp2_with fail
                  refine rd_bytes V2 V4 V2.heap.size gw bf ws fk n2 gr w4 hw4 h4100 hev HAll.out (Nat.le_refl _) HBf.out HBy HGW.out ?_
                  intro y17 y18 y19 y161 y162 y163 y164 y165 y166 y167 y168 y169 y170 y171 y172 y173 y174 y175 y176 y177 y178 y179 y180 y181 y182 y183 y184 y185 y186 V6 hB6
                  obtain ⟨vB, bs, hpr, hB6⟩ := hB6
                  have HQ2 : Hid (O = some ⟨es.map (·.f) ++ [⟨fk, n2, gr, bs, 0, []⟩], ds⟩) := by rw [Hid, HQ1.out, hpr]; rfl
                  have HS6 : Hid (RdS w b2 b5 g6 ls ⟨es.map (·.f), ds⟩ i V6) := ((HL.out.later HX2.out).later hB6.bel).rd
                  have hcf := hB6.cf
                  have hby : V6.ownsRow w.heap.size 5 1 vB bs.length (bs.map (Value.int .u8)) := own_low hB6.row (Nat.le_trans HL.out.rd.bel.size HX2.out.size)
                  have hsm := (hex_pairs w4 bs hpr).2
                  clear HQ1 hpr hB6 HBy HAll KB HL hev h4100 HBf
                  go_upto_region 36 with fail
                  refine rd_r36 w V6 b2 b5 g6 bf i ls ⟨es.map (·.f), ds⟩ fk n2 0 gr vB bs HS6 hcf hby ⟨hsm, hgs⟩ hne hi ?_
                  intro x187 x188 x189 x190 x191 x192 X hX
                  have HXX : Hid _ := hX
                  clear hX hcf hby hsm HS6
                  go_wp2_with fail
                  first | exact ⟨_, HQ2, HXX.out⟩ | exact hnext _ _ _ _ _ _ _ _ _ _ _ _ _ _ _ _ _ _ _ _ _ _ _ _ _ _ _ _ _ _ _ _ _ _ _ _ _ _ _ _ _ _ _ _ _ _ _ _ _ _ _ _ _ _ _ _ _ _ _ _ _ _ _ _ _ _ _ _ _ _ _ _ _ _ _ _ _ _ _ _ _ _ _ _ _ _ _ _ _ _ _ _ _ _ _ _ _ _ _ _ _ _ _ _ _ _ _ _ _ _ _ _ _ _ _ _ _ _ _ _ _ _ _ _ _ _ _ _ _ _ _ _ _ _ _ _ _ _ _ _ _ _ _ _ _ _ _ _ _ _ _ _ _ _ _ _ _ _ _ _ _ _ _ _ _ _ _ _ _ _ _ _ _ _ _ _ _ _ _ _ _ _ _ _ _ _ _ _ _ _ _ _ _ _ _ _ _ _ _ _ _ _ _ _ _ _ _ _ _ _ _ _ _ _ _ _ _ _ _ _ _ _ _ _ _ _ _ _ _ _ _ _ _ _ _ _ _ _ _ _ _ _ _ _ _ _ _ _ _ _ _ _ _ _ _ _ _ _ _ _ _ _ _ _ _ _ _ _ _ _ _ _ _ _ _ _ _ _ _ _ _ _ _ _ _ _ _ _ _ _ _ _ _ _ ⟨_, HQ2, HXX.out⟩
              · have HN : Hid (O = none) := by rw [Hid, HQ1.out, pairs_no (fun h => hev h.1)]; rfl
                have hm1 : ((w4.length : Int) % 2 != 0) = true := by simp; omega
                have hm2 : ((w4.length : Int).tmod 2 != 0) = true := by rw [Int.tmod_eq_emod_of_nonneg (by omega)]; exact hm1
                clear HQ1 HL hev
                go_wp2_with (go_at_call 34; refine (KB.out _ (HX3.out)).mono ?_; rintro e VB ⟨rfl, kb0, kb1, kbz, kbl, HB1, HB2⟩)
                exact hret _ _ _ _ _ _ _ _ _ _ _ _ _ _ _ _ _ _ _ _ _ _ _ _ _ _ _ _ _ _ _ _ _ _ _ _ _ _ _ _ _ _ _ _ _ _ _ _ _ _ _ _ _ _ _ _ _ _ _ _ _ _ _ _ _ _ _ _ _ _ _ _ _ _ _ _ _ _ _ _ _ _ _ _ _ _ _ _ _ _ _ _ _ _ _ _ _ _ _ _ _ _ _ _ _ _ _ _ _ _ _ _ _ _ _ _ _ _ _ _ _ _ _ _ _ _ _ _ _ _ _ _ _ _ _ _ _ _ _ _ _ _ _ _ _ _ _ _ _ _ _ _ _ _ _ _ _ _ _ _ _ _ _ _ _ _ _ _ _ _ _ _ _ _ _ _ _ _ _ _ _ _ _ _ _ _ _ _ _ _ _ _ _ _ _ _ _ _ _ _ _ _ _ _ _ _ _ _ _ _ _ _ _ _ _ _ _ _ _ _ _ _ _ _ _ _ _ _ _ _ _ _ _ _ _ _ _ _ _ _ _ _ _ _ _ _ _ _ _ _ _ _ _ _ _ _ _ _ _ _ _ _ _ _ _ _ _ _ _ _ _ _ _ _ _ _ _ _ _ _ _ _ _ _ _ _ _ _ _ _ _ _ _ _ ⟨HN, by first | exact HB1.out | exact HB2.out⟩
            · have HQ1 : Hid (O = some ⟨es.map (·.f) ++ [⟨fk, n2, gr, [], 0, []⟩], ds⟩) := by
                have := HQ.out
                rwa [M.bytesOf, if_pos (word_eq hd4)] at this
              clear HQ
              go_upto_region 36 with fail
              have HS6 : Hid (RdS w b2 b5 g6 ls ⟨es.map (·.f), ds⟩ i V3) := (HL.out.later HX3.out).rd
              clear HL KB
              refine rd_r36 w V3 b2 b5 g6 bf i ls ⟨es.map (·.f), ds⟩ fk n2 0 gr (.slice none 0 0) [] HS6 hq (World.ownsRow_nil _ _ _ _) ⟨(fun b hb => by cases hb), hgs⟩ hne hi ?_
              intro x187 x188 x189 x190 x191 x192 X hX
              have HXX : Hid _ := hX
              clear hX hq HS6 z34 lw3
              go_wp2_with fail
              first | exact ⟨_, HQ1, HXX.out⟩ | exact hnext _ _ _ _ _ _ _ _ _ _ _ _ _ _ _ _ _ _ _ _ _ _ _ _ _ _ _ _ _ _ _ _ _ _ _ _ _ _ _ _ _ _ _ _ _ _ _ _ _ _ _ _ _ _ _ _ _ _ _ _ _ _ _ _ _ _ _ _ _ _ _ _ _ _ _ _ _ _ _ _ _ _ _ _ _ _ _ _ _ _ _ _ _ _ _ _ _ _ _ _ _ _ _ _ _ _ _ _ _ _ _ _ _ _ _ _ _ _ _ _ _ _ _ _ _ _ _ _ _ _ _ _ _ _ _ _ _ _ _ _ _ _ _ _ _ _ _ _ _ _ _ _ _ _ _ _ _ _ _ _ _ _ _ _ _ _ _ _ _ _ _ _ _ _ _ _ _ _ _ _ _ _ _ _ _ _ _ _ _ _ _ _ _ _ _ _ _ _ _ _ _ _ _ _ _ _ _ _ _ _ _ _ _ _ _ _ _ _ _ _ _ _ _ _ _ _ _ _ _ _ _ _ _ _ _ _ _ _ _ _ _ _ _ _ _ _ _ _ _ _ _ _ _ _ _ _ _ _ _ _ _ _ _ _ _ _ _ _ _ _ _ _ _ _ _ _ _ _ _ _ _ _ _ _ _ _ _ _ _ _ _ _ _ _ ⟨_, HQ1, HXX.out⟩
          · have HQ : Hid (O = (M.num w4).map fun n => ⟨es.map (·.f) ++ [⟨fk, n2, gr, [], n, []⟩], ds⟩) := by
              have e5 : fk = 5 := by
                have : (fk : Int) = 5 := by simpa using h5
                omega
              have := HA2.out
              rw [if_pos e5] at this
              rw [Hid, this, e5]; rfl
            clear HA2
            obtain ⟨bD, HBD⟩ : ∃ bD : Bool, Hid ((M.num w4).isSome = bD) := ⟨_, rfl⟩
            have K4 : Hid (∀ W, Below W0.heap.size W0 W → Calls Tryz.prog 37 #[.string (M.str w4)] W fun e w' => (∃ n : Int, e = .returned (.tuple #[.int .i64 n, .bool bD]) ∧ Hid (∀ v, M.num w4 = some v → n = v)) ∧ Below W.heap.size W w') := fun W hW => by
              have := whole_any (M.str w4) (by rw [str_size]; have := HLe.out; omega) W (hG.later (HL.out.rd.bel.trans (hW.mono HL.out.rd.bel.size)))
              rw [txt_str, HBD.out] at this
              exact this
            go_upto_region 25 with (go_at_call 37; refine (K4.out _ HX3.out).mono ?_; rintro e V4 ⟨⟨n4, rfl, HV4⟩, hv4⟩)
            have HX4 : Hid (Below W0.heap.size W0 V4) := HX3.out.trans (hv4.mono HX3.out.size)
            have hq4 := (hv4.block _ (Array.getElem?_eq_some_iff.1 hq).1).trans hq
            have f4 : V4.cell? ⟨bf, 4, none⟩ = some (.int .i64 0) := cellB hq4 4
            have fz : ∀ j, V4.frozen? ⟨bf, j, none⟩ = false := frozenB hq4
            have lf : bf < V4.heap.size := (Array.getElem?_eq_some_iff.1 hq4).1
            clear hq hv4 K4 z34 lw3
            cases bD
            · have HN : Hid (O = none) := by
                have := HBD.out
                rw [Hid, HQ.out, (show M.num w4 = none by simpa using this)]; rfl
              clear HQ HL
              go_wp2_with (go_at_call 34; refine (KB.out _ (HX4.out)).mono ?_; rintro e VB ⟨rfl, kb0, kb1, kbz, kbl, HB1, HB2⟩)
              exact hret _ _ _ _ _ _ _ _ _ _ _ _ _ _ _ _ _ _ _ _ _ _ _ _ _ _ _ _ _ _ _ _ _ _ _ _ _ _ _ _ _ _ _ _ _ _ _ _ _ _ _ _ _ _ _ _ _ _ _ _ _ _ _ _ _ _ _ _ _ _ _ _ _ _ _ _ _ _ _ _ _ _ _ _ _ _ _ _ _ _ _ _ _ _ _ _ _ _ _ _ _ _ _ _ _ _ _ _ _ _ _ _ _ _ _ _ _ _ _ _ _ _ _ _ _ _ _ _ _ _ _ _ _ _ _ _ _ _ _ _ _ _ _ _ _ _ _ _ _ _ _ _ _ _ _ _ _ _ _ _ _ _ _ _ _ _ _ _ _ _ _ _ _ _ _ _ _ _ _ _ _ _ _ _ _ _ _ _ _ _ _ _ _ _ _ _ _ _ _ _ _ _ _ _ _ _ _ _ _ _ _ _ _ _ _ _ _ _ _ _ _ _ _ _ _ _ _ _ _ _ _ _ _ _ _ _ _ _ _ _ _ _ _ _ _ _ _ _ _ _ _ _ _ _ _ _ _ _ _ _ _ _ _ _ _ _ _ _ _ _ _ _ _ _ _ _ _ _ _ _ _ _ _ _ _ _ _ _ _ _ _ _ _ _ ⟨HN, by first | exact HB1.out | exact HB2.out⟩
            · have HQ1 : Hid (O = some ⟨es.map (·.f) ++ [⟨fk, n2, gr, [], n4, []⟩], ds⟩) := by
                obtain ⟨v4, e4⟩ := Option.isSome_iff_exists.1 HBD.out
                rw [Hid, HQ.out, e4, HV4.out v4 e4]; rfl
              clear HQ HV4 HBD KB
              go_upto_region 36 with fail
              have hq5 : (V4.setCell ⟨bf, 4, none⟩ (.int .i64 n4)).heap[bf]? = some (.cells #[.int .i64 fk, .int .i64 n2, .string gr, .slice none 0 0, .int .i64 n4, .slice none 0 0] 50 (0, 0)) := setB' hq4 _
              have HS6 : Hid (RdS w b2 b5 g6 ls ⟨es.map (·.f), ds⟩ i (V4.setCell ⟨bf, 4, none⟩ (.int .i64 n4))) := (HL.out.later (HX4.out.setCell (p := ⟨bf, 4, none⟩) (Nat.le_trans HX2.out.size HBf.out) _)).rd
              clear HL hq4 f4
              refine rd_r36 w _ b2 b5 g6 bf i ls ⟨es.map (·.f), ds⟩ fk n2 n4 gr (.slice none 0 0) [] HS6 hq5 (World.ownsRow_nil _ _ _ _) ⟨(fun b hb => by cases hb), hgs⟩ hne hi ?_
              intro x187 x188 x189 x190 x191 x192 X hX
              have HXX : Hid _ := hX
              clear hX hq5 HS6 fz lf
              go_wp2_with fail
              first | exact ⟨_, HQ1, HXX.out⟩ | exact hnext _ _ _ _ _ _ _ _ _ _ _ _ _ _ _ _ _ _ _ _ _ _ _ _ _ _ _ _ _ _ _ _ _ _ _ _ _ _ _ _ _ _ _ _ _ _ _ _ _ _ _ _ _ _ _ _ _ _ _ _ _ _ _ _ _ _ _ _ _ _ _ _ _ _ _ _ _ _ _ _ _ _ _ _ _ _ _ _ _ _ _ _ _ _ _ _ _ _ _ _ _ _ _ _ _ _ _ _ _ _ _ _ _ _ _ _ _ _ _ _ _ _ _ _ _ _ _ _ _ _ _ _ _ _ _ _ _ _ _ _ _ _ _ _ _ _ _ _ _ _ _ _ _ _ _ _ _ _ _ _ _ _ _ _ _ _ _ _ _ _ _ _ _ _ _ _ _ _ _ _ _ _ _ _ _ _ _ _ _ _ _ _ _ _ _ _ _ _ _ _ _ _ _ _ _ _ _ _ _ _ _ _ _ _ _ _ _ _ _ _ _ _ _ _ _ _ _ _ _ _ _ _ _ _ _ _ _ _ _ _ _ _ _ _ _ _ _ _ _ _ _ _ _ _ _ _ _ _ _ _ _ _ _ _ _ _ _ _ _ _ _ _ _ _ _ _ _ _ _ _ _ _ _ _ _ _ _ _ _ _ _ _ _ _ ⟨_, HQ1, HXX.out⟩
      · have hd0 : (0 : Int) < (ds.length : Int) := by
          have : ds.length ≠ 0 := fun h => hds (List.length_eq_zero_iff.1 h)
          omega
        have hd1 : decide ((0 : Int) < (ds.length : Int)) = true := decide_eq_true hd0
        have HN : Hid (O = none) := by rw [Hid, HA.out, if_neg hds]
        clear HA HL hds
        go_wp2_with (go_at_call 34; refine (KB.out _ (HX2.out)).mono ?_; rintro e VB ⟨rfl, kb0, kb1, kbz, kbl, HB1, HB2⟩)
        exact hret _ _ _ _ _ _ _ _ _ _ _ _ _ _ _ _ _ _ _ _ _ _ _ _ _ _ _ _ _ _ _ _ _ _ _ _ _ _ _ _ _ _ _ _ _ _ _ _ _ _ _ _ _ _ _ _ _ _ _ _ _ _ _ _ _ _ _ _ _ _ _ _ _ _ _ _ _ _ _ _ _ _ _ _ _ _ _ _ _ _ _ _ _ _ _ _ _ _ _ _ _ _ _ _ _ _ _ _ _ _ _ _ _ _ _ _ _ _ _ _ _ _ _ _ _ _ _ _ _ _ _ _ _ _ _ _ _ _ _ _ _ _ _ _ _ _ _ _ _ _ _ _ _ _ _ _ _ _ _ _ _ _ _ _ _ _ _ _ _ _ _ _ _ _ _ _ _ _ _ _ _ _ _ _ _ _ _ _ _ _ _ _ _ _ _ _ _ _ _ _ _ _ _ _ _ _ _ _ _ _ _ _ _ _ _ _ _ _ _ _ _ _ _ _ _ _ _ _ _ _ _ _ _ _ _ _ _ _ _ _ _ _ _ _ _ _ _ _ _ _ _ _ _ _ _ _ _ _ _ _ _ _ _ _ _ _ _ _ _ _ _ _ _ _ _ _ _ _ _ _ _ _ _ _ _ _ _ _ _ _ _ _ _ _ ⟨HN, by first | exact HB1.out | exact HB2.out⟩
  · have HN : Hid (O = none) := by
      have h0 : fk = 0 := by
        have : (fk : Int) = 0 := by simpa using hk0
        omega
      rw [Hid, HA.out, addFrag_no' (.inl ((find_zero HNe.out.1).1 (HF.out.trans h0)))]; simp
    clear HA HL
    go_wp2_with (go_at_call 34; refine (KB.out _ (HX2.out)).mono ?_; rintro e VB ⟨rfl, kb0, kb1, kbz, kbl, HB1, HB2⟩)
    exact hret _ _ _ _ _ _ _ _ _ _ _ _ _ _ _ _ _ _ _ _ _ _ _ _ _ _ _ _ _ _ _ _ _ _ _ _ _ _ _ _ _ _ _ _ _ _ _ _ _ _ _ _ _ _ _ _ _ _ _ _ _ _ _ _ _ _ _ _ _ _ _ _ _ _ _ _ _ _ _ _ _ _ _ _ _ _ _ _ _ _ _ _ _ _ _ _ _ _ _ _ _ _ _ _ _ _ _ _ _ _ _ _ _ _ _ _ _ _ _ _ _ _ _ _ _ _ _ _ _ _ _ _ _ _ _ _ _ _ _ _ _ _ _ _ _ _ _ _ _ _ _ _ _ _ _ _ _ _ _ _ _ _ _ _ _ _ _ _ _ _ _ _ _ _ _ _ _ _ _ _ _ _ _ _ _ _ _ _ _ _ _ _ _ _ _ _ _ _ _ _ _ _ _ _ _ _ _ _ _ _ _ _ _ _ _ _ _ _ _ _ _ _ _ _ _ _ _ _ _ _ _ _ _ _ _ _ _ _ _ _ _ _ _ _ _ _ _ _ _ _ _ _ _ _ _ _ _ _ _ _ _ _ _ _ _ _ _ _ _ _ _ _ _ _ _ _ _ _ _ _ _ _ _ _ _ _ _ _ _ _ _ _ _ _ ⟨HN, by first | exact HB1.out | exact HB2.out⟩

end Go.Proofs.YthiknlnhdjoipaaGreatDoor
