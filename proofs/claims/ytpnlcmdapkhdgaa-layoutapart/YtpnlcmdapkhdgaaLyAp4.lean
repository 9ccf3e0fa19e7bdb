/-
  LayoutApart's law in pieces: the loop over common names.
-/
import Derived.Test.YtpnlcmdapkhdgaaLyAp45
namespace Go.Proofs.Ytpnlcmdapkhdgaa
open Go Go.RowKit
set_option linter.unusedVariables false
attribute [local go_sem] lat_cell
attribute [local go_sem] run_geq_str

set_option maxHeartbeats 32000000 in
set_option maxRecDepth 1000000 in
theorem apart_loop4 {zc0 zc1 zc3 zc4 zc6 zc7 zc8 zc9 zc10 zc11 zc12 zc13 zc14 zc15 zc16 zc17 zc18 zc19 zc20 zc21 zc22 zc23 zc24 zc25 zc26 zc27 zc28 zc29 zc30 zc31 zc32 zc33 zc34 zc35 zc36 zc37 zc38 zc39 zc40 zc41 zc42 zc43 zc44 zc45 zc46 zc47 zc48 zc49 zc50 zc51 zc52 zc53 zc54 zc55 zc56 zc57 zc58 zc59 zc60 zc61 zc62 zc63 zc64 zc65 zc66 zc67 zc68 zc69 zc70 zc71 zc72 zc73 zc74 zc75 zc76 zc77 zc78 zc79 zc80 zc81 zc82 zc83 zc84 zc85 zc86 zc87 zc88 zc89 zc90 zc91 zc92 zc93 zc94 zc95 zc96 zc97 zc98 zc99 zc100 zc101 zc102 zc103 zc104 zc105 zc106 zc107 zc108 zc109 zc110 zc111 zc112 zc113 zc114 zc115 zc116 zc117 zc118 zc119 zc120 zc121 zc122 zc123 zc124 zc125 zc126 zc127 zc128 zc129 zc130 zc131 zc132 zc133 zc134 zc135 zc136 zc137 zc138 zc139 zc140 zc141 zc142 zc143 zc144 zc145 zc146 zc147 zc148 zc149 zc150 zc151 zc152 zc153 zc154 zc155 zc156 zc157 zc158 zc159 zc160 zc161 zc162 zc163 zc164 zc165 zc166 zc167 zc168 zc169 zc170 zc171 zc172 zc173 zc174 zc175 zc176 zc177 zc178 zc179 zc180 zc181 zc182 zc183 zc184 zc185 zc186 zc187 zc188 zc189 zc190 zc191 zc192 zc193 zc194 zc195 zc196 zc197 zc198 zc199 zc200 zc201 zc202 zc203 zc204 zc205 zc206 zc207 zc208 zc209 zc210 zc211 zc212 zc213 zc214 zc215 zc216 zc217 zc218 zc219 zc220 zc221 zc222 zc223 zc224 zc225 zc226 zc227 zc228 zc229 zc230 zc231 zc232 zc233 zc234 zc235 zc236 zc237 zc238 zc239 zc240 zc241 zc242 zc243 zc247 zc248 zc249 zc250 zc251 zc252 zc253 zc254 zc255 zc256 zc257 zc258 zc259 zc260 zc261 zc262 zc263 zc264 zc265 zc266 zc267 zc268 zc269 zc270 zc271 zc272 zc273 zc274 zc275 zc276 zc277 zc278 zc279 zc280 zc281 zc282 zc283 zc284 zc285 zc286 zc287 zc288 zc289 zc290 zc291 zc292 zc293 zc294 zc295 zc296 zc297 zc298 zc299 zc300 zc301 zc302 zc303 zc304 zc305 zc306 zc307 zc308 zc309 zc310 zc311 zc312 zc313 zc314 zc315 zc316 zc317 zc318 zc319 zc320 zc321 zc322 zc323 zc324 zc325 zc326 zc327 zc328 zc329 zc330 zc331 zc332 zc333 zc334 zc335 zc336 zc337 zc338 zc339 zc340 zc341 zc342 zc343 zc344 zc345 zc346 zc347 zc348 zc349 zc350 zc351 zc352 zc353 zc354 zc355 zc356 zc357 zc358 zc359 zc360 : Value} (p : M.Prt) (base : Int) (a1 a2 : Option Addr) (c1 c2 : Nat) (w Y WB : World) (n1 : Nat) (xf xn xc : Option Addr) (yf yn yc : Nat) (hcap : p.frags.length ≤ c1) (hnf : p.frags.length ≤ 60)
    (HOk : Hid (∀ f ∈ p.frags, M.FrgOk f)) (HCk : Hid (M.checkPart p = 0)) (HAp : Hid (M.Apart p base)) (HV : Hid (ApMem w Y n1 xf xn xc yf yn yc p base a1 a2 c1 c2)) (HB0 : Hid (Below Y.heap.size Y WB)) {Q0 : Exit → Act → World → Prop}
    (hexit : ∀ (zv4 zv16 zv17 zv18 zv19 zv20 zv21 zv22 zv23 zv24 zv246 zv247 zv248 zv249 zv250 zv251 zv252 zv253 zv254 zv255 zv256 zv257 zv258 zv259 zv260 zv261 zv262 zv263 zv264 zv265 zv266 zv267 zv268 zv269 zv270 zv271 zv272 zv273 zv274 zv275 zv276 zv277 zv278 zv279 zv280 zv281 zv282 zv283 zv284 zv285 zv286 zv287 zv288 zv289 zv290 zv291 zv292 zv293 zv294 zv295 zv296 zv297 zv298 zv299 zv300 zv301 zv302 zv303 zv304 zv305 zv306 zv307 zv308 zv309 zv310 zv311 zv312 zv313 zv314 zv315 zv316 zv317 zv318 zv319 zv320 zv321 zv322 zv323 zv324 zv325 zv326 zv327 zv328 zv329 zv330 zv331 zv332 zv333 zv334 zv335 zv336 zv337 zv338 zv339 zv340 zv341 zv342 zv343 zv344 zv345 zv346 zv347 zv348 zv349 zv350 zv351 zv352 zv353 zv354 zv355 zv356 zv357 zv358 zv359 zv360 : Value) (w'' : World), Below Y.heap.size Y w'' → Q0 (.exit 6) ⟨List.toArray (zc0 :: zc1 :: .pointer (some ⟨w.heap.size, 0, none⟩) :: zc3 :: zv4 :: .pointer (some ⟨n1, 0, none⟩) :: zc6 :: zc7 :: zc8 :: zc9 :: zc10 :: zc11 :: zc12 :: zc13 :: zc14 :: zc15 :: zv16 :: zv17 :: zv18 :: zv19 :: zv20 :: zv21 :: zv22 :: zv23 :: zv24 :: zc25 :: zc26 :: zc27 :: zc28 :: zc29 :: zc30 :: zc31 :: zc32 :: zc33 :: zc34 :: zc35 :: zc36 :: zc37 :: zc38 :: zc39 :: zc40 :: zc41 :: zc42 :: zc43 :: zc44 :: zc45 :: zc46 :: zc47 :: zc48 :: zc49 :: zc50 :: zc51 :: zc52 :: zc53 :: zc54 :: zc55 :: zc56 :: zc57 :: zc58 :: zc59 :: zc60 :: zc61 :: zc62 :: zc63 :: zc64 :: zc65 :: zc66 :: zc67 :: zc68 :: zc69 :: zc70 :: zc71 :: zc72 :: zc73 :: zc74 :: zc75 :: zc76 :: zc77 :: zc78 :: zc79 :: zc80 :: zc81 :: zc82 :: zc83 :: zc84 :: zc85 :: zc86 :: zc87 :: zc88 :: zc89 :: zc90 :: zc91 :: zc92 :: zc93 :: zc94 :: zc95 :: zc96 :: zc97 :: zc98 :: zc99 :: zc100 :: zc101 :: zc102 :: zc103 :: zc104 :: zc105 :: zc106 :: zc107 :: zc108 :: zc109 :: zc110 :: zc111 :: zc112 :: zc113 :: zc114 :: zc115 :: zc116 :: zc117 :: zc118 :: zc119 :: zc120 :: zc121 :: zc122 :: zc123 :: zc124 :: zc125 :: zc126 :: zc127 :: zc128 :: zc129 :: zc130 :: zc131 :: zc132 :: zc133 :: zc134 :: zc135 :: zc136 :: zc137 :: zc138 :: zc139 :: zc140 :: zc141 :: zc142 :: zc143 :: zc144 :: zc145 :: zc146 :: zc147 :: zc148 :: zc149 :: zc150 :: zc151 :: zc152 :: zc153 :: zc154 :: zc155 :: zc156 :: zc157 :: zc158 :: zc159 :: zc160 :: zc161 :: zc162 :: zc163 :: zc164 :: zc165 :: zc166 :: zc167 :: zc168 :: zc169 :: zc170 :: zc171 :: zc172 :: zc173 :: zc174 :: zc175 :: zc176 :: zc177 :: zc178 :: zc179 :: zc180 :: zc181 :: zc182 :: zc183 :: zc184 :: zc185 :: zc186 :: zc187 :: zc188 :: zc189 :: zc190 :: zc191 :: zc192 :: zc193 :: zc194 :: zc195 :: zc196 :: zc197 :: zc198 :: zc199 :: zc200 :: zc201 :: zc202 :: zc203 :: zc204 :: zc205 :: zc206 :: zc207 :: zc208 :: zc209 :: zc210 :: zc211 :: zc212 :: zc213 :: zc214 :: zc215 :: zc216 :: zc217 :: zc218 :: zc219 :: zc220 :: zc221 :: zc222 :: zc223 :: zc224 :: zc225 :: zc226 :: zc227 :: zc228 :: zc229 :: zc230 :: zc231 :: zc232 :: zc233 :: zc234 :: zc235 :: zc236 :: zc237 :: zc238 :: zc239 :: zc240 :: zc241 :: zc242 :: zc243 :: .slice xn (M.layAll p base).names.length yn :: .int .i64 ((M.layAll p base).names.length : Int) :: zv246 :: zv247 :: zv248 :: zv249 :: zv250 :: zv251 :: zv252 :: zv253 :: zv254 :: zv255 :: zv256 :: zv257 :: zv258 :: zv259 :: zv260 :: zv261 :: zv262 :: zv263 :: zv264 :: zv265 :: zv266 :: zv267 :: zv268 :: zv269 :: zv270 :: zv271 :: zv272 :: zv273 :: zv274 :: zv275 :: zv276 :: zv277 :: zv278 :: zv279 :: zv280 :: zv281 :: zv282 :: zv283 :: zv284 :: zv285 :: zv286 :: zv287 :: zv288 :: zv289 :: zv290 :: zv291 :: zv292 :: zv293 :: zv294 :: zv295 :: zv296 :: zv297 :: zv298 :: zv299 :: zv300 :: zv301 :: zv302 :: zv303 :: zv304 :: zv305 :: zv306 :: zv307 :: zv308 :: zv309 :: zv310 :: zv311 :: zv312 :: zv313 :: zv314 :: zv315 :: zv316 :: zv317 :: zv318 :: zv319 :: zv320 :: zv321 :: zv322 :: zv323 :: zv324 :: zv325 :: zv326 :: zv327 :: zv328 :: zv329 :: zv330 :: zv331 :: zv332 :: zv333 :: zv334 :: zv335 :: zv336 :: zv337 :: zv338 :: zv339 :: zv340 :: zv341 :: zv342 :: zv343 :: zv344 :: zv345 :: zv346 :: zv347 :: zv348 :: zv349 :: zv350 :: zv351 :: zv352 :: zv353 :: zv354 :: zv355 :: zv356 :: zv357 :: zv358 :: zv359 :: zv360 :: []), []⟩ w'') :
    Code.wp Try.prog (Code.loop (((Try.f3.body.map loopsOf).getD [])[3]?.getD .skip : Code)) Q0 ⟨List.toArray (zc0 :: zc1 :: .pointer (some ⟨w.heap.size, 0, none⟩) :: zc3 :: zc4 :: .pointer (some ⟨n1, 0, none⟩) :: zc6 :: zc7 :: zc8 :: zc9 :: zc10 :: zc11 :: zc12 :: zc13 :: zc14 :: zc15 :: zc16 :: zc17 :: zc18 :: zc19 :: zc20 :: zc21 :: zc22 :: zc23 :: zc24 :: zc25 :: zc26 :: zc27 :: zc28 :: zc29 :: zc30 :: zc31 :: zc32 :: zc33 :: zc34 :: zc35 :: zc36 :: zc37 :: zc38 :: zc39 :: zc40 :: zc41 :: zc42 :: zc43 :: zc44 :: zc45 :: zc46 :: zc47 :: zc48 :: zc49 :: zc50 :: zc51 :: zc52 :: zc53 :: zc54 :: zc55 :: zc56 :: zc57 :: zc58 :: zc59 :: zc60 :: zc61 :: zc62 :: zc63 :: zc64 :: zc65 :: zc66 :: zc67 :: zc68 :: zc69 :: zc70 :: zc71 :: zc72 :: zc73 :: zc74 :: zc75 :: zc76 :: zc77 :: zc78 :: zc79 :: zc80 :: zc81 :: zc82 :: zc83 :: zc84 :: zc85 :: zc86 :: zc87 :: zc88 :: zc89 :: zc90 :: zc91 :: zc92 :: zc93 :: zc94 :: zc95 :: zc96 :: zc97 :: zc98 :: zc99 :: zc100 :: zc101 :: zc102 :: zc103 :: zc104 :: zc105 :: zc106 :: zc107 :: zc108 :: zc109 :: zc110 :: zc111 :: zc112 :: zc113 :: zc114 :: zc115 :: zc116 :: zc117 :: zc118 :: zc119 :: zc120 :: zc121 :: zc122 :: zc123 :: zc124 :: zc125 :: zc126 :: zc127 :: zc128 :: zc129 :: zc130 :: zc131 :: zc132 :: zc133 :: zc134 :: zc135 :: zc136 :: zc137 :: zc138 :: zc139 :: zc140 :: zc141 :: zc142 :: zc143 :: zc144 :: zc145 :: zc146 :: zc147 :: zc148 :: zc149 :: zc150 :: zc151 :: zc152 :: zc153 :: zc154 :: zc155 :: zc156 :: zc157 :: zc158 :: zc159 :: zc160 :: zc161 :: zc162 :: zc163 :: zc164 :: zc165 :: zc166 :: zc167 :: zc168 :: zc169 :: zc170 :: zc171 :: zc172 :: zc173 :: zc174 :: zc175 :: zc176 :: zc177 :: zc178 :: zc179 :: zc180 :: zc181 :: zc182 :: zc183 :: zc184 :: zc185 :: zc186 :: zc187 :: zc188 :: zc189 :: zc190 :: zc191 :: zc192 :: zc193 :: zc194 :: zc195 :: zc196 :: zc197 :: zc198 :: zc199 :: zc200 :: zc201 :: zc202 :: zc203 :: zc204 :: zc205 :: zc206 :: zc207 :: zc208 :: zc209 :: zc210 :: zc211 :: zc212 :: zc213 :: zc214 :: zc215 :: zc216 :: zc217 :: zc218 :: zc219 :: zc220 :: zc221 :: zc222 :: zc223 :: zc224 :: zc225 :: zc226 :: zc227 :: zc228 :: zc229 :: zc230 :: zc231 :: zc232 :: zc233 :: zc234 :: zc235 :: zc236 :: zc237 :: zc238 :: zc239 :: zc240 :: zc241 :: zc242 :: zc243 :: .slice xn (M.layAll p base).names.length yn :: .int .i64 ((M.layAll p base).names.length : Int) :: .int .i64 0 :: zc247 :: zc248 :: zc249 :: zc250 :: zc251 :: zc252 :: zc253 :: zc254 :: zc255 :: zc256 :: zc257 :: zc258 :: zc259 :: zc260 :: zc261 :: zc262 :: zc263 :: zc264 :: zc265 :: zc266 :: zc267 :: zc268 :: zc269 :: zc270 :: zc271 :: zc272 :: zc273 :: zc274 :: zc275 :: zc276 :: zc277 :: zc278 :: zc279 :: zc280 :: zc281 :: zc282 :: zc283 :: zc284 :: zc285 :: zc286 :: zc287 :: zc288 :: zc289 :: zc290 :: zc291 :: zc292 :: zc293 :: zc294 :: zc295 :: zc296 :: zc297 :: zc298 :: zc299 :: zc300 :: zc301 :: zc302 :: zc303 :: zc304 :: zc305 :: zc306 :: zc307 :: zc308 :: zc309 :: zc310 :: zc311 :: zc312 :: zc313 :: zc314 :: zc315 :: zc316 :: zc317 :: zc318 :: zc319 :: zc320 :: zc321 :: zc322 :: zc323 :: zc324 :: zc325 :: zc326 :: zc327 :: zc328 :: zc329 :: zc330 :: zc331 :: zc332 :: zc333 :: zc334 :: zc335 :: zc336 :: zc337 :: zc338 :: zc339 :: zc340 :: zc341 :: zc342 :: zc343 :: zc344 :: zc345 :: zc346 :: zc347 :: zc348 :: zc349 :: zc350 :: zc351 :: zc352 :: zc353 :: zc354 :: zc355 :: zc356 :: zc357 :: zc358 :: zc359 :: zc360 :: []), []⟩ WB := by
  unfold ApMem at HV
  have HSm : Hid (∀ (j : Nat) (f : M.Frg), p.frags[j]? = some f → 0 ≤ (M.layAll p base).frags.getD j 0 ∧ (M.layAll p base).frags.getD j 0 + M.long f ≤ 65536) := fun j f hj => by
    have ho := HOk.out f (List.mem_of_getElem? hj)
    have h1 := HAp.out.frag j f f.sect.toNat hj (by have := ho.sect; omega)
    have h2 := HAp.out.ti f.sect.toNat (by have := ho.sect; omega) (by have := ho.sect; omega)
    omega
  have T16 : Hid _ := HAp.out.fr16
  have T1 : Hid _ := HAp.out.fr1
  have TN : Hid _ := HAp.out.frN
  have TT : Hid _ := HAp.out.ti
  have TF : Hid _ := HAp.out.frag
  have TA : Hid _ := HAp.out.apart
  have TLF : Hid _ := HAp.out.lenF
  have TLN : Hid _ := HAp.out.lenN
  have TC : Hid _ := HAp.out.com
  have TZ : Hid _ := HAp.out.zero
  have TR : Hid _ := HAp.out.rise
  have TS : Hid _ := HAp.out.strict
  clear HAp
  generalize (M.layAll p base).fr = fr at *
  generalize (M.layAll p base).ti = ti at *
  generalize (M.layAll p base).frags = F at *
  generalize (M.layAll p base).coms = C at *
  generalize (M.layAll p base).names = N at *
  conv => arg 2; arg 1; whnf
  go_loopw [246] (fun s246 wr => ∃ (i : Nat), i ≤ N.length ∧ s246 = .int .i64 i ∧ Hid (Below Y.heap.size Y wr)) (fun s246 _ => N.length - (intOf s246).toNat)
  case atStart => exact ⟨0, Nat.zero_le _, rfl, HB0⟩
  case round =>
    clear HB0
    obtain ⟨i, hi, rfl, HBr⟩ := hrel
    obtain ⟨hv1, ⟨c00, c01, hl0⟩, hFr, hDf⟩ := HV.out wr HBr.out
    by_cases hlt : i < N.length
    · obtain ⟨b, off, rfl, en, hbn⟩ := StrsAt.cell hv1.2.2.1 i hlt
      have hmx : N.length ≤ maxLen := by obtain ⟨_, _, _, h⟩ := SlAt.form hv1.2.2.1.1; exact h
      unfold maxLen at hmx
      have hNm : N[i]? = some (N.getD i str0) := getElem?_getD N str0 i hlt
      have hTC := TC.out i _ hNm
      have HTZ : Hid (∀ (j : Nat) (f : M.Frg), p.frags[j]? = some f → f.sect = 5 → F.getD j 0 + f.size ≤ C.getD i 0) := fun j f h1 h2 => TZ.out i j _ f hNm h1 h2
      have hlC : i < C.length := by rw [← TLN.out]; exact hlt
      have hcl : (i : Int) < (C.length : Int) := by omega
      have hnl : (i : Int) < (N.length : Int) := by omega
      have hT5 := TT.out 5 (by decide) (by decide)
      have KF : Hid (∀ s W, Below Y.heap.size Y W → Calls Try.prog 8 #[.agg #[.slice a1 p.frags.length c1, .slice a2 p.defs.length c2], .string s] W fun e w' => e = .returned (.tuple #[.agg (dfnArr (M.find p.defs s).1), .int .i64 (M.find p.defs s).2]) ∧ Below W.heap.size W w') := fun s W hW => by
        obtain ⟨_, _, hF', hD'⟩ := HV.out W hW
        have := findP_any p s a1 a2 c1 c2 W hF' hD'
        unfold findOf at this
        rwa [if_pos HCk.out] at this
      have KF1 : Hid (Calls Try.prog 8 #[.agg #[.slice a1 p.frags.length c1, .slice a2 p.defs.length c2], .string (N.getD i str0)] wr fun e w' => e = .returned (.tuple #[.agg (dfnArr (M.find p.defs (N.getD i str0)).1), .int .i64 (M.find p.defs (N.getD i str0)).2]) ∧ Below wr.heap.size wr w') := KF.out _ wr HBr.out
      obtain ⟨fd, hfd⟩ : ∃ fd, M.find p.defs (N.getD i str0) = fd := ⟨_, rfl⟩
      rw [hfd] at hTC KF1
      clear hfd hNm hFr hDf
      obtain ⟨⟨nm, kd, fg, ps, sz, al⟩, er⟩ := fd
      simp only at hTC
      obtain ⟨rfl, rfl, hco, hmod, hge, hle⟩ := hTC
      simp only [dfnArr] at KF1
      have hal := hco.align.pos
      have hz0 := hco.size0
      have hz64 := hco.size64
      simp only at hal hz0 hz64
      clear hco
      obtain ⟨x, hx⟩ : ∃ x, C.getD i 0 = x := ⟨_, rfl⟩
      rw [hx] at hmod hge hle HTZ
      have HX : Hid (C.getD i 0 = x) := hx
      clear hx
      obtain ⟨nme, hnme⟩ : ∃ s, N.getD i str0 = s := ⟨_, rfl⟩
      rw [hnme] at en KF1
      have HNme : Hid (N.getD i str0 = nme) := hnme
      clear hnme
      have hx0 : 0 ≤ x := by omega
      have hx1 : x + sz ≤ 65536 := by omega
      have g1 : (x.tmod al != 0) = false := by rw [Int.tmod_eq_emod_of_nonneg hx0, hmod]; rfl
      have g1' : (x % al != 0) = false := by rw [hmod]; rfl
      have g2 : decide (x < fr 5) = false := by simp; omega
      have g3 : decide (ti 5 < x + sz) = false := by simp; omega
      have g4 : decide (al < 1) = false := by simp; omega
      have haz : al ≠ 0 := by omega
      clear hv1 hT5 hmod hge hle
      go_upto_region 35 with (go_at_call 8; refine KF1.out.mono ?_; rintro e w5 ⟨rfl, hb5⟩)
      have hb5a : Below wr.heap.size wr (w5.alloc (.cells #[.string nm, .int .i64 3, .int .i64 fg, .int .i64 ps, .int .i64 sz, .int .i64 al] 42)) := hb5.alloc hb5.size _
      have xd := heap_alloc_new w5 (.cells #[.string nm, .int .i64 3, .int .i64 fg, .int .i64 ps, .int .i64 sz, .int .i64 al] 42)
      clear KF1 en c00 c01 hl0 hbn hb5
      generalize w5.alloc (.cells #[.string nm, .int .i64 3, .int .i64 fg, .int .i64 ps, .int .i64 sz, .int .i64 al] 42) = X2 at *
      generalize w5.heap.size = nd at *
      have HB2 : Hid (Below Y.heap.size Y X2) := HBr.out.trans (hb5a.mono HBr.out.size)
      clear HBr hb5a
      obtain ⟨hv1, ⟨c00, c01, hl0⟩, _, _⟩ := HV.out X2 HB2.out
      have k2 : X2.cell? ⟨n1, 2, none⟩ = some (.slice xc C.length yc) := cellB hv1.1 2
      obtain ⟨b', off', hxc, ec, hbc⟩ := IntsAt.cell hv1.2.2.2 i hlC
      rw [HX.out] at ec
      rw [hxc] at k2
      have kf5 : X2.cell? ⟨n1, 8, none⟩ = some (.int .i64 (fr 5)) := cellB hv1.1 8
      have kt5 : X2.cell? ⟨n1, 14, none⟩ = some (.int .i64 (ti 5)) := cellB hv1.1 14
      have d1 : X2.cell? ⟨nd, 1, none⟩ = some (.int .i64 3) := cellB xd 1
      have d4 : X2.cell? ⟨nd, 4, none⟩ = some (.int .i64 sz) := cellB xd 4
      have d5 : X2.cell? ⟨nd, 5, none⟩ = some (.int .i64 al) := cellB xd 5
      have hl1' : n1 < X2.heap.size := (Array.getElem?_eq_some_iff.1 hv1.1).1
      have hld : nd < X2.heap.size := (Array.getElem?_eq_some_iff.1 xd).1
      clear hv1 hxc
      go_upto_region 38 with fail
      clear k2 ec kf5 kt5 d1 d4 d5 g1 g1' g2 g3 g4 xd hbc
      go_wp2_with fail
      clear c00 c01 hl0 hl1' hld
      go_loopw [301] (fun s301 wr => ∃ (m : Nat), m ≤ p.frags.length ∧ s301 = .int .i64 m ∧ Hid (Below X2.heap.size X2 wr)) (fun s301 _ => p.frags.length - (intOf s301).toNat)
      case atStart => exact ⟨0, Nat.zero_le _, rfl, Below.refl _ _⟩
      case round =>
        obtain ⟨m, hm, rfl, HBm⟩ := hrel
        have HYm : Hid (Below Y.heap.size Y wr) := HB2.out.trans (HBm.out.mono HB2.out.size)
        obtain ⟨hv1, ⟨c00, c01, hl0⟩, hFr, hDf⟩ := HV.out wr HYm.out
        by_cases hmi : m < p.frags.length
        · obtain ⟨b2, off2, ab, cb, ar, cr, rfl, d0, d1, d2, d3, d4, d5, hBy', hRl, hg', hbl⟩ := hFr.cells m hmi
          have hgm : p.frags[m]? = some (p.frags.getD m frg0) := getElem?_getD p.frags frg0 m hmi
          have hgo := HOk.out _ (getD_mem p.frags frg0 m hmi)
          have hsm' := HSm.out m _ hgm
          have hTZ := HTZ.out m _ hgm
          obtain ⟨b3, off3, hxf, ey, hby⟩ := IntsAt.cell hv1.2.1 m (by rw [TLF.out]; exact hmi)
          have k0 : wr.cell? ⟨n1, 0, none⟩ = some (.slice xf F.length yf) := cellB hv1.1 0
          rw [hxf] at k0
          have hl1' : n1 < wr.heap.size := (Array.getElem?_eq_some_iff.1 hv1.1).1
          have hbr : b2 < wr.heap.size := World.block_lt_of_cell? _ _ d0
          have hml : (m : Int) < (p.frags.length : Int) := by omega
          have hmF : (m : Int) < (F.length : Int) := by rw [TLF.out]; omega
          obtain ⟨g, hgg⟩ : ∃ g, p.frags.getD m frg0 = g := ⟨_, rfl⟩
          rw [hgg] at hsm' hTZ d0 d1 d2 d3 d4 d5 hg' hgo
          clear hgg hgm hRl hbl hFr hDf hxf hBy' hv1 c00 c01 hl0
          obtain ⟨s, al', gr, bs, sz', rs⟩ := g
          simp only at hTZ d0 d1 d2 d3 d4 d5 hg'
          obtain ⟨y, hy⟩ : ∃ y, F.getD m 0 = y := ⟨_, rfl⟩
          rw [hy] at hsm' ey hTZ
          clear hy
          go_upto_region 41 with fail
          have xv := heap_alloc_new wr (.cells #[.int .i64 s, .int .i64 al', .string gr, .slice ab bs.length cb, .int .i64 sz', .slice ar rs.length cr] 38)
          have hbW : Below wr.heap.size wr (wr.alloc (.cells #[.int .i64 s, .int .i64 al', .string gr, .slice ab bs.length cb, .int .i64 sz', .slice ar rs.length cr] 38)) := (Below.refl _ _).alloc (Nat.le_refl _) _
          have k0' := cell_later hbW k0
          have ey' := cell_later hbW ey
          have HB4 : Hid (Below X2.heap.size X2 (wr.alloc (.cells #[.int .i64 s, .int .i64 al', .string gr, .slice ab bs.length cb, .int .i64 sz', .slice ar rs.length cr] 38))) := HBm.out.trans (hbW.mono HBm.out.size)
          clear k0 ey d0 d1 d2 d3 d4 d5 hbr hl1' hby HBm hbW
          generalize wr.alloc (.cells #[.int .i64 s, .int .i64 al', .string gr, .slice ab bs.length cb, .int .i64 sz', .slice ar rs.length cr] 38) = X3 at *
          generalize wr.heap.size = nv at *
          have f0 : X3.cell? ⟨nv, 0, none⟩ = some (.int .i64 s) := cellB xv 0
          have f4 : X3.cell? ⟨nv, 4, none⟩ = some (.int .i64 sz') := cellB xv 4
          by_cases h5 : s = 5
          · have h5' : (s == 5) = true := by simpa using h5
            have hz := hTZ h5
            have hlg : M.long ⟨s, al', gr, bs, sz', rs⟩ = sz' := by unfold M.long M.lng; rw [if_pos h5]
            have hlo := hgo.long0
            rw [hlg] at hsm' hlo
            have hs1 := hsm'.1
            have hs2 := hsm'.2
            have g5 : decide (x < y + sz') = false := by simp; omega
            clear h5 hz hlg hTZ hgo hsm'
            refine wp_region_lat (by kernel_rfl) (by kernel_rfl) ?_
            intro hne
            repeat (go_big_quiet_step (fail))
            refine wpQuiet_nil ?_
            intro V hbV
            have hbV := lat_out hbV
            clear hne k0' ey' f0 f4
            go_wp2
            go_roundw
            case rel => exact ⟨m + 1, by omega, by go_num, HB4.out.trans (hbV.mono HB4.out.size)⟩
            case measure => simp [intOf]; omega
          · have h5' : (s == 5) = false := by simpa using h5
            clear h5 hTZ hgo hsm'
            refine wp_region_lat (by kernel_rfl) (by kernel_rfl) ?_
            intro hne
            repeat (go_big_quiet_step (fail))
            refine wpQuiet_nil ?_
            intro V hbV
            have hbV := lat_out hbV
            clear hne k0' ey' f0 f4
            go_wp2
            go_roundw
            case rel => exact ⟨m + 1, by omega, by go_num, HB4.out.trans (hbV.mono HB4.out.size)⟩
            case measure => simp [intOf]; omega
        · have hmi' : m = p.frags.length := by omega
          subst hmi'
          clear hFr hDf
          by_cases hi0 : i = 0
          · have h0a : decide ((0 : Int) < (i : Int)) = false := by simp; omega
            have h0b : decide (0 < i) = false := by simp; omega
            clear hv1 c00 c01 hl0 hi0
            go_wp2
            go_roundw
            case rel => exact ⟨i + 1, by omega, by go_num, HYm⟩
            case measure => simp [intOf]; omega
          · obtain ⟨j, hj⟩ : ∃ j, i = j + 1 := ⟨i - 1, by omega⟩
            have hij : (i : Int) - 1 = (j : Int) := by omega
            have hw1 : IntKind.i64.wrap ((i : Int) - 1) = (j : Int) := by rw [IntKind.wrap_i64]; omega
            have hw3 : IntKind.i64.wrap (j : Int) = (j : Int) := by rw [IntKind.wrap_i64]; omega
            have hj0 : (0 : Int) ≤ (j : Int) := by omega
            have HJ : Hid (i = j + 1) := hj
            have h0' : (0 : Int) < (i : Int) := by omega
            have hjN : j < N.length := by omega
            have hjl : (j : Int) < (N.length : Int) := by omega
            have hjc : (j : Int) < (C.length : Int) := by omega
            have hNj : N[j]? = some (N.getD j str0) := getElem?_getD N str0 j hjN
            have hTR := TR.out j _ (by omega) hNj
            have hTCj := TC.out j _ hNj
            have hlt' : Op.bytesLess (N.getD j str0).toList nme.toList = true := by rw [← HNme.out, HJ.out]; exact strict_less TS.out j (by omega)
            rw [← HJ.out, HX.out] at hTR
            have KFp : Hid (∀ W, Below wr.heap.size wr W → Calls Try.prog 8 #[.agg #[.slice a1 p.frags.length c1, .slice a2 p.defs.length c2], .string (N.getD j str0)] W fun e w' => e = .returned (.tuple #[.agg (dfnArr (M.find p.defs (N.getD j str0)).1), .int .i64 (M.find p.defs (N.getD j str0)).2]) ∧ Below W.heap.size W w') := fun W hW => KF.out _ W (HYm.out.trans (hW.mono HYm.out.size))
            obtain ⟨fd, hfd⟩ : ∃ fd, M.find p.defs (N.getD j str0) = fd := ⟨_, rfl⟩
            rw [hfd] at hTR hTCj KFp
            obtain ⟨⟨nm2, kd2, fg2, ps2, sz2, al2⟩, er2⟩ := fd
            simp only at hTR hTCj
            obtain ⟨rfl, rfl, hco, _, hge, hle⟩ := hTCj
            have hz20 := hco.size0
            have hz264 := hco.size64
            simp only at hz20 hz264
            simp only [dfnArr] at KFp
            obtain ⟨z, hz⟩ : ∃ z, C.getD j 0 = z := ⟨_, rfl⟩
            rw [hz] at hTR hge hle
            have hT5 := TT.out 5 (by decide) (by decide)
            have hzl : 0 ≤ z := by omega
            have hzh : z ≤ 65536 := by omega
            have g6 : decide (x < z + sz2) = false := by simp; omega
            have HQ3 : Hid (∀ W, Below wr.heap.size wr W → W.cell? ⟨w.heap.size, 0, none⟩ = some (.slice a1 p.frags.length c1) ∧ W.cell? ⟨w.heap.size, 1, none⟩ = some (.slice a2 p.defs.length c2) ∧ W.cell? ⟨n1, 1, none⟩ = some (.slice (some ⟨b, off, none⟩) N.length yn) ∧ W.cell? ⟨b, off + j, none⟩ = some (.string (N.getD j str0))) := fun W hW => by
              obtain ⟨v1, ⟨e1, e2, _⟩, _, _⟩ := HV.out W (HYm.out.trans (hW.mono HYm.out.size))
              obtain ⟨b9, off9, he, ec9, _⟩ := StrsAt.cell v1.2.2.1 j hjN
              cases he
              exact ⟨e1, e2, cellB v1.1 1, ec9⟩
            have HQ4 : Hid (∀ W, Below wr.heap.size wr W → ∃ b' off', W.cell? ⟨n1, 2, none⟩ = some (.slice (some ⟨b', off', none⟩) C.length yc) ∧ W.cell? ⟨b', off' + j, none⟩ = some (.int .i64 z) ∧ n1 < W.heap.size) := fun W hW => by
              obtain ⟨v1, _, _, _⟩ := HV.out W (HYm.out.trans (hW.mono HYm.out.size))
              obtain ⟨b9, off9, he, ec9, _⟩ := IntsAt.cell v1.2.2.2 j (by rw [← TLN.out]; exact hjN)
              have q := cellB v1.1 2
              rw [hz] at ec9
              subst he
              exact ⟨b9, off9, q, ec9, (Array.getElem?_eq_some_iff.1 v1.1).1⟩
            obtain ⟨pvs, hpvs⟩ : ∃ s, N.getD j str0 = s := ⟨_, rfl⟩
            rw [hpvs] at hlt' KFp HQ3
            clear hv1 hfd hNj hco hge hle hT5 hpvs hz hj hi0
            have hA0 : Below wr.heap.size wr wr.drew := (Below.refl _ _).drew
            have hA1 : Below wr.heap.size wr (wr.drew.alloc (.cells #[.string ⟨#[]⟩, .int .i64 0, .int .i64 0, .int .i64 0, .int .i64 0, .int .i64 0] 42)) := hA0.alloc (Nat.le_refl _) _
            have z1 : (wr.drew.alloc (.cells #[.string ⟨#[]⟩, .int .i64 0, .int .i64 0, .int .i64 0, .int .i64 0, .int .i64 0] 42)).heap[wr.heap.size]? = some (.cells #[.string ⟨#[]⟩, .int .i64 0, .int .i64 0, .int .i64 0, .int .i64 0, .int .i64 0] 42 (0, 0)) := heap_alloc_new wr.drew _
            go_upto_region 45 with fail
            refine apart_r45 w.heap.size n1 b off j N.length yn (i : Int) (.slice a1 p.frags.length c1) (.slice a2 p.defs.length c2) pvs nm2 fg2 ps2 sz2 al2 wr hw1 hj0 hjl KFp HQ3 ?_
            intro zv324 zv325 zv326 zv327 zv328 zv329 zv330 zv331 zv332 zv333 zv334 n23 WC x23 hb23
            obtain ⟨_, _, k1, en⟩ := HQ3.out WC hb23
            obtain ⟨b', off', k2, ez, hln⟩ := HQ4.out WC hb23
            have d4 : WC.cell? ⟨n23, 4, none⟩ = some (.int .i64 sz2) := cellB x23 4
            have hl23 : n23 < WC.heap.size := (Array.getElem?_eq_some_iff.1 x23).1
            have hbn' : b < WC.heap.size := World.block_lt_of_cell? _ _ en
            have hbz' : b' < WC.heap.size := World.block_lt_of_cell? _ _ ez
            clear x23 HQ3 HQ4 KFp z1 hA0 hA1 c00 c01 hl0
            go_upto_region 46 with fail
            refine wp_region_lat (by kernel_rfl) (by kernel_rfl) ?_
            intro hne
            repeat (go_big_quiet_step (fail))
            refine wpQuiet_nil ?_
            intro V hbV
            have hbV := lat_out hbV
            clear hne k1 en k2 ez d4
            go_wp2
            go_roundw
            case rel => exact ⟨i + 1, by omega, by go_num, HYm.out.trans ((hb23.trans (hbV.mono hb23.size)).mono HYm.out.size)⟩
            case measure => simp [intOf]; omega
    · have hin : i = N.length := by omega
      subst hin
      clear c00 c01 hl0 hFr hDf hv1
      go_wp2_with fail
      first
        | exact HBr.out
        | (refine hexit _ _ _ _ _ _ _ _ _ _ _ _ _ _ _ _ _ _ _ _ _ _ _ _ _ _ _ _ _ _ _ _ _ _ _ _ _ _ _ _ _ _ _ _ _ _ _ _ _ _ _ _ _ _ _ _ _ _ _ _ _ _ _ _ _ _ _ _ _ _ _ _ _ _ _ _ _ _ _ _ _ _ _ _ _ _ _ _ _ _ _ _ _ _ _ _ _ _ _ _ _ _ _ _ _ _ _ _ _ _ _ _ _ _ _ _ _ _ _ _ _ _ _ _ _ _ ?_; exact HBr.out)

end Go.Proofs.Ytpnlcmdapkhdgaa
