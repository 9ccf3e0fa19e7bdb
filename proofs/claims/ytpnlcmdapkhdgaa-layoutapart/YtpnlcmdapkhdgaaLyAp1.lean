/-
  LayoutApart's law in pieces: the loop over sections.
-/
import Derived.Test.YtpnlcmdapkhdgaaLyAp0
namespace Go.Proofs.Ytpnlcmdapkhdgaa
open Go Go.RowKit
set_option linter.unusedVariables false
attribute [local go_sem] lat_cell
attribute [local go_sem] run_geq_str

set_option maxHeartbeats 32000000 in
set_option maxRecDepth 1000000 in
theorem apart_loop1 {zc0 zc1 zc2 zc3 zc4 zc6 zc9 zc10 zc11 zc12 zc13 zc14 zc15 zc16 zc17 zc18 zc19 zc20 zc21 zc22 zc23 zc24 zc25 zc26 zc27 zc28 zc29 zc30 zc31 zc32 zc33 zc34 zc35 zc36 zc37 zc38 zc39 zc40 zc41 zc42 zc43 zc44 zc45 zc46 zc47 zc48 zc49 zc50 zc51 zc52 zc53 zc54 zc55 zc56 zc57 zc58 zc59 zc60 zc61 zc62 zc63 zc64 zc65 zc66 zc67 zc68 zc69 zc70 zc71 zc72 zc73 zc74 zc75 zc76 zc77 zc78 zc79 zc80 zc81 zc82 zc83 zc84 zc85 zc86 zc87 zc88 zc89 zc90 zc91 zc92 zc93 zc94 zc95 zc96 zc97 zc98 zc99 zc100 zc101 zc102 zc103 zc104 zc105 zc106 zc107 zc108 zc109 zc110 zc111 zc112 zc113 zc114 zc115 zc116 zc117 zc118 zc119 zc120 zc121 zc122 zc123 zc124 zc125 zc126 zc127 zc128 zc129 zc130 zc131 zc132 zc133 zc134 zc135 zc136 zc137 zc138 zc139 zc140 zc141 zc142 zc143 zc144 zc145 zc146 zc147 zc148 zc149 zc150 zc151 zc152 zc153 zc154 zc155 zc156 zc157 zc158 zc159 zc160 zc161 zc162 zc163 zc164 zc165 zc166 zc167 zc168 zc169 zc170 zc171 zc172 zc173 zc174 zc175 zc176 zc177 zc178 zc179 zc180 zc181 zc182 zc183 zc184 zc185 zc186 zc187 zc188 zc189 zc190 zc191 zc192 zc193 zc194 zc195 zc196 zc197 zc198 zc199 zc200 zc201 zc202 zc203 zc204 zc205 zc206 zc207 zc208 zc209 zc210 zc211 zc212 zc213 zc214 zc215 zc216 zc217 zc218 zc219 zc220 zc221 zc222 zc223 zc224 zc225 zc226 zc227 zc228 zc229 zc230 zc231 zc232 zc233 zc234 zc235 zc236 zc237 zc238 zc239 zc240 zc241 zc242 zc243 zc244 zc245 zc246 zc247 zc248 zc249 zc250 zc251 zc252 zc253 zc254 zc255 zc256 zc257 zc258 zc259 zc260 zc261 zc262 zc263 zc264 zc265 zc266 zc267 zc268 zc269 zc270 zc271 zc272 zc273 zc274 zc275 zc276 zc277 zc278 zc279 zc280 zc281 zc282 zc283 zc284 zc285 zc286 zc287 zc288 zc289 zc290 zc291 zc292 zc293 zc294 zc295 zc296 zc297 zc298 zc299 zc300 zc301 zc302 zc303 zc304 zc305 zc306 zc307 zc308 zc309 zc310 zc311 zc312 zc313 zc314 zc315 zc316 zc317 zc318 zc319 zc320 zc321 zc322 zc323 zc324 zc325 zc326 zc327 zc328 zc329 zc330 zc331 zc332 zc333 zc334 zc335 zc336 zc337 zc338 zc339 zc340 zc341 zc342 zc343 zc344 zc345 zc346 zc347 zc348 zc349 zc350 zc351 zc352 zc353 zc354 zc355 zc356 zc357 zc358 zc359 zc360 : Value} (p : M.Prt) (base : Int) (a1 a2 : Option Addr) (c1 c2 : Nat) (w Y WZ : World) (n1 : Nat) (xf xn xc : Option Addr) (yf yn yc : Nat) (hcap : p.frags.length ≤ c1) (hnf : p.frags.length ≤ 60)
    (HOk : Hid (∀ f ∈ p.frags, M.FrgOk f)) (HCk : Hid (M.checkPart p = 0)) (HAp : Hid (M.Apart p base)) (HV : Hid (ApMem w Y n1 xf xn xc yf yn yc p base a1 a2 c1 c2)) (HB0 : Hid (Below Y.heap.size Y WZ)) {Q0 : Exit → Act → World → Prop}
    (hexit : ∀ (zv4 zv7 zv8 zv55 zv56 zv57 zv58 zv59 zv60 zv61 zv62 zv63 zv64 zv65 zv66 zv67 zv68 zv69 zv70 zv71 zv72 zv73 zv74 zv75 zv76 zv77 zv78 zv79 zv80 zv81 zv82 zv83 zv84 zv85 zv86 zv87 zv88 zv89 zv90 zv91 zv92 zv93 zv94 : Value) (w'' : World), Below Y.heap.size Y w'' → Q0 (.exit 0) ⟨List.toArray (zc0 :: zc1 :: zc2 :: zc3 :: zv4 :: .pointer (some ⟨n1, 0, none⟩) :: zc6 :: zv7 :: zv8 :: zc9 :: zc10 :: zc11 :: zc12 :: zc13 :: zc14 :: zc15 :: zc16 :: zc17 :: zc18 :: zc19 :: zc20 :: zc21 :: zc22 :: zc23 :: zc24 :: zc25 :: zc26 :: zc27 :: zc28 :: zc29 :: zc30 :: zc31 :: zc32 :: zc33 :: zc34 :: zc35 :: zc36 :: zc37 :: zc38 :: zc39 :: zc40 :: zc41 :: zc42 :: zc43 :: zc44 :: zc45 :: zc46 :: zc47 :: zc48 :: zc49 :: zc50 :: zc51 :: zc52 :: zc53 :: zc54 :: zv55 :: zv56 :: zv57 :: zv58 :: zv59 :: zv60 :: zv61 :: zv62 :: zv63 :: zv64 :: zv65 :: zv66 :: zv67 :: zv68 :: zv69 :: zv70 :: zv71 :: zv72 :: zv73 :: zv74 :: zv75 :: zv76 :: zv77 :: zv78 :: zv79 :: zv80 :: zv81 :: zv82 :: zv83 :: zv84 :: zv85 :: zv86 :: zv87 :: zv88 :: zv89 :: zv90 :: zv91 :: zv92 :: zv93 :: zv94 :: zc95 :: zc96 :: zc97 :: zc98 :: zc99 :: zc100 :: zc101 :: zc102 :: zc103 :: zc104 :: zc105 :: zc106 :: zc107 :: zc108 :: zc109 :: zc110 :: zc111 :: zc112 :: zc113 :: zc114 :: zc115 :: zc116 :: zc117 :: zc118 :: zc119 :: zc120 :: zc121 :: zc122 :: zc123 :: zc124 :: zc125 :: zc126 :: zc127 :: zc128 :: zc129 :: zc130 :: zc131 :: zc132 :: zc133 :: zc134 :: zc135 :: zc136 :: zc137 :: zc138 :: zc139 :: zc140 :: zc141 :: zc142 :: zc143 :: zc144 :: zc145 :: zc146 :: zc147 :: zc148 :: zc149 :: zc150 :: zc151 :: zc152 :: zc153 :: zc154 :: zc155 :: zc156 :: zc157 :: zc158 :: zc159 :: zc160 :: zc161 :: zc162 :: zc163 :: zc164 :: zc165 :: zc166 :: zc167 :: zc168 :: zc169 :: zc170 :: zc171 :: zc172 :: zc173 :: zc174 :: zc175 :: zc176 :: zc177 :: zc178 :: zc179 :: zc180 :: zc181 :: zc182 :: zc183 :: zc184 :: zc185 :: zc186 :: zc187 :: zc188 :: zc189 :: zc190 :: zc191 :: zc192 :: zc193 :: zc194 :: zc195 :: zc196 :: zc197 :: zc198 :: zc199 :: zc200 :: zc201 :: zc202 :: zc203 :: zc204 :: zc205 :: zc206 :: zc207 :: zc208 :: zc209 :: zc210 :: zc211 :: zc212 :: zc213 :: zc214 :: zc215 :: zc216 :: zc217 :: zc218 :: zc219 :: zc220 :: zc221 :: zc222 :: zc223 :: zc224 :: zc225 :: zc226 :: zc227 :: zc228 :: zc229 :: zc230 :: zc231 :: zc232 :: zc233 :: zc234 :: zc235 :: zc236 :: zc237 :: zc238 :: zc239 :: zc240 :: zc241 :: zc242 :: zc243 :: zc244 :: zc245 :: zc246 :: zc247 :: zc248 :: zc249 :: zc250 :: zc251 :: zc252 :: zc253 :: zc254 :: zc255 :: zc256 :: zc257 :: zc258 :: zc259 :: zc260 :: zc261 :: zc262 :: zc263 :: zc264 :: zc265 :: zc266 :: zc267 :: zc268 :: zc269 :: zc270 :: zc271 :: zc272 :: zc273 :: zc274 :: zc275 :: zc276 :: zc277 :: zc278 :: zc279 :: zc280 :: zc281 :: zc282 :: zc283 :: zc284 :: zc285 :: zc286 :: zc287 :: zc288 :: zc289 :: zc290 :: zc291 :: zc292 :: zc293 :: zc294 :: zc295 :: zc296 :: zc297 :: zc298 :: zc299 :: zc300 :: zc301 :: zc302 :: zc303 :: zc304 :: zc305 :: zc306 :: zc307 :: zc308 :: zc309 :: zc310 :: zc311 :: zc312 :: zc313 :: zc314 :: zc315 :: zc316 :: zc317 :: zc318 :: zc319 :: zc320 :: zc321 :: zc322 :: zc323 :: zc324 :: zc325 :: zc326 :: zc327 :: zc328 :: zc329 :: zc330 :: zc331 :: zc332 :: zc333 :: zc334 :: zc335 :: zc336 :: zc337 :: zc338 :: zc339 :: zc340 :: zc341 :: zc342 :: zc343 :: zc344 :: zc345 :: zc346 :: zc347 :: zc348 :: zc349 :: zc350 :: zc351 :: zc352 :: zc353 :: zc354 :: zc355 :: zc356 :: zc357 :: zc358 :: zc359 :: zc360 :: []), []⟩ w'') :
    Code.wp Try.prog (Code.loop (((Try.f3.body.map loopsOf).getD [])[0]?.getD .skip : Code)) Q0 ⟨List.toArray (zc0 :: zc1 :: zc2 :: zc3 :: zc4 :: .pointer (some ⟨n1, 0, none⟩) :: zc6 :: .int .i64 base :: .int .i64 1 :: zc9 :: zc10 :: zc11 :: zc12 :: zc13 :: zc14 :: zc15 :: zc16 :: zc17 :: zc18 :: zc19 :: zc20 :: zc21 :: zc22 :: zc23 :: zc24 :: zc25 :: zc26 :: zc27 :: zc28 :: zc29 :: zc30 :: zc31 :: zc32 :: zc33 :: zc34 :: zc35 :: zc36 :: zc37 :: zc38 :: zc39 :: zc40 :: zc41 :: zc42 :: zc43 :: zc44 :: zc45 :: zc46 :: zc47 :: zc48 :: zc49 :: zc50 :: zc51 :: zc52 :: zc53 :: zc54 :: zc55 :: zc56 :: zc57 :: zc58 :: zc59 :: zc60 :: zc61 :: zc62 :: zc63 :: zc64 :: zc65 :: zc66 :: zc67 :: zc68 :: zc69 :: zc70 :: zc71 :: zc72 :: zc73 :: zc74 :: zc75 :: zc76 :: zc77 :: zc78 :: zc79 :: zc80 :: zc81 :: zc82 :: zc83 :: zc84 :: zc85 :: zc86 :: zc87 :: zc88 :: zc89 :: zc90 :: zc91 :: zc92 :: zc93 :: zc94 :: zc95 :: zc96 :: zc97 :: zc98 :: zc99 :: zc100 :: zc101 :: zc102 :: zc103 :: zc104 :: zc105 :: zc106 :: zc107 :: zc108 :: zc109 :: zc110 :: zc111 :: zc112 :: zc113 :: zc114 :: zc115 :: zc116 :: zc117 :: zc118 :: zc119 :: zc120 :: zc121 :: zc122 :: zc123 :: zc124 :: zc125 :: zc126 :: zc127 :: zc128 :: zc129 :: zc130 :: zc131 :: zc132 :: zc133 :: zc134 :: zc135 :: zc136 :: zc137 :: zc138 :: zc139 :: zc140 :: zc141 :: zc142 :: zc143 :: zc144 :: zc145 :: zc146 :: zc147 :: zc148 :: zc149 :: zc150 :: zc151 :: zc152 :: zc153 :: zc154 :: zc155 :: zc156 :: zc157 :: zc158 :: zc159 :: zc160 :: zc161 :: zc162 :: zc163 :: zc164 :: zc165 :: zc166 :: zc167 :: zc168 :: zc169 :: zc170 :: zc171 :: zc172 :: zc173 :: zc174 :: zc175 :: zc176 :: zc177 :: zc178 :: zc179 :: zc180 :: zc181 :: zc182 :: zc183 :: zc184 :: zc185 :: zc186 :: zc187 :: zc188 :: zc189 :: zc190 :: zc191 :: zc192 :: zc193 :: zc194 :: zc195 :: zc196 :: zc197 :: zc198 :: zc199 :: zc200 :: zc201 :: zc202 :: zc203 :: zc204 :: zc205 :: zc206 :: zc207 :: zc208 :: zc209 :: zc210 :: zc211 :: zc212 :: zc213 :: zc214 :: zc215 :: zc216 :: zc217 :: zc218 :: zc219 :: zc220 :: zc221 :: zc222 :: zc223 :: zc224 :: zc225 :: zc226 :: zc227 :: zc228 :: zc229 :: zc230 :: zc231 :: zc232 :: zc233 :: zc234 :: zc235 :: zc236 :: zc237 :: zc238 :: zc239 :: zc240 :: zc241 :: zc242 :: zc243 :: zc244 :: zc245 :: zc246 :: zc247 :: zc248 :: zc249 :: zc250 :: zc251 :: zc252 :: zc253 :: zc254 :: zc255 :: zc256 :: zc257 :: zc258 :: zc259 :: zc260 :: zc261 :: zc262 :: zc263 :: zc264 :: zc265 :: zc266 :: zc267 :: zc268 :: zc269 :: zc270 :: zc271 :: zc272 :: zc273 :: zc274 :: zc275 :: zc276 :: zc277 :: zc278 :: zc279 :: zc280 :: zc281 :: zc282 :: zc283 :: zc284 :: zc285 :: zc286 :: zc287 :: zc288 :: zc289 :: zc290 :: zc291 :: zc292 :: zc293 :: zc294 :: zc295 :: zc296 :: zc297 :: zc298 :: zc299 :: zc300 :: zc301 :: zc302 :: zc303 :: zc304 :: zc305 :: zc306 :: zc307 :: zc308 :: zc309 :: zc310 :: zc311 :: zc312 :: zc313 :: zc314 :: zc315 :: zc316 :: zc317 :: zc318 :: zc319 :: zc320 :: zc321 :: zc322 :: zc323 :: zc324 :: zc325 :: zc326 :: zc327 :: zc328 :: zc329 :: zc330 :: zc331 :: zc332 :: zc333 :: zc334 :: zc335 :: zc336 :: zc337 :: zc338 :: zc339 :: zc340 :: zc341 :: zc342 :: zc343 :: zc344 :: zc345 :: zc346 :: zc347 :: zc348 :: zc349 :: zc350 :: zc351 :: zc352 :: zc353 :: zc354 :: zc355 :: zc356 :: zc357 :: zc358 :: zc359 :: zc360 :: []), []⟩ WZ := by
  unfold ApMem at HV
  have HSm : Hid (∀ (j : Nat) (f : M.Frg), p.frags[j]? = some f → 0 ≤ (M.layAll p base).frags.getD j 0 ∧ (M.layAll p base).frags.getD j 0 + M.long f ≤ 65536) := fun j f hj => by
    have ho := HOk.out f (List.mem_of_getElem? hj)
    have h1 := HAp.out.frag j f f.sect.toNat hj (by have := ho.sect; omega)
    have h2 := HAp.out.ti f.sect.toNat (by have := ho.sect; omega) (by have := ho.sect; omega)
    omega
  have T16 : Hid _ := HAp.out.fr16
  have T1 : Hid _ := HAp.out.fr1
  have TN : Hid _ := HAp.out.frN
  have TT : Hid _ := HAp.out.ti
  have TF : Hid _ := HAp.out.frag
  have TA : Hid _ := HAp.out.apart
  have TLF : Hid _ := HAp.out.lenF
  have TLN : Hid _ := HAp.out.lenN
  have TC : Hid _ := HAp.out.com
  have TZ : Hid _ := HAp.out.zero
  have TR : Hid _ := HAp.out.rise
  have TS : Hid _ := HAp.out.strict
  clear HAp
  generalize (M.layAll p base).fr = fr at *
  generalize (M.layAll p base).ti = ti at *
  generalize (M.layAll p base).frags = F at *
  generalize (M.layAll p base).coms = C at *
  generalize (M.layAll p base).names = N at *
  conv => arg 2; arg 1; whnf
  go_loopw [7, 8] (fun s7 s8 wr => ∃ (k : Nat), 1 ≤ k ∧ k ≤ 6 ∧ s8 = .int .i64 k ∧ s7 = .int .i64 (lastAt base ti k) ∧ Hid (Below Y.heap.size Y wr)) (fun _ s8 _ => 6 - (intOf s8).toNat)
  case atStart => exact ⟨1, by decide, by decide, rfl, rfl, HB0⟩
  case round =>
    obtain ⟨k, hk1, hk6, rfl, rfl, HBr⟩ := hrel
    obtain ⟨hv1, hv2, _, _⟩ := HV.out wr HBr.out
    have hl1' : n1 < wr.heap.size := (Array.getElem?_eq_some_iff.1 hv1.1).1
    have hcase : k = 1 ∨ k = 2 ∨ k = 3 ∨ k = 4 ∨ k = 5 ∨ k = 6 := by omega
    rcases hcase with rfl | rfl | rfl | rfl | rfl | rfl
    · have e16 := T16.out 1 (by decide) (by decide)
      obtain ⟨e1, e2, e3⟩ := TT.out 1 (by decide) (by decide)
      have e4 : base ≤ fr 1 := T1.out
      have g1 : ((fr 1).tmod 16 != 0) = false := by rw [Int.tmod_eq_emod_of_nonneg e3, e16]; rfl
      have g1' : ((fr 1) % 16 != 0) = false := by rw [e16]; rfl
      have g2 : decide (fr 1 < base) = false := by simp; omega
      have g3 : decide (ti 1 < fr 1) = false := by simp; omega
      have g4 : decide (65536 < ti 1) = false := by simp; omega
      have k1 : wr.cell? ⟨n1, 4, none⟩ = some (.int .i64 (fr 1)) := cellB hv1.1 4
      have k2 : wr.cell? ⟨n1, 10, none⟩ = some (.int .i64 (ti 1)) := cellB hv1.1 10
      clear e16 e4 hv1
      rw [show lastAt base ti 1 = base from rfl]
      go_upto_region 10 with fail
      refine wp_region_lat (by kernel_rfl) (by kernel_rfl) ?_
      intro hne
      repeat (go_big_quiet_step (fail))
      refine wpQuiet_nil ?_
      intro V hbV
      have hbV := lat_out hbV
      have k2' := cell_later hbV k2
      have hlV := Nat.lt_of_lt_of_le hl1' hbV.size
      clear hne k1 k2
      go_wp2
      go_roundw
      case rel => exact ⟨2, by decide, by decide, by go_num, rfl, HBr.out.trans (hbV.mono HBr.out.size)⟩
      case measure => simp [intOf]
    · have e16 := T16.out 2 (by decide) (by decide)
      obtain ⟨e1, e2, e3⟩ := TT.out 2 (by decide) (by decide)
      have e4 : (ti 1) ≤ fr 2 := TN.out 1 (by decide) (by decide)
      have g1 : ((fr 2).tmod 16 != 0) = false := by rw [Int.tmod_eq_emod_of_nonneg e3, e16]; rfl
      have g1' : ((fr 2) % 16 != 0) = false := by rw [e16]; rfl
      have g2 : decide (fr 2 < (ti 1)) = false := by simp; omega
      have g3 : decide (ti 2 < fr 2) = false := by simp; omega
      have g4 : decide (65536 < ti 2) = false := by simp; omega
      have k1 : wr.cell? ⟨n1, 5, none⟩ = some (.int .i64 (fr 2)) := cellB hv1.1 5
      have k2 : wr.cell? ⟨n1, 11, none⟩ = some (.int .i64 (ti 2)) := cellB hv1.1 11
      clear e16 e4 hv1
      rw [show lastAt base ti 2 = (ti 1) from rfl]
      go_upto_region 10 with fail
      refine wp_region_lat (by kernel_rfl) (by kernel_rfl) ?_
      intro hne
      repeat (go_big_quiet_step (fail))
      refine wpQuiet_nil ?_
      intro V hbV
      have hbV := lat_out hbV
      have k2' := cell_later hbV k2
      have hlV := Nat.lt_of_lt_of_le hl1' hbV.size
      clear hne k1 k2
      go_wp2
      go_roundw
      case rel => exact ⟨3, by decide, by decide, by go_num, rfl, HBr.out.trans (hbV.mono HBr.out.size)⟩
      case measure => simp [intOf]
    · have e16 := T16.out 3 (by decide) (by decide)
      obtain ⟨e1, e2, e3⟩ := TT.out 3 (by decide) (by decide)
      have e4 : (ti 2) ≤ fr 3 := TN.out 2 (by decide) (by decide)
      have g1 : ((fr 3).tmod 16 != 0) = false := by rw [Int.tmod_eq_emod_of_nonneg e3, e16]; rfl
      have g1' : ((fr 3) % 16 != 0) = false := by rw [e16]; rfl
      have g2 : decide (fr 3 < (ti 2)) = false := by simp; omega
      have g3 : decide (ti 3 < fr 3) = false := by simp; omega
      have g4 : decide (65536 < ti 3) = false := by simp; omega
      have k1 : wr.cell? ⟨n1, 6, none⟩ = some (.int .i64 (fr 3)) := cellB hv1.1 6
      have k2 : wr.cell? ⟨n1, 12, none⟩ = some (.int .i64 (ti 3)) := cellB hv1.1 12
      clear e16 e4 hv1
      rw [show lastAt base ti 3 = (ti 2) from rfl]
      go_upto_region 10 with fail
      refine wp_region_lat (by kernel_rfl) (by kernel_rfl) ?_
      intro hne
      repeat (go_big_quiet_step (fail))
      refine wpQuiet_nil ?_
      intro V hbV
      have hbV := lat_out hbV
      have k2' := cell_later hbV k2
      have hlV := Nat.lt_of_lt_of_le hl1' hbV.size
      clear hne k1 k2
      go_wp2
      go_roundw
      case rel => exact ⟨4, by decide, by decide, by go_num, rfl, HBr.out.trans (hbV.mono HBr.out.size)⟩
      case measure => simp [intOf]
    · have e16 := T16.out 4 (by decide) (by decide)
      obtain ⟨e1, e2, e3⟩ := TT.out 4 (by decide) (by decide)
      have e4 : (ti 3) ≤ fr 4 := TN.out 3 (by decide) (by decide)
      have g1 : ((fr 4).tmod 16 != 0) = false := by rw [Int.tmod_eq_emod_of_nonneg e3, e16]; rfl
      have g1' : ((fr 4) % 16 != 0) = false := by rw [e16]; rfl
      have g2 : decide (fr 4 < (ti 3)) = false := by simp; omega
      have g3 : decide (ti 4 < fr 4) = false := by simp; omega
      have g4 : decide (65536 < ti 4) = false := by simp; omega
      have k1 : wr.cell? ⟨n1, 7, none⟩ = some (.int .i64 (fr 4)) := cellB hv1.1 7
      have k2 : wr.cell? ⟨n1, 13, none⟩ = some (.int .i64 (ti 4)) := cellB hv1.1 13
      clear e16 e4 hv1
      rw [show lastAt base ti 4 = (ti 3) from rfl]
      go_upto_region 10 with fail
      refine wp_region_lat (by kernel_rfl) (by kernel_rfl) ?_
      intro hne
      repeat (go_big_quiet_step (fail))
      refine wpQuiet_nil ?_
      intro V hbV
      have hbV := lat_out hbV
      have k2' := cell_later hbV k2
      have hlV := Nat.lt_of_lt_of_le hl1' hbV.size
      clear hne k1 k2
      go_wp2
      go_roundw
      case rel => exact ⟨5, by decide, by decide, by go_num, rfl, HBr.out.trans (hbV.mono HBr.out.size)⟩
      case measure => simp [intOf]
    · have e16 := T16.out 5 (by decide) (by decide)
      obtain ⟨e1, e2, e3⟩ := TT.out 5 (by decide) (by decide)
      have e4 : (ti 4) ≤ fr 5 := TN.out 4 (by decide) (by decide)
      have g1 : ((fr 5).tmod 16 != 0) = false := by rw [Int.tmod_eq_emod_of_nonneg e3, e16]; rfl
      have g1' : ((fr 5) % 16 != 0) = false := by rw [e16]; rfl
      have g2 : decide (fr 5 < (ti 4)) = false := by simp; omega
      have g3 : decide (ti 5 < fr 5) = false := by simp; omega
      have g4 : decide (65536 < ti 5) = false := by simp; omega
      have k1 : wr.cell? ⟨n1, 8, none⟩ = some (.int .i64 (fr 5)) := cellB hv1.1 8
      have k2 : wr.cell? ⟨n1, 14, none⟩ = some (.int .i64 (ti 5)) := cellB hv1.1 14
      clear e16 e4 hv1
      rw [show lastAt base ti 5 = (ti 4) from rfl]
      go_upto_region 10 with fail
      refine wp_region_lat (by kernel_rfl) (by kernel_rfl) ?_
      intro hne
      repeat (go_big_quiet_step (fail))
      refine wpQuiet_nil ?_
      intro V hbV
      have hbV := lat_out hbV
      have k2' := cell_later hbV k2
      have hlV := Nat.lt_of_lt_of_le hl1' hbV.size
      clear hne k1 k2
      go_wp2
      go_roundw
      case rel => exact ⟨6, by decide, by decide, by go_num, rfl, HBr.out.trans (hbV.mono HBr.out.size)⟩
      case measure => simp [intOf]
    · rw [show ((6 : Nat) : Int) = 6 from rfl]
      clear hv1 hv2
      go_wp2_with fail
      first
        | exact HBr.out
        | (refine hexit _ _ _ _ _ _ _ _ _ _ _ _ _ _ _ _ _ _ _ _ _ _ _ _ _ _ _ _ _ _ _ _ _ _ _ _ _ _ _ _ _ _ _ _ ?_; exact HBr.out)

end Go.Proofs.Ytpnlcmdapkhdgaa
