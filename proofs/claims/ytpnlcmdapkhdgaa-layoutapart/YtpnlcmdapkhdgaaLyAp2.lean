/-
  LayoutApart's law in pieces: the loop over fragments.
-/
import Derived.Test.YtpnlcmdapkhdgaaLyAp0
namespace Go.Proofs.Ytpnlcmdapkhdgaa
open Go Go.RowKit
set_option linter.unusedVariables false
attribute [local go_sem] lat_cell
attribute [local go_sem] run_geq_str

set_option maxHeartbeats 32000000 in
set_option maxRecDepth 1000000 in
theorem apart_loop2 {zc0 zc1 zc3 zc4 zc6 zc7 zc8 zc9 zc10 zc11 zc12 zc13 zc14 zc15 zc16 zc17 zc18 zc19 zc20 zc21 zc22 zc23 zc24 zc25 zc26 zc27 zc28 zc29 zc30 zc31 zc32 zc33 zc34 zc35 zc36 zc37 zc38 zc39 zc40 zc41 zc42 zc43 zc44 zc45 zc46 zc47 zc48 zc49 zc50 zc51 zc52 zc53 zc54 zc55 zc56 zc57 zc58 zc59 zc60 zc61 zc62 zc63 zc64 zc65 zc66 zc67 zc68 zc69 zc70 zc71 zc72 zc73 zc74 zc75 zc76 zc77 zc78 zc79 zc80 zc81 zc82 zc83 zc84 zc85 zc86 zc87 zc88 zc89 zc90 zc91 zc92 zc93 zc94 zc95 zc99 zc100 zc101 zc102 zc103 zc104 zc105 zc106 zc107 zc108 zc109 zc110 zc111 zc112 zc113 zc114 zc115 zc116 zc117 zc118 zc119 zc120 zc121 zc122 zc123 zc124 zc125 zc126 zc127 zc128 zc129 zc130 zc131 zc132 zc133 zc134 zc135 zc136 zc137 zc138 zc139 zc140 zc141 zc142 zc143 zc144 zc145 zc146 zc147 zc148 zc149 zc150 zc151 zc152 zc153 zc154 zc155 zc156 zc157 zc158 zc159 zc160 zc161 zc162 zc163 zc164 zc165 zc166 zc167 zc168 zc169 zc170 zc171 zc172 zc173 zc174 zc175 zc176 zc177 zc178 zc179 zc180 zc181 zc182 zc183 zc184 zc185 zc186 zc187 zc188 zc189 zc190 zc191 zc192 zc193 zc194 zc195 zc196 zc197 zc198 zc199 zc200 zc201 zc202 zc203 zc204 zc205 zc206 zc207 zc208 zc209 zc210 zc211 zc212 zc213 zc214 zc215 zc216 zc217 zc218 zc219 zc220 zc221 zc222 zc223 zc224 zc225 zc226 zc227 zc228 zc229 zc230 zc231 zc232 zc233 zc234 zc235 zc236 zc237 zc238 zc239 zc240 zc241 zc242 zc243 zc244 zc245 zc246 zc247 zc248 zc249 zc250 zc251 zc252 zc253 zc254 zc255 zc256 zc257 zc258 zc259 zc260 zc261 zc262 zc263 zc264 zc265 zc266 zc267 zc268 zc269 zc270 zc271 zc272 zc273 zc274 zc275 zc276 zc277 zc278 zc279 zc280 zc281 zc282 zc283 zc284 zc285 zc286 zc287 zc288 zc289 zc290 zc291 zc292 zc293 zc294 zc295 zc296 zc297 zc298 zc299 zc300 zc301 zc302 zc303 zc304 zc305 zc306 zc307 zc308 zc309 zc310 zc311 zc312 zc313 zc314 zc315 zc316 zc317 zc318 zc319 zc320 zc321 zc322 zc323 zc324 zc325 zc326 zc327 zc328 zc329 zc330 zc331 zc332 zc333 zc334 zc335 zc336 zc337 zc338 zc339 zc340 zc341 zc342 zc343 zc344 zc345 zc346 zc347 zc348 zc349 zc350 zc351 zc352 zc353 zc354 zc355 zc356 zc357 zc358 zc359 zc360 : Value} (p : M.Prt) (base : Int) (a1 a2 : Option Addr) (c1 c2 : Nat) (w Y WA : World) (n1 : Nat) (xf xn xc : Option Addr) (yf yn yc : Nat) (hcap : p.frags.length ≤ c1) (hnf : p.frags.length ≤ 60)
    (HOk : Hid (∀ f ∈ p.frags, M.FrgOk f)) (HCk : Hid (M.checkPart p = 0)) (HAp : Hid (M.Apart p base)) (HV : Hid (ApMem w Y n1 xf xn xc yf yn yc p base a1 a2 c1 c2)) (HB0 : Hid (Below Y.heap.size Y WA)) {Q0 : Exit → Act → World → Prop}
    (hexit : ∀ (zv4 zv9 zv10 zv11 zv12 zv13 zv14 zv15 zv98 zv99 zv100 zv101 zv102 zv103 zv104 zv105 zv106 zv107 zv108 zv109 zv110 zv111 zv112 zv113 zv114 zv115 zv116 zv117 zv118 zv119 zv120 zv121 zv122 zv123 zv124 zv125 zv126 zv127 zv128 zv129 zv130 zv131 zv132 zv133 zv134 zv135 zv136 zv137 zv138 zv139 zv140 zv141 zv142 zv143 zv144 zv145 zv146 zv147 zv148 zv149 zv150 zv151 zv152 zv153 zv154 zv155 zv156 zv157 zv158 zv159 zv160 zv161 zv162 zv163 zv164 zv165 zv166 zv167 zv168 zv169 zv170 zv171 zv172 zv173 zv174 zv175 zv176 zv177 zv178 zv179 zv180 zv181 zv182 zv183 zv184 zv185 zv186 zv187 zv188 zv189 zv190 zv191 zv192 zv193 zv194 zv195 zv196 zv197 zv198 zv199 zv200 zv201 zv202 zv203 zv204 zv205 zv206 zv207 zv208 zv209 zv210 zv211 zv212 zv213 zv214 zv215 zv216 zv217 zv218 zv219 zv220 zv221 zv222 zv223 zv224 zv225 zv226 zv227 zv228 zv229 zv230 zv231 zv232 zv233 zv234 zv235 zv236 zv237 zv238 zv239 zv240 zv241 zv242 : Value) (w'' : World), Below Y.heap.size Y w'' → Q0 (.exit 2) ⟨List.toArray (zc0 :: zc1 :: .pointer (some ⟨w.heap.size, 0, none⟩) :: zc3 :: zv4 :: .pointer (some ⟨n1, 0, none⟩) :: zc6 :: zc7 :: zc8 :: zv9 :: zv10 :: zv11 :: zv12 :: zv13 :: zv14 :: zv15 :: zc16 :: zc17 :: zc18 :: zc19 :: zc20 :: zc21 :: zc22 :: zc23 :: zc24 :: zc25 :: zc26 :: zc27 :: zc28 :: zc29 :: zc30 :: zc31 :: zc32 :: zc33 :: zc34 :: zc35 :: zc36 :: zc37 :: zc38 :: zc39 :: zc40 :: zc41 :: zc42 :: zc43 :: zc44 :: zc45 :: zc46 :: zc47 :: zc48 :: zc49 :: zc50 :: zc51 :: zc52 :: zc53 :: zc54 :: zc55 :: zc56 :: zc57 :: zc58 :: zc59 :: zc60 :: zc61 :: zc62 :: zc63 :: zc64 :: zc65 :: zc66 :: zc67 :: zc68 :: zc69 :: zc70 :: zc71 :: zc72 :: zc73 :: zc74 :: zc75 :: zc76 :: zc77 :: zc78 :: zc79 :: zc80 :: zc81 :: zc82 :: zc83 :: zc84 :: zc85 :: zc86 :: zc87 :: zc88 :: zc89 :: zc90 :: zc91 :: zc92 :: zc93 :: zc94 :: zc95 :: .slice a1 p.frags.length c1 :: .int .i64 (p.frags.length : Int) :: zv98 :: zv99 :: zv100 :: zv101 :: zv102 :: zv103 :: zv104 :: zv105 :: zv106 :: zv107 :: zv108 :: zv109 :: zv110 :: zv111 :: zv112 :: zv113 :: zv114 :: zv115 :: zv116 :: zv117 :: zv118 :: zv119 :: zv120 :: zv121 :: zv122 :: zv123 :: zv124 :: zv125 :: zv126 :: zv127 :: zv128 :: zv129 :: zv130 :: zv131 :: zv132 :: zv133 :: zv134 :: zv135 :: zv136 :: zv137 :: zv138 :: zv139 :: zv140 :: zv141 :: zv142 :: zv143 :: zv144 :: zv145 :: zv146 :: zv147 :: zv148 :: zv149 :: zv150 :: zv151 :: zv152 :: zv153 :: zv154 :: zv155 :: zv156 :: zv157 :: zv158 :: zv159 :: zv160 :: zv161 :: zv162 :: zv163 :: zv164 :: zv165 :: zv166 :: zv167 :: zv168 :: zv169 :: zv170 :: zv171 :: zv172 :: zv173 :: zv174 :: zv175 :: zv176 :: zv177 :: zv178 :: zv179 :: zv180 :: zv181 :: zv182 :: zv183 :: zv184 :: zv185 :: zv186 :: zv187 :: zv188 :: zv189 :: zv190 :: zv191 :: zv192 :: zv193 :: zv194 :: zv195 :: zv196 :: zv197 :: zv198 :: zv199 :: zv200 :: zv201 :: zv202 :: zv203 :: zv204 :: zv205 :: zv206 :: zv207 :: zv208 :: zv209 :: zv210 :: zv211 :: zv212 :: zv213 :: zv214 :: zv215 :: zv216 :: zv217 :: zv218 :: zv219 :: zv220 :: zv221 :: zv222 :: zv223 :: zv224 :: zv225 :: zv226 :: zv227 :: zv228 :: zv229 :: zv230 :: zv231 :: zv232 :: zv233 :: zv234 :: zv235 :: zv236 :: zv237 :: zv238 :: zv239 :: zv240 :: zv241 :: zv242 :: zc243 :: zc244 :: zc245 :: zc246 :: zc247 :: zc248 :: zc249 :: zc250 :: zc251 :: zc252 :: zc253 :: zc254 :: zc255 :: zc256 :: zc257 :: zc258 :: zc259 :: zc260 :: zc261 :: zc262 :: zc263 :: zc264 :: zc265 :: zc266 :: zc267 :: zc268 :: zc269 :: zc270 :: zc271 :: zc272 :: zc273 :: zc274 :: zc275 :: zc276 :: zc277 :: zc278 :: zc279 :: zc280 :: zc281 :: zc282 :: zc283 :: zc284 :: zc285 :: zc286 :: zc287 :: zc288 :: zc289 :: zc290 :: zc291 :: zc292 :: zc293 :: zc294 :: zc295 :: zc296 :: zc297 :: zc298 :: zc299 :: zc300 :: zc301 :: zc302 :: zc303 :: zc304 :: zc305 :: zc306 :: zc307 :: zc308 :: zc309 :: zc310 :: zc311 :: zc312 :: zc313 :: zc314 :: zc315 :: zc316 :: zc317 :: zc318 :: zc319 :: zc320 :: zc321 :: zc322 :: zc323 :: zc324 :: zc325 :: zc326 :: zc327 :: zc328 :: zc329 :: zc330 :: zc331 :: zc332 :: zc333 :: zc334 :: zc335 :: zc336 :: zc337 :: zc338 :: zc339 :: zc340 :: zc341 :: zc342 :: zc343 :: zc344 :: zc345 :: zc346 :: zc347 :: zc348 :: zc349 :: zc350 :: zc351 :: zc352 :: zc353 :: zc354 :: zc355 :: zc356 :: zc357 :: zc358 :: zc359 :: zc360 :: []), []⟩ w'') :
    Code.wp Try.prog (Code.loop (((Try.f3.body.map loopsOf).getD [])[1]?.getD .skip : Code)) Q0 ⟨List.toArray (zc0 :: zc1 :: .pointer (some ⟨w.heap.size, 0, none⟩) :: zc3 :: zc4 :: .pointer (some ⟨n1, 0, none⟩) :: zc6 :: zc7 :: zc8 :: zc9 :: zc10 :: zc11 :: zc12 :: zc13 :: zc14 :: zc15 :: zc16 :: zc17 :: zc18 :: zc19 :: zc20 :: zc21 :: zc22 :: zc23 :: zc24 :: zc25 :: zc26 :: zc27 :: zc28 :: zc29 :: zc30 :: zc31 :: zc32 :: zc33 :: zc34 :: zc35 :: zc36 :: zc37 :: zc38 :: zc39 :: zc40 :: zc41 :: zc42 :: zc43 :: zc44 :: zc45 :: zc46 :: zc47 :: zc48 :: zc49 :: zc50 :: zc51 :: zc52 :: zc53 :: zc54 :: zc55 :: zc56 :: zc57 :: zc58 :: zc59 :: zc60 :: zc61 :: zc62 :: zc63 :: zc64 :: zc65 :: zc66 :: zc67 :: zc68 :: zc69 :: zc70 :: zc71 :: zc72 :: zc73 :: zc74 :: zc75 :: zc76 :: zc77 :: zc78 :: zc79 :: zc80 :: zc81 :: zc82 :: zc83 :: zc84 :: zc85 :: zc86 :: zc87 :: zc88 :: zc89 :: zc90 :: zc91 :: zc92 :: zc93 :: zc94 :: zc95 :: .slice a1 p.frags.length c1 :: .int .i64 (p.frags.length : Int) :: .int .i64 0 :: zc99 :: zc100 :: zc101 :: zc102 :: zc103 :: zc104 :: zc105 :: zc106 :: zc107 :: zc108 :: zc109 :: zc110 :: zc111 :: zc112 :: zc113 :: zc114 :: zc115 :: zc116 :: zc117 :: zc118 :: zc119 :: zc120 :: zc121 :: zc122 :: zc123 :: zc124 :: zc125 :: zc126 :: zc127 :: zc128 :: zc129 :: zc130 :: zc131 :: zc132 :: zc133 :: zc134 :: zc135 :: zc136 :: zc137 :: zc138 :: zc139 :: zc140 :: zc141 :: zc142 :: zc143 :: zc144 :: zc145 :: zc146 :: zc147 :: zc148 :: zc149 :: zc150 :: zc151 :: zc152 :: zc153 :: zc154 :: zc155 :: zc156 :: zc157 :: zc158 :: zc159 :: zc160 :: zc161 :: zc162 :: zc163 :: zc164 :: zc165 :: zc166 :: zc167 :: zc168 :: zc169 :: zc170 :: zc171 :: zc172 :: zc173 :: zc174 :: zc175 :: zc176 :: zc177 :: zc178 :: zc179 :: zc180 :: zc181 :: zc182 :: zc183 :: zc184 :: zc185 :: zc186 :: zc187 :: zc188 :: zc189 :: zc190 :: zc191 :: zc192 :: zc193 :: zc194 :: zc195 :: zc196 :: zc197 :: zc198 :: zc199 :: zc200 :: zc201 :: zc202 :: zc203 :: zc204 :: zc205 :: zc206 :: zc207 :: zc208 :: zc209 :: zc210 :: zc211 :: zc212 :: zc213 :: zc214 :: zc215 :: zc216 :: zc217 :: zc218 :: zc219 :: zc220 :: zc221 :: zc222 :: zc223 :: zc224 :: zc225 :: zc226 :: zc227 :: zc228 :: zc229 :: zc230 :: zc231 :: zc232 :: zc233 :: zc234 :: zc235 :: zc236 :: zc237 :: zc238 :: zc239 :: zc240 :: zc241 :: zc242 :: zc243 :: zc244 :: zc245 :: zc246 :: zc247 :: zc248 :: zc249 :: zc250 :: zc251 :: zc252 :: zc253 :: zc254 :: zc255 :: zc256 :: zc257 :: zc258 :: zc259 :: zc260 :: zc261 :: zc262 :: zc263 :: zc264 :: zc265 :: zc266 :: zc267 :: zc268 :: zc269 :: zc270 :: zc271 :: zc272 :: zc273 :: zc274 :: zc275 :: zc276 :: zc277 :: zc278 :: zc279 :: zc280 :: zc281 :: zc282 :: zc283 :: zc284 :: zc285 :: zc286 :: zc287 :: zc288 :: zc289 :: zc290 :: zc291 :: zc292 :: zc293 :: zc294 :: zc295 :: zc296 :: zc297 :: zc298 :: zc299 :: zc300 :: zc301 :: zc302 :: zc303 :: zc304 :: zc305 :: zc306 :: zc307 :: zc308 :: zc309 :: zc310 :: zc311 :: zc312 :: zc313 :: zc314 :: zc315 :: zc316 :: zc317 :: zc318 :: zc319 :: zc320 :: zc321 :: zc322 :: zc323 :: zc324 :: zc325 :: zc326 :: zc327 :: zc328 :: zc329 :: zc330 :: zc331 :: zc332 :: zc333 :: zc334 :: zc335 :: zc336 :: zc337 :: zc338 :: zc339 :: zc340 :: zc341 :: zc342 :: zc343 :: zc344 :: zc345 :: zc346 :: zc347 :: zc348 :: zc349 :: zc350 :: zc351 :: zc352 :: zc353 :: zc354 :: zc355 :: zc356 :: zc357 :: zc358 :: zc359 :: zc360 :: []), []⟩ WA := by
  unfold ApMem at HV
  have HSm : Hid (∀ (j : Nat) (f : M.Frg), p.frags[j]? = some f → 0 ≤ (M.layAll p base).frags.getD j 0 ∧ (M.layAll p base).frags.getD j 0 + M.long f ≤ 65536) := fun j f hj => by
    have ho := HOk.out f (List.mem_of_getElem? hj)
    have h1 := HAp.out.frag j f f.sect.toNat hj (by have := ho.sect; omega)
    have h2 := HAp.out.ti f.sect.toNat (by have := ho.sect; omega) (by have := ho.sect; omega)
    omega
  have T16 : Hid _ := HAp.out.fr16
  have T1 : Hid _ := HAp.out.fr1
  have TN : Hid _ := HAp.out.frN
  have TT : Hid _ := HAp.out.ti
  have TF : Hid _ := HAp.out.frag
  have TA : Hid _ := HAp.out.apart
  have TLF : Hid _ := HAp.out.lenF
  have TLN : Hid _ := HAp.out.lenN
  have TC : Hid _ := HAp.out.com
  have TZ : Hid _ := HAp.out.zero
  have TR : Hid _ := HAp.out.rise
  have TS : Hid _ := HAp.out.strict
  clear HAp
  generalize (M.layAll p base).fr = fr at *
  generalize (M.layAll p base).ti = ti at *
  generalize (M.layAll p base).frags = F at *
  generalize (M.layAll p base).coms = C at *
  generalize (M.layAll p base).names = N at *
  conv => arg 2; arg 1; whnf
  go_loopw [98] (fun s98 wr => ∃ (i : Nat), i ≤ p.frags.length ∧ s98 = .int .i64 i ∧ Hid (Below Y.heap.size Y wr)) (fun s98 _ => p.frags.length - (intOf s98).toNat)
  case atStart => exact ⟨0, Nat.zero_le _, rfl, HB0⟩
  case round =>
    clear HB0
    obtain ⟨i, hi, rfl, HBr⟩ := hrel
    obtain ⟨hv1, ⟨c00, c01, hl0⟩, hFr, hDf⟩ := HV.out wr HBr.out
    by_cases hlt : i < p.frags.length
    · obtain ⟨b, off, ab, cb, ar, cr, rfl, e0, e1, e2, e3, e4, e5, hBy, hRl, hg, hbl⟩ := hFr.cells i hlt
      have hfm : p.frags[i]? = some (p.frags.getD i frg0) := getElem?_getD p.frags frg0 i hlt
      have ho := HOk.out _ (getD_mem p.frags frg0 i hlt)
      obtain ⟨k, hk⟩ : ∃ k : Nat, (p.frags.getD i frg0).sect = (k : Int) := ⟨(p.frags.getD i frg0).sect.toNat, by have := ho.sect; omega⟩
      have hsm := HSm.out i _ hfm
      have hTF := TF.out i _ k hfm hk
      have hTT := TT.out k (by have := ho.sect; omega) (by have := ho.sect; omega)
      have hk15 : 1 ≤ k ∧ k ≤ 5 := by have := ho.sect; omega
      have hal := ho.align.pos
      have hL0 := ho.long0
      obtain ⟨b', off', hxf, ea, hba⟩ := IntsAt.cell hv1.2.1 i (by rw [TLF.out]; exact hlt)
      have k0 : wr.cell? ⟨n1, 0, none⟩ = some (.slice xf F.length yf) := cellB hv1.1 0
      rw [hxf] at k0
      have hlF : (i : Int) < (F.length : Int) := by rw [TLF.out]; omega
      have hbr : b < wr.heap.size := World.block_lt_of_cell? _ _ e0
      have hl1' : n1 < wr.heap.size := (Array.getElem?_eq_some_iff.1 hv1.1).1
      have hkl : (i : Int) < (p.frags.length : Int) := by omega
      have HFm : Hid (p.frags[i]? = some (p.frags.getD i frg0)) := hfm
      clear hfm hRl hbl hFr hDf ho hv1 hxf
      obtain ⟨f, hf⟩ : ∃ f, p.frags.getD i frg0 = f := ⟨_, rfl⟩
      rw [hf] at hk hsm hTF e0 e1 e2 e3 e4 e5 hg hBy hal HFm hL0
      clear hf
      obtain ⟨s, al, gr, bs, sz, rs⟩ := f
      simp only at hk hTF e0 e1 e2 e3 e4 e5 hg hBy hal
      subst hk
      have hLg : M.long ⟨(k : Int), al, gr, bs, sz, rs⟩ = M.lng k sz bs.length := rfl
      rw [hLg] at hsm hTF hL0
      obtain ⟨x, hx⟩ : ∃ x, F.getD i 0 = x := ⟨_, rfl⟩
      rw [hx] at hsm hTF ea
      have HX : Hid (F.getD i 0 = x) := hx
      clear hx hLg
      have g1 : (x.tmod al != 0) = false := by rw [Int.tmod_eq_emod_of_nonneg hsm.1, hTF.1]; rfl
      have g1' : (x % al != 0) = false := by rw [hTF.1]; rfl
      have g2 : decide (x < fr k) = false := by simp; omega
      have g3 : decide (ti k < x + M.lng k sz bs.length) = false := by simp; omega
      have hsm1 := hsm.1
      have hsm2 := hsm.2
      have hz0 : al ≠ 0 := by omega
      have hz1 : 1 ≤ al := hal.1
      have hk6 : (k : Int) < 6 := by omega
      clear hTF hTT hsm hal
      have KLg : Hid (∀ W, Calls Try.prog 6 #[.agg #[.int .i64 k, .int .i64 al, .string gr, .slice ab bs.length cb, .int .i64 sz, .slice ar rs.length cr]] W fun e w' => e = .returned (.int .i64 (M.lng k sz bs.length)) ∧ Below W.heap.size W w') := fun W => long_any k al sz gr ab bs.length cb _ W
      go_upto_region 17 with fail
      have xv := heap_alloc_new wr (.cells #[.int .i64 k, .int .i64 al, .string gr, .slice ab bs.length cb, .int .i64 sz, .slice ar rs.length cr] 38)
      have HB1 : Hid (Below Y.heap.size Y (wr.alloc (.cells #[.int .i64 k, .int .i64 al, .string gr, .slice ab bs.length cb, .int .i64 sz, .slice ar rs.length cr] 38))) := HBr.out.alloc HBr.out.size _
      have hBy1 := hBy.later (w := wr) (w' := wr.alloc (.cells #[.int .i64 k, .int .i64 al, .string gr, .slice ab bs.length cb, .int .i64 sz, .slice ar rs.length cr] 38)) ((Below.refl _ _).alloc (Nat.le_refl _) _)
      clear e0 e1 e2 e3 e4 e5 ea k0 c00 c01 hl0 HBr hBy hbr hl1' hba
      generalize wr.alloc (.cells #[.int .i64 k, .int .i64 al, .string gr, .slice ab bs.length cb, .int .i64 sz, .slice ar rs.length cr] 38) = X2 at *
      generalize wr.heap.size = nv at *
      obtain ⟨hv1, ⟨c00, c01, hl0⟩, _, _⟩ := HV.out X2 HB1.out
      have k3 : X2.cell? ⟨n1, 3 + k, none⟩ = some (.int .i64 (fr k)) := by
        have hc : k = 1 ∨ k = 2 ∨ k = 3 ∨ k = 4 ∨ k = 5 := by omega
        rcases hc with rfl | rfl | rfl | rfl | rfl <;> exact cellB hv1.1 _
      have k9 : X2.cell? ⟨n1, 9 + k, none⟩ = some (.int .i64 (ti k)) := by
        have hc : k = 1 ∨ k = 2 ∨ k = 3 ∨ k = 4 ∨ k = 5 := by omega
        rcases hc with rfl | rfl | rfl | rfl | rfl <;> exact cellB hv1.1 _
      have f0 : X2.cell? ⟨nv, 0, none⟩ = some (.int .i64 k) := cellB xv 0
      have f1 : X2.cell? ⟨nv, 1, none⟩ = some (.int .i64 al) := cellB xv 1
      have f2 : X2.cell? ⟨nv, 2, none⟩ = some (.string gr) := cellB xv 2
      have f3 : X2.cell? ⟨nv, 3, none⟩ = some (.slice ab bs.length cb) := cellB xv 3
      have f4 : X2.cell? ⟨nv, 4, none⟩ = some (.int .i64 sz) := cellB xv 4
      have f5 : X2.cell? ⟨nv, 5, none⟩ = some (.slice ar rs.length cr) := cellB xv 5
      clear hv1 c00 c01 hl0
      refine wp_region_lat (by kernel_rfl) (by kernel_rfl) ?_
      intro hne
      repeat (go_big_quiet_step ((go_at_call 6; exact lat_of (KLg.out _))))
      refine wpQuiet_nil ?_
      intro V hbV
      have hbV := lat_out hbV
      clear hne k3 k9 f0 f1 f2 f3 f4 f5
      have HBV : Hid (Below Y.heap.size Y V) := HB1.out.trans (hbV.mono HB1.out.size)
      have xv2 := (hbV.block _ (Array.getElem?_eq_some_iff.1 xv).1).trans xv
      have hBy2 : Hid (BytesAt V (.slice ab bs.length cb) bs) := hBy1.later hbV
      clear hBy1 xv HB1 hbV g1 g1' g2 g3
      obtain ⟨_, ⟨c00, c01, hl0⟩, _, _⟩ := HV.out V HBV.out
      have hic : (i : Int) ≤ (c1 : Int) := by omega
      go_upto_region 20 with fail
      clear c00 c01 hl0
      have HQ : Hid (∀ W, Below V.heap.size V W → W.heap[nv]? = some (.cells #[.int .i64 k, .int .i64 al, .string gr, .slice ab bs.length cb, .int .i64 sz, .slice ar rs.length cr] 38 (0, 0)) ∧ Below Y.heap.size Y W ∧ BytesAt W (.slice ab bs.length cb) bs) := fun W hW => ⟨(hW.block _ (Array.getElem?_eq_some_iff.1 xv2).1).trans xv2, HBV.out.trans (hW.mono HBV.out.size), hBy2.out.later hW⟩
      clear xv2 hBy2
      go_loopw [139] (fun s139 wr => ∃ (m : Nat), m ≤ i ∧ s139 = .int .i64 m ∧ Hid (Below V.heap.size V wr)) (fun s139 _ => i - (intOf s139).toNat)
      case atStart => exact ⟨0, Nat.zero_le _, rfl, Below.refl _ _⟩
      case round =>
        obtain ⟨m, hm, rfl, HBm⟩ := hrel
        obtain ⟨xv3, HY3, hBy3⟩ := HQ.out wr HBm.out
        obtain ⟨hv1, ⟨c00, c01, hl0⟩, hFr, hDf⟩ := HV.out wr HY3
        by_cases hmi : m < i
        · have hmn : m < p.frags.length := by omega
          obtain ⟨b2, off2, ab', cb', ar', cr', heq, d0, d1, d2, d3, d4, d5, hBy', hRl, hg', hbl⟩ := hFr.cells m hmn
          cases heq
          have hgm : p.frags[m]? = some (p.frags.getD m frg0) := getElem?_getD p.frags frg0 m hmn
          have hsm' := HSm.out m _ hgm
          obtain ⟨b3, off3, hxf, ey, hby⟩ := IntsAt.cell hv1.2.1 m (by rw [TLF.out]; exact hmn)
          have k0 : wr.cell? ⟨n1, 0, none⟩ = some (.slice xf F.length yf) := cellB hv1.1 0
          rw [hxf] at k0
          have hl1' : n1 < wr.heap.size := (Array.getElem?_eq_some_iff.1 hv1.1).1
          have hlv : nv < wr.heap.size := (Array.getElem?_eq_some_iff.1 xv3).1
          have hbr : b < wr.heap.size := World.block_lt_of_cell? _ _ d0
          have hml : (m : Int) < (i : Int) := by omega
          have hmF : (m : Int) < (F.length : Int) := by rw [TLF.out]; omega
          have f0 : wr.cell? ⟨nv, 0, none⟩ = some (.int .i64 k) := cellB xv3 0
          have hgo := HOk.out _ (getD_mem p.frags frg0 m hmn)
          have HGm : Hid (p.frags[m]? = some (p.frags.getD m frg0)) := hgm
          obtain ⟨g, hgg⟩ : ∃ g, p.frags.getD m frg0 = g := ⟨_, rfl⟩
          rw [hgg] at hsm' d0 d1 d2 d3 d4 d5 hg' hBy' HGm hgo
          clear hgg hgm hRl hbl hFr hDf hxf
          obtain ⟨s', al', gr', bs', sz', rs'⟩ := g
          simp only at d0 d1 d2 d3 d4 d5 hg' hBy'
          obtain ⟨y, hy⟩ : ∃ y, F.getD m 0 = y := ⟨_, rfl⟩
          rw [hy] at hsm' ey
          have HYy : Hid (F.getD m 0 = y) := hy
          clear hy
          by_cases hss : s' = (k : Int)
          · subst hss
            have TAx := TA.out i m _ _ hmi HFm.out HGm.out rfl
            rw [HX.out, HYy.out] at TAx
            have hL1 : M.long ⟨(k : Int), al', gr', bs', sz', rs'⟩ = M.lng k sz' bs'.length := rfl
            have hL2 : M.long ⟨(k : Int), al, gr, bs, sz, rs⟩ = M.lng k sz bs.length := rfl
            rw [hL1] at TAx hsm'
            rw [hL2] at TAx
            have hg0 := hgo.long0
            rw [hL1] at hg0
            have HTA : Hid (((k : Int) ≠ 3 → y + M.lng k sz' bs'.length ≤ x) ∧ ((k : Int) = 3 → (al = al' → bs = bs' → x = y) ∧ (x = y ∨ y + M.lng k sz' bs'.length ≤ x ∨ x + M.lng k sz bs.length ≤ y))) := TAx
            have hy0 := hsm'.1
            have hy1 := hsm'.2
            clear TAx hL1 hL2 hgo hsm'
            go_upto_region 24 with fail
            have xw := heap_alloc_new wr (.cells #[.int .i64 k, .int .i64 al', .string gr', .slice ab' bs'.length cb', .int .i64 sz', .slice ar' rs'.length cr'] 38)
            have hbW : Below wr.heap.size wr (wr.alloc (.cells #[.int .i64 k, .int .i64 al', .string gr', .slice ab' bs'.length cb', .int .i64 sz', .slice ar' rs'.length cr'] 38)) := (Below.refl _ _).alloc (Nat.le_refl _) _
            have xv4 := (hbW.block _ hlv).trans xv3
            have HB4 : Hid (Below V.heap.size V (wr.alloc (.cells #[.int .i64 k, .int .i64 al', .string gr', .slice ab' bs'.length cb', .int .i64 sz', .slice ar' rs'.length cr'] 38))) := HBm.out.trans (hbW.mono HBm.out.size)
            have KB : Hid (Calls Try.prog 7 #[.slice ab bs.length cb, .slice ab' bs'.length cb'] (wr.alloc (.cells #[.int .i64 k, .int .i64 al', .string gr', .slice ab' bs'.length cb', .int .i64 sz', .slice ar' rs'.length cr'] 38)) fun e w' => e = .returned (.bool (decide (bs = bs'))) ∧ (wr.alloc (.cells #[.int .i64 k, .int .i64 al', .string gr', .slice ab' bs'.length cb', .int .i64 sz', .slice ar' rs'.length cr'] 38)) = w') := by
              have := bytesEqual_any bs bs' ab ab' cb cb' _ (hBy3.later hbW) (hBy'.later hbW)
              rw [allTwo_int] at this
              exact this.mono fun e w' ⟨h1, h2⟩ => ⟨h1, h2.symm⟩
            clear d0 d1 d2 d3 d4 d5 f0 k0 ey c00 c01 hl0 hv1 hBy3 hBy' xv3 hbW hl1' hlv hbr hby HBm
            generalize wr.alloc (.cells #[.int .i64 k, .int .i64 al', .string gr', .slice ab' bs'.length cb', .int .i64 sz', .slice ar' rs'.length cr'] 38) = X3 at *
            generalize wr.heap.size = nw at *
            have u0 : X3.cell? ⟨nv, 0, none⟩ = some (.int .i64 k) := cellB xv4 0
            have u1 : X3.cell? ⟨nv, 1, none⟩ = some (.int .i64 al) := cellB xv4 1
            have u3 : X3.cell? ⟨nv, 3, none⟩ = some (.slice ab bs.length cb) := cellB xv4 3
            have v1 : X3.cell? ⟨nw, 1, none⟩ = some (.int .i64 al') := cellB xw 1
            have v3 : X3.cell? ⟨nw, 3, none⟩ = some (.slice ab' bs'.length cb') := cellB xw 3
            have lv : nv < X3.heap.size := (Array.getElem?_eq_some_iff.1 xv4).1
            have lw : nw < X3.heap.size := (Array.getElem?_eq_some_iff.1 xw).1
            go_cut [15] from 140 to 241 (fun s15 wx => s15 = .bool (decide ((k : Int) = 3 ∧ al = al' ∧ bs = bs')) ∧ wx = X3)
            case first =>
              by_cases h3 : (k : Int) = 3
              · have h3' : ((k : Int) == 3) = true := by simpa using h3
                by_cases ha : al = al'
                · have ha' : (al == al') = true := by simpa using ha
                  have HR : Hid (decide ((k : Int) = 3 ∧ al = al' ∧ bs = bs') = decide (bs = bs')) := by simp [Hid, h3, ha]
                  clear h3 ha
                  go_wp2_with (go_at_call 7; refine KB.out.mono ?_; rintro e w' ⟨rfl, rfl⟩)
                  go_meet
                  exact ⟨by rw [HR.out], rfl⟩
                · have ha' : (al == al') = false := by simpa using ha
                  have HR : Hid (decide ((k : Int) = 3 ∧ al = al' ∧ bs = bs') = false) := by simp [Hid, ha]
                  clear h3 ha
                  go_wp2
                  go_meet
                  exact ⟨by rw [HR.out], rfl⟩
              · have h3' : ((k : Int) == 3) = false := by simpa using h3
                have HR : Hid (decide ((k : Int) = 3 ∧ al = al' ∧ bs = bs') = false) := by simp [Hid, h3]
                clear h3
                go_wp2
                go_meet
                exact ⟨by rw [HR.out], rfl⟩
            case rest =>
              obtain ⟨rfl, rfl⟩ := hcut
              obtain ⟨R, hR⟩ : ∃ R, decide ((k : Int) = 3 ∧ al = al' ∧ bs = bs') = R := ⟨_, rfl⟩
              rw [hR]
              have HRR : Hid (decide ((k : Int) = 3 ∧ al = al' ∧ bs = bs') = R) := hR
              clear hR
              go_upto_region 25 with fail
              go_cut [203] from 140 to 241 (fun s203 wx => s203 = .bool false ∧ wx = wc)
              case first =>
                rename_i Wc0
                cases R
                · by_cases h3 : (k : Int) = 3
                  · have h3' : ((k : Int) == 3) = true := by simpa using h3
                    by_cases hxy : x = y
                    · have hxy' : (x == y) = true := by simpa using hxy
                      by_cases ha : al = al'
                      · have ha' : (al == al') = true := by simpa using ha
                        have hbb : decide (bs = bs') = false := by have := HRR.out; simpa [h3, ha] using this
                        rw [hbb] at KB
                        by_cases hl : bs.length = bs'.length
                        · have hl' : ((bs.length : Int) == (bs'.length : Int)) = true := by simp [hl]
                          clear h3 hxy ha hl hbb
                          go_wp2_with (go_at_call 7; refine KB.out.mono ?_; rintro e w' ⟨rfl, rfl⟩)
                          go_meet
                          exact ⟨rfl, rfl⟩
                        · have hl' : ((bs.length : Int) == (bs'.length : Int)) = false := by simp; omega
                          clear h3 hxy ha hl hbb
                          go_wp2
                          go_meet
                          exact ⟨rfl, rfl⟩
                      · have ha' : (al == al') = false := by simpa using ha
                        clear h3 hxy ha
                        go_wp2
                        go_meet
                        exact ⟨rfl, rfl⟩
                    · have hxy' : (x == y) = false := by simpa using hxy
                      clear h3 hxy
                      go_wp2
                      go_meet
                      exact ⟨rfl, rfl⟩
                  · have h3' : ((k : Int) == 3) = false := by simpa using h3
                    clear h3
                    go_wp2
                    go_meet
                    exact ⟨rfl, rfl⟩
                · have hall := of_decide_eq_true HRR.out
                  have h3' : ((k : Int) == 3) = true := by simpa using hall.1
                  have hxy' : (x == y) = true := by simpa using (HTA.out.2 hall.1).1 hall.2.1 hall.2.2
                  have ha' : (al == al') = true := by simpa using hall.2.1
                  have hbb : decide (bs = bs') = true := by simpa using hall.2.2
                  have hl' : ((bs.length : Int) == (bs'.length : Int)) = true := by simp [hall.2.2]
                  rw [hbb] at KB
                  clear hall hbb
                  go_wp2_with (go_at_call 7; refine KB.out.mono ?_; rintro e w' ⟨rfl, rfl⟩)
                  go_meet
                  exact ⟨rfl, rfl⟩
              case rest =>
                obtain ⟨rfl, hwc⟩ := hcut
                subst hwc
                obtain ⟨WC, hWC⟩ : ∃ WC, WC = wc := ⟨_, rfl⟩
                subst hWC
                have p0 : WC.cell? ⟨nv, 0, none⟩ = some (.int .i64 k) := cellB xv4 0
                have q0 : WC.cell? ⟨nw, 0, none⟩ = some (.int .i64 k) := cellB xw 0
                have q1 : WC.cell? ⟨nw, 1, none⟩ = some (.int .i64 al') := cellB xw 1
                have q2 : WC.cell? ⟨nw, 2, none⟩ = some (.string gr') := cellB xw 2
                have q3 : WC.cell? ⟨nw, 3, none⟩ = some (.slice ab' bs'.length cb') := cellB xw 3
                have q4 : WC.cell? ⟨nw, 4, none⟩ = some (.int .i64 sz') := cellB xw 4
                have q5 : WC.cell? ⟨nw, 5, none⟩ = some (.slice ar' rs'.length cr') := cellB xw 5
                have KL1 : Hid (Calls Try.prog 6 #[.agg #[.int .i64 k, .int .i64 al', .string gr', .slice ab' bs'.length cb', .int .i64 sz', .slice ar' rs'.length cr']] WC fun e w' => e = .returned (.int .i64 (M.lng k sz' bs'.length)) ∧ Below WC.heap.size WC w') := long_any k al' sz' gr' ab' bs'.length cb' _ WC
                have HP : Hid (∀ W, Below WC.heap.size WC W → W.heap[nv]? = some (.cells #[.int .i64 k, .int .i64 al, .string gr, .slice ab bs.length cb, .int .i64 sz, .slice ar rs.length cr] 38 (0, 0))) := fun W hW => (hW.block _ (Array.getElem?_eq_some_iff.1 xv4).1).trans xv4
                clear u0 u1 u3 v1 v3 KB HRR xw xv4
                go_upto_region 27 with fail
                go_cut [240] from 140 to 241 (fun s240 wx => s240 = .bool false ∧ Below WC.heap.size WC wx)
                case first =>
                  by_cases h3 : (k : Int) = 3
                  · have h3' : ((k : Int) == 3) = true := by simpa using h3
                    have h3n : ((k : Int) != 3) = false := by simpa using h3
                    have ht := (HTA.out.2 h3).2
                    clear h3
                    cases hb1 : decide (x < y + M.lng k sz' bs'.length)
                    · go_wp2_with (go_at_call 6; refine KL1.out.mono ?_; rintro e w1 ⟨rfl, hw1⟩)
                      go_meet
                      exact ⟨rfl, hw1⟩
                    · have hb1' := of_decide_eq_true hb1
                      cases hb2 : decide (y < x + M.lng k sz bs.length)
                      · go_wp2_with (go_at_call 6; refine KL1.out.mono ?_; rintro e w1 ⟨rfl, hw1⟩; refine Hid.out ?_)
                        have pv := HP.out _ hw1
                        have r0 : w1.cell? ⟨nv, 0, none⟩ = some (.int .i64 k) := cellB pv 0
                        have r1 : w1.cell? ⟨nv, 1, none⟩ = some (.int .i64 al) := cellB pv 1
                        have r2 : w1.cell? ⟨nv, 2, none⟩ = some (.string gr) := cellB pv 2
                        have r3 : w1.cell? ⟨nv, 3, none⟩ = some (.slice ab bs.length cb) := cellB pv 3
                        have r4 : w1.cell? ⟨nv, 4, none⟩ = some (.int .i64 sz) := cellB pv 4
                        have r5 : w1.cell? ⟨nv, 5, none⟩ = some (.slice ar rs.length cr) := cellB pv 5
                        have lr : nv < w1.heap.size := (Array.getElem?_eq_some_iff.1 pv).1
                        clear pv
                        refine Lib.hid ?_
                        go_wp2_with (go_at_call 6; refine (KLg.out _).mono ?_; rintro e w2 ⟨rfl, hw2⟩)
                        go_meet
                        exact ⟨rfl, hw1.trans (hw2.mono hw1.size)⟩
                      · have hb2' := of_decide_eq_true hb2
                        have hxy' : (x != y) = false := by simp; omega
                        clear ht hb1' hb2'
                        go_wp2_with (go_at_call 6; refine KL1.out.mono ?_; rintro e w1 ⟨rfl, hw1⟩; refine Hid.out ?_)
                        have pv := HP.out _ hw1
                        have r0 : w1.cell? ⟨nv, 0, none⟩ = some (.int .i64 k) := cellB pv 0
                        have r1 : w1.cell? ⟨nv, 1, none⟩ = some (.int .i64 al) := cellB pv 1
                        have r2 : w1.cell? ⟨nv, 2, none⟩ = some (.string gr) := cellB pv 2
                        have r3 : w1.cell? ⟨nv, 3, none⟩ = some (.slice ab bs.length cb) := cellB pv 3
                        have r4 : w1.cell? ⟨nv, 4, none⟩ = some (.int .i64 sz) := cellB pv 4
                        have r5 : w1.cell? ⟨nv, 5, none⟩ = some (.slice ar rs.length cr) := cellB pv 5
                        have lr : nv < w1.heap.size := (Array.getElem?_eq_some_iff.1 pv).1
                        clear pv
                        refine Lib.hid ?_
                        go_wp2_with (go_at_call 6; refine (KLg.out _).mono ?_; rintro e w2 ⟨rfl, hw2⟩)
                        go_meet
                        exact ⟨rfl, hw1.trans (hw2.mono hw1.size)⟩
                  · have h3' : ((k : Int) == 3) = false := by simpa using h3
                    have h3n : ((k : Int) != 3) = true := by simpa using h3
                    have ht := HTA.out.1 h3
                    have hb1 : decide (x < y + M.lng k sz' bs'.length) = false := by simp; omega
                    clear h3 ht
                    go_wp2_with (go_at_call 6; refine KL1.out.mono ?_; rintro e w1 ⟨rfl, hw1⟩; have r0 : w1.cell? ⟨nv, 0, none⟩ = some (.int .i64 k) := cellB (HP.out _ hw1) 0; have lr : nv < w1.heap.size := World.block_lt_of_cell? _ _ r0)
                    go_meet
                    exact ⟨rfl, hw1⟩
                case rest =>
                  obtain ⟨rfl, hbc⟩ := hcut
                  go_wp2
                  go_roundw
                  case rel => exact ⟨m + 1, by omega, by go_num, HB4.out.trans (hbc.mono HB4.out.size)⟩
                  case measure => simp [intOf]; omega
          · have hne' : (s' != (k : Int)) = true := by simpa using hss
            have HB4 : Hid (Below V.heap.size V (wr.alloc (.cells #[.int .i64 s', .int .i64 al', .string gr', .slice ab' bs'.length cb', .int .i64 sz', .slice ar' rs'.length cr'] 38))) := HBm.out.alloc HBm.out.size _
            clear hss hsm' hBy' hBy3
            go_wp2
            go_roundw
            case rel => exact ⟨m + 1, by omega, by go_num, HB4⟩
            case measure => simp [intOf]; omega
        · have hmi' : m = i := by omega
          subst hmi'
          clear hv1 hFr hDf c00 c01 hl0
          go_wp2
          go_roundw
          case rel => exact ⟨m + 1, by omega, by go_num, HY3⟩
          case measure => simp [intOf]; omega
    · have hin : i = p.frags.length := by omega
      subst hin
      clear c00 c01 hl0 hFr hDf hv1
      go_wp2_with fail
      first
        | exact HBr.out
        | (refine hexit _ _ _ _ _ _ _ _ _ _ _ _ _ _ _ _ _ _ _ _ _ _ _ _ _ _ _ _ _ _ _ _ _ _ _ _ _ _ _ _ _ _ _ _ _ _ _ _ _ _ _ _ _ _ _ _ _ _ _ _ _ _ _ _ _ _ _ _ _ _ _ _ _ _ _ _ _ _ _ _ _ _ _ _ _ _ _ _ _ _ _ _ _ _ _ _ _ _ _ _ _ _ _ _ _ _ _ _ _ _ _ _ _ _ _ _ _ _ _ _ _ _ _ _ _ _ _ _ _ _ _ _ _ _ _ _ _ _ _ _ _ _ _ _ _ _ _ _ _ _ _ _ _ _ ?_; exact HBr.out)

end Go.Proofs.Ytpnlcmdapkhdgaa
