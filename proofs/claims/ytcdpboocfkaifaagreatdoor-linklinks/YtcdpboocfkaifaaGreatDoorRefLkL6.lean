/-
  The reference's Linked: the three segments.
-/
import Derived.Test.YtcdpboocfkaifaaGreatDoorLkLp
import Derived.Test.YtcdpboocfkaifaaGreatDoorLkRl
import Derived.Deep.CutBlock
namespace Go.Proofs.YtcdpboocfkaifaaGreatDoor
open Go Go.RowKit Go.Maps
set_option linter.unusedVariables false

attribute [local go_sem] lat_cell

set_option maxHeartbeats 32000000 in
set_option maxRecDepth 1000000 in
theorem lk_loop6 {zc0 zc1 zc2 zc3 zc4 zc5 zc6 zc7 zc8 zc10 zc11 zc12 zc13 zc15 zc16 zc17 zc18 zc19 zc20 zc21 zc22 zc23 zc24 zc25 zc26 zc27 zc29 zc30 zc31 zc32 zc33 zc34 zc35 zc36 zc37 zc38 zc39 zc40 zc41 zc42 zc43 zc44 zc45 zc46 zc47 zc48 zc49 zc50 zc51 zc52 zc53 zc54 zc55 zc56 zc57 zc58 zc59 zc60 zc61 zc62 zc63 zc64 zc65 zc66 zc67 zc68 zc69 zc70 zc71 zc72 zc73 zc74 zc75 zc76 zc77 zc78 zc79 zc80 zc81 zc82 zc83 zc84 zc85 zc86 zc87 zc88 zc89 zc90 zc91 zc92 zc93 zc94 zc95 zc96 zc97 zc98 zc99 zc100 zc101 zc102 zc103 zc104 zc105 zc106 zc107 zc108 zc109 zc110 zc111 zc112 zc113 zc114 zc115 zc116 zc117 zc118 zc119 zc120 zc121 zc122 zc123 zc124 zc125 zc126 zc127 zc128 zc129 zc130 zc131 zc132 zc133 zc134 zc135 zc136 zc137 zc138 zc139 zc140 zc141 zc142 zc143 zc144 zc145 zc146 zc147 zc148 zc149 zc150 zc151 zc152 zc153 zc154 zc155 zc156 zc157 zc158 zc159 zc160 zc161 zc162 zc163 zc164 zc165 zc166 zc167 zc168 zc169 zc170 zc171 zc172 zc173 zc174 zc175 zc176 zc177 zc178 zc179 zc180 zc181 zc182 zc183 zc184 zc185 zc186 zc187 zc188 zc189 zc190 zc191 zc192 zc193 zc194 zc195 zc196 zc197 zc198 zc199 zc200 zc201 zc202 zc203 zc204 zc205 zc206 zc207 zc208 zc209 zc210 zc214 zc215 zc216 zc217 zc218 zc219 zc220 zc221 zc222 zc223 zc224 zc225 zc226 zc227 zc228 zc229 zc230 zc231 zc232 zc233 zc234 zc235 zc236 zc237 zc238 zc239 zc240 zc241 zc242 zc243 zc244 zc245 zc246 zc247 zc248 zc249 zc250 zc251 zc252 zc253 zc254 zc255 zc256 zc257 zc258 zc259 zc260 zc261 zc262 zc263 zc264 zc265 zc266 zc267 zc268 zc269 zc270 : Value} (p : M.Prt) (l : M.Lay) (xf xn xc : Value) (w W0 : World) (b6 b9 b28 gs bm : Nat) (m : Int → Int) (en : Int) 
    (HSeg : Hid (∀ a z : Nat, ((a = 1 ∧ z = 1) ∨ (a = 2 ∧ z = 3) ∨ (a = 4 ∧ z = 4)) → (0 ≤ l.fr a ∧ l.ti z ≤ 65536) ∧ (M.segBytes p l a z).length = (l.ti z - l.fr a).toNat ∧ (∀ k : Nat, k < (M.segBytes p l a z).length → m (l.fr a + (k : Int)) = (M.segBytes p l a z).getD k 0) ∧ ∀ b ∈ M.segBytes p l a z, 0 ≤ b ∧ b < 256)) (hti : (0 ≤ l.ti 4 ∧ l.ti 4 ≤ 65536) ∧ (0 ≤ l.ti 5 ∧ l.ti 5 ≤ 65536)) (HS : Hid (SgS w b6 b9 b28 gs bm (layArr xf xn xc l.fr l.ti) m en W0 (.slice none 0 0) (.slice none 0 0) [])) {Q0 : Exit → Act → World → Prop}
    (hexit : ∀ (zv30 zv31 zv32 zv213 zv214 zv215 zv216 zv217 zv218 zv219 zv220 zv221 zv222 zv223 zv224 zv225 zv226 zv227 zv228 zv229 zv230 zv231 zv232 zv233 zv234 zv235 zv236 zv237 zv238 zv239 zv240 zv241 zv242 zv243 zv244 zv245 zv246 zv247 zv248 zv249 zv250 zv251 zv252 zv253 zv254 zv255 zv256 zv257 zv258 zv259 zv260 zv261 zv262 zv263 zv264 zv265 zv266 zv267 zv268 zv269 : Value) (w'' : World), (∃ vS es, SgS w b6 b9 b28 gs bm (layArr xf xn xc l.fr l.ti) m en w'' vS vS es ∧ es.map (·.seg) = [⟨l.fr 1, M.segBytes p l 1 1, 0, false, true⟩, ⟨l.fr 2, M.segBytes p l 2 3, 0, false, false⟩, ⟨l.fr 4, M.segBytes p l 4 4, l.ti 5 - l.ti 4, true, false⟩]) → Q0 (.exit 11) ⟨List.toArray (zc0 :: zc1 :: zc2 :: zc3 :: zc4 :: zc5 :: zc6 :: zc7 :: zc8 :: .pointer (some ⟨b9, 0, none⟩) :: zc10 :: zc11 :: zc12 :: zc13 :: .map (some bm) :: zc15 :: zc16 :: zc17 :: zc18 :: zc19 :: zc20 :: zc21 :: zc22 :: zc23 :: zc24 :: zc25 :: zc26 :: zc27 :: .pointer (some ⟨b28, 0, none⟩) :: zc29 :: zv30 :: zv31 :: zv32 :: zc33 :: zc34 :: zc35 :: zc36 :: zc37 :: zc38 :: zc39 :: zc40 :: zc41 :: zc42 :: zc43 :: zc44 :: zc45 :: zc46 :: zc47 :: zc48 :: zc49 :: zc50 :: zc51 :: zc52 :: zc53 :: zc54 :: zc55 :: zc56 :: zc57 :: zc58 :: zc59 :: zc60 :: zc61 :: zc62 :: zc63 :: zc64 :: zc65 :: zc66 :: zc67 :: zc68 :: zc69 :: zc70 :: zc71 :: zc72 :: zc73 :: zc74 :: zc75 :: zc76 :: zc77 :: zc78 :: zc79 :: zc80 :: zc81 :: zc82 :: zc83 :: zc84 :: zc85 :: zc86 :: zc87 :: zc88 :: zc89 :: zc90 :: zc91 :: zc92 :: zc93 :: zc94 :: zc95 :: zc96 :: zc97 :: zc98 :: zc99 :: zc100 :: zc101 :: zc102 :: zc103 :: zc104 :: zc105 :: zc106 :: zc107 :: zc108 :: zc109 :: zc110 :: zc111 :: zc112 :: zc113 :: zc114 :: zc115 :: zc116 :: zc117 :: zc118 :: zc119 :: zc120 :: zc121 :: zc122 :: zc123 :: zc124 :: zc125 :: zc126 :: zc127 :: zc128 :: zc129 :: zc130 :: zc131 :: zc132 :: zc133 :: zc134 :: zc135 :: zc136 :: zc137 :: zc138 :: zc139 :: zc140 :: zc141 :: zc142 :: zc143 :: zc144 :: zc145 :: zc146 :: zc147 :: zc148 :: zc149 :: zc150 :: zc151 :: zc152 :: zc153 :: zc154 :: zc155 :: zc156 :: zc157 :: zc158 :: zc159 :: zc160 :: zc161 :: zc162 :: zc163 :: zc164 :: zc165 :: zc166 :: zc167 :: zc168 :: zc169 :: zc170 :: zc171 :: zc172 :: zc173 :: zc174 :: zc175 :: zc176 :: zc177 :: zc178 :: zc179 :: zc180 :: zc181 :: zc182 :: zc183 :: zc184 :: zc185 :: zc186 :: zc187 :: zc188 :: zc189 :: zc190 :: zc191 :: zc192 :: zc193 :: zc194 :: zc195 :: zc196 :: zc197 :: zc198 :: zc199 :: zc200 :: zc201 :: zc202 :: zc203 :: zc204 :: zc205 :: zc206 :: zc207 :: zc208 :: zc209 :: zc210 :: .slice (some ⟨gs, 0, none⟩) 3 3 :: .int .i64 3 :: zv213 :: zv214 :: zv215 :: zv216 :: zv217 :: zv218 :: zv219 :: zv220 :: zv221 :: zv222 :: zv223 :: zv224 :: zv225 :: zv226 :: zv227 :: zv228 :: zv229 :: zv230 :: zv231 :: zv232 :: zv233 :: zv234 :: zv235 :: zv236 :: zv237 :: zv238 :: zv239 :: zv240 :: zv241 :: zv242 :: zv243 :: zv244 :: zv245 :: zv246 :: zv247 :: zv248 :: zv249 :: zv250 :: zv251 :: zv252 :: zv253 :: zv254 :: zv255 :: zv256 :: zv257 :: zv258 :: zv259 :: zv260 :: zv261 :: zv262 :: zv263 :: zv264 :: zv265 :: zv266 :: zv267 :: zv268 :: zv269 :: zc270 :: []), []⟩ w'') :
    Code.wp Tryz.prog (Code.loop (((Tryz.f10.body.map loopsOfL).getD [])[5]?.getD .skip : Code)) Q0 ⟨List.toArray (zc0 :: zc1 :: zc2 :: zc3 :: zc4 :: zc5 :: zc6 :: zc7 :: zc8 :: .pointer (some ⟨b9, 0, none⟩) :: zc10 :: zc11 :: zc12 :: zc13 :: .map (some bm) :: zc15 :: zc16 :: zc17 :: zc18 :: zc19 :: zc20 :: zc21 :: zc22 :: zc23 :: zc24 :: zc25 :: zc26 :: zc27 :: .pointer (some ⟨b28, 0, none⟩) :: zc29 :: zc30 :: zc31 :: zc32 :: zc33 :: zc34 :: zc35 :: zc36 :: zc37 :: zc38 :: zc39 :: zc40 :: zc41 :: zc42 :: zc43 :: zc44 :: zc45 :: zc46 :: zc47 :: zc48 :: zc49 :: zc50 :: zc51 :: zc52 :: zc53 :: zc54 :: zc55 :: zc56 :: zc57 :: zc58 :: zc59 :: zc60 :: zc61 :: zc62 :: zc63 :: zc64 :: zc65 :: zc66 :: zc67 :: zc68 :: zc69 :: zc70 :: zc71 :: zc72 :: zc73 :: zc74 :: zc75 :: zc76 :: zc77 :: zc78 :: zc79 :: zc80 :: zc81 :: zc82 :: zc83 :: zc84 :: zc85 :: zc86 :: zc87 :: zc88 :: zc89 :: zc90 :: zc91 :: zc92 :: zc93 :: zc94 :: zc95 :: zc96 :: zc97 :: zc98 :: zc99 :: zc100 :: zc101 :: zc102 :: zc103 :: zc104 :: zc105 :: zc106 :: zc107 :: zc108 :: zc109 :: zc110 :: zc111 :: zc112 :: zc113 :: zc114 :: zc115 :: zc116 :: zc117 :: zc118 :: zc119 :: zc120 :: zc121 :: zc122 :: zc123 :: zc124 :: zc125 :: zc126 :: zc127 :: zc128 :: zc129 :: zc130 :: zc131 :: zc132 :: zc133 :: zc134 :: zc135 :: zc136 :: zc137 :: zc138 :: zc139 :: zc140 :: zc141 :: zc142 :: zc143 :: zc144 :: zc145 :: zc146 :: zc147 :: zc148 :: zc149 :: zc150 :: zc151 :: zc152 :: zc153 :: zc154 :: zc155 :: zc156 :: zc157 :: zc158 :: zc159 :: zc160 :: zc161 :: zc162 :: zc163 :: zc164 :: zc165 :: zc166 :: zc167 :: zc168 :: zc169 :: zc170 :: zc171 :: zc172 :: zc173 :: zc174 :: zc175 :: zc176 :: zc177 :: zc178 :: zc179 :: zc180 :: zc181 :: zc182 :: zc183 :: zc184 :: zc185 :: zc186 :: zc187 :: zc188 :: zc189 :: zc190 :: zc191 :: zc192 :: zc193 :: zc194 :: zc195 :: zc196 :: zc197 :: zc198 :: zc199 :: zc200 :: zc201 :: zc202 :: zc203 :: zc204 :: zc205 :: zc206 :: zc207 :: zc208 :: zc209 :: zc210 :: .slice (some ⟨gs, 0, none⟩) 3 3 :: .int .i64 3 :: .int .i64 0 :: zc214 :: zc215 :: zc216 :: zc217 :: zc218 :: zc219 :: zc220 :: zc221 :: zc222 :: zc223 :: zc224 :: zc225 :: zc226 :: zc227 :: zc228 :: zc229 :: zc230 :: zc231 :: zc232 :: zc233 :: zc234 :: zc235 :: zc236 :: zc237 :: zc238 :: zc239 :: zc240 :: zc241 :: zc242 :: zc243 :: zc244 :: zc245 :: zc246 :: zc247 :: zc248 :: zc249 :: zc250 :: zc251 :: zc252 :: zc253 :: zc254 :: zc255 :: zc256 :: zc257 :: zc258 :: zc259 :: zc260 :: zc261 :: zc262 :: zc263 :: zc264 :: zc265 :: zc266 :: zc267 :: zc268 :: zc269 :: zc270 :: []), []⟩ W0 := by
  obtain ⟨i1, hi1, hy0, hy1, hy2⟩ := info_parts (P := Tryz.prog) (e := 69) (z := .agg #[.int .i64 0, .slice none 0 0, .int .i64 0, .bool false, .bool false]) (size := 5) (bytes := 48) (by kernel_rfl)
  have HK : Hid (∀ k, k < 3 → ∃ (a z q : Nat) (zs : Int) (wb kb : Bool), ((#[.int .i64 1, .int .i64 1, .int .i64 0, .int .i64 2, .int .i64 3, .int .i64 0, .int .i64 4, .int .i64 4, .int .i64 5] : Array Value)[k * 3]? = some (.int .i64 a) ∧ (#[.int .i64 1, .int .i64 1, .int .i64 0, .int .i64 2, .int .i64 3, .int .i64 0, .int .i64 4, .int .i64 4, .int .i64 5] : Array Value)[k * 3 + 1]? = some (.int .i64 z) ∧ (#[.int .i64 1, .int .i64 1, .int .i64 0, .int .i64 2, .int .i64 3, .int .i64 0, .int .i64 4, .int .i64 4, .int .i64 5] : Array Value)[k * 3 + 2]? = some (.int .i64 q)) ∧ ((a = 1 ∧ z = 1) ∨ (a = 2 ∧ z = 3) ∨ (a = 4 ∧ z = 4)) ∧ (((a : Int) == 4) = wb ∧ ((a : Int) == 1) = kb) ∧ ((q = 0 ∧ zs = 0) ∨ (q = 5 ∧ z = 4 ∧ zs = l.ti 5 - l.ti 4)) ∧ ([⟨l.fr 1, M.segBytes p l 1 1, 0, false, true⟩, ⟨l.fr 2, M.segBytes p l 2 3, 0, false, false⟩, ⟨l.fr 4, M.segBytes p l 4 4, l.ti 5 - l.ti 4, true, false⟩] : List M.Seg).take (k + 1) = ([⟨l.fr 1, M.segBytes p l 1 1, 0, false, true⟩, ⟨l.fr 2, M.segBytes p l 2 3, 0, false, false⟩, ⟨l.fr 4, M.segBytes p l 4 4, l.ti 5 - l.ti 4, true, false⟩] : List M.Seg).take k ++ [⟨l.fr a, M.segBytes p l a z, zs, wb, kb⟩]) := fun k hk => by
    have : k = 0 ∨ k = 1 ∨ k = 2 := by omega
    rcases this with rfl | rfl | rfl
    · exact ⟨1, 1, 0, 0, false, true, ⟨rfl, rfl, rfl⟩, .inl ⟨rfl, rfl⟩, ⟨rfl, rfl⟩, .inl ⟨rfl, rfl⟩, rfl⟩
    · exact ⟨2, 3, 0, 0, false, false, ⟨rfl, rfl, rfl⟩, .inr (.inl ⟨rfl, rfl⟩), ⟨rfl, rfl⟩, .inl ⟨rfl, rfl⟩, rfl⟩
    · exact ⟨4, 4, 5, _, true, false, ⟨rfl, rfl, rfl⟩, .inr (.inr ⟨rfl, rfl⟩), ⟨rfl, rfl⟩, .inr ⟨rfl, rfl, rfl⟩, rfl⟩
  have HE3 : Hid (([⟨l.fr 1, M.segBytes p l 1 1, 0, false, true⟩, ⟨l.fr 2, M.segBytes p l 2 3, 0, false, false⟩, ⟨l.fr 4, M.segBytes p l 4 4, l.ti 5 - l.ti 4, true, false⟩] : List M.Seg).take 3 = [⟨l.fr 1, M.segBytes p l 1 1, 0, false, true⟩, ⟨l.fr 2, M.segBytes p l 2 3, 0, false, false⟩, ⟨l.fr 4, M.segBytes p l 4 4, l.ti 5 - l.ti 4, true, false⟩]) := rfl
  have HE0 : Hid (([⟨l.fr 1, M.segBytes p l 1 1, 0, false, true⟩, ⟨l.fr 2, M.segBytes p l 2 3, 0, false, false⟩, ⟨l.fr 4, M.segBytes p l 4 4, l.ti 5 - l.ti 4, true, false⟩] : List M.Seg).take 0 = []) := rfl
  generalize ([⟨l.fr 1, M.segBytes p l 1 1, 0, false, true⟩, ⟨l.fr 2, M.segBytes p l 2 3, 0, false, false⟩, ⟨l.fr 4, M.segBytes p l 4 4, l.ti 5 - l.ti 4, true, false⟩] : List M.Seg) = SL at *
  conv => arg 2; arg 1; whnf
  go_loopw [213] (fun s213 wr => ∃ (k : Nat) (vS : Value) (es : List SEnt), k ≤ 3 ∧ s213 = .int .i64 k ∧ Hid (SgS w b6 b9 b28 gs bm (layArr xf xn xc l.fr l.ti) m en wr vS vS es) ∧ Hid (es.map (·.seg) = SL.take k) ∧ es.length = k) (fun s213 _ => 3 - (intOf s213).toNat)
  case atStart => exact ⟨0, _, [], Nat.zero_le _, rfl, HS, HE0.out.symm, rfl⟩
  case round =>
    obtain ⟨k, vS, es, hk, rfl, HSr, HEr, hel⟩ := hrel
    clear HS HE0
    by_cases hkt : k < 3
    · clear HE3
      obtain ⟨a, z, q, zs, wb, kb, ⟨g0, g1, g2⟩, haz, ⟨hwb, hkb⟩, hq, hsl⟩ := HK.out k hkt
      obtain ⟨⟨hf0, ht0⟩, hlen, hat, hsm⟩ := HSeg.out a z haz
      have Hsl : Hid (SL.take (k + 1) = SL.take k ++ [⟨l.fr a, M.segBytes p l a z, zs, wb, kb⟩]) := hsl
      have Hlen : Hid ((M.segBytes p l a z).length = (l.ti z - l.fr a).toNat) := hlen
      have Hat : Hid (∀ k : Nat, k < (M.segBytes p l a z).length → m (l.fr a + (k : Int)) = (M.segBytes p l a z).getD k 0) := hat
      have Hsm : Hid (∀ b ∈ M.segBytes p l a z, 0 ≤ b ∧ b < 256) := hsm
      have Hq : Hid ((q = 0 ∧ zs = 0) ∨ (q = 5 ∧ z = 4 ∧ zs = l.ti 5 - l.ti 4)) := hq
      have ha5 : a ≤ 5 := by omega
      have hz5 : z ≤ 5 := by omega
      have Hz9 : Hid ((layArr xf xn xc l.fr l.ti)[9 + z]? = some (.int .i64 (l.ti z))) := layArr_ti hz5
      have Ha9 : Hid ((layArr xf xn xc l.fr l.ti)[3 + a]? = some (.int .i64 (l.fr a))) := layArr_fr ha5
      have e0 : wr.cell? ⟨gs, k * 3, none⟩ = some (.int .i64 a) := (cellB HSr.out.cg _).trans g0
      have e1 : wr.cell? ⟨gs, k * 3 + 1, none⟩ = some (.int .i64 z) := (cellB HSr.out.cg _).trans g1
      have e2 : wr.cell? ⟨gs, k * 3 + 2, none⟩ = some (.int .i64 q) := (cellB HSr.out.cg _).trans g2
      have el : gs < wr.heap.size := (Array.getElem?_eq_some_iff.1 HSr.out.cg).1
      have hkl : (k : Int) < 3 := by omega
      clear hsl hlen hat hsm hq g0 g1 g2 HK HSeg
      have hAl := (Below.refl wr.heap.size wr).alloc (Nat.le_refl _) (.cells #[.int .i64 a, .int .i64 z, .int .i64 q] 82)
      have hq30 := heap_alloc_new wr (.cells #[.int .i64 a, .int .i64 z, .int .i64 q] 82)
      go_upto_region 48 with fail
      clear e0 e1 e2 el
      obtain ⟨n30, hn30⟩ : ∃ n30, n30 = wr.heap.size := ⟨_, rfl⟩
      rw [← hn30] at hq30 ⊢
      clear hn30
      generalize wr.alloc (.cells #[.int .i64 a, .int .i64 z, .int .i64 q] 82) = Z at *
      have HZ : Hid (Below wr.heap.size wr Z) := hAl
      have Hq30 : Hid (Z.heap[n30]? = some (.cells #[.int .i64 a, .int .i64 z, .int .i64 q] 82 (0, 0))) := hq30
      clear hAl hq30
      go_cut [31] from 214 to 269 (fun s31 wx => ∃ n31, s31 = .pointer (some ⟨n31, 0, none⟩) ∧ Hid (SgL wr n30 n31 #[.int .i64 a, .int .i64 z, .int .i64 q] (l.fr a) 0 wb kb wx (.slice none 0 0) (.slice none 0 0) []))
      case first =>
        have hC : ∀ W, Below Z.heap.size Z W → W.cell? ⟨n30, 0, none⟩ = some (.int .i64 a) ∧ W.cell? ⟨b9, 3 + a, none⟩ = some (.int .i64 (l.fr a)) := fun W hW => by
          have h1 := (hW.block _ (Array.getElem?_eq_some_iff.1 Hq30.out).1).trans Hq30.out
          have h2 := (HSr.out.later HZ.out).later hW
          exact ⟨cellB h1 0, (cellB h2.c9 _).trans Ha9.out⟩
        have HC : Hid (∀ W, Below Z.heap.size Z W → W.cell? ⟨n30, 0, none⟩ = some (.int .i64 a) ∧ W.cell? ⟨b9, 3 + a, none⟩ = some (.int .i64 (l.fr a))) := hC
        have hA0 : Below Z.heap.size Z Z.drew := (Below.refl _ _).drew
        have hA1 : Below Z.heap.size Z (Z.drew.alloc (.cells #[.int .i64 0, .slice none 0 0, .int .i64 0, .bool false, .bool false] 69)) := hA0.alloc (Nat.le_refl _) _
        have hA2 : Below Z.heap.size Z (Z.alloc (.cells #[.int .i64 (l.fr a), .slice none 0 0, .int .i64 0, .bool wb, .bool kb] 69)).drew := ((Below.refl _ _).alloc (Nat.le_refl _) _).drew
        have HFi : Hid (SgL wr n30 Z.heap.size #[.int .i64 a, .int .i64 z, .int .i64 q] (l.fr a) 0 wb kb (Z.alloc (.cells #[.int .i64 (l.fr a), .slice none 0 0, .int .i64 0, .bool wb, .bool kb] 69)).drew (.slice none 0 0) (.slice none 0 0) []) := ⟨HZ.out.trans (hA2.mono HZ.out.size), (hA2.block _ (Array.getElem?_eq_some_iff.1 Hq30.out).1).trans Hq30.out, heap_alloc_new Z _, World.ownsRow_nil _ _ _ _, HZ.out.size⟩
        have l30 : n30 < Z.heap.size := (Array.getElem?_eq_some_iff.1 Hq30.out).1
        have l9 : b9 < Z.heap.size := (Array.getElem?_eq_some_iff.1 (HSr.out.later HZ.out).c9).1
        have ha6 : (a : Int) < 6 := by omega
        clear hC
        go_region_held3 (fun w' => w'.cell? ⟨n30, 0, none⟩ = some (.int .i64 a) ∧ w'.cell? ⟨b9, 3 + a, none⟩ = some (.int .i64 (l.fr a))) (first | exact HC.out _ hA0 | exact HC.out _ hA1 | exact HC.out _ hA2) (fail)
        all_goals
          clear hA0 hA1 hA2 HC
          go_wp2_with fail
          go_meet
          exact ⟨_, rfl, HFi⟩
      case rest =>
        rename World => V
        obtain ⟨n31, rfl, HL0⟩ := hcut
        have s0 : V.cell? ⟨n31, 0, none⟩ = some (.int .i64 (l.fr a)) := cellB HL0.out.r31 0
        have sl : n31 < V.heap.size := (Array.getElem?_eq_some_iff.1 HL0.out.r31).1
        have h9 : wr.heap[b9]? = some (.cells (layArr xf xn xc l.fr l.ti) 45 (0, 0)) := HSr.out.c9
        have HMm : Hid (MAt wr bm 4800 m) := HSr.out.mm
        clear HZ Hq30 Ha9
        go_upto_region 50 with fail
        clear s0 sl
        go_wp2_with fail
        refine lk_loop7 (l.fr a) (l.ti z) a z q wr V b9 bm n30 n31 4800 (layArr xf xn xc l.fr l.ti) m wb kb (M.segBytes p l a z) hz5 hf0 ht0 Hlen.out Hz9.out h9 HMm Hat HL0 ?_
        intro zu32 zu231 zu232 zu233 zu234 zu235 zu236 zu237 zu238 zu239 zu240 zu241 zu242 zu243 zu244 zu245 zu246 zu247 V1 ⟨v, hL1⟩
        have HL1 : Hid (SgL wr n30 n31 #[.int .i64 a, .int .i64 z, .int .i64 q] (l.fr a) 0 wb kb V1 v v (M.segBytes p l a z)) := hL1
        clear hL1 HL0 h9 HMm Hat
        have s2 : V1.cell? ⟨n30, 2, none⟩ = some (.int .i64 q) := cellB HL1.out.r30 2
        have sl : n30 < V1.heap.size := (Array.getElem?_eq_some_iff.1 HL1.out.r30).1
        go_upto_if 250 with fail
        clear s2 sl
        go_cut [] from 214 to 269 (fun wx => Hid (SgL wr n30 n31 #[.int .i64 a, .int .i64 z, .int .i64 q] (l.fr a) zs wb kb wx v v (M.segBytes p l a z)))
        case first =>
          rcases Hq.out with ⟨rfl, rfl⟩ | ⟨rfl, rfl, rfl⟩
          · clear Hq
            go_wp2_with fail
            go_meet
            exact HL1
          · clear Hq
            have s2 : V1.cell? ⟨n30, 2, none⟩ = some (.int .i64 5) := cellB HL1.out.r30 2
            have s1 : V1.cell? ⟨n30, 1, none⟩ = some (.int .i64 4) := cellB HL1.out.r30 1
            have sl : n30 < V1.heap.size := (Array.getElem?_eq_some_iff.1 HL1.out.r30).1
            have h9 := (HSr.out.later HL1.out.bel).c9
            have c5 : V1.cell? ⟨b9, 14, none⟩ = some (.int .i64 (l.ti 5)) := cellB h9 14
            have c4 : V1.cell? ⟨b9, 13, none⟩ = some (.int .i64 (l.ti 4)) := cellB h9 13
            have l9 : b9 < V1.heap.size := (Array.getElem?_eq_some_iff.1 h9).1
            have hw1 : wrap64 (l.ti 5 - l.ti 4) = l.ti 5 - l.ti 4 := by unfold wrap64; omega
            clear h9
            go_upto_region 54 with fail
            refine wp_region_tail 12 (by kernel_rfl) (by kernel_rfl) ?_
            intro hne
            simp only [List.take_succ_cons, List.take_zero, List.drop_succ_cons, List.drop_zero]
            repeat (go_big_quiet_step (fail))
            refine wpQuiet_nil ?_
            intro Y hY
            have hYb := lat_out hY
            have hL2 := HL1.out.later hYb
            have m4 : Y.cell? ⟨n31, 2, none⟩ = some (.int .i64 0) := cellB hL2.r31 2
            have mf : ∀ j, Y.frozen? ⟨n31, j, none⟩ = false := frozenB hL2.r31
            have ml : n31 < Y.heap.size := (Array.getElem?_eq_some_iff.1 hL2.r31).1
            have HL2 : Hid (SgL wr n30 n31 #[.int .i64 a, .int .i64 (4 : Nat), .int .i64 (5 : Nat)] (l.fr a) (l.ti 5 - l.ti 4) wb kb (Y.setCell ⟨n31, 2, none⟩ (.int .i64 (l.ti 5 - l.ti 4))) v v (M.segBytes p l a 4)) := hL2.storeZ _
            clear hL2 hYb hY hne HL1 s1 s2 sl c5 c4 l9
            go_wp2_with fail
            go_meet
            exact HL2
        case rest =>
          rename World => V2
          have HL2 : Hid (SgL wr n30 n31 #[.int .i64 a, .int .i64 z, .int .i64 q] (l.fr a) zs wb kb V2 v v (M.segBytes p l a z)) := hcut
          clear hcut HL1 Hq
          obtain ⟨vx, vy, hv⟩ := own_len HSr.out.row
          rw [hel] at hv
          subst hv
          have Hel : Hid (es.length = k) := hel
          clear hel
          obtain ⟨bx, bc, rfl⟩ := own_len HL2.out.row
          have HSV : Hid (SgS w b6 b9 b28 gs bm (layArr xf xn xc l.fr l.ti) m en V2 (.slice vx k vy) (.slice vx k vy) es) := HSr.out.later HL2.out.bel
          have t0 : V2.cell? ⟨n31, 0, none⟩ = some (.int .i64 (l.fr a)) := cellB HL2.out.r31 0
          have t1 : V2.cell? ⟨n31, 1, none⟩ = some (.slice bx (M.segBytes p l a z).length bc) := cellB HL2.out.r31 1
          have t2 : V2.cell? ⟨n31, 2, none⟩ = some (.int .i64 zs) := cellB HL2.out.r31 2
          have t3 : V2.cell? ⟨n31, 3, none⟩ = some (.bool wb) := cellB HL2.out.r31 3
          have t4 : V2.cell? ⟨n31, 4, none⟩ = some (.bool kb) := cellB HL2.out.r31 4
          have tl : n31 < V2.heap.size := (Array.getElem?_eq_some_iff.1 HL2.out.r31).1
          have k28 : V2.cell? ⟨b28, 1, none⟩ = some (.slice vx k vy) := cellB HSV.out.c28 1
          have l28 : b28 < V2.heap.size := (Array.getElem?_eq_some_iff.1 HSV.out.c28).1
          have hA4 := (Below.refl V2.heap.size V2).alloc (Nat.le_refl _) (.cells #[.int .i64 (l.fr a), .slice bx (M.segBytes p l a z).length bc, .int .i64 zs, .bool wb, .bool kb] 69)
          have hS5 := HSV.out.later hA4
          have hrw : (V2.alloc (.cells #[.int .i64 (l.fr a), .slice bx (M.segBytes p l a z).length bc, .int .i64 zs, .bool wb, .bool kb] 69)).ownsRow w.heap.size 69 5 (.slice vx k vy) k (es.flatMap encSeg) := by have := hS5.row; rwa [Hel.out] at this
          have HS5 : Hid _ := hS5
          have Hby : Hid ((V2.alloc (.cells #[.int .i64 (l.fr a), .slice bx (M.segBytes p l a z).length bc, .int .i64 zs, .bool wb, .bool kb] 69)).ownsRow w.heap.size 5 1 (.slice bx (M.segBytes p l a z).length bc) (M.segBytes p l a z).length (enc8 (M.segBytes p l a z)) ∧ (∀ b ∈ M.segBytes p l a z, 0 ≤ b ∧ b < 256) ∧ (M.segBytes p l a z).length ≤ 65536) := ⟨own_weaken (HL2.out.row.kept (grown_of_below hA4 none) own_self) HSr.out.bel.size, Hsm.out, by have := Hlen.out; omega⟩
          have hnews : ∀ j u, (#[.int .i64 (l.fr a), .slice bx (M.segBytes p l a z).length bc, .int .i64 zs, .bool wb, .bool kb] : Array Value).toList[j]? = some u → (V2.alloc (.cells #[.int .i64 (l.fr a), .slice bx (M.segBytes p l a z).length bc, .int .i64 zs, .bool wb, .bool kb] 69)).cell? ((⟨V2.heap.size, 0, none⟩ : Addr).add j) = some u := World.news_of_block (heap_alloc_new V2 _)
          have hbs : w.heap.size ≤ V2.heap.size := HSV.out.bel.size
          clear hA4 hS5 HSV HL2 HSr Hlen Hz9 hwb hkb
          go_wp2_with (first
            | (at_builtin; refine wpList_append_own _ rfl _ _ 26 rfl w.heap.size 69 i1 (.agg #[.int .i64 0, .slice none 0 0, .int .i64 0, .bool false, .bool false]) 5 48 Tryz.underlying26 hi1 hy0 hy1 hy2 rfl (by decide) _ _ _ rfl hrw ⟨V2.heap.size, 0, none⟩ 1 1 (#[.int .i64 (l.fr a), .slice bx (M.segBytes p l a z).length bc, .int .i64 zs, .bool wb, .bool kb] : Array Value).toList rfl rfl hnews (fun u hu => by simp at hu; rcases hu with rfl | rfl | rfl | rfl | rfl <;> rfl) (by unfold maxLen; omega) (by omega) (by simp; omega) ?_; intro v' w3 hown' hgrow3 hnil3; obtain ⟨z1', y1', rfl⟩ := own_len hown'
               have hS6 := HS5.out.grow (e := ⟨⟨l.fr a, M.segBytes p l a z, zs, wb, kb⟩, .slice bx (M.segBytes p l a z).length bc⟩) hgrow3 (by rw [Hel.out]; exact hown') Hby.out
               have m4 : w3.cell? ⟨b28, 1, none⟩ = some (.slice vx k vy) := cellB hS6.c28 1
               have mf : ∀ j, w3.frozen? ⟨b28, j, none⟩ = false := frozenB hS6.c28
               have ml : b28 < w3.heap.size := (Array.getElem?_eq_some_iff.1 hS6.c28).1
               have HS7 : Hid (SgS w b6 b9 b28 gs bm (layArr xf xn xc l.fr l.ti) m en (w3.setCell ⟨b28, 1, none⟩ (.slice z1' (k + 1) y1')) (.slice z1' (k + 1) y1') (.slice z1' (k + 1) y1') (es ++ [⟨⟨l.fr a, M.segBytes p l a z, zs, wb, kb⟩, .slice bx (M.segBytes p l a z).length bc⟩])) := hS6.store _
               clear hown' hgrow3 hnil3 hS6 HS5 hrw hnews Hby))
          go_roundw
          case rel => exact ⟨k + 1, _, es ++ [⟨⟨l.fr a, M.segBytes p l a z, zs, wb, kb⟩, .slice bx (M.segBytes p l a z).length bc⟩], by omega, by go_num, HS7, by rw [Hid, List.map_append, HEr.out, Hsl.out]; rfl, by rw [List.length_append, Hel.out]; rfl⟩
          case measure => simp [intOf]; omega
    · obtain rfl : k = 3 := by omega
      have HE : Hid (∃ vS es, SgS w b6 b9 b28 gs bm (layArr xf xn xc l.fr l.ti) m en wr vS vS es ∧ es.map (·.seg) = SL) := ⟨vS, es, HSr.out, by rw [HEr.out, HE3.out]⟩
      clear HSr HEr HE3 HK HSeg
      go_wp2_with fail
      exact HE.out

end Go.Proofs.YtcdpboocfkaifaaGreatDoor
