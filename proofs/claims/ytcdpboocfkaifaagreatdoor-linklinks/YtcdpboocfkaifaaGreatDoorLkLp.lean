/-
  The reference's Linked: the loop that lays the fragments' bytes. The reference's Linked: a segment that grows, and the row of segments, in memory. The reference's Linked: the bytes of a segment.
-/
import Derived.Test.YtcdpboocfkaifaaGreatDoorLkRl
import Derived.Test.YtcdpboocfkaifaaGreatDoorFrC
import Derived.Test.YtcdpboocfkaifaaGreatDoorFlX
import Derived.Test.YtcdpboocfkaifaaGreatDoorMathC
import Derived.Deep.DeepCutAuto
import Derived.Laws.ResultCell
import Derived.Test.YtcdpboocfkaifaaGreatDoorImgA

namespace Go.Proofs.YtcdpboocfkaifaaGreatDoor
open Go Go.RowKit Go.Maps
set_option linter.unusedVariables false

def loopsOfL : Code → List Code
  | .loop c => c :: loopsOfL c
  | .seq a b => loopsOfL a ++ loopsOfL b
  | .block _ c => loopsOfL c
  | .scope c => loopsOfL c
  | .cond _ a b => loopsOfL a ++ loopsOfL b
  | _ => []
theorem wf64 {x : Int} (h1 : -9223372036854775808 ≤ x) (h2 : x ≤ 9223372036854775807) : (Lit.int .i64 x).wf = true := by
  simp [Lit.wf, IntKind.min, IntKind.max, IntKind.bits, IntKind.signed]; omega
theorem wfU8 {x : Int} (h1 : 0 ≤ x) (h2 : x < 256) : (Lit.int .u8 x).wf = true := by
  simp [Lit.wf, IntKind.min, IntKind.max, IntKind.bits, IntKind.signed]; omega

set_option maxHeartbeats 32000000 in
set_option maxRecDepth 1000000 in
theorem lk_loop1 {zc0 zc1 zc2 zc4 zc5 zc6 zc7 zc8 zc10 zc11 zc12 zc13 zc15 zc16 zc17 zc18 zc19 zc20 zc21 zc22 zc23 zc24 zc25 zc26 zc27 zc28 zc29 zc30 zc31 zc32 zc33 zc34 zc35 zc36 zc37 zc38 zc39 zc40 zc41 zc42 zc43 zc44 zc45 zc46 zc47 zc48 zc49 zc50 zc51 zc52 zc53 zc54 zc55 zc56 zc57 zc58 zc59 zc60 zc61 zc62 zc63 zc64 zc65 zc66 zc67 zc68 zc72 zc73 zc74 zc75 zc76 zc77 zc78 zc79 zc80 zc81 zc82 zc83 zc84 zc85 zc86 zc87 zc88 zc89 zc90 zc91 zc92 zc93 zc94 zc95 zc96 zc97 zc98 zc99 zc100 zc101 zc102 zc103 zc104 zc105 zc106 zc107 zc108 zc109 zc110 zc111 zc112 zc113 zc114 zc115 zc116 zc117 zc118 zc119 zc120 zc121 zc122 zc123 zc124 zc125 zc126 zc127 zc128 zc129 zc130 zc131 zc132 zc133 zc134 zc135 zc136 zc137 zc138 zc139 zc140 zc141 zc142 zc143 zc144 zc145 zc146 zc147 zc148 zc149 zc150 zc151 zc152 zc153 zc154 zc155 zc156 zc157 zc158 zc159 zc160 zc161 zc162 zc163 zc164 zc165 zc166 zc167 zc168 zc169 zc170 zc171 zc172 zc173 zc174 zc175 zc176 zc177 zc178 zc179 zc180 zc181 zc182 zc183 zc184 zc185 zc186 zc187 zc188 zc189 zc190 zc191 zc192 zc193 zc194 zc195 zc196 zc197 zc198 zc199 zc200 zc201 zc202 zc203 zc204 zc205 zc206 zc207 zc208 zc209 zc210 zc211 zc212 zc213 zc214 zc215 zc216 zc217 zc218 zc219 zc220 zc221 zc222 zc223 zc224 zc225 zc226 zc227 zc228 zc229 zc230 zc231 zc232 zc233 zc234 zc235 zc236 zc237 zc238 zc239 zc240 zc241 zc242 zc243 zc244 zc245 zc246 zc247 zc248 zc249 zc250 zc251 zc252 zc253 zc254 zc255 zc256 zc257 zc258 zc259 zc260 zc261 zc262 zc263 zc264 zc265 zc266 zc267 zc268 zc269 zc270 : Value} (p : M.Prt) (base : Int) (a1 a2 : Option Addr) (c1 c2 : Nat) (w W0 : World) (b3 b6 b9 b11 bm : Nat) (xfa xna xca : Option Addr) (yf yn yc : Nat) (l : M.Lay) (vF : Value) (nf : List Flt)
    (hl : M.layAll p base = l) (hp : M.Ok p) (ha : M.Apart p base) (hlk : M.LkOk p l) (HFD : Hid (∀ W, Below w.heap.size w W → FragsAt W (.slice a1 p.frags.length c1) p.frags ∧ DefsAt W (.slice a2 p.defs.length c2) p.defs)) (Hby : Hid (∀ f ∈ p.frags, ∀ b ∈ f.bytes, 0 ≤ b ∧ b < 256)) (hbm : w.heap.size ≤ bm) (HS : Hid (LnS w b3 b6 b9 b11 #[.slice a1 p.frags.length c1, .slice a2 p.defs.length c2] (.slice xfa l.frags.length yf) (.slice xna l.names.length yn) (.slice xca l.coms.length yc) l W0 vF vF nf)) (HM : Hid (MAt W0 bm 0 (fun _ => 0))) {Q0 : Exit → Act → World → Prop}
    (hexit : ∀ (zv15 zv16 zv17 zv18 zv71 zv72 zv73 zv74 zv75 zv76 zv77 zv78 zv79 zv80 zv81 zv82 zv83 zv84 zv85 zv86 zv87 zv88 zv89 zv90 zv91 zv92 zv93 zv94 : Value) (w'' : World), (LnS w b3 b6 b9 b11 #[.slice a1 p.frags.length c1, .slice a2 p.defs.length c2] (.slice xfa l.frags.length yf) (.slice xna l.names.length yn) (.slice xca l.coms.length yc) l w'' vF vF nf ∧ ∃ m, MAt w'' bm 3840 m ∧ Q1 p base p.frags.length 0 m) → Q0 (.exit 0) ⟨List.toArray (zc0 :: zc1 :: zc2 :: .pointer (some ⟨b3, 0, none⟩) :: zc4 :: zc5 :: zc6 :: zc7 :: zc8 :: .pointer (some ⟨b9, 0, none⟩) :: zc10 :: zc11 :: zc12 :: zc13 :: .map (some bm) :: zv15 :: zv16 :: zv17 :: zv18 :: zc19 :: zc20 :: zc21 :: zc22 :: zc23 :: zc24 :: zc25 :: zc26 :: zc27 :: zc28 :: zc29 :: zc30 :: zc31 :: zc32 :: zc33 :: zc34 :: zc35 :: zc36 :: zc37 :: zc38 :: zc39 :: zc40 :: zc41 :: zc42 :: zc43 :: zc44 :: zc45 :: zc46 :: zc47 :: zc48 :: zc49 :: zc50 :: zc51 :: zc52 :: zc53 :: zc54 :: zc55 :: zc56 :: zc57 :: zc58 :: zc59 :: zc60 :: zc61 :: zc62 :: zc63 :: zc64 :: zc65 :: zc66 :: zc67 :: zc68 :: .slice a1 p.frags.length c1 :: .int .i64 p.frags.length :: zv71 :: zv72 :: zv73 :: zv74 :: zv75 :: zv76 :: zv77 :: zv78 :: zv79 :: zv80 :: zv81 :: zv82 :: zv83 :: zv84 :: zv85 :: zv86 :: zv87 :: zv88 :: zv89 :: zv90 :: zv91 :: zv92 :: zv93 :: zv94 :: zc95 :: zc96 :: zc97 :: zc98 :: zc99 :: zc100 :: zc101 :: zc102 :: zc103 :: zc104 :: zc105 :: zc106 :: zc107 :: zc108 :: zc109 :: zc110 :: zc111 :: zc112 :: zc113 :: zc114 :: zc115 :: zc116 :: zc117 :: zc118 :: zc119 :: zc120 :: zc121 :: zc122 :: zc123 :: zc124 :: zc125 :: zc126 :: zc127 :: zc128 :: zc129 :: zc130 :: zc131 :: zc132 :: zc133 :: zc134 :: zc135 :: zc136 :: zc137 :: zc138 :: zc139 :: zc140 :: zc141 :: zc142 :: zc143 :: zc144 :: zc145 :: zc146 :: zc147 :: zc148 :: zc149 :: zc150 :: zc151 :: zc152 :: zc153 :: zc154 :: zc155 :: zc156 :: zc157 :: zc158 :: zc159 :: zc160 :: zc161 :: zc162 :: zc163 :: zc164 :: zc165 :: zc166 :: zc167 :: zc168 :: zc169 :: zc170 :: zc171 :: zc172 :: zc173 :: zc174 :: zc175 :: zc176 :: zc177 :: zc178 :: zc179 :: zc180 :: zc181 :: zc182 :: zc183 :: zc184 :: zc185 :: zc186 :: zc187 :: zc188 :: zc189 :: zc190 :: zc191 :: zc192 :: zc193 :: zc194 :: zc195 :: zc196 :: zc197 :: zc198 :: zc199 :: zc200 :: zc201 :: zc202 :: zc203 :: zc204 :: zc205 :: zc206 :: zc207 :: zc208 :: zc209 :: zc210 :: zc211 :: zc212 :: zc213 :: zc214 :: zc215 :: zc216 :: zc217 :: zc218 :: zc219 :: zc220 :: zc221 :: zc222 :: zc223 :: zc224 :: zc225 :: zc226 :: zc227 :: zc228 :: zc229 :: zc230 :: zc231 :: zc232 :: zc233 :: zc234 :: zc235 :: zc236 :: zc237 :: zc238 :: zc239 :: zc240 :: zc241 :: zc242 :: zc243 :: zc244 :: zc245 :: zc246 :: zc247 :: zc248 :: zc249 :: zc250 :: zc251 :: zc252 :: zc253 :: zc254 :: zc255 :: zc256 :: zc257 :: zc258 :: zc259 :: zc260 :: zc261 :: zc262 :: zc263 :: zc264 :: zc265 :: zc266 :: zc267 :: zc268 :: zc269 :: zc270 :: []), []⟩ w'') :
    Code.wp Tryz.prog (Code.loop (((Tryz.f10.body.map loopsOfL).getD [])[0]?.getD .skip : Code)) Q0 ⟨List.toArray (zc0 :: zc1 :: zc2 :: .pointer (some ⟨b3, 0, none⟩) :: zc4 :: zc5 :: zc6 :: zc7 :: zc8 :: .pointer (some ⟨b9, 0, none⟩) :: zc10 :: zc11 :: zc12 :: zc13 :: .map (some bm) :: zc15 :: zc16 :: zc17 :: zc18 :: zc19 :: zc20 :: zc21 :: zc22 :: zc23 :: zc24 :: zc25 :: zc26 :: zc27 :: zc28 :: zc29 :: zc30 :: zc31 :: zc32 :: zc33 :: zc34 :: zc35 :: zc36 :: zc37 :: zc38 :: zc39 :: zc40 :: zc41 :: zc42 :: zc43 :: zc44 :: zc45 :: zc46 :: zc47 :: zc48 :: zc49 :: zc50 :: zc51 :: zc52 :: zc53 :: zc54 :: zc55 :: zc56 :: zc57 :: zc58 :: zc59 :: zc60 :: zc61 :: zc62 :: zc63 :: zc64 :: zc65 :: zc66 :: zc67 :: zc68 :: .slice a1 p.frags.length c1 :: .int .i64 p.frags.length :: .int .i64 0 :: zc72 :: zc73 :: zc74 :: zc75 :: zc76 :: zc77 :: zc78 :: zc79 :: zc80 :: zc81 :: zc82 :: zc83 :: zc84 :: zc85 :: zc86 :: zc87 :: zc88 :: zc89 :: zc90 :: zc91 :: zc92 :: zc93 :: zc94 :: zc95 :: zc96 :: zc97 :: zc98 :: zc99 :: zc100 :: zc101 :: zc102 :: zc103 :: zc104 :: zc105 :: zc106 :: zc107 :: zc108 :: zc109 :: zc110 :: zc111 :: zc112 :: zc113 :: zc114 :: zc115 :: zc116 :: zc117 :: zc118 :: zc119 :: zc120 :: zc121 :: zc122 :: zc123 :: zc124 :: zc125 :: zc126 :: zc127 :: zc128 :: zc129 :: zc130 :: zc131 :: zc132 :: zc133 :: zc134 :: zc135 :: zc136 :: zc137 :: zc138 :: zc139 :: zc140 :: zc141 :: zc142 :: zc143 :: zc144 :: zc145 :: zc146 :: zc147 :: zc148 :: zc149 :: zc150 :: zc151 :: zc152 :: zc153 :: zc154 :: zc155 :: zc156 :: zc157 :: zc158 :: zc159 :: zc160 :: zc161 :: zc162 :: zc163 :: zc164 :: zc165 :: zc166 :: zc167 :: zc168 :: zc169 :: zc170 :: zc171 :: zc172 :: zc173 :: zc174 :: zc175 :: zc176 :: zc177 :: zc178 :: zc179 :: zc180 :: zc181 :: zc182 :: zc183 :: zc184 :: zc185 :: zc186 :: zc187 :: zc188 :: zc189 :: zc190 :: zc191 :: zc192 :: zc193 :: zc194 :: zc195 :: zc196 :: zc197 :: zc198 :: zc199 :: zc200 :: zc201 :: zc202 :: zc203 :: zc204 :: zc205 :: zc206 :: zc207 :: zc208 :: zc209 :: zc210 :: zc211 :: zc212 :: zc213 :: zc214 :: zc215 :: zc216 :: zc217 :: zc218 :: zc219 :: zc220 :: zc221 :: zc222 :: zc223 :: zc224 :: zc225 :: zc226 :: zc227 :: zc228 :: zc229 :: zc230 :: zc231 :: zc232 :: zc233 :: zc234 :: zc235 :: zc236 :: zc237 :: zc238 :: zc239 :: zc240 :: zc241 :: zc242 :: zc243 :: zc244 :: zc245 :: zc246 :: zc247 :: zc248 :: zc249 :: zc250 :: zc251 :: zc252 :: zc253 :: zc254 :: zc255 :: zc256 :: zc257 :: zc258 :: zc259 :: zc260 :: zc261 :: zc262 :: zc263 :: zc264 :: zc265 :: zc266 :: zc267 :: zc268 :: zc269 :: zc270 :: []), []⟩ W0 := by
  have hnf := hp.nf
  conv => arg 2; arg 1; whnf
  go_loopw [71] (fun s71 wr => ∃ (i : Nat) (m : Int → Int), i ≤ p.frags.length ∧ s71 = .int .i64 i ∧ Hid (LnS w b3 b6 b9 b11 #[.slice a1 p.frags.length c1, .slice a2 p.defs.length c2] (.slice xfa l.frags.length yf) (.slice xna l.names.length yn) (.slice xca l.coms.length yc) l wr vF vF nf) ∧ Hid (MAt wr bm (64 * i) m ∧ Q1 p base i 0 m)) (fun s71 _ => p.frags.length - (intOf s71).toNat)
  case atStart => exact ⟨0, _, Nat.zero_le _, rfl, HS, HM.out, Q1.start⟩
  case round =>
    obtain ⟨i, m, hi, rfl, HSr, HMr⟩ := hrel
    clear HS HM
    by_cases hlt : i < p.frags.length
    · obtain ⟨b, off, ab, cb, ar, cr, rfl, e0, e1, e2, e3, e4, e5, hB, -, -, -⟩ := (HFD.out w (Below.refl _ _)).1.cells i hlt
      have HBs : Hid (∀ W, Below w.heap.size w W → BytesAt W (.slice ab (p.frags.getD i frg0).bytes.length cb) (p.frags.getD i frg0).bytes) := fun W hW => hB.later hW
      replace e0 := cell_later HSr.out.bel e0
      replace e1 := cell_later HSr.out.bel e1
      replace e2 := cell_later HSr.out.bel e2
      replace e3 := cell_later HSr.out.bel e3
      replace e4 := cell_later HSr.out.bel e4
      replace e5 := cell_later HSr.out.bel e5
      have hbr : b < wr.heap.size := World.block_lt_of_cell? _ _ e0
      have hil : (i : Int) < (p.frags.length : Int) := by omega
      have h64 := (M.frag_parts (M.frag_ok hp (getD_mem p.frags frg0 i hlt))).2.1
      have Hbb : Hid (∀ x ∈ (p.frags.getD i frg0).bytes, 0 ≤ x ∧ x < 256) := Hby.out _ (getD_mem p.frags frg0 i hlt)
      have HQs : Hid (∀ j m, j < (p.frags.getD i frg0).bytes.length → Q1 p base i j m → Q1 p base i (j + 1) (wrB m (l.frags.getD i 0 + (j : Int)) ((p.frags.getD i frg0).bytes.getD j 0))) := fun j m hj h => by rw [← hl]; exact h.step hp ha hlt hj
      have HQn : Hid (∀ m, Q1 p base i (p.frags.getD i frg0).bytes.length m → Q1 p base (i + 1) 0 m) := fun m h => h.next
      have hlb : l.frags.getD i 0 ∈ l.frags := by rw [List.getD_eq_getElem?_getD, List.getElem?_eq_getElem (by rw [hlk.len]; exact hlt)]; exact List.getElem_mem _
      have hbd := hlk.bd _ hlb
      have hll : i < l.frags.length := by rw [hlk.len]; exact hlt
      have HIx : Hid (∀ W, LnS w b3 b6 b9 b11 #[.slice (some ⟨b, off, none⟩) p.frags.length c1, .slice a2 p.defs.length c2] (.slice xfa l.frags.length yf) (.slice xna l.names.length yn) (.slice xca l.coms.length yc) l W vF vF nf → ∃ b off, xfa = some ⟨b, off, none⟩ ∧ W.cell? ⟨b, off + i, none⟩ = some (.int .i64 (l.frags.getD i 0)) ∧ b < W.heap.size) := fun W h => (row_ints h.rf).cell i hll
      clear hB hlb
      generalize l.frags.getD i 0 = x at *
      generalize p.frags.getD i frg0 = F at *
      obtain ⟨sc, al, gp, bs, sz, rs⟩ := F
      dsimp only at e0 e1 e2 e3 e4 e5 h64 Hbb HQs HQn HBs
      have hAl := (Below.refl wr.heap.size wr).alloc (Nat.le_refl _) (.cells #[.int .i64 sc, .int .i64 al, .string gp, .slice ab bs.length cb, .int .i64 sz, .slice ar rs.length cr] 56)
      have HSA := HSr.out.later hAl
      have HMA := HMr.out.1.later hAl
      have HQA : Hid _ := HMr.out.2
      have hq := heap_alloc_new wr (.cells #[.int .i64 sc, .int .i64 al, .string gp, .slice ab bs.length cb, .int .i64 sz, .slice ar rs.length cr] 56)
      clear hAl HSr HMr
      go_upto_region 13 with fail
      clear e0 e1 e2 e3 e4 e5 hbr
      obtain ⟨nz, hnz⟩ : ∃ nz, nz = wr.heap.size := ⟨_, rfl⟩
      rw [← hnz] at hq ⊢
      clear hnz
      generalize wr.alloc (.cells #[.int .i64 sc, .int .i64 al, .string gp, .slice ab bs.length cb, .int .i64 sz, .slice ar rs.length cr] 56) = Z at *
      have q3 : Z.cell? ⟨nz, 3, none⟩ = some (.slice ab bs.length cb) := cellB hq 3
      have ql : nz < Z.heap.size := (Array.getElem?_eq_some_iff.1 hq).1
      have HS1 : Hid (LnS w b3 b6 b9 b11 #[.slice (some ⟨b, off, none⟩) p.frags.length c1, .slice a2 p.defs.length c2] (.slice xfa l.frags.length yf) (.slice xna l.names.length yn) (.slice xca l.coms.length yc) l Z vF vF nf) := HSA
      have HM1 : Hid (MAt Z bm (64 * i + 0) m) := HMA
      clear hq HSA HMA
      go_upto_region 14 with fail
      clear q3 ql
      go_loopw [79] (fun s79 wr => ∃ (j : Nat) (m : Int → Int), j ≤ bs.length ∧ s79 = .int .i64 j ∧ Hid (LnS w b3 b6 b9 b11 #[.slice (some ⟨b, off, none⟩) p.frags.length c1, .slice a2 p.defs.length c2] (.slice xfa l.frags.length yf) (.slice xna l.names.length yn) (.slice xca l.coms.length yc) l wr vF vF nf) ∧ Hid (MAt wr bm (64 * i + j) m ∧ Q1 p base i j m)) (fun s79 _ => bs.length - (intOf s79).toNat)
      case atStart => exact ⟨0, _, Nat.zero_le _, rfl, HS1, HM1.out, HQA.out⟩
      case round =>
        obtain ⟨j, m, hj, rfl, HSr, HMr⟩ := hrel
        clear HS1 HM1 HQA
        by_cases hjt : j < bs.length
        · obtain ⟨b2, off2, rfl, hc2, hb2⟩ := (HBs.out wr HSr.out.bel).cell j hjt
          obtain ⟨b4, off4, rfl, hc4, hb4⟩ := HIx.out wr HSr.out
          have y0 : wr.cell? ⟨b9, 0, none⟩ = some (.slice (some ⟨b4, off4, none⟩) l.frags.length yf) := cellB HSr.out.c9 0
          have yl : b9 < wr.heap.size := (Array.getElem?_eq_some_iff.1 HSr.out.c9).1
          have hjl : (j : Int) < (bs.length : Int) := by omega
          have hill : (i : Int) < (l.frags.length : Int) := by omega
          have hv := Hbb.out _ (getD_mem bs 0 j hjt)
          have hw : wrap64 (x + (j : Int)) = x + (j : Int) := by unfold wrap64; omega
          obtain ⟨w3, hrun, hM, hgr⟩ := HMr.out.1.put (by unfold maxLen; omega) (x + (j : Int)) (bs.getD j 0) (wf64 (by omega) (by omega)) (wfU8 hv.1 hv.2)
          have HP : Hid (LnS w b3 b6 b9 b11 #[.slice (some ⟨b, off, none⟩) p.frags.length c1, .slice a2 p.defs.length c2] (.slice (some ⟨b4, off4, none⟩) l.frags.length yf) (.slice xna l.names.length yn) (.slice xca l.coms.length yc) l w3 vF vF nf ∧ MAt w3 bm (64 * i + j + 1) (wrB m (x + (j : Int)) (bs.getD j 0)) ∧ Q1 p base i (j + 1) (wrB m (x + (j : Int)) (bs.getD j 0))) := ⟨HSr.out.map HMr.out.1 hgr hbm, hM, HQs.out j m hjt HMr.out.2⟩
          clear hM hgr HSr HMr hv
          generalize bs.getD j 0 = v at *
          go_wp2_with fail
          go_roundw
          case rel => exact ⟨j + 1, _, by omega, by go_num, HP.out.1, HP.out.2⟩
          case measure => simp [intOf]; omega
        · obtain rfl : j = bs.length := by omega
          have HP : Hid (LnS w b3 b6 b9 b11 #[.slice (some ⟨b, off, none⟩) p.frags.length c1, .slice a2 p.defs.length c2] (.slice xfa l.frags.length yf) (.slice xna l.names.length yn) (.slice xca l.coms.length yc) l wr vF vF nf ∧ MAt wr bm (64 * (i + 1)) m ∧ Q1 p base (i + 1) 0 m) := ⟨HSr.out, HMr.out.1.mono (by omega), HQn.out m HMr.out.2⟩
          clear HSr HMr HQn HQs
          go_wp2_with fail
          go_roundw
          case rel => exact ⟨i + 1, _, by omega, by go_num, HP.out.1, HP.out.2⟩
          case measure => simp [intOf]; omega
    · obtain rfl : i = p.frags.length := by omega
      have HE : Hid (LnS w b3 b6 b9 b11 #[.slice a1 p.frags.length c1, .slice a2 p.defs.length c2] (.slice xfa l.frags.length yf) (.slice xna l.names.length yn) (.slice xca l.coms.length yc) l wr vF vF nf ∧ ∃ m, MAt wr bm 3840 m ∧ Q1 p base p.frags.length 0 m) := ⟨HSr.out, m, HMr.out.1.mono (by omega), HMr.out.2⟩
      clear HSr HMr
      go_wp2_with fail
      exact HE.out

end Go.Proofs.YtcdpboocfkaifaaGreatDoor

namespace Go.Proofs.YtcdpboocfkaifaaGreatDoor
open Go Go.RowKit
set_option linter.unusedVariables false

/-- a segment in a box, with bytes of its own, all of it behind X0 -/
structure SgL (X0 : World) (n30 n31 : Nat) (c30 : Array Value) (pos zs : Int) (wb kb : Bool) (W : World) (u v : Value) (bs : List Int) : Prop where
  bel : Below X0.heap.size X0 W
  r30 : W.heap[n30]? = some (.cells c30 82 (0, 0))
  r31 : W.heap[n31]? = some (.cells #[.int .i64 pos, u, .int .i64 zs, .bool wb, .bool kb] 69 (0, 0))
  row : W.ownsRow X0.heap.size 5 1 v bs.length (enc8 bs)
  lo : X0.heap.size ≤ n31
section
variable {X0 W X : World} {n30 n31 : Nat} {c30 : Array Value} {pos zs : Int} {wb kb : Bool} {u v v1 : Value} {bs : List Int}
theorem SgL.later (h : SgL X0 n30 n31 c30 pos zs wb kb W u v bs) (hb : Below W.heap.size W X) : SgL X0 n30 n31 c30 pos zs wb kb X u v bs :=
  have hk : ∀ {b : Nat} {cs : Array Value} {t : TypeId}, W.heap[b]? = some (.cells cs t (0, 0)) → X.heap[b]? = some (.cells cs t (0, 0)) := fun hx => (hb.block _ (Array.getElem?_eq_some_iff.1 hx).1).trans hx
  ⟨h.bel.trans (hb.mono h.bel.size), hk h.r30, hk h.r31, h.row.kept (grown_of_below hb none) own_self, h.lo⟩
theorem SgL.grow {x : Int} (h : SgL X0 n30 n31 c30 pos zs wb kb W u v bs) (hg : W.grownBy X v.ownBlock) (hr : X.ownsRow X0.heap.size 5 1 v1 (bs.length + 1) (enc8 bs ++ [.int .u8 x])) : SgL X0 n30 n31 c30 pos zs wb kb X u v1 (bs ++ [x]) := by
  refine ⟨h.bel.grown hg h.bel.size (fun k hk => (h.row.lt k hk).1), block_kept h.row hg h.r30 (by decide), block_kept h.row hg h.r31 (by decide), ?_, h.lo⟩
  unfold enc8 at *
  rw [List.length_append, List.map_append]
  exact hr
theorem SgL.store (h : SgL X0 n30 n31 c30 pos zs wb kb W u v bs) (x : Value) : SgL X0 n30 n31 c30 pos zs wb kb (W.setCell ⟨n31, 1, none⟩ x) x v bs :=
  have hg := grown_set W n31 1 x
  ⟨h.bel.setCell h.lo _, (Below.heap_setCell _ _ _ _ (fun e => by have := h.r30; rw [e, h.r31] at this; cases this)).trans h.r30, setB' h.r31 (i := 1) x, h.row.kept hg (own_ne h.row h.r31 (by decide)), h.lo⟩
theorem SgL.storeZ (h : SgL X0 n30 n31 c30 pos zs wb kb W u v bs) (x : Int) : SgL X0 n30 n31 c30 pos x wb kb (W.setCell ⟨n31, 2, none⟩ (.int .i64 x)) u v bs :=
  have hg := grown_set W n31 2 (.int .i64 x)
  ⟨h.bel.setCell h.lo _, (Below.heap_setCell _ _ _ _ (fun e => by have := h.r30; rw [e, h.r31] at this; cases this)).trans h.r30, setB' h.r31 (i := 2) (.int .i64 x), h.row.kept hg (own_ne h.row h.r31 (by decide)), h.lo⟩
end

/-- the boxes, the map, the image with its row of segments -/
structure SgS (w0 : World) (b6 b9 b28 gs bm : Nat) (A9 : Array Value) (m : Int → Int) (en : Int) (W : World) (u vS : Value) (es : List SEnt) : Prop where
  bel : Below w0.heap.size w0 W
  c6 : W.heap[b6]? = some (.cells #[.int .i64 0, .slice none 0 0] 28 (0, 0))
  c9 : W.heap[b9]? = some (.cells A9 45 (0, 0))
  c28 : W.heap[b28]? = some (.cells #[.int .i64 en, u] 28 (0, 0))
  cg : W.heap[gs]? = some (.cells #[.int .i64 1, .int .i64 1, .int .i64 0, .int .i64 2, .int .i64 3, .int .i64 0, .int .i64 4, .int .i64 4, .int .i64 5] 82 (0, 0))
  mm : MAt W bm 4800 m
  row : W.ownsRow w0.heap.size 69 5 vS es.length (es.flatMap encSeg)
  bts : ∀ e ∈ es, W.ownsRow w0.heap.size 5 1 e.vb e.seg.bytes.length (enc8 e.seg.bytes) ∧ (∀ b ∈ e.seg.bytes, 0 ≤ b ∧ b < 256) ∧ e.seg.bytes.length ≤ 65536
  ne : b6 ≠ b28
  lo : w0.heap.size ≤ b28 ∧ w0.heap.size ≤ b6
section
variable {w0 W X : World} {b6 b9 b28 gs bm : Nat} {A9 : Array Value} {m : Int → Int} {en : Int} {u vS v1 : Value} {es : List SEnt}
theorem SgS.later (h : SgS w0 b6 b9 b28 gs bm A9 m en W u vS es) (hb : Below W.heap.size W X) : SgS w0 b6 b9 b28 gs bm A9 m en X u vS es :=
  have hk : ∀ {b : Nat} {cs : Array Value} {t : TypeId}, W.heap[b]? = some (.cells cs t (0, 0)) → X.heap[b]? = some (.cells cs t (0, 0)) := fun hx => (hb.block _ (Array.getElem?_eq_some_iff.1 hx).1).trans hx
  have hg := grown_of_below hb none
  ⟨h.bel.trans (hb.mono h.bel.size), hk h.c6, hk h.c9, hk h.c28, hk h.cg, h.mm.later hb, h.row.kept hg own_self, fun e he => ⟨(h.bts e he).1.kept hg own_self, (h.bts e he).2⟩, h.ne, h.lo⟩
theorem SgS.grow {e : SEnt} (h : SgS w0 b6 b9 b28 gs bm A9 m en W u vS es) (hg : W.grownBy X vS.ownBlock) (hr : X.ownsRow w0.heap.size 69 5 v1 (es.length + 1) (es.flatMap encSeg ++ encSeg e))
    (he : W.ownsRow w0.heap.size 5 1 e.vb e.seg.bytes.length (enc8 e.seg.bytes) ∧ (∀ b ∈ e.seg.bytes, 0 ≤ b ∧ b < 256) ∧ e.seg.bytes.length ≤ 65536) : SgS w0 b6 b9 b28 gs bm A9 m en X u v1 (es ++ [e]) := by
  have key : ∀ x : SEnt, (W.ownsRow w0.heap.size 5 1 x.vb x.seg.bytes.length (enc8 x.seg.bytes) ∧ (∀ b ∈ x.seg.bytes, 0 ≤ b ∧ b < 256) ∧ x.seg.bytes.length ≤ 65536) → (X.ownsRow w0.heap.size 5 1 x.vb x.seg.bytes.length (enc8 x.seg.bytes) ∧ (∀ b ∈ x.seg.bytes, 0 ≤ b ∧ b < 256) ∧ x.seg.bytes.length ≤ 65536) := fun x hx => ⟨hx.1.kept hg (own_apart hx.1 h.row (by decide)), hx.2⟩
  refine ⟨h.bel.grown hg h.bel.size (fun k hk => (h.row.lt k hk).1), block_kept h.row hg h.c6 (by decide), block_kept h.row hg h.c9 (by decide), block_kept h.row hg h.c28 (by decide), block_kept h.row hg h.cg (by decide), h.mm.kept hg ?_, ?_, fun x hx => ?_, h.ne, h.lo⟩
  · obtain ⟨n, D, _, ⟨es', ck, hq, _⟩, _⟩ := h.mm
    rcases row_mapL h.row hq with e | e
    · rw [e]; intro h; cases h
    · exact e
  · rw [List.length_append, List.flatMap_append]
    simpa [List.flatMap_cons] using hr
  · rcases List.mem_append.1 hx with hx | hx
    · exact key x (h.bts x hx)
    · rw [List.mem_singleton.1 hx]; exact key e he
theorem SgS.store (h : SgS w0 b6 b9 b28 gs bm A9 m en W u vS es) (v : Value) : SgS w0 b6 b9 b28 gs bm A9 m en (W.setCell ⟨b28, 1, none⟩ v) v vS es :=
  have hg := grown_set W b28 1 v
  have hk : ∀ {b : Nat} {cs : Array Value} {t : TypeId}, t ≠ 28 → W.heap[b]? = some (.cells cs t (0, 0)) → (W.setCell ⟨b28, 1, none⟩ v).heap[b]? = some (.cells cs t (0, 0)) := fun ht hx => (Below.heap_setCell _ _ _ _ (fun e => by rw [e, h.c28] at hx; cases hx; exact ht rfl)).trans hx
  ⟨h.bel.setCell h.lo.1 _, (Below.heap_setCell _ _ _ _ h.ne).trans h.c6, hk (by decide) h.c9, setB' h.c28 (i := 1) v, hk (by decide) h.cg, h.mm.kept hg (fun e => by
    cases e
    obtain ⟨n, D, _, ⟨es', ck, hq, _⟩, _⟩ := h.mm
    have := h.c28
    rw [hq] at this
    cases this), h.row.kept hg (own_ne h.row h.c28 (by decide)), fun e he => ⟨(h.bts e he).1.kept hg (own_ne (h.bts e he).1 h.c28 (by decide)), (h.bts e he).2⟩, h.ne, h.lo⟩
theorem segs_rows {W : World} {B : Nat} {vS : Value} {es : List SEnt} (hrow : W.ownsRow B 69 5 vS es.length (es.flatMap encSeg)) (hbts : ∀ e ∈ es, W.ownsRow B 5 1 e.vb e.seg.bytes.length (enc8 e.seg.bytes) ∧ (∀ b ∈ e.seg.bytes, 0 ≤ b ∧ b < 256)) : SegsAt W vS (es.map (·.seg)) := by
  have hb : ∀ e ∈ es, BytesAt W e.vb e.seg.bytes := fun e he => by
    have hr := (hbts e he).1
    have h' : W.ownsRow B 5 1 e.vb e.seg.bytes.length (e.seg.bytes.flatMap fun x => [Value.int .u8 x]) := by
      have e2 : (e.seg.bytes.flatMap fun x => [Value.int .u8 x]) = enc8 e.seg.bytes := by
        unfold enc8; induction e.seg.bytes with
        | nil => rfl
        | cons x l ih => rw [List.flatMap_cons, ih]; rfl
      rwa [e2]
    refine ⟨(row_slice (k := 1) (0 : Int) (fun x => [Value.int .u8 x]) (fun _ => rfl) e.seg.bytes h').congr' (fun j i hj hi => ?_), (hbts e he).2⟩
    obtain rfl : i = 0 := by omega
    rfl
  refine ⟨fun j i => (encSeg (es.getD j ⟨M.seg0, undef⟩)).getD i undef, ?_, fun j hj => ?_⟩
  · rw [List.length_map]
    exact row_slice (k := 5) ⟨M.seg0, undef⟩ encSeg (fun _ => rfl) es hrow
  · rw [List.length_map] at hj
    have e1 : (es.map (·.seg)).getD j M.seg0 = (es.getD j ⟨M.seg0, undef⟩).seg := by
      rw [List.getD_eq_getElem?_getD, List.getD_eq_getElem?_getD, List.getElem?_map, List.getElem?_eq_getElem hj]; rfl
    rw [e1]
    exact ⟨rfl, hb _ (getD_mem es _ j hj), rfl, rfl, rfl⟩
/-- the image is written into the result's box: what the row reads -/
theorem SgS.fin (h : SgS w0 b6 b9 b28 gs bm A9 m en W u vS es) (x y : Value) : SegsAt ((W.setCell ⟨b6, 0, none⟩ x).setCell ⟨b6, 1, none⟩ y) vS (es.map (·.seg)) := by
  have c1 := setB' h.c6 (i := 0) x
  have k : ∀ {e : TypeId} {k n : Nat} {v : Value} {xs : List Value}, e ≠ 28 → W.ownsRow w0.heap.size e k v n xs → ((W.setCell ⟨b6, 0, none⟩ x).setCell ⟨b6, 1, none⟩ y).ownsRow w0.heap.size e k v n xs := fun he hr =>
    have h1 := hr.kept (grown_set W b6 0 x) (own_ne hr h.c6 he)
    h1.kept (grown_set _ b6 1 y) (own_ne h1 c1 he)
  exact segs_rows (k (by decide) h.row) (fun e he => ⟨k (by decide) (h.bts e he).1, (h.bts e he).2.1⟩)
theorem LnS.fin {b3 b11 : Nat} {vp : Array Value} {xf xn xc vF : Value} {l : M.Lay} {fl : List Flt} (h : LnS w0 b3 b6 b9 b11 vp xf xn xc l W u vF fl) (x y : Value) : FltsAt ((W.setCell ⟨b6, 0, none⟩ x).setCell ⟨b6, 1, none⟩ y) vF fl := by
  have c1 := setB' h.c6 (i := 0) x
  have h1 := h.row.kept (grown_set W b6 0 x) (own_ne h.row h.c6 (by decide))
  exact row_flts (h1.kept (grown_set _ b6 1 y) (own_ne h1 c1 (by decide)))
end

/-- a fragment that is filled keeps its length, and its bytes are bytes -/
theorem filled_ok {p : M.Prt} {l : M.Lay} {s : ByteArray} (hp : M.Ok p) (hf : M.allFaults p l s = []) (hb : ∀ f ∈ p.frags, ∀ b ∈ f.bytes, 0 ≤ b ∧ b < 256) {i : Nat} (hi : i < p.frags.length) :
    (M.filled p l i (p.frags.getD i frg0)).length = (p.frags.getD i frg0).bytes.length ∧ ∀ b ∈ M.filled p l i (p.frags.getD i frg0), 0 ≤ b ∧ b < 256 := by
  have hfm := getD_mem p.frags frg0 i hi
  have hparts := M.frag_parts (M.frag_ok hp hfm)
  obtain ⟨f1, f2, _⟩ := fold_places p l i (p.frags.getD i frg0).bytes.length p.frags.length hparts.2.1 (p.frags.getD i frg0).rels 0 (p.frags.getD i frg0).bytes (Int.le_refl _) hparts.2.2.2.2 (fun r hr => no_faults hf hi hr) rfl (hb _ hfm)
  exact ⟨f1, f2⟩
theorem segN_small {p : M.Prt} {l : M.Lay} {a z : Nat} (hfl : ∀ i, i < p.frags.length → ∀ b ∈ M.filled p l i (p.frags.getD i frg0), 0 ≤ b ∧ b < 256) : ∀ n, n ≤ p.frags.length → ∀ b ∈ M.segN p l a z n, 0 ≤ b ∧ b < 256
  | 0, _ => fun b hb => by
    have := List.eq_of_mem_replicate hb
    omega
  | n + 1, hn => by
    rw [segN_succ]
    by_cases hc : (a : Int) ≤ (p.frags.getD n frg0).sect ∧ (p.frags.getD n frg0).sect ≤ z
    · rw [segStep_in hc]; exact over_mem (segN_small hfl n (by omega)) (hfl n hn)
    · rw [segStep_out hc]; exact segN_small hfl n (by omega)
theorem seg_facts {p : M.Prt} {base : Int} {l : M.Lay} {s : ByteArray} {m : Int → Int} (hp : M.Ok p) (ha : M.Apart p base) (hl : M.layAll p base = l) (hf : M.allFaults p l s = []) (hb : ∀ f ∈ p.frags, ∀ b ∈ f.bytes, 0 ≤ b ∧ b < 256) (h : Q2 p base p.frags.length 0 m) {a z : Nat} (haz : (a = 1 ∧ z = 1) ∨ (a = 2 ∧ z = 3) ∨ (a = 4 ∧ z = 4)) :
    (0 ≤ l.fr a ∧ l.ti z ≤ 65536) ∧ (M.segBytes p l a z).length = (l.ti z - l.fr a).toNat ∧ (∀ k : Nat, k < (M.segBytes p l a z).length → m (l.fr a + (k : Int)) = (M.segBytes p l a z).getD k 0) ∧ ∀ b ∈ M.segBytes p l a z, 0 ≤ b ∧ b < 256 := by
  subst hl
  have ho := segOk_of hp ha haz
  have hlen : (M.segBytes p (M.layAll p base) a z).length = ((M.layAll p base).ti z - (M.layAll p base).fr a).toNat := segN_len p _ a z _
  refine ⟨⟨ho.lo, ho.hi⟩, hlen, fun k hk => ?_, segN_small (fun i hi => (filled_ok hp hf hb hi).2) _ (Nat.le_refl _)⟩
  exact h.seg hp ha (fun i hi => (filled_ok hp hf hb hi).1) haz (by rw [← hlen]; exact hk)

end Go.Proofs.YtcdpboocfkaifaaGreatDoor

namespace Go.Proofs.YtcdpboocfkaifaaGreatDoor
open Go Go.RowKit Go.Maps
set_option linter.unusedVariables false

set_option maxHeartbeats 32000000 in
set_option maxRecDepth 1000000 in
theorem lk_loop7 {zc0 zc1 zc2 zc3 zc4 zc5 zc6 zc7 zc8 zc10 zc11 zc12 zc13 zc15 zc16 zc17 zc18 zc19 zc20 zc21 zc22 zc23 zc24 zc25 zc26 zc27 zc28 zc29 zc33 zc34 zc35 zc36 zc37 zc38 zc39 zc40 zc41 zc42 zc43 zc44 zc45 zc46 zc47 zc48 zc49 zc50 zc51 zc52 zc53 zc54 zc55 zc56 zc57 zc58 zc59 zc60 zc61 zc62 zc63 zc64 zc65 zc66 zc67 zc68 zc69 zc70 zc71 zc72 zc73 zc74 zc75 zc76 zc77 zc78 zc79 zc80 zc81 zc82 zc83 zc84 zc85 zc86 zc87 zc88 zc89 zc90 zc91 zc92 zc93 zc94 zc95 zc96 zc97 zc98 zc99 zc100 zc101 zc102 zc103 zc104 zc105 zc106 zc107 zc108 zc109 zc110 zc111 zc112 zc113 zc114 zc115 zc116 zc117 zc118 zc119 zc120 zc121 zc122 zc123 zc124 zc125 zc126 zc127 zc128 zc129 zc130 zc131 zc132 zc133 zc134 zc135 zc136 zc137 zc138 zc139 zc140 zc141 zc142 zc143 zc144 zc145 zc146 zc147 zc148 zc149 zc150 zc151 zc152 zc153 zc154 zc155 zc156 zc157 zc158 zc159 zc160 zc161 zc162 zc163 zc164 zc165 zc166 zc167 zc168 zc169 zc170 zc171 zc172 zc173 zc174 zc175 zc176 zc177 zc178 zc179 zc180 zc181 zc182 zc183 zc184 zc185 zc186 zc187 zc188 zc189 zc190 zc191 zc192 zc193 zc194 zc195 zc196 zc197 zc198 zc199 zc200 zc201 zc202 zc203 zc204 zc205 zc206 zc207 zc208 zc209 zc210 zc211 zc212 zc213 zc214 zc215 zc216 zc217 zc218 zc219 zc220 zc221 zc222 zc223 zc224 zc225 zc226 zc227 zc228 zc229 zc230 zc231 zc232 zc233 zc234 zc235 zc236 zc237 zc238 zc239 zc240 zc241 zc242 zc243 zc244 zc245 zc246 zc247 zc248 zc249 zc250 zc251 zc252 zc253 zc254 zc255 zc256 zc257 zc258 zc259 zc260 zc261 zc262 zc263 zc264 zc265 zc266 zc267 zc268 zc269 zc270 : Value} (f0 t0 : Int) (a z q : Nat) (X0 W0 : World) (b9 bm n30 n31 N : Nat) (A9 : Array Value) (m : Int → Int) (wb kb : Bool) (bs : List Int) 
    (hz : z ≤ 5) (hf0 : 0 ≤ f0) (ht0 : t0 ≤ 65536) (hlen : bs.length = (t0 - f0).toNat) (hz9 : A9[9 + z]? = some (.int .i64 t0)) (h9 : X0.heap[b9]? = some (.cells A9 45 (0, 0))) (HMm : Hid (MAt X0 bm N m)) (Hat : Hid (∀ k : Nat, k < bs.length → m (f0 + (k : Int)) = bs.getD k 0)) (HS : Hid (SgL X0 n30 n31 #[.int .i64 a, .int .i64 z, .int .i64 q] f0 0 wb kb W0 (.slice none 0 0) (.slice none 0 0) [])) {Q0 : Exit → Act → World → Prop}
    (hexit : ∀ (zv32 zv231 zv232 zv233 zv234 zv235 zv236 zv237 zv238 zv239 zv240 zv241 zv242 zv243 zv244 zv245 zv246 zv247 : Value) (w'' : World), (∃ v, SgL X0 n30 n31 #[.int .i64 a, .int .i64 z, .int .i64 q] f0 0 wb kb w'' v v bs) → Q0 (.exit 13) ⟨List.toArray (zc0 :: zc1 :: zc2 :: zc3 :: zc4 :: zc5 :: zc6 :: zc7 :: zc8 :: .pointer (some ⟨b9, 0, none⟩) :: zc10 :: zc11 :: zc12 :: zc13 :: .map (some bm) :: zc15 :: zc16 :: zc17 :: zc18 :: zc19 :: zc20 :: zc21 :: zc22 :: zc23 :: zc24 :: zc25 :: zc26 :: zc27 :: zc28 :: zc29 :: .pointer (some ⟨n30, 0, none⟩) :: .pointer (some ⟨n31, 0, none⟩) :: zv32 :: zc33 :: zc34 :: zc35 :: zc36 :: zc37 :: zc38 :: zc39 :: zc40 :: zc41 :: zc42 :: zc43 :: zc44 :: zc45 :: zc46 :: zc47 :: zc48 :: zc49 :: zc50 :: zc51 :: zc52 :: zc53 :: zc54 :: zc55 :: zc56 :: zc57 :: zc58 :: zc59 :: zc60 :: zc61 :: zc62 :: zc63 :: zc64 :: zc65 :: zc66 :: zc67 :: zc68 :: zc69 :: zc70 :: zc71 :: zc72 :: zc73 :: zc74 :: zc75 :: zc76 :: zc77 :: zc78 :: zc79 :: zc80 :: zc81 :: zc82 :: zc83 :: zc84 :: zc85 :: zc86 :: zc87 :: zc88 :: zc89 :: zc90 :: zc91 :: zc92 :: zc93 :: zc94 :: zc95 :: zc96 :: zc97 :: zc98 :: zc99 :: zc100 :: zc101 :: zc102 :: zc103 :: zc104 :: zc105 :: zc106 :: zc107 :: zc108 :: zc109 :: zc110 :: zc111 :: zc112 :: zc113 :: zc114 :: zc115 :: zc116 :: zc117 :: zc118 :: zc119 :: zc120 :: zc121 :: zc122 :: zc123 :: zc124 :: zc125 :: zc126 :: zc127 :: zc128 :: zc129 :: zc130 :: zc131 :: zc132 :: zc133 :: zc134 :: zc135 :: zc136 :: zc137 :: zc138 :: zc139 :: zc140 :: zc141 :: zc142 :: zc143 :: zc144 :: zc145 :: zc146 :: zc147 :: zc148 :: zc149 :: zc150 :: zc151 :: zc152 :: zc153 :: zc154 :: zc155 :: zc156 :: zc157 :: zc158 :: zc159 :: zc160 :: zc161 :: zc162 :: zc163 :: zc164 :: zc165 :: zc166 :: zc167 :: zc168 :: zc169 :: zc170 :: zc171 :: zc172 :: zc173 :: zc174 :: zc175 :: zc176 :: zc177 :: zc178 :: zc179 :: zc180 :: zc181 :: zc182 :: zc183 :: zc184 :: zc185 :: zc186 :: zc187 :: zc188 :: zc189 :: zc190 :: zc191 :: zc192 :: zc193 :: zc194 :: zc195 :: zc196 :: zc197 :: zc198 :: zc199 :: zc200 :: zc201 :: zc202 :: zc203 :: zc204 :: zc205 :: zc206 :: zc207 :: zc208 :: zc209 :: zc210 :: zc211 :: zc212 :: zc213 :: zc214 :: zc215 :: zc216 :: zc217 :: zc218 :: zc219 :: zc220 :: zc221 :: zc222 :: zc223 :: zc224 :: zc225 :: zc226 :: zc227 :: zc228 :: zc229 :: zc230 :: zv231 :: zv232 :: zv233 :: zv234 :: zv235 :: zv236 :: zv237 :: zv238 :: zv239 :: zv240 :: zv241 :: zv242 :: zv243 :: zv244 :: zv245 :: zv246 :: zv247 :: zc248 :: zc249 :: zc250 :: zc251 :: zc252 :: zc253 :: zc254 :: zc255 :: zc256 :: zc257 :: zc258 :: zc259 :: zc260 :: zc261 :: zc262 :: zc263 :: zc264 :: zc265 :: zc266 :: zc267 :: zc268 :: zc269 :: zc270 :: []), []⟩ w'') :
    Code.wp Tryz.prog (Code.loop (((Tryz.f10.body.map loopsOfL).getD [])[6]?.getD .skip : Code)) Q0 ⟨List.toArray (zc0 :: zc1 :: zc2 :: zc3 :: zc4 :: zc5 :: zc6 :: zc7 :: zc8 :: .pointer (some ⟨b9, 0, none⟩) :: zc10 :: zc11 :: zc12 :: zc13 :: .map (some bm) :: zc15 :: zc16 :: zc17 :: zc18 :: zc19 :: zc20 :: zc21 :: zc22 :: zc23 :: zc24 :: zc25 :: zc26 :: zc27 :: zc28 :: zc29 :: .pointer (some ⟨n30, 0, none⟩) :: .pointer (some ⟨n31, 0, none⟩) :: .int .i64 f0 :: zc33 :: zc34 :: zc35 :: zc36 :: zc37 :: zc38 :: zc39 :: zc40 :: zc41 :: zc42 :: zc43 :: zc44 :: zc45 :: zc46 :: zc47 :: zc48 :: zc49 :: zc50 :: zc51 :: zc52 :: zc53 :: zc54 :: zc55 :: zc56 :: zc57 :: zc58 :: zc59 :: zc60 :: zc61 :: zc62 :: zc63 :: zc64 :: zc65 :: zc66 :: zc67 :: zc68 :: zc69 :: zc70 :: zc71 :: zc72 :: zc73 :: zc74 :: zc75 :: zc76 :: zc77 :: zc78 :: zc79 :: zc80 :: zc81 :: zc82 :: zc83 :: zc84 :: zc85 :: zc86 :: zc87 :: zc88 :: zc89 :: zc90 :: zc91 :: zc92 :: zc93 :: zc94 :: zc95 :: zc96 :: zc97 :: zc98 :: zc99 :: zc100 :: zc101 :: zc102 :: zc103 :: zc104 :: zc105 :: zc106 :: zc107 :: zc108 :: zc109 :: zc110 :: zc111 :: zc112 :: zc113 :: zc114 :: zc115 :: zc116 :: zc117 :: zc118 :: zc119 :: zc120 :: zc121 :: zc122 :: zc123 :: zc124 :: zc125 :: zc126 :: zc127 :: zc128 :: zc129 :: zc130 :: zc131 :: zc132 :: zc133 :: zc134 :: zc135 :: zc136 :: zc137 :: zc138 :: zc139 :: zc140 :: zc141 :: zc142 :: zc143 :: zc144 :: zc145 :: zc146 :: zc147 :: zc148 :: zc149 :: zc150 :: zc151 :: zc152 :: zc153 :: zc154 :: zc155 :: zc156 :: zc157 :: zc158 :: zc159 :: zc160 :: zc161 :: zc162 :: zc163 :: zc164 :: zc165 :: zc166 :: zc167 :: zc168 :: zc169 :: zc170 :: zc171 :: zc172 :: zc173 :: zc174 :: zc175 :: zc176 :: zc177 :: zc178 :: zc179 :: zc180 :: zc181 :: zc182 :: zc183 :: zc184 :: zc185 :: zc186 :: zc187 :: zc188 :: zc189 :: zc190 :: zc191 :: zc192 :: zc193 :: zc194 :: zc195 :: zc196 :: zc197 :: zc198 :: zc199 :: zc200 :: zc201 :: zc202 :: zc203 :: zc204 :: zc205 :: zc206 :: zc207 :: zc208 :: zc209 :: zc210 :: zc211 :: zc212 :: zc213 :: zc214 :: zc215 :: zc216 :: zc217 :: zc218 :: zc219 :: zc220 :: zc221 :: zc222 :: zc223 :: zc224 :: zc225 :: zc226 :: zc227 :: zc228 :: zc229 :: zc230 :: zc231 :: zc232 :: zc233 :: zc234 :: zc235 :: zc236 :: zc237 :: zc238 :: zc239 :: zc240 :: zc241 :: zc242 :: zc243 :: zc244 :: zc245 :: zc246 :: zc247 :: zc248 :: zc249 :: zc250 :: zc251 :: zc252 :: zc253 :: zc254 :: zc255 :: zc256 :: zc257 :: zc258 :: zc259 :: zc260 :: zc261 :: zc262 :: zc263 :: zc264 :: zc265 :: zc266 :: zc267 :: zc268 :: zc269 :: zc270 :: []), []⟩ W0 := by
  obtain ⟨i0, hi0, hy0, hy1, hy2⟩ := info_parts (P := Tryz.prog) (e := 5) (z := .int .u8 0) (size := 1) (bytes := 1) (by kernel_rfl)
  have Hlen : Hid (bs.length = (t0 - f0).toNat) := hlen
  have hl65 : bs.length ≤ 65536 := by omega
  have HC : Hid (∀ W, Below X0.heap.size X0 W → W.cell? ⟨b9, 9 + z, none⟩ = some (.int .i64 t0) ∧ b9 < W.heap.size ∧ MAt W bm N m) := fun W hW => by
    have h9' := (hW.block _ (Array.getElem?_eq_some_iff.1 h9).1).trans h9
    exact ⟨(cellB h9' (9 + z)).trans hz9, (Array.getElem?_eq_some_iff.1 h9').1, HMm.out.later hW⟩
  clear hlen hz9 h9 HMm
  conv => arg 2; arg 1; whnf
  go_loopw [32] (fun s32 wr => ∃ (k : Nat) (v : Value), k ≤ bs.length ∧ s32 = .int .i64 (f0 + (k : Int)) ∧ Hid (SgL X0 n30 n31 #[.int .i64 a, .int .i64 z, .int .i64 q] f0 0 wb kb wr v v (bs.take k))) (fun s32 _ => bs.length - (intOf s32 - f0).toNat)
  case atStart => exact ⟨0, .slice none 0 0, Nat.zero_le _, by rw [show f0 + ((0 : Nat) : Int) = f0 by omega], HS⟩
  case round =>
    obtain ⟨k, v, hk, rfl, HSk⟩ := hrel
    clear HS
    obtain ⟨y9, yl, hM⟩ := HC.out wr HSk.out.bel
    have z1 : wr.cell? ⟨n30, 1, none⟩ = some (.int .i64 z) := cellB HSk.out.r30 1
    have zl : n30 < wr.heap.size := (Array.getElem?_eq_some_iff.1 HSk.out.r30).1
    have hz6 : (z : Int) < 6 := by omega
    by_cases hkt : k < bs.length
    · have hkl : f0 + (k : Int) < t0 := by have := Hlen.out; omega
      have hx := hM.look (f0 + (k : Int)) (wf64 (by omega) (by omega))
      rw [Hat.out k hkt] at hx
      have htk : (bs.take k).length = k := by rw [List.length_take]; omega
      obtain ⟨ad, cc, rfl⟩ := own_len HSk.out.row
      have HT : Hid (bs.take (k + 1) = bs.take k ++ [bs.getD k 0]) := by rw [Hid, List.take_succ_eq_append_getElem hkt, List.getD_eq_getElem?_getD, List.getElem?_eq_getElem hkt]; rfl
      have HSk2 : Hid (SgL X0 n30 n31 #[.int .i64 a, .int .i64 z, .int .i64 q] f0 0 wb kb wr (.slice ad k cc) (.slice ad k cc) (bs.take k)) := by have := HSk.out; rwa [htk] at this
      have Htk : Hid ((bs.take k).length = k) := htk
      clear HSk htk hM
      generalize bs.getD k 0 = x8 at *
      have s1 : wr.cell? ⟨n31, 1, none⟩ = some (.slice ad k cc) := cellB HSk2.out.r31 1
      have sl : n31 < wr.heap.size := (Array.getElem?_eq_some_iff.1 HSk2.out.r31).1
      have hA4 := (Below.refl wr.heap.size wr).alloc (Nat.le_refl _) (.cells #[.int .u8 x8] 5)
      have hS5 := HSk2.out.later hA4
      have hrw : (wr.alloc (.cells #[.int .u8 x8] 5)).ownsRow X0.heap.size 5 1 (.slice ad k cc) k (enc8 (bs.take k)) := by have := hS5.row; rwa [Htk.out] at this
      have HS5 : Hid _ := hS5
      have hbs : X0.heap.size ≤ wr.heap.size := HSk2.out.bel.size
      have hw1 : wrap64 (f0 + (k : Int) + 1) = f0 + (k : Int) + 1 := by unfold wrap64; omega
      clear hA4 hS5 HSk2
      go_wp2_with (first
        | (at_builtin; refine wpList_append_own _ rfl _ _ 53 rfl X0.heap.size 5 i0 (.int .u8 0) 1 1 Tryz.underlying53 hi0 hy0 hy1 hy2 rfl (by decide) _ _ _ rfl hrw ⟨wr.heap.size, 0, none⟩ 1 1 [.int .u8 x8] rfl rfl (cell_one_new _ _ _) (fun u hu => by simp at hu; subst hu; rfl) (by unfold maxLen; omega) (by omega) (by simp; omega) ?_; intro v' w3 hown' hgrow3 hnil3; obtain ⟨z1', y1', rfl⟩ := own_len hown'
           have hS6 := HS5.out.grow (x := x8) hgrow3 (by rw [Htk.out]; exact hown')
           have m4 : w3.cell? ⟨n31, 1, none⟩ = some (.slice ad k cc) := cellB hS6.r31 1
           have mf : ∀ j, w3.frozen? ⟨n31, j, none⟩ = false := frozenB hS6.r31
           have ml : n31 < w3.heap.size := (Array.getElem?_eq_some_iff.1 hS6.r31).1
           have HS7 : Hid (SgL X0 n30 n31 #[.int .i64 a, .int .i64 z, .int .i64 q] f0 0 wb kb (w3.setCell ⟨n31, 1, none⟩ (.slice z1' (k + 1) y1')) (.slice z1' (k + 1) y1') (.slice z1' (k + 1) y1') (bs.take k ++ [x8])) := hS6.store _
           clear hown' hgrow3 hnil3 hS6 HS5 hrw))
      go_roundw
      case rel => exact ⟨k + 1, _, by omega, by rw [Int.natCast_add, ← Int.add_assoc]; rfl, by rw [HT.out]; exact HS7⟩
      case measure => simp [intOf]; omega
    · have hkl : ¬ f0 + (k : Int) < t0 := by have := Hlen.out; omega
      obtain rfl : k = bs.length := by omega
      have HE : Hid (∃ v, SgL X0 n30 n31 #[.int .i64 a, .int .i64 z, .int .i64 q] f0 0 wb kb wr v v bs) := by
        have := HSk.out
        rw [List.take_length] at this
        exact ⟨v, this⟩
      clear HSk hM
      generalize f0 + (bs.length : Int) = fe at *
      go_wp2_with fail
      exact HE.out

end Go.Proofs.YtcdpboocfkaifaaGreatDoor
