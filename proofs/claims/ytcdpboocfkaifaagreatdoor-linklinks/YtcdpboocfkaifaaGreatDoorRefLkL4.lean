/-
  The reference's Linked: the places of a fragment.
-/
import Derived.Test.YtcdpboocfkaifaaGreatDoorLkLp
import Derived.Test.YtcdpboocfkaifaaGreatDoorLkRl
import Derived.Deep.CutBlock
import Derived.Deep.DeepCutAuto
namespace Go.Proofs.YtcdpboocfkaifaaGreatDoor
open Go Go.RowKit Go.Maps
set_option linter.unusedVariables false

attribute [local go_sem] lat_cell

set_option maxHeartbeats 32000000 in
set_option maxRecDepth 1000000 in
theorem lk_loop4 {zc0 zc1 zc2 zc4 zc5 zc6 zc7 zc8 zc10 zc12 zc15 zc16 zc17 zc18 zc20 zc21 zc22 zc23 zc24 zc25 zc26 zc27 zc28 zc29 zc30 zc31 zc32 zc33 zc34 zc35 zc36 zc37 zc38 zc39 zc40 zc41 zc42 zc43 zc44 zc45 zc46 zc47 zc48 zc49 zc50 zc51 zc52 zc53 zc54 zc55 zc56 zc57 zc58 zc59 zc60 zc61 zc62 zc63 zc64 zc65 zc66 zc67 zc68 zc69 zc70 zc71 zc72 zc73 zc74 zc75 zc76 zc77 zc78 zc79 zc80 zc81 zc82 zc83 zc84 zc85 zc86 zc87 zc88 zc89 zc90 zc91 zc92 zc93 zc94 zc95 zc96 zc97 zc98 zc99 zc100 zc101 zc102 zc103 zc107 zc108 zc109 zc110 zc111 zc112 zc113 zc114 zc115 zc116 zc117 zc118 zc119 zc120 zc121 zc122 zc123 zc124 zc125 zc126 zc127 zc128 zc129 zc130 zc131 zc132 zc133 zc134 zc135 zc136 zc137 zc138 zc139 zc140 zc141 zc142 zc143 zc144 zc145 zc146 zc147 zc148 zc149 zc150 zc151 zc152 zc153 zc154 zc155 zc156 zc157 zc158 zc159 zc160 zc161 zc162 zc163 zc164 zc165 zc166 zc167 zc168 zc169 zc170 zc171 zc172 zc173 zc174 zc175 zc176 zc177 zc178 zc179 zc180 zc181 zc182 zc183 zc184 zc185 zc186 zc187 zc188 zc189 zc190 zc191 zc192 zc193 zc194 zc195 zc196 zc197 zc198 zc199 zc200 zc201 zc202 zc203 zc204 zc205 zc206 zc207 zc208 zc209 zc210 zc211 zc212 zc213 zc214 zc215 zc216 zc217 zc218 zc219 zc220 zc221 zc222 zc223 zc224 zc225 zc226 zc227 zc228 zc229 zc230 zc231 zc232 zc233 zc234 zc235 zc236 zc237 zc238 zc239 zc240 zc241 zc242 zc243 zc244 zc245 zc246 zc247 zc248 zc249 zc250 zc251 zc252 zc253 zc254 zc255 zc256 zc257 zc258 zc259 zc260 zc261 zc262 zc263 zc264 zc265 zc266 zc267 zc268 zc269 zc270 : Value} (p : M.Prt) (base : Int) (a1 a2 : Option Addr) (c1 c2 : Nat) (w W0 : World) (b3 b6 b9 b11 bm : Nat) (xfa xna xca : Option Addr) (yf yn yc : Nat) (l : M.Lay) (s : ByteArray) (i : Nat) (ar : Option Addr) (cr : Nat) (vF : Value) (t : List Flt) (m : Int → Int)
    (hl : M.layAll p base = l) (hp : M.Ok p) (ha : M.Apart p base) (hlk : M.LkOk p l) (HFD : Hid (∀ W, Below w.heap.size w W → FragsAt W (.slice a1 p.frags.length c1) p.frags ∧ DefsAt W (.slice a2 p.defs.length c2) p.defs)) (Hby : Hid (∀ f ∈ p.frags, ∀ b ∈ f.bytes, 0 ≤ b ∧ b < 256)) (hbm : w.heap.size ≤ bm) (HSt : Hid (∀ W nm, Below w.heap.size w W → LayAt W (.slice xfa l.frags.length yf) (.slice xna l.names.length yn) (.slice xca l.coms.length yc) l → Calls Tryz.prog 30 #[.agg #[.slice a1 p.frags.length c1, .slice a2 p.defs.length c2], .agg #[.slice xfa l.frags.length yf, .slice xna l.names.length yn, .slice xca l.coms.length yc, .int .i64 (l.fr 0), .int .i64 (l.fr 1), .int .i64 (l.fr 2), .int .i64 (l.fr 3), .int .i64 (l.fr 4), .int .i64 (l.fr 5), .int .i64 (l.ti 0), .int .i64 (l.ti 1), .int .i64 (l.ti 2), .int .i64 (l.ti 3), .int .i64 (l.ti 4), .int .i64 (l.ti 5)], .string nm] W fun e w' => e = .returned (.tuple #[.int .i64 (M.whereOf p l nm).1, .int .i64 (M.whereOf p l nm).2]) ∧ Below W.heap.size W w')) (Hns : Hid (∀ x ∈ l.names, x.size ≤ maxLen)) (H11 : Hid (w.heap.size ≤ b11)) (hsn : s.toList ≠ []) (hi : i < p.frags.length) (HR : Hid (∀ W, Below w.heap.size w W → RelsAt W (.slice ar (p.frags.getD i frg0).rels.length cr) (p.frags.getD i frg0).rels)) (HS : Hid (LnS w b3 b6 b9 b11 #[.slice a1 p.frags.length c1, .slice a2 p.defs.length c2] (.slice xfa l.frags.length yf) (.slice xna l.names.length yn) (.slice xca l.coms.length yc) l W0 vF vF t)) (HT : Hid (t = M.nameFaults p s ++ M.placeFaultsN p l (M.nameFaults p s) i)) (htl : t.length ≤ 600 + 8 * i) (HM : Hid (MAt W0 bm (3840 + 16 * i) m ∧ (M.allFaults p l s = [] → Q2 p base i 0 m))) {Q0 : Exit → Act → World → Prop}
    (hexit : ∀ (zv22 zv23 zv24 zv25 zv26 zv27 zv106 zv107 zv108 zv109 zv110 zv111 zv112 zv113 zv114 zv115 zv116 zv117 zv118 zv119 zv120 zv121 zv122 zv123 zv124 zv125 zv126 zv127 zv128 zv129 zv130 zv131 zv132 zv133 zv134 zv135 zv136 zv137 zv138 zv139 zv140 zv141 zv142 zv143 zv144 zv145 zv146 zv147 zv148 zv149 zv150 zv151 zv152 zv153 zv154 zv155 zv156 zv157 zv158 zv159 zv160 zv161 zv162 zv163 zv164 zv165 zv166 zv167 zv168 zv169 zv170 zv171 zv172 zv173 zv174 zv175 zv176 zv177 zv178 zv179 zv180 zv181 zv182 zv183 zv184 zv185 zv186 zv187 zv188 zv189 zv190 zv191 zv192 zv193 zv194 zv195 zv196 zv197 zv198 zv199 : Value) (w'' : World), (∃ vF' t' m', LnS w b3 b6 b9 b11 #[.slice a1 p.frags.length c1, .slice a2 p.defs.length c2] (.slice xfa l.frags.length yf) (.slice xna l.names.length yn) (.slice xca l.coms.length yc) l w'' vF' vF' t' ∧ t' = M.nameFaults p s ++ M.placeFaultsN p l (M.nameFaults p s) (i + 1) ∧ t'.length ≤ 600 + 8 * (i + 1) ∧ MAt w'' bm (3840 + 16 * (i + 1)) m' ∧ (M.allFaults p l s = [] → Q2 p base (i + 1) 0 m')) → Q0 (.exit 6) ⟨List.toArray (zc0 :: zc1 :: zc2 :: .pointer (some ⟨b3, 0, none⟩) :: zc4 :: zc5 :: zc6 :: zc7 :: zc8 :: .pointer (some ⟨b9, 0, none⟩) :: zc10 :: .pointer (some ⟨b11, 0, none⟩) :: zc12 :: .func (.func 31) #[] #[.pointer (some ⟨b11, 0, none⟩)] :: .map (some bm) :: zc15 :: zc16 :: zc17 :: zc18 :: .int .i64 i :: zc20 :: zc21 :: zv22 :: zv23 :: zv24 :: zv25 :: zv26 :: zv27 :: zc28 :: zc29 :: zc30 :: zc31 :: zc32 :: zc33 :: zc34 :: zc35 :: zc36 :: zc37 :: zc38 :: zc39 :: zc40 :: zc41 :: zc42 :: zc43 :: zc44 :: zc45 :: zc46 :: zc47 :: zc48 :: zc49 :: zc50 :: zc51 :: zc52 :: zc53 :: zc54 :: zc55 :: zc56 :: zc57 :: zc58 :: zc59 :: zc60 :: zc61 :: zc62 :: zc63 :: zc64 :: zc65 :: zc66 :: zc67 :: zc68 :: zc69 :: zc70 :: zc71 :: zc72 :: zc73 :: zc74 :: zc75 :: zc76 :: zc77 :: zc78 :: zc79 :: zc80 :: zc81 :: zc82 :: zc83 :: zc84 :: zc85 :: zc86 :: zc87 :: zc88 :: zc89 :: zc90 :: zc91 :: zc92 :: zc93 :: zc94 :: zc95 :: zc96 :: zc97 :: zc98 :: zc99 :: zc100 :: zc101 :: zc102 :: zc103 :: .slice ar (p.frags.getD i frg0).rels.length cr :: .int .i64 (p.frags.getD i frg0).rels.length :: zv106 :: zv107 :: zv108 :: zv109 :: zv110 :: zv111 :: zv112 :: zv113 :: zv114 :: zv115 :: zv116 :: zv117 :: zv118 :: zv119 :: zv120 :: zv121 :: zv122 :: zv123 :: zv124 :: zv125 :: zv126 :: zv127 :: zv128 :: zv129 :: zv130 :: zv131 :: zv132 :: zv133 :: zv134 :: zv135 :: zv136 :: zv137 :: zv138 :: zv139 :: zv140 :: zv141 :: zv142 :: zv143 :: zv144 :: zv145 :: zv146 :: zv147 :: zv148 :: zv149 :: zv150 :: zv151 :: zv152 :: zv153 :: zv154 :: zv155 :: zv156 :: zv157 :: zv158 :: zv159 :: zv160 :: zv161 :: zv162 :: zv163 :: zv164 :: zv165 :: zv166 :: zv167 :: zv168 :: zv169 :: zv170 :: zv171 :: zv172 :: zv173 :: zv174 :: zv175 :: zv176 :: zv177 :: zv178 :: zv179 :: zv180 :: zv181 :: zv182 :: zv183 :: zv184 :: zv185 :: zv186 :: zv187 :: zv188 :: zv189 :: zv190 :: zv191 :: zv192 :: zv193 :: zv194 :: zv195 :: zv196 :: zv197 :: zv198 :: zv199 :: zc200 :: zc201 :: zc202 :: zc203 :: zc204 :: zc205 :: zc206 :: zc207 :: zc208 :: zc209 :: zc210 :: zc211 :: zc212 :: zc213 :: zc214 :: zc215 :: zc216 :: zc217 :: zc218 :: zc219 :: zc220 :: zc221 :: zc222 :: zc223 :: zc224 :: zc225 :: zc226 :: zc227 :: zc228 :: zc229 :: zc230 :: zc231 :: zc232 :: zc233 :: zc234 :: zc235 :: zc236 :: zc237 :: zc238 :: zc239 :: zc240 :: zc241 :: zc242 :: zc243 :: zc244 :: zc245 :: zc246 :: zc247 :: zc248 :: zc249 :: zc250 :: zc251 :: zc252 :: zc253 :: zc254 :: zc255 :: zc256 :: zc257 :: zc258 :: zc259 :: zc260 :: zc261 :: zc262 :: zc263 :: zc264 :: zc265 :: zc266 :: zc267 :: zc268 :: zc269 :: zc270 :: []), []⟩ w'') :
    Code.wp Tryz.prog (Code.loop (((Tryz.f10.body.map loopsOfL).getD [])[3]?.getD .skip : Code)) Q0 ⟨List.toArray (zc0 :: zc1 :: zc2 :: .pointer (some ⟨b3, 0, none⟩) :: zc4 :: zc5 :: zc6 :: zc7 :: zc8 :: .pointer (some ⟨b9, 0, none⟩) :: zc10 :: .pointer (some ⟨b11, 0, none⟩) :: zc12 :: .func (.func 31) #[] #[.pointer (some ⟨b11, 0, none⟩)] :: .map (some bm) :: zc15 :: zc16 :: zc17 :: zc18 :: .int .i64 i :: zc20 :: zc21 :: zc22 :: zc23 :: zc24 :: zc25 :: zc26 :: zc27 :: zc28 :: zc29 :: zc30 :: zc31 :: zc32 :: zc33 :: zc34 :: zc35 :: zc36 :: zc37 :: zc38 :: zc39 :: zc40 :: zc41 :: zc42 :: zc43 :: zc44 :: zc45 :: zc46 :: zc47 :: zc48 :: zc49 :: zc50 :: zc51 :: zc52 :: zc53 :: zc54 :: zc55 :: zc56 :: zc57 :: zc58 :: zc59 :: zc60 :: zc61 :: zc62 :: zc63 :: zc64 :: zc65 :: zc66 :: zc67 :: zc68 :: zc69 :: zc70 :: zc71 :: zc72 :: zc73 :: zc74 :: zc75 :: zc76 :: zc77 :: zc78 :: zc79 :: zc80 :: zc81 :: zc82 :: zc83 :: zc84 :: zc85 :: zc86 :: zc87 :: zc88 :: zc89 :: zc90 :: zc91 :: zc92 :: zc93 :: zc94 :: zc95 :: zc96 :: zc97 :: zc98 :: zc99 :: zc100 :: zc101 :: zc102 :: zc103 :: .slice ar (p.frags.getD i frg0).rels.length cr :: .int .i64 (p.frags.getD i frg0).rels.length :: .int .i64 0 :: zc107 :: zc108 :: zc109 :: zc110 :: zc111 :: zc112 :: zc113 :: zc114 :: zc115 :: zc116 :: zc117 :: zc118 :: zc119 :: zc120 :: zc121 :: zc122 :: zc123 :: zc124 :: zc125 :: zc126 :: zc127 :: zc128 :: zc129 :: zc130 :: zc131 :: zc132 :: zc133 :: zc134 :: zc135 :: zc136 :: zc137 :: zc138 :: zc139 :: zc140 :: zc141 :: zc142 :: zc143 :: zc144 :: zc145 :: zc146 :: zc147 :: zc148 :: zc149 :: zc150 :: zc151 :: zc152 :: zc153 :: zc154 :: zc155 :: zc156 :: zc157 :: zc158 :: zc159 :: zc160 :: zc161 :: zc162 :: zc163 :: zc164 :: zc165 :: zc166 :: zc167 :: zc168 :: zc169 :: zc170 :: zc171 :: zc172 :: zc173 :: zc174 :: zc175 :: zc176 :: zc177 :: zc178 :: zc179 :: zc180 :: zc181 :: zc182 :: zc183 :: zc184 :: zc185 :: zc186 :: zc187 :: zc188 :: zc189 :: zc190 :: zc191 :: zc192 :: zc193 :: zc194 :: zc195 :: zc196 :: zc197 :: zc198 :: zc199 :: zc200 :: zc201 :: zc202 :: zc203 :: zc204 :: zc205 :: zc206 :: zc207 :: zc208 :: zc209 :: zc210 :: zc211 :: zc212 :: zc213 :: zc214 :: zc215 :: zc216 :: zc217 :: zc218 :: zc219 :: zc220 :: zc221 :: zc222 :: zc223 :: zc224 :: zc225 :: zc226 :: zc227 :: zc228 :: zc229 :: zc230 :: zc231 :: zc232 :: zc233 :: zc234 :: zc235 :: zc236 :: zc237 :: zc238 :: zc239 :: zc240 :: zc241 :: zc242 :: zc243 :: zc244 :: zc245 :: zc246 :: zc247 :: zc248 :: zc249 :: zc250 :: zc251 :: zc252 :: zc253 :: zc254 :: zc255 :: zc256 :: zc257 :: zc258 :: zc259 :: zc260 :: zc261 :: zc262 :: zc263 :: zc264 :: zc265 :: zc266 :: zc267 :: zc268 :: zc269 :: zc270 :: []), []⟩ W0 := by
  obtain ⟨iE, hiE, hE0, hE1, hE2⟩ := info_parts (P := Tryz.prog) (e := 39) (z := .agg #[.int .i64 0, .string ⟨#[]⟩, .int .i64 0, .int .i64 0]) (size := 4) (bytes := 40) (by kernel_rfl)
  have hnf := hp.nf
  have hfm := getD_mem p.frags frg0 i hi
  have h8 := (M.frag_parts (M.frag_ok hp hfm)).2.2.1
  have hll : i < l.frags.length := by rw [hlk.len]; exact hi
  have hbd := hlk.bd _ (getD_mem l.frags 0 i hll)
  have HIx : Hid (∀ W (k : Nat) (u vF : Value) (t : List Flt), k < l.frags.length → LnS w b3 b6 b9 b11 #[.slice a1 p.frags.length c1, .slice a2 p.defs.length c2] (.slice xfa l.frags.length yf) (.slice xna l.names.length yn) (.slice xca l.coms.length yc) l W u vF t → ∃ b off, xfa = some ⟨b, off, none⟩ ∧ W.cell? ⟨b, off + k, none⟩ = some (.int .i64 (l.frags.getD k 0)) ∧ b < W.heap.size) := fun W k u vF t hk h => (row_ints h.rf).cell k hk
  have HPr : Hid (∀ j, j < (p.frags.getD i frg0).rels.length → M.RelOk p.frags.length (p.frags.getD i frg0).bytes.length ((p.frags.getD i frg0).rels.getD j rel0) ∧ (p.frags.getD i frg0).bytes.length ≤ 64) := fun j hj => M.rel_ok hp hfm (getD_mem _ rel0 j hj)
  have HQp : Hid (∀ j m, j < (p.frags.getD i frg0).rels.length → M.allFaults p l s = [] → Q2 p base i j m → Q2 p base i (j + 1) (wrN m (l.frags.getD i 0 + ((p.frags.getD i frg0).rels.getD j rel0).pos) (M.number p l i ((p.frags.getD i frg0).rels.getD j rel0)).1 (M.wide ((p.frags.getD i frg0).rels.getD j rel0).kind).toNat)) := fun j m hj hf h => h.place hp ha hl hf hi hj
  have HQn : Hid (∀ m, Q2 p base i (p.frags.getD i frg0).rels.length m → Q2 p base (i + 1) 0 m) := fun m h => h.next
  have HN0 : Hid (∀ j, j < (p.frags.getD i frg0).rels.length → M.allFaults p l s = [] → (M.number p l i ((p.frags.getD i frg0).rels.getD j rel0)).2 = 0) := fun j hj hf => no_faults hf hi (getD_mem _ rel0 j hj)
  have HNn : Hid (∀ j, j < (p.frags.getD i frg0).rels.length → ((p.frags.getD i frg0).rels.getD j rel0).name.toList.isEmpty = false → M.faulty (M.nameFaults p s) ((p.frags.getD i frg0).rels.getD j rel0).name = false → M.number p l i ((p.frags.getD i frg0).rels.getD j rel0) = M.value ((p.frags.getD i frg0).rels.getD j rel0).kind (l.frags.getD i 0 + ((p.frags.getD i frg0).rels.getD j rel0).pos) (M.whereOf p l ((p.frags.getD i frg0).rels.getD j rel0).name).1 ((p.frags.getD i frg0).rels.getD j rel0).add) := fun j hj hn hnt => num_named hp ha hl hi (getD_mem _ rel0 j hj) hn hnt
  have HAf : Hid (M.allFaults p l s = [] → M.nameFaults p s = []) := fun h => (List.append_eq_nil_iff.1 h).1
  have HFb : Hid (∀ n : ByteArray, n.toList.isEmpty = true → M.faulty (M.nameFaults p s) n = false) := fun n hn => faulty_bare hp hsn hn
  have HTd : Hid (∀ (n : ByteArray) rs', n.toList.isEmpty = false → told (M.nameFaults p s ++ (M.placeFaultsN p l (M.nameFaults p s) i ++ M.fragFaults p l (M.nameFaults p s) i rs')) n = M.faulty (M.nameFaults p s) n) := fun n rs' hn => told_places (fun e => by rw [e] at hn; cases hn) (fun f hf => by
    rcases List.mem_append.1 hf with h | h
    · exact placeFaultsN_bare h
    · exact fragFaults_bare h)
  have HPN : Hid (M.placeFaultsN p l (M.nameFaults p s) (i + 1) = M.placeFaultsN p l (M.nameFaults p s) i ++ M.fragFaults p l (M.nameFaults p s) i (p.frags.getD i frg0).rels) := placeFaults_succ p l _ i
  have Hlen : Hid (l.frags.length = p.frags.length) := hlk.len
  clear hfm hp ha hlk hl hsn
  conv => arg 2; arg 1; whnf
  generalize (p.frags.getD i frg0).rels = rs at *
  generalize (p.frags.getD i frg0).bytes.length = nb at *
  obtain ⟨x, HXi⟩ : ∃ x, Hid (l.frags.getD i 0 = x) := ⟨_, rfl⟩
  rw [HXi.out] at hbd HQp HNn
  go_loopw [106] (fun s106 wr => ∃ (j : Nat) (vF : Value) (t : List Flt) (m : Int → Int), j ≤ rs.length ∧ s106 = .int .i64 j ∧ Hid (LnS w b3 b6 b9 b11 #[.slice a1 p.frags.length c1, .slice a2 p.defs.length c2] (.slice xfa l.frags.length yf) (.slice xna l.names.length yn) (.slice xca l.coms.length yc) l wr vF vF t) ∧ Hid (t = M.nameFaults p s ++ (M.placeFaultsN p l (M.nameFaults p s) i ++ M.fragFaults p l (M.nameFaults p s) i (rs.take j))) ∧ t.length ≤ 600 + 8 * i + j ∧ Hid (MAt wr bm (3840 + 16 * i + 2 * j) m ∧ (M.allFaults p l s = [] → Q2 p base i j m))) (fun s106 _ => rs.length - (intOf s106).toNat)
  case atStart => exact ⟨0, vF, t, m, Nat.zero_le _, rfl, HS, by rw [Hid, HT.out]; simp [M.fragFaults], by omega, HM.out.1, HM.out.2⟩
  case round =>
    obtain ⟨j, vF, t, m, hj, rfl, HSr, HTr, htl, HMr⟩ := hrel
    clear HS HT HM
    by_cases hjt : j < rs.length
    · clear HPN HQn
      obtain ⟨b, off, rfl, e0, e1, e2, e3, e4⟩ := relsAt_cells (HR.out w (Below.refl _ _)) j hjt
      replace e0 := cell_later HSr.out.bel e0
      replace e1 := cell_later HSr.out.bel e1
      replace e2 := cell_later HSr.out.bel e2
      replace e3 := cell_later HSr.out.bel e3
      replace e4 := cell_later HSr.out.bel e4
      have hbr : b < wr.heap.size := World.block_lt_of_cell? _ _ e0
      have hjl : (j : Int) < (rs.length : Int) := by omega
      have HP := HPr.out j hjt
      have HQ1 : Hid _ := HQp.out j m hjt
      have HN1 : Hid _ := HN0.out j hjt
      have HN2 : Hid _ := HNn.out j hjt
      have HNg : Hid _ := @num_neg p l i (rs.getD j rel0)
      have HNf : Hid _ := @num_frag p l i (rs.getD j rel0)
      rw [HXi.out] at HNf
      have HNr : Hid _ := @num_range p l i (rs.getD j rel0)
      have P1 : Hid _ := @placeFault_told p l (M.nameFaults p s) i (rs.getD j rel0)
      have P2 : Hid _ := @placeFault_none p l (M.nameFaults p s) i (rs.getD j rel0)
      have P3 : Hid _ := @placeFault_some p l (M.nameFaults p s) i (rs.getD j rel0)
      have HT1 : Hid (M.nameFaults p s ++ (M.placeFaultsN p l (M.nameFaults p s) i ++ M.fragFaults p l (M.nameFaults p s) i (rs.take (j + 1))) = t ++ M.placeFault p l (M.nameFaults p s) i (rs.getD j rel0)) := by
        rw [Hid, fragFaults_take p l _ i rs j hjt, HTr.out]; simp only [List.append_assoc]
      have HTd1 : Hid ((rs.getD j rel0).name.toList.isEmpty = false → told t (rs.getD j rel0).name = M.faulty (M.nameFaults p s) (rs.getD j rel0).name) := fun hn => by rw [HTr.out]; exact HTd.out _ _ hn
      have HFb1 : Hid _ := HFb.out (rs.getD j rel0).name
      have hqp := HP.1.pos0
      have hqw := HP.1.pos
      have hqf := HP.1.frag
      have hqk := HP.1.kind
      have hqn := HP.2
      clear HPr HQp HN0 HNn HTd HFb HP HTr
      generalize M.placeFault p l (M.nameFaults p s) i (rs.getD j rel0) = pf at *
      have HNF : Hid (M.number p l i (rs.getD j rel0) = M.number p l i (rs.getD j rel0)) := rfl
      generalize M.number p l i (rs.getD j rel0) = nu at *
      generalize rs.getD j rel0 = r at *
      obtain ⟨pos, kd, name, fr, ad⟩ := r
      obtain ⟨n, en⟩ := nu
      dsimp only at e0 e1 e2 e3 e4 HQ1 HN1 HN2 HNg HNf HNr P1 P2 P3 HTd1 HFb1 hqp hqw hqf hqk
      clear HNF
      have hkw : (Lit.int .i64 kd).wf = true := by
        rcases M.kinds hqk with h | h | h | h <;> rw [h] <;> decide
      have hwd : 1 ≤ M.wide kd ∧ M.wide kd ≤ 2 := by
        rcases M.kinds hqk with h | h | h | h <;> rw [h] <;> decide
      have hpos : pos ≤ 64 := by omega
      obtain ⟨vx, vy, rfl⟩ := own_len HSr.out.row
      have hAl := (Below.refl wr.heap.size wr).alloc (Nat.le_refl _) (.cells #[.int .i64 pos, .int .i64 kd, .string name, .int .i64 fr, .int .i64 ad] 79)
      have HSZ : Hid _ := HSr.out.later hAl
      have HMZ : Hid _ := HMr.out.1.later hAl
      have HQZ : Hid _ := HMr.out.2
      have hq := heap_alloc_new wr (.cells #[.int .i64 pos, .int .i64 kd, .string name, .int .i64 fr, .int .i64 ad] 79)
      clear hAl HSr HMr
      go_upto_region 25 with fail
      clear e0 e1 e2 e3 e4 hbr
      obtain ⟨nz, hnz⟩ : ∃ nz, nz = wr.heap.size := ⟨_, rfl⟩
      rw [← hnz] at hq ⊢
      clear hnz
      generalize wr.alloc (.cells #[.int .i64 pos, .int .i64 kd, .string name, .int .i64 fr, .int .i64 ad] 79) = Z at *
      have HSZ1 : Hid (LnS w b3 b6 b9 b11 #[.slice a1 p.frags.length c1, .slice a2 p.defs.length c2] (.slice xfa l.frags.length yf) (.slice xna l.names.length yn) (.slice xca l.coms.length yc) l Z (.slice vx t.length vy) (.slice vx t.length vy) t) := HSZ
      have HMZ1 : Hid (MAt Z bm (3840 + 16 * i + 2 * j) m) := HMZ
      clear HSZ HMZ
      have z0 : Z.cell? ⟨nz, 0, none⟩ = some (.int .i64 pos) := cellB hq 0
      have z2 : Z.cell? ⟨nz, 2, none⟩ = some (.string name) := cellB hq 2
      have z3 : Z.cell? ⟨nz, 3, none⟩ = some (.int .i64 fr) := cellB hq 3
      have zl : nz < Z.heap.size := (Array.getElem?_eq_some_iff.1 hq).1
      have Hq : Hid (Z.heap[nz]? = some (.cells #[.int .i64 pos, .int .i64 kd, .string name, .int .i64 fr, .int .i64 ad] 79 (0, 0))) := hq
      have KT : Hid (Calls Tryz.prog 31 #[.string name, .pointer (some ⟨b11, 0, none⟩)] Z fun e w' => e = .returned (.bool (told t name)) ∧ Below Z.heap.size Z w') := told_any t vx vy b11 name Z (cellB HSZ1.out.c11 0) (row_flts HSZ1.out.row)
      clear hq
      obtain ⟨fy, Hfy⟩ : ∃ fy, Hid (M.faulty (M.nameFaults p s) name = fy) := ⟨_, rfl⟩
      rw [Hfy.out] at P1 P2 P3 HTd1 HN2 HFb1
      have HAf1 : Hid (M.allFaults p l s = [] → fy = false) := fun h => by rw [← Hfy.out, HAf.out h]; rfl
      clear Hfy HAf
      have H3 : (name.toList.isEmpty = false ∧ fy = true) ∨ (name.toList.isEmpty = true ∧ fr < 0 ∧ n = 0 ∧ en = 8 ∧ fy = false) ∨ (fy = false ∧ ∃ tt, Hid ((n, en) = M.value kd (x + pos) tt ad) ∧ Hid (name.toList.isEmpty = false → tt = (M.whereOf p l name).1) ∧ Hid (name.toList.isEmpty = true → ∃ fn : Nat, fr = fn ∧ fn < l.frags.length ∧ tt = l.frags.getD fn 0)) := by
        cases hn : name.toList.isEmpty
        · rw [hn] at HN2
          cases fy
          · exact .inr (.inr ⟨rfl, _, HN2.out rfl rfl, fun _ => rfl, fun h => (by cases h)⟩)
          · exact .inl ⟨rfl, rfl⟩
        · rw [hn] at HNg HNf HFb1
          have hfr := hqf hn
          by_cases hfr0 : fr < 0
          · have hnu := HNg.out rfl hfr0
            cases hnu
            exact .inr (.inl ⟨rfl, hfr0, rfl, rfl, HFb1.out rfl⟩)
          · refine .inr (.inr ⟨HFb1.out rfl, _, HNf.out rfl hfr0, fun h => (by cases h), fun _ => ⟨fr.toNat, by omega, by have := Hlen.out; omega, rfl⟩⟩)
      clear HN2 HNg HNf HFb1 hqf
      rcases H3 with ⟨hn, rfl⟩ | ⟨hn, hfr0, rfl, rfl, rfl⟩ | ⟨rfl, tt, HNu, HB, HD⟩
      · have hb' : name.toList.isEmpty = false := hn
        rw [HTd1.out hn] at KT
        have HE : Hid (M.nameFaults p s ++ (M.placeFaultsN p l (M.nameFaults p s) i ++ M.fragFaults p l (M.nameFaults p s) i (rs.take (j + 1))) = t) := by rw [Hid, HT1.out, P1.out rfl, List.append_nil]
        have HX : Hid (M.allFaults p l s = [] → Q2 p base i (j + 1) m) := fun h => by have := HAf1.out h; cases this
        clear HTd1 P1 P2 P3 HT1 HAf1 HQ1 HN1 HNr HQZ Hq
        go_wp2_with (go_at_call 31; refine KT.out.mono ?_; rintro e V ⟨rfl, hbV⟩)
        go_roundw
        case rel => exact ⟨j + 1, _, t, m, by omega, by go_num, HSZ1.out.later hbV, HE.out.symm, by omega, (HMZ1.out.later hbV).mono (by omega), HX.out⟩
        case measure => simp [intOf]; omega
      · have hb' : name.toList.isEmpty = true := hn
        have HE : Hid (M.nameFaults p s ++ (M.placeFaultsN p l (M.nameFaults p s) i ++ M.fragFaults p l (M.nameFaults p s) i (rs.take (j + 1))) = t ++ [(⟨8, ⟨#[]⟩, i, pos⟩ : Flt)]) := by rw [Hid, HT1.out, P3.out (by trivial) (by decide)]
        have HX : Hid (M.allFaults p l s = [] → Q2 p base i (j + 1) m) := fun h => by have := HN1.out h; cases this
        clear HTd1 P1 P2 P3 HT1 HQ1 HN1 HNr HQZ Hq HAf1 KT
        have k11 : Z.cell? ⟨b11, 0, none⟩ = some (.slice vx t.length vy) := cellB HSZ1.out.c11 0
        have l11 : b11 < Z.heap.size := (Array.getElem?_eq_some_iff.1 HSZ1.out.c11).1
        have hA4 := (Below.refl Z.heap.size Z).alloc (Nat.le_refl _) (.cells #[.int .i64 8, .string ⟨#[]⟩, .int .i64 i, .int .i64 pos] 39)
        have hS5 := HSZ1.out.later hA4
        have hrw := hS5.row
        have HS5 : Hid _ := hS5
        have HM5 : Hid (MAt (Z.alloc (.cells #[.int .i64 8, .string ⟨#[]⟩, .int .i64 i, .int .i64 pos] 39)) bm (3840 + 16 * i + 2 * j) m) := HMZ1.out.later hA4
        have hnews : ∀ j u, (#[.int .i64 8, .string ⟨#[]⟩, .int .i64 i, .int .i64 pos] : Array Value).toList[j]? = some u → (Z.alloc (.cells #[.int .i64 8, .string ⟨#[]⟩, .int .i64 i, .int .i64 pos] 39)).cell? ((⟨Z.heap.size, 0, none⟩ : Addr).add j) = some u := World.news_of_block (heap_alloc_new Z _)
        have hbs : w.heap.size ≤ Z.heap.size := HSZ1.out.bel.size
        clear hA4 hS5 HSZ1 HMZ1
        go_wp2_with (first
          | (at_builtin; refine wpList_append_own _ rfl _ _ 29 rfl w.heap.size 39 iE (.agg #[.int .i64 0, .string ⟨#[]⟩, .int .i64 0, .int .i64 0]) 4 40 Tryz.underlying29 hiE hE0 hE1 hE2 rfl (by decide) _ _ _ rfl hrw ⟨Z.heap.size, 0, none⟩ 1 1 (#[.int .i64 8, .string ⟨#[]⟩, .int .i64 i, .int .i64 pos] : Array Value).toList rfl rfl hnews (fun u hu => by simp at hu; rcases hu with rfl | rfl | rfl | rfl <;> rfl) (by unfold maxLen; omega) (by omega) (by simp; omega) ?_; intro v' w3 hown' hgrow3 hnil3; obtain ⟨z1, y1, rfl⟩ := own_len hown'
             have hS6 := HS5.out.grow (f := ⟨8, ⟨#[]⟩, i, pos⟩) hgrow3 hown'
             have hM6 := HS5.out.mgrow HM5.out hgrow3
             have m4 : w3.cell? ⟨b11, 0, none⟩ = some (.slice vx t.length vy) := cellB hS6.c11 0
             have mf : ∀ j, w3.frozen? ⟨b11, j, none⟩ = false := frozenB hS6.c11
             have ml : b11 < w3.heap.size := (Array.getElem?_eq_some_iff.1 hS6.c11).1
             have HS7 : Hid (LnS w b3 b6 b9 b11 #[.slice a1 p.frags.length c1, .slice a2 p.defs.length c2] (.slice xfa l.frags.length yf) (.slice xna l.names.length yn) (.slice xca l.coms.length yc) l (w3.setCell ⟨b11, 0, none⟩ (.slice z1 (t.length + 1) y1)) (.slice z1 (t.length + 1) y1) (.slice z1 (t.length + 1) y1) (t ++ [⟨8, ⟨#[]⟩, i, pos⟩])) := hS6.store H11.out _
             have HM7 : Hid (MAt (w3.setCell ⟨b11, 0, none⟩ (.slice z1 (t.length + 1) y1)) bm (3840 + 16 * i + 2 * j) m) := hS6.mstore hM6 _
             clear hown' hgrow3 hnil3 hS6 hM6 HS5 HM5 hrw hnews k11))
        go_roundw
        case rel => exact ⟨j + 1, _, t ++ [(⟨8, ⟨#[]⟩, i, pos⟩ : Flt)], m, by omega, by go_num, HS7, HE.out.symm, by simp; omega, HM7.out.mono (by omega), HX.out⟩
        case measure => simp [intOf]; omega
      · clear P1 HAf1
        go_upto_block 8 with fail
        go_cut [23] from 107 to 199 (fun s23 wx => s23 = .int .i64 tt ∧ Hid (Below Z.heap.size Z wx))
        case first =>
          clear P2 P3 HT1 HQ1 HN1 HNr HQZ HNu
          cases hn : name.toList.isEmpty
          · have hb' : name.toList.isEmpty = false := hn
            rw [HTd1.out hn] at KT
            obtain rfl := HB.out hn
            have KS1 : Hid (∀ W, Below Z.heap.size Z W → Calls Tryz.prog 30 #[.agg #[.slice a1 p.frags.length c1, .slice a2 p.defs.length c2], .agg #[.slice xfa l.frags.length yf, .slice xna l.names.length yn, .slice xca l.coms.length yc, .int .i64 (l.fr 0), .int .i64 (l.fr 1), .int .i64 (l.fr 2), .int .i64 (l.fr 3), .int .i64 (l.fr 4), .int .i64 (l.fr 5), .int .i64 (l.ti 0), .int .i64 (l.ti 1), .int .i64 (l.ti 2), .int .i64 (l.ti 3), .int .i64 (l.ti 4), .int .i64 (l.ti 5)], .string name] W fun e w' => e = .returned (.tuple #[.int .i64 (M.whereOf p l name).1, .int .i64 (M.whereOf p l name).2]) ∧ Below W.heap.size W w') := fun W hW => HSt.out W name (HSZ1.out.later hW).bel ((HSZ1.out.later hW).lay Hns.out)
            clear HTd1 HB HD
            generalize M.whereOf p l name = WS at *
            obtain ⟨w1, w2⟩ := WS
            dsimp only at KS1 ⊢
            go_upto_region 29 with (go_at_call 31; refine KT.out.mono ?_; rintro e V ⟨rfl, hbV⟩; have z2V := cell_later hbV z2; have zlV : nz < V.heap.size := Nat.lt_of_lt_of_le zl hbV.size)
            have hS2 := HSZ1.out.later hbV
            have d0 : V.cell? ⟨b3, 0, none⟩ = some (.slice a1 p.frags.length c1) := cellB hS2.c3 0
            have d1 : V.cell? ⟨b3, 1, none⟩ = some (.slice a2 p.defs.length c2) := cellB hS2.c3 1
            have dl : b3 < V.heap.size := (Array.getElem?_eq_some_iff.1 hS2.c3).1
            have y0 : V.cell? ⟨b9, 0, none⟩ = some (.slice xfa l.frags.length yf) := cellB hS2.c9 0
            have y1 : V.cell? ⟨b9, 1, none⟩ = some (.slice xna l.names.length yn) := cellB hS2.c9 1
            have y2 : V.cell? ⟨b9, 2, none⟩ = some (.slice xca l.coms.length yc) := cellB hS2.c9 2
            have y3 : V.cell? ⟨b9, 3, none⟩ = some (.int .i64 (l.fr 0)) := cellB hS2.c9 3
            have y4 : V.cell? ⟨b9, 4, none⟩ = some (.int .i64 (l.fr 1)) := cellB hS2.c9 4
            have y5 : V.cell? ⟨b9, 5, none⟩ = some (.int .i64 (l.fr 2)) := cellB hS2.c9 5
            have y6 : V.cell? ⟨b9, 6, none⟩ = some (.int .i64 (l.fr 3)) := cellB hS2.c9 6
            have y7 : V.cell? ⟨b9, 7, none⟩ = some (.int .i64 (l.fr 4)) := cellB hS2.c9 7
            have y8 : V.cell? ⟨b9, 8, none⟩ = some (.int .i64 (l.fr 5)) := cellB hS2.c9 8
            have y9 : V.cell? ⟨b9, 9, none⟩ = some (.int .i64 (l.ti 0)) := cellB hS2.c9 9
            have y10 : V.cell? ⟨b9, 10, none⟩ = some (.int .i64 (l.ti 1)) := cellB hS2.c9 10
            have y11 : V.cell? ⟨b9, 11, none⟩ = some (.int .i64 (l.ti 2)) := cellB hS2.c9 11
            have y12 : V.cell? ⟨b9, 12, none⟩ = some (.int .i64 (l.ti 3)) := cellB hS2.c9 12
            have y13 : V.cell? ⟨b9, 13, none⟩ = some (.int .i64 (l.ti 4)) := cellB hS2.c9 13
            have y14 : V.cell? ⟨b9, 14, none⟩ = some (.int .i64 (l.ti 5)) := cellB hS2.c9 14
            have yl : b9 < V.heap.size := (Array.getElem?_eq_some_iff.1 hS2.c9).1
            have KS2 : Hid (Calls Tryz.prog 30 #[.agg #[.slice a1 p.frags.length c1, .slice a2 p.defs.length c2], .agg #[.slice xfa l.frags.length yf, .slice xna l.names.length yn, .slice xca l.coms.length yc, .int .i64 (l.fr 0), .int .i64 (l.fr 1), .int .i64 (l.fr 2), .int .i64 (l.fr 3), .int .i64 (l.fr 4), .int .i64 (l.fr 5), .int .i64 (l.ti 0), .int .i64 (l.ti 1), .int .i64 (l.ti 2), .int .i64 (l.ti 3), .int .i64 (l.ti 4), .int .i64 (l.ti 5)], .string name] V fun e w' => e = .returned (.tuple #[.int .i64 w1, .int .i64 w2]) ∧ Below V.heap.size V w') := KS1.out V hbV
            clear KS1 hS2 KT z0 z2 z3 zl Hq
            go_wp2_with (go_at_call 30; refine KS2.out.mono ?_; rintro e V3 ⟨rfl, hb3⟩)
            go_meet
            exact ⟨rfl, hbV.trans (hb3.mono hbV.size)⟩
          · have hb' : name.toList.isEmpty = true := hn
            obtain ⟨fn, rfl, hfl, rfl⟩ := HD.out hn
            have hfl' : (fn : Int) < (l.frags.length : Int) := by omega
            obtain ⟨b4, off4, rfl, hc4, hb4⟩ := HIx.out Z fn _ _ _ hfl HSZ1.out
            have y0 : Z.cell? ⟨b9, 0, none⟩ = some (.slice (some ⟨b4, off4, none⟩) l.frags.length yf) := cellB HSZ1.out.c9 0
            have yl : b9 < Z.heap.size := (Array.getElem?_eq_some_iff.1 HSZ1.out.c9).1
            clear HTd1 HB HD KT Hq
            generalize l.frags.getD fn 0 = xx at *
            go_wp2_with fail
            go_meet
            exact ⟨rfl, Below.refl _ _⟩
        case rest =>
          rename World => V
          obtain ⟨rfl, hbV⟩ := hcut
          have HSV : Hid (LnS w b3 b6 b9 b11 #[.slice a1 p.frags.length c1, .slice a2 p.defs.length c2] (.slice xfa l.frags.length yf) (.slice xna l.names.length yn) (.slice xca l.coms.length yc) l V (.slice vx t.length vy) (.slice vx t.length vy) t) := HSZ1.out.later hbV.out
          have HMV : Hid (MAt V bm (3840 + 16 * i + 2 * j) m) := HMZ1.out.later hbV.out
          have HqV : Hid (V.heap[nz]? = some (.cells #[.int .i64 pos, .int .i64 kd, .string name, .int .i64 fr, .int .i64 ad] 79 (0, 0))) := (hbV.out.block _ zl).trans Hq.out
          clear HSZ1 HMZ1 Hq KT HTd1 HB HD z0 z2 z3 zl hbV
          have z0 : V.cell? ⟨nz, 0, none⟩ = some (.int .i64 pos) := cellB HqV.out 0
          have z1 : V.cell? ⟨nz, 1, none⟩ = some (.int .i64 kd) := cellB HqV.out 1
          have z4 : V.cell? ⟨nz, 4, none⟩ = some (.int .i64 ad) := cellB HqV.out 4
          have zl : nz < V.heap.size := (Array.getElem?_eq_some_iff.1 HqV.out).1
          obtain ⟨b4, off4, hxe, hc4, hb4⟩ := HIx.out V i _ _ _ hll HSV.out
          have y0 : V.cell? ⟨b9, 0, none⟩ = some (.slice (some ⟨b4, off4, none⟩) l.frags.length yf) := by rw [← hxe]; exact cellB HSV.out.c9 0
          have yl : b9 < V.heap.size := (Array.getElem?_eq_some_iff.1 HSV.out.c9).1
          have hil : (i : Int) < (l.frags.length : Int) := by omega
          have HXe : Hid (xfa = some ⟨b4, off4, none⟩) := hxe
          clear hxe
          rw [HXi.out] at hc4
          have hwx : wrap64 (x + pos) = x + pos := by unfold wrap64; omega
          have KV : Hid (∀ W, Calls Tryz.prog 34 #[.int .i64 kd, .int .i64 (x + pos), .int .i64 tt, .int .i64 ad] W fun e w' => e = .returned (.tuple #[.int .i64 n, .int .i64 en]) ∧ Below W.heap.size W w') := fun W => by
            have := valueOf_any kd (x + pos) tt ad W hkw
            rw [← HNu.out] at this
            exact this
          clear HNu
          go_wp2_with fail
          refine wp_region_lat (by kernel_rfl) (by kernel_rfl) ?_
          intro hne
          repeat (go_big_quiet_step ((go_at_call 34; exact lat_of (KV.out _))))
          refine wpQuiet_nil ?_
          intro V2 hb2
          have hb3 := lat_out hb2
          clear hb2 hne KV
          have HS2 : Hid (LnS w b3 b6 b9 b11 #[.slice a1 p.frags.length c1, .slice a2 p.defs.length c2] (.slice xfa l.frags.length yf) (.slice xna l.names.length yn) (.slice xca l.coms.length yc) l V2 (.slice vx t.length vy) (.slice vx t.length vy) t) := HSV.out.later hb3
          have HM2 : Hid (MAt V2 bm (3840 + 16 * i + 2 * j) m) := HMV.out.later hb3
          have Hq2 : Hid (V2.heap[nz]? = some (.cells #[.int .i64 pos, .int .i64 kd, .string name, .int .i64 fr, .int .i64 ad] 79 (0, 0))) := (hb3.block _ zl).trans HqV.out
          clear HSV HMV HqV z0 z1 z4 zl y0 yl hc4 hb4 hb3
          have z0 : V2.cell? ⟨nz, 0, none⟩ = some (.int .i64 pos) := cellB Hq2.out 0
          have z1 : V2.cell? ⟨nz, 1, none⟩ = some (.int .i64 kd) := cellB Hq2.out 1
          have zl : nz < V2.heap.size := (Array.getElem?_eq_some_iff.1 Hq2.out).1
          by_cases hne : en = 0
          · subst hne
            have HE : Hid (M.nameFaults p s ++ (M.placeFaultsN p l (M.nameFaults p s) i ++ M.fragFaults p l (M.nameFaults p s) i (rs.take (j + 1))) = t) := by rw [Hid, HT1.out, P2.out (by trivial) (by trivial), List.append_nil]
            have hnr := HNr.out rfl
            have HX : Hid (M.allFaults p l s = [] → Q2 p base i (j + 1) (wrN m (x + pos) n (M.wide kd).toNat)) := fun h => HQ1.out h (HQZ.out h)
            clear P2 P3 HT1 HN1 HNr HQ1 HQZ
            have HD2 : Hid (∀ k, k < (M.wide kd).toNat → k = 0 ∨ k = 1) := fun k hk => by omega
            have hd2 : (M.wide kd).toNat ≤ 2 := by omega
            have KL : Hid (∀ W, Calls Tryz.prog 35 #[.int .i64 kd, .int .i64 n] W fun e w' => Below W.heap.size W w' ∧ ∃ g, e = .returned (.slice (some ⟨g, 0, none⟩) (M.wide kd).toNat 2) ∧ w'.heap[g]? = some (.cells #[.int .u8 (M.byteAt n 0), .int .u8 (M.byteAt n 1)] 5 (0, 0))) := fun W => low_any kd n W hkw hqk hnr.1 hnr.2
            have hby := low_parts hnr.1 hnr.2
            have HBt : Hid (∀ k, k < (M.wide kd).toNat → 0 ≤ M.byteAt n k ∧ M.byteAt n k < 256) := fun k hk => by
              rcases HD2.out k hk with rfl | rfl
              · exact ⟨hby.2.2.1, hby.2.2.2.1⟩
              · exact ⟨hby.2.2.2.2.1, hby.2.2.2.2.2⟩
            clear hby hnr
            generalize (M.wide kd).toNat = d at *
            go_upto_region 36 with (go_at_call 35; refine (KL.out _).mono ?_; rintro e V3 ⟨hb3, g, rfl, hg⟩)
            have HS3 : Hid (LnS w b3 b6 b9 b11 #[.slice a1 p.frags.length c1, .slice a2 p.defs.length c2] (.slice xfa l.frags.length yf) (.slice xna l.names.length yn) (.slice xca l.coms.length yc) l V3 (.slice vx t.length vy) (.slice vx t.length vy) t) := HS2.out.later hb3
            have HM3 : Hid (MAt V3 bm (3840 + 16 * i + 2 * j + 0) (wrN m (x + pos) n 0)) := by rw [wrN_zero]; exact HM2.out.later hb3
            have Hq3 : Hid (V3.heap[nz]? = some (.cells #[.int .i64 pos, .int .i64 kd, .string name, .int .i64 fr, .int .i64 ad] 79 (0, 0))) := (hb3.block _ zl).trans Hq2.out
            have Hg3 : Hid (V3.heap[g]? = some (.cells #[.int .u8 (M.byteAt n 0), .int .u8 (M.byteAt n 1)] 5 (0, 0))) := hg
            clear HS2 HM2 Hq2 z0 z1 zl hb3 hg KL
            go_loopw [181] (fun s181 wr => ∃ (k : Nat), k ≤ d ∧ s181 = .int .i64 k ∧ Hid (LnS w b3 b6 b9 b11 #[.slice a1 p.frags.length c1, .slice a2 p.defs.length c2] (.slice xfa l.frags.length yf) (.slice xna l.names.length yn) (.slice xca l.coms.length yc) l wr (.slice vx t.length vy) (.slice vx t.length vy) t) ∧ Hid (MAt wr bm (3840 + 16 * i + 2 * j + k) (wrN m (x + pos) n k)) ∧ Hid (wr.heap[nz]? = some (.cells #[.int .i64 pos, .int .i64 kd, .string name, .int .i64 fr, .int .i64 ad] 79 (0, 0)) ∧ wr.heap[g]? = some (.cells #[.int .u8 (M.byteAt n 0), .int .u8 (M.byteAt n 1)] 5 (0, 0)))) (fun s181 _ => d - (intOf s181).toNat)
            case atStart => exact ⟨0, Nat.zero_le _, rfl, HS3, HM3, Hq3.out, Hg3.out⟩
            case round =>
              obtain ⟨k, hk, rfl, HSk, HMk, HBk⟩ := hrel
              clear HS3 HM3 Hq3 Hg3
              by_cases hkt : k < d
              · have hkl : (k : Int) < (d : Int) := by omega
                have c0 : wr.cell? ⟨g, k, none⟩ = some (.int .u8 (M.byteAt n k)) := by
                  rcases HD2.out k hkt with rfl | rfl
                  · exact cellB HBk.out.2 0
                  · exact cellB HBk.out.2 1
                have gl : g < wr.heap.size := (Array.getElem?_eq_some_iff.1 HBk.out.2).1
                have z0 : wr.cell? ⟨nz, 0, none⟩ = some (.int .i64 pos) := cellB HBk.out.1 0
                have zl : nz < wr.heap.size := (Array.getElem?_eq_some_iff.1 HBk.out.1).1
                obtain ⟨b5, off5, hxe, hc4, hb4⟩ := HIx.out wr i _ _ _ hll HSk.out
                have y0 : wr.cell? ⟨b9, 0, none⟩ = some (.slice (some ⟨b5, off5, none⟩) l.frags.length yf) := by rw [← hxe]; exact cellB HSk.out.c9 0
                have yl : b9 < wr.heap.size := (Array.getElem?_eq_some_iff.1 HSk.out.c9).1
                clear hxe
                rw [HXi.out] at hc4
                have hbt := HBt.out k hkt
                have hw2 : wrap64 (x + pos + (k : Int)) = x + pos + (k : Int) := by unfold wrap64; omega
                obtain ⟨v, hv⟩ : ∃ v, M.byteAt n k = v := ⟨_, rfl⟩
                have Hv : Hid (M.byteAt n k = v) := hv
                rw [hv] at c0 hbt
                clear hv
                go_upto_region 38 with fail
                refine wp_region_tail 12 (by kernel_rfl) (by kernel_rfl) ?_
                intro hne
                simp only [List.take_succ_cons, List.take_zero, List.drop_succ_cons, List.drop_zero]
                repeat (go_big_quiet_step (fail))
                refine wpQuiet_nil ?_
                intro Y hY
                have hdw := lat_out hY
                have HMd := HMk.out.later hdw
                have HSd := HSk.out.later hdw
                have HBd1 := (hdw.block _ zl).trans HBk.out.1
                have HBd2 := (hdw.block _ gl).trans HBk.out.2
                obtain ⟨w3, hrun, hM, hgr⟩ := HMd.put (by unfold maxLen; omega) (x + pos + (k : Int)) v (wf64 (by omega) (by omega)) (wfU8 hbt.1 hbt.2)
                rw [← Hv.out, wrN_succ] at hM
                obtain ⟨hnb, hgb⟩ : w3.heap[nz]? = Y.heap[nz]? ∧ w3.heap[g]? = Y.heap[g]? := HMd.keep hgr HBd1 HBd2
                have HP : Hid (LnS w b3 b6 b9 b11 #[.slice a1 p.frags.length c1, .slice a2 p.defs.length c2] (.slice xfa l.frags.length yf) (.slice xna l.names.length yn) (.slice xca l.coms.length yc) l w3 (.slice vx t.length vy) (.slice vx t.length vy) t ∧ MAt w3 bm (3840 + 16 * i + 2 * j + k + 1) (wrN m (x + pos) n (k + 1)) ∧ w3.heap[nz]? = some (.cells #[.int .i64 pos, .int .i64 kd, .string name, .int .i64 fr, .int .i64 ad] 79 (0, 0)) ∧ w3.heap[g]? = some (.cells #[.int .u8 (M.byteAt n 0), .int .u8 (M.byteAt n 1)] 5 (0, 0))) := ⟨HSd.map HMd hgr hbm, hM, hnb.trans HBd1, hgb.trans HBd2⟩
                clear hM hgr hnb hgb HSk HMk HBk hbt hdw hY hne HMd HSd HBd1 HBd2 c0 gl z0 zl hc4 hb4 y0 yl
                go_wp2_with fail
                go_roundw
                case rel => exact ⟨k + 1, by omega, by go_num, HP.out.1, HP.out.2.1, HP.out.2.2⟩
                case measure => simp [intOf]; omega
              · obtain rfl : k = d := by omega
                have HP : Hid (LnS w b3 b6 b9 b11 #[.slice a1 p.frags.length c1, .slice a2 p.defs.length c2] (.slice xfa l.frags.length yf) (.slice xna l.names.length yn) (.slice xca l.coms.length yc) l wr (.slice vx t.length vy) (.slice vx t.length vy) t ∧ MAt wr bm (3840 + 16 * i + 2 * (j + 1)) (wrN m (x + pos) n k)) := ⟨HSk.out, HMk.out.mono (by omega)⟩
                clear HSk HMk HBk HBt HD2
                go_wp2_with fail
                go_roundw
                case rel => exact ⟨j + 1, _, t, _, by omega, by go_num, HP.out.1, HE.out.symm, by omega, HP.out.2, HX.out⟩
                case measure => simp [intOf]; omega
          · have hne' : (en != 0) = true := by simpa using hne
            have HE : Hid (M.nameFaults p s ++ (M.placeFaultsN p l (M.nameFaults p s) i ++ M.fragFaults p l (M.nameFaults p s) i (rs.take (j + 1))) = t ++ [(⟨en, ⟨#[]⟩, i, pos⟩ : Flt)]) := by rw [Hid, HT1.out, P3.out (by trivial) hne]
            have HX : Hid (M.allFaults p l s = [] → Q2 p base i (j + 1) m) := fun h => absurd (HN1.out h) hne
            clear P2 P3 HT1 HN1 HNr HQ1 HQZ Hq2 HXe hne
            have k11 : V2.cell? ⟨b11, 0, none⟩ = some (.slice vx t.length vy) := cellB HS2.out.c11 0
            have l11 : b11 < V2.heap.size := (Array.getElem?_eq_some_iff.1 HS2.out.c11).1
            have hA4 := (Below.refl V2.heap.size V2).alloc (Nat.le_refl _) (.cells #[.int .i64 en, .string ⟨#[]⟩, .int .i64 i, .int .i64 pos] 39)
            have hS5 := HS2.out.later hA4
            have hrw := hS5.row
            have HS5 : Hid _ := hS5
            have HM5 : Hid (MAt (V2.alloc (.cells #[.int .i64 en, .string ⟨#[]⟩, .int .i64 i, .int .i64 pos] 39)) bm (3840 + 16 * i + 2 * j) m) := HM2.out.later hA4
            have hnews : ∀ j u, (#[.int .i64 en, .string ⟨#[]⟩, .int .i64 i, .int .i64 pos] : Array Value).toList[j]? = some u → (V2.alloc (.cells #[.int .i64 en, .string ⟨#[]⟩, .int .i64 i, .int .i64 pos] 39)).cell? ((⟨V2.heap.size, 0, none⟩ : Addr).add j) = some u := World.news_of_block (heap_alloc_new V2 _)
            have hbs : w.heap.size ≤ V2.heap.size := HS2.out.bel.size
            clear hA4 hS5 HS2 HM2
            go_wp2_with (first
              | (at_builtin; refine wpList_append_own _ rfl _ _ 29 rfl w.heap.size 39 iE (.agg #[.int .i64 0, .string ⟨#[]⟩, .int .i64 0, .int .i64 0]) 4 40 Tryz.underlying29 hiE hE0 hE1 hE2 rfl (by decide) _ _ _ rfl hrw ⟨V2.heap.size, 0, none⟩ 1 1 (#[.int .i64 en, .string ⟨#[]⟩, .int .i64 i, .int .i64 pos] : Array Value).toList rfl rfl hnews (fun u hu => by simp at hu; rcases hu with rfl | rfl | rfl | rfl <;> rfl) (by unfold maxLen; omega) (by omega) (by simp; omega) ?_; intro v' w3 hown' hgrow3 hnil3; obtain ⟨z1, y1, rfl⟩ := own_len hown'
                 have hS6 := HS5.out.grow (f := ⟨en, ⟨#[]⟩, i, pos⟩) hgrow3 hown'
                 have hM6 := HS5.out.mgrow HM5.out hgrow3
                 have m4 : w3.cell? ⟨b11, 0, none⟩ = some (.slice vx t.length vy) := cellB hS6.c11 0
                 have mf : ∀ j, w3.frozen? ⟨b11, j, none⟩ = false := frozenB hS6.c11
                 have ml : b11 < w3.heap.size := (Array.getElem?_eq_some_iff.1 hS6.c11).1
                 have HS7 : Hid (LnS w b3 b6 b9 b11 #[.slice a1 p.frags.length c1, .slice a2 p.defs.length c2] (.slice xfa l.frags.length yf) (.slice xna l.names.length yn) (.slice xca l.coms.length yc) l (w3.setCell ⟨b11, 0, none⟩ (.slice z1 (t.length + 1) y1)) (.slice z1 (t.length + 1) y1) (.slice z1 (t.length + 1) y1) (t ++ [⟨en, ⟨#[]⟩, i, pos⟩])) := hS6.store H11.out _
                 have HM7 : Hid (MAt (w3.setCell ⟨b11, 0, none⟩ (.slice z1 (t.length + 1) y1)) bm (3840 + 16 * i + 2 * j) m) := hS6.mstore hM6 _
                 clear hown' hgrow3 hnil3 hS6 hM6 HS5 HM5 hrw hnews k11))
            go_roundw
            case rel => exact ⟨j + 1, _, t ++ [(⟨en, ⟨#[]⟩, i, pos⟩ : Flt)], m, by omega, by go_num, HS7, HE.out.symm, by simp; omega, HM7.out.mono (by omega), HX.out⟩
            case measure => simp [intOf]; omega
    · obtain rfl : j = rs.length := by omega
      have HE : Hid (∃ vF' t' m', LnS w b3 b6 b9 b11 #[.slice a1 p.frags.length c1, .slice a2 p.defs.length c2] (.slice xfa l.frags.length yf) (.slice xna l.names.length yn) (.slice xca l.coms.length yc) l wr vF' vF' t' ∧ t' = M.nameFaults p s ++ M.placeFaultsN p l (M.nameFaults p s) (i + 1) ∧ t'.length ≤ 600 + 8 * (i + 1) ∧ MAt wr bm (3840 + 16 * (i + 1)) m' ∧ (M.allFaults p l s = [] → Q2 p base (i + 1) 0 m')) := ⟨vF, t, m, HSr.out, by rw [HTr.out, HPN.out, List.take_length], by omega, HMr.out.1.mono (by omega), fun h => HQn.out m (HMr.out.2 h)⟩
      clear HSr HTr HMr HPN HQn HQp HN0 HNn HTd HFb HPr HAf
      go_wp2_with fail
      exact HE.out

end Go.Proofs.YtcdpboocfkaifaaGreatDoor
