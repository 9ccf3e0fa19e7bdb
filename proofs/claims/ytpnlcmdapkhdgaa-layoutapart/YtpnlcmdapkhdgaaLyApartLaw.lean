/-
  LayoutApart's law: whatever the part and the base: true.
-/
import Derived.Test.YtpnlcmdapkhdgaaLyAp1
import Derived.Test.YtpnlcmdapkhdgaaLyAp2
import Derived.Test.YtpnlcmdapkhdgaaLyAp4
namespace Go.Proofs.Ytpnlcmdapkhdgaa
open Go Go.RowKit
set_option linter.unusedVariables false
attribute [local go_sem] lat_cell

set_option maxHeartbeats 32000000 in
set_option maxRecDepth 100000 in
theorem apart_law (p : M.Prt) (base : Int) (a1 a2 : Option Addr) (c1 c2 : Nat) (w : World) (hf : FragsAt w (.slice a1 p.frags.length c1) p.frags) (hd : DefsAt w (.slice a2 p.defs.length c2) p.defs) (hcap : p.frags.length ≤ c1) :
    Calls Try.prog 3 #[.agg #[.slice a1 p.frags.length c1, .slice a2 p.defs.length c2], .int .i64 base] w fun e w' => e = .returned (.bool true) ∧ Below w.heap.size w w' := by
  have q0 := heap_alloc_new w (.cells #[.slice a1 p.frags.length c1, .slice a2 p.defs.length c2] 25)
  have HB0 : Hid (Below w.heap.size w (w.alloc (.cells #[.slice a1 p.frags.length c1, .slice a2 p.defs.length c2] 25))) := (Below.refl _ _).alloc (Nat.le_refl _) _
  have HFD : Hid (∀ W, Below w.heap.size w W → FragsAt W (.slice a1 p.frags.length c1) p.frags ∧ DefsAt W (.slice a2 p.defs.length c2) p.defs) := fun W hW => ⟨hf.later hW, hd.later hW⟩
  clear hf hd
  obtain ⟨l, er, hl⟩ : ∃ l er, M.lay p base = (l, er) := ⟨_, _, rfl⟩
  have HC : Hid _ := lay_cases p base
  rw [hl] at HC
  have HL : Hid (M.lay p base = (l, er)) := hl
  clear hl
  go_enter Try.func3, Try.ntmps3
  go_upto_region 1 with fail
  generalize w.alloc (.cells #[.slice a1 p.frags.length c1, .slice a2 p.defs.length c2] 25) = X at *
  have hl0 : w.heap.size < X.heap.size := (Array.getElem?_eq_some_iff.1 q0).1
  have HS : Hid (∀ W, Below X.heap.size X W → W.cell? ⟨w.heap.size, 0, none⟩ = some (.slice a1 p.frags.length c1) ∧ W.cell? ⟨w.heap.size, 1, none⟩ = some (.slice a2 p.defs.length c2) ∧ w.heap.size < W.heap.size) := fun W hW => by
    have y := (hW.block _ hl0).trans q0
    exact ⟨cellB y 0, cellB y 1, (Array.getElem?_eq_some_iff.1 y).1⟩
  have HFX : Hid (∀ W, Below X.heap.size X W → FragsAt W (.slice a1 p.frags.length c1) p.frags ∧ DefsAt W (.slice a2 p.defs.length c2) p.defs) := fun W hW => HFD.out W (HB0.out.trans (hW.mono HB0.out.size))
  have hX0 : Below X.heap.size X X := Below.refl _ _
  have KL : Hid (Calls Try.prog 4 #[.agg #[.slice a1 p.frags.length c1, .slice a2 p.defs.length c2], .int .i64 base] X _) := lay_g (HFX.out X hX0).1 (HFX.out X hX0).2 l er HL.out
  clear q0 hl0 HFD
  obtain ⟨c00, c01, hl0⟩ := HS.out _ hX0
  go_upto_region 2 with (go_at_call 4; refine KL.out.mono ?_; rintro e w1 ⟨hb1, xf, yf, xn, yn, xc, yc, rfl, hF1, hN1, hC1⟩)
  have hb1a : Below X.heap.size X (w1.alloc (.cells #[.slice xf l.frags.length yf, .slice xn l.names.length yn, .slice xc l.coms.length yc, .int .i64 (l.fr 0), .int .i64 (l.fr 1), .int .i64 (l.fr 2), .int .i64 (l.fr 3), .int .i64 (l.fr 4), .int .i64 (l.fr 5), .int .i64 (l.ti 0), .int .i64 (l.ti 1), .int .i64 (l.ti 2), .int .i64 (l.ti 3), .int .i64 (l.ti 4), .int .i64 (l.ti 5)] 30)) := hb1.alloc hb1.size _
  have hba : Below w1.heap.size w1 (w1.alloc (.cells #[.slice xf l.frags.length yf, .slice xn l.names.length yn, .slice xc l.coms.length yc, .int .i64 (l.fr 0), .int .i64 (l.fr 1), .int .i64 (l.fr 2), .int .i64 (l.fr 3), .int .i64 (l.fr 4), .int .i64 (l.fr 5), .int .i64 (l.ti 0), .int .i64 (l.ti 1), .int .i64 (l.ti 2), .int .i64 (l.ti 3), .int .i64 (l.ti 4), .int .i64 (l.ti 5)] 30)) := (Below.refl _ _).alloc (Nat.le_refl _) _
  have V1 : Hid (LV1 (w1.alloc (.cells #[.slice xf l.frags.length yf, .slice xn l.names.length yn, .slice xc l.coms.length yc, .int .i64 (l.fr 0), .int .i64 (l.fr 1), .int .i64 (l.fr 2), .int .i64 (l.fr 3), .int .i64 (l.fr 4), .int .i64 (l.fr 5), .int .i64 (l.ti 0), .int .i64 (l.ti 1), .int .i64 (l.ti 2), .int .i64 (l.ti 3), .int .i64 (l.ti 4), .int .i64 (l.ti 5)] 30)) w1.heap.size xf xn xc yf yn yc l.frags l.coms l.names l.fr l.ti) := ⟨heap_alloc_new _ _, hF1.later hba, hN1.later hba, hC1.later hba⟩
  clear c00 c01 hl0 hX0 hb1 hba hF1 hN1 hC1 KL
  generalize w1.alloc (.cells #[.slice xf l.frags.length yf, .slice xn l.names.length yn, .slice xc l.coms.length yc, .int .i64 (l.fr 0), .int .i64 (l.fr 1), .int .i64 (l.fr 2), .int .i64 (l.fr 3), .int .i64 (l.fr 4), .int .i64 (l.fr 5), .int .i64 (l.ti 0), .int .i64 (l.ti 1), .int .i64 (l.ti 2), .int .i64 (l.ti 3), .int .i64 (l.ti 4), .int .i64 (l.ti 5)] 30) = X1 at *
  generalize w1.heap.size = n1 at *
  have HX1 : Hid (Below w.heap.size w X1) := HB0.out.trans (hb1a.mono HB0.out.size)
  rcases HC.out with ⟨er', hne, he, _⟩ | ⟨he, hck, hb0, hb6, ht5⟩
  · cases he
    have hn : (er != 0) = true := by simpa using hne
    clear HC hne V1 HFX HS HL
    go_upto_region 3 with (go_at_call 5; refine (laid_any _).mono ?_; rintro e w2 ⟨rfl, hb2⟩)
    go_wp2_with (go_at_call 5; refine (laid_any _).mono ?_; rintro e w3 ⟨rfl, hb3⟩)
    go_ret
    exact ⟨rfl, HX1.out.trans ((hb2.trans (hb3.mono hb2.size)).mono HX1.out.size)⟩
  · cases he
    have hok := (M.ok_iff p).1 hck
    have HAp : Hid (M.Apart p base) := M.apart_of hok hb0 ht5
    have hnf : p.frags.length ≤ 60 := hok.nf
    have HOk : Hid (∀ f ∈ p.frags, M.FrgOk f) := fun f hf => M.frgOk_of (hok.shape f hf)
    have HCk : Hid (M.checkPart p = 0) := hck
    clear HC HL hok hck
    go_upto_region 4 with (go_at_call 5; refine (laid_any _).mono ?_; rintro e Y ⟨rfl, hb2⟩)
    have hXY : Below X.heap.size X Y := hb1a.trans (hb2.mono hb1a.size)
    have V2 : Hid (LV1 Y n1 xf xn xc yf yn yc (M.layAll p base).frags (M.layAll p base).coms (M.layAll p base).names (M.layAll p base).fr (M.layAll p base).ti) := V1.out.later hb2
    have HEnd : Hid (Below w.heap.size w Y) := HX1.out.trans (hb2.mono HX1.out.size)
    have HV : Hid (∀ W, Below Y.heap.size Y W → LV1 W n1 xf xn xc yf yn yc (M.layAll p base).frags (M.layAll p base).coms (M.layAll p base).names (M.layAll p base).fr (M.layAll p base).ti ∧ (W.cell? ⟨w.heap.size, 0, none⟩ = some (.slice a1 p.frags.length c1) ∧ W.cell? ⟨w.heap.size, 1, none⟩ = some (.slice a2 p.defs.length c2) ∧ w.heap.size < W.heap.size) ∧ FragsAt W (.slice a1 p.frags.length c1) p.frags ∧ DefsAt W (.slice a2 p.defs.length c2) p.defs) := fun W hW =>
      ⟨V2.out.later hW, HS.out W (hXY.trans (hW.mono hXY.size)), (HFX.out W (hXY.trans (hW.mono hXY.size))).1, (HFX.out W (hXY.trans (hW.mono hXY.size))).2⟩
    clear V1 hb2 hb1a HX1 V2 hXY HS HFX HB0
    obtain ⟨v1, ⟨c00, c01, hl0⟩, _, _⟩ := HV.out Y (Below.refl _ _)
    have a0 : Y.cell? ⟨n1, 0, none⟩ = some (.slice xf (M.layAll p base).frags.length yf) := cellB v1.1 0
    have a1' : Y.cell? ⟨n1, 1, none⟩ = some (.slice xn (M.layAll p base).names.length yn) := cellB v1.1 1
    have a2' : Y.cell? ⟨n1, 2, none⟩ = some (.slice xc (M.layAll p base).coms.length yc) := cellB v1.1 2
    have hln1 : n1 < Y.heap.size := (Array.getElem?_eq_some_iff.1 v1.1).1
    have hl1 : (((M.layAll p base).frags.length : Int) != (p.frags.length : Int)) = false := by rw [HAp.out.lenF]; simp
    have hl2 : (((M.layAll p base).names.length : Int) != ((M.layAll p base).coms.length : Int)) = false := by rw [HAp.out.lenN]; simp
    clear v1
    go_upto_region 6 with fail
    clear a0 a1' a2' hl1 hl2 c00 c01 hl0 hln1
    go_wp2_with fail
    refine apart_loop1 p base a1 a2 c1 c2 w Y Y n1 xf xn xc yf yn yc hcap hnf HOk HCk HAp HV (Below.refl _ _) ?_
    intro zu4 zu7 zu8 zu55 zu56 zu57 zu58 zu59 zu60 zu61 zu62 zu63 zu64 zu65 zu66 zu67 zu68 zu69 zu70 zu71 zu72 zu73 zu74 zu75 zu76 zu77 zu78 zu79 zu80 zu81 zu82 zu83 zu84 zu85 zu86 zu87 zu88 zu89 zu90 zu91 zu92 zu93 zu94 WA hWA
    obtain ⟨_, ⟨c00, c01, hl0⟩, _, _⟩ := HV.out WA hWA
    go_wp2_with fail
    clear c00 c01 hl0
    refine apart_loop2 p base a1 a2 c1 c2 w Y WA n1 xf xn xc yf yn yc hcap hnf HOk HCk HAp HV hWA ?_
    intro zv4 zv9 zv10 zv11 zv12 zv13 zv14 zv15 zv98 zv99 zv100 zv101 zv102 zv103 zv104 zv105 zv106 zv107 zv108 zv109 zv110 zv111 zv112 zv113 zv114 zv115 zv116 zv117 zv118 zv119 zv120 zv121 zv122 zv123 zv124 zv125 zv126 zv127 zv128 zv129 zv130 zv131 zv132 zv133 zv134 zv135 zv136 zv137 zv138 zv139 zv140 zv141 zv142 zv143 zv144 zv145 zv146 zv147 zv148 zv149 zv150 zv151 zv152 zv153 zv154 zv155 zv156 zv157 zv158 zv159 zv160 zv161 zv162 zv163 zv164 zv165 zv166 zv167 zv168 zv169 zv170 zv171 zv172 zv173 zv174 zv175 zv176 zv177 zv178 zv179 zv180 zv181 zv182 zv183 zv184 zv185 zv186 zv187 zv188 zv189 zv190 zv191 zv192 zv193 zv194 zv195 zv196 zv197 zv198 zv199 zv200 zv201 zv202 zv203 zv204 zv205 zv206 zv207 zv208 zv209 zv210 zv211 zv212 zv213 zv214 zv215 zv216 zv217 zv218 zv219 zv220 zv221 zv222 zv223 zv224 zv225 zv226 zv227 zv228 zv229 zv230 zv231 zv232 zv233 zv234 zv235 zv236 zv237 zv238 zv239 zv240 zv241 zv242 WB hWB
    obtain ⟨hv1, _, _, _⟩ := HV.out WB hWB
    have n1c : WB.cell? ⟨n1, 1, none⟩ = some (.slice xn (M.layAll p base).names.length yn) := cellB hv1.1 1
    have hlB : n1 < WB.heap.size := (Array.getElem?_eq_some_iff.1 hv1.1).1
    clear hv1
    go_wp2_with fail
    clear n1c hlB
    refine apart_loop4 p base a1 a2 c1 c2 w Y WB n1 xf xn xc yf yn yc hcap hnf HOk HCk HAp HV hWB ?_
    intro zw4 zw16 zw17 zw18 zw19 zw20 zw21 zw22 zw23 zw24 zw246 zw247 zw248 zw249 zw250 zw251 zw252 zw253 zw254 zw255 zw256 zw257 zw258 zw259 zw260 zw261 zw262 zw263 zw264 zw265 zw266 zw267 zw268 zw269 zw270 zw271 zw272 zw273 zw274 zw275 zw276 zw277 zw278 zw279 zw280 zw281 zw282 zw283 zw284 zw285 zw286 zw287 zw288 zw289 zw290 zw291 zw292 zw293 zw294 zw295 zw296 zw297 zw298 zw299 zw300 zw301 zw302 zw303 zw304 zw305 zw306 zw307 zw308 zw309 zw310 zw311 zw312 zw313 zw314 zw315 zw316 zw317 zw318 zw319 zw320 zw321 zw322 zw323 zw324 zw325 zw326 zw327 zw328 zw329 zw330 zw331 zw332 zw333 zw334 zw335 zw336 zw337 zw338 zw339 zw340 zw341 zw342 zw343 zw344 zw345 zw346 zw347 zw348 zw349 zw350 zw351 zw352 zw353 zw354 zw355 zw356 zw357 zw358 zw359 zw360 WC hWC
    go_wp2_with fail
    go_ret
    exact ⟨rfl, HEnd.out.trans (hWC.mono HEnd.out.size)⟩

end Go.Proofs.Ytpnlcmdapkhdgaa
