/-
  Variables that hold parts; the contract of the law's closed fact: it is true.
-/
import Derived.Test.YtebhbhbhcoijpaaPrtVar
import Derived.Test.YtebhbhbhcoijpaaSameAll
import Derived.Test.YtebhbhbhcoijpaaTwo
namespace Go.Proofs.Ytebhbhbhcoijpaa
open Go.RowKit
set_option linter.unusedVariables false

def pA : M.Prt := ⟨[frgA], [dfnA]⟩
def pB : M.Prt := ⟨[frgB], [dfnB]⟩
def pP : M.Prt := (M.join pA pB).1
def pQ : M.Prt := (M.join pP pB).1

theorem joinP : M.join pA pB = (pP, 0) := by
  have : (M.join pA pB).2 = 0 := by decide +kernel
  rw [← this]; rfl
theorem joinQ : M.join pP pB = (pQ, 0) := by
  have : (M.join pP pB).2 = 0 := by decide +kernel
  rw [← this]; rfl
theorem lenP : pP.frags.length = 2 := by decide +kernel
theorem lenQ : pQ.frags.length = 2 := by decide +kernel
theorem lenD : pQ.defs.length = 2 := by decide +kernel
theorem fragQ : (pQ.defs.getD 1 dfn0).frag = 1 := by decide +kernel
theorem checkQ : M.checkPart pQ = 0 := by decide +kernel
theorem groupsQ : sameTexts (M.groups pQ.frags) [⟨#[103]⟩] = true := by decide +kernel

set_option maxHeartbeats 8000000 in
set_option maxRecDepth 100000 in
theorem spliced_any (w : World) :
    Calls Try.prog 11 #[] w fun e w' => e = .returned (.bool true) ∧ Below w.heap.size w w' := by
  go_enter Try.func11, Try.ntmps11
  go_upto_region 2 with (go_at_call 48; refine (two_any _).mono ?_; rintro e w1 ⟨a1, a2, a3, a4, rfl, hb1, hA, hAd, hB, hBd⟩)
  have v1 : Var (w1.alloc (.cells #[.slice a1 1 1, .slice a2 1 1] 25)) w1.heap.size a1 a2 1 1 pA := var_new (p := pA) hA hAd
  have v1 := v1.later ((Below.refl _ _).alloc (Nat.le_refl _) (.cells #[.slice a3 1 1, .slice a4 1 1] 25))
  have hbA : Below w1.heap.size w1 (w1.alloc (.cells #[.slice a1 1 1, .slice a2 1 1] 25)) := (Below.refl _ _).alloc (Nat.le_refl _) _
  have v2 : Var ((w1.alloc (.cells #[.slice a1 1 1, .slice a2 1 1] 25)).alloc (.cells #[.slice a3 1 1, .slice a4 1 1] 25)) (w1.heap.size + 1) a3 a4 1 1 pB := by
    have := var_new (p := pB) (hB.later hbA) (hBd.later hbA)
    simpa [pB] using this
  have HX : Hid (Below w.heap.size w ((w1.alloc (.cells #[.slice a1 1 1, .slice a2 1 1] 25)).alloc (.cells #[.slice a3 1 1, .slice a4 1 1] 25))) := (hb1.alloc hb1.size _).alloc (by simpa using Nat.le_succ_of_le hb1.size) _
  clear hA hAd hB hBd hb1 hbA
  generalize (w1.alloc (.cells #[.slice a1 1 1, .slice a2 1 1] 25)).alloc (.cells #[.slice a3 1 1, .slice a4 1 1] 25) = X1 at *
  generalize w1.heap.size = n1 at *
  have V1 : Hid (Var X1 n1 a1 a2 1 1 pA) := v1
  have V2 : Hid (Var X1 (n1 + 1) a3 a4 1 1 pB) := v2
  have c10 : X1.cell? ⟨n1, 0, none⟩ = some (.slice a1 1 1) := v1.c0
  have c11 : X1.cell? ⟨n1, 1, none⟩ = some (.slice a2 1 1) := v1.c1
  have c20 : X1.cell? ⟨n1 + 1, 0, none⟩ = some (.slice a3 1 1) := v2.c0
  have c21 : X1.cell? ⟨n1 + 1, 1, none⟩ = some (.slice a4 1 1) := v2.c1
  have KJ : Hid (Calls Try.prog 9 #[.agg #[.slice a1 1 1, .slice a2 1 1], .agg #[.slice a3 1 1, .slice a4 1 1]] X1 _) := join_v v1.fr v1.df v2.fr v2.df pP 0 joinP
  clear v1 v2
  go_upto_region 3 with (go_at_call 9; refine KJ.out.mono ?_; rintro e w2 ⟨hb2, z1, z2, z3, z4, rfl, hF2, hD2⟩)
  have v3 := var_new (p := pP) hF2 hD2
  have HB2 : Hid (Below X1.heap.size X1 (w2.alloc (.cells #[.slice z1 pP.frags.length z2, .slice z3 pP.defs.length z4] 25))) := hb2.alloc hb2.size _
  clear hF2 hD2 KJ c10 c11 c20 c21 V1 hb2
  generalize w2.alloc (.cells #[.slice z1 pP.frags.length z2, .slice z3 pP.defs.length z4] 25) = X2 at *
  generalize w2.heap.size = n2 at *
  have HX2 : Hid (Below w.heap.size w X2) := HX.out.trans (HB2.out.mono HX.out.size)
  have v2 := V2.out.later HB2.out
  have V3 : Hid (Var X2 n2 z1 z3 z2 z4 pP) := v3
  have c20 : X2.cell? ⟨n1 + 1, 0, none⟩ = some (.slice a3 1 1) := v2.c0
  have c21 : X2.cell? ⟨n1 + 1, 1, none⟩ = some (.slice a4 1 1) := v2.c1
  have c30 := v3.c0
  have c31 := v3.c1
  have KJ : Hid (Calls Try.prog 9 #[.agg #[.slice z1 pP.frags.length z2, .slice z3 pP.defs.length z4], .agg #[.slice a3 1 1, .slice a4 1 1]] X2 _) := join_v v3.fr v3.df v2.fr v2.df pQ 0 joinQ
  clear v2 v3 V2 HX HB2
  go_upto_region 4 with (go_at_call 9; refine KJ.out.mono ?_; rintro e w3 ⟨hb3, u1, u2, u3, u4, rfl, hF3, hD3⟩)
  have v4 := var_new (p := pQ) hF3 hD3
  have HB3 : Hid (Below X2.heap.size X2 (w3.alloc (.cells #[.slice u1 pQ.frags.length u2, .slice u3 pQ.defs.length u4] 25))) := hb3.alloc hb3.size _
  clear hF3 hD3 KJ c20 c21 c30 c31 hb3
  generalize w3.alloc (.cells #[.slice u1 pQ.frags.length u2, .slice u3 pQ.defs.length u4] 25) = X3 at *
  generalize w3.heap.size = n3 at *
  have HX3 : Hid (Below w.heap.size w X3) := HX2.out.trans (HB3.out.mono HX2.out.size)
  have V4 : Hid (Var X3 n3 u1 u3 u2 u4 pQ) := v4
  have V3 : Hid (Var X3 n2 z1 z3 z2 z4 pP) := V3.out.later HB3.out
  have c40 := v4.c0
  have c41 := v4.c1
  have KG : Hid (Calls Try.prog 14 #[.agg #[.slice u1 pQ.frags.length u2, .slice u3 pQ.defs.length u4]] X3 fun e w' => Below X3.heap.size X3 w' ∧ ∃ ga gc, e = .returned (.tuple #[.slice ga (M.groups pQ.frags).length gc, .int .i64 0]) ∧ StrsAt w' (.slice ga (M.groups pQ.frags).length gc) (M.groups pQ.frags)) := by
    refine (groupsOf_any pQ u1 u3 u2 u4 X3 v4.fr v4.df).mono ?_
    rintro e w' ⟨hb, v, rfl, hs, _⟩
    rw [checkQ, if_pos rfl] at hs
    obtain ⟨x, y, rfl, _⟩ := hs.1.form
    exact ⟨hb, x, y, by rw [checkQ], hs⟩
  clear v4 HB3 HX2
  go_upto_region 5 with (go_at_call 14; refine KG.out.mono ?_; rintro e w4 ⟨hb4, ga, gc, rfl, hs4⟩)
  have v3 := V3.out.later hb4
  have v4 := V4.out.later hb4
  have HX4 : Hid (Below w.heap.size w w4) := HX3.out.trans (hb4.mono HX3.out.size)
  have c30 : w4.cell? ⟨n2, 0, none⟩ = some (.slice z1 2 z2) := by rw [← lenP]; exact v3.c0
  have d40 : w4.cell? ⟨n3, 0, none⟩ = some (.slice u1 2 u2) := by rw [← lenQ]; exact v4.c0
  have d41 : w4.cell? ⟨n3, 1, none⟩ = some (.slice u3 2 u4) := by rw [← lenD]; exact v4.c1
  obtain ⟨b, off, rfl, _, _, e2, _, _, _, _⟩ := v4.df.cells 1 (by rw [lenD]; decide)
  rw [fragQ, Nat.one_mul] at e2
  have hbl : b < w4.heap.size := World.block_lt_of_cell? _ _ e2
  have l3 := v3.lt
  have l4 := v4.lt
  have hbg : Below w4.heap.size w4 (w4.alloc (.cells #[.string ⟨#[103]⟩] 9)) := (Below.refl _ _).alloc (Nat.le_refl _) _
  have hg : StrsAt (w4.alloc (.cells #[.string ⟨#[103]⟩] 9)) (.slice (some ⟨w4.heap.size, 0, none⟩) 1 1) [⟨#[103]⟩] := by
    refine ⟨⟨_, _, rfl, by unfold maxLen; decide, .inr ⟨w4.heap.size, 0, rfl, fun j i hj hi => ?_⟩⟩, fun s hs => ?_⟩
    · obtain rfl : j = 0 := by simpa using hj
      obtain rfl : i = 0 := by omega
      exact cellB (heap_alloc_new w4 _) 0
    · rw [List.mem_singleton.1 hs]; unfold maxLen; decide
  have KE : Hid (Calls Try.prog 16 #[.slice ga (M.groups pQ.frags).length gc, .slice (some ⟨w4.heap.size, 0, none⟩) 1 1] (w4.alloc (.cells #[.string ⟨#[103]⟩] 9)) fun e w' => e = .returned (.bool true) ∧ Below (w4.alloc (.cells #[.string ⟨#[103]⟩] 9)).heap.size (w4.alloc (.cells #[.string ⟨#[103]⟩] 9)) w') := by
    have := equalS_any (M.groups pQ.frags) [⟨#[103]⟩] ga (some ⟨w4.heap.size, 0, none⟩) gc 1 _ (hs4.later hbg) hg
    rwa [groupsQ] at this
  clear v3 v4 hs4 hg KG V3 V4 c40 c41
  go_wp2_with (go_at_call 16; refine KE.out.mono ?_; rintro e w5 ⟨rfl, hb5⟩)
  go_ret
  exact ⟨rfl, HX4.out.trans ((hbg.trans (hb5.mono hbg.size)).mono HX4.out.size)⟩

end Go.Proofs.Ytebhbhbhcoijpaa
