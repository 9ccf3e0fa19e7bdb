/-
  The contract of the law's closed fact on names: it is true.
-/
import Derived.Test.YtebhbhbhcoijpaaNmFaults
import Derived.Test.YtebhbhbhcoijpaaNmEqF
import Derived.Test.YtebhbhbhcoijpaaNmMath3
import Derived.Test.YtebhbhbhcoijpaaPartVar
import Derived.Test.YtebhbhbhcoijpaaPrtVar
import Derived.Laws.StructEq
namespace Go.Proofs.Ytebhbhbhcoijpaa
open Go.RowKit
set_option linter.unusedVariables false

def frgC : M.Frg := ⟨4, 1, ⟨#[]⟩, [1, 2], 0, []⟩
def defsC : Array Value := #[.string M.tX, .int .i64 2, .int .i64 0, .int .i64 1, .int .i64 0, .int .i64 0, .string M.tX, .int .i64 3, .int .i64 0, .int .i64 0, .int .i64 4, .int .i64 2, .string M.tY, .int .i64 1, .int .i64 0, .int .i64 0, .int .i64 0, .int .i64 0, .string M.tY, .int .i64 1, .int .i64 0, .int .i64 2, .int .i64 0, .int .i64 0, .string M.tX, .int .i64 3, .int .i64 0, .int .i64 0, .int .i64 3, .int .i64 8]

theorem fltMap (l : List (Int × ByteArray)) : l.flatMap encFlt = (l.map fun x => (⟨x.1, x.2, 0, 0⟩ : Flt)).flatMap encF := by rw [List.flatMap_map]; rfl

theorem closed_at {X : World} {n : Nat} (q0 : X.heap[n]? = some (.cells #[.int .u8 1, .int .u8 2] 5 (0, 0)))
    (q1 : X.heap[n + 1]? = some (.cells #[.int .i64 4, .int .i64 1, .string ⟨#[]⟩, .slice (some ⟨n, 0, none⟩) 2 2, .int .i64 0, .slice none 0 0] 43 (0, 0))) (q2 : X.heap[n + 1 + 1]? = some (.cells defsC 69 (0, 0))) :
    FragsAt X (.slice (some ⟨n + 1, 0, none⟩) 1 1) M.prtF.frags ∧ DefsAt X (.slice (some ⟨n + 1 + 1, 0, none⟩) 5 5) M.prtF.defs := by
  have hP : PR X 0 [⟨frgC, .slice (some ⟨n, 0, none⟩) 2 2, .slice none 0 0⟩] M.prtF.defs (.slice (some ⟨n + 1, 0, none⟩) 1 1) (.slice (some ⟨n + 1 + 1, 0, none⟩) 5 5) := by
    refine ⟨⟨rfl, .inr ⟨_, _, _, rfl, Nat.zero_le _, q1, Nat.le_refl _, by unfold maxLen; decide, rfl, rfl⟩⟩, ⟨rfl, .inr ⟨_, _, _, rfl, Nat.zero_le _, q2, Nat.le_refl _, by unfold maxLen; decide, rfl, rfl⟩⟩, ?_, ?_, ?_, ?_⟩
    · intro e he
      obtain rfl := List.mem_singleton.1 he
      exact ⟨rfl, .inr ⟨_, _, _, rfl, Nat.zero_le _, q0, Nat.le_refl _, by unfold maxLen; decide, rfl, rfl⟩⟩
    · intro e he
      obtain rfl := List.mem_singleton.1 he
      exact ⟨show ∀ b ∈ frgC.bytes, 0 ≤ b ∧ b < 256 by decide, show frgC.group.size ≤ maxLen by unfold maxLen; decide, fun r hr => by cases hr⟩
    · intro d hd
      have : d.name = M.tX ∨ d.name = M.tY := by
        simp only [M.prtF, List.mem_cons, List.not_mem_nil, or_false] at hd
        rcases hd with rfl | rfl | rfl | rfl | rfl <;> simp
      rcases this with h | h <;> rw [h] <;> (unfold maxLen; decide)
    · intro e he
      obtain rfl := List.mem_singleton.1 he
      exact World.ownsRow_nil _ _ _ _
  exact ⟨hP.fragsAt, hP.defsAt⟩

set_option maxHeartbeats 8000000 in
set_option maxRecDepth 100000 in
theorem found_any (w : World) :
    Calls Try.prog 18 #[] w fun e w' => e = .returned (.bool true) ∧ Below w.heap.size w w' := by
  go_enter Try.func18, Try.ntmps18
  go_upto_region 2 with fail
  have HC : Hid (∃ X, X = ((((w.alloc (.cells #[.int .u8 1, .int .u8 2] 5)).alloc (.cells #[.int .i64 4, .int .i64 1, .string ⟨#[]⟩, .slice (some ⟨w.heap.size, 0, none⟩) 2 2, .int .i64 0, .slice none 0 0] 43)).alloc (.cells defsC 69)).alloc (.cells #[.slice (some ⟨w.heap.size + 1, 0, none⟩) 1 1, .slice (some ⟨w.heap.size + 1 + 1, 0, none⟩) 5 5] 25)) ∧
      Var X (w.heap.size + 1 + 1 + 1) (some ⟨w.heap.size + 1, 0, none⟩) (some ⟨w.heap.size + 1 + 1, 0, none⟩) 1 5 M.prtF ∧ Below w.heap.size w X) := by
    refine ⟨_, rfl, ?_, ?_⟩
    · have q0 : (((w.alloc (.cells #[.int .u8 1, .int .u8 2] 5)).alloc (.cells #[.int .i64 4, .int .i64 1, .string ⟨#[]⟩, .slice (some ⟨w.heap.size, 0, none⟩) 2 2, .int .i64 0, .slice none 0 0] 43)).alloc (.cells defsC 69)).heap[w.heap.size]? = some (.cells #[.int .u8 1, .int .u8 2] 5 (0, 0)) := (heap_alloc_old _ _ (by simp; omega)).trans (heap_alloc2_old _ _ _)
      have q1 : (((w.alloc (.cells #[.int .u8 1, .int .u8 2] 5)).alloc (.cells #[.int .i64 4, .int .i64 1, .string ⟨#[]⟩, .slice (some ⟨w.heap.size, 0, none⟩) 2 2, .int .i64 0, .slice none 0 0] 43)).alloc (.cells defsC 69)).heap[w.heap.size + 1]? = some (.cells #[.int .i64 4, .int .i64 1, .string ⟨#[]⟩, .slice (some ⟨w.heap.size, 0, none⟩) 2 2, .int .i64 0, .slice none 0 0] 43 (0, 0)) := (heap_alloc_old _ _ (by simp)).trans (heap_alloc2_new _ _ _)
      have q2 : (((w.alloc (.cells #[.int .u8 1, .int .u8 2] 5)).alloc (.cells #[.int .i64 4, .int .i64 1, .string ⟨#[]⟩, .slice (some ⟨w.heap.size, 0, none⟩) 2 2, .int .i64 0, .slice none 0 0] 43)).alloc (.cells defsC 69)).heap[w.heap.size + 1 + 1]? = some (.cells defsC 69 (0, 0)) := by
        have := heap_alloc_new ((w.alloc (.cells #[.int .u8 1, .int .u8 2] 5)).alloc (.cells #[.int .i64 4, .int .i64 1, .string ⟨#[]⟩, .slice (some ⟨w.heap.size, 0, none⟩) 2 2, .int .i64 0, .slice none 0 0] 43)) (.cells defsC 69)
        simpa using this
      obtain ⟨hF, hD⟩ := closed_at q0 q1 q2
      have := var_new (p := M.prtF) (y1 := 1) (y2 := 5) hF hD
      simp only [World.size_alloc] at this
      exact this
    · exact ((((Below.refl _ _).alloc (Nat.le_refl _) _).alloc (by simp) _).alloc (by simp; omega) _).alloc (by simp; omega) _
  unfold defsC M.tX M.tY at HC
  obtain ⟨X, hX, hv, hB⟩ := HC.out
  rw [← hX]
  clear hX HC
  have HB : Hid (Below w.heap.size w X) := hB
  have HV : Hid (Var X (w.heap.size + 1 + 1 + 1) (some ⟨w.heap.size + 1, 0, none⟩) (some ⟨w.heap.size + 1 + 1, 0, none⟩) 1 5 M.prtF) := hv
  have c0 : X.cell? ⟨w.heap.size + 1 + 1 + 1, 0, none⟩ = some (.slice (some ⟨w.heap.size + 1, 0, none⟩) 1 1) := hv.c0
  have c1 : X.cell? ⟨w.heap.size + 1 + 1 + 1, 1, none⟩ = some (.slice (some ⟨w.heap.size + 1 + 1, 0, none⟩) 5 5) := hv.c1
  clear hv hB
  have KX : Hid (∀ W, Below X.heap.size X W → Calls Try.prog 52 #[.agg #[.slice (some ⟨w.heap.size + 1, 0, none⟩) 1 1, .slice (some ⟨w.heap.size + 1 + 1, 0, none⟩) 5 5], .string ⟨#[120]⟩] W fun e w' => e = .returned (.tuple #[.agg #[.string ⟨#[120]⟩, .int .i64 3, .int .i64 0, .int .i64 0, .int .i64 4, .int .i64 8], .int .i64 0]) ∧ Below W.heap.size W w') := fun W hW => by
    have := findP_any M.prtF M.tX (some ⟨w.heap.size + 1, 0, none⟩) (some ⟨w.heap.size + 1 + 1, 0, none⟩) 1 5 W (HV.out.later hW).fr (HV.out.later hW).df
    unfold findOf at this
    rw [if_pos M.checkF, M.findX] at this
    exact this
  have KY : Hid (∀ W, Below X.heap.size X W → Calls Try.prog 52 #[.agg #[.slice (some ⟨w.heap.size + 1, 0, none⟩) 1 1, .slice (some ⟨w.heap.size + 1 + 1, 0, none⟩) 5 5], .string ⟨#[121]⟩] W fun e w' => e = .returned (.tuple #[.agg #[.string ⟨#[]⟩, .int .i64 0, .int .i64 0, .int .i64 0, .int .i64 0, .int .i64 0], .int .i64 6]) ∧ Below W.heap.size W w') := fun W hW => by
    have := findP_any M.prtF M.tY (some ⟨w.heap.size + 1, 0, none⟩) (some ⟨w.heap.size + 1 + 1, 0, none⟩) 1 5 W (HV.out.later hW).fr (HV.out.later hW).df
    unfold findOf at this
    rw [if_pos M.checkF, show M.find M.prtF.defs M.tY = (M.dfnZ, 6) by kernel_rfl] at this
    exact this
  have KF : Hid (∀ W, Below X.heap.size X W → Calls Try.prog 53 #[.agg #[.slice (some ⟨w.heap.size + 1, 0, none⟩) 1 1, .slice (some ⟨w.heap.size + 1 + 1, 0, none⟩) 5 5]] W fun e w' => Below W.heap.size W w' ∧ ∃ xa xc, e = .returned (.tuple #[.slice xa 1 xc, .int .i64 0]) ∧ FltsAt w' (.slice xa 1 xc) [⟨6, M.tY, 0, 0⟩]) := fun W hW => by
    refine (faultsP_any M.prtF (some ⟨w.heap.size + 1, 0, none⟩) (some ⟨w.heap.size + 1 + 1, 0, none⟩) 1 5 W (HV.out.later hW).fr (HV.out.later hW).df).mono ?_
    rintro e w' ⟨h1, v, rfl, h3⟩
    have hf : faultsOfP M.prtF = [(6, M.tY)] := by unfold faultsOfP; rw [if_pos M.checkF, M.faultsF]
    rw [hf, fltMap] at h3
    obtain ⟨xa, xc, rfl⟩ := own_len h3
    exact ⟨h1, xa, xc, by rw [M.checkF]; rfl, row_flts h3⟩
  go_upto_region 3 with (go_at_call 52; refine (KX.out _ (Below.refl _ _)).mono ?_; rintro e w1 ⟨rfl, hb1⟩)
  have HB1 : Hid (Below X.heap.size X (w1.alloc (.cells #[.string ⟨#[120]⟩, .int .i64 3, .int .i64 0, .int .i64 0, .int .i64 4, .int .i64 8] 69))) := hb1.alloc hb1.size _
  have d1 := heap_alloc_new w1 (.cells #[.string ⟨#[120]⟩, .int .i64 3, .int .i64 0, .int .i64 0, .int .i64 4, .int .i64 8] 69)
  clear KX hb1 c0 c1
  generalize w1.alloc (.cells #[.string ⟨#[120]⟩, .int .i64 3, .int .i64 0, .int .i64 0, .int .i64 4, .int .i64 8] 69) = X1 at *
  generalize w1.heap.size = n2 at *
  have c0 : X1.cell? ⟨w.heap.size + 1 + 1 + 1, 0, none⟩ = some (.slice (some ⟨w.heap.size + 1, 0, none⟩) 1 1) := (HV.out.later HB1.out).c0
  have c1 : X1.cell? ⟨w.heap.size + 1 + 1 + 1, 1, none⟩ = some (.slice (some ⟨w.heap.size + 1 + 1, 0, none⟩) 5 5) := (HV.out.later HB1.out).c1
  go_upto_region 4 with (go_at_call 52; refine (KY.out _ HB1.out).mono ?_; rintro e w2 ⟨rfl, hb2⟩)
  have HB2 : Hid (Below X1.heap.size X1 (w2.alloc (.cells #[.string ⟨#[]⟩, .int .i64 0, .int .i64 0, .int .i64 0, .int .i64 0, .int .i64 0] 69))) := hb2.alloc hb2.size _
  clear KY hb2 c0 c1
  generalize w2.alloc (.cells #[.string ⟨#[]⟩, .int .i64 0, .int .i64 0, .int .i64 0, .int .i64 0, .int .i64 0] 69) = X2 at *
  generalize w2.heap.size = n4 at *
  have HX2 : Hid (Below X.heap.size X X2) := HB1.out.trans (HB2.out.mono HB1.out.size)
  have c0 : X2.cell? ⟨w.heap.size + 1 + 1 + 1, 0, none⟩ = some (.slice (some ⟨w.heap.size + 1, 0, none⟩) 1 1) := (HV.out.later HX2.out).c0
  have c1 : X2.cell? ⟨w.heap.size + 1 + 1 + 1, 1, none⟩ = some (.slice (some ⟨w.heap.size + 1 + 1, 0, none⟩) 5 5) := (HV.out.later HX2.out).c1
  have d2 := (HB2.out.block _ (Array.getElem?_eq_some_iff.1 d1).1).trans d1
  clear d1 HB1 HB2
  go_upto_region 5 with (go_at_call 53; refine (KF.out _ HX2.out).mono ?_; rintro e X3 ⟨hb3, xa, xc, rfl, hF⟩)
  have d3 := (hb3.block _ (Array.getElem?_eq_some_iff.1 d2).1).trans d2
  have hl3 : n2 < X3.heap.size := (Array.getElem?_eq_some_iff.1 d3).1
  have HX3 : Hid (Below w.heap.size w X3) := HB.out.trans ((HX2.out.trans (hb3.mono HX2.out.size)).mono HB.out.size)
  clear KF d2 c0 c1 hb3 HX2 HV HB
  have g0 : X3.cell? ⟨n2, 0, none⟩ = some (.string ⟨#[120]⟩) := cellB d3 0
  have g1 : X3.cell? ⟨n2, 1, none⟩ = some (.int .i64 3) := cellB d3 1
  have g2 : X3.cell? ⟨n2, 2, none⟩ = some (.int .i64 0) := cellB d3 2
  have g3 : X3.cell? ⟨n2, 3, none⟩ = some (.int .i64 0) := cellB d3 3
  have g4 : X3.cell? ⟨n2, 4, none⟩ = some (.int .i64 4) := cellB d3 4
  have g5 : X3.cell? ⟨n2, 5, none⟩ = some (.int .i64 8) := cellB d3 5
  have hbg : Hid (Below X3.heap.size X3 (X3.alloc (.cells #[.int .i64 6, .string ⟨#[121]⟩, .int .i64 0, .int .i64 0] 96))) := (Below.refl _ _).alloc (Nat.le_refl _) _
  have hg : FltsAt (X3.alloc (.cells #[.int .i64 6, .string ⟨#[121]⟩, .int .i64 0, .int .i64 0] 96)) (.slice (some ⟨X3.heap.size, 0, none⟩) 1 1) [⟨6, M.tY, 0, 0⟩] :=
    row_flts (B := 0) ⟨rfl, .inr ⟨_, _, _, rfl, Nat.zero_le _, heap_alloc_new X3 _, Nat.le_refl _, by unfold maxLen; decide, rfl, rfl⟩⟩
  have KE : Hid (Calls Try.prog 54 #[.slice xa 1 xc, .slice (some ⟨X3.heap.size, 0, none⟩) 1 1] (X3.alloc (.cells #[.int .i64 6, .string ⟨#[121]⟩, .int .i64 0, .int .i64 0] 96)) fun e w' => e = .returned (.bool true) ∧ Below (X3.alloc (.cells #[.int .i64 6, .string ⟨#[121]⟩, .int .i64 0, .int .i64 0] 96)).heap.size (X3.alloc (.cells #[.int .i64 6, .string ⟨#[121]⟩, .int .i64 0, .int .i64 0] 96)) w') := by
    have := eqFlts_any [⟨6, M.tY, 0, 0⟩] [⟨6, M.tY, 0, 0⟩] xa (some ⟨X3.heap.size, 0, none⟩) xc 1 _ (hF.later hbg.out) hg
    rwa [show M.allTwo sameFlt [⟨6, M.tY, 0, 0⟩] [⟨6, M.tY, 0, 0⟩] = true by decide +kernel] at this
  clear hF hg d3
  have u3 := Try.underlying3
  have u9 := Try.underlying9
  go_wp2_with (go_at_call 54; refine KE.out.mono ?_; rintro e w5 ⟨rfl, hb5⟩)
  go_ret
  exact ⟨rfl, HX3.out.trans ((hbg.out.trans (hb5.mono hbg.out.size)).mono HX3.out.size)⟩

end Go.Proofs.Ytebhbhbhcoijpaa
