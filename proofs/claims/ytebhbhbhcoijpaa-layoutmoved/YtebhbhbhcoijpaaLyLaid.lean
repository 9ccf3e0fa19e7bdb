/-
  The contract of the law's closed fact on layouts: it is true.
-/
import Derived.Test.YtebhbhbhcoijpaaLyLay
import Derived.Test.YtebhbhbhcoijpaaLyEqI
import Derived.Test.YtebhbhbhcoijpaaLyMath
import Derived.Test.YtebhbhbhcoijpaaPartVar
import Derived.Laws.StructEq
namespace Go.Proofs.Ytebhbhbhcoijpaa
open Go Go.RowKit
set_option linter.unusedVariables false

theorem less_irr : ∀ x : List UInt8, Op.bytesLess x x = false
  | [] => rfl
  | a :: x => by
    unfold Op.bytesLess
    simp [less_irr x]

set_option maxHeartbeats 4000000 in
set_option maxRecDepth 100000 in
/-- halving one name -/
theorem search_one (s : ByteArray) (a : Option Addr) (c : Nat) (w : World) (h : StrsAt w (.slice a 1 c) [s]) :
    Calls Try.prog 116 #[.slice a 1 c, .string s] w fun e w' => e = .returned (.tuple #[.int .i64 0, .bool true]) ∧ Below w.heap.size w w' := by
  obtain ⟨b, off, rfl, hc, hb⟩ := StrsAt.cell (l := [s]) h 0 (by simp)
  have hc' : w.cell? ⟨b, off, none⟩ = some (.string s) := hc
  have hls : Op.bytesLess s.toList s.toList = false := less_irr _
  clear hc h
  go_enter Try.func116, Try.ntmps116
  go_wp2_with fail
  refine wp_loop_rounds 2 ?_
  rw [rounds_succ]
  go_wp2
  rw [rounds_succ]
  go_wp2
  go_ret2
  exact ⟨rfl, Below.refl _ _⟩

theorem closed_lay {X : World} {n : Nat} (q0 : X.heap[n]? = some (.cells #[.int .u8 1] 5 (0, 0))) (q1 : X.heap[n + 1]? = some (.cells #[.int .u8 1, .int .u8 2, .int .u8 3] 5 (0, 0))) (q2 : X.heap[n + 1 + 1]? = some (.cells #[.int .u8 4] 5 (0, 0)))
    (q3 : X.heap[n + 1 + 1 + 1]? = some (.cells #[.int .i64 4, .int .i64 4, .string ⟨#[]⟩, .slice (some ⟨n, 0, none⟩) 1 1, .int .i64 0, .slice none 0 0, .int .i64 1, .int .i64 1, .string ⟨#[]⟩, .slice (some ⟨n + 1, 0, none⟩) 3 3, .int .i64 0, .slice none 0 0, .int .i64 1, .int .i64 8, .string ⟨#[]⟩, .slice (some ⟨n + 1 + 1, 0, none⟩) 1 1, .int .i64 0, .slice none 0 0] 43 (0, 0))) (q4 : X.heap[n + 1 + 1 + 1 + 1]? = some (.cells #[.string ⟨#[99]⟩, .int .i64 3, .int .i64 0, .int .i64 0, .int .i64 2, .int .i64 8] 69 (0, 0))) :
    FragsAt X (.slice (some ⟨n + 1 + 1 + 1, 0, none⟩) 3 3) M.prtL.frags ∧ DefsAt X (.slice (some ⟨n + 1 + 1 + 1 + 1, 0, none⟩) 1 1) M.prtL.defs := by
  have hP : PR X 0 [⟨⟨4, 4, ⟨#[]⟩, [1], 0, []⟩, .slice (some ⟨n, 0, none⟩) 1 1, .slice none 0 0⟩, ⟨⟨1, 1, ⟨#[]⟩, [1, 2, 3], 0, []⟩, .slice (some ⟨n + 1, 0, none⟩) 3 3, .slice none 0 0⟩, ⟨⟨1, 8, ⟨#[]⟩, [4], 0, []⟩, .slice (some ⟨n + 1 + 1, 0, none⟩) 1 1, .slice none 0 0⟩] M.prtL.defs (.slice (some ⟨n + 1 + 1 + 1, 0, none⟩) 3 3) (.slice (some ⟨n + 1 + 1 + 1 + 1, 0, none⟩) 1 1) := by
    refine ⟨⟨rfl, .inr ⟨_, _, _, rfl, Nat.zero_le _, q3, Nat.le_refl _, by unfold maxLen; decide, rfl, rfl⟩⟩, ⟨rfl, .inr ⟨_, _, _, rfl, Nat.zero_le _, q4, Nat.le_refl _, by unfold maxLen; decide, rfl, rfl⟩⟩, ?_, ?_, ?_, ?_⟩
    · intro e he
      simp only [List.mem_cons, List.not_mem_nil, or_false] at he
      rcases he with rfl | rfl | rfl
      · exact ⟨rfl, .inr ⟨_, _, _, rfl, Nat.zero_le _, q0, Nat.le_refl _, by unfold maxLen; decide, rfl, rfl⟩⟩
      · exact ⟨rfl, .inr ⟨_, _, _, rfl, Nat.zero_le _, q1, Nat.le_refl _, by unfold maxLen; decide, rfl, rfl⟩⟩
      · exact ⟨rfl, .inr ⟨_, _, _, rfl, Nat.zero_le _, q2, Nat.le_refl _, by unfold maxLen; decide, rfl, rfl⟩⟩
    · intro e he
      simp only [List.mem_cons, List.not_mem_nil, or_false] at he
      rcases he with rfl | rfl | rfl
      · exact ⟨by simp, by show (⟨#[]⟩ : ByteArray).size ≤ maxLen; unfold maxLen; decide, fun r hr => by cases hr⟩
      · exact ⟨by simp, by show (⟨#[]⟩ : ByteArray).size ≤ maxLen; unfold maxLen; decide, fun r hr => by cases hr⟩
      · exact ⟨by simp, by show (⟨#[]⟩ : ByteArray).size ≤ maxLen; unfold maxLen; decide, fun r hr => by cases hr⟩
    · intro d hd
      simp only [M.prtL, List.mem_cons, List.not_mem_nil, or_false] at hd
      subst hd
      show M.tC.size ≤ maxLen
      unfold maxLen
      decide
    · intro e he
      simp only [List.mem_cons, List.not_mem_nil, or_false] at he
      rcases he with rfl | rfl | rfl <;> exact World.ownsRow_nil _ _ _ _
  exact ⟨hP.fragsAt, hP.defsAt⟩

set_option maxHeartbeats 4000000 in
set_option maxRecDepth 100000 in
theorem whereCommon_one (s : ByteArray) (x : Int) (vf : Value) (xn xc : Option Addr) (yn yc : Nat) (m0 m1 m2 m3 m4 m5 m6 m7 m8 m9 m10 m11 : Value) (w : World) (hn : StrsAt w (.slice xn 1 yn) [s]) (hc : IntsAt w (.slice xc 1 yc) [x]) :
    Calls Try.prog 103 #[.agg #[vf, .slice xn 1 yn, .slice xc 1 yc, m0, m1, m2, m3, m4, m5, m6, m7, m8, m9, m10, m11], .string s] w fun e w' => e = .returned (.tuple #[.int .i64 x, .int .i64 0]) ∧ Below w.heap.size w w' := by
  have hB : Below w.heap.size w (w.alloc (.cells #[vf, .slice xn 1 yn, .slice xc 1 yc, m0, m1, m2, m3, m4, m5, m6, m7, m8, m9, m10, m11] 55)) := (Below.refl _ _).alloc (Nat.le_refl _) _
  have q := heap_alloc_new w (.cells #[vf, .slice xn 1 yn, .slice xc 1 yc, m0, m1, m2, m3, m4, m5, m6, m7, m8, m9, m10, m11] 55)
  have KS : Hid (Calls Try.prog 116 #[.slice xn 1 yn, .string s] (w.alloc (.cells #[vf, .slice xn 1 yn, .slice xc 1 yc, m0, m1, m2, m3, m4, m5, m6, m7, m8, m9, m10, m11] 55)) _) := search_one s xn yn _ (hn.later hB)
  obtain ⟨b, off, rfl, hcc, hbb⟩ := IntsAt.cell (l := [x]) (hc.later hB) 0 (by simp)
  have hcc' : (w.alloc (.cells #[vf, .slice xn 1 yn, .slice (some ⟨b, off, none⟩) 1 yc, m0, m1, m2, m3, m4, m5, m6, m7, m8, m9, m10, m11] 55)).cell? ⟨b, off, none⟩ = some (.int .i64 x) := hcc
  have HQ : Hid (∀ W, Below (w.alloc (.cells #[vf, .slice xn 1 yn, .slice (some ⟨b, off, none⟩) 1 yc, m0, m1, m2, m3, m4, m5, m6, m7, m8, m9, m10, m11] 55)).heap.size (w.alloc (.cells #[vf, .slice xn 1 yn, .slice (some ⟨b, off, none⟩) 1 yc, m0, m1, m2, m3, m4, m5, m6, m7, m8, m9, m10, m11] 55)) W → W.cell? ⟨w.heap.size, 2, none⟩ = some (.slice (some ⟨b, off, none⟩) 1 yc) ∧ W.cell? ⟨b, off, none⟩ = some (.int .i64 x) ∧ b < W.heap.size ∧ w.heap.size < W.heap.size) := fun W hW => by
    have y := (hW.block _ (Array.getElem?_eq_some_iff.1 q).1).trans q
    have z := cell_later hW hcc'
    exact ⟨cellB y 2, z, World.block_lt_of_cell? _ _ z, (Array.getElem?_eq_some_iff.1 y).1⟩
  clear hn hc q hcc hcc' hbb
  go_enter Try.func103, Try.ntmps103
  go_wp2_with (go_at_call 116; refine KS.out.mono ?_; rintro e w1 ⟨rfl, hb1⟩; obtain ⟨c2, cx, lb, lw⟩ := HQ.out _ hb1)
  go_ret2
  exact ⟨rfl, hB.trans (hb1.mono hB.size)⟩

set_option maxHeartbeats 4000000 in
set_option maxRecDepth 100000 in
theorem where_one (p : M.Prt) (s : ByteArray) (d : M.Dfn) (x : Int) (a1 a2 : Option Addr) (c1 c2 : Nat) (vf : Value) (xn xc : Option Addr) (yn yc : Nat) (m0 m1 m2 m3 m4 m5 m6 m7 m8 m9 m10 m11 : Value) (w : World)
    (hf : FragsAt w (.slice a1 p.frags.length c1) p.frags) (hd : DefsAt w (.slice a2 p.defs.length c2) p.defs) (hn : StrsAt w (.slice xn 1 yn) [s]) (hc : IntsAt w (.slice xc 1 yc) [x]) (hck : M.checkPart p = 0) (hfd : M.find p.defs s = (d, 0)) (hk : d.kind = 3) :
    Calls Try.prog 67 #[.agg #[.slice a1 p.frags.length c1, .slice a2 p.defs.length c2], .agg #[vf, .slice xn 1 yn, .slice xc 1 yc, m0, m1, m2, m3, m4, m5, m6, m7, m8, m9, m10, m11], .string s] w fun e w' => e = .returned (.tuple #[.int .i64 x, .int .i64 0]) ∧ Below w.heap.size w w' := by
  have HA : Hid (∀ W, Below w.heap.size w W → FragsAt W (.slice a1 p.frags.length c1) p.frags ∧ DefsAt W (.slice a2 p.defs.length c2) p.defs ∧ StrsAt W (.slice xn 1 yn) [s] ∧ IntsAt W (.slice xc 1 yc) [x]) := fun W hW => ⟨hf.later hW, hd.later hW, hn.later hW, hc.later hW⟩
  have KF : Hid (∀ W, Below w.heap.size w W → Calls Try.prog 52 #[.agg #[.slice a1 p.frags.length c1, .slice a2 p.defs.length c2], .string s] W fun e w' => e = .returned (.tuple #[.agg (dfnArr d), .int .i64 0]) ∧ Below W.heap.size W w') := fun W hW => by
    have := findP_any p s a1 a2 c1 c2 W (hf.later hW) (hd.later hW)
    unfold findOf at this
    rwa [if_pos hck, hfd] at this
  have KC : Hid (∀ W, Below w.heap.size w W → Calls Try.prog 103 #[.agg #[vf, .slice xn 1 yn, .slice xc 1 yc, m0, m1, m2, m3, m4, m5, m6, m7, m8, m9, m10, m11], .string s] W fun e w' => e = .returned (.tuple #[.int .i64 x, .int .i64 0]) ∧ Below W.heap.size W w') := fun W hW => whereCommon_one s x vf xn xc yn yc m0 m1 m2 m3 m4 m5 m6 m7 m8 m9 m10 m11 W (hn.later hW) (hc.later hW)
  have hA : Below w.heap.size w ((w.alloc (.cells #[.slice a1 p.frags.length c1, .slice a2 p.defs.length c2] 25)).alloc (.cells #[vf, .slice xn 1 yn, .slice xc 1 yc, m0, m1, m2, m3, m4, m5, m6, m7, m8, m9, m10, m11] 55)) := ((Below.refl _ _).alloc (Nat.le_refl _) _).alloc (by simp) _
  have q := heap_alloc2_new w (.cells #[.slice a1 p.frags.length c1, .slice a2 p.defs.length c2] 25) (.cells #[vf, .slice xn 1 yn, .slice xc 1 yc, m0, m1, m2, m3, m4, m5, m6, m7, m8, m9, m10, m11] 55)
  obtain ⟨nm, kd, fg, ps, sz, al⟩ := d
  simp only at hk
  subst hk
  simp only [dfnArr] at KF
  clear hf hd hn hc hck hfd HA
  go_enter Try.func67, Try.ntmps67
  go_upto_region 2 with (go_at_call 52; refine (KF.out _ hA).mono ?_; rintro e w1 ⟨rfl, hb1⟩)
  have hX : Below w.heap.size w (w1.alloc (.cells #[.string nm, .int .i64 3, .int .i64 fg, .int .i64 ps, .int .i64 sz, .int .i64 al] 69)) := (hA.trans (hb1.mono hA.size)).alloc (Nat.le_trans hA.size hb1.size) _
  have y := (hb1.block _ (Array.getElem?_eq_some_iff.1 q).1).trans q
  have yy := (heap_alloc_old w1 (.cells #[.string nm, .int .i64 3, .int .i64 fg, .int .i64 ps, .int .i64 sz, .int .i64 al] 69) (Array.getElem?_eq_some_iff.1 y).1).trans y
  have xd := heap_alloc_new w1 (.cells #[.string nm, .int .i64 3, .int .i64 fg, .int .i64 ps, .int .i64 sz, .int .i64 al] 69)
  clear hA q hb1 KF y
  generalize w1.alloc (.cells #[.string nm, .int .i64 3, .int .i64 fg, .int .i64 ps, .int .i64 sz, .int .i64 al] 69) = X at *
  generalize w1.heap.size = nd at *
  have d1 : X.cell? ⟨nd, 1, none⟩ = some (.int .i64 3) := cellB xd 1
  have hld : nd < X.heap.size := (Array.getElem?_eq_some_iff.1 xd).1
  have hsl : (Try.prog.info? 55).map (·.size) = some (#[vf, .slice xn 1 yn, .slice xc 1 yc, m0, m1, m2, m3, m4, m5, m6, m7, m8, m9, m10, m11] : Array Value).size := by kernel_rfl
  have KC' : Hid (Calls Try.prog 103 #[.agg #[vf, .slice xn 1 yn, .slice xc 1 yc, m0, m1, m2, m3, m4, m5, m6, m7, m8, m9, m10, m11], .string s] X _) := KC.out X hX
  clear xd KC
  go_wp2_with (first | (refine wpList_load_row rfl 55 _ rfl (w.heap.size + 1) rfl 55 #[vf, .slice xn 1 yn, .slice xc 1 yc, m0, m1, m2, m3, m4, m5, m6, m7, m8, m9, m10, m11] (0, 0) _ yy Try.underlying55 rfl hsl ?_) | (go_at_call 103; refine KC'.out.mono ?_; rintro e w2 ⟨rfl, hb2⟩))
  go_ret2
  exact ⟨rfl, hX.trans (hb2.mono hX.size)⟩

theorem eq_froms (W : World) : (Op.equalIn 10000 53 (.agg #[.int .i64 0, .int .i64 16, .int .i64 32, .int .i64 32, .int .i64 32, .int .i64 48]) (.agg #[.int .i64 0, .int .i64 16, .int .i64 32, .int .i64 32, .int .i64 32, .int .i64 48])).run Try.prog W = .ok true W := by kernel_rfl
theorem eq_tills (W : World) : (Op.equalIn 10000 53 (.agg #[.int .i64 0, .int .i64 25, .int .i64 32, .int .i64 32, .int .i64 33, .int .i64 50]) (.agg #[.int .i64 0, .int .i64 25, .int .i64 32, .int .i64 32, .int .i64 33, .int .i64 50])).run Try.prog W = .ok true W := by kernel_rfl

set_option maxHeartbeats 8000000 in
set_option maxRecDepth 100000 in
theorem laid_any (w : World) :
    Calls Try.prog 29 #[] w fun e w' => e = .returned (.bool true) ∧ Below w.heap.size w w' := by
  go_enter Try.func29, Try.ntmps29
  go_upto_region 2 with fail
  have HC : Hid (∃ X, X = ((((((w.alloc (.cells #[.int .u8 1] 5)).alloc (.cells #[.int .u8 1, .int .u8 2, .int .u8 3] 5)).alloc (.cells #[.int .u8 4] 5)).alloc (.cells #[.int .i64 4, .int .i64 4, .string ⟨#[]⟩, .slice (some ⟨w.heap.size, 0, none⟩) 1 1, .int .i64 0, .slice none 0 0, .int .i64 1, .int .i64 1, .string ⟨#[]⟩, .slice (some ⟨w.heap.size + 1, 0, none⟩) 3 3, .int .i64 0, .slice none 0 0, .int .i64 1, .int .i64 8, .string ⟨#[]⟩, .slice (some ⟨w.heap.size + 1 + 1, 0, none⟩) 1 1, .int .i64 0, .slice none 0 0] 43)).alloc (.cells #[.string ⟨#[99]⟩, .int .i64 3, .int .i64 0, .int .i64 0, .int .i64 2, .int .i64 8] 69)).alloc (.cells #[.slice (some ⟨w.heap.size + 1 + 1 + 1, 0, none⟩) 3 3, .slice (some ⟨w.heap.size + 1 + 1 + 1 + 1, 0, none⟩) 1 1] 25)) ∧ X.heap[w.heap.size + 1 + 1 + 1 + 1 + 1]? = some (.cells #[.slice (some ⟨w.heap.size + 1 + 1 + 1, 0, none⟩) 3 3, .slice (some ⟨w.heap.size + 1 + 1 + 1 + 1, 0, none⟩) 1 1] 25 (0, 0)) ∧ FragsAt X (.slice (some ⟨w.heap.size + 1 + 1 + 1, 0, none⟩) 3 3) M.prtL.frags ∧ DefsAt X (.slice (some ⟨w.heap.size + 1 + 1 + 1 + 1, 0, none⟩) 1 1) M.prtL.defs ∧ Below w.heap.size w X) := by
    refine ⟨_, rfl, ?_, ?_⟩
    · have := heap_alloc_new (((((w.alloc (.cells #[.int .u8 1] 5)).alloc (.cells #[.int .u8 1, .int .u8 2, .int .u8 3] 5)).alloc (.cells #[.int .u8 4] 5)).alloc (.cells #[.int .i64 4, .int .i64 4, .string ⟨#[]⟩, .slice (some ⟨w.heap.size, 0, none⟩) 1 1, .int .i64 0, .slice none 0 0, .int .i64 1, .int .i64 1, .string ⟨#[]⟩, .slice (some ⟨w.heap.size + 1, 0, none⟩) 3 3, .int .i64 0, .slice none 0 0, .int .i64 1, .int .i64 8, .string ⟨#[]⟩, .slice (some ⟨w.heap.size + 1 + 1, 0, none⟩) 1 1, .int .i64 0, .slice none 0 0] 43)).alloc (.cells #[.string ⟨#[99]⟩, .int .i64 3, .int .i64 0, .int .i64 0, .int .i64 2, .int .i64 8] 69)) (.cells #[.slice (some ⟨w.heap.size + 1 + 1 + 1, 0, none⟩) 3 3, .slice (some ⟨w.heap.size + 1 + 1 + 1 + 1, 0, none⟩) 1 1] 25)
      simpa using this
    · have q0 : (((((w.alloc (.cells #[.int .u8 1] 5)).alloc (.cells #[.int .u8 1, .int .u8 2, .int .u8 3] 5)).alloc (.cells #[.int .u8 4] 5)).alloc (.cells #[.int .i64 4, .int .i64 4, .string ⟨#[]⟩, .slice (some ⟨w.heap.size, 0, none⟩) 1 1, .int .i64 0, .slice none 0 0, .int .i64 1, .int .i64 1, .string ⟨#[]⟩, .slice (some ⟨w.heap.size + 1, 0, none⟩) 3 3, .int .i64 0, .slice none 0 0, .int .i64 1, .int .i64 8, .string ⟨#[]⟩, .slice (some ⟨w.heap.size + 1 + 1, 0, none⟩) 1 1, .int .i64 0, .slice none 0 0] 43)).alloc (.cells #[.string ⟨#[99]⟩, .int .i64 3, .int .i64 0, .int .i64 0, .int .i64 2, .int .i64 8] 69)).heap[w.heap.size]? = some (.cells #[.int .u8 1] 5 (0, 0)) := (heap_alloc_old _ _ (by simp <;> omega)).trans ((heap_alloc_old _ _ (by simp <;> omega)).trans ((heap_alloc_old _ _ (by simp <;> omega)).trans (heap_alloc2_old _ _ _)))
      have q1 : (((((w.alloc (.cells #[.int .u8 1] 5)).alloc (.cells #[.int .u8 1, .int .u8 2, .int .u8 3] 5)).alloc (.cells #[.int .u8 4] 5)).alloc (.cells #[.int .i64 4, .int .i64 4, .string ⟨#[]⟩, .slice (some ⟨w.heap.size, 0, none⟩) 1 1, .int .i64 0, .slice none 0 0, .int .i64 1, .int .i64 1, .string ⟨#[]⟩, .slice (some ⟨w.heap.size + 1, 0, none⟩) 3 3, .int .i64 0, .slice none 0 0, .int .i64 1, .int .i64 8, .string ⟨#[]⟩, .slice (some ⟨w.heap.size + 1 + 1, 0, none⟩) 1 1, .int .i64 0, .slice none 0 0] 43)).alloc (.cells #[.string ⟨#[99]⟩, .int .i64 3, .int .i64 0, .int .i64 0, .int .i64 2, .int .i64 8] 69)).heap[w.heap.size + 1]? = some (.cells #[.int .u8 1, .int .u8 2, .int .u8 3] 5 (0, 0)) := (heap_alloc_old _ _ (by simp <;> omega)).trans ((heap_alloc_old _ _ (by simp <;> omega)).trans ((heap_alloc_old _ _ (by simp)).trans (heap_alloc2_new _ _ _)))
      have q2 : (((((w.alloc (.cells #[.int .u8 1] 5)).alloc (.cells #[.int .u8 1, .int .u8 2, .int .u8 3] 5)).alloc (.cells #[.int .u8 4] 5)).alloc (.cells #[.int .i64 4, .int .i64 4, .string ⟨#[]⟩, .slice (some ⟨w.heap.size, 0, none⟩) 1 1, .int .i64 0, .slice none 0 0, .int .i64 1, .int .i64 1, .string ⟨#[]⟩, .slice (some ⟨w.heap.size + 1, 0, none⟩) 3 3, .int .i64 0, .slice none 0 0, .int .i64 1, .int .i64 8, .string ⟨#[]⟩, .slice (some ⟨w.heap.size + 1 + 1, 0, none⟩) 1 1, .int .i64 0, .slice none 0 0] 43)).alloc (.cells #[.string ⟨#[99]⟩, .int .i64 3, .int .i64 0, .int .i64 0, .int .i64 2, .int .i64 8] 69)).heap[w.heap.size + 1 + 1]? = some (.cells #[.int .u8 4] 5 (0, 0)) := (heap_alloc_old _ _ (by simp <;> omega)).trans ((heap_alloc_old _ _ (by simp)).trans (by have := heap_alloc_new ((w.alloc (.cells #[.int .u8 1] 5)).alloc (.cells #[.int .u8 1, .int .u8 2, .int .u8 3] 5)) (.cells #[.int .u8 4] 5); simpa using this))
      have q3 : (((((w.alloc (.cells #[.int .u8 1] 5)).alloc (.cells #[.int .u8 1, .int .u8 2, .int .u8 3] 5)).alloc (.cells #[.int .u8 4] 5)).alloc (.cells #[.int .i64 4, .int .i64 4, .string ⟨#[]⟩, .slice (some ⟨w.heap.size, 0, none⟩) 1 1, .int .i64 0, .slice none 0 0, .int .i64 1, .int .i64 1, .string ⟨#[]⟩, .slice (some ⟨w.heap.size + 1, 0, none⟩) 3 3, .int .i64 0, .slice none 0 0, .int .i64 1, .int .i64 8, .string ⟨#[]⟩, .slice (some ⟨w.heap.size + 1 + 1, 0, none⟩) 1 1, .int .i64 0, .slice none 0 0] 43)).alloc (.cells #[.string ⟨#[99]⟩, .int .i64 3, .int .i64 0, .int .i64 0, .int .i64 2, .int .i64 8] 69)).heap[w.heap.size + 1 + 1 + 1]? = some (.cells #[.int .i64 4, .int .i64 4, .string ⟨#[]⟩, .slice (some ⟨w.heap.size, 0, none⟩) 1 1, .int .i64 0, .slice none 0 0, .int .i64 1, .int .i64 1, .string ⟨#[]⟩, .slice (some ⟨w.heap.size + 1, 0, none⟩) 3 3, .int .i64 0, .slice none 0 0, .int .i64 1, .int .i64 8, .string ⟨#[]⟩, .slice (some ⟨w.heap.size + 1 + 1, 0, none⟩) 1 1, .int .i64 0, .slice none 0 0] 43 (0, 0)) := (heap_alloc_old _ _ (by simp)).trans (by have := heap_alloc_new (((w.alloc (.cells #[.int .u8 1] 5)).alloc (.cells #[.int .u8 1, .int .u8 2, .int .u8 3] 5)).alloc (.cells #[.int .u8 4] 5)) (.cells #[.int .i64 4, .int .i64 4, .string ⟨#[]⟩, .slice (some ⟨w.heap.size, 0, none⟩) 1 1, .int .i64 0, .slice none 0 0, .int .i64 1, .int .i64 1, .string ⟨#[]⟩, .slice (some ⟨w.heap.size + 1, 0, none⟩) 3 3, .int .i64 0, .slice none 0 0, .int .i64 1, .int .i64 8, .string ⟨#[]⟩, .slice (some ⟨w.heap.size + 1 + 1, 0, none⟩) 1 1, .int .i64 0, .slice none 0 0] 43); simpa using this)
      have q4 : (((((w.alloc (.cells #[.int .u8 1] 5)).alloc (.cells #[.int .u8 1, .int .u8 2, .int .u8 3] 5)).alloc (.cells #[.int .u8 4] 5)).alloc (.cells #[.int .i64 4, .int .i64 4, .string ⟨#[]⟩, .slice (some ⟨w.heap.size, 0, none⟩) 1 1, .int .i64 0, .slice none 0 0, .int .i64 1, .int .i64 1, .string ⟨#[]⟩, .slice (some ⟨w.heap.size + 1, 0, none⟩) 3 3, .int .i64 0, .slice none 0 0, .int .i64 1, .int .i64 8, .string ⟨#[]⟩, .slice (some ⟨w.heap.size + 1 + 1, 0, none⟩) 1 1, .int .i64 0, .slice none 0 0] 43)).alloc (.cells #[.string ⟨#[99]⟩, .int .i64 3, .int .i64 0, .int .i64 0, .int .i64 2, .int .i64 8] 69)).heap[w.heap.size + 1 + 1 + 1 + 1]? = some (.cells #[.string ⟨#[99]⟩, .int .i64 3, .int .i64 0, .int .i64 0, .int .i64 2, .int .i64 8] 69 (0, 0)) := by have := heap_alloc_new ((((w.alloc (.cells #[.int .u8 1] 5)).alloc (.cells #[.int .u8 1, .int .u8 2, .int .u8 3] 5)).alloc (.cells #[.int .u8 4] 5)).alloc (.cells #[.int .i64 4, .int .i64 4, .string ⟨#[]⟩, .slice (some ⟨w.heap.size, 0, none⟩) 1 1, .int .i64 0, .slice none 0 0, .int .i64 1, .int .i64 1, .string ⟨#[]⟩, .slice (some ⟨w.heap.size + 1, 0, none⟩) 3 3, .int .i64 0, .slice none 0 0, .int .i64 1, .int .i64 8, .string ⟨#[]⟩, .slice (some ⟨w.heap.size + 1 + 1, 0, none⟩) 1 1, .int .i64 0, .slice none 0 0] 43)) (.cells #[.string ⟨#[99]⟩, .int .i64 3, .int .i64 0, .int .i64 0, .int .i64 2, .int .i64 8] 69); simpa using this
      obtain ⟨hF, hD⟩ := closed_lay q0 q1 q2 q3 q4
      have hB : Below (((((w.alloc (.cells #[.int .u8 1] 5)).alloc (.cells #[.int .u8 1, .int .u8 2, .int .u8 3] 5)).alloc (.cells #[.int .u8 4] 5)).alloc (.cells #[.int .i64 4, .int .i64 4, .string ⟨#[]⟩, .slice (some ⟨w.heap.size, 0, none⟩) 1 1, .int .i64 0, .slice none 0 0, .int .i64 1, .int .i64 1, .string ⟨#[]⟩, .slice (some ⟨w.heap.size + 1, 0, none⟩) 3 3, .int .i64 0, .slice none 0 0, .int .i64 1, .int .i64 8, .string ⟨#[]⟩, .slice (some ⟨w.heap.size + 1 + 1, 0, none⟩) 1 1, .int .i64 0, .slice none 0 0] 43)).alloc (.cells #[.string ⟨#[99]⟩, .int .i64 3, .int .i64 0, .int .i64 0, .int .i64 2, .int .i64 8] 69)).heap.size (((((w.alloc (.cells #[.int .u8 1] 5)).alloc (.cells #[.int .u8 1, .int .u8 2, .int .u8 3] 5)).alloc (.cells #[.int .u8 4] 5)).alloc (.cells #[.int .i64 4, .int .i64 4, .string ⟨#[]⟩, .slice (some ⟨w.heap.size, 0, none⟩) 1 1, .int .i64 0, .slice none 0 0, .int .i64 1, .int .i64 1, .string ⟨#[]⟩, .slice (some ⟨w.heap.size + 1, 0, none⟩) 3 3, .int .i64 0, .slice none 0 0, .int .i64 1, .int .i64 8, .string ⟨#[]⟩, .slice (some ⟨w.heap.size + 1 + 1, 0, none⟩) 1 1, .int .i64 0, .slice none 0 0] 43)).alloc (.cells #[.string ⟨#[99]⟩, .int .i64 3, .int .i64 0, .int .i64 0, .int .i64 2, .int .i64 8] 69)) ((((((w.alloc (.cells #[.int .u8 1] 5)).alloc (.cells #[.int .u8 1, .int .u8 2, .int .u8 3] 5)).alloc (.cells #[.int .u8 4] 5)).alloc (.cells #[.int .i64 4, .int .i64 4, .string ⟨#[]⟩, .slice (some ⟨w.heap.size, 0, none⟩) 1 1, .int .i64 0, .slice none 0 0, .int .i64 1, .int .i64 1, .string ⟨#[]⟩, .slice (some ⟨w.heap.size + 1, 0, none⟩) 3 3, .int .i64 0, .slice none 0 0, .int .i64 1, .int .i64 8, .string ⟨#[]⟩, .slice (some ⟨w.heap.size + 1 + 1, 0, none⟩) 1 1, .int .i64 0, .slice none 0 0] 43)).alloc (.cells #[.string ⟨#[99]⟩, .int .i64 3, .int .i64 0, .int .i64 0, .int .i64 2, .int .i64 8] 69)).alloc (.cells #[.slice (some ⟨w.heap.size + 1 + 1 + 1, 0, none⟩) 3 3, .slice (some ⟨w.heap.size + 1 + 1 + 1 + 1, 0, none⟩) 1 1] 25)) := (Below.refl _ _).alloc (Nat.le_refl _) _
      exact ⟨hF.later hB, hD.later hB, ((((((Below.refl _ _).alloc (Nat.le_refl _) _).alloc (by simp) _).alloc (by simp; omega) _).alloc (by simp; omega) _).alloc (by simp; omega) _).alloc (by simp; omega) _⟩
  obtain ⟨X, hX, hv, hF, hD, hB⟩ := HC.out
  rw [← hX]
  clear hX HC
  have HB : Hid (Below w.heap.size w X) := hB
  have HV : Hid (∀ W, Below X.heap.size X W → W.cell? ⟨w.heap.size + 1 + 1 + 1 + 1 + 1, 0, none⟩ = some (.slice (some ⟨w.heap.size + 1 + 1 + 1, 0, none⟩) 3 3) ∧ W.cell? ⟨w.heap.size + 1 + 1 + 1 + 1 + 1, 1, none⟩ = some (.slice (some ⟨w.heap.size + 1 + 1 + 1 + 1, 0, none⟩) 1 1) ∧ w.heap.size + 1 + 1 + 1 + 1 + 1 < W.heap.size ∧ FragsAt W (.slice (some ⟨w.heap.size + 1 + 1 + 1, 0, none⟩) 3 3) M.prtL.frags ∧ DefsAt W (.slice (some ⟨w.heap.size + 1 + 1 + 1 + 1, 0, none⟩) 1 1) M.prtL.defs) := fun W hW => by
    have y := (hW.block _ (Array.getElem?_eq_some_iff.1 hv).1).trans hv
    exact ⟨cellB y 0, cellB y 1, (Array.getElem?_eq_some_iff.1 y).1, hF.later hW, hD.later hW⟩
  clear hv hF hD hB
  have KL : Hid (Calls Try.prog 28 #[.agg #[.slice (some ⟨w.heap.size + 1 + 1 + 1, 0, none⟩) 3 3, .slice (some ⟨w.heap.size + 1 + 1 + 1 + 1, 0, none⟩) 1 1], .int .i64 5] X fun e w' => Below X.heap.size X w' ∧ ∃ xf yf xn yn xc yc, e = .returned (.tuple #[.agg #[.slice xf 3 yf, .slice xn 1 yn, .slice xc 1 yc, .int .i64 0, .int .i64 16, .int .i64 32, .int .i64 32, .int .i64 32, .int .i64 48, .int .i64 0, .int .i64 25, .int .i64 32, .int .i64 32, .int .i64 33, .int .i64 50], .int .i64 0]) ∧ IntsAt w' (.slice xf 3 yf) [32, 16, 24] ∧ StrsAt w' (.slice xn 1 yn) [M.tC] ∧ IntsAt w' (.slice xc 1 yc) [48]) := by
    obtain ⟨_, _, _, hF, hD⟩ := HV.out X (Below.refl _ _)
    refine (lay_any M.prtL 5 (some ⟨w.heap.size + 1 + 1 + 1, 0, none⟩) (some ⟨w.heap.size + 1 + 1 + 1 + 1, 0, none⟩) 3 1 X hF hD).mono ?_
    rintro e w' ⟨hb, vF, vN, vC, rfl, h1, h2, h3⟩
    obtain ⟨l0, l1, l2, l3, l4, l5⟩ := M.layL
    rw [l1] at h1
    rw [l2] at h2
    rw [l3] at h3
    obtain ⟨xf, yf, rfl, _⟩ := SlAt.form h1
    obtain ⟨xn, yn, rfl, _⟩ := SlAt.form h2.1
    obtain ⟨xc, yc, rfl, _⟩ := SlAt.form h3
    refine ⟨hb, xf, yf, xn, yn, xc, yc, ?_, h1, h2, h3⟩
    obtain ⟨f0, f1, f2, f3, f4, f5⟩ := M.frL
    obtain ⟨t0, t1, t2, t3, t4, t5⟩ := M.tiL
    rw [l0, l4, l5]
    unfold layArr
    rw [f0, f1, f2, f3, f4, f5, t0, t1, t2, t3, t4, t5]
    rfl
  obtain ⟨c0, c1, hlp, _, _⟩ := HV.out X (Below.refl _ _)
  go_upto_region 3 with (go_at_call 28; refine KL.out.mono ?_; rintro e w1 ⟨hb1, xf, yf, xn, yn, xc, yc, rfl, hI, hS, hC⟩)
  have HB1 : Hid (Below X.heap.size X (w1.alloc (.cells #[.slice xf 3 yf, .slice xn 1 yn, .slice xc 1 yc, .int .i64 0, .int .i64 16, .int .i64 32, .int .i64 32, .int .i64 32, .int .i64 48, .int .i64 0, .int .i64 25, .int .i64 32, .int .i64 32, .int .i64 33, .int .i64 50] 55))) := hb1.alloc hb1.size _
  have hB1' : Below w1.heap.size w1 (w1.alloc (.cells #[.slice xf 3 yf, .slice xn 1 yn, .slice xc 1 yc, .int .i64 0, .int .i64 16, .int .i64 32, .int .i64 32, .int .i64 32, .int .i64 48, .int .i64 0, .int .i64 25, .int .i64 32, .int .i64 32, .int .i64 33, .int .i64 50] 55)) := (Below.refl _ _).alloc (Nat.le_refl _) _
  have x2 := heap_alloc_new w1 (.cells #[.slice xf 3 yf, .slice xn 1 yn, .slice xc 1 yc, .int .i64 0, .int .i64 16, .int .i64 32, .int .i64 32, .int .i64 32, .int .i64 48, .int .i64 0, .int .i64 25, .int .i64 32, .int .i64 32, .int .i64 33, .int .i64 50] 55)
  have hI2 := hI.later hB1'
  have hS2 := hS.later hB1'
  have hC2 := hC.later hB1'
  clear hI hS hC hB1' hb1 KL c0 c1 hlp
  generalize w1.alloc (.cells #[.slice xf 3 yf, .slice xn 1 yn, .slice xc 1 yc, .int .i64 0, .int .i64 16, .int .i64 32, .int .i64 32, .int .i64 32, .int .i64 48, .int .i64 0, .int .i64 25, .int .i64 32, .int .i64 32, .int .i64 33, .int .i64 50] 55) = X1 at *
  generalize w1.heap.size = n2 at *
  obtain ⟨c0, c1, hlp, hF1, hD1⟩ := HV.out X1 HB1.out
  have KW : Hid (Calls Try.prog 67 #[.agg #[.slice (some ⟨w.heap.size + 1 + 1 + 1, 0, none⟩) 3 3, .slice (some ⟨w.heap.size + 1 + 1 + 1 + 1, 0, none⟩) 1 1], .agg #[.slice xf 3 yf, .slice xn 1 yn, .slice xc 1 yc, .int .i64 0, .int .i64 16, .int .i64 32, .int .i64 32, .int .i64 32, .int .i64 48, .int .i64 0, .int .i64 25, .int .i64 32, .int .i64 32, .int .i64 33, .int .i64 50], .string ⟨#[99]⟩] X1 _) := where_one M.prtL M.tC _ 48 (some ⟨w.heap.size + 1 + 1 + 1, 0, none⟩) (some ⟨w.heap.size + 1 + 1 + 1 + 1, 0, none⟩) 3 1 _ xn xc yn yc _ _ _ _ _ _ _ _ _ _ _ _ X1 hF1 hD1 hS2 hC2 M.checkL M.findL rfl
  have hsl : (Try.prog.info? 55).map (·.size) = some (#[.slice xf 3 yf, .slice xn 1 yn, .slice xc 1 yc, .int .i64 0, .int .i64 16, .int .i64 32, .int .i64 32, .int .i64 32, .int .i64 48, .int .i64 0, .int .i64 25, .int .i64 32, .int .i64 32, .int .i64 33, .int .i64 50] : Array Value).size := by kernel_rfl
  have HX2 : Hid (∀ W, Below X1.heap.size X1 W → W.heap[n2]? = some (.cells #[.slice xf 3 yf, .slice xn 1 yn, .slice xc 1 yc, .int .i64 0, .int .i64 16, .int .i64 32, .int .i64 32, .int .i64 32, .int .i64 48, .int .i64 0, .int .i64 25, .int .i64 32, .int .i64 32, .int .i64 33, .int .i64 50] 55 (0, 0)) ∧ IntsAt W (.slice xf 3 yf) [32, 16, 24]) := fun W hW => ⟨(hW.block _ (Array.getElem?_eq_some_iff.1 x2).1).trans x2, hI2.later hW⟩
  clear hF1 hD1 hS2 hC2 hI2
  go_upto_region 4 with (first | (refine wpList_load_row rfl 55 _ rfl n2 rfl 55 #[.slice xf 3 yf, .slice xn 1 yn, .slice xc 1 yc, .int .i64 0, .int .i64 16, .int .i64 32, .int .i64 32, .int .i64 32, .int .i64 48, .int .i64 0, .int .i64 25, .int .i64 32, .int .i64 32, .int .i64 33, .int .i64 50] (0, 0) _ x2 Try.underlying55 rfl hsl ?_) | (go_at_call 67; refine KW.out.mono ?_; rintro e X2 ⟨rfl, hb2⟩))
  obtain ⟨y2, hI3⟩ := HX2.out X2 hb2
  have HX3 : Hid (Below w.heap.size w X2) := HB.out.trans ((HB1.out.trans (hb2.mono HB1.out.size)).mono HB.out.size)
  have hln : n2 < X2.heap.size := (Array.getElem?_eq_some_iff.1 y2).1
  have g0 : X2.cell? ⟨n2, 0, none⟩ = some (.slice xf 3 yf) := cellB y2 0
  have g1 : X2.cell? ⟨n2, 1, none⟩ = some (.slice xn 1 yn) := cellB y2 1
  have g2 : X2.cell? ⟨n2, 2, none⟩ = some (.slice xc 1 yc) := cellB y2 2
  have g3 : X2.cell? ⟨n2, 3, none⟩ = some (.int .i64 0) := cellB y2 3
  have g4 : X2.cell? ⟨n2, 4, none⟩ = some (.int .i64 16) := cellB y2 4
  have g5 : X2.cell? ⟨n2, 5, none⟩ = some (.int .i64 32) := cellB y2 5
  have g6 : X2.cell? ⟨n2, 6, none⟩ = some (.int .i64 32) := cellB y2 6
  have g7 : X2.cell? ⟨n2, 7, none⟩ = some (.int .i64 32) := cellB y2 7
  have g8 : X2.cell? ⟨n2, 8, none⟩ = some (.int .i64 48) := cellB y2 8
  have g9 : X2.cell? ⟨n2, 9, none⟩ = some (.int .i64 0) := cellB y2 9
  have g10 : X2.cell? ⟨n2, 10, none⟩ = some (.int .i64 25) := cellB y2 10
  have g11 : X2.cell? ⟨n2, 11, none⟩ = some (.int .i64 32) := cellB y2 11
  have g12 : X2.cell? ⟨n2, 12, none⟩ = some (.int .i64 32) := cellB y2 12
  have g13 : X2.cell? ⟨n2, 13, none⟩ = some (.int .i64 33) := cellB y2 13
  have g14 : X2.cell? ⟨n2, 14, none⟩ = some (.int .i64 50) := cellB y2 14
  have hbg : Hid (Below X2.heap.size X2 (X2.alloc (.cells #[.int .i64 32, .int .i64 16, .int .i64 24] 3))) := (Below.refl _ _).alloc (Nat.le_refl _) _
  have hg : IntsAt (X2.alloc (.cells #[.int .i64 32, .int .i64 16, .int .i64 24] 3)) (.slice (some ⟨X2.heap.size, 0, none⟩) 3 3) [32, 16, 24] :=
    row_ints (B := 0) ⟨rfl, .inr ⟨_, _, _, rfl, Nat.zero_le _, heap_alloc_new X2 _, Nat.le_refl _, by unfold maxLen; decide, rfl, rfl⟩⟩
  have KE : Hid (Calls Try.prog 68 #[.slice xf 3 yf, .slice (some ⟨X2.heap.size, 0, none⟩) 3 3] (X2.alloc (.cells #[.int .i64 32, .int .i64 16, .int .i64 24] 3)) fun e w' => e = .returned (.bool true) ∧ Below (X2.alloc (.cells #[.int .i64 32, .int .i64 16, .int .i64 24] 3)).heap.size (X2.alloc (.cells #[.int .i64 32, .int .i64 16, .int .i64 24] 3)) w') := by
    have := equalI_any [32, 16, 24] [32, 16, 24] xf (some ⟨X2.heap.size, 0, none⟩) yf 3 _ (hI3.later hbg.out) hg
    rwa [show sameInts [32, 16, 24] [32, 16, 24] = true by decide +kernel] at this
  clear hI3 hg y2 HX2 KW x2 HB HB1 HV c0 c1
  have hq1 := eq_froms
  have hq2 := eq_tills
  have u3 := Try.underlying3
  go_wp2_with (go_at_call 68; refine KE.out.mono ?_; rintro e w5 ⟨rfl, hb5⟩; have e3 := cell_later (hbg.out.trans (hb5.mono hbg.out.size)) g3; have e4 := cell_later (hbg.out.trans (hb5.mono hbg.out.size)) g4; have e5 := cell_later (hbg.out.trans (hb5.mono hbg.out.size)) g5; have e6 := cell_later (hbg.out.trans (hb5.mono hbg.out.size)) g6; have e7 := cell_later (hbg.out.trans (hb5.mono hbg.out.size)) g7; have e8 := cell_later (hbg.out.trans (hb5.mono hbg.out.size)) g8; have e9 := cell_later (hbg.out.trans (hb5.mono hbg.out.size)) g9; have e10 := cell_later (hbg.out.trans (hb5.mono hbg.out.size)) g10; have e11 := cell_later (hbg.out.trans (hb5.mono hbg.out.size)) g11; have e12 := cell_later (hbg.out.trans (hb5.mono hbg.out.size)) g12; have e13 := cell_later (hbg.out.trans (hb5.mono hbg.out.size)) g13; have e14 := cell_later (hbg.out.trans (hb5.mono hbg.out.size)) g14; have l5 := Nat.lt_of_lt_of_le hln (hbg.out.trans (hb5.mono hbg.out.size)).size)
  go_ret
  exact ⟨rfl, HX3.out.trans ((hbg.out.trans (hb5.mono hbg.out.size)).mono HX3.out.size)⟩

end Go.Proofs.Ytebhbhbhcoijpaa
