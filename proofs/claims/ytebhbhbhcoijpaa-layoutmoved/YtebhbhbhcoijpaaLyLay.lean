/-
  The contract of layout.Lay.
-/
import Derived.Test.YtebhbhbhcoijpaaLyMem
import Derived.Laws.OwnMore
import Derived.Test.YtebhbhbhcoijpaaPrtMem
namespace Go.Proofs.Ytebhbhbhcoijpaa
open Go Go.RowKit
set_option linter.unusedVariables false

theorem made_ints (n : Nat) : (madeCells (Value.int .i64 0).cells (n * 1)).toList = (List.replicate n (0 : Int)).map (Value.int .i64) := by
  refine List.ext_getElem (by simp [madeCells]) fun i h1 h2 => ?_
  simp [madeCells, Value.cells, Nat.mod_one]

/-- Lay's results -/
theorem res_lay {W : World} {tmps : Array Value} {g : Nat} {cs : Array Value} {er : Value} (hp : tmps.getD 4 undef = .pointer (some ⟨g, 0, none⟩)) (hq : tmps.getD 5 undef = er) (hg : W.heap[g]? = some (.cells cs 55 (0, 0))) (hs : cs.size = 15) :
    (results Try.f28 tmps).run Try.prog W = .ok (.tuple #[.agg cs, er]) W := by
  have hp' : tmps[4]?.getD undef = .pointer (some ⟨g, 0, none⟩) := by simpa using hp
  have hq' : tmps[5]?.getD undef = er := by simpa using hq
  have hi : (Try.prog.info? 55).map (·.size) = some cs.size := by rw [hs]; kernel_rfl
  simp [results, Try.results28, hp', hq', asAddr, run_loadVar_row W g 55 55 cs (0, 0) _ hg Try.underlying55 rfl hi]

/-- the common names' rows, behind the last section -/
def NC (W : World) (p : M.Prt) (base : Int) (b k : Nat) (vN vC : Value) : Prop :=
  (k < 5 → vN = .slice none 0 0 ∧ vC = .slice none 0 0) ∧
  (k = 5 → (∃ B, b < B ∧ W.ownsRow B 9 1 vN (M.commons p (M.secN p.frags base 5).2).names.length ((M.commons p (M.secN p.frags base 5).2).names.map Value.string) ∧ W.ownsRow B 3 1 vC (M.commons p (M.secN p.frags base 5).2).at_.length ((M.commons p (M.secN p.frags base 5).2).at_.map (Value.int .i64))) ∧ ∀ x ∈ (M.commons p (M.secN p.frags base 5).2).names, x.size ≤ maxLen)

theorem ix5n0 (a b c d e : Value) (w : World) : (Instr.index 106 (.agg #[a, b, c, d, e]) (.int .i64 ((0 : Nat) : Int))).run Try.prog w = .ok a w := by kernel_rfl
theorem ix5l0 (a b c d e : Value) (w : World) : (Instr.index 106 (.agg #[a, b, c, d, e]) (.int .i64 0)).run Try.prog w = .ok a w := by kernel_rfl
theorem ix5n1 (a b c d e : Value) (w : World) : (Instr.index 106 (.agg #[a, b, c, d, e]) (.int .i64 ((1 : Nat) : Int))).run Try.prog w = .ok b w := by kernel_rfl
theorem ix5l1 (a b c d e : Value) (w : World) : (Instr.index 106 (.agg #[a, b, c, d, e]) (.int .i64 1)).run Try.prog w = .ok b w := by kernel_rfl
theorem ix5n2 (a b c d e : Value) (w : World) : (Instr.index 106 (.agg #[a, b, c, d, e]) (.int .i64 ((2 : Nat) : Int))).run Try.prog w = .ok c w := by kernel_rfl
theorem ix5l2 (a b c d e : Value) (w : World) : (Instr.index 106 (.agg #[a, b, c, d, e]) (.int .i64 2)).run Try.prog w = .ok c w := by kernel_rfl
theorem ix5n3 (a b c d e : Value) (w : World) : (Instr.index 106 (.agg #[a, b, c, d, e]) (.int .i64 ((3 : Nat) : Int))).run Try.prog w = .ok d w := by kernel_rfl
theorem ix5l3 (a b c d e : Value) (w : World) : (Instr.index 106 (.agg #[a, b, c, d, e]) (.int .i64 3)).run Try.prog w = .ok d w := by kernel_rfl
theorem ix5n4 (a b c d e : Value) (w : World) : (Instr.index 106 (.agg #[a, b, c, d, e]) (.int .i64 ((4 : Nat) : Int))).run Try.prog w = .ok e w := by kernel_rfl
theorem ix5l4 (a b c d e : Value) (w : World) : (Instr.index 106 (.agg #[a, b, c, d, e]) (.int .i64 4)).run Try.prog w = .ok e w := by kernel_rfl
attribute [local go_sem high] ix5n0 ix5l0 ix5n1 ix5l1 ix5n2 ix5l2 ix5n3 ix5l3 ix5n4 ix5l4

theorem gb_setRow (w : World) (g : Nat) (cs : Array Value) : w.grownBy (w.setRow g cs) (some g) := ⟨rfl, rfl, rfl, by simp, fun k hk hne => setRow_other w g k cs (fun e => hne (by rw [e]))⟩

theorem textOk_of {w : World} {a : Option Addr} {c : Nat} {fs : List M.Frg} (h : FragsAt w (.slice a fs.length c) fs) (hs : ∀ f ∈ fs, M.shaped f = 0) : ∀ f ∈ fs, M.FrgOk f ∧ TextOk f.bytes f.align := fun f hf => by
  obtain ⟨j, hj, rfl⟩ := List.getElem_of_mem hf
  obtain ⟨b, off, ab, cb, ar, cr, _, _, _, _, _, _, _, hBy, _⟩ := h.cells j hj
  have e : fs.getD j frg0 = fs[j] := by rw [List.getD_eq_getElem?_getD, List.getElem?_eq_getElem hj]; rfl
  rw [e] at hBy
  have ho := M.frgOk_of (hs _ hf)
  have hp := ho.align.pos
  exact ⟨ho, (len_ok _ (hs _ hf)).1, hBy.2, wf_small (by omega) (by omega)⟩

set_option maxHeartbeats 16000000 in
set_option maxRecDepth 100000 in
theorem lay_any (p : M.Prt) (base : Int) (a1 a2 : Option Addr) (c1 c2 : Nat) (w : World) (hf : FragsAt w (.slice a1 p.frags.length c1) p.frags) (hd : DefsAt w (.slice a2 p.defs.length c2) p.defs) :
    Calls Try.prog 28 #[.agg #[.slice a1 p.frags.length c1, .slice a2 p.defs.length c2], .int .i64 base] w fun e w' => Below w.heap.size w w' ∧ ∃ vF vN vC, e = .returned (.tuple #[.agg (layArr vF vN vC (M.lay p base).1.fr (M.lay p base).1.ti), .int .i64 (M.lay p base).2]) ∧
      IntsAt w' vF (M.lay p base).1.frags ∧ StrsAt w' vN (M.lay p base).1.names ∧ IntsAt w' vC (M.lay p base).1.coms := by
  obtain ⟨i1, hi1, hy0, hy1, hy2⟩ := info_parts (P := Try.prog) (e := 3) (z := .int .i64 0) (size := 1) (bytes := 8) (by kernel_rfl)
  have hA : Below w.heap.size w ((w.alloc (.cells #[.slice a1 p.frags.length c1, .slice a2 p.defs.length c2] 25)).alloc (.cells layZ 55)) := ((Below.refl _ _).alloc (Nat.le_refl _) _).alloc (by simp) _
  have Q0 : ((w.alloc (.cells #[.slice a1 p.frags.length c1, .slice a2 p.defs.length c2] 25)).alloc (.cells layZ 55)).heap[w.heap.size]? = some (.cells #[.slice a1 p.frags.length c1, .slice a2 p.defs.length c2] 25 (0, 0)) := heap_alloc2_old _ _ _
  have Q1 : ((w.alloc (.cells #[.slice a1 p.frags.length c1, .slice a2 p.defs.length c2] 25)).alloc (.cells layZ 55)).heap[w.heap.size + 1]? = some (.cells layZ 55 (0, 0)) := heap_alloc2_new _ _ _
  have HFD : Hid (∀ W, Below w.heap.size w W → FragsAt W (.slice a1 p.frags.length c1) p.frags ∧ DefsAt W (.slice a2 p.defs.length c2) p.defs) := fun W hW => ⟨hf.later hW, hd.later hW⟩
  have KC : Hid (∀ W, Below w.heap.size w W → Calls Try.prog 13 #[.agg #[.slice a1 p.frags.length c1, .slice a2 p.defs.length c2]] W fun e w' => e = .returned (.int .i64 (M.checkPart p)) ∧ Below W.heap.size W w') := fun W hW => check_any p.frags p.defs _ _ _ _ _ (hf.later hW) (hd.later hW)
  have HT : Hid (M.checkPart p = 0 → ∀ f ∈ p.frags, M.FrgOk f ∧ TextOk f.bytes f.align) := fun h => textOk_of hf ((M.ok_iff p).1 h).shape
  clear hf hd
  unfold layZ at hA Q0 Q1
  go_enter Try.func28, Try.ntmps28
  go_upto_region 2 with (go_at_call 13; refine (KC.out _ hA).mono ?_; rintro e X ⟨rfl, hx⟩)
  have HX : Hid (Below w.heap.size w X) := hA.trans (hx.mono hA.size)
  have q0 := (hx.block _ (Array.getElem?_eq_some_iff.1 Q0).1).trans Q0
  have q1 := (hx.block _ (Array.getElem?_eq_some_iff.1 Q1).1).trans Q1
  clear hx KC hA Q0 Q1
  have hlX : w.heap.size + 1 < X.heap.size := (Array.getElem?_eq_some_iff.1 q1).1
  have HLY : Hid (M.lay p base = if M.checkPart p = 0 then (if base < 0 ∨ 65536 ≤ base then (M.lay0, 3) else if 65536 < M.tillOf p base 5 then (M.lay0, 10) else (M.layAll p base, 0)) else (M.lay0, M.checkPart p)) := rfl
  have h1z : (#[.slice none 0 0, .slice none 0 0, .slice none 0 0, .int .i64 0, .int .i64 0, .int .i64 0, .int .i64 0, .int .i64 0, .int .i64 0, .int .i64 0, .int .i64 0, .int .i64 0, .int .i64 0, .int .i64 0, .int .i64 0] : Array Value).all (·.oneCell') = true := by kernel_rfl
  have hsi : (Try.prog.info? 55).map (·.size) = some (#[.slice none 0 0, .slice none 0 0, .slice none 0 0, .int .i64 0, .int .i64 0, .int .i64 0, .int .i64 0, .int .i64 0, .int .i64 0, .int .i64 0, .int .i64 0, .int .i64 0, .int .i64 0, .int .i64 0, .int .i64 0] : Array Value).size := by kernel_rfl
  by_cases hck : M.checkPart p = 0
  case neg =>
    have HE : Hid (M.lay p base = (M.lay0, M.checkPart p)) := by rw [Hid, HLY.out, if_neg hck]
    have hne : (M.checkPart p != 0) = true := by simpa using hck
    have HZ1 : Hid ((X.setRow (w.heap.size + 1) #[.slice none 0 0, .slice none 0 0, .slice none 0 0, .int .i64 0, .int .i64 0, .int .i64 0, .int .i64 0, .int .i64 0, .int .i64 0, .int .i64 0, .int .i64 0, .int .i64 0, .int .i64 0, .int .i64 0, .int .i64 0]).heap[w.heap.size + 1]? = some (.cells #[.slice none 0 0, .slice none 0 0, .slice none 0 0, .int .i64 0, .int .i64 0, .int .i64 0, .int .i64 0, .int .i64 0, .int .i64 0, .int .i64 0, .int .i64 0, .int .i64 0, .int .i64 0, .int .i64 0, .int .i64 0] 55 (0, 0))) := setRow_heap _ _ _ _ _ _ q1
    have HB1 : Hid (Below w.heap.size w (X.setRow (w.heap.size + 1) #[.slice none 0 0, .slice none 0 0, .slice none 0 0, .int .i64 0, .int .i64 0, .int .i64 0, .int .i64 0, .int .i64 0, .int .i64 0, .int .i64 0, .int .i64 0, .int .i64 0, .int .i64 0, .int .i64 0, .int .i64 0])) := below_setRow HX.out (by omega)
    clear HLY hck HT HFD HX q0
    generalize M.checkPart p = er at *
    go_wp2_with (refine wpList_store_row rfl 55 _ _ rfl (w.heap.size + 1) #[.slice none 0 0, .slice none 0 0, .slice none 0 0, .int .i64 0, .int .i64 0, .int .i64 0, .int .i64 0, .int .i64 0, .int .i64 0, .int .i64 0, .int .i64 0, .int .i64 0, .int .i64 0, .int .i64 0, .int .i64 0] rfl rfl 55 #[.slice none 0 0, .slice none 0 0, .slice none 0 0, .int .i64 0, .int .i64 0, .int .i64 0, .int .i64 0, .int .i64 0, .int .i64 0, .int .i64 0, .int .i64 0, .int .i64 0, .int .i64 0, .int .i64 0, .int .i64 0] q1 hsi rfl h1z ?_)
    refine bodyPost_ret (v := .tuple #[.agg #[.slice none 0 0, .slice none 0 0, .slice none 0 0, .int .i64 0, .int .i64 0, .int .i64 0, .int .i64 0, .int .i64 0, .int .i64 0, .int .i64 0, .int .i64 0, .int .i64 0, .int .i64 0, .int .i64 0, .int .i64 0], .int .i64 er]) (res_lay (g := w.heap.size + 1) rfl rfl HZ1.out rfl) rfl ?_
    rw [HE.out]
    exact ⟨HB1.out, .slice none 0 0, .slice none 0 0, .slice none 0 0, rfl, ints_nil _, strs_nil _, ints_nil _⟩
  case pos =>
    have hn0 : M.checkPart p = 0 := hck
    by_cases hbs : base < 0 ∨ 65536 ≤ base
    · have HE : Hid (M.lay p base = (M.lay0, 3)) := by rw [Hid, HLY.out, if_pos hck, if_pos hbs]
      have HZ1 : Hid ((X.setRow (w.heap.size + 1) #[.slice none 0 0, .slice none 0 0, .slice none 0 0, .int .i64 0, .int .i64 0, .int .i64 0, .int .i64 0, .int .i64 0, .int .i64 0, .int .i64 0, .int .i64 0, .int .i64 0, .int .i64 0, .int .i64 0, .int .i64 0]).heap[w.heap.size + 1]? = some (.cells #[.slice none 0 0, .slice none 0 0, .slice none 0 0, .int .i64 0, .int .i64 0, .int .i64 0, .int .i64 0, .int .i64 0, .int .i64 0, .int .i64 0, .int .i64 0, .int .i64 0, .int .i64 0, .int .i64 0, .int .i64 0] 55 (0, 0))) := setRow_heap _ _ _ _ _ _ q1
      have HB1 : Hid (Below w.heap.size w (X.setRow (w.heap.size + 1) #[.slice none 0 0, .slice none 0 0, .slice none 0 0, .int .i64 0, .int .i64 0, .int .i64 0, .int .i64 0, .int .i64 0, .int .i64 0, .int .i64 0, .int .i64 0, .int .i64 0, .int .i64 0, .int .i64 0, .int .i64 0])) := below_setRow HX.out (by omega)
      rw [hn0]
      clear HLY hck HT HFD HX q0 hn0
      by_cases hb : base < 0
      · go_wp2_with (refine wpList_store_row rfl 55 _ _ rfl (w.heap.size + 1) #[.slice none 0 0, .slice none 0 0, .slice none 0 0, .int .i64 0, .int .i64 0, .int .i64 0, .int .i64 0, .int .i64 0, .int .i64 0, .int .i64 0, .int .i64 0, .int .i64 0, .int .i64 0, .int .i64 0, .int .i64 0] rfl rfl 55 #[.slice none 0 0, .slice none 0 0, .slice none 0 0, .int .i64 0, .int .i64 0, .int .i64 0, .int .i64 0, .int .i64 0, .int .i64 0, .int .i64 0, .int .i64 0, .int .i64 0, .int .i64 0, .int .i64 0, .int .i64 0] q1 hsi rfl h1z ?_)
        refine bodyPost_ret (v := .tuple #[.agg #[.slice none 0 0, .slice none 0 0, .slice none 0 0, .int .i64 0, .int .i64 0, .int .i64 0, .int .i64 0, .int .i64 0, .int .i64 0, .int .i64 0, .int .i64 0, .int .i64 0, .int .i64 0, .int .i64 0, .int .i64 0], .int .i64 3]) (res_lay (g := w.heap.size + 1) rfl rfl HZ1.out rfl) rfl ?_
        rw [HE.out]
        exact ⟨HB1.out, .slice none 0 0, .slice none 0 0, .slice none 0 0, rfl, ints_nil _, strs_nil _, ints_nil _⟩
      · have hb1 : decide (base < 0) = false := by simpa using hb
        have hb2 : (65536 : Int) ≤ base := by omega
        go_wp2_with (refine wpList_store_row rfl 55 _ _ rfl (w.heap.size + 1) #[.slice none 0 0, .slice none 0 0, .slice none 0 0, .int .i64 0, .int .i64 0, .int .i64 0, .int .i64 0, .int .i64 0, .int .i64 0, .int .i64 0, .int .i64 0, .int .i64 0, .int .i64 0, .int .i64 0, .int .i64 0] rfl rfl 55 #[.slice none 0 0, .slice none 0 0, .slice none 0 0, .int .i64 0, .int .i64 0, .int .i64 0, .int .i64 0, .int .i64 0, .int .i64 0, .int .i64 0, .int .i64 0, .int .i64 0, .int .i64 0, .int .i64 0, .int .i64 0] q1 hsi rfl h1z ?_)
        refine bodyPost_ret (v := .tuple #[.agg #[.slice none 0 0, .slice none 0 0, .slice none 0 0, .int .i64 0, .int .i64 0, .int .i64 0, .int .i64 0, .int .i64 0, .int .i64 0, .int .i64 0, .int .i64 0, .int .i64 0, .int .i64 0, .int .i64 0, .int .i64 0], .int .i64 3]) (res_lay (g := w.heap.size + 1) rfl rfl HZ1.out rfl) rfl ?_
        rw [HE.out]
        exact ⟨HB1.out, .slice none 0 0, .slice none 0 0, .slice none 0 0, rfl, ints_nil _, strs_nil _, ints_nil _⟩
    · have hok := (M.ok_iff p).1 hck
      have hnf := hok.nf
      have HOk : Hid (∀ f ∈ p.frags, M.FrgOk f ∧ TextOk f.bytes f.align) := HT.out hck
      have HCk : Hid (M.checkPart p = 0) := hck
      have HPos : Hid (∀ k : Nat, base ≤ (M.secN p.frags base k).2 ∧ (M.secN p.frags base k).2 ≤ base + 4275 * k) := M.secN_pos (fun f hf => (HOk.out f hf).1) hnf (by omega)
      have HE : Hid (M.lay p base = if 65536 < M.tillOf p base 5 then (M.lay0, 10) else (M.layAll p base, 0)) := by rw [Hid, HLY.out, if_pos hck, if_neg hbs]
      have hb0 : decide (base < 0) = false := by simp; omega
      have hb6 : decide ((65536 : Int) ≤ base) = false := by simp; omega
      have hb00 : 0 ≤ base := by omega
      have hb66 : base < 65536 := by omega
      have cp0 : X.cell? ⟨w.heap.size, 0, none⟩ = some (.slice a1 p.frags.length c1) := cellB q0 0
      obtain ⟨w1, hmk, hrow, hgr⟩ := run_makeSlice_full X (w.heap.size + 1 + 1) 52 3 i1 (.int .i64 0) 1 Try.underlying52 hi1 hy0 hy1 .i64 .i64 p.frags.length (by omega) (by rw [hy2]; omega) (by unfold maxLen; omega) (by omega)
      rw [made_ints] at hrow
      have r0 := (hgr.block _ (Array.getElem?_eq_some_iff.1 q0).1 (by simp)).trans q0
      have r1 := (hgr.block _ (Array.getElem?_eq_some_iff.1 q1).1 (by simp)).trans q1
      have HB1 : Hid (Below w.heap.size w w1) := HX.out.grown hgr HX.out.size (fun k hk => by cases hk)
      rw [hn0]
      clear HLY hck HT hbs q0 hok hn0 hgr HX
      go_upto_region 9 with fail
      have HI0 : Hid (YI w (w1.alloc (.cells #[.slice (some ⟨X.heap.size, 0, none⟩) p.frags.length p.frags.length, .slice none 0 0, .slice none 0 0, .int .i64 0, .int .i64 0, .int .i64 0, .int .i64 0, .int .i64 0, .int .i64 0, .int .i64 0, .int .i64 0, .int .i64 0, .int .i64 0, .int .i64 0, .int .i64 0] 55)) a1 a2 c1 c2 p X.heap.size w1.heap.size (M.secN p.frags base 0).1 (.slice none 0 0) (.slice none 0 0) (M.frAt p base 0) (M.tiAt p base 0)) := by
        have hl1 : w.heap.size + 1 < w1.heap.size := (Array.getElem?_eq_some_iff.1 r1).1
        exact ⟨(heap_alloc_old _ _ (by omega)).trans r0, (heap_alloc_old _ _ hl1).trans r1, heap_alloc_new _ _, hrow.alloc _, HB1.out.alloc HB1.out.size _, hl1⟩
      clear hmk hrow r0 r1 HB1 cp0
      generalize w1.alloc (.cells #[.slice (some ⟨X.heap.size, 0, none⟩) p.frags.length p.frags.length, .slice none 0 0, .slice none 0 0, .int .i64 0, .int .i64 0, .int .i64 0, .int .i64 0, .int .i64 0, .int .i64 0, .int .i64 0, .int .i64 0, .int .i64 0, .int .i64 0, .int .i64 0, .int .i64 0] 55) = Y at *
      generalize w1.heap.size = b at *
      generalize X.heap.size = g at *
      go_loopw [8, 31] (fun s8 s31 wr => ∃ (k : Nat) (vN vC : Value), k ≤ 5 ∧ s31 = .int .i64 k ∧ s8 = .int .i64 (M.tillOf p base k) ∧ Hid (YI w wr a1 a2 c1 c2 p g b (M.secN p.frags base k).1 vN vC (M.frAt p base k) (M.tiAt p base k)) ∧ Hid (NC wr p base b k vN vC)) (fun _ s31 _ => 5 - (intOf s31).toNat)
      case atStart => exact ⟨0, _, _, by decide, rfl, rfl, HI0, ⟨fun _ => ⟨rfl, rfl⟩, fun h => by cases h⟩⟩
      case round =>
        obtain ⟨k, vN, vC, hk, rfl, rfl, HI, HN⟩ := hrel
        clear HI0
        have hcase : k = 0 ∨ k = 1 ∨ k = 2 ∨ k = 3 ∨ k = 4 ∨ k = 5 := by omega
        rcases hcase with rfl | rfl | rfl | rfl | rfl | rfl
        · -- section 1
          have hb0 := (HPos.out 0).1
          have hb1 := (HPos.out 0).2
          have hp16 := M.next_bounds (a := (M.secN p.frags base 0).2) (d := 16) (by omega) (.inr (.inr (.inr (.inr rfl))))
          have KN : Hid (Calls Try.prog 64 #[.int .i64 (M.secN p.frags base 0).2, .int .i64 16] wr fun e w' => e = .returned (.int .i64 (M.next (M.secN p.frags base 0).2 16)) ∧ wr = w') := (next_any (M.secN p.frags base 0).2 16 (by omega) (by omega) (.inr (.inr (.inr (.inr rfl)))) wr).mono fun e w' ⟨h1, h2⟩ => ⟨h1, h2.symm⟩
          obtain ⟨rfl, rfl⟩ := HN.out.1 (by decide)
          have HI' : Hid (YI w wr a1 a2 c1 c2 p g b (M.secN p.frags base 0).1 (.slice none 0 0) (.slice none 0 0) (M.frAt p base 0) (M.tiAt p base 0)) := HI
          have k3 : wr.cell? ⟨b, 4, none⟩ = some (.int .i64 (M.frAt p base 0 1)) := cellB HI'.out.blk 4
          have z3 : wr.frozen? ⟨b, 4, none⟩ = false := frozenB HI'.out.blk 4
          have hlb : b < wr.heap.size := (Array.getElem?_eq_some_iff.1 HI'.out.blk).1
          have hE : M.tillOf p base 0 = (M.secN p.frags base 0).2 := rfl
          rw [hE]
          clear hE
          go_upto_region 12 with (go_at_call 64; refine KN.out.mono ?_; rintro e w' ⟨rfl, rfl⟩)
          have HI1 : Hid (YI w (wr.setCell ⟨b, 4, none⟩ (.int .i64 (M.next (M.secN p.frags base 0).2 16))) a1 a2 c1 c2 p g b (M.secN p.frags base 0).1 (.slice none 0 0) (.slice none 0 0) (M.frAt p base 1) (M.tiAt p base 0)) := HI'.out.put 4 _ _ _ _ _ rfl
          clear KN k3 z3 hlb HI HI' HN
          generalize wr.setCell ⟨b, 4, none⟩ (.int .i64 (M.next (M.secN p.frags base 0).2 16)) = X1 at *
          have HD0 : Hid (YI w X1.drew a1 a2 c1 c2 p g b (M.secN p.frags base 0).1 (.slice none 0 0) (.slice none 0 0) (M.frAt p base 1) (M.tiAt p base 0)) := HI1.out.later (Below.refl _ _).drew
          have KL : Hid (Calls Try.prog 65 #[(.slice (some ⟨g, 0, none⟩) p.frags.length p.frags.length), .slice a1 p.frags.length c1, .int .i64 1, .int .i64 (M.next (M.secN p.frags base 0).2 16)] X1.drew fun e w' => e = .returned (.int .i64 (M.secN p.frags base 1).2) ∧ X1.drew.grownBy w' (some g) ∧ w'.ownsRow (w.heap.size + 1 + 1) 3 1 (.slice (some ⟨g, 0, none⟩) p.frags.length p.frags.length) p.frags.length ((M.secN p.frags base 1).1.map (Value.int .i64))) :=
            layFrags_any 1 (M.next (M.secN p.frags base 0).2 16) p.frags (M.secN p.frags base 0).1 (w.heap.size + 1 + 1) g p.frags.length a1 c1 X1.drew (fun W hW => (HFD.out W (HD0.out.below.grown hW HD0.out.below.size (fun k hk => by have := Option.some.inj hk; have := row_high HD0.out.row; omega))).1) HD0.out.row hnf HOk (by omega) (by omega)
          have HS0 : Hid (∀ W, X1.drew.grownBy W (some g) → W.cell? ⟨b, 0, none⟩ = some (.slice (some ⟨g, 0, none⟩) p.frags.length p.frags.length) ∧ W.cell? ⟨b, 4, none⟩ = some (.int .i64 (M.next (M.secN p.frags base 0).2 16)) ∧ W.cell? ⟨w.heap.size, 0, none⟩ = some (.slice a1 p.frags.length c1)) := fun W hW => by
            have hh := row_high HD0.out.row
            have y1 := (hW.block b (Array.getElem?_eq_some_iff.1 HD0.out.blk).1 (by intro e; exact row_type HD0.out.row HD0.out.blk (by decide) (Option.some.inj e))).trans HD0.out.blk
            have y2 := (hW.block w.heap.size (Array.getElem?_eq_some_iff.1 HD0.out.part).1 (by intro e; have := Option.some.inj e; omega)).trans HD0.out.part
            exact ⟨cellB y1 0, cellB y1 4, cellB y2 0⟩
          clear HI1
          go_region_held3 (fun w' => w'.cell? ⟨b, 0, none⟩ = some (.slice (some ⟨g, 0, none⟩) p.frags.length p.frags.length) ∧ w'.cell? ⟨b, 4, none⟩ = some (.int .i64 (M.next (M.secN p.frags base 0).2 16)) ∧ w'.cell? ⟨w.heap.size, 0, none⟩ = some (.slice a1 p.frags.length c1)) (first | exact HS0.out _ (World.grownBy.refl _ _) | exact HS0.out _ hg2) ((go_at_call 65; refine KL.out.mono ?_; rintro e W2 ⟨rfl, hg2, hr2⟩))
          have HI2 : Hid (YI w W2 a1 a2 c1 c2 p g b (M.secN p.frags base 1).1 (.slice none 0 0) (.slice none 0 0) (M.frAt p base 1) (M.tiAt p base 0)) := HD0.out.call hg2 hr2
          clear HD0 KL HS0 hg2 hr2
          have kt : W2.cell? ⟨b, 10, none⟩ = some (.int .i64 (M.tiAt p base 0 1)) := cellB HI2.out.blk 10
          have zt : W2.frozen? ⟨b, 10, none⟩ = false := frozenB HI2.out.blk 10
          have hlb : b < W2.heap.size := (Array.getElem?_eq_some_iff.1 HI2.out.blk).1
          have HI3 : Hid (YI w (W2.setCell ⟨b, 10, none⟩ (.int .i64 (M.secN p.frags base 1).2)) a1 a2 c1 c2 p g b (M.secN p.frags base 1).1 (.slice none 0 0) (.slice none 0 0) (M.frAt p base 1) (M.tiAt p base 1)) := HI2.out.put 10 _ _ _ _ _ rfl
          clear HI2
          go_wp2
          go_roundw
          case rel => exact ⟨1, _, _, by decide, by go_num, rfl, HI3, ⟨fun _ => ⟨rfl, rfl⟩, fun h => by cases h⟩⟩
          case measure => simp [intOf]
        · -- section 2
          have hb0 := (HPos.out 1).1
          have hb1 := (HPos.out 1).2
          have hp16 := M.next_bounds (a := (M.secN p.frags base 1).2) (d := 16) (by omega) (.inr (.inr (.inr (.inr rfl))))
          have KN : Hid (Calls Try.prog 64 #[.int .i64 (M.secN p.frags base 1).2, .int .i64 16] wr fun e w' => e = .returned (.int .i64 (M.next (M.secN p.frags base 1).2 16)) ∧ wr = w') := (next_any (M.secN p.frags base 1).2 16 (by omega) (by omega) (.inr (.inr (.inr (.inr rfl)))) wr).mono fun e w' ⟨h1, h2⟩ => ⟨h1, h2.symm⟩
          obtain ⟨rfl, rfl⟩ := HN.out.1 (by decide)
          have HI' : Hid (YI w wr a1 a2 c1 c2 p g b (M.secN p.frags base 1).1 (.slice none 0 0) (.slice none 0 0) (M.frAt p base 1) (M.tiAt p base 1)) := HI
          have k3 : wr.cell? ⟨b, 5, none⟩ = some (.int .i64 (M.frAt p base 1 2)) := cellB HI'.out.blk 5
          have z3 : wr.frozen? ⟨b, 5, none⟩ = false := frozenB HI'.out.blk 5
          have hlb : b < wr.heap.size := (Array.getElem?_eq_some_iff.1 HI'.out.blk).1
          have hE : M.tillOf p base 1 = (M.secN p.frags base 1).2 := rfl
          rw [hE]
          clear hE
          go_upto_region 12 with (go_at_call 64; refine KN.out.mono ?_; rintro e w' ⟨rfl, rfl⟩)
          have HI1 : Hid (YI w (wr.setCell ⟨b, 5, none⟩ (.int .i64 (M.next (M.secN p.frags base 1).2 16))) a1 a2 c1 c2 p g b (M.secN p.frags base 1).1 (.slice none 0 0) (.slice none 0 0) (M.frAt p base 2) (M.tiAt p base 1)) := HI'.out.put 5 _ _ _ _ _ rfl
          clear KN k3 z3 hlb HI HI' HN
          generalize wr.setCell ⟨b, 5, none⟩ (.int .i64 (M.next (M.secN p.frags base 1).2 16)) = X1 at *
          have HD0 : Hid (YI w X1.drew a1 a2 c1 c2 p g b (M.secN p.frags base 1).1 (.slice none 0 0) (.slice none 0 0) (M.frAt p base 2) (M.tiAt p base 1)) := HI1.out.later (Below.refl _ _).drew
          have KL : Hid (Calls Try.prog 65 #[(.slice (some ⟨g, 0, none⟩) p.frags.length p.frags.length), .slice a1 p.frags.length c1, .int .i64 2, .int .i64 (M.next (M.secN p.frags base 1).2 16)] X1.drew fun e w' => e = .returned (.int .i64 (M.secN p.frags base 2).2) ∧ X1.drew.grownBy w' (some g) ∧ w'.ownsRow (w.heap.size + 1 + 1) 3 1 (.slice (some ⟨g, 0, none⟩) p.frags.length p.frags.length) p.frags.length ((M.secN p.frags base 2).1.map (Value.int .i64))) :=
            layFrags_any 2 (M.next (M.secN p.frags base 1).2 16) p.frags (M.secN p.frags base 1).1 (w.heap.size + 1 + 1) g p.frags.length a1 c1 X1.drew (fun W hW => (HFD.out W (HD0.out.below.grown hW HD0.out.below.size (fun k hk => by have := Option.some.inj hk; have := row_high HD0.out.row; omega))).1) HD0.out.row hnf HOk (by omega) (by omega)
          have HS0 : Hid (∀ W, X1.drew.grownBy W (some g) → W.cell? ⟨b, 0, none⟩ = some (.slice (some ⟨g, 0, none⟩) p.frags.length p.frags.length) ∧ W.cell? ⟨b, 5, none⟩ = some (.int .i64 (M.next (M.secN p.frags base 1).2 16)) ∧ W.cell? ⟨w.heap.size, 0, none⟩ = some (.slice a1 p.frags.length c1)) := fun W hW => by
            have hh := row_high HD0.out.row
            have y1 := (hW.block b (Array.getElem?_eq_some_iff.1 HD0.out.blk).1 (by intro e; exact row_type HD0.out.row HD0.out.blk (by decide) (Option.some.inj e))).trans HD0.out.blk
            have y2 := (hW.block w.heap.size (Array.getElem?_eq_some_iff.1 HD0.out.part).1 (by intro e; have := Option.some.inj e; omega)).trans HD0.out.part
            exact ⟨cellB y1 0, cellB y1 5, cellB y2 0⟩
          clear HI1
          go_region_held3 (fun w' => w'.cell? ⟨b, 0, none⟩ = some (.slice (some ⟨g, 0, none⟩) p.frags.length p.frags.length) ∧ w'.cell? ⟨b, 5, none⟩ = some (.int .i64 (M.next (M.secN p.frags base 1).2 16)) ∧ w'.cell? ⟨w.heap.size, 0, none⟩ = some (.slice a1 p.frags.length c1)) (first | exact HS0.out _ (World.grownBy.refl _ _) | exact HS0.out _ hg2) ((go_at_call 65; refine KL.out.mono ?_; rintro e W2 ⟨rfl, hg2, hr2⟩))
          have HI2 : Hid (YI w W2 a1 a2 c1 c2 p g b (M.secN p.frags base 2).1 (.slice none 0 0) (.slice none 0 0) (M.frAt p base 2) (M.tiAt p base 1)) := HD0.out.call hg2 hr2
          clear HD0 KL HS0 hg2 hr2
          have kt : W2.cell? ⟨b, 11, none⟩ = some (.int .i64 (M.tiAt p base 1 2)) := cellB HI2.out.blk 11
          have zt : W2.frozen? ⟨b, 11, none⟩ = false := frozenB HI2.out.blk 11
          have hlb : b < W2.heap.size := (Array.getElem?_eq_some_iff.1 HI2.out.blk).1
          have HI3 : Hid (YI w (W2.setCell ⟨b, 11, none⟩ (.int .i64 (M.secN p.frags base 2).2)) a1 a2 c1 c2 p g b (M.secN p.frags base 2).1 (.slice none 0 0) (.slice none 0 0) (M.frAt p base 2) (M.tiAt p base 2)) := HI2.out.put 11 _ _ _ _ _ rfl
          clear HI2
          go_wp2
          go_roundw
          case rel => exact ⟨2, _, _, by decide, by go_num, rfl, HI3, ⟨fun _ => ⟨rfl, rfl⟩, fun h => by cases h⟩⟩
          case measure => simp [intOf]
        · -- section 3
          have hb0 := (HPos.out 2).1
          have hb1 := (HPos.out 2).2
          have hp16 := M.next_bounds (a := (M.secN p.frags base 2).2) (d := 16) (by omega) (.inr (.inr (.inr (.inr rfl))))
          have KN : Hid (Calls Try.prog 64 #[.int .i64 (M.secN p.frags base 2).2, .int .i64 16] wr fun e w' => e = .returned (.int .i64 (M.next (M.secN p.frags base 2).2 16)) ∧ wr = w') := (next_any (M.secN p.frags base 2).2 16 (by omega) (by omega) (.inr (.inr (.inr (.inr rfl)))) wr).mono fun e w' ⟨h1, h2⟩ => ⟨h1, h2.symm⟩
          obtain ⟨rfl, rfl⟩ := HN.out.1 (by decide)
          have HI' : Hid (YI w wr a1 a2 c1 c2 p g b (M.secN p.frags base 2).1 (.slice none 0 0) (.slice none 0 0) (M.frAt p base 2) (M.tiAt p base 2)) := HI
          have k3 : wr.cell? ⟨b, 6, none⟩ = some (.int .i64 (M.frAt p base 2 3)) := cellB HI'.out.blk 6
          have z3 : wr.frozen? ⟨b, 6, none⟩ = false := frozenB HI'.out.blk 6
          have hlb : b < wr.heap.size := (Array.getElem?_eq_some_iff.1 HI'.out.blk).1
          have hE : M.tillOf p base 2 = (M.secN p.frags base 2).2 := rfl
          rw [hE]
          clear hE
          go_upto_region 12 with (go_at_call 64; refine KN.out.mono ?_; rintro e w' ⟨rfl, rfl⟩)
          have HI1 : Hid (YI w (wr.setCell ⟨b, 6, none⟩ (.int .i64 (M.next (M.secN p.frags base 2).2 16))) a1 a2 c1 c2 p g b (M.secN p.frags base 2).1 (.slice none 0 0) (.slice none 0 0) (M.frAt p base 3) (M.tiAt p base 2)) := HI'.out.put 6 _ _ _ _ _ rfl
          clear KN k3 z3 hlb HI HI' HN
          generalize wr.setCell ⟨b, 6, none⟩ (.int .i64 (M.next (M.secN p.frags base 2).2 16)) = X1 at *
          have HD0 : Hid (YI w X1.drew a1 a2 c1 c2 p g b (M.secN p.frags base 2).1 (.slice none 0 0) (.slice none 0 0) (M.frAt p base 3) (M.tiAt p base 2)) := HI1.out.later (Below.refl _ _).drew
          have KL : Hid (Calls Try.prog 65 #[(.slice (some ⟨g, 0, none⟩) p.frags.length p.frags.length), .slice a1 p.frags.length c1, .int .i64 3, .int .i64 (M.next (M.secN p.frags base 2).2 16)] X1.drew fun e w' => e = .returned (.int .i64 (M.secN p.frags base 3).2) ∧ X1.drew.grownBy w' (some g) ∧ w'.ownsRow (w.heap.size + 1 + 1) 3 1 (.slice (some ⟨g, 0, none⟩) p.frags.length p.frags.length) p.frags.length ((M.secN p.frags base 3).1.map (Value.int .i64))) :=
            layFrags_any 3 (M.next (M.secN p.frags base 2).2 16) p.frags (M.secN p.frags base 2).1 (w.heap.size + 1 + 1) g p.frags.length a1 c1 X1.drew (fun W hW => (HFD.out W (HD0.out.below.grown hW HD0.out.below.size (fun k hk => by have := Option.some.inj hk; have := row_high HD0.out.row; omega))).1) HD0.out.row hnf HOk (by omega) (by omega)
          have HS0 : Hid (∀ W, X1.drew.grownBy W (some g) → W.cell? ⟨b, 0, none⟩ = some (.slice (some ⟨g, 0, none⟩) p.frags.length p.frags.length) ∧ W.cell? ⟨b, 6, none⟩ = some (.int .i64 (M.next (M.secN p.frags base 2).2 16)) ∧ W.cell? ⟨w.heap.size, 0, none⟩ = some (.slice a1 p.frags.length c1)) := fun W hW => by
            have hh := row_high HD0.out.row
            have y1 := (hW.block b (Array.getElem?_eq_some_iff.1 HD0.out.blk).1 (by intro e; exact row_type HD0.out.row HD0.out.blk (by decide) (Option.some.inj e))).trans HD0.out.blk
            have y2 := (hW.block w.heap.size (Array.getElem?_eq_some_iff.1 HD0.out.part).1 (by intro e; have := Option.some.inj e; omega)).trans HD0.out.part
            exact ⟨cellB y1 0, cellB y1 6, cellB y2 0⟩
          clear HI1
          go_region_held3 (fun w' => w'.cell? ⟨b, 0, none⟩ = some (.slice (some ⟨g, 0, none⟩) p.frags.length p.frags.length) ∧ w'.cell? ⟨b, 6, none⟩ = some (.int .i64 (M.next (M.secN p.frags base 2).2 16)) ∧ w'.cell? ⟨w.heap.size, 0, none⟩ = some (.slice a1 p.frags.length c1)) (first | exact HS0.out _ (World.grownBy.refl _ _) | exact HS0.out _ hg2) ((go_at_call 65; refine KL.out.mono ?_; rintro e W2 ⟨rfl, hg2, hr2⟩))
          have HI2 : Hid (YI w W2 a1 a2 c1 c2 p g b (M.secN p.frags base 3).1 (.slice none 0 0) (.slice none 0 0) (M.frAt p base 3) (M.tiAt p base 2)) := HD0.out.call hg2 hr2
          clear HD0 KL HS0 hg2 hr2
          have kt : W2.cell? ⟨b, 12, none⟩ = some (.int .i64 (M.tiAt p base 2 3)) := cellB HI2.out.blk 12
          have zt : W2.frozen? ⟨b, 12, none⟩ = false := frozenB HI2.out.blk 12
          have hlb : b < W2.heap.size := (Array.getElem?_eq_some_iff.1 HI2.out.blk).1
          have HI3 : Hid (YI w (W2.setCell ⟨b, 12, none⟩ (.int .i64 (M.secN p.frags base 3).2)) a1 a2 c1 c2 p g b (M.secN p.frags base 3).1 (.slice none 0 0) (.slice none 0 0) (M.frAt p base 3) (M.tiAt p base 3)) := HI2.out.put 12 _ _ _ _ _ rfl
          clear HI2
          go_wp2
          go_roundw
          case rel => exact ⟨3, _, _, by decide, by go_num, rfl, HI3, ⟨fun _ => ⟨rfl, rfl⟩, fun h => by cases h⟩⟩
          case measure => simp [intOf]
        · -- section 4
          have hb0 := (HPos.out 3).1
          have hb1 := (HPos.out 3).2
          have hp16 := M.next_bounds (a := (M.secN p.frags base 3).2) (d := 16) (by omega) (.inr (.inr (.inr (.inr rfl))))
          have KN : Hid (Calls Try.prog 64 #[.int .i64 (M.secN p.frags base 3).2, .int .i64 16] wr fun e w' => e = .returned (.int .i64 (M.next (M.secN p.frags base 3).2 16)) ∧ wr = w') := (next_any (M.secN p.frags base 3).2 16 (by omega) (by omega) (.inr (.inr (.inr (.inr rfl)))) wr).mono fun e w' ⟨h1, h2⟩ => ⟨h1, h2.symm⟩
          obtain ⟨rfl, rfl⟩ := HN.out.1 (by decide)
          have HI' : Hid (YI w wr a1 a2 c1 c2 p g b (M.secN p.frags base 3).1 (.slice none 0 0) (.slice none 0 0) (M.frAt p base 3) (M.tiAt p base 3)) := HI
          have k3 : wr.cell? ⟨b, 7, none⟩ = some (.int .i64 (M.frAt p base 3 4)) := cellB HI'.out.blk 7
          have z3 : wr.frozen? ⟨b, 7, none⟩ = false := frozenB HI'.out.blk 7
          have hlb : b < wr.heap.size := (Array.getElem?_eq_some_iff.1 HI'.out.blk).1
          have hE : M.tillOf p base 3 = (M.secN p.frags base 3).2 := rfl
          rw [hE]
          clear hE
          go_upto_region 12 with (go_at_call 64; refine KN.out.mono ?_; rintro e w' ⟨rfl, rfl⟩)
          have HI1 : Hid (YI w (wr.setCell ⟨b, 7, none⟩ (.int .i64 (M.next (M.secN p.frags base 3).2 16))) a1 a2 c1 c2 p g b (M.secN p.frags base 3).1 (.slice none 0 0) (.slice none 0 0) (M.frAt p base 4) (M.tiAt p base 3)) := HI'.out.put 7 _ _ _ _ _ rfl
          clear KN k3 z3 hlb HI HI' HN
          generalize wr.setCell ⟨b, 7, none⟩ (.int .i64 (M.next (M.secN p.frags base 3).2 16)) = X1 at *
          have HD0 : Hid (YI w X1.drew a1 a2 c1 c2 p g b (M.secN p.frags base 3).1 (.slice none 0 0) (.slice none 0 0) (M.frAt p base 4) (M.tiAt p base 3)) := HI1.out.later (Below.refl _ _).drew
          have KL : Hid (Calls Try.prog 65 #[(.slice (some ⟨g, 0, none⟩) p.frags.length p.frags.length), .slice a1 p.frags.length c1, .int .i64 4, .int .i64 (M.next (M.secN p.frags base 3).2 16)] X1.drew fun e w' => e = .returned (.int .i64 (M.secN p.frags base 4).2) ∧ X1.drew.grownBy w' (some g) ∧ w'.ownsRow (w.heap.size + 1 + 1) 3 1 (.slice (some ⟨g, 0, none⟩) p.frags.length p.frags.length) p.frags.length ((M.secN p.frags base 4).1.map (Value.int .i64))) :=
            layFrags_any 4 (M.next (M.secN p.frags base 3).2 16) p.frags (M.secN p.frags base 3).1 (w.heap.size + 1 + 1) g p.frags.length a1 c1 X1.drew (fun W hW => (HFD.out W (HD0.out.below.grown hW HD0.out.below.size (fun k hk => by have := Option.some.inj hk; have := row_high HD0.out.row; omega))).1) HD0.out.row hnf HOk (by omega) (by omega)
          have HS0 : Hid (∀ W, X1.drew.grownBy W (some g) → W.cell? ⟨b, 0, none⟩ = some (.slice (some ⟨g, 0, none⟩) p.frags.length p.frags.length) ∧ W.cell? ⟨b, 7, none⟩ = some (.int .i64 (M.next (M.secN p.frags base 3).2 16)) ∧ W.cell? ⟨w.heap.size, 0, none⟩ = some (.slice a1 p.frags.length c1)) := fun W hW => by
            have hh := row_high HD0.out.row
            have y1 := (hW.block b (Array.getElem?_eq_some_iff.1 HD0.out.blk).1 (by intro e; exact row_type HD0.out.row HD0.out.blk (by decide) (Option.some.inj e))).trans HD0.out.blk
            have y2 := (hW.block w.heap.size (Array.getElem?_eq_some_iff.1 HD0.out.part).1 (by intro e; have := Option.some.inj e; omega)).trans HD0.out.part
            exact ⟨cellB y1 0, cellB y1 7, cellB y2 0⟩
          clear HI1
          go_region_held3 (fun w' => w'.cell? ⟨b, 0, none⟩ = some (.slice (some ⟨g, 0, none⟩) p.frags.length p.frags.length) ∧ w'.cell? ⟨b, 7, none⟩ = some (.int .i64 (M.next (M.secN p.frags base 3).2 16)) ∧ w'.cell? ⟨w.heap.size, 0, none⟩ = some (.slice a1 p.frags.length c1)) (first | exact HS0.out _ (World.grownBy.refl _ _) | exact HS0.out _ hg2) ((go_at_call 65; refine KL.out.mono ?_; rintro e W2 ⟨rfl, hg2, hr2⟩))
          have HI2 : Hid (YI w W2 a1 a2 c1 c2 p g b (M.secN p.frags base 4).1 (.slice none 0 0) (.slice none 0 0) (M.frAt p base 4) (M.tiAt p base 3)) := HD0.out.call hg2 hr2
          clear HD0 KL HS0 hg2 hr2
          have kt : W2.cell? ⟨b, 13, none⟩ = some (.int .i64 (M.tiAt p base 3 4)) := cellB HI2.out.blk 13
          have zt : W2.frozen? ⟨b, 13, none⟩ = false := frozenB HI2.out.blk 13
          have hlb : b < W2.heap.size := (Array.getElem?_eq_some_iff.1 HI2.out.blk).1
          have HI3 : Hid (YI w (W2.setCell ⟨b, 13, none⟩ (.int .i64 (M.secN p.frags base 4).2)) a1 a2 c1 c2 p g b (M.secN p.frags base 4).1 (.slice none 0 0) (.slice none 0 0) (M.frAt p base 4) (M.tiAt p base 4)) := HI2.out.put 13 _ _ _ _ _ rfl
          clear HI2
          go_wp2
          go_roundw
          case rel => exact ⟨4, _, _, by decide, by go_num, rfl, HI3, ⟨fun _ => ⟨rfl, rfl⟩, fun h => by cases h⟩⟩
          case measure => simp [intOf]
        · -- section 5
          have hb0 := (HPos.out 4).1
          have hb1 := (HPos.out 4).2
          have hp16 := M.next_bounds (a := (M.secN p.frags base 4).2) (d := 16) (by omega) (.inr (.inr (.inr (.inr rfl))))
          have KN : Hid (Calls Try.prog 64 #[.int .i64 (M.secN p.frags base 4).2, .int .i64 16] wr fun e w' => e = .returned (.int .i64 (M.next (M.secN p.frags base 4).2 16)) ∧ wr = w') := (next_any (M.secN p.frags base 4).2 16 (by omega) (by omega) (.inr (.inr (.inr (.inr rfl)))) wr).mono fun e w' ⟨h1, h2⟩ => ⟨h1, h2.symm⟩
          obtain ⟨rfl, rfl⟩ := HN.out.1 (by decide)
          have HI' : Hid (YI w wr a1 a2 c1 c2 p g b (M.secN p.frags base 4).1 (.slice none 0 0) (.slice none 0 0) (M.frAt p base 4) (M.tiAt p base 4)) := HI
          have k3 : wr.cell? ⟨b, 8, none⟩ = some (.int .i64 (M.frAt p base 4 5)) := cellB HI'.out.blk 8
          have z3 : wr.frozen? ⟨b, 8, none⟩ = false := frozenB HI'.out.blk 8
          have hlb : b < wr.heap.size := (Array.getElem?_eq_some_iff.1 HI'.out.blk).1
          have hE : M.tillOf p base 4 = (M.secN p.frags base 4).2 := rfl
          rw [hE]
          clear hE
          go_upto_region 12 with (go_at_call 64; refine KN.out.mono ?_; rintro e w' ⟨rfl, rfl⟩)
          have HI1 : Hid (YI w (wr.setCell ⟨b, 8, none⟩ (.int .i64 (M.next (M.secN p.frags base 4).2 16))) a1 a2 c1 c2 p g b (M.secN p.frags base 4).1 (.slice none 0 0) (.slice none 0 0) (M.frAt p base 5) (M.tiAt p base 4)) := HI'.out.put 8 _ _ _ _ _ rfl
          clear KN k3 z3 hlb HI HI' HN
          generalize wr.setCell ⟨b, 8, none⟩ (.int .i64 (M.next (M.secN p.frags base 4).2 16)) = X1 at *
          have HD0 : Hid (YI w X1.drew a1 a2 c1 c2 p g b (M.secN p.frags base 4).1 (.slice none 0 0) (.slice none 0 0) (M.frAt p base 5) (M.tiAt p base 4)) := HI1.out.later (Below.refl _ _).drew
          have KL : Hid (Calls Try.prog 65 #[(.slice (some ⟨g, 0, none⟩) p.frags.length p.frags.length), .slice a1 p.frags.length c1, .int .i64 5, .int .i64 (M.next (M.secN p.frags base 4).2 16)] X1.drew fun e w' => e = .returned (.int .i64 (M.secN p.frags base 5).2) ∧ X1.drew.grownBy w' (some g) ∧ w'.ownsRow (w.heap.size + 1 + 1) 3 1 (.slice (some ⟨g, 0, none⟩) p.frags.length p.frags.length) p.frags.length ((M.secN p.frags base 5).1.map (Value.int .i64))) :=
            layFrags_any 5 (M.next (M.secN p.frags base 4).2 16) p.frags (M.secN p.frags base 4).1 (w.heap.size + 1 + 1) g p.frags.length a1 c1 X1.drew (fun W hW => (HFD.out W (HD0.out.below.grown hW HD0.out.below.size (fun k hk => by have := Option.some.inj hk; have := row_high HD0.out.row; omega))).1) HD0.out.row hnf HOk (by omega) (by omega)
          have HS0 : Hid (∀ W, X1.drew.grownBy W (some g) → W.cell? ⟨b, 0, none⟩ = some (.slice (some ⟨g, 0, none⟩) p.frags.length p.frags.length) ∧ W.cell? ⟨b, 8, none⟩ = some (.int .i64 (M.next (M.secN p.frags base 4).2 16)) ∧ W.cell? ⟨w.heap.size, 0, none⟩ = some (.slice a1 p.frags.length c1)) := fun W hW => by
            have hh := row_high HD0.out.row
            have y1 := (hW.block b (Array.getElem?_eq_some_iff.1 HD0.out.blk).1 (by intro e; exact row_type HD0.out.row HD0.out.blk (by decide) (Option.some.inj e))).trans HD0.out.blk
            have y2 := (hW.block w.heap.size (Array.getElem?_eq_some_iff.1 HD0.out.part).1 (by intro e; have := Option.some.inj e; omega)).trans HD0.out.part
            exact ⟨cellB y1 0, cellB y1 8, cellB y2 0⟩
          clear HI1
          go_region_held3 (fun w' => w'.cell? ⟨b, 0, none⟩ = some (.slice (some ⟨g, 0, none⟩) p.frags.length p.frags.length) ∧ w'.cell? ⟨b, 8, none⟩ = some (.int .i64 (M.next (M.secN p.frags base 4).2 16)) ∧ w'.cell? ⟨w.heap.size, 0, none⟩ = some (.slice a1 p.frags.length c1)) (first | exact HS0.out _ (World.grownBy.refl _ _) | exact HS0.out _ hg2) ((go_at_call 65; refine KL.out.mono ?_; rintro e W2 ⟨rfl, hg2, hr2⟩))
          have HI2 : Hid (YI w W2 a1 a2 c1 c2 p g b (M.secN p.frags base 5).1 (.slice none 0 0) (.slice none 0 0) (M.frAt p base 5) (M.tiAt p base 4)) := HD0.out.call hg2 hr2
          clear HD0 KL HS0 hg2 hr2
          have KCm : Hid (Calls Try.prog 66 #[.agg #[.slice a1 p.frags.length c1, .slice a2 p.defs.length c2], .int .i64 (M.secN p.frags base 5).2] W2 _) := layCommons_any p (M.secN p.frags base 5).2 a1 a2 c1 c2 W2 (HFD.out W2 HI2.out.below).1 (HFD.out W2 HI2.out.below).2 HCk.out (by have := (HPos.out 5).1; omega) (by have := (HPos.out 5).2; omega)
          have p0 : W2.cell? ⟨w.heap.size, 0, none⟩ = some (.slice a1 p.frags.length c1) := cellB HI2.out.part 0
          have p1 : W2.cell? ⟨w.heap.size, 1, none⟩ = some (.slice a2 p.defs.length c2) := cellB HI2.out.part 1
          have hlp : w.heap.size < W2.heap.size := (Array.getElem?_eq_some_iff.1 HI2.out.part).1
          have hlb2 : b < W2.heap.size := (Array.getElem?_eq_some_iff.1 HI2.out.blk).1
          go_upto_region 14 with fail
          go_wp2_with (go_at_call 66; refine KCm.out.mono ?_; rintro e W3 ⟨hb3, vN, vC, rfl, hN3, hC3, hz3, _, _, hq0, hq1⟩; refine Hid.out ?_)
          have HI3 : Hid (YI w W3 a1 a2 c1 c2 p g b (M.secN p.frags base 5).1 (.slice none 0 0) (.slice none 0 0) (M.frAt p base 5) (M.tiAt p base 4)) := HI2.out.later hb3
          have m1 : W3.cell? ⟨b, 1, none⟩ = some (.slice none 0 0) := cellB HI3.out.blk 1
          have m2 : W3.cell? ⟨b, 2, none⟩ = some (.slice none 0 0) := cellB HI3.out.blk 2
          have m14 : W3.cell? ⟨b, 14, none⟩ = some (.int .i64 (M.tiAt p base 4 5)) := cellB HI3.out.blk 14
          have z1 : W3.frozen? ⟨b, 1, none⟩ = false := frozenB HI3.out.blk 1
          have z2 : W3.frozen? ⟨b, 2, none⟩ = false := frozenB HI3.out.blk 2
          have z14 : W3.frozen? ⟨b, 14, none⟩ = false := frozenB HI3.out.blk 14
          have hlb : b < W3.heap.size := (Array.getElem?_eq_some_iff.1 HI3.out.blk).1
          have HI6 : Hid (YI w (((W3.setCell ⟨b, 1, none⟩ vN).setCell ⟨b, 2, none⟩ vC).setCell ⟨b, 14, none⟩ (.int .i64 (M.commons p (M.secN p.frags base 5).2).pos)) a1 a2 c1 c2 p g b (M.secN p.frags base 5).1 vN vC (M.frAt p base 5) (M.tiAt p base 5)) :=
            ((HI3.out.put 1 vN vN (.slice none 0 0) (M.frAt p base 5) (M.tiAt p base 4) rfl).put 2 vC vN vC (M.frAt p base 5) (M.tiAt p base 4) rfl).put 14 _ vN vC (M.frAt p base 5) (M.tiAt p base 5) rfl
          have fN : vN.ownBlock ≠ some b := fun e => by have := (hN3.lt b e).1; omega
          have fC : vC.ownBlock ≠ some b := fun e => by have := (hC3.lt b e).1; omega
          have HN6 : Hid (NC (((W3.setCell ⟨b, 1, none⟩ vN).setCell ⟨b, 2, none⟩ vC).setCell ⟨b, 14, none⟩ (.int .i64 (M.commons p (M.secN p.frags base 5).2).pos)) p base b 5 vN vC) :=
            ⟨fun h => absurd h (by decide), fun _ => ⟨⟨W2.heap.size, hlb2, ownsRow_setCell_other (ownsRow_setCell_other (ownsRow_setCell_other hN3 fN _) fN _) fN _, ownsRow_setCell_other (ownsRow_setCell_other (ownsRow_setCell_other hC3 fC _) fC _) fC _⟩, hz3⟩⟩
          obtain ⟨a6, n6, c6, rfl⟩ := own_form hN3
          obtain ⟨a7, n7, c7, rfl⟩ := own_form hC3
          clear HI2 HI3 hN3 hC3 hz3 fN fC KCm p0 p1
          refine Lib.hid ?_
          go_wp2
          go_roundw
          case rel => exact ⟨5, _, _, by decide, by go_num, rfl, HI6, HN6⟩
          case measure => simp [intOf]
        · obtain ⟨B5, hbB, hN5, hC5⟩ := (HN.out.2 rfl).1
          have hz5 := (HN.out.2 rfl).2
          have HI' : Hid (YI w wr a1 a2 c1 c2 p g b (M.secN p.frags base 5).1 vN vC (M.frAt p base 5) (M.tiAt p base 5)) := HI
          have q4 : wr.heap[w.heap.size + 1]? = some (.cells #[.slice none 0 0, .slice none 0 0, .slice none 0 0, .int .i64 0, .int .i64 0, .int .i64 0, .int .i64 0, .int .i64 0, .int .i64 0, .int .i64 0, .int .i64 0, .int .i64 0, .int .i64 0, .int .i64 0, .int .i64 0] 55 (0, 0)) := HI'.out.res
          have q7 : wr.heap[b]? = some (.cells (layArr (.slice (some ⟨g, 0, none⟩) p.frags.length p.frags.length) vN vC (M.frAt p base 5) (M.tiAt p base 5)) 55 (0, 0)) := HI'.out.blk
          have hlb : b < wr.heap.size := (Array.getElem?_eq_some_iff.1 q7).1
          have hl1 : w.heap.size + 1 < wr.heap.size := (Array.getElem?_eq_some_iff.1 q4).1
          have hhb := HI'.out.high
          by_cases hfull : 65536 < M.tillOf p base 5
          · have HE2 : Hid (M.lay p base = (M.lay0, 10)) := by rw [Hid, HE.out, if_pos hfull]
            have HZ1 : Hid ((wr.setRow (w.heap.size + 1) #[.slice none 0 0, .slice none 0 0, .slice none 0 0, .int .i64 0, .int .i64 0, .int .i64 0, .int .i64 0, .int .i64 0, .int .i64 0, .int .i64 0, .int .i64 0, .int .i64 0, .int .i64 0, .int .i64 0, .int .i64 0]).heap[w.heap.size + 1]? = some (.cells #[.slice none 0 0, .slice none 0 0, .slice none 0 0, .int .i64 0, .int .i64 0, .int .i64 0, .int .i64 0, .int .i64 0, .int .i64 0, .int .i64 0, .int .i64 0, .int .i64 0, .int .i64 0, .int .i64 0, .int .i64 0] 55 (0, 0))) := setRow_heap _ _ _ _ _ _ q4
            have HB1 : Hid (Below w.heap.size w (wr.setRow (w.heap.size + 1) #[.slice none 0 0, .slice none 0 0, .slice none 0 0, .int .i64 0, .int .i64 0, .int .i64 0, .int .i64 0, .int .i64 0, .int .i64 0, .int .i64 0, .int .i64 0, .int .i64 0, .int .i64 0, .int .i64 0, .int .i64 0])) := below_setRow HI'.out.below (by omega)
            clear HI HI' HN hN5 hC5 hz5 HE q7
            generalize M.tillOf p base 5 = te at *
            go_wp2_with (refine wpList_store_row rfl 55 _ _ rfl (w.heap.size + 1) #[.slice none 0 0, .slice none 0 0, .slice none 0 0, .int .i64 0, .int .i64 0, .int .i64 0, .int .i64 0, .int .i64 0, .int .i64 0, .int .i64 0, .int .i64 0, .int .i64 0, .int .i64 0, .int .i64 0, .int .i64 0] rfl rfl 55 #[.slice none 0 0, .slice none 0 0, .slice none 0 0, .int .i64 0, .int .i64 0, .int .i64 0, .int .i64 0, .int .i64 0, .int .i64 0, .int .i64 0, .int .i64 0, .int .i64 0, .int .i64 0, .int .i64 0, .int .i64 0] q4 hsi rfl h1z ?_)
            refine bodyPost_ret (v := .tuple #[.agg #[.slice none 0 0, .slice none 0 0, .slice none 0 0, .int .i64 0, .int .i64 0, .int .i64 0, .int .i64 0, .int .i64 0, .int .i64 0, .int .i64 0, .int .i64 0, .int .i64 0, .int .i64 0, .int .i64 0, .int .i64 0], .int .i64 10]) (res_lay (g := w.heap.size + 1) rfl rfl HZ1.out rfl) rfl ?_
            rw [HE2.out]
            exact ⟨HB1.out, .slice none 0 0, .slice none 0 0, .slice none 0 0, rfl, ints_nil _, strs_nil _, ints_nil _⟩
          · have HE2 : Hid (M.lay p base = (M.layAll p base, 0)) := by rw [Hid, HE.out, if_neg hfull]
            have hff : decide (65536 < M.tillOf p base 5) = false := by simpa using hfull
            have hoF := HI'.out.row
            have hsl : (M.secN p.frags base 5).1.length = p.frags.length := M.secN_len _ _ _
            have HF5 : Hid (IntsAt (wr.setRow (w.heap.size + 1) (layArr (.slice (some ⟨g, 0, none⟩) p.frags.length p.frags.length) vN vC (M.frAt p base 5) (M.tiAt p base 5))) (.slice (some ⟨g, 0, none⟩) p.frags.length p.frags.length) (M.secN p.frags base 5).1) := row_ints (B := w.heap.size + 1 + 1) (by rw [hsl]; exact hoF.kept (gb_setRow _ _ _) (.inr (fun e => by have h1 := row_high hoF; have h2 : g = w.heap.size + 1 := Option.some.inj e; omega)))
            have HN5 : Hid (StrsAt (wr.setRow (w.heap.size + 1) (layArr (.slice (some ⟨g, 0, none⟩) p.frags.length p.frags.length) vN vC (M.frAt p base 5) (M.tiAt p base 5))) vN (M.commons p (M.secN p.frags base 5).2).names) := row_strs (hN5.kept (gb_setRow _ _ _) (.inr (fun e => by have := (hN5.lt _ e).1; omega))) hz5
            have HC5 : Hid (IntsAt (wr.setRow (w.heap.size + 1) (layArr (.slice (some ⟨g, 0, none⟩) p.frags.length p.frags.length) vN vC (M.frAt p base 5) (M.tiAt p base 5))) vC (M.commons p (M.secN p.frags base 5).2).at_) := row_ints (hC5.kept (gb_setRow _ _ _) (.inr (fun e => by have := (hC5.lt _ e).1; omega)))
            obtain ⟨a6, n6, c6, rfl⟩ := own_form hN5
            obtain ⟨a7, n7, c7, rfl⟩ := own_form hC5
            have HZ1 : Hid ((wr.setRow (w.heap.size + 1) (layArr (.slice (some ⟨g, 0, none⟩) p.frags.length p.frags.length) (.slice a6 n6 c6) (.slice a7 n7 c7) (M.frAt p base 5) (M.tiAt p base 5))).heap[w.heap.size + 1]? = some (.cells (layArr (.slice (some ⟨g, 0, none⟩) p.frags.length p.frags.length) (.slice a6 n6 c6) (.slice a7 n7 c7) (M.frAt p base 5) (M.tiAt p base 5)) 55 (0, 0))) := setRow_heap _ _ _ _ _ _ q4
            have HB1 : Hid (Below w.heap.size w (wr.setRow (w.heap.size + 1) (layArr (.slice (some ⟨g, 0, none⟩) p.frags.length p.frags.length) (.slice a6 n6 c6) (.slice a7 n7 c7) (M.frAt p base 5) (M.tiAt p base 5)))) := below_setRow HI'.out.below (by omega)
            have hs5 : (layArr (.slice (some ⟨g, 0, none⟩) p.frags.length p.frags.length) (.slice a6 n6 c6) (.slice a7 n7 c7) (M.frAt p base 5) (M.tiAt p base 5)).size = 15 := rfl
            have h15 : (layArr (.slice (some ⟨g, 0, none⟩) p.frags.length p.frags.length) (.slice a6 n6 c6) (.slice a7 n7 c7) (M.frAt p base 5) (M.tiAt p base 5)).all (·.oneCell') = true := by simp [layArr, Value.oneCell']
            have hsi5 : (Try.prog.info? 55).map (·.size) = some (layArr (.slice (some ⟨g, 0, none⟩) p.frags.length p.frags.length) (.slice a6 n6 c6) (.slice a7 n7 c7) (M.frAt p base 5) (M.tiAt p base 5)).size := hsi
            clear HI HI' HN hN5 hC5 hz5 HE hoF
            obtain ⟨C, hC⟩ : ∃ C, layArr (.slice (some ⟨g, 0, none⟩) p.frags.length p.frags.length) (.slice a6 n6 c6) (.slice a7 n7 c7) (M.frAt p base 5) (M.tiAt p base 5) = C := ⟨_, rfl⟩
            have HC : Hid (layArr (.slice (some ⟨g, 0, none⟩) p.frags.length p.frags.length) (.slice a6 n6 c6) (.slice a7 n7 c7) (M.frAt p base 5) (M.tiAt p base 5) = C) := hC
            rw [hC] at HF5 HN5 HC5 HZ1 HB1 hs5 h15 hsi5 q7
            clear hC
            generalize M.tillOf p base 5 = te at *
            go_wp2_with (first | (refine wpList_load_row rfl 55 _ rfl b rfl 55 C (0, 0) _ q7 Try.underlying55 rfl hsi5 ?_) | (refine wpList_store_row rfl 55 _ _ rfl (w.heap.size + 1) C rfl rfl 55 #[.slice none 0 0, .slice none 0 0, .slice none 0 0, .int .i64 0, .int .i64 0, .int .i64 0, .int .i64 0, .int .i64 0, .int .i64 0, .int .i64 0, .int .i64 0, .int .i64 0, .int .i64 0, .int .i64 0, .int .i64 0] q4 hsi5 hs5.symm h15 ?_))
            refine bodyPost_ret (v := .tuple #[.agg C, .int .i64 0]) (res_lay (g := w.heap.size + 1) rfl rfl HZ1.out hs5) rfl ?_
            rw [HE2.out]
            exact ⟨HB1.out, _, _, _, by rw [← HC.out]; rfl, HF5.out, HN5.out, HC5.out⟩

end Go.Proofs.Ytebhbhbhcoijpaa
