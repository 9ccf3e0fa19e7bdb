/-
  ArchiveEnds: the contract of its third function, and of slices.ContainsFunc with it.
-/
import Derived.Test.YtebhbhbhcoijpaaArEx
import Derived.Test.YtebhbhbhcoijpaaArTaken
namespace Go.Proofs.Ytebhbhbhcoijpaa
open Go Go.RowKit
set_option linter.unusedVariables false

/-- a variable that holds a part, by its cells -/
structure VarC (w : World) (b : Nat) (x1 x2 : Option Addr) (y1 y2 : Nat) (p : M.Prt) : Prop where
  c0 : w.cell? ⟨b, 0, none⟩ = some (.slice x1 p.frags.length y1)
  c1 : w.cell? ⟨b, 1, none⟩ = some (.slice x2 p.defs.length y2)
  fr : FragsAt w (.slice x1 p.frags.length y1) p.frags
  df : DefsAt w (.slice x2 p.defs.length y2) p.defs
theorem VarC.kp {w w' : World} {b : Nat} {x1 x2 : Option Addr} {y1 y2 : Nat} {p : M.Prt} (h : VarC w b x1 x2 y1 y2 p) (hk : Kp w w') : VarC w' b x1 x2 y1 y2 p := ⟨hk _ _ h.c0, hk _ _ h.c1, h.fr.kp hk, h.df.kp hk⟩
theorem VarC.later {w w' : World} {b : Nat} {x1 x2 : Option Addr} {y1 y2 : Nat} {p : M.Prt} (h : VarC w b x1 x2 y1 y2 p) (hb : Below w.heap.size w w') : VarC w' b x1 x2 y1 y2 p := h.kp (Kp.below hb)
theorem VarC.of {w : World} {b : Nat} {x1 x2 : Option Addr} {y1 y2 : Nat} {p : M.Prt} (h : Var w b x1 x2 y1 y2 p) : VarC w b x1 x2 y1 y2 p := ⟨h.c0, h.c1, h.fr, h.df⟩
theorem VarC.lt {w : World} {b : Nat} {x1 x2 : Option Addr} {y1 y2 : Nat} {p : M.Prt} (h : VarC w b x1 x2 y1 y2 p) : b < w.heap.size := World.block_lt_of_cell? _ _ h.c0

theorem endsSame_any (x q : M.Prt) (a1 a2 x1 x2 : Option Addr) (c1 c2 y1 y2 n : Nat) (w : World) (hf : FragsAt w (.slice a1 x.frags.length c1) x.frags) (hd : DefsAt w (.slice a2 x.defs.length c2) x.defs) (hv : VarC w n x1 x2 y1 y2 q) :
    Calls Try.prog 38 #[.agg #[.slice a1 x.frags.length c1, .slice a2 x.defs.length c2], .pointer (some ⟨n, 0, none⟩)] w fun e w' => e = .returned (.bool (M.samePart x q)) ∧ Below w.heap.size w w' := by
  have hA : Below w.heap.size w (w.alloc (.cells #[.slice a1 x.frags.length c1, .slice a2 x.defs.length c2] 25)) := (Below.refl _ _).alloc (Nat.le_refl _) _
  have hq := heap_alloc_new w (.cells #[.slice a1 x.frags.length c1, .slice a2 x.defs.length c2] 25)
  have hv' := hv.later hA
  have KC : Hid (Calls Try.prog 10 #[.agg #[.slice a1 x.frags.length c1, .slice a2 x.defs.length c2], .agg #[.slice x1 q.frags.length y1, .slice x2 q.defs.length y2]] (w.alloc (.cells #[.slice a1 x.frags.length c1, .slice a2 x.defs.length c2] 25)) fun e w' => e = .returned (.bool (M.samePart x q)) ∧ Below (w.alloc (.cells #[.slice a1 x.frags.length c1, .slice a2 x.defs.length c2] 25)).heap.size (w.alloc (.cells #[.slice a1 x.frags.length c1, .slice a2 x.defs.length c2] 25)) w') := same_any _ _ _ _ _ _ _ _ _ _ _ _ _ (hf.later hA) (hd.later hA) hv'.fr hv'.df
  have k0 := hv'.c0
  have k1 := hv'.c1
  have ln := hv'.lt
  have HA : Hid _ := hA
  clear hf hd hv hv' hA
  generalize M.samePart x q = R at *
  generalize x.frags.length = m1 at *
  generalize x.defs.length = m2 at *
  generalize q.frags.length = m3 at *
  generalize q.defs.length = m4 at *
  go_enter Try.func38, Try.ntmps38
  go_upto_region 1 with fail
  generalize w.alloc (.cells #[.slice a1 m1 c1, .slice a2 m2 c2] 25) = X at *
  have hlX : w.heap.size < X.heap.size := (Array.getElem?_eq_some_iff.1 hq).1
  have q0 : X.cell? ⟨w.heap.size, 0, none⟩ = some (.slice a1 m1 c1) := cellB hq 0
  have q1 : X.cell? ⟨w.heap.size, 1, none⟩ = some (.slice a2 m2 c2) := cellB hq 1
  go_wp2_with (go_at_call 10; refine KC.out.mono ?_; rintro e w1 ⟨rfl, hb1⟩)
  go_ret
  exact ⟨rfl, HA.out.trans (hb1.mono HA.out.size)⟩

set_option maxHeartbeats 1000000 in
set_option maxRecDepth 100000 in
theorem indexSame_any (l : List M.Prt) (q : M.Prt) (a x1 x2 : Option Addr) (c y1 y2 n : Nat) (w : World) (h : PartsAt w (.slice a l.length c) l) (hs : VarC w n x1 x2 y1 y2 q) :
    Calls Try.prog 78 #[.slice a l.length c, .func (.func 38) #[] #[.pointer (some ⟨n, 0, none⟩)]] w fun e w' => (∃ x, e = .returned (.int .i64 x) ∧ decide (0 ≤ x) = l.any (fun x => M.samePart x q)) ∧ Below w.heap.size w w' := by
  have hn : l.length ≤ maxLen := by obtain ⟨_, h, _⟩ := h; obtain ⟨_, _, _, h⟩ := h.form; exact h
  unfold maxLen at hn
  have HH : Hid (∀ W, Below w.heap.size w W → PartsAt W (.slice a l.length c) l ∧ VarC W n x1 x2 y1 y2 q) := fun W hW => ⟨h.later hW, hs.later hW⟩
  clear h hs
  have HA0 : Hid ((l.take 0).any (fun x => M.samePart x q) = false) := rfl
  go_enter Try.func78, Try.ntmps78
  go_wp2_with fail
  go_loopw [8] (fun s8 wr => ∃ (k : Nat), k ≤ l.length ∧ s8 = .int .i64 k ∧ Hid ((l.take k).any (fun x => M.samePart x q) = false) ∧ Hid (Below w.heap.size w wr)) (fun s8 _ => l.length - (intOf s8).toNat)
  case atStart => exact ⟨0, Nat.zero_le _, rfl, HA0, Below.refl _ _⟩
  case round =>
    obtain ⟨k, hk, rfl, HA, HB⟩ := hrel
    clear HA0
    by_cases hlt : k < l.length
    · obtain ⟨bb, off, p1, p2, d1, d2, rfl, e0, e1, hf, hd⟩ := part_at (HH.out wr HB.out).1 k hlt
      have hbr : bb < wr.heap.size := World.block_lt_of_cell? _ _ e0
      have hkl : (k : Int) < (l.length : Int) := by omega
      have KC : Hid (Calls Try.prog 38 #[.agg #[.slice p1 (l.getD k M.nil).frags.length d1, .slice p2 (l.getD k M.nil).defs.length d2], .pointer (some ⟨n, 0, none⟩)] wr fun e w' => e = .returned (.bool (M.samePart (l.getD k M.nil) q)) ∧ Below wr.heap.size wr w') := endsSame_any _ q _ _ x1 x2 _ _ y1 y2 n wr hf hd (HH.out wr HB.out).2
      have HN : Hid ((l.take (k + 1)).any (fun x => M.samePart x q) = M.samePart (l.getD k M.nil) q) := by
        rw [Hid, List.take_succ_eq_append_getElem hlt, List.any_append, HA.out, List.getD_eq_getElem?_getD, List.getElem?_eq_getElem hlt]; simp
      have HT : Hid (M.samePart (l.getD k M.nil) q = true → l.any (fun x => M.samePart x q) = true) := fun h => List.any_eq_true.2 ⟨_, getD_mem l M.nil k hlt, h⟩
      clear HA hf hd
      generalize M.samePart (l.getD k M.nil) q = R at *
      generalize (l.getD k M.nil).frags.length = m1 at *
      generalize (l.getD k M.nil).defs.length = m2 at *
      cases R
      · clear HT
        go_wp2_with (go_at_call 38; refine KC.out.mono ?_; rintro e w1 ⟨rfl, hb1⟩)
        go_roundw
        case rel => exact ⟨k + 1, by omega, by go_num, HN, HB.out.trans (hb1.mono HB.out.size)⟩
        case measure => simp [intOf]; omega
      · have hany := HT.out rfl
        have HAn : Hid _ := hany
        clear HT hany HN
        go_wp2_with (go_at_call 38; refine KC.out.mono ?_; rintro e w1 ⟨rfl, hb1⟩)
        go_ret
        exact ⟨⟨_, rfl, by rw [HAn.out]; simp⟩, HB.out.trans (hb1.mono HB.out.size)⟩
    · obtain rfl : k = l.length := by omega
      have HAn : Hid (l.any (fun x => M.samePart x q) = false) := by have := HA.out; rwa [List.take_length] at this
      clear HA
      go_wp2
      go_ret
      exact ⟨⟨_, rfl, by rw [HAn.out]; decide⟩, HB.out⟩

theorem containsSame_any (l : List M.Prt) (q : M.Prt) (a x1 x2 : Option Addr) (c y1 y2 n : Nat) (w : World) (h : PartsAt w (.slice a l.length c) l) (hs : VarC w n x1 x2 y1 y2 q) (hq : q ∈ l) :
    Calls Try.prog 37 #[.slice a l.length c, .func (.func 38) #[] #[.pointer (some ⟨n, 0, none⟩)]] w fun e w' => e = .returned (.bool true) ∧ Below w.heap.size w w' := by
  have KI := indexSame_any l q a x1 x2 c y1 y2 n w h hs
  have hany : l.any (fun x => M.samePart x q) = true := List.any_eq_true.2 ⟨q, hq, M.samePart_refl q⟩
  rw [hany] at KI
  clear h hs hany hq
  have HK : Hid _ := KI
  clear KI
  go_enter Try.func37, Try.ntmps37
  go_wp2_with (go_at_call 78; refine Calls.mono HK.out ?_; rintro e w1 ⟨⟨x, rfl, hx⟩, hb1⟩)
  go_ret
  exact ⟨by simp_all, hb1⟩

end Go.Proofs.Ytebhbhbhcoijpaa
