/-
  PartDrops: for every part and every list of texts the law returns true, and each reads behind the call as it read before. Condition: two of the library's tables (unicode/utf8's first and acceptRanges) hold when the call begins what the program's text lays; the card ties them to that text.
-/
import Derived.Test.YthbdfnphnppagaaDoorRefDropped
import Derived.Test.YthbdfnphnppagaaDoorRefGroups
import Derived.Test.YthbdfnphnppagaaDoorRefCheck
import Derived.Test.YthbdfnphnppagaaDoorRefSame
import Derived.Test.YthbdfnphnppagaaDoorPdA
import Derived.Test.YthbdfnphnppagaaDoorPrtSpliced
import Derived.Deep.RegionHeld3
import Derived.Test.YthbdfnphnppagaaDoorCards
import Derived.Test.YthbdfnphnppagaaDoorTie
import Derived.Test.YthbdfnphnppagaaDoorOpA
import Derived.WalkKit
import Derived.ProofKit
import Derived.OpenShut
import Derived.Deep.DeepHandedRow
import Derived.Lib.LaidTab
namespace Go.Proofs.YthbdfnphnppagaaDoor
open Go.RowKit
set_option linter.unusedVariables false

theorem two_self {α : Type} (eq : α → α → Bool) (h : ∀ x, eq x x = true) : ∀ l : List α, M.allTwo eq l l = true
  | [] => rfl
  | x :: l => by show (eq x x && M.allTwo eq l l) = true; rw [h, two_self eq h l]; rfl

theorem part_self (p : M.Prt) : M.samePart p p = true := by
  unfold M.samePart
  rw [two_self, two_self]
  · rfl
  · intro d; simp [M.sameDfn]
  · intro f
    unfold M.sameFrg
    rw [two_self, two_self]
    · simp
    · intro r; simp [M.sameRel]
    · intro x; simp

theorem texts_self (l : List ByteArray) : sameTexts l l = true := two_self _ (fun x => by simp) l

theorem dropped_g {p : M.Prt} {l : List ByteArray} {a1 a2 a3 : Option Addr} {c1 c2 c3 : Nat} {w : World} (hf : FragsAt w (.slice a1 p.frags.length c1) p.frags) (hd : DefsAt w (.slice a2 p.defs.length c2) p.defs) (hl : StrsAt w (.slice a3 l.length c3) l) (hok : M.Ok p) (q : M.Prt) (hq : M.drop p l = q) :
    Calls Tryd.prog 23 #[.agg #[.slice a1 p.frags.length c1, .slice a2 p.defs.length c2], .slice a3 l.length c3] w fun e w' =>
      Below w.heap.size w w' ∧ ∃ x1 y1 x2 y2, e = .returned (.agg #[.slice x1 q.frags.length y1, .slice x2 q.defs.length y2]) ∧ FragsAt w' (.slice x1 q.frags.length y1) q.frags ∧ DefsAt w' (.slice x2 q.defs.length y2) q.defs := by
  refine (dropped_any p l a1 a2 a3 c1 c2 c3 w hf hd hl hok).mono ?_
  rintro e w' ⟨hb, es, vF, vD, rfl, hP, hes, _⟩
  rw [hq] at hP hes
  have hF := hP.fragsAt
  rw [hes] at hF
  obtain ⟨x1, y1, rfl⟩ := hF.form
  obtain ⟨x2, y2, rfl⟩ := hP.defsAt.form
  exact ⟨hb, x1, y1, x2, y2, rfl, hF, hP.defsAt⟩

theorem same_self {q : M.Prt} {a1 a2 a3 a4 : Option Addr} {c1 c2 c3 c4 : Nat} {w : World} (h1 : FragsAt w (.slice a1 q.frags.length c1) q.frags) (h2 : DefsAt w (.slice a2 q.defs.length c2) q.defs)
    (h3 : FragsAt w (.slice a3 q.frags.length c3) q.frags) (h4 : DefsAt w (.slice a4 q.defs.length c4) q.defs) :
    Calls Tryd.prog 11 #[.agg #[.slice a1 q.frags.length c1, .slice a2 q.defs.length c2], .agg #[.slice a3 q.frags.length c3, .slice a4 q.defs.length c4]] w fun e w' =>
      e = .returned (.bool true) ∧ Below w.heap.size w w' := by
  have := rsame_any q.frags q.frags q.defs q.defs a1 a2 a3 a4 c1 c2 c3 c4 w h1 h2 h3 h4
  rwa [part_self] at this

set_option maxHeartbeats 8000000 in
set_option maxRecDepth 100000 in
theorem drops_law (p : M.Prt) (l : List ByteArray) (a1 a2 a3 : Option Addr) (c1 c2 c3 : Nat) (w : World) (hf : FragsAt w (.slice a1 p.frags.length c1) p.frags) (hd : DefsAt w (.slice a2 p.defs.length c2) p.defs) (hl : StrsAt w (.slice a3 l.length c3) l) :
    Calls Tryd.prog 4 #[.agg #[.slice a1 p.frags.length c1, .slice a2 p.defs.length c2], .slice a3 l.length c3] w fun e w' => e = .returned (.bool true) ∧ Below w.heap.size w w' := by
  obtain ⟨ck, hck⟩ : ∃ ck, M.checkPart p = ck := ⟨_, rfl⟩
  obtain ⟨lg, hlg⟩ : ∃ lg, (if M.checkPart p = 0 then M.groups p.frags else []) = lg := ⟨_, rfl⟩
  obtain ⟨q, er, hq⟩ : ∃ q er, dropOf p l = (q, er) := ⟨_, _, rfl⟩
  have HC : Hid (((ck == 0) = false ∧ lg = [] ∧ q = M.nil ∧ er = ck) ∨ (ck = 0 ∧ lg = M.groups p.frags ∧ M.drop p l = q ∧ er = 0 ∧ M.Ok p)) := by
    unfold dropOf at hq
    by_cases h : M.checkPart p = 0
    · rw [if_pos h] at hlg hq
      exact .inr ⟨hck ▸ h, hlg.symm, congrArg Prod.fst hq, (congrArg Prod.snd hq).symm, (M.ok_iff p).1 h⟩
    · rw [if_neg h] at hlg hq
      exact .inl ⟨by simpa [← hck] using h, hlg.symm, (congrArg Prod.fst hq).symm, (congrArg Prod.snd hq).symm.trans hck⟩
  have KG0 : Hid (∀ W, FragsAt W (.slice a1 p.frags.length c1) p.frags → DefsAt W (.slice a2 p.defs.length c2) p.defs → Calls Tryd.prog 18 #[.agg #[.slice a1 p.frags.length c1, .slice a2 p.defs.length c2]] W fun e w' => Below W.heap.size W w' ∧ ∃ ga gc, e = .returned (.tuple #[.slice ga lg.length gc, .int .i64 ck]) ∧ StrsAt w' (.slice ga lg.length gc) lg) := fun W h1 h2 => by
    have := groups_g h1 h2 lg hlg
    rwa [hck] at this
  have KD0 : Hid (∀ W, FragsAt W (.slice a1 p.frags.length c1) p.frags → DefsAt W (.slice a2 p.defs.length c2) p.defs → StrsAt W (.slice a3 l.length c3) l → Calls Tryd.prog 19 #[.agg #[.slice a1 p.frags.length c1, .slice a2 p.defs.length c2], .slice a3 l.length c3] W fun e w' => Below W.heap.size W w' ∧ ∃ x1 y1 x2 y2, e = .returned (.tuple #[.agg #[.slice x1 q.frags.length y1, .slice x2 q.defs.length y2], .int .i64 er]) ∧ FragsAt w' (.slice x1 q.frags.length y1) q.frags ∧ DefsAt w' (.slice x2 q.defs.length y2) q.defs) := fun W h1 h2 h3 => drop_g h1 h2 h3 q er hq
  have KC0 : Hid (∀ W, FragsAt W (.slice a1 p.frags.length c1) p.frags → DefsAt W (.slice a2 p.defs.length c2) p.defs → Calls Tryd.prog 9 #[.agg #[.slice a1 p.frags.length c1, .slice a2 p.defs.length c2]] W fun e w' => e = .returned (.int .i64 ck) ∧ Below W.heap.size W w') := fun W h1 h2 => by
    have := rcheck_any p.frags p.defs a1 a2 c1 c2 W h1 h2
    rw [← hck]; exact this
  clear hlg hq hck
  go_enter Tryd.func4, Tryd.ntmps4
  go_upto_region 1 with fail
  have HA : Hid (Below w.heap.size w (w.alloc (.cells #[.slice a1 p.frags.length c1, .slice a2 p.defs.length c2] 25))) := (Below.refl _ _).alloc (Nat.le_refl _) _
  have V0 : Hid (Var (w.alloc (.cells #[.slice a1 p.frags.length c1, .slice a2 p.defs.length c2] 25)) w.heap.size a1 a2 c1 c2 p) := var_new hf hd
  have L0 : Hid (StrsAt (w.alloc (.cells #[.slice a1 p.frags.length c1, .slice a2 p.defs.length c2] 25)) (.slice a3 l.length c3) l) := hl.later HA.out
  clear hf hd hl
  generalize w.alloc (.cells #[.slice a1 p.frags.length c1, .slice a2 p.defs.length c2] 25) = X0 at *
  have c00 := V0.out.c0
  have c01 := V0.out.c1
  have KG : Hid (Calls Tryd.prog 18 #[.agg #[.slice a1 p.frags.length c1, .slice a2 p.defs.length c2]] X0 _) := KG0.out X0 V0.out.fr V0.out.df
  go_upto_region 2 with (go_at_call 18; refine KG.out.mono ?_; rintro e w1 ⟨hb1, ga, gc, rfl, hs1⟩)
  have HA1 : Hid (Below w.heap.size w w1) := HA.out.trans (hb1.mono HA.out.size)
  have V1 : Hid (Var w1 w.heap.size a1 a2 c1 c2 p) := V0.out.later hb1
  have L1 : Hid (StrsAt w1 (.slice a3 l.length c3) l ∧ StrsAt w1 (.slice ga lg.length gc) lg) := ⟨L0.out.later hb1, hs1⟩
  clear c00 c01 KG KG0 HA V0 L0 hs1 hb1
  have c00 := V1.out.c0
  have c01 := V1.out.c1
  have KD : Hid (Calls Tryd.prog 19 #[.agg #[.slice a1 p.frags.length c1, .slice a2 p.defs.length c2], .slice a3 l.length c3] w1 _) := KD0.out w1 V1.out.fr V1.out.df L1.out.1
  go_upto_region 3 with (go_at_call 19; refine KD.out.mono ?_; rintro e w2 ⟨hb2, x1, y1, x2, y2, rfl, hF2, hD2⟩)
  have HB2 : Hid (Below w1.heap.size w1 (w2.alloc (.cells #[.slice x1 q.frags.length y1, .slice x2 q.defs.length y2] 25))) := hb2.alloc hb2.size _
  have V7 : Hid (Var (w2.alloc (.cells #[.slice x1 q.frags.length y1, .slice x2 q.defs.length y2] 25)) w2.heap.size x1 x2 y1 y2 q) := var_new hF2 hD2
  clear hF2 hD2 hb2 KD KD0 c00 c01
  generalize w2.alloc (.cells #[.slice x1 q.frags.length y1, .slice x2 q.defs.length y2] 25) = X2 at *
  generalize w2.heap.size = n2 at *
  have HA2 : Hid (Below w.heap.size w X2) := HA1.out.trans (HB2.out.mono HA1.out.size)
  have V2 : Hid (Var X2 w.heap.size a1 a2 c1 c2 p) := V1.out.later HB2.out
  have L2 : Hid (StrsAt X2 (.slice a3 l.length c3) l ∧ StrsAt X2 (.slice ga lg.length gc) lg) := ⟨L1.out.1.later HB2.out, L1.out.2.later HB2.out⟩
  clear V1 L1 HA1 HB2
  have c00 := V2.out.c0
  have c01 := V2.out.c1
  have KC : Hid (Calls Tryd.prog 9 #[.agg #[.slice a1 p.frags.length c1, .slice a2 p.defs.length c2]] X2 _) := KC0.out X2 V2.out.fr V2.out.df
  go_upto_region 4 with (go_at_call 9; refine KC.out.mono ?_; rintro e w3 ⟨rfl, hb3⟩)
  have HA3 : Hid (Below w.heap.size w w3) := HA2.out.trans (hb3.mono HA2.out.size)
  have V3 : Hid (Var w3 w.heap.size a1 a2 c1 c2 p) := V2.out.later hb3
  have V8 : Hid (Var w3 n2 x1 x2 y1 y2 q) := V7.out.later hb3
  have L3 : Hid (StrsAt w3 (.slice a3 l.length c3) l ∧ StrsAt w3 (.slice ga lg.length gc) lg) := ⟨L2.out.1.later hb3, L2.out.2.later hb3⟩
  clear V2 V7 L2 HA2 c00 c01 KC KC0 hb3
  rcases HC.out with ⟨hne, rfl, rfl, rfl⟩ | ⟨rfl, rfl, hq, rfl, hok⟩
  · clear HC
    go_upto_region 5 with (go_at_call 20; refine (spliced_any _).mono ?_; rintro e w4 ⟨rfl, hb4⟩)
    have HA4 : Hid (Below w.heap.size w w4) := HA3.out.trans (hb4.mono HA3.out.size)
    have HS : Hid (∀ W, Below w4.heap.size w4 W → (W.cell? ⟨n2, 0, none⟩ = some (.slice x1 0 y1) ∧ W.cell? ⟨n2, 1, none⟩ = some (.slice x2 0 y2))) := fun W hW => ⟨((V8.out.later hb4).later hW).c0, ((V8.out.later hb4).later hW).c1⟩
    have KS : Hid (∀ W, Below w4.heap.size w4 W → Calls Tryd.prog 11 #[.agg #[.slice x1 0 y1, .slice x2 0 y2], .agg #[.slice none 0 0, .slice none 0 0]] W fun e w' => e = .returned (.bool true) ∧ Below W.heap.size W w') := fun W hW =>
      same_self (q := M.nil) ((V8.out.later hb4).later hW).fr ((V8.out.later hb4).later hW).df (fragsAt_nil _) (defsAt_nil _)
    clear V3 V8 L3 HA3 hb4
    go_wp2_with (first | (go_at_call 20; refine (spliced_any _).mono ?_; rintro e w5 ⟨rfl, hb5⟩; obtain ⟨c70, c71⟩ := HS.out _ hb5) | (go_at_call 11; refine (KS.out _ hb5).mono ?_; rintro e w6 ⟨rfl, hb6⟩))
    go_ret
    exact ⟨rfl, HA4.out.trans ((hb5.trans (hb6.mono hb5.size)).mono HA4.out.size)⟩
  · clear HC
    go_upto_region 6 with (go_at_call 20; refine (spliced_any _).mono ?_; rintro e w4 ⟨rfl, hb4⟩)
    have HA4 : Hid (Below w.heap.size w w4) := HA3.out.trans (hb4.mono HA3.out.size)
    have V4 : Hid (Var w4 w.heap.size a1 a2 c1 c2 p) := V3.out.later hb4
    have V9 : Hid (Var w4 n2 x1 x2 y1 y2 q) := V8.out.later hb4
    have L4 : Hid (StrsAt w4 (.slice a3 l.length c3) l ∧ StrsAt w4 (.slice ga (M.groups p.frags).length gc) (M.groups p.frags)) := ⟨L3.out.1.later hb4, L3.out.2.later hb4⟩
    clear V3 V8 L3 HA3 hb4
    have HS : Hid (∀ W, Below w4.heap.size w4 W → (W.cell? ⟨w.heap.size, 0, none⟩ = some (.slice a1 p.frags.length c1) ∧ W.cell? ⟨w.heap.size, 1, none⟩ = some (.slice a2 p.defs.length c2) ∧ W.cell? ⟨n2, 0, none⟩ = some (.slice x1 q.frags.length y1) ∧ W.cell? ⟨n2, 1, none⟩ = some (.slice x2 q.defs.length y2))) := fun W hW => ⟨(V4.out.later hW).c0, (V4.out.later hW).c1, (V9.out.later hW).c0, (V9.out.later hW).c1⟩
    have KR : Hid (∀ W, Below w4.heap.size w4 W → Calls Tryd.prog 22 #[.agg #[.slice a1 p.frags.length c1, .slice a2 p.defs.length c2]] W fun e w' => Below W.heap.size W w' ∧ ∃ x y, e = .returned (.slice x (M.groups p.frags).length y) ∧ StrsAt w' (.slice x (M.groups p.frags).length y) (M.groups p.frags)) := fun W hW => rgroups_any p.frags a1 a2 c1 c2 p.defs.length W (V4.out.later hW).fr hok.nf
    have KE : Hid (∀ x y W, Below w4.heap.size w4 W → StrsAt W (.slice x (M.groups p.frags).length y) (M.groups p.frags) → Calls Tryd.prog 21 #[.slice ga (M.groups p.frags).length gc, .slice x (M.groups p.frags).length y] W fun e w' => e = .returned (.bool true) ∧ Below W.heap.size W w') := fun x y W hW hs => by
      have := equalS_any (M.groups p.frags) (M.groups p.frags) ga x gc y W (L4.out.2.later hW) hs
      rwa [texts_self] at this
    have KP : Hid (∀ W, Below w4.heap.size w4 W → Calls Tryd.prog 23 #[.agg #[.slice a1 p.frags.length c1, .slice a2 p.defs.length c2], .slice a3 l.length c3] W fun e w' => Below W.heap.size W w' ∧ ∃ x1 y1 x2 y2, e = .returned (.agg #[.slice x1 q.frags.length y1, .slice x2 q.defs.length y2]) ∧ FragsAt w' (.slice x1 q.frags.length y1) q.frags ∧ DefsAt w' (.slice x2 q.defs.length y2) q.defs) := fun W hW =>
      dropped_g (V4.out.later hW).fr (V4.out.later hW).df (L4.out.1.later hW) hok q hq
    have KS : Hid (∀ u1 v1 u2 v2 W, Below w4.heap.size w4 W → FragsAt W (.slice u1 q.frags.length v1) q.frags → DefsAt W (.slice u2 q.defs.length v2) q.defs → Calls Tryd.prog 11 #[.agg #[.slice x1 q.frags.length y1, .slice x2 q.defs.length y2], .agg #[.slice u1 q.frags.length v1, .slice u2 q.defs.length v2]] W fun e w' => e = .returned (.bool true) ∧ Below W.heap.size W w') := fun u1 v1 u2 v2 W hW h1 h2 => same_self (V9.out.later hW).fr (V9.out.later hW).df h1 h2
    have hA0 : Below w4.heap.size w4 w4.drew := (Below.refl _ _).drew
    clear V4 V9 L4 hok hq
    generalize M.groups p.frags = LG at *
    go_region_held3 (fun w' => w'.cell? ⟨w.heap.size, 0, none⟩ = some (.slice a1 p.frags.length c1) ∧ w'.cell? ⟨w.heap.size, 1, none⟩ = some (.slice a2 p.defs.length c2) ∧ w'.cell? ⟨n2, 0, none⟩ = some (.slice x1 q.frags.length y1) ∧ w'.cell? ⟨n2, 1, none⟩ = some (.slice x2 q.defs.length y2)) (first | exact HS.out _ hA0 | exact HS.out _ hX4 | exact HS.out _ hX3 | exact HS.out _ hX2 | exact HS.out _ hX1) (first | (go_at_call 22; refine (KR.out _ hA0).mono ?_; rintro e w5 ⟨hb5, x5, y5, rfl, hs5⟩; have hX1 : Below w4.heap.size w4 w5 := hA0.trans (hb5.mono hA0.size)) | (go_at_call 21; refine (KE.out _ _ _ hX1 hs5).mono ?_; rintro e w6 ⟨rfl, hb6⟩; have hX2 : Below w4.heap.size w4 w6 := hX1.trans (hb6.mono hX1.size)) | (go_at_call 23; refine (KP.out _ hX2).mono ?_; rintro e w7 ⟨hb7, u1, v1, u2, v2, rfl, hF7, hD7⟩; have hX3 : Below w4.heap.size w4 w7 := hX2.trans (hb7.mono hX2.size)) | (go_at_call 11; refine (KS.out _ _ _ _ _ hX3 hF7 hD7).mono ?_; rintro e w8 ⟨rfl, hb8⟩; have hX4 : Below w4.heap.size w4 w8 := hX3.trans (hb8.mono hX3.size)))
    all_goals (go_wp2_with fail; go_ret; exact ⟨rfl, HA4.out.trans (hX4.mono HA4.out.size)⟩)

end Go.Proofs.YthbdfnphnppagaaDoor

namespace Go.Proofs.YthbdfnphnppagaaDoor.partDrops
open Go.ChangeShapes Go.WideShapes Go.ChangeAt Go.RowKit
set_option linter.unusedVariables false

theorem own : ownKnob Tryd.prog.godebug = none := by kernel_rfl
theorem laidOut : laidOutB Tryd.prog = true := by kernel_rfl

theorem strs_open {H : Type} {enc : TypeId × Value → H} {w : World} {base : Nat} {spare : Nat → Bool} {held : Bool} {n : Nat} {v : Value} {y : DataW H × List MemPlace} (h : DataW.trod enc Tryd.prog w base spare held n 38 [v] = some y) :
    ∃ (l : List ByteArray) (a : Option Addr) (c : Nat), v = .slice a l.length c ∧ StrsAt w (.slice a l.length c) l := by
  obtain ⟨a, rs, c, CS, hv, hsl, hq⟩ := slice_open str0 (fun b cs => b.size ≤ maxLen ∧ cs = [.string b]) (by decide) kStr Tryd.underlying38 (fun n cs' y h => by
    obtain ⟨x, e, _, hw⟩ := DataW.trod_string Tryd.underlying9 h
    exact ⟨x, hw, e⟩) h
  refine ⟨rs, a, c, hv, ?_, fun r hr => ?_⟩
  · refine hsl.congr fun j i hj hi => ?_
    rw [(hq j hj).2.2]
    obtain rfl : i = 0 := by omega
    rfl
  · obtain ⟨j, hj, rfl⟩ := List.getElem_of_mem hr
    have := (hq j hj).2.1
    rwa [List.getD_eq_getElem?_getD, List.getElem?_eq_getElem hj] at this

set_option maxRecDepth 100000 in
theorem contract (H : Type) (enc : TypeId × Value → H) (W : World) (base : Nat) (args : Array Value) (ds gs : List (DataW H)) (before : List MemPlace)
    (hval : ∀ (j : Nat) t v, Tryd.f4.params[j]? = some t → args[j]? = some v → Value.okWide Tryd.prog W .any base t v)
    (hW : DataW.Whole enc Tryd.prog Tryd.f4.params.toList Rows.partDropsSpec.vars false W args.toList ds gs before) :
    Calls Tryd.prog 4 args W fun e W' => ∃ v, e = .returned v ∧ Rows.partDropsSpec.post enc Tryd.prog Tryd.f4 false true false false W args v W' := by
  have hW' := hW
  obtain ⟨p, q, hA0, hV, rfl, hfz, hnd⟩ := hW
  have hA : DataW.TrodAll enc Tryd.prog W 0 (fun _ => true) true Tryd.f4.params.toList args.toList ds p := hA0
  rw [Tryd.params4] at hA hval
  obtain ⟨v0, vs0, d0, ds0, p0, q0, hargs, rfl, rfl, h0, r0⟩ := trodAll_cons hA
  obtain ⟨v1, vs1, d1, ds1, p1, q1, rfl, rfl, rfl, h1, r1⟩ := trodAll_cons r0
  obtain ⟨rfl, rfl, rfl⟩ := trodAll_nil r1
  obtain rfl : args = #[v0, v1] := by cases args; simp_all
  obtain ⟨rfl, rfl⟩ := trodVars_none hV
  obtain ⟨x0, x1, y0, y1, m0, rfl, _, _, ha0, ha1⟩ := Joins.open_agg2 Tryd.underlying25 (by kernel_rfl) kPart (hval 0 25 v0 rfl rfl) h0
  obtain ⟨fs, a1, c1, rfl, hF⟩ := frags_open ha0
  obtain ⟨dfs, a2, c2, rfl, hD⟩ := defs_open ha1
  obtain ⟨a3, n3, c3, rfl⟩ := okWide_slice Tryd.underlying38 (hval 1 38 v1 rfl rfl)
  obtain ⟨fuel1, hf1⟩ := h1
  have h1 : DataW.Trod enc Tryd.prog W 0 (fun _ => true) true 38 (.slice a3 n3 c3) d1 p1 := ⟨fuel1, hf1⟩
  obtain ⟨l, a4, c4, hsl, hL⟩ := strs_open (v := .slice a3 n3 c3) (by simpa [Value.cells] using hf1)
  obtain ⟨rfl, rfl, rfl⟩ : a3 = a4 ∧ n3 = l.length ∧ c3 = c4 := by cases hsl; exact ⟨rfl, rfl, rfl⟩
  clear hA0
  simp only [List.append_nil] at hW'
  have hlt := hW'.lt
  refine (drops_law ⟨fs, dfs⟩ l a1 a2 a3 c1 c2 c3 W hF hD hL).mono fun e W' ⟨he, hb⟩ => ?_
  subst he
  refine ⟨_, rfl, _, _, _, [], p0 ++ (p1 ++ []), [], hW', ?_, ?_, rfl, hb.frame _, fun h => by cases h⟩
  · exact trodAll_cons_mk (shut_bool Tryd.underlying4 _) trodAll_mk0
  · exact trodAll_cons_mk (hb.trod laidOut (by kernel_rfl) (by decide +kernel) h0 (fun x hx => hlt x (by simp [hx])))
      (trodAll_cons_mk (hb.trod laidOut (by kernel_rfl) (by decide +kernel) h1 (fun x hx => hlt x (by simp [hx]))) trodAll_mk0)

end Go.Proofs.YthbdfnphnppagaaDoor.partDrops

namespace Go.Proofs.YthbdfnphnppagaaDoor.partDrops
open Go.ChangeShapes Go.WideShapes Go.ChangeAt Go.RowKit
set_option linter.unusedVariables false

def firstCells : Array Value := (Go.Pinned.utf8FirstZ.map fun n : Nat => Value.int .u8 (n : Int)).toArray
def acceptCells : Array Value := #[.int .u8 128, .int .u8 191, .int .u8 160, .int .u8 191, .int .u8 128, .int .u8 159, .int .u8 144, .int .u8 191, .int .u8 128, .int .u8 143, .int .u8 0, .int .u8 0, .int .u8 0, .int .u8 0, .int .u8 0, .int .u8 0, .int .u8 0, .int .u8 0, .int .u8 0, .int .u8 0, .int .u8 0, .int .u8 0, .int .u8 0, .int .u8 0, .int .u8 0, .int .u8 0, .int .u8 0, .int .u8 0, .int .u8 0, .int .u8 0, .int .u8 0, .int .u8 0]

/-- one start that fits: an empty part, no list -/
def wargs : Array Value := #[.agg #[.slice none 0 0, .slice none 0 0], .slice none 0 0]

def putCells (c : Array Value) : Obj → Obj
  | .cells _ t frozen => .cells c t frozen
  | o => o

theorem laid_met (os : Os) : laidMet Tryd.prog Rows.partDropsRow.laid (({ World.holding Tryd.prog os ⟨#[], #[], []⟩ with heap := ((World.holding Tryd.prog os ⟨#[], #[], []⟩).heap.modify 0 (putCells firstCells)).modify 1 (putCells acceptCells) } : World).forCall (fun _ _ => 0) ⟨#[], wargs, []⟩).memory :=
  laidMet_of_run' 8 (by kernel_rfl) (by kernel_rfl)
theorem reads (os : Os) {H : Type} (enc : TypeId × Value → H) : ∃ ds places, DataW.whole enc Tryd.prog (({ World.holding Tryd.prog os ⟨#[], #[], []⟩ with heap := ((World.holding Tryd.prog os ⟨#[], #[], []⟩).heap.modify 0 (putCells firstCells)).modify 1 (putCells acceptCells) } : World).forCall (fun _ _ => 0) ⟨#[], wargs, []⟩).memory Tryd.f4.params.toList Rows.partDropsSpec.vars false wargs.toList 8 = some (ds, [], places) :=
  ⟨[.agg [.nil, .nil], .nil], [], by kernel_rfl⟩

set_option maxRecDepth 100000 in
theorem lifted (os : Os) (started : os.Started) (H : Type) (enc : TypeId × Value → H) (F : Stop.Interp) :
    ReturnsInHanded {} Tryd.checked os 4 .any ((OpenSpec.ofChange Rows.partDropsSpec).preRow enc Tryd.prog Tryd.f4 Rows.partDropsRow.domain false Rows.partDropsRow.laid) (((OpenSpec.ofChange Rows.partDropsSpec).at F).post enc Tryd.prog Tryd.f4 false true false false) := by
  obtain ⟨ds, places, hx⟩ := reads os enc
  refine returnsInHanded_of_row (C := Tryd.checked) (s := OpenSpec.ofChange Rows.partDropsSpec) own started (by kernel_rfl) Tryd.func4
    (witness_row_at (enc := enc) (C := Tryd.checked) false ({ World.holding Tryd.prog os ⟨#[], #[], []⟩ with heap := ((World.holding Tryd.prog os ⟨#[], #[], []⟩).heap.modify 0 (putCells firstCells)).modify 1 (putCells acceptCells) } : World) wargs rfl (by kernel_rfl) (by kernel_rfl) (by kernel_rfl)
      (OpenSpec.preRow_of_cond 8 hx (by kernel_rfl) (fun k hk => by cases hk) (by kernel_rfl) (laid_met os))) ?_
  intro W base args ds gs before hval hW _ _ _ hL _ _
  exact contract H enc W base args ds gs before hval hW

theorem said : Rows.PartDropsSaid :=
  OpenClaim.holds_of_cond 4 Tryd.f4 rfl rfl rfl rfl rfl rfl rfl ⟨rfl, rfl, rfl, rfl, rfl⟩ rfl rfl rfl rfl rfl (by kernel_rfl) Tryd.func4 (by kernel_rfl)
    (of_decide_eq_true (by kernel_rfl)) (by unfold Func.isWrapper; first | (rw [if_pos (by decide +kernel)]; kernel_rfl) | (rw [if_neg (by decide +kernel)]; exact ⟨rfl, rfl⟩))
    (fun os started H enc _ F => by rw [OpenClaim.pre_eq_preRow]; exact lifted os started H enc F)

theorem plain (f : FuncId) (fn : Func) (hf : Tryd.pinned.checked.prog.funcNamed "ropewalk/ropewalklaw.PartDrops" = some f) (hfn : Tryd.pinned.checked.prog.funcs[f]? = some fn) :
    false = Tryd.pinned.checked.prog.looks [] ∧ ∀ (j : Nat) t, fn.params[j]? = some t → Tryd.pinned.checked.prog.wantsStandIn t = false := by
  obtain rfl : f = 4 := Option.some.inj ((show Tryd.prog.funcNamed "ropewalk/ropewalklaw.PartDrops" = some 4 by kernel_rfl).symm.trans hf) |>.symm
  obtain rfl : fn = Tryd.f4 := (Option.some.inj (Tryd.func4.symm.trans hfn)).symm
  refine ⟨by kernel_rfl, fun j t ht => ?_⟩
  rw [Tryd.params4] at ht
  have hm : t = 25 ∨ t = 38 := by
    have := Array.mem_of_getElem? ht
    simp at this
    omega
  rcases hm with rfl | rfl
  · exact (show Tryd.prog.wantsStandIn 25 = false by kernel_rfl)
  · exact (show Tryd.prog.wantsStandIn 38 = false by kernel_rfl)

end Go.Proofs.YthbdfnphnppagaaDoor.partDrops
namespace Go.Proofs.YthbdfnphnppagaaDoor
/-- The card. -/
theorem partDrops_card : Rows.PartDropsCardSaid :=
  Claim7.holds_tied_plain_at .later [] _ _ _ _ partDrops.said (fun _ h => by cases h) (by kernel_rfl) (fun _ h => by cases h) partDrops_row_tie rfl ⟨rfl, rfl⟩ (by kernel_rfl) rfl partDrops.plain (by kernel_rfl)
#print axioms partDrops_card
end Go.Proofs.YthbdfnphnppagaaDoor
