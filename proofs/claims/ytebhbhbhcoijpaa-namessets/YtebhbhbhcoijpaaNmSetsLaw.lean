/-
  The law of NamesSets: it is true of every two parts.
-/
import Derived.Test.YtebhbhbhcoijpaaNmFound
import Derived.Test.YtebhbhbhcoijpaaNmLack
import Derived.Test.YtebhbhbhcoijpaaPrtDropG
namespace Go.Proofs.Ytebhbhbhcoijpaa
open Go.RowKit
set_option linter.unusedVariables false

theorem wantedP_v {p : M.Prt} {a1 a2 : Option Addr} {c1 c2 : Nat} {w : World} (hf : FragsAt w (.slice a1 p.frags.length c1) p.frags) (hd : DefsAt w (.slice a2 p.defs.length c2) p.defs) (hok : M.checkPart p = 0) (l : List ByteArray) (hl : M.wanted p = l) :
    Calls Try.prog 19 #[.agg #[.slice a1 p.frags.length c1, .slice a2 p.defs.length c2]] w fun e w' => Below w.heap.size w w' ∧ ∃ x y, e = .returned (.tuple #[.slice x l.length y, .int .i64 0]) ∧ w'.ownsRow w.heap.size 9 1 (.slice x l.length y) l.length (l.map Value.string) ∧ ∀ s ∈ l, s.size ≤ maxLen := by
  refine (wantedP_any p a1 a2 c1 c2 w hf hd).mono ?_
  have he : wantedOfP p = l := by unfold wantedOfP; rw [if_pos hok, hl]
  rintro e w' ⟨hb, v, rfl, ho, hs⟩
  rw [he] at ho hs
  obtain ⟨x, y, rfl⟩ := own_len ho
  exact ⟨hb, x, y, by rw [hok], ho, hs⟩

theorem definedP_v {p : M.Prt} {a1 a2 : Option Addr} {c1 c2 : Nat} {w : World} (hf : FragsAt w (.slice a1 p.frags.length c1) p.frags) (hd : DefsAt w (.slice a2 p.defs.length c2) p.defs) (hok : M.checkPart p = 0) (l : List ByteArray) (hl : M.defined p = l) :
    Calls Try.prog 20 #[.agg #[.slice a1 p.frags.length c1, .slice a2 p.defs.length c2]] w fun e w' => Below w.heap.size w w' ∧ ∃ x y, e = .returned (.tuple #[.slice x l.length y, .int .i64 0]) ∧ w'.ownsRow w.heap.size 9 1 (.slice x l.length y) l.length (l.map Value.string) ∧ ∀ s ∈ l, s.size ≤ maxLen := by
  refine (definedP_any p a1 a2 c1 c2 w hf hd).mono ?_
  have he : definedOfP p = l := by unfold definedOfP; rw [if_pos hok, hl]
  rintro e w' ⟨hb, v, rfl, ho, hs⟩
  rw [he] at ho hs
  obtain ⟨x, y, rfl⟩ := own_len ho
  exact ⟨hb, x, y, by rw [hok], ho, hs⟩

theorem lackingP_v {p : M.Prt} {a1 a2 : Option Addr} {c1 c2 : Nat} {w : World} (hf : FragsAt w (.slice a1 p.frags.length c1) p.frags) (hd : DefsAt w (.slice a2 p.defs.length c2) p.defs) (hok : M.checkPart p = 0) (l : List ByteArray) (hl : M.lacking p = l) :
    Calls Try.prog 24 #[.agg #[.slice a1 p.frags.length c1, .slice a2 p.defs.length c2]] w fun e w' => Below w.heap.size w w' ∧ ∃ x y, e = .returned (.tuple #[.slice x l.length y, .int .i64 0]) ∧ StrsAt w' (.slice x l.length y) l := by
  refine (lackingP_any p a1 a2 c1 c2 w hf hd).mono ?_
  have he : lackingOfP p = l := by unfold lackingOfP; rw [if_pos hok, hl]
  rintro e w' ⟨hb, v, rfl, ho, hs⟩
  rw [he] at ho hs
  obtain ⟨x, y, rfl⟩ := own_len ho
  exact ⟨hb, x, y, by rw [hok], row_strs ho hs⟩

theorem wanted_len {p : M.Prt} (h : M.Ok p) : (M.wanted p).length ≤ 480 := by
  have h1 := rising_le (M.wantedNames p.frags)
  have h2 := wantedNames_le p.frags (ok_rels h)
  have h3 := h.nf
  unfold M.wanted
  omega
theorem defined_len {p : M.Prt} (h : M.Ok p) : (M.defined p).length ≤ 60 := by
  have h1 := rising_le (M.definedNames p.defs)
  have h2 : (M.definedNames p.defs).length = p.defs.length := by simp [M.definedNames]
  have h3 := h.nd
  unfold M.defined
  omega

theorem texts_refl : ∀ l : List ByteArray, sameTexts l l = true
  | [] => rfl
  | x :: l => by
    show (_ && sameTexts l l) = true
    rw [texts_refl l]; simp

set_option maxHeartbeats 16000000 in
set_option maxRecDepth 100000 in
theorem sets_law (a b : M.Prt) (a1 a2 b1 b2 : Option Addr) (k1 k2 k3 k4 : Nat) (w : World) (hfa : FragsAt w (.slice a1 a.frags.length k1) a.frags) (hda : DefsAt w (.slice a2 a.defs.length k2) a.defs)
    (hfb : FragsAt w (.slice b1 b.frags.length k3) b.frags) (hdb : DefsAt w (.slice b2 b.defs.length k4) b.defs) :
    Calls Try.prog 5 #[.agg #[.slice a1 a.frags.length k1, .slice a2 a.defs.length k2], .agg #[.slice b1 b.frags.length k3, .slice b2 b.defs.length k4]] w fun e w' => e = .returned (.bool true) ∧ Below w.heap.size w w' := by
  go_enter Try.func5, Try.ntmps5
  go_upto_region 1 with fail
  have HV : Hid (Var ((w.alloc (.cells #[.slice a1 a.frags.length k1, .slice a2 a.defs.length k2] 25)).alloc (.cells #[.slice b1 b.frags.length k3, .slice b2 b.defs.length k4] 25)) w.heap.size a1 a2 k1 k2 a ∧ Var ((w.alloc (.cells #[.slice a1 a.frags.length k1, .slice a2 a.defs.length k2] 25)).alloc (.cells #[.slice b1 b.frags.length k3, .slice b2 b.defs.length k4] 25)) (w.heap.size + 1) b1 b2 k3 k4 b) := by
    have h1 : Below w.heap.size w (w.alloc (.cells #[.slice a1 a.frags.length k1, .slice a2 a.defs.length k2] 25)) := (Below.refl _ _).alloc (Nat.le_refl _) _
    have v1 := (var_new hfa hda).later ((Below.refl _ _).alloc (Nat.le_refl _) (.cells #[.slice b1 b.frags.length k3, .slice b2 b.defs.length k4] 25))
    have v2 := var_new (hfb.later h1) (hdb.later h1)
    exact ⟨v1, by simpa using v2⟩
  have HB : Hid (Below w.heap.size w ((w.alloc (.cells #[.slice a1 a.frags.length k1, .slice a2 a.defs.length k2] 25)).alloc (.cells #[.slice b1 b.frags.length k3, .slice b2 b.defs.length k4] 25))) := ((Below.refl _ _).alloc (Nat.le_refl _) _).alloc (by simp) _
  clear hfa hda hfb hdb
  generalize (w.alloc (.cells #[.slice a1 a.frags.length k1, .slice a2 a.defs.length k2] 25)).alloc (.cells #[.slice b1 b.frags.length k3, .slice b2 b.defs.length k4] 25) = X0 at *
  obtain ⟨gl, hgl⟩ : ∃ l, (if M.checkPart a = 0 then M.groups a.frags else []) = l := ⟨_, rfl⟩
  obtain ⟨cc, ef, hdr⟩ : ∃ q r, dropOf b gl = (q, r) := ⟨_, _, rfl⟩
  obtain ⟨pp, re, hj⟩ : ∃ p r, M.join a b = (p, r) := ⟨_, _, rfl⟩
  have Hgl : Hid ((if M.checkPart a = 0 then M.groups a.frags else []) = gl) := hgl
  have Hdr : Hid (dropOf b gl = (cc, ef)) := hdr
  have Hj : Hid (M.join a b = (pp, re)) := hj
  clear hgl hdr hj
  have ca0 := HV.out.1.c0
  have ca1 := HV.out.1.c1
  have cb0 := HV.out.2.c0
  have cb1 := HV.out.2.c1
  have KJ : Hid (Calls Try.prog 9 #[.agg #[.slice a1 a.frags.length k1, .slice a2 a.defs.length k2], .agg #[.slice b1 b.frags.length k3, .slice b2 b.defs.length k4]] X0 _) := join_v HV.out.1.fr HV.out.1.df HV.out.2.fr HV.out.2.df pp re Hj.out
  go_upto_region 2 with (go_at_call 9; refine KJ.out.mono ?_; rintro e w' ⟨hb', f1, f3, f2, f4, rfl, hF, hD⟩)
  have Np := var_new hF hD
  have hb : Below X0.heap.size X0 (w'.alloc (.cells #[.slice f1 pp.frags.length f3, .slice f2 pp.defs.length f4] 25)) := hb'.alloc hb'.size _
  clear hF hD KJ hb' ca0 ca1 cb0 cb1
  generalize w'.alloc (.cells #[.slice f1 pp.frags.length f3, .slice f2 pp.defs.length f4] 25) = X1 at *
  generalize w'.heap.size = n5 at *
  have Np : Hid (Var X1 n5 f1 f2 f3 f4 pp) := Np
  have HV : Hid (Var X1 w.heap.size a1 a2 k1 k2 a ∧ Var X1 (w.heap.size + 1) b1 b2 k3 k4 b) := ⟨HV.out.1.later hb, HV.out.2.later hb⟩
  have HB : Hid (Below w.heap.size w X1) := HB.out.trans (hb.mono HB.out.size)
  clear hb
  have ca0 := HV.out.1.c0
  have ca1 := HV.out.1.c1
  have KG : Hid (Calls Try.prog 14 #[.agg #[.slice a1 a.frags.length k1, .slice a2 a.defs.length k2]] X1 fun e w' => Below X1.heap.size X1 w' ∧ ∃ ga gc, e = .returned (.tuple #[.slice ga gl.length gc, .int .i64 (M.checkPart a)]) ∧ StrsAt w' (.slice ga gl.length gc) gl) := groups_g HV.out.1.fr HV.out.1.df gl Hgl.out
  generalize hea : M.checkPart a = ea at KG
  have HEa : Hid (M.checkPart a = ea) := hea
  clear hea
  go_upto_region 3 with (go_at_call 14; refine KG.out.mono ?_; rintro e X2 ⟨hb, ga, gc, rfl, hS⟩)
  have Sg : Hid (StrsAt X2 (.slice ga gl.length gc) gl) := hS
  have HV : Hid (Var X2 w.heap.size a1 a2 k1 k2 a ∧ Var X2 (w.heap.size + 1) b1 b2 k3 k4 b) := ⟨HV.out.1.later hb, HV.out.2.later hb⟩
  have Np : Hid (Var X2 n5 f1 f2 f3 f4 pp) := Np.out.later hb
  have HB : Hid (Below w.heap.size w X2) := HB.out.trans (hb.mono HB.out.size)
  clear hb hS KG ca0 ca1
  have cb0 := HV.out.2.c0
  have cb1 := HV.out.2.c1
  have KD : Hid (Calls Try.prog 15 #[.agg #[.slice b1 b.frags.length k3, .slice b2 b.defs.length k4], .slice ga gl.length gc] X2 _) := drop_g HV.out.2.fr HV.out.2.df Sg.out cc ef Hdr.out
  go_upto_region 4 with (go_at_call 15; refine KD.out.mono ?_; rintro e w' ⟨hb', q1, q3, q2, q4, rfl, hF, hD⟩)
  have Nc := var_new hF hD
  have hb : Below X2.heap.size X2 (w'.alloc (.cells #[.slice q1 cc.frags.length q3, .slice q2 cc.defs.length q4] 25)) := hb'.alloc hb'.size _
  clear hF hD KD hb' cb0 cb1
  generalize w'.alloc (.cells #[.slice q1 cc.frags.length q3, .slice q2 cc.defs.length q4] 25) = X3 at *
  generalize w'.heap.size = n9 at *
  have Nc : Hid (Var X3 n9 q1 q2 q3 q4 cc) := Nc
  have Np : Hid (Var X3 n5 f1 f2 f3 f4 pp) := Np.out.later hb
  have HV : Hid (Var X3 w.heap.size a1 a2 k1 k2 a ∧ Var X3 (w.heap.size + 1) b1 b2 k3 k4 b) := ⟨HV.out.1.later hb, HV.out.2.later hb⟩
  have HB : Hid (Below w.heap.size w X3) := HB.out.trans (hb.mono HB.out.size)
  clear hb Sg
  have KS : Hid (∀ W, Calls Try.prog 18 #[] W fun e w' => e = .returned (.bool true) ∧ Below W.heap.size W w') := found_any
  by_cases hok : re = 0 ∧ ea = 0 ∧ ef = 0
  · obtain ⟨rfl, rfl, rfl⟩ := hok
    have hca : M.checkPart a = 0 := HEa.out
    have hgl : M.groups a.frags = gl := by have := Hgl.out; rwa [if_pos hca] at this
    obtain ⟨hoa, hob, _, hpp, hop⟩ := M.join_ok (a := a) (b := b) (by rw [Hj.out])
    rw [Hj.out, hgl] at hpp
    rw [Hj.out] at hop
    replace hpp : pp = M.put a gl b := hpp
    have hcb : M.checkPart b = 0 := (M.ok_iff b).2 hob
    have hcc : M.drop b gl = cc := by have := Hdr.out; unfold dropOf at this; rw [if_pos hcb] at this; exact congrArg Prod.fst this
    have hoc : M.Ok cc := by rw [← hcc]; exact M.ok_drop hob gl
    have hcp : M.checkPart pp = 0 := (M.ok_iff pp).2 hop
    have hck : M.checkPart cc = 0 := (M.ok_iff cc).2 hoc
    have lwa := wanted_len hoa
    have lwc := wanted_len hoc
    have lda := defined_len hoa
    have ldc := defined_len hoc
    have llp : (M.lacking pp).length ≤ 480 := Nat.le_trans (List.length_filter_le _ _) (wanted_len hop)
    have HWE : Hid (M.rising (M.wanted a ++ M.wanted cc) = M.wanted pp) := by rw [Hid, ← hcc, hpp]; exact M.wanted_both a b gl
    have HDE : Hid (M.rising (M.defined a ++ M.defined cc) = M.defined pp) := by rw [Hid, ← hcc, hpp]; exact M.defined_both a b gl hob
    have HLS : Hid (M.Strict (M.lacking pp)) := M.lacking_strict pp
    have HLN : Hid ((M.lacking pp).any (fun s => M.has (M.defined pp) s) = false) := by
      rw [Hid, List.any_eq_false]
      intro s hs
      rw [M.lacking_not pp s hs]
      simp
    have KWa : Hid (∀ W, Below X3.heap.size X3 W → Calls Try.prog 19 #[.agg #[.slice a1 a.frags.length k1, .slice a2 a.defs.length k2]] W fun e w' => Below W.heap.size W w' ∧ ∃ x y, e = .returned (.tuple #[.slice x (M.wanted a).length y, .int .i64 0]) ∧ w'.ownsRow W.heap.size 9 1 (.slice x (M.wanted a).length y) (M.wanted a).length ((M.wanted a).map Value.string) ∧ ∀ s ∈ M.wanted a, s.size ≤ maxLen) := fun W hW => wantedP_v (HV.out.1.later hW).fr (HV.out.1.later hW).df hca _ rfl
    have KWc : Hid (∀ W, Below X3.heap.size X3 W → Calls Try.prog 19 #[.agg #[.slice q1 cc.frags.length q3, .slice q2 cc.defs.length q4]] W fun e w' => Below W.heap.size W w' ∧ ∃ x y, e = .returned (.tuple #[.slice x (M.wanted cc).length y, .int .i64 0]) ∧ w'.ownsRow W.heap.size 9 1 (.slice x (M.wanted cc).length y) (M.wanted cc).length ((M.wanted cc).map Value.string) ∧ ∀ s ∈ M.wanted cc, s.size ≤ maxLen) := fun W hW => wantedP_v (Nc.out.later hW).fr (Nc.out.later hW).df hck _ rfl
    have KWp : Hid (∀ W, Below X3.heap.size X3 W → Calls Try.prog 19 #[.agg #[.slice f1 pp.frags.length f3, .slice f2 pp.defs.length f4]] W fun e w' => Below W.heap.size W w' ∧ ∃ x y, e = .returned (.tuple #[.slice x (M.wanted pp).length y, .int .i64 0]) ∧ w'.ownsRow W.heap.size 9 1 (.slice x (M.wanted pp).length y) (M.wanted pp).length ((M.wanted pp).map Value.string) ∧ ∀ s ∈ M.wanted pp, s.size ≤ maxLen) := fun W hW => wantedP_v (Np.out.later hW).fr (Np.out.later hW).df hcp _ rfl
    have KDa : Hid (∀ W, Below X3.heap.size X3 W → Calls Try.prog 20 #[.agg #[.slice a1 a.frags.length k1, .slice a2 a.defs.length k2]] W fun e w' => Below W.heap.size W w' ∧ ∃ x y, e = .returned (.tuple #[.slice x (M.defined a).length y, .int .i64 0]) ∧ w'.ownsRow W.heap.size 9 1 (.slice x (M.defined a).length y) (M.defined a).length ((M.defined a).map Value.string) ∧ ∀ s ∈ M.defined a, s.size ≤ maxLen) := fun W hW => definedP_v (HV.out.1.later hW).fr (HV.out.1.later hW).df hca _ rfl
    have KDc : Hid (∀ W, Below X3.heap.size X3 W → Calls Try.prog 20 #[.agg #[.slice q1 cc.frags.length q3, .slice q2 cc.defs.length q4]] W fun e w' => Below W.heap.size W w' ∧ ∃ x y, e = .returned (.tuple #[.slice x (M.defined cc).length y, .int .i64 0]) ∧ w'.ownsRow W.heap.size 9 1 (.slice x (M.defined cc).length y) (M.defined cc).length ((M.defined cc).map Value.string) ∧ ∀ s ∈ M.defined cc, s.size ≤ maxLen) := fun W hW => definedP_v (Nc.out.later hW).fr (Nc.out.later hW).df hck _ rfl
    have KDp : Hid (∀ W, Below X3.heap.size X3 W → Calls Try.prog 20 #[.agg #[.slice f1 pp.frags.length f3, .slice f2 pp.defs.length f4]] W fun e w' => Below W.heap.size W w' ∧ ∃ x y, e = .returned (.tuple #[.slice x (M.defined pp).length y, .int .i64 0]) ∧ w'.ownsRow W.heap.size 9 1 (.slice x (M.defined pp).length y) (M.defined pp).length ((M.defined pp).map Value.string) ∧ ∀ s ∈ M.defined pp, s.size ≤ maxLen) := fun W hW => definedP_v (Np.out.later hW).fr (Np.out.later hW).df hcp _ rfl
    have KL : Hid (∀ W, Below X3.heap.size X3 W → Calls Try.prog 24 #[.agg #[.slice f1 pp.frags.length f3, .slice f2 pp.defs.length f4]] W fun e w' => Below W.heap.size W w' ∧ ∃ x y, e = .returned (.tuple #[.slice x (M.lacking pp).length y, .int .i64 0]) ∧ StrsAt w' (.slice x (M.lacking pp).length y) (M.lacking pp)) := fun W hW => lackingP_v (Np.out.later hW).fr (Np.out.later hW).df hcp _ rfl
    clear hca hgl hoa hob hpp hop hcb hcc hoc hcp hck Hgl Hdr Hj HEa
    generalize M.wanted a = xw at *
    generalize M.wanted cc = yw at *
    generalize M.wanted pp = zw at *
    generalize M.defined a = xd at *
    generalize M.defined cc = yd at *
    generalize M.defined pp = zd at *
    generalize M.lacking pp = ll at *
    go_upto_region 7 with (go_at_call 18; refine (KS.out _).mono ?_; rintro e X4 ⟨rfl, hb4⟩)
    have qf := heap_alloc_new X4 (.cells #[.func (.func 19) #[] #[], .func (.func 20) #[] #[]] 37)
    have hbf : Below X3.heap.size X3 (X4.alloc (.cells #[.func (.func 19) #[] #[], .func (.func 20) #[] #[]] 37)) := hb4.alloc hb4.size _
    generalize X4.alloc (.cells #[.func (.func 19) #[] #[], .func (.func 20) #[] #[]] 37) = X5 at *
    generalize X4.heap.size = nf at *
    clear hb4 KS
    go_loopw [56] (fun s56 wr => ∃ (k : Nat), k ≤ 2 ∧ s56 = .int .i64 k ∧ wr.heap[nf]? = some (.cells #[.func (.func 19) #[] #[], .func (.func 20) #[] #[]] 37 (0, 0)) ∧ Hid (Below X3.heap.size X3 wr)) (fun s56 _ => 2 - (intOf s56).toNat)
    case atStart => exact ⟨0, by omega, rfl, qf, hbf⟩
    case round =>
      obtain ⟨k, hk, rfl, qr, HR⟩ := hrel
      clear qf hbf
      have hnf : nf < wr.heap.size := (Array.getElem?_eq_some_iff.1 qr).1
      have g0 : wr.cell? ⟨nf, 0, none⟩ = some (.func (.func 19) #[] #[]) := cellB qr 0
      have g1 : wr.cell? ⟨nf, 1, none⟩ = some (.func (.func 20) #[] #[]) := cellB qr 1
      have ca0 := (HV.out.1.later HR.out).c0
      have ca1 := (HV.out.1.later HR.out).c1
      rcases (by omega : k = 0 ∨ k = 1 ∨ k = 2) with rfl | rfl | rfl
      · go_upto_region 10 with (go_at_call 19; refine (KWa.out _ HR.out).mono ?_; rintro e W1 ⟨hb1, xa, xc, rfl, ox, sx⟩)
        have H1 : Hid (Below X3.heap.size X3 W1) := HR.out.trans (hb1.mono HR.out.size)
        have HX1 : Hid (StrsAt W1 (.slice xa xw.length xc) xw ∧ Below wr.heap.size wr W1) := ⟨row_strs ox sx, hb1⟩
        clear ox sx hb1 ca0 ca1 g0 g1
        have cc0 := (Nc.out.later H1.out).c0
        have cc1 := (Nc.out.later H1.out).c1
        go_upto_region 11 with (go_at_call 19; refine (KWc.out _ H1.out).mono ?_; rintro e W2 ⟨hb2, ya, yc, rfl, oy, sy⟩)
        have H2 : Hid (Below X3.heap.size X3 W2) := H1.out.trans (hb2.mono H1.out.size)
        have HX2 : Hid (StrsAt W2 (.slice xa xw.length xc) xw ∧ StrsAt W2 (.slice ya yw.length yc) yw ∧ Below wr.heap.size wr W2) := ⟨HX1.out.1.later hb2, row_strs oy sy, HX1.out.2.trans (hb2.mono HX1.out.2.size)⟩
        clear oy sy hb2 cc0 cc1 HX1
        have cp0 := (Np.out.later H2.out).c0
        have cp1 := (Np.out.later H2.out).c1
        go_upto_region 12 with (go_at_call 19; refine (KWp.out _ H2.out).mono ?_; rintro e W3 ⟨hb3, za, zc, rfl, oz, sz⟩)
        have R3 : Hid (Below wr.heap.size wr W3) := HX2.out.2.2.trans (hb3.mono HX2.out.2.2.size)
        have hx3 := HX2.out.1.later hb3
        have hy3 := HX2.out.2.1.later hb3
        have ozb := row_base oz HX2.out.2.2.size
        clear hb3 cp0 cp1 H1 H2 oz HX2
        have qz := heap_alloc_new W3 (.cells #[.slice xa xw.length xc, .slice ya yw.length yc] 35)
        have hbZ : Hid (Below W3.heap.size W3 (W3.alloc (.cells #[.slice xa xw.length xc, .slice ya yw.length yc] 35))) := (Below.refl _ _).alloc (Nat.le_refl _) _
        obtain ⟨L, hL⟩ : ∃ L, xw ++ yw = L := ⟨_, rfl⟩
        have HL : Hid (M.rising L = zw) := by rw [Hid, ← hL]; exact HWE.out
        have hlen : L.length ≤ 100000 := by rw [← hL, List.length_append]; omega
        have KC : Hid (Calls Try.prog 21 #[.slice (some ⟨W3.heap.size, 0, none⟩) 2 2] (W3.alloc (.cells #[.slice xa xw.length xc, .slice ya yw.length yc] 35)) fun e w' => Below (W3.alloc (.cells #[.slice xa xw.length xc, .slice ya yw.length yc] 35)).heap.size (W3.alloc (.cells #[.slice xa xw.length xc, .slice ya yw.length yc] 35)) w' ∧ ∃ va vc, e = .returned (.slice va L.length vc) ∧ w'.ownsRow W3.heap.size 9 1 (.slice va L.length vc) L.length (L.map Value.string)) := by
          have := concat_any xw yw xa ya xc yc W3.heap.size _ (hx3.later hbZ.out) (hy3.later hbZ.out) (by omega) (by omega) qz
          rw [hL] at this
          refine this.mono ?_
          rintro e w' ⟨h1, v, rfl, h3⟩
          obtain ⟨va, vc, rfl⟩ := own_len h3
          exact ⟨h1, va, vc, rfl, row_base h3 (by simp)⟩
        clear hL
        have HOz : Hid (W3.ownsRow wr.heap.size 9 1 (.slice za zw.length zc) zw.length (zw.map Value.string)) := ozb
        have HSz : Hid (∀ s ∈ zw, s.size ≤ maxLen) := sz
        clear hx3 hy3 qz ozb sz
        go_upto_region 13 with (go_at_call 21; refine KC.out.mono ?_; rintro e W4 ⟨hb4, va, vc, rfl, o4'⟩)
        have R4 : Hid (Below W3.heap.size W3 W4) := hbZ.out.trans (hb4.mono hbZ.out.size)
        clear hb4 KC hbZ
        have KO : Hid (Calls Try.prog 22 #[.slice va L.length vc] W4 _) := sort_own L W3.heap.size _ W4 o4' hlen
        go_upto_region 14 with (go_at_call 22; refine KO.out.mono ?_; rintro e W5 ⟨rfl, hg5, o5⟩)
        have R5 : Hid (Below W3.heap.size W3 W5) := grown_below R4.out R4.out.size o4' hg5
        clear KO hg5 o4' R4
        have KX : Hid (Calls Try.prog 23 #[.slice va L.length vc] W5 fun e w' => W5.grownBy w' (Value.slice va L.length vc).ownBlock ∧ ∃ x c, e = .returned (.slice x zw.length c) ∧ w'.ownsRow W3.heap.size 9 1 (.slice x zw.length c) zw.length (zw.map Value.string)) := by
          have := compact_own L W3.heap.size _ W5 o5 hlen
          rwa [HL.out] at this
        have HO5 : Hid _ := o5
        clear o5 hlen HL
        go_wp2_with (go_at_call 23; refine KX.out.mono ?_; rintro e W6 ⟨hg6, ra, rc, rfl, o6⟩; refine Hid.out ?_)
        have R6 : Hid (Below W3.heap.size W3 W6) := grown_below R5.out R5.out.size HO5.out hg6
        have KE : Hid (Calls Try.prog 16 #[.slice ra zw.length rc, .slice za zw.length zc] W6 fun e w' => e = .returned (.bool true) ∧ Below W6.heap.size W6 w') := by
          have := equalS_any zw zw ra za rc zc W6 (row_strs o6 HSz.out) ((row_strs HOz.out HSz.out).later R6.out)
          rwa [texts_refl] at this
        have R6' : Hid (Below wr.heap.size wr W6) := R3.out.trans (R6.out.mono R3.out.size)
        clear KX hg6 o6 R5 R6 HO5
        refine Lib.hid ?_
        go_wp2_with (go_at_call 16; refine KE.out.mono ?_; rintro e W7 ⟨rfl, hb7⟩)
        have R7 := R6'.out.trans (hb7.mono R6'.out.size)
        go_roundw
        case rel => exact ⟨1, by omega, by go_num, (R7.block _ hnf).trans qr, HR.out.trans (R7.mono HR.out.size)⟩
        case measure => simp [intOf]
      · go_upto_region 10 with (go_at_call 20; refine (KDa.out _ HR.out).mono ?_; rintro e W1 ⟨hb1, xa, xc, rfl, ox, sx⟩)
        have H1 : Hid (Below X3.heap.size X3 W1) := HR.out.trans (hb1.mono HR.out.size)
        have HX1 : Hid (StrsAt W1 (.slice xa xd.length xc) xd ∧ Below wr.heap.size wr W1) := ⟨row_strs ox sx, hb1⟩
        clear ox sx hb1 ca0 ca1 g0 g1
        have cc0 := (Nc.out.later H1.out).c0
        have cc1 := (Nc.out.later H1.out).c1
        go_upto_region 11 with (go_at_call 20; refine (KDc.out _ H1.out).mono ?_; rintro e W2 ⟨hb2, ya, yc, rfl, oy, sy⟩)
        have H2 : Hid (Below X3.heap.size X3 W2) := H1.out.trans (hb2.mono H1.out.size)
        have HX2 : Hid (StrsAt W2 (.slice xa xd.length xc) xd ∧ StrsAt W2 (.slice ya yd.length yc) yd ∧ Below wr.heap.size wr W2) := ⟨HX1.out.1.later hb2, row_strs oy sy, HX1.out.2.trans (hb2.mono HX1.out.2.size)⟩
        clear oy sy hb2 cc0 cc1 HX1
        have cp0 := (Np.out.later H2.out).c0
        have cp1 := (Np.out.later H2.out).c1
        go_upto_region 12 with (go_at_call 20; refine (KDp.out _ H2.out).mono ?_; rintro e W3 ⟨hb3, za, zc, rfl, oz, sz⟩)
        have R3 : Hid (Below wr.heap.size wr W3) := HX2.out.2.2.trans (hb3.mono HX2.out.2.2.size)
        have hx3 := HX2.out.1.later hb3
        have hy3 := HX2.out.2.1.later hb3
        have ozb := row_base oz HX2.out.2.2.size
        clear hb3 cp0 cp1 H1 H2 oz HX2
        have qz := heap_alloc_new W3 (.cells #[.slice xa xd.length xc, .slice ya yd.length yc] 35)
        have hbZ : Hid (Below W3.heap.size W3 (W3.alloc (.cells #[.slice xa xd.length xc, .slice ya yd.length yc] 35))) := (Below.refl _ _).alloc (Nat.le_refl _) _
        obtain ⟨L, hL⟩ : ∃ L, xd ++ yd = L := ⟨_, rfl⟩
        have HL : Hid (M.rising L = zd) := by rw [Hid, ← hL]; exact HDE.out
        have hlen : L.length ≤ 100000 := by rw [← hL, List.length_append]; omega
        have KC : Hid (Calls Try.prog 21 #[.slice (some ⟨W3.heap.size, 0, none⟩) 2 2] (W3.alloc (.cells #[.slice xa xd.length xc, .slice ya yd.length yc] 35)) fun e w' => Below (W3.alloc (.cells #[.slice xa xd.length xc, .slice ya yd.length yc] 35)).heap.size (W3.alloc (.cells #[.slice xa xd.length xc, .slice ya yd.length yc] 35)) w' ∧ ∃ va vc, e = .returned (.slice va L.length vc) ∧ w'.ownsRow W3.heap.size 9 1 (.slice va L.length vc) L.length (L.map Value.string)) := by
          have := concat_any xd yd xa ya xc yc W3.heap.size _ (hx3.later hbZ.out) (hy3.later hbZ.out) (by omega) (by omega) qz
          rw [hL] at this
          refine this.mono ?_
          rintro e w' ⟨h1, v, rfl, h3⟩
          obtain ⟨va, vc, rfl⟩ := own_len h3
          exact ⟨h1, va, vc, rfl, row_base h3 (by simp)⟩
        clear hL
        have HOz : Hid (W3.ownsRow wr.heap.size 9 1 (.slice za zd.length zc) zd.length (zd.map Value.string)) := ozb
        have HSz : Hid (∀ s ∈ zd, s.size ≤ maxLen) := sz
        clear hx3 hy3 qz ozb sz
        go_upto_region 13 with (go_at_call 21; refine KC.out.mono ?_; rintro e W4 ⟨hb4, va, vc, rfl, o4'⟩)
        have R4 : Hid (Below W3.heap.size W3 W4) := hbZ.out.trans (hb4.mono hbZ.out.size)
        clear hb4 KC hbZ
        have KO : Hid (Calls Try.prog 22 #[.slice va L.length vc] W4 _) := sort_own L W3.heap.size _ W4 o4' hlen
        go_upto_region 14 with (go_at_call 22; refine KO.out.mono ?_; rintro e W5 ⟨rfl, hg5, o5⟩)
        have R5 : Hid (Below W3.heap.size W3 W5) := grown_below R4.out R4.out.size o4' hg5
        clear KO hg5 o4' R4
        have KX : Hid (Calls Try.prog 23 #[.slice va L.length vc] W5 fun e w' => W5.grownBy w' (Value.slice va L.length vc).ownBlock ∧ ∃ x c, e = .returned (.slice x zd.length c) ∧ w'.ownsRow W3.heap.size 9 1 (.slice x zd.length c) zd.length (zd.map Value.string)) := by
          have := compact_own L W3.heap.size _ W5 o5 hlen
          rwa [HL.out] at this
        have HO5 : Hid _ := o5
        clear o5 hlen HL
        go_wp2_with (go_at_call 23; refine KX.out.mono ?_; rintro e W6 ⟨hg6, ra, rc, rfl, o6⟩; refine Hid.out ?_)
        have R6 : Hid (Below W3.heap.size W3 W6) := grown_below R5.out R5.out.size HO5.out hg6
        have KE : Hid (Calls Try.prog 16 #[.slice ra zd.length rc, .slice za zd.length zc] W6 fun e w' => e = .returned (.bool true) ∧ Below W6.heap.size W6 w') := by
          have := equalS_any zd zd ra za rc zc W6 (row_strs o6 HSz.out) ((row_strs HOz.out HSz.out).later R6.out)
          rwa [texts_refl] at this
        have R6' : Hid (Below wr.heap.size wr W6) := R3.out.trans (R6.out.mono R3.out.size)
        clear KX hg6 o6 R5 R6 HO5
        refine Lib.hid ?_
        go_wp2_with (go_at_call 16; refine KE.out.mono ?_; rintro e W7 ⟨rfl, hb7⟩)
        have R7 := R6'.out.trans (hb7.mono R6'.out.size)
        go_roundw
        case rel => exact ⟨2, by omega, by go_num, (R7.block _ hnf).trans qr, HR.out.trans (R7.mono HR.out.size)⟩
        case measure => simp [intOf]
      · clear g0 g1 ca0 ca1
        have cp0 := (Np.out.later HR.out).c0
        have cp1 := (Np.out.later HR.out).c1
        go_upto_region 18 with (go_at_call 24; refine (KL.out _ HR.out).mono ?_; rintro e W1 ⟨hb1, xa, xc, rfl, sl⟩)
        have H1 : Hid (Below X3.heap.size X3 W1) := HR.out.trans (hb1.mono HR.out.size)
        clear cp0 cp1 hb1
        have cp0 := (Np.out.later H1.out).c0
        have cp1 := (Np.out.later H1.out).c1
        go_upto_region 19 with (go_at_call 20; refine (KDp.out _ H1.out).mono ?_; rintro e W2 ⟨hb2, ya, yc, rfl, oy, sy⟩)
        have hb3 : Below W1.heap.size W1 (W2.alloc (.cells #[.slice ya zd.length yc] 35)) := hb2.alloc hb2.size _
        have qd := heap_alloc_new W2 (.cells #[.slice ya zd.length yc] 35)
        have sd := (row_strs oy sy).later ((Below.refl W2.heap.size W2).alloc (Nat.le_refl _) (.cells #[.slice ya zd.length yc] 35))
        have sl := sl.later hb3
        have H3 : Hid (Below X3.heap.size X3 (W2.alloc (.cells #[.slice ya zd.length yc] 35))) := H1.out.trans (hb3.mono H1.out.size)
        clear cp0 cp1 hb2 hb3 oy sy
        generalize W2.alloc (.cells #[.slice ya zd.length yc] 35) = X6 at *
        generalize W2.heap.size = n21 at *
        have KI : Hid (Calls Try.prog 25 #[.slice xa ll.length xc] X6 fun e w' => e = .returned (.bool true) ∧ Below X6.heap.size X6 w') := sorted_any ll xa xc X6 sl HLS.out (by omega)
        have KN : Hid (∀ W, Below X6.heap.size X6 W → Calls Try.prog 26 #[.slice xa ll.length xc, .func (.func 27) #[] #[.pointer (some ⟨n21, 0, none⟩)]] W fun e w' => e = .returned (.bool false) ∧ Below W.heap.size W w') := fun W hW => by
          have := containsF_any ll zd xa ya xc yc n21 W (sl.later hW) (sd.later hW) (cell_later hW (cellB qd 0))
          rwa [HLN.out] at this
        have HB3 : Hid (Below w.heap.size w X6) := HB.out.trans (H3.out.mono HB.out.size)
        clear sl sd qd
        go_wp2_with (first | (go_at_call 25; refine KI.out.mono ?_; rintro e W7 ⟨rfl, hb7⟩) | (go_at_call 26; refine (KN.out _ hb7).mono ?_; rintro e W8 ⟨rfl, hb8⟩))
        go_ret
        exact ⟨rfl, HB3.out.trans ((hb7.trans (hb8.mono hb7.size)).mono HB3.out.size)⟩
  · have hway : ((re != 0) = true ∨ (re != 0) = false ∧ (ea != 0) = true) ∨ (re != 0) = false ∧ (ea != 0) = false ∧ (ef != 0) = true := by
      by_cases h1 : re = 0
      · by_cases h2 : ea = 0
        · exact .inr ⟨by simpa using h1, by simpa using h2, by simpa using fun h3 => hok ⟨h1, h2, h3⟩⟩
        · exact .inl (.inr ⟨by simpa using h1, by simpa using h2⟩)
      · exact .inl (.inl (by simpa using h1))
    clear hok Hgl Hdr Hj HEa HV Np Nc
    rcases hway with (h1 | ⟨h1, h2⟩) | ⟨h1, h2, h3⟩
    all_goals
      go_upto_region 5 with (go_at_call 18; refine (KS.out _).mono ?_; rintro e X4 ⟨rfl, hb4⟩)
      go_wp2_with (go_at_call 18; refine (KS.out _).mono ?_; rintro e X5 ⟨rfl, hb5⟩)
      go_ret
      exact ⟨rfl, (HB.out.trans (hb4.mono HB.out.size)).trans (hb5.mono (Nat.le_trans HB.out.size hb4.size))⟩

end Go.Proofs.Ytebhbhbhcoijpaa
