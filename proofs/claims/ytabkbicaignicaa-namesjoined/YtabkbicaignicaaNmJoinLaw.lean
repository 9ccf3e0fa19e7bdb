/-
  The law of NamesJoined: it is true of every two parts and every name.
-/
import Derived.Test.YtabkbicaignicaaNmFound
import Derived.Test.YtabkbicaignicaaNmMath4
import Derived.Test.YtabkbicaignicaaPrtDropG
namespace Go.Proofs.Ytabkbicaignicaa
open Go.RowKit
set_option linter.unusedVariables false

/-- a variable that holds a definition -/
def DVar (w : World) (b : Nat) (d : M.Dfn) : Prop := w.heap[b]? = some (.cells (dfnArr d) 71 (0, 0))
theorem DVar.later {w w' : World} {b : Nat} {d : M.Dfn} (h : DVar w b d) (hb : Below w.heap.size w w') : DVar w' b d := (hb.block _ (Array.getElem?_eq_some_iff.1 h).1).trans h
theorem DVar.lt {w : World} {b : Nat} {d : M.Dfn} (h : DVar w b d) : b < w.heap.size := (Array.getElem?_eq_some_iff.1 h).1

theorem same_dfn (d : M.Dfn) : M.sameDfn d d = true := M.sameDfn_self d

set_option maxHeartbeats 16000000 in
set_option maxRecDepth 100000 in
theorem joined_law (a b : M.Prt) (s : ByteArray) (a1 a2 b1 b2 : Option Addr) (k1 k2 k3 k4 : Nat) (w : World) (hfa : FragsAt w (.slice a1 a.frags.length k1) a.frags) (hda : DefsAt w (.slice a2 a.defs.length k2) a.defs)
    (hfb : FragsAt w (.slice b1 b.frags.length k3) b.frags) (hdb : DefsAt w (.slice b2 b.defs.length k4) b.defs) :
    Calls Try.prog 8 #[.agg #[.slice a1 a.frags.length k1, .slice a2 a.defs.length k2], .agg #[.slice b1 b.frags.length k3, .slice b2 b.defs.length k4], .string s] w fun e w' => e = .returned (.bool true) ∧ Below w.heap.size w w' := by
  go_enter Try.func8, Try.ntmps8
  go_upto_region 1 with fail
  have HV : Hid (Var ((w.alloc (.cells #[.slice a1 a.frags.length k1, .slice a2 a.defs.length k2] 25)).alloc (.cells #[.slice b1 b.frags.length k3, .slice b2 b.defs.length k4] 25)) w.heap.size a1 a2 k1 k2 a ∧ Var ((w.alloc (.cells #[.slice a1 a.frags.length k1, .slice a2 a.defs.length k2] 25)).alloc (.cells #[.slice b1 b.frags.length k3, .slice b2 b.defs.length k4] 25)) (w.heap.size + 1) b1 b2 k3 k4 b) := by
    have h1 : Below w.heap.size w (w.alloc (.cells #[.slice a1 a.frags.length k1, .slice a2 a.defs.length k2] 25)) := (Below.refl _ _).alloc (Nat.le_refl _) _
    have v1 := (var_new hfa hda).later ((Below.refl _ _).alloc (Nat.le_refl _) (.cells #[.slice b1 b.frags.length k3, .slice b2 b.defs.length k4] 25))
    have v2 := var_new (hfb.later h1) (hdb.later h1)
    exact ⟨v1, by simpa using v2⟩
  have HB : Hid (Below w.heap.size w ((w.alloc (.cells #[.slice a1 a.frags.length k1, .slice a2 a.defs.length k2] 25)).alloc (.cells #[.slice b1 b.frags.length k3, .slice b2 b.defs.length k4] 25))) := ((Below.refl _ _).alloc (Nat.le_refl _) _).alloc (by simp) _
  clear hfa hda hfb hdb
  generalize (w.alloc (.cells #[.slice a1 a.frags.length k1, .slice a2 a.defs.length k2] 25)).alloc (.cells #[.slice b1 b.frags.length k3, .slice b2 b.defs.length k4] 25) = X0 at *
  obtain ⟨gl, hgl⟩ : ∃ l, (if M.checkPart a = 0 then M.groups a.frags else []) = l := ⟨_, rfl⟩
  obtain ⟨cc, ef, hdr⟩ : ∃ q r, dropOf b gl = (q, r) := ⟨_, _, rfl⟩
  obtain ⟨pp, re, hj⟩ : ∃ p r, M.join a b = (p, r) := ⟨_, _, rfl⟩
  have ca0 := HV.out.1.c0
  have ca1 := HV.out.1.c1
  have KG : Hid (Calls Try.prog 31 #[.agg #[.slice a1 a.frags.length k1, .slice a2 a.defs.length k2]] X0 fun e w' => Below X0.heap.size X0 w' ∧ ∃ ga gc, e = .returned (.tuple #[.slice ga gl.length gc, .int .i64 (M.checkPart a)]) ∧ StrsAt w' (.slice ga gl.length gc) gl) := groups_g HV.out.1.fr HV.out.1.df gl hgl
  have Hgl : Hid ((if M.checkPart a = 0 then M.groups a.frags else []) = gl) := hgl
  have Hdr : Hid (dropOf b gl = (cc, ef)) := hdr
  have Hj : Hid (M.join a b = (pp, re)) := hj
  clear hgl hdr hj
  have HEa : Hid (M.checkPart a = M.checkPart a) := rfl
  generalize hea : M.checkPart a = ea at KG
  have HEa : Hid (M.checkPart a = ea) := hea
  clear hea
  go_upto_region 2 with (go_at_call 31; refine KG.out.mono ?_; rintro e X1 ⟨hb, ga, gc, rfl, hS⟩)
  have Sg : Hid (StrsAt X1 (.slice ga gl.length gc) gl) := hS
  have HV : Hid (Var X1 w.heap.size a1 a2 k1 k2 a ∧ Var X1 (w.heap.size + 1) b1 b2 k3 k4 b) := ⟨HV.out.1.later hb, HV.out.2.later hb⟩
  have HB : Hid (Below w.heap.size w X1) := HB.out.trans (hb.mono HB.out.size)
  clear hb hS KG ca0 ca1
  have cb0 := HV.out.2.c0
  have cb1 := HV.out.2.c1
  have KD : Hid (Calls Try.prog 32 #[.agg #[.slice b1 b.frags.length k3, .slice b2 b.defs.length k4], .slice ga gl.length gc] X1 _) := drop_g HV.out.2.fr HV.out.2.df Sg.out cc ef Hdr.out
  go_upto_region 3 with (go_at_call 32; refine KD.out.mono ?_; rintro e w' ⟨hb', q1, q3, q2, q4, rfl, hF, hD⟩)
  have Nc := var_new hF hD
  have hb : Below X1.heap.size X1 (w'.alloc (.cells #[.slice q1 cc.frags.length q3, .slice q2 cc.defs.length q4] 25)) := hb'.alloc hb'.size _
  clear hF hD KD hb' cb0 cb1
  generalize w'.alloc (.cells #[.slice q1 cc.frags.length q3, .slice q2 cc.defs.length q4] 25) = X2 at *
  generalize w'.heap.size = n9 at *
  have Nc : Hid (Var X2 n9 q1 q2 q3 q4 cc) := Nc
  have HV : Hid (Var X2 w.heap.size a1 a2 k1 k2 a ∧ Var X2 (w.heap.size + 1) b1 b2 k3 k4 b) := ⟨HV.out.1.later hb, HV.out.2.later hb⟩
  have HB : Hid (Below w.heap.size w X2) := HB.out.trans (hb.mono HB.out.size)
  clear hb Sg
  have ca0 := HV.out.1.c0
  have ca1 := HV.out.1.c1
  have cb0 := HV.out.2.c0
  have cb1 := HV.out.2.c1
  have KJ : Hid (Calls Try.prog 29 #[.agg #[.slice a1 a.frags.length k1, .slice a2 a.defs.length k2], .agg #[.slice b1 b.frags.length k3, .slice b2 b.defs.length k4]] X2 _) := join_v HV.out.1.fr HV.out.1.df HV.out.2.fr HV.out.2.df pp re Hj.out
  go_upto_region 4 with (go_at_call 29; refine KJ.out.mono ?_; rintro e w' ⟨hb', f1, f3, f2, f4, rfl, hF, hD⟩)
  have Np := var_new hF hD
  have hb : Below X2.heap.size X2 (w'.alloc (.cells #[.slice f1 pp.frags.length f3, .slice f2 pp.defs.length f4] 25)) := hb'.alloc hb'.size _
  clear hF hD KJ hb' ca0 ca1 cb0 cb1
  generalize w'.alloc (.cells #[.slice f1 pp.frags.length f3, .slice f2 pp.defs.length f4] 25) = X3 at *
  generalize w'.heap.size = n11 at *
  have Np : Hid (Var X3 n11 f1 f2 f3 f4 pp) := Np
  have Nc : Hid (Var X3 n9 q1 q2 q3 q4 cc) := Nc.out.later hb
  have HV : Hid (Var X3 w.heap.size a1 a2 k1 k2 a ∧ Var X3 (w.heap.size + 1) b1 b2 k3 k4 b) := ⟨HV.out.1.later hb, HV.out.2.later hb⟩
  have HB : Hid (Below w.heap.size w X3) := HB.out.trans (hb.mono HB.out.size)
  clear hb
  have KS : Hid (∀ W, Calls Try.prog 33 #[] W fun e w' => e = .returned (.bool true) ∧ Below W.heap.size W w') := found_any
  by_cases hok : ea = 0 ∧ ef = 0 ∧ re = 0
  · obtain ⟨rfl, rfl, rfl⟩ := hok
    have hca : M.checkPart a = 0 := HEa.out
    have hgl : M.groups a.frags = gl := by have := Hgl.out; rwa [if_pos hca] at this
    obtain ⟨hoa, hob, _, hpp, hop⟩ := M.join_ok (a := a) (b := b) (by rw [Hj.out])
    rw [Hj.out, hgl] at hpp
    rw [Hj.out] at hop
    have hcb : M.checkPart b = 0 := (M.ok_iff b).2 hob
    have hcc : M.drop b gl = cc := by have := Hdr.out; unfold dropOf at this; rw [if_pos hcb] at this; exact congrArg Prod.fst this
    have hoc : M.Ok cc := by rw [← hcc]; exact M.ok_drop hob gl
    have HW : Hid (M.Ways a.frags.length (M.find a.defs s) (M.find cc.defs s) (M.find pp.defs s)) := by
      have := M.ways a b gl s hob
      rw [hcc] at this
      rw [show pp = M.put a gl b from hpp]
      exact this
    have Hfr : Hid ((M.find cc.defs s).1.kind = 1 ∨ (M.find cc.defs s).1.kind = 2 → 0 ≤ (M.find cc.defs s).1.frag ∧ (M.find cc.defs s).1.frag < 60) := M.find_frag hoc s
    have hna := hoa.nf
    have FA : findOf a s = M.find a.defs s := if_pos hca
    have FC : findOf cc s = M.find cc.defs s := if_pos ((M.ok_iff cc).2 hoc)
    have FP : findOf pp s = M.find pp.defs s := if_pos ((M.ok_iff pp).2 hop)
    have KA : Hid (∀ W, Below X3.heap.size X3 W → Calls Try.prog 26 #[.agg #[.slice a1 a.frags.length k1, .slice a2 a.defs.length k2], .string s] W fun e w' => e = .returned (.tuple #[.agg (dfnArr (M.find a.defs s).1), .int .i64 (M.find a.defs s).2]) ∧ Below W.heap.size W w') := fun W hW => by
      have := findP_any a s a1 a2 k1 k2 W (HV.out.1.later hW).fr (HV.out.1.later hW).df
      rwa [FA] at this
    have KC : Hid (∀ W, Below X3.heap.size X3 W → Calls Try.prog 26 #[.agg #[.slice q1 cc.frags.length q3, .slice q2 cc.defs.length q4], .string s] W fun e w' => e = .returned (.tuple #[.agg (dfnArr (M.find cc.defs s).1), .int .i64 (M.find cc.defs s).2]) ∧ Below W.heap.size W w') := fun W hW => by
      have := findP_any cc s q1 q2 q3 q4 W (Nc.out.later hW).fr (Nc.out.later hW).df
      rwa [FC] at this
    have KP : Hid (∀ W, Below X3.heap.size X3 W → Calls Try.prog 26 #[.agg #[.slice f1 pp.frags.length f3, .slice f2 pp.defs.length f4], .string s] W fun e w' => e = .returned (.tuple #[.agg (dfnArr (M.find pp.defs s).1), .int .i64 (M.find pp.defs s).2]) ∧ Below W.heap.size W w') := fun W hW => by
      have := findP_any pp s f1 f2 f3 f4 W (Np.out.later hW).fr (Np.out.later hW).df
      rwa [FP] at this
    clear hca hgl hoa hob hpp hop hcb hcc hoc FA FC FP Hgl Hdr Hj HEa
    generalize M.find a.defs s = fx at *
    generalize M.find cc.defs s = fy at *
    generalize M.find pp.defs s = fz at *
    obtain ⟨⟨nx, kx, rx, px, sx, lx⟩, ex⟩ := fx
    obtain ⟨⟨ny, ky, ry, py, sy, ly⟩, ey⟩ := fy
    obtain ⟨⟨nz, kz, rz, pz, sz, lz⟩, ez⟩ := fz
    simp only [dfnArr] at KA KC KP
    go_upto_region 6 with (go_at_call 33; refine (KS.out _).mono ?_; rintro e X4 ⟨rfl, hb4⟩)
    have ca0 := (HV.out.1.later hb4).c0
    have ca1 := (HV.out.1.later hb4).c1
    have HB4 : Hid (Below X3.heap.size X3 X4) := hb4
    clear hb4 KS
    go_upto_region 7 with (go_at_call 26; refine (KA.out _ HB4.out).mono ?_; rintro e w' ⟨rfl, hb'⟩)
    have D13 : Hid (DVar (w'.alloc (.cells #[.string nx, .int .i64 kx, .int .i64 rx, .int .i64 px, .int .i64 sx, .int .i64 lx] 71)) w'.heap.size ⟨nx, kx, rx, px, sx, lx⟩) := heap_alloc_new w' _
    have hb : Below X4.heap.size X4 (w'.alloc (.cells #[.string nx, .int .i64 kx, .int .i64 rx, .int .i64 px, .int .i64 sx, .int .i64 lx] 71)) := hb'.alloc hb'.size _
    clear hb' ca0 ca1 KA
    generalize w'.alloc (.cells #[.string nx, .int .i64 kx, .int .i64 rx, .int .i64 px, .int .i64 sx, .int .i64 lx] 71) = X5 at *
    generalize w'.heap.size = n13 at *
    have HB5 : Hid (Below X3.heap.size X3 X5) := HB4.out.trans (hb.mono HB4.out.size)
    clear hb HB4
    have cc0 := (Nc.out.later HB5.out).c0
    have cc1 := (Nc.out.later HB5.out).c1
    go_upto_region 8 with (go_at_call 26; refine (KC.out _ HB5.out).mono ?_; rintro e w' ⟨rfl, hb'⟩)
    have D14 : Hid (DVar (w'.alloc (.cells #[.string ny, .int .i64 ky, .int .i64 ry, .int .i64 py, .int .i64 sy, .int .i64 ly] 71)) w'.heap.size ⟨ny, ky, ry, py, sy, ly⟩) := heap_alloc_new w' _
    have hb : Below X5.heap.size X5 (w'.alloc (.cells #[.string ny, .int .i64 ky, .int .i64 ry, .int .i64 py, .int .i64 sy, .int .i64 ly] 71)) := hb'.alloc hb'.size _
    clear hb' cc0 cc1 KC
    generalize w'.alloc (.cells #[.string ny, .int .i64 ky, .int .i64 ry, .int .i64 py, .int .i64 sy, .int .i64 ly] 71) = X6 at *
    generalize w'.heap.size = n14 at *
    have HB6 : Hid (Below X3.heap.size X3 X6) := HB5.out.trans (hb.mono HB5.out.size)
    have D13 : Hid (DVar X6 n13 ⟨nx, kx, rx, px, sx, lx⟩) := D13.out.later hb
    clear hb HB5
    have cp0 := (Np.out.later HB6.out).c0
    have cp1 := (Np.out.later HB6.out).c1
    go_upto_region 9 with (go_at_call 26; refine (KP.out _ HB6.out).mono ?_; rintro e w' ⟨rfl, hb'⟩)
    have D15 : Hid (DVar (w'.alloc (.cells #[.string nz, .int .i64 kz, .int .i64 rz, .int .i64 pz, .int .i64 sz, .int .i64 lz] 71)) w'.heap.size ⟨nz, kz, rz, pz, sz, lz⟩) := heap_alloc_new w' _
    have hb : Below X6.heap.size X6 (w'.alloc (.cells #[.string nz, .int .i64 kz, .int .i64 rz, .int .i64 pz, .int .i64 sz, .int .i64 lz] 71)) := hb'.alloc hb'.size _
    clear hb' cp0 cp1 KP
    generalize w'.alloc (.cells #[.string nz, .int .i64 kz, .int .i64 rz, .int .i64 pz, .int .i64 sz, .int .i64 lz] 71) = X7 at *
    generalize w'.heap.size = n15 at *
    have HB7 : Hid (Below X3.heap.size X3 X7) := HB6.out.trans (hb.mono HB6.out.size)
    have D13 : Hid (DVar X7 n13 ⟨nx, kx, rx, px, sx, lx⟩) := D13.out.later hb
    have D14 : Hid (DVar X7 n14 ⟨ny, ky, ry, py, sy, ly⟩) := D14.out.later hb
    clear hb HB6
    have ca0 := (HV.out.1.later HB7.out).c0
    have y0 : X7.cell? ⟨n14, 0, none⟩ = some (.string ny) := cellB D14.out 0
    have y1 : X7.cell? ⟨n14, 1, none⟩ = some (.int .i64 ky) := cellB D14.out 1
    have y2 : X7.cell? ⟨n14, 2, none⟩ = some (.int .i64 ry) := cellB D14.out 2
    have y3 : X7.cell? ⟨n14, 3, none⟩ = some (.int .i64 py) := cellB D14.out 3
    have y4 : X7.cell? ⟨n14, 4, none⟩ = some (.int .i64 sy) := cellB D14.out 4
    have y5 : X7.cell? ⟨n14, 5, none⟩ = some (.int .i64 ly) := cellB D14.out 5
    go_upto_region 11 with fail
    have hn15 : n15 < X7.heap.size := D15.out.lt
    have hn13 : n13 < X7.heap.size := D13.out.lt
    have hb : Below X7.heap.size X7 (X7.alloc (.cells #[.string ny, .int .i64 ky, .int .i64 ry, .int .i64 py, .int .i64 sy, .int .i64 ly] 71)) := (Below.refl _ _).alloc (Nat.le_refl _) _
    have D17 : Hid (DVar (X7.alloc (.cells #[.string ny, .int .i64 ky, .int .i64 ry, .int .i64 py, .int .i64 sy, .int .i64 ly] 71)) X7.heap.size ⟨ny, ky, ry, py, sy, ly⟩) := heap_alloc_new X7 _
    have D13 := D13.out.later hb
    have D14 := D14.out.later hb
    have D15 := D15.out.later hb
    have HB8 : Hid (Below w.heap.size w (X7.alloc (.cells #[.string ny, .int .i64 ky, .int .i64 ry, .int .i64 py, .int .i64 sy, .int .i64 ly] 71))) := (HB.out.trans (HB7.out.mono HB.out.size)).trans (hb.mono (Nat.le_trans HB.out.size HB7.out.size))
    have l13 := D13.lt
    have l14 := D14.lt
    have l15 := D15.lt
    have l17 := D17.out.lt
    have hn14 : n14 < X7.heap.size := World.block_lt_of_cell? _ _ y0
    have hw17 : w.heap.size ≤ X7.heap.size := Nat.le_trans HB.out.size HB7.out.size
    clear hb HB7 ca0 y0 y1 y2 y3 y4 y5 HV Np Nc HB
    generalize X7.alloc (.cells #[.string ny, .int .i64 ky, .int .i64 ry, .int .i64 py, .int .i64 sy, .int .i64 ly] 71) = X8 at *
    generalize X7.heap.size = n17 at *
    have x0 : X8.cell? ⟨n13, 0, none⟩ = some (.string nx) := cellB D13 0
    have x1 : X8.cell? ⟨n13, 1, none⟩ = some (.int .i64 kx) := cellB D13 1
    have x2 : X8.cell? ⟨n13, 2, none⟩ = some (.int .i64 rx) := cellB D13 2
    have x3 : X8.cell? ⟨n13, 3, none⟩ = some (.int .i64 px) := cellB D13 3
    have x4 : X8.cell? ⟨n13, 4, none⟩ = some (.int .i64 sx) := cellB D13 4
    have x5 : X8.cell? ⟨n13, 5, none⟩ = some (.int .i64 lx) := cellB D13 5
    have y0 : X8.cell? ⟨n14, 0, none⟩ = some (.string ny) := cellB D14 0
    have y1 : X8.cell? ⟨n14, 1, none⟩ = some (.int .i64 ky) := cellB D14 1
    have y2 : X8.cell? ⟨n14, 2, none⟩ = some (.int .i64 ry) := cellB D14 2
    have y3 : X8.cell? ⟨n14, 3, none⟩ = some (.int .i64 py) := cellB D14 3
    have y4 : X8.cell? ⟨n14, 4, none⟩ = some (.int .i64 sy) := cellB D14 4
    have y5 : X8.cell? ⟨n14, 5, none⟩ = some (.int .i64 ly) := cellB D14 5
    have z0 : X8.cell? ⟨n15, 0, none⟩ = some (.string nz) := cellB D15 0
    have z1 : X8.cell? ⟨n15, 1, none⟩ = some (.int .i64 kz) := cellB D15 1
    have z2 : X8.cell? ⟨n15, 2, none⟩ = some (.int .i64 rz) := cellB D15 2
    have z3 : X8.cell? ⟨n15, 3, none⟩ = some (.int .i64 pz) := cellB D15 3
    have z4 : X8.cell? ⟨n15, 4, none⟩ = some (.int .i64 sz) := cellB D15 4
    have z5 : X8.cell? ⟨n15, 5, none⟩ = some (.int .i64 lz) := cellB D15 5
    have m0 : X8.cell? ⟨n17, 0, none⟩ = some (.string ny) := cellB D17.out 0
    have m1 : X8.cell? ⟨n17, 1, none⟩ = some (.int .i64 ky) := cellB D17.out 1
    have m2 : X8.cell? ⟨n17, 2, none⟩ = some (.int .i64 ry) := cellB D17.out 2
    have m3 : X8.cell? ⟨n17, 3, none⟩ = some (.int .i64 py) := cellB D17.out 3
    have m4 : X8.cell? ⟨n17, 4, none⟩ = some (.int .i64 sy) := cellB D17.out 4
    have m5 : X8.cell? ⟨n17, 5, none⟩ = some (.int .i64 ly) := cellB D17.out 5
    have f2 := frozenB D17.out 2
    have HE : Hid (∀ v, Below w.heap.size w (X8.setCell ⟨n17, 2, none⟩ v)) := fun v => HB8.out.setCell hw17 v
    have hry : ky = 1 ∨ ky = 2 → 0 ≤ ry ∧ ry < 60 := Hfr.out
    have e1 : ¬ n14 = n17 := by omega
    have e2 : ¬ n15 = n17 := by omega
    have e3 : ¬ n13 = n17 := by omega
    clear D13 D14 D15 D17 Hfr hw17
    have hky : ky = 1 ∨ ky = 2 ∨ ((ky == 1) = false ∧ (ky == 2) = false) := by
      by_cases h1 : ky = 1
      · exact .inl h1
      · by_cases h2 : ky = 2
        · exact .inr (.inl h2)
        · exact .inr (.inr ⟨by simpa using h1, by simpa using h2⟩)
    have hn60 : (a.frags.length : Int) ≤ 60 := by omega
    generalize a.frags.length = na at *
    generalize a.defs.length = nd at *
    rcases HW.out with ⟨h1, h2⟩ | ⟨h0, h1, h2⟩ | ⟨h1, h2, h3, h4, h5⟩ | ⟨h1, h2, h3⟩ | ⟨h1, h2, h3⟩ | ⟨h1, h2, h3⟩ | ⟨h1, h2, h3, h4, h5⟩ | ⟨h1, h2, h3, h4, h5⟩ | ⟨h1, h2, h3, h4, h5, h6, h7, h8⟩ | ⟨h1, h2, h3, h4⟩
    · clear HW
      replace h1 : ex = 6 := h1
      replace h2 : ez = 6 := h2
      subst h1 h2
      rcases hky with rfl | rfl | ⟨g1, g2⟩
      · obtain ⟨hr1, hr2⟩ := hry (by simp)
        go_wp2
        go_ret
        first | exact ⟨rfl, HB8.out⟩ | exact ⟨rfl, HE.out _⟩ | exact ⟨by simp, HB8.out⟩ | exact ⟨by simp, HE.out _⟩
      · obtain ⟨hr1, hr2⟩ := hry (by simp)
        go_wp2
        go_ret
        first | exact ⟨rfl, HB8.out⟩ | exact ⟨rfl, HE.out _⟩ | exact ⟨by simp, HB8.out⟩ | exact ⟨by simp, HE.out _⟩
      · clear hry
        go_wp2
        go_ret
        first | exact ⟨rfl, HB8.out⟩ | exact ⟨rfl, HE.out _⟩ | exact ⟨by simp, HB8.out⟩ | exact ⟨by simp, HE.out _⟩
    · clear HW
      replace h0 : ¬ ex = 6 := h0
      replace h1 : ey = 6 := h1
      replace h2 : ez = 6 := h2
      subst h1 h2
      have h0' : (ex == 6) = false := by simpa using h0
      clear h0
      rcases hky with rfl | rfl | ⟨g1, g2⟩
      · obtain ⟨hr1, hr2⟩ := hry (by simp)
        go_wp2
        go_ret
        first | exact ⟨rfl, HB8.out⟩ | exact ⟨rfl, HE.out _⟩ | exact ⟨by simp, HB8.out⟩ | exact ⟨by simp, HE.out _⟩
      · obtain ⟨hr1, hr2⟩ := hry (by simp)
        go_wp2
        go_ret
        first | exact ⟨rfl, HB8.out⟩ | exact ⟨rfl, HE.out _⟩ | exact ⟨by simp, HB8.out⟩ | exact ⟨by simp, HE.out _⟩
      · clear hry
        go_wp2
        go_ret
        first | exact ⟨rfl, HB8.out⟩ | exact ⟨rfl, HE.out _⟩ | exact ⟨by simp, HB8.out⟩ | exact ⟨by simp, HE.out _⟩
    · clear HW hky
      replace h1 : ex = 0 := h1
      replace h2 : ey = 0 := h2
      replace h3 : kx = 1 := h3
      replace h4 : ky = 1 := h4
      replace h5 : ez = 6 := h5
      subst h1 h2 h3 h4 h5
      obtain ⟨hr1, hr2⟩ := hry (by simp)
      go_wp2
      go_ret
      first | exact ⟨rfl, HB8.out⟩ | exact ⟨rfl, HE.out _⟩ | exact ⟨by simp, HB8.out⟩ | exact ⟨by simp, HE.out _⟩
    · clear HW
      replace h1 : ex = 7 := h1
      replace h2 : ey = 7 := h2
      replace h3 : ez = 7 := h3
      subst h1 h2 h3
      rcases hky with rfl | rfl | ⟨g1, g2⟩
      · obtain ⟨hr1, hr2⟩ := hry (by simp)
        go_wp2
        go_ret
        first | exact ⟨rfl, HB8.out⟩ | exact ⟨rfl, HE.out _⟩ | exact ⟨by simp, HB8.out⟩ | exact ⟨by simp, HE.out _⟩
      · obtain ⟨hr1, hr2⟩ := hry (by simp)
        go_wp2
        go_ret
        first | exact ⟨rfl, HB8.out⟩ | exact ⟨rfl, HE.out _⟩ | exact ⟨by simp, HB8.out⟩ | exact ⟨by simp, HE.out _⟩
      · clear hry
        go_wp2
        go_ret
        first | exact ⟨rfl, HB8.out⟩ | exact ⟨rfl, HE.out _⟩ | exact ⟨by simp, HB8.out⟩ | exact ⟨by simp, HE.out _⟩
    · clear HW
      replace h1 : ex = 7 := h1
      replace h2 : ey = 0 := h2
      subst h1 h2
      rcases hky with rfl | rfl | ⟨g1, g2⟩
      · obtain ⟨hr1, hr2⟩ := hry (by simp)
        have h3' := h3
        simp [M.movedY] at h3'
        obtain ⟨⟨rfl, rfl, rfl, rfl, rfl, rfl⟩, rfl⟩ := h3'
        clear h3
        go_wp2
        go_ret
        first | exact ⟨rfl, HB8.out⟩ | exact ⟨rfl, HE.out _⟩ | exact ⟨by simp, HB8.out⟩ | exact ⟨by simp, HE.out _⟩
      · obtain ⟨hr1, hr2⟩ := hry (by simp)
        have h3' := h3
        simp [M.movedY] at h3'
        obtain ⟨⟨rfl, rfl, rfl, rfl, rfl, rfl⟩, rfl⟩ := h3'
        clear h3
        go_wp2
        go_ret
        first | exact ⟨rfl, HB8.out⟩ | exact ⟨rfl, HE.out _⟩ | exact ⟨by simp, HB8.out⟩ | exact ⟨by simp, HE.out _⟩
      · clear hry
        have h3' := h3
        simp [M.movedY, g1, g2] at h3'
        obtain ⟨⟨rfl, rfl, rfl, rfl, rfl, rfl⟩, rfl⟩ := h3'
        clear h3
        go_wp2
        go_ret
        first | exact ⟨rfl, HB8.out⟩ | exact ⟨rfl, HE.out _⟩ | exact ⟨by simp, HB8.out⟩ | exact ⟨by simp, HE.out _⟩
    · clear HW
      replace h1 : ex = 0 := h1
      replace h2 : ey = 7 := h2
      subst h1 h2
      simp at h3
      obtain ⟨⟨rfl, rfl, rfl, rfl, rfl, rfl⟩, rfl⟩ := h3
      rcases hky with rfl | rfl | ⟨g1, g2⟩
      · obtain ⟨hr1, hr2⟩ := hry (by simp)
        go_wp2
        go_ret
        first | exact ⟨rfl, HB8.out⟩ | exact ⟨rfl, HE.out _⟩ | exact ⟨by simp, HB8.out⟩ | exact ⟨by simp, HE.out _⟩
      · obtain ⟨hr1, hr2⟩ := hry (by simp)
        go_wp2
        go_ret
        first | exact ⟨rfl, HB8.out⟩ | exact ⟨rfl, HE.out _⟩ | exact ⟨by simp, HB8.out⟩ | exact ⟨by simp, HE.out _⟩
      · clear hry
        go_wp2
        go_ret
        first | exact ⟨rfl, HB8.out⟩ | exact ⟨rfl, HE.out _⟩ | exact ⟨by simp, HB8.out⟩ | exact ⟨by simp, HE.out _⟩
    · clear HW hky
      replace h1 : ex = 0 := h1
      replace h2 : ey = 0 := h2
      replace h3 : ¬ kx = 1 := h3
      replace h4 : ky = 1 := h4
      subst h1 h2 h4
      have h3' : (kx == 1) = false := by simpa using h3
      simp [M.movedY] at h5
      obtain ⟨⟨rfl, rfl, rfl, rfl, rfl, rfl⟩, rfl⟩ := h5
      obtain ⟨hr1, hr2⟩ := hry (by simp)
      clear h3
      go_wp2
      go_ret
      first | exact ⟨rfl, HB8.out⟩ | exact ⟨rfl, HE.out _⟩ | exact ⟨by simp, HB8.out⟩ | exact ⟨by simp, HE.out _⟩
    · clear HW hky hry
      replace h1 : ex = 0 := h1
      replace h2 : ey = 0 := h2
      replace h3 : kx = 2 := h3
      replace h4 : ky = 3 := h4
      subst h1 h2 h3 h4
      simp [M.movedY] at h5
      obtain ⟨⟨rfl, rfl, rfl, rfl, rfl, rfl⟩, rfl⟩ := h5
      go_wp2
      go_ret
      first | exact ⟨rfl, HB8.out⟩ | exact ⟨rfl, HE.out _⟩ | exact ⟨by simp, HB8.out⟩ | exact ⟨by simp, HE.out _⟩
    · clear HW hky hry
      replace h1 : ex = 0 := h1
      replace h2 : ey = 0 := h2
      replace h3 : kx = 3 := h3
      replace h4 : ky = 3 := h4
      replace h5 : ez = 0 := h5
      replace h6 : kz = 3 := h6
      replace h7 : sz = max sx sy := h7
      replace h8 : lz = max lx ly := h8
      subst h1 h2 h3 h4 h5 h6 h7 h8
      go_wp2
      go_ret
      first | exact ⟨rfl, HB8.out⟩ | exact ⟨rfl, HE.out _⟩ | exact ⟨by simp, HB8.out⟩ | exact ⟨by simp, HE.out _⟩
    · clear HW hky
      replace h1 : ex = 0 := h1
      replace h2 : ey = 0 := h2
      replace h3 : (kx = 1 ∧ ky = 2) ∨ (kx = 1 ∧ ky = 3) ∨ (kx = 2 ∧ ky = 2) ∨ (kx = 3 ∧ ky = 2) := h3
      subst h1 h2
      simp at h4
      obtain ⟨⟨rfl, rfl, rfl, rfl, rfl, rfl⟩, rfl⟩ := h4
      rcases h3 with ⟨rfl, rfl⟩ | ⟨rfl, rfl⟩ | ⟨rfl, rfl⟩ | ⟨rfl, rfl⟩
      · obtain ⟨hr1, hr2⟩ := hry (by simp)
        go_wp2
        go_ret
        first | exact ⟨rfl, HB8.out⟩ | exact ⟨rfl, HE.out _⟩ | exact ⟨by simp, HB8.out⟩ | exact ⟨by simp, HE.out _⟩
      · clear hry
        go_wp2
        go_ret
        first | exact ⟨rfl, HB8.out⟩ | exact ⟨rfl, HE.out _⟩ | exact ⟨by simp, HB8.out⟩ | exact ⟨by simp, HE.out _⟩
      · obtain ⟨hr1, hr2⟩ := hry (by simp)
        go_wp2
        go_ret
        first | exact ⟨rfl, HB8.out⟩ | exact ⟨rfl, HE.out _⟩ | exact ⟨by simp, HB8.out⟩ | exact ⟨by simp, HE.out _⟩
      · obtain ⟨hr1, hr2⟩ := hry (by simp)
        go_wp2
        go_ret
        first | exact ⟨rfl, HB8.out⟩ | exact ⟨rfl, HE.out _⟩ | exact ⟨by simp, HB8.out⟩ | exact ⟨by simp, HE.out _⟩
  · have hway : ((ea != 0) = true ∨ (ea != 0) = false ∧ (ef != 0) = true) ∨ (ea != 0) = false ∧ (ef != 0) = false ∧ (re != 0) = true := by
      by_cases h1 : ea = 0
      · by_cases h2 : ef = 0
        · exact .inr ⟨by simpa using h1, by simpa using h2, by simpa using fun h3 => hok ⟨h1, h2, h3⟩⟩
        · exact .inl (.inr ⟨by simpa using h1, by simpa using h2⟩)
      · exact .inl (.inl (by simpa using h1))
    clear hok Hgl Hdr Hj HEa HV Np Nc
    rcases hway with (h1 | ⟨h1, h2⟩) | ⟨h1, h2, h3⟩
    all_goals
      go_upto_region 5 with (go_at_call 33; refine (KS.out _).mono ?_; rintro e X4 ⟨rfl, hb4⟩)
      go_wp2_with (go_at_call 33; refine (KS.out _).mono ?_; rintro e X5 ⟨rfl, hb5⟩)
      go_ret
      exact ⟨rfl, (HB.out.trans (hb4.mono HB.out.size)).trans (hb5.mono (Nat.le_trans HB.out.size hb4.size))⟩

end Go.Proofs.Ytabkbicaignicaa
