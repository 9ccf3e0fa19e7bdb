/-
  The law of PartGroups: what is joined has the first one's groups first; what was dropped is gone; it is true of every two parts.
-/
import Derived.Test.YtebhbhbhcoijpaaPrtDrop
import Derived.Test.YtebhbhbhcoijpaaPrtOrderLaw
namespace Go.Proofs.Ytebhbhbhcoijpaa
open Go.RowKit
set_option linter.unusedVariables false

theorem texts_self : ∀ l : List ByteArray, sameTexts l l = true := allTwo_self _ (fun x => by simp)

theorem strs_prefix {w : World} {a : Option Addr} {c c' : Nat} {l t : List ByteArray} (h : StrsAt w (.slice a (l ++ t).length c) (l ++ t)) : StrsAt w (.slice a l.length c') l := by
  refine ⟨?_, fun s hs => h.2 s (List.mem_append_left _ hs)⟩
  obtain ⟨a', c'', e, hn, h1⟩ := h.1
  cases e
  have hle : l.length ≤ (l ++ t).length := by simp
  refine ⟨a, c', rfl, by omega, ?_⟩
  by_cases h0 : l.length = 0
  · exact .inl h0
  · rcases h1 with h1 | ⟨b, off, rfl, h1⟩
    · omega
    · refine .inr ⟨b, off, rfl, fun j i hj hi => ?_⟩
      rw [h1 j i (by omega) hi]
      show some (Value.string ((l ++ t).getD j str0)) = some (Value.string (l.getD j str0))
      rw [List.getD_eq_getElem?_getD, List.getElem?_append_left hj, ← List.getD_eq_getElem?_getD]

theorem many_take (s : ByteArray) (fs : List M.Frg) (j : Nat) (h : j < fs.length) : M.many s (fs.take (j + 1)) = M.many s (fs.take j) + bif (fs.getD j frg0).group.toList == s.toList then 1 else 0 := by
  unfold M.many
  rw [List.take_succ_eq_append_getElem h, List.filter_append, List.length_append, List.getD_eq_getElem?_getD, List.getElem?_eq_getElem h]
  simp only [Option.getD_some, List.filter_cons, List.filter_nil]
  cases fs[j].group.toList == s.toList <;> rfl

theorem many_le (s : ByteArray) (fs : List M.Frg) : M.many s fs ≤ fs.length := List.length_filter_le _ _

set_option maxHeartbeats 8000000 in
set_option maxRecDepth 100000 in
theorem groups_law (a b : M.Prt) (a1 a2 b1 b2 : Option Addr) (k1 k2 k3 k4 : Nat) (w : World) (hfa : FragsAt w (.slice a1 a.frags.length k1) a.frags) (hda : DefsAt w (.slice a2 a.defs.length k2) a.defs)
    (hfb : FragsAt w (.slice b1 b.frags.length k3) b.frags) (hdb : DefsAt w (.slice b2 b.defs.length k4) b.defs) :
    Calls Try.prog 4 #[.agg #[.slice a1 a.frags.length k1, .slice a2 a.defs.length k2], .agg #[.slice b1 b.frags.length k3, .slice b2 b.defs.length k4]] w fun e w' => e = .returned (.bool true) ∧ Below w.heap.size w w' := by
  go_enter Try.func4, Try.ntmps4
  go_upto_region 1 with fail
  have HV : Hid (Var ((w.alloc (.cells #[.slice a1 a.frags.length k1, .slice a2 a.defs.length k2] 25)).alloc (.cells #[.slice b1 b.frags.length k3, .slice b2 b.defs.length k4] 25)) w.heap.size a1 a2 k1 k2 a ∧ Var ((w.alloc (.cells #[.slice a1 a.frags.length k1, .slice a2 a.defs.length k2] 25)).alloc (.cells #[.slice b1 b.frags.length k3, .slice b2 b.defs.length k4] 25)) (w.heap.size + 1) b1 b2 k3 k4 b) := by
    have h1 : Below w.heap.size w (w.alloc (.cells #[.slice a1 a.frags.length k1, .slice a2 a.defs.length k2] 25)) := (Below.refl _ _).alloc (Nat.le_refl _) _
    have v1 := (var_new hfa hda).later ((Below.refl _ _).alloc (Nat.le_refl _) (.cells #[.slice b1 b.frags.length k3, .slice b2 b.defs.length k4] 25))
    have v2 := var_new (hfb.later h1) (hdb.later h1)
    exact ⟨v1, by simpa using v2⟩
  have HB : Hid (Below w.heap.size w ((w.alloc (.cells #[.slice a1 a.frags.length k1, .slice a2 a.defs.length k2] 25)).alloc (.cells #[.slice b1 b.frags.length k3, .slice b2 b.defs.length k4] 25))) := ((Below.refl _ _).alloc (Nat.le_refl _) _).alloc (by simp) _
  clear hfa hda hfb hdb
  generalize (w.alloc (.cells #[.slice a1 a.frags.length k1, .slice a2 a.defs.length k2] 25)).alloc (.cells #[.slice b1 b.frags.length k3, .slice b2 b.defs.length k4] 25) = X0 at *
  obtain ⟨pp, re, hj⟩ : ∃ p r, M.join a b = (p, r) := ⟨_, _, rfl⟩
  have Hj : Hid (M.join a b = (pp, re)) := hj
  have ca0 := HV.out.1.c0
  have ca1 := HV.out.1.c1
  have cb0 := HV.out.2.c0
  have cb1 := HV.out.2.c1
  have KJ : Hid (Calls Try.prog 9 #[.agg #[.slice a1 a.frags.length k1, .slice a2 a.defs.length k2], .agg #[.slice b1 b.frags.length k3, .slice b2 b.defs.length k4]] X0 _) := join_v HV.out.1.fr HV.out.1.df HV.out.2.fr HV.out.2.df pp re hj
  clear hj
  go_upto_region 2 with (go_at_call 9; refine KJ.out.mono ?_; rintro e w' ⟨hb, f1, f3, f2, f4, rfl, hF, hD⟩)
  have Np := var_new hF hD
  have HBn : Below X0.heap.size X0 (w'.alloc (.cells #[.slice f1 pp.frags.length f3, .slice f2 pp.defs.length f4] 25)) := hb.alloc hb.size _
  clear hF hD KJ hb ca0 ca1 cb0 cb1
  generalize w'.alloc (.cells #[.slice f1 pp.frags.length f3, .slice f2 pp.defs.length f4] 25) = X1 at *
  generalize w'.heap.size = n5 at *
  have Np : Hid (Var X1 n5 f1 f2 f3 f4 pp) := Np
  have HV : Hid (Var X1 w.heap.size a1 a2 k1 k2 a ∧ Var X1 (w.heap.size + 1) b1 b2 k3 k4 b) := ⟨HV.out.1.later HBn, HV.out.2.later HBn⟩
  have HB : Hid (Below w.heap.size w X1) := HB.out.trans (HBn.mono HB.out.size)
  clear HBn
  have KS : Hid (∀ W, Calls Try.prog 11 #[] W fun e w' => e = .returned (.bool true) ∧ Below W.heap.size W w') := spliced_any
  by_cases hre : re = 0
  · subst hre
    obtain ⟨hoa, hob, _, hpp, hop⟩ := M.join_ok (a := a) (b := b) (by rw [Hj.out])
    rw [Hj.out] at hpp hop
    have Hpp : Hid (pp = M.put a (M.groups a.frags) b) := hpp
    have Hop : Hid (M.Ok pp) := hop
    have Hca : Hid (M.checkPart a = 0) := (M.ok_iff a).2 hoa
    have Hcp : Hid (M.checkPart pp = 0) := (M.ok_iff pp).2 hop
    have Hod : Hid (M.Ok (M.drop pp (M.groups pp.frags))) := M.ok_drop hop _
    have Hgd : Hid (M.groups (M.drop pp (M.groups pp.frags)).frags = []) := M.groups_drop pp
    have Hda : Hid (M.drop (M.drop pp (M.groups pp.frags)) (M.groups pp.frags) = M.drop pp (M.groups pp.frags)) := M.drop_again hop
    obtain ⟨dd, hdd⟩ : ∃ dd, M.drop pp (M.groups pp.frags) = dd := ⟨_, rfl⟩
    rw [hdd] at Hod Hgd Hda
    have Hdd : Hid (M.drop pp (M.groups pp.frags) = dd) := hdd
    have Hcd : Hid (M.checkPart dd = 0) := (M.ok_iff dd).2 Hod.out
    have Hnp : Hid (pp.frags.length ≤ 60) := hop.nf
    have Hna : Hid (a.frags.length ≤ 60) := hoa.nf
    have Hnb : Hid (b.frags.length ≤ 60) := hob.nf
    clear hoa hob hpp hop hdd Hj Hod Hop
    go_upto_region 4 with (go_at_call 11; refine (KS.out _).mono ?_; rintro e X2 ⟨rfl, hb⟩)
    have HV : Hid (Var X2 w.heap.size a1 a2 k1 k2 a ∧ Var X2 (w.heap.size + 1) b1 b2 k3 k4 b) := ⟨HV.out.1.later hb, HV.out.2.later hb⟩
    have Np : Hid (Var X2 n5 f1 f2 f3 f4 pp) := Np.out.later hb
    have HB : Hid (Below w.heap.size w X2) := HB.out.trans (hb.mono HB.out.size)
    clear hb KS
    have cp0 := Np.out.c0
    have cp1 := Np.out.c1
    have KG : Hid (Calls Try.prog 14 #[.agg #[.slice f1 pp.frags.length f3, .slice f2 pp.defs.length f4]] X2 fun e w' => Below X2.heap.size X2 w' ∧ ∃ ga gc, e = .returned (.tuple #[.slice ga (M.groups pp.frags).length gc, .int .i64 0]) ∧ StrsAt w' (.slice ga (M.groups pp.frags).length gc) (M.groups pp.frags) ∧ (M.groups pp.frags).length ≤ gc) := groups_v Np.out.fr Np.out.df Hcp.out
    go_upto_region 5 with (go_at_call 14; refine KG.out.mono ?_; rintro e X3 ⟨hb, g1, g2, rfl, Sg, hcapg⟩)
    have Sg : Hid (StrsAt X3 (.slice g1 (M.groups pp.frags).length g2) (M.groups pp.frags)) := Sg
    have HV : Hid (Var X3 w.heap.size a1 a2 k1 k2 a ∧ Var X3 (w.heap.size + 1) b1 b2 k3 k4 b) := (fun h => ⟨HV.out.1.later h, HV.out.2.later h⟩) hb
    have Np : Hid (Var X3 n5 f1 f2 f3 f4 pp) := Np.out.later hb
    have HB : Hid (Below w.heap.size w X3) := HB.out.trans (hb.mono HB.out.size)
    clear hb KG cp0 cp1
    have ca0 := HV.out.1.c0
    have ca1 := HV.out.1.c1
    have KG : Hid (Calls Try.prog 14 #[.agg #[.slice a1 a.frags.length k1, .slice a2 a.defs.length k2]] X3 fun e w' => Below X3.heap.size X3 w' ∧ ∃ ga gc, e = .returned (.tuple #[.slice ga (M.groups a.frags).length gc, .int .i64 0]) ∧ StrsAt w' (.slice ga (M.groups a.frags).length gc) (M.groups a.frags) ∧ (M.groups a.frags).length ≤ gc) := groups_v HV.out.1.fr HV.out.1.df Hca.out
    go_upto_region 6 with (go_at_call 14; refine KG.out.mono ?_; rintro e X4 ⟨hb, x1, x2, rfl, Sx, hcapx⟩)
    have Sx : Hid (StrsAt X4 (.slice x1 (M.groups a.frags).length x2) (M.groups a.frags)) := Sx
    have HV : Hid (Var X4 w.heap.size a1 a2 k1 k2 a ∧ Var X4 (w.heap.size + 1) b1 b2 k3 k4 b) := (fun h => ⟨HV.out.1.later h, HV.out.2.later h⟩) hb
    have Np : Hid (Var X4 n5 f1 f2 f3 f4 pp) := Np.out.later hb
    have Sg : Hid (StrsAt X4 (.slice g1 (M.groups pp.frags).length g2) (M.groups pp.frags)) := Sg.out.later hb
    have HB : Hid (Below w.heap.size w X4) := HB.out.trans (hb.mono HB.out.size)
    clear hb KG ca0 ca1
    have cp0 := Np.out.c0
    have cp1 := Np.out.c1
    have KD : Hid (Calls Try.prog 15 #[.agg #[.slice f1 pp.frags.length f3, .slice f2 pp.defs.length f4], (.slice g1 (M.groups pp.frags).length g2)] X4 _) := drop_v Np.out.fr Np.out.df Sg.out Hcp.out dd Hdd.out
    go_upto_region 7 with (go_at_call 15; refine KD.out.mono ?_; rintro e w' ⟨hb', q1, q3, q2, q4, rfl, hF, hD⟩)
    have Nd := var_new hF hD
    have hb : Below X4.heap.size X4 (w'.alloc (.cells #[.slice q1 dd.frags.length q3, .slice q2 dd.defs.length q4] 25)) := hb'.alloc hb'.size _
    clear hF hD KD hb' cp0 cp1
    generalize w'.alloc (.cells #[.slice q1 dd.frags.length q3, .slice q2 dd.defs.length q4] 25) = X5 at *
    generalize w'.heap.size = n10 at *
    have Nd : Hid (Var X5 n10 q1 q2 q3 q4 dd) := Nd
    have HV : Hid (Var X5 w.heap.size a1 a2 k1 k2 a ∧ Var X5 (w.heap.size + 1) b1 b2 k3 k4 b) := ⟨HV.out.1.later hb, HV.out.2.later hb⟩
    have Np : Hid (Var X5 n5 f1 f2 f3 f4 pp) := Np.out.later hb
    have Sg : Hid (StrsAt X5 (.slice g1 (M.groups pp.frags).length g2) (M.groups pp.frags)) := Sg.out.later hb
    have Sx : Hid (StrsAt X5 (.slice x1 (M.groups a.frags).length x2) (M.groups a.frags)) := Sx.out.later hb
    have HB : Hid (Below w.heap.size w X5) := HB.out.trans (hb.mono HB.out.size)
    clear hb
    obtain ⟨t, ht⟩ := M.groups_put a b (M.groups a.frags)
    rw [← Hpp.out] at ht
    have hle : (M.groups a.frags).length ≤ (M.groups pp.frags).length := by rw [ht]; simp
    have hd1 : decide (((M.groups pp.frags).length : Int) < ((M.groups a.frags).length : Int)) = false := by simp; omega
    have hpre : StrsAt X5 (.slice g1 (M.groups a.frags).length g2) (M.groups a.frags) := by
      have := Sg.out
      rw [ht] at this
      exact strs_prefix this
    have KE : Hid (Calls Try.prog 16 #[.slice g1 (M.groups a.frags).length g2, (.slice x1 (M.groups a.frags).length x2)] X5 fun e w' => e = .returned (.bool true) ∧ Below X5.heap.size X5 w') := by
      have := equalS_any (M.groups a.frags) (M.groups a.frags) g1 x1 g2 x2 X5 hpre Sx.out
      rwa [texts_self] at this
    clear hpre ht t
    go_upto_region 9 with (go_at_call 16; refine KE.out.mono ?_; rintro e X6 ⟨rfl, hb⟩)
    have HV : Hid (Var X6 w.heap.size a1 a2 k1 k2 a ∧ Var X6 (w.heap.size + 1) b1 b2 k3 k4 b) := ⟨HV.out.1.later hb, HV.out.2.later hb⟩
    have Np : Hid (Var X6 n5 f1 f2 f3 f4 pp) := Np.out.later hb
    have Sg : Hid (StrsAt X6 (.slice g1 (M.groups pp.frags).length g2) (M.groups pp.frags)) := Sg.out.later hb
    have Sx : Hid (StrsAt X6 (.slice x1 (M.groups a.frags).length x2) (M.groups a.frags)) := Sx.out.later hb
    have HB : Hid (Below w.heap.size w X6) := HB.out.trans (hb.mono HB.out.size)
    have Nd : Hid (Var X6 n10 q1 q2 q3 q4 dd) := Nd.out.later hb
    clear hb KE hd1 hle
    have cd0 := Nd.out.c0
    have cd1 := Nd.out.c1
    have KG : Hid (Calls Try.prog 14 #[.agg #[.slice q1 dd.frags.length q3, .slice q2 dd.defs.length q4]] X6 fun e w' => Below X6.heap.size X6 w' ∧ ∃ ga gc, e = .returned (.tuple #[.slice ga 0 gc, .int .i64 0])) := by
      refine (groups_v Nd.out.fr Nd.out.df Hcd.out).mono ?_
      rintro e w' ⟨hb, ga, gc, rfl, _, _⟩
      rw [Hgd.out]
      exact ⟨hb, ga, gc, rfl⟩
    go_upto_region 10 with (go_at_call 14; refine KG.out.mono ?_; rintro e X7 ⟨hb, y1, y2, rfl⟩)
    have HV : Hid (Var X7 w.heap.size a1 a2 k1 k2 a ∧ Var X7 (w.heap.size + 1) b1 b2 k3 k4 b) := ⟨HV.out.1.later hb, HV.out.2.later hb⟩
    have Np : Hid (Var X7 n5 f1 f2 f3 f4 pp) := Np.out.later hb
    have Sg : Hid (StrsAt X7 (.slice g1 (M.groups pp.frags).length g2) (M.groups pp.frags)) := Sg.out.later hb
    have Sx : Hid (StrsAt X7 (.slice x1 (M.groups a.frags).length x2) (M.groups a.frags)) := Sx.out.later hb
    have HB : Hid (Below w.heap.size w X7) := HB.out.trans (hb.mono HB.out.size)
    have Nd : Hid (Var X7 n10 q1 q2 q3 q4 dd) := Nd.out.later hb
    clear hb KG cd0 cd1
    have cd0 := Nd.out.c0
    have cd1 := Nd.out.c1
    have KD : Hid (Calls Try.prog 15 #[.agg #[.slice q1 dd.frags.length q3, .slice q2 dd.defs.length q4], (.slice g1 (M.groups pp.frags).length g2)] X7 _) := drop_v Nd.out.fr Nd.out.df Sg.out Hcd.out dd Hda.out
    go_upto_region 11 with (go_at_call 15; refine KD.out.mono ?_; rintro e w' ⟨hb', r1, r3, r2, r4, rfl, hF, hD⟩)
    have Nr := var_new hF hD
    have hb : Below X7.heap.size X7 (w'.alloc (.cells #[.slice r1 dd.frags.length r3, .slice r2 dd.defs.length r4] 25)) := hb'.alloc hb'.size _
    clear hF hD KD hb' cd0 cd1
    generalize w'.alloc (.cells #[.slice r1 dd.frags.length r3, .slice r2 dd.defs.length r4] 25) = X8 at *
    generalize w'.heap.size = n13 at *
    have Nr : Hid (Var X8 n13 r1 r2 r3 r4 dd) := Nr
    have HV : Hid (Var X8 w.heap.size a1 a2 k1 k2 a ∧ Var X8 (w.heap.size + 1) b1 b2 k3 k4 b) := ⟨HV.out.1.later hb, HV.out.2.later hb⟩
    have Np : Hid (Var X8 n5 f1 f2 f3 f4 pp) := Np.out.later hb
    have Sg : Hid (StrsAt X8 (.slice g1 (M.groups pp.frags).length g2) (M.groups pp.frags)) := Sg.out.later hb
    have Sx : Hid (StrsAt X8 (.slice x1 (M.groups a.frags).length x2) (M.groups a.frags)) := Sx.out.later hb
    have HB : Hid (Below w.heap.size w X8) := HB.out.trans (hb.mono HB.out.size)
    have Nd : Hid (Var X8 n10 q1 q2 q3 q4 dd) := Nd.out.later hb
    clear hb
    have cd0 := Nd.out.c0
    have cd1 := Nd.out.c1
    have cr0 := Nr.out.c0
    have cr1 := Nr.out.c1
    have KE : Hid (Calls Try.prog 10 #[.agg #[.slice q1 dd.frags.length q3, .slice q2 dd.defs.length q4], .agg #[.slice r1 dd.frags.length r3, .slice r2 dd.defs.length r4]] X8 fun e w' => e = .returned (.bool true) ∧ Below X8.heap.size X8 w') := by
      have := same_any dd.frags dd.frags dd.defs dd.defs _ _ _ _ _ _ _ _ X8 Nd.out.fr Nd.out.df Nr.out.fr Nr.out.df
      rwa [samePart_self] at this
    go_upto_region 13 with (go_at_call 10; refine KE.out.mono ?_; rintro e X9 ⟨rfl, hb⟩)
    have HV : Hid (Var X9 w.heap.size a1 a2 k1 k2 a ∧ Var X9 (w.heap.size + 1) b1 b2 k3 k4 b) := ⟨HV.out.1.later hb, HV.out.2.later hb⟩
    have Np : Hid (Var X9 n5 f1 f2 f3 f4 pp) := Np.out.later hb
    have Sg : Hid (StrsAt X9 (.slice g1 (M.groups pp.frags).length g2) (M.groups pp.frags)) := Sg.out.later hb
    have Sx : Hid (StrsAt X9 (.slice x1 (M.groups a.frags).length x2) (M.groups a.frags)) := Sx.out.later hb
    have HB : Hid (Below w.heap.size w X9) := HB.out.trans (hb.mono HB.out.size)
    clear hb KE cd0 cd1 cr0 cr1 Nd Nr Hgd Hda Hdd Hcd Hcp Hca
    go_wp2_with fail
    have Hn : Hid (pp.frags.length ≤ 60) := Hnp
    clear Hnp
    go_loopw [108] (fun s108 wr => ∃ (k : Nat), k ≤ (M.groups pp.frags).length ∧ s108 = .int .i64 k ∧ Hid (Var wr w.heap.size a1 a2 k1 k2 a ∧ Var wr (w.heap.size + 1) b1 b2 k3 k4 b) ∧ Hid (Var wr n5 f1 f2 f3 f4 pp) ∧ Hid (StrsAt wr (.slice g1 (M.groups pp.frags).length g2) (M.groups pp.frags)) ∧ Hid (StrsAt wr (.slice x1 (M.groups a.frags).length x2) (M.groups a.frags)) ∧ Hid (Below w.heap.size w wr)) (fun s108 _ => (M.groups pp.frags).length - (intOf s108).toNat)
    case atStart => exact ⟨0, Nat.zero_le _, rfl, HV, Np, Sg, Sx, HB⟩
    case round =>
      obtain ⟨k, hk, rfl, HV, Np, Sg, Sx, HB⟩ := hrel
      rename World => wo
      have hgm : (M.groups pp.frags).length ≤ 9223372036854775807 := by
        obtain ⟨_, _, _, h⟩ := Sg.out.1.form
        unfold maxLen at h
        omega
      by_cases hlt : k < (M.groups pp.frags).length
      · obtain ⟨bg, og, hbg, hcg, hbl⟩ := Sg.out.cell k hlt
        have Hmany := M.many_put a b ((M.groups pp.frags).getD k str0) (by rw [← Hpp.out]; exact getD_mem _ _ _ hlt)
        rw [← Hpp.out] at Hmany
        have cp0 := Np.out.c0
        have hkl : (k : Int) < ((M.groups pp.frags).length : Int) := by omega
        subst hbg
        generalize (M.groups pp.frags).getD k str0 = s at *
        go_wp2_with fail
        go_loopw [16, 115] (fun sn sc wi => ∃ (j : Nat), j ≤ pp.frags.length ∧ sc = .int .i64 j ∧ sn = .int .i64 ((M.many s (pp.frags.take j) : Nat) : Int) ∧ Hid (Below wo.heap.size wo wi)) (fun _ sc _ => pp.frags.length - (intOf sc).toNat)
        case atStart => exact ⟨0, Nat.zero_le _, rfl, rfl, Below.refl _ _⟩
        case round =>
          obtain ⟨j, hj, rfl, rfl, HBi⟩ := hrel
          rename World => wi
          by_cases hjl : j < pp.frags.length
          · obtain ⟨bb, of, ab, cb, ar, cr, har, e0, e1, e2, e3, e4, e5, _, _, _, _⟩ := (Np.out.fr.later HBi.out).cells j hjl
            have hbb : bb < wi.heap.size := World.block_lt_of_cell? _ _ e0
            have Hm := many_take s pp.frags j hjl
            have hjl' : (j : Int) < (pp.frags.length : Int) := by omega
            have hm60 := many_le s (pp.frags.take j)
            have := Hn.out
            have hmb : M.many s (pp.frags.take j) ≤ 100 := by rw [List.length_take] at hm60; omega
            have HBa : Hid (∀ o, Below wo.heap.size wo (wi.alloc o)) := fun o => HBi.out.alloc HBi.out.size o
            subst har
            generalize pp.frags.getD j frg0 = f at *
            obtain ⟨s0, al, gr, bs, sz, rs⟩ := f
            simp only at e0 e1 e2 e3 e4 e5 Hm
            generalize bs.length = m1 at *
            generalize rs.length = m2 at *
            generalize M.many s (pp.frags.take j) = mn at *
            cases hq : (gr.toList == s.toList)
            · rw [hq] at Hm
              have Hm : Hid (M.many s (pp.frags.take (j + 1)) = mn) := Hm
              go_wp2_with fail
              go_roundw
              case rel => exact ⟨j + 1, by omega, by go_num, by rw [Hm.out], HBa.out _⟩
              case measure => simp [intOf]; omega
            · rw [hq] at Hm
              have Hm : Hid (M.many s (pp.frags.take (j + 1)) = mn + 1) := Hm
              go_wp2_with fail
              go_roundw
              case rel => exact ⟨j + 1, by omega, by go_num, by rw [Hm.out]; go_num, HBa.out _⟩
              case measure => simp [intOf]; omega
          · have hjl' : j = pp.frags.length := by omega
            subst hjl'
            rw [List.take_length]
            have hmc : pp.frags.length ≤ 60 := Hn.out
            have vA := HV.out.1.later HBi.out
            have vB := HV.out.2.later HBi.out
            have ca0 := vA.c0
            have ca1 := vA.c1
            have cb0 := vB.c0
            have cb1 := vB.c1
            have lA := vA.lt
            have lB := vB.lt
            clear vA vB cp0
            have KC : Hid (∀ W, Below wi.heap.size wi W → Calls Try.prog 17 #[(.slice x1 (M.groups a.frags).length x2), .string s] W fun e w' => e = .returned (.bool (M.has (M.groups a.frags) s)) ∧ w' = W) := fun W hW => containsS_any (M.groups a.frags) s x1 x2 W ((Sx.out.later HBi.out).later hW)
            cases hh : M.has (M.groups a.frags) s
            · rw [hh] at Hmany KC
              have Hmany : Hid (M.many s pp.frags = M.many s b.frags) := Hmany
              have HBw : Hid (Below wo.heap.size wo (wi.alloc (.cells #[.slice b1 b.frags.length k3, .slice b2 b.defs.length k4] 25))) := HBi.out.alloc HBi.out.size _
              go_wp2_with (go_at_call 17; refine (KC.out _ ((Below.refl _ _).alloc (Nat.le_refl _) _)).mono ?_; rintro e w' ⟨rfl, rfl⟩)
              go_loopw [17, 135] (fun sn sc wz => ∃ (j : Nat), j ≤ b.frags.length ∧ sc = .int .i64 j ∧ sn = .int .i64 ((M.many s (b.frags.take j) : Nat) : Int) ∧ Hid (Below (wi.alloc (.cells #[.slice b1 b.frags.length k3, .slice b2 b.defs.length k4] 25)).heap.size (wi.alloc (.cells #[.slice b1 b.frags.length k3, .slice b2 b.defs.length k4] 25)) wz)) (fun _ sc _ => b.frags.length - (intOf sc).toNat)
              case atStart => exact ⟨0, Nat.zero_le _, rfl, rfl, Below.refl _ _⟩
              case round =>
                obtain ⟨j, hj, rfl, rfl, HBi⟩ := hrel
                rename World => wz
                by_cases hjl : j < b.frags.length
                · obtain ⟨bb, of, ab, cb, ar, cr, har, e0, e1, e2, e3, e4, e5, _, _, _, _⟩ := ((HV.out.2.fr.later HBw.out).later HBi.out).cells j hjl
                  have hbb : bb < wz.heap.size := World.block_lt_of_cell? _ _ e0
                  have Hm := many_take s b.frags j hjl
                  have hjl' : (j : Int) < (b.frags.length : Int) := by omega
                  have hm60 := many_le s (b.frags.take j)
                  have hle60 := Hnb.out
                  have hmb : M.many s (b.frags.take j) ≤ 100 := by rw [List.length_take] at hm60; omega
                  have HBa : Hid (∀ o, Below (wi.alloc (.cells #[.slice b1 b.frags.length k3, .slice b2 b.defs.length k4] 25)).heap.size (wi.alloc (.cells #[.slice b1 b.frags.length k3, .slice b2 b.defs.length k4] 25)) (wz.alloc o)) := fun o => HBi.out.alloc HBi.out.size o
                  subst har
                  generalize b.frags.getD j frg0 = f at *
                  obtain ⟨s0, al, gr, bs, sz, rs⟩ := f
                  simp only at e0 e1 e2 e3 e4 e5 Hm
                  generalize bs.length = m1 at *
                  generalize rs.length = m2 at *
                  generalize M.many s (b.frags.take j) = mn at *
                  cases hq : (gr.toList == s.toList)
                  · rw [hq] at Hm
                    have Hm : Hid (M.many s (b.frags.take (j + 1)) = mn) := Hm
                    go_wp2_with fail
                    go_roundw
                    case rel => exact ⟨j + 1, by omega, by go_num, by rw [Hm.out], HBa.out _⟩
                    case measure => simp [intOf]; omega
                  · rw [hq] at Hm
                    have Hm : Hid (M.many s (b.frags.take (j + 1)) = mn + 1) := Hm
                    go_wp2_with fail
                    go_roundw
                    case rel => exact ⟨j + 1, by omega, by go_num, by rw [Hm.out]; go_num, HBa.out _⟩
                    case measure => simp [intOf]; omega
                · have hjl' : j = b.frags.length := by omega
                  subst hjl'
                  rw [List.take_length]
                  have hbz := HBi.out
                  have HBo : Below wo.heap.size wo wz := (HBw.out.trans (hbz.mono HBw.out.size))
                  have HV : Hid (Var wz w.heap.size a1 a2 k1 k2 a ∧ Var wz (w.heap.size + 1) b1 b2 k3 k4 b) := ⟨HV.out.1.later HBo, HV.out.2.later HBo⟩
                  have Np : Hid (Var wz n5 f1 f2 f3 f4 pp) := Np.out.later HBo
                  have Sg : Hid (StrsAt wz (.slice (some ⟨bg, og, none⟩) (M.groups pp.frags).length g2) (M.groups pp.frags)) := Sg.out.later HBo
                  have Sx : Hid (StrsAt wz (.slice x1 (M.groups a.frags).length x2) (M.groups a.frags)) := Sx.out.later HBo
                  have HB : Hid (Below w.heap.size w wz) := HB.out.trans (HBo.mono HB.out.size)
                  rw [← Hmany.out]
                  go_wp2_with fail
                  go_roundw
                  case rel => exact ⟨k + 1, by omega, by go_num, HV, Np, Sg, Sx, HB⟩
                  case measure => simp [intOf]; omega
            · rw [hh] at Hmany KC
              have Hmany : Hid (M.many s pp.frags = M.many s a.frags) := Hmany
              have HBw : Hid (Below wo.heap.size wo (wi.alloc (.cells #[.slice a1 a.frags.length k1, .slice a2 a.defs.length k2] 25))) := HBi.out.alloc HBi.out.size _
              go_wp2_with (go_at_call 17; refine (KC.out _ ((Below.refl _ _).alloc (Nat.le_refl _) _)).mono ?_; rintro e w' ⟨rfl, rfl⟩)
              go_loopw [17, 135] (fun sn sc wz => ∃ (j : Nat), j ≤ a.frags.length ∧ sc = .int .i64 j ∧ sn = .int .i64 ((M.many s (a.frags.take j) : Nat) : Int) ∧ Hid (Below (wi.alloc (.cells #[.slice a1 a.frags.length k1, .slice a2 a.defs.length k2] 25)).heap.size (wi.alloc (.cells #[.slice a1 a.frags.length k1, .slice a2 a.defs.length k2] 25)) wz)) (fun _ sc _ => a.frags.length - (intOf sc).toNat)
              case atStart => exact ⟨0, Nat.zero_le _, rfl, rfl, Below.refl _ _⟩
              case round =>
                obtain ⟨j, hj, rfl, rfl, HBi⟩ := hrel
                rename World => wz
                by_cases hjl : j < a.frags.length
                · obtain ⟨bb, of, ab, cb, ar, cr, har, e0, e1, e2, e3, e4, e5, _, _, _, _⟩ := ((HV.out.1.fr.later HBw.out).later HBi.out).cells j hjl
                  have hbb : bb < wz.heap.size := World.block_lt_of_cell? _ _ e0
                  have Hm := many_take s a.frags j hjl
                  have hjl' : (j : Int) < (a.frags.length : Int) := by omega
                  have hm60 := many_le s (a.frags.take j)
                  have hle60 := Hna.out
                  have hmb : M.many s (a.frags.take j) ≤ 100 := by rw [List.length_take] at hm60; omega
                  have HBa : Hid (∀ o, Below (wi.alloc (.cells #[.slice a1 a.frags.length k1, .slice a2 a.defs.length k2] 25)).heap.size (wi.alloc (.cells #[.slice a1 a.frags.length k1, .slice a2 a.defs.length k2] 25)) (wz.alloc o)) := fun o => HBi.out.alloc HBi.out.size o
                  subst har
                  generalize a.frags.getD j frg0 = f at *
                  obtain ⟨s0, al, gr, bs, sz, rs⟩ := f
                  simp only at e0 e1 e2 e3 e4 e5 Hm
                  generalize bs.length = m1 at *
                  generalize rs.length = m2 at *
                  generalize M.many s (a.frags.take j) = mn at *
                  cases hq : (gr.toList == s.toList)
                  · rw [hq] at Hm
                    have Hm : Hid (M.many s (a.frags.take (j + 1)) = mn) := Hm
                    go_wp2_with fail
                    go_roundw
                    case rel => exact ⟨j + 1, by omega, by go_num, by rw [Hm.out], HBa.out _⟩
                    case measure => simp [intOf]; omega
                  · rw [hq] at Hm
                    have Hm : Hid (M.many s (a.frags.take (j + 1)) = mn + 1) := Hm
                    go_wp2_with fail
                    go_roundw
                    case rel => exact ⟨j + 1, by omega, by go_num, by rw [Hm.out]; go_num, HBa.out _⟩
                    case measure => simp [intOf]; omega
                · have hjl' : j = a.frags.length := by omega
                  subst hjl'
                  rw [List.take_length]
                  have hbz := HBi.out
                  have HBo : Below wo.heap.size wo wz := (HBw.out.trans (hbz.mono HBw.out.size))
                  have HV : Hid (Var wz w.heap.size a1 a2 k1 k2 a ∧ Var wz (w.heap.size + 1) b1 b2 k3 k4 b) := ⟨HV.out.1.later HBo, HV.out.2.later HBo⟩
                  have Np : Hid (Var wz n5 f1 f2 f3 f4 pp) := Np.out.later HBo
                  have Sg : Hid (StrsAt wz (.slice (some ⟨bg, og, none⟩) (M.groups pp.frags).length g2) (M.groups pp.frags)) := Sg.out.later HBo
                  have Sx : Hid (StrsAt wz (.slice x1 (M.groups a.frags).length x2) (M.groups a.frags)) := Sx.out.later HBo
                  have HB : Hid (Below w.heap.size w wz) := HB.out.trans (HBo.mono HB.out.size)
                  rw [← Hmany.out]
                  go_wp2_with fail
                  go_roundw
                  case rel => exact ⟨k + 1, by omega, by go_num, HV, Np, Sg, Sx, HB⟩
                  case measure => simp [intOf]; omega
      · have hkl : k = (M.groups pp.frags).length := by omega
        subst hkl
        go_wp2
        go_ret
        exact ⟨rfl, HB.out⟩
  · have hne : (re != 0) = true := by simpa using hre
    clear hre Hj
    go_wp2_with (go_at_call 11; refine (KS.out _).mono ?_; rintro e x5 ⟨rfl, hb5⟩; refine Hid.out ?_)
    have HB : Hid (Below w.heap.size w x5) := HB.out.trans (hb5.mono HB.out.size)
    clear hb5
    refine Lib.hid ?_
    go_wp2_with (go_at_call 11; refine (KS.out _).mono ?_; rintro e x6 ⟨rfl, hb6⟩)
    go_ret
    exact ⟨rfl, HB.out.trans (hb6.mono HB.out.size)⟩

end Go.Proofs.Ytebhbhbhcoijpaa
