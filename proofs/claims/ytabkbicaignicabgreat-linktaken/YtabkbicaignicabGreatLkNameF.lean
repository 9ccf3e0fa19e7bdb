/-
  The contracts of link.nameFaults and link.allFaults.
-/
import Derived.Test.YtabkbicaignicabGreatLkFx
namespace Go.Proofs.YtabkbicaignicabGreat
open Go Go.RowKit
set_option linter.unusedVariables false

theorem own_weaken {w : World} {B B' k n : Nat} {e : TypeId} {v : Value} {xs : List Value} (h : w.ownsRow B e k v n xs) (hB : B' ≤ B) : w.ownsRow B' e k v n xs :=
  let ⟨h0, h1⟩ := h
  ⟨h0, h1.imp id fun ⟨g, cap, cs, e, hg, r⟩ => ⟨g, cap, cs, e, Nat.le_trans hB hg, r⟩⟩

theorem nameFaults_ok {p : M.Prt} {s : ByteArray} (h : (M.find p.defs s).2 = 0) : M.nameFaults p s = M.named p := if_pos h
theorem nameFaults_told {p : M.Prt} {s : ByteArray} (h : ¬ (M.find p.defs s).2 = 0) (h2 : M.faulty (M.named p) s = true) : M.nameFaults p s = M.named p := by
  unfold M.nameFaults; rw [if_neg h, if_pos h2]
theorem nameFaults_more {p : M.Prt} {s : ByteArray} (h : ¬ (M.find p.defs s).2 = 0) (h2 : M.faulty (M.named p) s = false) : M.nameFaults p s = M.named p ++ [⟨(M.find p.defs s).2, s, 0, 0⟩] := by
  unfold M.nameFaults; rw [if_neg h, if_neg (by rw [h2]; decide)]
theorem named_flat (l : List (Int × ByteArray)) : l.flatMap encFlt = (l.map M.fltOf).flatMap encF := by
  induction l with
  | nil => rfl
  | cons x l ih => rw [List.flatMap_cons, ih]; rfl

theorem named_len {p : M.Prt} (h : M.Ok p) : (M.named p).length ≤ 540 := by
  have h1 := List.length_filterMap_le (M.faultAt p.defs) (M.rising (M.wanted p ++ M.defined p))
  have h2 := rising_le (M.wanted p ++ M.defined p)
  have h3 := rising_le (M.wantedNames p.frags)
  have h4 := rising_le (M.definedNames p.defs)
  have h5 := wantedNames_le p.frags (fun f hf => (M.frag_parts (M.frag_ok h hf)).2.2.1)
  have h6 : (M.definedNames p.defs).length = p.defs.length := by simp [M.definedNames]
  have h7 := h.nf
  have h8 := h.nd
  rw [List.length_append] at h2
  unfold M.named M.faults
  rw [List.length_map]
  unfold M.wanted M.defined at *
  omega

set_option maxHeartbeats 8000000 in
set_option maxRecDepth 100000 in
theorem nameFaults_any (p : M.Prt) (s : ByteArray) (a1 a2 : Option Addr) (c1 c2 : Nat) (w : World) (hf : FragsAt w (.slice a1 p.frags.length c1) p.frags) (hd : DefsAt w (.slice a2 p.defs.length c2) p.defs) (hck : M.checkPart p = 0) :
    Calls Tryz.prog 45 #[.agg #[.slice a1 p.frags.length c1, .slice a2 p.defs.length c2], .string s] w
      fun e w' => Below w.heap.size w w' ∧ ∃ v, e = .returned v ∧ FRow w' w.heap.size v (M.nameFaults p s) ∧ (M.nameFaults p s).length ≤ 541 := by
  obtain ⟨i1, hi1, hy0, hy1, hy2⟩ := info_parts (P := Tryz.prog) (e := 44) (z := .agg #[.int .i64 0, .string ⟨#[]⟩, .int .i64 0, .int .i64 0]) (size := 4) (bytes := 40) (by kernel_rfl)
  have hnl := named_len ((M.ok_iff p).1 hck)
  have hA : Below w.heap.size w (w.alloc (.cells #[.slice a1 p.frags.length c1, .slice a2 p.defs.length c2] 38)) := (Below.refl _ _).alloc (Nat.le_refl _) _
  have q := heap_alloc_new w (.cells #[.slice a1 p.frags.length c1, .slice a2 p.defs.length c2] 38)
  have KS : Hid (Calls Tryz.prog 67 #[.agg #[.slice a1 p.frags.length c1, .slice a2 p.defs.length c2]] (w.alloc (.cells #[.slice a1 p.frags.length c1, .slice a2 p.defs.length c2] 38)) fun e w' => Below (w.alloc (.cells #[.slice a1 p.frags.length c1, .slice a2 p.defs.length c2] 38)).heap.size (w.alloc (.cells #[.slice a1 p.frags.length c1, .slice a2 p.defs.length c2] 38)) w' ∧ ∃ v, e = .returned (.tuple #[v, .int .i64 0]) ∧ FRow w' w.heap.size v (M.named p)) := by
    refine (faultsP_any p a1 a2 c1 c2 _ (hf.later hA) (hd.later hA)).mono ?_
    rintro e w' ⟨hb, v, rfl, ho⟩
    rw [hck]
    refine ⟨hb, v, rfl, ?_⟩
    have hfo : faultsOfP p = M.faults p := if_pos hck
    rw [hfo, named_flat] at ho
    unfold FRow M.named
    rw [List.length_map]
    exact own_weaken ho (by simp)
  have KFd : Hid (∀ W, Below w.heap.size w W → Calls Tryz.prog 61 #[.agg #[.slice a1 p.frags.length c1, .slice a2 p.defs.length c2], .string s] W fun e w' => e = .returned (.tuple #[.agg (dfnArr (M.find p.defs s).1), .int .i64 (M.find p.defs s).2]) ∧ Below W.heap.size W w') := fun W hW => by
    have := findP_any p s a1 a2 c1 c2 W (hf.later hW) (hd.later hW)
    unfold findOf at this
    rwa [if_pos hck] at this
  have N1 : Hid _ := @nameFaults_ok p s
  have N2 : Hid _ := @nameFaults_told p s
  have N3 : Hid _ := @nameFaults_more p s
  clear hf hd hck
  generalize M.nameFaults p s = NF at *
  generalize M.find p.defs s = V at *
  obtain ⟨d, er⟩ := V
  obtain ⟨nm, kd, fg, ps, sz, al⟩ := d
  simp only [dfnArr] at KFd N1 N2 N3
  have u0 := cellB q 0
  have u1 := cellB q 1
  go_enter Tryz.func45, Tryz.ntmps45
  go_upto_region 2 with (go_at_call 67; refine KS.out.mono ?_; rintro e X ⟨hbX, v, rfl, hoX⟩)
  have HBX : Hid (Below w.heap.size w X) := hA.trans (hbX.mono hA.size)
  have x0 := (hbX.block _ (Array.getElem?_eq_some_iff.1 q).1).trans q
  have c0 : X.cell? ⟨w.heap.size, 0, none⟩ = some (.slice a1 p.frags.length c1) := cellB x0 0
  have c1' : X.cell? ⟨w.heap.size, 1, none⟩ = some (.slice a2 p.defs.length c2) := cellB x0 1
  have hlX : w.heap.size < X.heap.size := (Array.getElem?_eq_some_iff.1 x0).1
  clear hA q u0 u1 hbX KS x0
  obtain ⟨ax, cx, rfl⟩ := own_len hoX
  have KFd' : Hid (Calls Tryz.prog 61 #[.agg #[.slice a1 p.frags.length c1, .slice a2 p.defs.length c2], .string s] X _) := KFd.out X HBX.out
  clear KFd
  go_upto_region 3 with (go_at_call 61; refine KFd'.out.mono ?_; rintro e Y0 ⟨rfl, hbY0⟩)
  have hbY : Below X.heap.size X (Y0.alloc (.cells #[.string nm, .int .i64 kd, .int .i64 fg, .int .i64 ps, .int .i64 sz, .int .i64 al] 58)) := hbY0.alloc hbY0.size _
  have hoY := hoX.later hbY
  have HBY : Hid (Below w.heap.size w (Y0.alloc (.cells #[.string nm, .int .i64 kd, .int .i64 fg, .int .i64 ps, .int .i64 sz, .int .i64 al] 58))) := HBX.out.trans (hbY.mono HBX.out.size)
  clear hbY hbY0 KFd' c0 c1' hoX HBX hlX
  generalize Y0.alloc (.cells #[.string nm, .int .i64 kd, .int .i64 fg, .int .i64 ps, .int .i64 sz, .int .i64 al] 58) = Y at *
  generalize Y0.heap.size = ny at *
  have KF : Hid (Calls Tryz.prog 68 #[.slice ax (M.named p).length cx, .string s] Y _) := faulty_any (M.named p) ax cx s Y (row_flts hoY)
  generalize M.faulty (M.named p) s = fy at *
  generalize M.named p = nd at *
  have hwY : w.heap.size ≤ Y.heap.size := HBY.out.size
  by_cases he : er = 0
  · subst he
    obtain rfl : NF = nd := N1.out (by trivial)
    clear N1 N2 N3 KF
    go_wp2
    go_ret
    exact ⟨HBY.out, _, rfl, hoY, by omega⟩
  · have he' : (er != 0) = true := by simpa using he
    cases fy
    · obtain rfl : NF = nd ++ [⟨er, s, 0, 0⟩] := N3.out he (by trivial)
      clear N1 N2 N3 he
      go_upto_region 4 with (go_at_call 68; refine KF.out.mono ?_; rintro e V ⟨rfl, hbV⟩)
      have hoV := hoY.later hbV
      have HBV : Hid (Below w.heap.size w V) := HBY.out.trans (hbV.mono HBY.out.size)
      have hwV : w.heap.size ≤ V.heap.size := HBV.out.size
      clear hoY HBY KF hbV hwY
      have hnews : ∀ j u, (#[.int .i64 er, .string s, .int .i64 0, .int .i64 0] : Array Value).toList[j]? = some u → (V.alloc (.cells #[.int .i64 er, .string s, .int .i64 0, .int .i64 0] 44)).cell? ((⟨V.heap.size, 0, none⟩ : Addr).add j) = some u := World.news_of_block (heap_alloc_new V _)
      go_wp2_with (at_builtin; refine wpList_append_own _ rfl _ _ 26 rfl w.heap.size 44 i1 (.agg #[.int .i64 0, .string ⟨#[]⟩, .int .i64 0, .int .i64 0]) 4 40 Tryz.underlying26 hi1 hy0 hy1 hy2 rfl (by decide) _ _ _ rfl (World.ownsRow.alloc hoV _) ⟨V.heap.size, 0, none⟩ 1 1 (#[.int .i64 er, .string s, .int .i64 0, .int .i64 0] : Array Value).toList rfl rfl hnews (fun u hu => by simp at hu; rcases hu with rfl | rfl | rfl | rfl <;> rfl) (by unfold maxLen; omega) (by omega) (by simp; omega) ?_; intro v' w3 hown' hgrow3 hnil3)
      have HE1 : Hid (FRow w3 w.heap.size v' (nd ++ [⟨er, s, 0, 0⟩])) := by
        unfold FRow
        rw [Hid, List.length_append, List.flatMap_append]; exact hown'
      have HE2 : Hid (Below w.heap.size w w3) := (HBV.out.alloc hwV _).grown hgrow3 (by simp; omega) (fun k hk => (World.ownsRow.lt hoV k hk).1)
      go_ret
      exact ⟨HE2.out, _, rfl, HE1.out⟩
    · obtain rfl : NF = nd := N2.out he (by trivial)
      clear N1 N2 N3 he
      go_wp2_with (go_at_call 68; refine KF.out.mono ?_; rintro e V ⟨rfl, hbV⟩)
      go_ret
      exact ⟨HBY.out.trans (hbV.mono HBY.out.size), _, rfl, hoY.later hbV, by omega⟩

set_option maxHeartbeats 8000000 in
set_option maxRecDepth 100000 in
theorem allFaults_any (p : M.Prt) (l : M.Lay) (s : ByteArray) (a1 a2 : Option Addr) (c1 c2 bp bl : Nat) (w : World) (hf : FragsAt w (.slice a1 p.frags.length c1) p.frags) (hd : DefsAt w (.slice a2 p.defs.length c2) p.defs) (h : NumAt w bp bl p l) :
    Calls Tryz.prog 28 #[.agg #[.slice a1 p.frags.length c1, .slice a2 p.defs.length c2], .string s, .func (.func 42) #[] #[.pointer (some ⟨bp, 0, none⟩), .pointer (some ⟨bl, 0, none⟩)]] w
      fun e w' => Below w.heap.size w w' ∧ ∃ v, e = .returned v ∧ FRow w' w.heap.size v (M.allFaults p l s) ∧ (M.allFaults p l s).length ≤ 1100 := by
  obtain ⟨i1, hi1, hy0, hy1, hy2⟩ := info_parts (P := Tryz.prog) (e := 44) (z := .agg #[.int .i64 0, .string ⟨#[]⟩, .int .i64 0, .int .i64 0]) (size := 4) (bytes := 40) (by kernel_rfl)
  have hA : Below w.heap.size w (w.alloc (.cells #[.slice a1 p.frags.length c1, .slice a2 p.defs.length c2] 38)) := (Below.refl _ _).alloc (Nat.le_refl _) _
  have q := heap_alloc_new w (.cells #[.slice a1 p.frags.length c1, .slice a2 p.defs.length c2] 38)
  have KN : Hid (Calls Tryz.prog 45 #[.agg #[.slice a1 p.frags.length c1, .slice a2 p.defs.length c2], .string s] (w.alloc (.cells #[.slice a1 p.frags.length c1, .slice a2 p.defs.length c2] 38)) _) := nameFaults_any p s a1 a2 c1 c2 _ (hf.later hA) (hd.later hA) h.ok.ck
  have KP : Hid (∀ W nm an cn, Below w.heap.size w W → FltsAt W (.slice an nm.length cn) nm → Calls Tryz.prog 46 #[.slice a1 p.frags.length c1, .slice an nm.length cn, .func (.func 42) #[] #[.pointer (some ⟨bp, 0, none⟩), .pointer (some ⟨bl, 0, none⟩)]] W
      fun e w' => Below W.heap.size W w' ∧ ∃ v, e = .returned v ∧ FRow w' W.heap.size v (M.placeFaults p l nm) ∧ (M.placeFaults p l nm).length ≤ 480) := fun W nm an cn hW hn => placeFaults_any p l nm a1 an c1 cn bp bl W (hf.later hW) hn (h.later hW)
  have HAl : Hid (M.allFaults p l s = M.nameFaults p s ++ M.placeFaults p l (M.nameFaults p s)) := rfl
  have u0 := cellB q 0
  have u1 := cellB q 1
  clear hf hd h
  generalize M.allFaults p l s = AF at *
  generalize M.nameFaults p s = nf at *
  go_enter Tryz.func28, Tryz.ntmps28
  go_upto_region 2 with (go_at_call 45; refine KN.out.mono ?_; rintro e X ⟨hbX, v, rfl, hoX, hnl⟩)
  have HBX : Hid (Below w.heap.size w X) := hA.trans (hbX.mono hA.size)
  have x0 := (hbX.block _ (Array.getElem?_eq_some_iff.1 q).1).trans q
  have c0 : X.cell? ⟨w.heap.size, 0, none⟩ = some (.slice a1 p.frags.length c1) := cellB x0 0
  have hlX : w.heap.size < X.heap.size := (Array.getElem?_eq_some_iff.1 x0).1
  have hoX' : FRow X w.heap.size v nf := own_weaken hoX (by simp)
  clear hA q u0 u1 hbX KN x0 hoX
  obtain ⟨ax, cx, rfl⟩ := own_len hoX'
  have KP' : Hid (Calls Tryz.prog 46 #[.slice a1 p.frags.length c1, .slice ax nf.length cx, .func (.func 42) #[] #[.pointer (some ⟨bp, 0, none⟩), .pointer (some ⟨bl, 0, none⟩)]] X _) := KP.out X nf ax cx HBX.out (row_flts hoX')
  clear KP
  have HO : Hid (FRow X w.heap.size (.slice ax nf.length cx) nf) := hoX'
  clear hoX'
  generalize M.placeFaults p l nf = pf at *
  have hfl : ∀ x : List Flt, (x.flatMap encF).length = x.length * 4 := fun x => by
    induction x with
    | nil => rfl
    | cons y x ih => rw [List.flatMap_cons, List.length_append, ih, List.length_cons]; show 4 + x.length * 4 = (x.length + 1) * 4; omega
  have hf1 : ∀ u ∈ pf.flatMap encF, u.oneCell' = true := fun u hu => by
    obtain ⟨f, _, h⟩ := List.mem_flatMap.1 hu
    unfold encF at h
    simp at h
    rcases h with rfl | rfl | rfl | rfl <;> rfl
  have Hfl : Hid _ := hfl pf
  have Hf1 : Hid _ := hf1
  clear hfl hf1
  go_wp2_with (first | (go_at_call 46; refine KP'.out.mono ?_; rintro e Y ⟨hbY, vp, rfl, hoP, hpl⟩; have hoY := HO.out.later hbY; have HBY : Hid (Below w.heap.size w Y) := HBX.out.trans (hbY.mono HBX.out.size); have hwY := HBY.out.size; obtain ⟨ap, cp, rfl⟩ := own_len hoP) | (at_builtin; refine wpList_append_src _ rfl _ _ 26 rfl w.heap.size 44 i1 (.agg #[.int .i64 0, .string ⟨#[]⟩, .int .i64 0, .int .i64 0]) 4 40 Tryz.underlying26 hi1 hy0 hy1 hy2 rfl (by decide) _ nf.length (nf.flatMap encF) rfl hoY _ pf.length (pf.flatMap encF) rfl (row_src hoP) Hfl.out Hf1.out (by unfold maxLen; omega) (by omega) hwY ?_; intro v1 w1 ho1 hg1))
  have HE2 : Hid (Below w.heap.size w w1) := HBY.out.grown hg1 hwY (fun k hk => (World.ownsRow.lt hoY k hk).1)
  go_ret
  refine ⟨HE2.out, _, rfl, ?_, ?_⟩
  · rw [HAl.out]
    unfold FRow
    rw [List.length_append, List.flatMap_append]
    exact ho1
  · rw [HAl.out, List.length_append]
    omega

end Go.Proofs.YtabkbicaignicabGreat
