/-
  link.Items: what it gives, plain; its contract.
-/
import Derived.Test.YtabkbicaignicabGreatLkFact
import Derived.Test.YtabkbicaignicabGreatArChX
import Derived.Test.YtabkbicaignicabGreatArMathX
namespace Go.Proofs.YtabkbicaignicabGreat.M
open Go

/-- what Items gives -/
def itemsL (its : List Itm) (base : Int) (s : ByteArray) : Img × List Flt × Int :=
  if isName s = true then
    if (choose its [s]).2 = 0 then
      if (allFrom nil (choose its [s]).1).2 = 0 then link (allFrom nil (choose its [s]).1).1 base s else (img0, [], (allFrom nil (choose its [s]).1).2)
    else (img0, [], (choose its [s]).2)
  else (img0, [], 1)

theorem step_sub {G : Prt → Prop} {parts : List Prt} (hp : ∀ p ∈ parts, G p) {s : Ars × Bool} (hs : ∀ p ∈ s.1.out, G p) (i : Nat) : ∀ p ∈ (step parts s i).1.out, G p := fun p h => by
  unfold step at h
  split at h
  · rename_i hc
    rcases List.mem_append.1 (show p ∈ s.1.out ++ [parts.getD i nilP] from h) with h | h
    · exact hs p h
    · obtain rfl := List.mem_singleton.1 h
      by_cases hi : i < parts.length
      · exact hp _ (getD_mem parts nilP i hi)
      · have e : parts.getD i nilP = nilP := by rw [List.getD_eq_getElem?_getD, List.getElem?_eq_none (by omega)]; rfl
        rw [e] at hc
        exact absurd hc.2 (by show ¬ (false = true); decide)
  · exact hs p h
theorem roundN_sub {G : Prt → Prop} {parts : List Prt} (hp : ∀ p ∈ parts, G p) {s : Ars} (hs : ∀ p ∈ s.out, G p) : ∀ i, ∀ p ∈ (roundN parts s i).1.out, G p
  | 0 => hs
  | i + 1 => step_sub hp (roundN_sub hp hs i) i
theorem rounds_sub {G : Prt → Prop} {parts : List Prt} (hp : ∀ p ∈ parts, G p) : ∀ (f : Nat) (s : Ars), (∀ p ∈ s.out, G p) → ∀ p ∈ (rounds parts f s).out, G p
  | 0, s, hs => hs
  | f + 1, s, hs => by
    have h1 := roundN_sub hp hs parts.length
    unfold rounds
    split
    · exact rounds_sub hp f _ h1
    · exact h1

theorem fold_good : ∀ (l : List Itm) (s : St × List Prt), (∀ it ∈ l, checkItem it = 0) → (∀ p ∈ s.2, checkPart p = 0) → (∀ p ∈ (l.foldl chooseStep s).2, checkPart p = 0) ∧ (l.foldl chooseStep s).2.length ≤ s.2.length + 8 * l.length
  | [], s, _, hs => ⟨hs, Nat.le_refl _⟩
  | it :: l, s, hl, hs => by
    obtain ⟨h8, h1, hok⟩ := item_ok (hl it (by simp))
    have key : (∀ p ∈ (chooseStep s it).2, checkPart p = 0) ∧ (chooseStep s it).2.length ≤ s.2.length + 8 := by
      unfold chooseStep
      split
      · exact ⟨rounds_sub hok 9 ⟨s.1, s.2, none8⟩ hs, search_out it.parts s.1 s.2 h8⟩
      · rename_i ha
        have hlen := h1 (by simpa using ha)
        refine ⟨fun p hp => ?_, by show (s.2 ++ [it.parts.getD 0 nilP]).length ≤ _; simp⟩
        rcases List.mem_append.1 (show p ∈ s.2 ++ [it.parts.getD 0 nilP] from hp) with hp | hp
        · exact hs p hp
        · obtain rfl := List.mem_singleton.1 hp
          exact hok _ (getD_mem it.parts nilP 0 (by omega))
    have ih := fold_good l (chooseStep s it) (fun x hx => hl x (by simp [hx])) key.1
    rw [List.foldl_cons]
    refine ⟨ih.1, ?_⟩
    have := ih.2
    have := key.2
    simp only [List.length_cons]
    omega

theorem choose_good {its : List Itm} {first : List ByteArray} (h : (choose its first).2 = 0) : (∀ p ∈ (choose its first).1, checkPart p = 0) ∧ (choose its first).1.length ≤ 96 := by
  obtain ⟨h1, h2, h3⟩ := choose_out h
  obtain ⟨h12, hit⟩ := items_ok h1
  have := fold_good its (firstAll first, []) hit (fun p hp => by cases hp)
  rw [h3]
  refine ⟨this.1, ?_⟩
  have h4 := this.2
  simp only [List.length_nil] at h4
  omega

theorem plain_checks {l : List Prt} (h : ∀ p ∈ l, checkPart p = 0) (h12 : l.length ≤ 12) : checkItems (l.map plainItem) = 0 := by
  unfold checkItems
  rw [if_neg (by rw [List.length_map]; omega)]
  clear h12
  induction l with
  | nil => rfl
  | cons p l ih =>
    have e : checkItem (plainItem p) = 0 := by
      unfold checkItem plainItem
      rw [if_neg (by show ¬ 8 < 1; decide), if_neg (by simp)]
      show (if checkPart p = 0 then checkParts [] else checkPart p) = 0
      rw [if_pos (h p (by simp))]; rfl
    show (if checkItem (plainItem p) = 0 then checkItems1 (l.map plainItem) else checkItem (plainItem p)) = 0
    rw [if_pos e]
    exact ih (fun q hq => h q (by simp [hq]))

/-- what is taken may as well be laid bare -/
theorem items_bare {its : List Itm} {base : Int} {s : ByteArray} (h : (choose its [s]).2 = 0) (h12 : (choose its [s]).1.length ≤ 12) : itemsL ((choose its [s]).1.map plainItem) base s = itemsL its base s := by
  obtain ⟨h1, h2, h3⟩ := choose_out h
  have hck := plain_checks (choose_good h).1 h12
  have e0 : (choose ((choose its [s]).1.map plainItem) [s]).2 = 0 := by
    show (if checkItems ((choose its [s]).1.map plainItem) = 0 then _ else _ : List Prt × Int).2 = 0
    rw [if_pos hck, if_pos h2]
  have e1 := plain_out e0
  unfold itemsL
  rw [e0, e1, h]

end Go.Proofs.YtabkbicaignicabGreat.M
namespace Go.Proofs.YtabkbicaignicabGreat
open Go Go.RowKit
set_option linter.unusedVariables false

theorem itemsL_text {its : List M.Itm} {base : Int} {s : ByteArray} (h : M.isName s = false) : M.itemsL its base s = (M.img0, [], 1) := by
  unfold M.itemsL; rw [if_neg (by rw [h]; decide)]
theorem itemsL_choose {its : List M.Itm} {base : Int} {s : ByteArray} (h : M.isName s = true) (h2 : ¬ (M.choose its [s]).2 = 0) : M.itemsL its base s = (M.img0, [], (M.choose its [s]).2) := by
  unfold M.itemsL; rw [if_pos h, if_neg h2]
theorem itemsL_all {its : List M.Itm} {base : Int} {s : ByteArray} (h : M.isName s = true) (h2 : (M.choose its [s]).2 = 0) (h3 : ¬ (M.allFrom M.nil (M.choose its [s]).1).2 = 0) : M.itemsL its base s = (M.img0, [], (M.allFrom M.nil (M.choose its [s]).1).2) := by
  unfold M.itemsL; rw [if_pos h, if_pos h2, if_neg h3]
theorem itemsL_link {its : List M.Itm} {base : Int} {s : ByteArray} (h : M.isName s = true) (h2 : (M.choose its [s]).2 = 0) (h3 : (M.allFrom M.nil (M.choose its [s]).1).2 = 0) : M.itemsL its base s = M.link (M.allFrom M.nil (M.choose its [s]).1).1 base s := by
  unfold M.itemsL; rw [if_pos h, if_pos h2, if_pos h3]

/-- All, as a walk meets it -/
theorem all_v {ps : List M.Prt} {a : Option Addr} {c : Nat} {w : World} (h : PartsAt w (.slice a ps.length c) ps) (h96 : ps.length ≤ 96) (p : M.Prt) (er : Int) (hj : M.allFrom M.nil ps = (p, er)) :
    Calls Tryz.prog 10 #[.slice a ps.length c] w fun e w' =>
      Below w.heap.size w w' ∧ ∃ x1 y1 x2 y2, e = .returned (.tuple #[.agg #[.slice x1 p.frags.length y1, .slice x2 p.defs.length y2], .int .i64 er]) ∧ FragsAt w' (.slice x1 p.frags.length y1) p.frags ∧ DefsAt w' (.slice x2 p.defs.length y2) p.defs := by
  refine (all_any ps a c w h h96).mono ?_
  rintro e w' ⟨hb, es, vF, vD, rfl, hP, hes⟩
  rw [hj] at hP hes ⊢
  have hF := hP.fragsAt
  rw [hes] at hF
  obtain ⟨x1, y1, rfl⟩ := hF.form
  obtain ⟨x2, y2, rfl⟩ := hP.defsAt.form
  exact ⟨hb, x1, y1, x2, y2, rfl, hF, hP.defsAt⟩

set_option maxHeartbeats 8000000 in
set_option maxRecDepth 100000 in
theorem items_any (its : List M.Itm) (base : Int) (s : ByteArray) (a : Option Addr) (c : Nat) (w : World) (h : ItemsAt w (.slice a its.length c) its) (hsz : s.size ≤ maxLen) :
    Calls Tryz.prog 4 #[.slice a its.length c, .int .i64 base, .string s] w fun e w' => Below w.heap.size w w' ∧ LkOut w' (M.itemsL its base s) e := by
  obtain ⟨X0, HX0⟩ : ∃ X0, Hid (X0 = w.alloc (.cells #[.int .i64 0, .slice none 0 0] 25)) := ⟨_, rfl⟩
  have q1 : X0.heap[w.heap.size]? = some (.cells #[.int .i64 0, .slice none 0 0] 25 (0, 0)) := by rw [HX0.out]; exact heap_alloc_new _ _
  have hX0 : Below w.heap.size w X0 := by rw [HX0.out]; exact (Below.refl _ _).alloc (Nat.le_refl _) _
  have hl0 : w.heap.size < X0.heap.size := (Array.getElem?_eq_some_iff.1 q1).1
  have HB : Hid (∀ W, Below X0.heap.size X0 W → Below w.heap.size w W) := fun W hW => hX0.trans (hW.mono hX0.size)
  have HRb : Hid (∀ W, Below X0.heap.size X0 W → W.heap[w.heap.size]? = some (.cells #[.int .i64 0, .slice none 0 0] 25 (0, 0))) := fun W hW => (hW.block _ hl0).trans q1
  have HR : Hid (∀ W, Below X0.heap.size X0 W → W.cell? ⟨w.heap.size, 0, none⟩ = some (.int .i64 0) ∧ W.cell? ⟨w.heap.size, 1, none⟩ = some (.slice none 0 0) ∧ W.frozen? ⟨w.heap.size, 0, none⟩ = false ∧ W.frozen? ⟨w.heap.size, 1, none⟩ = false ∧ w.heap.size < W.heap.size) := fun W hW => by
    have y := HRb.out W hW
    exact ⟨cellB y 0, cellB y 1, frozenB y 0, frozenB y 1, (Array.getElem?_eq_some_iff.1 y).1⟩
  have KN : Hid (∀ W, Calls Tryz.prog 9 #[.string s] W fun e w' => e = .returned (.bool (M.isName s)) ∧ W = w') := fun W => (name_any s W hsz).mono fun e w' ⟨h1, h2⟩ => ⟨h1, h2.symm⟩
  have hbB : Below X0.heap.size X0 (X0.alloc (.cells #[.string s] 9)) := (Below.refl _ _).alloc (Nat.le_refl _) _
  have hst : StrsAt (X0.alloc (.cells #[.string s] 9)) (.slice (some ⟨X0.heap.size, 0, none⟩) [s].length 1) [s] := by
    refine ⟨⟨_, _, rfl, by show 1 ≤ maxLen; unfold maxLen; decide, .inr ⟨X0.heap.size, 0, rfl, fun j i hj hi => ?_⟩⟩, fun t ht => by rw [List.mem_singleton.1 ht]; exact hsz⟩
    obtain rfl : j = 0 := by simpa using hj
    obtain rfl : i = 0 := by omega
    exact cellB (heap_alloc_new X0 _) 0
  have KC : Hid (Calls Tryz.prog 5 #[.slice a its.length c, .slice (some ⟨X0.heap.size, 0, none⟩) 1 1] (X0.alloc (.cells #[.string s] 9)) fun e w' => ∃ x y, e = .returned (.tuple #[.slice x (M.choose its [s]).1.length y, .int .i64 (M.choose its [s]).2]) ∧ Below X0.heap.size X0 w' ∧ PartsAt w' (.slice x (M.choose its [s]).1.length y) (M.choose its [s]).1) := by
    refine (choose_v (h.later (hX0.trans (hbB.mono hX0.size))) hst).mono ?_
    rintro e w' ⟨v, rfl, ho⟩
    have hp := ChOut.parts ho
    obtain ⟨x, y, rfl⟩ := hp.form
    exact ⟨x, y, rfl, hbB.trans (ho.1.mono hbB.size), hp⟩
  have L1 : Hid _ := @itemsL_text its base s
  have L2 : Hid _ := @itemsL_choose its base s
  have L3 : Hid _ := @itemsL_all its base s
  have L4 : Hid _ := @itemsL_link its base s
  have HG : Hid ((M.choose its [s]).2 = 0 → (M.choose its [s]).1.length ≤ 96) := fun h => (M.choose_good h).2
  clear h hst hbB
  generalize M.itemsL its base s = RR at *
  generalize M.choose its [s] = CH at *
  obtain ⟨ps, er⟩ := CH
  simp only at KC L2 L3 L4 HG
  generalize M.isName s = isn at *
  go_enter Tryz.func4, Tryz.ntmps4
  go_upto_region 1 with fail
  rw [← HX0.out]
  clear HX0 q1 hX0
  cases isn
  · obtain rfl : RR = (M.img0, [], 1) := L1.out (by trivial)
    obtain ⟨r0, r1, f0, f1, hlR⟩ := HR.out X0 (Below.refl _ _)
    have HBf : Hid (Below w.heap.size w ((X0.setCell ⟨w.heap.size, 0, none⟩ (.int .i64 0)).setCell ⟨w.heap.size, 1, none⟩ (.slice none 0 0))) := ((HB.out X0 (Below.refl _ _)).setCell (by show w.heap.size ≤ w.heap.size; omega) _).setCell (by show w.heap.size ≤ w.heap.size; omega) _
    clear L1 L2 L3 L4 HB HR HRb KC HG
    go_wp2_with (go_at_call 9; refine (KN.out _).mono ?_; rintro e w2 ⟨rfl, rfl⟩)
    refine bodyPost_ret (v := .tuple #[.agg #[.int .i64 0, .slice none 0 0], .slice none 0 0, .int .i64 1]) (by simp [results, Tryz.results4, go_sem, r0, r1]) rfl ?_
    exact ⟨HBf.out, lkOut_err⟩
  · clear L1
    go_upto_region 4 with (first | (go_at_call 9; refine (KN.out _).mono ?_; rintro e w2 ⟨rfl, rfl⟩) | (go_at_call 5; refine KC.out.mono ?_; rintro e X1 ⟨x, y, rfl, hb1, hPa⟩))
    have H1 : Hid _ := hb1
    clear hb1 KC KN
    by_cases her : er = 0
    · subst her
      obtain ⟨p, r2, hal⟩ : ∃ p r, M.allFrom M.nil ps = (p, r) := ⟨_, _, rfl⟩
      rw [hal] at L3 L4
      simp only at L3 L4
      have KA : Hid (Calls Tryz.prog 10 #[.slice x ps.length y] X1 _) := all_v hPa (HG.out (by trivial)) p r2 hal
      clear hal hPa HG L2
      go_upto_region 7 with (go_at_call 10; refine KA.out.mono ?_; rintro e w2 ⟨hb2, x1, y1, x2, y2, rfl, hF2, hD2⟩)
      have V2 : Hid (Var (w2.alloc (.cells #[.slice x1 p.frags.length y1, .slice x2 p.defs.length y2] 38)) w2.heap.size x1 x2 y1 y2 p) := var_new hF2 hD2
      have H2 : Hid (Below X0.heap.size X0 (w2.alloc (.cells #[.slice x1 p.frags.length y1, .slice x2 p.defs.length y2] 38))) := H1.out.trans ((hb2.alloc hb2.size _).mono H1.out.size)
      clear hF2 hD2 KA hb2 H1
      generalize w2.alloc (.cells #[.slice x1 p.frags.length y1, .slice x2 p.defs.length y2] 38) = X2 at *
      generalize w2.heap.size = np at *
      by_cases hr2 : r2 = 0
      · subst hr2
        obtain rfl : RR = M.link p base s := L4.out (by trivial) (by trivial) (by trivial)
        obtain ⟨im, fl, e4, hl⟩ : ∃ im fl er, M.link p base s = (im, fl, er) := ⟨_, _, _, rfl⟩
        have Hl : Hid _ := hl
        have KL : Hid (Calls Tryz.prog 11 #[.agg #[.slice x1 p.frags.length y1, .slice x2 p.defs.length y2], .int .i64 base, .string s] X2 fun e w' => Below X2.heap.size X2 w' ∧ ∃ u1 v1 u2 v2, e = .returned (.tuple #[.agg #[.int .i64 im.entry, .slice u1 im.segs.length v1], .slice u2 fl.length v2, .int .i64 e4]) ∧ fl.length ≤ v2 ∧ ∀ W', KeepNI w' W' → SegsAt W' (.slice u1 im.segs.length v1) im.segs ∧ FltsAt W' (.slice u2 fl.length v2) fl) := by
          refine (link_any p base s x1 x2 y1 y2 X2 V2.out.fr V2.out.df hsz).mono ?_
          rintro e w' ⟨hb, vs, vf, rfl, h1, h2, h3, h4⟩
          rw [hl] at h1 h2 h4 ⊢
          obtain ⟨u1, v1, rfl, _⟩ := h1.form
          obtain ⟨u2, v2, rfl, _⟩ := SlAt.form h2
          exact ⟨hb, u1, v1, u2, v2, rfl, h3 _ _ _ rfl, h4⟩
        have c0 := V2.out.c0
        have c1 := V2.out.c1
        have hlv := V2.out.lt
        have HZ : Hid (∀ W, Below X2.heap.size X2 W → W.heap[w.heap.size]? = some (.cells #[.int .i64 0, .slice none 0 0] 25 (0, 0)) ∧ Below w.heap.size w W) := fun W hW => ⟨HRb.out W (H2.out.trans (hW.mono H2.out.size)), HB.out W (H2.out.trans (hW.mono H2.out.size))⟩
        clear L3 L4 hl V2 HB HR HRb H2
        go_wp2_with (go_at_call 11; refine KL.out.mono ?_; rintro e X6 ⟨hb6, u1, v1, u2, v2, rfl, hcp, hkp⟩; obtain ⟨y6, hB6⟩ := HZ.out X6 hb6; have r0 : X6.cell? ⟨w.heap.size, 0, none⟩ = some (.int .i64 0) := cellB y6 0; have r1 : X6.cell? ⟨w.heap.size, 1, none⟩ = some (.slice none 0 0) := cellB y6 1; have f0 := frozenB y6 0; have f1 := frozenB y6 1; have hlR : w.heap.size < X6.heap.size := (Array.getElem?_eq_some_iff.1 y6).1)
        refine bodyPost_ret (v := .tuple #[.agg #[.int .i64 im.entry, .slice u1 im.segs.length v1], .slice u2 fl.length v2, .int .i64 e4]) (by simp [results, Tryz.results4, go_sem, r0, r1]) rfl ?_
        have y7 := heap_setCell_same X6 w.heap.size 0 _ _ (.int .i64 im.entry) y6
        have hk1 : KeepNI X6 ((X6.setCell ⟨w.heap.size, 0, none⟩ (.int .i64 im.entry)).setCell ⟨w.heap.size, 1, none⟩ (.slice u1 im.segs.length v1)) := fun k cs t hh ht => image_keep y7 k cs t (image_keep y6 k cs t hh ht) ht
        rw [Hl.out]
        exact ⟨(hB6.setCell (by show w.heap.size ≤ w.heap.size; omega) _).setCell (by show w.heap.size ≤ w.heap.size; omega) _, _, _, rfl, (hkp _ hk1).1, (hkp _ hk1).2, (fun x n y h => by cases h; exact hcp), fun W' hk => hkp W' (fun k cs t hh ht => hk k cs t (hk1 k cs t hh ht) ht)⟩
      · obtain rfl : RR = (M.img0, [], r2) := L3.out (by trivial) (by trivial) hr2
        have hr2' : (r2 != 0) = true := by simpa using hr2
        obtain ⟨r0, r1, f0, f1, hlR⟩ := HR.out X2 H2.out
        have HBf : Hid (Below w.heap.size w ((X2.setCell ⟨w.heap.size, 0, none⟩ (.int .i64 0)).setCell ⟨w.heap.size, 1, none⟩ (.slice none 0 0))) := ((HB.out X2 H2.out).setCell (by show w.heap.size ≤ w.heap.size; omega) _).setCell (by show w.heap.size ≤ w.heap.size; omega) _
        clear L3 L4 HB HR HRb V2
        go_wp2
        refine bodyPost_ret (v := .tuple #[.agg #[.int .i64 0, .slice none 0 0], .slice none 0 0, .int .i64 r2]) (by simp [results, Tryz.results4, go_sem, r0, r1]) rfl ?_
        exact ⟨HBf.out, lkOut_err⟩
    · obtain rfl : RR = (M.img0, [], er) := L2.out (by trivial) her
      have her' : (er != 0) = true := by simpa using her
      obtain ⟨r0, r1, f0, f1, hlR⟩ := HR.out X1 H1.out
      have HBf : Hid (Below w.heap.size w ((X1.setCell ⟨w.heap.size, 0, none⟩ (.int .i64 0)).setCell ⟨w.heap.size, 1, none⟩ (.slice none 0 0))) := ((HB.out X1 H1.out).setCell (by show w.heap.size ≤ w.heap.size; omega) _).setCell (by show w.heap.size ≤ w.heap.size; omega) _
      clear L2 L3 L4 HB HR HRb hPa HG
      go_wp2
      refine bodyPost_ret (v := .tuple #[.agg #[.int .i64 0, .slice none 0 0], .slice none 0 0, .int .i64 er]) (by simp [results, Tryz.results4, go_sem, r0, r1]) rfl ?_
      exact ⟨HBf.out, lkOut_err⟩

/-- Items, as a walk meets it -/
theorem items_lk {its : List M.Itm} {base : Int} {s : ByteArray} {vI : Value} {w : World} (h : ItemsAt w vI its) (hsz : s.size ≤ maxLen) (im : M.Img) (fl : List Flt) (er : Int) (hl : M.itemsL its base s = (im, fl, er)) :
    Calls Tryz.prog 4 #[vI, .int .i64 base, .string s] w fun e w' =>
      Below w.heap.size w w' ∧ ∃ x1 y1 x2 y2, e = .returned (.tuple #[.agg #[.int .i64 im.entry, .slice x1 im.segs.length y1], .slice x2 fl.length y2, .int .i64 er]) ∧ SegsAt w' (.slice x1 im.segs.length y1) im.segs ∧ FltsAt w' (.slice x2 fl.length y2) fl := by
  obtain ⟨a, c, rfl⟩ := h.form
  refine (items_any its base s a c w h hsz).mono ?_
  rintro e w' ⟨hb, vs, vf, rfl, h1, h2, _⟩
  rw [hl] at h1 h2 ⊢
  obtain ⟨x1, y1, rfl, _⟩ := h1.form
  obtain ⟨x2, y2, rfl, _⟩ := SlAt.form h2
  exact ⟨hb, x1, y1, x2, y2, rfl, h1, h2⟩

end Go.Proofs.YtabkbicaignicabGreat
