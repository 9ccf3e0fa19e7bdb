/-
  The law LinkLinks: whatever the part, the base, the name and the two images, it returns true.
-/
import Derived.Test.YtcdpboocfkaifaaGreatDoorRefLinked
import Derived.Test.YtcdpboocfkaifaaGreatDoorRefLaid
import Derived.Test.YtcdpboocfkaifaaGreatDoorRefCk
import Derived.Test.YtcdpboocfkaifaaGreatDoorSmB
import Derived.Test.YtcdpboocfkaifaaGreatDoorLkFact
import Derived.Test.YtcdpboocfkaifaaGreatDoorFltA
namespace Go.Proofs.YtcdpboocfkaifaaGreatDoor
open Go Go.RowKit
set_option linter.unusedVariables false
attribute [local go_sem] lat_cell

theorem fltsTwo_like : ∀ l : List Flt, M.allTwo sameFlt l l = true
  | [] => rfl
  | x :: l => by show (sameFlt x x && M.allTwo sameFlt l l) = true; rw [show sameFlt x x = true by unfold sameFlt; simp, fltsTwo_like l]; rfl

/-- what the law keeps in its hands -/
structure LwS (p : M.Prt) (A B im : M.Img) (fl : List Flt) (a1 a2 u1 u2 x1 x2 : Option Addr) (c1 c2 v1 v2 y1 y2 b5 b8 b9 b11 : Nat) (w W : World) : Prop where
  bel : Below w.heap.size w W
  p5 : W.heap[b5]? = some (.cells #[.slice a1 p.frags.length c1, .slice a2 p.defs.length c2] 25 (0, 0))
  p8 : W.heap[b8]? = some (.cells #[.int .i64 A.entry, .slice u1 A.segs.length v1] 28 (0, 0))
  p9 : W.heap[b9]? = some (.cells #[.int .i64 B.entry, .slice u2 B.segs.length v2] 28 (0, 0))
  p11 : W.heap[b11]? = some (.cells #[.int .i64 im.entry, .slice x1 im.segs.length y1] 28 (0, 0))
  fr : FragsAt W (.slice a1 p.frags.length c1) p.frags
  df : DefsAt W (.slice a2 p.defs.length c2) p.defs
  sA : SegsAt W (.slice u1 A.segs.length v1) A.segs
  sB : SegsAt W (.slice u2 B.segs.length v2) B.segs
  sI : SegsAt W (.slice x1 im.segs.length y1) im.segs
  sF : FltsAt W (.slice x2 fl.length y2) fl
theorem LwS.later {p : M.Prt} {A B im : M.Img} {fl : List Flt} {a1 a2 u1 u2 x1 x2 : Option Addr} {c1 c2 v1 v2 y1 y2 b5 b8 b9 b11 : Nat} {w W X : World} (h : LwS p A B im fl a1 a2 u1 u2 x1 x2 c1 c2 v1 v2 y1 y2 b5 b8 b9 b11 w W) (hb : Below W.heap.size W X) : LwS p A B im fl a1 a2 u1 u2 x1 x2 c1 c2 v1 v2 y1 y2 b5 b8 b9 b11 w X :=
  have hk : ∀ {b : Nat} {cs : Array Value} {t : TypeId}, W.heap[b]? = some (.cells cs t (0, 0)) → X.heap[b]? = some (.cells cs t (0, 0)) := fun hx => (hb.block _ (Array.getElem?_eq_some_iff.1 hx).1).trans hx
  ⟨h.bel.trans (hb.mono h.bel.size), hk h.p5, hk h.p8, hk h.p9, hk h.p11, h.fr.later hb, h.df.later hb, h.sA.later hb, h.sB.later hb, h.sI.later hb, h.sF.later hb⟩

set_option maxHeartbeats 16000000 in
set_option maxRecDepth 100000 in
theorem links_law (p : M.Prt) (base : Int) (s : ByteArray) (A B : M.Img) (a1 a2 u1 u2 : Option Addr) (c1 c2 v1 v2 : Nat) (w : World) (hf : FragsAt w (.slice a1 p.frags.length c1) p.frags) (hd : DefsAt w (.slice a2 p.defs.length c2) p.defs) (hcap : p.frags.length ≤ c1) (hs : s.size ≤ maxLen)
    (hA : SegsAt w (.slice u1 A.segs.length v1) A.segs) (hB : SegsAt w (.slice u2 B.segs.length v2) B.segs) :
    Calls Tryz.prog 3 #[.agg #[.slice a1 p.frags.length c1, .slice a2 p.defs.length c2], .int .i64 base, .string s, .agg #[.int .i64 A.entry, .slice u1 A.segs.length v1], .agg #[.int .i64 B.entry, .slice u2 B.segs.length v2]] w fun e w' => e = .returned (.bool true) ∧ Below w.heap.size w w' := by
  obtain ⟨V0, HV0⟩ : ∃ V0, Hid (V0 = ((w.alloc (.cells #[.slice a1 p.frags.length c1, .slice a2 p.defs.length c2] 25)).alloc (.cells #[.int .i64 A.entry, .slice u1 A.segs.length v1] 28)).alloc (.cells #[.int .i64 B.entry, .slice u2 B.segs.length v2] 28)) := ⟨_, rfl⟩
  have hA0 : Below w.heap.size w V0 := by rw [HV0.out]; exact (((Below.refl _ _).alloc (Nat.le_refl _) _).alloc (by simp) _).alloc (by simp; omega) _
  have q5 : V0.heap[w.heap.size]? = some (.cells #[.slice a1 p.frags.length c1, .slice a2 p.defs.length c2] 25 (0, 0)) := by rw [HV0.out]; exact (heap_alloc_old _ _ (by simp; omega)).trans ((heap_alloc_old _ _ (by simp)).trans (heap_alloc_new w _))
  have q8 : V0.heap[w.heap.size + 1]? = some (.cells #[.int .i64 A.entry, .slice u1 A.segs.length v1] 28 (0, 0)) := by
    rw [HV0.out]
    have h := heap_alloc_new (w.alloc (.cells #[.slice a1 p.frags.length c1, .slice a2 p.defs.length c2] 25)) (.cells #[.int .i64 A.entry, .slice u1 A.segs.length v1] 28)
    rw [show (w.alloc (.cells #[.slice a1 p.frags.length c1, .slice a2 p.defs.length c2] 25)).heap.size = w.heap.size + 1 by simp] at h
    exact (heap_alloc_old _ _ (by simp)).trans h
  have q9 : V0.heap[w.heap.size + 1 + 1]? = some (.cells #[.int .i64 B.entry, .slice u2 B.segs.length v2] 28 (0, 0)) := by
    rw [HV0.out]
    have h := heap_alloc_new ((w.alloc (.cells #[.slice a1 p.frags.length c1, .slice a2 p.defs.length c2] 25)).alloc (.cells #[.int .i64 A.entry, .slice u1 A.segs.length v1] 28)) (.cells #[.int .i64 B.entry, .slice u2 B.segs.length v2] 28)
    rwa [show ((w.alloc (.cells #[.slice a1 p.frags.length c1, .slice a2 p.defs.length c2] 25)).alloc (.cells #[.int .i64 A.entry, .slice u1 A.segs.length v1] 28)).heap.size = w.heap.size + 1 + 1 by simp] at h
  obtain ⟨im, fl, er, HLk⟩ : ∃ im fl er, Hid (M.link p base s = (im, fl, er)) := ⟨_, _, _, rfl⟩
  have KL : Hid (Calls Tryz.prog 4 #[.agg #[.slice a1 p.frags.length c1, .slice a2 p.defs.length c2], .int .i64 base, .string s] V0 fun e w' => Below V0.heap.size V0 w' ∧ ∃ x1 y1 x2 y2, e = .returned (.tuple #[.agg #[.int .i64 im.entry, .slice x1 im.segs.length y1], .slice x2 fl.length y2, .int .i64 er]) ∧ SegsAt w' (.slice x1 im.segs.length y1) im.segs ∧ FltsAt w' (.slice x2 fl.length y2) fl) := link_v (hf.later hA0) (hd.later hA0) hs im fl er HLk.out
  have KC : Hid (∀ W, FragsAt W (.slice a1 p.frags.length c1) p.frags → DefsAt W (.slice a2 p.defs.length c2) p.defs → Calls Tryz.prog 5 #[.agg #[.slice a1 p.frags.length c1, .slice a2 p.defs.length c2]] W fun e w' => e = .returned (.int .i64 (M.checkPart p)) ∧ Below W.heap.size W w') := fun W h1 h2 => rcheck_any p.frags p.defs a1 a2 c1 c2 W h1 h2
  have KN : Hid (∀ W, Calls Tryz.prog 6 #[.string s] W fun e w' => e = .returned (.bool (M.isName s)) ∧ Below W.heap.size W w') := fun W => isName_any s W hs
  have KD : Hid (∀ W, Calls Tryz.prog 7 #[] W fun e w' => e = .returned (.bool true) ∧ Below W.heap.size W w') := fun W => linked_any W
  have H5 : (¬ M.checkPart p = 0 ∧ (im, fl, er) = (M.img0, [], M.checkPart p)) ∨ (M.checkPart p = 0 ∧ M.isName s = false ∧ (im, fl, er) = (M.img0, [], 1)) ∨ (M.checkPart p = 0 ∧ M.isName s = true ∧ base < 0 ∧ (im, fl, er) = (M.img0, [], 3)) ∨ (M.checkPart p = 0 ∧ M.isName s = true ∧ (0 ≤ base ∧ 65535 < base) ∧ (im, fl, er) = (M.img0, [], 3)) ∨ (M.checkPart p = 0 ∧ M.isName s = true ∧ (0 ≤ base ∧ base ≤ 65535)) := by
    by_cases h1 : M.checkPart p = 0
    · cases h2 : M.isName s
      · exact .inr (.inl ⟨h1, rfl, by rw [← HLk.out]; exact link_text h1 h2⟩)
      · by_cases h3 : base < 0
        · have hl : (M.lay p base).2 = 3 := by unfold M.lay; rw [if_pos h1, if_pos (.inl h3)]
          exact .inr (.inr (.inl ⟨h1, rfl, h3, by rw [← HLk.out, link_lay h1 h2 (by rw [hl]; decide), hl]⟩))
        · by_cases h4 : 65535 < base
          · have hl : (M.lay p base).2 = 3 := by unfold M.lay; rw [if_pos h1, if_pos (.inr (by omega))]
            exact .inr (.inr (.inr (.inl ⟨h1, rfl, ⟨by omega, h4⟩, by rw [← HLk.out, link_lay h1 h2 (by rw [hl]; decide), hl]⟩)))
          · exact .inr (.inr (.inr (.inr ⟨h1, rfl, by omega, by omega⟩)))
    · exact .inl ⟨h1, by rw [← HLk.out]; exact link_check h1⟩
  have HLd : Hid (M.checkPart p = 0 → M.isName s = true → 0 ≤ base → base ≤ 65535 → ∀ W, FragsAt W (.slice a1 p.frags.length c1) p.frags → DefsAt W (.slice a2 p.defs.length c2) p.defs → Calls Tryz.prog 10 #[.agg #[.slice a1 p.frags.length c1, .slice a2 p.defs.length c2], .int .i64 base, .string s] W fun e w' => Below W.heap.size W w' ∧ ∃ xs ys xf yf, e = .returned (.tuple #[.agg #[.int .i64 im.entry, .slice xs im.segs.length ys], .slice xf fl.length yf, .int .i64 er]) ∧ SegsAt w' (.slice xs im.segs.length ys) im.segs ∧ FltsAt w' (.slice xf fl.length yf) fl) := fun h1 h2 h3 h4 W hw1 hw2 =>
    (rlinked_any p base s a1 a2 c1 c2 W hw1 hw2 h1 h2 (fun X hX => laidOut_any p base a1 a2 c1 c2 X (hw1.later hX) (hw2.later hX) hcap h1 h3 (by omega))).mono (by
      rintro e w' ⟨hb, vs, vf, rfl, k1, k2⟩
      rw [HLk.out] at k1 k2 ⊢
      obtain ⟨xs, ys, rfl, _⟩ := k1.form
      obtain ⟨xf, yf, rfl, _⟩ := SlAt.form k2
      exact ⟨hb, xs, ys, xf, yf, rfl, k1, k2⟩)
  have HIn : Hid (FragsAt V0 (.slice a1 p.frags.length c1) p.frags ∧ DefsAt V0 (.slice a2 p.defs.length c2) p.defs ∧ SegsAt V0 (.slice u1 A.segs.length v1) A.segs ∧ SegsAt V0 (.slice u2 B.segs.length v2) B.segs) := ⟨hf.later hA0, hd.later hA0, hA.later hA0, hB.later hA0⟩
  clear hf hd hA hB hcap hs HLk
  generalize M.checkPart p = ck at *
  generalize M.isName s = nm at *
  go_enter Tryz.func3, Tryz.ntmps3
  go_upto_region 1 with fail
  rw [← HV0.out]
  clear HV0
  obtain ⟨b9, hb9⟩ : ∃ b9, b9 = w.heap.size + 1 + 1 := ⟨_, rfl⟩
  rw [← hb9] at q9 ⊢
  obtain ⟨b8, hb8⟩ : ∃ b8, b8 = w.heap.size + 1 := ⟨_, rfl⟩
  rw [← hb8] at q8 ⊢
  obtain ⟨b5, hb5⟩ : ∃ b5, b5 = w.heap.size := ⟨_, rfl⟩
  rw [← hb5] at q5 ⊢
  clear hb9 hb8 hb5
  have d0 : V0.cell? ⟨b5, 0, none⟩ = some (.slice a1 p.frags.length c1) := cellB q5 0
  have d1 : V0.cell? ⟨b5, 1, none⟩ = some (.slice a2 p.defs.length c2) := cellB q5 1
  have dl : b5 < V0.heap.size := (Array.getElem?_eq_some_iff.1 q5).1
  go_upto_region 2 with (go_at_call 4; refine KL.out.mono ?_; rintro e X1 ⟨hb1, x1, y1, x2, y2, rfl, hsg, hfl⟩)
  have hA1 := (Below.refl X1.heap.size X1).alloc (Nat.le_refl _) (.cells #[.int .i64 im.entry, .slice x1 im.segs.length y1] 28)
  have hB1 := hb1.trans (hA1.mono hb1.size)
  have hk : ∀ {b : Nat} {cs : Array Value} {t : TypeId}, V0.heap[b]? = some (.cells cs t (0, 0)) → (X1.alloc (.cells #[.int .i64 im.entry, .slice x1 im.segs.length y1] 28)).heap[b]? = some (.cells cs t (0, 0)) := fun hx => (hB1.block _ (Array.getElem?_eq_some_iff.1 hx).1).trans hx
  have hL1 : LwS p A B im fl a1 a2 u1 u2 x1 x2 c1 c2 v1 v2 y1 y2 b5 b8 b9 X1.heap.size w (X1.alloc (.cells #[.int .i64 im.entry, .slice x1 im.segs.length y1] 28)) := ⟨hA0.trans (hB1.mono hA0.size), hk q5, hk q8, hk q9, heap_alloc_new X1 _, HIn.out.1.later hB1, HIn.out.2.1.later hB1, HIn.out.2.2.1.later hB1, HIn.out.2.2.2.later hB1, hsg.later hA1, hfl.later hA1⟩
  have HL1 : Hid _ := hL1
  clear hk KL hb1 hsg hfl hA1 hB1 hL1 d0 d1 dl q5 q8 q9 hA0 HIn
  generalize X1.heap.size = b11 at *
  generalize X1.alloc (.cells #[.int .i64 im.entry, .slice x1 im.segs.length y1] 28) = V1 at *
  clear X1 V0
  have HL1' : Hid (LwS p A B im fl a1 a2 u1 u2 x1 x2 c1 c2 v1 v2 y1 y2 b5 b8 b9 b11 w V1) := HL1
  clear HL1
  have d0 : V1.cell? ⟨b5, 0, none⟩ = some (.slice a1 p.frags.length c1) := cellB HL1'.out.p5 0
  have d1 : V1.cell? ⟨b5, 1, none⟩ = some (.slice a2 p.defs.length c2) := cellB HL1'.out.p5 1
  have dl : b5 < V1.heap.size := (Array.getElem?_eq_some_iff.1 HL1'.out.p5).1
  have KC1 : Hid (Calls Tryz.prog 5 #[.agg #[.slice a1 p.frags.length c1, .slice a2 p.defs.length c2]] V1 fun e w' => e = .returned (.int .i64 ck) ∧ Below V1.heap.size V1 w') := KC.out V1 HL1'.out.fr HL1'.out.df
  go_upto_region 3 with (go_at_call 5; refine KC1.out.mono ?_; rintro e V2 ⟨rfl, hb2⟩)
  have HL2 : Hid (LwS p A B im fl a1 a2 u1 u2 x1 x2 c1 c2 v1 v2 y1 y2 b5 b8 b9 b11 w V2) := HL1'.out.later hb2
  clear KC KC1 hb2 d0 d1 dl HL1' V1
  rcases H5 with ⟨hck, hlk⟩ | ⟨rfl, rfl, hlk⟩ | ⟨rfl, rfl, hbs, hlk⟩ | ⟨rfl, rfl, hbs, hlk⟩ | ⟨rfl, rfl, hbs⟩
  · obtain ⟨rfl, rfl, rfl⟩ : im = M.img0 ∧ fl = [] ∧ ck = er := by cases hlk; exact ⟨rfl, rfl, rfl⟩
    clear hlk HLd
    have hck1 : (ck == 0) = false := by simpa using hck
    have hck2 : (ck != 0) = true := by simpa using hck
    go_upto_region 7 with fail
    obtain ⟨V3, HV3⟩ : ∃ V3, Hid (V3 = V2) := ⟨_, rfl⟩
    rw [← HV3.out]
    have HL3 : Hid (LwS p A B M.img0 [] a1 a2 u1 u2 x1 x2 c1 c2 v1 v2 y1 y2 b5 b8 b9 b11 w V3) := by rw [Hid, HV3.out]; exact HL2.out
    clear HV3 HL2
    have g80 : V3.cell? ⟨b8, 0, none⟩ = some (.int .i64 A.entry) := cellB HL3.out.p8 0
    have g81 : V3.cell? ⟨b8, 1, none⟩ = some (.slice u1 A.segs.length v1) := cellB HL3.out.p8 1
    have g8 : b8 < V3.heap.size := (Array.getElem?_eq_some_iff.1 HL3.out.p8).1
    have g90 : V3.cell? ⟨b9, 0, none⟩ = some (.int .i64 B.entry) := cellB HL3.out.p9 0
    have g91 : V3.cell? ⟨b9, 1, none⟩ = some (.slice u2 B.segs.length v2) := cellB HL3.out.p9 1
    have g9 : b9 < V3.heap.size := (Array.getElem?_eq_some_iff.1 HL3.out.p9).1
    have KS : Hid (∀ W, Below V3.heap.size V3 W → Calls Tryz.prog 8 #[.agg #[.int .i64 A.entry, .slice u1 A.segs.length v1], .agg #[.int .i64 B.entry, .slice u2 B.segs.length v2]] W fun e w' => e = .returned (.bool (M.sameImg A B)) ∧ Below W.heap.size W w') := fun W hW => imgSame_any A B u1 u2 v1 v2 W (HL3.out.later hW).sA (HL3.out.later hW).sB
    have KR : Hid (∀ W, Below V3.heap.size V3 W → Calls Tryz.prog 9 #[.agg #[.int .i64 A.entry, .slice u1 A.segs.length v1], .agg #[.int .i64 B.entry, .slice u2 B.segs.length v2]] W fun e w' => e = .returned (.bool (M.sameImg A B)) ∧ Below W.heap.size W w') := fun W hW => rimgSame_any A B u1 u2 v1 v2 W (HL3.out.later hW).sA (HL3.out.later hW).sB
    generalize M.sameImg A B = R at *
    refine wp_region_lat (by kernel_rfl) (by kernel_rfl) ?_
    intro hne
    repeat (go_big_quiet_step (first | (go_at_call 7; exact lat_of (KD.out _)) | (go_at_call 8; exact lat_of (KS.out _ (Lat.below _))) | (go_at_call 9; exact lat_of (KR.out _ (Lat.below _)))))
    refine wpQuiet_nil ?_
    intro V4 hb4
    have hb5 := lat_out hb4
    have HL4 : Hid (LwS p A B M.img0 [] a1 a2 u1 u2 x1 x2 c1 c2 v1 v2 y1 y2 b5 b8 b9 b11 w V4) := HL3.out.later hb5
    clear hb4 hb5 hne KS KR KD g80 g81 g8 g90 g91 g9 HL3
    have m0 : V4.cell? ⟨b11, 0, none⟩ = some (.int .i64 0) := cellB HL4.out.p11 0
    have m1 : V4.cell? ⟨b11, 1, none⟩ = some (.slice x1 0 y1) := cellB HL4.out.p11 1
    have ml : b11 < V4.heap.size := (Array.getElem?_eq_some_iff.1 HL4.out.p11).1
    have KI : Hid (Calls Tryz.prog 9 #[.agg #[.int .i64 0, .slice x1 0 y1], .agg #[.int .i64 0, .slice none 0 0]] V4 fun e w' => e = .returned (.bool true) ∧ Below V4.heap.size V4 w') := rimgSame_any M.img0 M.img0 x1 none y1 0 V4 HL4.out.sI (segs_nil _)
    go_wp2_with (go_at_call 9; refine KI.out.mono ?_; rintro e V5 ⟨rfl, hb5⟩)
    go_ret
    exact ⟨rfl, HL4.out.bel.trans (hb5.mono HL4.out.bel.size)⟩
  · obtain ⟨rfl, rfl, rfl⟩ : im = M.img0 ∧ fl = [] ∧ er = 1 := by cases hlk; exact ⟨rfl, rfl, rfl⟩
    clear hlk HLd
    have KN1 : Hid (Calls Tryz.prog 6 #[.string s] V2 fun e w' => e = .returned (.bool false) ∧ Below V2.heap.size V2 w') := KN.out V2
    go_upto_region 7 with (go_at_call 6; refine KN1.out.mono ?_; rintro e V3 ⟨rfl, hb3⟩)
    have HL3 : Hid (LwS p A B M.img0 [] a1 a2 u1 u2 x1 x2 c1 c2 v1 v2 y1 y2 b5 b8 b9 b11 w V3) := HL2.out.later hb3
    clear hb3 HL2 KN1 KN
    have g80 : V3.cell? ⟨b8, 0, none⟩ = some (.int .i64 A.entry) := cellB HL3.out.p8 0
    have g81 : V3.cell? ⟨b8, 1, none⟩ = some (.slice u1 A.segs.length v1) := cellB HL3.out.p8 1
    have g8 : b8 < V3.heap.size := (Array.getElem?_eq_some_iff.1 HL3.out.p8).1
    have g90 : V3.cell? ⟨b9, 0, none⟩ = some (.int .i64 B.entry) := cellB HL3.out.p9 0
    have g91 : V3.cell? ⟨b9, 1, none⟩ = some (.slice u2 B.segs.length v2) := cellB HL3.out.p9 1
    have g9 : b9 < V3.heap.size := (Array.getElem?_eq_some_iff.1 HL3.out.p9).1
    have KS : Hid (∀ W, Below V3.heap.size V3 W → Calls Tryz.prog 8 #[.agg #[.int .i64 A.entry, .slice u1 A.segs.length v1], .agg #[.int .i64 B.entry, .slice u2 B.segs.length v2]] W fun e w' => e = .returned (.bool (M.sameImg A B)) ∧ Below W.heap.size W w') := fun W hW => imgSame_any A B u1 u2 v1 v2 W (HL3.out.later hW).sA (HL3.out.later hW).sB
    have KR : Hid (∀ W, Below V3.heap.size V3 W → Calls Tryz.prog 9 #[.agg #[.int .i64 A.entry, .slice u1 A.segs.length v1], .agg #[.int .i64 B.entry, .slice u2 B.segs.length v2]] W fun e w' => e = .returned (.bool (M.sameImg A B)) ∧ Below W.heap.size W w') := fun W hW => rimgSame_any A B u1 u2 v1 v2 W (HL3.out.later hW).sA (HL3.out.later hW).sB
    generalize M.sameImg A B = R at *
    refine wp_region_lat (by kernel_rfl) (by kernel_rfl) ?_
    intro hne
    repeat (go_big_quiet_step (first | (go_at_call 7; exact lat_of (KD.out _)) | (go_at_call 8; exact lat_of (KS.out _ (Lat.below _))) | (go_at_call 9; exact lat_of (KR.out _ (Lat.below _)))))
    refine wpQuiet_nil ?_
    intro V4 hb4
    have hb5 := lat_out hb4
    have HL4 : Hid (LwS p A B M.img0 [] a1 a2 u1 u2 x1 x2 c1 c2 v1 v2 y1 y2 b5 b8 b9 b11 w V4) := HL3.out.later hb5
    clear hb4 hb5 hne KS KR KD g80 g81 g8 g90 g91 g9 HL3
    have m0 : V4.cell? ⟨b11, 0, none⟩ = some (.int .i64 0) := cellB HL4.out.p11 0
    have m1 : V4.cell? ⟨b11, 1, none⟩ = some (.slice x1 0 y1) := cellB HL4.out.p11 1
    have ml : b11 < V4.heap.size := (Array.getElem?_eq_some_iff.1 HL4.out.p11).1
    have KI : Hid (Calls Tryz.prog 9 #[.agg #[.int .i64 0, .slice x1 0 y1], .agg #[.int .i64 0, .slice none 0 0]] V4 fun e w' => e = .returned (.bool true) ∧ Below V4.heap.size V4 w') := rimgSame_any M.img0 M.img0 x1 none y1 0 V4 HL4.out.sI (segs_nil _)
    go_wp2_with (go_at_call 9; refine KI.out.mono ?_; rintro e V5 ⟨rfl, hb5⟩)
    go_ret
    exact ⟨rfl, HL4.out.bel.trans (hb5.mono HL4.out.bel.size)⟩
  · obtain ⟨rfl, rfl, rfl⟩ : im = M.img0 ∧ fl = [] ∧ er = 3 := by cases hlk; exact ⟨rfl, rfl, rfl⟩
    clear hlk HLd
    have KN1 : Hid (Calls Tryz.prog 6 #[.string s] V2 fun e w' => e = .returned (.bool true) ∧ Below V2.heap.size V2 w') := KN.out V2
    go_upto_region 7 with (go_at_call 6; refine KN1.out.mono ?_; rintro e V3 ⟨rfl, hb3⟩)
    have HL3 : Hid (LwS p A B M.img0 [] a1 a2 u1 u2 x1 x2 c1 c2 v1 v2 y1 y2 b5 b8 b9 b11 w V3) := HL2.out.later hb3
    clear hb3 HL2 KN1 KN
    have g80 : V3.cell? ⟨b8, 0, none⟩ = some (.int .i64 A.entry) := cellB HL3.out.p8 0
    have g81 : V3.cell? ⟨b8, 1, none⟩ = some (.slice u1 A.segs.length v1) := cellB HL3.out.p8 1
    have g8 : b8 < V3.heap.size := (Array.getElem?_eq_some_iff.1 HL3.out.p8).1
    have g90 : V3.cell? ⟨b9, 0, none⟩ = some (.int .i64 B.entry) := cellB HL3.out.p9 0
    have g91 : V3.cell? ⟨b9, 1, none⟩ = some (.slice u2 B.segs.length v2) := cellB HL3.out.p9 1
    have g9 : b9 < V3.heap.size := (Array.getElem?_eq_some_iff.1 HL3.out.p9).1
    have KS : Hid (∀ W, Below V3.heap.size V3 W → Calls Tryz.prog 8 #[.agg #[.int .i64 A.entry, .slice u1 A.segs.length v1], .agg #[.int .i64 B.entry, .slice u2 B.segs.length v2]] W fun e w' => e = .returned (.bool (M.sameImg A B)) ∧ Below W.heap.size W w') := fun W hW => imgSame_any A B u1 u2 v1 v2 W (HL3.out.later hW).sA (HL3.out.later hW).sB
    have KR : Hid (∀ W, Below V3.heap.size V3 W → Calls Tryz.prog 9 #[.agg #[.int .i64 A.entry, .slice u1 A.segs.length v1], .agg #[.int .i64 B.entry, .slice u2 B.segs.length v2]] W fun e w' => e = .returned (.bool (M.sameImg A B)) ∧ Below W.heap.size W w') := fun W hW => rimgSame_any A B u1 u2 v1 v2 W (HL3.out.later hW).sA (HL3.out.later hW).sB
    generalize M.sameImg A B = R at *
    refine wp_region_lat (by kernel_rfl) (by kernel_rfl) ?_
    intro hne
    repeat (go_big_quiet_step (first | (go_at_call 7; exact lat_of (KD.out _)) | (go_at_call 8; exact lat_of (KS.out _ (Lat.below _))) | (go_at_call 9; exact lat_of (KR.out _ (Lat.below _)))))
    refine wpQuiet_nil ?_
    intro V4 hb4
    have hb5 := lat_out hb4
    have HL4 : Hid (LwS p A B M.img0 [] a1 a2 u1 u2 x1 x2 c1 c2 v1 v2 y1 y2 b5 b8 b9 b11 w V4) := HL3.out.later hb5
    clear hb4 hb5 hne KS KR KD g80 g81 g8 g90 g91 g9 HL3
    have m0 : V4.cell? ⟨b11, 0, none⟩ = some (.int .i64 0) := cellB HL4.out.p11 0
    have m1 : V4.cell? ⟨b11, 1, none⟩ = some (.slice x1 0 y1) := cellB HL4.out.p11 1
    have ml : b11 < V4.heap.size := (Array.getElem?_eq_some_iff.1 HL4.out.p11).1
    have KI : Hid (Calls Tryz.prog 9 #[.agg #[.int .i64 0, .slice x1 0 y1], .agg #[.int .i64 0, .slice none 0 0]] V4 fun e w' => e = .returned (.bool true) ∧ Below V4.heap.size V4 w') := rimgSame_any M.img0 M.img0 x1 none y1 0 V4 HL4.out.sI (segs_nil _)
    go_wp2_with (go_at_call 9; refine KI.out.mono ?_; rintro e V5 ⟨rfl, hb5⟩)
    go_ret
    exact ⟨rfl, HL4.out.bel.trans (hb5.mono HL4.out.bel.size)⟩
  · obtain ⟨rfl, rfl, rfl⟩ : im = M.img0 ∧ fl = [] ∧ er = 3 := by cases hlk; exact ⟨rfl, rfl, rfl⟩
    clear hlk HLd
    obtain ⟨hbs0, hbs1⟩ := hbs
    have KN1 : Hid (Calls Tryz.prog 6 #[.string s] V2 fun e w' => e = .returned (.bool true) ∧ Below V2.heap.size V2 w') := KN.out V2
    go_upto_region 7 with (go_at_call 6; refine KN1.out.mono ?_; rintro e V3 ⟨rfl, hb3⟩)
    have HL3 : Hid (LwS p A B M.img0 [] a1 a2 u1 u2 x1 x2 c1 c2 v1 v2 y1 y2 b5 b8 b9 b11 w V3) := HL2.out.later hb3
    clear hb3 HL2 KN1 KN
    have g80 : V3.cell? ⟨b8, 0, none⟩ = some (.int .i64 A.entry) := cellB HL3.out.p8 0
    have g81 : V3.cell? ⟨b8, 1, none⟩ = some (.slice u1 A.segs.length v1) := cellB HL3.out.p8 1
    have g8 : b8 < V3.heap.size := (Array.getElem?_eq_some_iff.1 HL3.out.p8).1
    have g90 : V3.cell? ⟨b9, 0, none⟩ = some (.int .i64 B.entry) := cellB HL3.out.p9 0
    have g91 : V3.cell? ⟨b9, 1, none⟩ = some (.slice u2 B.segs.length v2) := cellB HL3.out.p9 1
    have g9 : b9 < V3.heap.size := (Array.getElem?_eq_some_iff.1 HL3.out.p9).1
    have KS : Hid (∀ W, Below V3.heap.size V3 W → Calls Tryz.prog 8 #[.agg #[.int .i64 A.entry, .slice u1 A.segs.length v1], .agg #[.int .i64 B.entry, .slice u2 B.segs.length v2]] W fun e w' => e = .returned (.bool (M.sameImg A B)) ∧ Below W.heap.size W w') := fun W hW => imgSame_any A B u1 u2 v1 v2 W (HL3.out.later hW).sA (HL3.out.later hW).sB
    have KR : Hid (∀ W, Below V3.heap.size V3 W → Calls Tryz.prog 9 #[.agg #[.int .i64 A.entry, .slice u1 A.segs.length v1], .agg #[.int .i64 B.entry, .slice u2 B.segs.length v2]] W fun e w' => e = .returned (.bool (M.sameImg A B)) ∧ Below W.heap.size W w') := fun W hW => rimgSame_any A B u1 u2 v1 v2 W (HL3.out.later hW).sA (HL3.out.later hW).sB
    generalize M.sameImg A B = R at *
    refine wp_region_lat (by kernel_rfl) (by kernel_rfl) ?_
    intro hne
    repeat (go_big_quiet_step (first | (go_at_call 7; exact lat_of (KD.out _)) | (go_at_call 8; exact lat_of (KS.out _ (Lat.below _))) | (go_at_call 9; exact lat_of (KR.out _ (Lat.below _)))))
    refine wpQuiet_nil ?_
    intro V4 hb4
    have hb5 := lat_out hb4
    have HL4 : Hid (LwS p A B M.img0 [] a1 a2 u1 u2 x1 x2 c1 c2 v1 v2 y1 y2 b5 b8 b9 b11 w V4) := HL3.out.later hb5
    clear hb4 hb5 hne KS KR KD g80 g81 g8 g90 g91 g9 HL3
    have m0 : V4.cell? ⟨b11, 0, none⟩ = some (.int .i64 0) := cellB HL4.out.p11 0
    have m1 : V4.cell? ⟨b11, 1, none⟩ = some (.slice x1 0 y1) := cellB HL4.out.p11 1
    have ml : b11 < V4.heap.size := (Array.getElem?_eq_some_iff.1 HL4.out.p11).1
    have KI : Hid (Calls Tryz.prog 9 #[.agg #[.int .i64 0, .slice x1 0 y1], .agg #[.int .i64 0, .slice none 0 0]] V4 fun e w' => e = .returned (.bool true) ∧ Below V4.heap.size V4 w') := rimgSame_any M.img0 M.img0 x1 none y1 0 V4 HL4.out.sI (segs_nil _)
    go_wp2_with (go_at_call 9; refine KI.out.mono ?_; rintro e V5 ⟨rfl, hb5⟩)
    go_ret
    exact ⟨rfl, HL4.out.bel.trans (hb5.mono HL4.out.bel.size)⟩
  · obtain ⟨hbs0, hbs1⟩ := hbs
    have KLd : Hid _ := HLd.out rfl rfl hbs0 hbs1
    have KN1 : Hid (Calls Tryz.prog 6 #[.string s] V2 fun e w' => e = .returned (.bool true) ∧ Below V2.heap.size V2 w') := KN.out V2
    go_upto_region 7 with (go_at_call 6; refine KN1.out.mono ?_; rintro e V3 ⟨rfl, hb3⟩)
    have HL3 : Hid (LwS p A B im fl a1 a2 u1 u2 x1 x2 c1 c2 v1 v2 y1 y2 b5 b8 b9 b11 w V3) := HL2.out.later hb3
    clear hb3 HL2 KN1 KN
    have g80 : V3.cell? ⟨b8, 0, none⟩ = some (.int .i64 A.entry) := cellB HL3.out.p8 0
    have g81 : V3.cell? ⟨b8, 1, none⟩ = some (.slice u1 A.segs.length v1) := cellB HL3.out.p8 1
    have g8 : b8 < V3.heap.size := (Array.getElem?_eq_some_iff.1 HL3.out.p8).1
    have g90 : V3.cell? ⟨b9, 0, none⟩ = some (.int .i64 B.entry) := cellB HL3.out.p9 0
    have g91 : V3.cell? ⟨b9, 1, none⟩ = some (.slice u2 B.segs.length v2) := cellB HL3.out.p9 1
    have g9 : b9 < V3.heap.size := (Array.getElem?_eq_some_iff.1 HL3.out.p9).1
    have KS : Hid (∀ W, Below V3.heap.size V3 W → Calls Tryz.prog 8 #[.agg #[.int .i64 A.entry, .slice u1 A.segs.length v1], .agg #[.int .i64 B.entry, .slice u2 B.segs.length v2]] W fun e w' => e = .returned (.bool (M.sameImg A B)) ∧ Below W.heap.size W w') := fun W hW => imgSame_any A B u1 u2 v1 v2 W (HL3.out.later hW).sA (HL3.out.later hW).sB
    have KR : Hid (∀ W, Below V3.heap.size V3 W → Calls Tryz.prog 9 #[.agg #[.int .i64 A.entry, .slice u1 A.segs.length v1], .agg #[.int .i64 B.entry, .slice u2 B.segs.length v2]] W fun e w' => e = .returned (.bool (M.sameImg A B)) ∧ Below W.heap.size W w') := fun W hW => rimgSame_any A B u1 u2 v1 v2 W (HL3.out.later hW).sA (HL3.out.later hW).sB
    generalize M.sameImg A B = R at *
    refine wp_region_lat (by kernel_rfl) (by kernel_rfl) ?_
    intro hne
    repeat (go_big_quiet_step (first | (go_at_call 7; exact lat_of (KD.out _)) | (go_at_call 8; exact lat_of (KS.out _ (Lat.below _))) | (go_at_call 9; exact lat_of (KR.out _ (Lat.below _)))))
    refine wpQuiet_nil ?_
    intro V4 hb4
    have hb5 := lat_out hb4
    have HL4 : Hid (LwS p A B im fl a1 a2 u1 u2 x1 x2 c1 c2 v1 v2 y1 y2 b5 b8 b9 b11 w V4) := HL3.out.later hb5
    clear hb4 hb5 hne KS KR KD g80 g81 g8 g90 g91 g9 HL3
    clear HLd
    have d0 : V4.cell? ⟨b5, 0, none⟩ = some (.slice a1 p.frags.length c1) := cellB HL4.out.p5 0
    have d1 : V4.cell? ⟨b5, 1, none⟩ = some (.slice a2 p.defs.length c2) := cellB HL4.out.p5 1
    have dl : b5 < V4.heap.size := (Array.getElem?_eq_some_iff.1 HL4.out.p5).1
    have KL1 : Hid (Calls Tryz.prog 10 #[.agg #[.slice a1 p.frags.length c1, .slice a2 p.defs.length c2], .int .i64 base, .string s] V4 fun e w' => Below V4.heap.size V4 w' ∧ ∃ xs ys xf yf, e = .returned (.tuple #[.agg #[.int .i64 im.entry, .slice xs im.segs.length ys], .slice xf fl.length yf, .int .i64 er]) ∧ SegsAt w' (.slice xs im.segs.length ys) im.segs ∧ FltsAt w' (.slice xf fl.length yf) fl) := KLd.out V4 HL4.out.fr HL4.out.df
    clear KLd
    go_upto_region 12 with (go_at_call 10; refine KL1.out.mono ?_; rintro e X5 ⟨hb5, xs, ys, xf, yf, rfl, k1, k2⟩)
    have hA5 := (Below.refl X5.heap.size X5).alloc (Nat.le_refl _) (.cells #[.int .i64 im.entry, .slice xs im.segs.length ys] 28)
    have q15 := heap_alloc_new X5 (.cells #[.int .i64 im.entry, .slice xs im.segs.length ys] 28)
    have HL5 : Hid (LwS p A B im fl a1 a2 u1 u2 x1 x2 c1 c2 v1 v2 y1 y2 b5 b8 b9 b11 w (X5.alloc (.cells #[.int .i64 im.entry, .slice xs im.segs.length ys] 28))) := (HL4.out.later hb5).later hA5
    have HK5 : Hid (SegsAt (X5.alloc (.cells #[.int .i64 im.entry, .slice xs im.segs.length ys] 28)) (.slice xs im.segs.length ys) im.segs ∧ FltsAt (X5.alloc (.cells #[.int .i64 im.entry, .slice xs im.segs.length ys] 28)) (.slice xf fl.length yf) fl) := ⟨k1.later hA5, k2.later hA5⟩
    clear hA5 k1 k2 hb5 HL4 KL1 d0 d1 dl
    generalize X5.heap.size = b15 at *
    generalize X5.alloc (.cells #[.int .i64 im.entry, .slice xs im.segs.length ys] 28) = V5 at *
    have KE : Hid (Calls Tryz.prog 11 #[.slice x2 fl.length y2, .slice xf fl.length yf] V5 fun e w' => e = .returned (.bool true) ∧ Below V5.heap.size V5 w') := by
      have := eqFlts_any fl fl x2 xf y2 yf V5 HL5.out.sF HK5.out.2
      rwa [fltsTwo_like] at this
    have KI : Hid (∀ W, Below V5.heap.size V5 W → Calls Tryz.prog 9 #[.agg #[.int .i64 im.entry, .slice x1 im.segs.length y1], .agg #[.int .i64 im.entry, .slice xs im.segs.length ys]] W fun e w' => e = .returned (.bool true) ∧ Below W.heap.size W w') := fun W hW => by
      have := rimgSame_any im im x1 xs y1 ys W (HL5.out.later hW).sI (HK5.out.1.later hW)
      rwa [sameImg_self] at this
    have HC : Hid (∀ W, Below V5.heap.size V5 W → (W.cell? ⟨b11, 0, none⟩ = some (.int .i64 im.entry) ∧ W.cell? ⟨b11, 1, none⟩ = some (.slice x1 im.segs.length y1) ∧ b11 < W.heap.size) ∧ (W.cell? ⟨b15, 0, none⟩ = some (.int .i64 im.entry) ∧ W.cell? ⟨b15, 1, none⟩ = some (.slice xs im.segs.length ys) ∧ b15 < W.heap.size)) := fun W hW => by
      have h1 := (HL5.out.later hW).p11
      have h2 := (hW.block _ (Array.getElem?_eq_some_iff.1 q15).1).trans q15
      exact ⟨⟨cellB h1 0, cellB h1 1, (Array.getElem?_eq_some_iff.1 h1).1⟩, cellB h2 0, cellB h2 1, (Array.getElem?_eq_some_iff.1 h2).1⟩
    clear q15
    generalize fl.length = nfl at *
    go_wp2_with (first
      | (go_at_call 11; refine KE.out.mono ?_; rintro e V6 ⟨rfl, hb6⟩; obtain ⟨⟨n0, n1, nl⟩, o0, o1, ol⟩ := HC.out V6 hb6)
      | (go_at_call 9; refine (KI.out V6 hb6).mono ?_; rintro e V7 ⟨rfl, hb7⟩))
    go_ret
    exact ⟨rfl, HL5.out.bel.trans ((hb6.trans (hb7.mono hb6.size)).mono HL5.out.bel.size)⟩

end Go.Proofs.YtcdpboocfkaifaaGreatDoor
