/-
  Link and Same as a walk meets them; the contract of the law's closed fact on links: it is true.
-/
import Derived.Test.YtcdpboocfkaifaaGreatDoorLkLink
import Derived.Test.YtcdpboocfkaifaaGreatDoorSmB
import Derived.Test.YtcdpboocfkaifaaGreatDoorTwF
import Derived.Test.YtcdpboocfkaifaaGreatDoorPrB
namespace Go.Proofs.YtcdpboocfkaifaaGreatDoor
open Go Go.RowKit
set_option linter.unusedVariables false

/-- Link, as a walk meets it -/
theorem link_vc {p : M.Prt} {base : Int} {s : ByteArray} {a1 a2 : Option Addr} {c1 c2 : Nat} {w : World} (hf : FragsAt w (.slice a1 p.frags.length c1) p.frags) (hd : DefsAt w (.slice a2 p.defs.length c2) p.defs) (hsz : s.size ≤ maxLen) (im : M.Img) (fl : List Flt) (er : Int) (hl : M.link p base s = (im, fl, er)) :
    Calls Tryz.prog 4 #[.agg #[.slice a1 p.frags.length c1, .slice a2 p.defs.length c2], .int .i64 base, .string s] w fun e w' =>
      Below w.heap.size w w' ∧ ∃ x1 y1 x2 y2, e = .returned (.tuple #[.agg #[.int .i64 im.entry, .slice x1 im.segs.length y1], .slice x2 fl.length y2, .int .i64 er]) ∧ SegsAt w' (.slice x1 im.segs.length y1) im.segs ∧ FltsAt w' (.slice x2 fl.length y2) fl ∧ fl.length ≤ y2 := by
  refine (link_any p base s a1 a2 c1 c2 w hf hd hsz).mono ?_
  rintro e w' ⟨hb, vs, vf, rfl, h1, h2, h3, _⟩
  rw [hl] at h1 h2 ⊢
  obtain ⟨x1, y1, rfl, _⟩ := h1.form
  obtain ⟨x2, y2, rfl, _⟩ := SlAt.form h2
  exact ⟨hb, x1, y1, x2, y2, rfl, h1, h2, h3 _ _ _ rfl⟩

theorem link_v {p : M.Prt} {base : Int} {s : ByteArray} {a1 a2 : Option Addr} {c1 c2 : Nat} {w : World} (hf : FragsAt w (.slice a1 p.frags.length c1) p.frags) (hd : DefsAt w (.slice a2 p.defs.length c2) p.defs) (hsz : s.size ≤ maxLen) (im : M.Img) (fl : List Flt) (er : Int) (hl : M.link p base s = (im, fl, er)) :
    Calls Tryz.prog 4 #[.agg #[.slice a1 p.frags.length c1, .slice a2 p.defs.length c2], .int .i64 base, .string s] w fun e w' =>
      Below w.heap.size w w' ∧ ∃ x1 y1 x2 y2, e = .returned (.tuple #[.agg #[.int .i64 im.entry, .slice x1 im.segs.length y1], .slice x2 fl.length y2, .int .i64 er]) ∧ SegsAt w' (.slice x1 im.segs.length y1) im.segs ∧ FltsAt w' (.slice x2 fl.length y2) fl :=
  (link_vc hf hd hsz im fl er hl).mono fun e w' ⟨hb, x1, y1, x2, y2, he, h1, h2, _⟩ => ⟨hb, x1, y1, x2, y2, he, h1, h2⟩

/-- a variable that holds an image -/
structure IVar (w : World) (b : Nat) (x : Option Addr) (y : Nat) (im : M.Img) : Prop where
  blk : w.heap[b]? = some (.cells #[.int .i64 im.entry, .slice x im.segs.length y] 28 (0, 0))
  segs : SegsAt w (.slice x im.segs.length y) im.segs
theorem IVar.later {w w' : World} {b : Nat} {x : Option Addr} {y : Nat} {im : M.Img} (h : IVar w b x y im) (hb : Below w.heap.size w w') : IVar w' b x y im :=
  ⟨(hb.block _ (Array.getElem?_eq_some_iff.1 h.blk).1).trans h.blk, h.segs.later hb⟩
theorem ivar_new {w : World} {x : Option Addr} {y : Nat} {im : M.Img} (h : SegsAt w (.slice x im.segs.length y) im.segs) : IVar (w.alloc (.cells #[.int .i64 im.entry, .slice x im.segs.length y] 28)) w.heap.size x y im :=
  ⟨heap_alloc_new w _, h.later ((Below.refl _ _).alloc (Nat.le_refl _) _)⟩
theorem IVar.lt {w : World} {b : Nat} {x : Option Addr} {y : Nat} {im : M.Img} (h : IVar w b x y im) : b < w.heap.size := (Array.getElem?_eq_some_iff.1 h.blk).1

theorem segK3 : (M.image kP (M.layAll kP 32) tMain).segs.length = 3 := rfl

set_option maxHeartbeats 8000000 in
set_option maxRecDepth 100000 in
theorem linked_any (w : World) :
    Calls Tryz.prog 7 #[] w fun e w' => e = .returned (.bool true) ∧ Below w.heap.size w w' := by
  go_enter Tryz.func7, Tryz.ntmps7
  go_upto_region 2 with (go_at_call 22; refine (two_any _).mono ?_; rintro e w1 ⟨a1, a2, a3, a4, rfl, hb1, hA, hAd, hB, hBd⟩)
  have v1 : Var (w1.alloc (.cells #[.slice a1 1 1, .slice a2 1 1] 25)) w1.heap.size a1 a2 1 1 kA := var_new (p := kA) hA hAd
  have v1 := v1.later ((Below.refl _ _).alloc (Nat.le_refl _) (.cells #[.slice a3 1 1, .slice a4 1 1] 25))
  have hbA : Below w1.heap.size w1 (w1.alloc (.cells #[.slice a1 1 1, .slice a2 1 1] 25)) := (Below.refl _ _).alloc (Nat.le_refl _) _
  have v2 : Var ((w1.alloc (.cells #[.slice a1 1 1, .slice a2 1 1] 25)).alloc (.cells #[.slice a3 1 1, .slice a4 1 1] 25)) (w1.heap.size + 1) a3 a4 1 1 kB := by
    have := var_new (p := kB) (hB.later hbA) (hBd.later hbA)
    simpa [kB] using this
  have HX : Hid (Below w.heap.size w ((w1.alloc (.cells #[.slice a1 1 1, .slice a2 1 1] 25)).alloc (.cells #[.slice a3 1 1, .slice a4 1 1] 25))) := (hb1.alloc hb1.size _).alloc (by simpa using Nat.le_succ_of_le hb1.size) _
  clear hA hAd hB hBd hb1 hbA
  generalize (w1.alloc (.cells #[.slice a1 1 1, .slice a2 1 1] 25)).alloc (.cells #[.slice a3 1 1, .slice a4 1 1] 25) = X1 at *
  generalize w1.heap.size = n1 at *
  have V1 : Hid (Var X1 n1 a1 a2 1 1 kA) := v1
  have c10 : X1.cell? ⟨n1, 0, none⟩ = some (.slice a1 1 1) := v1.c0
  have c11 : X1.cell? ⟨n1, 1, none⟩ = some (.slice a2 1 1) := v1.c1
  have c20 : X1.cell? ⟨n1 + 1, 0, none⟩ = some (.slice a3 1 1) := v2.c0
  have c21 : X1.cell? ⟨n1 + 1, 1, none⟩ = some (.slice a4 1 1) := v2.c1
  have KJ : Hid (Calls Tryz.prog 23 #[.agg #[.slice a1 1 1, .slice a2 1 1], .agg #[.slice a3 1 1, .slice a4 1 1]] X1 _) := join_v v1.fr v1.df v2.fr v2.df kP 0 joinK
  clear v1 v2
  go_upto_region 3 with (go_at_call 23; refine KJ.out.mono ?_; rintro e w2 ⟨hb2, z1, z2, z3, z4, rfl, hF2, hD2⟩)
  have v3 := var_new (p := kP) hF2 hD2
  have HB2 : Hid (Below X1.heap.size X1 (w2.alloc (.cells #[.slice z1 kP.frags.length z2, .slice z3 kP.defs.length z4] 25))) := hb2.alloc hb2.size _
  clear hF2 hD2 KJ c10 c11 c20 c21 hb2
  generalize w2.alloc (.cells #[.slice z1 kP.frags.length z2, .slice z3 kP.defs.length z4] 25) = X2 at *
  generalize w2.heap.size = n2 at *
  have HX2 : Hid (Below w.heap.size w X2) := HX.out.trans (HB2.out.mono HX.out.size)
  have V12 : Hid (Var X2 n1 a1 a2 1 1 kA) := V1.out.later HB2.out
  have c30 := v3.c0
  have c31 := v3.c1
  have KL : Hid (Calls Tryz.prog 4 #[.agg #[.slice z1 kP.frags.length z2, .slice z3 kP.defs.length z4], .int .i64 32, .string ⟨#[109, 97, 105, 110]⟩] X2 _) := link_v v3.fr v3.df (by unfold maxLen; decide) _ _ _ linkK
  clear v3 V1 HX HB2
  generalize hIM : M.image kP (M.layAll kP 32) tMain = IM at *
  have HIM : Hid _ := hIM
  clear hIM
  have hseg3 : IM.segs.length = 3 := by rw [← HIM.out]; rfl
  have hent : IM.entry = 32 := by rw [← HIM.out]; exact entryK
  rw [hseg3, hent] at KL
  go_upto_region 4 with (go_at_call 4; refine KL.out.mono ?_; rintro e w3 ⟨hb3, x1, y1, x2, y2, rfl, hS3, hF3⟩)
  have v4 : IVar (w3.alloc (.cells #[.int .i64 32, .slice x1 3 y1] 28)) w3.heap.size x1 y1 IM := by
    rw [← hseg3] at hS3
    have := ivar_new (im := IM) hS3
    rwa [hseg3, hent] at this
  have HB3 : Hid (Below X2.heap.size X2 (w3.alloc (.cells #[.int .i64 32, .slice x1 3 y1] 28))) := hb3.alloc hb3.size _
  clear hS3 hF3 KL c30 c31 hb3
  generalize w3.alloc (.cells #[.int .i64 32, .slice x1 3 y1] 28) = X3 at *
  generalize w3.heap.size = n3 at *
  have HX3 : Hid (Below w.heap.size w X3) := HX2.out.trans (HB3.out.mono HX2.out.size)
  have V13 := V12.out.later HB3.out
  have c10 : X3.cell? ⟨n1, 0, none⟩ = some (.slice a1 1 1) := V13.c0
  have c11 : X3.cell? ⟨n1, 1, none⟩ = some (.slice a2 1 1) := V13.c1
  have KL : Hid (Calls Tryz.prog 4 #[.agg #[.slice a1 1 1, .slice a2 1 1], .int .i64 32, .string ⟨#[109, 97, 105, 110]⟩] X3 fun e w' => Below X3.heap.size X3 w' ∧ ∃ x1 y1 x2 y2, e = .returned (.tuple #[.agg #[.int .i64 0, .slice x1 0 y1], .slice x2 1 y2, .int .i64 0]) ∧ SegsAt w' (.slice x1 0 y1) [] ∧ FltsAt w' (.slice x2 1 y2) [⟨7, tF, 0, 0⟩]) := link_v V13.fr V13.df (by unfold maxLen; decide) _ _ _ linkKA
  have V4 : Hid (IVar X3 n3 x1 y1 IM) := v4
  clear V13 V12 v4 HB3 HX2
  go_upto_region 5 with (go_at_call 4; refine KL.out.mono ?_; rintro e w4 ⟨hb4, u1, v1, u2, v2, rfl, hS4, hF4⟩)
  have hbA : Below w4.heap.size w4 (w4.alloc (.cells #[.int .i64 0, .slice u1 0 v1] 28)) := (Below.refl _ _).alloc (Nat.le_refl _) _
  have v4 := (V4.out.later hb4).later hbA
  have hF5 := hF4.later hbA
  have HX4 : Hid (Below w.heap.size w (w4.alloc (.cells #[.int .i64 0, .slice u1 0 v1] 28))) := (HX3.out.trans (hb4.mono HX3.out.size)).alloc (Nat.le_trans HX3.out.size hb4.size) _
  clear hS4 hF4 hbA KL c10 c11 hb4 V4
  generalize w4.alloc (.cells #[.int .i64 0, .slice u1 0 v1] 28) = X4 at *
  generalize w4.heap.size = n4 at *
  have g0 : X4.cell? ⟨n3, 0, none⟩ = some (.int .i64 32) := by rw [← hent]; exact cellB v4.blk 0
  have g1 : X4.cell? ⟨n3, 1, none⟩ = some (.slice x1 3 y1) := by rw [← hseg3]; exact cellB v4.blk 1
  have hl3 := v4.lt
  obtain ⟨b, off, ab, cb, rfl, _, e1, _, _, _, hby⟩ := v4.segs.cells 0 (by rw [hseg3]; decide)
  have hb0 : (IM.segs.getD 0 M.seg0).bytes = [9, 36, 0, 0, 7] := by rw [← HIM.out, bytesK]
  rw [hb0] at e1 hby
  have e1' : X4.cell? ⟨b, off + 1, none⟩ = some (.slice ab 5 cb) := by simpa using e1
  have hbl : b < X4.heap.size := World.block_lt_of_cell? _ _ e1'
  have hbg : Below X4.heap.size X4 (X4.alloc (.cells #[.int .u8 9, .int .u8 36, .int .u8 0, .int .u8 0, .int .u8 7] 5)) := (Below.refl _ _).alloc (Nat.le_refl _) _
  have hg : BytesAt (X4.alloc (.cells #[.int .u8 9, .int .u8 36, .int .u8 0, .int .u8 0, .int .u8 7] 5)) (.slice (some ⟨X4.heap.size, 0, none⟩) 5 5) [9, 36, 0, 0, 7] := bytes_row (bs := [9, 36, 0, 0, 7]) (by decide) (by unfold maxLen; decide) (heap_alloc_new X4 _) 5
  have KE : Hid (Calls Tryz.prog 24 #[.slice ab 5 cb, .slice (some ⟨X4.heap.size, 0, none⟩) 5 5] (X4.alloc (.cells #[.int .u8 9, .int .u8 36, .int .u8 0, .int .u8 0, .int .u8 7] 5)) fun e w' => e = .returned (.bool true) ∧ w' = (X4.alloc (.cells #[.int .u8 9, .int .u8 36, .int .u8 0, .int .u8 0, .int .u8 7] 5))) := bytesEqual_any [9, 36, 0, 0, 7] [9, 36, 0, 0, 7] ab _ cb 5 _ (hby.later hbg) hg
  have hbh : Below (X4.alloc (.cells #[.int .u8 9, .int .u8 36, .int .u8 0, .int .u8 0, .int .u8 7] 5)).heap.size (X4.alloc (.cells #[.int .u8 9, .int .u8 36, .int .u8 0, .int .u8 0, .int .u8 7] 5)) ((X4.alloc (.cells #[.int .u8 9, .int .u8 36, .int .u8 0, .int .u8 0, .int .u8 7] 5)).alloc (.cells #[.int .i64 7, .string ⟨#[102]⟩, .int .i64 0, .int .i64 0] 39)) := (Below.refl _ _).alloc (Nat.le_refl _) _
  have hfl : FltsAt ((X4.alloc (.cells #[.int .u8 9, .int .u8 36, .int .u8 0, .int .u8 0, .int .u8 7] 5)).alloc (.cells #[.int .i64 7, .string ⟨#[102]⟩, .int .i64 0, .int .i64 0] 39)) (.slice (some ⟨X4.heap.size + 1, 0, none⟩) 1 1) [⟨7, tF, 0, 0⟩] := by
    refine row_flts (B := 0) (l := [⟨7, tF, 0, 0⟩]) ⟨rfl, .inr ⟨X4.heap.size + 1, 1, #[.int .i64 7, .string ⟨#[102]⟩, .int .i64 0, .int .i64 0], rfl, Nat.zero_le _, ?_, Nat.le_refl _, by unfold maxLen; decide, rfl, rfl⟩⟩
    have := heap_alloc_new (X4.alloc (.cells #[.int .u8 9, .int .u8 36, .int .u8 0, .int .u8 0, .int .u8 7] 5)) (.cells #[.int .i64 7, .string ⟨#[102]⟩, .int .i64 0, .int .i64 0] 39)
    simpa using this
  have KQ : Hid (Calls Tryz.prog 11 #[.slice u2 1 v2, .slice (some ⟨X4.heap.size + 1, 0, none⟩) 1 1] ((X4.alloc (.cells #[.int .u8 9, .int .u8 36, .int .u8 0, .int .u8 0, .int .u8 7] 5)).alloc (.cells #[.int .i64 7, .string ⟨#[102]⟩, .int .i64 0, .int .i64 0] 39)) fun e w' => e = .returned (.bool true) ∧ Below ((X4.alloc (.cells #[.int .u8 9, .int .u8 36, .int .u8 0, .int .u8 0, .int .u8 7] 5)).alloc (.cells #[.int .i64 7, .string ⟨#[102]⟩, .int .i64 0, .int .i64 0] 39)).heap.size ((X4.alloc (.cells #[.int .u8 9, .int .u8 36, .int .u8 0, .int .u8 0, .int .u8 7] 5)).alloc (.cells #[.int .i64 7, .string ⟨#[102]⟩, .int .i64 0, .int .i64 0] 39)) w') := by
    have := eqFlts_any [⟨7, tF, 0, 0⟩] [⟨7, tF, 0, 0⟩] u2 _ v2 1 _ ((hF5.later hbg).later hbh) hfl
    rwa [show M.allTwo sameFlt [⟨7, tF, 0, 0⟩] [⟨7, tF, 0, 0⟩] = true by decide +kernel] at this
  have HBg : Hid _ := hbg
  have HBh : Hid _ := hbh
  clear hby hg hfl hF5 v4 hbg hbh e1
  go_wp2_with (first | (go_at_call 24; refine KE.out.mono ?_; rintro e w5 ⟨rfl, rfl⟩) | (go_at_call 11; refine KQ.out.mono ?_; rintro e w6 ⟨rfl, hb6⟩))
  go_ret
  exact ⟨rfl, HX4.out.trans ((HBg.out.trans ((HBh.out.trans (hb6.mono HBh.out.size)).mono HBg.out.size)).mono HX4.out.size)⟩

end Go.Proofs.YtcdpboocfkaifaaGreatDoor
