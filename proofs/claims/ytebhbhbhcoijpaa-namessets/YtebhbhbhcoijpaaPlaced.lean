/-
  The contracts of checkPlaced and checkDef.
-/
import Derived.Test.YtebhbhbhcoijpaaSmall3
import Derived.Test.YtebhbhbhcoijpaaMem
import Derived.Test.YtebhbhbhcoijpaaLater
namespace Go.Proofs.Ytebhbhbhcoijpaa
open Go.RowKit
attribute [local go_sem] lat_cell

theorem placed_out (name : ByteArray) (kind frag pos size align : Int) (a : Option Addr) (n c : Nat) (w : World) (hn : n ≤ 60) (hw : M.within frag 0 (n - 1) = false) :
    Calls Try.prog 87 #[.agg #[.string name, .int .i64 kind, .int .i64 frag, .int .i64 pos, .int .i64 size, .int .i64 align], .slice a n c] w fun e w' =>
      e = .returned (.int .i64 5) ∧ Below w.heap.size w w' := by
  go_enter Try.func87, Try.ntmps87
  go_wp2_with ((go_at_call 82; refine (within_any _ _ _ _).mono ?_; rintro e w' ⟨rfl, rfl⟩))
  go_ret
  exact ⟨rfl, (Below.refl _ _).alloc (Nat.le_refl _) _⟩

set_option maxHeartbeats 1000000 in
theorem placed_in (w : World) (b off n c k : Nat) (f : M.Frg) (a a' : Option Addr) (c1 m c' : Nat) (name : ByteArray) (kind pos size align : Int)
   (hn : n ≤ 60) (hk1 : (k : Int) < (n : Int))
   (e0 : w.cell? ⟨b, off + k * 6, none⟩ = some (.int .i64 f.sect))
   (e1 : w.cell? ⟨b, off + k * 6 + 1, none⟩ = some (.int .i64 f.align))
   (e2 : w.cell? ⟨b, off + k * 6 + 2, none⟩ = some (.string f.group))
   (e3 : w.cell? ⟨b, off + k * 6 + 3, none⟩ = some (.slice a f.bytes.length c1))
   (e4 : w.cell? ⟨b, off + k * 6 + 4, none⟩ = some (.int .i64 f.size))
   (e5 : w.cell? ⟨b, off + k * 6 + 5, none⟩ = some (.slice a' m c')) :
    Calls Try.prog 87 #[.agg #[.string name, .int .i64 kind, .int .i64 k, .int .i64 pos, .int .i64 size, .int .i64 align], .slice (some ⟨b, off, none⟩) n c] w fun e w' =>
      e = .returned (.int .i64 (M.inFrag pos size align f)) ∧ Below w.heap.size w w' := by
  obtain ⟨s, al, g, bs, sz, rs⟩ := f
  simp only at e0 e1 e2 e3 e4
  have hbw : b < w.heap.size := World.block_lt_of_cell? _ _ e0
  have hk0 : (0 : Int) ≤ (k : Int) := Int.natCast_nonneg k
  have hw : M.within k 0 (n - 1) = true := by simp [M.within]; omega
  have arm : ∀ r : Int, M.inFrag pos size align ⟨s, al, g, bs, sz, rs⟩ = r → Hid (M.inFrag pos size align ⟨s, al, g, bs, sz, rs⟩ = r) := fun r h => h
  have hlong : M.long ⟨s, al, g, bs, sz, rs⟩ = M.lng s sz bs.length := rfl
  generalize hR : M.inFrag pos size align ⟨s, al, g, bs, sz, rs⟩ = R at arm
  unfold M.inFrag at hR
  rw [hlong] at hR
  clear hlong
  cases hP : M.within pos 0 (M.lng s sz bs.length)
  · have HX := arm 3 (by rw [← hR]; simp [hP])
    clear hR arm
    generalize bs.length = n1 at *
    go_enter Try.func87, Try.ntmps87
    go_wp2_with ((go_at_call 82; refine (within_any _ _ _ _).mono ?_; rintro e w' ⟨rfl, rfl⟩))
    refine wp_region_lat (by kernel_rfl) (by kernel_rfl) ?_
    intro hne
    repeat (go_big_quiet_step ((first | (go_at_call 82; exact lat_of_same (within_any _ _ _ _)) | (go_at_call 102; exact lat_of (long_any _ _ _ _ _ _ _ _ _)))))
    refine wpQuiet_nil ?_
    intro w1 hb1
    have hb := lat_out hb1
    clear hne hb1
    go_wp2
    go_ret
    exact ⟨ret_int HX.out.symm, ((Below.refl _ _).alloc (Nat.le_refl _) _).trans (hb.mono (by simp))⟩
  cases hZ : (size == 0)
  · have HX := arm 3 (by rw [← hR]; simp [hP, hZ])
    have bz := bne_of hZ
    clear hR arm hZ
    generalize bs.length = n1 at *
    go_enter Try.func87, Try.ntmps87
    go_wp2_with ((go_at_call 82; refine (within_any _ _ _ _).mono ?_; rintro e w' ⟨rfl, rfl⟩))
    refine wp_region_lat (by kernel_rfl) (by kernel_rfl) ?_
    intro hne
    repeat (go_big_quiet_step ((first | (go_at_call 82; exact lat_of_same (within_any _ _ _ _)) | (go_at_call 102; exact lat_of (long_any _ _ _ _ _ _ _ _ _)))))
    refine wpQuiet_nil ?_
    intro w1 hb1
    have hb := lat_out hb1
    clear hne hb1
    go_wp2
    go_ret
    exact ⟨ret_int HX.out.symm, ((Below.refl _ _).alloc (Nat.le_refl _) _).trans (hb.mono (by simp))⟩
  cases hA : (align == 0)
  · have HX := arm 3 (by rw [← hR]; simp [hP, hZ, hA])
    have bz := bne_of hZ
    have ba := bne_of hA
    clear hR arm hZ hA
    generalize bs.length = n1 at *
    go_enter Try.func87, Try.ntmps87
    go_wp2_with ((go_at_call 82; refine (within_any _ _ _ _).mono ?_; rintro e w' ⟨rfl, rfl⟩))
    refine wp_region_lat (by kernel_rfl) (by kernel_rfl) ?_
    intro hne
    repeat (go_big_quiet_step ((first | (go_at_call 82; exact lat_of_same (within_any _ _ _ _)) | (go_at_call 102; exact lat_of (long_any _ _ _ _ _ _ _ _ _)))))
    refine wpQuiet_nil ?_
    intro w1 hb1
    have hb := lat_out hb1
    clear hne hb1
    go_wp2
    go_ret
    exact ⟨ret_int HX.out.symm, ((Below.refl _ _).alloc (Nat.le_refl _) _).trans (hb.mono (by simp))⟩
  · have HX := arm 0 (by rw [← hR]; simp [hP, hZ, hA])
    have bz := bne_of hZ
    have ba := bne_of hA
    clear hR arm hZ hA
    generalize bs.length = n1 at *
    go_enter Try.func87, Try.ntmps87
    go_wp2_with ((go_at_call 82; refine (within_any _ _ _ _).mono ?_; rintro e w' ⟨rfl, rfl⟩))
    refine wp_region_lat (by kernel_rfl) (by kernel_rfl) ?_
    intro hne
    repeat (go_big_quiet_step ((first | (go_at_call 82; exact lat_of_same (within_any _ _ _ _)) | (go_at_call 102; exact lat_of (long_any _ _ _ _ _ _ _ _ _)))))
    refine wpQuiet_nil ?_
    intro w1 hb1
    have hb := lat_out hb1
    clear hne hb1
    go_wp2
    go_ret
    exact ⟨ret_int HX.out.symm, ((Below.refl _ _).alloc (Nat.le_refl _) _).trans (hb.mono (by simp))⟩

/-- checkPlaced, whatever the fragment's number -/
theorem placed_any (name : ByteArray) (kind frag pos size align : Int) (fs : List M.Frg) (a : Option Addr) (c : Nat) (w : World) (h : FragsAt w (.slice a fs.length c) fs) (hn : fs.length ≤ 60) :
    Calls Try.prog 87 #[.agg #[.string name, .int .i64 kind, .int .i64 frag, .int .i64 pos, .int .i64 size, .int .i64 align], .slice a fs.length c] w fun e w' =>
      e = .returned (.int .i64 (M.defAt frag pos size align fs)) ∧ Below w.heap.size w w' := by
  cases hw : M.within frag 0 (fs.length - 1)
  · have := placed_out name kind frag pos size align a fs.length c w hn hw
    have e : M.defAt frag pos size align fs = 5 := by simp [M.defAt, hw]
    rw [e]
    exact this
  · have h1 : 0 ≤ frag ∧ frag ≤ fs.length - 1 := by simpa [M.within] using hw
    obtain ⟨k, rfl⟩ := Int.eq_ofNat_of_zero_le h1.1
    have hk : k < fs.length := by omega
    obtain ⟨cell, hs, hf⟩ := h
    obtain ⟨b, off, rfl, hc⟩ := hs.at k hk
    have hfk := hf k hk
    obtain ⟨ab, cb, eb, _⟩ := hfk.bytes.1.form
    obtain ⟨ar, cr, er, _⟩ := hfk.rels.1.form
    have e0 := hc 0 (by decide)
    have e1 := hc 1 (by decide)
    have e2 := hc 2 (by decide)
    have e3 := hc 3 (by decide)
    have e4 := hc 4 (by decide)
    have e5 := hc 5 (by decide)
    rw [hfk.sect] at e0
    rw [hfk.align] at e1
    rw [hfk.group] at e2
    rw [eb] at e3
    rw [hfk.size] at e4
    rw [er] at e5
    have := placed_in w b off fs.length c k _ ab ar cb _ cr name kind pos size align hn (by omega) e0 e1 e2 e3 e4 e5
    have e : M.defAt k pos size align fs = M.inFrag pos size align (fs.getD k frg0) := by
      unfold M.defAt
      rw [if_pos hw, Int.toNat_natCast, getElem?_getD fs frg0 k hk]
    rw [e]
    exact this

theorem def_any (d : M.Dfn) (fs : List M.Frg) (a : Option Addr) (c : Nat) (w : World) (h : FragsAt w (.slice a fs.length c) fs) (hn : fs.length ≤ 60) (hs : d.name.size ≤ maxLen) :
    Calls Try.prog 50 #[.agg #[.string d.name, .int .i64 d.kind, .int .i64 d.frag, .int .i64 d.pos, .int .i64 d.size, .int .i64 d.align], .slice a fs.length c] w fun e w' =>
      e = .returned (.int .i64 (M.checkDef d fs)) ∧ Below w.heap.size w w' := by
  obtain ⟨name, kind, frag, pos, size, align⟩ := d
  simp only at hs ⊢
  cases hI : M.isName name
  · have HX : Hid (M.checkDef ⟨name, kind, frag, pos, size, align⟩ fs = 1) := by simp [Hid, M.checkDef, hI]
    generalize M.checkDef ⟨name, kind, frag, pos, size, align⟩ fs = R at *
    generalize fs.length = n at *
    clear h
    go_enter Try.func50, Try.ntmps50
    go_wp2_with (go_at_call 84; refine (name_any _ _ hs).mono ?_; rintro e w' ⟨rfl, rfl⟩)
    go_ret
    exact ⟨ret_int HX.out.symm, (Below.refl _ _).alloc (Nat.le_refl _) _⟩
  by_cases h12 : kind = 1 ∨ kind = 2
  · have HX : Hid (M.checkDef ⟨name, kind, frag, pos, size, align⟩ fs = (M.defAt frag pos size align fs)) := by
      simp [Hid, M.checkDef, hI, h12]
    have HP : Hid (∀ w', Below w.heap.size w w' → Calls Try.prog 87 #[.agg #[.string name, .int .i64 kind, .int .i64 frag, .int .i64 pos, .int .i64 size, .int .i64 align], .slice a fs.length c] w' fun e w'' =>
      e = .returned (.int .i64 (M.checkDef ⟨name, kind, frag, pos, size, align⟩ fs)) ∧ Below w'.heap.size w' w'') := fun w' hb => by
        rw [HX.out]
        exact placed_any name kind frag pos size align fs a c w' (h.later hb) hn
    clear HX h
    generalize M.checkDef ⟨name, kind, frag, pos, size, align⟩ fs = R at *
    rcases h12 with rfl | rfl
    all_goals
      go_enter Try.func50, Try.ntmps50
      go_wp2_with (first | (go_at_call 84; refine (name_any _ _ hs).mono ?_; rintro e w' ⟨rfl, rfl⟩) | (go_at_call 87; refine (HP.out _ ((Below.refl _ _).alloc (Nat.le_refl _) _)).mono ?_; rintro e w' ⟨rfl, hb⟩))
      go_ret
      exact ⟨rfl, ((Below.refl _ _).alloc (Nat.le_refl _) _).trans (hb.mono (by simp))⟩
  have b1 : (kind == 1) = false := by simp; omega
  have b2 : (kind == 2) = false := by simp; omega
  by_cases h3 : kind = 3
  · subst h3
    have HX : Hid (M.checkDef ⟨name, 3, frag, pos, size, align⟩ fs = (bif cmn frag pos size align then 0 else 3)) := by
      simp [Hid, M.checkDef, hI, cmn]
    have HP : Hid (∀ w', Calls Try.prog 88 #[.agg #[.string name, .int .i64 3, .int .i64 frag, .int .i64 pos, .int .i64 size, .int .i64 align]] w' fun e w'' =>
      e = .returned (.int .i64 (M.checkDef ⟨name, 3, frag, pos, size, align⟩ fs)) ∧ Below w'.heap.size w' w'') := fun w' => by
        rw [HX.out]
        exact common_any name 3 frag pos size align w'
    clear HX h h12
    generalize M.checkDef ⟨name, 3, frag, pos, size, align⟩ fs = R at *
    generalize fs.length = n at *
    go_enter Try.func50, Try.ntmps50
    go_wp2_with (first | (go_at_call 84; refine (name_any _ _ hs).mono ?_; rintro e w' ⟨rfl, rfl⟩) | (go_at_call 88; refine (HP.out _).mono ?_; rintro e w' ⟨rfl, hb⟩))
    go_ret
    exact ⟨rfl, ((Below.refl _ _).alloc (Nat.le_refl _) _).trans (hb.mono (by simp))⟩
  · have b3 : (kind == 3) = false := by simp; omega
    have HX : Hid (M.checkDef ⟨name, kind, frag, pos, size, align⟩ fs = 4) := by
      simp [Hid, M.checkDef, hI, h12, h3]
    clear h h12 h3
    generalize M.checkDef ⟨name, kind, frag, pos, size, align⟩ fs = R at *
    generalize fs.length = n at *
    go_enter Try.func50, Try.ntmps50
    go_wp2_with (go_at_call 84; refine (name_any _ _ hs).mono ?_; rintro e w' ⟨rfl, rfl⟩)
    go_ret
    exact ⟨ret_int HX.out.symm, (Below.refl _ _).alloc (Nat.le_refl _) _⟩

end Go.Proofs.Ytebhbhbhcoijpaa
