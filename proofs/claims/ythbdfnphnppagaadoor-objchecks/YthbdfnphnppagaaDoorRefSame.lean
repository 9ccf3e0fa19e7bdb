/-
  The contract of the reference's SamePart.
-/
import Derived.Test.YthbdfnphnppagaaDoorSameAll
import Derived.Test.YthbdfnphnppagaaDoorCheck
namespace Go.Proofs.YthbdfnphnppagaaDoor
open Go.RowKit Go.Shelf
set_option linter.unusedVariables false

theorem later_new2a {wr w3 : World} {c c' : Array Value} {t t' : TypeId} (hb : Below ((wr.alloc (.cells c t)).alloc (.cells c' t')).heap.size ((wr.alloc (.cells c t)).alloc (.cells c' t')) w3) (i : Nat) (v : Value) (h : c[i]? = some v) : w3.cell? ⟨wr.heap.size, i, none⟩ = some v :=
  cell_later hb ((World.cell?_alloc_past _ _ _ (by simp)).trans ((World.cell?_alloc_at _ _ _ _ rfl).trans h))

theorem later_new2b {wr w3 : World} {c c' : Array Value} {t t' : TypeId} (hb : Below ((wr.alloc (.cells c t)).alloc (.cells c' t')).heap.size ((wr.alloc (.cells c t)).alloc (.cells c' t')) w3) (i : Nat) (v : Value) (h : c'[i]? = some v) : w3.cell? ⟨wr.heap.size + 1, i, none⟩ = some v :=
  cell_later hb ((World.cell?_alloc_at _ _ _ _ (by simp)).trans h)

theorem bne_beq {x y : Int} {b : Bool} (h : (x == y) = b) : (x != y) = !b := by rw [← h]; rfl
theorem bne_beqS {x y : List UInt8} {b : Bool} (h : (x == y) = b) : (x != y) = !b := by rw [← h]; rfl

set_option maxHeartbeats 4000000 in
set_option maxRecDepth 100000 in
theorem rsame_any (fs fs' : List M.Frg) (ds ds' : List M.Dfn) (a1 a2 a3 a4 : Option Addr) (c1 c2 c3 c4 : Nat) (w : World) (h1 : FragsAt w (.slice a1 fs.length c1) fs) (h2 : DefsAt w (.slice a2 ds.length c2) ds)
    (h3 : FragsAt w (.slice a3 fs'.length c3) fs') (h4 : DefsAt w (.slice a4 ds'.length c4) ds') :
    Calls Tryd.prog 11 #[.agg #[.slice a1 fs.length c1, .slice a2 ds.length c2], .agg #[.slice a3 fs'.length c3, .slice a4 ds'.length c4]] w fun e w' =>
      e = .returned (.bool (M.samePart ⟨fs, ds⟩ ⟨fs', ds'⟩)) ∧ Below w.heap.size w w' := by
  have hx : fs.length ≤ maxLen := by obtain ⟨cell, hs, _⟩ := h1; obtain ⟨_, _, _, h⟩ := hs.form; exact h
  have hy : fs'.length ≤ maxLen := by obtain ⟨cell, hs, _⟩ := h3; obtain ⟨_, _, _, h⟩ := hs.form; exact h
  unfold maxLen at hx hy
  have HD : Hid (∀ W, Below w.heap.size w W → Calls Tryd.prog 47 #[.slice a2 ds.length c2, .slice a4 ds'.length c4] W fun e w' =>
      e = .returned (.bool (M.allTwo M.sameDfn ds ds')) ∧ Below W.heap.size W w') := fun W hW => eqDefs_any ds ds' a2 a4 c2 c4 W (h2.later hW) (h4.later hW)
  have HX : Hid (M.samePart ⟨fs, ds⟩ ⟨fs', ds'⟩ = (M.allTwo M.sameFrg fs fs' && M.allTwo M.sameDfn ds ds')) := rfl
  clear h2 h4
  generalize M.samePart ⟨fs, ds⟩ ⟨fs', ds'⟩ = R at *
  generalize M.allTwo M.sameDfn ds ds' = r2 at *
  generalize ds.length = n3 at *
  generalize ds'.length = n4 at *
  by_cases hlen : fs.length = fs'.length
  · cases r2
    · have HX2 : Hid (R = false) := by rw [Hid, HX.out]; simp
      clear HX h1 h3
      generalize fs'.length = m at *
      subst hlen
      go_enter Tryd.func11, Tryd.ntmps11
      go_wp2_with (go_at_call 47; refine (HD.out _ (((Below.refl _ _).alloc (Nat.le_refl _) _).alloc (by simp) _)).mono ?_; rintro e w1 ⟨rfl, hb1⟩; obtain ⟨hc1, hf1⟩ := bcell hb1)
      go_ret
      exact ⟨ret_bool HX2.out.symm, (((Below.refl _ _).alloc (Nat.le_refl _) _).alloc (by simp) _).trans (hb1.mono (by simp; omega))⟩
    · have HX2 : Hid (R = M.allTwo M.sameFrg (fs.drop 0) (fs'.drop 0)) := by rw [Hid, HX.out]; simp
      clear HX
      have HL : Hid (fs'.length = fs.length) := hlen.symm
      rw [← hlen] at h3 hy ⊢
      clear hlen
      go_enter Tryd.func11, Tryd.ntmps11
      go_wp2_with (go_at_call 47; refine (HD.out _ (((Below.refl _ _).alloc (Nat.le_refl _) _).alloc (by simp) _)).mono ?_; rintro e w1 ⟨rfl, hb1⟩; obtain ⟨hc1, hf1⟩ := bcell hb1)
      have HB0 : Hid (Below w.heap.size w w1) := (((Below.refl _ _).alloc (Nat.le_refl _) _).alloc (by simp) _).trans (hb1.mono (by simp; omega))
      have hz0 : w.heap.size + 1 < w1.heap.size := by have := hb1.size; simp at this; omega
      have hb0 := later_new2b hb1 0 _ rfl
      clear hb1 hc1 hf1 HD
      go_loopw [26] (fun s26 wr => ∃ (k : Nat), k ≤ fs.length ∧ s26 = .int .i64 k ∧ Hid (Below w.heap.size w wr) ∧ w.heap.size + 1 < wr.heap.size ∧ wr.cell? ⟨w.heap.size + 1, 0, none⟩ = some (.slice a3 fs.length c3)
        ∧ Hid (R = M.allTwo M.sameFrg (fs.drop k) (fs'.drop k))) (fun s26 _ => fs.length - (intOf s26).toNat)
      case atStart => exact ⟨0, Nat.zero_le _, rfl, HB0, hz0, hb0, HX2⟩
      case round =>
        clear HB0 hz0 hb0 HX2
        obtain ⟨k, hk, rfl, HB, hsz, bx, HR⟩ := hrel
        by_cases hlt : k < fs.length
        · have hbw := HB.out
          have hky : k < fs'.length := by rw [HL.out]; exact hlt
          obtain ⟨b, off, ab, cb, ar, cr, har, e0, e1, e2, e3, e4, e5, hBy, hRl, hg, hbl⟩ := (h1.later hbw).cells k hlt
          obtain ⟨b', off', ab', cb', ar', cr', har', e0', e1', e2', e3', e4', e5', hBy', hRl', hg', hbl'⟩ := (show FragsAt wr (.slice a3 fs'.length c3) fs' by rw [HL.out]; exact h3.later hbw).cells k hky
          have HR1 := HR.out
          rw [frgs_step hlt hky] at HR1
          clear HR h1 h3 hg hbl hg' hbl'
          generalize fs.getD k frg0 = f at *
          generalize fs'.getD k frg0 = g at *
          have HBq : Hid (∀ W, Below wr.heap.size wr W → Calls Tryd.prog 48 #[.slice ab f.bytes.length cb, .slice ab' g.bytes.length cb'] W fun e w' => e = .returned (.bool (M.allTwo (fun x y => x == y) f.bytes g.bytes)) ∧ w' = W) := fun W hW =>
            bytesEqual_any _ _ ab ab' cb cb' W (hBy.later hW) (hBy'.later hW)
          have HRq : Hid (∀ W, Below wr.heap.size wr W → Calls Tryd.prog 49 #[.slice ar f.rels.length cr, .slice ar' g.rels.length cr'] W fun e w' => e = .returned (.bool (M.allTwo M.sameRel f.rels g.rels)) ∧ Below W.heap.size W w') := fun W hW =>
            eqRels_any _ _ ar ar' cr cr' W (hRl.later hW) (hRl'.later hW)
          clear hBy hRl hBy' hRl'
          obtain ⟨s, al, gr, bs, sz, rs⟩ := f
          obtain ⟨s', al', gr', bs', sz', rs'⟩ := g
          simp only at e0 e1 e2 e3 e4 e5 e0' e1' e2' e3' e4' e5' HBq HRq
          have hSF : M.sameFrg ⟨s, al, gr, bs, sz, rs⟩ ⟨s', al', gr', bs', sz', rs'⟩ = (s == s' && al == al' && gr.toList == gr'.toList && sz == sz' && M.allTwo (fun x y => x == y) bs bs' && M.allTwo M.sameRel rs rs') := rfl
          rw [hSF] at HR1
          clear hSF
          generalize M.allTwo (fun x y => x == y) bs bs' = rb at *
          generalize M.allTwo M.sameRel rs rs' = rr at *
          generalize bs.length = n1 at *
          generalize bs'.length = n2 at *
          generalize rs.length = n5 at *
          generalize rs'.length = n6 at *
          have hbr : b < wr.heap.size := World.block_lt_of_cell? _ _ e0
          have hbr' : b' < wr.heap.size := World.block_lt_of_cell? _ _ e0'
          subst har
          subst har'
          cases t1 : (s == s')
          · have HR2 : Hid (R = false) := by rw [Hid, HR1]; simp [t1]
            clear HR1 HBq HRq
            have b1 := bne_beq t1
            go_wp2
            go_ret
            exact ⟨ret_bool HR2.out.symm, hbw.trans ((((Below.refl _ _).alloc (Nat.le_refl _) _).alloc (by simp) _) |>.mono hbw.size)⟩
          cases t2 : (al == al')
          · have HR2 : Hid (R = false) := by rw [Hid, HR1]; simp [t2]
            clear HR1 HBq HRq
            have b1 := bne_beq t1
            have b2 := bne_beq t2
            go_wp2
            go_ret
            exact ⟨ret_bool HR2.out.symm, hbw.trans ((((Below.refl _ _).alloc (Nat.le_refl _) _).alloc (by simp) _) |>.mono hbw.size)⟩
          cases t3 : (gr.toList == gr'.toList)
          · have HR2 : Hid (R = false) := by rw [Hid, HR1]; simp [t3]
            clear HR1 HBq HRq
            have b1 := bne_beq t1
            have b2 := bne_beq t2
            have b3 := bne_beqS t3
            go_wp2
            go_ret
            exact ⟨ret_bool HR2.out.symm, hbw.trans ((((Below.refl _ _).alloc (Nat.le_refl _) _).alloc (by simp) _) |>.mono hbw.size)⟩
          cases t4 : (sz == sz')
          · have HR2 : Hid (R = false) := by rw [Hid, HR1]; simp [t4]
            clear HR1 HBq HRq
            have b1 := bne_beq t1
            have b2 := bne_beq t2
            have b3 := bne_beqS t3
            have b4 := bne_beq t4
            go_wp2
            go_ret
            exact ⟨ret_bool HR2.out.symm, hbw.trans ((((Below.refl _ _).alloc (Nat.le_refl _) _).alloc (by simp) _) |>.mono hbw.size)⟩
          have b1 := bne_beq t1
          have b2 := bne_beq t2
          have b3 := bne_beqS t3
          have b4 := bne_beq t4
          cases rb
          · have HR2 : Hid (R = false) := by rw [Hid, HR1]; simp
            clear HR1
            go_wp2_with (go_at_call 48; refine (HBq.out _ (((Below.refl _ _).alloc (Nat.le_refl _) _).alloc (by simp) _)).mono ?_; rintro e w2 ⟨rfl, rfl⟩)
            go_ret
            exact ⟨ret_bool HR2.out.symm, hbw.trans ((((Below.refl _ _).alloc (Nat.le_refl _) _).alloc (by simp) _) |>.mono hbw.size)⟩
          · cases rr
            · have HR2 : Hid (R = false) := by rw [Hid, HR1]; simp
              clear HR1
              go_wp2_with (first | (go_at_call 48; refine (HBq.out _ (((Below.refl _ _).alloc (Nat.le_refl _) _).alloc (by simp) _)).mono ?_; rintro e w2 ⟨rfl, rfl⟩) | (go_at_call 49; refine (HRq.out _ (((Below.refl _ _).alloc (Nat.le_refl _) _).alloc (by simp) _)).mono ?_; rintro e w3 ⟨rfl, hb3⟩))
              go_ret
              exact ⟨ret_bool HR2.out.symm, hbw.trans ((((Below.refl _ _).alloc (Nat.le_refl _) _).alloc (by simp) _).trans (hb3.mono (by simp; omega)) |>.mono hbw.size)⟩
            · have HR2 : Hid (R = M.allTwo M.sameFrg (fs.drop (k + 1)) (fs'.drop (k + 1))) := by rw [Hid, HR1]; simp [t1, t2, t3, t4]
              clear HR1
              go_wp2_with (first | (go_at_call 48; refine (HBq.out _ (((Below.refl _ _).alloc (Nat.le_refl _) _).alloc (by simp) _)).mono ?_; rintro e w2 ⟨rfl, rfl⟩) | (go_at_call 49; refine (HRq.out _ (((Below.refl _ _).alloc (Nat.le_refl _) _).alloc (by simp) _)).mono ?_; rintro e w3 ⟨rfl, hb3⟩))
              go_roundw
              case rel =>
                have hs3 := hb3.size
                simp at hs3
                exact ⟨k + 1, by omega, by go_num, hbw.trans ((((Below.refl _ _).alloc (Nat.le_refl _) _).alloc (by simp) _).trans (hb3.mono (by simp; omega)) |>.mono hbw.size), by omega, cell_later hb3 ((World.cell?_alloc_past _ _ _ (by simp; omega)).trans ((World.cell?_alloc_past _ _ _ hsz).trans bx)), HR2⟩
              case measure => simp [intOf]; omega
        · have HR0 : Hid (R = true) := by
            have := HR.out
            have h1' : fs.length ≤ k := by omega
            have h2' : fs'.length ≤ k := by rw [HL.out]; omega
            rw [List.drop_of_length_le h1', List.drop_of_length_le h2'] at this
            exact this
          clear HR
          go_wp2
          go_ret
          exact ⟨ret_bool HR0.out.symm, HB.out⟩
  · have HX2 : Hid (R = false) := by rw [Hid, HX.out, allTwo_len _ _ _ hlen]; rfl
    clear HX h1 h3 HD
    generalize fs.length = n at *
    generalize fs'.length = m at *
    have hne : (n != m) = true := by rw [bne_iff_ne]; exact hlen
    have hni : ¬ (n : Int) = (m : Int) := by omega
    clear hlen
    go_enter Tryd.func11, Tryd.ntmps11
    go_wp2
    go_ret
    exact ⟨ret_bool HX2.out.symm, (((Below.refl _ _).alloc (Nat.le_refl _) _).alloc (by simp) _)⟩

end Go.Proofs.YthbdfnphnppagaaDoor
