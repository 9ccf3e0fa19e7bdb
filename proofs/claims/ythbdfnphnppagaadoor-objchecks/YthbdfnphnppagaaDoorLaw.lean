/-
  The law ObjChecks returns true, whatever the parts, the text, the kind, the fragment.
-/
import Derived.Test.YthbdfnphnppagaaDoorRight
import Derived.Test.YthbdfnphnppagaaDoorRefCheck
namespace Go.Proofs.YthbdfnphnppagaaDoor
open Go.RowKit
set_option linter.unusedVariables false
attribute [local go_sem] lat_cell

theorem lat_below {W : World} (x : Lat W) : Below W.heap.size W (lat W x) := x.below

set_option maxHeartbeats 4000000 in
set_option maxRecDepth 100000 in
theorem law_any (fs fs' : List M.Frg) (ds ds' : List M.Dfn) (a1 a2 a3 a4 : Option Addr) (c1 c2 c3 c4 : Nat) (s : ByteArray) (kind sect align size : Int) (g : ByteArray) (ab : Option Addr) (nb cb : Nat) (vr : Value) (w : World)
    (h1 : FragsAt w (.slice a1 fs.length c1) fs) (h2 : DefsAt w (.slice a2 ds.length c2) ds) (h3 : FragsAt w (.slice a3 fs'.length c3) fs') (h4 : DefsAt w (.slice a4 ds'.length c4) ds')
    (hs : s.size ≤ maxLen) (hk : (Lit.int .i64 kind).wf = true) :
    Calls Tryd.prog 3 #[.agg #[.slice a1 fs.length c1, .slice a2 ds.length c2], .agg #[.slice a3 fs'.length c3, .slice a4 ds'.length c4], .string s, .int .i64 kind,
      .agg #[.int .i64 sect, .int .i64 align, .string g, .slice ab nb cb, .int .i64 size, vr]] w fun e w' => e = .returned (.bool true) ∧ Below w.heap.size w w' := by
  have K1 : Hid (∀ W, Below w.heap.size w W → Calls Tryd.prog 8 #[.agg #[.slice a1 fs.length c1, .slice a2 ds.length c2]] W fun e w' => e = .returned (.int .i64 (M.checkPart ⟨fs, ds⟩)) ∧ Below W.heap.size W w') := fun W hW =>
    check_any fs ds a1 a2 c1 c2 W (h1.later hW) (h2.later hW)
  have K2 : Hid (∀ W, Below w.heap.size w W → Calls Tryd.prog 9 #[.agg #[.slice a1 fs.length c1, .slice a2 ds.length c2]] W fun e w' => e = .returned (.int .i64 (M.checkPart ⟨fs, ds⟩)) ∧ Below W.heap.size W w') := fun W hW =>
    rcheck_any fs ds a1 a2 c1 c2 W (h1.later hW) (h2.later hW)
  have K3 : Hid (∀ W, Below w.heap.size w W → Calls Tryd.prog 10 #[.agg #[.slice a1 fs.length c1, .slice a2 ds.length c2], .agg #[.slice a3 fs'.length c3, .slice a4 ds'.length c4]] W fun e w' => e = .returned (.bool (M.samePart ⟨fs, ds⟩ ⟨fs', ds'⟩)) ∧ Below W.heap.size W w') := fun W hW =>
    same_any fs fs' ds ds' a1 a2 a3 a4 c1 c2 c3 c4 W (h1.later hW) (h2.later hW) (h3.later hW) (h4.later hW)
  have K4 : Hid (∀ W, Below w.heap.size w W → Calls Tryd.prog 11 #[.agg #[.slice a1 fs.length c1, .slice a2 ds.length c2], .agg #[.slice a3 fs'.length c3, .slice a4 ds'.length c4]] W fun e w' => e = .returned (.bool (M.samePart ⟨fs, ds⟩ ⟨fs', ds'⟩)) ∧ Below W.heap.size W w') := fun W hW =>
    rsame_any fs fs' ds ds' a1 a2 a3 a4 c1 c2 c3 c4 W (h1.later hW) (h2.later hW) (h3.later hW) (h4.later hW)
  have K5 : Hid (∀ W, Calls Tryd.prog 12 #[.string s] W fun e w' => e = .returned (.bool (M.isName s)) ∧ w' = W) := fun W => name_any s W hs
  have K6 : Hid (∀ W, Calls Tryd.prog 13 #[.string s] W fun e w' => e = .returned (.bool (M.isName s)) ∧ Below W.heap.size W w') := fun W => isName_any s W hs
  have K7 : Hid (∀ W, Calls Tryd.prog 14 #[.int .i64 kind] W fun e w' => e = .returned (.int .i64 (M.wide kind)) ∧ w' = W) := fun W => wide_any kind W
  have K8 : Hid (∀ W, Calls Tryd.prog 15 #[.int .i64 kind] W fun e w' => e = .returned (.int .i64 (M.wide kind)) ∧ Below W.heap.size W w') := fun W => wideOf_any kind W hk
  clear h1 h2 h3 h4 hs hk
  generalize M.checkPart ⟨fs, ds⟩ = r1 at *
  generalize M.samePart ⟨fs, ds⟩ ⟨fs', ds'⟩ = r2 at *
  generalize M.isName s = r3 at *
  generalize M.wide kind = r4 at *
  generalize fs.length = n1 at *
  generalize ds.length = n2 at *
  generalize fs'.length = n3 at *
  generalize ds'.length = n4 at *
  go_enter Tryd.func3, Tryd.ntmps3
  go_wp2_with fail
  have HW0 : Hid (Below w.heap.size w (((w.alloc (.cells #[.slice a1 n1 c1, .slice a2 n2 c2] 25)).alloc (.cells #[.slice a3 n3 c3, .slice a4 n4 c4] 25)).alloc (.cells #[.int .i64 sect, .int .i64 align, .string g, .slice ab nb cb, .int .i64 size, vr] 29))) := (((Below.refl _ _).alloc (Nat.le_refl _) _).alloc (by simp) _).alloc (by simp; omega) _
  have p0 : (((w.alloc (.cells #[.slice a1 n1 c1, .slice a2 n2 c2] 25)).alloc (.cells #[.slice a3 n3 c3, .slice a4 n4 c4] 25)).alloc (.cells #[.int .i64 sect, .int .i64 align, .string g, .slice ab nb cb, .int .i64 size, vr] 29)).cell? ⟨w.heap.size, 0, none⟩ = some (.slice a1 n1 c1) := by rw [World.cell?_alloc_past _ _ _ (by simp; try omega), World.cell?_alloc_past _ _ _ (by simp; try omega), World.cell?_alloc_at _ _ _ _ (by simp)]; rfl
  have p1 : (((w.alloc (.cells #[.slice a1 n1 c1, .slice a2 n2 c2] 25)).alloc (.cells #[.slice a3 n3 c3, .slice a4 n4 c4] 25)).alloc (.cells #[.int .i64 sect, .int .i64 align, .string g, .slice ab nb cb, .int .i64 size, vr] 29)).cell? ⟨w.heap.size, 1, none⟩ = some (.slice a2 n2 c2) := by rw [World.cell?_alloc_past _ _ _ (by simp; try omega), World.cell?_alloc_past _ _ _ (by simp; try omega), World.cell?_alloc_at _ _ _ _ (by simp)]; rfl
  have q0 : (((w.alloc (.cells #[.slice a1 n1 c1, .slice a2 n2 c2] 25)).alloc (.cells #[.slice a3 n3 c3, .slice a4 n4 c4] 25)).alloc (.cells #[.int .i64 sect, .int .i64 align, .string g, .slice ab nb cb, .int .i64 size, vr] 29)).cell? ⟨w.heap.size + 1, 0, none⟩ = some (.slice a3 n3 c3) := by rw [World.cell?_alloc_past _ _ _ (by simp; try omega), World.cell?_alloc_at _ _ _ _ (by simp)]; rfl
  have q1 : (((w.alloc (.cells #[.slice a1 n1 c1, .slice a2 n2 c2] 25)).alloc (.cells #[.slice a3 n3 c3, .slice a4 n4 c4] 25)).alloc (.cells #[.int .i64 sect, .int .i64 align, .string g, .slice ab nb cb, .int .i64 size, vr] 29)).cell? ⟨w.heap.size + 1, 1, none⟩ = some (.slice a4 n4 c4) := by rw [World.cell?_alloc_past _ _ _ (by simp; try omega), World.cell?_alloc_at _ _ _ _ (by simp)]; rfl
  have f0 : (((w.alloc (.cells #[.slice a1 n1 c1, .slice a2 n2 c2] 25)).alloc (.cells #[.slice a3 n3 c3, .slice a4 n4 c4] 25)).alloc (.cells #[.int .i64 sect, .int .i64 align, .string g, .slice ab nb cb, .int .i64 size, vr] 29)).cell? ⟨w.heap.size + 1 + 1, 0, none⟩ = some (.int .i64 sect) := by rw [World.cell?_alloc_at _ _ _ _ (by simp)]; rfl
  have f1 : (((w.alloc (.cells #[.slice a1 n1 c1, .slice a2 n2 c2] 25)).alloc (.cells #[.slice a3 n3 c3, .slice a4 n4 c4] 25)).alloc (.cells #[.int .i64 sect, .int .i64 align, .string g, .slice ab nb cb, .int .i64 size, vr] 29)).cell? ⟨w.heap.size + 1 + 1, 1, none⟩ = some (.int .i64 align) := by rw [World.cell?_alloc_at _ _ _ _ (by simp)]; rfl
  have f2 : (((w.alloc (.cells #[.slice a1 n1 c1, .slice a2 n2 c2] 25)).alloc (.cells #[.slice a3 n3 c3, .slice a4 n4 c4] 25)).alloc (.cells #[.int .i64 sect, .int .i64 align, .string g, .slice ab nb cb, .int .i64 size, vr] 29)).cell? ⟨w.heap.size + 1 + 1, 2, none⟩ = some (.string g) := by rw [World.cell?_alloc_at _ _ _ _ (by simp)]; rfl
  have f3 : (((w.alloc (.cells #[.slice a1 n1 c1, .slice a2 n2 c2] 25)).alloc (.cells #[.slice a3 n3 c3, .slice a4 n4 c4] 25)).alloc (.cells #[.int .i64 sect, .int .i64 align, .string g, .slice ab nb cb, .int .i64 size, vr] 29)).cell? ⟨w.heap.size + 1 + 1, 3, none⟩ = some (.slice ab nb cb) := by rw [World.cell?_alloc_at _ _ _ _ (by simp)]; rfl
  have f4 : (((w.alloc (.cells #[.slice a1 n1 c1, .slice a2 n2 c2] 25)).alloc (.cells #[.slice a3 n3 c3, .slice a4 n4 c4] 25)).alloc (.cells #[.int .i64 sect, .int .i64 align, .string g, .slice ab nb cb, .int .i64 size, vr] 29)).cell? ⟨w.heap.size + 1 + 1, 4, none⟩ = some (.int .i64 size) := by rw [World.cell?_alloc_at _ _ _ _ (by simp)]; rfl
  have f5 : (((w.alloc (.cells #[.slice a1 n1 c1, .slice a2 n2 c2] 25)).alloc (.cells #[.slice a3 n3 c3, .slice a4 n4 c4] 25)).alloc (.cells #[.int .i64 sect, .int .i64 align, .string g, .slice ab nb cb, .int .i64 size, vr] 29)).cell? ⟨w.heap.size + 1 + 1, 5, none⟩ = some (vr) := by rw [World.cell?_alloc_at _ _ _ _ (by simp)]; rfl
  generalize (((w.alloc (.cells #[.slice a1 n1 c1, .slice a2 n2 c2] 25)).alloc (.cells #[.slice a3 n3 c3, .slice a4 n4 c4] 25)).alloc (.cells #[.int .i64 sect, .int .i64 align, .string g, .slice ab nb cb, .int .i64 size, vr] 29)) = W at *
  refine wp_region_lat (by kernel_rfl) (by kernel_rfl) ?_
  intro hne
  repeat (go_big_quiet_step ((first | (go_at_call 7; exact lat_of (right_any _)) | (go_at_call 8; exact lat_of (K1.out _ (HW0.out.trans ((lat_below _).mono HW0.out.size)))) | (go_at_call 9; exact lat_of (K2.out _ (HW0.out.trans ((lat_below _).mono HW0.out.size)))) | (go_at_call 10; exact lat_of (K3.out _ (HW0.out.trans ((lat_below _).mono HW0.out.size)))) | (go_at_call 11; exact lat_of (K4.out _ (HW0.out.trans ((lat_below _).mono HW0.out.size)))) | (go_at_call 12; exact lat_of_same (K5.out _)) | (go_at_call 13; exact lat_of (K6.out _)) | (go_at_call 14; exact lat_of_same (K7.out _)) | (go_at_call 15; exact lat_of (K8.out _)) | (go_at_call 16; exact lat_of (long_any _ _ _ _ _ _ _ _ _)) | (go_at_call 17; exact lat_of (longOf_any _ _ _ _ _ _ _ _ _)))))
  refine wpQuiet_nil ?_
  intro w1 hb1
  have hb := lat_out hb1
  clear hne hb1
  go_wp2
  go_ret
  exact ⟨rfl, HW0.out.trans (hb.mono HW0.out.size)⟩

end Go.Proofs.YthbdfnphnppagaaDoor
