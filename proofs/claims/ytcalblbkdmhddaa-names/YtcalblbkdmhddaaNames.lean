/-
  The law 'Names' returns true whatever the world: each constant has its value. No condition.
-/
import Derived.Test.YtcalblbkdmhddaaRows
import Derived.Test.YtcalblbkdmhddaaShelf
import Derived.WalkKit
import Derived.ProofKit
import Derived.OpenShut
namespace Go.Proofs.Ytcalblbkdmhddaa.names
open Go.ChangeShapes Go.WideShapes Go.ChangeAt Go.RowKit
set_option linter.unusedVariables false

theorem own : ownKnob Try.prog.godebug = none := by kernel_rfl

def L1 : List Int := [64, 60, 60, 8, 8, 20000, 10000, 12, 8, 65536, 4, 20, 120, 5]
def L2 : List Int := [1, 2, 3, 4, 5, 1, 2, 3, 4, 1, 2, 3, 1, 2, 1, 2, 3, 4, 5, 6, 7, 8]

theorem cells_at (xs : List Int) (W : World) (t : TypeId) (n : Nat) (hn : n = W.heap.size) (j : Nat) (hj : j < xs.length) :
    (W.alloc (.cells (xs.map (Value.int .i64)).toArray t)).cell? ⟨n, 0 + j, none⟩ = some (.int .i64 (xs.getD j 0)) := by
  rw [World.cell?_alloc_at _ _ _ _ hn]
  simp [hj]

theorem grown5 (w : World) (a b c d f : Array Value) (ta tb tc td tf : TypeId) (q r : Nat) :
    Grown w ((((((((w.alloc (.cells a ta)).alloc (.cells b tb)).alloc (.cells c tc)).alloc (.cells d td)).drewN q).alloc (.cells f tf))).drewN r) :=
  Grown.alloc (W := w) (w' := ((((w.alloc (.cells a ta)).alloc (.cells b tb)).alloc (.cells c tc)).alloc (.cells d td)).drewN q)
    (show Grown w (((w.alloc (.cells a ta)).alloc (.cells b tb)).alloc (.cells c tc) |>.alloc (.cells d td)) from
      (((((Grown.refl w).alloc a ta).alloc b tb).alloc c tc).alloc d td)) f tf

set_option maxHeartbeats 400000 in
theorem walk  (w : World) :
    Calls Try.prog 3 #[] w fun e w' => e = .returned (.bool true) ∧ Grown w w' := by
  go_enter Try.func3, Try.ntmps3
  go_wp2_with fail
  go_loop [9] (fun s9 => ∃ k : Nat, k ≤ 13 ∧ s9 = .int .i64 k) (fun s9 => 13 - (intOf s9).toNat)
  case atStart => exact ⟨0, Nat.zero_le _, rfl⟩
  case round =>
    obtain ⟨k, hk, rfl⟩ := hrel
    by_cases hlt : k < 13
    · have hc : k = 0 ∨ k = 1 ∨ k = 2 ∨ k = 3 ∨ k = 4 ∨ k = 5 ∨ k = 6 ∨ k = 7 ∨ k = 8 ∨ k = 9 ∨ k = 10 ∨ k = 11 ∨ k = 12 := by omega
      clear hk hlt
      rcases hc with rfl | rfl | rfl | rfl | rfl | rfl | rfl | rfl | rfl | rfl | rfl | rfl | rfl
      all_goals
        go_wp2
        go_round
        case rel => first | exact ⟨1, by decide, rfl⟩ | exact ⟨2, by decide, rfl⟩ | exact ⟨3, by decide, rfl⟩ | exact ⟨4, by decide, rfl⟩ | exact ⟨5, by decide, rfl⟩ | exact ⟨6, by decide, rfl⟩ | exact ⟨7, by decide, rfl⟩ | exact ⟨8, by decide, rfl⟩ | exact ⟨9, by decide, rfl⟩ | exact ⟨10, by decide, rfl⟩ | exact ⟨11, by decide, rfl⟩ | exact ⟨12, by decide, rfl⟩ | exact ⟨13, by decide, rfl⟩
        case measure => simp [intOf]
    · obtain rfl : k = 13 := by omega
      go_wp2_with fail
      refine (Try.slices_Equal_int _ 0 14 14 _ 0 14 14 L1 L1 _ (by decide) (by decide) (by decide) (by decide) (fun j hj => ?_) (fun j hj => ?_)).mono ?_
      · rw [World.cell?_alloc_past _ _ _ (by simp), World.cell?_alloc_past _ _ _ (by simp)]
        exact cells_at L1 _ _ _ (by simp) j hj
      · exact cells_at L1 _ _ _ (by simp) j hj
      · rintro e w' ⟨rfl, q, rfl⟩
        have e1 : (L1.take 14 == L1.take 14) = true := by decide
        rw [e1]
        go_wp2_with fail
        refine (Try.slices_Equal_int _ 0 22 22 _ 0 22 22 L2 L2 _ (by decide) (by decide) (by decide) (by decide) (fun j hj => ?_) (fun j hj => ?_)).mono ?_
        · rw [World.cell?_alloc_past _ _ _ (by simp), World.cell?_drewN, World.cell?_alloc_past _ _ _ (by simp)]
          exact cells_at L2 _ _ _ (by simp) j hj
        · exact cells_at L2 _ _ _ (by simp) j hj
        · rintro e w' ⟨rfl, q', rfl⟩
          have e2 : (L2.take 22 == L2.take 22) = true := by decide
          rw [e2]
          go_wp2
          go_ret
          exact ⟨rfl, grown5 _ _ _ _ _ _ _ _ _ _ _ _ _⟩

/-! the row's step, by the shell -/
set_option maxRecDepth 100000 in
theorem lifted (os : Os) (started : os.Started) (H : Type) (enc : TypeId × Value → H) :
    ReturnsInHanded {} Try.checked os 3 .any (Rows.namesSpec.pre6 enc Try.prog Try.f3 Rows.namesRow.domain false) (Rows.namesSpec.post enc Try.prog Try.f3 false true false false) := by
  refine returnsInHanded_of_change (C := Try.checked) own started (by kernel_rfl) Try.func3
    (ChangeSpec.witness6 (enc := enc) (C := Try.checked) false ⟨#[], #[], []⟩ 8 (by kernel_rfl) (by kernel_rfl) (by kernel_rfl) (by kernel_rfl)) ?_
  intro W base args ds gs before hval0 hW hcnd _
  have hval : ∀ (j : Nat) t v, Try.f3.params[j]? = some t → args[j]? = some v → Value.okWide Try.prog W .any base t v := hval0
  have hW' := hW
  obtain ⟨p, q, hA0, hV, rfl, hfz, hnd⟩ := hW
  have hA : DataW.TrodAll enc Try.prog W 0 (fun _ => true) true Try.f3.params.toList args.toList ds p := hA0
  rw [Try.params3] at hA hval
  obtain ⟨rfl, rfl, rfl⟩ := trodAll_none hA
  obtain ⟨rfl, rfl⟩ := trodVars_none hV
  clear hA0 hval0
  simp only [List.append_nil] at hW'
  refine (walk  W).mono fun e W' ⟨he, hg⟩ => ?_
  subst he
  exact ⟨_, rfl, post_of_same (pa := []) (pv := []) hW' (fun _ _ _ => (trodAll_cons_mk (shut_bool Try.underlying4 _) trodAll_mk0)) (fun sp _ => rfl) (fun _ _ => rfl) rfl
    (hg.frame _) hg.2.1 (ok_one (by kernel_rfl) rfl (okWide_bool_mk Try.underlying4 _))⟩

theorem over : Rows.namesRow.holds Try.pinned (OpenSpec.ofChange Rows.namesSpec) :=
  OpenClaim.holds_of_wide 3 Try.f3 rfl rfl rfl rfl rfl rfl rfl ⟨rfl, rfl, rfl, rfl, rfl⟩ rfl rfl rfl rfl rfl (by kernel_rfl) Try.func3 (by kernel_rfl)
    (of_decide_eq_true (by kernel_rfl)) (by unfold Func.isWrapper; first | (rw [if_pos (by decide +kernel)]; kernel_rfl) | (rw [if_neg (by decide +kernel)]; exact ⟨rfl, rfl⟩))
    (fun os started H enc _ => lifted os started H enc)

end Go.Proofs.Ytcalblbkdmhddaa.names
namespace Go.Proofs.Ytcalblbkdmhddaa
/-- The statement. -/
theorem names_proved : Rows.NamesSaid := names.over
#print axioms names_proved
end Go.Proofs.Ytcalblbkdmhddaa
