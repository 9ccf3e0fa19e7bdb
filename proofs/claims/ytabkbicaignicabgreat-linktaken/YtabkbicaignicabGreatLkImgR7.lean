/-
  One statement of link.image: a segment is appended to the image's.
-/
import Derived.Test.YtabkbicaignicabGreatImgA
namespace Go.Proofs.YtabkbicaignicabGreat
open Go Go.RowKit
set_option linter.unusedVariables false

def regionOf (n : Nat) : Code → Option Code
  | .region i o d => if i = n then some (.region i o d) else none
  | .loop c => regionOf n c
  | .seq a b => match regionOf n a with
    | some c => some c
    | none => regionOf n b
  | .block _ c => regionOf n c
  | .scope c => regionOf n c
  | .cond _ a b => match regionOf n a with
    | some c => some c
    | none => regionOf n b
  | _ => none

set_option maxHeartbeats 32000000 in
set_option maxRecDepth 1000000 in
theorem img_r7 {z0 z1 z2 z3 z4 z6 z7 z8 z9 z10 z12 z15 z16 z17 z18 z19 z20 z21 z22 z23 z24 z25 z26 z27 z28 z29 z30 z31 z32 z33 z34 z35 z36 z37 z38 z39 z40 z41 z42 z43 z44 z45 z46 z47 z48 z49 z50 z51 z52 z53 z54 z55 z56 z57 z58 z59 z60 z61 z62 z63 z64 z65 : Value} {X : World} {nL nO ns gb nb k cx fi B : Nat} {ax : Option Addr} {fr at_ : Int} {wb kb : Bool} {xs : List Value}
    (g1 : X.cell? ⟨nO, 1, none⟩ = some (.slice ax k cx)) (hlO : nO < X.heap.size) (k0 : X.cell? ⟨ns, 0, none⟩ = some (.int .i64 fi)) (hfi : (fi : Int) < 6) (g2 : X.cell? ⟨nL, 3 + fi, none⟩ = some (.int .i64 fr)) (hlL : nL < X.heap.size)
    (k2 : X.cell? ⟨ns, 2, none⟩ = some (.bool wb)) (k3 : X.cell? ⟨ns, 3, none⟩ = some (.bool kb)) (hlN : ns < X.heap.size) (hk : k ≤ 3) (hB : B ≤ X.heap.size)
    (HRw : Hid ((X.drew.alloc (.cells #[.int .i64 fr, .slice (some ⟨gb, 0, none⟩) nb nb, .int .i64 0, .bool wb, .bool kb] 66)).ownsRow B 66 5 (.slice ax k cx) k xs))
    (HZ : Hid (∀ w5, (X.drew.alloc (.cells #[.int .i64 fr, .slice (some ⟨gb, 0, none⟩) nb nb, .int .i64 0, .bool wb, .bool kb] 66)).grownBy w5 (Value.slice ax k cx).ownBlock → w5.heap[nO]? = some (.cells #[.int .i64 at_, .slice ax k cx] 25 (0, 0)))) {Q0 : Exit → Act → World → Prop} (hp : ∀ c (a : Act) (d : Nat) (v : Value) w, Q0 (.panic c) (a.put (some d) v) w → Q0 (.panic c) a w)
    (hq : ∀ (y37 y38 y39 y40 y41 y42 y43 y44 y45 y46 y47 y48 y49 y50 y51 y52 v5 : Value) (w5 : World), (X.drew.alloc (.cells #[.int .i64 fr, .slice (some ⟨gb, 0, none⟩) nb nb, .int .i64 0, .bool wb, .bool kb] 66)).grownBy w5 (Value.slice ax k cx).ownBlock → w5.ownsRow B 66 5 v5 (k + 1) (xs ++ [.int .i64 fr, .slice (some ⟨gb, 0, none⟩) nb nb, .int .i64 0, .bool wb, .bool kb]) → Q0 .normal ⟨List.toArray (z0 :: z1 :: z2 :: z3 :: z4 :: .pointer (some ⟨nL, 0, none⟩) :: z6 :: z7 :: z8 :: z9 :: z10 :: .pointer (some ⟨nO, 0, none⟩) :: z12 :: .pointer (some ⟨ns, 0, none⟩) :: .slice (some ⟨gb, 0, none⟩) nb nb :: z15 :: z16 :: z17 :: z18 :: z19 :: z20 :: z21 :: z22 :: z23 :: z24 :: z25 :: z26 :: z27 :: z28 :: z29 :: z30 :: z31 :: z32 :: z33 :: z34 :: z35 :: z36 :: y37 :: y38 :: y39 :: y40 :: y41 :: y42 :: y43 :: y44 :: y45 :: y46 :: y47 :: y48 :: y49 :: y50 :: y51 :: y52 :: z53 :: z54 :: z55 :: z56 :: z57 :: z58 :: z59 :: z60 :: z61 :: z62 :: z63 :: z64 :: z65 :: []), []⟩ (w5.setCell ⟨nO, 1, none⟩ v5)) :
    Code.wp Tryz.prog ((Tryz.f29.body.bind (regionOf 7)).getD .skip : Code) Q0 ⟨List.toArray (z0 :: z1 :: z2 :: z3 :: z4 :: .pointer (some ⟨nL, 0, none⟩) :: z6 :: z7 :: z8 :: z9 :: z10 :: .pointer (some ⟨nO, 0, none⟩) :: z12 :: .pointer (some ⟨ns, 0, none⟩) :: .slice (some ⟨gb, 0, none⟩) nb nb :: z15 :: z16 :: z17 :: z18 :: z19 :: z20 :: z21 :: z22 :: z23 :: z24 :: z25 :: z26 :: z27 :: z28 :: z29 :: z30 :: z31 :: z32 :: z33 :: z34 :: z35 :: z36 :: z37 :: z38 :: z39 :: z40 :: z41 :: z42 :: z43 :: z44 :: z45 :: z46 :: z47 :: z48 :: z49 :: z50 :: z51 :: z52 :: z53 :: z54 :: z55 :: z56 :: z57 :: z58 :: z59 :: z60 :: z61 :: z62 :: z63 :: z64 :: z65 :: []), []⟩ X := by
  conv => arg 2; whnf
  obtain ⟨i1, hi1, hy0, hy1, hy2⟩ := info_parts (P := Tryz.prog) (e := 66) (z := .agg #[.int .i64 0, .slice none 0 0, .int .i64 0, .bool false, .bool false]) (size := 5) (bytes := 48) (by kernel_rfl)
  have HSrc : Hid (Src (X.drew.alloc (.cells #[.int .i64 fr, .slice (some ⟨gb, 0, none⟩) nb nb, .int .i64 0, .bool wb, .bool kb] 66)) (.slice (some ⟨X.heap.size, 0, none⟩) 1 1) 1 [.int .i64 fr, .slice (some ⟨gb, 0, none⟩) nb nb, .int .i64 0, .bool wb, .bool kb]) := ⟨_, _, rfl, .inr ⟨_, rfl, World.news_of_block (heap_alloc_new X.drew (.cells #[.int .i64 fr, .slice (some ⟨gb, 0, none⟩) nb nb, .int .i64 0, .bool wb, .bool kb] 66))⟩⟩
  have hS : (fun w' : World => w'.cell? ⟨nO, 1, none⟩ = some (.slice ax k cx) ∧ w'.cell? ⟨ns, 0, none⟩ = some (.int .i64 fi) ∧ w'.cell? ⟨nL, 3 + fi, none⟩ = some (.int .i64 fr) ∧ w'.cell? ⟨ns, 2, none⟩ = some (.bool wb) ∧ w'.cell? ⟨ns, 3, none⟩ = some (.bool kb)) X.drew := ⟨g1, k0, g2, k2, k3⟩
  refine wp_region_last 14 (fun w' => w'.cell? ⟨nO, 1, none⟩ = some (.slice ax k cx) ∧ w'.cell? ⟨ns, 0, none⟩ = some (.int .i64 fi) ∧ w'.cell? ⟨nL, 3 + fi, none⟩ = some (.int .i64 fr) ∧ w'.cell? ⟨ns, 2, none⟩ = some (.bool wb) ∧ w'.cell? ⟨ns, 3, none⟩ = some (.bool kb)) (by kernel_rfl) (fun inv => ?_)
  refine wpAnyL_take (i := 0) (v := .pointer (some ⟨nO, 1, none⟩)) rfl (by kernel_rfl) inv (fun c a w => hp c a _ _ w) (Or.inl ⟨by rfl, fun w' hS' => by obtain ⟨s1, s2, s3, s4, s5⟩ := hS'; go_simp⟩) hS (fun inv => ?_)
  simp only [Act.put, List.setIfInBounds_toArray]
  refine wpAnyL_take (i := 1) (v := .slice ax k cx) rfl (by kernel_rfl) inv (fun c a w => hp c a _ _ w) (Or.inl ⟨by rfl, fun w' hS' => by obtain ⟨s1, s2, s3, s4, s5⟩ := hS'; go_simp⟩) hS (fun inv => ?_)
  simp only [Act.put]
  refine wpAnyL_take (i := 2) (v := .pointer (some ⟨ns, 0, none⟩)) rfl (by kernel_rfl) inv (fun c a w => hp c a _ _ w) (Or.inl ⟨by rfl, fun w' hS' => by obtain ⟨s1, s2, s3, s4, s5⟩ := hS'; go_simp⟩) hS (fun inv => ?_)
  simp only [Act.put]
  refine wpAnyL_take (i := 3) (v := .int .i64 fi) rfl (by kernel_rfl) inv (fun c a w => hp c a _ _ w) (Or.inl ⟨by rfl, fun w' hS' => by obtain ⟨s1, s2, s3, s4, s5⟩ := hS'; go_simp⟩) hS (fun inv => ?_)
  simp only [Act.put]
  refine wpAnyL_take (i := 4) (v := .pointer (some ⟨nL, 3, none⟩)) rfl (by kernel_rfl) inv (fun c a w => hp c a _ _ w) (Or.inl ⟨by rfl, fun w' hS' => by obtain ⟨s1, s2, s3, s4, s5⟩ := hS'; go_simp⟩) hS (fun inv => ?_)
  simp only [Act.put]
  refine wpAnyL_take (i := 5) (v := .pointer (some ⟨nL, 3 + fi, none⟩)) rfl (by kernel_rfl) inv (fun c a w => hp c a _ _ w) (Or.inl ⟨by rfl, fun w' hS' => by obtain ⟨s1, s2, s3, s4, s5⟩ := hS'; go_simp⟩) hS (fun inv => ?_)
  simp only [Act.put]
  refine wpAnyL_take (i := 6) (v := .int .i64 fr) rfl (by kernel_rfl) inv (fun c a w => hp c a _ _ w) (Or.inl ⟨by rfl, fun w' hS' => by obtain ⟨s1, s2, s3, s4, s5⟩ := hS'; go_simp⟩) hS (fun inv => ?_)
  simp only [Act.put]
  refine wpAnyL_take (i := 7) (v := .slice (some ⟨gb, 0, none⟩) nb nb) rfl (by kernel_rfl) inv (fun c a w => hp c a _ _ w) (Or.inl ⟨by rfl, fun w' hS' => by obtain ⟨s1, s2, s3, s4, s5⟩ := hS'; go_simp⟩) hS (fun inv => ?_)
  simp only [Act.put]
  refine wpAnyL_take (i := 8) (v := .pointer (some ⟨ns, 2, none⟩)) rfl (by kernel_rfl) inv (fun c a w => hp c a _ _ w) (Or.inl ⟨by rfl, fun w' hS' => by obtain ⟨s1, s2, s3, s4, s5⟩ := hS'; go_simp⟩) hS (fun inv => ?_)
  simp only [Act.put]
  refine wpAnyL_take (i := 9) (v := .bool wb) rfl (by kernel_rfl) inv (fun c a w => hp c a _ _ w) (Or.inl ⟨by rfl, fun w' hS' => by obtain ⟨s1, s2, s3, s4, s5⟩ := hS'; go_simp⟩) hS (fun inv => ?_)
  simp only [Act.put]
  refine wpAnyL_take (i := 10) (v := .pointer (some ⟨ns, 3, none⟩)) rfl (by kernel_rfl) inv (fun c a w => hp c a _ _ w) (Or.inl ⟨by rfl, fun w' hS' => by obtain ⟨s1, s2, s3, s4, s5⟩ := hS'; go_simp⟩) hS (fun inv => ?_)
  simp only [Act.put]
  refine wpAnyL_take (i := 11) (v := .bool kb) rfl (by kernel_rfl) inv (fun c a w => hp c a _ _ w) (Or.inl ⟨by rfl, fun w' hS' => by obtain ⟨s1, s2, s3, s4, s5⟩ := hS'; go_simp⟩) hS (fun inv => ?_)
  simp only [Act.put]
  refine wpAnyL_take (i := 12) (v := .agg #[.int .i64 fr, .slice (some ⟨gb, 0, none⟩) nb nb, .int .i64 0, .bool wb, .bool kb]) rfl (by kernel_rfl) inv (fun c a w => hp c a _ _ w) (Or.inl ⟨by rfl, fun w' hS' => by obtain ⟨s1, s2, s3, s4, s5⟩ := hS'; go_simp⟩) hS (fun inv => ?_)
  simp only [Act.put]
  refine wpAnyL_one (i := 13) (by kernel_rfl) (wpOp_of_if rfl ?_)
  rw [if_pos (by rfl)]
  unfold Oper.wp
  go_simp
  refine wpAnyL_one (i := 14) (by kernel_rfl) (wpOp_of_if rfl ?_)
  refine step_append_src (by rfl) (.tmp 38) (.tmp 50) 23 (by rfl) B 66 i1 (.agg #[.int .i64 0, .slice none 0 0, .int .i64 0, .bool false, .bool false]) 5 48 Tryz.underlying23 hi1 hy0 hy1 hy2 rfl (by decide) _ k xs (by rfl) HRw.out _ 1 [.int .i64 fr, .slice (some ⟨gb, 0, none⟩) nb nb, .int .i64 0, .bool wb, .bool kb] (by rfl) HSrc.out (by rfl) (fun u hu => by simp at hu; rcases hu with rfl | rfl | rfl | rfl | rfl <;> rfl) (by unfold maxLen; omega) (by omega) (by simp; omega) ?_
  intro v5 w5 ho5 hg5
  refine ⟨fun h => absurd h (by decide), ?_⟩
  have z8 := HZ.out w5 hg5
  have c8 : w5.cell? ⟨nO, 1, none⟩ = some (.slice ax k cx) := cellB z8 1
  have f8 := frozenB z8 1
  have HQ5 := fun y37 y38 y39 y40 y41 y42 y43 y44 y45 y46 y47 y48 y49 y50 y51 y52 => hq y37 y38 y39 y40 y41 y42 y43 y44 y45 y46 y47 y48 y49 y50 y51 y52 v5 w5 hg5 ho5
  obtain ⟨a5, c5, rfl⟩ := own_len ho5
  have HQ6 : Hid _ := HQ5
  clear HQ5 hq
  refine wpAnyL_one (i := 15) (by kernel_rfl) (wpOp_of_if rfl ?_)
  rw [if_pos (by rfl)]
  unfold Oper.wp
  go_simp
  refine wpAnyL_one (i := 16) (by kernel_rfl) (wpOp_of_if rfl ?_)
  rw [if_pos (by rfl)]
  unfold Oper.wp
  go_simp
  refine wpAnyL_done (by kernel_rfl) ?_ _
  exact HQ6.out _ _ _ _ _ _ _ _ _ _ _ _ _ _ _ _

end Go.Proofs.YtabkbicaignicabGreat
