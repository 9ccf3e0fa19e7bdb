/-
  The reference's PartText: its three drawn statements (a line of words, one of which is looked up in a list of words), each by itself.
-/
import Derived.Test.YthiknlnhdjoipaaGreatDoorScW
import Derived.Test.YthiknlnhdjoipaaGreatDoorRfW
import Derived.Test.YthiknlnhdjoipaaGreatDoorQQ
namespace Go.Proofs.YthiknlnhdjoipaaGreatDoor
open Go Go.RowKit
set_option linter.unusedVariables false

def regsOfL : Code → List Code
  | .region a b c => [.region a b c]
  | .loop c => regsOfL c
  | .seq a b => regsOfL a ++ regsOfL b
  | .block _ c => regsOfL c
  | .scope c => regsOfL c
  | .cond _ a b => regsOfL a ++ regsOfL b
  | _ => []

/-- what each operation has: the list of words, a word's address, else a value -/
def rtR (jf ji jb m n : Nat) (ws five : Array Value) (val : List Value) (j : Nat) (W : World) (u : Value) : Prop :=
  if j = jf then ∃ g, u = .slice (some ⟨g, 0, none⟩) n n ∧ W.heap[g]? = some (.cells ws 9 (0, 0))
  else if j = ji then ∃ g, u = .pointer (some ⟨g, m, none⟩) ∧ W.heap[g]? = some (.cells ws 9 (0, 0))
  else if j = jb then ∃ g, u = .slice (some ⟨g, 0, none⟩) 5 5 ∧ W.heap[g]? = some (.cells five 9 (0, 0))
  else u = val.getD j undef
theorem rtR_later {jf ji jb m n : Nat} {ws five : Array Value} {val : List Value} {W X : World} (hb : Below W.heap.size W X) (j : Nat) (u : Value) (h : rtR jf ji jb m n ws five val j W u) : rtR jf ji jb m n ws five val j X u := by
  unfold rtR at h ⊢
  by_cases h1 : j = jf
  · rw [if_pos h1] at h ⊢
    obtain ⟨g, e, hg⟩ := h
    exact ⟨g, e, (hb.block _ (Array.getElem?_eq_some_iff.1 hg).1).trans hg⟩
  · rw [if_neg h1] at h ⊢
    by_cases h2 : j = ji
    · rw [if_pos h2] at h ⊢
      obtain ⟨g, e, hg⟩ := h
      exact ⟨g, e, (hb.block _ (Array.getElem?_eq_some_iff.1 hg).1).trans hg⟩
    · rw [if_neg h2] at h ⊢
      by_cases h3 : j = jb
      · rw [if_pos h3] at h ⊢
        obtain ⟨g, e, hg⟩ := h
        exact ⟨g, e, (hb.block _ (Array.getElem?_eq_some_iff.1 hg).1).trans hg⟩
      · rw [if_neg h3] at h ⊢
        exact h

theorem fields_any (c : ByteArray) (fl : List ByteArray) (hfl : (Lib.fields (M.txt c)).map (fun l => (⟨l.toArray⟩ : ByteArray)) = fl) (hn : c.size < 1000) (hasc : ∀ x ∈ M.txt c, x.toNat < 128) (w : World) (hB : Blanks w) :
    Calls Tryz.prog 29 #[.string c] w fun e w' => e = .returned (.slice (some ⟨w.heap.size, 0, none⟩) fl.length fl.length) ∧ w' = w.alloc (.cells (fl.map Value.string).toArray 9) := by
  have hlen : (Lib.fields (M.txt c)).length = fl.length := by rw [← hfl, List.length_map]
  have hcell : ((Lib.fields (M.txt c)).map fun l => Value.string ⟨l.toArray⟩) = fl.map Value.string := by rw [← hfl, List.map_map]; rfl
  have := Any.strings_Fields_laid (P := Tryz.prog) (ρ := Tryz.laysM157_ren) Tryz.laysM157 c w (by omega) (fun j b hb => hasc b (List.mem_of_getElem? hb)) hB
  rw [show Lib.fields c.data.toList = Lib.fields (M.txt c) from rfl, hlen, hcell] at this
  exact this

set_option maxHeartbeats 4000000 in
set_option maxRecDepth 1000000 in
/-- the line of a fragment -/
theorem rt_r17 {z0 z1 z2 z5 z7 z10 z11 z12 z13 z14 z15 z16 z17 z18 z19 z20 z21 z22 z23 z24 z25 z26 z27 z28 z29 z30 z31 z32 z33 z34 z35 z36 z37 z38 z39 z40 z41 z42 z43 z44 z45 z46 z47 z48 z49 z50 z51 z52 z53 z54 z55 z56 z57 z58 z59 z60 z61 z62 z63 z64 z65 z66 z67 z68 z69 z70 z71 z72 z73 z74 z75 z76 z77 z78 z79 z80 z81 z82 z83 z84 z85 z86 z87 z88 z89 z90 z91 z92 z93 z94 z95 z96 z97 z98 z99 z100 z101 z102 z103 z104 z105 z106 z107 z108 z109 z110 z111 z112 z113 z114 z115 z116 z117 z118 z119 z120 z121 z122 z123 z124 z125 z126 z127 z128 z129 z130 z131 z132 z133 z134 z135 z136 z137 z138 z139 z140 z141 z142 z143 : Value} (w W : World) (b5 bb m n : Nat) (ws : Array Value) (cs : ByteArray) (T : M.Txt) (wd : ByteArray) (al : Int) (ai g go ht : ByteArray)
    (KF : Hid (∀ X, Below W.heap.size W X → Calls Tryz.prog 29 #[.string cs] X fun e w' => e = .returned (.slice (some ⟨X.heap.size, 0, none⟩) n n) ∧ w' = X.alloc (.cells ws 9))) (hcs : cs = ⟨#[45, 32, 99, 111, 100, 101, 32, 102, 105, 120, 101, 100, 32, 116, 101, 120, 116, 32, 100, 97, 116, 97, 32, 122, 101, 114, 111]⟩) (hw : ws[m]? = some (.string wd)) (hm0 : (0 : Int) ≤ (m : Int)) (hmn : (m : Int) < (n : Int)) (hc5 : W.cell? ⟨b5, 0, none⟩ = some (.string (M.str T))) (hl5 : b5 < W.heap.size) (hz5 : W.frozen? ⟨b5, 0, none⟩ = false)
    (K1 : Hid (∀ X, Below W.heap.size W X → Calls Tryz.prog 16 #[.int .i64 al] X fun e w' => e = .returned (.string ai) ∧ Below X.heap.size X w')) (K2 : Hid (∀ X, Below W.heap.size W X → Calls Tryz.prog 27 #[.string g] X fun e w' => e = .returned (.string go) ∧ Below X.heap.size X w')) (e0 : W.cell? ⟨bb, 0, none⟩ = some (.int .i64 (m : Nat))) (e1 : W.cell? ⟨bb, 1, none⟩ = some (.int .i64 al)) (e2 : W.cell? ⟨bb, 2, none⟩ = some (.string g)) (hlen : T.length + (M.line (([⟨#[102, 114, 97, 103]⟩, wd, ai, go, ht] : List ByteArray).map M.txt)).length ≤ 1000000) {Q0 : Exit → Act → World → Prop}
    (hexit : ∀ (y56 y57 y58 y59 y60 y61 y62 y63 y64 y65 y66 y67 y68 y69 y70 y71 y72 : Value) (X : World), Below W.heap.size W X → Q0 .normal ⟨List.toArray (z0 :: z1 :: z2 :: .func (.func (16 : Nat)) #[] #[] :: .func (.func (27 : Nat)) #[] #[] :: z5 :: .func (.func (28 : Nat)) #[] #[.pointer (some ⟨b5, 0, none⟩)] :: z7 :: .pointer (some ⟨bb, 0, none⟩) :: .string ht :: z10 :: z11 :: z12 :: z13 :: z14 :: z15 :: z16 :: z17 :: z18 :: z19 :: z20 :: z21 :: z22 :: z23 :: z24 :: z25 :: z26 :: z27 :: z28 :: z29 :: z30 :: z31 :: z32 :: z33 :: z34 :: z35 :: z36 :: z37 :: z38 :: z39 :: z40 :: z41 :: z42 :: z43 :: z44 :: z45 :: z46 :: z47 :: z48 :: z49 :: z50 :: z51 :: z52 :: z53 :: z54 :: z55 :: y56 :: y57 :: y58 :: y59 :: y60 :: y61 :: y62 :: y63 :: y64 :: y65 :: y66 :: y67 :: y68 :: y69 :: y70 :: y71 :: y72 :: z73 :: z74 :: z75 :: z76 :: z77 :: z78 :: z79 :: z80 :: z81 :: z82 :: z83 :: z84 :: z85 :: z86 :: z87 :: z88 :: z89 :: z90 :: z91 :: z92 :: z93 :: z94 :: z95 :: z96 :: z97 :: z98 :: z99 :: z100 :: z101 :: z102 :: z103 :: z104 :: z105 :: z106 :: z107 :: z108 :: z109 :: z110 :: z111 :: z112 :: z113 :: z114 :: z115 :: z116 :: z117 :: z118 :: z119 :: z120 :: z121 :: z122 :: z123 :: z124 :: z125 :: z126 :: z127 :: z128 :: z129 :: z130 :: z131 :: z132 :: z133 :: z134 :: z135 :: z136 :: z137 :: z138 :: z139 :: z140 :: z141 :: z142 :: z143 :: []), []⟩ (X.setCell ⟨b5, 0, none⟩ (.string (M.str (T ++ M.line (([⟨#[102, 114, 97, 103]⟩, wd, ai, go, ht] : List ByteArray).map M.txt)))))) :
    Code.wp Tryz.prog (((Tryz.f8.body.map regsOfL).getD [])[17]?.getD .skip : Code) Q0 ⟨List.toArray (z0 :: z1 :: z2 :: .func (.func (16 : Nat)) #[] #[] :: .func (.func (27 : Nat)) #[] #[] :: z5 :: .func (.func (28 : Nat)) #[] #[.pointer (some ⟨b5, 0, none⟩)] :: z7 :: .pointer (some ⟨bb, 0, none⟩) :: .string ht :: z10 :: z11 :: z12 :: z13 :: z14 :: z15 :: z16 :: z17 :: z18 :: z19 :: z20 :: z21 :: z22 :: z23 :: z24 :: z25 :: z26 :: z27 :: z28 :: z29 :: z30 :: z31 :: z32 :: z33 :: z34 :: z35 :: z36 :: z37 :: z38 :: z39 :: z40 :: z41 :: z42 :: z43 :: z44 :: z45 :: z46 :: z47 :: z48 :: z49 :: z50 :: z51 :: z52 :: z53 :: z54 :: z55 :: z56 :: z57 :: z58 :: z59 :: z60 :: z61 :: z62 :: z63 :: z64 :: z65 :: z66 :: z67 :: z68 :: z69 :: z70 :: z71 :: z72 :: z73 :: z74 :: z75 :: z76 :: z77 :: z78 :: z79 :: z80 :: z81 :: z82 :: z83 :: z84 :: z85 :: z86 :: z87 :: z88 :: z89 :: z90 :: z91 :: z92 :: z93 :: z94 :: z95 :: z96 :: z97 :: z98 :: z99 :: z100 :: z101 :: z102 :: z103 :: z104 :: z105 :: z106 :: z107 :: z108 :: z109 :: z110 :: z111 :: z112 :: z113 :: z114 :: z115 :: z116 :: z117 :: z118 :: z119 :: z120 :: z121 :: z122 :: z123 :: z124 :: z125 :: z126 :: z127 :: z128 :: z129 :: z130 :: z131 :: z132 :: z133 :: z134 :: z135 :: z136 :: z137 :: z138 :: z139 :: z140 :: z141 :: z142 :: z143 :: []), []⟩ W := by
  conv => arg 2; whnf
  refine wp_region_rel 16 (fun _ X => Below W.heap.size W X) (fun v => ⟨List.toArray (z0 :: z1 :: z2 :: .func (.func (16 : Nat)) #[] #[] :: .func (.func (27 : Nat)) #[] #[] :: z5 :: .func (.func (28 : Nat)) #[] #[.pointer (some ⟨b5, 0, none⟩)] :: z7 :: .pointer (some ⟨bb, 0, none⟩) :: .string ht :: z10 :: z11 :: z12 :: z13 :: z14 :: z15 :: z16 :: z17 :: z18 :: z19 :: z20 :: z21 :: z22 :: z23 :: z24 :: z25 :: z26 :: z27 :: z28 :: z29 :: z30 :: z31 :: z32 :: z33 :: z34 :: z35 :: z36 :: z37 :: z38 :: z39 :: z40 :: z41 :: z42 :: z43 :: z44 :: z45 :: z46 :: z47 :: z48 :: z49 :: z50 :: z51 :: z52 :: z53 :: z54 :: z55 :: v 0 :: v 1 :: v 2 :: v 3 :: v 4 :: v 5 :: v 6 :: v 7 :: v 8 :: v 9 :: v 10 :: v 11 :: v 12 :: v 13 :: v 14 :: v 15 :: z72 :: z73 :: z74 :: z75 :: z76 :: z77 :: z78 :: z79 :: z80 :: z81 :: z82 :: z83 :: z84 :: z85 :: z86 :: z87 :: z88 :: z89 :: z90 :: z91 :: z92 :: z93 :: z94 :: z95 :: z96 :: z97 :: z98 :: z99 :: z100 :: z101 :: z102 :: z103 :: z104 :: z105 :: z106 :: z107 :: z108 :: z109 :: z110 :: z111 :: z112 :: z113 :: z114 :: z115 :: z116 :: z117 :: z118 :: z119 :: z120 :: z121 :: z122 :: z123 :: z124 :: z125 :: z126 :: z127 :: z128 :: z129 :: z130 :: z131 :: z132 :: z133 :: z134 :: z135 :: z136 :: z137 :: z138 :: z139 :: z140 :: z141 :: z142 :: z143 :: []), []⟩) (rtR 1 4 15 m n ws #[.string (⟨#[102, 114, 97, 103]⟩), .string wd, .string ai, .string go, .string ht] [.func (.func (28 : Nat)) #[] #[.pointer (some ⟨b5, 0, none⟩)], .bool false, .pointer (some ⟨bb, 0, none⟩), .int .i64 (m : Nat), .bool false, .string wd, .func (.func (16 : Nat)) #[] #[], .pointer (some ⟨bb, 1, none⟩), .int .i64 al, .string ai, .func (.func (27 : Nat)) #[] #[], .pointer (some ⟨bb, 2, none⟩), .string g, .string go, .string ht, .bool false]) (fun _ _ _ _ => True) (by kernel_rfl) (by kernel_rfl) (Below.refl _ _).drew ⟨fun j => ([z56, z57, z58, z59, z60, z61, z62, z63, z64, z65, z66, z67, z68, z69, z70, z71] : List Value).getD j undef, rfl⟩ ?_ ?_
  · intro j op hj ho
    rcases (by omega : j = 0 ∨ j = 1 ∨ j = 2 ∨ j = 3 ∨ j = 4 ∨ j = 5 ∨ j = 6 ∨ j = 7 ∨ j = 8 ∨ j = 9 ∨ j = 10 ∨ j = 11 ∨ j = 12 ∨ j = 13 ∨ j = 14 ∨ j = 15) with rfl | rfl | rfl | rfl | rfl | rfl | rfl | rfl | rfl | rfl | rfl | rfl | rfl | rfl | rfl | rfl
    all_goals cases ho
    all_goals refine relStep_of rfl rfl ?_
    all_goals rintro sd v X hC hin hsd hdep hdz
    · exact wp_val (.func (.func (28 : Nat)) #[] #[.pointer (some ⟨b5, 0, none⟩)]) (by simp [execOp, Act.eval, go_sem]) ⟨_, rfl, hC, fun _ _ _ _ h => h, rfl, fun _ _ _ _ => ⟨trivial, trivial⟩⟩
    · refine wp_enter 29 #[.string cs] (by simp [Act.eval, go_sem, hcs]) ?_
      refine (KF.out X hC).mono ?_
      rintro e X2 ⟨rfl, rfl⟩
      have hb := (Below.refl X.heap.size X).alloc (Nat.le_refl _) (.cells ws 9)
      exact ⟨_, rfl, _, rfl, hC.trans (hb.mono hC.size), (fun k x _ _ => rtR_later hb k x), ⟨_, rfl, heap_alloc_new X _⟩, fun _ _ _ _ => ⟨trivial, trivial⟩⟩
    · exact wp_val (.pointer (some ⟨bb, 0, none⟩)) (by simp [execOp, Act.eval, go_sem]) ⟨_, rfl, hC, fun _ _ _ _ h => h, rfl, fun _ _ _ _ => ⟨trivial, trivial⟩⟩
    · have hv : v 2 = .pointer (some ⟨bb, 0, none⟩) := hdep ⟨2, .data⟩ (by simp) rfl
      have hk : X.cell? ⟨bb, 0, none⟩ = some (.int .i64 (m : Nat)) := cell_later hC e0
      exact wp_val (.int .i64 (m : Nat)) (by simp [execOp, Act.eval, go_sem, hv, hk]) ⟨_, rfl, hC, fun _ _ _ _ h => h, rfl, fun _ _ _ _ => ⟨trivial, trivial⟩⟩
    · obtain ⟨g, hv, hg⟩ : rtR 1 4 15 m n ws #[.string (⟨#[102, 114, 97, 103]⟩), .string wd, .string ai, .string go, .string ht] [.func (.func (28 : Nat)) #[] #[.pointer (some ⟨b5, 0, none⟩)], .bool false, .pointer (some ⟨bb, 0, none⟩), .int .i64 (m : Nat), .bool false, .string wd, .func (.func (16 : Nat)) #[] #[], .pointer (some ⟨bb, 1, none⟩), .int .i64 al, .string ai, .func (.func (27 : Nat)) #[] #[], .pointer (some ⟨bb, 2, none⟩), .string g, .string go, .string ht, .bool false] 1 X (v 1) := hdep ⟨1, .data⟩ (by simp) rfl
      have hi : v 3 = .int .i64 (m : Nat) := hdep ⟨3, .data⟩ (by simp) rfl
      exact wp_val (.pointer (some ⟨g, m, none⟩)) (by simp [execOp, Act.eval, go_sem, hv, hi, hm0, hmn]) ⟨_, rfl, hC, fun _ _ _ _ h => h, ⟨g, rfl, hg⟩, fun _ _ _ _ => ⟨trivial, trivial⟩⟩
    · obtain ⟨g, hv, hg⟩ : rtR 1 4 15 m n ws #[.string (⟨#[102, 114, 97, 103]⟩), .string wd, .string ai, .string go, .string ht] [.func (.func (28 : Nat)) #[] #[.pointer (some ⟨b5, 0, none⟩)], .bool false, .pointer (some ⟨bb, 0, none⟩), .int .i64 (m : Nat), .bool false, .string wd, .func (.func (16 : Nat)) #[] #[], .pointer (some ⟨bb, 1, none⟩), .int .i64 al, .string ai, .func (.func (27 : Nat)) #[] #[], .pointer (some ⟨bb, 2, none⟩), .string g, .string go, .string ht, .bool false] 4 X (v 4) := hdep ⟨4, .data⟩ (by simp) rfl
      have hk : X.cell? ⟨g, m, none⟩ = some (.string wd) := (cellB hg m).trans hw
      exact wp_val (.string wd) (by simp [execOp, Act.eval, go_sem, hv, hk]) ⟨_, rfl, hC, fun _ _ _ _ h => h, rfl, fun _ _ _ _ => ⟨trivial, trivial⟩⟩
    · exact wp_val (.func (.func (16 : Nat)) #[] #[]) (by simp [execOp, Act.eval, go_sem]) ⟨_, rfl, hC, fun _ _ _ _ h => h, rfl, fun _ _ _ _ => ⟨trivial, trivial⟩⟩
    · exact wp_val (.pointer (some ⟨bb, 1, none⟩)) (by simp [execOp, Act.eval, go_sem]) ⟨_, rfl, hC, fun _ _ _ _ h => h, rfl, fun _ _ _ _ => ⟨trivial, trivial⟩⟩
    · have hv : v 7 = .pointer (some ⟨bb, 1, none⟩) := hdep ⟨7, .data⟩ (by simp) rfl
      have hk : X.cell? ⟨bb, 1, none⟩ = some (.int .i64 al) := cell_later hC e1
      exact wp_val (.int .i64 al) (by simp [execOp, Act.eval, go_sem, hv, hk]) ⟨_, rfl, hC, fun _ _ _ _ h => h, rfl, fun _ _ _ _ => ⟨trivial, trivial⟩⟩
    · have hf : v 6 = .func (.func (16 : Nat)) #[] #[] := hdep ⟨6, .data⟩ (by simp) rfl
      have ha : v 8 = .int .i64 al := hdep ⟨8, .data⟩ (by simp) rfl
      refine wp_enter 16 #[.int .i64 al] (by simp [Act.eval, go_sem, hf, ha]) ?_
      refine (K1.out X hC).mono ?_
      rintro e X2 ⟨rfl, hb⟩
      exact ⟨_, rfl, _, rfl, hC.trans (hb.mono hC.size), (fun k x _ _ => rtR_later hb k x), rfl, fun _ _ _ _ => ⟨trivial, trivial⟩⟩
    · exact wp_val (.func (.func (27 : Nat)) #[] #[]) (by simp [execOp, Act.eval, go_sem]) ⟨_, rfl, hC, fun _ _ _ _ h => h, rfl, fun _ _ _ _ => ⟨trivial, trivial⟩⟩
    · exact wp_val (.pointer (some ⟨bb, 2, none⟩)) (by simp [execOp, Act.eval, go_sem]) ⟨_, rfl, hC, fun _ _ _ _ h => h, rfl, fun _ _ _ _ => ⟨trivial, trivial⟩⟩
    · have hv : v 11 = .pointer (some ⟨bb, 2, none⟩) := hdep ⟨11, .data⟩ (by simp) rfl
      have hk : X.cell? ⟨bb, 2, none⟩ = some (.string g) := cell_later hC e2
      exact wp_val (.string g) (by simp [execOp, Act.eval, go_sem, hv, hk]) ⟨_, rfl, hC, fun _ _ _ _ h => h, rfl, fun _ _ _ _ => ⟨trivial, trivial⟩⟩
    · have hf : v 10 = .func (.func (27 : Nat)) #[] #[] := hdep ⟨10, .data⟩ (by simp) rfl
      have ha : v 12 = .string g := hdep ⟨12, .data⟩ (by simp) rfl
      refine wp_enter 27 #[.string g] (by simp [Act.eval, go_sem, hf, ha]) ?_
      refine (K2.out X hC).mono ?_
      rintro e X2 ⟨rfl, hb⟩
      exact ⟨_, rfl, _, rfl, hC.trans (hb.mono hC.size), (fun k x _ _ => rtR_later hb k x), rfl, fun _ _ _ _ => ⟨trivial, trivial⟩⟩
    · exact wp_val (.string ht) (by simp [execOp, Act.eval, go_sem]) ⟨_, rfl, hC, fun _ _ _ _ h => h, rfl, fun _ _ _ _ => ⟨trivial, trivial⟩⟩
    · have h5 : v 5 = .string wd := hdep ⟨5, .data⟩ (by simp) rfl
      have h9 : v 9 = .string ai := hdep ⟨9, .data⟩ (by simp) rfl
      have h13 : v 13 = .string go := hdep ⟨13, .data⟩ (by simp) rfl
      have h14 : v 14 = .string ht := hdep ⟨14, .data⟩ (by simp) rfl
      have hb := (Below.refl X.heap.size X).alloc (Nat.le_refl _) (.cells #[.string (⟨#[102, 114, 97, 103]⟩), .string wd, .string ai, .string go, .string ht] 9)
      exact wp_valW (.slice (some ⟨X.heap.size, 0, none⟩) 5 5) (X.alloc (.cells #[.string (⟨#[102, 114, 97, 103]⟩), .string wd, .string ai, .string go, .string ht] 9)) (by simp [execOp, Act.eval, go_sem, h5, h9, h13, h14]) ⟨_, rfl, hC.trans (hb.mono hC.size), (fun k x _ _ => rtR_later hb k x), ⟨_, rfl, heap_alloc_new X _⟩, fun _ _ _ _ => ⟨trivial, trivial⟩⟩
  · rintro sd v X hC hR hZ
    have h0 : v 0 = .func (.func (28 : Nat)) #[] #[.pointer (some ⟨b5, 0, none⟩)] := hR 0 (by decide)
    obtain ⟨g, hv, hg⟩ : rtR 1 4 15 m n ws #[.string (⟨#[102, 114, 97, 103]⟩), .string wd, .string ai, .string go, .string ht] [.func (.func (28 : Nat)) #[] #[.pointer (some ⟨b5, 0, none⟩)], .bool false, .pointer (some ⟨bb, 0, none⟩), .int .i64 (m : Nat), .bool false, .string wd, .func (.func (16 : Nat)) #[] #[], .pointer (some ⟨bb, 1, none⟩), .int .i64 al, .string ai, .func (.func (27 : Nat)) #[] #[], .pointer (some ⟨bb, 2, none⟩), .string g, .string go, .string ht, .bool false] 15 X (v 15) := hR 15 (by decide)
    have hT : X.cell? ⟨b5, 0, none⟩ = some (.string (M.str T)) := cell_later hC hc5
    have hz : X.frozen? ⟨b5, 0, none⟩ = false := (hC.frozen (p := ⟨b5, 0, none⟩) hl5).trans hz5
    have KL := refLine_any b5 g 0 5 T [⟨#[102, 114, 97, 103]⟩, wd, ai, go, ht] X hT hz (fun j x hj => by
      match j, hj with
      | 0, hj | 1, hj | 2, hj | 3, hj | 4, hj => simp at hj; subst hj; exact cellB hg _
      | j + 5, hj => simp at hj) (Array.getElem?_eq_some_iff.1 hg).1 (by simp) (by simp) hlen
    have HL : Hid _ := KL
    have HX : Hid (∀ Y, Below X.heap.size X Y → Below W.heap.size W Y) := fun Y hY => hC.trans (hY.mono hC.size)
    clear KL hT hz hR hZ hg
    simp only [List.drop_succ_cons, List.drop_zero, h0, hv]
    clear h0 hv
    generalize v 1 = t1
    generalize v 2 = t2
    generalize v 3 = t3
    generalize v 4 = t4
    generalize v 5 = t5
    generalize v 6 = t6
    generalize v 7 = t7
    generalize v 8 = t8
    generalize v 9 = t9
    generalize v 10 = t10
    generalize v 11 = t11
    generalize v 12 = t12
    generalize v 13 = t13
    generalize v 14 = t14
    go_wp2_with (go_at_call 28; refine Calls.mono HL.out ?_; rintro e X3 ⟨rfl, X4, hb4, rfl⟩)
    exact HX.out _ hb4

set_option maxHeartbeats 4000000 in
set_option maxRecDepth 1000000 in
/-- the line of a place -/
theorem rt_r24 {z0 z1 z2 z4 z5 z7 z8 z9 z10 z11 z12 z15 z16 z17 z18 z19 z20 z21 z22 z23 z24 z25 z26 z27 z28 z29 z30 z31 z32 z33 z34 z35 z36 z37 z38 z39 z40 z41 z42 z43 z44 z45 z46 z47 z48 z49 z50 z51 z52 z53 z54 z55 z56 z57 z58 z59 z60 z61 z62 z63 z64 z65 z66 z67 z68 z69 z70 z71 z72 z73 z74 z75 z76 z77 z78 z79 z80 z81 z82 z83 z84 z85 z86 z87 z88 z89 z90 z91 z92 z93 z94 z95 z96 z97 z98 z99 z100 z101 z102 z103 z104 z105 z106 z107 z108 z109 z110 z111 z112 z113 z114 z115 z116 z117 z118 z119 z120 z121 z122 z123 z124 z125 z126 z127 z128 z129 z130 z131 z132 z133 z134 z135 z136 z137 z138 z139 z140 z141 z142 z143 : Value} (w W : World) (b5 bb m n : Nat) (ws : Array Value) (cs : ByteArray) (T : M.Txt) (wd : ByteArray) (pos add : Int) (pi tw ai : ByteArray)
    (KF : Hid (∀ X, Below W.heap.size W X → Calls Tryz.prog 29 #[.string cs] X fun e w' => e = .returned (.slice (some ⟨X.heap.size, 0, none⟩) n n) ∧ w' = X.alloc (.cells ws 9))) (hcs : cs = ⟨#[45, 32, 97, 98, 115, 49, 32, 97, 98, 115, 50, 32, 114, 101, 108, 49, 32, 114, 101, 108, 50]⟩) (hw : ws[m]? = some (.string wd)) (hm0 : (0 : Int) ≤ (m : Int)) (hmn : (m : Int) < (n : Int)) (hc5 : W.cell? ⟨b5, 0, none⟩ = some (.string (M.str T))) (hl5 : b5 < W.heap.size) (hz5 : W.frozen? ⟨b5, 0, none⟩ = false)
    (K1 : Hid (∀ X, Below W.heap.size W X → Calls Tryz.prog 16 #[.int .i64 pos] X fun e w' => e = .returned (.string pi) ∧ Below X.heap.size X w')) (K2 : Hid (∀ X, Below W.heap.size W X → Calls Tryz.prog 16 #[.int .i64 add] X fun e w' => e = .returned (.string ai) ∧ Below X.heap.size X w')) (e0 : W.cell? ⟨bb, 0, none⟩ = some (.int .i64 pos)) (e1 : W.cell? ⟨bb, 1, none⟩ = some (.int .i64 (m : Nat))) (e4 : W.cell? ⟨bb, 4, none⟩ = some (.int .i64 add)) (hlen : T.length + (M.line (([⟨#[97, 116]⟩, pi, wd, tw, ai] : List ByteArray).map M.txt)).length ≤ 1000000) {Q0 : Exit → Act → World → Prop}
    (hexit : ∀ (y89 y90 y91 y92 y93 y94 y95 y96 y97 y98 y99 y100 y101 y102 y103 y104 y105 : Value) (X : World), Below W.heap.size W X → Q0 .normal ⟨List.toArray (z0 :: z1 :: z2 :: .func (.func (16 : Nat)) #[] #[] :: z4 :: z5 :: .func (.func (28 : Nat)) #[] #[.pointer (some ⟨b5, 0, none⟩)] :: z7 :: z8 :: z9 :: z10 :: z11 :: z12 :: .pointer (some ⟨bb, 0, none⟩) :: .string tw :: z15 :: z16 :: z17 :: z18 :: z19 :: z20 :: z21 :: z22 :: z23 :: z24 :: z25 :: z26 :: z27 :: z28 :: z29 :: z30 :: z31 :: z32 :: z33 :: z34 :: z35 :: z36 :: z37 :: z38 :: z39 :: z40 :: z41 :: z42 :: z43 :: z44 :: z45 :: z46 :: z47 :: z48 :: z49 :: z50 :: z51 :: z52 :: z53 :: z54 :: z55 :: z56 :: z57 :: z58 :: z59 :: z60 :: z61 :: z62 :: z63 :: z64 :: z65 :: z66 :: z67 :: z68 :: z69 :: z70 :: z71 :: z72 :: z73 :: z74 :: z75 :: z76 :: z77 :: z78 :: z79 :: z80 :: z81 :: z82 :: z83 :: z84 :: z85 :: z86 :: z87 :: z88 :: y89 :: y90 :: y91 :: y92 :: y93 :: y94 :: y95 :: y96 :: y97 :: y98 :: y99 :: y100 :: y101 :: y102 :: y103 :: y104 :: y105 :: z106 :: z107 :: z108 :: z109 :: z110 :: z111 :: z112 :: z113 :: z114 :: z115 :: z116 :: z117 :: z118 :: z119 :: z120 :: z121 :: z122 :: z123 :: z124 :: z125 :: z126 :: z127 :: z128 :: z129 :: z130 :: z131 :: z132 :: z133 :: z134 :: z135 :: z136 :: z137 :: z138 :: z139 :: z140 :: z141 :: z142 :: z143 :: []), []⟩ (X.setCell ⟨b5, 0, none⟩ (.string (M.str (T ++ M.line (([⟨#[97, 116]⟩, pi, wd, tw, ai] : List ByteArray).map M.txt)))))) :
    Code.wp Tryz.prog (((Tryz.f8.body.map regsOfL).getD [])[24]?.getD .skip : Code) Q0 ⟨List.toArray (z0 :: z1 :: z2 :: .func (.func (16 : Nat)) #[] #[] :: z4 :: z5 :: .func (.func (28 : Nat)) #[] #[.pointer (some ⟨b5, 0, none⟩)] :: z7 :: z8 :: z9 :: z10 :: z11 :: z12 :: .pointer (some ⟨bb, 0, none⟩) :: .string tw :: z15 :: z16 :: z17 :: z18 :: z19 :: z20 :: z21 :: z22 :: z23 :: z24 :: z25 :: z26 :: z27 :: z28 :: z29 :: z30 :: z31 :: z32 :: z33 :: z34 :: z35 :: z36 :: z37 :: z38 :: z39 :: z40 :: z41 :: z42 :: z43 :: z44 :: z45 :: z46 :: z47 :: z48 :: z49 :: z50 :: z51 :: z52 :: z53 :: z54 :: z55 :: z56 :: z57 :: z58 :: z59 :: z60 :: z61 :: z62 :: z63 :: z64 :: z65 :: z66 :: z67 :: z68 :: z69 :: z70 :: z71 :: z72 :: z73 :: z74 :: z75 :: z76 :: z77 :: z78 :: z79 :: z80 :: z81 :: z82 :: z83 :: z84 :: z85 :: z86 :: z87 :: z88 :: z89 :: z90 :: z91 :: z92 :: z93 :: z94 :: z95 :: z96 :: z97 :: z98 :: z99 :: z100 :: z101 :: z102 :: z103 :: z104 :: z105 :: z106 :: z107 :: z108 :: z109 :: z110 :: z111 :: z112 :: z113 :: z114 :: z115 :: z116 :: z117 :: z118 :: z119 :: z120 :: z121 :: z122 :: z123 :: z124 :: z125 :: z126 :: z127 :: z128 :: z129 :: z130 :: z131 :: z132 :: z133 :: z134 :: z135 :: z136 :: z137 :: z138 :: z139 :: z140 :: z141 :: z142 :: z143 :: []), []⟩ W := by
  conv => arg 2; whnf
  refine wp_region_rel 16 (fun _ X => Below W.heap.size W X) (fun v => ⟨List.toArray (z0 :: z1 :: z2 :: .func (.func (16 : Nat)) #[] #[] :: z4 :: z5 :: .func (.func (28 : Nat)) #[] #[.pointer (some ⟨b5, 0, none⟩)] :: z7 :: z8 :: z9 :: z10 :: z11 :: z12 :: .pointer (some ⟨bb, 0, none⟩) :: .string tw :: z15 :: z16 :: z17 :: z18 :: z19 :: z20 :: z21 :: z22 :: z23 :: z24 :: z25 :: z26 :: z27 :: z28 :: z29 :: z30 :: z31 :: z32 :: z33 :: z34 :: z35 :: z36 :: z37 :: z38 :: z39 :: z40 :: z41 :: z42 :: z43 :: z44 :: z45 :: z46 :: z47 :: z48 :: z49 :: z50 :: z51 :: z52 :: z53 :: z54 :: z55 :: z56 :: z57 :: z58 :: z59 :: z60 :: z61 :: z62 :: z63 :: z64 :: z65 :: z66 :: z67 :: z68 :: z69 :: z70 :: z71 :: z72 :: z73 :: z74 :: z75 :: z76 :: z77 :: z78 :: z79 :: z80 :: z81 :: z82 :: z83 :: z84 :: z85 :: z86 :: z87 :: z88 :: v 0 :: v 1 :: v 2 :: v 3 :: v 4 :: v 5 :: v 6 :: v 7 :: v 8 :: v 9 :: v 10 :: v 11 :: v 12 :: v 13 :: v 14 :: v 15 :: z105 :: z106 :: z107 :: z108 :: z109 :: z110 :: z111 :: z112 :: z113 :: z114 :: z115 :: z116 :: z117 :: z118 :: z119 :: z120 :: z121 :: z122 :: z123 :: z124 :: z125 :: z126 :: z127 :: z128 :: z129 :: z130 :: z131 :: z132 :: z133 :: z134 :: z135 :: z136 :: z137 :: z138 :: z139 :: z140 :: z141 :: z142 :: z143 :: []), []⟩) (rtR 5 8 15 m n ws #[.string (⟨#[97, 116]⟩), .string pi, .string wd, .string tw, .string ai] [.func (.func (28 : Nat)) #[] #[.pointer (some ⟨b5, 0, none⟩)], .func (.func (16 : Nat)) #[] #[], .pointer (some ⟨bb, 0, none⟩), .int .i64 pos, .string pi, .bool false, .pointer (some ⟨bb, 1, none⟩), .int .i64 (m : Nat), .bool false, .string wd, .string tw, .func (.func (16 : Nat)) #[] #[], .pointer (some ⟨bb, 4, none⟩), .int .i64 add, .string ai, .bool false]) (fun _ _ _ _ => True) (by kernel_rfl) (by kernel_rfl) (Below.refl _ _).drew ⟨fun j => ([z89, z90, z91, z92, z93, z94, z95, z96, z97, z98, z99, z100, z101, z102, z103, z104] : List Value).getD j undef, rfl⟩ ?_ ?_
  · intro j op hj ho
    rcases (by omega : j = 0 ∨ j = 1 ∨ j = 2 ∨ j = 3 ∨ j = 4 ∨ j = 5 ∨ j = 6 ∨ j = 7 ∨ j = 8 ∨ j = 9 ∨ j = 10 ∨ j = 11 ∨ j = 12 ∨ j = 13 ∨ j = 14 ∨ j = 15) with rfl | rfl | rfl | rfl | rfl | rfl | rfl | rfl | rfl | rfl | rfl | rfl | rfl | rfl | rfl | rfl
    all_goals cases ho
    all_goals refine relStep_of rfl rfl ?_
    all_goals rintro sd v X hC hin hsd hdep hdz
    · exact wp_val (.func (.func (28 : Nat)) #[] #[.pointer (some ⟨b5, 0, none⟩)]) (by simp [execOp, Act.eval, go_sem]) ⟨_, rfl, hC, fun _ _ _ _ h => h, rfl, fun _ _ _ _ => ⟨trivial, trivial⟩⟩
    · exact wp_val (.func (.func (16 : Nat)) #[] #[]) (by simp [execOp, Act.eval, go_sem]) ⟨_, rfl, hC, fun _ _ _ _ h => h, rfl, fun _ _ _ _ => ⟨trivial, trivial⟩⟩
    · exact wp_val (.pointer (some ⟨bb, 0, none⟩)) (by simp [execOp, Act.eval, go_sem]) ⟨_, rfl, hC, fun _ _ _ _ h => h, rfl, fun _ _ _ _ => ⟨trivial, trivial⟩⟩
    · have hv : v 2 = .pointer (some ⟨bb, 0, none⟩) := hdep ⟨2, .data⟩ (by simp) rfl
      have hk : X.cell? ⟨bb, 0, none⟩ = some (.int .i64 pos) := cell_later hC e0
      exact wp_val (.int .i64 pos) (by simp [execOp, Act.eval, go_sem, hv, hk]) ⟨_, rfl, hC, fun _ _ _ _ h => h, rfl, fun _ _ _ _ => ⟨trivial, trivial⟩⟩
    · have hf : v 1 = .func (.func (16 : Nat)) #[] #[] := hdep ⟨1, .data⟩ (by simp) rfl
      have ha : v 3 = .int .i64 pos := hdep ⟨3, .data⟩ (by simp) rfl
      refine wp_enter 16 #[.int .i64 pos] (by simp [Act.eval, go_sem, hf, ha]) ?_
      refine (K1.out X hC).mono ?_
      rintro e X2 ⟨rfl, hb⟩
      exact ⟨_, rfl, _, rfl, hC.trans (hb.mono hC.size), (fun k x _ _ => rtR_later hb k x), rfl, fun _ _ _ _ => ⟨trivial, trivial⟩⟩
    · refine wp_enter 29 #[.string cs] (by simp [Act.eval, go_sem, hcs]) ?_
      refine (KF.out X hC).mono ?_
      rintro e X2 ⟨rfl, rfl⟩
      have hb := (Below.refl X.heap.size X).alloc (Nat.le_refl _) (.cells ws 9)
      exact ⟨_, rfl, _, rfl, hC.trans (hb.mono hC.size), (fun k x _ _ => rtR_later hb k x), ⟨_, rfl, heap_alloc_new X _⟩, fun _ _ _ _ => ⟨trivial, trivial⟩⟩
    · exact wp_val (.pointer (some ⟨bb, 1, none⟩)) (by simp [execOp, Act.eval, go_sem]) ⟨_, rfl, hC, fun _ _ _ _ h => h, rfl, fun _ _ _ _ => ⟨trivial, trivial⟩⟩
    · have hv : v 6 = .pointer (some ⟨bb, 1, none⟩) := hdep ⟨6, .data⟩ (by simp) rfl
      have hk : X.cell? ⟨bb, 1, none⟩ = some (.int .i64 (m : Nat)) := cell_later hC e1
      exact wp_val (.int .i64 (m : Nat)) (by simp [execOp, Act.eval, go_sem, hv, hk]) ⟨_, rfl, hC, fun _ _ _ _ h => h, rfl, fun _ _ _ _ => ⟨trivial, trivial⟩⟩
    · obtain ⟨g, hv, hg⟩ : rtR 5 8 15 m n ws #[.string (⟨#[97, 116]⟩), .string pi, .string wd, .string tw, .string ai] [.func (.func (28 : Nat)) #[] #[.pointer (some ⟨b5, 0, none⟩)], .func (.func (16 : Nat)) #[] #[], .pointer (some ⟨bb, 0, none⟩), .int .i64 pos, .string pi, .bool false, .pointer (some ⟨bb, 1, none⟩), .int .i64 (m : Nat), .bool false, .string wd, .string tw, .func (.func (16 : Nat)) #[] #[], .pointer (some ⟨bb, 4, none⟩), .int .i64 add, .string ai, .bool false] 5 X (v 5) := hdep ⟨5, .data⟩ (by simp) rfl
      have hi : v 7 = .int .i64 (m : Nat) := hdep ⟨7, .data⟩ (by simp) rfl
      exact wp_val (.pointer (some ⟨g, m, none⟩)) (by simp [execOp, Act.eval, go_sem, hv, hi, hm0, hmn]) ⟨_, rfl, hC, fun _ _ _ _ h => h, ⟨g, rfl, hg⟩, fun _ _ _ _ => ⟨trivial, trivial⟩⟩
    · obtain ⟨g, hv, hg⟩ : rtR 5 8 15 m n ws #[.string (⟨#[97, 116]⟩), .string pi, .string wd, .string tw, .string ai] [.func (.func (28 : Nat)) #[] #[.pointer (some ⟨b5, 0, none⟩)], .func (.func (16 : Nat)) #[] #[], .pointer (some ⟨bb, 0, none⟩), .int .i64 pos, .string pi, .bool false, .pointer (some ⟨bb, 1, none⟩), .int .i64 (m : Nat), .bool false, .string wd, .string tw, .func (.func (16 : Nat)) #[] #[], .pointer (some ⟨bb, 4, none⟩), .int .i64 add, .string ai, .bool false] 8 X (v 8) := hdep ⟨8, .data⟩ (by simp) rfl
      have hk : X.cell? ⟨g, m, none⟩ = some (.string wd) := (cellB hg m).trans hw
      exact wp_val (.string wd) (by simp [execOp, Act.eval, go_sem, hv, hk]) ⟨_, rfl, hC, fun _ _ _ _ h => h, rfl, fun _ _ _ _ => ⟨trivial, trivial⟩⟩
    · exact wp_val (.string tw) (by simp [execOp, Act.eval, go_sem]) ⟨_, rfl, hC, fun _ _ _ _ h => h, rfl, fun _ _ _ _ => ⟨trivial, trivial⟩⟩
    · exact wp_val (.func (.func (16 : Nat)) #[] #[]) (by simp [execOp, Act.eval, go_sem]) ⟨_, rfl, hC, fun _ _ _ _ h => h, rfl, fun _ _ _ _ => ⟨trivial, trivial⟩⟩
    · exact wp_val (.pointer (some ⟨bb, 4, none⟩)) (by simp [execOp, Act.eval, go_sem]) ⟨_, rfl, hC, fun _ _ _ _ h => h, rfl, fun _ _ _ _ => ⟨trivial, trivial⟩⟩
    · have hv : v 12 = .pointer (some ⟨bb, 4, none⟩) := hdep ⟨12, .data⟩ (by simp) rfl
      have hk : X.cell? ⟨bb, 4, none⟩ = some (.int .i64 add) := cell_later hC e4
      exact wp_val (.int .i64 add) (by simp [execOp, Act.eval, go_sem, hv, hk]) ⟨_, rfl, hC, fun _ _ _ _ h => h, rfl, fun _ _ _ _ => ⟨trivial, trivial⟩⟩
    · have hf : v 11 = .func (.func (16 : Nat)) #[] #[] := hdep ⟨11, .data⟩ (by simp) rfl
      have ha : v 13 = .int .i64 add := hdep ⟨13, .data⟩ (by simp) rfl
      refine wp_enter 16 #[.int .i64 add] (by simp [Act.eval, go_sem, hf, ha]) ?_
      refine (K2.out X hC).mono ?_
      rintro e X2 ⟨rfl, hb⟩
      exact ⟨_, rfl, _, rfl, hC.trans (hb.mono hC.size), (fun k x _ _ => rtR_later hb k x), rfl, fun _ _ _ _ => ⟨trivial, trivial⟩⟩
    · have h4 : v 4 = .string pi := hdep ⟨4, .data⟩ (by simp) rfl
      have h9 : v 9 = .string wd := hdep ⟨9, .data⟩ (by simp) rfl
      have h10 : v 10 = .string tw := hdep ⟨10, .data⟩ (by simp) rfl
      have h14 : v 14 = .string ai := hdep ⟨14, .data⟩ (by simp) rfl
      have hb := (Below.refl X.heap.size X).alloc (Nat.le_refl _) (.cells #[.string (⟨#[97, 116]⟩), .string pi, .string wd, .string tw, .string ai] 9)
      exact wp_valW (.slice (some ⟨X.heap.size, 0, none⟩) 5 5) (X.alloc (.cells #[.string (⟨#[97, 116]⟩), .string pi, .string wd, .string tw, .string ai] 9)) (by simp [execOp, Act.eval, go_sem, h4, h9, h10, h14]) ⟨_, rfl, hC.trans (hb.mono hC.size), (fun k x _ _ => rtR_later hb k x), ⟨_, rfl, heap_alloc_new X _⟩, fun _ _ _ _ => ⟨trivial, trivial⟩⟩
  · rintro sd v X hC hR hZ
    have h0 : v 0 = .func (.func (28 : Nat)) #[] #[.pointer (some ⟨b5, 0, none⟩)] := hR 0 (by decide)
    obtain ⟨g, hv, hg⟩ : rtR 5 8 15 m n ws #[.string (⟨#[97, 116]⟩), .string pi, .string wd, .string tw, .string ai] [.func (.func (28 : Nat)) #[] #[.pointer (some ⟨b5, 0, none⟩)], .func (.func (16 : Nat)) #[] #[], .pointer (some ⟨bb, 0, none⟩), .int .i64 pos, .string pi, .bool false, .pointer (some ⟨bb, 1, none⟩), .int .i64 (m : Nat), .bool false, .string wd, .string tw, .func (.func (16 : Nat)) #[] #[], .pointer (some ⟨bb, 4, none⟩), .int .i64 add, .string ai, .bool false] 15 X (v 15) := hR 15 (by decide)
    have hT : X.cell? ⟨b5, 0, none⟩ = some (.string (M.str T)) := cell_later hC hc5
    have hz : X.frozen? ⟨b5, 0, none⟩ = false := (hC.frozen (p := ⟨b5, 0, none⟩) hl5).trans hz5
    have KL := refLine_any b5 g 0 5 T [⟨#[97, 116]⟩, pi, wd, tw, ai] X hT hz (fun j x hj => by
      match j, hj with
      | 0, hj | 1, hj | 2, hj | 3, hj | 4, hj => simp at hj; subst hj; exact cellB hg _
      | j + 5, hj => simp at hj) (Array.getElem?_eq_some_iff.1 hg).1 (by simp) (by simp) hlen
    have HL : Hid _ := KL
    have HX : Hid (∀ Y, Below X.heap.size X Y → Below W.heap.size W Y) := fun Y hY => hC.trans (hY.mono hC.size)
    clear KL hT hz hR hZ hg
    simp only [List.drop_succ_cons, List.drop_zero, h0, hv]
    clear h0 hv
    generalize v 1 = t1
    generalize v 2 = t2
    generalize v 3 = t3
    generalize v 4 = t4
    generalize v 5 = t5
    generalize v 6 = t6
    generalize v 7 = t7
    generalize v 8 = t8
    generalize v 9 = t9
    generalize v 10 = t10
    generalize v 11 = t11
    generalize v 12 = t12
    generalize v 13 = t13
    generalize v 14 = t14
    go_wp2_with (go_at_call 28; refine Calls.mono HL.out ?_; rintro e X3 ⟨rfl, X4, hb4, rfl⟩)
    exact HX.out _ hb4

set_option maxHeartbeats 4000000 in
set_option maxRecDepth 1000000 in
/-- the line of a name -/
theorem rt_r33 {z0 z1 z2 z4 z5 z7 z8 z9 z10 z11 z12 z13 z14 z15 z19 z20 z21 z22 z23 z24 z25 z26 z27 z28 z29 z30 z31 z32 z33 z34 z35 z36 z37 z38 z39 z40 z41 z42 z43 z44 z45 z46 z47 z48 z49 z50 z51 z52 z53 z54 z55 z56 z57 z58 z59 z60 z61 z62 z63 z64 z65 z66 z67 z68 z69 z70 z71 z72 z73 z74 z75 z76 z77 z78 z79 z80 z81 z82 z83 z84 z85 z86 z87 z88 z89 z90 z91 z92 z93 z94 z95 z96 z97 z98 z99 z100 z101 z102 z103 z104 z105 z106 z107 z108 z109 z110 z111 z112 z113 z114 z115 z116 z117 z118 z119 z120 z121 z122 z123 z124 z125 z126 z127 z128 z129 z130 z131 z132 z133 z134 z135 z136 z137 z138 z139 z140 z141 z142 z143 : Value} (w W : World) (b5 bb m n : Nat) (ws : Array Value) (cs : ByteArray) (T : M.Txt) (wd : ByteArray) (a1 a2 : Int) (nm fi si : ByteArray)
    (KF : Hid (∀ X, Below W.heap.size W X → Calls Tryz.prog 29 #[.string cs] X fun e w' => e = .returned (.slice (some ⟨X.heap.size, 0, none⟩) n n) ∧ w' = X.alloc (.cells ws 9))) (hcs : cs = ⟨#[45, 32, 115, 116, 114, 111, 110, 103, 32, 119, 101, 97, 107, 32, 99, 111, 109, 109, 111, 110]⟩) (hw : ws[m]? = some (.string wd)) (hm0 : (0 : Int) ≤ (m : Int)) (hmn : (m : Int) < (n : Int)) (hc5 : W.cell? ⟨b5, 0, none⟩ = some (.string (M.str T))) (hl5 : b5 < W.heap.size) (hz5 : W.frozen? ⟨b5, 0, none⟩ = false)
    (K1 : Hid (∀ X, Below W.heap.size W X → Calls Tryz.prog 16 #[.int .i64 a1] X fun e w' => e = .returned (.string fi) ∧ Below X.heap.size X w')) (K2 : Hid (∀ X, Below W.heap.size W X → Calls Tryz.prog 16 #[.int .i64 a2] X fun e w' => e = .returned (.string si) ∧ Below X.heap.size X w')) (e0 : W.cell? ⟨bb, 0, none⟩ = some (.string nm)) (e1 : W.cell? ⟨bb, 1, none⟩ = some (.int .i64 (m : Nat))) (hlen : T.length + (M.line (([⟨#[100, 101, 102]⟩, nm, wd, fi, si] : List ByteArray).map M.txt)).length ≤ 1000000) {Q0 : Exit → Act → World → Prop}
    (hexit : ∀ (y126 y127 y128 y129 y130 y131 y132 y133 y134 y135 y136 y137 y138 y139 y140 y141 : Value) (X : World), Below W.heap.size W X → Q0 .normal ⟨List.toArray (z0 :: z1 :: z2 :: .func (.func (16 : Nat)) #[] #[] :: z4 :: z5 :: .func (.func (28 : Nat)) #[] #[.pointer (some ⟨b5, 0, none⟩)] :: z7 :: z8 :: z9 :: z10 :: z11 :: z12 :: z13 :: z14 :: z15 :: .pointer (some ⟨bb, 0, none⟩) :: .int .i64 a1 :: .int .i64 a2 :: z19 :: z20 :: z21 :: z22 :: z23 :: z24 :: z25 :: z26 :: z27 :: z28 :: z29 :: z30 :: z31 :: z32 :: z33 :: z34 :: z35 :: z36 :: z37 :: z38 :: z39 :: z40 :: z41 :: z42 :: z43 :: z44 :: z45 :: z46 :: z47 :: z48 :: z49 :: z50 :: z51 :: z52 :: z53 :: z54 :: z55 :: z56 :: z57 :: z58 :: z59 :: z60 :: z61 :: z62 :: z63 :: z64 :: z65 :: z66 :: z67 :: z68 :: z69 :: z70 :: z71 :: z72 :: z73 :: z74 :: z75 :: z76 :: z77 :: z78 :: z79 :: z80 :: z81 :: z82 :: z83 :: z84 :: z85 :: z86 :: z87 :: z88 :: z89 :: z90 :: z91 :: z92 :: z93 :: z94 :: z95 :: z96 :: z97 :: z98 :: z99 :: z100 :: z101 :: z102 :: z103 :: z104 :: z105 :: z106 :: z107 :: z108 :: z109 :: z110 :: z111 :: z112 :: z113 :: z114 :: z115 :: z116 :: z117 :: z118 :: z119 :: z120 :: z121 :: z122 :: z123 :: z124 :: z125 :: y126 :: y127 :: y128 :: y129 :: y130 :: y131 :: y132 :: y133 :: y134 :: y135 :: y136 :: y137 :: y138 :: y139 :: y140 :: y141 :: z142 :: z143 :: []), []⟩ (X.setCell ⟨b5, 0, none⟩ (.string (M.str (T ++ M.line (([⟨#[100, 101, 102]⟩, nm, wd, fi, si] : List ByteArray).map M.txt)))))) :
    Code.wp Tryz.prog (((Tryz.f8.body.map regsOfL).getD [])[33]?.getD .skip : Code) Q0 ⟨List.toArray (z0 :: z1 :: z2 :: .func (.func (16 : Nat)) #[] #[] :: z4 :: z5 :: .func (.func (28 : Nat)) #[] #[.pointer (some ⟨b5, 0, none⟩)] :: z7 :: z8 :: z9 :: z10 :: z11 :: z12 :: z13 :: z14 :: z15 :: .pointer (some ⟨bb, 0, none⟩) :: .int .i64 a1 :: .int .i64 a2 :: z19 :: z20 :: z21 :: z22 :: z23 :: z24 :: z25 :: z26 :: z27 :: z28 :: z29 :: z30 :: z31 :: z32 :: z33 :: z34 :: z35 :: z36 :: z37 :: z38 :: z39 :: z40 :: z41 :: z42 :: z43 :: z44 :: z45 :: z46 :: z47 :: z48 :: z49 :: z50 :: z51 :: z52 :: z53 :: z54 :: z55 :: z56 :: z57 :: z58 :: z59 :: z60 :: z61 :: z62 :: z63 :: z64 :: z65 :: z66 :: z67 :: z68 :: z69 :: z70 :: z71 :: z72 :: z73 :: z74 :: z75 :: z76 :: z77 :: z78 :: z79 :: z80 :: z81 :: z82 :: z83 :: z84 :: z85 :: z86 :: z87 :: z88 :: z89 :: z90 :: z91 :: z92 :: z93 :: z94 :: z95 :: z96 :: z97 :: z98 :: z99 :: z100 :: z101 :: z102 :: z103 :: z104 :: z105 :: z106 :: z107 :: z108 :: z109 :: z110 :: z111 :: z112 :: z113 :: z114 :: z115 :: z116 :: z117 :: z118 :: z119 :: z120 :: z121 :: z122 :: z123 :: z124 :: z125 :: z126 :: z127 :: z128 :: z129 :: z130 :: z131 :: z132 :: z133 :: z134 :: z135 :: z136 :: z137 :: z138 :: z139 :: z140 :: z141 :: z142 :: z143 :: []), []⟩ W := by
  conv => arg 2; whnf
  refine wp_region_rel 15 (fun _ X => Below W.heap.size W X) (fun v => ⟨List.toArray (z0 :: z1 :: z2 :: .func (.func (16 : Nat)) #[] #[] :: z4 :: z5 :: .func (.func (28 : Nat)) #[] #[.pointer (some ⟨b5, 0, none⟩)] :: z7 :: z8 :: z9 :: z10 :: z11 :: z12 :: z13 :: z14 :: z15 :: .pointer (some ⟨bb, 0, none⟩) :: .int .i64 a1 :: .int .i64 a2 :: z19 :: z20 :: z21 :: z22 :: z23 :: z24 :: z25 :: z26 :: z27 :: z28 :: z29 :: z30 :: z31 :: z32 :: z33 :: z34 :: z35 :: z36 :: z37 :: z38 :: z39 :: z40 :: z41 :: z42 :: z43 :: z44 :: z45 :: z46 :: z47 :: z48 :: z49 :: z50 :: z51 :: z52 :: z53 :: z54 :: z55 :: z56 :: z57 :: z58 :: z59 :: z60 :: z61 :: z62 :: z63 :: z64 :: z65 :: z66 :: z67 :: z68 :: z69 :: z70 :: z71 :: z72 :: z73 :: z74 :: z75 :: z76 :: z77 :: z78 :: z79 :: z80 :: z81 :: z82 :: z83 :: z84 :: z85 :: z86 :: z87 :: z88 :: z89 :: z90 :: z91 :: z92 :: z93 :: z94 :: z95 :: z96 :: z97 :: z98 :: z99 :: z100 :: z101 :: z102 :: z103 :: z104 :: z105 :: z106 :: z107 :: z108 :: z109 :: z110 :: z111 :: z112 :: z113 :: z114 :: z115 :: z116 :: z117 :: z118 :: z119 :: z120 :: z121 :: z122 :: z123 :: z124 :: z125 :: v 0 :: v 1 :: v 2 :: v 3 :: v 4 :: v 5 :: v 6 :: v 7 :: v 8 :: v 9 :: v 10 :: v 11 :: v 12 :: v 13 :: v 14 :: z141 :: z142 :: z143 :: []), []⟩) (rtR 3 6 14 m n ws #[.string (⟨#[100, 101, 102]⟩), .string nm, .string wd, .string fi, .string si] [.func (.func (28 : Nat)) #[] #[.pointer (some ⟨b5, 0, none⟩)], .pointer (some ⟨bb, 0, none⟩), .string nm, .bool false, .pointer (some ⟨bb, 1, none⟩), .int .i64 (m : Nat), .bool false, .string wd, .func (.func (16 : Nat)) #[] #[], .int .i64 a1, .string fi, .func (.func (16 : Nat)) #[] #[], .int .i64 a2, .string si, .bool false]) (fun _ _ _ _ => True) (by kernel_rfl) (by kernel_rfl) (Below.refl _ _).drew ⟨fun j => ([z126, z127, z128, z129, z130, z131, z132, z133, z134, z135, z136, z137, z138, z139, z140] : List Value).getD j undef, rfl⟩ ?_ ?_
  · intro j op hj ho
    rcases (by omega : j = 0 ∨ j = 1 ∨ j = 2 ∨ j = 3 ∨ j = 4 ∨ j = 5 ∨ j = 6 ∨ j = 7 ∨ j = 8 ∨ j = 9 ∨ j = 10 ∨ j = 11 ∨ j = 12 ∨ j = 13 ∨ j = 14) with rfl | rfl | rfl | rfl | rfl | rfl | rfl | rfl | rfl | rfl | rfl | rfl | rfl | rfl | rfl
    all_goals cases ho
    all_goals refine relStep_of rfl rfl ?_
    all_goals rintro sd v X hC hin hsd hdep hdz
    · exact wp_val (.func (.func (28 : Nat)) #[] #[.pointer (some ⟨b5, 0, none⟩)]) (by simp [execOp, Act.eval, go_sem]) ⟨_, rfl, hC, fun _ _ _ _ h => h, rfl, fun _ _ _ _ => ⟨trivial, trivial⟩⟩
    · exact wp_val (.pointer (some ⟨bb, 0, none⟩)) (by simp [execOp, Act.eval, go_sem]) ⟨_, rfl, hC, fun _ _ _ _ h => h, rfl, fun _ _ _ _ => ⟨trivial, trivial⟩⟩
    · have hv : v 1 = .pointer (some ⟨bb, 0, none⟩) := hdep ⟨1, .data⟩ (by simp) rfl
      have hk : X.cell? ⟨bb, 0, none⟩ = some (.string nm) := cell_later hC e0
      exact wp_val (.string nm) (by simp [execOp, Act.eval, go_sem, hv, hk]) ⟨_, rfl, hC, fun _ _ _ _ h => h, rfl, fun _ _ _ _ => ⟨trivial, trivial⟩⟩
    · refine wp_enter 29 #[.string cs] (by simp [Act.eval, go_sem, hcs]) ?_
      refine (KF.out X hC).mono ?_
      rintro e X2 ⟨rfl, rfl⟩
      have hb := (Below.refl X.heap.size X).alloc (Nat.le_refl _) (.cells ws 9)
      exact ⟨_, rfl, _, rfl, hC.trans (hb.mono hC.size), (fun k x _ _ => rtR_later hb k x), ⟨_, rfl, heap_alloc_new X _⟩, fun _ _ _ _ => ⟨trivial, trivial⟩⟩
    · exact wp_val (.pointer (some ⟨bb, 1, none⟩)) (by simp [execOp, Act.eval, go_sem]) ⟨_, rfl, hC, fun _ _ _ _ h => h, rfl, fun _ _ _ _ => ⟨trivial, trivial⟩⟩
    · have hv : v 4 = .pointer (some ⟨bb, 1, none⟩) := hdep ⟨4, .data⟩ (by simp) rfl
      have hk : X.cell? ⟨bb, 1, none⟩ = some (.int .i64 (m : Nat)) := cell_later hC e1
      exact wp_val (.int .i64 (m : Nat)) (by simp [execOp, Act.eval, go_sem, hv, hk]) ⟨_, rfl, hC, fun _ _ _ _ h => h, rfl, fun _ _ _ _ => ⟨trivial, trivial⟩⟩
    · obtain ⟨g, hv, hg⟩ : rtR 3 6 14 m n ws #[.string (⟨#[100, 101, 102]⟩), .string nm, .string wd, .string fi, .string si] [.func (.func (28 : Nat)) #[] #[.pointer (some ⟨b5, 0, none⟩)], .pointer (some ⟨bb, 0, none⟩), .string nm, .bool false, .pointer (some ⟨bb, 1, none⟩), .int .i64 (m : Nat), .bool false, .string wd, .func (.func (16 : Nat)) #[] #[], .int .i64 a1, .string fi, .func (.func (16 : Nat)) #[] #[], .int .i64 a2, .string si, .bool false] 3 X (v 3) := hdep ⟨3, .data⟩ (by simp) rfl
      have hi : v 5 = .int .i64 (m : Nat) := hdep ⟨5, .data⟩ (by simp) rfl
      exact wp_val (.pointer (some ⟨g, m, none⟩)) (by simp [execOp, Act.eval, go_sem, hv, hi, hm0, hmn]) ⟨_, rfl, hC, fun _ _ _ _ h => h, ⟨g, rfl, hg⟩, fun _ _ _ _ => ⟨trivial, trivial⟩⟩
    · obtain ⟨g, hv, hg⟩ : rtR 3 6 14 m n ws #[.string (⟨#[100, 101, 102]⟩), .string nm, .string wd, .string fi, .string si] [.func (.func (28 : Nat)) #[] #[.pointer (some ⟨b5, 0, none⟩)], .pointer (some ⟨bb, 0, none⟩), .string nm, .bool false, .pointer (some ⟨bb, 1, none⟩), .int .i64 (m : Nat), .bool false, .string wd, .func (.func (16 : Nat)) #[] #[], .int .i64 a1, .string fi, .func (.func (16 : Nat)) #[] #[], .int .i64 a2, .string si, .bool false] 6 X (v 6) := hdep ⟨6, .data⟩ (by simp) rfl
      have hk : X.cell? ⟨g, m, none⟩ = some (.string wd) := (cellB hg m).trans hw
      exact wp_val (.string wd) (by simp [execOp, Act.eval, go_sem, hv, hk]) ⟨_, rfl, hC, fun _ _ _ _ h => h, rfl, fun _ _ _ _ => ⟨trivial, trivial⟩⟩
    · exact wp_val (.func (.func (16 : Nat)) #[] #[]) (by simp [execOp, Act.eval, go_sem]) ⟨_, rfl, hC, fun _ _ _ _ h => h, rfl, fun _ _ _ _ => ⟨trivial, trivial⟩⟩
    · exact wp_val (.int .i64 a1) (by simp [execOp, Act.eval, go_sem]) ⟨_, rfl, hC, fun _ _ _ _ h => h, rfl, fun _ _ _ _ => ⟨trivial, trivial⟩⟩
    · have hf : v 8 = .func (.func (16 : Nat)) #[] #[] := hdep ⟨8, .data⟩ (by simp) rfl
      have ha : v 9 = .int .i64 a1 := hdep ⟨9, .data⟩ (by simp) rfl
      refine wp_enter 16 #[.int .i64 a1] (by simp [Act.eval, go_sem, hf, ha]) ?_
      refine (K1.out X hC).mono ?_
      rintro e X2 ⟨rfl, hb⟩
      exact ⟨_, rfl, _, rfl, hC.trans (hb.mono hC.size), (fun k x _ _ => rtR_later hb k x), rfl, fun _ _ _ _ => ⟨trivial, trivial⟩⟩
    · exact wp_val (.func (.func (16 : Nat)) #[] #[]) (by simp [execOp, Act.eval, go_sem]) ⟨_, rfl, hC, fun _ _ _ _ h => h, rfl, fun _ _ _ _ => ⟨trivial, trivial⟩⟩
    · exact wp_val (.int .i64 a2) (by simp [execOp, Act.eval, go_sem]) ⟨_, rfl, hC, fun _ _ _ _ h => h, rfl, fun _ _ _ _ => ⟨trivial, trivial⟩⟩
    · have hf : v 11 = .func (.func (16 : Nat)) #[] #[] := hdep ⟨11, .data⟩ (by simp) rfl
      have ha : v 12 = .int .i64 a2 := hdep ⟨12, .data⟩ (by simp) rfl
      refine wp_enter 16 #[.int .i64 a2] (by simp [Act.eval, go_sem, hf, ha]) ?_
      refine (K2.out X hC).mono ?_
      rintro e X2 ⟨rfl, hb⟩
      exact ⟨_, rfl, _, rfl, hC.trans (hb.mono hC.size), (fun k x _ _ => rtR_later hb k x), rfl, fun _ _ _ _ => ⟨trivial, trivial⟩⟩
    · have h2 : v 2 = .string nm := hdep ⟨2, .data⟩ (by simp) rfl
      have h7 : v 7 = .string wd := hdep ⟨7, .data⟩ (by simp) rfl
      have h10 : v 10 = .string fi := hdep ⟨10, .data⟩ (by simp) rfl
      have h13 : v 13 = .string si := hdep ⟨13, .data⟩ (by simp) rfl
      have hb := (Below.refl X.heap.size X).alloc (Nat.le_refl _) (.cells #[.string (⟨#[100, 101, 102]⟩), .string nm, .string wd, .string fi, .string si] 9)
      exact wp_valW (.slice (some ⟨X.heap.size, 0, none⟩) 5 5) (X.alloc (.cells #[.string (⟨#[100, 101, 102]⟩), .string nm, .string wd, .string fi, .string si] 9)) (by simp [execOp, Act.eval, go_sem, h2, h7, h10, h13]) ⟨_, rfl, hC.trans (hb.mono hC.size), (fun k x _ _ => rtR_later hb k x), ⟨_, rfl, heap_alloc_new X _⟩, fun _ _ _ _ => ⟨trivial, trivial⟩⟩
  · rintro sd v X hC hR hZ
    have h0 : v 0 = .func (.func (28 : Nat)) #[] #[.pointer (some ⟨b5, 0, none⟩)] := hR 0 (by decide)
    obtain ⟨g, hv, hg⟩ : rtR 3 6 14 m n ws #[.string (⟨#[100, 101, 102]⟩), .string nm, .string wd, .string fi, .string si] [.func (.func (28 : Nat)) #[] #[.pointer (some ⟨b5, 0, none⟩)], .pointer (some ⟨bb, 0, none⟩), .string nm, .bool false, .pointer (some ⟨bb, 1, none⟩), .int .i64 (m : Nat), .bool false, .string wd, .func (.func (16 : Nat)) #[] #[], .int .i64 a1, .string fi, .func (.func (16 : Nat)) #[] #[], .int .i64 a2, .string si, .bool false] 14 X (v 14) := hR 14 (by decide)
    have hT : X.cell? ⟨b5, 0, none⟩ = some (.string (M.str T)) := cell_later hC hc5
    have hz : X.frozen? ⟨b5, 0, none⟩ = false := (hC.frozen (p := ⟨b5, 0, none⟩) hl5).trans hz5
    have KL := refLine_any b5 g 0 5 T [⟨#[100, 101, 102]⟩, nm, wd, fi, si] X hT hz (fun j x hj => by
      match j, hj with
      | 0, hj | 1, hj | 2, hj | 3, hj | 4, hj => simp at hj; subst hj; exact cellB hg _
      | j + 5, hj => simp at hj) (Array.getElem?_eq_some_iff.1 hg).1 (by simp) (by simp) hlen
    have HL : Hid _ := KL
    have HX : Hid (∀ Y, Below X.heap.size X Y → Below W.heap.size W Y) := fun Y hY => hC.trans (hY.mono hC.size)
    clear KL hT hz hR hZ hg
    simp only [List.drop_succ_cons, List.drop_zero, h0, hv]
    clear h0 hv
    generalize v 1 = t1
    generalize v 2 = t2
    generalize v 3 = t3
    generalize v 4 = t4
    generalize v 5 = t5
    generalize v 6 = t6
    generalize v 7 = t7
    generalize v 8 = t8
    generalize v 9 = t9
    generalize v 10 = t10
    generalize v 11 = t11
    generalize v 12 = t12
    generalize v 13 = t13
    go_wp2_with (go_at_call 28; refine Calls.mono HL.out ?_; rintro e X3 ⟨rfl, X4, hb4, rfl⟩)
    exact HX.out _ hb4

end Go.Proofs.YthiknlnhdjoipaaGreatDoor
