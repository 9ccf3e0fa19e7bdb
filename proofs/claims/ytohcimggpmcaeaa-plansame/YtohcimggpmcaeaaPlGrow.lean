/-
  The contract of plan.Make.
-/
import Derived.Test.YtohcimggpmcaeaaPlMake
namespace Go.Proofs.Ytohcimggpmcaeaa
open Go Go.RowKit
set_option linter.unusedVariables false

attribute [local go_sem] run_store_fnP

theorem grow_size (f n : Nat) (first : Int) (ps : List Int) (b : Nat) (h1 : 1 ≤ n) (hf : n ≤ f) : (M.grow f first n ps b).1.length + 1 = 2 * n := by
  have := (M.t_pos f _ _ _ (M.grow_t f n first ps b h1 hf)).2
  rwa [M.rise_len] at this

/-- what grow answers -/
structure GO (w w' : World) (pa : Option Addr) (pc : Nat) (picks : List Int) (out : List M.Nd) (G : List M.Nd × List Int) : Prop where
  ex : ∃ p' v', p' ≤ picks.length ∧ GI w w' pa pc picks p' (out ++ G.1) v' ∧ picks.drop p' = G.2

set_option maxHeartbeats 8000000 in
set_option maxRecDepth 100000 in
theorem grow_any (w : World) (pa : Option Addr) (pc : Nat) (picks : List Int) (hp : IntsAt w (.slice pa picks.length pc) picks) : ∀ (f n : Nat) (first : Int) (W : World) (po : Nat) (out : List M.Nd) (v : Value), 1 ≤ n → n ≤ f → 0 ≤ first → first + n ≤ 12 → out.length + 2 * n ≤ 100 → po ≤ picks.length → GI w W pa pc picks po out v →
    Calls Try.prog 21 #[.int .i64 first, .int .i64 n, .pointer (some ⟨w.heap.size + 1, 0, none⟩), .pointer (some ⟨w.heap.size + 4, 0, none⟩), .pointer (some ⟨w.heap.size + 5, 0, none⟩)] W fun e w' => e = .returned (.int .i64 ((out.length + (M.grow f first n (picks.drop po) out.length).1.length - 1 : Nat) : Int)) ∧ GO w w' pa pc picks out (M.grow f first n (picks.drop po) out.length)
  | 0, n, _, _, _, _, _, h1, hf, _, _, _, _, _ => by omega
  | f + 1, n, first, W, po, out, v, h1, hf, hf0, hf12, ho, hpo, hG => by
    have c1 : W.cell? ⟨w.heap.size + 1, 0, none⟩ = some (.func (.func 19) #[] #[.pointer (some ⟨w.heap.size, 0, none⟩)]) := cellB hG.q1 0
    have c4 : W.cell? ⟨w.heap.size + 4, 0, none⟩ = some (.func (.func 33) #[] #[.pointer (some ⟨w.heap.size + 3, 0, none⟩), .pointer (some ⟨w.heap.size + 2, 0, none⟩)]) := cellB hG.q4 0
    have l5 : w.heap.size + 5 < W.heap.size := (Array.getElem?_eq_some_iff.1 hG.q5).1
    have l1 : w.heap.size + 1 < W.heap.size := by omega
    have l4 : w.heap.size + 4 < W.heap.size := by omega
    by_cases hn : n = 1
    · subst hn
      have HR : Hid (M.grow (f + 1) first 1 (picks.drop po) out.length = ([⟨first, 0, 0⟩], picks.drop po)) := by rw [Hid, M.grow, if_pos rfl]
      have KA : Hid (Calls Try.prog 19 #[.agg #[.int .i64 first, .int .i64 0, .int .i64 0], .pointer (some ⟨w.heap.size, 0, none⟩)] W fun e w' => e = .returned (.int .i64 out.length) ∧ ∃ v', GI w w' pa pc picks po (out ++ [⟨first, 0, 0⟩]) v') := add_any first 0 0 w W pa pc picks po out v hG (by omega)
      clear hG
      go_enter Try.func21, Try.ntmps21
      go_wp2_with (go_at_call 19; refine KA.out.mono ?_; rintro e w1 ⟨rfl, hA⟩)
      go_ret
      obtain ⟨v', hA⟩ := hA
      refine ⟨ret_int (by rw [HR.out]; simp), ⟨po, v', hpo, by rw [HR.out]; exact hA, by rw [HR.out]⟩⟩
    · have HLf := M.left_lt (picks.drop po) n (by omega)
      have HR : Hid (M.grow (f + 1) first n (picks.drop po) out.length = M.over out.length (M.grow f first (M.onLeft (picks.drop po) n) (M.pick (picks.drop po) ((n : Int) - 1)).2 out.length).1
          (M.grow f (first + (M.onLeft (picks.drop po) n : Nat)) (n - M.onLeft (picks.drop po) n) (M.grow f first (M.onLeft (picks.drop po) n) (M.pick (picks.drop po) ((n : Int) - 1)).2 out.length).2 (out.length + (M.grow f first (M.onLeft (picks.drop po) n) (M.pick (picks.drop po) ((n : Int) - 1)).2 out.length).1.length))) := by rw [Hid, M.grow, if_neg hn]
      have HP := M.pick_lt (picks.drop po) ((n : Int) - 1) (by omega)
      have HOn : Hid ((M.onLeft (picks.drop po) n : Int) = (M.pick (picks.drop po) ((n : Int) - 1)).1 + 1) := by
        unfold M.onLeft
        rw [Hid]
        omega
      have KP : Hid (Calls Try.prog 33 #[.int .i64 ((n : Int) - 1), .pointer (some ⟨w.heap.size + 3, 0, none⟩), .pointer (some ⟨w.heap.size + 2, 0, none⟩)] W fun e w' => e = .returned (.int .i64 (M.pick (picks.drop po) ((n : Int) - 1)).1) ∧ ∃ p', p' ≤ picks.length ∧ GI w w' pa pc picks p' out v ∧ picks.drop p' = (M.pick (picks.drop po) ((n : Int) - 1)).2) := pick_any ((n : Int) - 1) w W pa pc picks po out v hp hG hpo (by omega) (by omega)
      have IH := grow_any w pa pc picks hp f
      have hn1 : ((n : Int) == 1) = false := by rw [beq_eq_false_iff_ne]; omega
      clear hG hn c1
      generalize M.grow (f + 1) first n (picks.drop po) out.length = G at *
      generalize M.onLeft (picks.drop po) n = o at *
      generalize M.pick (picks.drop po) ((n : Int) - 1) = pk at *
      obtain ⟨kk, ps1⟩ := pk
      simp only at HP HOn KP HR
      have hk0 := HP.1
      have hk1 := HP.2
      clear HP
      go_enter Try.func21, Try.ntmps21
      go_upto_region 4 with (go_at_call 33; refine KP.out.mono ?_; rintro e X ⟨rfl, hX⟩)
      rw [← HOn.out]
      obtain ⟨p1, hp1, hX, hd1⟩ := hX
      have HX : Hid (GI w X pa pc picks p1 out v) := hX
      have sz1 := grow_size f o first ps1 out.length (by omega) (by omega)
      have K1 : Hid (Calls Try.prog 21 #[.int .i64 first, .int .i64 o, .pointer (some ⟨w.heap.size + 1, 0, none⟩), .pointer (some ⟨w.heap.size + 4, 0, none⟩), .pointer (some ⟨w.heap.size + 5, 0, none⟩)] X fun e w' => e = .returned (.int .i64 ((out.length + (M.grow f first o ps1 out.length).1.length - 1 : Nat) : Int)) ∧ GO w w' pa pc picks out (M.grow f first o ps1 out.length)) := by
        have := IH o first X p1 out v (by omega) (by omega) hf0 (by omega) (by omega) hp1 hX
        rw [hd1] at this
        exact this
      clear KP hX hd1 hp1 c4 l1 l4 l5 HOn hk0 hk1
      generalize M.grow f first o ps1 out.length = G1 at *
      obtain ⟨g1, ps2⟩ := G1
      simp only at sz1 K1 HR
      have c5 : X.cell? ⟨w.heap.size + 5, 0, none⟩ = some (.func (.func 21) #[] #[.pointer (some ⟨w.heap.size + 1, 0, none⟩), .pointer (some ⟨w.heap.size + 4, 0, none⟩), .pointer (some ⟨w.heap.size + 5, 0, none⟩)]) := cellB HX.out.q5 0
      have l5 : w.heap.size + 5 < X.heap.size := (Array.getElem?_eq_some_iff.1 HX.out.q5).1
      clear HX
      go_upto_region 5 with (go_at_call 21; refine K1.out.mono ?_; rintro e Y ⟨rfl, hY⟩)
      obtain ⟨p2, v2, hp2, hY, hd2⟩ := hY.ex
      simp only at hd2 hY
      have HY : Hid (GI w Y pa pc picks p2 (out ++ g1) v2) := hY
      have sz2 := grow_size f (n - o) (first + o) ps2 (out.length + g1.length) (by omega) (by omega)
      have K2 : Hid (Calls Try.prog 21 #[.int .i64 (first + o), .int .i64 ((n : Int) - o), .pointer (some ⟨w.heap.size + 1, 0, none⟩), .pointer (some ⟨w.heap.size + 4, 0, none⟩), .pointer (some ⟨w.heap.size + 5, 0, none⟩)] Y fun e w' => e = .returned (.int .i64 ((out.length + g1.length + (M.grow f (first + o) (n - o) ps2 (out.length + g1.length)).1.length - 1 : Nat) : Int)) ∧ GO w w' pa pc picks (out ++ g1) (M.grow f (first + o) (n - o) ps2 (out.length + g1.length))) := by
        have := IH (n - o) (first + o) Y p2 (out ++ g1) v2 (by omega) (by omega) (by omega) (by omega) (by rw [List.length_append]; omega) hp2 hY
        rw [hd2, List.length_append, show ((n - o : Nat) : Int) = (n : Int) - o by omega] at this
        exact this
      clear K1 hY hd2 hp2 c5 l5 IH
      generalize M.grow f (first + o) (n - o) ps2 (out.length + g1.length) = G2 at *
      obtain ⟨g2, ps3⟩ := G2
      simp only at sz2 K2 HR
      have c5 : Y.cell? ⟨w.heap.size + 5, 0, none⟩ = some (.func (.func 21) #[] #[.pointer (some ⟨w.heap.size + 1, 0, none⟩), .pointer (some ⟨w.heap.size + 4, 0, none⟩), .pointer (some ⟨w.heap.size + 5, 0, none⟩)]) := cellB HY.out.q5 0
      have l5 : w.heap.size + 5 < Y.heap.size := (Array.getElem?_eq_some_iff.1 HY.out.q5).1
      clear HY
      generalize hb1 : out.length + g1.length - 1 = b1
      go_upto_region 6 with (go_at_call 21; refine K2.out.mono ?_; rintro e Z ⟨rfl, hZ⟩)
      obtain ⟨p3, v3, hp3, hZ, hd3⟩ := hZ.ex
      simp only at hd3 hZ
      have HZ : Hid (GI w Z pa pc picks p3 (out ++ g1 ++ g2) v3) := hZ
      have c1 : Z.cell? ⟨w.heap.size + 1, 0, none⟩ = some (.func (.func 19) #[] #[.pointer (some ⟨w.heap.size, 0, none⟩)]) := cellB hZ.q1 0
      have l5' : w.heap.size + 5 < Z.heap.size := (Array.getElem?_eq_some_iff.1 hZ.q5).1
      have l1 : w.heap.size + 1 < Z.heap.size := by omega
      generalize hb2 : out.length + g1.length + g2.length - 1 = b2
      have KA : Hid (Calls Try.prog 19 #[.agg #[.int .i64 (-1), .int .i64 b1, .int .i64 b2], .pointer (some ⟨w.heap.size, 0, none⟩)] Z fun e w' => e = .returned (.int .i64 (out ++ g1 ++ g2).length) ∧ ∃ v', GI w w' pa pc picks p3 (out ++ g1 ++ g2 ++ [⟨-1, b1, b2⟩]) v') := add_any (-1) b1 b2 w Z pa pc picks p3 (out ++ g1 ++ g2) v3 hZ (by simp only [List.length_append]; omega)
      have HR2 : Hid (G = (g1 ++ g2 ++ [⟨-1, b1, b2⟩], ps3)) := by rw [Hid, HR.out, ← hb1, ← hb2]; rfl
      have HL : Hid ((out ++ g1 ++ g2).length = out.length + (g1 ++ g2 ++ [(⟨-1, b1, b2⟩ : M.Nd)]).length - 1) := by simp only [Hid, List.length_append, List.length_cons, List.length_nil]; omega
      generalize hln : (out ++ g1 ++ g2).length = ln at KA HL
      clear hZ HR K2 HZ hb1 hb2 sz1 sz2
      have Hd3 : Hid (picks.drop p3 = ps3) := hd3
      clear hd3 hln
      go_wp2_with (go_at_call 19; refine KA.out.mono ?_; rintro e w1 ⟨rfl, hA⟩)
      go_ret
      obtain ⟨v', hA⟩ := hA
      refine ⟨ret_int (by rw [HR2.out, HL.out]), ⟨p3, v', hp3, ?_, by rw [HR2.out]; exact Hd3.out⟩⟩
      rw [HR2.out]
      simpa only [List.append_assoc] using hA

theorem new_at (w : World) (o : Obj) (n : Nat) (h : w.heap.size = n) : (w.alloc o).heap[n]? = some o := by subst h; exact heap_alloc_new w o
theorem old_at (w : World) (o : Obj) (n m : Nat) (h : w.heap.size = m) (hn : n < m) : (w.alloc o).heap[n]? = w.heap[n]? := heap_alloc_old w o (by omega)
theorem heap6 (w : World) (o0 o1 o2 o3 o4 o5 : Obj) : (((((((w.alloc o0).alloc o1).alloc o2).alloc o3).alloc o4).alloc o5).heap[w.heap.size]? = some o0) ∧ (((((((w.alloc o0).alloc o1).alloc o2).alloc o3).alloc o4).alloc o5).heap[w.heap.size + 1]? = some o1) ∧ (((((((w.alloc o0).alloc o1).alloc o2).alloc o3).alloc o4).alloc o5).heap[w.heap.size + 2]? = some o2)
    ∧ (((((((w.alloc o0).alloc o1).alloc o2).alloc o3).alloc o4).alloc o5).heap[w.heap.size + 3]? = some o3) ∧ (((((((w.alloc o0).alloc o1).alloc o2).alloc o3).alloc o4).alloc o5).heap[w.heap.size + 4]? = some o4) ∧ (((((((w.alloc o0).alloc o1).alloc o2).alloc o3).alloc o4).alloc o5).heap[w.heap.size + 5]? = some o5) := by
  have s1 : (w.alloc o0).heap.size = w.heap.size + 1 := by simp
  have s2 : ((w.alloc o0).alloc o1).heap.size = w.heap.size + 2 := by simp
  have s3 : (((w.alloc o0).alloc o1).alloc o2).heap.size = w.heap.size + 3 := by simp
  have s4 : ((((w.alloc o0).alloc o1).alloc o2).alloc o3).heap.size = w.heap.size + 4 := by simp
  have s5 : (((((w.alloc o0).alloc o1).alloc o2).alloc o3).alloc o4).heap.size = w.heap.size + 5 := by simp
  have k5 : ∀ n, n < w.heap.size + 5 → ((((((w.alloc o0).alloc o1).alloc o2).alloc o3).alloc o4).alloc o5).heap[n]? = (((((w.alloc o0).alloc o1).alloc o2).alloc o3).alloc o4).heap[n]? := fun n h => old_at _ _ n _ s5 h
  have k4 : ∀ n, n < w.heap.size + 4 → (((((w.alloc o0).alloc o1).alloc o2).alloc o3).alloc o4).heap[n]? = ((((w.alloc o0).alloc o1).alloc o2).alloc o3).heap[n]? := fun n h => old_at _ _ n _ s4 h
  have k3 : ∀ n, n < w.heap.size + 3 → ((((w.alloc o0).alloc o1).alloc o2).alloc o3).heap[n]? = (((w.alloc o0).alloc o1).alloc o2).heap[n]? := fun n h => old_at _ _ n _ s3 h
  have k2 : ∀ n, n < w.heap.size + 2 → (((w.alloc o0).alloc o1).alloc o2).heap[n]? = ((w.alloc o0).alloc o1).heap[n]? := fun n h => old_at _ _ n _ s2 h
  have k1 : ∀ n, n < w.heap.size + 1 → ((w.alloc o0).alloc o1).heap[n]? = (w.alloc o0).heap[n]? := fun n h => old_at _ _ n _ s1 h
  refine ⟨?_, ?_, ?_, ?_, ?_, ?_⟩
  · rw [k5 _ (by omega), k4 _ (by omega), k3 _ (by omega), k2 _ (by omega), k1 _ (by omega)]; exact heap_alloc_new w o0
  · rw [k5 _ (by omega), k4 _ (by omega), k3 _ (by omega), k2 _ (by omega)]; exact new_at _ _ _ s1
  · rw [k5 _ (by omega), k4 _ (by omega), k3 _ (by omega)]; exact new_at _ _ _ s2
  · rw [k5 _ (by omega), k4 _ (by omega)]; exact new_at _ _ _ s3
  · rw [k5 _ (by omega)]; exact new_at _ _ _ s4
  · exact new_at _ _ _ s5

theorem own_baseP {w : World} {B B' k n : Nat} {e : TypeId} {v : Value} {xs : List Value} (h : w.ownsRow B e k v n xs) (hb : B' ≤ B) : w.ownsRow B' e k v n xs :=
  ⟨h.1, h.2.imp id fun ⟨g, cap, cur, h1, h2, r⟩ => ⟨g, cap, cur, h1, Nat.le_trans hb h2, r⟩⟩

theorem picker_any (a : Option Addr) (n c : Nat) (w : World) :
    Calls Try.prog 20 #[.slice a n c] w fun e w' => e = .returned (.func (.func 33) #[] #[.pointer (some ⟨w.heap.size + 1, 0, none⟩), .pointer (some ⟨w.heap.size, 0, none⟩)]) ∧ ((w.alloc (.cells #[.slice a n c] 22)).alloc (.cells #[.int .i64 0] 3)) = w' := by
  go_enter Try.func20, Try.ntmps20
  go_wp2
  go_ret
  exact ⟨rfl, rfl⟩

set_option maxHeartbeats 4000000 in
set_option maxRecDepth 100000 in
theorem make_any (n : Int) (picks : List Int) (pa : Option Addr) (pc : Nat) (w : World) (hp : IntsAt w (.slice pa picks.length pc) picks) :
    Calls Try.prog 6 #[.int .i64 n, .slice pa picks.length pc] w fun e w' => Below w.heap.size w w' ∧ ∃ v, e = .returned (.tuple #[v, .int .i64 (M.makeE n picks)]) ∧ w'.ownsRow w.heap.size 32 3 v (M.make n picks).length ((M.make n picks).flatMap encNd) := by
  have KF : Hid (Calls Try.prog 18 #[.int .i64 n] w fun e w' => e = .returned (.bool (M.fewParts n)) ∧ w = w') := (fewParts_any n w).mono fun e w' ⟨h1, h2⟩ => ⟨h1, h2.symm⟩
  have hnil : ∀ (W : World), W.ownsRow w.heap.size 32 3 (.slice none 0 0) 0 [] := fun W => World.ownsRow_nil _ _ _ _
  cases hf : M.fewParts n
  · have HE : Hid (M.makeE n picks = 3) := by rw [Hid, M.makeE, if_pos hf]
    have HM : Hid (M.make n picks = []) := by rw [Hid, M.make, HE.out]; rfl
    rw [HE.out, HM.out]
    rw [hf] at KF
    go_enter Try.func6, Try.ntmps6
    go_wp2_with (go_at_call 18; refine KF.out.mono ?_; rintro e w1 ⟨rfl, rfl⟩)
    go_ret2
    exact ⟨Below.refl _ _, _, rfl, hnil _⟩
  rw [hf] at KF
  by_cases h23 : 23 < picks.length
  · have HE : Hid (M.makeE n picks = 2) := by rw [Hid, M.makeE, if_neg (by rw [hf]; simp), if_pos h23]
    have HM : Hid (M.make n picks = []) := by rw [Hid, M.make, HE.out]; rfl
    have h23' : (23 : Int) < (picks.length : Int) := by omega
    have hpl : picks.length ≤ maxLen := by obtain ⟨_, _, _, h⟩ := SlAt.form hp; exact h
    unfold maxLen at hpl
    rw [HE.out, HM.out]
    clear h23
    go_enter Try.func6, Try.ntmps6
    go_wp2_with (go_at_call 18; refine KF.out.mono ?_; rintro e w1 ⟨rfl, rfl⟩)
    go_ret2
    exact ⟨Below.refl _ _, _, rfl, hnil _⟩
  · have HE : Hid (M.makeE n picks = 0) := by rw [Hid, M.makeE, if_neg (by rw [hf]; simp), if_neg h23]
    have hn := (M.fewParts_iff n).1 hf
    obtain ⟨k, rfl⟩ : ∃ k : Nat, n = (k : Int) := ⟨n.toNat, by omega⟩
    have HM : Hid (M.make k picks = (M.grow k 0 k picks 0).1) := by rw [Hid, M.make, HE.out, if_pos rfl, Int.toNat_natCast]; rfl
    rw [HE.out, HM.out]
    have h23' : ¬ (23 : Int) < (picks.length : Int) := by omega
    have KP : Hid (∀ W, Calls Try.prog 20 #[.slice pa picks.length pc] W fun e w' => e = .returned (.func (.func 33) #[] #[.pointer (some ⟨W.heap.size + 1, 0, none⟩), .pointer (some ⟨W.heap.size, 0, none⟩)]) ∧ ((W.alloc (.cells #[.slice pa picks.length pc] 22)).alloc (.cells #[.int .i64 0] 3)) = w') := fun W => picker_any pa picks.length pc W
    clear h23 hf
    go_enter Try.func6, Try.ntmps6
    go_upto_region 10 with (first | (go_at_call 18; refine KF.out.mono ?_; rintro e w1 ⟨rfl, rfl⟩) | (go_at_call 20; refine (KP.out _).mono ?_; rintro e w1 ⟨rfl, rfl⟩))
    rw [show w.heap.size + 1 + 1 + 1 + 1 + 1 = w.heap.size + 5 from rfl, show w.heap.size + 1 + 1 + 1 + 1 = w.heap.size + 4 from rfl, show w.heap.size + 1 + 1 + 1 = w.heap.size + 3 from rfl, show w.heap.size + 1 + 1 = w.heap.size + 2 from rfl]
    have HI : Hid (GI w ((((((w.alloc (.cells #[.slice none 0 0] 23)).alloc (.cells #[.func (.func 19) #[] #[.pointer (some ⟨w.heap.size, 0, none⟩)]] 52)).alloc (.cells #[.slice pa picks.length pc] 22)).alloc (.cells #[.int .i64 0] 3)).alloc (.cells #[.func (.func 33) #[] #[.pointer (some ⟨w.heap.size + 3, 0, none⟩), .pointer (some ⟨w.heap.size + 2, 0, none⟩)]] 53)).alloc (.cells #[.func (.func 21) #[] #[.pointer (some ⟨w.heap.size + 1, 0, none⟩), .pointer (some ⟨w.heap.size + 4, 0, none⟩), .pointer (some ⟨w.heap.size + 5, 0, none⟩)]] 38)) pa pc picks 0 [] (.slice none 0 0)) := by
      obtain ⟨h0, h1, h2, h3, h4, h5⟩ := heap6 w (.cells #[.slice none 0 0] 23) (.cells #[.func (.func 19) #[] #[.pointer (some ⟨w.heap.size, 0, none⟩)]] 52) (.cells #[.slice pa picks.length pc] 22) (.cells #[.int .i64 0] 3) (.cells #[.func (.func 33) #[] #[.pointer (some ⟨w.heap.size + 3, 0, none⟩), .pointer (some ⟨w.heap.size + 2, 0, none⟩)]] 53) (.cells #[.func (.func 21) #[] #[.pointer (some ⟨w.heap.size + 1, 0, none⟩), .pointer (some ⟨w.heap.size + 4, 0, none⟩), .pointer (some ⟨w.heap.size + 5, 0, none⟩)]] 38)
      exact ⟨h0, h1, h2, h3, h4, h5, World.ownsRow_nil _ _ _ _, ((((((Below.refl _ _).alloc (Nat.le_refl _) _).alloc (by simp) _).alloc (by simp; omega) _).alloc (by simp; omega) _).alloc (by simp; omega) _).alloc (by simp; omega) _⟩
    generalize (((((w.alloc (.cells #[.slice none 0 0] 23)).alloc (.cells #[.func (.func 19) #[] #[.pointer (some ⟨w.heap.size, 0, none⟩)]] 52)).alloc (.cells #[.slice pa picks.length pc] 22)).alloc (.cells #[.int .i64 0] 3)).alloc (.cells #[.func (.func 33) #[] #[.pointer (some ⟨w.heap.size + 3, 0, none⟩), .pointer (some ⟨w.heap.size + 2, 0, none⟩)]] 53)).alloc (.cells #[.func (.func 21) #[] #[.pointer (some ⟨w.heap.size + 1, 0, none⟩), .pointer (some ⟨w.heap.size + 4, 0, none⟩), .pointer (some ⟨w.heap.size + 5, 0, none⟩)]] 38) = W at *
    have KG : Hid (Calls Try.prog 21 #[.int .i64 0, .int .i64 k, .pointer (some ⟨w.heap.size + 1, 0, none⟩), .pointer (some ⟨w.heap.size + 4, 0, none⟩), .pointer (some ⟨w.heap.size + 5, 0, none⟩)] W fun e w' => e = .returned (.int .i64 ((0 + (M.grow k 0 k picks 0).1.length - 1 : Nat) : Int)) ∧ GO w w' pa pc picks [] (M.grow k 0 k picks 0)) := grow_any w pa pc picks hp k k 0 W 0 [] _ (by omega) (Nat.le_refl _) (Int.le_refl _) (by omega) (by show 0 + _ ≤ _; omega) (Nat.zero_le _) HI.out
    generalize hGG : M.grow k 0 k picks 0 = G at KG
    obtain ⟨g, ps⟩ := G
    have HGG : Hid (M.grow k 0 k picks 0 = (g, ps)) := hGG
    clear hGG
    simp only at KG
    have c5 : W.cell? ⟨w.heap.size + 5, 0, none⟩ = some (.func (.func 21) #[] #[.pointer (some ⟨w.heap.size + 1, 0, none⟩), .pointer (some ⟨w.heap.size + 4, 0, none⟩), .pointer (some ⟨w.heap.size + 5, 0, none⟩)]) := cellB HI.out.q5 0
    have l5 : w.heap.size + 5 < W.heap.size := (Array.getElem?_eq_some_iff.1 HI.out.q5).1
    clear HI KP KF HE HM
    go_upto_region 11 with (go_at_call 21; refine KG.out.mono ?_; rintro e Y ⟨rfl, hY⟩)
    obtain ⟨p', v', _, hY, _⟩ := hY.ex
    simp only [List.nil_append] at hY
    have HY : Hid (GI w Y pa pc picks p' g v') := hY
    obtain ⟨ad, cc, rfl⟩ := own_len hY.row
    have c0 : Y.cell? ⟨w.heap.size, 0, none⟩ = some (.slice ad g.length cc) := cellB hY.q0 0
    have l0 : w.heap.size < Y.heap.size := (Array.getElem?_eq_some_iff.1 hY.q0).1
    clear hY KG c5 l5
    go_wp2
    go_ret2
    exact ⟨HY.out.below, .slice ad g.length cc, rfl, by rw [HGG.out]; exact own_baseP HY.out.row (Nat.le_add_right _ 6)⟩

end Go.Proofs.Ytohcimggpmcaeaa
