/-
  The contracts of slices.Concat of two rows of texts, of slices.IsSorted, slices.ContainsFunc and slices.DeleteFunc at texts. The contracts of slices.IsSorted, slices.ContainsFunc and slices.DeleteFunc at texts, with the functions that are handed to them. The contract of names.Lacking.
-/
import Derived.Test.YthbdfnphnppagaaDoorNmLib
import Derived.Test.YthbdfnphnppagaaDoorFlA2

namespace Go.Proofs.YthbdfnphnppagaaDoor
open Go Go.RowKit Go.Sort
set_option linter.unusedVariables false

def upTo (xs ys : List ByteArray) (k : Nat) : List ByteArray := if k = 0 then [] else if k = 1 then xs else xs ++ ys

theorem strs_src {w : World} {v : Value} {l : List ByteArray} (h : StrsAt w v l) : Src w v l.length (l.map Value.string) :=
  h.1.src (by decide) _ (by simp) (fun j i hj hi => by
    obtain rfl : i = 0 := by omega
    rw [Nat.mul_one, Nat.add_zero, List.getElem?_map, getElem?_getD l str0 j hj]; rfl)

theorem strs_one (l : List ByteArray) : ∀ u ∈ l.map Value.string, u.oneCell' = true := fun u hu => by
  obtain ⟨b, _, rfl⟩ := List.mem_map.1 hu
  rfl

end Go.Proofs.YthbdfnphnppagaaDoor

namespace Go.Proofs.YthbdfnphnppagaaDoor
open Go Go.RowKit Go.Sort
set_option linter.unusedVariables false


theorem lackFn_any (dl : List ByteArray) (s : ByteArray) (X : Nat) (a : Option Addr) (c : Nat) (W : World) (hd : StrsAt W (.slice a dl.length c) dl) (hc : W.cell? ⟨X, 0, none⟩ = some (.slice a dl.length c)) :
    Calls Tryd.prog 60 #[.string s, .pointer (some ⟨X, 0, none⟩)] W fun e w' => e = .returned (.bool (M.has dl s)) ∧ w' = W := by
  have HK : Hid (Calls Tryd.prog 36 #[.slice a dl.length c, .string s] W fun e w' => e = .returned (.bool (M.has dl s)) ∧ w' = W) := containsS_any dl s a c W hd
  generalize M.has dl s = R at *
  clear hd
  go_enter Tryd.func60, Tryd.ntmps60
  go_wp2_with (go_at_call 36; refine HK.out.mono ?_; rintro e w1 ⟨rfl, rfl⟩)
  go_ret
  exact ⟨rfl, rfl⟩

theorem filter_txt (l : List ByteArray) (p : ByteArray → Bool) : ((l.map M.txt').filter fun t => p (M.ofTxt t)).map M.ofTxt = l.filter p := by
  induction l with
  | nil => rfl
  | cons s l ih =>
    simp only [List.map_cons, List.filter_cons, M.of_txt]
    cases p s
    · simpa using ih
    · simp [M.of_txt, ih]

set_option maxHeartbeats 1000000 in
set_option maxRecDepth 100000 in
theorem delete_own (l dl : List ByteArray) (B X : Nat) (v : Value) (a2 : Option Addr) (c2 : Nat) (w : World) (h : w.ownsRow B 9 1 v l.length (l.map Value.string)) (hl : l.length ≤ 100000)
    (hd : ∀ W, w.grownBy W v.ownBlock → StrsAt W (.slice a2 dl.length c2) dl ∧ W.cell? ⟨X, 0, none⟩ = some (.slice a2 dl.length c2)) :
    Calls Tryd.prog 59 #[v, .func (.func 60) #[] #[.pointer (some ⟨X, 0, none⟩)]] w fun e w' => w.grownBy w' v.ownBlock ∧ ∃ x c, e = .returned (.slice x (l.filter fun s => !(M.has dl s)).length c) ∧ w'.ownsRow B 9 1 (.slice x (l.filter fun s => !(M.has dl s)).length c) (l.filter fun s => !(M.has dl s)).length ((l.filter fun s => !(M.has dl s)).map Value.string) := by
  rcases h.2 with ⟨h1, h0⟩ | ⟨g, cap, cur, h1, hb, h2, h3, h4, h5, h6⟩
  · subst h1
    have hnil : l = [] := List.length_eq_zero_iff.1 h0
    subst hnil
    have KI : Hid (∀ W fv, Calls Tryd.prog 81 #[.slice none 0 0, fv] W fun e w' => e = .returned (.int .i64 (-1)) ∧ w' = W) := fun W fv => AnyE.slices_IndexFunc_empty Tryd.idxS none 0 fv W
    clear h h0 hd
    go_enter Tryd.func59, Tryd.ntmps59
    go_wp2_with (go_at_call 81; refine (KI.out _ _).mono ?_; rintro e w1 ⟨rfl, rfl⟩)
    go_ret
    exact ⟨grown_of_below (Below.refl _ _) _, none, 0, rfl, World.ownsRow_nil _ _ _ _⟩
  · subst h1
    have hH := holds_row h rfl
    have e1 : (l.map M.txt').toArray.size = l.length := by simp
    have eg : ∀ args w, (callFunc 60 args).run Tryd.prog w = .ok (.enter 60 args) w := enters_of Tryd.func60 (by kernel_rfl) rfl
    have hfn : ∀ W (x : List UInt8), w.grownBy W (some g) → FnGives Tryd.prog 60 #[.pointer (some ⟨X, 0, none⟩)] #[encStr x] (.bool (M.has dl (M.ofTxt x))) W := fun W x hW => by
      obtain ⟨h7, h8⟩ := hd W hW
      exact (lackFn_any dl (M.ofTxt x) X a2 c2 W h7 h8).mono fun e w' ⟨he, hw⟩ => ⟨he, 0, hw⟩
    have := AnyE.slices_DeleteFunc Tryd.delS encStr (fun _ => rfl) (fun t => M.has dl (M.ofTxt t)) 60 #[.pointer (some ⟨X, 0, none⟩)] eg [] (fun w => by kernel_rfl) g 0 cap (l.map M.txt').toArray w
      (fun W x hb => hfn W x (grown_of_below hb _)) (fun n os dk x hk => hfn _ x (grown_put w g n dk os)) hH (by rw [e1]; omega) (by rw [e1]; exact h3)
    rw [e1] at this
    simp only at this
    have e2 : ((l.map M.txt').filter fun x => !(M.has dl (M.ofTxt x))).map M.ofTxt = l.filter fun s => !(M.has dl s) := filter_txt l (fun s => !(M.has dl s))
    have hle : ((l.map M.txt').filter fun x => !(M.has dl (M.ofTxt x))).length ≤ l.length := by
      have := List.length_filter_le (fun x => !(M.has dl (M.ofTxt x))) (l.map M.txt')
      simpa using this
    refine this.mono fun e w' ⟨he, q, hw⟩ => ?_
    generalize ((l.map M.txt').filter fun x => !(M.has dl (M.ofTxt x))) = st at *
    have hlen : (st ++ List.replicate (l.length - st.length) ([] : List UInt8)).length = l.length := by simp; omega
    have hO2 := own_put (m := st.length) h q #[] _ hlen (by omega)
    have hG2 := grown_put w g q (st ++ List.replicate (l.length - st.length) []).toArray #[]
    rw [grow_empty] at hO2 hG2
    rw [List.take_left] at hO2
    refine ⟨by rw [hw]; exact hG2, some ⟨g, 0, none⟩, cap, by rw [he, ← e2, List.length_map], ?_⟩
    rw [hw, ← e2, List.length_map, List.map_map]
    exact hO2

end Go.Proofs.YthbdfnphnppagaaDoor

namespace Go.Proofs.YthbdfnphnppagaaDoor
open Go.RowKit
set_option linter.unusedVariables false

def lackingOfP (p : M.Prt) : List ByteArray := if M.checkPart p = 0 then M.lacking p else []

/-- rows of one kind, one made ahead of the other -/
theorem own_before {w w' : World} {B B' k n k' n' : Nat} {e e' : TypeId} {v v' : Value} {xs xs' : List Value} (h : w.ownsRow B e k v n xs) (h' : w'.ownsRow B' e' k' v' n' xs') (hB : w.heap.size ≤ B') : v.ownBlock = none ∨ v.ownBlock ≠ v'.ownBlock := by
  cases hv : v.ownBlock with
  | none => exact .inl rfl
  | some g =>
    right
    intro he
    have h1 := (h.lt g hv).2
    have h2 := (h'.lt g he.symm).1
    omega

set_option maxHeartbeats 4000000 in
set_option maxRecDepth 100000 in
theorem lackingP_any (p : M.Prt) (a1 a2 : Option Addr) (c1 c2 : Nat) (w : World) (hf : FragsAt w (.slice a1 p.frags.length c1) p.frags) (hd : DefsAt w (.slice a2 p.defs.length c2) p.defs) :
    Calls Tryd.prog 30 #[.agg #[.slice a1 p.frags.length c1, .slice a2 p.defs.length c2]] w fun e w' => Below w.heap.size w w' ∧ ∃ v, e = .returned (.tuple #[v, .int .i64 (M.checkPart p)]) ∧ w'.ownsRow w.heap.size 9 1 v (lackingOfP p).length ((lackingOfP p).map Value.string) ∧ ∀ s ∈ lackingOfP p, s.size ≤ maxLen := by
  have hA : Hid (Below w.heap.size w (w.alloc (.cells #[.slice a1 p.frags.length c1, .slice a2 p.defs.length c2] 25))) := (Below.refl _ _).alloc (Nat.le_refl _) _
  have KC : Hid (Calls Tryd.prog 8 #[.agg #[.slice a1 p.frags.length c1, .slice a2 p.defs.length c2]] (w.alloc (.cells #[.slice a1 p.frags.length c1, .slice a2 p.defs.length c2] 25)) fun e w' => e = .returned (.int .i64 (M.checkPart p)) ∧ Below (w.alloc (.cells #[.slice a1 p.frags.length c1, .slice a2 p.defs.length c2] 25)).heap.size (w.alloc (.cells #[.slice a1 p.frags.length c1, .slice a2 p.defs.length c2] 25)) w') := check_any p.frags p.defs _ _ _ _ _ (hf.later hA.out) (hd.later hA.out)
  have q0 := heap_alloc_new w (.cells #[.slice a1 p.frags.length c1, .slice a2 p.defs.length c2] 25)
  by_cases hck : M.checkPart p = 0
  · have HW : Hid (lackingOfP p = (M.rising (M.wantedNames p.frags)).filter fun s => !(M.has (M.rising (M.definedNames p.defs)) s)) := if_pos hck
    have hok := (M.ok_iff p).1 hck
    have hn := hok.nf
    have hnd := hok.nd
    have h8 := ok_rels hok
    have lW : (M.rising (M.wantedNames p.frags)).length ≤ 480 := by
      have h1 := rising_le (M.wantedNames p.frags)
      have h2 := wantedNames_le p.frags h8
      omega
    rw [hck] at KC ⊢
    clear hck hok
    go_enter Tryd.func30, Tryd.ntmps30
    go_upto_region 4 with (go_at_call 8; refine KC.out.mono ?_; rintro e X ⟨rfl, hx1⟩)
    have HX : Hid (Below w.heap.size w X) := hA.out.trans (hx1.mono hA.out.size)
    have q0 := (hx1.block _ (by simp)).trans q0
    clear hx1 KC hA
    have c1' : X.cell? ⟨w.heap.size, 1, none⟩ = some (.slice a2 p.defs.length c2) := cellB q0 1
    have hl0 : w.heap.size < X.heap.size := (Array.getElem?_eq_some_iff.1 q0).1
    have KD : Hid (Calls Tryd.prog 58 #[.slice a2 p.defs.length c2] X _) := defined_any p.defs a2 c2 X (hd.later HX.out) hnd
    go_upto_region 5 with (go_at_call 58; refine KD.out.mono ?_; rintro e x2 ⟨hb2, v2, rfl, ho2, hs2⟩; obtain ⟨ad, cd, rfl⟩ := own_len ho2)
    have q2 := (hb2.block _ hl0).trans q0
    have hb3 : Below X.heap.size X (x2.alloc (.cells #[.slice ad (M.rising (M.definedNames p.defs)).length cd] 38)) := hb2.alloc hb2.size _
    have q3 := (hb3.block _ hl0).trans q0
    have y3 := heap_alloc_new x2 (.cells #[.slice ad (M.rising (M.definedNames p.defs)).length cd] 38)
    have ho3 := ho2.alloc (.cells #[.slice ad (M.rising (M.definedNames p.defs)).length cd] 38)
    clear q0 q2 c1' KD ho2
    generalize x2.alloc (.cells #[.slice ad (M.rising (M.definedNames p.defs)).length cd] 38) = Y at *
    generalize x2.heap.size = n5 at *
    have HY : Hid (Below w.heap.size w Y) := HX.out.trans (hb3.mono HX.out.size)
    have c0' : Y.cell? ⟨w.heap.size, 0, none⟩ = some (.slice a1 p.frags.length c1) := cellB q3 0
    have hY0 : w.heap.size < Y.heap.size := (Array.getElem?_eq_some_iff.1 q3).1
    have KW : Hid (Calls Tryd.prog 57 #[.slice a1 p.frags.length c1] Y _) := wanted_any p.frags a1 c1 Y (hf.later HY.out) hn h8
    have HRow : Hid (Y.ownsRow X.heap.size 9 1 (.slice ad (M.rising (M.definedNames p.defs)).length cd) (M.rising (M.definedNames p.defs)).length ((M.rising (M.definedNames p.defs)).map Value.string)) := ho3
    have Hs2 : Hid (∀ s ∈ M.rising (M.definedNames p.defs), s.size ≤ maxLen) := hs2
    have Hy3 : Hid (Y.heap[n5]? = some (.cells #[.slice ad (M.rising (M.definedNames p.defs)).length cd] 38 (0, 0))) := y3
    clear ho3 hs2 y3 hb3 hb2 q3 hf hd h8
    generalize M.rising (M.wantedNames p.frags) = LW at *
    generalize M.rising (M.definedNames p.defs) = LD at *
    go_wp2_with (go_at_call 57; refine KW.out.mono ?_; rintro e x4 ⟨hb4, v4, rfl, ho4, hs4⟩; obtain ⟨aw, cw, rfl⟩ := own_len ho4; refine Hid.out ?_)
    have KX : Hid (Calls Tryd.prog 59 #[.slice aw LW.length cw, .func (.func 60) #[] #[.pointer (some ⟨n5, 0, none⟩)]] x4 _) := delete_own LW LD Y.heap.size n5 (.slice aw LW.length cw) ad cd x4 ho4 (by omega) (fun W hW => by
      have hr4 := HRow.out.kept (grown_of_below hb4 none) own_self
      have hap := own_before HRow.out ho4 (Nat.le_refl _)
      have hb5 := (hb4.block _ (Array.getElem?_eq_some_iff.1 Hy3.out).1).trans Hy3.out
      exact ⟨row_strs (hr4.kept hW hap) Hs2.out, cellB (block_kept ho4 hW hb5 (by decide)) 0⟩)
    have hw4 : Below w.heap.size w x4 := HY.out.trans (hb4.mono HY.out.size)
    refine Lib.hid ?_
    go_wp2_with (go_at_call 59; refine KX.out.mono ?_; rintro e x5 ⟨hg5, xa, xc, rfl, ho5⟩)
    go_ret2
    have hle := HY.out.size
    refine ⟨hw4.grown hg5 hw4.size (fun k hk => Nat.le_trans hle (ho4.lt k hk).1), _, rfl, by rw [HW.out]; exact row_base ho5 hle, by rw [HW.out]; exact fun s hs => hs4 s (List.mem_filter.1 hs).1⟩
  · have HW : Hid (lackingOfP p = []) := if_neg hck
    have hne : (M.checkPart p != 0) = true := by simpa using hck
    clear hck
    generalize M.checkPart p = er at *
    go_enter Tryd.func30, Tryd.ntmps30
    go_wp2_with (go_at_call 8; refine KC.out.mono ?_; rintro e x1 ⟨rfl, hx1⟩)
    go_ret2
    exact ⟨hA.out.trans (hx1.mono hA.out.size), _, rfl, by rw [HW.out]; exact World.ownsRow_nil _ _ _ _, by rw [HW.out]; exact fun s hs => by cases hs⟩

end Go.Proofs.YthbdfnphnppagaaDoor
