/-
  The contracts of slices.IsSorted, slices.ContainsFunc and slices.DeleteFunc at texts, with the functions that are handed to them.
-/
import Derived.Test.YthlmbnpecmdhoaaDoorNmLib2
namespace Go.Proofs.YthlmbnpecmdhoaaDoor
open Go Go.RowKit Go.Sort
set_option linter.unusedVariables false


theorem lackFn_any (dl : List ByteArray) (s : ByteArray) (X : Nat) (a : Option Addr) (c : Nat) (W : World) (hd : StrsAt W (.slice a dl.length c) dl) (hc : W.cell? ⟨X, 0, none⟩ = some (.slice a dl.length c)) :
    Calls Tryd.prog 22 #[.string s, .pointer (some ⟨X, 0, none⟩)] W fun e w' => e = .returned (.bool (M.has dl s)) ∧ w' = W := by
  have HK : Hid (Calls Tryd.prog 13 #[.slice a dl.length c, .string s] W fun e w' => e = .returned (.bool (M.has dl s)) ∧ w' = W) := containsS_any dl s a c W hd
  generalize M.has dl s = R at *
  clear hd
  go_enter Tryd.func22, Tryd.ntmps22
  go_wp2_with (go_at_call 13; refine HK.out.mono ?_; rintro e w1 ⟨rfl, rfl⟩)
  go_ret
  exact ⟨rfl, rfl⟩

theorem filter_txt (l : List ByteArray) (p : ByteArray → Bool) : ((l.map M.txt').filter fun t => p (M.ofTxt t)).map M.ofTxt = l.filter p := by
  induction l with
  | nil => rfl
  | cons s l ih =>
    simp only [List.map_cons, List.filter_cons, M.of_txt]
    cases p s
    · simpa using ih
    · simp [M.of_txt, ih]

set_option maxHeartbeats 1000000 in
set_option maxRecDepth 100000 in
theorem delete_own (l dl : List ByteArray) (B X : Nat) (v : Value) (a2 : Option Addr) (c2 : Nat) (w : World) (h : w.ownsRow B 9 1 v l.length (l.map Value.string)) (hl : l.length ≤ 100000)
    (hd : ∀ W, w.grownBy W v.ownBlock → StrsAt W (.slice a2 dl.length c2) dl ∧ W.cell? ⟨X, 0, none⟩ = some (.slice a2 dl.length c2)) :
    Calls Tryd.prog 21 #[v, .func (.func 22) #[] #[.pointer (some ⟨X, 0, none⟩)]] w fun e w' => w.grownBy w' v.ownBlock ∧ ∃ x c, e = .returned (.slice x (l.filter fun s => !(M.has dl s)).length c) ∧ w'.ownsRow B 9 1 (.slice x (l.filter fun s => !(M.has dl s)).length c) (l.filter fun s => !(M.has dl s)).length ((l.filter fun s => !(M.has dl s)).map Value.string) := by
  rcases h.2 with ⟨h1, h0⟩ | ⟨g, cap, cur, h1, hb, h2, h3, h4, h5, h6⟩
  · subst h1
    have hnil : l = [] := List.length_eq_zero_iff.1 h0
    subst hnil
    have KI : Hid (∀ W fv, Calls Tryd.prog 33 #[.slice none 0 0, fv] W fun e w' => e = .returned (.int .i64 (-1)) ∧ w' = W) := fun W fv => AnyE.slices_IndexFunc_empty Tryd.idxS none 0 fv W
    clear h h0 hd
    go_enter Tryd.func21, Tryd.ntmps21
    go_wp2_with (go_at_call 33; refine (KI.out _ _).mono ?_; rintro e w1 ⟨rfl, rfl⟩)
    go_ret
    exact ⟨grown_of_below (Below.refl _ _) _, none, 0, rfl, World.ownsRow_nil _ _ _ _⟩
  · subst h1
    have hH := holds_row h rfl
    have e1 : (l.map M.txt').toArray.size = l.length := by simp
    have eg : ∀ args w, (callFunc 22 args).run Tryd.prog w = .ok (.enter 22 args) w := enters_of Tryd.func22 (by kernel_rfl) rfl
    have hfn : ∀ W (x : List UInt8), w.grownBy W (some g) → FnGives Tryd.prog 22 #[.pointer (some ⟨X, 0, none⟩)] #[encStr x] (.bool (M.has dl (M.ofTxt x))) W := fun W x hW => by
      obtain ⟨h7, h8⟩ := hd W hW
      exact (lackFn_any dl (M.ofTxt x) X a2 c2 W h7 h8).mono fun e w' ⟨he, hw⟩ => ⟨he, 0, hw⟩
    have := AnyE.slices_DeleteFunc Tryd.delS encStr (fun _ => rfl) (fun t => M.has dl (M.ofTxt t)) 22 #[.pointer (some ⟨X, 0, none⟩)] eg [] (fun w => by kernel_rfl) g 0 cap (l.map M.txt').toArray w
      (fun W x hb => hfn W x (grown_of_below hb _)) (fun n os dk x hk => hfn _ x (grown_put w g n dk os)) hH (by rw [e1]; omega) (by rw [e1]; exact h3)
    rw [e1] at this
    simp only at this
    have e2 : ((l.map M.txt').filter fun x => !(M.has dl (M.ofTxt x))).map M.ofTxt = l.filter fun s => !(M.has dl s) := filter_txt l (fun s => !(M.has dl s))
    have hle : ((l.map M.txt').filter fun x => !(M.has dl (M.ofTxt x))).length ≤ l.length := by
      have := List.length_filter_le (fun x => !(M.has dl (M.ofTxt x))) (l.map M.txt')
      simpa using this
    refine this.mono fun e w' ⟨he, q, hw⟩ => ?_
    generalize ((l.map M.txt').filter fun x => !(M.has dl (M.ofTxt x))) = st at *
    have hlen : (st ++ List.replicate (l.length - st.length) ([] : List UInt8)).length = l.length := by simp; omega
    have hO2 := own_put (m := st.length) h q #[] _ hlen (by omega)
    have hG2 := grown_put w g q (st ++ List.replicate (l.length - st.length) []).toArray #[]
    rw [grow_empty] at hO2 hG2
    rw [List.take_left] at hO2
    refine ⟨by rw [hw]; exact hG2, some ⟨g, 0, none⟩, cap, by rw [he, ← e2, List.length_map], ?_⟩
    rw [hw, ← e2, List.length_map, List.map_map]
    exact hO2

end Go.Proofs.YthlmbnpecmdhoaaDoor
