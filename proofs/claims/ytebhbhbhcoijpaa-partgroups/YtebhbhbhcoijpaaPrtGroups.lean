/-
  The contract of part.groups.
-/
import Derived.Test.YtebhbhbhcoijpaaPrtStrs
import Derived.Test.YtebhbhbhcoijpaaOwnRow
import Derived.Test.YtebhbhbhcoijpaaCheck
import Derived.Lib.Hide
namespace Go.Proofs.Ytebhbhbhcoijpaa
open Go.RowKit
set_option linter.unusedVariables false

theorem row_strs {w : World} {B : Nat} {v : Value} {l : List ByteArray} (h : w.ownsRow B 9 1 v l.length (l.map Value.string)) (hs : ∀ s ∈ l, s.size ≤ maxLen) : StrsAt w v l := by
  refine ⟨?_, hs⟩
  have e1 : l.map Value.string = l.flatMap (fun x => [Value.string x]) := by clear h hs; induction l <;> simp_all
  rw [e1] at h
  refine (row_slice (k := 1) str0 (fun x => [Value.string x]) (fun _ => rfl) l h).congr' (fun j i hj hi => ?_)
  obtain rfl : i = 0 := by omega
  rfl

theorem own_cap {w : World} {B k n : Nat} {e : TypeId} {v : Value} {xs : List Value} (h : w.ownsRow B e k v n xs) : ∃ ad nn cc, v = .slice ad nn cc ∧ nn ≤ cc := by
  rcases h.2 with ⟨h1, _⟩ | ⟨g, cap, cur, h1, _, _, h2, _⟩
  · exact ⟨_, _, _, h1, Nat.le_refl _⟩
  · exact ⟨_, _, _, h1, h2⟩

set_option maxHeartbeats 2000000 in
set_option maxRecDepth 100000 in
theorem groups_any (fs : List M.Frg) (a : Option Addr) (c : Nat) (w : World) (hf : FragsAt w (.slice a fs.length c) fs) (h60 : fs.length ≤ 60) :
    Calls Try.prog 44 #[.slice a fs.length c] w fun e w' => Below w.heap.size w w' ∧ ∃ v, e = .returned v ∧ (∃ ad nn cc, v = .slice ad nn cc ∧ nn ≤ cc) ∧ StrsAt w' v (M.groups fs) := by
  obtain ⟨i0, hi, hz0, hz1, hz2⟩ := info_parts (P := Try.prog) (e := 9) (z := .string ⟨#[]⟩) (size := 1) (bytes := 16) (by kernel_rfl)
  go_enter Try.func44, Try.ntmps44
  go_wp2_with fail
  go_loopw [3, 8] (fun s3 s8 wr => ∃ (k : Nat) (l : List ByteArray), k ≤ fs.length ∧ s8 = .int .i64 k ∧ Hid (l = (fs.take k).foldl M.addGroup []) ∧ l.length ≤ k ∧ Hid (∀ s ∈ l, s.size ≤ maxLen) ∧ wr.ownsRow w.heap.size 9 1 s3 l.length (l.map Value.string) ∧ Hid (Below w.heap.size w wr)) (fun _ s8 _ => fs.length - (intOf s8).toNat)
  case atStart => exact ⟨0, [], Nat.zero_le _, rfl, rfl, Nat.le_refl _, (fun s hs => by cases hs), World.ownsRow_nil _ _ _ _, Below.refl _ _⟩
  case round =>
    obtain ⟨k, l, hk, rfl, HL, hlk, HS, hown, HB⟩ := hrel
    by_cases hlt : k < fs.length
    · obtain ⟨b, off, ab, cb, ar, cr, rfl, e0, e1, e2, e3, e4, e5, hBy, hRl, hg, hbl⟩ := (hf.later HB.out).cells k hlt
      have HL1 : Hid (M.addGroup l (fs.getD k frg0) = (fs.take (k + 1)).foldl M.addGroup []) := by
        rw [Hid, List.take_succ_eq_append_getElem hlt, List.foldl_append, ← HL.out]
        simp only [List.foldl_cons, List.foldl_nil]
        rw [List.getD_eq_getElem?_getD, List.getElem?_eq_getElem hlt]; rfl
      clear hBy hRl hbl HL
      have HSt : Hid (∀ o, StrsAt (wr.alloc o) u3 l) := fun o => row_strs (hown.alloc o) HS.out
      obtain ⟨ad, nn, cc, rfl⟩ := own_form hown
      have hnn : nn = l.length := by obtain ⟨_, _, h, _⟩ := (HSt.out (.cells #[] 0)).1.form; cases h; rfl
      subst hnn
      unfold M.addGroup at HL1
      generalize fs.getD k frg0 = f at *
      obtain ⟨s, al, g, bs, sz, rs⟩ := f
      simp only at e0 e1 e2 e3 e4 e5 hg HL1
      have hbr : b < wr.heap.size := World.block_lt_of_cell? _ _ e0
      have hkl : (k : Int) < (fs.length : Int) := by omega
      have hw0 : w.heap.size ≤ wr.heap.size := HB.out.size
      generalize bs.length = n1 at *
      generalize rs.length = m1 at *
      have HK : Hid (∀ o, Calls Try.prog 17 #[.slice ad l.length cc, .string g] (wr.alloc o) fun e w' => e = .returned (.bool (M.has l g)) ∧ w' = wr.alloc o) := fun o => containsS_any l g ad cc _ (HSt.out o)
      have HBa : Hid (∀ o, Below w.heap.size w (wr.alloc o)) := fun o => HB.out.alloc hw0 o
      clear hf
      cases hb : M.bare g
      · rw [hb] at HL1
        have hb' : g.toList.isEmpty = false := hb
        clear hb
        cases hh : M.has l g
        · rw [hh] at HL1 HK
          have HL2 : Hid (l ++ [g] = (fs.take (k + 1)).foldl M.addGroup []) := HL1
          clear HL1
          go_wp2_with (go_at_call 17; refine (HK.out _).mono ?_; rintro e w1 ⟨rfl, rfl⟩; refine Hid.out ?_)
          have hownX := hown.alloc (.cells #[.int .i64 s, .int .i64 al, .string g, .slice ab n1 cb, .int .i64 sz, .slice ar m1 cr] 43)
          have HBX := HBa.out (.cells #[.int .i64 s, .int .i64 al, .string g, .slice ab n1 cb, .int .i64 sz, .slice ar m1 cr] 43)
          have HBX : Hid (Below w.heap.size w _) := HBX
          have hxc : (wr.alloc (.cells #[.int .i64 s, .int .i64 al, .string g, .slice ab n1 cb, .int .i64 sz, .slice ar m1 cr] 43)).cell? ⟨wr.heap.size, 2, none⟩ = some (.string g) := by simp
          have hxs : wr.heap.size < (wr.alloc (.cells #[.int .i64 s, .int .i64 al, .string g, .slice ab n1 cb, .int .i64 sz, .slice ar m1 cr] 43)).heap.size := by simp
          clear HK HBa HSt
          generalize wr.alloc (.cells #[.int .i64 s, .int .i64 al, .string g, .slice ab n1 cb, .int .i64 sz, .slice ar m1 cr] 43) = X at *
          refine Lib.hid ?_
          go_wp2_with (at_builtin; refine wpList_append_own _ rfl _ _ 35 rfl w.heap.size 9 i0 (.string ⟨#[]⟩) 1 16 Try.underlying35 hi hz0 hz1 hz2 rfl (by decide) _ _ _ rfl (hownX.alloc _) ⟨X.heap.size, 0, none⟩ 1 1 [.string g] rfl rfl (cell_one_new _ _ _) (fun u hu => by simp at hu; subst hu; rfl) (by unfold maxLen; omega) (by omega) (by simp; omega) ?_; intro v' w3 hown' hgrow3 hnil3)
          go_roundw
          case rel =>
            refine ⟨k + 1, l ++ [g], by omega, by go_num, HL2, by simp; omega, ?_, ?_, ?_⟩
            · intro x hx
              rcases List.mem_append.1 hx with hx | hx
              · exact HS.out x hx
              · rw [List.mem_singleton.1 hx]; exact hg
            · rw [List.length_append, List.map_append]; exact hown'
            · refine (HBX.out.alloc (by omega) _).grown hgrow3 (by simp; omega) (fun k hk => ?_)
              exact (hownX.lt k hk).1
          case measure => simp [intOf]; omega
        · rw [hh] at HL1 HK
          have HL2 : Hid (l = (fs.take (k + 1)).foldl M.addGroup []) := HL1
          clear HL1
          go_wp2_with (go_at_call 17; refine (HK.out _).mono ?_; rintro e w1 ⟨rfl, rfl⟩)
          go_roundw
          case rel => exact ⟨k + 1, l, by omega, by go_num, HL2, by omega, HS, hown.alloc _, HBa.out _⟩
          case measure => simp [intOf]; omega
      · rw [hb] at HL1
        have hb' : g.toList.isEmpty = true := hb
        clear hb
        have HL2 : Hid (l = (fs.take (k + 1)).foldl M.addGroup []) := HL1
        clear HL1
        go_wp2_with fail
        go_roundw
        case rel => exact ⟨k + 1, l, by omega, by go_num, HL2, by omega, HS, hown.alloc _, HBa.out _⟩
        case measure => simp [intOf]; omega
    · have hkl : k = fs.length := by omega
      have HL2 : Hid (l = M.groups fs) := by
        rw [Hid, HL.out, hkl, List.take_length]; rfl
      have HSt : Hid (StrsAt wr u3 l) := row_strs hown HS.out
      have hform := own_cap hown
      clear HL
      subst hkl
      go_wp2
      go_ret
      exact ⟨HB.out, _, rfl, hform, by rw [← HL2.out]; exact HSt.out⟩

end Go.Proofs.Ytebhbhbhcoijpaa
