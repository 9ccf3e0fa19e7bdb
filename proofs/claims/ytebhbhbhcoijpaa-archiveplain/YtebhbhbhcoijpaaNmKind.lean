/-
  The contract of names.find's own function: the definitions of a name and a kind.
-/
import Derived.Test.YtebhbhbhcoijpaaNmMath2
import Derived.Test.YtebhbhbhcoijpaaPrtStrs
import Derived.Test.YtebhbhbhcoijpaaOwnRow
import Derived.Test.YtebhbhbhcoijpaaCheck
import Derived.Test.YtebhbhbhcoijpaaSame
import Derived.Lib.Hide
import Derived.Deep.DeepCutAuto
import Derived.Deep.AppendLies
namespace Go.Proofs.Ytebhbhbhcoijpaa
open Go.RowKit
set_option linter.unusedVariables false

def dfnArr (d : M.Dfn) : Array Value := #[.string d.name, .int .i64 d.kind, .int .i64 d.frag, .int .i64 d.pos, .int .i64 d.size, .int .i64 d.align]

theorem row_defs {w : World} {B : Nat} {v : Value} {l : List M.Dfn} (h : w.ownsRow B 69 6 v l.length (l.flatMap encDfn)) (hs : ∀ d ∈ l, d.name.size ≤ maxLen) : DefsAt w v l := by
  refine ⟨(row_slice (k := 6) dfn0 encDfn (fun _ => rfl) l h).congr' (fun j i hj hi => ?_), hs⟩
  rcases (by omega : i = 0 ∨ i = 1 ∨ i = 2 ∨ i = 3 ∨ i = 4 ∨ i = 5) with rfl | rfl | rfl | rfl | rfl | rfl <;> rfl

theorem kind_take (ds : List M.Dfn) (s : ByteArray) (kind : Int) (k : Nat) (h : k < ds.length) : M.ofKind (ds.take (k + 1)) s kind = M.ofKind (ds.take k) s kind ++ bif M.isDef s kind (ds.getD k dfn0) then [ds.getD k dfn0] else [] := by
  unfold M.ofKind
  rw [List.take_succ_eq_append_getElem h, List.filter_append, List.getD_eq_getElem?_getD, List.getElem?_eq_getElem h]
  simp only [Option.getD_some, List.filter_cons, List.filter_nil]
  cases M.isDef s kind ds[k] <;> rfl

set_option maxHeartbeats 2000000 in
set_option maxRecDepth 100000 in
theorem ofKind_any (ds : List M.Dfn) (s : ByteArray) (kind : Int) (a : Option Addr) (c X : Nat) (w : World) (hd : DefsAt w (.slice a ds.length c) ds) (h60 : ds.length ≤ 60)
    (c0 : w.cell? ⟨X, 0, none⟩ = some (.slice a ds.length c)) (c1 : w.cell? ⟨X + 1, 0, none⟩ = some (.string s)) :
    Calls Try.prog 109 #[.int .i64 kind, .pointer (some ⟨X, 0, none⟩), .pointer (some ⟨X + 1, 0, none⟩)] w fun e w' =>
      Below w.heap.size w w' ∧ ∃ x y, e = .returned (.slice x (M.ofKind ds s kind).length y) ∧ DefsAt w' (.slice x (M.ofKind ds s kind).length y) (M.ofKind ds s kind) := by
  obtain ⟨i1, hi1, hy0, hy1, hy2⟩ := info_parts (P := Try.prog) (e := 69) (z := .agg #[.string ⟨#[]⟩, .int .i64 0, .int .i64 0, .int .i64 0, .int .i64 0, .int .i64 0]) (size := 6) (bytes := 56) (by kernel_rfl)
  have hX0 : X < w.heap.size := World.block_lt_of_cell? _ _ c0
  have hX1 : X + 1 < w.heap.size := World.block_lt_of_cell? _ _ c1
  go_enter Try.func109, Try.ntmps109
  go_wp2_with fail
  go_loopw [5, 10] (fun s5 s10 wr => ∃ (k : Nat) (l : List M.Dfn), k ≤ ds.length ∧ s10 = .int .i64 k ∧ Hid (l = M.ofKind (ds.take k) s kind) ∧ l.length ≤ k ∧ wr.ownsRow w.heap.size 69 6 s5 l.length (l.flatMap encDfn) ∧ Hid (Below w.heap.size w wr)) (fun _ s10 _ => ds.length - (intOf s10).toNat)
  case atStart => exact ⟨0, [], Nat.zero_le _, rfl, rfl, Nat.le_refl _, World.ownsRow_nil _ _ _ _, Below.refl _ _⟩
  case round =>
    obtain ⟨k, l, hk, rfl, HL, hlk, hown, HB⟩ := hrel
    have hw0 : w.heap.size ≤ wr.heap.size := HB.out.size
    by_cases hlt : k < ds.length
    · obtain ⟨b, off, rfl, e0, e1, e2, e3, e4, e5, hnm⟩ := (hd.later HB.out).cells k hlt
      have hbr : b < wr.heap.size := World.block_lt_of_cell? _ _ e0
      have cs1 : wr.cell? ⟨X + 1, 0, none⟩ = some (.string s) := cell_later HB.out c1
      have HL1 := kind_take ds s kind k hlt
      rw [← HL.out] at HL1
      have hkl : (k : Int) < (ds.length : Int) := by omega
      have hXr : X + 1 < wr.heap.size := by omega
      clear HL hd c0 c1 hX0 hX1
      unfold M.isDef at HL1
      generalize ds.getD k dfn0 = d at *
      obtain ⟨nm, kd, fr, pos, sz, al⟩ := d
      simp only at e0 e1 e2 e3 e4 e5 hnm HL1
      obtain ⟨a5, n5, c5, rfl⟩ := own_form hown
      cases hx : (nm.toList == s.toList)
      · rw [hx] at HL1
        have HL2 : Hid (l = M.ofKind (ds.take (k + 1)) s kind) := by rw [Hid, HL1]; simp
        clear HL1
        have HE : Hid (∀ o, (wr.alloc o).ownsRow w.heap.size 69 6 (.slice a5 n5 c5) l.length (l.flatMap encDfn) ∧ Below w.heap.size w (wr.alloc o)) := fun o => ⟨hown.alloc o, HB.out.alloc hw0 _⟩
        go_wp2
        go_roundw
        case rel => exact ⟨k + 1, l, by omega, by go_num, HL2, by omega, (HE.out _).1, (HE.out _).2⟩
        case measure => simp [intOf]; omega
      · cases hy : (kd == kind)
        · rw [hx, hy] at HL1
          have HL2 : Hid (l = M.ofKind (ds.take (k + 1)) s kind) := by rw [Hid, HL1]; simp
          clear HL1
          have HE : Hid (∀ o, (wr.alloc o).ownsRow w.heap.size 69 6 (.slice a5 n5 c5) l.length (l.flatMap encDfn) ∧ Below w.heap.size w (wr.alloc o)) := fun o => ⟨hown.alloc o, HB.out.alloc hw0 _⟩
          go_wp2
          go_roundw
          case rel => exact ⟨k + 1, l, by omega, by go_num, HL2, by omega, (HE.out _).1, (HE.out _).2⟩
          case measure => simp [intOf]; omega
        · rw [hx, hy] at HL1
          have HL2 : Hid (l ++ [⟨nm, kd, fr, pos, sz, al⟩] = M.ofKind (ds.take (k + 1)) s kind) := by rw [Hid, HL1]; simp
          clear HL1
          go_upto_region 6 with fail
          have hownX := hown.alloc (.cells #[.string nm, .int .i64 kd, .int .i64 fr, .int .i64 pos, .int .i64 sz, .int .i64 al] 69)
          have HBX : Hid (Below w.heap.size w (wr.alloc (.cells #[.string nm, .int .i64 kd, .int .i64 fr, .int .i64 pos, .int .i64 sz, .int .i64 al] 69))) := HB.out.alloc hw0 _
          have x3 := heap_alloc_new wr (.cells #[.string nm, .int .i64 kd, .int .i64 fr, .int .i64 pos, .int .i64 sz, .int .i64 al] 69)
          have hXs : wr.heap.size < (wr.alloc (.cells #[.string nm, .int .i64 kd, .int .i64 fr, .int .i64 pos, .int .i64 sz, .int .i64 al] 69)).heap.size := by simp
          clear hown HB e0 e1 e2 e3 e4 e5 cs1
          generalize wr.alloc (.cells #[.string nm, .int .i64 kd, .int .i64 fr, .int .i64 pos, .int .i64 sz, .int .i64 al] 69) = Y at *
          have k0 : Y.cell? ⟨wr.heap.size, 0, none⟩ = some (.string nm) := cellB x3 0
          have k1 : Y.cell? ⟨wr.heap.size, 1, none⟩ = some (.int .i64 kd) := cellB x3 1
          have k2 : Y.cell? ⟨wr.heap.size, 2, none⟩ = some (.int .i64 fr) := cellB x3 2
          have k3 : Y.cell? ⟨wr.heap.size, 3, none⟩ = some (.int .i64 pos) := cellB x3 3
          have k4 : Y.cell? ⟨wr.heap.size, 4, none⟩ = some (.int .i64 sz) := cellB x3 4
          have k5 : Y.cell? ⟨wr.heap.size, 5, none⟩ = some (.int .i64 al) := cellB x3 5
          have hwY : w.heap.size ≤ Y.heap.size := by omega
          have hnews : ∀ j u, (#[.string nm, .int .i64 kd, .int .i64 fr, .int .i64 pos, .int .i64 sz, .int .i64 al] : Array Value).toList[j]? = some u → (Y.alloc (.cells #[.string nm, .int .i64 kd, .int .i64 fr, .int .i64 pos, .int .i64 sz, .int .i64 al] 69)).cell? ((⟨Y.heap.size, 0, none⟩ : Addr).add j) = some u := World.news_of_block (heap_alloc_new Y _)
          have HE : Hid (∀ v' w3, (Y.alloc (.cells #[.string nm, .int .i64 kd, .int .i64 fr, .int .i64 pos, .int .i64 sz, .int .i64 al] 69)).grownBy w3 (Value.slice a5 n5 c5).ownBlock → w3.ownsRow w.heap.size 69 6 v' (l.length + 1) (l.flatMap encDfn ++ (#[.string nm, .int .i64 kd, .int .i64 fr, .int .i64 pos, .int .i64 sz, .int .i64 al] : Array Value).toList) → w3.ownsRow w.heap.size 69 6 v' (l ++ [(⟨nm, kd, fr, pos, sz, al⟩ : M.Dfn)]).length ((l ++ [(⟨nm, kd, fr, pos, sz, al⟩ : M.Dfn)]).flatMap encDfn) ∧ Below w.heap.size w w3) := fun v' w3 hg ho =>
            ⟨by rw [List.length_append, List.flatMap_append]; exact ho, (HBX.out.alloc hwY _).grown hg (by simp; omega) (fun k hk => (hownX.lt k hk).1)⟩
          clear x3 HBX
          go_wp2_with (at_builtin; refine wpList_append_own _ rfl _ _ 23 rfl w.heap.size 69 i1 (.agg #[.string ⟨#[]⟩, .int .i64 0, .int .i64 0, .int .i64 0, .int .i64 0, .int .i64 0]) 6 56 Try.underlying23 hi1 hy0 hy1 hy2 rfl (by decide) _ _ _ rfl (hownX.alloc _) ⟨Y.heap.size, 0, none⟩ 1 1 (#[.string nm, .int .i64 kd, .int .i64 fr, .int .i64 pos, .int .i64 sz, .int .i64 al] : Array Value).toList rfl rfl hnews (fun u hu => by simp at hu; rcases hu with rfl | rfl | rfl | rfl | rfl | rfl <;> rfl) (by unfold maxLen; omega) (by omega) (by simp; omega) ?_; intro v' w3 hown' hgrow3 hnil3)
          go_roundw
          case rel => exact ⟨k + 1, l ++ [⟨nm, kd, fr, pos, sz, al⟩], by omega, by go_num, HL2, by simp; omega, (HE.out _ _ hgrow3 hown').1, (HE.out _ _ hgrow3 hown').2⟩
          case measure => simp [intOf]; omega
    · have hkl : k = ds.length := by omega
      have HL2 : l = M.ofKind ds s kind := by rw [HL.out, hkl, List.take_length]
      have hs : ∀ d ∈ l, d.name.size ≤ maxLen := fun d hd' => hd.2 d (by rw [HL2] at hd'; exact (List.mem_filter.1 hd').1)
      have HD : Hid (DefsAt wr u5 l) := row_defs hown hs
      have HL3 : Hid (l = M.ofKind ds s kind) := HL2
      clear HL HL2 hs
      subst hkl
      obtain ⟨a5, c5, he, _⟩ := HD.out.1.form
      subst he
      go_wp2
      go_ret
      exact ⟨HB.out, a5, c5, by rw [← HL3.out]; rfl, by rw [← HL3.out]; exact HD.out⟩

end Go.Proofs.Ytebhbhbhcoijpaa
