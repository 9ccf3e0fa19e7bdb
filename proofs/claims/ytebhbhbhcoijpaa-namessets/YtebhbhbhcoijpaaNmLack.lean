/-
  The contract of names.Lacking.
-/
import Derived.Test.YtebhbhbhcoijpaaNmLib3
import Derived.Test.YtebhbhbhcoijpaaNmFaults
namespace Go.Proofs.Ytebhbhbhcoijpaa
open Go.RowKit
set_option linter.unusedVariables false

def lackingOfP (p : M.Prt) : List ByteArray := if M.checkPart p = 0 then M.lacking p else []

/-- rows of one kind, one made ahead of the other -/
theorem own_before {w w' : World} {B B' k n k' n' : Nat} {e e' : TypeId} {v v' : Value} {xs xs' : List Value} (h : w.ownsRow B e k v n xs) (h' : w'.ownsRow B' e' k' v' n' xs') (hB : w.heap.size ≤ B') : v.ownBlock = none ∨ v.ownBlock ≠ v'.ownBlock := by
  cases hv : v.ownBlock with
  | none => exact .inl rfl
  | some g =>
    right
    intro he
    have h1 := (h.lt g hv).2
    have h2 := (h'.lt g he.symm).1
    omega

set_option maxHeartbeats 4000000 in
set_option maxRecDepth 100000 in
theorem lackingP_any (p : M.Prt) (a1 a2 : Option Addr) (c1 c2 : Nat) (w : World) (hf : FragsAt w (.slice a1 p.frags.length c1) p.frags) (hd : DefsAt w (.slice a2 p.defs.length c2) p.defs) :
    Calls Try.prog 24 #[.agg #[.slice a1 p.frags.length c1, .slice a2 p.defs.length c2]] w fun e w' => Below w.heap.size w w' ∧ ∃ v, e = .returned (.tuple #[v, .int .i64 (M.checkPart p)]) ∧ w'.ownsRow w.heap.size 9 1 v (lackingOfP p).length ((lackingOfP p).map Value.string) ∧ ∀ s ∈ lackingOfP p, s.size ≤ maxLen := by
  have hA : Hid (Below w.heap.size w (w.alloc (.cells #[.slice a1 p.frags.length c1, .slice a2 p.defs.length c2] 25))) := (Below.refl _ _).alloc (Nat.le_refl _) _
  have KC : Hid (Calls Try.prog 13 #[.agg #[.slice a1 p.frags.length c1, .slice a2 p.defs.length c2]] (w.alloc (.cells #[.slice a1 p.frags.length c1, .slice a2 p.defs.length c2] 25)) fun e w' => e = .returned (.int .i64 (M.checkPart p)) ∧ Below (w.alloc (.cells #[.slice a1 p.frags.length c1, .slice a2 p.defs.length c2] 25)).heap.size (w.alloc (.cells #[.slice a1 p.frags.length c1, .slice a2 p.defs.length c2] 25)) w') := check_any p.frags p.defs _ _ _ _ _ (hf.later hA.out) (hd.later hA.out)
  have q0 := heap_alloc_new w (.cells #[.slice a1 p.frags.length c1, .slice a2 p.defs.length c2] 25)
  by_cases hck : M.checkPart p = 0
  · have HW : Hid (lackingOfP p = (M.rising (M.wantedNames p.frags)).filter fun s => !(M.has (M.rising (M.definedNames p.defs)) s)) := if_pos hck
    have hok := (M.ok_iff p).1 hck
    have hn := hok.nf
    have hnd := hok.nd
    have h8 := ok_rels hok
    have lW : (M.rising (M.wantedNames p.frags)).length ≤ 480 := by
      have h1 := rising_le (M.wantedNames p.frags)
      have h2 := wantedNames_le p.frags h8
      omega
    rw [hck] at KC ⊢
    clear hck hok
    go_enter Try.func24, Try.ntmps24
    go_upto_region 4 with (go_at_call 13; refine KC.out.mono ?_; rintro e X ⟨rfl, hx1⟩)
    have HX : Hid (Below w.heap.size w X) := hA.out.trans (hx1.mono hA.out.size)
    have q0 := (hx1.block _ (by simp)).trans q0
    clear hx1 KC hA
    have c1' : X.cell? ⟨w.heap.size, 1, none⟩ = some (.slice a2 p.defs.length c2) := cellB q0 1
    have hl0 : w.heap.size < X.heap.size := (Array.getElem?_eq_some_iff.1 q0).1
    have KD : Hid (Calls Try.prog 56 #[.slice a2 p.defs.length c2] X _) := defined_any p.defs a2 c2 X (hd.later HX.out) hnd
    go_upto_region 5 with (go_at_call 56; refine KD.out.mono ?_; rintro e x2 ⟨hb2, v2, rfl, ho2, hs2⟩; obtain ⟨ad, cd, rfl⟩ := own_len ho2)
    have q2 := (hb2.block _ hl0).trans q0
    have hb3 : Below X.heap.size X (x2.alloc (.cells #[.slice ad (M.rising (M.definedNames p.defs)).length cd] 35)) := hb2.alloc hb2.size _
    have q3 := (hb3.block _ hl0).trans q0
    have y3 := heap_alloc_new x2 (.cells #[.slice ad (M.rising (M.definedNames p.defs)).length cd] 35)
    have ho3 := ho2.alloc (.cells #[.slice ad (M.rising (M.definedNames p.defs)).length cd] 35)
    clear q0 q2 c1' KD ho2
    generalize x2.alloc (.cells #[.slice ad (M.rising (M.definedNames p.defs)).length cd] 35) = Y at *
    generalize x2.heap.size = n5 at *
    have HY : Hid (Below w.heap.size w Y) := HX.out.trans (hb3.mono HX.out.size)
    have c0' : Y.cell? ⟨w.heap.size, 0, none⟩ = some (.slice a1 p.frags.length c1) := cellB q3 0
    have hY0 : w.heap.size < Y.heap.size := (Array.getElem?_eq_some_iff.1 q3).1
    have KW : Hid (Calls Try.prog 55 #[.slice a1 p.frags.length c1] Y _) := wanted_any p.frags a1 c1 Y (hf.later HY.out) hn h8
    have HRow : Hid (Y.ownsRow X.heap.size 9 1 (.slice ad (M.rising (M.definedNames p.defs)).length cd) (M.rising (M.definedNames p.defs)).length ((M.rising (M.definedNames p.defs)).map Value.string)) := ho3
    have Hs2 : Hid (∀ s ∈ M.rising (M.definedNames p.defs), s.size ≤ maxLen) := hs2
    have Hy3 : Hid (Y.heap[n5]? = some (.cells #[.slice ad (M.rising (M.definedNames p.defs)).length cd] 35 (0, 0))) := y3
    clear ho3 hs2 y3 hb3 hb2 q3 hf hd h8
    generalize M.rising (M.wantedNames p.frags) = LW at *
    generalize M.rising (M.definedNames p.defs) = LD at *
    go_wp2_with (go_at_call 55; refine KW.out.mono ?_; rintro e x4 ⟨hb4, v4, rfl, ho4, hs4⟩; obtain ⟨aw, cw, rfl⟩ := own_len ho4; refine Hid.out ?_)
    have KX : Hid (Calls Try.prog 60 #[.slice aw LW.length cw, .func (.func 61) #[] #[.pointer (some ⟨n5, 0, none⟩)]] x4 _) := delete_own LW LD Y.heap.size n5 (.slice aw LW.length cw) ad cd x4 ho4 (by omega) (fun W hW => by
      have hr4 := HRow.out.kept (grown_of_below hb4 none) own_self
      have hap := own_before HRow.out ho4 (Nat.le_refl _)
      have hb5 := (hb4.block _ (Array.getElem?_eq_some_iff.1 Hy3.out).1).trans Hy3.out
      exact ⟨row_strs (hr4.kept hW hap) Hs2.out, cellB (block_kept ho4 hW hb5 (by decide)) 0⟩)
    have hw4 : Below w.heap.size w x4 := HY.out.trans (hb4.mono HY.out.size)
    refine Lib.hid ?_
    go_wp2_with (go_at_call 60; refine KX.out.mono ?_; rintro e x5 ⟨hg5, xa, xc, rfl, ho5⟩)
    go_ret2
    have hle := HY.out.size
    refine ⟨hw4.grown hg5 hw4.size (fun k hk => Nat.le_trans hle (ho4.lt k hk).1), _, rfl, by rw [HW.out]; exact row_base ho5 hle, by rw [HW.out]; exact fun s hs => hs4 s (List.mem_filter.1 hs).1⟩
  · have HW : Hid (lackingOfP p = []) := if_neg hck
    have hne : (M.checkPart p != 0) = true := by simpa using hck
    clear hck
    generalize M.checkPart p = er at *
    go_enter Try.func24, Try.ntmps24
    go_wp2_with (go_at_call 13; refine KC.out.mono ?_; rintro e x1 ⟨rfl, hx1⟩)
    go_ret2
    exact ⟨hA.out.trans (hx1.mono hA.out.size), _, rfl, by rw [HW.out]; exact World.ownsRow_nil _ _ _ _, by rw [HW.out]; exact fun s hs => by cases hs⟩

end Go.Proofs.Ytebhbhbhcoijpaa
