/-
  The contract of part.Drop.
-/
import Derived.Test.YtebhbhbhcoijpaaPrtAll
namespace Go.Proofs.Ytebhbhbhcoijpaa
open Go.RowKit
set_option linter.unusedVariables false

def dropOf (p : M.Prt) (l : List ByteArray) : M.Prt × Int := if M.checkPart p = 0 then (M.drop p l, 0) else (M.nil, M.checkPart p)

theorem set2_keep {W : World} {n : Nat} {x y : Value} (h : W.cell? ⟨n, 0, none⟩ = some x ∧ W.cell? ⟨n, 1, none⟩ = some y) (u v : Value) :
    ((W.setCell ⟨n + 1, 0, none⟩ u).setCell ⟨n + 1, 1, none⟩ v).cell? ⟨n, 0, none⟩ = some x ∧ ((W.setCell ⟨n + 1, 0, none⟩ u).setCell ⟨n + 1, 1, none⟩ v).cell? ⟨n, 1, none⟩ = some y := by
  have e : ((W.setCell ⟨n + 1, 0, none⟩ u).setCell ⟨n + 1, 1, none⟩ v).heap[n]? = W.heap[n]? := (Below.heap_setCell _ _ _ _ (by show n ≠ n + 1; omega)).trans (Below.heap_setCell _ _ _ _ (by show n ≠ n + 1; omega))
  have f : ∀ i, ((W.setCell ⟨n + 1, 0, none⟩ u).setCell ⟨n + 1, 1, none⟩ v).cell? ⟨n, i, none⟩ = W.cell? ⟨n, i, none⟩ := fun i => by
    unfold World.cell?
    rw [e]
  exact ⟨(f 0).trans h.1, (f 1).trans h.2⟩

set_option maxHeartbeats 4000000 in
set_option maxRecDepth 100000 in
theorem drop_any (p : M.Prt) (l : List ByteArray) (a1 a2 a3 : Option Addr) (c1 c2 c3 : Nat) (w : World) (hf : FragsAt w (.slice a1 p.frags.length c1) p.frags) (hd : DefsAt w (.slice a2 p.defs.length c2) p.defs) (hl : StrsAt w (.slice a3 l.length c3) l) :
    Calls Try.prog 15 #[.agg #[.slice a1 p.frags.length c1, .slice a2 p.defs.length c2], .slice a3 l.length c3] w fun e w' =>
      Below w.heap.size w w' ∧ ∃ es vF vD, e = .returned (.tuple #[.agg #[vF, vD], .int .i64 (dropOf p l).2]) ∧ PR w' w.heap.size es (dropOf p l).1.defs vF vD ∧ es.map (·.f) = (dropOf p l).1.frags := by
  have HA : Hid (Below w.heap.size w ((w.alloc (.cells #[.slice a1 p.frags.length c1, .slice a2 p.defs.length c2] 25)).alloc (.cells #[.slice none 0 0, .slice none 0 0] 25))) := ((Below.refl _ _).alloc (Nat.le_refl _) _).alloc (by simp) _
  have KC : Hid (Calls Try.prog 13 #[.agg #[.slice a1 p.frags.length c1, .slice a2 p.defs.length c2]] ((w.alloc (.cells #[.slice a1 p.frags.length c1, .slice a2 p.defs.length c2] 25)).alloc (.cells #[.slice none 0 0, .slice none 0 0] 25)) fun e w' => e = .returned (.int .i64 (M.checkPart p)) ∧ Below ((w.alloc (.cells #[.slice a1 p.frags.length c1, .slice a2 p.defs.length c2] 25)).alloc (.cells #[.slice none 0 0, .slice none 0 0] 25)).heap.size ((w.alloc (.cells #[.slice a1 p.frags.length c1, .slice a2 p.defs.length c2] 25)).alloc (.cells #[.slice none 0 0, .slice none 0 0] 25)) w') := check_any p.frags p.defs _ _ _ _ _ (hf.later HA.out) (hd.later HA.out)
  have Q0 : Hid (((w.alloc (.cells #[.slice a1 p.frags.length c1, .slice a2 p.defs.length c2] 25)).alloc (.cells #[.slice none 0 0, .slice none 0 0] 25)).heap[w.heap.size]? = some (.cells #[.slice a1 p.frags.length c1, .slice a2 p.defs.length c2] 25 (0, 0))) := heap_alloc2_old _ _ _
  have Q1 : Hid (((w.alloc (.cells #[.slice a1 p.frags.length c1, .slice a2 p.defs.length c2] 25)).alloc (.cells #[.slice none 0 0, .slice none 0 0] 25)).heap[w.heap.size + 1]? = some (.cells #[.slice none 0 0, .slice none 0 0] 25 (0, 0))) := heap_alloc2_new _ _ _
  by_cases hck : M.checkPart p = 0
  · have HD : Hid (dropOf p l = (M.drop p l, 0)) := if_pos hck
    have hok := (M.ok_iff p).1 hck
    have hn := hok.nf
    have hm := movable hok
    rw [hck] at KC
    clear hck hok
    go_enter Try.func15, Try.ntmps15
    go_upto_region 4 with (go_at_call 13; refine KC.out.mono ?_; rintro e X ⟨rfl, hx⟩)
    have HX : Hid (Below w.heap.size w X) := HA.out.trans (hx.mono HA.out.size)
    have q0 := (hx.block _ (by simp; omega)).trans Q0.out
    have q1 := (hx.block _ (by simp)).trans Q1.out
    clear hx KC HA Q0 Q1
    have hl0 : w.heap.size < X.heap.size := (Array.getElem?_eq_some_iff.1 q0).1
    have hl1 : w.heap.size + 1 < X.heap.size := (Array.getElem?_eq_some_iff.1 q1).1
    have HS : Hid (∀ W, Below X.heap.size X W → (W.cell? ⟨w.heap.size, 0, none⟩ = some (.slice a1 p.frags.length c1) ∧ W.cell? ⟨w.heap.size, 1, none⟩ = some (.slice a2 p.defs.length c2))) := fun W hW => by
      have y := (hW.block _ hl0).trans q0
      exact ⟨cellB y 0, cellB y 1⟩
    have HQ : Hid (∀ W, Below X.heap.size X W → W.heap[w.heap.size + 1]? = some (.cells #[.slice none 0 0, .slice none 0 0] 25 (0, 0))) := fun W hW => (hW.block _ hl1).trans q1
    have KN : Hid (∀ W, Below X.heap.size X W → Calls Try.prog 43 #[.slice a1 p.frags.length c1, .slice a3 l.length c3, .int .i64 0] W fun e w' => Below W.heap.size W w' ∧ ∃ C, e = .returned (.agg C) ∧ Nums C (M.count l 0 p.frags)) := fun W hW => count_any p.frags l 0 a1 a3 c1 c3 W ((hf.later HX.out).later hW) ((hl.later HX.out).later hW) hn ⟨by omega, by omega⟩
    have KM : Hid (∀ C W, Nums C (M.count l 0 p.frags) → Below X.heap.size X W → Calls Try.prog 42 #[.agg #[.slice a1 p.frags.length c1, .slice a2 p.defs.length c2], .agg C] W fun e w' =>
        Below W.heap.size W w' ∧ ∃ es vF vD, e = .returned (.agg #[vF, vD]) ∧ PR w' W.heap.size es (M.movedDefs (M.count l 0 p.frags) p.defs) vF vD ∧ es.map (·.f) = M.movedFrags (M.count l 0 p.frags) p.frags) := fun C W hC hW => moved_any p.frags p.defs _ C a1 a2 c1 c2 W hC (M.count_length _ _ _) ((hf.later HX.out).later hW) ((hd.later HX.out).later hW) hm
    have hA0 : Below X.heap.size X X.drew := (Below.refl _ _).drew
    clear hf hd hl q0 q1 hm
    go_region_held3 (fun w' => w'.cell? ⟨w.heap.size, 0, none⟩ = some (.slice a1 p.frags.length c1) ∧ w'.cell? ⟨w.heap.size, 1, none⟩ = some (.slice a2 p.defs.length c2)) (first | exact HS.out _ hA0 | exact HS.out _ hX2 | exact HS.out _ hX1 | exact hS3) (first | (go_at_call 43; refine (KN.out _ hA0).mono ?_; rintro e w1 ⟨hb1, C, rfl, hC1⟩; have hX1 : Below X.heap.size X w1 := hA0.trans (hb1.mono hA0.size)) | (go_at_call 42; refine (KM.out _ _ hC1 hX1).mono ?_; rintro e w2 ⟨hb2, es, vF, vD, rfl, hP2, hes⟩; have hX2 : Below X.heap.size X w2 := hX1.trans (hb2.mono hX1.size); obtain ⟨x1, y1, rfl⟩ := own_len hP2.rowF; obtain ⟨x2, y2, rfl⟩ := own_len hP2.rowD; have hq := HQ.out _ hX2; have k0 : w2.cell? ⟨w.heap.size + 1, 0, none⟩ = some (.slice none 0 0) := cellB hq 0; have k1 : w2.cell? ⟨w.heap.size + 1, 1, none⟩ = some (.slice none 0 0) := cellB hq 1; have f0 := frozenB hq 0; have f1 := frozenB hq 1; have hS3 := set2_keep (HS.out _ hX2) (.slice x1 es.length y1) (.slice x2 (M.movedDefs (M.count l 0 p.frags) p.defs).length y2)))
    have u0 : (w2.setCell ⟨w.heap.size + 1, 0, none⟩ (.slice x1 es.length y1)).heap[w.heap.size + 1]? = some (.cells #[.slice x1 es.length y1, .slice none 0 0] 25 (0, 0)) := setB' hq _
    have hz1 := hX1.size
    have HP : Hid (PR ((w2.setCell ⟨w.heap.size + 1, 0, none⟩ (.slice x1 es.length y1)).setCell ⟨w.heap.size + 1, 1, none⟩ (.slice x2 (M.movedDefs (M.count l 0 p.frags) p.defs).length y2)) w.heap.size es (M.movedDefs (M.count l 0 p.frags) p.defs) (.slice x1 es.length y1) (.slice x2 (M.movedDefs (M.count l 0 p.frags) p.defs).length y2)) := ((hP2.base (by omega)).set hq).set u0
    have HB2 : Hid (Below w.heap.size w ((w2.setCell ⟨w.heap.size + 1, 0, none⟩ (.slice x1 es.length y1)).setCell ⟨w.heap.size + 1, 1, none⟩ (.slice x2 (M.movedDefs (M.count l 0 p.frags) p.defs).length y2))) := (((HX.out.trans (hX2.mono HX.out.size)).setCell (by show w.heap.size ≤ w.heap.size + 1; omega) _).setCell (by show w.heap.size ≤ w.heap.size + 1; omega) _)
    clear u0 hP2
    go_wp2
    refine bodyPost_ret (v := .tuple #[.agg #[.slice x1 es.length y1, .slice x2 (M.movedDefs (M.count l 0 p.frags) p.defs).length y2], .int .i64 0]) (by simp [results, Try.results15, go_sem, k0, k1]) rfl ?_
    exact ⟨HB2.out, es, _, _, by rw [HD.out], by rw [HD.out]; exact HP.out, by rw [HD.out]; exact hes⟩
  · have HD : Hid (dropOf p l = (M.nil, M.checkPart p)) := if_neg hck
    have hne : (M.checkPart p != 0) = true := by simpa using hck
    clear hck
    generalize M.checkPart p = er at *
    go_enter Try.func15, Try.ntmps15
    go_wp2_with (go_at_call 13; refine KC.out.mono ?_; rintro e X ⟨rfl, hx⟩; refine Hid.out ?_)
    have HX : Hid (Below w.heap.size w X) := HA.out.trans (hx.mono HA.out.size)
    have q1 := (hx.block _ (by simp)).trans Q1.out
    have k0 : X.cell? ⟨w.heap.size + 1, 0, none⟩ = some (.slice none 0 0) := cellB q1 0
    have k1 : X.cell? ⟨w.heap.size + 1, 1, none⟩ = some (.slice none 0 0) := cellB q1 1
    have f0 := frozenB q1 0
    have f1 := frozenB q1 1
    have HB2 : Hid (Below w.heap.size w ((X.setCell ⟨w.heap.size + 1, 0, none⟩ (.slice none 0 0)).setCell ⟨w.heap.size + 1, 1, none⟩ (.slice none 0 0))) := (HX.out.setCell (by show w.heap.size ≤ w.heap.size + 1; omega) _).setCell (by show w.heap.size ≤ w.heap.size + 1; omega) _
    clear q1 hx KC HA Q0 Q1
    refine Lib.hid ?_
    go_wp2
    refine bodyPost_ret (v := .tuple #[.agg #[.slice none 0 0, .slice none 0 0], .int .i64 er]) (by simp [results, Try.results15, go_sem, k0, k1]) rfl ?_
    exact ⟨HB2.out, [], _, _, by rw [HD.out], by rw [HD.out]; exact PR.nil _ _, by rw [HD.out]; rfl⟩

theorem groups_v {p : M.Prt} {a1 a2 : Option Addr} {c1 c2 : Nat} {w : World} (hf : FragsAt w (.slice a1 p.frags.length c1) p.frags) (hd : DefsAt w (.slice a2 p.defs.length c2) p.defs) (hok : M.checkPart p = 0) :
    Calls Try.prog 14 #[.agg #[.slice a1 p.frags.length c1, .slice a2 p.defs.length c2]] w fun e w' => Below w.heap.size w w' ∧ ∃ ga gc, e = .returned (.tuple #[.slice ga (M.groups p.frags).length gc, .int .i64 0]) ∧ StrsAt w' (.slice ga (M.groups p.frags).length gc) (M.groups p.frags) ∧ (M.groups p.frags).length ≤ gc := by
  refine (groupsOf_any p a1 a2 c1 c2 w hf hd).mono ?_
  rintro e w' ⟨hb, v, rfl, hs, ad, nn, cc, hv, hcap⟩
  rw [hok, if_pos rfl] at hs
  obtain ⟨x, y, rfl, _⟩ := hs.1.form
  cases hv
  exact ⟨hb, _, _, by rw [hok], hs, hcap⟩

theorem drop_v {p : M.Prt} {l : List ByteArray} {a1 a2 a3 : Option Addr} {c1 c2 c3 : Nat} {w : World} (hf : FragsAt w (.slice a1 p.frags.length c1) p.frags) (hd : DefsAt w (.slice a2 p.defs.length c2) p.defs) (hl : StrsAt w (.slice a3 l.length c3) l) (hok : M.checkPart p = 0) (q : M.Prt) (hq : M.drop p l = q) :
    Calls Try.prog 15 #[.agg #[.slice a1 p.frags.length c1, .slice a2 p.defs.length c2], .slice a3 l.length c3] w fun e w' =>
      Below w.heap.size w w' ∧ ∃ x1 y1 x2 y2, e = .returned (.tuple #[.agg #[.slice x1 q.frags.length y1, .slice x2 q.defs.length y2], .int .i64 0]) ∧ FragsAt w' (.slice x1 q.frags.length y1) q.frags ∧ DefsAt w' (.slice x2 q.defs.length y2) q.defs := by
  refine (drop_any p l a1 a2 a3 c1 c2 c3 w hf hd hl).mono ?_
  have he : dropOf p l = (q, 0) := by unfold dropOf; rw [if_pos hok, hq]
  rintro e w' ⟨hb, es, vF, vD, rfl, hP, hes⟩
  rw [he] at hP hes ⊢
  have hF := hP.fragsAt
  rw [hes] at hF
  obtain ⟨x1, y1, rfl⟩ := hF.form
  obtain ⟨x2, y2, rfl⟩ := hP.defsAt.form
  exact ⟨hb, x1, y1, x2, y2, rfl, hF, hP.defsAt⟩

end Go.Proofs.Ytebhbhbhcoijpaa
