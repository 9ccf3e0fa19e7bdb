/-
  The contracts of names.Find, names.Wanted, names.Defined.
-/
import Derived.Test.YtebhbhbhcoijpaaNmFind2
import Derived.Test.YtebhbhbhcoijpaaNmWanted
import Derived.Test.YtebhbhbhcoijpaaPrtMem
namespace Go.Proofs.Ytebhbhbhcoijpaa
open Go.RowKit
set_option linter.unusedVariables false

def findOf (p : M.Prt) (s : ByteArray) : M.Dfn × Int := if M.checkPart p = 0 then M.find p.defs s else (M.dfnZ, M.checkPart p)
def wantedOfP (p : M.Prt) : List ByteArray := if M.checkPart p = 0 then M.wanted p else []
def definedOfP (p : M.Prt) : List ByteArray := if M.checkPart p = 0 then M.defined p else []

set_option maxHeartbeats 2000000 in
set_option maxRecDepth 100000 in
theorem findP_any (p : M.Prt) (s : ByteArray) (a1 a2 : Option Addr) (c1 c2 : Nat) (w : World) (hf : FragsAt w (.slice a1 p.frags.length c1) p.frags) (hd : DefsAt w (.slice a2 p.defs.length c2) p.defs) :
    Calls Try.prog 52 #[.agg #[.slice a1 p.frags.length c1, .slice a2 p.defs.length c2], .string s] w fun e w' => e = .returned (.tuple #[.agg (dfnArr (findOf p s).1), .int .i64 (findOf p s).2]) ∧ Below w.heap.size w w' := by
  have hA : Hid (Below w.heap.size w ((w.alloc (.cells #[.slice a1 p.frags.length c1, .slice a2 p.defs.length c2] 25)).alloc (.cells dfnZA 69))) := ((Below.refl _ _).alloc (Nat.le_refl _) _).alloc (by simp) _
  have KC : Hid (Calls Try.prog 13 #[.agg #[.slice a1 p.frags.length c1, .slice a2 p.defs.length c2]] ((w.alloc (.cells #[.slice a1 p.frags.length c1, .slice a2 p.defs.length c2] 25)).alloc (.cells dfnZA 69)) fun e w' => e = .returned (.int .i64 (M.checkPart p)) ∧ Below ((w.alloc (.cells #[.slice a1 p.frags.length c1, .slice a2 p.defs.length c2] 25)).alloc (.cells dfnZA 69)).heap.size ((w.alloc (.cells #[.slice a1 p.frags.length c1, .slice a2 p.defs.length c2] 25)).alloc (.cells dfnZA 69)) w') := check_any p.frags p.defs _ _ _ _ _ (hf.later hA.out) (hd.later hA.out)
  have Q0 : Hid (((w.alloc (.cells #[.slice a1 p.frags.length c1, .slice a2 p.defs.length c2] 25)).alloc (.cells dfnZA 69)).heap[w.heap.size]? = some (.cells #[.slice a1 p.frags.length c1, .slice a2 p.defs.length c2] 25 (0, 0))) := heap_alloc2_old _ _ _
  have Q1 : Hid (((w.alloc (.cells #[.slice a1 p.frags.length c1, .slice a2 p.defs.length c2] 25)).alloc (.cells dfnZA 69)).heap[w.heap.size + 1]? = some (.cells dfnZA 69 (0, 0))) := heap_alloc2_new _ _ _
  unfold dfnZA at hA KC Q0 Q1
  by_cases hck : M.checkPart p = 0
  · have HF : Hid (findOf p s = M.find p.defs s) := if_pos hck
    have hn := ((M.ok_iff p).1 hck).nd
    rw [hck] at KC
    clear hck
    go_enter Try.func52, Try.ntmps52
    go_upto_region 4 with (go_at_call 13; refine KC.out.mono ?_; rintro e X ⟨rfl, hx⟩)
    have HX : Hid (Below w.heap.size w X) := hA.out.trans (hx.mono hA.out.size)
    have q0 := (hx.block _ (by simp; omega)).trans Q0.out
    have q1 := (hx.block _ (by simp)).trans Q1.out
    clear hx KC hA Q0 Q1
    have c1' : X.cell? ⟨w.heap.size, 1, none⟩ = some (.slice a2 p.defs.length c2) := cellB q0 1
    have hl0 : w.heap.size < X.heap.size := (Array.getElem?_eq_some_iff.1 q0).1
    have KF : Hid (Calls Try.prog 89 #[.slice a2 p.defs.length c2, .string s] X fun e w' => e = .returned (.tuple #[.agg (dfnArr (M.find p.defs s).1), .int .i64 (M.find p.defs s).2]) ∧ Below X.heap.size X w') := find_any p.defs s a2 c2 X (hd.later HX.out) hn
    generalize M.find p.defs s = fr at *
    obtain ⟨⟨nm, kd, fg, pos, sz, al⟩, er⟩ := fr
    simp only [dfnArr] at KF
    clear hf hd
    go_wp2_with (go_at_call 89; refine KF.out.mono ?_; rintro e W3 ⟨rfl, hb3⟩; refine Hid.out ?_)
    have q := (hb3.block _ (Array.getElem?_eq_some_iff.1 q1).1).trans q1
    have hlt3 : w.heap.size + 1 < W3.heap.size := (Array.getElem?_eq_some_iff.1 q).1
    have d0 : W3.cell? ⟨w.heap.size + 1, 0, none⟩ = some (.string ⟨#[]⟩) := cellB q 0
    have d1 : W3.cell? ⟨w.heap.size + 1, 1, none⟩ = some (.int .i64 0) := cellB q 1
    have d2 : W3.cell? ⟨w.heap.size + 1, 2, none⟩ = some (.int .i64 0) := cellB q 2
    have d3 : W3.cell? ⟨w.heap.size + 1, 3, none⟩ = some (.int .i64 0) := cellB q 3
    have d4 : W3.cell? ⟨w.heap.size + 1, 4, none⟩ = some (.int .i64 0) := cellB q 4
    have d5 : W3.cell? ⟨w.heap.size + 1, 5, none⟩ = some (.int .i64 0) := cellB q 5
    have z0 := frozenB q 0
    have z1 := frozenB q 1
    have z2 := frozenB q 2
    have z3 := frozenB q 3
    have z4 := frozenB q 4
    have z5 := frozenB q 5
    have HSt : Hid _ := store6 W3 (w.heap.size + 1) _ _ _ _ _ _ (.string nm) (.int .i64 kd) (.int .i64 fg) (.int .i64 pos) (.int .i64 sz) (.int .i64 al) 69 q
    have HE : Hid (Below w.heap.size w _) := (HX.out.trans (hb3.mono HX.out.size)).grown HSt.out.2 (by omega) (fun k hk => by cases hk; omega)
    clear q HSt KF q0 q1 c1'
    refine Lib.hid ?_
    go_wp2
    refine bodyPost_ret (v := .tuple #[.agg (dfnArr ⟨nm, kd, fg, pos, sz, al⟩), .int .i64 er]) (by simp [results, Try.results52, go_sem, d0, d1, d2, d3, d4, d5, dfnArr]) rfl ?_
    exact ⟨by rw [HF.out], HE.out⟩
  · have HF : Hid (findOf p s = (M.dfnZ, M.checkPart p)) := if_neg hck
    have hne : (M.checkPart p != 0) = true := by simpa using hck
    clear hck
    generalize M.checkPart p = er at *
    go_enter Try.func52, Try.ntmps52
    go_wp2_with (go_at_call 13; refine KC.out.mono ?_; rintro e X ⟨rfl, hx⟩; refine Hid.out ?_)
    have HX : Hid (Below w.heap.size w X) := hA.out.trans (hx.mono hA.out.size)
    have q := (hx.block _ (by simp)).trans Q1.out
    have hlt3 : w.heap.size + 1 < X.heap.size := (Array.getElem?_eq_some_iff.1 q).1
    have d0 : X.cell? ⟨w.heap.size + 1, 0, none⟩ = some (.string ⟨#[]⟩) := cellB q 0
    have d1 : X.cell? ⟨w.heap.size + 1, 1, none⟩ = some (.int .i64 0) := cellB q 1
    have d2 : X.cell? ⟨w.heap.size + 1, 2, none⟩ = some (.int .i64 0) := cellB q 2
    have d3 : X.cell? ⟨w.heap.size + 1, 3, none⟩ = some (.int .i64 0) := cellB q 3
    have d4 : X.cell? ⟨w.heap.size + 1, 4, none⟩ = some (.int .i64 0) := cellB q 4
    have d5 : X.cell? ⟨w.heap.size + 1, 5, none⟩ = some (.int .i64 0) := cellB q 5
    have z0 := frozenB q 0
    have z1 := frozenB q 1
    have z2 := frozenB q 2
    have z3 := frozenB q 3
    have z4 := frozenB q 4
    have z5 := frozenB q 5
    have HSt : Hid _ := store6 X (w.heap.size + 1) _ _ _ _ _ _ (.string ⟨#[]⟩) (.int .i64 0) (.int .i64 0) (.int .i64 0) (.int .i64 0) (.int .i64 0) 69 q
    have HE : Hid (Below w.heap.size w _) := HX.out.grown HSt.out.2 (by omega) (fun k hk => by cases hk; omega)
    clear q HSt KC hx hA Q0 Q1 hf hd
    refine Lib.hid ?_
    go_wp2
    refine bodyPost_ret (v := .tuple #[.agg (dfnArr M.dfnZ), .int .i64 er]) (by simp [results, Try.results52, go_sem, d0, d1, d2, d3, d4, d5, dfnArr, M.dfnZ]) rfl ?_
    exact ⟨by rw [HF.out], HE.out⟩

theorem ok_rels {p : M.Prt} (h : M.Ok p) : ∀ f ∈ p.frags, f.rels.length ≤ 8 := fun f hf => (len_ok f (h.shape f hf)).2

set_option maxHeartbeats 2000000 in
set_option maxRecDepth 100000 in
theorem wantedP_any (p : M.Prt) (a1 a2 : Option Addr) (c1 c2 : Nat) (w : World) (hf : FragsAt w (.slice a1 p.frags.length c1) p.frags) (hd : DefsAt w (.slice a2 p.defs.length c2) p.defs) :
    Calls Try.prog 19 #[.agg #[.slice a1 p.frags.length c1, .slice a2 p.defs.length c2]] w fun e w' => Below w.heap.size w w' ∧ ∃ v, e = .returned (.tuple #[v, .int .i64 (M.checkPart p)]) ∧ w'.ownsRow w.heap.size 9 1 v (wantedOfP p).length ((wantedOfP p).map Value.string) ∧ ∀ s ∈ wantedOfP p, s.size ≤ maxLen := by
  have hA : Hid (Below w.heap.size w (w.alloc (.cells #[.slice a1 p.frags.length c1, .slice a2 p.defs.length c2] 25))) := (Below.refl _ _).alloc (Nat.le_refl _) _
  have KC : Hid (Calls Try.prog 13 #[.agg #[.slice a1 p.frags.length c1, .slice a2 p.defs.length c2]] (w.alloc (.cells #[.slice a1 p.frags.length c1, .slice a2 p.defs.length c2] 25)) fun e w' => e = .returned (.int .i64 (M.checkPart p)) ∧ Below (w.alloc (.cells #[.slice a1 p.frags.length c1, .slice a2 p.defs.length c2] 25)).heap.size (w.alloc (.cells #[.slice a1 p.frags.length c1, .slice a2 p.defs.length c2] 25)) w') := check_any p.frags p.defs _ _ _ _ _ (hf.later hA.out) (hd.later hA.out)
  have q0 := heap_alloc_new w (.cells #[.slice a1 p.frags.length c1, .slice a2 p.defs.length c2] 25)
  by_cases hck : M.checkPart p = 0
  · have HW : Hid (wantedOfP p = M.rising (M.wantedNames p.frags)) := if_pos hck
    have hok := (M.ok_iff p).1 hck
    have hn := hok.nf
    have h8 := ok_rels hok
    rw [hck] at KC ⊢
    clear hck hok
    go_enter Try.func19, Try.ntmps19
    go_wp2_with (go_at_call 13; refine KC.out.mono ?_; rintro e x1 ⟨rfl, hx1⟩; refine Hid.out ?_)
    have HX1 : Hid (Below w.heap.size w x1) := hA.out.trans (hx1.mono hA.out.size)
    have y0 := (hx1.block _ (by simp)).trans q0
    have c0 : x1.cell? ⟨w.heap.size, 0, none⟩ = some (.slice a1 p.frags.length c1) := cellB y0 0
    have KG : Hid (Calls Try.prog 55 #[.slice a1 p.frags.length c1] x1 _) := wanted_any p.frags a1 c1 x1 (hf.later HX1.out) hn h8
    clear hx1 q0 y0 KC hA hf hd h8
    refine Lib.hid ?_
    go_wp2_with (go_at_call 55; refine KG.out.mono ?_; rintro e x2 ⟨hx2, v, rfl, hv, hs⟩; obtain ⟨ad, nn, cc, rfl⟩ := own_form hv)
    go_ret2
    exact ⟨HX1.out.trans (hx2.mono HX1.out.size), _, rfl, by rw [HW.out]; exact row_base hv HX1.out.size, by rw [HW.out]; exact hs⟩
  · have HW : Hid (wantedOfP p = []) := if_neg hck
    have hne : (M.checkPart p != 0) = true := by simpa using hck
    clear hck
    generalize M.checkPart p = er at *
    go_enter Try.func19, Try.ntmps19
    go_wp2_with (go_at_call 13; refine KC.out.mono ?_; rintro e x1 ⟨rfl, hx1⟩)
    go_ret2
    exact ⟨hA.out.trans (hx1.mono hA.out.size), _, rfl, by rw [HW.out]; exact World.ownsRow_nil _ _ _ _, by rw [HW.out]; exact fun s hs => by cases hs⟩

set_option maxHeartbeats 2000000 in
set_option maxRecDepth 100000 in
theorem definedP_any (p : M.Prt) (a1 a2 : Option Addr) (c1 c2 : Nat) (w : World) (hf : FragsAt w (.slice a1 p.frags.length c1) p.frags) (hd : DefsAt w (.slice a2 p.defs.length c2) p.defs) :
    Calls Try.prog 20 #[.agg #[.slice a1 p.frags.length c1, .slice a2 p.defs.length c2]] w fun e w' => Below w.heap.size w w' ∧ ∃ v, e = .returned (.tuple #[v, .int .i64 (M.checkPart p)]) ∧ w'.ownsRow w.heap.size 9 1 v (definedOfP p).length ((definedOfP p).map Value.string) ∧ ∀ s ∈ definedOfP p, s.size ≤ maxLen := by
  have hA : Hid (Below w.heap.size w (w.alloc (.cells #[.slice a1 p.frags.length c1, .slice a2 p.defs.length c2] 25))) := (Below.refl _ _).alloc (Nat.le_refl _) _
  have KC : Hid (Calls Try.prog 13 #[.agg #[.slice a1 p.frags.length c1, .slice a2 p.defs.length c2]] (w.alloc (.cells #[.slice a1 p.frags.length c1, .slice a2 p.defs.length c2] 25)) fun e w' => e = .returned (.int .i64 (M.checkPart p)) ∧ Below (w.alloc (.cells #[.slice a1 p.frags.length c1, .slice a2 p.defs.length c2] 25)).heap.size (w.alloc (.cells #[.slice a1 p.frags.length c1, .slice a2 p.defs.length c2] 25)) w') := check_any p.frags p.defs _ _ _ _ _ (hf.later hA.out) (hd.later hA.out)
  have q0 := heap_alloc_new w (.cells #[.slice a1 p.frags.length c1, .slice a2 p.defs.length c2] 25)
  by_cases hck : M.checkPart p = 0
  · have HW : Hid (definedOfP p = M.rising (M.definedNames p.defs)) := if_pos hck
    have hok := (M.ok_iff p).1 hck
    have hn := hok.nd
    rw [hck] at KC ⊢
    clear hck hok
    go_enter Try.func20, Try.ntmps20
    go_wp2_with (go_at_call 13; refine KC.out.mono ?_; rintro e x1 ⟨rfl, hx1⟩; refine Hid.out ?_)
    have HX1 : Hid (Below w.heap.size w x1) := hA.out.trans (hx1.mono hA.out.size)
    have y0 := (hx1.block _ (by simp)).trans q0
    have c0 : x1.cell? ⟨w.heap.size, 1, none⟩ = some (.slice a2 p.defs.length c2) := cellB y0 1
    have KG : Hid (Calls Try.prog 56 #[.slice a2 p.defs.length c2] x1 _) := defined_any p.defs a2 c2 x1 (hd.later HX1.out) hn
    clear hx1 q0 y0 KC hA hf hd
    refine Lib.hid ?_
    go_wp2_with (go_at_call 56; refine KG.out.mono ?_; rintro e x2 ⟨hx2, v, rfl, hv, hs⟩; obtain ⟨ad, nn, cc, rfl⟩ := own_form hv)
    go_ret2
    exact ⟨HX1.out.trans (hx2.mono HX1.out.size), _, rfl, by rw [HW.out]; exact row_base hv HX1.out.size, by rw [HW.out]; exact hs⟩
  · have HW : Hid (definedOfP p = []) := if_neg hck
    have hne : (M.checkPart p != 0) = true := by simpa using hck
    clear hck
    generalize M.checkPart p = er at *
    go_enter Try.func20, Try.ntmps20
    go_wp2_with (go_at_call 13; refine KC.out.mono ?_; rintro e x1 ⟨rfl, hx1⟩)
    go_ret2
    exact ⟨hA.out.trans (hx1.mono hA.out.size), _, rfl, by rw [HW.out]; exact World.ownsRow_nil _ _ _ _, by rw [HW.out]; exact fun s hs => by cases hs⟩

end Go.Proofs.Ytebhbhbhcoijpaa
