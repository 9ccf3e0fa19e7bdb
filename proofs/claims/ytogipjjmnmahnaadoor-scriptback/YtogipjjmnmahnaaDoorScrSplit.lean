/-
  The contracts of target and split.
-/
import Derived.Test.YtogipjjmnmahnaaDoorScrRead
namespace Go.Proofs.YtogipjjmnmahnaaDoor
open Go Go.RowKit
set_option linter.unusedVariables false

theorem cutPrefix_any (s : ByteArray) (w : World) :
    Calls Tryd.prog 67 #[.string s, .string ⟨#[35]⟩] w fun e w' => e = .returned (.tuple #[.string (M.str (Lib.trimPrefix (M.txt s) [35])), .bool (Lib.hasPrefix (M.txt s) [35])]) ∧ w' = w :=
  Go.Proofs.Any.strings_CutPrefix (P := Tryd.prog) (ρ := Tryd.lays103_ren) Tryd.lays103 s ⟨#[35]⟩ w

def leadName (t : M.Txt) : ByteArray := ((M.leads t).getD (M.str [], 0)).1
def leadFrag (t : M.Txt) : Int := ((M.leads t).getD (M.str [], 0)).2

theorem txt_size (s : ByteArray) : (M.txt s).length = s.size := (Lib.size_eq s).symm
theorem str_size (t : M.Txt) : (M.str t).size = t.length := by rw [Lib.size_eq]; simp [M.str]
theorem strE {t : M.Txt} (h : (M.str t).toList.isEmpty = true) : t = [] := by have := txt_nil _ h; rwa [txt_str] at this
theorem strNE {t : M.Txt} (h : (M.str t).toList.isEmpty = false) : t ≠ [] := by have := txt_ne _ h; rwa [txt_str] at this

theorem leads_any (s : ByteArray) (hs : s.size ≤ 100000) (w : World) (hG : Glob w) :
    Calls Tryd.prog 50 #[.string s] w fun e w' => e = .returned (.tuple #[.string (leadName (M.txt s)), .int .i64 (leadFrag (M.txt s)), .bool (M.leads (M.txt s)).isSome]) ∧ Below w.heap.size w w' := by
  have HC : Hid (∀ W, Calls Tryd.prog 67 #[.string s, .string ⟨#[35]⟩] W fun e w' => e = .returned (.tuple #[.string (M.str (Lib.trimPrefix (M.txt s) [35])), .bool (Lib.hasPrefix (M.txt s) [35])]) ∧ w' = W) := fun W => cutPrefix_any s W
  cases hp : Lib.hasPrefix (M.txt s) [35]
  · have hl : M.leads (M.txt s) = some (s, 0) := by
      cases ht : M.txt s with
      | nil => have : s = M.str [] := by rw [← str_txt s, ht]
               rw [this]; rfl
      | cons c r =>
        rw [ht] at hp
        have hc : c ≠ 35 := fun h => by subst h; simp [Lib.hasPrefix] at hp
        rw [M.leads, if_neg hc, ← ht, str_txt]
    have H1 : Hid (leadName (M.txt s) = s) := by rw [Hid, leadName, hl]; rfl
    have H2 : Hid (leadFrag (M.txt s) = 0) := by rw [Hid, leadFrag, hl]; rfl
    have H3 : Hid ((M.leads (M.txt s)).isSome = true) := by rw [Hid, hl]; rfl
    clear hl
    rw [H1.out, H2.out, H3.out]
    rw [hp] at HC
    clear H1 H2 H3 hp
    generalize M.str (Lib.trimPrefix (M.txt s) [35]) = tp at *
    go_enter Tryd.func50, Tryd.ntmps50
    go_wp2_with (go_at_call 67; refine (HC.out _).mono ?_; rintro e w1 ⟨rfl, rfl⟩)
    refine bodyPost_ret (v := .tuple #[.string s, .int .i64 0, .bool true]) (by simp [results, Tryd.results50, go_sem]) rfl ?_
    exact ⟨rfl, Below.refl _ _⟩
  · obtain ⟨r, hr⟩ : ∃ r, M.txt s = 35 :: r := by
      cases ht : M.txt s with
      | nil => rw [ht] at hp; simp [Lib.hasPrefix] at hp
      | cons c r =>
        rw [ht] at hp
        simp [Lib.hasPrefix] at hp
        exact ⟨r, by rw [← hp]⟩
    have htr : Lib.trimPrefix (M.txt s) [35] = r := by rw [Lib.trimPrefix, hp]; simp [hr]
    have hl : M.leads (M.txt s) = (M.num r).map fun n => (M.str [], n) := by rw [hr, M.leads, if_pos rfl]
    have H1 : Hid (leadName (M.txt s) = M.str []) := by
      rw [Hid, leadName, hl]; cases M.num r <;> rfl
    have H2 : Hid (leadFrag (M.txt s) = (M.num r).getD 0) := by rw [Hid, leadFrag, hl]; cases M.num r <;> rfl
    have H3 : Hid ((M.leads (M.txt s)).isSome = (M.num r).isSome) := by rw [Hid, hl]; cases M.num r <;> rfl
    have hsz : r.length ≤ 100000 := by have := txt_size s; rw [hr, List.length_cons] at this; omega
    have HN : Hid (Calls Tryd.prog 48 #[.string (M.str r)] w fun e w' => e = .returned (.tuple #[.int .i64 ((M.num r).getD 0), .bool (M.num r).isSome]) ∧ Below w.heap.size w w') := by
      have := number_any (M.str r) (by rw [str_size]; exact hsz) w hG
      rwa [txt_str] at this
    rw [H1.out, H2.out, H3.out]
    rw [hp, htr] at HC
    clear H1 H2 H3 hp hl htr hr
    generalize (M.num r).isSome = nb at *
    generalize (M.num r).getD 0 = nn at *
    generalize M.str r = tp at *
    go_enter Tryd.func50, Tryd.ntmps50
    go_wp2_with (first | (go_at_call 67; refine (HC.out _).mono ?_; rintro e w1 ⟨rfl, rfl⟩) | (go_at_call 48; refine HN.out.mono ?_; rintro e w1 ⟨rfl, hb1⟩))
    refine bodyPost_ret (v := .tuple #[.string ⟨#[]⟩, .int .i64 nn, .bool nb]) (by simp [results, Tryd.results50, go_sem]) rfl ?_
    exact ⟨rfl, hb1⟩

/-- how split ends -/
def splits (o : Option (M.Txt × M.Txt × M.Txt × M.Txt × M.Txt)) : Ending :=
  match o with
  | some (a, b, c, d, e) => .returned (.tuple #[.agg #[.string (M.str a), .string (M.str b), .string (M.str c), .string (M.str d), .string (M.str e)], .bool true])
  | none => .returned (.tuple #[.agg #[.string ⟨#[]⟩, .string ⟨#[]⟩, .string ⟨#[]⟩, .string ⟨#[]⟩, .string ⟨#[]⟩], .bool false])

theorem five_short {l : List M.Txt} (h : l.length ≠ 5) : M.five l = none := by
  match l, h with
  | [], _ | [_], _ | [_, _], _ | [_, _, _], _ | [_, _, _, _], _ => rfl
  | [_, _, _, _, _], h => simp at h
  | _ :: _ :: _ :: _ :: _ :: _ :: _, _ => rfl

theorem five_empty {l : List M.Txt} (h : [] ∈ l) : M.five l = none := by
  match l, h with
  | [], _ | [_], _ | [_, _], _ | [_, _, _], _ | [_, _, _, _], _ => rfl
  | [a, b, c, d, e], h =>
    simp only [List.mem_cons, List.not_mem_nil, or_false] at h
    show (if a = [] ∨ b = [] ∨ c = [] ∨ d = [] ∨ e = [] then none else some (a, b, c, d, e)) = _
    rw [if_pos]
    rcases h with h | h | h | h | h <;> simp [← h]
  | _ :: _ :: _ :: _ :: _ :: _ :: _, _ => rfl

theorem five_full {a b c d e : M.Txt} (h : a ≠ [] ∧ b ≠ [] ∧ c ≠ [] ∧ d ≠ [] ∧ e ≠ []) : M.five [a, b, c, d, e] = some (a, b, c, d, e) := by
  show (if a = [] ∨ b = [] ∨ c = [] ∨ d = [] ∨ e = [] then none else some (a, b, c, d, e)) = _
  rw [if_neg]
  simp [h]

/-- the cut at a blank, as the program meets it -/
theorem cut_some {r x y : M.Txt} (h : M.cutAt 32 r = some (x, y)) : Lib.cut r [32] = (x, y, true) := by rw [cut_one, h]
theorem cut_none {r : M.Txt} (h : M.cutAt 32 r = none) : Lib.cut r [32] = (r, [], false) := by rw [cut_one, h]

theorem blank_any (r : M.Txt) (hr : r.length ≤ 100000) (W : World) (hG : Glob W) :
    Calls Tryd.prog 19 #[.string (M.str r), .string ⟨#[32]⟩] W fun e w' => e = .returned (.tuple #[.string (M.str (Lib.cut r [32]).1), .string (M.str (Lib.cut r [32]).2.1), .bool (Lib.cut r [32]).2.2]) ∧ Below W.heap.size W w' := by
  have := cut_any (M.str r) ⟨#[32]⟩ W hG (by rw [str_size]; exact hr)
  rwa [txt_str] at this

def blk (ws : List M.Txt) : Array Value := #[.string (M.str (ws.getD 0 [])), .string (M.str (ws.getD 1 [])), .string (M.str (ws.getD 2 [])), .string (M.str (ws.getD 3 [])), .string (M.str (ws.getD 4 []))]

theorem setB {w : World} {g i : Nat} {cs : Array Value} {t : TypeId} {fr : Nat × Nat} (h : w.heap[g]? = some (.cells cs t fr)) (v : Value) : (w.setCell ⟨g, i, none⟩ v).heap[g]? = some (.cells (cs.setIfInBounds i v) t fr) := by
  simp [World.setCell, Array.getElem?_modify, h]

theorem blank_some {r x y : M.Txt} (hr : r.length ≤ 100000) (h : M.cutAt 32 r = some (x, y)) (W : World) (hG : Glob W) :
    Calls Tryd.prog 19 #[.string (M.str r), .string ⟨#[32]⟩] W fun e w' => e = .returned (.tuple #[.string (M.str x), .string (M.str y), .bool true]) ∧ Below W.heap.size W w' := by
  have := blank_any r hr W hG
  rwa [cut_some h] at this
theorem blank_none {r : M.Txt} (hr : r.length ≤ 100000) (h : M.cutAt 32 r = none) (W : World) (hG : Glob W) :
    Calls Tryd.prog 19 #[.string (M.str r), .string ⟨#[32]⟩] W fun e w' => e = .returned (.tuple #[.string (M.str r), .string ⟨#[]⟩, .bool false]) ∧ Below W.heap.size W w' := by
  have := blank_any r hr W hG
  rwa [cut_none h] at this

set_option maxHeartbeats 8000000 in
set_option maxRecDepth 100000 in
theorem split_any (s : ByteArray) (hs : s.size ≤ 100000) (w : World) (hG : Glob w) :
    Calls Tryd.prog 30 #[.string s] w fun e w' => e = splits (M.five (M.pieces 32 (M.txt s))) ∧ Below w.heap.size w w' := by
  have hsz : (M.txt s).length ≤ 100000 := by rw [txt_size]; exact hs
  have es : s = M.str (M.txt s) := (str_txt s).symm
  rw [es, txt_str]
  generalize M.txt s = t at *
  clear es hs
  obtain ⟨L, hL⟩ : ∃ L, L = M.pieces 32 t := ⟨_, rfl⟩
  have HL : Hid (L = [] ++ M.pieces 32 t) := hL
  rw [← hL]
  clear hL
  go_enter Tryd.func30, Tryd.ntmps30
  go_wp2_with fail
  go_loopw [0, 8] (fun s0 s8 wr => ∃ (ws : List M.Txt) (r : M.Txt), ws.length ≤ 5 ∧ s8 = .int .i64 ws.length ∧ s0 = .string (M.str r) ∧ r.length ≤ 100000 ∧ Hid (∀ x ∈ ws, x ≠ []) ∧ Hid (if ws.length < 5 then L = ws ++ M.pieces 32 r else L = ws) ∧ Hid (Below w.heap.size w wr) ∧ wr.heap[w.heap.size]? = some (.cells (blk ws) 74 (0, 0))) (fun _ s8 _ => 5 - (intOf s8).toNat)
  case atStart => exact ⟨[], t, by simp, rfl, rfl, hsz, (show ∀ x ∈ ([] : List M.Txt), x ≠ [] from fun x hx => by simp at hx), HL, (Below.refl _ _).alloc (Nat.le_refl _) _, heap_alloc_new _ _⟩
  case round =>
    clear HL hsz
    obtain ⟨ws, r, hws, rfl, rfl, hr, HE, HL, HB, hblk⟩ := hrel
    have hG1 := hG.later HB.out
    have hlt : w.heap.size < wr.heap.size := (Array.getElem?_eq_some_iff.1 hblk).1
    match ws, hws, HE, HL, hblk with
    | [], _, HE, HL, hblk =>
      have HL0 : Hid (L = [] ++ M.pieces 32 r) := HL.out
      have hblk : wr.heap[w.heap.size]? = some (.cells #[.string ⟨#[]⟩, .string ⟨#[]⟩, .string ⟨#[]⟩, .string ⟨#[]⟩, .string ⟨#[]⟩] 74 (0, 0)) := hblk
      clear HL
      cases hc : M.cutAt 32 r with
      | some xy =>
        obtain ⟨x, y⟩ := xy
        have HC : Hid (Calls Tryd.prog 19 #[.string (M.str r), .string ⟨#[32]⟩] wr fun e w' => e = .returned (.tuple #[.string (M.str x), .string (M.str y), .bool true]) ∧ Below wr.heap.size wr w') := blank_some hr hc wr hG1
        have HL1 : Hid (L = [] ++ x :: M.pieces 32 y) := by rw [Hid, HL0.out, pieces_some hc]
        have hy : y.length ≤ 100000 := by have := cutAt_len hc; simp only at this; omega
        clear hc HL0
        cases hE : (M.str x).toList.isEmpty
        · have hx := strNE hE
          go_wp2_with (go_at_call 19; refine (HC.out).mono ?_; rintro e w1 ⟨rfl, hb1⟩; have q1 : w1.heap[w.heap.size]? = some (.cells #[.string ⟨#[]⟩, .string ⟨#[]⟩, .string ⟨#[]⟩, .string ⟨#[]⟩, .string ⟨#[]⟩] 74 (0, 0)) := (hb1.block _ hlt).trans hblk; have c0 := cellB q1 0; have c1 := cellB q1 1; have c2 := cellB q1 2; have c3 := cellB q1 3; have c4 := cellB q1 4; have f0 := frozenB q1 0; have f1 := frozenB q1 1; have f2 := frozenB q1 2; have f3 := frozenB q1 3; have f4 := frozenB q1 4; simp only [List.getElem?_toArray, List.getElem?_cons_zero, List.getElem?_cons_succ] at c0 c1 c2 c3 c4)
          go_roundw
          case rel =>
            refine ⟨[x], y, by simp, by first | rfl | go_num | simp, rfl, hy, ?_, ?_, (HB.out.trans (hb1.mono HB.out.size)).setCell (Nat.le_refl _) _, ?_⟩
            · intro z hz
              rcases List.mem_cons.1 (show z ∈ x :: [] by simp only [List.mem_cons, List.not_mem_nil, or_false] at hz ⊢; exact hz) with rfl | hz
              · exact hx
              · exact HE.out z hz
            · show (if 1 < 5 then _ else _)
              rw [if_pos (by decide), HL1.out]; rfl
            · rw [setB q1]; rfl
          case measure => simp [intOf]
        · have hx := strE hE
          subst hx
          go_wp2_with (go_at_call 19; refine (HC.out).mono ?_; rintro e w1 ⟨rfl, hb1⟩; have q1 : w1.heap[w.heap.size]? = some (.cells #[.string ⟨#[]⟩, .string ⟨#[]⟩, .string ⟨#[]⟩, .string ⟨#[]⟩, .string ⟨#[]⟩] 74 (0, 0)) := (hb1.block _ hlt).trans hblk; have c0 := cellB q1 0; have c1 := cellB q1 1; have c2 := cellB q1 2; have c3 := cellB q1 3; have c4 := cellB q1 4; have f0 := frozenB q1 0; have f1 := frozenB q1 1; have f2 := frozenB q1 2; have f3 := frozenB q1 3; have f4 := frozenB q1 4; simp only [List.getElem?_toArray, List.getElem?_cons_zero, List.getElem?_cons_succ] at c0 c1 c2 c3 c4)
          refine bodyPost_ret (v := .tuple #[.agg #[.string ⟨#[]⟩, .string ⟨#[]⟩, .string ⟨#[]⟩, .string ⟨#[]⟩, .string ⟨#[]⟩], .bool false]) (by simp [results, Tryd.results30, go_sem, c0, c1, c2, c3, c4]) rfl ?_
          refine ⟨?_, ?_⟩
          · have : M.five L = none := five_empty (by rw [HL1.out]; simp)
            rw [this]; rfl
          · exact (((((HB.out.trans (hb1.mono HB.out.size)).setCell (Nat.le_refl _) _).setCell (Nat.le_refl _) _).setCell (Nat.le_refl _) _).setCell (Nat.le_refl _) _).setCell (Nat.le_refl _) _
      | none =>
        have HC : Hid (Calls Tryd.prog 19 #[.string (M.str r), .string ⟨#[32]⟩] wr fun e w' => e = .returned (.tuple #[.string (M.str r), .string ⟨#[]⟩, .bool false]) ∧ Below wr.heap.size wr w') := blank_none hr hc wr hG1
        have HL1 : Hid (L = [] ++ [r]) := by rw [Hid, HL0.out, pieces_none hc]
        clear hc HL0
        cases hE : (M.str r).toList.isEmpty
        · have hx := strNE hE
          go_wp2_with (go_at_call 19; refine (HC.out).mono ?_; rintro e w1 ⟨rfl, hb1⟩; have q1 : w1.heap[w.heap.size]? = some (.cells #[.string ⟨#[]⟩, .string ⟨#[]⟩, .string ⟨#[]⟩, .string ⟨#[]⟩, .string ⟨#[]⟩] 74 (0, 0)) := (hb1.block _ hlt).trans hblk; have c0 := cellB q1 0; have c1 := cellB q1 1; have c2 := cellB q1 2; have c3 := cellB q1 3; have c4 := cellB q1 4; have f0 := frozenB q1 0; have f1 := frozenB q1 1; have f2 := frozenB q1 2; have f3 := frozenB q1 3; have f4 := frozenB q1 4; simp only [List.getElem?_toArray, List.getElem?_cons_zero, List.getElem?_cons_succ] at c0 c1 c2 c3 c4)
          refine bodyPost_ret (v := .tuple #[.agg #[.string ⟨#[]⟩, .string ⟨#[]⟩, .string ⟨#[]⟩, .string ⟨#[]⟩, .string ⟨#[]⟩], .bool false]) (by simp [results, Tryd.results30, go_sem, c0, c1, c2, c3, c4]) rfl ?_
          refine ⟨?_, ?_⟩
          · have : M.five L = none := five_short (by rw [HL1.out]; simp)
            rw [this]; rfl
          · exact (((((HB.out.trans (hb1.mono HB.out.size)).setCell (Nat.le_refl _) _).setCell (Nat.le_refl _) _).setCell (Nat.le_refl _) _).setCell (Nat.le_refl _) _).setCell (Nat.le_refl _) _
        · have hx := strE hE
          subst hx
          go_wp2_with (go_at_call 19; refine (HC.out).mono ?_; rintro e w1 ⟨rfl, hb1⟩; have q1 : w1.heap[w.heap.size]? = some (.cells #[.string ⟨#[]⟩, .string ⟨#[]⟩, .string ⟨#[]⟩, .string ⟨#[]⟩, .string ⟨#[]⟩] 74 (0, 0)) := (hb1.block _ hlt).trans hblk; have c0 := cellB q1 0; have c1 := cellB q1 1; have c2 := cellB q1 2; have c3 := cellB q1 3; have c4 := cellB q1 4; have f0 := frozenB q1 0; have f1 := frozenB q1 1; have f2 := frozenB q1 2; have f3 := frozenB q1 3; have f4 := frozenB q1 4; simp only [List.getElem?_toArray, List.getElem?_cons_zero, List.getElem?_cons_succ] at c0 c1 c2 c3 c4)
          refine bodyPost_ret (v := .tuple #[.agg #[.string ⟨#[]⟩, .string ⟨#[]⟩, .string ⟨#[]⟩, .string ⟨#[]⟩, .string ⟨#[]⟩], .bool false]) (by simp [results, Tryd.results30, go_sem, c0, c1, c2, c3, c4]) rfl ?_
          refine ⟨?_, ?_⟩
          · have : M.five L = none := five_empty (by rw [HL1.out]; simp)
            rw [this]; rfl
          · exact (((((HB.out.trans (hb1.mono HB.out.size)).setCell (Nat.le_refl _) _).setCell (Nat.le_refl _) _).setCell (Nat.le_refl _) _).setCell (Nat.le_refl _) _).setCell (Nat.le_refl _) _
    | [a0], _, HE, HL, hblk =>
      have HL0 : Hid (L = [a0] ++ M.pieces 32 r) := HL.out
      have hblk : wr.heap[w.heap.size]? = some (.cells #[.string (M.str a0), .string ⟨#[]⟩, .string ⟨#[]⟩, .string ⟨#[]⟩, .string ⟨#[]⟩] 74 (0, 0)) := hblk
      clear HL
      cases hc : M.cutAt 32 r with
      | some xy =>
        obtain ⟨x, y⟩ := xy
        have HC : Hid (Calls Tryd.prog 19 #[.string (M.str r), .string ⟨#[32]⟩] wr fun e w' => e = .returned (.tuple #[.string (M.str x), .string (M.str y), .bool true]) ∧ Below wr.heap.size wr w') := blank_some hr hc wr hG1
        have HL1 : Hid (L = [a0] ++ x :: M.pieces 32 y) := by rw [Hid, HL0.out, pieces_some hc]
        have hy : y.length ≤ 100000 := by have := cutAt_len hc; simp only at this; omega
        clear hc HL0
        cases hE : (M.str x).toList.isEmpty
        · have hx := strNE hE
          go_wp2_with (go_at_call 19; refine (HC.out).mono ?_; rintro e w1 ⟨rfl, hb1⟩; have q1 : w1.heap[w.heap.size]? = some (.cells #[.string (M.str a0), .string ⟨#[]⟩, .string ⟨#[]⟩, .string ⟨#[]⟩, .string ⟨#[]⟩] 74 (0, 0)) := (hb1.block _ hlt).trans hblk; have c0 := cellB q1 0; have c1 := cellB q1 1; have c2 := cellB q1 2; have c3 := cellB q1 3; have c4 := cellB q1 4; have f0 := frozenB q1 0; have f1 := frozenB q1 1; have f2 := frozenB q1 2; have f3 := frozenB q1 3; have f4 := frozenB q1 4; simp only [List.getElem?_toArray, List.getElem?_cons_zero, List.getElem?_cons_succ] at c0 c1 c2 c3 c4)
          go_roundw
          case rel =>
            refine ⟨[a0, x], y, by simp, by first | rfl | go_num | simp, rfl, hy, ?_, ?_, (HB.out.trans (hb1.mono HB.out.size)).setCell (Nat.le_refl _) _, ?_⟩
            · intro z hz
              rcases List.mem_cons.1 (show z ∈ x :: [a0] by simp only [List.mem_cons, List.not_mem_nil, or_false] at hz ⊢; rcases hz with hz | hz <;> simp [hz]) with rfl | hz
              · exact hx
              · exact HE.out z hz
            · show (if 2 < 5 then _ else _)
              rw [if_pos (by decide), HL1.out]; rfl
            · rw [setB q1]; rfl
          case measure => simp [intOf]
        · have hx := strE hE
          subst hx
          go_wp2_with (go_at_call 19; refine (HC.out).mono ?_; rintro e w1 ⟨rfl, hb1⟩; have q1 : w1.heap[w.heap.size]? = some (.cells #[.string (M.str a0), .string ⟨#[]⟩, .string ⟨#[]⟩, .string ⟨#[]⟩, .string ⟨#[]⟩] 74 (0, 0)) := (hb1.block _ hlt).trans hblk; have c0 := cellB q1 0; have c1 := cellB q1 1; have c2 := cellB q1 2; have c3 := cellB q1 3; have c4 := cellB q1 4; have f0 := frozenB q1 0; have f1 := frozenB q1 1; have f2 := frozenB q1 2; have f3 := frozenB q1 3; have f4 := frozenB q1 4; simp only [List.getElem?_toArray, List.getElem?_cons_zero, List.getElem?_cons_succ] at c0 c1 c2 c3 c4)
          refine bodyPost_ret (v := .tuple #[.agg #[.string ⟨#[]⟩, .string ⟨#[]⟩, .string ⟨#[]⟩, .string ⟨#[]⟩, .string ⟨#[]⟩], .bool false]) (by simp [results, Tryd.results30, go_sem, c0, c1, c2, c3, c4]) rfl ?_
          refine ⟨?_, ?_⟩
          · have : M.five L = none := five_empty (by rw [HL1.out]; simp)
            rw [this]; rfl
          · exact (((((HB.out.trans (hb1.mono HB.out.size)).setCell (Nat.le_refl _) _).setCell (Nat.le_refl _) _).setCell (Nat.le_refl _) _).setCell (Nat.le_refl _) _).setCell (Nat.le_refl _) _
      | none =>
        have HC : Hid (Calls Tryd.prog 19 #[.string (M.str r), .string ⟨#[32]⟩] wr fun e w' => e = .returned (.tuple #[.string (M.str r), .string ⟨#[]⟩, .bool false]) ∧ Below wr.heap.size wr w') := blank_none hr hc wr hG1
        have HL1 : Hid (L = [a0] ++ [r]) := by rw [Hid, HL0.out, pieces_none hc]
        clear hc HL0
        cases hE : (M.str r).toList.isEmpty
        · have hx := strNE hE
          go_wp2_with (go_at_call 19; refine (HC.out).mono ?_; rintro e w1 ⟨rfl, hb1⟩; have q1 : w1.heap[w.heap.size]? = some (.cells #[.string (M.str a0), .string ⟨#[]⟩, .string ⟨#[]⟩, .string ⟨#[]⟩, .string ⟨#[]⟩] 74 (0, 0)) := (hb1.block _ hlt).trans hblk; have c0 := cellB q1 0; have c1 := cellB q1 1; have c2 := cellB q1 2; have c3 := cellB q1 3; have c4 := cellB q1 4; have f0 := frozenB q1 0; have f1 := frozenB q1 1; have f2 := frozenB q1 2; have f3 := frozenB q1 3; have f4 := frozenB q1 4; simp only [List.getElem?_toArray, List.getElem?_cons_zero, List.getElem?_cons_succ] at c0 c1 c2 c3 c4)
          refine bodyPost_ret (v := .tuple #[.agg #[.string ⟨#[]⟩, .string ⟨#[]⟩, .string ⟨#[]⟩, .string ⟨#[]⟩, .string ⟨#[]⟩], .bool false]) (by simp [results, Tryd.results30, go_sem, c0, c1, c2, c3, c4]) rfl ?_
          refine ⟨?_, ?_⟩
          · have : M.five L = none := five_short (by rw [HL1.out]; simp)
            rw [this]; rfl
          · exact (((((HB.out.trans (hb1.mono HB.out.size)).setCell (Nat.le_refl _) _).setCell (Nat.le_refl _) _).setCell (Nat.le_refl _) _).setCell (Nat.le_refl _) _).setCell (Nat.le_refl _) _
        · have hx := strE hE
          subst hx
          go_wp2_with (go_at_call 19; refine (HC.out).mono ?_; rintro e w1 ⟨rfl, hb1⟩; have q1 : w1.heap[w.heap.size]? = some (.cells #[.string (M.str a0), .string ⟨#[]⟩, .string ⟨#[]⟩, .string ⟨#[]⟩, .string ⟨#[]⟩] 74 (0, 0)) := (hb1.block _ hlt).trans hblk; have c0 := cellB q1 0; have c1 := cellB q1 1; have c2 := cellB q1 2; have c3 := cellB q1 3; have c4 := cellB q1 4; have f0 := frozenB q1 0; have f1 := frozenB q1 1; have f2 := frozenB q1 2; have f3 := frozenB q1 3; have f4 := frozenB q1 4; simp only [List.getElem?_toArray, List.getElem?_cons_zero, List.getElem?_cons_succ] at c0 c1 c2 c3 c4)
          refine bodyPost_ret (v := .tuple #[.agg #[.string ⟨#[]⟩, .string ⟨#[]⟩, .string ⟨#[]⟩, .string ⟨#[]⟩, .string ⟨#[]⟩], .bool false]) (by simp [results, Tryd.results30, go_sem, c0, c1, c2, c3, c4]) rfl ?_
          refine ⟨?_, ?_⟩
          · have : M.five L = none := five_empty (by rw [HL1.out]; simp)
            rw [this]; rfl
          · exact (((((HB.out.trans (hb1.mono HB.out.size)).setCell (Nat.le_refl _) _).setCell (Nat.le_refl _) _).setCell (Nat.le_refl _) _).setCell (Nat.le_refl _) _).setCell (Nat.le_refl _) _
    | [a0, a1], _, HE, HL, hblk =>
      have HL0 : Hid (L = [a0, a1] ++ M.pieces 32 r) := HL.out
      have hblk : wr.heap[w.heap.size]? = some (.cells #[.string (M.str a0), .string (M.str a1), .string ⟨#[]⟩, .string ⟨#[]⟩, .string ⟨#[]⟩] 74 (0, 0)) := hblk
      clear HL
      cases hc : M.cutAt 32 r with
      | some xy =>
        obtain ⟨x, y⟩ := xy
        have HC : Hid (Calls Tryd.prog 19 #[.string (M.str r), .string ⟨#[32]⟩] wr fun e w' => e = .returned (.tuple #[.string (M.str x), .string (M.str y), .bool true]) ∧ Below wr.heap.size wr w') := blank_some hr hc wr hG1
        have HL1 : Hid (L = [a0, a1] ++ x :: M.pieces 32 y) := by rw [Hid, HL0.out, pieces_some hc]
        have hy : y.length ≤ 100000 := by have := cutAt_len hc; simp only at this; omega
        clear hc HL0
        cases hE : (M.str x).toList.isEmpty
        · have hx := strNE hE
          go_wp2_with (go_at_call 19; refine (HC.out).mono ?_; rintro e w1 ⟨rfl, hb1⟩; have q1 : w1.heap[w.heap.size]? = some (.cells #[.string (M.str a0), .string (M.str a1), .string ⟨#[]⟩, .string ⟨#[]⟩, .string ⟨#[]⟩] 74 (0, 0)) := (hb1.block _ hlt).trans hblk; have c0 := cellB q1 0; have c1 := cellB q1 1; have c2 := cellB q1 2; have c3 := cellB q1 3; have c4 := cellB q1 4; have f0 := frozenB q1 0; have f1 := frozenB q1 1; have f2 := frozenB q1 2; have f3 := frozenB q1 3; have f4 := frozenB q1 4; simp only [List.getElem?_toArray, List.getElem?_cons_zero, List.getElem?_cons_succ] at c0 c1 c2 c3 c4)
          go_roundw
          case rel =>
            refine ⟨[a0, a1, x], y, by simp, by first | rfl | go_num | simp, rfl, hy, ?_, ?_, (HB.out.trans (hb1.mono HB.out.size)).setCell (Nat.le_refl _) _, ?_⟩
            · intro z hz
              rcases List.mem_cons.1 (show z ∈ x :: [a0, a1] by simp only [List.mem_cons, List.not_mem_nil, or_false] at hz ⊢; rcases hz with hz | hz | hz <;> simp [hz]) with rfl | hz
              · exact hx
              · exact HE.out z hz
            · show (if 3 < 5 then _ else _)
              rw [if_pos (by decide), HL1.out]; rfl
            · rw [setB q1]; rfl
          case measure => simp [intOf]
        · have hx := strE hE
          subst hx
          go_wp2_with (go_at_call 19; refine (HC.out).mono ?_; rintro e w1 ⟨rfl, hb1⟩; have q1 : w1.heap[w.heap.size]? = some (.cells #[.string (M.str a0), .string (M.str a1), .string ⟨#[]⟩, .string ⟨#[]⟩, .string ⟨#[]⟩] 74 (0, 0)) := (hb1.block _ hlt).trans hblk; have c0 := cellB q1 0; have c1 := cellB q1 1; have c2 := cellB q1 2; have c3 := cellB q1 3; have c4 := cellB q1 4; have f0 := frozenB q1 0; have f1 := frozenB q1 1; have f2 := frozenB q1 2; have f3 := frozenB q1 3; have f4 := frozenB q1 4; simp only [List.getElem?_toArray, List.getElem?_cons_zero, List.getElem?_cons_succ] at c0 c1 c2 c3 c4)
          refine bodyPost_ret (v := .tuple #[.agg #[.string ⟨#[]⟩, .string ⟨#[]⟩, .string ⟨#[]⟩, .string ⟨#[]⟩, .string ⟨#[]⟩], .bool false]) (by simp [results, Tryd.results30, go_sem, c0, c1, c2, c3, c4]) rfl ?_
          refine ⟨?_, ?_⟩
          · have : M.five L = none := five_empty (by rw [HL1.out]; simp)
            rw [this]; rfl
          · exact (((((HB.out.trans (hb1.mono HB.out.size)).setCell (Nat.le_refl _) _).setCell (Nat.le_refl _) _).setCell (Nat.le_refl _) _).setCell (Nat.le_refl _) _).setCell (Nat.le_refl _) _
      | none =>
        have HC : Hid (Calls Tryd.prog 19 #[.string (M.str r), .string ⟨#[32]⟩] wr fun e w' => e = .returned (.tuple #[.string (M.str r), .string ⟨#[]⟩, .bool false]) ∧ Below wr.heap.size wr w') := blank_none hr hc wr hG1
        have HL1 : Hid (L = [a0, a1] ++ [r]) := by rw [Hid, HL0.out, pieces_none hc]
        clear hc HL0
        cases hE : (M.str r).toList.isEmpty
        · have hx := strNE hE
          go_wp2_with (go_at_call 19; refine (HC.out).mono ?_; rintro e w1 ⟨rfl, hb1⟩; have q1 : w1.heap[w.heap.size]? = some (.cells #[.string (M.str a0), .string (M.str a1), .string ⟨#[]⟩, .string ⟨#[]⟩, .string ⟨#[]⟩] 74 (0, 0)) := (hb1.block _ hlt).trans hblk; have c0 := cellB q1 0; have c1 := cellB q1 1; have c2 := cellB q1 2; have c3 := cellB q1 3; have c4 := cellB q1 4; have f0 := frozenB q1 0; have f1 := frozenB q1 1; have f2 := frozenB q1 2; have f3 := frozenB q1 3; have f4 := frozenB q1 4; simp only [List.getElem?_toArray, List.getElem?_cons_zero, List.getElem?_cons_succ] at c0 c1 c2 c3 c4)
          refine bodyPost_ret (v := .tuple #[.agg #[.string ⟨#[]⟩, .string ⟨#[]⟩, .string ⟨#[]⟩, .string ⟨#[]⟩, .string ⟨#[]⟩], .bool false]) (by simp [results, Tryd.results30, go_sem, c0, c1, c2, c3, c4]) rfl ?_
          refine ⟨?_, ?_⟩
          · have : M.five L = none := five_short (by rw [HL1.out]; simp)
            rw [this]; rfl
          · exact (((((HB.out.trans (hb1.mono HB.out.size)).setCell (Nat.le_refl _) _).setCell (Nat.le_refl _) _).setCell (Nat.le_refl _) _).setCell (Nat.le_refl _) _).setCell (Nat.le_refl _) _
        · have hx := strE hE
          subst hx
          go_wp2_with (go_at_call 19; refine (HC.out).mono ?_; rintro e w1 ⟨rfl, hb1⟩; have q1 : w1.heap[w.heap.size]? = some (.cells #[.string (M.str a0), .string (M.str a1), .string ⟨#[]⟩, .string ⟨#[]⟩, .string ⟨#[]⟩] 74 (0, 0)) := (hb1.block _ hlt).trans hblk; have c0 := cellB q1 0; have c1 := cellB q1 1; have c2 := cellB q1 2; have c3 := cellB q1 3; have c4 := cellB q1 4; have f0 := frozenB q1 0; have f1 := frozenB q1 1; have f2 := frozenB q1 2; have f3 := frozenB q1 3; have f4 := frozenB q1 4; simp only [List.getElem?_toArray, List.getElem?_cons_zero, List.getElem?_cons_succ] at c0 c1 c2 c3 c4)
          refine bodyPost_ret (v := .tuple #[.agg #[.string ⟨#[]⟩, .string ⟨#[]⟩, .string ⟨#[]⟩, .string ⟨#[]⟩, .string ⟨#[]⟩], .bool false]) (by simp [results, Tryd.results30, go_sem, c0, c1, c2, c3, c4]) rfl ?_
          refine ⟨?_, ?_⟩
          · have : M.five L = none := five_empty (by rw [HL1.out]; simp)
            rw [this]; rfl
          · exact (((((HB.out.trans (hb1.mono HB.out.size)).setCell (Nat.le_refl _) _).setCell (Nat.le_refl _) _).setCell (Nat.le_refl _) _).setCell (Nat.le_refl _) _).setCell (Nat.le_refl _) _
    | [a0, a1, a2], _, HE, HL, hblk =>
      have HL0 : Hid (L = [a0, a1, a2] ++ M.pieces 32 r) := HL.out
      have hblk : wr.heap[w.heap.size]? = some (.cells #[.string (M.str a0), .string (M.str a1), .string (M.str a2), .string ⟨#[]⟩, .string ⟨#[]⟩] 74 (0, 0)) := hblk
      clear HL
      cases hc : M.cutAt 32 r with
      | some xy =>
        obtain ⟨x, y⟩ := xy
        have HC : Hid (Calls Tryd.prog 19 #[.string (M.str r), .string ⟨#[32]⟩] wr fun e w' => e = .returned (.tuple #[.string (M.str x), .string (M.str y), .bool true]) ∧ Below wr.heap.size wr w') := blank_some hr hc wr hG1
        have HL1 : Hid (L = [a0, a1, a2] ++ x :: M.pieces 32 y) := by rw [Hid, HL0.out, pieces_some hc]
        have hy : y.length ≤ 100000 := by have := cutAt_len hc; simp only at this; omega
        clear hc HL0
        cases hE : (M.str x).toList.isEmpty
        · have hx := strNE hE
          go_wp2_with (go_at_call 19; refine (HC.out).mono ?_; rintro e w1 ⟨rfl, hb1⟩; have q1 : w1.heap[w.heap.size]? = some (.cells #[.string (M.str a0), .string (M.str a1), .string (M.str a2), .string ⟨#[]⟩, .string ⟨#[]⟩] 74 (0, 0)) := (hb1.block _ hlt).trans hblk; have c0 := cellB q1 0; have c1 := cellB q1 1; have c2 := cellB q1 2; have c3 := cellB q1 3; have c4 := cellB q1 4; have f0 := frozenB q1 0; have f1 := frozenB q1 1; have f2 := frozenB q1 2; have f3 := frozenB q1 3; have f4 := frozenB q1 4; simp only [List.getElem?_toArray, List.getElem?_cons_zero, List.getElem?_cons_succ] at c0 c1 c2 c3 c4)
          go_roundw
          case rel =>
            refine ⟨[a0, a1, a2, x], y, by simp, by first | rfl | go_num | simp, rfl, hy, ?_, ?_, (HB.out.trans (hb1.mono HB.out.size)).setCell (Nat.le_refl _) _, ?_⟩
            · intro z hz
              rcases List.mem_cons.1 (show z ∈ x :: [a0, a1, a2] by simp only [List.mem_cons, List.not_mem_nil, or_false] at hz ⊢; rcases hz with hz | hz | hz | hz <;> simp [hz]) with rfl | hz
              · exact hx
              · exact HE.out z hz
            · show (if 4 < 5 then _ else _)
              rw [if_pos (by decide), HL1.out]; rfl
            · rw [setB q1]; rfl
          case measure => simp [intOf]
        · have hx := strE hE
          subst hx
          go_wp2_with (go_at_call 19; refine (HC.out).mono ?_; rintro e w1 ⟨rfl, hb1⟩; have q1 : w1.heap[w.heap.size]? = some (.cells #[.string (M.str a0), .string (M.str a1), .string (M.str a2), .string ⟨#[]⟩, .string ⟨#[]⟩] 74 (0, 0)) := (hb1.block _ hlt).trans hblk; have c0 := cellB q1 0; have c1 := cellB q1 1; have c2 := cellB q1 2; have c3 := cellB q1 3; have c4 := cellB q1 4; have f0 := frozenB q1 0; have f1 := frozenB q1 1; have f2 := frozenB q1 2; have f3 := frozenB q1 3; have f4 := frozenB q1 4; simp only [List.getElem?_toArray, List.getElem?_cons_zero, List.getElem?_cons_succ] at c0 c1 c2 c3 c4)
          refine bodyPost_ret (v := .tuple #[.agg #[.string ⟨#[]⟩, .string ⟨#[]⟩, .string ⟨#[]⟩, .string ⟨#[]⟩, .string ⟨#[]⟩], .bool false]) (by simp [results, Tryd.results30, go_sem, c0, c1, c2, c3, c4]) rfl ?_
          refine ⟨?_, ?_⟩
          · have : M.five L = none := five_empty (by rw [HL1.out]; simp)
            rw [this]; rfl
          · exact (((((HB.out.trans (hb1.mono HB.out.size)).setCell (Nat.le_refl _) _).setCell (Nat.le_refl _) _).setCell (Nat.le_refl _) _).setCell (Nat.le_refl _) _).setCell (Nat.le_refl _) _
      | none =>
        have HC : Hid (Calls Tryd.prog 19 #[.string (M.str r), .string ⟨#[32]⟩] wr fun e w' => e = .returned (.tuple #[.string (M.str r), .string ⟨#[]⟩, .bool false]) ∧ Below wr.heap.size wr w') := blank_none hr hc wr hG1
        have HL1 : Hid (L = [a0, a1, a2] ++ [r]) := by rw [Hid, HL0.out, pieces_none hc]
        clear hc HL0
        cases hE : (M.str r).toList.isEmpty
        · have hx := strNE hE
          go_wp2_with (go_at_call 19; refine (HC.out).mono ?_; rintro e w1 ⟨rfl, hb1⟩; have q1 : w1.heap[w.heap.size]? = some (.cells #[.string (M.str a0), .string (M.str a1), .string (M.str a2), .string ⟨#[]⟩, .string ⟨#[]⟩] 74 (0, 0)) := (hb1.block _ hlt).trans hblk; have c0 := cellB q1 0; have c1 := cellB q1 1; have c2 := cellB q1 2; have c3 := cellB q1 3; have c4 := cellB q1 4; have f0 := frozenB q1 0; have f1 := frozenB q1 1; have f2 := frozenB q1 2; have f3 := frozenB q1 3; have f4 := frozenB q1 4; simp only [List.getElem?_toArray, List.getElem?_cons_zero, List.getElem?_cons_succ] at c0 c1 c2 c3 c4)
          refine bodyPost_ret (v := .tuple #[.agg #[.string ⟨#[]⟩, .string ⟨#[]⟩, .string ⟨#[]⟩, .string ⟨#[]⟩, .string ⟨#[]⟩], .bool false]) (by simp [results, Tryd.results30, go_sem, c0, c1, c2, c3, c4]) rfl ?_
          refine ⟨?_, ?_⟩
          · have : M.five L = none := five_short (by rw [HL1.out]; simp)
            rw [this]; rfl
          · exact (((((HB.out.trans (hb1.mono HB.out.size)).setCell (Nat.le_refl _) _).setCell (Nat.le_refl _) _).setCell (Nat.le_refl _) _).setCell (Nat.le_refl _) _).setCell (Nat.le_refl _) _
        · have hx := strE hE
          subst hx
          go_wp2_with (go_at_call 19; refine (HC.out).mono ?_; rintro e w1 ⟨rfl, hb1⟩; have q1 : w1.heap[w.heap.size]? = some (.cells #[.string (M.str a0), .string (M.str a1), .string (M.str a2), .string ⟨#[]⟩, .string ⟨#[]⟩] 74 (0, 0)) := (hb1.block _ hlt).trans hblk; have c0 := cellB q1 0; have c1 := cellB q1 1; have c2 := cellB q1 2; have c3 := cellB q1 3; have c4 := cellB q1 4; have f0 := frozenB q1 0; have f1 := frozenB q1 1; have f2 := frozenB q1 2; have f3 := frozenB q1 3; have f4 := frozenB q1 4; simp only [List.getElem?_toArray, List.getElem?_cons_zero, List.getElem?_cons_succ] at c0 c1 c2 c3 c4)
          refine bodyPost_ret (v := .tuple #[.agg #[.string ⟨#[]⟩, .string ⟨#[]⟩, .string ⟨#[]⟩, .string ⟨#[]⟩, .string ⟨#[]⟩], .bool false]) (by simp [results, Tryd.results30, go_sem, c0, c1, c2, c3, c4]) rfl ?_
          refine ⟨?_, ?_⟩
          · have : M.five L = none := five_empty (by rw [HL1.out]; simp)
            rw [this]; rfl
          · exact (((((HB.out.trans (hb1.mono HB.out.size)).setCell (Nat.le_refl _) _).setCell (Nat.le_refl _) _).setCell (Nat.le_refl _) _).setCell (Nat.le_refl _) _).setCell (Nat.le_refl _) _
    | [a0, a1, a2, a3], _, HE, HL, hblk =>
      have HL0 : Hid (L = [a0, a1, a2, a3] ++ M.pieces 32 r) := HL.out
      have hblk : wr.heap[w.heap.size]? = some (.cells #[.string (M.str a0), .string (M.str a1), .string (M.str a2), .string (M.str a3), .string ⟨#[]⟩] 74 (0, 0)) := hblk
      clear HL
      cases hc : M.cutAt 32 r with
      | some xy =>
        obtain ⟨x, y⟩ := xy
        have HC : Hid (Calls Tryd.prog 19 #[.string (M.str r), .string ⟨#[32]⟩] wr fun e w' => e = .returned (.tuple #[.string (M.str x), .string (M.str y), .bool true]) ∧ Below wr.heap.size wr w') := blank_some hr hc wr hG1
        have HL1 : Hid (L = [a0, a1, a2, a3] ++ x :: M.pieces 32 y) := by rw [Hid, HL0.out, pieces_some hc]
        have hy : y.length ≤ 100000 := by have := cutAt_len hc; simp only at this; omega
        clear hc HL0
        cases hE : (M.str x).toList.isEmpty
        · have hx := strNE hE
          go_wp2_with (go_at_call 19; refine (HC.out).mono ?_; rintro e w1 ⟨rfl, hb1⟩; have q1 : w1.heap[w.heap.size]? = some (.cells #[.string (M.str a0), .string (M.str a1), .string (M.str a2), .string (M.str a3), .string ⟨#[]⟩] 74 (0, 0)) := (hb1.block _ hlt).trans hblk; have c0 := cellB q1 0; have c1 := cellB q1 1; have c2 := cellB q1 2; have c3 := cellB q1 3; have c4 := cellB q1 4; have f0 := frozenB q1 0; have f1 := frozenB q1 1; have f2 := frozenB q1 2; have f3 := frozenB q1 3; have f4 := frozenB q1 4; simp only [List.getElem?_toArray, List.getElem?_cons_zero, List.getElem?_cons_succ] at c0 c1 c2 c3 c4)
          refine bodyPost_ret (v := .tuple #[.agg #[.string ⟨#[]⟩, .string ⟨#[]⟩, .string ⟨#[]⟩, .string ⟨#[]⟩, .string ⟨#[]⟩], .bool false]) (by simp [results, Tryd.results30, go_sem, c0, c1, c2, c3, c4]) rfl ?_
          refine ⟨?_, ?_⟩
          · have : M.five L = none := five_short (by rw [HL1.out]; have := List.length_pos_iff.2 (pieces_ne 32 y); simp only [List.cons_append, List.nil_append, List.length_cons]; omega)
            rw [this]; rfl
          · exact (((((HB.out.trans (hb1.mono HB.out.size)).setCell (Nat.le_refl _) _).setCell (Nat.le_refl _) _).setCell (Nat.le_refl _) _).setCell (Nat.le_refl _) _).setCell (Nat.le_refl _) _
        · have hx := strE hE
          subst hx
          go_wp2_with (go_at_call 19; refine (HC.out).mono ?_; rintro e w1 ⟨rfl, hb1⟩; have q1 : w1.heap[w.heap.size]? = some (.cells #[.string (M.str a0), .string (M.str a1), .string (M.str a2), .string (M.str a3), .string ⟨#[]⟩] 74 (0, 0)) := (hb1.block _ hlt).trans hblk; have c0 := cellB q1 0; have c1 := cellB q1 1; have c2 := cellB q1 2; have c3 := cellB q1 3; have c4 := cellB q1 4; have f0 := frozenB q1 0; have f1 := frozenB q1 1; have f2 := frozenB q1 2; have f3 := frozenB q1 3; have f4 := frozenB q1 4; simp only [List.getElem?_toArray, List.getElem?_cons_zero, List.getElem?_cons_succ] at c0 c1 c2 c3 c4)
          refine bodyPost_ret (v := .tuple #[.agg #[.string ⟨#[]⟩, .string ⟨#[]⟩, .string ⟨#[]⟩, .string ⟨#[]⟩, .string ⟨#[]⟩], .bool false]) (by simp [results, Tryd.results30, go_sem, c0, c1, c2, c3, c4]) rfl ?_
          refine ⟨?_, ?_⟩
          · have : M.five L = none := five_empty (by rw [HL1.out]; simp)
            rw [this]; rfl
          · exact (((((HB.out.trans (hb1.mono HB.out.size)).setCell (Nat.le_refl _) _).setCell (Nat.le_refl _) _).setCell (Nat.le_refl _) _).setCell (Nat.le_refl _) _).setCell (Nat.le_refl _) _
      | none =>
        have HC : Hid (Calls Tryd.prog 19 #[.string (M.str r), .string ⟨#[32]⟩] wr fun e w' => e = .returned (.tuple #[.string (M.str r), .string ⟨#[]⟩, .bool false]) ∧ Below wr.heap.size wr w') := blank_none hr hc wr hG1
        have HL1 : Hid (L = [a0, a1, a2, a3] ++ [r]) := by rw [Hid, HL0.out, pieces_none hc]
        clear hc HL0
        cases hE : (M.str r).toList.isEmpty
        · have hx := strNE hE
          go_wp2_with (go_at_call 19; refine (HC.out).mono ?_; rintro e w1 ⟨rfl, hb1⟩; have q1 : w1.heap[w.heap.size]? = some (.cells #[.string (M.str a0), .string (M.str a1), .string (M.str a2), .string (M.str a3), .string ⟨#[]⟩] 74 (0, 0)) := (hb1.block _ hlt).trans hblk; have c0 := cellB q1 0; have c1 := cellB q1 1; have c2 := cellB q1 2; have c3 := cellB q1 3; have c4 := cellB q1 4; have f0 := frozenB q1 0; have f1 := frozenB q1 1; have f2 := frozenB q1 2; have f3 := frozenB q1 3; have f4 := frozenB q1 4; simp only [List.getElem?_toArray, List.getElem?_cons_zero, List.getElem?_cons_succ] at c0 c1 c2 c3 c4)
          go_roundw
          case rel =>
            refine ⟨[a0, a1, a2, a3, r], [], by simp, by first | rfl | go_num | simp, rfl, by simp, ?_, ?_, (HB.out.trans (hb1.mono HB.out.size)).setCell (Nat.le_refl _) _, ?_⟩
            · intro z hz
              rcases List.mem_cons.1 (show z ∈ r :: [a0, a1, a2, a3] by simp only [List.mem_cons, List.not_mem_nil, or_false] at hz ⊢; rcases hz with hz | hz | hz | hz | hz <;> simp [hz]) with rfl | hz
              · exact hx
              · exact HE.out z hz
            · show (if 5 < 5 then _ else _)
              rw [if_neg (by decide), HL1.out]; rfl
            · rw [setB q1]; rfl
          case measure => simp [intOf]
        · have hx := strE hE
          subst hx
          go_wp2_with (go_at_call 19; refine (HC.out).mono ?_; rintro e w1 ⟨rfl, hb1⟩; have q1 : w1.heap[w.heap.size]? = some (.cells #[.string (M.str a0), .string (M.str a1), .string (M.str a2), .string (M.str a3), .string ⟨#[]⟩] 74 (0, 0)) := (hb1.block _ hlt).trans hblk; have c0 := cellB q1 0; have c1 := cellB q1 1; have c2 := cellB q1 2; have c3 := cellB q1 3; have c4 := cellB q1 4; have f0 := frozenB q1 0; have f1 := frozenB q1 1; have f2 := frozenB q1 2; have f3 := frozenB q1 3; have f4 := frozenB q1 4; simp only [List.getElem?_toArray, List.getElem?_cons_zero, List.getElem?_cons_succ] at c0 c1 c2 c3 c4)
          refine bodyPost_ret (v := .tuple #[.agg #[.string ⟨#[]⟩, .string ⟨#[]⟩, .string ⟨#[]⟩, .string ⟨#[]⟩, .string ⟨#[]⟩], .bool false]) (by simp [results, Tryd.results30, go_sem, c0, c1, c2, c3, c4]) rfl ?_
          refine ⟨?_, ?_⟩
          · have : M.five L = none := five_empty (by rw [HL1.out]; simp)
            rw [this]; rfl
          · exact (((((HB.out.trans (hb1.mono HB.out.size)).setCell (Nat.le_refl _) _).setCell (Nat.le_refl _) _).setCell (Nat.le_refl _) _).setCell (Nat.le_refl _) _).setCell (Nat.le_refl _) _
    | [a0, a1, a2, a3, a4], _, HE, HL, hblk =>
      have HL0 : Hid (L = [a0, a1, a2, a3, a4]) := HL.out
      have hblk : wr.heap[w.heap.size]? = some (.cells #[.string (M.str a0), .string (M.str a1), .string (M.str a2), .string (M.str a3), .string (M.str a4)] 74 (0, 0)) := hblk
      clear HL
      have c0 := cellB hblk 0
      have c1 := cellB hblk 1
      have c2 := cellB hblk 2
      have c3 := cellB hblk 3
      have c4 := cellB hblk 4
      have f0 := frozenB hblk 0
      have f1 := frozenB hblk 1
      have f2 := frozenB hblk 2
      have f3 := frozenB hblk 3
      have f4 := frozenB hblk 4
      simp only [List.getElem?_toArray, List.getElem?_cons_zero, List.getElem?_cons_succ] at c0 c1 c2 c3 c4
      go_wp2
      refine bodyPost_ret (v := .tuple #[.agg #[.string (M.str a0), .string (M.str a1), .string (M.str a2), .string (M.str a3), .string (M.str a4)], .bool true]) (by simp [results, Tryd.results30, go_sem, c0, c1, c2, c3, c4]) rfl ?_
      refine ⟨?_, ?_⟩
      · have : M.five L = some (a0, a1, a2, a3, a4) := by
          rw [HL0.out]
          exact five_full ⟨HE.out a0 (by simp), HE.out a1 (by simp), HE.out a2 (by simp), HE.out a3 (by simp), HE.out a4 (by simp)⟩
        rw [this]; rfl
      · exact ((((HB.out.setCell (Nat.le_refl _) _).setCell (Nat.le_refl _) _).setCell (Nat.le_refl _) _).setCell (Nat.le_refl _) _).setCell (Nat.le_refl _) _
    | _ :: _ :: _ :: _ :: _ :: _ :: _, h, _, _, _ => simp at h

end Go.Proofs.YtogipjjmnmahnaaDoor
