/-
  The contract of script.Parse.
-/
import Derived.Test.YtogipjjmnmahnaaDoorScrLine
namespace Go.Proofs.YtogipjjmnmahnaaDoor
open Go Go.RowKit
set_option linter.unusedVariables false

theorem few_line {p q : M.Prt} {t : M.Txt} {k : Nat} (hF : Few p k) (h : M.addLine p t = some q) : Few q (k + 1) := by
  obtain ⟨h1, h2, h3⟩ := hF
  unfold M.addLine at h
  split at h
  · rename_i w0 w1 w2 w3 w4 h5
    unfold M.addWords at h
    split at h
    · split at h
      · unfold M.addFrag at h
        split at h
        · split at h
          · obtain ⟨n, _, rfl⟩ := Option.map_eq_some_iff.1 h
            refine ⟨by simp; omega, by simp; omega, fun f hf => ?_⟩
            rcases List.mem_append.1 hf with hf | hf
            · have := h3 f hf; omega
            · rw [List.mem_singleton.1 hf]; simp
          · obtain ⟨n, _, rfl⟩ := Option.map_eq_some_iff.1 h
            refine ⟨by simp; omega, by simp; omega, fun f hf => ?_⟩
            rcases List.mem_append.1 hf with hf | hf
            · have := h3 f hf; omega
            · rw [List.mem_singleton.1 hf]; simp
        · cases h
      · cases h
    · split at h
      · split at h
        · unfold M.addPlace at h
          split at h
          · cases h
          · rename_i hne
            obtain ⟨r, _, rfl⟩ := Option.map_eq_some_iff.1 h
            rcases List.eq_nil_or_concat p.frags with he | ⟨init, l, he⟩
            · exact absurd he hne
            · rw [List.concat_eq_append] at he
              rw [he] at h1 h3
              refine ⟨?_, by simp; omega, ?_⟩
              · rw [he, onLast_append]; simp at h1 ⊢; omega
              · rw [he, onLast_append]
                intro f hf
                rcases List.mem_append.1 hf with hf | hf
                · have := h3 f (by simp [hf]); omega
                · rw [List.mem_singleton.1 hf]
                  have := h3 l (by simp)
                  simp [M.addRel]; omega
        · cases h
      · split at h
        · unfold M.addDef at h
          obtain ⟨n, _, rfl⟩ := Option.map_eq_some_iff.1 h
          exact ⟨by simp; omega, by simp; omega, fun f hf => by have := h3 f hf; omega⟩
        · cases h
  · cases h

theorem nl_some {r x y : M.Txt} (hr : r.length ≤ 100000) (h : M.cutAt 10 r = some (x, y)) (W : World) (hG : Glob W) :
    Calls Tryd.prog 19 #[.string (M.str r), .string ⟨#[10]⟩] W fun e w' => e = .returned (.tuple #[.string (M.str x), .string (M.str y), .bool true]) ∧ Below W.heap.size W w' := by
  have := cut_any (M.str r) ⟨#[10]⟩ W hG (by rw [str_size]; exact hr)
  rw [txt_str] at this
  have e : Lib.cut r (M.txt ⟨#[10]⟩) = (x, y, true) := by
    show Lib.cut r [10] = _
    rw [cut_one, h]
  rwa [e] at this
theorem nl_none {r : M.Txt} (hr : r.length ≤ 100000) (h : M.cutAt 10 r = none) (W : World) (hG : Glob W) :
    Calls Tryd.prog 19 #[.string (M.str r), .string ⟨#[10]⟩] W fun e w' => e = .returned (.tuple #[.string (M.str r), .string ⟨#[]⟩, .bool false]) ∧ Below W.heap.size W w' := by
  have := cut_any (M.str r) ⟨#[10]⟩ W hG (by rw [str_size]; exact hr)
  rw [txt_str] at this
  have e : Lib.cut r (M.txt ⟨#[10]⟩) = (r, [], false) := by
    show Lib.cut r [10] = _
    rw [cut_one, h]
  rwa [e] at this

theorem PM.set2 {w : World} {B b : Nat} {es : List Ent} {ds : List M.Dfn} {vF vD : Value} (h : PM w B b es ds vF vD) : PM ((w.setCell ⟨b, 0, none⟩ vF).setCell ⟨b, 1, none⟩ vD) B b es ds vF vD := by
  have b1 := setB' (i := 0) h.blk vF
  have b2 := setB' (i := 1) b1 vD
  have s1 := grown_set w b 0 vF
  have s2 := grown_set (w.setCell ⟨b, 0, none⟩ vF) b 1 vD
  have key : ∀ (e : TypeId) (k n : Nat) (v : Value) (xs : List Value), e ≠ 25 → w.ownsRow B e k v n xs → ((w.setCell ⟨b, 0, none⟩ vF).setCell ⟨b, 1, none⟩ vD).ownsRow B e k v n xs := fun e k n v xs he hx => by
    have h1 := hx.kept s1 (own_ne hx h.blk he)
    exact h1.kept s2 (own_ne h1 b1 he)
  exact ⟨h.le, b2, key _ _ _ _ _ (by decide) h.rowF, key _ _ _ _ _ (by decide) h.rowD, fun e he => key _ _ _ _ _ (by decide) (h.bytes e he), h.small, h.smallD, fun e he => key _ _ _ _ _ (by decide) (h.rels e he), h.last⟩

def strLen (v : Value) : Nat := match v with | .string s => s.size | _ => 0
theorem strLen_str (t : M.Txt) : strLen (.string (M.str t)) = t.length := str_size t

/-- how Parse ends -/
def Reads (w : World) (o : M.Prt × Nat × Int) (e : Ending) (w' : World) : Prop :=
  Below w.heap.size w w' ∧ ∃ a1 c1 a2 c2, e = .returned (.tuple #[.agg #[.slice a1 o.1.frags.length c1, .slice a2 o.1.defs.length c2], .int .i64 o.2.1, .int .i64 o.2.2]) ∧ FragsAt w' (.slice a1 o.1.frags.length c1) o.1.frags ∧ DefsAt w' (.slice a2 o.1.defs.length c2) o.1.defs

theorem nil_frags (w : World) : FragsAt w (.slice none 0 0) [] := ⟨fun _ _ => undef, ⟨_, _, rfl, Nat.zero_le _, .inl rfl⟩, fun j hj => absurd hj (Nat.not_lt_zero _)⟩
theorem nil_defs (w : World) : DefsAt w (.slice none 0 0) [] := ⟨⟨_, _, rfl, Nat.zero_le _, .inl rfl⟩, fun d hd => by cases hd⟩

theorem reads_nil {w w' : World} {k : Nat} {c : Int} (hb : Below w.heap.size w w') : Reads w (M.nil, k, c) (.returned (.tuple #[.agg #[.slice none 0 0, .slice none 0 0], .int .i64 k, .int .i64 c])) w' :=
  ⟨hb, none, 0, none, 0, rfl, nil_frags _, nil_defs _⟩

def readAll (t : M.Txt) : M.Prt × Nat × Int := if 20000 < t.length then (M.nil, 0, 2) else M.read t

set_option maxHeartbeats 4000000 in
set_option maxRecDepth 100000 in
theorem parse_any (t : M.Txt) (w : World) (hG : Glob w) (htm : t.length ≤ maxLen) :
    Calls Tryd.prog 6 #[.string (M.str t)] w (Reads w (readAll t)) := by
  have hsz : (M.str t).size = t.length := str_size t
  unfold maxLen at htm
  by_cases hbig : 20000 < t.length
  · have HO : Hid (readAll t = (M.nil, 0, 2)) := by rw [Hid, readAll, if_pos hbig]
    have hd : decide (20000 < (t.length : Int)) = true := by simp; omega
    generalize readAll t = O at *
    go_enter Tryd.func6, Tryd.ntmps6
    go_wp2
    refine bodyPost_ret (v := .tuple #[.agg #[.slice none 0 0, .slice none 0 0], .int .i64 0, .int .i64 2]) (by simp [results, Tryd.results6, go_sem]) rfl ?_
    rw [HO.out]
    refine reads_nil (k := 0) ?_
    first | exact (Below.refl _ _).alloc (Nat.le_refl _) _ | exact (((Below.refl _ _).alloc (Nat.le_refl _) _).setCell (Nat.le_refl _) _).setCell (Nat.le_refl _) _
  · have HO : Hid (readAll t = M.readL 0 M.nil (M.pieces 10 t)) := by rw [Hid, readAll, if_neg hbig]; rfl
    have hd : decide (20000 < (t.length : Int)) = false := by simp; omega
    have ht : t.length ≤ 20000 := by omega
    generalize readAll t = O at *
    clear hbig
    go_enter Tryd.func6, Tryd.ntmps6
    go_wp2_with fail
    go_loopw [0, 3] (fun s0 s3 wr => ∃ (r : M.Txt) (p : M.Prt) (k : Nat), s0 = .string (M.str r) ∧ s3 = .int .i64 k ∧ k + r.length ≤ 20000 ∧ HasPart wr w.heap.size w.heap.size p ∧ Few p k ∧ Hid (O = M.readL k p (M.pieces 10 r)) ∧ Hid (Below w.heap.size w wr)) (fun s0 _ _ => strLen s0)
    case atStart =>
      refine ⟨t, M.nil, 0, rfl, rfl, by omega, ?_, ⟨by simp [M.nil], by simp [M.nil], by simp [M.nil]⟩, HO, (Below.refl _ _).alloc (Nat.le_refl _) _⟩
      exact ⟨[], [], .slice none 0 0, .slice none 0 0, ⟨Nat.le_refl _, heap_alloc_new _ _, World.ownsRow_nil _ _ _ _, World.ownsRow_nil _ _ _ _, by simp, by simp, by simp, by simp, fun init l h => by simp at h⟩, rfl⟩
    case round =>
      clear HO hd ht hsz
      obtain ⟨r, p, k, rfl, rfl, hlen, hP, hF, HO, HB⟩ := hrel
      have hGr := hG.later HB.out
      cases hE : (M.str r).toList.isEmpty
      · have hne := strNE hE
        cases hc : M.cutAt 10 r with
        | none =>
          have HC : Hid (Calls Tryd.prog 19 #[.string (M.str r), .string ⟨#[10]⟩] wr fun e w' => e = .returned (.tuple #[.string (M.str r), .string ⟨#[]⟩, .bool false]) ∧ Below wr.heap.size wr w') := nl_none (by omega) hc wr hGr
          have HO1 : Hid (O = (M.nil, k, 1)) := by rw [Hid, HO.out, pieces_none hc]; simp [M.readL, hne]
          clear hc HO
          obtain ⟨es, ds, vF, vD, hPM, rfl⟩ := hP
          have hbr : w.heap.size < wr.heap.size := (Array.getElem?_eq_some_iff.1 hPM.blk).1
          go_wp2_with (go_at_call 19; refine HC.out.mono ?_; rintro e x1 ⟨rfl, hb1⟩; have q1 := (hb1.block _ hbr).trans hPM.blk; have c0 : x1.cell? ⟨w.heap.size, 0, none⟩ = some vF := cellB q1 0; have c1 : x1.cell? ⟨w.heap.size, 1, none⟩ = some vD := cellB q1 1; have f0 := frozenB q1 0; have f1 := frozenB q1 1)
          refine bodyPost_ret (v := .tuple #[.agg #[.slice none 0 0, .slice none 0 0], .int .i64 k, .int .i64 1]) (by simp [results, Tryd.results6, go_sem, c0, c1]) rfl ?_
          rw [HO1.out]
          refine reads_nil ?_
          exact ((HB.out.trans (hb1.mono HB.out.size)).setCell (Nat.le_refl _) _).setCell (Nat.le_refl _) _
        | some xy =>
          obtain ⟨x, y⟩ := xy
          have HC : Hid (Calls Tryd.prog 19 #[.string (M.str r), .string ⟨#[10]⟩] wr fun e w' => e = .returned (.tuple #[.string (M.str x), .string (M.str y), .bool true]) ∧ Below wr.heap.size wr w') := nl_some (by omega) hc wr hGr
          have hcl := cutAt_len hc
          simp only at hcl
          have HO0 : Hid (O = match M.addLine p x with | some q => M.readL (k + 1) q (M.pieces 10 y) | none => (M.nil, k, 1)) := by
            rw [Hid, HO.out, pieces_some hc]
            cases hp : M.pieces 10 y with
            | nil => exact absurd hp (pieces_ne 10 y)
            | cons a l => rfl
          have HA : Hid (∀ W, Below wr.heap.size wr W → Calls Tryd.prog 20 #[.pointer (some ⟨w.heap.size, 0, none⟩), .string (M.str x)] W (Does w.heap.size w.heap.size W (M.addLine p x))) := fun W hW =>
            line_any p x (by omega) w.heap.size w.heap.size W (hP.later hW) (hGr.later hW) (Nat.le_trans HB.out.size hW.size) ⟨by have := hF.1; omega, by have := hF.2.1; omega, fun f hf => by have := hF.2.2 f hf; omega⟩
          have HFw : Hid (∀ q, M.addLine p x = some q → Few q (k + 1)) := fun q hq => few_line hF hq
          clear hc HO hP hF
          cases hal : M.addLine p x with
          | none =>
            rw [hal] at HO0 HA
            have HO1 : Hid (O = (M.nil, k, 1)) := HO0.out
            clear HO0 HFw hal
            go_wp2_with (first | (go_at_call 19; refine HC.out.mono ?_; rintro e x1 ⟨rfl, hb1⟩) | (go_at_call 20; refine (HA.out _ hb1).mono ?_; rintro e x2 ⟨rfl, hb2, ⟨uF, uD, q1⟩, hp2⟩; have c0 : x2.cell? ⟨w.heap.size, 0, none⟩ = some uF := cellB q1 0; have c1 : x2.cell? ⟨w.heap.size, 1, none⟩ = some uD := cellB q1 1; have f0 := frozenB q1 0; have f1 := frozenB q1 1))
            refine bodyPost_ret (v := .tuple #[.agg #[.slice none 0 0, .slice none 0 0], .int .i64 k, .int .i64 1]) (by simp [results, Tryd.results6, go_sem, c0, c1]) rfl ?_
            rw [HO1.out]
            refine reads_nil ?_
            exact (((HB.out.trans (hb1.mono HB.out.size)).trans hb2).setCell (Nat.le_refl _) _).setCell (Nat.le_refl _) _
          | some q =>
            rw [hal] at HO0 HA
            have HO1 : Hid (O = M.readL (k + 1) q (M.pieces 10 y)) := HO0.out
            have hFq := HFw.out q hal
            clear HO0 HFw hal
            go_wp2_with (first | (go_at_call 19; refine HC.out.mono ?_; rintro e x1 ⟨rfl, hb1⟩) | (go_at_call 20; refine (HA.out _ hb1).mono ?_; rintro e x2 ⟨rfl, hb2, hbk, hp2⟩))
            go_roundw
            case rel => exact ⟨y, q, k + 1, rfl, by go_num, by omega, hp2 q rfl, hFq, HO1, (HB.out.trans (hb1.mono HB.out.size)).trans hb2⟩
            case measure => rw [strLen_str, strLen_str]; omega
      · have hr := strE hE
        subst hr
        have HO0 : Hid (O = M.fin p) := by rw [Hid, HO.out]; simp [M.pieces, M.readL]
        clear HO
        obtain ⟨es, ds, vF, vD, hPM, rfl⟩ := hP
        obtain ⟨aD, cD, rfl⟩ := own_len hPM.rowD
        obtain ⟨aF, cF, rfl⟩ := own_len hPM.rowF
        have hfr := hPM.fragsAt
        have hdf := hPM.defsAt
        have hbr : w.heap.size < wr.heap.size := (Array.getElem?_eq_some_iff.1 hPM.blk).1
        have hlenf : es.length = (es.map (·.f)).length := by simp
        have q0 := hPM.blk
        have HPM : Hid (∀ W, Below wr.heap.size wr W → FragsAt ((W.setCell ⟨w.heap.size, 0, none⟩ (.slice aF es.length cF)).setCell ⟨w.heap.size, 1, none⟩ (.slice aD ds.length cD)) (.slice aF es.length cF) (es.map (·.f)) ∧ DefsAt ((W.setCell ⟨w.heap.size, 0, none⟩ (.slice aF es.length cF)).setCell ⟨w.heap.size, 1, none⟩ (.slice aD ds.length cD)) (.slice aD ds.length cD) ds) := fun W hW =>
          ⟨(hPM.later hW).set2.fragsAt, (hPM.later hW).set2.defsAt⟩
        clear hPM
        rw [hlenf] at hfr q0 HPM
        generalize es.map (·.f) = fs at *
        clear hlenf
        have HK : Hid (Calls Tryd.prog 9 #[.agg #[.slice aF fs.length cF, .slice aD ds.length cD]] wr fun e w' => e = .returned (.int .i64 (M.checkPart ⟨fs, ds⟩)) ∧ Below wr.heap.size wr w') := check_any fs ds aF aD cF cD wr hfr hdf
        have d0 : wr.cell? ⟨w.heap.size, 0, none⟩ = some (.slice aF fs.length cF) := cellB q0 0
        have d1 : wr.cell? ⟨w.heap.size, 1, none⟩ = some (.slice aD ds.length cD) := cellB q0 1
        clear hfr hdf hF
        by_cases hck : M.checkPart ⟨fs, ds⟩ = 0
        · have HO1 : Hid (O = (⟨fs, ds⟩, 0, 0)) := by rw [Hid, HO0.out, M.fin, if_pos hck]
          rw [hck] at HK
          clear hck HO0
          go_wp2_with (go_at_call 9; refine HK.out.mono ?_; rintro e x1 ⟨rfl, hb1⟩; have q1 := (hb1.block _ hbr).trans q0; have c0 : x1.cell? ⟨w.heap.size, 0, none⟩ = some (.slice aF fs.length cF) := cellB q1 0; have c1 : x1.cell? ⟨w.heap.size, 1, none⟩ = some (.slice aD ds.length cD) := cellB q1 1; have f0 := frozenB q1 0; have f1 := frozenB q1 1)
          refine bodyPost_ret (v := .tuple #[.agg #[.slice aF fs.length cF, .slice aD ds.length cD], .int .i64 0, .int .i64 0]) (by simp [results, Tryd.results6, go_sem, c0, c1]) rfl ?_
          rw [HO1.out]
          exact ⟨((HB.out.trans (hb1.mono HB.out.size)).setCell (Nat.le_refl _) _).setCell (Nat.le_refl _) _, aF, cF, aD, cD, rfl, (HPM.out x1 hb1).1, (HPM.out x1 hb1).2⟩
        · have HO1 : Hid (O = (M.nil, 0, M.checkPart ⟨fs, ds⟩)) := by rw [Hid, HO0.out, M.fin, if_neg hck]
          have hcn : (M.checkPart ⟨fs, ds⟩ != 0) = true := by simpa using hck
          clear hck HO0
          generalize M.checkPart ⟨fs, ds⟩ = ce at *
          go_wp2_with (go_at_call 9; refine HK.out.mono ?_; rintro e x1 ⟨rfl, hb1⟩; have q1 := (hb1.block _ hbr).trans q0; have c0 : x1.cell? ⟨w.heap.size, 0, none⟩ = some (.slice aF fs.length cF) := cellB q1 0; have c1 : x1.cell? ⟨w.heap.size, 1, none⟩ = some (.slice aD ds.length cD) := cellB q1 1; have f0 := frozenB q1 0; have f1 := frozenB q1 1)
          refine bodyPost_ret (v := .tuple #[.agg #[.slice none 0 0, .slice none 0 0], .int .i64 0, .int .i64 ce]) (by simp [results, Tryd.results6, go_sem, c0, c1]) rfl ?_
          rw [HO1.out]
          refine reads_nil (k := 0) ?_
          exact ((HB.out.trans (hb1.mono HB.out.size)).setCell (Nat.le_refl _) _).setCell (Nat.le_refl _) _

end Go.Proofs.YtogipjjmnmahnaaDoor
