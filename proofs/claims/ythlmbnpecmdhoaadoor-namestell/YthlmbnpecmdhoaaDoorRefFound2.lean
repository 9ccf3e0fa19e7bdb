/-
  The walk of the reference's Found.
-/
import Derived.Test.YthlmbnpecmdhoaaDoorRefFound
import Derived.BigRegion
namespace Go.Proofs.YthlmbnpecmdhoaaDoor
open Go Go.RowKit Go.Maps
set_option linter.unusedVariables false

theorem defs_row {w : World} {B : Nat} {v : Value} {ds : List M.Dfn} (h : w.ownsRow B 31 6 v ds.length (ds.flatMap encDfn)) (k : Nat) (hk : k < ds.length) :
    ∃ g cap, v = .slice (some ⟨g, 0, none⟩) ds.length cap ∧ ∀ i, i < 6 → w.cell? ⟨g, 0 + k * 6 + i, none⟩ = some ((encDfn (ds.getD k dfn0)).getD i undef) := by
  have hs := row_slice (k := 6) dfn0 encDfn (fun _ => rfl) ds h
  rcases h.2 with ⟨h1, h2⟩ | ⟨g, cap, cur, h1, _⟩
  · omega
  · rw [h1] at hs
    obtain ⟨b, off, he, hc⟩ := hs.at k hk
    cases he
    exact ⟨g, cap, h1, hc⟩

theorem row_form {w : World} {B k n : Nat} {e : TypeId} {v : Value} {xs : List Value} (h : w.ownsRow B e k v n xs) : ∃ ad cc, v = .slice ad n cc := by
  rcases h.2 with ⟨h1, h2⟩ | ⟨g, cap, cur, h1, _⟩
  · exact ⟨none, 0, by rw [h1, h2]⟩
  · exact ⟨_, _, h1⟩

theorem name_of_beq {a b : ByteArray} (h : (a.toList == b.toList) = true) : a = b := by
  have h' : a.toList = b.toList := by simpa using h
  rw [Lib.toList_data, Lib.toList_data] at h'
  rw [← M.of_txt a, ← M.of_txt b]
  unfold M.txt'
  rw [h']

theorem plain_common' {d : M.Dfn} (h : M.plainDfn d = 0) (hk : (d.kind == 3) = true) : d.frag = 0 ∧ d.pos = 0 ∧ 0 ≤ d.size ∧ 0 ≤ d.align := by
  have hk' : d.kind = 3 := by simpa using hk
  unfold M.plainDfn at h
  split at h
  · cases h
  rw [if_neg (by omega)] at h
  cases hb : (d.frag == 0 && d.pos == 0 && M.within d.size 1 64 && M.isAlign d.align)
  · rw [hb] at h; cases h
  · simp only [Bool.and_eq_true, Bool.or_eq_true, beq_iff_eq, M.within, M.isAlign, decide_eq_true_eq] at hb
    omega

/-- the reference's common definition -/
def zeroDfn (s : ByteArray) : M.Dfn := ⟨s, 3, 0, 0, 0, 0⟩

theorem foldl_zero (s : ByteArray) (l : List M.Dfn) (h0 : 0 < l.length) (h : ∀ d ∈ l, M.isDef s 3 d = true ∧ M.plainDfn d = 0) : l.foldl M.grow (zeroDfn s) = M.greatest l := by
  cases l with
  | nil => simp at h0
  | cons x l =>
    obtain ⟨h1, h2⟩ := h x (List.mem_cons_self ..)
    unfold M.isDef at h1
    rw [Bool.and_eq_true] at h1
    obtain ⟨hf, hp, hs, ha⟩ := plain_common' h2 h1.2
    have hn : x.name = s := name_of_beq h1.1
    have hk : x.kind = 3 := by simpa using h1.2
    unfold M.greatest
    rw [List.foldl_cons, List.foldl_cons, List.headD_cons]
    congr 1
    obtain ⟨nm, kd, fr, pos, sz, al⟩ := x
    simp only at hf hp hs ha hn hk
    subst hf hp hn hk
    simp only [M.grow, zeroDfn, Int.max_self, Int.max_eq_right hs, Int.max_eq_right ha]

set_option maxHeartbeats 8000000 in
set_option maxRecDepth 100000 in
theorem rfound_any (ds : List M.Dfn) (s : ByteArray) (a1 a2 : Option Addr) (n1 c1 c2 : Nat) (w : World) (hd : DefsAt w (.slice a2 ds.length c2) ds) (h60 : ds.length ≤ 60) (hp : ∀ d ∈ ds, M.plainDfn d = 0) :
    Calls Tryd.prog 14 #[.agg #[.slice a1 n1 c1, .slice a2 ds.length c2], .string s] w fun e w' => e = .returned (.tuple #[.agg (dfnArr (M.find ds s).1), .int .i64 (M.find ds s).2]) ∧ Below w.heap.size w w' := by
  obtain ⟨i3, hi3, hu0, hu1, hu2⟩ := info_parts (P := Tryd.prog) (e := 31) (z := .agg #[.string ⟨#[]⟩, .int .i64 0, .int .i64 0, .int .i64 0, .int .i64 0, .int .i64 0]) (size := 6) (bytes := 56) (by kernel_rfl)
  have hmm := @run_makeMap Tryd.prog
  have HD : Hid (DefsAt w (.slice a2 ds.length c2) ds) := hd
  have HP : Hid (∀ d ∈ ds, M.plainDfn d = 0) := hp
  clear hd hp
  go_enter Tryd.func14, Tryd.ntmps14
  go_upto_region 3 with fail
  have HY : Hid (∃ Y, Y = ((w.alloc (.cells #[.slice a1 n1 c1, .slice a2 ds.length c2] 25)).alloc (.cells #[.string ⟨#[]⟩, .int .i64 0, .int .i64 0, .int .i64 0, .int .i64 0, .int .i64 0] 31)).alloc (.map #[] 0) ∧ Below w.heap.size w Y ∧ Y.heap[w.heap.size + 1]? = some (.cells #[.string ⟨#[]⟩, .int .i64 0, .int .i64 0, .int .i64 0, .int .i64 0, .int .i64 0] 31 (0, 0)) ∧ Grp Y (w.heap.size + 3) (w.heap.size + 1 + 1) 0 (.map []) [] s (fun _ => .slice none 0 0)) := by
    refine ⟨_, rfl, (((Below.refl _ _).alloc (Nat.le_refl _) _).alloc (by simp) _).alloc (by simp; omega) _, (heap_alloc_old _ _ (by simp)).trans (heap_alloc2_new _ _ _), ?_⟩
    have := Grp.made ((w.alloc (.cells #[.slice a1 n1 c1, .slice a2 ds.length c2] 25)).alloc (.cells #[.string ⟨#[]⟩, .int .i64 0, .int .i64 0, .int .i64 0, .int .i64 0, .int .i64 0] 31)) (w.heap.size + 3) s
    simpa using this
  obtain ⟨Y, hY, hBY, hqY, hGY⟩ := HY.out
  rw [← hY]
  clear hY HY hmm
  have HBY : Hid (Below w.heap.size w Y) := hBY
  have HQY : Hid (Y.heap[w.heap.size + 1]? = some (.cells #[.string ⟨#[]⟩, .int .i64 0, .int .i64 0, .int .i64 0, .int .i64 0, .int .i64 0] 31 (0, 0))) := hqY
  have HGY : Hid (Grp Y (w.heap.size + 3) (w.heap.size + 1 + 1) 0 (.map []) [] s (fun _ => .slice none 0 0)) := hGY
  clear hBY hqY hGY
  go_loopw [16] (fun s16 wr => ∃ (k : Nat) (D : DataW Unit) (v : Int → Value), k ≤ ds.length ∧ s16 = .int .i64 k ∧ Hid (Grp wr (w.heap.size + 3) (w.heap.size + 1 + 1) k D (ds.take k) s v) ∧ Hid (Below w.heap.size w wr) ∧ Hid (wr.heap[w.heap.size + 1]? = some (.cells #[.string ⟨#[]⟩, .int .i64 0, .int .i64 0, .int .i64 0, .int .i64 0, .int .i64 0] 31 (0, 0)))) (fun s16 _ => ds.length - (intOf s16).toNat)
  case atStart => exact ⟨0, _, _, Nat.zero_le _, rfl, HGY, HBY, HQY⟩
  case round =>
    obtain ⟨k, D, v, hk, rfl, HG, HB, HQ⟩ := hrel
    clear HGY HBY HQY
    have hml : w.heap.size + 1 + 1 < wr.heap.size := HG.out.map.lt
    by_cases hlt : k < ds.length
    · obtain ⟨b, off, rfl, e0, e1, e2, e3, e4, e5, hnm⟩ := (HD.out.later HB.out).cells k hlt
      have hbr : b < wr.heap.size := World.block_lt_of_cell? _ _ e0
      have hkl : (k : Int) < (ds.length : Int) := by omega
      have HT : Hid (ds.take (k + 1) = ds.take k ++ [ds.getD k dfn0]) := by
        rw [Hid, List.take_succ_eq_append_getElem hlt, List.getD_eq_getElem?_getD, List.getElem?_eq_getElem hlt]; rfl
      have hpl := HP.out _ (getD_mem ds dfn0 k hlt)
      generalize ds.getD k dfn0 = d at *
      obtain ⟨nm, kd, fg, pos, sz, al⟩ := d
      simp only at e0 e1 e2 e3 e4 e5 hnm
      have hwf : (Lit.int .i64 kd).wf = true := by
        unfold M.plainDfn at hpl
        split at hpl
        · cases hpl
        split at hpl
        · rename_i h; rcases h with h | h <;> (simp only at h; subst h; decide)
        split at hpl
        · rename_i h; simp only at h; subst h; decide
        · cases hpl
      clear hpl
      cases hq : (nm.toList == s.toList)
      · have HG1 : Hid (Grp wr (w.heap.size + 3) (w.heap.size + 1 + 1) (k + 1) D (ds.take (k + 1)) s v) := by rw [Hid, HT.out]; exact HG.out.skip hq
        have hq' : (nm.toList == s.toList) = false := hq
        have HEx : Hid (∀ o, Below wr.heap.size wr (wr.alloc o)) := fun o => (Below.refl _ _).alloc (Nat.le_refl _) o
        clear HG hq
        go_wp2
        go_roundw
        case rel => exact ⟨k + 1, D, v, by omega, by go_num, HG1.out.later (HEx.out _), HB.out.trans ((HEx.out _).mono HB.out.size), ((HEx.out _).block _ (by omega)).trans HQ.out⟩
        case measure => simp [intOf]; omega
      · go_upto_region 6 with fail
        have xf := heap_alloc_new wr (.cells #[.string nm, .int .i64 kd, .int .i64 fg, .int .i64 pos, .int .i64 sz, .int .i64 al] 31)
        have hGX : Grp (wr.alloc (.cells #[.string nm, .int .i64 kd, .int .i64 fg, .int .i64 pos, .int .i64 sz, .int .i64 al] 31)) (w.heap.size + 3) (w.heap.size + 1 + 1) k D (ds.take k) s v := HG.out.later ((Below.refl _ _).alloc (Nat.le_refl _) _)
        have HBX : Hid (Below w.heap.size w (wr.alloc (.cells #[.string nm, .int .i64 kd, .int .i64 fg, .int .i64 pos, .int .i64 sz, .int .i64 al] 31))) := HB.out.alloc HB.out.size _
        have HQX : Hid ((wr.alloc (.cells #[.string nm, .int .i64 kd, .int .i64 fg, .int .i64 pos, .int .i64 sz, .int .i64 al] 31)).heap[w.heap.size + 1]? = some (.cells #[.string ⟨#[]⟩, .int .i64 0, .int .i64 0, .int .i64 0, .int .i64 0, .int .i64 0] 31 (0, 0))) := (heap_alloc_old _ _ (by omega)).trans HQ.out
        have HN : Hid (∀ q g, (v q).ownBlock = some g → g < wr.heap.size ∧ w.heap.size + 3 ≤ g) := fun q g hg => ⟨((HG.out.row q).lt g hg).2, ((HG.out.row q).lt g hg).1⟩
        clear HG HB HQ e0 e1 e2 e3 e4 e5 hbr
        have hml' : w.heap.size + 1 + 1 < wr.heap.size := hml
        clear hml
        generalize wr.alloc (.cells #[.string nm, .int .i64 kd, .int .i64 fg, .int .i64 pos, .int .i64 sz, .int .i64 al] 31) = X at *
        generalize wr.heap.size = nf at *
        have hlf : nf < X.heap.size := (Array.getElem?_eq_some_iff.1 xf).1
        have hA0 : Below X.heap.size X X.drew := (Below.refl _ _).drew
        have hA1 : Below X.heap.size X (X.alloc (.cells #[.string nm, .int .i64 kd, .int .i64 fg, .int .i64 pos, .int .i64 sz, .int .i64 al] 31)).drew := ((Below.refl _ _).alloc (Nat.le_refl _) _).drew
        have HSX : Hid (∀ W : World, W.heap[nf]? = X.heap[nf]? → W.cell? ⟨nf, 0, none⟩ = some (.string nm) ∧ W.cell? ⟨nf, 1, none⟩ = some (.int .i64 kd) ∧ W.cell? ⟨nf, 2, none⟩ = some (.int .i64 fg) ∧ W.cell? ⟨nf, 3, none⟩ = some (.int .i64 pos) ∧ W.cell? ⟨nf, 4, none⟩ = some (.int .i64 sz) ∧ W.cell? ⟨nf, 5, none⟩ = some (.int .i64 al)) := fun W hW => by
          have := hW.trans xf
          exact ⟨cellB this 0, cellB this 1, cellB this 2, cellB this 3, cellB this 4, cellB this 5⟩
        have hG0 := hGX.later hA0
        have hG1 := hGX.later hA1
        have hl0 := hG0.look kd hwf
        have hl1 := hG1.look kd hwf
        have hrow1 := hG1.row kd
        have hle1 : (M.ofKind (ds.take k) s kd).length ≤ 60 := Nat.le_trans (kind_le _ _ _) (by rw [List.length_take]; omega)
        have hB3 : w.heap.size + 3 ≤ (X.alloc (.cells #[.string nm, .int .i64 kd, .int .i64 fg, .int .i64 pos, .int .i64 sz, .int .i64 al] 31)).drew.heap.size := by show _ ≤ (X.alloc (.cells #[.string nm, .int .i64 kd, .int .i64 fg, .int .i64 pos, .int .i64 sz, .int .i64 al] 31)).heap.size; rw [World.size_alloc]; omega
        have hnews : ∀ j u, (#[.string nm, .int .i64 kd, .int .i64 fg, .int .i64 pos, .int .i64 sz, .int .i64 al] : Array Value).toList[j]? = some u → (X.alloc (.cells #[.string nm, .int .i64 kd, .int .i64 fg, .int .i64 pos, .int .i64 sz, .int .i64 al] 31)).drew.cell? ((⟨X.heap.size, 0, none⟩ : Addr).add j) = some u := World.news_of_block (w := (X.alloc (.cells #[.string nm, .int .i64 kd, .int .i64 fg, .int .i64 pos, .int .i64 sz, .int .i64 al] 31)).drew) (heap_alloc_new X _)
        have HE : Hid (∀ g cap w5, w5.ownsRow (w.heap.size + 3) 31 6 (.slice (some ⟨g, 0, none⟩) ((M.ofKind (ds.take k) s kd).length + 1) cap) ((M.ofKind (ds.take k) s kd).length + 1) ((M.ofKind (ds.take k) s kd).flatMap encDfn ++ (#[.string nm, .int .i64 kd, .int .i64 fg, .int .i64 pos, .int .i64 sz, .int .i64 al] : Array Value).toList) → (X.alloc (.cells #[.string nm, .int .i64 kd, .int .i64 fg, .int .i64 pos, .int .i64 sz, .int .i64 al] 31)).drew.grownBy w5 (v kd).ownBlock → ((v kd).ownBlock = some g ∨ g = X.heap.size + 1) → g < w5.heap.size →
            w5.heap[nf]? = X.heap[nf]? ∧ ∃ w6, (Instr.mapUpdate 65 (.map (some (w.heap.size + 1 + 1))) (.int .i64 kd) (.slice (some ⟨g, 0, none⟩) ((M.ofKind (ds.take k) s kd).length + 1) cap)).run Tryd.prog w5 = .ok () w6 ∧ w6.heap[nf]? = X.heap[nf]? ∧
              Grp w6 (w.heap.size + 3) (w.heap.size + 1 + 1) (k + 1) (D.put (.int .i64 kd) (datS (.slice (some ⟨g, 0, none⟩) ((M.ofKind (ds.take k) s kd).length + 1) cap))) (ds.take (k + 1)) s (fun q => if q = kd then (.slice (some ⟨g, 0, none⟩) ((M.ofKind (ds.take k) s kd).length + 1) cap) else v q) ∧ Below w.heap.size w w6 ∧ w6.heap[w.heap.size + 1]? = some (.cells #[.string ⟨#[]⟩, .int .i64 0, .int .i64 0, .int .i64 0, .int .i64 0, .int .i64 0] 31 (0, 0))) := fun g cap w5 ho hg hat hlt5 => by
          have hz1 : (X.alloc (.cells #[.string nm, .int .i64 kd, .int .i64 fg, .int .i64 pos, .int .i64 sz, .int .i64 al] 31)).drew.heap.size = X.heap.size + 1 := World.size_alloc X _
          have b5 : ∀ j, j < nf + 1 → (∀ q, (v q).ownBlock ≠ some j) → w5.heap[j]? = X.heap[j]? := fun j hj hne => (hg.block j (by rw [hz1]; omega) (fun e => hne kd e.symm)).trans (hA1.block _ (by omega))
          have n5 := b5 nf (by omega) (fun q e => by have := (HN.out q _ e).1; omega)
          have q5 := b5 (w.heap.size + 1) (by omega) (fun q e => by have := (HN.out q _ e).2; omega)
          obtain ⟨w6, hrun, hg6, hG6⟩ := hG1.put (d := ⟨nm, kd, fg, pos, sz, al⟩) (v5 := .slice (some ⟨g, 0, none⟩) ((M.ofKind (ds.take k) s kd).length + 1) cap) (by omega) hg ho (by rcases hat with h | h; exact .inl h; exact .inr (by rw [h, hz1]; rfl)) hq hwf
          have s5 : (X.alloc (.cells #[.string nm, .int .i64 kd, .int .i64 fg, .int .i64 pos, .int .i64 sz, .int .i64 al] 31)).drew.heap.size ≤ w5.heap.size := hg.size
          have B5 : Below w.heap.size w w5 := ((HBX.out.trans (hA1.mono HBX.out.size))).grown hg (HBX.out.trans (hA1.mono HBX.out.size)).size (fun j hj => by have := (HN.out kd j hj).2; omega)
          refine ⟨n5, w6, hrun, (hg6.block nf (by omega) (by intro e; have := Option.some.inj e; omega)).trans n5, ?_, B5.grown hg6 B5.size (fun j hj => by have := Option.some.inj hj; omega), ((hg6.block (w.heap.size + 1) (by omega) (by intro e; have := Option.some.inj e; omega)).trans q5).trans HQX.out⟩
          rw [HT.out]
          exact hG6
        clear HBX HQX HN hG0 hG1 hGX HD HP xf
        generalize (M.ofKind (ds.take k) s kd).flatMap encDfn = XS at *
        generalize (M.ofKind (ds.take k) s kd).length = L at *
        go_region_held3 (fun w' => w'.cell? ⟨nf, 0, none⟩ = some (.string nm) ∧ w'.cell? ⟨nf, 1, none⟩ = some (.int .i64 kd) ∧ w'.cell? ⟨nf, 2, none⟩ = some (.int .i64 fg) ∧ w'.cell? ⟨nf, 3, none⟩ = some (.int .i64 pos) ∧ w'.cell? ⟨nf, 4, none⟩ = some (.int .i64 sz) ∧ w'.cell? ⟨nf, 5, none⟩ = some (.int .i64 al)) (first | exact HSX.out _ n6 | exact HSX.out _ n5 | exact HSX.out _ (hA1.block _ hlf) | exact HSX.out _ (hA0.block _ hlf)) ((refine step_append_lies _ (by rfl) _ _ _ (by rfl) (w.heap.size + 3) 31 i3 (.agg #[.string ⟨#[]⟩, .int .i64 0, .int .i64 0, .int .i64 0, .int .i64 0, .int .i64 0]) 6 56 Tryd.underlying23 hi3 hu0 hu1 hu2 rfl (by decide) (v kd) L XS (by rfl) hrow1 ⟨X.heap.size, 0, none⟩ 1 1 #[.string nm, .int .i64 kd, .int .i64 fg, .int .i64 pos, .int .i64 sz, .int .i64 al].toList (by rfl) (by rfl) hnews (fun u hu => by simp at hu; rcases hu with rfl | rfl | rfl | rfl | rfl | rfl <;> rfl) (by omega) (by unfold maxLen; omega) (by omega) hB3 (X.heap.size + 1) (by simp) ?_; intro g cap w5 hown5 hgrow5 hat5 hlt5; obtain ⟨n5, w6, hrun6, n6, hG6, hB6, hQ6⟩ := HE.out g cap w5 hown5 hgrow5 hat5 hlt5))
        all_goals
          clear HE hl0 hl1 hrun6 hrow1 hnews
          go_wp2
          go_roundw
          case rel => exact ⟨k + 1, _, _, by omega, by go_num, hG6, hB6, hQ6⟩
          case measure => simp [intOf]; omega
    · have hkl : k = ds.length := by omega
      subst hkl
      have HG1 : Hid (Grp wr (w.heap.size + 3) (w.heap.size + 1 + 1) ds.length D ds s v) := by have := HG.out; rwa [List.take_length] at this
      clear HG
      have l1 := kind_le ds s 1
      have l3 := kind_le ds s 3
      have l2 := kind_le ds s 2
      have HF : Hid (M.find ds s = M.findIn (M.ofKind ds s 1) (M.ofKind ds s 3) (M.ofKind ds s 2)) := rfl
      unfold M.findIn at HF
      have q := HQ.out
      have d0 : wr.cell? ⟨w.heap.size + 1, 0, none⟩ = some (.string ⟨#[]⟩) := cellB q 0
      have d1 : wr.cell? ⟨w.heap.size + 1, 1, none⟩ = some (.int .i64 0) := cellB q 1
      have d2 : wr.cell? ⟨w.heap.size + 1, 2, none⟩ = some (.int .i64 0) := cellB q 2
      have d3 : wr.cell? ⟨w.heap.size + 1, 3, none⟩ = some (.int .i64 0) := cellB q 3
      have d4 : wr.cell? ⟨w.heap.size + 1, 4, none⟩ = some (.int .i64 0) := cellB q 4
      have d5 : wr.cell? ⟨w.heap.size + 1, 5, none⟩ = some (.int .i64 0) := cellB q 5
      have z0 := frozenB q 0
      have z1 := frozenB q 1
      have z2 := frozenB q 2
      have z3 := frozenB q 3
      have z4 := frozenB q 4
      have z5 := frozenB q 5
      have hl1 := HG1.out.look 1 (by decide)
      have hl2 := HG1.out.look 2 (by decide)
      have hl3 := HG1.out.look 3 (by decide)
      have HRet : Hid (∀ (d : M.Dfn), Below w.heap.size w ((((((wr.setCell ⟨w.heap.size + 1, 0, none⟩ (.string d.name)).setCell ⟨w.heap.size + 1, 1, none⟩ (.int .i64 d.kind)).setCell ⟨w.heap.size + 1, 2, none⟩ (.int .i64 d.frag)).setCell ⟨w.heap.size + 1, 3, none⟩ (.int .i64 d.pos)).setCell ⟨w.heap.size + 1, 4, none⟩ (.int .i64 d.size)).setCell ⟨w.heap.size + 1, 5, none⟩ (.int .i64 d.align))) := fun d =>
        (((((HB.out.setCell (by show w.heap.size ≤ w.heap.size + 1; omega) _).setCell (by show w.heap.size ≤ w.heap.size + 1; omega) _).setCell (by show w.heap.size ≤ w.heap.size + 1; omega) _).setCell (by show w.heap.size ≤ w.heap.size + 1; omega) _).setCell (by show w.heap.size ≤ w.heap.size + 1; omega) _).setCell (by show w.heap.size ≤ w.heap.size + 1; omega) _
      obtain ⟨x1, y1, hv1⟩ := row_form (HG1.out.row 1)
      by_cases h1 : 1 < (M.ofKind ds s 1).length
      · have HF' : Hid (M.find ds s = (M.dfnZ, 6)) := by rw [Hid, HF.out, if_pos h1]
        have ht : decide (1 < ((M.ofKind ds s 1).length : Int)) = true := by simp; omega
        have HE := HRet.out M.dfnZ
        rw [hv1] at hl1
        clear HF HG1 HRet HB HQ q HP HD
        go_wp2
        refine bodyPost_ret (v := .tuple #[.agg (dfnArr M.dfnZ), .int .i64 6]) (by simp [results, Tryd.results14, go_sem, d0, d1, d2, d3, d4, d5, dfnArr, M.dfnZ]) rfl ?_
        exact ⟨by rw [HF'.out], HE⟩
      have ht : decide (1 < ((M.ofKind ds s 1).length : Int)) = false := by simp; omega
      by_cases h2 : (M.ofKind ds s 1).length = 1
      · have HF' : Hid (M.find ds s = ((M.ofKind ds s 1).headD M.dfnZ, 0)) := by rw [Hid, HF.out, if_neg h1, if_pos h2]
        have ht2 : (((M.ofKind ds s 1).length : Int) == 1) = true := by simp; omega
        have hlen : (0 : Int) < ((M.ofKind ds s 1).length : Int) := by omega
        obtain ⟨g, cap, hv, hc⟩ := defs_row (HG1.out.row 1) 0 (by omega)
        have hhd : (M.ofKind ds s 1).getD 0 dfn0 = (M.ofKind ds s 1).headD M.dfnZ := getD_head _ (by omega)
        rw [hhd] at hc
        rw [hv] at hl1
        have e0 := hc 0 (by omega)
        have e1 := hc 1 (by omega)
        have e2 := hc 2 (by omega)
        have e3 := hc 3 (by omega)
        have e4 := hc 4 (by omega)
        have e5 := hc 5 (by omega)
        have hbr : g < wr.heap.size := World.block_lt_of_cell? _ _ e0
        clear hc hhd
        generalize (M.ofKind ds s 1).headD M.dfnZ = d at *
        obtain ⟨nm, kd, fr, pos, sz, al⟩ := d
        simp only [encDfn, List.getD_cons_zero, List.getD_cons_succ, Nat.zero_mul, Nat.add_zero, Nat.zero_add] at e0 e1 e2 e3 e4 e5
        have HE := HRet.out ⟨nm, kd, fr, pos, sz, al⟩
        clear HF HG1 HRet HB HQ q HP HD
        go_wp2
        refine bodyPost_ret (v := .tuple #[.agg (dfnArr ⟨nm, kd, fr, pos, sz, al⟩), .int .i64 0]) (by simp [results, Tryd.results14, go_sem, d0, d1, d2, d3, d4, d5, dfnArr]) rfl ?_
        exact ⟨by rw [HF'.out], HE⟩
      have ht2 : (((M.ofKind ds s 1).length : Int) == 1) = false := by simp; omega
      rw [hv1] at hl1
      clear hv1
      obtain ⟨x3, y3, hv3⟩ := row_form (HG1.out.row 3)
      by_cases h3 : 0 < (M.ofKind ds s 3).length
      · have HF' : Hid (M.find ds s = (M.greatest (M.ofKind ds s 3), 0)) := by rw [Hid, HF.out, if_neg h1, if_neg h2, if_pos h3]
        have h3' : (0 : Int) < ((M.ofKind ds s 3).length : Int) := by omega
        obtain ⟨W0, hW0⟩ : ∃ W0, W0 = wr := ⟨_, rfl⟩
        subst hW0
        have HGr : Hid ((M.ofKind ds s 3).foldl M.grow (zeroDfn s) = M.greatest (M.ofKind ds s 3)) := foldl_zero s _ h3 fun d hd => ⟨(List.mem_filter.1 hd).2, HP.out d (List.mem_filter.1 hd).1⟩
        rw [hv3] at hl3
        have HR3 : Hid (∀ W, Below W0.heap.size W0 W → ∀ j, j < (M.ofKind ds s 3).length → ∃ g cap, Value.slice x3 (M.ofKind ds s 3).length y3 = .slice (some ⟨g, 0, none⟩) (M.ofKind ds s 3).length cap ∧ ∀ i, i < 6 → W.cell? ⟨g, 0 + j * 6 + i, none⟩ = some ((encDfn ((M.ofKind ds s 3).getD j dfn0)).getD i undef)) := fun W hW j hj => by
          have := defs_row ((HG1.out.later hW).row 3) j hj
          rwa [hv3] at this
        have hX0 : Below W0.heap.size W0 (W0.alloc (.cells #[.string s, .int .i64 3, .int .i64 0, .int .i64 0, .int .i64 0, .int .i64 0] 31)) := (Below.refl _ _).alloc (Nat.le_refl _) _
        have xv := heap_alloc_new W0 (.cells #[.string s, .int .i64 3, .int .i64 0, .int .i64 0, .int .i64 0, .int .i64 0] 31)
        have hl3' := (HG1.out.later hX0).look 3 (by decide)
        rw [hv3] at hl3'
        have hlw : w.heap.size + 1 < W0.heap.size := (Array.getElem?_eq_some_iff.1 q).1
        clear HG1 HP HD HF hv3 hl2 l1 l2 d0 d1 d2 d3 d4 d5 z0 z1 z2 z3 z4 z5 q HRet
        generalize M.ofKind ds s 3 = L3 at *
        go_upto_region 14 with fail
        generalize W0.alloc (.cells #[.string s, .int .i64 3, .int .i64 0, .int .i64 0, .int .i64 0, .int .i64 0] 31) = X0 at *
        go_upto_region 15 with fail
        go_loopw [60] (fun s60 wr => ∃ (j : Nat) (a b : Int), j ≤ L3.length ∧ s60 = .int .i64 j ∧ Hid ((L3.take j).foldl M.grow (zeroDfn s) = ⟨s, 3, 0, 0, a, b⟩) ∧ Hid (Below W0.heap.size W0 wr) ∧ wr.heap[W0.heap.size]? = some (.cells #[.string s, .int .i64 3, .int .i64 0, .int .i64 0, .int .i64 a, .int .i64 b] 31 (0, 0))) (fun s60 _ => L3.length - (intOf s60).toNat)
        case atStart => exact ⟨0, 0, 0, Nat.zero_le _, rfl, rfl, hX0, xv⟩
        case round =>
          obtain ⟨j, a, b, hj, rfl, HE, HBq, xq⟩ := hrel
          clear hX0 xv hl3' hl3 hl1
          have hlq : W0.heap.size < wr.heap.size := (Array.getElem?_eq_some_iff.1 xq).1
          by_cases hlt : j < L3.length
          · obtain ⟨g, cap, he, hc⟩ := HR3.out wr HBq.out j hlt
            cases he
            have e0 := hc 0 (by omega)
            have e1 := hc 1 (by omega)
            have e2 := hc 2 (by omega)
            have e3 := hc 3 (by omega)
            have e4 := hc 4 (by omega)
            have e5 := hc 5 (by omega)
            have hgq : g < wr.heap.size := World.block_lt_of_cell? _ _ e0
            have hjl : (j : Int) < (L3.length : Int) := by omega
            have HE1 : (L3.take (j + 1)).foldl M.grow (zeroDfn s) = M.grow ⟨s, 3, 0, 0, a, b⟩ (L3.getD j dfn0) := by
              rw [List.take_succ_eq_append_getElem hlt, List.foldl_append, HE.out, List.foldl_cons, List.foldl_nil, List.getD_eq_getElem?_getD, List.getElem?_eq_getElem hlt]; rfl
            clear hc
            generalize L3.getD j dfn0 = d at *
            obtain ⟨nm, kd, fr, pos, sz, al⟩ := d
            have HE2 : Hid ((L3.take (j + 1)).foldl M.grow (zeroDfn s) = ⟨s, 3, 0, 0, max a sz, max b al⟩) := HE1
            clear HE1 HE
            simp only [encDfn, List.getD_cons_zero, List.getD_cons_succ, Nat.add_zero, Nat.zero_add] at e0 e1 e2 e3 e4 e5
            go_upto_region 17 with fail
            have xv2 : (wr.alloc (.cells #[.string nm, .int .i64 kd, .int .i64 fr, .int .i64 pos, .int .i64 sz, .int .i64 al] 31)).heap[W0.heap.size]? = some (.cells #[.string s, .int .i64 3, .int .i64 0, .int .i64 0, .int .i64 a, .int .i64 b] 31 (0, 0)) := (heap_alloc_old _ _ hlq).trans xq
            have xd := heap_alloc_new wr (.cells #[.string nm, .int .i64 kd, .int .i64 fr, .int .i64 pos, .int .i64 sz, .int .i64 al] 31)
            have HBX : Hid (Below W0.heap.size W0 (wr.alloc (.cells #[.string nm, .int .i64 kd, .int .i64 fr, .int .i64 pos, .int .i64 sz, .int .i64 al] 31))) := HBq.out.alloc HBq.out.size _
            clear HBq xq e0 e1 e2 e3 e4 e5
            generalize wr.alloc (.cells #[.string nm, .int .i64 kd, .int .i64 fr, .int .i64 pos, .int .i64 sz, .int .i64 al] 31) = X2 at *
            generalize wr.heap.size = nx at *
            have hlv : W0.heap.size < X2.heap.size := (Array.getElem?_eq_some_iff.1 xv2).1
            have k4 : X2.cell? ⟨W0.heap.size, 4, none⟩ = some (.int .i64 a) := cellB xv2 4
            have k5 : X2.cell? ⟨W0.heap.size, 5, none⟩ = some (.int .i64 b) := cellB xv2 5
            have m4 : X2.cell? ⟨nx, 4, none⟩ = some (.int .i64 sz) := cellB xd 4
            have m5 : X2.cell? ⟨nx, 5, none⟩ = some (.int .i64 al) := cellB xd 5
            have HEnd : Hid (∀ x : World, Below X2.heap.size X2 x → Below W0.heap.size W0 ((x.setCell ⟨W0.heap.size, 4, none⟩ (.int .i64 (max a sz))).setCell ⟨W0.heap.size, 5, none⟩ (.int .i64 (max b al))) ∧ ((x.setCell ⟨W0.heap.size, 4, none⟩ (.int .i64 (max a sz))).setCell ⟨W0.heap.size, 5, none⟩ (.int .i64 (max b al))).heap[W0.heap.size]? = some (.cells #[.string s, .int .i64 3, .int .i64 0, .int .i64 0, .int .i64 (max a sz), .int .i64 (max b al)] 31 (0, 0))) := fun x hx => by
              have r1 := (hx.block _ hlv).trans xv2
              have r2 : (x.setCell ⟨W0.heap.size, 4, none⟩ (.int .i64 (max a sz))).heap[W0.heap.size]? = some (.cells #[.string s, .int .i64 3, .int .i64 0, .int .i64 0, .int .i64 (max a sz), .int .i64 b] 31 (0, 0)) := setB' r1 _
              have r3 : ((x.setCell ⟨W0.heap.size, 4, none⟩ (.int .i64 (max a sz))).setCell ⟨W0.heap.size, 5, none⟩ (.int .i64 (max b al))).heap[W0.heap.size]? = some (.cells #[.string s, .int .i64 3, .int .i64 0, .int .i64 0, .int .i64 (max a sz), .int .i64 (max b al)] 31 (0, 0)) := setB' r2 _
              exact ⟨((HBX.out.trans (hx.mono HBX.out.size)).setCell (p := ⟨W0.heap.size, 4, none⟩) (Nat.le_refl _) _).setCell (p := ⟨W0.heap.size, 5, none⟩) (Nat.le_refl _) _, r3⟩
            have HZ : Hid (X2.heap[W0.heap.size]? = some (.cells #[.string s, .int .i64 3, .int .i64 0, .int .i64 0, .int .i64 a, .int .i64 b] 31 (0, 0))) := xv2
            clear xv2 xd HBX
            have hnn : nx ≠ W0.heap.size := by omega
            have hnx : nx < X2.heap.size := World.block_lt_of_cell? _ _ m4
            have HSX : Hid (∀ W : World, W.heap[nx]? = X2.heap[nx]? → W.cell? ⟨nx, 4, none⟩ = some (.int .i64 sz) ∧ W.cell? ⟨nx, 5, none⟩ = some (.int .i64 al)) := fun W hW => ⟨(World.cell?_of_block hW).trans m4, (World.cell?_of_block hW).trans m5⟩
            have z4 := frozenB HZ.out 4
            have z5 := frozenB HZ.out 5
            have HEnd' := HEnd.out X2.drew (Below.refl _ _).drew
            clear HEnd HZ
            go_big_region
            all_goals
              clear HSX k4 k5 m4 m5 z4 z5
              go_wp2
              go_roundw
              case rel => exact ⟨j + 1, max a sz, max b al, by omega, by go_num, HE2, HEnd'.1, HEnd'.2⟩
              case measure => simp [intOf]; omega
          · have hjl : j = L3.length := by omega
            subst hjl
            have HF2 : Hid (M.find ds s = (⟨s, 3, 0, 0, a, b⟩, 0)) := by
              have := HE.out
              rw [List.take_length] at this
              rw [Hid, HF'.out, ← HGr.out, this]
            have HBw : Hid (Below w.heap.size w wr) := HB.out.trans (HBq.out.mono HB.out.size)
            have q := (HBq.out.block (w.heap.size + 1) hlw).trans HQ.out
            have d0 : wr.cell? ⟨w.heap.size + 1, 0, none⟩ = some (.string ⟨#[]⟩) := cellB q 0
            have d1 : wr.cell? ⟨w.heap.size + 1, 1, none⟩ = some (.int .i64 0) := cellB q 1
            have d2 : wr.cell? ⟨w.heap.size + 1, 2, none⟩ = some (.int .i64 0) := cellB q 2
            have d3 : wr.cell? ⟨w.heap.size + 1, 3, none⟩ = some (.int .i64 0) := cellB q 3
            have d4 : wr.cell? ⟨w.heap.size + 1, 4, none⟩ = some (.int .i64 0) := cellB q 4
            have d5 : wr.cell? ⟨w.heap.size + 1, 5, none⟩ = some (.int .i64 0) := cellB q 5
            have z0 := frozenB q 0
            have z1 := frozenB q 1
            have z2 := frozenB q 2
            have z3 := frozenB q 3
            have z4 := frozenB q 4
            have z5 := frozenB q 5
            have k0 : wr.cell? ⟨W0.heap.size, 0, none⟩ = some (.string s) := cellB xq 0
            have k1 : wr.cell? ⟨W0.heap.size, 1, none⟩ = some (.int .i64 3) := cellB xq 1
            have k2 : wr.cell? ⟨W0.heap.size, 2, none⟩ = some (.int .i64 0) := cellB xq 2
            have k3 : wr.cell? ⟨W0.heap.size, 3, none⟩ = some (.int .i64 0) := cellB xq 3
            have k4 : wr.cell? ⟨W0.heap.size, 4, none⟩ = some (.int .i64 a) := cellB xq 4
            have k5 : wr.cell? ⟨W0.heap.size, 5, none⟩ = some (.int .i64 b) := cellB xq 5
            have HRet : Hid (Below w.heap.size w ((((((wr.setCell ⟨w.heap.size + 1, 0, none⟩ (.string s)).setCell ⟨w.heap.size + 1, 1, none⟩ (.int .i64 3)).setCell ⟨w.heap.size + 1, 2, none⟩ (.int .i64 0)).setCell ⟨w.heap.size + 1, 3, none⟩ (.int .i64 0)).setCell ⟨w.heap.size + 1, 4, none⟩ (.int .i64 a)).setCell ⟨w.heap.size + 1, 5, none⟩ (.int .i64 b))) :=
              (((((HBw.out.setCell (by show w.heap.size ≤ w.heap.size + 1; omega) _).setCell (by show w.heap.size ≤ w.heap.size + 1; omega) _).setCell (by show w.heap.size ≤ w.heap.size + 1; omega) _).setCell (by show w.heap.size ≤ w.heap.size + 1; omega) _).setCell (by show w.heap.size ≤ w.heap.size + 1; omega) _).setCell (by show w.heap.size ≤ w.heap.size + 1; omega) _
            clear HF' HGr HE HBw q xq HR3 HBq
            go_wp2
            refine bodyPost_ret (v := .tuple #[.agg (dfnArr ⟨s, 3, 0, 0, a, b⟩), .int .i64 0]) (by simp [results, Tryd.results14, go_sem, d0, d1, d2, d3, d4, d5, dfnArr]) rfl ?_
            exact ⟨by rw [HF2.out], HRet.out⟩
      have h3' : (M.ofKind ds s 3).length = 0 := by omega
      rw [hv3, h3'] at hl3
      clear hv3
      by_cases h4 : 0 < (M.ofKind ds s 2).length
      · have HF' : Hid (M.find ds s = ((M.ofKind ds s 2).headD M.dfnZ, 0)) := by rw [Hid, HF.out, if_neg h1, if_neg h2, if_neg h3, if_pos h4]
        have hlen : (0 : Int) < ((M.ofKind ds s 2).length : Int) := by omega
        obtain ⟨g, cap, hv, hc⟩ := defs_row (HG1.out.row 2) 0 (by omega)
        have hhd : (M.ofKind ds s 2).getD 0 dfn0 = (M.ofKind ds s 2).headD M.dfnZ := getD_head _ (by omega)
        rw [hhd] at hc
        rw [hv] at hl2
        have e0 := hc 0 (by omega)
        have e1 := hc 1 (by omega)
        have e2 := hc 2 (by omega)
        have e3 := hc 3 (by omega)
        have e4 := hc 4 (by omega)
        have e5 := hc 5 (by omega)
        have hbr : g < wr.heap.size := World.block_lt_of_cell? _ _ e0
        clear hc hhd
        generalize (M.ofKind ds s 2).headD M.dfnZ = d at *
        obtain ⟨nm, kd, fr, pos, sz, al⟩ := d
        simp only [encDfn, List.getD_cons_zero, List.getD_cons_succ, Nat.zero_mul, Nat.add_zero, Nat.zero_add] at e0 e1 e2 e3 e4 e5
        have HE := HRet.out ⟨nm, kd, fr, pos, sz, al⟩
        clear HF HG1 HRet HB HQ q HP HD
        go_wp2
        refine bodyPost_ret (v := .tuple #[.agg (dfnArr ⟨nm, kd, fr, pos, sz, al⟩), .int .i64 0]) (by simp [results, Tryd.results14, go_sem, d0, d1, d2, d3, d4, d5, dfnArr]) rfl ?_
        exact ⟨by rw [HF'.out], HE⟩
      · have HF' : Hid (M.find ds s = (M.dfnZ, 7)) := by rw [Hid, HF.out, if_neg h1, if_neg h2, if_neg h3, if_neg h4]
        have h4' : (M.ofKind ds s 2).length = 0 := by omega
        obtain ⟨x2, y2, hv2⟩ := row_form (HG1.out.row 2)
        rw [hv2, h4'] at hl2
        have HE := HRet.out M.dfnZ
        clear HF HG1 HRet HB HQ q HP HD h2 h1 h3 h4 h3' h4'
        go_wp2
        refine bodyPost_ret (v := .tuple #[.agg (dfnArr M.dfnZ), .int .i64 7]) (by simp [results, Tryd.results14, go_sem, d0, d1, d2, d3, d4, d5, dfnArr, M.dfnZ]) rfl ?_
        exact ⟨by rw [HF'.out], HE⟩

end Go.Proofs.YthlmbnpecmdhoaaDoor
