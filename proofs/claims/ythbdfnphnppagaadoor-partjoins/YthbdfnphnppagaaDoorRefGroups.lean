/-
  The contract of the reference's GroupsOf.
-/
import Derived.Test.YthbdfnphnppagaaDoorRefOwn
import Derived.Test.YthbdfnphnppagaaDoorPrtGroups
namespace Go.Proofs.YthbdfnphnppagaaDoor
open Go Go.RowKit
set_option linter.unusedVariables false

theorem step_append_row {P : Program} {w : World} {ops : Array Oper} {o : Oper} {a : Act} {K : Act → World → Prop} {Q : Exit → Act → World → Prop} {E : Prop} (hgd : o.guard = none) (s x : Operand) (t : TypeId)
    (ho : o.op = .call { callee := .builtin .append, args := #[s, x], argTypes := #[t, t] })
    (base : Nat) (e : TypeId) (i : TypeInfo) (z : Value) (size bytes : Nat) (ht : P.underlying t = some (.slice e)) (hi : P.info? e = some i) (hz : i.zero = some z)
    (hsize : i.size = size) (hby : i.bytes = bytes) (hzs : z.cells.size = size) (hsz : 0 < size)
    (v : Value) (n : Nat) (xs : List Value) (hs : a.eval s = v) (hown : w.ownsRow base e size v n xs)
    (u : Value) (m : Nat) (news : List Value) (hx : a.eval x = u) (hsrc : Src w u m news) (hl : news.length = m * size) (h1 : ∀ u ∈ news, u.oneCell' = true)
    (h63 : n + m ≤ maxLen) (hbytes : (n + m) * bytes ≤ 140737488355328) (hbase : base ≤ w.heap.size)
    (h : ∀ v' w', w'.ownsRow base e size v' (n + m) (xs ++ news) → w.grownBy w' v.ownBlock → K (a.put o.dst v') w') :
    if Region.wanted o (yielded ops a.tmps) = true then Oper.wp P o a w K Q else E := by
  have hw : Region.wanted o (yielded ops a.tmps) = true := by simp [Region.wanted, hgd]
  rw [if_pos hw]
  exact wp_append_src w s x t ho base e i z size bytes ht hi hz hsize hby hzs hsz v n xs hs hown u m news hx hsrc hl h1 h63 hbytes hbase h

theorem has_bare (l : List ByteArray) (g : ByteArray) : M.has (str0 :: l) g = (M.bare g || M.has l g) := by
  unfold M.has M.bare
  rw [List.any_cons]
  congr 1
  have e : str0.toList = [] := by decide +kernel
  rw [e]
  cases g.toList <;> rfl

theorem strsR_one (l : List ByteArray) : ∀ u ∈ l.map Value.string, u.oneCell' = true := fun u hu => by
  obtain ⟨b, _, rfl⟩ := List.mem_map.1 hu
  rfl

set_option maxHeartbeats 4000000 in
set_option maxRecDepth 100000 in
theorem rgroups_any (fs : List M.Frg) (a1 a2 : Option Addr) (c1 c2 n2 : Nat) (w : World) (hf : FragsAt w (.slice a1 fs.length c1) fs) (h60 : fs.length ≤ 60) :
    Calls Tryd.prog 22 #[.agg #[.slice a1 fs.length c1, .slice a2 n2 c2]] w fun e w' => Below w.heap.size w w' ∧ ∃ x y, e = .returned (.slice x (M.groups fs).length y) ∧ StrsAt w' (.slice x (M.groups fs).length y) (M.groups fs) := by
  obtain ⟨i0, hi, hz0, hz1, hz2⟩ := info_parts (P := Tryd.prog) (e := 9) (z := .string ⟨#[]⟩) (size := 1) (bytes := 16) (by kernel_rfl)
  have HA : Hid (Below w.heap.size w (w.alloc (.cells #[.slice a1 fs.length c1, .slice a2 n2 c2] 25))) := (Below.refl _ _).alloc (Nat.le_refl _) _
  go_enter Tryd.func22, Tryd.ntmps22
  go_wp2_with fail
  go_loopw [3, 9] (fun s3 s9 wr => ∃ (k : Nat) (l : List ByteArray), k ≤ fs.length ∧ s9 = .int .i64 k ∧ Hid (l = (fs.take k).foldl M.addGroup []) ∧ l.length ≤ k ∧ Hid (∀ s ∈ l, s.size ≤ maxLen) ∧ wr.ownsRow w.heap.size 9 1 s3 l.length (l.map Value.string) ∧ Hid (Below w.heap.size w wr)) (fun _ s9 _ => fs.length - (intOf s9).toNat)
  case atStart => exact ⟨0, [], Nat.zero_le _, rfl, rfl, Nat.le_refl _, (fun s hs => by cases hs), World.ownsRow_nil _ _ _ _, HA.out⟩
  case round =>
    obtain ⟨k, l, hk, rfl, HL, hlk, HS, hown, HB⟩ := hrel
    have hw0 : w.heap.size ≤ wr.heap.size := HB.out.size
    by_cases hlt : k < fs.length
    · obtain ⟨b, off, ab, cb, ar, cr, rfl, e0, e1, e2, e3, e4, e5, hBy, hRl, hg, hbl⟩ := (hf.later HB.out).cells k hlt
      have HL1 : Hid (M.addGroup l (fs.getD k frg0) = (fs.take (k + 1)).foldl M.addGroup []) := by
        rw [Hid, List.take_succ_eq_append_getElem hlt, List.foldl_append, ← HL.out]
        simp only [List.foldl_cons, List.foldl_nil]
        rw [List.getD_eq_getElem?_getD, List.getElem?_eq_getElem hlt]; rfl
      clear hBy hRl hbl HL HA
      obtain ⟨ad, cc, rfl⟩ : ∃ x y, u3 = .slice x l.length y := by
        rcases hown.2 with ⟨h1, h2⟩ | ⟨g, cap, cur, h1, _⟩
        · exact ⟨none, 0, by rw [h1, h2]⟩
        · exact ⟨_, _, h1⟩
      unfold M.addGroup at HL1
      generalize fs.getD k frg0 = f at *
      obtain ⟨s, al, g, bs, sz, rs⟩ := f
      simp only at e0 e1 e2 e3 e4 e5 hg HL1
      rw [← has_bare] at HL1
      have hbr : b < wr.heap.size := World.block_lt_of_cell? _ _ e0
      have hkl : (k : Int) < (fs.length : Int) := by omega
      generalize bs.length = n1 at *
      generalize rs.length = m1 at *
      go_upto_region 5 with fail
      have hbX : Below wr.heap.size wr (wr.alloc (.cells #[.int .i64 s, .int .i64 al, .string g, .slice ab n1 cb, .int .i64 sz, .slice ar m1 cr] 29)) := (Below.refl _ _).alloc (Nat.le_refl _) _
      have xf := heap_alloc_new wr (.cells #[.int .i64 s, .int .i64 al, .string g, .slice ab n1 cb, .int .i64 sz, .slice ar m1 cr] 29)
      have hownX := hown.alloc (.cells #[.int .i64 s, .int .i64 al, .string g, .slice ab n1 cb, .int .i64 sz, .slice ar m1 cr] 29)
      have HBX : Hid (Below w.heap.size w (wr.alloc (.cells #[.int .i64 s, .int .i64 al, .string g, .slice ab n1 cb, .int .i64 sz, .slice ar m1 cr] 29))) := HB.out.alloc hw0 _
      clear hown HB e0 e1 e2 e3 e4 e5 hbX
      generalize wr.alloc (.cells #[.int .i64 s, .int .i64 al, .string g, .slice ab n1 cb, .int .i64 sz, .slice ar m1 cr] 29) = X at *
      generalize wr.heap.size = nf at *
      have hlf : nf < X.heap.size := (Array.getElem?_eq_some_iff.1 xf).1
      have hwX : w.heap.size ≤ X.heap.size := HBX.out.size
      have HSX : Hid (∀ W, Below X.heap.size X W → W.cell? ⟨nf, 2, none⟩ = some (.string g)) := fun W hW => cellB ((hW.block _ hlf).trans xf) 2
      have hA0 : Below X.heap.size X X.drew := (Below.refl _ _).drew
      have hA1 : Below X.heap.size X (X.drew.alloc (.cells #[.string ⟨#[]⟩] 9)) := hA0.alloc (Nat.le_refl _) _
      have ho1 : (X.drew.alloc (.cells #[.string ⟨#[]⟩] 9)).ownsRow X.heap.size 9 1 (.slice (some ⟨X.heap.size, 0, none⟩) 1 1) 1 [.string ⟨#[]⟩] := ⟨rfl, .inr ⟨_, _, _, rfl, Nat.le_refl _, heap_alloc_new X.drew _, Nat.le_refl _, by unfold maxLen; decide, rfl, rfl⟩⟩
      have hsrc := row_src (hownX.kept (grown_of_below hA1 none) own_self)
      have HSl : Hid (∀ x ∈ str0 :: l, x.size ≤ maxLen) := fun x hx => by
        rcases List.mem_cons.1 hx with rfl | hx
        · unfold maxLen; decide
        · exact HS.out x hx
      have KC : Hid (∀ W x y, StrsAt W (.slice x (str0 :: l).length y) (str0 :: l) → Calls Tryd.prog 36 #[.slice x (1 + l.length) y, .string g] W fun e w' => e = .returned (.bool (M.has (str0 :: l) g)) ∧ w' = W) := fun W x y h => by
        have := containsS_any (str0 :: l) g x y W h
        rwa [List.length_cons, Nat.add_comm l.length 1] at this
      generalize M.has (str0 :: l) g = R at *
      go_cut [19] (fun s19 wx => s19 = .bool (!R) ∧ Below X.heap.size X wx)
      case first =>
        go_region_held3 (fun w' => w'.cell? ⟨nf, 2, none⟩ = some (.string g)) (first | exact HSX.out _ hA0 | exact HSX.out _ hA1 | exact HSX.out _ hX3) (first | (refine step_append_row (by rfl) _ _ _ (by rfl) X.heap.size 9 i0 (.string ⟨#[]⟩) 1 16 Tryd.underlying38 hi hz0 hz1 hz2 rfl (by decide) (.slice (some ⟨X.heap.size, 0, none⟩) 1 1) 1 [.string ⟨#[]⟩] (by rfl) ho1 (.slice ad l.length cc) l.length (l.map Value.string) (by rfl) hsrc (by simp) (strsR_one l) (by unfold maxLen; omega) (by omega) (by simp) ?_; intro v3 w3 ho3 hg3; obtain ⟨x3, y3, rfl⟩ := own_len ho3; have hX3 : Below X.heap.size X w3 := grown_fresh hA1 hg3 (Nat.le_refl _)) | (go_at_call 36; refine (KC.out _ _ _ (row_strs (l := str0 :: l) (by rw [List.length_cons, Nat.add_comm l.length 1]; exact ho3) HSl.out)).mono ?_; rintro e w4 ⟨rfl, rfl⟩))
        all_goals
          go_wp2_with fail
          go_meet
          exact ⟨rfl, hX3⟩
      case rest =>
        obtain ⟨rfl, hXc⟩ := hcut
        have hownC := hownX.kept (grown_of_below hXc none) own_self
        have HBC : Hid (Below w.heap.size w wc) := HBX.out.trans (hXc.mono HBX.out.size)
        have hwc : w.heap.size ≤ wc.heap.size := HBC.out.size
        have kg : wc.cell? ⟨nf, 2, none⟩ = some (.string g) := HSX.out _ hXc
        have hlc : nf < wc.heap.size := World.block_lt_of_cell? _ _ kg
        clear hXc hownX HBX HSX hA0 hA1 ho1 hsrc KC HSl xf
        cases R
        · have HL2 : Hid (l ++ [g] = (fs.take (k + 1)).foldl M.addGroup []) := HL1.out
          clear HL1
          have hnews : ∀ j u, (#[.string g] : Array Value).toList[j]? = some u → (wc.alloc (.cells #[.string g] 9)).cell? ((⟨wc.heap.size, 0, none⟩ : Addr).add j) = some u := World.news_of_block (heap_alloc_new wc _)
          have hrowA := hownC.alloc (.cells #[.string g] 9)
          have HE : Hid (∀ v' w3, (wc.alloc (.cells #[.string g] 9)).grownBy w3 (Value.slice ad l.length cc).ownBlock → w3.ownsRow w.heap.size 9 1 v' (l.length + 1) (l.map Value.string ++ (#[.string g] : Array Value).toList) → w3.ownsRow w.heap.size 9 1 v' (l ++ [g]).length ((l ++ [g]).map Value.string) ∧ Below w.heap.size w w3) := fun v' w3 hg3 ho3 => ⟨by rw [List.length_append, List.map_append]; exact ho3, (HBC.out.alloc hwc _).grown hg3 (by simp; omega) (fun k hk => (hownC.lt k hk).1)⟩
          have HS2 : Hid (∀ x ∈ l ++ [g], x.size ≤ maxLen) := fun x hx => by
            rcases List.mem_append.1 hx with h | h
            · exact HS.out x h
            · rw [List.mem_singleton.1 h]; exact hg
          clear HBC hownC
          go_wp2_with (at_builtin; refine wpList_append_own _ rfl _ _ 38 rfl w.heap.size 9 i0 (.string ⟨#[]⟩) 1 16 Tryd.underlying38 hi hz0 hz1 hz2 rfl (by decide) _ _ _ rfl hrowA ⟨wc.heap.size, 0, none⟩ 1 1 (#[.string g] : Array Value).toList rfl rfl hnews (fun u hu => by simp at hu; subst hu; rfl) (by unfold maxLen; omega) (by omega) (by simp; omega) ?_; intro v' w3 hown' hgrow3 hnil3)
          have HE' := HE.out _ _ hgrow3 hown'
          go_roundw
          case rel => exact ⟨k + 1, l ++ [g], by omega, by go_num, HL2, by simp; omega, HS2, HE'.1, HE'.2⟩
          case measure => simp [intOf]; omega
        · have HL2 : Hid (l = (fs.take (k + 1)).foldl M.addGroup []) := HL1.out
          clear HL1
          go_wp2
          go_roundw
          case rel => exact ⟨k + 1, l, by omega, by go_num, HL2, by omega, HS, hownC, HBC⟩
          case measure => simp [intOf]; omega
    · have hkl : k = fs.length := by omega
      have HL2 : Hid (l = M.groups fs) := by rw [Hid, HL.out, hkl, List.take_length]; rfl
      have HSt : Hid (StrsAt wr u3 l) := row_strs hown HS.out
      clear HL HS
      subst hkl
      obtain ⟨ad, cc, he, _⟩ := HSt.out.1.form
      subst he
      go_wp2
      go_ret
      exact ⟨HB.out, ad, cc, by rw [← HL2.out]; rfl, by rw [← HL2.out]; exact HSt.out⟩

end Go.Proofs.YthbdfnphnppagaaDoor
