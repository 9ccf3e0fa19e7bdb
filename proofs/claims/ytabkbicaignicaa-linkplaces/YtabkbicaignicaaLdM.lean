/-
  Plain mathematics: halving finds a name; a common name has a place among the names. Plain mathematics: a name that counts is found by halving; where it stands; what moves when the base does. Plain mathematics: linked sixteen addresses farther. Plain mathematics: which faults a link tells. Plain mathematics: what an image that was linked says when it is loaded. What is put is got, and all else is as it was: plain mathematics. Plain mathematics: each place of an image that was linked has its number; all other bytes are as they were.
-/
import Derived.Test.YtabkbicaignicaaLkModel
import Derived.Test.YtabkbicaignicaaLyCommons
import Derived.Test.YtabkbicaignicaaMathC
import Derived.Test.YtabkbicaignicaaLkLink
import Derived.Test.YtabkbicaignicaaFactA
import Derived.Test.YtabkbicaignicaaLdA
import Derived.Test.YtabkbicaignicaaFlA

namespace Go.Proofs.Ytabkbicaignicaa
open Go Go.RowKit
set_option linter.unusedVariables false

theorem bsGo_in (less : Nat → Bool) (k : Nat) (h1 : ∀ t, t < k → less t = true) : ∀ (f lo hi : Nat), (∀ t, k ≤ t → t < hi → less t = false) → hi - lo ≤ f → lo ≤ k → k ≤ hi → Lib.bsGo less f lo hi = k
  | 0, lo, hi, _, hf, a, b => by simp [Lib.bsGo]; omega
  | f + 1, lo, hi, h2, hf, a, b => by
    unfold Lib.bsGo
    by_cases h : lo < hi
    · rw [if_pos h]
      by_cases hm : (lo + hi) / 2 < k
      · rw [if_pos (h1 _ hm)]
        exact bsGo_in less k h1 f _ hi h2 (by omega) (by omega) b
      · rw [if_neg (by rw [h2 _ (by omega) (by omega)]; decide)]
        exact bsGo_in less k h1 f lo _ (fun t ht hl => h2 t ht (by omega)) (by omega) a (by omega)
    · rw [if_neg h]; omega

theorem less_iff (a b : ByteArray) : Op.bytesLess a.toList b.toList = decide (M.txt' a < M.txt' b) := by
  rw [bytesLess_eq, Lib.toList_data, Lib.toList_data]; rfl

theorem halve_at {N : List ByteArray} (hs : M.Strict N) {k : Nat} (hk : k < N.length) : M.halve N N[k] = k := by
  have hp := List.pairwise_iff_getElem.1 hs
  have hg : ∀ t (ht : t < N.length), N.getD t ⟨#[]⟩ = N[t] := fun t ht => by rw [List.getD_eq_getElem?_getD, List.getElem?_eq_getElem ht]; rfl
  unfold M.halve
  refine bsGo_in _ k (fun t ht => ?_) _ _ _ (fun t h1 h2 => ?_) (by omega) (Nat.zero_le _) (by omega)
  · rw [hg t (by omega), less_iff]
    exact decide_eq_true (hp t k (by omega) hk ht)
  · rw [hg t h2, less_iff]
    refine decide_eq_false fun h => ?_
    by_cases e : t = k
    · subst e; exact List.lt_irrefl _ h
    · exact List.lt_irrefl _ (List.lt_trans h (hp k t hk h2 (by omega)))

theorem found_at {N : List ByteArray} (hs : M.Strict N) {s : ByteArray} (h : s ∈ N) : M.foundAt N s = true ∧ M.halve N s < N.length ∧ N[M.halve N s]? = some s := by
  obtain ⟨k, hk, rfl⟩ := List.getElem_of_mem h
  have e := halve_at hs hk
  unfold M.foundAt
  rw [e]
  exact ⟨decide_eq_true ⟨hk, by rw [List.getD_eq_getElem?_getD, List.getElem?_eq_getElem hk]; rfl⟩, hk, List.getElem?_eq_getElem hk⟩

theorem com_mem (ds : List M.Dfn) : ∀ (L : List ByteArray) (c : M.CS) (s : ByteArray), (s ∈ c.names ∨ (s ∈ L ∧ (M.find ds s).2 = 0 ∧ (M.find ds s).1.kind = 3)) → s ∈ (L.foldl (M.comStep ds) c).names
  | [], c, s, h => by
    rcases h with h | ⟨h, _⟩
    · exact h
    · cases h
  | x :: L, c, s, h => by
    rw [List.foldl_cons]
    refine com_mem ds L _ s ?_
    by_cases hx : (M.find ds x).2 = 0 ∧ (M.find ds x).1.kind = 3
    · have e : (M.comStep ds c x).names = c.names ++ [x] := by unfold M.comStep; rw [if_pos hx]
      rw [e]
      rcases h with h | ⟨h, h2⟩
      · exact .inl (by simp [h])
      · rcases List.mem_cons.1 h with rfl | h
        · exact .inl (by simp)
        · exact .inr ⟨h, h2⟩
    · have e : M.comStep ds c x = c := if_neg hx
      rw [e]
      rcases h with h | ⟨h, h2⟩
      · exact .inl h
      · rcases List.mem_cons.1 h with rfl | h
        · exact absurd h2 hx
        · exact .inr ⟨h, h2⟩

theorem ba_ext {a b : ByteArray} (h : a.toList = b.toList) : a = b := by
  rw [Lib.toList_data, Lib.toList_data] at h
  cases a with
  | mk x => cases b with
    | mk y => exact congrArg ByteArray.mk (Array.toList_inj.1 h)

theorem find_defined {ds : List M.Dfn} {s : ByteArray} (h0 : (M.find ds s).2 = 0) : s ∈ M.definedNames ds := by
  have key : ∀ k, 0 < (M.ofKind ds s k).length → s ∈ M.definedNames ds := fun k hk => by
    have hm := headD_mem hk M.dfnZ
    obtain ⟨h1, h2⟩ := List.mem_filter.1 hm
    unfold M.isDef at h2
    simp only [Bool.and_eq_true, beq_iff_eq] at h2
    have e := ba_ext h2.1
    rw [← e]
    exact List.mem_map.2 ⟨_, h1, rfl⟩
  unfold M.find M.findIn at h0
  split at h0
  · cases h0
  split at h0
  · exact key 1 (by omega)
  split at h0
  · rename_i h; exact key 3 h
  split at h0
  · rename_i h; exact key 2 h
  · cases h0

end Go.Proofs.Ytabkbicaignicaa

namespace Go.Proofs.Ytabkbicaignicaa
open Go Go.RowKit
set_option linter.unusedVariables false

/-- where a name that counts stands -/
theorem where_ok {p : M.Prt} {base : Int} (hp : M.Ok p) (ha : M.Apart p base) {s : ByteArray} (h0 : (M.find p.defs s).2 = 0) :
    (M.whereOf p (M.layAll p base) s).2 = 0 ∧ 0 ≤ (M.whereOf p (M.layAll p base) s).1 ∧ (M.whereOf p (M.layAll p base) s).1 ≤ 65536 := by
  have hti := fun i h1 h2 => ha.ti i h1 h2
  unfold M.whereOf
  by_cases hk : (M.find p.defs s).1.kind = 3
  · have hm : s ∈ (M.layAll p base).names := by
      show s ∈ (M.commons p (M.secN p.frags base 5).2).names
      exact com_mem p.defs (M.defined p) _ s (.inr ⟨(M.rising_mem _ s).2 (find_defined h0), h0, hk⟩)
    obtain ⟨f1, f2, f3⟩ := found_at ha.strict hm
    have hc := ha.com _ _ f3
    have h5 := hti 5 (by decide) (by decide)
    have hcl : M.halve (M.layAll p base).names s < (M.layAll p base).coms.length := by rw [← ha.lenN]; exact f2
    have hsz := hc.2.2.1.size0
    have e : M.whereIn (M.find p.defs s).1 (M.find p.defs s).2 (M.layAll p base).frags (M.layAll p base).names (M.layAll p base).coms s = ((M.layAll p base).coms.getD (M.halve (M.layAll p base).names s) 0, 0) := by
      unfold M.whereIn M.commonIn
      rw [if_pos h0, if_pos hk, if_pos f1, if_pos hcl]
    rw [e]
    exact ⟨rfl, by show 0 ≤ (M.layAll p base).coms.getD (M.halve (M.layAll p base).names s) 0; omega, by show (M.layAll p base).coms.getD (M.halve (M.layAll p base).names s) 0 ≤ 65536; omega⟩
  · obtain ⟨b0, b1, b2, b3, b4⟩ := M.find_stands hp h0 hk
    have e := whereIn_frag (N := (M.layAll p base).names) (C := (M.layAll p base).coms) (s := s) h0 hk (F := (M.layAll p base).frags) (by rw [ha.lenF]; exact b1)
    rw [e]
    obtain ⟨k, _, k1, k2, k3, k4, k5⟩ := frag_in hp ha (i := (M.find p.defs s).1.frag.toNat) (by omega)
    have h5 := hti k k1 k2
    exact ⟨rfl, by show 0 ≤ (M.layAll p base).frags.getD (M.find p.defs s).1.frag.toNat 0 + (M.find p.defs s).1.pos; omega, by show (M.layAll p base).frags.getD (M.find p.defs s).1.frag.toNat 0 + (M.find p.defs s).1.pos ≤ 65536; omega⟩

theorem where_moved {p : M.Prt} {base : Int} (hp : M.Ok p) (ha : M.Apart p base) (hm : M.Moved p base 1) {s : ByteArray} (h0 : (M.find p.defs s).2 = 0) :
    (M.whereOf p (M.layAll p (base + 16 * 1)) s).1 = (M.whereOf p (M.layAll p base) s).1 + 16 := by
  unfold M.whereOf
  by_cases hk : (M.find p.defs s).1.kind = 3
  · have hmm : s ∈ (M.layAll p base).names := by
      show s ∈ (M.commons p (M.secN p.frags base 5).2).names
      exact com_mem p.defs (M.defined p) _ s (.inr ⟨(M.rising_mem _ s).2 (find_defined h0), h0, hk⟩)
    obtain ⟨f1, f2, f3⟩ := found_at ha.strict hmm
    have hcl : M.halve (M.layAll p base).names s < (M.layAll p base).coms.length := by rw [← ha.lenN]; exact f2
    have e : ∀ C : List Int, M.halve (M.layAll p base).names s < C.length → M.whereIn (M.find p.defs s).1 (M.find p.defs s).2 (M.layAll p base).frags (M.layAll p base).names C s = (C.getD (M.halve (M.layAll p base).names s) 0, 0) := fun C hC => by
      unfold M.whereIn M.commonIn
      rw [if_pos h0, if_pos hk, if_pos f1, if_pos hC]
    have e2 : ∀ F F' C, M.whereIn (M.find p.defs s).1 (M.find p.defs s).2 F (M.layAll p base).names C s = M.whereIn (M.find p.defs s).1 (M.find p.defs s).2 F' (M.layAll p base).names C s := fun F F' C => by
      unfold M.whereIn
      rw [if_pos h0, if_pos hk, if_pos h0, if_pos hk]
    rw [hm.names, hm.coms, e2 _ (M.layAll p base).frags, e _ (by rw [List.length_map]; exact hcl), e _ hcl]
    show ((M.layAll p base).coms.map (· + 16 * 1)).getD (M.halve (M.layAll p base).names s) 0 = (M.layAll p base).coms.getD (M.halve (M.layAll p base).names s) 0 + 16
    rw [List.getD_eq_getElem?_getD, List.getElem?_map, List.getElem?_eq_getElem hcl, List.getD_eq_getElem?_getD, List.getElem?_eq_getElem hcl]
    rfl
  · obtain ⟨b0, b1, b2, b3, b4⟩ := M.find_stands hp h0 hk
    have hl : ∀ b', (M.layAll p b').frags.length = p.frags.length := fun b' => M.secN_len _ _ _
    rw [whereIn_frag (N := (M.layAll p (base + 16 * 1)).names) (C := (M.layAll p (base + 16 * 1)).coms) (s := s) h0 hk (F := (M.layAll p (base + 16 * 1)).frags) (by rw [hl]; exact b1), whereIn_frag (N := (M.layAll p base).names) (C := (M.layAll p base).coms) (s := s) h0 hk (F := (M.layAll p base).frags) (by rw [hl]; exact b1)]
    show (M.layAll p (base + 16 * 1)).frags.getD (M.find p.defs s).1.frag.toNat 0 + (M.find p.defs s).1.pos = (M.layAll p base).frags.getD (M.find p.defs s).1.frag.toNat 0 + (M.find p.defs s).1.pos + 16
    rw [hm.frags _ (by omega)]
    omega

end Go.Proofs.Ytabkbicaignicaa

namespace Go.Proofs.Ytabkbicaignicaa
open Go Go.RowKit
set_option linter.unusedVariables false

/-- what an image was made of -/
theorem link_inv {p : M.Prt} {base : Int} {s : ByteArray} {im : M.Img} (h : M.link p base s = (im, [], 0)) :
    M.checkPart p = 0 ∧ M.isName s = true ∧ M.lay p base = (M.layAll p base, 0) ∧ M.Apart p base ∧ 0 ≤ base ∧ M.allFaults p (M.layAll p base) s = [] ∧ im = M.image p (M.layAll p base) s := by
  unfold M.link at h
  split at h
  · rename_i hck
    split at h
    · rename_i hn
      split at h
      · rename_i hl
        obtain ⟨_, hb, _, he, ha⟩ := lay_facts hl
        rw [he] at h
        split at h
        · rename_i hf
          have hf' := List.eq_nil_of_length_eq_zero hf
          cases h
          exact ⟨hck, hn, he, ha, hb, hf', rfl⟩
        · rename_i hf
          have h2 := congrArg (fun x => x.2.1) h
          simp only at h2
          exact absurd (by rw [h2]; rfl) hf
      · rename_i hl
        exact absurd (congrArg (fun x => x.2.2) h) hl
    · cases h
  · rename_i hck
    exact absurd (congrArg (fun x => x.2.2) h) hck

theorem nameFaults_nil {p : M.Prt} {s : ByteArray} (h : M.nameFaults p s = []) : (M.find p.defs s).2 = 0 ∧ M.named p = [] := by
  unfold M.nameFaults at h
  split at h
  · rename_i h0; exact ⟨h0, h⟩
  · split at h
    · rename_i h0 h1
      rw [h] at h1
      cases h1
    · simp at h

/-- what LinkMoved asks of two images -/
structure ImgMoved (m n : M.Img) : Prop where
  entry : n.entry = m.entry + 16
  e0 : 0 ≤ m.entry ∧ m.entry ≤ 65536
  len : m.segs.length = 3 ∧ n.segs.length = 3
  seg : ∀ k, k < 3 → (n.segs.getD k M.seg0).pos = (m.segs.getD k M.seg0).pos + 16 ∧ 0 ≤ (m.segs.getD k M.seg0).pos ∧ (m.segs.getD k M.seg0).pos ≤ 65536 ∧ (n.segs.getD k M.seg0).bytes.length = (m.segs.getD k M.seg0).bytes.length ∧
    (n.segs.getD k M.seg0).zeros = (m.segs.getD k M.seg0).zeros ∧ (n.segs.getD k M.seg0).writes = (m.segs.getD k M.seg0).writes ∧ (n.segs.getD k M.seg0).works = (m.segs.getD k M.seg0).works

theorem linkMoved_of {p : M.Prt} {base : Int} {s : ByteArray} {m n : M.Img} {fl : List Flt} {er : Int} (h : M.link p base s = (m, [], 0)) (hb : base ≤ 65504) (h' : M.link p (base + 16) s = (n, fl, er)) :
    (er = 0 ∨ er = 10) ∧ (er = 0 → fl = [] → ImgMoved m n) := by
  obtain ⟨hck, hn, hl, ha, h0, hf, rfl⟩ := link_inv h
  have hp := (M.ok_iff p).1 hck
  refine ⟨?_, fun he hfl => ?_⟩
  · by_cases hl2 : (M.lay p (base + 16)).2 = 0
    · have : (M.link p (base + 16) s).2.2 = 0 := by
        unfold M.link
        rw [if_pos hck, if_pos hn, if_pos hl2]
        split <;> rfl
      rw [h'] at this
      exact .inl this
    · have e := link_lay (p := p) (base := base + 16) hck hn hl2
      rw [h'] at e
      have e2 : er = (M.lay p (base + 16)).2 := congrArg (fun x => x.2.2) e
      rw [e2]
      unfold M.lay at hl2 ⊢
      rw [if_pos hck, if_neg (by omega)] at hl2 ⊢
      split
      · exact .inr rfl
      · exact .inl rfl
  · subst he
    subst hfl
    obtain ⟨_, _, hl', ha', _, hf', rfl⟩ := link_inv h'
    have hfr : ∀ f ∈ p.frags, M.FrgOk f := fun f hf => M.frgOk_of (hp.shape f hf)
    have hm : M.Moved p base 1 := M.layMoved hfr (fun x h1 h2 => (common_ok hp x h1 h2).align)
    have hnf : M.nameFaults p s = [] := (List.append_eq_nil_iff.1 hf).1
    have hfind := (nameFaults_nil hnf).1
    have hw := where_moved hp ha hm hfind
    have hwo := where_ok hp ha hfind
    have e16 : base + 16 * 1 = base + 16 := by omega
    have fr : ∀ i, 1 ≤ i → i ≤ 5 → (M.layAll p (base + 16)).fr i = (M.layAll p base).fr i + 16 := fun i h1 h2 => by have := hm.fr i h1 h2; rw [e16] at this; omega
    have ti : ∀ i, 1 ≤ i → i ≤ 5 → (M.layAll p (base + 16)).ti i = (M.layAll p base).ti i + 16 := fun i h1 h2 => by have := hm.ti i h1 h2; rw [e16] at this; omega
    rw [e16] at hw
    have t := fun i h1 h2 => ha.ti i h1 h2
    have sl : ∀ a z, 1 ≤ a → a ≤ 5 → 1 ≤ z → z ≤ 5 → (M.segBytes p (M.layAll p (base + 16)) a z).length = (M.segBytes p (M.layAll p base) a z).length := fun a z h1 h2 h3 h4 => by
      unfold M.segBytes
      rw [segN_len, segN_len, fr a h1 h2, ti z h3 h4]
      congr 1; omega
    refine ⟨hw, hwo.2, ⟨rfl, rfl⟩, fun k hk => ?_⟩
    have hk' : k = 0 ∨ k = 1 ∨ k = 2 := by omega
    have t1 := t 1 (by decide) (by decide)
    have t2 := t 2 (by decide) (by decide)
    have t4 := t 4 (by decide) (by decide)
    rcases hk' with rfl | rfl | rfl
    · exact ⟨fr 1 (by decide) (by decide), t1.2.2, by show (M.layAll p base).fr 1 ≤ 65536; omega, sl 1 1 (by decide) (by decide) (by decide) (by decide), rfl, rfl, rfl⟩
    · exact ⟨fr 2 (by decide) (by decide), t2.2.2, by show (M.layAll p base).fr 2 ≤ 65536; omega, sl 2 3 (by decide) (by decide) (by decide) (by decide), rfl, rfl, rfl⟩
    · refine ⟨fr 4 (by decide) (by decide), t4.2.2, by show (M.layAll p base).fr 4 ≤ 65536; omega, sl 4 4 (by decide) (by decide) (by decide) (by decide), ?_, rfl, rfl⟩
      show (M.layAll p (base + 16)).ti 5 - (M.layAll p (base + 16)).ti 4 = (M.layAll p base).ti 5 - (M.layAll p base).ti 4
      rw [ti 5 (by decide) (by decide), ti 4 (by decide) (by decide)]
      omega

end Go.Proofs.Ytabkbicaignicaa

namespace Go.Proofs.Ytabkbicaignicaa
open Go Go.RowKit
set_option linter.unusedVariables false

/-- what LinkFaults asks of a fault that isn't one of the names' -/
def RestOk (p : M.Prt) (s : ByteArray) (f : Flt) : Prop :=
  (f.name = s ∧ (M.find p.defs s).2 = 7 ∧ f.e = 7) ∨
  (f.name = ⟨#[]⟩ ∧ 0 ≤ f.frag ∧ f.frag < p.frags.length ∧ (f.e = 8 ∨ f.e = 9) ∧ ∃ r ∈ (p.frags.getD f.frag.toNat frg0).rels, r.pos = f.pos)

theorem faulty_of {p : M.Prt} {s : ByteArray} (h : s ∈ M.wantedNames p.frags ++ M.definedNames p.defs) (hf : (M.find p.defs s).2 ≠ 0) : M.faulty (M.named p) s = true := by
  refine List.any_eq_true.2 ⟨⟨(M.find p.defs s).2, s, 0, 0⟩, ?_, by simp⟩
  unfold M.named
  refine List.mem_map.2 ⟨((M.find p.defs s).2, s), ?_, rfl⟩
  rw [M.faults_eq]
  refine List.mem_filterMap.2 ⟨s, (M.rising_mem _ s).2 h, ?_⟩
  unfold M.faultAt
  rw [if_neg hf]

theorem faulty_app {l m : List Flt} {s : ByteArray} (h : M.faulty l s = true) : M.faulty (l ++ m) s = true := by
  unfold M.faulty at *
  rw [List.any_append, h, Bool.true_or]

theorem find_67 (ds : List M.Dfn) (s : ByteArray) : (M.find ds s).2 = 0 ∨ (M.find ds s).2 = 6 ∧ s ∈ M.definedNames ds ∨ (M.find ds s).2 = 7 := by
  unfold M.find M.findIn
  split
  · rename_i h
    refine .inr (.inl ⟨rfl, ?_⟩)
    have hm := headD_mem (l := M.ofKind ds s 1) (by omega) M.dfnZ
    obtain ⟨h1, h2⟩ := List.mem_filter.1 hm
    unfold M.isDef at h2
    simp only [Bool.and_eq_true, beq_iff_eq] at h2
    have e := ba_ext h2.1
    rw [← e]
    exact List.mem_map.2 ⟨_, h1, rfl⟩
  · split
    · exact .inl rfl
    · split
      · exact .inl rfl
      · split
        · exact .inl rfl
        · exact .inr (.inr rfl)

theorem wanted_in {p : M.Prt} {i : Nat} (hi : i < p.frags.length) {r : M.Rel} (hr : r ∈ (p.frags.getD i frg0).rels) (hn : r.name.toList.isEmpty = false) : r.name ∈ M.wantedNames p.frags := by
  refine List.mem_flatMap.2 ⟨_, getD_mem p.frags frg0 i hi, ?_⟩
  unfold M.wantedOf
  refine List.mem_map.2 ⟨r, List.mem_filter.2 ⟨hr, ?_⟩, rfl⟩
  unfold M.bare
  rw [hn]; rfl

theorem addr_of {x : Int} (h0 : 0 ≤ x) (h1 : x ≤ 65536) : M.addr x = true := by
  unfold M.addr M.within
  rw [decide_eq_true h0, decide_eq_true h1]; rfl

theorem number_89 {p : M.Prt} {base : Int} (hp : M.Ok p) (ha : M.Apart p base) {i : Nat} (hi : i < p.frags.length) {r : M.Rel} (hr : r ∈ (p.frags.getD i frg0).rels) (hf : r.name.toList.isEmpty = false → (M.find p.defs r.name).2 = 0) :
    (M.number p (M.layAll p base) i r).2 = 0 ∨ (M.number p (M.layAll p base) i r).2 = 8 ∨ (M.number p (M.layAll p base) i r).2 = 9 := by
  have hfm := getD_mem p.frags frg0 i hi
  obtain ⟨hk, _⟩ := M.rel_ok hp hfm hr
  have hparts := M.frag_parts (M.frag_ok hp hfm)
  obtain ⟨k, ek, k1, k2, k3, k4, k5⟩ := frag_in hp ha hi
  have hti := ha.ti k k1 k2
  have hlong : M.long (p.frags.getD i frg0) = (p.frags.getD i frg0).bytes.length := by
    unfold M.long M.lng
    rw [if_neg]
    intro h5
    have hform := hparts.2.2.2.1
    unfold M.formed at hform
    rw [if_pos h5] at hform
    simp only [Bool.and_eq_true, beq_iff_eq] at hform
    have := List.eq_nil_of_length_eq_zero hform.1.2
    rw [this] at hr
    cases hr
  have hw0 : 0 ≤ M.wide r.kind := by unfold M.wide; split; decide; split <;> decide
  have hpos := hk.pos
  have hpos0 := hk.pos0
  have ha1 : M.addr ((M.layAll p base).frags.getD i 0 + r.pos) = true := addr_of (by omega) (by omega)
  have hadd : M.within r.add (-10000) 10000 = true := by unfold M.within; rw [decide_eq_true hk.add.1, decide_eq_true hk.add.2]; rfl
  have hval : ∀ tt, M.addr tt = true → (M.value r.kind ((M.layAll p base).frags.getD i 0 + r.pos) tt r.add).2 = 0 ∨ (M.value r.kind ((M.layAll p base).frags.getD i 0 + r.pos) tt r.add).2 = 9 := fun tt hto => by
    unfold M.value
    rw [if_neg (by rw [hk.kind]; decide), if_neg (by rw [ha1, hto, hadd]; decide)]
    split
    · exact .inr rfl
    · exact .inl rfl
  have key : (M.leads p (M.layAll p base) r).2 = 8 ∨ ((M.leads p (M.layAll p base) r).2 = 0 ∧ M.addr (M.leads p (M.layAll p base) r).1 = true) := by
    cases hb : r.name.toList.isEmpty
    · rw [leads_named hb]
      have hwo := where_ok hp ha (hf hb)
      unfold M.whereOf at hwo
      exact .inr ⟨hwo.1, addr_of hwo.2.1 hwo.2.2⟩
    · by_cases hg : r.frag < 0
      · rw [leads_dead hb hg]; exact .inl rfl
      · rw [leads_frag hb hg]
        have hfr := (hk.frag hb).2
        obtain ⟨k', _, j1, j2, j3, j4, j5⟩ := frag_in hp ha (i := r.frag.toNat) (by omega)
        have ht' := ha.ti k' j1 j2
        exact .inr ⟨rfl, addr_of (by show 0 ≤ (M.layAll p base).frags.getD r.frag.toNat 0; omega) (by show (M.layAll p base).frags.getD r.frag.toNat 0 ≤ 65536; omega)⟩
  rcases key with h | ⟨h, h2⟩
  · rw [number_err (by rw [h]; decide), h]; exact .inr (.inl rfl)
  · rw [number_ok h]
    rcases hval _ h2 with h3 | h3
    · exact .inl h3
    · exact .inr (.inr h3)

theorem placeN_ok {p : M.Prt} {base : Int} {s : ByteArray} (hp : M.Ok p) (ha : M.Apart p base) {nm more : List Flt} (hnm : nm = M.named p ++ more) : ∀ f ∈ M.placeFaults p (M.layAll p base) nm, RestOk p s f := fun f hf => by
  unfold M.placeFaults M.placeFaultsN at hf
  obtain ⟨i, hi, hf⟩ := List.mem_flatMap.1 hf
  have hi := List.mem_range.1 hi
  obtain ⟨r, hr, hf⟩ := List.mem_flatMap.1 hf
  unfold M.placeFault at hf
  split at hf
  · cases hf
  · rename_i hfy
    split at hf
    · cases hf
    · rename_i hne
      obtain rfl := List.mem_singleton.1 hf
      refine .inr ⟨rfl, by show (0 : Int) ≤ (i : Int); omega, by show (i : Int) < _; omega, ?_, r, by show r ∈ (p.frags.getD ((i : Int)).toNat frg0).rels; rw [Int.toNat_natCast]; exact hr, rfl⟩
      rcases number_89 hp ha hi hr (fun hb => Classical.byContradiction fun hc => hfy (by rw [hnm]; exact faulty_app (faulty_of (List.mem_append.2 (.inl (wanted_in hi hr hb))) hc))) with h | h | h
      · exact absurd h hne
      · exact .inl h
      · exact .inr h

theorem linkFaults_of {p : M.Prt} {base : Int} {s : ByteArray} {im : M.Img} {fl : List Flt} (h : M.link p base s = (im, fl, 0)) :
    M.checkPart p = 0 ∧ s.toList.isEmpty = false ∧ ((im.segs.length = 0 ∧ 0 < fl.length) ∨ (im.segs.length = 3 ∧ fl.length = 0)) ∧ ∃ rest, fl = M.named p ++ rest ∧ ∀ f ∈ rest, RestOk p s f := by
  unfold M.link at h
  split at h
  · rename_i hck
    have hp := (M.ok_iff p).1 hck
    split at h
    · rename_i hn
      have hne : s.toList.isEmpty = false := by
        cases hb : s.toList.isEmpty
        · rfl
        · have h0 : s.toList = [] := List.isEmpty_iff.1 hb
          rw [Lib.toList_data] at h0
          have : s.size = 0 := by
            show s.data.size = 0
            rw [← Array.length_toList, h0]; rfl
          unfold M.isName at hn
          rw [this] at hn
          simp at hn
      split at h
      · rename_i hl
        obtain ⟨_, hb, _, he, ha⟩ := lay_facts hl
        rw [he] at h
        have hsplit : ∃ more, M.nameFaults p s = M.named p ++ more ∧ ∀ f ∈ more, RestOk p s f := by
          unfold M.nameFaults
          split
          · exact ⟨[], by simp, fun f hf => by cases hf⟩
          · rename_i h0
            split
            · exact ⟨[], by simp, fun f hf => by cases hf⟩
            · rename_i h1
              refine ⟨_, rfl, fun f hf => ?_⟩
              obtain rfl := List.mem_singleton.1 hf
              have h7 : (M.find p.defs s).2 = 7 := by
                rcases find_67 p.defs s with h | ⟨h, h2⟩ | h
                · exact absurd h h0
                · exact absurd (faulty_of (List.mem_append.2 (.inr h2)) h0) h1
                · exact h
              exact .inl ⟨rfl, h7, h7⟩
        obtain ⟨more, hm1, hm2⟩ := hsplit
        split at h
        · rename_i hf
          have hf' := List.eq_nil_of_length_eq_zero hf
          have hnn : M.nameFaults p s = [] := (List.append_eq_nil_iff.1 hf').1
          have hnd : M.named p = [] := (nameFaults_nil hnn).2
          cases h
          exact ⟨hck, hne, .inr ⟨rfl, rfl⟩, [], by rw [hnd]; rfl, fun f hf => by cases hf⟩
        · rename_i hf
          cases h
          refine ⟨hck, hne, .inl ⟨rfl, Nat.pos_of_ne_zero hf⟩, more ++ M.placeFaults p (M.layAll p base) (M.nameFaults p s), ?_, fun f hf => ?_⟩
          · show M.nameFaults p s ++ M.placeFaults p (M.layAll p base) (M.nameFaults p s) = _
            rw [← List.append_assoc, ← hm1]
          · rcases List.mem_append.1 hf with hf | hf
            · exact hm2 f hf
            · exact placeN_ok hp ha hm1 f hf
      · rename_i hl
        exact absurd (congrArg (fun x => x.2.2) h) hl
    · cases h
  · rename_i hck
    exact absurd (congrArg (fun x => x.2.2) h) hck

end Go.Proofs.Ytabkbicaignicaa

namespace Go.Proofs.Ytabkbicaignicaa
open Go Go.RowKit
set_option linter.unusedVariables false

theorem chkSeg_ok {s : M.Seg} {e : Int} (h1 : e ≤ s.pos ∧ s.pos ≤ 65536) (h2 : 0 ≤ s.zeros ∧ s.zeros ≤ 65536) (h3 : s.bytes.length ≤ 65536) (h4 : M.segEnd s ≤ 65536) : M.chkSeg s e = 0 := by
  unfold M.chkSeg
  rw [if_pos (lwithin_iff.2 h1), if_pos (lwithin_iff.2 h2), if_neg (by omega), if_neg (by omega)]

theorem ix3 (s1 s2 s3 : M.Seg) (a : Int) : M.segIx [s1, s2, s3] a = if M.segHas s1 a = true then 0 else if M.segHas s2 a = true then 1 else if M.segHas s3 a = true then 2 else 3 := by
  show (if M.segHas s1 a = true then 0 else (if M.segHas s2 a = true then 0 else (if M.segHas s3 a = true then 0 else 0 + 1) + 1) + 1) = _
  split
  · rfl
  · split
    · rfl
    · split <;> rfl

theorem segHas_iff {s : M.Seg} {a : Int} : M.segHas s a = true ↔ s.pos ≤ a ∧ a < M.segEnd s := by
  unfold M.segHas
  simp

/-- the three segments of an image -/
def seg1 (p : M.Prt) (l : M.Lay) : M.Seg := ⟨l.fr 1, M.segBytes p l 1 1, 0, false, true⟩
def seg2 (p : M.Prt) (l : M.Lay) : M.Seg := ⟨l.fr 2, M.segBytes p l 2 3, 0, false, false⟩
def seg3 (p : M.Prt) (l : M.Lay) : M.Seg := ⟨l.fr 4, M.segBytes p l 4 4, l.ti 5 - l.ti 4, true, false⟩
theorem img_segs (p : M.Prt) (l : M.Lay) (s : ByteArray) : (M.image p l s).segs = [seg1 p l, seg2 p l, seg3 p l] := rfl

theorem segB_len (p : M.Prt) (l : M.Lay) (a z : Nat) : (M.segBytes p l a z).length = (l.ti z - l.fr a).toNat := segN_len p l a z p.frags.length

structure Ends (p : M.Prt) (l : M.Lay) : Prop where
  e1 : M.segEnd (seg1 p l) = l.ti 1
  e2 : M.segEnd (seg2 p l) = l.ti 3
  e3 : M.segEnd (seg3 p l) = l.ti 5
  b1 : ((seg1 p l).bytes.length : Int) = l.ti 1 - l.fr 1
  b2 : ((seg2 p l).bytes.length : Int) = l.ti 3 - l.fr 2
  b3 : ((seg3 p l).bytes.length : Int) = l.ti 4 - l.fr 4

theorem ends_of {p : M.Prt} {base : Int} (ha : M.Apart p base) : Ends p (M.layAll p base) := by
  have t1 := ha.ti 1 (by decide) (by decide)
  have t2 := ha.ti 2 (by decide) (by decide)
  have t3 := ha.ti 3 (by decide) (by decide)
  have t4 := ha.ti 4 (by decide) (by decide)
  have n2 : (M.layAll p base).ti 2 ≤ (M.layAll p base).fr 3 := ha.frN 2 (by decide) (by decide)
  have l1 := segB_len p (M.layAll p base) 1 1
  have l2 := segB_len p (M.layAll p base) 2 3
  have l3 := segB_len p (M.layAll p base) 4 4
  refine ⟨?_, ?_, ?_, ?_, ?_, ?_⟩
  · show (M.layAll p base).fr 1 + ((M.segBytes p (M.layAll p base) 1 1).length : Int) + 0 = _; omega
  · show (M.layAll p base).fr 2 + ((M.segBytes p (M.layAll p base) 2 3).length : Int) + 0 = _; omega
  · show (M.layAll p base).fr 4 + ((M.segBytes p (M.layAll p base) 4 4).length : Int) + ((M.layAll p base).ti 5 - (M.layAll p base).ti 4) = _; omega
  · show ((M.segBytes p (M.layAll p base) 1 1).length : Int) = _; omega
  · show ((M.segBytes p (M.layAll p base) 2 3).length : Int) = _; omega
  · show ((M.segBytes p (M.layAll p base) 4 4).length : Int) = _; omega

theorem img_chk {p : M.Prt} {base : Int} {s : ByteArray} (ha : M.Apart p base) (he : 0 ≤ (M.image p (M.layAll p base) s).entry ∧ (M.image p (M.layAll p base) s).entry ≤ 65536) : M.chkImg (M.image p (M.layAll p base) s) = 0 := by
  have t1 := ha.ti 1 (by decide) (by decide)
  have t2 := ha.ti 2 (by decide) (by decide)
  have t3 := ha.ti 3 (by decide) (by decide)
  have t4 := ha.ti 4 (by decide) (by decide)
  have t5 := ha.ti 5 (by decide) (by decide)
  have n1 : (M.layAll p base).ti 1 ≤ (M.layAll p base).fr 2 := ha.frN 1 (by decide) (by decide)
  have n2 : (M.layAll p base).ti 2 ≤ (M.layAll p base).fr 3 := ha.frN 2 (by decide) (by decide)
  have n3 : (M.layAll p base).ti 3 ≤ (M.layAll p base).fr 4 := ha.frN 3 (by decide) (by decide)
  have n4 : (M.layAll p base).ti 4 ≤ (M.layAll p base).fr 5 := ha.frN 4 (by decide) (by decide)
  obtain ⟨e1, e2, e3, b1, b2, b3⟩ := ends_of ha
  have c1 : M.chkSeg (seg1 p (M.layAll p base)) 0 = 0 := chkSeg_ok (by show 0 ≤ (M.layAll p base).fr 1 ∧ (M.layAll p base).fr 1 ≤ 65536; omega) (by show (0 : Int) ≤ 0 ∧ (0 : Int) ≤ 65536; decide) (by omega) (by omega)
  have c2 : M.chkSeg (seg2 p (M.layAll p base)) (M.segEnd (seg1 p (M.layAll p base))) = 0 := chkSeg_ok (by rw [e1]; show (M.layAll p base).ti 1 ≤ (M.layAll p base).fr 2 ∧ (M.layAll p base).fr 2 ≤ 65536; omega) (by show (0 : Int) ≤ 0 ∧ (0 : Int) ≤ 65536; decide) (by omega) (by omega)
  have c3 : M.chkSeg (seg3 p (M.layAll p base)) (M.segEnd (seg2 p (M.layAll p base))) = 0 := chkSeg_ok (by rw [e2]; show (M.layAll p base).ti 3 ≤ (M.layAll p base).fr 4 ∧ (M.layAll p base).fr 4 ≤ 65536; omega) (by show 0 ≤ (M.layAll p base).ti 5 - (M.layAll p base).ti 4 ∧ (M.layAll p base).ti 5 - (M.layAll p base).ti 4 ≤ 65536; omega) (by omega) (by omega)
  have hs : M.chkSegs (M.image p (M.layAll p base) s).segs 0 = 0 := by
    rw [img_segs]
    unfold M.chkSegs
    rw [if_pos c1]
    unfold M.chkSegs
    rw [if_pos c2]
    unfold M.chkSegs
    rw [if_pos c3]
    rfl
  unfold M.chkImg
  rw [if_neg (by rw [img_segs]; simp), if_pos hs, if_pos (lwithin_iff.2 he)]

/-- the segment of a section -/
def segOf (p : M.Prt) (l : M.Lay) (k : Nat) : M.Seg := if k = 1 then seg1 p l else if k ≤ 3 then seg2 p l else seg3 p l

theorem img_at {p : M.Prt} {base : Int} {s : ByteArray} (ha : M.Apart p base) {k : Nat} {a : Int} (k1 : 1 ≤ k) (k5 : k ≤ 5) (h1 : (M.layAll p base).fr k ≤ a) (h2 : a < (M.layAll p base).ti k) :
    M.thereAt (M.image p (M.layAll p base) s).segs a = true ∧ M.segAt (M.image p (M.layAll p base) s).segs a = segOf p (M.layAll p base) k := by
  have t1 := ha.ti 1 (by decide) (by decide)
  have t2 := ha.ti 2 (by decide) (by decide)
  have t3 := ha.ti 3 (by decide) (by decide)
  have t4 := ha.ti 4 (by decide) (by decide)
  have t5 := ha.ti 5 (by decide) (by decide)
  have n1 : (M.layAll p base).ti 1 ≤ (M.layAll p base).fr 2 := ha.frN 1 (by decide) (by decide)
  have n2 : (M.layAll p base).ti 2 ≤ (M.layAll p base).fr 3 := ha.frN 2 (by decide) (by decide)
  have n3 : (M.layAll p base).ti 3 ≤ (M.layAll p base).fr 4 := ha.frN 3 (by decide) (by decide)
  have n4 : (M.layAll p base).ti 4 ≤ (M.layAll p base).fr 5 := ha.frN 4 (by decide) (by decide)
  obtain ⟨e1, e2, e3, b1, b2, b3⟩ := ends_of ha
  have p1 : (seg1 p (M.layAll p base)).pos = (M.layAll p base).fr 1 := rfl
  have p2 : (seg2 p (M.layAll p base)).pos = (M.layAll p base).fr 2 := rfl
  have p3 : (seg3 p (M.layAll p base)).pos = (M.layAll p base).fr 4 := rfl
  rw [img_segs]
  unfold M.thereAt M.segAt
  rw [ix3]
  have hk : k = 1 ∨ k = 2 ∨ k = 3 ∨ k = 4 ∨ k = 5 := by omega
  have f1 : a < (M.layAll p base).ti 1 ∨ ¬ M.segHas (seg1 p (M.layAll p base)) a = true := by
    by_cases h : a < (M.layAll p base).ti 1
    · exact .inl h
    · exact .inr fun h' => by have := segHas_iff.1 h'; omega
  have f2 : a < (M.layAll p base).ti 3 ∨ ¬ M.segHas (seg2 p (M.layAll p base)) a = true := by
    by_cases h : a < (M.layAll p base).ti 3
    · exact .inl h
    · exact .inr fun h' => by have := segHas_iff.1 h'; omega
  rcases hk with rfl | rfl | rfl | rfl | rfl
  · rw [if_pos (segHas_iff.2 (by omega))]
    exact ⟨by simp, rfl⟩
  · rw [if_neg (f1.resolve_left (by omega)), if_pos (segHas_iff.2 (by omega))]
    exact ⟨by simp, rfl⟩
  · rw [if_neg (f1.resolve_left (by omega)), if_pos (segHas_iff.2 (by omega))]
    exact ⟨by simp, rfl⟩
  · rw [if_neg (f1.resolve_left (by omega)), if_neg (f2.resolve_left (by omega)), if_pos (segHas_iff.2 (by omega))]
    exact ⟨by simp, rfl⟩
  · rw [if_neg (f1.resolve_left (by omega)), if_neg (f2.resolve_left (by omega)), if_pos (segHas_iff.2 (by omega))]
    exact ⟨by simp, rfl⟩

/-- where a name that counts stands: in a section, or at its end -/
theorem where_in {p : M.Prt} {base : Int} (hp : M.Ok p) (ha : M.Apart p base) {s : ByteArray} (h0 : (M.find p.defs s).2 = 0) :
    ∃ k : Nat, 1 ≤ k ∧ k ≤ 5 ∧ (M.layAll p base).fr k ≤ (M.whereOf p (M.layAll p base) s).1 ∧ (M.whereOf p (M.layAll p base) s).1 ≤ (M.layAll p base).ti k := by
  unfold M.whereOf
  by_cases hk : (M.find p.defs s).1.kind = 3
  · have hm : s ∈ (M.layAll p base).names := by
      show s ∈ (M.commons p (M.secN p.frags base 5).2).names
      exact com_mem p.defs (M.defined p) _ s (.inr ⟨(M.rising_mem _ s).2 (find_defined h0), h0, hk⟩)
    obtain ⟨f1, f2, f3⟩ := found_at ha.strict hm
    have hc := ha.com _ _ f3
    have hcl : M.halve (M.layAll p base).names s < (M.layAll p base).coms.length := by rw [← ha.lenN]; exact f2
    have hsz := hc.2.2.1.size0
    have e : M.whereIn (M.find p.defs s).1 (M.find p.defs s).2 (M.layAll p base).frags (M.layAll p base).names (M.layAll p base).coms s = ((M.layAll p base).coms.getD (M.halve (M.layAll p base).names s) 0, 0) := by
      unfold M.whereIn M.commonIn
      rw [if_pos h0, if_pos hk, if_pos f1, if_pos hcl]
    rw [e]
    exact ⟨5, by decide, by decide, by show (M.layAll p base).fr 5 ≤ (M.layAll p base).coms.getD (M.halve (M.layAll p base).names s) 0; omega, by show (M.layAll p base).coms.getD (M.halve (M.layAll p base).names s) 0 ≤ (M.layAll p base).ti 5; omega⟩
  · obtain ⟨b0, b1, b2, b3, b4⟩ := M.find_stands hp h0 hk
    have e := whereIn_frag (N := (M.layAll p base).names) (C := (M.layAll p base).coms) (s := s) h0 hk (F := (M.layAll p base).frags) (by rw [ha.lenF]; exact b1)
    rw [e]
    obtain ⟨k, _, k1, k2, k3, k4, k5⟩ := frag_in hp ha (i := (M.find p.defs s).1.frag.toNat) (by omega)
    exact ⟨k, k1, k2, by show (M.layAll p base).fr k ≤ (M.layAll p base).frags.getD (M.find p.defs s).1.frag.toNat 0 + (M.find p.defs s).1.pos; omega, by show (M.layAll p base).frags.getD (M.find p.defs s).1.frag.toNat 0 + (M.find p.defs s).1.pos ≤ (M.layAll p base).ti k; omega⟩

/-- what LoadLinked asks of an image that was linked -/
structure Loads (p : M.Prt) (base : Int) (im : M.Img) : Prop where
  lay : M.lay p base = (M.layAll p base, 0)
  lenF : (M.layAll p base).frags.length = p.frags.length
  chk : M.chkImg im = 0
  at_ : ∀ (i k : Nat), i < p.frags.length → (k : Int) < M.long (p.frags.getD i frg0) → M.thereAt im.segs ((M.layAll p base).frags.getD i 0 + (k : Int)) = true ∧ (M.segAt im.segs ((M.layAll p base).frags.getD i 0 + (k : Int))).writes = decide (4 ≤ (p.frags.getD i frg0).sect) ∧
    (M.segAt im.segs ((M.layAll p base).frags.getD i 0 + (k : Int))).works = ((p.frags.getD i frg0).sect == 1) ∧ ((p.frags.getD i frg0).sect = 5 → M.byteIn im.segs ((M.layAll p base).frags.getD i 0 + (k : Int)) = 0)
  pos : ∀ i : Nat, i < p.frags.length → 0 ≤ (M.layAll p base).frags.getD i 0 ∧ (M.layAll p base).frags.getD i 0 + M.long (p.frags.getD i frg0) ≤ 65536 ∧ 0 ≤ M.long (p.frags.getD i frg0) ∧ M.long (p.frags.getD i frg0) ≤ 64
  ent : M.thereAt im.segs im.entry = true ∨ ∃ k : Nat, 1 ≤ k ∧ k ≤ 5 ∧ im.entry = (M.layAll p base).ti k
  six : ∀ k : Nat, 1 ≤ k → k ≤ 5 → 0 ≤ (M.layAll p base).ti k ∧ (M.layAll p base).ti k ≤ 65536

theorem loads_of {p : M.Prt} {base : Int} {s : ByteArray} {im : M.Img} (h : M.link p base s = (im, [], 0)) : Loads p base im := by
  obtain ⟨hck, hn, hl, ha, h0, hf, rfl⟩ := link_inv h
  have hp := (M.ok_iff p).1 hck
  have hnf : M.nameFaults p s = [] := (List.append_eq_nil_iff.1 hf).1
  have hfs := (nameFaults_nil hnf).1
  obtain ⟨w1, w2, w3⟩ := where_ok hp ha hfs
  have hent : (M.image p (M.layAll p base) s).entry = (M.whereOf p (M.layAll p base) s).1 := rfl
  obtain ⟨kk, q1, q2, q3, q4⟩ := where_in hp ha hfs
  refine ⟨hl, ha.lenF, img_chk ha (by rw [hent]; exact ⟨w2, w3⟩), fun i k hi hk => ?_, fun i hi => ?_, ?_, fun k k1 k5 => ?_⟩
  · obtain ⟨c, hc, c1, c5, c3, c4, c6⟩ := frag_in hp ha hi
    obtain ⟨a1, a2⟩ := img_at (s := s) ha c1 c5 (a := (M.layAll p base).frags.getD i 0 + (k : Int)) (by omega) (by omega)
    refine ⟨a1, ?_, ?_, fun h5 => ?_⟩
    · rw [a2, hc]
      have hcc : c = 1 ∨ c = 2 ∨ c = 3 ∨ c = 4 ∨ c = 5 := by omega
      rcases hcc with rfl | rfl | rfl | rfl | rfl <;> rfl
    · rw [a2, hc]
      have hcc : c = 1 ∨ c = 2 ∨ c = 3 ∨ c = 4 ∨ c = 5 := by omega
      rcases hcc with rfl | rfl | rfl | rfl | rfl <;> rfl
    · obtain rfl : c = 5 := by omega
      obtain ⟨e1, e2, e3, b1, b2, b3⟩ := ends_of ha
      have n4 : (M.layAll p base).ti 4 ≤ (M.layAll p base).fr 5 := ha.frN 4 (by decide) (by decide)
      have p3 : (seg3 p (M.layAll p base)).pos = (M.layAll p base).fr 4 := rfl
      unfold M.byteIn M.byteOf
      rw [a2]
      show (if (M.layAll p base).frags.getD i 0 + (k : Int) - (seg3 p (M.layAll p base)).pos < ((seg3 p (M.layAll p base)).bytes.length : Int) then _ else (0 : Int)) = 0
      rw [if_neg (by omega)]
  · obtain ⟨c, hc, c1, c5, c3, c4, c6⟩ := frag_in hp ha hi
    have ht := ha.ti c c1 c5
    have hl64 := (M.frgOk_of (hp.shape _ (getD_mem p.frags frg0 i hi))).long64
    omega
  · rw [hent]
    by_cases hlt : (M.whereOf p (M.layAll p base) s).1 < (M.layAll p base).ti kk
    · exact .inl (img_at ha q1 q2 q3 hlt).1
    · exact .inr ⟨kk, q1, q2, by omega⟩
  · have := ha.ti k k1 k5
    omega

end Go.Proofs.Ytabkbicaignicaa

namespace Go.Proofs.Ytabkbicaignicaa.M
open Go.RowKit
set_option linter.unusedVariables false

/-- a place's bytes, and the number that they make -/
theorem whole_bytes {k n : Int} (hk : known k = true) (hf : fits k n = true) : whole (byteAt n 0) (if wide k = 2 then byteAt n 1 else 0) k = n := by
  rcases kinds hk with rfl | rfl | rfl | rfl
  all_goals
    simp only [fits, lo, hi, within, wide, whole, byteAt, Bool.and_eq_true, decide_eq_true_eq] at hf ⊢
    simp at hf ⊢
    omega

theorem whole_fits {k a b : Int} (hk : known k = true) (ha : 0 ≤ a ∧ a < 256) (hb : 0 ≤ b ∧ b < 256) (h1 : wide k = 1 → b = 0) : fits k (whole a b k) = true := by
  rcases kinds hk with rfl | rfl | rfl | rfl
  · obtain rfl : b = 0 := h1 rfl
    simp [fits, lo, hi, within, whole, wide]
    omega
  · simp [fits, lo, hi, within, whole, wide]
    omega
  · obtain rfl : b = 0 := h1 rfl
    simp [fits, lo, hi, within, whole, wide]
    split <;> omega
  · simp [fits, lo, hi, within, whole, wide]
    split <;> omega

theorem byteAt_whole {k a b : Int} (hk : known k = true) (ha : 0 ≤ a ∧ a < 256) (hb : 0 ≤ b ∧ b < 256) : byteAt (whole a b k) 0 = a ∧ (wide k = 2 → byteAt (whole a b k) 1 = b) := by
  unfold whole
  generalize fits k (a + 256 * b) = ft
  have hw : wide k = 1 ∨ wide k = 2 := by rcases kinds hk with rfl | rfl | rfl | rfl <;> simp [wide]
  generalize wide k = wd at *
  rcases hw with rfl | rfl <;> cases ft <;> simp [byteAt] <;> omega

theorem putN_at {bs : List Int} {p : Nat} {n : Int} : ∀ (w : Nat) (i : Nat), i < bs.length → (putN bs p n w).getD i 0 = if p ≤ i ∧ i < p + w then byteAt n (i - p) else bs.getD i 0
  | 0, i, hi => by
    rw [if_neg (by omega)]; rfl
  | w + 1, i, hi => by
    have ih := putN_at (bs := bs) (p := p) (n := n) w i hi
    have hl : (putN bs p n w).length = bs.length := putN_len bs p n w
    show ((putN bs p n w).set (p + w) (byteAt n w)).getD i 0 = _
    rw [List.getD_eq_getElem?_getD] at ih ⊢
    rw [List.getElem?_set]
    by_cases e : p + w = i
    · subst e
      rw [if_pos rfl, if_pos (by omega), if_pos (by omega), show p + w - p = w by omega]; rfl
    · rw [if_neg e, ih]
      by_cases h2 : p ≤ i ∧ i < p + w
      · rw [if_pos h2, if_pos (by omega)]
      · rw [if_neg h2, if_neg (by omega)]

theorem getD_ext {l l' : List Int} (hl : l.length = l'.length) (h : ∀ i, i < l.length → l.getD i 0 = l'.getD i 0) : l = l' := by
  refine List.ext_getElem hl fun i h1 h2 => ?_
  have := h i h1
  rw [List.getD_eq_getElem?_getD, List.getD_eq_getElem?_getD, List.getElem?_eq_getElem h1, List.getElem?_eq_getElem h2] at this
  exact this

theorem put_ok {bs c : List Int} {pos k n : Int} (h : putB bs pos k n = (c, 0)) : place bs.length pos k = 0 ∧ fits k n = true ∧ c = putN bs pos.toNat n (wide k).toNat := by
  unfold putB at h
  by_cases h1 : place bs.length pos k = 0
  · rw [if_pos h1] at h
    cases h2 : fits k n
    · rw [h2] at h; simp at h
    · rw [h2] at h
      exact ⟨h1, rfl, (congrArg Prod.fst h).symm⟩
  · rw [if_neg h1] at h
    exact absurd (congrArg Prod.snd h) h1

/-- all that the law asks -/
theorem put_back {bs c : List Int} {pos k n : Int} (hb : ∀ b ∈ bs, 0 ≤ b ∧ b < 256) (h : putB bs pos k n = (c, 0)) :
    c.length = bs.length ∧ get c pos k = (n, 0) ∧ (∀ i : Nat, i < bs.length → ((i : Int) < pos ∨ pos + wide k ≤ (i : Int)) → bs.getD i 0 = c.getD i 0) ∧ ∃ x, get bs pos k = (x, 0) ∧ putB c pos k x = (bs, 0) := by
  obtain ⟨hp, hf, rfl⟩ := put_ok h
  obtain ⟨hk, hl, hp0, hpw⟩ := place_ok hp
  have hlen : (putN bs pos.toNat n (wide k).toNat).length = bs.length := putN_len _ _ _ _
  have hw : wide k = 1 ∨ wide k = 2 := by rcases kinds hk with rfl | rfl | rfl | rfl <;> simp [wide]
  have hr : ∀ i, 0 ≤ bs.getD i 0 ∧ bs.getD i 0 < 256 := fun i => by
    by_cases hi : i < bs.length
    · exact hb _ (getD_mem bs 0 i hi)
    · rw [List.getD_eq_getElem?_getD, List.getElem?_eq_none (by omega)]; decide
  have hr2 : 0 ≤ second bs pos.toNat k ∧ second bs pos.toNat k < 256 := by
    unfold second; split
    · exact hr _
    · decide
  refine ⟨hlen, ?_, fun i hi ho => ?_, whole (bs.getD pos.toNat 0) (second bs pos.toNat k) k, ?_, ?_⟩
  · unfold get
    rw [hlen, if_pos hp]
    have e1 : (putN bs pos.toNat n (wide k).toNat).getD pos.toNat 0 = byteAt n 0 := by
      rw [putN_at _ _ (by omega), if_pos (by omega), Nat.sub_self]
    have e2 : second (putN bs pos.toNat n (wide k).toNat) pos.toNat k = if wide k = 2 then byteAt n 1 else 0 := by
      unfold second
      rcases hw with h1 | h1
      · rw [h1]; rfl
      · rw [if_pos h1, if_pos h1, putN_at _ _ (by omega), if_pos (by omega), show pos.toNat + 1 - pos.toNat = 1 by omega]
    rw [e1, e2, whole_bytes hk hf]
  · rw [putN_at _ _ hi, if_neg (by omega)]
  · unfold get
    rw [if_pos hp]
  · have hfx := whole_fits (k := k) (a := bs.getD pos.toNat 0) (b := second bs pos.toNat k) hk (hr _) hr2 (fun h1 => by unfold second; rw [if_neg (by omega)])
    obtain ⟨hx0, hx1⟩ := byteAt_whole (k := k) (a := bs.getD pos.toNat 0) (b := second bs pos.toNat k) hk (hr _) hr2
    generalize whole (bs.getD pos.toNat 0) (second bs pos.toNat k) k = x at *
    unfold putB
    rw [hlen, if_pos hp, hfx]
    have e : putN (putN bs pos.toNat n (wide k).toNat) pos.toNat x (wide k).toNat = bs := by
      refine getD_ext (by rw [putN_len, putN_len]) fun i hi => ?_
      rw [putN_len, putN_len] at hi
      rw [putN_at _ _ (by rw [putN_len]; exact hi)]
      by_cases hin : pos.toNat ≤ i ∧ i < pos.toNat + (wide k).toNat
      · rw [if_pos hin]
        rcases (by omega : i = pos.toNat ∨ i = pos.toNat + 1 ∧ wide k = 2) with rfl | ⟨rfl, h2⟩
        · rw [Nat.sub_self, hx0]
        · rw [show pos.toNat + 1 - pos.toNat = 1 by omega, hx1 h2, second, if_pos h2]
      · rw [if_neg hin, putN_at _ _ hi, if_neg hin]
    rw [e]; rfl

end Go.Proofs.Ytabkbicaignicaa.M

namespace Go.Proofs.Ytabkbicaignicaa
open Go Go.RowKit
set_option linter.unusedVariables false

theorem rowOf_getD (l : List M.Seg) (a : Int) {n k : Nat} (hk : k < n) : (M.rowOf l a n).getD k 0 = M.byteIn l (a + (k : Int)) := by
  rw [List.getD_eq_getElem?_getD]
  simp [M.rowOf, hk]

/-- what is got hangs on a place's own bytes -/
theorem get_congr {C D : List Int} {pos k : Int} (hp : M.place D.length pos k = 0) (hl : C.length = D.length) (h : ∀ j : Nat, pos ≤ (j : Int) → (j : Int) < pos + M.wide k → C.getD j 0 = D.getD j 0) : M.get C pos k = M.get D pos k := by
  obtain ⟨hk, hlen, hp0, hpw⟩ := place_ok hp
  have hw : M.wide k = 1 ∨ M.wide k = 2 := by rcases M.kinds hk with rfl | rfl | rfl | rfl <;> simp [M.wide]
  have e0 : C.getD pos.toNat 0 = D.getD pos.toNat 0 := h pos.toNat (by omega) (by omega)
  have e1 : M.second C pos.toNat k = M.second D pos.toNat k := by
    unfold M.second
    by_cases h2 : M.wide k = 2
    · rw [if_pos h2, if_pos h2]; exact h (pos.toNat + 1) (by omega) (by omega)
    · rw [if_neg h2, if_neg h2]
  unfold M.get
  rw [hl, e0, e1]

theorem value_fits {k pos tt add : Int} (h : (M.value k pos tt add).2 = 0) : M.known k = true ∧ M.fits k (M.value k pos tt add).1 = true := by
  unfold M.value at h ⊢
  split at h
  · cases h
  · rename_i h1
    split at h
    · cases h
    · rename_i h2
      split at h
      · cases h
      · rename_i h3
        rw [if_neg h1, if_neg h2, if_neg h3]
        exact ⟨by simpa using h1, by simpa using h3⟩

theorem number_fits {p : M.Prt} {l : M.Lay} {i : Nat} {r : M.Rel} (h : (M.number p l i r).2 = 0) : M.known r.kind = true ∧ M.fits r.kind (M.number p l i r).1 = true ∧ (M.leads p l r).2 = 0 := by
  by_cases hl : (M.leads p l r).2 = 0
  · rw [number_ok hl] at h ⊢
    have := value_fits h
    exact ⟨this.1, this.2, hl⟩
  · rw [number_err hl] at h
    exact absurd h hl

theorem place_of {len many : Int} {r : M.Rel} (h : M.RelOk many len r) (hl : len ≤ 64) : M.place len r.pos r.kind = 0 := by
  unfold M.place
  rw [if_neg (by rw [h.kind]; decide), if_neg (by omega), if_neg]
  have := h.pos0
  have := h.pos
  rw [lwithin_iff.2 (by omega)]; decide

/-- the fold over a fragment's places -/
theorem fold_places (p : M.Prt) (l : M.Lay) (i : Nat) (n : Nat) (many : Int) (hn : n ≤ 64) : ∀ (rs : List M.Rel) (e : Int) (B : List Int), 0 ≤ e → M.checkRels n many e rs = 0 → (∀ r ∈ rs, (M.number p l i r).2 = 0) → B.length = n → (∀ b ∈ B, 0 ≤ b ∧ b < 256) →
    (rs.foldl (M.fillRel p l i) B).length = n ∧ (∀ b ∈ rs.foldl (M.fillRel p l i) B, 0 ≤ b ∧ b < 256) ∧ (∀ j : Nat, j < n → (j : Int) < e → (rs.foldl (M.fillRel p l i) B).getD j 0 = B.getD j 0) ∧
    (∀ j : Nat, j < n → (∀ r ∈ rs, (j : Int) < r.pos ∨ r.pos + M.wide r.kind ≤ (j : Int)) → (rs.foldl (M.fillRel p l i) B).getD j 0 = B.getD j 0) ∧ ∀ r ∈ rs, M.get (rs.foldl (M.fillRel p l i) B) r.pos r.kind = ((M.number p l i r).1, 0)
  | [], e, B, _, _, _, hB, hb => ⟨hB, hb, fun _ _ _ => rfl, fun _ _ _ => rfl, fun r hr => by cases hr⟩
  | x :: rs, e, B, he, hc, hnum, hB, hb => by
    have hx := M.rels_ok n many (x :: rs) e he hc x (List.mem_cons_self ..)
    have hpl : M.place B.length x.pos x.kind = 0 := by rw [hB]; exact place_of hx.1 (by omega)
    obtain ⟨hk, hf, _⟩ := number_fits (hnum x (List.mem_cons_self ..))
    obtain ⟨B', hB'⟩ : ∃ B', M.putB B x.pos x.kind (M.number p l i x).1 = (B', 0) := by
      unfold M.putB
      rw [if_pos hpl, if_pos hf]
      exact ⟨_, rfl⟩
    obtain ⟨q1, q2, q3, _⟩ := M.put_back hb hB'
    have hw0 : 1 ≤ M.wide x.kind := by rcases M.kinds hk with h | h | h | h <;> rw [h] <;> decide
    have hb' : ∀ b ∈ B', 0 ≤ b ∧ b < 256 := by
      have hput := (M.put_ok hB').2.2
      rw [hput]
      exact fun b hbm => putN_range hb _ _ _ b hbm
    have hstep : M.fillRel p l i B x = B' := by unfold M.fillRel; rw [hB']
    have hc2 : M.checkRels n many (x.pos + M.wide x.kind) rs = 0 := by
      unfold M.checkRels at hc
      split at hc
      · split at hc
        · exact hc
        · rename_i ht; exact absurd hc ht
      · cases hc
    have hp0 := hx.1.pos0
    have ih := fold_places p l i n many hn rs (x.pos + M.wide x.kind) B' (by omega) hc2 (fun r hr => hnum r (List.mem_cons_of_mem _ hr)) (by rw [q1, hB]) hb'
    have hfold : (x :: rs).foldl (M.fillRel p l i) B = rs.foldl (M.fillRel p l i) B' := by rw [List.foldl_cons, hstep]
    rw [hfold]
    obtain ⟨i1, i2, i3, i4, i5⟩ := ih
    refine ⟨i1, i2, fun j hj hje => ?_, fun j hj hout => ?_, fun r hr => ?_⟩
    · rw [i3 j hj (by omega), ← q3 j (by omega) (.inl (by omega))]
    · rw [i4 j hj (fun r hr => hout r (List.mem_cons_of_mem _ hr)), ← q3 j (by omega) (hout x (List.mem_cons_self ..))]
    · rcases List.mem_cons.1 hr with rfl | hr
      · rw [← q2]
        refine get_congr (by rw [q1]; exact hpl) (by rw [i1, q1, hB]) (fun j h1 h2 => ?_)
        have := hx.1.pos
        exact i3 j (by omega) (by omega)
      · exact i5 r hr

/-- bytes laid over others -/
theorem over_at {O b : List Int} {pos : Nat} (h : pos + b.length ≤ O.length) (j : Nat) (hj : j < O.length) : (M.over O pos b).getD j 0 = if pos ≤ j ∧ j < pos + b.length then b.getD (j - pos) 0 else O.getD j 0 := by
  unfold M.over
  have hb : b.take (O.length - pos) = b := List.take_of_length_le (by omega)
  rw [hb]
  simp only [List.getD_eq_getElem?_getD]
  by_cases h1 : j < pos
  · rw [if_neg (by omega), List.getElem?_append_left (by rw [List.length_take]; omega), List.getElem?_take, if_pos h1]
  · rw [List.getElem?_append_right (by rw [List.length_take]; omega), List.length_take, Nat.min_eq_left (by omega)]
    by_cases h2 : j < pos + b.length
    · rw [if_pos ⟨by omega, h2⟩, List.getElem?_append_left (by omega)]
    · rw [if_neg (by omega), List.getElem?_append_right (by omega), List.getElem?_drop]
      congr 2
      omega

/-- what holds of a fragment's bytes in its image -/
structure Place (p : M.Prt) (l : M.Lay) (i : Nat) (f : M.Frg) (B : List Int) : Prop where
  len : B.length = f.bytes.length
  rel : ∀ r ∈ f.rels, ∃ tt num, (r.name.toList.isEmpty = false → M.whereOf p l r.name = (tt, 0)) ∧ (r.name.toList.isEmpty = true → 0 ≤ r.frag ∧ r.frag < p.frags.length ∧ l.frags.getD r.frag.toNat 0 = tt) ∧ M.value r.kind (l.frags.getD i 0 + r.pos) tt r.add = (num, 0) ∧ M.get B r.pos r.kind = (num, 0) ∧
    0 ≤ r.pos ∧ r.pos + M.wide r.kind ≤ f.bytes.length ∧ 1 ≤ M.wide r.kind ∧ M.wide r.kind ≤ 2
  rest : ∀ k : Nat, k < f.bytes.length → (∀ r ∈ f.rels, (k : Int) < r.pos ∨ r.pos + M.wide r.kind ≤ (k : Int)) → B.getD k 0 = f.bytes.getD k 0

theorem no_faults {p : M.Prt} {l : M.Lay} {s : ByteArray} (h : M.allFaults p l s = []) {i : Nat} (hi : i < p.frags.length) {r : M.Rel} (hr : r ∈ (p.frags.getD i frg0).rels) : (M.number p l i r).2 = 0 := by
  obtain ⟨h1, h2⟩ := List.append_eq_nil_iff.1 h
  rw [h1] at h2
  unfold M.placeFaults M.placeFaultsN at h2
  have h3 := List.flatMap_eq_nil_iff.1 h2 i (by simpa using hi)
  unfold M.fragFaults at h3
  have h4 := List.flatMap_eq_nil_iff.1 h3 r hr
  unfold M.placeFault at h4
  rw [if_neg (by unfold M.faulty; simp)] at h4
  split at h4
  · assumption
  · cases h4

theorem filled_place {p : M.Prt} {base : Int} {s : ByteArray} (hp : M.Ok p) (ha : M.Apart p base) (hf : M.allFaults p (M.layAll p base) s = []) {i : Nat} (hi : i < p.frags.length) (hb : ∀ b ∈ (p.frags.getD i frg0).bytes, 0 ≤ b ∧ b < 256) :
    Place p (M.layAll p base) i (p.frags.getD i frg0) (M.filled p (M.layAll p base) i (p.frags.getD i frg0)) := by
  have hfm := getD_mem p.frags frg0 i hi
  have hparts := M.frag_parts (M.frag_ok hp hfm)
  have hnum : ∀ r ∈ (p.frags.getD i frg0).rels, (M.number p (M.layAll p base) i r).2 = 0 := fun r hr => no_faults hf hi hr
  obtain ⟨f1, f2, f3, f4, f5⟩ := fold_places p (M.layAll p base) i (p.frags.getD i frg0).bytes.length p.frags.length hparts.2.1 (p.frags.getD i frg0).rels 0 (p.frags.getD i frg0).bytes (Int.le_refl _) hparts.2.2.2.2 hnum rfl hb
  refine ⟨f1, fun r hr => ?_, f4⟩
  obtain ⟨hk, _⟩ := M.rel_ok hp hfm hr
  have hn := hnum r hr
  obtain ⟨k1, k2, k3⟩ := number_fits hn
  have hw : M.wide r.kind = 1 ∨ M.wide r.kind = 2 := by rcases M.kinds k1 with h | h | h | h <;> rw [h] <;> simp [M.wide]
  refine ⟨(M.leads p (M.layAll p base) r).1, (M.number p (M.layAll p base) i r).1, fun hb => ?_, fun hb => ?_, ?_, f5 r hr, hk.pos0, hk.pos, by omega, by omega⟩
  · have e := leads_named (p := p) (l := M.layAll p base) hb
    unfold M.whereOf
    rw [← e]
    exact Prod.ext rfl k3
  · have hr0 : ¬ r.frag < 0 := fun hg => by
      rw [leads_dead hb hg] at k3; cases k3
    rw [leads_frag hb hr0]
    exact ⟨by omega, (hk.frag hb).2, rfl⟩
  · have e := number_ok (p := p) (l := M.layAll p base) (i := i) (r := r) k3
    rw [← e]
    exact Prod.ext rfl hn

/-- a fragment's bytes in its segment -/
theorem segN_at {p : M.Prt} {base : Int} {s : ByteArray} (hp : M.Ok p) (ha : M.Apart p base) (hfl : ∀ i, i < p.frags.length → (M.filled p (M.layAll p base) i (p.frags.getD i frg0)).length = (p.frags.getD i frg0).bytes.length) {a z : Nat} (hz : z ≤ 4) (hso : SegOk p (M.layAll p base) a z)
    (hin : ∀ i, i < p.frags.length → (a : Int) ≤ (p.frags.getD i frg0).sect → (p.frags.getD i frg0).sect ≤ z → (M.layAll p base).fr a ≤ (M.layAll p base).frags.getD i 0 ∧ (M.layAll p base).frags.getD i 0 + (p.frags.getD i frg0).bytes.length ≤ (M.layAll p base).ti z) {i : Nat} (hi : i < p.frags.length) (h1 : (a : Int) ≤ (p.frags.getD i frg0).sect) (h2 : (p.frags.getD i frg0).sect ≤ z) :
    ∀ n, i < n → n ≤ p.frags.length → ∀ k : Nat, k < (p.frags.getD i frg0).bytes.length → (M.segN p (M.layAll p base) a z n).getD (((M.layAll p base).frags.getD i 0 - (M.layAll p base).fr a).toNat + k) 0 = (M.filled p (M.layAll p base) i (p.frags.getD i frg0)).getD k 0 := by
  intro n
  induction n with
  | zero => intro h; exact absurd h (Nat.not_lt_zero _)
  | succ n ih =>
    intro hin1 hn1 k hk
    have hpi := hin i hi h1 h2
    have hlen : (M.segN p (M.layAll p base) a z n).length = ((M.layAll p base).ti z - (M.layAll p base).fr a).toNat := segN_len p _ a z n
    rw [segN_succ]
    by_cases hc : (a : Int) ≤ (p.frags.getD n frg0).sect ∧ (p.frags.getD n frg0).sect ≤ z
    · rw [segStep_in hc]
      have hnl : n < p.frags.length := hn1
      have hpn := hin n hnl hc.1 hc.2
      have hfn := hfl n hnl
      rw [over_at (by rw [hfn, hlen]; omega) _ (by rw [hlen]; omega), hfn]
      by_cases e : n = i
      · subst e
        rw [if_pos (by omega)]
        congr 1
        omega
      · have hlt : i < n := by omega
        have ihk := ih hlt (by omega) k hk
        have hgi := getElem?_getD p.frags frg0 i hi
        have hgn := getElem?_getD p.frags frg0 n hnl
        have lgi : M.long (p.frags.getD i frg0) = (p.frags.getD i frg0).bytes.length := by unfold M.long M.lng; rw [if_neg (by omega)]
        have lgn : M.long (p.frags.getD n frg0) = (p.frags.getD n frg0).bytes.length := by unfold M.long M.lng; rw [if_neg (by omega)]
        obtain ⟨ci, hci, ci1, ci5, ci3, ci4, ci6⟩ := frag_in hp ha hi
        obtain ⟨cn, hcn, cn1, cn5, cn3, cn4, cn6⟩ := frag_in hp ha hnl
        have apart : (M.layAll p base).frags.getD i 0 + (p.frags.getD i frg0).bytes.length ≤ (M.layAll p base).frags.getD n 0 ∨ (M.layAll p base).frags.getD n 0 + (p.frags.getD n frg0).bytes.length ≤ (M.layAll p base).frags.getD i 0 ∨ ((p.frags.getD n frg0).bytes = (p.frags.getD i frg0).bytes ∧ (M.layAll p base).frags.getD n 0 = (M.layAll p base).frags.getD i 0 ∧ (p.frags.getD n frg0).sect = 3 ∧ (p.frags.getD i frg0).sect = 3) := by
          have mono : ∀ x y : Nat, 1 ≤ x → x < y → y ≤ 5 → (M.layAll p base).ti x ≤ (M.layAll p base).fr y := by
            have n1 : (M.layAll p base).ti 1 ≤ (M.layAll p base).fr 2 := ha.frN 1 (by decide) (by decide)
            have n2 : (M.layAll p base).ti 2 ≤ (M.layAll p base).fr 3 := ha.frN 2 (by decide) (by decide)
            have n3 : (M.layAll p base).ti 3 ≤ (M.layAll p base).fr 4 := ha.frN 3 (by decide) (by decide)
            have n4 : (M.layAll p base).ti 4 ≤ (M.layAll p base).fr 5 := ha.frN 4 (by decide) (by decide)
            have t2 := ha.ti 2 (by decide) (by decide)
            have t3 := ha.ti 3 (by decide) (by decide)
            have t4 := ha.ti 4 (by decide) (by decide)
            intro x y hx hxy hy
            have hxc : x = 1 ∨ x = 2 ∨ x = 3 ∨ x = 4 := by omega
            have hyc : y = 2 ∨ y = 3 ∨ y = 4 ∨ y = 5 := by omega
            rcases hxc with rfl | rfl | rfl | rfl <;> rcases hyc with rfl | rfl | rfl | rfl <;> omega
          by_cases hs : ci = cn
          · subst hs
            by_cases h3 : ci = 3
            · subst h3
              have tw := ha.twin n i _ _ hgn hgi hcn hci
              rcases tw with ⟨t1, t2⟩ | t | t
              · exact .inr (.inr ⟨t1, t2, hcn, hci⟩)
              · exact .inl t
              · exact .inr (.inl t)
            · have ap := (ha.apart n i _ _ hlt hgn hgi (by rw [hci, hcn])).1 (by rw [hcn]; omega)
              rw [lgi] at ap
              exact .inl ap
          · by_cases hlt2 : ci < cn
            · have := mono ci cn ci1 hlt2 cn5
              exact .inl (by omega)
            · have := mono cn ci cn1 (by omega) ci5
              exact .inr (.inl (by omega))
        rcases apart with h | h | ⟨t1, t2, t3, t4⟩
        · rw [if_neg (by omega)]; exact ihk
        · rw [if_neg (by omega)]; exact ihk
        · have f3 : ∀ j, j < p.frags.length → (p.frags.getD j frg0).sect = 3 → M.filled p (M.layAll p base) j (p.frags.getD j frg0) = (p.frags.getD j frg0).bytes := fun j hj h3 => by
            have hform := (M.frag_parts (M.frag_ok hp (getD_mem p.frags frg0 j hj))).2.2.2.1
            unfold M.formed at hform
            rw [if_neg (by omega), if_pos h3] at hform
            simp only [Bool.and_eq_true, beq_iff_eq] at hform
            have := List.eq_nil_of_length_eq_zero hform.2
            unfold M.filled
            rw [this]; rfl
          rw [f3 n hnl t3, f3 i hi t4, t1, t2, if_pos (by omega)]
          congr 1
          omega
    · rw [segStep_out hc]
      have hne : n ≠ i := fun e => by subst e; exact hc ⟨h1, h2⟩
      exact ih (by omega) (by omega) k hk

/-- a fragment's bytes, loaded -/
theorem img_row {p : M.Prt} {base : Int} {s : ByteArray} (hp : M.Ok p) (ha : M.Apart p base) (hfl : ∀ i, i < p.frags.length → (M.filled p (M.layAll p base) i (p.frags.getD i frg0)).length = (p.frags.getD i frg0).bytes.length) {i : Nat} (hi : i < p.frags.length) (h5 : (p.frags.getD i frg0).sect ≠ 5) :
    ∀ k : Nat, k < (p.frags.getD i frg0).bytes.length → M.thereAt (M.image p (M.layAll p base) s).segs ((M.layAll p base).frags.getD i 0 + (k : Int)) = true ∧ M.byteIn (M.image p (M.layAll p base) s).segs ((M.layAll p base).frags.getD i 0 + (k : Int)) = (M.filled p (M.layAll p base) i (p.frags.getD i frg0)).getD k 0 := by
  intro k hk
  obtain ⟨c, hc, c1, c5, c3, c4, c6⟩ := frag_in hp ha hi
  have lgi : M.long (p.frags.getD i frg0) = (p.frags.getD i frg0).bytes.length := by unfold M.long M.lng; rw [if_neg h5]
  obtain ⟨a1, a2⟩ := img_at (s := s) ha c1 c5 (a := (M.layAll p base).frags.getD i 0 + (k : Int)) (by omega) (by omega)
  refine ⟨a1, ?_⟩
  obtain ⟨e1, e2, e3, b1, b2, b3⟩ := ends_of ha
  have t2 := ha.ti 2 (by decide) (by decide)
  have t3 := ha.ti 3 (by decide) (by decide)
  have n2 : (M.layAll p base).ti 2 ≤ (M.layAll p base).fr 3 := ha.frN 2 (by decide) (by decide)
  have hin : ∀ (a z : Nat), ((a = 1 ∧ z = 1) ∨ (a = 2 ∧ z = 3) ∨ (a = 4 ∧ z = 4)) → ∀ j, j < p.frags.length → (a : Int) ≤ (p.frags.getD j frg0).sect → (p.frags.getD j frg0).sect ≤ z → (M.layAll p base).fr a ≤ (M.layAll p base).frags.getD j 0 ∧ (M.layAll p base).frags.getD j 0 + (p.frags.getD j frg0).bytes.length ≤ (M.layAll p base).ti z := fun a z haz j hj g1 g2 => by
    obtain ⟨d, hd, d1, d5, d3, d4, d6⟩ := frag_in hp ha hj
    have lgj : M.long (p.frags.getD j frg0) = (p.frags.getD j frg0).bytes.length := by unfold M.long M.lng; rw [if_neg (by omega)]
    rcases haz with ⟨rfl, rfl⟩ | ⟨rfl, rfl⟩ | ⟨rfl, rfl⟩
    · obtain rfl : d = 1 := by omega
      omega
    · have hdc : d = 2 ∨ d = 3 := by omega
      rcases hdc with rfl | rfl <;> omega
    · obtain rfl : d = 4 := by omega
      omega
  have fin : ∀ (a z : Nat) (sg : M.Seg), ((a = 1 ∧ z = 1) ∨ (a = 2 ∧ z = 3) ∨ (a = 4 ∧ z = 4)) → (a : Int) ≤ (p.frags.getD i frg0).sect → (p.frags.getD i frg0).sect ≤ z → segOf p (M.layAll p base) c = sg → sg.pos = (M.layAll p base).fr a → sg.bytes = M.segBytes p (M.layAll p base) a z → M.byteIn (M.image p (M.layAll p base) s).segs ((M.layAll p base).frags.getD i 0 + (k : Int)) = (M.filled p (M.layAll p base) i (p.frags.getD i frg0)).getD k 0 := fun a z sg haz g1 g2 g3 g4 g5 => by
    have hpi := hin a z haz i hi g1 g2
    have hz4 : z ≤ 4 := by omega
    have hlen := segB_len p (M.layAll p base) a z
    have key := segN_at (s := s) hp ha hfl hz4 (segOk_of hp ha haz) (hin a z haz) hi g1 g2 p.frags.length hi (Nat.le_refl _) k hk
    unfold M.byteIn M.byteOf
    rw [a2, g3, g4, g5, if_pos (by rw [hlen]; omega)]
    have ei : ((M.layAll p base).frags.getD i 0 + (k : Int) - (M.layAll p base).fr a).toNat = ((M.layAll p base).frags.getD i 0 - (M.layAll p base).fr a).toNat + k := by omega
    rw [ei]
    exact key
  have hcc : c = 1 ∨ c = 2 ∨ c = 3 ∨ c = 4 := by omega
  rcases hcc with rfl | rfl | rfl | rfl
  · exact fin 1 1 _ (.inl ⟨rfl, rfl⟩) (by omega) (by omega) rfl rfl rfl
  · exact fin 2 3 _ (.inr (.inl ⟨rfl, rfl⟩)) (by omega) (by omega) rfl rfl rfl
  · exact fin 2 3 _ (.inr (.inl ⟨rfl, rfl⟩)) (by omega) (by omega) rfl rfl rfl
  · exact fin 4 4 _ (.inr (.inr ⟨rfl, rfl⟩)) (by omega) (by omega) rfl rfl rfl

/-- what LinkPlaces asks of an image that was linked -/
structure Places (p : M.Prt) (base : Int) (s : ByteArray) (im : M.Img) : Prop where
  ck : M.checkPart p = 0
  bd : ∀ x ∈ (M.layAll p base).frags, 0 ≤ x ∧ x ≤ 65536
  lay : M.lay p base = (M.layAll p base, 0)
  lenF : (M.layAll p base).frags.length = p.frags.length
  lenN : (M.layAll p base).names.length ≤ 1000
  ent : M.whereOf p (M.layAll p base) s = (im.entry, 0)
  pos : ∀ i : Nat, i < p.frags.length → 0 ≤ (M.layAll p base).frags.getD i 0 ∧ (M.layAll p base).frags.getD i 0 ≤ 65536 ∧ (p.frags.getD i frg0).bytes.length ≤ 64 ∧ (p.frags.getD i frg0).rels.length ≤ 8
  row : ∀ i : Nat, i < p.frags.length → (∀ b ∈ (p.frags.getD i frg0).bytes, 0 ≤ b ∧ b < 256) → (p.frags.getD i frg0).sect ≠ 5 → ∃ B, M.rangeErr im ((M.layAll p base).frags.getD i 0) ((p.frags.getD i frg0).bytes.length : Nat) = 0 ∧ M.range im ((M.layAll p base).frags.getD i 0) ((p.frags.getD i frg0).bytes.length : Nat) = B ∧ Place p (M.layAll p base) i (p.frags.getD i frg0) B

theorem places_of {p : M.Prt} {base : Int} {s : ByteArray} {im : M.Img} (hby : ∀ f ∈ p.frags, ∀ b ∈ f.bytes, 0 ≤ b ∧ b < 256) (h : M.link p base s = (im, [], 0)) : Places p base s im := by
  have hlo := loads_of h
  obtain ⟨hck, hn, hl, ha, h0, hf, rfl⟩ := link_inv h
  have hp := (M.ok_iff p).1 hck
  have hnf : M.nameFaults p s = [] := (List.append_eq_nil_iff.1 hf).1
  have hfs := (nameFaults_nil hnf).1
  obtain ⟨w1, w2, w3⟩ := where_ok hp ha hfs
  have hfl : ∀ i, i < p.frags.length → (M.filled p (M.layAll p base) i (p.frags.getD i frg0)).length = (p.frags.getD i frg0).bytes.length := fun i hi => (filled_place hp ha hf hi (hby _ (getD_mem p.frags frg0 i hi))).len
  refine ⟨hck, (lkOk_of hck ha).bd, hl, ha.lenF, Nat.le_trans (names_few hp base) (by decide), Prod.ext rfl w1, fun i hi => ?_, fun i hi hb h5 => ?_⟩
  · have h1 := hlo.pos i hi
    have hparts := M.frag_parts (M.frag_ok hp (getD_mem p.frags frg0 i hi))
    exact ⟨h1.1, by omega, hparts.2.1, hparts.2.2.1⟩
  · have h1 := hlo.pos i hi
    have hparts := M.frag_parts (M.frag_ok hp (getD_mem p.frags frg0 i hi))
    have hrow := img_row (s := s) hp ha hfl hi h5
    have hpl := filled_place hp ha hf hi hb
    obtain ⟨r1, r2⟩ := rangeErr_0 (m := M.image p (M.layAll p base) s) (a := (M.layAll p base).frags.getD i 0) (n := (p.frags.getD i frg0).bytes.length) hlo.chk (lwithin_iff.2 (by omega)) (lwithin_iff.2 (by omega)) (fun k hk => (hrow k hk).1)
    refine ⟨_, r1, r2, ?_⟩
    have e : M.rowOf (M.image p (M.layAll p base) s).segs ((M.layAll p base).frags.getD i 0) (p.frags.getD i frg0).bytes.length = M.filled p (M.layAll p base) i (p.frags.getD i frg0) := by
      refine M.getD_ext (by rw [hpl.len]; simp [M.rowOf]) fun k hk => ?_
      have hk' : k < (p.frags.getD i frg0).bytes.length := by simpa [M.rowOf] using hk
      rw [← (hrow k hk').2, rowOf_getD _ _ hk']
    rw [e]
    exact hpl

end Go.Proofs.Ytabkbicaignicaa
