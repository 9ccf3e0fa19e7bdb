/-
  What is joined is right; joining is associative; nothing joined with a part is that.
-/
import Derived.Test.YtebhbhbhcoijpaaPrtMath2
namespace Go.Proofs.Ytebhbhbhcoijpaa.M
set_option linter.unusedVariables false

theorem stays_get (l : List ByteArray) (fs : List Frg) (i : Nat) (f : Frg) (h : fs[i]? = some f) (hg : gone l f = false) : (stays l fs)[(stays l (fs.take i)).length]? = some f := by
  obtain ⟨hlt, hf⟩ := List.getElem?_eq_some_iff.1 h
  have hs : stays l fs = stays l (fs.take i) ++ f :: stays l (fs.drop (i + 1)) := by
    have : fs = fs.take i ++ f :: fs.drop (i + 1) := by
      rw [← hf, List.getElem_cons_drop, List.take_append_drop]
    conv => lhs; rw [this]
    rw [stays_append]
    congr 1
    simp [stays, hg]
  rw [hs]; simp

/-- a, and behind it b without the groups l -/
def put (a : Prt) (l : List ByteArray) (b : Prt) : Prt := plus a (moved (count l a.frags.length b.frags) b)

theorem put_frags (a b : Prt) (l : List ByteArray) : (put a l b).frags = a.frags ++ (stays l b.frags).map (movedFrg (count l a.frags.length b.frags)) := by
  show a.frags ++ movedFrags _ _ = _
  rw [movedFrags_eq l _ _ _ (by omega) rfl]

theorem movedRel_named {to : List Int} {r : Rel} (h : bare r.name = false) : movedRel to r = r := by unfold movedRel; rw [h]; rfl
theorem movedRel_gone {to : List Int} {r : Rel} (h : (r.frag == -1) = true) : movedRel to r = r := by unfold movedRel; rw [h]; simp
theorem movedRel_bare {to : List Int} {r : Rel} (h : bare r.name = true) (h2 : (r.frag == -1) = false) : movedRel to r = { r with frag := num to r.frag } := by unfold movedRel; rw [h, h2]; rfl

theorem plain_moved (to : List Int) (r : Rel) : plainRel (movedRel to r) = plainRel r := by
  unfold plainRel movedRel
  cases hb : bare r.name
  · simp [hb]
  · cases (r.frag == -1) <;> simp [hb]

theorem shaped_moved (to : List Int) (f : Frg) : shaped (movedFrg to f) = shaped f := by
  unfold shaped movedFrg
  simp only [List.map_map]
  congr 2
  congr 1
  funext r
  exact plain_moved to r

theorem plainDfn_moved (to : List Int) (d : Dfn) : plainDfn (movedDfn to d) = plainDfn d := by
  unfold movedDfn
  cases hk : (d.kind == 3)
  · have hk' : d.kind ≠ 3 := by simpa using hk
    simp [plainDfn, hk']
  · rfl

theorem long_moved (to : List Int) (f : Frg) : long (movedFrg to f) = long f := rfl

theorem ok_put {a b : Prt} {l : List ByteArray} (ha : Ok a) (hb : Ok b) (hf : full (put a l b) = false) : Ok (put a l b) := by
  have hfr := put_frags a b l
  simp only [full, Bool.or_eq_false_iff, decide_eq_false_iff_not] at hf
  have hlen : (put a l b).frags.length = a.frags.length + (stays l b.frags).length := by rw [hfr]; simp
  refine ⟨by omega, by omega, ?_, ?_, ?_, ?_⟩
  · intro f h
    rw [hfr, List.mem_append] at h
    rcases h with h | h
    · exact ha.shape f h
    · obtain ⟨g, hg, rfl⟩ := List.mem_map.1 h
      rw [shaped_moved]
      exact hb.shape g ((List.mem_filter.1 hg).1)
  · intro f h r hr
    rw [hlen]
    rw [hfr, List.mem_append] at h
    rcases h with h | h
    · intro h1
      have := ha.fits f h r hr h1
      push_cast; omega
    · obtain ⟨g, hg, rfl⟩ := List.mem_map.1 h
      obtain ⟨q, hq, rfl⟩ := List.mem_map.1 (show r ∈ g.rels.map (movedRel _) from hr)
      have h2 := hb.fits g ((List.mem_filter.1 hg).1) q hq
      cases hbr : bare q.name
      · rw [movedRel_named hbr]; intro h1; rw [hbr] at h1; cases h1
      · have h3 := h2 hbr
        cases h4 : (q.frag == -1)
        · rw [movedRel_bare hbr h4]
          rw [beq_eq_false_iff_ne] at h4
          have hlt : q.frag.toNat < b.frags.length := by omega
          intro _
          show -1 ≤ num (count l a.frags.length b.frags) q.frag ∧ num (count l a.frags.length b.frags) q.frag < ((a.frags.length + (stays l b.frags).length : Nat) : Int)
          rw [num_get l _ _ _ (by omega) _ (List.getElem?_eq_getElem hlt)]
          cases h5 : gone l b.frags[q.frag.toNat]
          · have := (List.getElem?_eq_some_iff.1 (stays_get l b.frags q.frag.toNat _ (List.getElem?_eq_getElem hlt) h5)).1
            rw [cond_false]
            omega
          · rw [cond_true]
            omega
        · rw [movedRel_gone h4]
          intro _
          have h4' : q.frag = -1 := by simpa using h4
          show -1 ≤ q.frag ∧ q.frag < ((a.frags.length + (stays l b.frags).length : Nat) : Int)
          omega
  · intro d h
    rcases List.mem_append.1 (show d ∈ a.defs ++ movedDefs _ _ from h) with h | h
    · exact ha.plain d h
    · obtain ⟨q, hq, rfl⟩ := List.mem_map.1 ((List.mem_filter.1 h).1)
      rw [plainDfn_moved]
      exact hb.plain q hq
  · intro d h
    rw [hfr]
    rcases List.mem_append.1 (show d ∈ a.defs ++ movedDefs _ _ from h) with h | h
    · intro hk
      obtain ⟨f, h1, h2, h3⟩ := ha.stands d h hk
      exact ⟨f, h1, by rw [List.getElem?_append_left (List.getElem?_eq_some_iff.1 h2).1]; exact h2, h3⟩
    · have hne := (List.mem_filter.1 h).2
      obtain ⟨q, hq, rfl⟩ := List.mem_map.1 ((List.mem_filter.1 h).1)
      intro hk
      have hkq : (q.kind == 3) = false := by
        unfold movedDfn at hk
        cases hq3 : (q.kind == 3)
        · rfl
        · rw [hq3, cond_true] at hk; rw [hq3] at hk; exact hk
      obtain ⟨f, h1, h2, h3⟩ := hb.stands q hq hkq
      have e1 : movedDfn (count l a.frags.length b.frags) q = { q with frag := num (count l a.frags.length b.frags) q.frag } := by unfold movedDfn; rw [hkq]; rfl
      rw [e1] at hne ⊢
      dsimp only at hne ⊢
      rw [num_get l _ _ _ h1 f h2] at hne ⊢
      cases h5 : gone l f
      · rw [cond_false]
        refine ⟨movedFrg (count l a.frags.length b.frags) f, by omega, ?_, h3⟩
        have e2 : ((a.frags.length : Int) + ((stays l (b.frags.take q.frag.toNat)).length : Int)).toNat = a.frags.length + (stays l (b.frags.take q.frag.toNat)).length := by omega
        rw [e2, List.getElem?_append_right (by omega), Nat.add_sub_cancel_left, List.getElem?_map, stays_get l b.frags _ f h2 h5]
        rfl
      · rw [h5] at hne; simp at hne

theorem num_left (xs ys : List Int) (i : Int) (h0 : 0 ≤ i) (h : i < xs.length) : num (xs ++ ys) i = num xs i := by
  unfold num
  rw [List.getD_eq_getElem?_getD, List.getElem?_append_left (by omega), ← List.getD_eq_getElem?_getD]
theorem num_right (xs ys : List Int) (i : Int) (h : (xs.length : Int) ≤ i) : num (xs ++ ys) i = num ys (i - xs.length) := by
  unfold num
  rw [List.getD_eq_getElem?_getD, List.getElem?_append_right (by omega), ← List.getD_eq_getElem?_getD]
  congr 1
  omega

/-- a number of the middle part, and then of the whole, is the whole's -/
theorem num_two {l m k : List ByteArray} (hk : ∀ f, gone k f = (gone l f || gone m f)) (fs : List Frg) (xs : List Int) (n : Int) (i : Int) (h0 : 0 ≤ i) (h : i < fs.length) :
    num (count k n fs) i = if num (count m xs.length fs) i = -1 then -1 else num (xs ++ count l n (stays m fs)) (num (count m xs.length fs) i) := by
  have hlt : i.toNat < fs.length := by omega
  have hg := List.getElem?_eq_getElem hlt
  have h1 := num_num hk fs xs.length n i h0 h
  have hd : fs.getD i.toNat ⟨0, 0, ⟨#[]⟩, [], 0, []⟩ = fs[i.toNat] := by rw [List.getD_eq_getElem?_getD, hg]; rfl
  rw [h1, hd]
  have h2 := num_get m fs xs.length i h0 _ hg
  cases h3 : gone m fs[i.toNat]
  · rw [h3, cond_false] at h2
    have hne : ¬ (num (count m xs.length fs) i = -1) := by rw [h2]; omega
    rw [if_neg (fun c => hne c.1), if_neg hne, num_right _ _ _ (by rw [h2]; omega)]
  · rw [h3, cond_true] at h2
    rw [if_pos ⟨h2, rfl⟩, if_pos h2]

theorem movedDefs_cons (to : List Int) (d : Dfn) (ds : List Dfn) : movedDefs to (d :: ds) = bif (movedDfn to d).frag == -1 then movedDefs to ds else movedDfn to d :: movedDefs to ds := by
  unfold movedDefs
  rw [List.map_cons, List.filter_cons]
  cases ((movedDfn to d).frag == -1) <;> simp

theorem put_assoc {a b c : Prt} (ha : Ok a) (hb : Ok b) (hc : Ok c) :
    put (put a (groups a.frags) b) (groups (put a (groups a.frags) b).frags) c = put a (groups a.frags) (put b (groups b.frags) c) := by
  have hx := put_frags a b (groups a.frags)
  have hy := put_frags b c (groups b.frags)
  have hk : ∀ f, gone (groups (put a (groups a.frags) b).frags) f = (gone (groups a.frags) f || gone (groups b.frags) f) := by
    intro f
    rw [hx]
    exact gone_plus _ _ _ f
  have hlen : ((put a (groups a.frags) b).frags.length : Int) = (a.frags.length : Int) + ((stays (groups a.frags) b.frags).length : Int) := by rw [hx]; simp
  generalize hgx : groups (put a (groups a.frags) b).frags = gx at *
  generalize hga : groups a.frags = ga at *
  generalize hgb : groups b.frags = gb at *
  have hty : count ga a.frags.length (put b gb c).frags = count ga a.frags.length b.frags ++ count ga ((put a ga b).frags.length : Int) (stays gb c.frags) := by
    rw [hy, count_append, count_map, hlen]
  have hxl : (count ga a.frags.length b.frags).length = b.frags.length := count_length _ _ _
  have hnum : ∀ i : Int, 0 ≤ i → i < c.frags.length → num (count gx ((put a ga b).frags.length : Int) c.frags) i = if num (count gb b.frags.length c.frags) i = -1 then -1 else num (count ga a.frags.length (put b gb c).frags) (num (count gb b.frags.length c.frags) i) := by
    intro i h0 h
    have := num_two hk c.frags (count ga a.frags.length b.frags) ((put a ga b).frags.length : Int) i h0 h
    rw [hxl] at this
    rw [hty]
    exact this
  have hleft : ∀ i : Int, 0 ≤ i → i < b.frags.length → num (count ga a.frags.length (put b gb c).frags) i = num (count ga a.frags.length b.frags) i := by
    intro i h0 h
    rw [hty, num_left _ _ _ h0 (by rw [hxl]; exact h)]
  have e1 : (put (put a ga b) gx c).frags = (put a ga (put b gb c)).frags := by
    rw [put_frags (put a ga b) c gx, put_frags a (put b gb c) ga, hy, stays_append, stays_map, stays_stays hk, List.map_append, List.map_map, hx, List.append_assoc, ← hy]
    congr 1
    congr 1
    · refine List.map_congr_left fun f hf => ?_
      have hf' := (List.mem_filter.1 hf).1
      unfold movedFrg
      congr 1
      refine List.map_congr_left fun r hr => ?_
      unfold movedRel
      cases hbr : bare r.name
      · rfl
      · cases h4 : (r.frag == -1)
        · have h3 := hb.fits f hf' r hr hbr
          rw [beq_eq_false_iff_ne] at h4
          rw [hleft _ (by omega) (by omega)]
        · rfl
    · refine List.map_congr_left fun f hf => ?_
      have hf' := (List.mem_filter.1 hf).1
      rw [← hx]
      unfold movedFrg
      simp only [Function.comp, List.map_map]
      congr 1
      refine List.map_congr_left fun r hr => ?_
      show movedRel _ r = movedRel _ (movedRel _ r)
      cases hbr : bare r.name
      · rw [movedRel_named hbr, movedRel_named hbr, movedRel_named hbr]
      · cases h4 : (r.frag == -1)
        · have h3 := hc.fits f hf' r hr hbr
          rw [movedRel_bare hbr h4, movedRel_bare hbr h4]
          rw [beq_eq_false_iff_ne] at h4
          rw [hnum _ (by omega) (by omega)]
          by_cases h5 : num (count gb b.frags.length c.frags) r.frag = -1
          · rw [if_pos h5, h5]
            exact (movedRel_gone rfl).symm
          · rw [if_neg h5]
            exact (movedRel_bare (r := { r with frag := num (count gb b.frags.length c.frags) r.frag }) hbr (by rw [beq_eq_false_iff_ne]; exact h5)).symm
        · rw [movedRel_gone h4, movedRel_gone h4, movedRel_gone h4]
  have e2 : (put (put a ga b) gx c).defs = (put a ga (put b gb c)).defs := by
    show (a.defs ++ movedDefs (count ga a.frags.length b.frags) b.defs) ++ movedDefs (count gx ((put a ga b).frags.length : Int) c.frags) c.defs = a.defs ++ movedDefs (count ga a.frags.length (put b gb c).frags) (b.defs ++ movedDefs (count gb b.frags.length c.frags) c.defs)
    have h1 : ∀ to (xs ys : List Dfn), movedDefs to (xs ++ ys) = movedDefs to xs ++ movedDefs to ys := fun to xs ys => by simp [movedDefs]
    rw [h1, List.append_assoc]
    congr 1
    congr 1
    · unfold movedDefs
      congr 1
      refine List.map_congr_left fun d hd => ?_
      unfold movedDfn
      cases h3 : (d.kind == 3)
      · obtain ⟨f, h4, h5, _⟩ := hb.stands d hd h3
        have := (List.getElem?_eq_some_iff.1 h5).1
        rw [cond_false, cond_false, hleft _ h4 (by omega)]
      · rfl
    · have key : ∀ ds : List Dfn, (∀ d ∈ ds, plainDfn d = 0 ∧ Stands c.frags d) → movedDefs (count gx ((put a ga b).frags.length : Int) c.frags) ds = movedDefs (count ga a.frags.length (put b gb c).frags) (movedDefs (count gb b.frags.length c.frags) ds) := by
        intro ds
        induction ds with
        | nil => intro _; rfl
        | cons d ds ih =>
          intro h
          rw [List.forall_mem_cons] at h
          have ih' := ih h.2
          obtain ⟨⟨hp, hs⟩, _⟩ := h
          rw [movedDefs_cons, movedDefs_cons (count gb _ _)]
          cases h3 : (d.kind == 3)
          · obtain ⟨f, h4, h5, _⟩ := hs h3
            have hlt := (List.getElem?_eq_some_iff.1 h5).1
            have em : ∀ to, movedDfn to d = { d with frag := num to d.frag } := fun to => by unfold movedDfn; rw [h3]; rfl
            rw [em, em]
            dsimp only
            rw [hnum _ h4 (by omega)]
            by_cases h6 : num (count gb b.frags.length c.frags) d.frag = -1
            · rw [if_pos h6, h6]; simpa using ih'
            · rw [if_neg h6]
              have h7 : (num (count gb b.frags.length c.frags) d.frag == -1) = false := by rw [beq_eq_false_iff_ne]; exact h6
              rw [h7, cond_false, movedDefs_cons]
              have em2 : movedDfn (count ga a.frags.length (put b gb c).frags) { d with frag := num (count gb b.frags.length c.frags) d.frag } = { d with frag := num (count ga a.frags.length (put b gb c).frags) (num (count gb b.frags.length c.frags) d.frag) } := by unfold movedDfn; dsimp only; rw [h3]; rfl
              rw [em2, ih']
          · have em : ∀ to, movedDfn to d = d := fun to => by unfold movedDfn; rw [h3]; rfl
            rw [em, em]
            cases h6 : (d.frag == -1)
            · rw [cond_false, cond_false, movedDefs_cons, em, h6, cond_false, ih']
            · rw [cond_true, cond_true, ih']
      exact key c.defs fun d hd => ⟨hc.plain d hd, hc.stands d hd⟩
  cases hl : put (put a ga b) gx c with
  | mk f1 d1 =>
    cases hr : put a ga (put b gb c) with
    | mk f2 d2 =>
      rw [hl, hr] at e1 e2
      exact congr (congrArg Prt.mk e1) e2

end Go.Proofs.Ytebhbhbhcoijpaa.M
