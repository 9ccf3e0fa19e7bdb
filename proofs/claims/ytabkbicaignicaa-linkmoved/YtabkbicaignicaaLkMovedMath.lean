/-
  Plain mathematics: linked sixteen addresses farther.
-/
import Derived.Test.YtabkbicaignicaaLkMath2
import Derived.Test.YtabkbicaignicaaLkLink
namespace Go.Proofs.Ytabkbicaignicaa
open Go Go.RowKit
set_option linter.unusedVariables false

/-- what an image was made of -/
theorem link_inv {p : M.Prt} {base : Int} {s : ByteArray} {im : M.Img} (h : M.link p base s = (im, [], 0)) :
    M.checkPart p = 0 ∧ M.isName s = true ∧ M.lay p base = (M.layAll p base, 0) ∧ M.Apart p base ∧ 0 ≤ base ∧ M.allFaults p (M.layAll p base) s = [] ∧ im = M.image p (M.layAll p base) s := by
  unfold M.link at h
  split at h
  · rename_i hck
    split at h
    · rename_i hn
      split at h
      · rename_i hl
        obtain ⟨_, hb, _, he, ha⟩ := lay_facts hl
        rw [he] at h
        split at h
        · rename_i hf
          have hf' := List.eq_nil_of_length_eq_zero hf
          cases h
          exact ⟨hck, hn, he, ha, hb, hf', rfl⟩
        · rename_i hf
          have h2 := congrArg (fun x => x.2.1) h
          simp only at h2
          exact absurd (by rw [h2]; rfl) hf
      · rename_i hl
        exact absurd (congrArg (fun x => x.2.2) h) hl
    · cases h
  · rename_i hck
    exact absurd (congrArg (fun x => x.2.2) h) hck

theorem nameFaults_nil {p : M.Prt} {s : ByteArray} (h : M.nameFaults p s = []) : (M.find p.defs s).2 = 0 ∧ M.named p = [] := by
  unfold M.nameFaults at h
  split at h
  · rename_i h0; exact ⟨h0, h⟩
  · split at h
    · rename_i h0 h1
      rw [h] at h1
      cases h1
    · simp at h

/-- what LinkMoved asks of two images -/
structure ImgMoved (m n : M.Img) : Prop where
  entry : n.entry = m.entry + 16
  e0 : 0 ≤ m.entry ∧ m.entry ≤ 65536
  len : m.segs.length = 3 ∧ n.segs.length = 3
  seg : ∀ k, k < 3 → (n.segs.getD k M.seg0).pos = (m.segs.getD k M.seg0).pos + 16 ∧ 0 ≤ (m.segs.getD k M.seg0).pos ∧ (m.segs.getD k M.seg0).pos ≤ 65536 ∧ (n.segs.getD k M.seg0).bytes.length = (m.segs.getD k M.seg0).bytes.length ∧
    (n.segs.getD k M.seg0).zeros = (m.segs.getD k M.seg0).zeros ∧ (n.segs.getD k M.seg0).writes = (m.segs.getD k M.seg0).writes ∧ (n.segs.getD k M.seg0).works = (m.segs.getD k M.seg0).works

theorem linkMoved_of {p : M.Prt} {base : Int} {s : ByteArray} {m n : M.Img} {fl : List Flt} {er : Int} (h : M.link p base s = (m, [], 0)) (hb : base ≤ 65504) (h' : M.link p (base + 16) s = (n, fl, er)) :
    (er = 0 ∨ er = 10) ∧ (er = 0 → fl = [] → ImgMoved m n) := by
  obtain ⟨hck, hn, hl, ha, h0, hf, rfl⟩ := link_inv h
  have hp := (M.ok_iff p).1 hck
  refine ⟨?_, fun he hfl => ?_⟩
  · by_cases hl2 : (M.lay p (base + 16)).2 = 0
    · have : (M.link p (base + 16) s).2.2 = 0 := by
        unfold M.link
        rw [if_pos hck, if_pos hn, if_pos hl2]
        split <;> rfl
      rw [h'] at this
      exact .inl this
    · have e := link_lay (p := p) (base := base + 16) hck hn hl2
      rw [h'] at e
      have e2 : er = (M.lay p (base + 16)).2 := congrArg (fun x => x.2.2) e
      rw [e2]
      unfold M.lay at hl2 ⊢
      rw [if_pos hck, if_neg (by omega)] at hl2 ⊢
      split
      · exact .inr rfl
      · exact .inl rfl
  · subst he
    subst hfl
    obtain ⟨_, _, hl', ha', _, hf', rfl⟩ := link_inv h'
    have hfr : ∀ f ∈ p.frags, M.FrgOk f := fun f hf => M.frgOk_of (hp.shape f hf)
    have hm : M.Moved p base 1 := M.layMoved hfr (fun x h1 h2 => (common_ok hp x h1 h2).align)
    have hnf : M.nameFaults p s = [] := (List.append_eq_nil_iff.1 hf).1
    have hfind := (nameFaults_nil hnf).1
    have hw := where_moved hp ha hm hfind
    have hwo := where_ok hp ha hfind
    have e16 : base + 16 * 1 = base + 16 := by omega
    have fr : ∀ i, 1 ≤ i → i ≤ 5 → (M.layAll p (base + 16)).fr i = (M.layAll p base).fr i + 16 := fun i h1 h2 => by have := hm.fr i h1 h2; rw [e16] at this; omega
    have ti : ∀ i, 1 ≤ i → i ≤ 5 → (M.layAll p (base + 16)).ti i = (M.layAll p base).ti i + 16 := fun i h1 h2 => by have := hm.ti i h1 h2; rw [e16] at this; omega
    rw [e16] at hw
    have t := fun i h1 h2 => ha.ti i h1 h2
    have sl : ∀ a z, 1 ≤ a → a ≤ 5 → 1 ≤ z → z ≤ 5 → (M.segBytes p (M.layAll p (base + 16)) a z).length = (M.segBytes p (M.layAll p base) a z).length := fun a z h1 h2 h3 h4 => by
      unfold M.segBytes
      rw [segN_len, segN_len, fr a h1 h2, ti z h3 h4]
      congr 1; omega
    refine ⟨hw, hwo.2, ⟨rfl, rfl⟩, fun k hk => ?_⟩
    have hk' : k = 0 ∨ k = 1 ∨ k = 2 := by omega
    have t1 := t 1 (by decide) (by decide)
    have t2 := t 2 (by decide) (by decide)
    have t4 := t 4 (by decide) (by decide)
    rcases hk' with rfl | rfl | rfl
    · exact ⟨fr 1 (by decide) (by decide), t1.2.2, by show (M.layAll p base).fr 1 ≤ 65536; omega, sl 1 1 (by decide) (by decide) (by decide) (by decide), rfl, rfl, rfl⟩
    · exact ⟨fr 2 (by decide) (by decide), t2.2.2, by show (M.layAll p base).fr 2 ≤ 65536; omega, sl 2 3 (by decide) (by decide) (by decide) (by decide), rfl, rfl, rfl⟩
    · refine ⟨fr 4 (by decide) (by decide), t4.2.2, by show (M.layAll p base).fr 4 ≤ 65536; omega, sl 4 4 (by decide) (by decide) (by decide) (by decide), ?_, rfl, rfl⟩
      show (M.layAll p (base + 16)).ti 5 - (M.layAll p (base + 16)).ti 4 = (M.layAll p base).ti 5 - (M.layAll p base).ti 4
      rw [ti 5 (by decide) (by decide), ti 4 (by decide) (by decide)]
      omega

end Go.Proofs.Ytabkbicaignicaa
