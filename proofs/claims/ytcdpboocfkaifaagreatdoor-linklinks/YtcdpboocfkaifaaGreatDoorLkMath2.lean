/-
  Plain mathematics: a name that counts is found by halving; where it stands; what moves when the base does.
-/
import Derived.Test.YtcdpboocfkaifaaGreatDoorLkMM
import Derived.Test.YtcdpboocfkaifaaGreatDoorMathC
namespace Go.Proofs.YtcdpboocfkaifaaGreatDoor
open Go Go.RowKit
set_option linter.unusedVariables false

/-- where a name that counts stands -/
theorem where_ok {p : M.Prt} {base : Int} (hp : M.Ok p) (ha : M.Apart p base) {s : ByteArray} (h0 : (M.find p.defs s).2 = 0) :
    (M.whereOf p (M.layAll p base) s).2 = 0 ∧ 0 ≤ (M.whereOf p (M.layAll p base) s).1 ∧ (M.whereOf p (M.layAll p base) s).1 ≤ 65536 := by
  have hti := fun i h1 h2 => ha.ti i h1 h2
  unfold M.whereOf
  by_cases hk : (M.find p.defs s).1.kind = 3
  · have hm : s ∈ (M.layAll p base).names := by
      show s ∈ (M.commons p (M.secN p.frags base 5).2).names
      exact com_mem p.defs (M.defined p) _ s (.inr ⟨(M.rising_mem _ s).2 (find_defined h0), h0, hk⟩)
    obtain ⟨f1, f2, f3⟩ := found_at ha.strict hm
    have hc := ha.com _ _ f3
    have h5 := hti 5 (by decide) (by decide)
    have hcl : M.halve (M.layAll p base).names s < (M.layAll p base).coms.length := by rw [← ha.lenN]; exact f2
    have hsz := hc.2.2.1.size0
    have e : M.whereIn (M.find p.defs s).1 (M.find p.defs s).2 (M.layAll p base).frags (M.layAll p base).names (M.layAll p base).coms s = ((M.layAll p base).coms.getD (M.halve (M.layAll p base).names s) 0, 0) := by
      unfold M.whereIn M.commonIn
      rw [if_pos h0, if_pos hk, if_pos f1, if_pos hcl]
    rw [e]
    exact ⟨rfl, by show 0 ≤ (M.layAll p base).coms.getD (M.halve (M.layAll p base).names s) 0; omega, by show (M.layAll p base).coms.getD (M.halve (M.layAll p base).names s) 0 ≤ 65536; omega⟩
  · obtain ⟨b0, b1, b2, b3, b4⟩ := M.find_stands hp h0 hk
    have e := whereIn_frag (N := (M.layAll p base).names) (C := (M.layAll p base).coms) (s := s) h0 hk (F := (M.layAll p base).frags) (by rw [ha.lenF]; exact b1)
    rw [e]
    obtain ⟨k, _, k1, k2, k3, k4, k5⟩ := frag_in hp ha (i := (M.find p.defs s).1.frag.toNat) (by omega)
    have h5 := hti k k1 k2
    exact ⟨rfl, by show 0 ≤ (M.layAll p base).frags.getD (M.find p.defs s).1.frag.toNat 0 + (M.find p.defs s).1.pos; omega, by show (M.layAll p base).frags.getD (M.find p.defs s).1.frag.toNat 0 + (M.find p.defs s).1.pos ≤ 65536; omega⟩

theorem where_moved {p : M.Prt} {base : Int} (hp : M.Ok p) (ha : M.Apart p base) (hm : M.Moved p base 1) {s : ByteArray} (h0 : (M.find p.defs s).2 = 0) :
    (M.whereOf p (M.layAll p (base + 16 * 1)) s).1 = (M.whereOf p (M.layAll p base) s).1 + 16 := by
  unfold M.whereOf
  by_cases hk : (M.find p.defs s).1.kind = 3
  · have hmm : s ∈ (M.layAll p base).names := by
      show s ∈ (M.commons p (M.secN p.frags base 5).2).names
      exact com_mem p.defs (M.defined p) _ s (.inr ⟨(M.rising_mem _ s).2 (find_defined h0), h0, hk⟩)
    obtain ⟨f1, f2, f3⟩ := found_at ha.strict hmm
    have hcl : M.halve (M.layAll p base).names s < (M.layAll p base).coms.length := by rw [← ha.lenN]; exact f2
    have e : ∀ C : List Int, M.halve (M.layAll p base).names s < C.length → M.whereIn (M.find p.defs s).1 (M.find p.defs s).2 (M.layAll p base).frags (M.layAll p base).names C s = (C.getD (M.halve (M.layAll p base).names s) 0, 0) := fun C hC => by
      unfold M.whereIn M.commonIn
      rw [if_pos h0, if_pos hk, if_pos f1, if_pos hC]
    have e2 : ∀ F F' C, M.whereIn (M.find p.defs s).1 (M.find p.defs s).2 F (M.layAll p base).names C s = M.whereIn (M.find p.defs s).1 (M.find p.defs s).2 F' (M.layAll p base).names C s := fun F F' C => by
      unfold M.whereIn
      rw [if_pos h0, if_pos hk, if_pos h0, if_pos hk]
    rw [hm.names, hm.coms, e2 _ (M.layAll p base).frags, e _ (by rw [List.length_map]; exact hcl), e _ hcl]
    show ((M.layAll p base).coms.map (· + 16 * 1)).getD (M.halve (M.layAll p base).names s) 0 = (M.layAll p base).coms.getD (M.halve (M.layAll p base).names s) 0 + 16
    rw [List.getD_eq_getElem?_getD, List.getElem?_map, List.getElem?_eq_getElem hcl, List.getD_eq_getElem?_getD, List.getElem?_eq_getElem hcl]
    rfl
  · obtain ⟨b0, b1, b2, b3, b4⟩ := M.find_stands hp h0 hk
    have hl : ∀ b', (M.layAll p b').frags.length = p.frags.length := fun b' => M.secN_len _ _ _
    rw [whereIn_frag (N := (M.layAll p (base + 16 * 1)).names) (C := (M.layAll p (base + 16 * 1)).coms) (s := s) h0 hk (F := (M.layAll p (base + 16 * 1)).frags) (by rw [hl]; exact b1), whereIn_frag (N := (M.layAll p base).names) (C := (M.layAll p base).coms) (s := s) h0 hk (F := (M.layAll p base).frags) (by rw [hl]; exact b1)]
    show (M.layAll p (base + 16 * 1)).frags.getD (M.find p.defs s).1.frag.toNat 0 + (M.find p.defs s).1.pos = (M.layAll p base).frags.getD (M.find p.defs s).1.frag.toNat 0 + (M.find p.defs s).1.pos + 16
    rw [hm.frags _ (by omega)]
    omega

end Go.Proofs.YtcdpboocfkaifaaGreatDoor
