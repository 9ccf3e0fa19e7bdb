/-
  What is lost, doubled and arrives twice: the mathematics.
-/
import Derived.Test.YtmlojlbmfceogaaFmOk2
import Derived.Test.YtmlojlbmfceogaaFmMd
namespace Go.Proofs.Ytmlojlbmfceogaa.M

/-- with the message at k a second time, behind all others -/
def dbl (f : Farm) (k : Nat) : Farm := { f with net := f.net ++ [f.net.getD k msg0] }
theorem step_ok {f g : Farm} (h : FarmOk f) {x : Hap} (hx : happen f x = (g, 0)) : step f x = (g, 0) := by
  unfold step
  rw [if_pos ((farm_iff f).2 h), hx, if_pos rfl]
theorem happen_to (f : Farm) (kd k : Int) (h : kd = 3 ∨ kd = 4 ∨ kd = 5) : happen f ⟨kd, 0, k⟩ = happenTo f ⟨kd, 0, k⟩ := by
  unfold happen
  rw [if_neg (show ¬ (kd = 1 ∨ kd = 2 ∨ kd = 7) by omega), if_pos (show kd = 3 ∨ kd = 4 ∨ kd = 5 from h)]
theorem in_net {f : Farm} {k : Nat} (hk : k < f.net.length) : inR (k : Int) 0 ((f.net.length : Int) - 1) = true := (inR_iff _ _ _).2 (by omega)
theorem lose_to {f : Farm} {k : Nat} (hk : k < f.net.length) : happen f ⟨4, 0, k⟩ = (taken f k, 0) := by
  rw [happen_to f 4 k (by decide)]
  unfold happenTo
  rw [show inR (Hap.mk 4 0 (k : Int)).k 0 ((f.net.length : Int) - 1) = true from in_net hk, cond_true, if_neg (show ¬ (4 : Int) = 5 by decide), if_neg (show ¬ (4 : Int) = 3 by decide)]
  rfl
theorem arrive_to {f : Farm} {k : Nat} (hk : k < f.net.length) : happen f ⟨3, 0, k⟩ = (arriveM (taken f k) (f.net.getD k msg0), 0) := by
  rw [happen_to f 3 k (by decide)]
  unfold happenTo
  rw [show inR (Hap.mk 3 0 (k : Int)).k 0 ((f.net.length : Int) - 1) = true from in_net hk, cond_true, if_neg (show ¬ (3 : Int) = 5 by decide), if_pos rfl]
  rfl
theorem net_lose {f : Farm} (h : FarmOk f) {k : Nat} (hk : k < f.net.length) : step f ⟨4, 0, k⟩ = (taken f k, 0) := step_ok h (lose_to hk)
theorem net_full {f : Farm} (h : FarmOk f) {k : Nat} (hk : k < f.net.length) (hl : 20 ≤ f.net.length) : step f ⟨5, 0, k⟩ = (farm0, 10) := by
  have e : happen f ⟨5, 0, k⟩ = (f, 10) := by
    rw [happen_to f 5 k (by decide)]
    unfold happenTo
    rw [show inR (Hap.mk 5 0 (k : Int)).k 0 ((f.net.length : Int) - 1) = true from in_net hk, cond_true, if_pos rfl, if_pos hl]
  unfold step
  rw [if_pos ((farm_iff f).2 h), e, if_neg (show ¬ (10 : Int) = 0 by decide)]
theorem net_double {f : Farm} (h : FarmOk f) {k : Nat} (hk : k < f.net.length) (hl : ¬ 20 ≤ f.net.length) : step f ⟨5, 0, k⟩ = (dbl f k, 0) := by
  refine step_ok h ?_
  rw [happen_to f 5 k (by decide)]
  unfold happenTo
  rw [show inR (Hap.mk 5 0 (k : Int)).k 0 ((f.net.length : Int) - 1) = true from in_net hk, cond_true, if_pos rfl, if_neg hl]
  rfl
theorem dbl_ok {f : Farm} (h : FarmOk f) {k : Nat} (hk : k < f.net.length) (hl : ¬ 20 ≤ f.net.length) : FarmOk (dbl f k) :=
  ⟨h.plan, h.done, h.got, h.grants, h.work1, h.work4, h.now0, h.now1, by show (f.net ++ [_]).length ≤ 20; rw [List.length_append]; simp only [List.length_singleton]; omega, h.parts, h.gots, h.works, h.grts, fun m hm => by
    rcases List.mem_append.1 hm with hm | hm
    · exact h.nets m hm
    · rw [List.mem_singleton] at hm
      rw [hm]
      exact h.nets _ (getD_mem' f.net msg0 k hk)⟩
theorem erase_last {α : Type} (l : List α) (a : α) : (l ++ [a]).eraseIdx l.length = l := by
  rw [List.eraseIdx_append_of_length_le (Nat.le_refl _), Nat.sub_self]
  simp
theorem net_back {f : Farm} (h : FarmOk f) {k : Nat} (hk : k < f.net.length) (hl : ¬ 20 ≤ f.net.length) : step (dbl f k) ⟨4, 0, (f.net.length : Int)⟩ = (f, 0) := by
  have hd : f.net.length < (dbl f k).net.length := by show _ < (f.net ++ [_]).length; rw [List.length_append]; simp
  refine step_ok (dbl_ok h hk hl) ?_
  rw [lose_to hd]
  show ({ f with net := (f.net ++ [f.net.getD k msg0]).eraseIdx f.net.length }, (0 : Int)) = (f, 0)
  rw [erase_last]
theorem getD_app_last {α : Type} (l : List α) (a d : α) : (l ++ [a]).getD l.length d = a := by
  rw [List.getD_eq_getElem?_getD]; simp
theorem arrive_new (f : Farm) {m : Msg} (hm : m.kind = 2) (h : f.done.getD m.n.toNat false = false) : arriveM f m = { f with done := f.done.set m.n.toNat true, got := f.got.set m.n.toNat m.p, grants := f.grants.set m.n.toNat grt0 } := by
  unfold arriveM
  rw [if_neg (by rw [hm]; decide), if_pos hm, if_pos h]
theorem arrive_old (f : Farm) {m : Msg} (hm : m.kind = 2) (h : f.done.getD m.n.toNat false = true) : arriveM f m = f := by
  unfold arriveM
  rw [if_neg (by rw [hm]; decide), if_pos hm, if_neg (by rw [h]; decide)]
theorem net_twice {f : Farm} (h : FarmOk f) {k : Nat} (hk : k < f.net.length) (hl : ¬ 20 ≤ f.net.length) (hm : (f.net.getD k msg0).kind = 2) :
    ∃ o t, step f ⟨3, 0, k⟩ = (o, 0) ∧ step (dbl f k) ⟨3, 0, k⟩ = (t, 0) ∧ step t ⟨3, 0, (f.net.length : Int) - 1⟩ = (o, 0) := by
  have hd := dbl_ok h hk hl
  have hkd : k < (dbl f k).net.length := by show _ < (f.net ++ [_]).length; rw [List.length_append]; simp; omega
  have hmo := (h.nets _ (getD_mem' f.net msg0 k hk)).1
  have e1 := arrive_to hk
  have e2 := arrive_to hkd
  have hg : (dbl f k).net.getD k msg0 = f.net.getD k msg0 := by
    show (f.net ++ [_]).getD k msg0 = _
    rw [List.getD_eq_getElem?_getD, List.getD_eq_getElem?_getD, List.getElem?_append_left hk]
  have hed : (f.net ++ [f.net.getD k msg0]).eraseIdx k = f.net.eraseIdx k ++ [f.net.getD k msg0] := List.eraseIdx_append_of_lt_length hk _
  have ed : taken (dbl f k) k = { f with net := f.net.eraseIdx k ++ [f.net.getD k msg0] } := by
    show ({ f with net := (f.net ++ [f.net.getD k msg0]).eraseIdx k } : Farm) = _
    rw [hed]
  rw [hg, ed] at e2
  have hn : (f.net.getD k msg0).n.toNat < f.done.length := by
    unfold msgOk at hmo
    simp only [Bool.and_eq_true] at hmo
    have := (inR_iff _ _ _).1 hmo.2.2
    have := h.done
    omega
  have hOt := happen_ok hd (fun n hn => node_leaf hd hn) ⟨3, 0, (k : Int)⟩
  rw [e2] at hOt
  refine ⟨_, _, step_ok h e1, step_ok hd e2, ?_⟩
  have hel : (f.net.eraseIdx k).length = f.net.length - 1 := List.length_eraseIdx_of_lt hk
  clear e1 e2 hg hed ed
  generalize f.net.getD k msg0 = m at *
  -- the message arrives once
  have a1 : ∃ D G R, arriveM (taken f k) m = { f with done := D, got := G, grants := R, net := f.net.eraseIdx k } ∧ arriveM { f with net := f.net.eraseIdx k ++ [m] } m = { f with done := D, got := G, grants := R, net := f.net.eraseIdx k ++ [m] } ∧ D.getD m.n.toNat false = true := by
    by_cases hq : f.done.getD m.n.toNat false = false
    · refine ⟨f.done.set m.n.toNat true, f.got.set m.n.toNat m.p, f.grants.set m.n.toNat grt0, ?_, ?_, ?_⟩
      · rw [arrive_new _ hm (show (taken f k).done.getD m.n.toNat false = false from hq)]; rfl
      · exact arrive_new { f with net := f.net.eraseIdx k ++ [m] } hm hq
      · rw [List.getD_eq_getElem?_getD, List.getElem?_set, if_pos rfl, if_pos hn]; rfl
    · have hq' : f.done.getD m.n.toNat false = true := by simpa using hq
      refine ⟨f.done, f.got, f.grants, ?_, ?_, hq'⟩
      · rw [arrive_old _ hm (show (taken f k).done.getD m.n.toNat false = true from hq')]; rfl
      · exact arrive_old { f with net := f.net.eraseIdx k ++ [m] } hm hq'
  obtain ⟨D, G, R, a1, a2, a3⟩ := a1
  rw [a2] at hOt ⊢
  rw [a1]
  refine step_ok hOt ?_
  have hlast : f.net.length - 1 < ({ f with done := D, got := G, grants := R, net := f.net.eraseIdx k ++ [m] } : Farm).net.length := by
    show _ < (f.net.eraseIdx k ++ [m]).length
    rw [List.length_append, hel]; simp
  have := arrive_to hlast
  rw [show ((f.net.length - 1 : Nat) : Int) = (f.net.length : Int) - 1 by omega] at this
  rw [this]
  show (arriveM { f with done := D, got := G, grants := R, net := (f.net.eraseIdx k ++ [m]).eraseIdx (f.net.length - 1) } ((f.net.eraseIdx k ++ [m]).getD (f.net.length - 1) msg0), (0 : Int)) = _
  rw [← hel, getD_app_last, erase_last]
  rw [arrive_old _ hm a3]

end Go.Proofs.Ytmlojlbmfceogaa.M
