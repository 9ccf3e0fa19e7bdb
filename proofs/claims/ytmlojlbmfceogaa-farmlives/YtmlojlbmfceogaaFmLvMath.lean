/-
  A farm with one worker at a time does one node a round: the mathematics.
-/
import Derived.Test.YtmlojlbmfceogaaFmHnMath
import Derived.Test.YtmlojlbmfceogaaFmNtMath
namespace Go.Proofs.Ytmlojlbmfceogaa.M

theorem set_mapR {α : Type} (n k : Nat) (g : Nat → α) (v : α) : ((List.range n).map g).set k v = (List.range n).map (fun i => if i = k then v else g i) := by
  refine List.ext_getElem (by simp) fun i h1 h2 => ?_
  simp only [List.getElem_set, List.getElem_map, List.getElem_range]
  by_cases h : k = i
  · subst h; simp
  · rw [if_neg h, if_neg (Ne.symm h)]
theorem getD_mapR {α : Type} (n i : Nat) (g : Nat → α) (d : α) (h : i < n) : ((List.range n).map g).getD i d = g i := by
  rw [List.getD_eq_getElem?_getD]
  simp [h]
/-- the farm whose first k nodes are done -/
def lv (parts : List Prt) (l : List Nd) (wk : Nat) (E : List Prt) (k : Nat) : Farm :=
  ⟨parts, l, 0, (List.range l.length).map (fun i => decide (i < k)), (List.range l.length).map (fun i => if i < k then E.getD i nil else nil), List.replicate l.length grt0, List.replicate wk (-1), []⟩
theorem lv_new (parts : List Prt) (l : List Nd) (wk : Int) (E : List Prt) : newF parts l wk = lv parts l wk.toNat E 0 := by
  unfold newF lv
  congr 1
  · refine List.ext_getElem (by simp) fun i h1 h2 => by simp
  · refine List.ext_getElem (by simp) fun i h1 h2 => by simp
def lv1 (parts : List Prt) (l : List Nd) (wk : Nat) (E : List Prt) (k u : Nat) : Farm :=
  { lv parts l wk E k with grants := (List.replicate l.length grt0).set k ⟨u, 5⟩, net := [⟨1, u, k, nil⟩] }
def lv2 (parts : List Prt) (l : List Nd) (wk : Nat) (E : List Prt) (k u : Nat) : Farm :=
  { lv1 parts l wk E k u with net := [], work := (List.replicate wk (-1)).set u k }
def lv3 (parts : List Prt) (l : List Nd) (wk : Nat) (E : List Prt) (k u : Nat) : Farm :=
  { lv2 parts l wk E k u with net := [⟨2, u, k, E.getD k nil⟩], work := List.replicate wk (-1) }

theorem go_at (parts : List Prt) (E : List Prt) : ∀ (l : List Nd) (out : List Prt), evalGo parts out l = (E, 0) → E.length = out.length + l.length ∧ E.take out.length = out ∧
    ∀ j, j < l.length → join (evalLeft (E.take (out.length + j)) (l.getD j nd0)) (evalRight parts (E.take (out.length + j)) (l.getD j nd0)) = (E.getD (out.length + j) nil, 0)
  | [], out, h => by
    rw [evalGo] at h
    have : out = E := congrArg Prod.fst h
    subst this
    exact ⟨by simp, by simp, fun j hj => absurd hj (by simp)⟩
  | n :: l, out, h => by
    rw [evalGo] at h
    by_cases hj : (join (evalLeft out n) (evalRight parts out n)).2 = 0
    · rw [if_pos hj] at h
      obtain ⟨h1, h2, h3⟩ := go_at parts E l _ h
      rw [List.length_append, List.length_singleton] at h1 h2
      have ht : E.take out.length = out := by
        have := congrArg (List.take out.length) h2
        rw [List.take_take, Nat.min_eq_left (by omega), List.take_append_of_le_length (Nat.le_refl _), List.take_of_length_le (Nat.le_refl _)] at this
        exact this
      have hp : E.getD out.length nil = (join (evalLeft out n) (evalRight parts out n)).1 := by
        have := take_getD E nil (out.length + 1) out.length (by omega)
        rw [← this, h2, getD_app_last]
      refine ⟨by simp only [List.length_cons]; omega, ht, fun j hj' => ?_⟩
      cases j with
      | zero =>
        rw [Nat.add_zero, ht, hp]
        exact Prod.ext rfl hj
      | succ j =>
        have := h3 j (by simpa using hj')
        rw [List.length_append, List.length_singleton, show out.length + 1 + j = out.length + (j + 1) by omega] at this
        exact this
    · rw [if_neg hj] at h
      exact absurd (congrArg Prod.snd h) hj
theorem eval_at {l : List Nd} {parts E : List Prt} (h : eval l parts = (E, 0)) : checkPlan l parts.length = 0 ∧ checkEach parts = 0 ∧ E.length = l.length ∧
    ∀ j, j < l.length → join (evalLeft (E.take j) (l.getD j nd0)) (evalRight parts (E.take j) (l.getD j nd0)) = (E.getD j nil, 0) := by
  unfold eval at h
  by_cases h1 : checkPlan l parts.length = 0
  · rw [if_pos h1] at h
    by_cases h2 : checkEach parts = 0
    · rw [if_pos h2] at h
      obtain ⟨g1, -, g3⟩ := go_at parts E l [] h
      refine ⟨h1, h2, by simpa using g1, fun j hj => ?_⟩
      have := g3 j hj
      rw [List.length_nil, Nat.zero_add] at this
      exact this
    · rw [if_neg h2] at h; exact absurd (congrArg Prod.snd h) h2
  · rw [if_neg h1] at h; exact absurd (congrArg Prod.snd h) h1

section
variable {parts : List Prt} {l : List Nd} {wk : Nat} {E : List Prt} {k u : Nat}

theorem lv_made (h : eval l parts = (E, 0)) (hk : k < l.length) (f : Farm) (h1 : f.plan = l) (h2 : f.parts = parts) (h3 : f.done = (lv parts l wk E k).done) (h4 : f.got = (lv parts l wk E k).got) : madeP f k = (E.getD k nil, true) := by
  obtain ⟨hp, hc, hl, hj⟩ := eval_at h
  have hbe := behind_of (plan_parts hp).2.2.1
  have e := hj k hk
  unfold madeP
  rw [h1, h2, h3, h4]
  by_cases hlf : (l.getD k nd0).leaf = -1
  · rw [if_pos hlf]
    have hlf' : ((l.getD k nd0).leaf == -1) = true := by simpa using hlf
    have hb := hbe k hk hlf'
    have dL : (lv parts l wk E k).done.getD (l.getD k nd0).left.toNat false = true := by
      show ((List.range l.length).map _).getD _ false = true
      rw [getD_mapR _ _ _ _ (by omega)]; exact decide_eq_true (by omega)
    have dR : (lv parts l wk E k).done.getD (l.getD k nd0).right.toNat false = true := by
      show ((List.range l.length).map _).getD _ false = true
      rw [getD_mapR _ _ _ _ (by omega)]; exact decide_eq_true (by omega)
    have gL : (lv parts l wk E k).got.getD (l.getD k nd0).left.toNat nil = E.getD (l.getD k nd0).left.toNat nil := by
      show ((List.range l.length).map _).getD _ nil = _
      rw [getD_mapR _ _ _ _ (by omega), if_pos (by omega)]
    have gR : (lv parts l wk E k).got.getD (l.getD k nd0).right.toNat nil = E.getD (l.getD k nd0).right.toNat nil := by
      show ((List.range l.length).map _).getD _ nil = _
      rw [getD_mapR _ _ _ _ (by omega), if_pos (by omega)]
    unfold evalLeft evalRight at e
    rw [hlf', cond_true, cond_true, take_getD _ _ _ _ (by omega), take_getD _ _ _ _ (by omega)] at e
    rw [dL, dR, gL, gR, if_pos (show (true && true) = true from rfl), e]
    rfl
  · rw [if_neg hlf]
    have hlf' : ((l.getD k nd0).leaf == -1) = false := by simpa using hlf
    have hfit := fits_at parts.length l 0 k (plan_parts hp).2.2.1 hk
    unfold fits at hfit
    rw [hlf', cond_false] at hfit
    simp only [Bool.and_eq_true, decide_eq_true_eq] at hfit
    have hlt : (l.getD k nd0).leaf.toNat < parts.length := by omega
    have hok := (checkEach_ok parts).1 hc _ (getD_mem' parts nil _ hlt)
    unfold evalLeft evalRight at e
    rw [hlf', cond_false, cond_false, nil_join hok] at e
    have e1 := congrArg Prod.fst e
    simp only at e1
    rw [e1]
theorem lv_find (h : eval l parts = (E, 0)) (hk : k < l.length) : (ready (lv parts l wk E k).plan (lv parts l wk E k).done).find? (freeAt (lv parts l wk E k)) = some (k : Int) := by
  obtain ⟨hp, hc, hl, hj⟩ := eval_at h
  have hbe := behind_of (plan_parts hp).2.2.1
  have dn : ∀ i, i < l.length → (lv parts l wk E k).done.getD i false = decide (i < k) := fun i hi => getD_mapR _ _ _ _ hi
  have r0 : ∀ i ∈ List.range k, readyAt l (lv parts l wk E k).done i = false := fun i hi => by
    have hik := List.mem_range.1 hi
    unfold readyAt
    rw [dn i (by omega), decide_eq_true hik]; rfl
  have r1 : readyAt l (lv parts l wk E k).done k = true := by
    unfold readyAt
    rw [dn k hk, decide_eq_false (Nat.lt_irrefl k)]
    cases hlf : ((l.getD k nd0).leaf == -1)
    · rfl
    · have hb := hbe k hk hlf
      rw [dn _ (by omega), dn _ (by omega), decide_eq_true (by omega), decide_eq_true (by omega)]; rfl
  have hr : List.range l.length = List.range k ++ k :: (List.range l.length).drop (k + 1) := by
    have e1 := (List.take_append_drop k (List.range l.length)).symm
    rw [List.take_range, Nat.min_eq_left (by omega), drop_cons (List.range l.length) 0 k (by simpa using hk)] at e1
    rw [show (List.range l.length).getD k 0 = k by rw [List.getD_eq_getElem?_getD]; simp [hk]] at e1
    exact e1
  show (readyUpto l (lv parts l wk E k).done l.length).find? _ = _
  unfold readyUpto
  rw [hr, List.filter_append, List.filter_eq_nil_iff.2 (fun i hi => by rw [r0 i hi]; decide), List.nil_append, List.filter_cons, if_pos r1, List.map_cons, List.find?_cons]
  have hf : freeAt (lv parts l wk E k) (Int.ofNat k) = true := by
    unfold freeAt
    show decide (((List.replicate l.length grt0).getD k grt0).till ≤ 0) = true
    have : (List.replicate l.length grt0).getD k grt0 = grt0 := by
      rw [List.getD_eq_getElem?_getD, List.getElem?_replicate]; split <;> rfl
    rw [this]; rfl
  rw [hf]
  rfl
theorem in_wk (hu : u < wk) (n : Nat) (hn : n = wk) : inR (u : Int) 0 ((n : Int) - 1) = true := (inR_iff _ _ _).2 (by omega)

theorem lv_give (h : eval l parts = (E, 0)) (hk : k < l.length) (hu : u < wk) : happen (lv parts l wk E k) ⟨1, u, 0⟩ = (lv1 parts l wk E k u, 0) := by
  unfold happen
  rw [if_pos (.inl rfl)]
  unfold happenAt
  rw [show inR (Hap.mk 1 (u : Int) 0).worker 0 (((lv parts l wk E k).work.length : Int) - 1) = true from in_wk hu _ (by simp [lv]), cond_true, if_pos rfl]
  unfold give
  rw [lv_find h hk]
  show (send { lv parts l wk E k with grants := (List.replicate l.length grt0).set (k : Int).toNat ⟨u, 0 + 5⟩ } ⟨1, u, k, nil⟩, (0 : Int)) = _
  unfold send
  rw [if_pos (by show ([] : List Msg).length < 20; decide), Int.toNat_natCast]
  rfl
theorem arrive_w (f : Farm) (w : Int) (m : Msg) (hn : f.net = [m]) : happen f ⟨3, w, 0⟩ = (arriveM { f with net := [] } m, 0) := by
  unfold happen
  rw [if_neg (show ¬ ((3 : Int) = 1 ∨ (3 : Int) = 2 ∨ (3 : Int) = 7) by decide), if_pos (show (3 : Int) = 3 ∨ (3 : Int) = 4 ∨ (3 : Int) = 5 by decide)]
  unfold happenTo
  rw [hn]
  rw [show inR (Hap.mk 3 w 0).k 0 ((([m] : List Msg).length : Int) - 1) = true from rfl, cond_true, if_neg (show ¬ (3 : Int) = 5 by decide), if_pos rfl]
  unfold taken
  rw [hn]
  rfl
theorem rep_at (hu : u < wk) : (List.replicate wk (-1 : Int)).getD u 0 = -1 := by
  rw [List.getD_eq_getElem?_getD, List.getElem?_replicate, if_pos hu]; rfl
theorem arrive_ask (f : Farm) {m : Msg} (hm : m.kind = 1) (h : f.work.getD m.worker.toNat 0 = -1) : arriveM f m = { f with work := f.work.set m.worker.toNat m.n } := by
  unfold arriveM
  rw [if_pos hm, if_pos h]
theorem lv_arr1 (hu : u < wk) : happen (lv1 parts l wk E k u) ⟨3, u, 0⟩ = (lv2 parts l wk E k u, 0) := by
  rw [arrive_w _ _ ⟨1, u, k, nil⟩ rfl]
  rw [arrive_ask _ (by rfl) (show (List.replicate wk (-1 : Int)).getD (u : Int).toNat 0 = -1 by rw [Int.toNat_natCast]; exact rep_at hu)]
  show (({ lv1 parts l wk E k u with net := [], work := (List.replicate wk (-1)).set (u : Int).toNat k } : Farm), (0 : Int)) = _
  rw [Int.toNat_natCast]
  rfl
theorem lv_fin (h : eval l parts = (E, 0)) (hk : k < l.length) (hu : u < wk) : happen (lv2 parts l wk E k u) ⟨2, u, 0⟩ = (lv3 parts l wk E k u, 0) := by
  have hw : (lv2 parts l wk E k u).work.getD (u : Int).toNat 0 = (k : Int) := by
    show ((List.replicate wk (-1 : Int)).set u k).getD (u : Int).toNat 0 = _
    rw [Int.toNat_natCast, getD_set_at, if_pos ⟨rfl, by simpa using hu⟩]
  unfold happen
  rw [if_pos (.inr (.inl rfl))]
  unfold happenAt
  rw [show inR (Hap.mk 2 (u : Int) 0).worker 0 (((lv2 parts l wk E k u).work.length : Int) - 1) = true from in_wk hu _ (by simp [lv2]), cond_true, if_neg (show ¬ (2 : Int) = 1 by decide), if_pos rfl]
  unfold finish
  rw [show (lv2 parts l wk E k u).work.getD (Hap.mk 2 (u : Int) 0).worker.toNat 0 = (k : Int) from hw, if_neg (by omega), Int.toNat_natCast, lv_made (wk := wk) h hk (lv2 parts l wk E k u) rfl rfl rfl rfl, if_pos rfl]
  unfold send
  rw [if_pos (by show ([] : List Msg).length < 20; decide)]
  have hset : ((List.replicate wk (-1 : Int)).set u k).set u (-1) = List.replicate wk (-1) := by
    rw [List.set_set]
    refine List.ext_getElem (by simp) fun i h1 h2 => ?_
    simp
  show (({ lv2 parts l wk E k u with work := ((List.replicate wk (-1 : Int)).set u k).set (u : Int).toNat (-1), net := [] ++ [⟨2, u, k, E.getD k nil⟩] } : Farm), (0 : Int)) = _
  rw [Int.toNat_natCast, hset]
  rfl
theorem lv_arr2 (hk : k < l.length) : happen (lv3 parts l wk E k u) ⟨3, u, 0⟩ = (lv parts l wk E (k + 1), 0) := by
  rw [arrive_w _ _ ⟨2, u, k, E.getD k nil⟩ rfl]
  rw [arrive_new _ (by rfl) (by
    show ((List.range l.length).map _).getD (k : Int).toNat false = false
    rw [Int.toNat_natCast, getD_mapR _ _ _ _ hk]; simp)]
  show (({ lv parts l wk E k with done := ((List.range l.length).map (fun i => decide (i < k))).set (k : Int).toNat true, got := ((List.range l.length).map (fun i => if i < k then E.getD i nil else nil)).set (k : Int).toNat (E.getD k nil), grants := ((List.replicate l.length grt0).set k ⟨u, 5⟩).set (k : Int).toNat grt0 } : Farm), (0 : Int)) = _
  rw [Int.toNat_natCast, set_mapR, set_mapR]
  have e1 : (List.range l.length).map (fun i => if i = k then true else decide (i < k)) = (List.range l.length).map (fun i => decide (i < k + 1)) := by
    refine List.map_congr_left fun i _ => ?_
    by_cases h1 : i = k
    · subst h1; simp
    · rw [if_neg h1]; by_cases h2 : i < k
      · rw [decide_eq_true h2, decide_eq_true (by omega)]
      · rw [decide_eq_false h2, decide_eq_false (by omega)]
  have e2 : (List.range l.length).map (fun i => if i = k then E.getD k nil else if i < k then E.getD i nil else nil) = (List.range l.length).map (fun i => if i < k + 1 then E.getD i nil else nil) := by
    refine List.map_congr_left fun i _ => ?_
    by_cases h1 : i = k
    · subst h1; simp
    · rw [if_neg h1]; by_cases h2 : i < k
      · rw [if_pos h2, if_pos (by omega)]
      · rw [if_neg h2, if_neg (by omega)]
  have e3 : ((List.replicate l.length grt0).set k ⟨u, 5⟩).set k grt0 = List.replicate l.length grt0 := by
    rw [List.set_set]
    refine List.ext_getElem (by simp) fun i h1 h2 => ?_
    simp
  rw [e1, e2, e3]
  rfl

end

/-- the farm of round k ahead of its step j -/
def lvAt (parts : List Prt) (l : List Nd) (wk : Nat) (E : List Prt) (k u : Nat) : Nat → Farm
  | 0 => lv parts l wk E k
  | 1 => lv1 parts l wk E k u
  | 2 => lv2 parts l wk E k u
  | 3 => lv3 parts l wk E k u
  | _ => lv parts l wk E (k + 1)
def lvKind : Nat → Int
  | 0 => 1
  | 1 => 3
  | 2 => 2
  | _ => 3
theorem step_next {f g : Farm} {x : Hap} (h : FarmOk f) (e : happen f x = (g, 0)) : FarmOk g ∧ step f x = (g, 0) := by
  have := happen_ok h (fun n hn => node_leaf h hn) x
  rw [e] at this
  exact ⟨this, step_ok h e⟩
theorem lv_steps {parts : List Prt} {l : List Nd} {wk : Nat} {E : List Prt} {k u : Nat} (h : eval l parts = (E, 0)) (hk : k < l.length) (hu : u < wk) (h0 : FarmOk (lv parts l wk E k)) :
    (∀ j, j < 4 → step (lvAt parts l wk E k u j) ⟨lvKind j, u, 0⟩ = (lvAt parts l wk E k u (j + 1), 0)) ∧ FarmOk (lv parts l wk E (k + 1)) := by
  obtain ⟨h1, e0⟩ := step_next h0 (lv_give h hk hu)
  obtain ⟨h2, e1⟩ := step_next h1 (lv_arr1 hu)
  obtain ⟨h3, e2⟩ := step_next h2 (lv_fin h hk hu)
  obtain ⟨h4, e3⟩ := step_next h3 (lv_arr2 hk)
  refine ⟨fun j hj => ?_, h4⟩
  rcases (by omega : j = 0 ∨ j = 1 ∨ j = 2 ∨ j = 3) with rfl | rfl | rfl | rfl
  · exact e0
  · exact e1
  · exact e2
  · exact e3
theorem lv_ok {parts : List Prt} {l : List Nd} {wk : Nat} {E : List Prt} (h : eval l parts = (E, 0)) (hw : 0 < wk) (h0 : FarmOk (lv parts l wk E 0)) : ∀ k, k ≤ l.length → FarmOk (lv parts l wk E k)
  | 0, _ => h0
  | k + 1, hk => (lv_steps (u := 0) h (by omega) hw (lv_ok h hw h0 k (by omega))).2
theorem lv_end {parts : List Prt} {l : List Nd} {wk : Nat} {E : List Prt} (hok : FarmOk (lv parts l wk E l.length)) (hl : 0 < l.length) : outcomeE (lv parts l wk E l.length) = 0 ∧ outcome (lv parts l wk E l.length) = E.getD (l.length - 1) nil := by
  have hd : (lv parts l wk E l.length).done.getD ((lv parts l wk E l.length).plan.length - 1) false = true := by
    show ((List.range l.length).map _).getD (l.length - 1) false = true
    rw [getD_mapR _ _ _ _ (by omega)]; exact decide_eq_true (by omega)
  have e : outcomeE (lv parts l wk E l.length) = 0 := by
    unfold outcomeE
    rw [(farm_iff _).2 hok, hd]
    rfl
  refine ⟨e, ?_⟩
  unfold outcome
  rw [if_pos e]
  show ((List.range l.length).map _).getD (l.length - 1) nil = _
  rw [getD_mapR _ _ _ _ (by omega), if_pos (by omega)]

end Go.Proofs.Ytmlojlbmfceogaa.M
