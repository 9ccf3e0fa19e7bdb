/-
  The contract of farm.happenTo.
-/
import Derived.Test.YtmlojlbmfceogaaFmDA
namespace Go.Proofs.Ytmlojlbmfceogaa
open Go Go.RowKit
set_option linter.unusedVariables false

attribute [local go_sem] lat_cell

/-- five cells are stored, one after another, into a block of five -/
theorem store5 (W : World) (g : Nat) (c0 c1 c2 c3 c4 a0 a1 a2 a3 a4 : Value) (t : TypeId) (h : W.heap[g]? = some (.cells #[c0, c1, c2, c3, c4] t (0, 0))) :
    (((((W.setCell ⟨g, 0, none⟩ a0).setCell ⟨g, 1, none⟩ a1).setCell ⟨g, 2, none⟩ a2).setCell ⟨g, 3, none⟩ a3).setCell ⟨g, 4, none⟩ a4).heap[g]? = some (.cells #[a0, a1, a2, a3, a4] t (0, 0)) := by
  have h0 : (W.setCell ⟨g, 0, none⟩ a0).heap[g]? = some (.cells #[a0, c1, c2, c3, c4] t (0, 0)) := setB' h a0
  have h1 : ((W.setCell ⟨g, 0, none⟩ a0).setCell ⟨g, 1, none⟩ a1).heap[g]? = some (.cells #[a0, a1, c2, c3, c4] t (0, 0)) := setB' h0 a1
  have h2 : (((W.setCell ⟨g, 0, none⟩ a0).setCell ⟨g, 1, none⟩ a1).setCell ⟨g, 2, none⟩ a2).heap[g]? = some (.cells #[a0, a1, a2, c3, c4] t (0, 0)) := setB' h1 a2
  have h3 : ((((W.setCell ⟨g, 0, none⟩ a0).setCell ⟨g, 1, none⟩ a1).setCell ⟨g, 2, none⟩ a2).setCell ⟨g, 3, none⟩ a3).heap[g]? = some (.cells #[a0, a1, a2, a3, c4] t (0, 0)) := setB' h2 a3
  exact setB' h3 a4

theorem FmO.msgAt {B b : Nat} {W : World} {f : M.Farm} {x : Fd} {o : Fo} (h : FmO B W b f x o) (k : Nat) (hk : k < f.net.length) :
    ∃ g en, x.n = some ⟨g, 0, none⟩ ∧ en ∈ o.eN ∧ en.msg = f.net.getD k M.msg0 ∧ W.cell? ⟨g, k * 5, none⟩ = some (.int .i64 en.kind) ∧ W.cell? ⟨g, k * 5 + 1, none⟩ = some (.int .i64 en.worker) ∧ W.cell? ⟨g, k * 5 + 2, none⟩ = some (.int .i64 en.n) ∧ W.cell? ⟨g, k * 5 + 3, none⟩ = some en.e.vF ∧ W.cell? ⟨g, k * 5 + 4, none⟩ = some en.e.vD := by
  have hl := map_len h.mapN
  have hr := h.rowN
  obtain ⟨g, hg⟩ := own_blk hr (by omega)
  rw [hg] at hr
  have key : ∀ i, i < 5 → W.cell? ⟨g, k * 5 + i, none⟩ = (nentCells (o.eN.getD k nent0))[i]? := fun i hi => by
    rw [hr.cellAt (k * 5 + i) (by omega), flat_get 5 nentCells (fun _ => rfl) o.eN k i hi, getElem?_getD o.eN nent0 k (by omega)]; rfl
  exact ⟨g, o.eN.getD k nent0, hg, getD_mem _ _ _ (by omega), (map_getD (a := nent0) (b := M.msg0) h.mapN hk).symm, key 0 (by decide), key 1 (by decide), key 2 (by decide), key 3 (by decide), key 4 (by decide)⟩

/-- what the region that reads a message has of each operation -/
def toR (N b q nb kk : Nat) (f : M.Farm) (x : Fd) (msg : Array Value) (j : Nat) (W : World) (u : Value) : Prop :=
  match j with
  | 0 => u = .pointer (some ⟨b, 0, none⟩)
  | 1 => u = .pointer (some ⟨b, 0, none⟩)
  | 2 => u = .pointer (some ⟨b, 7, none⟩)
  | 3 => u = .slice (some ⟨nb, 0, none⟩) f.net.length x.nc
  | 4 => u = .pointer (some ⟨q, 2, none⟩)
  | 5 => u = .int .i64 (kk : Nat)
  | 6 => u = .pointer (some ⟨nb, kk * 5, none⟩)
  | 7 => u = .agg msg
  | 8 => ∃ g, u = .pointer (some ⟨g, 0, none⟩) ∧ N ≤ g ∧ W.heap[g]? = some (.cells #[.int .i64 0, .int .i64 0, .int .i64 0, .slice none 0 0, .slice none 0 0] 65 (0, 0))
  | _ => False

theorem toR_later {N b q nb kk : Nat} {f : M.Farm} {x : Fd} {msg : Array Value} {W X : World} (hbl : Below W.heap.size W X) : ∀ j u, toR N b q nb kk f x msg j W u → toR N b q nb kk f x msg j X u := by
  intro j u h
  match j, h with
  | 0, h => exact h
  | 1, h => exact h
  | 2, h => exact h
  | 3, h => exact h
  | 4, h => exact h
  | 5, h => exact h
  | 6, h => exact h
  | 7, h => exact h
  | 8, h => obtain ⟨g, h1, h2, h3⟩ := h; exact ⟨g, h1, h2, (hbl.block _ (Array.getElem?_eq_some_iff.1 h3).1).trans h3⟩

theorem erase_map {α β : Type} (g : α → β) (l : List α) (k : Nat) : (l.eraseIdx k).map g = (l.map g).eraseIdx k := by
  rw [List.eraseIdx_eq_take_drop_succ, List.eraseIdx_eq_take_drop_succ, List.map_append, List.map_take, List.map_drop]

/-- a block of messages that is none of the farm's is written -/
theorem FmO.other {B b g : Nat} {W X : World} {f : M.Farm} {x : Fd} {o : Fo} {cs : Array Value} (h : FmO B W b f x o) (hg : W.heap[g]? = some (.cells cs 65 (0, 0))) (hgr : W.grownBy X (some g)) (hne : (Value.slice x.n f.net.length x.nc).ownBlock ≠ some g) : FmO B X b f x o :=
  have wr : Wr W X 65 := ⟨g, cs, hg, hgr⟩
  ⟨wr.block h.blk (by decide), h.bge, wr.row h.rowP (by decide), h.mapP, wr.row h.rowL (by decide), wr.row h.rowD (by decide), wr.row h.rowH (by decide), h.mapH, wr.row h.rowG (by decide), wr.row h.rowW (by decide), h.rowN.kept hgr (.inr hne), h.mapN,
   fun e he => wr.pown (h.ownP e he) (by decide) (by decide) (by decide) (by decide), fun e he => wr.pown (h.ownH e he) (by decide) (by decide) (by decide) (by decide), fun e he => wr.pown (h.ownN e he) (by decide) (by decide) (by decide) (by decide), h.apart⟩
/-- what stays while a message is sent once more -/
structure ddC (B b nz N : Nat) (w : World) (f : M.Farm) (x : Fd) (msg : Array Value) (W : World) : Prop where
  c7 : W.cell? ⟨b, 7, none⟩ = some (.slice x.n f.net.length x.nc)
  hm : W.heap[nz]? = some (.cells msg 65 (0, 0))
  base : B ≤ W.heap.size
  below : Below B w W
  keep : KeepE w W
  above : N ≤ W.heap.size

/-- what stays while a message is taken away -/
structure dlC (B b q g : Nat) (w : World) (f : M.Farm) (x : Fd) (hap msg : Array Value) (e : PEnt) (W : World) : Prop where
  hq : W.heap[q]? = some (.cells hap 31 (0, 0))
  c7 : W.cell? ⟨b, 7, none⟩ = some (.slice x.n f.net.length x.nc)
  hm : W.heap[g]? = some (.cells msg 65 (0, 0))
  part : POwn W B e
  base : B ≤ W.heap.size
  below : Below B w W
  keep : KeepE w W
/-- what the region that takes a message away has of each operation -/
def dlR (B b q nb kk : Nat) (f : M.Farm) (x : Fd) (j : Nat) (W : World) (u : Value) : Prop :=
  match j with
  | 0 => u = .pointer (some ⟨b, 0, none⟩)
  | 1 => u = .pointer (some ⟨b, 0, none⟩)
  | 2 => u = .pointer (some ⟨b, 0, none⟩)
  | 3 => u = .pointer (some ⟨b, 7, none⟩)
  | 4 => u = .slice (some ⟨nb, 0, none⟩) f.net.length x.nc
  | 5 => u = .pointer (some ⟨q, 2, none⟩)
  | 6 => u = .int .i64 (kk : Nat)
  | 7 => u = .pointer (some ⟨q, 2, none⟩)
  | 8 => u = .int .i64 (kk : Nat)
  | 9 => u = .int .i64 ((kk : Int) + 1)
  | 10 => ∃ x' o', u = .slice (some ⟨nb, 0, none⟩) (f.net.length - 1) x.nc ∧ b < W.heap.size ∧ B ≤ b ∧ (∃ cs, W.heap[b]? = some (.cells cs 29 (0, 0))) ∧ W.frozen? ⟨b, 7, none⟩ = false ∧ FmO B (W.setCell ⟨b, 7, none⟩ (.slice (some ⟨nb, 0, none⟩) (f.net.length - 1) x.nc)) b (M.taken f kk) x' o'
  | _ => False
theorem dlR_none {B b q nb kk : Nat} {f : M.Farm} {x : Fd} {W : World} {j : Nat} {u : Value} (h : 10 < j) (hR : dlR B b q nb kk f x j W u) : False := by
  unfold dlR at hR
  split at hR
  all_goals first | omega | exact hR

set_option maxHeartbeats 16000000 in
set_option maxRecDepth 100000 in
theorem happenTo_any {B b : Nat} {f : M.Farm} {x : Fd} {o : Fo} (w : World) (hO : FmO B w b f x o) (hB : B ≤ w.heap.size) (hok : M.FarmOk f) (kd wk kk : Int) :
    Calls Try.prog 51 #[.pointer (some ⟨b, 0, none⟩), .agg #[.int .i64 kd, .int .i64 wk, .int .i64 kk]] w fun e w' => e = .returned (.int .i64 (M.happenTo f ⟨kd, wk, kk⟩).2) ∧ Below B w w' ∧ KeepE w w' ∧ ∃ x' o', FmO B w' b (M.happenTo f ⟨kd, wk, kk⟩).1 x' o' := by
  obtain ⟨i0, hi0, hz0, hz1, hz2⟩ := info_parts (P := Try.prog) (e := 65) (z := .agg #[.int .i64 0, .int .i64 0, .int .i64 0, .slice none 0 0, .slice none 0 0]) (size := 5) (bytes := 72) (by kernel_rfl)
  have hA := (Below.refl w.heap.size w).alloc (Nat.le_refl _) (.cells #[.int .i64 kd, .int .i64 wk, .int .i64 kk] 31)
  have HA : Hid (Below w.heap.size w (w.alloc (.cells #[.int .i64 kd, .int .i64 wk, .int .i64 kk] 31))) := hA
  have hh := heap_alloc_new w (.cells #[.int .i64 kd, .int .i64 wk, .int .i64 kk] 31)
  have hO1 := hO.later hA
  have HH : Hid (M.happenTo f ⟨kd, wk, kk⟩ = bif M.inR kk 0 ((f.net.length : Int) - 1) then
    (if kd = 5 then (if 20 ≤ f.net.length then (f, 10) else ({ f with net := f.net ++ [f.net.getD kk.toNat M.msg0] }, 0))
     else if kd = 3 then (M.arriveM (M.taken f kk.toNat) (f.net.getD kk.toNat M.msg0), 0)
     else (M.taken f kk.toNat, 0))
    else (f, 5)) := rfl
  generalize M.happenTo f ⟨kd, wk, kk⟩ = R at *
  have hnet := hok.net
  clear hO hA
  go_enter Try.func51, Try.ntmps51
  go_upto_region 1 with fail
  obtain ⟨q, hqe⟩ : ∃ q, q = w.heap.size := ⟨_, rfl⟩
  rw [← hqe] at hh ⊢
  clear hqe
  generalize w.alloc (.cells #[.int .i64 kd, .int .i64 wk, .int .i64 kk] 31) = Z at *
  have q2 : Z.cell? ⟨q, 2, none⟩ = some (.int .i64 kk) := cellB hh 2
  have c7 : Z.cell? ⟨b, 7, none⟩ = some (.slice x.n f.net.length x.nc) := cellB hO1.blk 7
  have lb : b < Z.heap.size := (Array.getElem?_eq_some_iff.1 hO1.blk).1
  have lq : q < Z.heap.size := (Array.getElem?_eq_some_iff.1 hh).1
  have KW : Hid (∀ W, Calls Try.prog 66 #[.slice x.n f.net.length x.nc, .int .i64 kk] W fun e w' => e = .returned (.bool (M.inR kk 0 ((f.net.length : Int) - 1))) ∧ w' = W) := fun W => standsM_any x.n f.net.length x.nc kk W (by omega)
  have HO1 : Hid (FmO B Z b f x o) := hO1
  have Hhh : Hid (Z.heap[q]? = some (.cells #[.int .i64 kd, .int .i64 wk, .int .i64 kk] 31 (0, 0))) := hh
  have hB1 := Nat.le_trans hB HA.out.size
  clear hO1 hh
  cases hin : M.inR kk 0 ((f.net.length : Int) - 1)
  · rw [hin] at KW
    have HR : Hid (R = (f, 5)) := by rw [Hid, HH.out, hin]; rfl
    clear HH hin
    refine wp_region_lat (by kernel_rfl) (by kernel_rfl) ?_
    intro hne
    repeat (go_big_quiet_step ((go_at_call 66; exact lat_of_same (KW.out _))))
    refine wpQuiet_nil ?_
    intro X hX
    have hX := lat_out hX
    go_wp2_with fail
    go_ret
    exact ⟨by rw [HR.out]; rfl, (HA.out.mono hB).trans (hX.mono hB1), (keepE_below HA.out).trans (keepE_below hX), x, o, by rw [HR.out]; exact HO1.out.later hX⟩
  · have hin' := (M.inR_iff _ _ _).1 hin
    obtain ⟨kk, rfl⟩ : ∃ m : Nat, kk = m := ⟨kk.toNat, by omega⟩
    have hkl : kk < f.net.length := by omega
    rw [hin] at KW
    have HH2 : Hid (R = if kd = 5 then (if 20 ≤ f.net.length then (f, 10) else ({ f with net := f.net ++ [f.net.getD kk M.msg0] }, 0)) else if kd = 3 then (M.arriveM (M.taken f kk) (f.net.getD kk M.msg0), 0) else (M.taken f kk, 0)) := by rw [Hid, HH.out, hin]; rfl
    clear HH hin hin'
    refine wp_region_lat (by kernel_rfl) (by kernel_rfl) ?_
    intro hne
    repeat (go_big_quiet_step ((go_at_call 66; exact lat_of_same (KW.out _))))
    refine wpQuiet_nil ?_
    intro X hX
    have hX := lat_out hX
    have hO2 := HO1.out.later hX
    have hh2 := (hX.block _ lq).trans Hhh.out
    have hB2 := Nat.le_trans hB1 hX.size
    have HB2 : Hid (Below B w X) := (HA.out.mono hB).trans (hX.mono hB1)
    have HK2 : Hid (KeepE w X) := (keepE_below HA.out).trans (keepE_below hX)
    clear hne hX q2 c7 lb lq KW HO1 Hhh
    go_upto_region 3 with fail
    obtain ⟨nb, en, hxn, hen, hmm, e0, e1, e2, e3, e4⟩ := hO2.msgAt kk hkl
    have hmok := hok.nets _ (getD_mem f.net M.msg0 kk hkl)
    have hPm := hO2.ownN en hen
    obtain ⟨x1, y1, x2, y2, hv1, hv2, hF', hD'⟩ := hPm.at
    rw [← hmm] at hmok HH2
    obtain ⟨mk, mw, mn, ⟨qp, eF, eD⟩⟩ := en
    simp only [NEnt.msg] at e0 e1 e2 e3 e4 hPm hv1 hv2 hF' hD' hmok HH2 hmm
    subst hv1 hv2
    have Hmm : Hid (f.net.getD kk M.msg0 = ⟨mk, mw, mn, qp⟩) := hmm.symm
    clear hmm hen
    have c7 : X.cell? ⟨b, 7, none⟩ = some (.slice (some ⟨nb, 0, none⟩) f.net.length x.nc) := by rw [← hxn]; exact cellB hO2.blk 7
    have q2 : X.cell? ⟨q, 2, none⟩ = some (.int .i64 kk) := cellB hh2 2
    have hkI : (kk : Int) < (f.net.length : Int) := by omega
    have hstay : ∀ W, Below X.heap.size X W → (W.cell? ⟨b, 7, none⟩ = some (.slice (some ⟨nb, 0, none⟩) f.net.length x.nc) ∧ W.cell? ⟨q, 2, none⟩ = some (.int .i64 kk)) ∧ W.cell? ⟨nb, kk * 5, none⟩ = some (.int .i64 mk) ∧ W.cell? ⟨nb, kk * 5 + 1, none⟩ = some (.int .i64 mw) ∧ W.cell? ⟨nb, kk * 5 + 2, none⟩ = some (.int .i64 mn) ∧ W.cell? ⟨nb, kk * 5 + 3, none⟩ = some (.slice x1 qp.frags.length y1) ∧ W.cell? ⟨nb, kk * 5 + 4, none⟩ = some (.slice x2 qp.defs.length y2) := fun W hW => ⟨⟨cell_later hW c7, cell_later hW q2⟩, cell_later hW e0, cell_later hW e1, cell_later hW e2, cell_later hW e3, cell_later hW e4⟩
    clear e0 e1 e2 e3 e4 c7 q2 hF' hD'
    refine wp_region_rel 9 (fun _ W => Below X.heap.size X W) (fun v => ⟨#[.pointer (some ⟨b, 0, none⟩), .agg #[.int .i64 kd, .int .i64 wk, .int .i64 kk], undef, .pointer (some ⟨q, 0, none⟩), .int .i64 0, v 8, .pointer (some ⟨b, 0, none⟩), .pointer (some ⟨b, 0, none⟩), .pointer (some ⟨b, 7, none⟩), .slice x.n f.net.length x.nc, .pointer (some ⟨q, 2, none⟩), .int .i64 kk, .bool true, .bool false, v 0, v 1, v 2, v 3, v 4, v 5, v 6, v 7, undef, undef, undef, undef, undef, undef, undef, undef, undef, undef, undef, undef, undef, undef, undef, undef, undef, undef, undef, undef, undef, undef, undef, undef, undef, undef, undef, undef, undef, undef, undef, undef, undef, undef, undef, undef, undef, undef, undef, undef, undef, undef], []⟩) (toR X.heap.size b q nb kk f x #[.int .i64 mk, .int .i64 mw, .int .i64 mn, .slice x1 qp.frags.length y1, .slice x2 qp.defs.length y2]) (fun _ _ _ _ => True) (by kernel_rfl) (by kernel_rfl) (Below.refl _ _).drew ⟨fun _ => undef, rfl⟩ ?_ ?_
    · intro j op hj ho
      rcases (by omega : j = 0 ∨ j = 1 ∨ j = 2 ∨ j = 3 ∨ j = 4 ∨ j = 5 ∨ j = 6 ∨ j = 7 ∨ j = 8) with rfl | rfl | rfl | rfl | rfl | rfl | rfl | rfl | rfl
      all_goals cases ho
      all_goals refine relStep_of rfl rfl ?_
      all_goals rintro sd v W hC hin hsd hdep hdz
      all_goals obtain ⟨⟨c7, q2⟩, e0, e1, e2, e3, e4⟩ := hstay W hC
      · exact wp_val (.pointer (some ⟨b, 0, none⟩)) (by simp [execOp, Act.eval, go_sem]) ⟨_, rfl, hC, fun _ _ _ _ h => h, rfl, fun k hk _ hz => ⟨trivial, trivial⟩⟩
      · have hv : v 0 = .pointer (some ⟨b, 0, none⟩) := hdep ⟨0, .data⟩ (by simp) rfl
        exact wp_val (.pointer (some ⟨b, 0, none⟩)) (by simp [execOp, Act.eval, go_sem, hv]) ⟨_, rfl, hC, fun _ _ _ _ h => h, rfl, fun k hk _ hz => ⟨trivial, trivial⟩⟩
      · have hv : v 1 = .pointer (some ⟨b, 0, none⟩) := hdep ⟨1, .data⟩ (by simp) rfl
        exact wp_val (.pointer (some ⟨b, 7, none⟩)) (by simp [execOp, Act.eval, go_sem, hv]) ⟨_, rfl, hC, fun _ _ _ _ h => h, rfl, fun k hk _ hz => ⟨trivial, trivial⟩⟩
      · have hv : v 2 = .pointer (some ⟨b, 7, none⟩) := hdep ⟨2, .data⟩ (by simp) rfl
        exact wp_val (.slice (some ⟨nb, 0, none⟩) f.net.length x.nc) (by simp [execOp, Act.eval, go_sem, hv, c7]) ⟨_, rfl, hC, fun _ _ _ _ h => h, rfl, fun k hk _ hz => ⟨trivial, trivial⟩⟩
      · exact wp_val (.pointer (some ⟨q, 2, none⟩)) (by simp [execOp, Act.eval, go_sem]) ⟨_, rfl, hC, fun _ _ _ _ h => h, rfl, fun k hk _ hz => ⟨trivial, trivial⟩⟩
      · have hv : v 4 = .pointer (some ⟨q, 2, none⟩) := hdep ⟨4, .data⟩ (by simp) rfl
        exact wp_val (.int .i64 (kk : Nat)) (by simp [execOp, Act.eval, go_sem, hv, q2]) ⟨_, rfl, hC, fun _ _ _ _ h => h, rfl, fun k hk _ hz => ⟨trivial, trivial⟩⟩
      · have hv : v 3 = .slice (some ⟨nb, 0, none⟩) f.net.length x.nc := hdep ⟨3, .data⟩ (by simp) rfl
        have hv2 : v 5 = .int .i64 (kk : Nat) := hdep ⟨5, .data⟩ (by simp) rfl
        exact wp_val (.pointer (some ⟨nb, kk * 5, none⟩)) (by simp [execOp, Act.eval, go_sem, hv, hv2, hkI]) ⟨_, rfl, hC, fun _ _ _ _ h => h, rfl, fun k hk _ hz => ⟨trivial, trivial⟩⟩
      · have hv : v 6 = .pointer (some ⟨nb, kk * 5, none⟩) := hdep ⟨6, .data⟩ (by simp) rfl
        exact wp_val (.agg #[.int .i64 mk, .int .i64 mw, .int .i64 mn, .slice x1 qp.frags.length y1, .slice x2 qp.defs.length y2]) (by simp [execOp, Act.eval, go_sem, hv, e0, e1, e2, e3, e4]) ⟨_, rfl, hC, fun _ _ _ _ h => h, rfl, fun k hk _ hz => ⟨trivial, trivial⟩⟩
      · have hA := (Below.refl W.heap.size W).alloc (Nat.le_refl _) (.cells #[.int .i64 0, .int .i64 0, .int .i64 0, .slice none 0 0, .slice none 0 0] 65)
        exact wp_valW (.pointer (some ⟨W.heap.size, 0, none⟩)) (W.alloc (.cells #[.int .i64 0, .int .i64 0, .int .i64 0, .slice none 0 0, .slice none 0 0] 65)) (by simp [execOp, go_sem]) ⟨_, rfl, hC.trans (hA.mono hC.size), fun k z _ _ => toR_later hA k z, ⟨W.heap.size, rfl, hC.size, heap_alloc_new W _⟩, fun k hk _ hz => ⟨trivial, trivial⟩⟩
    · rintro sd v W hC hR hZ
      have h7 : v 7 = .agg #[.int .i64 mk, .int .i64 mw, .int .i64 mn, .slice x1 qp.frags.length y1, .slice x2 qp.defs.length y2] := hR 7 (by decide)
      obtain ⟨g, h8, hNg, hg⟩ : toR X.heap.size b q nb kk f x #[.int .i64 mk, .int .i64 mw, .int .i64 mn, .slice x1 qp.frags.length y1, .slice x2 qp.defs.length y2] 8 W (v 8) := hR 8 (by decide)
      simp only [List.drop_succ_cons, List.drop_zero]
      rw [h7, h8]
      have g0 : W.cell? ⟨g, 0, none⟩ = some (.int .i64 0) := cellB hg 0
      have g1 : W.cell? ⟨g, 1, none⟩ = some (.int .i64 0) := cellB hg 1
      have g2 : W.cell? ⟨g, 2, none⟩ = some (.int .i64 0) := cellB hg 2
      have g3 : W.cell? ⟨g, 3, none⟩ = some (.slice none 0 0) := cellB hg 3
      have g4 : W.cell? ⟨g, 4, none⟩ = some (.slice none 0 0) := cellB hg 4
      have gf : ∀ i, W.frozen? ⟨g, i, none⟩ = false := frozenB hg
      have lg : g < W.heap.size := (Array.getElem?_eq_some_iff.1 hg).1
      have hX5 : Below X.heap.size X (((((W.setCell ⟨g, 0, none⟩ (.int .i64 mk)).setCell ⟨g, 1, none⟩ (.int .i64 mw)).setCell ⟨g, 2, none⟩ (.int .i64 mn)).setCell ⟨g, 3, none⟩ (.slice x1 qp.frags.length y1)).setCell ⟨g, 4, none⟩ (.slice x2 qp.defs.length y2)) := ((((hC.setCell hNg _).setCell hNg _).setCell hNg _).setCell hNg _).setCell hNg _
      have hg5 := store5 W g (.int .i64 0) (.int .i64 0) (.int .i64 0) (.slice none 0 0) (.slice none 0 0) (.int .i64 mk) (.int .i64 mw) (.int .i64 mn) (.slice x1 qp.frags.length y1) (.slice x2 qp.defs.length y2) 65 hg
      have hO5 := hO2.later hX5
      have hP5 := hPm.later hX5
      have hh5 := (hX5.block _ (Array.getElem?_eq_some_iff.1 hh2).1).trans hh2
      have hB5 := Nat.le_trans hB2 hX5.size
      have HB5 : Hid (Below B w (((((W.setCell ⟨g, 0, none⟩ (.int .i64 mk)).setCell ⟨g, 1, none⟩ (.int .i64 mw)).setCell ⟨g, 2, none⟩ (.int .i64 mn)).setCell ⟨g, 3, none⟩ (.slice x1 qp.frags.length y1)).setCell ⟨g, 4, none⟩ (.slice x2 qp.defs.length y2))) := HB2.out.trans (hX5.mono hB2)
      have HK5 : Hid (KeepE w (((((W.setCell ⟨g, 0, none⟩ (.int .i64 mk)).setCell ⟨g, 1, none⟩ (.int .i64 mw)).setCell ⟨g, 2, none⟩ (.int .i64 mn)).setCell ⟨g, 3, none⟩ (.slice x1 qp.frags.length y1)).setCell ⟨g, 4, none⟩ (.slice x2 qp.defs.length y2))) := HK2.out.trans (keepE_below hX5)
      have hgN : (Value.slice x.n f.net.length x.nc).ownBlock ≠ some g := fun e => by
        have := (hO2.rowN.lt g e).2
        omega
      clear hR hZ h7 h8 hC hg hX5 hstay hO2 hPm hh2
      go_upto_region 4 with fail
      clear g0 g1 g2 g3 g4 gf lg
      generalize (((((W.setCell ⟨g, 0, none⟩ (.int .i64 mk)).setCell ⟨g, 1, none⟩ (.int .i64 mw)).setCell ⟨g, 2, none⟩ (.int .i64 mn)).setCell ⟨g, 3, none⟩ (.slice x1 qp.frags.length y1)).setCell ⟨g, 4, none⟩ (.slice x2 qp.defs.length y2)) = Y at *
      have q0 : Y.cell? ⟨q, 0, none⟩ = some (.int .i64 kd) := cellB hh5 0
      have lq : q < Y.heap.size := (Array.getElem?_eq_some_iff.1 hh5).1
      have lb : b < Y.heap.size := (Array.getElem?_eq_some_iff.1 hO5.blk).1
      by_cases k5 : kd = 5
      · have k5b : (kd == 5) = true := by simpa using k5
        have c7 : Y.cell? ⟨b, 7, none⟩ = some (.slice x.n f.net.length x.nc) := cellB hO5.blk 7
        by_cases h20 : 20 ≤ f.net.length
        · have h20I : (20 : Int) ≤ (f.net.length : Int) := by omega
          have HR : Hid (R = (f, 10)) := by rw [Hid, HH2.out, if_pos k5, if_pos h20]
          have HO5 : Hid (FmO B Y b f x o) := hO5
          clear HH2 hO5 hP5 hh5 hg5
          go_wp2_with fail
          go_ret
          exact ⟨by rw [HR.out]; rfl, HB5.out, HK5.out, x, o, by rw [HR.out]; exact HO5.out⟩
        · have h20I : ¬ (20 : Int) ≤ (f.net.length : Int) := by omega
          have HR : Hid (R = ({ f with net := f.net ++ [⟨mk, mw, mn, qp⟩] }, 0)) := by rw [Hid, HH2.out, if_pos k5, if_neg h20]
          have KC : Hid (Calls Try.prog 43 #[.agg #[.slice x1 qp.frags.length y1, .slice x2 qp.defs.length y2]] Y fun e X1 =>
              ∃ z1 u1 z2 u2, e = .returned (.agg #[.slice z1 qp.frags.length u1, .slice z2 qp.defs.length u2]) ∧ Below Y.heap.size Y X1 ∧ POwn X1 B ⟨qp, .slice z1 qp.frags.length u1, .slice z2 qp.defs.length u2⟩) := by
            obtain ⟨a1, k1, a2, k2, ea, eb, hFm, hDm⟩ := hP5.at
            simp only at ea eb hFm hDm
            cases ea
            cases eb
            refine (copyPart_any qp _ _ _ _ _ hFm hDm hmok.2).mono ?_
            rintro e X1 ⟨hb1, z1, u1, z2, u2, rfl, hP⟩
            exact ⟨z1, u1, z2, u2, rfl, hb1, hP.base hB5⟩
          have m3 : Y.cell? ⟨g, 3, none⟩ = some (.slice x1 qp.frags.length y1) := cellB hg5 3
          have m4 : Y.cell? ⟨g, 4, none⟩ = some (.slice x2 qp.defs.length y2) := cellB hg5 4
          have lg : g < Y.heap.size := (Array.getElem?_eq_some_iff.1 hg5).1
          have HO5 : Hid (FmO B Y b f x o) := hO5
          have Hg5 : Hid (Y.heap[g]? = some (.cells #[.int .i64 mk, .int .i64 mw, .int .i64 mn, .slice x1 qp.frags.length y1, .slice x2 qp.defs.length y2] 65 (0, 0))) := hg5
          have hBg : B ≤ g := Nat.le_trans hB2 hNg
          clear HH2 hO5 hP5 hh5 hg5 k5
          go_wp2_with (go_at_call 43; refine KC.out.mono ?_; rintro e X1 ⟨z1, u1, z2, u2, rfl, hb1, hP1⟩; refine Hid.out ?_)
          have hm1 := (hb1.block _ lg).trans Hg5.out
          have d3 : X1.cell? ⟨g, 3, none⟩ = some (.slice x1 qp.frags.length y1) := cellB hm1 3
          have d4 : X1.cell? ⟨g, 4, none⟩ = some (.slice x2 qp.defs.length y2) := cellB hm1 4
          have ff : ∀ i, X1.frozen? ⟨g, i, none⟩ = false := frozenB hm1
          have lx : g < X1.heap.size := (Array.getElem?_eq_some_iff.1 hm1).1
          have hgr1 : X1.grownBy ((X1.setCell ⟨g, 3, none⟩ (.slice z1 qp.frags.length u1)).setCell ⟨g, 4, none⟩ (.slice z2 qp.defs.length u2)) (some g) := grown_trans (grown_set _ _ _ _) (grown_set _ _ _ _)
          have wr1 : Wr X1 ((X1.setCell ⟨g, 3, none⟩ (.slice z1 qp.frags.length u1)).setCell ⟨g, 4, none⟩ (.slice z2 qp.defs.length u2)) 65 := ⟨g, _, hm1, hgr1⟩
          have hP2 := wr1.pown hP1 (by decide) (by decide) (by decide) (by decide)
          have hO6 := (HO5.out.later hb1).other hm1 hgr1 hgN
          have hm2 : ((X1.setCell ⟨g, 3, none⟩ (.slice z1 qp.frags.length u1)).setCell ⟨g, 4, none⟩ (.slice z2 qp.defs.length u2)).heap[g]? = some (.cells #[.int .i64 mk, .int .i64 mw, .int .i64 mn, .slice z1 qp.frags.length u1, .slice z2 qp.defs.length u2] 65 (0, 0)) := setB' (setB' hm1 _) _
          have HB6 : Below B w ((X1.setCell ⟨g, 3, none⟩ (.slice z1 qp.frags.length u1)).setCell ⟨g, 4, none⟩ (.slice z2 qp.defs.length u2)) := ((HB5.out.trans (hb1.mono hB5)).setCell hBg _).setCell hBg _
          have HK6 : KeepE w ((X1.setCell ⟨g, 3, none⟩ (.slice z1 qp.frags.length u1)).setCell ⟨g, 4, none⟩ (.slice z2 qp.defs.length u2)) := (HK5.out.trans (keepE_below hb1)).trans (wr1.keepE (by decide))
          have hB6 : B ≤ ((X1.setCell ⟨g, 3, none⟩ (.slice z1 qp.frags.length u1)).setCell ⟨g, 4, none⟩ (.slice z2 qp.defs.length u2)).heap.size := by simp; exact Nat.le_trans hB5 hb1.size
          have hNn : ∀ i, (Value.slice x.n f.net.length x.nc).ownBlock = some i → i < ((X1.setCell ⟨g, 3, none⟩ (.slice z1 qp.frags.length u1)).setCell ⟨g, 4, none⟩ (.slice z2 qp.defs.length u2)).heap.size := fun i hi => (hO6.rowN.lt i hi).2
          clear KC m3 m4 hb1 hP1 wr1 hgr1 hm1 HO5 Hg5
          refine Lib.hid ?_
          go_upto_region 8 with fail
          clear d3 d4 ff lx
          generalize ((X1.setCell ⟨g, 3, none⟩ (.slice z1 qp.frags.length u1)).setCell ⟨g, 4, none⟩ (.slice z2 qp.defs.length u2)) = Y2 at *
          have hC0 : ddC B b g Y2.heap.size w f x #[.int .i64 mk, .int .i64 mw, .int .i64 mn, .slice z1 qp.frags.length u1, .slice z2 qp.defs.length u2] Y2.drew := ⟨cellB hO6.blk 7, hm2, hB6, HB6.drew, HK6, Nat.le_refl _⟩
          have HO6 : Hid (FmO B Y2.drew b f x o ∧ POwn Y2.drew B ⟨qp, .slice z1 qp.frags.length u1, .slice z2 qp.defs.length u2⟩) := ⟨hO6.later (Below.refl _ _).drew, hP2.later (Below.refl _ _).drew⟩
          clear hO6 hP2 hm2 HB6 HK6
          refine wp_region_rel 8 (fun s W => ddC B b g Y2.heap.size w f x #[.int .i64 mk, .int .i64 mw, .int .i64 mn, .slice z1 qp.frags.length u1, .slice z2 qp.defs.length u2] W ∧ (s.getD 7 false = false → FmO B W b f x o ∧ POwn W B ⟨qp, .slice z1 qp.frags.length u1, .slice z2 qp.defs.length u2⟩)) (fun t => ⟨#[.pointer (some ⟨b, 0, none⟩), .agg #[.int .i64 kd, .int .i64 wk, .int .i64 kk], undef, .pointer (some ⟨q, 0, none⟩), .int .i64 0, .pointer (some ⟨g, 0, none⟩), .pointer (some ⟨b, 0, none⟩), .pointer (some ⟨b, 0, none⟩), .pointer (some ⟨b, 7, none⟩), .slice (some ⟨nb, 0, none⟩) f.net.length x.nc, .pointer (some ⟨q, 2, none⟩), .int .i64 kk, .bool true, .bool false, v 0, v 1, v 2, v 3, v 4, v 5, v 6, .agg #[.int .i64 mk, .int .i64 mw, .int .i64 mn, .slice x1 qp.frags.length y1, .slice x2 qp.defs.length y2], .pointer (some ⟨q, 0, none⟩), .int .i64 kd, .bool true, .pointer (some ⟨b, 0, none⟩), .pointer (some ⟨b, 0, none⟩), .pointer (some ⟨b, 7, none⟩), .slice (some ⟨nb, 0, none⟩) f.net.length x.nc, .int .i64 f.net.length, .bool false, .pointer (some ⟨g, 3, none⟩), .agg #[.slice x1 qp.frags.length y1, .slice x2 qp.defs.length y2], .agg #[.slice z1 qp.frags.length u1, .slice z2 qp.defs.length u2], .pointer (some ⟨g, 3, none⟩), t 0, t 1, t 2, t 3, t 4, t 5, t 6, t 7, undef, undef, undef, undef, undef, undef, undef, undef, undef, undef, undef, undef, undef, undef, undef, undef, undef, undef, undef, undef, undef], []⟩) (sdR B b Y2.heap.size w f x o #[.int .i64 mk, .int .i64 mw, .int .i64 mn, .slice z1 qp.frags.length u1, .slice z2 qp.defs.length u2] mk mw mn qp) (fun _ _ _ _ => True) (by kernel_rfl) (by kernel_rfl) ⟨hC0, fun _ => HO6.out⟩ ⟨fun _ => undef, rfl⟩ ?_ ?_
          · intro j op hj ho
            rcases (by omega : j = 0 ∨ j = 1 ∨ j = 2 ∨ j = 3 ∨ j = 4 ∨ j = 5 ∨ j = 6 ∨ j = 7) with rfl | rfl | rfl | rfl | rfl | rfl | rfl | rfl
            all_goals cases ho
            all_goals refine relStep_of rfl rfl ?_
            all_goals rintro sd v W ⟨hC, hF⟩ hin hsd hdep hdz
            · exact wp_val (.pointer (some ⟨b, 0, none⟩)) (by simp [execOp, Act.eval, go_sem]) ⟨_, rfl, ⟨hC, fun h => hF (by rwa [getD_set_ne false (by decide)] at h)⟩, fun _ _ _ _ h => h, rfl, fun k hk _ hz => ⟨trivial, trivial⟩⟩
            · exact wp_val (.pointer (some ⟨b, 0, none⟩)) (by simp [execOp, Act.eval, go_sem]) ⟨_, rfl, ⟨hC, fun h => hF (by rwa [getD_set_ne false (by decide)] at h)⟩, fun _ _ _ _ h => h, rfl, fun k hk _ hz => ⟨trivial, trivial⟩⟩
            · have hv : v 1 = .pointer (some ⟨b, 0, none⟩) := hdep ⟨1, .data⟩ (by simp) rfl
              exact wp_val (.pointer (some ⟨b, 0, none⟩)) (by simp [execOp, Act.eval, go_sem, hv]) ⟨_, rfl, ⟨hC, fun h => hF (by rwa [getD_set_ne false (by decide)] at h)⟩, fun _ _ _ _ h => h, rfl, fun k hk _ hz => ⟨trivial, trivial⟩⟩
            · have hv : v 2 = .pointer (some ⟨b, 0, none⟩) := hdep ⟨2, .data⟩ (by simp) rfl
              exact wp_val (.pointer (some ⟨b, 7, none⟩)) (by simp [execOp, Act.eval, go_sem, hv]) ⟨_, rfl, ⟨hC, fun h => hF (by rwa [getD_set_ne false (by decide)] at h)⟩, fun _ _ _ _ h => h, rfl, fun k hk _ hz => ⟨trivial, trivial⟩⟩
            · have hv : v 3 = .pointer (some ⟨b, 7, none⟩) := hdep ⟨3, .data⟩ (by simp) rfl
              exact wp_val (.slice x.n f.net.length x.nc) (by simp [execOp, Act.eval, go_sem, hv, hC.c7]) ⟨_, rfl, ⟨hC, fun h => hF (by rwa [getD_set_ne false (by decide)] at h)⟩, fun _ _ _ _ h => h, rfl, fun k hk _ hz => ⟨trivial, trivial⟩⟩
            · have e0 : W.cell? ⟨g, 0, none⟩ = some (.int .i64 mk) := cellB hC.hm 0
              have e1 : W.cell? ⟨g, 1, none⟩ = some (.int .i64 mw) := cellB hC.hm 1
              have e2 : W.cell? ⟨g, 2, none⟩ = some (.int .i64 mn) := cellB hC.hm 2
              have e3 : W.cell? ⟨g, 3, none⟩ = some (.slice z1 qp.frags.length u1) := cellB hC.hm 3
              have e4 : W.cell? ⟨g, 4, none⟩ = some (.slice z2 qp.defs.length u2) := cellB hC.hm 4
              exact wp_val (.agg #[.int .i64 mk, .int .i64 mw, .int .i64 mn, .slice z1 qp.frags.length u1, .slice z2 qp.defs.length u2]) (by simp [execOp, Act.eval, go_sem, e0, e1, e2, e3, e4]) ⟨_, rfl, ⟨hC, fun h => hF (by rwa [getD_set_ne false (by decide)] at h)⟩, fun _ _ _ _ h => h, rfl, fun k hk _ hz => ⟨trivial, trivial⟩⟩
            · have hv : v 5 = .agg #[.int .i64 mk, .int .i64 mw, .int .i64 mn, .slice z1 qp.frags.length u1, .slice z2 qp.defs.length u2] := hdep ⟨5, .data⟩ (by simp) rfl
              have hA := (Below.refl W.heap.size W).alloc (Nat.le_refl _) (.cells #[.int .i64 mk, .int .i64 mw, .int .i64 mn, .slice z1 qp.frags.length u1, .slice z2 qp.defs.length u2] 65)
              have h7 : sd.getD 7 false = false := by
                cases h : sd.getD 7 false
                · rfl
                · have := hin.closed 7 _ rfl h ⟨6, .data⟩ (by simp) rfl
                  rw [getD_both hsd] at this
                  cases this
              refine wp_valW (.slice (some ⟨W.heap.size, 0, none⟩) 1 1) (W.alloc (.cells #[.int .i64 mk, .int .i64 mw, .int .i64 mn, .slice z1 qp.frags.length u1, .slice z2 qp.defs.length u2] 65)) (by simp [Act.eval, go_sem, hv]) ⟨_, rfl, ⟨⟨cell_later hA hC.c7, (hA.block _ (Array.getElem?_eq_some_iff.1 hC.hm).1).trans hC.hm, Nat.le_trans hC.base hA.size, hC.below.trans (hA.mono hC.base), hC.keep.trans (keepE_below hA), Nat.le_trans hC.above hA.size⟩, fun _ => ⟨(hF h7).1.later hA, (hF h7).2.later hA⟩⟩, ?_, ⟨W.heap.size, rfl, hC.above, by simp, World.news_of_block (heap_alloc_new W _)⟩, fun k hk _ hz => ⟨trivial, trivial⟩⟩
              intro i u hi hs hR
              rcases (by omega : i = 0 ∨ i = 1 ∨ i = 2 ∨ i = 3 ∨ i = 4 ∨ i = 5 ∨ i = 7 ∨ 7 < i) with rfl | rfl | rfl | rfl | rfl | rfl | rfl | h8
              · exact hR
              · exact hR
              · exact hR
              · exact hR
              · exact hR
              · exact hR
              · rw [h7] at hs; cases hs
              · exact (sdR_none h8 hR).elim
            · have hv4 : v 4 = .slice x.n f.net.length x.nc := hdep ⟨4, .data⟩ (by simp) rfl
              obtain ⟨g2, hv6, hNg, hgW, hnews⟩ : sdR B b Y2.heap.size w f x o #[.int .i64 mk, .int .i64 mw, .int .i64 mn, .slice z1 qp.frags.length u1, .slice z2 qp.defs.length u2] mk mw mn qp 6 W (v 6) := hdep ⟨6, .data⟩ (by simp) rfl
              obtain ⟨hO, hq⟩ := hF (getD_both hsd)
              refine wp_append_own W _ _ 27 rfl B 65 i0 (.agg #[.int .i64 0, .int .i64 0, .int .i64 0, .slice none 0 0, .slice none 0 0]) 5 72 Try.underlying27 hi0 hz0 hz1 hz2 rfl (by decide) _ f.net.length _ hv4 hO.rowN ⟨g2, 0, none⟩ 1 1 (#[.int .i64 mk, .int .i64 mw, .int .i64 mn, .slice z1 qp.frags.length u1, .slice z2 qp.defs.length u2] : Array Value).toList hv6 rfl hnews (fun u hu => by simp at hu; rcases hu with rfl | rfl | rfl | rfl | rfl <;> rfl) (by unfold maxLen; omega) (by omega) hC.base ?_
              intro v' w3 hown' hgrow3 _
              obtain ⟨a8, c8, rfl, q1, q2, q3, q4, q5, q6⟩ := hO.push' hC.base mk mw mn ⟨qp, .slice z1 qp.frags.length u1, .slice z2 qp.defs.length u2⟩ hq v' w3 hgrow3 hown'
              have hne : ∀ i, Y2.heap.size ≤ i → i < W.heap.size → w3.heap[i]? = W.heap[i]? := fun i h1 h2 => hgrow3.block i h2 (fun e => by have := hNn i e.symm; omega)
              refine ⟨_, rfl, ⟨⟨q2, ?_, Nat.le_trans hC.base hgrow3.size, hC.below.grown hgrow3 hC.base (fun k hk => (hO.rowN.lt k hk).1), hC.keep.trans (row_keepE hO.rowN hgrow3 (by decide)), Nat.le_trans hC.above hgrow3.size⟩, fun h => ?_⟩, ?_, ⟨a8, c8, _, _, rfl, q1, q3, q4, hC.below.trans q5, hC.keep.trans q6⟩, fun k hk _ hz => ⟨trivial, trivial⟩⟩
              · exact (hgrow3.block g (Array.getElem?_eq_some_iff.1 hC.hm).1 (fun e => hgN e.symm)).trans hC.hm
              · have hsz : 7 < sd.size := by rw [hin.size]; decide
                simp [hsz] at h
              · intro i u hi hs hR
                rcases (by omega : i = 0 ∨ i = 1 ∨ i = 2 ∨ i = 3 ∨ i = 4 ∨ i = 5 ∨ i = 6 ∨ 7 < i) with rfl | rfl | rfl | rfl | rfl | rfl | rfl | h8
                · exact hR
                · exact hR
                · exact hR
                · exact hR
                · exact hR
                · exact hR
                · obtain ⟨g2, hg1, hg2, hg3, hg4⟩ := hR
                  refine ⟨g2, hg1, hg2, Nat.lt_of_lt_of_le hg3 hgrow3.size, fun j u hu => ?_⟩
                  have := hg4 j u hu
                  rw [Addr.add_lit] at this ⊢
                  rw [World.cell?_of_block (w := W) (hne g2 hg2 hg3)]
                  exact this
                · exact (sdR_none h8 hR).elim
          · rintro sd v W ⟨hC, _⟩ hR hZ
            obtain ⟨a8, c8, x', o', h7, q1, q3, q4, q5, q6⟩ : sdR B b Y2.heap.size w f x o #[.int .i64 mk, .int .i64 mw, .int .i64 mn, .slice z1 qp.frags.length u1, .slice z2 qp.defs.length u2] mk mw mn qp 7 W (v 7) := hR 7 (by decide)
            have h0 : v 0 = .pointer (some ⟨b, 0, none⟩) := hR 0 (by decide)
            have c7 := hC.c7
            simp only [List.drop_succ_cons, List.drop_zero]
            rw [h0, h7]
            have Q4 : Hid (FmO B (W.setCell ⟨b, 7, none⟩ (.slice a8 (f.net.length + 1) c8)) b { f with net := f.net ++ [⟨mk, mw, mn, qp⟩] } x' o') := q4
            have Q5 : Hid (Below B w (W.setCell ⟨b, 7, none⟩ (.slice a8 (f.net.length + 1) c8))) := q5
            have Q6 : Hid (KeepE w (W.setCell ⟨b, 7, none⟩ (.slice a8 (f.net.length + 1) c8))) := q6
            clear hR hZ hC q4 q5 q6 hC0 HO6
            go_wp2_with fail
            go_ret
            exact ⟨by rw [HR.out]; rfl, Q5.out, Q6.out, x', o', by rw [HR.out]; exact Q4.out⟩
      · have k5b : (kd == 5) = false := by simpa using k5
        have c7 : Y.cell? ⟨b, 7, none⟩ = some (.slice x.n f.net.length x.nc) := cellB hO5.blk 7
        have hC0 : dlC B b q g w f x #[.int .i64 kd, .int .i64 wk, .int .i64 kk] #[.int .i64 mk, .int .i64 mw, .int .i64 mn, .slice x1 qp.frags.length y1, .slice x2 qp.defs.length y2] ⟨qp, .slice x1 qp.frags.length y1, .slice x2 qp.defs.length y2⟩ Y.drew := ⟨hh5, c7, hg5, hP5.later (Below.refl _ _).drew, hB5, HB5.out.drew, HK5.out⟩
        have HO5 : Hid (FmO B Y.drew b f x o) := hO5.later (Below.refl _ _).drew
        have HH3 : Hid (R = if kd = 3 then (M.arriveM (M.taken f kk) ⟨mk, mw, mn, qp⟩, 0) else (M.taken f kk, 0)) := by rw [Hid, HH2.out, if_neg k5]
        clear HH2 hO5 hP5 hh5 hg5 c7 k5
        have hwr : IntKind.i64.wrap ((kk : Int) + 1) = (kk : Int) + 1 := by rw [IntKind.wrap_i64]; omega
        go_upto_region 10 with fail
        refine wp_region_rel 11 (fun s W => dlC B b q g w f x #[.int .i64 kd, .int .i64 wk, .int .i64 kk] #[.int .i64 mk, .int .i64 mw, .int .i64 mn, .slice x1 qp.frags.length y1, .slice x2 qp.defs.length y2] ⟨qp, .slice x1 qp.frags.length y1, .slice x2 qp.defs.length y2⟩ W ∧ (s.getD 10 false = false → FmO B W b f x o)) (fun t => ⟨#[.pointer (some ⟨b, 0, none⟩), .agg #[.int .i64 kd, .int .i64 wk, .int .i64 kk], undef, .pointer (some ⟨q, 0, none⟩), .int .i64 0, .pointer (some ⟨g, 0, none⟩), .pointer (some ⟨b, 0, none⟩), .pointer (some ⟨b, 0, none⟩), .pointer (some ⟨b, 7, none⟩), .slice x.n f.net.length x.nc, .pointer (some ⟨q, 2, none⟩), .int .i64 kk, .bool true, .bool false, v 0, v 1, v 2, v 3, v 4, v 5, v 6, .agg #[.int .i64 mk, .int .i64 mw, .int .i64 mn, .slice x1 qp.frags.length y1, .slice x2 qp.defs.length y2], .pointer (some ⟨q, 0, none⟩), .int .i64 kd, .bool false, undef, undef, undef, undef, undef, undef, undef, undef, undef, undef, undef, undef, undef, undef, undef, undef, undef, undef, undef, undef, t 0, t 1, t 2, t 3, t 4, t 5, t 6, t 7, t 8, t 9, t 10, undef, undef, undef, undef, undef, undef, undef, undef], []⟩) (dlR B b q nb kk f x) (fun _ _ _ _ => True) (by kernel_rfl) (by kernel_rfl) ⟨hC0, fun _ => HO5.out⟩ ⟨fun _ => undef, rfl⟩ ?_ ?_
        · intro j op hj ho
          rcases (by omega : j = 0 ∨ j = 1 ∨ j = 2 ∨ j = 3 ∨ j = 4 ∨ j = 5 ∨ j = 6 ∨ j = 7 ∨ j = 8 ∨ j = 9 ∨ j = 10) with rfl | rfl | rfl | rfl | rfl | rfl | rfl | rfl | rfl | rfl | rfl
          all_goals cases ho
          all_goals refine relStep_of rfl rfl ?_
          all_goals rintro sd v W ⟨hC, hF⟩ hin hsd hdep hdz
          all_goals have hc7 := hC.c7
          all_goals rw [hxn] at hc7
          all_goals have hq2 : W.cell? ⟨q, 2, none⟩ = some (.int .i64 kk) := cellB hC.hq 2
          · exact wp_val (.pointer (some ⟨b, 0, none⟩)) (by simp [execOp, Act.eval, go_sem]) ⟨_, rfl, ⟨hC, fun h => hF (by rwa [getD_set_ne false (by decide)] at h)⟩, fun _ _ _ _ h => h, rfl, fun k hk _ hz => ⟨trivial, trivial⟩⟩
          · exact wp_val (.pointer (some ⟨b, 0, none⟩)) (by simp [execOp, Act.eval, go_sem]) ⟨_, rfl, ⟨hC, fun h => hF (by rwa [getD_set_ne false (by decide)] at h)⟩, fun _ _ _ _ h => h, rfl, fun k hk _ hz => ⟨trivial, trivial⟩⟩
          · have hv : v 1 = .pointer (some ⟨b, 0, none⟩) := hdep ⟨1, .data⟩ (by simp) rfl
            exact wp_val (.pointer (some ⟨b, 0, none⟩)) (by simp [execOp, Act.eval, go_sem, hv]) ⟨_, rfl, ⟨hC, fun h => hF (by rwa [getD_set_ne false (by decide)] at h)⟩, fun _ _ _ _ h => h, rfl, fun k hk _ hz => ⟨trivial, trivial⟩⟩
          · have hv : v 2 = .pointer (some ⟨b, 0, none⟩) := hdep ⟨2, .data⟩ (by simp) rfl
            exact wp_val (.pointer (some ⟨b, 7, none⟩)) (by simp [execOp, Act.eval, go_sem, hv]) ⟨_, rfl, ⟨hC, fun h => hF (by rwa [getD_set_ne false (by decide)] at h)⟩, fun _ _ _ _ h => h, rfl, fun k hk _ hz => ⟨trivial, trivial⟩⟩
          · have hv : v 3 = .pointer (some ⟨b, 7, none⟩) := hdep ⟨3, .data⟩ (by simp) rfl
            exact wp_val (.slice (some ⟨nb, 0, none⟩) f.net.length x.nc) (by simp [execOp, Act.eval, go_sem, hv, hc7]) ⟨_, rfl, ⟨hC, fun h => hF (by rwa [getD_set_ne false (by decide)] at h)⟩, fun _ _ _ _ h => h, rfl, fun k hk _ hz => ⟨trivial, trivial⟩⟩
          · exact wp_val (.pointer (some ⟨q, 2, none⟩)) (by simp [execOp, Act.eval, go_sem]) ⟨_, rfl, ⟨hC, fun h => hF (by rwa [getD_set_ne false (by decide)] at h)⟩, fun _ _ _ _ h => h, rfl, fun k hk _ hz => ⟨trivial, trivial⟩⟩
          · have hv : v 5 = .pointer (some ⟨q, 2, none⟩) := hdep ⟨5, .data⟩ (by simp) rfl
            exact wp_val (.int .i64 (kk : Nat)) (by simp [execOp, Act.eval, go_sem, hv, hq2]) ⟨_, rfl, ⟨hC, fun h => hF (by rwa [getD_set_ne false (by decide)] at h)⟩, fun _ _ _ _ h => h, rfl, fun k hk _ hz => ⟨trivial, trivial⟩⟩
          · exact wp_val (.pointer (some ⟨q, 2, none⟩)) (by simp [execOp, Act.eval, go_sem]) ⟨_, rfl, ⟨hC, fun h => hF (by rwa [getD_set_ne false (by decide)] at h)⟩, fun _ _ _ _ h => h, rfl, fun k hk _ hz => ⟨trivial, trivial⟩⟩
          · have hv : v 7 = .pointer (some ⟨q, 2, none⟩) := hdep ⟨7, .data⟩ (by simp) rfl
            exact wp_val (.int .i64 (kk : Nat)) (by simp [execOp, Act.eval, go_sem, hv, hq2]) ⟨_, rfl, ⟨hC, fun h => hF (by rwa [getD_set_ne false (by decide)] at h)⟩, fun _ _ _ _ h => h, rfl, fun k hk _ hz => ⟨trivial, trivial⟩⟩
          · have hv : v 8 = .int .i64 (kk : Nat) := hdep ⟨8, .data⟩ (by simp) rfl
            exact wp_val (.int .i64 ((kk : Int) + 1)) (by simp [execOp, Act.eval, go_sem, hv, hwr]) ⟨_, rfl, ⟨hC, fun h => hF (by rwa [getD_set_ne false (by decide)] at h)⟩, fun _ _ _ _ h => h, rfl, fun k hk _ hz => ⟨trivial, trivial⟩⟩
          · have hv4 : v 4 = .slice (some ⟨nb, 0, none⟩) f.net.length x.nc := hdep ⟨4, .data⟩ (by simp) rfl
            have hv6 : v 6 = .int .i64 (kk : Nat) := hdep ⟨6, .data⟩ (by simp) rfl
            have hv9 : v 9 = .int .i64 ((kk : Int) + 1) := hdep ⟨9, .data⟩ (by simp) rfl
            have hO := hF (getD_both hsd)
            have hr := hO.rowN
            rw [hxn] at hr
            have hle := map_len hO.mapN
            refine wp_enter 67 #[.slice (some ⟨nb, 0, none⟩) f.net.length x.nc, .int .i64 kk, .int .i64 ((kk : Int) + 1)] (by simp [Act.eval, go_sem, hv4, hv6, hv9]) ?_
            refine (delete_any W hr hle.symm hkl (fun e he => by
              obtain ⟨a1, k1, a2, k2, e1, e2, _, _⟩ := (hO.ownN e he).at
              rw [e1, e2]; exact ⟨rfl, rfl⟩)).mono ?_
            rintro e W2 ⟨rfl, hgr, hr2⟩
            have hgr' : W.grownBy W2 (Value.slice x.n f.net.length x.nc).ownBlock := by rw [hxn]; exact hgr
            have hb2 := block_keptP hO.rowN hgr' hO.blk (by decide)
            have hmsl : (f.net.eraseIdx kk).length = f.net.length - 1 := by rw [List.length_eraseIdx]; simp [hkl]
            have hS := hO.setNet (f.net.eraseIdx kk) (o.eN.eraseIdx kk) (some ⟨nb, 0, none⟩) x.nc (X := W2) hgr' (by rw [hmsl]; exact hr2) (by rw [← hO.mapN]; exact erase_map _ _ _) (fun e he => hO.ownN e (List.mem_of_mem_eraseIdx he))
            rw [hmsl] at hS
            have hkp : ∀ (e : PEnt), POwn W B e → POwn W2 B e := fun e ⟨en, hP, hm⟩ => ⟨en, ⟨hP.rowF.kept hgr' (own_apart hP.rowF hO.rowN (by decide)), hP.rowD.kept hgr' (own_apart hP.rowD hO.rowN (by decide)), fun e he => (hP.bytes e he).kept hgr' (own_apart (hP.bytes e he) hO.rowN (by decide)), hP.small, hP.smallD, fun e he => (hP.rels e he).kept hgr' (own_apart (hP.rels e he) hO.rowN (by decide))⟩, hm⟩
            refine ⟨_, rfl, _, rfl, ⟨⟨block_keptP hO.rowN hgr' hC.hq (by decide), cellB hb2 7, (hgr'.block g (Array.getElem?_eq_some_iff.1 hC.hm).1 (fun e => hgN e.symm)).trans hC.hm, hkp _ hC.part, Nat.le_trans hC.base hgr.size, hC.below.grown hgr' hC.base (fun k hk => (hO.rowN.lt k hk).1), hC.keep.trans (row_keepE hO.rowN hgr' (by decide))⟩, fun h => ?_⟩, ?_, ⟨_, _, rfl, (Array.getElem?_eq_some_iff.1 hb2).1, hO.bge, ⟨_, hb2⟩, frozenB hb2 7, hS⟩, fun k hk _ hz => ⟨trivial, trivial⟩⟩
            · have hsz : 10 < sd.size := by rw [hin.size]; decide
              simp [hsz] at h
            · intro i u hi hs hR
              rcases (by omega : i = 0 ∨ i = 1 ∨ i = 2 ∨ i = 3 ∨ i = 4 ∨ i = 5 ∨ i = 6 ∨ i = 7 ∨ i = 8 ∨ i = 9 ∨ 10 < i) with rfl | rfl | rfl | rfl | rfl | rfl | rfl | rfl | rfl | rfl | h8
              · exact hR
              · exact hR
              · exact hR
              · exact hR
              · exact hR
              · exact hR
              · exact hR
              · exact hR
              · exact hR
              · exact hR
              · exact (dlR_none h8 hR).elim
        · rintro sd v W ⟨hC, _⟩ hR hZ
          have h0 : v 0 = .pointer (some ⟨b, 0, none⟩) := hR 0 (by decide)
          obtain ⟨x', o', h10, lb', hbb, ⟨cs, hcs⟩, fz, hO9⟩ : dlR B b q nb kk f x 10 W (v 10) := hR 10 (by decide)
          have c7 := hC.c7
          have wrF : Wr W (W.setCell ⟨b, 7, none⟩ (.slice (some ⟨nb, 0, none⟩) (f.net.length - 1) x.nc)) 29 := ⟨b, cs, hcs, grown_set _ _ _ _⟩
          have hP9 := wrF.pown hC.part (by decide) (by decide) (by decide) (by decide)
          have hq9 := wrF.block hC.hq (by decide)
          have hg9 := wrF.block hC.hm (by decide)
          have HB9 : Hid (Below B w (W.setCell ⟨b, 7, none⟩ (.slice (some ⟨nb, 0, none⟩) (f.net.length - 1) x.nc))) := hC.below.setCell hbb _
          have HK9 : Hid (KeepE w (W.setCell ⟨b, 7, none⟩ (.slice (some ⟨nb, 0, none⟩) (f.net.length - 1) x.nc))) := hC.keep.trans (wrF.keepE (by decide))
          have hB9 : B ≤ (W.setCell ⟨b, 7, none⟩ (.slice (some ⟨nb, 0, none⟩) (f.net.length - 1) x.nc)).heap.size := by simp; exact hC.base
          simp only [List.drop_succ_cons, List.drop_zero]
          rw [h0, h10]
          clear hR hZ h0 h10 hC hcs wrF hC0 HO5
          go_upto_region 11 with fail
          clear c7 fz lb'
          generalize W.setCell ⟨b, 7, none⟩ (.slice (some ⟨nb, 0, none⟩) (f.net.length - 1) x.nc) = Y9 at *
          have q0' : Y9.cell? ⟨q, 0, none⟩ = some (.int .i64 kd) := cellB hq9 0
          have lq' : q < Y9.heap.size := (Array.getElem?_eq_some_iff.1 hq9).1
          by_cases k3 : kd = 3
          · have k3b : (kd == 3) = true := by simpa using k3
            have HR : Hid (R = (M.arriveM (M.taken f kk) ⟨mk, mw, mn, qp⟩, 0)) := by rw [Hid, HH3.out, if_pos k3]
            have m0 : Y9.cell? ⟨g, 0, none⟩ = some (.int .i64 mk) := cellB hg9 0
            have m1 : Y9.cell? ⟨g, 1, none⟩ = some (.int .i64 mw) := cellB hg9 1
            have m2 : Y9.cell? ⟨g, 2, none⟩ = some (.int .i64 mn) := cellB hg9 2
            have m3 : Y9.cell? ⟨g, 3, none⟩ = some (.slice x1 qp.frags.length y1) := cellB hg9 3
            have m4 : Y9.cell? ⟨g, 4, none⟩ = some (.slice x2 qp.defs.length y2) := cellB hg9 4
            have lg9 : g < Y9.heap.size := (Array.getElem?_eq_some_iff.1 hg9).1
            have hmo := hmok.1
            unfold M.msgOk at hmo
            simp only [Bool.and_eq_true, M.inR_iff] at hmo
            obtain ⟨mw, rfl⟩ : ∃ m : Nat, mw = m := ⟨mw.toNat, by omega⟩
            obtain ⟨mn, rfl⟩ : ∃ m : Nat, mn = m := ⟨mn.toNat, by omega⟩
            have KA : Hid (Calls Try.prog 68 #[.pointer (some ⟨b, 0, none⟩), .agg #[.int .i64 mk, .int .i64 mw, .int .i64 mn, .slice x1 qp.frags.length y1, .slice x2 qp.defs.length y2]] Y9 fun e w' => e = .returned (.tuple #[]) ∧ Below B Y9 w' ∧ KeepE Y9 w' ∧ ∃ x' o', FmO B w' b (M.arriveM (M.taken f kk) ⟨mk, mw, mn, qp⟩) x' o') := arrive_any Y9 hO9 hB9 (M.taken_ok hok kk) mk mw mn (by show mw < f.work.length; omega) (by show mn < f.plan.length; omega) qp x1 x2 y1 y2 hP9
            clear HH3 hO9 hP9 hq9 hg9 hmo k3
            go_wp2_with (go_at_call 68; refine KA.out.mono ?_; rintro e w5 ⟨rfl, j1, j2, x9, o9, j3⟩)
            go_ret
            exact ⟨by rw [HR.out]; rfl, HB9.out.trans j1, HK9.out.trans j2, x9, o9, by rw [HR.out]; exact j3⟩
          · have k3b : (kd == 3) = false := by simpa using k3
            have HR : Hid (R = (M.taken f kk, 0)) := by rw [Hid, HH3.out, if_neg k3]
            have HO9 : Hid (FmO B Y9 b (M.taken f kk) x' o') := hO9
            clear HH3 hO9 hP9 hq9 hg9 k3
            go_wp2_with fail
            go_ret
            exact ⟨by rw [HR.out]; rfl, HB9.out, HK9.out, x', o', by rw [HR.out]; exact HO9.out⟩

end Go.Proofs.Ytmlojlbmfceogaa
