/-
  The contract of names.Faults. Faults as they lie in memory; the library's Equal at them.
-/
import Derived.Test.YtbohadjfmfoeaaaDoorTopA
import Derived.Deep.RegionHeld3
import Derived.Test.YtbohadjfmfoeaaaDoorSame
import Derived.Test.YtbohadjfmfoeaaaDoorNmShelf
import Derived.Test.YtbohadjfmfoeaaaDoorMemA

namespace Go.Proofs.YtbohadjfmfoeaaaDoor
open Go.RowKit
set_option linter.unusedVariables false

def encFlt (x : Int × ByteArray) : List Value := [.int .i64 x.1, .string x.2, .int .i64 0, .int .i64 0]

theorem step_append_src {P : Program} {w : World} {ops : Array Oper} {o : Oper} {a : Act} {K : Act → World → Prop} {Q : Exit → Act → World → Prop} {E : Prop} (hgd : o.guard = none) (s x : Operand) (t : TypeId)
    (ho : o.op = .call { callee := .builtin .append, args := #[s, x], argTypes := #[t, t] })
    (base : Nat) (e : TypeId) (i : TypeInfo) (z : Value) (size bytes : Nat) (ht : P.underlying t = some (.slice e)) (hi : P.info? e = some i) (hz : i.zero = some z)
    (hsize : i.size = size) (hby : i.bytes = bytes) (hzs : z.cells.size = size) (hsz : 0 < size)
    (v : Value) (n : Nat) (xs : List Value) (hs : a.eval s = v) (hown : w.ownsRow base e size v n xs)
    (u : Value) (m : Nat) (news : List Value) (hx : a.eval x = u) (hsrc : Src w u m news) (hl : news.length = m * size) (h1 : ∀ u ∈ news, u.oneCell' = true)
    (h63 : n + m ≤ maxLen) (hbytes : (n + m) * bytes ≤ 140737488355328) (hbase : base ≤ w.heap.size)
    (h : ∀ v' w', w'.ownsRow base e size v' (n + m) (xs ++ news) → w.grownBy w' v.ownBlock → K (a.put o.dst v') w') :
    if Region.wanted o (yielded ops a.tmps) = true then Oper.wp P o a w K Q else E := by
  have hw : Region.wanted o (yielded ops a.tmps) = true := by simp [Region.wanted, hgd]
  rw [if_pos hw]
  exact wp_append_src w s x t ho base e i z size bytes ht hi hz hsize hby hzs hsz v n xs hs hown u m news hx hsrc hl h1 h63 hbytes hbase h

def faultsOfP (p : M.Prt) : List (Int × ByteArray) := if M.checkPart p = 0 then M.faults p else []

theorem faults_take (ds : List M.Dfn) (L : List ByteArray) (k : Nat) (h : k < L.length) : (L.take (k + 1)).filterMap (M.faultAt ds) = (L.take k).filterMap (M.faultAt ds) ++ (M.faultAt ds (L.getD k str0)).toList := by
  rw [List.take_succ_eq_append_getElem h, List.filterMap_append, List.getD_eq_getElem?_getD, List.getElem?_eq_getElem h]
  simp only [Option.getD_some, List.filterMap_cons, List.filterMap_nil]
  cases M.faultAt ds L[k] <;> rfl

theorem wantedOf_le (rs : List M.Rel) : (M.wantedOf rs).length ≤ rs.length := by
  unfold M.wantedOf
  rw [List.length_map]
  exact List.length_filter_le _ _

theorem wantedNames_le : ∀ fs : List M.Frg, (∀ f ∈ fs, f.rels.length ≤ 8) → (M.wantedNames fs).length ≤ 8 * fs.length
  | [], _ => by simp [M.wantedNames]
  | f :: fs, h => by
    have ih := wantedNames_le fs (fun g hg => h g (List.mem_cons_of_mem _ hg))
    have h1 := wantedOf_le f.rels
    have h2 := h f (by simp)
    show (M.wantedOf f.rels ++ M.wantedNames fs).length ≤ 8 * (fs.length + 1)
    rw [List.length_append]
    omega


end Go.Proofs.YtbohadjfmfoeaaaDoor

namespace Go.Proofs.YtbohadjfmfoeaaaDoor
open Go.RowKit Go.Shelf
set_option linter.unusedVariables false

structure Flt where
  e : Int
  name : ByteArray
  frag : Int
  pos : Int

def flt0 : Flt := ⟨0, ⟨#[]⟩, 0, 0⟩
def encF (x : Flt) : List Value := [.int .i64 x.e, .string x.name, .int .i64 x.frag, .int .i64 x.pos]
def sameFlt (a b : Flt) : Bool := a.e == b.e && a.name.toList == b.name.toList && a.frag == b.frag && a.pos == b.pos

def FltsAt (w : World) (v : Value) (l : List Flt) : Prop := SlAt w v 4 l.length (fun j i => (encF (l.getD j flt0)).getD i undef)

theorem FltsAt.later {w w' : World} {v : Value} {l : List Flt} (h : FltsAt w v l) (hb : Below w.heap.size w w') : FltsAt w' v l := SlAt.later h hb



end Go.Proofs.YtbohadjfmfoeaaaDoor
