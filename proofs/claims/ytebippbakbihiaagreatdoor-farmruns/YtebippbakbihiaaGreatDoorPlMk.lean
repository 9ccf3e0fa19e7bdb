/-
  The contracts of plan.Make and of the functions in it. The contract of plan.Make. What Make answers, in a variable.
-/
import Derived.Test.YtebippbakbihiaaGreatDoorPlCk
import Derived.Maps.AppendAt
namespace Go.Proofs.YtebippbakbihiaaGreatDoor
open Go Go.RowKit
set_option linter.unusedVariables false
attribute [local go_sem] run_store_fnP
def encNd (n:M.Nd):List Value:=[iv n.leaf,iv n.left,iv n.right]
theorem row_nodes {w:World} {B:Nat} {v:Value} {l:List M.Nd} (h:w.ownsRow B 75 3 v l.length (l.flatMap encNd)):NodesAt w v l:=by
 refine (row_slice (k:=3) M.nd0 encNd (fun _=>rfl) l h).congr' (fun j i hj hi=>?_)
 match i,hi with
 | 0,_=>rfl
 | 1,_=>rfl
 | 2,_=>rfl
theorem row_setP {w:World} {B k n b i:Nat} {e t:TypeId} {v u:Value} {xs:List Value} {cs:Array Value} {fr:Nat × Nat} (h:w.ownsRow B e k v n xs) (hb:w.heap[b]?=some (.cells cs t fr)) (hne:e≠t):(w.setCell (qa b i) u).ownsRow B e k v n xs :=
 h.kept (grown_set w b i u) (own_ne h hb hne)
theorem block_keptP {w w':World} {B k n b:Nat} {e t:TypeId} {v:Value} {xs:List Value} {cs:Array Value} {fr:Nat × Nat} (h:w.ownsRow B e k v n xs) (hg:w.grownBy w' v.ownBlock) (hb:w.heap[b]?=some (.cells cs t fr)) (hne:e≠t):w'.heap[b]?=some (.cells cs t fr):=by
 refine (hg.block b (lt1 hb) ?_).trans hb
 intro e2
 rcases own_ne h hb hne with h1 | h1
 ·rw[h1] at e2;cases e2
 ·exact h1 e2.symm
structure GI (w W:World) (pa:Option Addr) (pc:Nat) (picks:List Int) (po:Nat) (out:List M.Nd) (v:Value):Prop where
 q0:W.heap[w.heap.size]?=some (.cells #[v] 23 (0,0))
 q1:W.heap[w.heap.size+1]?=some (.cells #[.func (.func 60) #[] #[qv w.heap.size 0]] 105 (0,0))
 q2:W.heap[w.heap.size+2]?=some (.cells #[sv pa picks.length pc] 26 (0,0))
 q3:W.heap[w.heap.size+3]?=some (.cells #[iv po] 3 (0,0))
 q4:W.heap[w.heap.size+4]?=some (.cells #[.func (.func 86) #[] #[qv (w.heap.size+3) 0,qv (w.heap.size+2) 0]] 106 (0,0))
 q5:W.heap[w.heap.size+5]?=some (.cells #[.func (.func 62) #[] #[qv (w.heap.size+1) 0,qv (w.heap.size+4) 0,qv (w.heap.size+5) 0]] 108 (0,0))
 row:W.ownsRow (w.heap.size+6) 75 3 v out.length (out.flatMap encNd)
 below:Below w.heap.size w W
theorem GI.alloc {w W:World} {pa:Option Addr} {pc:Nat} {picks:List Int} {po:Nat} {out:List M.Nd} {v:Value} (h:GI w W pa pc picks po out v) (o:Obj):GI w (W.alloc o) pa pc picks po out v :=
 have hb:=(Below.refl W.heap.size W).alloc (Nat.le_refl _) o
 ⟨(hb.block _ (lt1 h.q0)).trans h.q0,(hb.block _ (lt1 h.q1)).trans h.q1,(hb.block _ (lt1 h.q2)).trans h.q2,(hb.block _ (lt1 h.q3)).trans h.q3,(hb.block _ (lt1 h.q4)).trans h.q4,(hb.block _ (lt1 h.q5)).trans h.q5,h.row.alloc o,h.below.trans (hb.mono h.below.size)⟩
theorem GI.push {w W X:World} {pa:Option Addr} {pc:Nat} {picks:List Int} {po:Nat} {out:List M.Nd} {v v':Value} {n:M.Nd} (h:GI w W pa pc picks po out v) (hg:W.grownBy X v.ownBlock)
  (hr:X.ownsRow (w.heap.size+6) 75 3 v' (out.length+1) (out.flatMap encNd ++ encNd n)):GI w (X.setCell (qa w.heap.size 0) v') pa pc picks po (out ++ [n]) v':=by
 have z0:=block_keptP h.row hg h.q0 (by decide)
 refine⟨setB' z0 _,(Below.heap_setCell _ _ _ _ (by show w.heap.size+1≠w.heap.size;omega)).trans (block_keptP h.row hg h.q1 (by decide)),(Below.heap_setCell _ _ _ _ (by show w.heap.size+2≠w.heap.size;omega)).trans (block_keptP h.row hg h.q2 (by decide)),
  (Below.heap_setCell _ _ _ _ (by show w.heap.size+3≠w.heap.size;omega)).trans (block_keptP h.row hg h.q3 (by decide)),(Below.heap_setCell _ _ _ _ (by show w.heap.size+4≠w.heap.size;omega)).trans (block_keptP h.row hg h.q4 (by decide)),(Below.heap_setCell _ _ _ _ (by show w.heap.size+5≠w.heap.size;omega)).trans (block_keptP h.row hg h.q5 (by decide)),?_,?_⟩
 ·rw[List.length_append,List.flatMap_append]
  have:=row_setP hr z0 (i:=0) (u:=v') (by decide)
  simpa [List.flatMap_cons] using this
 ·exact (h.below.grown hg h.below.size (fun k hk=>by have:=(h.row.lt k hk).1;omega)).setCell (Nat.le_refl _) _
theorem GI.pos {w W:World} {pa:Option Addr} {pc:Nat} {picks:List Int} {po:Nat} {out:List M.Nd} {v:Value} (h:GI w W pa pc picks po out v) (p:Nat):GI w (W.setCell (qa (w.heap.size+3) 0) (iv p)) pa pc picks p out v :=
 ⟨(Below.heap_setCell _ _ _ _ (by show w.heap.size≠w.heap.size+3;omega)).trans h.q0,(Below.heap_setCell _ _ _ _ (by show w.heap.size+1≠w.heap.size+3;omega)).trans h.q1,(Below.heap_setCell _ _ _ _ (by show w.heap.size+2≠w.heap.size+3;omega)).trans h.q2,setB' h.q3 _,
  (Below.heap_setCell _ _ _ _ (by show w.heap.size+4≠w.heap.size+3;omega)).trans h.q4,(Below.heap_setCell _ _ _ _ (by show w.heap.size+5≠w.heap.size+3;omega)).trans h.q5,row_setP h.row h.q3 (by decide),h.below.setCell (by show w.heap.size≤w.heap.size+3;omega) _⟩
set_option maxHeartbeats 4000000 in
set_option maxRecDepth 100000 in
theorem add_any (x y z:Int) (w W:World) (pa:Option Addr) (pc:Nat) (picks:List Int) (po:Nat) (out:List M.Nd) (v:Value) (hG:GI w W pa pc picks po out v) (hl:out.length≤1000) :
  Calls Tryz.prog 60 #[.agg #[iv x,iv y,iv z],qv w.heap.size 0] W fun e w'=>e=.returned (iv out.length)∧∃ v',GI w w' pa pc picks po (out ++ [⟨x,y,z⟩]) v':=by
 obtain⟨i1,hi1,hy0,hy1,hy2⟩:=info_parts (P:=Tryz.prog) (e:=75) (z:=.agg #[iv 0,iv 0,iv 0]) (size:=3) (bytes:=24) (by kernel_rfl)
 obtain⟨ad,cc,rfl⟩:=own_len hG.row
 have HG:Hid (GI w W pa pc picks po out (sv ad out.length cc)):=hG
 have hlt:=lt1 hG.q5
 clear hG
 go_enter Tryz.func60,Tryz.ntmps60
 go_upto_region 1 with fail
 have p1:=heap_alloc_new W (.cells #[iv x,iv y,iv z] 75)
 have HX:Hid (GI w (W.alloc (.cells #[iv x,iv y,iv z] 75)) pa pc picks po out (sv ad out.length cc)):=HG.out.alloc _
 clear HG
 generalize W.alloc (.cells #[iv x,iv y,iv z] 75)=Y at *
 generalize W.heap.size=nb at *
 have k0:=cellC p1 0 rfl
 have k1:=cellC p1 1 rfl
 have k2:=cellC p1 2 rfl
 have kv:Y.cell? (qa w.heap.size 0)=some (sv ad out.length cc):=cellB HX.out.q0 0
 have hlY:=lt1 p1
 have hl0:w.heap.size<Y.heap.size:=by omega
 have hrow:=HX.out.row
 have hnews:∀ j u,(#[iv x,iv y,iv z]:Array Value).toList[j]?=some u→(Y.alloc (.cells #[iv x,iv y,iv z] 75)).cell? ((qa Y.heap.size 0).add j)=some u:=World.news_of_block (heap_alloc_new Y _)
 have HY:Hid (GI w (Y.alloc (.cells #[iv x,iv y,iv z] 75)) pa pc picks po out (sv ad out.length cc)):=HX.out.alloc _
 have HQ:Hid (∀ X,(Y.alloc (.cells #[iv x,iv y,iv z] 75)).grownBy X (sv ad out.length cc).ownBlock→X.heap[w.heap.size]?=some (.cells #[sv ad out.length cc] 23 (0,0))):=fun X hX=>block_keptP HY.out.row hX HY.out.q0 (by decide)
 clear HX p1
 go_wp2_with (at_builtin;refine wpList_append_own _ rfl _ _ 23 rfl (w.heap.size+6) 75 i1 (.agg #[iv 0,iv 0,iv 0]) 3 24 Tryz.underlying23 hi1 hy0 hy1 hy2 rfl (by decide) _ _ _ rfl (hrow.alloc _) ⟨Y.heap.size,0,none⟩ 1 1 (#[iv x,iv y,iv z]:Array Value).toList rfl rfl hnews (fun u hu=>by simp at hu;rcases hu with rfl | rfl | rfl <;> rfl) (by unfold maxLen;omega) (by omega) (by simp;omega) ?_;intro v' w3 hown' hgrow3 hnil3;obtain⟨z1,z2,rfl⟩:=own_len hown';have k3:=HQ.out w3 hgrow3;have c3:=cellC k3 0 rfl;have f3:=frozenB k3 0;have l3:w.heap.size<w3.heap.size:=(lt1 k3))
 go_ret
 exact⟨ret_int (by omega),_,HY.out.push hgrow3 hown'⟩
theorem tmod_emod (x n:Int) (hn:0<n):x % n=if x.tmod n<0 then x.tmod n+n else x.tmod n:=by
 have h1:=Int.mul_tdiv_add_tmod x n
 have h2:(x.tmod n).natAbs<n.natAbs:=by
  rw[Int.natAbs_tmod]
  exact Nat.mod_lt _ (by omega)
 have h3:x % n=(x.tmod n) % n:=by
  conv=>lhs;rw[← h1]
  rw[Int.add_comm,Int.add_mul_emod_self_left]
 rw[h3]
 split
 ·rw[← Int.add_emod_right]
  exact Int.emod_eq_of_lt (by omega) (by omega)
 ·exact Int.emod_eq_of_lt (by omega) (by omega)
set_option maxHeartbeats 4000000 in
set_option maxRecDepth 100000 in
theorem pick_any (n:Int) (w W:World) (pa:Option Addr) (pc:Nat) (picks:List Int) (po:Nat) (out:List M.Nd) (v:Value) (hp:IntsAt w (sv pa picks.length pc) picks) (hG:GI w W pa pc picks po out v) (hpo:po≤picks.length) (h1:1≤n) (h2:n≤100) :
  Calls Tryz.prog 86 #[iv n,qv (w.heap.size+3) 0,qv (w.heap.size+2) 0] W fun e w'=>e=.returned (iv (M.pick (picks.drop po) n).1)∧∃ p',p'≤picks.length∧GI w w' pa pc picks p' out v∧picks.drop p'=(M.pick (picks.drop po) n).2:=by
 have hpl:picks.length≤maxLen:=by obtain⟨_,_,_,h⟩:=SlAt.form hp;exact h
 unfold maxLen at hpl
 have c3:W.cell? (qa (w.heap.size+3) 0)=some (iv po):=cellB hG.q3 0
 have f3:=frozenB hG.q3 0
 have c2:W.cell? (qa (w.heap.size+2) 0)=some (sv pa picks.length pc):=cellB hG.q2 0
 have l3:=lt1 hG.q3
 have l2:w.heap.size+2<W.heap.size:=by omega
 by_cases hlt:po<picks.length
 ·obtain⟨b,off,rfl,e0,hb⟩:=(hp.later hG.below).cell po hlt
  have HR:Hid ((M.pick (picks.drop po) n)=(picks.getD po 0 % n,picks.drop (po+1))):=by
   rw[Hid,drop_getD picks 0 po hlt];rfl
  have HG:Hid (GI w (W.setCell (qa (w.heap.size+3) 0) (iv ((po:Int)+1))) (some (qa b off)) pc picks (po+1) out v):=hG.pos (po+1)
  have hlt':(po:Int)<(picks.length:Int):=by omega
  have hge:¬ ((picks.length:Int)≤(po:Int)):=by omega
  have hpo0:(0:Int)≤(po:Int):=by omega
  clear hG hp
  generalize picks.getD po 0=x at *
  have hn0:(n==0)=false:=by rw[beq_eq_false_iff_ne];omega
  have HM:Hid (x % n=if x.tmod n<0 then x.tmod n+n else x.tmod n):=tmod_emod x n (by omega)
  have hr:-100≤x.tmod n∧x.tmod n≤100:=by
   have h2:(x.tmod n).natAbs<n.natAbs:=by
    rw[Int.natAbs_tmod]
    exact Nat.mod_lt _ (by omega)
   omega
  by_cases hneg:x.tmod n<0
  ·have HV:Hid (x.tmod n+n=x % n):=by rw[Hid,HM.out,if_pos hneg]
   clear HM
   go_enter Tryz.func86,Tryz.ntmps86
   go_wp2_with fail
   go_ret
   exact⟨ret_int (by rw[HR.out];exact HV.out),po+1,by omega,HG.out,by rw[HR.out]⟩
  ·have HV:Hid (x.tmod n=x % n):=by rw[Hid,HM.out,if_neg hneg]
   clear HM
   go_enter Tryz.func86,Tryz.ntmps86
   go_wp2_with fail
   go_ret
   exact⟨ret_int (by rw[HR.out];exact HV.out),po+1,by omega,HG.out,by rw[HR.out]⟩
 ·have HR:Hid ((M.pick (picks.drop po) n)=(0,[])):=by
   rw[Hid,List.drop_eq_nil_of_le (by omega)];rfl
  have HG:Hid (GI w W pa pc picks po out v):=hG
  have hge:((picks.length:Int)≤(po:Int)):=by omega
  clear hG hp
  go_enter Tryz.func86,Tryz.ntmps86
  go_wp2_with fail
  go_ret
  exact⟨ret_int (by rw[HR.out]),po,hpo,HG.out,by rw[HR.out,List.drop_eq_nil_of_le (by omega)]⟩
end Go.Proofs.YtebippbakbihiaaGreatDoor
namespace Go.Proofs.YtebippbakbihiaaGreatDoor
open Go Go.RowKit
set_option linter.unusedVariables false
attribute [local go_sem] run_store_fnP
theorem grow_size (f n:Nat) (first:Int) (ps:List Int) (b:Nat) (h1:1≤n) (hf:n≤f):(M.growT f first n ps b).1.length+1=2*n:=by
 have:=(M.t_pos f _ _ _ (M.grow_t f n first ps b h1 hf)).2
 rwa [M.rise_len] at this
structure GO (w w':World) (pa:Option Addr) (pc:Nat) (picks:List Int) (out:List M.Nd) (G:List M.Nd × List Int):Prop where
 ex:∃ p' v',p'≤picks.length∧GI w w' pa pc picks p' (out ++ G.1) v'∧picks.drop p'=G.2
set_option maxHeartbeats 8000000 in
set_option maxRecDepth 100000 in
theorem grow_any (w:World) (pa:Option Addr) (pc:Nat) (picks:List Int) (hp:IntsAt w (sv pa picks.length pc) picks):∀ (f n:Nat) (first:Int) (W:World) (po:Nat) (out:List M.Nd) (v:Value),1≤n→n≤f→0≤first→first+n≤12→out.length+2*n≤100→po≤picks.length→GI w W pa pc picks po out v →
  Calls Tryz.prog 62 #[iv first,iv n,qv (w.heap.size+1) 0,qv (w.heap.size+4) 0,qv (w.heap.size+5) 0] W fun e w'=>e=.returned (iv ((out.length+(M.growT f first n (picks.drop po) out.length).1.length - 1:Nat):Int))∧GO w w' pa pc picks out (M.growT f first n (picks.drop po) out.length)
 | 0,n,_,_,_,_,_,h1,hf,_,_,_,_,_=>by omega
 | f+1,n,first,W,po,out,v,h1,hf,hf0,hf12,ho,hpo,hG=>by
  have c1:W.cell? (qa (w.heap.size+1) 0)=some (.func (.func 60) #[] #[qv w.heap.size 0]):=cellB hG.q1 0
  have c4:W.cell? (qa (w.heap.size+4) 0)=some (.func (.func 86) #[] #[qv (w.heap.size+3) 0,qv (w.heap.size+2) 0]):=cellB hG.q4 0
  have l5:=lt1 hG.q5
  have l1:w.heap.size+1<W.heap.size:=by omega
  have l4:w.heap.size+4<W.heap.size:=by omega
  by_cases hn:n=1
  ·subst hn
   have HR:Hid (M.growT (f+1) first 1 (picks.drop po) out.length=([⟨first,0,0⟩],picks.drop po)):=by rw[Hid,M.growT,if_pos rfl]
   have KA:Hid (Calls Tryz.prog 60 #[.agg #[iv first,iv 0,iv 0],qv w.heap.size 0] W fun e w'=>e=.returned (iv out.length)∧∃ v',GI w w' pa pc picks po (out ++ [⟨first,0,0⟩]) v'):=add_any first 0 0 w W pa pc picks po out v hG (by omega)
   clear hG
   go_enter Tryz.func62,Tryz.ntmps62
   go_wp2_with (go_at_call 60;refine KA.out.mono ?_;rintro e w1 ⟨rfl,hA⟩)
   go_ret
   obtain⟨v',hA⟩:=hA
   refine⟨ret_int (by rw[HR.out];simp),⟨po,v',hpo,by rw[HR.out];exact hA,by rw[HR.out]⟩⟩
  ·have HLf:=M.left_lt (picks.drop po) n (by omega)
   have HR:Hid (M.growT (f+1) first n (picks.drop po) out.length=M.over out.length (M.growT f first (M.onLeft (picks.drop po) n) (M.pick (picks.drop po) ((n:Int) - 1)).2 out.length).1
     (M.growT f (first+(M.onLeft (picks.drop po) n:Nat)) (n - M.onLeft (picks.drop po) n) (M.growT f first (M.onLeft (picks.drop po) n) (M.pick (picks.drop po) ((n:Int) - 1)).2 out.length).2 (out.length+(M.growT f first (M.onLeft (picks.drop po) n) (M.pick (picks.drop po) ((n:Int) - 1)).2 out.length).1.length))):=by rw[Hid,M.growT,if_neg hn]
   have HP:=M.pick_lt (picks.drop po) ((n:Int) - 1) (by omega)
   have HOn:Hid ((M.onLeft (picks.drop po) n:Int)=(M.pick (picks.drop po) ((n:Int) - 1)).1+1):=by
    unfold M.onLeft
    rw[Hid]
    omega
   have KP:Hid (Calls Tryz.prog 86 #[iv ((n:Int) - 1),qv (w.heap.size+3) 0,qv (w.heap.size+2) 0] W fun e w'=>e=.returned (iv (M.pick (picks.drop po) ((n:Int) - 1)).1)∧∃ p',p'≤picks.length∧GI w w' pa pc picks p' out v∧picks.drop p'=(M.pick (picks.drop po) ((n:Int) - 1)).2):=pick_any ((n:Int) - 1) w W pa pc picks po out v hp hG hpo (by omega) (by omega)
   have IH:=grow_any w pa pc picks hp f
   have hn1:((n:Int)==1)=false:=by rw[beq_eq_false_iff_ne];omega
   clear hG hn c1
   generalize M.growT (f+1) first n (picks.drop po) out.length=G at *
   generalize M.onLeft (picks.drop po) n=o at *
   generalize M.pick (picks.drop po) ((n:Int) - 1)=pk at *
   obtain⟨kk,ps1⟩:=pk
   simp only at HP HOn KP HR
   have hk0:=HP.1
   have hk1:=HP.2
   clear HP
   go_enter Tryz.func62,Tryz.ntmps62
   go_upto_region 4 with (go_at_call 86;refine KP.out.mono ?_;rintro e X ⟨rfl,hX⟩)
   rw[← HOn.out]
   obtain⟨p1,hp1,hX,hd1⟩:=hX
   have HX:Hid (GI w X pa pc picks p1 out v):=hX
   have sz1:=grow_size f o first ps1 out.length (by omega) (by omega)
   have K1:Hid (Calls Tryz.prog 62 #[iv first,iv o,qv (w.heap.size+1) 0,qv (w.heap.size+4) 0,qv (w.heap.size+5) 0] X fun e w'=>e=.returned (iv ((out.length+(M.growT f first o ps1 out.length).1.length - 1:Nat):Int))∧GO w w' pa pc picks out (M.growT f first o ps1 out.length)):=by
    have:=IH o first X p1 out v (by omega) (by omega) hf0 (by omega) (by omega) hp1 hX
    rw[hd1] at this
    exact this
   clear KP hX hd1 hp1 c4 l1 l4 l5 HOn hk0 hk1
   generalize M.growT f first o ps1 out.length=G1 at *
   obtain⟨g1,ps2⟩:=G1
   simp only at sz1 K1 HR
   have c5:X.cell? (qa (w.heap.size+5) 0)=some (.func (.func 62) #[] #[qv (w.heap.size+1) 0,qv (w.heap.size+4) 0,qv (w.heap.size+5) 0]):=cellB HX.out.q5 0
   have l5:=lt1 HX.out.q5
   clear HX
   go_upto_region 5 with (go_at_call 62;refine K1.out.mono ?_;rintro e Y ⟨rfl,hY⟩)
   obtain⟨p2,v2,hp2,hY,hd2⟩:=hY.ex
   simp only at hd2 hY
   have HY:Hid (GI w Y pa pc picks p2 (out ++ g1) v2):=hY
   have sz2:=grow_size f (n - o) (first+o) ps2 (out.length+g1.length) (by omega) (by omega)
   have K2:Hid (Calls Tryz.prog 62 #[iv (first+o),iv ((n:Int) - o),qv (w.heap.size+1) 0,qv (w.heap.size+4) 0,qv (w.heap.size+5) 0] Y fun e w'=>e=.returned (iv ((out.length+g1.length+(M.growT f (first+o) (n - o) ps2 (out.length+g1.length)).1.length - 1:Nat):Int))∧GO w w' pa pc picks (out ++ g1) (M.growT f (first+o) (n - o) ps2 (out.length+g1.length))):=by
    have:=IH (n - o) (first+o) Y p2 (out ++ g1) v2 (by omega) (by omega) (by omega) (by omega) (by rw[List.length_append];omega) hp2 hY
    rw[hd2,List.length_append,show ((n - o:Nat):Int)=(n:Int) - o by omega] at this
    exact this
   clear K1 hY hd2 hp2 c5 l5 IH
   generalize M.growT f (first+o) (n - o) ps2 (out.length+g1.length)=G2 at *
   obtain⟨g2,ps3⟩:=G2
   simp only at sz2 K2 HR
   have c5:Y.cell? (qa (w.heap.size+5) 0)=some (.func (.func 62) #[] #[qv (w.heap.size+1) 0,qv (w.heap.size+4) 0,qv (w.heap.size+5) 0]):=cellB HY.out.q5 0
   have l5:=lt1 HY.out.q5
   clear HY
   generalize hb1:out.length+g1.length - 1=b1
   go_upto_region 6 with (go_at_call 62;refine K2.out.mono ?_;rintro e Z ⟨rfl,hZ⟩)
   obtain⟨p3,v3,hp3,hZ,hd3⟩:=hZ.ex
   simp only at hd3 hZ
   have HZ:Hid (GI w Z pa pc picks p3 (out ++ g1 ++ g2) v3):=hZ
   have c1:Z.cell? (qa (w.heap.size+1) 0)=some (.func (.func 60) #[] #[qv w.heap.size 0]):=cellB hZ.q1 0
   have l5':=lt1 hZ.q5
   have l1:w.heap.size+1<Z.heap.size:=by omega
   generalize hb2:out.length+g1.length+g2.length - 1=b2
   have KA:Hid (Calls Tryz.prog 60 #[.agg #[iv (-1),iv b1,iv b2],qv w.heap.size 0] Z fun e w'=>e=.returned (iv (out ++ g1 ++ g2).length)∧∃ v',GI w w' pa pc picks p3 (out ++ g1 ++ g2 ++ [⟨-1,b1,b2⟩]) v'):=add_any (-1) b1 b2 w Z pa pc picks p3 (out ++ g1 ++ g2) v3 hZ (by simp only[List.length_append];omega)
   have HR2:Hid (G=(g1 ++ g2 ++ [⟨-1,b1,b2⟩],ps3)):=by rw[Hid,HR.out,← hb1,← hb2];rfl
   have HL:Hid ((out ++ g1 ++ g2).length=out.length+(g1 ++ g2 ++ [(⟨-1,b1,b2⟩:M.Nd)]).length - 1):=by simp only[Hid,List.length_append,List.length_cons,List.length_nil];omega
   generalize hln:(out ++ g1 ++ g2).length=ln at KA HL
   clear hZ HR K2 HZ hb1 hb2 sz1 sz2
   have Hd3:Hid (picks.drop p3=ps3):=hd3
   clear hd3 hln
   go_wp2_with (go_at_call 60;refine KA.out.mono ?_;rintro e w1 ⟨rfl,hA⟩)
   go_ret
   obtain⟨v',hA⟩:=hA
   refine⟨ret_int (by rw[HR2.out,HL.out]),⟨p3,v',hp3,?_,by rw[HR2.out];exact Hd3.out⟩⟩
   rw[HR2.out]
   simpa only[List.append_assoc] using hA
theorem new_at (w:World) (o:Obj) (n:Nat) (h:w.heap.size=n):(w.alloc o).heap[n]?=some o:=by subst h;exact heap_alloc_new w o
theorem old_at (w:World) (o:Obj) (n m:Nat) (h:w.heap.size=m) (hn:n<m):(w.alloc o).heap[n]?=w.heap[n]?:=heap_alloc_old w o (by omega)
theorem heap6 (w:World) (o0 o1 o2 o3 o4 o5:Obj):(((((((w.alloc o0).alloc o1).alloc o2).alloc o3).alloc o4).alloc o5).heap[w.heap.size]?=some o0)∧(((((((w.alloc o0).alloc o1).alloc o2).alloc o3).alloc o4).alloc o5).heap[w.heap.size+1]?=some o1)∧(((((((w.alloc o0).alloc o1).alloc o2).alloc o3).alloc o4).alloc o5).heap[w.heap.size+2]?=some o2)
  ∧ (((((((w.alloc o0).alloc o1).alloc o2).alloc o3).alloc o4).alloc o5).heap[w.heap.size+3]?=some o3)∧(((((((w.alloc o0).alloc o1).alloc o2).alloc o3).alloc o4).alloc o5).heap[w.heap.size+4]?=some o4)∧(((((((w.alloc o0).alloc o1).alloc o2).alloc o3).alloc o4).alloc o5).heap[w.heap.size+5]?=some o5):=by
 have s1:(w.alloc o0).heap.size=w.heap.size+1:=by simp
 have s2:((w.alloc o0).alloc o1).heap.size=w.heap.size+2:=by simp
 have s3:(((w.alloc o0).alloc o1).alloc o2).heap.size=w.heap.size+3:=by simp
 have s4:((((w.alloc o0).alloc o1).alloc o2).alloc o3).heap.size=w.heap.size+4:=by simp
 have s5:(((((w.alloc o0).alloc o1).alloc o2).alloc o3).alloc o4).heap.size=w.heap.size+5:=by simp
 have k5:∀ n,n<w.heap.size+5→((((((w.alloc o0).alloc o1).alloc o2).alloc o3).alloc o4).alloc o5).heap[n]?=(((((w.alloc o0).alloc o1).alloc o2).alloc o3).alloc o4).heap[n]?:=fun n h=>old_at _ _ n _ s5 h
 have k4:∀ n,n<w.heap.size+4→(((((w.alloc o0).alloc o1).alloc o2).alloc o3).alloc o4).heap[n]?=((((w.alloc o0).alloc o1).alloc o2).alloc o3).heap[n]?:=fun n h=>old_at _ _ n _ s4 h
 have k3:∀ n,n<w.heap.size+3→((((w.alloc o0).alloc o1).alloc o2).alloc o3).heap[n]?=(((w.alloc o0).alloc o1).alloc o2).heap[n]?:=fun n h=>old_at _ _ n _ s3 h
 have k2:∀ n,n<w.heap.size+2→(((w.alloc o0).alloc o1).alloc o2).heap[n]?=((w.alloc o0).alloc o1).heap[n]?:=fun n h=>old_at _ _ n _ s2 h
 have k1:∀ n,n<w.heap.size+1→((w.alloc o0).alloc o1).heap[n]?=(w.alloc o0).heap[n]?:=fun n h=>old_at _ _ n _ s1 h
 refine⟨?_,?_,?_,?_,?_,?_⟩
 ·rw[k5 _ (by omega),k4 _ (by omega),k3 _ (by omega),k2 _ (by omega),k1 _ (by omega)];exact heap_alloc_new w o0
 ·rw[k5 _ (by omega),k4 _ (by omega),k3 _ (by omega),k2 _ (by omega)];exact new_at _ _ _ s1
 ·rw[k5 _ (by omega),k4 _ (by omega),k3 _ (by omega)];exact new_at _ _ _ s2
 ·rw[k5 _ (by omega),k4 _ (by omega)];exact new_at _ _ _ s3
 ·rw[k5 _ (by omega)];exact new_at _ _ _ s4
 ·exact new_at _ _ _ s5
theorem own_baseP {w:World} {B B' k n:Nat} {e:TypeId} {v:Value} {xs:List Value} (h:w.ownsRow B e k v n xs) (hb:B'≤B):w.ownsRow B' e k v n xs :=
 ⟨h.1,h.2.imp id fun ⟨g,cap,cur,h1,h2,r⟩=>⟨g,cap,cur,h1,Nat.le_trans hb h2,r⟩⟩
theorem picker_any (a:Option Addr) (n c:Nat) (w:World) :
  Calls Tryz.prog 61 #[sv a n c] w fun e w'=>e=.returned (.func (.func 86) #[] #[qv (w.heap.size+1) 0,qv w.heap.size 0])∧((w.alloc (.cells #[sv a n c] 26)).alloc (.cells #[iv 0] 3))=w':=by
 go_enter Tryz.func61,Tryz.ntmps61
 go_wp2
 go_ret
 exact⟨rfl,rfl⟩
set_option maxHeartbeats 4000000 in
set_option maxRecDepth 100000 in
theorem make_any (n:Int) (picks:List Int) (pa:Option Addr) (pc:Nat) (w:World) (hp:IntsAt w (sv pa picks.length pc) picks) :
  Calls Tryz.prog 26 #[iv n,sv pa picks.length pc] w fun e w'=>Below w.heap.size w w'∧∃ v,e=.returned (.tuple #[v,iv (M.makeE n picks)])∧w'.ownsRow w.heap.size 75 3 v (M.make n picks).length ((M.make n picks).flatMap encNd):=by
 have KF:Hid (Calls Tryz.prog 59 #[iv n] w fun e w'=>e=.returned (.bool (M.fewParts n))∧w=w'):=(fewParts_any n w).mono fun e w' ⟨h1,h2⟩=>⟨h1,h2.symm⟩
 have hnil:∀ (W:World),W.ownsRow w.heap.size 75 3 (sv none 0 0) 0 []:=fun W=>World.ownsRow_nil _ _ _ _
 cases hf:M.fewParts n
 ·have HE:Hid (M.makeE n picks=3):=by rw[Hid,M.makeE,if_pos hf]
  have HM:Hid (M.make n picks=[]):=by rw[Hid,M.make,HE.out];rfl
  rw[HE.out,HM.out]
  rw[hf] at KF
  go_enter Tryz.func26,Tryz.ntmps26
  go_wp2_with (go_at_call 59;refine KF.out.mono ?_;rintro e w1 ⟨rfl,rfl⟩)
  go_ret2
  exact⟨Below.refl _ _,_,rfl,hnil _⟩
 rw[hf] at KF
 by_cases h23:23<picks.length
 ·have HE:Hid (M.makeE n picks=2):=by rw[Hid,M.makeE,if_neg (by rw[hf];simp),if_pos h23]
  have HM:Hid (M.make n picks=[]):=by rw[Hid,M.make,HE.out];rfl
  have h23':(23:Int)<(picks.length:Int):=by omega
  have hpl:picks.length≤maxLen:=by obtain⟨_,_,_,h⟩:=SlAt.form hp;exact h
  unfold maxLen at hpl
  rw[HE.out,HM.out]
  clear h23
  go_enter Tryz.func26,Tryz.ntmps26
  go_wp2_with (go_at_call 59;refine KF.out.mono ?_;rintro e w1 ⟨rfl,rfl⟩)
  go_ret2
  exact⟨Below.refl _ _,_,rfl,hnil _⟩
 ·have HE:Hid (M.makeE n picks=0):=by rw[Hid,M.makeE,if_neg (by rw[hf];simp),if_neg h23]
  have hn:=(M.fewParts_iff n).1 hf
  obtain⟨k,rfl⟩:∃ k:Nat,n=(k:Int):=⟨n.toNat,by omega⟩
  have HM:Hid (M.make k picks=(M.growT k 0 k picks 0).1):=by rw[Hid,M.make,HE.out,if_pos rfl,Int.toNat_natCast];rfl
  rw[HE.out,HM.out]
  have h23':¬ (23:Int)<(picks.length:Int):=by omega
  have KP:Hid (∀ W,Calls Tryz.prog 61 #[sv pa picks.length pc] W fun e w'=>e=.returned (.func (.func 86) #[] #[qv (W.heap.size+1) 0,qv W.heap.size 0])∧((W.alloc (.cells #[sv pa picks.length pc] 26)).alloc (.cells #[iv 0] 3))=w'):=fun W=>picker_any pa picks.length pc W
  clear h23 hf
  go_enter Tryz.func26,Tryz.ntmps26
  go_upto_region 10 with (first | (go_at_call 59;refine KF.out.mono ?_;rintro e w1 ⟨rfl,rfl⟩) | (go_at_call 61;refine (KP.out _).mono ?_;rintro e w1 ⟨rfl,rfl⟩))
  rw[show w.heap.size+1+1+1+1+1=w.heap.size+5 from rfl,show w.heap.size+1+1+1+1=w.heap.size+4 from rfl,show w.heap.size+1+1+1=w.heap.size+3 from rfl,show w.heap.size+1+1=w.heap.size+2 from rfl]
  have HI:Hid (GI w ((((((w.alloc (.cells #[sv none 0 0] 23)).alloc (.cells #[.func (.func 60) #[] #[qv w.heap.size 0]] 105)).alloc (.cells #[sv pa picks.length pc] 26)).alloc (.cells #[iv 0] 3)).alloc (.cells #[.func (.func 86) #[] #[qv (w.heap.size+3) 0,qv (w.heap.size+2) 0]] 106)).alloc (.cells #[.func (.func 62) #[] #[qv (w.heap.size+1) 0,qv (w.heap.size+4) 0,qv (w.heap.size+5) 0]] 108)) pa pc picks 0 [] (sv none 0 0)):=by
   obtain⟨h0,h1,h2,h3,h4,h5⟩:=heap6 w (.cells #[sv none 0 0] 23) (.cells #[.func (.func 60) #[] #[qv w.heap.size 0]] 105) (.cells #[sv pa picks.length pc] 26) (.cells #[iv 0] 3) (.cells #[.func (.func 86) #[] #[qv (w.heap.size+3) 0,qv (w.heap.size+2) 0]] 106) (.cells #[.func (.func 62) #[] #[qv (w.heap.size+1) 0,qv (w.heap.size+4) 0,qv (w.heap.size+5) 0]] 108)
   exact⟨h0,h1,h2,h3,h4,h5,World.ownsRow_nil _ _ _ _,((((((Below.refl _ _).alloc (Nat.le_refl _) _).alloc (by simp) _).alloc (by simp;omega) _).alloc (by simp;omega) _).alloc (by simp;omega) _).alloc (by simp;omega) _⟩
  generalize (((((w.alloc (.cells #[sv none 0 0] 23)).alloc (.cells #[.func (.func 60) #[] #[qv w.heap.size 0]] 105)).alloc (.cells #[sv pa picks.length pc] 26)).alloc (.cells #[iv 0] 3)).alloc (.cells #[.func (.func 86) #[] #[qv (w.heap.size+3) 0,qv (w.heap.size+2) 0]] 106)).alloc (.cells #[.func (.func 62) #[] #[qv (w.heap.size+1) 0,qv (w.heap.size+4) 0,qv (w.heap.size+5) 0]] 108)=W at *
  have KG:Hid (Calls Tryz.prog 62 #[iv 0,iv k,qv (w.heap.size+1) 0,qv (w.heap.size+4) 0,qv (w.heap.size+5) 0] W fun e w'=>e=.returned (iv ((0+(M.growT k 0 k picks 0).1.length - 1:Nat):Int))∧GO w w' pa pc picks [] (M.growT k 0 k picks 0)):=grow_any w pa pc picks hp k k 0 W 0 [] _ (by omega) (Nat.le_refl _) (Int.le_refl _) (by omega) (by show 0+_≤_;omega) (Nat.zero_le _) HI.out
  generalize hGG:M.growT k 0 k picks 0=G at KG
  obtain⟨g,ps⟩:=G
  have HGG:Hid (M.growT k 0 k picks 0=(g,ps)):=hGG
  clear hGG
  simp only at KG
  have c5:W.cell? (qa (w.heap.size+5) 0)=some (.func (.func 62) #[] #[qv (w.heap.size+1) 0,qv (w.heap.size+4) 0,qv (w.heap.size+5) 0]):=cellB HI.out.q5 0
  have l5:=lt1 HI.out.q5
  clear HI KP KF HE HM
  go_upto_region 11 with (go_at_call 62;refine KG.out.mono ?_;rintro e Y ⟨rfl,hY⟩)
  obtain⟨p',v',_,hY,_⟩:=hY.ex
  simp only[List.nil_append] at hY
  have HY:Hid (GI w Y pa pc picks p' g v'):=hY
  obtain⟨ad,cc,rfl⟩:=own_len hY.row
  have c0:Y.cell? (qa w.heap.size 0)=some (sv ad g.length cc):=cellB hY.q0 0
  have l0:=lt1 hY.q0
  clear hY KG c5 l5
  go_wp2
  go_ret2
  exact⟨HY.out.below,sv ad g.length cc,rfl,by rw[HGG.out];exact own_baseP HY.out.row (Nat.le_add_right _ 6)⟩
end Go.Proofs.YtebippbakbihiaaGreatDoor
namespace Go.Proofs.YtebippbakbihiaaGreatDoor
open Go Go.RowKit
set_option linter.unusedVariables false
theorem make_ok {n:Int} {ps:List Int} (h:M.makeE n ps=0):∃ k:Nat,n=(k:Int)∧1≤k∧k≤12∧ps.length≤23∧M.make n ps=M.makeL k ps:=by
 have h0:=h
 unfold M.makeE at h
 split at h
 ·exact absurd h (by decide)
 rename_i h1
 split at h
 ·exact absurd h (by decide)
 rename_i h2
 have hf:=(M.fewParts_iff n).1 (by simpa using h1)
 refine⟨n.toNat,by omega,by omega,by omega,by omega,?_⟩
 rw[M.make,if_pos h0]
theorem make_v (n:Int) (picks:List Int) (pa:Option Addr) (pc:Nat) (w:World) (hp:IntsAt w (sv pa picks.length pc) picks) :
  Calls Tryz.prog 26 #[iv n,sv pa picks.length pc] w fun e w'=>Below w.heap.size w w'∧∃ a c,e=.returned (.tuple #[sv a (M.make n picks).length c,iv (M.makeE n picks)])∧NodesAt w' (sv a (M.make n picks).length c) (M.make n picks)∧(M.make n picks).length≤c :=
 (make_any n picks pa pc w hp).mono fun e w' ⟨h1,v,h2,h3⟩=>by
   have hc:∃ a c,v=sv a (M.make n picks).length c∧(M.make n picks).length≤c:=by
    rcases h3.2 with ⟨e1,e2⟩ | ⟨g,cap,cur,e1,_,_,e2,_⟩
    ·exact⟨none,0,by rw[e1,e2],by omega⟩
    ·exact⟨_,_,e1,e2⟩
   obtain⟨a,c,rfl,hle⟩:=hc
   exact⟨h1,a,c,h2,row_nodes h3,hle⟩
end Go.Proofs.YtebippbakbihiaaGreatDoor
