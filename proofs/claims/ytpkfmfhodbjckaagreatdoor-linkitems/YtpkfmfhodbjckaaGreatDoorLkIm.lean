/-
  What link.image has in memory. One statement of link.image: a segment is appended to the image's. The contract of link.image.
-/
import Derived.Test.YtpkfmfhodbjckaaGreatDoorLkFb
import Derived.Test.YtpkfmfhodbjckaaGreatDoorQQ
set_option linter.unusedVariables false
set_option maxHeartbeats 32000000
set_option maxRecDepth 1000000
namespace Go.Proofs.YtpkfmfhodbjckaaGreatDoor
open Go Go.RowKit
structure SEnt where
 seg:M.Seg
 vb:Value
def encSeg (e:SEnt):List Value:=[.int .i64 e.seg.pos,e.vb,.int .i64 e.seg.zeros,.bool e.seg.writes,.bool e.seg.works]
structure IS (w W:World) (part:Array Value) (A0:Array Value) (nO:Nat) (at_:Int) (vS:Value) (es:List SEnt):Prop where
 img:W.heap[nO]?=some (.cells #[.int .i64 at_,vS] 25 (0,0))
 row:W.ownsRow (w.heap.size+1+1+1) 56 5 vS es.length (es.flatMap encSeg)
 bts:∀e∈es,BBlk W e.vb e.seg.bytes
 p0:W.heap[w.heap.size]?=some (.cells part 43 (0,0))
 p1:W.heap[w.heap.size+1]?=some (.cells A0 76 (0,0))
 p2:W.heap[w.heap.size+1+1]?=some (.cells #[.int .i64 0,.slice none 0 0] 25 (0,0))
 below:Below w.heap.size w W
 high:w.heap.size+1+1<nO
theorem IS.later{w W X:World}{part A0:Array Value}{nO:Nat}{at_:Int}{vS:Value}{es:List SEnt}(h:IS w W part A0 nO at_ vS es)(hb:Below W.heap.size W X):IS w X part A0 nO at_ vS es :=
 ⟨blk hb h.img,h.row.kept (grown_of_below hb none) own_self,fun e he=>(h.bts e he).later hb,
  blk hb h.p0,blk hb h.p1,blk hb h.p2,h.below.trans (hb.mono h.below.size),h.high⟩
theorem bblk_one{w:World}{v:Value}{bs:List Int}(h:BBlk w v bs):v.oneCell'=true:=by
 obtain⟨G,rfl,_⟩:=h;rfl
theorem IS.push{w W w5:World}{part A0:Array Value}{nO:Nat}{at_:Int}{vS v5:Value}{es:List SEnt}{e:SEnt}(h:IS w W part A0 nO at_ vS es)(hn:BBlk W e.vb e.seg.bytes)(hg:W.grownBy w5 vS.ownBlock)
  (ho:w5.ownsRow (w.heap.size+1+1+1) 56 5 v5 (es.length+1) (es.flatMap encSeg++encSeg e)):IS w (w5.setCell ⟨nO,1,none⟩ v5) part A0 nO at_ v5 (es++[e]):=by
 have hh:=h.high
 have i5:=block_kept h.row hg h.img (by decide)
 have a5:=block_kept h.row hg h.p0 (by decide)
 have b5:=block_kept h.row hg h.p1 (by decide)
 have c5:w5.heap[w.heap.size+1+1]?=_:=block_kept h.row hg h.p2 (by decide)
 have hb5:Below w.heap.size w w5:=h.below.grown hg h.below.size (fun k hk=>by have:=(h.row.lt k hk).1;omega)
 refine⟨?_,?_,?_,(Below.heap_setCell _ _ _ _ (by show w.heap.size≠nO;omega)).trans a5,(Below.heap_setCell _ _ _ _ (by show w.heap.size+1≠nO;omega)).trans b5,(Below.heap_setCell _ _ _ _ (by show w.heap.size+1+1≠nO;omega)).trans c5,hb5.setCell (by show w.heap.size≤nO;omega) _,h.high⟩
 ·exact heap_setCell_same w5 nO 1 _ _ v5 i5
 ·rw[List.length_append,List.flatMap_append]
  refine ownsRow_setCell_other (v:=v5) (by simpa using ho) ?_ v5
  intro e2
  rcases own_ne ho i5 (by decide) with h1|h1
  ·rw[h1] at e2;cases e2
  ·exact h1 e2
 ·intro x hx
  have key:∀x:SEnt,BBlk W x.vb x.seg.bytes→BBlk (w5.setCell ⟨nO,1,none⟩ v5) x.vb x.seg.bytes:=fun x hx=>by
   obtain⟨G,h1,h2,h3⟩:=hx
   have g5:=block_kept h.row hg h2 (by decide)
   have hne:G≠nO:=fun e=>by rw[e,i5] at g5;simp at g5
   exact⟨G,h1,(Below.heap_setCell _ _ _ _ (by show G≠nO;exact hne)).trans g5,h3⟩
  rcases List.mem_append.1 hx with hx|hx
  ·exact key x (h.bts x hx)
  ·obtain rfl:=List.mem_singleton.1 hx
   exact key _ hn
theorem own_blk{w:World}{B k n:Nat}{e:TypeId}{v:Value}{xs:List Value}(h:w.ownsRow B e k v n xs)(hn:0<n):∃g cap,v=.slice (some ⟨g,0,none⟩) n cap:=by
 rcases h.2 with ⟨_,h2⟩|⟨g,cap,cur,h1,_⟩
 ·omega
 ·exact⟨g,cap,h1⟩
theorem row3{W:World}{B cap g:Nat}{e1 e2 e3:SEnt}(h:W.ownsRow B 56 5 (.slice (some ⟨g,0,none⟩) 3 cap) 3 ([e1,e2,e3].flatMap encSeg)) :
  ∃cur:Array Value,W.heap[g]?=some (.cells cur 56 (0,0))∧15≤cur.size∧B≤g∧∀m,m<15→cur[m]?=([.int .i64 e1.seg.pos,e1.vb,.int .i64 e1.seg.zeros,.bool e1.seg.writes,.bool e1.seg.works,.int .i64 e2.seg.pos,e2.vb,.int .i64 e2.seg.zeros,.bool e2.seg.writes,.bool e2.seg.works,.int .i64 e3.seg.pos,e3.vb,.int .i64 e3.seg.zeros,.bool e3.seg.writes,.bool e3.seg.works]:List Value)[m]?:=by
 rcases h.2 with ⟨h1,_⟩|⟨g',cap',cur,h1,hB,h2,_,_,h5,h6⟩
 ·cases h1
 ·cases h1
  have hx:([e1,e2,e3].flatMap encSeg)=[.int .i64 e1.seg.pos,e1.vb,.int .i64 e1.seg.zeros,.bool e1.seg.writes,.bool e1.seg.works,.int .i64 e2.seg.pos,e2.vb,.int .i64 e2.seg.zeros,.bool e2.seg.writes,.bool e2.seg.works,.int .i64 e3.seg.pos,e3.vb,.int .i64 e3.seg.zeros,.bool e3.seg.writes,.bool e3.seg.works]:=rfl
  rw[hx] at h6
  have hsz:15≤cur.size:=by
   have:=congrArg List.length h6
   simp only[List.length_take,Array.length_toList,List.length_cons,List.length_nil] at this
   omega
  refine⟨cur,h2,hsz,hB,fun m hm=>?_⟩
  rw[←h6,List.getElem?_take,if_pos (by omega),Array.getElem?_toList]
theorem segs_final{W:World}{cap g:Nat}{e1 e2 e3:SEnt}{z:Int}{cur:Array Value}(hq:W.heap[g]?=some (.cells (cur.setIfInBounds 12 (.int .i64 z)) 56 (0,0)))(hsz:15≤cur.size)
  (hc:∀m,m<15→cur[m]?=([.int .i64 e1.seg.pos,e1.vb,.int .i64 e1.seg.zeros,.bool e1.seg.writes,.bool e1.seg.works,.int .i64 e2.seg.pos,e2.vb,.int .i64 e2.seg.zeros,.bool e2.seg.writes,.bool e2.seg.works,.int .i64 e3.seg.pos,e3.vb,.int .i64 e3.seg.zeros,.bool e3.seg.writes,.bool e3.seg.works]:List Value)[m]?) (hbb:∀e∈[e1,e2,e3],BytesAt W e.vb e.seg.bytes) :
  SegsAt W (.slice (some ⟨g,0,none⟩) 3 cap) [e1.seg,e2.seg,{ e3.seg with zeros:=z }]:=by
 have hw:∀m,m<15→m≠12→W.cell? ⟨g,m,none⟩=cur[m]?:=fun m hm hne=>by
  rw[cellB hq m,Array.getElem?_setIfInBounds,if_neg (fun e=>hne e.symm)]
 have hz:W.cell? ⟨g,12,none⟩=some (.int .i64 z):=by
  rw[cellB hq 12,Array.getElem?_setIfInBounds,if_pos rfl,if_pos (by omega)]
 refine⟨fun j i=>(W.cell? ⟨g,j*5+i,none⟩).getD undef,⟨_,_,rfl,by show 3≤maxLen;unfold maxLen;decide,.inr ⟨g,0,rfl,fun j i hj hi=>?_⟩⟩,fun j hj=>?_⟩
 ·rw[Nat.zero_add]
  have hj':j<3:=hj
  obtain⟨u,hu⟩:∃u,W.cell? ⟨g,j*5+i,none⟩=some u:=by
   by_cases h12:j*5+i=12
   ·rw[h12];exact⟨_,hz⟩
   ·rw[hw _ (by omega) h12]
    exact⟨_,Array.getElem?_eq_getElem (by omega)⟩
  simp only[hu];rfl
 ·have hj':j=0∨j=1∨j=2:=by have:j<3:=hj;omega
  rcases hj' with rfl|rfl|rfl
  ·refine⟨?_,?_,?_,?_,?_⟩
   ·show (W.cell? ⟨g,0,none⟩).getD undef=_;rw[hw 0 (by decide) (by decide),hc 0 (by decide)];rfl
   ·show BytesAt _ ((W.cell? ⟨g,1,none⟩).getD undef) _;rw[hw 1 (by decide) (by decide),hc 1 (by decide)];exact hbb e1 (by simp)
   ·show (W.cell? ⟨g,2,none⟩).getD undef=_;rw[hw 2 (by decide) (by decide),hc 2 (by decide)];rfl
   ·show (W.cell? ⟨g,3,none⟩).getD undef=_;rw[hw 3 (by decide) (by decide),hc 3 (by decide)];rfl
   ·show (W.cell? ⟨g,4,none⟩).getD undef=_;rw[hw 4 (by decide) (by decide),hc 4 (by decide)];rfl
  ·refine⟨?_,?_,?_,?_,?_⟩
   ·show (W.cell? ⟨g,5,none⟩).getD undef=_;rw[hw 5 (by decide) (by decide),hc 5 (by decide)];rfl
   ·show BytesAt _ ((W.cell? ⟨g,6,none⟩).getD undef) _;rw[hw 6 (by decide) (by decide),hc 6 (by decide)];exact hbb e2 (by simp)
   ·show (W.cell? ⟨g,7,none⟩).getD undef=_;rw[hw 7 (by decide) (by decide),hc 7 (by decide)];rfl
   ·show (W.cell? ⟨g,8,none⟩).getD undef=_;rw[hw 8 (by decide) (by decide),hc 8 (by decide)];rfl
   ·show (W.cell? ⟨g,9,none⟩).getD undef=_;rw[hw 9 (by decide) (by decide),hc 9 (by decide)];rfl
  ·refine⟨?_,?_,?_,?_,?_⟩
   ·show (W.cell? ⟨g,10,none⟩).getD undef=_;rw[hw 10 (by decide) (by decide),hc 10 (by decide)];rfl
   ·show BytesAt _ ((W.cell? ⟨g,11,none⟩).getD undef) _;rw[hw 11 (by decide) (by decide),hc 11 (by decide)];exact hbb e3 (by simp)
   ·show (W.cell? ⟨g,12,none⟩).getD undef=_;rw[hz];rfl
   ·show (W.cell? ⟨g,13,none⟩).getD undef=_;rw[hw 13 (by decide) (by decide),hc 13 (by decide)];rfl
   ·show (W.cell? ⟨g,14,none⟩).getD undef=_;rw[hw 14 (by decide) (by decide),hc 14 (by decide)];rfl
def SegsBlk (W:World) (v:Value) (segs:List M.Seg):Prop :=
 ∃(g cap:Nat) (cur:Array Value) (e1 e2 e3:SEnt) (z:Int),v=.slice (some ⟨g,0,none⟩) 3 cap∧W.heap[g]?=some (.cells (cur.setIfInBounds 12 (.int .i64 z)) 56 (0,0))∧15≤cur.size∧(∀m,m<15→cur[m]?=([.int .i64 e1.seg.pos,e1.vb,.int .i64 e1.seg.zeros,.bool e1.seg.writes,.bool e1.seg.works,.int .i64 e2.seg.pos,e2.vb,.int .i64 e2.seg.zeros,.bool e2.seg.writes,.bool e2.seg.works,.int .i64 e3.seg.pos,e3.vb,.int .i64 e3.seg.zeros,.bool e3.seg.writes,.bool e3.seg.works]:List Value)[m]?) ∧
  (∀e∈[e1,e2,e3],BBlk W e.vb e.seg.bytes)∧segs=[e1.seg,e2.seg,{ e3.seg with zeros:=z }]
theorem SegsBlk.segs{W:World}{v:Value}{l:List M.Seg}(h:SegsBlk W v l):SegsAt W v l:=by
 obtain⟨g,cap,cur,e1,e2,e3,z,rfl,h1,h2,h3,h4,rfl⟩:=h
 exact segs_final h1 h2 h3 (fun e he=>(h4 e he).bytes)
theorem SegsBlk.keep{W W':World}{v:Value}{l:List M.Seg}(h:SegsBlk W v l)(hk:∀(k:Nat) (cs:Array Value) (t:TypeId),W.heap[k]?=some (.cells cs t (0,0))→t≠25→W'.heap[k]?=some (.cells cs t (0,0))):SegsBlk W' v l:=by
 obtain⟨g,cap,cur,e1,e2,e3,z,rfl,h1,h2,h3,h4,rfl⟩:=h
 refine⟨g,cap,cur,e1,e2,e3,z,rfl,hk _ _ _ h1 (by decide),h2,h3,fun e he=>?_,rfl⟩
 obtain⟨G,a1,a2,a3⟩:=h4 e he
 exact⟨G,a1,hk _ _ _ a2 (by decide),a3⟩
theorem image_keep{W:World}{R i:Nat}{cs:Array Value}{u:Value}(hR:W.heap[R]?=some (.cells cs 25 (0,0))):∀(k:Nat) (cs':Array Value) (t:TypeId),W.heap[k]?=some (.cells cs' t (0,0))→t≠25→(W.setCell ⟨R,i,none⟩ u).heap[k]?=some (.cells cs' t (0,0)):=fun k cs' t h ht=>by
 have hne:k≠R:=fun e=>by rw[e,hR] at h;simp at h;exact ht h.2.symm
 exact(Below.heap_setCell _ _ _ _ (by show k≠R;exact hne)).trans h
theorem img_end{w wr:World}{part A0:Array Value}{nO g cx:Nat}{at_ D:Int}{e1 e2 e3:SEnt}(h:IS w wr part A0 nO at_ (.slice (some ⟨g,0,none⟩) 3 cx) [e1,e2,e3]) :
  ((∃u,wr.cell? ⟨g,12,none⟩=some u)∧wr.frozen? ⟨g,12,none⟩=false∧g<wr.heap.size) ∧
  ((wr.setCell ⟨g,12,none⟩ (.int .i64 D)).heap[nO]?=some (.cells #[.int .i64 at_,.slice (some ⟨g,0,none⟩) 3 cx] 25 (0,0))∧(wr.setCell ⟨g,12,none⟩ (.int .i64 D)).heap[w.heap.size+1+1]?=some (.cells #[.int .i64 0,.slice none 0 0] 25 (0,0))) ∧
  ∀u0 u1,(((wr.setCell ⟨g,12,none⟩ (.int .i64 D)).setCell ⟨w.heap.size+1+1,0,none⟩ u0).setCell ⟨w.heap.size+1+1,1,none⟩ u1).heap[w.heap.size+1+1]?=some (.cells #[u0,u1] 25 (0,0)) ∧
   Below w.heap.size w (((wr.setCell ⟨g,12,none⟩ (.int .i64 D)).setCell ⟨w.heap.size+1+1,0,none⟩ u0).setCell ⟨w.heap.size+1+1,1,none⟩ u1) ∧
   SegsBlk (((wr.setCell ⟨g,12,none⟩ (.int .i64 D)).setCell ⟨w.heap.size+1+1,0,none⟩ u0).setCell ⟨w.heap.size+1+1,1,none⟩ u1) (.slice (some ⟨g,0,none⟩) 3 cx) [e1.seg,e2.seg,{ e3.seg with zeros:=D }]:=by
 obtain⟨cur,h2,hsz,hB,hc⟩:=row3 h.row
 have hq:=heap_setCell_same wr g 12 _ _ (.int .i64 D) h2
 have hh:=h.high
 have hgO:nO≠g:=fun e=>by have:=h.img;rw[e,h2] at this;simp at this
 have i2:(wr.setCell ⟨g,12,none⟩ (.int .i64 D)).heap[nO]?=some (.cells #[.int .i64 at_,.slice (some ⟨g,0,none⟩) 3 cx] 25 (0,0)):=(Below.heap_setCell _ _ _ _ (by show nO≠g;exact hgO)).trans h.img
 have r2:(wr.setCell ⟨g,12,none⟩ (.int .i64 D)).heap[w.heap.size+1+1]?=some (.cells #[.int .i64 0,.slice none 0 0] 25 (0,0)):=(Below.heap_setCell _ _ _ _ (by show w.heap.size+1+1≠g;omega)).trans h.p2
 refine⟨⟨⟨_,(cellB h2 12).trans (Array.getElem?_eq_getElem (by omega))⟩,frozenB h2 12,(lt1 h2)⟩,⟨i2,r2⟩,fun u0 u1=>⟨?_,?_,?_⟩⟩
 ·exact heap_setCell_same _ _ 1 _ _ u1 (heap_setCell_same _ _ 0 _ _ u0 r2)
 ·exact((h.below.setCell (by show w.heap.size≤g;omega) _).setCell (by show w.heap.size≤w.heap.size+1+1;omega) _).setCell (by show w.heap.size≤w.heap.size+1+1;omega) _
 ·refine⟨g,cx,cur,e1,e2,e3,D,rfl,?_,hsz,hc,(fun e he=>?_),rfl⟩
  ·rw[Below.heap_setCell _ _ _ _ (by show g≠w.heap.size+1+1;omega),Below.heap_setCell _ _ _ _ (by show g≠w.heap.size+1+1;omega)]
   exact hq
  ·obtain⟨G,h1,h3,h4⟩:=h.bts e he
   have hne:G≠g:=fun e=>by rw[e,h2] at h3;simp at h3
   have hne2:G≠w.heap.size+1+1:=fun e=>by have:=h.p2;rw[←e,h3] at this;simp at this
   refine⟨G,h1,?_,h4⟩
   rw[Below.heap_setCell _ _ _ _ (by show G≠w.heap.size+1+1;exact hne2),Below.heap_setCell _ _ _ _ (by show G≠w.heap.size+1+1;exact hne2),Below.heap_setCell _ _ _ _ (by show G≠g;exact hne)]
   exact h3
def regionOf (n:Nat):Code→Option Code
 | .region i o d=>if i=n then some (.region i o d) else none
 | .loop c=>regionOf n c
 | .seq a b=>match regionOf n a with
  | some c=>some c
  | none=>regionOf n b
 | .block _ c=>regionOf n c
 | .scope c=>regionOf n c
 | .cond _ a b=>match regionOf n a with
  | some c=>some c
  | none=>regionOf n b
 | _=>none
theorem img_r7{z0 z1 z2 z3 z4 z6 z7 z8 z9 z10 z12 z15 z16 z17 z18 z19 z20 z21 z22 z23 z24 z25 z26 z27 z28 z29 z30 z31 z32 z33 z34 z35 z36 z37 z38 z39 z40 z41 z42 z43 z44 z45 z46 z47 z48 z49 z50 z51 z52 z53 z54 z55 z56 z57 z58 z59 z60 z61 z62 z63 z64 z65:Value}{X:World}{nL nO ns gb nb k cx fi B:Nat}{ax:Option Addr}{fr at_:Int}{wb kb:Bool}{xs:List Value}
  (g1:X.cell? ⟨nO,1,none⟩=some (.slice ax k cx)) (hlO:nO<X.heap.size) (k0:X.cell? ⟨ns,0,none⟩=some (.int .i64 fi)) (hfi:(fi:Int)<6) (g2:X.cell? ⟨nL,3+fi,none⟩=some (.int .i64 fr)) (hlL:nL<X.heap.size)
  (k2:X.cell? ⟨ns,2,none⟩=some (.bool wb)) (k3:X.cell? ⟨ns,3,none⟩=some (.bool kb)) (hlN:ns<X.heap.size) (hk:k≤3) (hB:B≤X.heap.size)
  (HRw:Hid ((X.drew.alloc (.cells #[.int .i64 fr,.slice (some ⟨gb,0,none⟩) nb nb,.int .i64 0,.bool wb,.bool kb] 56)).ownsRow B 56 5 (.slice ax k cx) k xs))
  (HZ:Hid (∀w5,(X.drew.alloc (.cells #[.int .i64 fr,.slice (some ⟨gb,0,none⟩) nb nb,.int .i64 0,.bool wb,.bool kb] 56)).grownBy w5 (Value.slice ax k cx).ownBlock→w5.heap[nO]?=some (.cells #[.int .i64 at_,.slice ax k cx] 25 (0,0)))) {Q0:Exit→Act→World→Prop} (hp:∀c (a:Act) (d:Nat) (v:Value) w,Q0 (.panic c) (a.put (some d) v) w→Q0 (.panic c) a w)
  (hq:∀(y37 y38 y39 y40 y41 y42 y43 y44 y45 y46 y47 y48 y49 y50 y51 y52 v5:Value) (w5:World),(X.drew.alloc (.cells #[.int .i64 fr,.slice (some ⟨gb,0,none⟩) nb nb,.int .i64 0,.bool wb,.bool kb] 56)).grownBy w5 (Value.slice ax k cx).ownBlock→w5.ownsRow B 56 5 v5 (k+1) (xs++[.int .i64 fr,.slice (some ⟨gb,0,none⟩) nb nb,.int .i64 0,.bool wb,.bool kb])→Q0 .normal ⟨List.toArray (z0::z1::z2::z3::z4::.pointer (some ⟨nL,0,none⟩)::z6::z7::z8::z9::z10::.pointer (some ⟨nO,0,none⟩)::z12::.pointer (some ⟨ns,0,none⟩)::.slice (some ⟨gb,0,none⟩) nb nb::z15::z16::z17::z18::z19::z20::z21::z22::z23::z24::z25::z26::z27::z28::z29::z30::z31::z32::z33::z34::z35::z36::y37::y38::y39::y40::y41::y42::y43::y44::y45::y46::y47::y48::y49::y50::y51::y52::z53::z54::z55::z56::z57::z58::z59::z60::z61::z62::z63::z64::z65::[]),[]⟩ (w5.setCell ⟨nO,1,none⟩ v5)) :
  Code.wp Tryz.prog ((Tryz.f50.body.bind (regionOf 7)).getD .skip:Code) Q0 ⟨List.toArray (z0::z1::z2::z3::z4::.pointer (some ⟨nL,0,none⟩)::z6::z7::z8::z9::z10::.pointer (some ⟨nO,0,none⟩)::z12::.pointer (some ⟨ns,0,none⟩)::.slice (some ⟨gb,0,none⟩) nb nb::z15::z16::z17::z18::z19::z20::z21::z22::z23::z24::z25::z26::z27::z28::z29::z30::z31::z32::z33::z34::z35::z36::z37::z38::z39::z40::z41::z42::z43::z44::z45::z46::z47::z48::z49::z50::z51::z52::z53::z54::z55::z56::z57::z58::z59::z60::z61::z62::z63::z64::z65::[]),[]⟩ X:=by
 conv=>arg 2;whnf
 obtain⟨i1,hi1,hy0,hy1,hy2⟩:=info_parts (P:=Tryz.prog) (e:=56) (z:=.agg #[.int .i64 0,.slice none 0 0,.int .i64 0,.bool false,.bool false]) (size:=5) (bytes:=48) (by kernel_rfl)
 have HSrc:Hid (Src (X.drew.alloc (.cells #[.int .i64 fr,.slice (some ⟨gb,0,none⟩) nb nb,.int .i64 0,.bool wb,.bool kb] 56)) (.slice (some ⟨X.heap.size,0,none⟩) 1 1) 1 [.int .i64 fr,.slice (some ⟨gb,0,none⟩) nb nb,.int .i64 0,.bool wb,.bool kb]):=⟨_,_,rfl,.inr ⟨_,rfl,World.news_of_block (heap_alloc_new X.drew (.cells #[.int .i64 fr,.slice (some ⟨gb,0,none⟩) nb nb,.int .i64 0,.bool wb,.bool kb] 56))⟩⟩
 have hS:(fun w':World=>w'.cell? ⟨nO,1,none⟩=some (.slice ax k cx)∧w'.cell? ⟨ns,0,none⟩=some (.int .i64 fi)∧w'.cell? ⟨nL,3+fi,none⟩=some (.int .i64 fr)∧w'.cell? ⟨ns,2,none⟩=some (.bool wb)∧w'.cell? ⟨ns,3,none⟩=some (.bool kb)) X.drew:=⟨g1,k0,g2,k2,k3⟩
 refine wp_region_last 14 (fun w'=>w'.cell? ⟨nO,1,none⟩=some (.slice ax k cx)∧w'.cell? ⟨ns,0,none⟩=some (.int .i64 fi)∧w'.cell? ⟨nL,3+fi,none⟩=some (.int .i64 fr)∧w'.cell? ⟨ns,2,none⟩=some (.bool wb)∧w'.cell? ⟨ns,3,none⟩=some (.bool kb)) (by kernel_rfl) (fun inv=>?_)
 refine wpAnyL_take (i:=0) (v:=.pointer (some ⟨nO,1,none⟩)) rfl (by kernel_rfl) inv (fun c a w=>hp c a _ _ w) (Or.inl ⟨by rfl,fun w' hS'=>by obtain⟨s1,s2,s3,s4,s5⟩:=hS';go_simp⟩) hS (fun inv=>?_)
 simp only[Act.put,List.setIfInBounds_toArray]
 refine wpAnyL_take (i:=1) (v:=.slice ax k cx) rfl (by kernel_rfl) inv (fun c a w=>hp c a _ _ w) (Or.inl ⟨by rfl,fun w' hS'=>by obtain⟨s1,s2,s3,s4,s5⟩:=hS';go_simp⟩) hS (fun inv=>?_)
 simp only[Act.put]
 refine wpAnyL_take (i:=2) (v:=.pointer (some ⟨ns,0,none⟩)) rfl (by kernel_rfl) inv (fun c a w=>hp c a _ _ w) (Or.inl ⟨by rfl,fun w' hS'=>by obtain⟨s1,s2,s3,s4,s5⟩:=hS';go_simp⟩) hS (fun inv=>?_)
 simp only[Act.put]
 refine wpAnyL_take (i:=3) (v:=.int .i64 fi) rfl (by kernel_rfl) inv (fun c a w=>hp c a _ _ w) (Or.inl ⟨by rfl,fun w' hS'=>by obtain⟨s1,s2,s3,s4,s5⟩:=hS';go_simp⟩) hS (fun inv=>?_)
 simp only[Act.put]
 refine wpAnyL_take (i:=4) (v:=.pointer (some ⟨nL,3,none⟩)) rfl (by kernel_rfl) inv (fun c a w=>hp c a _ _ w) (Or.inl ⟨by rfl,fun w' hS'=>by obtain⟨s1,s2,s3,s4,s5⟩:=hS';go_simp⟩) hS (fun inv=>?_)
 simp only[Act.put]
 refine wpAnyL_take (i:=5) (v:=.pointer (some ⟨nL,3+fi,none⟩)) rfl (by kernel_rfl) inv (fun c a w=>hp c a _ _ w) (Or.inl ⟨by rfl,fun w' hS'=>by obtain⟨s1,s2,s3,s4,s5⟩:=hS';go_simp⟩) hS (fun inv=>?_)
 simp only[Act.put]
 refine wpAnyL_take (i:=6) (v:=.int .i64 fr) rfl (by kernel_rfl) inv (fun c a w=>hp c a _ _ w) (Or.inl ⟨by rfl,fun w' hS'=>by obtain⟨s1,s2,s3,s4,s5⟩:=hS';go_simp⟩) hS (fun inv=>?_)
 simp only[Act.put]
 refine wpAnyL_take (i:=7) (v:=.slice (some ⟨gb,0,none⟩) nb nb) rfl (by kernel_rfl) inv (fun c a w=>hp c a _ _ w) (Or.inl ⟨by rfl,fun w' hS'=>by obtain⟨s1,s2,s3,s4,s5⟩:=hS';go_simp⟩) hS (fun inv=>?_)
 simp only[Act.put]
 refine wpAnyL_take (i:=8) (v:=.pointer (some ⟨ns,2,none⟩)) rfl (by kernel_rfl) inv (fun c a w=>hp c a _ _ w) (Or.inl ⟨by rfl,fun w' hS'=>by obtain⟨s1,s2,s3,s4,s5⟩:=hS';go_simp⟩) hS (fun inv=>?_)
 simp only[Act.put]
 refine wpAnyL_take (i:=9) (v:=.bool wb) rfl (by kernel_rfl) inv (fun c a w=>hp c a _ _ w) (Or.inl ⟨by rfl,fun w' hS'=>by obtain⟨s1,s2,s3,s4,s5⟩:=hS';go_simp⟩) hS (fun inv=>?_)
 simp only[Act.put]
 refine wpAnyL_take (i:=10) (v:=.pointer (some ⟨ns,3,none⟩)) rfl (by kernel_rfl) inv (fun c a w=>hp c a _ _ w) (Or.inl ⟨by rfl,fun w' hS'=>by obtain⟨s1,s2,s3,s4,s5⟩:=hS';go_simp⟩) hS (fun inv=>?_)
 simp only[Act.put]
 refine wpAnyL_take (i:=11) (v:=.bool kb) rfl (by kernel_rfl) inv (fun c a w=>hp c a _ _ w) (Or.inl ⟨by rfl,fun w' hS'=>by obtain⟨s1,s2,s3,s4,s5⟩:=hS';go_simp⟩) hS (fun inv=>?_)
 simp only[Act.put]
 refine wpAnyL_take (i:=12) (v:=.agg #[.int .i64 fr,.slice (some ⟨gb,0,none⟩) nb nb,.int .i64 0,.bool wb,.bool kb]) rfl (by kernel_rfl) inv (fun c a w=>hp c a _ _ w) (Or.inl ⟨by rfl,fun w' hS'=>by obtain⟨s1,s2,s3,s4,s5⟩:=hS';go_simp⟩) hS (fun inv=>?_)
 simp only[Act.put]
 refine wpAnyL_one (i:=13) (by kernel_rfl) (wpOp_of_if rfl ?_)
 rw[if_pos (by rfl)]
 unfold Oper.wp
 go_simp
 refine wpAnyL_one (i:=14) (by kernel_rfl) (wpOp_of_if rfl ?_)
 refine step_append_src (by rfl) (.tmp 38) (.tmp 50) 23 (by rfl) B 56 i1 (.agg #[.int .i64 0,.slice none 0 0,.int .i64 0,.bool false,.bool false]) 5 48 Tryz.underlying23 hi1 hy0 hy1 hy2 rfl (by decide) _ k xs (by rfl) HRw.out _ 1 [.int .i64 fr,.slice (some ⟨gb,0,none⟩) nb nb,.int .i64 0,.bool wb,.bool kb] (by rfl) HSrc.out (by rfl) (fun u hu=>by simp at hu;rcases hu with rfl|rfl|rfl|rfl|rfl<;>rfl) (by unfold maxLen;omega) (by omega) (by simp;omega) ?_
 intro v5 w5 ho5 hg5
 refine⟨fun h=>absurd h (by decide),?_⟩
 have z8:=HZ.out w5 hg5
 have c8:=cellC z8 1 rfl
 have f8:=frozenB z8 1
 have HQ5:=fun y37 y38 y39 y40 y41 y42 y43 y44 y45 y46 y47 y48 y49 y50 y51 y52=>hq y37 y38 y39 y40 y41 y42 y43 y44 y45 y46 y47 y48 y49 y50 y51 y52 v5 w5 hg5 ho5
 obtain⟨a5,c5,rfl⟩:=own_len ho5
 have HQ6:Hid _:=HQ5
 clear HQ5 hq
 refine wpAnyL_one (i:=15) (by kernel_rfl) (wpOp_of_if rfl ?_)
 rw[if_pos (by rfl)]
 unfold Oper.wp
 go_simp
 refine wpAnyL_one (i:=16) (by kernel_rfl) (wpOp_of_if rfl ?_)
 rw[if_pos (by rfl)]
 unfold Oper.wp
 go_simp
 refine wpAnyL_done (by kernel_rfl) ?_ _
 exact HQ6.out _ _ _ _ _ _ _ _ _ _ _ _ _ _ _ _
theorem span0(W:World):(Instr.index 149 (.agg #[.int .i64 1,.int .i64 1,.bool false,.bool true,.int .i64 2,.int .i64 3,.bool false,.bool false,.int .i64 4,.int .i64 4,.bool true,.bool false]) (.int .i64 0)).run Tryz.prog W=.ok (.agg #[.int .i64 1,.int .i64 1,.bool false,.bool true]) W:=by kernel_rfl
theorem span1(W:World):(Instr.index 149 (.agg #[.int .i64 1,.int .i64 1,.bool false,.bool true,.int .i64 2,.int .i64 3,.bool false,.bool false,.int .i64 4,.int .i64 4,.bool true,.bool false]) (.int .i64 1)).run Tryz.prog W=.ok (.agg #[.int .i64 2,.int .i64 3,.bool false,.bool false]) W:=by kernel_rfl
theorem span2(W:World):(Instr.index 149 (.agg #[.int .i64 1,.int .i64 1,.bool false,.bool true,.int .i64 2,.int .i64 3,.bool false,.bool false,.int .i64 4,.int .i64 4,.bool true,.bool false]) (.int .i64 2)).run Tryz.prog W=.ok (.agg #[.int .i64 4,.int .i64 4,.bool true,.bool false]) W:=by kernel_rfl
attribute [local go_sem high] span0 span1 span2
def segs0 (p:M.Prt) (l:M.Lay):List M.Seg:=[⟨l.fr 1,M.segBytes p l 1 1,0,false,true⟩,⟨l.fr 2,M.segBytes p l 2 3,0,false,false⟩,⟨l.fr 4,M.segBytes p l 4 4,0,true,false⟩]
theorem image_any(p:M.Prt)(l:M.Lay)(s:ByteArray)(a1 a2:Option Addr)(c1 c2 bp bl:Nat)(xf xn xc:Option Addr)(yf yn yc:Nat)(w:World)(hf:FragsAt w (.slice a1 p.frags.length c1) p.frags)(hd:DefsAt w (.slice a2 p.defs.length c2) p.defs)
  (hL:LayAt w (.slice xf l.frags.length yf) (.slice xn l.names.length yn) (.slice xc l.coms.length yc) l) (h:NumAt w bp bl p l) (ho1:SegOk p l 1 1) (ho2:SegOk p l 2 3) (ho3:SegOk p l 4 4) (h5:0≤l.ti 5) (h5':l.ti 5≤65536) (h4:0≤l.ti 4) :
  Calls Tryz.prog 50 #[.agg #[.slice a1 p.frags.length c1,.slice a2 p.defs.length c2],.agg #[.slice xf l.frags.length yf,.slice xn l.names.length yn,.slice xc l.coms.length yc,.int .i64 (l.fr 0),.int .i64 (l.fr 1),.int .i64 (l.fr 2),.int .i64 (l.fr 3),.int .i64 (l.fr 4),.int .i64 (l.fr 5),.int .i64 (l.ti 0),.int .i64 (l.ti 1),.int .i64 (l.ti 2),.int .i64 (l.ti 3),.int .i64 (l.ti 4),.int .i64 (l.ti 5)],.string s,.func (.func 83) #[] #[.pointer (some ⟨bp,0,none⟩),.pointer (some ⟨bl,0,none⟩)]] w
   fun e w'=>Below w.heap.size w w'∧∃vs,e=.returned (.agg #[.int .i64 (M.image p l s).entry,vs])∧SegsBlk w' vs (M.image p l s).segs:=by
 obtain⟨i1,hi1,hy0,hy1,hy2⟩:=info_parts (P:=Tryz.prog) (e:=56) (z:=.agg #[.int .i64 0,.slice none 0 0,.int .i64 0,.bool false,.bool false]) (size:=5) (bytes:=48) (by kernel_rfl)
 have KW:Hid (∀W,Below w.heap.size w W→Calls Tryz.prog 88 #[.agg #[.slice a1 p.frags.length c1,.slice a2 p.defs.length c2],.agg #[.slice xf l.frags.length yf,.slice xn l.names.length yn,.slice xc l.coms.length yc,.int .i64 (l.fr 0),.int .i64 (l.fr 1),.int .i64 (l.fr 2),.int .i64 (l.fr 3),.int .i64 (l.fr 4),.int .i64 (l.fr 5),.int .i64 (l.ti 0),.int .i64 (l.ti 1),.int .i64 (l.ti 2),.int .i64 (l.ti 3),.int .i64 (l.ti 4),.int .i64 (l.ti 5)],.string s] W fun e w'=>e=.returned (.tuple #[.int .i64 (M.whereOf p l s).1,.int .i64 (M.whereOf p l s).2])∧Below W.heap.size W w'):=fun W hW =>
  where_any p l.frags l.names l.coms s a1 a2 c1 c2 xf xn xc yf yn yc _ _ _ _ _ _ _ _ _ _ _ _ W (hf.later hW) (hd.later hW) (hL.frags.later hW) (hL.names.later hW) (hL.coms.later hW) h.ok.ck h.ok.len h.ok.bd h.ok.nn
 have KS:Hid (∀W (a z:Nat) (b1 b2:Bool),Below w.heap.size w W→SegOk p l a z→Calls Tryz.prog 89 #[.slice a1 p.frags.length c1,.agg #[.slice xf l.frags.length yf,.slice xn l.names.length yn,.slice xc l.coms.length yc,.int .i64 (l.fr 0),.int .i64 (l.fr 1),.int .i64 (l.fr 2),.int .i64 (l.fr 3),.int .i64 (l.fr 4),.int .i64 (l.fr 5),.int .i64 (l.ti 0),.int .i64 (l.ti 1),.int .i64 (l.ti 2),.int .i64 (l.ti 3),.int .i64 (l.ti 4),.int .i64 (l.ti 5)],.agg #[.int .i64 a,.int .i64 z,.bool b1,.bool b2],.func (.func 83) #[] #[.pointer (some ⟨bp,0,none⟩),.pointer (some ⟨bl,0,none⟩)]] W fun e w'=>Below W.heap.size W w'∧∃v,e=.returned v∧BBlk w' v (M.segBytes p l a z)):=fun W a z b1 b2 hW ho =>
  segmentBytes_any p l a z b1 b2 a1 c1 bp bl xf xn xc yf yn yc W (hf.later hW) (hL.later hW) (h.later hW) ho
 have HIm:Hid (M.image p l s=⟨(M.whereOf p l s).1,[⟨l.fr 1,M.segBytes p l 1 1,0,false,true⟩,⟨l.fr 2,M.segBytes p l 2 3,0,false,false⟩,⟨l.fr 4,M.segBytes p l 4 4,l.ti 5-l.ti 4,true,false⟩]⟩):=rfl
 have h4':=ho3.hi
 have HO1:Hid _:=ho1
 have HO2:Hid _:=ho2
 have HO3:Hid _:=ho3
 have HS0:Hid (segs0 p l=[⟨l.fr 1,M.segBytes p l 1 1,0,false,true⟩,⟨l.fr 2,M.segBytes p l 2 3,0,false,false⟩,⟨l.fr 4,M.segBytes p l 4 4,0,true,false⟩]):=rfl
 have hsl:(Tryz.prog.info? 76).map (·.size)=some (#[.slice xf l.frags.length yf,.slice xn l.names.length yn,.slice xc l.coms.length yc,.int .i64 (l.fr 0),.int .i64 (l.fr 1),.int .i64 (l.fr 2),.int .i64 (l.fr 3),.int .i64 (l.fr 4),.int .i64 (l.fr 5),.int .i64 (l.ti 0),.int .i64 (l.ti 1),.int .i64 (l.ti 2),.int .i64 (l.ti 3),.int .i64 (l.ti 4),.int .i64 (l.ti 5)]:Array Value).size:=by kernel_rfl
 obtain⟨X0,HX0⟩:∃X0,Hid (X0=((w.alloc (.cells #[.slice a1 p.frags.length c1,.slice a2 p.defs.length c2] 43)).alloc (.cells #[.slice xf l.frags.length yf,.slice xn l.names.length yn,.slice xc l.coms.length yc,.int .i64 (l.fr 0),.int .i64 (l.fr 1),.int .i64 (l.fr 2),.int .i64 (l.fr 3),.int .i64 (l.fr 4),.int .i64 (l.fr 5),.int .i64 (l.ti 0),.int .i64 (l.ti 1),.int .i64 (l.ti 2),.int .i64 (l.ti 3),.int .i64 (l.ti 4),.int .i64 (l.ti 5)] 76)).alloc (.cells #[.int .i64 0,.slice none 0 0] 25)):=⟨_,rfl⟩
 have q0:X0.heap[w.heap.size]?=some (.cells #[.slice a1 p.frags.length c1,.slice a2 p.defs.length c2] 43 (0,0)):=by rw[HX0.out];exact(heap_alloc_old _ _ (by simp;omega)).trans (heap_alloc2_old _ _ _)
 have q1:X0.heap[w.heap.size+1]?=some (.cells #[.slice xf l.frags.length yf,.slice xn l.names.length yn,.slice xc l.coms.length yc,.int .i64 (l.fr 0),.int .i64 (l.fr 1),.int .i64 (l.fr 2),.int .i64 (l.fr 3),.int .i64 (l.fr 4),.int .i64 (l.fr 5),.int .i64 (l.ti 0),.int .i64 (l.ti 1),.int .i64 (l.ti 2),.int .i64 (l.ti 3),.int .i64 (l.ti 4),.int .i64 (l.ti 5)] 76 (0,0)):=by rw[HX0.out];exact(heap_alloc_old _ _ (by simp)).trans (heap_alloc2_new _ _ _)
 have q2:X0.heap[w.heap.size+1+1]?=some (.cells #[.int .i64 0,.slice none 0 0] 25 (0,0)):=by
  rw[HX0.out]
  have:=heap_alloc_new ((w.alloc (.cells #[.slice a1 p.frags.length c1,.slice a2 p.defs.length c2] 43)).alloc (.cells #[.slice xf l.frags.length yf,.slice xn l.names.length yn,.slice xc l.coms.length yc,.int .i64 (l.fr 0),.int .i64 (l.fr 1),.int .i64 (l.fr 2),.int .i64 (l.fr 3),.int .i64 (l.fr 4),.int .i64 (l.fr 5),.int .i64 (l.ti 0),.int .i64 (l.ti 1),.int .i64 (l.ti 2),.int .i64 (l.ti 3),.int .i64 (l.ti 4),.int .i64 (l.ti 5)] 76)) (.cells #[.int .i64 0,.slice none 0 0] 25)
  simpa using this
 have hX0:Below w.heap.size w X0:=by rw[HX0.out];exact((bra _ _).alloc (by simp) _).alloc (by simp;omega) _
 have c0:=cellB q0 0
 have c1':=cellB q0 1
 simp at c0 c1'
 have KW':Hid (Calls Tryz.prog 88 #[.agg #[.slice a1 p.frags.length c1,.slice a2 p.defs.length c2],.agg #[.slice xf l.frags.length yf,.slice xn l.names.length yn,.slice xc l.coms.length yc,.int .i64 (l.fr 0),.int .i64 (l.fr 1),.int .i64 (l.fr 2),.int .i64 (l.fr 3),.int .i64 (l.fr 4),.int .i64 (l.fr 5),.int .i64 (l.ti 0),.int .i64 (l.ti 1),.int .i64 (l.ti 2),.int .i64 (l.ti 3),.int .i64 (l.ti 4),.int .i64 (l.ti 5)],.string s] X0 _):=KW.out X0 hX0
 have hl0:=lt1 q2
 clear hf hd hL h ho1 ho2 ho3 KW
 generalize M.image p l s=IM at *
 generalize M.whereOf p l s=WH at *
 obtain⟨at_,er⟩:=WH
 simp only at KW' HIm
 go_enter Tryz.func50,Tryz.ntmps50
 go_upto_region 1 with fail
 rw[←HX0.out]
 clear HX0
 go_upto_region 4 with (first|(refine wpList_load_row rfl 76 _ rfl (w.heap.size+1) rfl 76 #[.slice xf l.frags.length yf,.slice xn l.names.length yn,.slice xc l.coms.length yc,.int .i64 (l.fr 0),.int .i64 (l.fr 1),.int .i64 (l.fr 2),.int .i64 (l.fr 3),.int .i64 (l.fr 4),.int .i64 (l.fr 5),.int .i64 (l.ti 0),.int .i64 (l.ti 1),.int .i64 (l.ti 2),.int .i64 (l.ti 3),.int .i64 (l.ti 4),.int .i64 (l.ti 5)] (0,0) _ q1 Tryz.underlying76 rfl hsl ?_)|(go_at_call 88;refine KW'.out.mono ?_;rintro e X1 ⟨rfl,hb1⟩))
 have hbA:Below X0.heap.size X0 (X1.alloc (.cells #[.int .i64 at_,.slice none 0 0] 25)):=hb1.alloc hb1.size _
 have HI0:Hid (IS w (X1.alloc (.cells #[.int .i64 at_,.slice none 0 0] 25)) #[.slice a1 p.frags.length c1,.slice a2 p.defs.length c2] #[.slice xf l.frags.length yf,.slice xn l.names.length yn,.slice xc l.coms.length yc,.int .i64 (l.fr 0),.int .i64 (l.fr 1),.int .i64 (l.fr 2),.int .i64 (l.fr 3),.int .i64 (l.fr 4),.int .i64 (l.fr 5),.int .i64 (l.ti 0),.int .i64 (l.ti 1),.int .i64 (l.ti 2),.int .i64 (l.ti 3),.int .i64 (l.ti 4),.int .i64 (l.ti 5)] X1.heap.size at_ (.slice none 0 0) []) :=
  ⟨heap_alloc_new X1 _,World.ownsRow_nil _ _ _ _,fun e he=>(by cases he),(hbA.block _ (by omega)).trans q0,(hbA.block _ (by omega)).trans q1,(hbA.block _ hl0).trans q2,hX0.trans (hbA.mono (by omega)),Nat.lt_of_lt_of_le hl0 hb1.size⟩
 clear hbA hb1 q0 q1 q2 c0 c1' KW' hX0 hl0
 generalize X1.alloc (.cells #[.int .i64 at_,.slice none 0 0] 25)=X2 at *
 generalize X1.heap.size=nO at *
 go_loopw [28] (fun s28 wr=>∃(k:Nat) (vS:Value) (es:List SEnt),k≤3∧s28=.int .i64 k∧Hid (es.map (·.seg)=(segs0 p l).take k)∧Hid (IS w wr #[.slice a1 p.frags.length c1,.slice a2 p.defs.length c2] #[.slice xf l.frags.length yf,.slice xn l.names.length yn,.slice xc l.coms.length yc,.int .i64 (l.fr 0),.int .i64 (l.fr 1),.int .i64 (l.fr 2),.int .i64 (l.fr 3),.int .i64 (l.fr 4),.int .i64 (l.fr 5),.int .i64 (l.ti 0),.int .i64 (l.ti 1),.int .i64 (l.ti 2),.int .i64 (l.ti 3),.int .i64 (l.ti 4),.int .i64 (l.ti 5)] nO at_ vS es)) (fun s28 _=>3-(intOf s28).toNat)
 case atStart=>exact⟨0,_,[],Nat.zero_le _,rfl,rfl,HI0⟩
 case round =>
  obtain⟨k,vS,es,hk,rfl,HE,HI⟩:=hrel
  clear HI0
  have hk4:k=0∨k=1∨k=2∨k=3:=by omega
  rcases hk4 with rfl|rfl|rfl|rfl
  ·have hlen:es.length=0:=by have:=congrArg List.length HE.out;simpa [segs0] using this
   have hvs:∃ax cx,vS=.slice ax es.length cx:=own_len HI.out.row
   obtain⟨ax,cx,rfl⟩:=hvs
   rw[hlen] at HI
   have HLen:Hid (es.length=0):=hlen
   clear hlen
   go_upto_region 6 with fail
   have hbY:Below wr.heap.size wr (wr.alloc (.cells #[.int .i64 1,.int .i64 1,.bool false,.bool true] 148)):=bra _ _
   have HIY:=HI.out.later hbY
   have x3:=heap_alloc_new wr (.cells #[.int .i64 1,.int .i64 1,.bool false,.bool true] 148)
   clear HI hbY
   generalize wr.alloc (.cells #[.int .i64 1,.int .i64 1,.bool false,.bool true] 148)=Y at *
   generalize wr.heap.size=ns at *
   have k0:=cellC x3 0 rfl
   have k1:=cellC x3 1 rfl
   have k2:=cellC x3 2 rfl
   have k3:=cellC x3 3 rfl
   have hlY:=lt1 x3
   have p0:Y.cell? ⟨w.heap.size,0,none⟩=some (.slice a1 p.frags.length c1):=cellB HIY.p0 0
   have hlp:=lt1 HIY.p0
   have p1:=HIY.p1
   have KS':Hid (Calls Tryz.prog 89 #[.slice a1 p.frags.length c1,.agg #[.slice xf l.frags.length yf,.slice xn l.names.length yn,.slice xc l.coms.length yc,.int .i64 (l.fr 0),.int .i64 (l.fr 1),.int .i64 (l.fr 2),.int .i64 (l.fr 3),.int .i64 (l.fr 4),.int .i64 (l.fr 5),.int .i64 (l.ti 0),.int .i64 (l.ti 1),.int .i64 (l.ti 2),.int .i64 (l.ti 3),.int .i64 (l.ti 4),.int .i64 (l.ti 5)],.agg #[.int .i64 1,.int .i64 1,.bool false,.bool true],.func (.func 83) #[] #[.pointer (some ⟨bp,0,none⟩),.pointer (some ⟨bl,0,none⟩)]] Y _):=KS.out Y 1 1 false true HIY.below HO1.out
   have HIY':Hid _:=HIY
   clear HIY
   go_upto_region 7 with (first|(refine wpList_load_row rfl 76 _ rfl (w.heap.size+1) rfl 76 #[.slice xf l.frags.length yf,.slice xn l.names.length yn,.slice xc l.coms.length yc,.int .i64 (l.fr 0),.int .i64 (l.fr 1),.int .i64 (l.fr 2),.int .i64 (l.fr 3),.int .i64 (l.fr 4),.int .i64 (l.fr 5),.int .i64 (l.ti 0),.int .i64 (l.ti 1),.int .i64 (l.ti 2),.int .i64 (l.ti 3),.int .i64 (l.ti 4),.int .i64 (l.ti 5)] (0,0) _ p1 Tryz.underlying76 rfl hsl ?_)|(go_at_call 89;refine KS'.out.mono ?_;rintro e X ⟨hbX,vb,rfl,hBB⟩))
   have HIX:Hid (∀W,Below X.heap.size X W→IS w W #[.slice a1 p.frags.length c1,.slice a2 p.defs.length c2] #[.slice xf l.frags.length yf,.slice xn l.names.length yn,.slice xc l.coms.length yc,.int .i64 (l.fr 0),.int .i64 (l.fr 1),.int .i64 (l.fr 2),.int .i64 (l.fr 3),.int .i64 (l.fr 4),.int .i64 (l.fr 5),.int .i64 (l.ti 0),.int .i64 (l.ti 1),.int .i64 (l.ti 2),.int .i64 (l.ti 3),.int .i64 (l.ti 4),.int .i64 (l.ti 5)] nO at_ (.slice ax 0 cx) es∧BBlk W vb (M.segBytes p l 1 1)):=fun W hW=>⟨HIY'.out.later (hbX.trans (hW.mono hbX.size)),hBB.later hW⟩
   have y3:=(hbX.block _ hlY).trans x3
   clear HIY' x3 k0 k1 k2 k3 hlY p0 hlp p1 KS'
   obtain⟨hIX,hBX⟩:=HIX.out X (Below.refl _ _)
   have g1:X.cell? ⟨nO,1,none⟩=some (.slice ax 0 cx):=cellB hIX.img 1
   have hlO:=lt1 hIX.img
   have g2:X.cell? ⟨w.heap.size+1,3+1,none⟩=some (.int .i64 (l.fr 1)):=cellB hIX.p1 (3+1)
   have hlL:=lt1 hIX.p1
   have k0:=cellC y3 0 rfl
   have k2:=cellC y3 2 rfl
   have k3:=cellC y3 3 rfl
   have hlN:=lt1 y3
   have hvb:=bblk_one hBX
   obtain⟨gb,rfl,_⟩:=hBB
   have HBX:Hid _:=hBX
   have HNx:Hid (es.map (·.seg)++[⟨l.fr 1,M.segBytes p l 1 1,0,false,true⟩]=(segs0 p l).take 1):=by rw[Hid,HE.out,HS0.out];rfl
   generalize M.segBytes p l 1 1=SBy at *
   generalize SBy.length=nb at *
   have hwx:w.heap.size+1+1+1≤X.heap.size:=by have:=hIX.high;omega
   have hA3:Below X.heap.size X (X.drew.alloc (.cells #[.int .i64 (l.fr 1),.slice (some ⟨gb,0,none⟩) nb nb,.int .i64 0,.bool false,.bool true] 56)):=((Below.refl _ _).drew).alloc (Nat.le_refl _) _
   obtain⟨hIA,hBA⟩:=HIX.out _ hA3
   have HIA:Hid _:=hIA
   have HBA:Hid _:=hBA
   have hrw:=hIA.row
   rw[HLen.out] at hrw
   have HRw:Hid _:=hrw
   clear hIX hBX hA3 hIA hBA hrw HIX hbX y3
   refine img_r7 (fi:=1) (k:=0) (at_:=at_) (xs:=es.flatMap encSeg) g1 hlO k0 (by decide) g2 hlL k2 k3 hlN (by decide) hwx HRw (fun w5 hg5=>block_kept HIA.out.row hg5 HIA.out.img (by decide)) (fun c a d v w h=>h) ?_
   ·intro y37 y38 y39 y40 y41 y42 y43 y44 y45 y46 y47 y48 y49 y50 y51 y52 v5 w5 hg5 ho5
    have HF:Hid _:=HIA.out.push (e:=⟨⟨l.fr 1,SBy,0,false,true⟩,.slice (some ⟨gb,0,none⟩) nb nb⟩) HBA.out hg5 (by rw[HLen.out];exact ho5)
    have HM:Hid ((es++[(⟨⟨l.fr 1,SBy,0,false,true⟩,.slice (some ⟨gb,0,none⟩) nb nb⟩:SEnt)]).map (·.seg)=(segs0 p l).take 1):=by rw[Hid,List.map_append];exact HNx.out
    clear ho5 hg5 HIA HBA HRw HBX g1 g2 k0 k2 k3 hlO hlL hlN hwx
    go_wp2
    go_roundw
    case rel=>exact⟨1,_,_,by omega,by go_num,HM,HF⟩
    case measure=>simp[intOf]
  ·have hlen:es.length=1:=by have:=congrArg List.length HE.out;simpa [segs0] using this
   have hvs:∃ax cx,vS=.slice ax es.length cx:=own_len HI.out.row
   obtain⟨ax,cx,rfl⟩:=hvs
   rw[hlen] at HI
   have HLen:Hid (es.length=1):=hlen
   clear hlen
   go_upto_region 6 with fail
   have hbY:Below wr.heap.size wr (wr.alloc (.cells #[.int .i64 2,.int .i64 3,.bool false,.bool false] 148)):=bra _ _
   have HIY:=HI.out.later hbY
   have x3:=heap_alloc_new wr (.cells #[.int .i64 2,.int .i64 3,.bool false,.bool false] 148)
   clear HI hbY
   generalize wr.alloc (.cells #[.int .i64 2,.int .i64 3,.bool false,.bool false] 148)=Y at *
   generalize wr.heap.size=ns at *
   have k0:=cellC x3 0 rfl
   have k1:=cellC x3 1 rfl
   have k2:=cellC x3 2 rfl
   have k3:=cellC x3 3 rfl
   have hlY:=lt1 x3
   have p0:Y.cell? ⟨w.heap.size,0,none⟩=some (.slice a1 p.frags.length c1):=cellB HIY.p0 0
   have hlp:=lt1 HIY.p0
   have p1:=HIY.p1
   have KS':Hid (Calls Tryz.prog 89 #[.slice a1 p.frags.length c1,.agg #[.slice xf l.frags.length yf,.slice xn l.names.length yn,.slice xc l.coms.length yc,.int .i64 (l.fr 0),.int .i64 (l.fr 1),.int .i64 (l.fr 2),.int .i64 (l.fr 3),.int .i64 (l.fr 4),.int .i64 (l.fr 5),.int .i64 (l.ti 0),.int .i64 (l.ti 1),.int .i64 (l.ti 2),.int .i64 (l.ti 3),.int .i64 (l.ti 4),.int .i64 (l.ti 5)],.agg #[.int .i64 2,.int .i64 3,.bool false,.bool false],.func (.func 83) #[] #[.pointer (some ⟨bp,0,none⟩),.pointer (some ⟨bl,0,none⟩)]] Y _):=KS.out Y 2 3 false false HIY.below HO2.out
   have HIY':Hid _:=HIY
   clear HIY
   go_upto_region 7 with (first|(refine wpList_load_row rfl 76 _ rfl (w.heap.size+1) rfl 76 #[.slice xf l.frags.length yf,.slice xn l.names.length yn,.slice xc l.coms.length yc,.int .i64 (l.fr 0),.int .i64 (l.fr 1),.int .i64 (l.fr 2),.int .i64 (l.fr 3),.int .i64 (l.fr 4),.int .i64 (l.fr 5),.int .i64 (l.ti 0),.int .i64 (l.ti 1),.int .i64 (l.ti 2),.int .i64 (l.ti 3),.int .i64 (l.ti 4),.int .i64 (l.ti 5)] (0,0) _ p1 Tryz.underlying76 rfl hsl ?_)|(go_at_call 89;refine KS'.out.mono ?_;rintro e X ⟨hbX,vb,rfl,hBB⟩))
   have HIX:Hid (∀W,Below X.heap.size X W→IS w W #[.slice a1 p.frags.length c1,.slice a2 p.defs.length c2] #[.slice xf l.frags.length yf,.slice xn l.names.length yn,.slice xc l.coms.length yc,.int .i64 (l.fr 0),.int .i64 (l.fr 1),.int .i64 (l.fr 2),.int .i64 (l.fr 3),.int .i64 (l.fr 4),.int .i64 (l.fr 5),.int .i64 (l.ti 0),.int .i64 (l.ti 1),.int .i64 (l.ti 2),.int .i64 (l.ti 3),.int .i64 (l.ti 4),.int .i64 (l.ti 5)] nO at_ (.slice ax 1 cx) es∧BBlk W vb (M.segBytes p l 2 3)):=fun W hW=>⟨HIY'.out.later (hbX.trans (hW.mono hbX.size)),hBB.later hW⟩
   have y3:=(hbX.block _ hlY).trans x3
   clear HIY' x3 k0 k1 k2 k3 hlY p0 hlp p1 KS'
   obtain⟨hIX,hBX⟩:=HIX.out X (Below.refl _ _)
   have g1:X.cell? ⟨nO,1,none⟩=some (.slice ax 1 cx):=cellB hIX.img 1
   have hlO:=lt1 hIX.img
   have g2:X.cell? ⟨w.heap.size+1,3+2,none⟩=some (.int .i64 (l.fr 2)):=cellB hIX.p1 (3+2)
   have hlL:=lt1 hIX.p1
   have k0:=cellC y3 0 rfl
   have k2:=cellC y3 2 rfl
   have k3:=cellC y3 3 rfl
   have hlN:=lt1 y3
   have hvb:=bblk_one hBX
   obtain⟨gb,rfl,_⟩:=hBB
   have HBX:Hid _:=hBX
   have HNx:Hid (es.map (·.seg)++[⟨l.fr 2,M.segBytes p l 2 3,0,false,false⟩]=(segs0 p l).take 2):=by rw[Hid,HE.out,HS0.out];rfl
   generalize M.segBytes p l 2 3=SBy at *
   generalize SBy.length=nb at *
   have hwx:w.heap.size+1+1+1≤X.heap.size:=by have:=hIX.high;omega
   have hA3:Below X.heap.size X (X.drew.alloc (.cells #[.int .i64 (l.fr 2),.slice (some ⟨gb,0,none⟩) nb nb,.int .i64 0,.bool false,.bool false] 56)):=((Below.refl _ _).drew).alloc (Nat.le_refl _) _
   obtain⟨hIA,hBA⟩:=HIX.out _ hA3
   have HIA:Hid _:=hIA
   have HBA:Hid _:=hBA
   have hrw:=hIA.row
   rw[HLen.out] at hrw
   have HRw:Hid _:=hrw
   clear hIX hBX hA3 hIA hBA hrw HIX hbX y3
   refine img_r7 (fi:=2) (k:=1) (at_:=at_) (xs:=es.flatMap encSeg) g1 hlO k0 (by decide) g2 hlL k2 k3 hlN (by decide) hwx HRw (fun w5 hg5=>block_kept HIA.out.row hg5 HIA.out.img (by decide)) (fun c a d v w h=>h) ?_
   ·intro y37 y38 y39 y40 y41 y42 y43 y44 y45 y46 y47 y48 y49 y50 y51 y52 v5 w5 hg5 ho5
    have HF:Hid _:=HIA.out.push (e:=⟨⟨l.fr 2,SBy,0,false,false⟩,.slice (some ⟨gb,0,none⟩) nb nb⟩) HBA.out hg5 (by rw[HLen.out];exact ho5)
    have HM:Hid ((es++[(⟨⟨l.fr 2,SBy,0,false,false⟩,.slice (some ⟨gb,0,none⟩) nb nb⟩:SEnt)]).map (·.seg)=(segs0 p l).take 2):=by rw[Hid,List.map_append];exact HNx.out
    clear ho5 hg5 HIA HBA HRw HBX g1 g2 k0 k2 k3 hlO hlL hlN hwx
    go_wp2
    go_roundw
    case rel=>exact⟨2,_,_,by omega,by go_num,HM,HF⟩
    case measure=>simp[intOf]
  ·have hlen:es.length=2:=by have:=congrArg List.length HE.out;simpa [segs0] using this
   have hvs:∃ax cx,vS=.slice ax es.length cx:=own_len HI.out.row
   obtain⟨ax,cx,rfl⟩:=hvs
   rw[hlen] at HI
   have HLen:Hid (es.length=2):=hlen
   clear hlen
   go_upto_region 6 with fail
   have hbY:Below wr.heap.size wr (wr.alloc (.cells #[.int .i64 4,.int .i64 4,.bool true,.bool false] 148)):=bra _ _
   have HIY:=HI.out.later hbY
   have x3:=heap_alloc_new wr (.cells #[.int .i64 4,.int .i64 4,.bool true,.bool false] 148)
   clear HI hbY
   generalize wr.alloc (.cells #[.int .i64 4,.int .i64 4,.bool true,.bool false] 148)=Y at *
   generalize wr.heap.size=ns at *
   have k0:=cellC x3 0 rfl
   have k1:=cellC x3 1 rfl
   have k2:=cellC x3 2 rfl
   have k3:=cellC x3 3 rfl
   have hlY:=lt1 x3
   have p0:Y.cell? ⟨w.heap.size,0,none⟩=some (.slice a1 p.frags.length c1):=cellB HIY.p0 0
   have hlp:=lt1 HIY.p0
   have p1:=HIY.p1
   have KS':Hid (Calls Tryz.prog 89 #[.slice a1 p.frags.length c1,.agg #[.slice xf l.frags.length yf,.slice xn l.names.length yn,.slice xc l.coms.length yc,.int .i64 (l.fr 0),.int .i64 (l.fr 1),.int .i64 (l.fr 2),.int .i64 (l.fr 3),.int .i64 (l.fr 4),.int .i64 (l.fr 5),.int .i64 (l.ti 0),.int .i64 (l.ti 1),.int .i64 (l.ti 2),.int .i64 (l.ti 3),.int .i64 (l.ti 4),.int .i64 (l.ti 5)],.agg #[.int .i64 4,.int .i64 4,.bool true,.bool false],.func (.func 83) #[] #[.pointer (some ⟨bp,0,none⟩),.pointer (some ⟨bl,0,none⟩)]] Y _):=KS.out Y 4 4 true false HIY.below HO3.out
   have HIY':Hid _:=HIY
   clear HIY
   go_upto_region 7 with (first|(refine wpList_load_row rfl 76 _ rfl (w.heap.size+1) rfl 76 #[.slice xf l.frags.length yf,.slice xn l.names.length yn,.slice xc l.coms.length yc,.int .i64 (l.fr 0),.int .i64 (l.fr 1),.int .i64 (l.fr 2),.int .i64 (l.fr 3),.int .i64 (l.fr 4),.int .i64 (l.fr 5),.int .i64 (l.ti 0),.int .i64 (l.ti 1),.int .i64 (l.ti 2),.int .i64 (l.ti 3),.int .i64 (l.ti 4),.int .i64 (l.ti 5)] (0,0) _ p1 Tryz.underlying76 rfl hsl ?_)|(go_at_call 89;refine KS'.out.mono ?_;rintro e X ⟨hbX,vb,rfl,hBB⟩))
   have HIX:Hid (∀W,Below X.heap.size X W→IS w W #[.slice a1 p.frags.length c1,.slice a2 p.defs.length c2] #[.slice xf l.frags.length yf,.slice xn l.names.length yn,.slice xc l.coms.length yc,.int .i64 (l.fr 0),.int .i64 (l.fr 1),.int .i64 (l.fr 2),.int .i64 (l.fr 3),.int .i64 (l.fr 4),.int .i64 (l.fr 5),.int .i64 (l.ti 0),.int .i64 (l.ti 1),.int .i64 (l.ti 2),.int .i64 (l.ti 3),.int .i64 (l.ti 4),.int .i64 (l.ti 5)] nO at_ (.slice ax 2 cx) es∧BBlk W vb (M.segBytes p l 4 4)):=fun W hW=>⟨HIY'.out.later (hbX.trans (hW.mono hbX.size)),hBB.later hW⟩
   have y3:=(hbX.block _ hlY).trans x3
   clear HIY' x3 k0 k1 k2 k3 hlY p0 hlp p1 KS'
   obtain⟨hIX,hBX⟩:=HIX.out X (Below.refl _ _)
   have g1:X.cell? ⟨nO,1,none⟩=some (.slice ax 2 cx):=cellB hIX.img 1
   have hlO:=lt1 hIX.img
   have g2:X.cell? ⟨w.heap.size+1,3+4,none⟩=some (.int .i64 (l.fr 4)):=cellB hIX.p1 (3+4)
   have hlL:=lt1 hIX.p1
   have k0:=cellC y3 0 rfl
   have k2:=cellC y3 2 rfl
   have k3:=cellC y3 3 rfl
   have hlN:=lt1 y3
   have hvb:=bblk_one hBX
   obtain⟨gb,rfl,_⟩:=hBB
   have HBX:Hid _:=hBX
   have HNx:Hid (es.map (·.seg)++[⟨l.fr 4,M.segBytes p l 4 4,0,true,false⟩]=(segs0 p l).take 3):=by rw[Hid,HE.out,HS0.out];rfl
   generalize M.segBytes p l 4 4=SBy at *
   generalize SBy.length=nb at *
   have hwx:w.heap.size+1+1+1≤X.heap.size:=by have:=hIX.high;omega
   have hA3:Below X.heap.size X (X.drew.alloc (.cells #[.int .i64 (l.fr 4),.slice (some ⟨gb,0,none⟩) nb nb,.int .i64 0,.bool true,.bool false] 56)):=((Below.refl _ _).drew).alloc (Nat.le_refl _) _
   obtain⟨hIA,hBA⟩:=HIX.out _ hA3
   have HIA:Hid _:=hIA
   have HBA:Hid _:=hBA
   have hrw:=hIA.row
   rw[HLen.out] at hrw
   have HRw:Hid _:=hrw
   clear hIX hBX hA3 hIA hBA hrw HIX hbX y3
   refine img_r7 (fi:=4) (k:=2) (at_:=at_) (xs:=es.flatMap encSeg) g1 hlO k0 (by decide) g2 hlL k2 k3 hlN (by decide) hwx HRw (fun w5 hg5=>block_kept HIA.out.row hg5 HIA.out.img (by decide)) (fun c a d v w h=>h) ?_
   ·intro y37 y38 y39 y40 y41 y42 y43 y44 y45 y46 y47 y48 y49 y50 y51 y52 v5 w5 hg5 ho5
    have HF:Hid _:=HIA.out.push (e:=⟨⟨l.fr 4,SBy,0,true,false⟩,.slice (some ⟨gb,0,none⟩) nb nb⟩) HBA.out hg5 (by rw[HLen.out];exact ho5)
    have HM:Hid ((es++[(⟨⟨l.fr 4,SBy,0,true,false⟩,.slice (some ⟨gb,0,none⟩) nb nb⟩:SEnt)]).map (·.seg)=(segs0 p l).take 3):=by rw[Hid,List.map_append];exact HNx.out
    clear ho5 hg5 HIA HBA HRw HBX g1 g2 k0 k2 k3 hlO hlL hlN hwx
    go_wp2
    go_roundw
    case rel=>exact⟨3,_,_,by omega,by go_num,HM,HF⟩
    case measure=>simp[intOf]
  ·obtain⟨e1,e2,e3,rfl⟩:∃e1 e2 e3,es=[e1,e2,e3]:=by
    have hl:es.length=3:=by have:=congrArg List.length HE.out;simpa [segs0] using this
    match es,hl with
    | [e1,e2,e3],_=>exact⟨e1,e2,e3,rfl⟩
   have hE:=HE.out
   simp only[segs0,List.map_cons,List.map_nil,List.take_succ_cons,List.take_zero,List.cons.injEq,and_true] at hE
   obtain⟨h1,h2,h3⟩:=hE
   obtain⟨g,cx,rfl⟩:=own_blk HI.out.row (by show 0<3;decide)
   have HI':Hid (IS w wr #[.slice a1 p.frags.length c1,.slice a2 p.defs.length c2] #[.slice xf l.frags.length yf,.slice xn l.names.length yn,.slice xc l.coms.length yc,.int .i64 (l.fr 0),.int .i64 (l.fr 1),.int .i64 (l.fr 2),.int .i64 (l.fr 3),.int .i64 (l.fr 4),.int .i64 (l.fr 5),.int .i64 (l.ti 0),.int .i64 (l.ti 1),.int .i64 (l.ti 2),.int .i64 (l.ti 3),.int .i64 (l.ti 4),.int .i64 (l.ti 5)] nO at_ (.slice (some ⟨g,0,none⟩) 3 cx) [e1,e2,e3]):=HI
   obtain⟨⟨⟨u12,c12⟩,f12,hlg⟩,⟨hO,hR⟩,hFin⟩:=img_end (D:=l.ti 5-l.ti 4) HI'.out
   have HFin:Hid _:=hFin
   have g1:wr.cell? ⟨nO,1,none⟩=some (.slice (some ⟨g,0,none⟩) 3 cx):=cellB HI'.out.img 1
   have hlO:=lt1 HI'.out.img
   have t5:wr.cell? ⟨w.heap.size+1,14,none⟩=some (.int .i64 (l.ti 5)):=cellB HI'.out.p1 14
   have t4:wr.cell? ⟨w.heap.size+1,13,none⟩=some (.int .i64 (l.ti 4)):=cellB HI'.out.p1 13
   have hlL:=lt1 HI'.out.p1
   have HIm2:Hid (IM=⟨at_,[e1.seg,e2.seg,{ e3.seg with zeros:=l.ti 5-l.ti 4 }]⟩):=by rw[Hid,HIm.out,h1,h2,h3]
   clear HE HI HI' HIm h1 h2 h3 hFin HS0 HO1 HO2 HO3 KS
   have h3i:(2:Int)<((3:Nat):Int):=by decide
   go_upto_region 10 with fail
   have HO:Hid _:=hO
   have HR:Hid _:=hR
   clear hO hR c12 f12 g1 t5 t4 hlO hlL hlg
   generalize hY:wr.setCell ⟨g,12,none⟩ (.int .i64 (l.ti 5-l.ti 4))=Y at *
   have HY:Hid _:=hY
   clear hY
   have o0:Y.cell? ⟨nO,0,none⟩=some (.int .i64 at_):=cellB HO.out 0
   have o1:Y.cell? ⟨nO,1,none⟩=some (.slice (some ⟨g,0,none⟩) 3 cx):=cellB HO.out 1
   have hlO:=lt1 HO.out
   have r0:Y.cell? ⟨w.heap.size+1+1,0,none⟩=some (.int .i64 0):=cellB HR.out 0
   have r1:Y.cell? ⟨w.heap.size+1+1,1,none⟩=some (.slice none 0 0):=cellB HR.out 1
   have f0:=frozenB HR.out 0
   have f1:=frozenB HR.out 1
   have hlR:=lt1 HR.out
   go_wp2
   refine bodyPost_ret (v:=.agg #[.int .i64 at_,.slice (some ⟨g,0,none⟩) 3 cx]) (by simp[results,Tryz.results50,go_sem,r0,r1]) rfl ?_
   rw[HIm2.out]
   obtain⟨_,k2,k3⟩:=HFin.out (.int .i64 at_) (.slice (some ⟨g,0,none⟩) 3 cx)
   exact⟨k2,_,rfl,k3⟩
end Go.Proofs.YtpkfmfhodbjckaaGreatDoor
