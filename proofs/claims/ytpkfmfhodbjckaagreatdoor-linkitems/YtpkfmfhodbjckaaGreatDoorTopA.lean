/-
  A part in memory of its own: its rows; what it holds; how it grows by a fragment, by a definition, by another part. The contracts of names.Find, names.Wanted, names.Defined.
-/
import Derived.Test.YtpkfmfhodbjckaaGreatDoorFindA
import Derived.Test.YtpkfmfhodbjckaaGreatDoorNmA
set_option linter.unusedVariables false
set_option maxHeartbeats 2000000
set_option maxRecDepth 100000
namespace Go.Proofs.YtpkfmfhodbjckaaGreatDoor
open Go Go.RowKit
structure PR (w:World) (B:Nat) (es:List Ent) (ds:List M.Dfn) (vF vD:Value):Prop where
 rowF:w.ownsRow B 87 6 vF es.length (es.flatMap entCells)
 rowD:w.ownsRow B 72 6 vD ds.length (ds.flatMap encDfn)
 bytes:∀e∈es,w.ownsRow B 5 1 e.bv e.f.bytes.length (e.f.bytes.map (Value.int .u8))
 small:∀e∈es,(∀b∈e.f.bytes,0≤b∧b<256)∧e.f.group.size≤maxLen∧∀r∈e.f.rels,r.name.size≤maxLen∧(Lit.int .i64 r.kind).wf=true
 smallD:∀d∈ds,d.name.size≤maxLen
 rels:∀e∈es,w.ownsRow B 89 5 e.rv e.f.rels.length (e.f.rels.flatMap encRel)
theorem row_base{w:World}{B B' k n:Nat}{e:TypeId}{v:Value}{xs:List Value}(h:w.ownsRow B e k v n xs)(hB:B'≤B):w.ownsRow B' e k v n xs:=by
 refine⟨h.1,?_⟩
 rcases h.2 with h1|⟨g,cap,cur,h1,hb,h2⟩
 ·exact .inl h1
 ·exact .inr ⟨g,cap,cur,h1,Nat.le_trans hB hb,h2⟩
theorem PR.base{w:World}{B B':Nat}{es:List Ent}{ds:List M.Dfn}{vF vD:Value}(h:PR w B es ds vF vD)(hB:B'≤B):PR w B' es ds vF vD :=
 ⟨row_base h.rowF hB,row_base h.rowD hB,fun e he=>row_base (h.bytes e he) hB,h.small,h.smallD,fun e he=>row_base (h.rels e he) hB⟩
theorem PR.later{w w':World}{B:Nat}{es:List Ent}{ds:List M.Dfn}{vF vD:Value}(h:PR w B es ds vF vD)(hb:Below w.heap.size w w'):PR w' B es ds vF vD:=by
 have hg:=grown_of_below hb Option.none
 exact⟨h.rowF.kept hg own_self,h.rowD.kept hg own_self,fun e he=>(h.bytes e he).kept hg own_self,h.small,h.smallD,fun e he=>(h.rels e he).kept hg own_self⟩
theorem PR.set{w:World}{B b i:Nat}{es:List Ent}{ds:List M.Dfn}{vF vD u:Value}{cs:Array Value}(h:PR w B es ds vF vD)(hb:w.heap[b]?=some (.cells cs 43 (0,0))):PR (w.setCell (qa b i) u) B es ds vF vD :=
 ⟨row_setc h.rowF hb (by decide),row_setc h.rowD hb (by decide),fun e he=>row_setc (h.bytes e he) hb (by decide),h.small,h.smallD,fun e he=>row_setc (h.rels e he) hb (by decide)⟩
theorem PR.bytesAt{w:World}{B:Nat}{es:List Ent}{ds:List M.Dfn}{vF vD:Value}(h:PR w B es ds vF vD){e:Ent}(he:e∈es):BytesAt w e.bv e.f.bytes:=by
 refine⟨?_,(h.small e he).1⟩
 have hr:=h.bytes e he
 have e1:e.f.bytes.map (Value.int .u8)=e.f.bytes.flatMap (fun x=>[Value.int .u8 x]):=by induction e.f.bytes<;>simp_all
 rw[e1] at hr
 refine(row_slice (k:=1) 0 (fun x=>[Value.int .u8 x]) (fun _=>rfl) e.f.bytes hr).congr' (fun j i hj hi=>?_)
 obtain rfl:i=0:=by omega
 rfl
theorem PR.relsAt{w:World}{B:Nat}{es:List Ent}{ds:List M.Dfn}{vF vD:Value}(h:PR w B es ds vF vD){e:Ent}(he:e∈es):RelsAt w e.rv e.f.rels:=by
 refine⟨?_,(h.small e he).2.2⟩
 refine(row_slice (k:=5) rel0 encRel (fun _=>rfl) e.f.rels (h.rels e he)).congr' (fun j i hj hi=>?_)
 rcases(by omega:i=0∨i=1∨i=2∨i=3∨i=4) with rfl|rfl|rfl|rfl|rfl<;>rfl
theorem PR.fragsAt{w:World}{B:Nat}{es:List Ent}{ds:List M.Dfn}{vF vD:Value}(h:PR w B es ds vF vD):FragsAt w vF (es.map (·.f)):=by
 have hs:=row_slice (k:=6) ent0 entCells (fun _=>rfl) es h.rowF
 refine⟨fun j i=>(entCells (es.getD j ent0)).getD i undef,by rw[List.length_map];exact hs,fun j hj=>?_⟩
 rw[List.length_map] at hj
 have hm:=getD_mem es ent0 j hj
 have e1:(es.map (·.f)).getD j frg0=(es.getD j ent0).f:=by
  rw[List.getD_eq_getElem?_getD,List.getD_eq_getElem?_getD,List.getElem?_map,List.getElem?_eq_getElem hj];rfl
 rw[e1]
 exact⟨rfl,rfl,rfl,h.bytesAt hm,rfl,h.relsAt hm,(h.small _ hm).2.1⟩
theorem PR.defsAt{w:World}{B:Nat}{es:List Ent}{ds:List M.Dfn}{vF vD:Value}(h:PR w B es ds vF vD):DefsAt w vD ds:=by
 refine⟨?_,h.smallD⟩
 refine(row_slice (k:=6) dfn0 encDfn (fun _=>rfl) ds h.rowD).congr' (fun j i hj hi=>?_)
 rcases(by omega:i=0∨i=1∨i=2∨i=3∨i=4∨i=5) with rfl|rfl|rfl|rfl|rfl|rfl<;>rfl
theorem PR.nil(w:World)(B:Nat):PR w B [] [] (sv none 0 0) (sv none 0 0) :=
 ⟨World.ownsRow_nil _ _ _ _,World.ownsRow_nil _ _ _ _,(fun e he=>by cases he),(fun e he=>by cases he),(fun e he=>by cases he),(fun e he=>by cases he)⟩
theorem PR.growF{w w2:World}{B:Nat}{es es':List Ent}{ds:List M.Dfn}{vF vD v':Value}(h:PR w B es ds vF vD)(hgr:w.grownBy w2 vF.ownBlock)
  (hrow:w2.ownsRow B 87 6 v' (es.length+es'.length) (es.flatMap entCells++es'.flatMap entCells))
  (hby:∀e∈es',w.ownsRow B 5 1 e.bv e.f.bytes.length (e.f.bytes.map (Value.int .u8))) (hrl:∀e∈es',w.ownsRow B 89 5 e.rv e.f.rels.length (e.f.rels.flatMap encRel))
  (hsm:∀e∈es',(∀b∈e.f.bytes,0≤b∧b<256)∧e.f.group.size≤maxLen∧∀r∈e.f.rels,r.name.size≤maxLen∧(Lit.int .i64 r.kind).wf=true) :
  PR w2 B (es++es') ds v' vD:=by
 refine⟨?_,h.rowD.kept hgr (own_apart h.rowD h.rowF (by decide)),?_,?_,h.smallD,?_⟩
 ·rw[List.length_append,List.flatMap_append];exact hrow
 ·intro e he
  have hx:w.ownsRow B 5 1 e.bv e.f.bytes.length (e.f.bytes.map (Value.int .u8)):=by
   rcases List.mem_append.1 he with he|he
   ·exact h.bytes e he
   ·exact hby e he
  exact hx.kept hgr (own_apart hx h.rowF (by decide))
 ·intro e he
  rcases List.mem_append.1 he with he|he
  ·exact h.small e he
  ·exact hsm e he
 ·intro e he
  have hx:w.ownsRow B 89 5 e.rv e.f.rels.length (e.f.rels.flatMap encRel):=by
   rcases List.mem_append.1 he with he|he
   ·exact h.rels e he
   ·exact hrl e he
  exact hx.kept hgr (own_apart hx h.rowF (by decide))
theorem PR.growD{w w2:World}{B:Nat}{es:List Ent}{ds ds':List M.Dfn}{vF vD v':Value}(h:PR w B es ds vF vD)(hgr:w.grownBy w2 vD.ownBlock)
  (hrow:w2.ownsRow B 72 6 v' (ds.length+ds'.length) (ds.flatMap encDfn++ds'.flatMap encDfn)) (hsm:∀d∈ds',d.name.size≤maxLen) :
  PR w2 B es (ds++ds') vF v':=by
 refine⟨h.rowF.kept hgr (own_apart h.rowF h.rowD (by decide)),?_,?_,h.small,?_,?_⟩
 ·rw[List.length_append,List.flatMap_append];exact hrow
 ·exact fun e he=>(h.bytes e he).kept hgr (own_apart (h.bytes e he) h.rowD (by decide))
 ·intro d hd
  rcases List.mem_append.1 hd with hd|hd
  ·exact h.smallD d hd
  ·exact hsm d hd
 ·exact fun e he=>(h.rels e he).kept hgr (own_apart (h.rels e he) h.rowD (by decide))
theorem block_kept{w w2:World}{B k n g:Nat}{e t:TypeId}{v:Value}{xs:List Value}{cs:Array Value}(h:w.ownsRow B e k v n xs)(hgr:w.grownBy w2 v.ownBlock)(hb:w.heap[g]?=some (.cells cs t (0,0)))(hne:e≠t):w2.heap[g]?=some (.cells cs t (0,0)):=by
 rw[hgr.block g (lt1 hb)]
 ·exact hb
 ·rcases own_ne h hb hne with h1|h1
  ·rw[h1];simp
  ·exact fun e=>h1 e.symm
theorem len_ok(f:M.Frg)(h:M.shaped f=0):f.bytes.length≤64∧f.rels.length≤8:=by
 unfold M.shaped M.checkFrag at h
 split at h
 ·cases h
 split at h
 ·cases h
 split at h
 ·cases h
 rename_i h3
 dsimp only at h3
 rw[List.length_map] at h3
 omega
end Go.Proofs.YtpkfmfhodbjckaaGreatDoor
namespace Go.Proofs.YtpkfmfhodbjckaaGreatDoor
open Go.RowKit
def findOf (p:M.Prt) (s:ByteArray):M.Dfn × Int:=if M.checkPart p=0 then M.find p.defs s else (M.dfnZ,M.checkPart p)
def wantedOfP (p:M.Prt):List ByteArray:=if M.checkPart p=0 then M.wanted p else []
def definedOfP (p:M.Prt):List ByteArray:=if M.checkPart p=0 then M.defined p else []
theorem findP_any(p:M.Prt)(s:ByteArray)(a1 a2:Option Addr)(c1 c2:Nat)(w:World)(hf:FragsAt w (sv a1 p.frags.length c1) p.frags)(hd:DefsAt w (sv a2 p.defs.length c2) p.defs) :
  Calls Tryz.prog 110 #[.agg #[sv a1 p.frags.length c1,sv a2 p.defs.length c2],.string s] w fun e w'=>e=.returned (.tuple #[.agg (dfnArr (findOf p s).1),iv (findOf p s).2])∧Below w.heap.size w w':=by
 have hA:Hid (Below w.heap.size w ((w.alloc (.cells #[sv a1 p.frags.length c1,sv a2 p.defs.length c2] 43)).alloc (.cells dfnZA 72))):=(bra _ _).alloc (by simp) _
 have KC:Hid (Calls Tryz.prog 46 #[.agg #[sv a1 p.frags.length c1,sv a2 p.defs.length c2]] ((w.alloc (.cells #[sv a1 p.frags.length c1,sv a2 p.defs.length c2] 43)).alloc (.cells dfnZA 72)) fun e w'=>e=.returned (iv (M.checkPart p))∧Below ((w.alloc (.cells #[sv a1 p.frags.length c1,sv a2 p.defs.length c2] 43)).alloc (.cells dfnZA 72)).heap.size ((w.alloc (.cells #[sv a1 p.frags.length c1,sv a2 p.defs.length c2] 43)).alloc (.cells dfnZA 72)) w'):=check_any p.frags p.defs _ _ _ _ _ (hf.later hA.out) (hd.later hA.out)
 have Q0:Hid (((w.alloc (.cells #[sv a1 p.frags.length c1,sv a2 p.defs.length c2] 43)).alloc (.cells dfnZA 72)).heap[w.heap.size]?=some (.cells #[sv a1 p.frags.length c1,sv a2 p.defs.length c2] 43 (0,0))):=heap_alloc2_old _ _ _
 have Q1:Hid (((w.alloc (.cells #[sv a1 p.frags.length c1,sv a2 p.defs.length c2] 43)).alloc (.cells dfnZA 72)).heap[w.heap.size+1]?=some (.cells dfnZA 72 (0,0))):=heap_alloc2_new _ _ _
 unfold dfnZA at hA KC Q0 Q1
 by_cases hck:M.checkPart p=0
 ·have HF:Hid (findOf p s=M.find p.defs s):=if_pos hck
  have hn:=((M.ok_iff p).1 hck).nd
  rw[hck] at KC
  clear hck
  go_enter Tryz.func110,Tryz.ntmps110
  go_upto_region 4 with (go_at_call 46;refine KC.out.mono ?_;rintro e X ⟨rfl,hx⟩)
  have HX:Hid (Below w.heap.size w X):=hA.out.trans (hx.mono hA.out.size)
  have q0:=(hx.block _ (by simp;omega)).trans Q0.out
  have q1:=(hx.block _ (by simp)).trans Q1.out
  clear hx KC hA Q0 Q1
  have c1':=cellC q0 1 rfl
  have hl0:=lt1 q0
  have KF:Hid (Calls Tryz.prog 130 #[sv a2 p.defs.length c2,.string s] X fun e w'=>e=.returned (.tuple #[.agg (dfnArr (M.find p.defs s).1),iv (M.find p.defs s).2])∧Below X.heap.size X w'):=find_any p.defs s a2 c2 X (hd.later HX.out) hn
  generalize M.find p.defs s=fr at *
  obtain⟨⟨nm,kd,fg,pos,sz,al⟩,er⟩:=fr
  simp only[dfnArr] at KF
  clear hf hd
  go_wp2_with (go_at_call 130;refine KF.out.mono ?_;rintro e W3 ⟨rfl,hb3⟩;refine Hid.out ?_)
  have q:=blk hb3 q1
  have hlt3:=lt1 q
  have d0:=cellC q 0 rfl
  have d1:=cellC q 1 rfl
  have d2:=cellC q 2 rfl
  have d3:=cellC q 3 rfl
  have d4:=cellC q 4 rfl
  have d5:=cellC q 5 rfl
  have z0:=frozenB q 0
  have z1:=frozenB q 1
  have z2:=frozenB q 2
  have z3:=frozenB q 3
  have z4:=frozenB q 4
  have z5:=frozenB q 5
  have HSt:Hid _:=store6 W3 (w.heap.size+1) _ _ _ _ _ _ (.string nm) (iv kd) (iv fg) (iv pos) (iv sz) (iv al) 72 q
  have HE:Hid (Below w.heap.size w _):=(HX.out.trans (hb3.mono HX.out.size)).grown HSt.out.2 (by omega) (fun k hk=>by cases hk;omega)
  clear q HSt KF q0 q1 c1'
  refine Lib.hid ?_
  go_wp2
  refine bodyPost_ret (v:=.tuple #[.agg (dfnArr ⟨nm,kd,fg,pos,sz,al⟩),iv er]) (by simp[results,Tryz.results110,go_sem,d0,d1,d2,d3,d4,d5,dfnArr]) rfl ?_
  exact⟨by rw[HF.out],HE.out⟩
 ·have HF:Hid (findOf p s=(M.dfnZ,M.checkPart p)):=if_neg hck
  have hne:(M.checkPart p !=0)=true:=by simpa using hck
  clear hck
  generalize M.checkPart p=er at *
  go_enter Tryz.func110,Tryz.ntmps110
  go_wp2_with (go_at_call 46;refine KC.out.mono ?_;rintro e X ⟨rfl,hx⟩;refine Hid.out ?_)
  have HX:Hid (Below w.heap.size w X):=hA.out.trans (hx.mono hA.out.size)
  have q:=(hx.block _ (by simp)).trans Q1.out
  have hlt3:=lt1 q
  have d0:=cellC q 0 rfl
  have d1:=cellC q 1 rfl
  have d2:=cellC q 2 rfl
  have d3:=cellC q 3 rfl
  have d4:=cellC q 4 rfl
  have d5:=cellC q 5 rfl
  have z0:=frozenB q 0
  have z1:=frozenB q 1
  have z2:=frozenB q 2
  have z3:=frozenB q 3
  have z4:=frozenB q 4
  have z5:=frozenB q 5
  have HSt:Hid _:=store6 X (w.heap.size+1) _ _ _ _ _ _ (.string ⟨#[]⟩) (iv 0) (iv 0) (iv 0) (iv 0) (iv 0) 72 q
  have HE:Hid (Below w.heap.size w _):=HX.out.grown HSt.out.2 (by omega) (fun k hk=>by cases hk;omega)
  clear q HSt KC hx hA Q0 Q1 hf hd
  refine Lib.hid ?_
  go_wp2
  refine bodyPost_ret (v:=.tuple #[.agg (dfnArr M.dfnZ),iv er]) (by simp[results,Tryz.results110,go_sem,d0,d1,d2,d3,d4,d5,dfnArr,M.dfnZ]) rfl ?_
  exact⟨by rw[HF.out],HE.out⟩
theorem ok_rels{p:M.Prt}(h:M.Ok p):∀f∈p.frags,f.rels.length≤8:=fun f hf=>(len_ok f (h.shape f hf)).2
theorem wantedP_any(p:M.Prt)(a1 a2:Option Addr)(c1 c2:Nat)(w:World)(hf:FragsAt w (sv a1 p.frags.length c1) p.frags)(hd:DefsAt w (sv a2 p.defs.length c2) p.defs) :
  Calls Tryz.prog 76 #[.agg #[sv a1 p.frags.length c1,sv a2 p.defs.length c2]] w fun e w'=>Below w.heap.size w w'∧∃v,e=.returned (.tuple #[v,iv (M.checkPart p)])∧w'.ownsRow w.heap.size 9 1 v (wantedOfP p).length ((wantedOfP p).map Value.string)∧∀s∈wantedOfP p,s.size≤maxLen:=by
 have hA:Hid (Below w.heap.size w (w.alloc (.cells #[sv a1 p.frags.length c1,sv a2 p.defs.length c2] 43))):=bra _ _
 have KC:Hid (Calls Tryz.prog 46 #[.agg #[sv a1 p.frags.length c1,sv a2 p.defs.length c2]] (w.alloc (.cells #[sv a1 p.frags.length c1,sv a2 p.defs.length c2] 43)) fun e w'=>e=.returned (iv (M.checkPart p))∧Below (w.alloc (.cells #[sv a1 p.frags.length c1,sv a2 p.defs.length c2] 43)).heap.size (w.alloc (.cells #[sv a1 p.frags.length c1,sv a2 p.defs.length c2] 43)) w'):=check_any p.frags p.defs _ _ _ _ _ (hf.later hA.out) (hd.later hA.out)
 have q0:=heap_alloc_new w (.cells #[sv a1 p.frags.length c1,sv a2 p.defs.length c2] 43)
 by_cases hck:M.checkPart p=0
 ·have HW:Hid (wantedOfP p=M.rising (M.wantedNames p.frags)):=if_pos hck
  have hok:=(M.ok_iff p).1 hck
  have hn:=hok.nf
  have h8:=ok_rels hok
  rw[hck] at KC ⊢
  clear hck hok
  go_enter Tryz.func76,Tryz.ntmps76
  go_wp2_with (go_at_call 46;refine KC.out.mono ?_;rintro e x1 ⟨rfl,hx1⟩;refine Hid.out ?_)
  have HX1:Hid (Below w.heap.size w x1):=hA.out.trans (hx1.mono hA.out.size)
  have y0:=(hx1.block _ (by simp)).trans q0
  have c0:=cellC y0 0 rfl
  have KG:Hid (Calls Tryz.prog 100 #[sv a1 p.frags.length c1] x1 _):=wanted_any p.frags a1 c1 x1 (hf.later HX1.out) hn h8
  clear hx1 q0 y0 KC hA hf hd h8
  refine Lib.hid ?_
  go_wp2_with (go_at_call 100;refine KG.out.mono ?_;rintro e x2 ⟨hx2,v,rfl,hv,hs⟩;obtain⟨ad,nn,cc,rfl⟩:=own_form hv)
  go_ret2
  exact⟨HX1.out.trans (hx2.mono HX1.out.size),_,rfl,by rw[HW.out];exact row_base hv HX1.out.size,by rw[HW.out];exact hs⟩
 ·have HW:Hid (wantedOfP p=[]):=if_neg hck
  have hne:(M.checkPart p !=0)=true:=by simpa using hck
  clear hck
  generalize M.checkPart p=er at *
  go_enter Tryz.func76,Tryz.ntmps76
  go_wp2_with (go_at_call 46;refine KC.out.mono ?_;rintro e x1 ⟨rfl,hx1⟩)
  go_ret2
  exact⟨hA.out.trans (hx1.mono hA.out.size),_,rfl,by rw[HW.out];exact World.ownsRow_nil _ _ _ _,by rw[HW.out];exact fun s hs=>by cases hs⟩
theorem definedP_any(p:M.Prt)(a1 a2:Option Addr)(c1 c2:Nat)(w:World)(hf:FragsAt w (sv a1 p.frags.length c1) p.frags)(hd:DefsAt w (sv a2 p.defs.length c2) p.defs) :
  Calls Tryz.prog 109 #[.agg #[sv a1 p.frags.length c1,sv a2 p.defs.length c2]] w fun e w'=>Below w.heap.size w w'∧∃v,e=.returned (.tuple #[v,iv (M.checkPart p)])∧w'.ownsRow w.heap.size 9 1 v (definedOfP p).length ((definedOfP p).map Value.string)∧∀s∈definedOfP p,s.size≤maxLen:=by
 have hA:Hid (Below w.heap.size w (w.alloc (.cells #[sv a1 p.frags.length c1,sv a2 p.defs.length c2] 43))):=bra _ _
 have KC:Hid (Calls Tryz.prog 46 #[.agg #[sv a1 p.frags.length c1,sv a2 p.defs.length c2]] (w.alloc (.cells #[sv a1 p.frags.length c1,sv a2 p.defs.length c2] 43)) fun e w'=>e=.returned (iv (M.checkPart p))∧Below (w.alloc (.cells #[sv a1 p.frags.length c1,sv a2 p.defs.length c2] 43)).heap.size (w.alloc (.cells #[sv a1 p.frags.length c1,sv a2 p.defs.length c2] 43)) w'):=check_any p.frags p.defs _ _ _ _ _ (hf.later hA.out) (hd.later hA.out)
 have q0:=heap_alloc_new w (.cells #[sv a1 p.frags.length c1,sv a2 p.defs.length c2] 43)
 by_cases hck:M.checkPart p=0
 ·have HW:Hid (definedOfP p=M.rising (M.definedNames p.defs)):=if_pos hck
  have hok:=(M.ok_iff p).1 hck
  have hn:=hok.nd
  rw[hck] at KC ⊢
  clear hck hok
  go_enter Tryz.func109,Tryz.ntmps109
  go_wp2_with (go_at_call 46;refine KC.out.mono ?_;rintro e x1 ⟨rfl,hx1⟩;refine Hid.out ?_)
  have HX1:Hid (Below w.heap.size w x1):=hA.out.trans (hx1.mono hA.out.size)
  have y0:=(hx1.block _ (by simp)).trans q0
  have c0:=cellC y0 1 rfl
  have KG:Hid (Calls Tryz.prog 129 #[sv a2 p.defs.length c2] x1 _):=defined_any p.defs a2 c2 x1 (hd.later HX1.out) hn
  clear hx1 q0 y0 KC hA hf hd
  refine Lib.hid ?_
  go_wp2_with (go_at_call 129;refine KG.out.mono ?_;rintro e x2 ⟨hx2,v,rfl,hv,hs⟩;obtain⟨ad,nn,cc,rfl⟩:=own_form hv)
  go_ret2
  exact⟨HX1.out.trans (hx2.mono HX1.out.size),_,rfl,by rw[HW.out];exact row_base hv HX1.out.size,by rw[HW.out];exact hs⟩
 ·have HW:Hid (definedOfP p=[]):=if_neg hck
  have hne:(M.checkPart p !=0)=true:=by simpa using hck
  clear hck
  generalize M.checkPart p=er at *
  go_enter Tryz.func109,Tryz.ntmps109
  go_wp2_with (go_at_call 46;refine KC.out.mono ?_;rintro e x1 ⟨rfl,hx1⟩)
  go_ret2
  exact⟨hA.out.trans (hx1.mono hA.out.size),_,rfl,by rw[HW.out];exact World.ownsRow_nil _ _ _ _,by rw[HW.out];exact fun s hs=>by cases hs⟩
end Go.Proofs.YtpkfmfhodbjckaaGreatDoor
