/-
  What the reading of a slice gives: its elements, and where they lie. What the reading of a part gives: the part, and where it lies. What the reach of a row says of a slice: how many bytes it holds, and what its elements hold. What the reach of a row says of a part: it can be copied. What the reading of parts and of texts gives. What the reading of integers gives. What the reading of nodes and of truth values gives. What the reading of a farm and of a happening gives. What the reach of a row says of a farm: it can be copied.
-/
import Derived.Test.YtebippbakbihiaaGreatDoorChecked
import Derived.ProofKit
import Derived.OpenShut
import Derived.Deep.Slices
import Derived.Lib.SmallJoins
import Derived.SizedLaws
import Derived.Test.YtebippbakbihiaaGreatDoorRfO
namespace Go.Proofs.YtebippbakbihiaaGreatDoor
open Go.ChangeShapes Go.WideShapes Go.RowKit Go.Deep
set_option linter.unusedVariables false
theorem SlAt.congr {w:World} {v:Value} {k n:Nat} {cell cell':Nat→Nat→Value} (h:SlAt w v k n cell) (e:∀ j i,j<n→i<k→cell j i=cell' j i):SlAt w v k n cell':=by
 obtain⟨a,c,rfl,hn,h⟩:=h
 refine⟨a,c,rfl,hn,?_⟩
 rcases h with h | ⟨b,off,rfl,h⟩
 ·exact .inl h
 ·exact .inr ⟨b,off,rfl,fun j i hj hi=>by rw[h j i hj hi,e j i hj hi]⟩
section
variable {H : Type} {enc : TypeId × Value → H} {w : World} {base : Nat} {spare : Nat → Bool} {held : Bool}
theorem slice_open {α:Type} (dflt:α) (Q:α→List Value→Prop) {t e:TypeId} {k fuel:Nat} {v:Value} {x:DataW H × List MemPlace} (hk:0<k) (hke:Tryz.prog.cellsOf e=k)
  (ht:Tryz.prog.underlying t=some (.slice e)) (hQ:∀ n cs' y,DataW.trod enc Tryz.prog w base spare held n e cs'=some y→∃ z,Q z cs') (h:DataW.trod enc Tryz.prog w base spare held fuel t [v]=some x) :
  ∃ (a:Option Addr) (zs:List α) (c:Nat) (CS:Nat→List Value),v=sv a zs.length c∧SlAt w (sv a zs.length c) k zs.length (fun i j=>(CS i).getD j undef)∧∀ i,i<zs.length→(CS i).length=k∧Q (zs.getD i dflt) (CS i):=by
 rcases open_slice ht h with ⟨hc,_⟩ | ⟨a,len,cap,m,n,D,Pl,hc,hb,hl,hm,hmm,_,hx⟩
 ·cases hc
  exact⟨none,[],0,fun _=>[],rfl,⟨none,0,rfl,Nat.zero_le _,.inl rfl⟩,fun i hi=>absurd hi (Nat.not_lt_zero _)⟩
 ·cases hc
  have hlm:len≤m:=by rw[hmm];split <;> omega
  have key:∀ i,i<len→∃ z:List Value × α,w.cells? base (a.add (i*k)) k=some z.1∧Q z.2 z.1:=fun i hi=>by
   obtain⟨cs',h1,h2⟩:=hx i (by omega)
   obtain⟨z,hz⟩:=hQ _ _ _ h2
   rw[hke] at h1
   exact⟨(cs',z),h1,hz⟩
  obtain⟨f,hf⟩:=@choose_lt (List Value × α) ⟨([],dflt)⟩ len _ key
  have hlen:((List.range len).map fun i=>(f i).2).length=len:=by simp
  refine⟨some a,(List.range len).map fun i=>(f i).2,cap,fun i=>(f i).1,by rw[hlen],?_,?_⟩
  ·rw[hlen]
   refine⟨some a,cap,rfl,by omega,?_⟩
   by_cases h0:len=0
   ·exact .inl h0
   ·right
    obtain⟨b,o,s⟩:=a
    have hsp:s=none:=by
     have h1:=(World.cells?_some (hf 0 (by omega)).1)
     have h2:=h1.2.2 0 hk
     rw[List.getElem?_eq_getElem (by rw[h1.2.1];exact hk)] at h2
     simpa [Addr.add] using World.cell?_spot h2
    subst hsp
    refine⟨b,o,rfl,fun j i hj hi=>?_⟩
    have h1:=(World.cells?_some (hf j hj).1)
    have h2:=h1.2.2 i hi
    rw[add_plain,add_plain] at h2
    rw[h2]
    show _=some ((f j).1.getD i undef)
    rw[List.getD_eq_getElem?_getD,List.getElem?_eq_getElem (by rw[h1.2.1];exact hi)]
    rfl
  ·intro i hi
   rw[hlen] at hi
   have h1:=(World.cells?_some (hf i hi).1)
   refine⟨h1.2.1,?_⟩
   have e:((List.range len).map fun i=>(f i).2).getD i dflt=(f i).2:=by
    rw[List.getD_eq_getElem?_getD];simp[hi]
   rw[e]
   exact (hf i hi).2
theorem cap_openS {t e:TypeId} {n:Nat} {a:Option Addr} {l c:Nat} {y:DataW H × List MemPlace} (ht:Tryz.prog.underlying t=some (.slice e)) (h:DataW.trod enc Tryz.prog w base spare held n t [.slice a l c]=some y):l≤c:=by
 rcases Go.Deep.open_slice ht h with ⟨hc,_⟩ | ⟨a,len,cap,m,n,D,Pl,hc,_,hl,_⟩
 ·simp only[List.cons.injEq,Value.slice.injEq,and_true] at hc
  omega
 ·simp only[List.cons.injEq,Value.slice.injEq,and_true] at hc
  omega
end
end Go.Proofs.YtebippbakbihiaaGreatDoor
namespace Go.Proofs.YtebippbakbihiaaGreatDoor
open Go.ChangeShapes Go.WideShapes Go.RowKit Go.Deep
set_option linter.unusedVariables false
theorem kInt:Tryz.prog.cellsOf 3=1:=by kernel_rfl
theorem kStr:Tryz.prog.cellsOf 9=1:=by kernel_rfl
theorem kByte:Tryz.prog.cellsOf 5=1:=by kernel_rfl
theorem kBytes:Tryz.prog.cellsOf 87=1:=by kernel_rfl
theorem kRels:Tryz.prog.cellsOf 88=1:=by kernel_rfl
theorem kRel:Tryz.prog.cellsOf 94=5:=by kernel_rfl
theorem kDef:Tryz.prog.cellsOf 86=6:=by kernel_rfl
theorem kFrag:Tryz.prog.cellsOf 90=6:=by kernel_rfl
theorem kPart:Tryz.prog.cellsOf 39=2:=by kernel_rfl
section
variable {H : Type} {enc : TypeId × Value → H} {w : World} {base : Nat} {spare : Nat → Bool} {held : Bool}
set_option maxRecDepth 100000 in
theorem rel_open {n:Nat} {cs:List Value} {y:DataW H × List MemPlace} (h:DataW.trod enc Tryz.prog w base spare held n 94 cs=some y) :
  ∃ r:M.Rel,(r.name.size≤maxLen∧(Lit.int .i64 r.kind).wf=true)∧cs=encRel r:=by
 obtain⟨xs,m,_,_,hl,hlen,hf⟩:=DataW.trod_struct Tryz.underlying94 h
 rw[kRel] at hl
 match cs,hl with
 | [c0,c1,c2,c3,c4],_ =>
  match xs,hlen with
  | [y0,y1,y2,y3,y4],_ =>
   have h0:=hf 0 _ rfl
   have h1:=hf 1 _ rfl
   have h2:=hf 2 _ rfl
   have h3:=hf 3 _ rfl
   have h4:=hf 4 _ rfl
   simp[kInt,kStr] at h0 h1 h2 h3 h4
   obtain⟨x0,e0,_,w0⟩:=DataW.trod_int Tryz.underlying3 h0
   obtain⟨x1,e1,_,w1⟩:=DataW.trod_int Tryz.underlying3 h1
   obtain⟨x2,e2,_,w2⟩:=DataW.trod_string Tryz.underlying9 h2
   obtain⟨x3,e3,_,w3⟩:=DataW.trod_int Tryz.underlying3 h3
   obtain⟨x4,e4,_,w4⟩:=DataW.trod_int Tryz.underlying3 h4
   cases e0;cases e1;cases e2;cases e3;cases e4
   exact⟨⟨x0,x1,x2,x3,x4⟩,⟨w2,w1⟩,rfl⟩
set_option maxRecDepth 100000 in
theorem def_open {n:Nat} {cs:List Value} {y:DataW H × List MemPlace} (h:DataW.trod enc Tryz.prog w base spare held n 86 cs=some y) :
  ∃ r:M.Dfn,r.name.size≤maxLen∧cs=encDfn r:=by
 obtain⟨xs,m,_,_,hl,hlen,hf⟩:=DataW.trod_struct Tryz.underlying86 h
 rw[kDef] at hl
 match cs,hl with
 | [c0,c1,c2,c3,c4,c5],_ =>
  match xs,hlen with
  | [y0,y1,y2,y3,y4,y5],_ =>
   have h0:=hf 0 _ rfl
   have h1:=hf 1 _ rfl
   have h2:=hf 2 _ rfl
   have h3:=hf 3 _ rfl
   have h4:=hf 4 _ rfl
   have h5:=hf 5 _ rfl
   simp[kInt,kStr] at h0 h1 h2 h3 h4 h5
   obtain⟨x0,e0,_,w0⟩:=DataW.trod_string Tryz.underlying9 h0
   obtain⟨x1,e1,_,w1⟩:=DataW.trod_int Tryz.underlying3 h1
   obtain⟨x2,e2,_,w2⟩:=DataW.trod_int Tryz.underlying3 h2
   obtain⟨x3,e3,_,w3⟩:=DataW.trod_int Tryz.underlying3 h3
   obtain⟨x4,e4,_,w4⟩:=DataW.trod_int Tryz.underlying3 h4
   obtain⟨x5,e5,_,w5⟩:=DataW.trod_int Tryz.underlying3 h5
   cases e0;cases e1;cases e2;cases e3;cases e4;cases e5
   exact⟨⟨x0,x1,x2,x3,x4,x5⟩,w0,rfl⟩
theorem rels_open {n:Nat} {v:Value} {y:DataW H × List MemPlace} (h:DataW.trod enc Tryz.prog w base spare held n 88 [v]=some y) :
  ∃ (rs:List M.Rel) (a:Option Addr) (c:Nat),v=sv a rs.length c∧RelsAt w (sv a rs.length c) rs:=by
 obtain⟨a,rs,c,CS,hv,hsl,hq⟩:=slice_open rel0 (fun r cs=>(r.name.size≤maxLen∧(Lit.int .i64 r.kind).wf=true)∧cs=encRel r) (by decide) kRel Tryz.underlying88 (fun _ _ _ h=>rel_open h) h
 refine⟨rs,a,c,hv,?_,fun r hr=>?_⟩
 ·refine hsl.congr fun j i hj hi=>?_
  rw[(hq j hj).2.2]
  rcases (by omega:i=0∨i=1∨i=2∨i=3∨i=4) with rfl | rfl | rfl | rfl | rfl <;> rfl
 ·obtain⟨j,hj,rfl⟩:=List.getElem_of_mem hr
  have:=(hq j hj).2.1
  rwa [List.getD_eq_getElem?_getD,List.getElem?_eq_getElem hj] at this
theorem defs_open {n:Nat} {v:Value} {y:DataW H × List MemPlace} (h:DataW.trod enc Tryz.prog w base spare held n 37 [v]=some y) :
  ∃ (rs:List M.Dfn) (a:Option Addr) (c:Nat),v=sv a rs.length c∧DefsAt w (sv a rs.length c) rs:=by
 obtain⟨a,rs,c,CS,hv,hsl,hq⟩:=slice_open dfn0 (fun r cs=>r.name.size≤maxLen∧cs=encDfn r) (by decide) kDef Tryz.underlying37 (fun _ _ _ h=>def_open h) h
 refine⟨rs,a,c,hv,?_,fun r hr=>?_⟩
 ·refine hsl.congr fun j i hj hi=>?_
  rw[(hq j hj).2.2]
  rcases (by omega:i=0∨i=1∨i=2∨i=3∨i=4∨i=5) with rfl | rfl | rfl | rfl | rfl | rfl <;> rfl
 ·obtain⟨j,hj,rfl⟩:=List.getElem_of_mem hr
  have:=(hq j hj).2.1
  rwa [List.getD_eq_getElem?_getD,List.getElem?_eq_getElem hj] at this
theorem bytes_open {n:Nat} {v:Value} {y:DataW H × List MemPlace} (h:DataW.trod enc Tryz.prog w base spare held n 87 [v]=some y) :
  ∃ (bs:List Int) (a:Option Addr) (c:Nat),v=sv a bs.length c∧BytesAt w (sv a bs.length c) bs:=by
 obtain⟨a,rs,c,CS,hv,hsl,hq⟩:=slice_open (0:Int) (fun b cs=>(0≤b∧b<256)∧cs=[.int .u8 b]) (by decide) kByte Tryz.underlying87 (fun n cs' y h=>by
  obtain⟨x,e,_,hw⟩:=DataW.trod_int Tryz.underlying5 h
  have hb:=bounds_u8 hw
  exact⟨x,⟨hb.1,by omega⟩,e⟩) h
 refine⟨rs,a,c,hv,?_,fun r hr=>?_⟩
 ·refine hsl.congr fun j i hj hi=>?_
  rw[(hq j hj).2.2]
  obtain rfl:i=0:=by omega
  rfl
 ·obtain⟨j,hj,rfl⟩:=List.getElem_of_mem hr
  have:=(hq j hj).2.1
  rwa [List.getD_eq_getElem?_getD,List.getElem?_eq_getElem hj] at this
set_option maxRecDepth 100000 in
theorem frag_open {n:Nat} {cs:List Value} {y:DataW H × List MemPlace} (h:DataW.trod enc Tryz.prog w base spare held n 90 cs=some y) :
  ∃ f:M.Frg,FrgAt w (fun j=>cs.getD j undef) f:=by
 obtain⟨xs,m,_,_,hl,hlen,hf⟩:=DataW.trod_struct Tryz.underlying90 h
 rw[kFrag] at hl
 match cs,hl with
 | [c0,c1,c2,c3,c4,c5],_ =>
  match xs,hlen with
  | [y0,y1,y2,y3,y4,y5],_ =>
   have h0:=hf 0 _ rfl
   have h1:=hf 1 _ rfl
   have h2:=hf 2 _ rfl
   have h3:=hf 3 _ rfl
   have h4:=hf 4 _ rfl
   have h5:=hf 5 _ rfl
   simp[kInt,kStr,kBytes,kRels] at h0 h1 h2 h3 h4 h5
   obtain⟨x0,e0,_,w0⟩:=DataW.trod_int Tryz.underlying3 h0
   obtain⟨x1,e1,_,w1⟩:=DataW.trod_int Tryz.underlying3 h1
   obtain⟨x2,e2,_,w2⟩:=DataW.trod_string Tryz.underlying9 h2
   obtain⟨bs,ab,cb,rfl,hB⟩:=bytes_open h3
   obtain⟨x4,e4,_,w4⟩:=DataW.trod_int Tryz.underlying3 h4
   obtain⟨rs,ar,cr,rfl,hR⟩:=rels_open h5
   cases e0;cases e1;cases e2;cases e4
   exact⟨⟨x0,x1,x2,bs,x4,rs⟩,rfl,rfl,rfl,hB,rfl,hR,w2⟩
theorem frags_open {n:Nat} {v:Value} {y:DataW H × List MemPlace} (h:DataW.trod enc Tryz.prog w base spare held n 36 [v]=some y) :
  ∃ (fs:List M.Frg) (a:Option Addr) (c:Nat),v=sv a fs.length c∧FragsAt w (sv a fs.length c) fs:=by
 obtain⟨a,fs,c,CS,hv,hsl,hq⟩:=slice_open frg0 (fun f cs=>FrgAt w (fun j=>cs.getD j undef) f) (by decide) kFrag Tryz.underlying36 (fun _ _ _ h=>frag_open h) h
 exact⟨fs,a,c,hv,_,hsl,fun j hj=>(hq j hj).2⟩
end
end Go.Proofs.YtebippbakbihiaaGreatDoor
namespace Go.Proofs.YtebippbakbihiaaGreatDoor
open Go.ChangeShapes Go.WideShapes Go.RowKit Go.Deep
set_option linter.unusedVariables false
section
variable {H : Type} {enc : TypeId × Value → H} {w : World} {base : Nat} {spare : Nat → Bool} {held : Bool}
theorem weights_all {e:TypeId} {d:DataW H} : ∀ {l:List (DataW H)},d∈l→∀ m∈d.weights Tryz.prog e,m∈DataW.weightsAll Tryz.prog e l
 | x :: l,hd,m,hm=>by
  simp only[DataW.weightsAll,List.mem_append]
  rcases List.mem_cons.1 hd with rfl | hd
  ·exact .inl hm
  ·exact .inr (weights_all hd m hm)
theorem slice_weight {t e:TypeId} {fuel n c B:Nat} {a:Option Addr} {x:DataW H × List MemPlace} (ht:Tryz.prog.underlying t=some (.slice e)) (h:DataW.trod enc Tryz.prog w base spare held fuel t [.slice a n c]=some x) (hB:∀ m∈x.1.weights Tryz.prog t,m≤B) :
  n*Tryz.prog.bytesOf e≤B∧∀ i,i<n→∃ a' cs' k y,a=some a'∧w.cells? base (a'.add (i*Tryz.prog.cellsOf e)) (Tryz.prog.cellsOf e)=some cs'∧DataW.trod enc Tryz.prog w base spare held k e cs'=some y∧∀ m∈y.1.weights Tryz.prog e,m≤B:=by
 rcases open_slice ht h with ⟨hc,_⟩ | ⟨a',len,cap,m,k,D,Pl,hc,hb,hl,hm,hmm,rfl,hx⟩
 ·cases hc
  exact⟨by simp,fun i hi=>absurd hi (Nat.not_lt_zero _)⟩
 ·cases hc
  have hlm:n≤m:=by rw[hmm];split <;> omega
  simp only[DataW.weights,ht] at hB
  refine⟨?_,fun i hi=>?_⟩
  ·have:=hB _ (List.mem_cons_self ..)
   rw[List.length_map,List.length_range] at this
   exact Nat.le_trans (Nat.mul_le_mul_right _ (Nat.le_add_right _ _)) this
  ·obtain⟨cs',h1,h2⟩:=hx i (by omega)
   refine⟨a',cs',k,_,rfl,h1,h2,fun u hu=>hB u (List.mem_cons_of_mem _ (List.mem_append_left _ (weights_all (d:=D i) ?_ u hu)))⟩
   exact List.mem_map.2 ⟨i,List.mem_range.2 hi,rfl⟩
end
end Go.Proofs.YtebippbakbihiaaGreatDoor
namespace Go.Proofs.YtebippbakbihiaaGreatDoor
open Go.ChangeShapes Go.WideShapes Go.RowKit Go.Deep
set_option linter.unusedVariables false
section
variable {H : Type} {enc : TypeId × Value → H} {w : World} {base : Nat} {spare : Nat → Bool} {held : Bool}
theorem bFrag:Tryz.prog.bytesOf 90=88:=by kernel_rfl
theorem bDef:Tryz.prog.bytesOf 86=56:=by kernel_rfl
theorem bRel:Tryz.prog.bytesOf 94=48:=by kernel_rfl
theorem bByte:Tryz.prog.bytesOf 5=1:=by kernel_rfl
set_option maxRecDepth 100000 in
theorem frag_weight {k B:Nat} {cs:List Value} {y:DataW H × List MemPlace} {a3 a5:Option Addr} {n3 n5 c3 c5:Nat} (h:DataW.trod enc Tryz.prog w base spare held k 90 cs=some y) (e3:cs.getD 3 undef=.slice a3 n3 c3) (e5:cs.getD 5 undef=.slice a5 n5 c5) (hB:∀ m∈y.1.weights Tryz.prog 90,m≤B) :
  n3≤B∧n5*48≤B:=by
 obtain⟨xs,m,_,rfl,hl,hlen,hf⟩:=DataW.trod_struct Tryz.underlying90 h
 rw[kFrag] at hl
 match cs,hl with
 | [g0,g1,g2,g3,g4,g5],_ =>
  match xs,hlen with
  | [y0,y1,y2,y3,y4,y5],_ =>
   have h3:=hf 3 _ rfl
   have h5:=hf 5 _ rfl
   simp[kBytes,kRels] at h3 h5
   obtain rfl:g3=sv a3 n3 c3:=e3
   obtain rfl:g5=sv a5 n5 c5:=e5
   simp only[DataW.weights,Tryz.underlying90,List.map_cons,List.map_nil,DataW.weightsEach] at hB
   have w3:=(slice_weight Tryz.underlying87 h3 (B:=B) (fun u hu=>hB u (by simp[hu]))).1
   have w5:=(slice_weight Tryz.underlying88 h5 (B:=B) (fun u hu=>hB u (by simp[hu]))).1
   rw[bByte] at w3
   rw[bRel] at w5
   exact⟨by omega,w5⟩
theorem frags_weight {fuel c B:Nat} {a:Option Addr} {fs:List M.Frg} {x:DataW H × List MemPlace} (h:DataW.trod enc Tryz.prog w base spare held fuel 36 [.slice a fs.length c]=some x) (hF:FragsAt w (.slice a fs.length c) fs) (hB:∀ m∈x.1.weights Tryz.prog 36,m≤B) :
  fs.length*88≤B∧∀ f∈fs,f.bytes.length≤B∧f.rels.length*48≤B:=by
 obtain⟨h1,h2⟩:=slice_weight Tryz.underlying36 h hB
 rw[bFrag] at h1
 refine⟨h1,fun f hf=>?_⟩
 obtain⟨j,hj,rfl⟩:=List.getElem_of_mem hf
 obtain⟨cell,hs,hfr⟩:=hF
 have hq:=hfr j hj
 rw[List.getD_eq_getElem?_getD,List.getElem?_eq_getElem hj] at hq
 obtain⟨a',cs',k,y,rfl,g1,g2,g3⟩:=h2 j hj
 rw[kFrag] at g1
 obtain⟨_,_,hsv,_,hs0 | ⟨b,off,hsa,hs1⟩⟩:=hs
 ·omega
 cases hsv
 cases hsa
 have hcs:=World.cells?_some g1
 have key:∀ i,i<6→cs'.getD i undef=cell j i:=fun i hi=>by
  have u1:=hcs.2.2 i hi
  rw[add_plain,add_plain,hs1 j i hj hi] at u1
  rw[List.getD_eq_getElem?_getD,← u1];rfl
 obtain⟨a3,c3,z3,_⟩:=hq.bytes.1.form
 obtain⟨a5,c5,z5,_⟩:=hq.rels.1.form
 exact frag_weight g2 ((key 3 (by decide)).trans z3) ((key 5 (by decide)).trans z5) g3
theorem defs_weight {fuel n c B:Nat} {a:Option Addr} {x:DataW H × List MemPlace} (h:DataW.trod enc Tryz.prog w base spare held fuel 37 [.slice a n c]=some x) (hB:∀ m∈x.1.weights Tryz.prog 37,m≤B):n*56≤B:=by
 have:=(slice_weight Tryz.underlying37 h hB).1
 rwa [bDef] at this
theorem room_reach {f1 f2 c1 c2:Nat} {a1 a2:Option Addr} {p:M.Prt} {x1 x2:DataW H × List MemPlace} (h1:DataW.trod enc Tryz.prog w base spare held f1 36 [.slice a1 p.frags.length c1]=some x1) (hF:FragsAt w (.slice a1 p.frags.length c1) p.frags)
  (h2:DataW.trod enc Tryz.prog w base spare held f2 37 [.slice a2 p.defs.length c2]=some x2) (hB1:∀ m∈x1.1.weights Tryz.prog 36,m≤reachBytes) (hB2:∀ m∈x2.1.weights Tryz.prog 37,m≤reachBytes):Room p:=by
 obtain⟨u1,u2⟩:=frags_weight h1 hF hB1
 have u3:=defs_weight h2 hB2
 unfold reachBytes at u1 u2 u3
 exact⟨by omega,by omega,fun f hf=>by have:=(u2 f hf).1;omega,fun f hf=>by have:=(u2 f hf).2;omega⟩
end
end Go.Proofs.YtebippbakbihiaaGreatDoor
namespace Go.Proofs.YtebippbakbihiaaGreatDoor
open Go.ChangeShapes Go.WideShapes Go.ChangeAt Go.RowKit
set_option linter.unusedVariables false
theorem kFs:Tryz.prog.cellsOf 36=1:=by kernel_rfl
theorem kDs:Tryz.prog.cellsOf 37=1:=by kernel_rfl
set_option maxRecDepth 100000 in
theorem part_open {H:Type} {enc:TypeId × Value→H} {w:World} {base:Nat} {spare:Nat→Bool} {held:Bool} {n:Nat} {cs:List Value} {y:DataW H × List MemPlace} (h:DataW.trod enc Tryz.prog w base spare held n 39 cs=some y) :
  ∃ p:M.Prt,FragsAt w (cs.getD 0 undef) p.frags∧DefsAt w (cs.getD 1 undef) p.defs:=by
 obtain⟨xs,m,_,_,hl,hlen,hf⟩:=DataW.trod_struct Tryz.underlying39 h
 rw[kPart] at hl
 match cs,hl with
 | [c0,c1],_ =>
  match xs,hlen with
  | [y0,y1],_ =>
   have h0:=hf 0 _ rfl
   have h1:=hf 1 _ rfl
   simp[kFs,kDs] at h0 h1
   obtain⟨fs,a1,c1,rfl,hF⟩:=frags_open h0
   obtain⟨ds,a2,c2,rfl,hD⟩:=defs_open h1
   exact⟨⟨fs,ds⟩,hF,hD⟩
theorem parts_open {H:Type} {enc:TypeId × Value→H} {w:World} {base:Nat} {spare:Nat→Bool} {held:Bool} {n:Nat} {v:Value} {y:DataW H × List MemPlace} (h:DataW.trod enc Tryz.prog w base spare held n 22 [v]=some y) :
  ∃ (ps:List M.Prt) (a:Option Addr) (c:Nat),v=sv a ps.length c∧PartsAt w (sv a ps.length c) ps:=by
 obtain⟨a,ps,c,CS,hv,hsl,hq⟩:=slice_open M.nil (fun p cs=>FragsAt w (cs.getD 0 undef) p.frags∧DefsAt w (cs.getD 1 undef) p.defs) (by decide) kPart Tryz.underlying22 (fun _ _ _ h=>part_open h) h
 exact⟨ps,a,c,hv,_,hsl,fun j hj=>(hq j hj).2⟩
theorem strs_open {H:Type} {enc:TypeId × Value→H} {w:World} {base:Nat} {spare:Nat→Bool} {held:Bool} {n:Nat} {v:Value} {y:DataW H × List MemPlace} (h:DataW.trod enc Tryz.prog w base spare held n 114 [v]=some y) :
  ∃ (l:List ByteArray) (a:Option Addr) (c:Nat),v=sv a l.length c∧StrsAt w (sv a l.length c) l:=by
 obtain⟨a,rs,c,CS,hv,hsl,hq⟩:=slice_open str0 (fun b cs=>b.size≤maxLen∧cs=[.string b]) (by decide) kStr Tryz.underlying114 (fun n cs' y h=>by
  obtain⟨x,e,_,hw⟩:=DataW.trod_string Tryz.underlying9 h
  exact⟨x,hw,e⟩) h
 refine⟨rs,a,c,hv,?_,fun r hr=>?_⟩
 ·refine hsl.congr fun j i hj hi=>?_
  rw[(hq j hj).2.2]
  obtain rfl:i=0:=by omega
  rfl
 ·obtain⟨j,hj,rfl⟩:=List.getElem_of_mem hr
  have:=(hq j hj).2.1
  rwa [List.getD_eq_getElem?_getD,List.getElem?_eq_getElem hj] at this
theorem cap_open {H:Type} {enc:TypeId × Value→H} {w:World} {base:Nat} {spare:Nat→Bool} {held:Bool} {n:Nat} {a:Option Addr} {l c:Nat} {y:DataW H × List MemPlace} (h:DataW.trod enc Tryz.prog w base spare held n 22 [.slice a l c]=some y):l≤c:=by
 rcases Go.Deep.open_slice Tryz.underlying22 h with ⟨hc,_⟩ | ⟨a,len,cap,m,n,D,Pl,hc,_,hl,_⟩
 ·simp only[List.cons.injEq,Value.slice.injEq,and_true] at hc
  omega
 ·simp only[List.cons.injEq,Value.slice.injEq,and_true] at hc
  omega
end Go.Proofs.YtebippbakbihiaaGreatDoor
namespace Go.Proofs.YtebippbakbihiaaGreatDoor
open Go.ChangeShapes Go.WideShapes Go.RowKit Go.Deep
set_option linter.unusedVariables false
theorem kIntP:Tryz.prog.cellsOf 3=1:=by kernel_rfl
theorem bIntP:Tryz.prog.bytesOf 3=8:=by kernel_rfl
section
variable {H : Type} {enc : TypeId × Value → H} {w : World} {base : Nat} {spare : Nat → Bool} {held : Bool}
theorem ints_open {n:Nat} {v:Value} {y:DataW H × List MemPlace} (h:DataW.trod enc Tryz.prog w base spare held n 26 [v]=some y) :
  ∃ (l:List Int) (a:Option Addr) (c:Nat),v=sv a l.length c∧IntsAt w (sv a l.length c) l:=by
 obtain⟨a,rs,c,CS,hv,hsl,hq⟩:=slice_open (0:Int) (fun b cs=>cs=[iv b]) (by decide) kIntP Tryz.underlying26 (fun n cs' y h=>by
  obtain⟨x,e,_,hw⟩:=DataW.trod_int Tryz.underlying3 h
  exact⟨x,e⟩) h
 refine⟨rs,a,c,hv,?_⟩
 refine hsl.congr fun j i hj hi=>?_
 rw[(hq j hj).2]
 obtain rfl:i=0:=by omega
 rfl
theorem ints_weight {fuel n c:Nat} {a:Option Addr} {x:DataW H × List MemPlace} (h:DataW.trod enc Tryz.prog w base spare held fuel 26 [.slice a n c]=some x) (hB:∀ m∈x.1.weights Tryz.prog 26,m≤reachBytes):n≤17592186044000:=by
 have:=(slice_weight Tryz.underlying26 h hB).1
 rw[bIntP] at this
 unfold reachBytes at this
 omega
end
end Go.Proofs.YtebippbakbihiaaGreatDoor
namespace Go.Proofs.YtebippbakbihiaaGreatDoor
open Go.ChangeShapes Go.WideShapes Go.RowKit Go.Deep
set_option linter.unusedVariables false
theorem kNodeP:Tryz.prog.cellsOf 75=3:=by kernel_rfl
theorem kBoolP:Tryz.prog.cellsOf 4=1:=by kernel_rfl
section
variable {H : Type} {enc : TypeId × Value → H} {w : World} {base : Nat} {spare : Nat → Bool} {held : Bool}
set_option maxRecDepth 100000 in
theorem node_open {n:Nat} {cs:List Value} {y:DataW H × List MemPlace} (h:DataW.trod enc Tryz.prog w base spare held n 75 cs=some y) :
  ∃ r:M.Nd,cs=[iv r.leaf,iv r.left,iv r.right]:=by
 obtain⟨xs,m,_,_,hl,hlen,hf⟩:=DataW.trod_struct Tryz.underlying75 h
 rw[kNodeP] at hl
 match cs,hl with
 | [c0,c1,c2],_ =>
  match xs,hlen with
  | [y0,y1,y2],_ =>
   have h0:=hf 0 _ rfl
   have h1:=hf 1 _ rfl
   have h2:=hf 2 _ rfl
   simp[kIntP] at h0 h1 h2
   obtain⟨x0,e0,_,w0⟩:=DataW.trod_int Tryz.underlying3 h0
   obtain⟨x1,e1,_,w1⟩:=DataW.trod_int Tryz.underlying3 h1
   obtain⟨x2,e2,_,w2⟩:=DataW.trod_int Tryz.underlying3 h2
   cases e0;cases e1;cases e2
   exact⟨⟨x0,x1,x2⟩,rfl⟩
theorem nodes_open {n:Nat} {v:Value} {y:DataW H × List MemPlace} (h:DataW.trod enc Tryz.prog w base spare held n 23 [v]=some y) :
  ∃ (l:List M.Nd) (a:Option Addr) (c:Nat),v=sv a l.length c∧NodesAt w (sv a l.length c) l:=by
 obtain⟨a,rs,c,CS,hv,hsl,hq⟩:=slice_open M.nd0 (fun r cs=>cs=[iv r.leaf,iv r.left,iv r.right]) (by decide) kNodeP Tryz.underlying23 (fun _ _ _ h=>node_open h) h
 refine⟨rs,a,c,hv,?_⟩
 refine hsl.congr fun j i hj hi=>?_
 rw[(hq j hj).2]
 rcases (by omega:i=0∨i=1∨i=2) with rfl | rfl | rfl <;> rfl
theorem bools_open {n:Nat} {v:Value} {y:DataW H × List MemPlace} (h:DataW.trod enc Tryz.prog w base spare held n 24 [v]=some y) :
  ∃ (l:List Bool) (a:Option Addr) (c:Nat),v=sv a l.length c∧BoolsAt w (sv a l.length c) l:=by
 obtain⟨a,rs,c,CS,hv,hsl,hq⟩:=slice_open false (fun b cs=>cs=[.bool b]) (by decide) kBoolP Tryz.underlying24 (fun n cs' y h=>by
  obtain⟨x,e,_⟩:=DataW.trod_bool Tryz.underlying4 h
  exact⟨x,e⟩) h
 refine⟨rs,a,c,hv,?_⟩
 refine hsl.congr fun j i hj hi=>?_
 rw[(hq j hj).2]
 obtain rfl:i=0:=by omega
 rfl
end
end Go.Proofs.YtebippbakbihiaaGreatDoor
namespace Go.Proofs.YtebippbakbihiaaGreatDoor
open Go.ChangeShapes Go.WideShapes Go.ChangeAt Go.RowKit
set_option linter.unusedVariables false
theorem kGrant:Tryz.prog.cellsOf 64=2:=by kernel_rfl
theorem kMsg:Tryz.prog.cellsOf 60=5:=by kernel_rfl
theorem kFarm:Tryz.prog.cellsOf 29=8:=by kernel_rfl
theorem kHap:Tryz.prog.cellsOf 31=3:=by kernel_rfl
theorem kParts:Tryz.prog.cellsOf 22=1:=by kernel_rfl
theorem kNodes:Tryz.prog.cellsOf 23=1:=by kernel_rfl
theorem kBools:Tryz.prog.cellsOf 24=1:=by kernel_rfl
theorem kGrants:Tryz.prog.cellsOf 25=1:=by kernel_rfl
theorem kInts:Tryz.prog.cellsOf 26=1:=by kernel_rfl
theorem kNet:Tryz.prog.cellsOf 27=1:=by kernel_rfl
section
variable {H : Type} {enc : TypeId × Value → H} {w : World} {base : Nat} {spare : Nat → Bool} {held : Bool}
set_option maxRecDepth 100000 in
theorem grant_open {n:Nat} {cs:List Value} {y:DataW H × List MemPlace} (h:DataW.trod enc Tryz.prog w base spare held n 64 cs=some y) :
  ∃ r:M.Grt,cs=[iv r.worker,iv r.till]:=by
 obtain⟨xs,m,_,_,hl,hlen,hf⟩:=DataW.trod_struct Tryz.underlying64 h
 rw[kGrant] at hl
 match cs,hl with
 | [c0,c1],_ =>
  match xs,hlen with
  | [y0,y1],_ =>
   have h0:=hf 0 _ rfl
   have h1:=hf 1 _ rfl
   simp[kIntP] at h0 h1
   obtain⟨x0,e0,_,w0⟩:=DataW.trod_int Tryz.underlying3 h0
   obtain⟨x1,e1,_,w1⟩:=DataW.trod_int Tryz.underlying3 h1
   cases e0;cases e1
   exact⟨⟨x0,x1⟩,rfl⟩
theorem grants_open {n:Nat} {v:Value} {y:DataW H × List MemPlace} (h:DataW.trod enc Tryz.prog w base spare held n 25 [v]=some y) :
  ∃ (l:List M.Grt) (a:Option Addr) (c:Nat),v=sv a l.length c∧GrantsAt w (sv a l.length c) l:=by
 obtain⟨a,rs,c,CS,hv,hsl,hq⟩:=slice_open M.grt0 (fun r cs=>cs=[iv r.worker,iv r.till]) (by decide) kGrant Tryz.underlying25 (fun _ _ _ h=>grant_open h) h
 refine⟨rs,a,c,hv,?_⟩
 refine SlAt.congr hsl fun j i hj hi=>?_
 rw[(hq j hj).2]
 rcases (by omega:i=0∨i=1) with rfl | rfl <;> rfl
set_option maxRecDepth 100000 in
theorem msg_open {n:Nat} {cs:List Value} {y:DataW H × List MemPlace} (h:DataW.trod enc Tryz.prog w base spare held n 60 cs=some y) :
  ∃ s:M.Msg,MsgAt w (fun i=>cs.getD i undef) s:=by
 obtain⟨xs,m,_,_,hl,hlen,hf⟩:=DataW.trod_struct Tryz.underlying60 h
 rw[kMsg] at hl
 match cs,hl with
 | [c0,c1,c2,c3,c4],_ =>
  match xs,hlen with
  | [y0,y1,y2,y3],_ =>
   have h0:=hf 0 _ rfl
   have h1:=hf 1 _ rfl
   have h2:=hf 2 _ rfl
   have h3:=hf 3 _ rfl
   simp[kIntP,kPart] at h0 h1 h2 h3
   obtain⟨x0,e0,_,_⟩:=DataW.trod_int Tryz.underlying3 h0
   obtain⟨x1,e1,_,_⟩:=DataW.trod_int Tryz.underlying3 h1
   obtain⟨x2,e2,_,_⟩:=DataW.trod_int Tryz.underlying3 h2
   obtain⟨p,hF,hD⟩:=part_open h3
   cases e0;cases e1;cases e2
   exact⟨⟨x0,x1,x2,p⟩,rfl,rfl,rfl,hF,hD⟩
theorem net_open {n:Nat} {v:Value} {y:DataW H × List MemPlace} (h:DataW.trod enc Tryz.prog w base spare held n 27 [v]=some y) :
  ∃ (l:List M.Msg) (a:Option Addr) (c:Nat),v=sv a l.length c∧NetAt w (sv a l.length c) l:=by
 obtain⟨a,l,c,CS,hv,hsl,hq⟩:=slice_open M.msg0 (fun s cs=>MsgAt w (fun i=>cs.getD i undef) s) (by decide) kMsg Tryz.underlying27 (fun _ _ _ h=>msg_open h) h
 exact⟨l,a,c,hv,_,hsl,fun j hj=>(hq j hj).2⟩
set_option maxRecDepth 100000 in
theorem farm_open {r:Reach} {b0:Nat} {v:Value} {d:DataW H} {p:List MemPlace} (hv:Value.okWide Tryz.prog w r b0 29 v) (h:DataW.Trod enc Tryz.prog w base spare held 29 v d p) :
  ∃ (f:M.Farm) (x:Fd),v=.agg (qm f x)∧FarmAt w f x:=by
 obtain⟨cs,rfl,_⟩:=okWide_struct Tryz.underlying29 hv
 obtain⟨fuel,h⟩:=h
 simp only[Value.cells] at h
 obtain⟨xs,m,_,_,hl,hlen,hf⟩:=DataW.trod_struct Tryz.underlying29 h
 rw[kFarm] at hl
 obtain⟨cs⟩:=cs
 simp only at hl hf
 match cs,hl with
 | [c0,c1,c2,c3,c4,c5,c6,c7],_ =>
  match xs,hlen with
  | [y0,y1,y2,y3,y4,y5,y6,y7],_ =>
   have h0:=hf 0 _ rfl
   have h1:=hf 1 _ rfl
   have h2:=hf 2 _ rfl
   have h3:=hf 3 _ rfl
   have h4:=hf 4 _ rfl
   have h5:=hf 5 _ rfl
   have h6:=hf 6 _ rfl
   have h7:=hf 7 _ rfl
   simp[kIntP,kParts,kNodes,kBools,kGrants,kInts,kNet] at h0 h1 h2 h3 h4 h5 h6 h7
   obtain⟨l0,a0,d0,rfl,q0⟩:=parts_open h0
   obtain⟨l1,a1,d1,rfl,q1⟩:=nodes_open h1
   obtain⟨x2,e2,_,_⟩:=DataW.trod_int Tryz.underlying3 h2
   obtain⟨l3,a3,d3,rfl,q3⟩:=bools_open h3
   obtain⟨l4,a4,d4,rfl,q4⟩:=parts_open h4
   obtain⟨l5,a5,d5,rfl,q5⟩:=grants_open h5
   obtain⟨l6,a6,d6,rfl,q6⟩:=ints_open h6
   obtain⟨l7,a7,d7,rfl,q7⟩:=net_open h7
   cases e2
   exact⟨⟨l0,l1,x2,l3,l4,l5,l6,l7⟩,⟨a0,d0,a1,d1,a3,d3,a4,d4,a5,d5,a6,d6,a7,d7⟩,rfl,q0,q1,q3,q4,q5,q6,q7⟩
set_option maxRecDepth 100000 in
theorem hap_open {r:Reach} {b0:Nat} {v:Value} {d:DataW H} {p:List MemPlace} (hv:Value.okWide Tryz.prog w r b0 31 v) (h:DataW.Trod enc Tryz.prog w base spare held 31 v d p) :
  ∃ (x:M.Hap),v=.agg #[iv x.kind,iv x.worker,iv x.k]:=by
 obtain⟨cs,rfl,_⟩:=okWide_struct Tryz.underlying31 hv
 obtain⟨fuel,h⟩:=h
 simp only[Value.cells] at h
 obtain⟨xs,m,_,_,hl,hlen,hf⟩:=DataW.trod_struct Tryz.underlying31 h
 rw[kHap] at hl
 obtain⟨cs⟩:=cs
 simp only at hl hf
 match cs,hl with
 | [c0,c1,c2],_ =>
  match xs,hlen with
  | [y0,y1,y2],_ =>
   have h0:=hf 0 _ rfl
   have h1:=hf 1 _ rfl
   have h2:=hf 2 _ rfl
   simp[kIntP] at h0 h1 h2
   obtain⟨x0,e0,_,_⟩:=DataW.trod_int Tryz.underlying3 h0
   obtain⟨x1,e1,_,_⟩:=DataW.trod_int Tryz.underlying3 h1
   obtain⟨x2,e2,_,_⟩:=DataW.trod_int Tryz.underlying3 h2
   cases e0;cases e1;cases e2
   exact⟨⟨x0,x1,x2⟩,rfl⟩
end
end Go.Proofs.YtebippbakbihiaaGreatDoor
namespace Go.Proofs.YtebippbakbihiaaGreatDoor
open Go.ChangeShapes Go.WideShapes Go.ChangeAt Go.RowKit Go.Deep
set_option linter.unusedVariables false
section
variable {H : Type} {enc : TypeId × Value → H} {w : World} {base : Nat} {spare : Nat → Bool} {held : Bool}
theorem bPartR:Tryz.prog.bytesOf 39=48:=by kernel_rfl
theorem bNodeR:Tryz.prog.bytesOf 75=24:=by kernel_rfl
theorem bBoolR:Tryz.prog.bytesOf 4=1:=by kernel_rfl
theorem bGrantR:Tryz.prog.bytesOf 64=16:=by kernel_rfl
theorem bIntR:Tryz.prog.bytesOf 3=8:=by kernel_rfl
theorem bMsgR:Tryz.prog.bytesOf 60=72:=by kernel_rfl
theorem kFrsR:Tryz.prog.cellsOf 36=1:=by kernel_rfl
theorem kDfsR:Tryz.prog.cellsOf 37=1:=by kernel_rfl
set_option maxRecDepth 100000 in
theorem part_room {k:Nat} {cs:List Value} {y:DataW H × List MemPlace} {p:M.Prt} (h:DataW.trod enc Tryz.prog w base spare held k 39 cs=some y) (hF:FragsAt w (cs.getD 0 undef) p.frags) (hD:DefsAt w (cs.getD 1 undef) p.defs) (hB:∀ m∈y.1.weights Tryz.prog 39,m≤reachBytes):Room p:=by
 obtain⟨xs,m,_,rfl,hl,hlen,hf⟩:=DataW.trod_struct Tryz.underlying39 h
 rw[kPart] at hl
 match cs,hl with
 | [c0,c1],_ =>
  match xs,hlen with
  | [y0,y1],_ =>
   have h0:=hf 0 _ rfl
   have h1:=hf 1 _ rfl
   simp[kFrsR,kDfsR] at h0 h1
   simp only[DataW.weights,Tryz.underlying39,List.map_cons,List.map_nil,DataW.weightsEach] at hB
   obtain⟨a1,d1,e1⟩:=hF.form
   obtain⟨a2,d2,e2⟩:=hD.form
   obtain rfl:c0=sv a1 p.frags.length d1:=e1
   obtain rfl:c1=sv a2 p.defs.length d2:=e2
   exact room_reach h0 hF h1 (fun m hm=>hB m (by simp[hm])) (fun m hm=>hB m (by simp[hm]))
theorem parts_room {fuel c:Nat} {a:Option Addr} {ps:List M.Prt} {x:DataW H × List MemPlace} (h:DataW.trod enc Tryz.prog w base spare held fuel 22 [.slice a ps.length c]=some x) (hP:PartsAt w (.slice a ps.length c) ps) (hB:∀ m∈x.1.weights Tryz.prog 22,m≤reachBytes) :
  ps.length*48≤reachBytes∧∀ p∈ps,Room p:=by
 obtain⟨h1,h2⟩:=slice_weight Tryz.underlying22 h hB
 rw[bPartR] at h1
 refine⟨h1,fun p hp=>?_⟩
 obtain⟨j,hj,rfl⟩:=List.getElem_of_mem hp
 obtain⟨cell,hs,hfr⟩:=hP
 have hq:=hfr j hj
 rw[List.getD_eq_getElem?_getD,List.getElem?_eq_getElem hj] at hq
 obtain⟨a',cs',k,y,rfl,g1,g2,g3⟩:=h2 j hj
 rw[kPart] at g1
 obtain⟨_,_,hsv,_,hs0 | ⟨b,off,hsa,hs1⟩⟩:=hs
 ·omega
 cases hsv
 cases hsa
 have hcs:=World.cells?_some g1
 have key:∀ i,i<2→cs'.getD i undef=cell j i:=fun i hi=>by
  have u1:=hcs.2.2 i hi
  rw[add_plain,add_plain,hs1 j i hj hi] at u1
  rw[List.getD_eq_getElem?_getD,← u1];rfl
 exact part_room g2 (by rw[key 0 (by decide)];exact hq.1) (by rw[key 1 (by decide)];exact hq.2) g3
set_option maxRecDepth 100000 in
theorem msg_room {k:Nat} {cs:List Value} {y:DataW H × List MemPlace} {p:M.Prt} (h:DataW.trod enc Tryz.prog w base spare held k 60 cs=some y) (hF:FragsAt w (cs.getD 3 undef) p.frags) (hD:DefsAt w (cs.getD 4 undef) p.defs) (hB:∀ m∈y.1.weights Tryz.prog 60,m≤reachBytes):Room p:=by
 obtain⟨xs,m,_,rfl,hl,hlen,hf⟩:=DataW.trod_struct Tryz.underlying60 h
 rw[kMsg] at hl
 match cs,hl with
 | [c0,c1,c2,c3,c4],_ =>
  match xs,hlen with
  | [y0,y1,y2,y3],_ =>
   have h3:=hf 3 _ rfl
   simp[kPart] at h3
   simp only[DataW.weights,Tryz.underlying60,List.map_cons,List.map_nil,DataW.weightsEach] at hB
   exact part_room h3 hF hD (fun m hm=>hB m (by simp[hm]))
theorem net_room {fuel c:Nat} {a:Option Addr} {ms:List M.Msg} {x:DataW H × List MemPlace} (h:DataW.trod enc Tryz.prog w base spare held fuel 27 [.slice a ms.length c]=some x) (hP:NetAt w (.slice a ms.length c) ms) (hB:∀ m∈x.1.weights Tryz.prog 27,m≤reachBytes) :
  ms.length*72≤reachBytes∧∀ m∈ms,Room m.p:=by
 obtain⟨h1,h2⟩:=slice_weight Tryz.underlying27 h hB
 rw[bMsgR] at h1
 refine⟨h1,fun p hp=>?_⟩
 obtain⟨j,hj,rfl⟩:=List.getElem_of_mem hp
 obtain⟨cell,hs,hfr⟩:=hP
 have hq:=hfr j hj
 rw[List.getD_eq_getElem?_getD,List.getElem?_eq_getElem hj] at hq
 obtain⟨a',cs',k,y,rfl,g1,g2,g3⟩:=h2 j hj
 rw[kMsg] at g1
 obtain⟨_,_,hsv,_,hs0 | ⟨b,off,hsa,hs1⟩⟩:=hs
 ·omega
 cases hsv
 cases hsa
 have hcs:=World.cells?_some g1
 have key:∀ i,i<5→cs'.getD i undef=cell j i:=fun i hi=>by
  have u1:=hcs.2.2 i hi
  rw[add_plain,add_plain,hs1 j i hj hi] at u1
  rw[List.getD_eq_getElem?_getD,← u1];rfl
 exact msg_room g2 (by rw[key 3 (by decide)];exact hq.fr) (by rw[key 4 (by decide)];exact hq.df) g3
set_option maxRecDepth 100000 in
theorem farm_openR {r:Reach} {b0:Nat} {v:Value} {d:DataW H} {p:List MemPlace} (hv:Value.okWide Tryz.prog w r b0 29 v) (h:DataW.Trod enc Tryz.prog w base spare held 29 v d p) (hB:∀ m∈d.weights Tryz.prog 29,m≤reachBytes) :
  ∃ (f:M.Farm) (x:Fd),v=.agg (qm f x)∧FarmAt w f x∧FarmRoom f:=by
 obtain⟨cs,rfl,_⟩:=okWide_struct Tryz.underlying29 hv
 obtain⟨fuel,h⟩:=h
 simp only[Value.cells] at h
 obtain⟨xs,m,_,hdp,hl,hlen,hf⟩:=DataW.trod_struct Tryz.underlying29 h
 cases hdp
 rw[kFarm] at hl
 obtain⟨cs⟩:=cs
 simp only at hl hf
 match cs,hl with
 | [c0,c1,c2,c3,c4,c5,c6,c7],_ =>
  match xs,hlen with
  | [y0,y1,y2,y3,y4,y5,y6,y7],_ =>
   have h0:=hf 0 _ rfl
   have h1:=hf 1 _ rfl
   have h2:=hf 2 _ rfl
   have h3:=hf 3 _ rfl
   have h4:=hf 4 _ rfl
   have h5:=hf 5 _ rfl
   have h6:=hf 6 _ rfl
   have h7:=hf 7 _ rfl
   simp[kIntP,kParts,kNodes,kBools,kGrants,kInts,kNet] at h0 h1 h2 h3 h4 h5 h6 h7
   obtain⟨l0,a0,d0,rfl,q0⟩:=parts_open h0
   obtain⟨l1,a1,d1,rfl,q1⟩:=nodes_open h1
   obtain⟨x2,e2,_,_⟩:=DataW.trod_int Tryz.underlying3 h2
   obtain⟨l3,a3,d3,rfl,q3⟩:=bools_open h3
   obtain⟨l4,a4,d4,rfl,q4⟩:=parts_open h4
   obtain⟨l5,a5,d5,rfl,q5⟩:=grants_open h5
   obtain⟨l6,a6,d6,rfl,q6⟩:=ints_open h6
   obtain⟨l7,a7,d7,rfl,q7⟩:=net_open h7
   cases e2
   simp only[DataW.weights,Tryz.underlying29,List.map_cons,List.map_nil,DataW.weightsEach] at hB
   obtain⟨r0,r0'⟩:=parts_room h0 q0 (fun m hm=>hB m (by simp[hm]))
   have r1:=(slice_weight Tryz.underlying23 h1 (B:=reachBytes) (fun m hm=>hB m (by simp[hm]))).1
   have r3:=(slice_weight Tryz.underlying24 h3 (B:=reachBytes) (fun m hm=>hB m (by simp[hm]))).1
   obtain⟨r4,r4'⟩:=parts_room h4 q4 (fun m hm=>hB m (by simp[hm]))
   have r5:=(slice_weight Tryz.underlying25 h5 (B:=reachBytes) (fun m hm=>hB m (by simp[hm]))).1
   have r6:=(slice_weight Tryz.underlying26 h6 (B:=reachBytes) (fun m hm=>hB m (by simp[hm]))).1
   obtain⟨r7,r7'⟩:=net_room h7 q7 (fun m hm=>hB m (by simp[hm]))
   rw[bNodeR] at r1
   rw[bBoolR] at r3
   rw[bGrantR] at r5
   rw[bIntR] at r6
   unfold reachBytes at r0 r1 r3 r4 r5 r6 r7
   exact⟨⟨l0,l1,x2,l3,l4,l5,l6,l7⟩,⟨a0,d0,a1,d1,a3,d3,a4,d4,a5,d5,a6,d6,a7,d7⟩,rfl,⟨q0,q1,q3,q4,q5,q6,q7⟩,by simp only;omega,r0',by simp only;omega,by simp only;omega,by simp only;omega,r4',by simp only;omega,by simp only;omega,by simp only;omega,r7'⟩
end
end Go.Proofs.YtebippbakbihiaaGreatDoor
