/-
  What the reading of a slice gives: its elements, and where they lie. What the reading of a part gives: the part, and where it lies. What the reading of parts and of texts gives. What the reach of a row says of a slice: how many bytes it holds, and what its elements hold. What the reading of integers gives. What the reading of nodes and of truth values gives. What the reading of a farm and of a happening gives. What the reading of happenings gives.
-/
import Derived.Test.YtebippbakbihiaaGreatDoorChecked
import Derived.ProofKit
import Derived.OpenShut
import Derived.Deep.Slices
import Derived.Lib.SmallJoins
import Derived.SizedLaws
import Derived.Test.YtebippbakbihiaaGreatDoorFmRN
namespace Go.Proofs.YtebippbakbihiaaGreatDoor
open Go.ChangeShapes Go.WideShapes Go.RowKit Go.Deep
set_option linter.unusedVariables false
theorem SlAt.congr {w:World} {v:Value} {k n:Nat} {cell cell':Nat→Nat→Value} (h:SlAt w v k n cell) (e:∀ j i,j<n→i<k→cell j i=cell' j i):SlAt w v k n cell':=by
 obtain⟨a,c,rfl,hn,h⟩:=h
 refine⟨a,c,rfl,hn,?_⟩
 rcases h with h | ⟨b,off,rfl,h⟩
 ·exact .inl h
 ·exact .inr ⟨b,off,rfl,fun j i hj hi=>by rw[h j i hj hi,e j i hj hi]⟩
section
variable {H : Type} {enc : TypeId × Value → H} {w : World} {base : Nat} {spare : Nat → Bool} {held : Bool}
theorem slice_open {α:Type} (dflt:α) (Q:α→List Value→Prop) {t e:TypeId} {k fuel:Nat} {v:Value} {x:DataW H × List MemPlace} (hk:0<k) (hke:Tryz.prog.cellsOf e=k)
  (ht:Tryz.prog.underlying t=some (.slice e)) (hQ:∀ n cs' y,DataW.trod enc Tryz.prog w base spare held n e cs'=some y→∃ z,Q z cs') (h:DataW.trod enc Tryz.prog w base spare held fuel t [v]=some x) :
  ∃ (a:Option Addr) (zs:List α) (c:Nat) (CS:Nat→List Value),v=sv a zs.length c∧SlAt w (sv a zs.length c) k zs.length (fun i j=>(CS i).getD j undef)∧∀ i,i<zs.length→(CS i).length=k∧Q (zs.getD i dflt) (CS i):=by
 rcases open_slice ht h with ⟨hc,_⟩ | ⟨a,len,cap,m,n,D,Pl,hc,hb,hl,hm,hmm,_,hx⟩
 ·cases hc
  exact⟨none,[],0,fun _=>[],rfl,⟨none,0,rfl,Nat.zero_le _,.inl rfl⟩,fun i hi=>absurd hi (Nat.not_lt_zero _)⟩
 ·cases hc
  have hlm:len≤m:=by rw[hmm];split <;> omega
  have key:∀ i,i<len→∃ z:List Value × α,w.cells? base (a.add (i*k)) k=some z.1∧Q z.2 z.1:=fun i hi=>by
   obtain⟨cs',h1,h2⟩:=hx i (by omega)
   obtain⟨z,hz⟩:=hQ _ _ _ h2
   rw[hke] at h1
   exact⟨(cs',z),h1,hz⟩
  obtain⟨f,hf⟩:=@choose_lt (List Value × α) ⟨([],dflt)⟩ len _ key
  have hlen:((List.range len).map fun i=>(f i).2).length=len:=by simp
  refine⟨some a,(List.range len).map fun i=>(f i).2,cap,fun i=>(f i).1,by rw[hlen],?_,?_⟩
  ·rw[hlen]
   refine⟨some a,cap,rfl,by omega,?_⟩
   by_cases h0:len=0
   ·exact .inl h0
   ·right
    obtain⟨b,o,s⟩:=a
    have hsp:s=none:=by
     have h1:=(World.cells?_some (hf 0 (by omega)).1)
     have h2:=h1.2.2 0 hk
     rw[List.getElem?_eq_getElem (by rw[h1.2.1];exact hk)] at h2
     simpa [Addr.add] using World.cell?_spot h2
    subst hsp
    refine⟨b,o,rfl,fun j i hj hi=>?_⟩
    have h1:=(World.cells?_some (hf j hj).1)
    have h2:=h1.2.2 i hi
    rw[add_plain,add_plain] at h2
    rw[h2]
    show _=some ((f j).1.getD i undef)
    rw[List.getD_eq_getElem?_getD,List.getElem?_eq_getElem (by rw[h1.2.1];exact hi)]
    rfl
  ·intro i hi
   rw[hlen] at hi
   have h1:=(World.cells?_some (hf i hi).1)
   refine⟨h1.2.1,?_⟩
   have e:((List.range len).map fun i=>(f i).2).getD i dflt=(f i).2:=by
    rw[List.getD_eq_getElem?_getD];simp[hi]
   rw[e]
   exact (hf i hi).2
theorem cap_openS {t e:TypeId} {n:Nat} {a:Option Addr} {l c:Nat} {y:DataW H × List MemPlace} (ht:Tryz.prog.underlying t=some (.slice e)) (h:DataW.trod enc Tryz.prog w base spare held n t [.slice a l c]=some y):l≤c:=by
 rcases Go.Deep.open_slice ht h with ⟨hc,_⟩ | ⟨a,len,cap,m,n,D,Pl,hc,_,hl,_⟩
 ·simp only[List.cons.injEq,Value.slice.injEq,and_true] at hc
  omega
 ·simp only[List.cons.injEq,Value.slice.injEq,and_true] at hc
  omega
end
end Go.Proofs.YtebippbakbihiaaGreatDoor
namespace Go.Proofs.YtebippbakbihiaaGreatDoor
open Go.ChangeShapes Go.WideShapes Go.RowKit Go.Deep
set_option linter.unusedVariables false
theorem kInt:Tryz.prog.cellsOf 3=1:=by kernel_rfl
theorem kStr:Tryz.prog.cellsOf 9=1:=by kernel_rfl
theorem kByte:Tryz.prog.cellsOf 5=1:=by kernel_rfl
theorem kBytes:Tryz.prog.cellsOf 87=1:=by kernel_rfl
theorem kRels:Tryz.prog.cellsOf 88=1:=by kernel_rfl
theorem kRel:Tryz.prog.cellsOf 94=5:=by kernel_rfl
theorem kDef:Tryz.prog.cellsOf 86=6:=by kernel_rfl
theorem kFrag:Tryz.prog.cellsOf 90=6:=by kernel_rfl
theorem kPart:Tryz.prog.cellsOf 39=2:=by kernel_rfl
section
variable {H : Type} {enc : TypeId × Value → H} {w : World} {base : Nat} {spare : Nat → Bool} {held : Bool}
set_option maxRecDepth 100000 in
theorem rel_open {n:Nat} {cs:List Value} {y:DataW H × List MemPlace} (h:DataW.trod enc Tryz.prog w base spare held n 94 cs=some y) :
  ∃ r:M.Rel,(r.name.size≤maxLen∧(Lit.int .i64 r.kind).wf=true)∧cs=encRel r:=by
 obtain⟨xs,m,_,_,hl,hlen,hf⟩:=DataW.trod_struct Tryz.underlying94 h
 rw[kRel] at hl
 match cs,hl with
 | [c0,c1,c2,c3,c4],_ =>
  match xs,hlen with
  | [y0,y1,y2,y3,y4],_ =>
   have h0:=hf 0 _ rfl
   have h1:=hf 1 _ rfl
   have h2:=hf 2 _ rfl
   have h3:=hf 3 _ rfl
   have h4:=hf 4 _ rfl
   simp[kInt,kStr] at h0 h1 h2 h3 h4
   obtain⟨x0,e0,_,w0⟩:=DataW.trod_int Tryz.underlying3 h0
   obtain⟨x1,e1,_,w1⟩:=DataW.trod_int Tryz.underlying3 h1
   obtain⟨x2,e2,_,w2⟩:=DataW.trod_string Tryz.underlying9 h2
   obtain⟨x3,e3,_,w3⟩:=DataW.trod_int Tryz.underlying3 h3
   obtain⟨x4,e4,_,w4⟩:=DataW.trod_int Tryz.underlying3 h4
   cases e0;cases e1;cases e2;cases e3;cases e4
   exact⟨⟨x0,x1,x2,x3,x4⟩,⟨w2,w1⟩,rfl⟩
set_option maxRecDepth 100000 in
theorem def_open {n:Nat} {cs:List Value} {y:DataW H × List MemPlace} (h:DataW.trod enc Tryz.prog w base spare held n 86 cs=some y) :
  ∃ r:M.Dfn,r.name.size≤maxLen∧cs=encDfn r:=by
 obtain⟨xs,m,_,_,hl,hlen,hf⟩:=DataW.trod_struct Tryz.underlying86 h
 rw[kDef] at hl
 match cs,hl with
 | [c0,c1,c2,c3,c4,c5],_ =>
  match xs,hlen with
  | [y0,y1,y2,y3,y4,y5],_ =>
   have h0:=hf 0 _ rfl
   have h1:=hf 1 _ rfl
   have h2:=hf 2 _ rfl
   have h3:=hf 3 _ rfl
   have h4:=hf 4 _ rfl
   have h5:=hf 5 _ rfl
   simp[kInt,kStr] at h0 h1 h2 h3 h4 h5
   obtain⟨x0,e0,_,w0⟩:=DataW.trod_string Tryz.underlying9 h0
   obtain⟨x1,e1,_,w1⟩:=DataW.trod_int Tryz.underlying3 h1
   obtain⟨x2,e2,_,w2⟩:=DataW.trod_int Tryz.underlying3 h2
   obtain⟨x3,e3,_,w3⟩:=DataW.trod_int Tryz.underlying3 h3
   obtain⟨x4,e4,_,w4⟩:=DataW.trod_int Tryz.underlying3 h4
   obtain⟨x5,e5,_,w5⟩:=DataW.trod_int Tryz.underlying3 h5
   cases e0;cases e1;cases e2;cases e3;cases e4;cases e5
   exact⟨⟨x0,x1,x2,x3,x4,x5⟩,w0,rfl⟩
theorem rels_open {n:Nat} {v:Value} {y:DataW H × List MemPlace} (h:DataW.trod enc Tryz.prog w base spare held n 88 [v]=some y) :
  ∃ (rs:List M.Rel) (a:Option Addr) (c:Nat),v=sv a rs.length c∧RelsAt w (sv a rs.length c) rs:=by
 obtain⟨a,rs,c,CS,hv,hsl,hq⟩:=slice_open rel0 (fun r cs=>(r.name.size≤maxLen∧(Lit.int .i64 r.kind).wf=true)∧cs=encRel r) (by decide) kRel Tryz.underlying88 (fun _ _ _ h=>rel_open h) h
 refine⟨rs,a,c,hv,?_,fun r hr=>?_⟩
 ·refine hsl.congr fun j i hj hi=>?_
  rw[(hq j hj).2.2]
  rcases (by omega:i=0∨i=1∨i=2∨i=3∨i=4) with rfl | rfl | rfl | rfl | rfl <;> rfl
 ·obtain⟨j,hj,rfl⟩:=List.getElem_of_mem hr
  have:=(hq j hj).2.1
  rwa [List.getD_eq_getElem?_getD,List.getElem?_eq_getElem hj] at this
theorem defs_open {n:Nat} {v:Value} {y:DataW H × List MemPlace} (h:DataW.trod enc Tryz.prog w base spare held n 37 [v]=some y) :
  ∃ (rs:List M.Dfn) (a:Option Addr) (c:Nat),v=sv a rs.length c∧DefsAt w (sv a rs.length c) rs:=by
 obtain⟨a,rs,c,CS,hv,hsl,hq⟩:=slice_open dfn0 (fun r cs=>r.name.size≤maxLen∧cs=encDfn r) (by decide) kDef Tryz.underlying37 (fun _ _ _ h=>def_open h) h
 refine⟨rs,a,c,hv,?_,fun r hr=>?_⟩
 ·refine hsl.congr fun j i hj hi=>?_
  rw[(hq j hj).2.2]
  rcases (by omega:i=0∨i=1∨i=2∨i=3∨i=4∨i=5) with rfl | rfl | rfl | rfl | rfl | rfl <;> rfl
 ·obtain⟨j,hj,rfl⟩:=List.getElem_of_mem hr
  have:=(hq j hj).2.1
  rwa [List.getD_eq_getElem?_getD,List.getElem?_eq_getElem hj] at this
theorem bytes_open {n:Nat} {v:Value} {y:DataW H × List MemPlace} (h:DataW.trod enc Tryz.prog w base spare held n 87 [v]=some y) :
  ∃ (bs:List Int) (a:Option Addr) (c:Nat),v=sv a bs.length c∧BytesAt w (sv a bs.length c) bs:=by
 obtain⟨a,rs,c,CS,hv,hsl,hq⟩:=slice_open (0:Int) (fun b cs=>(0≤b∧b<256)∧cs=[.int .u8 b]) (by decide) kByte Tryz.underlying87 (fun n cs' y h=>by
  obtain⟨x,e,_,hw⟩:=DataW.trod_int Tryz.underlying5 h
  have hb:=bounds_u8 hw
  exact⟨x,⟨hb.1,by omega⟩,e⟩) h
 refine⟨rs,a,c,hv,?_,fun r hr=>?_⟩
 ·refine hsl.congr fun j i hj hi=>?_
  rw[(hq j hj).2.2]
  obtain rfl:i=0:=by omega
  rfl
 ·obtain⟨j,hj,rfl⟩:=List.getElem_of_mem hr
  have:=(hq j hj).2.1
  rwa [List.getD_eq_getElem?_getD,List.getElem?_eq_getElem hj] at this
set_option maxRecDepth 100000 in
theorem frag_open {n:Nat} {cs:List Value} {y:DataW H × List MemPlace} (h:DataW.trod enc Tryz.prog w base spare held n 90 cs=some y) :
  ∃ f:M.Frg,FrgAt w (fun j=>cs.getD j undef) f:=by
 obtain⟨xs,m,_,_,hl,hlen,hf⟩:=DataW.trod_struct Tryz.underlying90 h
 rw[kFrag] at hl
 match cs,hl with
 | [c0,c1,c2,c3,c4,c5],_ =>
  match xs,hlen with
  | [y0,y1,y2,y3,y4,y5],_ =>
   have h0:=hf 0 _ rfl
   have h1:=hf 1 _ rfl
   have h2:=hf 2 _ rfl
   have h3:=hf 3 _ rfl
   have h4:=hf 4 _ rfl
   have h5:=hf 5 _ rfl
   simp[kInt,kStr,kBytes,kRels] at h0 h1 h2 h3 h4 h5
   obtain⟨x0,e0,_,w0⟩:=DataW.trod_int Tryz.underlying3 h0
   obtain⟨x1,e1,_,w1⟩:=DataW.trod_int Tryz.underlying3 h1
   obtain⟨x2,e2,_,w2⟩:=DataW.trod_string Tryz.underlying9 h2
   obtain⟨bs,ab,cb,rfl,hB⟩:=bytes_open h3
   obtain⟨x4,e4,_,w4⟩:=DataW.trod_int Tryz.underlying3 h4
   obtain⟨rs,ar,cr,rfl,hR⟩:=rels_open h5
   cases e0;cases e1;cases e2;cases e4
   exact⟨⟨x0,x1,x2,bs,x4,rs⟩,rfl,rfl,rfl,hB,rfl,hR,w2⟩
theorem frags_open {n:Nat} {v:Value} {y:DataW H × List MemPlace} (h:DataW.trod enc Tryz.prog w base spare held n 36 [v]=some y) :
  ∃ (fs:List M.Frg) (a:Option Addr) (c:Nat),v=sv a fs.length c∧FragsAt w (sv a fs.length c) fs:=by
 obtain⟨a,fs,c,CS,hv,hsl,hq⟩:=slice_open frg0 (fun f cs=>FrgAt w (fun j=>cs.getD j undef) f) (by decide) kFrag Tryz.underlying36 (fun _ _ _ h=>frag_open h) h
 exact⟨fs,a,c,hv,_,hsl,fun j hj=>(hq j hj).2⟩
end
end Go.Proofs.YtebippbakbihiaaGreatDoor
namespace Go.Proofs.YtebippbakbihiaaGreatDoor
open Go.ChangeShapes Go.WideShapes Go.ChangeAt Go.RowKit
set_option linter.unusedVariables false
theorem kFs:Tryz.prog.cellsOf 36=1:=by kernel_rfl
theorem kDs:Tryz.prog.cellsOf 37=1:=by kernel_rfl
set_option maxRecDepth 100000 in
theorem part_open {H:Type} {enc:TypeId × Value→H} {w:World} {base:Nat} {spare:Nat→Bool} {held:Bool} {n:Nat} {cs:List Value} {y:DataW H × List MemPlace} (h:DataW.trod enc Tryz.prog w base spare held n 39 cs=some y) :
  ∃ p:M.Prt,FragsAt w (cs.getD 0 undef) p.frags∧DefsAt w (cs.getD 1 undef) p.defs:=by
 obtain⟨xs,m,_,_,hl,hlen,hf⟩:=DataW.trod_struct Tryz.underlying39 h
 rw[kPart] at hl
 match cs,hl with
 | [c0,c1],_ =>
  match xs,hlen with
  | [y0,y1],_ =>
   have h0:=hf 0 _ rfl
   have h1:=hf 1 _ rfl
   simp[kFs,kDs] at h0 h1
   obtain⟨fs,a1,c1,rfl,hF⟩:=frags_open h0
   obtain⟨ds,a2,c2,rfl,hD⟩:=defs_open h1
   exact⟨⟨fs,ds⟩,hF,hD⟩
theorem parts_open {H:Type} {enc:TypeId × Value→H} {w:World} {base:Nat} {spare:Nat→Bool} {held:Bool} {n:Nat} {v:Value} {y:DataW H × List MemPlace} (h:DataW.trod enc Tryz.prog w base spare held n 22 [v]=some y) :
  ∃ (ps:List M.Prt) (a:Option Addr) (c:Nat),v=sv a ps.length c∧PartsAt w (sv a ps.length c) ps:=by
 obtain⟨a,ps,c,CS,hv,hsl,hq⟩:=slice_open M.nil (fun p cs=>FragsAt w (cs.getD 0 undef) p.frags∧DefsAt w (cs.getD 1 undef) p.defs) (by decide) kPart Tryz.underlying22 (fun _ _ _ h=>part_open h) h
 exact⟨ps,a,c,hv,_,hsl,fun j hj=>(hq j hj).2⟩
theorem strs_open {H:Type} {enc:TypeId × Value→H} {w:World} {base:Nat} {spare:Nat→Bool} {held:Bool} {n:Nat} {v:Value} {y:DataW H × List MemPlace} (h:DataW.trod enc Tryz.prog w base spare held n 114 [v]=some y) :
  ∃ (l:List ByteArray) (a:Option Addr) (c:Nat),v=sv a l.length c∧StrsAt w (sv a l.length c) l:=by
 obtain⟨a,rs,c,CS,hv,hsl,hq⟩:=slice_open str0 (fun b cs=>b.size≤maxLen∧cs=[.string b]) (by decide) kStr Tryz.underlying114 (fun n cs' y h=>by
  obtain⟨x,e,_,hw⟩:=DataW.trod_string Tryz.underlying9 h
  exact⟨x,hw,e⟩) h
 refine⟨rs,a,c,hv,?_,fun r hr=>?_⟩
 ·refine hsl.congr fun j i hj hi=>?_
  rw[(hq j hj).2.2]
  obtain rfl:i=0:=by omega
  rfl
 ·obtain⟨j,hj,rfl⟩:=List.getElem_of_mem hr
  have:=(hq j hj).2.1
  rwa [List.getD_eq_getElem?_getD,List.getElem?_eq_getElem hj] at this
theorem cap_open {H:Type} {enc:TypeId × Value→H} {w:World} {base:Nat} {spare:Nat→Bool} {held:Bool} {n:Nat} {a:Option Addr} {l c:Nat} {y:DataW H × List MemPlace} (h:DataW.trod enc Tryz.prog w base spare held n 22 [.slice a l c]=some y):l≤c:=by
 rcases Go.Deep.open_slice Tryz.underlying22 h with ⟨hc,_⟩ | ⟨a,len,cap,m,n,D,Pl,hc,_,hl,_⟩
 ·simp only[List.cons.injEq,Value.slice.injEq,and_true] at hc
  omega
 ·simp only[List.cons.injEq,Value.slice.injEq,and_true] at hc
  omega
end Go.Proofs.YtebippbakbihiaaGreatDoor
namespace Go.Proofs.YtebippbakbihiaaGreatDoor
open Go.ChangeShapes Go.WideShapes Go.RowKit Go.Deep
set_option linter.unusedVariables false
section
variable {H : Type} {enc : TypeId × Value → H} {w : World} {base : Nat} {spare : Nat → Bool} {held : Bool}
theorem weights_all {e:TypeId} {d:DataW H} : ∀ {l:List (DataW H)},d∈l→∀ m∈d.weights Tryz.prog e,m∈DataW.weightsAll Tryz.prog e l
 | x :: l,hd,m,hm=>by
  simp only[DataW.weightsAll,List.mem_append]
  rcases List.mem_cons.1 hd with rfl | hd
  ·exact .inl hm
  ·exact .inr (weights_all hd m hm)
theorem slice_weight {t e:TypeId} {fuel n c B:Nat} {a:Option Addr} {x:DataW H × List MemPlace} (ht:Tryz.prog.underlying t=some (.slice e)) (h:DataW.trod enc Tryz.prog w base spare held fuel t [.slice a n c]=some x) (hB:∀ m∈x.1.weights Tryz.prog t,m≤B) :
  n*Tryz.prog.bytesOf e≤B∧∀ i,i<n→∃ a' cs' k y,a=some a'∧w.cells? base (a'.add (i*Tryz.prog.cellsOf e)) (Tryz.prog.cellsOf e)=some cs'∧DataW.trod enc Tryz.prog w base spare held k e cs'=some y∧∀ m∈y.1.weights Tryz.prog e,m≤B:=by
 rcases open_slice ht h with ⟨hc,_⟩ | ⟨a',len,cap,m,k,D,Pl,hc,hb,hl,hm,hmm,rfl,hx⟩
 ·cases hc
  exact⟨by simp,fun i hi=>absurd hi (Nat.not_lt_zero _)⟩
 ·cases hc
  have hlm:n≤m:=by rw[hmm];split <;> omega
  simp only[DataW.weights,ht] at hB
  refine⟨?_,fun i hi=>?_⟩
  ·have:=hB _ (List.mem_cons_self ..)
   rw[List.length_map,List.length_range] at this
   exact Nat.le_trans (Nat.mul_le_mul_right _ (Nat.le_add_right _ _)) this
  ·obtain⟨cs',h1,h2⟩:=hx i (by omega)
   refine⟨a',cs',k,_,rfl,h1,h2,fun u hu=>hB u (List.mem_cons_of_mem _ (List.mem_append_left _ (weights_all (d:=D i) ?_ u hu)))⟩
   exact List.mem_map.2 ⟨i,List.mem_range.2 hi,rfl⟩
end
end Go.Proofs.YtebippbakbihiaaGreatDoor
namespace Go.Proofs.YtebippbakbihiaaGreatDoor
open Go.ChangeShapes Go.WideShapes Go.RowKit Go.Deep
set_option linter.unusedVariables false
theorem kIntP:Tryz.prog.cellsOf 3=1:=by kernel_rfl
theorem bIntP:Tryz.prog.bytesOf 3=8:=by kernel_rfl
section
variable {H : Type} {enc : TypeId × Value → H} {w : World} {base : Nat} {spare : Nat → Bool} {held : Bool}
theorem ints_open {n:Nat} {v:Value} {y:DataW H × List MemPlace} (h:DataW.trod enc Tryz.prog w base spare held n 26 [v]=some y) :
  ∃ (l:List Int) (a:Option Addr) (c:Nat),v=sv a l.length c∧IntsAt w (sv a l.length c) l:=by
 obtain⟨a,rs,c,CS,hv,hsl,hq⟩:=slice_open (0:Int) (fun b cs=>cs=[iv b]) (by decide) kIntP Tryz.underlying26 (fun n cs' y h=>by
  obtain⟨x,e,_,hw⟩:=DataW.trod_int Tryz.underlying3 h
  exact⟨x,e⟩) h
 refine⟨rs,a,c,hv,?_⟩
 refine hsl.congr fun j i hj hi=>?_
 rw[(hq j hj).2]
 obtain rfl:i=0:=by omega
 rfl
theorem ints_weight {fuel n c:Nat} {a:Option Addr} {x:DataW H × List MemPlace} (h:DataW.trod enc Tryz.prog w base spare held fuel 26 [.slice a n c]=some x) (hB:∀ m∈x.1.weights Tryz.prog 26,m≤reachBytes):n≤17592186044000:=by
 have:=(slice_weight Tryz.underlying26 h hB).1
 rw[bIntP] at this
 unfold reachBytes at this
 omega
end
end Go.Proofs.YtebippbakbihiaaGreatDoor
namespace Go.Proofs.YtebippbakbihiaaGreatDoor
open Go.ChangeShapes Go.WideShapes Go.RowKit Go.Deep
set_option linter.unusedVariables false
theorem kNodeP:Tryz.prog.cellsOf 75=3:=by kernel_rfl
theorem kBoolP:Tryz.prog.cellsOf 4=1:=by kernel_rfl
section
variable {H : Type} {enc : TypeId × Value → H} {w : World} {base : Nat} {spare : Nat → Bool} {held : Bool}
set_option maxRecDepth 100000 in
theorem node_open {n:Nat} {cs:List Value} {y:DataW H × List MemPlace} (h:DataW.trod enc Tryz.prog w base spare held n 75 cs=some y) :
  ∃ r:M.Nd,cs=[iv r.leaf,iv r.left,iv r.right]:=by
 obtain⟨xs,m,_,_,hl,hlen,hf⟩:=DataW.trod_struct Tryz.underlying75 h
 rw[kNodeP] at hl
 match cs,hl with
 | [c0,c1,c2],_ =>
  match xs,hlen with
  | [y0,y1,y2],_ =>
   have h0:=hf 0 _ rfl
   have h1:=hf 1 _ rfl
   have h2:=hf 2 _ rfl
   simp[kIntP] at h0 h1 h2
   obtain⟨x0,e0,_,w0⟩:=DataW.trod_int Tryz.underlying3 h0
   obtain⟨x1,e1,_,w1⟩:=DataW.trod_int Tryz.underlying3 h1
   obtain⟨x2,e2,_,w2⟩:=DataW.trod_int Tryz.underlying3 h2
   cases e0;cases e1;cases e2
   exact⟨⟨x0,x1,x2⟩,rfl⟩
theorem nodes_open {n:Nat} {v:Value} {y:DataW H × List MemPlace} (h:DataW.trod enc Tryz.prog w base spare held n 23 [v]=some y) :
  ∃ (l:List M.Nd) (a:Option Addr) (c:Nat),v=sv a l.length c∧NodesAt w (sv a l.length c) l:=by
 obtain⟨a,rs,c,CS,hv,hsl,hq⟩:=slice_open M.nd0 (fun r cs=>cs=[iv r.leaf,iv r.left,iv r.right]) (by decide) kNodeP Tryz.underlying23 (fun _ _ _ h=>node_open h) h
 refine⟨rs,a,c,hv,?_⟩
 refine hsl.congr fun j i hj hi=>?_
 rw[(hq j hj).2]
 rcases (by omega:i=0∨i=1∨i=2) with rfl | rfl | rfl <;> rfl
theorem bools_open {n:Nat} {v:Value} {y:DataW H × List MemPlace} (h:DataW.trod enc Tryz.prog w base spare held n 24 [v]=some y) :
  ∃ (l:List Bool) (a:Option Addr) (c:Nat),v=sv a l.length c∧BoolsAt w (sv a l.length c) l:=by
 obtain⟨a,rs,c,CS,hv,hsl,hq⟩:=slice_open false (fun b cs=>cs=[.bool b]) (by decide) kBoolP Tryz.underlying24 (fun n cs' y h=>by
  obtain⟨x,e,_⟩:=DataW.trod_bool Tryz.underlying4 h
  exact⟨x,e⟩) h
 refine⟨rs,a,c,hv,?_⟩
 refine hsl.congr fun j i hj hi=>?_
 rw[(hq j hj).2]
 obtain rfl:i=0:=by omega
 rfl
end
end Go.Proofs.YtebippbakbihiaaGreatDoor
namespace Go.Proofs.YtebippbakbihiaaGreatDoor
open Go.ChangeShapes Go.WideShapes Go.ChangeAt Go.RowKit
set_option linter.unusedVariables false
theorem kGrant:Tryz.prog.cellsOf 64=2:=by kernel_rfl
theorem kMsg:Tryz.prog.cellsOf 60=5:=by kernel_rfl
theorem kFarm:Tryz.prog.cellsOf 29=8:=by kernel_rfl
theorem kHap:Tryz.prog.cellsOf 31=3:=by kernel_rfl
theorem kParts:Tryz.prog.cellsOf 22=1:=by kernel_rfl
theorem kNodes:Tryz.prog.cellsOf 23=1:=by kernel_rfl
theorem kBools:Tryz.prog.cellsOf 24=1:=by kernel_rfl
theorem kGrants:Tryz.prog.cellsOf 25=1:=by kernel_rfl
theorem kInts:Tryz.prog.cellsOf 26=1:=by kernel_rfl
theorem kNet:Tryz.prog.cellsOf 27=1:=by kernel_rfl
section
variable {H : Type} {enc : TypeId × Value → H} {w : World} {base : Nat} {spare : Nat → Bool} {held : Bool}
set_option maxRecDepth 100000 in
theorem grant_open {n:Nat} {cs:List Value} {y:DataW H × List MemPlace} (h:DataW.trod enc Tryz.prog w base spare held n 64 cs=some y) :
  ∃ r:M.Grt,cs=[iv r.worker,iv r.till]:=by
 obtain⟨xs,m,_,_,hl,hlen,hf⟩:=DataW.trod_struct Tryz.underlying64 h
 rw[kGrant] at hl
 match cs,hl with
 | [c0,c1],_ =>
  match xs,hlen with
  | [y0,y1],_ =>
   have h0:=hf 0 _ rfl
   have h1:=hf 1 _ rfl
   simp[kIntP] at h0 h1
   obtain⟨x0,e0,_,w0⟩:=DataW.trod_int Tryz.underlying3 h0
   obtain⟨x1,e1,_,w1⟩:=DataW.trod_int Tryz.underlying3 h1
   cases e0;cases e1
   exact⟨⟨x0,x1⟩,rfl⟩
theorem grants_open {n:Nat} {v:Value} {y:DataW H × List MemPlace} (h:DataW.trod enc Tryz.prog w base spare held n 25 [v]=some y) :
  ∃ (l:List M.Grt) (a:Option Addr) (c:Nat),v=sv a l.length c∧GrantsAt w (sv a l.length c) l:=by
 obtain⟨a,rs,c,CS,hv,hsl,hq⟩:=slice_open M.grt0 (fun r cs=>cs=[iv r.worker,iv r.till]) (by decide) kGrant Tryz.underlying25 (fun _ _ _ h=>grant_open h) h
 refine⟨rs,a,c,hv,?_⟩
 refine SlAt.congr hsl fun j i hj hi=>?_
 rw[(hq j hj).2]
 rcases (by omega:i=0∨i=1) with rfl | rfl <;> rfl
set_option maxRecDepth 100000 in
theorem msg_open {n:Nat} {cs:List Value} {y:DataW H × List MemPlace} (h:DataW.trod enc Tryz.prog w base spare held n 60 cs=some y) :
  ∃ s:M.Msg,MsgAt w (fun i=>cs.getD i undef) s:=by
 obtain⟨xs,m,_,_,hl,hlen,hf⟩:=DataW.trod_struct Tryz.underlying60 h
 rw[kMsg] at hl
 match cs,hl with
 | [c0,c1,c2,c3,c4],_ =>
  match xs,hlen with
  | [y0,y1,y2,y3],_ =>
   have h0:=hf 0 _ rfl
   have h1:=hf 1 _ rfl
   have h2:=hf 2 _ rfl
   have h3:=hf 3 _ rfl
   simp[kIntP,kPart] at h0 h1 h2 h3
   obtain⟨x0,e0,_,_⟩:=DataW.trod_int Tryz.underlying3 h0
   obtain⟨x1,e1,_,_⟩:=DataW.trod_int Tryz.underlying3 h1
   obtain⟨x2,e2,_,_⟩:=DataW.trod_int Tryz.underlying3 h2
   obtain⟨p,hF,hD⟩:=part_open h3
   cases e0;cases e1;cases e2
   exact⟨⟨x0,x1,x2,p⟩,rfl,rfl,rfl,hF,hD⟩
theorem net_open {n:Nat} {v:Value} {y:DataW H × List MemPlace} (h:DataW.trod enc Tryz.prog w base spare held n 27 [v]=some y) :
  ∃ (l:List M.Msg) (a:Option Addr) (c:Nat),v=sv a l.length c∧NetAt w (sv a l.length c) l:=by
 obtain⟨a,l,c,CS,hv,hsl,hq⟩:=slice_open M.msg0 (fun s cs=>MsgAt w (fun i=>cs.getD i undef) s) (by decide) kMsg Tryz.underlying27 (fun _ _ _ h=>msg_open h) h
 exact⟨l,a,c,hv,_,hsl,fun j hj=>(hq j hj).2⟩
set_option maxRecDepth 100000 in
theorem farm_open {r:Reach} {b0:Nat} {v:Value} {d:DataW H} {p:List MemPlace} (hv:Value.okWide Tryz.prog w r b0 29 v) (h:DataW.Trod enc Tryz.prog w base spare held 29 v d p) :
  ∃ (f:M.Farm) (x:Fd),v=.agg (qm f x)∧FarmAt w f x:=by
 obtain⟨cs,rfl,_⟩:=okWide_struct Tryz.underlying29 hv
 obtain⟨fuel,h⟩:=h
 simp only[Value.cells] at h
 obtain⟨xs,m,_,_,hl,hlen,hf⟩:=DataW.trod_struct Tryz.underlying29 h
 rw[kFarm] at hl
 obtain⟨cs⟩:=cs
 simp only at hl hf
 match cs,hl with
 | [c0,c1,c2,c3,c4,c5,c6,c7],_ =>
  match xs,hlen with
  | [y0,y1,y2,y3,y4,y5,y6,y7],_ =>
   have h0:=hf 0 _ rfl
   have h1:=hf 1 _ rfl
   have h2:=hf 2 _ rfl
   have h3:=hf 3 _ rfl
   have h4:=hf 4 _ rfl
   have h5:=hf 5 _ rfl
   have h6:=hf 6 _ rfl
   have h7:=hf 7 _ rfl
   simp[kIntP,kParts,kNodes,kBools,kGrants,kInts,kNet] at h0 h1 h2 h3 h4 h5 h6 h7
   obtain⟨l0,a0,d0,rfl,q0⟩:=parts_open h0
   obtain⟨l1,a1,d1,rfl,q1⟩:=nodes_open h1
   obtain⟨x2,e2,_,_⟩:=DataW.trod_int Tryz.underlying3 h2
   obtain⟨l3,a3,d3,rfl,q3⟩:=bools_open h3
   obtain⟨l4,a4,d4,rfl,q4⟩:=parts_open h4
   obtain⟨l5,a5,d5,rfl,q5⟩:=grants_open h5
   obtain⟨l6,a6,d6,rfl,q6⟩:=ints_open h6
   obtain⟨l7,a7,d7,rfl,q7⟩:=net_open h7
   cases e2
   exact⟨⟨l0,l1,x2,l3,l4,l5,l6,l7⟩,⟨a0,d0,a1,d1,a3,d3,a4,d4,a5,d5,a6,d6,a7,d7⟩,rfl,q0,q1,q3,q4,q5,q6,q7⟩
set_option maxRecDepth 100000 in
theorem hap_open {r:Reach} {b0:Nat} {v:Value} {d:DataW H} {p:List MemPlace} (hv:Value.okWide Tryz.prog w r b0 31 v) (h:DataW.Trod enc Tryz.prog w base spare held 31 v d p) :
  ∃ (x:M.Hap),v=.agg #[iv x.kind,iv x.worker,iv x.k]:=by
 obtain⟨cs,rfl,_⟩:=okWide_struct Tryz.underlying31 hv
 obtain⟨fuel,h⟩:=h
 simp only[Value.cells] at h
 obtain⟨xs,m,_,_,hl,hlen,hf⟩:=DataW.trod_struct Tryz.underlying31 h
 rw[kHap] at hl
 obtain⟨cs⟩:=cs
 simp only at hl hf
 match cs,hl with
 | [c0,c1,c2],_ =>
  match xs,hlen with
  | [y0,y1,y2],_ =>
   have h0:=hf 0 _ rfl
   have h1:=hf 1 _ rfl
   have h2:=hf 2 _ rfl
   simp[kIntP] at h0 h1 h2
   obtain⟨x0,e0,_,_⟩:=DataW.trod_int Tryz.underlying3 h0
   obtain⟨x1,e1,_,_⟩:=DataW.trod_int Tryz.underlying3 h1
   obtain⟨x2,e2,_,_⟩:=DataW.trod_int Tryz.underlying3 h2
   cases e0;cases e1;cases e2
   exact⟨⟨x0,x1,x2⟩,rfl⟩
end
end Go.Proofs.YtebippbakbihiaaGreatDoor
namespace Go.Proofs.YtebippbakbihiaaGreatDoor
open Go.ChangeShapes Go.WideShapes Go.ChangeAt Go.RowKit
set_option linter.unusedVariables false
section
variable {H : Type} {enc : TypeId × Value → H} {w : World} {base : Nat} {spare : Nat → Bool} {held : Bool}
set_option maxRecDepth 100000 in
theorem hapc_open {n:Nat} {cs:List Value} {y:DataW H × List MemPlace} (h:DataW.trod enc Tryz.prog w base spare held n 31 cs=some y) :
  ∃ r:M.Hap,cs=[iv r.kind,iv r.worker,iv r.k]:=by
 obtain⟨xs,m,_,_,hl,hlen,hf⟩:=DataW.trod_struct Tryz.underlying31 h
 rw[kHap] at hl
 match cs,hl with
 | [c0,c1,c2],_ =>
  match xs,hlen with
  | [y0,y1,y2],_ =>
   have h0:=hf 0 _ rfl
   have h1:=hf 1 _ rfl
   have h2:=hf 2 _ rfl
   simp[kIntP] at h0 h1 h2
   obtain⟨x0,e0,_,_⟩:=DataW.trod_int Tryz.underlying3 h0
   obtain⟨x1,e1,_,_⟩:=DataW.trod_int Tryz.underlying3 h1
   obtain⟨x2,e2,_,_⟩:=DataW.trod_int Tryz.underlying3 h2
   cases e0;cases e1;cases e2
   exact⟨⟨x0,x1,x2⟩,rfl⟩
theorem haps_open {n:Nat} {v:Value} {y:DataW H × List MemPlace} (h:DataW.trod enc Tryz.prog w base spare held n 47 [v]=some y) :
  ∃ (l:List M.Hap) (a:Option Addr) (c:Nat),v=sv a l.length c∧HapsAt w (sv a l.length c) l:=by
 obtain⟨a,rs,c,CS,hv,hsl,hq⟩:=slice_open hap0 (fun r cs=>cs=[iv r.kind,iv r.worker,iv r.k]) (by decide) kHap Tryz.underlying47 (fun _ _ _ h=>hapc_open h) h
 refine⟨rs,a,c,hv,?_⟩
 refine SlAt.congr hsl fun j i hj hi=>?_
 rw[(hq j hj).2]
 rcases (by omega:i=0∨i=1∨i=2) with rfl | rfl | rfl <;> rfl
end
end Go.Proofs.YtebippbakbihiaaGreatDoor
