/-
  The contracts of the library functions that are called, at this program: each laying is a table of numbers and one theorem, a field a fact of the program. Sorting and thinning out a row of texts of one's own; the contract of names.rising. The contracts of names.defined and names.wanted. The contracts of the library functions that are called, at this program: each laying is a table of numbers and one theorem, a field a fact of the program. The library's Sort, Compact, Grow, Concat, IsSorted, ContainsFunc, DeleteFunc at rows of texts of one's own.
-/
import Derived.Shelf.SlicesQ.Equal
import Derived.Shelf.Sort.Plain
import Derived.Shelf.Slices.CompactS
import Derived.Shelf.Slices.In.SortNone
import Derived.Test.YtpkfmfhodbjckaaGreatDoorProg
import Derived.Test.YtpkfmfhodbjckaaGreatDoorRowsX
import Derived.Lib.RowBridge
import Derived.Sort.Grow
import Derived.Shelf.Spec.SlicesGrow
import Derived.Shelf.SlSorted.IsSorted
import Derived.Shelf.SlicesE.DeleteFunc
import Derived.Shelf.SlicesE.IndexFunc
set_option linter.unusedVariables false
set_option maxHeartbeats 4000000
set_option maxRecDepth 100000
namespace Go.Proofs
open Go.Shelf
def Tryz.lays190_ren:Go.Shelf.Ren:=⟨fun|190=>124|125=>140|258=>139|128=>157|129=>158|302=>149|303=>150|304=>151|305=>152|306=>153|307=>154|308=>144|309=>155|310=>156|333=>161|329=>162|330=>163|334=>164|335=>165|336=>159|344=>166|n=>n,fun|31=>39|9=>9|3=>3|46=>188|0=>0|51=>212|53=>214|4=>4|183=>206|182=>205|131=>171|5=>5|218=>215|222=>219|228=>221|229=>131|n=>n,fun|n=>n⟩
theorem Tryz.lays190:Go.Proofs.Lays.n190 Tryz.prog Tryz.lays190_ren:={
 mixed:=by kernel_rfl
 f125:=Tryz.func140.trans (congrArg some (by kernel_rfl))
 f128:=Tryz.func157.trans (congrArg some (by kernel_rfl))
 f129:=Tryz.func158.trans (congrArg some (by kernel_rfl))
 f190:=Tryz.func124.trans (congrArg some (by kernel_rfl))
 f258:=Tryz.func139.trans (congrArg some (by kernel_rfl))
 f302:=Tryz.func149.trans (congrArg some (by kernel_rfl))
 f303:=Tryz.func150.trans (congrArg some (by kernel_rfl))
 f304:=Tryz.func151.trans (congrArg some (by kernel_rfl))
 f305:=Tryz.func152.trans (congrArg some (by kernel_rfl))
 f306:=Tryz.func153.trans (congrArg some (by kernel_rfl))
 f307:=Tryz.func154.trans (congrArg some (by kernel_rfl))
 f308:=Tryz.func144.trans (congrArg some (by kernel_rfl))
 f309:=Tryz.func155.trans (congrArg some (by kernel_rfl))
 f310:=Tryz.func156.trans (congrArg some (by kernel_rfl))
 f329:=Tryz.func162.trans (congrArg some (by kernel_rfl))
 f330:=Tryz.func163.trans (congrArg some (by kernel_rfl))
 f333:=Tryz.func161.trans (congrArg some (by kernel_rfl))
 f334:=Tryz.func164.trans (congrArg some (by kernel_rfl))
 f335:=Tryz.func165.trans (congrArg some (by kernel_rfl))
 f336:=Tryz.func159.trans (congrArg some (by kernel_rfl))
 f344:=Tryz.func166.trans (congrArg some (by kernel_rfl))
 t0:=Tryz.underlying0
 a0:=Tryz.isAgg0
 z0:=Tryz.sizeOf0
 v0:=Tryz.zeroValue0
 t3:=Tryz.underlying3
 a3:=Tryz.isAgg3
 z3:=Tryz.sizeOf3
 v3:=Tryz.zeroValue3
 t4:=Tryz.underlying4
 a4:=Tryz.isAgg4
 z4:=Tryz.sizeOf4
 v4:=Tryz.zeroValue4
 t5:=Tryz.underlying5
 a5:=Tryz.isAgg5
 z5:=Tryz.sizeOf5
 v5:=Tryz.zeroValue5
 t9:=Tryz.underlying9
 a9:=Tryz.isAgg9
 z9:=Tryz.sizeOf9
 v9:=Tryz.zeroValue9
 t31:=Tryz.underlying39
 a31:=Tryz.isAgg39
 z31:=Tryz.sizeOf39
 v31:=Tryz.zeroValue39
 t46:=Tryz.underlying188
 a46:=Tryz.isAgg188
 z46:=Tryz.sizeOf188
 v46:=Tryz.zeroValue188
 t51:=Tryz.underlying212
 a51:=Tryz.isAgg212
 z51:=Tryz.sizeOf212
 v51:=Tryz.zeroValue212
 t53:=Tryz.underlying214
 a53:=Tryz.isAgg214
 z53:=Tryz.sizeOf214
 v53:=Tryz.zeroValue214
 t131:=Tryz.underlying171
 a131:=Tryz.isAgg171
 z131:=Tryz.sizeOf171
 v131:=Tryz.zeroValue171
 t182:=Tryz.underlying205
 a182:=Tryz.isAgg205
 z182:=Tryz.sizeOf205
 v182:=Tryz.zeroValue205
 t183:=Tryz.underlying206
 a183:=Tryz.isAgg206
 z183:=Tryz.sizeOf206
 v183:=Tryz.zeroValue206
 t218:=Tryz.underlying215
 a218:=Tryz.isAgg215
 z218:=Tryz.sizeOf215
 v218:=Tryz.zeroValue215
 t222:=Tryz.underlying219
 a222:=Tryz.isAgg219
 z222:=Tryz.sizeOf219
 v222:=Tryz.zeroValue219
 t228:=Tryz.underlying221
 a228:=Tryz.isAgg221
 z228:=Tryz.sizeOf221
 v228:=Tryz.zeroValue221
 t229:=Tryz.underlying131
 a229:=Tryz.isAgg131
 z229:=Tryz.sizeOf131
 v229:=Tryz.zeroValue131 }
def Tryz.lays194_ren:Go.Shelf.Ren:=⟨fun|194=>141|n=>n,fun|31=>39|9=>9|3=>3|4=>4|0=>0|n=>n,fun|n=>n⟩
theorem Tryz.lays194:Go.Proofs.Lays.n194 Tryz.prog Tryz.lays194_ren:={
 mixed:=by kernel_rfl
 f194:=Tryz.func141.trans (congrArg some (by kernel_rfl))
 t0:=Tryz.underlying0
 a0:=Tryz.isAgg0
 z0:=Tryz.sizeOf0
 v0:=Tryz.zeroValue0
 t3:=Tryz.underlying3
 a3:=Tryz.isAgg3
 z3:=Tryz.sizeOf3
 v3:=Tryz.zeroValue3
 t4:=Tryz.underlying4
 a4:=Tryz.isAgg4
 z4:=Tryz.sizeOf4
 v4:=Tryz.zeroValue4
 t9:=Tryz.underlying9
 a9:=Tryz.isAgg9
 z9:=Tryz.sizeOf9
 v9:=Tryz.zeroValue9
 t31:=Tryz.underlying39
 a31:=Tryz.isAgg39
 z31:=Tryz.sizeOf39
 v31:=Tryz.zeroValue39 }
def Tryz.eqFlt_ren:Go.Shelf.Ren:=⟨fun|8=>13|n=>n,fun|22=>26|24=>49|4=>4|3=>3|0=>0|n=>n,fun|n=>n⟩
theorem Tryz.eqFlt:Go.Proofs.SlLaysQ.n8 Tryz.prog Tryz.eqFlt_ren:={
 mixed:=by kernel_rfl
 f8:=⟨Tryz.f13.name,by decide,Tryz.func13.trans (congrArg some (by kernel_rfl))⟩
 t0:=Tryz.underlying0
 a0:=Tryz.isAgg0
 z0:=Tryz.sizeOf0
 v0:=Tryz.zeroValue0
 t3:=Tryz.underlying3
 a3:=Tryz.isAgg3
 z3:=Tryz.sizeOf3
 v3:=Tryz.zeroValue3
 t4:=Tryz.underlying4
 a4:=Tryz.isAgg4
 z4:=Tryz.sizeOf4
 v4:=Tryz.zeroValue4
 t22:=Tryz.underlying26
 a22:=Tryz.isAgg26
 z22:=Tryz.sizeOf26
 v22:=Tryz.zeroValue26 }
end Go.Proofs
namespace Go.Proofs.YtpkfmfhodbjckaaGreatDoor
open Go Go.RowKit Go.Sort
theorem heap_ahead(w:World)(q:Nat):(Sort.ahead w q).heap=w.heap:=rfl
theorem putRow_heap(w:World)(g q:Nat)(d:Array (List UInt8))(os:Array Obj)(k:Nat)(hk:k<w.heap.size):(grow (putRow encStr (Sort.ahead w q) g 0 d) os).heap[k]?=if g=k then (w.heap[k]?).map (onCells (putCells encStr 0 d)) else w.heap[k]?:=by
 unfold grow putRow mapBlock
 simp only[heap_ahead]
 rw[Array.getElem?_append_left (by simpa using hk),Array.getElem?_modify]
theorem grown_put(w:World)(g q:Nat)(d:Array (List UInt8))(os:Array Obj):w.grownBy (grow (putRow encStr (Sort.ahead w q) g 0 d) os) (some g):=by
 refine⟨rfl,rfl,rfl,?_,fun k hk hne=>?_⟩
 ·simp[grow,putRow,mapBlock]
 ·rw[putRow_heap w g q d os k hk,if_neg (fun e=>hne (by rw[e]))]
theorem take_put(cur:Array Value)(d:List (List UInt8))(h:d.length≤cur.size):(putCells encStr 0 d.toArray cur).toList.take d.length=d.map encStr:=by
 apply List.ext_getElem?
 intro k
 by_cases hk:k<d.length
 ·rw[List.getElem?_take,if_pos hk,Array.getElem?_toList]
  unfold putCells
  rw[Array.getElem?_mapIdx,Array.getElem?_eq_getElem (by omega),Option.map_some,if_pos ⟨Nat.zero_le _,by simpa using hk⟩,List.getElem?_map,List.getElem?_eq_getElem hk]
  simp[hk]
 ·rw[List.getElem?_take,if_neg hk,List.getElem?_eq_none (by simp;omega)]
theorem own_put{w:World}{B g n cap m:Nat}{e:TypeId}{xs:List Value}(h:w.ownsRow B e 1 (sv (some (qa g 0)) n cap) n xs)(q:Nat)(os:Array Obj)(d:List (List UInt8))(hd:d.length=n)(hm:m≤n) :
  (grow (putRow encStr (Sort.ahead w q) g 0 d.toArray) os).ownsRow B e 1 (sv (some (qa g 0)) m cap) m ((d.take m).map encStr):=by
 refine⟨by simp;omega,?_⟩
 rcases h.2 with ⟨h1,_⟩|⟨g',cap',cur,h1,hb,h2,h3,h4,h5,h6⟩
 ·cases h1
 ·cases h1
  have hg:=lt1 h2
  refine .inr ⟨g,cap,putCells encStr 0 d.toArray cur,rfl,hb,?_,by omega,h4,by simp[putCells,h5],?_⟩
  ·rw[putRow_heap w g q _ os g hg,if_pos rfl,h2];rfl
  ·have:=take_put cur d (by omega)
   rw[List.map_take,←this,List.take_take,Nat.mul_one,Nat.min_eq_left (by omega)]
theorem holds_row{w:World}{B g n cap:Nat}{e:TypeId}{l:List ByteArray}(h:w.ownsRow B e 1 (sv (some (qa g 0)) n cap) n (l.map Value.string))(hn:n=l.length):Holds encStr w g 0 (l.map M.txt').toArray:=by
 intro j hj
 have hj':j<l.length:=by simpa using hj
 have hc:=h.cells (show Value.ownBlock (sv (some (qa g 0)) n cap)=some g from rfl) j (.string l[j]) (by rw[List.getElem?_map,List.getElem?_eq_getElem hj'];rfl)
 rw[←addr_add] at hc
 refine⟨?_,?_⟩
 ·rw[hc,getElem!_pos _ j hj]
  simp[encStr,M.txt']
 ·rcases h.2 with ⟨h1,_⟩|⟨g',cap',cur,h1,hb,h2,h3,h4,h5,h6⟩
  ·cases h1
  ·cases h1
   exact frozenB h2 _
theorem risingT_le(l:List (List UInt8)):(M.risingT l).length≤l.length:=by
 have:=Lib.compact_length_le (l.mergeSort fun x y=>decide (x≤y))
 simpa [M.risingT] using this
theorem rising_any(l:List ByteArray)(B:Nat)(v:Value)(w:World)(h:w.ownsRow B 9 1 v l.length (l.map Value.string))(hl:l.length≤100000) :
  Calls Tryz.prog 125 #[v] w fun e w'=>w.grownBy w' v.ownBlock∧∃v',e=.returned v'∧w'.ownsRow B 9 1 v' (M.rising l).length ((M.rising l).map Value.string)∧v'.ownBlock=v.ownBlock:=by
 rcases h.2 with ⟨h1,h0⟩|⟨g,cap,cur,h1,hb,h2,h3,h4,h5,h6⟩
 ·subst h1
  have hnil:l=[]:=List.length_eq_zero_iff.1 h0
  subst hnil
  have KS:Hid (∀W,Calls Tryz.prog 124 #[sv none 0 0] W fun e w'=>e=.returned (.tuple #[])∧w'=W):=fun W=>Any.slices_Sort_string_none Tryz.lays190 none 0 W
  have KC:Hid (∀W,Calls Tryz.prog 141 #[sv none 0 0] W fun e w'=>e=.returned (sv none 0 0)∧w'=W):=fun W=>Any.slices_Compact_string_empty Tryz.lays194 none 0 W
  clear h h0
  go_enter Tryz.func125,Tryz.ntmps125
  go_wp2_with (first|(go_at_call 124;refine(KS.out _).mono ?_;rintro e w1 ⟨rfl,rfl⟩)|(go_at_call 141;refine(KC.out _).mono ?_;rintro e w2 ⟨rfl,rfl⟩))
  go_ret
  have e0:M.rising []=[]:=M.rising_eq List.Pairwise.nil (fun s=>Iff.rfl)
  exact⟨grown_of_below (Below.refl _ _) _,_,rfl,by rw[e0];exact World.ownsRow_nil _ _ _ _,rfl⟩
 ·subst h1
  have hgl:=lt1 h2
  have hH:=holds_row h rfl
  have e1:(l.map M.txt').length=l.length:=by simp
  have KS:Hid (Calls Tryz.prog 124 #[sv (some (qa g 0)) l.length cap] w fun e w'=>e=.returned (.tuple #[])∧∃n os,w'=grow (putRow encStr (Sort.ahead w n) g 0 ((l.map M.txt').mergeSort fun x y=>decide (x≤y)).toArray) os):=by
   have:=Any.slices_Sort_string Tryz.lays190 g 0 cap (l.map M.txt') w hH hgl (by rw[e1];omega)
   rwa [e1] at this
  have hsl:((l.map M.txt').mergeSort fun x y=>decide (x≤y)).length=l.length:=by simp
  have HT:Hid (Lib.compact ((l.map M.txt').mergeSort fun x y=>decide (x≤y))=M.risingT (l.map M.txt')):=rfl
  generalize hst:((l.map M.txt').mergeSort fun x y=>decide (x≤y))=st at *
  have hle:(Lib.compact st).length≤st.length:=by rw[HT.out];have:=risingT_le (l.map M.txt');rw[e1] at this;omega
  have KC:Hid (∀W,W.ownsRow B 9 1 (sv (some (qa g 0)) l.length cap) l.length (st.map encStr)→Calls Tryz.prog 141 #[sv (some (qa g 0)) l.length cap] W fun e w'=>e=.returned (sv (some (qa g 0)) (Lib.compact st).length cap)∧∃q,w'=putRow encStr (Sort.ahead W q) g 0 (Lib.compact st++List.replicate (l.length-(Lib.compact st).length) []).toArray):=fun W hW=>by
   have hH':Holds encStr W g 0 st.toArray:=by
    have:st.map encStr=(st.map M.ofTxt).map Value.string:=by rw[List.map_map];rfl
    rw[this] at hW
    have h7:=holds_row hW (by simp[hsl])
    have h8:(st.map M.ofTxt).map M.txt'=st:=by rw[List.map_map];exact List.map_id st
    rwa [h8] at h7
   have:=Any.slices_Compact_string Tryz.lays194 g 0 cap st W hH' (by omega) (by omega)
   rwa [hsl] at this
  have hO1:=fun n os=>own_put (m:=l.length) h n os st hsl (Nat.le_refl _)
  have HO1:Hid (∀n os,World.ownsRow _ B 9 1 (sv (some (qa g 0)) l.length cap) l.length (st.map encStr)):=fun n os=>by
   have:=hO1 n os
   rwa [List.take_of_length_le (by omega)] at this
  have HG1:Hid (∀n os,w.grownBy _ (some g)):=fun n os=>grown_put w g n st.toArray os
  clear hO1 h h2 h3 h4 h5 h6 hH hst cur
  go_enter Tryz.func125,Tryz.ntmps125
  go_wp2_with (go_at_call 124;refine KS.out.mono ?_;rintro e w1 ⟨rfl,n,os,rfl⟩;refine Hid.out ?_)
  have hO:=HO1.out n os
  have hG:=HG1.out n os
  clear KS HO1 HG1
  generalize grow (putRow encStr (Sort.ahead w n) g 0 st.toArray) os=W1 at *
  refine Lib.hid ?_
  go_wp2_with (go_at_call 141;refine(KC.out _ hO).mono ?_;rintro e w2 ⟨rfl,q,rfl⟩)
  go_ret
  have hlen:(Lib.compact st++List.replicate (l.length-(Lib.compact st).length) ([]:List UInt8)).length=l.length:=by simp;omega
  have hO2:=own_put (m:=(Lib.compact st).length) hO q #[] _ hlen (by omega)
  have hG2:=grown_put W1 g q (Lib.compact st++List.replicate (l.length-(Lib.compact st).length) []).toArray #[]
  rw[grow_empty] at hO2 hG2
  refine⟨grown_trans hG hG2,_,rfl,?_,rfl⟩
  rw[List.take_left] at hO2
  have e3:M.rising l=(Lib.compact st).map M.ofTxt:=by rw[HT.out];rfl
  rw[e3,List.length_map,List.map_map]
  exact hO2
end Go.Proofs.YtpkfmfhodbjckaaGreatDoor
namespace Go.Proofs.YtpkfmfhodbjckaaGreatDoor
open Go.RowKit
theorem grown_below{w X w3:World}{B k n:Nat}{e:TypeId}{v:Value}{xs:List Value}(hB:Below B w X)(hs:B≤X.heap.size)(hown:X.ownsRow B e k v n xs)(hg:X.grownBy w3 v.ownBlock):Below B w w3 :=
 hB.grown hg hs (fun k hk=>(hown.lt k hk).1)
theorem names_take(ds:List M.Dfn)(k:Nat)(h:k<ds.length):M.definedNames (ds.take (k+1))=M.definedNames (ds.take k)++[(ds.getD k dfn0).name]:=by
 unfold M.definedNames
 rw[List.take_succ_eq_append_getElem h,List.map_append,List.getD_eq_getElem?_getD,List.getElem?_eq_getElem h]
 rfl
theorem wants_take(rs:List M.Rel)(k:Nat)(h:k<rs.length):M.wantedOf (rs.take (k+1))=M.wantedOf (rs.take k)++bif M.bare (rs.getD k rel0).name then [] else [(rs.getD k rel0).name]:=by
 unfold M.wantedOf
 rw[List.take_succ_eq_append_getElem h,List.filter_append,List.map_append,List.getD_eq_getElem?_getD,List.getElem?_eq_getElem h]
 simp only[Option.getD_some,List.filter_cons,List.filter_nil]
 cases M.bare rs[k].name<;>rfl
theorem wanted_take(fs:List M.Frg)(k:Nat)(h:k<fs.length):M.wantedNames (fs.take (k+1))=M.wantedNames (fs.take k)++M.wantedOf (fs.getD k frg0).rels:=by
 unfold M.wantedNames
 rw[List.take_succ_eq_append_getElem h,List.flatMap_append,List.getD_eq_getElem?_getD,List.getElem?_eq_getElem h]
 simp
theorem text_step{w X w3:World}{v v':Value}{l:List ByteArray}{s:ByteArray}{o:Obj}(hB:Below w.heap.size w X)(hs:w.heap.size≤X.heap.size)(hown:X.ownsRow w.heap.size 9 1 v l.length (l.map Value.string))(hg:(X.alloc o).grownBy w3 v.ownBlock)
  (ho:w3.ownsRow w.heap.size 9 1 v' (l.length+1) (l.map Value.string++(#[.string s]:Array Value).toList)):w3.ownsRow w.heap.size 9 1 v' (l++[s]).length ((l++[s]).map Value.string)∧Below w.heap.size w w3 :=
 ⟨by rw[List.length_append,List.map_append];exact ho,(hB.alloc hs _).grown hg (by simp;omega) (fun k hk=>(hown.lt k hk).1)⟩
theorem rising_size{l:List ByteArray}(h:∀s∈l,s.size≤maxLen):∀s∈M.rising l,s.size≤maxLen:=fun s hs=>h s ((M.rising_mem l s).1 hs)
theorem rising_le(l:List ByteArray):(M.rising l).length≤l.length:=by
 have:=risingT_le (l.map M.txt')
 simpa [M.rising] using this
theorem defined_any(ds:List M.Dfn)(a:Option Addr)(c:Nat)(w:World)(hd:DefsAt w (sv a ds.length c) ds)(h60:ds.length≤60) :
  Calls Tryz.prog 129 #[sv a ds.length c] w fun e w'=>Below w.heap.size w w'∧∃v,e=.returned v∧w'.ownsRow w.heap.size 9 1 v (M.rising (M.definedNames ds)).length ((M.rising (M.definedNames ds)).map Value.string)∧∀s∈M.rising (M.definedNames ds),s.size≤maxLen:=by
 obtain⟨i0,hi,hz0,hz1,hz2⟩:=info_parts (P:=Tryz.prog) (e:=9) (z:=.string ⟨#[]⟩) (size:=1) (bytes:=16) (by kernel_rfl)
 have HSz:Hid (∀s∈M.rising (M.definedNames ds),s.size≤maxLen):=rising_size (fun s hs=>by
  obtain⟨d,hd',rfl⟩:=List.mem_map.1 hs
  exact hd.2 d hd')
 go_enter Tryz.func129,Tryz.ntmps129
 go_wp2_with fail
 go_loopw [3,8] (fun s3 s8 wr=>∃(k:Nat) (l:List ByteArray),k≤ds.length∧s8=iv k∧Hid (l=M.definedNames (ds.take k))∧l.length≤k∧wr.ownsRow w.heap.size 9 1 s3 l.length (l.map Value.string)∧Hid (Below w.heap.size w wr)) (fun _ s8 _=>ds.length-(intOf s8).toNat)
 case atStart=>exact⟨0,[],Nat.zero_le _,rfl,rfl,Nat.le_refl _,World.ownsRow_nil _ _ _ _,Below.refl _ _⟩
 case round =>
  obtain⟨k,l,hk,rfl,HL,hlk,hown,HB⟩:=hrel
  have hw0:w.heap.size≤wr.heap.size:=HB.out.size
  by_cases hlt:k<ds.length
  ·obtain⟨b,off,rfl,e0,e1,e2,e3,e4,e5,hnm⟩:=(hd.later HB.out).cells k hlt
   have hbr:b<wr.heap.size:=wlt e0
   have HL1:=names_take ds k hlt
   rw[←HL.out] at HL1
   have hkl:(k:Int)<(ds.length:Int):=by omega
   clear HL hd
   generalize ds.getD k dfn0=d at *
   obtain⟨nm,kd,fr,pos,sz,al⟩:=d
   simp only at e0 e1 e2 e3 e4 e5 hnm HL1
   have HL2:Hid (l++[nm]=M.definedNames (ds.take (k+1))):=HL1.symm
   clear HL1
   obtain⟨a5,n5,c5,rfl⟩:=own_form hown
   go_upto_region 5 with fail
   have hownX:=hown.alloc (.cells #[.string nm,iv kd,iv fr,iv pos,iv sz,iv al] 72)
   have HBX:Hid (Below w.heap.size w (wr.alloc (.cells #[.string nm,iv kd,iv fr,iv pos,iv sz,iv al] 72))):=HB.out.alloc hw0 _
   have x3:=heap_alloc_new wr (.cells #[.string nm,iv kd,iv fr,iv pos,iv sz,iv al] 72)
   have hXs:wr.heap.size<(wr.alloc (.cells #[.string nm,iv kd,iv fr,iv pos,iv sz,iv al] 72)).heap.size:=by simp
   clear hown HB e0 e1 e2 e3 e4 e5
   generalize wr.alloc (.cells #[.string nm,iv kd,iv fr,iv pos,iv sz,iv al] 72)=Y at *
   have k0:=cellC x3 0 rfl
   have hwY:w.heap.size≤Y.heap.size:=by omega
   have hnews:∀j u,(#[.string nm]:Array Value).toList[j]?=some u→(Y.alloc (.cells #[.string nm] 9)).cell? ((qa Y.heap.size 0).add j)=some u:=World.news_of_block (heap_alloc_new Y _)
   clear x3
   go_wp2_with (at_builtin;refine wpList_append_own _ rfl _ _ 39 rfl w.heap.size 9 i0 (.string ⟨#[]⟩) 1 16 Tryz.underlying39 hi hz0 hz1 hz2 rfl (by decide) _ _ _ rfl (hownX.alloc _) ⟨Y.heap.size,0,none⟩ 1 1 (#[.string nm]:Array Value).toList rfl rfl hnews (fun u hu=>by simp at hu;subst hu;rfl) (by unfold maxLen;omega) (by omega) (by simp;omega) ?_;intro v' w3 hown' hgrow3 hnil3)
   have HE:=text_step HBX.out hwY hownX hgrow3 hown'
   go_roundw
   case rel=>exact⟨k+1,l++[nm],by omega,by go_num,HL2,by simp;omega,HE.1,HE.2⟩
   case measure=>simp[intOf];omega
  ·have hkl:k=ds.length:=by omega
   have HL2:l=M.definedNames ds:=by rw[HL.out,hkl,List.take_length]
   have KR:Hid (Calls Tryz.prog 125 #[u3] wr fun e w'=>wr.grownBy w' u3.ownBlock∧∃v',e=.returned v'∧w'.ownsRow w.heap.size 9 1 v' (M.rising l).length ((M.rising l).map Value.string)∧v'.ownBlock=u3.ownBlock):=rising_any l w.heap.size u3 wr hown (by omega)
   have HL3:Hid (l=M.definedNames ds):=HL2
   clear HL HL2
   subst hkl
   obtain⟨a5,n5,c5,rfl⟩:=own_form hown
   go_wp2_with (go_at_call 125;refine KR.out.mono ?_;rintro e w4 ⟨hg4,v4,rfl,ho4,_⟩)
   go_ret
   rw[←HL3.out]
   exact⟨grown_below HB.out hw0 hown hg4,_,rfl,ho4,by rw[HL3.out];exact HSz.out⟩
theorem wanted_any(fs:List M.Frg)(a:Option Addr)(c:Nat)(w:World)(hf:FragsAt w (sv a fs.length c) fs)(h60:fs.length≤60)(h8:∀f∈fs,f.rels.length≤8) :
  Calls Tryz.prog 100 #[sv a fs.length c] w fun e w'=>Below w.heap.size w w'∧∃v,e=.returned v∧w'.ownsRow w.heap.size 9 1 v (M.rising (M.wantedNames fs)).length ((M.rising (M.wantedNames fs)).map Value.string)∧∀s∈M.rising (M.wantedNames fs),s.size≤maxLen:=by
 obtain⟨i0,hi,hz0,hz1,hz2⟩:=info_parts (P:=Tryz.prog) (e:=9) (z:=.string ⟨#[]⟩) (size:=1) (bytes:=16) (by kernel_rfl)
 have HSz:Hid (∀s∈M.rising (M.wantedNames fs),s.size≤maxLen):=rising_size (fun s hs=>by
  obtain⟨f,hf',hs⟩:=List.mem_flatMap.1 hs
  obtain⟨r,hr,rfl⟩:=List.mem_map.1 hs
  have hr:=(List.mem_filter.1 hr).1
  obtain⟨j,hj,rfl⟩:=List.getElem_of_mem hf'
  obtain⟨_,_,_,_,_,_,_,_,_,_,_,_,_,_,hRl,_,_⟩:=hf.cells j hj
  rw[List.getD_eq_getElem?_getD,List.getElem?_eq_getElem hj] at hRl
  exact(hRl.2 r hr).1)
 go_enter Tryz.func100,Tryz.ntmps100
 go_wp2_with fail
 go_loopw [3,10] (fun s3 s10 wr=>∃(k:Nat) (l:List ByteArray),k≤fs.length∧s10=iv k∧Hid (l=M.wantedNames (fs.take k))∧l.length≤8*k∧wr.ownsRow w.heap.size 9 1 s3 l.length (l.map Value.string)∧Hid (Below w.heap.size w wr)) (fun _ s10 _=>fs.length-(intOf s10).toNat)
 case atStart=>exact⟨0,[],Nat.zero_le _,rfl,rfl,Nat.le_refl _,World.ownsRow_nil _ _ _ _,Below.refl _ _⟩
 case round =>
  obtain⟨k,l,hk,rfl,HL,hlk,hown,HB⟩:=hrel
  have hw0:w.heap.size≤wr.heap.size:=HB.out.size
  by_cases hlt:k<fs.length
  ·obtain⟨b,off,ab,cb,ar,cr,rfl,e0,e1,e2,e3,e4,e5,_,hRl,_,_⟩:=hf.cells k hlt
   have hr8:=h8 _ (getD_mem fs frg0 k hlt)
   have HL1:=wanted_take fs k hlt
   rw[←HL.out] at HL1
   have hkl:(k:Int)<(fs.length:Int):=by omega
   replace e0:=cell_later HB.out e0
   replace e1:=cell_later HB.out e1
   replace e2:=cell_later HB.out e2
   replace e3:=cell_later HB.out e3
   replace e4:=cell_later HB.out e4
   replace e5:=cell_later HB.out e5
   have hbr:b<wr.heap.size:=wlt e0
   clear HL hf h8
   generalize fs.getD k frg0=f at *
   obtain⟨s,al,g,bs,sz,rs⟩:=f
   simp only at e0 e1 e2 e3 e4 e5 hRl hr8 HL1
   have HL2:Hid (M.wantedNames (fs.take (k+1))=l++M.wantedOf rs):=HL1
   clear HL1
   generalize bs.length=nb at *
   obtain⟨a5,n5,c5,rfl⟩:=own_form hown
   go_upto_region 6 with fail
   have hownX:=hown.alloc (.cells #[iv s,iv al,.string g,sv ab nb cb,iv sz,sv ar rs.length cr] 87)
   have HBX:Hid (Below w.heap.size w (wr.alloc (.cells #[iv s,iv al,.string g,sv ab nb cb,iv sz,sv ar rs.length cr] 87))):=HB.out.alloc hw0 _
   clear hown HB e0 e1 e2 e3 e4 e5
   generalize wr.alloc (.cells #[iv s,iv al,.string g,sv ab nb cb,iv sz,sv ar rs.length cr] 87)=X at *
   go_loopw [3,17] (fun s3 s17 wi=>∃(j:Nat) (m:List ByteArray),j≤rs.length∧s17=iv j∧Hid (m=l++M.wantedOf (rs.take j))∧m.length≤l.length+j∧wi.ownsRow w.heap.size 9 1 s3 m.length (m.map Value.string)∧Hid (Below w.heap.size w wi)) (fun _ s17 _=>rs.length-(intOf s17).toNat)
   case atStart=>exact⟨0,l,Nat.zero_le _,rfl,by simp[Hid,M.wantedOf],by omega,hownX,HBX.out⟩
   case round =>
    obtain⟨j,m,hj,rfl,HM,hmj,hown,HB⟩:=hrel
    clear hownX HBX
    have hw1:w.heap.size≤wr.heap.size:=HB.out.size
    by_cases hjt:j<rs.length
    ·obtain⟨b',off',rfl,e0,e1,e2,e3,e4⟩:=relsAt_cells (hRl.later HB.out) j hjt
     have hbr':b' < wr.heap.size:=wlt e0
     have HM1:l++M.wantedOf (rs.take (j+1))=m++bif M.bare (rs.getD j rel0).name then [] else [(rs.getD j rel0).name]:=by rw[wants_take rs j hjt,←List.append_assoc,←HM.out]
     have hjl:(j:Int)<(rs.length:Int):=by omega
     clear HM hRl
     generalize rs.getD j rel0=r at *
     obtain⟨pos,kd,nm,fr,ad⟩:=r
     simp only at e0 e1 e2 e3 e4 HM1
     obtain⟨a6,n6,c6,rfl⟩:=own_form hown
     cases hb:M.bare nm
     ·rw[hb] at HM1
      have HM2:Hid (m++[nm]=l++M.wantedOf (rs.take (j+1))):=HM1.symm
      have hb':nm.toList.isEmpty=false:=hb
      clear HM1 hb
      go_upto_region 9 with fail
      have hownX:=hown.alloc (.cells #[iv pos,iv kd,.string nm,iv fr,iv ad] 89)
      have HBX:Hid (Below w.heap.size w (wr.alloc (.cells #[iv pos,iv kd,.string nm,iv fr,iv ad] 89))):=HB.out.alloc hw1 _
      have x3:=heap_alloc_new wr (.cells #[iv pos,iv kd,.string nm,iv fr,iv ad] 89)
      have hXs:wr.heap.size<(wr.alloc (.cells #[iv pos,iv kd,.string nm,iv fr,iv ad] 89)).heap.size:=by simp
      clear hown HB e0 e1 e2 e3 e4
      generalize wr.alloc (.cells #[iv pos,iv kd,.string nm,iv fr,iv ad] 89)=Y at *
      have k0:=cellC x3 2 rfl
      have hwY:w.heap.size≤Y.heap.size:=by omega
      have hnews:∀j u,(#[.string nm]:Array Value).toList[j]?=some u→(Y.alloc (.cells #[.string nm] 9)).cell? ((qa Y.heap.size 0).add j)=some u:=World.news_of_block (heap_alloc_new Y _)
      clear x3
      go_wp2_with (at_builtin;refine wpList_append_own _ rfl _ _ 39 rfl w.heap.size 9 i0 (.string ⟨#[]⟩) 1 16 Tryz.underlying39 hi hz0 hz1 hz2 rfl (by decide) _ _ _ rfl (hownX.alloc _) ⟨Y.heap.size,0,none⟩ 1 1 (#[.string nm]:Array Value).toList rfl rfl hnews (fun u hu=>by simp at hu;subst hu;rfl) (by unfold maxLen;omega) (by omega) (by simp;omega) ?_;intro v' w3 hown' hgrow3 hnil3)
      have HE:=text_step HBX.out hwY hownX hgrow3 hown'
      go_roundw
      case rel=>exact⟨j+1,m++[nm],by omega,by go_num,HM2,by simp;omega,HE.1,HE.2⟩
      case measure=>simp[intOf];omega
     ·rw[hb] at HM1
      have HM2:Hid (m=l++M.wantedOf (rs.take (j+1))):=by rw[Hid,HM1];simp
      have hb':nm.toList.isEmpty=true:=hb
      clear HM1 hb
      have HE:Hid (∀o,(wr.alloc o).ownsRow w.heap.size 9 1 (sv a6 n6 c6) m.length (m.map Value.string)∧Below w.heap.size w (wr.alloc o)):=fun o=>⟨hown.alloc o,HB.out.alloc hw1 _⟩
      go_wp2
      go_roundw
      case rel=>exact⟨j+1,m,by omega,by go_num,HM2,by omega,(HE.out _).1,(HE.out _).2⟩
      case measure=>simp[intOf];omega
    ·have hjl:j=rs.length:=by omega
     have HM2:Hid (m=M.wantedNames (fs.take (k+1))):=by rw[Hid,HM.out,hjl,List.take_length,HL2.out]
     clear HM HL2 hRl
     subst hjl
     go_wp2
     go_roundw
     case rel=>exact⟨k+1,m,by omega,by go_num,HM2,by omega,hown,HB⟩
     case measure=>simp[intOf];omega
  ·have hkl:k=fs.length:=by omega
   have HL2:l=M.wantedNames fs:=by rw[HL.out,hkl,List.take_length]
   have KR:Hid (Calls Tryz.prog 125 #[u3] wr fun e w'=>wr.grownBy w' u3.ownBlock∧∃v',e=.returned v'∧w'.ownsRow w.heap.size 9 1 v' (M.rising l).length ((M.rising l).map Value.string)∧v'.ownBlock=u3.ownBlock):=rising_any l w.heap.size u3 wr hown (by omega)
   have HL3:Hid (l=M.wantedNames fs):=HL2
   clear HL HL2
   subst hkl
   obtain⟨a5,n5,c5,rfl⟩:=own_form hown
   go_wp2_with (go_at_call 125;refine KR.out.mono ?_;rintro e w4 ⟨hg4,v4,rfl,ho4,_⟩)
   go_ret
   rw[←HL3.out]
   exact⟨grown_below HB.out hw0 hown hg4,_,rfl,ho4,by rw[HL3.out];exact HSz.out⟩
end Go.Proofs.YtpkfmfhodbjckaaGreatDoor
namespace Go.Proofs
open Go.Shelf
end Go.Proofs
namespace Go.Proofs.YtpkfmfhodbjckaaGreatDoor
open Go Go.RowKit Go.Sort
def ordered (l:List ByteArray):List ByteArray:=((l.map M.txt').mergeSort fun x y=>decide (x≤y)).map M.ofTxt
theorem ordered_len(l:List ByteArray):(ordered l).length=l.length:=by simp[ordered]
theorem sort_own(l:List ByteArray)(B:Nat)(v:Value)(w:World)(h:w.ownsRow B 9 1 v l.length (l.map Value.string))(hl:l.length≤100000) :
  Calls Tryz.prog 124 #[v] w fun e w'=>e=.returned (.tuple #[])∧w.grownBy w' v.ownBlock∧w'.ownsRow B 9 1 v l.length ((ordered l).map Value.string):=by
 rcases h.2 with ⟨h1,h0⟩|⟨g,cap,cur,h1,hb,h2,h3,h4,h5,h6⟩
 ·subst h1
  have hnil:l=[]:=List.length_eq_zero_iff.1 h0
  subst hnil
  exact(Any.slices_Sort_string_none Tryz.lays190 none 0 w).mono fun e w' ⟨he,hw⟩=>⟨he,by rw[hw];exact grown_of_below (Below.refl _ _) _,by rw[hw];simpa [ordered] using h⟩
 ·subst h1
  have hgl:=lt1 h2
  have hH:=holds_row h rfl
  have e1:(l.map M.txt').length=l.length:=by simp
  have:=Any.slices_Sort_string Tryz.lays190 g 0 cap (l.map M.txt') w hH hgl (by rw[e1];omega)
  rw[e1] at this
  refine this.mono fun e w' ⟨he,n,os,hw⟩=>⟨he,?_,?_⟩
  ·rw[hw];exact grown_put w g n _ os
  ·have hsl:((l.map M.txt').mergeSort fun x y=>decide (x≤y)).length=l.length:=by simp
   have hO:=own_put (m:=l.length) h n os _ hsl (Nat.le_refl _)
   rw[List.take_of_length_le (by omega)] at hO
   rw[hw,ordered,List.map_map]
   exact hO
end Go.Proofs.YtpkfmfhodbjckaaGreatDoor
