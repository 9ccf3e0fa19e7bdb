/-
  slices.Contains of a row of pairs of numbers. ArchiveEnds: its two sets of names in memory. The reference's Chosen: its closure, which looks anew for the names that are lacking. The reference's Chosen: what it has in memory, and what it has taken. The reference's Chosen: a part that is no archive's is taken; what each operation of that statement has.
-/
import Derived.Test.YtpkfmfhodbjckaaGreatDoorProg
import Derived.Laws.StructEq
import Derived.Deep.RegionHeld3
import Derived.Deep.Cut
import Derived.RegionTactic
import Derived.ChangeAlike
import Derived.Test.YtpkfmfhodbjckaaGreatDoorRefBB
import Derived.Test.YtpkfmfhodbjckaaGreatDoorSmB
import Derived.Test.YtpkfmfhodbjckaaGreatDoorArA
import Derived.Test.YtpkfmfhodbjckaaGreatDoorQQ
set_option linter.unusedVariables false
set_option maxHeartbeats 8000000
set_option maxRecDepth 100000
namespace Go.Proofs.YtpkfmfhodbjckaaGreatDoor
open Go Go.RowKit
def encPr (x:Nat × Nat):List Value:=[.int .i64 (x.1:Nat),.int .i64 (x.2:Nat)]
def PrsAt (w:World) (v:Value) (l:List (Nat × Nat)):Prop:=SlAt w v 2 l.length (fun j i=>(encPr (l.getD j (0,0))).getD i undef)
theorem PrsAt.later{w w':World}{v:Value}{l:List (Nat × Nat)}(h:PrsAt w v l)(hb:Below w.heap.size w w'):PrsAt w' v l:=SlAt.later h hb
theorem row_prs{w:World}{B:Nat}{v:Value}{l:List (Nat × Nat)}(h:w.ownsRow B 69 2 v l.length (l.flatMap encPr)):PrsAt w v l:=row_slice (k:=2) (0,0) encPr (fun _=>rfl) l h
theorem eqPrIn(n:Nat)(a b c d:Int)(w:World):(Op.equalIn (n+1+1) 69 (.agg #[.int .i64 a,.int .i64 b]) (.agg #[.int .i64 c,.int .i64 d])).run Tryz.prog w=.ok (a==c&&b==d) w:=by
 have u3:=Tryz.underlying3
 have a3:=Tryz.isAgg3
 have z3:=Tryz.sizeOf3
 have hA:=Tryz.underlying69
 have e1:∀(x y:Int) (W:World),(Op.equalIn (n+1) 3 (.int .i64 x) (.int .i64 y)).run Tryz.prog W=.ok (x==y) W:=fun x y W=>run_equalIn_int W n 3 .i64 .i64 x y u3
 rw[Op.equalIn]
 simp only[Sem.run_bind,run_underlying hA,Result.andThen_ok,z3,Std.Legacy.Range.forIn_eq_forIn_range',Std.Legacy.Range.size,Nat.sub_zero,Nat.add_one_sub_one,Nat.div_one]
 generalize Op.equalIn (n+1)=E at *
 by_cases h0:a=c<;>by_cases h1:b=d<;>simp[List.range',part,e1,a3,h0,h1]
theorem PrsAt.cells{w:World}{a:Option Addr}{c:Nat}{l:List (Nat × Nat)}(h:PrsAt w (.slice a l.length c) l)(k:Nat)(hk:k<l.length) :
  ∃b off,a=some ⟨b,off,none⟩∧w.cell? ⟨b,off+k*2,none⟩=some (.int .i64 ((l.getD k (0,0)).1:Nat))∧w.cell? ⟨b,off+k*2+1,none⟩=some (.int .i64 ((l.getD k (0,0)).2:Nat)):=by
 obtain⟨b,off,rfl,hc⟩:=SlAt.at h k hk
 exact⟨b,off,rfl,hc 0 (by decide),hc 1 (by decide)⟩
theorem indexPr_any(l:List (Nat × Nat))(i q:Nat)(a:Option Addr)(c:Nat)(w:World)(h:PrsAt w (.slice a l.length c) l) :
  Calls Tryz.prog 65 #[.slice a l.length c,.agg #[.int .i64 (i:Nat),.int .i64 (q:Nat)]] w fun e w'=>(∃n:Int,e=.returned (.int .i64 n)∧(0≤n↔(i,q)∈l))∧Below w.heap.size w w':=by
 have hn:l.length≤maxLen:=by obtain⟨_,_,_,h⟩:=SlAt.form h;exact h
 unfold maxLen at hn
 have hA:=bra w (.cells #[.int .i64 (i:Nat),.int .i64 (q:Nat)] 69)
 have hq:=heap_alloc_new w (.cells #[.int .i64 (i:Nat),.int .i64 (q:Nat)] 69)
 have HP:Hid (∀W,Below w.heap.size w W→PrsAt W (.slice a l.length c) l):=fun W hW=>h.later hW
 have HA:Hid _:=hA
 have hag:=Tryz.isAgg69
 have hsz:=Tryz.sizeOf69
 clear h hA
 go_enter Tryz.func65,Tryz.ntmps65
 go_upto_region 2 with fail
 generalize w.alloc (.cells #[.int .i64 (i:Nat),.int .i64 (q:Nat)] 69)=X at *
 obtain⟨b3,hb3⟩:∃b3,b3=w.heap.size:=⟨_,rfl⟩
 rw[←hb3] at hq ⊢
 clear hb3
 have HQ:Hid (∀W,Below X.heap.size X W→W.heap[b3]?=some (.cells #[.int .i64 (i:Nat),.int .i64 (q:Nat)] 69 (0,0))):=fun W hW=>blk hW hq
 clear hq
 go_loopw [8] (fun s8 wr=>∃(k:Nat),k≤l.length∧s8=.int .i64 k∧Hid (∀j,j<k→l.getD j (0,0)≠(i,q))∧Hid (Below X.heap.size X wr)) (fun s8 _=>l.length-(intOf s8).toNat)
 case atStart=>exact⟨0,Nat.zero_le _,rfl,fun j hj=>absurd hj (Nat.not_lt_zero _),Below.refl _ _⟩
 case round =>
  obtain⟨k,hk,rfl,HN,HW⟩:=hrel
  have HB:Hid (Below w.heap.size w wr):=HA.out.trans (HW.out.mono HA.out.size)
  by_cases hlt:k<l.length
  ·obtain⟨b,off,rfl,e0,e1⟩:=(HP.out wr HB.out).cells k hlt
   have hb3:=HQ.out wr HW.out
   have q0:=cellC hb3 0 rfl
   have q1:=cellC hb3 1 rfl
   have ql:=lt1 hb3
   clear hb3
   have hbr:b<wr.heap.size:=wlt e0
   have hkl:(k:Int)<(l.length:Int):=by omega
   have HM:Hid ((i,q)=l.getD k (0,0)→(i,q)∈l):=fun e=>by rw[e];exact getD_mem l (0,0) k hlt
   have HN1:Hid (¬(i,q)=l.getD k (0,0)→∀j,j<k+1→l.getD j (0,0)≠(i,q)):=fun hne j hj=>by
    rcases Nat.lt_or_ge j k with h|h
    ·exact HN.out j h
    ·obtain rfl:j=k:=by omega
     exact fun e=>hne e.symm
   clear HN
   generalize l.getD k (0,0)=x at *
   obtain⟨x1,x2⟩:=x
   simp only at e0 e1
   by_cases he:(i,q)=(x1,x2)
   ·obtain⟨rfl,rfl⟩:i=x1∧q=x2:=by cases he;exact⟨rfl,rfl⟩
    have heq:∀W,(Op.equalIn 10000 69 (.agg #[.int .i64 (i:Nat),.int .i64 (q:Nat)]) (.agg #[.int .i64 (i:Nat),.int .i64 (q:Nat)])).run Tryz.prog W=.ok true W:=fun W=>by rw[show (10000:Nat)=9998+1+1 from rfl,eqPrIn];simp
    have HM1:=HM.out rfl
    clear HM HN1 he
    go_upto_region 4 with fail
    go_region
    go_wp2_with fail
    go_ret
    exact⟨⟨_,rfl,fun _=>HM1,fun _=>by omega⟩,HB.out.drew⟩
   ·have hR:(((i:Int)==(x1:Int))&&((q:Int)==(x2:Int)))=false:=by
     cases h1:((i:Int)==(x1:Int))
     ·rfl
     ·cases h2:((q:Int)==(x2:Int))
      ·rfl
      ·exact absurd (by simp at h1 h2;rw[Int.ofNat.inj h1,Int.ofNat.inj h2]) he
    have heq:∀W,(Op.equalIn 10000 69 (.agg #[.int .i64 (i:Nat),.int .i64 (q:Nat)]) (.agg #[.int .i64 (x1:Nat),.int .i64 (x2:Nat)])).run Tryz.prog W=.ok false W:=fun W=>by rw[show (10000:Nat)=9998+1+1 from rfl,eqPrIn,hR]
    clear hR
    have HN2:=HN1.out he
    have HN3:Hid _:=HN2
    clear HM HN1 he HN2
    go_upto_region 4 with fail
    go_region
    go_wp2_with fail
    go_roundw
    case rel=>exact⟨k+1,by omega,by go_num,HN3.out,HW.out.drew⟩
    case measure=>simp[intOf];omega
  ·have HM:Hid (¬(i,q)∈l):=fun hm=>by
    obtain⟨j,hj,e⟩:=List.mem_iff_getElem.1 hm
    exact HN.out j (by omega) (by rw[List.getD_eq_getElem?_getD,List.getElem?_eq_getElem hj];exact e)
   obtain rfl:k=l.length:=by omega
   clear HN
   go_wp2_with fail
   go_ret
   exact⟨⟨_,rfl,fun h=>absurd h (by decide),fun h=>absurd h HM.out⟩,HB.out⟩
theorem hasPr_any(l:List (Nat × Nat))(i q:Nat)(a:Option Addr)(c:Nat)(w:World)(h:PrsAt w (.slice a l.length c) l) :
  Calls Tryz.prog 28 #[.slice a l.length c,.agg #[.int .i64 (i:Nat),.int .i64 (q:Nat)]] w fun e w'=>e=.returned (.bool (decide ((i,q)∈l)))∧Below w.heap.size w w':=by
 have hA:=bra w (.cells #[.int .i64 (i:Nat),.int .i64 (q:Nat)] 69)
 have HA:Hid _:=hA
 have KI:Hid (Calls Tryz.prog 65 #[.slice a l.length c,.agg #[.int .i64 (i:Nat),.int .i64 (q:Nat)]] (w.alloc (.cells #[.int .i64 (i:Nat),.int .i64 (q:Nat)] 69)) fun e w'=>(∃n:Int,e=.returned (.int .i64 n)∧(0≤n↔(i,q)∈l))∧Below (w.alloc (.cells #[.int .i64 (i:Nat),.int .i64 (q:Nat)] 69)).heap.size (w.alloc (.cells #[.int .i64 (i:Nat),.int .i64 (q:Nat)] 69)) w'):=indexPr_any l i q a c _ (h.later hA)
 have hag:=Tryz.isAgg69
 have hsz:=Tryz.sizeOf69
 clear h hA
 go_enter Tryz.func28,Tryz.ntmps28
 go_wp2_with (go_at_call 65;refine KI.out.mono ?_;rintro e w1 ⟨⟨n,rfl,hn⟩,hb1⟩)
 go_ret
 refine⟨?_,HA.out.trans (hb1.mono HA.out.size)⟩
 by_cases hm:(i,q)∈l
 ·simp[hm]
 ·simp[hm]
end Go.Proofs.YtpkfmfhodbjckaaGreatDoor
namespace Go.Proofs.YtpkfmfhodbjckaaGreatDoor
open Go Go.RowKit Go.Maps
theorem zeroB(w:World):(zeroValue 4).run Tryz.prog w=.ok (.bool false) w:=by kernel_rfl
def BAt (w:World) (b N:Nat) (S:M.BSet):Prop :=
 ∃n D,n≤N∧w.ownsMap (H:=Unit) Tryz.prog 9 (plainElem Tryz.prog 4) b n D∧IsMap D∧∀s,D.atKey (.string s) (.lit (.bool false))=.lit (.bool (S s))
theorem BAt.mono{w:World}{b N N':Nat}{S:M.BSet}(h:BAt w b N S)(hn:N≤N'):BAt w b N' S :=
 let ⟨n,D,h1,h2⟩:=h
 ⟨n,D,Nat.le_trans h1 hn,h2⟩
theorem BAt.later{w w':World}{b N:Nat}{S:M.BSet}(h:BAt w b N S)(hb:Below w.heap.size w w'):BAt w' b N S:=by
 obtain⟨n,D,h1,⟨es,clock,hm,h3⟩,h4⟩:=h
 exact⟨n,D,h1,⟨es,clock,(hb.block b (lt1 hm)).trans hm,h3⟩,h4⟩
theorem BAt.kept{w w':World}{b b' N:Nat}{S:M.BSet}(h:BAt w b N S)(hb:w.grownBy w' (some b'))(hr:b'≠b):BAt w' b N S:=by
 obtain⟨n,D,h1,⟨es,clock,hm,h3⟩,h4⟩:=h
 exact⟨n,D,h1,⟨es,clock,(hb.block b (lt1 hm) (fun e=>hr (by cases e;rfl))).trans hm,h3⟩,h4⟩
theorem BAt.lt{w:World}{b N:Nat}{S:M.BSet}(h:BAt w b N S):b<w.heap.size:=by
 obtain⟨n,D,h1,⟨es,clock,hm,h3⟩,h4⟩:=h
 exact(lt1 hm)
theorem BAt.nil(w:World):BAt (w.alloc (.map #[] 0)) w.heap.size 0 M.noNames :=
 ⟨0,.map [],Nat.le_refl _,World.ownsMap_made _ _ _ _,isMap_empty,fun s=>rfl⟩
theorem plainB_inv{P:Program}{e:TypeId}(he:P.underlying e=some .bool){v:Value}{x:Bool}{ps:List MemPlace}(h:plainElem (H:=Unit) P e v=some (.lit (.bool x),ps)):v=.bool x:=by
 unfold plainElem at h
 rw[he] at h
 cases v<;>simp at h
 exact congrArg _ h.1
theorem BAt.look{w:World}{b N:Nat}{S:M.BSet}(h:BAt w b N S)(s:ByteArray)(hs:s.size≤maxLen) :
  (Instr.lookup 66 (.map (some b)) (.string s) false).run Tryz.prog w=.ok (.bool (S s.data.toList)) w:=by
 obtain⟨n,D,h1,hown,_,hat⟩:=h
 obtain⟨v,ps,hrun,hc⟩:=hown.lookup keyS Tryz.underlying66 (zeroB w) (plainElem_bool Tryz.underlying4 false) (WideMaps.keyOf_string_mk Tryz.underlying9 hs)
 rw[hat] at hc
 rw[hrun,plainB_inv Tryz.underlying4 hc]
theorem BAt.put{w:World}{b N:Nat}{S:M.BSet}(h:BAt w b N S)(hN:N<maxLen)(s:ByteArray)(hs:s.size≤maxLen) :
  ∃w',(Instr.mapUpdate 66 (.map (some b)) (.string s) (.bool true)).run Tryz.prog w=.ok () w'∧BAt w' b (N+1) (S.put s)∧w.grownBy w' (some b):=by
 obtain⟨n,D,h1,hown,him,hat⟩:=h
 obtain⟨w',hrun,ho,hg⟩:=hown.update keyS Tryz.underlying66 (Nat.lt_of_le_of_lt h1 hN) (WideMaps.keyOf_string_mk Tryz.underlying9 hs) (plainElem_bool Tryz.underlying4 true)
 refine⟨w',hrun,⟨n+1,_,by omega,ho,him.put _ _,fun t=>?_⟩,hg⟩
 by_cases e:t=s.data.toList
 ·subst e
  rw[atKey_put_same him (by trivial)]
  simp[M.BSet.put]
 ·rw[atKey_put_other (fun e'=>e (by injection e')),hat]
  simp[M.BSet.put,e]
theorem Kp.set{w w':World}{b N:Nat}{S:M.BSet}(h:BAt w b N S)(hg:w.grownBy w' (some b)):Kp w w':=fun a u hu=>by
 have hne:a.block≠b:=fun e=>by
  obtain⟨n,D,h1,⟨es,clock,hm,h3⟩,h4⟩:=h
  unfold World.cell? at hu
  rw[e,hm] at hu
  cases hu
 rw[cell_of_block (hg.block a.block (wlt hu) (fun e=>hne (by cases e;rfl)))]
 exact hu
structure EnAt (W:World) (n9 n12 bL bH N:Nat) (st:M.St):Prop where
 c9:W.cell? ⟨n9,0,none⟩=some (.map (some bL))
 c12:W.cell? ⟨n12,0,none⟩=some (.map (some bH))
 ne:bL≠bH
 ex:∃L H,BAt W bL N L∧BAt W bH N H∧M.Rl L H st
theorem EnAt.later{W X:World}{n9 n12 bL bH N:Nat}{st:M.St}(h:EnAt W n9 n12 bL bH N st)(hb:Below W.heap.size W X):EnAt X n9 n12 bL bH N st :=
 let ⟨L,H,h1,h2,h3⟩:=h.ex
 ⟨cell_later hb h.c9,cell_later hb h.c12,h.ne,L,H,h1.later hb,h2.later hb,h3⟩
theorem addAll_take(S:M.BSet)(l:List ByteArray)(k:Nat)(h:k<l.length):M.addAll S (l.take (k+1))=(M.addAll S (l.take k)).put (l.getD k str0):=by
 unfold M.addAll
 rw[List.take_succ_eq_append_getElem h,List.foldl_append,List.getD_eq_getElem?_getD,List.getElem?_eq_getElem h]
 rfl
end Go.Proofs.YtpkfmfhodbjckaaGreatDoor
namespace Go.Proofs.YtpkfmfhodbjckaaGreatDoor.M
def BSet.drop (S:BSet) (n:ByteArray):BSet:=fun x=>if x=n.data.toList then false else S x
def delAll (S:BSet) (l:List ByteArray):BSet:=l.foldl BSet.drop S
theorem delAll_iff:∀(l:List ByteArray) (S:BSet) (x:List UInt8),delAll S l x=true↔S x=true∧∀n∈l,x≠n.data.toList
 | [],S,x=>by simp[delAll]
 | m::l,S,x=>by
  show delAll (S.drop m) l x=true↔_
  rw[delAll_iff l (S.drop m) x]
  unfold BSet.drop
  by_cases e:x=m.data.toList
  ·simp[e]
  ·simp[e]
theorem delAll_at(l:List ByteArray)(S:BSet)(x:List UInt8):delAll S l x=(S x&&!addAll noNames l x):=by
 have h1:=delAll_iff l S x
 have h2:=addAll_at l noNames x
 cases h3:addAll noNames l x
 ·cases h4:S x
  ·cases h5:delAll S l x
   ·rfl
   ·rw[h5] at h1;have:=(h1.1 rfl).1;rw[h4] at this;cases this
  ·have:delAll S l x=true:=h1.2 ⟨h4,fun n hn e=>by
    rw[h3] at h2;exact absurd (h2.2 (.inr ⟨n,hn,e⟩)) (by simp)⟩
   rw[this];rfl
 ·rw[h3] at h2
  rcases h2.1 rfl with h|⟨n,hn,e⟩
  ·cases h
  ·cases h5:delAll S l x
   ·simp
   ·rw[h5] at h1;exact absurd e ((h1.1 rfl).2 n hn)
theorem delAll_take(S:BSet)(l:List ByteArray)(k:Nat)(h:k<l.length):delAll S (l.take (k+1))=(delAll S (l.take k)).drop (l.getD k str0):=by
 unfold delAll
 rw[List.take_succ_eq_append_getElem h,List.foldl_append,List.getD_eq_getElem?_getD,List.getElem?_eq_getElem h]
 rfl
theorem delAll_append(S:BSet)(l l':List ByteArray):delAll S (l++l')=delAll (delAll S l) l':=by
 unfold delAll;rw[List.foldl_append]
theorem flat_take{α:Type}(l:List Prt)(g:Prt→List α)(k:Nat)(h:k<l.length):(l.take (k+1)).flatMap g=(l.take k).flatMap g++g (l.getD k nil):=by
 rw[List.take_succ_eq_append_getElem h,List.flatMap_append,List.getD_eq_getElem?_getD,List.getElem?_eq_getElem h]
 simp
def lackSet (first:List ByteArray) (out:List Prt):BSet:=delAll (addAll noNames (first++out.flatMap wanted)) (out.flatMap defined)
theorem lackSet_helps(first:List ByteArray)(out:List Prt)(d:Dfn):helps (enterAll (firstAll first) out) d=(d.kind !=3&&lackSet first out d.name.data.toList):=by
 rw[(lack_anew first out).helps d,lackSet,delAll_at,Bool.and_assoc]
end Go.Proofs.YtpkfmfhodbjckaaGreatDoor.M
namespace Go.Proofs.YtpkfmfhodbjckaaGreatDoor
open Go Go.RowKit Go.Maps
theorem BAt.cut{w':World}{b N n:Nat}{S:M.BSet}{D:DataW Unit}{s:ByteArray}(h1:n≤N)(him:IsMap D)(hat:∀s,D.atKey (.string s) (.lit (.bool false))=.lit (.bool (S s)))
  (ho:w'.ownsMap (H:=Unit) Tryz.prog 9 (plainElem Tryz.prog 4) b n (D.del (.string s.data.toList))):BAt w' b N (S.drop s):=by
 refine⟨n,_,h1,ho,him.del _,fun t=>?_⟩
 by_cases e:t=s.data.toList
 ·subst e
  rw[atKey_del_same]
  simp[M.BSet.drop]
 ·rw[atKey_del_other (fun e'=>e (by injection e')),hat]
  simp[M.BSet.drop,e]
theorem lacking_any(first:List ByteArray)(out:List M.Prt)(aF aO:Option Addr)(cF cO b3 b4:Nat)(w:World)(h3:w.cell? ⟨b3,0,none⟩=some (.slice aF first.length cF))(h4:w.cell? ⟨b4,0,none⟩=some (.slice aO out.length cO))
  (hf:StrsAt w (.slice aF first.length cF) first) (ho:PartsAt w (.slice aO out.length cO) out) (hok:∀p∈out,M.Ok p) (hfl:first.length≤12) (hol:out.length≤200) :
  Calls Tryz.prog 25 #[.pointer (some ⟨b3,0,none⟩),.pointer (some ⟨b4,0,none⟩)] w fun e w'=>Below w.heap.size w w'∧∃g N,e=.returned (.map (some g))∧BAt w' g N (M.lackSet first out):=by
 have hmm:=@run_makeMap Tryz.prog
 have HIn:Hid (∀W,Below w.heap.size w W→W.cell? ⟨b3,0,none⟩=some (.slice aF first.length cF)∧W.cell? ⟨b4,0,none⟩=some (.slice aO out.length cO)∧StrsAt W (.slice aF first.length cF) first∧PartsAt W (.slice aO out.length cO) out):=fun W hW=>⟨cell_later hW h3,cell_later hW h4,hf.later hW,ho.later hW⟩
 have Hok:Hid (∀p∈out,M.Ok p):=hok
 obtain⟨g,hg⟩:∃g,g=w.heap.size:=⟨_,rfl⟩
 have hA:=bra w (.map #[] 0)
 have HB0:Hid (Below w.heap.size w (w.alloc (.map #[] 0))):=hA
 have HS0:Hid (BAt (w.alloc (.map #[] 0)) g 0 (M.addAll M.noNames (first.take 0))):=by rw[hg];exact BAt.nil w
 have Hg:Hid (w.heap.size≤g):=by rw[hg];exact Nat.le_refl _
 have c3:=cell_later hA h3
 have l3:=wlt c3
 clear h3 h4 hf ho hok hA
 go_enter Tryz.func25,Tryz.ntmps25
 go_upto_region 3 with fail
 rw[←hg]
 clear hmm
 generalize w.alloc (.map #[] 0)=X at *
 clear c3 l3 hg
 go_loopw [17] (fun s17 wr=>∃(k:Nat),k≤first.length∧s17=.int .i64 k∧Hid (BAt wr g k (M.addAll M.noNames (first.take k)))∧Hid (Below w.heap.size w wr)) (fun s17 _=>first.length-(intOf s17).toNat)
 case atStart=>exact⟨0,Nat.zero_le _,rfl,HS0,HB0⟩
 case round =>
  obtain⟨k,hk,rfl,HS,HB⟩:=hrel
  clear HS0 HB0
  by_cases hlt:k<first.length
  ·have hst:=(HIn.out wr HB.out).2.2.1
   obtain⟨bb,off,rfl,hc,hbb⟩:=hst.cell k hlt
   have hsn:=hst.2 _ (getD_mem first str0 k hlt)
   obtain⟨w3,hrun,hS,hgr⟩:=HS.out.put (by unfold maxLen;omega) (first.getD k str0) hsn
   have hkl:(k:Int)<(first.length:Int):=by omega
   have HP:Hid (BAt w3 g (k+1) (M.addAll M.noNames (first.take (k+1)))∧Below w.heap.size w w3):=by
    rw[addAll_take M.noNames first k hlt]
    exact⟨hS,HB.out.grown hgr HB.out.size (fun j hj=>by cases hj;exact Hg.out)⟩
   clear hS hgr hsn HS hst
   generalize first.getD k str0=s at *
   go_wp2_with fail
   go_roundw
   case rel=>exact⟨k+1,by omega,by go_num,HP.out.1,HP.out.2⟩
   case measure=>simp[intOf];omega
  ·obtain rfl:k=first.length:=by omega
   have HS1:Hid (BAt wr g (12+480*0) (M.addAll M.noNames (first++(out.take 0).flatMap M.wanted))):=by
    have:=HS.out
    rw[List.take_length] at this
    rw[List.take_zero,List.flatMap_nil,List.append_nil]
    exact this.mono (by omega)
   have c4:=(HIn.out wr HB.out).2.1
   have l4:=wlt c4
   clear HS hlt hk
   go_upto_region 8 with fail
   clear c4 l4
   go_loopw [26] (fun s26 wx=>∃(k:Nat),k≤out.length∧s26=.int .i64 k∧Hid (BAt wx g (12+480*k) (M.addAll M.noNames (first++(out.take k).flatMap M.wanted)))∧Hid (Below w.heap.size w wx)) (fun s26 _=>out.length-(intOf s26).toNat)
   case atStart=>exact⟨0,Nat.zero_le _,rfl,HS1,HB⟩
   case round =>
    obtain⟨k,hk,rfl,HS,HBx⟩:=hrel
    clear HS1 HB
    by_cases hlt:k<out.length
    ·obtain⟨bb,off,x1,y1,x2,y2,rfl,e0,e1,hS⟩:=parts_cell (HIn.out wr HBx.out).2.2.2 rfl k hlt
     have hpo:=Hok.out _ (getD_mem out M.nil k hlt)
     have hbr:bb<wr.heap.size:=wlt e0
     have hkl:(k:Int)<(out.length:Int):=by omega
     have HN:Hid (M.addAll M.noNames (first++(out.take (k+1)).flatMap M.wanted)=M.addAll (M.addAll M.noNames (first++(out.take k).flatMap M.wanted)) (M.wanted (out.getD k M.nil))):=by
      rw[Hid,M.flat_take out M.wanted k hlt,←List.append_assoc,M.addAll_append]
     have hwl:=ar_wanted_len hpo
     generalize M.addAll M.noNames (first++(out.take k).flatMap M.wanted)=S at *
     generalize out.getD k M.nil=p at *
     have hAl:=bra wr (.cells #[.slice x1 p.frags.length y1,.slice x2 p.defs.length y2] 43)
     have hq:=heap_alloc_new wr (.cells #[.slice x1 p.frags.length y1,.slice x2 p.defs.length y2] 43)
     have HBA:Hid (Below w.heap.size w (wr.alloc (.cells #[.slice x1 p.frags.length y1,.slice x2 p.defs.length y2] 43))):=HBx.out.trans (hAl.mono HBx.out.size)
     have HSA:Hid (BAt (wr.alloc (.cells #[.slice x1 p.frags.length y1,.slice x2 p.defs.length y2] 43)) g (12+480*k) S):=HS.out.later hAl
     have KW:Hid (Calls Tryz.prog 26 #[.agg #[.slice x1 p.frags.length y1,.slice x2 p.defs.length y2]] (wr.alloc (.cells #[.slice x1 p.frags.length y1,.slice x2 p.defs.length y2] 43)) fun e w'=>Below (wr.alloc (.cells #[.slice x1 p.frags.length y1,.slice x2 p.defs.length y2] 43)).heap.size (wr.alloc (.cells #[.slice x1 p.frags.length y1,.slice x2 p.defs.length y2] 43)) w'∧∃x y,e=.returned (.slice x (M.wanted p).length y)∧StrsAt w' (.slice x (M.wanted p).length y) (M.wanted p)) :=
      (wantedBy_any p.frags x1 x2 p.defs.length y1 y2 _ (hS.fr.later hAl) hpo.nf (ok_rels hpo) (M.wanted p) rfl).mono fun e w' ⟨j1,x,y,B,j2,j3,j4,j5,j6⟩=>⟨j1,x,y,j2,row_strs j3 j5⟩
     clear hS hAl hpo HS HBx
     go_upto_region 10 with fail
     clear e0 e1 hbr
     obtain⟨nz,hnz⟩:∃nz,nz=wr.heap.size:=⟨_,rfl⟩
     rw[←hnz] at hq ⊢
     clear hnz
     generalize wr.alloc (.cells #[.slice x1 p.frags.length y1,.slice x2 p.defs.length y2] 43)=Z at *
     have q0:=cellB hq 0
     have q1:=cellC hq 1 rfl
     have q0:=cellC hq 0 rfl
     have ql:=lt1 hq
     clear hq
     generalize M.wanted p=Wn at *
     go_upto_region 11 with (go_at_call 26;refine KW.out.mono ?_;rintro e w1 ⟨hb1,aw,cw,rfl,hW1⟩)
     have HW1:Hid (StrsAt w1 (.slice aw Wn.length cw) Wn):=hW1
     have HB1:Hid (Below w.heap.size w w1):=HBA.out.trans (hb1.mono HBA.out.size)
     have HS1:Hid (BAt w1 g (12+480*k+0) (M.addAll S (Wn.take 0))):=HSA.out.later hb1
     clear KW hb1 hW1 HBA HSA q0 q1 ql
     go_loopw [33] (fun s33 wr=>∃(j:Nat),j≤Wn.length∧s33=.int .i64 j∧Hid (BAt wr g (12+480*k+j) (M.addAll S (Wn.take j))∧Kp w1 wr∧Below w.heap.size w wr)) (fun s33 _=>Wn.length-(intOf s33).toNat)
     case atStart=>exact⟨0,Nat.zero_le _,rfl,HS1.out,Kp.refl _,HB1.out⟩
     case round =>
      obtain⟨j,hj,rfl,HI⟩:=hrel
      clear HS1 HB1
      by_cases hjt:j<Wn.length
      ·obtain⟨b2,off2,rfl,hc,hbb⟩:=(HW1.out.kp HI.out.2.1).cell j hjt
       have hsn:=HW1.out.2 _ (getD_mem Wn str0 j hjt)
       obtain⟨w3,hrun,hS,hgr⟩:=HI.out.1.put (by unfold maxLen;omega) (Wn.getD j str0) hsn
       have hjl:(j:Int)<(Wn.length:Int):=by omega
       have HP:Hid (BAt w3 g (12+480*k+j+1) (M.addAll S (Wn.take (j+1)))∧Kp w1 w3∧Below w.heap.size w w3):=by
        rw[addAll_take S Wn j hjt]
        exact⟨hS,HI.out.2.1.trans (Kp.set HI.out.1 hgr),HI.out.2.2.grown hgr HI.out.2.2.size (fun i hi=>by cases hi;exact Hg.out)⟩
       clear hS hgr hsn HI
       generalize Wn.getD j str0=s at *
       go_wp2_with fail
       go_roundw
       case rel=>exact⟨j+1,by omega,by go_num,HP.out⟩
       case measure=>simp[intOf];omega
      ·obtain rfl:j=Wn.length:=by omega
       have HS2:Hid (BAt wr g (12+480*(k+1)) (M.addAll M.noNames (first++(out.take (k+1)).flatMap M.wanted))∧Below w.heap.size w wr):=by
        have:=HI.out
        rw[List.take_length] at this
        rw[HN.out]
        exact⟨this.1.mono (by omega),this.2.2⟩
       clear HI HN HW1
       go_wp2_with fail
       go_roundw
       case rel=>exact⟨k+1,by omega,by go_num,HS2.out.1,HS2.out.2⟩
       case measure=>simp[intOf];omega
    ·obtain rfl:k=out.length:=by omega
     have HS1:Hid (BAt wr g 100000 (M.delAll (M.addAll M.noNames (first++out.flatMap M.wanted)) ((out.take 0).flatMap M.defined))):=by
      have:=HS.out
      rw[List.take_length] at this
      exact this.mono (by omega)
     have HLk:Hid (M.lackSet first out=M.delAll (M.addAll M.noNames (first++out.flatMap M.wanted)) (out.flatMap M.defined)):=rfl
     generalize M.addAll M.noNames (first++out.flatMap M.wanted)=S0 at *
     have HS0e:Hid (M.lackSet first out=M.delAll S0 (out.flatMap M.defined)):=HLk
     clear HLk
     have c4:=(HIn.out wr HBx.out).2.1
     have l4:=wlt c4
     clear HS hlt hk
     go_upto_region 17 with fail
     clear c4 l4
     go_loopw [43] (fun s43 wr=>∃(k:Nat),k≤out.length∧s43=.int .i64 k∧Hid (BAt wr g 100000 (M.delAll S0 ((out.take k).flatMap M.defined)))∧Hid (Below w.heap.size w wr)) (fun s43 _=>out.length-(intOf s43).toNat)
     case atStart=>exact⟨0,Nat.zero_le _,rfl,HS1,HBx⟩
     case round =>
      obtain⟨k,hk,rfl,HS,HB⟩:=hrel
      clear HS1 HBx
      by_cases hlt:k<out.length
      ·obtain⟨bb,off,x1,y1,x2,y2,rfl,e0,e1,hS⟩:=parts_cell (HIn.out wr HB.out).2.2.2 rfl k hlt
       have hpo:=Hok.out _ (getD_mem out M.nil k hlt)
       have hbr:bb<wr.heap.size:=wlt e0
       have hkl:(k:Int)<(out.length:Int):=by omega
       have HN:Hid (M.delAll S0 ((out.take (k+1)).flatMap M.defined)=M.delAll (M.delAll S0 ((out.take k).flatMap M.defined)) (M.defined (out.getD k M.nil))):=by
        rw[Hid,M.flat_take out M.defined k hlt,M.delAll_append]
       generalize M.delAll S0 ((out.take k).flatMap M.defined)=S at *
       generalize out.getD k M.nil=p at *
       have hAl:=bra wr (.cells #[.slice x1 p.frags.length y1,.slice x2 p.defs.length y2] 43)
       have hq:=heap_alloc_new wr (.cells #[.slice x1 p.frags.length y1,.slice x2 p.defs.length y2] 43)
       have HBA:Hid (Below w.heap.size w (wr.alloc (.cells #[.slice x1 p.frags.length y1,.slice x2 p.defs.length y2] 43))):=HB.out.trans (hAl.mono HB.out.size)
       have HSA:Hid (BAt (wr.alloc (.cells #[.slice x1 p.frags.length y1,.slice x2 p.defs.length y2] 43)) g 100000 S):=HS.out.later hAl
       have KD:Hid (Calls Tryz.prog 27 #[.agg #[.slice x1 p.frags.length y1,.slice x2 p.defs.length y2]] (wr.alloc (.cells #[.slice x1 p.frags.length y1,.slice x2 p.defs.length y2] 43)) fun e w'=>Below (wr.alloc (.cells #[.slice x1 p.frags.length y1,.slice x2 p.defs.length y2] 43)).heap.size (wr.alloc (.cells #[.slice x1 p.frags.length y1,.slice x2 p.defs.length y2] 43)) w'∧∃x y,e=.returned (.slice x (M.defined p).length y)∧StrsAt w' (.slice x (M.defined p).length y) (M.defined p)∧(M.defined p).length≤60) :=
        (definedBy_any p.defs x1 x2 p.frags.length y1 y2 _ (hS.df.later hAl) hpo.nd (M.defined p) rfl).mono fun e w' ⟨j1,x,y,B,j2,j3,j4,j5,j6⟩=>⟨j1,x,y,j2,row_strs j3 j5,j6⟩
       clear hS hAl hpo HS HB
       go_upto_region 19 with fail
       clear e0 e1 hbr
       obtain⟨nz,hnz⟩:∃nz,nz=wr.heap.size:=⟨_,rfl⟩
       rw[←hnz] at hq ⊢
       clear hnz
       generalize wr.alloc (.cells #[.slice x1 p.frags.length y1,.slice x2 p.defs.length y2] 43)=Z at *
       have q1:=cellC hq 1 rfl
       have q0:=cellC hq 0 rfl
       have ql:=lt1 hq
       clear hq
       generalize M.defined p=Dn at *
       go_upto_region 20 with (go_at_call 27;refine KD.out.mono ?_;rintro e w1 ⟨hb1,aw,cw,rfl,hW1,hdl⟩)
       have HW1:Hid (StrsAt w1 (.slice aw Dn.length cw) Dn):=hW1
       have HB1:Hid (Below w.heap.size w w1):=HBA.out.trans (hb1.mono HBA.out.size)
       have HS1:Hid (BAt w1 g 100000 (M.delAll S (Dn.take 0))):=HSA.out.later hb1
       clear KD hb1 hW1 HBA HSA q0 q1 ql
       go_loopw [50] (fun s50 wr=>∃(j:Nat),j≤Dn.length∧s50=.int .i64 j∧Hid (BAt wr g 100000 (M.delAll S (Dn.take j))∧Kp w1 wr∧Below w.heap.size w wr)) (fun s50 _=>Dn.length-(intOf s50).toNat)
       case atStart=>exact⟨0,Nat.zero_le _,rfl,HS1.out,Kp.refl _,HB1.out⟩
       case round =>
        obtain⟨j,hj,rfl,HI⟩:=hrel
        clear HS1 HB1
        by_cases hjt:j<Dn.length
        ·obtain⟨b2,off2,rfl,hc,hbb⟩:=(HW1.out.kp HI.out.2.1).cell j hjt
         have hsn:=HW1.out.2 _ (getD_mem Dn str0 j hjt)
         have hjl:(j:Int)<(Dn.length:Int):=by omega
         have HT:Hid (M.delAll S (Dn.take (j+1))=(M.delAll S (Dn.take j)).drop (Dn.getD j str0)):=M.delAll_take S Dn j hjt
         generalize Dn.getD j str0=s at *
         have hkey:keyOf Tryz.prog 9 (.string s)=some (.string s.data.toList):=WideMaps.keyOf_string_mk Tryz.underlying9 hsn
         obtain⟨n,D,hn,hown,him,hat⟩:=HI.out.1
         have HD:Hid (n≤100000∧IsMap D∧∀s,D.atKey (.string s) (.lit (.bool false))=.lit (.bool (M.delAll S (Dn.take j) s))):=⟨hn,him,hat⟩
         clear hn him hat hsn
         go_wp2_with (at_delete;refine wpList_delete_own _ rfl _ _ 66 9 rfl 4 keyS Tryz.underlying66 _ g n D rfl hown _ _ rfl hkey ?_;intro w3 hown3 hturn3)
         go_roundw
         case rel =>
          refine⟨j+1,by omega,by go_num,?_,HI.out.2.1.trans (Kp.set HI.out.1 hturn3.grown),HI.out.2.2.grown hturn3.grown HI.out.2.2.size (fun i hi=>by cases hi;exact Hg.out)⟩
          rw[HT.out]
          exact BAt.cut HD.out.1 HD.out.2.1 HD.out.2.2 hown3
         case measure=>simp[intOf];omega
        ·obtain rfl:j=Dn.length:=by omega
         have HS2:Hid (BAt wr g 100000 (M.delAll S0 ((out.take (k+1)).flatMap M.defined))∧Below w.heap.size w wr):=by
          have:=HI.out
          rw[List.take_length] at this
          rw[HN.out]
          exact⟨this.1,this.2.2⟩
         clear HI HN HW1
         go_wp2_with fail
         go_roundw
         case rel=>exact⟨k+1,by omega,by go_num,HS2.out.1,HS2.out.2⟩
         case measure=>simp[intOf];omega
      ·obtain rfl:k=out.length:=by omega
       have HS2:Hid (BAt wr g 100000 (M.lackSet first out)):=by
        have:=HS.out
        rw[List.take_length] at this
        rw[HS0e.out]
        exact this
       clear HS HS0e
       go_wp2_with fail
       go_ret
       exact⟨HB.out,g,100000,rfl,HS2.out⟩
end Go.Proofs.YtpkfmfhodbjckaaGreatDoor
namespace Go.Proofs.YtpkfmfhodbjckaaGreatDoor
open Go Go.RowKit
structure ChS (w0:World) (B b3 b4:Nat) (vF:Value) (W:World) (u vO vP:Value) (es:List PEnt) (prs:List (Nat × Nat)):Prop where
 bel:Below w0.heap.size w0 W
 bs:B≤W.heap.size
 c3:W.heap[b3]?=some (.cells #[vF] 39 (0,0))
 c4:W.heap[b4]?=some (.cells #[u] 35 (0,0))
 rowO:W.ownsRow B 43 2 vO es.length (es.flatMap pentCells)
 rowP:W.ownsRow B 69 2 vP prs.length (prs.flatMap encPr)
 ent:∀e∈es,FragsAt w0 e.vF e.p.frags∧DefsAt w0 e.vD e.p.defs
section
variable {w0 W X : World} {B b3 b4 : Nat} {vF u vO vP v1 : Value} {es : List PEnt} {prs : List (Nat × Nat)}
theorem ChS.later(h:ChS w0 B b3 b4 vF W u vO vP es prs)(hb:Below W.heap.size W X):ChS w0 B b3 b4 vF X u vO vP es prs :=
 have hg:=grown_of_below hb none
 ⟨h.bel.trans (hb.mono h.bel.size),Nat.le_trans h.bs hb.size,blk hb h.c3,blk hb h.c4,h.rowO.kept hg own_self,h.rowP.kept hg own_self,h.ent⟩
theorem ChS.growO{e:PEnt}(h:ChS w0 B b3 b4 vF W u vO vP es prs)(hB:w0.heap.size≤B)(hg:W.grownBy X vO.ownBlock)(hr:X.ownsRow B 43 2 v1 (es.length+1) (es.flatMap pentCells++pentCells e))(he:FragsAt w0 e.vF e.p.frags∧DefsAt w0 e.vD e.p.defs):ChS w0 B b3 b4 vF X u v1 vP (es++[e]) prs:=by
 refine⟨h.bel.grown hg h.bel.size (fun k hk=>Nat.le_trans hB (h.rowO.lt k hk).1),Nat.le_trans h.bs hg.size,block_kept h.rowO hg h.c3 (by decide),block_kept h.rowO hg h.c4 (by decide),?_,h.rowP.kept hg (own_apart h.rowP h.rowO (by decide)),fun x hx=>?_⟩
 ·rw[List.length_append,List.flatMap_append]
  simpa [List.flatMap_cons] using hr
 ·rcases List.mem_append.1 hx with hx|hx
  ·exact h.ent x hx
  ·rw[List.mem_singleton.1 hx];exact he
theorem ChS.growP{x:Nat × Nat}(h:ChS w0 B b3 b4 vF W u vO vP es prs)(hB:w0.heap.size≤B)(hg:W.grownBy X vP.ownBlock)(hr:X.ownsRow B 69 2 v1 (prs.length+1) (prs.flatMap encPr++encPr x)):ChS w0 B b3 b4 vF X u vO v1 es (prs++[x]):=by
 refine⟨h.bel.grown hg h.bel.size (fun k hk=>Nat.le_trans hB (h.rowP.lt k hk).1),Nat.le_trans h.bs hg.size,block_kept h.rowP hg h.c3 (by decide),block_kept h.rowP hg h.c4 (by decide),h.rowO.kept hg (own_apart h.rowO h.rowP (by decide)),?_,h.ent⟩
 rw[List.length_append,List.flatMap_append]
 simpa [List.flatMap_cons] using hr
theorem ChS.store(h:ChS w0 B b3 b4 vF W u vO vP es prs)(h4:w0.heap.size≤b4)(h34:b3≠b4)(v:Value):ChS w0 B b3 b4 vF (W.setCell ⟨b4,0,none⟩ v) v vO vP es prs :=
 have hg:=grown_set W b4 0 v
 ⟨h.bel.setCell h4 _,Nat.le_trans h.bs hg.size,(Below.heap_setCell _ _ _ _ h34).trans h.c3,setB' h.c4 _,h.rowO.kept hg (own_ne h.rowO h.c4 (by decide)),h.rowP.kept hg (own_ne h.rowP h.c4 (by decide)),h.ent⟩
theorem ChS.parts(h:ChS w0 B b3 b4 vF W u vO vP es prs):PartsAt W vO (es.map (·.p)) :=
 parts_of (row_slice pent0 pentCells (fun _=>rfl) es h.rowO) (fun e he=>⟨(h.ent e he).1.later h.bel,(h.ent e he).2.later h.bel⟩)
end
structure Ch1 (first:List ByteArray) (its:List M.Itm) (i:Nat) (es:List PEnt) (prs:List (Nat × Nat)):Prop where
 out:es.map (·.p)=((its.take i).foldl M.chooseStep (M.firstAll first,[])).2
 len:prs.length=es.length
 low:∀x∈prs,x.1<i
 ok:∀e∈es,M.Ok e.p
 few:es.length≤8*i
structure ChR (first:List ByteArray) (i:Nat) (s:M.Ars) (es:List PEnt) (prs:List (Nat × Nat)):Prop where
 out:es.map (·.p)=s.out
 st:s.st=M.enterAll (M.firstAll first) s.out
 len:prs.length=es.length
 low:∀x∈prs,x.1≤i
 has:∀k,(i,k)∈prs↔s.tk.getD k false=true
 tl:s.tk.length=8
 ok:∀e∈es,M.Ok e.p
theorem Ch1.st{first:List ByteArray}{its:List M.Itm}{i:Nat}{es:List PEnt}{prs:List (Nat × Nat)}(h:Ch1 first its i es prs):((its.take i).foldl M.chooseStep (M.firstAll first,[])).1=M.enterAll (M.firstAll first) (es.map (·.p)):=by
 rw[h.out];exact M.choose_st first _ _ rfl
theorem Ch1.start{first:List ByteArray}{its:List M.Itm} : Ch1 first its 0 [] []:=⟨rfl,rfl,fun x hx=>(by cases hx),fun x hx=>(by cases hx),Nat.le_refl _⟩
theorem Ch1.plain{first:List ByteArray}{its:List M.Itm}{i:Nat}{es:List PEnt}{prs:List (Nat × Nat)}{e:PEnt}(h:Ch1 first its i es prs)(hi:i<its.length)(ha:(its.getD i ⟨false,[]⟩).arch=false)(he:e.p=(its.getD i ⟨false,[]⟩).parts.getD 0 M.nilP)(hk:M.Ok e.p) :
  Ch1 first its (i+1) (es++[e]) (prs++[(i,0)]):=by
 refine⟨?_,by rw[List.length_append,List.length_append,h.len];rfl,fun x hx=>?_,fun x hx=>?_,by rw[List.length_append];have:=h.few;simp;omega⟩
 ·rw[choose_take its _ i hi,M.chooseStep,ha,List.map_append,h.out]
  simp[he]
 ·rcases List.mem_append.1 hx with hx|hx
  ·have:=h.low x hx;omega
  ·rw[List.mem_singleton.1 hx];exact Nat.lt_succ_self _
 ·rcases List.mem_append.1 hx with hx|hx
  ·exact h.ok x hx
  ·rw[List.mem_singleton.1 hx];exact hk
theorem none8_at(k:Nat):M.none8.getD k false=false:=by
 unfold M.none8
 rw[List.getD_eq_getElem?_getD]
 cases h:(List.replicate 8 false)[k]? with
 | none=>rfl
 | some b=>exact List.eq_of_mem_replicate (List.mem_of_getElem? h)
theorem Ch1.open{first:List ByteArray}{its:List M.Itm}{i:Nat}{es:List PEnt}{prs:List (Nat × Nat)}(h:Ch1 first its i es prs) :
  ChR first i ⟨((its.take i).foldl M.chooseStep (M.firstAll first,[])).1,((its.take i).foldl M.chooseStep (M.firstAll first,[])).2,M.none8⟩ es prs :=
 ⟨h.out,by rw[h.st,h.out],h.len,fun x hx=>Nat.le_of_lt (h.low x hx),fun k=>⟨fun hm=>absurd (h.low _ hm) (Nat.lt_irrefl _),fun hk=>(by
  have:M.none8.getD k false=true:=hk
  rw[none8_at] at this;cases this)⟩,rfl,h.ok⟩
theorem ChR.close{first:List ByteArray}{its:List M.Itm}{i:Nat}{s:M.Ars}{es es0:List PEnt}{prs prs0:List (Nat × Nat)}(h:ChR first i s es prs)(h0:Ch1 first its i es0 prs0)(hi:i<its.length)(ha:(its.getD i ⟨false,[]⟩).arch=true)(h8:(its.getD i ⟨false,[]⟩).parts.length≤8)
  (hs:M.search (its.getD i ⟨false,[]⟩).parts ((its.take i).foldl M.chooseStep (M.firstAll first,[])).1 ((its.take i).foldl M.chooseStep (M.firstAll first,[])).2=s):Ch1 first its (i+1) es prs:=by
 refine⟨?_,h.len,fun x hx=>by have:=h.low x hx;omega,h.ok,?_⟩
 ·rw[choose_take its _ i hi,M.chooseStep,ha,h.out,←hs];rfl
 ·have h1:=M.search_out (its.getD i ⟨false,[]⟩).parts ((its.take i).foldl M.chooseStep (M.firstAll first,[])).1 ((its.take i).foldl M.chooseStep (M.firstAll first,[])).2 h8
  rw[hs,←h.out,←h0.out,List.length_map,List.length_map] at h1
  have:=h0.few
  omega
theorem ChR.take{first:List ByteArray}{i k:Nat}{s:M.Ars}{es:List PEnt}{prs:List (Nat × Nat)}{e:PEnt}(h:ChR first i s es prs)(hk:k<8)(ht:s.tk.getD k false=false)(he:M.Ok e.p) :
  ChR first i { M.take s e.p with tk:=s.tk.set k true } (es++[e]) (prs++[(i,k)]):=by
 refine⟨?_,?_,by rw[List.length_append,List.length_append,h.len];rfl,fun x hx=>?_,fun q=>?_,by simp[h.tl],fun x hx=>?_⟩
 ·rw[List.map_append,h.out];rfl
 ·show M.enter s.st e.p=M.enterAll (M.firstAll first) (s.out++[e.p])
  rw[M.enterAll_one,h.st]
 ·rcases List.mem_append.1 hx with hx|hx
  ·exact h.low x hx
  ·rw[List.mem_singleton.1 hx];exact Nat.le_refl _
 ·show (i,q)∈prs++[(i,k)]↔(s.tk.set k true).getD q false=true
  rw[List.mem_append,List.mem_singleton,h.has q,List.getD_eq_getElem?_getD,List.getD_eq_getElem?_getD,List.getElem?_set]
  by_cases hq:k=q
  ·subst hq
   simp[h.tl,hk]
  ·simp[hq]
   exact fun e=>absurd e.symm hq
 ·rcases List.mem_append.1 hx with hx|hx
  ·exact h.ok x hx
  ·rw[List.mem_singleton.1 hx];exact he
end Go.Proofs.YtpkfmfhodbjckaaGreatDoor
namespace Go.Proofs.YtpkfmfhodbjckaaGreatDoor
open Go Go.RowKit
theorem getD_set_self{s:Array Bool}{j:Nat}(h:s.getD j true=false):(s.setIfInBounds j true).getD j false=true:=by
 have hlt:j<s.size:=by
  rcases Nat.lt_or_ge j s.size with h1|h1
  ·exact h1
  ·rw[Array.getD,dif_neg (by omega)] at h;cases h
 simp[Array.getD,hlt]
def plC (w:World) (B N b3 b4 n8:Nat) (vF vO vP:Value) (it:Array Value) (es:List PEnt) (prs:List (Nat × Nat)) (sd:Array Bool) (W:World):Prop :=
 (Below w.heap.size w W∧N≤W.heap.size∧W.heap[b3]?=some (.cells #[vF] 39 (0,0))∧W.heap[b4]?=some (.cells #[vO] 35 (0,0))∧W.heap[n8]?=some (.cells it 64 (0,0))) ∧
 (sd.getD 6 false=false→W.ownsRow B 43 2 vO es.length (es.flatMap pentCells))∧(sd.getD 11 false=false→W.ownsRow B 69 2 vP prs.length (prs.flatMap encPr))
def plR (B n8 i bp off n cP:Nat) (vO vP:Value) (e:PEnt) (es:List PEnt) (prs:List (Nat × Nat)) (j:Nat) (W:World) (u:Value):Prop :=
 match j with
 | 0=>u=vO
 | 1=>u=.pointer (some ⟨n8,1,none⟩)
 | 2=>u=.slice (some ⟨bp,off,none⟩) n cP
 | 3=>u=.pointer (some ⟨bp,off,none⟩)
 | 4=>u=.agg #[e.vF,e.vD]
 | 5=>∃g,u=.slice (some ⟨g,0,none⟩) 1 1∧W.heap[g]?=some (.cells #[e.vF,e.vD] 43 (0,0))∧vO.ownBlock≠some g
 | 6=>W.ownsRow B 43 2 u (es.length+1) (es.flatMap pentCells++pentCells e)
 | 7=>u=vP
 | 8=>u=.int .i64 (i:Nat)
 | 9=>u=.agg #[.int .i64 (i:Nat),.int .i64 0]
 | 10=>∃g,u=.slice (some ⟨g,0,none⟩) 1 1∧W.heap[g]?=some (.cells #[.int .i64 (i:Nat),.int .i64 0] 69 (0,0))∧vP.ownBlock≠some g
 | 11=>W.ownsRow B 69 2 u (prs.length+1) (prs.flatMap encPr++encPr (i,0))
 | _=>False
section
variable {w W X : World} {B N b3 b4 n8 i bp off n cP : Nat} {vF vO vP : Value} {it : Array Value} {e : PEnt} {es : List PEnt} {prs : List (Nat × Nat)} {sd : Array Bool}
theorem plC.set(h:plC w B N b3 b4 n8 vF vO vP it es prs sd W)(j:Nat)(h6:j≠6)(h11:j≠11):plC w B N b3 b4 n8 vF vO vP it es prs (sd.setIfInBounds j true) W :=
 ⟨h.1,fun x=>h.2.1 (by rwa [getD_set_ne false h6] at x),fun x=>h.2.2 (by rwa [getD_set_ne false h11] at x)⟩
theorem plC.later(h:plC w B N b3 b4 n8 vF vO vP it es prs sd W)(hb:Below W.heap.size W X):plC w B N b3 b4 n8 vF vO vP it es prs sd X :=
 have hg:=grown_of_below hb none
 ⟨⟨h.1.1.trans (hb.mono h.1.1.size),Nat.le_trans h.1.2.1 hb.size,blk hb h.1.2.2.1,blk hb h.1.2.2.2.1,blk hb h.1.2.2.2.2⟩,
  fun x=>(h.2.1 x).kept hg own_self,fun x=>(h.2.2 x).kept hg own_self⟩
theorem plC.growO(h:plC w B N b3 b4 n8 vF vO vP it es prs sd W)(hB:w.heap.size≤B)(h6:sd.getD 6 true=false)(hr:W.ownsRow B 43 2 vO es.length (es.flatMap pentCells))(hg:W.grownBy X vO.ownBlock):plC w B N b3 b4 n8 vF vO vP it es prs (sd.setIfInBounds 6 true) X :=
 ⟨⟨h.1.1.grown hg h.1.1.size (fun k hk=>Nat.le_trans hB (hr.lt k hk).1),Nat.le_trans h.1.2.1 hg.size,block_kept hr hg h.1.2.2.1 (by decide),block_kept hr hg h.1.2.2.2.1 (by decide),block_kept hr hg h.1.2.2.2.2 (by decide)⟩,
  fun x=>(by rw[getD_set_self h6] at x;cases x),fun x=>(h.2.2 (by rwa [getD_set_ne false (by decide)] at x)).kept hg (own_apart (h.2.2 (by rwa [getD_set_ne false (by decide)] at x)) hr (by decide))⟩
theorem plC.growP(h:plC w B N b3 b4 n8 vF vO vP it es prs sd W)(hB:w.heap.size≤B)(h11:sd.getD 11 true=false)(hr:W.ownsRow B 69 2 vP prs.length (prs.flatMap encPr))(hg:W.grownBy X vP.ownBlock):plC w B N b3 b4 n8 vF vO vP it es prs (sd.setIfInBounds 11 true) X :=
 ⟨⟨h.1.1.grown hg h.1.1.size (fun k hk=>Nat.le_trans hB (hr.lt k hk).1),Nat.le_trans h.1.2.1 hg.size,block_kept hr hg h.1.2.2.1 (by decide),block_kept hr hg h.1.2.2.2.1 (by decide),block_kept hr hg h.1.2.2.2.2 (by decide)⟩,
  fun x=>(h.2.1 (by rwa [getD_set_ne false (by decide)] at x)).kept hg (own_apart (h.2.1 (by rwa [getD_set_ne false (by decide)] at x)) hr (by decide)),fun x=>(by rw[getD_set_self h11] at x;cases x)⟩
theorem plR_later(hb:Below W.heap.size W X):∀j u,plR B n8 i bp off n cP vO vP e es prs j W u→plR B n8 i bp off n cP vO vP e es prs j X u:=by
 intro j u h
 have hg:=grown_of_below hb none
 match j,h with
 | 0,h=>exact h
 | 1,h=>exact h
 | 2,h=>exact h
 | 3,h=>exact h
 | 4,h=>exact h
 | 5,h=>obtain⟨g,h1,h2,h3⟩:=h;exact⟨g,h1,blk hb h2,h3⟩
 | 6,h=>exact World.ownsRow.kept h hg own_self
 | 7,h=>exact h
 | 8,h=>exact h
 | 9,h=>exact h
 | 10,h=>obtain⟨g,h1,h2,h3⟩:=h;exact⟨g,h1,blk hb h2,h3⟩
 | 11,h=>exact World.ownsRow.kept h hg own_self
theorem plR_growO(hr:W.ownsRow B 43 2 vO es.length (es.flatMap pentCells))(hg:W.grownBy X vO.ownBlock):∀j u,j≠6→plR B n8 i bp off n cP vO vP e es prs j W u→plR B n8 i bp off n cP vO vP e es prs j X u:=by
 intro j u hj h
 match j,hj,h with
 | 0,_,h=>exact h
 | 1,_,h=>exact h
 | 2,_,h=>exact h
 | 3,_,h=>exact h
 | 4,_,h=>exact h
 | 5,_,h=>obtain⟨g,h1,h2,h3⟩:=h;exact⟨g,h1,(hg.block g (lt1 h2) (Ne.symm h3)).trans h2,h3⟩
 | 6,hj,_=>exact absurd rfl hj
 | 7,_,h=>exact h
 | 8,_,h=>exact h
 | 9,_,h=>exact h
 | 10,_,h=>obtain⟨g,h1,h2,h3⟩:=h;exact⟨g,h1,block_kept hr hg h2 (by decide),h3⟩
 | 11,_,h=>exact World.ownsRow.kept h hg (own_apart h hr (by decide))
theorem plR_growP(hr:W.ownsRow B 69 2 vP prs.length (prs.flatMap encPr))(hg:W.grownBy X vP.ownBlock):∀j u,j≠11→plR B n8 i bp off n cP vO vP e es prs j W u→plR B n8 i bp off n cP vO vP e es prs j X u:=by
 intro j u hj h
 match j,hj,h with
 | 0,_,h=>exact h
 | 1,_,h=>exact h
 | 2,_,h=>exact h
 | 3,_,h=>exact h
 | 4,_,h=>exact h
 | 5,_,h=>obtain⟨g,h1,h2,h3⟩:=h;exact⟨g,h1,block_kept hr hg h2 (by decide),h3⟩
 | 6,_,h=>exact World.ownsRow.kept h hg (own_apart h hr (by decide))
 | 7,_,h=>exact h
 | 8,_,h=>exact h
 | 9,_,h=>exact h
 | 10,_,h=>obtain⟨g,h1,h2,h3⟩:=h;exact⟨g,h1,(hg.block g (lt1 h2) (Ne.symm h3)).trans h2,h3⟩
 | 11,hj,_=>exact absurd rfl hj
end
end Go.Proofs.YtpkfmfhodbjckaaGreatDoor
