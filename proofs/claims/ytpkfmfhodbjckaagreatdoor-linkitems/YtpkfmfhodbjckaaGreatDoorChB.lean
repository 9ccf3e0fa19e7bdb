/-
  slices.Contains of a row of pairs of numbers. ArchiveEnds: its two sets of names in memory. The reference's Chosen: its closure, which looks anew for the names that are lacking. The reference's Chosen: what it has in memory, and what it has taken. The reference's Chosen: a part that is no archive's is taken; what each operation of that statement has. The reference's Chosen, of right items: what Choose takes.
-/
import Derived.Test.YtpkfmfhodbjckaaGreatDoorProg
import Derived.Laws.StructEq
import Derived.Deep.RegionHeld3
import Derived.Deep.Cut
import Derived.RegionTactic
import Derived.ChangeAlike
import Derived.Test.YtpkfmfhodbjckaaGreatDoorRefBB
import Derived.Test.YtpkfmfhodbjckaaGreatDoorSmB
import Derived.Test.YtpkfmfhodbjckaaGreatDoorArA
import Derived.Test.YtpkfmfhodbjckaaGreatDoorQQ
import Derived.Laws.ResultCell
set_option linter.unusedVariables false
set_option maxHeartbeats 16000000
set_option maxRecDepth 100000
namespace Go.Proofs.YtpkfmfhodbjckaaGreatDoor
open Go Go.RowKit
def encPr (x:Nat × Nat):List Value:=[.int .i64 (x.1:Nat),.int .i64 (x.2:Nat)]
def PrsAt (w:World) (v:Value) (l:List (Nat × Nat)):Prop:=SlAt w v 2 l.length (fun j i=>(encPr (l.getD j (0,0))).getD i undef)
theorem PrsAt.later{w w':World}{v:Value}{l:List (Nat × Nat)}(h:PrsAt w v l)(hb:Below w.heap.size w w'):PrsAt w' v l:=SlAt.later h hb
theorem row_prs{w:World}{B:Nat}{v:Value}{l:List (Nat × Nat)}(h:w.ownsRow B 69 2 v l.length (l.flatMap encPr)):PrsAt w v l:=row_slice (k:=2) (0,0) encPr (fun _=>rfl) l h
theorem eqPrIn(n:Nat)(a b c d:Int)(w:World):(Op.equalIn (n+1+1) 69 (.agg #[.int .i64 a,.int .i64 b]) (.agg #[.int .i64 c,.int .i64 d])).run Tryz.prog w=.ok (a==c&&b==d) w:=by
 have u3:=Tryz.underlying3
 have a3:=Tryz.isAgg3
 have z3:=Tryz.sizeOf3
 have hA:=Tryz.underlying69
 have e1:∀(x y:Int) (W:World),(Op.equalIn (n+1) 3 (.int .i64 x) (.int .i64 y)).run Tryz.prog W=.ok (x==y) W:=fun x y W=>run_equalIn_int W n 3 .i64 .i64 x y u3
 rw[Op.equalIn]
 simp only[Sem.run_bind,run_underlying hA,Result.andThen_ok,z3,Std.Legacy.Range.forIn_eq_forIn_range',Std.Legacy.Range.size,Nat.sub_zero,Nat.add_one_sub_one,Nat.div_one]
 generalize Op.equalIn (n+1)=E at *
 by_cases h0:a=c<;>by_cases h1:b=d<;>simp[List.range',part,e1,a3,h0,h1]
theorem PrsAt.cells{w:World}{a:Option Addr}{c:Nat}{l:List (Nat × Nat)}(h:PrsAt w (.slice a l.length c) l)(k:Nat)(hk:k<l.length) :
  ∃b off,a=some ⟨b,off,none⟩∧w.cell? ⟨b,off+k*2,none⟩=some (.int .i64 ((l.getD k (0,0)).1:Nat))∧w.cell? ⟨b,off+k*2+1,none⟩=some (.int .i64 ((l.getD k (0,0)).2:Nat)):=by
 obtain⟨b,off,rfl,hc⟩:=SlAt.at h k hk
 exact⟨b,off,rfl,hc 0 (by decide),hc 1 (by decide)⟩
theorem indexPr_any(l:List (Nat × Nat))(i q:Nat)(a:Option Addr)(c:Nat)(w:World)(h:PrsAt w (.slice a l.length c) l) :
  Calls Tryz.prog 65 #[.slice a l.length c,.agg #[.int .i64 (i:Nat),.int .i64 (q:Nat)]] w fun e w'=>(∃n:Int,e=.returned (.int .i64 n)∧(0≤n↔(i,q)∈l))∧Below w.heap.size w w':=by
 have hn:l.length≤maxLen:=by obtain⟨_,_,_,h⟩:=SlAt.form h;exact h
 unfold maxLen at hn
 have hA:=bra w (.cells #[.int .i64 (i:Nat),.int .i64 (q:Nat)] 69)
 have hq:=heap_alloc_new w (.cells #[.int .i64 (i:Nat),.int .i64 (q:Nat)] 69)
 have HP:Hid (∀W,Below w.heap.size w W→PrsAt W (.slice a l.length c) l):=fun W hW=>h.later hW
 have HA:Hid _:=hA
 have hag:=Tryz.isAgg69
 have hsz:=Tryz.sizeOf69
 clear h hA
 go_enter Tryz.func65,Tryz.ntmps65
 go_upto_region 2 with fail
 generalize w.alloc (.cells #[.int .i64 (i:Nat),.int .i64 (q:Nat)] 69)=X at *
 obtain⟨b3,hb3⟩:∃b3,b3=w.heap.size:=⟨_,rfl⟩
 rw[←hb3] at hq ⊢
 clear hb3
 have HQ:Hid (∀W,Below X.heap.size X W→W.heap[b3]?=some (.cells #[.int .i64 (i:Nat),.int .i64 (q:Nat)] 69 (0,0))):=fun W hW=>blk hW hq
 clear hq
 go_loopw [8] (fun s8 wr=>∃(k:Nat),k≤l.length∧s8=.int .i64 k∧Hid (∀j,j<k→l.getD j (0,0)≠(i,q))∧Hid (Below X.heap.size X wr)) (fun s8 _=>l.length-(intOf s8).toNat)
 case atStart=>exact⟨0,Nat.zero_le _,rfl,fun j hj=>absurd hj (Nat.not_lt_zero _),Below.refl _ _⟩
 case round =>
  obtain⟨k,hk,rfl,HN,HW⟩:=hrel
  have HB:Hid (Below w.heap.size w wr):=HA.out.trans (HW.out.mono HA.out.size)
  by_cases hlt:k<l.length
  ·obtain⟨b,off,rfl,e0,e1⟩:=(HP.out wr HB.out).cells k hlt
   have hb3:=HQ.out wr HW.out
   have q0:=cellC hb3 0 rfl
   have q1:=cellC hb3 1 rfl
   have ql:=lt1 hb3
   clear hb3
   have hbr:b<wr.heap.size:=wlt e0
   have hkl:(k:Int)<(l.length:Int):=by omega
   have HM:Hid ((i,q)=l.getD k (0,0)→(i,q)∈l):=fun e=>by rw[e];exact getD_mem l (0,0) k hlt
   have HN1:Hid (¬(i,q)=l.getD k (0,0)→∀j,j<k+1→l.getD j (0,0)≠(i,q)):=fun hne j hj=>by
    rcases Nat.lt_or_ge j k with h|h
    ·exact HN.out j h
    ·obtain rfl:j=k:=by omega
     exact fun e=>hne e.symm
   clear HN
   generalize l.getD k (0,0)=x at *
   obtain⟨x1,x2⟩:=x
   simp only at e0 e1
   by_cases he:(i,q)=(x1,x2)
   ·obtain⟨rfl,rfl⟩:i=x1∧q=x2:=by cases he;exact⟨rfl,rfl⟩
    have heq:∀W,(Op.equalIn 10000 69 (.agg #[.int .i64 (i:Nat),.int .i64 (q:Nat)]) (.agg #[.int .i64 (i:Nat),.int .i64 (q:Nat)])).run Tryz.prog W=.ok true W:=fun W=>by rw[show (10000:Nat)=9998+1+1 from rfl,eqPrIn];simp
    have HM1:=HM.out rfl
    clear HM HN1 he
    go_upto_region 4 with fail
    go_region
    go_wp2_with fail
    go_ret
    exact⟨⟨_,rfl,fun _=>HM1,fun _=>by omega⟩,HB.out.drew⟩
   ·have hR:(((i:Int)==(x1:Int))&&((q:Int)==(x2:Int)))=false:=by
     cases h1:((i:Int)==(x1:Int))
     ·rfl
     ·cases h2:((q:Int)==(x2:Int))
      ·rfl
      ·exact absurd (by simp at h1 h2;rw[Int.ofNat.inj h1,Int.ofNat.inj h2]) he
    have heq:∀W,(Op.equalIn 10000 69 (.agg #[.int .i64 (i:Nat),.int .i64 (q:Nat)]) (.agg #[.int .i64 (x1:Nat),.int .i64 (x2:Nat)])).run Tryz.prog W=.ok false W:=fun W=>by rw[show (10000:Nat)=9998+1+1 from rfl,eqPrIn,hR]
    clear hR
    have HN2:=HN1.out he
    have HN3:Hid _:=HN2
    clear HM HN1 he HN2
    go_upto_region 4 with fail
    go_region
    go_wp2_with fail
    go_roundw
    case rel=>exact⟨k+1,by omega,by go_num,HN3.out,HW.out.drew⟩
    case measure=>simp[intOf];omega
  ·have HM:Hid (¬(i,q)∈l):=fun hm=>by
    obtain⟨j,hj,e⟩:=List.mem_iff_getElem.1 hm
    exact HN.out j (by omega) (by rw[List.getD_eq_getElem?_getD,List.getElem?_eq_getElem hj];exact e)
   obtain rfl:k=l.length:=by omega
   clear HN
   go_wp2_with fail
   go_ret
   exact⟨⟨_,rfl,fun h=>absurd h (by decide),fun h=>absurd h HM.out⟩,HB.out⟩
theorem hasPr_any(l:List (Nat × Nat))(i q:Nat)(a:Option Addr)(c:Nat)(w:World)(h:PrsAt w (.slice a l.length c) l) :
  Calls Tryz.prog 28 #[.slice a l.length c,.agg #[.int .i64 (i:Nat),.int .i64 (q:Nat)]] w fun e w'=>e=.returned (.bool (decide ((i,q)∈l)))∧Below w.heap.size w w':=by
 have hA:=bra w (.cells #[.int .i64 (i:Nat),.int .i64 (q:Nat)] 69)
 have HA:Hid _:=hA
 have KI:Hid (Calls Tryz.prog 65 #[.slice a l.length c,.agg #[.int .i64 (i:Nat),.int .i64 (q:Nat)]] (w.alloc (.cells #[.int .i64 (i:Nat),.int .i64 (q:Nat)] 69)) fun e w'=>(∃n:Int,e=.returned (.int .i64 n)∧(0≤n↔(i,q)∈l))∧Below (w.alloc (.cells #[.int .i64 (i:Nat),.int .i64 (q:Nat)] 69)).heap.size (w.alloc (.cells #[.int .i64 (i:Nat),.int .i64 (q:Nat)] 69)) w'):=indexPr_any l i q a c _ (h.later hA)
 have hag:=Tryz.isAgg69
 have hsz:=Tryz.sizeOf69
 clear h hA
 go_enter Tryz.func28,Tryz.ntmps28
 go_wp2_with (go_at_call 65;refine KI.out.mono ?_;rintro e w1 ⟨⟨n,rfl,hn⟩,hb1⟩)
 go_ret
 refine⟨?_,HA.out.trans (hb1.mono HA.out.size)⟩
 by_cases hm:(i,q)∈l
 ·simp[hm]
 ·simp[hm]
end Go.Proofs.YtpkfmfhodbjckaaGreatDoor
namespace Go.Proofs.YtpkfmfhodbjckaaGreatDoor
open Go Go.RowKit Go.Maps
theorem zeroB(w:World):(zeroValue 4).run Tryz.prog w=.ok (.bool false) w:=by kernel_rfl
def BAt (w:World) (b N:Nat) (S:M.BSet):Prop :=
 ∃n D,n≤N∧w.ownsMap (H:=Unit) Tryz.prog 9 (plainElem Tryz.prog 4) b n D∧IsMap D∧∀s,D.atKey (.string s) (.lit (.bool false))=.lit (.bool (S s))
theorem BAt.mono{w:World}{b N N':Nat}{S:M.BSet}(h:BAt w b N S)(hn:N≤N'):BAt w b N' S :=
 let ⟨n,D,h1,h2⟩:=h
 ⟨n,D,Nat.le_trans h1 hn,h2⟩
theorem BAt.later{w w':World}{b N:Nat}{S:M.BSet}(h:BAt w b N S)(hb:Below w.heap.size w w'):BAt w' b N S:=by
 obtain⟨n,D,h1,⟨es,clock,hm,h3⟩,h4⟩:=h
 exact⟨n,D,h1,⟨es,clock,(hb.block b (lt1 hm)).trans hm,h3⟩,h4⟩
theorem BAt.kept{w w':World}{b b' N:Nat}{S:M.BSet}(h:BAt w b N S)(hb:w.grownBy w' (some b'))(hr:b'≠b):BAt w' b N S:=by
 obtain⟨n,D,h1,⟨es,clock,hm,h3⟩,h4⟩:=h
 exact⟨n,D,h1,⟨es,clock,(hb.block b (lt1 hm) (fun e=>hr (by cases e;rfl))).trans hm,h3⟩,h4⟩
theorem BAt.lt{w:World}{b N:Nat}{S:M.BSet}(h:BAt w b N S):b<w.heap.size:=by
 obtain⟨n,D,h1,⟨es,clock,hm,h3⟩,h4⟩:=h
 exact(lt1 hm)
theorem BAt.nil(w:World):BAt (w.alloc (.map #[] 0)) w.heap.size 0 M.noNames :=
 ⟨0,.map [],Nat.le_refl _,World.ownsMap_made _ _ _ _,isMap_empty,fun s=>rfl⟩
theorem plainB_inv{P:Program}{e:TypeId}(he:P.underlying e=some .bool){v:Value}{x:Bool}{ps:List MemPlace}(h:plainElem (H:=Unit) P e v=some (.lit (.bool x),ps)):v=.bool x:=by
 unfold plainElem at h
 rw[he] at h
 cases v<;>simp at h
 exact congrArg _ h.1
theorem BAt.look{w:World}{b N:Nat}{S:M.BSet}(h:BAt w b N S)(s:ByteArray)(hs:s.size≤maxLen) :
  (Instr.lookup 66 (.map (some b)) (.string s) false).run Tryz.prog w=.ok (.bool (S s.data.toList)) w:=by
 obtain⟨n,D,h1,hown,_,hat⟩:=h
 obtain⟨v,ps,hrun,hc⟩:=hown.lookup keyS Tryz.underlying66 (zeroB w) (plainElem_bool Tryz.underlying4 false) (WideMaps.keyOf_string_mk Tryz.underlying9 hs)
 rw[hat] at hc
 rw[hrun,plainB_inv Tryz.underlying4 hc]
theorem BAt.put{w:World}{b N:Nat}{S:M.BSet}(h:BAt w b N S)(hN:N<maxLen)(s:ByteArray)(hs:s.size≤maxLen) :
  ∃w',(Instr.mapUpdate 66 (.map (some b)) (.string s) (.bool true)).run Tryz.prog w=.ok () w'∧BAt w' b (N+1) (S.put s)∧w.grownBy w' (some b):=by
 obtain⟨n,D,h1,hown,him,hat⟩:=h
 obtain⟨w',hrun,ho,hg⟩:=hown.update keyS Tryz.underlying66 (Nat.lt_of_le_of_lt h1 hN) (WideMaps.keyOf_string_mk Tryz.underlying9 hs) (plainElem_bool Tryz.underlying4 true)
 refine⟨w',hrun,⟨n+1,_,by omega,ho,him.put _ _,fun t=>?_⟩,hg⟩
 by_cases e:t=s.data.toList
 ·subst e
  rw[atKey_put_same him (by trivial)]
  simp[M.BSet.put]
 ·rw[atKey_put_other (fun e'=>e (by injection e')),hat]
  simp[M.BSet.put,e]
theorem Kp.set{w w':World}{b N:Nat}{S:M.BSet}(h:BAt w b N S)(hg:w.grownBy w' (some b)):Kp w w':=fun a u hu=>by
 have hne:a.block≠b:=fun e=>by
  obtain⟨n,D,h1,⟨es,clock,hm,h3⟩,h4⟩:=h
  unfold World.cell? at hu
  rw[e,hm] at hu
  cases hu
 rw[cell_of_block (hg.block a.block (wlt hu) (fun e=>hne (by cases e;rfl)))]
 exact hu
structure EnAt (W:World) (n9 n12 bL bH N:Nat) (st:M.St):Prop where
 c9:W.cell? ⟨n9,0,none⟩=some (.map (some bL))
 c12:W.cell? ⟨n12,0,none⟩=some (.map (some bH))
 ne:bL≠bH
 ex:∃L H,BAt W bL N L∧BAt W bH N H∧M.Rl L H st
theorem EnAt.later{W X:World}{n9 n12 bL bH N:Nat}{st:M.St}(h:EnAt W n9 n12 bL bH N st)(hb:Below W.heap.size W X):EnAt X n9 n12 bL bH N st :=
 let ⟨L,H,h1,h2,h3⟩:=h.ex
 ⟨cell_later hb h.c9,cell_later hb h.c12,h.ne,L,H,h1.later hb,h2.later hb,h3⟩
theorem addAll_take(S:M.BSet)(l:List ByteArray)(k:Nat)(h:k<l.length):M.addAll S (l.take (k+1))=(M.addAll S (l.take k)).put (l.getD k str0):=by
 unfold M.addAll
 rw[List.take_succ_eq_append_getElem h,List.foldl_append,List.getD_eq_getElem?_getD,List.getElem?_eq_getElem h]
 rfl
end Go.Proofs.YtpkfmfhodbjckaaGreatDoor
namespace Go.Proofs.YtpkfmfhodbjckaaGreatDoor.M
def BSet.drop (S:BSet) (n:ByteArray):BSet:=fun x=>if x=n.data.toList then false else S x
def delAll (S:BSet) (l:List ByteArray):BSet:=l.foldl BSet.drop S
theorem delAll_iff:∀(l:List ByteArray) (S:BSet) (x:List UInt8),delAll S l x=true↔S x=true∧∀n∈l,x≠n.data.toList
 | [],S,x=>by simp[delAll]
 | m::l,S,x=>by
  show delAll (S.drop m) l x=true↔_
  rw[delAll_iff l (S.drop m) x]
  unfold BSet.drop
  by_cases e:x=m.data.toList
  ·simp[e]
  ·simp[e]
theorem delAll_at(l:List ByteArray)(S:BSet)(x:List UInt8):delAll S l x=(S x&&!addAll noNames l x):=by
 have h1:=delAll_iff l S x
 have h2:=addAll_at l noNames x
 cases h3:addAll noNames l x
 ·cases h4:S x
  ·cases h5:delAll S l x
   ·rfl
   ·rw[h5] at h1;have:=(h1.1 rfl).1;rw[h4] at this;cases this
  ·have:delAll S l x=true:=h1.2 ⟨h4,fun n hn e=>by
    rw[h3] at h2;exact absurd (h2.2 (.inr ⟨n,hn,e⟩)) (by simp)⟩
   rw[this];rfl
 ·rw[h3] at h2
  rcases h2.1 rfl with h|⟨n,hn,e⟩
  ·cases h
  ·cases h5:delAll S l x
   ·simp
   ·rw[h5] at h1;exact absurd e ((h1.1 rfl).2 n hn)
theorem delAll_take(S:BSet)(l:List ByteArray)(k:Nat)(h:k<l.length):delAll S (l.take (k+1))=(delAll S (l.take k)).drop (l.getD k str0):=by
 unfold delAll
 rw[List.take_succ_eq_append_getElem h,List.foldl_append,List.getD_eq_getElem?_getD,List.getElem?_eq_getElem h]
 rfl
theorem delAll_append(S:BSet)(l l':List ByteArray):delAll S (l++l')=delAll (delAll S l) l':=by
 unfold delAll;rw[List.foldl_append]
theorem flat_take{α:Type}(l:List Prt)(g:Prt→List α)(k:Nat)(h:k<l.length):(l.take (k+1)).flatMap g=(l.take k).flatMap g++g (l.getD k nil):=by
 rw[List.take_succ_eq_append_getElem h,List.flatMap_append,List.getD_eq_getElem?_getD,List.getElem?_eq_getElem h]
 simp
def lackSet (first:List ByteArray) (out:List Prt):BSet:=delAll (addAll noNames (first++out.flatMap wanted)) (out.flatMap defined)
theorem lackSet_helps(first:List ByteArray)(out:List Prt)(d:Dfn):helps (enterAll (firstAll first) out) d=(d.kind !=3&&lackSet first out d.name.data.toList):=by
 rw[(lack_anew first out).helps d,lackSet,delAll_at,Bool.and_assoc]
end Go.Proofs.YtpkfmfhodbjckaaGreatDoor.M
namespace Go.Proofs.YtpkfmfhodbjckaaGreatDoor
open Go Go.RowKit Go.Maps
theorem BAt.cut{w':World}{b N n:Nat}{S:M.BSet}{D:DataW Unit}{s:ByteArray}(h1:n≤N)(him:IsMap D)(hat:∀s,D.atKey (.string s) (.lit (.bool false))=.lit (.bool (S s)))
  (ho:w'.ownsMap (H:=Unit) Tryz.prog 9 (plainElem Tryz.prog 4) b n (D.del (.string s.data.toList))):BAt w' b N (S.drop s):=by
 refine⟨n,_,h1,ho,him.del _,fun t=>?_⟩
 by_cases e:t=s.data.toList
 ·subst e
  rw[atKey_del_same]
  simp[M.BSet.drop]
 ·rw[atKey_del_other (fun e'=>e (by injection e')),hat]
  simp[M.BSet.drop,e]
theorem lacking_any(first:List ByteArray)(out:List M.Prt)(aF aO:Option Addr)(cF cO b3 b4:Nat)(w:World)(h3:w.cell? ⟨b3,0,none⟩=some (.slice aF first.length cF))(h4:w.cell? ⟨b4,0,none⟩=some (.slice aO out.length cO))
  (hf:StrsAt w (.slice aF first.length cF) first) (ho:PartsAt w (.slice aO out.length cO) out) (hok:∀p∈out,M.Ok p) (hfl:first.length≤12) (hol:out.length≤200) :
  Calls Tryz.prog 25 #[.pointer (some ⟨b3,0,none⟩),.pointer (some ⟨b4,0,none⟩)] w fun e w'=>Below w.heap.size w w'∧∃g N,e=.returned (.map (some g))∧BAt w' g N (M.lackSet first out):=by
 have hmm:=@run_makeMap Tryz.prog
 have HIn:Hid (∀W,Below w.heap.size w W→W.cell? ⟨b3,0,none⟩=some (.slice aF first.length cF)∧W.cell? ⟨b4,0,none⟩=some (.slice aO out.length cO)∧StrsAt W (.slice aF first.length cF) first∧PartsAt W (.slice aO out.length cO) out):=fun W hW=>⟨cell_later hW h3,cell_later hW h4,hf.later hW,ho.later hW⟩
 have Hok:Hid (∀p∈out,M.Ok p):=hok
 obtain⟨g,hg⟩:∃g,g=w.heap.size:=⟨_,rfl⟩
 have hA:=bra w (.map #[] 0)
 have HB0:Hid (Below w.heap.size w (w.alloc (.map #[] 0))):=hA
 have HS0:Hid (BAt (w.alloc (.map #[] 0)) g 0 (M.addAll M.noNames (first.take 0))):=by rw[hg];exact BAt.nil w
 have Hg:Hid (w.heap.size≤g):=by rw[hg];exact Nat.le_refl _
 have c3:=cell_later hA h3
 have l3:=wlt c3
 clear h3 h4 hf ho hok hA
 go_enter Tryz.func25,Tryz.ntmps25
 go_upto_region 3 with fail
 rw[←hg]
 clear hmm
 generalize w.alloc (.map #[] 0)=X at *
 clear c3 l3 hg
 go_loopw [17] (fun s17 wr=>∃(k:Nat),k≤first.length∧s17=.int .i64 k∧Hid (BAt wr g k (M.addAll M.noNames (first.take k)))∧Hid (Below w.heap.size w wr)) (fun s17 _=>first.length-(intOf s17).toNat)
 case atStart=>exact⟨0,Nat.zero_le _,rfl,HS0,HB0⟩
 case round =>
  obtain⟨k,hk,rfl,HS,HB⟩:=hrel
  clear HS0 HB0
  by_cases hlt:k<first.length
  ·have hst:=(HIn.out wr HB.out).2.2.1
   obtain⟨bb,off,rfl,hc,hbb⟩:=hst.cell k hlt
   have hsn:=hst.2 _ (getD_mem first str0 k hlt)
   obtain⟨w3,hrun,hS,hgr⟩:=HS.out.put (by unfold maxLen;omega) (first.getD k str0) hsn
   have hkl:(k:Int)<(first.length:Int):=by omega
   have HP:Hid (BAt w3 g (k+1) (M.addAll M.noNames (first.take (k+1)))∧Below w.heap.size w w3):=by
    rw[addAll_take M.noNames first k hlt]
    exact⟨hS,HB.out.grown hgr HB.out.size (fun j hj=>by cases hj;exact Hg.out)⟩
   clear hS hgr hsn HS hst
   generalize first.getD k str0=s at *
   go_wp2_with fail
   go_roundw
   case rel=>exact⟨k+1,by omega,by go_num,HP.out.1,HP.out.2⟩
   case measure=>simp[intOf];omega
  ·obtain rfl:k=first.length:=by omega
   have HS1:Hid (BAt wr g (12+480*0) (M.addAll M.noNames (first++(out.take 0).flatMap M.wanted))):=by
    have:=HS.out
    rw[List.take_length] at this
    rw[List.take_zero,List.flatMap_nil,List.append_nil]
    exact this.mono (by omega)
   have c4:=(HIn.out wr HB.out).2.1
   have l4:=wlt c4
   clear HS hlt hk
   go_upto_region 8 with fail
   clear c4 l4
   go_loopw [26] (fun s26 wx=>∃(k:Nat),k≤out.length∧s26=.int .i64 k∧Hid (BAt wx g (12+480*k) (M.addAll M.noNames (first++(out.take k).flatMap M.wanted)))∧Hid (Below w.heap.size w wx)) (fun s26 _=>out.length-(intOf s26).toNat)
   case atStart=>exact⟨0,Nat.zero_le _,rfl,HS1,HB⟩
   case round =>
    obtain⟨k,hk,rfl,HS,HBx⟩:=hrel
    clear HS1 HB
    by_cases hlt:k<out.length
    ·obtain⟨bb,off,x1,y1,x2,y2,rfl,e0,e1,hS⟩:=parts_cell (HIn.out wr HBx.out).2.2.2 rfl k hlt
     have hpo:=Hok.out _ (getD_mem out M.nil k hlt)
     have hbr:bb<wr.heap.size:=wlt e0
     have hkl:(k:Int)<(out.length:Int):=by omega
     have HN:Hid (M.addAll M.noNames (first++(out.take (k+1)).flatMap M.wanted)=M.addAll (M.addAll M.noNames (first++(out.take k).flatMap M.wanted)) (M.wanted (out.getD k M.nil))):=by
      rw[Hid,M.flat_take out M.wanted k hlt,←List.append_assoc,M.addAll_append]
     have hwl:=ar_wanted_len hpo
     generalize M.addAll M.noNames (first++(out.take k).flatMap M.wanted)=S at *
     generalize out.getD k M.nil=p at *
     have hAl:=bra wr (.cells #[.slice x1 p.frags.length y1,.slice x2 p.defs.length y2] 43)
     have hq:=heap_alloc_new wr (.cells #[.slice x1 p.frags.length y1,.slice x2 p.defs.length y2] 43)
     have HBA:Hid (Below w.heap.size w (wr.alloc (.cells #[.slice x1 p.frags.length y1,.slice x2 p.defs.length y2] 43))):=HBx.out.trans (hAl.mono HBx.out.size)
     have HSA:Hid (BAt (wr.alloc (.cells #[.slice x1 p.frags.length y1,.slice x2 p.defs.length y2] 43)) g (12+480*k) S):=HS.out.later hAl
     have KW:Hid (Calls Tryz.prog 26 #[.agg #[.slice x1 p.frags.length y1,.slice x2 p.defs.length y2]] (wr.alloc (.cells #[.slice x1 p.frags.length y1,.slice x2 p.defs.length y2] 43)) fun e w'=>Below (wr.alloc (.cells #[.slice x1 p.frags.length y1,.slice x2 p.defs.length y2] 43)).heap.size (wr.alloc (.cells #[.slice x1 p.frags.length y1,.slice x2 p.defs.length y2] 43)) w'∧∃x y,e=.returned (.slice x (M.wanted p).length y)∧StrsAt w' (.slice x (M.wanted p).length y) (M.wanted p)) :=
      (wantedBy_any p.frags x1 x2 p.defs.length y1 y2 _ (hS.fr.later hAl) hpo.nf (ok_rels hpo) (M.wanted p) rfl).mono fun e w' ⟨j1,x,y,B,j2,j3,j4,j5,j6⟩=>⟨j1,x,y,j2,row_strs j3 j5⟩
     clear hS hAl hpo HS HBx
     go_upto_region 10 with fail
     clear e0 e1 hbr
     obtain⟨nz,hnz⟩:∃nz,nz=wr.heap.size:=⟨_,rfl⟩
     rw[←hnz] at hq ⊢
     clear hnz
     generalize wr.alloc (.cells #[.slice x1 p.frags.length y1,.slice x2 p.defs.length y2] 43)=Z at *
     have q0:=cellB hq 0
     have q1:=cellC hq 1 rfl
     have q0:=cellC hq 0 rfl
     have ql:=lt1 hq
     clear hq
     generalize M.wanted p=Wn at *
     go_upto_region 11 with (go_at_call 26;refine KW.out.mono ?_;rintro e w1 ⟨hb1,aw,cw,rfl,hW1⟩)
     have HW1:Hid (StrsAt w1 (.slice aw Wn.length cw) Wn):=hW1
     have HB1:Hid (Below w.heap.size w w1):=HBA.out.trans (hb1.mono HBA.out.size)
     have HS1:Hid (BAt w1 g (12+480*k+0) (M.addAll S (Wn.take 0))):=HSA.out.later hb1
     clear KW hb1 hW1 HBA HSA q0 q1 ql
     go_loopw [33] (fun s33 wr=>∃(j:Nat),j≤Wn.length∧s33=.int .i64 j∧Hid (BAt wr g (12+480*k+j) (M.addAll S (Wn.take j))∧Kp w1 wr∧Below w.heap.size w wr)) (fun s33 _=>Wn.length-(intOf s33).toNat)
     case atStart=>exact⟨0,Nat.zero_le _,rfl,HS1.out,Kp.refl _,HB1.out⟩
     case round =>
      obtain⟨j,hj,rfl,HI⟩:=hrel
      clear HS1 HB1
      by_cases hjt:j<Wn.length
      ·obtain⟨b2,off2,rfl,hc,hbb⟩:=(HW1.out.kp HI.out.2.1).cell j hjt
       have hsn:=HW1.out.2 _ (getD_mem Wn str0 j hjt)
       obtain⟨w3,hrun,hS,hgr⟩:=HI.out.1.put (by unfold maxLen;omega) (Wn.getD j str0) hsn
       have hjl:(j:Int)<(Wn.length:Int):=by omega
       have HP:Hid (BAt w3 g (12+480*k+j+1) (M.addAll S (Wn.take (j+1)))∧Kp w1 w3∧Below w.heap.size w w3):=by
        rw[addAll_take S Wn j hjt]
        exact⟨hS,HI.out.2.1.trans (Kp.set HI.out.1 hgr),HI.out.2.2.grown hgr HI.out.2.2.size (fun i hi=>by cases hi;exact Hg.out)⟩
       clear hS hgr hsn HI
       generalize Wn.getD j str0=s at *
       go_wp2_with fail
       go_roundw
       case rel=>exact⟨j+1,by omega,by go_num,HP.out⟩
       case measure=>simp[intOf];omega
      ·obtain rfl:j=Wn.length:=by omega
       have HS2:Hid (BAt wr g (12+480*(k+1)) (M.addAll M.noNames (first++(out.take (k+1)).flatMap M.wanted))∧Below w.heap.size w wr):=by
        have:=HI.out
        rw[List.take_length] at this
        rw[HN.out]
        exact⟨this.1.mono (by omega),this.2.2⟩
       clear HI HN HW1
       go_wp2_with fail
       go_roundw
       case rel=>exact⟨k+1,by omega,by go_num,HS2.out.1,HS2.out.2⟩
       case measure=>simp[intOf];omega
    ·obtain rfl:k=out.length:=by omega
     have HS1:Hid (BAt wr g 100000 (M.delAll (M.addAll M.noNames (first++out.flatMap M.wanted)) ((out.take 0).flatMap M.defined))):=by
      have:=HS.out
      rw[List.take_length] at this
      exact this.mono (by omega)
     have HLk:Hid (M.lackSet first out=M.delAll (M.addAll M.noNames (first++out.flatMap M.wanted)) (out.flatMap M.defined)):=rfl
     generalize M.addAll M.noNames (first++out.flatMap M.wanted)=S0 at *
     have HS0e:Hid (M.lackSet first out=M.delAll S0 (out.flatMap M.defined)):=HLk
     clear HLk
     have c4:=(HIn.out wr HBx.out).2.1
     have l4:=wlt c4
     clear HS hlt hk
     go_upto_region 17 with fail
     clear c4 l4
     go_loopw [43] (fun s43 wr=>∃(k:Nat),k≤out.length∧s43=.int .i64 k∧Hid (BAt wr g 100000 (M.delAll S0 ((out.take k).flatMap M.defined)))∧Hid (Below w.heap.size w wr)) (fun s43 _=>out.length-(intOf s43).toNat)
     case atStart=>exact⟨0,Nat.zero_le _,rfl,HS1,HBx⟩
     case round =>
      obtain⟨k,hk,rfl,HS,HB⟩:=hrel
      clear HS1 HBx
      by_cases hlt:k<out.length
      ·obtain⟨bb,off,x1,y1,x2,y2,rfl,e0,e1,hS⟩:=parts_cell (HIn.out wr HB.out).2.2.2 rfl k hlt
       have hpo:=Hok.out _ (getD_mem out M.nil k hlt)
       have hbr:bb<wr.heap.size:=wlt e0
       have hkl:(k:Int)<(out.length:Int):=by omega
       have HN:Hid (M.delAll S0 ((out.take (k+1)).flatMap M.defined)=M.delAll (M.delAll S0 ((out.take k).flatMap M.defined)) (M.defined (out.getD k M.nil))):=by
        rw[Hid,M.flat_take out M.defined k hlt,M.delAll_append]
       generalize M.delAll S0 ((out.take k).flatMap M.defined)=S at *
       generalize out.getD k M.nil=p at *
       have hAl:=bra wr (.cells #[.slice x1 p.frags.length y1,.slice x2 p.defs.length y2] 43)
       have hq:=heap_alloc_new wr (.cells #[.slice x1 p.frags.length y1,.slice x2 p.defs.length y2] 43)
       have HBA:Hid (Below w.heap.size w (wr.alloc (.cells #[.slice x1 p.frags.length y1,.slice x2 p.defs.length y2] 43))):=HB.out.trans (hAl.mono HB.out.size)
       have HSA:Hid (BAt (wr.alloc (.cells #[.slice x1 p.frags.length y1,.slice x2 p.defs.length y2] 43)) g 100000 S):=HS.out.later hAl
       have KD:Hid (Calls Tryz.prog 27 #[.agg #[.slice x1 p.frags.length y1,.slice x2 p.defs.length y2]] (wr.alloc (.cells #[.slice x1 p.frags.length y1,.slice x2 p.defs.length y2] 43)) fun e w'=>Below (wr.alloc (.cells #[.slice x1 p.frags.length y1,.slice x2 p.defs.length y2] 43)).heap.size (wr.alloc (.cells #[.slice x1 p.frags.length y1,.slice x2 p.defs.length y2] 43)) w'∧∃x y,e=.returned (.slice x (M.defined p).length y)∧StrsAt w' (.slice x (M.defined p).length y) (M.defined p)∧(M.defined p).length≤60) :=
        (definedBy_any p.defs x1 x2 p.frags.length y1 y2 _ (hS.df.later hAl) hpo.nd (M.defined p) rfl).mono fun e w' ⟨j1,x,y,B,j2,j3,j4,j5,j6⟩=>⟨j1,x,y,j2,row_strs j3 j5,j6⟩
       clear hS hAl hpo HS HB
       go_upto_region 19 with fail
       clear e0 e1 hbr
       obtain⟨nz,hnz⟩:∃nz,nz=wr.heap.size:=⟨_,rfl⟩
       rw[←hnz] at hq ⊢
       clear hnz
       generalize wr.alloc (.cells #[.slice x1 p.frags.length y1,.slice x2 p.defs.length y2] 43)=Z at *
       have q1:=cellC hq 1 rfl
       have q0:=cellC hq 0 rfl
       have ql:=lt1 hq
       clear hq
       generalize M.defined p=Dn at *
       go_upto_region 20 with (go_at_call 27;refine KD.out.mono ?_;rintro e w1 ⟨hb1,aw,cw,rfl,hW1,hdl⟩)
       have HW1:Hid (StrsAt w1 (.slice aw Dn.length cw) Dn):=hW1
       have HB1:Hid (Below w.heap.size w w1):=HBA.out.trans (hb1.mono HBA.out.size)
       have HS1:Hid (BAt w1 g 100000 (M.delAll S (Dn.take 0))):=HSA.out.later hb1
       clear KD hb1 hW1 HBA HSA q0 q1 ql
       go_loopw [50] (fun s50 wr=>∃(j:Nat),j≤Dn.length∧s50=.int .i64 j∧Hid (BAt wr g 100000 (M.delAll S (Dn.take j))∧Kp w1 wr∧Below w.heap.size w wr)) (fun s50 _=>Dn.length-(intOf s50).toNat)
       case atStart=>exact⟨0,Nat.zero_le _,rfl,HS1.out,Kp.refl _,HB1.out⟩
       case round =>
        obtain⟨j,hj,rfl,HI⟩:=hrel
        clear HS1 HB1
        by_cases hjt:j<Dn.length
        ·obtain⟨b2,off2,rfl,hc,hbb⟩:=(HW1.out.kp HI.out.2.1).cell j hjt
         have hsn:=HW1.out.2 _ (getD_mem Dn str0 j hjt)
         have hjl:(j:Int)<(Dn.length:Int):=by omega
         have HT:Hid (M.delAll S (Dn.take (j+1))=(M.delAll S (Dn.take j)).drop (Dn.getD j str0)):=M.delAll_take S Dn j hjt
         generalize Dn.getD j str0=s at *
         have hkey:keyOf Tryz.prog 9 (.string s)=some (.string s.data.toList):=WideMaps.keyOf_string_mk Tryz.underlying9 hsn
         obtain⟨n,D,hn,hown,him,hat⟩:=HI.out.1
         have HD:Hid (n≤100000∧IsMap D∧∀s,D.atKey (.string s) (.lit (.bool false))=.lit (.bool (M.delAll S (Dn.take j) s))):=⟨hn,him,hat⟩
         clear hn him hat hsn
         go_wp2_with (at_delete;refine wpList_delete_own _ rfl _ _ 66 9 rfl 4 keyS Tryz.underlying66 _ g n D rfl hown _ _ rfl hkey ?_;intro w3 hown3 hturn3)
         go_roundw
         case rel =>
          refine⟨j+1,by omega,by go_num,?_,HI.out.2.1.trans (Kp.set HI.out.1 hturn3.grown),HI.out.2.2.grown hturn3.grown HI.out.2.2.size (fun i hi=>by cases hi;exact Hg.out)⟩
          rw[HT.out]
          exact BAt.cut HD.out.1 HD.out.2.1 HD.out.2.2 hown3
         case measure=>simp[intOf];omega
        ·obtain rfl:j=Dn.length:=by omega
         have HS2:Hid (BAt wr g 100000 (M.delAll S0 ((out.take (k+1)).flatMap M.defined))∧Below w.heap.size w wr):=by
          have:=HI.out
          rw[List.take_length] at this
          rw[HN.out]
          exact⟨this.1,this.2.2⟩
         clear HI HN HW1
         go_wp2_with fail
         go_roundw
         case rel=>exact⟨k+1,by omega,by go_num,HS2.out.1,HS2.out.2⟩
         case measure=>simp[intOf];omega
      ·obtain rfl:k=out.length:=by omega
       have HS2:Hid (BAt wr g 100000 (M.lackSet first out)):=by
        have:=HS.out
        rw[List.take_length] at this
        rw[HS0e.out]
        exact this
       clear HS HS0e
       go_wp2_with fail
       go_ret
       exact⟨HB.out,g,100000,rfl,HS2.out⟩
end Go.Proofs.YtpkfmfhodbjckaaGreatDoor
namespace Go.Proofs.YtpkfmfhodbjckaaGreatDoor
open Go Go.RowKit
structure ChS (w0:World) (B b3 b4:Nat) (vF:Value) (W:World) (u vO vP:Value) (es:List PEnt) (prs:List (Nat × Nat)):Prop where
 bel:Below w0.heap.size w0 W
 bs:B≤W.heap.size
 c3:W.heap[b3]?=some (.cells #[vF] 39 (0,0))
 c4:W.heap[b4]?=some (.cells #[u] 35 (0,0))
 rowO:W.ownsRow B 43 2 vO es.length (es.flatMap pentCells)
 rowP:W.ownsRow B 69 2 vP prs.length (prs.flatMap encPr)
 ent:∀e∈es,FragsAt w0 e.vF e.p.frags∧DefsAt w0 e.vD e.p.defs
section
variable {w0 W X : World} {B b3 b4 : Nat} {vF u vO vP v1 : Value} {es : List PEnt} {prs : List (Nat × Nat)}
theorem ChS.later(h:ChS w0 B b3 b4 vF W u vO vP es prs)(hb:Below W.heap.size W X):ChS w0 B b3 b4 vF X u vO vP es prs :=
 have hg:=grown_of_below hb none
 ⟨h.bel.trans (hb.mono h.bel.size),Nat.le_trans h.bs hb.size,blk hb h.c3,blk hb h.c4,h.rowO.kept hg own_self,h.rowP.kept hg own_self,h.ent⟩
theorem ChS.growO{e:PEnt}(h:ChS w0 B b3 b4 vF W u vO vP es prs)(hB:w0.heap.size≤B)(hg:W.grownBy X vO.ownBlock)(hr:X.ownsRow B 43 2 v1 (es.length+1) (es.flatMap pentCells++pentCells e))(he:FragsAt w0 e.vF e.p.frags∧DefsAt w0 e.vD e.p.defs):ChS w0 B b3 b4 vF X u v1 vP (es++[e]) prs:=by
 refine⟨h.bel.grown hg h.bel.size (fun k hk=>Nat.le_trans hB (h.rowO.lt k hk).1),Nat.le_trans h.bs hg.size,block_kept h.rowO hg h.c3 (by decide),block_kept h.rowO hg h.c4 (by decide),?_,h.rowP.kept hg (own_apart h.rowP h.rowO (by decide)),fun x hx=>?_⟩
 ·rw[List.length_append,List.flatMap_append]
  simpa [List.flatMap_cons] using hr
 ·rcases List.mem_append.1 hx with hx|hx
  ·exact h.ent x hx
  ·rw[List.mem_singleton.1 hx];exact he
theorem ChS.growP{x:Nat × Nat}(h:ChS w0 B b3 b4 vF W u vO vP es prs)(hB:w0.heap.size≤B)(hg:W.grownBy X vP.ownBlock)(hr:X.ownsRow B 69 2 v1 (prs.length+1) (prs.flatMap encPr++encPr x)):ChS w0 B b3 b4 vF X u vO v1 es (prs++[x]):=by
 refine⟨h.bel.grown hg h.bel.size (fun k hk=>Nat.le_trans hB (h.rowP.lt k hk).1),Nat.le_trans h.bs hg.size,block_kept h.rowP hg h.c3 (by decide),block_kept h.rowP hg h.c4 (by decide),h.rowO.kept hg (own_apart h.rowO h.rowP (by decide)),?_,h.ent⟩
 rw[List.length_append,List.flatMap_append]
 simpa [List.flatMap_cons] using hr
theorem ChS.store(h:ChS w0 B b3 b4 vF W u vO vP es prs)(h4:w0.heap.size≤b4)(h34:b3≠b4)(v:Value):ChS w0 B b3 b4 vF (W.setCell ⟨b4,0,none⟩ v) v vO vP es prs :=
 have hg:=grown_set W b4 0 v
 ⟨h.bel.setCell h4 _,Nat.le_trans h.bs hg.size,(Below.heap_setCell _ _ _ _ h34).trans h.c3,setB' h.c4 _,h.rowO.kept hg (own_ne h.rowO h.c4 (by decide)),h.rowP.kept hg (own_ne h.rowP h.c4 (by decide)),h.ent⟩
theorem ChS.parts(h:ChS w0 B b3 b4 vF W u vO vP es prs):PartsAt W vO (es.map (·.p)) :=
 parts_of (row_slice pent0 pentCells (fun _=>rfl) es h.rowO) (fun e he=>⟨(h.ent e he).1.later h.bel,(h.ent e he).2.later h.bel⟩)
end
structure Ch1 (first:List ByteArray) (its:List M.Itm) (i:Nat) (es:List PEnt) (prs:List (Nat × Nat)):Prop where
 out:es.map (·.p)=((its.take i).foldl M.chooseStep (M.firstAll first,[])).2
 len:prs.length=es.length
 low:∀x∈prs,x.1<i
 ok:∀e∈es,M.Ok e.p
 few:es.length≤8*i
structure ChR (first:List ByteArray) (i:Nat) (s:M.Ars) (es:List PEnt) (prs:List (Nat × Nat)):Prop where
 out:es.map (·.p)=s.out
 st:s.st=M.enterAll (M.firstAll first) s.out
 len:prs.length=es.length
 low:∀x∈prs,x.1≤i
 has:∀k,(i,k)∈prs↔s.tk.getD k false=true
 tl:s.tk.length=8
 ok:∀e∈es,M.Ok e.p
theorem Ch1.st{first:List ByteArray}{its:List M.Itm}{i:Nat}{es:List PEnt}{prs:List (Nat × Nat)}(h:Ch1 first its i es prs):((its.take i).foldl M.chooseStep (M.firstAll first,[])).1=M.enterAll (M.firstAll first) (es.map (·.p)):=by
 rw[h.out];exact M.choose_st first _ _ rfl
theorem Ch1.start{first:List ByteArray}{its:List M.Itm} : Ch1 first its 0 [] []:=⟨rfl,rfl,fun x hx=>(by cases hx),fun x hx=>(by cases hx),Nat.le_refl _⟩
theorem Ch1.plain{first:List ByteArray}{its:List M.Itm}{i:Nat}{es:List PEnt}{prs:List (Nat × Nat)}{e:PEnt}(h:Ch1 first its i es prs)(hi:i<its.length)(ha:(its.getD i ⟨false,[]⟩).arch=false)(he:e.p=(its.getD i ⟨false,[]⟩).parts.getD 0 M.nilP)(hk:M.Ok e.p) :
  Ch1 first its (i+1) (es++[e]) (prs++[(i,0)]):=by
 refine⟨?_,by rw[List.length_append,List.length_append,h.len];rfl,fun x hx=>?_,fun x hx=>?_,by rw[List.length_append];have:=h.few;simp;omega⟩
 ·rw[choose_take its _ i hi,M.chooseStep,ha,List.map_append,h.out]
  simp[he]
 ·rcases List.mem_append.1 hx with hx|hx
  ·have:=h.low x hx;omega
  ·rw[List.mem_singleton.1 hx];exact Nat.lt_succ_self _
 ·rcases List.mem_append.1 hx with hx|hx
  ·exact h.ok x hx
  ·rw[List.mem_singleton.1 hx];exact hk
theorem none8_at(k:Nat):M.none8.getD k false=false:=by
 unfold M.none8
 rw[List.getD_eq_getElem?_getD]
 cases h:(List.replicate 8 false)[k]? with
 | none=>rfl
 | some b=>exact List.eq_of_mem_replicate (List.mem_of_getElem? h)
theorem Ch1.open{first:List ByteArray}{its:List M.Itm}{i:Nat}{es:List PEnt}{prs:List (Nat × Nat)}(h:Ch1 first its i es prs) :
  ChR first i ⟨((its.take i).foldl M.chooseStep (M.firstAll first,[])).1,((its.take i).foldl M.chooseStep (M.firstAll first,[])).2,M.none8⟩ es prs :=
 ⟨h.out,by rw[h.st,h.out],h.len,fun x hx=>Nat.le_of_lt (h.low x hx),fun k=>⟨fun hm=>absurd (h.low _ hm) (Nat.lt_irrefl _),fun hk=>(by
  have:M.none8.getD k false=true:=hk
  rw[none8_at] at this;cases this)⟩,rfl,h.ok⟩
theorem ChR.close{first:List ByteArray}{its:List M.Itm}{i:Nat}{s:M.Ars}{es es0:List PEnt}{prs prs0:List (Nat × Nat)}(h:ChR first i s es prs)(h0:Ch1 first its i es0 prs0)(hi:i<its.length)(ha:(its.getD i ⟨false,[]⟩).arch=true)(h8:(its.getD i ⟨false,[]⟩).parts.length≤8)
  (hs:M.search (its.getD i ⟨false,[]⟩).parts ((its.take i).foldl M.chooseStep (M.firstAll first,[])).1 ((its.take i).foldl M.chooseStep (M.firstAll first,[])).2=s):Ch1 first its (i+1) es prs:=by
 refine⟨?_,h.len,fun x hx=>by have:=h.low x hx;omega,h.ok,?_⟩
 ·rw[choose_take its _ i hi,M.chooseStep,ha,h.out,←hs];rfl
 ·have h1:=M.search_out (its.getD i ⟨false,[]⟩).parts ((its.take i).foldl M.chooseStep (M.firstAll first,[])).1 ((its.take i).foldl M.chooseStep (M.firstAll first,[])).2 h8
  rw[hs,←h.out,←h0.out,List.length_map,List.length_map] at h1
  have:=h0.few
  omega
theorem ChR.take{first:List ByteArray}{i k:Nat}{s:M.Ars}{es:List PEnt}{prs:List (Nat × Nat)}{e:PEnt}(h:ChR first i s es prs)(hk:k<8)(ht:s.tk.getD k false=false)(he:M.Ok e.p) :
  ChR first i { M.take s e.p with tk:=s.tk.set k true } (es++[e]) (prs++[(i,k)]):=by
 refine⟨?_,?_,by rw[List.length_append,List.length_append,h.len];rfl,fun x hx=>?_,fun q=>?_,by simp[h.tl],fun x hx=>?_⟩
 ·rw[List.map_append,h.out];rfl
 ·show M.enter s.st e.p=M.enterAll (M.firstAll first) (s.out++[e.p])
  rw[M.enterAll_one,h.st]
 ·rcases List.mem_append.1 hx with hx|hx
  ·exact h.low x hx
  ·rw[List.mem_singleton.1 hx];exact Nat.le_refl _
 ·show (i,q)∈prs++[(i,k)]↔(s.tk.set k true).getD q false=true
  rw[List.mem_append,List.mem_singleton,h.has q,List.getD_eq_getElem?_getD,List.getD_eq_getElem?_getD,List.getElem?_set]
  by_cases hq:k=q
  ·subst hq
   simp[h.tl,hk]
  ·simp[hq]
   exact fun e=>absurd e.symm hq
 ·rcases List.mem_append.1 hx with hx|hx
  ·exact h.ok x hx
  ·rw[List.mem_singleton.1 hx];exact he
end Go.Proofs.YtpkfmfhodbjckaaGreatDoor
namespace Go.Proofs.YtpkfmfhodbjckaaGreatDoor
open Go Go.RowKit
theorem getD_set_self{s:Array Bool}{j:Nat}(h:s.getD j true=false):(s.setIfInBounds j true).getD j false=true:=by
 have hlt:j<s.size:=by
  rcases Nat.lt_or_ge j s.size with h1|h1
  ·exact h1
  ·rw[Array.getD,dif_neg (by omega)] at h;cases h
 simp[Array.getD,hlt]
def plC (w:World) (B N b3 b4 n8:Nat) (vF vO vP:Value) (it:Array Value) (es:List PEnt) (prs:List (Nat × Nat)) (sd:Array Bool) (W:World):Prop :=
 (Below w.heap.size w W∧N≤W.heap.size∧W.heap[b3]?=some (.cells #[vF] 39 (0,0))∧W.heap[b4]?=some (.cells #[vO] 35 (0,0))∧W.heap[n8]?=some (.cells it 64 (0,0))) ∧
 (sd.getD 6 false=false→W.ownsRow B 43 2 vO es.length (es.flatMap pentCells))∧(sd.getD 11 false=false→W.ownsRow B 69 2 vP prs.length (prs.flatMap encPr))
def plR (B n8 i bp off n cP:Nat) (vO vP:Value) (e:PEnt) (es:List PEnt) (prs:List (Nat × Nat)) (j:Nat) (W:World) (u:Value):Prop :=
 match j with
 | 0=>u=vO
 | 1=>u=.pointer (some ⟨n8,1,none⟩)
 | 2=>u=.slice (some ⟨bp,off,none⟩) n cP
 | 3=>u=.pointer (some ⟨bp,off,none⟩)
 | 4=>u=.agg #[e.vF,e.vD]
 | 5=>∃g,u=.slice (some ⟨g,0,none⟩) 1 1∧W.heap[g]?=some (.cells #[e.vF,e.vD] 43 (0,0))∧vO.ownBlock≠some g
 | 6=>W.ownsRow B 43 2 u (es.length+1) (es.flatMap pentCells++pentCells e)
 | 7=>u=vP
 | 8=>u=.int .i64 (i:Nat)
 | 9=>u=.agg #[.int .i64 (i:Nat),.int .i64 0]
 | 10=>∃g,u=.slice (some ⟨g,0,none⟩) 1 1∧W.heap[g]?=some (.cells #[.int .i64 (i:Nat),.int .i64 0] 69 (0,0))∧vP.ownBlock≠some g
 | 11=>W.ownsRow B 69 2 u (prs.length+1) (prs.flatMap encPr++encPr (i,0))
 | _=>False
section
variable {w W X : World} {B N b3 b4 n8 i bp off n cP : Nat} {vF vO vP : Value} {it : Array Value} {e : PEnt} {es : List PEnt} {prs : List (Nat × Nat)} {sd : Array Bool}
theorem plC.set(h:plC w B N b3 b4 n8 vF vO vP it es prs sd W)(j:Nat)(h6:j≠6)(h11:j≠11):plC w B N b3 b4 n8 vF vO vP it es prs (sd.setIfInBounds j true) W :=
 ⟨h.1,fun x=>h.2.1 (by rwa [getD_set_ne false h6] at x),fun x=>h.2.2 (by rwa [getD_set_ne false h11] at x)⟩
theorem plC.later(h:plC w B N b3 b4 n8 vF vO vP it es prs sd W)(hb:Below W.heap.size W X):plC w B N b3 b4 n8 vF vO vP it es prs sd X :=
 have hg:=grown_of_below hb none
 ⟨⟨h.1.1.trans (hb.mono h.1.1.size),Nat.le_trans h.1.2.1 hb.size,blk hb h.1.2.2.1,blk hb h.1.2.2.2.1,blk hb h.1.2.2.2.2⟩,
  fun x=>(h.2.1 x).kept hg own_self,fun x=>(h.2.2 x).kept hg own_self⟩
theorem plC.growO(h:plC w B N b3 b4 n8 vF vO vP it es prs sd W)(hB:w.heap.size≤B)(h6:sd.getD 6 true=false)(hr:W.ownsRow B 43 2 vO es.length (es.flatMap pentCells))(hg:W.grownBy X vO.ownBlock):plC w B N b3 b4 n8 vF vO vP it es prs (sd.setIfInBounds 6 true) X :=
 ⟨⟨h.1.1.grown hg h.1.1.size (fun k hk=>Nat.le_trans hB (hr.lt k hk).1),Nat.le_trans h.1.2.1 hg.size,block_kept hr hg h.1.2.2.1 (by decide),block_kept hr hg h.1.2.2.2.1 (by decide),block_kept hr hg h.1.2.2.2.2 (by decide)⟩,
  fun x=>(by rw[getD_set_self h6] at x;cases x),fun x=>(h.2.2 (by rwa [getD_set_ne false (by decide)] at x)).kept hg (own_apart (h.2.2 (by rwa [getD_set_ne false (by decide)] at x)) hr (by decide))⟩
theorem plC.growP(h:plC w B N b3 b4 n8 vF vO vP it es prs sd W)(hB:w.heap.size≤B)(h11:sd.getD 11 true=false)(hr:W.ownsRow B 69 2 vP prs.length (prs.flatMap encPr))(hg:W.grownBy X vP.ownBlock):plC w B N b3 b4 n8 vF vO vP it es prs (sd.setIfInBounds 11 true) X :=
 ⟨⟨h.1.1.grown hg h.1.1.size (fun k hk=>Nat.le_trans hB (hr.lt k hk).1),Nat.le_trans h.1.2.1 hg.size,block_kept hr hg h.1.2.2.1 (by decide),block_kept hr hg h.1.2.2.2.1 (by decide),block_kept hr hg h.1.2.2.2.2 (by decide)⟩,
  fun x=>(h.2.1 (by rwa [getD_set_ne false (by decide)] at x)).kept hg (own_apart (h.2.1 (by rwa [getD_set_ne false (by decide)] at x)) hr (by decide)),fun x=>(by rw[getD_set_self h11] at x;cases x)⟩
theorem plR_later(hb:Below W.heap.size W X):∀j u,plR B n8 i bp off n cP vO vP e es prs j W u→plR B n8 i bp off n cP vO vP e es prs j X u:=by
 intro j u h
 have hg:=grown_of_below hb none
 match j,h with
 | 0,h=>exact h
 | 1,h=>exact h
 | 2,h=>exact h
 | 3,h=>exact h
 | 4,h=>exact h
 | 5,h=>obtain⟨g,h1,h2,h3⟩:=h;exact⟨g,h1,blk hb h2,h3⟩
 | 6,h=>exact World.ownsRow.kept h hg own_self
 | 7,h=>exact h
 | 8,h=>exact h
 | 9,h=>exact h
 | 10,h=>obtain⟨g,h1,h2,h3⟩:=h;exact⟨g,h1,blk hb h2,h3⟩
 | 11,h=>exact World.ownsRow.kept h hg own_self
theorem plR_growO(hr:W.ownsRow B 43 2 vO es.length (es.flatMap pentCells))(hg:W.grownBy X vO.ownBlock):∀j u,j≠6→plR B n8 i bp off n cP vO vP e es prs j W u→plR B n8 i bp off n cP vO vP e es prs j X u:=by
 intro j u hj h
 match j,hj,h with
 | 0,_,h=>exact h
 | 1,_,h=>exact h
 | 2,_,h=>exact h
 | 3,_,h=>exact h
 | 4,_,h=>exact h
 | 5,_,h=>obtain⟨g,h1,h2,h3⟩:=h;exact⟨g,h1,(hg.block g (lt1 h2) (Ne.symm h3)).trans h2,h3⟩
 | 6,hj,_=>exact absurd rfl hj
 | 7,_,h=>exact h
 | 8,_,h=>exact h
 | 9,_,h=>exact h
 | 10,_,h=>obtain⟨g,h1,h2,h3⟩:=h;exact⟨g,h1,block_kept hr hg h2 (by decide),h3⟩
 | 11,_,h=>exact World.ownsRow.kept h hg (own_apart h hr (by decide))
theorem plR_growP(hr:W.ownsRow B 69 2 vP prs.length (prs.flatMap encPr))(hg:W.grownBy X vP.ownBlock):∀j u,j≠11→plR B n8 i bp off n cP vO vP e es prs j W u→plR B n8 i bp off n cP vO vP e es prs j X u:=by
 intro j u hj h
 match j,hj,h with
 | 0,_,h=>exact h
 | 1,_,h=>exact h
 | 2,_,h=>exact h
 | 3,_,h=>exact h
 | 4,_,h=>exact h
 | 5,_,h=>obtain⟨g,h1,h2,h3⟩:=h;exact⟨g,h1,block_kept hr hg h2 (by decide),h3⟩
 | 6,_,h=>exact World.ownsRow.kept h hg (own_apart h hr (by decide))
 | 7,_,h=>exact h
 | 8,_,h=>exact h
 | 9,_,h=>exact h
 | 10,_,h=>obtain⟨g,h1,h2,h3⟩:=h;exact⟨g,h1,(hg.block g (lt1 h2) (Ne.symm h3)).trans h2,h3⟩
 | 11,hj,_=>exact absurd rfl hj
end
end Go.Proofs.YtpkfmfhodbjckaaGreatDoor
namespace Go.Proofs.YtpkfmfhodbjckaaGreatDoor
open Go Go.RowKit Go.Maps
def lenOf:Value→Nat
 | .slice _ n _=>n
 | _=>0
theorem chosen_any(its:List M.Itm)(first:List ByteArray)(a aF:Option Addr)(c cF:Nat)(w:World)(h:ItemsAt w (.slice a its.length c) its)(hf:StrsAt w (.slice aF first.length cF) first)(hck:M.checkItems its=0)(hfl:first.length≤12) :
  Calls Tryz.prog 10 #[.slice a its.length c,.slice aF first.length cF] w fun e w'=>Below w.heap.size w w'∧∃x y v,e=.returned (.tuple #[.slice x (its.foldl M.chooseStep (M.firstAll first,[])).2.length y,v])∧PartsAt w' (.slice x (its.foldl M.chooseStep (M.firstAll first,[])).2.length y) (its.foldl M.chooseStep (M.firstAll first,[])).2:=by
 obtain⟨iP,hiP,hP0,hP1,hP2⟩:=info_parts (P:=Tryz.prog) (e:=43) (z:=.agg #[.slice none 0 0,.slice none 0 0]) (size:=2) (bytes:=48) (by kernel_rfl)
 obtain⟨iR,hiR,hR0,hR1,hR2⟩:=info_parts (P:=Tryz.prog) (e:=69) (z:=.agg #[.int .i64 0,.int .i64 0]) (size:=2) (bytes:=16) (by kernel_rfl)
 obtain⟨h12,hit⟩:=items_ok hck
 have HI:Hid (∀W,Below w.heap.size w W→ItemsAt W (.slice a its.length c) its∧StrsAt W (.slice aF first.length cF) first):=fun W hW=>⟨h.later hW,hf.later hW⟩
 have HIt:Hid (∀it∈its,M.checkItem it=0):=hit
 have hA:Below w.heap.size w ((w.alloc (.cells #[.slice aF first.length cF] 39)).alloc (.cells #[.slice none 0 0] 35)):=(bra _ _).alloc (by simp) _
 have h3:=(heap_alloc_old (w.alloc (.cells #[.slice aF first.length cF] 39)) (.cells #[.slice none 0 0] 35) (by simp)).trans (heap_alloc_new w (.cells #[.slice aF first.length cF] 39))
 have h4:=heap_alloc_new (w.alloc (.cells #[.slice aF first.length cF] 39)) (.cells #[.slice none 0 0] 35)
 rw[show (w.alloc (.cells #[.slice aF first.length cF] 39)).heap.size=w.heap.size+1 by simp] at h4
 clear h hf hit hck
 go_enter Tryz.func10,Tryz.ntmps10
 go_upto_region 2 with fail
 generalize (w.alloc (.cells #[.slice aF first.length cF] 39)).alloc (.cells #[.slice none 0 0] 35)=V0 at *
 obtain⟨b4,hb4⟩:∃b4,b4=w.heap.size+1:=⟨_,rfl⟩
 rw[←hb4] at h4 ⊢
 obtain⟨b3,hb3⟩:∃b3,b3=w.heap.size:=⟨_,rfl⟩
 rw[←hb3] at h3 ⊢
 obtain⟨B,hB⟩:∃B,B=V0.heap.size:=⟨_,rfl⟩
 have HBb:Hid (w.heap.size≤B∧w.heap.size≤b4∧b3≠b4):=by rw[Hid,hB,hb4,hb3];exact⟨hA.size,by omega,by omega⟩
 have HS0:Hid (ChS w B b3 b4 (.slice aF first.length cF) V0 (.slice none 0 0) (.slice none 0 0) (.slice none 0 0) [] []):=⟨hA,by rw[hB];exact Nat.le_refl _,h3,h4,World.ownsRow_nil _ _ _ _,World.ownsRow_nil _ _ _ _,fun e he=>by cases he⟩
 clear hA h3 h4 hb4 hb3 hB
 go_wp2_with fail
 go_loopw [5,18] (fun s5 s18 wr=>∃(i:Nat) (es:List PEnt) (prs:List (Nat × Nat)) (vO:Value),i≤its.length∧s18=.int .i64 i∧Hid (ChS w B b3 b4 (.slice aF first.length cF) wr vO vO s5 es prs)∧Hid (Ch1 first its i es prs)) (fun _ s18 _=>its.length-(intOf s18).toNat)
 case atStart=>exact⟨0,[],[],_,Nat.zero_le _,rfl,HS0,Ch1.start⟩
 case round =>
  obtain⟨i,es,prs,vO,hi,rfl,HS,HC⟩:=hrel
  clear HS0
  by_cases hlt:i<its.length
  ·obtain⟨bI,off,aP,cP,rfl,e0,e1,hP⟩:=item_at (HI.out w (Below.refl _ _)).1 i hlt
   replace e0:=cell_later HS.out.bel e0
   replace e1:=cell_later HS.out.bel e1
   have hbr:bI<wr.heap.size:=wlt e0
   have hil:(i:Int)<(its.length:Int):=by omega
   obtain⟨h8,h1,hpk⟩:=item_ok (HIt.out _ (getD_mem its ⟨false,[]⟩ i hlt))
   have HPl:Hid (∀e:PEnt,(its.getD i ⟨false,[]⟩).arch=false→e.p=(its.getD i ⟨false,[]⟩).parts.getD 0 M.nilP→M.Ok e.p→Ch1 first its (i+1) (es++[e]) (prs++[(i,0)])):=fun e ha he hk=>HC.out.plain hlt ha he hk
   have HCl:Hid (∀s es' prs',ChR first i s es' prs'→(its.getD i ⟨false,[]⟩).arch=true→M.search (its.getD i ⟨false,[]⟩).parts ((its.take i).foldl M.chooseStep (M.firstAll first,[])).1 ((its.take i).foldl M.chooseStep (M.firstAll first,[])).2=s→Ch1 first its (i+1) es' prs'):=fun s es' prs' hR ha hs=>hR.close HC.out hlt ha h8 hs
   have HOp:=HC.out.open
   have hfew:=HC.out.few
   generalize ((its.take i).foldl M.chooseStep (M.firstAll first,[])).1=st0 at *
   generalize ((its.take i).foldl M.chooseStep (M.firstAll first,[])).2=out0 at *
   generalize its.getD i ⟨false,[]⟩=it at *
   obtain⟨ar,ps⟩:=it
   simp only at e0 e1 hP h8 h1 hpk HPl HCl
   have HPk:Hid (∀p∈ps,M.Ok p):=fun p hp=>(M.ok_iff p).1 (hpk p hp)
   have hAl:=bra wr (.cells #[.bool ar,.slice aP ps.length cP] 64)
   have hq:=heap_alloc_new wr (.cells #[.bool ar,.slice aP ps.length cP] 64)
   have HS1:Hid (ChS w B b3 b4 (.slice aF first.length cF) (wr.alloc (.cells #[.bool ar,.slice aP ps.length cP] 64)) vO vO u5 es prs):=HS.out.later hAl
   have HP:Hid (PartsAt w (.slice aP ps.length cP) ps):=hP
   go_upto_region 5 with fail
   obtain⟨n8,hn8⟩:∃n8,n8=wr.heap.size:=⟨_,rfl⟩
   rw[←hn8] at hq ⊢
   clear e0 e1 hbr hP hAl HS hn8 hpk HC
   generalize wr.alloc (.cells #[.bool ar,.slice aP ps.length cP] 64)=X at *
   have Hq:Hid (X.heap[n8]?=some (.cells #[.bool ar,.slice aP ps.length cP] 64 (0,0))):=hq
   have q0:=cellC hq 0 rfl
   have ql:=lt1 hq
   clear hq
   cases ar with
   | false =>
    have hl1:ps.length=1:=h1 rfl
    obtain⟨bp,off2,a1,a2,c1,c2,hap,e0,e1,hF,hD⟩:=part_at HP.out 0 (by omega)
    subst hap
    rw[Nat.zero_mul,Nat.add_zero] at e0 e1
    have hpo:=HPk.out _ (getD_mem ps M.nil 0 (by omega))
    have HC1:Hid (Ch1 first its (i+1) (es++[⟨ps.getD 0 M.nil,.slice a1 (ps.getD 0 M.nil).frags.length c1,.slice a2 (ps.getD 0 M.nil).defs.length c2⟩]) (prs++[(i,0)])):=HPl.out ⟨ps.getD 0 M.nil,.slice a1 (ps.getD 0 M.nil).frags.length c1,.slice a2 (ps.getD 0 M.nil).defs.length c2⟩ rfl rfl hpo
    generalize ps.getD 0 M.nil=p at *
    have HFD:Hid (FragsAt w (.slice a1 p.frags.length c1) p.frags∧DefsAt w (.slice a2 p.defs.length c2) p.defs):=⟨hF,hD⟩
    have hsv:=HS1.out
    have hvO:∀k,vO.ownBlock=some k→k<X.heap.size:=fun k hk=>(hsv.rowO.lt k hk).2
    have hvP:∀k,u5.ownBlock=some k→k<X.heap.size:=fun k hk=>(hsv.rowP.lt k hk).2
    have hBX:=hsv.bs
    have hce:=HC1.out.len
    have hcf:=HC1.out.few
    rw[List.length_append,List.length_append] at hce
    rw[List.length_append] at hcf
    simp only[List.length_cons,List.length_nil] at hce hcf
    have hN:es.length≤200∧prs.length≤200:=⟨by omega,by omega⟩
    have hC0:plC w B X.heap.size b3 b4 n8 (.slice aF first.length cF) vO u5 #[.bool false,.slice (some ⟨bp,off2,none⟩) ps.length cP] es prs (Array.replicate 14 false) X:=⟨⟨hsv.bel,Nat.le_refl _,hsv.c3,hsv.c4,Hq.out⟩,fun _=>hsv.rowO,fun _=>hsv.rowP⟩
    clear hF hD hpo HPl HCl HOp hce hcf hfew HPk h8 h1
    go_upto_region 6 with fail
    clear q0 ql
    refine wp_region_rel 12 (plC w B X.heap.size b3 b4 n8 (.slice aF first.length cF) vO u5 #[.bool false,.slice (some ⟨bp,off2,none⟩) ps.length cP] es prs) (fun v=>⟨#[Value.slice (some { block:=bI,off:=off }) its.length c,Value.slice aF first.length cF,undef,Value.pointer (some { block:=b3,off:=0 }),Value.pointer (some { block:=b4,off:=0 }),u5,Value.func (Fn.func (25:Nat)) #[] #[Value.pointer (some { block:=b3,off:=0 }),Value.pointer (some { block:=b4,off:=0 })],Value.int IntKind.i64 ↑i,Value.pointer (some { block:=n8,off:=0 }),u9,u10,u11,u12,undef,u14,Value.func (Fn.func (25:Nat)) #[] #[Value.pointer (some { block:=b3,off:=0 }),Value.pointer (some { block:=b4,off:=0 })],Value.slice (some { block:=bI,off:=off }) its.length c,Value.int IntKind.i64 ↑its.length,Value.int IntKind.i64 ↑i,Value.bool true,Value.int IntKind.i64 ↑i,Value.pointer (some { block:=bI,off:=off+i*2 }),Value.agg #[Value.bool false,Value.slice (some { block:=bp,off:=off2 }) ps.length cP],Value.pointer (some { block:=n8,off:=0 }),Value.bool false,Value.bool true,v 0,v 1,v 2,v 3,v 4,v 5,v 6,v 7,v 8,v 9,v 10,v 11,u38,u39,u40,u41,u42,u43,u44,u45,u46,u47,u48,u49,u50,u51,u52,u53,u54,u55,u56,u57,u58,u59,u60,u61,u62,u63,u64,u65,u66,u67,u68,u69,u70,u71,u72,u73,u74,u75,u76,u77,u78,u79,u80,u81,u82,u83,u84,u85,u86,u87,u88,u89,u90,u91,undef,undef],[]⟩) (plR B n8 i bp off2 ps.length cP vO u5 ⟨p,.slice a1 p.frags.length c1,.slice a2 p.defs.length c2⟩ es prs) (fun _ _ _ _=>True) (by kernel_rfl) (by kernel_rfl) (hC0.later (Below.refl _ _).drew) ⟨fun j=>#[u26,u27,u28,u29,u30,u31,u32,u33,u34,u35,u36,u37].getD j undef,rfl⟩ ?_ ?_
    ·intro j op hj ho
     rcases(by omega:j=0∨j=1∨j=2∨j=3∨j=4∨j=5∨j=6∨j=7∨j=8∨j=9∨j=10∨j=11) with rfl|rfl|rfl|rfl|rfl|rfl|rfl|rfl|rfl|rfl|rfl|rfl
     all_goals cases ho
     all_goals refine relStep_of rfl rfl ?_
     all_goals rintro sd v W hC hin hsd hdep hdz
     all_goals obtain⟨cB,cN,cc3,cc4,cc8⟩:=hC.1
     ·have k4:=cellC cc4 0 rfl
      exact wp_val vO (by simp[execOp,Act.eval,go_sem,k4]) ⟨_,rfl,hC.set 0 (by decide) (by decide),fun _ _ _ _ h=>h,rfl,fun _ _ _ _=>⟨trivial,trivial⟩⟩
     ·exact wp_val (.pointer (some ⟨n8,1,none⟩)) (by simp[execOp,Act.eval,go_sem]) ⟨_,rfl,hC.set 1 (by decide) (by decide),fun _ _ _ _ h=>h,rfl,fun _ _ _ _=>⟨trivial,trivial⟩⟩
     ·have hv:v 1=.pointer (some ⟨n8,1,none⟩):=hdep ⟨1,.data⟩ (by simp) rfl
      have k8:=cellC cc8 1 rfl
      exact wp_val (.slice (some ⟨bp,off2,none⟩) ps.length cP) (by simp[execOp,Act.eval,go_sem,hv,k8]) ⟨_,rfl,hC.set 2 (by decide) (by decide),fun _ _ _ _ h=>h,rfl,fun _ _ _ _=>⟨trivial,trivial⟩⟩
     ·have hv:v 2=.slice (some ⟨bp,off2,none⟩) ps.length cP:=hdep ⟨2,.data⟩ (by simp) rfl
      exact wp_val (.pointer (some ⟨bp,off2,none⟩)) (by simp[execOp,Act.eval,go_sem,hv,hl1]) ⟨_,rfl,hC.set 3 (by decide) (by decide),fun _ _ _ _ h=>h,rfl,fun _ _ _ _=>⟨trivial,trivial⟩⟩
     ·have hv:v 3=.pointer (some ⟨bp,off2,none⟩):=hdep ⟨3,.data⟩ (by simp) rfl
      have k0:=cell_later cB e0
      have k1:=cell_later cB e1
      exact wp_val (.agg #[.slice a1 p.frags.length c1,.slice a2 p.defs.length c2]) (by simp[execOp,Act.eval,go_sem,hv,k0,k1]) ⟨_,rfl,hC.set 4 (by decide) (by decide),fun _ _ _ _ h=>h,rfl,fun _ _ _ _=>⟨trivial,trivial⟩⟩
     ·have hv:v 4=.agg #[.slice a1 p.frags.length c1,.slice a2 p.defs.length c2]:=hdep ⟨4,.data⟩ (by simp) rfl
      have hA2:=bra W (.cells #[.slice a1 p.frags.length c1,.slice a2 p.defs.length c2] 43)
      exact wp_valW (.slice (some ⟨W.heap.size,0,none⟩) 1 1) (W.alloc (.cells #[.slice a1 p.frags.length c1,.slice a2 p.defs.length c2] 43)) (by simp[execOp,Act.eval,go_sem,hv]) ⟨_,rfl,(hC.later hA2).set 5 (by decide) (by decide),(fun k x _ _=>plR_later hA2 k x),⟨_,rfl,heap_alloc_new W _,fun e=>by have:=hvO _ e;omega⟩,fun _ _ _ _=>⟨trivial,trivial⟩⟩
     ·have h0:v 0=vO:=hdep ⟨0,.data⟩ (by simp) rfl
      obtain⟨g,h5,hg5,-⟩:plR B n8 i bp off2 ps.length cP vO u5 ⟨p,.slice a1 p.frags.length c1,.slice a2 p.defs.length c2⟩ es prs 5 W (v 5):=hdep ⟨5,.data⟩ (by simp) rfl
      have hrow:=hC.2.1 (getD_both hsd)
      have hnews:∀j u,(#[.slice a1 p.frags.length c1,.slice a2 p.defs.length c2]:Array Value).toList[j]?=some u→W.cell? ((⟨g,0,none⟩:Addr).add j)=some u:=World.news_of_block hg5
      refine wp_append_own W _ _ 35 rfl B 43 iP (.agg #[.slice none 0 0,.slice none 0 0]) 2 48 Tryz.underlying35 hiP hP0 hP1 hP2 rfl (by decide) vO es.length (es.flatMap pentCells) (by simp[Act.eval,h0]) hrow ⟨g,0,none⟩ 1 1 (#[.slice a1 p.frags.length c1,.slice a2 p.defs.length c2]:Array Value).toList (by simp[Act.eval,h5]) rfl hnews (fun u hu=>by simp at hu;rcases hu with rfl|rfl<;>rfl) (by unfold maxLen;omega) (by omega) (by omega) ?_
      intro v' w' h2 h3 _
      exact⟨v',rfl,hC.growO HBb.out.1 hsd hrow h3,(fun k x hk _=>plR_growO hrow h3 k x hk),h2,fun _ _ _ _=>⟨trivial,trivial⟩⟩
     ·exact wp_val u5 (by simp[execOp,Act.eval,go_sem]) ⟨_,rfl,hC.set 7 (by decide) (by decide),fun _ _ _ _ h=>h,rfl,fun _ _ _ _=>⟨trivial,trivial⟩⟩
     ·exact wp_val (.int .i64 (i:Nat)) (by simp[execOp,Act.eval,go_sem]) ⟨_,rfl,hC.set 8 (by decide) (by decide),fun _ _ _ _ h=>h,rfl,fun _ _ _ _=>⟨trivial,trivial⟩⟩
     ·have hv:v 8=.int .i64 (i:Nat):=hdep ⟨8,.data⟩ (by simp) rfl
      exact wp_val (.agg #[.int .i64 (i:Nat),.int .i64 0]) (by simp[execOp,Act.eval,go_sem,hv]) ⟨_,rfl,hC.set 9 (by decide) (by decide),fun _ _ _ _ h=>h,rfl,fun _ _ _ _=>⟨trivial,trivial⟩⟩
     ·have hv:v 9=.agg #[.int .i64 (i:Nat),.int .i64 0]:=hdep ⟨9,.data⟩ (by simp) rfl
      have hA2:=bra W (.cells #[.int .i64 (i:Nat),.int .i64 0] 69)
      exact wp_valW (.slice (some ⟨W.heap.size,0,none⟩) 1 1) (W.alloc (.cells #[.int .i64 (i:Nat),.int .i64 0] 69)) (by simp[execOp,Act.eval,go_sem,hv]) ⟨_,rfl,(hC.later hA2).set 10 (by decide) (by decide),(fun k x _ _=>plR_later hA2 k x),⟨_,rfl,heap_alloc_new W _,fun e=>by have:=hvP _ e;omega⟩,fun _ _ _ _=>⟨trivial,trivial⟩⟩
     ·have h7:v 7=u5:=hdep ⟨7,.data⟩ (by simp) rfl
      obtain⟨g,h10,hg10,-⟩:plR B n8 i bp off2 ps.length cP vO u5 ⟨p,.slice a1 p.frags.length c1,.slice a2 p.defs.length c2⟩ es prs 10 W (v 10):=hdep ⟨10,.data⟩ (by simp) rfl
      have hrow:=hC.2.2 (getD_both hsd)
      have hnews:∀j u,(#[.int .i64 (i:Nat),.int .i64 0]:Array Value).toList[j]?=some u→W.cell? ((⟨g,0,none⟩:Addr).add j)=some u:=World.news_of_block hg10
      refine wp_append_own W _ _ 36 rfl B 69 iR (.agg #[.int .i64 0,.int .i64 0]) 2 16 Tryz.underlying36 hiR hR0 hR1 hR2 rfl (by decide) u5 prs.length (prs.flatMap encPr) (by simp[Act.eval,h7]) hrow ⟨g,0,none⟩ 1 1 (#[.int .i64 (i:Nat),.int .i64 0]:Array Value).toList (by simp[Act.eval,h10]) rfl hnews (fun u hu=>by simp at hu;rcases hu with rfl|rfl<;>rfl) (by unfold maxLen;omega) (by omega) (by omega) ?_
      intro v' w' h2 h3 _
      exact⟨v',rfl,hC.growP HBb.out.1 hsd hrow h3,(fun k x hk _=>plR_growP hrow h3 k x hk),h2,fun _ _ _ _=>⟨trivial,trivial⟩⟩
    ·rintro sd v W hC hR hZ
     have r6:W.ownsRow B 43 2 (v 6) (es.length+1) (es.flatMap pentCells++pentCells ⟨p,.slice a1 p.frags.length c1,.slice a2 p.defs.length c2⟩):=hR 6 (by decide)
     have r11:W.ownsRow B 69 2 (v 11) (prs.length+1) (prs.flatMap encPr++encPr (i,0)):=hR 11 (by decide)
     obtain⟨cB,cN,cc3,cc4,cc8⟩:=hC.1
     obtain⟨z1,y1,h6⟩:=own_len r6
     have hS:ChS w B b3 b4 (.slice aF first.length cF) W vO (v 6) (v 11) (es++[⟨p,.slice a1 p.frags.length c1,.slice a2 p.defs.length c2⟩]) (prs++[(i,0)]):=by
      refine⟨cB,Nat.le_trans hBX cN,cc3,cc4,?_,?_,fun x hx=>?_⟩
      ·rw[List.length_append,List.flatMap_append];simpa [List.flatMap_cons] using r6
      ·rw[List.length_append,List.flatMap_append];simpa [List.flatMap_cons] using r11
      ·rcases List.mem_append.1 hx with hx|hx
       ·exact hsv.ent x hx
       ·rw[List.mem_singleton.1 hx];exact HFD.out
     rw[h6] at hS
     have HS2:Hid (ChS w B b3 b4 (.slice aF first.length cF) (W.setCell ⟨b4,0,none⟩ (.slice z1 (es.length+1) y1)) (.slice z1 (es.length+1) y1) (.slice z1 (es.length+1) y1) (v 11) (es++[⟨p,.slice a1 p.frags.length c1,.slice a2 p.defs.length c2⟩]) (prs++[(i,0)])):=hS.store HBb.out.2.1 HBb.out.2.2 (.slice z1 (es.length+1) y1)
     have k4:=cellC cc4 0 rfl
     have f4:∀j,W.frozen? ⟨b4,j,none⟩=false:=frozenB cc4
     have l4:=lt1 cc4
     simp only[List.drop_succ_cons,List.drop_zero]
     rw[h6]
     clear hR hZ hC r6 r11 hS cc3 cc4 cc8 h6 hC0 hsv hvO hvP hl1
     generalize v 0=t0 at *
     generalize v 1=t1 at *
     generalize v 2=t2 at *
     generalize v 3=t3 at *
     generalize v 4=t4 at *
     generalize v 5=t5 at *
     generalize v 6=t6 at *
     generalize v 7=t7 at *
     generalize v 8=t8 at *
     generalize v 9=t9 at *
     generalize v 10=t10 at *
     generalize v 11=t11 at *
     go_wp2_with fail
     go_roundw
     case rel=>exact⟨i+1,_,_,.slice z1 (es.length+1) y1,by omega,by go_num,HS2,HC1⟩
     case measure=>simp[intOf];omega
   | true =>
    have HR0:Hid (ChR first i ⟨st0,out0,M.none8⟩ es prs):=HOp
    obtain⟨o,ho⟩:∃o,o=es.length:=⟨_,rfl⟩
    have ho8:o≤96:=by omega
    clear HPl h1 HOp
    go_wp2_with fail
    clear q0 ql
    go_loopw [5,9] (fun s5 s9 wr=>∃(f:Nat) (bf:Int) (s:M.Ars) (es:List PEnt) (prs:List (Nat × Nat)) (vO:Value),s9=.int .i64 bf∧bf<prs.length∧Hid (ChS w B b3 b4 (.slice aF first.length cF) wr vO vO s5 es prs)∧Hid (ChR first i s es prs)∧Hid (M.search ps st0 out0=M.rounds ps f s∧8<f+M.cnt s.tk∧es.length=o+M.cnt s.tk)∧Hid (wr.heap[n8]?=some (.cells #[.bool true,.slice aP ps.length cP] 64 (0,0)))) (fun s5 _ _=>300-lenOf s5)
    case atStart=>exact⟨9,-1,⟨st0,out0,M.none8⟩,es,prs,vO,rfl,by omega,HS1,HR0,⟨rfl,by show 8<9+_;omega,by rw[ho];rfl⟩,Hq⟩
    case round =>
     obtain⟨f,bf,s,es2,prs2,vO2,rfl,hbf,HS2,HR2,HF,Hq2⟩:=hrel
     clear HS1 HR0 Hq hfew ho
     clear es prs vO
     have htl:=HR2.out.tl
     have hcl:=M.cnt_le s.tk
     have hln2:=HR2.out.len
     have hel2:=HF.out.2.2
     have hp200:prs2.length≤200:=by omega
     have Hsl:Hid (s.out.length=o+M.cnt s.tk∧s.tk.length=8):=⟨by rw[←HR2.out.out,List.length_map];exact hel2,htl⟩
     obtain⟨aR,cR,rfl⟩:=own_len HS2.out.rowP
     have q1:wr.cell? ⟨n8,1,none⟩=some (.slice aP ps.length cP):=cellB Hq2.out 1
     have ql:=lt1 Hq2.out
     clear htl hcl hln2 hel2
     go_wp2_with fail
     clear q1 ql hbf
     go_loopw [5,47] (fun s5 s47 wr=>∃(k:Nat) (es:List PEnt) (prs:List (Nat × Nat)) (vO:Value),k≤ps.length∧s47=.int .i64 k∧Hid (ChS w B b3 b4 (.slice aF first.length cF) wr vO vO s5 es prs)∧Hid (ChR first i (M.roundN ps s k).1 es prs)∧Hid (((M.roundN ps s k).2=false→prs.length=prs2.length)∧((M.roundN ps s k).2=true→prs2.length<prs.length))∧Hid (wr.heap[n8]?=some (.cells #[.bool true,.slice aP ps.length cP] 64 (0,0)))) (fun _ s47 _=>ps.length-(intOf s47).toNat)
     case atStart=>exact⟨0,es2,prs2,vO2,Nat.zero_le _,rfl,HS2,HR2,⟨fun _=>rfl,fun h=>by cases h⟩,Hq2⟩
     case round =>
      obtain⟨k,es3,prs3,vO3,hk,rfl,HS3,HR3,HFl,Hq3⟩:=hrel
      clear HS2 HR2 Hq2
      have hN:es3.length≤104:=by
       have h1:=M.roundN_out (parts:=ps) Hsl.out.1 k (by rw[Hsl.out.2];omega)
       have h2:=M.cnt_le (M.roundN ps s k).1.tk
       rw[M.roundN_len,Hsl.out.2] at h2
       rw[←HR3.out.out,List.length_map] at h1
       omega
      have hN2:prs3.length≤104:=by rw[HR3.out.len];exact hN
      by_cases hkt:k<ps.length
      ·obtain⟨bp,off2,a1,a2,c1,c2,hap,e0,e1,hF,hD⟩:=part_at HP.out k hkt
       subst hap
       replace e0:=cell_later HS3.out.bel e0
       replace e1:=cell_later HS3.out.bel e1
       have hbr:bp<wr.heap.size:=wlt e0
       have hkl:(k:Int)<(ps.length:Int):=by omega
       have hpo:=HPk.out _ (getD_mem ps M.nil k hkt)
       have HSt:Hid (M.roundN ps s (k+1)=if (M.roundN ps s k).1.tk.getD k false=false∧M.partHelps (M.roundN ps s k).1.st (ps.getD k M.nil)=true then ({ M.take (M.roundN ps s k).1 (ps.getD k M.nil) with tk:=(M.roundN ps s k).1.tk.set k true },true) else M.roundN ps s k):=rfl
       generalize M.roundN ps s k=r at *
       obtain⟨s3,fl⟩:=r
       simp only at HR3 HFl HSt
       generalize ps.getD k M.nil=p at *
       have HFD:Hid (FragsAt w (.slice a1 p.frags.length c1) p.frags∧DefsAt w (.slice a2 p.defs.length c2) p.defs):=⟨hF,hD⟩
       have Hpo:Hid (M.Ok p):=hpo
       have hd60:=hpo.nd
       have hAl:=bra wr (.cells #[.slice a1 p.frags.length c1,.slice a2 p.defs.length c2] 43)
       have hqp:=heap_alloc_new wr (.cells #[.slice a1 p.frags.length c1,.slice a2 p.defs.length c2] 43)
       have HS4:Hid (ChS w B b3 b4 (.slice aF first.length cF) (wr.alloc (.cells #[.slice a1 p.frags.length c1,.slice a2 p.defs.length c2] 43)) vO3 vO3 u5 es3 prs3):=HS3.out.later hAl
       have Hq4:Hid ((wr.alloc (.cells #[.slice a1 p.frags.length c1,.slice a2 p.defs.length c2] 43)).heap[n8]?=some (.cells #[.bool true,.slice (some ⟨bp,off2,none⟩) ps.length cP] 64 (0,0))):=blk hAl Hq3.out
       obtain⟨aR3,cR3,rfl⟩:=own_len HS3.out.rowP
       obtain⟨aO,cO,rfl⟩:=own_len HS3.out.rowO
       clear hF hD hpo hAl HS3 Hq3
       go_upto_region 13 with fail
       clear e0 e1 hbr
       obtain⟨n11,hn11⟩:∃n11,n11=wr.heap.size:=⟨_,rfl⟩
       rw[←hn11] at hqp ⊢
       clear hn11
       generalize wr.alloc (.cells #[.slice a1 p.frags.length c1,.slice a2 p.defs.length c2] 43)=Z at *
       have Hqp:Hid (Z.heap[n11]?=some (.cells #[.slice a1 p.frags.length c1,.slice a2 p.defs.length c2] 43 (0,0))):=hqp
       clear hqp
       have KH:Hid (Calls Tryz.prog 28 #[.slice aR3 prs3.length cR3,.agg #[.int .i64 (i:Nat),.int .i64 (k:Nat)]] Z fun e w'=>e=.returned (.bool (decide ((i,k)∈prs3)))∧Below Z.heap.size Z w'):=hasPr_any prs3 i k aR3 cR3 Z (row_prs HS4.out.rowP)
       have hhs:=HR3.out.has k
       by_cases hm:(i,k)∈prs3
       ·have htk:=hhs.1 hm
        rw[decide_eq_true hm] at KH
        have HSt2:Hid (M.roundN ps s (k+1)=(s3,fl)):=by rw[Hid,HSt.out,if_neg (by rw[htk];simp)]
        clear HSt hhs htk hm
        go_wp2_with (go_at_call 28;refine KH.out.mono ?_;rintro e Z1 ⟨rfl,hb1⟩)
        go_roundw
        case rel=>exact⟨k+1,es3,prs3,_,by omega,by go_num,HS4.out.later hb1,by rw[HSt2.out];exact HR3,by rw[HSt2.out];exact HFl,blk hb1 Hq4.out⟩
        case measure=>simp[intOf];omega
       ·have htk:s3.tk.getD k false=false:=by
         cases h:s3.tk.getD k false
         ·rfl
         ·exact absurd (hhs.2 h) hm
        rw[decide_eq_false hm] at KH
        have Htk:Hid (s3.tk.getD k false=false):=htk
        have HSt2:Hid (M.roundN ps s (k+1)=if M.partHelps s3.st p=true then ({ M.take s3 p with tk:=s3.tk.set k true },true) else (s3,fl)):=by
         rw[Hid,HSt.out]
         by_cases h:M.partHelps s3.st p=true
         ·rw[if_pos ⟨htk,h⟩,if_pos h]
         ·rw[if_neg (fun hh=>h hh.2),if_neg h]
        clear HSt hhs htk hm
        go_upto_region 14 with (go_at_call 28;refine KH.out.mono ?_;rintro e Z1 ⟨rfl,hb1⟩)
        have HS5:Hid (ChS w B b3 b4 (.slice aF first.length cF) Z1 (.slice aO es3.length cO) (.slice aO es3.length cO) (.slice aR3 prs3.length cR3) es3 prs3):=HS4.out.later hb1
        have Hq5:Hid (Z1.heap[n8]?=some (.cells #[.bool true,.slice (some ⟨bp,off2,none⟩) ps.length cP] 64 (0,0))∧Z1.heap[n11]?=some (.cells #[.slice a1 p.frags.length c1,.slice a2 p.defs.length c2] 43 (0,0))):=⟨blk hb1 Hq4.out,blk hb1 Hqp.out⟩
        clear KH hb1 HS4 Hq4 Hqp Z
        have KL:Hid (Calls Tryz.prog 25 #[.pointer (some ⟨b3,0,none⟩),.pointer (some ⟨b4,0,none⟩)] Z1 fun e w'=>Below Z1.heap.size Z1 w'∧∃g N,e=.returned (.map (some g))∧BAt w' g N (M.lackSet first (es3.map (·.p)))) :=
         lacking_any first (es3.map (fun e:PEnt=>e.p)) aF aO cF cO b3 b4 Z1 (cellB HS5.out.c3 0) (by rw[List.length_map];exact cellB HS5.out.c4 0) (HI.out Z1 HS5.out.bel).2 (by rw[List.length_map];exact HS5.out.parts) (fun q hq=>by
          obtain⟨e,he,rfl⟩:=List.mem_map.1 hq
          exact HR3.out.ok e he) hfl (by rw[List.length_map];omega)
        have HHp:Hid (∀d,M.helps s3.st d=(d.kind !=3&&M.lackSet first (es3.map (·.p)) d.name.data.toList)):=fun d=>by rw[HR3.out.st,←HR3.out.out];exact M.lackSet_helps first _ d
        generalize M.lackSet first (es3.map (·.p))=S at *
        go_upto_region 15 with (go_at_call 25;refine KL.out.mono ?_;rintro e Z2 ⟨hb2,g,N,rfl,hBt⟩)
        have HS6:Hid (ChS w B b3 b4 (.slice aF first.length cF) Z2 (.slice aO es3.length cO) (.slice aO es3.length cO) (.slice aR3 prs3.length cR3) es3 prs3):=HS5.out.later hb2
        have Hq6:Hid (Z2.heap[n8]?=some (.cells #[.bool true,.slice (some ⟨bp,off2,none⟩) ps.length cP] 64 (0,0))∧Z2.heap[n11]?=some (.cells #[.slice a1 p.frags.length c1,.slice a2 p.defs.length c2] 43 (0,0))):=⟨blk hb2 Hq5.out.1,blk hb2 Hq5.out.2⟩
        have HBt:Hid (BAt Z2 g N S):=hBt
        have q1:Z2.cell? ⟨n11,1,none⟩=some (.slice a2 p.defs.length c2):=cellB Hq6.out.2 1
        have ql:=lt1 Hq6.out.2
        clear KL hb2 hBt HS5 Hq5 Z1
        go_wp2_with fail
        clear q1 ql
        go_loopw [5,62] (fun s5 s62 wr=>∃(j:Nat),j≤p.defs.length∧s62=.int .i64 j∧s5=.slice aR3 prs3.length cR3∧Hid (∀q,q<j→M.helps s3.st (p.defs.getD q dfn0)=false)∧Hid (Below Z2.heap.size Z2 wr)) (fun _ s62 _=>p.defs.length-(intOf s62).toNat)
        case atStart=>exact⟨0,Nat.zero_le _,rfl,rfl,fun q hq=>absurd hq (Nat.not_lt_zero _),Below.refl _ _⟩
        case round =>
         obtain⟨j,hj,rfl,rfl,HNo,HB⟩:=hrel
         by_cases hjt:j<p.defs.length
         ·have hbw:=HS6.out.bel.trans (HB.out.mono HS6.out.bel.size)
          obtain⟨bd,offd,rfl,d0,d1,d2,d3,d4,d5,hnm⟩:=(HFD.out.2.later hbw).cells j hjt
          have hbd:bd<wr.heap.size:=wlt d0
          have hjl:(j:Int)<(p.defs.length:Int):=by omega
          have HMem:Hid (p.defs.getD j dfn0∈p.defs):=getD_mem p.defs dfn0 j hjt
          have HNo1:Hid (M.helps s3.st (p.defs.getD j dfn0)=false→∀q,q<j+1→M.helps s3.st (p.defs.getD q dfn0)=false):=fun h q hq=>by
           rcases Nat.lt_or_ge q j with h1|h1
           ·exact HNo.out q h1
           ·obtain rfl:q=j:=by omega
            exact h
          have HHj:Hid (M.helps s3.st (p.defs.getD j dfn0)=((p.defs.getD j dfn0).kind !=3&&S (p.defs.getD j dfn0).name.data.toList)):=HHp.out _
          clear HNo hbw
          generalize p.defs.getD j dfn0=d at *
          have HAny:Hid (M.helps s3.st d=true→M.partHelps s3.st p=true):=fun h=>by
           unfold M.partHelps
           exact List.any_eq_true.2 ⟨d,HMem.out,h⟩
          generalize M.helps s3.st d=hd at *
          obtain⟨nm,kd,fg,pos,sz,al⟩:=d
          simp only at d0 d1 d2 d3 d4 d5 hnm HHj
          have hAl:=bra wr (.cells #[.string nm,.int .i64 kd,.int .i64 fg,.int .i64 pos,.int .i64 sz,.int .i64 al] 72)
          have hqd:=heap_alloc_new wr (.cells #[.string nm,.int .i64 kd,.int .i64 fg,.int .i64 pos,.int .i64 sz,.int .i64 al] 72)
          have HBA:Hid (Below Z2.heap.size Z2 (wr.alloc (.cells #[.string nm,.int .i64 kd,.int .i64 fg,.int .i64 pos,.int .i64 sz,.int .i64 al] 72))):=HB.out.trans (hAl.mono HB.out.size)
          go_upto_region 18 with fail
          obtain⟨n14,hn14⟩:∃n14,n14=wr.heap.size:=⟨_,rfl⟩
          rw[←hn14] at hqd ⊢
          clear d0 d1 d2 d3 d4 d5 hbd hAl HB hn14 HMem
          generalize wr.alloc (.cells #[.string nm,.int .i64 kd,.int .i64 fg,.int .i64 pos,.int .i64 sz,.int .i64 al] 72)=Y at *
          have y0:=cellC hqd 0 rfl
          have y1:=cellC hqd 1 rfl
          have yl:=lt1 hqd
          have hlook:=(HBt.out.later HBA.out).look nm hnm
          have HS7:Hid (ChS w B b3 b4 (.slice aF first.length cF) Y (.slice aO es3.length cO) (.slice aO es3.length cO) (.slice aR3 prs3.length cR3) es3 prs3):=HS6.out.later HBA.out
          have Hq7:Hid (Y.heap[n8]?=some (.cells #[.bool true,.slice (some ⟨bp,off2,none⟩) ps.length cP] 64 (0,0))∧Y.heap[n11]?=some (.cells #[.slice a1 p.frags.length c1,.slice (some ⟨bd,offd,none⟩) p.defs.length c2] 43 (0,0))):=⟨blk HBA.out Hq6.out.1,blk HBA.out Hq6.out.2⟩
          clear hqd
          cases hkd:(kd !=3) with
          | false =>
           have HN2:Hid (∀q,q<j+1→M.helps s3.st (p.defs.getD q dfn0)=false):=HNo1.out (by rw[HHj.out,hkd];rfl)
           clear HNo1 HHj HAny hlook
           go_wp2_with fail
           go_roundw
           case rel=>exact⟨j+1,by omega,by go_num,rfl,HN2,HBA⟩
           case measure=>simp[intOf];omega
          | true =>
           cases hSn:S nm.data.toList with
           | false =>
            rw[hSn] at hlook
            have HN2:Hid (∀q,q<j+1→M.helps s3.st (p.defs.getD q dfn0)=false):=HNo1.out (by rw[HHj.out,hSn,Bool.and_false])
            clear HNo1 HHj HAny
            go_wp2_with fail
            go_roundw
            case rel=>exact⟨j+1,by omega,by go_num,rfl,HN2,HBA⟩
            case measure=>simp[intOf];omega
           | true =>
            rw[hSn] at hlook
            have HSt3:Hid (M.roundN ps s (k+1)=({ M.take s3 p with tk:=s3.tk.set k true },true)):=by
             rw[Hid,HSt2.out,if_pos (HAny.out (by rw[HHj.out,hkd,hSn];rfl))]
            clear HNo1 HHj HAny HSt2
            have hle:prs2.length≤prs3.length:=by
             cases fl with
             | false=>rw[HFl.out.1 rfl];exact Nat.le_refl _
             | true=>exact Nat.le_of_lt (HFl.out.2 rfl)
            have HR4:Hid (ChR first i { M.take s3 p with tk:=s3.tk.set k true } (es3++[⟨p,.slice a1 p.frags.length c1,.slice (some ⟨bd,offd,none⟩) p.defs.length c2⟩]) (prs3++[(i,k)])):=HR3.out.take (e:=⟨p,.slice a1 p.frags.length c1,.slice (some ⟨bd,offd,none⟩) p.defs.length c2⟩) (by omega) Htk.out Hpo.out
            have HFl4:Hid ((true=false→(prs3++[(i,k)]).length=prs2.length)∧(true=true→prs2.length<(prs3++[(i,k)]).length)):=⟨fun h=>(by cases h),fun _=>(by rw[List.length_append];simp;omega)⟩
            have k4:Y.cell? ⟨b4,0,none⟩=some (.slice aO es3.length cO):=cellB HS7.out.c4 0
            have l4:=lt1 HS7.out.c4
            have p0:Y.cell? ⟨n11,0,none⟩=some (.slice a1 p.frags.length c1):=cellB Hq7.out.2 0
            have p1:Y.cell? ⟨n11,1,none⟩=some (.slice (some ⟨bd,offd,none⟩) p.defs.length c2):=cellB Hq7.out.2 1
            have lp:=lt1 Hq7.out.2
            have hA1:=bra Y (.cells #[.slice a1 p.frags.length c1,.slice (some ⟨bd,offd,none⟩) p.defs.length c2] 43)
            have hS8:=HS7.out.later hA1
            have hrO:=hS8.rowO
            have HS8:Hid _:=hS8
            have Hq8:Hid ((Y.alloc (.cells #[.slice a1 p.frags.length c1,.slice (some ⟨bd,offd,none⟩) p.defs.length c2] 43)).heap[n8]?=some (.cells #[.bool true,.slice (some ⟨bp,off2,none⟩) ps.length cP] 64 (0,0))):=blk hA1 Hq7.out.1
            have hnews:∀j u,(#[.slice a1 p.frags.length c1,.slice (some ⟨bd,offd,none⟩) p.defs.length c2]:Array Value).toList[j]?=some u→(Y.alloc (.cells #[.slice a1 p.frags.length c1,.slice (some ⟨bd,offd,none⟩) p.defs.length c2] 43)).cell? ((⟨Y.heap.size,0,none⟩:Addr).add j)=some u:=World.news_of_block (heap_alloc_new Y _)
            have hbsY:B≤Y.heap.size:=HS7.out.bs
            clear hA1 hS8 HS7 Hq7
            go_wp2_with (first
             | (at_builtin;refine wpList_append_own _ rfl _ _ 35 rfl B 43 iP (.agg #[.slice none 0 0,.slice none 0 0]) 2 48 Tryz.underlying35 hiP hP0 hP1 hP2 rfl (by decide) _ _ _ rfl hrO ⟨Y.heap.size,0,none⟩ 1 1 (#[.slice a1 p.frags.length c1,.slice (some ⟨bd,offd,none⟩) p.defs.length c2]:Array Value).toList rfl rfl hnews (fun u hu=>by simp at hu;rcases hu with rfl|rfl<;>rfl) (by unfold maxLen;omega) (by omega) (by simp;omega) ?_;intro v1 w2 hown2 hgr2 hnil2;obtain⟨z1,y1,rfl⟩:=own_len hown2
                have hS9:=HS8.out.growO (e:=⟨p,.slice a1 p.frags.length c1,.slice (some ⟨bd,offd,none⟩) p.defs.length c2⟩) HBb.out.1 hgr2 hown2 HFD.out
                have hq9:=block_kept HS8.out.rowO hgr2 Hq8.out (by decide)
                have hA2:=bra w2 (.cells #[.int .i64 (i:Nat),.int .i64 (k:Nat)] 69)
                have hS10:=hS9.later hA2
                have hq10:=blk hA2 hq9
                have hrP:=hS10.rowP
                have HS10:Hid _:=hS10
                have Hq10:Hid _:=hq10
                have hnews2:∀j u,(#[.int .i64 (i:Nat),.int .i64 (k:Nat)]:Array Value).toList[j]?=some u→(w2.alloc (.cells #[.int .i64 (i:Nat),.int .i64 (k:Nat)] 69)).cell? ((⟨w2.heap.size,0,none⟩:Addr).add j)=some u:=World.news_of_block (heap_alloc_new w2 _)
                have hbs2:B≤w2.heap.size:=hS9.bs
                clear hown2 hgr2 hnil2 hS9 hq9 hA2 hS10 hq10 hrO hnews HS8 Hq8 k4 p0 p1)
             | (at_builtin;refine wpList_append_own _ rfl _ _ 36 rfl B 69 iR (.agg #[.int .i64 0,.int .i64 0]) 2 16 Tryz.underlying36 hiR hR0 hR1 hR2 rfl (by decide) _ _ _ rfl hrP ⟨w2.heap.size,0,none⟩ 1 1 (#[.int .i64 (i:Nat),.int .i64 (k:Nat)]:Array Value).toList rfl rfl hnews2 (fun u hu=>by simp at hu;rcases hu with rfl|rfl<;>rfl) (by unfold maxLen;omega) (by omega) (by simp;omega) ?_;intro v2 w4 hown4 hgr4 hnil4
                have hS11:=HS10.out.growP (x:=(i,k)) HBb.out.1 hgr4 hown4
                have hq11:=block_kept HS10.out.rowP hgr4 Hq10.out (by decide)
                have m4:=cellB hS11.c4 0
                have m4:w4.cell? ⟨b4,0,none⟩=some (.slice aO es3.length cO):=cellB hS11.c4 0
                have mf:∀j,w4.frozen? ⟨b4,j,none⟩=false:=frozenB hS11.c4
                have ml:=lt1 hS11.c4
                have HS12:Hid (ChS w B b3 b4 (.slice aF first.length cF) (w4.setCell ⟨b4,0,none⟩ (.slice z1 (es3.length+1) y1)) (.slice z1 (es3.length+1) y1) (.slice z1 (es3.length+1) y1) v2 (es3++[⟨p,.slice a1 p.frags.length c1,.slice (some ⟨bd,offd,none⟩) p.defs.length c2⟩]) (prs3++[(i,k)])):=hS11.store HBb.out.2.1 HBb.out.2.2 (.slice z1 (es3.length+1) y1)
                have Hq12:Hid ((w4.setCell ⟨b4,0,none⟩ (.slice z1 (es3.length+1) y1)).heap[n8]?=some (.cells #[.bool true,.slice (some ⟨bp,off2,none⟩) ps.length cP] 64 (0,0))):=(Below.heap_setCell _ _ _ _ (fun e=>by rw[e,hS11.c4] at hq11;cases hq11)).trans hq11
                clear hown4 hgr4 hnil4 hS11 hq11 hrP hnews2 HS10 Hq10))
            go_roundw
            case rel=>exact⟨k+1,_,_,.slice z1 (es3.length+1) y1,by omega,by go_num,HS12,by rw[HSt3.out];exact HR4,by rw[HSt3.out];exact HFl4,Hq12⟩
            case measure=>simp[intOf];omega
         ·obtain rfl:j=p.defs.length:=by omega
          have HSt3:Hid (M.roundN ps s (k+1)=(s3,fl)):=by
           rw[Hid,HSt2.out,if_neg]
           intro h
           unfold M.partHelps at h
           obtain⟨d,hd,hh⟩:=List.any_eq_true.1 h
           obtain⟨q,hq,e⟩:=List.mem_iff_getElem.1 hd
           have:=HNo.out q hq
           rw[List.getD_eq_getElem?_getD,List.getElem?_eq_getElem hq,Option.getD_some,e,hh] at this
           cases this
          have HS7:Hid (ChS w B b3 b4 (.slice aF first.length cF) wr (.slice aO es3.length cO) (.slice aO es3.length cO) (.slice aR3 prs3.length cR3) es3 prs3):=HS6.out.later HB.out
          have Hq7:Hid (wr.heap[n8]?=some (.cells #[.bool true,.slice (some ⟨bp,off2,none⟩) ps.length cP] 64 (0,0))):=blk HB.out Hq6.out.1
          clear HNo HSt2
          go_wp2_with fail
          go_roundw
          case rel=>exact⟨k+1,es3,prs3,_,by omega,by go_num,HS7,by rw[HSt3.out];exact HR3,by rw[HSt3.out];exact HFl,Hq7⟩
          case measure=>simp[intOf];omega
      ·obtain rfl:k=ps.length:=by omega
       have HRd:Hid (M.rounds ps (f-1+1) s=if (M.round ps s).2 then M.rounds ps (f-1) (M.round ps s).1 else (M.round ps s).1):=rfl
       have hc1:=M.roundN_cnt ps s ps.length (by rw[Hsl.out.2];exact h8)
       have hcl:=M.cnt_le s.tk
       rw[Hsl.out.2] at hcl
       have hf1:f-1+1=f:=by have:=HF.out.2.1;omega
       rw[hf1] at HRd
       have HSe:Hid (M.search ps st0 out0=if (M.round ps s).2 then M.rounds ps (f-1) (M.round ps s).1 else (M.round ps s).1):=HF.out.1.trans HRd.out
       have HRo:Hid ((M.roundN ps s ps.length).1.out.length=o+M.cnt (M.roundN ps s ps.length).1.tk):=M.roundN_out (parts:=ps) Hsl.out.1 ps.length (by rw[Hsl.out.2];exact h8)
       have HFc:Hid ((M.roundN ps s ps.length).2=true→8<(f-1)+M.cnt (M.roundN ps s ps.length).1.tk):=fun h=>by have:=hc1.2 h;have:=HF.out.2.1;omega
       have hR:M.round ps s=M.roundN ps s ps.length:=rfl
       rw[hR] at HSe
       clear HRd hc1 hcl hf1 hR
       obtain⟨aQ,cQ,rfl⟩:=own_len HS3.out.rowP
       generalize M.roundN ps s ps.length=r at *
       obtain⟨s3,fl⟩:=r
       simp only at HR3 HFl HSe HRo HFc
       cases fl with
       | false =>
        have hle:(prs2.length:Int)=(prs3.length:Int):=by rw[HFl.out.1 rfl]
        have hee:((prs2.length:Int)==(prs3.length:Int))=true:=by simpa using hle
        have HC1:Hid (Ch1 first its (i+1) es3 prs3):=HCl.out s3 es3 prs3 HR3.out trivial (by rw[HSe.out];rfl)
        clear hle HFl HRo HFc HSe HR3 HF
        go_wp2_with fail
        go_roundw
        case rel=>exact⟨i+1,es3,prs3,vO3,by omega,by go_num,HS3,HC1⟩
        case measure=>simp[intOf];omega
       | true =>
        have hlt3:=HFl.out.2 rfl
        have hee:((prs2.length:Int)==(prs3.length:Int))=false:=by simp;omega
        have HF2:Hid (M.search ps st0 out0=M.rounds ps (f-1) s3∧8<(f-1)+M.cnt s3.tk∧es3.length=o+M.cnt s3.tk):=⟨by rw[HSe.out];rfl,HFc.out rfl,by rw[←HRo.out,←HR3.out.out,List.length_map]⟩
        have Hlt3:Hid (prs2.length<prs3.length):=hlt3
        clear HFl HRo HFc HSe HF hlt3
        go_wp2_with fail
        go_roundw
        case rel=>exact⟨f-1,_,s3,es3,prs3,vO3,rfl,by have:=Hlt3.out;omega,HS3,HR3,HF2,Hq3⟩
        case measure =>
         have:=Hlt3.out
         simp[lenOf];omega
  ·obtain rfl:i=its.length:=by omega
   have hC:=HC.out.out
   rw[List.take_length] at hC
   have hp:=HS.out.parts
   rw[hC] at hp
   obtain⟨out,hout⟩:∃out,(its.foldl M.chooseStep (M.firstAll first,[])).2=out:=⟨_,rfl⟩
   rw[hout] at hC hp
   have Hout:Hid ((its.foldl M.chooseStep (M.firstAll first,[])).2=out):=hout
   clear hout
   obtain⟨x,y,rfl⟩:=hp.form
   have HE:Hid (PartsAt wr (.slice x out.length y) out∧Below w.heap.size w wr):=⟨hp,HS.out.bel⟩
   have hc4:=HS.out.c4
   have k4:=cellC hc4 0 rfl
   have f4:∀j,wr.frozen? ⟨b4,j,none⟩=false:=frozenB hc4
   have l4:=lt1 hc4
   have hS2:=HS.out.store HBb.out.2.1 HBb.out.2.2 (.slice x out.length y)
   have HE2:Hid (PartsAt (wr.setCell ⟨b4,0,none⟩ (.slice x out.length y)) (.slice x out.length y) out∧Below w.heap.size w (wr.setCell ⟨b4,0,none⟩ (.slice x out.length y))):=by
    have:=hS2.parts
    rw[hC] at this
    exact⟨this,hS2.bel⟩
   have k5:(wr.setCell ⟨b4,0,none⟩ (.slice x out.length y)).cell? ⟨b4,0,none⟩=some (.slice x out.length y):=cellB hS2.c4 0
   have Hk5:Hid _:=k5
   clear HS HC hC hp HE hc4 hS2 k5
   go_wp2_with fail
   have k5:=Hk5.out
   refine bodyPost_ret (v:=.tuple #[.slice x out.length y,u5]) (by simp[results,Tryz.results10,go_sem,k5]) rfl ?_
   rw[Hout.out]
   exact⟨HE2.out.2,x,y,u5,rfl,HE2.out.1⟩
end Go.Proofs.YtpkfmfhodbjckaaGreatDoor
