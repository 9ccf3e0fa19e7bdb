/-
  The map of texts that stand: its keys, what it holds. The contract of layout.next. The contract of layout.layFrags: a section's fragments. The walk of layout.layFrags. The contract of layout.layCommons. Integers in a row of memory. What layout.Lay has in memory.
-/
import Derived.Test.YtpkfmfhodbjckaaGreatDoorTopA
import Derived.Maps.OwnSet
import Derived.Maps.Views
import Derived.DeepKeys4
import Derived.Laws.BytesArg
import Derived.Deep.RegionHeld3
import Derived.Shelf.Bytes.SlSmallAll
set_option linter.unusedVariables false
set_option maxHeartbeats 8000000
set_option maxRecDepth 100000
namespace Go.Proofs.YtpkfmfhodbjckaaGreatDoor
open Go Go.RowKit Go.Maps
theorem lyLaid:laidOutB Tryz.prog=true:=by kernel_rfl
theorem rowText:(170:TypeId)<Tryz.prog.types.size:=of_decide_eq_true (by kernel_rfl)
theorem keyText:Keyed Tryz.prog 170:=Keyed.of_law (deep_law_laid lyLaid (m:=3) (by omega) rowText (by kernel_rfl) (by kernel_rfl))
def textV (bs:List Int) (al:Int):Value:=.agg #[.string (strOfNums bs),iv al]
def textL (bs:List Int) (al:Int):Lit:=.string (keyBytes [.string (strOfNums bs).data.toList,.int .i64 al])
theorem typeText:Tryz.prog.keyType 170=true:=by kernel_rfl
theorem cellsText:Tryz.prog.cellsOf 170=2:=by kernel_rfl
theorem cellsStr:Tryz.prog.cellsOf 9=1:=by kernel_rfl
theorem cellsInt:Tryz.prog.cellsOf 3=1:=by kernel_rfl
theorem succ_of_lt{a n:Nat}(h:a<n):∃m,n=m+1:=⟨n-1,by omega⟩
theorem keyOf_text(bs:List Int)(al:Int)(hb:bs.length≤maxLen)(ha:(Lit.int .i64 al).wf=true):keyOf Tryz.prog 170 (textV bs al)=some (textL bs al):=by
 have hs:(strOfNums bs).size≤maxLen:=by rw[strOfNums_size];exact hb
 obtain⟨m,hm⟩:=succ_of_lt rowText
 unfold keyOf textV
 rw[Tryz.underlying170]
 simp only[typeText,Value.formed,Tryz.underlying170,cellsText,hm]
 simp[hs,ha,textL,Value.cells,Program.keyLits,Tryz.underlying170,cellsText,Tryz.underlying9,Tryz.underlying3,cellsStr,cellsInt]
theorem nums_inj:∀ {a b:List Int},(∀x∈a,0≤x∧x<256)→(∀x∈b,0≤x∧x<256)→(a.map fun n=>UInt8.ofNat n.toNat)=(b.map fun n=>UInt8.ofNat n.toNat)→a=b
 | [],[],_,_,_=>rfl
 | [],_::_,_,_,h=>by cases h
 | _::_,[],_,_,h=>by cases h
 | x::a,y::b,ha,hb,h=>by
  simp only[List.map_cons,List.cons.injEq] at h
  have hx:=ha x (List.mem_cons_self ..)
  have hy:=hb y (List.mem_cons_self ..)
  have h1:(UInt8.ofNat x.toNat).toNat=(UInt8.ofNat y.toNat).toNat:=by rw[h.1]
  simp only[UInt8.toNat_ofNat'] at h1
  have:x=y:=by omega
  rw[this,nums_inj (fun z hz=>ha z (List.mem_cons_of_mem _ hz)) (fun z hz=>hb z (List.mem_cons_of_mem _ hz)) h.2]
structure TextOk (bs:List Int) (al:Int):Prop where
 len:bs.length≤64
 byte:∀x∈bs,0≤x∧x<256
 wf:(Lit.int .i64 al).wf=true
theorem TextOk.key{bs:List Int}{al:Int}(h:TextOk bs al):keyOf Tryz.prog 170 (textV bs al)=some (textL bs al):=keyOf_text bs al (by have:=h.len;unfold maxLen;omega) h.wf
theorem textL_inj{bs bs':List Int}{al al':Int}(h:TextOk bs al)(h':TextOk bs' al')(e:textL bs al=textL bs' al'):bs=bs'∧al=al':=by
 have h1:=h.key
 rw[e] at h1
 have h2:=keyText.inj h1 h'.key
 unfold textV at h2
 simp only[Value.agg.injEq,Array.mk.injEq,List.cons.injEq,Value.string.injEq,Value.int.injEq,and_true,true_and] at h2
 refine⟨nums_inj h.byte h'.byte ?_,h2.2⟩
 have:=congrArg (fun s:ByteArray=>s.data.toList) h2.1
 exact this
structure SeenAt (D:DataW Unit) (seen:M.Seen):Prop where
 isMap:IsMap D
 has_:∀bs al,TextOk bs al→has D (textL bs al)=(M.look seen bs al).isSome
 at_:∀bs al x,TextOk bs al→M.look seen bs al=some x→∀z,D.atKey (textL bs al) z=.lit (.int .i64 x)
theorem SeenAt.nil:SeenAt (.map []) []:=⟨isMap_empty,fun _ _ _=>rfl,fun _ _ _ _ h=>by cases h⟩
theorem SeenAt.put{D:DataW Unit}{seen:M.Seen}(h:SeenAt D seen){bs:List Int}{al x:Int}(ht:TextOk bs al):SeenAt (D.put (textL bs al) (.lit (.int .i64 x))) ((bs,al,x)::seen):=by
 refine⟨h.isMap.put _ _,fun bs' al' ht'=>?_,fun bs' al' y ht' hl z=>?_⟩
 ·by_cases e:bs=bs'∧al=al'
  ·obtain⟨rfl,rfl⟩:=e
   rw[has_put_same h.isMap (by trivial)]
   simp[M.look]
  ·rw[has_put_other (fun e'=>e (by have:=textL_inj ht' ht e';exact⟨this.1.symm,this.2.symm⟩)),h.has_ _ _ ht']
   simp[M.look,e]
 ·by_cases e:bs=bs'∧al=al'
  ·obtain⟨rfl,rfl⟩:=e
   rw[atKey_put_same h.isMap (by trivial)]
   simp[M.look] at hl
   rw[hl]
  ·rw[atKey_put_other (fun e'=>e (by have:=textL_inj ht' ht e';exact⟨this.1.symm,this.2.symm⟩))]
   simp[M.look,e] at hl
   exact h.at_ _ _ _ ht' hl z
theorem align_ne{d:Int}(hd:M.AlignOk d):d≠0:=by rcases hd with rfl|rfl|rfl|rfl|rfl<;>decide
theorem next_any(a d:Int)(h0:0≤a)(h1:a≤1000000)(hd:M.AlignOk d)(w:World) :
  Calls Tryz.prog 80 #[iv a,iv d] w fun e w'=>e=.returned (iv (M.next a d))∧w'=w:=by
 have hb:=M.next_bounds h0 hd
 have hp:=hd.pos
 have hq:(a+d-1).tdiv d=(a+d-1) / d:=Int.tdiv_eq_ediv_of_nonneg (by omega)
 have hz:=align_ne hd
 have hr:0≤(a+d-1) / d∧(a+d-1) / d≤a+d-1:=by
  rcases hd with rfl|rfl|rfl|rfl|rfl<;>omega
 unfold M.next at hb ⊢
 generalize hQ:(a+d-1) / d=q at *
 go_enter Tryz.func80,Tryz.ntmps80
 go_wp2
 go_ret
 exact⟨rfl,rfl⟩
attribute [local go_sem] lat_cell
theorem gb_new{w W W':World}{r:Option Nat}{m:Nat}(h:w.grownBy W r)(h':W.grownBy W' (some m))(hm:w.heap.size≤m):w.grownBy W' r :=
 ⟨h'.os.trans h.os,h'.tape.trans h.tape,h'.output.trans h.output,Nat.le_trans h.size h'.size,fun k hk hne=>(h'.block k (Nat.lt_of_lt_of_le hk h.size) (by intro e;have:=Option.some.inj e;omega)).trans (h.block k hk hne)⟩
theorem row_nomap{H:Type}{w:World}{B k n b m g c:Nat}{e kt:TypeId}{xs:List Value}{R:Value→Option (DataW H × List MemPlace)}{D:DataW H}(h:w.ownsRow B e k (.slice (some (qa g 0)) n c) n xs)(ho:w.ownsMap Tryz.prog kt R b m D):g≠b:=by
 rcases h.2 with ⟨h1,_⟩|⟨g',cap,cur,h1,_,hb,_⟩
 ·cases h1
 ·cases h1
  intro he
  subst he
  obtain⟨es,clock,hm,_⟩:=ho
  rw[hm] at hb
  cases hb
theorem row_cell{w:World}{B n g c:Nat}{e:TypeId}{xs:List Int}(h:w.ownsRow B e 1 (sv (some (qa g 0)) n c) n (xs.map (Value.int .i64)))(k:Nat)(hk:k<n) :
  w.cell? (qa g k)=some (iv (xs.getD k 0))∧w.frozen? (qa g k)=false∧g<w.heap.size:=by
 have hl:=h.1
 rw[List.length_map,Nat.mul_one] at hl
 rcases h.2 with ⟨h1,_⟩|⟨g',cap,cur,h1,_,hb,hnc,hcm,hcs,htk⟩
 ·cases h1
 ·cases h1
  refine⟨?_,frozenB hb k,(lt1 hb)⟩
  rw[cellB hb k]
  have h2:(cur.toList.take (n*1))[k]?=(xs.map (Value.int .i64))[k]?:=by rw[htk]
  rw[List.getElem?_take_of_lt (by omega),List.getElem?_map] at h2
  rw[←Array.getElem?_toList,h2,List.getElem?_eq_getElem (by omega:k<xs.length),List.getD_eq_getElem?_getD,List.getElem?_eq_getElem (by omega:k<xs.length)]
  rfl
structure LI (w W:World) (B g cap n mb k:Nat) (D:DataW Unit) (tl:List Int):Prop where
 map:W.ownsMap Tryz.prog 170 (plainElem Tryz.prog 3) mb k D
 row:W.ownsRow B 3 1 (sv (some (qa g 0)) n cap) n (tl.map (Value.int .i64))
 gb:w.grownBy W (some g)
 new:w.heap.size≤mb
theorem LI.later{w W W':World}{B g cap n mb k:Nat}{D:DataW Unit}{tl:List Int}(h:LI w W B g cap n mb k D tl)(hb:Below W.heap.size W W'):LI w W' B g cap n mb k D tl :=
 ⟨h.map.kept (grown_of_below hb none) (by simp),h.row.kept (grown_of_below hb none) own_self,grown_trans h.gb (grown_of_below hb _),h.new⟩
theorem LI.more{w W:World}{B g cap n mb k:Nat}{D:DataW Unit}{tl:List Int}(h:LI w W B g cap n mb k D tl):LI w W B g cap n mb (k+1) D tl:=⟨h.map.mono (Nat.le_succ _),h.row,h.gb,h.new⟩
theorem LI.store{w W:World}{B g cap n mb k:Nat}{D:DataW Unit}{tl:List Int}(h:LI w W B g cap n mb k D tl)(j:Nat)(x:Int):LI w (W.setCell (qa g j) (.int .i64 x)) B g cap n mb k D (tl.set j x):=by
 have hs:=h.row.stored j (iv x)
 refine⟨h.map.kept hs.2 (fun e=>row_nomap h.row h.map (Option.some.inj e).symm),?_,grown_trans h.gb hs.2,h.new⟩
 rw[List.map_set]
 exact hs.1
theorem LI.look{w W:World}{B g cap n mb k:Nat}{D:DataW Unit}{tl:List Int}(h:LI w W B g cap n mb k D tl){seen:M.Seen}(hs:SeenAt D seen){bs:List Int}{al:Int}(ht:TextOk bs al) :
  ∃c,(Instr.lookup 168 (.map (some mb)) (.agg #[.string (strOfNums bs),iv al]) true).run Tryz.prog W=.ok (.tuple #[iv c,.bool (M.look seen bs al).isSome]) W∧∀x,M.look seen bs al=some x→c=x:=by
 obtain⟨v,ps,hrun,hv⟩:=h.map.look_ok keyText Tryz.underlying168 (z:=iv 0) (by kernel_rfl) (plainElem_int Tryz.underlying3 (by decide)) ht.key
 obtain⟨c,rfl,hc,_⟩:=plainElem_int_inv Tryz.underlying3 hv
 refine⟨c,by rw[hs.has_ _ _ ht] at hrun;exact hrun,fun x hx=>?_⟩
 have h1:=congrArg Prod.fst hc
 simp only at h1
 rw[hs.at_ _ _ _ ht hx] at h1
 simp only[DataW.lit.injEq,Lit.int.injEq,true_and] at h1
 exact h1.symm
theorem LI.put{w W:World}{B g cap n mb k:Nat}{D:DataW Unit}{tl:List Int}(h:LI w W B g cap n mb k D tl)(hk:k<1000){bs:List Int}{al x:Int}(ht:TextOk bs al)(hx:(Lit.int .i64 x).wf=true) :
  ∃W',(Instr.mapUpdate 168 (.map (some mb)) (.agg #[.string (strOfNums bs),.int .i64 al]) (.int .i64 x)).run Tryz.prog W=.ok () W'∧W.grownBy W' (some mb)∧LI w W' B g cap n mb (k+1) (D.put (textL bs al) (.lit (.int .i64 x))) tl:=by
 obtain⟨W',hrun,hown,hg⟩:=h.map.update keyText Tryz.underlying168 (by unfold maxLen;omega) ht.key (plainElem_int (H:=Unit) Tryz.underlying3 hx)
 exact⟨W',hrun,hg,hown,h.row.kept hg (.inr (fun e=>row_nomap h.row h.map (Option.some.inj e))),gb_new h.gb hg h.new,h.new⟩
theorem conv_bytes{W:World}{ab:Option Addr}{cb:Nat}{bs:List Int}(h:BytesAt W (sv ab bs.length cb) bs):(convert 54 9 (sv ab bs.length cb)).run Tryz.prog W=.ok (.string (strOfNums bs)) W:=by
 obtain⟨a,c,e,hn,h1|⟨b,off,h1,h2⟩⟩:=h.1
 ·cases e
  have:bs=[]:=List.eq_nil_of_length_eq_zero (by omega)
  subst this
  exact run_convert_bytes_zero W _ 5 Tryz.underlying54 Tryz.underlying5 _ _ _ Tryz.underlying9
 ·cases e
  subst h1
  refine run_convert_bytes_arg W _ 5 Tryz.underlying54 Tryz.underlying5 b off bs.length cb bs rfl (fun i hi=>?_) _ Tryz.underlying9
  have:=h2 i 0 hi (by omega)
  simpa using this
end Go.Proofs.YtpkfmfhodbjckaaGreatDoor
namespace Go.Proofs.YtpkfmfhodbjckaaGreatDoor
open Go Go.RowKit Go.Maps
attribute [local go_sem] lat_cell
theorem take_snoc{α:Type}(l:List α)(d:α)(k:Nat)(h:k<l.length):l.take (k+1)=l.take k++[l.getD k d]:=by
 rw[List.take_succ_eq_append_getElem h,List.getD_eq_getElem?_getD,List.getElem?_eq_getElem h];rfl
theorem set_get(l:List Int)(k:Nat)(x:Int)(h:k<l.length):(l.set k x).getD k 0=x:=by
 rw[List.getD_eq_getElem?_getD,List.getElem?_set_self h];rfl
theorem wf_small{x:Int}(h0:0≤x)(h1:x≤1000000):(Lit.int .i64 x).wf=true:=by
 show (decide ((IntKind.i64).min≤x)&&decide (x≤(IntKind.i64).max))=true
 rw[Bool.and_eq_true,decide_eq_true_eq,decide_eq_true_eq]
 exact⟨Int.le_trans (by decide) h0,Int.le_trans h1 (by decide)⟩
theorem layFrags_any(sect pos:Int)(fs:List M.Frg)(tl:List Int)(B g cap:Nat)(aF:Option Addr)(cF:Nat)(w:World)
  (HF:Hid (∀W,w.grownBy W (some g)→FragsAt W (sv aF fs.length cF) fs))
  (hto:w.ownsRow B 3 1 (sv (some (qa g 0)) fs.length cap) fs.length (tl.map (Value.int .i64)))
  (hn:fs.length≤60) (HOk:Hid (∀f∈fs,M.FrgOk f∧TextOk f.bytes f.align)) (h0:0≤pos) (h1:pos≤100000) :
  Calls Tryz.prog 81 #[sv (some (qa g 0)) fs.length cap,sv aF fs.length cF,iv sect,iv pos] w fun e w' =>
   e=.returned (iv (M.layFrags sect tl fs pos).pos)∧w.grownBy w' (some g)∧w'.ownsRow B 3 1 (sv (some (qa g 0)) fs.length cap) fs.length ((M.layFrags sect tl fs pos).adr.map (Value.int .i64)):=by
 have hmm:=@run_makeMap Tryz.prog
 have hlen:tl.length=fs.length:=by have:=hto.1;rwa [List.length_map,Nat.mul_one] at this
 have HI0:Hid (LI w (w.alloc (.map #[] 0)) B g cap fs.length w.heap.size 0 (.map []) tl):=⟨World.ownsMap_made _ _ _ _,hto.kept (World.grownBy_alloc w _ none) own_self,World.grownBy_alloc w _ _,Nat.le_refl _⟩
 have HL:Hid (M.layFrags sect tl fs pos=M.layGo sect ⟨tl,pos,[]⟩ 0 fs):=rfl
 clear hto
 go_enter Tryz.func81,Tryz.ntmps81
 go_wp2_with fail
 clear hmm
 generalize w.alloc (.map #[] 0)=X0 at *
 go_loopw [3,18] (fun s3 s18 wr=>∃(k:Nat) (D:DataW Unit) (st:M.LS),k≤fs.length∧s18=.int .i64 k∧s3=.int .i64 st.pos∧Hid (st=M.layGo sect ⟨tl,pos,[]⟩ 0 (fs.take k))∧Hid (SeenAt D st.seen)∧Hid (LI w wr B g cap fs.length w.heap.size k D st.adr)∧0≤st.pos∧st.pos≤pos+71*k∧Hid (∀x∈st.seen,0≤x.2.2∧x.2.2≤st.pos)∧Hid (st.adr.length=fs.length)) (fun _ s18 _=>fs.length-(intOf s18).toNat)
 case atStart=>exact⟨0,.map [],⟨tl,pos,[]⟩,Nat.zero_le _,rfl,rfl,rfl,SeenAt.nil,HI0,h0,by show pos≤pos+71*((0:Nat):Int);omega,(fun x hx=>by cases hx),hlen⟩
 case round =>
  obtain⟨k,D,st,hk,rfl,rfl,HS,HSe,HI,hp0,hp1,HSn,HLn⟩:=hrel
  clear HI0
  by_cases hlt:k<fs.length
  ·obtain⟨b,off,ab,cb,ar,cr,rfl,e0,e1,e2,e3,e4,e5,hBy,hRl,hg,hbl⟩:=(HF.out wr HI.out.gb).cells k hlt
   have HS1:Hid (M.layStep sect st k (fs.getD k frg0)=M.layGo sect ⟨tl,pos,[]⟩ 0 (fs.take (k+1))):=by
    rw[Hid,take_snoc fs frg0 k hlt,M.layGo_snoc,←HS.out,List.length_take,Nat.zero_add,Nat.min_eq_left hk]
   obtain⟨hok,htx⟩:=HOk.out _ (getD_mem fs frg0 k hlt)
   have HP1:=M.layStep_pos (sect:=sect) (i:=k) hok hp0
   have HN1:Hid (∀x∈(M.layStep sect st k (fs.getD k frg0)).seen,0≤x.2.2∧x.2.2≤(M.layStep sect st k (fs.getD k frg0)).pos):=M.layStep_seen hok hp0 hp0 HSn.out
   have HLn1:Hid ((M.layStep sect st k (fs.getD k frg0)).adr.length=fs.length):=(M.layStep_len ..).trans HLn.out
   clear hRl hbl HS
   generalize fs.getD k frg0=f at *
   have hbr:b<wr.heap.size:=wlt e0
   have hkl:(k:Int)<(fs.length:Int):=by omega
   have hgn:g<wr.heap.size:=(row_cell HI.out.row k hlt).2.2
   have hmn:w.heap.size<wr.heap.size:=HI.out.map.lt
   by_cases hs:f.sect=sect
   ·have HST:Hid (M.layStep sect st k f=(M.look st.seen f.bytes f.align).elim (M.layNew sect st k f) (M.layOld st k)):=if_pos hs
    have hal:=hok.align
    have hnb:=M.next_bounds hp0 hal
    have hl0:=hok.long0
    have hl64:=hok.long64
    have hsm:=hok.small
    have hLong:M.long f=M.lng f.sect f.size f.bytes.length:=rfl
    obtain⟨s,al,gr,bs,sz,rs⟩:=f
    simp only at e0 e1 e2 e3 e4 e5 hg hs htx hBy hal hnb hsm hLong
    subst hs
    go_upto_region 6 with fail
    have xf:=heap_alloc_new wr (.cells #[iv s,iv al,.string gr,sv ab bs.length cb,iv sz,sv ar rs.length cr] 87)
    have hB1:Below wr.heap.size wr (wr.alloc (.cells #[iv s,iv al,.string gr,sv ab bs.length cb,iv sz,sv ar rs.length cr] 87)):=bra _ _
    have HI1:Hid (LI w (wr.alloc (.cells #[iv s,iv al,.string gr,sv ab bs.length cb,iv sz,sv ar rs.length cr] 87)) B g cap fs.length w.heap.size k D st.adr):=HI.out.later hB1
    have hcv:=conv_bytes (hBy.later hB1)
    clear e0 e1 e2 e3 e4 e5 HI hB1 hBy
    generalize wr.alloc (.cells #[iv s,iv al,.string gr,sv ab bs.length cb,iv sz,sv ar rs.length cr] 87)=X at *
    generalize wr.heap.size=nf at *
    have hlf:=lt1 xf
    have kf3:=cellC xf 3 rfl
    have kf1:=cellC xf 1 rfl
    go_upto_region 7 with fail
    have xk:=heap_alloc_new X (.cells #[.string (strOfNums bs),iv al] 170)
    have hB2:Below X.heap.size X (X.alloc (.cells #[.string (strOfNums bs),iv al] 170)):=bra _ _
    have HI2:Hid (LI w (X.alloc (.cells #[.string (strOfNums bs),iv al] 170)) B g cap fs.length w.heap.size k D st.adr):=HI1.out.later hB2
    have xf2:=(hB2.block _ hlf).trans xf
    clear hcv kf3 kf1 HI1 hB2 xf
    generalize X.alloc (.cells #[.string (strOfNums bs),iv al] 170)=Y at *
    generalize X.heap.size=nk at *
    obtain⟨c,hlook,hc⟩:=HI2.out.look HSe.out htx
    have kk0:=cellC xk 0 rfl
    have kk1:=cellC xk 1 rfl
    have hlk:=lt1 xk
    obtain⟨kg,zg,hlg⟩:=row_cell HI2.out.row k hlt
    cases hL:M.look st.seen bs al with
    | some x =>
     have hcx:=hc x hL
     subst hcx
     rw[hL] at hlook HST
     have HST':Hid (M.layStep s st k ⟨s,al,gr,bs,sz,rs⟩=M.layOld st k c):=HST.out
     have HI3:Hid (LI w (Y.setCell (qa g k) (iv c)) B g cap fs.length w.heap.size (k+1) D (M.layOld st k c).adr):=(HI2.out.store k c).more
     clear HI2 xk xf2 HST hc
     rw[HST'.out] at HS1 HP1 HN1 HLn1
     go_wp2
     go_roundw
     case rel=>exact⟨k+1,D,M.layOld st k c,by omega,by go_num,rfl,HS1,HSe,HI3,by omega,by omega,HN1,HLn1⟩
     case measure=>simp[intOf];omega
    | none =>
     rw[hL] at hlook HST
     have HST':Hid (M.layStep s st k ⟨s,al,gr,bs,sz,rs⟩=M.layNew s st k ⟨s,al,gr,bs,sz,rs⟩):=HST.out
     clear HST hc
     rw[HST'.out] at HS1 HP1 HN1 HLn1
     have hkn:nf<nk:=hlf
     have KN:Hid (Calls Tryz.prog 80 #[iv st.pos,iv al] Y fun e w'=>e=.returned (iv (M.next st.pos al))∧Y=w'):=(next_any st.pos al hp0 (by omega) hal Y).mono fun e w' ⟨h1,h2⟩=>⟨h1,h2.symm⟩
     have KLg:Hid (∀W,Calls Tryz.prog 108 #[.agg #[iv s,iv al,.string gr,sv ab bs.length cb,iv sz,sv ar rs.length cr]] W fun e w'=>e=.returned (iv (M.lng s sz bs.length))∧Below W.heap.size W w'):=fun W=>long_any s al sz gr ab bs.length cb _ W
     have kf1:=cellC xf2 1 rfl
     have hlf2:=lt1 xf2
     go_upto_region 11 with (go_at_call 80;refine KN.out.mono ?_;rintro e w' ⟨rfl,rfl⟩)
     have HI3:Hid (LI w (Y.setCell (qa g k) (iv (M.next st.pos al))) B g cap fs.length w.heap.size k D (st.adr.set k (M.next st.pos al))):=HI2.out.store k _
     have xf3:(Y.setCell (qa g k) (iv (M.next st.pos al))).heap[nf]?=some (.cells #[iv s,iv al,.string gr,sv ab bs.length cb,iv sz,sv ar rs.length cr] 87 (0,0)):=(Below.heap_setCell _ _ _ _ (by show nf≠g;omega)).trans xf2
     have xk3:(Y.setCell (qa g k) (iv (M.next st.pos al))).heap[nk]?=some (.cells #[.string (strOfNums bs),iv al] 170 (0,0)):=(Below.heap_setCell _ _ _ _ (by show nk≠g;omega)).trans xk
     clear HI2 xf2 xk KN kf1 kk0 kk1 kg zg hlook hlf2 hlk hlg
     generalize Y.setCell (qa g k) (iv (M.next st.pos al))=Z at *
     have f0:=cellC xf3 0 rfl
     have f1:=cellC xf3 1 rfl
     have f2:=cellC xf3 2 rfl
     have f3:=cellC xf3 3 rfl
     have f4:=cellC xf3 4 rfl
     have f5:=cellC xf3 5 rfl
     have hlZ:=lt1 xf3
     have kz:=(row_cell HI3.out.row k hlt).1
     rw[set_get _ _ _ (by rw[HLn.out];exact hlt)] at kz
     refine wp_region_lat (by kernel_rfl) (by kernel_rfl) ?_
     intro hne
     repeat (go_big_quiet_step ((go_at_call 108;exact lat_of (KLg.out _))))
     refine wpQuiet_nil ?_
     intro V hbV
     have hbV:=lat_out hbV
     clear hne f0 f1 f2 f3 f4 f5 KLg kz
     have HI4:Hid (LI w V B g cap fs.length w.heap.size k D (st.adr.set k (M.next st.pos al))):=HI3.out.later hbV
     have xk4:=(hbV.block _ (lt1 xk3)).trans xk3
     clear HI3 xf3 xk3 hbV hlZ
     have hadd:M.next st.pos al+M.lng s sz bs.length=(M.layNew s st k ⟨s,al,gr,bs,sz,rs⟩).pos:=rfl
     by_cases h3:s=3
     ·have HSe1:Hid (SeenAt (D.put (textL bs al) (.lit (.int .i64 (M.next st.pos al)))) (M.layNew s st k ⟨s,al,gr,bs,sz,rs⟩).seen):=by
       have:(M.layNew s st k ⟨s,al,gr,bs,sz,rs⟩).seen=(bs,al,M.next st.pos al)::st.seen:=if_pos h3
       rw[Hid,this]
       exact HSe.out.put htx
      have h3':(s==3)=true:=by simpa using h3
      clear h3
      obtain⟨V2,hrun2,hg2,hI2⟩:=(HI4.out.later (Below.refl _ _).drew).put (by omega) htx (wf_small (x:=M.next st.pos al) (by omega) (by omega))
      have HI5:Hid (LI w V2 B g cap fs.length w.heap.size (k+1) (D.put (textL bs al) (.lit (.int .i64 (M.next st.pos al)))) (M.layNew s st k ⟨s,al,gr,bs,sz,rs⟩).adr):=hI2
      have kz:=(row_cell HI4.out.row k hlt).1
      rw[set_get _ _ _ (by rw[HLn.out];exact hlt)] at kz
      have kz2:=(row_cell hI2.row k hlt).1
      rw[set_get _ _ _ (by rw[HLn.out];exact hlt)] at kz2
      have k0:=cellC xk4 0 rfl
      have k1:=cellC xk4 1 rfl
      have hlV:=lt1 xk4
      have xk5:=(hg2.block nk hlV (by intro e;have:=Option.some.inj e;omega)).trans xk4
      have k02:=cellC xk5 0 rfl
      have k12:=cellC xk5 1 rfl
      have HS0:Hid (V.drew.cell? (qa nk 0)=some (.string (strOfNums bs))∧V.drew.cell? (qa nk 1)=some (iv al)∧V.drew.cell? (qa g k)=some (iv (M.next st.pos al))):=⟨k0,k1,kz⟩
      have HS2:Hid (V2.cell? (qa nk 0)=some (.string (strOfNums bs))∧V2.cell? (qa nk 1)=some (iv al)∧V2.cell? (qa g k)=some (iv (M.next st.pos al))):=⟨k02,k12,kz2⟩
      clear HI4 hI2 hg2 xk4 xk5 k02 k12 kz2 k0 k1 kz HSe
      go_upto_region 13 with fail
      go_region_held3 (fun w'=>w'.cell? (qa nk 0)=some (.string (strOfNums bs))∧w'.cell? (qa nk 1)=some (iv al)∧w'.cell? (qa g k)=some (iv (M.next st.pos al))) (first|exact HS0.out|exact HS2.out) (fail)
      all_goals
       clear HS0 HS2 hrun2
       go_wp2
       go_roundw
       case rel=>exact⟨k+1,_,M.layNew s st k ⟨s,al,gr,bs,sz,rs⟩,by omega,by go_num,rfl,HS1,HSe1,HI5,by omega,by omega,HN1,HLn1⟩
       case measure=>simp[intOf];omega
     ·have HSe1:Hid (SeenAt D (M.layNew s st k ⟨s,al,gr,bs,sz,rs⟩).seen):=by
       have:(M.layNew s st k ⟨s,al,gr,bs,sz,rs⟩).seen=st.seen:=if_neg h3
       rw[Hid,this]
       exact HSe.out
      have h3':(s==3)=false:=by simpa using h3
      have HI5:Hid (LI w V B g cap fs.length w.heap.size (k+1) D (M.layNew s st k ⟨s,al,gr,bs,sz,rs⟩).adr):=HI4.out.more
      clear HI4 xk4 HSe
      go_wp2
      go_roundw
      case rel=>exact⟨k+1,_,M.layNew s st k ⟨s,al,gr,bs,sz,rs⟩,by omega,by go_num,rfl,HS1,HSe1,HI5,by omega,by omega,HN1,HLn1⟩
      case measure=>simp[intOf];omega
   ·have HST:Hid (M.layStep sect st k f=st):=if_neg hs
    have HI1:Hid (LI w (wr.alloc (.cells #[iv f.sect,iv f.align,.string f.group,sv ab f.bytes.length cb,iv f.size,sv ar f.rels.length cr] 87)) B g cap fs.length w.heap.size (k+1) D st.adr):=(HI.out.later (bra _ _)).more
    rw[HST.out] at HS1 HP1 HN1 HLn1
    have hne:(f.sect !=sect)=true:=by simpa using hs
    clear HI HST hBy hok
    obtain⟨s,al,gr,bs,sz,rs⟩:=f
    simp only at e0 e1 e2 e3 e4 e5 hg hs htx HI1 hne
    go_wp2
    go_roundw
    case rel=>exact⟨k+1,D,st,by omega,by go_num,rfl,HS1,HSe,HI1,by omega,by omega,HSn,HLn⟩
    case measure=>simp[intOf];omega
  ·have hkl:k=fs.length:=by omega
   subst hkl
   have HS1:=HS.out
   rw[List.take_length] at HS1
   have HE:Hid (M.layFrags sect tl fs pos=st):=by rw[Hid,HL.out,HS1]
   clear HS HS1
   go_wp2
   go_ret
   exact⟨by rw[HE.out];rfl,HI.out.gb,by rw[HE.out];exact HI.out.row⟩
end Go.Proofs.YtpkfmfhodbjckaaGreatDoor
namespace Go.Proofs.YtpkfmfhodbjckaaGreatDoor
open Go Go.RowKit
structure ComOk (d:M.Dfn):Prop where
 align:M.AlignOk d.align
 small:d.align≤8
 size0:0≤d.size
 size64:d.size≤64
theorem comOk_of{d:M.Dfn}(h:M.plainDfn d=0)(hk:(d.kind==3)=true):ComOk d:=by
 have hk':d.kind=3:=by simpa using hk
 unfold M.plainDfn at h
 split at h
 ·cases h
 rw[if_neg (by omega)] at h
 cases hb:(d.frag==0&&d.pos==0&&M.within d.size 1 64&&M.isAlign d.align)
 ·rw[hb] at h
  simp at h
 ·simp only[Bool.and_eq_true,beq_iff_eq,M.within,decide_eq_true_eq] at hb
  have ha:=M.alignOk_of hb.2
  exact⟨ha.1,ha.2,by omega,by omega⟩
theorem comOk_grow{o d:M.Dfn}(h:ComOk o)(h':ComOk d):ComOk (M.grow o d):=by
 have h1:(M.grow o d).align=o.align∨(M.grow o d).align=d.align:=by
  show max o.align d.align=_∨max o.align d.align=_
  omega
 have h2:(M.grow o d).size=o.size∨(M.grow o d).size=d.size:=by
  show max o.size d.size=_∨max o.size d.size=_
  omega
 refine⟨?_,?_,?_,?_⟩
 ·rcases h1 with e|e<;>rw[e]
  ·exact h.align
  ·exact h'.align
 ·rcases h1 with e|e<;>rw[e]
  ·exact h.small
  ·exact h'.small
 ·rcases h2 with e|e<;>rw[e]
  ·exact h.size0
  ·exact h'.size0
 ·rcases h2 with e|e<;>rw[e]
  ·exact h.size64
  ·exact h'.size64
theorem comOk_fold:∀(l:List M.Dfn) (o:M.Dfn),ComOk o→(∀d∈l,ComOk d)→ComOk (l.foldl M.grow o)
 | [],o,h,_=>h
 | d::l,o,h,hl=>comOk_fold l (M.grow o d) (comOk_grow h (hl d (List.mem_cons_self ..))) fun x hx=>hl x (List.mem_cons_of_mem _ hx)
theorem kind_of{ds:List M.Dfn}{s:ByteArray}{k:Int}{d:M.Dfn}(h:d∈M.ofKind ds s k):d∈ds∧(d.kind==k)=true:=by
 obtain⟨h1,h2⟩:=List.mem_filter.1 h
 unfold M.isDef at h2
 exact⟨h1,(Bool.and_eq_true_iff.1 h2).2⟩
theorem headD_mem{l:List M.Dfn}(h:0<l.length)(d:M.Dfn):l.headD d∈l:=by
 cases l with
 | nil=>simp at h
 | cons x l=>exact List.mem_cons_self ..
theorem common_ok{p:M.Prt}(hp:M.Ok p)(n:ByteArray)(h0:(M.find p.defs n).2=0)(hk:(M.find p.defs n).1.kind=3):ComOk (M.find p.defs n).1:=by
 unfold M.find M.findIn at h0 hk ⊢
 split at h0
 ·cases h0
 split at h0
 ·rename_i h1 h2
  rw[if_neg h1,if_pos h2] at hk
  have:=(kind_of (headD_mem (l:=M.ofKind p.defs n 1) (by omega) M.dfnZ)).2
  rw[beq_iff_eq] at this
  simp only at hk
  omega
 split at h0
 ·rename_i h1 h2 h3
  rw[if_neg h1,if_neg h2,if_pos h3]
  have hall:∀d∈M.ofKind p.defs n 3,ComOk d:=fun d hd=>comOk_of (hp.plain d (kind_of hd).1) (kind_of hd).2
  exact comOk_fold _ _ (hall _ (headD_mem h3 _)) hall
 split at h0
 ·rename_i h1 h2 h3 h4
  rw[if_neg h1,if_neg h2,if_neg h3,if_pos h4] at hk
  have:=(kind_of (headD_mem (l:=M.ofKind p.defs n 2) h4 M.dfnZ)).2
  rw[beq_iff_eq] at this
  simp only at hk
  omega
 ·cases h0
theorem commons_take(ds:List M.Dfn)(s:M.CS)(L:List ByteArray)(k:Nat)(h:k<L.length):(L.take (k+1)).foldl (M.comStep ds) s=M.comStep ds ((L.take k).foldl (M.comStep ds) s) (L.getD k str0):=by
 rw[take_snoc L str0 k h,List.foldl_append];rfl
theorem layCommons_any(p:M.Prt)(pos:Int)(a1 a2:Option Addr)(c1 c2:Nat)(w:World)(hf:FragsAt w (sv a1 p.frags.length c1) p.frags)(hd:DefsAt w (sv a2 p.defs.length c2) p.defs)(hck:M.checkPart p=0)(h0:0≤pos)(h1:pos≤100000) :
  Calls Tryz.prog 82 #[.agg #[sv a1 p.frags.length c1,sv a2 p.defs.length c2],iv pos] w fun e w'=>Below w.heap.size w w'∧∃vN vC,e=.returned (.tuple #[vN,vC,iv (M.commons p pos).pos]) ∧
   w'.ownsRow w.heap.size 9 1 vN (M.commons p pos).names.length ((M.commons p pos).names.map Value.string)∧w'.ownsRow w.heap.size 3 1 vC (M.commons p pos).at_.length ((M.commons p pos).at_.map (Value.int .i64))∧(∀s∈(M.commons p pos).names,s.size≤maxLen)∧(M.commons p pos).names.length=(M.commons p pos).at_.length∧(M.commons p pos).names.length≤60∧0≤(M.commons p pos).pos∧(M.commons p pos).pos≤pos+4260:=by
 obtain⟨i0,hi,hz0,hz1,hz2⟩:=info_parts (P:=Tryz.prog) (e:=9) (z:=.string ⟨#[]⟩) (size:=1) (bytes:=16) (by kernel_rfl)
 obtain⟨i1,hi1,hy0,hy1,hy2⟩:=info_parts (P:=Tryz.prog) (e:=3) (z:=iv 0) (size:=1) (bytes:=8) (by kernel_rfl)
 have hok:=(M.ok_iff p).1 hck
 have HW:Hid (M.commons p pos=(M.rising (M.definedNames p.defs)).foldl (M.comStep p.defs) ⟨[],[],pos⟩):=rfl
 have lD:(M.rising (M.definedNames p.defs)).length≤60:=by
  have h1:=rising_le (M.definedNames p.defs)
  have h2:(M.definedNames p.defs).length=p.defs.length:=by simp[M.definedNames]
  have:=hok.nd
  omega
 have hA:Below w.heap.size w (w.alloc (.cells #[sv a1 p.frags.length c1,sv a2 p.defs.length c2] 43)):=bra _ _
 have q0:=heap_alloc_new w (.cells #[sv a1 p.frags.length c1,sv a2 p.defs.length c2] 43)
 have HFD:Hid (∀W,Below w.heap.size w W→FragsAt W (sv a1 p.frags.length c1) p.frags∧DefsAt W (sv a2 p.defs.length c2) p.defs):=fun W hW=>⟨hf.later hW,hd.later hW⟩
 have KF:Hid (∀s W,Below w.heap.size w W→Calls Tryz.prog 110 #[.agg #[sv a1 p.frags.length c1,sv a2 p.defs.length c2],.string s] W fun e w'=>e=.returned (.tuple #[.agg (dfnArr (M.find p.defs s).1),iv (M.find p.defs s).2])∧Below W.heap.size W w'):=fun s W hW=>by
  have:=findP_any p s a1 a2 c1 c2 W (hf.later hW) (hd.later hW)
  unfold findOf at this
  rwa [if_pos hck] at this
 have KD:Hid (∀W,Below w.heap.size w W→Calls Tryz.prog 109 #[.agg #[sv a1 p.frags.length c1,sv a2 p.defs.length c2]] W fun e w'=>Below W.heap.size W w'∧∃x y,e=.returned (.tuple #[sv x (M.rising (M.definedNames p.defs)).length y,iv 0])∧StrsAt w' (sv x (M.rising (M.definedNames p.defs)).length y) (M.rising (M.definedNames p.defs))):=fun W hW =>
  (definedP_any p a1 a2 c1 c2 W (hf.later hW) (hd.later hW)).mono fun e w' ⟨h1,v,h2,h3,h4⟩=>by
    have hx:definedOfP p=M.rising (M.definedNames p.defs):=if_pos hck
    rw[hx] at h3 h4
    rw[hck] at h2
    obtain⟨x,y,rfl⟩:=own_len h3
    exact⟨h1,x,y,h2,row_strs h3 h4⟩
 have HCO:Hid (∀n,(M.find p.defs n).2=0→(M.find p.defs n).1.kind=3→ComOk (M.find p.defs n).1):=fun n=>common_ok hok n
 clear hf hd hck hok
 generalize M.rising (M.definedNames p.defs)=L at *
 go_enter Tryz.func82,Tryz.ntmps82
 go_upto_region 2 with (go_at_call 109;refine(KD.out _ hA).mono ?_;rintro e X ⟨hb1,x,y,rfl,hL⟩)
 have HX:Hid (Below w.heap.size w X):=hA.trans (hb1.mono hA.size)
 have q1:=(hb1.block _ (lt1 q0)).trans q0
 have HL:Hid (StrsAt X (sv x L.length y) L):=hL
 clear hA q0 hb1 hL KD
 have hwX:w.heap.size≤X.heap.size:=HX.out.size
 have hl0:=lt1 q1
 have HQ:Hid (∀W,Below X.heap.size X W→W.cell? (qa w.heap.size 0)=some (sv a1 p.frags.length c1)∧W.cell? (qa w.heap.size 1)=some (sv a2 p.defs.length c2)):=fun W hW=>by
  have:=(hW.block _ hl0).trans q1
  exact⟨cellB this 0,cellB this 1⟩
 clear q1
 go_wp2_with fail
 go_loopw [1,4,5,20] (fun s1 s4 s5 s20 wr=>∃(k:Nat) (st:M.CS),k≤L.length∧s20=iv k∧s1=iv st.pos∧Hid (st=(L.take k).foldl (M.comStep p.defs) ⟨[],[],pos⟩)∧wr.ownsRow X.heap.size 9 1 s4 st.names.length (st.names.map Value.string)∧wr.ownsRow X.heap.size 3 1 s5 st.at_.length (st.at_.map (Value.int .i64))∧Hid (Below X.heap.size X wr)∧st.names.length=st.at_.length∧st.names.length≤k∧Hid (∀s∈st.names,s.size≤maxLen)∧0≤st.pos∧st.pos≤pos+71*k) (fun _ _ _ s20 _=>L.length-(intOf s20).toNat)
 case atStart=>exact⟨0,⟨[],[],pos⟩,Nat.zero_le _,rfl,rfl,rfl,World.ownsRow_nil _ _ _ _,World.ownsRow_nil _ _ _ _,Below.refl _ _,rfl,Nat.le_refl _,(fun s hs=>by cases hs),h0,by show pos≤pos+71*((0:Nat):Int);omega⟩
 case round =>
  obtain⟨k,st,hk,rfl,rfl,HS,hoN,hoC,HB,hnc,hnk,HZ,hp0,hp1⟩:=hrel
  have hXr:X.heap.size≤wr.heap.size:=HB.out.size
  by_cases hlt:k<L.length
  ·obtain⟨b,off,rfl,e0,hbr⟩:=(HL.out.later HB.out).cell k hlt
   have HS1:=commons_take p.defs ⟨[],[],pos⟩ L k hlt
   rw[←HS.out] at HS1
   have hkl:(k:Int)<(L.length:Int):=by omega
   obtain⟨cp0,cp1⟩:=HQ.out wr HB.out
   have hnm:(L.getD k str0).size≤maxLen:=HL.out.2 _ (getD_mem L str0 k hlt)
   have hco:=HCO.out (L.getD k str0)
   have KF':Hid (Calls Tryz.prog 110 #[.agg #[sv a1 p.frags.length c1,sv a2 p.defs.length c2],.string (L.getD k str0)] wr fun e w'=>e=.returned (.tuple #[.agg (dfnArr (M.find p.defs (L.getD k str0)).1),iv (M.find p.defs (L.getD k str0)).2])∧Below wr.heap.size wr w'):=KF.out _ wr (HX.out.trans (HB.out.mono hwX))
   clear HS
   unfold M.comStep at HS1
   generalize L.getD k str0=s at *
   generalize M.find p.defs s=fr at *
   obtain⟨⟨nm,kd,fg,ps,sz,al⟩,er⟩:=fr
   simp only[dfnArr] at KF'
   simp only at hco
   obtain⟨a4,n4,c4,rfl⟩:=own_form hoN
   obtain⟨a5,n5,c5,rfl⟩:=own_form hoC
   go_upto_region 6 with (go_at_call 110;refine KF'.out.mono ?_;rintro e w5 ⟨rfl,hb5⟩)
   have HBY:Hid (Below wr.heap.size wr (w5.alloc (.cells #[.string nm,iv kd,iv fg,iv ps,iv sz,iv al] 72))):=hb5.alloc hb5.size _
   have xd:=heap_alloc_new w5 (.cells #[.string nm,iv kd,iv fg,iv ps,iv sz,iv al] 72)
   clear KF' hb5 e0 cp0 cp1
   generalize w5.alloc (.cells #[.string nm,iv kd,iv fg,iv ps,iv sz,iv al] 72)=Y at *
   generalize w5.heap.size=n8 at *
   have hoNY:=hoN.kept (grown_of_below HBY.out none) own_self
   have hoCY:=hoC.kept (grown_of_below HBY.out none) own_self
   have HB5:Hid (Below X.heap.size X Y):=HB.out.trans (HBY.out.mono hXr)
   have hXY:X.heap.size≤Y.heap.size:=HB5.out.size
   have d1:=cellC xd 1 rfl
   have d4:=cellC xd 4 rfl
   have d5:=cellC xd 5 rfl
   have hlY:=lt1 xd
   clear HBY HB hoN hoC
   by_cases her:er=0
   ·by_cases hkd:kd=3
    ·have hc:=hco her hkd
     have HS2:Hid ((L.take (k+1)).foldl (M.comStep p.defs) ⟨[],[],pos⟩=⟨st.names++[s],st.at_++[M.next st.pos al],M.next st.pos al+sz⟩):=by rw[Hid];unfold M.comStep;rw[HS1,if_pos ⟨her,hkd⟩]
     have hnb:=M.next_bounds hp0 hc.align
     have hsm:=hc.small
     have hs0:0≤sz:=hc.size0
     have hs64:sz≤64:=hc.size64
     have KN:Hid (Calls Tryz.prog 80 #[iv st.pos,iv al] Y fun e w'=>e=.returned (iv (M.next st.pos al))∧Y=w'):=(next_any st.pos al hp0 (by omega) hc.align Y).mono fun e w' ⟨h1,h2⟩=>⟨h1,h2.symm⟩
     have hn0:(er !=0)=false:=by simpa using her
     have hn3:(kd !=3)=false:=by simpa using hkd
     simp only at hnb hsm
     clear HS1 her hkd hco
     go_upto_region 8 with (go_at_call 80;refine KN.out.mono ?_;rintro e w' ⟨rfl,rfl⟩)
     clear KN
     have hnews:∀j u,(#[.string s]:Array Value).toList[j]?=some u→(Y.alloc (.cells #[.string s] 9)).cell? ((qa Y.heap.size 0).add j)=some u:=World.news_of_block (heap_alloc_new Y _)
     go_wp2_with (at_builtin;refine wpList_append_own _ rfl _ _ 39 rfl X.heap.size 9 i0 (.string ⟨#[]⟩) 1 16 Tryz.underlying39 hi hz0 hz1 hz2 rfl (by decide) _ _ _ rfl (hoNY.alloc _) ⟨Y.heap.size,0,none⟩ 1 1 (#[.string s]:Array Value).toList rfl rfl hnews (fun u hu=>by simp at hu;subst hu;rfl) (by unfold maxLen;omega) (by omega) (by simp;omega) ?_;intro v3 w3 ho3 hg3 hnil3;refine Hid.out ?_)
     have hoC3:=(hoCY.alloc (.cells #[.string s] 9)).kept hg3 (own_apart hoCY hoNY (by decide))
     have xd3:=block_kept (hoNY.alloc _) hg3 ((heap_alloc_old _ _ hlY).trans xd) (by decide)
     have HB3:Hid (Below X.heap.size X w3):=(HB5.out.alloc hXY _).grown hg3 (by simp;omega) (fun k hk=>(hoNY.lt k hk).1)
     have hX3:X.heap.size≤w3.heap.size:=HB3.out.size
     have hl3:=lt1 xd3
     obtain⟨a6,n6,c6,rfl⟩:=own_form ho3
     clear hnews hoNY hoCY xd hg3 hnil3 HB5 d1 d4 d5
     have hnews:∀j u,(#[iv (M.next st.pos al)]:Array Value).toList[j]?=some u→(w3.alloc (.cells #[iv (M.next st.pos al)] 3)).cell? ((qa w3.heap.size 0).add j)=some u:=World.news_of_block (heap_alloc_new w3 _)
     refine Lib.hid ?_
     go_wp2_with (at_builtin;refine wpList_append_own _ rfl _ _ 73 rfl X.heap.size 3 i1 (iv 0) 1 8 Tryz.underlying73 hi1 hy0 hy1 hy2 rfl (by decide) _ _ _ rfl (hoC3.alloc _) ⟨w3.heap.size,0,none⟩ 1 1 (#[iv (M.next st.pos al)]:Array Value).toList rfl rfl hnews (fun u hu=>by simp at hu;subst hu;rfl) (by unfold maxLen;omega) (by omega) (by simp;omega) ?_;intro v4 w4 ho4 hg4 hnil4;refine Hid.out ?_)
     have hoN4:=(ho3.alloc (.cells #[iv (M.next st.pos al)] 3)).kept hg4 (own_apart ho3 hoC3 (by decide))
     have xd4:=block_kept (hoC3.alloc _) hg4 ((heap_alloc_old _ _ hl3).trans xd3) (by decide)
     have HB4:Hid (Below X.heap.size X w4):=(HB3.out.alloc hX3 _).grown hg4 (by simp;omega) (fun k hk=>(hoC3.lt k hk).1)
     have g4:=cellC xd4 4 rfl
     have hl4:=lt1 xd4
     have hoN5:w4.ownsRow X.heap.size 9 1 (sv a6 n6 c6) (st.names++[s]).length ((st.names++[s]).map Value.string):=by rw[List.length_append,List.map_append];exact hoN4
     have hoC5:w4.ownsRow X.heap.size 3 1 v4 (st.at_++[M.next st.pos al]).length ((st.at_++[M.next st.pos al]).map (Value.int .i64)):=by rw[List.length_append,List.map_append];exact ho4
     obtain⟨a7,n7,c7,rfl⟩:=own_form ho4
     have HZ1:Hid (∀x∈st.names++[s],x.size≤maxLen):=fun x hx=>by
      rcases List.mem_append.1 hx with h|h
      ·exact HZ.out x h
      ·rw[List.mem_singleton.1 h];exact hnm
     clear hnews hoC3 ho3 hg4 hnil4 xd3 xd4 hoN4 ho4 HB3
     refine Lib.hid ?_
     go_wp2
     go_roundw
     case rel=>exact⟨k+1,⟨st.names++[s],st.at_++[M.next st.pos al],M.next st.pos al+sz⟩,by omega,by go_num,rfl,HS2.out.symm,hoN5,hoC5,HB4,by simp;omega,by simp;omega,HZ1,by simp only;omega,by simp only;omega⟩
     case measure=>simp[intOf];omega
    ·have HS2:Hid (st=(L.take (k+1)).foldl (M.comStep p.defs) ⟨[],[],pos⟩):=by rw[Hid];unfold M.comStep;rw[HS1,if_neg (fun h=>hkd h.2)]
     have hn0:(er !=0)=false:=by simpa using her
     have hn3:(kd !=3)=true:=by simpa using hkd
     clear HS1 her hkd hco
     go_wp2
     go_roundw
     case rel=>exact⟨k+1,st,by omega,by go_num,rfl,HS2,hoNY,hoCY,HB5,hnc,by omega,HZ,hp0,by omega⟩
     case measure=>simp[intOf];omega
   ·have HS2:Hid (st=(L.take (k+1)).foldl (M.comStep p.defs) ⟨[],[],pos⟩):=by rw[Hid];unfold M.comStep;rw[HS1,if_neg (fun h=>her h.1)]
    have hn0:(er !=0)=true:=by simpa using her
    clear HS1 her hco
    go_wp2
    go_roundw
    case rel=>exact⟨k+1,st,by omega,by go_num,rfl,HS2,hoNY,hoCY,HB5,hnc,by omega,HZ,hp0,by omega⟩
    case measure=>simp[intOf];omega
  ·have hkl:k=L.length:=by omega
   subst hkl
   have HS1:=HS.out
   rw[List.take_length] at HS1
   have HE:Hid (M.commons p pos=st):=by rw[Hid,HW.out,HS1]
   clear HS HS1
   obtain⟨a4,n4,c4,rfl⟩:=own_form hoN
   obtain⟨a5,n5,c5,rfl⟩:=own_form hoC
   have HEnd:Hid (Below w.heap.size w wr):=HX.out.trans (HB.out.mono hwX)
   go_wp2
   refine bodyPost_ret (v:=.tuple #[sv a4 n4 c4,sv a5 n5 c5,iv st.pos]) (by simp[results,Tryz.results82,go_sem]) rfl ?_
   rw[HE.out]
   exact⟨HEnd.out,_,_,rfl,row_base hoN hwX,row_base hoC hwX,HZ.out,hnc,by omega,hp0,by omega⟩
def IntsAt (w:World) (v:Value) (l:List Int):Prop:=SlAt w v 1 l.length (fun j _=>iv (l.getD j 0))
theorem IntsAt.later{w w':World}{v:Value}{l:List Int}(h:IntsAt w v l)(hb:Below w.heap.size w w'):IntsAt w' v l:=SlAt.later h hb
theorem flat_one:∀l:List Int,(l.flatMap fun x=>[iv x])=l.map (Value.int .i64)
 | []=>rfl
 | x::l=>by rw[List.flatMap_cons,flat_one l];rfl
theorem row_ints{w:World}{B:Nat}{v:Value}{l:List Int}(h:w.ownsRow B 3 1 v l.length (l.map (Value.int .i64))):IntsAt w v l:=by
 have h':w.ownsRow B 3 1 v l.length (l.flatMap fun x=>[iv x]):=by
  rwa [flat_one l]
 refine(row_slice (k:=1) (0:Int) (fun x=>[iv x]) (fun _=>rfl) l h').congr' (fun j i hj hi=>?_)
 obtain rfl:i=0:=by omega
 rfl
theorem IntsAt.cell{w:World}{a:Option Addr}{c:Nat}{l:List Int}(h:IntsAt w (sv a l.length c) l)(k:Nat)(hk:k<l.length) :
  ∃b off,a=some (qa b off)∧w.cell? (qa b (off+k))=some (iv (l.getD k 0))∧b<w.heap.size:=by
 obtain⟨b,off,e,hc⟩:=SlAt.at h k hk
 have:=hc 0 (by omega)
 rw[Nat.mul_one,Nat.add_zero] at this
 exact⟨b,off,e,this,wlt this⟩
theorem ints_nil(w:World):IntsAt w (sv none 0 0) []:=⟨none,0,rfl,Nat.zero_le _,.inl rfl⟩
theorem strs_nil(w:World):StrsAt w (sv none 0 0) []:=⟨⟨none,0,rfl,Nat.zero_le _,.inl rfl⟩,fun s hs=>by cases hs⟩
def layArr (vF vN vC:Value) (f t:Nat→Int):Array Value:=#[vF,vN,vC,iv (f 0),iv (f 1),iv (f 2),iv (f 3),iv (f 4),iv (f 5),iv (t 0),iv (t 1),iv (t 2),iv (t 3),iv (t 4),iv (t 5)]
def layZ:Array Value:=#[sv none 0 0,sv none 0 0,sv none 0 0,iv 0,iv 0,iv 0,iv 0,iv 0,iv 0,iv 0,iv 0,iv 0,iv 0,iv 0,iv 0]
structure YI (w W:World) (a1 a2:Option Addr) (c1 c2:Nat) (p:M.Prt) (g b:Nat) (adr:List Int) (vN vC:Value) (f t:Nat→Int):Prop where
 part:W.heap[w.heap.size]?=some (.cells #[sv a1 p.frags.length c1,sv a2 p.defs.length c2] 43 (0,0))
 res:W.heap[w.heap.size+1]?=some (.cells layZ 76 (0,0))
 blk:W.heap[b]?=some (.cells (layArr (sv (some (qa g 0)) p.frags.length p.frags.length) vN vC f t) 76 (0,0))
 row:W.ownsRow (w.heap.size+1+1) 3 1 (sv (some (qa g 0)) p.frags.length p.frags.length) p.frags.length (adr.map (Value.int .i64))
 below:Below w.heap.size w W
 high:w.heap.size+1<b
theorem row_high{w:World}{B e k n g c:Nat}{xs:List Value}(h:w.ownsRow B e k (sv (some (qa g 0)) n c) n xs):B≤g∧g<w.heap.size:=h.lt g rfl
theorem row_type{w:World}{B e k n g c:Nat}{xs:List Value}(h:w.ownsRow B e k (sv (some (qa g 0)) n c) n xs){b:Nat}{cs:Array Value}{t:TypeId}{fr:Nat × Nat}(hb:w.heap[b]?=some (.cells cs t fr))(hne:e≠t):b≠g:=by
 intro e2
 subst e2
 rcases own_ne h hb hne with h1|h1
 ·cases h1
 ·exact h1 rfl
theorem YI.later{w W X:World}{a1 a2:Option Addr}{c1 c2:Nat}{p:M.Prt}{g b:Nat}{adr:List Int}{vN vC:Value}{f t:Nat→Int}(h:YI w W a1 a2 c1 c2 p g b adr vN vC f t)(hb:Below W.heap.size W X):YI w X a1 a2 c1 c2 p g b adr vN vC f t :=
 ⟨(hb.block _ (lt1 h.part)).trans h.part,(hb.block _ (lt1 h.res)).trans h.res,(hb.block _ (lt1 h.blk)).trans h.blk,h.row.kept (grown_of_below hb none) own_self,h.below.trans (hb.mono h.below.size),h.high⟩
theorem YI.call{w W X:World}{a1 a2:Option Addr}{c1 c2:Nat}{p:M.Prt}{g b:Nat}{adr adr':List Int}{vN vC:Value}{f t:Nat→Int}(h:YI w W a1 a2 c1 c2 p g b adr vN vC f t)(hg:W.grownBy X (some g))
  (hr:X.ownsRow (w.heap.size+1+1) 3 1 (sv (some (qa g 0)) p.frags.length p.frags.length) p.frags.length (adr'.map (Value.int .i64))):YI w X a1 a2 c1 c2 p g b adr' vN vC f t:=by
 have hgg:=row_high h.row
 refine⟨(hg.block _ (lt1 h.part) (by intro e;have:=Option.some.inj e;omega)).trans h.part,(hg.block _ (lt1 h.res) (by intro e;have:=Option.some.inj e;omega)).trans h.res,
  (hg.block _ (lt1 h.blk) (by intro e;exact row_type h.row h.blk (by decide) (Option.some.inj e))).trans h.blk,hr,h.below.grown hg h.below.size (fun k hk=>by have:=Option.some.inj hk;omega),h.high⟩
theorem YI.put{w W:World}{a1 a2:Option Addr}{c1 c2:Nat}{p:M.Prt}{g b:Nat}{adr:List Int}{vN vC:Value}{f t:Nat→Int}(h:YI w W a1 a2 c1 c2 p g b adr vN vC f t)(i:Nat)(u:Value)(vN' vC':Value)(f' t':Nat→Int)
  (hs:(layArr (sv (some (qa g 0)) p.frags.length p.frags.length) vN vC f t).setIfInBounds i u=layArr (sv (some (qa g 0)) p.frags.length p.frags.length) vN' vC' f' t'):YI w (W.setCell (qa b i) u) a1 a2 c1 c2 p g b adr vN' vC' f' t':=by
 have hh:=h.high
 refine⟨(Below.heap_setCell _ _ _ _ (by show w.heap.size≠b;omega)).trans h.part,(Below.heap_setCell _ _ _ _ (by show w.heap.size+1≠b;omega)).trans h.res,?_,?_,h.below.setCell (by show w.heap.size≤b;omega) _,h.high⟩
 ·rw[←hs]
  exact heap_setCell_same W b i _ _ u h.blk
 ·exact ownsRow_setCell_other h.row (fun e=>row_type h.row h.blk (by decide) (Option.some.inj e).symm) u
end Go.Proofs.YtpkfmfhodbjckaaGreatDoor
