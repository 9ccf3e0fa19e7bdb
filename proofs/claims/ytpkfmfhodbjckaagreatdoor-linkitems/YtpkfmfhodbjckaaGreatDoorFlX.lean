/-
  The contracts of package fill's small functions: Range, known, relative, within, address, fits, Value, checkPlace. The contracts of split and whole. The contract of Get. The contract of Put.
-/
import Derived.Test.YtpkfmfhodbjckaaGreatDoorFlModel
import Derived.Test.YtpkfmfhodbjckaaGreatDoorMemX
import Derived.Laws.CopyOwn
import Derived.Laws.OwnMore
import Derived.Lib.Hide
import Derived.Deep.Cut
set_option linter.unusedVariables false
set_option maxHeartbeats 1000000
set_option maxRecDepth 100000
namespace Go.Proofs.YtpkfmfhodbjckaaGreatDoor
open Go.RowKit
theorem range_any(n:Int)(w:World) :
  Calls Tryz.prog 131 #[iv n] w fun e w'=>e=.returned (.tuple #[iv (M.lo n),iv (M.hi n)])∧w'=w:=by
 by_cases h1:n=1
 ·subst h1
  go_enter Tryz.func131,Tryz.ntmps131
  go_wp2
  go_ret2
  exact⟨rfl,rfl⟩
 by_cases h2:n=2
 ·subst h2
  go_enter Tryz.func131,Tryz.ntmps131
  go_wp2
  go_ret2
  exact⟨rfl,rfl⟩
 by_cases h3:n=3
 ·subst h3
  go_enter Tryz.func131,Tryz.ntmps131
  go_wp2
  go_ret2
  exact⟨rfl,rfl⟩
 by_cases h4:n=4
 ·subst h4
  go_enter Tryz.func131,Tryz.ntmps131
  go_wp2
  go_ret2
  exact⟨rfl,rfl⟩
 have b1:(n==1)=false:=by simp[h1]
 have b2:(n==2)=false:=by simp[h2]
 have b3:(n==3)=false:=by simp[h3]
 have b4:(n==4)=false:=by simp[h4]
 have HX:Hid (M.lo n=1∧M.hi n=0):=by simp[Hid,M.lo,M.hi,h1,h2,h3,h4]
 generalize M.lo n=x at *
 generalize M.hi n=y at *
 clear h1 h2 h3 h4
 go_enter Tryz.func131,Tryz.ntmps131
 go_wp2
 go_ret2
 exact⟨by rw[HX.out.1,HX.out.2];rfl,rfl⟩
theorem fwithin_any(n a b:Int)(w:World) :
  Calls Tryz.prog 113 #[iv n,iv a,iv b] w fun e w'=>e=.returned (.bool (M.within n a b))∧w'=w:=by
 by_cases h1:a≤n<;>by_cases h2:n≤b
 all_goals
  go_enter Tryz.func113,Tryz.ntmps113
  go_wp2
  go_ret
  exact⟨ret_bool (by simp[M.within,h1,h2]),rfl⟩
theorem known_any(k:Int)(w:World) :
  Calls Tryz.prog 111 #[iv k] w fun e w'=>e=.returned (.bool (M.known k))∧w'=w:=by
 unfold M.known
 have KW:=wide_any k
 generalize M.wide k=x at *
 go_enter Tryz.func111,Tryz.ntmps111
 go_wp2_with (go_at_call 127;refine(KW _).mono ?_;rintro e w' ⟨rfl,rfl⟩)
 go_ret
 exact⟨ret_bool (by simp),rfl⟩
theorem relative_any(k:Int)(w:World) :
  Calls Tryz.prog 114 #[iv k] w fun e w'=>e=.returned (.bool (M.isRel k))∧w'=w:=by
 unfold M.isRel
 cases h1:(k==3)<;>cases h2:(k==4)
 all_goals
  go_enter Tryz.func114,Tryz.ntmps114
  go_wp2
  go_ret
  exact⟨rfl,rfl⟩
theorem address_any(n:Int)(w:World) :
  Calls Tryz.prog 112 #[iv n] w fun e w'=>e=.returned (.bool (M.addr n))∧w'=w:=by
 unfold M.addr
 have KW:=fwithin_any n 0 65536
 generalize M.within n 0 65536=x at *
 go_enter Tryz.func112,Tryz.ntmps112
 go_wp2_with (go_at_call 113;refine(KW _).mono ?_;rintro e w' ⟨rfl,rfl⟩)
 go_ret
 exact⟨rfl,rfl⟩
theorem fits_any(k n:Int)(w:World) :
  Calls Tryz.prog 115 #[iv k,iv n] w fun e w'=>e=.returned (.bool (M.fits k n))∧w'=w:=by
 unfold M.fits
 have KR:=range_any k
 have KW:=fwithin_any n (M.lo k) (M.hi k)
 generalize M.within n (M.lo k) (M.hi k)=x at *
 generalize M.lo k=a at *
 generalize M.hi k=b at *
 go_enter Tryz.func115,Tryz.ntmps115
 go_wp2_with (first|(go_at_call 131;refine(KR _).mono ?_;rintro e w' ⟨rfl,rfl⟩)|(go_at_call 113;refine(KW _).mono ?_;rintro e w' ⟨rfl,rfl⟩))
 go_ret
 exact⟨rfl,rfl⟩
theorem value_any(k pos tq add:Int)(w:World) :
  Calls Tryz.prog 85 #[iv k,iv pos,iv tq,iv add] w fun e w'=>e=.returned (.tuple #[iv (M.value k pos tq add).1,iv (M.value k pos tq add).2])∧w'=w:=by
 have KK:=known_any k
 have KA:=address_any pos
 have KT:=address_any tq
 have KD:=fwithin_any add (-10000) 10000
 have KL:=relative_any k
 have HV:Hid (M.value k pos tq add=if M.known k=false then (0,4) else if (M.addr pos&&M.addr tq&&M.within add (-10000) 10000)=false then (0,3) else if M.fits k (M.sum k pos tq add)=false then (0,9) else (M.sum k pos tq add,0)):=rfl
 have HA:Hid (M.addr pos=true→0≤pos∧pos≤65536):=by unfold M.addr M.within;simp[Hid]
 have HT:Hid (M.addr tq=true→0≤tq∧tq≤65536):=by unfold M.addr M.within;simp[Hid]
 have HD:Hid (M.within add (-10000) 10000=true→-10000≤add∧add≤10000):=by unfold M.within;simp[Hid]
 unfold M.sum at HV
 generalize M.value k pos tq add=V at *
 generalize M.known k=kn at *
 generalize M.isRel k=rl at *
 generalize M.within add (-10000) 10000=xd at *
 generalize M.addr tq=xt at *
 generalize M.addr pos=xp at *
 cases kn
 ·obtain rfl:V=(0,4):=HV.out
  clear HV
  go_enter Tryz.func85,Tryz.ntmps85
  go_wp2_with (go_at_call 111;refine(KK _).mono ?_;rintro e w' ⟨rfl,rfl⟩)
  go_ret2
  exact⟨rfl,rfl⟩
 cases xp
 ·obtain rfl:V=(0,3):=HV.out
  clear HV
  go_enter Tryz.func85,Tryz.ntmps85
  go_wp2_with (first|(go_at_call 111;refine(KK _).mono ?_;rintro e w' ⟨rfl,rfl⟩)|(go_at_call 112;refine(KA _).mono ?_;rintro e w' ⟨rfl,rfl⟩))
  go_ret2
  exact⟨rfl,rfl⟩
 cases xt
 ·obtain rfl:V=(0,3):=HV.out
  clear HV
  go_enter Tryz.func85,Tryz.ntmps85
  go_wp2_with (first|(go_at_call 111;refine(KK _).mono ?_;rintro e w' ⟨rfl,rfl⟩)|(go_at_call 112;(first|refine(KA _).mono ?_|refine(KT _).mono ?_);rintro e w' ⟨rfl,rfl⟩)|(go_at_call 113;refine(KD _).mono ?_;rintro e w' ⟨rfl,rfl⟩)|(go_at_call 114;refine(KL _).mono ?_;rintro e w' ⟨rfl,rfl⟩))
  go_ret2
  exact⟨rfl,rfl⟩
 cases xd
 ·obtain rfl:V=(0,3):=HV.out
  clear HV
  go_enter Tryz.func85,Tryz.ntmps85
  go_wp2_with (first|(go_at_call 111;refine(KK _).mono ?_;rintro e w' ⟨rfl,rfl⟩)|(go_at_call 112;(first|refine(KA _).mono ?_|refine(KT _).mono ?_);rintro e w' ⟨rfl,rfl⟩)|(go_at_call 113;refine(KD _).mono ?_;rintro e w' ⟨rfl,rfl⟩)|(go_at_call 114;refine(KL _).mono ?_;rintro e w' ⟨rfl,rfl⟩))
  go_ret2
  exact⟨rfl,rfl⟩
 have ha:=HA.out rfl
 have ht:=HT.out rfl
 have hd:=HD.out rfl
 clear HA HT HD
 cases rl
 ·have KF2:=fits_any k (tq+add)
  have HV2:Hid (V=if M.fits k (tq+add)=false then (0,9) else (tq+add,0)):=HV.out
  clear HV
  generalize M.fits k (tq+add)=ft at *
  cases ft
  ·obtain rfl:V=(0,9):=HV2.out
   clear HV2
   go_enter Tryz.func85,Tryz.ntmps85
   go_wp2_with (first|(go_at_call 111;refine(KK _).mono ?_;rintro e w' ⟨rfl,rfl⟩)|(go_at_call 112;(first|refine(KA _).mono ?_|refine(KT _).mono ?_);rintro e w' ⟨rfl,rfl⟩)|(go_at_call 113;refine(KD _).mono ?_;rintro e w' ⟨rfl,rfl⟩)|(go_at_call 114;refine(KL _).mono ?_;rintro e w' ⟨rfl,rfl⟩)|(go_at_call 115;refine(KF2 _).mono ?_;rintro e w' ⟨rfl,rfl⟩))
   go_ret2
   exact⟨rfl,rfl⟩
  ·obtain rfl:V=(tq+add,0):=HV2.out
   clear HV2
   go_enter Tryz.func85,Tryz.ntmps85
   go_wp2_with (first|(go_at_call 111;refine(KK _).mono ?_;rintro e w' ⟨rfl,rfl⟩)|(go_at_call 112;(first|refine(KA _).mono ?_|refine(KT _).mono ?_);rintro e w' ⟨rfl,rfl⟩)|(go_at_call 113;refine(KD _).mono ?_;rintro e w' ⟨rfl,rfl⟩)|(go_at_call 114;refine(KL _).mono ?_;rintro e w' ⟨rfl,rfl⟩)|(go_at_call 115;refine(KF2 _).mono ?_;rintro e w' ⟨rfl,rfl⟩))
   go_ret2
   exact⟨rfl,rfl⟩
 ·have KF2:=fits_any k (tq+add-pos)
  have HV2:Hid (V=if M.fits k (tq+add-pos)=false then (0,9) else (tq+add-pos,0)):=HV.out
  clear HV
  generalize M.fits k (tq+add-pos)=ft at *
  cases ft
  ·obtain rfl:V=(0,9):=HV2.out
   clear HV2
   go_enter Tryz.func85,Tryz.ntmps85
   go_wp2_with (first|(go_at_call 111;refine(KK _).mono ?_;rintro e w' ⟨rfl,rfl⟩)|(go_at_call 112;(first|refine(KA _).mono ?_|refine(KT _).mono ?_);rintro e w' ⟨rfl,rfl⟩)|(go_at_call 113;refine(KD _).mono ?_;rintro e w' ⟨rfl,rfl⟩)|(go_at_call 114;refine(KL _).mono ?_;rintro e w' ⟨rfl,rfl⟩)|(go_at_call 115;refine(KF2 _).mono ?_;rintro e w' ⟨rfl,rfl⟩))
   go_ret2
   exact⟨rfl,rfl⟩
  ·obtain rfl:V=(tq+add-pos,0):=HV2.out
   clear HV2
   go_enter Tryz.func85,Tryz.ntmps85
   go_wp2_with (first|(go_at_call 111;refine(KK _).mono ?_;rintro e w' ⟨rfl,rfl⟩)|(go_at_call 112;(first|refine(KA _).mono ?_|refine(KT _).mono ?_);rintro e w' ⟨rfl,rfl⟩)|(go_at_call 113;refine(KD _).mono ?_;rintro e w' ⟨rfl,rfl⟩)|(go_at_call 114;refine(KL _).mono ?_;rintro e w' ⟨rfl,rfl⟩)|(go_at_call 115;refine(KF2 _).mono ?_;rintro e w' ⟨rfl,rfl⟩))
   go_ret2
   exact⟨rfl,rfl⟩
theorem checkPlace_any(a:Option Addr)(len c:Nat)(pos k:Int)(w:World)(hl:len≤maxLen) :
  Calls Tryz.prog 146 #[sv a len c,iv pos,iv k] w fun e w'=>e=.returned (iv (M.place len pos k))∧w'=w:=by
 unfold maxLen at hl
 have KK:=known_any k
 have KW:=wide_any k
 have KD:=fwithin_any pos 0 ((len:Int)-M.wide k)
 have HV:Hid (M.place len pos k=if M.known k=false then 4 else if 65536<(len:Int) then 2 else if M.within pos 0 ((len:Int)-M.wide k)=false then 5 else 0):=rfl
 have hw:0≤M.wide k∧M.wide k≤2:=by unfold M.wide;repeat' split;all_goals omega
 generalize M.place len pos k=V at *
 generalize M.known k=kn at *
 generalize M.within pos 0 ((len:Int)-M.wide k)=xw at *
 generalize M.wide k=wd at *
 cases kn
 ·obtain rfl:V=4:=HV.out
  clear HV
  go_enter Tryz.func146,Tryz.ntmps146
  go_wp2_with (go_at_call 111;refine(KK _).mono ?_;rintro e w' ⟨rfl,rfl⟩)
  go_ret
  exact⟨rfl,rfl⟩
 by_cases hm:65536<(len:Int)
 ·obtain rfl:V=2:=by have:=HV.out;simpa [hm] using this
  clear HV
  go_enter Tryz.func146,Tryz.ntmps146
  go_wp2_with (go_at_call 111;refine(KK _).mono ?_;rintro e w' ⟨rfl,rfl⟩)
  go_ret
  exact⟨rfl,rfl⟩
 have HV2:Hid (V=if xw=false then 5 else 0):=by
  show _=_
  have:=HV.out
  simpa [hm] using this
 have hm':decide (65536<(len:Int))=false:=by simpa using hm
 clear HV
 cases xw
 all_goals
  first
  | obtain rfl:V=5:=HV2.out
  | obtain rfl:V=0:=HV2.out
  clear HV2
  go_enter Tryz.func146,Tryz.ntmps146
  go_wp2_with (first|(go_at_call 111;refine(KK _).mono ?_;rintro e w' ⟨rfl,rfl⟩)|(go_at_call 127;refine(KW _).mono ?_;rintro e w' ⟨rfl,rfl⟩)|(go_at_call 113;refine(KD _).mono ?_;rintro e w' ⟨rfl,rfl⟩))
  go_ret
  exact⟨rfl,rfl⟩
theorem split_any(n:Int)(w:World) :
  Calls Tryz.prog 147 #[iv n] w fun e w'=>e=.returned (.agg #[.int .u8 (M.byteAt n 0),.int .u8 (M.byteAt n 1)])∧Below w.heap.size w w':=by
 go_enter Tryz.func147,Tryz.ntmps147
 go_wp2
 refine bodyPost_ret (v:=.agg #[.int .u8 (n % 256),.int .u8 (n / 256 % 256)]) (by simp[results,Tryz.results147,go_sem]) rfl ?_
 exact⟨rfl,bra _ _⟩
theorem BytesAt.cell{w:World}{a:Option Addr}{c:Nat}{l:List Int}(h:BytesAt w (sv a l.length c) l)(k:Nat)(hk:k<l.length) :
  ∃b off,a=some (qa b off)∧w.cell? (qa b (off+k))=some (.int .u8 (l.getD k 0))∧b<w.heap.size:=by
 obtain⟨b,off,e,hc⟩:=SlAt.at h.1 k hk
 have:=hc 0 (by omega)
 rw[Nat.mul_one,Nat.add_zero] at this
 exact⟨b,off,e,this,wlt this⟩
theorem place_ok{len pos k:Int}(h:M.place len pos k=0):M.known k=true∧len≤65536∧0≤pos∧pos+M.wide k≤len:=by
 unfold M.place at h
 cases h1:M.known k
 ·rw[h1,if_pos rfl] at h;exact absurd h (by decide)
 ·rw[h1,if_neg (by decide)] at h
  by_cases h2:65536<len
  ·rw[if_pos h2] at h;exact absurd h (by decide)
  ·rw[if_neg h2] at h
   cases h3:M.within pos 0 (len-M.wide k)
   ·rw[h3,if_pos rfl] at h;exact absurd h (by decide)
   ·simp only[M.within,Bool.and_eq_true,decide_eq_true_eq] at h3
    exact⟨rfl,by omega,by omega,by omega⟩
end Go.Proofs.YtpkfmfhodbjckaaGreatDoor
namespace Go.Proofs.YtpkfmfhodbjckaaGreatDoor
open Go Go.RowKit
theorem putN_len(bs:List Int)(p:Nat)(n:Int):∀j,(M.putN bs p n j).length=bs.length
 | 0=>rfl
 | j+1=>by rw[M.putN,List.length_set];exact putN_len bs p n j
theorem byteAt_range(n:Int)(j:Nat):0≤M.byteAt n j∧M.byteAt n j<256:=by
 unfold M.byteAt;split<;>omega
theorem putN_range{bs:List Int}(h:∀b∈bs,0≤b∧b<256)(p:Nat)(n:Int):∀j,∀b∈M.putN bs p n j,0≤b∧b<256
 | 0,b,hb=>h b hb
 | j+1,b,hb=>by
  rcases List.mem_or_eq_of_mem_set hb with h1|rfl
  ·exact putN_range h p n j b h1
  ·exact byteAt_range n j
theorem bytes_row{w:World}{B:Nat}{t:TypeId}{fr:Nat × Nat}{bs:List Int}(hb:∀b∈bs,0≤b∧b<256)(hl:bs.length≤maxLen)(h:w.heap[B]?=some (.cells (bs.map (Value.int .u8)).toArray t fr))(c:Nat) :
  BytesAt w (sv (some (qa B 0)) bs.length c) bs:=by
 refine⟨⟨_,_,rfl,hl,.inr ⟨B,0,rfl,fun j i hj hi=>?_⟩⟩,hb⟩
 have e:0+j*1+i=j:=by omega
 rw[e,cellB h]
 simp[hj]
theorem heap_old(w:World)(o:Obj){k:Nat}(h:k<w.heap.size):(w.alloc o).heap[k]?=w.heap[k]?:=by
 have hb:=(bra w o).block k h
 exact hb
theorem heap_new(w:World)(o:Obj):(w.alloc o).heap[w.heap.size]?=some o:=heap_alloc_new w o
theorem put_any(bs:List Int)(a:Option Addr)(c:Nat)(pos k n:Int)(w:World)(h:BytesAt w (sv a bs.length c) bs) :
  Calls Tryz.prog 134 #[sv a bs.length c,iv pos,iv k,iv n] w fun e w'=>Below w.heap.size w w'∧∃a' c',e=.returned (.tuple #[sv a' (M.putB bs pos k n).1.length c',iv (M.putB bs pos k n).2])∧BytesAt w' (sv a' (M.putB bs pos k n).1.length c') (M.putB bs pos k n).1:=by
 have hl:bs.length≤maxLen:=by obtain⟨_,_,_,h⟩:=h.1.form;exact h
 have KC:Hid (∀W,Calls Tryz.prog 146 #[sv a bs.length c,iv pos,iv k] W fun e w'=>e=.returned (iv (M.place bs.length pos k))∧W=w'):=fun W=>(checkPlace_any a bs.length c pos k W hl).mono fun e w' ⟨h1,h2⟩=>⟨h1,h2.symm⟩
 have KF:Hid (∀W,Calls Tryz.prog 115 #[iv k,iv n] W fun e w'=>e=.returned (.bool (M.fits k n))∧W=w'):=fun W=>(fits_any k n W).mono fun e w' ⟨h1,h2⟩=>⟨h1,h2.symm⟩
 have KW:Hid (∀W,Calls Tryz.prog 127 #[iv k] W fun e w'=>e=.returned (iv (M.wide k))∧W=w'):=fun W=>(wide_any k W).mono fun e w' ⟨h1,h2⟩=>⟨h1,h2.symm⟩
 have HV:Hid (M.putB bs pos k n=if M.place bs.length pos k=0 then (if M.fits k n then (M.putN bs pos.toNat n (M.wide k).toNat,0) else ([],9)) else ([],M.place bs.length pos k)):=rfl
 have HP:Hid (M.place bs.length pos k=0→M.known k=true∧(bs.length:Int)≤65536∧0≤pos∧pos+M.wide k≤bs.length):=place_ok
 generalize M.putB bs pos k n=V at *
 generalize M.place bs.length pos k=er at *
 generalize M.fits k n=ft at *
 cases he:(er==0)
 ·obtain rfl:V=([],er):=by have:=HV.out;rwa [if_neg (by simpa using he)] at this
  have he':(er !=0)=true:=by simpa using he
  unfold maxLen at hl
  clear HV HP
  go_enter Tryz.func134,Tryz.ntmps134
  go_wp2_with (go_at_call 146;refine(KC.out _).mono ?_;rintro e w' ⟨rfl,rfl⟩)
  go_ret2
  exact⟨Below.refl _ _,none,0,rfl,⟨none,0,rfl,Nat.zero_le _,.inl rfl⟩,fun b hb=>by cases hb⟩
 obtain rfl:er=0:=by simpa using he
 clear he
 cases ft
 ·obtain rfl:V=([],9):=HV.out
  unfold maxLen at hl
  clear HV HP
  go_enter Tryz.func134,Tryz.ntmps134
  go_wp2_with (first|(go_at_call 146;refine(KC.out _).mono ?_;rintro e w' ⟨rfl,rfl⟩)|(go_at_call 115;refine(KF.out _).mono ?_;rintro e w' ⟨rfl,rfl⟩))
  go_ret2
  exact⟨Below.refl _ _,none,0,rfl,⟨none,0,rfl,Nat.zero_le _,.inl rfl⟩,fun b hb=>by cases hb⟩
 obtain⟨hk,hlen,hp0,hpw⟩:=HP.out rfl
 obtain⟨p,rfl⟩:∃p:Nat,pos=p:=⟨pos.toNat,by omega⟩
 clear HP hp0
 obtain rfl:V=(M.putN bs p n (M.wide k).toNat,0):=HV.out
 clear HV
 have hwd:M.wide k=1∨M.wide k=2:=by rcases M.kinds hk with rfl|rfl|rfl|rfl<;>simp[M.wide]
 obtain⟨wd,hwe,hw1,hw2⟩:∃wd:Nat,M.wide k=wd∧1≤wd∧wd≤2:=⟨(M.wide k).toNat,by omega,by omega,by omega⟩
 rw[hwe] at KW hpw ⊢
 rw[show ((wd:Int)).toNat=wd from Int.toNat_natCast wd]
 clear hwd hwe hk
 have HL:Hid (∀j,(M.putN bs p n j).length=bs.length):=putN_len bs p n
 have HR:Hid (∀j,∀b∈M.putN bs p n j,0≤b∧b<256):=putN_range h.2 p n
 have HN:Hid (∀j,M.putN bs p n (j+1)=(M.putN bs p n j).set (p+j) (M.byteAt n j)):=fun j=>rfl
 have H0:Hid (M.putN bs p n 0=bs):=rfl
 obtain⟨i1,hi1,hy0,hy1,hy2⟩:=info_parts (P:=Tryz.prog) (e:=5) (z:=.int .u8 0) (size:=1) (bytes:=1) (by kernel_rfl)
 obtain⟨w1,hmk,hrow,hgr⟩:=run_make_full w w.heap.size 54 5 i1 (.int .u8 0) 1 Tryz.underlying54 hi1 hy0 hy1 .i64 .i64 bs.length (by rw[hy2];omega) hl (Nat.le_refl _)
 have HB1:Hid (Below w.heap.size w w1):=(Below.refl _ _).grown hgr (Nat.le_refl _) (fun k hk=>by cases hk)
 obtain⟨cur,hcur,hcl⟩:∃cur:List Value,w1.heap[w.heap.size]?=some (.cells cur.toArray 5 (0,0))∧cur.length=bs.length:=by
  rcases hrow.2 with ⟨h1,_⟩|⟨g,cap,cur,h1,_,h2,_,_,h5,_⟩
  ·cases h1
  ·cases h1
   exact⟨cur.toList,by simpa using h2,by simpa using h5⟩
 have KS:Hid (∀W,Calls Tryz.prog 147 #[iv n] W fun e w'=>e=.returned (.agg #[.int .u8 (M.byteAt n 0),.int .u8 (M.byteAt n 1)])∧Below W.heap.size W w'):=fun W=>split_any n W
 obtain⟨b,off,rfl,_,_⟩:=h.cell p (by omega)
 obtain⟨X,HX⟩:∃X:List Value,Hid (X=bs.map (Value.int .u8)):=⟨_,rfl⟩
 have hXl:X.length=bs.length:=by rw[HX.out];simp
 have HSrc:Hid (∀j v,X[j]?=some v→w1.cell? ((qa b off).add j)=some v):=fun j v hv=>by
  have hj:j<bs.length:=by rw[←hXl];exact(List.getElem?_eq_some_iff.1 hv).1
  obtain⟨b',off',e,hc,_⟩:=(h.later HB1.out).cell j hj
  cases e
  rw[HX.out,List.getElem?_map,getElem?_getD bs 0 j hj] at hv
  cases hv
  have e:(qa b off).add j=⟨b,off+j,none⟩:=by cases j<;>simp[Addr.add]
  rw[e]
  exact hc
 have HOne:Hid (∀v∈X,v.oneCell'=true):=by
  rw[HX.out]
  intro v hv
  obtain⟨x,_,rfl⟩:=List.mem_map.1 hv
  rfl
 obtain⟨w2,hcp,HG2,HB2⟩:∃w2,(Builtin.copy_ #[54,54] 3 #[sv (some (qa w.heap.size 0)) bs.length bs.length,sv (some (qa b off)) bs.length c]).run Tryz.prog w1=.ok (goInt X.length) w2∧Hid (w2.heap[w.heap.size]?=some (.cells X.toArray 5 (0,0)))∧Hid (Below w.heap.size w w2):=by
  refine⟨_,run_copy_row Tryz.prog w1 54 54 3 5 w.heap.size 0 bs.length bs.length ⟨b,off,none⟩ bs.length c cur.toArray 5 X Tryz.underlying54 (by kernel_rfl) hcur (by rw[hXl];exact(Nat.min_self _).symm) HSrc.out (by simp;omega) HOne.out,?_,below_setRow HB1.out (Nat.le_refl _) _⟩
  have e:cur.toArray.toList.take 0++X++cur.toArray.toList.drop (0+X.length)=X:=by simp;omega
  rw[e]
  exact setRow_heap w1 _ _ _ _ _ hcur
 clear hrow hgr h HSrc HOne hcur HB1
 unfold maxLen at hl
 generalize hgw:w.heap.size=g at *
 go_enter Tryz.func134,Tryz.ntmps134
 go_wp2_with (first|(go_at_call 146;refine(KC.out _).mono ?_;rintro e w' ⟨rfl,rfl⟩)|(go_at_call 115;refine(KF.out _).mono ?_;rintro e w' ⟨rfl,rfl⟩)|(go_at_call 147;refine(KS.out _).mono ?_;rintro e w3 ⟨rfl,hB3⟩)|(go_at_call 127;refine(KW.out _).mono ?_;rintro e w' ⟨rfl,rfl⟩))
 have HI:Hid (∀W,W=w3.alloc (.cells #[.int .u8 (M.byteAt n 0),.int .u8 (M.byteAt n 1)] 202)→W.heap[g]?=some (.cells ((M.putN bs p n 0).map (Value.int .u8)).toArray 5 (0,0))∧W.heap[w3.heap.size]?=some (.cells #[.int .u8 (M.byteAt n 0),.int .u8 (M.byteAt n 1)] 202 (0,0))∧Below g w W∧g<w3.heap.size):=by
  rintro W rfl
  have hG:=HG2.out
  have hlt2:=lt1 hG
  have hlt3:g<w3.heap.size:=Nat.lt_of_lt_of_le hlt2 hB3.size
  have hB3':Below g w w3:=HB2.out.trans (hB3.mono (Nat.le_of_lt hlt2))
  refine⟨?_,?_,hB3'.alloc (Nat.le_of_lt hlt3) _,hlt3⟩
  ·rw[heap_old _ _ hlt3,hB3.block g hlt2,hG,HX.out];rfl
  ·exact heap_new _ _
 clear HG2 HB2 hB3 hcp hmk HX hXl hcl
 obtain⟨I1,I2,I3,I4⟩:=HI.out _ rfl
 have HI1:Hid _:=I1
 have HI2:Hid _:=I2
 have HI3:Hid _:=I3
 clear HI I1 I2 I3
 generalize w3.alloc (.cells #[.int .u8 (M.byteAt n 0),.int .u8 (M.byteAt n 1)] 202)=W0 at *
 generalize w3.heap.size=g2 at *
 go_loopw [35] (fun s35 wr=>∃(j:Nat),j≤wd∧s35=iv j∧Hid (wr.heap[g]?=some (.cells ((M.putN bs p n j).map (Value.int .u8)).toArray 5 (0,0)))∧Hid (wr.heap[g2]?=some (.cells #[.int .u8 (M.byteAt n 0),.int .u8 (M.byteAt n 1)] 202 (0,0)))∧Hid (Below g w wr)) (fun s35 _=>wd-(intOf s35).toNat)
 case atStart=>exact⟨0,Nat.zero_le _,rfl,HI1,HI2,HI3⟩
 case round =>
  obtain⟨j,hj,rfl,H1,H2,H3⟩:=hrel
  clear HI1 HI2 HI3
  by_cases hlt:j<wd
  ·have hcl:((M.putN bs p n j).map (Value.int .u8)).length=bs.length:=by rw[List.length_map];exact HL.out j
   have hjp:p+j<bs.length:=by omega
   obtain⟨u,hu⟩:∃u,wr.cell? (qa g (p+j))=some u:=by
    rw[cellB H1.out]
    rw[List.getElem?_toArray]
    exact⟨_,List.getElem?_eq_getElem (by rw[hcl];exact hjp)⟩
   have hfz:=frozenB H1.out (p+j)
   have hc0:=cellB H2.out 0
   have hc1:=cellB H2.out 1
   have HB':Hid (∀v,Below g w (wr.setCell (qa g (p+j)) v)):=fun v=>H3.out.setCell (Nat.le_refl _) _
   have HN1:Hid ((wr.setCell (qa g (p+j)) (.int .u8 (M.byteAt n j))).heap[g]?=some (.cells ((M.putN bs p n (j+1)).map (Value.int .u8)).toArray 5 (0,0))):=by
    rw[Hid,setB' H1.out,HN.out j,List.map_set]
    simp
   have HN2:Hid (∀v,(wr.setCell (qa g (p+j)) v).heap[g2]?=some (.cells #[.int .u8 (M.byteAt n 0),.int .u8 (M.byteAt n 1)] 202 (0,0))):=fun v=>by
    rw[Below.heap_setCell _ _ _ _ (by intro e;simp at e;omega)]
    exact H2.out
   clear hcl H1 H2 H3 HL HR HN H0
   rcases(by omega:j=0∨j=1) with rfl|rfl
   ·simp only[Nat.add_zero] at hu hfz HB' HN1 HN2
    go_wp2_with fail
    go_roundw
    case rel=>exact⟨1,by omega,by go_num,HN1,HN2.out _,HB'.out _⟩
    case measure=>simp[intOf];omega
   ·go_wp2_with fail
    go_roundw
    case rel=>exact⟨2,by omega,by go_num,HN1,HN2.out _,HB'.out _⟩
    case measure=>simp[intOf];omega
  ·obtain rfl:j=wd:=by omega
   have hL:=HL.out j
   have HE:Hid (BytesAt wr (sv (some (qa g 0)) (M.putN bs p n j).length bs.length) (M.putN bs p n j)):=bytes_row (HR.out j) (by rw[hL];unfold maxLen;omega) H1.out _
   rw[hL] at HE
   go_wp2_with fail
   go_ret2
   exact⟨H3.out,_,_,by rw[hL];rfl,by rw[hL];exact HE.out⟩
end Go.Proofs.YtpkfmfhodbjckaaGreatDoor
