/-
  The reference's FarmStep, at a right farm: what Do is. slices.Repeat of the row that holds -1, one to four times; slices.Equal of a row of errors with its own like. The reference's NewFarm: a farm that holds the parts and the plan as they came, nothing done, nobody at work. The law FarmRuns: whatever the farm, the script, the parts, the plan and the number of workers, it returns true.
-/
import Derived.Test.YtebippbakbihiaaGreatDoorRfS
import Derived.Test.YtebippbakbihiaaGreatDoorRefFmStepFinish
import Derived.Test.YtebippbakbihiaaGreatDoorRfT
import Derived.Test.YtebippbakbihiaaGreatDoorFmShelf2
import Derived.Laws.CopyOwn
import Derived.Lib.Hide
import Derived.Deep.DeepCutAuto
import Derived.Test.YtebippbakbihiaaGreatDoorFmFa
import Derived.Test.YtebippbakbihiaaGreatDoorRefFmCheck
set_option maxHeartbeats 16000000
set_option maxRecDepth 100000
namespace Go.Proofs.YtebippbakbihiaaGreatDoor
open Go Go.RowKit
set_option linter.unusedVariables false
theorem step_pair (p:M.Farm × Int):(if p.2=0 then p else (M.farm0,p.2))=(if p.2=0 then p.1 else M.farm0,p.2):=by
 by_cases h:p.2=0
 ·rw[if_pos h,if_pos h]
 ·rw[if_neg h,if_neg h]
theorem step_form {f:M.Farm} (hok:M.FarmOk f) (x:M.Hap) {p:M.Farm × Int} (hp:M.happen f x=p):M.step f x=(if p.2=0 then p.1 else M.farm0,p.2):=by
 rw[M.step,if_pos ((M.farm_iff f).2 hok),hp,step_pair]
theorem rstep_any (f:M.Farm) (x:Fd) (w:World) (hf:FarmAt w f x) (hok:M.FarmOk f) (kd wk kk:Int) :
  Calls Tryz.prog 13 #[.agg (qm f x),.agg #[iv kd,iv wk,iv kk]] w (StepTo w (M.step f ⟨kd,wk,kk⟩).1 (M.step f ⟨kd,wk,kk⟩).2):=by
 by_cases kA:kd=1∨kd=2∨kd=7
 ·cases hin:M.inR wk 0 ((f.work.length:Int) - 1) with
  | false =>
   have hp:M.happen f ⟨kd,wk,kk⟩=(f,5):=by rw[M.happen,if_pos kA,M.happenAt];simp only[hin];rfl
   rw[step_form hok _ hp,if_neg (by show ¬ (5:Int)=0;decide)]
   exact rstep_who f x w hf hok kd wk kk kA hin
  | true =>
   have hi:=(M.inR_iff _ _ _).1 hin
   obtain⟨wn,rfl⟩:∃ n:Nat,wk=n:=⟨wk.toNat,by omega⟩
   have hw:wn<f.work.length:=by omega
   rcases kA with rfl | rfl | rfl
   ·have hp:M.happen f ⟨1,wn,kk⟩=M.give f wn:=by rw[M.happen,if_pos (.inl rfl),M.happenAt];simp only[hin];rfl
    rw[step_form hok _ hp]
    exact rstep_give f x w hf hok wn kk hw
   ·have hp:M.happen f ⟨2,wn,kk⟩=M.finish f wn:=by rw[M.happen,if_pos (.inr (.inl rfl)),M.happenAt];simp only[hin];rfl
    rw[step_form hok _ hp]
    exact rstep_finish f x w hf hok wn kk hw
   ·have hp:M.happen f ⟨7,wn,kk⟩=(M.idled f wn,0):=by rw[M.happen,if_pos (.inr (.inr rfl)),M.happenAt];simp only[hin];rfl
    rw[step_form hok _ hp,if_pos rfl]
    exact rstep_fall f x w hf hok wn kk hw
 by_cases kT:kd=3∨kd=4∨kd=5
 ·cases hin:M.inR kk 0 ((f.net.length:Int) - 1) with
  | false =>
   have hp:M.happen f ⟨kd,wk,kk⟩=(f,5):=by rw[M.happen,if_neg kA,if_pos kT,M.happenTo];simp only[hin];rfl
   rw[step_form hok _ hp,if_neg (by show ¬ (5:Int)=0;decide)]
   exact rstep_which f x w hf hok kd wk kk kT hin
  | true =>
   have hi:=(M.inR_iff _ _ _).1 hin
   obtain⟨kn,rfl⟩:∃ n:Nat,kk=n:=⟨kk.toNat,by omega⟩
   have hw:kn<f.net.length:=by omega
   rcases kT with rfl | rfl | rfl
   ·have hp:M.happen f ⟨3,wk,kn⟩=(M.arriveM (M.taken f kn) (f.net.getD kn M.msg0),0):=by rw[M.happen,if_neg kA,if_pos (.inl rfl),M.happenTo];simp only[hin];rfl
    rw[step_form hok _ hp,if_pos rfl]
    exact rstep_arrive f x w hf hok wk kn hw
   ·have hp:M.happen f ⟨4,wk,kn⟩=(M.taken f kn,0):=by rw[M.happen,if_neg kA,if_pos (.inr (.inl rfl)),M.happenTo];simp only[hin];rfl
    rw[step_form hok _ hp,if_pos rfl]
    exact rstep_lose f x w hf hok wk kn hw
   ·have hp:M.happen f ⟨5,wk,kn⟩=if 20≤f.net.length then (f,10) else ({ f with net:=f.net ++ [f.net.getD kn M.msg0] },0):=by rw[M.happen,if_neg kA,if_pos (.inr (.inr rfl)),M.happenTo];simp only[hin];rfl
    have h2:=rstep_double f x w hf hok wk kn hw
    by_cases h20:20≤f.net.length
    ·rw[if_pos h20] at hp
     rw[if_pos h20,if_pos h20] at h2
     rw[step_form hok _ hp,if_neg (by show ¬ (10:Int)=0;decide)]
     exact h2
    ·rw[if_neg h20] at hp
     rw[if_neg h20,if_neg h20] at h2
     rw[step_form hok _ hp,if_pos rfl]
     exact h2
 by_cases k6:kd=6
 ·subst k6
  have hp:M.happen f ⟨6,wk,kk⟩=if f.now=65536 then (f,10) else ({ f with now:=f.now+1 },0):=by rw[M.happen,if_neg kA,if_neg kT,if_pos rfl]
  have h2:=rstep_tick f x w hf hok wk kk
  by_cases hn:f.now=65536
  ·rw[if_pos hn] at hp
   rw[if_pos hn,if_pos hn] at h2
   rw[step_form hok _ hp,if_neg (by show ¬ (10:Int)=0;decide)]
   exact h2
  ·rw[if_neg hn] at hp
   rw[if_neg hn,if_neg hn] at h2
   rw[step_form hok _ hp,if_pos rfl]
   exact h2
 by_cases k8:kd=8
 ·subst k8
  have hp:M.happen f ⟨8,wk,kk⟩=({ f with grants:=List.replicate f.grants.length M.grt0 },0):=by rw[M.happen,if_neg kA,if_neg kT,if_neg k6,if_pos rfl]
  rw[step_form hok _ hp,if_pos rfl]
  exact rstep_again f x w hf hok wk kk
 have hp:M.happen f ⟨kd,wk,kk⟩=(f,4):=by rw[M.happen,if_neg kA,if_neg kT,if_neg k6,if_neg k8]
 rw[step_form hok _ hp,if_neg (by show ¬ (4:Int)=0;decide)]
 exact rstep_else f x w hf hok kd wk kk (by simp;omega) (by simp;omega) (by simp;omega) (by simp;omega) (by simp;omega) (by simp;omega) (by simp;omega) (by simp;omega)
def repRow (k n:Nat):List Value:=List.replicate k (iv (-1)) ++ List.replicate (n - k) (iv 0)
theorem repRow_len (k n:Nat) (h:k≤n):(repRow k n).length=n:=by simp[repRow];omega
theorem repRow_more (k m n:Nat) (h:k+m≤n):splice (repRow k n) k (List.replicate m (iv (-1)))=repRow (k+m) n:=by
 unfold splice repRow
 rw[List.take_left' (by simp),List.length_replicate,List.drop_append,List.drop_eq_nil_of_le (by simp),List.nil_append,List.drop_replicate,List.length_replicate,← List.append_assoc,List.replicate_append_replicate]
 congr 2
 omega
theorem repRow_full (n:Nat):repRow n n=List.replicate n (iv (-1)):=by simp[repRow]
theorem repRow_zero (n:Nat):repRow 0 n=List.replicate n (iv 0):=by simp[repRow]
theorem repeat_any (n b:Nat) (h1:1≤n) (h4:n≤4) (w:World) (hc:w.cell? (qa b 0)=some (iv (-1))) :
  Calls Tryz.prog 56 #[sv (some (qa b 0)) 1 1,iv n] w fun e w'=>Below w.heap.size w w'∧∃ g,w.heap.size≤g∧e=.returned (sv (some (qa g 0)) n n)∧w'.heap[g]?=some (.cells (List.replicate n (iv (-1))).toArray 3 (0,0)):=by
 obtain⟨iK,hiK,hK0,hK1,hK2⟩:=info_parts (P:=Tryz.prog) (e:=3) (z:=iv 0) (size:=1) (bytes:=8) (by kernel_rfl)
 have KM:Hid (∀ W,Calls Tryz.prog 79 #[.int .u64 1,.int .u64 n] W fun e w'=>e=.returned (.tuple #[.int .u64 0,.int .u64 n])∧W=w'):=fun W=>by
  have:=@Any.bits_Mul Tryz.prog Tryz.lays212_ren Tryz.lays212 1 n (by omega) (by omega) W
  refine this.mono ?_
  rintro e w' ⟨h,rfl⟩
  rw[h,show 1*n / 18446744073709551616=0 by omega,show 1*n % 18446744073709551616=n by omega]
  exact⟨rfl,rfl⟩
 obtain⟨Z1,hmk,hrow,hgr⟩:=run_makeSlice_full w w.heap.size 26 3 iK (iv 0) 1 Tryz.underlying26 hiK hK0 hK1 .i64 .i64 n (by omega) (by rw[hK2];omega) (by unfold maxLen;omega) (Nat.le_refl _)
 have hB1:Below w.heap.size w Z1:=(Below.refl _ _).grown hgr (Nat.le_refl _) (fun k hk=>by cases hk)
 have hG1:Z1.heap[w.heap.size]?=some (.cells (repRow 0 n).toArray 3 (0,0)):=by
  rcases hrow.2 with ⟨h1,_⟩ | ⟨g',cap,cur,h1,_,h2,_,_,h5,h6⟩
  ·cases h1
  ·cases h1
   have:cur.toList=repRow 0 n:=by
    have hcl:cur.toList.length=n:=by simpa using h5
    rw[List.take_of_length_le (by rw[hcl];simp),show (Value.cells (iv 0))=#[iv 0] from rfl,Nat.mul_one,toList_madeCells_one] at h6
    rw[h6,repRow_zero]
   rw[← this]
   exact h2
 have hc1:Z1.cell? (qa b 0)=some (iv (-1)):=(hB1.cell (World.block_lt_of_cell? _ _ hc)).trans hc
 have HG1:Hid (Z1.heap[w.heap.size]?=some (.cells (repRow 0 n).toArray 3 (0,0))):=hG1
 have HB1:Hid (Below w.heap.size w Z1):=hB1
 have Hc1:Hid (Z1.cell? (qa b 0)=some (iv (-1))):=hc1
 clear hrow hgr hB1 hG1 hc1 hc
 obtain⟨g,hg⟩:∃ g,g=w.heap.size:=⟨_,rfl⟩
 rw[← hg] at HG1 hmk
 have HBg:Hid (w.heap.size≤g):=by rw[Hid,hg];exact Nat.le_refl _
 clear hg
 obtain⟨w2,hcp,HI⟩:∃ w2,(Builtin.copy_ #[26,26] 3 #[sv (some (qa g 0)) n n,sv (some (qa b 0)) 1 1]).run Tryz.prog Z1=.ok (goInt 1) w2∧Hid (w2.heap[g]?=some (.cells (repRow 1 n).toArray 3 (0,0))∧Below w.heap.size w w2):=by
  refine⟨_,run_copy_row Tryz.prog Z1 26 26 3 3 g 0 n n ⟨b,0,none⟩ 1 1 (repRow 0 n).toArray 3 [iv (-1)] Tryz.underlying26 (by kernel_rfl) HG1.out (by show 1=Nat.min 1 n;exact (Nat.min_eq_left h1).symm) (fun j v hj=>by
   match j,hj with
   | 0,hj=>cases hj;exact Hc1.out
   | j+1,hj=>simp at hj) (by rw[List.size_toArray,repRow_len _ _ (Nat.zero_le _)];simpa using h1) (by simp[Value.oneCell']),?_,Go.below_setRow HB1.out HBg.out _⟩
  have e:=repRow_more 0 1 n (by omega)
  rw[splice,Nat.zero_add,← List.append_assoc] at e
  rw[← e]
  exact setRow_heap Z1 _ _ _ _ _ HG1.out
 have hnn:¬ ((n:Int)<0):=by omega
 have hw1:IntKind.u64.wrap (n:Int)=n:=by rw[IntKind.wrap_u64];omega
 have hw2:IntKind.i64.wrap (n:Int)=n:=by rw[IntKind.wrap_i64];omega
 have hlo:¬ ((9223372036854775807:Int)<(n:Int)):=by omega
 go_enter Tryz.func56,Tryz.ntmps56
 go_upto_region 8 with (go_at_call 79;refine (KM.out _).mono ?_;rintro e w1 ⟨rfl,rfl⟩)
 clear HB1 HG1 Hc1 KM hmk hcp
 go_loopw [8] (fun s8 wr=>∃ (k:Nat),1≤k∧k≤n∧s8=iv k∧Hid (wr.heap[g]?=some (.cells (repRow k n).toArray 3 (0,0))∧Below w.heap.size w wr)) (fun s8 _=>n - (intOf s8).toNat)
 case atStart=>exact⟨1,Nat.le_refl _,h1,rfl,HI.out⟩
 case round =>
  obtain⟨k,hk1,hkn,rfl,HW⟩:=hrel
  clear HI
  by_cases hlt:k<n
  ·have hkl:(k:Int)<(n:Int):=by omega
   obtain⟨m,hm⟩:∃ m,m=Nat.min k (n - k):=⟨_,rfl⟩
   have hm1:m≤k:=by rw[hm];exact Nat.min_le_left _ _
   have hm3:m≤n - k:=by rw[hm];exact Nat.min_le_right _ _
   have hm2:k+m≤n:=by omega
   have hm0:0<m:=by rw[hm];exact Nat.lt_min.2 ⟨hk1,by omega⟩
   obtain⟨w4,hcp,HW4⟩:∃ w4,(Builtin.copy_ #[26,26] 3 #[sv (some (qa g k)) (n - k) (n - k),sv (some (qa g 0)) k n]).run Tryz.prog wr.drew=.ok (goInt m) w4∧Hid (w4.heap[g]?=some (.cells (repRow (k+m) n).toArray 3 (0,0))∧Below w.heap.size w w4):=by
    obtain⟨h1,h2⟩:=HW.out
    replace h1:wr.drew.heap[g]?=some (.cells (repRow k n).toArray 3 (0,0)):=h1
    have hr:=run_copy_row Tryz.prog wr.drew 26 26 3 3 g k (n - k) (n - k) ⟨g,0,none⟩ k n (repRow k n).toArray 3 (List.replicate m (iv (-1))) Tryz.underlying26 (by kernel_rfl) h1 (by rw[List.length_replicate,hm]) (fun j v hj=>by
     have hjm:j<m:=by have:=(List.getElem?_eq_some_iff.1 hj).1;simpa using this
     have hv:v=iv (-1):=by rw[List.getElem?_replicate,if_pos hjm] at hj;exact (Option.some.inj hj).symm
     have ea:(qa g 0).add j=⟨g,j,none⟩:=by cases j <;> simp[Addr.add]
     rw[ea,hv]
     have:(repRow k n)[j]?=some (iv (-1)):=by rw[repRow,List.getElem?_append_left (by simp;omega),List.getElem?_replicate,if_pos (by omega)]
     simpa [World.cell?,h1] using this) (by rw[List.size_toArray,repRow_len _ _ hkn];simp;omega) (by intro v hv;rw[List.eq_of_mem_replicate hv];rfl)
    rw[List.length_replicate] at hr
    refine⟨_,hr,?_,Go.below_setRow h2.drew HBg.out _⟩
    have e:=repRow_more k m n hm2
    rw[splice,List.length_replicate,← List.append_assoc] at e
    rw[← e]
    exact setRow_heap wr.drew _ _ _ _ _ h1
   have hadd:IntKind.i64.wrap ((k:Int)+(m:Int))=((k+m:Nat):Int):=by rw[IntKind.wrap_i64];omega
   clear HW hm
   go_wp2_with fail
   go_region
   all_goals
    go_wp2
    go_roundw
    case rel=>exact⟨k+m,by omega,hm2,by go_num,HW4.out⟩
    case measure=>simp[intOf];omega
  ·obtain rfl:k=n:=by omega
   go_wp2_with fail
   go_ret
   obtain⟨h1,h2⟩:=HW.out
   rw[repRow_full] at h1
   exact⟨h2,g,HBg.out,rfl,h1⟩
theorem eqErrs_self (xs:List Int) (a1 a2:Option Addr) (c1 c2:Nat) (w:World) (h1:IntsAt w (sv a1 xs.length c1) xs) (h2:IntsAt w (sv a2 xs.length c2) xs) :
  Calls Tryz.prog 19 #[sv a1 xs.length c1,sv a2 xs.length c2] w fun e w'=>e=.returned (.bool true)∧Below w.heap.size w w':=by
 have hx:xs.length≤maxLen:=by obtain⟨_,_,_,h⟩:=SlAt.form h1;exact h
 unfold maxLen at hx
 have HH:Hid (∀ W,Below w.heap.size w W→IntsAt W (sv a1 xs.length c1) xs∧IntsAt W (sv a2 xs.length c2) xs):=fun W hW=>⟨h1.later hW,h2.later hW⟩
 clear h1 h2
 go_enter Tryz.func19,Tryz.ntmps19
 go_wp2_with fail
 go_loopw [13] (fun s13 wr=>∃ (k:Nat),k≤xs.length∧s13=iv k∧Hid (Below w.heap.size w wr)) (fun s13 _=>xs.length - (intOf s13).toNat)
 case atStart=>exact⟨0,Nat.zero_le _,rfl,Below.refl _ _⟩
 case round =>
  obtain⟨k,hk,rfl,HB⟩:=hrel
  by_cases hlt:k<xs.length
  ·obtain⟨b,off,rfl,hc,hb⟩:=(HH.out _ HB.out).1.cell k hlt
   obtain⟨b',off',rfl,hc',hb'⟩:=(HH.out _ HB.out).2.cell k hlt
   have hkl:(k:Int)<(xs.length:Int):=by omega
   generalize xs.getD k 0=x at *
   have hne:(x !=x)=false:=by simp
   go_wp2_with fail
   go_region
   all_goals
    go_wp2
    go_roundw
    case rel=>exact⟨k+1,by omega,by go_num,HB.out.drew⟩
    case measure=>simp[intOf];omega
  ·obtain rfl:k=xs.length:=by omega
   go_wp2
   go_ret
   exact⟨rfl,HB.out⟩
theorem rep_enc (n:Nat):(List.replicate n (-1:Int)).flatMap encI=List.replicate n (iv (-1)):=by
 induction n with
 | zero=>rfl
 | succ n ih=>rw[List.replicate_succ,List.replicate_succ,List.flatMap_cons,ih];rfl
def nfR (B:Nat) (parts:List M.Prt) (l:List M.Nd) (wn:Nat) (a:Option Addr) (c:Nat) (a':Option Addr) (c':Nat) (j:Nat) (W:World) (u:Value):Prop :=
 match j with
 | 0=>u=sv a parts.length c
 | 1=>u=sv a' l.length c'
 | 2=>u=iv l.length
 | 3=>W.ownsRow B 4 1 u l.length ((List.replicate l.length false).flatMap encB)
 | 4=>u=iv l.length
 | 5=>W.ownsRow B 39 2 u l.length ((List.replicate l.length pent0).flatMap pentCells)
 | 6=>u=iv l.length
 | 7=>W.ownsRow B 64 2 u l.length ((List.replicate l.length M.grt0).flatMap encGrt)
 | 8=>∃ g,u=sv (some (qa g 0)) 1 1∧W.cell? (qa g 0)=some (iv (-1))
 | 9=>u=iv wn
 | 10=>W.ownsRow B 3 1 u wn ((List.replicate wn (-1)).flatMap encI)
 | 11=>∃ (d:Option Addr) (dc:Nat) (h:Option Addr) (hc:Nat) (gg:Option Addr) (gc:Nat) (k:Option Addr) (kc:Nat),u=.agg #[sv a parts.length c,sv a' l.length c',iv 0,sv d l.length dc,sv h l.length hc,sv gg l.length gc,sv k wn kc,sv none 0 0] ∧
   W.ownsRow B 4 1 (sv d l.length dc) l.length ((List.replicate l.length false).flatMap encB)∧W.ownsRow B 39 2 (sv h l.length hc) l.length ((List.replicate l.length pent0).flatMap pentCells) ∧
   W.ownsRow B 64 2 (sv gg l.length gc) l.length ((List.replicate l.length M.grt0).flatMap encGrt)∧W.ownsRow B 3 1 (sv k wn kc) wn ((List.replicate wn (-1)).flatMap encI)
 | _=>False
theorem nfR_later {B:Nat} {parts:List M.Prt} {l:List M.Nd} {wn:Nat} {a:Option Addr} {c:Nat} {a':Option Addr} {c':Nat} {W X:World} (hb:Below W.heap.size W X):∀ j u,nfR B parts l wn a c a' c' j W u→nfR B parts l wn a c a' c' j X u:=by
 intro j u h
 have hg:=grown_of_below hb Option.none
 match j,h with
 | 0,h=>exact h
 | 1,h=>exact h
 | 2,h=>exact h
 | 4,h=>exact h
 | 6,h=>exact h
 | 9,h=>exact h
 | 3,h=>exact World.ownsRow.kept h hg own_self
 | 5,h=>exact World.ownsRow.kept h hg own_self
 | 7,h=>exact World.ownsRow.kept h hg own_self
 | 10,h=>exact World.ownsRow.kept h hg own_self
 | 8,h=>obtain⟨g,h1,h2⟩:=h;exact⟨g,h1,(hb.cell (World.block_lt_of_cell? _ _ h2)).trans h2⟩
 | 11,h=>obtain⟨d,dc,p,pc,q,qc,k,kc,h1,h2,h3,h4,h5⟩:=h;exact⟨d,dc,p,pc,q,qc,k,kc,h1,h2.kept hg own_self,h3.kept hg own_self,h4.kept hg own_self,h5.kept hg own_self⟩
theorem newFarm_any (parts:List M.Prt) (l:List M.Nd) (wn:Nat) (h1:1≤wn) (h4:wn≤4) (hl:l.length≤23) (a a':Option Addr) (c c':Nat) (w:World) :
  Calls Tryz.prog 18 #[sv a parts.length c,sv a' l.length c',iv wn] w fun e w'=>Below w.heap.size w w'∧∃ y:Fd,e=.returned (.agg #[sv y.p (M.newF parts l wn).parts.length y.pc,sv y.l (M.newF parts l wn).plan.length y.lc,iv (M.newF parts l wn).now,sv y.d (M.newF parts l wn).done.length y.dc,sv y.h (M.newF parts l wn).got.length y.hc,sv y.g (M.newF parts l wn).grants.length y.gc,sv y.k (M.newF parts l wn).work.length y.kc,sv y.n (M.newF parts l wn).net.length y.nc])∧∀ X,Kq w' X→PartsAt X (sv a parts.length c) parts→NodesAt X (sv a' l.length c') l→FarmAt X (M.newF parts l wn) y:=by
 obtain⟨iD,hiD,hD0,hD1,hD2⟩:=info_parts (P:=Tryz.prog) (e:=4) (z:=.bool false) (size:=1) (bytes:=1) (by kernel_rfl)
 obtain⟨iG,hiG,hG0,hG1,hG2⟩:=info_parts (P:=Tryz.prog) (e:=64) (z:=.agg #[iv 0,iv 0]) (size:=2) (bytes:=16) (by kernel_rfl)
 obtain⟨iP,hiP,hP0,hP1,hP2⟩:=info_parts (P:=Tryz.prog) (e:=39) (z:=.agg #[sv none 0 0,sv none 0 0]) (size:=2) (bytes:=48) (by kernel_rfl)
 have hA:Below w.heap.size w (w.alloc (.cells qz 29)):=(Below.refl _ _).alloc (Nat.le_refl _) _
 have h2:=heap_alloc_new w (.cells qz 29)
 go_enter Tryz.func18,Tryz.ntmps18
 go_upto_region 2 with fail
 obtain⟨r,hr⟩:∃ r,r=w.heap.size:=⟨_,rfl⟩
 obtain⟨B,hB⟩:∃ B,B=w.heap.size:=⟨_,rfl⟩
 rw[← hr] at h2 ⊢
 generalize w.alloc (.cells qz 29)=Z at *
 have hBZ:B≤Z.heap.size:=by rw[hB];exact hA.size
 refine wp_region_rel 12 (fun _ W=>Below Z.heap.size Z W) (fun v=>⟨#[(sv a parts.length c),(sv a' l.length c'),iv wn,undef,undef,undef,qv r 0,iv l.length,(sv a' l.length c'),iv l.length,v 0,v 1,v 2,v 3,v 4,v 5,v 6,v 7,v 8,v 9,v 10,v 11],[]⟩) (nfR B parts l wn a c a' c') (fun _ _ _ _=>True) (by kernel_rfl) (by kernel_rfl) (Below.refl _ _).drew ⟨fun _=>undef,rfl⟩ ?_ ?_
 ·intro j op hj ho
  rcases (by omega:j=0∨j=1∨j=2∨j=3∨j=4∨j=5∨j=6∨j=7∨j=8∨j=9∨j=10∨j=11) with rfl | rfl | rfl | rfl | rfl | rfl | rfl | rfl | rfl | rfl | rfl | rfl
  all_goals cases ho
  all_goals refine relStep_of rfl rfl ?_
  all_goals rintro sd v W hC hin hsd hdep hdz
  all_goals have hBW:B≤W.heap.size:=Nat.le_trans hBZ hC.size
  ·exact wp_val (sv a parts.length c) (by simp[execOp,Act.eval,go_sem]) ⟨_,rfl,hC,fun _ _ _ _ h=>h,rfl,fun _ _ _ _=>⟨trivial,trivial⟩⟩
  ·exact wp_val (sv a' l.length c') (by simp[execOp,Act.eval,go_sem]) ⟨_,rfl,hC,fun _ _ _ _ h=>h,rfl,fun _ _ _ _=>⟨trivial,trivial⟩⟩
  ·exact wp_val (iv l.length) (by simp[execOp,Act.eval,go_sem]) ⟨_,rfl,hC,fun _ _ _ _ h=>h,rfl,fun _ _ _ _=>⟨trivial,trivial⟩⟩
  ·have hv:v 2=iv l.length:=hdep ⟨2,.data⟩ (by simp) rfl
   obtain⟨W2,hmk,hrow,hgr⟩:=run_makeSlice_full W B 24 4 iD (.bool false) 1 Tryz.underlying24 hiD hD0 hD1 .i64 .i64 l.length (by omega) (by rw[hD2];omega) (by unfold maxLen;omega) hBW
   have hb2:Below W.heap.size W W2:=(Below.refl _ _).grown hgr (Nat.le_refl _) (fun k hk=>by cases hk)
   rw[show (Value.cells (.bool false))=#[.bool false] from rfl,made_flat1 encB false (.bool false) rfl l.length] at hrow
   exact wp_valW (sv (some (qa W.heap.size 0)) l.length l.length) W2 (by simp[execOp,Act.eval,hv,hmk]) ⟨_,rfl,hC.trans (hb2.mono hC.size),(fun k x _ _=>nfR_later hb2 k x),hrow,fun _ _ _ _=>⟨trivial,trivial⟩⟩
  ·exact wp_val (iv l.length) (by simp[execOp,Act.eval,go_sem]) ⟨_,rfl,hC,fun _ _ _ _ h=>h,rfl,fun _ _ _ _=>⟨trivial,trivial⟩⟩
  ·have hv:v 4=iv l.length:=hdep ⟨4,.data⟩ (by simp) rfl
   obtain⟨W2,hmk,hrow,hgr⟩:=run_makeSlice_full W B 22 39 iP (.agg #[sv none 0 0,sv none 0 0]) 2 Tryz.underlying22 hiP hP0 hP1 .i64 .i64 l.length (by omega) (by rw[hP2];omega) (by unfold maxLen;omega) hBW
   have hb2:Below W.heap.size W W2:=(Below.refl _ _).grown hgr (Nat.le_refl _) (fun k hk=>by cases hk)
   rw[show (Value.cells (.agg #[sv none 0 0,sv none 0 0]))=#[sv none 0 0,sv none 0 0] from rfl,made_flat2 pentCells pent0 (sv none 0 0) (sv none 0 0) rfl l.length] at hrow
   exact wp_valW (sv (some (qa W.heap.size 0)) l.length l.length) W2 (by simp[execOp,Act.eval,hv,hmk]) ⟨_,rfl,hC.trans (hb2.mono hC.size),(fun k x _ _=>nfR_later hb2 k x),hrow,fun _ _ _ _=>⟨trivial,trivial⟩⟩
  ·exact wp_val (iv l.length) (by simp[execOp,Act.eval,go_sem]) ⟨_,rfl,hC,fun _ _ _ _ h=>h,rfl,fun _ _ _ _=>⟨trivial,trivial⟩⟩
  ·have hv:v 6=iv l.length:=hdep ⟨6,.data⟩ (by simp) rfl
   obtain⟨W2,hmk,hrow,hgr⟩:=run_makeSlice_full W B 25 64 iG (.agg #[iv 0,iv 0]) 2 Tryz.underlying25 hiG hG0 hG1 .i64 .i64 l.length (by omega) (by rw[hG2];omega) (by unfold maxLen;omega) hBW
   have hb2:Below W.heap.size W W2:=(Below.refl _ _).grown hgr (Nat.le_refl _) (fun k hk=>by cases hk)
   rw[show (Value.cells (.agg #[iv 0,iv 0]))=#[iv 0,iv 0] from rfl,made_flat2 encGrt M.grt0 (iv 0) (iv 0) rfl l.length] at hrow
   exact wp_valW (sv (some (qa W.heap.size 0)) l.length l.length) W2 (by simp[execOp,Act.eval,hv,hmk]) ⟨_,rfl,hC.trans (hb2.mono hC.size),(fun k x _ _=>nfR_later hb2 k x),hrow,fun _ _ _ _=>⟨trivial,trivial⟩⟩
  ·have hA2:=(Below.refl W.heap.size W).alloc (Nat.le_refl _) (.cells #[iv (-1)] 3)
   exact wp_valW (sv (some (qa W.heap.size 0)) 1 1) (W.alloc (.cells #[iv (-1)] 3)) (by simp[execOp,Act.eval,go_sem]) ⟨_,rfl,hC.trans (hA2.mono hC.size),(fun k x _ _=>nfR_later hA2 k x),⟨_,rfl,cellB (heap_alloc_new W _) 0⟩,fun _ _ _ _=>⟨trivial,trivial⟩⟩
  ·exact wp_val (iv wn) (by simp[execOp,Act.eval,go_sem]) ⟨_,rfl,hC,fun _ _ _ _ h=>h,rfl,fun _ _ _ _=>⟨trivial,trivial⟩⟩
  ·obtain⟨g,h8,hc8⟩:nfR B parts l wn a c a' c' 8 W (v 8):=hdep ⟨8,.data⟩ (by simp) rfl
   have h9:v 9=iv wn:=hdep ⟨9,.data⟩ (by simp) rfl
   refine wp_enter 56 #[sv (some (qa g 0)) 1 1,iv wn] (by simp[Act.eval,go_sem,h8,h9]) ?_
   refine (repeat_any wn g h1 h4 W hc8).mono ?_
   rintro e W2 ⟨hb2,g2,hg2,rfl,hq⟩
   refine⟨_,rfl,_,rfl,hC.trans (hb2.mono hC.size),(fun k x _ _=>nfR_later hb2 k x),?_,fun _ _ _ _=>⟨trivial,trivial⟩⟩
   have ef:=rep_enc wn
   refine⟨by rw[ef];simp,.inr ⟨g2,wn,_,rfl,Nat.le_trans hBW hg2,hq,Nat.le_refl _,by unfold maxLen;omega,by simp,?_⟩⟩
   rw[ef,Nat.mul_one]
   exact List.take_of_length_le (by simp)
  ·have e0:v 0=sv a parts.length c:=hdep ⟨0,.data⟩ (by simp) rfl
   have e1:v 1=sv a' l.length c':=hdep ⟨1,.data⟩ (by simp) rfl
   have r3:W.ownsRow B 4 1 (v 3) l.length ((List.replicate l.length false).flatMap encB):=hdep ⟨3,.data⟩ (by simp) rfl
   have r5:W.ownsRow B 39 2 (v 5) l.length ((List.replicate l.length pent0).flatMap pentCells):=hdep ⟨5,.data⟩ (by simp) rfl
   have r7:W.ownsRow B 64 2 (v 7) l.length ((List.replicate l.length M.grt0).flatMap encGrt):=hdep ⟨7,.data⟩ (by simp) rfl
   have r10:W.ownsRow B 3 1 (v 10) wn ((List.replicate wn (-1)).flatMap encI):=hdep ⟨10,.data⟩ (by simp) rfl
   obtain⟨yd,ydc,e3⟩:=own_len r3
   obtain⟨yh,yhc,e5⟩:=own_len r5
   obtain⟨yg,ygc,e7⟩:=own_len r7
   obtain⟨yk,ykc,e10⟩:=own_len r10
   rw[e3] at r3
   rw[e5] at r5
   rw[e7] at r7
   rw[e10] at r10
   exact wp_val (.agg #[sv a parts.length c,sv a' l.length c',iv 0,sv yd l.length ydc,sv yh l.length yhc,sv yg l.length ygc,sv yk wn ykc,sv none 0 0]) (by simp[execOp,Act.eval,go_sem,e0,e1,e3,e5,e7,e10]) ⟨_,rfl,hC,fun _ _ _ _ h=>h,⟨yd,ydc,yh,yhc,yg,ygc,yk,ykc,rfl,r3,r5,r7,r10⟩,fun _ _ _ _=>⟨trivial,trivial⟩⟩
 ·rintro sd v W hC hR hZ
  obtain⟨d,dc,h,hc,gg,gc,k,kc,h11,r3,r5,r7,r10⟩:nfR B parts l wn a c a' c' 11 W (v 11):=hR 11 (by decide)
  have hrW:=(hC.block _ (lt1 h2)).trans h2
  obtain⟨Y,hY,hs1,hs2⟩:=store8e hrW (sv a parts.length c) (sv a' l.length c') (iv 0) (sv d l.length dc) (sv h l.length hc) (sv gg l.length gc) (sv k wn kc) (sv none 0 0)
  have HB:Hid (Below w.heap.size w Y):=by
   have h3:Below w.heap.size w W:=hA.trans (hC.mono hA.size)
   exact h3.grown hs2 h3.size (fun k hk=>by cases hk;omega)
  have kw:Kq W Y:=Kq.of_wr ⟨r,_,hrW,hs2⟩
  have HE:Hid (∀ X,Kq Y X→PartsAt X (sv a parts.length c) parts→NodesAt X (sv a' l.length c') l→FarmAt X (M.newF parts l wn) ⟨a,c,a',c',d,dc,h,hc,gg,gc,k,kc,none,0⟩):=fun X kx f1 f2=>by
   have kk:=kw.trans kx
   have q3:=row_bools (l:=List.replicate l.length false) (by rw[List.length_replicate];exact kk.row r3 (by decide) (by decide))
   have q5:=row_parts (ps:=List.replicate l.length M.nil) (es:=List.replicate l.length pent0) (by rw[List.length_replicate];exact kk.row r5 (by decide) (by decide)) (by simp[pent0]) (fun e he=>by rw[List.eq_of_mem_replicate he];exact⟨[],PR.nil _ _,rfl⟩)
   have q7:=row_grants (l:=List.replicate l.length M.grt0) (by rw[List.length_replicate];exact kk.row r7 (by decide) (by decide))
   have q10:=row_works (l:=List.replicate wn (-1)) (by rw[List.length_replicate];exact kk.row r10 (by decide) (by decide))
   refine⟨f1,f2,?_,?_,?_,?_,(farm0_at _).net⟩
   ·show BoolsAt _ (sv d (List.replicate l.length false).length dc) (List.replicate l.length false)
    rw[List.length_replicate];exact q3
   ·show PartsAt _ (sv h (List.replicate l.length M.nil).length hc) (List.replicate l.length M.nil)
    rw[List.length_replicate];exact q5
   ·show GrantsAt _ (sv gg (List.replicate l.length M.grt0).length gc) (List.replicate l.length M.grt0)
    rw[List.length_replicate];exact q7
   ·show IntsAt _ (sv k (List.replicate wn (-1)).length kc) (List.replicate wn (-1))
    rw[List.length_replicate];exact q10
  simp only[List.drop_succ_cons,List.drop_zero]
  obtain⟨g0,g1,g2,g3,g4,g5,g6,g7⟩:=cell8 hrW
  have f0:=frozenB hrW
  have lg:=lt1 hrW
  rw[h11]
  have HY:Hid (Y=_):=hY
  have HS:Hid (Y.heap[r]?=_):=hs1
  clear hR hZ h11 hs1 hs2 hC kw r3 r5 r7 r10 hA h2 hB hBZ hr hY
  go_wp2_with fail
  rw[← HY.out]
  obtain⟨e0,e1,e2,e3,e4,e5,e6,e7⟩:=cell8 HS.out
  refine bodyPost_ret (v:=.agg #[sv a parts.length c,sv a' l.length c',iv 0,sv d l.length dc,sv h l.length hc,sv gg l.length gc,sv k wn kc,sv none 0 0]) (by simp[results,Tryz.results18,go_sem,e0,e1,e2,e3,e4,e5,e6,e7]) rfl ?_
  refine⟨HB.out,⟨a,c,a',c',d,dc,h,hc,gg,gc,k,kc,none,0⟩,?_,HE.out⟩
  simp[M.newF]
attribute [local go_sem] lat_cell
abbrev fq (f:M.Farm) (x:Fd):Array Value:=(qm f x)
theorem happen_keep (f:M.Farm) (x:M.Hap) (h:(M.happen f x).2≠0):(M.happen f x).1=f:=by
 revert h
 unfold M.happen M.happenAt M.happenTo M.give M.finish
 split
 ·cases M.inR x.worker 0 ((f.work.length:Int) - 1)
  ·exact fun _=>rfl
  ·simp only[cond_true]
   split
   ·split
    ·exact fun _=>rfl
    ·exact fun h=>absurd rfl h
   ·split
    ·split
     ·exact fun _=>rfl
     ·exact fun h=>absurd rfl h
    ·exact fun h=>absurd rfl h
 ·split
  ·cases M.inR x.k 0 ((f.net.length:Int) - 1)
   ·exact fun _=>rfl
   ·simp only[cond_true]
    split
    ·split
     ·exact fun _=>rfl
     ·exact fun h=>absurd rfl h
    ·split
     ·exact fun h=>absurd rfl h
     ·exact fun h=>absurd rfl h
  ·split
   ·split
    ·exact fun _=>rfl
    ·exact fun h=>absurd rfl h
   ·split
    ·exact fun h=>absurd rfl h
    ·exact fun _=>rfl
theorem each_snoc:∀ (l:List M.Prt) (p:M.Prt),M.checkEach (l ++ [p])=M.orE (M.checkEach l) (M.checkPart p)
 | [],p=>by
  show (if M.checkPart p=0 then 0 else M.checkPart p)=M.checkPart p
  split
  ·rename_i h;exact h.symm
  ·rfl
 | q :: l,p=>by
  show (if M.checkPart q=0 then M.checkEach (l ++ [p]) else M.checkPart q)=M.orE (if M.checkPart q=0 then M.checkEach l else M.checkPart q) (M.checkPart p)
  split
  ·exact each_snoc l p
  ·rename_i h;rw[M.orE,if_neg h]
structure RnS (B:Nat) (f g m:M.Farm) (x y z:Fd) (E:Int) (b r q:Nat) (v:Value) (es:List Int) (W:World):Prop where
 b5:W.heap[b]?=some (.cells (fq f x) 29 (0,0))
 b11:W.heap[r]?=some (.cells (fq g y) 29 (0,0))
 b14:W.heap[q]?=some (.cells (fq m z) 29 (0,0))
 ag:FarmAt W g y
 og:E=0→∃ o,FmR B W g y o
 am:FarmAt W m z
 sd:W.ownsRow B 33 1 v es.length (es.map (Value.int .i64))
theorem RnS.later {B:Nat} {f g m:M.Farm} {x y z:Fd} {E:Int} {b r q:Nat} {v:Value} {es:List Int} {W X:World} (h:RnS B f g m x y z E b r q v es W) (hb:Below W.heap.size W X):RnS B f g m x y z E b r q v es X :=
 ⟨bl hb h.b5,bl hb h.b11,bl hb h.b14,h.ag.later hb,fun e=>let ⟨o,ho⟩:=h.og e;⟨o,ho.later hb⟩,h.am.later hb,h.sd.kept (grown_of_below hb none) own_self⟩
structure CurF (f:M.Farm) (x:Fd) (W:World) (b:Nat) (fk:M.Farm) (xk:Fd):Prop where
 blk:W.heap[b]?=some (.cells (fq fk xk) 29 (0,0))
 cur:(fk=f∧xk=x)∨Firm W fk xk
theorem CurF.later {f fk:M.Farm} {x xk:Fd} {W X:World} {b:Nat} (h:CurF f x W b fk xk) (hb:Below W.heap.size W X):CurF f x X b fk xk:=⟨bl hb h.blk,h.cur.imp id (fun q=>q.kq (Kq.of_below hb))⟩
theorem CurF.said {f fk:M.Farm} {x xk:Fd} {W X:World} {b B n:Nat} {v:Value} {xs:List Value} (h:CurF f x W b fk xk) (hr:W.ownsRow B 33 1 v n xs) (hg:W.grownBy X v.ownBlock):CurF f x X b fk xk :=
 ⟨block_keptP hr hg h.blk (by decide),h.cur.imp id (fun q=>q.kq (Kq.of_said hr hg))⟩
theorem CurF.at {f fk:M.Farm} {x xk:Fd} {W:World} {b:Nat} (h:CurF f x W b fk xk) (hf:FarmAt W f x):FarmAt W fk xk:=by
 rcases h.cur with ⟨rfl,rfl⟩ | q
 ·exact hf
 ·exact q.at
structure RnL (w:World) (B B1:Nat) (g:M.Farm) (y:Fd) (o:Fo) (r:Nat) (v:Value) (es:List Int) (W:World):Prop where
 b11:W.heap[r]?=some (.cells (fq g y) 29 (0,0))
 og:FmR B W g y o
 sd:W.ownsRow B 33 1 v es.length (es.map (Value.int .i64))
 low:∀ k,v.ownBlock=some k→k<B1
 bel:Below w.heap.size w W
 sz:B1≤W.heap.size
section
variable {w W X : World} {B B1 : Nat} {g : M.Farm} {y : Fd} {o : Fo} {r : Nat} {v : Value} {es : List Int}
theorem RnL.later (h:RnL w B B1 g y o r v es W) (hb:Below W.heap.size W X):RnL w B B1 g y o r v es X :=
 ⟨bl hb h.b11,h.og.later hb,h.sd.kept (grown_of_below hb none) own_self,h.low,h.bel.trans (hb.mono h.bel.size),Nat.le_trans h.sz hb.size⟩
theorem RnL.store {b:Nat} {cs:Array Value} (h:RnL w B B1 g y o r v es W) (hb:W.heap[b]?=some (.cells cs 29 (0,0))) (hne:b≠r) (hw:w.heap.size≤b) (hg:W.grownBy X (some b)):RnL w B B1 g y o r v es X :=
 have wr:Wr W X 29:=⟨b,cs,hb,hg⟩
 ⟨(hg.block r (lt1 h.b11) (fun e=>hne (by cases e;rfl))).trans h.b11,h.og.wr wr,wr.row h.sd (by decide),h.low,h.bel.grown hg h.bel.size (fun k hk=>by cases hk;exact hw),Nat.le_trans h.sz hg.size⟩
theorem RnL.said {n:Nat} {v':Value} {xs:List Value} (h:RnL w B B1 g y o r v es W) (hw:w.heap.size≤B1) (hr:W.ownsRow B1 33 1 v' n xs) (hg:W.grownBy X v'.ownBlock):RnL w B B1 g y o r v es X:=by
 refine⟨block_keptP hr hg h.b11 (by decide),h.og.kq (Kq.of_said hr hg),h.sd.kept hg ?_,h.low,h.bel.grown hg h.bel.size (fun k hk=>Nat.le_trans hw (hr.lt k hk).1),Nat.le_trans h.sz hg.size⟩
 cases hv:v.ownBlock with
 | none=>exact .inl rfl
 | some k=>exact .inr (fun e=>by have:=(hr.lt k e.symm).1;have:=h.low k hv;omega)
end
theorem orE_nil (a:Int):M.orE a (M.checkEach [])=a:=by
 show (if a=0 then 0 else a)=a
 split
 ·rename_i h;exact h.symm
 ·rfl
theorem runs_law (f:M.Farm) (x:Fd) (hs:List M.Hap) (ps:List M.Prt) (l:List M.Nd) (wks:Int) (ah ap al:Option Addr) (ch cp cl:Nat) (w:World) (hf:FarmAt w f x) (hh:HapsAt w (sv ah hs.length ch) hs) (hp:PartsAt w (sv ap ps.length cp) ps) (hn:NodesAt w (sv al l.length cl) l) :
  Calls Tryz.prog 4 #[.agg (fq f x),sv ah hs.length ch,sv ap ps.length cp,sv al l.length cl,iv wks] w fun e w'=>e=.returned (.bool true)∧Below w.heap.size w w':=by
 obtain⟨i0,hi0,hz0,hz1,hz2⟩:=info_parts (P:=Tryz.prog) (e:=33) (z:=iv 0) (size:=1) (bytes:=8) (by kernel_rfl)
 have HI:Hid (∀ W,Below w.heap.size w W→FarmAt W f x∧HapsAt W (sv ah hs.length ch) hs∧PartsAt W (sv ap ps.length cp) ps∧NodesAt W (sv al l.length cl) l):=fun W hW=>⟨hf.later hW,hh.later hW,hp.later hW,hn.later hW⟩
 have hpl:ps.length≤maxLen:=by obtain⟨cc,h1,_⟩:=hp;obtain⟨_,_,_,h⟩:=SlAt.form h1;exact h
 have hhl:hs.length≤maxLen:=by obtain⟨_,_,_,h⟩:=SlAt.form hh;exact h
 unfold maxLen at hpl hhl
 have hA:Below w.heap.size w (w.alloc (.cells (fq f x) 29)):=(Below.refl _ _).alloc (Nat.le_refl _) _
 have h0:=heap_alloc_new w (.cells (fq f x) 29)
 have KFm:Hid (∀ W,Calls Tryz.prog 9 #[] W fun e w'=>e=.returned (.bool true)∧Below W.heap.size W w'):=fun W=>farmed_true W
 clear hf hh hp hn
 go_enter Tryz.func4,Tryz.ntmps4
 go_upto_region 1 with fail
 generalize w.alloc (.cells (fq f x) 29)=V0 at *
 obtain⟨b,hb⟩:∃ b,b=w.heap.size:=⟨_,rfl⟩
 have Hb:Hid (w.heap.size≤b):=by rw[hb];exact Nat.le_refl _
 rw[← hb] at h0 ⊢
 clear hb
 obtain⟨c0,c1,c2,c3,c4,c5,c6,c7⟩:=cell8 h0
 have cl:=lt1 h0
 have KR:Hid (Calls Tryz.prog 14 #[.agg (fq f x),sv ah hs.length ch] V0 fun e w'=>Below V0.heap.size V0 w'∧∃ y v,e=.returned (.tuple #[.agg (fq (M.run f hs).1 y),v,iv (M.runE f hs)])∧(FarmAt w' (M.run f hs).1 y∧(M.runE f hs=0→∃ o,FmR V0.heap.size w' (M.run f hs).1 y o))∧w'.ownsRow V0.heap.size 33 1 v (M.run f hs).2.length ((M.run f hs).2.map (Value.int .i64))):=run_any f x hs ah ch V0 (HI.out V0 hA).1 (HI.out V0 hA).2.1
 have HE:Hid (M.runE f hs=M.orE (M.checkFarm f) (if 120<hs.length then 2 else 0)):=rfl
 have HS:Hid (M.run f hs=if M.runE f hs=0 then M.runF f hs else (M.farm0,[])):=rfl
 generalize M.run f hs=R at *
 generalize M.runE f hs=E at *
 obtain⟨g,es⟩:=R
 simp only at KR
 go_upto_region 2 with (go_at_call 14;refine KR.out.mono ?_;rintro e X1 ⟨hb1,y,v,rfl,⟨hg1,hg2⟩,hs1⟩)
 have hA1:Below X1.heap.size X1 (X1.alloc (.cells (fq g y) 29)):=(Below.refl _ _).alloc (Nat.le_refl _) _
 have h11:=heap_alloc_new X1 (.cells (fq g y) 29)
 have hB1:=hb1.trans (hA1.mono hb1.size)
 have hB0:=hA.trans (hB1.mono hA.size)
 have g1:=hg1.later hA1
 have g2:E=0→∃ o,FmR V0.heap.size (X1.alloc (.cells (fq g y) 29)) g y o:=fun h=>let ⟨o,ho⟩:=hg2 h;⟨o,ho.later hA1⟩
 have g3:=hs1.kept (grown_of_below hA1 none) own_self
 have g5:=bl hB1 h0
 have Hbn:Hid (b≠X1.heap.size):=by have:=hb1.size;have:=lt1 h0;rw[Hid];omega
 clear c0 c1 c2 c3 c4 c5 c6 c7 cl
 clear KR hg1 hg2 hs1 hb1 hA1 hA h0 hB1
 obtain⟨ad,cc,rfl⟩:=own_len g3
 generalize X1.alloc (.cells (fq g y) 29)=V1 at *
 generalize X1.heap.size=n11 at *
 generalize V0.heap.size=B0 at *
 clear X1 V0
 have KN:Hid (Calls Tryz.prog 15 #[sv ap ps.length cp,sv al l.length cl,iv wks] V1 fun e w'=>Below V1.heap.size V1 w'∧∃ z,e=.returned (.tuple #[.agg (fq (M.new ps l wks) z),iv (M.newE ps l wks)])∧FarmAt w' (M.new ps l wks) z):=(new_any ps l wks ap al cp cl V1 (HI.out V1 hB0).2.2.1 (HI.out V1 hB0).2.2.2).mono fun e w' ⟨j1,z,j2,j3,_⟩=>⟨j1,z,j2,j3⟩
 have HNE:Hid (M.newE ps l wks=M.orE (M.checkPlan l ps.length) (bif M.inR wks 1 4 then M.checkEach ps else 3)):=rfl
 have HNM:Hid (M.new ps l wks=if M.newE ps l wks=0 then M.newF ps l wks else M.farm0):=rfl
 have HPl:Hid (M.checkPlan l ps.length=0→l.length≤23):=fun h=>(check_ok h).2.1
 generalize M.new ps l wks=m at *
 generalize M.newE ps l wks=NE at *
 go_upto_region 3 with (go_at_call 15;refine KN.out.mono ?_;rintro e X2 ⟨hb2,z,rfl,hm1⟩)
 have hA2:Below X2.heap.size X2 (X2.alloc (.cells (fq m z) 29)):=(Below.refl _ _).alloc (Nat.le_refl _) _
 have hB2:=hb2.trans (hA2.mono hb2.size)
 have hS2:RnS B0 f g m x y z E b n11 X2.heap.size (sv ad es.length cc) es (X2.alloc (.cells (fq m z) 29)) :=
  ⟨bl hB2 g5,bl hB2 h11,heap_alloc_new X2 _,g1.later hB2,fun e=>let ⟨o,ho⟩:=g2 e;⟨o,ho.later hB2⟩,hm1.later hA2,g3.kept (grown_of_below hB2 none) own_self⟩
 have HB2:Hid (Below w.heap.size w (X2.alloc (.cells (fq m z) 29))):=hB0.trans (hB2.mono hB0.size)
 clear KN hb2 hm1 hA2 hB2 g1 g2 g3 g5 h11 hB0
 generalize X2.alloc (.cells (fq m z) 29)=V2 at *
 generalize X2.heap.size=n14 at *
 clear X2 V1
 have HQ:Hid (∀ W,Below V2.heap.size V2 W→RnS B0 f g m x y z E b n11 n14 (sv ad es.length cc) es W):=fun W hW=>hS2.later hW
 clear hS2
 have KC:Hid (Calls Tryz.prog 16 #[sv al l.length cl,iv ps.length] V2 fun e w'=>e=.returned (iv (M.checkPlan l ps.length))∧Below V2.heap.size V2 w'):=rcheckPlan_any l ps.length al cl V2 (HI.out V2 HB2.out).2.2.2
 generalize M.checkPlan l ps.length=c0 at *
 go_upto_region 4 with (go_at_call 16;refine KC.out.mono ?_;rintro e V3 ⟨rfl,hb3⟩)
 have HB3:Hid (Below V2.heap.size V2 V3):=hb3
 clear KC hb3
 obtain⟨bw,hbw⟩:∃ bw:Bool,bw=(decide (c0=0)&&!M.inR wks 1 4):=⟨_,rfl⟩
 have Hbw:Hid (bw=(decide (c0=0)&&!M.inR wks 1 4)):=hbw
 clear hbw
 go_cut [53] (fun s53 wx=>s53=.bool bw∧Hid (Below V2.heap.size V2 wx))
 case first =>
  by_cases hc:c0=0
  ·by_cases h1:wks<1
   ·have hb:bw=true:=by rw[Hbw.out];simp[M.inR,hc];omega
    clear Hbw HNE HPl
    subst hc hb
    go_wp2_with fail
    go_meet
    exact⟨rfl,HB3⟩
   ·by_cases h4:4<wks
    ·have hb:bw=true:=by rw[Hbw.out];simp[M.inR,hc];omega
     clear Hbw HNE HPl
     subst hc hb
     go_wp2_with fail
     go_meet
     exact⟨rfl,HB3⟩
    ·have hb:bw=false:=by rw[Hbw.out];simp[M.inR,hc];omega
     clear Hbw HNE HPl
     subst hc hb
     go_wp2_with fail
     go_meet
     exact⟨rfl,HB3⟩
  ·have hb:bw=false:=by rw[Hbw.out];simp[hc]
   have hne:(c0==0)=false:=by simpa using hc
   clear Hbw HNE HPl hc
   subst hb
   go_wp2_with fail
   go_meet
   exact⟨rfl,HB3⟩
 case rest =>
  rename World=>V4
  obtain⟨rfl,HB4⟩:=hcut
  clear HB3
  obtain⟨w0,hw0⟩:∃ w0:Int,w0=bif bw then 3 else c0:=⟨_,rfl⟩
  have Hw0:Hid (w0=bif bw then 3 else c0):=hw0
  clear hw0
  go_upto_if 53 with fail
  go_cut [16] (fun s16 wx=>s16=iv w0∧Hid (Below V2.heap.size V2 wx))
  case first =>
   clear Hbw HNE HPl
   cases bw with
   | true =>
    obtain rfl:w0=3:=Hw0.out
    go_wp2_with fail
    go_meet
    exact⟨rfl,HB4⟩
   | false =>
    obtain rfl:w0=c0:=Hw0.out
    go_wp2_with fail
    go_meet
    exact⟨rfl,HB4⟩
  case rest =>
   rename World=>V5
   obtain⟨rfl,HB5⟩:=hcut
   have HW0:Hid (NE=M.orE w0 (M.checkEach ps)):=by
    rw[Hid,HNE.out,Hw0.out,Hbw.out]
    by_cases hc:c0=0
    ·subst hc
     cases M.inR wks 1 4 <;> simp[M.orE]
    ·simp[M.orE,hc]
   have HZ:Hid (NE=0→c0=0∧1≤wks∧wks≤4):=fun h=>by
    rw[HNE.out] at h
    unfold M.orE at h
    by_cases hc:c0=0
    ·rw[if_pos hc] at h
     cases hi:M.inR wks 1 4 with
     | false=>rw[hi] at h;cases h
     | true=>simp[M.inR] at hi;exact⟨hc,hi.1,hi.2⟩
    ·rw[if_neg hc] at h;exact absurd h hc
   clear HB4 Hw0 Hbw HNE
   go_wp2_with fail
   go_loopw [16,56] (fun s16 s56 wr=>∃ (k:Nat),k≤ps.length∧s56=iv k∧s16=iv (M.orE w0 (M.checkEach (ps.take k)))∧Hid (Below V2.heap.size V2 wr)) (fun _ s56 _=>ps.length - (intOf s56).toNat)
   case atStart=>exact⟨0,Nat.zero_le _,rfl,by rw[List.take_zero,orE_nil],HB5⟩
   case round =>
    obtain⟨k,hk,rfl,rfl,HBr⟩:=hrel
    have HB:Hid (Below w.heap.size w wr):=HB2.out.trans (HBr.out.mono HB2.out.size)
    clear HB5
    by_cases hlt:k<ps.length
    ·obtain⟨pb,off,x3,y3,x4,y4,rfl,e0,e1,hS⟩:=parts_cell (HI.out wr HB.out).2.2.1 rfl k hlt
     have hbr:pb<wr.heap.size:=World.block_lt_of_cell? _ _ e0
     have hkl:(k:Int)<(ps.length:Int):=by omega
     have HT:Hid (M.orE w0 (M.checkEach (ps.take (k+1)))=M.orE (M.orE w0 (M.checkEach (ps.take k))) (M.checkPart (ps.getD k M.nil))):=by
      rw[Hid,List.take_add_one,getElem?_getD ps M.nil k hlt,Option.toList_some,each_snoc,← orE_assoc]
     generalize M.orE w0 (M.checkEach (ps.take k))=u at *
     generalize ps.getD k M.nil=q at *
     have hA:=(Below.refl wr.heap.size wr).alloc (Nat.le_refl _) (.cells #[sv x3 q.frags.length y3,sv x4 q.defs.length y4] 39)
     have HBA:Hid (Below V2.heap.size V2 (wr.alloc (.cells #[sv x3 q.frags.length y3,sv x4 q.defs.length y4] 39))):=HBr.out.trans (hA.mono HBr.out.size)
     have KP:Hid (Calls Tryz.prog 17 #[.agg #[sv x3 q.frags.length y3,sv x4 q.defs.length y4]] (wr.alloc (.cells #[sv x3 q.frags.length y3,sv x4 q.defs.length y4] 39)) fun e w'=>e=.returned (iv (M.checkPart q))∧Below (wr.alloc (.cells #[sv x3 q.frags.length y3,sv x4 q.defs.length y4] 39)).heap.size (wr.alloc (.cells #[sv x3 q.frags.length y3,sv x4 q.defs.length y4] 39)) w'):=rcheck_any _ _ _ _ _ _ _ (hS.fr.later hA) (hS.df.later hA)
     clear hS hA
     by_cases hu:u=0
     ·subst hu
      go_wp2_with (go_at_call 17;refine KP.out.mono ?_;rintro e x1 ⟨rfl,hx1⟩)
      go_roundw
      case rel=>exact⟨k+1,by omega,by go_num,by rw[HT.out];rfl,HBA.out.trans (hx1.mono HBA.out.size)⟩
      case measure=>simp[intOf];omega
     ·have hne:(u==0)=false:=by simpa using hu
      have HT2:Hid (M.orE w0 (M.checkEach (ps.take (k+1)))=u):=by rw[Hid,HT.out,M.orE,if_neg hu]
      clear hu HT KP
      go_wp2_with fail
      go_roundw
      case rel=>exact⟨k+1,by omega,by go_num,by rw[HT2.out],HBA⟩
      case measure=>simp[intOf];omega
    ·have hkl:k=ps.length:=by omega
     have HT:Hid (M.orE w0 (M.checkEach (ps.take k))=NE):=by rw[Hid,HW0.out,hkl,List.take_length]
     rw[HT.out]
     subst hkl
     clear HT HW0 hlt hk
     have hA:=(Below.refl wr.heap.size wr).alloc (Nat.le_refl _) (.cells qz 29)
     have h19:=heap_alloc_new wr (.cells qz 29)
     have HBA:Hid (Below V2.heap.size V2 (wr.alloc (.cells qz 29))):=HBr.out.trans (hA.mono HBr.out.size)
     have HBw:Hid (Below w.heap.size w (wr.alloc (.cells qz 29))):=HB.out.trans (hA.mono HB.out.size)
     have Hn:Hid (V2.heap.size≤wr.heap.size):=HBr.out.size
     go_upto_if 67 with fail
     generalize wr.alloc (.cells qz 29)=V6 at *
     generalize wr.heap.size=n19 at *
     clear HBr HB hA wr
     have H19:Hid (V6.heap[n19]?=some (.cells qz 29 (0,0))):=h19
     clear h19
     go_cut [] (fun wx=>∃ u,Hid (wx.heap[n19]?=some (.cells (fq m u) 29 (0,0))∧FarmAt wx m u∧Below V2.heap.size V2 wx))
     case first =>
      by_cases hNE:NE=0
      ·obtain⟨hc,h1,h4⟩:=HZ.out hNE
       obtain⟨wn,rfl⟩:=Int.eq_ofNat_of_zero_le (show 0≤wks by omega)
       have hm:m=M.newF ps l wn:=by have:=HNM.out;rwa [if_pos hNE] at this
       have KW:=newFarm_any ps l wn (by omega) (by omega) (HPl.out hc) ap al cp cl V6
       rw[← hm] at KW
       have KW':Hid (Calls Tryz.prog 18 #[sv ap ps.length cp,sv al l.length cl,iv wn] V6 fun e w'=>Below V6.heap.size V6 w'∧∃ u:Fd,e=.returned (.agg (fq m u))∧∀ X,Kq w' X→PartsAt X (sv ap ps.length cp) ps→NodesAt X (sv al l.length cl) l→FarmAt X m u):=KW
       clear KW HNM HZ HPl hc
       subst hNE
       clear hm
       go_wp2_with (go_at_call 18;refine KW'.out.mono ?_;rintro e X7 ⟨hb7,u,rfl,hU⟩;have h19:=bl hb7 H19.out;obtain⟨g0,g1,g2,g3,g4,g5,g6,g7⟩:=cell8 h19;have gl:=lt1 h19;have gf:=frozenB h19)
       obtain⟨Y,hY,k1,k2⟩:=store8e h19 (sv u.p m.parts.length u.pc) (sv u.l m.plan.length u.lc) (iv m.now) (sv u.d m.done.length u.dc) (sv u.h m.got.length u.hc) (sv u.g m.grants.length u.gc) (sv u.k m.work.length u.kc) (sv u.n m.net.length u.nc)
       have hB7:=HBA.out.trans (hb7.mono HBA.out.size)
       have hB7w:=HBw.out.trans (hb7.mono HBw.out.size)
       have hYw:Below w.heap.size w Y:=hB7w.grown k2 hB7w.size (fun k hk=>by cases hk;have:=Hn.out;have:=HB2.out.size;omega)
       have HYE:Hid (Y.heap[n19]?=some (.cells (fq m u) 29 (0,0))∧FarmAt Y m u∧Below V2.heap.size V2 Y):=⟨k1,hU Y (Kq.of_wr ⟨n19,_,h19,k2⟩) (HI.out Y hYw).2.2.1 (HI.out Y hYw).2.2.2,hB7.grown k2 hB7.size (fun k hk=>by cases hk;exact Hn.out)⟩
       rw[← hY]
       go_meet
       exact⟨u,HYE⟩
      ·have hm:m=M.farm0:=by have:=HNM.out;rwa [if_neg hNE] at this
       have hne:(NE==0)=false:=by simpa using hNE
       clear HNM HZ HPl hNE
       go_wp2_with fail
       go_meet
       exact⟨fd0,by rw[hm];exact⟨H19.out,farm0_at _,HBA.out⟩⟩
     case rest =>
      rename World=>V8
      obtain⟨u,HU⟩:=hcut
      clear H19 HBA HBw Hn HNM HZ HPl
      have hnn:(NE !=NE)=false:=by simp
      have KY:Hid (∀ W,Below V8.heap.size V8 W→Calls Tryz.prog 11 #[.agg (fq m z),.agg (fq m u)] W fun e w'=>e=.returned (.bool true)∧Below W.heap.size W w'):=fun W hW=>sameFarm_self m z u W (HQ.out W (HU.out.2.2.trans (hW.mono HU.out.2.2.size))).am (HU.out.2.1.later hW)
      go_upto_region 17 with (first
       | (go_at_call 9;refine (KFm.out _).mono ?_;rintro e V9 ⟨rfl,hb9⟩;have hq14:=(HQ.out V9 (HU.out.2.2.trans (hb9.mono HU.out.2.2.size))).b14;have hq19:=bl hb9 HU.out.1;obtain⟨c0,c1,c2,c3,c4,c5,c6,c7⟩:=cell8 hq14;have cl:=lt1 hq14;obtain⟨d0,d1,d2,d3,d4,d5,d6,d7⟩:=cell8 hq19;have dl:=lt1 hq19;clear hq14 hq19)
       | (go_at_call 11;refine (KY.out _ hb9).mono ?_;rintro e V10 ⟨rfl,hb10⟩))
      clear c0 c1 c2 c3 c4 c5 c6 c7 cl
      clear d0 d1 d2 d3 d4 d5 d6 d7 dl
      have hB10:=HU.out.2.2.trans ((hb9.trans (hb10.mono hb9.size)).mono HU.out.2.2.size)
      have HB10:Hid (Below V2.heap.size V2 V10):=hB10
      clear KFm KY hb9 hb10 HU hnn hB10 V9
      have KCF:Hid (Calls Tryz.prog 8 #[.agg (fq f x)] V10 fun e w'=>e=.returned (iv (M.checkFarm f))∧Below V10.heap.size V10 w'):=rcheckFarm_any f x V10 (HI.out V10 (HB2.out.trans (HB10.out.mono HB2.out.size))).1
      have HCk:Hid (M.checkFarm f=0→M.FarmOk f):=fun h=>(M.farm_iff f).1 h
      generalize M.checkFarm f=cf at *
      have hq5:=(HQ.out V10 HB10.out).b5
      obtain⟨c0,c1,c2,c3,c4,c5,c6,c7⟩:=cell8 hq5
      have cl:=lt1 hq5
      clear hq5
      go_upto_region 18 with (go_at_call 8;refine KCF.out.mono ?_;rintro e V11 ⟨rfl,hb11⟩)
      clear c0 c1 c2 c3 c4 c5 c6 c7 cl
      have HB11:Hid (Below V2.heap.size V2 V11):=HB10.out.trans (hb11.mono HB10.out.size)
      have HBw:Hid (Below w.heap.size w V11):=HB2.out.trans (HB11.out.mono HB2.out.size)
      clear HB10 hb11 KCF V10 V8
      have hQ:=HQ.out V11 HB11.out
      by_cases hE:E=0
      ·have hcf:cf=0∧hs.length≤120:=by
        have:=HE.out
        rw[hE] at this
        unfold M.orE at this
        by_cases hc:cf=0
        ·rw[if_pos hc] at this
         refine⟨hc,?_⟩
         by_cases h:120<hs.length
         ·rw[if_pos h] at this;cases this
         ·omega
        ·rw[if_neg hc] at this;exact absurd this.symm hc
       obtain⟨hc,hl⟩:=hcf
       subst hc
       have hok:=HCk.out rfl
       have HR:Hid (M.runF f hs=(g,es)):=by have:=HS.out;rw[if_pos hE] at this;exact this.symm
       have hlI:¬ (120:Int)<(hs.length:Int):=by omega
       obtain⟨o,ho⟩:=hQ.og hE
       have hL:RnL w B0 V11.heap.size g y o n11 (sv ad es.length cc) es V11:=⟨hQ.b11,ho,hQ.sd,fun k hk=>(hQ.sd.lt k hk).2,HBw.out,Nat.le_refl _⟩
       have HL:Hid (RnL w B0 V11.heap.size g y o n11 (sv ad es.length cc) es V11):=hL
       have HC:Hid (CurF f x V11 b f x):=⟨hQ.b5,.inl ⟨rfl,rfl⟩⟩
       have Hw1:Hid (w.heap.size≤V11.heap.size∧b≠n11):=⟨HBw.out.size,Hbn.out⟩
       clear HE HS HCk hQ ho hL HQ HB11 HBw
       subst hE
       go_wp2_with fail
       go_loopw [21,111] (fun s21 s111 wr=>∃ (k:Nat) (xk:Fd),k≤hs.length∧s111=iv k∧Hid (CurF f x wr b (M.runF f (hs.take k)).1 xk)∧Hid (wr.ownsRow V11.heap.size 33 1 s21 k ((M.runF f (hs.take k)).2.map (Value.int .i64)))∧Hid (RnL w B0 V11.heap.size g y o n11 (sv ad es.length cc) es wr)) (fun _ s111 _=>hs.length - (intOf s111).toNat)
       case atStart=>exact⟨0,x,Nat.zero_le _,rfl,HC,World.ownsRow_nil _ _ _ _,HL⟩
       case round =>
        obtain⟨k,xk,hk,rfl,HCk,HRw,HLk⟩:=hrel
        clear HC HL
        have hsz:V11.heap.size≤wr.heap.size:=HLk.out.sz
        by_cases hlt:k<hs.length
        ·obtain⟨hb,off,rfl,e0,e1,e2⟩:=(HI.out wr HLk.out.bel).2.1.cells k hlt
         have hbr:hb<wr.heap.size:=World.block_lt_of_cell? _ _ e0
         have hkl:(k:Int)<(hs.length:Int):=by omega
         have HT:Hid (M.runF f (hs.take (k+1))=((M.happen (M.runF f (hs.take k)).1 (hs.getD k hap0)).1,(M.runF f (hs.take k)).2 ++ [(M.happen (M.runF f (hs.take k)).1 (hs.getD k hap0)).2])):=by
          rw[Hid,List.take_add_one,getElem?_getD hs hap0 k hlt];exact run_snoc _ _ _
         have hokk:=run_plan (hs.take k) f hok
         generalize hs.getD k hap0=h at *
         obtain⟨kd,wk,kk⟩:=h
         simp only at e0 e1 e2
         obtain⟨wd,wn,wc,rfl⟩:=own_form HRw.out
         generalize M.runF f (hs.take k)=rk at *
         obtain⟨fk,ek⟩:=rk
         simp only at HT HRw HCk hokk
         go_upto_region 26 with fail
         have hAl:=(Below.refl wr.heap.size wr).alloc (Nat.le_refl _) (.cells #[iv kd,iv wk,iv kk] 31)
         have hn:=heap_alloc_new wr (.cells #[iv kd,iv wk,iv kk] 31)
         have hC4:=HCk.out.later hAl
         have hR4:=HRw.out.kept (grown_of_below hAl none) own_self
         have hL4:=HLk.out.later hAl
         clear HCk HRw HLk hAl e0 e1 e2 hsz
         obtain⟨nz,hnz⟩:∃ nz,nz=wr.heap.size:=⟨_,rfl⟩
         rw[← hnz] at hn hbr ⊢
         generalize wr.alloc (.cells #[iv kd,iv wk,iv kk] 31)=V at *
         clear hnz hbr
         have q0:=cellC hn 0 rfl
         have q1:=cellC hn 1 rfl
         have q2:=cellC hn 2 rfl
         have ql:=lt1 hn
         have hb5:=hC4.blk
         obtain⟨c0,c1,c2,c3,c4,c5,c6,c7⟩:=cell8 hb5
         have cl:=lt1 hb5
         have KS:Hid (Calls Tryz.prog 13 #[.agg (fq fk xk),.agg #[iv kd,iv wk,iv kk]] V (StepTo V (M.step fk ⟨kd,wk,kk⟩).1 (M.step fk ⟨kd,wk,kk⟩).2)):=rstep_any fk xk V (hC4.at (HI.out V hL4.bel).1) hokk kd wk kk
         have HSt:Hid (M.step fk ⟨kd,wk,kk⟩=if (M.happen fk ⟨kd,wk,kk⟩).2=0 then M.happen fk ⟨kd,wk,kk⟩ else (M.farm0,(M.happen fk ⟨kd,wk,kk⟩).2)):=by rw[Hid,M.step,if_pos ((M.farm_iff fk).2 hokk)]
         have HKp:Hid ((M.happen fk ⟨kd,wk,kk⟩).2≠0→(M.happen fk ⟨kd,wk,kk⟩).1=fk):=happen_keep fk _
         generalize M.step fk ⟨kd,wk,kk⟩=S at *
         generalize M.happen fk ⟨kd,wk,kk⟩=hp at *
         obtain⟨sf,se⟩:=S
         obtain⟨f',e'⟩:=hp
         simp only at KS HT HSt HKp
         obtain rfl:se=e':=by
          have:=HSt.out
          by_cases h:e'=0
          ·rw[if_pos h,Prod.mk.injEq] at this;exact this.2
          ·rw[if_neg h,Prod.mk.injEq] at this;exact this.2
         have HC4:Hid (CurF f x V b fk xk):=hC4
         have HR4:Hid (V.ownsRow V11.heap.size 33 1 (sv wd wn wc) k (ek.map (Value.int .i64))):=hR4
         have HL4:Hid (RnL w B0 V11.heap.size g y o n11 (sv ad es.length cc) es V):=hL4
         clear hC4 hR4 hL4 hn hb5 hokk
         go_upto_region 27 with (go_at_call 13;refine KS.out.mono ?_;rintro e U ⟨hbU,u,rfl,hU⟩)
         clear c0 c1 c2 c3 c4 c5 c6 c7 cl
         have hAl:=(Below.refl U.heap.size U).alloc (Nat.le_refl _) (.cells (fq sf u) 29)
         have hbV:=hbU.trans (hAl.mono hbU.size)
         have HC5:Hid (CurF f x (U.alloc (.cells (fq sf u) 29)) b fk xk):=HC4.out.later hbV
         have HR5:Hid ((U.alloc (.cells (fq sf u) 29)).ownsRow V11.heap.size 33 1 (sv wd wn wc) k (ek.map (Value.int .i64))):=HR4.out.kept (grown_of_below hbV none) own_self
         have HL5:Hid (RnL w B0 V11.heap.size g y o n11 (sv ad es.length cc) es (U.alloc (.cells (fq sf u) 29))):=HL4.out.later hbV
         have HF5:Hid (Firm (U.alloc (.cells (fq sf u) 29)) sf u):=hU.kq (Kq.of_below hAl)
         have h24:=heap_alloc_new U (.cells (fq sf u) 29)
         clear KS HC4 HR4 HL4 hbU hU hAl hbV q0 q1 q2 ql
         generalize U.alloc (.cells (fq sf u) 29)=U2 at *
         generalize U.heap.size=n24 at *
         clear U V
         go_upto_if 122 with fail
         go_cut [] (fun wx=>∃ xn,Hid (CurF f x wx b f' xn)∧Hid (wx.ownsRow V11.heap.size 33 1 (sv wd wn wc) k (ek.map (Value.int .i64)))∧Hid (RnL w B0 V11.heap.size g y o n11 (sv ad es.length cc) es wx))
         case first =>
          by_cases he:se=0
          ·obtain rfl:sf=f':=by have:=HSt.out;rw[if_pos he,Prod.mk.injEq] at this;exact this.1
           clear HSt HKp HT
           subst he
           have hb5:=HC5.out.blk
           obtain⟨c0,c1,c2,c3,c4,c5,c6,c7⟩:=cell8 hb5
           have cl:=lt1 hb5
           have nf:=frozenB hb5
           obtain⟨d0,d1,d2,d3,d4,d5,d6,d7⟩:=cell8 h24
           have dl:=lt1 h24
           obtain⟨Y,hY,k1,k2⟩:=store8e hb5 (sv u.p sf.parts.length u.pc) (sv u.l sf.plan.length u.lc) (iv sf.now) (sv u.d sf.done.length u.dc) (sv u.h sf.got.length u.hc) (sv u.g sf.grants.length u.gc) (sv u.k sf.work.length u.kc) (sv u.n sf.net.length u.nc)
           have HYE:Hid (CurF f x Y b sf u∧Y.ownsRow V11.heap.size 33 1 (sv wd wn wc) k (ek.map (Value.int .i64))∧RnL w B0 V11.heap.size g y o n11 (sv ad es.length cc) es Y) :=
            ⟨⟨k1,.inr (HF5.out.kq (Kq.of_wr ⟨b,_,hb5,k2⟩))⟩,Wr.row ⟨b,_,hb5,k2⟩ HR5.out (by decide),HL5.out.store hb5 Hw1.out.2 Hb.out k2⟩
           have HY:Hid (Y=_):=hY
           clear hb5 h24 hY k1 k2 HC5 HR5 HL5 HF5
           go_wp2_with fail
           rw[← HY.out]
           go_meet
           exact⟨u,HYE.out.1,HYE.out.2.1,HYE.out.2.2⟩
          ·obtain rfl:f'=fk:=HKp.out he
           have hne:(se==0)=false:=by simpa using he
           clear HSt HKp HT he h24
           go_wp2_with fail
           go_meet
           exact⟨xk,HC5,HR5,HL5⟩
         case rest =>
          rename World=>U3
          obtain⟨xn,HC6,HR6,HL6⟩:=hcut
          clear HC5 HR5 HL5 HF5 h24 HSt HKp
          have hnews:∀ j u,(#[iv se]:Array Value).toList[j]?=some u→(U3.alloc (.cells #[iv se] 33)).cell? ((qa U3.heap.size 0).add j)=some u:=World.news_of_block (heap_alloc_new U3 _)
          have HAp:Hid (∀ v' w3,(U3.alloc (.cells #[iv se] 33)).grownBy w3 (sv wd wn wc).ownBlock→w3.ownsRow V11.heap.size 33 1 v' (k+1) (ek.map (Value.int .i64) ++ (#[iv se]:Array Value).toList)→CurF f x w3 b (M.runF f (hs.take (k+1))).1 xn∧w3.ownsRow V11.heap.size 33 1 v' (k+1) ((M.runF f (hs.take (k+1))).2.map (Value.int .i64))∧RnL w B0 V11.heap.size g y o n11 (sv ad es.length cc) es w3):=fun v' w3 hg ho=>by
           have hb:=(Below.refl U3.heap.size U3).alloc (Nat.le_refl _) (.cells #[iv se] 33)
           have hr':=HR6.out.alloc (.cells #[iv se] 33)
           rw[HT.out]
           refine⟨(HC6.out.later hb).said hr' hg,?_,(HL6.out.later hb).said Hw1.out.1 hr' hg⟩
           rw[List.map_append];exact ho
          have hR6:=HR6.out
          have hB6:=HL6.out.sz
          clear HC6 HR6 HL6
          go_wp2_with (at_builtin;refine wpList_append_own _ rfl _ _ 48 rfl V11.heap.size 33 i0 (iv 0) 1 8 Tryz.underlying48 hi0 hz0 hz1 hz2 rfl (by decide) _ _ _ rfl (hR6.alloc _) ⟨U3.heap.size,0,none⟩ 1 1 (#[iv se]:Array Value).toList rfl rfl hnews (fun u hu=>by simp at hu;rcases hu with rfl;rfl) (by unfold maxLen;omega) (by omega) (by simp;omega) ?_;intro v' w3 hown' hgrow3 hnil3)
          go_roundw
          case rel =>
           obtain⟨j1,j2,j3⟩:=HAp.out _ _ hgrow3 hown'
           exact⟨k+1,xn,by omega,by go_num,j1,j2,j3⟩
          case measure=>simp[intOf];omega
        ·have hkl:k=hs.length:=by omega
         have hC:=HCk.out
         have hR:=HRw.out
         rw[hkl,List.take_length,HR.out] at hC hR
         have hel:es.length=hs.length:=by have:=run_len hs f;rw[HR.out] at this;exact this
         simp only at hC hR
         obtain⟨wd,wc,rfl⟩:=own_len hR
         rw[← hel] at hR
         have hL:=HLk.out
         obtain⟨sd,sc,hsd⟩:=own_len hL.sd
         cases hsd
         have hfk:=hC.at (HI.out wr hL.bel).1
         have KQ:Hid (Calls Tryz.prog 19 #[sv ad es.length cc,sv wd hs.length wc] wr fun e w'=>e=.returned (.bool true)∧Below wr.heap.size wr w'):=by
          rw[← hel];exact eqErrs_self es ad wd cc wc wr (row_errs hL.sd) (row_errs hR)
         have KY:Hid (∀ W,Below wr.heap.size wr W→Calls Tryz.prog 11 #[.agg (fq g y),.agg (fq g xk)] W fun e w'=>e=.returned (.bool true)∧Below W.heap.size W w'):=fun W hW=>sameFarm_self g y xk W (hL.og.at.later hW) (hfk.later hW)
         have HD:Hid (∀ W,Below wr.heap.size wr W→W.heap[b]?=some (.cells (fq g xk) 29 (0,0))∧W.heap[n11]?=some (.cells (fq g y) 29 (0,0))∧Below w.heap.size w W):=fun W hW=>⟨bl hW hC.blk,bl hW hL.b11,hL.bel.trans (hW.mono hL.bel.size)⟩
         have hlk:¬ (k:Int)<(hs.length:Int):=by omega
         clear HCk HRw HLk hC hR hL hfk hel HR hkl hk hlt hok hsz
         go_wp2_with (first
          | (go_at_call 19;refine KQ.out.mono ?_;rintro e W1 ⟨rfl,hb1⟩;have hq5:=(HD.out W1 hb1).1;have hq11:=(HD.out W1 hb1).2.1;obtain⟨c0,c1,c2,c3,c4,c5,c6,c7⟩:=cell8 hq5;have cl:=lt1 hq5;obtain⟨d0,d1,d2,d3,d4,d5,d6,d7⟩:=cell8 hq11;have dl:=lt1 hq11;clear hq5 hq11)
          | (go_at_call 11;refine (KY.out _ hb1).mono ?_;rintro e W2 ⟨rfl,hb2⟩))
         go_ret
         exact⟨rfl,(HD.out W2 (hb1.trans (hb2.mono hb1.size))).2.2⟩
      ·obtain⟨rfl,rfl⟩:g=M.farm0∧es=[]:=by have:=HS.out;rw[if_neg hE,Prod.mk.injEq] at this;exact this
       have hq11:=hQ.b11
       have KY:Hid (Calls Tryz.prog 11 #[.agg (fq M.farm0 y),.agg qz] V11 fun e w'=>e=.returned (.bool true)∧Below V11.heap.size V11 w'):=sameFarm_self M.farm0 y fd0 V11 hQ.ag (farm0_at V11)
       obtain⟨c0,c1,c2,c3,c4,c5,c6,c7⟩:=cell8 hq11
       have cl:=lt1 hq11
       clear hq11 hQ HQ HS HCk
       by_cases hc:cf=0
       ·subst hc
        have hl:(120:Int)<(hs.length:Int):=by
         by_cases h:120<hs.length
         ·omega
         ·exact absurd (by have:=HE.out;rw[if_neg h] at this;exact this) hE
        obtain rfl:E=2:=by have:=HE.out;rw[if_pos (by omega)] at this;exact this
        clear HE hE
        go_wp2_with (go_at_call 11;refine KY.out.mono ?_;rintro e V12 ⟨rfl,hb12⟩)
        go_ret
        exact⟨rfl,HBw.out.trans (hb12.mono HBw.out.size)⟩
       ·obtain rfl:E=cf:=by have:=HE.out;unfold M.orE at this;rwa [if_neg hc] at this
        have hne:(E==0)=false:=by simpa using hc
        have hne2:(E !=0)=true:=by simpa using hc
        have hee:(E==E)=true:=by simp
        clear HE hE hc
        go_wp2_with (go_at_call 11;refine KY.out.mono ?_;rintro e V12 ⟨rfl,hb12⟩)
        go_ret
        exact⟨rfl,HBw.out.trans (hb12.mono HBw.out.size)⟩
end Go.Proofs.YtebippbakbihiaaGreatDoor
