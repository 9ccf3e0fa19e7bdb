/-
  What is known of a farm that is right, and that whatever happens leaves it right: the mathematics. Whatever happens to a farm that is right leaves it right: the mathematics.
-/
import Derived.Test.YtebippbakbihiaaGreatDoorFmMM
namespace Go.Proofs.YtebippbakbihiaaGreatDoor.M
theorem orE_zero {a b:Int} : orE a b=0↔a=0∧b=0:=by
 unfold orE
 by_cases h:a=0
 ·simp[h]
 ·simp[h]
structure FarmOk (f:Farm):Prop where
 plan:checkPlan f.plan f.parts.length=0
 done:f.done.length=f.plan.length
 got:f.got.length=f.plan.length
 grants:f.grants.length=f.plan.length
 work1:1≤f.work.length
 work4:f.work.length≤4
 now0:0≤f.now
 now1:f.now≤65536
 net:f.net.length≤20
 parts:checkEach f.parts=0
 gots:checkEach f.got=0
 works:∀ n∈f.work,workOk f.plan.length n=true
 grts:∀ g∈f.grants,grantOk f.work.length g=true
 nets:∀ m∈f.net,msgOk f.work.length f.plan.length m=true∧checkPart m.p=0
theorem net_iff (wk nd:Nat):∀ l:List Msg,checkNet wk nd l=0↔∀ m∈l,msgOk wk nd m=true∧checkPart m.p=0
 | []=>by simp[checkNet]
 | m :: l=>by
  unfold checkNet
  by_cases h1:msgOk wk nd m=true
  ·by_cases h2:checkPart m.p=0
   ·rw[if_pos h1,if_pos h2,net_iff wk nd l];simp[h1,h2]
   ·rw[if_pos h1,if_neg h2];simp[h2]
  ·rw[if_neg h1];simp[h1]
theorem works_iff (nd:Nat) (l:List Int):checkWork nd l=0↔∀ n∈l,workOk nd n=true:=by
 unfold checkWork
 by_cases h:l.all (workOk nd)=true
 ·rw[if_pos h];simp only[true_iff];exact List.all_eq_true.1 h
 ·rw[if_neg h];constructor
  ·intro h';exact absurd h' (by decide)
  ·intro h';exact absurd (List.all_eq_true.2 h') h
theorem grants_iff (nk:Nat) (l:List Grt):checkGrants nk l=0↔∀ g∈l,grantOk nk g=true:=by
 unfold checkGrants
 by_cases h:l.all (grantOk nk)=true
 ·rw[if_pos h];simp only[true_iff];exact List.all_eq_true.1 h
 ·rw[if_neg h];constructor
  ·intro h';exact absurd h' (by decide)
  ·intro h';exact absurd (List.all_eq_true.2 h') h
theorem inR_iff (n a b:Int):inR n a b=true↔a≤n∧n≤b:=by simp[inR]
theorem farm_iff (f:Farm):checkFarm f=0↔FarmOk f:=by
 unfold checkFarm checkRest lens ranges
 rw[orE_zero]
 constructor
 ·rintro⟨h1,h2⟩
  cases h3:(f.done.length==f.plan.length&&(f.got.length==f.plan.length&&f.grants.length==f.plan.length))
  ·rw[h3,cond_false] at h2;exact absurd h2 (by decide)
  rw[h3,cond_true] at h2
  cases h4:(inR f.work.length 1 4&&inR f.now 0 65536)
  ·rw[h4,cond_false] at h2;exact absurd h2 (by decide)
  rw[h4,cond_true] at h2
  cases h5:decide (20<f.net.length)
  ·rw[h5,cond_false] at h2
   simp only[orE_zero,works_iff,grants_iff,net_iff] at h2
   simp only[Bool.and_eq_true,beq_iff_eq,inR_iff,decide_eq_false_iff_not] at h3 h4 h5
   exact⟨h1,h3.1,h3.2.1,h3.2.2,by omega,by omega,h4.2.1,h4.2.2,by omega,h2.1,h2.2.1,h2.2.2.1,h2.2.2.2.1,h2.2.2.2.2⟩
  ·rw[h5,cond_true] at h2;exact absurd h2 (by decide)
 ·intro h
  refine⟨h.plan,?_⟩
  have h3:(f.done.length==f.plan.length&&(f.got.length==f.plan.length&&f.grants.length==f.plan.length))=true:=by simp[h.done,h.got,h.grants]
  have h4:(inR f.work.length 1 4&&inR f.now 0 65536)=true:=by
   have:=h.work1;have:=h.work4
   simp only[Bool.and_eq_true,inR_iff];exact⟨⟨by omega,by omega⟩,h.now0,h.now1⟩
  have h5:decide (20<f.net.length)=false:=by have:=h.net;simp;omega
  rw[h3,h4,h5]
  simp only[cond_true,cond_false,orE_zero,works_iff,grants_iff,net_iff]
  exact⟨h.parts,h.gots,h.works,h.grts,h.nets⟩
theorem each_iff:∀ l:List Prt,checkEach l=0↔∀ p∈l,checkPart p=0
 | []=>by simp[checkEach]
 | p :: l=>by
  unfold checkEach
  by_cases h:checkPart p=0
  ·rw[if_pos h,each_iff l];simp[h]
  ·rw[if_neg h];simp[h]
theorem getD_mem' {α:Type} (l:List α) (d:α) (j:Nat) (h:j<l.length):l.getD j d∈l:=by
 rw[List.getD_eq_getElem?_getD,List.getElem?_eq_getElem h];exact List.getElem_mem h
theorem msg_of {wk nd:Nat} {k w n:Int} {p:Prt} (h1:1≤k∧k≤2) (h2:inR w 0 ((wk:Int) - 1)=true) (h3:0≤n∧n≤(nd:Int) - 1):msgOk wk nd ⟨k,w,n,p⟩=true:=by
 show (inR k 1 2&&(inR w 0 ((wk:Int) - 1)&&inR n 0 ((nd:Int) - 1)))=true
 rw[h2,(inR_iff _ _ _).2 h1,(inR_iff _ _ _).2 h3];rfl
theorem grant_of {wk:Nat} {w t:Int} (h2:0≤w∧w≤(wk:Int) - 1) (h3:0≤t∧t≤65541):grantOk wk ⟨w,t⟩=true:=by
 show (inR w 0 ((wk:Int) - 1)&&inR t 0 65541)=true
 rw[(inR_iff _ _ _).2 h2,(inR_iff _ _ _).2 h3];rfl
theorem idled_ok {f:Farm} (h:FarmOk f) (w:Int):FarmOk (idled f w):=by
 refine⟨h.plan,h.done,h.got,h.grants,by simpa [idled] using h.work1,by simpa [idled] using h.work4,h.now0,h.now1,h.net,h.parts,h.gots,?_,?_,?_⟩
 ·intro n hn
  rcases List.mem_or_eq_of_mem_set hn with hn | rfl
  ·exact h.works n hn
  ·rfl
 ·intro g hg;simpa [idled] using h.grts g hg
 ·intro m hm;simpa [idled] using h.nets m hm
theorem send_ok {f:Farm} (h:FarmOk f) (m:Msg) (hm:msgOk f.work.length f.plan.length m=true) (hp:checkPart m.p=0):FarmOk (send f m):=by
 unfold send
 by_cases hl:f.net.length<20
 ·rw[if_pos hl]
  refine⟨h.plan,h.done,h.got,h.grants,h.work1,h.work4,h.now0,h.now1,by simp;omega,h.parts,h.gots,h.works,h.grts,fun x hx=>?_⟩
  rcases List.mem_append.1 hx with hx | hx
  ·exact h.nets x hx
  ·rw[List.mem_singleton.1 hx];exact⟨hm,hp⟩
 ·rw[if_neg hl];exact h
theorem grant_ok {f:Farm} (h:FarmOk f) (n:Nat) (g:Grt) (hg:grantOk f.work.length g=true):FarmOk { f with grants:=f.grants.set n g }:=by
 refine⟨h.plan,h.done,h.got,by simpa using h.grants,h.work1,h.work4,h.now0,h.now1,h.net,h.parts,h.gots,h.works,fun x hx=>?_,h.nets⟩
 rcases List.mem_or_eq_of_mem_set hx with hx | rfl
 ·exact h.grts x hx
 ·exact hg
theorem nil_ok:checkPart nil=0:=(ok_iff nil).2 ok_nil
theorem ready_mem {l:List Nd} {d:List Bool} {n:Int} (h:n∈ready l d):0≤n∧n<l.length:=by
 unfold ready readyUpto at h
 obtain⟨k,hk,rfl⟩:=List.mem_map.1 h
 have:=List.mem_range.1 (List.mem_filter.1 hk).1
 exact⟨Int.natCast_nonneg _,by simp;omega⟩
theorem give_ok {f:Farm} (h:FarmOk f) (w:Int) (hw:inR w 0 ((f.work.length:Int) - 1)=true):FarmOk (give f w).1:=by
 unfold give
 cases hf:(ready f.plan f.done).find? (freeAt f) with
 | none=>exact h
 | some n =>
  have hn:=ready_mem (List.mem_of_find?_eq_some hf)
  have h0:=h.now0
  have h1:=h.now1
  refine send_ok (grant_ok h n.toNat ⟨w,f.now+5⟩ ?_) _ ?_ nil_ok
  ·exact grant_of ((inR_iff _ _ _).1 hw) ⟨by omega,by omega⟩
  ·exact msg_of ⟨by omega,by omega⟩ hw ⟨hn.1,by show n≤(f.plan.length:Int) - 1;omega⟩
theorem madeP_ok {f:Farm} (h:FarmOk f) (n:Nat) (hl:(f.plan.getD n nd0).leaf≠-1→0≤(f.plan.getD n nd0).leaf∧(f.plan.getD n nd0).leaf<f.parts.length) (hm:(madeP f n).2=true):checkPart (madeP f n).1=0:=by
 unfold madeP at hm ⊢
 by_cases hle:(f.plan.getD n nd0).leaf=-1
 ·rw[if_pos hle] at hm ⊢
  by_cases hd:(f.done.getD (f.plan.getD n nd0).left.toNat false&&f.done.getD (f.plan.getD n nd0).right.toNat false)=true
  ·rw[if_pos hd] at hm ⊢
   have hj:(join (f.got.getD (f.plan.getD n nd0).left.toNat nil) (f.got.getD (f.plan.getD n nd0).right.toNat nil)).2=0:=by simpa using hm
   exact (ok_iff _).2 (join_ok hj).2.2.2.2
  ·rw[if_neg hd] at hm;cases hm
 ·rw[if_neg hle]
  have:=hl hle
  exact (each_iff _).1 h.parts _ (getD_mem' _ _ _ (by omega))
theorem taken_ok {f:Farm} (h:FarmOk f) (k:Nat):FarmOk (taken f k):=by
 refine⟨h.plan,h.done,h.got,h.grants,h.work1,h.work4,h.now0,h.now1,?_,h.parts,h.gots,h.works,h.grts,fun x hx=>h.nets x (List.mem_of_mem_eraseIdx hx)⟩
 have:=h.net
 have h2:=List.length_eraseIdx_le f.net k
 show (f.net.eraseIdx k).length≤20
 omega
theorem arrive_ok {f:Farm} (h:FarmOk f) (m:Msg) (hm:msgOk f.work.length f.plan.length m=true) (hp:checkPart m.p=0):FarmOk (arriveM f m):=by
 unfold arriveM
 unfold msgOk at hm
 simp only[Bool.and_eq_true,inR_iff] at hm
 by_cases h1:m.kind=1
 ·rw[if_pos h1]
  by_cases h2:f.work.getD m.worker.toNat 0=-1
  ·rw[if_pos h2]
   refine⟨h.plan,h.done,h.got,h.grants,by simpa using h.work1,by simpa using h.work4,h.now0,h.now1,h.net,h.parts,h.gots,?_,?_,?_⟩
   ·intro n hn
    rcases List.mem_or_eq_of_mem_set hn with hn | rfl
    ·exact h.works n hn
    ·unfold workOk;rw[(inR_iff _ _ _).2 hm.2.2];simp
   ·intro g hg;simpa using h.grts g hg
   ·intro x hx;simpa using h.nets x hx
  ·rw[if_neg h2];exact h
 ·rw[if_neg h1]
  by_cases h2:m.kind=2
  ·rw[if_pos h2]
   by_cases h3:f.done.getD m.n.toNat false=false
   ·rw[if_pos h3]
    refine⟨h.plan,by simpa using h.done,by simpa using h.got,by simpa using h.grants,h.work1,h.work4,h.now0,h.now1,h.net,h.parts,(each_iff _).2 fun p hp'=>?_,h.works,fun g hg=>?_,h.nets⟩
    ·rcases List.mem_or_eq_of_mem_set hp' with hp' | rfl
     ·exact (each_iff _).1 h.gots p hp'
     ·exact hp
    ·rcases List.mem_or_eq_of_mem_set hg with hg | rfl
     ·exact h.grts g hg
     ·have h1:=h.work1
      exact grant_of ⟨Int.le_refl 0,by show (0:Int)≤(f.work.length:Int) - 1;omega⟩ ⟨Int.le_refl 0,by omega⟩
   ·rw[if_neg h3];exact h
  ·rw[if_neg h2];exact h
theorem finish_ok {f:Farm} (h:FarmOk f) (w:Int) (hw:inR w 0 ((f.work.length:Int) - 1)=true) (hl:∀ n,n<f.plan.length→(f.plan.getD n nd0).leaf≠-1→0≤(f.plan.getD n nd0).leaf∧(f.plan.getD n nd0).leaf<f.parts.length):FarmOk (finish f w).1:=by
 have hw':=(inR_iff _ _ _).1 hw
 have hwk:=h.works _ (getD_mem' f.work 0 w.toNat (by omega))
 unfold finish
 by_cases h1:f.work.getD w.toNat 0=-1
 ·rw[if_pos h1];exact h
 ·rw[if_neg h1]
  have hn:0≤f.work.getD w.toNat 0∧f.work.getD w.toNat 0≤(f.plan.length:Int) - 1:=by
   unfold workOk at hwk
   rw[Bool.or_eq_true,beq_iff_eq] at hwk
   rcases hwk with hwk | hwk
   ·exact absurd hwk h1
   ·exact (inR_iff _ _ _).1 hwk
  show FarmOk (if (madeP f (f.work.getD w.toNat 0).toNat).2=true then send (idled f w) ⟨2,w,f.work.getD w.toNat 0,(madeP f (f.work.getD w.toNat 0).toNat).1⟩ else idled f w)
  by_cases h2:(madeP f (f.work.getD w.toNat 0).toNat).2=true
  ·rw[if_pos h2]
   refine send_ok (idled_ok h w) _ ?_ (madeP_ok h _ (hl _ (by omega)) h2)
   have e1:(idled f w).work.length=f.work.length:=by simp[idled]
   exact msg_of ⟨by omega,by omega⟩ (by rw[e1];exact hw) hn
  ·rw[if_neg h2];exact idled_ok h w
theorem happen_ok {f:Farm} (h:FarmOk f) (hl:∀ n,n<f.plan.length→(f.plan.getD n nd0).leaf≠-1→0≤(f.plan.getD n nd0).leaf∧(f.plan.getD n nd0).leaf<f.parts.length) (x:Hap):FarmOk (happen f x).1:=by
 unfold happen
 by_cases h1:x.kind=1∨x.kind=2∨x.kind=7
 ·rw[if_pos h1]
  unfold happenAt
  cases hw:inR x.worker 0 ((f.work.length:Int) - 1)
  ·exact h
  ·rw[cond_true]
   by_cases h2:x.kind=1
   ·rw[if_pos h2];exact give_ok h _ hw
   ·rw[if_neg h2]
    by_cases h3:x.kind=2
    ·rw[if_pos h3];exact finish_ok h _ hw hl
    ·rw[if_neg h3];exact idled_ok h _
 ·rw[if_neg h1]
  by_cases h2:x.kind=3∨x.kind=4∨x.kind=5
  ·rw[if_pos h2]
   unfold happenTo
   cases hk:inR x.k 0 ((f.net.length:Int) - 1)
   ·exact h
   ·rw[cond_true]
    have hk':=(inR_iff _ _ _).1 hk
    have hm:=h.nets _ (getD_mem' f.net msg0 x.k.toNat (by omega))
    by_cases h3:x.kind=5
    ·rw[if_pos h3]
     by_cases h4:20≤f.net.length
     ·rw[if_pos h4];exact h
     ·rw[if_neg h4]
      have:=send_ok h _ hm.1 hm.2
      unfold send at this
      rw[if_pos (by omega)] at this
      exact this
    ·rw[if_neg h3]
     by_cases h4:x.kind=3
     ·rw[if_pos h4];exact arrive_ok (taken_ok h _) _ hm.1 hm.2
     ·rw[if_neg h4];exact taken_ok h _
  ·rw[if_neg h2]
   by_cases h3:x.kind=6
   ·rw[if_pos h3]
    by_cases h4:f.now=65536
    ·rw[if_pos h4];exact h
    ·rw[if_neg h4]
     have h0:=h.now0
     have h5:=h.now1
     exact⟨h.plan,h.done,h.got,h.grants,h.work1,h.work4,by show 0≤f.now+1;omega,by show f.now+1≤65536;omega,h.net,h.parts,h.gots,h.works,h.grts,h.nets⟩
   ·rw[if_neg h3]
    by_cases h4:x.kind=8
    ·rw[if_pos h4]
     have h5:=h.work1
     refine⟨h.plan,h.done,h.got,by simpa using h.grants,h.work1,h.work4,h.now0,h.now1,h.net,h.parts,h.gots,h.works,fun g hg=>?_,h.nets⟩
     rw[List.eq_of_mem_replicate hg]
     exact grant_of ⟨Int.le_refl 0,by show (0:Int)≤(f.work.length:Int) - 1;omega⟩ ⟨Int.le_refl 0,by omega⟩
    ·rw[if_neg h4];exact h
end Go.Proofs.YtebippbakbihiaaGreatDoor.M
