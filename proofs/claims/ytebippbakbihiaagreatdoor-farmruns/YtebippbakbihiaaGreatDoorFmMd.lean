/-
  The contract of farm.made. The contract of farm.made.
-/
import Derived.Test.YtebippbakbihiaaGreatDoorFmSn
import Derived.Deep.QuietTactic
namespace Go.Proofs.YtebippbakbihiaaGreatDoor
open Go Go.RowKit
set_option linter.unusedVariables false
attribute [local go_sem] lat_cell
theorem wp_skipW {P:Program} {o:Oper} {a:Act} {w:World} {K:Act→World→Prop} {Q:Exit→Act→World→Prop} (w':World) (h:(execOp a.eval o).run P w=.ok .skip w') (hk:K (a.put o.dst undef) w'):o.wp P a w K Q:=by
 unfold Oper.wp
 rw[h]
 exact hk
theorem PartsAt.cells {w:World} {a:Option Addr} {c:Nat} {l:List M.Prt} (h:PartsAt w (sv a l.length c) l) (k:Nat) (hk:k<l.length) :
  ∃ b off x1 y1 x2 y2,a=some (qa b off)∧w.cell? (qa b (off+k*2))=some (sv x1 (l.getD k M.nil).frags.length y1)∧w.cell? (qa b (off+k*2+1))=some (sv x2 (l.getD k M.nil).defs.length y2)
   ∧ FragsAt w (sv x1 (l.getD k M.nil).frags.length y1) (l.getD k M.nil).frags∧DefsAt w (sv x2 (l.getD k M.nil).defs.length y2) (l.getD k M.nil).defs:=by
 obtain⟨cell,hs,hc⟩:=h
 obtain⟨b,off,rfl,hce⟩:=hs.at k hk
 obtain⟨hF,hD⟩:=hc k hk
 have e0:=hce 0 (by decide)
 have e1:=hce 1 (by decide)
 rw[Nat.add_zero] at e0
 obtain⟨x1,y1,hx1⟩:=hF.form
 obtain⟨x2,y2,hx2⟩:=hD.form
 rw[hx1] at e0 hF
 rw[hx2] at e1 hD
 exact⟨b,off,x1,y1,x2,y2,rfl,e0,e1,hF,hD⟩
def mdR (B N b nd hb ho lf rt:Nat) (f:M.Farm) (x:Fd) (A C:M.Prt) (x1 x2 x3 x4:Option Addr) (y1 y2 y3 y4:Nat) (j:Nat) (W:World) (u:Value):Prop :=
 match j with
 | 0=>u=.pointer (some (qa b 0))
 | 1=>u=.pointer (some (qa b 0))
 | 2=>u=.pointer (some (qa b 4))
 | 3=>u=sv (some (qa hb ho)) f.got.length x.hc
 | 4=>u=.pointer (some (qa nd 1))
 | 5=>u=iv (lf:Nat)
 | 6=>u=.pointer (some (qa hb (ho+lf*2)))
 | 7=>u=.agg #[sv x1 A.frags.length y1,sv x2 A.defs.length y2]
 | 8=>u=.pointer (some (qa b 0))
 | 9=>u=.pointer (some (qa b 0))
 | 10=>u=.pointer (some (qa b 4))
 | 11=>u=sv (some (qa hb ho)) f.got.length x.hc
 | 12=>u=.pointer (some (qa nd 2))
 | 13=>u=iv (rt:Nat)
 | 14=>u=.pointer (some (qa hb (ho+rt*2)))
 | 15=>u=.agg #[sv x3 C.frags.length y3,sv x4 C.defs.length y4]
 | 16=>∃ vF vD,u=.tuple #[.agg #[vF,vD],iv (M.join A C).2]∧POwn W B ⟨(M.join A C).1,vF,vD⟩
 | 17=>∃ vF vD,u=.tuple #[.agg #[vF,vD],iv (M.join A C).2]∧POwn W B ⟨(M.join A C).1,vF,vD⟩
 | 18=>∃ vF vD,u=.agg #[vF,vD]∧POwn W B ⟨(M.join A C).1,vF,vD⟩
 | 19=>u=iv (M.join A C).2
 | 20=>∃ g c0 c1,u=.pointer (some (qa g 0))∧N≤g∧W.heap[g]?=some (.cells #[c0,c1] 39 (0,0))
 | 21=>∃ g vF vD,u=.tuple #[.pointer (some (qa g 0))]∧N≤g∧W.heap[g]?=some (.cells #[vF,vD] 39 (0,0))∧POwn W B ⟨(M.join A C).1,vF,vD⟩
 | _=>False
theorem mdR_later {B N b nd hb ho lf rt:Nat} {f:M.Farm} {x:Fd} {A C:M.Prt} {x1 x2 x3 x4:Option Addr} {y1 y2 y3 y4:Nat} {W X:World} (hbl:Below W.heap.size W X):∀ j u,mdR B N b nd hb ho lf rt f x A C x1 x2 x3 x4 y1 y2 y3 y4 j W u→mdR B N b nd hb ho lf rt f x A C x1 x2 x3 x4 y1 y2 y3 y4 j X u:=by
 intro j u h
 match j,h with
 | 0,h=>exact h
 | 1,h=>exact h
 | 2,h=>exact h
 | 3,h=>exact h
 | 4,h=>exact h
 | 5,h=>exact h
 | 6,h=>exact h
 | 7,h=>exact h
 | 8,h=>exact h
 | 9,h=>exact h
 | 10,h=>exact h
 | 11,h=>exact h
 | 12,h=>exact h
 | 13,h=>exact h
 | 14,h=>exact h
 | 15,h=>exact h
 | 19,h=>exact h
 | 16,h=>obtain⟨vF,vD,h1,h2⟩:=h;exact⟨vF,vD,h1,h2.later hbl⟩
 | 17,h=>obtain⟨vF,vD,h1,h2⟩:=h;exact⟨vF,vD,h1,h2.later hbl⟩
 | 18,h=>obtain⟨vF,vD,h1,h2⟩:=h;exact⟨vF,vD,h1,h2.later hbl⟩
 | 20,h=>obtain⟨g,c0,c1,h1,h2,h3⟩:=h;exact⟨g,c0,c1,h1,h2,(hbl.block _ (lt1 h3)).trans h3⟩
 | 21,h=>obtain⟨g,vF,vD,h1,h2,h3,h4⟩:=h;exact⟨g,vF,vD,h1,h2,(hbl.block _ (lt1 h3)).trans h3,h4.later hbl⟩
theorem mdR_none {B N b nd hb ho lf rt:Nat} {f:M.Farm} {x:Fd} {A C:M.Prt} {x1 x2 x3 x4:Option Addr} {y1 y2 y3 y4:Nat} {W:World} {j:Nat} {u:Value} (h:21<j) (hR:mdR B N b nd hb ho lf rt f x A C x1 x2 x3 x4 y1 y2 y3 y4 j W u):False:=by
 unfold mdR at hR
 split at hR
 all_goals first | omega | exact hR
end Go.Proofs.YtebippbakbihiaaGreatDoor
namespace Go.Proofs.YtebippbakbihiaaGreatDoor
open Go Go.RowKit
set_option linter.unusedVariables false
attribute [local go_sem] lat_cell
theorem node_leaf {f:M.Farm} (hok:M.FarmOk f) {n:Nat} (hn:n<f.plan.length) (h:(f.plan.getD n M.nd0).leaf≠-1):0≤(f.plan.getD n M.nd0).leaf∧(f.plan.getD n M.nd0).leaf<f.parts.length:=by
 obtain⟨_,_,_,hfit,_,_⟩:=check_ok hok.plan
 have:=fits_at f.parts.length f.plan 0 n hfit hn
 unfold M.fits at this
 have he:((f.plan.getD n M.nd0).leaf==-1)=false:=by simpa using h
 rw[he,cond_false] at this
 simp only[Bool.and_eq_true,decide_eq_true_eq] at this
 omega
theorem node_inner {f:M.Farm} (hok:M.FarmOk f) {n:Nat} (hn:n<f.plan.length) (h:(f.plan.getD n M.nd0).leaf=-1):(0≤(f.plan.getD n M.nd0).left∧(f.plan.getD n M.nd0).left<n)∧0≤(f.plan.getD n M.nd0).right∧(f.plan.getD n M.nd0).right<n:=by
 obtain⟨_,_,_,hfit,_,_⟩:=check_ok hok.plan
 exact behind_of hfit n hn (by simpa using h)
set_option maxHeartbeats 16000000 in
set_option maxRecDepth 100000 in
theorem made_any {B b:Nat} {f:M.Farm} {x:Fd} {o:Fo} (w:World) (hO:FmO B w b f x o) (hB:B≤w.heap.size) (hok:M.FarmOk f) (n:Nat) (hn:n<f.plan.length) :
  Calls Tryz.prog 120 #[.pointer (some (qa b 0)),iv n] w fun e w'=>Below w.heap.size w w'∧∃ x1 y1 x2 y2,e=.returned (.tuple #[.agg #[sv x1 (M.madeP f n).1.frags.length y1,sv x2 (M.madeP f n).1.defs.length y2],.bool (M.madeP f n).2])∧POwn w' B ⟨(M.madeP f n).1,sv x1 (M.madeP f n).1.frags.length y1,sv x2 (M.madeP f n).1.defs.length y2⟩:=by
 have hnd:=hO.at.plan.cells n hn
 obtain⟨lb,lo,hl,n0,n1,n2⟩:=hnd
 have hMP:M.madeP f n=if (f.plan.getD n M.nd0).leaf=-1 then (if (f.done.getD (f.plan.getD n M.nd0).left.toNat false&&f.done.getD (f.plan.getD n M.nd0).right.toNat false)=true then ((M.join (f.got.getD (f.plan.getD n M.nd0).left.toNat M.nil) (f.got.getD (f.plan.getD n M.nd0).right.toNat M.nil)).1,(M.join (f.got.getD (f.plan.getD n M.nd0).left.toNat M.nil) (f.got.getD (f.plan.getD n M.nd0).right.toNat M.nil)).2==0) else (M.nil,false)) else (f.parts.getD (f.plan.getD n M.nd0).leaf.toNat M.nil,true):=rfl
 have hlf:=node_leaf hok hn
 have hin:=node_inner hok hn
 have hll:f.plan.length≤23:=(farm_small hok).1
 generalize f.plan.getD n M.nd0=nd at *
 obtain⟨lf,le,ri⟩:=nd
 simp only at n0 n1 n2 hMP hlf hin
 have HMP:Hid (M.madeP f n=if lf=-1 then (if (f.done.getD le.toNat false&&f.done.getD ri.toNat false)=true then ((M.join (f.got.getD le.toNat M.nil) (f.got.getD ri.toNat M.nil)).1,(M.join (f.got.getD le.toNat M.nil) (f.got.getD ri.toNat M.nil)).2==0) else (M.nil,false)) else (f.parts.getD lf.toNat M.nil,true)):=hMP
 clear hMP
 have hA:Below w.heap.size w ((w.alloc (.cells #[sv none 0 0,sv none 0 0] 39)).alloc (.cells #[iv lf,iv le,iv ri] 75)):=((Below.refl _ _).alloc (Nat.le_refl _) _).alloc (by simp) _
 have HA:Hid (Below w.heap.size w ((w.alloc (.cells #[sv none 0 0,sv none 0 0] 39)).alloc (.cells #[iv lf,iv le,iv ri] 75))):=hA
 have hr0:=(heap_alloc_old (w.alloc (.cells #[sv none 0 0,sv none 0 0] 39)) (.cells #[iv lf,iv le,iv ri] 75) (by simp)).trans (heap_alloc_new w (.cells #[sv none 0 0,sv none 0 0] 39))
 have hn0:=heap_alloc_new (w.alloc (.cells #[sv none 0 0,sv none 0 0] 39)) (.cells #[iv lf,iv le,iv ri] 75)
 rw[show (w.alloc (.cells #[sv none 0 0,sv none 0 0] 39)).heap.size=w.heap.size+1 by simp] at hn0
 have hO1:=hO.later hA
 have c1:w.cell? (qa b 1)=some (sv (some (qa lb lo)) f.plan.length x.lc):=by rw[← hl];exact cellB hO.blk 1
 have lbw:=lt1 hO.blk
 have llb:lb<w.heap.size:=World.block_lt_of_cell? _ _ n0
 have hnI:(n:Int)<(f.plan.length:Int):=by omega
 clear hO hA
 go_enter Tryz.func120,Tryz.ntmps120
 go_upto_region 2 with fail
 obtain⟨rs,hrs⟩:∃ rs,rs=w.heap.size:=⟨_,rfl⟩
 obtain⟨nd,hnd⟩:∃ nd,nd=w.heap.size+1:=⟨_,rfl⟩
 have Hrs:Hid (rs=w.heap.size):=hrs
 have hrn:rs<nd:=by omega
 rw[← hnd] at hn0 ⊢
 rw[← hrs] at hr0 ⊢
 clear n0 n1 n2 c1
 generalize (w.alloc (.cells #[sv none 0 0,sv none 0 0] 39)).alloc (.cells #[iv lf,iv le,iv ri] 75)=Y at *
 clear hrs hnd
 have n0:=cellC hn0 0 rfl
 have n1:=cellC hn0 1 rfl
 have n2:=cellC hn0 2 rfl
 have lnd:=lt1 hn0
 have lbY:=lt1 hO1.blk
 by_cases hle:lf=-1
 ·obtain⟨⟨hl0,hl1⟩,hr0',hr1⟩:=hin hle
  obtain⟨le,rfl⟩:∃ m:Nat,le=m:=⟨le.toNat,by omega⟩
  obtain⟨ri,rfl⟩:∃ m:Nat,ri=m:=⟨ri.toNat,by omega⟩
  have hleb:(lf !=-1)=false:=by simp[hle]
  have HM1:Hid (M.madeP f n=if (f.done.getD le false&&f.done.getD ri false)=true then ((M.join (f.got.getD le M.nil) (f.got.getD ri M.nil)).1,(M.join (f.got.getD le M.nil) (f.got.getD ri M.nil)).2==0) else (M.nil,false)):=by rw[Hid,HMP.out,if_pos hle];simp
  clear HMP hlf hin hle
  have hdl:=hok.done
  have hgl:=hok.got
  obtain⟨db,dof,hd0,dl,ld⟩:=hO1.at.done.cell le (by omega)
  obtain⟨db2,dof2,hd0',dr,_⟩:=hO1.at.done.cell ri (by omega)
  rw[hd0] at hd0'
  cases hd0'
  have c3:Y.cell? (qa b 3)=some (sv (some (qa db dof)) f.done.length x.dc):=by rw[← hd0];exact cellB hO1.blk 3
  have hleI:(le:Int)<(f.done.length:Int):=by omega
  have hriI:(ri:Int)<(f.done.length:Int):=by omega
  clear hdl hgl
  cases hdL:f.done.getD le false
  ·rw[hdL] at dl
   have HM2:Hid (M.madeP f n=(M.nil,false)):=by rw[Hid,HM1.out,hdL];rfl
   have r0:=cellC hr0 0 rfl
   have r1:=cellC hr0 1 rfl
   have rf:=frozenB hr0
   have lrs:=lt1 hr0
   clear HM1 dr hdL
   go_upto_region 4 with fail
   go_quiet (fail)
   go_upto_region 5 with fail
   have hq:Below Y.heap.size Y (Y.drewN nq):=below_drewN' _ _ nq
   have hr1':=(hq.block _ lrs).trans hr0
   generalize Y.drewN nq=Z at *
   have HZ:Hid (Below w.heap.size w Z):=HA.out.trans (hq.mono HA.out.size)
   clear r0 r1 rf hq
   have r0:=cellC hr1' 0 rfl
   have r1:=cellC hr1' 1 rfl
   have rf:∀ i,Z.frozen? (qa rs i)=false:=frozenB hr1'
   have lrz:=lt1 hr1'
   have hz2:((Z.setCell (qa rs 0) (sv none 0 0)).setCell (qa rs 1) (sv none 0 0)).heap[rs]?=some (.cells #[sv none 0 0,sv none 0 0] 39 (0,0)):=setB' (setB' hr1' _) _
   have HB2:Hid (Below w.heap.size w ((Z.setCell (qa rs 0) (sv none 0 0)).setCell (qa rs 1) (sv none 0 0))):=(HZ.out.setCell (by show w.heap.size≤rs;rw[Hrs.out];exact Nat.le_refl _) _).setCell (by show w.heap.size≤rs;rw[Hrs.out];exact Nat.le_refl _) _
   clear hr1' hr0
   go_wp2_with fail
   have t0:=cellC hz2 0 rfl
   have t1:=cellC hz2 1 rfl
   refine bodyPost_ret (v:=.tuple #[.agg #[sv none 0 0,sv none 0 0],.bool false]) (by simp[results,Tryz.results120,go_sem,t0,t1]) rfl ?_
   rw[HM2.out]
   exact⟨HB2.out,none,0,none,0,rfl,[],PR.nil _ _,rfl⟩
  ·cases hdR:f.done.getD ri false
   ·rw[hdL] at dl
    rw[hdR] at dr
    have HM2:Hid (M.madeP f n=(M.nil,false)):=by rw[Hid,HM1.out,hdL,hdR];rfl
    have r0:=cellC hr0 0 rfl
    have r1:=cellC hr0 1 rfl
    have rf:=frozenB hr0
    have lrs:=lt1 hr0
    clear HM1 hdL hdR
    go_upto_region 4 with fail
    go_quiet (fail)
    go_upto_region 5 with fail
    have hq:Below Y.heap.size Y (Y.drewN nq):=below_drewN' _ _ nq
    have hr1':=(hq.block _ lrs).trans hr0
    generalize Y.drewN nq=Z at *
    have HZ:Hid (Below w.heap.size w Z):=HA.out.trans (hq.mono HA.out.size)
    clear r0 r1 rf hq
    have r0:=cellC hr1' 0 rfl
    have r1:=cellC hr1' 1 rfl
    have rf:∀ i,Z.frozen? (qa rs i)=false:=frozenB hr1'
    have lrz:=lt1 hr1'
    have hz2:((Z.setCell (qa rs 0) (sv none 0 0)).setCell (qa rs 1) (sv none 0 0)).heap[rs]?=some (.cells #[sv none 0 0,sv none 0 0] 39 (0,0)):=setB' (setB' hr1' _) _
    have HB2:Hid (Below w.heap.size w ((Z.setCell (qa rs 0) (sv none 0 0)).setCell (qa rs 1) (sv none 0 0))):=(HZ.out.setCell (by show w.heap.size≤rs;rw[Hrs.out];exact Nat.le_refl _) _).setCell (by show w.heap.size≤rs;rw[Hrs.out];exact Nat.le_refl _) _
    clear hr1' hr0
    go_wp2_with fail
    have t0:=cellC hz2 0 rfl
    have t1:=cellC hz2 1 rfl
    refine bodyPost_ret (v:=.tuple #[.agg #[sv none 0 0,sv none 0 0],.bool false]) (by simp[results,Tryz.results120,go_sem,t0,t1]) rfl ?_
    rw[HM2.out]
    exact⟨HB2.out,none,0,none,0,rfl,[],PR.nil _ _,rfl⟩
   ·rw[hdL] at dl
    rw[hdR] at dr
    have HM2:Hid (M.madeP f n=((M.join (f.got.getD le M.nil) (f.got.getD ri M.nil)).1,(M.join (f.got.getD le M.nil) (f.got.getD ri M.nil)).2==0)):=by rw[Hid,HM1.out,hdL,hdR];rfl
    clear HM1 hdL hdR
    go_upto_region 4 with fail
    go_quiet (fail)
    go_upto_region 6 with fail
    have hq:Below Y.heap.size Y (Y.drewN nq):=below_drewN' _ _ nq
    have hOZ:=hO1.later hq
    have hrZ:=(hq.block _ (lt1 hr0)).trans hr0
    have hnZ:=(hq.block _ lnd).trans hn0
    have HZ:Hid (Below w.heap.size w (Y.drewN nq)):=HA.out.trans (hq.mono HA.out.size)
    generalize Y.drewN nq=Z at *
    clear hq hO1 hr0 hn0 n0 n1 n2 c3 dl dr lnd lbY
    have hBZ:B≤Z.heap.size:=Nat.le_trans hB HZ.out.size
    have hgl:=hok.got
    have hgl1:(le:Int)<(f.got.length:Int):=by omega
    have hgr1:(ri:Int)<(f.got.length:Int):=by omega
    obtain⟨hb,ho,x1,y1,x2,y2,hh,e0,e1,hFA,hDA⟩:=hOZ.at.got.cells le (by omega)
    obtain⟨hb',ho',x3,y3,x4,y4,hh',e2,e3,hFC,hDC⟩:=hOZ.at.got.cells ri (by omega)
    rw[hh] at hh'
    cases hh'
    have c4:Z.cell? (qa b 4)=some (sv (some (qa hb ho)) f.got.length x.hc):=by rw[← hh];exact cellB hOZ.blk 4
    generalize f.got.getD le M.nil=A at *
    generalize f.got.getD ri M.nil=C at *
    have n1:=cellC hnZ 1 rfl
    have n2:=cellC hnZ 2 rfl
    have hstay:∀ W,Below Z.heap.size Z W→(W.cell? (qa b 4)=some (sv (some (qa hb ho)) f.got.length x.hc)∧W.cell? (qa nd 1)=some (iv le)∧W.cell? (qa nd 2)=some (iv ri))∧(W.cell? (qa hb (ho+le*2))=some (sv x1 A.frags.length y1)∧W.cell? (qa hb (ho+le*2+1))=some (sv x2 A.defs.length y2)∧W.cell? (qa hb (ho+ri*2))=some (sv x3 C.frags.length y3)∧W.cell? (qa hb (ho+ri*2+1))=some (sv x4 C.defs.length y4))∧(FragsAt W (sv x1 A.frags.length y1) A.frags∧DefsAt W (sv x2 A.defs.length y2) A.defs∧FragsAt W (sv x3 C.frags.length y3) C.frags∧DefsAt W (sv x4 C.defs.length y4) C.defs)∧B≤W.heap.size:=fun W hW=>⟨⟨cell_later hW c4,cell_later hW n1,cell_later hW n2⟩,⟨cell_later hW e0,cell_later hW e1,cell_later hW e2,cell_later hW e3⟩,⟨hFA.later hW,hDA.later hW,hFC.later hW,hDC.later hW⟩,Nat.le_trans hBZ hW.size⟩
    clear c4 n1 n2 e0 e1 e2 e3 hFA hDA hFC hDC
    refine wp_region_rel 22 (fun _ W=>Below Z.heap.size Z W) (fun v=>⟨#[.pointer (some (qa b 0)),iv n,undef,undef,.pointer (some (qa rs 0)),.bool false,.pointer (some (qa nd 0)),v 20,undef,.pointer (some (qa b 0)),.pointer (some (qa b 0)),.pointer (some (qa b 1)),sv (some (qa lb lo)) f.plan.length x.lc,iv n,.pointer (some (qa lb (lo+n*3))),.agg #[iv lf,iv le,iv ri],.pointer (some (qa nd 0)),iv lf,.bool false,undef,undef,undef,undef,undef,undef,undef,undef,undef,.pointer (some (qa b 0)),.pointer (some (qa b 0)),.pointer (some (qa b 3)),sv (some (qa db dof)) f.done.length x.dc,.pointer (some (qa nd 1)),iv le,.pointer (some (qa db (dof+le))),.bool true,.bool false,.bool false,.pointer (some (qa b 0)),.pointer (some (qa b 0)),.pointer (some (qa b 3)),sv (some (qa db dof)) f.done.length x.dc,.pointer (some (qa nd 2)),iv ri,.pointer (some (qa db (dof+ri))),.bool true,.bool false,.bool false,undef,v 17,v 0,v 1,v 2,v 3,v 4,v 5,v 6,v 7,v 8,v 9,v 10,v 11,v 12,v 13,v 14,v 15,v 16,v 18,v 19,undef,undef,undef],[]⟩) (mdR B Z.heap.size b nd hb ho le ri f x A C x1 x2 x3 x4 y1 y2 y3 y4) (fun j k u x=>j=21→k=20→u=.tuple #[x]) (by kernel_rfl) (by kernel_rfl) (Below.refl _ _).drew ⟨fun _=>undef,rfl⟩ ?_ ?_
    ·intro j op hj ho
     rcases (by omega:j=0∨j=1∨j=2∨j=3∨j=4∨j=5∨j=6∨j=7∨j=8∨j=9∨j=10∨j=11∨j=12∨j=13∨j=14∨j=15∨j=16∨j=17∨j=18∨j=19∨j=20∨j=21) with rfl | rfl | rfl | rfl | rfl | rfl | rfl | rfl | rfl | rfl | rfl | rfl | rfl | rfl | rfl | rfl | rfl | rfl | rfl | rfl | rfl | rfl
     all_goals cases ho
     all_goals refine relStep_of rfl rfl ?_
     all_goals rintro sd v W hC hin hsd hdep hdz
     all_goals obtain⟨⟨c4,n1,n2⟩,⟨e0,e1,e2,e3⟩,⟨hFA,hDA,hFC,hDC⟩,hBW⟩:=hstay W hC
     ·exact wp_val (.pointer (some (qa b 0))) (by simp[execOp,Act.eval,go_sem]) ⟨_,rfl,hC,fun _ _ _ _ h=>h,rfl,fun k hk _ hz=>⟨fun h=>absurd h (by omega),fun _ h=>absurd h (by omega)⟩⟩
     ·have hv:v 0=.pointer (some (qa b 0)):=hdep ⟨0,.data⟩ (by simp) rfl
      exact wp_val (.pointer (some (qa b 0))) (by simp[execOp,Act.eval,go_sem,hv]) ⟨_,rfl,hC,fun _ _ _ _ h=>h,rfl,fun k hk _ hz=>⟨fun h=>absurd h (by omega),fun _ h=>absurd h (by omega)⟩⟩
     ·have hv:v 1=.pointer (some (qa b 0)):=hdep ⟨1,.data⟩ (by simp) rfl
      exact wp_val (.pointer (some (qa b 4))) (by simp[execOp,Act.eval,go_sem,hv]) ⟨_,rfl,hC,fun _ _ _ _ h=>h,rfl,fun k hk _ hz=>⟨fun h=>absurd h (by omega),fun _ h=>absurd h (by omega)⟩⟩
     ·have hv:v 2=.pointer (some (qa b 4)):=hdep ⟨2,.data⟩ (by simp) rfl
      exact wp_val (sv (some (qa hb ho)) f.got.length x.hc) (by simp[execOp,Act.eval,go_sem,hv,c4]) ⟨_,rfl,hC,fun _ _ _ _ h=>h,rfl,fun k hk _ hz=>⟨fun h=>absurd h (by omega),fun _ h=>absurd h (by omega)⟩⟩
     ·exact wp_val (.pointer (some (qa nd 1))) (by simp[execOp,Act.eval,go_sem]) ⟨_,rfl,hC,fun _ _ _ _ h=>h,rfl,fun k hk _ hz=>⟨fun h=>absurd h (by omega),fun _ h=>absurd h (by omega)⟩⟩
     ·have hv:v 4=.pointer (some (qa nd 1)):=hdep ⟨4,.data⟩ (by simp) rfl
      exact wp_val (iv (le:Nat)) (by simp[execOp,Act.eval,go_sem,hv,n1]) ⟨_,rfl,hC,fun _ _ _ _ h=>h,rfl,fun k hk _ hz=>⟨fun h=>absurd h (by omega),fun _ h=>absurd h (by omega)⟩⟩
     ·have hv:v 3=sv (some (qa hb ho)) f.got.length x.hc:=hdep ⟨3,.data⟩ (by simp) rfl
      have hv2:v 5=iv (le:Nat):=hdep ⟨5,.data⟩ (by simp) rfl
      exact wp_val (.pointer (some (qa hb (ho+le*2)))) (by simp[execOp,Act.eval,go_sem,hv,hv2,hgl1]) ⟨_,rfl,hC,fun _ _ _ _ h=>h,rfl,fun k hk _ hz=>⟨fun h=>absurd h (by omega),fun _ h=>absurd h (by omega)⟩⟩
     ·have hv:v 6=.pointer (some (qa hb (ho+le*2))):=hdep ⟨6,.data⟩ (by simp) rfl
      exact wp_val (.agg #[sv x1 A.frags.length y1,sv x2 A.defs.length y2]) (by simp[execOp,Act.eval,go_sem,hv,e0,e1]) ⟨_,rfl,hC,fun _ _ _ _ h=>h,rfl,fun k hk _ hz=>⟨fun h=>absurd h (by omega),fun _ h=>absurd h (by omega)⟩⟩
     ·exact wp_val (.pointer (some (qa b 0))) (by simp[execOp,Act.eval,go_sem]) ⟨_,rfl,hC,fun _ _ _ _ h=>h,rfl,fun k hk _ hz=>⟨fun h=>absurd h (by omega),fun _ h=>absurd h (by omega)⟩⟩
     ·have hv:v 8=.pointer (some (qa b 0)):=hdep ⟨8,.data⟩ (by simp) rfl
      exact wp_val (.pointer (some (qa b 0))) (by simp[execOp,Act.eval,go_sem,hv]) ⟨_,rfl,hC,fun _ _ _ _ h=>h,rfl,fun k hk _ hz=>⟨fun h=>absurd h (by omega),fun _ h=>absurd h (by omega)⟩⟩
     ·have hv:v 9=.pointer (some (qa b 0)):=hdep ⟨9,.data⟩ (by simp) rfl
      exact wp_val (.pointer (some (qa b 4))) (by simp[execOp,Act.eval,go_sem,hv]) ⟨_,rfl,hC,fun _ _ _ _ h=>h,rfl,fun k hk _ hz=>⟨fun h=>absurd h (by omega),fun _ h=>absurd h (by omega)⟩⟩
     ·have hv:v 10=.pointer (some (qa b 4)):=hdep ⟨10,.data⟩ (by simp) rfl
      exact wp_val (sv (some (qa hb ho)) f.got.length x.hc) (by simp[execOp,Act.eval,go_sem,hv,c4]) ⟨_,rfl,hC,fun _ _ _ _ h=>h,rfl,fun k hk _ hz=>⟨fun h=>absurd h (by omega),fun _ h=>absurd h (by omega)⟩⟩
     ·exact wp_val (.pointer (some (qa nd 2))) (by simp[execOp,Act.eval,go_sem]) ⟨_,rfl,hC,fun _ _ _ _ h=>h,rfl,fun k hk _ hz=>⟨fun h=>absurd h (by omega),fun _ h=>absurd h (by omega)⟩⟩
     ·have hv:v 12=.pointer (some (qa nd 2)):=hdep ⟨12,.data⟩ (by simp) rfl
      exact wp_val (iv (ri:Nat)) (by simp[execOp,Act.eval,go_sem,hv,n2]) ⟨_,rfl,hC,fun _ _ _ _ h=>h,rfl,fun k hk _ hz=>⟨fun h=>absurd h (by omega),fun _ h=>absurd h (by omega)⟩⟩
     ·have hv:v 11=sv (some (qa hb ho)) f.got.length x.hc:=hdep ⟨11,.data⟩ (by simp) rfl
      have hv2:v 13=iv (ri:Nat):=hdep ⟨13,.data⟩ (by simp) rfl
      exact wp_val (.pointer (some (qa hb (ho+ri*2)))) (by simp[execOp,Act.eval,go_sem,hv,hv2,hgr1]) ⟨_,rfl,hC,fun _ _ _ _ h=>h,rfl,fun k hk _ hz=>⟨fun h=>absurd h (by omega),fun _ h=>absurd h (by omega)⟩⟩
     ·have hv:v 14=.pointer (some (qa hb (ho+ri*2))):=hdep ⟨14,.data⟩ (by simp) rfl
      exact wp_val (.agg #[sv x3 C.frags.length y3,sv x4 C.defs.length y4]) (by simp[execOp,Act.eval,go_sem,hv,e2,e3]) ⟨_,rfl,hC,fun _ _ _ _ h=>h,rfl,fun k hk _ hz=>⟨fun h=>absurd h (by omega),fun _ h=>absurd h (by omega)⟩⟩
     ·have h7:v 7=.agg #[sv x1 A.frags.length y1,sv x2 A.defs.length y2]:=hdep ⟨7,.data⟩ (by simp) rfl
      have h15:v 15=.agg #[sv x3 C.frags.length y3,sv x4 C.defs.length y4]:=hdep ⟨15,.data⟩ (by simp) rfl
      refine wp_enter 27 #[.agg #[sv x1 A.frags.length y1,sv x2 A.defs.length y2],.agg #[sv x3 C.frags.length y3,sv x4 C.defs.length y4]] (by simp[Act.eval,go_sem,h7,h15]) ?_
      refine (join_any A C _ _ _ _ _ _ _ _ W hFA hDA hFC hDC).mono ?_
      rintro e W2 ⟨hb2,es,vF,vD,rfl,hP,hes⟩
      exact⟨_,rfl,_,rfl,hC.trans (hb2.mono hC.size),fun k z _ _=>mdR_later hb2 k z,⟨vF,vD,rfl,es,hP.base hBW,hes⟩,fun k hk _ hz=>⟨fun h=>absurd h (by omega),fun _ h=>absurd h (by omega)⟩⟩
     ·obtain⟨vF,vD,h16,hP⟩:mdR B Z.heap.size b nd hb ho le ri f x A C x1 x2 x3 x4 y1 y2 y3 y4 16 W (v 16):=hdep ⟨16,.data⟩ (by simp) rfl
      exact wp_val (.tuple #[.agg #[vF,vD],iv (M.join A C).2]) (by simp[execOp,Act.eval,go_sem,h16]) ⟨_,rfl,hC,fun _ _ _ _ h=>h,⟨vF,vD,rfl,hP⟩,fun k hk _ hz=>⟨fun h=>absurd h (by omega),fun _ h=>absurd h (by omega)⟩⟩
     ·obtain⟨vF,vD,h16,hP⟩:mdR B Z.heap.size b nd hb ho le ri f x A C x1 x2 x3 x4 y1 y2 y3 y4 17 W (v 17):=hdep ⟨17,.data⟩ (by simp) rfl
      exact wp_val (.agg #[vF,vD]) (by simp[execOp,Act.eval,go_sem,h16]) ⟨_,rfl,hC,fun _ _ _ _ h=>h,⟨vF,vD,rfl,hP⟩,fun k hk _ hz=>⟨fun h=>absurd h (by omega),fun _ h=>absurd h (by omega)⟩⟩
     ·obtain⟨vF,vD,h16,hP⟩:mdR B Z.heap.size b nd hb ho le ri f x A C x1 x2 x3 x4 y1 y2 y3 y4 17 W (v 17):=hdep ⟨17,.data⟩ (by simp) rfl
      exact wp_val (iv (M.join A C).2) (by simp[execOp,Act.eval,go_sem,h16]) ⟨_,rfl,hC,fun _ _ _ _ h=>h,rfl,fun k hk _ hz=>⟨fun h=>absurd h (by omega),fun _ h=>absurd h (by omega)⟩⟩
     ·have hA:=(Below.refl W.heap.size W).alloc (Nat.le_refl _) (.cells #[sv none 0 0,sv none 0 0] 39)
      refine wp_valW (.pointer (some (qa W.heap.size 0))) (W.alloc (.cells #[sv none 0 0,sv none 0 0] 39)) (by simp[execOp,go_sem]) ⟨_,rfl,hC.trans (hA.mono hC.size),fun k z _ _=>mdR_later hA k z,⟨W.heap.size,_,_,rfl,hC.size,heap_alloc_new W _⟩,fun k hk hs hz=>⟨fun h=>absurd h (by omega),fun h _=>?_⟩⟩
      rw[h] at hs
      have:=hin.closed 21 _ rfl hs ⟨20,.data⟩ (by simp) rfl
      rw[getD_both hsd] at this
      cases this
     ·obtain⟨g,c0,c1,h20,hNg,hg⟩:mdR B Z.heap.size b nd hb ho le ri f x A C x1 x2 x3 x4 y1 y2 y3 y4 20 W (v 20):=hdep ⟨20,.data⟩ (by simp) rfl
      obtain⟨vF,vD,h18,hP⟩:mdR B Z.heap.size b nd hb ho le ri f x A C x1 x2 x3 x4 y1 y2 y3 y4 18 W (v 18):=hdep ⟨18,.data⟩ (by simp) rfl
      obtain⟨a1,k1,a2,k2,e1',e2',_,_⟩:=hP.at
      simp only at e1' e2'
      subst e1' e2'
      have g0:=cellC hg 0 rfl
      have g1:=cellC hg 1 rfl
      have gf:=frozenB hg
      have lg:=lt1 hg
      obtain⟨vF,hvF⟩:∃ vF:Value,vF=sv a1 (M.join A C).1.frags.length k1:=⟨_,rfl⟩
      obtain⟨vD,hvD⟩:∃ vD:Value,vD=sv a2 (M.join A C).1.defs.length k2:=⟨_,rfl⟩
      have wr:Wr W ((W.setCell (qa g 0) vF).setCell (qa g 1) vD) 39:=⟨g,_,hg,grown_trans (grown_set _ _ _ _) (grown_set _ _ _ _)⟩
      have hgn:((W.setCell (qa g 0) vF).setCell (qa g 1) vD).heap[g]?=some (.cells #[vF,vD] 39 (0,0)):=setB' (setB' hg _) _
      have hP':POwn W B ⟨(M.join A C).1,vF,vD⟩:=by rw[hvF,hvD];exact hP
      refine wp_skipW ((W.setCell (qa g 0) vF).setCell (qa g 1) vD) (by rw[hvF,hvD];simp[execOp,Act.eval,go_sem,h20,h18,g0,g1,gf]) ⟨.tuple #[v 20],rfl,(hC.setCell hNg _).setCell hNg _,?_,⟨g,vF,vD,by rw[h20],hNg,hgn,wr.pw hP' rfl⟩,fun k hk _ hz=>⟨fun _ h=>by rw[h],fun h=>absurd h hk⟩⟩
      intro i u hi hs hR
      rcases (by omega:i=0∨i=1∨i=2∨i=3∨i=4∨i=5∨i=6∨i=7∨i=8∨i=9∨i=10∨i=11∨i=12∨i=13∨i=14∨i=15∨i=16∨i=17∨i=18∨i=19∨i=20∨21<i) with rfl | rfl | rfl | rfl | rfl | rfl | rfl | rfl | rfl | rfl | rfl | rfl | rfl | rfl | rfl | rfl | rfl | rfl | rfl | rfl | rfl | h8
      ·exact hR
      ·exact hR
      ·exact hR
      ·exact hR
      ·exact hR
      ·exact hR
      ·exact hR
      ·exact hR
      ·exact hR
      ·exact hR
      ·exact hR
      ·exact hR
      ·exact hR
      ·exact hR
      ·exact hR
      ·exact hR
      ·obtain⟨uF,uD,k1,k2⟩:=hR;exact⟨uF,uD,k1,wr.pw k2 rfl⟩
      ·obtain⟨uF,uD,k1,k2⟩:=hR;exact⟨uF,uD,k1,wr.pw k2 rfl⟩
      ·obtain⟨uF,uD,k1,k2⟩:=hR;exact⟨uF,uD,k1,wr.pw k2 rfl⟩
      ·exact hR
      ·obtain⟨g2,u0,u1,k1,k2,k3⟩:=hR
       by_cases hgg:g2=g
       ·subst hgg
        exact⟨g2,_,_,k1,k2,hgn⟩
       ·exact⟨g2,u0,u1,k1,k2,((Below.heap_setCell _ _ _ _ hgg).trans (Below.heap_setCell _ _ _ _ hgg)).trans k3⟩
      ·exact (mdR_none h8 hR).elim
    ·rintro sd v W hC hR hZ
     obtain⟨g,vF,vD,h21,hNg,hg,hP⟩:mdR B Z.heap.size b nd hb ho le ri f x A C x1 x2 x3 x4 y1 y2 y3 y4 21 W (v 21):=hR 21 (by decide)
     obtain⟨g',_,_,h20,_,_⟩:mdR B Z.heap.size b nd hb ho le ri f x A C x1 x2 x3 x4 y1 y2 y3 y4 20 W (v 20):=hR 20 (by decide)
     have h19:v 19=iv (M.join A C).2:=hR 19 (by decide)
     have hz:=hZ 21 20 (by decide) (by decide) (by decide) rfl rfl
     rw[h21,h20] at hz
     have hgg:g=g':=by cases hz;rfl
     subst hgg
     obtain⟨a1,k1,a2,k2,e1,e2,_,_⟩:=hP.at
     simp only at e1 e2
     subst e1 e2
     have hrW:=(hC.block _ (lt1 hrZ)).trans hrZ
     have hBW:=HZ.out.trans (hC.mono HZ.out.size)
     have lrw:=lt1 hrW
     have hgr:rs≠g:=by have:=lt1 hrZ;omega
     simp only[List.drop_succ_cons,List.drop_zero]
     rw[h20,h19]
     generalize M.join A C=jn at *
     obtain⟨jp,je⟩:=jn
     simp only at *
     have g0:=cellC hg 0 rfl
     have g1:=cellC hg 1 rfl
     have lg:=lt1 hg
     have r0:=cellC hrW 0 rfl
     have r1:=cellC hrW 1 rfl
     have rf:=frozenB hrW
     have wr:Wr W ((W.setCell (qa rs 0) (sv a1 jp.frags.length k1)).setCell (qa rs 1) (sv a2 jp.defs.length k2)) 39:=⟨rs,_,hrW,grown_trans (grown_set _ _ _ _) (grown_set _ _ _ _)⟩
     have HP2:Hid (POwn ((W.setCell (qa rs 0) (sv a1 jp.frags.length k1)).setCell (qa rs 1) (sv a2 jp.defs.length k2)) B ⟨jp,sv a1 jp.frags.length k1,sv a2 jp.defs.length k2⟩):=wr.pw hP rfl
     have hz2:((W.setCell (qa rs 0) (sv a1 jp.frags.length k1)).setCell (qa rs 1) (sv a2 jp.defs.length k2)).heap[rs]?=some (.cells #[sv a1 jp.frags.length k1,sv a2 jp.defs.length k2] 39 (0,0)):=setB' (setB' hrW _) _
     have HB2:Hid (Below w.heap.size w ((W.setCell (qa rs 0) (sv a1 jp.frags.length k1)).setCell (qa rs 1) (sv a2 jp.defs.length k2))):=(hBW.setCell (by show w.heap.size≤rs;rw[Hrs.out];exact Nat.le_refl _) _).setCell (by show w.heap.size≤rs;rw[Hrs.out];exact Nat.le_refl _) _
     clear hR hZ hz h21 h20 h19 hP hg hrW wr hC hrZ hOZ hnZ hstay
     go_wp2_with fail
     have t0:=cellC hz2 0 rfl
     have t1:=cellC hz2 1 rfl
     refine bodyPost_ret (v:=.tuple #[.agg #[sv a1 jp.frags.length k1,sv a2 jp.defs.length k2],.bool (je==0)]) (by simp[results,Tryz.results120,go_sem,t0,t1]) rfl ?_
     rw[HM2.out]
     exact⟨HB2.out,a1,k1,a2,k2,rfl,HP2.out⟩
 ·obtain⟨hf0,hf1⟩:=hlf hle
  obtain⟨lf,rfl⟩:∃ m:Nat,lf=m:=⟨lf.toNat,by omega⟩
  have hleb:((lf:Int) !=-1)=true:=by simp
  have HM1:Hid (M.madeP f n=(f.parts.getD lf M.nil,true)):=by rw[Hid,HMP.out,if_neg hle];simp
  clear HMP hin hle hlf
  obtain⟨hb,ho,x1,y1,x2,y2,hh,e0,e1,hFA,hDA⟩:=hO1.at.parts.cells lf (by omega)
  have c0:Y.cell? (qa b 0)=some (sv (some (qa hb ho)) f.parts.length x.pc):=by rw[← hh];exact cellB hO1.blk 0
  have hck:=each_ok f.parts hok.parts _ (getD_mem f.parts M.nil lf (by omega))
  have lhb:hb<Y.heap.size:=World.block_lt_of_cell? _ _ e0
  generalize f.parts.getD lf M.nil=A at *
  have HFD:Hid (∀ W,Below Y.heap.size Y W→FragsAt W (sv x1 A.frags.length y1) A.frags∧DefsAt W (sv x2 A.defs.length y2) A.defs):=fun W hW=>⟨hFA.later hW,hDA.later hW⟩
  have Hr0:Hid (Y.heap[rs]?=some (.cells #[sv none 0 0,sv none 0 0] 39 (0,0))):=hr0
  clear hFA hDA hr0 hn0 n1 n2
  go_upto_region 3 with fail
  refine wp_region_tail 8 (by kernel_rfl) (by kernel_rfl) ?_
  intro hne
  simp only[List.take_succ_cons,List.take_zero,List.drop_succ_cons,List.drop_zero]
  repeat (go_big_quiet_step (fail))
  refine wpQuiet_nil ?_
  intro W hW
  have hW:=lat_out hW
  have hBW:Below w.heap.size w W:=HA.out.trans (hW.mono HA.out.size)
  have hsW:B≤W.heap.size:=Nat.le_trans hB hBW.size
  have hrW:=(hW.block _ (lt1 Hr0.out)).trans Hr0.out
  have KC:Hid (Calls Tryz.prog 24 #[.agg #[sv x1 A.frags.length y1,sv x2 A.defs.length y2]] W fun e X1 =>
    ∃ z1 u1 z2 u2,e=.returned (.agg #[sv z1 A.frags.length u1,sv z2 A.defs.length u2])∧Below w.heap.size w X1∧X1.heap[rs]?=some (.cells #[sv none 0 0,sv none 0 0] 39 (0,0))∧POwn X1 B ⟨A,sv z1 A.frags.length u1,sv z2 A.defs.length u2⟩):=by
   refine (copyPart_any A _ _ _ _ _ (HFD.out W hW).1 (HFD.out W hW).2 hck).mono ?_
   rintro e X1 ⟨hb1,z1,u1,z2,u2,rfl,hP⟩
   exact⟨z1,u1,z2,u2,rfl,hBW.trans (hb1.mono hBW.size),(hb1.block _ (lt1 hrW)).trans hrW,hP.base hsW⟩
  clear hne hW hBW hrW n0 c0 e0 e1
  clear lbY lnd lhb
  go_wp2_with (go_at_call 24;refine KC.out.mono ?_;rintro e X1 ⟨z1,u1,z2,u2,rfl,hb1,hr1,hP1⟩;refine Hid.out ?_)
  have r0:=cellC hr1 0 rfl
  have r1:=cellC hr1 1 rfl
  have rf:=frozenB hr1
  have lrx:=lt1 hr1
  have wr:Wr X1 ((X1.setCell (qa rs 0) (sv z1 A.frags.length u1)).setCell (qa rs 1) (sv z2 A.defs.length u2)) 39:=⟨rs,_,hr1,grown_trans (grown_set _ _ _ _) (grown_set _ _ _ _)⟩
  have HP2:Hid (POwn ((X1.setCell (qa rs 0) (sv z1 A.frags.length u1)).setCell (qa rs 1) (sv z2 A.defs.length u2)) B ⟨A,sv z1 A.frags.length u1,sv z2 A.defs.length u2⟩):=wr.pw hP1 rfl
  have hz2:((X1.setCell (qa rs 0) (sv z1 A.frags.length u1)).setCell (qa rs 1) (sv z2 A.defs.length u2)).heap[rs]?=some (.cells #[sv z1 A.frags.length u1,sv z2 A.defs.length u2] 39 (0,0)):=setB' (setB' hr1 _) _
  have HB2:Hid (Below w.heap.size w ((X1.setCell (qa rs 0) (sv z1 A.frags.length u1)).setCell (qa rs 1) (sv z2 A.defs.length u2))):=(hb1.setCell (by show w.heap.size≤rs;rw[Hrs.out];exact Nat.le_refl _) _).setCell (by show w.heap.size≤rs;rw[Hrs.out];exact Nat.le_refl _) _
  clear hr1 hP1 wr hb1 KC
  refine Lib.hid ?_
  go_wp2_with fail
  have t0:=cellC hz2 0 rfl
  have t1:=cellC hz2 1 rfl
  refine bodyPost_ret (v:=.tuple #[.agg #[sv z1 A.frags.length u1,sv z2 A.defs.length u2],.bool true]) (by simp[results,Tryz.results120,go_sem,t0,t1]) rfl ?_
  rw[HM1.out]
  exact⟨HB2.out,z1,u1,z2,u2,rfl,HP2.out⟩
end Go.Proofs.YtebippbakbihiaaGreatDoor
