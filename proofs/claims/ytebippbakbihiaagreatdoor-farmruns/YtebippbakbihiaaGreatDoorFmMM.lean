/-
  The plain mathematics of farms: what is wrong with one, what happens to it, what comes of it. Lists and integers alone; nothing of the program. Farms in memory: one that is handed in, and one of one's own that is changed where it stands.
-/
import Derived.Test.YtebippbakbihiaaGreatDoorPlMk
import Derived.Test.YtebippbakbihiaaGreatDoorPlEva
namespace Go.Proofs.YtebippbakbihiaaGreatDoor.M
structure Msg where
 kind:Int
 worker:Int
 n:Int
 p:Prt
structure Grt where
 worker:Int
 till:Int
structure Hap where
 kind:Int
 worker:Int
 k:Int
structure Farm where
 parts:List Prt
 plan:List Nd
 now:Int
 done:List Bool
 got:List Prt
 grants:List Grt
 work:List Int
 net:List Msg
def msg0:Msg:=⟨0,0,0,nil⟩
def grt0:Grt:=⟨0,0⟩
def farm0:Farm:=⟨[],[],0,[],[],[],[],[]⟩
def inR (n a b:Int):Bool:=decide (a≤n)&&decide (n≤b)
def orE (a b:Int):Int:=if a=0 then b else a
def workOk (nodes:Nat) (n:Int):Bool:=n==-1 || inR n 0 ((nodes:Int) - 1)
def grantOk (workers:Nat) (g:Grt):Bool:=inR g.worker 0 ((workers:Int) - 1)&&inR g.till 0 65541
def msgOk (workers nodes:Nat) (m:Msg):Bool:=inR m.kind 1 2&&(inR m.worker 0 ((workers:Int) - 1)&&inR m.n 0 ((nodes:Int) - 1))
def checkWork (nodes:Nat) (l:List Int):Int:=if l.all (workOk nodes)=true then 0 else 5
def checkGrants (workers:Nat) (l:List Grt):Int:=if l.all (grantOk workers)=true then 0 else 3
def checkNet (workers nodes:Nat):List Msg→Int
 | []=>0
 | m :: l=>if msgOk workers nodes m=true then (if checkPart m.p=0 then checkNet workers nodes l else checkPart m.p) else 3
def lens (f:Farm):Bool:=f.done.length==f.plan.length&&(f.got.length==f.plan.length&&f.grants.length==f.plan.length)
def ranges (f:Farm):Bool:=inR f.work.length 1 4&&inR f.now 0 65536
def checkRest (f:Farm):Int :=
 orE (checkEach f.parts) (orE (checkEach f.got) (orE (checkWork f.plan.length f.work) (orE (checkGrants f.work.length f.grants) (checkNet f.work.length f.plan.length f.net))))
def checkFarm (f:Farm):Int :=
 orE (checkPlan f.plan f.parts.length) (bif lens f then (bif ranges f then (bif decide (20<f.net.length) then 2 else checkRest f) else 3) else 4)
def send (f:Farm) (m:Msg):Farm:=if f.net.length<20 then { f with net:=f.net ++ [m] } else f
def freeAt (f:Farm) (n:Int):Bool:=decide ((f.grants.getD n.toNat grt0).till≤f.now)
def give (f:Farm) (w:Int):Farm × Int :=
 match (ready f.plan f.done).find? (freeAt f) with
 | none=>(f,11)
 | some n=>(send { f with grants:=f.grants.set n.toNat ⟨w,f.now+5⟩ } ⟨1,w,n,nil⟩,0)
def madeP (f:Farm) (n:Nat):Prt × Bool :=
 if (f.plan.getD n nd0).leaf=-1 then
  (if (f.done.getD (f.plan.getD n nd0).left.toNat false&&f.done.getD (f.plan.getD n nd0).right.toNat false)=true then
    ((join (f.got.getD (f.plan.getD n nd0).left.toNat nil) (f.got.getD (f.plan.getD n nd0).right.toNat nil)).1,(join (f.got.getD (f.plan.getD n nd0).left.toNat nil) (f.got.getD (f.plan.getD n nd0).right.toNat nil)).2==0)
   else (nil,false))
 else (f.parts.getD (f.plan.getD n nd0).leaf.toNat nil,true)
def idled (f:Farm) (w:Int):Farm:={ f with work:=f.work.set w.toNat (-1) }
def finish (f:Farm) (w:Int):Farm × Int :=
 if f.work.getD w.toNat 0=-1 then (f,11)
 else (if (madeP f (f.work.getD w.toNat 0).toNat).2=true then send (idled f w) ⟨2,w,f.work.getD w.toNat 0,(madeP f (f.work.getD w.toNat 0).toNat).1⟩ else idled f w,0)
def arriveM (f:Farm) (m:Msg):Farm :=
 if m.kind=1 then (if f.work.getD m.worker.toNat 0=-1 then { f with work:=f.work.set m.worker.toNat m.n } else f)
 else if m.kind=2 then (if f.done.getD m.n.toNat false=false then { f with done:=f.done.set m.n.toNat true,got:=f.got.set m.n.toNat m.p,grants:=f.grants.set m.n.toNat grt0 } else f)
 else f
def taken (f:Farm) (k:Nat):Farm:={ f with net:=f.net.eraseIdx k }
def happenAt (f:Farm) (x:Hap):Farm × Int :=
 bif inR x.worker 0 ((f.work.length:Int) - 1) then
  (if x.kind=1 then give f x.worker
   else if x.kind=2 then finish f x.worker
   else (idled f x.worker,0))
 else (f,5)
def happenTo (f:Farm) (x:Hap):Farm × Int :=
 bif inR x.k 0 ((f.net.length:Int) - 1) then
  (if x.kind=5 then (if 20≤f.net.length then (f,10) else ({ f with net:=f.net ++ [f.net.getD x.k.toNat msg0] },0))
   else if x.kind=3 then (arriveM (taken f x.k.toNat) (f.net.getD x.k.toNat msg0),0)
   else (taken f x.k.toNat,0))
 else (f,5)
def happen (f:Farm) (x:Hap):Farm × Int :=
 if x.kind=1∨x.kind=2∨x.kind=7 then happenAt f x
 else if x.kind=3∨x.kind=4∨x.kind=5 then happenTo f x
 else if x.kind=6 then (if f.now=65536 then (f,10) else ({ f with now:=f.now+1 },0))
 else if x.kind=8 then ({ f with grants:=List.replicate f.grants.length grt0 },0)
 else (f,4)
def step (f:Farm) (x:Hap):Farm × Int :=
 if checkFarm f=0 then (if (happen f x).2=0 then happen f x else (farm0,(happen f x).2)) else (farm0,checkFarm f)
def runF:Farm→List Hap→Farm × List Int
 | f,[]=>(f,[])
 | f,x :: l=>((runF (happen f x).1 l).1,(happen f x).2 :: (runF (happen f x).1 l).2)
def runE (f:Farm) (l:List Hap):Int:=orE (checkFarm f) (if 120<l.length then 2 else 0)
def run (f:Farm) (l:List Hap):Farm × List Int:=if runE f l=0 then runF f l else (farm0,[])
def newF (parts:List Prt) (l:List Nd) (workers:Int):Farm :=
 ⟨parts,l,0,List.replicate l.length false,List.replicate l.length nil,List.replicate l.length grt0,List.replicate workers.toNat (-1),[]⟩
def newE (parts:List Prt) (l:List Nd) (workers:Int):Int :=
 orE (checkPlan l parts.length) (bif inR workers 1 4 then checkEach parts else 3)
def new (parts:List Prt) (l:List Nd) (workers:Int):Farm:=if newE parts l workers=0 then newF parts l workers else farm0
def outcomeE (f:Farm):Int:=orE (checkFarm f) (if f.done.getD (f.plan.length - 1) false=true then 0 else 11)
def outcome (f:Farm):Prt:=if outcomeE f=0 then f.got.getD (f.plan.length - 1) nil else nil
end Go.Proofs.YtebippbakbihiaaGreatDoor.M
namespace Go.Proofs.YtebippbakbihiaaGreatDoor
open Go Go.RowKit
set_option linter.unusedVariables false
def grtCell (g:M.Grt):Nat→Value
 | 0=>iv g.worker
 | _=>iv g.till
def GrantsAt (w:World) (v:Value) (l:List M.Grt):Prop:=SlAt w v 2 l.length (fun j i=>grtCell (l.getD j M.grt0) i)
structure MsgAt (w:World) (cell:Nat→Value) (m:M.Msg):Prop where
 kind:cell 0=iv m.kind
 worker:cell 1=iv m.worker
 n:cell 2=iv m.n
 fr:FragsAt w (cell 3) m.p.frags
 df:DefsAt w (cell 4) m.p.defs
def NetAt (w:World) (v:Value) (l:List M.Msg):Prop:=∃ cell,SlAt w v 5 l.length cell∧∀ j,j<l.length→MsgAt w (cell j) (l.getD j M.msg0)
theorem GrantsAt.later {w w':World} {v:Value} {l:List M.Grt} (h:GrantsAt w v l) (hb:Below w.heap.size w w'):GrantsAt w' v l:=SlAt.later h hb
theorem NetAt.later {w w':World} {v:Value} {l:List M.Msg} (h:NetAt w v l) (hb:Below w.heap.size w w'):NetAt w' v l :=
 let ⟨cell,h1,h2⟩:=h
 ⟨cell,h1.later hb,fun j hj=>let m:=h2 j hj;⟨m.kind,m.worker,m.n,m.fr.later hb,m.df.later hb⟩⟩
theorem GrantsAt.cells {w:World} {a:Option Addr} {c:Nat} {l:List M.Grt} (h:GrantsAt w (sv a l.length c) l) (k:Nat) (hk:k<l.length) :
  ∃ b off,a=some (qa b off)∧w.cell? (qa b (off+k*2))=some (iv (l.getD k M.grt0).worker)∧w.cell? (qa b (off+k*2+1))=some (iv (l.getD k M.grt0).till):=by
 obtain⟨b,off,rfl,hc⟩:=SlAt.at h k hk
 exact⟨b,off,rfl,hc 0 (by decide),hc 1 (by decide)⟩
theorem NetAt.cells {w:World} {a:Option Addr} {c:Nat} {l:List M.Msg} (h:NetAt w (sv a l.length c) l) (k:Nat) (hk:k<l.length) :
  ∃ b off x1 y1 x2 y2,a=some (qa b off)∧w.cell? (qa b (off+k*5))=some (iv (l.getD k M.msg0).kind)∧w.cell? (qa b (off+k*5+1))=some (iv (l.getD k M.msg0).worker)∧w.cell? (qa b (off+k*5+2))=some (iv (l.getD k M.msg0).n)
   ∧ w.cell? (qa b (off+k*5+3))=some (sv x1 (l.getD k M.msg0).p.frags.length y1)∧w.cell? (qa b (off+k*5+4))=some (sv x2 (l.getD k M.msg0).p.defs.length y2)
   ∧ FragsAt w (sv x1 (l.getD k M.msg0).p.frags.length y1) (l.getD k M.msg0).p.frags∧DefsAt w (sv x2 (l.getD k M.msg0).p.defs.length y2) (l.getD k M.msg0).p.defs:=by
 obtain⟨cell,h1,h2⟩:=h
 obtain⟨b,off,rfl,hc⟩:=h1.at k hk
 have m:=h2 k hk
 obtain⟨x1,y1,e1⟩:=m.fr.form
 obtain⟨x2,y2,e2⟩:=m.df.form
 have g0:=hc 0 (by decide)
 have g1:=hc 1 (by decide)
 have g2:=hc 2 (by decide)
 have g3:=hc 3 (by decide)
 have g4:=hc 4 (by decide)
 rw[Nat.add_zero,m.kind] at g0
 rw[m.worker] at g1
 rw[m.n] at g2
 rw[e1] at g3
 rw[e2] at g4
 exact⟨b,off,x1,y1,x2,y2,rfl,g0,g1,g2,g3,g4,e1 ▸ m.fr,e2 ▸ m.df⟩
structure Fd where
 p:Option Addr
 pc:Nat
 l:Option Addr
 lc:Nat
 d:Option Addr
 dc:Nat
 h:Option Addr
 hc:Nat
 g:Option Addr
 gc:Nat
 k:Option Addr
 kc:Nat
 n:Option Addr
 nc:Nat
def fd0:Fd:=⟨none,0,none,0,none,0,none,0,none,0,none,0,none,0⟩
abbrev qm (f:M.Farm) (x:Fd):Array Value:=#[sv x.p f.parts.length x.pc,sv x.l f.plan.length x.lc,iv f.now,sv x.d f.done.length x.dc,sv x.h f.got.length x.hc,sv x.g f.grants.length x.gc,sv x.k f.work.length x.kc,sv x.n f.net.length x.nc]
abbrev w8 (W:World) (g:Nat) (a b c d e f i j:Value):World:=((((((((W.setCell ⟨g,0,none⟩ a).setCell ⟨g,1,none⟩ b).setCell ⟨g,2,none⟩ c).setCell ⟨g,3,none⟩ d).setCell ⟨g,4,none⟩ e).setCell ⟨g,5,none⟩ f).setCell ⟨g,6,none⟩ i).setCell ⟨g,7,none⟩ j)
abbrev wm (W:World) (g:Nat) (f:M.Farm) (x:Fd):World:=w8 W g (sv x.p f.parts.length x.pc) (sv x.l f.plan.length x.lc) (iv f.now) (sv x.d f.done.length x.dc) (sv x.h f.got.length x.hc) (sv x.g f.grants.length x.gc) (sv x.k f.work.length x.kc) (sv x.n f.net.length x.nc)
structure FarmAt (w:World) (f:M.Farm) (x:Fd):Prop where
 parts:PartsAt w (sv x.p f.parts.length x.pc) f.parts
 plan:NodesAt w (sv x.l f.plan.length x.lc) f.plan
 done:BoolsAt w (sv x.d f.done.length x.dc) f.done
 got:PartsAt w (sv x.h f.got.length x.hc) f.got
 grants:GrantsAt w (sv x.g f.grants.length x.gc) f.grants
 work:IntsAt w (sv x.k f.work.length x.kc) f.work
 net:NetAt w (sv x.n f.net.length x.nc) f.net
theorem FarmAt.later {w w':World} {f:M.Farm} {x:Fd} (h:FarmAt w f x) (hb:Below w.heap.size w w'):FarmAt w' f x :=
 ⟨h.parts.later hb,h.plan.later hb,h.done.later hb,h.got.later hb,h.grants.later hb,h.work.later hb,h.net.later hb⟩
theorem parts_nil (w:World):PartsAt w (sv none 0 0) []:=⟨fun _ _=>undef,⟨_,_,rfl,Nat.zero_le _,.inl rfl⟩,fun j hj=>absurd hj (Nat.not_lt_zero _)⟩
theorem slat_nil (w:World) (k:Nat) (cell:Nat→Nat→Value):SlAt w (sv none 0 0) k 0 cell:=⟨_,_,rfl,Nat.zero_le _,.inl rfl⟩
theorem farm0_at (w:World):FarmAt w M.farm0 fd0 :=
 ⟨parts_nil w,slat_nil w _ _,slat_nil w _ _,parts_nil w,slat_nil w _ _,slat_nil w _ _,⟨fun _ _=>undef,slat_nil w _ _,fun j hj=>absurd hj (Nat.not_lt_zero _)⟩⟩
def encGrt (g:M.Grt):List Value:=[iv g.worker,iv g.till]
def encB (b:Bool):List Value:=[.bool b]
def encI (i:Int):List Value:=[iv i]
structure NEnt where
 kind:Int
 worker:Int
 n:Int
 e:PEnt
def nentCells (m:NEnt):List Value:=[iv m.kind,iv m.worker,iv m.n,m.e.vF,m.e.vD]
def NEnt.msg (m:NEnt):M.Msg:=⟨m.kind,m.worker,m.n,m.e.p⟩
def nent0:NEnt:=⟨0,0,0,pent0⟩
theorem POwn.later {W X:World} {B:Nat} {e:PEnt} (h:POwn W B e) (hb:Below W.heap.size W X):POwn X B e :=
 let ⟨en,h1,h2⟩:=h
 ⟨en,h1.later hb,h2⟩
theorem POwn.base {W:World} {B B':Nat} {e:PEnt} (h:POwn W B e) (hB:B'≤B):POwn W B' e :=
 let ⟨en,h1,h2⟩:=h
 ⟨en,h1.base hB,h2⟩
structure Wr (W X:World) (t:TypeId):Prop where
 ex:∃ g cs,W.heap[g]?=some (.cells cs t (0,0))∧W.grownBy X (some g)
theorem Wr.row {W X:World} {t e:TypeId} {B k n:Nat} {v:Value} {xs:List Value} (h:Wr W X t) (hr:W.ownsRow B e k v n xs) (hne:e≠t):X.ownsRow B e k v n xs:=by
 obtain⟨g,cs,h1,h2⟩:=h.ex
 exact hr.kept h2 (own_ne hr h1 hne)
theorem Wr.pown {W X:World} {t:TypeId} {B:Nat} {e:PEnt} (h:Wr W X t) (hp:POwn W B e) (h1:90≠t) (h2:86≠t) (h3:5≠t) (h4:94≠t):POwn X B e:=by
 obtain⟨en,hP,hm⟩:=hp
 exact⟨en,⟨h.row hP.rowF h1,h.row hP.rowD h2,fun e he=>h.row (hP.bytes e he) h3,hP.small,hP.smallD,fun e he=>h.row (hP.rels e he) h4⟩,hm⟩
theorem Wr.pw {W X:World} {t:TypeId} {B:Nat} {e:PEnt} (h:Wr W X t) (hp:POwn W B e) (ht:[90,86,5,94].contains t=false):POwn X B e:=by
 simp at ht
 exact h.pown hp (Ne.symm ht.1) (Ne.symm ht.2.1) (Ne.symm ht.2.2.1) (Ne.symm ht.2.2.2)
theorem Wr.block {W X:World} {t t':TypeId} {b:Nat} {cs:Array Value} (h:Wr W X t) (hb:W.heap[b]?=some (.cells cs t' (0,0))) (hne:t≠t'):X.heap[b]?=some (.cells cs t' (0,0)):=by
 obtain⟨g,cs',h1,h2⟩:=h.ex
 refine (h2.block b (lt1 hb) ?_).trans hb
 intro e
 cases e
 rw[h1] at hb
 cases hb
 exact hne rfl
structure Fo where
 eP:List PEnt
 eH:List PEnt
 eN:List NEnt
structure FmO (B:Nat) (W:World) (b:Nat) (f:M.Farm) (x:Fd) (o:Fo):Prop where
 blk:W.heap[b]?=some (.cells #[sv x.p f.parts.length x.pc,sv x.l f.plan.length x.lc,iv f.now,sv x.d f.done.length x.dc,sv x.h f.got.length x.hc,sv x.g f.grants.length x.gc,sv x.k f.work.length x.kc,sv x.n f.net.length x.nc] 29 (0,0))
 bge:B≤b
 rowP:W.ownsRow B 39 2 (sv x.p f.parts.length x.pc) f.parts.length (o.eP.flatMap pentCells)
 mapP:o.eP.map (·.p)=f.parts
 rowL:W.ownsRow B 75 3 (sv x.l f.plan.length x.lc) f.plan.length (f.plan.flatMap encNd)
 rowD:W.ownsRow B 4 1 (sv x.d f.done.length x.dc) f.done.length (f.done.flatMap encB)
 rowH:W.ownsRow B 39 2 (sv x.h f.got.length x.hc) f.got.length (o.eH.flatMap pentCells)
 mapH:o.eH.map (·.p)=f.got
 rowG:W.ownsRow B 64 2 (sv x.g f.grants.length x.gc) f.grants.length (f.grants.flatMap encGrt)
 rowW:W.ownsRow B 3 1 (sv x.k f.work.length x.kc) f.work.length (f.work.flatMap encI)
 rowN:W.ownsRow B 60 5 (sv x.n f.net.length x.nc) f.net.length (o.eN.flatMap nentCells)
 mapN:o.eN.map (·.msg)=f.net
 ownP:∀ e∈o.eP,POwn W B e
 ownH:∀ e∈o.eH,POwn W B e
 ownN:∀ e∈o.eN,POwn W B e.e
 apart:(sv x.p f.parts.length x.pc).ownBlock=none∨(sv x.p f.parts.length x.pc).ownBlock≠(sv x.h f.got.length x.hc).ownBlock
theorem FmO.later {B b:Nat} {W X:World} {f:M.Farm} {x:Fd} {o:Fo} (h:FmO B W b f x o) (hb:Below W.heap.size W X):FmO B X b f x o :=
 have hg:=grown_of_below hb Option.none
 ⟨(hb.block _ (lt1 h.blk)).trans h.blk,h.bge,h.rowP.kept hg own_self,h.mapP,h.rowL.kept hg own_self,h.rowD.kept hg own_self,h.rowH.kept hg own_self,h.mapH,h.rowG.kept hg own_self,h.rowW.kept hg own_self,h.rowN.kept hg own_self,h.mapN,
  fun e he=>(h.ownP e he).later hb,fun e he=>(h.ownH e he).later hb,fun e he=>(h.ownN e he).later hb,h.apart⟩
theorem FmO.setNow {B b:Nat} {W:World} {f:M.Farm} {x:Fd} {o:Fo} (h:FmO B W b f x o) (t:Int):FmO B (W.setCell (qa b 2) (iv t)) b { f with now:=t } x o :=
 have wr:Wr W (W.setCell (qa b 2) (iv t)) 29:=⟨b,_,h.blk,grown_set _ _ _ _⟩
 ⟨setB' h.blk _,h.bge,wr.row h.rowP (by decide),h.mapP,wr.row h.rowL (by decide),wr.row h.rowD (by decide),wr.row h.rowH (by decide),h.mapH,wr.row h.rowG (by decide),wr.row h.rowW (by decide),wr.row h.rowN (by decide),h.mapN,
  fun e he=>wr.pown (h.ownP e he) (by decide) (by decide) (by decide) (by decide),fun e he=>wr.pown (h.ownH e he) (by decide) (by decide) (by decide) (by decide),fun e he=>wr.pown (h.ownN e he) (by decide) (by decide) (by decide) (by decide),h.apart⟩
theorem FmO.setNet {B b:Nat} {W X:World} {f:M.Farm} {x:Fd} {o:Fo} (h:FmO B W b f x o) (ms:List M.Msg) (eN:List NEnt) (a:Option Addr) (c:Nat) (hw:W.grownBy X (sv x.n f.net.length x.nc).ownBlock)
  (hr:X.ownsRow B 60 5 (sv a ms.length c) ms.length (eN.flatMap nentCells)) (hm:eN.map (·.msg)=ms) (ho:∀ e∈eN,POwn W B e.e) :
  FmO B (X.setCell (qa b 7) (sv a ms.length c)) b { f with net:=ms } { x with n:=a,nc:=c } { o with eN:=eN }:=by
 have kr:∀ (e:TypeId) (k n:Nat) (v:Value) (xs:List Value),W.ownsRow B e k v n xs→e≠60→X.ownsRow B e k v n xs:=fun e k n v xs hx hne=>hx.kept hw (own_apart hx h.rowN hne)
 have kp:∀ e,POwn W B e→POwn X B e:=fun e ⟨en,hP,hm⟩=>⟨en,⟨kr _ _ _ _ _ hP.rowF (by decide),kr _ _ _ _ _ hP.rowD (by decide),fun e he=>kr _ _ _ _ _ (hP.bytes e he) (by decide),hP.small,hP.smallD,fun e he=>kr _ _ _ _ _ (hP.rels e he) (by decide)⟩,hm⟩
 have hb:=block_keptP h.rowN hw h.blk (by decide)
 have wr:Wr X (X.setCell (qa b 7) (sv a ms.length c)) 29:=⟨b,_,hb,grown_set _ _ _ _⟩
 exact⟨setB' hb _,h.bge,wr.row (kr _ _ _ _ _ h.rowP (by decide)) (by decide),h.mapP,wr.row (kr _ _ _ _ _ h.rowL (by decide)) (by decide),wr.row (kr _ _ _ _ _ h.rowD (by decide)) (by decide),wr.row (kr _ _ _ _ _ h.rowH (by decide)) (by decide),h.mapH,
  wr.row (kr _ _ _ _ _ h.rowG (by decide)) (by decide),wr.row (kr _ _ _ _ _ h.rowW (by decide)) (by decide),wr.row hr (by decide),hm,
  fun e he=>wr.pown (kp e (h.ownP e he)) (by decide) (by decide) (by decide) (by decide),fun e he=>wr.pown (kp e (h.ownH e he)) (by decide) (by decide) (by decide) (by decide),fun e he=>wr.pown (kp e.e (ho e he)) (by decide) (by decide) (by decide) (by decide),h.apart⟩
theorem FmO.setGrants {B b:Nat} {W X:World} {f:M.Farm} {x:Fd} {o:Fo} (h:FmO B W b f x o) (gs:List M.Grt) (hl:gs.length=f.grants.length) (hw:Wr W X 64)
  (hr:X.ownsRow B 64 2 (sv x.g f.grants.length x.gc) f.grants.length (gs.flatMap encGrt)):FmO B X b { f with grants:=gs } x o :=
 ⟨by show X.heap[b]?=some (.cells #[sv x.p f.parts.length x.pc,sv x.l f.plan.length x.lc,iv f.now,sv x.d f.done.length x.dc,sv x.h f.got.length x.hc,sv x.g gs.length x.gc,sv x.k f.work.length x.kc,sv x.n f.net.length x.nc] 29 (0,0));rw[hl];exact hw.block h.blk (by decide),h.bge,
  hw.row h.rowP (by decide),h.mapP,hw.row h.rowL (by decide),hw.row h.rowD (by decide),hw.row h.rowH (by decide),h.mapH,by show X.ownsRow B 64 2 (sv x.g gs.length x.gc) gs.length (gs.flatMap encGrt);rw[hl];exact hr,hw.row h.rowW (by decide),hw.row h.rowN (by decide),h.mapN,
  fun e he=>hw.pown (h.ownP e he) (by decide) (by decide) (by decide) (by decide),fun e he=>hw.pown (h.ownH e he) (by decide) (by decide) (by decide) (by decide),fun e he=>hw.pown (h.ownN e he) (by decide) (by decide) (by decide) (by decide),h.apart⟩
theorem FmO.setWorks {B b:Nat} {W X:World} {f:M.Farm} {x:Fd} {o:Fo} (h:FmO B W b f x o) (gs:List Int) (hl:gs.length=f.work.length) (hw:Wr W X 3)
  (hr:X.ownsRow B 3 1 (sv x.k f.work.length x.kc) f.work.length (gs.flatMap encI)):FmO B X b { f with work:=gs } x o :=
 ⟨by show X.heap[b]?=some (.cells #[sv x.p f.parts.length x.pc,sv x.l f.plan.length x.lc,iv f.now,sv x.d f.done.length x.dc,sv x.h f.got.length x.hc,sv x.g f.grants.length x.gc,sv x.k gs.length x.kc,sv x.n f.net.length x.nc] 29 (0,0));rw[hl];exact hw.block h.blk (by decide),h.bge,
  hw.row h.rowP (by decide),h.mapP,hw.row h.rowL (by decide),hw.row h.rowD (by decide),hw.row h.rowH (by decide),h.mapH,hw.row h.rowG (by decide),by show X.ownsRow B 3 1 (sv x.k gs.length x.kc) gs.length (gs.flatMap encI);rw[hl];exact hr,hw.row h.rowN (by decide),h.mapN,
  fun e he=>hw.pown (h.ownP e he) (by decide) (by decide) (by decide) (by decide),fun e he=>hw.pown (h.ownH e he) (by decide) (by decide) (by decide) (by decide),fun e he=>hw.pown (h.ownN e he) (by decide) (by decide) (by decide) (by decide),h.apart⟩
theorem FmO.setDones {B b:Nat} {W X:World} {f:M.Farm} {x:Fd} {o:Fo} (h:FmO B W b f x o) (gs:List Bool) (hl:gs.length=f.done.length) (hw:Wr W X 4)
  (hr:X.ownsRow B 4 1 (sv x.d f.done.length x.dc) f.done.length (gs.flatMap encB)):FmO B X b { f with done:=gs } x o :=
 ⟨by show X.heap[b]?=some (.cells #[sv x.p f.parts.length x.pc,sv x.l f.plan.length x.lc,iv f.now,sv x.d gs.length x.dc,sv x.h f.got.length x.hc,sv x.g f.grants.length x.gc,sv x.k f.work.length x.kc,sv x.n f.net.length x.nc] 29 (0,0));rw[hl];exact hw.block h.blk (by decide),h.bge,
  hw.row h.rowP (by decide),h.mapP,hw.row h.rowL (by decide),by show X.ownsRow B 4 1 (sv x.d gs.length x.dc) gs.length (gs.flatMap encB);rw[hl];exact hr,hw.row h.rowH (by decide),h.mapH,hw.row h.rowG (by decide),hw.row h.rowW (by decide),hw.row h.rowN (by decide),h.mapN,
  fun e he=>hw.pown (h.ownP e he) (by decide) (by decide) (by decide) (by decide),fun e he=>hw.pown (h.ownH e he) (by decide) (by decide) (by decide) (by decide),fun e he=>hw.pown (h.ownN e he) (by decide) (by decide) (by decide) (by decide),h.apart⟩
theorem FmO.setGots {B b:Nat} {W X:World} {f:M.Farm} {x:Fd} {o:Fo} (h:FmO B W b f x o) (gs:List M.Prt) (eH:List PEnt) (hl:gs.length=f.got.length) (hw:W.grownBy X (sv x.h f.got.length x.hc).ownBlock)
  (hr:X.ownsRow B 39 2 (sv x.h f.got.length x.hc) f.got.length (eH.flatMap pentCells)) (hm:eH.map (·.p)=gs) (ho:∀ e∈eH,POwn W B e):FmO B X b { f with got:=gs } x { o with eH:=eH }:=by
 have kr:∀ (e:TypeId) (k n:Nat) (v:Value) (xs:List Value),W.ownsRow B e k v n xs→e≠39→X.ownsRow B e k v n xs:=fun e k n v xs hx hne=>hx.kept hw (own_apart hx h.rowH hne)
 have kp:∀ e,POwn W B e→POwn X B e:=fun e ⟨en,hP,hm⟩=>⟨en,⟨kr _ _ _ _ _ hP.rowF (by decide),kr _ _ _ _ _ hP.rowD (by decide),fun e he=>kr _ _ _ _ _ (hP.bytes e he) (by decide),hP.small,hP.smallD,fun e he=>kr _ _ _ _ _ (hP.rels e he) (by decide)⟩,hm⟩
 exact⟨by show X.heap[b]?=some (.cells #[sv x.p f.parts.length x.pc,sv x.l f.plan.length x.lc,iv f.now,sv x.d f.done.length x.dc,sv x.h gs.length x.hc,sv x.g f.grants.length x.gc,sv x.k f.work.length x.kc,sv x.n f.net.length x.nc] 29 (0,0));rw[hl];exact block_keptP h.rowH hw h.blk (by decide),h.bge,
  h.rowP.kept hw h.apart,h.mapP,kr _ _ _ _ _ h.rowL (by decide),kr _ _ _ _ _ h.rowD (by decide),by show X.ownsRow B 39 2 (sv x.h gs.length x.hc) gs.length (eH.flatMap pentCells);rw[hl];exact hr,hm,kr _ _ _ _ _ h.rowG (by decide),kr _ _ _ _ _ h.rowW (by decide),kr _ _ _ _ _ h.rowN (by decide),h.mapN,
  fun e he=>kp e (h.ownP e he),fun e he=>kp e (ho e he),fun e he=>kp e.e (h.ownN e he),by show (sv x.p f.parts.length x.pc).ownBlock=none∨(sv x.p f.parts.length x.pc).ownBlock≠(sv x.h gs.length x.hc).ownBlock;rw[hl];exact h.apart⟩
theorem map_len {α β:Type} {f:α→β} {l:List α} {m:List β} (h:l.map f=m):m.length=l.length:=by rw[← h,List.length_map]
theorem map_getD {α β:Type} {f:α→β} {l:List α} {m:List β} {a:α} {b:β} (h:l.map f=m) {k:Nat} (hk:k<m.length):m.getD k b=f (l.getD k a):=by
 subst h
 rw[List.length_map] at hk
 rw[List.getD_eq_getElem?_getD,List.getD_eq_getElem?_getD,List.getElem?_map,List.getElem?_eq_getElem hk];rfl
theorem row_parts {W:World} {B:Nat} {v:Value} {es:List PEnt} {ps:List M.Prt} (hr:W.ownsRow B 39 2 v ps.length (es.flatMap pentCells)) (hm:es.map (·.p)=ps) (ho:∀ e∈es,POwn W B e):PartsAt W v ps:=by
 have hl:=map_len hm
 rw[hl] at hr
 have hs:=row_slice (k:=2) pent0 pentCells (fun _=>rfl) es hr
 refine⟨_,by rw[hl];exact hs,fun j hj=>?_⟩
 have hj':j<es.length:=by omega
 rw[map_getD (a:=pent0) hm hj]
 obtain⟨a1,c1,a2,c2,e1,e2,hF,hD⟩:=(ho _ (getD_mem es pent0 j hj')).at
 rw[← e1] at hF
 rw[← e2] at hD
 exact⟨hF,hD⟩
theorem row_grants {W:World} {B:Nat} {v:Value} {l:List M.Grt} (h:W.ownsRow B 64 2 v l.length (l.flatMap encGrt)):GrantsAt W v l:=by
 refine (row_slice (k:=2) M.grt0 encGrt (fun _=>rfl) l h).congr' (fun j i hj hi=>?_)
 match i,hi with
 | 0,_=>rfl
 | 1,_=>rfl
theorem row_bools {W:World} {B:Nat} {v:Value} {l:List Bool} (h:W.ownsRow B 4 1 v l.length (l.flatMap encB)):BoolsAt W v l:=by
 refine (row_slice (k:=1) false encB (fun _=>rfl) l h).congr' (fun j i hj hi=>?_)
 match i,hi with
 | 0,_=>rfl
theorem row_works {W:World} {B:Nat} {v:Value} {l:List Int} (h:W.ownsRow B 3 1 v l.length (l.flatMap encI)):IntsAt W v l:=by
 refine (row_slice (k:=1) 0 encI (fun _=>rfl) l h).congr' (fun j i hj hi=>?_)
 match i,hi with
 | 0,_=>rfl
theorem row_net {W:World} {B:Nat} {v:Value} {es:List NEnt} {ms:List M.Msg} (hr:W.ownsRow B 60 5 v ms.length (es.flatMap nentCells)) (hm:es.map (·.msg)=ms) (ho:∀ e∈es,POwn W B e.e):NetAt W v ms:=by
 have hl:=map_len hm
 rw[hl] at hr
 have hs:=row_slice (k:=5) nent0 nentCells (fun _=>rfl) es hr
 refine⟨_,by rw[hl];exact hs,fun j hj=>?_⟩
 have hj':j<es.length:=by omega
 rw[map_getD (a:=nent0) hm hj]
 obtain⟨a1,c1,a2,c2,e1,e2,hF,hD⟩:=(ho _ (getD_mem es nent0 j hj')).at
 rw[← e1] at hF
 rw[← e2] at hD
 exact⟨rfl,rfl,rfl,hF,hD⟩
theorem FmO.at {B b:Nat} {W:World} {f:M.Farm} {x:Fd} {o:Fo} (h:FmO B W b f x o):FarmAt W f x :=
 ⟨row_parts h.rowP h.mapP h.ownP,row_nodes h.rowL,row_bools h.rowD,row_parts h.rowH h.mapH h.ownH,row_grants h.rowG,row_works h.rowW,row_net h.rowN h.mapN h.ownN⟩
def KeepE (W X:World):Prop:=∀ (g:Nat) (cs:Array Value),W.heap[g]?=some (.cells cs 33 (0,0))→X.heap[g]?=some (.cells cs 33 (0,0))
theorem KeepE.trans {W X Y:World} (h:KeepE W X) (h':KeepE X Y):KeepE W Y:=fun g cs e=>h' g cs (h g cs e)
theorem keepE_below {W X:World} (h:Below W.heap.size W X):KeepE W X:=fun g cs e=>(h.block g (lt1 e)).trans e
theorem Wr.keepE {W X:World} {t:TypeId} (h:Wr W X t) (hne:t≠33):KeepE W X:=fun g cs e=>h.block e hne
theorem row_keepE {W X:World} {B n k:Nat} {v:Value} {xs:List Value} {e:TypeId} (hr:W.ownsRow B e k v n xs) (hg:W.grownBy X v.ownBlock) (hne:e≠33):KeepE W X:=fun g cs h=>block_keptP hr hg h hne
structure FmR (B:Nat) (W:World) (f:M.Farm) (x:Fd) (o:Fo):Prop where
 rowP:W.ownsRow B 39 2 (sv x.p f.parts.length x.pc) f.parts.length (o.eP.flatMap pentCells)
 mapP:o.eP.map (·.p)=f.parts
 rowL:W.ownsRow B 75 3 (sv x.l f.plan.length x.lc) f.plan.length (f.plan.flatMap encNd)
 rowD:W.ownsRow B 4 1 (sv x.d f.done.length x.dc) f.done.length (f.done.flatMap encB)
 rowH:W.ownsRow B 39 2 (sv x.h f.got.length x.hc) f.got.length (o.eH.flatMap pentCells)
 mapH:o.eH.map (·.p)=f.got
 rowG:W.ownsRow B 64 2 (sv x.g f.grants.length x.gc) f.grants.length (f.grants.flatMap encGrt)
 rowW:W.ownsRow B 3 1 (sv x.k f.work.length x.kc) f.work.length (f.work.flatMap encI)
 rowN:W.ownsRow B 60 5 (sv x.n f.net.length x.nc) f.net.length (o.eN.flatMap nentCells)
 mapN:o.eN.map (·.msg)=f.net
 ownP:∀ e∈o.eP,POwn W B e
 ownH:∀ e∈o.eH,POwn W B e
 ownN:∀ e∈o.eN,POwn W B e.e
 apart:(sv x.p f.parts.length x.pc).ownBlock=none∨(sv x.p f.parts.length x.pc).ownBlock≠(sv x.h f.got.length x.hc).ownBlock
theorem FmO.rows {B b:Nat} {W:World} {f:M.Farm} {x:Fd} {o:Fo} (h:FmO B W b f x o):FmR B W f x o :=
 ⟨h.rowP,h.mapP,h.rowL,h.rowD,h.rowH,h.mapH,h.rowG,h.rowW,h.rowN,h.mapN,h.ownP,h.ownH,h.ownN,h.apart⟩
theorem FmR.own {B b:Nat} {W:World} {f:M.Farm} {x:Fd} {o:Fo} (h:FmR B W f x o) (hb:B≤b)
  (blk:W.heap[b]?=some (.cells #[sv x.p f.parts.length x.pc,sv x.l f.plan.length x.lc,iv f.now,sv x.d f.done.length x.dc,sv x.h f.got.length x.hc,sv x.g f.grants.length x.gc,sv x.k f.work.length x.kc,sv x.n f.net.length x.nc] 29 (0,0))):FmO B W b f x o :=
 ⟨blk,hb,h.rowP,h.mapP,h.rowL,h.rowD,h.rowH,h.mapH,h.rowG,h.rowW,h.rowN,h.mapN,h.ownP,h.ownH,h.ownN,h.apart⟩
theorem FmR.later {B:Nat} {W X:World} {f:M.Farm} {x:Fd} {o:Fo} (h:FmR B W f x o) (hb:Below W.heap.size W X):FmR B X f x o :=
 have hg:=grown_of_below hb Option.none
 ⟨h.rowP.kept hg own_self,h.mapP,h.rowL.kept hg own_self,h.rowD.kept hg own_self,h.rowH.kept hg own_self,h.mapH,h.rowG.kept hg own_self,h.rowW.kept hg own_self,h.rowN.kept hg own_self,h.mapN,
  fun e he=>(h.ownP e he).later hb,fun e he=>(h.ownH e he).later hb,fun e he=>(h.ownN e he).later hb,h.apart⟩
theorem FmR.base {B B':Nat} {W:World} {f:M.Farm} {x:Fd} {o:Fo} (h:FmR B W f x o) (hB:B'≤B):FmR B' W f x o :=
 ⟨row_base h.rowP hB,h.mapP,row_base h.rowL hB,row_base h.rowD hB,row_base h.rowH hB,h.mapH,row_base h.rowG hB,row_base h.rowW hB,row_base h.rowN hB,h.mapN,
  fun e he=>(h.ownP e he).base hB,fun e he=>(h.ownH e he).base hB,fun e he=>(h.ownN e he).base hB,h.apart⟩
theorem FmR.wr {B:Nat} {W X:World} {f:M.Farm} {x:Fd} {o:Fo} (h:FmR B W f x o) (wr:Wr W X 29):FmR B X f x o :=
 ⟨wr.row h.rowP (by decide),h.mapP,wr.row h.rowL (by decide),wr.row h.rowD (by decide),wr.row h.rowH (by decide),h.mapH,wr.row h.rowG (by decide),wr.row h.rowW (by decide),wr.row h.rowN (by decide),h.mapN,
  fun e he=>wr.pown (h.ownP e he) (by decide) (by decide) (by decide) (by decide),fun e he=>wr.pown (h.ownH e he) (by decide) (by decide) (by decide) (by decide),fun e he=>wr.pown (h.ownN e he) (by decide) (by decide) (by decide) (by decide),h.apart⟩
end Go.Proofs.YtebippbakbihiaaGreatDoor
