/-
  The reference's Linked: the loop that lays the fragments' bytes. The reference's Linked: a segment that grows, and the row of segments, in memory. The reference's Linked: the bytes of a segment.
-/
import Derived.Test.YtpkfmfhodbjckaaGreatDoorLkRl
import Derived.Deep.DeepCutAuto
import Derived.Laws.ResultCell
set_option linter.unusedVariables false
set_option maxHeartbeats 32000000
set_option maxRecDepth 1000000
namespace Go.Proofs.YtpkfmfhodbjckaaGreatDoor
open Go Go.RowKit Go.Maps
def loopsOfL:Code→List Code
 | .loop c=>c::loopsOfL c
 | .seq a b=>loopsOfL a++loopsOfL b
 | .block _ c=>loopsOfL c
 | .scope c=>loopsOfL c
 | .cond _ a b=>loopsOfL a++loopsOfL b
 | _=>[]
theorem wf64{x:Int}(h1:-9223372036854775808≤x)(h2:x≤9223372036854775807):(Lit.int .i64 x).wf=true:=by
 simp[Lit.wf,IntKind.min,IntKind.max,IntKind.bits,IntKind.signed];omega
theorem wfU8{x:Int}(h1:0≤x)(h2:x<256):(Lit.int .u8 x).wf=true:=by
 simp[Lit.wf,IntKind.min,IntKind.max,IntKind.bits,IntKind.signed];omega
theorem lk_loop1{Aa Ab Ac Ad Ae Af Ag Ah Ai Aj Ak Al Am An Ao Ap Aq Ar As At Au Av Aw Ax Ay Az A0 A1 A2 A3 A4 A5 A6 A7 A8 AA AB AC AD AE AF AG AH AI AJ AK AL AM AN AO AP AQ AR AS AT AU AV AW AX AY AZ Ba Bb Bc Bd Be Bf Bg Bh Bi Bj Bk Bl Bm Bn Bo Bp Bq Br Bs Bt Bu Bv Bw Bx By Bz B0 B1 B2 B3 B4 B5 B6 B7 B8 B9 BA BB BC BD BE BF BG BH BI BJ BK BL BM BN BO BP BQ BR BS BT BU BV BW BX BY BZ Ca Cb Cc Cd Ce Cf Cg Ch Ci Cj Ck Cl Cm Cn Co Cp Cq Cr Cs Ct Cu Cv Cw Cx Cy Cz C0 C1 C2 C3 C4 C5 C6 C7 C8 C9 CA CB CC CD CE CF CG CH CI CJ CK CL CM CN CO CP CQ CR CS CT CU CV CW CX CY CZ Da Db Dc Dd De Df Dg Dh Di Dj Dk Dl Dm Dn Do Dp Dq Dr Ds Dt Du Dv Dw Dx Dy Dz D0 D1 D2 D3 D4 D5 D6 D7 D8 D9 DA DB DC DD DE DF DG DH DI DJ DK DL DM DN DO DP DQ DR DS DT DU DV DW DX DY DZ Ea Eb Ec Ed Ee Ef Eg Eh Ei Ej Ek El Em En Eo Ep Er Es:Value}(p:M.Prt)(base:Int)(a1 a2:Option Addr)(c1 c2:Nat)(w W0:World)(b3 b6 b9 b11 bm:Nat)(xfa xna xca:Option Addr)(yf yn yc:Nat)(l:M.Lay)(vF:Value)(nf:List Flt)
  (hl:M.layAll p base=l) (hp:M.Ok p) (ha:M.Apart p base) (hlk:M.LkOk p l) (HFD:Hid (∀W,Below w.heap.size w W→FragsAt W (sv a1 p.frags.length c1) p.frags∧DefsAt W (sv a2 p.defs.length c2) p.defs)) (Hby:Hid (∀f∈p.frags,∀b∈f.bytes,0≤b∧b<256)) (hbm:w.heap.size≤bm) (HS:Hid (LnS w b3 b6 b9 b11 #[sv a1 p.frags.length c1,sv a2 p.defs.length c2] (sv xfa l.frags.length yf) (sv xna l.names.length yn) (sv xca l.coms.length yc) l W0 vF vF nf)) (HM:Hid (MAt W0 bm 0 (fun _=>0))) {Q0:Exit→Act→World→Prop}
  (hexit:∀(Et Eu Ev Ew Ex Ey Ez E0 E1 E2 E3 E4 E5 E6 E7 E8 E9 EA EB EC ED EE EF EG EH EI EJ EK:Value) (w'':World),(LnS w b3 b6 b9 b11 #[sv a1 p.frags.length c1,sv a2 p.defs.length c2] (sv xfa l.frags.length yf) (sv xna l.names.length yn) (sv xca l.coms.length yc) l w'' vF vF nf∧∃m,MAt w'' bm 3840 m∧Q1 p base p.frags.length 0 m)→Q0 (.exit 0) ⟨List.toArray (Aa::Ab::Ac::qv b3 0::Ad::Ae::Af::Ag::Ah::qv b9 0::Ai::Aj::Ak::Al::.map (some bm)::Et::Eu::Ev::Ew::Aq::Ar::As::At::Au::Av::Aw::Ax::Ay::Az::A0::A1::A2::A3::A4::A5::A6::A7::A8::AA::AB::AC::AD::AE::AF::AG::AH::AI::AJ::AK::AL::AM::AN::AO::AP::AQ::AR::AS::AT::AU::AV::AW::AX::AY::AZ::Ba::Bb::Bc::Bd::Be::sv a1 p.frags.length c1::iv p.frags.length::Ex::Ey::Ez::E0::E1::E2::E3::E4::E5::E6::E7::E8::E9::EA::EB::EC::ED::EE::EF::EG::EH::EI::EJ::EK::B2::B3::B4::B5::B6::B7::B8::B9::BA::BB::BC::BD::BE::BF::BG::BH::BI::BJ::BK::BL::BM::BN::BO::BP::BQ::BR::BS::BT::BU::BV::BW::BX::BY::BZ::Ca::Cb::Cc::Cd::Ce::Cf::Cg::Ch::Ci::Cj::Ck::Cl::Cm::Cn::Co::Cp::Cq::Cr::Cs::Ct::Cu::Cv::Cw::Cx::Cy::Cz::C0::C1::C2::C3::C4::C5::C6::C7::C8::C9::CA::CB::CC::CD::CE::CF::CG::CH::CI::CJ::CK::CL::CM::CN::CO::CP::CQ::CR::CS::CT::CU::CV::CW::CX::CY::CZ::Da::Db::Dc::Dd::De::Df::Dg::Dh::Di::Dj::Dk::Dl::Dm::Dn::Do::Dp::Dq::Dr::Ds::Dt::Du::Dv::Dw::Dx::Dy::Dz::D0::D1::D2::D3::D4::D5::D6::D7::D8::D9::DA::DB::DC::DD::DE::DF::DG::DH::DI::DJ::DK::DL::DM::DN::DO::DP::DQ::DR::DS::DT::DU::DV::DW::DX::DY::DZ::Ea::Eb::Ec::Ed::Ee::Ef::Eg::Eh::Ei::Ej::Ek::El::Em::En::Eo::Ep::Er::Es::[]),[]⟩ w'') :
  Code.wp Tryz.prog (Code.loop (((Tryz.f12.body.map loopsOfL).getD [])[0]?.getD .skip:Code)) Q0 ⟨List.toArray (Aa::Ab::Ac::qv b3 0::Ad::Ae::Af::Ag::Ah::qv b9 0::Ai::Aj::Ak::Al::.map (some bm)::Am::An::Ao::Ap::Aq::Ar::As::At::Au::Av::Aw::Ax::Ay::Az::A0::A1::A2::A3::A4::A5::A6::A7::A8::AA::AB::AC::AD::AE::AF::AG::AH::AI::AJ::AK::AL::AM::AN::AO::AP::AQ::AR::AS::AT::AU::AV::AW::AX::AY::AZ::Ba::Bb::Bc::Bd::Be::sv a1 p.frags.length c1::iv p.frags.length::iv 0::Bf::Bg::Bh::Bi::Bj::Bk::Bl::Bm::Bn::Bo::Bp::Bq::Br::Bs::Bt::Bu::Bv::Bw::Bx::By::Bz::B0::B1::B2::B3::B4::B5::B6::B7::B8::B9::BA::BB::BC::BD::BE::BF::BG::BH::BI::BJ::BK::BL::BM::BN::BO::BP::BQ::BR::BS::BT::BU::BV::BW::BX::BY::BZ::Ca::Cb::Cc::Cd::Ce::Cf::Cg::Ch::Ci::Cj::Ck::Cl::Cm::Cn::Co::Cp::Cq::Cr::Cs::Ct::Cu::Cv::Cw::Cx::Cy::Cz::C0::C1::C2::C3::C4::C5::C6::C7::C8::C9::CA::CB::CC::CD::CE::CF::CG::CH::CI::CJ::CK::CL::CM::CN::CO::CP::CQ::CR::CS::CT::CU::CV::CW::CX::CY::CZ::Da::Db::Dc::Dd::De::Df::Dg::Dh::Di::Dj::Dk::Dl::Dm::Dn::Do::Dp::Dq::Dr::Ds::Dt::Du::Dv::Dw::Dx::Dy::Dz::D0::D1::D2::D3::D4::D5::D6::D7::D8::D9::DA::DB::DC::DD::DE::DF::DG::DH::DI::DJ::DK::DL::DM::DN::DO::DP::DQ::DR::DS::DT::DU::DV::DW::DX::DY::DZ::Ea::Eb::Ec::Ed::Ee::Ef::Eg::Eh::Ei::Ej::Ek::El::Em::En::Eo::Ep::Er::Es::[]),[]⟩ W0:=by
 have hnf:=hp.nf
 conv=>arg 2;arg 1;whnf
 go_loopw [71] (fun s71 wr=>∃(i:Nat) (m:Int→Int),i≤p.frags.length∧s71=iv i∧Hid (LnS w b3 b6 b9 b11 #[sv a1 p.frags.length c1,sv a2 p.defs.length c2] (sv xfa l.frags.length yf) (sv xna l.names.length yn) (sv xca l.coms.length yc) l wr vF vF nf)∧Hid (MAt wr bm (64*i) m∧Q1 p base i 0 m)) (fun s71 _=>p.frags.length-(intOf s71).toNat)
 case atStart=>exact⟨0,_,Nat.zero_le _,rfl,HS,HM.out,Q1.start⟩
 case round =>
  obtain⟨i,m,hi,rfl,HSr,HMr⟩:=hrel
  clear HS HM
  by_cases hlt:i<p.frags.length
  ·obtain⟨b,off,ab,cb,ar,cr,rfl,e0,e1,e2,e3,e4,e5,hB,-,-,-⟩:=(HFD.out w (Below.refl _ _)).1.cells i hlt
   have HBs:Hid (∀W,Below w.heap.size w W→BytesAt W (sv ab (p.frags.getD i frg0).bytes.length cb) (p.frags.getD i frg0).bytes):=fun W hW=>hB.later hW
   replace e0:=cell_later HSr.out.bel e0
   replace e1:=cell_later HSr.out.bel e1
   replace e2:=cell_later HSr.out.bel e2
   replace e3:=cell_later HSr.out.bel e3
   replace e4:=cell_later HSr.out.bel e4
   replace e5:=cell_later HSr.out.bel e5
   have hbr:b<wr.heap.size:=wlt e0
   have hil:(i:Int)<(p.frags.length:Int):=by omega
   have h64:=(M.frag_parts (M.frag_ok hp (getD_mem p.frags frg0 i hlt))).2.1
   have Hbb:Hid (∀x∈(p.frags.getD i frg0).bytes,0≤x∧x<256):=Hby.out _ (getD_mem p.frags frg0 i hlt)
   have HQs:Hid (∀j m,j<(p.frags.getD i frg0).bytes.length→Q1 p base i j m→Q1 p base i (j+1) (wrB m (l.frags.getD i 0+(j:Int)) ((p.frags.getD i frg0).bytes.getD j 0))):=fun j m hj h=>by rw[←hl];exact h.step hp ha hlt hj
   have HQn:Hid (∀m,Q1 p base i (p.frags.getD i frg0).bytes.length m→Q1 p base (i+1) 0 m):=fun m h=>h.next
   have hlb:l.frags.getD i 0∈l.frags:=by rw[List.getD_eq_getElem?_getD,List.getElem?_eq_getElem (by rw[hlk.len];exact hlt)];exact List.getElem_mem _
   have hbd:=hlk.bd _ hlb
   have hll:i<l.frags.length:=by rw[hlk.len];exact hlt
   have HIx:Hid (∀W,LnS w b3 b6 b9 b11 #[sv (some (qa b off)) p.frags.length c1,sv a2 p.defs.length c2] (sv xfa l.frags.length yf) (sv xna l.names.length yn) (sv xca l.coms.length yc) l W vF vF nf→∃b off,xfa=some (qa b off)∧W.cell? (qa b (off+i))=some (iv (l.frags.getD i 0))∧b<W.heap.size):=fun W h=>(row_ints h.rf).cell i hll
   clear hB hlb
   generalize l.frags.getD i 0=x at *
   generalize p.frags.getD i frg0=F at *
   obtain⟨sc,al,gp,bs,sz,rs⟩:=F
   dsimp only at e0 e1 e2 e3 e4 e5 h64 Hbb HQs HQn HBs
   have hAl:=bra wr (.cells #[iv sc,iv al,.string gp,sv ab bs.length cb,iv sz,sv ar rs.length cr] 87)
   have HSA:=HSr.out.later hAl
   have HMA:=HMr.out.1.later hAl
   have HQA:Hid _:=HMr.out.2
   have hq:=heap_alloc_new wr (.cells #[iv sc,iv al,.string gp,sv ab bs.length cb,iv sz,sv ar rs.length cr] 87)
   clear hAl HSr HMr
   go_upto_region 13 with fail
   clear e0 e1 e2 e3 e4 e5 hbr
   obtain⟨nz,hnz⟩:∃nz,nz=wr.heap.size:=⟨_,rfl⟩
   rw[←hnz] at hq ⊢
   clear hnz
   generalize wr.alloc (.cells #[iv sc,iv al,.string gp,sv ab bs.length cb,iv sz,sv ar rs.length cr] 87)=Z at *
   have q3:=cellC hq 3 rfl
   have ql:=lt1 hq
   have HS1:Hid (LnS w b3 b6 b9 b11 #[sv (some (qa b off)) p.frags.length c1,sv a2 p.defs.length c2] (sv xfa l.frags.length yf) (sv xna l.names.length yn) (sv xca l.coms.length yc) l Z vF vF nf):=HSA
   have HM1:Hid (MAt Z bm (64*i+0) m):=HMA
   clear hq HSA HMA
   go_upto_region 14 with fail
   clear q3 ql
   go_loopw [79] (fun s79 wr=>∃(j:Nat) (m:Int→Int),j≤bs.length∧s79=iv j∧Hid (LnS w b3 b6 b9 b11 #[sv (some (qa b off)) p.frags.length c1,sv a2 p.defs.length c2] (sv xfa l.frags.length yf) (sv xna l.names.length yn) (sv xca l.coms.length yc) l wr vF vF nf)∧Hid (MAt wr bm (64*i+j) m∧Q1 p base i j m)) (fun s79 _=>bs.length-(intOf s79).toNat)
   case atStart=>exact⟨0,_,Nat.zero_le _,rfl,HS1,HM1.out,HQA.out⟩
   case round =>
    obtain⟨j,m,hj,rfl,HSr,HMr⟩:=hrel
    clear HS1 HM1 HQA
    by_cases hjt:j<bs.length
    ·obtain⟨b2,off2,rfl,hc2,hb2⟩:=(HBs.out wr HSr.out.bel).cell j hjt
     obtain⟨b4,off4,rfl,hc4,hb4⟩:=HIx.out wr HSr.out
     have y0:wr.cell? (qa b9 0)=some (sv (some (qa b4 off4)) l.frags.length yf):=cellB HSr.out.c9 0
     have yl:=lt1 HSr.out.c9
     have hjl:(j:Int)<(bs.length:Int):=by omega
     have hill:(i:Int)<(l.frags.length:Int):=by omega
     have hv:=Hbb.out _ (getD_mem bs 0 j hjt)
     have hw:wrap64 (x+(j:Int))=x+(j:Int):=by unfold wrap64;omega
     obtain⟨w3,hrun,hM,hgr⟩:=HMr.out.1.put (by unfold maxLen;omega) (x+(j:Int)) (bs.getD j 0) (wf64 (by omega) (by omega)) (wfU8 hv.1 hv.2)
     have HP:Hid (LnS w b3 b6 b9 b11 #[sv (some (qa b off)) p.frags.length c1,sv a2 p.defs.length c2] (sv (some (qa b4 off4)) l.frags.length yf) (sv xna l.names.length yn) (sv xca l.coms.length yc) l w3 vF vF nf∧MAt w3 bm (64*i+j+1) (wrB m (x+(j:Int)) (bs.getD j 0))∧Q1 p base i (j+1) (wrB m (x+(j:Int)) (bs.getD j 0))):=⟨HSr.out.map HMr.out.1 hgr hbm,hM,HQs.out j m hjt HMr.out.2⟩
     clear hM hgr HSr HMr hv
     generalize bs.getD j 0=v at *
     go_wp2_with fail
     go_roundw
     case rel=>exact⟨j+1,_,by omega,by go_num,HP.out.1,HP.out.2⟩
     case measure=>simp[intOf];omega
    ·obtain rfl:j=bs.length:=by omega
     have HP:Hid (LnS w b3 b6 b9 b11 #[sv (some (qa b off)) p.frags.length c1,sv a2 p.defs.length c2] (sv xfa l.frags.length yf) (sv xna l.names.length yn) (sv xca l.coms.length yc) l wr vF vF nf∧MAt wr bm (64*(i+1)) m∧Q1 p base (i+1) 0 m):=⟨HSr.out,HMr.out.1.mono (by omega),HQn.out m HMr.out.2⟩
     clear HSr HMr HQn HQs
     go_wp2_with fail
     go_roundw
     case rel=>exact⟨i+1,_,by omega,by go_num,HP.out.1,HP.out.2⟩
     case measure=>simp[intOf];omega
  ·obtain rfl:i=p.frags.length:=by omega
   have HE:Hid (LnS w b3 b6 b9 b11 #[sv a1 p.frags.length c1,sv a2 p.defs.length c2] (sv xfa l.frags.length yf) (sv xna l.names.length yn) (sv xca l.coms.length yc) l wr vF vF nf∧∃m,MAt wr bm 3840 m∧Q1 p base p.frags.length 0 m):=⟨HSr.out,m,HMr.out.1.mono (by omega),HMr.out.2⟩
   clear HSr HMr
   go_wp2_with fail
   exact HE.out
end Go.Proofs.YtpkfmfhodbjckaaGreatDoor
namespace Go.Proofs.YtpkfmfhodbjckaaGreatDoor
open Go Go.RowKit
structure SgL (X0:World) (n30 n31:Nat) (c30:Array Value) (pos zs:Int) (wb kb:Bool) (W:World) (u v:Value) (bs:List Int):Prop where
 bel:Below X0.heap.size X0 W
 r30:W.heap[n30]?=some (.cells c30 92 (0,0))
 r31:W.heap[n31]?=some (.cells #[iv pos,u,iv zs,.bool wb,.bool kb] 56 (0,0))
 row:W.ownsRow X0.heap.size 5 1 v bs.length (enc8 bs)
 lo:X0.heap.size≤n31
section
variable {X0 W X : World} {n30 n31 : Nat} {c30 : Array Value} {pos zs : Int} {wb kb : Bool} {u v v1 : Value} {bs : List Int}
theorem SgL.later(h:SgL X0 n30 n31 c30 pos zs wb kb W u v bs)(hb:Below W.heap.size W X):SgL X0 n30 n31 c30 pos zs wb kb X u v bs :=
 have hk:∀ {b:Nat} {cs:Array Value} {t:TypeId},W.heap[b]?=some (.cells cs t (0,0))→X.heap[b]?=some (.cells cs t (0,0)):=fun hx=>blk hb hx
 ⟨h.bel.trans (hb.mono h.bel.size),hk h.r30,hk h.r31,h.row.kept (grown_of_below hb none) own_self,h.lo⟩
theorem SgL.grow{x:Int}(h:SgL X0 n30 n31 c30 pos zs wb kb W u v bs)(hg:W.grownBy X v.ownBlock)(hr:X.ownsRow X0.heap.size 5 1 v1 (bs.length+1) (enc8 bs++[.int .u8 x])):SgL X0 n30 n31 c30 pos zs wb kb X u v1 (bs++[x]):=by
 refine⟨h.bel.grown hg h.bel.size (fun k hk=>(h.row.lt k hk).1),block_kept h.row hg h.r30 (by decide),block_kept h.row hg h.r31 (by decide),?_,h.lo⟩
 unfold enc8 at *
 rw[List.length_append,List.map_append]
 exact hr
theorem SgL.store(h:SgL X0 n30 n31 c30 pos zs wb kb W u v bs)(x:Value):SgL X0 n30 n31 c30 pos zs wb kb (W.setCell (qa n31 1) x) x v bs :=
 have hg:=grown_set W n31 1 x
 ⟨h.bel.setCell h.lo _,(Below.heap_setCell _ _ _ _ (fun e=>by have:=h.r30;rw[e,h.r31] at this;cases this)).trans h.r30,setB' h.r31 (i:=1) x,h.row.kept hg (own_ne h.row h.r31 (by decide)),h.lo⟩
theorem SgL.storeZ(h:SgL X0 n30 n31 c30 pos zs wb kb W u v bs)(x:Int):SgL X0 n30 n31 c30 pos x wb kb (W.setCell (qa n31 2) (iv x)) u v bs :=
 have hg:=grown_set W n31 2 (iv x)
 ⟨h.bel.setCell h.lo _,(Below.heap_setCell _ _ _ _ (fun e=>by have:=h.r30;rw[e,h.r31] at this;cases this)).trans h.r30,setB' h.r31 (i:=2) (iv x),h.row.kept hg (own_ne h.row h.r31 (by decide)),h.lo⟩
end
structure SgS (w0:World) (b6 b9 b28 gs bm:Nat) (A9:Array Value) (m:Int→Int) (en:Int) (W:World) (u vS:Value) (es:List SEnt):Prop where
 bel:Below w0.heap.size w0 W
 c6:W.heap[b6]?=some (.cells #[iv 0,sv none 0 0] 25 (0,0))
 c9:W.heap[b9]?=some (.cells A9 76 (0,0))
 c28:W.heap[b28]?=some (.cells #[iv en,u] 25 (0,0))
 cg:W.heap[gs]?=some (.cells #[iv 1,iv 1,iv 0,iv 2,iv 3,iv 0,iv 4,iv 4,iv 5] 92 (0,0))
 mm:MAt W bm 4800 m
 row:W.ownsRow w0.heap.size 56 5 vS es.length (es.flatMap encSeg)
 bts:∀e∈es,W.ownsRow w0.heap.size 5 1 e.vb e.seg.bytes.length (enc8 e.seg.bytes)∧(∀b∈e.seg.bytes,0≤b∧b<256)∧e.seg.bytes.length≤65536
 ne:b6≠b28
 lo:w0.heap.size≤b28∧w0.heap.size≤b6
section
variable {w0 W X : World} {b6 b9 b28 gs bm : Nat} {A9 : Array Value} {m : Int → Int} {en : Int} {u vS v1 : Value} {es : List SEnt}
theorem SgS.later(h:SgS w0 b6 b9 b28 gs bm A9 m en W u vS es)(hb:Below W.heap.size W X):SgS w0 b6 b9 b28 gs bm A9 m en X u vS es :=
 have hk:∀ {b:Nat} {cs:Array Value} {t:TypeId},W.heap[b]?=some (.cells cs t (0,0))→X.heap[b]?=some (.cells cs t (0,0)):=fun hx=>blk hb hx
 have hg:=grown_of_below hb none
 ⟨h.bel.trans (hb.mono h.bel.size),hk h.c6,hk h.c9,hk h.c28,hk h.cg,h.mm.later hb,h.row.kept hg own_self,fun e he=>⟨(h.bts e he).1.kept hg own_self,(h.bts e he).2⟩,h.ne,h.lo⟩
theorem SgS.grow{e:SEnt}(h:SgS w0 b6 b9 b28 gs bm A9 m en W u vS es)(hg:W.grownBy X vS.ownBlock)(hr:X.ownsRow w0.heap.size 56 5 v1 (es.length+1) (es.flatMap encSeg++encSeg e))
  (he:W.ownsRow w0.heap.size 5 1 e.vb e.seg.bytes.length (enc8 e.seg.bytes)∧(∀b∈e.seg.bytes,0≤b∧b<256)∧e.seg.bytes.length≤65536):SgS w0 b6 b9 b28 gs bm A9 m en X u v1 (es++[e]):=by
 have key:∀x:SEnt,(W.ownsRow w0.heap.size 5 1 x.vb x.seg.bytes.length (enc8 x.seg.bytes)∧(∀b∈x.seg.bytes,0≤b∧b<256)∧x.seg.bytes.length≤65536)→(X.ownsRow w0.heap.size 5 1 x.vb x.seg.bytes.length (enc8 x.seg.bytes)∧(∀b∈x.seg.bytes,0≤b∧b<256)∧x.seg.bytes.length≤65536):=fun x hx=>⟨hx.1.kept hg (own_apart hx.1 h.row (by decide)),hx.2⟩
 refine⟨h.bel.grown hg h.bel.size (fun k hk=>(h.row.lt k hk).1),block_kept h.row hg h.c6 (by decide),block_kept h.row hg h.c9 (by decide),block_kept h.row hg h.c28 (by decide),block_kept h.row hg h.cg (by decide),h.mm.kept hg ?_,?_,fun x hx=>?_,h.ne,h.lo⟩
 ·obtain⟨n,D,_,⟨es',ck,hq,_⟩,_⟩:=h.mm
  rcases row_mapL h.row hq with e|e
  ·rw[e];intro h;cases h
  ·exact e
 ·rw[List.length_append,List.flatMap_append]
  simpa [List.flatMap_cons] using hr
 ·rcases List.mem_append.1 hx with hx|hx
  ·exact key x (h.bts x hx)
  ·rw[List.mem_singleton.1 hx];exact key e he
theorem SgS.store(h:SgS w0 b6 b9 b28 gs bm A9 m en W u vS es)(v:Value):SgS w0 b6 b9 b28 gs bm A9 m en (W.setCell (qa b28 1) v) v vS es :=
 have hg:=grown_set W b28 1 v
 have hk:∀ {b:Nat} {cs:Array Value} {t:TypeId},t≠25→W.heap[b]?=some (.cells cs t (0,0))→(W.setCell (qa b28 1) v).heap[b]?=some (.cells cs t (0,0)):=fun ht hx=>(Below.heap_setCell _ _ _ _ (fun e=>by rw[e,h.c28] at hx;cases hx;exact ht rfl)).trans hx
 ⟨h.bel.setCell h.lo.1 _,(Below.heap_setCell _ _ _ _ h.ne).trans h.c6,hk (by decide) h.c9,setB' h.c28 (i:=1) v,hk (by decide) h.cg,h.mm.kept hg (fun e=>by
  cases e
  obtain⟨n,D,_,⟨es',ck,hq,_⟩,_⟩:=h.mm
  have:=h.c28
  rw[hq] at this
  cases this),h.row.kept hg (own_ne h.row h.c28 (by decide)),fun e he=>⟨(h.bts e he).1.kept hg (own_ne (h.bts e he).1 h.c28 (by decide)),(h.bts e he).2⟩,h.ne,h.lo⟩
theorem segs_rows{W:World}{B:Nat}{vS:Value}{es:List SEnt}(hrow:W.ownsRow B 56 5 vS es.length (es.flatMap encSeg))(hbts:∀e∈es,W.ownsRow B 5 1 e.vb e.seg.bytes.length (enc8 e.seg.bytes)∧(∀b∈e.seg.bytes,0≤b∧b<256)):SegsAt W vS (es.map (·.seg)):=by
 have hb:∀e∈es,BytesAt W e.vb e.seg.bytes:=fun e he=>by
  have hr:=(hbts e he).1
  have h':W.ownsRow B 5 1 e.vb e.seg.bytes.length (e.seg.bytes.flatMap fun x=>[Value.int .u8 x]):=by
   have e2:(e.seg.bytes.flatMap fun x=>[Value.int .u8 x])=enc8 e.seg.bytes:=by
    unfold enc8;induction e.seg.bytes with
    | nil=>rfl
    | cons x l ih=>rw[List.flatMap_cons,ih];rfl
   rwa [e2]
  refine⟨(row_slice (k:=1) (0:Int) (fun x=>[Value.int .u8 x]) (fun _=>rfl) e.seg.bytes h').congr' (fun j i hj hi=>?_),(hbts e he).2⟩
  obtain rfl:i=0:=by omega
  rfl
 refine⟨fun j i=>(encSeg (es.getD j ⟨M.seg0,undef⟩)).getD i undef,?_,fun j hj=>?_⟩
 ·rw[List.length_map]
  exact row_slice (k:=5) ⟨M.seg0,undef⟩ encSeg (fun _=>rfl) es hrow
 ·rw[List.length_map] at hj
  have e1:(es.map (·.seg)).getD j M.seg0=(es.getD j ⟨M.seg0,undef⟩).seg:=by
   rw[List.getD_eq_getElem?_getD,List.getD_eq_getElem?_getD,List.getElem?_map,List.getElem?_eq_getElem hj];rfl
  rw[e1]
  exact⟨rfl,hb _ (getD_mem es _ j hj),rfl,rfl,rfl⟩
theorem SgS.fin(h:SgS w0 b6 b9 b28 gs bm A9 m en W u vS es)(x y:Value):SegsAt ((W.setCell (qa b6 0) x).setCell (qa b6 1) y) vS (es.map (·.seg)):=by
 have c1:=setB' h.c6 (i:=0) x
 have k:∀ {e:TypeId} {k n:Nat} {v:Value} {xs:List Value},e≠25→W.ownsRow w0.heap.size e k v n xs→((W.setCell (qa b6 0) x).setCell (qa b6 1) y).ownsRow w0.heap.size e k v n xs:=fun he hr =>
  have h1:=hr.kept (grown_set W b6 0 x) (own_ne hr h.c6 he)
  h1.kept (grown_set _ b6 1 y) (own_ne h1 c1 he)
 exact segs_rows (k (by decide) h.row) (fun e he=>⟨k (by decide) (h.bts e he).1,(h.bts e he).2.1⟩)
theorem LnS.fin{b3 b11:Nat}{vp:Array Value}{xf xn xc vF:Value}{l:M.Lay}{fl:List Flt}(h:LnS w0 b3 b6 b9 b11 vp xf xn xc l W u vF fl)(x y:Value):FltsAt ((W.setCell (qa b6 0) x).setCell (qa b6 1) y) vF fl:=by
 have c1:=setB' h.c6 (i:=0) x
 have h1:=h.row.kept (grown_set W b6 0 x) (own_ne h.row h.c6 (by decide))
 exact row_flts (h1.kept (grown_set _ b6 1 y) (own_ne h1 c1 (by decide)))
end
theorem filled_ok{p:M.Prt}{l:M.Lay}{s:ByteArray}(hp:M.Ok p)(hf:M.allFaults p l s=[])(hb:∀f∈p.frags,∀b∈f.bytes,0≤b∧b<256){i:Nat}(hi:i<p.frags.length) :
  (M.filled p l i (p.frags.getD i frg0)).length=(p.frags.getD i frg0).bytes.length∧∀b∈M.filled p l i (p.frags.getD i frg0),0≤b∧b<256:=by
 have hfm:=getD_mem p.frags frg0 i hi
 have hparts:=M.frag_parts (M.frag_ok hp hfm)
 obtain⟨f1,f2,_⟩:=fold_places p l i (p.frags.getD i frg0).bytes.length p.frags.length hparts.2.1 (p.frags.getD i frg0).rels 0 (p.frags.getD i frg0).bytes (Int.le_refl _) hparts.2.2.2.2 (fun r hr=>no_faults hf hi hr) rfl (hb _ hfm)
 exact⟨f1,f2⟩
theorem segN_small{p:M.Prt}{l:M.Lay}{a z:Nat}(hfl:∀i,i<p.frags.length→∀b∈M.filled p l i (p.frags.getD i frg0),0≤b∧b<256):∀n,n≤p.frags.length→∀b∈M.segN p l a z n,0≤b∧b<256
 | 0,_=>fun b hb=>by
  have:=List.eq_of_mem_replicate hb
  omega
 | n+1,hn=>by
  rw[segN_succ]
  by_cases hc:(a:Int)≤(p.frags.getD n frg0).sect∧(p.frags.getD n frg0).sect≤z
  ·rw[segStep_in hc];exact over_mem (segN_small hfl n (by omega)) (hfl n hn)
  ·rw[segStep_out hc];exact segN_small hfl n (by omega)
theorem seg_facts{p:M.Prt}{base:Int}{l:M.Lay}{s:ByteArray}{m:Int→Int}(hp:M.Ok p)(ha:M.Apart p base)(hl:M.layAll p base=l)(hf:M.allFaults p l s=[])(hb:∀f∈p.frags,∀b∈f.bytes,0≤b∧b<256)(h:Q2 p base p.frags.length 0 m){a z:Nat}(haz:(a=1∧z=1)∨(a=2∧z=3)∨(a=4∧z=4)) :
  (0≤l.fr a∧l.ti z≤65536)∧(M.segBytes p l a z).length=(l.ti z-l.fr a).toNat∧(∀k:Nat,k<(M.segBytes p l a z).length→m (l.fr a+(k:Int))=(M.segBytes p l a z).getD k 0)∧∀b∈M.segBytes p l a z,0≤b∧b<256:=by
 subst hl
 have ho:=segOk_of hp ha haz
 have hlen:(M.segBytes p (M.layAll p base) a z).length=((M.layAll p base).ti z-(M.layAll p base).fr a).toNat:=segN_len p _ a z _
 refine⟨⟨ho.lo,ho.hi⟩,hlen,fun k hk=>?_,segN_small (fun i hi=>(filled_ok hp hf hb hi).2) _ (Nat.le_refl _)⟩
 exact h.seg hp ha (fun i hi=>(filled_ok hp hf hb hi).1) haz (by rw[←hlen];exact hk)
end Go.Proofs.YtpkfmfhodbjckaaGreatDoor
namespace Go.Proofs.YtpkfmfhodbjckaaGreatDoor
open Go Go.RowKit Go.Maps
theorem lk_loop7{Aa Ab Ac EL Ad Ae Af Ag Ah Ai Aj Ak Al Am An Ao Ap Aq Ar As At Au Av Aw Ax Ay Az A0 A4 A5 A6 A7 A8 AA AB AC AD AE AF AG AH AI AJ AK AL AM AN AO AP AQ AR AS AT AU AV AW AX AY AZ Ba Bb Bc Bd Be EM EN EO Bf Bg Bh Bi Bj Bk Bl Bm Bn Bo Bp Bq Br Bs Bt Bu Bv Bw Bx By Bz B0 B1 B2 B3 B4 B5 B6 B7 B8 B9 BA BB BC BD BE BF BG BH BI BJ BK BL BM BN BO BP BQ BR BS BT BU BV BW BX BY BZ Ca Cb Cc Cd Ce Cf Cg Ch Ci Cj Ck Cl Cm Cn Co Cp Cq Cr Cs Ct Cu Cv Cw Cx Cy Cz C0 C1 C2 C3 C4 C5 C6 C7 C8 C9 CA CB CC CD CE CF CG CH CI CJ CK CL CM CN CO CP CQ CR CS CT CU CV CW CX CY CZ Da Db Dc Dd De Df Dg Dh Di Dj Dk Dl Dm Dn Do Dp Dq Dr Ds Dt Du Dv Dw Dx Dy Dz D0 D1 D2 D3 D4 D5 D6 D7 D8 D9 DA DB DC DD DE DF DG DH DI DJ DK DL DM DN DO DP DQ DR DS DT DU DV DW DX DY DZ Ea Eb Ec Ed Ee Ef Eg Eh Ei Ej Ek El Em En Eo Ep Er Es:Value}(f0 t0:Int)(a z q:Nat)(X0 W0:World)(b9 bm n30 n31 N:Nat)(A9:Array Value)(m:Int→Int)(wb kb:Bool)(bs:List Int)
  (hz:z≤5) (hf0:0≤f0) (ht0:t0≤65536) (hlen:bs.length=(t0-f0).toNat) (hz9:A9[9+z]?=some (iv t0)) (h9:X0.heap[b9]?=some (.cells A9 76 (0,0))) (HMm:Hid (MAt X0 bm N m)) (Hat:Hid (∀k:Nat,k<bs.length→m (f0+(k:Int))=bs.getD k 0)) (HS:Hid (SgL X0 n30 n31 #[iv a,iv z,iv q] f0 0 wb kb W0 (sv none 0 0) (sv none 0 0) [])) {Q0:Exit→Act→World→Prop}
  (hexit:∀(EP EQ ER ES ET EU EV EW EX EY EZ Fa Fb Fc Fd Fe Ff Fg:Value) (w'':World),(∃v,SgL X0 n30 n31 #[iv a,iv z,iv q] f0 0 wb kb w'' v v bs)→Q0 (.exit 13) ⟨List.toArray (Aa::Ab::Ac::EL::Ad::Ae::Af::Ag::Ah::qv b9 0::Ai::Aj::Ak::Al::.map (some bm)::Am::An::Ao::Ap::Aq::Ar::As::At::Au::Av::Aw::Ax::Ay::Az::A0::qv n30 0::qv n31 0::EP::A4::A5::A6::A7::A8::AA::AB::AC::AD::AE::AF::AG::AH::AI::AJ::AK::AL::AM::AN::AO::AP::AQ::AR::AS::AT::AU::AV::AW::AX::AY::AZ::Ba::Bb::Bc::Bd::Be::EM::EN::EO::Bf::Bg::Bh::Bi::Bj::Bk::Bl::Bm::Bn::Bo::Bp::Bq::Br::Bs::Bt::Bu::Bv::Bw::Bx::By::Bz::B0::B1::B2::B3::B4::B5::B6::B7::B8::B9::BA::BB::BC::BD::BE::BF::BG::BH::BI::BJ::BK::BL::BM::BN::BO::BP::BQ::BR::BS::BT::BU::BV::BW::BX::BY::BZ::Ca::Cb::Cc::Cd::Ce::Cf::Cg::Ch::Ci::Cj::Ck::Cl::Cm::Cn::Co::Cp::Cq::Cr::Cs::Ct::Cu::Cv::Cw::Cx::Cy::Cz::C0::C1::C2::C3::C4::C5::C6::C7::C8::C9::CA::CB::CC::CD::CE::CF::CG::CH::CI::CJ::CK::CL::CM::CN::CO::CP::CQ::CR::CS::CT::CU::CV::CW::CX::CY::CZ::Da::Db::Dc::Dd::De::Df::Dg::Dh::Di::Dj::Dk::Dl::Dm::Dn::Do::Dp::Dq::Dr::Ds::Dt::Du::Dv::Dw::Dx::Dy::Dz::D0::D1::D2::D3::D4::D5::D6::D7::D8::D9::DA::DB::DC::DD::EQ::ER::ES::ET::EU::EV::EW::EX::EY::EZ::Fa::Fb::Fc::Fd::Fe::Ff::Fg::DV::DW::DX::DY::DZ::Ea::Eb::Ec::Ed::Ee::Ef::Eg::Eh::Ei::Ej::Ek::El::Em::En::Eo::Ep::Er::Es::[]),[]⟩ w'') :
  Code.wp Tryz.prog (Code.loop (((Tryz.f12.body.map loopsOfL).getD [])[6]?.getD .skip:Code)) Q0 ⟨List.toArray (Aa::Ab::Ac::EL::Ad::Ae::Af::Ag::Ah::qv b9 0::Ai::Aj::Ak::Al::.map (some bm)::Am::An::Ao::Ap::Aq::Ar::As::At::Au::Av::Aw::Ax::Ay::Az::A0::qv n30 0::qv n31 0::iv f0::A4::A5::A6::A7::A8::AA::AB::AC::AD::AE::AF::AG::AH::AI::AJ::AK::AL::AM::AN::AO::AP::AQ::AR::AS::AT::AU::AV::AW::AX::AY::AZ::Ba::Bb::Bc::Bd::Be::EM::EN::EO::Bf::Bg::Bh::Bi::Bj::Bk::Bl::Bm::Bn::Bo::Bp::Bq::Br::Bs::Bt::Bu::Bv::Bw::Bx::By::Bz::B0::B1::B2::B3::B4::B5::B6::B7::B8::B9::BA::BB::BC::BD::BE::BF::BG::BH::BI::BJ::BK::BL::BM::BN::BO::BP::BQ::BR::BS::BT::BU::BV::BW::BX::BY::BZ::Ca::Cb::Cc::Cd::Ce::Cf::Cg::Ch::Ci::Cj::Ck::Cl::Cm::Cn::Co::Cp::Cq::Cr::Cs::Ct::Cu::Cv::Cw::Cx::Cy::Cz::C0::C1::C2::C3::C4::C5::C6::C7::C8::C9::CA::CB::CC::CD::CE::CF::CG::CH::CI::CJ::CK::CL::CM::CN::CO::CP::CQ::CR::CS::CT::CU::CV::CW::CX::CY::CZ::Da::Db::Dc::Dd::De::Df::Dg::Dh::Di::Dj::Dk::Dl::Dm::Dn::Do::Dp::Dq::Dr::Ds::Dt::Du::Dv::Dw::Dx::Dy::Dz::D0::D1::D2::D3::D4::D5::D6::D7::D8::D9::DA::DB::DC::DD::DE::DF::DG::DH::DI::DJ::DK::DL::DM::DN::DO::DP::DQ::DR::DS::DT::DU::DV::DW::DX::DY::DZ::Ea::Eb::Ec::Ed::Ee::Ef::Eg::Eh::Ei::Ej::Ek::El::Em::En::Eo::Ep::Er::Es::[]),[]⟩ W0:=by
 obtain⟨i0,hi0,hy0,hy1,hy2⟩:=info_parts (P:=Tryz.prog) (e:=5) (z:=.int .u8 0) (size:=1) (bytes:=1) (by kernel_rfl)
 have Hlen:Hid (bs.length=(t0-f0).toNat):=hlen
 have hl65:bs.length≤65536:=by omega
 have HC:Hid (∀W,Below X0.heap.size X0 W→W.cell? (qa b9 (9+z))=some (iv t0)∧b9<W.heap.size∧MAt W bm N m):=fun W hW=>by
  have h9':=blk hW h9
  exact⟨(cellB h9' (9+z)).trans hz9,(lt1 h9'),HMm.out.later hW⟩
 clear hlen hz9 h9 HMm
 conv=>arg 2;arg 1;whnf
 go_loopw [32] (fun s32 wr=>∃(k:Nat) (v:Value),k≤bs.length∧s32=iv (f0+(k:Int))∧Hid (SgL X0 n30 n31 #[iv a,iv z,iv q] f0 0 wb kb wr v v (bs.take k))) (fun s32 _=>bs.length-(intOf s32-f0).toNat)
 case atStart=>exact⟨0,sv none 0 0,Nat.zero_le _,by rw[show f0+((0:Nat):Int)=f0 by omega],HS⟩
 case round =>
  obtain⟨k,v,hk,rfl,HSk⟩:=hrel
  clear HS
  obtain⟨y9,yl,hM⟩:=HC.out wr HSk.out.bel
  have z1:wr.cell? (qa n30 1)=some (iv z):=cellB HSk.out.r30 1
  have zl:=lt1 HSk.out.r30
  have hz6:(z:Int)<6:=by omega
  by_cases hkt:k<bs.length
  ·have hkl:f0+(k:Int)<t0:=by have:=Hlen.out;omega
   have hx:=hM.look (f0+(k:Int)) (wf64 (by omega) (by omega))
   rw[Hat.out k hkt] at hx
   have htk:(bs.take k).length=k:=by rw[List.length_take];omega
   obtain⟨ad,cc,rfl⟩:=own_len HSk.out.row
   have HT:Hid (bs.take (k+1)=bs.take k++[bs.getD k 0]):=by rw[Hid,List.take_succ_eq_append_getElem hkt,List.getD_eq_getElem?_getD,List.getElem?_eq_getElem hkt];rfl
   have HSk2:Hid (SgL X0 n30 n31 #[iv a,iv z,iv q] f0 0 wb kb wr (sv ad k cc) (sv ad k cc) (bs.take k)):=by have:=HSk.out;rwa [htk] at this
   have Htk:Hid ((bs.take k).length=k):=htk
   clear HSk htk hM
   generalize bs.getD k 0=x8 at *
   have s1:wr.cell? (qa n31 1)=some (sv ad k cc):=cellB HSk2.out.r31 1
   have sl:=lt1 HSk2.out.r31
   have hA4:=bra wr (.cells #[.int .u8 x8] 5)
   have hS5:=HSk2.out.later hA4
   have hrw:(wr.alloc (.cells #[.int .u8 x8] 5)).ownsRow X0.heap.size 5 1 (sv ad k cc) k (enc8 (bs.take k)):=by have:=hS5.row;rwa [Htk.out] at this
   have HS5:Hid _:=hS5
   have hbs:X0.heap.size≤wr.heap.size:=HSk2.out.bel.size
   have hw1:wrap64 (f0+(k:Int)+1)=f0+(k:Int)+1:=by unfold wrap64;omega
   clear hA4 hS5 HSk2
   go_wp2_with (first
    | (at_builtin;refine wpList_append_own _ rfl _ _ 54 rfl X0.heap.size 5 i0 (.int .u8 0) 1 1 Tryz.underlying54 hi0 hy0 hy1 hy2 rfl (by decide) _ _ _ rfl hrw ⟨wr.heap.size,0,none⟩ 1 1 [.int .u8 x8] rfl rfl (cell_one_new _ _ _) (fun u hu=>by simp at hu;subst hu;rfl) (by unfold maxLen;omega) (by omega) (by simp;omega) ?_;intro v' w3 hown' hgrow3 hnil3;obtain⟨z1',y1',rfl⟩:=own_len hown'
       have hS6:=HS5.out.grow (x:=x8) hgrow3 (by rw[Htk.out];exact hown')
       have m4:w3.cell? (qa n31 1)=some (sv ad k cc):=cellB hS6.r31 1
       have mf:∀j,w3.frozen? (qa n31 j)=false:=frozenB hS6.r31
       have ml:=lt1 hS6.r31
       have HS7:Hid (SgL X0 n30 n31 #[iv a,iv z,iv q] f0 0 wb kb (w3.setCell (qa n31 1) (sv z1' (k+1) y1')) (sv z1' (k+1) y1') (sv z1' (k+1) y1') (bs.take k++[x8])):=hS6.store _
       clear hown' hgrow3 hnil3 hS6 HS5 hrw))
   go_roundw
   case rel=>exact⟨k+1,_,by omega,by rw[Int.natCast_add,←Int.add_assoc];rfl,by rw[HT.out];exact HS7⟩
   case measure=>simp[intOf];omega
  ·have hkl:¬f0+(k:Int)<t0:=by have:=Hlen.out;omega
   obtain rfl:k=bs.length:=by omega
   have HE:Hid (∃v,SgL X0 n30 n31 #[iv a,iv z,iv q] f0 0 wb kb wr v v bs):=by
    have:=HSk.out
    rw[List.take_length] at this
    exact⟨v,this⟩
   clear HSk hM
   generalize f0+(bs.length:Int)=fe at *
   go_wp2_with fail
   exact HE.out
end Go.Proofs.YtpkfmfhodbjckaaGreatDoor
