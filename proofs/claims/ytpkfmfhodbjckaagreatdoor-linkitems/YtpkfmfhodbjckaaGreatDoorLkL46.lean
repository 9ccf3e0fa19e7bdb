/-
  The reference's Linked: the places of a fragment. The reference's Linked: the loop over the fragments' places. The reference's Linked: the three segments.
-/
import Derived.Test.YtpkfmfhodbjckaaGreatDoorLkLp
import Derived.Deep.CutBlock
import Derived.Deep.DeepCutAuto
set_option linter.unusedVariables false
set_option maxHeartbeats 32000000
set_option maxRecDepth 1000000
namespace Go.Proofs.YtpkfmfhodbjckaaGreatDoor
open Go Go.RowKit Go.Maps
attribute [local go_sem] lat_cell
theorem lk_loop4{Aa Ab Ac Ad Ae Af Ag Ah Ai Aj Ak Al Am An Ao Ap Aq Ar As At Au Av Aw Ax Ay Az A0 A1 A2 A3 A4 A5 A6 A7 A8 A9 AA AB AC AD AE AF AG AH AI AJ AK AL AM AN AO AP AQ AR AS AT AU AV AW AX AY AZ Ba Bb Bc Bd Be Bf Bg Bh Bi Bj Bk Bl Bm Bn Bo Bp Bq Br Bs Bt Bu Bv Bw Bx By Bz B0 B1 B2 B3 B4 B5 B6 B7 B8 B9 BA BB BC BD BE BF BG BH BI BJ BK BL BM BN BO BP BQ BR BS BT BU BV BW BX BY BZ Ca Cb Cc Cd Ce Cf Cg Ch Ci Cj Ck Cl Cm Cn Co Cp Cq Cr Cs Ct Cu Cv Cw Cx Cy Cz C0 C1 C2 C3 C4 C5 C6 C7 C8 C9 CA CB CC CD CE CF CG CH CI CJ CK CL CM CN CO CP CQ CR CS CT CU CV CW CX CY CZ Da Db Dc Dd De Df Dg Dh Di Dj Dk Dl Dm Dn Do Dp Dq Dr Ds Dt Du Dv Dw Dx Dy Dz D0 D1 D2 D3 D4 D5 D6 D7 D8 D9 DA DB DC DD DE DF DG DH DI DJ DK DL DM DN DO DP DQ DR DS DT DU DV DW DX DY DZ Ea Eb Ec Ed Ee Ef Eg Eh Ei Ej Ek El Em En:Value}(p:M.Prt)(base:Int)(a1 a2:Option Addr)(c1 c2:Nat)(w W0:World)(b3 b6 b9 b11 bm:Nat)(xfa xna xca:Option Addr)(yf yn yc:Nat)(l:M.Lay)(s:ByteArray)(i:Nat)(ar:Option Addr)(cr:Nat)(vF:Value)(t:List Flt)(m:Int→Int)
  (hl:M.layAll p base=l) (hp:M.Ok p) (ha:M.Apart p base) (hlk:M.LkOk p l) (HFD:Hid (∀W,Below w.heap.size w W→FragsAt W (sv a1 p.frags.length c1) p.frags∧DefsAt W (sv a2 p.defs.length c2) p.defs)) (Hby:Hid (∀f∈p.frags,∀b∈f.bytes,0≤b∧b<256)) (hbm:w.heap.size≤bm) (HSt:Hid (∀W nm,Below w.heap.size w W→LayAt W (sv xfa l.frags.length yf) (sv xna l.names.length yn) (sv xca l.coms.length yc) l→Calls Tryz.prog 32 #[.agg #[sv a1 p.frags.length c1,sv a2 p.defs.length c2],.agg #[sv xfa l.frags.length yf,sv xna l.names.length yn,sv xca l.coms.length yc,iv (l.fr 0),iv (l.fr 1),iv (l.fr 2),iv (l.fr 3),iv (l.fr 4),iv (l.fr 5),iv (l.ti 0),iv (l.ti 1),iv (l.ti 2),iv (l.ti 3),iv (l.ti 4),iv (l.ti 5)],.string nm] W fun e w'=>e=.returned (.tuple #[iv (M.whereOf p l nm).1,iv (M.whereOf p l nm).2])∧Below W.heap.size W w')) (Hns:Hid (∀x∈l.names,x.size≤maxLen)) (H11:Hid (w.heap.size≤b11)) (hsn:s.toList≠[]) (hi:i<p.frags.length) (HR:Hid (∀W,Below w.heap.size w W→RelsAt W (sv ar (p.frags.getD i frg0).rels.length cr) (p.frags.getD i frg0).rels)) (HS:Hid (LnS w b3 b6 b9 b11 #[sv a1 p.frags.length c1,sv a2 p.defs.length c2] (sv xfa l.frags.length yf) (sv xna l.names.length yn) (sv xca l.coms.length yc) l W0 vF vF t)) (HT:Hid (t=M.nameFaults p s++M.placeFaultsN p l (M.nameFaults p s) i)) (htl:t.length≤600+8*i) (HM:Hid (MAt W0 bm (3840+16*i) m∧(M.allFaults p l s=[]→Q2 p base i 0 m))) {Q0:Exit→Act→World→Prop}
  (hexit:∀(Eo Ep Er Es Et Eu Ev Ew Ex Ey Ez E0 E1 E2 E3 E4 E5 E6 E7 E8 E9 EA EB EC ED EE EF EG EH EI EJ EK EL EM EN EO EP EQ ER ES ET EU EV EW EX EY EZ Fa Fb Fc Fd Fe Ff Fg Fh Fi Fj Fk Fl Fm Fn Fo Fp Fq Fr Fs Ft Fu Fv Fw Fx Fy Fz F0 F1 F2 F3 F4 F5 F6 F7 F8 F9 FA FB FC FD FE FF FG FH FI FJ FK FL FM FN FO FP FQ:Value) (w'':World),(∃vF' t' m',LnS w b3 b6 b9 b11 #[sv a1 p.frags.length c1,sv a2 p.defs.length c2] (sv xfa l.frags.length yf) (sv xna l.names.length yn) (sv xca l.coms.length yc) l w'' vF' vF' t'∧t'=M.nameFaults p s++M.placeFaultsN p l (M.nameFaults p s) (i+1)∧t'.length≤600+8*(i+1)∧MAt w'' bm (3840+16*(i+1)) m'∧(M.allFaults p l s=[]→Q2 p base (i+1) 0 m'))→Q0 (.exit 6) ⟨List.toArray (Aa::Ab::Ac::qv b3 0::Ad::Ae::Af::Ag::Ah::qv b9 0::Ai::qv b11 0::Aj::.func (.func 33) #[] #[qv b11 0]::.map (some bm)::Ak::Al::Am::An::iv i::Ao::Ap::Eo::Ep::Er::Es::Et::Eu::Aw::Ax::Ay::Az::A0::A1::A2::A3::A4::A5::A6::A7::A8::A9::AA::AB::AC::AD::AE::AF::AG::AH::AI::AJ::AK::AL::AM::AN::AO::AP::AQ::AR::AS::AT::AU::AV::AW::AX::AY::AZ::Ba::Bb::Bc::Bd::Be::Bf::Bg::Bh::Bi::Bj::Bk::Bl::Bm::Bn::Bo::Bp::Bq::Br::Bs::Bt::Bu::Bv::Bw::Bx::By::Bz::B0::B1::B2::B3::B4::B5::B6::B7::B8::B9::sv ar (p.frags.getD i frg0).rels.length cr::iv (p.frags.getD i frg0).rels.length::Ev::Ew::Ex::Ey::Ez::E0::E1::E2::E3::E4::E5::E6::E7::E8::E9::EA::EB::EC::ED::EE::EF::EG::EH::EI::EJ::EK::EL::EM::EN::EO::EP::EQ::ER::ES::ET::EU::EV::EW::EX::EY::EZ::Fa::Fb::Fc::Fd::Fe::Ff::Fg::Fh::Fi::Fj::Fk::Fl::Fm::Fn::Fo::Fp::Fq::Fr::Fs::Ft::Fu::Fv::Fw::Fx::Fy::Fz::F0::F1::F2::F3::F4::F5::F6::F7::F8::F9::FA::FB::FC::FD::FE::FF::FG::FH::FI::FJ::FK::FL::FM::FN::FO::FP::FQ::Df::Dg::Dh::Di::Dj::Dk::Dl::Dm::Dn::Do::Dp::Dq::Dr::Ds::Dt::Du::Dv::Dw::Dx::Dy::Dz::D0::D1::D2::D3::D4::D5::D6::D7::D8::D9::DA::DB::DC::DD::DE::DF::DG::DH::DI::DJ::DK::DL::DM::DN::DO::DP::DQ::DR::DS::DT::DU::DV::DW::DX::DY::DZ::Ea::Eb::Ec::Ed::Ee::Ef::Eg::Eh::Ei::Ej::Ek::El::Em::En::[]),[]⟩ w'') :
  Code.wp Tryz.prog (Code.loop (((Tryz.f12.body.map loopsOfL).getD [])[3]?.getD .skip:Code)) Q0 ⟨List.toArray (Aa::Ab::Ac::qv b3 0::Ad::Ae::Af::Ag::Ah::qv b9 0::Ai::qv b11 0::Aj::.func (.func 33) #[] #[qv b11 0]::.map (some bm)::Ak::Al::Am::An::iv i::Ao::Ap::Aq::Ar::As::At::Au::Av::Aw::Ax::Ay::Az::A0::A1::A2::A3::A4::A5::A6::A7::A8::A9::AA::AB::AC::AD::AE::AF::AG::AH::AI::AJ::AK::AL::AM::AN::AO::AP::AQ::AR::AS::AT::AU::AV::AW::AX::AY::AZ::Ba::Bb::Bc::Bd::Be::Bf::Bg::Bh::Bi::Bj::Bk::Bl::Bm::Bn::Bo::Bp::Bq::Br::Bs::Bt::Bu::Bv::Bw::Bx::By::Bz::B0::B1::B2::B3::B4::B5::B6::B7::B8::B9::sv ar (p.frags.getD i frg0).rels.length cr::iv (p.frags.getD i frg0).rels.length::iv 0::BA::BB::BC::BD::BE::BF::BG::BH::BI::BJ::BK::BL::BM::BN::BO::BP::BQ::BR::BS::BT::BU::BV::BW::BX::BY::BZ::Ca::Cb::Cc::Cd::Ce::Cf::Cg::Ch::Ci::Cj::Ck::Cl::Cm::Cn::Co::Cp::Cq::Cr::Cs::Ct::Cu::Cv::Cw::Cx::Cy::Cz::C0::C1::C2::C3::C4::C5::C6::C7::C8::C9::CA::CB::CC::CD::CE::CF::CG::CH::CI::CJ::CK::CL::CM::CN::CO::CP::CQ::CR::CS::CT::CU::CV::CW::CX::CY::CZ::Da::Db::Dc::Dd::De::Df::Dg::Dh::Di::Dj::Dk::Dl::Dm::Dn::Do::Dp::Dq::Dr::Ds::Dt::Du::Dv::Dw::Dx::Dy::Dz::D0::D1::D2::D3::D4::D5::D6::D7::D8::D9::DA::DB::DC::DD::DE::DF::DG::DH::DI::DJ::DK::DL::DM::DN::DO::DP::DQ::DR::DS::DT::DU::DV::DW::DX::DY::DZ::Ea::Eb::Ec::Ed::Ee::Ef::Eg::Eh::Ei::Ej::Ek::El::Em::En::[]),[]⟩ W0:=by
 obtain⟨iE,hiE,hE0,hE1,hE2⟩:=info_parts (P:=Tryz.prog) (e:=49) (z:=.agg #[iv 0,.string ⟨#[]⟩,iv 0,iv 0]) (size:=4) (bytes:=40) (by kernel_rfl)
 have hnf:=hp.nf
 have hfm:=getD_mem p.frags frg0 i hi
 have h8:=(M.frag_parts (M.frag_ok hp hfm)).2.2.1
 have hll:i<l.frags.length:=by rw[hlk.len];exact hi
 have hbd:=hlk.bd _ (getD_mem l.frags 0 i hll)
 have HIx:Hid (∀W (k:Nat) (u vF:Value) (t:List Flt),k<l.frags.length→LnS w b3 b6 b9 b11 #[sv a1 p.frags.length c1,sv a2 p.defs.length c2] (sv xfa l.frags.length yf) (sv xna l.names.length yn) (sv xca l.coms.length yc) l W u vF t→∃b off,xfa=some (qa b off)∧W.cell? (qa b (off+k))=some (iv (l.frags.getD k 0))∧b<W.heap.size):=fun W k u vF t hk h=>(row_ints h.rf).cell k hk
 have HPr:Hid (∀j,j<(p.frags.getD i frg0).rels.length→M.RelOk p.frags.length (p.frags.getD i frg0).bytes.length ((p.frags.getD i frg0).rels.getD j rel0)∧(p.frags.getD i frg0).bytes.length≤64):=fun j hj=>M.rel_ok hp hfm (getD_mem _ rel0 j hj)
 have HQp:Hid (∀j m,j<(p.frags.getD i frg0).rels.length→M.allFaults p l s=[]→Q2 p base i j m→Q2 p base i (j+1) (wrN m (l.frags.getD i 0+((p.frags.getD i frg0).rels.getD j rel0).pos) (M.number p l i ((p.frags.getD i frg0).rels.getD j rel0)).1 (M.wide ((p.frags.getD i frg0).rels.getD j rel0).kind).toNat)):=fun j m hj hf h=>h.place hp ha hl hf hi hj
 have HQn:Hid (∀m,Q2 p base i (p.frags.getD i frg0).rels.length m→Q2 p base (i+1) 0 m):=fun m h=>h.next
 have HN0:Hid (∀j,j<(p.frags.getD i frg0).rels.length→M.allFaults p l s=[]→(M.number p l i ((p.frags.getD i frg0).rels.getD j rel0)).2=0):=fun j hj hf=>no_faults hf hi (getD_mem _ rel0 j hj)
 have HNn:Hid (∀j,j<(p.frags.getD i frg0).rels.length→((p.frags.getD i frg0).rels.getD j rel0).name.toList.isEmpty=false→M.faulty (M.nameFaults p s) ((p.frags.getD i frg0).rels.getD j rel0).name=false→M.number p l i ((p.frags.getD i frg0).rels.getD j rel0)=M.value ((p.frags.getD i frg0).rels.getD j rel0).kind (l.frags.getD i 0+((p.frags.getD i frg0).rels.getD j rel0).pos) (M.whereOf p l ((p.frags.getD i frg0).rels.getD j rel0).name).1 ((p.frags.getD i frg0).rels.getD j rel0).add):=fun j hj hn hnt=>num_named hp ha hl hi (getD_mem _ rel0 j hj) hn hnt
 have HAf:Hid (M.allFaults p l s=[]→M.nameFaults p s=[]):=fun h=>(List.append_eq_nil_iff.1 h).1
 have HFb:Hid (∀n:ByteArray,n.toList.isEmpty=true→M.faulty (M.nameFaults p s) n=false):=fun n hn=>faulty_bare hp hsn hn
 have HTd:Hid (∀(n:ByteArray) rs',n.toList.isEmpty=false→told (M.nameFaults p s++(M.placeFaultsN p l (M.nameFaults p s) i++M.fragFaults p l (M.nameFaults p s) i rs')) n=M.faulty (M.nameFaults p s) n):=fun n rs' hn=>told_places (fun e=>by rw[e] at hn;cases hn) (fun f hf=>by
  rcases List.mem_append.1 hf with h|h
  ·exact placeFaultsN_bare h
  ·exact fragFaults_bare h)
 have HPN:Hid (M.placeFaultsN p l (M.nameFaults p s) (i+1)=M.placeFaultsN p l (M.nameFaults p s) i++M.fragFaults p l (M.nameFaults p s) i (p.frags.getD i frg0).rels):=placeFaults_succ p l _ i
 have Hlen:Hid (l.frags.length=p.frags.length):=hlk.len
 clear hfm hp ha hlk hl hsn
 conv=>arg 2;arg 1;whnf
 generalize (p.frags.getD i frg0).rels=rs at *
 generalize (p.frags.getD i frg0).bytes.length=nb at *
 obtain⟨x,HXi⟩:∃x,Hid (l.frags.getD i 0=x):=⟨_,rfl⟩
 rw[HXi.out] at hbd HQp HNn
 go_loopw [106] (fun s106 wr=>∃(j:Nat) (vF:Value) (t:List Flt) (m:Int→Int),j≤rs.length∧s106=iv j∧Hid (LnS w b3 b6 b9 b11 #[sv a1 p.frags.length c1,sv a2 p.defs.length c2] (sv xfa l.frags.length yf) (sv xna l.names.length yn) (sv xca l.coms.length yc) l wr vF vF t)∧Hid (t=M.nameFaults p s++(M.placeFaultsN p l (M.nameFaults p s) i++M.fragFaults p l (M.nameFaults p s) i (rs.take j)))∧t.length≤600+8*i+j∧Hid (MAt wr bm (3840+16*i+2*j) m∧(M.allFaults p l s=[]→Q2 p base i j m))) (fun s106 _=>rs.length-(intOf s106).toNat)
 case atStart=>exact⟨0,vF,t,m,Nat.zero_le _,rfl,HS,by rw[Hid,HT.out];simp[M.fragFaults],by omega,HM.out.1,HM.out.2⟩
 case round =>
  obtain⟨j,vF,t,m,hj,rfl,HSr,HTr,htl,HMr⟩:=hrel
  clear HS HT HM
  by_cases hjt:j<rs.length
  ·clear HPN HQn
   obtain⟨b,off,rfl,e0,e1,e2,e3,e4⟩:=relsAt_cells (HR.out w (Below.refl _ _)) j hjt
   replace e0:=cell_later HSr.out.bel e0
   replace e1:=cell_later HSr.out.bel e1
   replace e2:=cell_later HSr.out.bel e2
   replace e3:=cell_later HSr.out.bel e3
   replace e4:=cell_later HSr.out.bel e4
   have hbr:b<wr.heap.size:=wlt e0
   have hjl:(j:Int)<(rs.length:Int):=by omega
   have HP:=HPr.out j hjt
   have HQ1:Hid _:=HQp.out j m hjt
   have HN1:Hid _:=HN0.out j hjt
   have HN2:Hid _:=HNn.out j hjt
   have HNg:Hid _:=@num_neg p l i (rs.getD j rel0)
   have HNf:Hid _:=@num_frag p l i (rs.getD j rel0)
   rw[HXi.out] at HNf
   have HNr:Hid _:=@num_range p l i (rs.getD j rel0)
   have P1:Hid _:=@placeFault_told p l (M.nameFaults p s) i (rs.getD j rel0)
   have P2:Hid _:=@placeFault_none p l (M.nameFaults p s) i (rs.getD j rel0)
   have P3:Hid _:=@placeFault_some p l (M.nameFaults p s) i (rs.getD j rel0)
   have HT1:Hid (M.nameFaults p s++(M.placeFaultsN p l (M.nameFaults p s) i++M.fragFaults p l (M.nameFaults p s) i (rs.take (j+1)))=t++M.placeFault p l (M.nameFaults p s) i (rs.getD j rel0)):=by
    rw[Hid,fragFaults_take p l _ i rs j hjt,HTr.out];simp only[List.append_assoc]
   have HTd1:Hid ((rs.getD j rel0).name.toList.isEmpty=false→told t (rs.getD j rel0).name=M.faulty (M.nameFaults p s) (rs.getD j rel0).name):=fun hn=>by rw[HTr.out];exact HTd.out _ _ hn
   have HFb1:Hid _:=HFb.out (rs.getD j rel0).name
   have hqp:=HP.1.pos0
   have hqw:=HP.1.pos
   have hqf:=HP.1.frag
   have hqk:=HP.1.kind
   have hqn:=HP.2
   clear HPr HQp HN0 HNn HTd HFb HP HTr
   generalize M.placeFault p l (M.nameFaults p s) i (rs.getD j rel0)=pf at *
   have HNF:Hid (M.number p l i (rs.getD j rel0)=M.number p l i (rs.getD j rel0)):=rfl
   generalize M.number p l i (rs.getD j rel0)=nu at *
   generalize rs.getD j rel0=r at *
   obtain⟨pos,kd,name,fr,ad⟩:=r
   obtain⟨n,en⟩:=nu
   dsimp only at e0 e1 e2 e3 e4 HQ1 HN1 HN2 HNg HNf HNr P1 P2 P3 HTd1 HFb1 hqp hqw hqf hqk
   clear HNF
   have hkw:(Lit.int .i64 kd).wf=true:=by
    rcases M.kinds hqk with h|h|h|h<;>rw[h]<;>decide
   have hwd:1≤M.wide kd∧M.wide kd≤2:=by
    rcases M.kinds hqk with h|h|h|h<;>rw[h]<;>decide
   have hpos:pos≤64:=by omega
   obtain⟨vx,vy,rfl⟩:=own_len HSr.out.row
   have hAl:=bra wr (.cells #[iv pos,iv kd,.string name,iv fr,iv ad] 89)
   have HSZ:Hid _:=HSr.out.later hAl
   have HMZ:Hid _:=HMr.out.1.later hAl
   have HQZ:Hid _:=HMr.out.2
   have hq:=heap_alloc_new wr (.cells #[iv pos,iv kd,.string name,iv fr,iv ad] 89)
   clear hAl HSr HMr
   go_upto_region 25 with fail
   clear e0 e1 e2 e3 e4 hbr
   obtain⟨nz,hnz⟩:∃nz,nz=wr.heap.size:=⟨_,rfl⟩
   rw[←hnz] at hq ⊢
   clear hnz
   generalize wr.alloc (.cells #[iv pos,iv kd,.string name,iv fr,iv ad] 89)=Z at *
   have HSZ1:Hid (LnS w b3 b6 b9 b11 #[sv a1 p.frags.length c1,sv a2 p.defs.length c2] (sv xfa l.frags.length yf) (sv xna l.names.length yn) (sv xca l.coms.length yc) l Z (sv vx t.length vy) (sv vx t.length vy) t):=HSZ
   have HMZ1:Hid (MAt Z bm (3840+16*i+2*j) m):=HMZ
   clear HSZ HMZ
   have z0:Z.cell? (qa nz 0)=some (iv pos):=cellB hq 0
   have z2:Z.cell? (qa nz 2)=some (.string name):=cellB hq 2
   have z3:Z.cell? (qa nz 3)=some (iv fr):=cellB hq 3
   have zl:nz<Z.heap.size:=(Array.getElem?_eq_some_iff.1 hq).1
   have Hq:Hid (Z.heap[nz]?=some (.cells #[iv pos,iv kd,.string name,iv fr,iv ad] 89 (0,0))):=hq
   have KT:Hid (Calls Tryz.prog 33 #[.string name,qv b11 0] Z fun e w'=>e=.returned (.bool (told t name))∧Below Z.heap.size Z w'):=told_any t vx vy b11 name Z (cellB HSZ1.out.c11 0) (row_flts HSZ1.out.row)
   clear hq
   obtain⟨fy,Hfy⟩:∃fy,Hid (M.faulty (M.nameFaults p s) name=fy):=⟨_,rfl⟩
   rw[Hfy.out] at P1 P2 P3 HTd1 HN2 HFb1
   have HAf1:Hid (M.allFaults p l s=[]→fy=false):=fun h=>by rw[←Hfy.out,HAf.out h];rfl
   clear Hfy HAf
   have H3:(name.toList.isEmpty=false∧fy=true)∨(name.toList.isEmpty=true∧fr<0∧n=0∧en=8∧fy=false)∨(fy=false∧∃tt,Hid ((n,en)=M.value kd (x+pos) tt ad)∧Hid (name.toList.isEmpty=false→tt=(M.whereOf p l name).1)∧Hid (name.toList.isEmpty=true→∃fn:Nat,fr=fn∧fn<l.frags.length∧tt=l.frags.getD fn 0)):=by
    cases hn:name.toList.isEmpty
    ·rw[hn] at HN2
     cases fy
     ·exact .inr (.inr ⟨rfl,_,HN2.out rfl rfl,fun _=>rfl,fun h=>(by cases h)⟩)
     ·exact .inl ⟨rfl,rfl⟩
    ·rw[hn] at HNg HNf HFb1
     have hfr:=hqf hn
     by_cases hfr0:fr<0
     ·have hnu:=HNg.out rfl hfr0
      cases hnu
      exact .inr (.inl ⟨rfl,hfr0,rfl,rfl,HFb1.out rfl⟩)
     ·refine .inr (.inr ⟨HFb1.out rfl,_,HNf.out rfl hfr0,fun h=>(by cases h),fun _=>⟨fr.toNat,by omega,by have:=Hlen.out;omega,rfl⟩⟩)
   clear HN2 HNg HNf HFb1 hqf
   rcases H3 with ⟨hn,rfl⟩|⟨hn,hfr0,rfl,rfl,rfl⟩|⟨rfl,tt,HNu,HB,HD⟩
   ·have hb':name.toList.isEmpty=false:=hn
    rw[HTd1.out hn] at KT
    have HE:Hid (M.nameFaults p s++(M.placeFaultsN p l (M.nameFaults p s) i++M.fragFaults p l (M.nameFaults p s) i (rs.take (j+1)))=t):=by rw[Hid,HT1.out,P1.out rfl,List.append_nil]
    have HX:Hid (M.allFaults p l s=[]→Q2 p base i (j+1) m):=fun h=>by have:=HAf1.out h;cases this
    clear HTd1 P1 P2 P3 HT1 HAf1 HQ1 HN1 HNr HQZ Hq
    go_wp2_with (go_at_call 33;refine KT.out.mono ?_;rintro e V ⟨rfl,hbV⟩)
    go_roundw
    case rel=>exact⟨j+1,_,t,m,by omega,by go_num,HSZ1.out.later hbV,HE.out.symm,by omega,(HMZ1.out.later hbV).mono (by omega),HX.out⟩
    case measure=>simp[intOf];omega
   ·have hb':name.toList.isEmpty=true:=hn
    have HE:Hid (M.nameFaults p s++(M.placeFaultsN p l (M.nameFaults p s) i++M.fragFaults p l (M.nameFaults p s) i (rs.take (j+1)))=t++[(⟨8,⟨#[]⟩,i,pos⟩:Flt)]):=by rw[Hid,HT1.out,P3.out (by trivial) (by decide)]
    have HX:Hid (M.allFaults p l s=[]→Q2 p base i (j+1) m):=fun h=>by have:=HN1.out h;cases this
    clear HTd1 P1 P2 P3 HT1 HQ1 HN1 HNr HQZ Hq HAf1 KT
    have k11:Z.cell? (qa b11 0)=some (sv vx t.length vy):=cellB HSZ1.out.c11 0
    have l11:b11<Z.heap.size:=(Array.getElem?_eq_some_iff.1 HSZ1.out.c11).1
    have hA4:=bra Z (.cells #[iv 8,.string ⟨#[]⟩,iv i,iv pos] 49)
    have hS5:=HSZ1.out.later hA4
    have hrw:=hS5.row
    have HS5:Hid _:=hS5
    have HM5:Hid (MAt (Z.alloc (.cells #[iv 8,.string ⟨#[]⟩,iv i,iv pos] 49)) bm (3840+16*i+2*j) m):=HMZ1.out.later hA4
    have hnews:∀j u,(#[iv 8,.string ⟨#[]⟩,iv i,iv pos]:Array Value).toList[j]?=some u→(Z.alloc (.cells #[iv 8,.string ⟨#[]⟩,iv i,iv pos] 49)).cell? ((qa Z.heap.size 0).add j)=some u:=World.news_of_block (heap_alloc_new Z _)
    have hbs:w.heap.size≤Z.heap.size:=HSZ1.out.bel.size
    clear hA4 hS5 HSZ1 HMZ1
    go_wp2_with (first
     | (at_builtin;refine wpList_append_own _ rfl _ _ 26 rfl w.heap.size 49 iE (.agg #[iv 0,.string ⟨#[]⟩,iv 0,iv 0]) 4 40 Tryz.underlying26 hiE hE0 hE1 hE2 rfl (by decide) _ _ _ rfl hrw ⟨Z.heap.size,0,none⟩ 1 1 (#[iv 8,.string ⟨#[]⟩,iv i,iv pos]:Array Value).toList rfl rfl hnews (fun u hu=>by simp at hu;rcases hu with rfl|rfl|rfl|rfl<;>rfl) (by unfold maxLen;omega) (by omega) (by simp;omega) ?_;intro v' w3 hown' hgrow3 hnil3;obtain⟨z1,y1,rfl⟩:=own_len hown'
        have hS6:=HS5.out.grow (f:=⟨8,⟨#[]⟩,i,pos⟩) hgrow3 hown'
        have hM6:=HS5.out.mgrow HM5.out hgrow3
        have m4:w3.cell? (qa b11 0)=some (sv vx t.length vy):=cellB hS6.c11 0
        have mf:∀j,w3.frozen? (qa b11 j)=false:=frozenB hS6.c11
        have ml:b11<w3.heap.size:=(Array.getElem?_eq_some_iff.1 hS6.c11).1
        have HS7:Hid (LnS w b3 b6 b9 b11 #[sv a1 p.frags.length c1,sv a2 p.defs.length c2] (sv xfa l.frags.length yf) (sv xna l.names.length yn) (sv xca l.coms.length yc) l (w3.setCell (qa b11 0) (sv z1 (t.length+1) y1)) (sv z1 (t.length+1) y1) (sv z1 (t.length+1) y1) (t++[⟨8,⟨#[]⟩,i,pos⟩])):=hS6.store H11.out _
        have HM7:Hid (MAt (w3.setCell (qa b11 0) (sv z1 (t.length+1) y1)) bm (3840+16*i+2*j) m):=hS6.mstore hM6 _
        clear hown' hgrow3 hnil3 hS6 hM6 HS5 HM5 hrw hnews k11))
    go_roundw
    case rel=>exact⟨j+1,_,t++[(⟨8,⟨#[]⟩,i,pos⟩:Flt)],m,by omega,by go_num,HS7,HE.out.symm,by simp;omega,HM7.out.mono (by omega),HX.out⟩
    case measure=>simp[intOf];omega
   ·clear P1 HAf1
    go_upto_block 8 with fail
    go_cut [23] from 107 to 199 (fun s23 wx=>s23=iv tt∧Hid (Below Z.heap.size Z wx))
    case first =>
     clear P2 P3 HT1 HQ1 HN1 HNr HQZ HNu
     cases hn:name.toList.isEmpty
     ·have hb':name.toList.isEmpty=false:=hn
      rw[HTd1.out hn] at KT
      obtain rfl:=HB.out hn
      have KS1:Hid (∀W,Below Z.heap.size Z W→Calls Tryz.prog 32 #[.agg #[sv a1 p.frags.length c1,sv a2 p.defs.length c2],.agg #[sv xfa l.frags.length yf,sv xna l.names.length yn,sv xca l.coms.length yc,iv (l.fr 0),iv (l.fr 1),iv (l.fr 2),iv (l.fr 3),iv (l.fr 4),iv (l.fr 5),iv (l.ti 0),iv (l.ti 1),iv (l.ti 2),iv (l.ti 3),iv (l.ti 4),iv (l.ti 5)],.string name] W fun e w'=>e=.returned (.tuple #[iv (M.whereOf p l name).1,iv (M.whereOf p l name).2])∧Below W.heap.size W w'):=fun W hW=>HSt.out W name (HSZ1.out.later hW).bel ((HSZ1.out.later hW).lay Hns.out)
      clear HTd1 HB HD
      generalize M.whereOf p l name=WS at *
      obtain⟨w1,w2⟩:=WS
      dsimp only at KS1 ⊢
      go_upto_region 29 with (go_at_call 33;refine KT.out.mono ?_;rintro e V ⟨rfl,hbV⟩;have z2V:=cell_later hbV z2;have zlV:nz<V.heap.size:=Nat.lt_of_lt_of_le zl hbV.size)
      have hS2:=HSZ1.out.later hbV
      have d0:V.cell? (qa b3 0)=some (sv a1 p.frags.length c1):=cellB hS2.c3 0
      have d1:V.cell? (qa b3 1)=some (sv a2 p.defs.length c2):=cellB hS2.c3 1
      have dl:b3<V.heap.size:=(Array.getElem?_eq_some_iff.1 hS2.c3).1
      have y0:V.cell? (qa b9 0)=some (sv xfa l.frags.length yf):=cellB hS2.c9 0
      have y1:V.cell? (qa b9 1)=some (sv xna l.names.length yn):=cellB hS2.c9 1
      have y2:V.cell? (qa b9 2)=some (sv xca l.coms.length yc):=cellB hS2.c9 2
      have y3:V.cell? (qa b9 3)=some (iv (l.fr 0)):=cellB hS2.c9 3
      have y4:V.cell? (qa b9 4)=some (iv (l.fr 1)):=cellB hS2.c9 4
      have y5:V.cell? (qa b9 5)=some (iv (l.fr 2)):=cellB hS2.c9 5
      have y6:V.cell? (qa b9 6)=some (iv (l.fr 3)):=cellB hS2.c9 6
      have y7:V.cell? (qa b9 7)=some (iv (l.fr 4)):=cellB hS2.c9 7
      have y8:V.cell? (qa b9 8)=some (iv (l.fr 5)):=cellB hS2.c9 8
      have y9:V.cell? (qa b9 9)=some (iv (l.ti 0)):=cellB hS2.c9 9
      have y10:V.cell? (qa b9 10)=some (iv (l.ti 1)):=cellB hS2.c9 10
      have y11:V.cell? (qa b9 11)=some (iv (l.ti 2)):=cellB hS2.c9 11
      have y12:V.cell? (qa b9 12)=some (iv (l.ti 3)):=cellB hS2.c9 12
      have y13:V.cell? (qa b9 13)=some (iv (l.ti 4)):=cellB hS2.c9 13
      have y14:V.cell? (qa b9 14)=some (iv (l.ti 5)):=cellB hS2.c9 14
      have yl:b9<V.heap.size:=(Array.getElem?_eq_some_iff.1 hS2.c9).1
      have KS2:Hid (Calls Tryz.prog 32 #[.agg #[sv a1 p.frags.length c1,sv a2 p.defs.length c2],.agg #[sv xfa l.frags.length yf,sv xna l.names.length yn,sv xca l.coms.length yc,iv (l.fr 0),iv (l.fr 1),iv (l.fr 2),iv (l.fr 3),iv (l.fr 4),iv (l.fr 5),iv (l.ti 0),iv (l.ti 1),iv (l.ti 2),iv (l.ti 3),iv (l.ti 4),iv (l.ti 5)],.string name] V fun e w'=>e=.returned (.tuple #[iv w1,iv w2])∧Below V.heap.size V w'):=KS1.out V hbV
      clear KS1 hS2 KT z0 z2 z3 zl Hq
      go_wp2_with (go_at_call 32;refine KS2.out.mono ?_;rintro e V3 ⟨rfl,hb3⟩)
      go_meet
      exact⟨rfl,hbV.trans (hb3.mono hbV.size)⟩
     ·have hb':name.toList.isEmpty=true:=hn
      obtain⟨fn,rfl,hfl,rfl⟩:=HD.out hn
      have hfl':(fn:Int)<(l.frags.length:Int):=by omega
      obtain⟨b4,off4,rfl,hc4,hb4⟩:=HIx.out Z fn _ _ _ hfl HSZ1.out
      have y0:Z.cell? (qa b9 0)=some (sv (some (qa b4 off4)) l.frags.length yf):=cellB HSZ1.out.c9 0
      have yl:b9<Z.heap.size:=(Array.getElem?_eq_some_iff.1 HSZ1.out.c9).1
      clear HTd1 HB HD KT Hq
      generalize l.frags.getD fn 0=xx at *
      go_wp2_with fail
      go_meet
      exact⟨rfl,Below.refl _ _⟩
    case rest =>
     rename World=>V
     obtain⟨rfl,hbV⟩:=hcut
     have HSV:Hid (LnS w b3 b6 b9 b11 #[sv a1 p.frags.length c1,sv a2 p.defs.length c2] (sv xfa l.frags.length yf) (sv xna l.names.length yn) (sv xca l.coms.length yc) l V (sv vx t.length vy) (sv vx t.length vy) t):=HSZ1.out.later hbV.out
     have HMV:Hid (MAt V bm (3840+16*i+2*j) m):=HMZ1.out.later hbV.out
     have HqV:Hid (V.heap[nz]?=some (.cells #[iv pos,iv kd,.string name,iv fr,iv ad] 89 (0,0))):=(hbV.out.block _ zl).trans Hq.out
     clear HSZ1 HMZ1 Hq KT HTd1 HB HD z0 z2 z3 zl hbV
     have z0:V.cell? (qa nz 0)=some (iv pos):=cellB HqV.out 0
     have z1:V.cell? (qa nz 1)=some (iv kd):=cellB HqV.out 1
     have z4:V.cell? (qa nz 4)=some (iv ad):=cellB HqV.out 4
     have zl:nz<V.heap.size:=(Array.getElem?_eq_some_iff.1 HqV.out).1
     obtain⟨b4,off4,hxe,hc4,hb4⟩:=HIx.out V i _ _ _ hll HSV.out
     have y0:V.cell? (qa b9 0)=some (sv (some (qa b4 off4)) l.frags.length yf):=by rw[←hxe];exact cellB HSV.out.c9 0
     have yl:b9<V.heap.size:=(Array.getElem?_eq_some_iff.1 HSV.out.c9).1
     have hil:(i:Int)<(l.frags.length:Int):=by omega
     have HXe:Hid (xfa=some (qa b4 off4)):=hxe
     clear hxe
     rw[HXi.out] at hc4
     have hwx:wrap64 (x+pos)=x+pos:=by unfold wrap64;omega
     have KV:Hid (∀W,Calls Tryz.prog 36 #[iv kd,iv (x+pos),iv tt,iv ad] W fun e w'=>e=.returned (.tuple #[iv n,iv en])∧Below W.heap.size W w'):=fun W=>by
      have:=valueOf_any kd (x+pos) tt ad W hkw
      rw[←HNu.out] at this
      exact this
     clear HNu
     go_wp2_with fail
     refine wp_region_lat (by kernel_rfl) (by kernel_rfl) ?_
     intro hne
     repeat (go_big_quiet_step ((go_at_call 36;exact lat_of (KV.out _))))
     refine wpQuiet_nil ?_
     intro V2 hb2
     have hb3:=lat_out hb2
     clear hb2 hne KV
     have HS2:Hid (LnS w b3 b6 b9 b11 #[sv a1 p.frags.length c1,sv a2 p.defs.length c2] (sv xfa l.frags.length yf) (sv xna l.names.length yn) (sv xca l.coms.length yc) l V2 (sv vx t.length vy) (sv vx t.length vy) t):=HSV.out.later hb3
     have HM2:Hid (MAt V2 bm (3840+16*i+2*j) m):=HMV.out.later hb3
     have Hq2:Hid (V2.heap[nz]?=some (.cells #[iv pos,iv kd,.string name,iv fr,iv ad] 89 (0,0))):=(hb3.block _ zl).trans HqV.out
     clear HSV HMV HqV z0 z1 z4 zl y0 yl hc4 hb4 hb3
     have z0:V2.cell? (qa nz 0)=some (iv pos):=cellB Hq2.out 0
     have z1:V2.cell? (qa nz 1)=some (iv kd):=cellB Hq2.out 1
     have zl:nz<V2.heap.size:=(Array.getElem?_eq_some_iff.1 Hq2.out).1
     by_cases hne:en=0
     ·subst hne
      have HE:Hid (M.nameFaults p s++(M.placeFaultsN p l (M.nameFaults p s) i++M.fragFaults p l (M.nameFaults p s) i (rs.take (j+1)))=t):=by rw[Hid,HT1.out,P2.out (by trivial) (by trivial),List.append_nil]
      have hnr:=HNr.out rfl
      have HX:Hid (M.allFaults p l s=[]→Q2 p base i (j+1) (wrN m (x+pos) n (M.wide kd).toNat)):=fun h=>HQ1.out h (HQZ.out h)
      clear P2 P3 HT1 HN1 HNr HQ1 HQZ
      have HD2:Hid (∀k,k<(M.wide kd).toNat→k=0∨k=1):=fun k hk=>by omega
      have hd2:(M.wide kd).toNat≤2:=by omega
      have KL:Hid (∀W,Calls Tryz.prog 37 #[iv kd,iv n] W fun e w'=>Below W.heap.size W w'∧∃g,e=.returned (sv (some (qa g 0)) (M.wide kd).toNat 2)∧w'.heap[g]?=some (.cells #[.int .u8 (M.byteAt n 0),.int .u8 (M.byteAt n 1)] 5 (0,0))):=fun W=>low_any kd n W hkw hqk hnr.1 hnr.2
      have hby:=low_parts hnr.1 hnr.2
      have HBt:Hid (∀k,k<(M.wide kd).toNat→0≤M.byteAt n k∧M.byteAt n k<256):=fun k hk=>by
       rcases HD2.out k hk with rfl|rfl
       ·exact⟨hby.2.2.1,hby.2.2.2.1⟩
       ·exact⟨hby.2.2.2.2.1,hby.2.2.2.2.2⟩
      clear hby hnr
      generalize (M.wide kd).toNat=d at *
      go_upto_region 36 with (go_at_call 37;refine(KL.out _).mono ?_;rintro e V3 ⟨hb3,g,rfl,hg⟩)
      have HS3:Hid (LnS w b3 b6 b9 b11 #[sv a1 p.frags.length c1,sv a2 p.defs.length c2] (sv xfa l.frags.length yf) (sv xna l.names.length yn) (sv xca l.coms.length yc) l V3 (sv vx t.length vy) (sv vx t.length vy) t):=HS2.out.later hb3
      have HM3:Hid (MAt V3 bm (3840+16*i+2*j+0) (wrN m (x+pos) n 0)):=by rw[wrN_zero];exact HM2.out.later hb3
      have Hq3:Hid (V3.heap[nz]?=some (.cells #[iv pos,iv kd,.string name,iv fr,iv ad] 89 (0,0))):=(hb3.block _ zl).trans Hq2.out
      have Hg3:Hid (V3.heap[g]?=some (.cells #[.int .u8 (M.byteAt n 0),.int .u8 (M.byteAt n 1)] 5 (0,0))):=hg
      clear HS2 HM2 Hq2 z0 z1 zl hb3 hg KL
      go_loopw [181] (fun s181 wr=>∃(k:Nat),k≤d∧s181=iv k∧Hid (LnS w b3 b6 b9 b11 #[sv a1 p.frags.length c1,sv a2 p.defs.length c2] (sv xfa l.frags.length yf) (sv xna l.names.length yn) (sv xca l.coms.length yc) l wr (sv vx t.length vy) (sv vx t.length vy) t)∧Hid (MAt wr bm (3840+16*i+2*j+k) (wrN m (x+pos) n k))∧Hid (wr.heap[nz]?=some (.cells #[iv pos,iv kd,.string name,iv fr,iv ad] 89 (0,0))∧wr.heap[g]?=some (.cells #[.int .u8 (M.byteAt n 0),.int .u8 (M.byteAt n 1)] 5 (0,0)))) (fun s181 _=>d-(intOf s181).toNat)
      case atStart=>exact⟨0,Nat.zero_le _,rfl,HS3,HM3,Hq3.out,Hg3.out⟩
      case round =>
       obtain⟨k,hk,rfl,HSk,HMk,HBk⟩:=hrel
       clear HS3 HM3 Hq3 Hg3
       by_cases hkt:k<d
       ·have hkl:(k:Int)<(d:Int):=by omega
        have c0:wr.cell? (qa g k)=some (.int .u8 (M.byteAt n k)):=by
         rcases HD2.out k hkt with rfl|rfl
         ·exact cellB HBk.out.2 0
         ·exact cellB HBk.out.2 1
        have gl:g<wr.heap.size:=(Array.getElem?_eq_some_iff.1 HBk.out.2).1
        have z0:wr.cell? (qa nz 0)=some (iv pos):=cellB HBk.out.1 0
        have zl:nz<wr.heap.size:=(Array.getElem?_eq_some_iff.1 HBk.out.1).1
        obtain⟨b5,off5,hxe,hc4,hb4⟩:=HIx.out wr i _ _ _ hll HSk.out
        have y0:wr.cell? (qa b9 0)=some (sv (some (qa b5 off5)) l.frags.length yf):=by rw[←hxe];exact cellB HSk.out.c9 0
        have yl:b9<wr.heap.size:=(Array.getElem?_eq_some_iff.1 HSk.out.c9).1
        clear hxe
        rw[HXi.out] at hc4
        have hbt:=HBt.out k hkt
        have hw2:wrap64 (x+pos+(k:Int))=x+pos+(k:Int):=by unfold wrap64;omega
        obtain⟨v,hv⟩:∃v,M.byteAt n k=v:=⟨_,rfl⟩
        have Hv:Hid (M.byteAt n k=v):=hv
        rw[hv] at c0 hbt
        clear hv
        go_upto_region 38 with fail
        refine wp_region_tail 12 (by kernel_rfl) (by kernel_rfl) ?_
        intro hne
        simp only[List.take_succ_cons,List.take_zero,List.drop_succ_cons,List.drop_zero]
        repeat (go_big_quiet_step (fail))
        refine wpQuiet_nil ?_
        intro Y hY
        have hdw:=lat_out hY
        have HMd:=HMk.out.later hdw
        have HSd:=HSk.out.later hdw
        have HBd1:=(hdw.block _ zl).trans HBk.out.1
        have HBd2:=(hdw.block _ gl).trans HBk.out.2
        obtain⟨w3,hrun,hM,hgr⟩:=HMd.put (by unfold maxLen;omega) (x+pos+(k:Int)) v (wf64 (by omega) (by omega)) (wfU8 hbt.1 hbt.2)
        rw[←Hv.out,wrN_succ] at hM
        obtain⟨hnb,hgb⟩:w3.heap[nz]?=Y.heap[nz]?∧w3.heap[g]?=Y.heap[g]?:=HMd.keep hgr HBd1 HBd2
        have HP:Hid (LnS w b3 b6 b9 b11 #[sv a1 p.frags.length c1,sv a2 p.defs.length c2] (sv xfa l.frags.length yf) (sv xna l.names.length yn) (sv xca l.coms.length yc) l w3 (sv vx t.length vy) (sv vx t.length vy) t∧MAt w3 bm (3840+16*i+2*j+k+1) (wrN m (x+pos) n (k+1))∧w3.heap[nz]?=some (.cells #[iv pos,iv kd,.string name,iv fr,iv ad] 89 (0,0))∧w3.heap[g]?=some (.cells #[.int .u8 (M.byteAt n 0),.int .u8 (M.byteAt n 1)] 5 (0,0))):=⟨HSd.map HMd hgr hbm,hM,hnb.trans HBd1,hgb.trans HBd2⟩
        clear hM hgr hnb hgb HSk HMk HBk hbt hdw hY hne HMd HSd HBd1 HBd2 c0 gl z0 zl hc4 hb4 y0 yl
        go_wp2_with fail
        go_roundw
        case rel=>exact⟨k+1,by omega,by go_num,HP.out.1,HP.out.2.1,HP.out.2.2⟩
        case measure=>simp[intOf];omega
       ·obtain rfl:k=d:=by omega
        have HP:Hid (LnS w b3 b6 b9 b11 #[sv a1 p.frags.length c1,sv a2 p.defs.length c2] (sv xfa l.frags.length yf) (sv xna l.names.length yn) (sv xca l.coms.length yc) l wr (sv vx t.length vy) (sv vx t.length vy) t∧MAt wr bm (3840+16*i+2*(j+1)) (wrN m (x+pos) n k)):=⟨HSk.out,HMk.out.mono (by omega)⟩
        clear HSk HMk HBk HBt HD2
        go_wp2_with fail
        go_roundw
        case rel=>exact⟨j+1,_,t,_,by omega,by go_num,HP.out.1,HE.out.symm,by omega,HP.out.2,HX.out⟩
        case measure=>simp[intOf];omega
     ·have hne':(en !=0)=true:=by simpa using hne
      have HE:Hid (M.nameFaults p s++(M.placeFaultsN p l (M.nameFaults p s) i++M.fragFaults p l (M.nameFaults p s) i (rs.take (j+1)))=t++[(⟨en,⟨#[]⟩,i,pos⟩:Flt)]):=by rw[Hid,HT1.out,P3.out (by trivial) hne]
      have HX:Hid (M.allFaults p l s=[]→Q2 p base i (j+1) m):=fun h=>absurd (HN1.out h) hne
      clear P2 P3 HT1 HN1 HNr HQ1 HQZ Hq2 HXe hne
      have k11:V2.cell? (qa b11 0)=some (sv vx t.length vy):=cellB HS2.out.c11 0
      have l11:b11<V2.heap.size:=(Array.getElem?_eq_some_iff.1 HS2.out.c11).1
      have hA4:=bra V2 (.cells #[iv en,.string ⟨#[]⟩,iv i,iv pos] 49)
      have hS5:=HS2.out.later hA4
      have hrw:=hS5.row
      have HS5:Hid _:=hS5
      have HM5:Hid (MAt (V2.alloc (.cells #[iv en,.string ⟨#[]⟩,iv i,iv pos] 49)) bm (3840+16*i+2*j) m):=HM2.out.later hA4
      have hnews:∀j u,(#[iv en,.string ⟨#[]⟩,iv i,iv pos]:Array Value).toList[j]?=some u→(V2.alloc (.cells #[iv en,.string ⟨#[]⟩,iv i,iv pos] 49)).cell? ((qa V2.heap.size 0).add j)=some u:=World.news_of_block (heap_alloc_new V2 _)
      have hbs:w.heap.size≤V2.heap.size:=HS2.out.bel.size
      clear hA4 hS5 HS2 HM2
      go_wp2_with (first
       | (at_builtin;refine wpList_append_own _ rfl _ _ 26 rfl w.heap.size 49 iE (.agg #[iv 0,.string ⟨#[]⟩,iv 0,iv 0]) 4 40 Tryz.underlying26 hiE hE0 hE1 hE2 rfl (by decide) _ _ _ rfl hrw ⟨V2.heap.size,0,none⟩ 1 1 (#[iv en,.string ⟨#[]⟩,iv i,iv pos]:Array Value).toList rfl rfl hnews (fun u hu=>by simp at hu;rcases hu with rfl|rfl|rfl|rfl<;>rfl) (by unfold maxLen;omega) (by omega) (by simp;omega) ?_;intro v' w3 hown' hgrow3 hnil3;obtain⟨z1,y1,rfl⟩:=own_len hown'
          have hS6:=HS5.out.grow (f:=⟨en,⟨#[]⟩,i,pos⟩) hgrow3 hown'
          have hM6:=HS5.out.mgrow HM5.out hgrow3
          have m4:w3.cell? (qa b11 0)=some (sv vx t.length vy):=cellB hS6.c11 0
          have mf:∀j,w3.frozen? (qa b11 j)=false:=frozenB hS6.c11
          have ml:b11<w3.heap.size:=(Array.getElem?_eq_some_iff.1 hS6.c11).1
          have HS7:Hid (LnS w b3 b6 b9 b11 #[sv a1 p.frags.length c1,sv a2 p.defs.length c2] (sv xfa l.frags.length yf) (sv xna l.names.length yn) (sv xca l.coms.length yc) l (w3.setCell (qa b11 0) (sv z1 (t.length+1) y1)) (sv z1 (t.length+1) y1) (sv z1 (t.length+1) y1) (t++[⟨en,⟨#[]⟩,i,pos⟩])):=hS6.store H11.out _
          have HM7:Hid (MAt (w3.setCell (qa b11 0) (sv z1 (t.length+1) y1)) bm (3840+16*i+2*j) m):=hS6.mstore hM6 _
          clear hown' hgrow3 hnil3 hS6 hM6 HS5 HM5 hrw hnews k11))
      go_roundw
      case rel=>exact⟨j+1,_,t++[(⟨en,⟨#[]⟩,i,pos⟩:Flt)],m,by omega,by go_num,HS7,HE.out.symm,by simp;omega,HM7.out.mono (by omega),HX.out⟩
      case measure=>simp[intOf];omega
  ·obtain rfl:j=rs.length:=by omega
   have HE:Hid (∃vF' t' m',LnS w b3 b6 b9 b11 #[sv a1 p.frags.length c1,sv a2 p.defs.length c2] (sv xfa l.frags.length yf) (sv xna l.names.length yn) (sv xca l.coms.length yc) l wr vF' vF' t'∧t'=M.nameFaults p s++M.placeFaultsN p l (M.nameFaults p s) (i+1)∧t'.length≤600+8*(i+1)∧MAt wr bm (3840+16*(i+1)) m'∧(M.allFaults p l s=[]→Q2 p base (i+1) 0 m')):=⟨vF,t,m,HSr.out,by rw[HTr.out,HPN.out,List.take_length],by omega,HMr.out.1.mono (by omega),fun h=>HQn.out m (HMr.out.2 h)⟩
   clear HSr HTr HMr HPN HQn HQp HN0 HNn HTd HFb HPr HAf
   go_wp2_with fail
   exact HE.out
end Go.Proofs.YtpkfmfhodbjckaaGreatDoor
namespace Go.Proofs.YtpkfmfhodbjckaaGreatDoor
open Go Go.RowKit Go.Maps
theorem lk_loop3{Aa Ab Ac Ad Ae Af Ag Ah Ai Aj Ak Al Am An FR Ao Ap Aq Ar As At Au Av Aw Ax Ay Az A0 A1 A2 A3 A4 A5 A6 A7 A8 A9 AA AB AC AD AE AF AG AH AI AJ AK AL AM AN AO AP AQ AR AS AT AU AV AW AX AY AZ Ba Bb Bc Bd Be Bf Bg Bh Bi Bj Bk Bl Bm Bn Bo Bp Bq Br Bs Bt Bu Bv Bw Bx By Bz B0 B1 B5 B6 B7 B8 B9 FS FT FU BA BB BC BD BE BF BG BH BI BJ BK BL BM BN BO BP BQ BR BS BT BU BV BW BX BY BZ Ca Cb Cc Cd Ce Cf Cg Ch Ci Cj Ck Cl Cm Cn Co Cp Cq Cr Cs Ct Cu Cv Cw Cx Cy Cz C0 C1 C2 C3 C4 C5 C6 C7 C8 C9 CA CB CC CD CE CF CG CH CI CJ CK CL CM CN CO CP CQ CR CS CT CU CV CW CX CY CZ Da Db Dc Dd De Df Dg Dh Di Dj Dk Dl Dm Dn Do Dp Dq Dr Ds Dt Du Dv Dw Dx Dy Dz D0 D1 D2 D3 D4 D5 D6 D7 D8 D9 DA DB DC DD DE DF DG DH DI DJ DK DL DM DN DO DP DQ DR DS DT DU DV DW DX DY DZ Ea Eb Ec Ed Ee Ef Eg Eh Ei Ej Ek El Em En:Value}(p:M.Prt)(base:Int)(a1 a2:Option Addr)(c1 c2:Nat)(w W0:World)(b3 b6 b9 b11 bm:Nat)(xfa xna xca:Option Addr)(yf yn yc:Nat)(l:M.Lay)(s:ByteArray)(vF:Value)(t:List Flt)(m:Int→Int)
  (hl:M.layAll p base=l) (hp:M.Ok p) (ha:M.Apart p base) (hlk:M.LkOk p l) (HFD:Hid (∀W,Below w.heap.size w W→FragsAt W (sv a1 p.frags.length c1) p.frags∧DefsAt W (sv a2 p.defs.length c2) p.defs)) (Hby:Hid (∀f∈p.frags,∀b∈f.bytes,0≤b∧b<256)) (hbm:w.heap.size≤bm) (HSt:Hid (∀W nm,Below w.heap.size w W→LayAt W (sv xfa l.frags.length yf) (sv xna l.names.length yn) (sv xca l.coms.length yc) l→Calls Tryz.prog 32 #[.agg #[sv a1 p.frags.length c1,sv a2 p.defs.length c2],.agg #[sv xfa l.frags.length yf,sv xna l.names.length yn,sv xca l.coms.length yc,iv (l.fr 0),iv (l.fr 1),iv (l.fr 2),iv (l.fr 3),iv (l.fr 4),iv (l.fr 5),iv (l.ti 0),iv (l.ti 1),iv (l.ti 2),iv (l.ti 3),iv (l.ti 4),iv (l.ti 5)],.string nm] W fun e w'=>e=.returned (.tuple #[iv (M.whereOf p l nm).1,iv (M.whereOf p l nm).2])∧Below W.heap.size W w')) (Hns:Hid (∀x∈l.names,x.size≤maxLen)) (H11:Hid (w.heap.size≤b11)) (hsn:s.toList≠[]) (HS:Hid (LnS w b3 b6 b9 b11 #[sv a1 p.frags.length c1,sv a2 p.defs.length c2] (sv xfa l.frags.length yf) (sv xna l.names.length yn) (sv xca l.coms.length yc) l W0 vF vF t)) (HT:Hid (t=M.nameFaults p s)) (htl:t.length≤600) (HM:Hid (MAt W0 bm 3840 m∧(M.allFaults p l s=[]→Q2 p base 0 0 m))) {Q0:Exit→Act→World→Prop}
  (hexit:∀(FV FW Eo Ep Er Es Et Eu FX FY FZ Ga Gb Gc Gd Ge Ev Ew Ex Ey Ez E0 E1 E2 E3 E4 E5 E6 E7 E8 E9 EA EB EC ED EE EF EG EH EI EJ EK EL EM EN EO EP EQ ER ES ET EU EV EW EX EY EZ Fa Fb Fc Fd Fe Ff Fg Fh Fi Fj Fk Fl Fm Fn Fo Fp Fq Fr Fs Ft Fu Fv Fw Fx Fy Fz F0 F1 F2 F3 F4 F5 F6 F7 F8 F9 FA FB FC FD FE FF FG FH FI FJ FK FL FM FN FO FP FQ Gf:Value) (w'':World),(∃vF' t' m',LnS w b3 b6 b9 b11 #[sv a1 p.frags.length c1,sv a2 p.defs.length c2] (sv xfa l.frags.length yf) (sv xna l.names.length yn) (sv xca l.coms.length yc) l w'' vF' vF' t'∧t'=M.allFaults p l s∧t'.length≤1080∧MAt w'' bm 4800 m'∧(M.allFaults p l s=[]→Q2 p base p.frags.length 0 m'))→Q0 (.exit 4) ⟨List.toArray (Aa::Ab::Ac::qv b3 0::Ad::Ae::Af::Ag::Ah::qv b9 0::Ai::qv b11 0::Aj::.func (.func 33) #[] #[qv b11 0]::.map (some bm)::Ak::Al::Am::An::FV::FW::Ap::Eo::Ep::Er::Es::Et::Eu::Aw::Ax::Ay::Az::A0::A1::A2::A3::A4::A5::A6::A7::A8::A9::AA::AB::AC::AD::AE::AF::AG::AH::AI::AJ::AK::AL::AM::AN::AO::AP::AQ::AR::AS::AT::AU::AV::AW::AX::AY::AZ::Ba::Bb::Bc::Bd::Be::Bf::Bg::Bh::Bi::Bj::Bk::Bl::Bm::Bn::Bo::Bp::Bq::Br::Bs::Bt::Bu::Bv::Bw::Bx::By::Bz::B0::B1::sv a1 p.frags.length c1::iv p.frags.length::FX::FY::FZ::Ga::Gb::Gc::Gd::Ge::Ev::Ew::Ex::Ey::Ez::E0::E1::E2::E3::E4::E5::E6::E7::E8::E9::EA::EB::EC::ED::EE::EF::EG::EH::EI::EJ::EK::EL::EM::EN::EO::EP::EQ::ER::ES::ET::EU::EV::EW::EX::EY::EZ::Fa::Fb::Fc::Fd::Fe::Ff::Fg::Fh::Fi::Fj::Fk::Fl::Fm::Fn::Fo::Fp::Fq::Fr::Fs::Ft::Fu::Fv::Fw::Fx::Fy::Fz::F0::F1::F2::F3::F4::F5::F6::F7::F8::F9::FA::FB::FC::FD::FE::FF::FG::FH::FI::FJ::FK::FL::FM::FN::FO::FP::FQ::Gf::Dg::Dh::Di::Dj::Dk::Dl::Dm::Dn::Do::Dp::Dq::Dr::Ds::Dt::Du::Dv::Dw::Dx::Dy::Dz::D0::D1::D2::D3::D4::D5::D6::D7::D8::D9::DA::DB::DC::DD::DE::DF::DG::DH::DI::DJ::DK::DL::DM::DN::DO::DP::DQ::DR::DS::DT::DU::DV::DW::DX::DY::DZ::Ea::Eb::Ec::Ed::Ee::Ef::Eg::Eh::Ei::Ej::Ek::El::Em::En::[]),[]⟩ w'') :
  Code.wp Tryz.prog (Code.loop (((Tryz.f12.body.map loopsOfL).getD [])[2]?.getD .skip:Code)) Q0 ⟨List.toArray (Aa::Ab::Ac::qv b3 0::Ad::Ae::Af::Ag::Ah::qv b9 0::Ai::qv b11 0::Aj::.func (.func 33) #[] #[qv b11 0]::.map (some bm)::Ak::Al::Am::An::FR::Ao::Ap::Aq::Ar::As::At::Au::Av::Aw::Ax::Ay::Az::A0::A1::A2::A3::A4::A5::A6::A7::A8::A9::AA::AB::AC::AD::AE::AF::AG::AH::AI::AJ::AK::AL::AM::AN::AO::AP::AQ::AR::AS::AT::AU::AV::AW::AX::AY::AZ::Ba::Bb::Bc::Bd::Be::Bf::Bg::Bh::Bi::Bj::Bk::Bl::Bm::Bn::Bo::Bp::Bq::Br::Bs::Bt::Bu::Bv::Bw::Bx::By::Bz::B0::B1::sv a1 p.frags.length c1::iv p.frags.length::iv 0::B5::B6::B7::B8::B9::FS::FT::FU::BA::BB::BC::BD::BE::BF::BG::BH::BI::BJ::BK::BL::BM::BN::BO::BP::BQ::BR::BS::BT::BU::BV::BW::BX::BY::BZ::Ca::Cb::Cc::Cd::Ce::Cf::Cg::Ch::Ci::Cj::Ck::Cl::Cm::Cn::Co::Cp::Cq::Cr::Cs::Ct::Cu::Cv::Cw::Cx::Cy::Cz::C0::C1::C2::C3::C4::C5::C6::C7::C8::C9::CA::CB::CC::CD::CE::CF::CG::CH::CI::CJ::CK::CL::CM::CN::CO::CP::CQ::CR::CS::CT::CU::CV::CW::CX::CY::CZ::Da::Db::Dc::Dd::De::Df::Dg::Dh::Di::Dj::Dk::Dl::Dm::Dn::Do::Dp::Dq::Dr::Ds::Dt::Du::Dv::Dw::Dx::Dy::Dz::D0::D1::D2::D3::D4::D5::D6::D7::D8::D9::DA::DB::DC::DD::DE::DF::DG::DH::DI::DJ::DK::DL::DM::DN::DO::DP::DQ::DR::DS::DT::DU::DV::DW::DX::DY::DZ::Ea::Eb::Ec::Ed::Ee::Ef::Eg::Eh::Ei::Ej::Ek::El::Em::En::[]),[]⟩ W0:=by
 have hnf:=hp.nf
 have HL4:Hid (M.allFaults p l s=M.nameFaults p s++M.placeFaultsN p l (M.nameFaults p s) p.frags.length):=rfl
 conv=>arg 2;arg 1;whnf
 go_loopw [98] (fun s98 wr=>∃(i:Nat) (vF:Value) (t:List Flt) (m:Int→Int),i≤p.frags.length∧s98=iv i∧Hid (LnS w b3 b6 b9 b11 #[sv a1 p.frags.length c1,sv a2 p.defs.length c2] (sv xfa l.frags.length yf) (sv xna l.names.length yn) (sv xca l.coms.length yc) l wr vF vF t)∧Hid (t=M.nameFaults p s++M.placeFaultsN p l (M.nameFaults p s) i)∧t.length≤600+8*i∧Hid (MAt wr bm (3840+16*i) m∧(M.allFaults p l s=[]→Q2 p base i 0 m))) (fun s98 _=>p.frags.length-(intOf s98).toNat)
 case atStart=>exact⟨0,vF,t,m,Nat.zero_le _,rfl,HS,by rw[Hid,HT.out];simp[M.placeFaultsN],by omega,HM.out.1,HM.out.2⟩
 case round =>
  obtain⟨i,vF,t,m,hi,rfl,HSr,HTr,htl,HMr⟩:=hrel
  clear HS HT HM
  by_cases hlt:i<p.frags.length
  ·clear HL4
   obtain⟨b,off,ab,cb,ar,cr,hae,e0,e1,e2,e3,e4,e5,-,hR,-,-⟩:=(HFD.out w (Below.refl _ _)).1.cells i hlt
   have HR:Hid (∀W,Below w.heap.size w W→RelsAt W (sv ar (p.frags.getD i frg0).rels.length cr) (p.frags.getD i frg0).rels):=fun W hW=>hR.later hW
   replace e0:=cell_later HSr.out.bel e0
   replace e1:=cell_later HSr.out.bel e1
   replace e2:=cell_later HSr.out.bel e2
   replace e3:=cell_later HSr.out.bel e3
   replace e4:=cell_later HSr.out.bel e4
   replace e5:=cell_later HSr.out.bel e5
   obtain⟨F,hF⟩:∃F,p.frags.getD i frg0=F:=⟨_,rfl⟩
   rw[hF] at e0 e1 e2 e3 e4 e5
   have HF:Hid (p.frags.getD i frg0=F):=hF
   clear hF
   have hbr:b<wr.heap.size:=wlt e0
   have hil:(i:Int)<(p.frags.length:Int):=by omega
   have hAl:=bra wr (.cells #[iv F.sect,iv F.align,.string F.group,sv ab F.bytes.length cb,iv F.size,sv ar F.rels.length cr] 87)
   have HSA:=HSr.out.later hAl
   have HMA:=HMr.out.1.later hAl
   have HQA:Hid _:=HMr.out.2
   have hq:=heap_alloc_new wr (.cells #[iv F.sect,iv F.align,.string F.group,sv ab F.bytes.length cb,iv F.size,sv ar F.rels.length cr] 87)
   clear hAl HSr HMr hR
   subst hae
   go_upto_region 22 with fail
   clear e0 e1 e2 e3 e4 e5 hbr
   obtain⟨nz,hnz⟩:∃nz,nz=wr.heap.size:=⟨_,rfl⟩
   rw[←hnz] at hq ⊢
   clear hnz
   generalize wr.alloc (.cells #[iv F.sect,iv F.align,.string F.group,sv ab F.bytes.length cb,iv F.size,sv ar F.rels.length cr] 87)=Z at *
   have q5:Z.cell? (qa nz 5)=some (sv ar F.rels.length cr):=cellB hq 5
   have ql:nz<Z.heap.size:=(Array.getElem?_eq_some_iff.1 hq).1
   have HS1:Hid (LnS w b3 b6 b9 b11 #[sv (some (qa b off)) p.frags.length c1,sv a2 p.defs.length c2] (sv xfa l.frags.length yf) (sv xna l.names.length yn) (sv xca l.coms.length yc) l Z vF vF t):=HSA
   have HM1:Hid (MAt Z bm (3840+16*i) m∧(M.allFaults p l s=[]→Q2 p base i 0 m)):=⟨HMA,HQA.out⟩
   clear hq HSA HMA HQA
   go_upto_region 23 with fail
   clear q5 ql
   go_wp2_with fail
   have hF:=HF.out
   subst hF
   refine lk_loop4 p base (some (qa b off)) a2 c1 c2 w Z b3 b6 b9 b11 bm xfa xna xca yf yn yc l s i ar cr vF t m hl hp ha hlk HFD Hby hbm HSt Hns H11 hsn hlt HR HS1 HTr htl HM1 ?_
   intro zu22 zu23 zu24 zu25 zu26 zu27 zu106 zu107 zu108 zu109 zu110 zu111 zu112 zu113 zu114 zu115 zu116 zu117 zu118 zu119 zu120 zu121 zu122 zu123 zu124 zu125 zu126 zu127 zu128 zu129 zu130 zu131 zu132 zu133 zu134 zu135 zu136 zu137 zu138 zu139 zu140 zu141 zu142 zu143 zu144 zu145 zu146 zu147 zu148 zu149 zu150 zu151 zu152 zu153 zu154 zu155 zu156 zu157 zu158 zu159 zu160 zu161 zu162 zu163 zu164 zu165 zu166 zu167 zu168 zu169 zu170 zu171 zu172 zu173 zu174 zu175 zu176 zu177 zu178 zu179 zu180 zu181 zu182 zu183 zu184 zu185 zu186 zu187 zu188 zu189 zu190 zu191 zu192 zu193 zu194 zu195 zu196 zu197 zu198 zu199 Wz ⟨vF',t',m',g1,g2,g3,g4,g5⟩
   have HP:Hid (LnS w b3 b6 b9 b11 #[sv (some (qa b off)) p.frags.length c1,sv a2 p.defs.length c2] (sv xfa l.frags.length yf) (sv xna l.names.length yn) (sv xca l.coms.length yc) l Wz vF' vF' t'∧t'=M.nameFaults p s++M.placeFaultsN p l (M.nameFaults p s) (i+1)∧MAt Wz bm (3840+16*(i+1)) m'∧(M.allFaults p l s=[]→Q2 p base (i+1) 0 m')):=⟨g1,g2,g4,g5⟩
   clear g1 g2 g4 g5 HS1 HM1 HR HTr
   go_wp2_with fail
   go_roundw
   case rel=>exact⟨i+1,vF',t',m',by omega,by go_num,HP.out.1,HP.out.2.1,g3,HP.out.2.2⟩
   case measure=>simp[intOf];omega
  ·obtain rfl:i=p.frags.length:=by omega
   have HE:Hid (∃vF' t' m',LnS w b3 b6 b9 b11 #[sv a1 p.frags.length c1,sv a2 p.defs.length c2] (sv xfa l.frags.length yf) (sv xna l.names.length yn) (sv xca l.coms.length yc) l wr vF' vF' t'∧t'=M.allFaults p l s∧t'.length≤1080∧MAt wr bm 4800 m'∧(M.allFaults p l s=[]→Q2 p base p.frags.length 0 m')):=⟨vF,t,m,HSr.out,by rw[HTr.out,HL4.out],by omega,HMr.out.1.mono (by omega),HMr.out.2⟩
   clear HSr HTr HMr HL4
   go_wp2_with fail
   exact HE.out
attribute [local go_sem] lat_cell
theorem lk_loop6{Aa Ab Ac Gg Ad Ae Af Ag Ah Ai Gh Aj Gi Ak Al Am An FR Ao Ap Aq Ar As At Au Av Ax Ay Az A0 A1 A2 A3 A4 A5 A6 A7 A8 A9 AA AB AC AD AE AF AG AH AI AJ AK AL AM AN AO AP AQ AR AS AT AU AV AW AX AY AZ Ba Bb Bc Bd Be Bf Bg Bh Bi Bj Bk Bl Bm Bn Bo Bp Bq Br Bs Bt Bu Bv Bw Bx By Bz B0 B1 B2 B3 B4 B5 B6 B7 B8 B9 FS FT FU BA BB BC BD BE BF BG BH BI BJ BK BL BM BN BO BP BQ BR BS BT BU BV BW BX BY BZ Ca Cb Cc Cd Ce Cf Cg Ch Ci Cj Ck Cl Cm Cn Co Cp Cq Cr Cs Ct Cu Cv Cw Cx Cy Cz C0 C1 C2 C3 C4 C5 C6 C7 C8 C9 CA CB CC CD CE CF CG CH CI CJ CK CL CM CN CO CP CQ CR CS CT CU CV CW CX CY CZ Da Db Dc Dd De Df Dg Dh Di Dj Dk Dl Dm Dn Do Dp Dt Du Dv Dw Dx Dy Dz D0 D1 D2 D3 D4 D5 D6 D7 D8 D9 DA DB DC DD DE DF DG DH DI DJ DK DL DM DN DO DP DQ DR DS DT DU DV DW DX DY DZ Ea Eb Ec Ed Ee Ef Eg Eh Ei Ej Ek El Em En:Value}(p:M.Prt)(l:M.Lay)(xf xn xc:Value)(w W0:World)(b6 b9 b28 gs bm:Nat)(m:Int→Int)(en:Int)
  (HSeg:Hid (∀a z:Nat,((a=1∧z=1)∨(a=2∧z=3)∨(a=4∧z=4))→(0≤l.fr a∧l.ti z≤65536)∧(M.segBytes p l a z).length=(l.ti z-l.fr a).toNat∧(∀k:Nat,k<(M.segBytes p l a z).length→m (l.fr a+(k:Int))=(M.segBytes p l a z).getD k 0)∧∀b∈M.segBytes p l a z,0≤b∧b<256)) (hti:(0≤l.ti 4∧l.ti 4≤65536)∧(0≤l.ti 5∧l.ti 5≤65536)) (HS:Hid (SgS w b6 b9 b28 gs bm (layArr xf xn xc l.fr l.ti) m en W0 (sv none 0 0) (sv none 0 0) [])) {Q0:Exit→Act→World→Prop}
  (hexit:∀(Gj Gk Gl Gm Gn Gp Gq Gr Gs Gt Gu Gv Gw Gx Gy Gz G0 G1 G2 G3 G4 G5 G6 G7 G8 G9 GA GB GC GD GE GF GG GH GI GJ GK GL GM GN GO GP GQ GR GS GT GU GV GW GX GY GZ Ha Hb Hc Hd He Hf Hg Hh:Value) (w'':World),(∃vS es,SgS w b6 b9 b28 gs bm (layArr xf xn xc l.fr l.ti) m en w'' vS vS es∧es.map (·.seg)=[⟨l.fr 1,M.segBytes p l 1 1,0,false,true⟩,⟨l.fr 2,M.segBytes p l 2 3,0,false,false⟩,⟨l.fr 4,M.segBytes p l 4 4,l.ti 5-l.ti 4,true,false⟩])→Q0 (.exit 11) ⟨List.toArray (Aa::Ab::Ac::Gg::Ad::Ae::Af::Ag::Ah::qv b9 0::Ai::Gh::Aj::Gi::.map (some bm)::Ak::Al::Am::An::FR::Ao::Ap::Aq::Ar::As::At::Au::Av::qv b28 0::Ax::Gj::Gk::Gl::A1::A2::A3::A4::A5::A6::A7::A8::A9::AA::AB::AC::AD::AE::AF::AG::AH::AI::AJ::AK::AL::AM::AN::AO::AP::AQ::AR::AS::AT::AU::AV::AW::AX::AY::AZ::Ba::Bb::Bc::Bd::Be::Bf::Bg::Bh::Bi::Bj::Bk::Bl::Bm::Bn::Bo::Bp::Bq::Br::Bs::Bt::Bu::Bv::Bw::Bx::By::Bz::B0::B1::B2::B3::B4::B5::B6::B7::B8::B9::FS::FT::FU::BA::BB::BC::BD::BE::BF::BG::BH::BI::BJ::BK::BL::BM::BN::BO::BP::BQ::BR::BS::BT::BU::BV::BW::BX::BY::BZ::Ca::Cb::Cc::Cd::Ce::Cf::Cg::Ch::Ci::Cj::Ck::Cl::Cm::Cn::Co::Cp::Cq::Cr::Cs::Ct::Cu::Cv::Cw::Cx::Cy::Cz::C0::C1::C2::C3::C4::C5::C6::C7::C8::C9::CA::CB::CC::CD::CE::CF::CG::CH::CI::CJ::CK::CL::CM::CN::CO::CP::CQ::CR::CS::CT::CU::CV::CW::CX::CY::CZ::Da::Db::Dc::Dd::De::Df::Dg::Dh::Di::Dj::Dk::Dl::Dm::Dn::Do::Dp::sv (some (qa gs 0)) 3 3::iv 3::Gm::Gn::Gp::Gq::Gr::Gs::Gt::Gu::Gv::Gw::Gx::Gy::Gz::G0::G1::G2::G3::G4::G5::G6::G7::G8::G9::GA::GB::GC::GD::GE::GF::GG::GH::GI::GJ::GK::GL::GM::GN::GO::GP::GQ::GR::GS::GT::GU::GV::GW::GX::GY::GZ::Ha::Hb::Hc::Hd::He::Hf::Hg::Hh::En::[]),[]⟩ w'') :
  Code.wp Tryz.prog (Code.loop (((Tryz.f12.body.map loopsOfL).getD [])[5]?.getD .skip:Code)) Q0 ⟨List.toArray (Aa::Ab::Ac::Gg::Ad::Ae::Af::Ag::Ah::qv b9 0::Ai::Gh::Aj::Gi::.map (some bm)::Ak::Al::Am::An::FR::Ao::Ap::Aq::Ar::As::At::Au::Av::qv b28 0::Ax::Ay::Az::A0::A1::A2::A3::A4::A5::A6::A7::A8::A9::AA::AB::AC::AD::AE::AF::AG::AH::AI::AJ::AK::AL::AM::AN::AO::AP::AQ::AR::AS::AT::AU::AV::AW::AX::AY::AZ::Ba::Bb::Bc::Bd::Be::Bf::Bg::Bh::Bi::Bj::Bk::Bl::Bm::Bn::Bo::Bp::Bq::Br::Bs::Bt::Bu::Bv::Bw::Bx::By::Bz::B0::B1::B2::B3::B4::B5::B6::B7::B8::B9::FS::FT::FU::BA::BB::BC::BD::BE::BF::BG::BH::BI::BJ::BK::BL::BM::BN::BO::BP::BQ::BR::BS::BT::BU::BV::BW::BX::BY::BZ::Ca::Cb::Cc::Cd::Ce::Cf::Cg::Ch::Ci::Cj::Ck::Cl::Cm::Cn::Co::Cp::Cq::Cr::Cs::Ct::Cu::Cv::Cw::Cx::Cy::Cz::C0::C1::C2::C3::C4::C5::C6::C7::C8::C9::CA::CB::CC::CD::CE::CF::CG::CH::CI::CJ::CK::CL::CM::CN::CO::CP::CQ::CR::CS::CT::CU::CV::CW::CX::CY::CZ::Da::Db::Dc::Dd::De::Df::Dg::Dh::Di::Dj::Dk::Dl::Dm::Dn::Do::Dp::sv (some (qa gs 0)) 3 3::iv 3::iv 0::Dt::Du::Dv::Dw::Dx::Dy::Dz::D0::D1::D2::D3::D4::D5::D6::D7::D8::D9::DA::DB::DC::DD::DE::DF::DG::DH::DI::DJ::DK::DL::DM::DN::DO::DP::DQ::DR::DS::DT::DU::DV::DW::DX::DY::DZ::Ea::Eb::Ec::Ed::Ee::Ef::Eg::Eh::Ei::Ej::Ek::El::Em::En::[]),[]⟩ W0:=by
 obtain⟨i1,hi1,hy0,hy1,hy2⟩:=info_parts (P:=Tryz.prog) (e:=56) (z:=.agg #[iv 0,sv none 0 0,iv 0,.bool false,.bool false]) (size:=5) (bytes:=48) (by kernel_rfl)
 have HK:Hid (∀k,k<3→∃(a z q:Nat) (zs:Int) (wb kb:Bool),((#[iv 1,iv 1,iv 0,iv 2,iv 3,iv 0,iv 4,iv 4,iv 5]:Array Value)[k*3]?=some (iv a)∧(#[iv 1,iv 1,iv 0,iv 2,iv 3,iv 0,iv 4,iv 4,iv 5]:Array Value)[k*3+1]?=some (iv z)∧(#[iv 1,iv 1,iv 0,iv 2,iv 3,iv 0,iv 4,iv 4,iv 5]:Array Value)[k*3+2]?=some (iv q))∧((a=1∧z=1)∨(a=2∧z=3)∨(a=4∧z=4))∧(((a:Int)==4)=wb∧((a:Int)==1)=kb)∧((q=0∧zs=0)∨(q=5∧z=4∧zs=l.ti 5-l.ti 4))∧([⟨l.fr 1,M.segBytes p l 1 1,0,false,true⟩,⟨l.fr 2,M.segBytes p l 2 3,0,false,false⟩,⟨l.fr 4,M.segBytes p l 4 4,l.ti 5-l.ti 4,true,false⟩]:List M.Seg).take (k+1)=([⟨l.fr 1,M.segBytes p l 1 1,0,false,true⟩,⟨l.fr 2,M.segBytes p l 2 3,0,false,false⟩,⟨l.fr 4,M.segBytes p l 4 4,l.ti 5-l.ti 4,true,false⟩]:List M.Seg).take k++[⟨l.fr a,M.segBytes p l a z,zs,wb,kb⟩]):=fun k hk=>by
  have:k=0∨k=1∨k=2:=by omega
  rcases this with rfl|rfl|rfl
  ·exact⟨1,1,0,0,false,true,⟨rfl,rfl,rfl⟩,.inl ⟨rfl,rfl⟩,⟨rfl,rfl⟩,.inl ⟨rfl,rfl⟩,rfl⟩
  ·exact⟨2,3,0,0,false,false,⟨rfl,rfl,rfl⟩,.inr (.inl ⟨rfl,rfl⟩),⟨rfl,rfl⟩,.inl ⟨rfl,rfl⟩,rfl⟩
  ·exact⟨4,4,5,_,true,false,⟨rfl,rfl,rfl⟩,.inr (.inr ⟨rfl,rfl⟩),⟨rfl,rfl⟩,.inr ⟨rfl,rfl,rfl⟩,rfl⟩
 have HE3:Hid (([⟨l.fr 1,M.segBytes p l 1 1,0,false,true⟩,⟨l.fr 2,M.segBytes p l 2 3,0,false,false⟩,⟨l.fr 4,M.segBytes p l 4 4,l.ti 5-l.ti 4,true,false⟩]:List M.Seg).take 3=[⟨l.fr 1,M.segBytes p l 1 1,0,false,true⟩,⟨l.fr 2,M.segBytes p l 2 3,0,false,false⟩,⟨l.fr 4,M.segBytes p l 4 4,l.ti 5-l.ti 4,true,false⟩]):=rfl
 have HE0:Hid (([⟨l.fr 1,M.segBytes p l 1 1,0,false,true⟩,⟨l.fr 2,M.segBytes p l 2 3,0,false,false⟩,⟨l.fr 4,M.segBytes p l 4 4,l.ti 5-l.ti 4,true,false⟩]:List M.Seg).take 0=[]):=rfl
 generalize ([⟨l.fr 1,M.segBytes p l 1 1,0,false,true⟩,⟨l.fr 2,M.segBytes p l 2 3,0,false,false⟩,⟨l.fr 4,M.segBytes p l 4 4,l.ti 5-l.ti 4,true,false⟩]:List M.Seg)=SL at *
 conv=>arg 2;arg 1;whnf
 go_loopw [213] (fun s213 wr=>∃(k:Nat) (vS:Value) (es:List SEnt),k≤3∧s213=iv k∧Hid (SgS w b6 b9 b28 gs bm (layArr xf xn xc l.fr l.ti) m en wr vS vS es)∧Hid (es.map (·.seg)=SL.take k)∧es.length=k) (fun s213 _=>3-(intOf s213).toNat)
 case atStart=>exact⟨0,_,[],Nat.zero_le _,rfl,HS,HE0.out.symm,rfl⟩
 case round =>
  obtain⟨k,vS,es,hk,rfl,HSr,HEr,hel⟩:=hrel
  clear HS HE0
  by_cases hkt:k<3
  ·clear HE3
   obtain⟨a,z,q,zs,wb,kb,⟨g0,g1,g2⟩,haz,⟨hwb,hkb⟩,hq,hsl⟩:=HK.out k hkt
   obtain⟨⟨hf0,ht0⟩,hlen,hat,hsm⟩:=HSeg.out a z haz
   have Hsl:Hid (SL.take (k+1)=SL.take k++[⟨l.fr a,M.segBytes p l a z,zs,wb,kb⟩]):=hsl
   have Hlen:Hid ((M.segBytes p l a z).length=(l.ti z-l.fr a).toNat):=hlen
   have Hat:Hid (∀k:Nat,k<(M.segBytes p l a z).length→m (l.fr a+(k:Int))=(M.segBytes p l a z).getD k 0):=hat
   have Hsm:Hid (∀b∈M.segBytes p l a z,0≤b∧b<256):=hsm
   have Hq:Hid ((q=0∧zs=0)∨(q=5∧z=4∧zs=l.ti 5-l.ti 4)):=hq
   have ha5:a≤5:=by omega
   have hz5:z≤5:=by omega
   have Hz9:Hid ((layArr xf xn xc l.fr l.ti)[9+z]?=some (iv (l.ti z))):=layArr_ti hz5
   have Ha9:Hid ((layArr xf xn xc l.fr l.ti)[3+a]?=some (iv (l.fr a))):=layArr_fr ha5
   have e0:wr.cell? (qa gs (k*3))=some (iv a):=(cellB HSr.out.cg _).trans g0
   have e1:wr.cell? (qa gs (k*3+1))=some (iv z):=(cellB HSr.out.cg _).trans g1
   have e2:wr.cell? (qa gs (k*3+2))=some (iv q):=(cellB HSr.out.cg _).trans g2
   have el:gs<wr.heap.size:=(Array.getElem?_eq_some_iff.1 HSr.out.cg).1
   have hkl:(k:Int)<3:=by omega
   clear hsl hlen hat hsm hq g0 g1 g2 HK HSeg
   have hAl:=bra wr (.cells #[iv a,iv z,iv q] 92)
   have hq30:=heap_alloc_new wr (.cells #[iv a,iv z,iv q] 92)
   go_upto_region 48 with fail
   clear e0 e1 e2 el
   obtain⟨n30,hn30⟩:∃n30,n30=wr.heap.size:=⟨_,rfl⟩
   rw[←hn30] at hq30 ⊢
   clear hn30
   generalize wr.alloc (.cells #[iv a,iv z,iv q] 92)=Z at *
   have HZ:Hid (Below wr.heap.size wr Z):=hAl
   have Hq30:Hid (Z.heap[n30]?=some (.cells #[iv a,iv z,iv q] 92 (0,0))):=hq30
   clear hAl hq30
   go_cut [31] from 214 to 269 (fun s31 wx=>∃n31,s31=qv n31 0∧Hid (SgL wr n30 n31 #[iv a,iv z,iv q] (l.fr a) 0 wb kb wx (sv none 0 0) (sv none 0 0) []))
   case first =>
    have hC:∀W,Below Z.heap.size Z W→W.cell? (qa n30 0)=some (iv a)∧W.cell? (qa b9 (3+a))=some (iv (l.fr a)):=fun W hW=>by
     have h1:=(hW.block _ (Array.getElem?_eq_some_iff.1 Hq30.out).1).trans Hq30.out
     have h2:=(HSr.out.later HZ.out).later hW
     exact⟨cellB h1 0,(cellB h2.c9 _).trans Ha9.out⟩
    have HC:Hid (∀W,Below Z.heap.size Z W→W.cell? (qa n30 0)=some (iv a)∧W.cell? (qa b9 (3+a))=some (iv (l.fr a))):=hC
    have hA0:Below Z.heap.size Z Z.drew:=(Below.refl _ _).drew
    have hA1:Below Z.heap.size Z (Z.drew.alloc (.cells #[iv 0,sv none 0 0,iv 0,.bool false,.bool false] 56)):=hA0.alloc (Nat.le_refl _) _
    have hA2:Below Z.heap.size Z (Z.alloc (.cells #[iv (l.fr a),sv none 0 0,iv 0,.bool wb,.bool kb] 56)).drew:=(bra _ _).drew
    have HFi:Hid (SgL wr n30 Z.heap.size #[iv a,iv z,iv q] (l.fr a) 0 wb kb (Z.alloc (.cells #[iv (l.fr a),sv none 0 0,iv 0,.bool wb,.bool kb] 56)).drew (sv none 0 0) (sv none 0 0) []):=⟨HZ.out.trans (hA2.mono HZ.out.size),(hA2.block _ (Array.getElem?_eq_some_iff.1 Hq30.out).1).trans Hq30.out,heap_alloc_new Z _,World.ownsRow_nil _ _ _ _,HZ.out.size⟩
    have l30:n30<Z.heap.size:=(Array.getElem?_eq_some_iff.1 Hq30.out).1
    have l9:b9<Z.heap.size:=(Array.getElem?_eq_some_iff.1 (HSr.out.later HZ.out).c9).1
    have ha6:(a:Int)<6:=by omega
    clear hC
    go_region_held3 (fun w'=>w'.cell? (qa n30 0)=some (iv a)∧w'.cell? (qa b9 (3+a))=some (iv (l.fr a))) (first|exact HC.out _ hA0|exact HC.out _ hA1|exact HC.out _ hA2) (fail)
    all_goals
     clear hA0 hA1 hA2 HC
     go_wp2_with fail
     go_meet
     exact⟨_,rfl,HFi⟩
   case rest =>
    rename World=>V
    obtain⟨n31,rfl,HL0⟩:=hcut
    have s0:V.cell? (qa n31 0)=some (iv (l.fr a)):=cellB HL0.out.r31 0
    have sl:n31<V.heap.size:=(Array.getElem?_eq_some_iff.1 HL0.out.r31).1
    have h9:wr.heap[b9]?=some (.cells (layArr xf xn xc l.fr l.ti) 76 (0,0)):=HSr.out.c9
    have HMm:Hid (MAt wr bm 4800 m):=HSr.out.mm
    clear HZ Hq30 Ha9
    go_upto_region 50 with fail
    clear s0 sl
    go_wp2_with fail
    refine lk_loop7 (l.fr a) (l.ti z) a z q wr V b9 bm n30 n31 4800 (layArr xf xn xc l.fr l.ti) m wb kb (M.segBytes p l a z) hz5 hf0 ht0 Hlen.out Hz9.out h9 HMm Hat HL0 ?_
    intro zu32 zu231 zu232 zu233 zu234 zu235 zu236 zu237 zu238 zu239 zu240 zu241 zu242 zu243 zu244 zu245 zu246 zu247 V1 ⟨v,hL1⟩
    have HL1:Hid (SgL wr n30 n31 #[iv a,iv z,iv q] (l.fr a) 0 wb kb V1 v v (M.segBytes p l a z)):=hL1
    clear hL1 HL0 h9 HMm Hat
    have s2:V1.cell? (qa n30 2)=some (iv q):=cellB HL1.out.r30 2
    have sl:n30<V1.heap.size:=(Array.getElem?_eq_some_iff.1 HL1.out.r30).1
    go_upto_if 250 with fail
    clear s2 sl
    go_cut [] from 214 to 269 (fun wx=>Hid (SgL wr n30 n31 #[iv a,iv z,iv q] (l.fr a) zs wb kb wx v v (M.segBytes p l a z)))
    case first =>
     rcases Hq.out with ⟨rfl,rfl⟩|⟨rfl,rfl,rfl⟩
     ·clear Hq
      go_wp2_with fail
      go_meet
      exact HL1
     ·clear Hq
      have s2:V1.cell? (qa n30 2)=some (iv 5):=cellB HL1.out.r30 2
      have s1:V1.cell? (qa n30 1)=some (iv 4):=cellB HL1.out.r30 1
      have sl:n30<V1.heap.size:=(Array.getElem?_eq_some_iff.1 HL1.out.r30).1
      have h9:=(HSr.out.later HL1.out.bel).c9
      have c5:V1.cell? (qa b9 14)=some (iv (l.ti 5)):=cellB h9 14
      have c4:V1.cell? (qa b9 13)=some (iv (l.ti 4)):=cellB h9 13
      have l9:b9<V1.heap.size:=(Array.getElem?_eq_some_iff.1 h9).1
      have hw1:wrap64 (l.ti 5-l.ti 4)=l.ti 5-l.ti 4:=by unfold wrap64;omega
      clear h9
      go_upto_region 54 with fail
      refine wp_region_tail 12 (by kernel_rfl) (by kernel_rfl) ?_
      intro hne
      simp only[List.take_succ_cons,List.take_zero,List.drop_succ_cons,List.drop_zero]
      repeat (go_big_quiet_step (fail))
      refine wpQuiet_nil ?_
      intro Y hY
      have hYb:=lat_out hY
      have hL2:=HL1.out.later hYb
      have m4:Y.cell? (qa n31 2)=some (iv 0):=cellB hL2.r31 2
      have mf:∀j,Y.frozen? (qa n31 j)=false:=frozenB hL2.r31
      have ml:n31<Y.heap.size:=(Array.getElem?_eq_some_iff.1 hL2.r31).1
      have HL2:Hid (SgL wr n30 n31 #[iv a,iv (4:Nat),iv (5:Nat)] (l.fr a) (l.ti 5-l.ti 4) wb kb (Y.setCell (qa n31 2) (iv (l.ti 5-l.ti 4))) v v (M.segBytes p l a 4)):=hL2.storeZ _
      clear hL2 hYb hY hne HL1 s1 s2 sl c5 c4 l9
      go_wp2_with fail
      go_meet
      exact HL2
    case rest =>
     rename World=>V2
     have HL2:Hid (SgL wr n30 n31 #[iv a,iv z,iv q] (l.fr a) zs wb kb V2 v v (M.segBytes p l a z)):=hcut
     clear hcut HL1 Hq
     obtain⟨vx,vy,hv⟩:=own_len HSr.out.row
     rw[hel] at hv
     subst hv
     have Hel:Hid (es.length=k):=hel
     clear hel
     obtain⟨bx,bc,rfl⟩:=own_len HL2.out.row
     have HSV:Hid (SgS w b6 b9 b28 gs bm (layArr xf xn xc l.fr l.ti) m en V2 (sv vx k vy) (sv vx k vy) es):=HSr.out.later HL2.out.bel
     have t0:V2.cell? (qa n31 0)=some (iv (l.fr a)):=cellB HL2.out.r31 0
     have t1:V2.cell? (qa n31 1)=some (sv bx (M.segBytes p l a z).length bc):=cellB HL2.out.r31 1
     have t2:V2.cell? (qa n31 2)=some (iv zs):=cellB HL2.out.r31 2
     have t3:V2.cell? (qa n31 3)=some (.bool wb):=cellB HL2.out.r31 3
     have t4:V2.cell? (qa n31 4)=some (.bool kb):=cellB HL2.out.r31 4
     have tl:n31<V2.heap.size:=(Array.getElem?_eq_some_iff.1 HL2.out.r31).1
     have k28:V2.cell? (qa b28 1)=some (sv vx k vy):=cellB HSV.out.c28 1
     have l28:b28<V2.heap.size:=(Array.getElem?_eq_some_iff.1 HSV.out.c28).1
     have hA4:=bra V2 (.cells #[iv (l.fr a),sv bx (M.segBytes p l a z).length bc,iv zs,.bool wb,.bool kb] 56)
     have hS5:=HSV.out.later hA4
     have hrw:(V2.alloc (.cells #[iv (l.fr a),sv bx (M.segBytes p l a z).length bc,iv zs,.bool wb,.bool kb] 56)).ownsRow w.heap.size 56 5 (sv vx k vy) k (es.flatMap encSeg):=by have:=hS5.row;rwa [Hel.out] at this
     have HS5:Hid _:=hS5
     have Hby:Hid ((V2.alloc (.cells #[iv (l.fr a),sv bx (M.segBytes p l a z).length bc,iv zs,.bool wb,.bool kb] 56)).ownsRow w.heap.size 5 1 (sv bx (M.segBytes p l a z).length bc) (M.segBytes p l a z).length (enc8 (M.segBytes p l a z))∧(∀b∈M.segBytes p l a z,0≤b∧b<256)∧(M.segBytes p l a z).length≤65536):=⟨own_weaken (HL2.out.row.kept (grown_of_below hA4 none) own_self) HSr.out.bel.size,Hsm.out,by have:=Hlen.out;omega⟩
     have hnews:∀j u,(#[iv (l.fr a),sv bx (M.segBytes p l a z).length bc,iv zs,.bool wb,.bool kb]:Array Value).toList[j]?=some u→(V2.alloc (.cells #[iv (l.fr a),sv bx (M.segBytes p l a z).length bc,iv zs,.bool wb,.bool kb] 56)).cell? ((qa V2.heap.size 0).add j)=some u:=World.news_of_block (heap_alloc_new V2 _)
     have hbs:w.heap.size≤V2.heap.size:=HSV.out.bel.size
     clear hA4 hS5 HSV HL2 HSr Hlen Hz9 hwb hkb
     go_wp2_with (first
      | (at_builtin;refine wpList_append_own _ rfl _ _ 23 rfl w.heap.size 56 i1 (.agg #[iv 0,sv none 0 0,iv 0,.bool false,.bool false]) 5 48 Tryz.underlying23 hi1 hy0 hy1 hy2 rfl (by decide) _ _ _ rfl hrw ⟨V2.heap.size,0,none⟩ 1 1 (#[iv (l.fr a),sv bx (M.segBytes p l a z).length bc,iv zs,.bool wb,.bool kb]:Array Value).toList rfl rfl hnews (fun u hu=>by simp at hu;rcases hu with rfl|rfl|rfl|rfl|rfl<;>rfl) (by unfold maxLen;omega) (by omega) (by simp;omega) ?_;intro v' w3 hown' hgrow3 hnil3;obtain⟨z1',y1',rfl⟩:=own_len hown'
         have hS6:=HS5.out.grow (e:=⟨⟨l.fr a,M.segBytes p l a z,zs,wb,kb⟩,sv bx (M.segBytes p l a z).length bc⟩) hgrow3 (by rw[Hel.out];exact hown') Hby.out
         have m4:w3.cell? (qa b28 1)=some (sv vx k vy):=cellB hS6.c28 1
         have mf:∀j,w3.frozen? (qa b28 j)=false:=frozenB hS6.c28
         have ml:b28<w3.heap.size:=(Array.getElem?_eq_some_iff.1 hS6.c28).1
         have HS7:Hid (SgS w b6 b9 b28 gs bm (layArr xf xn xc l.fr l.ti) m en (w3.setCell (qa b28 1) (sv z1' (k+1) y1')) (sv z1' (k+1) y1') (sv z1' (k+1) y1') (es++[⟨⟨l.fr a,M.segBytes p l a z,zs,wb,kb⟩,sv bx (M.segBytes p l a z).length bc⟩])):=hS6.store _
         clear hown' hgrow3 hnil3 hS6 HS5 hrw hnews Hby))
     go_roundw
     case rel=>exact⟨k+1,_,es++[⟨⟨l.fr a,M.segBytes p l a z,zs,wb,kb⟩,sv bx (M.segBytes p l a z).length bc⟩],by omega,by go_num,HS7,by rw[Hid,List.map_append,HEr.out,Hsl.out];rfl,by rw[List.length_append,Hel.out];rfl⟩
     case measure=>simp[intOf];omega
  ·obtain rfl:k=3:=by omega
   have HE:Hid (∃vS es,SgS w b6 b9 b28 gs bm (layArr xf xn xc l.fr l.ti) m en wr vS vS es∧es.map (·.seg)=SL):=⟨vS,es,HSr.out,by rw[HEr.out,HE3.out]⟩
   clear HSr HEr HE3 HK HSeg
   go_wp2_with fail
   exact HE.out
end Go.Proofs.YtpkfmfhodbjckaaGreatDoor
