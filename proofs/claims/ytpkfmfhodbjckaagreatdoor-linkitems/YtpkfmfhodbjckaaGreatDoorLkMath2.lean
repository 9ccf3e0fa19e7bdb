/-
  Plain mathematics: a name that counts is found by halving; where it stands; what moves when the base does.
-/
import Derived.Test.YtpkfmfhodbjckaaGreatDoorMathC
namespace Go.Proofs.YtpkfmfhodbjckaaGreatDoor
open Go Go.RowKit
set_option linter.unusedVariables false
theorem where_ok{p:M.Prt}{base:Int}(hp:M.Ok p)(ha:M.Apart p base){s:ByteArray}(h0:(M.find p.defs s).2=0) :
  (M.whereOf p (M.layAll p base) s).2=0∧0≤(M.whereOf p (M.layAll p base) s).1∧(M.whereOf p (M.layAll p base) s).1≤65536:=by
 have hti:=fun i h1 h2=>ha.ti i h1 h2
 unfold M.whereOf
 by_cases hk:(M.find p.defs s).1.kind=3
 ·have hm:s∈(M.layAll p base).names:=by
   show s∈(M.commons p (M.secN p.frags base 5).2).names
   exact com_mem p.defs (M.defined p) _ s (.inr ⟨(M.rising_mem _ s).2 (find_defined h0),h0,hk⟩)
  obtain⟨f1,f2,f3⟩:=found_at ha.strict hm
  have hc:=ha.com _ _ f3
  have h5:=hti 5 (by decide) (by decide)
  have hcl:M.halve (M.layAll p base).names s<(M.layAll p base).coms.length:=by rw[←ha.lenN];exact f2
  have hsz:=hc.2.2.1.size0
  have e:M.whereIn (M.find p.defs s).1 (M.find p.defs s).2 (M.layAll p base).frags (M.layAll p base).names (M.layAll p base).coms s=((M.layAll p base).coms.getD (M.halve (M.layAll p base).names s) 0,0):=by
   unfold M.whereIn M.commonIn
   rw[if_pos h0,if_pos hk,if_pos f1,if_pos hcl]
  rw[e]
  exact⟨rfl,by show 0≤(M.layAll p base).coms.getD (M.halve (M.layAll p base).names s) 0;omega,by show (M.layAll p base).coms.getD (M.halve (M.layAll p base).names s) 0≤65536;omega⟩
 ·obtain⟨b0,b1,b2,b3,b4⟩:=M.find_stands hp h0 hk
  have e:=whereIn_frag (N:=(M.layAll p base).names) (C:=(M.layAll p base).coms) (s:=s) h0 hk (F:=(M.layAll p base).frags) (by rw[ha.lenF];exact b1)
  rw[e]
  obtain⟨k,_,k1,k2,k3,k4,k5⟩:=frag_in hp ha (i:=(M.find p.defs s).1.frag.toNat) (by omega)
  have h5:=hti k k1 k2
  exact⟨rfl,by show 0≤(M.layAll p base).frags.getD (M.find p.defs s).1.frag.toNat 0+(M.find p.defs s).1.pos;omega,by show (M.layAll p base).frags.getD (M.find p.defs s).1.frag.toNat 0+(M.find p.defs s).1.pos≤65536;omega⟩
end Go.Proofs.YtpkfmfhodbjckaaGreatDoor
