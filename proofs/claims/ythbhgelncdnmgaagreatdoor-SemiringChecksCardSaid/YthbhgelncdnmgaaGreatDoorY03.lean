import Derived.Test.YthbhgelncdnmgaaGreatDoorY01
import Derived.IntWalk
set_option linter.unusedVariables false
set_option linter.unusedSimpArgs false
set_option maxRecDepth 20000
set_option maxHeartbeats 1000000
namespace Go.Proofs.YthbhgelncdnmgaaGreatDoor
open Go.Proofs.Tryz
open Lib (hid)
open Go.RowKit
theorem Qx1(A:Option Addr)(n c p:Nat)(l:List Nat)(w:World)(hx:Num w l A n c)(hn:n<=536870912)(hp:p<=1099511627776):
 Calls prog 292 #[.slice A n c,.int .i64 p] w (RetOwn w (limbs (val l / 2^p))):=by
 obtain⟨q,hq⟩:∃q,p / 32=q:=⟨_,rfl⟩;obtain⟨s,hs⟩:∃s,p%32=s:=⟨_,rfl⟩;have hs32:s<32:=by omega
 have HP:Hid (p=32*q+s):=by show p=32*q+s;omega
 have hq':(p:Int) / 32=q:=by omega
 have hs':(p:Int).tmod 32=s:=by rw [Int.tmod_eq_emod_of_nonneg (by omega)];omega
 have hq2:q<=34359738368:=by omega
 clear hq hs;have HPP:Hid (2^p=P q*2^s):=by show _=_;rw [HP.out,Nat.pow_add,Nat.pow_mul];rfl
 by_cases hqn:n<=q
 ·have HV:Hid (limbs (val l / 2^p)=[]):=by
   show _=_;rw [Qcl];apply Nat.div_eq_of_lt;have h1:=Qbg hx.lim;have h2:P l.length<=P q:=Qjl (by have:=hx.len;omega);have h3:P q*1<=P q*2^s:=Nat.mul_le_mul_left _ (Nat.pow_pos (by decide));rw [HPP.out];omega
  rw [HV.out];go_enter func292,ntmps292;go_wp2_with fail
  go_ret;exact⟨none,0,0,rfl,Own.nil _ _ _ _,Below.refl _ _⟩
 ·obtain⟨b,o,hA,hb,hc⟩:=hx.cells (by omega)
  subst hA;have hcap:=hx.cap;have hne:¬c=q:=by omega
  have hnum:Num w (l.drop q) (some ⟨b,o+q,none⟩) (n-q) (c-q):=⟨by rw [List.length_drop,hx.len],by omega,hx.lim.drop q,fun _=>⟨b,o+q,rfl,hb,fun k x hk=>by
   rw [List.getElem?_drop]at hk;rw [Nat.add_assoc];exact hc _ x hk⟩⟩
  go_enter func292,ntmps292;go_wp2_with (go_at_call 176;refine(Qdk _ _ _ _ _ hnum (by omega)).mono ?_;rintro e w' ⟨A1,n1,c1,rfl,ho1,hb1⟩)
  have hD:(l.drop q).length=n-q:=by rw [List.length_drop,hx.len]
  have hlD:=hx.lim.drop q;have HVD:Hid (val (l.drop q)=val l / P q):=Qoe hx.lim q (by have:=hx.len;omega);have hltD:=Qbg hlD;generalize l.drop q=D at*
  obtain⟨b1,pre,post,rfl,hB1,hmid⟩:=ho1.row (by have:=ho1.len;omega);have hn1:=ho1.len;obtain⟨o1,hpre⟩:∃o1,pre.length=o1:=⟨_,rfl⟩;rw [hpre];have HPR:=hid hpre;clear hpre;have hcap1:=ho1.cap;have HN1:=hid hn1;have HDL:=hid hD;have HLT:=hid hltD;have HLD:=hid hlD;have hn1b:n1<=536870912:=by omega
  clear hn1 hD hltD hlD ho1 hx hnum hc hne hqn hq' hs'
  go_loopw [24] (fun si wr=> ∃(k:Nat) (L:List Nat),k<=n1/\si=.int .i64 k/\Mid wr b1 pre L post/\Below w.heap.size w wr/\Hid (L.length=n1/\Lim L/\(∀j,k<=j->L.getD j 0=D.getD j 0)/\∀j,j<k->L.getD j 0=val D / 2^s / P j%4294967296))
   (fun si _=>n1-(intOf si).toNat)
  case atStart=>exact⟨0,D,Nat.zero_le _,rfl,hmid,hb1,show Hid _ from⟨HN1.out.symm,HLD.out,fun _ _=>rfl,fun j hj=>by omega⟩⟩
  case round=>
   obtain⟨k,L,hk,rfl,hrow,hbel,HI⟩:=hrel;clear hmid hb1;by_cases hkn:k<n1
   ·obtain⟨x,hx'⟩:∃x,L.getD k 0=x:=⟨_,rfl⟩
    obtain⟨y,hy'⟩:∃y,L.getD (k+1) 0=y:=⟨_,rfl⟩;have hx4:x<4294967296:=(by rw [<-hx'];exact HI.out.2.1.getD _);have hy4:y<4294967296:=(by rw [<-hy'];exact HI.out.2.1.getD _);have hcs:=hrow.cell (k:=k) (by have:=HI.out.1;omega);have hfs:=hrow.frozen (o1+k);rw [hx',HPR.out]at hcs;have HX:=hid hx';have HY:=hid hy';clear hx' hy';have hk1:(0:Int)<=(k:Int)+1:=(by omega);have hk2:IntKind.i64.wrap ((k:Int)+1)=(k:Int)+1:=IntWalk.i64_in _ (by omega);have hnumL:Num wr L (some ⟨b1,o1,none⟩) n1 c1:=hrow.num HI.out.2.1 HPR.out.symm HI.out.1.symm hcap1;go_wp2_with fail
    go_quiet ((go_at_call 287;exact Qei (Qfp _ _ _ ((k:Int)+1) L _ y (hnumL.drewN _) (by omega) (by omega) HY)))
    go_wp2_with fail
    go_roundw
    case rel=>
     have hI:=HI.out;have hxD:x=val D / P k%4294967296:=(by rw [<-HX.out,hI.2.2.1 k (Nat.le_refl _)];exact Qdi HLD.out k);have hyD:y=val D / P (k+1)%4294967296:=(by rw [<-HY.out,hI.2.2.1 (k+1) (by omega)];exact Qdi HLD.out (k+1));have hval:bits .or .u64 ((y:Int)*4294967296) (x:Int) / 2^s%4294967296=(((y*4294967296+x) / 2^s%4294967296:Nat):Int):=by
      rw [show(y:Int)*4294967296=((y*4294967296:Nat):Int)from by omega,u64_or_nat _ _ (by omega) (by omega),nat_join 32 (y*4294967296) x (by omega) (by omega)];rfl
     refine⟨k+1,L.set k ((y*4294967296+x) / 2^s%4294967296),by omega,congrArg (Value.int _) (by omega),(hrow.drewN nq).set' (by omega) _ hval HPR.out,(Qah hbel nq).setCell hB1 _,?_⟩;show Hid _;refine⟨by rw [List.length_set];exact hI.1,hI.2.1.set _ (Nat.mod_lt _ (by decide)),fun j hj=>?_,fun j hj=>?_⟩
     ·rw [getD_set_ne _ (by omega)];exact hI.2.2.1 j (by omega)
     ·rcases Nat.lt_or_ge j k with h|h
      ·rw [getD_set_ne _ (by omega)];exact hI.2.2.2 j h
      ·obtain rfl:j=k:=by omega
       rw [Qe3 _ (by omega),hxD,hyD];exact Qrd (val D) j s (by omega)
    case measure=>simp [intOf];omega
   ·obtain rfl:k=n1:=by omega
    have hI:=HI.out;have hlim2:Lim L:=hI.2.1;have HV:Hid (val L=val l / 2^p):=by
     show _=_;rw [HPP.out,<-Nat.div_div_eq_div_mul,<-HVD.out];apply Qil (fun j hj=>hI.2.2.2 j (by omega));have h1:=HLT.out;have h2:=HN1.out;rw [hI.1,h2];exact Nat.lt_of_le_of_lt (Nat.div_le_self _ _) h1
    have HL:Hid (L.length=k):=hI.1;clear hI;have hnumL:Num wr L (some ⟨b1,o1,none⟩) k c1:=hrow.num hlim2 HPR.out.symm HL.out.symm hcap1;go_wp2_with (go_at_call 223;refine(Qat _ _ _ L _ hnumL (by omega)).mono ?_;rintro e w' ⟨rfl,rfl⟩)
    go_ret;exact hrow.ret hB1 hlim2 hbel HPR.out.symm (by have:=HL.out;omega) HV.out
theorem Qho(A:Option Addr)(n c p a:Nat)(w:World)(hx:Num w (limbs a) A n c)(hn:n<=536870912)(hp:p<=1099511627776):
 Calls prog 292 #[.slice A n c,.int .i64 p] w (RetOwn w (limbs (a / 2^p))):=by
 have h:=Qx1 A n c p _ w hx hn hp
 rwa [Qab]at h
end Go.Proofs.YthbhgelncdnmgaaGreatDoor
