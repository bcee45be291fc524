import Derived.Test.YthbhgelncdnmgaaGreatDoorY03
import Derived.Test.YthbhgelncdnmgaaGreatDoorY04
import Derived.Laws.CopyOwn
set_option linter.unusedVariables false
set_option linter.unusedSimpArgs false
set_option maxRecDepth 20000
set_option maxHeartbeats 2000000
namespace Go.Proofs.YthbhgelncdnmgaaGreatDoor
open Go.Proofs.Tryz
open Lib (hid)
open Nat (le_refl eq_zero_or_pos)
open Go.RowKit
theorem bt{a b c:World}(h:Below a.heap.size a b)(k:Below b.heap.size b c):Below a.heap.size a c:=h.trans (k.mono h.size)
theorem Qez:∀(f x:Nat),0<x->x<2^f->∃k,Lib.bitLenAux f x=k+1/\k<f/\2^k<=x/\x<2^(k+1)
 |0,x,h0,h=>by simp at h;omega
 |f+1,x,h0,h=>by
  have h00:∀g,Lib.bitLenAux g 0=0:=fun g=>by cases g<;>simp [Lib.bitLenAux]
  unfold Lib.bitLenAux;rw [if_neg (by omega)];by_cases h2:x / 2=0
  ·refine⟨0,by rw [h2,h00],by omega,by simp;omega,by simp;omega⟩
  ·obtain⟨k,e,hk,h3,h4⟩:=Qez f (x / 2) (by omega) (by rw [Nat.pow_succ]at h;omega)
   refine⟨k+1,by rw [e];omega,by omega,by rw [Nat.pow_succ];omega,by rw [Nat.pow_succ];omega⟩
theorem Qok(x:Nat)(w:World)(hx:x<4294967296)(h0:0<x):
 ∃s:Nat,s<32/\2147483648<=x*2^s/\x*2^s<4294967296/\Calls prog 328 #[.int .u32 x] w fun e w'=>e=.returned (.int .i64 s)/\w=w':=by
 obtain⟨k,e,hk,h3,h4⟩:=Qez 64 x h0 (Nat.lt_trans hx (by decide));have hk32:k<32:=by
  rcases Nat.lt_or_ge k 32 with h|h
  ·exact h
  ·have:2^32<=2^k:=Nat.pow_le_pow_right (by decide) h
   have e32:(2:Nat)^32=4294967296:=rfl;omega
 have e1:2^k*2^(31-k)=2147483648:=by rw [<-Nat.pow_add,show k+(31-k)=31 from by omega]
 have e2:2^(k+1)*2^(31-k)=4294967296:=by rw [<-Nat.pow_add,show k+1+(31-k)=32 from by omega]
 refine⟨31-k,by omega,?_,?_,?_⟩
 ·rw [<-e1];exact Nat.mul_le_mul_right _ h3
 ·rw [<-e2];exact Nat.mul_lt_mul_of_pos_right h4 (Nat.pow_pos (by decide))
 ·refine(Tryz.bits_LeadingZeros32 (x:Int) w (by omega) (by omega)).mono ?_
  rintro e' w' ⟨rfl,rfl⟩;refine⟨Qa7 ?_,rfl⟩;rw [Int.toNat_natCast,Lib.bitLen,e];omega
def RetOwn2(w0:World)(l1 l2:List Nat)(e:Ending)(w':World):Prop:=
 ∃A n c A' n' c',e=.returned (.tuple #[.slice A n c,.slice A' n' c'])/\Own w' w0.heap.size l1 A n c/\Own w' w0.heap.size l2 A' n' c'/\Below w0.heap.size w0 w'
theorem Qnd(A A':Option Addr)(n c m c' a b:Nat)(w:World)(hx:Num w (limbs a) A n c)(hy:Num w (limbs b) A' m c')(hn:n<=268435456)(hm:m<=268435456)(hlt:a<b):
 Calls prog 295 #[.slice A n c,.slice A' m c'] w (RetOwn2 w (limbs (a / b)) (limbs (a%b))):=by
 rw [Nat.div_eq_of_lt hlt,Nat.mod_eq_of_lt hlt,Qaf];have HC:Hid (cmpI (a:Int) (b:Int)= -1):=Qb2 (by omega);clear hlt;go_enter func295,ntmps295;go_wp2_with (first
  |(go_at_call 219;refine(Qcm _ _ _ _ _ _ a b _ (-1) hx hy (by omega) (by omega) HC).mono ?_;rintro e w' ⟨rfl,q,rfl⟩)
  |(go_at_call 176;refine(Qdk _ _ _ _ _ (hx.drewN _) (by omega)).mono ?_;rintro e w' ⟨A1,n1,c1,rfl,ho1,hb1⟩))
 go_ret2
 exact⟨none,0,0,A1,n1,c1,rfl,Own.nil _ _ _ _,ho1,(Qa6 w q _).trans hb1⟩
theorem Qhp{w w':World}{g B:Nat}(h:w.grownBy w' (some g))(hB:B<=g)(hs:B<=w.heap.size):Below B w w':=
 ⟨h.os,h.tape,h.output,h.size,fun k hk=>h.block k (by omega) (fun e=>by have:=Option.some.inj e;omega)⟩
theorem Qpw(A A':Option Addr)(n c c' a b:Nat)(w:World)(hx:Num w (limbs a) A n c)(hy:Num w (limbs b) A' 1 c')(hn:n<=268435456)(hle:b<=a):
 Calls prog 295 #[.slice A n c,.slice A' 1 c'] w (RetOwn2 w (limbs (a / b)) (limbs (a%b))):=by
 obtain⟨v,hv⟩:∃v,cmpI (a:Int) (b:Int)=v:=⟨_,rfl⟩;have hv0:0<=v:=by rw [<-hv];unfold cmpI;rw [if_neg (by omega)];split<;>omega
 have hd:decide (v<0)=false:=by simp;omega
 have HC:=hid hv;clear hv;have hlb:limbs b=[b]/\0<b/\b<4294967296:=by
  have h1:=hy.len;have h2:=Qab b;have h3:=Qau b
  match h:limbs b,h1 with
  |[x],_=>
   rw [h]at h2 h3;have h4:x=b:=(by simpa [val] using h2);subst h4;refine⟨rfl,?_,h3.head⟩;rcases eq_zero_or_pos x with h0|h0
   ·rw [h0,Qaf]at h;cases h
   ·exact h0
 obtain⟨b',o',y,rfl,hb',hy',_,hcy⟩:=hy.at_ (show 0<1 by omega);rw [hlb.1]at hy';obtain rfl:b=y:=hy';rw [Nat.add_zero]at hcy;have hb0:=hlb.2.1;have hb4:=hlb.2.2;have hn0:0<n:=by
  rw [hx.len];rcases eq_zero_or_pos (limbs a).length with h|h
  ·have:=Qae.1 h;omega
  ·exact h
 have hnl:=hx.len;have HNL:=hid hnl;clear hlb hle hnl;go_enter func295,ntmps295;go_wp2_with (go_at_call 219;refine(Qcm _ _ _ _ _ _ a b _ v hx hy (by omega) (by omega) HC).mono ?_;rintro e w' ⟨rfl,q,rfl⟩)
 refine(Qdk _ _ _ _ _ (hx.drewN _) (by omega)).mono ?_;rintro e w1 ⟨A1,n1,c1,rfl,ho1,hb1⟩;have hl1:=ho1.len;obtain⟨b1,pre,post,rfl,hB1,hmid⟩:=ho1.row (by have:=HNL.out;omega);have hcap1:=ho1.cap;have HO1:=hid ho1;have hn1:n1<=268435456:=by have:=HNL.out;omega
 obtain⟨o1,hpre⟩:∃o1,pre.length=o1:=⟨_,rfl⟩;rw [hpre];have HPR:=hid hpre;have HL1:=hid hl1;clear hpre ho1 hl1;have hcy1:w1.cell? ⟨b',o',none⟩=some (.int .u32 (b:Int)):=(hb1.cell (p:=⟨b',o',none⟩) hb').trans hcy;obtain⟨rm,hrm⟩:∃rm,a%b=rm:=⟨_,rfl⟩;have hrm4:rm<4294967296:=by rw [<-hrm];exact Nat.lt_trans (Nat.mod_lt _ hb0) hb4
 have HML:Hid (rm<18446744073709551616):=by show _<_;omega
 have HRM:=hid hrm;clear hrm;have HRV:Hid (val (limbs a)%b=rm):=by show _=_;rw [Qab];exact HRM.out
 go_wp2_with (go_at_call 224;refine(Qgq b1 o1 n1 c1 b rm pre post (limbs a) _ hmid (Qau a) HPR.out HL1.out hcap1 hb0 hb4 (by omega) HRV).mono ?_;rintro e w2 ⟨rfl,L,hm2,hgr2,hlen2,hlim2,hval2⟩)
 have hnumL:Num w2 L (some ⟨b1,o1,none⟩) n1 c1:=hm2.num hlim2 HPR.out.symm hlen2.symm hcap1;have HV2:=hid hval2;have HLN:=hid hlen2;clear hval2 hlen2;go_wp2_with (first
  |(go_at_call 223;refine(Qat _ _ _ L _ hnumL (by omega)).mono ?_;rintro e w' ⟨rfl,rfl⟩)
  |(go_at_call 288;refine(Qc1 rm _ HML.out).mono ?_;rintro e w3 ⟨A3,n3,c3,rfl,ho3,hb3⟩))
 go_ret2
 have hb12:Below w.heap.size w w2:=((Qa6 w q _).trans hb1).trans (Qhp hgr2 hB1 hb1.size);refine⟨_,_,_,A3,n3,c3,rfl,?_,?_,bt hb12 hb3⟩
 ·have h:=((hm2.own hB1 hlim2 HPR.out.symm rfl (by have:=HLN.out;omega:L.length<=c1)).trim).below hb3 (le_refl _)
  rw [HV2.out,Qab]at h;rw [HV2.out,Qab];exact h
 ·rw [HRM.out]
  exact ho3.more hb12.size
theorem Qpx(A A':Option Addr)(n c m c' j a b:Nat)(w:World)(hx:Num w (limbs a) A n c)(hy:Num w (limbs b) A' m c')(hn:n<=268435456)(hmj:m=j+2)(hle:b<=a):
 Calls prog 295 #[.slice A n c,.slice A' m c'] w (RetOwn2 w (limbs (a / b)) (limbs (a%b))):=by
 obtain⟨v,hv⟩:∃v,cmpI (a:Int) (b:Int)=v:=⟨_,rfl⟩;have hv0:0<=v:=by rw [<-hv];unfold cmpI;rw [if_neg (by omega)];split<;>omega
 have hd:decide (v<0)=false:=by simp;omega
 have HC:=hid hv;clear hv;have hlb:(limbs b).length=j+2:=by rw [<-hy.len];exact hmj
 have hmn:m<=n:=by have:=Qad hle;have:=hx.len;omega
 obtain⟨b',o',yt,rfl,hb',hyt,hyt4,hcy⟩:=hy.at_ (show j+1<m by omega);have hyt0:0<yt:=by rw [<-hyt];have:=Qeg hlb;omega
 have ha:=Qap a;rw [<-hx.len]at ha;have hb0:0<b:=by
  rcases eq_zero_or_pos b with h|h
  ·subst h;rw [Qaf]at hlb;simp at hlb
  ·exact h
 have HLB:=hid hlb;have HYT:=hid hyt;have HA:=hid ha;have HB0:=hid hb0;have HLE:=hid hle;have hm1:((m:Int)==1)=false:=by simp;omega
 have hmi:(m:Int) - 1=((j+1:Nat):Int):=by omega
 have hidx:((m:Int) - 1).toNat=j+1:=by omega
 have hidx0:0<=(m:Int) - 1:=by omega
 have hidx1:(m:Int) - 1<m:=by omega
 have hm2:2<=m:=by omega
 have HMJ:=hid hmj;clear hmi hlb hyt ha hb0 hle hmj;go_enter func295,ntmps295;go_wp2_with (go_at_call 219;refine(Qcm _ _ _ _ _ _ a b _ v hx hy (by omega) (by omega) HC).mono ?_;rintro e w' ⟨rfl,q,rfl⟩)
 obtain⟨s,hs32,hs1,hs2,hlead⟩:=Qok yt (w.drewN q) hyt4 hyt0;refine hlead.mono ?_;rintro e w' ⟨rfl,rfl⟩;clear hlead;obtain⟨N1,N2,N3,N4⟩:=Qpq HLB.out HYT.out hs32 hs1 hs2;obtain⟨S1,S2⟩:=Qpr HA.out hs32 (show j+2<=n by have:=HMJ.out;omega) N4;have HN1:=hid N1;have HN2:=hid N2;have HN3:=hid N3;have HN4:=hid N4;have HS1:=hid S1;have HS2:=hid S2;clear N1 N2 N3 N4 S1 S2;go_wp2_with fail
 refine(Qjq _ _ _ s b _ (hy.drewN q) (by omega) (by omega)).mono ?_;rintro e w1 ⟨A2,n2,c2,rfl,ho2,hb1⟩;have hmk:=Qfn (n+1) ((n:Int)+1) (by omega) (by omega);have hbA:Below w1.heap.size w1 (w1.alloc (.cells (zrow (n+1)) 97)):=(Below.refl _ _).alloc (le_refl _) _;have hx1:Num (w1.alloc (.cells (zrow (n+1)) 97)) (limbs a) A n c:=((hx.drewN q).below hb1).below hbA;go_wp2_with fail
 refine(Qjq _ _ _ s a _ hx1 (by omega) (by omega)).mono ?_;rintro e w2 ⟨A3,n3,c3,rfl,ho3,hb2⟩;have hb12:Below w1.heap.size w1 w2:=bt hbA hb2;have hrow0:Row w2 w1.heap.size (List.replicate (n+1) 0):=(Row.new w1 (n+1)).below hb2 (by simp);have hn3:n3<=n+1:=by rw [ho3.len];exact Qax HS2.out
 have HN3':=hid ho3.len;have hnum3:=ho3.num;have HRAW:Hid (w2.heap[w1.heap.size]? =some (.cells (u32s (List.replicate (n+1) 0)).toArray 97 (0,0))):=hrow0;clear hmk;go_wp2_with (with_reducible refine wpList_copy_splice rfl (.tmp 46) (.tmp 49) 25 25 rfl 97 underlying25 (by kernel_rfl) _ _ _ _ _ _ rfl rfl w1.heap.size 0 (u32s (List.replicate (n+1) 0)) 97 HRAW.out (u32s (limbs (a*2^s))) ?c1 ?c2 ?c3 (Qog _) w1.heap.size w1 hb12 (le_refl _) ?_)
 case c1=>rw [Qbh,<-HN3'.out];exact(Nat.min_eq_left hn3).symm
 case c2=>
  intro hpos;rw [Qbh,<-HN3'.out]at hpos;obtain⟨b3,o3,hA3,_,hc3⟩:=hnum3.cells hpos;refine⟨⟨b3,o3,none⟩,hA3,fun k u hu=>?_⟩;rw [Qg3]at hu;obtain⟨x,hx',rfl⟩:=Option.map_eq_some_iff.1 hu;have e:(⟨b3,o3,none⟩:Addr).add k=⟨b3,o3+k,none⟩:=by unfold Addr.add;split<;>simp_all
  rw [e];exact hc3 k x hx'
 case c3=>rw [Qbh,Qbh,List.length_replicate,<-HN3'.out];omega
 intro w3 hsp hb13;have hmk2:=Qfn (n-m+1) ((n:Int) - (m:Int)+1) (by omega) (by omega);obtain⟨R0,hR0⟩:∃R0,limbs (a*2^s)++List.replicate (n+1-n3) 0=R0:=⟨_,rfl⟩;have hrow3:Row w3 w1.heap.size R0:=by
  have h:=hsp.out;rw [splice,List.take_zero,List.nil_append,Nat.zero_add,Qbh,<-HN3'.out]at h;rw [show(u32s (List.replicate (n+1) 0)).drop n3=u32s (List.replicate (n+1-n3) 0)from by simp [u32s],<-Qbn,hR0]at h;exact h
 have HI0:Hid (R0.length=n+1/\Lim R0/\val (R0.drop (n-m+1))<b*2^s/\val R0=a*2^s):=by
  have hv:val R0=a*2^s:=by rw [<-hR0,Qpo,Qab]
  have hl:R0.length=n+1:=by rw [<-hR0,List.length_append,List.length_replicate,<-HN3'.out];omega
  have hli:Lim R0:=by rw [<-hR0];exact(Qau _).append (Lim.zeros _)
  refine⟨hl,hli,?_,hv⟩;rw [Qoe hli _ (by omega),hv,Nat.div_lt_iff_lt_mul (Qhg _),HMJ.out];exact HS1.out
 clear hsp hR0 hnum3 ho3;have hnum2:=ho2.num;have hn2:=ho2.len;have HN2':=hid hn2;have hoff2:Off A2 w1.heap.size:=fun x hx=>by
  obtain⟨b2,o2,hA2,hb2,_⟩:=hnum2.cells (by rw [hn2,HN1.out];omega);rw [hA2]at hx;cases hx;simp;omega
 have HOFF:=hid hoff2;have HO2:=hid ho2;have hn2b:n2<=268435456:=by rw [hn2,HN1.out];have:=HMJ.out;omega
 have hg34:w1.heap.size<w3.heap.size:=hrow3.lt;clear hn2 hoff2 ho2 hcy hx1;go_wp2_with fail
 go_loopw [10] (fun si wr=> ∃(k:Nat) (R Q:List Nat),k<=n-m+1/\si=.int .i64 ((k:Int) - 1)/\Row wr w1.heap.size R/\Row wr w3.heap.size Q/\Below w1.heap.size w1 wr/\
  Hid (R.length=n+1/\Lim R/\val (R.drop k)<b*2^s/\Q.length=n-m+1/\Lim Q/\a*2^s=P k*val (Q.drop k)*(b*2^s)+val R))
  (fun si _=>(intOf si+1).toNat)
 case atStart=>exact⟨n-m+1,R0,List.replicate (n-m+1) 0,le_refl _,congrArg (Value.int _) (by omega),hrow3.alloc _,Row.new _ _,hb13.alloc hb13.size _,
  show Hid _ from⟨HI0.out.1,HI0.out.2.1,HI0.out.2.2.1,by simp,Lim.zeros _,by rw [List.drop_of_length_le (by simp),HI0.out.2.2.2];simp [val]⟩⟩
 case round=>
  obtain⟨k,R,Q,hk,rfl,hR,hQ,hbel,HI⟩:=hrel;clear hrow3 hmk2 hb13 hrow0;rcases eq_zero_or_pos k with h0|h0
  ·subst h0
   have hI:=HI.out;have hfin:=Qu5 (Q:=val Q) (R:=val R) HB0.out (by have:=hI.2.2.2.2.2;rw [Qfj,Nat.one_mul,List.drop_zero]at this;exact this) (by have:=hI.2.2.1;rwa [List.drop_zero]at this);have HF:=hid hfin;have hRn:Num wr R (some ⟨w1.heap.size,0,none⟩) (n+1) (n+1):=hR.num hI.2.1 hI.1.symm (le_refl _);have hQn:Num wr Q (some ⟨w3.heap.size,0,none⟩) (n-m+1) (n-m+1):=hQ.num hI.2.2.2.2.1 hI.2.2.2.1.symm (le_refl _);have hlr:=Qjn R hI.2.1;have hlr2:(limbs (val R)).length<=536870912:=(by rw [hI.1]at hlr;omega);clear hI hfin hlr;go_wp2_with fail
   refine(Qat _ _ _ Q _ hQn (by omega)).mono ?_;rintro e w' ⟨rfl,rfl⟩;go_wp2_with fail
   refine(Qat _ _ _ R _ hRn (by omega)).mono ?_;rintro e w' ⟨rfl,rfl⟩;go_wp2_with fail
   refine(Qho _ _ _ s (val R) _ hRn.trim hlr2 (by omega)).mono ?_;rintro e w5 ⟨A5,n5,c5,rfl,ho5,hb5⟩;go_wp2_with fail
   go_ret2
   have hw1:Below w.heap.size w wr:=((Qa6 w q _).trans hb1).trans (hbel.mono hb1.size);refine⟨_,_,_,A5,n5,c5,rfl,?_,?_,bt hw1 hb5⟩
   ·have h:=((hQ.own (c:=n-m+1) (B:=w.heap.size) (by have:=hb1.size;have h1:w.heap.size<=w1.heap.size:=this;omega) HI.out.2.2.2.2.1 (by rw [HI.out.2.2.2.1];exact le_refl _)).trim).below hb5 (le_refl _)
    rw [HF.out.1]at h;rw [HF.out.1];exact h
   ·rw [HF.out.2]at ho5
    exact ho5.more hw1.size
  ·obtain⟨i,rfl⟩:∃i,k=i+1:=⟨k-1,by omega⟩
   have hI:=HI.out;have hkp:=Qiy (i:=i) (m:=m) hI.2.1 (by omega) (by have:=HN3.out;rw [HMJ.out];exact this) hI.2.2.1;have hD0:0<b*2^s:=Nat.mul_pos HB0.out (Nat.pow_pos (by decide));obtain⟨qd,hqd⟩:∃qd,val ((R.drop i).take (m+1)) / (b*2^s)=qd:=⟨_,rfl⟩;have HQD:Hid (val ((R.drop i).take (m+1)) / val (limbs (b*2^s))=qd):=(by show _=_;rw [Qab];exact hqd);have HQD':=hid hqd;have HKP:=hid hkp;have HD0:=hid hD0;have hir:(u32s (R.take i)).length=i:=(by rw [Qbh,List.length_take];omega);have HIR:=hid hir;have hmid:=hR.mid i (m+1);clear hI hkp hqd hD0 hir;have e1:((i+1:Nat):Int) - 1=(i:Int):=(by omega);rw [e1];clear e1;have hcapne:¬n+1=i:=(by omega);have hsub:i+m+1-i=m+1:=(by omega);have hd2:Num wr (limbs (b*2^s)) A2 n2 c2:=(hnum2.below hbel);go_wp2_with fail
   refine(Qxx w1.heap.size i _ j _ _ c2 A2 _ _ _ (limbs (b*2^s)) _ hmid ((HI.out.2.1.drop i).take _) HIR.out (by rw [HKP.out.2.2.2,HMJ.out]) (by have:=HMJ.out;omega) (by have:=HMJ.out;omega) (by rw [HN2'.out];exact HN1.out) hd2 HOFF.out HN2.out (by rw [Qab];exact HKP.out.2.1) (by have:=HMJ.out;omega) qd HQD).mono ?_;rintro e w4 ⟨rfl,L,hm4,hgr4,hlen4,hlim4,hval4⟩;have hR4:=hm4.row;have hQ4:=hQ.grown hgr4 (fun e=>by have:=Option.some.inj e;omega);have hI:=HI.out;have hstep:=Qpp (L:=L) (Q:=Q) (i:=i) (m:=m) (D:=b*2^s) (N:=n+1) (q:=qd) hI.2.1 (by omega) (by have:=HN3.out;rw [HMJ.out];exact this) HD0.out hI.2.2.1 (by omega) hI.2.2.2.2.2 (by rw [hlen4,HMJ.out]) hlim4 HQD'.out.symm (by rw [hval4,Qab]) hI.1;have HST:=hid hstep;obtain⟨d,hd'⟩:∃d,Q.getD i 0=d:=⟨_,rfl⟩;have hcs:=hQ4.cell (k:=i) (by omega);have hfs:=hQ4.frozen i;rw [hd']at hcs;have hbel4:Below w1.heap.size w1 w4:=hbel.trans (Qhp hgr4 (le_refl _) hbel.size);have hqn:Q.length=n-m+1:=hI.2.2.2.1;have HQN:=hid hqn;clear hstep hI hd' hval4 hlen4 hqn hR hQ hmid;have him:i<n-m+1:=(by omega);go_wp2_with fail
   go_roundw
   case rel=>
    exact⟨i,_,Q.set i qd,by omega,rfl,hR4.far (p:=⟨w3.heap.size,i,none⟩) (by simp;omega) _,hQ4.set i qd,hbel4.setCell (p:=⟨w3.heap.size,i,none⟩) (by simp;omega) _,
     show Hid _ from⟨HST.out.1,HST.out.2.1,HST.out.2.2.1,by rw [List.length_set];exact HQN.out,HI.out.2.2.2.2.1.set _ HST.out.2.2.2.2,HST.out.2.2.2.1⟩⟩
   case measure=>simp [intOf]
theorem Qc3(A A':Option Addr)(n c m c' a b:Nat)(w:World)(hx:Num w (limbs a) A n c)(hy:Num w (limbs b) A' m c')(hn:n<=268435456)(hm:m<=268435456)(hb:b≠0):
 Calls prog 295 #[.slice A n c,.slice A' m c'] w (RetOwn2 w (limbs (a / b)) (limbs (a%b))):=by
 rcases Nat.lt_or_ge a b with h|h
 ·exact Qnd A A' n c m c' a b w hx hy hn hm h
 ·have hm0:m≠0:=by
   intro h0;have:=hy.len;exact hb (Qae.1 (by omega))
  by_cases h1:m=1
  ·subst h1
   exact Qpw A A' n c c' a b w hx hy hn h
  ·exact Qpx A A' n c m c' (m-2) a b w hx hy hn (by omega) h
end Go.Proofs.YthbhgelncdnmgaaGreatDoor
