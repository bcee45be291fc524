import Derived.Test.YthbhgelncdnmgaaGreatDoorY13
import Derived.Deep.RegionLaw
set_option linter.unusedVariables false
set_option linter.unusedSimpArgs false
set_option maxRecDepth 20000
set_option maxHeartbeats 2000000
namespace Go.Proofs.YthbhgelncdnmgaaGreatDoor
open Go.Proofs.Tryz
open Lib (hid)
open Nat (le_refl)
open Go.RowKit
theorem Qgj{l:List Nat}{j:Nat}(h:l.length=j+1):pad l=decide (l.getD j 0=0):=by
 unfold pad;rw [h,Nat.add_sub_cancel];simp
theorem Qsm:pad []=false:=rfl
theorem Qcv{x:Nat}(h:x≠0):((x:Int)==0)=false:=by simp;exact h
theorem Qnn{w:World}{l:List Nat}{A:Option Addr}{n c:Nat}(h:Num w l A n c):n=0\/
 (∃j b o,n=j+1/\A=some ⟨b,o,none⟩/\l.getD j 0=0/\w.cell? ⟨b,o+j,none⟩=some (.int .u32 0))\/
 (∃j b o x,n=j+1/\A=some ⟨b,o,none⟩/\x≠0/\l.getD j 0=x/\w.cell? ⟨b,o+j,none⟩=some (.int .u32 ((x:Nat):Int))):=by
 rcases Nat.eq_zero_or_pos n with h0|h0
 ·exact .inl h0
 ·obtain⟨j,rfl⟩:∃j,n=j+1:=⟨n-1,by omega⟩
  obtain⟨b,o,x,hA,_,hxx,hx4,hcx⟩:=h.at_ (show j<j+1 by omega);by_cases hx0:x=0
  ·subst hx0
   exact .inr (.inl ⟨j,b,o,rfl,hA,hxx,hcx⟩)
  ·exact .inr (.inr ⟨j,b,o,x,rfl,hA,hx0,hxx,hcx⟩)
theorem Qdp(neg:Bool)(A A':Option Addr)(n c m c':Nat)(ln ld:List Nat)(w:World)(V:Bool)(hx:Num w ln A n c)(hy:Num w ld A' m c')(hn:n<=1000000)(hm:m<=1000000)(HV:Hid (vld neg ln ld=V)):
 Calls prog 68 #[.agg #[.bool neg,.slice A n c,.slice A' m c']] w (RetV w (.bool V)):=by
 have hbA:Below w.heap.size w (w.alloc (R1 (.bool neg) (.slice A n c) (.slice A' m c'))):=(Below.refl _ _).alloc (le_refl _) _;have hrx:=Rc.new w (.bool neg) (.slice A n c) (.slice A' m c');have hx1:=hx.below hbA;have hy1:=hy.below hbA;have HLX:=hid hx.len;have HLY:=hid hy.len;have HX:=hid hx1;have HY:=hid hy1;obtain⟨t,ht⟩:∃t,pad ln=t:=⟨_,rfl⟩;obtain⟨u,hu⟩:∃u,pad ld=u:=⟨_,rfl⟩;have HT:=hid ht;have HU:=hid hu;clear hx hy hx1 hy1 ht hu;rcases Qnn HX.out with hn0|⟨j,b,o,rfl,rfl,hxx,hcx⟩|⟨j,b,o,x,rfl,rfl,hx0,hxx,hcx⟩
 ·have HLN:Hid (ln=[]):=List.eq_nil_of_length_eq_zero (by have:=HLX.out;omega)
  have HPX:Hid (pad ln=false):=by show _=_;rw [HLN.out];rfl
  subst hn0;rcases Qnn HY.out with hm0|⟨i,b',o',rfl,rfl,hyy,hcy⟩|⟨i,b',o',y,rfl,rfl,hy0,hyy,hcy⟩
  ·have HLD:Hid (ld=[]):=List.eq_nil_of_length_eq_zero (by have:=HLY.out;omega)
   have HO:Hid (decide (ld=[1])=false):=decide_eq_false (by rw [HLD.out];simp);have HW:Hid (V=!neg):=by
    show _=_;rw [<-HV.out];unfold vld;rw [HLN.out,HLD.out,Qsm];cases neg<;>rfl
   subst hm0;cases neg;all_goals
    go_enter func68,ntmps68;go_wp2_with fail
    refine(Qjs _ _ _ _ _ false HY.out (by omega) HO).mono ?_;rintro e w' ⟨rfl,rfl⟩;go_wp2_with fail
    go_ret;rw [HW.out];exact⟨rfl,hbA⟩
  ·have HW:Hid (V=false):=by
    show _=_;rw [<-HV.out];unfold vld;rw [HPX.out,Qgj HLY.out.symm,hyy];rfl
   clear hyy;go_enter func68,ntmps68;go_wp2_with fail
   go_ret;rw [HW.out];exact⟨rfl,hbA⟩
  ·have HLD:Hid (ld≠[]):=by intro h;have:=HLY.out;rw [h]at this;simp at this
   have HPY:Hid (pad ld=false):=(by show _=_;rw [Qgj HLY.out.symm,hyy,decide_eq_false hy0]);have hy0':=Qcv hy0;clear hyy hy0;by_cases hone:ld=[1]
   ·have HO:Hid (decide (ld=[1])=true):=decide_eq_true hone
    have HW:Hid (V=false):=by
     show _=_;rw [<-HV.out];unfold vld;rw [HPX.out,HPY.out,if_pos hone];rfl
    clear hone;go_enter func68,ntmps68;go_wp2_with fail
    refine(Qjs _ _ _ _ _ true HY.out (by omega) HO).mono ?_;rintro e w' ⟨rfl,rfl⟩;go_wp2_with fail
    go_ret;rw [HW.out];exact⟨rfl,hbA⟩
   ·have HO:Hid (decide (ld=[1])=false):=decide_eq_false hone
    have HW:Hid (V=false):=by
     show _=_;rw [<-HV.out];unfold vld;rw [HPX.out,HPY.out,if_neg hone,if_pos HLN.out,decide_eq_false HLD.out];rfl
    clear hone;cases neg;all_goals
     go_enter func68,ntmps68;go_wp2_with fail
     refine(Qjs _ _ _ _ _ false HY.out (by omega) HO).mono ?_;rintro e w' ⟨rfl,rfl⟩;go_wp2_with fail
     go_ret;rw [HW.out];exact⟨rfl,hbA⟩
 ·have HW:Hid (V=false):=by
   show _=_;rw [<-HV.out];unfold vld;rw [Qgj HLX.out.symm,hxx];rfl
  clear hxx;go_enter func68,ntmps68;go_wp2_with fail
  go_ret;rw [HW.out];exact⟨rfl,hbA⟩
 ·have HLN:Hid (ln≠[]):=by intro h;have:=HLX.out;rw [h]at this;simp at this
  have HPX:Hid (pad ln=false):=by show _=_;rw [Qgj HLX.out.symm,hxx,decide_eq_false hx0]
  have hx0':=Qcv hx0;clear hx0 hxx;rcases Qnn HY.out with hm0|⟨i,b',o',rfl,rfl,hyy,hcy⟩|⟨i,b',o',y,rfl,rfl,hy0,hyy,hcy⟩
  ·have HLD:Hid (ld=[]):=List.eq_nil_of_length_eq_zero (by have:=HLY.out;omega)
   have HO:Hid (decide (ld=[1])=false):=decide_eq_false (by rw [HLD.out];simp);have HW:Hid (V=true):=by
    show _=_;rw [<-HV.out];unfold vld;rw [HPX.out,HLD.out,Qsm];simp [HLN.out]
   subst hm0;go_enter func68,ntmps68;go_wp2_with fail
   refine(Qjs _ _ _ _ _ false HY.out (by omega) HO).mono ?_;rintro e w' ⟨rfl,rfl⟩;go_wp2_with fail
   go_ret;rw [HW.out];exact⟨rfl,hbA⟩
  ·have HW:Hid (V=false):=by
    show _=_;rw [<-HV.out];unfold vld;rw [HPX.out,Qgj HLY.out.symm,hyy];rfl
   clear hyy;go_enter func68,ntmps68;go_wp2_with fail
   go_ret;rw [HW.out];exact⟨rfl,hbA⟩
  ·have HLD:Hid (ld≠[]):=by intro h;have:=HLY.out;rw [h]at this;simp at this
   have HPY:Hid (pad ld=false):=(by show _=_;rw [Qgj HLY.out.symm,hyy,decide_eq_false hy0]);have hy0':=Qcv hy0;clear hyy hy0;by_cases hone:ld=[1]
   ·have HO:Hid (decide (ld=[1])=true):=decide_eq_true hone
    have HW:Hid (V=false):=by
     show _=_;rw [<-HV.out];unfold vld;rw [HPX.out,HPY.out,if_pos hone];rfl
    clear hone;go_enter func68,ntmps68;go_wp2_with fail
    refine(Qjs _ _ _ _ _ true HY.out (by omega) HO).mono ?_;rintro e w' ⟨rfl,rfl⟩;go_wp2_with fail
    go_ret;rw [HW.out];exact⟨rfl,hbA⟩
   ·have HO:Hid (decide (ld=[1])=false):=decide_eq_false hone
    have HC:Hid (decide (limbs (Nat.gcd (val ln) (val ld))=[1])=V):=by
     show _=_;rw [<-HV.out];unfold vld;rw [HPX.out,HPY.out,if_neg hone,if_neg HLN.out,decide_eq_false HLD.out];rw [Bool.eq_iff_iff,decide_eq_true_iff,Qa1];simp
    have e1:=Qby HX.out.lim HPX.out;have e2:=Qby HY.out.lim HPY.out;have hx2:=HX.out;have hy2:=HY.out;rw [e1]at hx2;rw [e2]at hy2;have hgl:=Qsg hx2.len hy2.len;have HX2:=hid hx2;have HY2:=hid hy2;clear hone e1 e2 hx2 hy2;go_enter func68,ntmps68;go_wp2_with fail
    refine(Qjs _ _ _ _ _ false HY.out (by omega) HO).mono ?_;rintro e w' ⟨rfl,rfl⟩;go_wp2_with fail
    refine(Qlc _ _ _ _ _ _ (val ln) (val ld) _ HX2.out HY2.out (by omega) (by omega)).mono ?_;rintro e w2 ⟨A2,n2,c2,rfl,h2,hb2⟩;have hn2:n2<=1073741824:=(by rw [h2.len];omega);go_wp2_with fail
    refine(Qjs _ _ _ _ _ V h2 hn2 HC).mono ?_;rintro e w' ⟨rfl,rfl⟩;go_wp2_with fail
    go_ret;exact⟨rfl,bt hbA hb2⟩
theorem OwnR.keep{w w':World}{B:Nat}{v:Value}{l:List Nat}(h:OwnR w B v l)(hg:w.grownBy w' none):OwnR w' B v l:=by
 refine⟨h.1,?_⟩;rcases h.2 with h1|⟨g,cap,cur,h1,h2,h3,h4⟩
 ·exact .inl h1
 ·exact .inr ⟨g,cap,cur,h1,h2,(hg.block g (Qas h3) (fun e=>by cases e)).trans h3,h4⟩
theorem Qox{w:World}{ops:Array Oper}{o:Oper}{a:Act}{Q:Exit->Act->World->Prop}{K:Act->World->Prop}{E:Prop}(hgd:o.guard=none)(sl x:Operand)
 (ho:o.op=.call {callee:=.builtin .append,args:=#[sl,x],argTypes:=#[25,25]})(hty:o.type=25)(v v' u:Value)(w':World)(hs:a.eval sl=v)(hx:a.eval x=u)
 (hrun:Hid ((Builtin.append_ #[25,25] 25 #[v,u]).run prog w=.ok v' w'))(hK:K (a.put o.dst v') w'):
 if Region.wanted o (yielded ops a.tmps)=true then Oper.wp prog o a w K Q else E:=by
 have hw:Region.wanted o (yielded ops a.tmps)=true:=by simp [Region.wanted,hgd]
 have hr:=hrun.out;rw [if_pos hw];unfold Oper.wp;simp [execOp,ho,hty,resolve,invoke,builtin,hs,hx,hr,Result.andThen];exact hK
theorem Qp6(neg:Bool)(A A':Option Addr)(n c m c':Nat)(ln ld:List Nat)(q:Rat)(w:World)(hx:Num w ln A n c)(hy:Num w ld A' m c')(hn:n<=1000000)(hm:m<=1000000)(hq:fq neg ln ld=q):
 Calls prog 74 #[.agg #[.bool neg,.slice A n c,.slice A' m c']] w (RetRat w q):=by
 obtain⟨V,hV⟩:∃V,vld neg ln ld=V:=⟨_,rfl⟩;have HV:=hid hV;have HQ:=hid hq;clear hV hq;obtain⟨hbA,hrx,hrr⟩:=blocks2 w (.bool neg) (.slice A n c) (.slice A' m c') (.bool false) (.slice none 0 0) (.slice none 0 0);have hxW:=hx.below hbA;have hyW:=hy.below hbA;go_enter func74,ntmps74;go_wp2_with fail
 generalize ((w.alloc (R1 (.bool neg) (.slice A n c) (.slice A' m c'))).alloc (R1 (.bool false) (.slice none 0 0) (.slice none 0 0)))=W at*
 refine(Qdp neg _ _ _ _ _ _ ln ld _ V hxW hyW hn hm HV).mono ?_;rintro e w1 ⟨rfl,hb1⟩;have hrx1:=hrx.below hb1 hrx.lt;have hrr1:=hrr.below hb1 hrr.lt;have hx1:=hxW.below hb1;have hy1:=hyW.below hb1;obtain⟨k0,k1,k2⟩:=hrx1.cells;have hb01:=bt hbA hb1;cases V
 ·have hq0:q=0:=by rw [<-HQ.out];unfold fq;rw [HV.out];rfl
  subst hq0;obtain⟨r0,r1,r2⟩:=hrr1.cells;obtain⟨f0,f1,f2⟩:=hrr1.frozen;go_wp2_with fail
  refine Qa8 results74 rfl (hrr1.set _ _ _) rfl ?_;exact⟨_,rfl,Qfx _,Qai hb01 (by omega) _ _ _⟩
 ·have hlx:ln.length<=1000000:=by rw [<-hx1.len];exact hn
  have hly:ld.length<=1000000:=by rw [<-hy1.len];exact hm
  have hwl:=hrr1.lt;obtain⟨v2,w2,hrun2,ho2,hg2,_⟩:=Qm8 w1.drew w1.heap.size (.slice none 0 0) [] ln (OwnR.nil _ _) A n c hx1.drew (by simp;omega) (le_refl _);have hb2:Below w1.heap.size w1.drew w2:=(Below.refl _ _).grown hg2 (le_refl _) (fun k hk=>by cases hk);have hrx2:=(hrx1.drewN 1).below hb2 hrx1.lt;have hrr2:=(hrr1.drewN 1).below hb2 hrr1.lt;have hy2:Num w2 ld A' m c':=hy1.drew.below hb2;obtain⟨v3,w3,hrun3,ho3,hg3,_⟩:=Qm8 w2 w1.heap.size (.slice none 0 0) [] ld (OwnR.nil _ _) A' m c' hy2 (by simp;omega) hb2.size;have hb3:Below w1.heap.size w2 w3:=(Below.refl _ _).grown hg3 hb2.size (fun k hk=>by cases hk);have hb13:=hb2.trans hb3;have hrr3:=hrr2.below hb3 hrr1.lt;have ho2':=OwnR.keep ho2 hg3;rw [List.nil_append]at ho2' ho3;obtain⟨A2,c2,rfl,h2⟩:=ho2'.own hx1.lim;obtain⟨A3,c3,rfl,h3⟩:=ho3.own hy1.lim;have HR2:=hid hrun2;have HR3:=hid hrun3;have hne2:=h2.num.ne_rc hrr3;have hne3:=h3.num.ne_rc hrr3;obtain⟨k0,k1,k2⟩:=(hrx1.drewN 1).cells;obtain⟨m0,m1,m2⟩:=hrx2.cells;obtain⟨p0,p1,p2⟩:=(hrx2.below hb3 hrx1.lt).cells;obtain⟨r0,r1,r2⟩:=hrr3.cells;obtain⟨f0,f1,f2⟩:=hrr3.frozen;have hb03:=(hb01.trans (Qah (Below.refl _ w1) 1)).trans (hb13.mono hb01.size);clear hg2 hg3 ho2 ho3 ho2' hrun2 hrun3;go_wp2_with fail
  go_region_law (first|(refine Qox rfl (.const (.slice none 0 0)) (.tmp 10) rfl rfl _ _ _ _ rfl rfl HR2 ?_)|(refine Qox rfl (.const (.slice none 0 0)) (.tmp 13) rfl rfl _ _ _ _ rfl rfl HR3 ?_))
  all_goals
   go_wp2_with fail
   refine Qa8 results74 rfl (hrr3.set _ _ _) rfl ?_;refine⟨_,rfl,?_,Qai hb03 (by omega) _ _ _⟩;rw [<-HQ.out];exact Qj5 HV.out (h2.num.set3 hne2 _ _ _) (h3.num.set3 hne3 _ _ _)
def Inr(w:World)(v:Value)(q:Rat):Prop:=
 ∃neg A n c A' m c' ln ld,v=.agg #[.bool neg,.slice A n c,.slice A' m c']/\Num w ln A n c/\Num w ld A' m c'/\n<=1000000/\m<=1000000/\fq neg ln ld=q
theorem Inr.agg{w:World}{v:Value}{q:Rat}(h:Inr w v q):∃nb A n c B m e,v=.agg #[.bool nb,.slice A n c,.slice B m e]:=by
 obtain⟨neg,A,n,c,A',m,c',ln,ld,e,_⟩:=h;exact⟨_,_,_,_,_,_,_,e⟩
theorem Inr.below{w w':World}{v:Value}{q:Rat}(h:Inr w v q)(hb:Below w.heap.size w w'):Inr w' v q:=by
 obtain⟨neg,A,n,c,A',m,c',ln,ld,e,h1,h2,h3⟩:=h;exact⟨neg,A,n,c,A',m,c',ln,ld,e,h1.below hb,h2.below hb,h3⟩
theorem Qll(v:Value)(q:Rat)(w:World)(h:Inr w v q):Calls prog 74 #[v] w (RetRat w q):=by
 obtain⟨neg,A,n,c,A',m,c',ln,ld,rfl,h1,h2,h3,h4,h5⟩:=h;exact Qp6 neg A A' n c m c' ln ld q w h1 h2 h3 h4 h5
theorem Qsn(A A':Option Addr)(n c m c':Nat)(l r:List Nat)(w:World)(V:Bool)(hx:Num w l A n c)(hy:Num w r A' m c')(hn:n<=1073741824)(hm:m<=1073741824)(H:Hid (decide (l=r)=V)):
 Calls prog 72 #[.slice A n c,.slice A' m c'] w (RetQ w (.bool V)):=by
 by_cases hnm:n=m
 ·subst hnm
  have h1:((n:Int) !=n)=false:=by simp
  go_enter func72,ntmps72
  go_wp2
  go_loopw [5] (fun i wr=> ∃k q:Nat,k<=n/\i=.int .i64 (k:Int)/\wr=w.drewN q/\Hid (∀j,j<k->l.getD j 0=r.getD j 0)) (fun i _=>(n-intOf i).toNat)
  case atStart=>exact⟨0,0,Nat.zero_le _,rfl,rfl,show Hid _ from fun j h1=>by omega⟩
  case round=>
   obtain⟨k,q,hk,rfl,rfl,HE⟩:=hrel;rcases Nat.lt_or_ge k n with hkn|hkn
   ·obtain⟨b,o,x,rfl,_,hx',_,hcx⟩:=hx.at_ hkn
    obtain⟨b',o',y,rfl,_,hy',_,hcy⟩:=hy.at_ hkn;have hkn2:(k:Int)<(n:Int):=(by omega);have HX:=hid hx';have HY:=hid hy';have LX:=hid hx;have LY:=hid hy;clear hx' hy' hx hy;by_cases hxy:x=y
    ·have hne:((x:Int) !=y)=false:=by simp;omega
     have hne2:((y:Int) !=y)=false:=(by simp);subst hxy;go_wp2_with fail
     go_quiet (fail)
     go_wp2_with fail
     go_roundw
     case rel=>exact⟨k+1,_,by omega,congrArg (Value.int _) (by omega),rfl,show Hid _ from fun i hi1=>by
      rcases Nat.lt_or_eq_of_le (Nat.le_of_lt_succ hi1)with hi|hi
      ·exact HE.out i hi
      ·subst hi;rw [HX.out,HY.out]⟩
     case measure=>simp [intOf];omega
    ·have hne:((x:Int) !=y)=true:=by simp;omega
     go_wp2_with fail
     go_quiet (fail)
     go_wp2_with fail
     go_ret;refine⟨Qal ?_,draws2 ..⟩;rw [<-H.out];exact(decide_eq_false (fun h=>hxy (by rw [<-HX.out,<-HY.out,h]))).symm
   ·have hlt:¬(k:Int)<(n:Int):=by omega
    go_wp2_with fail
    go_ret;refine⟨Qal ?_,q,rfl⟩;rw [<-H.out];exact(decide_eq_true (Qc0 (hx.len.symm.trans hy.len) (fun j hj=>HE.out j (by have:=hx.len;omega)))).symm
 ·have h1:((n:Int) !=m)=true:=by simp;omega
  go_enter func72,ntmps72
  go_wp2
  go_ret;refine⟨Qal ?_,0,rfl⟩;rw [<-H.out];exact(decide_eq_false (fun h=>hnm (by rw [hx.len,hy.len,h]))).symm
theorem Qxe(v:Value)(q:Rat)(w:World)(h:Inr w v q):Calls prog 69 #[v] w (RetV w (.int .i64 q.num.sign)):=by
 obtain⟨z0,Z,zn,zc,Z',zm,ze,rfl⟩:=h.agg;have hbA:Below w.heap.size w (w.alloc (R1 (.bool z0) (.slice Z zn zc) (.slice Z' zm ze))):=(Below.refl _ _).alloc (le_refl _) _;have hrx:=Rc.new w (.bool z0) (.slice Z zn zc) (.slice Z' zm ze);go_enter func69,ntmps69;go_wp2_with fail
 refine(Qll _ q _ (h.below hbA)).mono ?_;rintro e w1 ⟨v1,rfl,h1,hb1⟩;have hrx1:=hrx.below hb1 hrx.lt;obtain⟨nb,A,n,c,A',m,c',rfl⟩:=h1.agg;obtain⟨k0,k1,k2⟩:=hrx1.cells;obtain⟨f0,f1,f2⟩:=hrx1.frozen;obtain⟨hnb,hN,hD⟩:=h1.parts;have hb2:=Qai (bt hbA hb1) (le_refl w.heap.size) (.bool nb) (.slice A n c) (.slice A' m c');have HS:Hid ((q.num<0/\nb=true/\q.num.sign= -1)\/(nb=false/\(0:Int)<(n:Int)/\q.num.sign=1)\/(nb=false/\n=0/\q.num.sign=0)):=by
  show _\/_;have l1:=hN.len;by_cases h:q.num<0
  ·exact .inl ⟨h,by rw [hnb];exact decide_eq_true h,Int.sign_eq_neg_one_of_neg h⟩
  ·right
   have hb:nb=false:=(by rw [hnb];exact decide_eq_false h);by_cases h0:q.num=0
   ·right
    exact⟨hb,by rw [l1,h0];rw [show(0:Int).natAbs=0 from rfl,Qaf];rfl,by rw [h0];rfl⟩
   ·left
    have h3:n≠0:=fun e=>h0 (by have:=Qae.1 (l1.symm.trans e);omega)
    exact⟨hb,by omega,Int.sign_eq_one_of_pos (by omega)⟩
 have hs:=HS.out;clear hnb HS;rcases hs with⟨_,rfl,hs⟩|⟨rfl,hp,hs⟩|⟨rfl,rfl,hs⟩;all_goals
  have HS2:=hid hs;clear hs;go_wp2_with fail
  go_ret;rw [HS2.out];exact⟨rfl,hb2⟩
theorem Qb7(neg neg':Bool)(A A' D D':Option Addr)(n c m e n' c' m' e':Nat)(ln ld ln' ld':List Nat)(w:World)(V:Bool)(hx:Num w ln A n c)(hy:Num w ld A' m e)(hx':Num w ln' D n' c')(hy':Num w ld' D' m' e')(h1:n<=100000000)(h2:m<=100000000)(h3:n'<=100000000)(h4:m'<=100000000)(H:Hid (decide (neg=neg'/\ln=ln'/\ld=ld')=V)):
 Calls prog 46 #[.agg #[.bool neg,.slice A n c,.slice A' m e],.agg #[.bool neg',.slice D n' c',.slice D' m' e']] w (RetV w (.bool V)):=by
 obtain⟨hbA,hrx,hry⟩:=blocks2 w (.bool neg) (.slice A n c) (.slice A' m e) (.bool neg') (.slice D n' c') (.slice D' m' e');have gx:=hx.below hbA;have gy:=hy.below hbA;have gx':=hx'.below hbA;have gy':=hy'.below hbA;by_cases hn:neg=neg'
 ·subst hn
  by_cases hl:ln=ln'
  ·have HL:Hid (decide (ln=ln')=true):=decide_eq_true hl
   have HV:Hid (decide (ld=ld')=V):=(by show _=_;rw [<-H.out];simp [hl]);clear H hl;cases neg;all_goals
    go_enter func46,ntmps46;go_wp2_with fail
    refine(Qsn _ _ _ _ _ _ ln ln' _ true gx gx' (by omega) (by omega) HL).mono ?_;rintro e1 w' ⟨rfl,q,rfl⟩;obtain⟨x0,x1,x2⟩:=(hrx.drewN q).cells;obtain⟨y0,y1,y2⟩:=(hry.drewN q).cells;go_wp2_with fail
    refine(Qsn _ _ _ _ _ _ ld ld' _ V (gy.drewN q) (gy'.drewN q) (by omega) (by omega) HV).mono ?_;rintro e1 w' ⟨rfl,q',rfl⟩;go_wp2_with fail
    go_ret;exact⟨rfl,Qah hbA _⟩
  ·have HL:Hid (decide (ln=ln')=false):=decide_eq_false hl
   have HV:Hid (V=false):=(by show _=_;rw [<-H.out];simp [hl]);clear H hl;cases neg;all_goals
    go_enter func46,ntmps46;go_wp2_with fail
    refine(Qsn _ _ _ _ _ _ ln ln' _ false gx gx' (by omega) (by omega) HL).mono ?_;rintro e1 w' ⟨rfl,q,rfl⟩;go_wp2_with fail
    go_ret;rw [HV.out];exact⟨rfl,Qah hbA q⟩
 ·have HV:Hid (V=false):=by show _=_;rw [<-H.out];simp [hn]
  have hbb:(neg==neg')=false:=beq_eq_false_iff_ne.2 hn;clear H hn;cases neg<;>cases neg';all_goals first|(simp at hbb;done)|skip
  all_goals
   go_enter func46,ntmps46;go_wp2_with fail
   go_ret;rw [HV.out];exact⟨rfl,hbA⟩
theorem Qso(neg:Bool)(A A':Option Addr)(n c m c' k:Nat)(w:World)(V:Bool)(H:Hid ((decide (n<=k) && decide (m<=k))=V)):
 Calls prog 64 #[.agg #[.bool neg,.slice A n c,.slice A' m c'],.int .i64 k] w (RetV w (.bool V)):=by
 have hbA:Below w.heap.size w (w.alloc (R1 (.bool neg) (.slice A n c) (.slice A' m c'))):=(Below.refl _ _).alloc (le_refl _) _;have h:=H.out;clear H;by_cases hn:n<=k
 ·have h1:decide ((n:Int)<=(k:Int))=true:=decide_eq_true (by omega)
  have h1':(n:Int)<=(k:Int):=by omega
  by_cases hm:m<=k
  ·have h2:(m:Int)<=(k:Int):=by omega
   have HV:Hid (V=true):=(by show _=_;rw [<-h];simp [hn,hm]);clear h hn hm;go_enter func64,ntmps64;go_wp2_with fail
   go_ret;rw [HV.out];exact⟨rfl,hbA⟩
  ·have h2:¬(m:Int)<=(k:Int):=by omega
   have h2':decide ((m:Int)<=(k:Int))=false:=decide_eq_false (by omega);have HV:Hid (V=false):=(by show _=_;rw [<-h];simp [hm]);clear h hn hm;go_enter func64,ntmps64;go_wp2_with fail
   go_ret;rw [HV.out];exact⟨rfl,hbA⟩
 ·have h2:¬(n:Int)<=(k:Int):=by omega
  have h2':decide ((n:Int)<=(k:Int))=false:=decide_eq_false (by omega);have HV:Hid (V=false):=by show _=_;rw [<-h];simp [hn]
  clear h hn;go_enter func64,ntmps64;go_wp2_with fail
  go_ret;rw [HV.out];exact⟨rfl,hbA⟩
end Go.Proofs.YthbhgelncdnmgaaGreatDoor
