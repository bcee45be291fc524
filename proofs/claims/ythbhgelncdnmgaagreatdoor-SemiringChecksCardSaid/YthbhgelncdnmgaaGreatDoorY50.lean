import Derived.Test.YthbhgelncdnmgaaGreatDoorY49
import Derived.Test.YthbhgelncdnmgaaGreatDoorY47
set_option linter.unusedVariables false
set_option linter.unusedSimpArgs false
set_option maxRecDepth 20000
set_option maxHeartbeats 8000000
namespace Go.Proofs.YthbhgelncdnmgaaGreatDoor
open Go.Proofs.Tryz
open Lib (hid)
open Nat (le_refl zero_le lt_or_eq_of_le le_of_lt_succ not_lt_zero)
open Go.RowKit
theorem fq_neg{ln ld:List Nat}(hl:Lim ln)(hl':Lim ld)(h:vld true ln ld=true):fq true ln ld<0:=by
 obtain⟨_,_,h3,h4,h5⟩:=Qfw hl hl' h;have h6:val ln≠0:=by simpa using h5
 unfold fq;rw [if_pos h];unfold qv;refine Rat.not_le.1 (fun h=>?_);have h7:0<=(qv true (val ln) (dv ld)).num:=Rat.num_nonneg.2 h;rw [(Qc5 h3 h4).1]at h7;unfold sgn at h7;simp at h7;omega
theorem Qzo{q:Rat}(h:q<0):q.num.sign<0:=by
 rw [Int.sign_eq_neg_one_of_neg (Int.not_le.1 (fun h2=>Rat.not_le.2 h (Rat.num_nonneg.1 h2)))];decide
theorem Qzp{q:Rat}(h:0<=q):0<=q.num.sign:=by
 have h2:=Rat.num_nonneg.2 h;by_cases h0:q.num=0
 ·rw [h0];decide
 ·rw [Int.sign_eq_one_of_pos (by omega)];decide
structure Need (k:Nat) (d:WD):Prop where
 parts:d.parts=[]
 q:k≠1->k≠3->d.noQ
 c:k≠2->d.noC
 s:k≠4->d.s=0
 poly:k≠5->d.poly=[]
theorem Qaw{k:Nat}{d:WD}(hk:kind5 k)(h:chk k d):Need k d:=by
 revert h;refine kinds5 (P:=fun k=>chk k d->Need k d) ?_ ?_ ?_ ?_ ?_ k hk.1 hk.2
 ·intro⟨⟨h1,h2,h3,h4⟩,_⟩;exact⟨h4,fun h=>absurd rfl h,fun _=>h1,fun _=>h2,fun _=>h3⟩
 ·intro⟨⟨h1,h2,h3,h4⟩,_⟩;exact⟨h4,fun _ _=>h1,fun h=>absurd rfl h,fun _=>h2,fun _=>h3⟩
 ·intro⟨⟨h1,h2,h3,h4⟩,_⟩;exact⟨h4,fun _ h=>absurd rfl h,fun _=>h1,fun _=>h2,fun _=>h3⟩
 ·intro⟨h1,h2,h3,h4⟩;exact⟨h4,fun _ _=>h1,fun _=>h2,fun h=>absurd rfl h,fun _=>h3⟩
 ·intro⟨⟨h1,h2,h3,h4⟩,_⟩;exact⟨h4,fun _ _=>h1,fun _=>h2,fun _=>h3,fun h=>absurd rfl h⟩
theorem Qur(d:WD)(x:List Value)(w:World)(V:Bool)(hx:WRd w x d)(sd:SzK d)(H:Hid (tv (chk 1 d)=V)):Calls prog 41 #[.int .i64 1,.agg x.toArray] w (RetV w (.bool V)):=by
 have hk5:kind5 1:=⟨by decide,by decide⟩;obtain⟨A,n,c,B,m,e,P,p,r,Q,q,s,rfl,h1,h2,h3,h4⟩:=hx.shape;obtain⟨z1,z2,z3,z4,_,_⟩:=sd.open;cases d with
 |mk neg ln ld kc iv u poly parts=>
 simp only [WD.neg,WD.ln,WD.ld,WD.c,WD.i,WD.s,WD.poly,WD.parts]at*
 show Calls _ _ #[_,.agg #[.bool neg,.slice A n c,.slice B m e,.int .i64 kc,.bool iv,.int .u64 u,.slice P p r,.slice Q q s]] _ _;obtain⟨hb0,c1⟩:=blk1 w [.bool neg,.slice A n c,.slice B m e,.int .i64 kc,.bool iv,.int .u64 u,.slice P p r,.slice Q q s] 32;have l1:=h1.len;have l2:=h2.len;have l3:=h3.len;have l4:=h4.len;obtain⟨V0,hV0⟩:∃V0,decide (neg=false/\ln=[]/\ld=[])=V0:=⟨_,rfl⟩;have HV0:=hid hV0;have HC1:=hid (Qb7 neg false A B none none n c m e 0 0 0 0 ln ld [] [] _ V0 (h1.below hb0) (h2.below hb0) (Num.nil _ _ _) (Num.nil _ _ _) (by omega) (by omega) (by omega) (by omega) HV0);have HN:=hid (show n<=1000000/\m<=1000000 from⟨by omega,by omega⟩);have HP:=hid l4;have HL:=hid l3;have HZ:=hid z4;have HZ3:=hid z3;have HA:=hid h1;have HB:=hid h2;have HY:=hid h3;have HW:=hid (And.intro z1 z2);clear hx sd z1 z2 z3 z4 l1 l2 l3 l4 h1 h2 h3 h4 hV0;go_enter func41,ntmps41;go_wp2_with fail
 refine HC1.out.mono ?_;rintro e0 w1 ⟨rfl,hb1⟩;replace hb0:=bt hb0 hb1;replace c1:=c1.below hb1 c1.lt;clear hb1 HC1;obtain⟨x0,x1,x2,x3,x4,x5,x6,x7⟩:=c1.c8;have f0:=c1.frozen 0;by_cases g1:q=0
 case neg=>
  have g1':(0:Int)<(q:Int):=by omega
  have g1d:decide ((0:Int)<(q:Int))=true:=decide_eq_true g1';have HV:Hid (false=V):=hid (by rw [<-H.out];exact(Qag (fun h=>by exact g1 (by rw [HP.out,show parts=[]from(Qaw hk5 h).parts];rfl))).symm);go_wp2_with fail
  have:=HV.out;subst this;go_ret;exact⟨rfl,hb0⟩
 have HQ0:Hid (parts=[]):=hid (List.eq_nil_of_length_eq_zero (by have:=HP.out;omega));have g1':¬(0:Int)<(q:Int):=by omega
 have g1d:decide ((0:Int)<(q:Int))=false:=decide_eq_false g1';clear g1;by_cases g2:iv=true
 case pos=>
  subst g2;have HV:Hid (false=V):=hid (by rw [<-H.out];exact(Qag (fun h=>by cases ((Qaw hk5 h).c (by decide)).2)).symm);go_wp2_with fail
  have:=HV.out;subst this;go_ret;exact⟨rfl,hb0⟩
 have g2':iv=false:=by simpa using g2
 subst g2';clear g2;by_cases g3:kc=0
 case neg=>
  have g3':(kc !=0)=true:=by simpa using g3
  have HV:Hid (false=V):=hid (by rw [<-H.out];exact(Qag (fun h=>by exact g3 ((Qaw hk5 h).c (by decide)).1)).symm);go_wp2_with fail
  have:=HV.out;subst this;go_ret;exact⟨rfl,hb0⟩
 subst g3;by_cases g4:u=0
 case neg=>
  have g4':(u !=0)=true:=by simpa using g4
  have HV:Hid (false=V):=hid (by rw [<-H.out];exact(Qag (fun h=>by exact g4 ((Qaw hk5 h).s (by decide)))).symm);go_wp2_with fail
  have:=HV.out;subst this;go_ret;exact⟨rfl,hb0⟩
 subst g4;by_cases g5:p=0
 case neg=>
  have g5':(0:Int)<(p:Int):=by omega
  have g5d:decide ((0:Int)<(p:Int))=true:=decide_eq_true g5';have HV:Hid (false=V):=hid (by rw [<-H.out];exact(Qag (fun h=>by exact g5 (by rw [HL.out,show poly=[]from(Qaw hk5 h).poly (by decide)];rfl))).symm);go_wp2_with fail
  have:=HV.out;subst this;go_ret;exact⟨rfl,hb0⟩
 have g5':¬(0:Int)<(p:Int):=by omega
 have g5d:decide ((0:Int)<(p:Int))=false:=decide_eq_false g5';have HPL:Hid (poly=[]):=hid (List.eq_nil_of_length_eq_zero (by have:=HL.out;omega));clear g5;obtain⟨V1,hV1⟩:∃V1,vld neg ln ld=V1:=⟨_,rfl⟩;have HV1:=hid hV1;have HC:=hid (Qdp neg A B n c m e ln ld w1 V1 (HA.out.below hb0) (HB.out.below hb0) HN.out.1 HN.out.2 HV1);have HV:Hid (V1=V):=hid (by
  rw [<-H.out];cases V1
  ·exact(Qag (fun h=>by have h8:vld neg ln ld=true:=h.2;rw [HV1.out]at h8;cases h8)).symm
  ·exact(Qbf (show chk 1 (WD.mk neg ln ld 0 false 0 poly parts)from⟨⟨⟨rfl,rfl⟩,rfl,HPL.out,HQ0.out⟩,HV1.out⟩)).symm)
 clear hV1;go_wp2_with fail
 refine HC.out.mono ?_;rintro e0 w2 ⟨rfl,hb1⟩;replace hb0:=bt hb0 hb1;clear hb1;go_wp2_with fail
 have:=HV.out;subst this;go_ret;exact⟨rfl,hb0⟩
theorem Qus(d:WD)(x:List Value)(w:World)(V:Bool)(hx:WRd w x d)(sd:SzK d)(H:Hid (tv (chk 2 d)=V)):Calls prog 41 #[.int .i64 2,.agg x.toArray] w (RetV w (.bool V)):=by
 have hk5:kind5 2:=⟨by decide,by decide⟩;obtain⟨A,n,c,B,m,e,P,p,r,Q,q,s,rfl,h1,h2,h3,h4⟩:=hx.shape;obtain⟨z1,z2,z3,z4,_,_⟩:=sd.open;cases d with
 |mk neg ln ld kc iv u poly parts=>
 simp only [WD.neg,WD.ln,WD.ld,WD.c,WD.i,WD.s,WD.poly,WD.parts]at*
 show Calls _ _ #[_,.agg #[.bool neg,.slice A n c,.slice B m e,.int .i64 kc,.bool iv,.int .u64 u,.slice P p r,.slice Q q s]] _ _;obtain⟨hb0,c1⟩:=blk1 w [.bool neg,.slice A n c,.slice B m e,.int .i64 kc,.bool iv,.int .u64 u,.slice P p r,.slice Q q s] 32;have l1:=h1.len;have l2:=h2.len;have l3:=h3.len;have l4:=h4.len;obtain⟨V0,hV0⟩:∃V0,decide (neg=false/\ln=[]/\ld=[])=V0:=⟨_,rfl⟩;have HV0:=hid hV0;have HC1:=hid (Qb7 neg false A B none none n c m e 0 0 0 0 ln ld [] [] _ V0 (h1.below hb0) (h2.below hb0) (Num.nil _ _ _) (Num.nil _ _ _) (by omega) (by omega) (by omega) (by omega) HV0);have HN:=hid (show n<=1000000/\m<=1000000 from⟨by omega,by omega⟩);have HP:=hid l4;have HL:=hid l3;have HZ:=hid z4;have HZ3:=hid z3;have HA:=hid h1;have HB:=hid h2;have HY:=hid h3;have HW:=hid (And.intro z1 z2);clear hx sd z1 z2 z3 z4 l1 l2 l3 l4 h1 h2 h3 h4 hV0;go_enter func41,ntmps41;go_wp2_with fail
 refine HC1.out.mono ?_;rintro e0 w1 ⟨rfl,hb1⟩;replace hb0:=bt hb0 hb1;replace c1:=c1.below hb1 c1.lt;clear hb1 HC1;obtain⟨x0,x1,x2,x3,x4,x5,x6,x7⟩:=c1.c8;have f0:=c1.frozen 0;by_cases g1:q=0
 case neg=>
  have g1':(0:Int)<(q:Int):=by omega
  have g1d:decide ((0:Int)<(q:Int))=true:=decide_eq_true g1';have HV:Hid (false=V):=hid (by rw [<-H.out];exact(Qag (fun h=>by exact g1 (by rw [HP.out,show parts=[]from(Qaw hk5 h).parts];rfl))).symm);go_wp2_with fail
  have:=HV.out;subst this;go_ret;exact⟨rfl,hb0⟩
 have HQ0:Hid (parts=[]):=hid (List.eq_nil_of_length_eq_zero (by have:=HP.out;omega));have g1':¬(0:Int)<(q:Int):=by omega
 have g1d:decide ((0:Int)<(q:Int))=false:=decide_eq_false g1';clear g1;cases V0
 ·have HV:Hid (false=V):=hid (by rw [<-H.out];exact(Qag (fun h=>by have h7:=(Qaw hk5 h).q (by decide) (by decide);have:=HV0.out;rw [decide_eq_true (show neg=false/\ln=[]/\ld=[]from h7)]at this;cases this)).symm)
  go_wp2_with fail
  have:=HV.out;subst this;go_ret;exact⟨rfl,hb0⟩
 replace HV0:Hid (neg=false/\ln=[]/\ld=[]):=hid (of_decide_eq_true HV0.out);by_cases g4:u=0
 case neg=>
  have g4':(u !=0)=true:=by simpa using g4
  have HV:Hid (false=V):=hid (by rw [<-H.out];exact(Qag (fun h=>by exact g4 ((Qaw hk5 h).s (by decide)))).symm);go_wp2_with fail
  have:=HV.out;subst this;go_ret;exact⟨rfl,hb0⟩
 subst g4;by_cases g5:p=0
 case neg=>
  have g5':(0:Int)<(p:Int):=by omega
  have g5d:decide ((0:Int)<(p:Int))=true:=decide_eq_true g5';have HV:Hid (false=V):=hid (by rw [<-H.out];exact(Qag (fun h=>by exact g5 (by rw [HL.out,show poly=[]from(Qaw hk5 h).poly (by decide)];rfl))).symm);go_wp2_with fail
  have:=HV.out;subst this;go_ret;exact⟨rfl,hb0⟩
 have g5':¬(0:Int)<(p:Int):=by omega
 have g5d:decide ((0:Int)<(p:Int))=false:=decide_eq_false g5';have HPL:Hid (poly=[]):=hid (List.eq_nil_of_length_eq_zero (by have:=HL.out;omega));clear g5;by_cases g6:0<=kc
 case neg=>
  have g6d:decide ((0:Int)<=kc)=false:=decide_eq_false g6;have HV:Hid (false=V):=hid (by rw [<-H.out];exact(Qag (fun h=>by exact g6 h.2.1)).symm);go_wp2_with fail
  have:=HV.out;subst this;go_ret;exact⟨rfl,hb0⟩
 have g6d:decide ((0:Int)<=kc)=true:=decide_eq_true g6;by_cases g7:kc<=1099511627776
 case neg=>
  have g7d:decide (kc<=1099511627776)=false:=decide_eq_false g7;have HV:Hid (false=V):=hid (by rw [<-H.out];exact(Qag (fun h=>by exact g7 h.2.2.1)).symm);go_wp2_with fail
  have:=HV.out;subst this;go_ret;exact⟨rfl,hb0⟩
 have g7d:decide (kc<=1099511627776)=true:=decide_eq_true g7;cases iv
 ·have HV:Hid (true=V):=hid (by rw [<-H.out];exact(Qbf (show chk 2 (WD.mk neg ln ld kc false 0 poly parts)from⟨⟨HV0.out,rfl,HPL.out,HQ0.out⟩,g6,g7,fun h=>by cases h⟩)).symm)
  go_wp2_with fail
  have:=HV.out;subst this;go_ret;exact⟨rfl,hb0⟩
 by_cases g8:kc=0
 case neg=>
  have g8':(kc !=0)=true:=by simpa using g8
  have HV:Hid (false=V):=hid (by rw [<-H.out];exact(Qag (fun h=>by exact g8 (h.2.2.2 rfl))).symm);go_wp2_with fail
  have:=HV.out;subst this;go_ret;exact⟨rfl,hb0⟩
 subst g8;have HV:Hid (true=V):=hid (by rw [<-H.out];exact(Qbf (show chk 2 (WD.mk neg ln ld 0 true 0 poly parts)from⟨⟨HV0.out,rfl,HPL.out,HQ0.out⟩,g6,g7,fun _=>rfl⟩)).symm);go_wp2_with fail
 have:=HV.out;subst this;go_ret;exact⟨rfl,hb0⟩
theorem Qut(d:WD)(x:List Value)(w:World)(V:Bool)(hx:WRd w x d)(sd:SzK d)(H:Hid (tv (chk 4 d)=V)):Calls prog 41 #[.int .i64 4,.agg x.toArray] w (RetV w (.bool V)):=by
 have hk5:kind5 4:=⟨by decide,by decide⟩;obtain⟨A,n,c,B,m,e,P,p,r,Q,q,s,rfl,h1,h2,h3,h4⟩:=hx.shape;obtain⟨z1,z2,z3,z4,_,_⟩:=sd.open;cases d with
 |mk neg ln ld kc iv u poly parts=>
 simp only [WD.neg,WD.ln,WD.ld,WD.c,WD.i,WD.s,WD.poly,WD.parts]at*
 show Calls _ _ #[_,.agg #[.bool neg,.slice A n c,.slice B m e,.int .i64 kc,.bool iv,.int .u64 u,.slice P p r,.slice Q q s]] _ _;obtain⟨hb0,c1⟩:=blk1 w [.bool neg,.slice A n c,.slice B m e,.int .i64 kc,.bool iv,.int .u64 u,.slice P p r,.slice Q q s] 32;have l1:=h1.len;have l2:=h2.len;have l3:=h3.len;have l4:=h4.len;obtain⟨V0,hV0⟩:∃V0,decide (neg=false/\ln=[]/\ld=[])=V0:=⟨_,rfl⟩;have HV0:=hid hV0;have HC1:=hid (Qb7 neg false A B none none n c m e 0 0 0 0 ln ld [] [] _ V0 (h1.below hb0) (h2.below hb0) (Num.nil _ _ _) (Num.nil _ _ _) (by omega) (by omega) (by omega) (by omega) HV0);have HN:=hid (show n<=1000000/\m<=1000000 from⟨by omega,by omega⟩);have HP:=hid l4;have HL:=hid l3;have HZ:=hid z4;have HZ3:=hid z3;have HA:=hid h1;have HB:=hid h2;have HY:=hid h3;have HW:=hid (And.intro z1 z2);clear hx sd z1 z2 z3 z4 l1 l2 l3 l4 h1 h2 h3 h4 hV0;go_enter func41,ntmps41;go_wp2_with fail
 refine HC1.out.mono ?_;rintro e0 w1 ⟨rfl,hb1⟩;replace hb0:=bt hb0 hb1;replace c1:=c1.below hb1 c1.lt;clear hb1 HC1;obtain⟨x0,x1,x2,x3,x4,x5,x6,x7⟩:=c1.c8;have f0:=c1.frozen 0;by_cases g1:q=0
 case neg=>
  have g1':(0:Int)<(q:Int):=by omega
  have g1d:decide ((0:Int)<(q:Int))=true:=decide_eq_true g1';have HV:Hid (false=V):=hid (by rw [<-H.out];exact(Qag (fun h=>by exact g1 (by rw [HP.out,show parts=[]from(Qaw hk5 h).parts];rfl))).symm);go_wp2_with fail
  have:=HV.out;subst this;go_ret;exact⟨rfl,hb0⟩
 have HQ0:Hid (parts=[]):=hid (List.eq_nil_of_length_eq_zero (by have:=HP.out;omega));have g1':¬(0:Int)<(q:Int):=by omega
 have g1d:decide ((0:Int)<(q:Int))=false:=decide_eq_false g1';clear g1;cases V0
 ·have HV:Hid (false=V):=hid (by rw [<-H.out];exact(Qag (fun h=>by have h7:=(Qaw hk5 h).q (by decide) (by decide);have:=HV0.out;rw [decide_eq_true (show neg=false/\ln=[]/\ld=[]from h7)]at this;cases this)).symm)
  go_wp2_with fail
  have:=HV.out;subst this;go_ret;exact⟨rfl,hb0⟩
 replace HV0:Hid (neg=false/\ln=[]/\ld=[]):=hid (of_decide_eq_true HV0.out);by_cases g2:iv=true
 case pos=>
  subst g2;have HV:Hid (false=V):=hid (by rw [<-H.out];exact(Qag (fun h=>by cases ((Qaw hk5 h).c (by decide)).2)).symm);go_wp2_with fail
  have:=HV.out;subst this;go_ret;exact⟨rfl,hb0⟩
 have g2':iv=false:=by simpa using g2
 subst g2';clear g2;by_cases g3:kc=0
 case neg=>
  have g3':(kc !=0)=true:=by simpa using g3
  have HV:Hid (false=V):=hid (by rw [<-H.out];exact(Qag (fun h=>by exact g3 ((Qaw hk5 h).c (by decide)).1)).symm);go_wp2_with fail
  have:=HV.out;subst this;go_ret;exact⟨rfl,hb0⟩
 subst g3;by_cases g5:p=0
 case neg=>
  have g5':(0:Int)<(p:Int):=by omega
  have g5d:decide ((0:Int)<(p:Int))=true:=decide_eq_true g5';have HV:Hid (false=V):=hid (by rw [<-H.out];exact(Qag (fun h=>by exact g5 (by rw [HL.out,show poly=[]from(Qaw hk5 h).poly (by decide)];rfl))).symm);go_wp2_with fail
  have:=HV.out;subst this;go_ret;exact⟨rfl,hb0⟩
 have g5':¬(0:Int)<(p:Int):=by omega
 have g5d:decide ((0:Int)<(p:Int))=false:=decide_eq_false g5';have HPL:Hid (poly=[]):=hid (List.eq_nil_of_length_eq_zero (by have:=HL.out;omega));clear g5;have HV:Hid (true=V):=hid (by rw [<-H.out];exact(Qbf (show chk 4 (WD.mk neg ln ld 0 false u poly parts)from⟨HV0.out,⟨rfl,rfl⟩,HPL.out,HQ0.out⟩)).symm);go_wp2_with fail
 have:=HV.out;subst this;go_ret;exact⟨rfl,hb0⟩
theorem Quu(d:WD)(x:List Value)(w:World)(V:Bool)(hx:WRd w x d)(sd:SzK d)(H:Hid (tv (chk 5 d)=V)):Calls prog 41 #[.int .i64 5,.agg x.toArray] w (RetV w (.bool V)):=by
 have hk5:kind5 5:=⟨by decide,by decide⟩;obtain⟨A,n,c,B,m,e,P,p,r,Q,q,s,rfl,h1,h2,h3,h4⟩:=hx.shape;obtain⟨z1,z2,z3,z4,_,_⟩:=sd.open;cases d with
 |mk neg ln ld kc iv u poly parts=>
 simp only [WD.neg,WD.ln,WD.ld,WD.c,WD.i,WD.s,WD.poly,WD.parts]at*
 show Calls _ _ #[_,.agg #[.bool neg,.slice A n c,.slice B m e,.int .i64 kc,.bool iv,.int .u64 u,.slice P p r,.slice Q q s]] _ _;obtain⟨hb0,c1⟩:=blk1 w [.bool neg,.slice A n c,.slice B m e,.int .i64 kc,.bool iv,.int .u64 u,.slice P p r,.slice Q q s] 32;have l1:=h1.len;have l2:=h2.len;have l3:=h3.len;have l4:=h4.len;obtain⟨V0,hV0⟩:∃V0,decide (neg=false/\ln=[]/\ld=[])=V0:=⟨_,rfl⟩;have HV0:=hid hV0;have HC1:=hid (Qb7 neg false A B none none n c m e 0 0 0 0 ln ld [] [] _ V0 (h1.below hb0) (h2.below hb0) (Num.nil _ _ _) (Num.nil _ _ _) (by omega) (by omega) (by omega) (by omega) HV0);have HN:=hid (show n<=1000000/\m<=1000000 from⟨by omega,by omega⟩);have HP:=hid l4;have HL:=hid l3;have HZ:=hid z4;have HZ3:=hid z3;have HA:=hid h1;have HB:=hid h2;have HY:=hid h3;have HW:=hid (And.intro z1 z2);clear hx sd z1 z2 z3 z4 l1 l2 l3 l4 h1 h2 h3 h4 hV0;go_enter func41,ntmps41;go_wp2_with fail
 refine HC1.out.mono ?_;rintro e0 w1 ⟨rfl,hb1⟩;replace hb0:=bt hb0 hb1;replace c1:=c1.below hb1 c1.lt;clear hb1 HC1;obtain⟨x0,x1,x2,x3,x4,x5,x6,x7⟩:=c1.c8;have f0:=c1.frozen 0;by_cases g1:q=0
 case neg=>
  have g1':(0:Int)<(q:Int):=by omega
  have g1d:decide ((0:Int)<(q:Int))=true:=decide_eq_true g1';have HV:Hid (false=V):=hid (by rw [<-H.out];exact(Qag (fun h=>by exact g1 (by rw [HP.out,show parts=[]from(Qaw hk5 h).parts];rfl))).symm);go_wp2_with fail
  have:=HV.out;subst this;go_ret;exact⟨rfl,hb0⟩
 have HQ0:Hid (parts=[]):=hid (List.eq_nil_of_length_eq_zero (by have:=HP.out;omega));have g1':¬(0:Int)<(q:Int):=by omega
 have g1d:decide ((0:Int)<(q:Int))=false:=decide_eq_false g1';clear g1;cases V0
 ·have HV:Hid (false=V):=hid (by rw [<-H.out];exact(Qag (fun h=>by have h7:=(Qaw hk5 h).q (by decide) (by decide);have:=HV0.out;rw [decide_eq_true (show neg=false/\ln=[]/\ld=[]from h7)]at this;cases this)).symm)
  go_wp2_with fail
  have:=HV.out;subst this;go_ret;exact⟨rfl,hb0⟩
 replace HV0:Hid (neg=false/\ln=[]/\ld=[]):=hid (of_decide_eq_true HV0.out);by_cases g2:iv=true
 case pos=>
  subst g2;have HV:Hid (false=V):=hid (by rw [<-H.out];exact(Qag (fun h=>by cases ((Qaw hk5 h).c (by decide)).2)).symm);go_wp2_with fail
  have:=HV.out;subst this;go_ret;exact⟨rfl,hb0⟩
 have g2':iv=false:=by simpa using g2
 subst g2';clear g2;by_cases g3:kc=0
 case neg=>
  have g3':(kc !=0)=true:=by simpa using g3
  have HV:Hid (false=V):=hid (by rw [<-H.out];exact(Qag (fun h=>by exact g3 ((Qaw hk5 h).c (by decide)).1)).symm);go_wp2_with fail
  have:=HV.out;subst this;go_ret;exact⟨rfl,hb0⟩
 subst g3;by_cases g4:u=0
 case neg=>
  have g4':(u !=0)=true:=by simpa using g4
  have HV:Hid (false=V):=hid (by rw [<-H.out];exact(Qag (fun h=>by exact g4 ((Qaw hk5 h).s (by decide)))).symm);go_wp2_with fail
  have:=HV.out;subst this;go_ret;exact⟨rfl,hb0⟩
 subst g4;have HV1:Hid (V=true↔vraw (ratL poly)):=hid (by
  rw [<-H.out,Qce];exact⟨fun h=>h.2,fun h=>⟨⟨HV0.out,⟨rfl,rfl⟩,rfl,HQ0.out⟩,h⟩⟩)
 have HC:=hid (Qww (.slice P p r) (ratL poly) w1 ((HY.out.below hb0).preG (by have:=HZ3.out;omega) HZ.out (by decide) (by decide)) V HV1);go_wp2_with fail
 refine HC.out.mono ?_;rintro e0 w2 ⟨rfl,hb1⟩;replace hb0:=bt hb0 hb1;clear hb1;go_wp2_with fail
 go_ret;exact⟨rfl,hb0⟩
theorem Quv(d:WD)(x:List Value)(w:World)(V:Bool)(hx:WRd w x d)(sd:SzK d)(H:Hid (tv (chk 3 d)=V)):Calls prog 41 #[.int .i64 3,.agg x.toArray] w (RetV w (.bool V)):=by
 have hk5:kind5 3:=⟨by decide,by decide⟩;obtain⟨A,n,c,B,m,e,P,p,r,Q,q,s,rfl,h1,h2,h3,h4⟩:=hx.shape;obtain⟨z1,z2,z3,z4,_,_⟩:=sd.open;cases d with
 |mk neg ln ld kc iv u poly parts=>
 simp only [WD.neg,WD.ln,WD.ld,WD.c,WD.i,WD.s,WD.poly,WD.parts]at*
 show Calls _ _ #[_,.agg #[.bool neg,.slice A n c,.slice B m e,.int .i64 kc,.bool iv,.int .u64 u,.slice P p r,.slice Q q s]] _ _;obtain⟨hb0,c1⟩:=blk1 w [.bool neg,.slice A n c,.slice B m e,.int .i64 kc,.bool iv,.int .u64 u,.slice P p r,.slice Q q s] 32;have l1:=h1.len;have l2:=h2.len;have l3:=h3.len;have l4:=h4.len;obtain⟨V0,hV0⟩:∃V0,decide (neg=false/\ln=[]/\ld=[])=V0:=⟨_,rfl⟩;have HV0:=hid hV0;have HC1:=hid (Qb7 neg false A B none none n c m e 0 0 0 0 ln ld [] [] _ V0 (h1.below hb0) (h2.below hb0) (Num.nil _ _ _) (Num.nil _ _ _) (by omega) (by omega) (by omega) (by omega) HV0);have HN:=hid (show n<=1000000/\m<=1000000 from⟨by omega,by omega⟩);have HP:=hid l4;have HL:=hid l3;have HZ:=hid z4;have HZ3:=hid z3;have HA:=hid h1;have HB:=hid h2;have HY:=hid h3;have HW:=hid (And.intro z1 z2);clear hx sd z1 z2 z3 z4 l1 l2 l3 l4 h1 h2 h3 h4 hV0;go_enter func41,ntmps41;go_wp2_with fail
 refine HC1.out.mono ?_;rintro e0 w1 ⟨rfl,hb1⟩;replace hb0:=bt hb0 hb1;replace c1:=c1.below hb1 c1.lt;clear hb1 HC1;obtain⟨x0,x1,x2,x3,x4,x5,x6,x7⟩:=c1.c8;have f0:=c1.frozen 0;by_cases g1:q=0
 case neg=>
  have g1':(0:Int)<(q:Int):=by omega
  have g1d:decide ((0:Int)<(q:Int))=true:=decide_eq_true g1';have HV:Hid (false=V):=hid (by rw [<-H.out];exact(Qag (fun h=>by exact g1 (by rw [HP.out,show parts=[]from(Qaw hk5 h).parts];rfl))).symm);go_wp2_with fail
  have:=HV.out;subst this;go_ret;exact⟨rfl,hb0⟩
 have HQ0:Hid (parts=[]):=hid (List.eq_nil_of_length_eq_zero (by have:=HP.out;omega));have g1':¬(0:Int)<(q:Int):=by omega
 have g1d:decide ((0:Int)<(q:Int))=false:=decide_eq_false g1';clear g1;by_cases g2:iv=true
 case pos=>
  subst g2;have HV:Hid (false=V):=hid (by rw [<-H.out];exact(Qag (fun h=>by cases ((Qaw hk5 h).c (by decide)).2)).symm);go_wp2_with fail
  have:=HV.out;subst this;go_ret;exact⟨rfl,hb0⟩
 have g2':iv=false:=by simpa using g2
 subst g2';clear g2;by_cases g3:kc=0
 case neg=>
  have g3':(kc !=0)=true:=by simpa using g3
  have HV:Hid (false=V):=hid (by rw [<-H.out];exact(Qag (fun h=>by exact g3 ((Qaw hk5 h).c (by decide)).1)).symm);go_wp2_with fail
  have:=HV.out;subst this;go_ret;exact⟨rfl,hb0⟩
 subst g3;by_cases g4:u=0
 case neg=>
  have g4':(u !=0)=true:=by simpa using g4
  have HV:Hid (false=V):=hid (by rw [<-H.out];exact(Qag (fun h=>by exact g4 ((Qaw hk5 h).s (by decide)))).symm);go_wp2_with fail
  have:=HV.out;subst this;go_ret;exact⟨rfl,hb0⟩
 subst g4;by_cases g5:p=0
 case neg=>
  have g5':(0:Int)<(p:Int):=by omega
  have g5d:decide ((0:Int)<(p:Int))=true:=decide_eq_true g5';have HV:Hid (false=V):=hid (by rw [<-H.out];exact(Qag (fun h=>by exact g5 (by rw [HL.out,show poly=[]from(Qaw hk5 h).poly (by decide)];rfl))).symm);go_wp2_with fail
  have:=HV.out;subst this;go_ret;exact⟨rfl,hb0⟩
 have g5':¬(0:Int)<(p:Int):=by omega
 have g5d:decide ((0:Int)<(p:Int))=false:=decide_eq_false g5';have HPL:Hid (poly=[]):=hid (List.eq_nil_of_length_eq_zero (by have:=HL.out;omega));clear g5;obtain⟨V1,hV1⟩:∃V1,vld neg ln ld=V1:=⟨_,rfl⟩;obtain⟨sg,hsg⟩:∃V2,(fq neg ln ld).num.sign=V2:=⟨_,rfl⟩;obtain⟨V3,hV3⟩:∃V3,decide (1<fq neg ln ld)=V3:=⟨_,rfl⟩;have HV1:=hid hV1;have HSG:=hid hsg;have HV3:=hid hV3;have HI:=hid (fun wx (hb:Below w.heap.size w wx)=>Qcn (w:=wx) (v:=.agg #[.bool neg,.slice A n c,.slice B m e]) (neg:=neg) (ln:=ln) (ld:=ld) ⟨A,n,c,B,m,e,rfl,HA.out.below hb,HB.out.below hb⟩ (L:=1000000) (by have:=HW.out.1;omega) (by have:=HW.out.2;omega) (by decide) (by decide));have HSQ:Hid (Sz (fq neg ln ld) 400000):=hid ((Qsx (neg:=neg) HA.out HB.out HW.out.1 HW.out.2 (by decide)).mono (by decide));have HLIM:=hid (And.intro HA.out.lim HB.out.lim);have HB1:=hid hb0;have HC1:=hid c1;have hq0:(neg=true->V1=true->sg<0)/\(neg=false->V1=true->0<=sg):=by
  constructor
  ·intro e1 e2
   subst e1;have h9:=fq_neg HLIM.out.1 HLIM.out.2 (HV1.out.trans e2);rw [<-HSG.out];exact Qzo h9
  ·intro e1 e2
   subst e1;have h9:=Qln (HV1.out.trans e2);rw [<-HSG.out];exact Qzp h9
 have HQ:=hid hq0;clear hV1 hsg hV3 hq0;go_wp2_with fail
 have g5n:decide (0<p)=false:=decide_eq_false (by omega);simp only [g5n];clear x0 x1 x2 x3 x4 x5 x6 x7 f0 g1d g5d g1' g5' g5n;have KX:Hid (∀wx,Below w1.drew.heap.size w1.drew wx->wx.cell? ⟨w.heap.size,0,none⟩=some (.bool neg)/\wx.cell? ⟨w.heap.size,1,none⟩=some (.slice A n c)/\wx.cell? ⟨w.heap.size,2,none⟩=some (.slice B m e)):=hid (fun wx hB=>⟨(HC1.out.drew.below hB HC1.out.lt).cell rfl,(HC1.out.drew.below hB HC1.out.lt).cell rfl,(HC1.out.drew.below hB HC1.out.lt).cell rfl⟩);have HBD:=hid HB1.out.drew;clear hb0 c1;cases V1
 ·have HV:Hid (false=V):=hid (by rw [<-H.out];exact(Qag (fun h=>by have h8:vld neg ln ld=true:=h.2.1;rw [HV1.out]at h8;cases h8)).symm)
  refine Qan 16 (86::87::88::89::90::91::92::93::94::95::96::97::98::99::100::101::[]) (Sq.val (.pointer (some ⟨w.heap.size,0,none⟩))::Sq.val (.agg #[.bool neg,.slice A n c,.slice B m e])::Sq.val (.bool false)::Sq.val (.bool false)::Sq.val (undef)::Sq.val (undef)::Sq.val (undef)::Sq.val (undef)::Sq.val (.bool false)::Sq.val (.bool false)::Sq.val (undef)::Sq.val (undef)::Sq.val (undef)::Sq.val (undef)::Sq.val (undef)::Sq.val (.bool false)::[]) (by kernel_rfl) (by kernel_rfl) (by kernel_rfl) (by kernel_rfl) ?stepA 1 (by kernel_rfl) _ rfl ?finA
  case stepA=>
   intro i hi oi ho f wx hB hdep K hK;simp only [frontAct,zf1,zf2,zf3,zf4,zf5]at hK⊢;obtain⟨x0,x1,x2⟩:=KX.out wx hB;iterate 16 rcases lt_or_eq_of_le (le_of_lt_succ hi)with hi|rfl
   exact absurd hi (not_lt_zero _);all_goals
    obtain rfl:=Option.some.inj ho;clear ho;simp only [Act.put,zf3,zf4,zf5]at hK
   rotate_left
   have e86:=dv6 (hdep ⟨0,.data⟩ (by simp) rfl) rfl;simp only [zf6,zf7]at e86;generalize f 86=f86 at*;subst e86;rotate_left
   ·have e87:=dv6 (hdep ⟨1,.data⟩ (by simp) rfl) rfl
    simp only [zf6,zf7]at e87;generalize f 87=f87 at*;subst e87;go_simp;refine(Qdp neg A B n c m e ln ld wx false (HA.out.below (bt HBD.out hB)) (HB.out.below (bt HBD.out hB)) HN.out.1 HN.out.2 HV1.out).mono ?_;rintro e0 w' ⟨rfl,hb⟩;exact hK (.bool false) w' (gv6 rfl) hb (bt hB hb) (nb6 rfl rfl)
   have e88:=dv6 (hdep ⟨2,.data⟩ (by simp) rfl) rfl;simp only [zf6,zf7]at e88;generalize f 88=f88 at*;subst e88;rotate_left
   have e89:=dv6 (hdep ⟨3,.guard⟩ (by simp) rfl) rfl;simp only [zf6,zf7]at e89;generalize f 89=f89 at*;subst e89;rotate_left
   have e89:=dv6 (hdep ⟨3,.guard⟩ (by simp) rfl) rfl;simp only [zf6,zf7]at e89;generalize f 89=f89 at*;subst e89;rotate_left
   have e89:=dv6 (hdep ⟨3,.guard⟩ (by simp) rfl) rfl;simp only [zf6,zf7]at e89;generalize f 89=f89 at*;subst e89;rotate_left
   have e89:=dv6 (hdep ⟨3,.guard⟩ (by simp) rfl) rfl;simp only [zf6,zf7]at e89;generalize f 89=f89 at*;subst e89;rotate_left
   have e89:=dv6 (hdep ⟨3,.data⟩ (by simp) rfl) rfl;have e93:=dv6 (hdep ⟨7,.data⟩ (by simp) rfl) rfl;simp only [zf6,zf7]at e89 e93;generalize f 89=f89 at*;subst e89;generalize f 93=f93 at*;subst e93;rotate_left
   have e94:=dv6 (hdep ⟨8,.data⟩ (by simp) rfl) rfl;simp only [zf6,zf7]at e94;generalize f 94=f94 at*;subst e94;rotate_left
   have e95:=dv6 (hdep ⟨9,.guard⟩ (by simp) rfl) rfl;simp only [zf6,zf7]at e95;generalize f 95=f95 at*;subst e95;rotate_left
   have e95:=dv6 (hdep ⟨9,.guard⟩ (by simp) rfl) rfl;simp only [zf6,zf7]at e95;generalize f 95=f95 at*;subst e95;rotate_left
   have e95:=dv6 (hdep ⟨9,.guard⟩ (by simp) rfl) rfl;simp only [zf6,zf7]at e95;generalize f 95=f95 at*;subst e95;rotate_left
   have e95:=dv6 (hdep ⟨9,.guard⟩ (by simp) rfl) rfl;simp only [zf6,zf7]at e95;generalize f 95=f95 at*;subst e95;rotate_left
   have e95:=dv6 (hdep ⟨9,.guard⟩ (by simp) rfl) rfl;simp only [zf6,zf7]at e95;generalize f 95=f95 at*;subst e95;rotate_left
   have e95:=dv6 (hdep ⟨9,.data⟩ (by simp) rfl) rfl;have e100:=dv6 (hdep ⟨14,.data⟩ (by simp) rfl) rfl;simp only [zf6,zf7]at e95 e100;generalize f 95=f95 at*;subst e95;generalize f 100=f100 at*;subst e100;rotate_left
   all_goals go_simp
   all_goals exact hK _ wx (gv6 rfl) (Below.refl _ _) hB (nb6 rfl rfl)
  case finA=>
   intro f wx hB hG hne;have eL:=dv6 (a:=f 101) (hG 15 (by decide)) rfl;clear hG hne;simp only [frontAct,zf1,zf2,zf3,zf4,zf5];generalize f 101=fL at*;subst eL;have HEND:=hid (bt HBD.out hB);clear hB;refine wpAny_ready (rs:=[16]) (by kernel_rfl) (by simp) ?_;refine AllReady.cons rfl (fun K hK=>?_) AllReady.nil;have HQ:=hid hK;clear hK;go_simp;refine HQ.out _ _ ?_;clear HQ K;refine wpAny_done (by kernel_rfl) ?_ _;go_wp2_with fail
   have:=HV.out;subst this;go_ret;exact⟨rfl,HEND.out⟩
 by_cases g6:0<=sg
 case neg=>
  have GD:Hid (decide ((0:Int)<=sg)=false):=hid (decide_eq_false g6);have HV:Hid (false=V):=hid (by rw [<-H.out];exact(Qag (fun h=>by exact g6 (HQ.out.2 h.2.2.1 rfl))).symm);clear g6;refine Qan 16 (86::87::88::89::90::91::92::93::94::95::96::97::98::99::100::101::[]) (Sq.val (.pointer (some ⟨w.heap.size,0,none⟩))::Sq.val (.agg #[.bool neg,.slice A n c,.slice B m e])::Sq.val (.bool true)::Sq.val (.bool true)::Sq.val (.pointer (some ⟨w.heap.size,0,none⟩))::Sq.val (.agg #[.bool neg,.slice A n c,.slice B m e])::Sq.val (.int .i64 sg)::Sq.val (.bool false)::Sq.val (.bool false)::Sq.val (.bool false)::Sq.val (undef)::Sq.val (undef)::Sq.val (undef)::Sq.val (undef)::Sq.val (undef)::Sq.val (.bool false)::[]) (by kernel_rfl) (by kernel_rfl) (by kernel_rfl) (by kernel_rfl) ?stepB 1 (by kernel_rfl) _ rfl ?finB
  case stepB=>
   intro i hi oi ho f wx hB hdep K hK;simp only [frontAct,zf1,zf2,zf3,zf4,zf5]at hK⊢;obtain⟨x0,x1,x2⟩:=KX.out wx hB;iterate 16 rcases lt_or_eq_of_le (le_of_lt_succ hi)with hi|rfl
   exact absurd hi (not_lt_zero _);all_goals
    obtain rfl:=Option.some.inj ho;clear ho;simp only [Act.put,zf3,zf4,zf5]at hK
   rotate_left
   have e86:=dv6 (hdep ⟨0,.data⟩ (by simp) rfl) rfl;simp only [zf6,zf7]at e86;generalize f 86=f86 at*;subst e86;rotate_left
   ·have e87:=dv6 (hdep ⟨1,.data⟩ (by simp) rfl) rfl
    simp only [zf6,zf7]at e87;generalize f 87=f87 at*;subst e87;go_simp;refine(Qdp neg A B n c m e ln ld wx true (HA.out.below (bt HBD.out hB)) (HB.out.below (bt HBD.out hB)) HN.out.1 HN.out.2 HV1.out).mono ?_;rintro e0 w' ⟨rfl,hb⟩;exact hK (.bool true) w' (gv6 rfl) hb (bt hB hb) (nb6 rfl rfl)
   have e88:=dv6 (hdep ⟨2,.data⟩ (by simp) rfl) rfl;simp only [zf6,zf7]at e88;generalize f 88=f88 at*;subst e88;rotate_left
   have e89:=dv6 (hdep ⟨3,.guard⟩ (by simp) rfl) rfl;simp only [zf6,zf7]at e89;generalize f 89=f89 at*;subst e89;rotate_left
   have e89:=dv6 (hdep ⟨3,.guard⟩ (by simp) rfl) rfl;have e90:=dv6 (hdep ⟨4,.data⟩ (by simp) rfl) rfl;simp only [zf6,zf7]at e89 e90;generalize f 89=f89 at*;subst e89;generalize f 90=f90 at*;subst e90;rotate_left
   ·have e89:=dv6 (hdep ⟨3,.guard⟩ (by simp) rfl) rfl
    have e91:=dv6 (hdep ⟨5,.data⟩ (by simp) rfl) rfl;simp only [zf6,zf7]at e89 e91;generalize f 89=f89 at*;subst e89;generalize f 91=f91 at*;subst e91;go_simp;refine(Qgo _ _ sg wx (HI.out wx (bt HBD.out hB)).2.1 HSG).mono ?_;rintro e0 w' ⟨rfl,hb⟩;exact hK (.int .i64 sg) w' (gv6 rfl) hb (bt hB hb) (nb6 rfl rfl)
   have e89:=dv6 (hdep ⟨3,.guard⟩ (by simp) rfl) rfl;have e92:=dv6 (hdep ⟨6,.data⟩ (by simp) rfl) rfl;simp only [zf6,zf7]at e89 e92;generalize f 89=f89 at*;subst e89;generalize f 92=f92 at*;subst e92;have g:=GD.out;rotate_left
   have e89:=dv6 (hdep ⟨3,.data⟩ (by simp) rfl) rfl;have e93:=dv6 (hdep ⟨7,.data⟩ (by simp) rfl) rfl;simp only [zf6,zf7]at e89 e93;generalize f 89=f89 at*;subst e89;generalize f 93=f93 at*;subst e93;rotate_left
   have e94:=dv6 (hdep ⟨8,.data⟩ (by simp) rfl) rfl;simp only [zf6,zf7]at e94;generalize f 94=f94 at*;subst e94;rotate_left
   have e95:=dv6 (hdep ⟨9,.guard⟩ (by simp) rfl) rfl;simp only [zf6,zf7]at e95;generalize f 95=f95 at*;subst e95;rotate_left
   have e95:=dv6 (hdep ⟨9,.guard⟩ (by simp) rfl) rfl;simp only [zf6,zf7]at e95;generalize f 95=f95 at*;subst e95;rotate_left
   have e95:=dv6 (hdep ⟨9,.guard⟩ (by simp) rfl) rfl;simp only [zf6,zf7]at e95;generalize f 95=f95 at*;subst e95;rotate_left
   have e95:=dv6 (hdep ⟨9,.guard⟩ (by simp) rfl) rfl;simp only [zf6,zf7]at e95;generalize f 95=f95 at*;subst e95;rotate_left
   have e95:=dv6 (hdep ⟨9,.guard⟩ (by simp) rfl) rfl;simp only [zf6,zf7]at e95;generalize f 95=f95 at*;subst e95;rotate_left
   have e95:=dv6 (hdep ⟨9,.data⟩ (by simp) rfl) rfl;have e100:=dv6 (hdep ⟨14,.data⟩ (by simp) rfl) rfl;simp only [zf6,zf7]at e95 e100;generalize f 95=f95 at*;subst e95;generalize f 100=f100 at*;subst e100;rotate_left
   all_goals go_simp
   all_goals exact hK _ wx (gv6 rfl) (Below.refl _ _) hB (nb6 rfl rfl)
  case finB=>
   intro f wx hB hG hne;have eL:=dv6 (a:=f 101) (hG 15 (by decide)) rfl;clear hG hne;simp only [frontAct,zf1,zf2,zf3,zf4,zf5];generalize f 101=fL at*;subst eL;have HEND:=hid (bt HBD.out hB);clear hB;refine wpAny_ready (rs:=[16]) (by kernel_rfl) (by simp) ?_;refine AllReady.cons rfl (fun K hK=>?_) AllReady.nil;have HQ:=hid hK;clear hK;go_simp;refine HQ.out _ _ ?_;clear HQ K;refine wpAny_done (by kernel_rfl) ?_ _;go_wp2_with fail
   have:=HV.out;subst this;go_ret;exact⟨rfl,HEND.out⟩
 have GD:Hid (decide ((0:Int)<=sg)=true):=hid (decide_eq_true g6);have HV:Hid ((!V3)=V):=hid (by
  rw [<-H.out];have hn:neg=false:=by
   cases neg
   ·rfl
   ·exact absurd (HQ.out.1 rfl rfl) (by omega)
  cases V3
  ·exact(Qbf (show chk 3 (WD.mk neg ln ld 0 false 0 poly parts)from⟨⟨⟨rfl,rfl⟩,rfl,HPL.out,HQ0.out⟩,HV1.out,hn,Rat.not_lt.1 (of_decide_eq_false HV3.out)⟩)).symm
  ·exact(Qag (fun h=>by exact Rat.not_lt.2 h.2.2.2 (of_decide_eq_true HV3.out))).symm)
 clear g6;refine Qan 16 (86::87::88::89::90::91::92::93::94::95::96::97::98::99::100::101::[]) (Sq.val (.pointer (some ⟨w.heap.size,0,none⟩))::Sq.val (.agg #[.bool neg,.slice A n c,.slice B m e])::Sq.val (.bool true)::Sq.val (.bool true)::Sq.val (.pointer (some ⟨w.heap.size,0,none⟩))::Sq.val (.agg #[.bool neg,.slice A n c,.slice B m e])::Sq.val (.int .i64 sg)::Sq.val (.bool true)::Sq.val (.bool true)::Sq.val (.bool true)::Sq.st (fun w a=>RatQ w a (1:Rat))::Sq.val (.pointer (some ⟨w.heap.size,0,none⟩))::Sq.val (.agg #[.bool neg,.slice A n c,.slice B m e])::Sq.val (.bool V3)::Sq.val (.bool (!V3))::Sq.val (.bool (!V3))::[]) (by kernel_rfl) (by kernel_rfl) (by kernel_rfl) (by kernel_rfl) ?stepC 1 (by kernel_rfl) _ rfl ?finC
 case stepC=>
  intro i hi oi ho f wx hB hdep K hK;simp only [frontAct,zf1,zf2,zf3,zf4,zf5]at hK⊢;obtain⟨x0,x1,x2⟩:=KX.out wx hB;iterate 16 rcases lt_or_eq_of_le (le_of_lt_succ hi)with hi|rfl
  exact absurd hi (not_lt_zero _);all_goals
   obtain rfl:=Option.some.inj ho;clear ho;simp only [Act.put,zf3,zf4,zf5]at hK
  rotate_left
  have e86:=dv6 (hdep ⟨0,.data⟩ (by simp) rfl) rfl;simp only [zf6,zf7]at e86;generalize f 86=f86 at*;subst e86;rotate_left
  ·have e87:=dv6 (hdep ⟨1,.data⟩ (by simp) rfl) rfl
   simp only [zf6,zf7]at e87;generalize f 87=f87 at*;subst e87;go_simp;refine(Qdp neg A B n c m e ln ld wx true (HA.out.below (bt HBD.out hB)) (HB.out.below (bt HBD.out hB)) HN.out.1 HN.out.2 HV1.out).mono ?_;rintro e0 w' ⟨rfl,hb⟩;exact hK (.bool true) w' (gv6 rfl) hb (bt hB hb) (nb6 rfl rfl)
  have e88:=dv6 (hdep ⟨2,.data⟩ (by simp) rfl) rfl;simp only [zf6,zf7]at e88;generalize f 88=f88 at*;subst e88;rotate_left
  have e89:=dv6 (hdep ⟨3,.guard⟩ (by simp) rfl) rfl;simp only [zf6,zf7]at e89;generalize f 89=f89 at*;subst e89;rotate_left
  have e89:=dv6 (hdep ⟨3,.guard⟩ (by simp) rfl) rfl;have e90:=dv6 (hdep ⟨4,.data⟩ (by simp) rfl) rfl;simp only [zf6,zf7]at e89 e90;generalize f 89=f89 at*;subst e89;generalize f 90=f90 at*;subst e90;rotate_left
  ·have e89:=dv6 (hdep ⟨3,.guard⟩ (by simp) rfl) rfl
   have e91:=dv6 (hdep ⟨5,.data⟩ (by simp) rfl) rfl;simp only [zf6,zf7]at e89 e91;generalize f 89=f89 at*;subst e89;generalize f 91=f91 at*;subst e91;go_simp;refine(Qgo _ _ sg wx (HI.out wx (bt HBD.out hB)).2.1 HSG).mono ?_;rintro e0 w' ⟨rfl,hb⟩;exact hK (.int .i64 sg) w' (gv6 rfl) hb (bt hB hb) (nb6 rfl rfl)
  have e89:=dv6 (hdep ⟨3,.guard⟩ (by simp) rfl) rfl;have e92:=dv6 (hdep ⟨6,.data⟩ (by simp) rfl) rfl;simp only [zf6,zf7]at e89 e92;generalize f 89=f89 at*;subst e89;generalize f 92=f92 at*;subst e92;have g:=GD.out;rotate_left
  have e89:=dv6 (hdep ⟨3,.data⟩ (by simp) rfl) rfl;have e93:=dv6 (hdep ⟨7,.data⟩ (by simp) rfl) rfl;simp only [zf6,zf7]at e89 e93;generalize f 89=f89 at*;subst e89;generalize f 93=f93 at*;subst e93;rotate_left
  have e94:=dv6 (hdep ⟨8,.data⟩ (by simp) rfl) rfl;simp only [zf6,zf7]at e94;generalize f 94=f94 at*;subst e94;rotate_left
  ·have e95:=dv6 (hdep ⟨9,.guard⟩ (by simp) rfl) rfl
   simp only [zf6,zf7]at e95;generalize f 95=f95 at*;subst e95;go_simp;refine(r_Of 1 1 wx (by decide) (1:Rat) (by decide+kernel) (by decide) (by decide) (by decide) (by decide)).mono ?_;rintro e0 w' ⟨val,rfl,hr,hb⟩;exact hK val w' (gs6 rfl (fun w2 h2=>hr.below h2)) hb (bt hB hb) (nb6 rfl rfl)
  have e95:=dv6 (hdep ⟨9,.guard⟩ (by simp) rfl) rfl;simp only [zf6,zf7]at e95;generalize f 95=f95 at*;subst e95;rotate_left
  have e95:=dv6 (hdep ⟨9,.guard⟩ (by simp) rfl) rfl;have e97:=dv6 (hdep ⟨11,.data⟩ (by simp) rfl) rfl;simp only [zf6,zf7]at e95 e97;generalize f 95=f95 at*;subst e95;generalize f 97=f97 at*;subst e97;rotate_left
  ·have e95:=dv6 (hdep ⟨9,.guard⟩ (by simp) rfl) rfl
   have e96:=ds6 (hdep ⟨10,.data⟩ (by simp) rfl) rfl;have e98:=dv6 (hdep ⟨12,.data⟩ (by simp) rfl) rfl;simp only [zf6,zf7]at e95 e96 e98;generalize f 95=f95 at*;subst e95;replace e96:=(show RatQ wx (f 96) (1:Rat)from e96);generalize f 96=f96 at*
   generalize f 98=f98 at*;subst e98;go_simp;refine(r_Less _ _ (1:Rat) (fq neg ln ld) V3 wx (e96.inr (Qfe 400000 (by decide)) (by decide)) (HI.out wx (bt HBD.out hB)).2.1 (Qfe 400000 (by decide)) HSQ.out HV3).mono ?_;rintro e0 w' ⟨rfl,hb⟩;exact hK (.bool V3) w' (gv6 rfl) hb (bt hB hb) (nb6 rfl rfl)
  have e95:=dv6 (hdep ⟨9,.guard⟩ (by simp) rfl) rfl;have e99:=dv6 (hdep ⟨13,.data⟩ (by simp) rfl) rfl;simp only [zf6,zf7]at e95 e99;generalize f 95=f95 at*;subst e95;generalize f 99=f99 at*;subst e99;rotate_left
  have e95:=dv6 (hdep ⟨9,.data⟩ (by simp) rfl) rfl;have e100:=dv6 (hdep ⟨14,.data⟩ (by simp) rfl) rfl;simp only [zf6,zf7]at e95 e100;generalize f 95=f95 at*;subst e95;generalize f 100=f100 at*;subst e100;rotate_left
  all_goals go_simp
  all_goals exact hK _ wx (gv6 rfl) (Below.refl _ _) hB (nb6 rfl rfl)
 case finC=>
  intro f wx hB hG hne;have eL:=dv6 (a:=f 101) (hG 15 (by decide)) rfl;clear hG hne;simp only [frontAct,zf1,zf2,zf3,zf4,zf5];generalize f 101=fL at*;subst eL;have HEND:=hid (bt HBD.out hB);clear hB;refine wpAny_ready (rs:=[16]) (by kernel_rfl) (by simp) ?_;refine AllReady.cons rfl (fun K hK=>?_) AllReady.nil;have HQ:=hid hK;clear hK;go_simp;refine HQ.out _ _ ?_;clear HQ K;refine wpAny_done (by kernel_rfl) ?_ _;go_wp2_with fail
  have:=HV.out;subst this;go_ret;exact⟨rfl,HEND.out⟩
theorem Qik(k:Nat)(hk:kind5 k)(d:WD)(x:List Value)(w:World)(V:Bool)(hx:WRd w x d)(sd:SzK d)(H:Hid (tv (chk k d)=V)):Calls prog 41 #[.int .i64 (k:Int),.agg x.toArray] w (RetV w (.bool V)):=by
 revert H;exact kinds5 (P:=fun k=>Hid (tv (chk k d)=V)->Calls prog 41 #[.int .i64 (k:Int),.agg x.toArray] w (RetV w (.bool V))) (Qur d x w V hx sd) (Qus d x w V hx sd) (Quv d x w V hx sd) (Qut d x w V hx sd) (Quu d x w V hx sd) k hk.1 hk.2
theorem Qpk(d:WD):WD.mk false [] [] 0 false 0 [] d.parts=d↔d.onlyL:=by
 cases d with
 |mk neg ln ld kc iv u poly parts=>
 constructor
 ·intro h
  simp only [WD.mk.injEq,WD.parts]at h;obtain⟨rfl,rfl,rfl,rfl,rfl,rfl,rfl,_⟩:=h;exact⟨⟨rfl,rfl,rfl⟩,⟨rfl,rfl⟩,rfl,rfl⟩
 ·intro⟨⟨h1,h2,h3⟩,⟨h4,h5⟩,h6,h7⟩
  simp only [WD.neg,WD.ln,WD.ld,WD.c,WD.i,WD.s,WD.poly]at h1 h2 h3 h4 h5 h6 h7;subst h1 h2 h3 h4 h5 h6 h7;rfl
theorem Qzq{ks:List Nat}{j:Nat}{x:Int}(h:(ks.map (fun j:Nat=>(j:Int)))[j]? =some x):∃k:Nat,ks[j]? =some k/\x=(k:Int):=by
 rw [List.getElem?_map]at h;obtain⟨k,h1,h2⟩:=Option.map_eq_some_iff.1 h;exact⟨k,h1,h2.symm⟩
theorem Qn9(k:Int)(l:List Int)(A:Option Addr)(n c:Nat)(w:World)(h:IntR w l A n c)(hr:(ringOf k l).isSome=false)(d:WD)(x:List Value)(hx:WRd w x d):Calls prog 17 #[.agg #[.int .i64 k,.slice A n c],.agg x.toArray] w (RetV w (.bool false)):=by
 obtain⟨A1,n1,c1,B1,m1,e1,P1,p1,r1,Q1,q1,s1,rfl,g1,g2,g3,g4⟩:=hx.shape;show Calls _ _ #[_,.agg #[.bool d.neg,.slice A1 n1 c1,.slice B1 m1 e1,.int .i64 d.c,.bool d.i,.int .u64 d.s,.slice P1 p1 r1,.slice Q1 q1 s1]] _ _;obtain⟨hb0,k1,k2⟩:=blk2 w [.int .i64 k,.slice A n c] [.bool d.neg,.slice A1 n1 c1,.slice B1 m1 e1,.int .i64 d.c,.bool d.i,.int .u64 d.s,.slice P1 p1 r1,.slice Q1 q1 s1] 24 32;have HV:=hid (Qaq k l A n c _ false (h.below hb0) (hid hr));clear h hr hx g1 g2 g3 g4;go_enter func17,ntmps17;go_wp2_with fail
 refine HV.out.mono ?_;rintro e0 w1 ⟨rfl,hb1⟩;replace hb0:=bt hb0 hb1;clear hb1;go_wp2_with fail
 go_ret;exact⟨rfl,hb0⟩
theorem Qq7(j:Nat)(k:Int)(l:List Int)(A:Option Addr)(n c:Nat)(w:World)(h:IntR w l A n c)(hr:ringOf k l=some (.one j))(d:WD)(x:List Value)(V:Bool)(hx:WRd w x d)(sd:SzK d)(H:Hid (tv (chkR (.one j) d)=V)):Calls prog 17 #[.agg #[.int .i64 k,.slice A n c],.agg x.toArray] w (RetV w (.bool V)):=by
 have HX:=hid hx;obtain⟨A1,n1,c1,B1,m1,e1,P1,p1,r1,Q1,q1,s1,rfl,g1,g2,g3,g4⟩:=hx.shape;have hrs:(ringOf k l).isSome=true:=by rw [hr];rfl
 obtain⟨rfl,rfl,j1,j5⟩:=Qes hr;show Calls _ _ #[_,.agg #[.bool d.neg,.slice A1 n1 c1,.slice B1 m1 e1,.int .i64 d.c,.bool d.i,.int .u64 d.s,.slice P1 p1 r1,.slice Q1 q1 s1]] _ _;obtain⟨hb0,k1,k2⟩:=blk2 w [.int .i64 (j:Int),.slice A n c] [.bool d.neg,.slice A1 n1 c1,.slice B1 m1 e1,.int .i64 d.c,.bool d.i,.int .u64 d.s,.slice P1 p1 r1,.slice Q1 q1 s1] 24 32;have HV:=hid (Qaq (j:Int) [] A n c _ true (h.below hb0) (hid hrs));have g6:((j:Int) !=6)=true:=by simp;omega
 have HJ:=hid (And.intro j1 j5);clear h hr hx g1 g2 g3 g4 hrs j1 j5;go_enter func17,ntmps17;go_wp2_with fail
 refine HV.out.mono ?_;rintro e0 w1 ⟨rfl,hb1⟩;replace hb0:=bt hb0 hb1;replace k1:=k1.below hb1 k1.lt;replace k2:=k2.below hb1 k2.lt;clear hb1 HV;have a0:=k1.cell (k:=0) rfl;obtain⟨x0,x1,x2,x3,x4,x5,x6,x7⟩:=k2.c8;have HC:=hid (Qik j HJ.out d _ w1 V (HX.out.keep hb0) sd H);clear sd H k1 k2;go_wp2_with fail
 refine HC.out.mono ?_;rintro e0 w2 ⟨rfl,hb1⟩;replace hb0:=bt hb0 hb1;clear hb1;go_wp2_with fail
 go_ret;exact⟨rfl,hb0⟩
theorem Qoa(ks:List Nat)(k:Int)(l:List Int)(A:Option Addr)(n c:Nat)(w:World)(h:IntR w l A n c)(hr:ringOf k l=some (.prod ks))(d:WD)(x:List Value)(V:Bool)(hx:WRd w x d)(sd:SzK d)(H:Hid (tv (chkR (.prod ks) d)=V)):Calls prog 17 #[.agg #[.int .i64 k,.slice A n c],.agg x.toArray] w (RetV w (.bool V)):=by
 have HX:=hid hx;obtain⟨A1,n1,c1,B1,m1,e1,P1,p1,r1,Q1,q1,s1,rfl,g1,g2,g3,g4⟩:=hx.shape;have hrs:(ringOf k l).isSome=true:=by rw [hr];rfl
 obtain⟨rfl,rfl,j2,j3,hkk⟩:=Qdx hr;have hn:n=ks.length:=by rw [h.len,List.length_map]
 have hq:=g4.len;show Calls _ _ #[_,.agg #[.bool d.neg,.slice A1 n1 c1,.slice B1 m1 e1,.int .i64 d.c,.bool d.i,.int .u64 d.s,.slice P1 p1 r1,.slice Q1 q1 s1]] _ _;obtain⟨hb0,k1,k2⟩:=blk2 w [.int .i64 6,.slice A n c] [.bool d.neg,.slice A1 n1 c1,.slice B1 m1 e1,.int .i64 d.c,.bool d.i,.int .u64 d.s,.slice P1 p1 r1,.slice Q1 q1 s1] 24 32;have HV:=hid (Qaq 6 _ A n c _ true (h.below hb0) (hid hrs));have HI:=hid h;have HW:=hid g4;have HKK:=hid hkk;have HSD:=hid sd;have HL:=hid (And.intro hn hq);have H3:=hid j3;have hz:=sd.open.2.2.2.2.1;have HQP:=hid g1;have HQD:=hid g2;have HY:=hid g3;clear h hr hx g1 g2 g3 g4 hrs j2 j3 hkk sd hn hq hz;go_enter func17,ntmps17;go_wp2_with fail
 refine HV.out.mono ?_;rintro e0 w1 ⟨rfl,hb1⟩;replace hb0:=bt hb0 hb1;replace k1:=k1.below hb1 k1.lt;replace k2:=k2.below hb1 k2.lt;clear hb1 HV;have a0:=k1.cell (k:=0) rfl;have a1:=k1.cell (k:=1) rfl;obtain⟨x0,x1,x2,x3,x4,x5,x6,x7⟩:=k2.c8;by_cases hqn:q1=n
 case neg=>
  have e4:((q1:Int) !=(n:Int))=true:=by simp;omega
  have HV:Hid (false=V):=hid (by
   rw [<-H.out];symm;exact Qag (fun h=>hqn (by rw [HL.out.2,HL.out.1];exact Qbv h.2)))
  clear hqn;go_wp2_with fail
  have:=HV.out;subst this;go_ret;exact⟨rfl,hb0⟩
 subst hqn;have e4:((q1:Int) !=(q1:Int))=false:=by simp
 obtain⟨V1,hV1⟩:∃V1,eqD (WD.mk false [] [] 0 false 0 [] d.parts) d=V1:=⟨_,rfl⟩;have HV1:=hid hV1;have hrb:WRd w1 [.bool false,.slice none 0 0,.slice none 0 0,.int .i64 0,.bool false,.int .u64 0,.slice none 0 0,.slice Q1 q1 s1] (WD.mk false [] [] 0 false 0 [] d.parts):=WRd.made (Num.nil _ _ _) (Num.nil _ _ _) (PRaw.nil _ _ _) (HW.out.below hb0);have HC:=hid (Qex _ d _ _ w1 V1 hrb (HX.out.keep hb0) (HSD.out.noQ.noP.other 0 false 0).sze HSD.out.sze HV1);clear hV1 hrb;go_wp2_with fail
 refine HC.out.mono ?_;rintro e0 w2 ⟨rfl,hb1⟩;replace hb0:=bt hb0 hb1;replace k1:=k1.below hb1 k1.lt;replace k2:=k2.below hb1 k2.lt;clear hb1 HC a0 a1 x0 x1 x2 x3 x4 x5 x6 x7;cases V1
 ·have HV:Hid (false=V):=hid (by
   rw [<-H.out];symm;exact Qag (fun h=>by have h1:=HV1.out;rw [Qfc.2 ((Qpk d).2 h.1)]at h1;cases h1))
  go_wp2_with fail
  have:=HV.out;subst this;go_ret;exact⟨rfl,hb0⟩
 have HE:Hid (tv (chkL ks d.parts)=V):=hid (by
  rw [<-H.out];exact Qkb ⟨fun h=>⟨(Qpk d).1 (Qfc.1 HV1.out),h⟩,fun h=>h.2⟩)
 go_wp2_with fail
 have HB0:=hid hb0;have HC1:=hid k1;have HC2:=hid k2;clear hb0 k1 k2 H HV1
 go_loopw [5] (fun i wr=> ∃j:Nat,j<=q1/\i=.int .i64 (j:Int)/\Below w2.heap.size w2 wr/\Hid (∀(i k:Nat) (e:WD),i<j->ks[i]? =some k->d.parts[i]? =some e->chk k e)) (fun i _=>(q1-intOf i).toNat)
 case atStart=>exact⟨0,zero_le _,rfl,Below.refl _ _,fun i k e hi=>absurd hi (not_lt_zero _)⟩
 case round=>
  obtain⟨j,hj,rfl,hb,HO⟩:=hrel;have hb2:=bt HB0.out hb;have a1:=(HC1.out.below hb HC1.out.lt).cell (k:=1) rfl;by_cases hjn:j<q1
  ·have hlt:(j:Int)<(q1:Int):=by omega
   have h0i:¬(j:Int)<0:=(by omega);have hw1:IntKind.i64.wrap ((j:Int)+1)=(j:Int)+1:=IntWalk.i64_in _ (by have:=HL.out.1;have:=H3.out;omega);obtain⟨b,o,xj,rfl,hbq,hxj,hcj⟩:=HI.out.at_ hjn;obtain⟨kj,hkj,rfl⟩:=Qzq hxj;obtain⟨dj,hdj⟩:∃m,d.parts[j]? =some m:=⟨d.parts[j]'(by have:=HL.out.2;omega),List.getElem?_eq_getElem _⟩;obtain⟨v0,v1,A3,n3,c3,B3,m3,e3,P3,p3,r3,Q3,q3,s3,rfl,hvb,hwv,hatv⟩:=HW.out.at8 hdj;obtain⟨Vr,hVr⟩:∃V,tv (chk kj dj)=V:=⟨_,rfl⟩;have HVr:=hid hVr;have HB:=hid hb2.drew;have KX:Hid (∀wx,Below wr.drew.heap.size wr.drew wx->(wx.cell? ⟨w.heap.size,1,none⟩=some (.slice (some ⟨b,o,none⟩) q1 c)/\wx.cell? ⟨w.heap.size+1,7,none⟩=some (.slice (some ⟨v0,v1,none⟩) q1 s1)/\wx.cell? ⟨b,o+j,none⟩=some (.int .i64 (kj:Int)))/\At8 wx v0 (v1+j*8) (.bool dj.neg) (.slice A3 n3 c3) (.slice B3 m3 e3) (.int .i64 dj.c) (.bool dj.i) (.int .u64 dj.s) (.slice P3 p3 r3) (.slice Q3 q3 s3)):=hid (fun wx hB=>by
    have hbx:=bt HB.out hB;have hb3:=bt hb.drew hB;exact⟨⟨(HC1.out.below hb3 HC1.out.lt).cell rfl,(HC2.out.below hb3 HC2.out.lt).cell rfl,(World.cell?_of_block (w:=w) (hbx.block b hbq)).trans hcj⟩,hatv.below hbx hvb⟩)
   have HCALL:Hid (∀wx,Below wr.drew.heap.size wr.drew wx->Calls prog 41 #[.int .i64 (kj:Int),.agg #[.bool dj.neg,.slice A3 n3 c3,.slice B3 m3 e3,.int .i64 dj.c,.bool dj.i,.int .u64 dj.s,.slice P3 p3 r3,.slice Q3 q3 s3]] wx (RetV wx (.bool Vr))):=hid (fun wx hB=>by
    have hbx:=bt HB.out hB;exact Qik kj (HKK.out kj (List.mem_of_getElem? hkj)) dj _ wx Vr (hwv.keep hbx) (HSD.out.open.2.2.2.2.2 dj (List.mem_of_getElem? hdj)) HVr)
   have HK:=hid hjn;have HBR:=hid hb;have HD:=hid hdj;have HK1:=hid hkj;clear hb hb2 hvb hwv hatv hdj hjn hVr hxj hcj hkj hbq;go_wp2_with fail
   clear a1;refine Qan 12 (38::39::40::41::42::43::44::45::46::47::48::49::[]) (Sq.val (.pointer (some ⟨w.heap.size,1,none⟩))::Sq.val (.slice (some ⟨b,o,none⟩) q1 c)::Sq.val (.int .i64 (j:Int))::Sq.val (.pointer (some ⟨b,o+j,none⟩))::Sq.val (.int .i64 (kj:Int))::Sq.val (.pointer (some ⟨w.heap.size+1,7,none⟩))::Sq.val (.slice (some ⟨v0,v1,none⟩) q1 s1)::Sq.val (.int .i64 (j:Int))::Sq.val (.pointer (some ⟨v0,v1+j*8,none⟩))::Sq.val (.agg #[.bool dj.neg,.slice A3 n3 c3,.slice B3 m3 e3,.int .i64 dj.c,.bool dj.i,.int .u64 dj.s,.slice P3 p3 r3,.slice Q3 q3 s3])::Sq.val (.bool Vr)::Sq.val (.bool (!Vr))::[]) (by kernel_rfl) (by kernel_rfl) (by kernel_rfl) (by kernel_rfl) ?step 0 (by kernel_rfl) _ rfl ?fin
   case step=>
    intro i hi oi ho f wx hB hdep K hK;simp only [frontAct,zf1,zf2,zf3,zf4,zf5]at hK⊢;obtain⟨⟨y0,y1,y2⟩,⟨x0,x1,x2,x3,x4,x5,x6,x7⟩⟩:=KX.out wx hB;iterate 12 rcases lt_or_eq_of_le (le_of_lt_succ hi)with hi|rfl
    exact absurd hi (not_lt_zero _);all_goals
     obtain rfl:=Option.some.inj ho;clear ho;simp only [Act.put,zf3,zf4,zf5]at hK
    rotate_left
    have e38:=dv6 (hdep ⟨0,.data⟩ (by simp) rfl) rfl;simp only [zf6,zf7]at e38;generalize f 38=f38 at*;subst e38;rotate_left
    rotate_left
    have e39:=dv6 (hdep ⟨1,.data⟩ (by simp) rfl) rfl;have e40:=dv6 (hdep ⟨2,.data⟩ (by simp) rfl) rfl;simp only [zf6,zf7]at e39 e40;generalize f 39=f39 at*;subst e39;generalize f 40=f40 at*;subst e40;rotate_left
    have e41:=dv6 (hdep ⟨3,.data⟩ (by simp) rfl) rfl;simp only [zf6,zf7]at e41;generalize f 41=f41 at*;subst e41;rotate_left
    rotate_left
    have e43:=dv6 (hdep ⟨5,.data⟩ (by simp) rfl) rfl;simp only [zf6,zf7]at e43;generalize f 43=f43 at*;subst e43;rotate_left
    rotate_left
    have e44:=dv6 (hdep ⟨6,.data⟩ (by simp) rfl) rfl;have e45:=dv6 (hdep ⟨7,.data⟩ (by simp) rfl) rfl;simp only [zf6,zf7]at e44 e45;generalize f 44=f44 at*;subst e44;generalize f 45=f45 at*;subst e45;rotate_left
    have e46:=dv6 (hdep ⟨8,.data⟩ (by simp) rfl) rfl;simp only [zf6,zf7]at e46;generalize f 46=f46 at*;subst e46;rotate_left
    ·have e42:=dv6 (hdep ⟨4,.data⟩ (by simp) rfl) rfl
     have e47:=dv6 (hdep ⟨9,.data⟩ (by simp) rfl) rfl;simp only [zf6,zf7]at e42 e47;generalize f 42=f42 at*;subst e42;generalize f 47=f47 at*;subst e47;go_simp;refine(HCALL.out wx hB).mono ?_;rintro e0 w' ⟨rfl,hb⟩;exact hK (.bool Vr) w' (gv6 rfl) hb (bt hB hb) (nb6 rfl rfl)
    have e48:=dv6 (hdep ⟨10,.data⟩ (by simp) rfl) rfl;simp only [zf6,zf7]at e48;generalize f 48=f48 at*;subst e48;rotate_left
    all_goals go_simp
    all_goals exact hK _ wx (gv6 rfl) (Below.refl _ _) hB (nb6 rfl rfl)
   case fin=>
    intro f wx hB hG hne;have eL:=dv6 (a:=f 49) (hG 11 (by decide)) rfl;clear hG hne;simp only [frontAct,zf1,zf2,zf3,zf4,zf5];generalize f 49=fL at*;subst eL;have HEND:=hid (bt HBR.out.drew hB);clear hB;refine wpAny_done (by kernel_rfl) ?_ _;cases Vr
    ·have HV:Hid (false=V):=hid (by
      rw [<-HE.out];symm;exact Qag (fun h=>by
       have h1:=(Qer.1 h).2 j kj dj HK1.out HD.out;have h2:=HVr.out;rw [Qbf h1]at h2;cases h2))
     have HBE:=hid (bt HB0.out HEND.out);clear HE;go_wp2_with fail
     have:=HV.out;subst this;go_ret;exact⟨rfl,HBE.out⟩
    ·go_wp2_with fail
     go_roundw
     case rel=>
      refine⟨j+1,HK.out,congrArg (Value.int _) (by omega),HEND.out,fun i ki di hi hki hdi=>?_⟩;rcases Nat.lt_or_ge i j with hij|hij
      ·exact HO.out i ki di hij hki hdi
      ·obtain rfl:i=j:=by omega
       rw [HK1.out]at hki;rw [HD.out]at hdi;obtain rfl:=Option.some.inj hki;obtain rfl:=Option.some.inj hdi;exact Qce.1 HVr.out
     case measure=>simp [intOf];have:=HK.out;omega
  ·have hlt:¬(j:Int)<(q1:Int):=by omega
   have HV:Hid (true=V):=hid (by
    rw [<-HE.out];symm;refine Qbf (Qer.2 ⟨by rw [<-HL.out.1,<-HL.out.2],fun i k e hk he=>HO.out i k e ?_ hk he⟩);have:=(List.getElem?_eq_some_iff.1 hk).1;have:=HL.out.1;omega)
   have HB2:=hid hb2;clear hb hb2 HO HE;go_wp2_with fail
   have:=HV.out;subst this;go_ret;exact⟨rfl,HB2.out⟩
theorem Qpl(r:Rg)(k:Int)(l:List Int)(A:Option Addr)(n c:Nat)(w:World)(h:IntR w l A n c)(hr:ringOf k l=some r)(d:WD)(x:List Value)(V:Bool)(hx:WRd w x d)(sd:SzK d)(H:Hid (tv (chkR r d)=V)):Calls prog 17 #[.agg #[.int .i64 k,.slice A n c],.agg x.toArray] w (RetV w (.bool V)):=by
 cases r with
 |one j=>exact Qq7 j k l A n c w h hr d x V hx sd H
 |prod ks=>exact Qoa ks k l A n c w h hr d x V hx sd H
theorem Fit.zeroS{r:Rg}(hr:okRg r):Fit r (zeroR r):=⟨Qca hr,Qga (by decide) r⟩
theorem Fit.oneS{r:Rg}(hr:okRg r):Fit r (oneR r):=⟨Qst hr,Qn7 (by decide) hr⟩
theorem Quw{r:Rg}(hr:okRg r){z:CW}(hz:Fit r z)(w:World)(u v:Value)(hu:RZ z w u)(hv:RZ z w v):Calls prog 19 #[u,v] w (RetV w (.bool true)):=by
 obtain⟨lx,rfl,h1⟩:=hu;obtain⟨ly,rfl,h2⟩:=hv;exact Qex _ _ lx ly w true h1 h2 (hz.szk hr).sze (hz.szk hr).sze (hid (Qg7 _))
theorem Qob{r:Rg}{k:Int}{l:List Int}{A:Option Addr}{n c:Nat}{w:World}(h:Ring3 r k l A n c w){z:CW}(hz:Fit r z)(u:Value)(hu:RZ z w u):Calls prog 16 #[.agg #[.int .i64 k,.slice A n c],u] w (RetV w (.bool true)):=by
 obtain⟨lx,rfl,h1⟩:=hu;have hr:=Qbp h.eq;exact Qua Qbs r k l A n c w h.tab h.ints h.eq _ lx true h1 (hz.szk hr) (hid (Qbf (Qco hr hz.1).1))
theorem Qkz(k:Int)(l:List Int)(A:Option Addr)(n c:Nat)(d d2:WD)(x y:List Value)(w:World)(hT:Txt w)(h:IntR w l A n c)(hx:WRd w x d)(hy:WRd w y d2)(bd:bits d)(bd2:bits d2):Calls prog 8 #[.agg #[.int .i64 k,.slice A n c],.agg x.toArray,.agg y.toArray] w (RetV w (.bool true)):=by
 have HT:=hid hT;have HX:=hid hx;have HY:=hid hy;have HI:=hid h;have HD:=hid (And.intro bd bd2);obtain⟨A1,n1,c1,B1,m1,e1,P1,p1,r1,Q1,q1,s1,rfl,_⟩:=hx.shape;obtain⟨A2,n2,c2,B2,m2,e2,P2,p2,r2,Q2,q2,s2,rfl,_⟩:=hy.shape;show Calls _ _ #[_,.agg #[.bool d.neg,.slice A1 n1 c1,.slice B1 m1 e1,.int .i64 d.c,.bool d.i,.int .u64 d.s,.slice P1 p1 r1,.slice Q1 q1 s1],.agg #[.bool d2.neg,.slice A2 n2 c2,.slice B2 m2 e2,.int .i64 d2.c,.bool d2.i,.int .u64 d2.s,.slice P2 p2 r2,.slice Q2 q2 s2]] _ _;obtain⟨hb0,k1,k2,k3⟩:=blk3 w [.int .i64 k,.slice A n c] [.bool d.neg,.slice A1 n1 c1,.slice B1 m1 e1,.int .i64 d.c,.bool d.i,.int .u64 d.s,.slice P1 p1 r1,.slice Q1 q1 s1] [.bool d2.neg,.slice A2 n2 c2,.slice B2 m2 e2,.int .i64 d2.c,.bool d2.i,.int .u64 d2.s,.slice P2 p2 r2,.slice Q2 q2 s2] 24 32 32;obtain⟨V1,hV1⟩:∃V,tv (l.length<=6/\lgtD d/\lgtD d2)=V:=⟨_,rfl⟩;obtain⟨V2,hV2⟩:∃V,(ringOf k l).isSome=V:=⟨_,rfl⟩;have HV1:=hid hV1;have HV2:=hid hV2;have HC:=hid (Qms k l A n c d d2 _ _ _ V1 (h.below hb0) (hx.keep hb0) (hy.keep hb0) HV1);clear hT h hx hy bd bd2 hV1 hV2;have g0:=k1.cell (k:=0) rfl;have g1:=k1.cell (k:=1) rfl;obtain⟨x0,x1,x2,x3,x4,x5,x6,x7⟩:=k2.c8;obtain⟨y0,y1,y2,y3,y4,y5,y6,y7⟩:=k3.c8;go_enter func8,ntmps8;go_wp2_with fail
 refine HC.out.mono ?_;rintro e0 w1 ⟨rfl,hb1⟩;replace hb0:=bt hb0 hb1;replace k1:=k1.below hb1 k1.lt;replace k2:=k2.below hb1 k2.lt;replace k3:=k3.below hb1 k3.lt;clear hb1 HC g0 g1 x0 x1 x2 x3 x4 x5 x6 x7 y0 y1 y2 y3 y4 y5 y6 y7;have HBB:=hid hb0;cases V1
 ·clear k1 k2 k3 hb0
  go_wp2_with fail
  refine(Qd0 _ (HT.out.below HBB.out)).mono ?_;rintro e0 w9 ⟨rfl,hb1⟩;have HEND:=hid (bt HBB.out hb1);go_wp2_with fail
  go_ret;exact⟨rfl,HEND.out⟩
 obtain⟨hl6,hld,hld2⟩:=Qce.1 HV1.out;have SD:Hid (SzK d/\SzK d2):=hid ⟨hld.szd.up (by decide) (by decide),hld2.szd.up (by decide) (by decide)⟩;clear hl6 hld hld2 HV1;have g0:=k1.cell (k:=0) rfl;have g1:=k1.cell (k:=1) rfl;have HC:=hid (Qaq k l A n c w1 V2 (HI.out.below hb0) HV2);go_wp2_with fail
 refine HC.out.mono ?_;rintro e0 w2 ⟨rfl,hb1⟩;replace hb0:=bt hb0 hb1;replace k1:=k1.below hb1 k1.lt;replace k2:=k2.below hb1 k2.lt;replace k3:=k3.below hb1 k3.lt;clear hb1 HC g0 g1;replace HBB:=hid hb0;cases V2
 ·clear k1 k2 k3 hb0
  go_wp2_with fail
  refine(Qd0 _ (HT.out.below HBB.out)).mono ?_;rintro e0 w9 ⟨rfl,hb1⟩;have HEND:=hid (bt HBB.out hb1);go_wp2_with fail
  go_ret;exact⟨rfl,HEND.out⟩
 obtain⟨r,hr⟩:=Option.isSome_iff_exists.1 HV2.out;have HR:=hid hr;have HRO:=hid (Qbp hr);obtain⟨V3,hV3⟩:∃V,tv (chkR r d)=V:=⟨_,rfl⟩;have HV3:=hid hV3;clear hV3 HV2;have g0:=k1.cell (k:=0) rfl;have g1:=k1.cell (k:=1) rfl;obtain⟨x0,x1,x2,x3,x4,x5,x6,x7⟩:=k2.c8;have HC:=hid (Qpl r k l A n c w2 (HI.out.below hb0) hr d _ V3 (HX.out.keep hb0) SD.out.1 HV3);clear hr;go_wp2_with fail
 refine HC.out.mono ?_;rintro e0 w3 ⟨rfl,hb1⟩;replace hb0:=bt hb0 hb1;replace k1:=k1.below hb1 k1.lt;replace k2:=k2.below hb1 k2.lt;replace k3:=k3.below hb1 k3.lt;clear hb1 HC g0 g1 x0 x1 x2 x3 x4 x5 x6 x7;replace HBB:=hid hb0;cases V3;rotate_left
 ·clear k1 k2 k3 hb0
  go_wp2_with fail
  refine(Qd0 _ (HT.out.below HBB.out)).mono ?_;rintro e0 w9 ⟨rfl,hb1⟩;have HEND:=hid (bt HBB.out hb1);go_wp2_with fail
  go_ret;exact⟨rfl,HEND.out⟩
 have HTZ:Hid (takeR r d=zeroR r):=hid (Qd9 (fun h=>by have:=HV3.out;rw [Qbf h]at this;cases this));have HFY:Hid (Fit r (takeR r d2)):=hid ⟨Qvk HRO.out HD.out.2,HY.out.szw HRO.out SD.out.2 (by decide) (by decide) (by decide)⟩;clear HV3;have g0:=k1.cell (k:=0) rfl;have g1:=k1.cell (k:=1) rfl;have HC:=hid (z_Zero (w:=w3) (r:=r) (k:=k) (l:=l) (A:=A) (n:=n) (c:=c) ⟨HT.out.tab.below hb0,HI.out.below hb0,HR.out⟩);go_wp2_with fail
 refine HC.out.mono ?_;rintro e0 w4 ⟨_,rfl,⟨lz,rfl,hz⟩,hb1⟩;replace hb0:=bt hb0 hb1;replace k1:=k1.below hb1 k1.lt;replace k2:=k2.below hb1 k2.lt;replace k3:=k3.below hb1 k3.lt;clear hb1 HC g0 g1 HBB;obtain⟨zb,zA,zn,zc,zB,zm,ze,zk,zi,zS,zP,zp,zr,zQ,zq,zw,rfl⟩:=hz.isW8;obtain⟨hbl,k4⟩:=blk1 w4 [.bool zb,.slice zA zn zc,.slice zB zm ze,.int .i64 zk,.bool zi,.int .u64 zS,.slice zP zp zr,.slice zQ zq zw] 32;have HBW:=hid (bt hb0 hbl).drew;have HK1:=hid (k1.below hbl k1.lt);have HK2:=hid (k2.below hbl k2.lt);have HK3:=hid (k3.below hbl k3.lt);have HK4:=hid k4;have HZZ:=hid (hz.keep hbl);clear hz k1 k2 k3 k4 hb0 hbl;go_wp2_with fail
 generalize hW5:(w4.alloc (.cells #[.bool zb,.slice zA zn zc,.slice zB zm ze,.int .i64 zk,.bool zi,.int .u64 zS,.slice zP zp zr,.slice zQ zq zw] 32))=W5 at*
 generalize w4.heap.size=g9 at*
 clear hW5;have KX:Hid (∀wx,Below W5.drew.heap.size W5.drew wx->(wx.cell? ⟨w.heap.size,0,none⟩=some (.int .i64 k)/\wx.cell? ⟨w.heap.size,1,none⟩=some (.slice A n c))/\At8 wx (w.heap.size+1) 0 (.bool d.neg) (.slice A1 n1 c1) (.slice B1 m1 e1) (.int .i64 d.c) (.bool d.i) (.int .u64 d.s) (.slice P1 p1 r1) (.slice Q1 q1 s1)/\At8 wx (w.heap.size+2) 0 (.bool d2.neg) (.slice A2 n2 c2) (.slice B2 m2 e2) (.int .i64 d2.c) (.bool d2.i) (.int .u64 d2.s) (.slice P2 p2 r2) (.slice Q2 q2 s2)/\At8 wx g9 0 (.bool zb) (.slice zA zn zc) (.slice zB zm ze) (.int .i64 zk) (.bool zi) (.int .u64 zS) (.slice zP zp zr) (.slice zQ zq zw)):=hid (fun wx hB=>⟨⟨(HK1.out.drew.below hB HK1.out.lt).cell rfl,(HK1.out.drew.below hB HK1.out.lt).cell rfl⟩,(HK2.out.drew.below hB HK2.out.lt).c8,(HK3.out.drew.below hB HK3.out.lt).c8,(HK4.out.drew.below hB HK4.out.lt).c8⟩);have HBX:Hid (∀wx,Below W5.drew.heap.size W5.drew wx->Below w.heap.size w wx):=hid (fun wx hB=>bt HBW.out hB);have HR3:Hid (∀wx,Below W5.drew.heap.size W5.drew wx->Ring3 r k l A n c wx):=hid (fun wx hB=>⟨HT.out.tab.below (HBX.out wx hB),HI.out.below (HBX.out wx hB),HR.out⟩);have HZ:Hid (∀wx,Below W5.drew.heap.size W5.drew wx->RZ (zeroR r) wx (.agg #[.bool zb,.slice zA zn zc,.slice zB zm ze,.int .i64 zk,.bool zi,.int .u64 zS,.slice zP zp zr,.slice zQ zq zw])):=hid (fun wx hB=>⟨_,rfl,(HZZ.out.keep (Below.refl _ _).drew).keep hB⟩);have HP:Hid (∀wx,Below W5.drew.heap.size W5.drew wx->Calls prog 26 #[.agg #[.int .i64 k,.slice A n c],.agg #[.bool d.neg,.slice A1 n1 c1,.slice B1 m1 e1,.int .i64 d.c,.bool d.i,.int .u64 d.s,.slice P1 p1 r1,.slice Q1 q1 s1],.agg #[.bool d2.neg,.slice A2 n2 c2,.slice B2 m2 e2,.int .i64 d2.c,.bool d2.i,.int .u64 d2.s,.slice P2 p2 r2,.slice Q2 q2 s2]] wx (RetZ (takeR r d2) wx)):=hid (fun wx hB=>by
  have hbx:=HBX.out wx hB;have h3:=HR3.out wx hB;have:=Qun Qbs r k l A n c wx h3.tab h3.ints h3.eq d d2 _ _ (HX.out.keep hbx) (HY.out.keep hbx) SD.out.1 SD.out.2 HD.out.1 HD.out.2;rw [HTZ.out,Qja HRO.out (Qca HRO.out) HFY.out.1,Qjb HRO.out HFY.out.1]at this;exact this.mono fun _ _ h=>RetX.z h)
 have HPZ:Hid (∀wx,Below W5.drew.heap.size W5.drew wx->Calls prog 26 #[.agg #[.int .i64 k,.slice A n c],.agg #[.bool zb,.slice zA zn zc,.slice zB zm ze,.int .i64 zk,.bool zi,.int .u64 zS,.slice zP zp zr,.slice zQ zq zw],.agg #[.bool d2.neg,.slice A2 n2 c2,.slice B2 m2 e2,.int .i64 d2.c,.bool d2.i,.int .u64 d2.s,.slice P2 p2 r2,.slice Q2 q2 s2]] wx (RetZ (takeR r d2) wx)):=hid (fun wx hB=>by
  have hbx:=HBX.out wx hB;have h3:=HR3.out wx hB;obtain⟨lz2,hlz,hz2⟩:=HZ.out wx hB;have:=Qun Qbs r k l A n c wx h3.tab h3.ints h3.eq _ d2 lz2 _ hz2 (HY.out.keep hbx) ((Fit.zeroS HRO.out).szk HRO.out) SD.out.2 (Qdg HRO.out (Qca HRO.out)) HD.out.2;rw [(Qco HRO.out (Qca HRO.out)).2,Qja HRO.out (Qca HRO.out) HFY.out.1,Qjb HRO.out HFY.out.1,<-hlz]at this;exact this.mono fun _ _ h=>RetX.z h)
 have HM:Hid (∀wx,Below W5.drew.heap.size W5.drew wx->Calls prog 28 #[.agg #[.int .i64 k,.slice A n c],.agg #[.bool d2.neg,.slice A2 n2 c2,.slice B2 m2 e2,.int .i64 d2.c,.bool d2.i,.int .u64 d2.s,.slice P2 p2 r2,.slice Q2 q2 s2],.agg #[.bool d.neg,.slice A1 n1 c1,.slice B1 m1 e1,.int .i64 d.c,.bool d.i,.int .u64 d.s,.slice P1 p1 r1,.slice Q1 q1 s1]] wx (RetZ (zeroR r) wx)):=hid (fun wx hB=>by
  have hbx:=HBX.out wx hB;have h3:=HR3.out wx hB;have:=Quo Qbs r k l A n c wx h3.tab h3.ints h3.eq d2 d _ _ (HY.out.keep hbx) (HX.out.keep hbx) SD.out.2 SD.out.1 HD.out.2 HD.out.1;rw [HTZ.out,Qnp HRO.out HFY.out.1]at this;exact this.mono fun _ _ h=>RetX.z h)
 have HO:Hid (∀wx,Below W5.drew.heap.size W5.drew wx->Calls prog 22 #[.agg #[.int .i64 k,.slice A n c]] wx (RetZ (oneR r) wx)):=hid (fun wx hB=>z_One (HR3.out wx hB));have HEY:Hid (∀wx u v,RZ (takeR r d2) wx u->RZ (takeR r d2) wx v->Calls prog 19 #[u,v] wx (RetV wx (.bool true))):=hid (fun wx u v=>Quw HRO.out HFY.out wx u v);have HEZ:Hid (∀wx u v,RZ (zeroR r) wx u->RZ (zeroR r) wx v->Calls prog 19 #[u,v] wx (RetV wx (.bool true))):=hid (fun wx u v=>Quw HRO.out (Fit.zeroS HRO.out) wx u v);have HKY:Hid (∀wx,Below W5.drew.heap.size W5.drew wx->∀u,RZ (takeR r d2) wx u->Calls prog 16 #[.agg #[.int .i64 k,.slice A n c],u] wx (RetV wx (.bool true))):=hid (fun wx hB u hu=>Qob (HR3.out wx hB) HFY.out u hu);have HKZ:Hid (∀wx,Below W5.drew.heap.size W5.drew wx->∀u,RZ (zeroR r) wx u->Calls prog 16 #[.agg #[.int .i64 k,.slice A n c],u] wx (RetV wx (.bool true))):=hid (fun wx hB u hu=>Qob (HR3.out wx hB) (Fit.zeroS HRO.out) u hu);have HKO:Hid (∀wx,Below W5.drew.heap.size W5.drew wx->∀u,RZ (oneR r) wx u->Calls prog 16 #[.agg #[.int .i64 k,.slice A n c],u] wx (RetV wx (.bool true))):=hid (fun wx hB u hu=>Qob (HR3.out wx hB) (Fit.oneS HRO.out) u hu);refine Qan 39 (26::27::28::29::30::31::32::33::34::35::36::37::38::39::40::41::42::43::44::45::46::47::48::49::50::51::52::53::54::55::56::57::58::59::60::61::62::63::64::[]) (Sq.val (.bool true)::Sq.val (.bool true)::Sq.val (.agg #[.int .i64 k,.slice A n c])::Sq.val (.agg #[.bool d.neg,.slice A1 n1 c1,.slice B1 m1 e1,.int .i64 d.c,.bool d.i,.int .u64 d.s,.slice P1 p1 r1,.slice Q1 q1 s1])::Sq.val (.agg #[.bool d2.neg,.slice A2 n2 c2,.slice B2 m2 e2,.int .i64 d2.c,.bool d2.i,.int .u64 d2.s,.slice P2 p2 r2,.slice Q2 q2 s2])::Sq.st (fun w a=>RZ (takeR r d2) w a)::Sq.val (.agg #[.int .i64 k,.slice A n c])::Sq.val (.agg #[.bool zb,.slice zA zn zc,.slice zB zm ze,.int .i64 zk,.bool zi,.int .u64 zS,.slice zP zp zr,.slice zQ zq zw])::Sq.val (.agg #[.bool d2.neg,.slice A2 n2 c2,.slice B2 m2 e2,.int .i64 d2.c,.bool d2.i,.int .u64 d2.s,.slice P2 p2 r2,.slice Q2 q2 s2])::Sq.st (fun w a=>RZ (takeR r d2) w a)::Sq.val (.bool true)::Sq.val (.bool true)::Sq.val (.bool true)::Sq.val (.agg #[.int .i64 k,.slice A n c])::Sq.val (.agg #[.bool d2.neg,.slice A2 n2 c2,.slice B2 m2 e2,.int .i64 d2.c,.bool d2.i,.int .u64 d2.s,.slice P2 p2 r2,.slice Q2 q2 s2])::Sq.val (.agg #[.bool d.neg,.slice A1 n1 c1,.slice B1 m1 e1,.int .i64 d.c,.bool d.i,.int .u64 d.s,.slice P1 p1 r1,.slice Q1 q1 s1])::Sq.st (fun w a=>RZ (zeroR r) w a)::Sq.val (.agg #[.bool zb,.slice zA zn zc,.slice zB zm ze,.int .i64 zk,.bool zi,.int .u64 zS,.slice zP zp zr,.slice zQ zq zw])::Sq.val (.bool true)::Sq.val (.bool true)::Sq.val (.bool true)::Sq.val (.agg #[.int .i64 k,.slice A n c])::Sq.val (.agg #[.int .i64 k,.slice A n c])::Sq.val (.agg #[.bool d.neg,.slice A1 n1 c1,.slice B1 m1 e1,.int .i64 d.c,.bool d.i,.int .u64 d.s,.slice P1 p1 r1,.slice Q1 q1 s1])::Sq.val (.agg #[.bool d2.neg,.slice A2 n2 c2,.slice B2 m2 e2,.int .i64 d2.c,.bool d2.i,.int .u64 d2.s,.slice P2 p2 r2,.slice Q2 q2 s2])::Sq.st (fun w a=>RZ (takeR r d2) w a)::Sq.val (.bool true)::Sq.val (.bool true)::Sq.val (.bool true)::Sq.val (.agg #[.int .i64 k,.slice A n c])::Sq.val (.agg #[.bool zb,.slice zA zn zc,.slice zB zm ze,.int .i64 zk,.bool zi,.int .u64 zS,.slice zP zp zr,.slice zQ zq zw])::Sq.val (.bool true)::Sq.val (.bool true)::Sq.val (.bool true)::Sq.val (.agg #[.int .i64 k,.slice A n c])::Sq.val (.agg #[.int .i64 k,.slice A n c])::Sq.st (fun w a=>RZ (oneR r) w a)::Sq.val (.bool true)::Sq.val (.bool true)::[]) (by kernel_rfl) (by kernel_rfl) (by kernel_rfl) (by kernel_rfl) ?step 1 (by kernel_rfl) _ rfl ?fin
 case step=>
  intro i hi oi ho f wx hB hdep K hK;simp only [frontAct,zf1,zf2,zf3,zf4,zf5]at hK⊢;have hbx:=bt HBW.out hB;obtain⟨⟨q0,q1⟩,⟨x0,x1,x2,x3,x4,x5,x6,x7⟩,⟨y0,y1,y2,y3,y4,y5,y6,y7⟩,⟨z0,z1,z2,z3,z4,z5,z6,z7⟩⟩:=KX.out wx hB;iterate 39 rcases lt_or_eq_of_le (le_of_lt_succ hi)with hi|rfl
  exact absurd hi (not_lt_zero _);all_goals
   obtain rfl:=Option.some.inj ho;clear ho;simp only [Act.put,zf3,zf4,zf5]at hK
  ·go_simp
   refine(Qd0 wx (HT.out.below hbx)).mono ?_;rintro e0 w' ⟨rfl,hb⟩;exact hK (.bool true) w' (gv6 rfl) hb (bt hB hb) (nb6 rfl rfl)
  have e26:=dv6 (hdep ⟨0,.data⟩ (by simp) rfl) rfl;simp only [zf6,zf7]at e26;generalize f 26=f26 at*;subst e26;rotate_left
  have e27:=dv6 (hdep ⟨1,.guard⟩ (by simp) rfl) rfl;simp only [zf6,zf7]at e27;generalize f 27=f27 at*;subst e27;rotate_left
  have e27:=dv6 (hdep ⟨1,.guard⟩ (by simp) rfl) rfl;simp only [zf6,zf7]at e27;generalize f 27=f27 at*;subst e27;rotate_left
  have e27:=dv6 (hdep ⟨1,.guard⟩ (by simp) rfl) rfl;simp only [zf6,zf7]at e27;generalize f 27=f27 at*;subst e27;rotate_left
  ·have e27:=dv6 (hdep ⟨1,.guard⟩ (by simp) rfl) rfl
   have e28:=dv6 (hdep ⟨2,.data⟩ (by simp) rfl) rfl;have e29:=dv6 (hdep ⟨3,.data⟩ (by simp) rfl) rfl;have e30:=dv6 (hdep ⟨4,.data⟩ (by simp) rfl) rfl;simp only [zf6,zf7]at e27 e28 e29 e30;generalize f 27=f27 at*;subst e27;generalize f 28=f28 at*;subst e28;generalize f 29=f29 at*;subst e29;generalize f 30=f30 at*;subst e30;go_simp;refine(HP.out wx hB).mono ?_;rintro e0 w' ⟨val,rfl,hr,hb⟩;exact hK val w' (gs6 rfl (fun w2 h2=>hr.below h2)) hb (bt hB hb) (nb6 rfl rfl)
  have e27:=dv6 (hdep ⟨1,.guard⟩ (by simp) rfl) rfl;simp only [zf6,zf7]at e27;generalize f 27=f27 at*;subst e27;rotate_left
  have e27:=dv6 (hdep ⟨1,.guard⟩ (by simp) rfl) rfl;simp only [zf6,zf7]at e27;generalize f 27=f27 at*;subst e27;rotate_left
  have e27:=dv6 (hdep ⟨1,.guard⟩ (by simp) rfl) rfl;simp only [zf6,zf7]at e27;generalize f 27=f27 at*;subst e27;rotate_left
  ·have e27:=dv6 (hdep ⟨1,.guard⟩ (by simp) rfl) rfl
   have e32:=dv6 (hdep ⟨6,.data⟩ (by simp) rfl) rfl;have e33:=dv6 (hdep ⟨7,.data⟩ (by simp) rfl) rfl;have e34:=dv6 (hdep ⟨8,.data⟩ (by simp) rfl) rfl;simp only [zf6,zf7]at e27 e32 e33 e34;generalize f 27=f27 at*;subst e27;generalize f 32=f32 at*;subst e32;generalize f 33=f33 at*;subst e33;generalize f 34=f34 at*;subst e34;go_simp;refine(HPZ.out wx hB).mono ?_;rintro e0 w' ⟨val,rfl,hr,hb⟩;exact hK val w' (gs6 rfl (fun w2 h2=>hr.below h2)) hb (bt hB hb) (nb6 rfl rfl)
  ·have e27:=dv6 (hdep ⟨1,.guard⟩ (by simp) rfl) rfl
   have e31:=ds6 (hdep ⟨5,.data⟩ (by simp) rfl) rfl;have e35:=ds6 (hdep ⟨9,.data⟩ (by simp) rfl) rfl;simp only [zf6,zf7]at e27 e31 e35;generalize f 27=f27 at*;subst e27;replace e31:=(show RZ (takeR r d2) wx (f 31)from e31);generalize f 31=f31 at*
   replace e35:=(show RZ (takeR r d2) wx (f 35)from e35);generalize f 35=f35 at*
   go_simp;refine(HEY.out wx f31 f35 e31 e35).mono ?_;rintro e0 w' ⟨rfl,hb⟩;exact hK (.bool true) w' (gv6 rfl) hb (bt hB hb) (nb6 rfl rfl)
  have e27:=dv6 (hdep ⟨1,.data⟩ (by simp) rfl) rfl;have e36:=dv6 (hdep ⟨10,.data⟩ (by simp) rfl) rfl;simp only [zf6,zf7]at e27 e36;generalize f 27=f27 at*;subst e27;generalize f 36=f36 at*;subst e36;rotate_left
  have e37:=dv6 (hdep ⟨11,.data⟩ (by simp) rfl) rfl;simp only [zf6,zf7]at e37;generalize f 37=f37 at*;subst e37;rotate_left
  have e38:=dv6 (hdep ⟨12,.guard⟩ (by simp) rfl) rfl;simp only [zf6,zf7]at e38;generalize f 38=f38 at*;subst e38;rotate_left
  have e38:=dv6 (hdep ⟨12,.guard⟩ (by simp) rfl) rfl;simp only [zf6,zf7]at e38;generalize f 38=f38 at*;subst e38;rotate_left
  have e38:=dv6 (hdep ⟨12,.guard⟩ (by simp) rfl) rfl;simp only [zf6,zf7]at e38;generalize f 38=f38 at*;subst e38;rotate_left
  ·have e38:=dv6 (hdep ⟨12,.guard⟩ (by simp) rfl) rfl
   have e39:=dv6 (hdep ⟨13,.data⟩ (by simp) rfl) rfl;have e40:=dv6 (hdep ⟨14,.data⟩ (by simp) rfl) rfl;have e41:=dv6 (hdep ⟨15,.data⟩ (by simp) rfl) rfl;simp only [zf6,zf7]at e38 e39 e40 e41;generalize f 38=f38 at*;subst e38;generalize f 39=f39 at*;subst e39;generalize f 40=f40 at*;subst e40;generalize f 41=f41 at*;subst e41;go_simp;refine(HM.out wx hB).mono ?_;rintro e0 w' ⟨val,rfl,hr,hb⟩;exact hK val w' (gs6 rfl (fun w2 h2=>hr.below h2)) hb (bt hB hb) (nb6 rfl rfl)
  have e38:=dv6 (hdep ⟨12,.guard⟩ (by simp) rfl) rfl;simp only [zf6,zf7]at e38;generalize f 38=f38 at*;subst e38;rotate_left
  ·have e38:=dv6 (hdep ⟨12,.guard⟩ (by simp) rfl) rfl
   have e42:=ds6 (hdep ⟨16,.data⟩ (by simp) rfl) rfl;have e43:=dv6 (hdep ⟨17,.data⟩ (by simp) rfl) rfl;simp only [zf6,zf7]at e38 e42 e43;generalize f 38=f38 at*;subst e38;replace e42:=(show RZ (zeroR r) wx (f 42)from e42);generalize f 42=f42 at*
   generalize f 43=f43 at*;subst e43;go_simp;refine(HEZ.out wx f42 _ e42 (HZ.out wx hB)).mono ?_;rintro e0 w' ⟨rfl,hb⟩;exact hK (.bool true) w' (gv6 rfl) hb (bt hB hb) (nb6 rfl rfl)
  have e38:=dv6 (hdep ⟨12,.data⟩ (by simp) rfl) rfl;have e44:=dv6 (hdep ⟨18,.data⟩ (by simp) rfl) rfl;simp only [zf6,zf7]at e38 e44;generalize f 38=f38 at*;subst e38;generalize f 44=f44 at*;subst e44;rotate_left
  have e45:=dv6 (hdep ⟨19,.data⟩ (by simp) rfl) rfl;simp only [zf6,zf7]at e45;generalize f 45=f45 at*;subst e45;rotate_left
  have e46:=dv6 (hdep ⟨20,.guard⟩ (by simp) rfl) rfl;simp only [zf6,zf7]at e46;generalize f 46=f46 at*;subst e46;rotate_left
  have e46:=dv6 (hdep ⟨20,.guard⟩ (by simp) rfl) rfl;simp only [zf6,zf7]at e46;generalize f 46=f46 at*;subst e46;rotate_left
  have e46:=dv6 (hdep ⟨20,.guard⟩ (by simp) rfl) rfl;simp only [zf6,zf7]at e46;generalize f 46=f46 at*;subst e46;rotate_left
  have e46:=dv6 (hdep ⟨20,.guard⟩ (by simp) rfl) rfl;simp only [zf6,zf7]at e46;generalize f 46=f46 at*;subst e46;rotate_left
  ·have e46:=dv6 (hdep ⟨20,.guard⟩ (by simp) rfl) rfl
   have e48:=dv6 (hdep ⟨22,.data⟩ (by simp) rfl) rfl;have e49:=dv6 (hdep ⟨23,.data⟩ (by simp) rfl) rfl;have e50:=dv6 (hdep ⟨24,.data⟩ (by simp) rfl) rfl;simp only [zf6,zf7]at e46 e48 e49 e50;generalize f 46=f46 at*;subst e46;generalize f 48=f48 at*;subst e48;generalize f 49=f49 at*;subst e49;generalize f 50=f50 at*;subst e50;go_simp;refine(HP.out wx hB).mono ?_;rintro e0 w' ⟨val,rfl,hr,hb⟩;exact hK val w' (gs6 rfl (fun w2 h2=>hr.below h2)) hb (bt hB hb) (nb6 rfl rfl)
  ·have e46:=dv6 (hdep ⟨20,.guard⟩ (by simp) rfl) rfl
   have e47:=dv6 (hdep ⟨21,.data⟩ (by simp) rfl) rfl;have e51:=ds6 (hdep ⟨25,.data⟩ (by simp) rfl) rfl;simp only [zf6,zf7]at e46 e47 e51;generalize f 46=f46 at*;subst e46;generalize f 47=f47 at*;subst e47;replace e51:=(show RZ (takeR r d2) wx (f 51)from e51);generalize f 51=f51 at*
   go_simp;refine(HKY.out wx hB f51 e51).mono ?_;rintro e0 w' ⟨rfl,hb⟩;exact hK (.bool true) w' (gv6 rfl) hb (bt hB hb) (nb6 rfl rfl)
  have e46:=dv6 (hdep ⟨20,.data⟩ (by simp) rfl) rfl;have e52:=dv6 (hdep ⟨26,.data⟩ (by simp) rfl) rfl;simp only [zf6,zf7]at e46 e52;generalize f 46=f46 at*;subst e46;generalize f 52=f52 at*;subst e52;rotate_left
  have e53:=dv6 (hdep ⟨27,.data⟩ (by simp) rfl) rfl;simp only [zf6,zf7]at e53;generalize f 53=f53 at*;subst e53;rotate_left
  have e54:=dv6 (hdep ⟨28,.guard⟩ (by simp) rfl) rfl;simp only [zf6,zf7]at e54;generalize f 54=f54 at*;subst e54;rotate_left
  have e54:=dv6 (hdep ⟨28,.guard⟩ (by simp) rfl) rfl;simp only [zf6,zf7]at e54;generalize f 54=f54 at*;subst e54;rotate_left
  ·have e54:=dv6 (hdep ⟨28,.guard⟩ (by simp) rfl) rfl
   have e55:=dv6 (hdep ⟨29,.data⟩ (by simp) rfl) rfl;have e56:=dv6 (hdep ⟨30,.data⟩ (by simp) rfl) rfl;simp only [zf6,zf7]at e54 e55 e56;generalize f 54=f54 at*;subst e54;generalize f 55=f55 at*;subst e55;generalize f 56=f56 at*;subst e56;go_simp;refine(HKZ.out wx hB _ (HZ.out wx hB)).mono ?_;rintro e0 w' ⟨rfl,hb⟩;exact hK (.bool true) w' (gv6 rfl) hb (bt hB hb) (nb6 rfl rfl)
  have e54:=dv6 (hdep ⟨28,.data⟩ (by simp) rfl) rfl;have e57:=dv6 (hdep ⟨31,.data⟩ (by simp) rfl) rfl;simp only [zf6,zf7]at e54 e57;generalize f 54=f54 at*;subst e54;generalize f 57=f57 at*;subst e57;rotate_left
  have e58:=dv6 (hdep ⟨32,.data⟩ (by simp) rfl) rfl;simp only [zf6,zf7]at e58;generalize f 58=f58 at*;subst e58;rotate_left
  have e59:=dv6 (hdep ⟨33,.guard⟩ (by simp) rfl) rfl;simp only [zf6,zf7]at e59;generalize f 59=f59 at*;subst e59;rotate_left
  have e59:=dv6 (hdep ⟨33,.guard⟩ (by simp) rfl) rfl;simp only [zf6,zf7]at e59;generalize f 59=f59 at*;subst e59;rotate_left
  ·have e59:=dv6 (hdep ⟨33,.guard⟩ (by simp) rfl) rfl
   have e61:=dv6 (hdep ⟨35,.data⟩ (by simp) rfl) rfl;simp only [zf6,zf7]at e59 e61;generalize f 59=f59 at*;subst e59;generalize f 61=f61 at*;subst e61;go_simp;refine(HO.out wx hB).mono ?_;rintro e0 w' ⟨val,rfl,hr,hb⟩;exact hK val w' (gs6 rfl (fun w2 h2=>hr.below h2)) hb (bt hB hb) (nb6 rfl rfl)
  ·have e59:=dv6 (hdep ⟨33,.guard⟩ (by simp) rfl) rfl
   have e60:=dv6 (hdep ⟨34,.data⟩ (by simp) rfl) rfl;have e62:=ds6 (hdep ⟨36,.data⟩ (by simp) rfl) rfl;simp only [zf6,zf7]at e59 e60 e62;generalize f 59=f59 at*;subst e59;generalize f 60=f60 at*;subst e60;replace e62:=(show RZ (oneR r) wx (f 62)from e62);generalize f 62=f62 at*
   go_simp;refine(HKO.out wx hB f62 e62).mono ?_;rintro e0 w' ⟨rfl,hb⟩;exact hK (.bool true) w' (gv6 rfl) hb (bt hB hb) (nb6 rfl rfl)
  have e59:=dv6 (hdep ⟨33,.data⟩ (by simp) rfl) rfl;have e63:=dv6 (hdep ⟨37,.data⟩ (by simp) rfl) rfl;simp only [zf6,zf7]at e59 e63;generalize f 59=f59 at*;subst e59;generalize f 63=f63 at*;subst e63;rotate_left
  all_goals go_simp
  all_goals exact hK _ wx (gv6 rfl) (Below.refl _ _) hB (nb6 rfl rfl)
 case fin=>
  intro f wx hB hG hne;have eL:=dv6 (a:=f 64) (hG 38 (by decide)) rfl;clear hG hne;simp only [frontAct,zf1,zf2,zf3,zf4,zf5];generalize f 64=fL at*;subst eL;have HEND:=hid (bt HBW.out hB);clear hB;refine wpAny_ready (rs:=[39]) (by kernel_rfl) (by simp) ?_;refine AllReady.cons rfl (fun K hK=>?_) AllReady.nil;have HQ:=hid hK;clear hK;go_simp;refine HQ.out _ _ ?_;clear HQ K;refine wpAny_done (by kernel_rfl) ?_ _;go_wp2_with fail
  go_ret;exact⟨rfl,HEND.out⟩
def WKz(a:SV)(w:World)(v:Value):Prop:=∃l:List Value,v=.agg l.toArray/\WRd w l (dOf a)
def WKy(a:SV)(w:World)(v:Value):Prop:=∃(g:Nat) (l:List Value),v=.slice (some ⟨g,0,none⟩) 1 1/\Cs w g l 32/\WRd w l (dOf a)
theorem Qux(k:Nat)(hk:kind5 k)(A:Option Addr)(c:Nat)(w:World):Calls prog 21 #[.agg #[.int .i64 (k:Int),.slice A 0 c]] w (RetX 0 w (dOf (zeroK k))):=by
 obtain rfl|rfl|rfl|rfl|rfl:k=1\/k=2\/k=3\/k=4\/k=5:=by unfold kind5 at hk;omega
 ·exact Qzi A c w
 ·exact Qzj A c w
 ·exact Qzk A c w
 ·exact Qzl A c w
 ·exact Qzm A c w
theorem Qxr(k:Nat)(hk:kind5 k)(A:Option Addr)(c:Nat)(w:World):Calls prog 23 #[.agg #[.int .i64 (k:Int),.slice A 0 c]] w (RetX 0 w (dOf (oneK k))):=by
 obtain rfl|rfl|rfl|rfl|rfl:k=1\/k=2\/k=3\/k=4\/k=5:=by unfold kind5 at hk;omega
 ·exact rOne_1 A c w
 ·exact rOne_2 A c w
 ·exact rOne_3 A c w
 ·exact rOne_4 A c w
 ·exact rOne_5 A c w
theorem Qq8(ks:List Nat)(k:Int)(l:List Int)(A:Option Addr)(n c:Nat)(w:World)(hr:IntR w l A n c)(hrg:ringOf k l=some (.prod ks)):Calls prog 21 #[.agg #[.int .i64 k,.slice A n c]] w (RetZ (svZ,ks.map zeroK) w):=by
 have hrs:(ringOf k l).isSome=true:=by rw [hrg];rfl
 obtain⟨rfl,rfl,h2,h3,hk⟩:=Qdx hrg;obtain⟨hb0,c1,c2,c3⟩:=blk3 w [.int .i64 6,.slice A n c] [.bool false,.slice none 0 0,.slice none 0 0,.int .i64 0,.bool false,.int .u64 0,.slice none 0 0,.slice none 0 0] [.bool false,.slice none 0 0,.slice none 0 0,.int .i64 0,.bool false,.int .u64 0,.slice none 0 0,.slice none 0 0] 24 32 32;have hnl:n=ks.length:=by rw [hr.len,List.length_map]
 have HV:=hid (fun wa (hb:Below w.heap.size w wa)=>Qaq 6 _ A n c wa true (hr.below hb) (hid hrs));have HR:=hid hr;have HK0:=hid hk;have HNL:=hid (And.intro hnl (And.intro h2 h3));clear hr hrg hrs h2 h3 hk hnl;go_enter func21,ntmps21;go_wp2_with fail
 refine(HV.out _ hb0).mono ?_;rintro e0 w1 ⟨rfl,hb1⟩;replace hb0:=bt hb0 hb1;replace c1:=c1.below hb1 c1.lt;replace c2:=c2.below hb1 c2.lt;replace c3:=c3.below hb1 c3.lt;clear hb1 HV;have r0:=c1.cell (k:=0) rfl;obtain⟨a0,a1,a2,a3,a4,a5,a6,a7⟩:=c3.c8;obtain⟨f0,f1,f2,f3,f4,f5,f6,f7⟩:=c3.f8;go_wp2_with fail
 replace hb0:=hb0.setCell (p:=⟨w.heap.size+1+1,4,none⟩) (by simp;omega) (.bool false);replace c1:=c1.far (p:=⟨w.heap.size+1+1,4,none⟩) (by simp;omega) (.bool false);replace c2:=c2.far (p:=⟨w.heap.size+1+1,4,none⟩) (by simp) (.bool false);replace c3:=c3.set 4 (.bool false);generalize (w1.setCell ⟨w.heap.size+1+1,4,none⟩ (.bool false))=W0 at*
 have HC1:=hid c1;have HC2:=hid c2;have HC3:=hid c3;have HBB:=hid hb0;clear hb0 c1 c2 c3 r0 a0 a1 a2 a3 a4 a5 a6 a7 f0 f1 f2 f3 f4 f5 f6 f7
 go_loopw [4] (fun i wr=> ∃(k:Nat) (us:List SV) (vr:Value),k<=n/\i=.int .i64 (k:Int)/\Below w.heap.size w wr/\Hid (Cs wr w.heap.size [.int .i64 6,.slice A n c] 24)/\Hid (Cs wr (w.heap.size+1) [.bool false,.slice none 0 0,.slice none 0 0,.int .i64 0,.bool false,.int .u64 0,.slice none 0 0,.slice none 0 0] 32)/\Hid (Cs wr (w.heap.size+1+1) [.bool false,.slice none 0 0,.slice none 0 0,.int .i64 0,.bool false,.int .u64 0,.slice none 0 0,vr] 32)/\Hid (MInv ks (w.heap.size+3) k vr us wr)/\Hid (us=(ks.take k).map zeroK)) (fun i _=>(n-intOf i).toNat)
 case atStart=>exact⟨0,[],.slice none 0 0,zero_le _,rfl,HBB.out,HC1,HC2,HC3,hid (MInv.nil _ _ _),hid rfl⟩
 case round=>
  obtain⟨k,us,vr,hk,rfl,hb,C1,C2,C3,HM,HU⟩:=hrel;have hsz:w.heap.size+3<=wr.heap.size:=by have:=C3.out.lt;omega
  have HSZ:=hid hsz;by_cases hkn:k<n
  ·obtain⟨b,o,x,rfl,hbq,hx,hc⟩:=HR.out.at_ hkn
   obtain⟨kk,hkk,rfl⟩:=Qzq hx;have HKK:=hid hkk;have hk5:=HK0.out kk (List.mem_of_getElem? hkk);have hlt:(k:Int)<(n:Int):=(by omega);have h0i:¬(k:Int)<0:=(by omega);have hw1:IntKind.i64.wrap ((k:Int)+1)=(k:Int)+1:=IntWalk.i64_in _ (by have:=HNL.out;omega);have HBW:Hid (Below wr.heap.size wr wr.drew):=hid (Below.refl _ _).drew;have HB:=hid hb.drew;have HB0:=hid hb;have HOK:Hid (okK kk (zeroK kk)/\SzS 8 (zeroK kk)):=hid ⟨Qcx kk hk5.1 hk5.2,(Qga (L:=8) (by decide) (.one kk)).own⟩;have HPART:Hid (∀wx,Below wr.drew.heap.size wr.drew wx->Calls prog 48 #[.agg #[.int .i64 6,.slice (some ⟨b,o,none⟩) n c],.int .i64 (k:Int)] wx (RetV wx (.agg #[.int .i64 (kk:Int),.slice none 0 0]))):=hid (fun wx hB=>by
    have hbx:=bt HB.out hB;exact Qm3 6 _ b o k n c _ wx ((World.cell?_of_block (w:=w) (hbx.block b hbq)).trans hc) (Nat.lt_of_lt_of_le hbq hbx.size) hkn rfl)
   have HCALL:Hid (∀wx,Below wr.drew.heap.size wr.drew wx->Calls prog 21 #[.agg #[.int .i64 (kk:Int),.slice none 0 0]] wx (RetX 0 wx (dOf (zeroK kk)))):=hid (fun wx _=>Qux kk hk5 none 0 wx);have KX:Hid (∀wx,Below wr.drew.heap.size wr.drew wx->wx.cell? ⟨w.heap.size,0,none⟩=some (.int .i64 6)/\wx.cell? ⟨w.heap.size,1,none⟩=some (.slice (some ⟨b,o,none⟩) n c)/\wx.cell? ⟨w.heap.size+1+1,7,none⟩=some vr):=hid (fun wx hB=>⟨(C1.out.drew.below hB C1.out.lt).cell rfl,(C1.out.drew.below hB C1.out.lt).cell rfl,(C3.out.drew.below hB C3.out.lt).cell rfl⟩);have x1:=C1.out.cell (k:=1) rfl;have HKN:=hid hkn;have HK3:Hid (k<=3):=hid (by have:=HNL.out;omega);clear hkn hb hbq hx hc hk5 hsz hkk;go_wp2_with fail
   clear x1;refine Qan 7 (21::22::23::24::25::26::27::[]) (Sq.val (.pointer (some ⟨w.heap.size+1+1,7,none⟩))::Sq.val (vr)::Sq.val (.agg #[.int .i64 6,.slice (some ⟨b,o,none⟩) n c])::Sq.val (.int .i64 (k:Int))::Sq.val (.agg #[.int .i64 (kk:Int),.slice none 0 0])::Sq.st (fun w a=>WKz (zeroK kk) w a)::Sq.st (fun w a=>WKy (zeroK kk) w a)::[]) (by kernel_rfl) (by kernel_rfl) (by kernel_rfl) (by kernel_rfl) ?step 3 (by kernel_rfl) _ rfl ?fin
   case step=>
    intro i hi oi ho f wx hB hdep K hK;simp only [frontAct,zf1,zf2,zf3,zf4,zf5]at hK⊢;obtain⟨y0,y1,y2⟩:=KX.out wx hB;iterate 7 rcases lt_or_eq_of_le (le_of_lt_succ hi)with hi|rfl
    exact absurd hi (not_lt_zero _);all_goals
     obtain rfl:=Option.some.inj ho;clear ho;simp only [Act.put,zf3,zf4,zf5]at hK
    rotate_left
    have e21:=dv6 (hdep ⟨0,.data⟩ (by simp) rfl) rfl;simp only [zf6,zf7]at e21;generalize f 21=f21 at*;subst e21;rotate_left
    rotate_left
    rotate_left
    ·have e23:=dv6 (hdep ⟨2,.data⟩ (by simp) rfl) rfl
     have e24:=dv6 (hdep ⟨3,.data⟩ (by simp) rfl) rfl;simp only [zf6,zf7]at e23 e24;generalize f 23=f23 at*;subst e23;generalize f 24=f24 at*;subst e24;go_simp;refine(HPART.out wx hB).mono ?_;rintro e0 w' ⟨rfl,hb⟩;exact hK (.agg #[.int .i64 (kk:Int),.slice none 0 0]) w' (gv6 rfl) hb (bt hB hb) (nb6 rfl rfl)
    ·have e25:=dv6 (hdep ⟨4,.data⟩ (by simp) rfl) rfl
     simp only [zf6,zf7]at e25;generalize f 25=f25 at*;subst e25;go_simp;refine(HCALL.out wx hB).mono ?_;rintro e0 w' ⟨l,rfl,hl,hb⟩;exact hK (.agg l.toArray) w' (gs6 rfl (fun w2 h2=>⟨l,rfl,hl.rd.keep h2⟩)) hb (bt hB hb) (nb6 rfl rfl)
    ·have e26:=ds6 (hdep ⟨5,.data⟩ (by simp) rfl) rfl
     replace e26:=(show WKz (zeroK kk) wx (f 26)from e26);generalize f 26=f26 at*
     obtain⟨l,rfl,hl⟩:=e26;obtain⟨nx,A1,n1,c1,B1,m1,e1,kx,ix,sx,P1,p1,r1,Q1,q1,s1,rfl⟩:=hl.isW8;go_simp;exact hK (.slice (some ⟨wx.heap.size,0,none⟩) 1 1) (wx.alloc (.cells #[.bool nx,.slice A1 n1 c1,.slice B1 m1 e1,.int .i64 kx,.bool ix,.int .u64 sx,.slice P1 p1 r1,.slice Q1 q1 s1] 32)) (gs6 rfl (fun w2 h2=>⟨wx.heap.size,[.bool nx,.slice A1 n1 c1,.slice B1 m1 e1,.int .i64 kx,.bool ix,.int .u64 sx,.slice P1 p1 r1,.slice Q1 q1 s1],rfl,(Cs.new wx [.bool nx,.slice A1 n1 c1,.slice B1 m1 e1,.int .i64 kx,.bool ix,.int .u64 sx,.slice P1 p1 r1,.slice Q1 q1 s1] 32).below h2 (Cs.new wx [.bool nx,.slice A1 n1 c1,.slice B1 m1 e1,.int .i64 kx,.bool ix,.int .u64 sx,.slice P1 p1 r1,.slice Q1 q1 s1] 32).lt,(hl.keep ((Below.refl _ _).alloc (le_refl _) _)).keep h2⟩)) ((Below.refl _ _).alloc (le_refl _) _) (hB.alloc hB.size _) (nb6 rfl rfl)
    all_goals go_simp
    all_goals exact hK _ wx (gv6 rfl) (Below.refl _ _) hB (nb6 rfl rfl)
   case fin=>
    intro f wx hB hG hne;have eV:=dv6 (hG 1 (by decide)) rfl;have eS:WKy (zeroK kk) wx (f 27):=ds6 (hG 6 (by decide)) rfl;clear hG hne;simp only [frontAct,zf1,zf2,zf3,zf4,zf5];simp only [List.getD_cons_succ,List.getD_cons_zero]at eV;generalize f 22=f68 at*;subst eV;generalize f 27=f79 at*
    obtain⟨g,l,rfl,hg,hl⟩:=eS;obtain⟨nx,A1,n1,c1,B1,m1,e1,kx,ix,sx,P1,p1,r1,Q1,q1,s1,rfl⟩:=hl.isW8;have hbA:Below wr.heap.size wr wx:=bt HBW.out hB;have hm:=HM.out.below hbA;have hz5:wr.heap.size<=wx.heap.size:=hB.size;have hS:=HSZ.out;obtain⟨v',w5,hr5,hm5,hb5⟩:=hm.app (by omega) HK3.out HKK.out hg hl (by intro u hu;simp only [List.mem_cons,List.not_mem_nil,or_false]at hu;rcases hu with rfl|rfl|rfl|rfl|rfl|rfl|rfl|rfl<;>rfl) HOK.out.1 HOK.out.2;obtain⟨A5,n5,c5,rfl⟩:=hm5.sl;have HRUN:=hid hr5;have HM5:=hid hm5;have hx5:Below w.heap.size w w5:=(bt HB0.out hbA).trans (hb5.mono (by omega));have HB5:=hid hx5;have HC1:=hid ((C1.out.below hbA C1.out.lt).below hb5 (by omega));have HC2:=hid ((C2.out.below hbA C2.out.lt).below hb5 (by omega));have hc3:=(C3.out.below hbA C3.out.lt).below hb5 (by omega);have hf7:=hc3.frozen 7;have hc7:=hc3.cell (k:=7) rfl;have HC3:=hid hc3;clear hr5 hm5 hb5 hm hbA hl hg hx5 hc3 hS hz5;refine wpAny_ready (rs:=[7]) (by kernel_rfl) (by simp) ?_;refine AllReady.cons rfl (fun K hK=>?_) AllReady.nil;refine Qm1 rfl (.tmp 22) (.tmp 27) rfl rfl _ _ _ _ rfl rfl HRUN (hK _ _ ?_);clear hK K;refine wpAny_ready (rs:=[8]) (by kernel_rfl) (by simp) ?_;refine AllReady.cons rfl (fun K hK=>?_) AllReady.nil;have HQ:=hid hK;clear hK;go_simp;refine HQ.out _ _ ?_;clear HQ K;refine wpAny_ready (rs:=[9]) (by kernel_rfl) (by simp) ?_;refine AllReady.cons rfl (fun K hK=>?_) AllReady.nil;have HQ:=hid hK;clear hK;go_simp;refine HQ.out _ _ ?_;clear HQ K;refine wpAny_done (by kernel_rfl) ?_ _;have hkn1:=HKN.out;go_wp2_with fail
    refine⟨⟨k+1,us++[zeroK kk],.slice A5 n5 c5,HKN.out,congrArg (Value.int _) (by omega),Qbk (by omega) [.slice A5 n5 c5] 7 HB5.out,hid (Cs.farL (by omega) [.slice A5 n5 c5] 7 HC1.out),hid (Cs.farL (by omega) [.slice A5 n5 c5] 7 HC2.out),hid (HC3.out.set 7 (.slice A5 n5 c5)),hid ?_,hid ?_⟩,by simp [intOf];omega⟩
    ·obtain⟨A6,n6,c6,rfl⟩:=HM.out.sl
     exact HM5.out.far (Wch.set (B:=0) (S:=w.heap.size+3) HC3.out (Qkd ⟨_,_,_,_,_,_,_,_,_,_,_,_,_,_,_,_,rfl⟩) (zero_le _) (by omega) 7 (.slice A5 n5 c5)) (le_refl _)
    ·rw [HU.out,List.take_add_one,HKK.out,List.map_append];rfl
  ·obtain rfl:k=n:=by omega
   have hlt:¬(k:Int)<(k:Int):=(by omega);obtain⟨A2,n2,c2,rfl⟩:=HM.out.sl;have x1:=C1.out.cell (k:=1) rfl;obtain⟨a0,a1,a2,a3,a4,a5,a6,a7⟩:=C3.out.c8;obtain⟨f0,f1,f2,f3,f4,f5,f6,f7⟩:=C2.out.f8;obtain⟨z0,z1,z2,z3,z4,z5,z6,z7⟩:=C2.out.c8;have HB:=hid hb;clear hb hsz;go_wp2_with fail
   refine Qak (l:=[.bool false,.slice none 0 0,.slice none 0 0,.int .i64 0,.bool false,.int .u64 0,.slice none 0 0,.slice A2 n2 c2]) results21 underlying32 (by kernel_rfl) rfl (Qaj C2.out rfl _ _ _ _ _ _ _ _) rfl ?_;have hnl:=HNL.out;have hu:=HU.out;rw [List.take_of_length_le (by omega)]at hu;rw [<-hu];refine⟨_,rfl,⟨_,rfl,?_⟩,Qam HB.out (by omega) _ _ _ _ _ _ _ _⟩;exact(HM.out.far (Wch.s8 (B:=0) (S:=w.heap.size+3) C2.out Qbi (zero_le _) (by omega) _ _ _ _ _ _ _ _) (le_refl _)).done' (by omega)
theorem Quy(ks:List Nat)(k:Int)(l:List Int)(A:Option Addr)(n c:Nat)(w:World)(hr:IntR w l A n c)(hrg:ringOf k l=some (.prod ks)):Calls prog 23 #[.agg #[.int .i64 k,.slice A n c]] w (RetZ (svZ,ks.map oneK) w):=by
 have hrs:(ringOf k l).isSome=true:=by rw [hrg];rfl
 obtain⟨rfl,rfl,h2,h3,hk⟩:=Qdx hrg;obtain⟨hb0,c1,c2,c3⟩:=blk3 w [.int .i64 6,.slice A n c] [.bool false,.slice none 0 0,.slice none 0 0,.int .i64 0,.bool false,.int .u64 0,.slice none 0 0,.slice none 0 0] [.bool false,.slice none 0 0,.slice none 0 0,.int .i64 0,.bool false,.int .u64 0,.slice none 0 0,.slice none 0 0] 24 32 32;have hnl:n=ks.length:=by rw [hr.len,List.length_map]
 have HV:=hid (fun wa (hb:Below w.heap.size w wa)=>Qaq 6 _ A n c wa true (hr.below hb) (hid hrs));have HR:=hid hr;have HK0:=hid hk;have HNL:=hid (And.intro hnl (And.intro h2 h3));clear hr hrg hrs h2 h3 hk hnl;go_enter func23,ntmps23;go_wp2_with fail
 refine(HV.out _ hb0).mono ?_;rintro e0 w1 ⟨rfl,hb1⟩;replace hb0:=bt hb0 hb1;replace c1:=c1.below hb1 c1.lt;replace c2:=c2.below hb1 c2.lt;replace c3:=c3.below hb1 c3.lt;clear hb1 HV;have r0:=c1.cell (k:=0) rfl;obtain⟨a0,a1,a2,a3,a4,a5,a6,a7⟩:=c3.c8;obtain⟨f0,f1,f2,f3,f4,f5,f6,f7⟩:=c3.f8;go_wp2_with fail
 generalize w1=W0 at*
 have HC1:=hid c1;have HC2:=hid c2;have HC3:=hid c3;have HBB:=hid hb0;clear hb0 c1 c2 c3 r0 a0 a1 a2 a3 a4 a5 a6 a7 f0 f1 f2 f3 f4 f5 f6 f7
 go_loopw [4] (fun i wr=> ∃(k:Nat) (us:List SV) (vr:Value),k<=n/\i=.int .i64 (k:Int)/\Below w.heap.size w wr/\Hid (Cs wr w.heap.size [.int .i64 6,.slice A n c] 24)/\Hid (Cs wr (w.heap.size+1) [.bool false,.slice none 0 0,.slice none 0 0,.int .i64 0,.bool false,.int .u64 0,.slice none 0 0,.slice none 0 0] 32)/\Hid (Cs wr (w.heap.size+1+1) [.bool false,.slice none 0 0,.slice none 0 0,.int .i64 0,.bool false,.int .u64 0,.slice none 0 0,vr] 32)/\Hid (MInv ks (w.heap.size+3) k vr us wr)/\Hid (us=(ks.take k).map oneK)) (fun i _=>(n-intOf i).toNat)
 case atStart=>exact⟨0,[],.slice none 0 0,zero_le _,rfl,HBB.out,HC1,HC2,HC3,hid (MInv.nil _ _ _),hid rfl⟩
 case round=>
  obtain⟨k,us,vr,hk,rfl,hb,C1,C2,C3,HM,HU⟩:=hrel;have hsz:w.heap.size+3<=wr.heap.size:=by have:=C3.out.lt;omega
  have HSZ:=hid hsz;by_cases hkn:k<n
  ·obtain⟨b,o,x,rfl,hbq,hx,hc⟩:=HR.out.at_ hkn
   obtain⟨kk,hkk,rfl⟩:=Qzq hx;have HKK:=hid hkk;have hk5:=HK0.out kk (List.mem_of_getElem? hkk);have hlt:(k:Int)<(n:Int):=(by omega);have h0i:¬(k:Int)<0:=(by omega);have hw1:IntKind.i64.wrap ((k:Int)+1)=(k:Int)+1:=IntWalk.i64_in _ (by have:=HNL.out;omega);have HBW:Hid (Below wr.heap.size wr wr.drew):=hid (Below.refl _ _).drew;have HB:=hid hb.drew;have HB0:=hid hb;have HOK:Hid (okK kk (oneK kk)/\SzS 8 (oneK kk)):=hid ⟨Qsq kk hk5.1 hk5.2,(Qn7 (L:=8) (by decide) (r:=.one kk) hk5).own⟩;have HPART:Hid (∀wx,Below wr.drew.heap.size wr.drew wx->Calls prog 48 #[.agg #[.int .i64 6,.slice (some ⟨b,o,none⟩) n c],.int .i64 (k:Int)] wx (RetV wx (.agg #[.int .i64 (kk:Int),.slice none 0 0]))):=hid (fun wx hB=>by
    have hbx:=bt HB.out hB;exact Qm3 6 _ b o k n c _ wx ((World.cell?_of_block (w:=w) (hbx.block b hbq)).trans hc) (Nat.lt_of_lt_of_le hbq hbx.size) hkn rfl)
   have HCALL:Hid (∀wx,Below wr.drew.heap.size wr.drew wx->Calls prog 23 #[.agg #[.int .i64 (kk:Int),.slice none 0 0]] wx (RetX 0 wx (dOf (oneK kk)))):=hid (fun wx _=>Qxr kk hk5 none 0 wx);have KX:Hid (∀wx,Below wr.drew.heap.size wr.drew wx->wx.cell? ⟨w.heap.size,0,none⟩=some (.int .i64 6)/\wx.cell? ⟨w.heap.size,1,none⟩=some (.slice (some ⟨b,o,none⟩) n c)/\wx.cell? ⟨w.heap.size+1+1,7,none⟩=some vr):=hid (fun wx hB=>⟨(C1.out.drew.below hB C1.out.lt).cell rfl,(C1.out.drew.below hB C1.out.lt).cell rfl,(C3.out.drew.below hB C3.out.lt).cell rfl⟩);have x1:=C1.out.cell (k:=1) rfl;have HKN:=hid hkn;have HK3:Hid (k<=3):=hid (by have:=HNL.out;omega);clear hkn hb hbq hx hc hk5 hsz hkk;go_wp2_with fail
   clear x1;refine Qan 7 (32::33::34::35::36::37::38::[]) (Sq.val (.pointer (some ⟨w.heap.size+1+1,7,none⟩))::Sq.val (vr)::Sq.val (.agg #[.int .i64 6,.slice (some ⟨b,o,none⟩) n c])::Sq.val (.int .i64 (k:Int))::Sq.val (.agg #[.int .i64 (kk:Int),.slice none 0 0])::Sq.st (fun w a=>WKz (oneK kk) w a)::Sq.st (fun w a=>WKy (oneK kk) w a)::[]) (by kernel_rfl) (by kernel_rfl) (by kernel_rfl) (by kernel_rfl) ?step 3 (by kernel_rfl) _ rfl ?fin
   case step=>
    intro i hi oi ho f wx hB hdep K hK;simp only [frontAct,zf1,zf2,zf3,zf4,zf5]at hK⊢;obtain⟨y0,y1,y2⟩:=KX.out wx hB;iterate 7 rcases lt_or_eq_of_le (le_of_lt_succ hi)with hi|rfl
    exact absurd hi (not_lt_zero _);all_goals
     obtain rfl:=Option.some.inj ho;clear ho;simp only [Act.put,zf3,zf4,zf5]at hK
    rotate_left
    have e32:=dv6 (hdep ⟨0,.data⟩ (by simp) rfl) rfl;simp only [zf6,zf7]at e32;generalize f 32=f32 at*;subst e32;rotate_left
    rotate_left
    rotate_left
    ·have e34:=dv6 (hdep ⟨2,.data⟩ (by simp) rfl) rfl
     have e35:=dv6 (hdep ⟨3,.data⟩ (by simp) rfl) rfl;simp only [zf6,zf7]at e34 e35;generalize f 34=f34 at*;subst e34;generalize f 35=f35 at*;subst e35;go_simp;refine(HPART.out wx hB).mono ?_;rintro e0 w' ⟨rfl,hb⟩;exact hK (.agg #[.int .i64 (kk:Int),.slice none 0 0]) w' (gv6 rfl) hb (bt hB hb) (nb6 rfl rfl)
    ·have e36:=dv6 (hdep ⟨4,.data⟩ (by simp) rfl) rfl
     simp only [zf6,zf7]at e36;generalize f 36=f36 at*;subst e36;go_simp;refine(HCALL.out wx hB).mono ?_;rintro e0 w' ⟨l,rfl,hl,hb⟩;exact hK (.agg l.toArray) w' (gs6 rfl (fun w2 h2=>⟨l,rfl,hl.rd.keep h2⟩)) hb (bt hB hb) (nb6 rfl rfl)
    ·have e37:=ds6 (hdep ⟨5,.data⟩ (by simp) rfl) rfl
     replace e37:=(show WKz (oneK kk) wx (f 37)from e37);generalize f 37=f37 at*
     obtain⟨l,rfl,hl⟩:=e37;obtain⟨nx,A1,n1,c1,B1,m1,e1,kx,ix,sx,P1,p1,r1,Q1,q1,s1,rfl⟩:=hl.isW8;go_simp;exact hK (.slice (some ⟨wx.heap.size,0,none⟩) 1 1) (wx.alloc (.cells #[.bool nx,.slice A1 n1 c1,.slice B1 m1 e1,.int .i64 kx,.bool ix,.int .u64 sx,.slice P1 p1 r1,.slice Q1 q1 s1] 32)) (gs6 rfl (fun w2 h2=>⟨wx.heap.size,[.bool nx,.slice A1 n1 c1,.slice B1 m1 e1,.int .i64 kx,.bool ix,.int .u64 sx,.slice P1 p1 r1,.slice Q1 q1 s1],rfl,(Cs.new wx [.bool nx,.slice A1 n1 c1,.slice B1 m1 e1,.int .i64 kx,.bool ix,.int .u64 sx,.slice P1 p1 r1,.slice Q1 q1 s1] 32).below h2 (Cs.new wx [.bool nx,.slice A1 n1 c1,.slice B1 m1 e1,.int .i64 kx,.bool ix,.int .u64 sx,.slice P1 p1 r1,.slice Q1 q1 s1] 32).lt,(hl.keep ((Below.refl _ _).alloc (le_refl _) _)).keep h2⟩)) ((Below.refl _ _).alloc (le_refl _) _) (hB.alloc hB.size _) (nb6 rfl rfl)
    all_goals go_simp
    all_goals exact hK _ wx (gv6 rfl) (Below.refl _ _) hB (nb6 rfl rfl)
   case fin=>
    intro f wx hB hG hne;have eV:=dv6 (hG 1 (by decide)) rfl;have eS:WKy (oneK kk) wx (f 38):=ds6 (hG 6 (by decide)) rfl;clear hG hne;simp only [frontAct,zf1,zf2,zf3,zf4,zf5];simp only [List.getD_cons_succ,List.getD_cons_zero]at eV;generalize f 33=f68 at*;subst eV;generalize f 38=f79 at*
    obtain⟨g,l,rfl,hg,hl⟩:=eS;obtain⟨nx,A1,n1,c1,B1,m1,e1,kx,ix,sx,P1,p1,r1,Q1,q1,s1,rfl⟩:=hl.isW8;have hbA:Below wr.heap.size wr wx:=bt HBW.out hB;have hm:=HM.out.below hbA;have hz5:wr.heap.size<=wx.heap.size:=hB.size;have hS:=HSZ.out;obtain⟨v',w5,hr5,hm5,hb5⟩:=hm.app (by omega) HK3.out HKK.out hg hl (by intro u hu;simp only [List.mem_cons,List.not_mem_nil,or_false]at hu;rcases hu with rfl|rfl|rfl|rfl|rfl|rfl|rfl|rfl<;>rfl) HOK.out.1 HOK.out.2;obtain⟨A5,n5,c5,rfl⟩:=hm5.sl;have HRUN:=hid hr5;have HM5:=hid hm5;have hx5:Below w.heap.size w w5:=(bt HB0.out hbA).trans (hb5.mono (by omega));have HB5:=hid hx5;have HC1:=hid ((C1.out.below hbA C1.out.lt).below hb5 (by omega));have HC2:=hid ((C2.out.below hbA C2.out.lt).below hb5 (by omega));have hc3:=(C3.out.below hbA C3.out.lt).below hb5 (by omega);have hf7:=hc3.frozen 7;have hc7:=hc3.cell (k:=7) rfl;have HC3:=hid hc3;clear hr5 hm5 hb5 hm hbA hl hg hx5 hc3 hS hz5;refine wpAny_ready (rs:=[7]) (by kernel_rfl) (by simp) ?_;refine AllReady.cons rfl (fun K hK=>?_) AllReady.nil;refine Qm1 rfl (.tmp 33) (.tmp 38) rfl rfl _ _ _ _ rfl rfl HRUN (hK _ _ ?_);clear hK K;refine wpAny_ready (rs:=[8]) (by kernel_rfl) (by simp) ?_;refine AllReady.cons rfl (fun K hK=>?_) AllReady.nil;have HQ:=hid hK;clear hK;go_simp;refine HQ.out _ _ ?_;clear HQ K;refine wpAny_ready (rs:=[9]) (by kernel_rfl) (by simp) ?_;refine AllReady.cons rfl (fun K hK=>?_) AllReady.nil;have HQ:=hid hK;clear hK;go_simp;refine HQ.out _ _ ?_;clear HQ K;refine wpAny_done (by kernel_rfl) ?_ _;have hkn1:=HKN.out;go_wp2_with fail
    refine⟨⟨k+1,us++[oneK kk],.slice A5 n5 c5,HKN.out,congrArg (Value.int _) (by omega),Qbk (by omega) [.slice A5 n5 c5] 7 HB5.out,hid (Cs.farL (by omega) [.slice A5 n5 c5] 7 HC1.out),hid (Cs.farL (by omega) [.slice A5 n5 c5] 7 HC2.out),hid (HC3.out.set 7 (.slice A5 n5 c5)),hid ?_,hid ?_⟩,by simp [intOf];omega⟩
    ·obtain⟨A6,n6,c6,rfl⟩:=HM.out.sl
     exact HM5.out.far (Wch.set (B:=0) (S:=w.heap.size+3) HC3.out (Qkd ⟨_,_,_,_,_,_,_,_,_,_,_,_,_,_,_,_,rfl⟩) (zero_le _) (by omega) 7 (.slice A5 n5 c5)) (le_refl _)
    ·rw [HU.out,List.take_add_one,HKK.out,List.map_append];rfl
  ·obtain rfl:k=n:=by omega
   have hlt:¬(k:Int)<(k:Int):=(by omega);obtain⟨A2,n2,c2,rfl⟩:=HM.out.sl;have x1:=C1.out.cell (k:=1) rfl;obtain⟨a0,a1,a2,a3,a4,a5,a6,a7⟩:=C3.out.c8;obtain⟨f0,f1,f2,f3,f4,f5,f6,f7⟩:=C2.out.f8;obtain⟨z0,z1,z2,z3,z4,z5,z6,z7⟩:=C2.out.c8;have HB:=hid hb;clear hb hsz;go_wp2_with fail
   refine Qak (l:=[.bool false,.slice none 0 0,.slice none 0 0,.int .i64 0,.bool false,.int .u64 0,.slice none 0 0,.slice A2 n2 c2]) results23 underlying32 (by kernel_rfl) rfl (Qaj C2.out rfl _ _ _ _ _ _ _ _) rfl ?_;have hnl:=HNL.out;have hu:=HU.out;rw [List.take_of_length_le (by omega)]at hu;rw [<-hu];refine⟨_,rfl,⟨_,rfl,?_⟩,Qam HB.out (by omega) _ _ _ _ _ _ _ _⟩;exact(HM.out.far (Wch.s8 (B:=0) (S:=w.heap.size+3) C2.out Qbi (zero_le _) (by omega) _ _ _ _ _ _ _ _) (le_refl _)).done' (by omega)
theorem Qzr(r:Rg)(k:Int)(l:List Int)(A:Option Addr)(n c:Nat)(w:World)(h:IntR w l A n c)(hr:ringOf k l=some r):Calls prog 21 #[.agg #[.int .i64 k,.slice A n c]] w (RetZ (zeroR r) w):=by
 cases r with
 |one j=>
  obtain⟨rfl,rfl,j1,j5⟩:=Qes hr;obtain rfl:n=0:=h.len;exact(Qux j ⟨j1,j5⟩ A c w).mono fun _ _ h=>RetX.z h
 |prod ks=>exact Qq8 ks k l A n c w h hr
theorem rOne_o(r:Rg)(k:Int)(l:List Int)(A:Option Addr)(n c:Nat)(w:World)(h:IntR w l A n c)(hr:ringOf k l=some r):Calls prog 23 #[.agg #[.int .i64 k,.slice A n c]] w (RetZ (oneR r) w):=by
 cases r with
 |one j=>
  obtain⟨rfl,rfl,j1,j5⟩:=Qes hr;obtain rfl:n=0:=h.len;exact(Qxr j ⟨j1,j5⟩ A c w).mono fun _ _ h=>RetX.z h
 |prod ks=>exact Quy ks k l A n c w h hr
def RetVD(D:WD)(w0:World)(e:Ending)(w':World):Prop:=∃v,e=.returned v/\VD D w' v/\Below w0.heap.size w0 w'
theorem RetX.d{D:WD}{w0:World}{e:Ending}{w':World}(h:RetX 0 w0 D e w'):RetVD D w0 e w':=by
 obtain⟨l,e,h1,h2⟩:=h;exact⟨_,e,⟨l,rfl,h1.rd⟩,h2⟩
theorem Quz{D:WD}(hD:SzE D)(w:World)(u v:Value)(hu:VD D w u)(hv:VD D w v):Calls prog 19 #[u,v] w (RetV w (.bool true)):=by
 obtain⟨lx,rfl,h1⟩:=hu;obtain⟨ly,rfl,h2⟩:=hv;exact Qex D D lx ly w true h1 h2 hD hD (hid (Qg7 _))
def dRing(k:Int)(l:List Int)(f:Rg->CW):WD:=match ringOf k l with|some r=>dOfW (f r)|none=>blankD
theorem Qcj{k:Int}{l:List Int}{f:Rg->CW}{r:Rg}(h:ringOf k l=some r):dRing k l f=dOfW (f r):=by unfold dRing;rw [h]
theorem Qck{k:Int}{l:List Int}{f:Rg->CW}(h:ringOf k l=none):dRing k l f=blankD:=by unfold dRing;rw [h]
theorem Qu0(k:Int)(l:List Int):SzE (dRing k l zeroR):=by
 cases h:ringOf k l with
 |none=>rw [Qck h];exact Qh0
 |some r=>rw [Qcj h];exact(Fit.szk (Qbp h) ⟨Qca (Qbp h),Qga (by decide) r⟩).sze
theorem Qw1(k:Int)(l:List Int):SzE (dRing k l oneR):=by
 cases h:ringOf k l with
 |none=>rw [Qck h];exact Qh0
 |some r=>rw [Qcj h];exact(Fit.szk (Qbp h) ⟨Qst (Qbp h),Qn7 (by decide) (Qbp h)⟩).sze
section
variable {k:Int} {l:List Int} {A:Option Addr} {n c:Nat} {w:World} (hT:Tab w) (h:IntR w l A n c)
include hT h
theorem Zero_D:Calls prog 20 #[.agg #[.int .i64 k,.slice A n c]] w (RetVD (dRing k l zeroR) w):=by
 cases e:ringOf k l with
 |none=>rw [Qck e];exact(Qt9 Qbs k l A n c w h (by rw [e];rfl)).mono fun _ _ h=>RetX.d h
 |some r=>rw [Qcj e];exact(Qxq Qbs r k l A n c w hT h e).mono fun _ _ h=>RetX.d h
theorem One_D:Calls prog 22 #[.agg #[.int .i64 k,.slice A n c]] w (RetVD (dRing k l oneR) w):=by
 cases e:ringOf k l with
 |none=>rw [Qck e];exact(Qwp Qbs k l A n c w h (by rw [e];rfl)).mono fun _ _ h=>RetX.d h
 |some r=>rw [Qcj e];exact(One_o Qbs r k l A n c w hT h e).mono fun _ _ h=>RetX.d h
omit hT
theorem Qzs:Calls prog 21 #[.agg #[.int .i64 k,.slice A n c]] w (RetVD (dRing k l zeroR) w):=by
 cases e:ringOf k l with
 |none=>rw [Qck e];exact(Qq6 k l A n c w h (by rw [e];rfl)).mono fun _ _ h=>RetX.d h
 |some r=>rw [Qcj e];exact Qzr r k l A n c w h e
theorem rOne_D:Calls prog 23 #[.agg #[.int .i64 k,.slice A n c]] w (RetVD (dRing k l oneR) w):=by
 cases e:ringOf k l with
 |none=>rw [Qck e];exact(Quq k l A n c w h (by rw [e];rfl)).mono fun _ _ h=>RetX.d h
 |some r=>rw [Qcj e];exact rOne_o r k l A n c w h e
end
noncomputable def chkB(k:Int)(l:List Int)(d:WD):Bool:=match ringOf k l with|some r=>tv (chkR r d)|none=>false
theorem Qzt{k:Int}{l:List Int}{A:Option Addr}{n c:Nat}{w:World}{d:WD}{x:List Value}(hT:Tab w)(h:IntR w l A n c)(hx:WRd w x d)(sd:SzK d){V:Bool}(hV:chkB k l d=V):Calls prog 16 #[.agg #[.int .i64 k,.slice A n c],.agg x.toArray] w (RetV w (.bool V)):=by
 subst hV;unfold chkB;cases e:ringOf k l with
 |none=>exact Qqx k l A n c w h (by rw [e];rfl) d x hx
 |some r=>exact Qua Qbs r k l A n c w hT h e d x _ hx sd (hid rfl)
theorem Qw2{k:Int}{l:List Int}{A:Option Addr}{n c:Nat}{w:World}{d:WD}{x:List Value}(h:IntR w l A n c)(hx:WRd w x d)(sd:SzK d){V:Bool}(hV:chkB k l d=V):Calls prog 17 #[.agg #[.int .i64 k,.slice A n c],.agg x.toArray] w (RetV w (.bool V)):=by
 subst hV;unfold chkB;cases e:ringOf k l with
 |none=>exact Qn9 k l A n c w h (by rw [e];rfl) d x hx
 |some r=>exact Qpl r k l A n c w h e d x _ hx sd (hid rfl)
theorem Qq9(k:Int)(l:List Int)(A:Option Addr)(n c:Nat)(k9:Int)(l9:List Int)(A9:Option Addr)(n9 c9:Nat)(d d2:WD)(x y:List Value)(w:World)(hT:Txt w)(h:IntR w l A n c)(h9:IntR w l9 A9 n9 c9)(hx:WRd w x d)(hy:WRd w y d2)(bd:bits d)(bd2:bits d2):Calls prog 3 #[.agg #[.int .i64 k,.slice A n c],.agg #[.int .i64 k9,.slice A9 n9 c9],.agg x.toArray,.agg y.toArray] w (RetV w (.bool true)):=by
 have HT:=hid hT;have HX:=hid hx;have HY:=hid hy;have HI:=hid h;have HI9:=hid h9;obtain⟨A1,n1,c1,B1,m1,e1,P1,p1,r1,Q1,q1,s1,rfl,_⟩:=hx.shape;obtain⟨A2,n2,c2,B2,m2,e2,P2,p2,r2,Q2,q2,s2,rfl,_⟩:=hy.shape;show Calls _ _ #[_,_,.agg #[.bool d.neg,.slice A1 n1 c1,.slice B1 m1 e1,.int .i64 d.c,.bool d.i,.int .u64 d.s,.slice P1 p1 r1,.slice Q1 q1 s1],.agg #[.bool d2.neg,.slice A2 n2 c2,.slice B2 m2 e2,.int .i64 d2.c,.bool d2.i,.int .u64 d2.s,.slice P2 p2 r2,.slice Q2 q2 s2]] _ _;obtain⟨hb0,k1,k2,k3,k4⟩:=blk4 w [.int .i64 k,.slice A n c] [.int .i64 k9,.slice A9 n9 c9] [.bool d.neg,.slice A1 n1 c1,.slice B1 m1 e1,.int .i64 d.c,.bool d.i,.int .u64 d.s,.slice P1 p1 r1,.slice Q1 q1 s1] [.bool d2.neg,.slice A2 n2 c2,.slice B2 m2 e2,.int .i64 d2.c,.bool d2.i,.int .u64 d2.s,.slice P2 p2 r2,.slice Q2 q2 s2] 24 24 32 32;obtain⟨V1,hV1⟩:∃V,tv (l.length<=6/\lgtD d/\lgtD d2)=V:=⟨_,rfl⟩;obtain⟨V2,hV2⟩:∃V,decide (l9.length<=6)=V:=⟨_,rfl⟩;have HV1:=hid hV1;have HV2:=hid hV2;have HC:=hid (Qms k l A n c d d2 _ _ _ V1 (h.below hb0) (hx.keep hb0) (hy.keep hb0) HV1);clear hT h h9 hx hy bd bd2 hV1 hV2;have g0:=k1.cell (k:=0) rfl;have g1:=k1.cell (k:=1) rfl;obtain⟨x0,x1,x2,x3,x4,x5,x6,x7⟩:=k3.c8;obtain⟨y0,y1,y2,y3,y4,y5,y6,y7⟩:=k4.c8;go_enter func3,ntmps3;go_wp2_with fail
 refine HC.out.mono ?_;rintro e0 w1 ⟨rfl,hb1⟩;replace hb0:=bt hb0 hb1;replace k1:=k1.below hb1 k1.lt;replace k2:=k2.below hb1 k2.lt;replace k3:=k3.below hb1 k3.lt;replace k4:=k4.below hb1 k4.lt;clear hb1 HC g0 g1 x0 x1 x2 x3 x4 x5 x6 x7 y0 y1 y2 y3 y4 y5 y6 y7;have HBB:=hid hb0;cases V1
 ·clear k1 k2 k3 k4 hb0
  go_wp2_with fail
  refine(Qd0 _ (HT.out.below HBB.out)).mono ?_;rintro e0 w9 ⟨rfl,hb1⟩;have HEND:=hid (bt HBB.out hb1);go_wp2_with fail
  go_ret;exact⟨rfl,HEND.out⟩
 obtain⟨hl6,hld,hld2⟩:=Qce.1 HV1.out;have SD:Hid (SzK d/\SzK d2):=hid ⟨hld.szd.up (by decide) (by decide),hld2.szd.up (by decide) (by decide)⟩;have HL6:Hid (n<=1000):=hid (by rw [HI.out.len];omega);clear hl6 hld hld2 HV1;have g0:=k2.cell (k:=0) rfl;have g1:=k2.cell (k:=1) rfl;have HC:=hid (Qf8 k9 l9 A9 n9 c9 w1 V2 (HI9.out.below hb0) HV2);go_wp2_with fail
 refine HC.out.mono ?_;rintro e0 w2 ⟨rfl,hb1⟩;replace hb0:=bt hb0 hb1;replace k1:=k1.below hb1 k1.lt;replace k2:=k2.below hb1 k2.lt;replace k3:=k3.below hb1 k3.lt;replace k4:=k4.below hb1 k4.lt;clear hb1 HC g0 g1;replace HBB:=hid hb0;cases V2
 ·clear k1 k2 k3 k4 hb0
  go_wp2_with fail
  refine(Qd0 _ (HT.out.below HBB.out)).mono ?_;rintro e0 w9 ⟨rfl,hb1⟩;have HEND:=hid (bt HBB.out hb1);go_wp2_with fail
  go_ret;exact⟨rfl,HEND.out⟩
 have HBW:=hid hb0.drew;have HK1:=hid k1;have HK2:=hid k2;have HK3:=hid k3;have HK4:=hid k4;clear k1 k2 k3 k4 hb0 HBB HV2;go_wp2_with fail
 obtain⟨Bv,hBv⟩:∃V,(ringOf k l).isSome=V:=⟨_,rfl⟩;obtain⟨Bs,hBs⟩:∃V,sameB k k9 l l9=V:=⟨_,rfl⟩;obtain⟨Bc,hBc⟩:∃V,chkB k l d=V:=⟨_,rfl⟩;obtain⟨Be,hBe⟩:∃V,eqD d d2=V:=⟨_,rfl⟩;obtain⟨DZ,hDZ⟩:∃D,dRing k l zeroR=D:=⟨_,rfl⟩;obtain⟨DO,hDO⟩:∃D,dRing k l oneR=D:=⟨_,rfl⟩;have GV:=hid hBv;have GS:=hid hBs;have GC:=hid hBc;have GE:=hid hBe;have HBX:Hid (∀wx,Below w2.drew.heap.size w2.drew wx->Below w.heap.size w wx):=hid (fun wx hB=>bt HBW.out hB);have KX:Hid (∀wx,Below w2.drew.heap.size w2.drew wx->(wx.cell? ⟨w.heap.size,0,none⟩=some (.int .i64 k)/\wx.cell? ⟨w.heap.size,1,none⟩=some (.slice A n c))/\(wx.cell? ⟨w.heap.size+1,0,none⟩=some (.int .i64 k9)/\wx.cell? ⟨w.heap.size+1,1,none⟩=some (.slice A9 n9 c9))/\At8 wx (w.heap.size+2) 0 (.bool d.neg) (.slice A1 n1 c1) (.slice B1 m1 e1) (.int .i64 d.c) (.bool d.i) (.int .u64 d.s) (.slice P1 p1 r1) (.slice Q1 q1 s1)/\At8 wx (w.heap.size+3) 0 (.bool d2.neg) (.slice A2 n2 c2) (.slice B2 m2 e2) (.int .i64 d2.c) (.bool d2.i) (.int .u64 d2.s) (.slice P2 p2 r2) (.slice Q2 q2 s2)):=hid (fun wx hB=>⟨⟨(HK1.out.drew.below hB HK1.out.lt).cell rfl,(HK1.out.drew.below hB HK1.out.lt).cell rfl⟩,⟨(HK2.out.drew.below hB HK2.out.lt).cell rfl,(HK2.out.drew.below hB HK2.out.lt).cell rfl⟩,(HK3.out.drew.below hB HK3.out.lt).c8,(HK4.out.drew.below hB HK4.out.lt).c8⟩);have HVA:Hid (∀wx,Below w2.drew.heap.size w2.drew wx->Calls prog 12 #[.agg #[.int .i64 k,.slice A n c]] wx (RetV wx (.bool Bv))):=hid (fun wx hB=>Qkr k l A n c wx Bv (HI.out.below (HBX.out wx hB)) GV);have HVB:Hid (∀wx,Below w2.drew.heap.size w2.drew wx->Calls prog 13 #[.agg #[.int .i64 k,.slice A n c]] wx (RetV wx (.bool Bv))):=hid (fun wx hB=>Qaq k l A n c wx Bv (HI.out.below (HBX.out wx hB)) GV);have HSA:Hid (∀wx,Below w2.drew.heap.size w2.drew wx->Calls prog 14 #[.agg #[.int .i64 k,.slice A n c],.agg #[.int .i64 k9,.slice A9 n9 c9]] wx (RetV wx (.bool Bs))):=hid (fun wx hB=>Same_o k k9 l l9 A A9 n c n9 c9 wx Bs (HI.out.below (HBX.out wx hB)) (HI9.out.below (HBX.out wx hB)) HL6.out GS);have HSB:Hid (∀wx,Below w2.drew.heap.size w2.drew wx->Calls prog 15 #[.agg #[.int .i64 k,.slice A n c],.agg #[.int .i64 k9,.slice A9 n9 c9]] wx (RetV wx (.bool Bs))):=hid (fun wx hB=>Qza k k9 l l9 A A9 n c n9 c9 wx Bs (HI.out.below (HBX.out wx hB)) (HI9.out.below (HBX.out wx hB)) HL6.out GS);have HCA:Hid (∀wx,Below w2.drew.heap.size w2.drew wx->Calls prog 16 #[.agg #[.int .i64 k,.slice A n c],.agg #[.bool d.neg,.slice A1 n1 c1,.slice B1 m1 e1,.int .i64 d.c,.bool d.i,.int .u64 d.s,.slice P1 p1 r1,.slice Q1 q1 s1]] wx (RetV wx (.bool Bc))):=hid (fun wx hB=>Qzt (HT.out.tab.below (HBX.out wx hB)) (HI.out.below (HBX.out wx hB)) (HX.out.keep (HBX.out wx hB)) SD.out.1 GC.out);have HCB:Hid (∀wx,Below w2.drew.heap.size w2.drew wx->Calls prog 17 #[.agg #[.int .i64 k,.slice A n c],.agg #[.bool d.neg,.slice A1 n1 c1,.slice B1 m1 e1,.int .i64 d.c,.bool d.i,.int .u64 d.s,.slice P1 p1 r1,.slice Q1 q1 s1]] wx (RetV wx (.bool Bc))):=hid (fun wx hB=>Qw2 (HI.out.below (HBX.out wx hB)) (HX.out.keep (HBX.out wx hB)) SD.out.1 GC.out);have HEA:Hid (∀wx,Below w2.drew.heap.size w2.drew wx->Calls prog 18 #[.agg #[.bool d.neg,.slice A1 n1 c1,.slice B1 m1 e1,.int .i64 d.c,.bool d.i,.int .u64 d.s,.slice P1 p1 r1,.slice Q1 q1 s1],.agg #[.bool d2.neg,.slice A2 n2 c2,.slice B2 m2 e2,.int .i64 d2.c,.bool d2.i,.int .u64 d2.s,.slice P2 p2 r2,.slice Q2 q2 s2]] wx (RetV wx (.bool Be))):=hid (fun wx hB=>Qlp d d2 _ _ wx Be (HX.out.keep (HBX.out wx hB)) (HY.out.keep (HBX.out wx hB)) SD.out.1.sze SD.out.2.sze GE);have HEB:Hid (∀wx,Below w2.drew.heap.size w2.drew wx->Calls prog 19 #[.agg #[.bool d.neg,.slice A1 n1 c1,.slice B1 m1 e1,.int .i64 d.c,.bool d.i,.int .u64 d.s,.slice P1 p1 r1,.slice Q1 q1 s1],.agg #[.bool d2.neg,.slice A2 n2 c2,.slice B2 m2 e2,.int .i64 d2.c,.bool d2.i,.int .u64 d2.s,.slice P2 p2 r2,.slice Q2 q2 s2]] wx (RetV wx (.bool Be))):=hid (fun wx hB=>Qex d d2 _ _ wx Be (HX.out.keep (HBX.out wx hB)) (HY.out.keep (HBX.out wx hB)) SD.out.1.sze SD.out.2.sze GE);have HZA:Hid (∀wx,Below w2.drew.heap.size w2.drew wx->Calls prog 20 #[.agg #[.int .i64 k,.slice A n c]] wx (RetVD DZ wx)):=hid (fun wx hB=>hDZ▸Zero_D (HT.out.tab.below (HBX.out wx hB)) (HI.out.below (HBX.out wx hB)));have HZB:Hid (∀wx,Below w2.drew.heap.size w2.drew wx->Calls prog 21 #[.agg #[.int .i64 k,.slice A n c]] wx (RetVD DZ wx)):=hid (fun wx hB=>hDZ▸Qzs (HI.out.below (HBX.out wx hB)));have HOA:Hid (∀wx,Below w2.drew.heap.size w2.drew wx->Calls prog 22 #[.agg #[.int .i64 k,.slice A n c]] wx (RetVD DO wx)):=hid (fun wx hB=>hDO▸One_D (HT.out.tab.below (HBX.out wx hB)) (HI.out.below (HBX.out wx hB)));have HOB:Hid (∀wx,Below w2.drew.heap.size w2.drew wx->Calls prog 23 #[.agg #[.int .i64 k,.slice A n c]] wx (RetVD DO wx)):=hid (fun wx hB=>hDO▸rOne_D (HI.out.below (HBX.out wx hB)));have HZS:Hid (SzE DZ):=hid (hDZ▸Qu0 k l);have HOS:Hid (SzE DO):=hid (hDO▸Qw1 k l);clear hBv hBs hBc hBe hDZ hDO HK1 HK2 HK3 HK4 GV GS GC GE;refine Qan 49 (20::21::22::23::24::25::26::27::28::29::30::31::32::33::34::35::36::37::38::39::40::41::42::43::44::45::46::47::48::49::50::51::52::53::54::55::56::57::58::59::60::61::62::63::64::65::66::67::68::[]) (Sq.val (.bool true)::Sq.val (.bool true)::Sq.val (.agg #[.int .i64 k,.slice A n c])::Sq.val (.bool Bv)::Sq.val (.agg #[.int .i64 k,.slice A n c])::Sq.val (.bool Bv)::Sq.val (.bool true)::Sq.val (.bool true)::Sq.val (.bool true)::Sq.val (.agg #[.int .i64 k,.slice A n c])::Sq.val (.agg #[.int .i64 k9,.slice A9 n9 c9])::Sq.val (.bool Bs)::Sq.val (.agg #[.int .i64 k,.slice A n c])::Sq.val (.agg #[.int .i64 k9,.slice A9 n9 c9])::Sq.val (.bool Bs)::Sq.val (.bool true)::Sq.val (.bool true)::Sq.val (.bool true)::Sq.val (.agg #[.int .i64 k,.slice A n c])::Sq.val (.agg #[.bool d.neg,.slice A1 n1 c1,.slice B1 m1 e1,.int .i64 d.c,.bool d.i,.int .u64 d.s,.slice P1 p1 r1,.slice Q1 q1 s1])::Sq.val (.bool Bc)::Sq.val (.agg #[.int .i64 k,.slice A n c])::Sq.val (.agg #[.bool d.neg,.slice A1 n1 c1,.slice B1 m1 e1,.int .i64 d.c,.bool d.i,.int .u64 d.s,.slice P1 p1 r1,.slice Q1 q1 s1])::Sq.val (.bool Bc)::Sq.val (.bool true)::Sq.val (.bool true)::Sq.val (.bool true)::Sq.val (.agg #[.bool d.neg,.slice A1 n1 c1,.slice B1 m1 e1,.int .i64 d.c,.bool d.i,.int .u64 d.s,.slice P1 p1 r1,.slice Q1 q1 s1])::Sq.val (.agg #[.bool d2.neg,.slice A2 n2 c2,.slice B2 m2 e2,.int .i64 d2.c,.bool d2.i,.int .u64 d2.s,.slice P2 p2 r2,.slice Q2 q2 s2])::Sq.val (.bool Be)::Sq.val (.agg #[.bool d.neg,.slice A1 n1 c1,.slice B1 m1 e1,.int .i64 d.c,.bool d.i,.int .u64 d.s,.slice P1 p1 r1,.slice Q1 q1 s1])::Sq.val (.agg #[.bool d2.neg,.slice A2 n2 c2,.slice B2 m2 e2,.int .i64 d2.c,.bool d2.i,.int .u64 d2.s,.slice P2 p2 r2,.slice Q2 q2 s2])::Sq.val (.bool Be)::Sq.val (.bool true)::Sq.val (.bool true)::Sq.val (.bool true)::Sq.val (.agg #[.int .i64 k,.slice A n c])::Sq.st (fun w a=>VD DZ w a)::Sq.val (.agg #[.int .i64 k,.slice A n c])::Sq.st (fun w a=>VD DZ w a)::Sq.val (.bool true)::Sq.val (.bool true)::Sq.val (.bool true)::Sq.val (.agg #[.int .i64 k,.slice A n c])::Sq.st (fun w a=>VD DO w a)::Sq.val (.agg #[.int .i64 k,.slice A n c])::Sq.st (fun w a=>VD DO w a)::Sq.val (.bool true)::Sq.val (.bool true)::[]) (by kernel_rfl) (by kernel_rfl) (by kernel_rfl) (by kernel_rfl) ?step 1 (by kernel_rfl) _ rfl ?fin
 case step=>
  intro i hi oi ho f wx hB hdep K hK;simp only [frontAct,zf1,zf2,zf3,zf4,zf5]at hK⊢;have hbx:=HBX.out wx hB;obtain⟨⟨q0,q1⟩,⟨p0,p1⟩,⟨x0,x1,x2,x3,x4,x5,x6,x7⟩,⟨y0,y1,y2,y3,y4,y5,y6,y7⟩⟩:=KX.out wx hB;iterate 49 rcases lt_or_eq_of_le (le_of_lt_succ hi)with hi|rfl
  exact absurd hi (not_lt_zero _);all_goals
   obtain rfl:=Option.some.inj ho;clear ho;simp only [Act.put,zf3,zf4,zf5]at hK
  ·go_simp
   refine(Qd0 wx (HT.out.below hbx)).mono ?_;rintro e0 w' ⟨rfl,hb⟩;exact hK (.bool true) w' (gv6 rfl) hb (bt hB hb) (nb6 rfl rfl)
  have e20:=dv6 (hdep ⟨0,.data⟩ (by simp) rfl) rfl;simp only [zf6,zf7]at e20;generalize f 20=f20 at*;subst e20;rotate_left
  have e21:=dv6 (hdep ⟨1,.guard⟩ (by simp) rfl) rfl;simp only [zf6,zf7]at e21;generalize f 21=f21 at*;subst e21;rotate_left
  ·have e21:=dv6 (hdep ⟨1,.guard⟩ (by simp) rfl) rfl
   have e22:=dv6 (hdep ⟨2,.data⟩ (by simp) rfl) rfl;simp only [zf6,zf7]at e21 e22;generalize f 21=f21 at*;subst e21;generalize f 22=f22 at*;subst e22;go_simp;refine(HVA.out wx hB).mono ?_;rintro e0 w' ⟨rfl,hb⟩;exact hK (.bool Bv) w' (gv6 rfl) hb (bt hB hb) (nb6 rfl rfl)
  have e21:=dv6 (hdep ⟨1,.guard⟩ (by simp) rfl) rfl;simp only [zf6,zf7]at e21;generalize f 21=f21 at*;subst e21;rotate_left
  ·have e21:=dv6 (hdep ⟨1,.guard⟩ (by simp) rfl) rfl
   have e24:=dv6 (hdep ⟨4,.data⟩ (by simp) rfl) rfl;simp only [zf6,zf7]at e21 e24;generalize f 21=f21 at*;subst e21;generalize f 24=f24 at*;subst e24;go_simp;refine(HVB.out wx hB).mono ?_;rintro e0 w' ⟨rfl,hb⟩;exact hK (.bool Bv) w' (gv6 rfl) hb (bt hB hb) (nb6 rfl rfl)
  have e21:=dv6 (hdep ⟨1,.guard⟩ (by simp) rfl) rfl;have e23:=dv6 (hdep ⟨3,.data⟩ (by simp) rfl) rfl;have e25:=dv6 (hdep ⟨5,.data⟩ (by simp) rfl) rfl;simp only [zf6,zf7]at e21 e23 e25;generalize f 21=f21 at*;subst e21;generalize f 23=f23 at*;subst e23;generalize f 25=f25 at*;subst e25;rotate_left
  have e21:=dv6 (hdep ⟨1,.data⟩ (by simp) rfl) rfl;have e26:=dv6 (hdep ⟨6,.data⟩ (by simp) rfl) rfl;simp only [zf6,zf7]at e21 e26;generalize f 21=f21 at*;subst e21;generalize f 26=f26 at*;subst e26;rotate_left
  have e27:=dv6 (hdep ⟨7,.data⟩ (by simp) rfl) rfl;simp only [zf6,zf7]at e27;generalize f 27=f27 at*;subst e27;rotate_left
  have e28:=dv6 (hdep ⟨8,.guard⟩ (by simp) rfl) rfl;simp only [zf6,zf7]at e28;generalize f 28=f28 at*;subst e28;rotate_left
  have e28:=dv6 (hdep ⟨8,.guard⟩ (by simp) rfl) rfl;simp only [zf6,zf7]at e28;generalize f 28=f28 at*;subst e28;rotate_left
  ·have e28:=dv6 (hdep ⟨8,.guard⟩ (by simp) rfl) rfl
   have e29:=dv6 (hdep ⟨9,.data⟩ (by simp) rfl) rfl;have e30:=dv6 (hdep ⟨10,.data⟩ (by simp) rfl) rfl;simp only [zf6,zf7]at e28 e29 e30;generalize f 28=f28 at*;subst e28;generalize f 29=f29 at*;subst e29;generalize f 30=f30 at*;subst e30;go_simp;refine(HSA.out wx hB).mono ?_;rintro e0 w' ⟨rfl,hb⟩;exact hK (.bool Bs) w' (gv6 rfl) hb (bt hB hb) (nb6 rfl rfl)
  have e28:=dv6 (hdep ⟨8,.guard⟩ (by simp) rfl) rfl;simp only [zf6,zf7]at e28;generalize f 28=f28 at*;subst e28;rotate_left
  have e28:=dv6 (hdep ⟨8,.guard⟩ (by simp) rfl) rfl;simp only [zf6,zf7]at e28;generalize f 28=f28 at*;subst e28;rotate_left
  ·have e28:=dv6 (hdep ⟨8,.guard⟩ (by simp) rfl) rfl
   have e32:=dv6 (hdep ⟨12,.data⟩ (by simp) rfl) rfl;have e33:=dv6 (hdep ⟨13,.data⟩ (by simp) rfl) rfl;simp only [zf6,zf7]at e28 e32 e33;generalize f 28=f28 at*;subst e28;generalize f 32=f32 at*;subst e32;generalize f 33=f33 at*;subst e33;go_simp;refine(HSB.out wx hB).mono ?_;rintro e0 w' ⟨rfl,hb⟩;exact hK (.bool Bs) w' (gv6 rfl) hb (bt hB hb) (nb6 rfl rfl)
  have e28:=dv6 (hdep ⟨8,.guard⟩ (by simp) rfl) rfl;have e31:=dv6 (hdep ⟨11,.data⟩ (by simp) rfl) rfl;have e34:=dv6 (hdep ⟨14,.data⟩ (by simp) rfl) rfl;simp only [zf6,zf7]at e28 e31 e34;generalize f 28=f28 at*;subst e28;generalize f 31=f31 at*;subst e31;generalize f 34=f34 at*;subst e34;rotate_left
  have e28:=dv6 (hdep ⟨8,.data⟩ (by simp) rfl) rfl;have e35:=dv6 (hdep ⟨15,.data⟩ (by simp) rfl) rfl;simp only [zf6,zf7]at e28 e35;generalize f 28=f28 at*;subst e28;generalize f 35=f35 at*;subst e35;rotate_left
  have e36:=dv6 (hdep ⟨16,.data⟩ (by simp) rfl) rfl;simp only [zf6,zf7]at e36;generalize f 36=f36 at*;subst e36;rotate_left
  have e37:=dv6 (hdep ⟨17,.guard⟩ (by simp) rfl) rfl;simp only [zf6,zf7]at e37;generalize f 37=f37 at*;subst e37;rotate_left
  have e37:=dv6 (hdep ⟨17,.guard⟩ (by simp) rfl) rfl;simp only [zf6,zf7]at e37;generalize f 37=f37 at*;subst e37;rotate_left
  ·have e37:=dv6 (hdep ⟨17,.guard⟩ (by simp) rfl) rfl
   have e38:=dv6 (hdep ⟨18,.data⟩ (by simp) rfl) rfl;have e39:=dv6 (hdep ⟨19,.data⟩ (by simp) rfl) rfl;simp only [zf6,zf7]at e37 e38 e39;generalize f 37=f37 at*;subst e37;generalize f 38=f38 at*;subst e38;generalize f 39=f39 at*;subst e39;go_simp;refine(HCA.out wx hB).mono ?_;rintro e0 w' ⟨rfl,hb⟩;exact hK (.bool Bc) w' (gv6 rfl) hb (bt hB hb) (nb6 rfl rfl)
  have e37:=dv6 (hdep ⟨17,.guard⟩ (by simp) rfl) rfl;simp only [zf6,zf7]at e37;generalize f 37=f37 at*;subst e37;rotate_left
  have e37:=dv6 (hdep ⟨17,.guard⟩ (by simp) rfl) rfl;simp only [zf6,zf7]at e37;generalize f 37=f37 at*;subst e37;rotate_left
  ·have e37:=dv6 (hdep ⟨17,.guard⟩ (by simp) rfl) rfl
   have e41:=dv6 (hdep ⟨21,.data⟩ (by simp) rfl) rfl;have e42:=dv6 (hdep ⟨22,.data⟩ (by simp) rfl) rfl;simp only [zf6,zf7]at e37 e41 e42;generalize f 37=f37 at*;subst e37;generalize f 41=f41 at*;subst e41;generalize f 42=f42 at*;subst e42;go_simp;refine(HCB.out wx hB).mono ?_;rintro e0 w' ⟨rfl,hb⟩;exact hK (.bool Bc) w' (gv6 rfl) hb (bt hB hb) (nb6 rfl rfl)
  have e37:=dv6 (hdep ⟨17,.guard⟩ (by simp) rfl) rfl;have e40:=dv6 (hdep ⟨20,.data⟩ (by simp) rfl) rfl;have e43:=dv6 (hdep ⟨23,.data⟩ (by simp) rfl) rfl;simp only [zf6,zf7]at e37 e40 e43;generalize f 37=f37 at*;subst e37;generalize f 40=f40 at*;subst e40;generalize f 43=f43 at*;subst e43;rotate_left
  have e37:=dv6 (hdep ⟨17,.data⟩ (by simp) rfl) rfl;have e44:=dv6 (hdep ⟨24,.data⟩ (by simp) rfl) rfl;simp only [zf6,zf7]at e37 e44;generalize f 37=f37 at*;subst e37;generalize f 44=f44 at*;subst e44;rotate_left
  have e45:=dv6 (hdep ⟨25,.data⟩ (by simp) rfl) rfl;simp only [zf6,zf7]at e45;generalize f 45=f45 at*;subst e45;rotate_left
  have e46:=dv6 (hdep ⟨26,.guard⟩ (by simp) rfl) rfl;simp only [zf6,zf7]at e46;generalize f 46=f46 at*;subst e46;rotate_left
  have e46:=dv6 (hdep ⟨26,.guard⟩ (by simp) rfl) rfl;simp only [zf6,zf7]at e46;generalize f 46=f46 at*;subst e46;rotate_left
  ·have e46:=dv6 (hdep ⟨26,.guard⟩ (by simp) rfl) rfl
   have e47:=dv6 (hdep ⟨27,.data⟩ (by simp) rfl) rfl;have e48:=dv6 (hdep ⟨28,.data⟩ (by simp) rfl) rfl;simp only [zf6,zf7]at e46 e47 e48;generalize f 46=f46 at*;subst e46;generalize f 47=f47 at*;subst e47;generalize f 48=f48 at*;subst e48;go_simp;refine(HEA.out wx hB).mono ?_;rintro e0 w' ⟨rfl,hb⟩;exact hK (.bool Be) w' (gv6 rfl) hb (bt hB hb) (nb6 rfl rfl)
  have e46:=dv6 (hdep ⟨26,.guard⟩ (by simp) rfl) rfl;simp only [zf6,zf7]at e46;generalize f 46=f46 at*;subst e46;rotate_left
  have e46:=dv6 (hdep ⟨26,.guard⟩ (by simp) rfl) rfl;simp only [zf6,zf7]at e46;generalize f 46=f46 at*;subst e46;rotate_left
  ·have e46:=dv6 (hdep ⟨26,.guard⟩ (by simp) rfl) rfl
   have e50:=dv6 (hdep ⟨30,.data⟩ (by simp) rfl) rfl;have e51:=dv6 (hdep ⟨31,.data⟩ (by simp) rfl) rfl;simp only [zf6,zf7]at e46 e50 e51;generalize f 46=f46 at*;subst e46;generalize f 50=f50 at*;subst e50;generalize f 51=f51 at*;subst e51;go_simp;refine(HEB.out wx hB).mono ?_;rintro e0 w' ⟨rfl,hb⟩;exact hK (.bool Be) w' (gv6 rfl) hb (bt hB hb) (nb6 rfl rfl)
  have e46:=dv6 (hdep ⟨26,.guard⟩ (by simp) rfl) rfl;have e49:=dv6 (hdep ⟨29,.data⟩ (by simp) rfl) rfl;have e52:=dv6 (hdep ⟨32,.data⟩ (by simp) rfl) rfl;simp only [zf6,zf7]at e46 e49 e52;generalize f 46=f46 at*;subst e46;generalize f 49=f49 at*;subst e49;generalize f 52=f52 at*;subst e52;rotate_left
  have e46:=dv6 (hdep ⟨26,.data⟩ (by simp) rfl) rfl;have e53:=dv6 (hdep ⟨33,.data⟩ (by simp) rfl) rfl;simp only [zf6,zf7]at e46 e53;generalize f 46=f46 at*;subst e46;generalize f 53=f53 at*;subst e53;rotate_left
  have e54:=dv6 (hdep ⟨34,.data⟩ (by simp) rfl) rfl;simp only [zf6,zf7]at e54;generalize f 54=f54 at*;subst e54;rotate_left
  have e55:=dv6 (hdep ⟨35,.guard⟩ (by simp) rfl) rfl;simp only [zf6,zf7]at e55;generalize f 55=f55 at*;subst e55;rotate_left
  ·have e55:=dv6 (hdep ⟨35,.guard⟩ (by simp) rfl) rfl
   have e56:=dv6 (hdep ⟨36,.data⟩ (by simp) rfl) rfl;simp only [zf6,zf7]at e55 e56;generalize f 55=f55 at*;subst e55;generalize f 56=f56 at*;subst e56;go_simp;refine(HZA.out wx hB).mono ?_;rintro e0 w' ⟨val,rfl,hr,hb⟩;exact hK val w' (gs6 rfl (fun w2 h2=>hr.below h2)) hb (bt hB hb) (nb6 rfl rfl)
  have e55:=dv6 (hdep ⟨35,.guard⟩ (by simp) rfl) rfl;simp only [zf6,zf7]at e55;generalize f 55=f55 at*;subst e55;rotate_left
  ·have e55:=dv6 (hdep ⟨35,.guard⟩ (by simp) rfl) rfl
   have e58:=dv6 (hdep ⟨38,.data⟩ (by simp) rfl) rfl;simp only [zf6,zf7]at e55 e58;generalize f 55=f55 at*;subst e55;generalize f 58=f58 at*;subst e58;go_simp;refine(HZB.out wx hB).mono ?_;rintro e0 w' ⟨val,rfl,hr,hb⟩;exact hK val w' (gs6 rfl (fun w2 h2=>hr.below h2)) hb (bt hB hb) (nb6 rfl rfl)
  ·have e55:=dv6 (hdep ⟨35,.guard⟩ (by simp) rfl) rfl
   have e57:=ds6 (hdep ⟨37,.data⟩ (by simp) rfl) rfl;have e59:=ds6 (hdep ⟨39,.data⟩ (by simp) rfl) rfl;simp only [zf6,zf7]at e55 e57 e59;generalize f 55=f55 at*;subst e55;replace e57:=(show VD DZ wx (f 57)from e57);generalize f 57=f57 at*
   replace e59:=(show VD DZ wx (f 59)from e59);generalize f 59=f59 at*
   go_simp;refine(Quz HZS.out wx f57 f59 e57 e59).mono ?_;rintro e0 w' ⟨rfl,hb⟩;exact hK (.bool true) w' (gv6 rfl) hb (bt hB hb) (nb6 rfl rfl)
  have e55:=dv6 (hdep ⟨35,.data⟩ (by simp) rfl) rfl;have e60:=dv6 (hdep ⟨40,.data⟩ (by simp) rfl) rfl;simp only [zf6,zf7]at e55 e60;generalize f 55=f55 at*;subst e55;generalize f 60=f60 at*;subst e60;rotate_left
  have e61:=dv6 (hdep ⟨41,.data⟩ (by simp) rfl) rfl;simp only [zf6,zf7]at e61;generalize f 61=f61 at*;subst e61;rotate_left
  have e62:=dv6 (hdep ⟨42,.guard⟩ (by simp) rfl) rfl;simp only [zf6,zf7]at e62;generalize f 62=f62 at*;subst e62;rotate_left
  ·have e62:=dv6 (hdep ⟨42,.guard⟩ (by simp) rfl) rfl
   have e63:=dv6 (hdep ⟨43,.data⟩ (by simp) rfl) rfl;simp only [zf6,zf7]at e62 e63;generalize f 62=f62 at*;subst e62;generalize f 63=f63 at*;subst e63;go_simp;refine(HOA.out wx hB).mono ?_;rintro e0 w' ⟨val,rfl,hr,hb⟩;exact hK val w' (gs6 rfl (fun w2 h2=>hr.below h2)) hb (bt hB hb) (nb6 rfl rfl)
  have e62:=dv6 (hdep ⟨42,.guard⟩ (by simp) rfl) rfl;simp only [zf6,zf7]at e62;generalize f 62=f62 at*;subst e62;rotate_left
  ·have e62:=dv6 (hdep ⟨42,.guard⟩ (by simp) rfl) rfl
   have e65:=dv6 (hdep ⟨45,.data⟩ (by simp) rfl) rfl;simp only [zf6,zf7]at e62 e65;generalize f 62=f62 at*;subst e62;generalize f 65=f65 at*;subst e65;go_simp;refine(HOB.out wx hB).mono ?_;rintro e0 w' ⟨val,rfl,hr,hb⟩;exact hK val w' (gs6 rfl (fun w2 h2=>hr.below h2)) hb (bt hB hb) (nb6 rfl rfl)
  ·have e62:=dv6 (hdep ⟨42,.guard⟩ (by simp) rfl) rfl
   have e64:=ds6 (hdep ⟨44,.data⟩ (by simp) rfl) rfl;have e66:=ds6 (hdep ⟨46,.data⟩ (by simp) rfl) rfl;simp only [zf6,zf7]at e62 e64 e66;generalize f 62=f62 at*;subst e62;replace e64:=(show VD DO wx (f 64)from e64);generalize f 64=f64 at*
   replace e66:=(show VD DO wx (f 66)from e66);generalize f 66=f66 at*
   go_simp;refine(Quz HOS.out wx f64 f66 e64 e66).mono ?_;rintro e0 w' ⟨rfl,hb⟩;exact hK (.bool true) w' (gv6 rfl) hb (bt hB hb) (nb6 rfl rfl)
  have e62:=dv6 (hdep ⟨42,.data⟩ (by simp) rfl) rfl;have e67:=dv6 (hdep ⟨47,.data⟩ (by simp) rfl) rfl;simp only [zf6,zf7]at e62 e67;generalize f 62=f62 at*;subst e62;generalize f 67=f67 at*;subst e67;rotate_left
  all_goals go_simp
  all_goals exact hK _ wx (gv6 rfl) (Below.refl _ _) hB (nb6 rfl rfl)
 case fin=>
  intro f wx hB hG hne;have eL:=dv6 (a:=f 68) (hG 48 (by decide)) rfl;clear hG hne;simp only [frontAct,zf1,zf2,zf3,zf4,zf5];generalize f 68=fL at*;subst eL;have HEND:=hid (HBX.out wx hB);clear hB;refine wpAny_ready (rs:=[49]) (by kernel_rfl) (by simp) ?_;refine AllReady.cons rfl (fun K hK=>?_) AllReady.nil;have HQ:=hid hK;clear hK;go_simp;refine HQ.out _ _ ?_;clear HQ K;refine wpAny_done (by kernel_rfl) ?_ _;go_wp2_with fail
  go_ret;exact⟨rfl,HEND.out⟩
end Go.Proofs.YthbhgelncdnmgaaGreatDoor
