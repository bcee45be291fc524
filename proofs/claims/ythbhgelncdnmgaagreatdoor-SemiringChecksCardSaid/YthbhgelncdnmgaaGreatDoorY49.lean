import Derived.Test.YthbhgelncdnmgaaGreatDoorY48
import Derived.Test.YthbhgelncdnmgaaGreatDoorY22
set_option linter.unusedVariables false
set_option linter.unusedSimpArgs false
set_option maxRecDepth 20000
set_option maxHeartbeats 4000000
namespace Go.Proofs.YthbhgelncdnmgaaGreatDoor
open Go.Proofs.Tryz
open Lib (hid)
open Go.RowKit
def EqOk3(d e:WD):Prop:=∀(x y:List Value) (w:World) (V:Bool),WRd w x d->WRd w y e->Hid (eqD d e=V)->Calls prog 19 #[.agg x.toArray,.agg y.toArray] w (RetV w (.bool V))
theorem Qzn{a a':Bool}{b b' c c':List Nat}:decide (a=a'/\b=b'/\c=c')=(decide (a=a') && (decide (b=b') && decide (c=c'))):=by simp [Bool.decide_and]
theorem Qm4(d d':WD)(sd:SzE d)(sd':SzE d')(IH:∀(j:Nat) (x y:WD),d.parts[j]? =some x->d'.parts[j]? =some y->EqOk3 x y):EqOk3 d d':=by
 intro x y w V hx hy H;obtain⟨A,n,c,B,m,e,P,p,r,Q,q,s,rfl,h1,h2,h3,h4⟩:=hx.shape;obtain⟨A',n',c',B',m',e',P',p',r',Q',q',s',rfl,h1',h2',h3',h4'⟩:=hy.shape;clear hx hy;obtain⟨z1,z2,z3,z4,z5,_⟩:=sd.open;obtain⟨z1',z2',z3',z4',z5',_⟩:=sd'.open;cases d with
 |mk neg ln ld k i u poly parts=>
 cases d' with
 |mk neg' ln' ld' k' i' u' poly' parts'=>
 simp only [WD.neg,WD.ln,WD.ld,WD.c,WD.i,WD.s,WD.poly,WD.parts]at*
 show Calls _ _ #[.agg #[.bool neg,.slice A n c,.slice B m e,.int .i64 k,.bool i,.int .u64 u,.slice P p r,.slice Q q s],.agg #[.bool neg',.slice A' n' c',.slice B' m' e',.int .i64 k',.bool i',.int .u64 u',.slice P' p' r',.slice Q' q' s']] _ _;obtain⟨hb0,c1,c2⟩:=blk2 w [.bool neg,.slice A n c,.slice B m e,.int .i64 k,.bool i,.int .u64 u,.slice P p r,.slice Q q s] [.bool neg',.slice A' n' c',.slice B' m' e',.int .i64 k',.bool i',.int .u64 u',.slice P' p' r',.slice Q' q' s'] 32 32;obtain⟨V1,hV1⟩:∃V1,decide (neg=neg'/\ln=ln'/\ld=ld')=V1:=⟨_,rfl⟩;obtain⟨V2,hV2⟩:∃V2,decide (poly=poly')=V2:=⟨_,rfl⟩;obtain⟨V3,hV3⟩:∃V3,eqL parts parts'=V3:=⟨_,rfl⟩;have HE:Hid ((V1 && (decide (k=k') && (decide (i=i') && (decide (u=u') && (V2 && V3)))))=V):=hid (by
  rw [<-H.out,Qlo,<-hV1,<-hV2,<-hV3,Qzn];show _=(decide (k=k') && (decide (i=i') && (decide (u=u') && ((decide (neg=neg') && (decide (ln=ln') && decide (ld=ld'))) && (decide (poly=poly') && eqL parts parts')))));cases decide (k=k')<;>cases decide (i=i')<;>cases decide (u=u')<;>cases (decide (neg=neg') && (decide (ln=ln') && decide (ld=ld')))<;>simp)
 have HV1:=hid hV1;have HV2:=hid hV2;have HV3:=hid hV3;have l1:=h1.len;have l2:=h2.len;have l1':=h1'.len;have l2':=h2'.len;have l3:=h3.len;have l3':=h3'.len;have l4:=h4.len;have l4':=h4'.len;have HC1:=hid (fun wa (hb:Below w.heap.size w wa)=>Qb7 neg neg' A B A' B' n c m e n' c' m' e' ln ld ln' ld' wa V1 (h1.below hb) (h2.below hb) (h1'.below hb) (h2'.below hb) (by omega) (by omega) (by omega) (by omega) HV1);have HC2:=hid (fun wa (hb:Below w.heap.size w wa)=>Qw0 P P' p r p' r' poly poly' wa V2 (h3.below hb) (h3'.below hb) (show poly.length<=_ by omega) z4 z4' HV2);have HL:=hid (And.intro l4 l4');have HZ:=hid z5;have HI:=hid IH;have HF1:=hid h4;have HF2:=hid h4';clear H hV1 hV2 hV3 h1 h2 h1' h2' h3 h3' h4 h4' z1 z2 z3 z4 z5 z1' z2' z3' z4' z5' l1 l2 l1' l2' l3 l3' l4 l4' IH sd sd' HV1 HV2;go_enter func19,ntmps19;go_wp2_with fail
 refine(HC1.out _ hb0).mono ?_;rintro e0 w1 ⟨rfl,hb1⟩;replace hb0:=bt hb0 hb1;replace c1:=c1.below hb1 c1.lt;replace c2:=c2.below hb1 c2.lt;clear hb1 HC1;cases V1
 ·replace HE:Hid (false=V):=HE
  go_wp2_with fail
  have:=HE.out;subst this;go_ret;exact⟨rfl,hb0⟩
 obtain⟨x0,x1,x2,x3,x4,x5,x6,x7⟩:=c1.c8;obtain⟨y0,y1,y2,y3,y4,y5,y6,y7⟩:=c2.c8;by_cases g1:k=k'
 case neg=>
  have e1:(k !=k')=true:=by simpa using g1
  replace HE:Hid (false=V):=hid (by have:=HE.out;simpa [g1] using this);clear g1;go_wp2_with fail
  have:=HE.out;subst this;go_ret;exact⟨rfl,hb0⟩
 subst g1;have e1:(k !=k)=false:=by simp
 by_cases g2:i=i'
 case neg=>
  replace HE:Hid (false=V):=hid (by have:=HE.out;simpa [g2] using this);cases i<;>cases i'
  ·exact absurd rfl g2
  ·clear g2
   go_wp2_with fail
   have:=HE.out;subst this;go_ret;exact⟨rfl,hb0⟩
  ·clear g2
   go_wp2_with fail
   have:=HE.out;subst this;go_ret;exact⟨rfl,hb0⟩
  ·exact absurd rfl g2
 subst g2;have e2:(i !=i)=false:=by simp
 by_cases g3:u=u'
 case neg=>
  have e3:(u !=u')=true:=by simpa using g3
  replace HE:Hid (false=V):=hid (by have:=HE.out;simpa [g3] using this);clear g3;go_wp2_with fail
  have:=HE.out;subst this;go_ret;exact⟨rfl,hb0⟩
 subst g3;have e3:(u !=u)=false:=by simp
 replace HE:Hid ((V2 && V3)=V):=hid (by have:=HE.out;simpa using this);go_wp2_with fail
 refine(HC2.out _ hb0).mono ?_;rintro e0 w2 ⟨rfl,hb1⟩;replace hb0:=bt hb0 hb1;replace c1:=c1.below hb1 c1.lt;replace c2:=c2.below hb1 c2.lt;clear hb1 HC2 x0 x1 x2 x3 x4 x5 x6 x7 y0 y1 y2 y3 y4 y5 y6 y7;cases V2
 ·replace HE:Hid (false=V):=HE
  go_wp2_with fail
  have:=HE.out;subst this;go_ret;exact⟨rfl,hb0⟩
 replace HE:Hid (V3=V):=HE;obtain⟨x0,x1,x2,x3,x4,x5,x6,x7⟩:=c1.c8;obtain⟨y0,y1,y2,y3,y4,y5,y6,y7⟩:=c2.c8;by_cases g4:q=q'
 case neg=>
  have e4:((q:Int) !=(q':Int))=true:=by simp;omega
  replace HE:Hid (false=V):=hid (by
   rw [<-HE.out,<-HV3.out];symm;rw [Bool.eq_false_iff];intro hh;exact g4 (by rw [HL.out.1,HL.out.2,Qfd.1 hh]))
  clear g4;go_wp2_with fail
  have:=HE.out;subst this;go_ret;exact⟨rfl,hb0⟩
 subst g4;have e4:((q:Int) !=(q:Int))=false:=by simp
 go_wp2_with fail
 clear x0 x1 x2 x3 x4 x5 x6 x7 y0 y1 y2 y3 y4 y5 y6 y7;have HK1:=hid c1;have HK2:=hid c2;have HB0:=hid hb0;clear c1 c2 hb0
 go_loopw [5] (fun j wr=> ∃k:Nat,k<=q/\j=.int .i64 (k:Int)/\Below w2.heap.size w2 wr/\Hid (∀j,j<k->parts[j]? =parts'[j]?)) (fun j _=>(q-intOf j).toNat)
 case atStart=>exact⟨0,Nat.zero_le _,rfl,Below.refl _ _,fun j hj=>absurd hj (Nat.not_lt_zero _)⟩
 case round=>
  obtain⟨kk,hk,rfl,hb,HO⟩:=hrel;have hb2:=bt HB0.out hb;obtain⟨x0,x1,x2,x3,x4,x5,x6,x7⟩:=(HK1.out.below hb HK1.out.lt).c8;by_cases hkn:kk<q
  ·have hlt:(kk:Int)<(q:Int):=by omega
   have h0i:¬(kk:Int)<0:=(by omega);have hw1:IntKind.i64.wrap ((kk:Int)+1)=(kk:Int)+1:=IntWalk.i64_in _ (by have:=HL.out.1;have:=HZ.out;omega);obtain⟨dj,hdj⟩:∃m,parts[kk]? =some m:=⟨parts[kk]'(by have:=HL.out.1;omega),List.getElem?_eq_getElem _⟩;obtain⟨ej,hej⟩:∃m,parts'[kk]? =some m:=⟨parts'[kk]'(by have:=HL.out.2;omega),List.getElem?_eq_getElem _⟩;obtain⟨v0,v1,A3,n3,c3,B3,m3,e3',P3,p3,r3,Q3,q3,s3,rfl,hvb,hwv,hatv⟩:=HF1.out.at8 hdj;obtain⟨u0,u1,A4,n4,c4,B4,m4,e4',P4,p4,r4,Q4,q4,s4,rfl,hub,hwu,hatu⟩:=HF2.out.at8 hej;obtain⟨Vr,hVr⟩:∃V,eqD dj ej=V:=⟨_,rfl⟩;have HVr:=hid hVr;have HB:=hid hb2.drew;have KX:Hid (∀wx,Below wr.drew.heap.size wr.drew wx->(wx.cell? ⟨w.heap.size,7,none⟩=some (.slice (some ⟨v0,v1,none⟩) q s)/\wx.cell? ⟨w.heap.size+1,7,none⟩=some (.slice (some ⟨u0,u1,none⟩) q s'))/\At8 wx v0 (v1+kk*8) (.bool dj.neg) (.slice A3 n3 c3) (.slice B3 m3 e3') (.int .i64 dj.c) (.bool dj.i) (.int .u64 dj.s) (.slice P3 p3 r3) (.slice Q3 q3 s3)/\At8 wx u0 (u1+kk*8) (.bool ej.neg) (.slice A4 n4 c4) (.slice B4 m4 e4') (.int .i64 ej.c) (.bool ej.i) (.int .u64 ej.s) (.slice P4 p4 r4) (.slice Q4 q4 s4)):=hid (fun wx hB=>by
    have hbx:=bt HB.out hB;have hb3:=bt hb.drew hB;exact⟨⟨(HK1.out.below hb3 HK1.out.lt).cell rfl,(HK2.out.below hb3 HK2.out.lt).cell rfl⟩,hatv.below hbx hvb,hatu.below hbx hub⟩)
   have HCALL:Hid (∀wx,Below wr.drew.heap.size wr.drew wx->Calls prog 19 #[.agg #[.bool dj.neg,.slice A3 n3 c3,.slice B3 m3 e3',.int .i64 dj.c,.bool dj.i,.int .u64 dj.s,.slice P3 p3 r3,.slice Q3 q3 s3],.agg #[.bool ej.neg,.slice A4 n4 c4,.slice B4 m4 e4',.int .i64 ej.c,.bool ej.i,.int .u64 ej.s,.slice P4 p4 r4,.slice Q4 q4 s4]] wx (RetV wx (.bool Vr))):=hid (fun wx hB=>by
    have hbx:=bt HB.out hB;exact HI.out kk dj ej hdj hej _ _ wx Vr (hwv.keep hbx) (hwu.keep hbx) HVr)
   have HK:=hid hkn;have HBR:=hid hb;have HD:=hid hdj;have HEJ:=hid hej;clear hb hb2 hvb hub hwv hwu hatv hatu hdj hej hkn hVr;go_wp2_with fail
   clear x0 x1 x2 x3 x4 x5 x6 x7;have HB:=hid HBR.out.drew;refine Qan 12 (57::58::59::60::61::62::63::64::65::66::67::68::[]) (Sq.val (.pointer (some ⟨w.heap.size,7,none⟩))::Sq.val (.slice (some ⟨v0,v1,none⟩) q s)::Sq.val (.int .i64 (kk:Int))::Sq.val (.pointer (some ⟨v0,v1+kk*8,none⟩))::Sq.val (.agg #[.bool dj.neg,.slice A3 n3 c3,.slice B3 m3 e3',.int .i64 dj.c,.bool dj.i,.int .u64 dj.s,.slice P3 p3 r3,.slice Q3 q3 s3])::Sq.val (.pointer (some ⟨w.heap.size+1,7,none⟩))::Sq.val (.slice (some ⟨u0,u1,none⟩) q s')::Sq.val (.int .i64 (kk:Int))::Sq.val (.pointer (some ⟨u0,u1+kk*8,none⟩))::Sq.val (.agg #[.bool ej.neg,.slice A4 n4 c4,.slice B4 m4 e4',.int .i64 ej.c,.bool ej.i,.int .u64 ej.s,.slice P4 p4 r4,.slice Q4 q4 s4])::Sq.val (.bool Vr)::Sq.val (.bool (!Vr))::[]) (by kernel_rfl) (by kernel_rfl) (by kernel_rfl) (by kernel_rfl) ?step 0 (by kernel_rfl) _ rfl ?fin
   case step=>
    intro i hi oi ho f wx hB hdep K hK;simp only [frontAct,zf1,zf2,zf3,zf4,zf5]at hK⊢;obtain⟨⟨y0,y1⟩,⟨x0,x1,x2,x3,x4,x5,x6,x7⟩,⟨z0,z1,z2,z3,z4,z5,z6,z7⟩⟩:=KX.out wx hB;iterate 12 rcases Nat.lt_or_eq_of_le (Nat.le_of_lt_succ hi)with hi|rfl
    exact absurd hi (Nat.not_lt_zero _);all_goals
     obtain rfl:=Option.some.inj ho;clear ho;simp only [Act.put,zf3,zf4,zf5]at hK
    rotate_left 10
    ·simp [gOf6,Sq.holds,Region.binds]at hdep
     simp only [hdep]at hK⊢;go_simp;refine(HCALL.out wx hB).mono ?_;rintro e0 w' ⟨rfl,hb⟩;exact hK (.bool Vr) w' (gv6 rfl) hb (bt hB hb) (nb6 rfl rfl)
    rotate_left
    all_goals simp [gOf6,Sq.holds,Region.binds]at hdep
    all_goals try simp only [hdep]at hK⊢
    all_goals go_simp
    all_goals exact hK _ wx (gv6 rfl) (Below.refl _ _) hB (nb6 rfl rfl)
   case fin=>
    intro f wx hB hG hne;have eL:=dv6 (a:=f 68) (hG 11 (by decide)) rfl;clear hG hne;simp only [frontAct,zf1,zf2,zf3,zf4,zf5];generalize f 68=fL at*;subst eL;have HEND:=hid (bt HB.out hB);clear hB;refine wpAny_done (by kernel_rfl) ?_ _;cases Vr
    ·have HV:Hid (false=V):=hid (by
      rw [<-HE.out,<-HV3.out];symm;rw [Bool.eq_false_iff];intro hh;have h1:=HD.out;rw [Qfd.1 hh,HEJ.out]at h1;obtain rfl:=Option.some.inj h1;have:=HVr.out;rw [Qg7]at this;cases this)
     have HBE:=hid (bt HB0.out HEND.out);clear HE HV3 HI;go_wp2_with fail
     have:=HV.out;subst this;go_ret;exact⟨rfl,HBE.out⟩
    ·go_wp2_with fail
     go_roundw
     case rel=>
      refine⟨kk+1,HK.out,congrArg (Value.int _) (by omega),HEND.out,fun j hj=>?_⟩;rcases Nat.lt_or_ge j kk with hjk|hjk
      ·exact HO.out j hjk
      ·obtain rfl:j=kk:=by omega
       rw [HD.out,HEJ.out,Qfc.1 HVr.out]
     case measure=>simp [intOf];have:=HK.out;omega
  ·have hlt:¬(kk:Int)<(q:Int):=by omega
   have HV:Hid (true=V):=hid (by
    rw [<-HE.out,<-HV3.out];symm;refine Qfd.2 (List.ext_getElem? (fun j=>?_));rcases Nat.lt_or_ge j kk with hjk|hjk
    ·exact HO.out j hjk
    ·rw [List.getElem?_eq_none (by have:=HL.out.1;omega),List.getElem?_eq_none (by have:=HL.out.2;omega)])
   have HB2:=hid hb2;clear hb hb2 HO HE HV3 HI;go_wp2_with fail
   have:=HV.out;subst this;go_ret;exact⟨rfl,HB2.out⟩
theorem Qm5:∀(N:Nat) (d d':WD),SizeOf.sizeOf d<=N->SzE d->SzE d'->EqOk3 d d'
 |0,d,_,h,_,_=>by cases d;simp only [WD.mk.sizeOf_spec]at h;omega
 |N+1,d,d',h,sd,sd'=>Qm4 d d' sd sd' (fun j x y hx hy=>Qm5 N x y (by have:=WD.parts_lt (List.mem_of_getElem? hx);omega) (sd.open.2.2.2.2.2 x (List.mem_of_getElem? hx)) (sd'.open.2.2.2.2.2 y (List.mem_of_getElem? hy)))
theorem Qex(d d':WD)(x y:List Value)(w:World)(V:Bool)(hx:WRd w x d)(hy:WRd w y d')(sd:SzE d)(sd':SzE d')(H:Hid (eqD d d'=V)):Calls prog 19 #[.agg x.toArray,.agg y.toArray] w (RetV w (.bool V)):=
 Qm5 _ d d' (Nat.le_refl _) sd sd' x y w V hx hy H
end Go.Proofs.YthbhgelncdnmgaaGreatDoor
