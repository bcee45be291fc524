import Derived.Test.YthbhgelncdnmgaaGreatDoorY36
import Derived.Shelf.SlSortCmp.QuietGrown
set_option linter.unusedVariables false
set_option linter.unusedSimpArgs false
set_option maxRecDepth 20000
set_option maxHeartbeats 4000000
namespace Go.Proofs.YthbhgelncdnmgaaGreatDoor
open Go.Proofs.Tryz
open Lib (hid)
open Go.RowKit
theorem PIn.at6{w:World}{A:Option Addr}{n c:Nat}{l:List RawM}{L:Nat}(h:PIn w (.slice A n c) l L){i:Nat}{e:Int × Int × Int}{q:Rat}(hi:l[i]? =some (e,q)):
 ∃b o nb A' n' c' B' m' e',A=some ⟨b,o,none⟩/\b<w.heap.size/\At6 w b (o+i*6) (.int .i64 e.1) (.int .i64 e.2.1) (.int .i64 e.2.2) (.bool nb) (.slice A' n' c') (.slice B' m' e')/\Inp w (.agg #[.bool nb,.slice A' n' c',.slice B' m' e']) q L:=by
 obtain⟨b,o,z0,z1,z2,hA,hb,hat,hr⟩:=h.1.at hi;obtain⟨nb,A',n',c',B',m',e',heq⟩:=hr.agg;simp only [Value.agg.injEq,Array.mk.injEq,List.cons.injEq,and_true]at heq;obtain⟨rfl,rfl,rfl⟩:=heq;exact⟨b,o,nb,A',n',c',B',m',e',hA,hb,hat,hr⟩
theorem Qeb(q:Rat):(q.num.sign==0)=decide (q=0):=by
 by_cases h:q=0
 ·subst h;rfl
 ·have:q.num≠0:=fun h'=>h (Rat.num_eq_zero.1 h')
  simp [Int.sign_eq_zero_iff_zero,this,h]
theorem Qf4{l:List RawM}{k:Nat}(h:∀j,j<k->okAt l j)(hk:okAt l k):∀j,j<k+1->okAt l j:=fun j hj=>by
 rcases Nat.lt_or_eq_of_le (Nat.le_of_lt_succ hj)with h1|h1
 ·exact h j h1
 ·subst h1;exact hk
theorem Qnw(v:Value)(l:List RawM)(L:Nat)(w:World)(hT:Tab w)(h:PIn w v l L)(V:Bool)(HV:Hid (V=true↔vraw l)):Calls prog 147 #[v] w (RetV w (.bool V)):=by
 obtain⟨A,cap,rfl⟩:=PBy.slice h.1;have hlen:=h.2;go_enter func147,ntmps147;go_wp2_with fail
 go_loopw [7] (fun i wr=> ∃k,k<=l.length/\i=.int .i64 (k:Int)/\Below w.heap.size w wr/\Hid (∀j,j<k->okAt l j)) (fun i _=>(l.length-intOf i).toNat)
 case atStart=>exact⟨0,Nat.zero_le _,rfl,Below.refl _ _,show Hid _ from fun j h1=>by omega⟩
 case round=>
  obtain⟨k,hk,rfl,hB,HO⟩:=hrel;rcases Nat.lt_or_ge k l.length with hkn|hkn
  ·obtain⟨⟨e,q⟩,hm⟩:∃m,l[k]? =some m:=⟨l[k],List.getElem?_eq_getElem hkn⟩
   obtain⟨b,o,nb,A',n',c',B',m',e',rfl,hb,hat,hr⟩:=h.at6 hm;have a1:=hat.below hB hb;obtain⟨hb6,d6⟩:=new6 wr (.int .i64 e.1) (.int .i64 e.2.1) (.int .i64 e.2.2) (.bool nb) (.slice A' n' c') (.slice B' m' e');obtain⟨x0,x1,x2,x3,x4,x5⟩:=a1;have u:=d6.c6;have hlt:(k:Int)<(l.length:Int):=(by omega);have HK:=hid hkn;have HM:=hid hm;have hBx:=bt hB hb6;have hPw:=h;have HPW:=hid h;clear hkn hm hat h;go_wp2_with fail
   clear x0 x1 x2 x3 x4 x5 u;generalize (wr.alloc (M6 (.int .i64 e.1) (.int .i64 e.2.1) (.int .i64 e.2.2) (.bool nb) (.slice A' n' c') (.slice B' m' e')))=W6 at*
   obtain⟨kn,hkn⟩:∃kn,knownI (e.1,e.2.1,e.2.2)=kn:=⟨_,rfl⟩;refine(Qh5 _ _ _ _ kn hkn).mono ?_;rintro e2 w2 ⟨rfl,hb2⟩;replace hBx:=bt hBx hb2;replace d6:=d6.below hb2 d6.lt;clear hb2;have hkn':Hid (knownI e=kn):=hkn;clear hkn;cases kn
   ·go_wp2_with fail
    go_ret;refine⟨Qal ?_,hBx⟩;cases V
    ·rfl
    ·exact absurd ((HV.out.1 rfl k HK.out (e,q) HM.out).1) (by rw [hkn'.out];decide)
   ·have u:=d6.c6
    go_wp2_with fail
    refine(Qg6 _ q L _ (hT.below hBx) (hr.below hBx)).mono ?_;rintro e3 w3 ⟨rfl,hb3⟩;replace hBx:=bt hBx hb3;replace d6:=d6.below hb3 d6.lt;clear hb3 u;by_cases hq:q=0
    ·have hs:(q.num.sign==0)=true:=by rw [Qeb,hq];rfl
     go_wp2_with fail
     go_ret;refine⟨Qal ?_,hBx⟩;cases V
     ·rfl
     ·exact absurd hq ((HV.out.1 rfl k HK.out (e,q) HM.out).2.1)
    ·have hs:(q.num.sign==0)=false:=by rw [Qeb];exact decide_eq_false hq
     have HQ:=hid hq;clear hq;have HS:=hid hs;have u:=d6.c6;go_wp2_with fail
     clear u hs;obtain⟨u0,u1,u2,_,_,_⟩:=d6.c6;have v0:=cell_grown d6.lt u0;have v1:=cell_grown d6.lt u1;have v2:=cell_grown d6.lt u2;clear u0 u1 u2;have hmx:prog.follows .mixedOrders=true:=(by kernel_rfl);generalize q.num.sign=sg at*
     by_cases h0:k=0
     ·have hkd:decide (0<k)=false:=decide_eq_false (by omega)
      have hkz:¬(0:Int)<(k:Int):=(by omega);have H0:=hid h0;have HBX:=hid hBx;clear h0 hBx hB hT hr d6 hb6 hPw
      go_big_region_o
      all_goals go_wp2_with fail
      refine⟨⟨k+1,HK.out,congrArg (Value.int _) (by omega),HBX.out.drew,show Hid _ from Qf4 HO.out (fun m hm2=>?_)⟩,by simp [intOf];have:=HK.out;omega⟩;obtain rfl:(e,q)=m:=Option.some.inj (HM.out.symm.trans hm2);exact⟨hkn'.out,HQ.out,fun h=>absurd h (by have:=H0.out;omega)⟩
     ·have hkd:decide (0<k)=true:=decide_eq_true (by omega)
      have H0:=hid h0;obtain⟨⟨e0,q0⟩,hm0⟩:∃m,l[k-1]? =some m:=⟨l[k-1],List.getElem?_eq_getElem (by have:=HK.out;omega)⟩;obtain⟨b1,o1,nb1,A1,n1,c1,B1,m1,e1,heq,hb1,hat1,_⟩:=hPw.at6 hm0;obtain⟨rfl,rfl⟩:b1=b/\o1=o:=by simpa [eq_comm] using heq
      obtain⟨y0,y1,y2,_,_,_⟩:=hat1.below hBx.drew hb1;obtain⟨z0,z1,z2,_,_,_⟩:=(d6.drew).c6;have HM0:=hid hm0;obtain⟨k1,hk1⟩:∃k1,k-1=k1:=⟨_,rfl⟩;rw [hk1]at y0 y1 y2;have hkk:(k:Int) - 1=(k1:Int):=(by omega);have hw1:IntKind.i64.wrap (k1:Int)=(k1:Int):=IntWalk.i64_in _ (by have:=HK.out;omega);have hkl:(k1:Int)<(l.length:Int):=(by have:=HK.out;omega);have HK1:=hid hk1;have HBX:=hid hBx.drew;have hlt1:b1<w3.drew.heap.size:=Nat.lt_of_lt_of_le hb1 hBx.size;have hlt6:wr.heap.size<w3.drew.heap.size:=d6.lt;have D6:=d6.drew;obtain⟨V2,hV2⟩:∃V2,lexI (e0.1,e0.2.1,e0.2.2) (e.1,e.2.1,e.2.2)=V2:=⟨_,rfl⟩;have hcg:=Qh8 e0.1 e0.2.1 e0.2.2 e.1 e.2.1 e.2.2 w3.drew V2 hV2;have HV2:=hid hV2;have HC:=hid hcg;have HB1:=hid hb1;clear h0 hBx hB hT hr d6 hb6 hPw hm0 hk1 hV2 heq hcg
      go_region_held3 (fun w'=>(w'.cell? ⟨b1,o1+k1*6,none⟩=some (.int .i64 e0.1)/\w'.cell? ⟨b1,o1+k1*6+1,none⟩=some (.int .i64 e0.2.1)/\w'.cell? ⟨b1,o1+k1*6+2,none⟩=some (.int .i64 e0.2.2))/\(w'.cell? ⟨wr.heap.size,0,none⟩=some (.int .i64 e.1)/\w'.cell? ⟨wr.heap.size,1,none⟩=some (.int .i64 e.2.1)/\w'.cell? ⟨wr.heap.size,2,none⟩=some (.int .i64 e.2.2)))
       (first|with_reducible exact⟨⟨y0,y1,y2⟩,⟨z0,z1,z2⟩⟩|with_reducible exact⟨⟨y3,y4,y5⟩,⟨z3,z4,z5⟩⟩|fail)
       (first
        |(go_at_call 184;refine HC.out.mono ?_;rintro e5 w5 ⟨rfl,q5,os5,hw5⟩;have hb5:Below w3.drew.heap.size w3.drew w5:=by rw [hw5];exact Lib.below_grow w3.drew.heap.size w3.drew (Nat.le_refl _) q5 os5
          have HW5:=hid hw5;clear hw5;have y3:=(World.cell?_of_block (a:=⟨b1,o1+k1*6,none⟩) (hb5.block b1 hlt1)).trans y0;have y4:=(World.cell?_of_block (a:=⟨b1,o1+k1*6+1,none⟩) (hb5.block b1 hlt1)).trans y1;have y5:=(World.cell?_of_block (a:=⟨b1,o1+k1*6+2,none⟩) (hb5.block b1 hlt1)).trans y2;obtain⟨z3,z4,z5,_,_,_⟩:=(D6.below hb5 hlt6).c6)
        |fail)
      have hb5:Below w.heap.size w w5:=by
       refine HBX.out.trans (Below.mono ?_ HBX.out.size);rw [HW5.out];exact Lib.below_grow w3.drew.heap.size w3.drew (Nat.le_refl _) q5 os5
      by_cases hv:V2<=0
      ·have HV:=hid HV
       have HVV:=hid hv;go_wp2_with fail
       go_ret;refine⟨Qal ?_,hb5⟩;cases V
       ·rfl
       ·have h3:=(HV.out.out.1 rfl k HK.out (e,q) HM.out).2.2 (by have:=H0.out;omega) (e0,q0) HM0.out
        have h4:=HV2.out;have h5:=HVV.out;have h6:lexI e0 e=V2:=h4;rw [h6]at h3;omega
      ·have HVV:=hid hv
       go_wp2_with fail
       refine⟨⟨k+1,HK.out,congrArg (Value.int _) (by omega),hb5,show Hid _ from Qf4 HO.out (fun m hm2=>?_)⟩,by simp [intOf];have:=HK.out;omega⟩;obtain rfl:(e,q)=m:=Option.some.inj (HM.out.symm.trans hm2);refine⟨hkn'.out,HQ.out,fun _ p hp=>?_⟩;obtain rfl:(e0,q0)=p:=Option.some.inj (HM0.out.symm.trans hp);have h4:=HV2.out;have h6:lexI e0 e=V2:=h4;have h5:=HVV.out;show 0<lexI e0 e;omega
  ·obtain rfl:k=l.length:=by omega
   have hlt:¬(l.length:Int)<(l.length:Int):=(by omega);go_wp2_with fail
   go_ret;refine⟨Qal ?_,hB⟩;exact(HV.out.2 HO.out).symm
end Go.Proofs.YthbhgelncdnmgaaGreatDoor
