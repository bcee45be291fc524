import Derived.Test.YthbhgelncdnmgaaGreatDoorY06
import Derived.Deep.LoopGhost
set_option linter.unusedVariables false
set_option linter.unusedSimpArgs false
set_option maxRecDepth 20000
set_option maxHeartbeats 4000000
namespace Go.Proofs.YthbhgelncdnmgaaGreatDoor
open Go.Proofs.Tryz
open Lib (hid)
open Nat (le_refl le_trans eq_zero_or_pos mod_lt le_of_lt lt_of_le_of_lt pos_of_ne_zero)
open Go.RowKit
theorem Qla(A A':Option Addr)(B nx cx n cy a b c d cnt X Y x y:Nat)(w:World)(hx:Own w B (limbs X) A nx cx)(hy:Own w B (limbs Y) A' n cy)(hdis:Disj A A')(hBw:B<=w.heap.size)(hn0:0<n)(hnn:n<=nx)(hn:nx<=268435456)
 (ha:a<4294967296)(hb:b<4294967296)(hc:c<4294967296)(hd:d<4294967296)(hh:cnt<=4294967296)(hR:Rel X Y x y a b c d cnt)(hyx:y<x)(hxY:x<=Y):
 Calls prog 326 #[.agg #[.int .u64 a,.int .u64 b,.int .u64 c,.int .u64 d,.int .i64 cnt],.slice A nx cx,.slice A' n cy] w (RetApply w B x y):=by
 have hlt:Y<P n:=by have:=Qap Y;rwa [<-hy.len]at this
 rcases hR with⟨h0,h1,h2,_⟩|⟨h0,h1,h2,_⟩
 ·obtain⟨h,rfl⟩:∃h,cnt=2*h:=⟨cnt / 2,by omega⟩
  rw [show((2*h:Nat):Int)=2*(h:Int)from by omega];exact Qpy A A' B nx cx n cy a b c d h X Y x y w hx hy hdis hBw hn0 hnn hn ha hb hc hd (by omega) ⟨h1,by omega⟩ ⟨h2,by omega⟩
 ·obtain⟨h,rfl⟩:∃h,cnt=2*h+1:=⟨cnt / 2,by omega⟩
  rw [show((2*h+1:Nat):Int)=2*(h:Int)+1 from by omega];exact Qrq A A' B nx cx n cy a b c d h X Y x y w hx hy hdis hBw hn0 hnn hn ha hb hc hd (by omega) ⟨h1,by omega⟩ ⟨h2,by omega⟩
def Dis(A:Option Addr)(n:Nat)(A':Option Addr)(n':Nat):Prop:=0<n->0<n'->Disj A A'
theorem Own.lt{w:World}{B n c:Nat}{l:List Nat}{A:Option Addr}(h:Own w B l A n c)(hn:0<n):∀a,A=some a->a.block<w.heap.size:=fun a ha=>by
 obtain⟨b,pre,post,hA,_,hr⟩:=h.row hn;rw [hA]at ha;cases ha;exact Qas hr
theorem Own.ge{w:World}{B n c:Nat}{l:List Nat}{A:Option Addr}(h:Own w B l A n c)(hn:0<n):∀a,A=some a->B<=a.block:=fun a ha=>by
 obtain⟨b,pre,post,hA,hB,hr⟩:=h.row hn;rw [hA]at ha;cases ha;exact hB
def RetB(w0:World)(B G:Nat)(e:Ending)(w':World):Prop:=∃A n c,e=.returned (.slice A n c)/\Own w' B (limbs G) A n c/\Below B w0 w'
theorem Qrr(A A':Option Addr)(B nx cx ny cy X Y:Nat)(w:World)(hT:Tab w)(hx:Own w B (limbs X) A nx cx)(hy:Own w B (limbs Y) A' ny cy)(hdis:Dis A nx A' ny)(hBw:B<=w.heap.size)(hn:nx<=268435456)(hYX:Y<=X)(hTB:∀w',Below B w w'->Tab w'):
 Calls prog 291 #[.slice A nx cx,.slice A' ny cy] w (RetB w B (Nat.gcd X Y)):=by
 have HYX:=hid hYX;have HTB:=hid hTB;obtain⟨v,hv⟩:∃v,cmpI (X:Int) (Y:Int)=v:=⟨_,rfl⟩;have hv0:0<=v:=by rw [<-hv];unfold cmpI;rw [if_neg (by omega)];split<;>omega
 have hd:decide (v<0)=false:=by simp;omega
 have HC:=hid hv;have hny:ny<=nx:=by rw [hx.len,hy.len];exact Qad hYX
 clear hYX hTB hv;go_enter func291,ntmps291;go_wp2_with (go_at_call 219;refine(Qcm _ _ _ _ _ _ X Y _ v hx.num hy.num (by omega) (by omega) HC).mono ?_;rintro e w' ⟨rfl,q,rfl⟩)
 go_loopg [0,1] Y (fun g s0 s1 wr=> ∃(A1 A2:Option Addr) (n1 c1 n2 c2 U V:Nat),s0=.slice A1 n1 c1/\s1=.slice A2 n2 c2/\Own wr B (limbs U) A1 n1 c1/\Own wr B (limbs V) A2 n2 c2/\Dis A1 n1 A2 n2/\Below B w wr/\n1<=268435456/\V<=g/\Hid (V<=U/\Nat.gcd U V=Nat.gcd X Y))
 case atStart=>exact⟨A,A',nx,cx,ny,cy,X,Y,rfl,rfl,hx.drewN q,hy.drewN q,hdis,Qa6 w q B,hn,le_refl _,show Hid _ from⟨HYX.out,rfl⟩⟩
 case round=>
  obtain⟨A1,A2,n1,c1,n2,c2,U,V,rfl,rfl,h1,h2,hd12,hbel,hn1,hVg,HI⟩:=hrel;clear hx hy hT;have hBr:B<=wr.heap.size:=le_trans hBw hbel.size;have hn21:n2<=n1:=by rw [h1.len,h2.len];exact Qad HI.out.1
  by_cases hlen:2<n2
  ·have hV0:V≠0:=by
    intro h0;have:=h2.len;rw [h0,Qaf]at this;simp at this;omega
   have HV0:=hid hV0;clear hV0;have hl1:=h1.len;have hDisj:Disj A1 A2:=hd12 (by omega) (by omega);have HL1:=hid hl1;clear hl1;go_wp2_with fail
   refine(Qoo A1 A2 n1 c1 n2 c2 (n1-3) U V _ h1.num h2.num (by omega) hn1 HI.out.1).mono ?_;rintro e w1 ⟨a,b,c,d,cnt,rfl,hgood,hb1⟩;have HGOOD:=hid hgood;clear hgood;have hbA:Below wr.heap.size wr (w1.alloc (.cells #[.int .u64 (a:Int),.int .u64 (b:Int),.int .u64 (c:Int),.int .u64 (d:Int),.int .i64 (cnt:Int)] 306)):=hb1.alloc hb1.size _;have h1':=h1.below hbA (le_refl _);have h2':=h2.below hbA (le_refl _);by_cases hcnt:0<cnt
   ·go_wp2_with fail
    obtain⟨x,y,hR,hyx,hxV,ha,hb,hc,hd4,hcn⟩:∃x y,Rel U V x y a b c d cnt/\y<x/\x<=V/\a<4294967296/\b<4294967296/\c<4294967296/\d<4294967296/\cnt<=4294967296:=by
     rcases HGOOD.out with h|⟨x,y,r1,r2,r3,_,r5,r6,r7,r8,r9⟩
     ·omega
     ·exact⟨x,y,r1,r2,r3,r5,r6,r7,r8,r9⟩
    refine(Qla A1 A2 B n1 c1 n2 c2 a b c d cnt U V x y _ h1' h2' hDisj (le_trans hBr hbA.size) (by omega) hn21 hn1 ha hb hc hd4 hcn hR hyx hxV).mono ?_;rintro e w3 ⟨A3,n3,c3,A4,n4,c4,rfl,h3,h4,hd34,hb3⟩;have hg34:Nat.gcd x y=Nat.gcd X Y:=(by rw [hR.gcd];exact HI.out.2);have HG34:=hid hg34;have HXV:=hid hxV;have HYX':=hid hyx;have hn3:n3<=268435456:=(by rw [h3.len];have:=Qad hxV;have:=h2.len;omega);clear hR hg34;go_wp2_with fail
    go_roundg y
    case measure=>omega
    case rel=>exact⟨A3,A4,n3,c3,n4,c4,x,y,rfl,rfl,h3,h4,fun _ _=>hd34,(hbel.trans (hbA.mono hBr)).trans hb3,hn3,le_refl _,show Hid _ from⟨le_of_lt HYX'.out,HG34.out⟩⟩
   ·obtain rfl:cnt=0:=by omega
    go_wp2_with fail
    refine(Qc3 A1 A2 n1 c1 n2 c2 U V _ h1'.num h2'.num hn1 (by omega) HV0.out).mono ?_;rintro e w3 ⟨A3,n3,c3,A4,n4,c4,rfl,h3,h4,hb3⟩;have hVp:0<V:=(by have:=HV0.out;omega);have hmod:U%V<V:=mod_lt _ hVp;have hgm:Nat.gcd V (U%V)=Nat.gcd X Y:=(by rw [<-HI.out.2,Nat.gcd_comm U V,Nat.gcd_rec V U,Nat.gcd_comm]);have HGM:=hid hgm;have HMOD:=hid hmod;clear hgm;have h2'':=h2'.below hb3 (le_refl _);have h2lt:=h2'.lt (by omega);have h4ge:=h4.ge;have hB3:B<=w1.heap.size+1:=(by have:=hb1.size;omega);go_wp2_with fail
    go_roundg (U%V)
    case measure=>omega
    case rel=>
     exact⟨A2,A4,n2,c2,n4,c4,V,U%V,rfl,rfl,h2'',h4.more (le_trans hBr hbA.size),fun _ h0 p p' hp hp'=>by have e1:=h2lt p hp;have e2:=h4ge h0 p' hp';omega,
      (hbel.trans (hbA.mono hBr)).trans (hb3.mono (le_trans hBr hbA.size)),by omega,le_refl _,show Hid _ from⟨le_of_lt HMOD.out,HGM.out⟩⟩
  ·have two:∀ {z nz:Nat},nz=(limbs z).length->nz<=2->z<18446744073709551616:=fun {z nz} h1 h2=>by
    have h3:=Qap z;have h4:P (limbs z).length<=P 2:=Qjl (by omega);have h5:P 2=18446744073709551616:=(by rw [Qa2 1,Qa2 0,Qfj]);omega
   have TWO:Hid (∀ {z nz:Nat},nz=(limbs z).length->nz<=2->z<18446744073709551616):=two;clear two;by_cases h20:n2=0
   ·subst h20
    have hV0:V=0:=Qae.1 h2.len.symm;have HV0:=hid hV0;have HG:Hid (U=Nat.gcd X Y):=by
     show _=_;rw [<-HI.out.2,hV0,Nat.gcd_zero_right]
    clear hV0;by_cases hn12:2<n1
    ·have hdt:decide ((2:Int)<n1)=true:=by simp;omega
     go_wp2_with fail
     go_ret;rw [<-HG.out];exact⟨_,_,_,rfl,h1,hbel⟩
    ·have hdt:decide ((2:Int)<n1)=false:=by simp;omega
     have hdt':decide (2<n1)=false:=(by simp;omega);go_wp2_with fail
     go_ret;rw [<-HG.out];exact⟨_,_,_,rfl,h1,hbel⟩
   ·have hVp:0<V:=by
     rcases eq_zero_or_pos V with h|h
     ·exfalso;have:=h2.len;rw [h,Qaf]at this;exact h20 (by simpa using this)
     ·exact h
    have hn20:((n2:Int)==0)=false:=(by simp;omega);have hn2p:0<n2:=(by omega);have BV:Hid (V<18446744073709551616):=TWO.out h2.len (by omega);by_cases hn12:2<n1
    ·have hdt:decide ((2:Int)<n1)=true:=by simp;omega
     have hdt2:decide ((0:Int)<n2)=true:=(by simp;omega);have hdt3:decide (0<n2)=true:=(by simp;omega);have hmod:U%V<V:=mod_lt _ hVp;have hgm:Nat.gcd V (U%V)=Nat.gcd X Y:=(by rw [<-HI.out.2,Nat.gcd_comm U V,Nat.gcd_rec V U,Nat.gcd_comm]);have HGM:=hid hgm;have HMOD:=hid hmod;clear hgm hmod;have hV0:Hid (V≠0):=(by show V≠0;omega);go_wp2_with fail
     refine(Qc3 A1 A2 n1 c1 n2 c2 U V _ h1.num h2.num hn1 (by omega) hV0.out).mono ?_;rintro e w3 ⟨A3,n3,c3,A4,n4,c4,rfl,h3,h4,hb3⟩;have h2'':=h2.below hb3 (le_refl _);have hbw3:Below B w w3:=hbel.trans (hb3.mono hBr);have h42:n4<=n2:=(by rw [h4.len,h2.len];exact Qad (le_of_lt HMOD.out));by_cases h40:n4=0
     ·subst h40
      have hz:U%V=0:=Qae.1 h4.len.symm;have HG:Hid (V=Nat.gcd X Y):=by
       show _=_;rw [<-HGM.out,hz,Nat.gcd_zero_right]
      clear hz;go_wp2_with fail
      go_ret;rw [<-HG.out];exact⟨_,_,_,rfl,h2'',hbw3⟩
     ·have hn40:((n4:Int)==0)=false:=by simp;omega
      have BM:Hid (U%V<18446744073709551616):=TWO.out h4.len (by omega);have BG:Hid (Nat.gcd V (U%V)<18446744073709551616):=lt_of_le_of_lt (Nat.le_of_dvd hVp (Nat.gcd_dvd_left _ _)) BV.out;have hT3:=HTB.out w3 hbw3;obtain⟨rm,hrm⟩:∃rm,U%V=rm:=⟨_,rfl⟩;rw [hrm]at h4 HGM BM BG;clear hrm HMOD;go_wp2_with fail
      refine(Qcd _ _ _ V _ h2''.num (by omega)).mono ?_;rintro e w' ⟨rfl,rfl⟩;go_wp2_with fail
      refine(Qcd _ _ _ rm _ h4.num (by omega)).mono ?_;rintro e w' ⟨rfl,rfl⟩;go_wp2_with fail
      refine(Qa9 V rm (Nat.gcd V rm) _ hT3 BV BM rfl).mono ?_;rintro e w' ⟨rfl,rfl⟩;go_wp2_with fail
      refine(Qc1 (Nat.gcd V rm) _ BG.out).mono ?_;rintro e w7 ⟨A7,n7,c7,rfl,h7,hb7⟩;go_wp2_with fail
      go_ret;rw [<-HGM.out];exact⟨_,_,_,rfl,h7.more (le_trans hBr hb3.size),hbw3.trans (hb7.mono (le_trans hBr hb3.size))⟩
    ·have hdt:decide ((2:Int)<n1)=false:=by simp;omega
     have hdt':decide (2<n1)=false:=(by simp;omega);have BU:Hid (U<18446744073709551616):=TWO.out h1.len (by omega);have BG:Hid (Nat.gcd U V<18446744073709551616):=lt_of_le_of_lt (Nat.le_of_dvd hVp (Nat.gcd_dvd_right _ _)) BV.out;have hT3:=HTB.out wr hbel;go_wp2_with fail
     refine(Qcd _ _ _ U _ h1.num (by omega)).mono ?_;rintro e w' ⟨rfl,rfl⟩;go_wp2_with fail
     refine(Qcd _ _ _ V _ h2.num (by omega)).mono ?_;rintro e w' ⟨rfl,rfl⟩;go_wp2_with fail
     refine(Qa9 U V (Nat.gcd U V) _ hT3 BU BV rfl).mono ?_;rintro e w' ⟨rfl,rfl⟩;go_wp2_with fail
     refine(Qc1 (Nat.gcd U V) _ BG.out).mono ?_;rintro e w7 ⟨A7,n7,c7,rfl,h7,hb7⟩;go_wp2_with fail
     go_ret;rw [<-HI.out.2];exact⟨_,_,_,rfl,h7.more hBr,hbel.trans (hb7.mono hBr)⟩
theorem Qrs(A A':Option Addr)(B nx cx ny cy X Y:Nat)(w:World)(hT:Tab w)(hx:Own w B (limbs X) A nx cx)(hy:Own w B (limbs Y) A' ny cy)(hdis:Dis A nx A' ny)(hBw:B<=w.heap.size)(hn:nx<=268435456)(hYX:Y<X)(hTB:∀w',Below B w w'->Tab w'):
 Calls prog 291 #[.slice A' ny cy,.slice A nx cx] w (RetB w B (Nat.gcd X Y)):=by
 have HYX:Hid (Y<=X):=le_of_lt hYX;have HTB:=hid hTB;have HC:Hid (cmpI (Y:Int) (X:Int)= -1):=Qb2 (by omega);have hny:ny<=nx:=by rw [hx.len,hy.len];exact Qad HYX.out
 clear hYX hTB;go_enter func291,ntmps291;go_wp2_with (go_at_call 219;refine(Qcm _ _ _ _ _ _ Y X _ (-1) hy.num hx.num (by omega) (by omega) HC).mono ?_;rintro e w' ⟨rfl,q,rfl⟩)
 go_loopg [0,1] Y (fun g s0 s1 wr=> ∃(A1 A2:Option Addr) (n1 c1 n2 c2 U V:Nat),s0=.slice A1 n1 c1/\s1=.slice A2 n2 c2/\Own wr B (limbs U) A1 n1 c1/\Own wr B (limbs V) A2 n2 c2/\Dis A1 n1 A2 n2/\Below B w wr/\n1<=268435456/\V<=g/\Hid (V<=U/\Nat.gcd U V=Nat.gcd X Y))
 case atStart=>exact⟨A,A',nx,cx,ny,cy,X,Y,rfl,rfl,hx.drewN q,hy.drewN q,hdis,Qa6 w q B,hn,le_refl _,show Hid _ from⟨HYX.out,rfl⟩⟩
 case round=>
  obtain⟨A1,A2,n1,c1,n2,c2,U,V,rfl,rfl,h1,h2,hd12,hbel,hn1,hVg,HI⟩:=hrel;clear hx hy hT;have hBr:B<=wr.heap.size:=le_trans hBw hbel.size;have hn21:n2<=n1:=by rw [h1.len,h2.len];exact Qad HI.out.1
  by_cases hlen:2<n2
  ·have hV0:V≠0:=by
    intro h0;have:=h2.len;rw [h0,Qaf]at this;simp at this;omega
   have HV0:=hid hV0;clear hV0;have hl1:=h1.len;have hDisj:Disj A1 A2:=hd12 (by omega) (by omega);have HL1:=hid hl1;clear hl1;go_wp2_with fail
   refine(Qoo A1 A2 n1 c1 n2 c2 (n1-3) U V _ h1.num h2.num (by omega) hn1 HI.out.1).mono ?_;rintro e w1 ⟨a,b,c,d,cnt,rfl,hgood,hb1⟩;have HGOOD:=hid hgood;clear hgood;have hbA:Below wr.heap.size wr (w1.alloc (.cells #[.int .u64 (a:Int),.int .u64 (b:Int),.int .u64 (c:Int),.int .u64 (d:Int),.int .i64 (cnt:Int)] 306)):=hb1.alloc hb1.size _;have h1':=h1.below hbA (le_refl _);have h2':=h2.below hbA (le_refl _);by_cases hcnt:0<cnt
   ·go_wp2_with fail
    obtain⟨x,y,hR,hyx,hxV,ha,hb,hc,hd4,hcn⟩:∃x y,Rel U V x y a b c d cnt/\y<x/\x<=V/\a<4294967296/\b<4294967296/\c<4294967296/\d<4294967296/\cnt<=4294967296:=by
     rcases HGOOD.out with h|⟨x,y,r1,r2,r3,_,r5,r6,r7,r8,r9⟩
     ·omega
     ·exact⟨x,y,r1,r2,r3,r5,r6,r7,r8,r9⟩
    refine(Qla A1 A2 B n1 c1 n2 c2 a b c d cnt U V x y _ h1' h2' hDisj (le_trans hBr hbA.size) (by omega) hn21 hn1 ha hb hc hd4 hcn hR hyx hxV).mono ?_;rintro e w3 ⟨A3,n3,c3,A4,n4,c4,rfl,h3,h4,hd34,hb3⟩;have hg34:Nat.gcd x y=Nat.gcd X Y:=(by rw [hR.gcd];exact HI.out.2);have HG34:=hid hg34;have HXV:=hid hxV;have HYX':=hid hyx;have hn3:n3<=268435456:=(by rw [h3.len];have:=Qad hxV;have:=h2.len;omega);clear hR hg34;go_wp2_with fail
    go_roundg y
    case measure=>omega
    case rel=>exact⟨A3,A4,n3,c3,n4,c4,x,y,rfl,rfl,h3,h4,fun _ _=>hd34,(hbel.trans (hbA.mono hBr)).trans hb3,hn3,le_refl _,show Hid _ from⟨le_of_lt HYX'.out,HG34.out⟩⟩
   ·obtain rfl:cnt=0:=by omega
    go_wp2_with fail
    refine(Qc3 A1 A2 n1 c1 n2 c2 U V _ h1'.num h2'.num hn1 (by omega) HV0.out).mono ?_;rintro e w3 ⟨A3,n3,c3,A4,n4,c4,rfl,h3,h4,hb3⟩;have hVp:0<V:=(by have:=HV0.out;omega);have hmod:U%V<V:=mod_lt _ hVp;have hgm:Nat.gcd V (U%V)=Nat.gcd X Y:=(by rw [<-HI.out.2,Nat.gcd_comm U V,Nat.gcd_rec V U,Nat.gcd_comm]);have HGM:=hid hgm;have HMOD:=hid hmod;clear hgm;have h2'':=h2'.below hb3 (le_refl _);have h2lt:=h2'.lt (by omega);have h4ge:=h4.ge;have hB3:B<=w1.heap.size+1:=(by have:=hb1.size;omega);go_wp2_with fail
    go_roundg (U%V)
    case measure=>omega
    case rel=>
     exact⟨A2,A4,n2,c2,n4,c4,V,U%V,rfl,rfl,h2'',h4.more (le_trans hBr hbA.size),fun _ h0 p p' hp hp'=>by have e1:=h2lt p hp;have e2:=h4ge h0 p' hp';omega,
      (hbel.trans (hbA.mono hBr)).trans (hb3.mono (le_trans hBr hbA.size)),by omega,le_refl _,show Hid _ from⟨le_of_lt HMOD.out,HGM.out⟩⟩
  ·have two:∀ {z nz:Nat},nz=(limbs z).length->nz<=2->z<18446744073709551616:=fun {z nz} h1 h2=>by
    have h3:=Qap z;have h4:P (limbs z).length<=P 2:=Qjl (by omega);have h5:P 2=18446744073709551616:=(by rw [Qa2 1,Qa2 0,Qfj]);omega
   have TWO:Hid (∀ {z nz:Nat},nz=(limbs z).length->nz<=2->z<18446744073709551616):=two;clear two;by_cases h20:n2=0
   ·subst h20
    have hV0:V=0:=Qae.1 h2.len.symm;have HV0:=hid hV0;have HG:Hid (U=Nat.gcd X Y):=by
     show _=_;rw [<-HI.out.2,hV0,Nat.gcd_zero_right]
    clear hV0;by_cases hn12:2<n1
    ·have hdt:decide ((2:Int)<n1)=true:=by simp;omega
     go_wp2_with fail
     go_ret;rw [<-HG.out];exact⟨_,_,_,rfl,h1,hbel⟩
    ·have hdt:decide ((2:Int)<n1)=false:=by simp;omega
     have hdt':decide (2<n1)=false:=(by simp;omega);go_wp2_with fail
     go_ret;rw [<-HG.out];exact⟨_,_,_,rfl,h1,hbel⟩
   ·have hVp:0<V:=by
     rcases eq_zero_or_pos V with h|h
     ·exfalso;have:=h2.len;rw [h,Qaf]at this;exact h20 (by simpa using this)
     ·exact h
    have hn20:((n2:Int)==0)=false:=(by simp;omega);have hn2p:0<n2:=(by omega);have BV:Hid (V<18446744073709551616):=TWO.out h2.len (by omega);by_cases hn12:2<n1
    ·have hdt:decide ((2:Int)<n1)=true:=by simp;omega
     have hdt2:decide ((0:Int)<n2)=true:=(by simp;omega);have hdt3:decide (0<n2)=true:=(by simp;omega);have hmod:U%V<V:=mod_lt _ hVp;have hgm:Nat.gcd V (U%V)=Nat.gcd X Y:=(by rw [<-HI.out.2,Nat.gcd_comm U V,Nat.gcd_rec V U,Nat.gcd_comm]);have HGM:=hid hgm;have HMOD:=hid hmod;clear hgm hmod;have hV0:Hid (V≠0):=(by show V≠0;omega);go_wp2_with fail
     refine(Qc3 A1 A2 n1 c1 n2 c2 U V _ h1.num h2.num hn1 (by omega) hV0.out).mono ?_;rintro e w3 ⟨A3,n3,c3,A4,n4,c4,rfl,h3,h4,hb3⟩;have h2'':=h2.below hb3 (le_refl _);have hbw3:Below B w w3:=hbel.trans (hb3.mono hBr);have h42:n4<=n2:=(by rw [h4.len,h2.len];exact Qad (le_of_lt HMOD.out));by_cases h40:n4=0
     ·subst h40
      have hz:U%V=0:=Qae.1 h4.len.symm;have HG:Hid (V=Nat.gcd X Y):=by
       show _=_;rw [<-HGM.out,hz,Nat.gcd_zero_right]
      clear hz;go_wp2_with fail
      go_ret;rw [<-HG.out];exact⟨_,_,_,rfl,h2'',hbw3⟩
     ·have hn40:((n4:Int)==0)=false:=by simp;omega
      have BM:Hid (U%V<18446744073709551616):=TWO.out h4.len (by omega);have BG:Hid (Nat.gcd V (U%V)<18446744073709551616):=lt_of_le_of_lt (Nat.le_of_dvd hVp (Nat.gcd_dvd_left _ _)) BV.out;have hT3:=HTB.out w3 hbw3;obtain⟨rm,hrm⟩:∃rm,U%V=rm:=⟨_,rfl⟩;rw [hrm]at h4 HGM BM BG;clear hrm HMOD;go_wp2_with fail
      refine(Qcd _ _ _ V _ h2''.num (by omega)).mono ?_;rintro e w' ⟨rfl,rfl⟩;go_wp2_with fail
      refine(Qcd _ _ _ rm _ h4.num (by omega)).mono ?_;rintro e w' ⟨rfl,rfl⟩;go_wp2_with fail
      refine(Qa9 V rm (Nat.gcd V rm) _ hT3 BV BM rfl).mono ?_;rintro e w' ⟨rfl,rfl⟩;go_wp2_with fail
      refine(Qc1 (Nat.gcd V rm) _ BG.out).mono ?_;rintro e w7 ⟨A7,n7,c7,rfl,h7,hb7⟩;go_wp2_with fail
      go_ret;rw [<-HGM.out];exact⟨_,_,_,rfl,h7.more (le_trans hBr hb3.size),hbw3.trans (hb7.mono (le_trans hBr hb3.size))⟩
    ·have hdt:decide ((2:Int)<n1)=false:=by simp;omega
     have hdt':decide (2<n1)=false:=(by simp;omega);have BU:Hid (U<18446744073709551616):=TWO.out h1.len (by omega);have BG:Hid (Nat.gcd U V<18446744073709551616):=lt_of_le_of_lt (Nat.le_of_dvd hVp (Nat.gcd_dvd_right _ _)) BV.out;have hT3:=HTB.out wr hbel;go_wp2_with fail
     refine(Qcd _ _ _ U _ h1.num (by omega)).mono ?_;rintro e w' ⟨rfl,rfl⟩;go_wp2_with fail
     refine(Qcd _ _ _ V _ h2.num (by omega)).mono ?_;rintro e w' ⟨rfl,rfl⟩;go_wp2_with fail
     refine(Qa9 U V (Nat.gcd U V) _ hT3 BU BV rfl).mono ?_;rintro e w' ⟨rfl,rfl⟩;go_wp2_with fail
     refine(Qc1 (Nat.gcd U V) _ BG.out).mono ?_;rintro e w7 ⟨A7,n7,c7,rfl,h7,hb7⟩;go_wp2_with fail
     go_ret;rw [<-HI.out.2];exact⟨_,_,_,rfl,h7.more hBr,hbel.trans (hb7.mono hBr)⟩
theorem Qpz(A A':Option Addr)(B nx cx ny cy X Y:Nat)(w:World)(hT:Tab w)(hx:Own w B (limbs X) A nx cx)(hy:Own w B (limbs Y) A' ny cy)(hdis:Dis A nx A' ny)(hBw:B<=w.heap.size)(hn:nx<=268435456)(hn':ny<=268435456)(hTB:∀w',Below B w w'->Tab w'):
 Calls prog 291 #[.slice A nx cx,.slice A' ny cy] w (RetB w B (Nat.gcd X Y)):=by
 rcases Nat.lt_or_ge X Y with h|h
 ·rw [Nat.gcd_comm]
  exact Qrs A' A B ny cy nx cx Y X w hT hy hx (fun h1 h2 a a' ha ha' e=>hdis h2 h1 a' a ha' ha e.symm) hBw hn' h hTB
 ·exact Qrr A A' B nx cx ny cy X Y w hT hx hy hdis hBw hn h hTB
theorem Qfu{z nz:Nat}(h1:nz=(limbs z).length)(h2:nz<=2):z<18446744073709551616:=by
 have h3:=Qap z;have h4:P (limbs z).length<=P 2:=Qjl (by omega);have h5:P 2=18446744073709551616:=by rw [Qa2 1,Qa2 0,Qfj]
 omega
theorem Qrt{X Y:Nat}(hX:X<18446744073709551616)(hY:Y<18446744073709551616):Nat.gcd X Y<18446744073709551616:=by
 rcases eq_zero_or_pos X with h|h
 ·subst h;rw [Nat.gcd_zero_left];exact hY
 ·exact lt_of_le_of_lt (Nat.le_of_dvd h (Nat.gcd_dvd_left _ _)) hX
theorem Qw5{x:Nat}(h0:0<x):∃z,IsTz x z:=by
 obtain⟨m,h,_⟩:=Lib.ctzFrom_spec x x h0 Nat.lt_two_pow_self;exact⟨_,m,h⟩
theorem Qop{x z n:Nat}(hz:IsTz x z)(h0:0<x)(hn:(limbs x).length=n):z<=32*n:=by
 have h1:=hz.le h0;have h2:=Qap x;rw [hn,show P n=2^(32*n)from by rw [Nat.pow_mul];rfl]at h2;rcases Nat.lt_or_ge (32*n) z with h|h
 ·have:=Nat.pow_le_pow_right (n:=2) (by decide) (le_of_lt h);omega
 ·exact h
theorem Qjw(A A':Option Addr)(nx cx ny cy X Y:Nat)(w:World)(hT:Tab w)(hx:Num w (limbs X) A nx cx)(hy:Num w (limbs Y) A' ny cy)(h1:nx<=2)(h2:ny<=2):
 Calls prog 245 #[.slice A nx cx,.slice A' ny cy] w (RetOwn w (limbs (Nat.gcd X Y))):=by
 have BX:Hid (X<18446744073709551616):=Qfu hx.len h1;have BY:Hid (Y<18446744073709551616):=Qfu hy.len h2;have BG:Hid (Nat.gcd X Y<18446744073709551616):=Qrt BX.out BY.out;have hd1:decide ((nx:Int)<=2)=true:=by simp;omega
 have hd2:decide ((ny:Int)<=2)=true:=by simp;omega
 have hd1':decide (nx<=2)=true:=by simp;omega
 have hd2':decide (ny<=2)=true:=by simp;omega
 go_enter func245,ntmps245;go_wp2_with fail
 refine(Qcd _ _ _ X _ hx h1).mono ?_;rintro e w' ⟨rfl,rfl⟩;go_wp2_with fail
 refine(Qcd _ _ _ Y _ hy h2).mono ?_;rintro e w' ⟨rfl,rfl⟩;go_wp2_with fail
 refine(Qa9 X Y (Nat.gcd X Y) _ hT BX BY rfl).mono ?_;rintro e w' ⟨rfl,rfl⟩;go_wp2_with fail
 refine(Qc1 (Nat.gcd X Y) _ BG.out).mono ?_;rintro e w7 ⟨A7,n7,c7,rfl,h7,hb7⟩;go_wp2_with fail
 go_ret;exact⟨_,_,_,rfl,h7,hb7⟩
theorem Qjx(A A':Option Addr)(cx ny cy Y:Nat)(w:World)(hy:Num w (limbs Y) A' ny cy)(h2:2<ny)(hn:ny<=268435456):
 Calls prog 245 #[.slice A 0 cx,.slice A' ny cy] w (RetOwn w (limbs Y)):=by
 have hd2:decide ((ny:Int)<=2)=false:=by simp;omega
 have hd2':decide (ny<=2)=false:=by simp;omega
 go_enter func245,ntmps245;go_wp2_with fail
 refine(Qdk _ _ _ _ _ hy (by omega)).mono ?_;rintro e w7 ⟨A7,n7,c7,rfl,h7,hb7⟩;go_wp2_with fail
 go_ret;exact⟨_,_,_,rfl,h7,hb7⟩
theorem Qio(A A':Option Addr)(nx cx cy X:Nat)(w:World)(hx:Num w (limbs X) A nx cx)(h1:2<nx)(hn:nx<=268435456):
 Calls prog 245 #[.slice A nx cx,.slice A' 0 cy] w (RetOwn w (limbs X)):=by
 have hd1:decide ((nx:Int)<=2)=false:=by simp;omega
 have hd1':decide (nx<=2)=false:=by simp;omega
 have hd0:((nx:Int)==0)=false:=by simp;omega
 go_enter func245,ntmps245;go_wp2_with fail
 refine(Qdk _ _ _ _ _ hx (by omega)).mono ?_;rintro e w7 ⟨A7,n7,c7,rfl,h7,hb7⟩;go_wp2_with fail
 go_ret;exact⟨_,_,_,rfl,h7,hb7⟩
theorem Qne(A A':Option Addr)(nx cx ny cy X Y:Nat)(w:World)(hT:Tab w)(hx:Num w (limbs X) A nx cx)(hy:Num w (limbs Y) A' ny cy)(h1:0<nx)(h2:0<ny)(hbig:2<nx\/2<ny)(hn:nx<=8388608)(hn':ny<=8388608):
 Calls prog 245 #[.slice A nx cx,.slice A' ny cy] w (RetOwn w (limbs (Nat.gcd X Y))):=by
 have hX0:0<X:=by
  rcases eq_zero_or_pos X with h|h
  ·have:=hx.len;rw [h,Qaf]at this;simp at this;omega
  ·exact h
 have hY0:0<Y:=by
  rcases eq_zero_or_pos Y with h|h
  ·have:=hy.len;rw [h,Qaf]at this;simp at this;omega
  ·exact h
 obtain⟨i,hi⟩:=Qw5 hX0;obtain⟨k,hk⟩:=Qw5 hY0;have hib:=Qop hi hX0 hx.len.symm;have hkb:=Qop hk hY0 hy.len.symm;have HX:Hid ((X=0/\i=0)\/IsTz X i):=.inr hi;have HY:Hid ((Y=0/\k=0)\/IsTz Y k):=.inr hk;have hd0:((nx:Int)==0)=false:=by simp;omega
 have hd0':((ny:Int)==0)=false:=by simp;omega
 obtain⟨m,hm⟩:∃m,min i k=m:=⟨_,rfl⟩;have hmi:min (i:Int) (k:Int)=(m:Int):=by omega
 have HG:Hid (Nat.gcd (X / 2^i) (Y / 2^k)*2^m=Nat.gcd X Y):=by show _=_;rw [Qw4 hi hk,hm,Nat.mul_comm]
 have hmb:m<=268435456:=by omega
 have hi0:0<X / 2^i:=Nat.div_pos (hi.le hX0) (Nat.pow_pos (by decide));have HXL:Hid ((limbs (X / 2^i)).length<=nx):=by show _<=_;rw [hx.len];exact Qad (Nat.div_le_self _ _)
 have HYL:Hid ((limbs (Y / 2^k)).length<=ny):=by show _<=_;rw [hy.len];exact Qad (Nat.div_le_self _ _)
 have HGL:Hid ((limbs (Nat.gcd (X / 2^i) (Y / 2^k))).length<=nx):=le_trans (Qad (Nat.le_of_dvd hi0 (Nat.gcd_dvd_left _ _))) HXL.out;clear hi hk hm hi0;have hgo:decide ((nx:Int)<=2)=false\/(decide ((nx:Int)<=2)=true/\decide ((ny:Int)<=2)=false):=by
  rcases hbig with h|h
  ·left;simp;omega
  ·by_cases h':nx<=2
   ·right;constructor<;>simp<;>omega
   ·left;simp;omega
 rcases hgo with hd1|⟨hd1,hd2⟩;all_goals
  go_enter func245,ntmps245;go_wp2_with fail
  refine(Qk8 _ _ _ X i _ hT hx (by omega) HX).mono ?_;rintro e w' ⟨rfl,rfl⟩;go_wp2_with fail
  refine(Qk8 _ _ _ Y k _ hT hy (by omega) HY).mono ?_;rintro e w' ⟨rfl,rfl⟩;go_wp2_with fail
  refine(Qho _ _ _ i X _ hx (by omega) (by omega)).mono ?_;rintro e w1 ⟨A1,n1,c1,rfl,ho1,hb1⟩;go_wp2_with fail
  refine(Qho _ _ _ k Y _ (hy.below hb1) (by omega) (by omega)).mono ?_;rintro e w2 ⟨A2,n2,c2,rfl,ho2,hb2⟩;have hn1:n1<=nx:=by rw [ho1.len];exact HXL.out
  have hn2:n2<=ny:=by rw [ho2.len];exact HYL.out
  have hb12:Below w.heap.size w w2:=bt hb1 hb2;have ho1':=ho1.below hb2 (le_refl _);have ho2':=ho2.more hb1.size;have hdis:Dis A1 n1 A2 n2:=fun h h' a a' ha ha'=>by
   have e1:=ho1.lt h a ha;have e2:=ho2.ge h' a' ha';omega
  go_wp2_with fail
  refine(Qpz A1 A2 w.heap.size n1 c1 n2 c2 (X / 2^i) (Y / 2^k) _ (hT.below hb12) ho1' ho2' hdis hb12.size (by omega) (by omega) (fun w' h=>hT.below (hb12.trans h))).mono ?_;rintro e w3 ⟨A3,n3,c3,rfl,ho3,hb3⟩;have hn3:n3<=nx:=by rw [ho3.len];exact HGL.out
  have hb13:=hb12.trans hb3;go_wp2_with fail
  refine(Qjq _ _ _ m _ _ ho3.num (by omega) (by omega)).mono ?_;rintro e w4 ⟨A4,n4,c4,rfl,ho4,hb4⟩;go_wp2_with fail
  go_ret;rw [<-HG.out];exact⟨_,_,_,rfl,ho4.more hb13.size,bt hb13 hb4⟩
theorem Qe5(A A':Option Addr)(nx cx ny cy X Y:Nat)(w:World)(hT:Tab w)(hx:Num w (limbs X) A nx cx)(hy:Num w (limbs Y) A' ny cy)(hn:nx<=8388608)(hn':ny<=8388608):
 Calls prog 245 #[.slice A nx cx,.slice A' ny cy] w (RetOwn w (limbs (Nat.gcd X Y))):=by
 by_cases h:nx<=2/\ny<=2
 ·exact Qjw A A' nx cx ny cy X Y w hT hx hy h.1 h.2
 ·by_cases h1:nx=0
  ·subst h1
   have hX:X=0:=Qae.1 hx.len.symm;subst hX;rw [Nat.gcd_zero_left];exact Qjx A A' cx ny cy Y w hy (by omega) (by omega)
  ·by_cases h2:ny=0
   ·subst h2
    have hY:Y=0:=Qae.1 hy.len.symm;subst hY;rw [Nat.gcd_zero_right];exact Qio A A' nx cx cy X w hx (by omega) (by omega)
   ·exact Qne A A' nx cx ny cy X Y w hT hx hy (by omega) (by omega) (by omega) hn hn'
def RetV(w0:World)(v:Value)(e:Ending)(w':World):Prop:=e=.returned v/\Below w0.heap.size w0 w'
theorem Qa1{a:Nat}:limbs a=[1]↔a=1:=by
 rw [<-Qay];exact⟨Qk0,fun h=>by rw [h]⟩
theorem Qbq(A:Option Addr)(n c:Nat)(l:List Nat)(w:World)(V:Bool)(h:Num w l A n c)(hn:n<=1073741824)(H:Hid (decide (0<n/\l.getD (n-1) 0=0)=V)):
 Calls prog 201 #[.slice A n c] w fun e w'=>e=.returned (.bool V)/\w=w':=by
 rw [<-H.out];exact Qps A n c l w h hn
theorem Qbw(A:Option Addr)(n c:Nat)(l:List Nat)(w:World)(V:Bool)(h:Num w l A n c)(hn:n<=1073741824)(H:Hid (decide (l=[1])=V)):
 Calls prog 202 #[.slice A n c] w fun e w'=>e=.returned (.bool V)/\w=w':=by
 rw [<-H.out];exact Qrh A n c l w h hn
theorem Qjy(A A':Option Addr)(nx cx ny cy X Y:Nat)(w:World)(V:Bool)(hT:Tab w)(hx:Num w (limbs X) A nx cx)(hy:Num w (limbs Y) A' ny cy)(h1:nx<=2)(h2:ny<=2)(HV:Hid ((Nat.gcd X Y==1)=V)):
 Calls prog 203 #[.slice A nx cx,.slice A' ny cy] w (RetV w (.bool V)):=by
 have BX:Hid (X<18446744073709551616):=Qfu hx.len h1;have BY:Hid (Y<18446744073709551616):=Qfu hy.len h2;have hd1:decide ((nx:Int)<=2)=true:=by simp;omega
 have hd2:decide ((ny:Int)<=2)=true:=by simp;omega
 have hd1':decide (nx<=2)=true:=by simp;omega
 have hd2':decide (ny<=2)=true:=by simp;omega
 obtain⟨G,hG⟩:∃G,Nat.gcd X Y=G:=⟨_,rfl⟩;have hq:((G:Int)==1)=V:=by rw [<-HV.out,hG,Bool.eq_iff_iff];simp;omega
 have HG:=hid hG;clear hG;go_enter func203,ntmps203;go_wp2_with fail
 refine(Qcd _ _ _ X _ hx h1).mono ?_;rintro e w' ⟨rfl,rfl⟩;go_wp2_with fail
 refine(Qcd _ _ _ Y _ hy h2).mono ?_;rintro e w' ⟨rfl,rfl⟩;go_wp2_with fail
 refine(Qa9 X Y G _ hT BX BY HG).mono ?_;rintro e w' ⟨rfl,rfl⟩;go_wp2_with fail
 go_ret;exact⟨rfl,Below.refl _ _⟩
theorem Qnf(A A':Option Addr)(nx cx ny cy X Y:Nat)(w:World)(V:Bool)(hT:Tab w)(hx:Num w (limbs X) A nx cx)(hy:Num w (limbs Y) A' ny cy)(hbig:¬(nx<=2/\ny<=2))(hn:nx<=8388608)(hn':ny<=8388608)(HV:Hid ((Nat.gcd X Y==1)=V)):
 Calls prog 203 #[.slice A nx cx,.slice A' ny cy] w (RetV w (.bool V)):=by
 have HG:Hid (decide (limbs (Nat.gcd X Y)=[1])=V):=by
  show _=_;rw [<-HV.out,Bool.eq_iff_iff,decide_eq_true_iff,beq_iff_eq];exact Qa1
 have hGl:Hid ((limbs (Nat.gcd X Y)).length<=1073741824):=by
  show _<=_;rcases eq_zero_or_pos X with h|h
  ·rw [h,Nat.gcd_zero_left,<-hy.len];omega
  ·have:=Qad (Nat.le_of_dvd h (Nat.gcd_dvd_left X Y))
   have:=hx.len;omega
 have hgo:decide ((nx:Int)<=2)=false\/(decide ((nx:Int)<=2)=true/\decide ((ny:Int)<=2)=false):=by
  by_cases h':nx<=2
  ·right;constructor<;>simp<;>omega
  ·left;simp;omega
 rcases hgo with hd1|⟨hd1,hd2⟩;all_goals
  go_enter func203,ntmps203;go_wp2_with fail
  refine(Qe5 _ _ _ _ _ _ X Y _ hT hx hy hn hn').mono ?_;rintro e w1 ⟨A1,n1,c1,rfl,ho1,hb1⟩;have hn1:n1<=1073741824:=by rw [ho1.len];exact hGl.out
  go_wp2_with fail
  refine(Qbw _ _ _ _ _ V ho1.num hn1 HG).mono ?_;rintro e w' ⟨rfl,rfl⟩;go_wp2_with fail
  go_ret;exact⟨rfl,hb1⟩
theorem Qng(A A':Option Addr)(nx cx ny cy X Y:Nat)(w:World)(V:Bool)(hT:Tab w)(hx:Num w (limbs X) A nx cx)(hy:Num w (limbs Y) A' ny cy)(hn:nx<=8388608)(hn':ny<=8388608)(HV:Hid ((Nat.gcd X Y==1)=V)):
 Calls prog 203 #[.slice A nx cx,.slice A' ny cy] w (RetV w (.bool V)):=by
 by_cases h:nx<=2/\ny<=2
 ·exact Qjy A A' nx cx ny cy X Y w V hT hx hy h.1 h.2 HV
 ·exact Qnf A A' nx cx ny cy X Y w V hT hx hy h hn hn' HV
def pad(l:List Nat):Bool:=decide (0<l.length/\l.getD (l.length-1) 0=0)
def vld(neg:Bool)(ln ld:List Nat):Bool:=
 if pad ln then false else if pad ld then false else if ld=[1]then false else if ln=[]then decide (ld=[]) && !neg else decide (ld=[])||(Nat.gcd (val ln) (val ld)==1)
theorem Qby{l:List Nat}(hl:Lim l)(h:pad l=false):l=limbs (val l):=by
 refine(Qm7 hl fun e=>?_).symm;rcases List.eq_nil_or_concat l with rfl|⟨r,x,rfl⟩
 ·simp at e
 ·simp only [List.concat_eq_append]at*
  simp at e;subst e;simp [pad]at h
theorem Qc4(neg:Bool)(A A':Option Addr)(n c m c':Nat)(ln ld:List Nat)(w:World)(V:Bool)(hT:Tab w)(hx:Num w ln A n c)(hy:Num w ld A' m c')(hn:n<=8388608)(hm:m<=8388608)(HV:Hid (vld neg ln ld=V)):
 Calls prog 160 #[.agg #[.bool neg,.slice A n c,.slice A' m c']] w (RetV w (.bool V)):=by
 have hbA:Below w.heap.size w (w.alloc (.cells #[.bool neg,.slice A n c,.slice A' m c'] 27)):=(Below.refl _ _).alloc (le_refl _) _;have hx1:=hx.below hbA;have hy1:=hy.below hbA;have hT1:=hT.below hbA;have HP1:Hid (decide (0<n/\ln.getD (n-1) 0=0)=pad ln):=by show _=_;rw [hx.len];rfl
 have HP2:Hid (decide (0<m/\ld.getD (m-1) 0=0)=pad ld):=by show _=_;rw [hy.len];rfl
 obtain⟨p1,hp1⟩:∃p1,pad ln=p1:=⟨_,rfl⟩;obtain⟨p2,hp2⟩:∃p2,pad ld=p2:=⟨_,rfl⟩;obtain⟨p3,hp3⟩:∃p3,decide (ld=[1])=p3:=⟨_,rfl⟩;rw [hp1]at HP1;rw [hp2]at HP2;have HP3:=hid hp3;have hv:=HV.out;unfold vld at hv;rw [hp1,hp2]at hv;cases p1
 ·cases p2
  ·cases p3
   ·have h1:¬ld=[1]:=by simpa using hp3
    rw [if_neg h1]at hv;by_cases hn0:n=0
    ·have hln:ln=[]:=List.eq_nil_of_length_eq_zero (by rw [<-hx.len];exact hn0)
     rw [if_pos hln]at hv;simp only [Bool.false_eq_true,if_false]at hv;subst hn0;by_cases hm0:m=0
     ·have hld:ld=[]:=List.eq_nil_of_length_eq_zero (by rw [<-hy.len];exact hm0)
      have HW:Hid (V=!neg):=(by show _=_;rw [<-hv,hld];simp);subst hm0;clear h1 hln hld;clear hp1 hp2 hp3 hv;go_enter func160,ntmps160;go_wp2_with fail
      refine(Qbq _ _ _ _ _ false hx1 (by omega) HP1).mono ?_;rintro e w' ⟨rfl,rfl⟩;go_wp2_with fail
      refine(Qbq _ _ _ _ _ false hy1 (by omega) HP2).mono ?_;rintro e w' ⟨rfl,rfl⟩;go_wp2_with fail
      refine(Qbw _ _ _ _ _ false hy1 (by omega) HP3).mono ?_;rintro e w' ⟨rfl,rfl⟩;go_wp2_with fail
      go_ret;rw [HW.out];exact⟨rfl,hbA⟩
     ·have HW:Hid (V=false):=by
       show _=_;have hld:¬ld=[]:=fun h=>hm0 (by rw [hy.len,h];rfl)
       rw [<-hv,decide_eq_false hld];rfl
      have hm0':((m:Int)==0)=false:=(by simp;omega);clear h1 hln;clear hp1 hp2 hp3 hv;go_enter func160,ntmps160;go_wp2_with fail
      refine(Qbq _ _ _ _ _ false hx1 (by omega) HP1).mono ?_;rintro e w' ⟨rfl,rfl⟩;go_wp2_with fail
      refine(Qbq _ _ _ _ _ false hy1 (by omega) HP2).mono ?_;rintro e w' ⟨rfl,rfl⟩;go_wp2_with fail
      refine(Qbw _ _ _ _ _ false hy1 (by omega) HP3).mono ?_;rintro e w' ⟨rfl,rfl⟩;go_wp2_with fail
      go_ret;rw [HW.out];exact⟨rfl,hbA⟩
    ·have hln:¬ln=[]:=fun h=>hn0 (by rw [hx.len,h];rfl)
     rw [if_neg hln]at hv;simp only [Bool.false_eq_true,if_false]at hv;have hn0':((n:Int)==0)=false:=(by simp;omega);by_cases hm0:m=0
     ·have hld:ld=[]:=List.eq_nil_of_length_eq_zero (by rw [<-hy.len];exact hm0)
      have HW:Hid (V=true):=(by show _=_;rw [<-hv,hld];simp);subst hm0;clear h1 hln hld;clear hp1 hp2 hp3 hv;go_enter func160,ntmps160;go_wp2_with fail
      refine(Qbq _ _ _ _ _ false hx1 (by omega) HP1).mono ?_;rintro e w' ⟨rfl,rfl⟩;go_wp2_with fail
      refine(Qbq _ _ _ _ _ false hy1 (by omega) HP2).mono ?_;rintro e w' ⟨rfl,rfl⟩;go_wp2_with fail
      refine(Qbw _ _ _ _ _ false hy1 (by omega) HP3).mono ?_;rintro e w' ⟨rfl,rfl⟩;go_wp2_with fail
      go_ret;rw [HW.out];exact⟨rfl,hbA⟩
     ·have hld:¬ld=[]:=fun h=>hm0 (by rw [hy.len,h];rfl)
      have hm0':((m:Int)==0)=false:=(by simp;omega);have e1:=Qby hx.lim hp1;have e2:=Qby hy.lim hp2;have HC:Hid ((Nat.gcd (val ln) (val ld)==1)=V):=(by show _=_;rw [<-hv,decide_eq_false hld];rfl);have hx2:Num (w.alloc (.cells #[.bool neg,.slice A n c,.slice A' m c'] 27)) (limbs (val ln)) A n c:=(by rw [<-e1];exact hx1);have hy2:Num (w.alloc (.cells #[.bool neg,.slice A n c,.slice A' m c'] 27)) (limbs (val ld)) A' m c':=(by rw [<-e2];exact hy1);clear h1 hln hld e1 e2;clear hp1 hp2 hp3 hv;go_enter func160,ntmps160;go_wp2_with fail
      refine(Qbq _ _ _ _ _ false hx1 (by omega) HP1).mono ?_;rintro e w' ⟨rfl,rfl⟩;go_wp2_with fail
      refine(Qbq _ _ _ _ _ false hy1 (by omega) HP2).mono ?_;rintro e w' ⟨rfl,rfl⟩;go_wp2_with fail
      refine(Qbw _ _ _ _ _ false hy1 (by omega) HP3).mono ?_;rintro e w' ⟨rfl,rfl⟩;go_wp2_with fail
      refine(Qng _ _ _ _ _ _ (val ln) (val ld) _ V hT1 hx2 hy2 hn hm HC).mono ?_;rintro e w2 ⟨rfl,hb2⟩;go_wp2_with fail
      go_ret;exact⟨rfl,bt hbA hb2⟩
   ·have HW:Hid (V=false):=by
     have h1:ld=[1]:=(by simpa using hp3);rw [if_pos h1]at hv;exact hv.symm
    clear hp1 hp2 hp3 hv;go_enter func160,ntmps160;go_wp2_with fail
    refine(Qbq _ _ _ _ _ false hx1 (by omega) HP1).mono ?_;rintro e w' ⟨rfl,rfl⟩;go_wp2_with fail
    refine(Qbq _ _ _ _ _ false hy1 (by omega) HP2).mono ?_;rintro e w' ⟨rfl,rfl⟩;go_wp2_with fail
    refine(Qbw _ _ _ _ _ true hy1 (by omega) HP3).mono ?_;rintro e w' ⟨rfl,rfl⟩;go_wp2_with fail
    go_ret;rw [HW.out];exact⟨rfl,hbA⟩
  ·have HW:Hid (V=false):=hv.symm
   clear hp1 hp2 hp3 hv;go_enter func160,ntmps160;go_wp2_with fail
   refine(Qbq _ _ _ _ _ false hx1 (by omega) HP1).mono ?_;rintro e w' ⟨rfl,rfl⟩;go_wp2_with fail
   refine(Qbq _ _ _ _ _ true hy1 (by omega) HP2).mono ?_;rintro e w' ⟨rfl,rfl⟩;go_wp2_with fail
   go_ret;rw [HW.out];exact⟨rfl,hbA⟩
 ·have HW:Hid (V=false):=hv.symm
  clear hp1 hp2 hp3 hv;go_enter func160,ntmps160;go_wp2_with fail
  refine(Qbq _ _ _ _ _ true hx1 (by omega) HP1).mono ?_;rintro e w' ⟨rfl,rfl⟩;go_wp2_with fail
  go_ret;rw [HW.out];exact⟨rfl,hbA⟩
end Go.Proofs.YthbhgelncdnmgaaGreatDoor
namespace Go.Proofs.YthbhgelncdnmgaaGreatDoor
open Go.Proofs.Tryz
open Lib (hid)
open Nat (le_refl le_trans eq_zero_or_pos mod_lt le_of_lt lt_of_le_of_lt pos_of_ne_zero)
def sgn(neg:Bool)(a:Nat):Int:=if neg then -(a:Int)else(a:Int)
theorem Qe6(neg:Bool)(a:Nat):(sgn neg a).natAbs=a:=by unfold sgn;cases neg<;>simp
theorem Qjz(neg:Bool)(a:Nat):decide (sgn neg a<0)=(neg && decide (a≠0)):=by
 unfold sgn;cases neg
 ·simp
 ·simp only [if_true,Bool.true_and]
  exact decide_eq_decide.2 (by omega)
theorem Qx3(x y:Bool)(a b:Nat):sgn x a*sgn y b=sgn (x !=y) (a*b):=by
 unfold sgn;cases x<;>cases y<;>simp<;>grind
theorem Qx4(x:Bool)(a:Nat):sgn (!x) a= - sgn x a:=by unfold sgn;cases x<;>simp
theorem Qbc(x:Bool)(a b:Nat):sgn x a*(b:Int)=sgn x (a*b):=by unfold sgn;cases x<;>simp<;>grind
theorem Qj0(v:Int):sgn (decide (v<0)) v.natAbs=v:=by
 unfold sgn;by_cases h:v<0
 ·simp only [h,decide_true,if_true];omega
 ·simp only [h,decide_false,Bool.false_eq_true,if_false];omega
def qv(neg:Bool)(a d:Nat):Rat:=mkRat (sgn neg a) d
theorem Qc5{neg:Bool}{a d:Nat}(hd:d≠0)(hg:Nat.gcd a d=1):(qv neg a d).num=sgn neg a/\(qv neg a d).den=d:=by
 unfold qv;rw [Rat.num_mkRat,Rat.den_mkRat,if_neg hd,if_neg hd,Qe6,Nat.gcd_comm,hg];simp
theorem Qdn(q:Rat):qv (decide (q.num<0)) q.num.natAbs q.den=q:=by
 unfold qv;rw [Qj0,Rat.mkRat_self]
theorem Qoq(neg:Bool){a d k:Nat}(hk:k≠0):qv neg (a*k) (d*k)=qv neg a d:=by
 unfold qv;rw [<-Qbc,Rat.mkRat_mul_right hk]
theorem Qbt(neg:Bool){a d:Nat}(hd:d≠0):qv neg (a / Nat.gcd a d) (d / Nat.gcd a d)=qv neg a d/\d / Nat.gcd a d≠0/\Nat.gcd (a / Nat.gcd a d) (d / Nat.gcd a d)=1:=by
 have hg:0<Nat.gcd a d:=Nat.gcd_pos_of_pos_right _ (pos_of_ne_zero hd);refine⟨?_,?_,?_⟩
 ·rw [<-Qoq neg (Nat.pos_iff_ne_zero.1 hg),Nat.div_mul_cancel (Nat.gcd_dvd_left _ _),Nat.div_mul_cancel (Nat.gcd_dvd_right _ _)]
 ·exact Nat.pos_iff_ne_zero.1 (Nat.div_gcd_pos_of_pos_right _ (pos_of_ne_zero hd))
 ·exact Nat.gcd_div_gcd_div_gcd_of_pos_right (pos_of_ne_zero hd)
theorem Qva{x:Bool}{a b c d:Nat}(hb:b≠0)(hd:d≠0)(h1:Nat.gcd a b=1)(h2:Nat.gcd c d=1):
 qv x ((a / Nat.gcd a d)*(c / Nat.gcd c b)) ((b / Nat.gcd c b)*(d / Nat.gcd a d))=qv x (a*c) (b*d)/\
 (b / Nat.gcd c b)*(d / Nat.gcd a d)≠0/\Nat.gcd ((a / Nat.gcd a d)*(c / Nat.gcd c b)) ((b / Nat.gcd c b)*(d / Nat.gcd a d))=1:=by
 have hg1:0<Nat.gcd a d:=Nat.gcd_pos_of_pos_right _ (pos_of_ne_zero hd);have hg2:0<Nat.gcd c b:=Nat.gcd_pos_of_pos_right _ (pos_of_ne_zero hb);obtain⟨_,n1,c1⟩:=Qbt x (a:=a) hd;obtain⟨_,n2,c2⟩:=Qbt x (a:=c) hb;generalize hga:Nat.gcd a d=g1 at*
 generalize hgc:Nat.gcd c b=g2 at*
 have ea:a / g1*g1=a:=Nat.div_mul_cancel (hga▸Nat.gcd_dvd_left _ _);have ed:d / g1*g1=d:=Nat.div_mul_cancel (hga▸Nat.gcd_dvd_right _ _);have ec:c / g2*g2=c:=Nat.div_mul_cancel (hgc▸Nat.gcd_dvd_left _ _);have eb:b / g2*g2=b:=Nat.div_mul_cancel (hgc▸Nat.gcd_dvd_right _ _);generalize a / g1=a' at*
 generalize d / g1=d' at*
 generalize c / g2=c' at*
 generalize b / g2=b' at*
 refine⟨?_,Nat.mul_ne_zero n2 n1,?_⟩
 ·have:=Qoq x (a:=a'*c') (d:=b'*d') (k:=g1*g2) (Nat.mul_ne_zero (by omega) (by omega))
  rw [<-this]
  congr 1
  ·rw [<-ea,<-ec];grind
  ·rw [<-eb,<-ed];grind
 ·have c3:Nat.Coprime a' b':=by
   have:Nat.Coprime (a'*g1) (b'*g2):=by rw [ea,eb];exact h1
   exact(this.coprime_mul_right).coprime_mul_right_right
  have c4:Nat.Coprime c' d':=by
   have:Nat.Coprime (c'*g2) (d'*g1):=by rw [ec,ed];exact h2
   exact(this.coprime_mul_right).coprime_mul_right_right
  exact Nat.Coprime.mul_left (Nat.Coprime.mul_right c3 c1) (Nat.Coprime.mul_right c2 c4)
theorem Qw6(x y:Bool)(a b c d:Nat):qv x a b*qv y c d=qv (x !=y) (a*c) (b*d):=by
 unfold qv;rw [Rat.mkRat_mul_mkRat,Qx3]
theorem qv_inv(y:Bool){c d:Nat}(hc:c≠0):(qv y c d)⁻¹=qv y d c:=by
 unfold qv;rw [<-Rat.divInt_ofNat,Rat.inv_divInt,<-Rat.divInt_ofNat];cases y
 ·rfl
 ·show Rat.divInt (d:Int) (-(c:Int))=Rat.divInt (-(d:Int)) (c:Int)
  rw [Rat.divInt_neg']
theorem qv_div(x y:Bool)(a b:Nat){c d:Nat}(hc:c≠0):qv x a b / qv y c d=qv (x !=y) (a*d) (b*c):=by
 rw [Rat.div_def,qv_inv y hc,Qw6]
theorem qv_neg(x:Bool)(a b:Nat): - qv x a b=qv (!x) a b:=by
 unfold qv;rw [Rat.neg_mkRat,Qx4]
theorem Qw7{x y:Bool}{a b c d g t:Nat}{z:Bool}(hb:b≠0)(hd:d≠0)(h1:Nat.gcd a b=1)(h2:Nat.gcd c d=1)(hg:Nat.gcd b d=g)
 (ht:sgn z t=sgn x (a*(d / g))+sgn y (c*(b / g))):
 qv z (t / Nat.gcd t g) ((b / g)*(d / g)*(g / Nat.gcd t g))=qv x a b+qv y c d/\(b / g)*(d / g)*(g / Nat.gcd t g)≠0/\Nat.gcd (t / Nat.gcd t g) ((b / g)*(d / g)*(g / Nat.gcd t g))=1:=by
 obtain⟨n1,m1⟩:=Qc5 (neg:=x) hb h1;obtain⟨n2,m2⟩:=Qc5 (neg:=y) hd h2;have hsum:=Rat.add_def' (qv x a b) (qv y c d);have haux:=Rat.add.aux (qv x a b) (qv y c d) (g:=g) (ad:=b / g) (bd:=d / g) (by rw [m1,m2,hg]) (by rw [m1]) (by rw [m2]);rw [n1,m1,n2,m2]at hsum;simp only [n1,n2,m2]at haux;have hg0:0<g:=hg▸Nat.gcd_pos_of_pos_right _ (pos_of_ne_zero hd);have eb:b / g*g=b:=Nat.div_mul_cancel (hg▸Nat.gcd_dvd_left _ _);have ed:d / g*g=d:=Nat.div_mul_cancel (hg▸Nat.gcd_dvd_right _ _);rw [Qbc,Qbc,<-ht,Qe6]at haux;generalize b / g=b' at*
 generalize d / g=d' at*
 have hgt:0<Nat.gcd t g:=Nat.gcd_pos_of_pos_right _ hg0;have eg:g / Nat.gcd t g*Nat.gcd t g=g:=Nat.div_mul_cancel (Nat.gcd_dvd_right _ _);have hden:b'*d'*(g / Nat.gcd t g)=(b'*d) / Nat.gcd t g:=by
  rw [<-ed,<-Nat.mul_assoc,Nat.mul_div_assoc _ (Nat.gcd_dvd_right _ _)]
 have hbd:b'*d≠0:=Nat.mul_ne_zero (fun h=>hb (by rw [<-eb,h,Nat.zero_mul])) hd;have hkey:=Qbt z (a:=t) hbd;rw [<-haux]at hkey;rw [hden];refine⟨?_,hkey.2.1,hkey.2.2⟩;rw [hkey.1,hsum];unfold qv;rw [<-Rat.mkRat_mul_right (n:=sgn z t) (d:=b'*d) (Nat.pos_iff_ne_zero.1 hg0),ht]
 congr 1
 ·rw [Int.add_mul,Qbc,Qbc,Qbc,Qbc]
  congr 2
  ·rw [<-ed];grind
  ·rw [<-eb];grind
 ·rw [<-eb];grind
end Go.Proofs.YthbhgelncdnmgaaGreatDoor
