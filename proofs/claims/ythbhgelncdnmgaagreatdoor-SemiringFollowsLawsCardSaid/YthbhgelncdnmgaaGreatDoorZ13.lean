import Derived.Test.YthbhgelncdnmgaaGreatDoorZ12
import Derived.Deep.CutRange
set_option linter.unusedVariables false
set_option linter.unusedSimpArgs false
set_option maxRecDepth 20000
set_option maxHeartbeats 2000000
namespace Go.Proofs.YthbhgelncdnmgaaGreatDoor
open Go.Proofs.Tryz
open Lib (hid)
open Nat (le_refl le_trans)
open Go.RowKit
def Clean2(w:World)(x y:Rat)(wx:World):Prop:=∃nb1 A1 n1 c1 B1 m1 e1 nb2 A2 n2 c2 B2 m2 e2,
 RatQ wx (.agg #[.bool nb1,.slice A1 n1 c1,.slice B1 m1 e1]) x/\RatQ wx (.agg #[.bool nb2,.slice A2 n2 c2,.slice B2 m2 e2]) y/\
 Rc wx w.heap.size (.bool nb1) (.slice A1 n1 c1) (.slice B1 m1 e1)/\Rc wx (w.heap.size+1) (.bool nb2) (.slice A2 n2 c2) (.slice B2 m2 e2)/\Below w.heap.size w wx
theorem Clean2.of{w w2:World}{x y:Rat}{nb1 nb2 u1 u2:Bool}{A1 B1 A2 B2 C1 D1 C2 D2:Option Addr}{n1 c1 m1 e1 n2 c2 m2 e2 i1 j1 k1 l1 i2 j2 k2 l2:Nat}
 (h1:RatQ w2 (.agg #[.bool nb1,.slice A1 n1 c1,.slice B1 m1 e1]) x)(h2:RatQ w2 (.agg #[.bool nb2,.slice A2 n2 c2,.slice B2 m2 e2]) y)
 (hx:Rc w2 w.heap.size (.bool u1) (.slice C1 i1 j1) (.slice D1 k1 l1))(hy:Rc w2 (w.heap.size+1) (.bool u2) (.slice C2 i2 j2) (.slice D2 k2 l2))(hb:Below w.heap.size w w2):
 Clean2 w x y ((((((w2.setCell ⟨w.heap.size,0,none⟩ (.bool nb1)).setCell ⟨w.heap.size,1,none⟩ (.slice A1 n1 c1)).setCell ⟨w.heap.size,2,none⟩ (.slice B1 m1 e1)).setCell ⟨w.heap.size+1,0,none⟩ (.bool nb2)).setCell ⟨w.heap.size+1,1,none⟩ (.slice A2 n2 c2)).setCell ⟨w.heap.size+1,2,none⟩ (.slice B2 m2 e2)):=by
 have hy1:=hy.far3 (g':=w.heap.size) (by omega) (.bool nb1) (.slice A1 n1 c1) (.slice B1 m1 e1);have hx1:=hx.set (.bool nb1) (.slice A1 n1 c1) (.slice B1 m1 e1);exact⟨_,_,_,_,_,_,_,_,_,_,_,_,_,_,(h1.set3 hx _ _ _).set3 hy1 _ _ _,(h2.set3 hx _ _ _).set3 hy1 _ _ _,hx1.far3 (by omega) _ _ _,hy1.set _ _ _,Qah (Qah hb (le_refl _) _ _ _) (Nat.le_succ _) _ _ _⟩
theorem Qte(v v':Value)(x y r:Rat)(L:Nat)(w:World)(hT:Tab w)(h:Inp w v x L)(h':Inp w v' y L)(sx:Sz x 1000000)(sy:Sz y 1000000)(hr:x*y=r):Calls prog 177 #[v,v'] w (RetRat w r):=by
 have hr':qv (decide (x.num<0) !=decide (y.num<0)) (x.num.natAbs*y.num.natAbs) (x.den*y.den)=r:=by rw [<-Qsy,Qct,Qct,hr]
 have HR:=hid hr';clear hr hr';obtain⟨z0,Z,zn,zc,Z',zm,ze,rfl⟩:=h.agg;obtain⟨y0,Y,yn,yc,Y',ym,ye,rfl⟩:=h'.agg;obtain⟨hbA,hrx,hry,hrr⟩:=blocks3 w (.bool z0) (.slice Z zn zc) (.slice Z' zm ze) (.bool y0) (.slice Y yn yc) (.slice Y' ym ye) (.bool false) (.slice none 0 0) (.slice none 0 0);go_enter func177,ntmps177;have hI:=h.below hbA;have hI':=h'.below hbA;have hTW:=hT.below hbA;go_wp2_with fail
 generalize (((w.alloc (R1 (.bool z0) (.slice Z zn zc) (.slice Z' zm ze))).alloc (R1 (.bool y0) (.slice Y yn yc) (.slice Y' ym ye))).alloc (R1 (.bool false) (.slice none 0 0) (.slice none 0 0)))=W at*
 have hgx:w.heap.size<W.drew.heap.size:=hrx.lt;have hgy:w.heap.size+1<W.drew.heap.size:=hry.lt;have hgr:w.heap.size+1+1<W.drew.heap.size:=hrr.lt;replace hrx:=hrx.drew;replace hry:=hry.drew;replace hrr:=hrr.drew;replace hTW:=hTW.drew;replace hI:Inp W.drew _ x L:=hI.below (Below.refl _ _).drew;replace hI':Inp W.drew _ y L:=hI'.below (Below.refl _ _).drew;replace hbA:=hbA.drew;obtain⟨k0,k1,k2⟩:=hrx.cells;obtain⟨l0,l1,l2⟩:=hry.cells
 go_cut []from 5 to 8 (fun wx=>Clean2 w x y wx/\Rc wx (w.heap.size+1+1) (.bool false) (.slice none 0 0) (.slice none 0 0))
 case first=>
  go_region_with (first
   |(have _g:=hb1;go_at_call 178;refine(Qce _ y L _ (hTW.below hb1) (hI'.below hb1)).mono ?_;rintro e w2 ⟨v2,rfl,h2,hb2⟩;have hb12:=bt hb1 hb2;obtain⟨k0,k1,k2⟩:=(hrx.below hb12 hgx).cells;obtain⟨l0,l1,l2⟩:=(hry.below hb12 hgy).cells;obtain⟨f0,f1,f2⟩:=(hrx.below hb12 hgx).frozen;obtain⟨g0,g1,g2⟩:=(hry.below hb12 hgy).frozen;obtain⟨nb2,A2,n2,c2,B2,m2,e2,rfl⟩:=h2.agg)
   |(go_at_call 178;refine(Qce _ x L _ hTW hI).mono ?_;rintro e w1 ⟨v1,rfl,h1,hb1⟩;obtain⟨k0,k1,k2⟩:=(hrx.below hb1 hgx).cells;obtain⟨l0,l1,l2⟩:=(hry.below hb1 hgy).cells;obtain⟨nb1,A1,n1,c1,B1,m1,e1,rfl⟩:=h1.agg))
  all_goals
   go_wp2_with fail
   go_meet
   exact⟨Clean2.of (h1.below hb2) h2 (hrx.below hb12 hgx) (hry.below hb12 hgy) (bt hbA hb12),((hrr.below hb12 hgr).far3 (by omega) _ _ _).far3 (by omega) _ _ _⟩
 case rest=>
 obtain⟨⟨nb1,A1,n1,c1,B1,m1,e1,nb2,A2,n2,c2,B2,m2,e2,h1,h2,hrx1,hry1,hb1⟩,hrr1⟩:=hcut;clear hrx hry hrr hgx hgy hgr hTW hI hI' hbA k0 k1 k2 l0 l1 l2;have hTw:=hT.below hb1;obtain⟨p1,p2,p3⟩:=h1.parts;obtain⟨q1,q2,q3⟩:=h2.parts;rw [<-p1,<-q1]at HR;clear p1 q1;have hs1:n1<=1000000:=by rw [p2.len];exact sx.1
 have hs2:m1<=1000000:=by rw [p3.len];exact le_trans (Qa1 _) sx.2
 have hs3:n2<=1000000:=by rw [q2.len];exact sy.1
 have hs4:m2<=1000000:=by rw [q3.len];exact le_trans (Qa1 _) sy.2
 have v3:=sx.2;have v4:=sy.2;go_wp2_with fail
 replace hTw:=hTw.drew;replace hrx1:=hrx1.drew;replace hry1:=hry1.drew;replace hrr1:=hrr1.drew;replace p2:=p2.drew;replace p3:=p3.drew;replace q2:=q2.drew;replace q3:=q3.drew;replace hb1:=hb1.drew;clear h1 h2 h h' hT;have hgx:=hrx1.lt;have hgy:=hry1.lt;have hgr:=hrr1.lt;have hsx:=hrx1.cells;have hsy:=hry1.cells
 go_region_held3 (fun w'=>(w'.cell? ⟨w.heap.size,0,none⟩=some (.bool nb1)/\w'.cell? ⟨w.heap.size,1,none⟩=some (.slice A1 n1 c1)/\w'.cell? ⟨w.heap.size,2,none⟩=some (.slice B1 m1 e1))/\(w'.cell? ⟨w.heap.size+1,0,none⟩=some (.bool nb2)/\w'.cell? ⟨w.heap.size+1,1,none⟩=some (.slice A2 n2 c2)/\w'.cell? ⟨w.heap.size+1,2,none⟩=some (.slice B2 m2 e2)))
  (first|exact⟨hsx,hsy⟩|exact⟨⟨Qaa (by omega) hsx.1,Qaa (by omega) hsx.2.1,Qaa (by omega) hsx.2.2⟩,⟨Qaa (by omega) hsy.1,Qaa (by omega) hsy.2.1,Qaa (by omega) hsy.2.2⟩⟩)
  (first
   |(have _g:=hb3;go_at_call 222;refine(Qgy (!(nb1==nb2)) _ _ _ _ _ _ _ _ _ _ _ _ x.num.natAbs x.den y.num.natAbs y.den r _ (hTw.below hb13) (p2.below hb13) (g2.below hb3) (q2.below hb13) g3 ?_ ?_ ?_ ?_ x.den_nz y.den_nz x.reduced y.reduced HR.out).mono ?_;omega;(have:=g2.len;omega);omega;(have:=g3.len;omega);rintro e w4 ⟨v4,rfl,h4,hb4⟩;have hb14:=bt hb13 hb4;have hsx:=(hrx1.below hb14 hgx).cells;have hsy:=(hry1.below hb14 hgy).cells;have hrr4:=hrr1.below hb14 hgr;obtain⟨nb,A,n,c,B,m,e,rfl⟩:=h4.agg;obtain⟨r0,r1,r2⟩:=hrr4.cells;obtain⟨f0,f1,f2⟩:=hrr4.frozen)
   |(have _g:=hb2;go_at_call 221;refine(Qas nb2 A2 B2 n2 c2 m2 e2 y.den _ (q3.below hb2) y.den_nz).mono ?_;rintro e w3 ⟨A4,n4,c4,rfl,g3,hb3⟩;have hb13:=bt hb2 hb3;have hsx:=(hrx1.below hb13 hgx).cells;have hsy:=(hry1.below hb13 hgy).cells)
   |(go_at_call 221;refine(Qas nb1 A1 B1 n1 c1 m1 e1 x.den _ p3 x.den_nz).mono ?_;rintro e w2 ⟨A3,n3,c3,rfl,g2,hb2⟩;have hsx:=(hrx1.below hb2 hgx).cells;have hsy:=(hry1.below hb2 hgy).cells))
 go_wp2_with fail
 refine Qbk results177 rfl (hrr4.set _ _ _) rfl ?_;exact⟨_,rfl,h4.set3 hrr4 _ _ _,Qah (bt hb1 hb14) (by omega) _ _ _⟩
def RetRatE(w0:World)(q:Rat)(E:Int)(e:Ending)(w':World):Prop:=∃v,e=.returned (.tuple #[v,.int .i64 E])/\RatQ w' v q/\Below w0.heap.size w0 w'
theorem Qgp{fn:Func}{p u:Tmp}(hres:fn.results=#[.cell p 27,.tmp u]){R:Ending->World->Prop}{a:Act}{w:World}{g:Nat}{z0 z1 z2 x:Value}(hp:a.tmps.getD p undef=.pointer (some ⟨g,0,none⟩))(hx:a.tmps.getD u undef=x)(h:Rc w g z0 z1 z2)(hd:a.defers=[])
 (hR:R (.returned (.tuple #[.agg #[z0,z1,z2],x])) w):bodyPost prog fn R .ret a w:=by
 refine bodyPost_ret (v:=.tuple #[.agg #[z0,z1,z2],x]) ?_ hd hR;have hp':a.tmps[p]?.getD undef=.pointer (some ⟨g,0,none⟩):=by simpa using hp
 have hx':a.tmps[u]?.getD undef=x:=by simpa using hx
 simp [results,hres,hp',hx',asAddr,run_loadVar_row w g 27 27 #[z0,z1,z2] (0,0) _ h underlying27 rfl (by kernel_rfl)]
theorem Qtf(v v':Value)(x y r:Rat)(L:Nat)(E:Int)(w:World)(hT:Tab w)(h:Inp w v x L)(h':Inp w v' y L)(sx:Sz x 1000000)(sy:Sz y 1000000)(hr:(y=0/\r=0/\E=11)\/(y≠0/\x / y=r/\E=0)):Calls prog 192 #[v,v'] w (RetRatE w r E):=by
 have HR:=hid hr;clear hr;obtain⟨z0,Z,zn,zc,Z',zm,ze,rfl⟩:=h.agg;obtain⟨y0,Y,yn,yc,Y',ym,ye,rfl⟩:=h'.agg;obtain⟨hbA,hrx,hry,hrr⟩:=blocks3 w (.bool z0) (.slice Z zn zc) (.slice Z' zm ze) (.bool y0) (.slice Y yn yc) (.slice Y' ym ye) (.bool false) (.slice none 0 0) (.slice none 0 0);go_enter func192,ntmps192;have hI:=h.below hbA;have hI':=h'.below hbA;have hTW:=hT.below hbA;go_wp2_with fail
 generalize (((w.alloc (R1 (.bool z0) (.slice Z zn zc) (.slice Z' zm ze))).alloc (R1 (.bool y0) (.slice Y yn yc) (.slice Y' ym ye))).alloc (R1 (.bool false) (.slice none 0 0) (.slice none 0 0)))=W at*
 have hgx:w.heap.size<W.drew.heap.size:=hrx.lt;have hgy:w.heap.size+1<W.drew.heap.size:=hry.lt;have hgr:w.heap.size+1+1<W.drew.heap.size:=hrr.lt;replace hrx:=hrx.drew;replace hry:=hry.drew;replace hrr:=hrr.drew;replace hTW:=hTW.drew;replace hI:Inp W.drew _ x L:=hI.below (Below.refl _ _).drew;replace hI':Inp W.drew _ y L:=hI'.below (Below.refl _ _).drew;replace hbA:=hbA.drew;obtain⟨k0,k1,k2⟩:=hrx.cells;obtain⟨l0,l1,l2⟩:=hry.cells
 go_cut []from 5 to 8 (fun wx=>Clean2 w x y wx/\Rc wx (w.heap.size+1+1) (.bool false) (.slice none 0 0) (.slice none 0 0))
 case first=>
  go_region_with (first
   |(have _g:=hb1;go_at_call 178;refine(Qce _ y L _ (hTW.below hb1) (hI'.below hb1)).mono ?_;rintro e w2 ⟨v2,rfl,h2,hb2⟩;have hb12:=bt hb1 hb2;obtain⟨k0,k1,k2⟩:=(hrx.below hb12 hgx).cells;obtain⟨l0,l1,l2⟩:=(hry.below hb12 hgy).cells;obtain⟨f0,f1,f2⟩:=(hrx.below hb12 hgx).frozen;obtain⟨g0,g1,g2⟩:=(hry.below hb12 hgy).frozen;obtain⟨nb2,A2,n2,c2,B2,m2,e2,rfl⟩:=h2.agg)
   |(go_at_call 178;refine(Qce _ x L _ hTW hI).mono ?_;rintro e w1 ⟨v1,rfl,h1,hb1⟩;obtain⟨k0,k1,k2⟩:=(hrx.below hb1 hgx).cells;obtain⟨l0,l1,l2⟩:=(hry.below hb1 hgy).cells;obtain⟨nb1,A1,n1,c1,B1,m1,e1,rfl⟩:=h1.agg))
  all_goals
   go_wp2_with fail
   go_meet
   exact⟨Clean2.of (h1.below hb2) h2 (hrx.below hb12 hgx) (hry.below hb12 hgy) (bt hbA hb12),((hrr.below hb12 hgr).far3 (by omega) _ _ _).far3 (by omega) _ _ _⟩
 case rest=>
 obtain⟨⟨nb1,A1,n1,c1,B1,m1,e1,nb2,A2,n2,c2,B2,m2,e2,h1,h2,hrx1,hry1,hb1⟩,hrr1⟩:=hcut;clear hrx hry hrr hgx hgy hgr hTW hI hI' hbA k0 k1 k2 l0 l1 l2;have hTw:=hT.below hb1;obtain⟨p1,p2,p3⟩:=h1.parts;obtain⟨q1,q2,q3⟩:=h2.parts;have hs1:n1<=1000000:=by rw [p2.len];exact sx.1
 have hs2:m1<=1000000:=by rw [p3.len];exact le_trans (Qa1 _) sx.2
 have hs3:n2<=1000000:=by rw [q2.len];exact sy.1
 have hs4:m2<=1000000:=by rw [q3.len];exact le_trans (Qa1 _) sy.2
 have v3:=sx.2;have v4:=sy.2;have hz:y=0↔n2=0:=by
  rw [q2.len,Qae,Int.natAbs_eq_zero,Rat.num_eq_zero]
 rcases HR.out with⟨hy,hr0,hE⟩|⟨hy,hr1,hE⟩
 ·have hn2:((n2:Int)==0)=true:=by simp;exact hz.1 hy
  subst hr0 hE;obtain⟨r0,r1,r2⟩:=hrr1.cells;obtain⟨f0,f1,f2⟩:=hrr1.frozen;obtain⟨k0,k1,k2⟩:=hrx1.cells;obtain⟨l0,l1,l2⟩:=hry1.cells;clear hz hy HR;go_wp2_with fail
  refine Qgp results192 rfl rfl (hrr1.set _ _ _) rfl ?_;exact⟨_,rfl,Qfv _,Qah hb1 (by omega) _ _ _⟩
 ·have hn2:((n2:Int)==0)=false:=by simp;exact fun h=>hy (hz.2 h)
  have hN:y.num.natAbs≠0:=fun h=>hy (Rat.num_eq_zero.1 (Int.natAbs_eq_zero.1 h))
  have HN:=hid hN;have hr':qv (decide (x.num<0) !=decide (y.num<0)) (x.num.natAbs*y.den) (x.den*y.num.natAbs)=r:=by rw [<-qv_div _ _ _ _ hN,Qct,Qct,hr1]
  have HR':=hid hr';rw [<-p1,<-q1]at HR';have HE:=hid hE;obtain⟨k0,k1,k2⟩:=hrx1.cells;obtain⟨l0,l1,l2⟩:=hry1.cells;clear hr' hr1 hN hz hy HR hE p1 q1;go_wp2_with fail
  replace hTw:=hTw.drew;replace hrx1:=hrx1.drew;replace hry1:=hry1.drew;replace hrr1:=hrr1.drew;replace p2:=p2.drew;replace p3:=p3.drew;replace q2:=q2.drew;replace q3:=q3.drew;replace hb1:=hb1.drew;clear h1 h2 h h' hT;have hgx:=hrx1.lt;have hgy:=hry1.lt;have hgr:=hrr1.lt;have hsx:=hrx1.cells;have hsy:=hry1.cells
  go_region_held3 (fun w'=>(w'.cell? ⟨w.heap.size,0,none⟩=some (.bool nb1)/\w'.cell? ⟨w.heap.size,1,none⟩=some (.slice A1 n1 c1)/\w'.cell? ⟨w.heap.size,2,none⟩=some (.slice B1 m1 e1))/\(w'.cell? ⟨w.heap.size+1,0,none⟩=some (.bool nb2)/\w'.cell? ⟨w.heap.size+1,1,none⟩=some (.slice A2 n2 c2)/\w'.cell? ⟨w.heap.size+1,2,none⟩=some (.slice B2 m2 e2)))
   (first|exact⟨hsx,hsy⟩|exact⟨⟨Qaa (by omega) hsx.1,Qaa (by omega) hsx.2.1,Qaa (by omega) hsx.2.2⟩,⟨Qaa (by omega) hsy.1,Qaa (by omega) hsy.2.1,Qaa (by omega) hsy.2.2⟩⟩)
   (first
    |(have _g:=hb3;go_at_call 222;refine(Qgy (!(nb1==nb2)) _ _ _ _ _ _ _ _ _ _ _ _ x.num.natAbs x.den y.den y.num.natAbs r _ (hTw.below hb13) (p2.below hb13) (g2.below hb3) g3 (q2.below hb13) ?_ ?_ ?_ ?_ x.den_nz HN.out x.reduced y.reduced.symm HR'.out).mono ?_;omega;(have:=g2.len;omega);(have:=g3.len;omega);omega;rintro e w4 ⟨v4,rfl,h4,hb4⟩;have hb14:=bt hb13 hb4;have hsx:=(hrx1.below hb14 hgx).cells;have hsy:=(hry1.below hb14 hgy).cells;have hrr4:=hrr1.below hb14 hgr;obtain⟨nb,A,n,c,B,m,e,rfl⟩:=h4.agg;obtain⟨r0,r1,r2⟩:=hrr4.cells;obtain⟨f0,f1,f2⟩:=hrr4.frozen)
    |(have _g:=hb2;go_at_call 221;refine(Qas nb2 A2 B2 n2 c2 m2 e2 y.den _ (q3.below hb2) y.den_nz).mono ?_;rintro e w3 ⟨A4,n4,c4,rfl,g3,hb3⟩;have hb13:=bt hb2 hb3;have hsx:=(hrx1.below hb13 hgx).cells;have hsy:=(hry1.below hb13 hgy).cells)
    |(go_at_call 221;refine(Qas nb1 A1 B1 n1 c1 m1 e1 x.den _ p3 x.den_nz).mono ?_;rintro e w2 ⟨A3,n3,c3,rfl,g2,hb2⟩;have hsx:=(hrx1.below hb2 hgx).cells;have hsy:=(hry1.below hb2 hgy).cells))
  go_wp2_with fail
  refine Qgp results192 rfl rfl (hrr4.set _ _ _) rfl ?_;rw [HE.out];exact⟨_,rfl,h4.set3 hrr4 _ _ _,Qah (bt hb1 hb14) (by omega) _ _ _⟩
end Go.Proofs.YthbhgelncdnmgaaGreatDoor
namespace Go.Proofs.YthbhgelncdnmgaaGreatDoor
open Go.Proofs.Tryz
open Lib (hid)
open Nat (le_refl le_trans)
structure SV where
 q:Rat
 c:Int
 i:Bool
 s:Nat
 p:List Mon
def svZ:SV:=⟨0,0,false,0,[]⟩
def svQ(x:Rat):SV:=⟨x,0,false,0,[]⟩
def svC(c:Int)(i:Bool):SV:=⟨0,c,i,0,[]⟩
def svS(s:Nat):SV:=⟨0,0,false,s,[]⟩
def svP(p:List Mon):SV:=⟨0,0,false,0,p⟩
abbrev allBits:Nat:=18446744073709551615
abbrev topCost:Int:=1099511627776
def okK(k:Nat)(a:SV):Prop:=
 match k with
 |1=>a=svQ a.q
 |2=>a=svC a.c a.i/\0<=a.c/\a.c<=topCost/\(a.i=true->a.c=0)
 |3=>a=svQ a.q/\0<=a.q/\a.q<=1
 |4=>a=svS a.s/\a.s<=allBits
 |_=>a=svP a.p/\VP a.p
def zeroK(k:Nat):SV:=if k=2 then svC 0 true else svZ
noncomputable def oneK(k:Nat):SV:=
 match k with
 |1=>svQ 1
 |2=>svZ
 |3=>svQ 1
 |4=>svS allBits
 |_=>svP (listOf (constC 1))
def cheapB(a b:SV):Bool:=!a.i && (b.i||decide (a.c<b.c))
noncomputable def plusK(k:Nat)(a b:SV):SV:=
 match k with
 |1=>svQ (a.q+b.q)
 |2=>if cheapB b a=true then svC b.c b.i else svC a.c a.i
 |3=>if a.q<b.q then svQ b.q else svQ a.q
 |4=>svS (a.s|||b.s)
 |_=>svP (listOf (addC (co a.p) (co b.p)))
noncomputable def timesK(k:Nat)(a b:SV):SV:=
 match k with
 |2=>if a.i=true\/b.i=true\/topCost<a.c+b.c then svC 0 true else svC (a.c+b.c) false
 |4=>svS (a.s &&& b.s)
 |5=>svP (listOf (mulC (co a.p) (co b.p)))
 |_=>svQ (a.q*b.q)
theorem kinds5{P:Nat->Prop}(h1:P 1)(h2:P 2)(h3:P 3)(h4:P 4)(h5:P 5):∀k,1<=k->k<=5->P k:=fun k a b=>by
 obtain rfl|rfl|rfl|rfl|rfl:k=1\/k=2\/k=3\/k=4\/k=5:=by omega
 ·exact h1
 ·exact h2
 ·exact h3
 ·exact h4
 ·exact h5
theorem Qd5:∀k,1<=k->k<=5->okK k (zeroK k):=kinds5 rfl ⟨rfl,by decide,by decide,fun _=>rfl⟩ ⟨rfl,by decide,by decide⟩ ⟨rfl,by decide⟩ ⟨rfl,⟨fun _ h=>(by cases h),List.Pairwise.nil⟩⟩
theorem Qxv:∀k,1<=k->k<=5->okK k (oneK k):=kinds5 rfl ⟨rfl,by decide,by decide,fun _=>rfl⟩ ⟨rfl,by decide,by decide⟩ ⟨rfl,by decide⟩ ⟨rfl,Qat _⟩
theorem or_le{a b:Nat}(ha:a<=allBits)(hb:b<=allBits):a|||b<=allBits:=by
 have h:a|||b<2^64:=Nat.or_lt_two_pow (by have:(2:Nat)^64=allBits+1:=by decide
                                          omega) (by have:(2:Nat)^64=allBits+1:=by decide
                                                     omega)
 have:(2:Nat)^64=allBits+1:=by decide
 omega
theorem and_le{a b:Nat}(ha:a<=allBits):a &&& b<=allBits:=le_trans Nat.and_le_left ha
theorem Qy0{a:Nat}(ha:a<=allBits):a &&& allBits=a:=by
 have h:a &&& (2^64-1)=a%2^64:=Nat.and_two_pow_sub_one_eq_mod a 64;have h2:(2:Nat)^64-1=allBits:=by decide
 rw [h2]at h;rw [h]
 exact Nat.mod_eq_of_lt (by have:(2:Nat)^64=allBits+1:=by decide
                            omega)
theorem Qre{x y:Rat}(hx:0<=x/\x<=1)(hy:0<=y/\y<=1):0<=x*y/\x*y<=1:=by
 refine⟨Rat.mul_nonneg hx.1 hy.1,?_⟩;have h1:=Rat.mul_le_mul_of_nonneg_left hy.2 hx.1;rw [Rat.mul_one]at h1;exact Rat.le_trans h1 hx.2
theorem Qtg:∀k,1<=k->k<=5->∀a b,okK k a->okK k b->okK k (plusK k a b):=kinds5
 (fun _ _ _ _=>rfl)
 (fun a b ha hb=>by
  show okK 2 (if cheapB b a=true then svC b.c b.i else svC a.c a.i);split
  ·exact⟨rfl,hb.2.1,hb.2.2.1,hb.2.2.2⟩
  ·exact⟨rfl,ha.2.1,ha.2.2.1,ha.2.2.2⟩)
 (fun a b ha hb=>by
  show okK 3 (if a.q<b.q then svQ b.q else svQ a.q);split
  ·exact⟨rfl,hb.2.1,hb.2.2⟩
  ·exact⟨rfl,ha.2.1,ha.2.2⟩)
 (fun a b ha hb=>⟨rfl,or_le ha.2 hb.2⟩)
 (fun _ _ _ _=>⟨rfl,Qat _⟩)
theorem Qpv:∀k,1<=k->k<=5->∀a b,okK k a->okK k b->okK k (timesK k a b):=kinds5
 (fun _ _ _ _=>rfl)
 (fun a b ha hb=>by
  show okK 2 (if a.i=true\/b.i=true\/topCost<a.c+b.c then svC 0 true else svC (a.c+b.c) false);split
  ·exact⟨rfl,by decide,by decide,fun _=>rfl⟩
  ·rename_i h
   have h1:=ha.2.1;have h2:=hb.2.1;exact⟨rfl,by show 0<=a.c+b.c;omega,by show a.c+b.c<=topCost;omega,fun h=>(by cases h)⟩)
 (fun a b ha hb=>⟨rfl,Qre ha.2 hb.2⟩)
 (fun a b ha hb=>⟨rfl,and_le ha.2⟩)
 (fun _ _ _ _=>⟨rfl,Qat _⟩)
theorem Qjq:∀k,1<=k->k<=5->∀a b,okK k a->okK k b->plusK k a b=plusK k b a:=kinds5
 (fun a b _ _=>by show svQ (a.q+b.q)=svQ (b.q+a.q);rw [Rat.add_comm])
 (fun a b ha hb=>by
  show(if cheapB b a=true then svC b.c b.i else svC a.c a.i)=if cheapB a b=true then svC a.c a.i else svC b.c b.i;have h1:=ha.2.2.2;have h2:=hb.2.2.2;unfold cheapB;cases hi:a.i<;>cases hj:b.i<;>simp [hi,hj]at h1 h2⊢
  ·by_cases h:b.c<a.c
   ·rw [if_pos h,if_neg (by omega)]
   ·rw [if_neg h]
    by_cases h':a.c<b.c
    ·rw [if_pos h']
    ·rw [if_neg h',show a.c=b.c by omega]
  ·rw [h1,h2])
 (fun a b ha hb=>by
  show(if a.q<b.q then svQ b.q else svQ a.q)=if b.q<a.q then svQ a.q else svQ b.q;by_cases h:a.q<b.q
  ·rw [if_pos h,if_neg (Rat.not_lt.2 (Rat.le_of_lt h))]
  ·rw [if_neg h]
   by_cases h':b.q<a.q
   ·rw [if_pos h']
   ·rw [if_neg h',Rat.le_antisymm (Rat.not_lt.1 h') (Rat.not_lt.1 h)])
 (fun a b _ _=>by show svS (a.s|||b.s)=svS (b.s|||a.s);rw [Nat.or_comm])
 (fun a b _ _=>by show svP (listOf (addC _ _))=svP (listOf (addC _ _));rw [Qtc])
theorem Qib:∀k,1<=k->k<=5->∀a b,okK k a->okK k b->timesK k a b=timesK k b a:=kinds5
 (fun a b _ _=>by show svQ (a.q*b.q)=svQ (b.q*a.q);rw [Rat.mul_comm])
 (fun a b ha hb=>by
  show(if a.i=true\/b.i=true\/topCost<a.c+b.c then svC 0 true else svC (a.c+b.c) false)=if b.i=true\/a.i=true\/topCost<b.c+a.c then svC 0 true else svC (b.c+a.c) false;rw [Int.add_comm b.c a.c];by_cases h:a.i=true\/b.i=true\/topCost<a.c+b.c
  ·rw [if_pos h,if_pos (by rcases h with h|h|h<;>simp [h])]
  ·rw [if_neg h,if_neg (fun h'=>h (by rcases h' with h'|h'|h'<;>simp [h']))])
 (fun a b _ _=>by show svQ (a.q*b.q)=svQ (b.q*a.q);rw [Rat.mul_comm])
 (fun a b _ _=>by show svS (a.s &&& b.s)=svS (b.s &&& a.s);rw [Nat.and_comm])
 (fun a b _ _=>by show svP (listOf (mulC _ _))=svP (listOf (mulC _ _));rw [Qia])
theorem Qic:∀k,1<=k->k<=5->∀a b c,okK k a->okK k b->okK k c->plusK k (plusK k a b) c=plusK k a (plusK k b c):=kinds5
 (fun a b c _ _ _=>by show svQ (a.q+b.q+c.q)=svQ (a.q+(b.q+c.q));rw [Rat.add_assoc])
 (fun a b c ha hb hc=>by
  have h1:=ha.2.2.2;have h2:=hb.2.2.2;have h3:=hc.2.2.2;obtain⟨aq,ac,ai,us,ap⟩:=a;obtain⟨bq,bc,bi,bs,bp⟩:=b;obtain⟨cq,cc,ci,cs,cp⟩:=c;simp only at h1 h2 h3;simp only [plusK,cheapB];cases ai<;>cases bi<;>cases ci<;>simp [svC]at h1 h2 h3⊢;all_goals (repeat' split)<;>simp_all<;>omega)
 (fun a b c ha hb hc=>by
  simp only [plusK];obtain⟨aq,ac,ai,us,ap⟩:=a;obtain⟨bq,bc,bi,bs,bp⟩:=b;obtain⟨cq,cc,ci,cs,cp⟩:=c;simp only [svQ];by_cases h1:aq<bq<;>by_cases h2:bq<cq<;>by_cases h3:aq<cq<;>simp [h1,h2,h3]<;>grind)
 (fun a b c _ _ _=>by show svS (a.s|||b.s|||c.s)=svS (a.s|||(b.s|||c.s));rw [Nat.or_assoc])
 (fun a b c ha hb hc=>by
  show svP (listOf (addC (co (listOf (addC _ _))) (co c.p)))=svP (listOf (addC (co a.p) (co (listOf (addC _ _)))));rw [Qa4 (Qn8 (Qe0 ha.2) (Qe0 hb.2)),Qa4 (Qn8 (Qe0 hb.2) (Qe0 hc.2)),Qrb])
theorem Qgz:∀k,1<=k->k<=5->∀a b c,okK k a->okK k b->okK k c->timesK k (timesK k a b) c=timesK k a (timesK k b c):=kinds5
 (fun a b c _ _ _=>by show svQ (a.q*b.q*c.q)=svQ (a.q*(b.q*c.q));rw [Rat.mul_assoc])
 (fun a b c ha hb hc=>by
  have h1:=ha.2;have h2:=hb.2;have h3:=hc.2;obtain⟨aq,ac,ai,us,ap⟩:=a;obtain⟨bq,bc,bi,bs,bp⟩:=b;obtain⟨cq,cc,ci,cs,cp⟩:=c;simp only at h1 h2 h3;simp only [timesK];cases ai<;>cases bi<;>cases ci<;>simp [svC]at h1 h2 h3⊢;have htc:topCost=1099511627776:=rfl;by_cases hab:1099511627776<ac+bc<;>by_cases hbc:1099511627776<bc+cc<;>by_cases hs:1099511627776<ac+bc+cc<;>by_cases hs':1099511627776<ac+(bc+cc)<;>simp [hab,hbc,hs,hs']<;>omega)
 (fun a b c _ _ _=>by show svQ (a.q*b.q*c.q)=svQ (a.q*(b.q*c.q));rw [Rat.mul_assoc])
 (fun a b c _ _ _=>by show svS (a.s &&& b.s &&& c.s)=svS (a.s &&& (b.s &&& c.s));rw [Nat.and_assoc])
 (fun a b c ha hb hc=>by
  show svP (listOf (mulC (co (listOf (mulC _ _))) (co c.p)))=svP (listOf (mulC (co a.p) (co (listOf (mulC _ _)))));rw [Qa4 (Qgo _ _),Qa4 (Qgo _ _),Qrd])
theorem dist5:∀k,1<=k->k<=5->∀a b c,okK k a->okK k b->okK k c->timesK k a (plusK k b c)=plusK k (timesK k a b) (timesK k a c):=kinds5
 (fun a b c _ _ _=>by show svQ (a.q*(b.q+c.q))=svQ (a.q*b.q+a.q*c.q);rw [Rat.mul_add])
 (fun a b c ha hb hc=>by
  have h1:=ha.2;have h2:=hb.2;have h3:=hc.2;obtain⟨aq,ac,ai,us,ap⟩:=a;obtain⟨bq,bc,bi,bs,bp⟩:=b;obtain⟨cq,cc,ci,cs,cp⟩:=c;simp only at h1 h2 h3;simp only [timesK,plusK,cheapB];cases ai<;>cases bi<;>cases ci<;>simp [svC]at h1 h2 h3⊢;all_goals (repeat' split)<;>simp_all<;>omega)
 (fun a b c ha hb hc=>by
  have h1:=ha.2.1;have hm:∀x y:Rat,x<y->¬a.q*y<a.q*x:=fun x y h=>by
   have:=Rat.mul_le_mul_of_nonneg_left (Rat.le_of_lt h) h1;exact Rat.not_lt.2 this
  show svQ (a.q*(if b.q<c.q then svQ c.q else svQ b.q).q)=if a.q*b.q<a.q*c.q then svQ (a.q*c.q)else svQ (a.q*b.q);by_cases h:b.q<c.q
  ·rw [if_pos h]
   have:=hm _ _ h;by_cases h':a.q*b.q<a.q*c.q
   ·rw [if_pos h'];rfl
   ·rw [if_neg h']
    show svQ (a.q*c.q)=svQ (a.q*b.q);rw [Rat.le_antisymm (Rat.not_lt.1 h') (Rat.not_lt.1 this)]
  ·rw [if_neg h]
   have h2:=Rat.mul_le_mul_of_nonneg_left (Rat.not_lt.1 h) h1;rw [if_neg (Rat.not_lt.2 h2)];rfl)
 (fun a b c _ _ _=>by show svS (a.s &&& (b.s|||c.s))=svS ((a.s &&& b.s)|||(a.s &&& c.s));rw [Nat.and_or_distrib_left])
 (fun a b c ha hb hc=>by
  show svP (listOf (mulC (co a.p) (co (listOf (addC _ _)))))=svP (listOf (addC (co (listOf (mulC _ _))) (co (listOf (mulC _ _)))));rw [Qa4 (Qn8 (Qe0 hb.2) (Qe0 hc.2)),Qa4 (Qgo _ _),Qa4 (Qgo _ _),Qvy])
theorem Qjr:∀k,1<=k->k<=5->∀a,okK k a->plusK k a (zeroK k)=a:=kinds5
 (fun a ha=>by rw [ha];show svQ (a.q+0)=svQ a.q;rw [Rat.add_zero])
 (fun a ha=>by
  have h1:=ha.2;rw [ha.1];show(if cheapB (svC 0 true) (svC a.c a.i)=true then svC 0 true else svC a.c a.i)=svC a.c a.i;rfl)
 (fun a ha=>by
  rw [ha.1];show(if a.q<0 then svQ 0 else svQ a.q)=svQ a.q;rw [if_neg (Rat.not_lt.2 ha.2.1)])
 (fun a ha=>by rw [ha.1];show svS (a.s|||0)=svS a.s;rw [Nat.or_zero])
 (fun a ha=>by
  rw [ha.1];show svP (listOf (addC (co a.p) (co [])))=svP a.p;have:addC (co a.p) (co [])=co a.p:=by funext e;show co a.p e+0=co a.p e;exact Rat.add_zero _
  rw [this,Qbs ha.2])
theorem Qjs:∀k,1<=k->k<=5->∀a,okK k a->timesK k a (oneK k)=a:=kinds5
 (fun a ha=>by rw [ha];show svQ (a.q*1)=svQ a.q;rw [Rat.mul_one])
 (fun a ha=>by
  have h1:=ha.2;rw [ha.1];show(if a.i=true\/false=true\/topCost<a.c+0 then svC 0 true else svC (a.c+0) false)=svC a.c a.i;cases hi:a.i with
  |true=>rw [if_pos (.inl rfl),h1.2.2 hi]
  |false=>rw [if_neg (by simp;omega),Int.add_zero])
 (fun a ha=>by rw [ha.1];show svQ (a.q*1)=svQ a.q;rw [Rat.mul_one])
 (fun a ha=>by rw [ha.1];show svS (a.s &&& allBits)=svS a.s;rw [Qy0 ha.2])
 (fun a ha=>by
  rw [ha.1];show svP (listOf (mulC (co a.p) (co (listOf (constC 1)))))=svP a.p;rw [Qa4 (Qh8 1),Qvz (Qe0 ha.2),Qbs ha.2])
theorem Qid:∀k,1<=k->k<=5->∀a,okK k a->timesK k a (zeroK k)=zeroK k:=kinds5
 (fun a ha=>by show svQ (a.q*0)=svQ 0;rw [Rat.mul_zero])
 (fun a ha=>by
  show(if a.i=true\/true=true\/topCost<a.c+0 then svC 0 true else svC (a.c+0) false)=svC 0 true;rw [if_pos (.inr (.inl rfl))])
 (fun a ha=>by show svQ (a.q*0)=svQ 0;rw [Rat.mul_zero])
 (fun a ha=>by show svS (a.s &&& 0)=svS 0;rw [Nat.and_zero])
 (fun a ha=>by
  show svP (listOf (mulC (co a.p) (co [])))=svP [];have h0:co []=zeroC:=rfl;have h1:listOf zeroC=[]:=by unfold listOf zeroC;simp
  rw [h0,Qia,Qtd,h1])
inductive Rg where
 |one (k:Nat)
 |prod (ks:List Nat)
abbrev CW:=SV × List SV
def kind5(k:Nat):Prop:=1<=k/\k<=5
def okRg:Rg->Prop
 | .one k=>kind5 k
 | .prod ks=>2<=ks.length/\ks.length<=3/\∀k∈ks,kind5 k
def okL:List Nat->List SV->Prop
 |[],[]=>True
 |k::ks,a::us=>okK k a/\okL ks us
 |_,_=>False
def okW:Rg->CW->Prop
 | .one k,x=>okK k x.1/\x.2=[]
 | .prod ks,x=>x.1=svZ/\okL ks x.2
def zipK(f:Nat->SV->SV->SV):List Nat->List SV->List SV->List SV
 |k::ks,a::us,b::bs=>f k a b::zipK f ks us bs
 |_,_,_=>[]
def zeroR:Rg->CW
 | .one k=>(zeroK k,[])
 | .prod ks=>(svZ,ks.map zeroK)
noncomputable def oneR:Rg->CW
 | .one k=>(oneK k,[])
 | .prod ks=>(svZ,ks.map oneK)
noncomputable def plusR:Rg->CW->CW->CW
 | .one k,x,y=>(plusK k x.1 y.1,[])
 | .prod ks,x,y=>(svZ,zipK plusK ks x.2 y.2)
noncomputable def timesR:Rg->CW->CW->CW
 | .one k,x,y=>(timesK k x.1 y.1,[])
 | .prod ks,x,y=>(svZ,zipK timesK ks x.2 y.2)
theorem Qkx:∀ {ks:List Nat} {us:List SV},okL ks us->us.length=ks.length
 |[],[],_=>rfl
 |k::ks,a::us,h=>by rw [List.length_cons,List.length_cons,Qkx h.2]
 |[],_::_,h=>h.elim
 |_::_,[],h=>h.elim
theorem Qn9(f:Nat->SV)(hf:∀k,1<=k->k<=5->okK k (f k)):∀ks:List Nat,(∀k∈ks,kind5 k)->okL ks (ks.map f)
 |[],_=>trivial
 |k::ks,h=>⟨hf k (h k (by simp)).1 (h k (by simp)).2,Qn9 f hf ks (fun j hj=>h j (by simp [hj]))⟩
theorem Qoa(f:Nat->SV->SV->SV)(hf:∀k,1<=k->k<=5->∀a b,okK k a->okK k b->okK k (f k a b)):∀(ks:List Nat) (us bs:List SV),(∀k∈ks,kind5 k)->okL ks us->okL ks bs->okL ks (zipK f ks us bs)
 |[],[],[],_,_,_=>trivial
 |k::ks,a::us,b::bs,h,ha,hb=>⟨hf k (h k (by simp)).1 (h k (by simp)).2 a b ha.1 hb.1,Qoa f hf ks us bs (fun j hj=>h j (by simp [hj])) ha.2 hb.2⟩
 |[],_::_,_,_,h,_=>h.elim
 |_::_,[],_,_,h,_=>h.elim
 |[],[],_::_,_,_,h=>h.elim
 |_::_,_::_,[],_,_,h=>h.elim
theorem Qky{f g:Nat->SV->SV->SV}(hf:∀k,1<=k->k<=5->∀a b,okK k a->okK k b->f k a b=g k b a):∀(ks:List Nat) (us bs:List SV),(∀k∈ks,kind5 k)->okL ks us->okL ks bs->zipK f ks us bs=zipK g ks bs us
 |[],[],[],_,_,_=>rfl
 |k::ks,a::us,b::bs,h,ha,hb=>by
  show f k a b::zipK f ks us bs=g k b a::zipK g ks bs us;rw [hf k (h k (by simp)).1 (h k (by simp)).2 a b ha.1 hb.1,Qky hf ks us bs (fun j hj=>h j (by simp [hj])) ha.2 hb.2]
 |[],_::_,_,_,h,_=>h.elim
 |_::_,[],_,_,h,_=>h.elim
 |[],[],_::_,_,_,h=>h.elim
 |_::_,_::_,[],_,_,h=>h.elim
theorem Qie{f:Nat->SV->SV->SV}(hf:∀k,1<=k->k<=5->∀a b c,okK k a->okK k b->okK k c->f k (f k a b) c=f k a (f k b c)):∀(ks:List Nat) (us bs cs:List SV),(∀k∈ks,kind5 k)->okL ks us->okL ks bs->okL ks cs->zipK f ks (zipK f ks us bs) cs=zipK f ks us (zipK f ks bs cs)
 |[],[],[],[],_,_,_,_=>rfl
 |k::ks,a::us,b::bs,c::cs,h,ha,hb,hc=>by
  show f k (f k a b) c::zipK f ks (zipK f ks us bs) cs=f k a (f k b c)::zipK f ks us (zipK f ks bs cs);rw [hf k (h k (by simp)).1 (h k (by simp)).2 a b c ha.1 hb.1 hc.1,Qie hf ks us bs cs (fun j hj=>h j (by simp [hj])) ha.2 hb.2 hc.2]
 |[],_::_,_,_,_,h,_,_=>h.elim
 |_::_,[],_,_,_,h,_,_=>h.elim
 |[],[],_::_,_,_,_,h,_=>h.elim
 |_::_,_::_,[],_,_,_,h,_=>h.elim
 |[],[],[],_::_,_,_,_,h=>h.elim
 |_::_,_::_,_::_,[],_,_,_,h=>h.elim
theorem Qpw{f g:Nat->SV->SV->SV}(hf:∀k,1<=k->k<=5->∀a b c,okK k a->okK k b->okK k c->f k a (g k b c)=g k (f k a b) (f k a c)):∀(ks:List Nat) (us bs cs:List SV),(∀k∈ks,kind5 k)->okL ks us->okL ks bs->okL ks cs->zipK f ks us (zipK g ks bs cs)=zipK g ks (zipK f ks us bs) (zipK f ks us cs)
 |[],[],[],[],_,_,_,_=>rfl
 |k::ks,a::us,b::bs,c::cs,h,ha,hb,hc=>by
  show f k a (g k b c)::zipK f ks us (zipK g ks bs cs)=g k (f k a b) (f k a c)::zipK g ks (zipK f ks us bs) (zipK f ks us cs);rw [hf k (h k (by simp)).1 (h k (by simp)).2 a b c ha.1 hb.1 hc.1,Qpw hf ks us bs cs (fun j hj=>h j (by simp [hj])) ha.2 hb.2 hc.2]
 |[],_::_,_,_,_,h,_,_=>h.elim
 |_::_,[],_,_,_,h,_,_=>h.elim
 |[],[],_::_,_,_,_,h,_=>h.elim
 |_::_,_::_,[],_,_,_,h,_=>h.elim
 |[],[],[],_::_,_,_,_,h=>h.elim
 |_::_,_::_,_::_,[],_,_,_,h=>h.elim
theorem Qdn{f:Nat->SV->SV->SV}{g h:Nat->SV->SV}(z:Nat->SV)(hz:∀k,1<=k->k<=5->∀a,okK k a->f k a (z k)=g k a):∀(ks:List Nat) (us:List SV),(∀k∈ks,kind5 k)->okL ks us->zipK f ks us (ks.map z)=zipK (fun k a _=>g k a) ks us us
 |[],[],_,_=>rfl
 |k::ks,a::us,hk,ha=>by
  show f k a (z k)::zipK f ks us (ks.map z)=g k a::zipK _ ks us us;rw [hz k (hk k (by simp)).1 (hk k (by simp)).2 a ha.1,Qdn (h:=h) z hz ks us (fun j hj=>hk j (by simp [hj])) ha.2]
 |[],_::_,_,h=>h.elim
 |_::_,[],_,h=>h.elim
theorem Qob:∀(ks:List Nat) (us:List SV),okL ks us->zipK (fun _ a _=>a) ks us us=us
 |[],[],_=>rfl
 |k::ks,a::us,h=>by
  show a::zipK (fun _ a _=>a) ks us us=a::us;rw [Qob ks us h.2]
 |[],_::_,h=>h.elim
 |_::_,[],h=>h.elim
theorem Qmd(z:Nat->SV):∀(ks:List Nat) (us:List SV),okL ks us->zipK (fun k _ _=>z k) ks us us=ks.map z
 |[],[],_=>rfl
 |k::ks,a::us,h=>by
  show z k::zipK (fun k _ _=>z k) ks us us=z k::ks.map z;rw [Qmd z ks us h.2]
 |[],_::_,h=>h.elim
 |_::_,[],h=>h.elim
theorem Qem:∀ {r:Rg},okRg r->okW r (zeroR r)
 | .one k,h=>⟨Qd5 k h.1 h.2,rfl⟩
 | .prod ks,h=>⟨rfl,Qn9 _ Qd5 ks h.2.2⟩
theorem Qoc:∀ {r:Rg},okRg r->okW r (oneR r)
 | .one k,h=>⟨Qxv k h.1 h.2,rfl⟩
 | .prod ks,h=>⟨rfl,Qn9 _ Qxv ks h.2.2⟩
theorem Qpx:∀ {r:Rg},okRg r->∀ {x y:CW},okW r x->okW r y->okW r (plusR r x y)
 | .one k,h,_,_,hx,hy=>⟨Qtg k h.1 h.2 _ _ hx.1 hy.1,rfl⟩
 | .prod ks,h,_,_,hx,hy=>⟨rfl,Qoa _ Qtg ks _ _ h.2.2 hx.2 hy.2⟩
theorem Qme:∀ {r:Rg},okRg r->∀ {x y:CW},okW r x->okW r y->okW r (timesR r x y)
 | .one k,h,_,_,hx,hy=>⟨Qpv k h.1 h.2 _ _ hx.1 hy.1,rfl⟩
 | .prod ks,h,_,_,hx,hy=>⟨rfl,Qoa _ Qpv ks _ _ h.2.2 hx.2 hy.2⟩
theorem Qrf:∀ {r:Rg},okRg r->∀ {x y:CW},okW r x->okW r y->plusR r x y=plusR r y x
 | .one k,h,_,_,hx,hy=>congrArg (fun z=>(z,([]:List SV))) (Qjq k h.1 h.2 _ _ hx.1 hy.1)
 | .prod ks,h,_,_,hx,hy=>congrArg (fun z=>(svZ,z)) (Qky Qjq ks _ _ h.2.2 hx.2 hy.2)
theorem Qod:∀ {r:Rg},okRg r->∀ {x y:CW},okW r x->okW r y->timesR r x y=timesR r y x
 | .one k,h,_,_,hx,hy=>congrArg (fun z=>(z,([]:List SV))) (Qib k h.1 h.2 _ _ hx.1 hy.1)
 | .prod ks,h,_,_,hx,hy=>congrArg (fun z=>(svZ,z)) (Qky Qib ks _ _ h.2.2 hx.2 hy.2)
theorem Qoe:∀ {r:Rg},okRg r->∀ {x y z:CW},okW r x->okW r y->okW r z->plusR r (plusR r x y) z=plusR r x (plusR r y z)
 | .one k,h,_,_,_,hx,hy,hz=>congrArg (fun z=>(z,([]:List SV))) (Qic k h.1 h.2 _ _ _ hx.1 hy.1 hz.1)
 | .prod ks,h,_,_,_,hx,hy,hz=>congrArg (fun z=>(svZ,z)) (Qie Qic ks _ _ _ h.2.2 hx.2 hy.2 hz.2)
theorem Qmf:∀ {r:Rg},okRg r->∀ {x y z:CW},okW r x->okW r y->okW r z->timesR r (timesR r x y) z=timesR r x (timesR r y z)
 | .one k,h,_,_,_,hx,hy,hz=>congrArg (fun z=>(z,([]:List SV))) (Qgz k h.1 h.2 _ _ _ hx.1 hy.1 hz.1)
 | .prod ks,h,_,_,_,hx,hy,hz=>congrArg (fun z=>(svZ,z)) (Qie Qgz ks _ _ _ h.2.2 hx.2 hy.2 hz.2)
theorem distR:∀ {r:Rg},okRg r->∀ {x y z:CW},okW r x->okW r y->okW r z->timesR r x (plusR r y z)=plusR r (timesR r x y) (timesR r x z)
 | .one k,h,_,_,_,hx,hy,hz=>congrArg (fun z=>(z,([]:List SV))) (dist5 k h.1 h.2 _ _ _ hx.1 hy.1 hz.1)
 | .prod ks,h,_,_,_,hx,hy,hz=>congrArg (fun z=>(svZ,z)) (Qpw dist5 ks _ _ _ h.2.2 hx.2 hy.2 hz.2)
theorem Qrg:∀ {r:Rg},okRg r->∀ {x:CW},okW r x->plusR r x (zeroR r)=x
 | .one k,h,x,hx=>by
   show(plusK k x.1 (zeroK k),([]:List SV))=x;rw [Qjr k h.1 h.2 _ hx.1,<-hx.2]
 | .prod ks,h,x,hx=>by
   show(svZ,zipK plusK ks x.2 (ks.map zeroK))=x;rw [Qdn (h:=fun _ a=>a) zeroK Qjr ks _ h.2.2 hx.2,Qob ks _ hx.2,<-hx.1]
theorem Qrh:∀ {r:Rg},okRg r->∀ {x:CW},okW r x->timesR r x (oneR r)=x
 | .one k,h,x,hx=>by
   show(timesK k x.1 (oneK k),([]:List SV))=x;rw [Qjs k h.1 h.2 _ hx.1,<-hx.2]
 | .prod ks,h,x,hx=>by
   show(svZ,zipK timesK ks x.2 (ks.map oneK))=x;rw [Qdn (h:=fun _ a=>a) oneK Qjs ks _ h.2.2 hx.2,Qob ks _ hx.2,<-hx.1]
theorem Qof:∀ {r:Rg},okRg r->∀ {x:CW},okW r x->timesR r x (zeroR r)=zeroR r
 | .one k,h,x,hx=>by
   show(timesK k x.1 (zeroK k),([]:List SV))=(zeroK k,[]);rw [Qid k h.1 h.2 _ hx.1]
 | .prod ks,h,x,hx=>by
   show(svZ,zipK timesK ks x.2 (ks.map zeroK))=(svZ,ks.map zeroK);rw [Qdn (h:=fun _ a=>a) (g:=fun k _=>zeroK k) zeroK Qid ks _ h.2.2 hx.2,Qmd zeroK ks _ hx.2]
end Go.Proofs.YthbhgelncdnmgaaGreatDoor
namespace Go.Proofs.YthbhgelncdnmgaaGreatDoor
open Go.Proofs.Tryz
open Lib (hid)
open Nat (le_refl le_trans)
open Go.RowKit
theorem Qth{X Y n n':Nat}(hn:n=(limbs X).length)(hn':n'=(limbs Y).length):(limbs (Nat.gcd X Y)).length<=max n n':=by
 rcases Nat.eq_zero_or_pos X with h|h
 ·rw [h,Nat.gcd_zero_left];omega
 ·have:=Qad (Nat.le_of_dvd h (Nat.gcd_dvd_left X Y))
  omega
theorem Qg0(neg:Bool)(A A':Option Addr)(n c m c' a d:Nat)(w:World)(hx:Num w (limbs a) A n c)(hy:Num w (limbs d) A' m c')(hn:n<=1000000)(hm:m<=1000000)(hd:d≠0):
 Calls prog 77 #[.bool neg,.slice A n c,.slice A' m c'] w (RetFrac w neg (a / Nat.gcd a d) (d / Nat.gcd a d)):=by
 have hbA:Below w.heap.size w (w.alloc (.cells #[.bool false,.slice none 0 0,.slice none 0 0] 27)):=(Below.refl _ _).alloc (le_refl _) _;have hrc:=Rc.new w (.bool false) (.slice none 0 0) (.slice none 0 0);by_cases h0:n=0
 ·have ha:a=0:=Qae.1 (by rw [<-hx.len];exact h0)
  subst h0;have HA:=hid ha;clear ha;go_enter func77,ntmps77;go_wp2_with fail
  refine Qbk results77 rfl hrc rfl ?_;rw [HA.out];simp only [Nat.zero_div];exact⟨_,rfl,⟨none,0,0,none,0,0,by simp,by rw [Qaf];exact Num.nil _ _ _,by rw [if_pos rfl];exact Num.nil _ _ _⟩,hbA⟩
 ·have ha:a≠0:=fun h=>h0 (by rw [hx.len,h,Qaf];rfl)
  have hn0:((n:Int)==0)=false:=by simp;omega
  have HA:=hid ha;have HD:=hid hd;have HG:Hid (Nat.gcd a d≠0):=fun h=>ha (Nat.eq_zero_of_gcd_eq_zero_left h)
  have hgl:=Qth hx.len hy.len;have HQ:Hid (a / Nat.gcd a d≠0):=by
   have:=Nat.div_pos (Nat.le_of_dvd (Nat.pos_of_ne_zero ha) (Nat.gcd_dvd_left a d)) (Nat.pos_of_ne_zero HG.out);show _≠_;omega
  clear ha hd h0;go_enter func77,ntmps77;go_wp2_with fail
  refine(Ql7 _ _ _ _ _ _ a d _ (hx.below hbA) (hy.below hbA) hn hm).mono ?_;rintro e w1 ⟨A1,n1,c1,rfl,h1,hb1⟩;have hn1:n1<=1000000:=by rw [h1.len];omega
  have hb01:=bt hbA hb1;go_wp2_with fail
  refine(Qkq _ _ _ _ _ _ a (Nat.gcd a d) _ (hx.below hb01) h1 hn hn1 HG).mono ?_;rintro e w2 ⟨A2,n2,c2,A3,n3,c3,rfl,h2,h3,hb2⟩;have hb02:=bt hb01 hb2;go_wp2_with fail
  refine(Qkq _ _ _ _ _ _ d (Nat.gcd a d) _ (hy.below hb02) (h1.below hb2) hm hn1 HG).mono ?_;rintro e w4 ⟨A4,n4,c4,A5,n5,c5,rfl,h4,h5,hb4⟩;have hb04:=bt hb02 hb4;have hn4:n4<=1000000:=by rw [h4.len];have:=Qad (Nat.div_le_self d (Nat.gcd a d));have:=hy.len;omega
  have h2':=h2.num.below hb4;have hrc4:=hrc.below ((bt hb1 hb2).trans (hb4.mono (by have:=hb1.size;have:=hb2.size;omega))) hrc.lt;obtain⟨k0,k1,k2⟩:=hrc4.cells;obtain⟨f0,f1,f2⟩:=hrc4.frozen;have hne2:=h2'.ne_rc hrc4;by_cases hone:d / Nat.gcd a d=1
  ·have HO:Hid (decide (limbs (d / Nat.gcd a d)=[1])=true):=decide_eq_true (Qa0.2 hone)
   have HD1:=hid hone;clear hone;go_wp2_with fail
   refine(Qkg _ _ _ _ _ true h4.num (by omega) HO).mono ?_;rintro e w' ⟨rfl,rfl⟩;go_wp2_with fail
   refine Qbk results77 rfl (hrc4.set _ _ _) rfl ?_;refine⟨_,rfl,⟨A2,n2,c2,none,0,0,by rw [decide_eq_true HQ.out,Bool.and_true],h2'.set3 hne2 _ _ _,?_⟩,Qah hb04 (le_refl _) _ _ _⟩;rw [if_neg HQ.out,HD1.out];exact Num.nil _ _ _
  ·have HO:Hid (decide (limbs (d / Nat.gcd a d)=[1])=false):=decide_eq_false (fun h=>hone (Qa0.1 h))
   have HD1:=hid hone;clear hone;have hne4:=h4.num.ne_rc hrc4;go_wp2_with fail
   refine(Qkg _ _ _ _ _ false h4.num (by omega) HO).mono ?_;rintro e w' ⟨rfl,rfl⟩;go_wp2_with fail
   refine Qbk results77 rfl (hrc4.set _ _ _) rfl ?_;refine⟨_,rfl,⟨A2,n2,c2,A4,n4,c4,by rw [decide_eq_true HQ.out,Bool.and_true],h2'.set3 hne2 _ _ _,?_⟩,Qah hb04 (le_refl _) _ _ _⟩;rw [if_neg HQ.out,Qkp HD1.out];exact h4.num.set3 hne4 _ _ _
theorem Qjt(a:Int)(m:Nat)(w:World)(H:Hid (a.natAbs=m/\ -9223372036854775808<=a/\a<9223372036854775808)):
 Calls prog 86 #[.int .i64 a] w fun e w'=>e=.returned (.int .u64 (m:Int))/\w=w':=by
 obtain⟨hm,h1,h2⟩:=H.out;by_cases h:a<0
 ·have e1:IntKind.i64.wrap (a+1)=a+1:=IntWalk.i64_in _ (by omega)
  have e2:IntKind.i64.wrap (-(a+1))= -(a+1):=IntWalk.i64_in _ (by omega);have e3:IntKind.u64.wrap (-(a+1))= -(a+1):=IntWalk.u64_in _ (by omega);have e4:IntKind.u64.wrap (-(a+1)+1)= -(a+1)+1:=IntWalk.u64_in _ (by omega);have e5: -(a+1)+1=(m:Int):=by omega
  have e6:IntKind.u64.wrap (m:Int)=(m:Int):=IntWalk.u64_in _ (by omega);clear hm h1 h2 H;go_enter func86,ntmps86
  go_wp2
  go_ret
  first|exact⟨rfl,rfl⟩|exact⟨Qa8 (by omega),rfl⟩
 ·have e3:IntKind.u64.wrap a=a:=IntWalk.u64_in _ (by omega)
  have e5:a=(m:Int):=by omega
  have e6:IntKind.u64.wrap (m:Int)=(m:Int):=IntWalk.u64_in _ (by omega);clear hm h1 h2 H;go_enter func86,ntmps86
  go_wp2
  go_ret
  first|exact⟨rfl,rfl⟩|exact⟨Qa8 (by omega),rfl⟩
theorem r_Make(a b:Int)(w:World)(hb:b≠0)(r:Rat)(hr:qv (decide (a<0) !=decide (b<0)) a.natAbs b.natAbs=r)(h1: -9223372036854775808<=a)(h2:a<9223372036854775808)(h3: -9223372036854775808<=b)(h4:b<9223372036854775808):
 Calls prog 65 #[.int .i64 a,.int .i64 b] w (RetRatE w r 0):=by
 have hb0:(b==0)=false:=by simp [hb]
 obtain⟨m,hm⟩:∃m,a.natAbs=m:=⟨_,rfl⟩;obtain⟨k,hk⟩:∃k,b.natAbs=k:=⟨_,rfl⟩;obtain⟨s,hs⟩:∃s,(!(decide (a<0)==decide (b<0)))=s:=⟨_,rfl⟩;have HM:=hid (And.intro hm (And.intro h1 h2));have HK:=hid (And.intro hk (And.intro h3 h4));have hk0:k≠0:=by omega
 have hkl:k<18446744073709551616:=by omega
 have hml:m<18446744073709551616:=by omega
 have hr':qv s m k=r:=by rw [<-hr,hm,hk,<-hs];rfl
 obtain⟨j1,j2,j3⟩:=Qbp s (a:=m) hk0;rw [hr']at j1;have HJ:=hid (And.intro j1 (And.intro j2 j3));have HK0:=hid hk0;have HL:=hid (And.intro hml hkl);have hlm:=Qar (n:=m) (k:=2) (by unfold P;omega);have hlk:=Qar (n:=k) (k:=2) (by unfold P;omega);clear hm hk hk0 hkl hml hr hr' j1 j2 j3 h1 h2 h3 h4 hb;have hbA:Below w.heap.size w (w.alloc R0):=(Below.refl _ _).alloc (le_refl _) _;have hrr:=Rc.new w (.bool false) (.slice none 0 0) (.slice none 0 0);go_enter func65,ntmps65;go_wp2_with fail
 refine(Qjt a m _ HM).mono ?_;rintro e w' ⟨rfl,rfl⟩;go_wp2_with fail
 refine(Ql0 m _ HL.out.1).mono ?_;rintro e w1 ⟨A1,n1,c1,rfl,g1,hb1⟩;go_wp2_with fail
 refine(Qjt b k _ HK).mono ?_;rintro e w' ⟨rfl,rfl⟩;go_wp2_with fail
 refine(Ql0 k _ HL.out.2).mono ?_;rintro e w2 ⟨A2,n2,c2,rfl,g2,hb2⟩;have hb12:=bt hb1 hb2;go_wp2_with fail
 refine(Qg0 s _ _ _ _ _ _ m k _ (g1.num.below hb2) g2.num (by have:=g1.len;omega) (by have:=g2.len;omega) HK0.out).mono ?_;rintro e w3 hr;obtain⟨v3,rfl,h3,hb3⟩:=RetFrac.rat HJ.out.2.1 HJ.out.2.2 HJ.out.1 hr;have hb13:=bt hb12 hb3;have hrr3:=hrr.below hb13 hrr.lt;obtain⟨nb,A,n,c,B,m',e,rfl⟩:=h3.agg;obtain⟨r0,r1,r2⟩:=hrr3.cells;obtain⟨f0,f1,f2⟩:=hrr3.frozen;go_wp2_with fail
 refine Qgp results65 rfl rfl (hrr3.set _ _ _) rfl ?_;exact⟨_,rfl,h3.set3 hrr3 _ _ _,Qah (bt hbA hb13) (by omega) _ _ _⟩
theorem Qxw(a b:Int)(w:World)(hb:b≠0)(r:Rat)(hr:qv (decide (a<0) !=decide (b<0)) a.natAbs b.natAbs=r)(h1: -9223372036854775808<=a)(h2:a<9223372036854775808)(h3: -9223372036854775808<=b)(h4:b<9223372036854775808):
 Calls prog 37 #[.int .i64 a,.int .i64 b] w (RetRat w r):=by
 have hbA:Below w.heap.size w (w.alloc R0):=(Below.refl _ _).alloc (le_refl _) _;have hrr:=Rc.new w (.bool false) (.slice none 0 0) (.slice none 0 0);go_enter func37,ntmps37;go_wp2_with fail
 refine(r_Make a b _ hb r hr h1 h2 h3 h4).mono ?_;rintro e w1 ⟨v1,rfl,g1,hb1⟩;have hrr1:=hrr.below hb1 hrr.lt;obtain⟨nb,A,n,c,B,m',e,rfl⟩:=g1.agg;have hwl:=hrr1.lt;have hrr2:=(hrr1.set (.bool nb) (.slice A n c) (.slice B m' e)).alloc (R1 (.bool nb) (.slice A n c) (.slice B m' e));have g2:=g1.set3 hrr1 (.bool nb) (.slice A n c) (.slice B m' e);have g3:=g2.below ((Below.refl _ _).alloc (le_refl _) (R1 (.bool nb) (.slice A n c) (.slice B m' e)));have hb2:=(Qah (bt hbA hb1) (le_refl w.heap.size) (.bool nb) (.slice A n c) (.slice B m' e)).alloc (by simp;omega) (R1 (.bool nb) (.slice A n c) (.slice B m' e));obtain⟨r0,r1,r2⟩:=hrr1.cells;obtain⟨f0,f1,f2⟩:=hrr1.frozen;clear hr h1 h2 h3 h4 hb;go_wp2_with fail
 refine Qbk results37 rfl hrr2 rfl ?_;exact⟨_,rfl,g3,hb2⟩
def cmpQ(x y:Rat):Int:=if x<y then -1 else if y<x then 1 else 0
theorem Qti(x y:Rat):cmpQ x y=cmpI (x.num*(y.den:Int)) (y.num*(x.den:Int)):=by
 unfold cmpQ cmpI;simp only [Rat.lt_iff]
theorem Qpy(a b:Int):cmpI (-a) (-b)=cmpI b a:=by
 unfold cmpI;split<;>split<;>(try split)<;>omega
theorem Qju(a b:Int){d:Nat}(hd:d≠0):cmpI (a*(d:Int)) (b*(d:Int))=cmpI a b:=by
 have hp:(0:Int)<(d:Int):=by omega
 have e1:a*(d:Int)<b*(d:Int)↔a<b:=Int.mul_lt_mul_right hp;have e2:b*(d:Int)<a*(d:Int)↔b<a:=Int.mul_lt_mul_right hp;unfold cmpI;simp only [e1,e2]
theorem Qen(a:Int){d:Nat}(hd:d≠0):(a*(d:Int)).sign=a.sign:=by
 rw [Int.sign_mul,Int.sign_eq_one_of_pos (a:=(d:Int)) (by omega),Int.mul_one]
theorem Qtj{a b:Int}(h:a.sign≠b.sign):cmpI a b=cmpI a.sign b.sign:=by
 rcases Int.lt_trichotomy a 0 with ha|ha|ha<;>rcases Int.lt_trichotomy b 0 with hb|hb|hb<;>
  simp_all [Int.sign_eq_neg_one_of_neg,Int.sign_eq_one_of_pos,cmpI]<;>omega
theorem Qtk{x y:Rat}(h:x.num.sign≠y.num.sign):cmpQ x y=cmpI x.num.sign y.num.sign:=by
 rw [Qti,Qtj (by rw [Qen _ y.den_nz,Qen _ x.den_nz];exact h),Qen _ y.den_nz,Qen _ x.den_nz]
theorem Qv2{x y:Rat}(hx:¬x.num<0)(hy:¬y.num<0):cmpQ x y=cmpI ((x.num.natAbs*y.den:Nat):Int) ((y.num.natAbs*x.den:Nat):Int):=by
 rw [Qti]
 push_cast
 rw [Int.natAbs_of_nonneg (by omega),Int.natAbs_of_nonneg (by omega)]
theorem Qv3{x y:Rat}(hx:x.num<0)(hy:y.num<0):cmpQ x y=cmpI ((y.num.natAbs*x.den:Nat):Int) ((x.num.natAbs*y.den:Nat):Int):=by
 rw [Qti,<-Qpy]
 push_cast
 rw [Int.ofNat_natAbs_of_nonpos (by omega),Int.ofNat_natAbs_of_nonpos (by omega),Int.neg_mul,Int.neg_mul,Qpy]
theorem Qxx{a b:Nat}(ha:a≠0)(hb:b≠0)(h:dl a=dl b):a=b:=by
 unfold dl at h;split at h
 ·next h1=>
  split at h
  ·next h2=>rw [h1,h2]
  ·exact absurd (Qb5.1 h.symm) hb
 ·split at h
  ·exact absurd (Qb5.1 h) ha
  ·exact Qfk h
theorem Qxy(v:Value)(x:Rat)(s:Int)(w:World)(hx:RatQ w v x)(H:Hid (x.num.sign=s)):Calls prog 217 #[v] w (RetV w (.int .i64 s)):=by
 rw [<-H.out];exact Qxu v x w hx
theorem Qfb(v v':Value)(x y:Rat)(L:Nat)(V:Int)(w:World)(hT:Tab w)(h:Inp w v x L)(h':Inp w v' y L)(sx:Sz x 1000000)(sy:Sz y 1000000)(HV:Hid (cmpQ x y=V)):Calls prog 175 #[v,v'] w (RetV w (.int .i64 V)):=by
 obtain⟨z0,Z,zn,zc,Z',zm,ze,rfl⟩:=h.agg;obtain⟨y0,Y,yn,yc,Y',ym,ye,rfl⟩:=h'.agg;obtain⟨hbA,hrx,hry⟩:=blocks2 w (.bool z0) (.slice Z zn zc) (.slice Z' zm ze) (.bool y0) (.slice Y yn yc) (.slice Y' ym ye);go_enter func175,ntmps175;have hI:=h.below hbA;have hI':=h'.below hbA;have hTW:=hT.below hbA;go_wp2_with fail
 generalize ((w.alloc (R1 (.bool z0) (.slice Z zn zc) (.slice Z' zm ze))).alloc (R1 (.bool y0) (.slice Y yn yc) (.slice Y' ym ye)))=W at*
 have hgx:w.heap.size<W.drew.heap.size:=hrx.lt;have hgy:w.heap.size+1<W.drew.heap.size:=hry.lt;replace hrx:=hrx.drew;replace hry:=hry.drew;replace hTW:=hTW.drew;replace hI:Inp W.drew _ x L:=hI.below (Below.refl _ _).drew;replace hI':Inp W.drew _ y L:=hI'.below (Below.refl _ _).drew;replace hbA:=hbA.drew;obtain⟨k0,k1,k2⟩:=hrx.cells;obtain⟨l0,l1,l2⟩:=hry.cells
 go_cut []from 5 to 8 (fun wx=>Clean2 w x y wx)
 case first=>
  go_region_with (first
   |(have _g:=hb1;go_at_call 178;refine(Qce _ y L _ (hTW.below hb1) (hI'.below hb1)).mono ?_;rintro e w2 ⟨v2,rfl,h2,hb2⟩;have hb12:=bt hb1 hb2;obtain⟨k0,k1,k2⟩:=(hrx.below hb12 hgx).cells;obtain⟨l0,l1,l2⟩:=(hry.below hb12 hgy).cells;obtain⟨f0,f1,f2⟩:=(hrx.below hb12 hgx).frozen;obtain⟨g0,g1,g2⟩:=(hry.below hb12 hgy).frozen;obtain⟨nb2,A2,n2,c2,B2,m2,e2,rfl⟩:=h2.agg)
   |(go_at_call 178;refine(Qce _ x L _ hTW hI).mono ?_;rintro e w1 ⟨v1,rfl,h1,hb1⟩;obtain⟨k0,k1,k2⟩:=(hrx.below hb1 hgx).cells;obtain⟨l0,l1,l2⟩:=(hry.below hb1 hgy).cells;obtain⟨nb1,A1,n1,c1,B1,m1,e1,rfl⟩:=h1.agg))
  all_goals
   go_wp2_with fail
   go_meet
   exact Clean2.of (h1.below hb2) h2 (hrx.below hb12 hgx) (hry.below hb12 hgy) (bt hbA hb12)
 case rest=>
 obtain⟨nb1,A1,n1,c1,B1,m1,e1,nb2,A2,n2,c2,B2,m2,e2,h1,h2,hrx1,hry1,hb1⟩:=hcut;clear hrx hry hgx hgy hTW hI hI' hbA k0 k1 k2 l0 l1 l2;have hTw:=hT.below hb1;obtain⟨s,hs⟩:∃s,x.num.sign=s:=⟨_,rfl⟩;obtain⟨t,ht⟩:∃t,y.num.sign=t:=⟨_,rfl⟩;have HS:=hid hs;have HTs:=hid ht;clear hs ht;go_wp2_with fail
 replace hTw:=hTw.drew;replace hrx1:=hrx1.drew;replace hry1:=hry1.drew;replace h1:RatQ wc.drew _ x:=h1.below (Below.refl _ _).drew;replace h2:RatQ wc.drew _ y:=h2.below (Below.refl _ _).drew;replace hb1:=hb1.drew;have hgx:=hrx1.lt;have hgy:=hry1.lt;have hsx:=hrx1.cells;have hsy:=hry1.cells
 go_region_held3 (fun w'=>(w'.cell? ⟨w.heap.size,0,none⟩=some (.bool nb1)/\w'.cell? ⟨w.heap.size,1,none⟩=some (.slice A1 n1 c1)/\w'.cell? ⟨w.heap.size,2,none⟩=some (.slice B1 m1 e1))/\(w'.cell? ⟨w.heap.size+1,0,none⟩=some (.bool nb2)/\w'.cell? ⟨w.heap.size+1,1,none⟩=some (.slice A2 n2 c2)/\w'.cell? ⟨w.heap.size+1,2,none⟩=some (.slice B2 m2 e2)))
  (exact⟨hsx,hsy⟩)
  (first
   |(have _g:=hb2;go_at_call 217;refine(Qxy _ y t _ (h2.below hb2) HTs).mono ?_;rintro e w3 ⟨rfl,hb3⟩;have hb23:=bt hb2 hb3;have hsx:=(hrx1.below hb23 hgx).cells;have hsy:=(hry1.below hb23 hgy).cells)
   |(go_at_call 217;refine(Qxy _ x s _ h1 HS).mono ?_;rintro e w2 ⟨rfl,hb2⟩;have hsx:=(hrx1.below hb2 hgx).cells;have hsy:=(hry1.below hb2 hgy).cells))
 have hb3':=bt hb1 hb23;replace hrx1:=hrx1.below hb23 hgx;replace hry1:=hry1.below hb23 hgy;replace h1:=h1.below hb23;replace h2:=h2.below hb23;have hT3:=hT.below hb3';clear hTw hb1 hb2 hb3 hb23 hgx hgy hsx hsy hT h h';by_cases hst:s=t
 ·have hd:(s !=t)=false:=by simp [hst]
  obtain⟨k0,k1,k2⟩:=hrx1.cells;obtain⟨l0,l1,l2⟩:=hry1.cells;obtain⟨f0,f1,f2⟩:=hrx1.frozen;obtain⟨g0,g1,g2⟩:=hry1.frozen;have HST:=hid hst;clear hst;obtain⟨p1,p2,p3⟩:=h1.parts;obtain⟨q1,q2,q3⟩:=h2.parts;have hsg:x.num.sign=y.num.sign:=by rw [HS.out,HTs.out,HST.out]
  have hq1:nb2=nb1:=by
   rw [p1,q1];refine decide_eq_decide.2 ?_;rcases Int.lt_trichotomy x.num 0 with ha|ha|ha<;>rcases Int.lt_trichotomy y.num 0 with hb|hb|hb<;>
    simp_all [Int.sign_eq_neg_one_of_neg,Int.sign_eq_one_of_pos]<;>omega
  subst hq1;have hV1:nb2=false->cmpI ((x.num.natAbs*y.den:Nat):Int) ((y.num.natAbs*x.den:Nat):Int)=V:=fun h=>by
   rw [<-HV.out,Qv2 (of_decide_eq_false (by rw [<-p1];exact h)) (of_decide_eq_false (by rw [<-q1];exact h))]
  have hV2:nb2=true->cmpI ((y.num.natAbs*x.den:Nat):Int) ((x.num.natAbs*y.den:Nat):Int)=V:=fun h=>by
   rw [<-HV.out,Qv3 (of_decide_eq_true (by rw [<-p1];exact h)) (of_decide_eq_true (by rw [<-q1];exact h))]
  clear p1 q1 hsg;have hl1:n1<=1000000:=by rw [p2.len];exact sx.1
  have hl2:m1<=1000000:=by rw [p3.len];exact le_trans (Qa1 _) sx.2
  have hl3:n2<=1000000:=by rw [q2.len];exact sy.1
  have hl4:m2<=1000000:=by rw [q3.len];exact le_trans (Qa1 _) sy.2
  have hz1:=sx.2;have hz2:=sy.2;clear h1 h2;cases nb2
  ·have HC:=hid (hV1 rfl)
   clear hV1 hV2;go_wp2_with fail
   have R1x:=hrx1;have R1y:=hry1;have U2:=p2;have U3:=p3;have V2:=q2;have V3:=q3;have HB:=hb3';clear hrx1 hry1 p2 p3 q2 q3 hb3' hT3 k0 k1 k2 l0 l1 l2 f0 f1 f2 g0 g1 g2;obtain⟨E,hE⟩:∃E,decide (dl x.den=dl y.den)=E:=⟨_,rfl⟩;have HE:=hid hE;clear hE;obtain⟨k0,k1,k2⟩:=R1x.cells;obtain⟨l0,l1,l2⟩:=R1y.cells;refine(Qd4 _ _ _ _ _ _ (dl x.den) (dl y.den) _ E U3 V3 (by omega) (by omega) HE).mono ?_;rintro e w' ⟨rfl,q,rfl⟩;replace R1x:Rc (w3.drewN q) _ _ _ _:=R1x.drewN q;replace R1y:Rc (w3.drewN q) _ _ _ _:=R1y.drewN q;replace U2:=U2.drewN q;replace U3:=U3.drewN q;replace V2:=V2.drewN q;replace V3:=V3.drewN q;replace HB:=Qai HB q;clear k0 k1 k2 l0 l1 l2;have hsx:=R1x.cells;have hsy:=R1y.cells;cases E
   ·generalize w3.drewN q=Wq at*
    replace R1x:=R1x.drew;replace R1y:=R1y.drew;replace U2:=U2.drew;replace U3:=U3.drew;replace V2:=V2.drew;replace V3:=V3.drew;replace HB:=HB.drew;have hgx:=R1x.lt;have hgy:=R1y.lt;go_wp2_with fail
    go_region_held3 (fun w'=>(w'.cell? ⟨w.heap.size,0,none⟩=some (.bool false)/\w'.cell? ⟨w.heap.size,1,none⟩=some (.slice A1 n1 c1)/\w'.cell? ⟨w.heap.size,2,none⟩=some (.slice B1 m1 e1))/\(w'.cell? ⟨w.heap.size+1,0,none⟩=some (.bool false)/\w'.cell? ⟨w.heap.size+1,1,none⟩=some (.slice A2 n2 c2)/\w'.cell? ⟨w.heap.size+1,2,none⟩=some (.slice B2 m2 e2)))
     (exact⟨hsx,hsy⟩)
     (first
      |(have _g:=hp2;go_at_call 219;refine(Qcs _ _ _ _ _ _ (x.num.natAbs*y.den) (y.num.natAbs*x.den) _ V (d2.num.below hq4) d4.num ?_ ?_ HC).mono ?_;(have:=d2.len;have:=Qaq x.num.natAbs y.den;have:=U2.len;omega);(have:=d4.len;have:=Qaq y.num.natAbs x.den;have:=V2.len;omega);rintro e w' ⟨rfl,q5,rfl⟩;have hsx:=(R1x.below hp4 hgx).cells;have hsy:=(R1y.below hp4 hgy).cells)
      |(have _g:=d3;go_at_call 220;refine(Qbi _ _ _ _ _ _ y.num.natAbs x.den _ (V2.below hp3) d3 ?_ ?_).mono ?_;omega;(have:=d3.len;omega);rintro e w4 ⟨A4,n4,c4,rfl,d4,hb4⟩;have hp2:=trivial;have hp4:=bt hp3 hb4;have hq4:=bt hb3 hb4;have hsx:=(R1x.below hp4 hgx).cells;have hsy:=(R1y.below hp4 hgy).cells)
      |(have _g:=d2;go_at_call 221;refine(Qas _ _ _ _ _ _ _ x.den _ (U3.below hp2') x.den_nz).mono ?_;rintro e w3' ⟨A3,n3,c3,rfl,d3,hb3⟩;have hp3:=bt hp2' hb3;have hsx:=(R1x.below hp3 hgx).cells;have hsy:=(R1y.below hp3 hgy).cells)
      |(have _g:=d1;go_at_call 220;refine(Qbi _ _ _ _ _ _ x.num.natAbs y.den _ (U2.below hb1') d1 ?_ ?_).mono ?_;omega;(have:=d1.len;omega);rintro e w2' ⟨A2',n2',c2',rfl,d2,hb2'⟩;have hp2':=bt hb1' hb2';have hsx:=(R1x.below hp2' hgx).cells;have hsy:=(R1y.below hp2' hgy).cells)
      |(go_at_call 221;refine(Qas _ _ _ _ _ _ _ y.den _ V3 y.den_nz).mono ?_;rintro e w1' ⟨A1',n1',c1',rfl,d1,hb1'⟩;have hsx:=(R1x.below hb1' hgx).cells;have hsy:=(R1y.below hb1' hgy).cells))
    go_wp2_with fail
    go_ret;exact⟨rfl,Qai (bt HB hp4) _⟩
   ·have HC2:Hid (cmpI (x.num.natAbs:Int) (y.num.natAbs:Int)=V):=by
     show _=_;have hd:=Qxx x.den_nz y.den_nz (of_decide_eq_true HE.out);rw [<-HC.out,hd]
     push_cast
     rw [Qju _ _ y.den_nz]
    clear HC;obtain⟨k0,k1,k2⟩:=hsx;obtain⟨l0,l1,l2⟩:=hsy;go_wp2_with fail
    refine(Qcs _ _ _ _ _ _ x.num.natAbs y.num.natAbs _ V U2 V2 (by omega) (by omega) HC2).mono ?_;rintro e w' ⟨rfl,q5,rfl⟩;go_wp2_with fail
    go_ret;exact⟨rfl,by rw [<-World.drewN_drewN];exact Qai HB _⟩
  ·have HC:=hid (hV2 rfl)
   clear hV1 hV2;go_wp2_with fail
   have R0y:=hry1.far3 (g':=w.heap.size) (by omega) (.bool true) (.slice A2 n2 c2) (.slice B2 m2 e2);have R1x:=(hrx1.set (.bool true) (.slice A2 n2 c2) (.slice B2 m2 e2)).far3 (g':=w.heap.size+1) (by omega) (.bool true) (.slice A1 n1 c1) (.slice B1 m1 e1);have R1y:=R0y.set (.bool true) (.slice A1 n1 c1) (.slice B1 m1 e1);have V2:=(p2.set3 (p2.ne_rc hrx1) (.bool true) (.slice A2 n2 c2) (.slice B2 m2 e2));have V3:=(p3.set3 (p3.ne_rc hrx1) (.bool true) (.slice A2 n2 c2) (.slice B2 m2 e2));have U2:=(q2.set3 (q2.ne_rc hrx1) (.bool true) (.slice A2 n2 c2) (.slice B2 m2 e2));have U3:=(q3.set3 (q3.ne_rc hrx1) (.bool true) (.slice A2 n2 c2) (.slice B2 m2 e2));replace V2:=V2.set3 (V2.ne_rc R0y) (.bool true) (.slice A1 n1 c1) (.slice B1 m1 e1);replace V3:=V3.set3 (V3.ne_rc R0y) (.bool true) (.slice A1 n1 c1) (.slice B1 m1 e1);replace U2:=U2.set3 (U2.ne_rc R0y) (.bool true) (.slice A1 n1 c1) (.slice B1 m1 e1);replace U3:=U3.set3 (U3.ne_rc R0y) (.bool true) (.slice A1 n1 c1) (.slice B1 m1 e1);have HB:=Qah (Qah hb3' (le_refl _) (.bool true) (.slice A2 n2 c2) (.slice B2 m2 e2)) (Nat.le_succ _) (.bool true) (.slice A1 n1 c1) (.slice B1 m1 e1);clear R0y hrx1 hry1 p2 p3 q2 q3 hb3' hT3 k0 k1 k2 l0 l1 l2 f0 f1 f2 g0 g1 g2;generalize ((((((w3.setCell ⟨w.heap.size,0,none⟩ (.bool true)).setCell ⟨w.heap.size,1,none⟩ (.slice A2 n2 c2)).setCell ⟨w.heap.size,2,none⟩ (.slice B2 m2 e2)).setCell ⟨w.heap.size+1,0,none⟩ (.bool true)).setCell ⟨w.heap.size+1,1,none⟩ (.slice A1 n1 c1)).setCell ⟨w.heap.size+1,2,none⟩ (.slice B1 m1 e1))=W3 at*
   obtain⟨E,hE⟩:∃E,decide (dl y.den=dl x.den)=E:=⟨_,rfl⟩;have HE:=hid hE;clear hE;obtain⟨k0,k1,k2⟩:=R1x.cells;obtain⟨l0,l1,l2⟩:=R1y.cells;refine(Qd4 _ _ _ _ _ _ (dl y.den) (dl x.den) _ E U3 V3 (by omega) (by omega) HE).mono ?_;rintro e w' ⟨rfl,q,rfl⟩;replace R1x:Rc (W3.drewN q) _ _ _ _:=R1x.drewN q;replace R1y:Rc (W3.drewN q) _ _ _ _:=R1y.drewN q;replace U2:=U2.drewN q;replace U3:=U3.drewN q;replace V2:=V2.drewN q;replace V3:=V3.drewN q;replace HB:=Qai HB q;clear k0 k1 k2 l0 l1 l2;have hsx:=R1x.cells;have hsy:=R1y.cells;cases E
   ·generalize W3.drewN q=Wq at*
    replace R1x:=R1x.drew;replace R1y:=R1y.drew;replace U2:=U2.drew;replace U3:=U3.drew;replace V2:=V2.drew;replace V3:=V3.drew;replace HB:=HB.drew;have hgx:=R1x.lt;have hgy:=R1y.lt;go_wp2_with fail
    go_region_held3 (fun w'=>(w'.cell? ⟨w.heap.size,0,none⟩=some (.bool true)/\w'.cell? ⟨w.heap.size,1,none⟩=some (.slice A2 n2 c2)/\w'.cell? ⟨w.heap.size,2,none⟩=some (.slice B2 m2 e2))/\(w'.cell? ⟨w.heap.size+1,0,none⟩=some (.bool true)/\w'.cell? ⟨w.heap.size+1,1,none⟩=some (.slice A1 n1 c1)/\w'.cell? ⟨w.heap.size+1,2,none⟩=some (.slice B1 m1 e1)))
     (exact⟨hsx,hsy⟩)
     (first
      |(have _g:=hp2;go_at_call 219;refine(Qcs _ _ _ _ _ _ (y.num.natAbs*x.den) (x.num.natAbs*y.den) _ V (d2.num.below hq4) d4.num ?_ ?_ HC).mono ?_;(have:=d2.len;have:=Qaq y.num.natAbs x.den;have:=U2.len;omega);(have:=d4.len;have:=Qaq x.num.natAbs y.den;have:=V2.len;omega);rintro e w' ⟨rfl,q5,rfl⟩;have hsx:=(R1x.below hp4 hgx).cells;have hsy:=(R1y.below hp4 hgy).cells)
      |(have _g:=d3;go_at_call 220;refine(Qbi _ _ _ _ _ _ x.num.natAbs y.den _ (V2.below hp3) d3 ?_ ?_).mono ?_;omega;(have:=d3.len;omega);rintro e w4 ⟨A4,n4,c4,rfl,d4,hb4⟩;have hp2:=trivial;have hp4:=bt hp3 hb4;have hq4:=bt hb3 hb4;have hsx:=(R1x.below hp4 hgx).cells;have hsy:=(R1y.below hp4 hgy).cells)
      |(have _g:=d2;go_at_call 221;refine(Qas _ _ _ _ _ _ _ y.den _ (U3.below hp2') y.den_nz).mono ?_;rintro e w3' ⟨A3,n3,c3,rfl,d3,hb3⟩;have hp3:=bt hp2' hb3;have hsx:=(R1x.below hp3 hgx).cells;have hsy:=(R1y.below hp3 hgy).cells)
      |(have _g:=d1;go_at_call 220;refine(Qbi _ _ _ _ _ _ y.num.natAbs x.den _ (U2.below hb1') d1 ?_ ?_).mono ?_;omega;(have:=d1.len;omega);rintro e w2' ⟨A2',n2',c2',rfl,d2,hb2'⟩;have hp2':=bt hb1' hb2';have hsx:=(R1x.below hp2' hgx).cells;have hsy:=(R1y.below hp2' hgy).cells)
      |(go_at_call 221;refine(Qas _ _ _ _ _ _ _ x.den _ V3 x.den_nz).mono ?_;rintro e w1' ⟨A1',n1',c1',rfl,d1,hb1'⟩;have hsx:=(R1x.below hb1' hgx).cells;have hsy:=(R1y.below hb1' hgy).cells))
    go_wp2_with fail
    go_ret;exact⟨rfl,Qai (bt HB hp4) _⟩
   ·have HC2:Hid (cmpI (y.num.natAbs:Int) (x.num.natAbs:Int)=V):=by
     show _=_;have hd:=Qxx y.den_nz x.den_nz (of_decide_eq_true HE.out);rw [<-HC.out,hd]
     push_cast
     rw [Qju _ _ x.den_nz]
    clear HC;obtain⟨k0,k1,k2⟩:=hsx;obtain⟨l0,l1,l2⟩:=hsy;go_wp2_with fail
    refine(Qcs _ _ _ _ _ _ y.num.natAbs x.num.natAbs _ V U2 V2 (by omega) (by omega) HC2).mono ?_;rintro e w' ⟨rfl,q5,rfl⟩;go_wp2_with fail
    go_ret;exact⟨rfl,by rw [<-World.drewN_drewN];exact Qai HB _⟩
 ·have hd:(s !=t)=true:=by simp [hst]
  have HC:Hid (cmpI s t=V):=by
   show _=_;rw [<-HV.out,Qtk (by rw [HS.out,HTs.out];exact hst),HS.out,HTs.out]
  clear hst;go_wp2_with fail
  refine(Qhv s t _).mono ?_;rintro e w' ⟨rfl,rfl⟩;go_wp2_with fail
  go_ret;rw [HC.out];exact⟨rfl,hb3'⟩
theorem Qv4{w:World}{g c:Nat}(h:Row w g [1])(hc:1<=c):RatQ w (.agg #[.bool false,.slice (some ⟨g,0,none⟩) 1 c,.slice none 0 0]) 1:=by
 refine⟨_,_,_,_,_,_,rfl,?_,?_⟩
 ·show Num w (limbs 1) _ _ _
  rw [Qax];exact h.num (by intro x hx;simp at hx;subst hx;decide) rfl hc
 ·show Num w (dl 1) _ _ _
  unfold dl;rw [if_pos rfl];exact Num.nil _ _ _
theorem Qbw(w:World):Calls prog 129 #[] w (RetRat w 1):=by
 go_enter func129,ntmps129;have x0:=blk2 w [.bool false,.slice (some ⟨w.heap.size+1,0,none⟩) 1 1,.slice none 0 0] [.int .u32 1] 27 97;go_wp2_with fail
 refine Qbk results129 rfl (show Rc _ _ _ _ _ from x0.2.1) rfl ?_;exact⟨_,rfl,Qv4 (show Row _ _ _ from x0.2.2) (le_refl _),x0.1⟩
theorem Qy1(v:Value)(q:Rat)(w:World)(hT:Tab w)(h:RatQ w v q)(hS:Sz q 100000):Calls prog 160 #[v] w (RetV w (.bool true)):=by
 obtain⟨A,n,c,A',m,c',rfl,h1,h2⟩:=h;have l1:=h1.len;have l2:=h2.len;have hd:(dl q.den).length<=(limbs q.den).length:=by
  unfold dl;split
  ·simp
  ·exact le_refl _
 exact Qc6 _ A A' n c m c' _ _ w true hT h1 h2 (by have:=hS.1;omega) (by have:=hS.2;omega) Qfw
theorem Qog(x y:Rat):cmpQ x y<=0↔x<=y:=by
 unfold cmpQ;by_cases h1:x<y
 ·rw [if_pos h1];constructor<;>intro h<;>first|grind|decide
 ·by_cases h2:y<x
  ·rw [if_neg h1,if_pos h2];constructor<;>intro h<;>grind
  ·rw [if_neg h1,if_neg h2];constructor<;>intro h<;>grind
end Go.Proofs.YthbhgelncdnmgaaGreatDoor
