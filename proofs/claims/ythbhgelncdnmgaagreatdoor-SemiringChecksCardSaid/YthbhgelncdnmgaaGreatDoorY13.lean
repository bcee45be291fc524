import Derived.Test.YthbhgelncdnmgaaGreatDoorY12
import Derived.Deep.CutRange
set_option linter.unusedVariables false
set_option linter.unusedSimpArgs false
set_option maxRecDepth 20000
set_option maxHeartbeats 2000000
namespace Go.Proofs.YthbhgelncdnmgaaGreatDoor
open Go.Proofs.Tryz
open Lib (hid)
open Nat (le_refl le_trans)
open Go.RowKit
def Clean2(w:World)(x y:Rat)(wx:World):Prop:=∃nb1 A1 n1 c1 B1 m1 e1 nb2 A2 n2 c2 B2 m2 e2,
 RatQ wx (.agg #[.bool nb1,.slice A1 n1 c1,.slice B1 m1 e1]) x/\RatQ wx (.agg #[.bool nb2,.slice A2 n2 c2,.slice B2 m2 e2]) y/\
 Rc wx w.heap.size (.bool nb1) (.slice A1 n1 c1) (.slice B1 m1 e1)/\Rc wx (w.heap.size+1) (.bool nb2) (.slice A2 n2 c2) (.slice B2 m2 e2)/\Below w.heap.size w wx
theorem Clean2.of{w w2:World}{x y:Rat}{nb1 nb2 u1 u2:Bool}{A1 B1 A2 B2 C1 D1 C2 D2:Option Addr}{n1 c1 m1 e1 n2 c2 m2 e2 i1 j1 k1 l1 i2 j2 k2 l2:Nat}
 (h1:RatQ w2 (.agg #[.bool nb1,.slice A1 n1 c1,.slice B1 m1 e1]) x)(h2:RatQ w2 (.agg #[.bool nb2,.slice A2 n2 c2,.slice B2 m2 e2]) y)
 (hx:Rc w2 w.heap.size (.bool u1) (.slice C1 i1 j1) (.slice D1 k1 l1))(hy:Rc w2 (w.heap.size+1) (.bool u2) (.slice C2 i2 j2) (.slice D2 k2 l2))(hb:Below w.heap.size w w2):
 Clean2 w x y ((((((w2.setCell ⟨w.heap.size,0,none⟩ (.bool nb1)).setCell ⟨w.heap.size,1,none⟩ (.slice A1 n1 c1)).setCell ⟨w.heap.size,2,none⟩ (.slice B1 m1 e1)).setCell ⟨w.heap.size+1,0,none⟩ (.bool nb2)).setCell ⟨w.heap.size+1,1,none⟩ (.slice A2 n2 c2)).setCell ⟨w.heap.size+1,2,none⟩ (.slice B2 m2 e2)):=by
 have hy1:=hy.far3 (g':=w.heap.size) (by omega) (.bool nb1) (.slice A1 n1 c1) (.slice B1 m1 e1);have hx1:=hx.set (.bool nb1) (.slice A1 n1 c1) (.slice B1 m1 e1);exact⟨_,_,_,_,_,_,_,_,_,_,_,_,_,_,(h1.set3 hx _ _ _).set3 hy1 _ _ _,(h2.set3 hx _ _ _).set3 hy1 _ _ _,hx1.far3 (by omega) _ _ _,hy1.set _ _ _,Qai (Qai hb (le_refl _) _ _ _) (Nat.le_succ _) _ _ _⟩
theorem Qse(v v':Value)(x y r:Rat)(L:Nat)(w:World)(hT:Tab w)(h:Inp w v x L)(h':Inp w v' y L)(sx:Sz x 1000000)(sy:Sz y 1000000)(hr:x*y=r):Calls prog 177 #[v,v'] w (RetRat w r):=by
 have hr':qv (decide (x.num<0) !=decide (y.num<0)) (x.num.natAbs*y.num.natAbs) (x.den*y.den)=r:=by rw [<-Qw6,Qdn,Qdn,hr]
 have HR:=hid hr';clear hr hr';obtain⟨z0,Z,zn,zc,Z',zm,ze,rfl⟩:=h.agg;obtain⟨y0,Y,yn,yc,Y',ym,ye,rfl⟩:=h'.agg;obtain⟨hbA,hrx,hry,hrr⟩:=blocks3 w (.bool z0) (.slice Z zn zc) (.slice Z' zm ze) (.bool y0) (.slice Y yn yc) (.slice Y' ym ye) (.bool false) (.slice none 0 0) (.slice none 0 0);go_enter func177,ntmps177;have hI:=h.below hbA;have hI':=h'.below hbA;have hTW:=hT.below hbA;go_wp2_with fail
 generalize (((w.alloc (R1 (.bool z0) (.slice Z zn zc) (.slice Z' zm ze))).alloc (R1 (.bool y0) (.slice Y yn yc) (.slice Y' ym ye))).alloc (R1 (.bool false) (.slice none 0 0) (.slice none 0 0)))=W at*
 have hgx:w.heap.size<W.drew.heap.size:=hrx.lt;have hgy:w.heap.size+1<W.drew.heap.size:=hry.lt;have hgr:w.heap.size+1+1<W.drew.heap.size:=hrr.lt;replace hrx:=hrx.drew;replace hry:=hry.drew;replace hrr:=hrr.drew;replace hTW:=hTW.drew;replace hI:Inp W.drew _ x L:=hI.below (Below.refl _ _).drew;replace hI':Inp W.drew _ y L:=hI'.below (Below.refl _ _).drew;replace hbA:=hbA.drew;obtain⟨k0,k1,k2⟩:=hrx.cells;obtain⟨l0,l1,l2⟩:=hry.cells
 go_cut []from 5 to 8 (fun wx=>Clean2 w x y wx/\Rc wx (w.heap.size+1+1) (.bool false) (.slice none 0 0) (.slice none 0 0))
 case first=>
  go_region_with (first
   |(have _g:=hb1;go_at_call 178;refine(Qb4 _ y L _ (hTW.below hb1) (hI'.below hb1)).mono ?_;rintro e w2 ⟨v2,rfl,h2,hb2⟩;have hb12:=bt hb1 hb2;obtain⟨k0,k1,k2⟩:=(hrx.below hb12 hgx).cells;obtain⟨l0,l1,l2⟩:=(hry.below hb12 hgy).cells;obtain⟨f0,f1,f2⟩:=(hrx.below hb12 hgx).frozen;obtain⟨g0,g1,g2⟩:=(hry.below hb12 hgy).frozen;obtain⟨nb2,A2,n2,c2,B2,m2,e2,rfl⟩:=h2.agg)
   |(go_at_call 178;refine(Qb4 _ x L _ hTW hI).mono ?_;rintro e w1 ⟨v1,rfl,h1,hb1⟩;obtain⟨k0,k1,k2⟩:=(hrx.below hb1 hgx).cells;obtain⟨l0,l1,l2⟩:=(hry.below hb1 hgy).cells;obtain⟨nb1,A1,n1,c1,B1,m1,e1,rfl⟩:=h1.agg))
  all_goals
   go_wp2_with fail
   go_meet
   exact⟨Clean2.of (h1.below hb2) h2 (hrx.below hb12 hgx) (hry.below hb12 hgy) (bt hbA hb12),((hrr.below hb12 hgr).far3 (by omega) _ _ _).far3 (by omega) _ _ _⟩
 case rest=>
 obtain⟨⟨nb1,A1,n1,c1,B1,m1,e1,nb2,A2,n2,c2,B2,m2,e2,h1,h2,hrx1,hry1,hb1⟩,hrr1⟩:=hcut;clear hrx hry hrr hgx hgy hgr hTW hI hI' hbA k0 k1 k2 l0 l1 l2;have hTw:=hT.below hb1;obtain⟨p1,p2,p3⟩:=h1.parts;obtain⟨q1,q2,q3⟩:=h2.parts;rw [<-p1,<-q1]at HR;clear p1 q1;have hs1:n1<=1000000:=by rw [p2.len];exact sx.1
 have hs2:m1<=1000000:=by rw [p3.len];exact le_trans (Qbd _) sx.2
 have hs3:n2<=1000000:=by rw [q2.len];exact sy.1
 have hs4:m2<=1000000:=by rw [q3.len];exact le_trans (Qbd _) sy.2
 have v3:=sx.2;have v4:=sy.2;go_wp2_with fail
 replace hTw:=hTw.drew;replace hrx1:=hrx1.drew;replace hry1:=hry1.drew;replace hrr1:=hrr1.drew;replace p2:=p2.drew;replace p3:=p3.drew;replace q2:=q2.drew;replace q3:=q3.drew;replace hb1:=hb1.drew;clear h1 h2 h h' hT;have hgx:=hrx1.lt;have hgy:=hry1.lt;have hgr:=hrr1.lt;have hsx:=hrx1.cells;have hsy:=hry1.cells
 go_region_held3 (fun w'=>(w'.cell? ⟨w.heap.size,0,none⟩=some (.bool nb1)/\w'.cell? ⟨w.heap.size,1,none⟩=some (.slice A1 n1 c1)/\w'.cell? ⟨w.heap.size,2,none⟩=some (.slice B1 m1 e1))/\(w'.cell? ⟨w.heap.size+1,0,none⟩=some (.bool nb2)/\w'.cell? ⟨w.heap.size+1,1,none⟩=some (.slice A2 n2 c2)/\w'.cell? ⟨w.heap.size+1,2,none⟩=some (.slice B2 m2 e2)))
  (first|exact⟨hsx,hsy⟩|exact⟨⟨Qaa (by omega) hsx.1,Qaa (by omega) hsx.2.1,Qaa (by omega) hsx.2.2⟩,⟨Qaa (by omega) hsy.1,Qaa (by omega) hsy.2.1,Qaa (by omega) hsy.2.2⟩⟩)
  (first
   |(have _g:=hb3;go_at_call 222;refine(Qgt (!(nb1==nb2)) _ _ _ _ _ _ _ _ _ _ _ _ x.num.natAbs x.den y.num.natAbs y.den r _ (hTw.below hb13) (p2.below hb13) (g2.below hb3) (q2.below hb13) g3 ?_ ?_ ?_ ?_ x.den_nz y.den_nz x.reduced y.reduced HR.out).mono ?_;omega;(have:=g2.len;omega);omega;(have:=g3.len;omega);rintro e w4 ⟨v4,rfl,h4,hb4⟩;have hb14:=bt hb13 hb4;have hsx:=(hrx1.below hb14 hgx).cells;have hsy:=(hry1.below hb14 hgy).cells;have hrr4:=hrr1.below hb14 hgr;obtain⟨nb,A,n,c,B,m,e,rfl⟩:=h4.agg;obtain⟨r0,r1,r2⟩:=hrr4.cells;obtain⟨f0,f1,f2⟩:=hrr4.frozen)
   |(have _g:=hb2;go_at_call 221;refine(Qar nb2 A2 B2 n2 c2 m2 e2 y.den _ (q3.below hb2) y.den_nz).mono ?_;rintro e w3 ⟨A4,n4,c4,rfl,g3,hb3⟩;have hb13:=bt hb2 hb3;have hsx:=(hrx1.below hb13 hgx).cells;have hsy:=(hry1.below hb13 hgy).cells)
   |(go_at_call 221;refine(Qar nb1 A1 B1 n1 c1 m1 e1 x.den _ p3 x.den_nz).mono ?_;rintro e w2 ⟨A3,n3,c3,rfl,g2,hb2⟩;have hsx:=(hrx1.below hb2 hgx).cells;have hsy:=(hry1.below hb2 hgy).cells))
 go_wp2_with fail
 refine Qa8 results177 rfl (hrr4.set _ _ _) rfl ?_;exact⟨_,rfl,h4.set3 hrr4 _ _ _,Qai (bt hb1 hb14) (by omega) _ _ _⟩
def RetRatE(w0:World)(q:Rat)(E:Int)(e:Ending)(w':World):Prop:=∃v,e=.returned (.tuple #[v,.int .i64 E])/\RatQ w' v q/\Below w0.heap.size w0 w'
theorem Qgi{fn:Func}{p u:Tmp}(hres:fn.results=#[.cell p 27,.tmp u]){R:Ending->World->Prop}{a:Act}{w:World}{g:Nat}{z0 z1 z2 x:Value}(hp:a.tmps.getD p undef=.pointer (some ⟨g,0,none⟩))(hx:a.tmps.getD u undef=x)(h:Rc w g z0 z1 z2)(hd:a.defers=[])
 (hR:R (.returned (.tuple #[.agg #[z0,z1,z2],x])) w):bodyPost prog fn R .ret a w:=by
 refine bodyPost_ret (v:=.tuple #[.agg #[z0,z1,z2],x]) ?_ hd hR;have hp':a.tmps[p]?.getD undef=.pointer (some ⟨g,0,none⟩):=by simpa using hp
 have hx':a.tmps[u]?.getD undef=x:=by simpa using hx
 simp [results,hres,hp',hx',asAddr,run_loadVar_row w g 27 27 #[z0,z1,z2] (0,0) _ h underlying27 rfl (by kernel_rfl)]
theorem Qsf(v v':Value)(x y r:Rat)(L:Nat)(E:Int)(w:World)(hT:Tab w)(h:Inp w v x L)(h':Inp w v' y L)(sx:Sz x 1000000)(sy:Sz y 1000000)(hr:(y=0/\r=0/\E=11)\/(y≠0/\x / y=r/\E=0)):Calls prog 192 #[v,v'] w (RetRatE w r E):=by
 have HR:=hid hr;clear hr;obtain⟨z0,Z,zn,zc,Z',zm,ze,rfl⟩:=h.agg;obtain⟨y0,Y,yn,yc,Y',ym,ye,rfl⟩:=h'.agg;obtain⟨hbA,hrx,hry,hrr⟩:=blocks3 w (.bool z0) (.slice Z zn zc) (.slice Z' zm ze) (.bool y0) (.slice Y yn yc) (.slice Y' ym ye) (.bool false) (.slice none 0 0) (.slice none 0 0);go_enter func192,ntmps192;have hI:=h.below hbA;have hI':=h'.below hbA;have hTW:=hT.below hbA;go_wp2_with fail
 generalize (((w.alloc (R1 (.bool z0) (.slice Z zn zc) (.slice Z' zm ze))).alloc (R1 (.bool y0) (.slice Y yn yc) (.slice Y' ym ye))).alloc (R1 (.bool false) (.slice none 0 0) (.slice none 0 0)))=W at*
 have hgx:w.heap.size<W.drew.heap.size:=hrx.lt;have hgy:w.heap.size+1<W.drew.heap.size:=hry.lt;have hgr:w.heap.size+1+1<W.drew.heap.size:=hrr.lt;replace hrx:=hrx.drew;replace hry:=hry.drew;replace hrr:=hrr.drew;replace hTW:=hTW.drew;replace hI:Inp W.drew _ x L:=hI.below (Below.refl _ _).drew;replace hI':Inp W.drew _ y L:=hI'.below (Below.refl _ _).drew;replace hbA:=hbA.drew;obtain⟨k0,k1,k2⟩:=hrx.cells;obtain⟨l0,l1,l2⟩:=hry.cells
 go_cut []from 5 to 8 (fun wx=>Clean2 w x y wx/\Rc wx (w.heap.size+1+1) (.bool false) (.slice none 0 0) (.slice none 0 0))
 case first=>
  go_region_with (first
   |(have _g:=hb1;go_at_call 178;refine(Qb4 _ y L _ (hTW.below hb1) (hI'.below hb1)).mono ?_;rintro e w2 ⟨v2,rfl,h2,hb2⟩;have hb12:=bt hb1 hb2;obtain⟨k0,k1,k2⟩:=(hrx.below hb12 hgx).cells;obtain⟨l0,l1,l2⟩:=(hry.below hb12 hgy).cells;obtain⟨f0,f1,f2⟩:=(hrx.below hb12 hgx).frozen;obtain⟨g0,g1,g2⟩:=(hry.below hb12 hgy).frozen;obtain⟨nb2,A2,n2,c2,B2,m2,e2,rfl⟩:=h2.agg)
   |(go_at_call 178;refine(Qb4 _ x L _ hTW hI).mono ?_;rintro e w1 ⟨v1,rfl,h1,hb1⟩;obtain⟨k0,k1,k2⟩:=(hrx.below hb1 hgx).cells;obtain⟨l0,l1,l2⟩:=(hry.below hb1 hgy).cells;obtain⟨nb1,A1,n1,c1,B1,m1,e1,rfl⟩:=h1.agg))
  all_goals
   go_wp2_with fail
   go_meet
   exact⟨Clean2.of (h1.below hb2) h2 (hrx.below hb12 hgx) (hry.below hb12 hgy) (bt hbA hb12),((hrr.below hb12 hgr).far3 (by omega) _ _ _).far3 (by omega) _ _ _⟩
 case rest=>
 obtain⟨⟨nb1,A1,n1,c1,B1,m1,e1,nb2,A2,n2,c2,B2,m2,e2,h1,h2,hrx1,hry1,hb1⟩,hrr1⟩:=hcut;clear hrx hry hrr hgx hgy hgr hTW hI hI' hbA k0 k1 k2 l0 l1 l2;have hTw:=hT.below hb1;obtain⟨p1,p2,p3⟩:=h1.parts;obtain⟨q1,q2,q3⟩:=h2.parts;have hs1:n1<=1000000:=by rw [p2.len];exact sx.1
 have hs2:m1<=1000000:=by rw [p3.len];exact le_trans (Qbd _) sx.2
 have hs3:n2<=1000000:=by rw [q2.len];exact sy.1
 have hs4:m2<=1000000:=by rw [q3.len];exact le_trans (Qbd _) sy.2
 have v3:=sx.2;have v4:=sy.2;have hz:y=0↔n2=0:=by
  rw [q2.len,Qae,Int.natAbs_eq_zero,Rat.num_eq_zero]
 rcases HR.out with⟨hy,hr0,hE⟩|⟨hy,hr1,hE⟩
 ·have hn2:((n2:Int)==0)=true:=by simp;exact hz.1 hy
  subst hr0 hE;obtain⟨r0,r1,r2⟩:=hrr1.cells;obtain⟨f0,f1,f2⟩:=hrr1.frozen;obtain⟨k0,k1,k2⟩:=hrx1.cells;obtain⟨l0,l1,l2⟩:=hry1.cells;clear hz hy HR;go_wp2_with fail
  refine Qgi results192 rfl rfl (hrr1.set _ _ _) rfl ?_;exact⟨_,rfl,Qfx _,Qai hb1 (by omega) _ _ _⟩
 ·have hn2:((n2:Int)==0)=false:=by simp;exact fun h=>hy (hz.2 h)
  have hN:y.num.natAbs≠0:=fun h=>hy (Rat.num_eq_zero.1 (Int.natAbs_eq_zero.1 h))
  have HN:=hid hN;have hr':qv (decide (x.num<0) !=decide (y.num<0)) (x.num.natAbs*y.den) (x.den*y.num.natAbs)=r:=by rw [<-qv_div _ _ _ _ hN,Qdn,Qdn,hr1]
  have HR':=hid hr';rw [<-p1,<-q1]at HR';have HE:=hid hE;obtain⟨k0,k1,k2⟩:=hrx1.cells;obtain⟨l0,l1,l2⟩:=hry1.cells;clear hr' hr1 hN hz hy HR hE p1 q1;go_wp2_with fail
  replace hTw:=hTw.drew;replace hrx1:=hrx1.drew;replace hry1:=hry1.drew;replace hrr1:=hrr1.drew;replace p2:=p2.drew;replace p3:=p3.drew;replace q2:=q2.drew;replace q3:=q3.drew;replace hb1:=hb1.drew;clear h1 h2 h h' hT;have hgx:=hrx1.lt;have hgy:=hry1.lt;have hgr:=hrr1.lt;have hsx:=hrx1.cells;have hsy:=hry1.cells
  go_region_held3 (fun w'=>(w'.cell? ⟨w.heap.size,0,none⟩=some (.bool nb1)/\w'.cell? ⟨w.heap.size,1,none⟩=some (.slice A1 n1 c1)/\w'.cell? ⟨w.heap.size,2,none⟩=some (.slice B1 m1 e1))/\(w'.cell? ⟨w.heap.size+1,0,none⟩=some (.bool nb2)/\w'.cell? ⟨w.heap.size+1,1,none⟩=some (.slice A2 n2 c2)/\w'.cell? ⟨w.heap.size+1,2,none⟩=some (.slice B2 m2 e2)))
   (first|exact⟨hsx,hsy⟩|exact⟨⟨Qaa (by omega) hsx.1,Qaa (by omega) hsx.2.1,Qaa (by omega) hsx.2.2⟩,⟨Qaa (by omega) hsy.1,Qaa (by omega) hsy.2.1,Qaa (by omega) hsy.2.2⟩⟩)
   (first
    |(have _g:=hb3;go_at_call 222;refine(Qgt (!(nb1==nb2)) _ _ _ _ _ _ _ _ _ _ _ _ x.num.natAbs x.den y.den y.num.natAbs r _ (hTw.below hb13) (p2.below hb13) (g2.below hb3) g3 (q2.below hb13) ?_ ?_ ?_ ?_ x.den_nz HN.out x.reduced y.reduced.symm HR'.out).mono ?_;omega;(have:=g2.len;omega);(have:=g3.len;omega);omega;rintro e w4 ⟨v4,rfl,h4,hb4⟩;have hb14:=bt hb13 hb4;have hsx:=(hrx1.below hb14 hgx).cells;have hsy:=(hry1.below hb14 hgy).cells;have hrr4:=hrr1.below hb14 hgr;obtain⟨nb,A,n,c,B,m,e,rfl⟩:=h4.agg;obtain⟨r0,r1,r2⟩:=hrr4.cells;obtain⟨f0,f1,f2⟩:=hrr4.frozen)
    |(have _g:=hb2;go_at_call 221;refine(Qar nb2 A2 B2 n2 c2 m2 e2 y.den _ (q3.below hb2) y.den_nz).mono ?_;rintro e w3 ⟨A4,n4,c4,rfl,g3,hb3⟩;have hb13:=bt hb2 hb3;have hsx:=(hrx1.below hb13 hgx).cells;have hsy:=(hry1.below hb13 hgy).cells)
    |(go_at_call 221;refine(Qar nb1 A1 B1 n1 c1 m1 e1 x.den _ p3 x.den_nz).mono ?_;rintro e w2 ⟨A3,n3,c3,rfl,g2,hb2⟩;have hsx:=(hrx1.below hb2 hgx).cells;have hsy:=(hry1.below hb2 hgy).cells))
  go_wp2_with fail
  refine Qgi results192 rfl rfl (hrr4.set _ _ _) rfl ?_;rw [HE.out];exact⟨_,rfl,h4.set3 hrr4 _ _ _,Qai (bt hb1 hb14) (by omega) _ _ _⟩
theorem Qsg{X Y n n':Nat}(hn:n=(limbs X).length)(hn':n'=(limbs Y).length):(limbs (Nat.gcd X Y)).length<=max n n':=by
 rcases Nat.eq_zero_or_pos X with h|h
 ·rw [h,Nat.gcd_zero_left];omega
 ·have:=Qad (Nat.le_of_dvd h (Nat.gcd_dvd_left X Y))
  omega
theorem Qhx(neg:Bool)(A A':Option Addr)(n c m c' a d:Nat)(w:World)(hx:Num w (limbs a) A n c)(hy:Num w (limbs d) A' m c')(hn:n<=1000000)(hm:m<=1000000)(hd:d≠0):
 Calls prog 77 #[.bool neg,.slice A n c,.slice A' m c'] w (RetFrac w neg (a / Nat.gcd a d) (d / Nat.gcd a d)):=by
 have hbA:Below w.heap.size w (w.alloc (.cells #[.bool false,.slice none 0 0,.slice none 0 0] 27)):=(Below.refl _ _).alloc (le_refl _) _;have hrc:=Rc.new w (.bool false) (.slice none 0 0) (.slice none 0 0);by_cases h0:n=0
 ·have ha:a=0:=Qae.1 (by rw [<-hx.len];exact h0)
  subst h0;have HA:=hid ha;clear ha;go_enter func77,ntmps77;go_wp2_with fail
  refine Qa8 results77 rfl hrc rfl ?_;rw [HA.out];simp only [Nat.zero_div];exact⟨_,rfl,⟨none,0,0,none,0,0,by simp,by rw [Qaf];exact Num.nil _ _ _,by rw [if_pos rfl];exact Num.nil _ _ _⟩,hbA⟩
 ·have ha:a≠0:=fun h=>h0 (by rw [hx.len,h,Qaf];rfl)
  have hn0:((n:Int)==0)=false:=by simp;omega
  have HA:=hid ha;have HD:=hid hd;have HG:Hid (Nat.gcd a d≠0):=fun h=>ha (Nat.eq_zero_of_gcd_eq_zero_left h)
  have hgl:=Qsg hx.len hy.len;have HQ:Hid (a / Nat.gcd a d≠0):=by
   have:=Nat.div_pos (Nat.le_of_dvd (Nat.pos_of_ne_zero ha) (Nat.gcd_dvd_left a d)) (Nat.pos_of_ne_zero HG.out);show _≠_;omega
  clear ha hd h0;go_enter func77,ntmps77;go_wp2_with fail
  refine(Qlc _ _ _ _ _ _ a d _ (hx.below hbA) (hy.below hbA) hn hm).mono ?_;rintro e w1 ⟨A1,n1,c1,rfl,h1,hb1⟩;have hn1:n1<=1000000:=by rw [h1.len];omega
  have hb01:=bt hbA hb1;go_wp2_with fail
  refine(Qj2 _ _ _ _ _ _ a (Nat.gcd a d) _ (hx.below hb01) h1 hn hn1 HG).mono ?_;rintro e w2 ⟨A2,n2,c2,A3,n3,c3,rfl,h2,h3,hb2⟩;have hb02:=bt hb01 hb2;go_wp2_with fail
  refine(Qj2 _ _ _ _ _ _ d (Nat.gcd a d) _ (hy.below hb02) (h1.below hb2) hm hn1 HG).mono ?_;rintro e w4 ⟨A4,n4,c4,A5,n5,c5,rfl,h4,h5,hb4⟩;have hb04:=bt hb02 hb4;have hn4:n4<=1000000:=by rw [h4.len];have:=Qad (Nat.div_le_self d (Nat.gcd a d));have:=hy.len;omega
  have h2':=h2.num.below hb4;have hrc4:=hrc.below ((bt hb1 hb2).trans (hb4.mono (by have:=hb1.size;have:=hb2.size;omega))) hrc.lt;obtain⟨k0,k1,k2⟩:=hrc4.cells;obtain⟨f0,f1,f2⟩:=hrc4.frozen;have hne2:=h2'.ne_rc hrc4;by_cases hone:d / Nat.gcd a d=1
  ·have HO:Hid (decide (limbs (d / Nat.gcd a d)=[1])=true):=decide_eq_true (Qa1.2 hone)
   have HD1:=hid hone;clear hone;go_wp2_with fail
   refine(Qjs _ _ _ _ _ true h4.num (by omega) HO).mono ?_;rintro e w' ⟨rfl,rfl⟩;go_wp2_with fail
   refine Qa8 results77 rfl (hrc4.set _ _ _) rfl ?_;refine⟨_,rfl,⟨A2,n2,c2,none,0,0,by rw [decide_eq_true HQ.out,Bool.and_true],h2'.set3 hne2 _ _ _,?_⟩,Qai hb04 (le_refl _) _ _ _⟩;rw [if_neg HQ.out,HD1.out];exact Num.nil _ _ _
  ·have HO:Hid (decide (limbs (d / Nat.gcd a d)=[1])=false):=decide_eq_false (fun h=>hone (Qa1.1 h))
   have HD1:=hid hone;clear hone;have hne4:=h4.num.ne_rc hrc4;go_wp2_with fail
   refine(Qjs _ _ _ _ _ false h4.num (by omega) HO).mono ?_;rintro e w' ⟨rfl,rfl⟩;go_wp2_with fail
   refine Qa8 results77 rfl (hrc4.set _ _ _) rfl ?_;refine⟨_,rfl,⟨A2,n2,c2,A4,n4,c4,by rw [decide_eq_true HQ.out,Bool.and_true],h2'.set3 hne2 _ _ _,?_⟩,Qai hb04 (le_refl _) _ _ _⟩;rw [if_neg HQ.out,Qj1 HD1.out];exact h4.num.set3 hne4 _ _ _
theorem Qi6(a:Int)(m:Nat)(w:World)(H:Hid (a.natAbs=m/\ -9223372036854775808<=a/\a<9223372036854775808)):
 Calls prog 86 #[.int .i64 a] w fun e w'=>e=.returned (.int .u64 (m:Int))/\w=w':=by
 obtain⟨hm,h1,h2⟩:=H.out;by_cases h:a<0
 ·have e1:IntKind.i64.wrap (a+1)=a+1:=IntWalk.i64_in _ (by omega)
  have e2:IntKind.i64.wrap (-(a+1))= -(a+1):=IntWalk.i64_in _ (by omega);have e3:IntKind.u64.wrap (-(a+1))= -(a+1):=IntWalk.u64_in _ (by omega);have e4:IntKind.u64.wrap (-(a+1)+1)= -(a+1)+1:=IntWalk.u64_in _ (by omega);have e5: -(a+1)+1=(m:Int):=by omega
  have e6:IntKind.u64.wrap (m:Int)=(m:Int):=IntWalk.u64_in _ (by omega);clear hm h1 h2 H;go_enter func86,ntmps86
  go_wp2
  go_ret
  first|exact⟨rfl,rfl⟩|exact⟨Qa7 (by omega),rfl⟩
 ·have e3:IntKind.u64.wrap a=a:=IntWalk.u64_in _ (by omega)
  have e5:a=(m:Int):=by omega
  have e6:IntKind.u64.wrap (m:Int)=(m:Int):=IntWalk.u64_in _ (by omega);clear hm h1 h2 H;go_enter func86,ntmps86
  go_wp2
  go_ret
  first|exact⟨rfl,rfl⟩|exact⟨Qa7 (by omega),rfl⟩
theorem r_Make(a b:Int)(w:World)(hb:b≠0)(r:Rat)(hr:qv (decide (a<0) !=decide (b<0)) a.natAbs b.natAbs=r)(h1: -9223372036854775808<=a)(h2:a<9223372036854775808)(h3: -9223372036854775808<=b)(h4:b<9223372036854775808):
 Calls prog 65 #[.int .i64 a,.int .i64 b] w (RetRatE w r 0):=by
 have hb0:(b==0)=false:=by simp [hb]
 obtain⟨m,hm⟩:∃m,a.natAbs=m:=⟨_,rfl⟩;obtain⟨k,hk⟩:∃k,b.natAbs=k:=⟨_,rfl⟩;obtain⟨s,hs⟩:∃s,(!(decide (a<0)==decide (b<0)))=s:=⟨_,rfl⟩;have HM:=hid (And.intro hm (And.intro h1 h2));have HK:=hid (And.intro hk (And.intro h3 h4));have hk0:k≠0:=by omega
 have hkl:k<18446744073709551616:=by omega
 have hml:m<18446744073709551616:=by omega
 have hr':qv s m k=r:=by rw [<-hr,hm,hk,<-hs];rfl
 obtain⟨j1,j2,j3⟩:=Qbt s (a:=m) hk0;rw [hr']at j1;have HJ:=hid (And.intro j1 (And.intro j2 j3));have HK0:=hid hk0;have HL:=hid (And.intro hml hkl);have hlm:=Qax (n:=m) (k:=2) (by unfold P;omega);have hlk:=Qax (n:=k) (k:=2) (by unfold P;omega);clear hm hk hk0 hkl hml hr hr' j1 j2 j3 h1 h2 h3 h4 hb;have hbA:Below w.heap.size w (w.alloc R0):=(Below.refl _ _).alloc (le_refl _) _;have hrr:=Rc.new w (.bool false) (.slice none 0 0) (.slice none 0 0);go_enter func65,ntmps65;go_wp2_with fail
 refine(Qi6 a m _ HM).mono ?_;rintro e w' ⟨rfl,rfl⟩;go_wp2_with fail
 refine(Qk5 m _ HL.out.1).mono ?_;rintro e w1 ⟨A1,n1,c1,rfl,g1,hb1⟩;go_wp2_with fail
 refine(Qi6 b k _ HK).mono ?_;rintro e w' ⟨rfl,rfl⟩;go_wp2_with fail
 refine(Qk5 k _ HL.out.2).mono ?_;rintro e w2 ⟨A2,n2,c2,rfl,g2,hb2⟩;have hb12:=bt hb1 hb2;go_wp2_with fail
 refine(Qhx s _ _ _ _ _ _ m k _ (g1.num.below hb2) g2.num (by have:=g1.len;omega) (by have:=g2.len;omega) HK0.out).mono ?_;rintro e w3 hr;obtain⟨v3,rfl,h3,hb3⟩:=RetFrac.rat HJ.out.2.1 HJ.out.2.2 HJ.out.1 hr;have hb13:=bt hb12 hb3;have hrr3:=hrr.below hb13 hrr.lt;obtain⟨nb,A,n,c,B,m',e,rfl⟩:=h3.agg;obtain⟨r0,r1,r2⟩:=hrr3.cells;obtain⟨f0,f1,f2⟩:=hrr3.frozen;go_wp2_with fail
 refine Qgi results65 rfl rfl (hrr3.set _ _ _) rfl ?_;exact⟨_,rfl,h3.set3 hrr3 _ _ _,Qai (bt hbA hb13) (by omega) _ _ _⟩
theorem r_Of(a b:Int)(w:World)(hb:b≠0)(r:Rat)(hr:qv (decide (a<0) !=decide (b<0)) a.natAbs b.natAbs=r)(h1: -9223372036854775808<=a)(h2:a<9223372036854775808)(h3: -9223372036854775808<=b)(h4:b<9223372036854775808):
 Calls prog 37 #[.int .i64 a,.int .i64 b] w (RetRat w r):=by
 have hbA:Below w.heap.size w (w.alloc R0):=(Below.refl _ _).alloc (le_refl _) _;have hrr:=Rc.new w (.bool false) (.slice none 0 0) (.slice none 0 0);go_enter func37,ntmps37;go_wp2_with fail
 refine(r_Make a b _ hb r hr h1 h2 h3 h4).mono ?_;rintro e w1 ⟨v1,rfl,g1,hb1⟩;have hrr1:=hrr.below hb1 hrr.lt;obtain⟨nb,A,n,c,B,m',e,rfl⟩:=g1.agg;have hwl:=hrr1.lt;have hrr2:=(hrr1.set (.bool nb) (.slice A n c) (.slice B m' e)).alloc (R1 (.bool nb) (.slice A n c) (.slice B m' e));have g2:=g1.set3 hrr1 (.bool nb) (.slice A n c) (.slice B m' e);have g3:=g2.below ((Below.refl _ _).alloc (le_refl _) (R1 (.bool nb) (.slice A n c) (.slice B m' e)));have hb2:=(Qai (bt hbA hb1) (le_refl w.heap.size) (.bool nb) (.slice A n c) (.slice B m' e)).alloc (by simp;omega) (R1 (.bool nb) (.slice A n c) (.slice B m' e));obtain⟨r0,r1,r2⟩:=hrr1.cells;obtain⟨f0,f1,f2⟩:=hrr1.frozen;clear hr h1 h2 h3 h4 hb;go_wp2_with fail
 refine Qa8 results37 rfl hrr2 rfl ?_;exact⟨_,rfl,g3,hb2⟩
def cmpQ(x y:Rat):Int:=if x<y then -1 else if y<x then 1 else 0
theorem Qsh(x y:Rat):cmpQ x y=cmpI (x.num*(y.den:Int)) (y.num*(x.den:Int)):=by
 unfold cmpQ cmpI;simp only [Rat.lt_iff]
theorem Qow(a b:Int):cmpI (-a) (-b)=cmpI b a:=by
 unfold cmpI;split<;>split<;>(try split)<;>omega
theorem Qi7(a b:Int){d:Nat}(hd:d≠0):cmpI (a*(d:Int)) (b*(d:Int))=cmpI a b:=by
 have hp:(0:Int)<(d:Int):=by omega
 have e1:a*(d:Int)<b*(d:Int)↔a<b:=Int.mul_lt_mul_right hp;have e2:b*(d:Int)<a*(d:Int)↔b<a:=Int.mul_lt_mul_right hp;unfold cmpI;simp only [e1,e2]
theorem Qen(a:Int){d:Nat}(hd:d≠0):(a*(d:Int)).sign=a.sign:=by
 rw [Int.sign_mul,Int.sign_eq_one_of_pos (a:=(d:Int)) (by omega),Int.mul_one]
theorem Qsi{a b:Int}(h:a.sign≠b.sign):cmpI a b=cmpI a.sign b.sign:=by
 rcases Int.lt_trichotomy a 0 with ha|ha|ha<;>rcases Int.lt_trichotomy b 0 with hb|hb|hb<;>
  simp_all [Int.sign_eq_neg_one_of_neg,Int.sign_eq_one_of_pos,cmpI]<;>omega
theorem Qsj{x y:Rat}(h:x.num.sign≠y.num.sign):cmpQ x y=cmpI x.num.sign y.num.sign:=by
 rw [Qsh,Qsi (by rw [Qen _ y.den_nz,Qen _ x.den_nz];exact h),Qen _ y.den_nz,Qen _ x.den_nz]
theorem Qvg{x y:Rat}(hx:¬x.num<0)(hy:¬y.num<0):cmpQ x y=cmpI ((x.num.natAbs*y.den:Nat):Int) ((y.num.natAbs*x.den:Nat):Int):=by
 rw [Qsh]
 push_cast
 rw [Int.natAbs_of_nonneg (by omega),Int.natAbs_of_nonneg (by omega)]
theorem Qvh{x y:Rat}(hx:x.num<0)(hy:y.num<0):cmpQ x y=cmpI ((y.num.natAbs*x.den:Nat):Int) ((x.num.natAbs*y.den:Nat):Int):=by
 rw [Qsh,<-Qow]
 push_cast
 rw [Int.ofNat_natAbs_of_nonpos (by omega),Int.ofNat_natAbs_of_nonpos (by omega),Int.neg_mul,Int.neg_mul,Qow]
theorem Qxc{a b:Nat}(ha:a≠0)(hb:b≠0)(h:dl a=dl b):a=b:=by
 unfold dl at h;split at h
 ·next h1=>
  split at h
  ·next h2=>rw [h1,h2]
  ·exact absurd (Qcl.1 h.symm) hb
 ·split at h
  ·exact absurd (Qcl.1 h) ha
  ·exact Qk0 h
theorem Qxd(v:Value)(x:Rat)(s:Int)(w:World)(hx:RatQ w v x)(H:Hid (x.num.sign=s)):Calls prog 217 #[v] w (RetV w (.int .i64 s)):=by
 rw [<-H.out];exact Qxa v x w hx
theorem Qe9(v v':Value)(x y:Rat)(L:Nat)(V:Int)(w:World)(hT:Tab w)(h:Inp w v x L)(h':Inp w v' y L)(sx:Sz x 1000000)(sy:Sz y 1000000)(HV:Hid (cmpQ x y=V)):Calls prog 175 #[v,v'] w (RetV w (.int .i64 V)):=by
 obtain⟨z0,Z,zn,zc,Z',zm,ze,rfl⟩:=h.agg;obtain⟨y0,Y,yn,yc,Y',ym,ye,rfl⟩:=h'.agg;obtain⟨hbA,hrx,hry⟩:=blocks2 w (.bool z0) (.slice Z zn zc) (.slice Z' zm ze) (.bool y0) (.slice Y yn yc) (.slice Y' ym ye);go_enter func175,ntmps175;have hI:=h.below hbA;have hI':=h'.below hbA;have hTW:=hT.below hbA;go_wp2_with fail
 generalize ((w.alloc (R1 (.bool z0) (.slice Z zn zc) (.slice Z' zm ze))).alloc (R1 (.bool y0) (.slice Y yn yc) (.slice Y' ym ye)))=W at*
 have hgx:w.heap.size<W.drew.heap.size:=hrx.lt;have hgy:w.heap.size+1<W.drew.heap.size:=hry.lt;replace hrx:=hrx.drew;replace hry:=hry.drew;replace hTW:=hTW.drew;replace hI:Inp W.drew _ x L:=hI.below (Below.refl _ _).drew;replace hI':Inp W.drew _ y L:=hI'.below (Below.refl _ _).drew;replace hbA:=hbA.drew;obtain⟨k0,k1,k2⟩:=hrx.cells;obtain⟨l0,l1,l2⟩:=hry.cells
 go_cut []from 5 to 8 (fun wx=>Clean2 w x y wx)
 case first=>
  go_region_with (first
   |(have _g:=hb1;go_at_call 178;refine(Qb4 _ y L _ (hTW.below hb1) (hI'.below hb1)).mono ?_;rintro e w2 ⟨v2,rfl,h2,hb2⟩;have hb12:=bt hb1 hb2;obtain⟨k0,k1,k2⟩:=(hrx.below hb12 hgx).cells;obtain⟨l0,l1,l2⟩:=(hry.below hb12 hgy).cells;obtain⟨f0,f1,f2⟩:=(hrx.below hb12 hgx).frozen;obtain⟨g0,g1,g2⟩:=(hry.below hb12 hgy).frozen;obtain⟨nb2,A2,n2,c2,B2,m2,e2,rfl⟩:=h2.agg)
   |(go_at_call 178;refine(Qb4 _ x L _ hTW hI).mono ?_;rintro e w1 ⟨v1,rfl,h1,hb1⟩;obtain⟨k0,k1,k2⟩:=(hrx.below hb1 hgx).cells;obtain⟨l0,l1,l2⟩:=(hry.below hb1 hgy).cells;obtain⟨nb1,A1,n1,c1,B1,m1,e1,rfl⟩:=h1.agg))
  all_goals
   go_wp2_with fail
   go_meet
   exact Clean2.of (h1.below hb2) h2 (hrx.below hb12 hgx) (hry.below hb12 hgy) (bt hbA hb12)
 case rest=>
 obtain⟨nb1,A1,n1,c1,B1,m1,e1,nb2,A2,n2,c2,B2,m2,e2,h1,h2,hrx1,hry1,hb1⟩:=hcut;clear hrx hry hgx hgy hTW hI hI' hbA k0 k1 k2 l0 l1 l2;have hTw:=hT.below hb1;obtain⟨s,hs⟩:∃s,x.num.sign=s:=⟨_,rfl⟩;obtain⟨t,ht⟩:∃t,y.num.sign=t:=⟨_,rfl⟩;have HS:=hid hs;have HTs:=hid ht;clear hs ht;go_wp2_with fail
 replace hTw:=hTw.drew;replace hrx1:=hrx1.drew;replace hry1:=hry1.drew;replace h1:RatQ wc.drew _ x:=h1.below (Below.refl _ _).drew;replace h2:RatQ wc.drew _ y:=h2.below (Below.refl _ _).drew;replace hb1:=hb1.drew;have hgx:=hrx1.lt;have hgy:=hry1.lt;have hsx:=hrx1.cells;have hsy:=hry1.cells
 go_region_held3 (fun w'=>(w'.cell? ⟨w.heap.size,0,none⟩=some (.bool nb1)/\w'.cell? ⟨w.heap.size,1,none⟩=some (.slice A1 n1 c1)/\w'.cell? ⟨w.heap.size,2,none⟩=some (.slice B1 m1 e1))/\(w'.cell? ⟨w.heap.size+1,0,none⟩=some (.bool nb2)/\w'.cell? ⟨w.heap.size+1,1,none⟩=some (.slice A2 n2 c2)/\w'.cell? ⟨w.heap.size+1,2,none⟩=some (.slice B2 m2 e2)))
  (exact⟨hsx,hsy⟩)
  (first
   |(have _g:=hb2;go_at_call 217;refine(Qxd _ y t _ (h2.below hb2) HTs).mono ?_;rintro e w3 ⟨rfl,hb3⟩;have hb23:=bt hb2 hb3;have hsx:=(hrx1.below hb23 hgx).cells;have hsy:=(hry1.below hb23 hgy).cells)
   |(go_at_call 217;refine(Qxd _ x s _ h1 HS).mono ?_;rintro e w2 ⟨rfl,hb2⟩;have hsx:=(hrx1.below hb2 hgx).cells;have hsy:=(hry1.below hb2 hgy).cells))
 have hb3':=bt hb1 hb23;replace hrx1:=hrx1.below hb23 hgx;replace hry1:=hry1.below hb23 hgy;replace h1:=h1.below hb23;replace h2:=h2.below hb23;have hT3:=hT.below hb3';clear hTw hb1 hb2 hb3 hb23 hgx hgy hsx hsy hT h h';by_cases hst:s=t
 ·have hd:(s !=t)=false:=by simp [hst]
  obtain⟨k0,k1,k2⟩:=hrx1.cells;obtain⟨l0,l1,l2⟩:=hry1.cells;obtain⟨f0,f1,f2⟩:=hrx1.frozen;obtain⟨g0,g1,g2⟩:=hry1.frozen;have HST:=hid hst;clear hst;obtain⟨p1,p2,p3⟩:=h1.parts;obtain⟨q1,q2,q3⟩:=h2.parts;have hsg:x.num.sign=y.num.sign:=by rw [HS.out,HTs.out,HST.out]
  have hq1:nb2=nb1:=by
   rw [p1,q1];refine decide_eq_decide.2 ?_;rcases Int.lt_trichotomy x.num 0 with ha|ha|ha<;>rcases Int.lt_trichotomy y.num 0 with hb|hb|hb<;>
    simp_all [Int.sign_eq_neg_one_of_neg,Int.sign_eq_one_of_pos]<;>omega
  subst hq1;have hV1:nb2=false->cmpI ((x.num.natAbs*y.den:Nat):Int) ((y.num.natAbs*x.den:Nat):Int)=V:=fun h=>by
   rw [<-HV.out,Qvg (of_decide_eq_false (by rw [<-p1];exact h)) (of_decide_eq_false (by rw [<-q1];exact h))]
  have hV2:nb2=true->cmpI ((y.num.natAbs*x.den:Nat):Int) ((x.num.natAbs*y.den:Nat):Int)=V:=fun h=>by
   rw [<-HV.out,Qvh (of_decide_eq_true (by rw [<-p1];exact h)) (of_decide_eq_true (by rw [<-q1];exact h))]
  clear p1 q1 hsg;have hl1:n1<=1000000:=by rw [p2.len];exact sx.1
  have hl2:m1<=1000000:=by rw [p3.len];exact le_trans (Qbd _) sx.2
  have hl3:n2<=1000000:=by rw [q2.len];exact sy.1
  have hl4:m2<=1000000:=by rw [q3.len];exact le_trans (Qbd _) sy.2
  have hz1:=sx.2;have hz2:=sy.2;clear h1 h2;cases nb2
  ·have HC:=hid (hV1 rfl)
   clear hV1 hV2;go_wp2_with fail
   have R1x:=hrx1;have R1y:=hry1;have U2:=p2;have U3:=p3;have V2:=q2;have V3:=q3;have HB:=hb3';clear hrx1 hry1 p2 p3 q2 q3 hb3' hT3 k0 k1 k2 l0 l1 l2 f0 f1 f2 g0 g1 g2;obtain⟨E,hE⟩:∃E,decide (dl x.den=dl y.den)=E:=⟨_,rfl⟩;have HE:=hid hE;clear hE;obtain⟨k0,k1,k2⟩:=R1x.cells;obtain⟨l0,l1,l2⟩:=R1y.cells;refine(Qd5 _ _ _ _ _ _ (dl x.den) (dl y.den) _ E U3 V3 (by omega) (by omega) HE).mono ?_;rintro e w' ⟨rfl,q,rfl⟩;replace R1x:Rc (w3.drewN q) _ _ _ _:=R1x.drewN q;replace R1y:Rc (w3.drewN q) _ _ _ _:=R1y.drewN q;replace U2:=U2.drewN q;replace U3:=U3.drewN q;replace V2:=V2.drewN q;replace V3:=V3.drewN q;replace HB:=Qah HB q;clear k0 k1 k2 l0 l1 l2;have hsx:=R1x.cells;have hsy:=R1y.cells;cases E
   ·generalize w3.drewN q=Wq at*
    replace R1x:=R1x.drew;replace R1y:=R1y.drew;replace U2:=U2.drew;replace U3:=U3.drew;replace V2:=V2.drew;replace V3:=V3.drew;replace HB:=HB.drew;have hgx:=R1x.lt;have hgy:=R1y.lt;go_wp2_with fail
    go_region_held3 (fun w'=>(w'.cell? ⟨w.heap.size,0,none⟩=some (.bool false)/\w'.cell? ⟨w.heap.size,1,none⟩=some (.slice A1 n1 c1)/\w'.cell? ⟨w.heap.size,2,none⟩=some (.slice B1 m1 e1))/\(w'.cell? ⟨w.heap.size+1,0,none⟩=some (.bool false)/\w'.cell? ⟨w.heap.size+1,1,none⟩=some (.slice A2 n2 c2)/\w'.cell? ⟨w.heap.size+1,2,none⟩=some (.slice B2 m2 e2)))
     (exact⟨hsx,hsy⟩)
     (first
      |(have _g:=hp2;go_at_call 219;refine(Qcm _ _ _ _ _ _ (x.num.natAbs*y.den) (y.num.natAbs*x.den) _ V (d2.num.below hq4) d4.num ?_ ?_ HC).mono ?_;(have:=d2.len;have:=Qa0 x.num.natAbs y.den;have:=U2.len;omega);(have:=d4.len;have:=Qa0 y.num.natAbs x.den;have:=V2.len;omega);rintro e w' ⟨rfl,q5,rfl⟩;have hsx:=(R1x.below hp4 hgx).cells;have hsy:=(R1y.below hp4 hgy).cells)
      |(have _g:=d3;go_at_call 220;refine(Qbe _ _ _ _ _ _ y.num.natAbs x.den _ (V2.below hp3) d3 ?_ ?_).mono ?_;omega;(have:=d3.len;omega);rintro e w4 ⟨A4,n4,c4,rfl,d4,hb4⟩;have hp2:=trivial;have hp4:=bt hp3 hb4;have hq4:=bt hb3 hb4;have hsx:=(R1x.below hp4 hgx).cells;have hsy:=(R1y.below hp4 hgy).cells)
      |(have _g:=d2;go_at_call 221;refine(Qar _ _ _ _ _ _ _ x.den _ (U3.below hp2') x.den_nz).mono ?_;rintro e w3' ⟨A3,n3,c3,rfl,d3,hb3⟩;have hp3:=bt hp2' hb3;have hsx:=(R1x.below hp3 hgx).cells;have hsy:=(R1y.below hp3 hgy).cells)
      |(have _g:=d1;go_at_call 220;refine(Qbe _ _ _ _ _ _ x.num.natAbs y.den _ (U2.below hb1') d1 ?_ ?_).mono ?_;omega;(have:=d1.len;omega);rintro e w2' ⟨A2',n2',c2',rfl,d2,hb2'⟩;have hp2':=bt hb1' hb2';have hsx:=(R1x.below hp2' hgx).cells;have hsy:=(R1y.below hp2' hgy).cells)
      |(go_at_call 221;refine(Qar _ _ _ _ _ _ _ y.den _ V3 y.den_nz).mono ?_;rintro e w1' ⟨A1',n1',c1',rfl,d1,hb1'⟩;have hsx:=(R1x.below hb1' hgx).cells;have hsy:=(R1y.below hb1' hgy).cells))
    go_wp2_with fail
    go_ret;exact⟨rfl,Qah (bt HB hp4) _⟩
   ·have HC2:Hid (cmpI (x.num.natAbs:Int) (y.num.natAbs:Int)=V):=by
     show _=_;have hd:=Qxc x.den_nz y.den_nz (of_decide_eq_true HE.out);rw [<-HC.out,hd]
     push_cast
     rw [Qi7 _ _ y.den_nz]
    clear HC;obtain⟨k0,k1,k2⟩:=hsx;obtain⟨l0,l1,l2⟩:=hsy;go_wp2_with fail
    refine(Qcm _ _ _ _ _ _ x.num.natAbs y.num.natAbs _ V U2 V2 (by omega) (by omega) HC2).mono ?_;rintro e w' ⟨rfl,q5,rfl⟩;go_wp2_with fail
    go_ret;exact⟨rfl,by rw [<-World.drewN_drewN];exact Qah HB _⟩
  ·have HC:=hid (hV2 rfl)
   clear hV1 hV2;go_wp2_with fail
   have R0y:=hry1.far3 (g':=w.heap.size) (by omega) (.bool true) (.slice A2 n2 c2) (.slice B2 m2 e2);have R1x:=(hrx1.set (.bool true) (.slice A2 n2 c2) (.slice B2 m2 e2)).far3 (g':=w.heap.size+1) (by omega) (.bool true) (.slice A1 n1 c1) (.slice B1 m1 e1);have R1y:=R0y.set (.bool true) (.slice A1 n1 c1) (.slice B1 m1 e1);have V2:=(p2.set3 (p2.ne_rc hrx1) (.bool true) (.slice A2 n2 c2) (.slice B2 m2 e2));have V3:=(p3.set3 (p3.ne_rc hrx1) (.bool true) (.slice A2 n2 c2) (.slice B2 m2 e2));have U2:=(q2.set3 (q2.ne_rc hrx1) (.bool true) (.slice A2 n2 c2) (.slice B2 m2 e2));have U3:=(q3.set3 (q3.ne_rc hrx1) (.bool true) (.slice A2 n2 c2) (.slice B2 m2 e2));replace V2:=V2.set3 (V2.ne_rc R0y) (.bool true) (.slice A1 n1 c1) (.slice B1 m1 e1);replace V3:=V3.set3 (V3.ne_rc R0y) (.bool true) (.slice A1 n1 c1) (.slice B1 m1 e1);replace U2:=U2.set3 (U2.ne_rc R0y) (.bool true) (.slice A1 n1 c1) (.slice B1 m1 e1);replace U3:=U3.set3 (U3.ne_rc R0y) (.bool true) (.slice A1 n1 c1) (.slice B1 m1 e1);have HB:=Qai (Qai hb3' (le_refl _) (.bool true) (.slice A2 n2 c2) (.slice B2 m2 e2)) (Nat.le_succ _) (.bool true) (.slice A1 n1 c1) (.slice B1 m1 e1);clear R0y hrx1 hry1 p2 p3 q2 q3 hb3' hT3 k0 k1 k2 l0 l1 l2 f0 f1 f2 g0 g1 g2;generalize ((((((w3.setCell ⟨w.heap.size,0,none⟩ (.bool true)).setCell ⟨w.heap.size,1,none⟩ (.slice A2 n2 c2)).setCell ⟨w.heap.size,2,none⟩ (.slice B2 m2 e2)).setCell ⟨w.heap.size+1,0,none⟩ (.bool true)).setCell ⟨w.heap.size+1,1,none⟩ (.slice A1 n1 c1)).setCell ⟨w.heap.size+1,2,none⟩ (.slice B1 m1 e1))=W3 at*
   obtain⟨E,hE⟩:∃E,decide (dl y.den=dl x.den)=E:=⟨_,rfl⟩;have HE:=hid hE;clear hE;obtain⟨k0,k1,k2⟩:=R1x.cells;obtain⟨l0,l1,l2⟩:=R1y.cells;refine(Qd5 _ _ _ _ _ _ (dl y.den) (dl x.den) _ E U3 V3 (by omega) (by omega) HE).mono ?_;rintro e w' ⟨rfl,q,rfl⟩;replace R1x:Rc (W3.drewN q) _ _ _ _:=R1x.drewN q;replace R1y:Rc (W3.drewN q) _ _ _ _:=R1y.drewN q;replace U2:=U2.drewN q;replace U3:=U3.drewN q;replace V2:=V2.drewN q;replace V3:=V3.drewN q;replace HB:=Qah HB q;clear k0 k1 k2 l0 l1 l2;have hsx:=R1x.cells;have hsy:=R1y.cells;cases E
   ·generalize W3.drewN q=Wq at*
    replace R1x:=R1x.drew;replace R1y:=R1y.drew;replace U2:=U2.drew;replace U3:=U3.drew;replace V2:=V2.drew;replace V3:=V3.drew;replace HB:=HB.drew;have hgx:=R1x.lt;have hgy:=R1y.lt;go_wp2_with fail
    go_region_held3 (fun w'=>(w'.cell? ⟨w.heap.size,0,none⟩=some (.bool true)/\w'.cell? ⟨w.heap.size,1,none⟩=some (.slice A2 n2 c2)/\w'.cell? ⟨w.heap.size,2,none⟩=some (.slice B2 m2 e2))/\(w'.cell? ⟨w.heap.size+1,0,none⟩=some (.bool true)/\w'.cell? ⟨w.heap.size+1,1,none⟩=some (.slice A1 n1 c1)/\w'.cell? ⟨w.heap.size+1,2,none⟩=some (.slice B1 m1 e1)))
     (exact⟨hsx,hsy⟩)
     (first
      |(have _g:=hp2;go_at_call 219;refine(Qcm _ _ _ _ _ _ (y.num.natAbs*x.den) (x.num.natAbs*y.den) _ V (d2.num.below hq4) d4.num ?_ ?_ HC).mono ?_;(have:=d2.len;have:=Qa0 y.num.natAbs x.den;have:=U2.len;omega);(have:=d4.len;have:=Qa0 x.num.natAbs y.den;have:=V2.len;omega);rintro e w' ⟨rfl,q5,rfl⟩;have hsx:=(R1x.below hp4 hgx).cells;have hsy:=(R1y.below hp4 hgy).cells)
      |(have _g:=d3;go_at_call 220;refine(Qbe _ _ _ _ _ _ x.num.natAbs y.den _ (V2.below hp3) d3 ?_ ?_).mono ?_;omega;(have:=d3.len;omega);rintro e w4 ⟨A4,n4,c4,rfl,d4,hb4⟩;have hp2:=trivial;have hp4:=bt hp3 hb4;have hq4:=bt hb3 hb4;have hsx:=(R1x.below hp4 hgx).cells;have hsy:=(R1y.below hp4 hgy).cells)
      |(have _g:=d2;go_at_call 221;refine(Qar _ _ _ _ _ _ _ y.den _ (U3.below hp2') y.den_nz).mono ?_;rintro e w3' ⟨A3,n3,c3,rfl,d3,hb3⟩;have hp3:=bt hp2' hb3;have hsx:=(R1x.below hp3 hgx).cells;have hsy:=(R1y.below hp3 hgy).cells)
      |(have _g:=d1;go_at_call 220;refine(Qbe _ _ _ _ _ _ y.num.natAbs x.den _ (U2.below hb1') d1 ?_ ?_).mono ?_;omega;(have:=d1.len;omega);rintro e w2' ⟨A2',n2',c2',rfl,d2,hb2'⟩;have hp2':=bt hb1' hb2';have hsx:=(R1x.below hp2' hgx).cells;have hsy:=(R1y.below hp2' hgy).cells)
      |(go_at_call 221;refine(Qar _ _ _ _ _ _ _ x.den _ V3 x.den_nz).mono ?_;rintro e w1' ⟨A1',n1',c1',rfl,d1,hb1'⟩;have hsx:=(R1x.below hb1' hgx).cells;have hsy:=(R1y.below hb1' hgy).cells))
    go_wp2_with fail
    go_ret;exact⟨rfl,Qah (bt HB hp4) _⟩
   ·have HC2:Hid (cmpI (y.num.natAbs:Int) (x.num.natAbs:Int)=V):=by
     show _=_;have hd:=Qxc y.den_nz x.den_nz (of_decide_eq_true HE.out);rw [<-HC.out,hd]
     push_cast
     rw [Qi7 _ _ x.den_nz]
    clear HC;obtain⟨k0,k1,k2⟩:=hsx;obtain⟨l0,l1,l2⟩:=hsy;go_wp2_with fail
    refine(Qcm _ _ _ _ _ _ y.num.natAbs x.num.natAbs _ V U2 V2 (by omega) (by omega) HC2).mono ?_;rintro e w' ⟨rfl,q5,rfl⟩;go_wp2_with fail
    go_ret;exact⟨rfl,by rw [<-World.drewN_drewN];exact Qah HB _⟩
 ·have hd:(s !=t)=true:=by simp [hst]
  have HC:Hid (cmpI s t=V):=by
   show _=_;rw [<-HV.out,Qsj (by rw [HS.out,HTs.out];exact hst),HS.out,HTs.out]
  clear hst;go_wp2_with fail
  refine(Qhl s t _).mono ?_;rintro e w' ⟨rfl,rfl⟩;go_wp2_with fail
  go_ret;rw [HC.out];exact⟨rfl,hb3'⟩
theorem Qvi{w:World}{g c:Nat}(h:Row w g [1])(hc:1<=c):RatQ w (.agg #[.bool false,.slice (some ⟨g,0,none⟩) 1 c,.slice none 0 0]) 1:=by
 refine⟨_,_,_,_,_,_,rfl,?_,?_⟩
 ·show Num w (limbs 1) _ _ _
  rw [Qay];exact h.num (by intro x hx;simp at hx;subst hx;decide) rfl hc
 ·show Num w (dl 1) _ _ _
  unfold dl;rw [if_pos rfl];exact Num.nil _ _ _
theorem Qbr(w:World):Calls prog 129 #[] w (RetRat w 1):=by
 go_enter func129,ntmps129;have x0:=blk2 w [.bool false,.slice (some ⟨w.heap.size+1,0,none⟩) 1 1,.slice none 0 0] [.int .u32 1] 27 97;go_wp2_with fail
 refine Qa8 results129 rfl (show Rc _ _ _ _ _ from x0.2.1) rfl ?_;exact⟨_,rfl,Qvi (show Row _ _ _ from x0.2.2) (le_refl _),x0.1⟩
theorem Qyc(v:Value)(q:Rat)(w:World)(hT:Tab w)(h:RatQ w v q)(hS:Sz q 100000):Calls prog 160 #[v] w (RetV w (.bool true)):=by
 obtain⟨A,n,c,A',m,c',rfl,h1,h2⟩:=h;have l1:=h1.len;have l2:=h2.len;have hd:(dl q.den).length<=(limbs q.den).length:=by
  unfold dl;split
  ·simp
  ·exact le_refl _
 exact Qc4 _ A A' n c m c' _ _ w true hT h1 h2 (by have:=hS.1;omega) (by have:=hS.2;omega) Qfy
theorem Qsk(x y:Rat):cmpQ x y<=0↔x<=y:=by
 unfold cmpQ;by_cases h1:x<y
 ·rw [if_pos h1];constructor<;>intro h<;>first|grind|decide
 ·by_cases h2:y<x
  ·rw [if_neg h1,if_pos h2];constructor<;>intro h<;>grind
  ·rw [if_neg h1,if_neg h2];constructor<;>intro h<;>grind
end Go.Proofs.YthbhgelncdnmgaaGreatDoor
