import Derived.Test.YthbhgelncdnmgaaGreatDoorZ46
import Derived.Test.YthbhgelncdnmgaaGreatDoorZ47
set_option linter.unusedVariables false
set_option linter.unusedSimpArgs false
set_option maxRecDepth 20000
set_option maxHeartbeats 8000000
namespace Go.Proofs.YthbhgelncdnmgaaGreatDoor
open Go.Proofs.Tryz
open Lib (hid)
open Nat (le_refl le_trans zero_le lt_or_eq_of_le le_of_lt_succ not_lt_zero)
open Go.RowKit
def RetRing(w0:World)(e:Ending)(w':World):Prop:=∃(kk:Int) (l:List Int) (A:Option Addr) (n c:Nat) (r:Rg),e=.returned (.agg #[.int .i64 kk,.slice A n c])/\IntR w' l A n c/\ringOf kk l=some r/\((∃k,r=.one k)->A=none/\n=0/\c=0)/\Below w0.heap.size w0 w'
theorem Mod_id(k:Nat)(n:Nat)(w:World)(h:k<n)(hn:n<=1000):Calls prog 60 #[.int .i64 (k:Int),.int .i64 (n:Int)] w (fun e w'=>e=.returned (.int .i64 (k:Int))/\w'=w):=by
 have ht:(k:Int).tmod (n:Int)=(k:Int):=Int.tmod_eq_of_lt (by omega) (by omega);have hn0:¬(n:Int)=0:=by omega
 have hn1:¬(n:Int)= -1:=by omega
 have hk0:¬(k:Int)<0:=by omega
 go_enter func60,ntmps60;go_wp2_with fail
 go_ret;exact⟨rfl,rfl⟩
theorem mRing(k:Int)(w:World)(hk1: -9223372036854775808<=k)(hk2:k<=9223372036854775807):Calls prog 32 #[.int .i64 k] w (RetRing w):=by
 obtain⟨hb0,c1⟩:=blk1 w [.int .i64 0,.slice none 0 0] 24;have HM:=hid (Qe3 k 7 (w.alloc (.cells #[.int .i64 0,.slice none 0 0] 24)) hk1 hk2 (by omega) (by omega));go_enter func32,ntmps32;go_wp2_with fail
 refine HM.out.mono ?_;rintro e2 w2 ⟨r,hr,rfl,rfl⟩;obtain⟨f0,f1⟩:(w.alloc (.cells #[.int .i64 0,.slice none 0 0] 24)).frozen? ⟨w.heap.size,0,none⟩=false/\(w.alloc (.cells #[.int .i64 0,.slice none 0 0] 24)).frozen? ⟨w.heap.size,1,none⟩=false:=⟨c1.frozen 0,c1.frozen 1⟩;by_cases h5:r=5
 ·subst h5
  have x2:=blk2 w [.int .i64 6,.slice (some ⟨w.heap.size+1,0,none⟩) 2 2] [.int .i64 1,.int .i64 2] 24 3;go_wp2_with fail
  refine Qaj (l:=[.int .i64 6,.slice (some ⟨w.heap.size+1,0,none⟩) 2 2]) results32 underlying24 (by kernel_rfl) rfl x2.2.1 rfl ?_;refine⟨6,[1,2],_,2,2,.prod [1,2],rfl,⟨rfl,le_refl _,fun _=>⟨_,0,rfl,x2.2.2.lt,fun k x hx=>x2.2.2.cell (by rw [Nat.zero_add];exact hx)⟩⟩,rfl,fun⟨k,h⟩=>(by cases h),x2.1⟩
 ·by_cases h6:r=6
  ·subst h6
   have x2:=blk2 w [.int .i64 6,.slice (some ⟨w.heap.size+1,0,none⟩) 3 3] [.int .i64 3,.int .i64 4,.int .i64 5] 24 3;go_wp2_with fail
   refine Qaj (l:=[.int .i64 6,.slice (some ⟨w.heap.size+1,0,none⟩) 3 3]) results32 underlying24 (by kernel_rfl) rfl x2.2.1 rfl ?_;refine⟨6,[3,4,5],_,3,3,.prod [3,4,5],rfl,⟨rfl,le_refl _,fun _=>⟨_,0,rfl,x2.2.2.lt,fun k x hx=>x2.2.2.cell (by rw [Nat.zero_add];exact hx)⟩⟩,rfl,fun⟨k,h⟩=>(by cases h),x2.1⟩
  ·have g5:((r:Int)==5)=false:=by simp;omega
   have g6:((r:Int)==6)=false:=(by simp;omega);have hws:IntKind.i64.wrap ((r:Int)+1)=(r:Int)+1:=IntWalk.i64_in _ (by omega);have x2:=blk1 w [.int .i64 ((r:Int)+1),.slice none 0 0] 24;have HR:=hid (show r<5 by omega);clear h5 h6 hr;go_wp2_with fail
   refine(Mod_id r 7 _ (by have:=HR.out;omega) (by omega)).mono ?_;rintro e3 w3 ⟨rfl,rfl⟩;go_wp2_with fail
   refine Qaj (l:=[.int .i64 ((r:Int)+1),.slice none 0 0]) results32 underlying24 (by kernel_rfl) rfl x2.2 rfl ?_;refine⟨(r:Int)+1,[],none,0,0,.one (r+1),rfl,Rd.nil _ _ _,?_,fun _=>⟨rfl,rfl,rfl⟩,x2.1⟩;unfold ringOf;have:=HR.out;rw [if_neg (by omega),if_pos ⟨by omega,by omega,rfl⟩]
   congr 2
def RetM(r:Rg)(w0:World)(e:Ending)(w':World):Prop:=∃z,okW r z/\SzW 8 z/\RetX 0 w0 (dOfW z) e w'
def RetM1(k:Nat)(w0:World)(e:Ending)(w':World):Prop:=∃a,okK k a/\SzS 8 a/\RetX 0 w0 (dOf a) e w'
theorem mW1(v:Int)(w:World)(hv: -9223372036854775808<=v/\v<=9223372036854775807):Calls prog 33 #[.agg #[.int .i64 1,.slice none 0 0],.int .i64 v] w (RetM1 1 w):=by
 obtain⟨hb0,c1,c2⟩:=blk2 w [.int .i64 1,.slice none 0 0] [.bool false,.slice none 0 0,.slice none 0 0,.int .i64 0,.bool false,.int .u64 0,.slice none 0 0,.slice none 0 0] 24 32;go_enter func33,ntmps33;go_wp2_with fail
 generalize ((w.alloc (.cells #[.int .i64 1,.slice none 0 0] 24)).alloc (W8t 0 false))=W0 at*
 refine(Qj8 v _ hv.1 hv.2).mono ?_;rintro e0 w1 ⟨x,q,rfl,hq,hs,hb1⟩;replace hb0:=bt hb0 hb1;replace c2:=c2.below hb1 c2.lt;obtain⟨A,n,c,B,m,e,rfl,h1,h2⟩:=hq;have HQ:Hid (RatQ w1 _ q):=hid ⟨A,n,c,B,m,e,rfl,h1,h2⟩;clear h1 h2;obtain⟨a0,a1,a2,a3,a4,a5,a6,a7⟩:=c2.c8;obtain⟨f0,f1,f2,f3,f4,f5,f6,f7⟩:=c2.f8;go_wp2_with fail
 refine Qaj (l:=[.bool (decide (q.num<0)),.slice A n c,.slice B m e,.int .i64 0,.bool false,.int .u64 0,.slice none 0 0,.slice none 0 0]) results33 underlying32 (by kernel_rfl) rfl (Qak c2 rfl _ _ _ _ _ _ _ _) rfl ?_;exact⟨svQ q,rfl,Qlp (hs.mono (by decide)),Qro HQ.out hb0 (by omega) c2 rfl⟩
theorem mW2(v:Int)(w:World)(hv: -9223372036854775808<=v/\v<=9223372036854775807):Calls prog 33 #[.agg #[.int .i64 2,.slice none 0 0],.int .i64 v] w (RetM1 2 w):=by
 obtain⟨hb0,c1,c2⟩:=blk2 w [.int .i64 2,.slice none 0 0] [.bool false,.slice none 0 0,.slice none 0 0,.int .i64 0,.bool false,.int .u64 0,.slice none 0 0,.slice none 0 0] 24 32;go_enter func33,ntmps33;go_wp2_with fail
 generalize ((w.alloc (.cells #[.int .i64 2,.slice none 0 0] 24)).alloc (W8t 0 false))=W0 at*
 refine(Qe3 v 11 _ hv.1 hv.2 (by omega) (by omega)).mono ?_;rintro e0 w1 ⟨r,hr,rfl,rfl⟩;by_cases h10:r=10
 ·subst h10
  have r0:=c1.cell (k:=0) rfl;have r1:=c1.cell (k:=1) rfl;go_wp2_with fail
  refine(Qnr _).mono ?_;rintro e0 w2 ⟨rfl,hb1⟩;replace hb0:=bt hb0 hb1;replace c2:=c2.below hb1 c2.lt;obtain⟨a0,a1,a2,a3,a4,a5,a6,a7⟩:=c2.c8;obtain⟨f0,f1,f2,f3,f4,f5,f6,f7⟩:=c2.f8;go_wp2_with fail
  refine Qaj (l:=[.bool false,.slice none 0 0,.slice none 0 0,.int .i64 0,.bool true,.int .u64 0,.slice none 0 0,.slice none 0 0]) results33 underlying32 (by kernel_rfl) rfl (Qak c2 rfl _ _ _ _ _ _ _ _) rfl ?_;exact⟨svC 0 true,⟨rfl,by decide,by decide,fun _=>rfl⟩,Qnl (by decide) _ _,Qd2 (Qf6 _ 0 true) (Qap hb0 (by omega) _ _ _ _ _ _ _ _)⟩
 ·have g0:((r:Int)==10)=false:=by simp;omega
  clear h10;obtain⟨a0,a1,a2,a3,a4,a5,a6,a7⟩:=c2.c8;obtain⟨f0,f1,f2,f3,f4,f5,f6,f7⟩:=c2.f8;go_wp2_with fail
  refine(Qe3 v 11 _ hv.1 hv.2 (by omega) (by omega)).mono ?_;rintro e0 w1 ⟨r',hr',rfl,rfl⟩;go_wp2_with fail
  refine Qaj (l:=[.bool false,.slice none 0 0,.slice none 0 0,.int .i64 (r':Int),.bool false,.int .u64 0,.slice none 0 0,.slice none 0 0]) results33 underlying32 (by kernel_rfl) rfl (Qak c2 rfl _ _ _ _ _ _ _ _) rfl ?_;exact⟨svC r' false,⟨rfl,by show(0:Int)<=(r':Int);omega,by show(r':Int)<=1099511627776;omega,fun h=>by cases h⟩,Qnl (by decide) _ _,Qd2 (Qf6 _ _ _) (Qap hb0 (by omega) _ _ _ _ _ _ _ _)⟩
theorem mW3(v:Int)(w:World)(hv: -9223372036854775808<=v/\v<=9223372036854775807):Calls prog 33 #[.agg #[.int .i64 3,.slice none 0 0],.int .i64 v] w (RetM1 3 w):=by
 obtain⟨hb0,c1,c2⟩:=blk2 w [.int .i64 3,.slice none 0 0] [.bool false,.slice none 0 0,.slice none 0 0,.int .i64 0,.bool false,.int .u64 0,.slice none 0 0,.slice none 0 0] 24 32;go_enter func33,ntmps33;go_wp2_with fail
 generalize ((w.alloc (.cells #[.int .i64 3,.slice none 0 0] 24)).alloc (W8t 0 false))=W0 at*
 refine(Qe3 v 7 _ hv.1 hv.2 (by omega) (by omega)).mono ?_;rintro e0 w1 ⟨r,hr,rfl,rfl⟩;have hq0:qv (decide ((r:Int)<0) !=decide ((6:Int)<0)) (r:Int).natAbs (6:Int).natAbs=qv false r 6:=by
  rw [decide_eq_false (by omega),decide_eq_false (by omega),Int.natAbs_natCast];rfl
 obtain⟨s1,s2,s3,s4⟩:=Qns r (by omega);have hs:=Qxk r 8 (by omega) (by decide);have HOF:=hid (fun W=>Qxw (r:Int) 6 W (by decide) (qv false r 6) hq0 (by omega) (by omega) (by decide) (by decide));clear hq0;generalize qv false r 6=q at*
 go_wp2_with fail
 refine(HOF.out _).mono ?_;rintro e0 w2 ⟨x,rfl,hq,hb1⟩;replace hb0:=bt hb0 hb1;replace c2:=c2.below hb1 c2.lt;obtain⟨A,n,c,B,m,e,rfl,h1,h2⟩:=hq;have HQ:Hid (RatQ w2 _ q):=hid ⟨A,n,c,B,m,e,rfl,h1,h2⟩;clear h1 h2;obtain⟨a0,a1,a2,a3,a4,a5,a6,a7⟩:=c2.c8;obtain⟨f0,f1,f2,f3,f4,f5,f6,f7⟩:=c2.f8;go_wp2_with fail
 refine Qaj (l:=[.bool (decide (q.num<0)),.slice A n c,.slice B m e,.int .i64 0,.bool false,.int .u64 0,.slice none 0 0,.slice none 0 0]) results33 underlying32 (by kernel_rfl) rfl (Qak c2 rfl _ _ _ _ _ _ _ _) rfl ?_;exact⟨svQ q,⟨rfl,Rat.num_nonneg.1 s2,(Qog _ _).1 s1⟩,Qlp hs,Qro HQ.out hb0 (by omega) c2 rfl⟩
theorem mW4(v:Int)(w:World)(hv: -9223372036854775808<=v/\v<=9223372036854775807):Calls prog 33 #[.agg #[.int .i64 4,.slice none 0 0],.int .i64 v] w (RetM1 4 w):=by
 obtain⟨hb0,c1,c2⟩:=blk2 w [.int .i64 4,.slice none 0 0] [.bool false,.slice none 0 0,.slice none 0 0,.int .i64 0,.bool false,.int .u64 0,.slice none 0 0,.slice none 0 0] 24 32;go_enter func33,ntmps33;go_wp2_with fail
 generalize ((w.alloc (.cells #[.int .i64 4,.slice none 0 0] 24)).alloc (W8t 0 false))=W0 at*
 refine(Qe3 v 16 _ hv.1 hv.2 (by omega) (by omega)).mono ?_;rintro e0 w1 ⟨r,hr,rfl,rfl⟩;have hwr:IntKind.u64.wrap (r:Int)=(r:Int):=by
  show(r:Int)%18446744073709551616=r;omega
 obtain⟨a0,a1,a2,a3,a4,a5,a6,a7⟩:=c2.c8;obtain⟨f0,f1,f2,f3,f4,f5,f6,f7⟩:=c2.f8;go_wp2_with fail
 refine Qaj (l:=[.bool false,.slice none 0 0,.slice none 0 0,.int .i64 0,.bool false,.int .u64 (r:Int),.slice none 0 0,.slice none 0 0]) results33 underlying32 (by kernel_rfl) rfl (Qak c2 rfl _ _ _ _ _ _ _ _) rfl ?_;exact⟨svS r,⟨rfl,by show r<=18446744073709551615;omega⟩,Qxg (by decide) _,Qd2 (Qwa _ _) (Qap hb0 (by omega) _ _ _ _ _ _ _ _)⟩
theorem Qz8(j:Nat):deg (uE j)<=5:=by
 match j with
 |0=>decide
 |1=>decide
 |_+2=>exact(by decide:deg (0,0,1)<=5)
theorem Qyd(j:Nat):VP [(uE j,(1:Rat))]:=⟨fun m hm=>by rw [List.mem_singleton.1 hm];exact⟨Qz8 j,(by decide:(1:Rat)≠0)⟩,List.pairwise_singleton _ _⟩
theorem Qvh(j:Nat):SzL [(uE j,(1:Rat))] 1:=fun m hm=>by rw [List.mem_singleton.1 hm];exact Qk7 1 (le_refl _)
theorem szL_mp{j:Nat}{x:Rat}(hx:Sz x 1):SzL (listOf (mulC (co [(uE j,(1:Rat))]) (constC x))) 4:=by
 have:=Qvc (Qyd j) (Qat (constC x)) (Qdf hx (by decide)) (Qvh j);rw [Qlo]at this;exact this.mono (show 1+1*(1+1+1)<=4 by decide)
theorem mW5(v:Int)(w:World)(hv: -9223372036854775808<=v/\v<=9223372036854775807):Calls prog 33 #[.agg #[.int .i64 5,.slice none 0 0],.int .i64 v] w (RetM1 5 w):=by
 obtain⟨hb0,c1,c2⟩:=blk2 w [.int .i64 5,.slice none 0 0] [.bool false,.slice none 0 0,.slice none 0 0,.int .i64 0,.bool false,.int .u64 0,.slice none 0 0,.slice none 0 0] 24 32;go_enter func33,ntmps33;go_wp2_with fail
 generalize ((w.alloc (.cells #[.int .i64 5,.slice none 0 0] 24)).alloc (W8t 0 false))=W0 at*
 obtain⟨y1,hy1⟩:∃y,v.tdiv 5=y:=⟨_,rfl⟩;have hyr1: -9223372036854775808<=y1/\y1<=9223372036854775807:=by
  have h1:y1.natAbs=v.natAbs / 5:=by rw [<-hy1];exact Int.natAbs_tdiv v 5
  omega
 have hwy1:IntKind.i64.wrap y1=y1:=IntWalk.i64_in _ (by omega);obtain⟨y2,hy2⟩:∃y,v.tdiv 10=y:=⟨_,rfl⟩;have hyr2: -9223372036854775808<=y2/\y2<=9223372036854775807:=by
  have h1:y2.natAbs=v.natAbs / 10:=by rw [<-hy2];exact Int.natAbs_tdiv v 10
  omega
 have hwy2:IntKind.i64.wrap y2=y2:=IntWalk.i64_in _ (by omega);have HY1:=hid hyr1;have HY2:=hid hyr2;have HV:=hid hv;clear hyr1 hyr2 hv;refine(Qe3 v 5 _ HV.out.1 HV.out.2 (by omega) (by omega)).mono ?_;rintro e0 w1 ⟨r,hr,rfl,rfl⟩;have hwr:IntKind.i64.wrap ((r:Int) - 2)=(r:Int) - 2:=IntWalk.i64_in _ (by omega);obtain⟨q,hq0⟩:∃q,qv (decide ((r:Int) - 2<0) !=decide ((3:Int)<0)) ((r:Int) - 2).natAbs (3:Int).natAbs=q:=⟨_,rfl⟩;have hs1:Sz q 1:=by rw [<-hq0];exact Qva _ (by omega) (by decide) (by decide)
 have HOF:=hid (fun W=>Qxw ((r:Int) - 2) 3 W (by decide) q hq0 (by omega) (by omega) (by decide) (by decide));have HS1:=hid hs1;clear hq0 hs1 hr;go_wp2_with fail
 refine(HOF.out _).mono ?_;rintro e0 w2 ⟨x,rfl,hq,hb1⟩;replace hb0:=bt hb0 hb1;replace c2:=c2.below hb1 c2.lt;clear hb1;have HC:=hid (Qi1 x q w2 (hq.inr HS1.out (by decide)) (HS1.out.mono (by decide)));obtain⟨nb,A,n,c,B,m,e,rfl⟩:=hq.agg;clear hq;go_wp2_with fail
 refine HC.out.mono ?_;rintro e0 w3 ⟨p,rfl,hp,hb1⟩;replace hb0:=bt hb0 hb1;replace c2:=c2.below hb1 c2.lt;have HP:=hid hp;obtain⟨A3,n3,c3,rfl⟩:=hp.sl3;clear hb1 hp HC;have hw1:¬(5:Int)=0:=by decide
 go_wp2_with fail
 refine(Qe3 y1 2 _ HY1.out.1 HY1.out.2 (by omega) (by omega)).mono ?_;rintro e0 w4 ⟨r2,hr2,rfl,rfl⟩;by_cases h1:r2=1
 ·subst h1
  go_wp2_with fail
  refine(Qe3 y2 3 _ HY2.out.1 HY2.out.2 (by omega) (by omega)).mono ?_;rintro e0 w5 ⟨j,hj,rfl,rfl⟩;go_wp2_with fail
  refine(Qnf j _ hj).mono ?_;rintro e0 w6 ⟨pu,rfl,hpu,hb1⟩;replace hb0:=bt hb0 hb1;replace c2:=c2.below hb1 c2.lt;have HP:=hid (HP.out.below hb1);have HU:=hid hpu;obtain⟨A5,n5,c5,rfl⟩:=hpu.sl3;clear hb1 hpu;go_wp2_with fail
  refine(Qj8 v _ HV.out.1 HV.out.2).mono ?_;rintro e0 w7 ⟨xn,qn,rfl,hqn,hsn,hb1⟩;replace hb0:=bt hb0 hb1;replace c2:=c2.below hb1 c2.lt;have HP:=hid (HP.out.below hb1);have HSC:=hid (Qxf _ xn _ qn 1 1 w7 ((HU.out.below hb1).pir (Qyd j) (Qvh j) (by decide)) (hqn.inr hsn (by decide)) hsn (by decide) (by decide));have HSN:=hid hsn;obtain⟨nb7,A7,n7,c7,B7,m7,e7,rfl⟩:=hqn.agg;clear hb1 hqn hsn;go_wp2_with fail
  refine HSC.out.mono ?_;rintro e0 w8 ⟨ps,rfl,hps,hb1⟩;replace hb0:=bt hb0 hb1;replace c2:=c2.below hb1 c2.lt;have hcs:SzL (listOf (constC q)) 1:=Qdf HS1.out (by decide);have hms:SzL (listOf (mulC (co [(uE j,(1:Rat))]) (constC qn))) 4:=szL_mp HSN.out;have HAD:=hid (r2_Add _ ps _ _ 4 w8 ((HP.out.below hb1).pir (Qat _) (hcs.mono (by decide)) (by decide)) (hps.pir (Qat _) hms (by decide)) (by decide) (by decide));obtain⟨A8,n8,c8,rfl⟩:=hps.sl3;clear hb1 hps;go_wp2_with fail
  refine HAD.out.mono ?_;rintro e0 w9 ⟨pr,rfl,hpr,hb1⟩;replace hb0:=bt hb0 hb1;replace c2:=c2.below hb1 c2.lt;obtain⟨A3,n3,c3,rfl⟩:=hpr.sl3;have HR:=hid hpr.praw;clear hb1 hpr HAD;obtain⟨a0,a1,a2,a3,a4,a5,a6,a7⟩:=c2.c8;obtain⟨f0,f1,f2,f3,f4,f5,f6,f7⟩:=c2.f8;go_wp2_with fail
  refine Qaj (l:=[.bool false,.slice none 0 0,.slice none 0 0,.int .i64 0,.bool false,.int .u64 0,.slice A3 n3 c3,.slice none 0 0]) results33 underlying32 (by kernel_rfl) rfl (Qak c2 rfl _ _ _ _ _ _ _ _) rfl ?_;refine⟨svP _,⟨rfl,Qat _⟩,Qve (by decide) ?_,Qul HR.out hb0 (by omega) c2 rfl⟩;rw [Qlo];have:=Qvd (L:=1) (M:=4) (c:=constC q) (d:=co (listOf (mulC (co [(uE j,(1:Rat))]) (constC qn)))) (Qh8 q) (Qe0 (Qat _)) hcs (by rw [Qbs (Qat _)];exact hms);exact this
 ·have g0:((r2:Int)==1)=false:=by simp;omega
  have HR:=hid HP.out.praw;clear h1;obtain⟨a0,a1,a2,a3,a4,a5,a6,a7⟩:=c2.c8;obtain⟨f0,f1,f2,f3,f4,f5,f6,f7⟩:=c2.f8;go_wp2_with fail
  refine Qaj (l:=[.bool false,.slice none 0 0,.slice none 0 0,.int .i64 0,.bool false,.int .u64 0,.slice A3 n3 c3,.slice none 0 0]) results33 underlying32 (by kernel_rfl) rfl (Qak c2 rfl _ _ _ _ _ _ _ _) rfl ?_;exact⟨svP _,⟨rfl,Qat _⟩,Qve (by decide) ((Qdf HS1.out (by decide)).mono (by decide)),Qul HR.out hb0 (by omega) c2 rfl⟩
theorem Qye(k:Nat)(hk:kind5 k)(v:Int)(w:World)(hv: -9223372036854775808<=v/\v<=9223372036854775807):Calls prog 33 #[.agg #[.int .i64 (k:Int),.slice none 0 0],.int .i64 v] w (RetM1 k w):=by
 obtain rfl|rfl|rfl|rfl|rfl:k=1\/k=2\/k=3\/k=4\/k=5:=by unfold kind5 at hk;omega
 ·exact mW1 v w hv
 ·exact mW2 v w hv
 ·exact mW3 v w hv
 ·exact mW4 v w hv
 ·exact mW5 v w hv
theorem Qqp:∀(n i:Nat),i<n*8->(zrowW n)[i]? =zw8[i%8]?
 |0,i,h=>absurd h (by omega)
 |n+1,i,h=>by
  rw [Qgb];by_cases h8:i<8
  ·rw [List.getElem?_append_left (show i<zw8.length from h8),Nat.mod_eq_of_lt h8]
  ·rw [List.getElem?_append_right (show zw8.length<=i from Nat.le_of_not_lt h8),show zw8.length=8 from rfl,Qqp n (i-8) (by omega)]
   congr 1;omega
theorem zeros8(n:Nat):Builtin.zeroCells (Value.agg #[.bool false,.slice none 0 0,.slice none 0 0,.int .i64 0,.bool false,.int .u64 0,.slice none 0 0,.slice none 0 0]).cells n=(zrowW n).toArray:=by
 show Builtin.zeroCells zw8.toArray n=(zrowW n).toArray;have hs:(Builtin.zeroCells zw8.toArray n).size=n*8:=size_zeroCells _ _;refine Array.ext (by rw [hs,List.size_toArray,Qhk]) fun i h1 h2=>?_
 have hi:i<n*8:=by rw [<-hs];exact h1
 have e:=Qqp n i hi;have h8:i%8<zw8.length:=Nat.mod_lt _ (by decide);rw [List.getElem?_eq_getElem (by rw [Qhk];exact hi),List.getElem?_eq_getElem h8]at e;have e3:(zrowW n).toArray[i]'h2=zw8[i%8]'h8:=Option.some.inj e;have e2:(Builtin.zeroCells zw8.toArray n)[i]'h1=zw8.toArray[i%zw8.toArray.size]! :=by
  simp only [Builtin.zeroCells,Array.getElem_map,Array.getElem_range]
 refine e2.trans (Eq.trans ?_ e3.symm);rw [show zw8.toArray.size=8 from rfl,getElem!_pos zw8.toArray (i%8) h8];rfl
def OwnW(w:World)(B:Nat)(v:Value)(n:Nat)(xs:List Value):Prop:=xs.length=n*8/\((v=.slice none 0 0/\n=0)\/∃g cap,v=.slice (some ⟨g,0,none⟩) n cap/\B<=g/\n<=cap/\cap<=maxLen/\Cs w g (xs++zrowW (cap-n)) 32)
theorem Qxl(w:World)(B:Nat)(v:Value)(n:Nat)(xs:List Value)(hown:OwnW w B v n xs)(g:Nat)(z:List Value)(hz:z.length=8)(hg:Cs w g z 32)(h1:∀u∈z,u.oneCell'=true)(hn:n<=1000)(hB:B<=w.heap.size):
 ∃v' w',(Builtin.append_ #[30,30] 30 #[v,.slice (some ⟨g,0,none⟩) 1 1]).run prog w=.ok v' w'/\OwnW w' B v' (n+1) (xs++z)/\w.grownBy w' v.ownBlock:=by
 have h0:(prog.info? 32).map (fun i=>(i.zero,i.size,decide (i.bytes<=1000)))=some (some (.agg #[.bool false,.slice none 0 0,.slice none 0 0,.int .i64 0,.bool false,.int .u64 0,.slice none 0 0,.slice none 0 0]),8,true):=by kernel_rfl
 obtain⟨i,hi,hzz⟩:=Option.map_eq_some_iff.1 h0;simp only [Prod.mk.injEq,decide_eq_true_eq]at hzz;obtain⟨hz0,hz1,hz2⟩:=hzz;have hu:=underlying30;have hnews:∀j u,z[j]? =some u->w.cell? ((⟨g,0,none⟩:Addr).add j)=some u:=fun j u hju=>by
  have e:(⟨g,0,none⟩:Addr).add j=⟨g,j,none⟩:=by unfold Addr.add;split<;>simp_all
  rw [e];exact hg.cell hju
 have grown:∀(old:Nat),∀(row:Option Nat),
  OwnW (w.drew.alloc (.cells (xs.toArray++z.toArray++Builtin.zeroCells (Value.agg #[.bool false,.slice none 0 0,.slice none 0 0,.int .i64 0,.bool false,.int .u64 0,.slice none 0 0,.slice none 0 0]).cells (grownCap w (n+1) old 32-(n+1))) 32)) B
   (.slice (some ⟨w.heap.size,0,none⟩) (n+1) (grownCap w (n+1) old 32)) (n+1) (xs++z)/\
  w.grownBy (w.drew.alloc (.cells (xs.toArray++z.toArray++Builtin.zeroCells (Value.agg #[.bool false,.slice none 0 0,.slice none 0 0,.int .i64 0,.bool false,.int .u64 0,.slice none 0 0,.slice none 0 0]).cells (grownCap w (n+1) old 32-(n+1))) 32)) row:=by
  intro old row;have hge:=grownCap_ge w (n+1) old 32;have hcm:grownCap w (n+1) old 32<=maxLen:=grownCap_le_maxLen w (n+1) old 32 (by unfold maxLen;omega);refine⟨⟨by rw [List.length_append,hown.1,hz];omega,.inr ⟨w.heap.size,_,rfl,hB,hge,hcm,?_⟩⟩,⟨rfl,rfl,rfl,by simp,fun k hk _=>heap_alloc_old w.drew _ hk⟩⟩;have hn:=heap_alloc_new w.drew (.cells (xs.toArray++z.toArray++Builtin.zeroCells (Value.agg #[.bool false,.slice none 0 0,.slice none 0 0,.int .i64 0,.bool false,.int .u64 0,.slice none 0 0,.slice none 0 0]).cells (grownCap w (n+1) old 32-(n+1))) 32);rw [zeros8]at hn⊢;unfold Cs;rw [<-List.append_toArray,<-List.append_toArray];exact hn
 rcases hown.2 with⟨rfl,rfl⟩|⟨g',cap,rfl,hbg,hnc,hcm,hc⟩
 ·have hx:xs=[]:=List.eq_nil_of_length_eq_zero (by simpa using hown.1)
  subst hx;have hr:=run_append_nil (P:=prog) w 30 30 32 i _ hu hi hz0 ⟨g,0,none⟩ 1 1 z (by rw [hz1,hz]) hnews (by omega) (by omega) (by omega);have hgr:=grown 0 (Value.ownBlock (.slice none 0 0));simp only [Nat.zero_add,List.nil_append,Array.empty_append]at hgr⊢;exact⟨_,_,hr,hgr.1,hgr.2⟩
 ·by_cases hroom:n+1<=cap
  ·have hr:=run_append_room (P:=prog) w 30 30 32 i hu hi g' n cap _ hc ⟨g,0,none⟩ 1 1 z (by rw [hz1,hz]) hnews h1 hroom (by rw [hz1,hz,List.size_toArray,List.length_append,hown.1,Qhk];omega)
   have hzr:zrowW (cap-n)=zw8++zrowW (cap-(n+1)):=(by rw [<-Qgb,show cap-(n+1)+1=cap-n by omega]);have e:(xs++zrowW (cap-n)).take (n*i.size)++z++(xs++zrowW (cap-n)).drop (n*i.size+z.length)=(xs++z)++zrowW (cap-(n+1)):=by
    rw [hz1,hz,List.take_append_of_le_length (by rw [hown.1];omega),List.take_of_length_le (by rw [hown.1];omega),List.drop_append,List.drop_of_length_le (by rw [hown.1];omega),hown.1,show n*8+8-n*8=8 by omega,hzr,List.drop_append,show zw8.drop 8=[]from rfl];simp [show zw8.length=8 from rfl]
   rw [show((xs++zrowW (cap-n)).toArray).toList=xs++zrowW (cap-n)from rfl,e]at hr;exact⟨_,_,hr,⟨by rw [List.length_append,hown.1,hz];omega,.inr ⟨g',cap,rfl,hbg,hroom,hcm,setRow_heap w g' _ _ _ _ hc⟩⟩,⟨rfl,rfl,rfl,by simp,fun k _ hk=>setRow_other w g' k _ (fun e=>hk (by simp [Value.ownBlock,e]))⟩⟩
  ·have holds:∀j u,xs[j]? =some u->w.cell? ((⟨g',0,none⟩:Addr).add j)=some u:=fun j u hju=>by
    have e:(⟨g',0,none⟩:Addr).add j=⟨g',j,none⟩:=(by unfold Addr.add;split<;>simp_all);rw [e];exact hc.cell (by rw [List.getElem?_append_left (List.getElem?_eq_some_iff.1 hju).1];exact hju)
   have hr:=run_append_grow (P:=prog) w 30 30 32 i _ hu hi hz0 ⟨g',0,none⟩ n cap xs (by rw [hz1,hown.1]) holds ⟨g,0,none⟩ 1 1 z (by rw [hz1,hz]) hnews (by omega) (by omega) (growslice_fits (by omega) (le_trans (Nat.mul_le_mul_left _ hz2) (by omega)));have hgr:=grown cap (Value.ownBlock (.slice (some ⟨g',0,none⟩) n cap));exact⟨_,_,hr,hgr.1,hgr.2⟩
theorem OwnW.below{w w':World}{B n:Nat}{v:Value}{l:List Value}(h:OwnW w B v n l)(hb:Below w.heap.size w w'):OwnW w' B v n l:=by
 refine⟨h.1,?_⟩;rcases h.2 with h2|⟨g,cap,e,hB,h3,h4,hh⟩
 ·exact .inl h2
 ·exact .inr ⟨g,cap,e,hB,h3,h4,hh.below hb hh.lt⟩
theorem OwnW.wch{w w':World}{B n:Nat}{v:Value}{ws:List (List Value)}(h:OwnW w B v n ws.flatten)(h8:∀x∈ws,isW8 x)(hg:w.grownBy w' v.ownBlock):Wch B w.heap.size w w':=by
 refine⟨hg.os,hg.tape,hg.output,hg.size,fun b hb=>?_⟩;rcases h.2 with⟨rfl,_⟩|⟨g,cap,rfl,hB,h3,h4,hh⟩
 ·exact .inl (hg.block b hb (by simp [Value.ownBlock]))
 ·by_cases e:b=g
  ·subst e
   refine .inr ⟨hB,hb,_,_,hh,ws++List.replicate (cap-n) zw8,by unfold zrowW;rw [List.flatten_append],fun x hx=>?_⟩;rcases List.mem_append.1 hx with hx|hx
   ·exact h8 x hx
   ·rw [(List.mem_replicate.1 hx).2];exact Qm6
  ·exact .inl (hg.block b hb (by simp [Value.ownBlock,e]))
theorem OwnW.far{w w':World}{B S n:Nat}{v:Value}{l:List Value}(h:OwnW w B v n l)(hw:Wch 0 S w w')(hS:S<=B):OwnW w' B v n l:=by
 refine⟨h.1,?_⟩;rcases h.2 with h2|⟨g,cap,e,hB,h3,h4,hh⟩
 ·exact .inl h2
 ·exact .inr ⟨g,cap,e,hB,h3,h4,((hw.block g hh.lt).resolve_right (fun⟨_,h,_⟩=>by omega)).trans hh⟩
theorem WPs.take{w:World}{A:Option Addr}{N c:Nat}{ps qs:List WD}(h:WPs w A N c (ps++qs)):WPs w A ps.length c ps:=by
 have hl:=h.len;obtain⟨xs,h1,h2,f,h3,h4⟩:=h;rw [List.length_append]at h2 hl;have hj:∀(j:Nat) (d:WD),ps[j]? =some d->(ps++qs)[j]? =some d:=fun j d hd=>by rw [List.getElem?_append_left (List.getElem?_eq_some_iff.1 hd).1];exact hd
 refine⟨xs.take ps.length,h1.take (by omega),by rw [List.length_take];omega,f,fun j d hd=>?_,fun j d hd=>h4 j d (hj j d hd)⟩;rw [List.getElem?_take,if_pos (List.getElem?_eq_some_iff.1 hd).1];exact h3 j d (hj j d hd)
theorem Qz9(w:World):WRd w zw8 (dOf svZ):=by
 have:=WRd.made (w:=w) (neg:=false) (k:=0) (i:=false) (s:=0) (Num.nil w none 0) (Num.nil w none 0) (PRaw.nil w none 0) (WPs.nil w none 0);have e:dOf svZ=.mk false [] [] 0 false 0 [] []:=by
  show WD.mk _ (limbs 0) _ _ _ _ _ _=_;rw [Qaf];rfl
 rw [e];exact this
structure MInv (ks:List Nat) (B k:Nat) (v:Value) (us:List SV) (w:World):Prop where
 out:∃ws:List (List Value),ws.length=k/\OwnW w B v k ws.flatten/\(∀x∈ws,isW8 x)/\(∀(j:Nat) (a:SV),us[j]? =some a->∃x,ws[j]? =some x/\WRd w x (dOf a))
 len:us.length=k
 ok:okL (ks.take k) us
 sz:∀a∈us,SzS 8 a
theorem MInv.nil(ks:List Nat)(B:Nat)(w:World):MInv ks B 0 (.slice none 0 0) [] w:=⟨⟨[],rfl,⟨rfl,.inl ⟨rfl,rfl⟩⟩,fun x hx=>(by cases hx),fun j a h=>by simp at h⟩,rfl,trivial,fun a ha=>(by cases ha)⟩
theorem MInv.below{ks:List Nat}{B k:Nat}{v:Value}{us:List SV}{w w':World}(h:MInv ks B k v us w)(hb:Below w.heap.size w w'):MInv ks B k v us w':=by
 obtain⟨ws,h1,h2,h3,h4⟩:=h.out;refine⟨⟨ws,h1,h2.below hb,h3,fun j a hj=>?_⟩,h.len,h.ok,h.sz⟩;obtain⟨x,e1,e2⟩:=h4 j a hj;exact⟨x,e1,e2.keep hb⟩
theorem MInv.far{ks:List Nat}{B S k:Nat}{v:Value}{us:List SV}{w w':World}(h:MInv ks B k v us w)(hw:Wch 0 S w w')(hS:S<=B):MInv ks B k v us w':=by
 obtain⟨ws,h1,h2,h3,h4⟩:=h.out;refine⟨⟨ws,h1,h2.far hw hS,h3,fun j a hj=>?_⟩,h.len,h.ok,h.sz⟩;obtain⟨x,e1,e2⟩:=h4 j a hj;exact⟨x,e1,e2.wst rfl _ hw⟩
theorem Qqq:∀ {ks:List Nat} {us:List SV} {k:Nat} {a:SV},okL ks us->okK k a->okL (ks++[k]) (us++[a])
 |[],[],_,_,_,h=>⟨h,trivial⟩
 |[],_::_,_,_,h,_=>h.elim
 |_::_,[],_,_,h,_=>h.elim
 |_::ks,_::us,_,_,h,h'=>⟨h.1,Qqq (ks:=ks) (us:=us) h.2 h'⟩
theorem MInv.app{ks:List Nat}{B k:Nat}{v:Value}{us:List SV}{w:World}(h:MInv ks B k v us w)(hB:B<=w.heap.size)(hk3:k<=3){kk:Nat}(hk:ks[k]? =some kk){g:Nat}{z:List Value}{a:SV}(hg:Cs w g z 32)(hz:WRd w z (dOf a))(h1:∀u∈z,u.oneCell'=true)(ha:okK kk a)(hs:SzS 8 a):
 ∃v' w',(Builtin.append_ #[30,30] 30 #[v,.slice (some ⟨g,0,none⟩) 1 1]).run prog w=.ok v' w'/\MInv ks B (k+1) v' (us++[a]) w'/\Below B w w':=by
 obtain⟨ws,e1,e2,e3,e4⟩:=h.out;obtain⟨v',w',hr,ho,hgr⟩:=Qxl w B v k ws.flatten e2 g z hz.isW8.len hg h1 (by omega) hB;have hw:=e2.wch e3 hgr;have hl:=h.len;refine⟨v',w',hr,⟨⟨ws++[z],by rw [List.length_append,e1];rfl,by rw [List.flatten_append,List.flatten_singleton];exact ho,fun x hx=>?_,fun j b hj=>?_⟩,by rw [List.length_append,hl];rfl,?_,fun b hb=>?_⟩,hw.below hB⟩
 ·rcases List.mem_append.1 hx with hx|hx
  ·exact e3 x hx
  ·rw [List.mem_singleton.1 hx];exact hz.isW8
 ·rcases Nat.lt_or_ge j k with hjk|hjk
  ·rw [List.getElem?_append_left (by omega)]at hj
   obtain⟨x,f1,f2⟩:=e4 j b hj;exact⟨x,by rw [List.getElem?_append_left (by omega)];exact f1,f2.wst rfl _ hw⟩
  ·have hlt:=(List.getElem?_eq_some_iff.1 hj).1
   rw [List.length_append,hl]at hlt;obtain rfl:j=k:=(by have:[a].length=1:=rfl;omega);rw [List.getElem?_append_right (by omega),hl,Nat.sub_self]at hj;obtain rfl:=Option.some.inj hj;exact⟨z,by rw [List.getElem?_append_right (by omega),e1,Nat.sub_self];rfl,hz.wst rfl _ hw⟩
 ·rw [List.take_add_one,hk]
  exact Qqq h.ok ha
 ·rcases List.mem_append.1 hb with hb|hb
  ·exact h.sz b hb
  ·rw [List.mem_singleton.1 hb];exact hs
theorem MInv.done{ks:List Nat}{B k:Nat}{v:Value}{us:List SV}{w:World}(h:MInv ks B k v us w)(hk:0<k):∃A n c,v=.slice A n c/\WRd w [.bool false,.slice none 0 0,.slice none 0 0,.int .i64 0,.bool false,.int .u64 0,.slice none 0 0,.slice A n c] (dOfW (svZ,us)):=by
 obtain⟨ws,h1,h2,h3,h4⟩:=h.out;rcases h2.2 with⟨_,h0⟩|⟨g,cap,rfl,hB,hn,_,hc⟩
 ·omega
 ·refine⟨_,_,_,rfl,?_⟩
  rw [Qm7];have hl:=h.len;have hw:WPs w (some ⟨g,0,none⟩) cap cap (us.map dOf++List.replicate (cap-k) (dOf svZ)):=by
   have:=WPs.of_cs (ws:=ws++List.replicate (cap-k) zw8) (parts:=us.map dOf++List.replicate (cap-k) (dOf svZ)) (by rw [List.flatten_append];exact hc) (by simp;omega) (fun j d hj=>by
    rcases Nat.lt_or_ge j k with hjk|hjk
    ·rw [List.getElem?_append_left (by rw [List.length_map];omega),List.getElem?_map]at hj
     obtain⟨a,ha,rfl⟩:=Option.map_eq_some_iff.1 hj;rw [List.getElem?_append_left (by omega)];exact h4 j a ha
    ·rw [List.getElem?_append_right (by rw [List.length_map];omega)]at hj
     obtain rfl:=List.eq_of_mem_replicate (List.mem_of_getElem? hj);have hlt:=(List.getElem?_eq_some_iff.1 hj).1;rw [List.length_replicate,List.length_map]at hlt;refine⟨zw8,?_,Qz9 w⟩;rw [List.getElem?_append_right (by omega),List.getElem?_replicate,if_pos (by omega)])
   have e:(us.map dOf++List.replicate (cap-k) (dOf svZ)).length=cap:=(by simp;omega);rw [e]at this;exact this
  have h5:=hw.take;rw [List.length_map,hl]at h5;exact WRd.made (Num.nil ..) (Num.nil ..) (PRaw.nil ..) h5
theorem Qvi{w:World}{ops:Array Oper}{o:Oper}{a:Act}{Q:Exit->Act->World->Prop}{K:Act->World->Prop}{E:Prop}(hgd:o.guard=none)(sl x:Operand)
 (ho:o.op=.call {callee:=.builtin .append,args:=#[sl,x],argTypes:=#[30,30]})(hty:o.type=30)(v v' u:Value)(w':World)(hs:a.eval sl=v)(hx:a.eval x=u)
 (hrun:Hid ((Builtin.append_ #[30,30] 30 #[v,u]).run prog w=.ok v' w'))(hK:K (a.put o.dst v') w'):
 if Region.wanted o (yielded ops a.tmps)=true then Oper.wp prog o a w K Q else E:=by
 have hw:Region.wanted o (yielded ops a.tmps)=true:=by simp [Region.wanted,hgd]
 have hr:=hrun.out;rw [if_pos hw];unfold Oper.wp;simp [execOp,ho,hty,resolve,invoke,builtin,hs,hx,hr,Result.andThen];exact hK
theorem MInv.sl{ks:List Nat}{B k:Nat}{v:Value}{us:List SV}{w:World}(h:MInv ks B k v us w):∃A n c,v=.slice A n c:=by
 obtain⟨ws,h1,h2,_⟩:=h.out;rcases h2.2 with⟨e,_⟩|⟨g,cap,e,_⟩
 ·exact⟨_,_,_,e⟩
 ·exact⟨_,_,_,e⟩
theorem MInv.done'{ks:List Nat}{B k:Nat}{A:Option Addr}{n c:Nat}{us:List SV}{w:World}(h:MInv ks B k (.slice A n c) us w)(hk:0<k):WRd w [.bool false,.slice none 0 0,.slice none 0 0,.int .i64 0,.bool false,.int .u64 0,.slice none 0 0,.slice A n c] (dOfW (svZ,us)):=by
 obtain⟨A',n',c',e,hw⟩:=h.done hk;injection e with e1 e2 e3;subst e1 e2 e3;exact hw
def WKw(k:Nat)(w:World)(v:Value):Prop:=∃(l:List Value) (a:SV),v=.agg l.toArray/\okK k a/\SzS 8 a/\WRd w l (dOf a)
def WKs(k:Nat)(w:World)(v:Value):Prop:=∃(g:Nat) (l:List Value) (a:SV),v=.slice (some ⟨g,0,none⟩) 1 1/\Cs w g l 32/\okK k a/\SzS 8 a/\WRd w l (dOf a)
theorem Q0a(l:List Int)(A:Option Addr)(n c:Nat)(v:Int)(w:World)(hr:IntR w l A n c)(h2:2<=l.length)(h3:l.length<=3)(hk:∀x∈l,1<=x/\x<=5)(hv: -9223372036854775808<=v/\v<=9223372036854775807):Calls prog 33 #[.agg #[.int .i64 6,.slice A n c],.int .i64 v] w (RetM (.prod (l.map Int.toNat)) w):=by
 obtain⟨hb0,d1,d2,d3⟩:=blk3 w [.int .i64 6,.slice A n c] [.bool false,.slice none 0 0,.slice none 0 0,.int .i64 0,.bool false,.int .u64 0,.slice none 0 0,.slice none 0 0] [.bool false,.slice none 0 0,.slice none 0 0,.int .i64 0,.bool false,.int .u64 0,.slice none 0 0,.slice none 0 0] 24 32 32;have hnl:=hr.len;have HR:=hid hr;have HK0:=hid hk;have HV:=hid hv;have HNL:=hid (And.intro hnl (And.intro h2 h3));have HC1:=hid d1;have HC2:=hid d2;have HC3:=hid d3;have HB0:=hid hb0;clear hr hk hv d1 d2 d3 hb0 hnl h2 h3;go_enter func33,ntmps33;go_wp2_with fail
 generalize (((w.alloc (.cells #[.int .i64 6,.slice A n c] 24)).alloc (W8t 0 false)).alloc (W8t 0 false))=W0 at*
 go_loopw [7] (fun i wr=> ∃(k:Nat) (us:List SV) (vr:Value),k<=n/\i=.int .i64 (k:Int)/\Below w.heap.size w wr/\Hid (Cs wr w.heap.size [.int .i64 6,.slice A n c] 24)/\Hid (Cs wr (w.heap.size+1) [.bool false,.slice none 0 0,.slice none 0 0,.int .i64 0,.bool false,.int .u64 0,.slice none 0 0,.slice none 0 0] 32)/\Hid (Cs wr (w.heap.size+1+1) [.bool false,.slice none 0 0,.slice none 0 0,.int .i64 0,.bool false,.int .u64 0,.slice none 0 0,vr] 32)/\Hid (MInv (l.map Int.toNat) (w.heap.size+3) k vr us wr)) (fun i _=>(n-intOf i).toNat)
 case atStart=>exact⟨0,[],.slice none 0 0,zero_le _,rfl,HB0.out,HC1,HC2,HC3,hid (MInv.nil _ _ _)⟩
 case round=>
  obtain⟨k,us,vr,hk,rfl,hb,C1,C2,C3,HM⟩:=hrel;have hsz:w.heap.size+3<=wr.heap.size:=by have:=C3.out.lt;omega
  have HSZ:=hid hsz;by_cases hkn:k<n
  ·obtain⟨b,o,x,rfl,hbq,hx,hc⟩:=(show IntR w l A n c from HR.out).at_ hkn
   have hx5:=HK0.out x (List.mem_of_getElem? hx);obtain⟨kk,rfl⟩:∃kk:Nat,x=(kk:Int):=⟨x.toNat,by omega⟩;have HKK:Hid ((l.map Int.toNat)[k]? =some kk):=hid (by rw [List.getElem?_map,hx];rfl);have hlt:(k:Int)<(n:Int):=(by omega);have h0i:¬(k:Int)<0:=(by omega);have hw1:IntKind.i64.wrap ((k:Int)+1)=(k:Int)+1:=IntWalk.i64_in _ (by have:=HNL.out;omega);obtain⟨vk,hvk⟩:∃y,IntKind.i64.wrap (v+(k:Int))=y:=⟨_,rfl⟩;have hvr: -9223372036854775808<=vk/\vk<=9223372036854775807:=(by rw [<-hvk,IntKind.wrap_i64];omega);have HBW:Hid (Below wr.heap.size wr wr.drew):=hid (Below.refl _ _).drew;have HB:=hid hb.drew;have HB0:=hid hb;have HCALL:Hid (∀wx,Below wr.drew.heap.size wr.drew wx->Calls prog 33 #[.agg #[.int .i64 (kk:Int),.slice none 0 0],.int .i64 vk] wx (RetM1 kk wx)):=hid (fun wx _=>Qye kk ⟨by omega,by omega⟩ vk wx hvr);have KX:Hid (∀wx,Below wr.drew.heap.size wr.drew wx->wx.cell? ⟨w.heap.size,1,none⟩=some (.slice (some ⟨b,o,none⟩) n c)/\wx.cell? ⟨w.heap.size+1+1,7,none⟩=some vr/\wx.cell? ⟨b,o+k,none⟩=some (.int .i64 (kk:Int))):=hid (fun wx hB=>⟨(C1.out.drew.below hB C1.out.lt).cell rfl,(C3.out.drew.below hB C3.out.lt).cell rfl,by
    have hbx:=bt hb.drew hB;exact(World.cell?_of_block (w:=w) (hbx.block b hbq)).trans hc⟩)
   have x1:=C1.out.cell (k:=1) rfl;have HKN:=hid hkn;have HK3:Hid (k<=3):=hid (by have:=HNL.out;omega);clear hkn hb hbq hx hc hx5 hvr hsz;go_wp2_with fail
   clear x1;refine Qag 13 (67::68::69::70::71::72::73::74::75::76::77::78::79::[]) (Sq.val (.pointer (some ⟨w.heap.size+1+1,7,none⟩))::Sq.val (vr)::Sq.val (.pointer (some ⟨w.heap.size,1,none⟩))::Sq.val (.slice (some ⟨b,o,none⟩) n c)::Sq.val (.int .i64 (k:Int))::Sq.val (.pointer (some ⟨b,o+k,none⟩))::Sq.val (.int .i64 (kk:Int))::Sq.val (.agg #[.int .i64 (kk:Int),.slice none 0 0])::Sq.val (.int .i64 v)::Sq.val (.int .i64 (k:Int))::Sq.val (.int .i64 vk)::Sq.st (fun w a=>WKw kk w a)::Sq.st (fun w a=>WKs kk w a)::[]) (by kernel_rfl) (by kernel_rfl) (by kernel_rfl) (by kernel_rfl) ?step 3 (by kernel_rfl) _ rfl ?fin
   case step=>
    intro i hi oi ho f wx hB hdep K hK;simp only [frontAct,zf1,zf2,zf3,zf4,zf5]at hK⊢;obtain⟨y0,y1,y2⟩:=KX.out wx hB;iterate 13 rcases lt_or_eq_of_le (le_of_lt_succ hi)with hi|rfl
    exact absurd hi (not_lt_zero _);all_goals
     obtain rfl:=Option.some.inj ho;clear ho;simp only [Act.put,zf3,zf4,zf5]at hK
    rotate_left 11
    ·simp [gOf6,Sq.holds,Region.binds]at hdep
     simp only [hdep]at hK⊢;go_simp;refine(HCALL.out wx hB).mono ?_;rintro e0 w' ⟨a,ha,hs,l,rfl,hl,hb⟩;exact hK (.agg l.toArray) w' (gs6 rfl (fun w2 h2=>⟨l,a,rfl,ha,hs,hl.rd.keep h2⟩)) hb (bt hB hb) (nb6 rfl rfl)
    ·have e78:=ds6 (hdep ⟨11,.data⟩ (by simp) rfl) rfl
     replace e78:=(show WKw kk wx (f 78)from e78);generalize f 78=f78 at*
     obtain⟨l,a,rfl,ha,hs,hl⟩:=e78;obtain⟨nx,A1,n1,c1,B1,m1,e1,kx,ix,sx,P1,p1,r1,Q1,q1,s1,rfl⟩:=hl.isW8;go_simp;exact hK (.slice (some ⟨wx.heap.size,0,none⟩) 1 1) (wx.alloc (.cells #[.bool nx,.slice A1 n1 c1,.slice B1 m1 e1,.int .i64 kx,.bool ix,.int .u64 sx,.slice P1 p1 r1,.slice Q1 q1 s1] 32)) (gs6 rfl (fun w2 h2=>⟨wx.heap.size,[.bool nx,.slice A1 n1 c1,.slice B1 m1 e1,.int .i64 kx,.bool ix,.int .u64 sx,.slice P1 p1 r1,.slice Q1 q1 s1],a,rfl,(Cs.new wx [.bool nx,.slice A1 n1 c1,.slice B1 m1 e1,.int .i64 kx,.bool ix,.int .u64 sx,.slice P1 p1 r1,.slice Q1 q1 s1] 32).below h2 (Cs.new wx [.bool nx,.slice A1 n1 c1,.slice B1 m1 e1,.int .i64 kx,.bool ix,.int .u64 sx,.slice P1 p1 r1,.slice Q1 q1 s1] 32).lt,ha,hs,(hl.keep ((Below.refl _ _).alloc (le_refl _) _)).keep h2⟩)) ((Below.refl _ _).alloc (le_refl _) _) (hB.alloc hB.size _) (nb6 rfl rfl)
    all_goals simp [gOf6,Sq.holds,Region.binds]at hdep
    all_goals try simp only [hdep]at hK⊢
    all_goals go_simp
    all_goals exact hK _ wx (gv6 rfl) (Below.refl _ _) hB (nb6 rfl rfl)
   case fin=>
    intro f wx hB hG hne;have e68:=dv6 (hG 1 (by decide)) rfl;have e67:=dv6 (hG 0 (by decide)) rfl;have e79:WKs kk wx (f 79):=ds6 (hG 12 (by decide)) rfl;clear hG hne;simp only [frontAct,zf1,zf2,zf3,zf4,zf5];simp only [zf6,zf7]at e68;generalize f 68=f68 at*;subst e68;generalize f 79=f79 at*
    obtain⟨g,l,a,rfl,hg,ha,hs,hl⟩:=e79;obtain⟨nx,A1,n1,c1,B1,m1,e1,kx,ix,sx,P1,p1,r1,Q1,q1,s1,rfl⟩:=hl.isW8;have hbA:Below wr.heap.size wr wx:=bt HBW.out hB;have hm:=HM.out.below hbA;have hz5:wr.heap.size<=wx.heap.size:=hB.size;have hS:=HSZ.out;obtain⟨v',w5,hr5,hm5,hb5⟩:=hm.app (by omega) HK3.out HKK.out hg hl (by intro u hu;simp only [List.mem_cons,List.not_mem_nil,or_false]at hu;rcases hu with rfl|rfl|rfl|rfl|rfl|rfl|rfl|rfl<;>rfl) ha hs;obtain⟨A5,n5,c5,rfl⟩:=hm5.sl;have HRUN:=hid hr5;have HM5:=hid hm5;have hx5:Below w.heap.size w w5:=(bt HB0.out hbA).trans (hb5.mono (by omega));have HB5:=hid hx5;have HC1:=hid ((C1.out.below hbA C1.out.lt).below hb5 (by omega));have HC2:=hid ((C2.out.below hbA C2.out.lt).below hb5 (by omega));have hc3:=(C3.out.below hbA C3.out.lt).below hb5 (by omega);have hf7:=hc3.frozen 7;have hc7:=hc3.cell (k:=7) rfl;have HC3:=hid hc3;clear hr5 hm5 hb5 hm hbA hl ha hs hg hx5 hc3 hS hz5;refine wpAny_ready (rs:=[13]) (by kernel_rfl) (by simp) ?_;refine AllReady.cons rfl (fun K hK=>?_) AllReady.nil;refine Qvi rfl (.tmp 68) (.tmp 79) rfl rfl _ _ _ _ rfl rfl HRUN (hK _ _ ?_);clear hK K;refine wpAny_ready (rs:=[14]) (by kernel_rfl) (by simp) ?_;refine AllReady.cons rfl (fun K hK=>?_) AllReady.nil;have HQ:=hid hK;clear hK;go_simp;refine HQ.out _ _ ?_;clear HQ K;refine wpAny_ready (rs:=[15]) (by kernel_rfl) (by simp) ?_;refine AllReady.cons rfl (fun K hK=>?_) AllReady.nil;have HQ:=hid hK;clear hK;go_simp;refine HQ.out _ _ ?_;clear HQ K;refine wpAny_done (by kernel_rfl) ?_ _;have hkn1:=HKN.out;go_wp2_with fail
    refine⟨⟨k+1,us++[a],.slice A5 n5 c5,HKN.out,congrArg (Value.int _) (by omega),Qbu (by omega) [.slice A5 n5 c5] 7 HB5.out,hid (Cs.farL (by omega) [.slice A5 n5 c5] 7 HC1.out),hid (Cs.farL (by omega) [.slice A5 n5 c5] 7 HC2.out),hid (HC3.out.set 7 (.slice A5 n5 c5)),hid ?_⟩,by simp [intOf];omega⟩;obtain⟨A6,n6,c6,rfl⟩:=HM.out.sl;exact HM5.out.far (Wch.set (B:=0) (S:=w.heap.size+3) HC3.out (Qom ⟨_,_,_,_,_,_,_,_,_,_,_,_,_,_,_,_,rfl⟩) (zero_le _) (by omega) 7 (.slice A5 n5 c5)) (le_refl _)
  ·obtain rfl:k=n:=by omega
   have hlt:¬(k:Int)<(k:Int):=(by omega);obtain⟨A2,n2,c2,rfl⟩:=HM.out.sl;have x1:=C1.out.cell (k:=1) rfl;obtain⟨a0,a1,a2,a3,a4,a5,a6,a7⟩:=C3.out.c8;obtain⟨f0,f1,f2,f3,f4,f5,f6,f7⟩:=C2.out.f8;obtain⟨z0,z1,z2,z3,z4,z5,z6,z7⟩:=C2.out.c8;have HB:=hid hb;clear hb hsz;go_wp2_with fail
   refine Qaj (l:=[.bool false,.slice none 0 0,.slice none 0 0,.int .i64 0,.bool false,.int .u64 0,.slice none 0 0,.slice A2 n2 c2]) results33 underlying32 (by kernel_rfl) rfl (Qak C2.out rfl _ _ _ _ _ _ _ _) rfl ?_;have hnl:=HNL.out;have hok:=HM.out.ok;rw [List.take_of_length_le (by rw [List.length_map];omega)]at hok;refine⟨(svZ,us),⟨rfl,hok⟩,⟨Qo5 (by decide),HM.out.sz⟩,_,rfl,fun w2 h2=>?_,Qap HB.out (by omega) _ _ _ _ _ _ _ _⟩;exact((HM.out.far (Wch.s8 (B:=0) (S:=w.heap.size+3) C2.out Qbx (zero_le _) (by omega) _ _ _ _ _ _ _ _) (le_refl _)).far h2 (by omega)).done' (by omega)
theorem mW_any{r:Rg}{k:Int}{l:List Int}{A:Option Addr}{n c:Nat}(v:Int)(w:World)(h:IntR w l A n c)(hr:ringOf k l=some r)(hone:(∃k,r=.one k)->A=none/\n=0/\c=0)(hv: -9223372036854775808<=v/\v<=9223372036854775807):Calls prog 33 #[.agg #[.int .i64 k,.slice A n c],.int .i64 v] w (RetM r w):=by
 unfold ringOf at hr;split at hr
 ·split at hr
  ·rename_i h6 h1
   subst h6;obtain rfl:=Option.some.inj hr;exact Q0a l A n c v w h h1.1 h1.2.1 (Qli h1.2.2) hv
  ·cases hr
 ·split at hr
  ·rename_i h6 h1
   obtain rfl:=Option.some.inj hr;obtain⟨rfl,rfl,rfl⟩:=hone ⟨_,rfl⟩;obtain⟨kk,rfl⟩:∃kk:Nat,k=(kk:Int):=⟨k.toNat,by omega⟩;have hk5:kind5 kk:=⟨by omega,by omega⟩;refine(Qye kk hk5 v w hv).mono ?_;rintro e w' ⟨a,ha,hs,hx⟩;refine⟨(a,[]),⟨ha,rfl⟩,⟨hs,fun _ h=>by cases h⟩,?_⟩;have e1:dOfW (a,[])=dOf a:=by
    unfold dOfW dOf;rfl
   rw [e1];exact hx
  ·cases hr
structure Bch (w w':World):Prop where
 os:w'.os=w.os
 tape:w'.tape=w.tape
 output:w'.output=w.output
 size:w.heap.size<=w'.heap.size
 block:∀b,b<w.heap.size->w'.heap[b]? =w.heap[b]? \/(∃cells t,Cs w b cells t/\WBlk cells/\cells.length=8)
theorem Bch.wch{w w':World}(h:Bch w w'):Wch 0 w.heap.size w w':=⟨h.os,h.tape,h.output,h.size,fun b hb=>(h.block b hb).imp id fun⟨c,t,h1,h2,_⟩=>⟨zero_le _,hb,c,t,h1,h2⟩⟩
theorem RdK.bch{w w':World}{xs:List (List Value)}{A:Option Addr}{n c:Nat}(h:RdK w 8 xs A n c)(hx:∀x∈xs,x.length=8)(hn:2<=n)(hb:Bch w w'):RdK w' 8 xs A n c:=by
 refine⟨h.len,h.cap,fun h0=>?_⟩;obtain⟨b,o,rfl,hlt,hc⟩:=h.cells h0;refine⟨b,o,rfl,Nat.lt_of_lt_of_le hlt hb.size,fun i x hi j v hj=>?_⟩;rcases hb.block b hlt with e|⟨cells,t,h1,_,h3⟩
 ·exact(World.cell?_of_block (w:=w) e).trans (hc i x hi j v hj)
 ·exfalso
  have hl:=h.len;have e1:xs[1]? =some (xs[1]'(by omega)):=List.getElem?_eq_getElem _;have hx8:=hx _ (List.mem_of_getElem? e1);have e2:(xs[1]'(by omega))[0]? =some ((xs[1]'(by omega))[0]'(by omega)):=List.getElem?_eq_getElem _;have:=hc 1 _ e1 0 _ e2;unfold Cs at h1;rw [cell_of_row w b _ _ _ _ h1,List.getElem?_toArray]at this;have:=(List.getElem?_eq_some_iff.1 this).1;omega
theorem WRd.bch1{w w':World}{l:List Value}{d:WD}(h:WRd w l d)(h2:d.parts=[]\/(2<=d.parts.length/\∀e∈d.parts,e.parts=[]))(hb:Bch w w'):WRd w' l d:=by
 rcases h2 with h2|⟨h2,h3⟩
 ·exact h.wst h2 _ hb.wch
 ·obtain⟨q0,q1,q2,Ap,np,cp,Aw,nw,cw,rfl,hq,hpo,hws⟩:=h.open
  have hn:=hws.len;obtain⟨xs,k1,k2,f,k3,k4⟩:=hws;have e:=WD.eta d;rw [e];refine WRd.close (hq.wch hb.wch) (hpo.wch hb.wch) ⟨xs,k1.bch (fun x hx=>?_) (by omega) hb,k2,f,k3,fun j dj hj=>(k4 j dj hj).wst (h3 dj (List.mem_of_getElem? hj)) _ hb.wch⟩;obtain⟨j,hj⟩:=List.mem_iff_getElem?.1 hx;have hlt:j<d.parts.length:=by have:=(List.getElem?_eq_some_iff.1 hj).1;omega
  have e1:=k3 j _ (List.getElem?_eq_getElem hlt);rw [hj]at e1;rw [Option.some.inj e1];exact(k4 j _ (List.getElem?_eq_getElem hlt)).isW8.len
theorem WRd.bch{r:Rg}(hr:okRg r){z:CW}(hz:okW r z){w w':World}{l:List Value}(h:WRd w l (dOfW z))(hb:Bch w w'):WRd w' l (dOfW z):=by
 refine h.bch1 ?_ hb;cases r with
 |one k=>exact .inl (by obtain⟨a,us⟩:=z;obtain⟨_,h2⟩:=hz;have h2':us=[]:=h2;subst h2';rfl)
 |prod ks=>
  obtain⟨a,us⟩:=z;refine .inr ⟨?_,fun e he=>?_⟩
  ·have:=Qkx hz.2
   show 2<=(us.map dOf).length;rw [List.length_map];have h1:=hr.1;have:us.length=ks.length:=this;omega
  ·obtain⟨b,_,rfl⟩:=List.mem_map.1 (show e∈us.map dOf from he)
   rfl
theorem Qec{w:World}{g:Nat}{l0 l:List Value}(hc:Cs w g l0 32)(h0:l0.length=8)(h8:WBlk l0)(hl:l.length=8):
 Cs (setL w g 0 l) g l 32/\Bch w (setL w g 0 l)/\Below g w (setL w g 0 l)/\∀(g':Nat) (l':List Value) (t:TypeId),g'≠g->Cs w g' l' t->Cs (setL w g 0 l) g' l' t:=by
 have hs:=Cs.setN l 0 w l0 hc (by omega);rw [List.take_zero,List.nil_append,List.drop_of_length_le (by omega),List.append_nil]at hs;have hw:Wch g (g+1) w (setL w g 0 l):=Wch.setL hc h8 (le_refl _) (Nat.lt_succ_self _) l 0 w (fun _ _ _=>rfl) (le_refl _) rfl rfl rfl;refine⟨hs,⟨hw.os,hw.tape,hw.output,hw.size,fun b hb=>?_⟩,hw.below (Nat.le_of_lt hc.lt),fun g' l' t hne h=>Cs.farL hne l 0 h⟩;rcases hw.block b hb with e|⟨e1,e2,e3⟩
 ·exact .inl e
 ·obtain rfl:b=g:=by omega
  exact .inr ⟨l0,_,hc,h8,h0⟩
def RM(r:Rg)(w:World)(v:Value):Prop:=∃(z:CW) (l:List Value),v=.agg l.toArray/\okW r z/\SzW 8 z/\WRd w l (dOfW z)
def RZ(z:CW)(w:World)(v:Value):Prop:=∃l:List Value,v=.agg l.toArray/\WRd w l (dOfW z)
theorem RM.below{r:Rg}{w w':World}{v:Value}(h:RM r w v)(hb:Below w.heap.size w w'):RM r w' v:=by
 obtain⟨z,l,e,h1,h2,h3⟩:=h;exact⟨z,l,e,h1,h2,h3.keep hb⟩
theorem RZ.below{z:CW}{w w':World}{v:Value}(h:RZ z w v)(hb:Below w.heap.size w w'):RZ z w' v:=by
 obtain⟨l,e,h3⟩:=h;exact⟨l,e,h3.keep hb⟩
def RetZ(z:CW)(w0:World)(e:Ending)(w':World):Prop:=∃v,e=.returned v/\RZ z w' v/\Below w0.heap.size w0 w'
theorem RetX.z{z:CW}{w0:World}{e:Ending}{w':World}(h:RetX 0 w0 (dOfW z) e w'):RetZ z w0 e w':=by
 obtain⟨l,e,h1,h2⟩:=h;exact⟨_,e,⟨l,rfl,h1.rd⟩,h2⟩
def Fit(r:Rg)(z:CW):Prop:=okW r z/\SzW 1000 z
theorem Fit.szk{r:Rg}(hr:okRg r){z:CW}(h:Fit r z):SzK (dOfW z):=(Qeu hr h.1 h.2).up (by decide) (by decide)
structure Ring3 (r:Rg) (k:Int) (l:List Int) (A:Option Addr) (n c:Nat) (w:World):Prop where
 tab:Tab w
 ints:IntR w l A n c
 eq:ringOf k l=some r
theorem Ring3.below{r:Rg}{k:Int}{l:List Int}{A:Option Addr}{n c:Nat}{w w':World}(h:Ring3 r k l A n c w)(hb:Below w.heap.size w w'):Ring3 r k l A n c w':=⟨h.tab.below hb,h.ints.below hb,h.eq⟩
theorem Qgh{r:Rg}{k:Int}{l:List Int}{A:Option Addr}{n c:Nat}{w:World}(h:Ring3 r k l A n c w){x y:CW}(hx:Fit r x)(hy:Fit r y){u v:Value}(hu:RZ x w u)(hv:RZ y w v):Calls prog 26 #[.agg #[.int .i64 k,.slice A n c],u,v] w (RetZ (plusR r x y) w):=by
 obtain⟨lx,rfl,h1⟩:=hu;obtain⟨ly,rfl,h2⟩:=hv;have hr:=Qca h.eq;have:=Qyb Qer r k l A n c w h.tab h.ints h.eq _ _ lx ly h1 h2 (hx.szk hr) (hy.szk hr) (Qcb hr hx.1) (Qcb hr hy.1);rw [(Qb8 hr hx.1).2,(Qb8 hr hy.1).2]at this;exact this.mono fun _ _ h=>RetX.z h
theorem Qcu{r:Rg}{k:Int}{l:List Int}{A:Option Addr}{n c:Nat}{w:World}(h:Ring3 r k l A n c w){x y:CW}(hx:Fit r x)(hy:Fit r y){u v:Value}(hu:RZ x w u)(hv:RZ y w v):Calls prog 28 #[.agg #[.int .i64 k,.slice A n c],u,v] w (RetZ (timesR r x y) w):=by
 obtain⟨lx,rfl,h1⟩:=hu;obtain⟨ly,rfl,h2⟩:=hv;have hr:=Qca h.eq;have:=Qvg Qer r k l A n c w h.tab h.ints h.eq _ _ lx ly h1 h2 (hx.szk hr) (hy.szk hr) (Qcb hr hx.1) (Qcb hr hy.1);rw [(Qb8 hr hx.1).2,(Qb8 hr hy.1).2]at this;exact this.mono fun _ _ h=>RetX.z h
theorem z_Zero{r:Rg}{k:Int}{l:List Int}{A:Option Addr}{n c:Nat}{w:World}(h:Ring3 r k l A n c w):Calls prog 20 #[.agg #[.int .i64 k,.slice A n c]] w (RetZ (zeroR r) w):=(Zero_o Qer r k l A n c w h.tab h.ints h.eq).mono fun _ _ h=>RetX.z h
theorem z_One{r:Rg}{k:Int}{l:List Int}{A:Option Addr}{n c:Nat}{w:World}(h:Ring3 r k l A n c w):Calls prog 22 #[.agg #[.int .i64 k,.slice A n c]] w (RetZ (oneR r) w):=(One_o Qer r k l A n c w h.tab h.ints h.eq).mono fun _ _ h=>RetX.z h
theorem Qvj{r:Rg}{k:Int}{l:List Int}{A:Option Addr}{n c:Nat}{w:World}(h:Ring3 r k l A n c w)(hone:(∃k,r=.one k)->A=none/\n=0/\c=0)(v:Int)(hv: -9223372036854775808<=v/\v<=9223372036854775807):Calls prog 33 #[.agg #[.int .i64 k,.slice A n c],.int .i64 v] w (fun e w'=> ∃u,e=.returned u/\RM r w' u/\Below w.heap.size w w'):=by
 refine(mW_any v w h.ints h.eq hone hv).mono ?_;rintro e w' ⟨z,h1,h2,l,rfl,h3,hb⟩;exact⟨_,rfl,⟨z,l,rfl,h1,h2,h3.rd⟩,hb⟩
theorem Qed{r:Rg}(hr:okRg r){x y:CW}(e:x=y)(hx:okW r x){L:Nat}(hs:SzW L x)(hL:L<=100000000){w:World}{u v:Value}(hu:RZ x w u)(hv:RZ y w v):Calls prog 19 #[u,v] w (RetV w (.bool true)):=by
 subst e;obtain⟨lx,rfl,h1⟩:=hu;obtain⟨ly,rfl,h2⟩:=hv;exact Qxj hr hx hs hL lx ly w h1 h2
def RetC(c:Int)(i:Bool)(w0:World)(e:Ending)(w':World):Prop:=∃(nb:Bool) (A':Option Addr) (n' c':Nat) (B':Option Addr) (m' e':Nat) (s':Int) (P':Option Addr) (p' r':Nat) (Q':Option Addr) (q' t':Nat),e=.returned (.agg #[.bool nb,.slice A' n' c',.slice B' m' e',.int .i64 c,.bool i,.int .u64 s',.slice P' p' r',.slice Q' q' t'])/\Below w0.heap.size w0 w'
theorem RetX.c{z:SV}{c:Int}{i:Bool}(hz:z=svC c i){w0:World}{e:Ending}{w':World}(h:RetX 0 w0 (dOfW (z,[])) e w'):RetC c i w0 e w':=by
 subst hz;obtain⟨l,rfl,h1,h2⟩:=h;obtain⟨A,n,c1,B,m,e,P,p,r,Q,q,s,rfl,_⟩:=h1.rd.shape;exact⟨_,_,_,_,_,_,_,_,_,_,_,_,_,_,rfl,h2⟩
theorem okc2{c:Int}{i:Bool}(h0:0<=c)(h1:c<=1099511627776)(h2:i=true->c=0):okW (.one 2) (svC c i,[]):=⟨⟨rfl,h0,h1,h2⟩,rfl⟩
theorem szc2(c:Int)(i:Bool):SzW 1000 (svC c i,[]):=⟨Qnl (by decide) _ _,fun _ h=>by cases h⟩
theorem Plus_c{c d e:Int}{i j k:Bool}{w:World}(hT:Tab w)(hc:okW (.one 2) (svC c i,[]))(hd:okW (.one 2) (svC d j,[]))(H:plusK 2 (svC c i) (svC d j)=svC e k):Calls prog 26 #[.agg #[.int .i64 2,.slice none 0 0],tw c i,tw d j] w (RetC e k w):=by
 have hr:okRg (.one 2):=⟨by decide,by decide⟩;have:=Qyb Qer (.one 2) 2 [] none 0 0 w hT (Rd.nil _ _ _) rfl (dOfW (svC c i,[])) (dOfW (svC d j,[])) _ _ (Qf6 w c i) (Qf6 w d j) ((Qeu hr hc (szc2 c i)).up (by decide) (by decide)) ((Qeu hr hd (szc2 d j)).up (by decide) (by decide)) (Qcb hr hc) (Qcb hr hd);rw [(Qb8 hr hc).2,(Qb8 hr hd).2]at this;exact this.mono fun _ _ h=>RetX.c H h
theorem Q0b{c d e:Int}{i j k:Bool}{w:World}(hT:Tab w)(hc:okW (.one 2) (svC c i,[]))(hd:okW (.one 2) (svC d j,[]))(H:timesK 2 (svC c i) (svC d j)=svC e k):Calls prog 28 #[.agg #[.int .i64 2,.slice none 0 0],tw c i,tw d j] w (RetC e k w):=by
 have hr:okRg (.one 2):=⟨by decide,by decide⟩;have:=Qvg Qer (.one 2) 2 [] none 0 0 w hT (Rd.nil _ _ _) rfl (dOfW (svC c i,[])) (dOfW (svC d j,[])) _ _ (Qf6 w c i) (Qf6 w d j) ((Qeu hr hc (szc2 c i)).up (by decide) (by decide)) ((Qeu hr hd (szc2 d j)).up (by decide) (by decide)) (Qcb hr hc) (Qcb hr hd);rw [(Qb8 hr hc).2,(Qb8 hr hd).2]at this;exact this.mono fun _ _ h=>RetX.c H h
theorem plus35:plusK 2 (svC 3 false) (svC 5 false)=svC 3 false:=by kernel_rfl
theorem Qvk:timesK 2 (svC 1099511627776 false) (svC 1 false)=svC 0 true:=by kernel_rfl
theorem Qew{n:Nat}(h:n<4294967296):(limbs n).length<=1:=Qar (by unfold P;omega)
theorem Qls:qv false (qv false 1 2).num.natAbs (qv false 1 2).den=qv false 1 2:=by decide+kernel
theorem Qlt:cmpQ (qv false 1 2) 1= -1:=by decide+kernel
theorem Qlu:1-qv false 1 2=qv false 1 2:=by decide+kernel
theorem Qo7:qv false 1 2≠0:=by decide+kernel
theorem Qlv:1 / qv false 1 2=qv false 2 1:=by decide+kernel
theorem Qdx(L:Nat)(h:1<=L):Sz (qv false 1 2) L:=by
 have e1:(qv false 1 2).num.natAbs=1:=by decide+kernel
 have e2:(qv false 1 2).den=2:=by decide+kernel
 refine⟨?_,?_⟩
 ·rw [e1];exact le_trans (Qew (by decide)) h
 ·rw [e2];exact le_trans (Qew (by decide)) h
theorem two_sz(L:Nat)(h:1<=L):Sz (qv false 2 1) L:=by
 have e1:(qv false 2 1).num.natAbs=2:=by decide+kernel
 have e2:(qv false 2 1).den=1:=by decide+kernel
 refine⟨?_,?_⟩
 ·rw [e1];exact le_trans (Qew (by decide)) h
 ·rw [e2];exact le_trans (Qew (by decide)) h
theorem Q0c:(⟨(fmtQ (qv false 2 1)).toArray⟩:ByteArray)=⟨#[50]⟩:=by
 have f4:fmtQ (qv false 2 1)=[50]:=by rw [fmt_of (by decide) (by decide),Qzo (by decide)];rfl
 rw [f4]
def ARel(w0:World)(r:Rat)(p b:Value)(wx:World):Prop:=
 ∃g go nr Ar kr cr Br mr er,p=.pointer (some ⟨g,0,none⟩)/\b=.int .i64 0/\Cs wx g [.bool false,.slice none 0 0,.slice none 0 0,.int .i64 0,.bool false,.int .u64 0,.slice none 0 0,.slice (some ⟨go,0,none⟩) 2 2] 32/\w0.heap.size<=g/\Cs wx go (pairL nr Ar kr cr Br mr er 0 false) 32/\RatQ wx (.agg #[.bool nr,.slice Ar kr cr,.slice Br mr er]) r/\Below w0.heap.size w0 wx
theorem arel1{w0 W:World}{r:Rat}{go:Nat}{nr:Bool}{Ar Br:Option Addr}{kr cr mr er:Nat}(hb:Below w0.heap.size w0 W)(hO:Cs W go (pairL nr Ar kr cr Br mr er 0 false) 32)(h:RatQ W (.agg #[.bool nr,.slice Ar kr cr,.slice Br mr er]) r):ARel w0 r (.pointer (some ⟨W.heap.size,0,none⟩)) (.int .i64 0) (W.alloc (.cells #[.bool false,.slice none 0 0,.slice none 0 0,.int .i64 0,.bool false,.int .u64 0,.slice none 0 0,.slice (some ⟨go,0,none⟩) 2 2] 32)):=by
 have hx:=blk1 W [.bool false,.slice none 0 0,.slice none 0 0,.int .i64 0,.bool false,.int .u64 0,.slice none 0 0,.slice (some ⟨go,0,none⟩) 2 2] 32;exact⟨_,_,_,_,_,_,_,_,_,rfl,rfl,hx.2,hb.size,hO.alloc _,h.below hx.1,bt hb hx.1⟩
theorem arel2{w0 W:World}{r:Rat}{go g:Nat}{nr:Bool}{Ar Br:Option Addr}{kr cr mr er:Nat}(hb:Below w0.heap.size w0 W)(hg:w0.heap.size<=g)(hA:Cs W g [.bool false,.slice none 0 0,.slice none 0 0,.int .i64 0,.bool false,.int .u64 0,.slice none 0 0,.slice none 0 0] 32)(hO:Cs W go (pairL nr Ar kr cr Br mr er 0 false) 32)(h:RatQ W (.agg #[.bool nr,.slice Ar kr cr,.slice Br mr er]) r):ARel w0 r (.pointer (some ⟨g,0,none⟩)) (.int .i64 0) ((((((((W.setCell ⟨g,0,none⟩ (.bool false)).setCell ⟨g,1,none⟩ (.slice none 0 0)).setCell ⟨g,2,none⟩ (.slice none 0 0)).setCell ⟨g,3,none⟩ (.int .i64 0)).setCell ⟨g,4,none⟩ (.bool false)).setCell ⟨g,5,none⟩ (.int .u64 0)).setCell ⟨g,6,none⟩ (.slice none 0 0)).setCell ⟨g,7,none⟩ (.slice (some ⟨go,0,none⟩) 2 2)):=
 ⟨_,_,_,_,_,_,_,_,_,rfl,rfl,Qak hA rfl _ _ _ _ _ _ _ _,hg,Qbq hO (hO.ne_len hA (by simp)) _ _ _ _ _ _ _ _,h.s8 hA (by simp) _ _ _ _ _ _ _ _,Qap hb hg _ _ _ _ _ _ _ _⟩
theorem Qxm(w:World)(hT:Txt w):Calls prog 11 #[] w (RetV w (.bool true)):=by
 have HT:=hid hT;clear hT;obtain⟨hb0,c1,cR,c2⟩:=blk3 w [.int .i64 2,.slice none 0 0] [.int .i64 1,.int .i64 2] [.int .i64 6,.slice (some ⟨w.heap.size+1,0,none⟩) 2 2] 24 3 24;go_enter func11,ntmps11;go_wp2_with fail
 generalize (((w.alloc (.cells #[.int .i64 2,.slice none 0 0] 24)).alloc (.cells #[.int .i64 1,.int .i64 2] 3)).alloc (.cells #[.int .i64 6,.slice (some ⟨w.heap.size+1,0,none⟩) 2 2] 24))=W0 at*
 replace c1:=c1.drew;replace cR:=cR.drew;replace c2:=c2.drew;have hb9:=hb0.drew;replace hb0:Below W0.drew.heap.size W0.drew W0.drew:=Below.refl _ _;have hz0:=hb9.size;have hdz1:W0.drew.heap.size<=W0.heap.size:=le_refl _;have hdz2:W0.heap.size<=W0.drew.heap.size:=le_refl _;have l0:=c2.lt;have hcost7:Cost 7 false:=.inr ⟨rfl,by omega,by omega⟩;have hrl:(W0.drew.cell? ⟨w.heap.size+1+1,0,none⟩=some (.int .i64 6)/\W0.drew.cell? ⟨w.heap.size+1+1,1,none⟩=some (.slice (some ⟨w.heap.size+1,0,none⟩) 2 2)):=⟨c2.cell rfl,c2.cell rfl⟩
 go_cut [3,4]from 8 to 17 (fun p b wx=>ARel W0.drew (qv false 2 1) p b wx)
 case first=>
  go_region_held3 (fun w'=>(w'.cell? ⟨w.heap.size+1+1,0,none⟩=some (.int .i64 6)/\w'.cell? ⟨w.heap.size+1+1,1,none⟩=some (.slice (some ⟨w.heap.size+1,0,none⟩) 2 2)))
   (first|with_reducible exact hrl|((with_reducible refine⟨?_,?_⟩)<;>(repeat' (first|(with_reducible exact hrl.1)|(with_reducible exact hrl.2)|(with_reducible refine Qdc _ ?_)|(with_reducible refine Qdd _ ?_)|(with_reducible refine Qa5 ?_ ?_)|omega)))|fail)
   (first
    |(have _g:=m1;(with_reducible change Calls _ _ _ (x1.alloc (.cells #[.bool nb,.slice A n c,.slice B m e,.int .i64 0,.bool false,.int .u64 0,.slice none 0 0,.slice none 0 0,.bool false,.slice none 0 0,.slice none 0 0,.int .i64 7,.bool false,.int .u64 0,.slice none 0 0,.slice none 0 0] 32)) _);go_at_call 24;have hbl:=blk1 x1 [.bool nb,.slice A n c,.slice B m e,.int .i64 0,.bool false,.int .u64 0,.slice none 0 0,.slice none 0 0,.bool false,.slice none 0 0,.slice none 0 0,.int .i64 7,.bool false,.int .u64 0,.slice none 0 0,.slice none 0 0] 32;have hal:Below x1.heap.size x1 (x1.alloc (.cells #[.bool nb,.slice A n c,.slice B m e,.int .i64 0,.bool false,.int .u64 0,.slice none 0 0,.slice none 0 0,.bool false,.slice none 0 0,.slice none 0 0,.int .i64 7,.bool false,.int .u64 0,.slice none 0 0,.slice none 0 0] 32)):=hbl.1;have hE:Cs (x1.alloc (.cells #[.bool nb,.slice A n c,.slice B m e,.int .i64 0,.bool false,.int .u64 0,.slice none 0 0,.slice none 0 0,.bool false,.slice none 0 0,.slice none 0 0,.int .i64 7,.bool false,.int .u64 0,.slice none 0 0,.slice none 0 0] 32)) (x1.heap.size) (pairL nb A n c B m e 7 false) 32:=hbl.2;replace hb0:=bt hb0 hal;replace c1:=c1.below hal c1.lt;replace cR:=cR.below hal cR.lt;replace c2:=c2.below hal c2.lt;replace h1:=h1.below hal;(try replace rA:=rA.below hal rA.lt);refine(Qiz (w.heap.size+1) 2 (x1.heap.size) nb A B n c m e 7 false _ _ cR hE h1 (HT.out.keep (hb9.trans (hb0.mono hz0)).block).tab hcost7 (qv false 1 2) (qv false 1 2) (qv false 2 1) (Qdx _ (by decide)) (hid Qls) (Qdx _ (by decide)) (hid Qlt) (hid Qlu) (Qdx _ (by decide)) (hid Qo7) (hid Qlv)).mono ?_;rintro e0 x2 ⟨go,nr,Ar,kr,cr1,Br,mr,er,rfl,cO,hr,hbk⟩;replace hb0:=bt hb0 hbk;replace c1:=c1.below hbk c1.lt;replace cR:=cR.below hbk cR.lt;replace c2:=c2.below hbk c2.lt;(try replace rA:=rA.below hbk rA.lt);have hz2:=hb0.size;have l2:=c2.lt;have hrl:(x2.cell? ⟨w.heap.size+1+1,0,none⟩=some (.int .i64 6)/\x2.cell? ⟨w.heap.size+1+1,1,none⟩=some (.slice (some ⟨w.heap.size+1,0,none⟩) 2 2)):=⟨c2.cell rfl,c2.cell rfl⟩;(try (have e0:=rA.at 0 (by decide);have q0:=rA.frozen 0;have e1:=rA.at 1 (by decide);have q1:=rA.frozen 1;have e2:=rA.at 2 (by decide);have q2:=rA.frozen 2;have e3:=rA.at 3 (by decide);have q3:=rA.frozen 3;have e4:=rA.at 4 (by decide);have q4:=rA.frozen 4;have e5:=rA.at 5 (by decide);have q5:=rA.frozen 5;have e6:=rA.at 6 (by decide);have q6:=rA.frozen 6;have e7:=rA.at 7 (by decide);have q7:=rA.frozen 7;have lA:=rA.lt)))
    |(have _g:=m1;(with_reducible change Calls _ _ _ ((x1.alloc (.cells #[.bool false,.slice none 0 0,.slice none 0 0,.int .i64 0,.bool false,.int .u64 0,.slice none 0 0,.slice none 0 0] 32)).alloc (.cells #[.bool nb,.slice A n c,.slice B m e,.int .i64 0,.bool false,.int .u64 0,.slice none 0 0,.slice none 0 0,.bool false,.slice none 0 0,.slice none 0 0,.int .i64 7,.bool false,.int .u64 0,.slice none 0 0,.slice none 0 0] 32)) _);go_at_call 24;have hbl:=blk2 x1 [.bool false,.slice none 0 0,.slice none 0 0,.int .i64 0,.bool false,.int .u64 0,.slice none 0 0,.slice none 0 0] [.bool nb,.slice A n c,.slice B m e,.int .i64 0,.bool false,.int .u64 0,.slice none 0 0,.slice none 0 0,.bool false,.slice none 0 0,.slice none 0 0,.int .i64 7,.bool false,.int .u64 0,.slice none 0 0,.slice none 0 0] 32 32;have hal:Below x1.heap.size x1 ((x1.alloc (.cells #[.bool false,.slice none 0 0,.slice none 0 0,.int .i64 0,.bool false,.int .u64 0,.slice none 0 0,.slice none 0 0] 32)).alloc (.cells #[.bool nb,.slice A n c,.slice B m e,.int .i64 0,.bool false,.int .u64 0,.slice none 0 0,.slice none 0 0,.bool false,.slice none 0 0,.slice none 0 0,.int .i64 7,.bool false,.int .u64 0,.slice none 0 0,.slice none 0 0] 32)):=hbl.1;have hE:Cs ((x1.alloc (.cells #[.bool false,.slice none 0 0,.slice none 0 0,.int .i64 0,.bool false,.int .u64 0,.slice none 0 0,.slice none 0 0] 32)).alloc (.cells #[.bool nb,.slice A n c,.slice B m e,.int .i64 0,.bool false,.int .u64 0,.slice none 0 0,.slice none 0 0,.bool false,.slice none 0 0,.slice none 0 0,.int .i64 7,.bool false,.int .u64 0,.slice none 0 0,.slice none 0 0] 32)) (x1.heap.size+1) (pairL nb A n c B m e 7 false) 32:=hbl.2.2;have rA:Cs ((x1.alloc (.cells #[.bool false,.slice none 0 0,.slice none 0 0,.int .i64 0,.bool false,.int .u64 0,.slice none 0 0,.slice none 0 0] 32)).alloc (.cells #[.bool nb,.slice A n c,.slice B m e,.int .i64 0,.bool false,.int .u64 0,.slice none 0 0,.slice none 0 0,.bool false,.slice none 0 0,.slice none 0 0,.int .i64 7,.bool false,.int .u64 0,.slice none 0 0,.slice none 0 0] 32)) (x1.heap.size) [.bool false,.slice none 0 0,.slice none 0 0,.int .i64 0,.bool false,.int .u64 0,.slice none 0 0,.slice none 0 0] 32:=hbl.2.1;replace hb0:=bt hb0 hal;replace c1:=c1.below hal c1.lt;replace cR:=cR.below hal cR.lt;replace c2:=c2.below hal c2.lt;replace h1:=h1.below hal;refine(Qiz (w.heap.size+1) 2 (x1.heap.size+1) nb A B n c m e 7 false _ _ cR hE h1 (HT.out.keep (hb9.trans (hb0.mono hz0)).block).tab hcost7 (qv false 1 2) (qv false 1 2) (qv false 2 1) (Qdx _ (by decide)) (hid Qls) (Qdx _ (by decide)) (hid Qlt) (hid Qlu) (Qdx _ (by decide)) (hid Qo7) (hid Qlv)).mono ?_;rintro e0 x2 ⟨go,nr,Ar,kr,cr1,Br,mr,er,rfl,cO,hr,hbk⟩;replace hb0:=bt hb0 hbk;replace c1:=c1.below hbk c1.lt;replace cR:=cR.below hbk cR.lt;replace c2:=c2.below hbk c2.lt;(try replace rA:=rA.below hbk rA.lt);have hz2:=hb0.size;have l2:=c2.lt;have hrl:(x2.cell? ⟨w.heap.size+1+1,0,none⟩=some (.int .i64 6)/\x2.cell? ⟨w.heap.size+1+1,1,none⟩=some (.slice (some ⟨w.heap.size+1,0,none⟩) 2 2)):=⟨c2.cell rfl,c2.cell rfl⟩;(try (have e0:=rA.at 0 (by decide);have q0:=rA.frozen 0;have e1:=rA.at 1 (by decide);have q1:=rA.frozen 1;have e2:=rA.at 2 (by decide);have q2:=rA.frozen 2;have e3:=rA.at 3 (by decide);have q3:=rA.frozen 3;have e4:=rA.at 4 (by decide);have q4:=rA.frozen 4;have e5:=rA.at 5 (by decide);have q5:=rA.frozen 5;have e6:=rA.at 6 (by decide);have q6:=rA.frozen 6;have e7:=rA.at 7 (by decide);have q7:=rA.frozen 7;have lA:=rA.lt)))
    |(have _g:=m1;(with_reducible change Calls _ _ _ ((x1.alloc (.cells #[.bool nb,.slice A n c,.slice B m e,.int .i64 0,.bool false,.int .u64 0,.slice none 0 0,.slice none 0 0,.bool false,.slice none 0 0,.slice none 0 0,.int .i64 7,.bool false,.int .u64 0,.slice none 0 0,.slice none 0 0] 32)).alloc (.cells #[.bool false,.slice none 0 0,.slice none 0 0,.int .i64 0,.bool false,.int .u64 0,.slice none 0 0,.slice none 0 0] 32)) _);go_at_call 24;have hbl:=blk2 x1 [.bool nb,.slice A n c,.slice B m e,.int .i64 0,.bool false,.int .u64 0,.slice none 0 0,.slice none 0 0,.bool false,.slice none 0 0,.slice none 0 0,.int .i64 7,.bool false,.int .u64 0,.slice none 0 0,.slice none 0 0] [.bool false,.slice none 0 0,.slice none 0 0,.int .i64 0,.bool false,.int .u64 0,.slice none 0 0,.slice none 0 0] 32 32;have hal:Below x1.heap.size x1 ((x1.alloc (.cells #[.bool nb,.slice A n c,.slice B m e,.int .i64 0,.bool false,.int .u64 0,.slice none 0 0,.slice none 0 0,.bool false,.slice none 0 0,.slice none 0 0,.int .i64 7,.bool false,.int .u64 0,.slice none 0 0,.slice none 0 0] 32)).alloc (.cells #[.bool false,.slice none 0 0,.slice none 0 0,.int .i64 0,.bool false,.int .u64 0,.slice none 0 0,.slice none 0 0] 32)):=hbl.1;have hE:Cs ((x1.alloc (.cells #[.bool nb,.slice A n c,.slice B m e,.int .i64 0,.bool false,.int .u64 0,.slice none 0 0,.slice none 0 0,.bool false,.slice none 0 0,.slice none 0 0,.int .i64 7,.bool false,.int .u64 0,.slice none 0 0,.slice none 0 0] 32)).alloc (.cells #[.bool false,.slice none 0 0,.slice none 0 0,.int .i64 0,.bool false,.int .u64 0,.slice none 0 0,.slice none 0 0] 32)) (x1.heap.size) (pairL nb A n c B m e 7 false) 32:=hbl.2.1;have rA:Cs ((x1.alloc (.cells #[.bool nb,.slice A n c,.slice B m e,.int .i64 0,.bool false,.int .u64 0,.slice none 0 0,.slice none 0 0,.bool false,.slice none 0 0,.slice none 0 0,.int .i64 7,.bool false,.int .u64 0,.slice none 0 0,.slice none 0 0] 32)).alloc (.cells #[.bool false,.slice none 0 0,.slice none 0 0,.int .i64 0,.bool false,.int .u64 0,.slice none 0 0,.slice none 0 0] 32)) (x1.heap.size+1) [.bool false,.slice none 0 0,.slice none 0 0,.int .i64 0,.bool false,.int .u64 0,.slice none 0 0,.slice none 0 0] 32:=hbl.2.2;replace hb0:=bt hb0 hal;replace c1:=c1.below hal c1.lt;replace cR:=cR.below hal cR.lt;replace c2:=c2.below hal c2.lt;replace h1:=h1.below hal;refine(Qiz (w.heap.size+1) 2 (x1.heap.size) nb A B n c m e 7 false _ _ cR hE h1 (HT.out.keep (hb9.trans (hb0.mono hz0)).block).tab hcost7 (qv false 1 2) (qv false 1 2) (qv false 2 1) (Qdx _ (by decide)) (hid Qls) (Qdx _ (by decide)) (hid Qlt) (hid Qlu) (Qdx _ (by decide)) (hid Qo7) (hid Qlv)).mono ?_;rintro e0 x2 ⟨go,nr,Ar,kr,cr1,Br,mr,er,rfl,cO,hr,hbk⟩;replace hb0:=bt hb0 hbk;replace c1:=c1.below hbk c1.lt;replace cR:=cR.below hbk cR.lt;replace c2:=c2.below hbk c2.lt;(try replace rA:=rA.below hbk rA.lt);have hz2:=hb0.size;have l2:=c2.lt;have hrl:(x2.cell? ⟨w.heap.size+1+1,0,none⟩=some (.int .i64 6)/\x2.cell? ⟨w.heap.size+1+1,1,none⟩=some (.slice (some ⟨w.heap.size+1,0,none⟩) 2 2)):=⟨c2.cell rfl,c2.cell rfl⟩;(try (have e0:=rA.at 0 (by decide);have q0:=rA.frozen 0;have e1:=rA.at 1 (by decide);have q1:=rA.frozen 1;have e2:=rA.at 2 (by decide);have q2:=rA.frozen 2;have e3:=rA.at 3 (by decide);have q3:=rA.frozen 3;have e4:=rA.at 4 (by decide);have q4:=rA.frozen 4;have e5:=rA.at 5 (by decide);have q5:=rA.frozen 5;have e6:=rA.at 6 (by decide);have q6:=rA.frozen 6;have e7:=rA.at 7 (by decide);have q7:=rA.frozen 7;have lA:=rA.lt)))
    |((with_reducible change Calls _ _ _ (W0.drew) _);go_at_call 37;refine(Qxw 1 2 _ (by decide) (qv false 1 2) rfl (by decide) (by decide) (by decide) (by decide)).mono ?_;rintro e0 x1 ⟨v1,rfl,h1,hbk⟩;replace hb0:=bt hb0 hbk;replace c1:=c1.below hbk c1.lt;replace cR:=cR.below hbk cR.lt;replace c2:=c2.below hbk c2.lt;(try replace rA:=rA.below hbk rA.lt);obtain⟨nb,A,n,c,B,m,e,rfl⟩:=h1.agg;have m1:=hid (rfl:1=1);have hz1:=hb0.size;have l1:=c2.lt;have hrl:(x1.cell? ⟨w.heap.size+1+1,0,none⟩=some (.int .i64 6)/\x1.cell? ⟨w.heap.size+1+1,1,none⟩=some (.slice (some ⟨w.heap.size+1,0,none⟩) 2 2)):=⟨c2.cell rfl,c2.cell rfl⟩)
    |((with_reducible change Calls _ _ _ ((W0.alloc (.cells #[.bool false,.slice none 0 0,.slice none 0 0,.int .i64 0,.bool false,.int .u64 0,.slice none 0 0,.slice none 0 0] 32)).drew) _);go_at_call 37;have hal:Below W0.drew.heap.size W0.drew ((W0.alloc (.cells #[.bool false,.slice none 0 0,.slice none 0 0,.int .i64 0,.bool false,.int .u64 0,.slice none 0 0,.slice none 0 0] 32)).drew):=(Below.refl _ _).alloc (le_refl _) _;have rA:Cs ((W0.alloc (.cells #[.bool false,.slice none 0 0,.slice none 0 0,.int .i64 0,.bool false,.int .u64 0,.slice none 0 0,.slice none 0 0] 32)).drew) (W0.heap.size) [.bool false,.slice none 0 0,.slice none 0 0,.int .i64 0,.bool false,.int .u64 0,.slice none 0 0,.slice none 0 0] 32:=Cs.new W0 _ _;replace hb0:=bt hb0 hal;replace c1:=c1.below hal c1.lt;replace cR:=cR.below hal cR.lt;replace c2:=c2.below hal c2.lt;refine(Qxw 1 2 _ (by decide) (qv false 1 2) rfl (by decide) (by decide) (by decide) (by decide)).mono ?_;rintro e0 x1 ⟨v1,rfl,h1,hbk⟩;replace hb0:=bt hb0 hbk;replace c1:=c1.below hbk c1.lt;replace cR:=cR.below hbk cR.lt;replace c2:=c2.below hbk c2.lt;(try replace rA:=rA.below hbk rA.lt);obtain⟨nb,A,n,c,B,m,e,rfl⟩:=h1.agg;have m1:=hid (rfl:1=1);have hz1:=hb0.size;have l1:=c2.lt;have hrl:(x1.cell? ⟨w.heap.size+1+1,0,none⟩=some (.int .i64 6)/\x1.cell? ⟨w.heap.size+1+1,1,none⟩=some (.slice (some ⟨w.heap.size+1,0,none⟩) 2 2)):=⟨c2.cell rfl,c2.cell rfl⟩))
  all_goals
   (try clear e0 e1 e2 e3 e4 e5 e6 e7 q0 q1 q2 q3 q4 q5 q6 q7)
   go_wp2_with fail
   go_meet
   case rel=>first|with_reducible exact arel1 hb0 cO hr|with_reducible exact arel2 hb0 (by omega) rA cO hr|fail
 case rest=>
  obtain⟨g8,go,nr,Ar,kr,cr1,Br,mr,er,rfl,rfl,rA,hg8,cO,hr,hbq⟩:=hcut;replace c1:=c1.below hbq c1.lt;replace cR:=cR.below hbq cR.lt;replace c2:=c2.below hbq c2.lt;replace hb0:=hb9.trans (hbq.mono hz0);clear hbq hrl hb9;have k0:=c2.cell (k:=0) rfl;have k1:=c2.cell (k:=1) rfl;obtain⟨x0,x1,x2,x3,x4,x5,x6,x7⟩:=rA.c8;go_wp2_with fail
  refine(Qox (w.heap.size+1) 2 go nr Ar Br kr cr1 mr er (qv false 2 1) ⟨#[50]⟩ ⟨#[50,124,48]⟩ _ cR cO hr (HT.out.keep hb0.block) ⟨two_sz _ (by decide),by decide+kernel,by decide+kernel⟩ (hid Q0c) (hid rfl) (hid (by decide))).mono ?_;rintro e0 w2 ⟨rfl,hb1⟩;replace hb0:=bt hb0 hb1;replace c1:=c1.below hb1 c1.lt;clear hb1 k0 k1 x0 x1 x2 x3 x4 x5 x6 x7 cR c2 rA cO hr;have k0:=c1.cell (k:=0) rfl;have k1:=c1.cell (k:=1) rfl;go_wp2_with fail
  refine(Plus_c (HT.out.keep hb0.block).tab (okc2 (by decide) (by decide) (by decide)) (okc2 (by decide) (by decide) (by decide)) plus35).mono ?_;rintro e0 w3 ⟨nb',A',n',c',B',m',e',s',P',p',r',Q',q',t',rfl,hb1⟩;replace hb0:=bt hb0 hb1;replace c1:=c1.below hb1 c1.lt;clear hb1 k0 k1;have k0:=c1.cell (k:=0) rfl;have k1:=c1.cell (k:=1) rfl;have hf1:∀w:World,(Instr.field 32 (.agg #[.bool nb',.slice A' n' c',.slice B' m' e',.int .i64 3,.bool false,.int .u64 s',.slice P' p' r',.slice Q' q' t']) 1).run prog w=.ok (.int .i64 3) w:=fun _=>by kernel_rfl
  go_wp2_with fail
  refine(Q0b (HT.out.keep hb0.block).tab (okc2 (by decide) (by decide) (by decide)) (okc2 (by decide) (by decide) (by decide)) Qvk).mono ?_;rintro e0 w4 ⟨nb',A',n',c',B',m',e',s',P',p',r',Q',q',t',rfl,hb1⟩;replace hb0:=bt hb0 hb1;have hf2:∀w:World,(Instr.field 32 (.agg #[.bool nb',.slice A' n' c',.slice B' m' e',.int .i64 0,.bool true,.int .u64 s',.slice P' p' r',.slice Q' q' t']) 2).run prog w=.ok (.bool true) w:=fun _=>by kernel_rfl
  go_wp2_with fail
  go_ret;exact⟨rfl,hb0⟩
theorem Fit.atom{r:Rg}{z:CW}(h:okW r z/\SzW 8 z):Fit r z:=⟨h.1,h.2.mono (by decide)⟩
theorem Fit.zero{r:Rg}(hr:okRg r):Fit r (zeroR r):=⟨Qem hr,Qqo (by decide) r⟩
theorem Fit.one{r:Rg}(hr:okRg r):Fit r (oneR r):=⟨Qoc hr,Qz7 (by decide) hr⟩
theorem Fit.plus{r:Rg}(hr:okRg r){x y:CW}(hx:okW r x/\SzW 8 x)(hy:okW r y/\SzW 8 y):Fit r (plusR r x y):=⟨Qpx hr hx.1 hy.1,(Qqn (by decide) hr hx.1 hy.1 hx.2 hy.2).mono (by decide)⟩
theorem Fit.times{r:Rg}(hr:okRg r){x y:CW}(hx:okW r x/\SzW 8 x)(hy:okW r y/\SzW 8 y):Fit r (timesR r x y):=⟨Qme hr hx.1 hy.1,(Qno (by decide) hr hx.1 hy.1 hx.2 hy.2).mono (by decide)⟩
def Big(r:Rg)(z:CW):Prop:=okW r z/\SzW 100000000 z
theorem Big.plus{r:Rg}(hr:okRg r){x y:CW}(hx:Fit r x)(hy:Fit r y):Big r (plusR r x y):=⟨Qpx hr hx.1 hy.1,(Qqn (by decide) hr hx.1 hy.1 hx.2 hy.2).mono (by decide)⟩
theorem Big.times{r:Rg}(hr:okRg r){x y:CW}(hx:Fit r x)(hy:Fit r y):Big r (timesR r x y):=⟨Qme hr hx.1 hy.1,(Qno (by decide) hr hx.1 hy.1 hx.2 hy.2).mono (by decide)⟩
theorem Qxn(k u v x:Int)(w:World)(hT:Txt w)(hk1: -9223372036854775808<=k)(hk2:k<=9223372036854775807)(hu: -9223372036854775808<=u/\u<=9223372036854775807)(hv: -9223372036854775808<=v/\v<=9223372036854775807)(hx: -9223372036854775808<=x/\x<=9223372036854775807):Calls prog 5 #[.int .i64 k,.int .i64 u,.int .i64 v,.int .i64 x] w (RetV w (.bool true)):=by
 have HT:=hid hT;have HV:=hid (And.intro hu (And.intro hv hx));have HM:=hid (mRing k w hk1 hk2);clear hT hu hv hx hk1 hk2;go_enter func5,ntmps5;go_wp2_with fail
 refine HM.out.mono ?_;rintro e0 w1 ⟨kk,l,A,n,c,r,rfl,hi,hr,hone,hb1⟩;obtain⟨hb0,c1⟩:=blk1 w1 [.int .i64 kk,.slice A n c] 24;have H3:Hid (Ring3 r kk l A n c (w1.alloc (.cells #[.int .i64 kk,.slice A n c] 24))):=hid ⟨(HT.out.tab.below hb1).below hb0,hi.below hb0,hr⟩;have HO:=hid hone;have HW:=hid (bt hb1 hb0);have HC1:=hid c1;clear hi hr hone hb1 hb0 c1 HM;go_wp2_with fail
 generalize hW0:(w1.alloc (.cells #[.int .i64 kk,.slice A n c] 24))=W0 at*
 generalize w1.heap.size=g9 at*
 clear hW0;have KX:Hid (∀wx,Below W0.drew.heap.size W0.drew wx->wx.cell? ⟨g9,0,none⟩=some (.int .i64 kk)/\wx.cell? ⟨g9,1,none⟩=some (.slice A n c)):=hid (fun wx hB=>⟨(HC1.out.drew.below hB HC1.out.lt).cell rfl,(HC1.out.drew.below hB HC1.out.lt).cell rfl⟩);have H30:=H3;replace H3:Hid (Ring3 r kk l A n c W0.drew):=hid H3.out.below (Below.refl _ _).drew;refine Qag 12 (17::18::19::20::21::22::23::24::25::10::11::12::[]) (Sq.val (.agg #[.int .i64 kk,.slice A n c])::Sq.val (.int .i64 u)::Sq.st (fun w a=>RM r w a)::Sq.val (.agg #[.int .i64 kk,.slice A n c])::Sq.val (.int .i64 v)::Sq.st (fun w a=>RM r w a)::Sq.val (.agg #[.int .i64 kk,.slice A n c])::Sq.val (.int .i64 x)::Sq.st (fun w a=>RM r w a)::Sq.blk (W0.drew.heap.size) [.bool false,.slice none 0 0,.slice none 0 0,.int .i64 0,.bool false,.int .u64 0,.slice none 0 0,.slice none 0 0] 32::Sq.blk (W0.drew.heap.size) [.bool false,.slice none 0 0,.slice none 0 0,.int .i64 0,.bool false,.int .u64 0,.slice none 0 0,.slice none 0 0] 32::Sq.blk (W0.drew.heap.size) [.bool false,.slice none 0 0,.slice none 0 0,.int .i64 0,.bool false,.int .u64 0,.slice none 0 0,.slice none 0 0] 32::[]) (by kernel_rfl) (by kernel_rfl) (by kernel_rfl) (by kernel_rfl) ?step 3 (by kernel_rfl) _ rfl ?fin
 case step=>
  intro i hi oi ho f wx hB hdep K hK;simp only [frontAct,zf1,zf2,zf3,zf4,zf5]at hK⊢;obtain⟨y0,y1⟩:=KX.out wx hB;iterate 12 rcases lt_or_eq_of_le (le_of_lt_succ hi)with hi|rfl
  exact absurd hi (not_lt_zero _);all_goals
   obtain rfl:=Option.some.inj ho;clear ho;simp only [Act.put,zf3,zf4,zf5]at hK
  rotate_left 2
  ·have e17:=dv6 (hdep ⟨0,.data⟩ (by simp) rfl) rfl
   have e18:=dv6 (hdep ⟨1,.data⟩ (by simp) rfl) rfl;simp only [zf6,zf7]at e17 e18;generalize f 17=f17 at*;subst e17;generalize f 18=f18 at*;subst e18;go_simp;refine(Qvj (H3.out.below hB) HO.out u HV.out.1).mono ?_;rintro e0 w' ⟨val,rfl,hr,hb⟩;exact hK val w' (gs6 rfl (fun w2 h2=>hr.below h2)) hb (bt hB hb) (nb6 rfl rfl)
  rotate_left 2
  ·have e20:=dv6 (hdep ⟨3,.data⟩ (by simp) rfl) rfl
   have e21:=dv6 (hdep ⟨4,.data⟩ (by simp) rfl) rfl;simp only [zf6,zf7]at e20 e21;generalize f 20=f20 at*;subst e20;generalize f 21=f21 at*;subst e21;go_simp;refine(Qvj (H3.out.below hB) HO.out v HV.out.2.1).mono ?_;rintro e0 w' ⟨val,rfl,hr,hb⟩;exact hK val w' (gs6 rfl (fun w2 h2=>hr.below h2)) hb (bt hB hb) (nb6 rfl rfl)
  rotate_left 2
  ·have e23:=dv6 (hdep ⟨6,.data⟩ (by simp) rfl) rfl
   have e24:=dv6 (hdep ⟨7,.data⟩ (by simp) rfl) rfl;simp only [zf6,zf7]at e23 e24;generalize f 23=f23 at*;subst e23;generalize f 24=f24 at*;subst e24;go_simp;refine(Qvj (H3.out.below hB) HO.out x HV.out.2.2).mono ?_;rintro e0 w' ⟨val,rfl,hr,hb⟩;exact hK val w' (gs6 rfl (fun w2 h2=>hr.below h2)) hb (bt hB hb) (nb6 rfl rfl)
  ·have hbl:=blk1 wx [.bool false,.slice none 0 0,.slice none 0 0,.int .i64 0,.bool false,.int .u64 0,.slice none 0 0,.slice none 0 0] 32
   go_simp;exact hK _ _ (gb6 rfl hB.size hbl.2) hbl.1 (bt hB hbl.1) (fun _=>⟨_,rfl,le_refl _⟩)
  ·have hbl:=blk1 wx [.bool false,.slice none 0 0,.slice none 0 0,.int .i64 0,.bool false,.int .u64 0,.slice none 0 0,.slice none 0 0] 32
   go_simp;exact hK _ _ (gb6 rfl hB.size hbl.2) hbl.1 (bt hB hbl.1) (fun _=>⟨_,rfl,le_refl _⟩)
  ·have hbl:=blk1 wx [.bool false,.slice none 0 0,.slice none 0 0,.int .i64 0,.bool false,.int .u64 0,.slice none 0 0,.slice none 0 0] 32
   go_simp;exact hK _ _ (gb6 rfl hB.size hbl.2) hbl.1 (bt hB hbl.1) (fun _=>⟨_,rfl,le_refl _⟩)
  all_goals simp [gOf6,Sq.holds,Region.binds]at hdep
  all_goals try simp only [hdep]at hK⊢
  all_goals go_simp
  all_goals exact hK _ wx (gv6 rfl) (Below.refl _ _) hB (nb6 rfl rfl)
 case fin=>
  intro f wx hB hG hne;obtain⟨gA,eA,hgA,csA⟩:=db6 (a:=f 10) (hG 9 (by decide)) rfl;obtain⟨gB,eB,hgB,csB⟩:=db6 (a:=f 11) (hG 10 (by decide)) rfl;obtain⟨gC,eC,hgC,csC⟩:=db6 (a:=f 12) (hG 11 (by decide)) rfl;have nAB:gA≠gB:=fun e=>hne 9 10 (by decide) (by decide) rfl rfl (by decide) (by show f 10=f 11;rw [eA,eB,e])
  have nAC:gA≠gC:=fun e=>hne 9 11 (by decide) (by decide) rfl rfl (by decide) (by show f 10=f 12;rw [eA,eC,e])
  have nBC:gB≠gC:=fun e=>hne 10 11 (by decide) (by decide) rfl rfl (by decide) (by show f 11=f 12;rw [eB,eC,e])
  have e19:RM r wx (f 19):=ds6 (hG 2 (by decide)) rfl;have e22:RM r wx (f 22):=ds6 (hG 5 (by decide)) rfl;have e25:RM r wx (f 25):=ds6 (hG 8 (by decide)) rfl;clear hG hne;simp only [frontAct,zf1,zf2,zf3,zf4,zf5];generalize f 19=f19 at*
  generalize f 22=f22 at*
  generalize f 25=f25 at*
  generalize f 10=f10 at*;subst eA;generalize f 11=f11 at*;subst eB;generalize f 12=f12 at*;subst eC;obtain⟨za,la,rfl,oka,sza,ha⟩:=e19;obtain⟨zb,lb,rfl,okb,szb,hb⟩:=e22;obtain⟨zc,lc,rfl,okc,szc,hc⟩:=e25;obtain⟨ab,aA,an,ac,aB,am,ae,ak,ai,aS,aP,ap,ar,aQ,aq,aw,rfl⟩:=ha.isW8;obtain⟨bb,bA,bn,bc,bB,bm,be,bk,bi,bS,bP,bp,br,bQ,bq,bw,rfl⟩:=hb.isW8;obtain⟨cb,cA,cn,cc,cB,cm,ce,ck,ci,cS,cP,cp,cr,cQ,cq,cw,rfl⟩:=hc.isW8;have hro:=Qca H3.out.eq;obtain⟨s1,s2,s3,s4⟩:=Qec (l:=[.bool ab,.slice aA an ac,.slice aB am ae,.int .i64 ak,.bool ai,.int .u64 aS,.slice aP ap ar,.slice aQ aq aw]) csA rfl Qbx rfl;have csB1:=s4 gB _ _ (Ne.symm nAB) csB;have csC1:=s4 gC _ _ (Ne.symm nAC) csC;obtain⟨t1,t2,t3,t4⟩:=Qec (l:=[.bool bb,.slice bA bn bc,.slice bB bm be,.int .i64 bk,.bool bi,.int .u64 bS,.slice bP bp br,.slice bQ bq bw]) csB1 rfl Qbx rfl;have csA2:=t4 gA _ _ nAB s1;have csC2:=t4 gC _ _ (Ne.symm nBC) csC1;obtain⟨u1,u2,u3,u4⟩:=Qec (l:=[.bool cb,.slice cA cn cc,.slice cB cm ce,.int .i64 ck,.bool ci,.int .u64 cS,.slice cP cp cr,.slice cQ cq cw]) csC2 rfl Qbx rfl;have HA:=hid (((ha.bch hro oka s2).bch hro oka t2).bch hro oka u2);have HB:=hid (((hb.bch hro okb s2).bch hro okb t2).bch hro okb u2);have HC:=hid (((hc.bch hro okc s2).bch hro okc t2).bch hro okc u2);have KA:=hid (u4 gA _ _ nAC csA2);have KB:=hid (u4 gB _ _ nBC t1);have KC:=hid u1;have HSZ:=hid (And.intro hgA (And.intro hgB hgC));have HBN:=hid (((hB.trans (s3.mono hgA)).trans (t3.mono hgB)).trans (u3.mono hgC));have FA:=hid (And.intro oka sza);have FB:=hid (And.intro okb szb);have FC:=hid (And.intro okc szc);clear ha hb hc s1 s2 s3 s4 t1 t2 t3 t4 u1 u2 u3 u4 csB csC hgA hgB hgC hB csA2 hro oka okb okc sza szb szc;obtain⟨x0,x1,x2,x3,x4,x5,x6,x7⟩:=csA.c8;obtain⟨y0,y1,y2,y3,y4,y5,y6,y7⟩:=csA.f8;refine wpAny_ready (rs:=[12]) (by kernel_rfl) (by simp) ?_;refine AllReady.cons rfl (fun K hK=>?_) AllReady.nil;have HQ:=hid hK;clear hK;go_simp;refine HQ.out _ _ ?_;clear HQ K;rw [setL8];clear x0 x1 x2 x3 x4 x5 x6 x7 y0 y1 y2 y3 y4 y5 y6 y7;generalize setL wx gA 0 [.bool ab,.slice aA an ac,.slice aB am ae,.int .i64 ak,.bool ai,.int .u64 aS,.slice aP ap ar,.slice aQ aq aw]=wy at*
  obtain⟨x0,x1,x2,x3,x4,x5,x6,x7⟩:=csB1.c8;obtain⟨y0,y1,y2,y3,y4,y5,y6,y7⟩:=csB1.f8;refine wpAny_ready (rs:=[13]) (by kernel_rfl) (by simp) ?_;refine AllReady.cons rfl (fun K hK=>?_) AllReady.nil;have HQ:=hid hK;clear hK;go_simp;refine HQ.out _ _ ?_;clear HQ K;rw [setL8];clear x0 x1 x2 x3 x4 x5 x6 x7 y0 y1 y2 y3 y4 y5 y6 y7;generalize setL wy gB 0 [.bool bb,.slice bA bn bc,.slice bB bm be,.int .i64 bk,.bool bi,.int .u64 bS,.slice bP bp br,.slice bQ bq bw]=wz at*
  obtain⟨x0,x1,x2,x3,x4,x5,x6,x7⟩:=csC2.c8;obtain⟨y0,y1,y2,y3,y4,y5,y6,y7⟩:=csC2.f8;refine wpAny_ready (rs:=[14]) (by kernel_rfl) (by simp) ?_;refine AllReady.cons rfl (fun K hK=>?_) AllReady.nil;have HQ:=hid hK;clear hK;go_simp;refine HQ.out _ _ ?_;clear HQ K;rw [setL8];clear x0 x1 x2 x3 x4 x5 x6 x7 y0 y1 y2 y3 y4 y5 y6 y7;generalize setL wz gC 0 [.bool cb,.slice cA cn cc,.slice cB cm ce,.int .i64 ck,.bool ci,.int .u64 cS,.slice cP cp cr,.slice cQ cq cw]=W5 at*
  refine wpAny_done (by kernel_rfl) ?_ _;clear csA csB1 csC1 csC2 nAB nAC nBC;replace HBN:Hid (Below W0.heap.size W0 W5):=hid (Qge HBN.out);go_wp2_with fail
  have HC5:=hid (HC1.out.below HBN.out HC1.out.lt);have H5:Hid (Ring3 r kk l A n c W5.drew):=hid ((H30.out.below HBN.out).below (Below.refl _ _).drew);have HB05:=HBN;clear KX H3 HC1;have H3:=H5;have KX:Hid (∀wx,Below W5.drew.heap.size W5.drew wx->wx.cell? ⟨g9,0,none⟩=some (.int .i64 kk)/\wx.cell? ⟨g9,1,none⟩=some (.slice A n c)):=hid (fun wx hB=>⟨(HC5.out.drew.below hB HC5.out.lt).cell rfl,(HC5.out.drew.below hB HC5.out.lt).cell rfl⟩);refine Qag 6 (26::27::28::29::13::14::[]) (Sq.val (.agg #[.int .i64 kk,.slice A n c])::Sq.st (fun w a=>RZ (zeroR r) w a)::Sq.val (.agg #[.int .i64 kk,.slice A n c])::Sq.st (fun w a=>RZ (oneR r) w a)::Sq.blk (W5.drew.heap.size) [.bool false,.slice none 0 0,.slice none 0 0,.int .i64 0,.bool false,.int .u64 0,.slice none 0 0,.slice none 0 0] 32::Sq.blk (W5.drew.heap.size) [.bool false,.slice none 0 0,.slice none 0 0,.int .i64 0,.bool false,.int .u64 0,.slice none 0 0,.slice none 0 0] 32::[]) (by kernel_rfl) (by kernel_rfl) (by kernel_rfl) (by kernel_rfl) ?step3 2 (by kernel_rfl) _ rfl ?fin3
  case step3=>
   intro i hi oi ho f wx hB hdep K hK;simp only [frontAct,zf1,zf2,zf3,zf4,zf5]at hK⊢;obtain⟨y0,y1⟩:=KX.out wx hB;iterate 6 rcases lt_or_eq_of_le (le_of_lt_succ hi)with hi|rfl
   exact absurd hi (not_lt_zero _);all_goals
    obtain rfl:=Option.some.inj ho;clear ho;simp only [Act.put,zf3,zf4,zf5]at hK
   rotate_left
   ·have e26:=dv6 (hdep ⟨0,.data⟩ (by simp) rfl) rfl
    simp only [zf6,zf7]at e26;generalize f 26=f26 at*;subst e26;go_simp;refine(z_Zero (H3.out.below hB)).mono ?_;rintro e0 w' ⟨val,rfl,hr,hb⟩;exact hK val w' (gs6 rfl (fun w2 h2=>hr.below h2)) hb (bt hB hb) (nb6 rfl rfl)
   rotate_left
   ·have e28:=dv6 (hdep ⟨2,.data⟩ (by simp) rfl) rfl
    simp only [zf6,zf7]at e28;generalize f 28=f28 at*;subst e28;go_simp;refine(z_One (H3.out.below hB)).mono ?_;rintro e0 w' ⟨val,rfl,hr,hb⟩;exact hK val w' (gs6 rfl (fun w2 h2=>hr.below h2)) hb (bt hB hb) (nb6 rfl rfl)
   ·have hbl:=blk1 wx [.bool false,.slice none 0 0,.slice none 0 0,.int .i64 0,.bool false,.int .u64 0,.slice none 0 0,.slice none 0 0] 32
    go_simp;exact hK _ _ (gb6 rfl hB.size hbl.2) hbl.1 (bt hB hbl.1) (fun _=>⟨_,rfl,le_refl _⟩)
   ·have hbl:=blk1 wx [.bool false,.slice none 0 0,.slice none 0 0,.int .i64 0,.bool false,.int .u64 0,.slice none 0 0,.slice none 0 0] 32
    go_simp;exact hK _ _ (gb6 rfl hB.size hbl.2) hbl.1 (bt hB hbl.1) (fun _=>⟨_,rfl,le_refl _⟩)
   all_goals simp [gOf6,Sq.holds,Region.binds]at hdep
   all_goals try simp only [hdep]at hK⊢
   all_goals go_simp
   all_goals exact hK _ wx (gv6 rfl) (Below.refl _ _) hB (nb6 rfl rfl)
  case fin3=>
   intro f wx hB hG hne;obtain⟨gZ,eZ,hgZ,csZ⟩:=db6 (a:=f 13) (hG 4 (by decide)) rfl;obtain⟨gO,eO,hgO,csO⟩:=db6 (a:=f 14) (hG 5 (by decide)) rfl;have nZO:gZ≠gO:=fun e=>hne 4 5 (by decide) (by decide) rfl rfl (by decide) (by show f 13=f 14;rw [eZ,eO,e])
   have e27:RZ (zeroR r) wx (f 27):=ds6 (hG 1 (by decide)) rfl;have e29:RZ (oneR r) wx (f 29):=ds6 (hG 3 (by decide)) rfl;clear hG hne;simp only [frontAct,zf1,zf2,zf3,zf4,zf5];generalize f 27=f27 at*
   generalize f 29=f29 at*
   generalize f 13=f13 at*;subst eZ;generalize f 14=f14 at*;subst eO;obtain⟨lz,rfl,hz⟩:=e27;obtain⟨lo,rfl,ho⟩:=e29;obtain⟨mb,mA,mn,mc,mB,mm,me,mk,mi,mS,mP,mp,mr,mQ,mq,mw,rfl⟩:=hz.isW8;obtain⟨ob,oA,on,oc,oB,om,oe,ok,oi,oS,oP,op,or,oQ,oq,ow,rfl⟩:=ho.isW8;have hro:=Qca H3.out.eq;have hB5:Below W5.heap.size W5 wx:=Qge hB;obtain⟨s1,s2,s3,s4⟩:=Qec (l:=[.bool mb,.slice mA mn mc,.slice mB mm me,.int .i64 mk,.bool mi,.int .u64 mS,.slice mP mp mr,.slice mQ mq mw]) csZ rfl Qbx rfl;have csO1:=s4 gO _ _ (Ne.symm nZO) csO;obtain⟨t1,t2,t3,t4⟩:=Qec (l:=[.bool ob,.slice oA on oc,.slice oB om oe,.int .i64 ok,.bool oi,.int .u64 oS,.slice oP op or,.slice oQ oq ow]) csO1 rfl Qbx rfl;have HBO:=hid ((hB5.trans (s3.mono hgZ)).trans (t3.mono hgO));replace HA:=hid ((((HA.out.keep hB5).bch hro FA.out.1 s2).bch hro FA.out.1 t2));replace HB:=hid ((((HB.out.keep hB5).bch hro FB.out.1 s2).bch hro FB.out.1 t2));replace HC:=hid ((((HC.out.keep hB5).bch hro FC.out.1 s2).bch hro FC.out.1 t2));have HZ:=hid ((hz.bch hro (Qem hro) s2).bch hro (Qem hro) t2);have HN:=hid ((ho.bch hro (Qoc hro) s2).bch hro (Qoc hro) t2);replace KA:=hid (KA.out.below HBO.out KA.out.lt);replace KB:=hid (KB.out.below HBO.out KB.out.lt);replace KC:=hid (KC.out.below HBO.out KC.out.lt);have KZ:=hid (t4 gZ _ _ nZO s1);have KO:=hid t1;clear hz ho s1 s2 s3 s4 t1 t2 t3 t4 csO hgZ hgO hB hB5 hro;obtain⟨x0,x1,x2,x3,x4,x5,x6,x7⟩:=csZ.c8;obtain⟨y0,y1,y2,y3,y4,y5,y6,y7⟩:=csZ.f8;refine wpAny_ready (rs:=[6]) (by kernel_rfl) (by simp) ?_;refine AllReady.cons rfl (fun K hK=>?_) AllReady.nil;have HQ:=hid hK;clear hK;go_simp;refine HQ.out _ _ ?_;clear HQ K;rw [setL8];clear x0 x1 x2 x3 x4 x5 x6 x7 y0 y1 y2 y3 y4 y5 y6 y7;generalize setL wx gZ 0 [.bool mb,.slice mA mn mc,.slice mB mm me,.int .i64 mk,.bool mi,.int .u64 mS,.slice mP mp mr,.slice mQ mq mw]=wy at*
   obtain⟨x0,x1,x2,x3,x4,x5,x6,x7⟩:=csO1.c8;obtain⟨y0,y1,y2,y3,y4,y5,y6,y7⟩:=csO1.f8;refine wpAny_ready (rs:=[7]) (by kernel_rfl) (by simp) ?_;refine AllReady.cons rfl (fun K hK=>?_) AllReady.nil;have HQ:=hid hK;clear hK;go_simp;refine HQ.out _ _ ?_;clear HQ K;rw [setL8];clear x0 x1 x2 x3 x4 x5 x6 x7 y0 y1 y2 y3 y4 y5 y6 y7;generalize setL wy gO 0 [.bool ob,.slice oA on oc,.slice oB om oe,.int .i64 ok,.bool oi,.int .u64 oS,.slice oP op or,.slice oQ oq ow]=W8 at*
   refine wpAny_done (by kernel_rfl) ?_ _;clear csZ csO1 nZO;go_wp2_with fail
   have hdr:Below W8.heap.size W8 W8.drew:=(Below.refl _ _).drew;have hb58:Below W5.heap.size W5 W8:=HBO.out;have HT8:Hid (∀wx,Below W8.drew.heap.size W8.drew wx->Txt wx):=hid (fun wx hB=>by
    have h1:=bt HW.out HB05.out;have h2:=bt h1 hb58;have h3:=bt h2 hdr;exact HT.out.below (bt h3 hB))
   have H8:Hid (Ring3 r kk l A n c W8.drew):=hid ((((H30.out.below HB05.out).below hb58)).below hdr);have HC8:=hid (((HC5.out.below hb58 HC5.out.lt)).drew);clear KX;have KX:Hid (∀wx,Below W8.drew.heap.size W8.drew wx->wx.cell? ⟨g9,0,none⟩=some (.int .i64 kk)/\wx.cell? ⟨g9,1,none⟩=some (.slice A n c)):=hid (fun wx hB=>⟨(HC8.out.below hB HC8.out.lt).cell rfl,(HC8.out.below hB HC8.out.lt).cell rfl⟩);replace KA:=hid KA.out.drew;replace KB:=hid KB.out.drew;replace KC:=hid KC.out.drew;replace KZ:=hid KZ.out.drew;replace KO:=hid KO.out.drew;have QA:Hid (∀wx,Below W8.drew.heap.size W8.drew wx->RZ za wx (.agg #[.bool ab,.slice aA an ac,.slice aB am ae,.int .i64 ak,.bool ai,.int .u64 aS,.slice aP ap ar,.slice aQ aq aw])):=hid (fun wx hB=>⟨_,rfl,(HA.out.keep hdr).keep hB⟩);have QB:Hid (∀wx,Below W8.drew.heap.size W8.drew wx->RZ zb wx (.agg #[.bool bb,.slice bA bn bc,.slice bB bm be,.int .i64 bk,.bool bi,.int .u64 bS,.slice bP bp br,.slice bQ bq bw])):=hid (fun wx hB=>⟨_,rfl,(HB.out.keep hdr).keep hB⟩);have QC:Hid (∀wx,Below W8.drew.heap.size W8.drew wx->RZ zc wx (.agg #[.bool cb,.slice cA cn cc,.slice cB cm ce,.int .i64 ck,.bool ci,.int .u64 cS,.slice cP cp cr,.slice cQ cq cw])):=hid (fun wx hB=>⟨_,rfl,(HC.out.keep hdr).keep hB⟩);have QZ:Hid (∀wx,Below W8.drew.heap.size W8.drew wx->RZ (zeroR r) wx (.agg #[.bool mb,.slice mA mn mc,.slice mB mm me,.int .i64 mk,.bool mi,.int .u64 mS,.slice mP mp mr,.slice mQ mq mw])):=hid (fun wx hB=>⟨_,rfl,(HZ.out.keep hdr).keep hB⟩);have QO:Hid (∀wx,Below W8.drew.heap.size W8.drew wx->RZ (oneR r) wx (.agg #[.bool ob,.slice oA on oc,.slice oB om oe,.int .i64 ok,.bool oi,.int .u64 oS,.slice oP op or,.slice oQ oq ow])):=hid (fun wx hB=>⟨_,rfl,(HN.out.keep hdr).keep hB⟩);have hro:=hid (Qca H8.out.eq);have HEND:Hid (∀wx,Below W8.drew.heap.size W8.drew wx->Below w.heap.size w wx):=hid (fun wx hB=>by
    have h1:=bt HW.out HB05.out;have h2:=bt h1 hb58;have h3:=bt h2 hdr;exact bt h3 hB)
   clear hdr hb58 HA HB HC HZ HN HC5 HC8 H3 H5 H30 HBO HBN HB05 HW HT HSZ HO HV;refine Qag 102 (30::31::32::33::34::35::36::37::38::39::40::41::42::43::44::45::46::47::48::49::50::51::52::53::54::55::56::57::58::59::60::61::62::63::64::65::66::67::68::69::70::71::72::73::74::75::76::77::78::79::80::81::82::83::84::85::86::87::88::89::90::91::92::93::94::95::96::97::98::99::100::101::102::103::104::105::106::107::108::109::110::111::112::113::114::115::116::117::118::119::120::121::122::123::124::125::126::127::128::129::130::8::[]) (Sq.val (.bool true)::Sq.val (.bool true)::Sq.val (.agg #[.int .i64 kk,.slice A n c])::Sq.val (.agg #[.bool ab,.slice aA an ac,.slice aB am ae,.int .i64 ak,.bool ai,.int .u64 aS,.slice aP ap ar,.slice aQ aq aw])::Sq.val (.agg #[.bool bb,.slice bA bn bc,.slice bB bm be,.int .i64 bk,.bool bi,.int .u64 bS,.slice bP bp br,.slice bQ bq bw])::Sq.st (fun w a=>RZ (plusR r za zb) w a)::Sq.val (.agg #[.int .i64 kk,.slice A n c])::Sq.val (.agg #[.bool bb,.slice bA bn bc,.slice bB bm be,.int .i64 bk,.bool bi,.int .u64 bS,.slice bP bp br,.slice bQ bq bw])::Sq.val (.agg #[.bool ab,.slice aA an ac,.slice aB am ae,.int .i64 ak,.bool ai,.int .u64 aS,.slice aP ap ar,.slice aQ aq aw])::Sq.st (fun w a=>RZ (plusR r zb za) w a)::Sq.val (.bool true)::Sq.val (.bool true)::Sq.val (.bool true)::Sq.val (.agg #[.int .i64 kk,.slice A n c])::Sq.val (.agg #[.bool ab,.slice aA an ac,.slice aB am ae,.int .i64 ak,.bool ai,.int .u64 aS,.slice aP ap ar,.slice aQ aq aw])::Sq.val (.agg #[.bool bb,.slice bA bn bc,.slice bB bm be,.int .i64 bk,.bool bi,.int .u64 bS,.slice bP bp br,.slice bQ bq bw])::Sq.st (fun w a=>RZ (timesR r za zb) w a)::Sq.val (.agg #[.int .i64 kk,.slice A n c])::Sq.val (.agg #[.bool bb,.slice bA bn bc,.slice bB bm be,.int .i64 bk,.bool bi,.int .u64 bS,.slice bP bp br,.slice bQ bq bw])::Sq.val (.agg #[.bool ab,.slice aA an ac,.slice aB am ae,.int .i64 ak,.bool ai,.int .u64 aS,.slice aP ap ar,.slice aQ aq aw])::Sq.st (fun w a=>RZ (timesR r zb za) w a)::Sq.val (.bool true)::Sq.val (.bool true)::Sq.val (.bool true)::Sq.val (.agg #[.int .i64 kk,.slice A n c])::Sq.val (.agg #[.int .i64 kk,.slice A n c])::Sq.val (.agg #[.bool ab,.slice aA an ac,.slice aB am ae,.int .i64 ak,.bool ai,.int .u64 aS,.slice aP ap ar,.slice aQ aq aw])::Sq.val (.agg #[.bool bb,.slice bA bn bc,.slice bB bm be,.int .i64 bk,.bool bi,.int .u64 bS,.slice bP bp br,.slice bQ bq bw])::Sq.st (fun w a=>RZ (plusR r za zb) w a)::Sq.val (.agg #[.bool cb,.slice cA cn cc,.slice cB cm ce,.int .i64 ck,.bool ci,.int .u64 cS,.slice cP cp cr,.slice cQ cq cw])::Sq.st (fun w a=>RZ (plusR r (plusR r za zb) zc) w a)::Sq.val (.agg #[.int .i64 kk,.slice A n c])::Sq.val (.agg #[.bool ab,.slice aA an ac,.slice aB am ae,.int .i64 ak,.bool ai,.int .u64 aS,.slice aP ap ar,.slice aQ aq aw])::Sq.val (.agg #[.int .i64 kk,.slice A n c])::Sq.val (.agg #[.bool bb,.slice bA bn bc,.slice bB bm be,.int .i64 bk,.bool bi,.int .u64 bS,.slice bP bp br,.slice bQ bq bw])::Sq.val (.agg #[.bool cb,.slice cA cn cc,.slice cB cm ce,.int .i64 ck,.bool ci,.int .u64 cS,.slice cP cp cr,.slice cQ cq cw])::Sq.st (fun w a=>RZ (plusR r zb zc) w a)::Sq.st (fun w a=>RZ (plusR r za (plusR r zb zc)) w a)::Sq.val (.bool true)::Sq.val (.bool true)::Sq.val (.bool true)::Sq.val (.agg #[.int .i64 kk,.slice A n c])::Sq.val (.agg #[.int .i64 kk,.slice A n c])::Sq.val (.agg #[.bool ab,.slice aA an ac,.slice aB am ae,.int .i64 ak,.bool ai,.int .u64 aS,.slice aP ap ar,.slice aQ aq aw])::Sq.val (.agg #[.bool bb,.slice bA bn bc,.slice bB bm be,.int .i64 bk,.bool bi,.int .u64 bS,.slice bP bp br,.slice bQ bq bw])::Sq.st (fun w a=>RZ (timesR r za zb) w a)::Sq.val (.agg #[.bool cb,.slice cA cn cc,.slice cB cm ce,.int .i64 ck,.bool ci,.int .u64 cS,.slice cP cp cr,.slice cQ cq cw])::Sq.st (fun w a=>RZ (timesR r (timesR r za zb) zc) w a)::Sq.val (.agg #[.int .i64 kk,.slice A n c])::Sq.val (.agg #[.bool ab,.slice aA an ac,.slice aB am ae,.int .i64 ak,.bool ai,.int .u64 aS,.slice aP ap ar,.slice aQ aq aw])::Sq.val (.agg #[.int .i64 kk,.slice A n c])::Sq.val (.agg #[.bool bb,.slice bA bn bc,.slice bB bm be,.int .i64 bk,.bool bi,.int .u64 bS,.slice bP bp br,.slice bQ bq bw])::Sq.val (.agg #[.bool cb,.slice cA cn cc,.slice cB cm ce,.int .i64 ck,.bool ci,.int .u64 cS,.slice cP cp cr,.slice cQ cq cw])::Sq.st (fun w a=>RZ (timesR r zb zc) w a)::Sq.st (fun w a=>RZ (timesR r za (timesR r zb zc)) w a)::Sq.val (.bool true)::Sq.val (.bool true)::Sq.val (.bool true)::Sq.val (.agg #[.int .i64 kk,.slice A n c])::Sq.val (.agg #[.bool ab,.slice aA an ac,.slice aB am ae,.int .i64 ak,.bool ai,.int .u64 aS,.slice aP ap ar,.slice aQ aq aw])::Sq.val (.agg #[.int .i64 kk,.slice A n c])::Sq.val (.agg #[.bool bb,.slice bA bn bc,.slice bB bm be,.int .i64 bk,.bool bi,.int .u64 bS,.slice bP bp br,.slice bQ bq bw])::Sq.val (.agg #[.bool cb,.slice cA cn cc,.slice cB cm ce,.int .i64 ck,.bool ci,.int .u64 cS,.slice cP cp cr,.slice cQ cq cw])::Sq.st (fun w a=>RZ (plusR r zb zc) w a)::Sq.st (fun w a=>RZ (timesR r za (plusR r zb zc)) w a)::Sq.val (.agg #[.int .i64 kk,.slice A n c])::Sq.val (.agg #[.int .i64 kk,.slice A n c])::Sq.val (.agg #[.bool ab,.slice aA an ac,.slice aB am ae,.int .i64 ak,.bool ai,.int .u64 aS,.slice aP ap ar,.slice aQ aq aw])::Sq.val (.agg #[.bool bb,.slice bA bn bc,.slice bB bm be,.int .i64 bk,.bool bi,.int .u64 bS,.slice bP bp br,.slice bQ bq bw])::Sq.st (fun w a=>RZ (timesR r za zb) w a)::Sq.val (.agg #[.int .i64 kk,.slice A n c])::Sq.val (.agg #[.bool ab,.slice aA an ac,.slice aB am ae,.int .i64 ak,.bool ai,.int .u64 aS,.slice aP ap ar,.slice aQ aq aw])::Sq.val (.agg #[.bool cb,.slice cA cn cc,.slice cB cm ce,.int .i64 ck,.bool ci,.int .u64 cS,.slice cP cp cr,.slice cQ cq cw])::Sq.st (fun w a=>RZ (timesR r za zc) w a)::Sq.st (fun w a=>RZ (plusR r (timesR r za zb) (timesR r za zc)) w a)::Sq.val (.bool true)::Sq.val (.bool true)::Sq.val (.bool true)::Sq.val (.agg #[.int .i64 kk,.slice A n c])::Sq.val (.agg #[.bool ab,.slice aA an ac,.slice aB am ae,.int .i64 ak,.bool ai,.int .u64 aS,.slice aP ap ar,.slice aQ aq aw])::Sq.val (.agg #[.bool mb,.slice mA mn mc,.slice mB mm me,.int .i64 mk,.bool mi,.int .u64 mS,.slice mP mp mr,.slice mQ mq mw])::Sq.st (fun w a=>RZ (plusR r za (zeroR r)) w a)::Sq.val (.agg #[.bool ab,.slice aA an ac,.slice aB am ae,.int .i64 ak,.bool ai,.int .u64 aS,.slice aP ap ar,.slice aQ aq aw])::Sq.val (.bool true)::Sq.val (.bool true)::Sq.val (.bool true)::Sq.val (.agg #[.int .i64 kk,.slice A n c])::Sq.val (.agg #[.bool ab,.slice aA an ac,.slice aB am ae,.int .i64 ak,.bool ai,.int .u64 aS,.slice aP ap ar,.slice aQ aq aw])::Sq.val (.agg #[.bool ob,.slice oA on oc,.slice oB om oe,.int .i64 ok,.bool oi,.int .u64 oS,.slice oP op or,.slice oQ oq ow])::Sq.st (fun w a=>RZ (timesR r za (oneR r)) w a)::Sq.val (.agg #[.bool ab,.slice aA an ac,.slice aB am ae,.int .i64 ak,.bool ai,.int .u64 aS,.slice aP ap ar,.slice aQ aq aw])::Sq.val (.bool true)::Sq.val (.bool true)::Sq.val (.bool true)::Sq.val (.agg #[.int .i64 kk,.slice A n c])::Sq.val (.agg #[.bool ab,.slice aA an ac,.slice aB am ae,.int .i64 ak,.bool ai,.int .u64 aS,.slice aP ap ar,.slice aQ aq aw])::Sq.val (.agg #[.bool mb,.slice mA mn mc,.slice mB mm me,.int .i64 mk,.bool mi,.int .u64 mS,.slice mP mp mr,.slice mQ mq mw])::Sq.st (fun w a=>RZ (timesR r za (zeroR r)) w a)::Sq.val (.agg #[.bool mb,.slice mA mn mc,.slice mB mm me,.int .i64 mk,.bool mi,.int .u64 mS,.slice mP mp mr,.slice mQ mq mw])::Sq.val (.bool true)::Sq.val (.bool true)::Sq.val (.bool true)::[]) (by kernel_rfl) (by kernel_rfl) (by kernel_rfl) (by kernel_rfl) ?step4 0 (by kernel_rfl) _ rfl ?fin4
   case step4=>
    intro i hi oi ho f wx hB hdep K hK;simp only [frontAct,zf1,zf2,zf3,zf4,zf5]at hK⊢;iterate 102 rcases lt_or_eq_of_le (le_of_lt_succ hi)with hi|rfl
    exact absurd hi (not_lt_zero _);all_goals
     obtain rfl:=Option.some.inj ho;clear ho;simp only [Act.put,zf3,zf4,zf5]at hK
    ·go_simp
     refine(Qxm wx (HT8.out wx hB)).mono ?_;rintro e0 w' ⟨rfl,hb⟩;exact hK (.bool true) w' (gv6 rfl) hb (bt hB hb) (nb6 rfl rfl)
    rotate_left
    obtain⟨y0,y1⟩:=KX.out wx hB;rotate_left
    obtain⟨y0,y1,y2,y3,y4,y5,y6,y7⟩:=(KA.out.below hB KA.out.lt).c8;rotate_left
    obtain⟨y0,y1,y2,y3,y4,y5,y6,y7⟩:=(KB.out.below hB KB.out.lt).c8;rotate_left
    ·have e31:=dv6 (hdep ⟨1,.guard⟩ (by simp) rfl) rfl
     have e32:=dv6 (hdep ⟨2,.data⟩ (by simp) rfl) rfl;have e33:=dv6 (hdep ⟨3,.data⟩ (by simp) rfl) rfl;have e34:=dv6 (hdep ⟨4,.data⟩ (by simp) rfl) rfl;simp only [zf6,zf7]at e31 e32 e33 e34;generalize f 31=f31 at*;subst e31;generalize f 32=f32 at*;subst e32;generalize f 33=f33 at*;subst e33;generalize f 34=f34 at*;subst e34;go_simp;refine(Qgh (H8.out.below hB) (Fit.atom FA.out) (Fit.atom FB.out) (QA.out wx hB) (QB.out wx hB)).mono ?_;rintro e0 w' ⟨val,rfl,hr,hb⟩;exact hK val w' (gs6 rfl (fun w2 h2=>hr.below h2)) hb (bt hB hb) (nb6 rfl rfl)
    obtain⟨y0,y1⟩:=KX.out wx hB;rotate_left
    obtain⟨y0,y1,y2,y3,y4,y5,y6,y7⟩:=(KB.out.below hB KB.out.lt).c8;rotate_left
    obtain⟨y0,y1,y2,y3,y4,y5,y6,y7⟩:=(KA.out.below hB KA.out.lt).c8;rotate_left
    ·have e31:=dv6 (hdep ⟨1,.guard⟩ (by simp) rfl) rfl
     have e36:=dv6 (hdep ⟨6,.data⟩ (by simp) rfl) rfl;have e37:=dv6 (hdep ⟨7,.data⟩ (by simp) rfl) rfl;have e38:=dv6 (hdep ⟨8,.data⟩ (by simp) rfl) rfl;simp only [zf6,zf7]at e31 e36 e37 e38;generalize f 31=f31 at*;subst e31;generalize f 36=f36 at*;subst e36;generalize f 37=f37 at*;subst e37;generalize f 38=f38 at*;subst e38;go_simp;refine(Qgh (H8.out.below hB) (Fit.atom FB.out) (Fit.atom FA.out) (QB.out wx hB) (QA.out wx hB)).mono ?_;rintro e0 w' ⟨val,rfl,hr,hb⟩;exact hK val w' (gs6 rfl (fun w2 h2=>hr.below h2)) hb (bt hB hb) (nb6 rfl rfl)
    ·have e31:=dv6 (hdep ⟨1,.guard⟩ (by simp) rfl) rfl
     have e35:=ds6 (hdep ⟨5,.data⟩ (by simp) rfl) rfl;have e39:=ds6 (hdep ⟨9,.data⟩ (by simp) rfl) rfl;simp only [zf6,zf7]at e31 e35 e39;generalize f 31=f31 at*;subst e31;replace e35:=(show RZ (plusR r za zb) wx (f 35)from e35);generalize f 35=f35 at*
     replace e39:=(show RZ (plusR r zb za) wx (f 39)from e39);generalize f 39=f39 at*
     go_simp;refine(Qed hro.out (Qrf hro.out FA.out.1 FB.out.1) (Big.plus hro.out (Fit.atom FA.out) (Fit.atom FB.out)).1 (Big.plus hro.out (Fit.atom FA.out) (Fit.atom FB.out)).2 (by decide) e35 e39).mono ?_;rintro e0 w' ⟨rfl,hb⟩;exact hK (.bool true) w' (gv6 rfl) hb (bt hB hb) (nb6 rfl rfl)
    rotate_left 2
    obtain⟨y0,y1⟩:=KX.out wx hB;rotate_left
    obtain⟨y0,y1,y2,y3,y4,y5,y6,y7⟩:=(KA.out.below hB KA.out.lt).c8;rotate_left
    obtain⟨y0,y1,y2,y3,y4,y5,y6,y7⟩:=(KB.out.below hB KB.out.lt).c8;rotate_left
    ·have e42:=dv6 (hdep ⟨12,.guard⟩ (by simp) rfl) rfl
     have e43:=dv6 (hdep ⟨13,.data⟩ (by simp) rfl) rfl;have e44:=dv6 (hdep ⟨14,.data⟩ (by simp) rfl) rfl;have e45:=dv6 (hdep ⟨15,.data⟩ (by simp) rfl) rfl;simp only [zf6,zf7]at e42 e43 e44 e45;generalize f 42=f42 at*;subst e42;generalize f 43=f43 at*;subst e43;generalize f 44=f44 at*;subst e44;generalize f 45=f45 at*;subst e45;go_simp;refine(Qcu (H8.out.below hB) (Fit.atom FA.out) (Fit.atom FB.out) (QA.out wx hB) (QB.out wx hB)).mono ?_;rintro e0 w' ⟨val,rfl,hr,hb⟩;exact hK val w' (gs6 rfl (fun w2 h2=>hr.below h2)) hb (bt hB hb) (nb6 rfl rfl)
    obtain⟨y0,y1⟩:=KX.out wx hB;rotate_left
    obtain⟨y0,y1,y2,y3,y4,y5,y6,y7⟩:=(KB.out.below hB KB.out.lt).c8;rotate_left
    obtain⟨y0,y1,y2,y3,y4,y5,y6,y7⟩:=(KA.out.below hB KA.out.lt).c8;rotate_left
    ·have e42:=dv6 (hdep ⟨12,.guard⟩ (by simp) rfl) rfl
     have e47:=dv6 (hdep ⟨17,.data⟩ (by simp) rfl) rfl;have e48:=dv6 (hdep ⟨18,.data⟩ (by simp) rfl) rfl;have e49:=dv6 (hdep ⟨19,.data⟩ (by simp) rfl) rfl;simp only [zf6,zf7]at e42 e47 e48 e49;generalize f 42=f42 at*;subst e42;generalize f 47=f47 at*;subst e47;generalize f 48=f48 at*;subst e48;generalize f 49=f49 at*;subst e49;go_simp;refine(Qcu (H8.out.below hB) (Fit.atom FB.out) (Fit.atom FA.out) (QB.out wx hB) (QA.out wx hB)).mono ?_;rintro e0 w' ⟨val,rfl,hr,hb⟩;exact hK val w' (gs6 rfl (fun w2 h2=>hr.below h2)) hb (bt hB hb) (nb6 rfl rfl)
    ·have e42:=dv6 (hdep ⟨12,.guard⟩ (by simp) rfl) rfl
     have e46:=ds6 (hdep ⟨16,.data⟩ (by simp) rfl) rfl;have e50:=ds6 (hdep ⟨20,.data⟩ (by simp) rfl) rfl;simp only [zf6,zf7]at e42 e46 e50;generalize f 42=f42 at*;subst e42;replace e46:=(show RZ (timesR r za zb) wx (f 46)from e46);generalize f 46=f46 at*
     replace e50:=(show RZ (timesR r zb za) wx (f 50)from e50);generalize f 50=f50 at*
     go_simp;refine(Qed hro.out (Qod hro.out FA.out.1 FB.out.1) (Big.times hro.out (Fit.atom FA.out) (Fit.atom FB.out)).1 (Big.times hro.out (Fit.atom FA.out) (Fit.atom FB.out)).2 (by decide) e46 e50).mono ?_;rintro e0 w' ⟨rfl,hb⟩;exact hK (.bool true) w' (gv6 rfl) hb (bt hB hb) (nb6 rfl rfl)
    rotate_left 2
    obtain⟨y0,y1⟩:=KX.out wx hB;rotate_left
    obtain⟨y0,y1⟩:=KX.out wx hB;rotate_left
    obtain⟨y0,y1,y2,y3,y4,y5,y6,y7⟩:=(KA.out.below hB KA.out.lt).c8;rotate_left
    obtain⟨y0,y1,y2,y3,y4,y5,y6,y7⟩:=(KB.out.below hB KB.out.lt).c8;rotate_left
    ·have e53:=dv6 (hdep ⟨23,.guard⟩ (by simp) rfl) rfl
     have e55:=dv6 (hdep ⟨25,.data⟩ (by simp) rfl) rfl;have e56:=dv6 (hdep ⟨26,.data⟩ (by simp) rfl) rfl;have e57:=dv6 (hdep ⟨27,.data⟩ (by simp) rfl) rfl;simp only [zf6,zf7]at e53 e55 e56 e57;generalize f 53=f53 at*;subst e53;generalize f 55=f55 at*;subst e55;generalize f 56=f56 at*;subst e56;generalize f 57=f57 at*;subst e57;go_simp;refine(Qgh (H8.out.below hB) (Fit.atom FA.out) (Fit.atom FB.out) (QA.out wx hB) (QB.out wx hB)).mono ?_;rintro e0 w' ⟨val,rfl,hr,hb⟩;exact hK val w' (gs6 rfl (fun w2 h2=>hr.below h2)) hb (bt hB hb) (nb6 rfl rfl)
    obtain⟨y0,y1,y2,y3,y4,y5,y6,y7⟩:=(KC.out.below hB KC.out.lt).c8;rotate_left
    ·have e53:=dv6 (hdep ⟨23,.guard⟩ (by simp) rfl) rfl
     have e54:=dv6 (hdep ⟨24,.data⟩ (by simp) rfl) rfl;have e58:=ds6 (hdep ⟨28,.data⟩ (by simp) rfl) rfl;have e59:=dv6 (hdep ⟨29,.data⟩ (by simp) rfl) rfl;simp only [zf6,zf7]at e53 e54 e58 e59;generalize f 53=f53 at*;subst e53;generalize f 54=f54 at*;subst e54;replace e58:=(show RZ (plusR r za zb) wx (f 58)from e58);generalize f 58=f58 at*
     generalize f 59=f59 at*;subst e59;go_simp;refine(Qgh (H8.out.below hB) (Fit.plus hro.out FA.out FB.out) (Fit.atom FC.out) e58 (QC.out wx hB)).mono ?_;rintro e0 w' ⟨val,rfl,hr,hb⟩;exact hK val w' (gs6 rfl (fun w2 h2=>hr.below h2)) hb (bt hB hb) (nb6 rfl rfl)
    obtain⟨y0,y1⟩:=KX.out wx hB;rotate_left
    obtain⟨y0,y1,y2,y3,y4,y5,y6,y7⟩:=(KA.out.below hB KA.out.lt).c8;rotate_left
    obtain⟨y0,y1⟩:=KX.out wx hB;rotate_left
    obtain⟨y0,y1,y2,y3,y4,y5,y6,y7⟩:=(KB.out.below hB KB.out.lt).c8;rotate_left
    obtain⟨y0,y1,y2,y3,y4,y5,y6,y7⟩:=(KC.out.below hB KC.out.lt).c8;rotate_left
    ·have e53:=dv6 (hdep ⟨23,.guard⟩ (by simp) rfl) rfl
     have e63:=dv6 (hdep ⟨33,.data⟩ (by simp) rfl) rfl;have e64:=dv6 (hdep ⟨34,.data⟩ (by simp) rfl) rfl;have e65:=dv6 (hdep ⟨35,.data⟩ (by simp) rfl) rfl;simp only [zf6,zf7]at e53 e63 e64 e65;generalize f 53=f53 at*;subst e53;generalize f 63=f63 at*;subst e63;generalize f 64=f64 at*;subst e64;generalize f 65=f65 at*;subst e65;go_simp;refine(Qgh (H8.out.below hB) (Fit.atom FB.out) (Fit.atom FC.out) (QB.out wx hB) (QC.out wx hB)).mono ?_;rintro e0 w' ⟨val,rfl,hr,hb⟩;exact hK val w' (gs6 rfl (fun w2 h2=>hr.below h2)) hb (bt hB hb) (nb6 rfl rfl)
    ·have e53:=dv6 (hdep ⟨23,.guard⟩ (by simp) rfl) rfl
     have e61:=dv6 (hdep ⟨31,.data⟩ (by simp) rfl) rfl;have e62:=dv6 (hdep ⟨32,.data⟩ (by simp) rfl) rfl;have e66:=ds6 (hdep ⟨36,.data⟩ (by simp) rfl) rfl;simp only [zf6,zf7]at e53 e61 e62 e66;generalize f 53=f53 at*;subst e53;generalize f 61=f61 at*;subst e61;generalize f 62=f62 at*;subst e62;replace e66:=(show RZ (plusR r zb zc) wx (f 66)from e66);generalize f 66=f66 at*
     go_simp;refine(Qgh (H8.out.below hB) (Fit.atom FA.out) (Fit.plus hro.out FB.out FC.out) (QA.out wx hB) e66).mono ?_;rintro e0 w' ⟨val,rfl,hr,hb⟩;exact hK val w' (gs6 rfl (fun w2 h2=>hr.below h2)) hb (bt hB hb) (nb6 rfl rfl)
    ·have e53:=dv6 (hdep ⟨23,.guard⟩ (by simp) rfl) rfl
     have e60:=ds6 (hdep ⟨30,.data⟩ (by simp) rfl) rfl;have e67:=ds6 (hdep ⟨37,.data⟩ (by simp) rfl) rfl;simp only [zf6,zf7]at e53 e60 e67;generalize f 53=f53 at*;subst e53;replace e60:=(show RZ (plusR r (plusR r za zb) zc) wx (f 60)from e60);generalize f 60=f60 at*
     replace e67:=(show RZ (plusR r za (plusR r zb zc)) wx (f 67)from e67);generalize f 67=f67 at*
     go_simp;refine(Qed hro.out (Qoe hro.out FA.out.1 FB.out.1 FC.out.1) (Big.plus hro.out (Fit.plus hro.out FA.out FB.out) (Fit.atom FC.out)).1 (Big.plus hro.out (Fit.plus hro.out FA.out FB.out) (Fit.atom FC.out)).2 (by decide) e60 e67).mono ?_;rintro e0 w' ⟨rfl,hb⟩;exact hK (.bool true) w' (gv6 rfl) hb (bt hB hb) (nb6 rfl rfl)
    rotate_left 2
    obtain⟨y0,y1⟩:=KX.out wx hB;rotate_left
    obtain⟨y0,y1⟩:=KX.out wx hB;rotate_left
    obtain⟨y0,y1,y2,y3,y4,y5,y6,y7⟩:=(KA.out.below hB KA.out.lt).c8;rotate_left
    obtain⟨y0,y1,y2,y3,y4,y5,y6,y7⟩:=(KB.out.below hB KB.out.lt).c8;rotate_left
    ·have e70:=dv6 (hdep ⟨40,.guard⟩ (by simp) rfl) rfl
     have e72:=dv6 (hdep ⟨42,.data⟩ (by simp) rfl) rfl;have e73:=dv6 (hdep ⟨43,.data⟩ (by simp) rfl) rfl;have e74:=dv6 (hdep ⟨44,.data⟩ (by simp) rfl) rfl;simp only [zf6,zf7]at e70 e72 e73 e74;generalize f 70=f70 at*;subst e70;generalize f 72=f72 at*;subst e72;generalize f 73=f73 at*;subst e73;generalize f 74=f74 at*;subst e74;go_simp;refine(Qcu (H8.out.below hB) (Fit.atom FA.out) (Fit.atom FB.out) (QA.out wx hB) (QB.out wx hB)).mono ?_;rintro e0 w' ⟨val,rfl,hr,hb⟩;exact hK val w' (gs6 rfl (fun w2 h2=>hr.below h2)) hb (bt hB hb) (nb6 rfl rfl)
    obtain⟨y0,y1,y2,y3,y4,y5,y6,y7⟩:=(KC.out.below hB KC.out.lt).c8;rotate_left
    ·have e70:=dv6 (hdep ⟨40,.guard⟩ (by simp) rfl) rfl
     have e71:=dv6 (hdep ⟨41,.data⟩ (by simp) rfl) rfl;have e75:=ds6 (hdep ⟨45,.data⟩ (by simp) rfl) rfl;have e76:=dv6 (hdep ⟨46,.data⟩ (by simp) rfl) rfl;simp only [zf6,zf7]at e70 e71 e75 e76;generalize f 70=f70 at*;subst e70;generalize f 71=f71 at*;subst e71;replace e75:=(show RZ (timesR r za zb) wx (f 75)from e75);generalize f 75=f75 at*
     generalize f 76=f76 at*;subst e76;go_simp;refine(Qcu (H8.out.below hB) (Fit.times hro.out FA.out FB.out) (Fit.atom FC.out) e75 (QC.out wx hB)).mono ?_;rintro e0 w' ⟨val,rfl,hr,hb⟩;exact hK val w' (gs6 rfl (fun w2 h2=>hr.below h2)) hb (bt hB hb) (nb6 rfl rfl)
    obtain⟨y0,y1⟩:=KX.out wx hB;rotate_left
    obtain⟨y0,y1,y2,y3,y4,y5,y6,y7⟩:=(KA.out.below hB KA.out.lt).c8;rotate_left
    obtain⟨y0,y1⟩:=KX.out wx hB;rotate_left
    obtain⟨y0,y1,y2,y3,y4,y5,y6,y7⟩:=(KB.out.below hB KB.out.lt).c8;rotate_left
    obtain⟨y0,y1,y2,y3,y4,y5,y6,y7⟩:=(KC.out.below hB KC.out.lt).c8;rotate_left
    ·have e70:=dv6 (hdep ⟨40,.guard⟩ (by simp) rfl) rfl
     have e80:=dv6 (hdep ⟨50,.data⟩ (by simp) rfl) rfl;have e81:=dv6 (hdep ⟨51,.data⟩ (by simp) rfl) rfl;have e82:=dv6 (hdep ⟨52,.data⟩ (by simp) rfl) rfl;simp only [zf6,zf7]at e70 e80 e81 e82;generalize f 70=f70 at*;subst e70;generalize f 80=f80 at*;subst e80;generalize f 81=f81 at*;subst e81;generalize f 82=f82 at*;subst e82;go_simp;refine(Qcu (H8.out.below hB) (Fit.atom FB.out) (Fit.atom FC.out) (QB.out wx hB) (QC.out wx hB)).mono ?_;rintro e0 w' ⟨val,rfl,hr,hb⟩;exact hK val w' (gs6 rfl (fun w2 h2=>hr.below h2)) hb (bt hB hb) (nb6 rfl rfl)
    ·have e70:=dv6 (hdep ⟨40,.guard⟩ (by simp) rfl) rfl
     have e78:=dv6 (hdep ⟨48,.data⟩ (by simp) rfl) rfl;have e79:=dv6 (hdep ⟨49,.data⟩ (by simp) rfl) rfl;have e83:=ds6 (hdep ⟨53,.data⟩ (by simp) rfl) rfl;simp only [zf6,zf7]at e70 e78 e79 e83;generalize f 70=f70 at*;subst e70;generalize f 78=f78 at*;subst e78;generalize f 79=f79 at*;subst e79;replace e83:=(show RZ (timesR r zb zc) wx (f 83)from e83);generalize f 83=f83 at*
     go_simp;refine(Qcu (H8.out.below hB) (Fit.atom FA.out) (Fit.times hro.out FB.out FC.out) (QA.out wx hB) e83).mono ?_;rintro e0 w' ⟨val,rfl,hr,hb⟩;exact hK val w' (gs6 rfl (fun w2 h2=>hr.below h2)) hb (bt hB hb) (nb6 rfl rfl)
    ·have e70:=dv6 (hdep ⟨40,.guard⟩ (by simp) rfl) rfl
     have e77:=ds6 (hdep ⟨47,.data⟩ (by simp) rfl) rfl;have e84:=ds6 (hdep ⟨54,.data⟩ (by simp) rfl) rfl;simp only [zf6,zf7]at e70 e77 e84;generalize f 70=f70 at*;subst e70;replace e77:=(show RZ (timesR r (timesR r za zb) zc) wx (f 77)from e77);generalize f 77=f77 at*
     replace e84:=(show RZ (timesR r za (timesR r zb zc)) wx (f 84)from e84);generalize f 84=f84 at*
     go_simp;refine(Qed hro.out (Qmf hro.out FA.out.1 FB.out.1 FC.out.1) (Big.times hro.out (Fit.times hro.out FA.out FB.out) (Fit.atom FC.out)).1 (Big.times hro.out (Fit.times hro.out FA.out FB.out) (Fit.atom FC.out)).2 (by decide) e77 e84).mono ?_;rintro e0 w' ⟨rfl,hb⟩;exact hK (.bool true) w' (gv6 rfl) hb (bt hB hb) (nb6 rfl rfl)
    rotate_left 2
    obtain⟨y0,y1⟩:=KX.out wx hB;rotate_left
    obtain⟨y0,y1,y2,y3,y4,y5,y6,y7⟩:=(KA.out.below hB KA.out.lt).c8;rotate_left
    obtain⟨y0,y1⟩:=KX.out wx hB;rotate_left
    obtain⟨y0,y1,y2,y3,y4,y5,y6,y7⟩:=(KB.out.below hB KB.out.lt).c8;rotate_left
    obtain⟨y0,y1,y2,y3,y4,y5,y6,y7⟩:=(KC.out.below hB KC.out.lt).c8;rotate_left
    ·have e87:=dv6 (hdep ⟨57,.guard⟩ (by simp) rfl) rfl
     have e90:=dv6 (hdep ⟨60,.data⟩ (by simp) rfl) rfl;have e91:=dv6 (hdep ⟨61,.data⟩ (by simp) rfl) rfl;have e92:=dv6 (hdep ⟨62,.data⟩ (by simp) rfl) rfl;simp only [zf6,zf7]at e87 e90 e91 e92;generalize f 87=f87 at*;subst e87;generalize f 90=f90 at*;subst e90;generalize f 91=f91 at*;subst e91;generalize f 92=f92 at*;subst e92;go_simp;refine(Qgh (H8.out.below hB) (Fit.atom FB.out) (Fit.atom FC.out) (QB.out wx hB) (QC.out wx hB)).mono ?_;rintro e0 w' ⟨val,rfl,hr,hb⟩;exact hK val w' (gs6 rfl (fun w2 h2=>hr.below h2)) hb (bt hB hb) (nb6 rfl rfl)
    ·have e87:=dv6 (hdep ⟨57,.guard⟩ (by simp) rfl) rfl
     have e88:=dv6 (hdep ⟨58,.data⟩ (by simp) rfl) rfl;have e89:=dv6 (hdep ⟨59,.data⟩ (by simp) rfl) rfl;have e93:=ds6 (hdep ⟨63,.data⟩ (by simp) rfl) rfl;simp only [zf6,zf7]at e87 e88 e89 e93;generalize f 87=f87 at*;subst e87;generalize f 88=f88 at*;subst e88;generalize f 89=f89 at*;subst e89;replace e93:=(show RZ (plusR r zb zc) wx (f 93)from e93);generalize f 93=f93 at*
     go_simp;refine(Qcu (H8.out.below hB) (Fit.atom FA.out) (Fit.plus hro.out FB.out FC.out) (QA.out wx hB) e93).mono ?_;rintro e0 w' ⟨val,rfl,hr,hb⟩;exact hK val w' (gs6 rfl (fun w2 h2=>hr.below h2)) hb (bt hB hb) (nb6 rfl rfl)
    obtain⟨y0,y1⟩:=KX.out wx hB;rotate_left
    obtain⟨y0,y1⟩:=KX.out wx hB;rotate_left
    obtain⟨y0,y1,y2,y3,y4,y5,y6,y7⟩:=(KA.out.below hB KA.out.lt).c8;rotate_left
    obtain⟨y0,y1,y2,y3,y4,y5,y6,y7⟩:=(KB.out.below hB KB.out.lt).c8;rotate_left
    ·have e87:=dv6 (hdep ⟨57,.guard⟩ (by simp) rfl) rfl
     have e96:=dv6 (hdep ⟨66,.data⟩ (by simp) rfl) rfl;have e97:=dv6 (hdep ⟨67,.data⟩ (by simp) rfl) rfl;have e98:=dv6 (hdep ⟨68,.data⟩ (by simp) rfl) rfl;simp only [zf6,zf7]at e87 e96 e97 e98;generalize f 87=f87 at*;subst e87;generalize f 96=f96 at*;subst e96;generalize f 97=f97 at*;subst e97;generalize f 98=f98 at*;subst e98;go_simp;refine(Qcu (H8.out.below hB) (Fit.atom FA.out) (Fit.atom FB.out) (QA.out wx hB) (QB.out wx hB)).mono ?_;rintro e0 w' ⟨val,rfl,hr,hb⟩;exact hK val w' (gs6 rfl (fun w2 h2=>hr.below h2)) hb (bt hB hb) (nb6 rfl rfl)
    obtain⟨y0,y1⟩:=KX.out wx hB;rotate_left
    obtain⟨y0,y1,y2,y3,y4,y5,y6,y7⟩:=(KA.out.below hB KA.out.lt).c8;rotate_left
    obtain⟨y0,y1,y2,y3,y4,y5,y6,y7⟩:=(KC.out.below hB KC.out.lt).c8;rotate_left
    ·have e87:=dv6 (hdep ⟨57,.guard⟩ (by simp) rfl) rfl
     have e100:=dv6 (hdep ⟨70,.data⟩ (by simp) rfl) rfl;have e101:=dv6 (hdep ⟨71,.data⟩ (by simp) rfl) rfl;have e102:=dv6 (hdep ⟨72,.data⟩ (by simp) rfl) rfl;simp only [zf6,zf7]at e87 e100 e101 e102;generalize f 87=f87 at*;subst e87;generalize f 100=f100 at*;subst e100;generalize f 101=f101 at*;subst e101;generalize f 102=f102 at*;subst e102;go_simp;refine(Qcu (H8.out.below hB) (Fit.atom FA.out) (Fit.atom FC.out) (QA.out wx hB) (QC.out wx hB)).mono ?_;rintro e0 w' ⟨val,rfl,hr,hb⟩;exact hK val w' (gs6 rfl (fun w2 h2=>hr.below h2)) hb (bt hB hb) (nb6 rfl rfl)
    ·have e87:=dv6 (hdep ⟨57,.guard⟩ (by simp) rfl) rfl
     have e95:=dv6 (hdep ⟨65,.data⟩ (by simp) rfl) rfl;have e99:=ds6 (hdep ⟨69,.data⟩ (by simp) rfl) rfl;have e103:=ds6 (hdep ⟨73,.data⟩ (by simp) rfl) rfl;simp only [zf6,zf7]at e87 e95 e99 e103;generalize f 87=f87 at*;subst e87;generalize f 95=f95 at*;subst e95;replace e99:=(show RZ (timesR r za zb) wx (f 99)from e99);generalize f 99=f99 at*
     replace e103:=(show RZ (timesR r za zc) wx (f 103)from e103);generalize f 103=f103 at*
     go_simp;refine(Qgh (H8.out.below hB) (Fit.times hro.out FA.out FB.out) (Fit.times hro.out FA.out FC.out) e99 e103).mono ?_;rintro e0 w' ⟨val,rfl,hr,hb⟩;exact hK val w' (gs6 rfl (fun w2 h2=>hr.below h2)) hb (bt hB hb) (nb6 rfl rfl)
    ·have e87:=dv6 (hdep ⟨57,.guard⟩ (by simp) rfl) rfl
     have e94:=ds6 (hdep ⟨64,.data⟩ (by simp) rfl) rfl;have e104:=ds6 (hdep ⟨74,.data⟩ (by simp) rfl) rfl;simp only [zf6,zf7]at e87 e94 e104;generalize f 87=f87 at*;subst e87;replace e94:=(show RZ (timesR r za (plusR r zb zc)) wx (f 94)from e94);generalize f 94=f94 at*
     replace e104:=(show RZ (plusR r (timesR r za zb) (timesR r za zc)) wx (f 104)from e104);generalize f 104=f104 at*
     go_simp;refine(Qed hro.out (distR hro.out FA.out.1 FB.out.1 FC.out.1) (Big.times hro.out (Fit.atom FA.out) (Fit.plus hro.out FB.out FC.out)).1 (Big.times hro.out (Fit.atom FA.out) (Fit.plus hro.out FB.out FC.out)).2 (by decide) e94 e104).mono ?_;rintro e0 w' ⟨rfl,hb⟩;exact hK (.bool true) w' (gv6 rfl) hb (bt hB hb) (nb6 rfl rfl)
    rotate_left 2
    obtain⟨y0,y1⟩:=KX.out wx hB;rotate_left
    obtain⟨y0,y1,y2,y3,y4,y5,y6,y7⟩:=(KA.out.below hB KA.out.lt).c8;rotate_left
    obtain⟨y0,y1,y2,y3,y4,y5,y6,y7⟩:=(KZ.out.below hB KZ.out.lt).c8;rotate_left
    ·have e107:=dv6 (hdep ⟨77,.guard⟩ (by simp) rfl) rfl
     have e108:=dv6 (hdep ⟨78,.data⟩ (by simp) rfl) rfl;have e109:=dv6 (hdep ⟨79,.data⟩ (by simp) rfl) rfl;have e110:=dv6 (hdep ⟨80,.data⟩ (by simp) rfl) rfl;simp only [zf6,zf7]at e107 e108 e109 e110;generalize f 107=f107 at*;subst e107;generalize f 108=f108 at*;subst e108;generalize f 109=f109 at*;subst e109;generalize f 110=f110 at*;subst e110;go_simp;refine(Qgh (H8.out.below hB) (Fit.atom FA.out) (Fit.zero hro.out) (QA.out wx hB) (QZ.out wx hB)).mono ?_;rintro e0 w' ⟨val,rfl,hr,hb⟩;exact hK val w' (gs6 rfl (fun w2 h2=>hr.below h2)) hb (bt hB hb) (nb6 rfl rfl)
    obtain⟨y0,y1,y2,y3,y4,y5,y6,y7⟩:=(KA.out.below hB KA.out.lt).c8;rotate_left
    ·have e107:=dv6 (hdep ⟨77,.guard⟩ (by simp) rfl) rfl
     have e111:=ds6 (hdep ⟨81,.data⟩ (by simp) rfl) rfl;have e112:=dv6 (hdep ⟨82,.data⟩ (by simp) rfl) rfl;simp only [zf6,zf7]at e107 e111 e112;generalize f 107=f107 at*;subst e107;replace e111:=(show RZ (plusR r za (zeroR r)) wx (f 111)from e111);generalize f 111=f111 at*
     generalize f 112=f112 at*;subst e112;go_simp;refine(Qed hro.out (Qrg hro.out FA.out.1) (Big.plus hro.out (Fit.atom FA.out) (Fit.zero hro.out)).1 (Big.plus hro.out (Fit.atom FA.out) (Fit.zero hro.out)).2 (by decide) e111 (QA.out wx hB)).mono ?_;rintro e0 w' ⟨rfl,hb⟩;exact hK (.bool true) w' (gv6 rfl) hb (bt hB hb) (nb6 rfl rfl)
    rotate_left 2
    obtain⟨y0,y1⟩:=KX.out wx hB;rotate_left
    obtain⟨y0,y1,y2,y3,y4,y5,y6,y7⟩:=(KA.out.below hB KA.out.lt).c8;rotate_left
    obtain⟨y0,y1,y2,y3,y4,y5,y6,y7⟩:=(KO.out.below hB KO.out.lt).c8;rotate_left
    ·have e115:=dv6 (hdep ⟨85,.guard⟩ (by simp) rfl) rfl
     have e116:=dv6 (hdep ⟨86,.data⟩ (by simp) rfl) rfl;have e117:=dv6 (hdep ⟨87,.data⟩ (by simp) rfl) rfl;have e118:=dv6 (hdep ⟨88,.data⟩ (by simp) rfl) rfl;simp only [zf6,zf7]at e115 e116 e117 e118;generalize f 115=f115 at*;subst e115;generalize f 116=f116 at*;subst e116;generalize f 117=f117 at*;subst e117;generalize f 118=f118 at*;subst e118;go_simp;refine(Qcu (H8.out.below hB) (Fit.atom FA.out) (Fit.one hro.out) (QA.out wx hB) (QO.out wx hB)).mono ?_;rintro e0 w' ⟨val,rfl,hr,hb⟩;exact hK val w' (gs6 rfl (fun w2 h2=>hr.below h2)) hb (bt hB hb) (nb6 rfl rfl)
    obtain⟨y0,y1,y2,y3,y4,y5,y6,y7⟩:=(KA.out.below hB KA.out.lt).c8;rotate_left
    ·have e115:=dv6 (hdep ⟨85,.guard⟩ (by simp) rfl) rfl
     have e119:=ds6 (hdep ⟨89,.data⟩ (by simp) rfl) rfl;have e120:=dv6 (hdep ⟨90,.data⟩ (by simp) rfl) rfl;simp only [zf6,zf7]at e115 e119 e120;generalize f 115=f115 at*;subst e115;replace e119:=(show RZ (timesR r za (oneR r)) wx (f 119)from e119);generalize f 119=f119 at*
     generalize f 120=f120 at*;subst e120;go_simp;refine(Qed hro.out (Qrh hro.out FA.out.1) (Big.times hro.out (Fit.atom FA.out) (Fit.one hro.out)).1 (Big.times hro.out (Fit.atom FA.out) (Fit.one hro.out)).2 (by decide) e119 (QA.out wx hB)).mono ?_;rintro e0 w' ⟨rfl,hb⟩;exact hK (.bool true) w' (gv6 rfl) hb (bt hB hb) (nb6 rfl rfl)
    rotate_left 2
    obtain⟨y0,y1⟩:=KX.out wx hB;rotate_left
    obtain⟨y0,y1,y2,y3,y4,y5,y6,y7⟩:=(KA.out.below hB KA.out.lt).c8;rotate_left
    obtain⟨y0,y1,y2,y3,y4,y5,y6,y7⟩:=(KZ.out.below hB KZ.out.lt).c8;rotate_left
    ·have e123:=dv6 (hdep ⟨93,.guard⟩ (by simp) rfl) rfl
     have e124:=dv6 (hdep ⟨94,.data⟩ (by simp) rfl) rfl;have e125:=dv6 (hdep ⟨95,.data⟩ (by simp) rfl) rfl;have e126:=dv6 (hdep ⟨96,.data⟩ (by simp) rfl) rfl;simp only [zf6,zf7]at e123 e124 e125 e126;generalize f 123=f123 at*;subst e123;generalize f 124=f124 at*;subst e124;generalize f 125=f125 at*;subst e125;generalize f 126=f126 at*;subst e126;go_simp;refine(Qcu (H8.out.below hB) (Fit.atom FA.out) (Fit.zero hro.out) (QA.out wx hB) (QZ.out wx hB)).mono ?_;rintro e0 w' ⟨val,rfl,hr,hb⟩;exact hK val w' (gs6 rfl (fun w2 h2=>hr.below h2)) hb (bt hB hb) (nb6 rfl rfl)
    obtain⟨y0,y1,y2,y3,y4,y5,y6,y7⟩:=(KZ.out.below hB KZ.out.lt).c8;rotate_left
    ·have e123:=dv6 (hdep ⟨93,.guard⟩ (by simp) rfl) rfl
     have e127:=ds6 (hdep ⟨97,.data⟩ (by simp) rfl) rfl;have e128:=dv6 (hdep ⟨98,.data⟩ (by simp) rfl) rfl;simp only [zf6,zf7]at e123 e127 e128;generalize f 123=f123 at*;subst e123;replace e127:=(show RZ (timesR r za (zeroR r)) wx (f 127)from e127);generalize f 127=f127 at*
     generalize f 128=f128 at*;subst e128;go_simp;refine(Qed hro.out (Qof hro.out FA.out.1) (Big.times hro.out (Fit.atom FA.out) (Fit.zero hro.out)).1 (Big.times hro.out (Fit.atom FA.out) (Fit.zero hro.out)).2 (by decide) e127 (QZ.out wx hB)).mono ?_;rintro e0 w' ⟨rfl,hb⟩;exact hK (.bool true) w' (gv6 rfl) hb (bt hB hb) (nb6 rfl rfl)
    rotate_left
    ·have e130:=dv6 (hdep ⟨100,.data⟩ (by simp) rfl) rfl
     simp only [zf6,zf7]at e130;generalize f 130=f130 at*;subst e130;go_simp;exact hK (.bool true) wx (gv6 rfl) (Below.refl _ _) hB (nb6 rfl rfl)
    all_goals simp [gOf6,Sq.holds,Region.binds]at hdep
    all_goals try simp only [hdep]at hK⊢
    all_goals go_simp
    all_goals exact hK _ wx (gv6 rfl) (Below.refl _ _) hB (nb6 rfl rfl)
   case fin4=>
    intro f wx hB hG hne;have e8:=dv6 (a:=f 8) (hG 101 (by decide)) rfl;clear hG hne;simp only [frontAct,zf1,zf2,zf3,zf4,zf5];generalize f 8=f8 at*;subst e8;refine wpAny_done (by kernel_rfl) ?_ _;go_wp2_with fail
    go_ret;exact⟨rfl,HEND.out _ hB⟩
end Go.Proofs.YthbhgelncdnmgaaGreatDoor
