import Derived.Test.YthbhgelncdnmgaaGreatDoorY02
import Derived.Test.YthbhgelncdnmgaaGreatDoorY05
set_option linter.unusedVariables false
set_option linter.unusedSimpArgs false
set_option maxRecDepth 20000
set_option maxHeartbeats 2000000
namespace Go.Proofs.YthbhgelncdnmgaaGreatDoor
open Go.Proofs.Tryz
open Lib (hid)
open Nat (le_refl eq_zero_or_pos mod_lt mul_le_mul_right pow_pos div_le_self mod_eq_of_lt)
open Go.RowKit
structure Tab (w:World):Prop where
 t64:TabAt 6 Lib.deBruijn64tab w
 t32:TabAt 10 Lib.deBruijn32tab w
theorem Tab.keep{w w':World}(h:Tab w)(hk:∀b,b<w.heap.size->w'.heap[b]? =w.heap[b]?):Tab w':=
 ⟨fun j hj=>by have h1:=h.t64 j hj;exact(World.cell?_of_block (w:=w) (hk _ (block_lt_of_cell h1))).trans h1,fun j hj=>by have h1:=h.t32 j hj;exact(World.cell?_of_block (w:=w) (hk _ (block_lt_of_cell h1))).trans h1⟩
theorem Tab.below{w w':World}(h:Tab w)(hb:Below w.heap.size w w'):Tab w':=h.keep hb.block
theorem Tab.drewN{w:World}(h:Tab w)(n:Nat):Tab (w.drewN n):=⟨h.t64,h.t32⟩
theorem Tab.drew{w:World}(h:Tab w):Tab w.drew:=⟨h.t64,h.t32⟩
theorem Qol(x:Nat)(X:Int)(w:World)(hT:Tab w)(hX:Hid (X=(x:Int)))(h0:0<x)(hx:Hid (x<18446744073709551616))(z:Nat)(hz:IsTz x z):
 Calls prog 286 #[.int .u64 X] w fun e w'=>e=.returned (.int .i64 (z:Int))/\w=w':=by
 have e:=hX.out;subst e;have h1:=Qjt (f:=64) h0 hx.out;have h2:=Qe4 hz h1.1;rw [h2];exact(Tryz.tz64 x hx.out w (fun _=>hT.t64)).mono fun _ _ ⟨a,b⟩=>⟨a,b.symm⟩
theorem tz32_v(x:Nat)(w:World)(hT:Tab w)(h0:0<x)(hx:x<4294967296)(z:Nat)(hz:IsTz x z):
 Calls prog 324 #[.int .u32 (x:Int)] w fun e w'=>e=.returned (.int .i64 (z:Int))/\w=w':=by
 have h1:=Qjt (f:=32) h0 hx;have h2:=Qe4 hz h1.1;rw [h2];exact(Tryz.tz32 x hx w (fun _=>hT.t32)).mono fun _ _ ⟨a,b⟩=>⟨a,b.symm⟩
theorem Qft{x:Nat}(h0:0<x)(hx:x<18446744073709551616):∃z,IsTz x z/\z<64:=by
 have h1:=Qjt (f:=64) h0 hx;exact⟨_,h1.1,h1.2⟩
theorem Qgw(x y:Nat)(w:World)(hT:Tab w)(hx0:0<x)(hy0:0<y)(HXL:Hid (x<18446744073709551616))(HYL:Hid (y<18446744073709551616)):
 Calls prog 243 #[.int .u64 x,.int .u64 y] w fun e w'=>e=.returned (.int .u64 ((Nat.gcd x y:Nat):Int))/\w=w':=by
 obtain⟨i,hi,hi64⟩:=Qft hx0 HXL.out;obtain⟨k,hk,hk64⟩:=Qft hy0 HYL.out;have hx1:((x:Int)==0)=false:=by simp;omega
 have hy1:((y:Int)==0)=false:=by simp;omega
 have hor:bits .or .u64 (x:Int) (y:Int)=((x|||y:Nat):Int):=u64_or_nat x y HXL.out HYL.out;obtain⟨o,ho⟩:∃o,x|||y=o:=⟨_,rfl⟩;rw [ho]at hor;have ho0:0<o:=by
  rcases eq_zero_or_pos o with h|h
  ·rw [h]at ho;have:=Nat.or_eq_zero_iff.1 ho;omega
  ·exact h
 have HOL:Hid (o<18446744073709551616):=by show _<_;rw [<-ho];exact Nat.or_lt_two_pow (n:=64) HXL.out HYL.out
 have hoz:IsTz o (min i k):=by rw [<-ho];exact Qx0 hi hk
 obtain⟨sh,hsh⟩:∃sh,min i k=sh:=⟨_,rfl⟩;have hsh64:sh<64:=by omega
 rw [hsh]at hoz;obtain⟨x1,hx1'⟩:∃x1,x / 2^i=x1:=⟨_,rfl⟩;have hdx:(x:Int) / 2^i=(x1:Int):=by rw [<-hx1'];push_cast;rfl
 have HX1:Hid (x1%2=1/\x1<=x/\Nat.gcd x1 y*2^sh=Nat.gcd x y):=by
  refine⟨by rw [<-hx1'];exact hi.odd,by rw [<-hx1'];exact div_le_self _ _,by rw [<-hx1',<-hsh];exact Qpv hi hk⟩
 have HG:Hid (Nat.gcd x1 y=Nat.gcd x1 y):=rfl;clear ho hsh hx1' hk hk64;go_enter func243,ntmps243;go_wp2_with fail
 refine(Qol o _ _ hT rfl ho0 HOL sh hoz).mono ?_;rintro e w' ⟨rfl,rfl⟩;go_wp2_with fail
 refine(Qol x _ _ hT rfl hx0 HXL i hi).mono ?_;rintro e w' ⟨rfl,rfl⟩;go_wp2_with fail
 clear hor hdx hx1 hy1 hoz ho0 hi
 go_loop [0,1] (fun s0 s1=> ∃p r:Nat,s0=.int .u64 p/\s1=.int .u64 r/\Hid (p%2=1/\p<18446744073709551616/\r<18446744073709551616/\Nat.gcd p r=Nat.gcd x1 y)) (fun s0 s1=>(intOf s0).toNat+(intOf s1).toNat)
 case atStart=>exact⟨x1,y,rfl,rfl,show Hid _ from⟨HX1.out.1,Nat.lt_of_le_of_lt HX1.out.2.1 HXL.out,HYL.out,rfl⟩⟩
 case round=>
  obtain⟨p,r,rfl,rfl,HI⟩:=hrel;rcases eq_zero_or_pos r with h0|h0
  ·subst h0
   obtain⟨G,hG⟩:∃G,Nat.gcd x y=G:=⟨_,rfl⟩;have hshl:IntKind.u64.wrap ((p:Int)*2^sh)=(G:Int):=by
    have h1:=HI.out.2.2.2;rw [Nat.gcd_zero_right]at h1;have h2:p*2^sh=G:=(by rw [h1,HX1.out.2.2,hG]);have h3:(p:Int)*2^sh=(G:Int):=(by rw [<-h2];push_cast;rfl);have h4:G<=x:=(by rw [<-hG];exact Nat.le_of_dvd hx0 (Nat.gcd_dvd_left _ _));have h5:=HXL.out;rw [h3,IntKind.wrap_u64];omega
   have HGG:=hid hG;clear hG;go_wp2_with fail
   go_ret;exact⟨Qa7 (by rw [HGG.out]),rfl⟩
  ·obtain⟨z,hz,hz64⟩:=Qft h0 HI.out.2.2.1
   have hne:((r:Int) !=0)=true:=(by simp;omega);have HRL:Hid (r<18446744073709551616):=HI.out.2.2.1;obtain⟨r1,hr1⟩:∃r1,r / 2^z=r1:=⟨_,rfl⟩;have hdr:(r:Int) / 2^z=(r1:Int):=(by rw [<-hr1];push_cast;rfl);have hr1o:r1%2=1:=(by rw [<-hr1];exact hz.odd);have hr1r:r1<=r:=(by rw [<-hr1];exact div_le_self _ _);have hg:Nat.gcd p r1=Nat.gcd p r:=(by rw [<-hr1];exact Qi1 HI.out.1 hz);have HGR:=hid hg;have HR1:=hid hr1o;clear hr1 hg hr1o;have hp0:0<p:=(by have:=HI.out.1;omega);by_cases hgt:r1<p
   ·obtain⟨r2,hr2⟩:∃r2,p-r1=r2:=⟨_,rfl⟩
    have hsw:IntKind.u64.wrap ((p:Int) - r1)=(r2:Int):=(by have:=HI.out.2.1;rw [IntKind.wrap_u64];omega);have hgti:(r1:Int)<p:=(by omega);have HR2:=hid hr2;clear hr2;go_wp2_with fail
    refine(Qol r _ _ hT rfl h0 HRL z hz).mono ?_;rintro e w' ⟨rfl,rfl⟩;go_wp2_with fail
    go_round
    case rel=>
     have h1:=HI.out;have h2:=HR2.out;have hg2:Nat.gcd r1 r2=Nat.gcd x1 y:=(by rw [<-h2,Qgr (by omega),Nat.gcd_comm,HGR.out,h1.2.2.2]);exact⟨r1,r2,rfl,rfl,show Hid _ from⟨HR1.out,by omega,by omega,hg2⟩⟩
    case measure=>have h2:=HR2.out;have h3:=HR1.out;simp [intOf];omega
   ·obtain⟨r2,hr2⟩:∃r2,r1-p=r2:=⟨_,rfl⟩
    have hsw:IntKind.u64.wrap ((r1:Int) - p)=(r2:Int):=(by have:=HI.out.2.2.1;rw [IntKind.wrap_u64];omega);have hgti:decide ((r1:Int)<p)=false:=(by simp;omega);have hgti':decide (r1<p)=false:=(by simp;omega);have HR2:=hid hr2;clear hr2;go_wp2_with fail
    refine(Qol r _ _ hT rfl h0 HRL z hz).mono ?_;rintro e w' ⟨rfl,rfl⟩;go_wp2_with fail
    go_round
    case rel=>
     have h1:=HI.out;have h2:=HR2.out;have hg2:Nat.gcd p r2=Nat.gcd x1 y:=(by rw [<-h2,Qgr (by omega),HGR.out,h1.2.2.2]);exact⟨p,r2,rfl,rfl,show Hid _ from⟨h1.1,h1.2.1,by omega,hg2⟩⟩
    case measure=>have h2:=HR2.out;simp [intOf];omega
theorem Qd3(y:Nat)(w:World)(HYL:Hid (y<18446744073709551616)):
 Calls prog 243 #[.int .u64 0,.int .u64 y] w fun e w'=>e=.returned (.int .u64 (y:Int))/\w=w':=by
 have hor:bits .or .u64 0 (y:Int)=(y:Int):=by
  have:=u64_or_nat 0 y (by decide) HYL.out
  rwa [Nat.zero_or]at this
 go_enter func243,ntmps243;go_wp2_with fail
 go_ret;exact⟨rfl,rfl⟩
theorem Qdm(x:Nat)(w:World)(hx:0<x)(HXL:Hid (x<18446744073709551616)):
 Calls prog 243 #[.int .u64 x,.int .u64 0] w fun e w'=>e=.returned (.int .u64 (x:Int))/\w=w':=by
 have hor:bits .or .u64 (x:Int) 0=(x:Int):=by
  have:=u64_or_nat x 0 HXL.out (by decide)
  rwa [Nat.or_zero]at this
 have hx1:((x:Int)==0)=false:=by simp;omega
 go_enter func243,ntmps243;go_wp2_with fail
 go_ret;exact⟨rfl,rfl⟩
theorem Qa9(x y G:Nat)(w:World)(hT:Tab w)(HXL:Hid (x<18446744073709551616))(HYL:Hid (y<18446744073709551616))(HG:Hid (Nat.gcd x y=G)):
 Calls prog 243 #[.int .u64 x,.int .u64 y] w fun e w'=>e=.returned (.int .u64 (G:Int))/\w=w':=by
 rw [<-HG.out];rcases eq_zero_or_pos x with h|h
 ·subst h;rw [Nat.gcd_zero_left];exact Qd3 y w HYL
 ·rcases eq_zero_or_pos y with h'|h'
  ·subst h';rw [Nat.gcd_zero_right];exact Qdm x w h HXL
  ·exact Qgw x y w hT h h' HXL HYL
theorem Qk8(A:Option Addr)(n c a z:Nat)(w:World)(hT:Tab w)(hx:Num w (limbs a) A n c)(hn:n<=1073741824)(H:Hid ((a=0/\z=0)\/IsTz a z)):
 Calls prog 289 #[.slice A n c] w fun e w'=>e=.returned (.int .i64 (z:Int))/\w=w':=by
 go_enter func289,ntmps289;go_wp2_with fail
 go_loop [7] (fun si=> ∃k:Nat,k<=n/\si=.int .i64 k/\Hid (∀j,j<k->(limbs a).getD j 0=0)) (fun si=>n-(intOf si).toNat)
 case atStart=>exact⟨0,Nat.zero_le _,rfl,show Hid _ from fun j hj=>by omega⟩
 case round=>
  obtain⟨k,hk,rfl,HI⟩:=hrel;by_cases hkn:k<n
  ·obtain⟨b,o,v,rfl,_,hv,hv4,hcv⟩:=hx.at_ hkn
   have HV:=hid hv;clear hv;by_cases hv0:v=0
   ·subst hv0
    go_wp2_with fail
    go_round
    case rel=>exact⟨k+1,by omega,by go_num,show Hid _ from fun j hj=>by
     rcases Nat.lt_or_ge j k with h|h
     ·exact HI.out j h
     ·obtain rfl:j=k:=by omega
      exact HV.out⟩
    case measure=>simp [intOf];omega
   ·have hne:((v:Int) !=0)=true:=by simp;omega
    obtain⟨t,ht,_⟩:=Qft (x:=v) (by omega) (by omega);have ht32:t<32:=by
     have h1:=ht.le (by omega);rcases Nat.lt_or_ge t 32 with h|h
     ·exact h
     ·have:=Nat.pow_le_pow_right (n:=2) (by decide) h
      have e32:(2:Nat)^32=4294967296:=rfl;omega
    have hz:=Qro (by rw [<-hx.len];exact hkn) HI.out HV.out ht ht32;have HZ:Hid (32*k+t=z):=by
     rcases H.out with⟨h,_⟩|h
     ·subst h
      have:=hx.len;rw [Qaf]at this;simp at this;omega
     ·exact Qe4 hz h
    have hvpos:0<v:=(by omega);clear hz hv0;go_wp2_with (go_at_call 324;refine(tz32_v v _ hT hvpos hv4 t ht).mono ?_;rintro e w' ⟨rfl,rfl⟩)
    go_ret;exact⟨Qa7 (by rw [<-HZ.out];omega),rfl⟩
  ·obtain rfl:k=n:=by omega
   have HZ:Hid (z=0):=by
    rcases H.out with⟨_,h⟩|h
    ·exact h
    ·exfalso
     have hv:val (limbs a)=val (List.replicate (limbs a).length 0):=by
      congr 1
      apply Qc0 (by simp);intro j hj;rw [Qgd];exact HI.out j (by rw [hx.len];exact hj)
     rw [Qab,Qcz]at hv;subst hv;obtain⟨m,hm⟩:=h;have h1:0<2^z*(2*m+1):=Nat.mul_pos (pow_pos (by decide)) (by omega);omega
   go_wp2_with fail
   go_ret;exact⟨Qa7 (by rw [HZ.out];rfl),rfl⟩
theorem Qi2(A:Option Addr)(n c m j s W:Nat)(l:List Nat)(w:World)(hx:Num w l A n c)(hm:m=j+3)(hn:n<=m)(hm2:m<=1073741824)(hs:s<32)(htop:l.getD (j+2) 0*2^s<4294967296)(H:Hid (val l / (P j*2^(32-s))=W)):
 Calls prog 349 #[.slice A n c,.int .i64 m,.int .i64 s] w (RetQ w (.int .u64 (W:Int))):=by
 obtain⟨x2,e2⟩:∃x,l.getD (j+2) 0=x:=⟨_,rfl⟩;obtain⟨x1,e1⟩:∃x,l.getD (j+1) 0=x:=⟨_,rfl⟩;obtain⟨x0,e0⟩:∃x,l.getD j 0=x:=⟨_,rfl⟩;have hx2:x2<4294967296:=by rw [<-e2];exact hx.lim.getD _
 have hx1:x1<4294967296:=by rw [<-e1];exact hx.lim.getD _
 have hx0:x0<4294967296:=by rw [<-e0];exact hx.lim.getD _
 obtain⟨u,hu⟩:∃u,x2*4294967296+x1=u:=⟨_,rfl⟩;have hor1:bits .or .u64 ((x2:Int)*4294967296) (x1:Int)=(u:Int):=by
  rw [show(x2:Int)*4294967296=((x2*4294967296:Nat):Int)from by omega,u64_or_nat _ _ (by omega) (by omega),nat_join 32 (x2*4294967296) x1 (by omega) (by omega),hu]
 obtain⟨s',hs'⟩:∃s',32-s=s':=⟨_,rfl⟩;have hsi:(32:Int) - (s:Int)=(s':Int):=by omega
 obtain⟨t,ht⟩:∃t,2^s=t:=⟨_,rfl⟩;have htu:2^s'*t=4294967296:=by rw [<-ht,<-hs',<-Nat.pow_add,show 32-s+s=32 from by omega]
 have hx2t:x2*t<4294967296:=by rw [<-ht,<-e2];exact htop
 have hx2u:x2+1<=2^s':=by
  rw [<-htu]at hx2t;exact Nat.lt_of_mul_lt_mul_right hx2t
 have hut:u*t<18446744073709551616:=by
  have h1:u<(x2+1)*4294967296:=by omega
  have h2:u*t<(x2+1)*4294967296*t:=Nat.mul_lt_mul_of_pos_right h1 (by rw [<-ht];exact pow_pos (by decide));have h3:(x2+1)*4294967296*t<=2^s'*4294967296*t:=mul_le_mul_right _ (mul_le_mul_right _ hx2u);rw [Nat.mul_right_comm (2^s') 4294967296 t,htu]at h3;omega
 have hshl:IntKind.u64.wrap ((u:Int)*2^s)=((u*t:Nat):Int):=by
  have h1:(u:Int)*2^s=((u*t:Nat):Int):=by rw [<-ht];push_cast;rfl
  rw [h1,IntKind.wrap_u64];omega
 obtain⟨u1,hu1⟩:∃u1,u*t=u1:=⟨_,rfl⟩;rw [hu1]at hshl hut;obtain⟨z,hz⟩:∃z,x0 / 2^s'=z:=⟨_,rfl⟩;have hshr:(x0:Int) / 2^s'=(z:Int):=by rw [<-hz];push_cast;rfl
 have hzt:z<t:=by
  rw [<-hz,Nat.div_lt_iff_lt_mul (pow_pos (by decide)),Nat.mul_comm,htu];exact hx0
 have hW:u1+z=W:=by
  rw [<-H.out,Qnc hx.lim (by rw [<-hx.len];omega) (by omega),e2,e1,e0,hu,ht,hu1,hs',hz]
 have hzl:z<18446744073709551616:=by
  have:z<=x0:=by rw [<-hz];exact div_le_self _ _
  omega
 have hor2:bits .or .u64 (u1:Int) (z:Int)=(W:Int):=by
  rw [u64_or_nat _ _ hut hzl,nat_join s u1 z (by rw [<-hu1,ht,Nat.mul_mod_left]) (by rw [ht];exact hzt),hW]
 have HX2:Hid (l.getD ((m:Int) - 1).toNat 0=x2):=by show _=_;rw [show((m:Int) - 1).toNat=j+2 from by omega];exact e2
 have HX1:Hid (l.getD ((m:Int) - 2).toNat 0=x1):=by show _=_;rw [show((m:Int) - 2).toNat=j+1 from by omega];exact e1
 have HX0:Hid (l.getD ((m:Int) - 3).toNat 0=x0):=by show _=_;rw [show((m:Int) - 3).toNat=j from by omega];exact e0
 have hm3:3<=m:=by omega
 have hw3:IntKind.i64.wrap ((m:Int) - 3)=(m:Int) - 3:=IntWalk.i64_in _ (by omega);have hws:IntKind.i64.wrap (32-(s:Int))=(s':Int):=by rw [hsi];exact IntWalk.i64_in _ (by omega)
 have hmin:min s' 64=s':=Nat.min_eq_left (by omega);have HSI:=hid hsi;clear e2 e1 e0 hu ht htu hx2t hx2u hut hu1 hz hzt hzl hW htop hm hs' hsi;go_enter func349,ntmps349;go_wp2_with fail
 refine(Qfp _ _ _ ((m:Int) - 1) l _ x2 hx (by omega) (by omega) HX2).mono ?_;rintro e w' ⟨rfl,rfl⟩;go_wp2_with fail
 refine(Qfp _ _ _ ((m:Int) - 2) l _ x1 hx (by omega) (by omega) HX1).mono ?_;rintro e w' ⟨rfl,rfl⟩;go_wp2_with fail
 go_quiet ((go_at_call 287;exact Qei (Qfp _ _ _ ((m:Int) - 3) l _ x0 (hx.drewN _) (by omega) (by omega) HX0)))
 go_wp2_with fail
 go_ret;exact⟨rfl,nq,rfl⟩
theorem sub32''(X Y:Int)(x y b:Nat)(w:World)(hX:Hid (X=(x:Int)))(hY:Hid (Y=(y:Int)))(hx:x<4294967296)(hy:y<4294967296)(hb:b<=1):
 Calls prog 327 #[.int .u32 X,.int .u32 Y,.int .u32 b] w fun e w'=>e=.returned (.tuple #[.int .u32 (dif x y b),.int .u32 (bor x y b)])/\w=w':=by
 have e:=hX.out;have e':=hY.out;subst e;subst e';exact sub32 x y b w hx hy hb
def Bal(w:World)(p pl mi br:Nat):Prop:=w.heap[p]? =some (.cells #[.int .u64 (pl:Int),.int .u64 (mi:Int),.int .u32 (br:Int)] 361 (0,0))
theorem Qx2{w:World}{p pl mi br:Nat}(h:Bal w p pl mi br)(u0 u1 u2:Value):
 (((w.setCell ⟨p,0,none⟩ u0).setCell ⟨p,1,none⟩ u1).setCell ⟨p,2,none⟩ u2).heap[p]? =some (.cells #[u0,u1,u2] 361 (0,0)):=by
 have h1:=heap_setCell_same w p 0 _ _ u0 h;have h2:=heap_setCell_same _ p 1 _ _ u1 h1;exact heap_setCell_same _ p 2 _ _ u2 h2
theorem Qom(p pl mi br x y:Nat)(X Y:Int)(w:World)(hB:Bal w p pl mi br)(hX:Hid (X=(x:Int)))(hY:Hid (Y=(y:Int)))(hp:Hid (x+pl<18446744073709551616))(hm:Hid (y+mi<18446744073709551616))(hbr:br<=1):
 Calls prog 370 #[.pointer (some ⟨p,0,none⟩),.int .u64 X,.int .u64 Y] w fun e w'=>
  e=.returned (.int .u32 (dif ((x+pl)%4294967296) ((y+mi)%4294967296) br))/\w.grownBy w' (some p)/\Bal w' p ((x+pl) / 4294967296) ((y+mi) / 4294967296) (bor ((x+pl)%4294967296) ((y+mi)%4294967296) br):=by
 have ex:=hX.out;have ey:=hY.out;subst ex;subst ey;have hc0:w.cell? ⟨p,0,none⟩=some (.int .u64 (pl:Int)):=by rw [cell_of_row w p 0 _ _ _ hB];rfl
 have hc1:w.cell? ⟨p,1,none⟩=some (.int .u64 (mi:Int)):=by rw [cell_of_row w p 1 _ _ _ hB];rfl
 have hc2:w.cell? ⟨p,2,none⟩=some (.int .u32 (br:Int)):=by rw [cell_of_row w p 2 _ _ _ hB];rfl
 have hf:=fun k=>frozen_of_row w p k _ _ hB
 have hf0:=hf 0;have hf1:=hf 1;have hf2:=hf 2;clear hf;obtain⟨xp,hxp⟩:∃xp,x+pl=xp:=⟨_,rfl⟩;obtain⟨ym,hym⟩:∃ym,y+mi=ym:=⟨_,rfl⟩;rw [hxp,hym];have hw1:IntKind.u64.wrap ((x:Int)+pl)=(xp:Int):=by have:=hp.out;rw [IntKind.wrap_u64];omega
 have hw2:IntKind.u64.wrap ((y:Int)+mi)=(ym:Int):=by have:=hm.out;rw [IntKind.wrap_u64];omega
 have HXM:Hid ((ym:Int)%4294967296=((ym%4294967296:Nat):Int)):=by show _=_;omega
 have HXP:Hid ((xp:Int)%4294967296=((xp%4294967296:Nat):Int)):=by show _=_;omega
 clear hxp hym;go_enter func370,ntmps370;go_wp2_with fail
 refine(sub32'' _ _ (xp%4294967296) (ym%4294967296) br _ HXP HXM (mod_lt _ (by decide)) (mod_lt _ (by decide)) hbr).mono ?_;rintro e w' ⟨rfl,rfl⟩;go_wp2_with fail
 go_ret;have e1:(xp:Int) / 4294967296=((xp / 4294967296:Nat):Int):=by omega
 have e2:(ym:Int) / 4294967296=((ym / 4294967296:Nat):Int):=by omega
 refine⟨rfl,?_,?_⟩
 ·exact Qbb (p:=⟨p,2,none⟩) (Qbb (p:=⟨p,1,none⟩) (Qbb (p:=⟨p,0,none⟩) (World.grownBy.refl _ _) rfl _) rfl _) rfl _
 rw [e1,e2];exact Qx2 hB _ _ _
structure Two (w w':World) (b1 b2:Nat):Prop where
 os:w'.os=w.os
 tape:w'.tape=w.tape
 output:w'.output=w.output
 size:w.heap.size<=w'.heap.size
 block:∀k,k<w.heap.size->k≠b1->k≠b2->w'.heap[k]? =w.heap[k]?
section
variable {a w w':World} {b1 b2:Nat}
theorem Two.refl(w:World)(b1 b2:Nat):Two w w b1 b2:=⟨rfl,rfl,rfl,le_refl _,fun _ _ _ _=>rfl⟩
theorem Two.alloc(h:Two a w b1 b2)(o:Obj):Two a (w.alloc o) b1 b2:=
 ⟨h.os,h.tape,h.output,Nat.le_trans h.size (by simp),fun k hk h1 h2=>(Below.heap_alloc w o k (Nat.lt_of_lt_of_le hk h.size)).trans (h.block k hk h1 h2)⟩
theorem Two.setCell(h:Two a w b1 b2){p:Addr}(hp:p.block=b1\/p.block=b2\/a.heap.size<=p.block)(u:Value):Two a (w.setCell p u) b1 b2:=
 ⟨h.os,h.tape,h.output,by simpa [World.setCell] using h.size,fun k hk h1 h2=>(Below.heap_setCell w p u k (by rcases hp with e|e|e<;>omega)).trans (h.block k hk h1 h2)⟩
theorem Two.drewN(h:Two a w b1 b2)(n:Nat):Two a (w.drewN n) b1 b2:=⟨h.os,h.tape,h.output,h.size,h.block⟩
theorem Two.grown(h:Two a w b1 b2){g:Nat}(hg:w.grownBy w' (some g))(hp:g=b1\/g=b2\/a.heap.size<=g):Two a w' b1 b2:=
 ⟨hg.os.trans h.os,hg.tape.trans h.tape,hg.output.trans h.output,Nat.le_trans h.size hg.size,fun k hk h1 h2=>
  (hg.block k (Nat.lt_of_lt_of_le hk h.size) (fun e=>by have:=Option.some.inj e;omega)).trans (h.block k hk h1 h2)⟩
theorem Two.below(h:Two a w b1 b2){B:Nat}(hB:B<=a.heap.size)(h1:B<=b1)(h2:B<=b2):Below B a w:=⟨h.os,h.tape,h.output,h.size,fun k hk=>h.block k (by omega) (by omega) (by omega)⟩
end
theorem Mid.far{w:World}{b:Nat}{pre post:List Value}{l:List Nat}(h:Mid w b pre l post){p:Addr}(hp:b≠p.block)(u:Value):Mid (w.setCell p u) b pre l post:=(Below.heap_setCell w p u b hp).trans h
theorem Mid.grown{w w':World}{b g:Nat}{pre post:List Value}{l:List Nat}(h:Mid w b pre l post)(hg:w.grownBy w' (some g))(hne:b≠g):Mid w' b pre l post:=(hg.block b h.lt (fun e=>hne (Option.some.inj e))).trans h
theorem Mid.alloc{w:World}{b:Nat}{pre post:List Value}{l:List Nat}(h:Mid w b pre l post)(o:Obj):Mid (w.alloc o) b pre l post:=(Below.heap_alloc w o b h.lt).trans h
theorem Bal.lt{w:World}{p pl mi br:Nat}(h:Bal w p pl mi br):p<w.heap.size:=Qas h
theorem Bal.far{w:World}{b pl mi br:Nat}(h:Bal w b pl mi br){p:Addr}(hp:b≠p.block)(u:Value):Bal (w.setCell p u) b pl mi br:=(Below.heap_setCell w p u b hp).trans h
theorem Bal.grown{w w':World}{b g pl mi br:Nat}(h:Bal w b pl mi br)(hg:w.grownBy w' (some g))(hne:b≠g):Bal w' b pl mi br:=(hg.block b h.lt (fun e=>hne (Option.some.inj e))).trans h
theorem Bal.alloc{w:World}{b pl mi br:Nat}(h:Bal w b pl mi br)(o:Obj):Bal (w.alloc o) b pl mi br:=(Below.heap_alloc w o b h.lt).trans h
theorem Bal.drewN{w:World}{b pl mi br:Nat}(h:Bal w b pl mi br)(n:Nat):Bal (w.drewN n) b pl mi br:=h
def RetComb(w0:World)(bx bY:Nat)(prex prey postx posty:List Value)(l r:List Nat)(n a b c d:Nat)(e:Ending)(w':World):Prop:=
 e=.returned (.tuple #[])/\Two w0 w' bx bY/\∃L R s1 s2 t1 t2,Mid w' bx prex L postx/\Mid w' bY prey R posty/\L.length=n/\R.length=n/\Lim L/\Lim R/\
  val L+b*val r+P n*s1=a*val l+P n*s2/\val R+c*val l+P n*t1=d*val r+P n*t2
theorem Qhq(bx ox cx bY oy cy n a b c d:Nat)(prex prey postx posty:List Value)(l r:List Nat)(w:World)(hx:Mid w bx prex l postx)(hy:Mid w bY prey r posty)(hne:bx≠bY)(hl:Lim l)(hr:Lim r)(hox:prex.length=ox)(hoy:prey.length=oy)
 (hln:l.length=n)(hrn:r.length=n)(hnx:n<=cx)(hny:n<=cy)(hn:n<=536870912)(ha:a<4294967296)(hb:b<4294967296)(hc:c<4294967296)(hd:d<4294967296):
 Calls prog 350 #[.slice (some ⟨bx,ox,none⟩) n cx,.slice (some ⟨bY,oy,none⟩) n cy,.int .u64 a,.int .u64 b,.int .u64 c,.int .u64 d] w (RetComb w bx bY prex prey postx posty l r n a b c d):=by
 have HOX:=hid hox;have HOY:=hid hoy;have HLN:=hid hln;have HRN:=hid hrn;have HL:=hid hl;have HR:=hid hr;have hbx:=hx.lt;have hby:=hy.lt;clear hox hoy hln hrn hl hr;go_enter func350,ntmps350;go_wp2_with fail
 have hB1:Bal ((w.alloc (.cells #[.int .u64 0,.int .u64 0,.int .u32 0] 361)).alloc (.cells #[.int .u64 0,.int .u64 0,.int .u32 0] 361)) w.heap.size 0 0 0:=heap_alloc2_old w _ _;have hB2:Bal ((w.alloc (.cells #[.int .u64 0,.int .u64 0,.int .u32 0] 361)).alloc (.cells #[.int .u64 0,.int .u64 0,.int .u32 0] 361)) (w.heap.size+1) 0 0 0:=heap_alloc2_new w _ _;obtain⟨g1,hg1⟩:∃g1,w.heap.size=g1:=⟨_,rfl⟩
 go_loopw [20] (fun si wr=> ∃(k p1 m1 r1 p2 m2 r2:Nat) (L R:List Nat),k<=n/\si=.int .i64 k/\Mid wr bx prex L postx/\Mid wr bY prey R posty/\Bal wr w.heap.size p1 m1 r1/\Bal wr (w.heap.size+1) p2 m2 r2/\Two w wr bx bY/\r1<=1/\r2<=1/\p1<4294967296/\m1<4294967296/\p2<4294967296/\m2<4294967296/\
  Hid (L.length=n/\Lim L/\(∀i,k<=i->L.getD i 0=l.getD i 0)/\val (L.take k)+b*val (r.take k)+P k*p1=a*val (l.take k)+P k*(r1+m1))/\
  Hid (R.length=n/\Lim R/\(∀i,k<=i->R.getD i 0=r.getD i 0)/\val (R.take k)+c*val (l.take k)+P k*p2=d*val (r.take k)+P k*(r2+m2)))
  (fun si _=>n-(intOf si).toNat)
 case atStart=>exact⟨0,0,0,0,0,0,0,l,r,Nat.zero_le _,rfl,(hx.alloc _).alloc _,(hy.alloc _).alloc _,hB1,hB2,((Two.refl _ _ _).alloc _).alloc _,by omega,by omega,by omega,by omega,by omega,by omega,show Hid _ from⟨HLN.out,HL.out,fun _ _=>rfl,by simp [val]⟩,show Hid _ from⟨HRN.out,HR.out,fun _ _=>rfl,by simp [val]⟩⟩
 case round=>
  clear hB1 hB2 hg1;obtain⟨k,p1,m1,r1,p2,m2,r2,L,R,hk,rfl,hmx,hmy,hb1,hb2,htwo,hr1,hr2,hp1,hm1,hp2,hm2,HI,HJ⟩:=hrel;by_cases hkn:k<n
  ·obtain⟨v,hv⟩:∃v,L.getD k 0=v:=⟨_,rfl⟩
   obtain⟨u,hu⟩:∃u,R.getD k 0=u:=⟨_,rfl⟩;have hv4:v<4294967296:=(by rw [<-hv];exact HI.out.2.1.getD _);have hu4:u<4294967296:=(by rw [<-hu];exact HJ.out.2.1.getD _);have hcx:=hmx.cell (k:=k) (by have:=HI.out.1;omega);have hcy:=hmy.cell (k:=k) (by have:=HJ.out.1;omega);have hfx:=hmx.frozen (ox+k);have hfy:=hmy.frozen (oy+k);rw [hv,HOX.out]at hcx;rw [hu,HOY.out]at hcy;have HV:=hid hv;have HU:=hid hu;clear hv hu;have bd:∀x y z:Nat,x<4294967296->y<4294967296->z<4294967296->x*y+z<18446744073709551616:=fun x y z h1 h2 h3=>by
    have:=Nat.mul_le_mul (show x<=4294967295 by omega) (show y<=4294967295 by omega);omega
   have BD:=hid bd;clear bd;have wr0:∀x y:Nat,x<4294967296->y<4294967296->IntKind.u64.wrap ((x:Int)*(y:Int))=((x*y:Nat):Int):=fun x y h1 h2=>by
    have:=BD.out x y 0 h1 h2 (by omega);rw [<-Int.natCast_mul,IntKind.wrap_u64];omega
   have HW0:=hid wr0;clear wr0;have h1:Hid (IntKind.u64.wrap ((a:Int)*(v:Int))=((a*v:Nat):Int)):=HW0.out a v ha hv4;have h2:Hid (IntKind.u64.wrap ((b:Int)*(u:Int))=((b*u:Nat):Int)):=HW0.out b u hb hu4;have h3:Hid (IntKind.u64.wrap ((d:Int)*(u:Int))=((d*u:Nat):Int)):=HW0.out d u hd hu4;have h4:Hid (IntKind.u64.wrap ((c:Int)*(v:Int))=((c*v:Nat):Int)):=HW0.out c v hc hv4;go_wp2_with fail
   go_quiet (fail)
   go_wp2_with fail
   refine(Qom _ p1 m1 r1 (a*v) (b*u) _ _ _ (hb1.drewN _) h1 h2 (BD.out a v p1 ha hv4 hp1) (BD.out b u m1 hb hu4 hm1) hr1).mono ?_;rintro e w2 ⟨rfl,hg2,hb1'⟩;obtain⟨D1,hD1⟩:∃D1,dif ((a*v+p1)%4294967296) ((b*u+m1)%4294967296) r1=D1:=⟨_,rfl⟩;rw [hD1];have HD1:=hid hD1;clear hD1;have hmx2:=(hmx.drewN nq).grown hg2 (by omega);have hmy2:=(hmy.drewN nq).grown hg2 (by omega);have hb2':=(hb2.drewN nq).grown hg2 (by omega);have hcx2:=hmx2.cell (k:=k) (by have:=HI.out.1;omega);have hcy2:=hmy2.cell (k:=k) (by have:=HJ.out.1;omega);have hfx2:=hmx2.frozen (ox+k);rw [HV.out,HOX.out]at hcx2;rw [HU.out,HOY.out]at hcy2;have hs2:=hg2.size;have hkL:k<L.length:=(by have:=HI.out.1;omega);have hkR:k<R.length:=(by have:=HJ.out.1;omega);have htwo2:=(htwo.drewN nq).grown hg2 (.inr (.inr (le_refl _)));go_wp2_with fail
   have hmx3:=hmx2.set' hkL D1 rfl HOX.out;have hmy3:=hmy2.far (p:=⟨bx,ox+k,none⟩) (fun e=>hne e.symm) (.int .u32 (D1:Int));have hb1'':=hb1'.far (p:=⟨bx,ox+k,none⟩) (by simp;omega) (.int .u32 (D1:Int));have hb2'':=hb2'.far (p:=⟨bx,ox+k,none⟩) (by simp;omega) (.int .u32 (D1:Int));have htwo3:=htwo2.setCell (p:=⟨bx,ox+k,none⟩) (.inl rfl) (.int .u32 (D1:Int));refine(Qom _ p2 m2 r2 (d*u) (c*v) _ _ _ hb2'' h3 h4 (BD.out d u p2 hd hu4 hp2) (BD.out c v m2 hc hv4 hm2) hr2).mono ?_;rintro e w4 ⟨rfl,hg4,hb2'''⟩;obtain⟨D2,hD2⟩:∃D2,dif ((d*u+p2)%4294967296) ((c*v+m2)%4294967296) r2=D2:=⟨_,rfl⟩;rw [hD2];have HD2:=hid hD2;clear hD2;have hmx4:=hmx3.grown hg4 (by omega);have hmy4:=hmy3.grown hg4 (by omega);have hb1''':=hb1''.grown hg4 (by omega);have hcy4:=hmy4.cell (k:=k) hkR;have hfy4:=hmy4.frozen (oy+k);rw [HU.out,HOY.out]at hcy4;have htwo4:=htwo3.grown hg4 (.inr (.inr (by omega)));clear hcx hcy hfx hfy hcx2 hcy2 hfx2 hmx hmy hb1 hb2 htwo;go_wp2_with fail
   go_roundw
   case rel=>
    have hI:=HI.out;have hJ:=HJ.out;have hM:∀x,x%4294967296<4294967296:=fun x=>mod_lt _ (by decide)
    have hA:=Qk6 (k:=k) (v:=v) (w:=u) (d:=D1) (br':=bor ((a*v+p1)%4294967296) ((b*u+m1)%4294967296) r1) (Pk:=a*v+p1) (Mk:=b*u+m1) hkn hI (by rw [<-hI.2.2.1 k (le_refl _)];exact HV.out) (by rw [<-hJ.2.2.1 k (le_refl _)];exact HU.out) (by rw [<-HD1.out];exact Qhm _ _ _) rfl rfl (by rw [<-HD1.out];exact Qge _ _ _ (hM _) (hM _) hr1);have hBB:=Qk6 (k:=k) (v:=u) (w:=v) (d:=D2) (br':=bor ((d*u+p2)%4294967296) ((c*v+m2)%4294967296) r2) (Pk:=d*u+p2) (Mk:=c*v+m2) hkn hJ (by rw [<-hJ.2.2.1 k (le_refl _)];exact HU.out) (by rw [<-hI.2.2.1 k (le_refl _)];exact HV.out) (by rw [<-HD2.out];exact Qhm _ _ _) rfl rfl (by rw [<-HD2.out];exact Qge _ _ _ (hM _) (hM _) hr2);have hdv:∀x,x<18446744073709551616->x / 4294967296<4294967296:=fun x hx=>by omega
    exact⟨k+1,_,_,_,_,_,_,L.set k D1,R.set k D2,by omega,by go_num,hmx4.far (p:=⟨bY,oy+k,none⟩) hne _,hmy4.set' hkR D2 rfl HOY.out,hb1'''.far (p:=⟨bY,oy+k,none⟩) (by simp;omega) _,hb2'''.far (p:=⟨bY,oy+k,none⟩) (by simp;omega) _,
     htwo4.setCell (p:=⟨bY,oy+k,none⟩) (.inr (.inl rfl)) _,Qi0 _ _ _,Qi0 _ _ _,hdv _ (BD.out a v p1 ha hv4 hp1),hdv _ (BD.out b u m1 hb hu4 hm1),hdv _ (BD.out d u p2 hd hu4 hp2),hdv _ (BD.out c v m2 hc hv4 hm2),hA,hBB⟩
   case measure=>simp [intOf];omega
  ·obtain rfl:k=n:=by omega
   go_wp2_with fail
   go_end0
   have hI:=HI.out;have hJ:=HJ.out;have tl:∀q:List Nat,q.length=k->q.take k=q:=fun q hq=>List.take_of_length_le (by omega)
   refine⟨rfl,htwo,L,R,p1,r1+m1,p2,r2+m2,hmx,hmy,hI.1,hJ.1,hI.2.1,hJ.2.1,?_,?_⟩
   ·have h:=hI.2.2.2
    rw [tl L hI.1,tl r HRN.out,tl l HLN.out]at h;exact h
   ·have h:=hJ.2.2.2
    rw [tl R hJ.1,tl r HRN.out,tl l HLN.out]at h;exact h
def Disj(A A':Option Addr):Prop:=∀a a',A=some a->A'=some a'->a.block≠a'.block
theorem Qon{x y m i j:Nat}(h:x+m*i=y+m*j)(hx:x<m)(hy:y<m):x=y:=by
 have h1:(x+m*i)%m=(y+m*j)%m:=by rw [h]
 rwa [Nat.add_mul_mod_self_left,Nat.add_mul_mod_self_left,mod_eq_of_lt hx,mod_eq_of_lt hy]at h1
theorem Mid.split{w:World}{b:Nat}{pre post:List Value}{l:List Nat}(h:Mid w b pre l post)(n:Nat):Mid w b pre (l.take n) (u32s (l.drop n)++post):=by
 unfold Mid at*
 rw [h,<-List.append_assoc (u32s (l.take n)),<-Qbn,List.take_append_drop]
theorem Qi3{L l r:List Nat}{n a b X Y X' s1 s2:Nat}(hL:Lim L)(hLn:L.length=n)(hr:val r=Y)(hl:val l=X%P n)(h:val L+b*val r+P n*s1=a*val l+P n*s2)(hX':X'+b*Y=a*X)(hlt:X'<P n):val L=X':=by
 have hv:=Qbg hL;rw [hLn]at hv;have h1:=Nat.mod_add_div X (P n);have h2:a*X=a*(X%P n)+P n*(a*(X / P n)):=by
  conv=>lhs;rw [<-h1]
  rw [Nat.mul_add,Nat.mul_left_comm]
 apply Qon (m:=P n) (i:=s1+a*(X / P n)) (j:=s2) _ hv hlt;rw [hr,hl]at h;rw [Nat.mul_add];omega
theorem Qhr{L l r:List Nat}{n a b X Y X' s1 s2:Nat}(hL:Lim L)(hLn:L.length=n)(hr:val r=Y)(hl:val l=X%P n)(h:val L+a*val l+P n*s1=b*val r+P n*s2)(hX':X'+a*X=b*Y)(hlt:X'<P n):val L=X':=by
 have hv:=Qbg hL;rw [hLn]at hv;have h1:=Nat.mod_add_div X (P n);have h2:a*X=a*(X%P n)+P n*(a*(X / P n)):=by
  conv=>lhs;rw [<-h1]
  rw [Nat.mul_add,Nat.mul_left_comm]
 apply Qon (m:=P n) (i:=s1) (j:=s2+a*(X / P n)) _ hv hlt;rw [hr,hl]at h;rw [Nat.mul_add];omega
def RetApply(w0:World)(B X' Y':Nat)(e:Ending)(w':World):Prop:=
 ∃A1 n1 c1 A2 n2 c2,e=.returned (.tuple #[.slice A1 n1 c1,.slice A2 n2 c2])/\Own w' B (limbs X') A1 n1 c1/\Own w' B (limbs Y') A2 n2 c2/\Disj A1 A2/\Below B w0 w'
theorem Qpy(A A':Option Addr)(B nx cx n cy a b c d h X Y X' Y':Nat)(w:World)(hx:Own w B (limbs X) A nx cx)(hy:Own w B (limbs Y) A' n cy)(hdis:Disj A A')(hBw:B<=w.heap.size)(hn0:0<n)(hnn:n<=nx)(hn:nx<=268435456)
 (ha:a<4294967296)(hb:b<4294967296)(hc:c<4294967296)(hd:d<4294967296)(hh:h<=4294967296)(hX':Hid (X'+b*Y=a*X/\X'<P n))(hY':Hid (Y'+c*X=d*Y/\Y'<P n)):
 Calls prog 326 #[.agg #[.int .u64 a,.int .u64 b,.int .u64 c,.int .u64 d,.int .i64 (2*(h:Int))],.slice A nx cx,.slice A' n cy] w (RetApply w B X' Y'):=by
 obtain⟨bx,prex,postx,rfl,hBx,hmx⟩:=hx.row (by omega);obtain⟨bY,prey,posty,rfl,hBy,hmy⟩:=hy.row (by omega);have hne:bx≠bY:=hdis _ _ rfl rfl;obtain⟨ox,hox⟩:∃ox,prex.length=ox:=⟨_,rfl⟩;obtain⟨oy,hoy⟩:∃oy,prey.length=oy:=⟨_,rfl⟩;have hlx:=hx.len;have hly:=hy.len;have hcx:=hx.cap;have hcy:=hy.cap;have hms:=Mid.split hmx n;rw [hox,hoy];have HOX:=hid hox;have HOY:=hid hoy;have HLX:=hid hlx;have HLY:=hid hly;have hpar:((2*(h:Int)).tmod 2)=0:=by rw [Int.tmod_eq_emod_of_nonneg (by omega)];omega
 have hbx:=hms.lt;have hby:bY<w.heap.size:=Mid.lt hmy;clear hox hoy hlx hly hx hy hdis hmx;go_enter func326,ntmps326;have hmy':Mid w bY prey (limbs Y) posty:=hmy;have hlt:((limbs X).take n).length=n:=by rw [List.length_take];have:=HLX.out;omega
 have HLT:=hid hlt;have HVX:Hid (val ((limbs X).take n)=X%P n):=by
  show _=_;have h1:=Qao (limbs X) n (by have:=HLX.out;omega);have h2:=Qbg ((Qau X).take n);rw [hlt]at h2;rw [Qab]at h1
  conv=>rhs;rw [h1]
  rw [Nat.add_mul_mod_self_left,mod_eq_of_lt h2]
 clear hmy hlt;go_wp2_with fail
 refine(Qhq bx ox cx bY oy cy n a b c d prex prey _ posty ((limbs X).take n) (limbs Y) _ (hms.alloc _) (hmy'.alloc _) hne ((Qau X).take n) (Qau Y) HOX.out HOY.out HLT.out HLY.out.symm (by omega) hcy (by omega) ha hb hc hd).mono ?_;rintro e w2 ⟨rfl,htwo,L,R,s1,s2,t1,t2,hmL,hmR,hLn,hRn,hLL,hRL,e1,e2⟩;have hvL:val L=X':=Qi3 hLL hLn (Qab Y) HVX.out e1 hX'.out.1 hX'.out.2;have hvR:val R=Y':=Qhr hRL hRn (Qab Y) HVX.out e2 hY'.out.1 hY'.out.2;have HVL:=hid hvL;have HVR:=hid hvR;have HLn:=hid hLn;have HRn:=hid hRn;have hnL:Num w2 L (some ⟨bx,ox,none⟩) n cx:=hmL.num hLL HOX.out.symm hLn.symm (by omega);have hnR:Num w2 R (some ⟨bY,oy,none⟩) n cy:=hmR.num hRL HOY.out.symm hRn.symm hcy;clear e1 e2 hvL hvR hLn hRn;go_wp2_with fail
 refine(Qat _ _ _ L _ hnL (by omega)).mono ?_;rintro e w' ⟨rfl,rfl⟩;go_wp2_with fail
 refine(Qat _ _ _ R _ hnR (by omega)).mono ?_;rintro e w' ⟨rfl,rfl⟩;go_wp2_with fail
 go_ret2
 have hbel:Below B w w2:=((Below.refl B w).alloc hBw _).trans (htwo.below (by simp;omega) hBx hBy);rw [<-HVL.out,<-HVR.out];exact⟨_,_,_,_,_,_,rfl,(hmL.own hBx hLL HOX.out.symm HLn.out.symm (by omega:n<=cx)).trim,(hmR.own hBy hRL HOY.out.symm HRn.out.symm hcy).trim,fun x y hx hy=>by cases hx;cases hy;exact hne,hbel⟩
theorem Qrq(A A':Option Addr)(B nx cx n cy a b c d h X Y X' Y':Nat)(w:World)(hx:Own w B (limbs X) A nx cx)(hy:Own w B (limbs Y) A' n cy)(hdis:Disj A A')(hBw:B<=w.heap.size)(hn0:0<n)(hnn:n<=nx)(hn:nx<=268435456)
 (ha:a<4294967296)(hb:b<4294967296)(hc:c<4294967296)(hd:d<4294967296)(hh:h<=4294967296)(hX':Hid (X'+a*X=b*Y/\X'<P n))(hY':Hid (Y'+d*Y=c*X/\Y'<P n)):
 Calls prog 326 #[.agg #[.int .u64 a,.int .u64 b,.int .u64 c,.int .u64 d,.int .i64 (2*(h:Int)+1)],.slice A nx cx,.slice A' n cy] w (RetApply w B X' Y'):=by
 obtain⟨bx,prex,postx,rfl,hBx,hmx⟩:=hx.row (by omega);obtain⟨bY,prey,posty,rfl,hBy,hmy⟩:=hy.row (by omega);have hne:bx≠bY:=hdis _ _ rfl rfl;obtain⟨ox,hox⟩:∃ox,prex.length=ox:=⟨_,rfl⟩;obtain⟨oy,hoy⟩:∃oy,prey.length=oy:=⟨_,rfl⟩;have hlx:=hx.len;have hly:=hy.len;have hcx:=hx.cap;have hcy:=hy.cap;have hms:=Mid.split hmx n;rw [hox,hoy];have HOX:=hid hox;have HOY:=hid hoy;have HLX:=hid hlx;have HLY:=hid hly;have hpar:((2*(h:Int)+1).tmod 2)=1:=by rw [Int.tmod_eq_emod_of_nonneg (by omega)];omega
 have hbx:=hms.lt;have hby:bY<w.heap.size:=Mid.lt hmy;clear hox hoy hlx hly hx hy hdis hmx;go_enter func326,ntmps326;have hmy':Mid w bY prey (limbs Y) posty:=hmy;have hlt:((limbs X).take n).length=n:=by rw [List.length_take];have:=HLX.out;omega
 have HLT:=hid hlt;have HVX:Hid (val ((limbs X).take n)=X%P n):=by
  show _=_;have h1:=Qao (limbs X) n (by have:=HLX.out;omega);have h2:=Qbg ((Qau X).take n);rw [hlt]at h2;rw [Qab]at h1
  conv=>rhs;rw [h1]
  rw [Nat.add_mul_mod_self_left,mod_eq_of_lt h2]
 clear hmy hlt;go_wp2_with fail
 refine(Qhq bY oy cy bx ox cx n b a d c prey prex posty _ (limbs Y) ((limbs X).take n) _ (hmy'.alloc _) (hms.alloc _) (fun e=>hne e.symm) (Qau Y) ((Qau X).take n) HOY.out HOX.out HLY.out.symm HLT.out hcy (by omega) (by omega) hb ha hd hc).mono ?_;rintro e w2 ⟨rfl,htwo,L,R,s1,s2,t1,t2,hmL,hmR,hLn,hRn,hLL,hRL,e1,e2⟩;have hvL:val L=X':=Qhr hLL hLn (Qab Y) HVX.out e1 hX'.out.1 hX'.out.2;have hvR:val R=Y':=Qi3 hRL hRn (Qab Y) HVX.out e2 hY'.out.1 hY'.out.2;have HVL:=hid hvL;have HVR:=hid hvR;have HLn:=hid hLn;have HRn:=hid hRn;have hnL:Num w2 L (some ⟨bY,oy,none⟩) n cy:=hmL.num hLL HOY.out.symm hLn.symm hcy;have hnR:Num w2 R (some ⟨bx,ox,none⟩) n cx:=hmR.num hRL HOX.out.symm hRn.symm (by omega);clear e1 e2 hvL hvR hLn hRn;go_wp2_with fail
 refine(Qat _ _ _ L _ hnL (by omega)).mono ?_;rintro e w' ⟨rfl,rfl⟩;go_wp2_with fail
 refine(Qat _ _ _ R _ hnR (by omega)).mono ?_;rintro e w' ⟨rfl,rfl⟩;go_wp2_with fail
 go_ret2
 have hbel:Below B w w2:=((Below.refl B w).alloc hBw _).trans (htwo.below (by simp;omega) hBy hBx);rw [<-HVL.out,<-HVR.out];exact⟨_,_,_,_,_,_,rfl,(hmL.own hBy hLL HOY.out.symm HLn.out.symm hcy).trim,(hmR.own hBx hRL HOX.out.symm HRn.out.symm (by omega:n<=cx)).trim,fun x y hx hy=>by cases hx;cases hy;exact fun e=>hne e.symm,hbel⟩
def Five(w:World)(g a b c d n:Nat):Prop:=w.heap[g]? =some (.cells #[.int .u64 (a:Int),.int .u64 (b:Int),.int .u64 (c:Int),.int .u64 (d:Int),.int .i64 (n:Int)] 306 (0,0))
theorem Five.lt{w:World}{g a b c d n:Nat}(h:Five w g a b c d n):g<w.heap.size:=Qas h
theorem Five.far{w:World}{g a b c d n:Nat}(h:Five w g a b c d n){p:Addr}(hp:g≠p.block)(u:Value):Five (w.setCell p u) g a b c d n:=(Below.heap_setCell w p u g hp).trans h
theorem Five.cells{w:World}{g a b c d n:Nat}(h:Five w g a b c d n):w.cell? ⟨g,0,none⟩=some (.int .u64 (a:Int))/\w.cell? ⟨g,1,none⟩=some (.int .u64 (b:Int))/\w.cell? ⟨g,2,none⟩=some (.int .u64 (c:Int))/\w.cell? ⟨g,3,none⟩=some (.int .u64 (d:Int))/\w.cell? ⟨g,4,none⟩=some (.int .i64 (n:Int)):=by
 refine⟨?_,?_,?_,?_,?_⟩<;>(rw [cell_of_row w g _ _ _ _ h];rfl)
theorem Five.frozen{w:World}{g a b c d n:Nat}(h:Five w g a b c d n)(k:Nat):w.frozen? ⟨g,k,none⟩=false:=frozen_of_row w g k _ _ h
theorem Five.set{w:World}{g a b c d n a' b' c' d' n':Nat}(h:Five w g a b c d n){u0 u1 u2 u3 u4:Int}(h0:u0=(a':Int))(h1:u1=(b':Int))(h2:u2=(c':Int))(h3:u3=(d':Int))(h4:u4=(n':Int)):
 Five (((((w.setCell ⟨g,0,none⟩ (.int .u64 u0)).setCell ⟨g,1,none⟩ (.int .u64 u1)).setCell ⟨g,2,none⟩ (.int .u64 u2)).setCell ⟨g,3,none⟩ (.int .u64 u3)).setCell ⟨g,4,none⟩ (.int .i64 u4)) g a' b' c' d' n':=by
 subst h0;subst h1;subst h2;subst h3;subst h4;exact heap_setCell_same _ g 4 _ _ _ (heap_setCell_same _ g 3 _ _ _ (heap_setCell_same _ g 2 _ _ _ (heap_setCell_same _ g 1 _ _ _ (heap_setCell_same w g 0 _ _ _ h))))
def Good(X Y a b c d n:Nat):Prop:=n=0\/∃x y,Rel X Y x y a b c d n/\y<x/\x<=Y/\1<=n/\a<4294967296/\b<4294967296/\c<4294967296/\d<4294967296/\n<=4294967296
def RetLook(w0:World)(X Y:Nat)(e:Ending)(w':World):Prop:=
 ∃a b c d n:Nat,e=.returned (.agg #[.int .u64 a,.int .u64 b,.int .u64 c,.int .u64 d,.int .i64 n])/\Good X Y a b c d n/\Below w0.heap.size w0 w'
theorem Qoo(A A':Option Addr)(n c m c' j X Y:Nat)(w:World)(hx:Num w (limbs X) A n c)(hy:Num w (limbs Y) A' m c')(hnj:n=j+3)(hn:n<=268435456)(hYX:Y<=X):
 Calls prog 325 #[.slice A n c,.slice A' m c'] w (RetLook w X Y):=by
 have hlx:(limbs X).length=j+3:=by rw [<-hx.len];exact hnj
 have hmn:m<=n:=by have:=Qad hYX;have:=hx.len;have:=hy.len;omega
 obtain⟨bx,ox,xt,rfl,hbx,hxt,hxt4,hcx⟩:=hx.at_ (show j+2<n by omega);have hxt0:0<xt:=by rw [<-hxt];have:=Qeg hlx;omega
 have hytop:(limbs Y).getD (j+2) 0<=xt:=by
  rw [<-hxt,Qdi (Qau _),Qdi (Qau _),Qab,Qab];have h1:X / P (j+2)<4294967296:=by
   rw [Nat.div_lt_iff_lt_mul (Qhg _),Nat.mul_comm,<-Qa2];have:=Qap X;rwa [hlx]at this
  have h2:Y / P (j+2)<=X / P (j+2):=Nat.div_le_div_right hYX;rw [mod_eq_of_lt h1,mod_eq_of_lt (by omega)];exact h2
 have HXT:=hid hxt;have HYT:=hid hytop;have HLX:=hid hlx;have HNJ:=hid hnj;have HYX:=hid hYX;have hidx:((n:Int) - 1).toNat=j+2:=by omega
 have hidx0:0<=(n:Int) - 1:=by omega
 have hidx1:(n:Int) - 1<n:=by omega
 have hn3:3<=n:=by omega
 have hbA:Below w.heap.size w (w.alloc (.cells #[.int .u64 0,.int .u64 0,.int .u64 0,.int .u64 0,.int .i64 0] 306)):=(Below.refl _ _).alloc (le_refl _) _;clear hxt hytop hlx hnj hYX;go_enter func325,ntmps325;go_wp2_with fail
 obtain⟨s,hs32,hs1,hs2,hlead⟩:=Qok xt (w.alloc (.cells #[.int .u64 0,.int .u64 0,.int .u64 0,.int .u64 0,.int .i64 0] 306)) hxt4 hxt0;refine hlead.mono ?_;rintro e w' ⟨rfl,rfl⟩;clear hlead;obtain⟨E,hE⟩:∃E,P j*2^(32-s)=E:=⟨_,rfl⟩;have hE0:0<E:=by rw [<-hE];exact Nat.mul_pos (Qhg _) (pow_pos (by decide))
 obtain⟨H,hH⟩:∃H,X / E=H:=⟨_,rfl⟩;obtain⟨N,hN⟩:∃N,Y / E=N:=⟨_,rfl⟩;have HH:Hid (val (limbs X) / (P j*2^(32-s))=H):=by show _=_;rw [hE,Qab];exact hH
 have HN:Hid (val (limbs Y) / (P j*2^(32-s))=N):=by show _=_;rw [hE,Qab];exact hN
 have HTX:Hid ((limbs X).getD (j+2) 0*2^s<4294967296):=by show _<_;rw [HXT.out];exact hs2
 have HTY:Hid ((limbs Y).getD (j+2) 0*2^s<4294967296):=Nat.lt_of_le_of_lt (mul_le_mul_right _ HYT.out) hs2;have HXE:Hid (X=H*E+X%E/\Y=N*E+Y%E/\X%E<E/\Y%E<E/\N<=H/\H<18446744073709551616):=by
  have e1:=Nat.div_add_mod X E;have e2:=Nat.div_add_mod Y E;rw [hH,Nat.mul_comm]at e1;rw [hN,Nat.mul_comm]at e2;refine⟨e1.symm,e2.symm,mod_lt _ hE0,mod_lt _ hE0,by rw [<-hH,<-hN];exact Nat.div_le_div_right HYX.out,?_⟩;rw [<-hH,Nat.div_lt_iff_lt_mul hE0];have h1:=Qap X;rw [HLX.out]at h1;have h2:xt+1<=2^(32-s):=by
   have:xt*2^s<2^(32-s)*2^s:=by rw [<-Nat.pow_add,show 32-s+s=32 from by omega];exact hs2
   exact Nat.lt_of_mul_lt_mul_right this
  have h3:X<(xt+1)*P (j+2):=by
   have h4:=Qao (limbs X) (j+2) (by rw [HLX.out];omega);have h5:val ((limbs X).take (j+2))<P (j+2):=by
    have:=Qbg ((Qau X).take (j+2));rwa [List.length_take,Nat.min_eq_left (by rw [HLX.out];omega)]at this
   rw [Qbm (by rw [HLX.out];omega),List.drop_of_length_le (by have:=HLX.out;omega),HXT.out,Qab]at h4;simp only [val,Nat.mul_zero,Nat.add_zero]at h4;rw [Nat.add_mul,Nat.one_mul,Nat.mul_comm xt];omega
  have h6:(xt+1)*P (j+2)<=2^(32-s)*P (j+2):=mul_le_mul_right _ h2;have h7:2^(32-s)*P (j+2)=18446744073709551616*E:=by
   rw [<-hE,Qa2 (j+1),Qa2 j,show(18446744073709551616:Nat)=4294967296*4294967296 from rfl];generalize P j=pj;generalize 2^(32-s)=u;generalize 4294967296=B
   ac_rfl
  omega
 have HE:=hid hE;clear hH hN hE hcx hs1 hs2;go_wp2_with fail
 refine(Qi2 _ n c n j s H (limbs X) _ (hx.below hbA) HNJ.out (le_refl _) (by omega) hs32 HTX.out HH).mono ?_;rintro e w' ⟨rfl,q1,rfl⟩;go_wp2_with fail
 refine(Qi2 _ m c' n j s N (limbs Y) _ ((hy.below hbA).drewN q1) HNJ.out hmn (by omega) hs32 HTY.out HN).mono ?_;rintro e w' ⟨rfl,q2,rfl⟩;go_wp2_with fail
 have HYX2:=HYX.out;obtain⟨W0,hW0⟩:∃W0,(w.alloc (.cells #[.int .u64 0,.int .u64 0,.int .u64 0,.int .u64 0,.int .i64 0] 306)).drewN (q1+q2)=W0:=⟨_,rfl⟩;have hs0:W0.heap.size=w.heap.size+1:=by rw [<-hW0];simp [World.drewN]
 have h5r:Five W0 w.heap.size 0 0 0 0 0:=by rw [<-hW0];exact heap_alloc_new w _
 have hbW:Below w.heap.size w W0:=by rw [<-hW0];exact Qah hbA _
 rw [hW0];have F0:Five ((W0.alloc (.cells #[.int .u64 0,.int .u64 0,.int .u64 0,.int .u64 0,.int .i64 0] 306)).alloc (.cells #[.int .u64 1,.int .u64 0,.int .u64 0,.int .u64 1,.int .i64 0] 306)) w.heap.size 0 0 0 0 0:=
  (Below.heap_alloc _ _ _ (by simp;omega)).trans ((Below.heap_alloc _ _ _ (by omega)).trans h5r)
 have F1:Five ((W0.alloc (.cells #[.int .u64 0,.int .u64 0,.int .u64 0,.int .u64 0,.int .i64 0] 306)).alloc (.cells #[.int .u64 1,.int .u64 0,.int .u64 0,.int .u64 1,.int .i64 0] 306)) (w.heap.size+1) 0 0 0 0 0:=by
  rw [<-hs0];exact heap_alloc2_old W0 _ _
 have F2:Five ((W0.alloc (.cells #[.int .u64 0,.int .u64 0,.int .u64 0,.int .u64 0,.int .i64 0] 306)).alloc (.cells #[.int .u64 1,.int .u64 0,.int .u64 0,.int .u64 1,.int .i64 0] 306)) (w.heap.size+1+1) 1 0 0 1 0:=by
  rw [<-hs0];exact heap_alloc2_new W0 _ _
 have hbL:Below w.heap.size w ((W0.alloc (.cells #[.int .u64 0,.int .u64 0,.int .u64 0,.int .u64 0,.int .i64 0] 306)).alloc (.cells #[.int .u64 1,.int .u64 0,.int .u64 0,.int .u64 1,.int .i64 0] 306)):=
  (hbW.alloc (by omega) _).alloc (by simp;omega) _
 have HS0:=hid hs0;clear hW0 h5r hbA hs0
 go_loopw [7,8] (fun s7 s8 wr=> ∃(hi ne a b c d cnt sa sb sc sd sn:Nat),s7=.int .u64 hi/\s8=.int .u64 ne/\Five wr w.heap.size 0 0 0 0 0/\Five wr (w.heap.size+1) sa sb sc sd sn/\Five wr (w.heap.size+1+1) a b c d cnt/\Below w.heap.size w wr/\
  Hid (Rel H N hi ne a b c d cnt/\Cof a b c d cnt/\ne<=hi/\(cnt=0\/∃p,p<=Y/\((cnt%2=0/\p+b*Y=a*X)\/(cnt%2=1/\p+a*X=b*Y)))/\Good X Y sa sb sc sd sn))
  (fun _ s8 _=>(intOf s8).toNat)
 case atStart=>exact⟨H,N,1,0,0,1,0,0,0,0,0,0,rfl,rfl,F0,F1,F2,hbL,show Hid _ from⟨Rel.start _ _,Cof.start,HXE.out.2.2.2.2.1,.inl rfl,.inl rfl⟩⟩
 case round=>
  clear F0 F1 F2 hbL hbW;obtain⟨hi,ne,a,b,c1,d,cnt,sa,sb,sc,sd,sn,rfl,rfl,G0,G1,G2,hbel,HI⟩:=hrel;obtain⟨k0,k1,k2,k3,k4⟩:=G2.cells;obtain⟨l0,l1,l2,l3,l4⟩:=G1.cells;obtain⟨z0,z1,z2,z3,z4⟩:=G0.cells;have fr2:=G2.frozen;have fr1:=G1.frozen;have fr0:=G0.frozen;have a0:=fr2 0;have a1:=fr2 1;have a2:=fr2 2;have a3:=fr2 3;have a4:=fr2 4;have b0:=fr1 0;have b1:=fr1 1;have b2:=fr1 2;have b3:=fr1 3;have b4:=fr1 4;have c0':=fr0 0;have c1':=fr0 1;have c2':=fr0 2;have c3':=fr0 3;have c4':=fr0 4;clear fr2 fr1 fr0;have hcof:=HI.out.2.1.le;have hHI:=HXE.out.2.2.2.2.2;have hhi:hi<18446744073709551616:=by
   have h1:=HI.out.1.weight;have h2:1*hi<=d*hi:=mul_le_mul_right _ hcof.2.2.1;omega
  have HHI:=hid hhi;have HCOF:=hid hcof;by_cases ht1:d<=ne
  ·have hds:=Qk7 HI.out.1 HI.out.2.1 ht1 HI.out.2.2.1 hHI
   have hne:=HI.out.2.2.1;have hd1:decide ((d:Int)<=(ne:Int))=true:=(by simp;omega);have hd1':decide (d<=ne)=true:=(by simp;omega);obtain⟨bd,hbd⟩:∃bd,b+d=bd:=⟨_,rfl⟩;obtain⟨t,ht⟩:∃t,hi-ne=t:=⟨_,rfl⟩;have hw1:IntKind.u64.wrap ((b:Int)+d)=(bd:Int):=(by rw [IntKind.wrap_u64];omega);have hw2:IntKind.u64.wrap ((hi:Int) - ne)=(t:Int):=(by rw [IntKind.wrap_u64];omega);by_cases ht2:bd<=t
   ·have hd2:decide ((bd:Int)<=(t:Int))=true:=by simp;omega
    have hd2':decide (bd<=t)=true:=(by simp;omega);have hacc:=accept HXE.out.1 HXE.out.2.1 HXE.out.2.2.1 HXE.out.2.2.2.1 HI.out.1 HI.out.2.1 ht1 (by rw [hbd,ht];exact ht2) hne;have hne0:0<ne:=(by omega);obtain⟨q,hq⟩:∃q,hi / ne=q:=⟨_,rfl⟩;have hq1:1<=q:=(by rw [<-hq];exact(Nat.le_div_iff_mul_le hne0).2 (by omega));have hqi:(hi:Int) / ne=(q:Int):=(by rw [<-hq];exact(Int.natCast_ediv _ _).symm);have hqm:=Nat.div_add_mod hi ne;rw [hq]at hqm;obtain⟨ne',hne'⟩:∃ne',hi%ne=ne':=⟨_,rfl⟩;have hne'lt:ne'<ne:=(by rw [<-hne'];exact mod_lt _ hne0);rw [hne',Nat.mul_comm]at hqm;have hR':=HI.out.1.step (q:=q) (y':=ne') (by omega);have hC':=HI.out.2.1.step hq1;have hcl:=hC'.le;have hw':=hR'.weight;have hdl:b+q*d<18446744073709551616:=by
     have h2:(b+q*d)*1<=(b+q*d)*ne:=Nat.mul_le_mul_left _ hne0;omega
    obtain⟨qn,hqn⟩:∃qn,q*ne=qn:=⟨_,rfl⟩;obtain⟨qc,hqc⟩:∃qc,q*c1=qc:=⟨_,rfl⟩;obtain⟨qd,hqd⟩:∃qd,q*d=qd:=⟨_,rfl⟩;rw [hqn]at hqm;rw [hqc,hqd]at hcl;rw [hqd]at hdl;have hqh:q<=hi:=(by rw [<-hq];exact div_le_self _ _);have e0:IntKind.u64.wrap (q:Int)=(q:Int):=(by rw [IntKind.wrap_u64];omega);have e1:IntKind.u64.wrap ((q:Int)*ne)=(qn:Int):=(by rw [<-Int.natCast_mul,hqn,IntKind.wrap_u64];omega);have e2:IntKind.u64.wrap ((hi:Int) - qn)=(ne':Int):=(by rw [IntKind.wrap_u64];omega);have e3:IntKind.u64.wrap ((q:Int)*c1)=(qc:Int):=(by rw [<-Int.natCast_mul,hqc,IntKind.wrap_u64];omega);have e4:IntKind.u64.wrap ((a:Int)+qc)=((a+qc:Nat):Int):=(by rw [IntKind.wrap_u64];omega);have e5:IntKind.u64.wrap ((q:Int)*d)=(qd:Int):=(by rw [<-Int.natCast_mul,hqd,IntKind.wrap_u64];omega);have e6:IntKind.u64.wrap ((b:Int)+qd)=((b+qd:Nat):Int):=(by rw [IntKind.wrap_u64];omega);obtain⟨c2,hc2⟩:∃c2,a+qc=c2:=⟨_,rfl⟩;obtain⟨d2,hd2n⟩:∃d2,b+qd=d2:=⟨_,rfl⟩;rw [hc2]at e4;rw [hd2n]at e6;rw [hqc,hqd,hc2,hd2n]at hR' hC';have hcn:cnt<=4294967296:=(by omega);have hne0i:¬(ne:Int)=0:=(by omega);have hne0b:((ne:Int)==0)=false:=(by simp;omega);have HR':=hid hR';have HC':=hid hC';have HACC:=hid hacc;have HLT:=hid hne'lt;have HDS:=hid hds;clear hR' hC' hcl hw' hdl hqh hqn hqc hqd hqm hq hne' hc2 hd2n hacc hbd ht ht2 hhi hHI hcof hds hne'lt;go_wp2_with fail
    go_roundw
    case rel=>
     have B0:∀k,w.heap.size<=(⟨w.heap.size+1,k,none⟩:Addr).block:=fun k=>by simp
     have B1:∀k,w.heap.size<=(⟨w.heap.size+1+1,k,none⟩:Addr).block:=fun k=>by simp;omega
     have G2f:=((((G2.far (p:=⟨w.heap.size+1,0,none⟩) (by simp) (.int .u64 (a:Int))).far (p:=⟨w.heap.size+1,1,none⟩) (by simp) (.int .u64 (b:Int))).far (p:=⟨w.heap.size+1,2,none⟩) (by simp) (.int .u64 (c1:Int))).far (p:=⟨w.heap.size+1,3,none⟩) (by simp) (.int .u64 (d:Int))).far (p:=⟨w.heap.size+1,4,none⟩) (by simp) (.int .i64 (cnt:Int));have G1s:=G1.set (a':=a) (b':=b) (c':=c1) (d':=d) (n':=cnt) rfl rfl rfl rfl rfl;obtain⟨x,y,hRxy,hyx⟩:=HACC.out;have hcf:=HCOF.out;have hp:=HI.out.2.2.2.1;have hxY:cnt=0\/x<=Y:=by
      rcases hp with h|⟨p,hpY,hp⟩
      ·exact .inl h
      ·right
       rcases hRxy with⟨g0,g1,_⟩|⟨g0,g1,_⟩<;>rcases hp with⟨f0,f1⟩|⟨f0,f1⟩<;>omega
     have hyY:y<=Y:=by
      rcases hxY with h|h
      ·have hc0:=HI.out.2.1
       rcases hc0 with⟨_,rfl,rfl,rfl,rfl⟩|h'
       ·rcases hRxy with⟨_,_,g2,_⟩|⟨g0,_⟩
        ·omega
        ·omega
       ·omega
      ·omega
     have hgood:Good X Y a b c1 d cnt:=by
      rcases hxY with h|h
      ·exact .inl h
      ·rcases eq_zero_or_pos cnt with h0|h0
       ·exact .inl h0
       ·have:=HDS.out
        exact .inr ⟨x,y,hRxy,hyx,h,h0,by omega,by omega,by omega,this,by omega⟩
     refine⟨ne,ne',c1,d,c2,d2,cnt+1,a,b,c1,d,cnt,rfl,rfl,?_,?_,?_,?_,?_⟩
     ·exact(((((((((G0.far (p:=⟨w.heap.size+1,0,none⟩) (by simp) _).far (p:=⟨w.heap.size+1,1,none⟩) (by simp) _).far (p:=⟨w.heap.size+1,2,none⟩) (by simp) _).far (p:=⟨w.heap.size+1,3,none⟩) (by simp) _).far (p:=⟨w.heap.size+1,4,none⟩) (by simp) _).far (p:=⟨w.heap.size+1+1,0,none⟩) (by simp;omega) _).far (p:=⟨w.heap.size+1+1,1,none⟩) (by simp;omega) _).far (p:=⟨w.heap.size+1+1,2,none⟩) (by simp;omega) _).far (p:=⟨w.heap.size+1+1,3,none⟩) (by simp;omega) _).far (p:=⟨w.heap.size+1+1,4,none⟩) (by simp;omega) _
     ·exact((((G1s.far (p:=⟨w.heap.size+1+1,0,none⟩) (by simp) _).far (p:=⟨w.heap.size+1+1,1,none⟩) (by simp) _).far (p:=⟨w.heap.size+1+1,2,none⟩) (by simp) _).far (p:=⟨w.heap.size+1+1,3,none⟩) (by simp) _).far (p:=⟨w.heap.size+1+1,4,none⟩) (by simp) _
     ·exact G2f.set rfl rfl rfl rfl (by omega)
     ·exact(((((((((hbel.setCell (B0 0) _).setCell (B0 1) _).setCell (B0 2) _).setCell (B0 3) _).setCell (B0 4) _).setCell (B1 0) _).setCell (B1 1) _).setCell (B1 2) _).setCell (B1 3) _).setCell (B1 4) _
     ·show Hid _
      refine⟨HR'.out,HC'.out,Nat.le_of_lt HLT.out,.inr ⟨y,hyY,?_⟩,hgood⟩;rcases hRxy with⟨g0,_,g2,_⟩|⟨g0,_,g2,_⟩
      ·exact .inr ⟨by omega,g2⟩
      ·exact .inl ⟨by omega,g2⟩
    case measure=>have:=HLT.out;simp [intOf];omega
   ·have hd2:decide ((bd:Int)<=(t:Int))=false:=by simp;omega
    have hd2':decide (bd<=t)=false:=(by simp;omega);clear hbd ht hhi hHI hcof;go_wp2_with fail
    have G0':Five (((((wr.setCell ⟨w.heap.size,0,none⟩ (.int .u64 (sa:Int))).setCell ⟨w.heap.size,1,none⟩ (.int .u64 (sb:Int))).setCell ⟨w.heap.size,2,none⟩ (.int .u64 (sc:Int))).setCell ⟨w.heap.size,3,none⟩ (.int .u64 (sd:Int))).setCell ⟨w.heap.size,4,none⟩ (.int .i64 (sn:Int))) w.heap.size sa sb sc sd sn:=G0.set rfl rfl rfl rfl rfl;refine bodyPost_ret (results_cell_row (P:=prog) results325 _ _ w.heap.size 306 _ (0,0) _ rfl G0' underlying306 rfl (by kernel_rfl)) rfl ?_;exact⟨sa,sb,sc,sd,sn,rfl,HI.out.2.2.2.2,((((hbel.setCell (p:=⟨w.heap.size,0,none⟩) (le_refl _) _).setCell (p:=⟨w.heap.size,1,none⟩) (le_refl _) _).setCell (p:=⟨w.heap.size,2,none⟩) (le_refl _) _).setCell (p:=⟨w.heap.size,3,none⟩) (le_refl _) _).setCell (p:=⟨w.heap.size,4,none⟩) (le_refl _) _⟩
  ·have hd1:decide ((d:Int)<=(ne:Int))=false:=by simp;omega
   have hd1':decide (d<=ne)=false:=(by simp;omega);clear hhi hHI hcof;go_wp2_with fail
   have G0':Five (((((wr.setCell ⟨w.heap.size,0,none⟩ (.int .u64 (sa:Int))).setCell ⟨w.heap.size,1,none⟩ (.int .u64 (sb:Int))).setCell ⟨w.heap.size,2,none⟩ (.int .u64 (sc:Int))).setCell ⟨w.heap.size,3,none⟩ (.int .u64 (sd:Int))).setCell ⟨w.heap.size,4,none⟩ (.int .i64 (sn:Int))) w.heap.size sa sb sc sd sn:=G0.set rfl rfl rfl rfl rfl;refine bodyPost_ret (results_cell_row (P:=prog) results325 _ _ w.heap.size 306 _ (0,0) _ rfl G0' underlying306 rfl (by kernel_rfl)) rfl ?_;exact⟨sa,sb,sc,sd,sn,rfl,HI.out.2.2.2.2,((((hbel.setCell (p:=⟨w.heap.size,0,none⟩) (le_refl _) _).setCell (p:=⟨w.heap.size,1,none⟩) (le_refl _) _).setCell (p:=⟨w.heap.size,2,none⟩) (le_refl _) _).setCell (p:=⟨w.heap.size,3,none⟩) (le_refl _) _).setCell (p:=⟨w.heap.size,4,none⟩) (le_refl _) _⟩
end Go.Proofs.YthbhgelncdnmgaaGreatDoor
