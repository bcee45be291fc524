import Derived.Test.YthbhgelncdnmgaaGreatDoorZ45
import Derived.Test.YthbhgelncdnmgaaGreatDoorZ44
import Derived.Test.YthbhgelncdnmgaaGreatDoorZ42
set_option linter.unusedVariables false
set_option linter.unusedSimpArgs false
set_option maxRecDepth 20000
set_option maxHeartbeats 4000000
namespace Go.Proofs.YthbhgelncdnmgaaGreatDoor
open Go.Proofs.Tryz
open Lib (hid)
open Nat (le_refl zero_le lt_or_eq_of_le le_of_lt_succ not_lt_zero)
open Go.RowKit
def ints(l:List Int):List Value:=l.map fun(n:Int)=>Value.int .i64 n
def RetNumb(w0:World)(e:Ending)(w':World):Prop:=∃v q,e=.returned v/\RatQ w' v q/\Sz q 1/\Below w0.heap.size w0 w'
theorem Qva(b:Bool){a d:Nat}(ha:a<=6)(hd:d≠0)(hd3:d<=3):Sz (qv b a d) 1:=by
 unfold qv;refine Qy5 hd (Qf3 ?_) (Qf3 (by omega));unfold sgn;split<;>omega
theorem Qj8(k:Int)(w:World)(hk1: -9223372036854775808<=k)(hk2:k<=9223372036854775807):Calls prog 61 #[.int .i64 k] w (RetNumb w):=by
 obtain⟨hb1,c1⟩:=blk1 w [.bool false,.slice none 0 0,.slice none 0 0] 27;have hM:=Qe3 k 13 (w.alloc (R1 (.bool false) (.slice none 0 0) (.slice none 0 0))) hk1 hk2 (by omega) (by omega);have HM:=hid hM;have HB1:=hid hb1;have HC1:=hid c1;clear hM hb1 c1;obtain⟨y,hy⟩:∃y,k.tdiv 13=y:=⟨_,rfl⟩;have hy1: -9223372036854775808<=y/\y<=9223372036854775807:=by
  have h1:y.natAbs=k.natAbs / 13:=by rw [<-hy];exact Int.natAbs_tdiv k 13
  omega
 have HM2:=hid (fun W=>Qe3 y 3 W hy1.1 hy1.2 (by omega) (by omega));have hd13:((13:Int)==0)=false:=by decide
 obtain⟨hy1,hy2⟩:=hy1;have hwy:IntKind.i64.wrap y=y:=IntWalk.i64_in _ (by omega);go_enter func61,ntmps61;go_wp2_with fail
 refine HM.out.mono ?_;rintro e2 w2 ⟨r,hr,rfl,rfl⟩;have hwr:IntKind.i64.wrap ((r:Int) - 6)=(r:Int) - 6:=IntWalk.i64_in _ (by omega);go_wp2_with fail
 refine(HM2.out _).mono ?_;rintro e3 w3 ⟨s,hs,rfl,rfl⟩;have hws:IntKind.i64.wrap (1+(s:Int))=1+(s:Int):=IntWalk.i64_in _ (by omega);go_wp2_with fail
 refine(Qxw ((r:Int) - 6) (1+(s:Int)) _ (by omega) _ rfl (by omega) (by omega) (by omega) (by omega)).mono ?_;rintro e4 w4 ⟨v4,rfl,hq4,hb4⟩;have hsz:Sz (qv (decide ((r:Int) - 6<0) !=decide (1+(s:Int)<0)) ((r:Int) - 6).natAbs (1+(s:Int)).natAbs) 1:=Qva _ (by omega) (by omega) (by omega);generalize qv (decide ((r:Int) - 6<0) !=decide (1+(s:Int)<0)) ((r:Int) - 6).natAbs (1+(s:Int)).natAbs=q at*
 obtain⟨nb,A,n,c,B,m,d,rfl⟩:=hq4.agg;have c4:=HC1.out.below hb4 HC1.out.lt;have f0:=c4.frozen 0;have f1:=c4.frozen 1;have f2:=c4.frozen 2;obtain⟨r0,r1,r2⟩:=c4.c3;have HEND:=hid (And.intro (hq4.setL c4 (by simp) (k:=0) [.bool nb,.slice A n c,.slice B m d]) (And.intro hsz (Qbu (g:=w.heap.size) (le_refl _) [.bool nb,.slice A n c,.slice B m d] 0 (bt HB1.out hb4))));have HCS:=hid (c4.setL [.bool nb,.slice A n c,.slice B m d] rfl);clear hq4 hb4 c4 hsz;go_wp2_with fail
 refine Qaj results61 underlying27 (by kernel_rfl) rfl HCS.out rfl ?_;exact⟨_,q,rfl,HEND.out⟩
theorem sz_fq2{w:World}{neg:Bool}{ln ld:List Nat}{A A':Option Addr}{n c m c':Nat}(h1:Num w ln A n c)(h2:Num w ld A' m c')(hl:ln.length<=2)(hl':ld.length<=2):Sz (fq neg ln ld) 2:=by
 by_cases hv:vld neg ln ld=true
 ·obtain⟨e1,e2,e3,e4,e5⟩:=Qhd h1.lim h2.lim hv
  have hf:fq neg ln ld=qv neg (val ln) (dv ld):=by unfold fq;rw [if_pos hv]
  rw [hf];refine sz_qv e3 e4 (by rw [<-e1];exact hl) ?_;by_cases h1:dv ld=1
  ·rw [h1,Qax];decide
  ·rw [<-Qkp h1,<-e2];exact hl'
 ·have hf:fq neg ln ld=0:=by unfold fq;rw [if_neg hv]
  rw [hf];exact Qcm 2 (by decide)
theorem Qvb{w:World}{v:Value}{neg:Bool}{ln ld:List Nat}(h:Fld w v neg ln ld)(hl:ln.length<=2)(hl':ld.length<=2):Inp w v (fq neg ln ld) 2/\Inr w v (fq neg ln ld)/\Sz (fq neg ln ld) 2:=by
 obtain⟨A,n,c,A',m,c',rfl,h1,h2⟩:=h.out;have hs:=sz_fq2 (neg:=neg) h1 h2 hl hl';have k1:=h1.len;have k2:=h2.len;exact⟨⟨neg,A,n,c,A',m,c',ln,ld,rfl,h1,h2,by omega,by omega,rfl,hs⟩,⟨neg,A,n,c,A',m,c',ln,ld,rfl,h1,h2,by omega,by omega,rfl⟩,hs⟩
theorem PRaw.pin{w:World}{A:Option Addr}{n c:Nat}{l:List FldM}(h:PRaw w A n c l)(hl:lightL l=true):PIn w (.slice A n c) (ratL l) 2:=by
 obtain⟨xs,h1,h2,h3⟩:=h.out;have h8:=Qjw hl;refine⟨⟨A,n,c,xs,rfl,h1,by rw [h2];unfold ratL;rw [List.length_map],fun i e q hi=>?_⟩,by unfold ratL;rw [List.length_map];omega⟩;unfold ratL at hi;rw [List.getElem?_map]at hi;obtain⟨m,hm,he⟩:=Option.map_eq_some_iff.1 hi;obtain⟨z0,z1,z2,a,b⟩:=h3 i m hm;have hm2:=Qjx hl (List.mem_of_getElem? hm);simp only [Prod.mk.injEq]at he;obtain⟨rfl,rfl⟩:=he;exact⟨z0,z1,z2,a,(Qvb b hm2.1 hm2.2).1⟩
theorem PRaw.pre{w:World}{A:Option Addr}{n c:Nat}{l:List FldM}(h:PRaw w A n c l)(hl:lightL l=true):PRe w (.slice A n c) (ratL l):=by
 obtain⟨xs,h1,h2,h3⟩:=h.out;have h8:=Qjw hl;refine⟨⟨A,n,c,xs,rfl,h1,by rw [h2];unfold ratL;rw [List.length_map],fun i e q hi=>?_⟩,by unfold ratL;rw [List.length_map];omega⟩;unfold ratL at hi;rw [List.getElem?_map]at hi;obtain⟨m,hm,he⟩:=Option.map_eq_some_iff.1 hi;obtain⟨z0,z1,z2,a,b⟩:=h3 i m hm;have hm2:=Qjx hl (List.mem_of_getElem? hm);simp only [Prod.mk.injEq]at he;obtain⟨rfl,rfl⟩:=he;exact⟨z0,z1,z2,a,(Qvb b hm2.1 hm2.2).2.1⟩
theorem PRaw.pir{w:World}{A:Option Addr}{n c:Nat}{l:List FldM}(h:PRaw w A n c l)(hl:lightL l=true):PIr w (.slice A n c) (polL l) 2:=⟨_,h.pre hl,rfl,(h.pin hl).szl⟩
theorem Qvc{p q:List Mon}{L Lq:Nat}(hp:VP p)(hq:VP q)(hl:SzL q Lq)(h:SzL p L):SzL (listOf (mulC (co p) (co q))) (1+p.length*(Lq+L+1)):=Qde (fun e he=>by
 rw [<-Qh9 hp hq he,<-Qit];exact Qiu hq hl p h e he)
theorem Qvd{c d:Co}{L M:Nat}(hc:Low c)(hd:Low d)(h:SzL (listOf c) L)(h':SzL (listOf d) M):SzL (listOf (addC c d)) (L+1+(M+1)+1):=Qde (fun e he=>by
 have h1:=Qqk (Qat c) (h.mono (Nat.le_succ L)) (by omega) e he;have h2:=Qqk (Qat d) (h'.mono (Nat.le_succ M)) (by omega) e he;rw [Qa4 hc]at h1;rw [Qa4 hd]at h2;exact Qmg h1 h2 (le_refl _))
structure SzS (L:Nat) (a:SV):Prop where
 q:Sz a.q L
 p:SzL a.p L
theorem SzS.mono{L M:Nat}{a:SV}(h:SzS L a)(hm:L<=M):SzS M a:=⟨h.q.mono hm,h.p.mono hm⟩
theorem Qho(L:Nat):SzL [] L:=fun _ h=>by cases h
theorem Qlp{L:Nat}{x:Rat}(h:Sz x L):SzS L (svQ x):=⟨h,Qho L⟩
theorem Qve{L:Nat}{p:List Mon}(hL:1<=L)(h:SzL p L):SzS L (svP p):=⟨Qcm L hL,h⟩
theorem Qnl{L:Nat}(hL:1<=L)(c:Int)(i:Bool):SzS L (svC c i):=⟨Qcm L hL,Qho L⟩
theorem Qxg{L:Nat}(hL:1<=L)(s:Nat):SzS L (svS s):=⟨Qcm L hL,Qho L⟩
theorem Qo5{L:Nat}(hL:1<=L):SzS L svZ:=⟨Qcm L hL,Qho L⟩
theorem Qnm{L:Nat}(hL:1<=L)(k:Nat):SzS L (zeroK k):=by
 unfold zeroK;split
 ·exact Qnl hL _ _
 ·exact Qo5 hL
theorem Qql{L:Nat}(hL:1<=L):∀k,1<=k->k<=5->SzS L (oneK k):=kinds5 (Qlp (Qld L hL)) (Qo5 hL) (Qlp (Qld L hL)) (Qxg hL _) (Qve hL (Qdf (Qld L hL) hL))
theorem Qqm{L M:Nat}(hL:1<=L):∀k,1<=k->k<=5->∀a b,okK k a->okK k b->SzS L a->SzS M b->SzS (L+M+3) (plusK k a b):=kinds5
 (fun a b _ _ ha hb=>Qlp (Qmg ha.q hb.q (by omega)))
 (fun a b _ _ _ _=>by
  show SzS _ (if cheapB b a=true then svC b.c b.i else svC a.c a.i);split
  ·exact Qnl (by omega) _ _
  ·exact Qnl (by omega) _ _)
 (fun a b _ _ ha hb=>by
  show SzS _ (if a.q<b.q then svQ b.q else svQ a.q);split
  ·exact Qlp (hb.q.mono (by omega))
  ·exact Qlp (ha.q.mono (by omega)))
 (fun a b _ _ _ _=>Qxg (by omega) _)
 (fun a b ha hb sa sb=>Qve (by omega) (by
  have:=Qvd (Qe0 ha.2) (Qe0 hb.2) (L:=L) (M:=M) (by rw [Qbs ha.2];exact sa.p) (by rw [Qbs hb.2];exact sb.p);exact this.mono (by omega)))
theorem Qnn{L M:Nat}(hL:1<=L):∀k,1<=k->k<=5->∀a b,okK k a->okK k b->SzS L a->SzS M b->SzS (1+56*(L+M+1)) (timesK k a b):=kinds5
 (fun a b _ _ ha hb=>Qlp (Qjv ha.q hb.q (by omega)))
 (fun a b _ _ _ _=>by
  show SzS _ (if a.i=true\/b.i=true\/topCost<a.c+b.c then svC 0 true else svC (a.c+b.c) false);split
  ·exact Qnl (by omega) _ _
  ·exact Qnl (by omega) _ _)
 (fun a b _ _ ha hb=>Qlp (Qjv ha.q hb.q (by omega)))
 (fun a b _ _ _ _=>Qxg (by omega) _)
 (fun a b ha hb sa sb=>Qve (by omega) (by
  have:=Qvc ha.2 hb.2 sb.p sa.p;have h2:=Nat.mul_le_mul_right (M+L+1) (Qbf ha.2)
  exact this.mono (by have e:L+M+1=M+L+1:=by omega
                      rw [e];omega)))
structure SzW (L:Nat) (x:CW):Prop where
 own:SzS L x.1
 parts:∀a∈x.2,SzS L a
theorem SzW.mono{L M:Nat}{x:CW}(h:SzW L x)(hm:L<=M):SzW M x:=⟨h.own.mono hm,fun a ha=>(h.parts a ha).mono hm⟩
theorem Qo6{f:Nat->SV->SV->SV}{L M N:Nat}(hf:∀k,1<=k->k<=5->∀a b,okK k a->okK k b->SzS L a->SzS M b->SzS N (f k a b)):∀(ks:List Nat) (us bs:List SV),(∀k∈ks,kind5 k)->okL ks us->okL ks bs->(∀a∈us,SzS L a)->(∀b∈bs,SzS M b)->∀c∈zipK f ks us bs,SzS N c
 |k::ks,a::us,b::bs,hk,ha,hb,sa,sb,c,hc=>by
  rcases List.mem_cons.1 (show c∈f k a b::zipK f ks us bs from hc)with rfl|hc
  ·exact hf k (hk k (by simp)).1 (hk k (by simp)).2 a b ha.1 hb.1 (sa a (by simp)) (sb b (by simp))
  ·exact Qo6 hf ks us bs (fun j hj=>hk j (by simp [hj])) ha.2 hb.2 (fun x hx=>sa x (by simp [hx])) (fun x hx=>sb x (by simp [hx])) c hc
 |[],[],[],_,_,_,_,_,c,hc=>by cases hc
 |[],_::_,_,_,h,_,_,_,_,_=>h.elim
 |_::_,[],_,_,h,_,_,_,_,_=>h.elim
 |[],[],_::_,_,_,h,_,_,_,_=>h.elim
 |_::_,_::_,[],_,_,h,_,_,_,_=>h.elim
theorem Qqn{L M:Nat}(hL:1<=L):∀ {r:Rg},okRg r->∀ {x y:CW},okW r x->okW r y->SzW L x->SzW M y->SzW (L+M+3) (plusR r x y)
 | .one k,hr,_,_,hx,hy,sx,sy=>⟨Qqm hL k hr.1 hr.2 _ _ hx.1 hy.1 sx.own sy.own,fun _ h=>by cases h⟩
 | .prod ks,hr,_,_,hx,hy,sx,sy=>⟨Qo5 (by omega),Qo6 (Qqm hL) ks _ _ hr.2.2 hx.2 hy.2 sx.parts sy.parts⟩
theorem Qno{L M:Nat}(hL:1<=L):∀ {r:Rg},okRg r->∀ {x y:CW},okW r x->okW r y->SzW L x->SzW M y->SzW (1+56*(L+M+1)) (timesR r x y)
 | .one k,hr,_,_,hx,hy,sx,sy=>⟨Qnn hL k hr.1 hr.2 _ _ hx.1 hy.1 sx.own sy.own,fun _ h=>by cases h⟩
 | .prod ks,hr,_,_,hx,hy,sx,sy=>⟨Qo5 (by omega),Qo6 (Qnn hL) ks _ _ hr.2.2 hx.2 hy.2 sx.parts sy.parts⟩
theorem Qqo{L:Nat}(hL:1<=L):∀r:Rg,SzW L (zeroR r)
 | .one k=>⟨Qnm hL k,fun _ h=>by cases h⟩
 | .prod ks=>⟨Qo5 hL,fun a ha=>by
   obtain⟨k,_,rfl⟩:=List.mem_map.1 ha;exact Qnm hL k⟩
theorem Qz7{L:Nat}(hL:1<=L):∀ {r:Rg},okRg r->SzW L (oneR r)
 | .one k,hr=>⟨Qql hL k hr.1 hr.2,fun _ h=>by cases h⟩
 | .prod ks,hr=>⟨Qo5 hL,fun a ha=>by
   obtain⟨k,hk,rfl⟩:=List.mem_map.1 ha;exact Qql hL k (hr.2.2 k hk).1 (hr.2.2 k hk).2⟩
theorem Qlq{q:Rat}{L:Nat}(h:Sz q L):(dl q.den).length<=L:=by
 unfold dl;split
 ·exact zero_le _
 ·exact h.2
theorem Qvf{k L:Nat}(h1:1<=k)(h5:k<=5){a:SV}(h:okK k a)(hs:SzS L a):SzD L 56 (dOf a):=by
 refine .mk hs.q.1 (Qlq hs.q) ?_ (fun m hm=>?_) (zero_le _) (fun d hd=>by cases hd)
 ·rw [List.length_map]
  revert h;exact kinds5 (P:=fun k=>okK k a->a.p.length<=56) (fun h=>by rw [h];exact zero_le _) (fun h=>by rw [h.1];exact zero_le _) (fun h=>by rw [h.1];exact zero_le _) (fun h=>by rw [h.1];exact zero_le _) (fun h=>Qbf h.2) k h1 h5
 ·obtain⟨x,hx,rfl⟩:=List.mem_map.1 hm
  exact⟨(hs.p x hx).1,Qlq (hs.p x hx)⟩
theorem Qnp{L:Nat}:∀ {ks:List Nat} {us:List SV},(∀k∈ks,kind5 k)->okL ks us->(∀a∈us,SzS L a)->∀d∈us.map dOf,SzD L 56 d
 |[],[],_,_,_,d,hd=>by cases hd
 |k::ks,a::us,hk,h,hs,d,hd=>by
  rcases List.mem_cons.1 (show d∈dOf a::us.map dOf from hd)with rfl|hd
  ·exact Qvf (hk k (by simp)).1 (hk k (by simp)).2 h.1 (hs a (by simp))
  ·exact Qnp (fun j hj=>hk j (by simp [hj])) h.2 (fun x hx=>hs x (by simp [hx])) d hd
 |[],_::_,_,h,_,_,_=>h.elim
 |_::_,[],_,h,_,_,_=>h.elim
theorem Qeu{L:Nat}:∀ {r:Rg},okRg r->∀ {x:CW},okW r x->SzW L x->SzD L 56 (dOfW x)
 | .one k,hr,(a,l),h,hs=>by
   obtain⟨h1,h2⟩:=h;have h2':l=[]:=h2;subst h2';exact Qvf hr.1 hr.2 h1 hs.own
 | .prod ks,hr,(a,l),h,hs=>by
   obtain⟨h1,h2⟩:=h;have h1':a=svZ:=h1;subst h1';refine .mk hs.own.q.1 (Qlq hs.own.q) (zero_le _) (fun m hm=>by cases hm) ?_ (Qnp hr.2.2 h2 hs.parts);rw [List.length_map,Qkx h2];have:=hr.2.1;omega
theorem Qnq:∀ {ks:List Nat} {us:List SV},(∀k∈ks,kind5 k)->okL ks us->∀d∈us.map dOf,bits d
 |[],[],_,_,d,hd=>by cases hd
 |k::ks,a::us,hk,h,d,hd=>by
  rcases List.mem_cons.1 (show d∈dOf a::us.map dOf from hd)with rfl|hd
  ·exact Qp4 (hk k (by simp)).1 (hk k (by simp)).2 h.1
  ·exact Qnq (fun j hj=>hk j (by simp [hj])) h.2 d hd
 |[],_::_,_,h,_,_=>h.elim
 |_::_,[],_,h,_,_=>h.elim
theorem Qcb:∀ {r:Rg},okRg r->∀ {x:CW},okW r x->bits (dOfW x)
 | .one k,hr,(a,l),h=>by
   obtain⟨h1,h2⟩:=h;have h2':l=[]:=h2;subst h2';exact Qp4 hr.1 hr.2 h1
 | .prod ks,hr,(a,l),h=>by
   obtain⟨h1,h2⟩:=h;have h1':a=svZ:=h1;subst h1';exact .mk ⟨by show(0:Int)<=((0:Nat):Int);omega,by show((0:Nat):Int)<=_;omega⟩ (Qnq hr.2.2 h2)
variable {E:Rg->World->Value->Value->Value->Prop}
theorem Qhp:∀ {r:Rg},okRg r->∀d:WD,okC r (cleanW r d)/\valR r (cleanW r d)=takeR r d
 | .one k,hr,d=>⟨Qv7 hr.1 hr.2 d,by rw [Qmi,Qrk k hr.1 hr.2 d];rfl⟩
 | .prod ks,hr,d=>by
   by_cases h:chkR (.prod ks) d
   ·have e:cleanW (.prod ks) d=d:=by unfold cleanW;exact if_pos h
    rw [e];exact⟨h,(Qf5 h).symm⟩
   ·have e:cleanW (.prod ks) d=dOfW (zeroR (.prod ks)):=by unfold cleanW;exact if_neg h
    obtain⟨h1,h2⟩:=Qb8 hr (Qem hr);rw [e];refine⟨h1,?_⟩;rw [Qf5 h1]at h2;rw [h2,Qmh h]
theorem Qi2{r:Rg}(hr:okRg r)(d:WD):cleanW r d=d\/cleanW r d=dOfW (zeroR r):=by
 cases r with
 |one k=>
  by_cases h:ck k d
  ·exact .inl (Qcq h)
  ·exact .inr (Qcr h)
 |prod ks=>
  by_cases h:chkR (.prod ks) d
  ·left;unfold cleanW;exact if_pos h
  ·right;unfold cleanW;exact if_neg h
theorem Qxh{r:Rg}(hr:okRg r):SzK (dOfW (zeroR r)):=(Qeu hr (Qem hr) (Qqo (L:=1) (by decide) r)).up (by decide) (by decide)
theorem Qgg{r:Rg}(hr:okRg r){d:WD}(h:SzK d):SzK (cleanW r d):=by
 rcases Qi2 hr d with e|e<;>rw [e]
 ·exact h
 ·exact Qxh hr
theorem Qev{r:Rg}(hr:okRg r){d:WD}(h:bits d):bits (cleanW r d):=by
 rcases Qi2 hr d with e|e<;>rw [e]
 ·exact h
 ·exact Qcb hr (Qem hr)
def VD(d:WD)(w:World)(v:Value):Prop:=∃l:List Value,v=.agg l.toArray/\WRd w l d
theorem VD.below{d:WD}{w w':World}{v:Value}(h:VD d w v)(hb:Below w.heap.size w w'):VD d w' v:=by
 obtain⟨l,e,h⟩:=h;exact⟨l,e,h.keep hb⟩
def VX(S:Nat)(d:WD)(w:World)(v:Value):Prop:=∃l:List Value,v=.agg l.toArray/\WSt 0 S w l d
theorem VX.below{S:Nat}{d:WD}{w w':World}{v:Value}(h:VX S d w v)(hb:Below w.heap.size w w'):VX S d w' v:=by
 obtain⟨l,e,h⟩:=h;exact⟨l,e,h.step (Wch.of_below hb)⟩
theorem Qyb(hE:EOk E)(r:Rg)(k:Int)(l:List Int)(A:Option Addr)(n c:Nat)(w:World)(hT:Tab w)(h:IntR w l A n c)(hr:ringOf k l=some r)(d d2:WD)(x y:List Value)(hx:WRd w x d)(hy:WRd w y d2)(sd:SzK d)(sd2:SzK d2)(bd:bits d)(bd2:bits d2):Calls prog 26 #[.agg #[.int .i64 k,.slice A n c],.agg x.toArray,.agg y.toArray] w (RetX 0 w (dOfW (plusR r (takeR r d) (takeR r d2)))):=by
 obtain⟨A1,n1,c1,B1,m1,e1,P1,p1,r1,Q1,q1,s1,rfl,_⟩:=hx.shape;obtain⟨A3,n3,c3,B3,m3,e3,P3,p3,r3,Q3,q3,s3,rfl,_⟩:=hy.shape;show Calls _ _ #[_,.agg #[.bool d.neg,.slice A1 n1 c1,.slice B1 m1 e1,.int .i64 d.c,.bool d.i,.int .u64 d.s,.slice P1 p1 r1,.slice Q1 q1 s1],.agg #[.bool d2.neg,.slice A3 n3 c3,.slice B3 m3 e3,.int .i64 d2.c,.bool d2.i,.int .u64 d2.s,.slice P3 p3 r3,.slice Q3 q3 s3]] _ _;obtain⟨hb0,k0,k1,k2,k3⟩:=blk4 w [.int .i64 k,.slice A n c] [.bool d.neg,.slice A1 n1 c1,.slice B1 m1 e1,.int .i64 d.c,.bool d.i,.int .u64 d.s,.slice P1 p1 r1,.slice Q1 q1 s1] [.bool d2.neg,.slice A3 n3 c3,.slice B3 m3 e3,.int .i64 d2.c,.bool d2.i,.int .u64 d2.s,.slice P3 p3 r3,.slice Q3 q3 s3] [.bool false,.slice none 0 0,.slice none 0 0,.int .i64 0,.bool false,.int .u64 0,.slice none 0 0,.slice none 0 0] 24 32 32 32;have hok:=Qca hr;have HF:=hid (Qqe hE r k l A n c _ (h.below hb0) hr);have HT:=hid hT;have HX:=hid hx;have HY:=hid hy;have HSD:=hid (And.intro sd (And.intro sd2 (And.intro bd bd2)));have HOK:=hid hok;clear h hr hT k0 hx hy sd sd2 bd bd2 hok;go_enter func26,ntmps26;go_wp2_with fail
 refine HF.out.mono ?_;rintro e w1 ⟨l2,rfl,hl,hb1⟩;obtain⟨_,_,_,_,_,_,_,_,_,_,rfl,⟨n0,A0,rfl,E0,h0⟩,⟨n1_,A1_,rfl,E1,h1⟩,⟨n2,A2,rfl,E2,h2⟩,⟨n3_,A3_,rfl,E3,h3⟩,⟨n4,A4,rfl,E4,h4⟩,⟨n5,A5,rfl,E5,h5⟩,⟨n7,A7,rfl,E7,h7⟩,⟨n6,A6,rfl⟩,⟨n8,A8,rfl⟩,⟨n9,A9,rfl⟩,_⟩:=hl.out;replace hb0:=bt hb0 hb1;replace k1:=k1.below hb1 k1.lt;replace k2:=k2.below hb1 k2.lt;replace k3:=k3.below hb1 k3.lt;clear hb1;have HW1:=hid (And.intro k1 (And.intro k2 k3));have HB1:=hid hb0;clear k1 k2 k3 hb0;go_wp2_with fail
 obtain⟨hbl,k7⟩:=blk1 w1 [.func (.func n0) #[] A0,.func (.func n1_) #[] A1_,.func (.func n2) #[] A2,.func (.func n3_) #[] A3_,.func (.func n4) #[] A4,.func (.func n5) #[] A5,.func (.func n6) #[] A6,.func (.func n7) #[] A7,.func (.func n8) #[] A8,.func (.func n9) #[] A9] 63;have hb3:=bt HB1.out hbl;obtain⟨W5,hW5⟩:∃W,W=w1.alloc (.cells #[.func (.func n0) #[] A0,.func (.func n1_) #[] A1_,.func (.func n2) #[] A2,.func (.func n3_) #[] A3_,.func (.func n4) #[] A4,.func (.func n5) #[] A5,.func (.func n6) #[] A6,.func (.func n7) #[] A7,.func (.func n8) #[] A8,.func (.func n9) #[] A9] 63):=⟨_,rfl⟩;have HWX:=hid hW5.symm;obtain⟨g7,hg7⟩:∃g,w1.heap.size=g:=⟨_,rfl⟩;have hb5:Below w.heap.size w W5.drew:=by rw [hW5];exact hb3.drew
 have hbw:Below w1.heap.size w1 W5.drew:=by rw [hW5];exact hbl.drew
 have KX:Hid (∀wx,Below W5.drew.heap.size W5.drew wx->(wx.cell? ⟨g7,4,none⟩=some (.func (.func n4) #[] A4)/\wx.cell? ⟨g7,1,none⟩=some (.func (.func n1_) #[] A1_))/\(wx.cell? ⟨w.heap.size+1,0,none⟩=some (.bool d.neg)/\wx.cell? ⟨w.heap.size+1,1,none⟩=some (.slice A1 n1 c1)/\wx.cell? ⟨w.heap.size+1,2,none⟩=some (.slice B1 m1 e1)/\wx.cell? ⟨w.heap.size+1,3,none⟩=some (.int .i64 d.c)/\wx.cell? ⟨w.heap.size+1,4,none⟩=some (.bool d.i)/\wx.cell? ⟨w.heap.size+1,5,none⟩=some (.int .u64 d.s)/\wx.cell? ⟨w.heap.size+1,6,none⟩=some (.slice P1 p1 r1)/\wx.cell? ⟨w.heap.size+1,7,none⟩=some (.slice Q1 q1 s1))/\(wx.cell? ⟨w.heap.size+1+1,0,none⟩=some (.bool d2.neg)/\wx.cell? ⟨w.heap.size+1+1,1,none⟩=some (.slice A3 n3 c3)/\wx.cell? ⟨w.heap.size+1+1,2,none⟩=some (.slice B3 m3 e3)/\wx.cell? ⟨w.heap.size+1+1,3,none⟩=some (.int .i64 d2.c)/\wx.cell? ⟨w.heap.size+1+1,4,none⟩=some (.bool d2.i)/\wx.cell? ⟨w.heap.size+1+1,5,none⟩=some (.int .u64 d2.s)/\wx.cell? ⟨w.heap.size+1+1,6,none⟩=some (.slice P3 p3 r3)/\wx.cell? ⟨w.heap.size+1+1,7,none⟩=some (.slice Q3 q3 s3))):=hid (fun wx hB=>by
  have hbx:=bt hbw hB;have k7x:Cs W5.drew g7 [.func (.func n0) #[] A0,.func (.func n1_) #[] A1_,.func (.func n2) #[] A2,.func (.func n3_) #[] A3_,.func (.func n4) #[] A4,.func (.func n5) #[] A5,.func (.func n6) #[] A6,.func (.func n7) #[] A7,.func (.func n8) #[] A8,.func (.func n9) #[] A9] 63:=by rw [hW5,<-hg7];exact k7.drew
  exact⟨⟨(k7x.below hB k7x.lt).cell rfl,(k7x.below hB k7x.lt).cell rfl⟩,(HW1.out.1.below hbx HW1.out.1.lt).c8,(HW1.out.2.1.below hbx HW1.out.2.1.lt).c8⟩)
 unfold Ent at E1 E4;have HCL1:Hid (∀wx,Below W5.drew.heap.size W5.drew wx->Calls prog n1_ (#[.agg #[.bool d.neg,.slice A1 n1 c1,.slice B1 m1 e1,.int .i64 d.c,.bool d.i,.int .u64 d.s,.slice P1 p1 r1,.slice Q1 q1 s1]]++A1_) wx (RetX w.heap.size wx (cleanW r d))):=hid (fun wx hB=>by
  have hbx:=bt hb5 hB;exact h1 wx (bt hbw hB) _ _ ⟨_,d,w,rfl,HT.out.below hbx,HX.out,hbx,HSD.out.1,rfl⟩)
 have HCL2:Hid (∀wx,Below W5.drew.heap.size W5.drew wx->Calls prog n1_ (#[.agg #[.bool d2.neg,.slice A3 n3 c3,.slice B3 m3 e3,.int .i64 d2.c,.bool d2.i,.int .u64 d2.s,.slice P3 p3 r3,.slice Q3 q3 s3]]++A1_) wx (RetX w.heap.size wx (cleanW r d2))):=hid (fun wx hB=>by
  have hbx:=bt hb5 hB;exact h1 wx (bt hbw hB) _ _ ⟨_,d2,w,rfl,HT.out.below hbx,HY.out,hbx,HSD.out.2.1,rfl⟩)
 have HOP:Hid (∀wx,Below W5.drew.heap.size W5.drew wx->∀l1 l2:List Value,WRd wx l1 (cleanW r d)->WRd wx l2 (cleanW r d2)->Calls prog n4 (#[.agg l1.toArray,.agg l2.toArray]++A4) wx (RetX 0 wx (dOfW (plusR r (takeR r d) (takeR r d2))))):=hid (fun wx hB l1 l2 hl1 hl2=>by
  have hbx:=bt hb5 hB;obtain⟨o1,v1⟩:=Qhp HOK.out d;obtain⟨o2,v2⟩:=Qhp HOK.out d2;rw [<-v1,<-v2];have:=h4 wx (bt hbw hB) _ _ ⟨l1,l2,_,_,rfl,HT.out.below hbx,hl1,hl2,Qgg HOK.out HSD.out.1,Qgg HOK.out HSD.out.2.1,o1,o2,Qev HOK.out HSD.out.2.2.1,Qev HOK.out HSD.out.2.2.2,rfl⟩;exact this)
 have HB:=hid hb5;have K3:Hid (Cs W5.drew (w.heap.size+1+1+1) [.bool false,.slice none 0 0,.slice none 0 0,.int .i64 0,.bool false,.int .u64 0,.slice none 0 0,.slice none 0 0] 32):=hid (HW1.out.2.2.below hbw HW1.out.2.2.lt);obtain⟨S0,hS0⟩:∃S,W5.drew.heap.size=S:=⟨_,rfl⟩;have HS0:Hid (w.heap.size+1+1+1<S0/\S0=W5.drew.heap.size):=hid ⟨by rw [<-hS0];exact K3.out.lt,hS0.symm⟩;clear h0 h1 h2 h3 h4 h5 h7 hl hbl k7 hb3 hb5 hbw hS0 HW1 HB1 HF;rw [HWX.out];rw [hg7];clear hW5 hg7;refine Qag 11 (17::18::19::20::21::22::23::24::25::26::27::[]) (Sq.val (.pointer (some ⟨g7,4,none⟩))::Sq.val (.func (.func n4) #[] A4)::Sq.val (.pointer (some ⟨g7,1,none⟩))::Sq.val (.func (.func n1_) #[] A1_)::Sq.val (.agg #[.bool d.neg,.slice A1 n1 c1,.slice B1 m1 e1,.int .i64 d.c,.bool d.i,.int .u64 d.s,.slice P1 p1 r1,.slice Q1 q1 s1])::Sq.st (fun w a=>VD (cleanW r d) w a)::Sq.val (.pointer (some ⟨g7,1,none⟩))::Sq.val (.func (.func n1_) #[] A1_)::Sq.val (.agg #[.bool d2.neg,.slice A3 n3 c3,.slice B3 m3 e3,.int .i64 d2.c,.bool d2.i,.int .u64 d2.s,.slice P3 p3 r3,.slice Q3 q3 s3])::Sq.st (fun w a=>VD (cleanW r d2) w a)::Sq.st (fun w a=>VX S0 (dOfW (plusR r (takeR r d) (takeR r d2))) w a)::[]) (by kernel_rfl) (by kernel_rfl) (by kernel_rfl) (by kernel_rfl) ?step 1 (by kernel_rfl) _ rfl ?fin
 case step=>
  intro i hi oi ho f wx hB hdep K hK;simp only [frontAct,zf1,zf2,zf3,zf4,zf5]at hK⊢;obtain⟨⟨y0,y1⟩,⟨x0,x1,x2,x3,x4,x5,x6,x7⟩,⟨z0,z1,z2,z3,z4,z5,z6,z7⟩⟩:=KX.out wx hB;iterate 11 rcases lt_or_eq_of_le (le_of_lt_succ hi)with hi|rfl
  exact absurd hi (not_lt_zero _);all_goals
   obtain rfl:=Option.some.inj ho;clear ho;simp only [Act.put,zf3,zf4,zf5]at hK
  rotate_left 5
  ·simp [gOf6,Sq.holds,Region.binds]at hdep
   simp only [hdep]at hK⊢;go_simp;refine(HCL1.out wx hB).mono ?_;rintro e0 w' ⟨l,rfl,hl,hb⟩;exact hK (.agg l.toArray) w' (gs6 rfl (fun w2 h2=>VD.below ⟨l,rfl,hl.rd⟩ h2)) hb (bt hB hb) (nb6 rfl rfl)
  rotate_left 3
  ·simp [gOf6,Sq.holds,Region.binds]at hdep
   simp only [hdep]at hK⊢;go_simp;refine(HCL2.out wx hB).mono ?_;rintro e0 w' ⟨l,rfl,hl,hb⟩;exact hK (.agg l.toArray) w' (gs6 rfl (fun w2 h2=>VD.below ⟨l,rfl,hl.rd⟩ h2)) hb (bt hB hb) (nb6 rfl rfl)
  ·have e18:=dv6 (hdep ⟨1,.data⟩ (by simp) rfl) rfl
   have e22:=ds6 (hdep ⟨5,.data⟩ (by simp) rfl) rfl;have e26:=ds6 (hdep ⟨9,.data⟩ (by simp) rfl) rfl;simp only [zf6,zf7]at e18 e22 e26;generalize f 18=f18 at*;subst e18;replace e22:=(show VD (cleanW r d) wx (f 22)from e22);generalize f 22=f22 at*
   replace e26:=(show VD (cleanW r d2) wx (f 26)from e26);generalize f 26=f26 at*
   obtain⟨l1,rfl,hl1⟩:=e22;obtain⟨l2,rfl,hl2⟩:=e26;go_simp;refine(HOP.out wx hB l1 l2 hl1 hl2).mono ?_;rintro e0 w' ⟨l,rfl,hl,hb⟩;exact hK (.agg l.toArray) w' (gs6 rfl (fun w2 h2=>VX.below ⟨l,rfl,hl.mono (le_refl _) (by have:=HS0.out.2;have:=hB.size;omega)⟩ h2)) hb (bt hB hb) (nb6 rfl rfl)
  all_goals simp [gOf6,Sq.holds,Region.binds]at hdep
  all_goals try simp only [hdep]at hK⊢
  all_goals go_simp
  all_goals exact hK _ wx (gv6 rfl) (Below.refl _ _) hB (nb6 rfl rfl)
 case fin=>
  intro f wx hB hG hne;have e27:VX S0 (dOfW (plusR r (takeR r d) (takeR r d2))) wx (f 27):=ds6 (hG 10 (by decide)) rfl;clear hG hne;simp only [frontAct,zf1,zf2,zf3,zf4,zf5];generalize f 27=fL at*
  obtain⟨l9,rfl,hl⟩:=e27;obtain⟨A',n',c',B',m',e',P',p',r',Q',q',s',rfl,_⟩:=hl.rd.shape;have k3:=K3.out.below hB K3.out.lt;have HEND:=hid (bt HB.out hB);have HL:=hid hl;clear hB hl;obtain⟨g0,g1,g2,g3,g4,g5,g6,g77⟩:=k3.f8;obtain⟨b0,b1,b2,b3,b4,b5,b6,b7⟩:=k3.c8;refine wpAny_ready (rs:=[11]) (by kernel_rfl) (by simp) ?_;refine AllReady.cons rfl (fun K hK=>?_) AllReady.nil;have HQ:=hid hK;clear hK;go_simp;clear g0 g1 g2 g3 g4 g5 g6 g77 b0 b1 b2 b3 b4 b5 b6 b7;refine HQ.out _ _ ?_;clear HQ K;refine wpAny_done (by kernel_rfl) ?_ _;go_wp2_with fail
  refine Qaj (l:=[.bool (dOfW (plusR r (takeR r d) (takeR r d2))).neg,.slice A' n' c',.slice B' m' e',.int .i64 (dOfW (plusR r (takeR r d) (takeR r d2))).c,.bool (dOfW (plusR r (takeR r d) (takeR r d2))).i,.int .u64 (dOfW (plusR r (takeR r d) (takeR r d2))).s,.slice P' p' r',.slice Q' q' s']) results26 underlying32 (by kernel_rfl) rfl (Qak k3 rfl _ _ _ _ _ _ _ _) rfl ?_;exact Qd0 HL.out HS0.out.1 (zero_le _) (by omega) HEND.out k3 rfl
theorem Qvg(hE:EOk E)(r:Rg)(k:Int)(l:List Int)(A:Option Addr)(n c:Nat)(w:World)(hT:Tab w)(h:IntR w l A n c)(hr:ringOf k l=some r)(d d2:WD)(x y:List Value)(hx:WRd w x d)(hy:WRd w y d2)(sd:SzK d)(sd2:SzK d2)(bd:bits d)(bd2:bits d2):Calls prog 28 #[.agg #[.int .i64 k,.slice A n c],.agg x.toArray,.agg y.toArray] w (RetX 0 w (dOfW (timesR r (takeR r d) (takeR r d2)))):=by
 obtain⟨A1,n1,c1,B1,m1,e1,P1,p1,r1,Q1,q1,s1,rfl,_⟩:=hx.shape;obtain⟨A3,n3,c3,B3,m3,e3,P3,p3,r3,Q3,q3,s3,rfl,_⟩:=hy.shape;show Calls _ _ #[_,.agg #[.bool d.neg,.slice A1 n1 c1,.slice B1 m1 e1,.int .i64 d.c,.bool d.i,.int .u64 d.s,.slice P1 p1 r1,.slice Q1 q1 s1],.agg #[.bool d2.neg,.slice A3 n3 c3,.slice B3 m3 e3,.int .i64 d2.c,.bool d2.i,.int .u64 d2.s,.slice P3 p3 r3,.slice Q3 q3 s3]] _ _;obtain⟨hb0,k0,k1,k2,k3⟩:=blk4 w [.int .i64 k,.slice A n c] [.bool d.neg,.slice A1 n1 c1,.slice B1 m1 e1,.int .i64 d.c,.bool d.i,.int .u64 d.s,.slice P1 p1 r1,.slice Q1 q1 s1] [.bool d2.neg,.slice A3 n3 c3,.slice B3 m3 e3,.int .i64 d2.c,.bool d2.i,.int .u64 d2.s,.slice P3 p3 r3,.slice Q3 q3 s3] [.bool false,.slice none 0 0,.slice none 0 0,.int .i64 0,.bool false,.int .u64 0,.slice none 0 0,.slice none 0 0] 24 32 32 32;have hok:=Qca hr;have HF:=hid (Qqe hE r k l A n c _ (h.below hb0) hr);have HT:=hid hT;have HX:=hid hx;have HY:=hid hy;have HSD:=hid (And.intro sd (And.intro sd2 (And.intro bd bd2)));have HOK:=hid hok;clear h hr hT k0 hx hy sd sd2 bd bd2 hok;go_enter func28,ntmps28;go_wp2_with fail
 refine HF.out.mono ?_;rintro e w1 ⟨l2,rfl,hl,hb1⟩;obtain⟨_,_,_,_,_,_,_,_,_,_,rfl,⟨n0,A0,rfl,E0,h0⟩,⟨n1_,A1_,rfl,E1,h1⟩,⟨n2,A2,rfl,E2,h2⟩,⟨n3_,A3_,rfl,E3,h3⟩,⟨n4,A4,rfl,E4,h4⟩,⟨n5,A5,rfl,E5,h5⟩,⟨n7,A7,rfl,E7,h7⟩,⟨n6,A6,rfl⟩,⟨n8,A8,rfl⟩,⟨n9,A9,rfl⟩,_⟩:=hl.out;replace hb0:=bt hb0 hb1;replace k1:=k1.below hb1 k1.lt;replace k2:=k2.below hb1 k2.lt;replace k3:=k3.below hb1 k3.lt;clear hb1;have HW1:=hid (And.intro k1 (And.intro k2 k3));have HB1:=hid hb0;clear k1 k2 k3 hb0;go_wp2_with fail
 obtain⟨hbl,k7⟩:=blk1 w1 [.func (.func n0) #[] A0,.func (.func n1_) #[] A1_,.func (.func n2) #[] A2,.func (.func n3_) #[] A3_,.func (.func n4) #[] A4,.func (.func n5) #[] A5,.func (.func n6) #[] A6,.func (.func n7) #[] A7,.func (.func n8) #[] A8,.func (.func n9) #[] A9] 63;have hb3:=bt HB1.out hbl;obtain⟨W5,hW5⟩:∃W,W=w1.alloc (.cells #[.func (.func n0) #[] A0,.func (.func n1_) #[] A1_,.func (.func n2) #[] A2,.func (.func n3_) #[] A3_,.func (.func n4) #[] A4,.func (.func n5) #[] A5,.func (.func n6) #[] A6,.func (.func n7) #[] A7,.func (.func n8) #[] A8,.func (.func n9) #[] A9] 63):=⟨_,rfl⟩;have HWX:=hid hW5.symm;obtain⟨g7,hg7⟩:∃g,w1.heap.size=g:=⟨_,rfl⟩;have hb5:Below w.heap.size w W5.drew:=by rw [hW5];exact hb3.drew
 have hbw:Below w1.heap.size w1 W5.drew:=by rw [hW5];exact hbl.drew
 have KX:Hid (∀wx,Below W5.drew.heap.size W5.drew wx->(wx.cell? ⟨g7,5,none⟩=some (.func (.func n5) #[] A5)/\wx.cell? ⟨g7,1,none⟩=some (.func (.func n1_) #[] A1_))/\(wx.cell? ⟨w.heap.size+1,0,none⟩=some (.bool d.neg)/\wx.cell? ⟨w.heap.size+1,1,none⟩=some (.slice A1 n1 c1)/\wx.cell? ⟨w.heap.size+1,2,none⟩=some (.slice B1 m1 e1)/\wx.cell? ⟨w.heap.size+1,3,none⟩=some (.int .i64 d.c)/\wx.cell? ⟨w.heap.size+1,4,none⟩=some (.bool d.i)/\wx.cell? ⟨w.heap.size+1,5,none⟩=some (.int .u64 d.s)/\wx.cell? ⟨w.heap.size+1,6,none⟩=some (.slice P1 p1 r1)/\wx.cell? ⟨w.heap.size+1,7,none⟩=some (.slice Q1 q1 s1))/\(wx.cell? ⟨w.heap.size+1+1,0,none⟩=some (.bool d2.neg)/\wx.cell? ⟨w.heap.size+1+1,1,none⟩=some (.slice A3 n3 c3)/\wx.cell? ⟨w.heap.size+1+1,2,none⟩=some (.slice B3 m3 e3)/\wx.cell? ⟨w.heap.size+1+1,3,none⟩=some (.int .i64 d2.c)/\wx.cell? ⟨w.heap.size+1+1,4,none⟩=some (.bool d2.i)/\wx.cell? ⟨w.heap.size+1+1,5,none⟩=some (.int .u64 d2.s)/\wx.cell? ⟨w.heap.size+1+1,6,none⟩=some (.slice P3 p3 r3)/\wx.cell? ⟨w.heap.size+1+1,7,none⟩=some (.slice Q3 q3 s3))):=hid (fun wx hB=>by
  have hbx:=bt hbw hB;have k7x:Cs W5.drew g7 [.func (.func n0) #[] A0,.func (.func n1_) #[] A1_,.func (.func n2) #[] A2,.func (.func n3_) #[] A3_,.func (.func n4) #[] A4,.func (.func n5) #[] A5,.func (.func n6) #[] A6,.func (.func n7) #[] A7,.func (.func n8) #[] A8,.func (.func n9) #[] A9] 63:=by rw [hW5,<-hg7];exact k7.drew
  exact⟨⟨(k7x.below hB k7x.lt).cell rfl,(k7x.below hB k7x.lt).cell rfl⟩,(HW1.out.1.below hbx HW1.out.1.lt).c8,(HW1.out.2.1.below hbx HW1.out.2.1.lt).c8⟩)
 unfold Ent at E1 E5;have HCL1:Hid (∀wx,Below W5.drew.heap.size W5.drew wx->Calls prog n1_ (#[.agg #[.bool d.neg,.slice A1 n1 c1,.slice B1 m1 e1,.int .i64 d.c,.bool d.i,.int .u64 d.s,.slice P1 p1 r1,.slice Q1 q1 s1]]++A1_) wx (RetX w.heap.size wx (cleanW r d))):=hid (fun wx hB=>by
  have hbx:=bt hb5 hB;exact h1 wx (bt hbw hB) _ _ ⟨_,d,w,rfl,HT.out.below hbx,HX.out,hbx,HSD.out.1,rfl⟩)
 have HCL2:Hid (∀wx,Below W5.drew.heap.size W5.drew wx->Calls prog n1_ (#[.agg #[.bool d2.neg,.slice A3 n3 c3,.slice B3 m3 e3,.int .i64 d2.c,.bool d2.i,.int .u64 d2.s,.slice P3 p3 r3,.slice Q3 q3 s3]]++A1_) wx (RetX w.heap.size wx (cleanW r d2))):=hid (fun wx hB=>by
  have hbx:=bt hb5 hB;exact h1 wx (bt hbw hB) _ _ ⟨_,d2,w,rfl,HT.out.below hbx,HY.out,hbx,HSD.out.2.1,rfl⟩)
 have HOP:Hid (∀wx,Below W5.drew.heap.size W5.drew wx->∀l1 l2:List Value,WRd wx l1 (cleanW r d)->WRd wx l2 (cleanW r d2)->Calls prog n5 (#[.agg l1.toArray,.agg l2.toArray]++A5) wx (RetX 0 wx (dOfW (timesR r (takeR r d) (takeR r d2))))):=hid (fun wx hB l1 l2 hl1 hl2=>by
  have hbx:=bt hb5 hB;obtain⟨o1,v1⟩:=Qhp HOK.out d;obtain⟨o2,v2⟩:=Qhp HOK.out d2;rw [<-v1,<-v2];have:=h5 wx (bt hbw hB) _ _ ⟨l1,l2,_,_,rfl,HT.out.below hbx,hl1,hl2,Qgg HOK.out HSD.out.1,Qgg HOK.out HSD.out.2.1,o1,o2,Qev HOK.out HSD.out.2.2.1,Qev HOK.out HSD.out.2.2.2,rfl⟩;exact this)
 have HB:=hid hb5;have K3:Hid (Cs W5.drew (w.heap.size+1+1+1) [.bool false,.slice none 0 0,.slice none 0 0,.int .i64 0,.bool false,.int .u64 0,.slice none 0 0,.slice none 0 0] 32):=hid (HW1.out.2.2.below hbw HW1.out.2.2.lt);obtain⟨S0,hS0⟩:∃S,W5.drew.heap.size=S:=⟨_,rfl⟩;have HS0:Hid (w.heap.size+1+1+1<S0/\S0=W5.drew.heap.size):=hid ⟨by rw [<-hS0];exact K3.out.lt,hS0.symm⟩;clear h0 h1 h2 h3 h4 h5 h7 hl hbl k7 hb3 hb5 hbw hS0 HW1 HB1 HF;rw [HWX.out];rw [hg7];clear hW5 hg7;refine Qag 11 (17::18::19::20::21::22::23::24::25::26::27::[]) (Sq.val (.pointer (some ⟨g7,5,none⟩))::Sq.val (.func (.func n5) #[] A5)::Sq.val (.pointer (some ⟨g7,1,none⟩))::Sq.val (.func (.func n1_) #[] A1_)::Sq.val (.agg #[.bool d.neg,.slice A1 n1 c1,.slice B1 m1 e1,.int .i64 d.c,.bool d.i,.int .u64 d.s,.slice P1 p1 r1,.slice Q1 q1 s1])::Sq.st (fun w a=>VD (cleanW r d) w a)::Sq.val (.pointer (some ⟨g7,1,none⟩))::Sq.val (.func (.func n1_) #[] A1_)::Sq.val (.agg #[.bool d2.neg,.slice A3 n3 c3,.slice B3 m3 e3,.int .i64 d2.c,.bool d2.i,.int .u64 d2.s,.slice P3 p3 r3,.slice Q3 q3 s3])::Sq.st (fun w a=>VD (cleanW r d2) w a)::Sq.st (fun w a=>VX S0 (dOfW (timesR r (takeR r d) (takeR r d2))) w a)::[]) (by kernel_rfl) (by kernel_rfl) (by kernel_rfl) (by kernel_rfl) ?step 1 (by kernel_rfl) _ rfl ?fin
 case step=>
  intro i hi oi ho f wx hB hdep K hK;simp only [frontAct,zf1,zf2,zf3,zf4,zf5]at hK⊢;obtain⟨⟨y0,y1⟩,⟨x0,x1,x2,x3,x4,x5,x6,x7⟩,⟨z0,z1,z2,z3,z4,z5,z6,z7⟩⟩:=KX.out wx hB;iterate 11 rcases lt_or_eq_of_le (le_of_lt_succ hi)with hi|rfl
  exact absurd hi (not_lt_zero _);all_goals
   obtain rfl:=Option.some.inj ho;clear ho;simp only [Act.put,zf3,zf4,zf5]at hK
  rotate_left 5
  ·simp [gOf6,Sq.holds,Region.binds]at hdep
   simp only [hdep]at hK⊢;go_simp;refine(HCL1.out wx hB).mono ?_;rintro e0 w' ⟨l,rfl,hl,hb⟩;exact hK (.agg l.toArray) w' (gs6 rfl (fun w2 h2=>VD.below ⟨l,rfl,hl.rd⟩ h2)) hb (bt hB hb) (nb6 rfl rfl)
  rotate_left 3
  ·simp [gOf6,Sq.holds,Region.binds]at hdep
   simp only [hdep]at hK⊢;go_simp;refine(HCL2.out wx hB).mono ?_;rintro e0 w' ⟨l,rfl,hl,hb⟩;exact hK (.agg l.toArray) w' (gs6 rfl (fun w2 h2=>VD.below ⟨l,rfl,hl.rd⟩ h2)) hb (bt hB hb) (nb6 rfl rfl)
  ·have e18:=dv6 (hdep ⟨1,.data⟩ (by simp) rfl) rfl
   have e22:=ds6 (hdep ⟨5,.data⟩ (by simp) rfl) rfl;have e26:=ds6 (hdep ⟨9,.data⟩ (by simp) rfl) rfl;simp only [zf6,zf7]at e18 e22 e26;generalize f 18=f18 at*;subst e18;replace e22:=(show VD (cleanW r d) wx (f 22)from e22);generalize f 22=f22 at*
   replace e26:=(show VD (cleanW r d2) wx (f 26)from e26);generalize f 26=f26 at*
   obtain⟨l1,rfl,hl1⟩:=e22;obtain⟨l2,rfl,hl2⟩:=e26;go_simp;refine(HOP.out wx hB l1 l2 hl1 hl2).mono ?_;rintro e0 w' ⟨l,rfl,hl,hb⟩;exact hK (.agg l.toArray) w' (gs6 rfl (fun w2 h2=>VX.below ⟨l,rfl,hl.mono (le_refl _) (by have:=HS0.out.2;have:=hB.size;omega)⟩ h2)) hb (bt hB hb) (nb6 rfl rfl)
  all_goals simp [gOf6,Sq.holds,Region.binds]at hdep
  all_goals try simp only [hdep]at hK⊢
  all_goals go_simp
  all_goals exact hK _ wx (gv6 rfl) (Below.refl _ _) hB (nb6 rfl rfl)
 case fin=>
  intro f wx hB hG hne;have e27:VX S0 (dOfW (timesR r (takeR r d) (takeR r d2))) wx (f 27):=ds6 (hG 10 (by decide)) rfl;clear hG hne;simp only [frontAct,zf1,zf2,zf3,zf4,zf5];generalize f 27=fL at*
  obtain⟨l9,rfl,hl⟩:=e27;obtain⟨A',n',c',B',m',e',P',p',r',Q',q',s',rfl,_⟩:=hl.rd.shape;have k3:=K3.out.below hB K3.out.lt;have HEND:=hid (bt HB.out hB);have HL:=hid hl;clear hB hl;obtain⟨g0,g1,g2,g3,g4,g5,g6,g77⟩:=k3.f8;obtain⟨b0,b1,b2,b3,b4,b5,b6,b7⟩:=k3.c8;refine wpAny_ready (rs:=[11]) (by kernel_rfl) (by simp) ?_;refine AllReady.cons rfl (fun K hK=>?_) AllReady.nil;have HQ:=hid hK;clear hK;go_simp;clear g0 g1 g2 g3 g4 g5 g6 g77 b0 b1 b2 b3 b4 b5 b6 b7;refine HQ.out _ _ ?_;clear HQ K;refine wpAny_done (by kernel_rfl) ?_ _;go_wp2_with fail
  refine Qaj (l:=[.bool (dOfW (timesR r (takeR r d) (takeR r d2))).neg,.slice A' n' c',.slice B' m' e',.int .i64 (dOfW (timesR r (takeR r d) (takeR r d2))).c,.bool (dOfW (timesR r (takeR r d) (takeR r d2))).i,.int .u64 (dOfW (timesR r (takeR r d) (takeR r d2))).s,.slice P' p' r',.slice Q' q' s']) results28 underlying32 (by kernel_rfl) rfl (Qak k3 rfl _ _ _ _ _ _ _ _) rfl ?_;exact Qd0 HL.out HS0.out.1 (zero_le _) (by omega) HEND.out k3 rfl
def EqT(d:WD):Prop:=∀(x y:List Value) (w:World),WRd w x d->WRd w y d->Calls prog 19 #[.agg x.toArray,.agg y.toArray] w (RetV w (.bool true))
abbrev canD(q:Rat)(p:List Mon)(c:Int)(i:Bool)(s:Int)(parts:List WD):WD:=.mk (decide (q.num<0)) (limbs q.num.natAbs) (dl q.den) c i s (p.map fldOf) parts
theorem Qi3(q:Rat)(p:List Mon)(c:Int)(i:Bool)(s:Int)(parts:List WD)(sq:Sz q 100000000)(sp:SzL p 100000000)(hp:p.length<=1000000)(hn:parts.length<=3)(IH:∀(j:Nat) (d:WD),parts[j]? =some d->EqT d):EqT (canD q p c i s parts):=by
 intro x y w hx hy;obtain⟨A1,n1,c1,B1,m1,e1,P1,p1,r1,Q1,q1,s1,rfl,a1,b1,d1,f1⟩:=hx.shape;obtain⟨A2,n2,c2,B2,m2,e2,P2,p2,r2,Q2,q2,s2,rfl,a2,b2,d2,f2⟩:=hy.shape;show Calls _ _ #[.agg #[.bool (decide (q.num<0)),.slice A1 n1 c1,.slice B1 m1 e1,.int .i64 c,.bool i,.int .u64 s,.slice P1 p1 r1,.slice Q1 q1 s1],.agg #[.bool (decide (q.num<0)),.slice A2 n2 c2,.slice B2 m2 e2,.int .i64 c,.bool i,.int .u64 s,.slice P2 p2 r2,.slice Q2 q2 s2]] _ _;obtain⟨hb0,k1,k2⟩:=blk2 w [.bool (decide (q.num<0)),.slice A1 n1 c1,.slice B1 m1 e1,.int .i64 c,.bool i,.int .u64 s,.slice P1 p1 r1,.slice Q1 q1 s1] [.bool (decide (q.num<0)),.slice A2 n2 c2,.slice B2 m2 e2,.int .i64 c,.bool i,.int .u64 s,.slice P2 p2 r2,.slice Q2 q2 s2] 32 32;have hl1:q1=parts.length:=f1.len;have hl2:q2=parts.length:=f2.len;have hS:=fun W (hb:Below w.heap.size w W)=>Qoj (.agg #[.bool (decide (q.num<0)),.slice A1 n1 c1,.slice B1 m1 e1]) (.agg #[.bool (decide (q.num<0)),.slice A2 n2 c2,.slice B2 m2 e2]) q q W 100000000 (Fld.ratq ⟨A1,n1,c1,B1,m1,e1,rfl,a1.below hb,b1.below hb⟩) (Fld.ratq ⟨A2,n2,c2,B2,m2,e2,rfl,a2.below hb,b2.below hb⟩) sq (by decide) rfl
 have hP:=fun W (hb:Below w.heap.size w W)=>Qz1 (.slice P1 p1 r1) (.slice P2 p2 r2) p p W (PRaw.pol (d1.below hb)) (PRaw.pol (d2.below hb)) sp sp hp hp
 rw [decide_eq_true (rfl:p=p)]at hP;have HS:=hid hS;have HP:=hid hP;have HF1:=hid f1;have HF2:=hid f2;have HI:=hid IH;have HN:=hid hn;have e1:(c !=c)=false:=by simp
 have e2:(i !=i)=false:=by simp
 have e3:(s !=s)=false:=by simp
 have e4:((q1:Int) !=(q2:Int))=false:=by rw [hl1,hl2];simp
 have HL:=hid (And.intro hl1 hl2);clear hx hy a1 b1 d1 f1 a2 b2 d2 f2 hS hP IH hn hl1 hl2 sq sp hp;generalize decide (q.num<0)=nb at*
 go_enter func19,ntmps19;go_wp2_with fail
 refine(HS.out _ hb0).mono ?_;rintro e w1 ⟨rfl,hb1⟩;replace hb0:=bt hb0 hb1;replace k1:=k1.below hb1 k1.lt;replace k2:=k2.below hb1 k2.lt;clear hb1;obtain⟨x0,x1,x2,x3,x4,x5,x6,x7⟩:=k1.c8;obtain⟨z0,z1,z2,z3,z4,z5,z6,z7⟩:=k2.c8;go_wp2_with fail
 refine(HP.out _ hb0).mono ?_;rintro e w2 ⟨rfl,hb1⟩;replace hb0:=bt hb0 hb1;replace k1:=k1.below hb1 k1.lt;replace k2:=k2.below hb1 k2.lt;clear hb1 x0 x1 x2 x3 x4 x5 x6 x7 z0 z1 z2 z3 z4 z5 z6 z7;obtain⟨x0,x1,x2,x3,x4,x5,x6,x7⟩:=k1.c8;obtain⟨z0,z1,z2,z3,z4,z5,z6,z7⟩:=k2.c8;go_wp2_with fail
 clear x0 x1 x2 x3 x4 x5 x6 x7 z0 z1 z2 z3 z4 z5 z6 z7;have HK1:=hid k1;have HK2:=hid k2;have HB0:=hid hb0;clear k1 k2 hb0
 go_loopw [5] (fun j wr=> ∃k:Nat,k<=q1/\j=.int .i64 (k:Int)/\Below w2.heap.size w2 wr) (fun j _=>(q1-intOf j).toNat)
 case atStart=>exact⟨0,zero_le _,rfl,Below.refl _ _⟩
 case round=>
  obtain⟨k,hk,rfl,hb⟩:=hrel;have hb2:=bt HB0.out hb;obtain⟨x0,x1,x2,x3,x4,x5,x6,x7⟩:=(HK1.out.below hb HK1.out.lt).c8;by_cases hkn:k<q1
  ·have hlt:(k:Int)<(q1:Int):=by omega
   have hltq:(k:Int)<(q2:Int):=(by have:=HL.out;omega);have h0i:¬(k:Int)<0:=(by omega);have hw1:IntKind.i64.wrap ((k:Int)+1)=(k:Int)+1:=IntWalk.i64_in _ (by have:=HL.out;have:=HN.out;omega);obtain⟨dj,hdj⟩:∃m,parts[k]? =some m:=⟨parts[k]'(by have:=HL.out;omega),List.getElem?_eq_getElem _⟩;obtain⟨v0,v1,A3,n3,c3,B3,m3,e3,P3,p3,r3,Q3,q3,s3,rfl,hvb,hwv,hatv⟩:=HF1.out.at8 hdj;obtain⟨u0,u1,A4,n4,c4,B4,m4,e4,P4,p4,r4,Q4,q4,s4,rfl,hub,hwu,hatu⟩:=HF2.out.at8 hdj;have HB:=hid hb2.drew;have KX:Hid (∀wx,Below wr.drew.heap.size wr.drew wx->(wx.cell? ⟨w.heap.size,7,none⟩=some (.slice (some ⟨v0,v1,none⟩) q1 s1)/\wx.cell? ⟨w.heap.size+1,7,none⟩=some (.slice (some ⟨u0,u1,none⟩) q2 s2))/\At8 wx v0 (v1+k*8) (.bool dj.neg) (.slice A3 n3 c3) (.slice B3 m3 e3) (.int .i64 dj.c) (.bool dj.i) (.int .u64 dj.s) (.slice P3 p3 r3) (.slice Q3 q3 s3)/\At8 wx u0 (u1+k*8) (.bool dj.neg) (.slice A4 n4 c4) (.slice B4 m4 e4) (.int .i64 dj.c) (.bool dj.i) (.int .u64 dj.s) (.slice P4 p4 r4) (.slice Q4 q4 s4)):=hid (fun wx hB=>by
    have hbx:=bt HB.out hB;have hb3:=bt hb.drew hB;exact⟨⟨(HK1.out.below hb3 HK1.out.lt).cell rfl,(HK2.out.below hb3 HK2.out.lt).cell rfl⟩,hatv.below hbx hvb,hatu.below hbx hub⟩)
   have HCALL:Hid (∀wx,Below wr.drew.heap.size wr.drew wx->Calls prog 19 #[.agg #[.bool dj.neg,.slice A3 n3 c3,.slice B3 m3 e3,.int .i64 dj.c,.bool dj.i,.int .u64 dj.s,.slice P3 p3 r3,.slice Q3 q3 s3],.agg #[.bool dj.neg,.slice A4 n4 c4,.slice B4 m4 e4,.int .i64 dj.c,.bool dj.i,.int .u64 dj.s,.slice P4 p4 r4,.slice Q4 q4 s4]] wx (RetV wx (.bool true))):=hid (fun wx hB=>by
    have hbx:=bt HB.out hB;exact HI.out k dj hdj _ _ wx (hwv.keep hbx) (hwu.keep hbx))
   have HK:=hid hkn;have HBR:=hid hb;clear hb hb2 hvb hub hwv hwu hatv hatu hdj hkn;go_wp2_with fail
   clear x0 x1 x2 x3 x4 x5 x6 x7;have HB:=hid HBR.out.drew;refine Qag 12 (57::58::59::60::61::62::63::64::65::66::67::68::[]) (Sq.val (.pointer (some ⟨w.heap.size,7,none⟩))::Sq.val (.slice (some ⟨v0,v1,none⟩) q1 s1)::Sq.val (.int .i64 (k:Int))::Sq.val (.pointer (some ⟨v0,v1+k*8,none⟩))::Sq.val (.agg #[.bool dj.neg,.slice A3 n3 c3,.slice B3 m3 e3,.int .i64 dj.c,.bool dj.i,.int .u64 dj.s,.slice P3 p3 r3,.slice Q3 q3 s3])::Sq.val (.pointer (some ⟨w.heap.size+1,7,none⟩))::Sq.val (.slice (some ⟨u0,u1,none⟩) q2 s2)::Sq.val (.int .i64 (k:Int))::Sq.val (.pointer (some ⟨u0,u1+k*8,none⟩))::Sq.val (.agg #[.bool dj.neg,.slice A4 n4 c4,.slice B4 m4 e4,.int .i64 dj.c,.bool dj.i,.int .u64 dj.s,.slice P4 p4 r4,.slice Q4 q4 s4])::Sq.val (.bool true)::Sq.val (.bool false)::[]) (by kernel_rfl) (by kernel_rfl) (by kernel_rfl) (by kernel_rfl) ?step 0 (by kernel_rfl) _ rfl ?fin
   case step=>
    intro i hi oi ho f wx hB hdep K hK;simp only [frontAct,zf1,zf2,zf3,zf4,zf5]at hK⊢;obtain⟨⟨y0,y1⟩,⟨x0,x1,x2,x3,x4,x5,x6,x7⟩,⟨z0,z1,z2,z3,z4,z5,z6,z7⟩⟩:=KX.out wx hB;iterate 12 rcases lt_or_eq_of_le (le_of_lt_succ hi)with hi|rfl
    exact absurd hi (not_lt_zero _);all_goals
     obtain rfl:=Option.some.inj ho;clear ho;simp only [Act.put,zf3,zf4,zf5]at hK
    rotate_left 10
    ·simp [gOf6,Sq.holds,Region.binds]at hdep
     simp only [hdep]at hK⊢;go_simp;refine(HCALL.out wx hB).mono ?_;rintro e0 w' ⟨rfl,hb⟩;exact hK (.bool true) w' (gv6 rfl) hb (bt hB hb) (nb6 rfl rfl)
    rotate_left
    all_goals simp [gOf6,Sq.holds,Region.binds]at hdep
    all_goals try simp only [hdep]at hK⊢
    all_goals go_simp
    all_goals exact hK _ wx (gv6 rfl) (Below.refl _ _) hB (nb6 rfl rfl)
   case fin=>
    intro f wx hB hG hne;have eL:=dv6 (a:=f 68) (hG 11 (by decide)) rfl;clear hG hne;simp only [frontAct,zf1,zf2,zf3,zf4,zf5];generalize f 68=fL at*;subst eL;have HEND:=hid (bt HB.out hB);clear hB;refine wpAny_done (by kernel_rfl) ?_ _;go_wp2_with fail
    go_roundw
    case rel=>exact⟨k+1,HK.out,congrArg (Value.int _) (by omega),HEND.out⟩
    case measure=>simp [intOf];have:=HK.out;omega
  ·have hlt:¬(k:Int)<(q1:Int):=by omega
   clear hb;go_wp2_with fail
   go_ret;exact⟨rfl,hb2⟩
theorem Qxi(a:SV)(sq:Sz a.q 100000000)(sp:SzL a.p 100000000)(hp:a.p.length<=1000000):EqT (dOf a):=Qi3 a.q a.p a.c a.i a.s [] sq sp hp (by decide) (fun j d h=>by simp at h)
theorem Qyc:∀ {ks:List Nat} {us:List SV} {j k:Nat} {a:SV},okL ks us->ks[j]? =some k->us[j]? =some a->okK k a
 |[],_,_,_,_,_,h,_=>by simp at h
 |_::_,[],_,_,_,h,_,_=>h.elim
 |k'::ks,a'::us,0,k,a,h,hk,ha=>by
  obtain rfl:=Option.some.inj (show some k'=some k from hk);obtain rfl:=Option.some.inj (show some a'=some a from ha);exact h.1
 |k'::ks,a'::us,j+1,k,a,h,hk,ha=>by
  rw [List.getElem?_cons_succ]at hk ha;exact Qyc h.2 hk ha
theorem Qxj{r:Rg}(hr:okRg r){z:CW}(hz:okW r z){L:Nat}(hs:SzW L z)(hL:L<=100000000):EqT (dOfW z):=by
 have one:∀k,kind5 k->∀a,okK k a->SzS L a->EqT (dOf a):=fun k hk a ha sa=>Qxi a (sa.q.mono hL) (fun m hm=>(sa.p m hm).mono hL) (by
  revert ha;exact kinds5 (P:=fun k=>okK k a->a.p.length<=1000000) (fun h=>by rw [h];exact zero_le _) (fun h=>by rw [h.1];exact zero_le _) (fun h=>by rw [h.1];exact zero_le _) (fun h=>by rw [h.1];exact zero_le _) (fun h=>by have:=Qbf h.2;omega) k hk.1 hk.2)
 cases r with
 |one k=>
  obtain⟨a,l⟩:=z;obtain⟨h1,h2⟩:=hz;have h2':l=[]:=h2;subst h2';exact one k hr a h1 hs.own
 |prod ks=>
  obtain⟨a,us⟩:=z;obtain⟨h1,h2⟩:=hz;have h1':a=svZ:=h1;subst h1';have hlen:us.length=ks.length:=Qkx h2;refine Qi3 svZ.q svZ.p svZ.c svZ.i svZ.s (us.map dOf) (hs.own.q.mono hL) (fun m hm=>by cases hm) (zero_le _) (by rw [List.length_map,hlen];exact hr.2.1) (fun j d hj=>?_);rw [List.getElem?_map]at hj;obtain⟨u,hu,rfl⟩:=Option.map_eq_some_iff.1 hj;have hlt:=(List.getElem?_eq_some_iff.1 hu).1;obtain⟨k,hk⟩:∃k,ks[j]? =some k:=⟨ks[j]'(by omega),List.getElem?_eq_getElem _⟩;exact one k (hr.2.2 k (List.mem_of_getElem? hk)) u (Qyc h2 hk hu) (hs.parts u (List.mem_of_getElem? hu))
end Go.Proofs.YthbhgelncdnmgaaGreatDoor
